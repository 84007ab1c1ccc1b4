import PyProof.Rows.All
import Wide.All
import OpenK.AllK
import Wide.FinOn
import Lean
import PyProof.EqAt
import PyProof.EqKinds
import PyProof.TupleCall
import PySem.Challenge.RW_keyrise_k13_fraction_rows
set_option Elab.async false
set_option linter.all false
set_option maxRecDepth 100000
/-! THE HAND LAYER, for ints, bools, texts, own classes, LISTS and tuples (index, slices, in, append, pop ..), calls, loops. Paste it whole ahead of your own text; what your proof does not reach may be deleted. -/
namespace L2
open PySem PySem.Spec PyProof.Rows

/-- a key: an int or a str -/
abbrev Key := Sum Int Str
def keyIs : Key → Value → Bool
  | .inl k, v => Value.isInt k v
  | .inr x, v => Value.isStrOf x v
def keyH (w : World) : Key → Int
  | .inl k => hashInt k
  | .inr x => hashStr w x
theorem keyIs_shape : ∀ {k : Key} {v : Value}, keyIs k v = true → (∃ i t, k = Sum.inl i ∧ v = Value.int i t) ∨ (∃ x t, k = Sum.inr x ∧ v = Value.str x t)
  | .inl i, v, h => by
    obtain ⟨t, e⟩ := Value.isInt_shape (k := i) (v := v) h
    exact .inl ⟨i, t, rfl, e⟩
  | .inr x, v, h => by
    obtain ⟨t, e⟩ := Value.isStrOf_shape (x := x) (v := v) h
    exact .inr ⟨x, t, rfl, e⟩
theorem key_ll (a b : Int) : decide ((Sum.inl a : Key) = Sum.inl b) = (a == b) := by
  by_cases e : a = b
  · subst e; simp
  · have h : ¬ (Sum.inl a : Key) = Sum.inl b := fun q => e (Sum.inl.inj q)
    rw [decide_eq_false h]
    exact (beq_eq_false_iff_ne.mpr e).symm
theorem key_rr (a b : Str) : decide ((Sum.inr a : Key) = Sum.inr b) = decide (a = b) := by
  by_cases e : a = b
  · subst e; simp
  · have h : ¬ (Sum.inr a : Key) = Sum.inr b := fun q => e (Sum.inr.inj q)
    rw [decide_eq_false h, decide_eq_false e]
theorem key_lr (a : Int) (b : Str) : decide ((Sum.inl a : Key) = Sum.inr b) = false := decide_eq_false (fun q => nomatch q)
theorem key_rl (a : Str) (b : Int) : decide ((Sum.inr a : Key) = Sum.inl b) = false := decide_eq_false (fun q => nomatch q)

def mixKind (prog : Program) (w : World) : PySem.KeyKind prog w Key where
  is := keyIs
  hash := keyH w
  inj := fun v a b ha hb => by
    rcases keyIs_shape ha with ⟨i, t, rfl, rfl⟩ | ⟨x, t, rfl, rfl⟩
    · rcases keyIs_shape hb with ⟨j, u, rfl, e⟩ | ⟨y, u, rfl, e⟩
      · injection e with e1 _; rw [e1]
      · exact nomatch e
    · rcases keyIs_shape hb with ⟨j, u, rfl, e⟩ | ⟨y, u, rfl, e⟩
      · exact nomatch e
      · injection e with e1 _; rw [e1]
  byValue := fun k v h => by
    rcases keyIs_shape h with ⟨i, t, rfl, rfl⟩ | ⟨x, t, rfl, rfl⟩ <;> rfl
  pyHash := fun hv h => by
    rcases keyIs_shape hv with ⟨i, t, rfl, rfl⟩ | ⟨x, t, rfl, rfl⟩
    · exact wpAny_pyHash_int h
    · exact wpAny_pyHash_str h
  eqBool := fun hu hv h => by
    rcases keyIs_shape hu with ⟨i, t, rfl, rfl⟩ | ⟨x, t, rfl, rfl⟩
    · rcases keyIs_shape hv with ⟨j, u, rfl, rfl⟩ | ⟨y, u, rfl, rfl⟩
      · rw [key_ll] at h; exact wpAny_eqBool_int h
      · rw [key_lr] at h; exact SeqAt.EqAt.int_str i t y u _ _ _ _ h
    · rcases keyIs_shape hv with ⟨j, u, rfl, rfl⟩ | ⟨y, u, rfl, rfl⟩
      · rw [key_rl] at h; exact SeqAt.EqAt.str_int x t j u _ _ _ _ h
      · rw [key_rr] at h; exact wpAny_eqBool_str h
  «strs» := fun k x t v h => by
    rcases keyIs_shape h with ⟨i, u, rfl, e⟩ | ⟨y, u, rfl, e⟩
    · exact nomatch e
    · injection e with e1 _
      subst e1
      cases v <;> rfl

end L2

namespace L2
open PySem PySem.Spec PyProof.Rows

/-- a value, without the heap -/
inductive V where
  | non | bl (b : Bool) | int (i : Int) | str (x : Str) | byt (b : Array UInt8) | flt (b : UInt64) | ref (a : Addr) | ty (n : String)
  deriving DecidableEq

def RelV : V → Value → Prop
  | .non, u => u = Value.none
  | .bl b, u => u = Value.bool b
  | .int i, u => ∃ t, u = Value.int i t
  | .str x, u => ∃ t, u = Value.str x t
  | .byt b, u => ∃ t, u = Value.bytes b t
  | .flt b, u => ∃ t, u = Value.float b t
  | .ref a, u => u = Value.ref a
  | .ty n, u => u = Value.type n

abbrev Vals : List V → List Value → Prop := Paired RelV
theorem Vals.length {xs : List V} {us : List Value} (r : Vals xs us) : xs.length = us.length := Paired.length r
theorem Vals.get : ∀ {xs : List V} {us : List Value} {i : Nat} {x : V}, Vals xs us → xs[i]? = some x → ∃ u, us[i]? = some u ∧ RelV x u
  | _, _, _, _, .nil, e => by simp at e
  | _, _, 0, _, .cons r _, e => by simp at e; subst e; exact ⟨_, rfl, r⟩
  | _, _, i + 1, x, .cons _ t, e => by
    obtain ⟨u, h1, h2⟩ := Vals.get (i := i) (x := x) t (by simpa using e)
    exact ⟨u, by simpa using h1, h2⟩
theorem Vals.set {x : V} {u : Value} (r : RelV x u) : ∀ {xs : List V} {us : List Value} (i : Nat), Vals xs us → Vals (xs.set i x) (us.set i u)
  | _, _, _, .nil => .nil
  | _, _, 0, .cons _ t => .cons r t
  | _, _, i + 1, .cons q t => .cons q (Vals.set r i t)
theorem Vals.append : ∀ {xs ys : List V} {us ws : List Value}, Vals xs us → Vals ys ws → Vals (xs ++ ys) (us ++ ws)
  | _, _, _, _, .nil, s => s
  | _, _, _, _, .cons r t, s => .cons r (Vals.append t s)
theorem Vals.take : ∀ {xs : List V} {us : List Value} (n : Nat), Vals xs us → Vals (xs.take n) (us.take n)
  | _, _, 0, _ => .nil
  | _, _, _ + 1, .nil => .nil
  | _, _, n + 1, .cons r t => .cons r (Vals.take n t)
theorem Vals.drop : ∀ {xs : List V} {us : List Value} (n : Nat), Vals xs us → Vals (xs.drop n) (us.drop n)
  | _, _, 0, r => r
  | _, _, _ + 1, .nil => .nil
  | _, _, n + 1, .cons _ t => Vals.drop n t
theorem Vals.none_of : ∀ {xs : List V} {us : List Value} {i : Nat}, Vals xs us → xs[i]? = none → us[i]? = none := fun {xs us i} r e => by
  have h1 := r.length
  have h2 : xs.length ≤ i := List.getElem?_eq_none_iff.mp e
  exact List.getElem?_eq_none_iff.mpr (by omega)

def RelO : Option V → Option Value → Prop
  | some v, some u => RelV v u
  | none, none => True
  | _, _ => False
def KV {κ : Type} : List (κ × V) → List (κ × Value) → Prop := Paired fun (p : κ × V) (q : κ × Value) => p.1 = q.1 ∧ RelV p.2 q.2

/-- a key of a dict (00_mix): an int or a text -/
def kV : Key → V
  | .inl i => .int i
  | .inr x => .str x

/-- what stands at a tracked address -/
inductive HO where
  /-- a list -/
  | lst (xs : List V)
  /-- a tuple (never changes) -/
  | tup (xs : List V)
  /-- a dict whose keys are ints and texts; one whose keys are tuples of ints and texts (the empty one is both) -/
  | dK (kvs : List (Key × V)) | dT (kvs : List (List Key × V))
  /-- a set of ints: its members, its size -/
  | set (S : Int → Bool) (n : Nat)
  /-- an instance of the class at C, its dict at dx, its attributes -/
  | ins (C dx : Addr) (fs : List (Str × V))
  /-- the dict of the instance at x -/
  | own (x : Addr)
  /-- the dict of an exception -/
  | xd (fs : List (Str × V))
  /-- a bound method, f of x -/
  | met (f x : Addr)
  /-- a range object lo, lo + 1, .. below hi -/
  | rng (lo hi : Int)
  /-- a thing that is known to the object (the script; a dict while a loop walks it): read, never written while it is so -/
  | frz (o : Obj) (u : HO)
  /-- a code object's table -/
  | tbl (ps : Array Value)
  /-- any other thing, by what is true of its one object (a def of one's own: SetO a S n := HO.ext fun h => ..) -/
  | ext (φ : Heap → Prop)

abbrev Hp := Addr → Option HO
def upd (H : Hp) (a : Addr) (o : HO) : Hp := fun b => if b = a then some o else H b
theorem upd_same {H : Hp} {a : Addr} {o : HO} : upd H a o a = some o := by unfold upd; rw [if_pos rfl]
theorem upd_ne {H : Hp} {a b : Addr} {o : HO} (h : b ≠ a) : upd H a o b = H b := by unfold upd; rw [if_neg h]
theorem ne_of_none {H : Hp} {a b : Addr} {o : HO} (h : H a = some o) (h' : H b = none) : a ≠ b := by
  intro e; subst e; rw [h] at h'; cases h'

section
variable (P : Program) (w : World)
def ObjOk (H : Hp) (h : Heap) (a : Addr) : HO → Prop
  | .lst xs => xs.length ≤ sizeLine ∧ ∃ (its : List Value) (n : Nat), Vals xs its ∧ h.get? a = some { cls := .type "list", data := .seq its.toArray n }
  | .tup xs => xs.length ≤ sizeLine ∧ ∃ its : List Value, Vals xs its ∧ IsTup h a its.toArray
  | .dK kvs => kvs.length ≤ sizeLine ∧ (a == sysModules) = false ∧ ∃ vs, KV kvs vs ∧ h.DictOf (mixKind P w) a vs
  | .dT _ => False
  | .set S n => h.SetOf (intKind P w) a S n
  | .ins C dx fs => H dx = some (.own a) ∧ fs.length ≤ 1000 ∧ dx ≠ a ∧ h.get? a = some (PySem.W.instObj C dx) ∧
      ∃ mA, h.Ns1 dx mA ∧ (∀ f, RelO (fs.lookup f) (mA f)) ∧ PySem.Within mA (fs.map (·.1))
  | .own _ => ∃ o, h.get? a = some o
  | .xd fs => ∃ mA, h.Ns1 a mA ∧ ∀ f, RelO (fs.lookup f) (mA f)
  | .rng lo hi => ∃ t u v, h.get? a = some { cls := .type "range", data := .fields #[.int lo t, .int hi u, .int 1 v] }
  | .frz o u => h.get? a = some o ∧ ObjOk H h a u
  | .tbl ps => h.get? a = some { cls := .none, data := .fields ps }
  | .met f x => h.get? a = some (PySem.W.methodObj (.ref f) (.ref x))
  | .ext φ => φ h ∧ (∃ o, h.get? a = some o) ∧ ∀ h1 h2 : Heap, φ h1 → (∀ o, h1.get? a = some o → h2.get? a = some o) → φ h2
/-- the abstract heap is held -/
def HOk (H : Hp) (h : Heap) : Prop := ∀ a o, H a = some o → ObjOk P w H h a o
end

section
variable {P : Program} {w : World} {H H' : Hp} {h h' : Heap} {a : Addr} {o : HO}
theorem ObjOk.lt (x : ObjOk P w H h a o) : a < h.objs.size := by
  cases o with
  | lst xs => obtain ⟨_, _, _, _, e⟩ := x; exact Heap.lt_size e
  | tup xs => obtain ⟨_, _, _, p⟩ := x; exact p.lt
  | dK kvs => obtain ⟨_, _, _, _, o, _, _, e, _⟩ := x; exact Heap.lt_size e
  | dT kvs => exact (show False from x).elim
  | set S n => obtain ⟨o, _, _, _, e, _⟩ := x; exact Heap.lt_size e
  | ins C dx fs => obtain ⟨_, _, _, e, _⟩ := x; exact Heap.lt_size e
  | own y => obtain ⟨_, e⟩ := x; exact Heap.lt_size e
  | xd fs => obtain ⟨_, ⟨_, _, _, e, _⟩, _⟩ := x; exact Heap.lt_size e
  | rng lo hi => obtain ⟨_, _, _, e⟩ := x; exact Heap.lt_size e
  | frz ob u => obtain ⟨e, _⟩ := x; exact Heap.lt_size e
  | tbl ps => exact Heap.lt_size (show h.get? a = some _ from x)
  | met f y => exact Heap.lt_size (show h.get? a = some _ from x)
  | ext φ => obtain ⟨_, ⟨_, e⟩, _⟩ := x; exact Heap.lt_size e
/-- what an object's description leans on: its own object, its own dict, the tuples -/
theorem ObjOk.stay (x : ObjOk P w H h a o) (k : ∀ b u, (b = a ∨ H b = some (.own a)) → h.get? b = some u → h'.get? b = some u)
    (ho : ∀ b, H b = some (.own a) → H' b = some (.own a)) (ht : ∀ b xs, H b = some (.tup xs) → H' b = some (.tup xs)) : ObjOk P w H' h' a o := by
  induction o with
  | lst xs => obtain ⟨z, its, n, r, e⟩ := x; exact ⟨z, its, n, r, k _ _ (.inl rfl) e⟩
  | tup xs => obtain ⟨z, its, r, ob, e, c⟩ := x; exact ⟨z, its, r, ob, k _ _ (.inl rfl) e, c⟩
  | dK kvs => obtain ⟨z, y, vs, r, ob, es, ep, e, c⟩ := x; exact ⟨z, y, vs, r, ob, es, ep, k _ _ (.inl rfl) e, c⟩
  | dT kvs => exact (show False from x).elim
  | set S n => obtain ⟨ob, es, ep, t, e, c⟩ := x; exact ⟨ob, es, ep, t, k _ _ (.inl rfl) e, c⟩
  | ins C dx fs =>
    obtain ⟨d, z, ne, e, mA, ⟨od, es, ep, e2, c⟩, r⟩ := x
    exact ⟨ho _ d, z, ne, k _ _ (.inl rfl) e, mA, ⟨od, es, ep, k _ _ (.inr d) e2, c⟩, r⟩
  | own y => obtain ⟨ob, e⟩ := x; exact ⟨ob, k _ _ (.inl rfl) e⟩
  | xd fs => obtain ⟨mA, ⟨od, es, ep, e, c⟩, r⟩ := x; exact ⟨mA, ⟨od, es, ep, k _ _ (.inl rfl) e, c⟩, r⟩
  | rng lo hi => obtain ⟨t, u, v, e⟩ := x; exact ⟨t, u, v, k _ _ (.inl rfl) e⟩
  | frz ob u ih => obtain ⟨e, q⟩ := x; exact ⟨k _ _ (.inl rfl) e, ih q⟩
  | tbl ps =>
    have e : h.get? a = some { cls := .none, data := .fields ps } := x
    show h'.get? a = some { cls := .none, data := .fields ps }
    exact k a _ (.inl rfl) e
  | met f y =>
    have e : h.get? a = some (PySem.W.methodObj (.ref f) (.ref y)) := x
    show h'.get? a = some (PySem.W.methodObj (.ref f) (.ref y))
    exact k a _ (.inl rfl) e
  | ext φ => obtain ⟨p, ⟨o, e⟩, st⟩ := x; exact ⟨st _ _ p fun o q => k _ _ (.inl rfl) q, ⟨o, k _ _ (.inl rfl) e⟩, st⟩
theorem HOk.lt (x : HOk P w H h) (e : H a = some o) : a < h.objs.size := (x a o e).lt
theorem HOk.fresh (x : HOk P w H h) (e : h.objs.size ≤ a) : H a = none := by
  cases q : H a with
  | none => rfl
  | some u => exact absurd (Nat.lt_of_lt_of_le (x.lt q) e) (Nat.lt_irrefl _)
/-- every object of the heap is kept -/
theorem HOk.kept (x : HOk P w H h) (k : ∀ b u, h.get? b = some u → h'.get? b = some u) : HOk P w H h' := fun a o e =>
  (x a o e).stay (fun b u _ q => k b u q) (fun _ q => q) fun _ _ q => q
/-- a new object is laid and tracked -/
theorem HOk.laid (x : HOk P w H h) (k : ∀ b u, h.get? b = some u → h'.get? b = some u) (hp : h.objs.size ≤ a) (new : ObjOk P w (upd H a o) h' a o) : HOk P w (upd H a o) h' := fun b u e => by
  have hn := x.fresh hp
  by_cases hb : b = a
  · subst hb; rw [upd_same] at e; cases e; exact new
  · rw [upd_ne hb] at e
    exact (x b u e).stay (fun c v _ q => k c v q) (fun c q => by rw [upd_ne (ne_of_none q hn)]; exact q) fun c xs q => by rw [upd_ne (ne_of_none q hn)]; exact q
end

/-- what may be read as u: it is u, or a known u -/
def Rd (H : Hp) (a : Addr) (u : HO) : Prop := H a = some u ∨ ∃ o, H a = some (.frz o u)
theorem Rd.of {H : Hp} {a : Addr} {u : HO} (h : H a = some u) : Rd H a u := .inl h
theorem Rd.ok {P : Program} {w : World} {H : Hp} {h : Heap} {a : Addr} {u : HO} (r : Rd H a u) (x : HOk P w H h) : ObjOk P w H h a u := by
  rcases r with r | ⟨o, r⟩
  · exact x a u r
  · obtain ⟨_, q⟩ := x a _ r
    exact q
/-- what may be written -/
def Mut : Option HO → Prop
  | some (.lst _) => True
  | some (.dK _) => True
  | some (.dT _) => True
  | some (.set _ _) => True
  | some (.ins _ _ _) => True
  | some (.ext _) => True
  | _ => False
section
variable {P : Program} {w : World} {H : Hp} {h h' : Heap} {x e : Addr} {o' : HO}
/-- the object at e is changed: x itself, or the dict of the instance x -/
theorem HOk.write (ok : HOk P w H h) (mu : Mut (H x)) (he : e = x ∨ H e = some (.own x)) (k : ∀ b u, b ≠ e → h.get? b = some u → h'.get? b = some u) (heo : ∃ u, h'.get? e = some u)
    (new : ObjOk P w (upd H x o') h' x o') : HOk P w (upd H x o') h' := fun b u q => by
  have nown : ∀ c y, H c = some (.own y) → c ≠ x := fun c y r z => by subst z; rw [r] at mu; exact mu
  have ntup : ∀ c xs, H c = some (.tup xs) → c ≠ x := fun c xs r z => by subst z; rw [r] at mu; exact mu
  by_cases hb : b = x
  · subst hb; rw [upd_same] at q; cases q; exact new
  · rw [upd_ne hb] at q
    by_cases hbe : b = e
    · have q' : H b = some (.own x) := by
        rcases he with z | z
        · exact absurd (hbe.trans z) hb
        · rw [hbe]; exact z
      rw [q] at q'; cases q'
      obtain ⟨v, hv⟩ := heo
      exact ⟨v, by rw [hbe]; exact hv⟩
    · refine (ok b u q).stay (fun c v hc r => k c v ?_ r) (fun c r => by rw [upd_ne (nown c b r)]; exact r) fun c xs r => by rw [upd_ne (ntup c xs r)]; exact r
      rcases hc with rfl | hc
      · exact hbe
      · rintro rfl
        rcases he with z | z
        · exact nown c b hc z
        · rw [hc] at z; cases z; exact hb rfl
end

/-! ### kept unless tracked; of the frames at fs (the callers') the slots may change (an exception that passes writes there); of the records at ex (iterators) nothing is said -/
structure Un (fs ex : List Addr) (H H' : Hp) (h h' : Heap) : Prop where
  keep : ∀ b o, h.get? b = some o → H b = none → b ∉ fs → b ∉ ex → h'.get? b = some o
  slot : ∀ b o, h.get? b = some o → H b = none → b ∈ fs → b ∉ ex → ∃ sl, h'.get? b = some { o with slots := sl }
  free : ∀ b o, h.get? b = some o → H b = none → b ∉ ex → H' b = none
  there : ∀ b o, h.get? b = some o → b ∉ ex → ∃ o', h'.get? b = some o'
  tups : ∀ b xs, H b = some (.tup xs) → H' b = some (.tup xs)
  frzs : ∀ b o u, H b = some (.frz o u) → H' b = some (.frz o u)
  tbls : ∀ b ps, H b = some (.tbl ps) → ∃ more, H' b = some (.tbl (ps ++ more))
section
variable {fs fs' ex ex' : List Addr} {H H1 H2 : Hp} {h h1 h2 h' : Heap} {a x e : Addr} {o : HO}
theorem Un.any (u : Un fs ex H H1 h h1) {b : Addr} {ob : Obj} (q : h.get? b = some ob) (n : H b = none) (hx : b ∉ ex) : ∃ sl, h1.get? b = some { ob with slots := sl } := by
  by_cases hb : b ∈ fs
  · exact u.slot b ob q n hb hx
  · exact ⟨ob.slots, u.keep b ob q n hb hx⟩
theorem Un.trans (a : Un fs ex H H1 h h1) (b : Un fs ex H1 H2 h1 h2) : Un fs ex H H2 h h2 where
  keep := fun c ob q n hc hx => b.keep c ob (a.keep c ob q n hc hx) (a.free c ob q n hx) hc hx
  slot := fun c ob q n hc hx => by
    obtain ⟨sl, e1⟩ := a.slot c ob q n hc hx
    obtain ⟨sl', e2⟩ := b.slot c _ e1 (a.free c ob q n hx) hc hx
    exact ⟨sl', e2⟩
  free := fun c ob q n hx => by
    obtain ⟨o', e1⟩ := a.there c ob q hx
    exact b.free c o' e1 (a.free c ob q n hx) hx
  there := fun c ob q hx => by
    obtain ⟨o', e1⟩ := a.there c ob q hx
    exact b.there c o' e1 hx
  tups := fun c xs q => b.tups c xs (a.tups c xs q)
  frzs := fun c ob xs q => b.frzs c ob xs (a.frzs c ob xs q)
  tbls := fun c ps q => by
    obtain ⟨m1, e1⟩ := a.tbls c ps q
    obtain ⟨m2, e2⟩ := b.tbls c _ e1
    exact ⟨m1 ++ m2, by rw [e2, Array.append_assoc]⟩
theorem Un.kept (k : ∀ b u, h.get? b = some u → h'.get? b = some u) : Un fs ex H H h h' :=
  ⟨fun b ob q _ _ _ => k b ob q, fun b ob q _ _ _ => ⟨ob.slots, k b ob q⟩, fun _ _ _ n _ => n, fun b ob q _ => ⟨ob, k b ob q⟩, fun _ _ q => q, fun _ _ _ q => q, fun _ ps q => ⟨#[], by rw [q]; simp⟩⟩
theorem Un.refl : Un fs ex H H h h := Un.kept fun _ _ q => q
theorem Un.laid (k : ∀ b u, h.get? b = some u → h'.get? b = some u) (hp : h.objs.size ≤ a) (hn : H a = none) : Un fs ex H (upd H a o) h h' where
  keep := fun b u q _ _ _ => k b u q
  slot := fun b u q _ _ _ => ⟨u.slots, k b u q⟩
  free := fun b u q n _ => by rw [upd_ne (Nat.ne_of_lt (Nat.lt_of_lt_of_le (Heap.lt_size q) hp))]; exact n
  there := fun b u q _ => ⟨u, k b u q⟩
  tups := fun b xs q => by rw [upd_ne (ne_of_none q hn)]; exact q
  frzs := fun b u xs q => by rw [upd_ne (ne_of_none q hn)]; exact q
  tbls := fun b ps q => ⟨#[], by rw [upd_ne (ne_of_none q hn), q]; simp⟩
theorem Un.write (mu : Mut (H x)) (he : e = x ∨ H e = some (.own x)) (k : ∀ b u, b ≠ e → h.get? b = some u → h'.get? b = some u) (heo : ∃ u, h'.get? e = some u) : Un fs ex H (upd H x o) h h' := by
  have hx : ∀ b, H b = none → b ≠ x := fun b n z => by subst z; rw [n] at mu; exact mu
  have hb : ∀ b, H b = none → b ≠ e := fun b n z => by
    subst z
    rcases he with r | r
    · exact hx b n r
    · rw [n] at r; cases r
  have hm : ∀ b u, H b = some u → ¬ Mut (some u) → b ≠ x := fun b u q nm z => by subst z; rw [q] at mu; exact nm mu
  refine ⟨fun b u q n _ _ => k b u (hb b n) q, fun b u q n _ _ => ⟨u.slots, k b u (hb b n) q⟩, fun b u q n _ => by rw [upd_ne (hx b n)]; exact n, fun b u q _ => ?_,
    fun b xs q => by rw [upd_ne (hm b _ q fun z => z)]; exact q, fun b u xs q => by rw [upd_ne (hm b _ q fun z => z)]; exact q, fun b ps q => ⟨#[], by rw [upd_ne (hm b _ q fun z => z), q]; simp⟩⟩
  by_cases hbe : b = e
  · subst hbe; exact heo
  · exact ⟨u, k b u hbe q⟩
theorem Un.mono (u : Un fs ex H H1 h h1) (hs : ∀ b ∈ fs, b ∈ fs') (hx : ∀ b ∈ ex, b ∈ ex') : Un fs' ex' H H1 h h1 :=
  ⟨fun b ob q n hb he => u.keep b ob q n (fun z => hb (hs b z)) fun z => he (hx b z), fun _ _ q n _ he => u.any q n fun z => he (hx _ z), fun b ob q n he => u.free b ob q n fun z => he (hx b z), fun b ob q he => u.there b ob q fun z => he (hx b z), u.tups, u.frzs, u.tbls⟩
end

/-! ### the heap without what is tracked -/
def trk (h : Heap) (H : Hp) : List Addr := (List.range h.objs.size).filter fun a => (H a).isSome
def hidT (h : Heap) (H : Hp) : Heap := PySem.W.hideAll h (trk h H)
theorem hidT_size (h : Heap) (H : Hp) : (hidT h H).objs.size = h.objs.size := PySem.W.hideAll_size _ _
theorem hidT_get {h : Heap} {H : Hp} {b : Addr} {o : Obj} (e : h.get? b = some o) (n : H b = none) : (hidT h H).get? b = some o :=
  PySem.W.hideAll_get _ e fun hm => by
    have q : (H b).isSome = true := (List.mem_filter.mp hm).2
    rw [n] at q; simp at q
theorem of_hidT {h : Heap} {H : Hp} {b : Addr} {o : Obj} (e : (hidT h H).get? b = some o) : h.get? b = some o ∧ H b = none := by
  have e' : h.get? b = some o := PySem.W.of_hideAll (trk h H) e
  refine ⟨e', ?_⟩
  cases q : H b with
  | none => rfl
  | some x =>
    have hm : b ∈ trk h H := List.mem_filter.mpr ⟨List.mem_range.mpr (Heap.lt_size e'), by simp [q]⟩
    have z : (hidT h H).get? b = none := PySem.W.hideAll_none (trk h H) hm
    rw [z] at e; cases e

/-! ### OpenK's ledger, filled with every new object but one -/
def allNews (g h : Heap) (L : Addr) : List (Addr × Obj) := (List.range h.objs.size).filterMap fun a => if a = L ∨ (g.get? a).isSome = true then none else (h.get? a).map fun o => (a, o)
def rest (g h : Heap) (L d : Addr) : List (Addr × Obj) := (allNews g h L).filter fun p => decide (p.1 ≠ d)
end L2

namespace L2
open PySem PySem.Spec PyProof.Rows

/-- the module's facts, over the base: the heap at the law's entry without what is tracked there -/
structure Mod (K : PySem.W.Frag) (mg : Str → Option Value) (base : Heap) : Prop where
  kin : K.In base
  glob : base.Ns mainGlobals mg
  blt : ∃ mb, base.Ns builtinsNs mb ∧ ∀ x : Str, x ≠ "__name__" → mb x = bootBuiltins x
  nolimit : base.NoLimit

/-- the context: a def's body (or a comprehension's block) running. base: fixed through the whole law; s₀, H₀: the entry; outer: the frames whose slots others may change (a def's callers); stack: all frames that run;
   ex: iterators that were made ahead of the entry and are walked here (a comprehension's); fn: the names whose cells were made at the entry (a def: all; a comprehension's block: its own); calm: not within an except suite; pn: pins that every state bears; xe: what is wanted of an exception that leaves the code -/
structure Cx where
  prog : Program
  w : World
  K : PySem.W.Frag
  mg : Str → Option Value
  base : Heap
  A : Around
  N : List Str
  s₀ : Shared
  H₀ : Hp
  env : Env
  outer : List Env
  stack : List Env
  ex : List Addr
  fn : Str → Bool
  calm : Bool
  pn : List (Addr × Obj)
  xe : Value → Shared → Prop
/-- the callers' frames -/
def frs (l : List Env) : List Addr := l.filterMap (·.frame)
abbrev Cx.fs (X : Cx) : List Addr := frs X.outer

def Vis (sc : Scope) (x : Str) : Prop := sc.names.lookup x = some .local ∨ sc.names.lookup x = some .cell ∨ sc.names.lookup x = some .free
def Loc (sc : Scope) (x : Str) : Prop := sc.names.lookup x = some .local ∨ sc.names.lookup x = some .cell
def Look (env : Env) (h : Heap) (m : Str → Option Value) (x : Str) (u : Value) : Prop :=
  (env.kindOf x = some .local ∧ m x = some u) ∨ ((env.kindOf x = some .cell ∨ env.kindOf x = some .free) ∧ ∃ c, env.cells.lookup x = some c ∧ h.IsCell c (some u))

structure Cx.Ok (X : Cx) : Prop where
  mod : Mod X.K X.mg X.base
  kind : X.env.scope.kind = .function
  glob : X.env.globals = mainGlobals
  blt : X.env.builtins = builtinsNs
  above : X.s₀.heap.objs.size ≤ X.env.locals
  inj : ∀ x y c, X.env.cells.lookup x = some c → X.env.cells.lookup y = some c → x = y
  has : ∀ x, (X.env.kindOf x = some .cell ∨ X.env.kindOf x = some .free) → ∃ c, X.env.cells.lookup x = some c
  cab : ∀ x c, X.fn x = true → X.env.cells.lookup x = some c → X.s₀.heap.objs.size ≤ c
  hd : X.calm = true → X.A.handled = none
  frames : X.A.frames = some X.stack
  stk : X.stack = X.outer ∨ (X.stack = X.env :: X.outer ∧ X.env.frame = some X.env.locals)
  exf : ∀ b ∈ X.ex, b ≠ X.env.locals ∧ ∀ x c, X.env.cells.lookup x = some c → c ≠ b
  bs : ∀ b o, X.base.get? b = some o → X.s₀.heap.get? b = some o ∧ X.H₀ b = none
  bsz : X.base.objs.size ≤ X.s₀.heap.objs.size
  noex : ∀ b o, X.base.get? b = some o → b ∉ X.ex
  exfs : ∀ b ∈ X.ex, b ∉ X.fs
  funs : X.s₀.heap.FunFrames X.base X.outer
  frf : ∀ b ∈ X.fs, X.H₀ b = none

structure Inv (X : Cx) (pins : List (Addr × Obj)) (σ : List (Option V)) (H : Hp) (s : Shared) : Prop where
  ok : X.Ok
  os : s.os = X.s₀.os
  bare : AllBare s.gens
  base : Un X.fs X.ex X.H₀ H X.s₀.heap s.heap
  loc : ∃ m, s.heap.Ns X.env.locals m ∧ ∀ (i : Nat) (x : Str) (v : V), X.N[i]? = some x → σ[i]? = some (some v) → Vis X.env.scope x → ∃ u, RelV v u ∧ Look X.env s.heap m x u
  cell : ∀ x c, X.env.cells.lookup x = some c → ∃ v, s.heap.IsCell c v
  free : H X.env.locals = none
  freeC : ∀ x c, X.env.cells.lookup x = some c → H c = none
  pin : ∀ p ∈ X.pn ++ pins, s.heap.get? p.1 = some p.2 ∧ H p.1 = none ∧ p.1 ≠ X.env.locals ∧ p.1 ∉ X.fs ∧ ∀ v, p.2.data ≠ .cell v
  hok : HOk X.prog X.w H s.heap
  len : σ.length = X.N.length

section
variable {X : Cx} {pins : List (Addr × Obj)} {σ : List (Option V)} {H H' : Hp} {s : Shared} {h' : Heap}

theorem Cx.Ok.nofr (ok : X.Ok) {b : Addr} {o : Obj} (e : X.base.get? b = some o) : b ∉ X.fs := fun hb => by
  have := (ok.funs.mem hb).1
  rw [e] at this; cases this
theorem Inv.bs (I : Inv X pins σ H s) : ∀ b o, X.base.get? b = some o → s.heap.get? b = some o ∧ H b = none := fun b o e =>
  ⟨I.base.keep b o (I.ok.bs b o e).1 (I.ok.bs b o e).2 (I.ok.nofr e) (I.ok.noex b o e), I.base.free b o (I.ok.bs b o e).1 (I.ok.bs b o e).2 (I.ok.noex b o e)⟩
theorem Inv.bk (I : Inv X pins σ H s) : ∀ b o, X.base.get? b = some o → s.heap.get? b = some o := fun b o e => (I.bs b o e).1
theorem Inv.mod (I : Inv X pins σ H s) : Mod X.K X.mg X.base := I.ok.mod
theorem Inv.kIn (I : Inv X pins σ H s) : X.K.In s.heap := I.ok.mod.kin.keeps I.bk
theorem Inv.nolimit (I : Inv X pins σ H s) : s.heap.NoLimit := I.ok.mod.nolimit.keeps I.bk
theorem Inv.lt (I : Inv X pins σ H s) : X.env.locals < s.heap.objs.size := let ⟨_, hn, _⟩ := I.loc; hn.lt
theorem Inv.sz (I : Inv X pins σ H s) : X.s₀.heap.objs.size ≤ s.heap.objs.size := Nat.le_trans I.ok.above (Nat.le_of_lt I.lt)
theorem Inv.nofs (I : Inv X pins σ H s) {a : Addr} (h : s.heap.objs.size ≤ a) : a ∉ X.fs := fun hb => by
  obtain ⟨_, o, ho, _⟩ := I.ok.funs.mem hb
  exact absurd (Nat.lt_of_lt_of_le (Heap.lt_size ho) (Nat.le_trans I.sz h)) (Nat.lt_irrefl _)
theorem Inv.cne (I : Inv X pins σ H s) : ∀ x c, X.env.cells.lookup x = some c → c ≠ X.env.locals := fun x c e z => by
  obtain ⟨v, o, ho, hd⟩ := I.cell x c e
  obtain ⟨m, ⟨o', es, ep, ho', hd', _⟩, _⟩ := I.loc
  rw [z, ho'] at ho; cases ho; rw [hd'] at hd; cases hd
theorem Inv.funs (I : Inv X pins σ H s) : s.heap.FunFrames X.base X.outer := by
  have all : ∀ (l : List Env), (∀ b ∈ frs l, b ∈ X.fs) → X.s₀.heap.FunFrames X.base l → s.heap.FunFrames X.base l := by
    intro l
    induction l with
    | nil => intro _ _; trivial
    | cons env r ih =>
      intro hs hl
      obtain ⟨hk, ⟨L, o, hf, hn, ho, hd⟩, hr⟩ := hl
      have hL : L ∈ X.fs := hs L (by unfold frs; rw [List.filterMap_cons, hf]; exact List.mem_cons_self)
      obtain ⟨sl, e⟩ := I.base.slot L o ho (I.ok.frf L hL) hL fun z => I.ok.exfs L z hL
      exact ⟨hk, ⟨L, _, hf, hn, e, hd⟩, ih (fun b hb => hs b (by unfold frs; rw [List.filterMap_cons, hf]; exact List.mem_cons_of_mem _ hb)) hr⟩
  exact all X.outer (fun _ hb => hb) I.ok.funs

/-- the frames that run, for a call -/
theorem Inv.stack (I : Inv X pins σ H s) : s.heap.FunFrames X.base X.stack := by
  rcases I.ok.stk with e | ⟨e, hf⟩
  · rw [e]; exact I.funs
  · rw [e]
    obtain ⟨m, hn, _⟩ := I.loc
    refine .cons (by rw [I.ok.kind]; decide) hf hn ?_ I.funs
    exact Heap.get?_none_of_le (Nat.le_trans I.ok.bsz I.ok.above)
theorem Inv.stkSub (I : Inv X pins σ H s) : ∀ b ∈ frs X.stack, b ∈ X.env.locals :: X.fs := fun b hb => by
  rcases I.ok.stk with e | ⟨e, hf⟩
  · rw [e] at hb; exact List.mem_cons_of_mem _ hb
  · rw [e] at hb
    unfold frs at hb
    rw [List.filterMap_cons, hf] at hb
    exact hb
theorem Inv.stkFree (I : Inv X pins σ H s) : ∀ b ∈ frs X.stack, H b = none := fun b hb => by
  rcases List.mem_cons.mp (I.stkSub b hb) with e | hb
  · rw [e]; exact I.free
  · obtain ⟨_, o, ho, _⟩ := I.ok.funs.mem hb
    exact I.base.free b o ho (I.ok.frf b hb) fun z => I.ok.exfs b z hb

/-- THE STEP: the untracked objects but the frame and the records at ch are kept (the callers' frames up to slots), the frame's map is kept, the new abstract heap is held -/
theorem Inv.step {g' : Array GenState} {t' : Nat} {d' : Drawn} {ch : List Addr} (I : Inv X pins σ H s)
    (hch : ∀ b ∈ ch, (b ∈ X.ex ∨ X.s₀.heap.objs.size ≤ b) ∧ b ≠ X.env.locals ∧ (∀ x c, X.env.cells.lookup x = some c → c ≠ b) ∧ ∀ p ∈ X.pn ++ pins, p.1 ≠ b)
    (keep : ∀ b o, b ≠ X.env.locals → b ∉ X.fs → b ∉ ch → s.heap.get? b = some o → H b = none → h'.get? b = some o)
    (slot : ∀ b o, b ≠ X.env.locals → b ∈ X.fs → b ∉ ch → s.heap.get? b = some o → H b = none → ∃ sl, h'.get? b = some { o with slots := sl }) (free : ∀ b o, b ∉ ch → s.heap.get? b = some o → H b = none → H' b = none)
    (there : ∀ b o, b ∉ ch → s.heap.get? b = some o → ∃ o', h'.get? b = some o')
    (tups : ∀ b xs, H b = some (.tup xs) → H' b = some (.tup xs)) (frzs : ∀ b o u, H b = some (.frz o u) → H' b = some (.frz o u)) (tbls : ∀ b ps, H b = some (.tbl ps) → ∃ more, H' b = some (.tbl (ps ++ more)))
    (ns : ∀ m, s.heap.Ns X.env.locals m → h'.Ns X.env.locals m) (hok : HOk X.prog X.w H' h') (hg : AllBare g') :
    Inv X pins σ H' { s with heap := h', gens := g', drawn := d', toks := t' } := by
  have neL : ∀ b o, X.s₀.heap.get? b = some o → b ≠ X.env.locals := fun b o e => Nat.ne_of_lt (Nat.lt_of_lt_of_le (Heap.lt_size e) I.ok.above)
  have neC : ∀ b o, X.s₀.heap.get? b = some o → b ∉ X.ex → b ∉ ch := fun b o e hx hb => by
    rcases (hch b hb).1 with z | z
    · exact hx z
    · exact absurd (Nat.lt_of_lt_of_le (Heap.lt_size e) z) (Nat.lt_irrefl _)
  have cellK : ∀ x c, X.env.cells.lookup x = some c → ∀ v, s.heap.IsCell c v → h'.IsCell c v := fun x c e v ⟨o, ho, hd⟩ => by
    have nch : c ∉ ch := fun z => (hch c z).2.2.1 x c e rfl
    by_cases hc : c ∈ X.fs
    · obtain ⟨sl, q⟩ := slot c o (I.cne x c e) hc nch ho (I.freeC x c e)
      exact ⟨_, q, hd⟩
    · exact ⟨o, keep c o (I.cne x c e) hc nch ho (I.freeC x c e), hd⟩
  refine ⟨I.ok, I.os, hg, ⟨fun b o e n hb hx => ?_, fun b o e n hb hx => ?_, fun b o e n hx => ?_, fun b o e hx => ?_, fun b xs e => tups b xs (I.base.tups b xs e), fun b o xs e => frzs b o xs (I.base.frzs b o xs e), fun b ps e => ?_⟩, ?_, fun x c e => ?_, ?_, fun x c e => ?_, fun p hp => ?_, hok, I.len⟩
  · exact keep b o (neL b o e) hb (neC b o e hx) (I.base.keep b o e n hb hx) (I.base.free b o e n hx)
  · obtain ⟨sl, e1⟩ := I.base.slot b o e n hb hx
    obtain ⟨sl', e2⟩ := slot b _ (neL b o e) hb (neC b o e hx) e1 (I.base.free b o e n hx)
    exact ⟨sl', e2⟩
  · obtain ⟨o', e1⟩ := I.base.there b o e hx
    exact free b o' (neC b o e hx) e1 (I.base.free b o e n hx)
  · obtain ⟨o', e1⟩ := I.base.there b o e hx
    exact there b o' (neC b o e hx) e1
  · obtain ⟨m1, e1⟩ := I.base.tbls b ps e
    obtain ⟨m2, e2⟩ := tbls b _ e1
    exact ⟨m1 ++ m2, by rw [e2, Array.append_assoc]⟩
  · obtain ⟨m, hn, hl⟩ := I.loc
    refine ⟨m, ns m hn, fun i x v e1 e2 e3 => ?_⟩
    obtain ⟨u, r, l⟩ := hl i x v e1 e2 e3
    refine ⟨u, r, ?_⟩
    rcases l with l | ⟨k, c, e, z⟩
    · exact .inl l
    · exact .inr ⟨k, c, e, cellK x c e _ z⟩
  · obtain ⟨v, z⟩ := I.cell x c e
    exact ⟨v, cellK x c e v z⟩
  · obtain ⟨m, ⟨o, _, _, ho, _⟩, _⟩ := I.loc
    exact free _ o (fun z => (hch _ z).2.1 rfl) ho I.free
  · obtain ⟨v, o, ho, hd⟩ := I.cell x c e
    exact free c o (fun z => (hch c z).2.2.1 x c e rfl) ho (I.freeC x c e)
  · obtain ⟨e, n, ne, nf, d⟩ := I.pin p hp
    have nch : p.1 ∉ ch := fun z => (hch p.1 z).2.2.2 p hp rfl
    exact ⟨keep p.1 p.2 ne nf nch e n, free p.1 p.2 nch e n, ne, nf, d⟩
/-- .. where the frame's own object is kept too -/
theorem Inv.un {t' : Nat} (I : Inv X pins σ H s) (u : Un X.fs [] H H' s.heap h') (hok : HOk X.prog X.w H' h') : Inv X pins σ H' { s with heap := h', toks := t' } := by
  obtain ⟨m, ⟨o, es, ep, ho, r⟩, _⟩ := id I.loc
  obtain ⟨sl, hL⟩ := u.any ho I.free (by simp)
  exact I.step (g' := s.gens) (d' := s.drawn) (ch := []) (fun _ z => nomatch z) (fun b o _ hb _ e n => u.keep b o e n hb (by simp)) (fun b o _ hb _ e n => u.slot b o e n hb (by simp)) (fun b o _ e n => u.free b o e n (by simp)) (fun b o _ e => u.there b o e (by simp)) u.tups u.frzs u.tbls (fun m' hm => by
    obtain ⟨o', es', ep', ho', r'⟩ := hm
    rw [ho] at ho'; cases ho'
    exact ⟨_, es', ep', hL, r'⟩) hok I.bare
/-- behind a call (or a comprehension's block): the slots of this frame may have changed too, the records at ch may have turned -/
theorem Inv.call {g' : Array GenState} {t' : Nat} {d' : Drawn} {ch : List Addr} (I : Inv X pins σ H s) (u : Un (frs X.stack) ch H H' s.heap h') (hok : HOk X.prog X.w H' h') (hg : AllBare g')
    (hch : ∀ b ∈ ch, (b ∈ X.ex ∨ X.s₀.heap.objs.size ≤ b) ∧ b ≠ X.env.locals ∧ (∀ x c, X.env.cells.lookup x = some c → c ≠ b) ∧ ∀ p ∈ X.pn ++ pins, p.1 ≠ b) :
    Inv X pins σ H' { s with heap := h', gens := g', drawn := d', toks := t' } := by
  obtain ⟨m, ⟨o, es, ep, ho, r⟩, _⟩ := id I.loc
  obtain ⟨sl, hL⟩ := u.any ho I.free fun z => (hch _ z).2.1 rfl
  exact I.step (ch := ch) hch (fun b o hL hb hc e n => u.keep b o e n (fun z => (List.mem_cons.mp (I.stkSub b z)).elim hL hb) hc) (fun b o _ _ hc e n => u.any e n hc) (fun b o hc e n => u.free b o e n hc) (fun b o hc e => u.there b o e hc) u.tups u.frzs u.tbls (fun m' hm => by
    obtain ⟨o', es', ep', ho', r'⟩ := hm
    rw [ho] at ho'; cases ho'
    exact ⟨_, es', ep', hL, r'⟩) hok hg
/-- an untracked record of ours (an iterator) has turned -/
theorem Inv.turned {t' : Nat} {it : Addr} (I : Inv X pins σ H s) (k : ∀ b o, b ≠ it → s.heap.get? b = some o → h'.get? b = some o) (hn : H it = none) (hL : it ≠ X.env.locals)
    (h1 : it ∈ X.ex ∨ X.s₀.heap.objs.size ≤ it) (h2 : ∀ x c, X.env.cells.lookup x = some c → c ≠ it) (h3 : ∀ p ∈ X.pn ++ pins, p.1 ≠ it) : Inv X pins σ H { s with heap := h', toks := t' } := by
  have nit : ∀ b u, H b = some u → b ≠ it := fun b u e z => by rw [z, hn] at e; cases e
  refine I.step (g' := s.gens) (d' := s.drawn) (ch := [it]) (fun b hb => ?_) (fun b o _ _ hc e _ => k b o (fun z => hc (by simp [z])) e) (fun b o _ _ hc e _ => ⟨o.slots, k b o (fun z => hc (by simp [z])) e⟩) (fun _ _ _ _ n => n)
    (fun b o hc e => ⟨o, k b o (fun z => hc (by simp [z])) e⟩) (fun _ _ e => e) (fun _ _ _ e => e) (fun b ps e => ⟨#[], by rw [e]; simp⟩) (fun m hm => ?_) (fun b u e => ?_) I.bare
  · have e : b = it := by simpa using hb
    subst e
    exact ⟨h1, hL, h2, h3⟩
  · obtain ⟨o, es, ep, ho, r⟩ := hm
    exact ⟨o, es, ep, k _ o (Ne.symm hL) ho, r⟩
  · refine (I.hok b u e).stay (fun c v hc q => k c v ?_ q) (fun _ q => q) fun _ _ q => q
    rcases hc with z | z
    · rw [z]; exact nit b u e
    · exact nit c _ z
theorem Inv.tok (I : Inv X pins σ H s) (t : Nat) : Inv X pins σ H { s with toks := t } := I.un (h' := s.heap) (t' := t) Un.refl I.hok
/-- all objects kept -/
theorem Inv.kept {t' : Nat} (I : Inv X pins σ H s) (k : ∀ b u, s.heap.get? b = some u → h'.get? b = some u) : Inv X pins σ H { s with heap := h', toks := t' } := I.un (Un.kept k) (I.hok.kept k)
/-- a new object laid and tracked -/
theorem Inv.laid {a : Addr} {o : HO} {t' : Nat} (I : Inv X pins σ H s) (k : ∀ b u, s.heap.get? b = some u → h'.get? b = some u) (hp : s.heap.objs.size ≤ a) (new : ObjOk X.prog X.w (upd H a o) h' a o) :
    Inv X pins σ (upd H a o) { s with heap := h', toks := t' } := I.un (Un.laid k hp (I.hok.fresh hp)) (I.hok.laid k hp new)
/-- an object written -/
theorem Inv.write {x e : Addr} {o : HO} {t' : Nat} (I : Inv X pins σ H s) (mu : Mut (H x)) (he : e = x ∨ H e = some (.own x)) (k : ∀ b u, b ≠ e → s.heap.get? b = some u → h'.get? b = some u) (heo : ∃ u, h'.get? e = some u)
    (new : ObjOk X.prog X.w (upd H x o) h' x o) : Inv X pins σ (upd H x o) { s with heap := h', toks := t' } := I.un (Un.write mu he k heo) (I.hok.write mu he k heo new)
theorem Inv.pins_of {pins' : List (Addr × Obj)} (I : Inv X pins σ H s) (h : ∀ p ∈ pins', s.heap.get? p.1 = some p.2 ∧ H p.1 = none ∧ p.1 ≠ X.env.locals ∧ p.1 ∉ X.fs ∧ ∀ v, p.2.data ≠ .cell v) : Inv X pins' σ H s :=
  ⟨I.ok, I.os, I.bare, I.base, I.loc, I.cell, I.free, I.freeC, fun p hp => (List.mem_append.mp hp).elim (fun z => I.pin p (List.mem_append_left _ z)) (h p), I.hok, I.len⟩

theorem nodup_ix {N : List Str} (hN : N.Nodup) {i j : Nat} {x : Str} (a : N[i]? = some x) (b : N[j]? = some x) : i = j := by
  obtain ⟨h1, e1⟩ := List.getElem?_eq_some_iff.mp a
  obtain ⟨h2, e2⟩ := List.getElem?_eq_some_iff.mp b
  exact (List.getElem_inj hN).mp (e1.trans e2.symm)

/-- a name is stored; what changed -/
theorem store_ok2 {M : Model} {A : Around} {E : Value → Shared → Prop} {i : Nat} {x : Str} {v : V} {u : Value} {Q : Unit → Shared → Prop} (I : Inv X pins σ H s) (hN : X.N.Nodup) (hi : X.N[i]? = some x) (hx : Loc X.env.scope x) (r : RelV v u)
    (h : ∀ s', Inv X pins (σ.set i (some v)) H s' → (∃ a, Heap.SameBut a s.heap s'.heap ∧ (a = X.env.locals ∨ X.env.cells.lookup x = some a)) → Q () s') (hf : X.fn x = true ∨ X.env.scope.names.lookup x = some .local := by first | exact .inl rfl | exact .inr rfl | assumption) : wpAny M A (storeName X.env x u) Q E s := by
  obtain ⟨m, hn, hl⟩ := id I.loc
  have hcls : (X.env.scope.kind == .class || (X.env.scope.kind == .module && X.env.locals != X.env.globals)) = false := by rw [I.ok.kind]; rfl
  have hiσ : i < σ.length := by rw [I.len]; exact (List.getElem?_eq_some_iff.mp hi).1
  have cne := I.cne
  have tracked : ∀ {a : Addr} {h' : Heap}, (∃ o, s.heap.get? a = some o ∧ H a = none) → Heap.SameBut a s.heap h' → HOk X.prog X.w H h' := fun {a h'} ha hs b ob e => by
    obtain ⟨_, _, hfree⟩ := ha
    refine (I.hok b ob e).stay (fun c w' hc q => (hs.2 c ?_).trans q) (fun _ q => q) fun _ _ q => q
    rintro rfl
    rcases hc with rfl | hc
    · rw [hfree] at e; cases e
    · rw [hfree] at hc; cases hc
  rcases hx with hk | hk
  · refine wpAny_storeName_local hk hn (fun h' hn' hs => ?_) hcls
    obtain ⟨oL, _, _, hoL, _⟩ := id hn
    refine h _ ⟨I.ok, I.os, I.bare, ⟨fun b o e n hb hx => ?_, fun b o e n hb hx => ?_, I.base.free, fun b o e hx => ?_, I.base.tups, I.base.frzs, I.base.tbls⟩, ⟨_, hn', fun j y v' e1 e2 e3 => ?_⟩, fun y c e => ?_, I.free, I.freeC, fun p hp => ?_, tracked ⟨oL, hoL, I.free⟩ hs, by simpa using I.len⟩ ⟨_, hs, .inl rfl⟩
    · exact (hs.2 b (Nat.ne_of_lt (Nat.lt_of_lt_of_le (Heap.lt_size e) I.ok.above))).trans (I.base.keep b o e n hb hx)
    · obtain ⟨sl, e1⟩ := I.base.slot b o e n hb hx
      exact ⟨sl, (hs.2 b (Nat.ne_of_lt (Nat.lt_of_lt_of_le (Heap.lt_size e) I.ok.above))).trans e1⟩
    · obtain ⟨o', e1⟩ := I.base.there b o e hx
      exact ⟨o', (hs.2 b (Nat.ne_of_lt (Nat.lt_of_lt_of_le (Heap.lt_size e) I.ok.above))).trans e1⟩
    · by_cases hj : j = i
      · subst hj
        rw [hi] at e1; cases e1
        rw [List.getElem?_set_self hiσ] at e2
        cases e2
        exact ⟨u, r, .inl ⟨hk, by simp⟩⟩
      · rw [List.getElem?_set_ne (Ne.symm hj)] at e2
        obtain ⟨u', r', q⟩ := hl j y v' e1 e2 e3
        refine ⟨u', r', ?_⟩
        rcases q with ⟨k, e⟩ | ⟨k, c, e, z⟩
        · refine .inl ⟨k, ?_⟩
          have : y ≠ x := fun e => hj (nodup_ix hN e1 (e ▸ hi))
          simp [this, e]
        · exact .inr ⟨k, c, e, z.sameBut hs (cne y c e)⟩
    · obtain ⟨w', z⟩ := I.cell y c e
      exact ⟨w', z.sameBut hs (cne y c e)⟩
    · obtain ⟨e, n, ne, nf, d⟩ := I.pin p hp
      exact ⟨(hs.2 p.1 ne).trans e, n, ne, nf, d⟩
  · have hfn : X.fn x = true := by
      rcases hf with z | z
      · exact z
      · rw [z] at hk; cases hk
    obtain ⟨c, hc⟩ := I.ok.has x (.inl hk)
    obtain ⟨w', z⟩ := I.cell x c hc
    refine wpAny_storeName_cell I.ok.kind hk hc z (fun h' hc' hs => ?_)
    obtain ⟨oc, hoc, hocd⟩ := id z
    refine h { s with heap := h' } ⟨I.ok, I.os, I.bare, ⟨fun b o e n hb hx => ?_, fun b o e n hb hx => ?_, I.base.free, fun b o e hx => ?_, I.base.tups, I.base.frzs, I.base.tbls⟩, ⟨m, hn.sameBut hs (Ne.symm (cne x c hc)), fun j y v' e1 e2 e3 => ?_⟩, fun y c' e => ?_, I.free, I.freeC, fun p hp => ?_, tracked ⟨oc, hoc, I.freeC x c hc⟩ hs, by simpa using I.len⟩ ⟨c, hs, .inr hc⟩
    · exact (hs.2 b (Nat.ne_of_lt (Nat.lt_of_lt_of_le (Heap.lt_size e) (I.ok.cab x c hfn hc)))).trans (I.base.keep b o e n hb hx)
    · obtain ⟨sl, e1⟩ := I.base.slot b o e n hb hx
      exact ⟨sl, (hs.2 b (Nat.ne_of_lt (Nat.lt_of_lt_of_le (Heap.lt_size e) (I.ok.cab x c hfn hc)))).trans e1⟩
    · obtain ⟨o', e1⟩ := I.base.there b o e hx
      exact ⟨o', (hs.2 b (Nat.ne_of_lt (Nat.lt_of_lt_of_le (Heap.lt_size e) (I.ok.cab x c hfn hc)))).trans e1⟩
    · by_cases hj : j = i
      · subst hj
        rw [hi] at e1; cases e1
        rw [List.getElem?_set_self hiσ] at e2
        cases e2
        exact ⟨u, r, .inr ⟨.inl hk, c, hc, hc'⟩⟩
      · rw [List.getElem?_set_ne (Ne.symm hj)] at e2
        obtain ⟨u', r', q⟩ := hl j y v' e1 e2 e3
        refine ⟨u', r', ?_⟩
        rcases q with q | ⟨k, c', e, z'⟩
        · exact .inl q
        · refine .inr ⟨k, c', e, z'.sameBut hs ?_⟩
          rintro rfl
          exact hj (nodup_ix hN e1 (I.ok.inj _ _ _ e hc ▸ hi))
    · by_cases hcc : c' = c
      · subst hcc; exact ⟨_, hc'⟩
      · obtain ⟨w2, z2⟩ := I.cell y c' e
        exact ⟨w2, z2.sameBut hs hcc⟩
    · obtain ⟨e, n, ne, nf, d⟩ := I.pin p hp
      refine ⟨(hs.2 p.1 ?_).trans e, n, ne, nf, d⟩
      intro q
      rw [q, hoc] at e
      have q' : oc = p.2 := Option.some.inj e
      exact d w' (by rw [← q']; exact hocd)
theorem store_ok {M : Model} {A : Around} {E : Value → Shared → Prop} {i : Nat} {x : Str} {v : V} {u : Value} {Q : Unit → Shared → Prop} (I : Inv X pins σ H s) (hN : X.N.Nodup) (hi : X.N[i]? = some x) (hx : Loc X.env.scope x) (r : RelV v u)
    (h : ∀ s', Inv X pins (σ.set i (some v)) H s' → Q () s') (hf : X.fn x = true ∨ X.env.scope.names.lookup x = some .local := by first | exact .inl rfl | exact .inr rfl | assumption) : wpAny M A (storeName X.env x u) Q E s :=
  store_ok2 I hN hi hx r (fun s' I' _ => h s' I') hf
/-- behind a call or a block, the state as it is -/
theorem Inv.call' {s' : Shared} {ch : List Addr} (I : Inv X pins σ H s) (ho : s'.os = s.os) (u : Un (frs X.stack) ch H H' s.heap s'.heap) (hok : HOk X.prog X.w H' s'.heap) (hg : AllBare s'.gens)
    (hch : ∀ b ∈ ch, (b ∈ X.ex ∨ X.s₀.heap.objs.size ≤ b) ∧ b ≠ X.env.locals ∧ (∀ x c, X.env.cells.lookup x = some c → c ≠ b) ∧ ∀ p ∈ X.pn ++ pins, p.1 ≠ b) : Inv X pins σ H' s' := by
  obtain ⟨h', g', d', t', o'⟩ := s'
  have e : o' = s.os := ho
  subst e
  exact I.call (g' := g') (t' := t') (d' := d') u hok hg hch
end

/-! ### the judgements -/
/-- an exception: its class, its own dict's address (where it has one), the abstract heap behind it -/
abbrev XK := Value → Option Addr → Hp → Prop
abbrev St := List (Option V)
abbrev VK := V → Hp → Prop
/-- an expression's reading; a test's; an argument list's -/
abbrev TE := St → Hp → VK → Prop
abbrev TT := St → Hp → (Bool → Hp → Prop) → Prop
abbrev TA := St → Hp → (List V → Hp → Prop) → Prop
/-- what is wanted behind a statement -/
structure Ends where
  nx : St → Hp → Prop
  rt : VK
  bk : St → Hp → Prop := fun _ _ => False
  ct : St → Hp → Prop := fun _ _ => False
abbrev TS := Ends → St → Hp → Prop

def EP (X : Cx) (pins : List (Addr × Obj)) (σ : St) (Q : VK) (u : Value) (s' : Shared) : Prop := ∃ v H', Inv X pins σ H' s' ∧ RelV v u ∧ Q v H'
def TP (X : Cx) (pins : List (Addr × Obj)) (σ : St) (Q : Bool → Hp → Prop) (b : Bool) (s' : Shared) : Prop := ∃ H', Inv X pins σ H' s' ∧ Q b H'
def AP (X : Cx) (pins : List (Addr × Obj)) (σ : St) (Q : List V → Hp → Prop) (us : List Value) (s' : Shared) : Prop := ∃ vs H', Inv X pins σ H' s' ∧ Vals vs us ∧ Q vs H'
def SP (X : Cx) (pins : List (Addr × Obj)) (D : Ends) (f : Flow) (s' : Shared) : Prop :=
  match f with
  | .next => ∃ σ' H', Inv X pins σ' H' s' ∧ D.nx σ' H'
  | .brk => ∃ σ' H', Inv X pins σ' H' s' ∧ D.bk σ' H'
  | .cont => ∃ σ' H', Inv X pins σ' H' s' ∧ D.ct σ' H'
  | .ret u => ∃ v σ' H', Inv X pins σ' H' s' ∧ RelV v u ∧ D.rt v H'

def PE (X : Cx) (e : Expr) (t : TE) : Prop :=
  ∀ (pins : List (Addr × Obj)) (s : Shared) (σ : St) (H : Hp) (Q : VK), Inv X pins σ H s → t σ H Q → wpAny (model X.prog X.w) X.A (eval e X.env) (EP X pins σ Q) X.xe s
def PT (X : Cx) (e : Expr) (t : TT) : Prop :=
  ∀ (pins : List (Addr × Obj)) (s : Shared) (σ : St) (H : Hp) (Q : Bool → Hp → Prop), Inv X pins σ H s → t σ H Q → wpAny (model X.prog X.w) X.A (isTrue e X.env (eval e X.env)) (TP X pins σ Q) X.xe s
/-- a test whatever its 'whole' is (and, or) -/
def PW (X : Cx) (e : Expr) (t : TT) : Prop :=
  ∀ (whole : Sem Value) (pins : List (Addr × Obj)) (s : Shared) (σ : St) (H : Hp) (Q : Bool → Hp → Prop), Inv X pins σ H s → t σ H Q → wpAny (model X.prog X.w) X.A (isTrue e X.env whole) (TP X pins σ Q) X.xe s
theorem PW.pt {X : Cx} {e : Expr} {t : TT} (h : PW X e t) : PT X e t := h _
/-- an argument list (no star), from the left -/
def PA (X : Cx) (es : List Expr) (t : TA) : Prop :=
  ∀ (pos : Pos) (pins : List (Addr × Obj)) (s : Shared) (σ : St) (H : Hp) (Q : List V → Hp → Prop), Inv X pins σ H s → t σ H Q → wpAny (model X.prog X.w) X.A (spliced (backTo pos (starEach es X.env))) (AP X pins σ Q) X.xe s
def PS (X : Cx) (st : Stmt) (t : TS) : Prop :=
  ∀ (pins : List (Addr × Obj)) (s : Shared) (σ : St) (H : Hp) (D : Ends), Inv X pins σ H s → t D σ H → wpAny (model X.prog X.w) X.A (exec st X.env) (SP X pins D) X.xe s
def PSs (X : Cx) (st : List Stmt) (t : TS) : Prop :=
  ∀ (pins : List (Addr × Obj)) (s : Shared) (σ : St) (H : Hp) (D : Ends), Inv X pins σ H s → t D σ H → wpAny (model X.prog X.w) X.A (execs st X.env) (SP X pins D) X.xe s
/-- weaken the end -/
theorem thn {α : Type} {t : Sem α} {Q Q' : α → Shared → Prop} {M : Model} {A : Around} {E : Value → Shared → Prop} {s : Shared} (h : wpAny M A t Q E s) (hQ : ∀ a s, Q a s → Q' a s) : wpAny M A t Q' E s := wpAny_mono h hQ fun _ _ x => x
end L2

namespace L2
open PySem PySem.Spec PyProof.Rows
section
variable {X : Cx}

/-! ### names and constants -/
def tVar (i : Nat) : TE := fun σ H Q => ∃ v, σ[i]? = some (some v) ∧ Q v H
def tC (v : V) : TE := fun _ H Q => Q v H
theorem pe_var {i : Nat} {x : Str} {pos : Pos} (hN : X.N[i]? = some x) (hv : Vis X.env.scope x) (hd : (x == ("__debug__" : Str)) = false := by decide) (hcd : (x == ("__classdict__" : Str)) = false := by decide) : PE X (.Name x pos) (tVar i) := by
  intro pins s σ H Q I h
  obtain ⟨v, e, h⟩ := h
  obtain ⟨m, hn, hl⟩ := I.loc
  obtain ⟨u, r, l⟩ := hl i x v hN e hv
  have fin : EP X pins σ Q u s := ⟨v, H, I, r, h⟩
  rcases l with ⟨hk, hm⟩ | ⟨hk, c, hc, hcell⟩
  · exact wpAny_Name (wpAny_loadName_local I.ok.kind hk hn hm fin) hd
  · rcases hk with hk | hk
    · exact wpAny_Name (wpAny_loadName_cell I.ok.kind hk hc hcell fin) hd
    · exact wpAny_Name (wpAny_loadName_free I.ok.kind hk hc hcell fin hcd) hd
theorem pe_int {i j pos} : PE X (.Constant (.int i) j pos) (tC (.int i)) := fun _ _ _ H _ I h => wpAny_Constant_int ⟨.int i, H, I.tok _, ⟨_, rfl⟩, h⟩
theorem pe_bl {b j pos} : PE X (.Constant (.bool b) j pos) (tC (.bl b)) := fun _ _ _ H _ I h => Constant_bool ⟨.bl b, H, I, rfl, h⟩
theorem pe_str {x j pos} : PE X (.Constant (.str x) j pos) (tC (.str x)) := fun _ _ _ H _ I h => Calls.Constant_str ⟨.str x, H, I.tok _, ⟨_, rfl⟩, h⟩

/-- a global name of the def -/
def Gl (X : Cx) (x : Str) : Prop := X.env.kindOf x = some .globalImplicit
theorem ld_glob {E : Value → Shared → Prop} {pins : List (Addr × Obj)} {s : Shared} {σ : St} {H : Hp} {x : Str} {u : Value} {pos : Pos} {Q : Value → Shared → Prop} (I : Inv X pins σ H s) (hg : Gl X x) (hm : X.mg x = some u) (h : Q u s)
    (hd : (x == ("__debug__" : Str)) = false := by decide) : wpAny (model X.prog X.w) X.A (eval (.Name x pos) X.env) Q E s :=
  Calls.Name_function_global I.ok.kind hg (Calls.loadGlobal_global (by rw [I.ok.glob]; exact I.mod.glob.keeps I.bk) hm h) hd
theorem ld_blt {E : Value → Shared → Prop} {pins : List (Addr × Obj)} {s : Shared} {σ : St} {H : Hp} {x : Str} {u : Value} {pos : Pos} {Q : Value → Shared → Prop} (I : Inv X pins σ H s) (hg : Gl X x) (hm : X.mg x = none) (hv : bootBuiltins x = some u) (h : Q u s)
    (hn : x ≠ "__name__" := by decide) (hd : (x == ("__debug__" : Str)) = false := by decide) : wpAny (model X.prog X.w) X.A (eval (.Name x pos) X.env) Q E s := by
  obtain ⟨mb, h1, h2⟩ := I.mod.blt
  exact Calls.Name_function_global I.ok.kind hg (Calls.loadGlobal_builtin (by rw [I.ok.glob]; exact I.mod.glob.keeps I.bk) hm (by rw [I.ok.blt]; exact h1.keeps I.bk) ((h2 x hn).trans hv) h) hd
/-- a module's constant, a class, a function, as a value -/
theorem pe_glob {x : Str} {v : V} {u : Value} {pos : Pos} (hg : Gl X x) (hm : X.mg x = some u) (r : RelV v u) (hd : (x == ("__debug__" : Str)) = false := by decide) : PE X (.Name x pos) (tC v) :=
  fun _ _ _ H _ I h => ld_glob I hg hm ⟨v, H, I, r, h⟩ hd
theorem pe_bltn {x : Str} {v : V} {u : Value} {pos : Pos} (hg : Gl X x) (hm : X.mg x = none) (hv : bootBuiltins x = some u) (r : RelV v u) (hn : x ≠ "__name__" := by decide) (hd : (x == ("__debug__" : Str)) = false := by decide) : PE X (.Name x pos) (tC v) :=
  fun _ _ _ H _ I h => ld_blt I hg hm hv ⟨v, H, I, r, h⟩ hn hd

/-! ### arithmetic -/
variable {a b : Expr} {ta tb : TE} {pos : Pos}
/-! ### comparisons -/
def PC (X : Cx) (op : CmpOp) (a b : Expr) (t : TE) : Prop :=
  ∀ (pins : List (Addr × Obj)) (s : Shared) (σ : St) (H : Hp) (Q : VK), Inv X pins σ H s → t σ H Q →
    wpAny (model X.prog X.w) X.A (eval a X.env) (fun v s₁ => wpAny (model X.prog X.w) X.A (eval b X.env) (fun u s₂ => wpAny (model X.prog X.w) X.A (compareOp op v u) (EP X pins σ Q) X.xe s₂) X.xe s₁) X.xe s
/-! ### and, or, not -/
variable {tA tB' : TT} {rest : List Expr}
def tAnd (t u : TT) : TT := fun σ H Q => t σ H fun c H1 => if c = true then u σ H1 Q else Q false H1
def tOr (t u : TT) : TT := fun σ H Q => t σ H fun c H1 => if c = true then Q true H1 else u σ H1 Q
def tNot (t : TT) : TT := fun σ H Q => t σ H fun c H1 => Q (!c) H1
theorem pw_and1 (ha : PT X a tA) : PW X (.BoolOp .And [a] pos) tA := by
  intro wh pins s σ H Q I h
  refine isTrue_and (thn (ha pins s σ H Q I h) fun c s1 e => ?_)
  cases c with
  | true => exact isTrue_and_nil e
  | false => exact e
theorem pw_or1 (ha : PT X a tA) : PW X (.BoolOp .Or [a] pos) tA := by
  intro wh pins s σ H Q I h
  refine isTrue_or (thn (ha pins s σ H Q I h) fun c s1 e => ?_)
  cases c with
  | false => exact isTrue_or_nil e
  | true => exact e
theorem pw_and (ha : PT X a tA) (hb : PW X (.BoolOp .And (b :: rest) pos) tB') : PW X (.BoolOp .And (a :: b :: rest) pos) (tAnd tA tB') := by
  intro wh pins s σ H Q I h
  refine isTrue_and (thn (ha pins s σ H _ I h) fun c s1 ⟨H1, I1, q1⟩ => ?_)
  cases c with
  | true => exact hb wh pins s1 σ H1 Q I1 q1
  | false => exact ⟨H1, I1, q1⟩
theorem pw_or (ha : PT X a tA) (hb : PW X (.BoolOp .Or (b :: rest) pos) tB') : PW X (.BoolOp .Or (a :: b :: rest) pos) (tOr tA tB') := by
  intro wh pins s σ H Q I h
  refine isTrue_or (thn (ha pins s σ H _ I h) fun c s1 ⟨H1, I1, q1⟩ => ?_)
  cases c with
  | true => exact ⟨H1, I1, q1⟩
  | false => exact hb wh pins s1 σ H1 Q I1 q1
theorem pt_not (ha : PT X a tA) : PT X (.UnaryOp .Not a pos) (tNot tA) := by
  intro pins s σ H Q I h
  exact isTrue_not (ha pins s σ H (fun c H1 => Q (!c) H1) I h)
/-- .. as values (bools) -/
def tAndV (ta tb : TE) : TE := fun σ H Q => ta σ H fun x H1 => ∃ c, x = .bl c ∧ if c = true then tb σ H1 Q else Q (.bl false) H1
theorem pe_one {op} {t : TE} (h : PE X a t) : PE X (.BoolOp op [a] pos) t := fun pins s σ H Q I hw => BoolOp_one (h pins s σ H Q I hw)
theorem pe_and (ha : PE X a ta) (hb : PE X (.BoolOp .And (b :: rest) pos) tb) : PE X (.BoolOp .And (a :: b :: rest) pos) (tAndV ta tb) := by
  intro pins s σ H Q I h
  refine BoolOp_and (thn (ha pins s σ H _ I h) fun v s1 ⟨x, H1, I1, r1, q1⟩ => ?_)
  obtain ⟨c, rfl, q1⟩ := q1
  cases r1
  refine wpAny_truthy_bool ?_
  cases c with
  | true => exact hb pins s1 σ H1 Q I1 q1
  | false => exact ⟨.bl false, H1, I1, rfl, q1⟩
/-- a if t else b -/
def tIf (t : TT) (ta tb : TE) : TE := fun σ H Q => t σ H fun c H1 => if c = true then ta σ H1 Q else tb σ H1 Q
theorem pe_ifExp {c : Expr} (hc : PT X c tA) (ha : PE X a ta) (hb : PE X b tb) : PE X (.IfExp c a b pos) (tIf tA ta tb) := by
  intro pins s σ H Q I h
  refine wpAny_IfExp (thn (hc pins s σ H _ I h) fun d s1 ⟨H1, I1, q1⟩ => ?_)
  cases d with
  | true => exact ha pins s1 σ H1 Q I1 q1
  | false => exact hb pins s1 σ H1 Q I1 q1
end
end L2

namespace L2
open PySem PySem.Spec PyProof.Rows

/-! ### a list, a tuple that is read: tracked, frozen, or an object of the module -/
def SqL (K : PySem.W.Frag) (H : Hp) (a : Addr) (xs : List V) : Prop :=
  Rd H a (.lst xs) ∨
    ∃ (o : Obj) (its : Array Value) (n : Nat), K.lookup a = some o ∧ o.cls = .type "list" ∧ o.dict = none ∧ o.data = .seq its n ∧ its.size ≤ sizeLine ∧ Vals xs its.toList
def SqT (K : PySem.W.Frag) (H : Hp) (a : Addr) (xs : List V) : Prop :=
  Rd H a (.tup xs) ∨
    ∃ (o : Obj) (its : Array Value) (n : Nat), K.lookup a = some o ∧ o.cls = .type "tuple" ∧ o.data = .seq its n ∧ its.size ≤ sizeLine ∧ Vals xs its.toList
def absV : Value → Option V
  | .none => some .non
  | .bool b => some (.bl b)
  | .int i _ => some (.int i)
  | .str x _ => some (.str x)
  | .bytes b _ => some (.byt b)
  | .float b _ => some (.flt b)
  | .ref a => some (.ref a)
  | .type n => some (.ty n)
  | _ => none
theorem RelV.abs {x : V} {u : Value} (r : RelV x u) : absV u = some x := by
  cases x with
  | non => cases r; rfl
  | bl _ => cases r; rfl
  | int _ => obtain ⟨t, rfl⟩ := r; rfl
  | str _ => obtain ⟨t, rfl⟩ := r; rfl
  | byt _ => obtain ⟨t, rfl⟩ := r; rfl
  | flt _ => obtain ⟨t, rfl⟩ := r; rfl
  | ref _ => cases r; rfl
  | ty _ => cases r; rfl
theorem RelV.inj {x y : V} {u : Value} (r : RelV x u) (q : RelV y u) : x = y := Option.some.inj (r.abs.symm.trans q.abs)
theorem Vals.inj : ∀ {xs ys : List V} {us : List Value}, Vals xs us → Vals ys us → xs = ys
  | _, _, _, .nil, .nil => rfl
  | _, _, _, .cons r t, .cons r' t' => by rw [r.inj r', Vals.inj t t']
section
variable {X : Cx} {pins : List (Addr × Obj)} {σ : St} {H : Hp} {s : Shared} {a : Addr} {xs ys : List V}
theorem SqL.of {K : PySem.W.Frag} (h : H a = some (.lst xs)) : SqL K H a xs := .inl (.inl h)
theorem SqT.of {K : PySem.W.Frag} (h : H a = some (.tup xs)) : SqT K H a xs := .inl (.inl h)
theorem Inv.list (I : Inv X pins σ H s) (h : SqL X.K H a xs) : ∃ its : List Value, Vals xs its ∧ PlainL s.heap a its.toArray ∧ xs.length ≤ sizeLine := by
  rcases h with h | ⟨o, its, n, hk, hc, hd, hs, hz, r⟩
  · obtain ⟨z, its, n, r, e⟩ := h.ok I.hok
    exact ⟨its, r, ⟨_, n, e, rfl, rfl, rfl⟩, z⟩
  · refine ⟨its.toList, r, ⟨o, n, I.kIn a o hk, hc, hd, by simpa using hs⟩, ?_⟩
    have e := r.length
    simp only [Array.length_toList] at e
    omega
theorem Inv.tuple (I : Inv X pins σ H s) (h : SqT X.K H a xs) : ∃ its : List Value, Vals xs its ∧ IsTup s.heap a its.toArray ∧ xs.length ≤ sizeLine := by
  rcases h with h | ⟨o, its, n, hk, hc, hs, hz, r⟩
  · obtain ⟨z, its, r, p⟩ := h.ok I.hok
    exact ⟨its, r, p, z⟩
  · refine ⟨its.toList, r, ⟨o, I.kIn a o hk, hc, n, by simpa using hs⟩, ?_⟩
    have e := r.length
    simp only [Array.length_toList] at e
    omega
theorem Inv.list_inj (I : Inv X pins σ H s) (h : SqL X.K H a xs) (h' : SqL X.K H a ys) : xs = ys := by
  obtain ⟨its, r, ⟨o, n, e, _, _, d⟩, _⟩ := I.list h
  obtain ⟨its', r', ⟨o', n', e', _, _, d'⟩, _⟩ := I.list h'
  rw [e] at e'; cases e'
  rw [d] at d'
  injection d' with d1 _
  have : its = its' := by simpa using congrArg Array.toList d1
  subst this
  exact r.inj r'
end

/-! ### another wish about exceptions -/
abbrev Cx.wish (X : Cx) (E : Value → Shared → Prop) : Cx := { X with xe := E }
/-- no exception leaves -/
abbrev Cx.nox (X : Cx) : Cx := X.wish fun _ _ => False
theorem Cx.Ok.wish {X : Cx} (ok : X.Ok) (E : Value → Shared → Prop) : (X.wish E).Ok :=
  ⟨ok.mod, ok.kind, ok.glob, ok.blt, ok.above, ok.inj, ok.has, ok.cab, ok.hd, ok.frames, ok.stk, ok.exf, ok.bs, ok.bsz, ok.noex, ok.exfs, ok.funs, ok.frf⟩
theorem Cx.Ok.unwish {X : Cx} {E : Value → Shared → Prop} (ok : (X.wish E).Ok) : X.Ok :=
  ⟨ok.mod, ok.kind, ok.glob, ok.blt, ok.above, ok.inj, ok.has, ok.cab, ok.hd, ok.frames, ok.stk, ok.exf, ok.bs, ok.bsz, ok.noex, ok.exfs, ok.funs, ok.frf⟩
section
variable {X : Cx} {pins : List (Addr × Obj)} {σ : St} {H : Hp} {s : Shared} {E : Value → Shared → Prop}
theorem Inv.wish (I : Inv X pins σ H s) (E : Value → Shared → Prop) : Inv (X.wish E) pins σ H s := ⟨I.ok.wish E, I.os, I.bare, I.base, I.loc, I.cell, I.free, I.freeC, I.pin, I.hok, I.len⟩
theorem Inv.unwish (I : Inv (X.wish E) pins σ H s) : Inv X pins σ H s := ⟨I.ok.unwish, I.os, I.bare, I.base, I.loc, I.cell, I.free, I.freeC, I.pin, I.hok, I.len⟩
theorem SP.unwish {D : Ends} {f : Flow} {s' : Shared} (h : SP (X.wish E) pins D f s') : SP X pins D f s' := by
  cases f with
  | next => obtain ⟨σ', H', I, q⟩ := h; exact ⟨σ', H', I.unwish, q⟩
  | brk => obtain ⟨σ', H', I, q⟩ := h; exact ⟨σ', H', I.unwish, q⟩
  | cont => obtain ⟨σ', H', I, q⟩ := h; exact ⟨σ', H', I.unwish, q⟩
  | ret u => obtain ⟨v, σ', H', I, r, q⟩ := h; exact ⟨v, σ', H', I.unwish, r, q⟩
theorem PE.nox {e : Expr} {t : TE} (h : PE X.nox e t) : PE X e t := fun pins s σ H Q I hw =>
  wpAny_mono (h pins s σ H Q (I.wish _) hw) (fun _ _ ⟨v, H', I', r, q⟩ => ⟨v, H', I'.unwish, r, q⟩) fun _ _ z => False.elim z
theorem PT.nox {e : Expr} {t : TT} (h : PT X.nox e t) : PT X e t := fun pins s σ H Q I hw =>
  wpAny_mono (h pins s σ H Q (I.wish _) hw) (fun _ _ ⟨H', I', q⟩ => ⟨H', I'.unwish, q⟩) fun _ _ z => False.elim z
theorem PSs.nox {st : List Stmt} {t : TS} (h : PSs X.nox st t) : PSs X st t := fun pins s σ H D I hw =>
  wpAny_mono (h pins s σ H D (I.wish _) hw) (fun _ _ q => q.unwish) fun _ _ z => False.elim z
end

/-! ### blocks and small statements -/
section
variable {X : Cx} {st : Stmt} {rest : List Stmt} {t u : TS} {e : Expr} {te : TE} {pos : Pos}
def tNext : TS := fun D σ H => D.nx σ H
def tSeq (t u : TS) : TS := fun D σ H => t { D with nx := u D } σ H
theorem pss_nil : PSs X [] tNext := fun _ _ σ H _ I h => wpAny_execs_nil ⟨σ, H, I, h⟩
theorem pss_cons (h1 : PS X st t) (h2 : PSs X rest u) : PSs X (st :: rest) (tSeq t u) := by
  intro pins s σ H D I h
  refine wpAny_execs_cons (thn (h1 pins s σ H { D with nx := u D } I h) fun f s1 q => ?_)
  cases f with
  | next =>
    obtain ⟨σ', H', I', q⟩ := q
    exact h2 pins s1 σ' H' D I' q
  | ret v => exact q
  | brk => exact q
  | cont => exact q
theorem pss_one (h1 : PS X st t) : PSs X [st] t := by
  intro pins s σ H D I h
  refine wpAny_execs_cons (thn (h1 pins s σ H D I h) fun f s1 q => ?_)
  cases f with
  | next => exact wpAny_execs_nil q
  | ret v => exact q
  | brk => exact q
  | cont => exact q
/-- in a def's body nothing is shown -/
theorem Inv.quiet {pins : List (Addr × Obj)} {σ : St} {H : Hp} {s : Shared} (I : Inv X pins σ H s) : interactive X.env = false := by simp [interactive, I.ok.kind]
/-- an expression whose value is dropped -/
def tDrop (te : TE) : TS := fun D σ H => te σ H fun _ H1 => D.nx σ H1
theorem ps_expr (he : PE X e te) (hs : swapsWith e none pos.line X.env = pure false := by rfl) : PS X (.Expr e pos) (tDrop te) := by
  intro pins s σ H D I h
  exact wpAny_Expr_any (thn (he pins s σ H _ I h) fun v s1 ⟨x, H1, I1, r1, q1⟩ => ⟨σ, H1, I1, q1⟩) I.quiet hs
def tRet (te : TE) : TS := fun D σ H => te σ H D.rt
theorem ps_ret (he : PE X e te) : PS X (.Return (some e) pos) (tRet te) := by
  intro pins s σ H D I h
  exact wpAny_Return_some (thn (he pins s σ H _ I h) fun v s1 ⟨x, H1, I1, r1, q1⟩ => ⟨x, σ, H1, I1, r1, q1⟩)
def tIfS (c : TT) (t u : TS) : TS := fun D σ H => c σ H fun b H1 => if b = true then t D σ H1 else u D σ H1
theorem ps_if {c : Expr} {a b : List Stmt} {tc : TT} (hc : PT X c tc) (ha : PSs X a t) (hb : PSs X b u) : PS X (.If c a b pos) (tIfS tc t u) := by
  intro pins s σ H D I h
  refine wpAny_If (thn (hc pins s σ H _ I h) fun d s1 ⟨H1, I1, q1⟩ => ?_)
  cases d with
  | true => exact ha pins s1 σ H1 D I1 q1
  | false => exact hb pins s1 σ H1 D I1 q1
/-- code that the proof never comes to -/
def tNever : TS := fun _ _ _ => False
theorem ps_never : PS X st tNever := fun _ _ _ _ _ _ h => h.elim
end

/-! ### targets -/
abbrev TG := V → St → Hp → (St → Hp → Prop) → Prop
abbrev TGs := List V → St → Hp → (St → Hp → Prop) → Prop
def PG (X : Cx) (target : Expr) (t : TG) : Prop :=
  ∀ (pins : List (Addr × Obj)) (s : Shared) (σ : St) (H : Hp) (v : V) (u : Value) (Q : St → Hp → Prop), Inv X pins σ H s → RelV v u → t v σ H Q →
    wpAny (model X.prog X.w) X.A (assign target X.env u) (fun _ s' => ∃ σ' H', Inv X pins σ' H' s' ∧ Q σ' H') X.xe s
/-- several targets, one after another -/
def PGs (X : Cx) (ts : List Expr) (t : TGs) : Prop :=
  ∀ (pins : List (Addr × Obj)) (s : Shared) (σ : St) (H : Hp) (vs : List V) (us : List Value) (Q : St → Hp → Prop), Inv X pins σ H s → Vals vs us → t vs σ H Q →
    wpAny (model X.prog X.w) X.A (assignInOrder ((assignEach ts X.env).map (·.2)) us) (fun _ s' => ∃ σ' H', Inv X pins σ' H' s' ∧ Q σ' H') X.xe s
/-- o[i] = v, by values -/
abbrev TSet := V → V → V → Hp → (Hp → Prop) → Prop
def PSet (X : Cx) (t : TSet) : Prop :=
  ∀ (pins : List (Addr × Obj)) (s : Shared) (σ : St) (H : Hp) (o i v : V) (ov iv u : Value) (Q : Hp → Prop), Inv X pins σ H s → RelV o ov → RelV i iv → RelV v u → t o i v H Q →
    wpAny (model X.prog X.w) X.A (setItem ov iv u) (fun _ s' => ∃ H', Inv X pins σ H' s' ∧ Q H') X.xe s
section
variable {X : Cx} {pos : Pos}
def gName (i : Nat) : TG := fun v σ H Q => Q (σ.set i (some v)) H
theorem pg_name {i : Nat} {x : Str} (hN : X.N.Nodup) (hi : X.N[i]? = some x) (hx : Loc X.env.scope x) (hf : X.fn x = true ∨ X.env.scope.names.lookup x = some .local := by first | exact .inl rfl | exact .inr rfl | assumption) : PG X (.Name x pos) (gName i) := by
  intro pins s σ H v u Q I r h
  exact wpAny_assign_Name (store_ok I hN hi hx r (fun s' I' => ⟨_, H, I', h⟩) hf)
def gNil : TGs := fun vs σ H Q => vs = [] ∧ Q σ H
def gCons (t : TG) (u : TGs) : TGs := fun vs σ H Q => ∃ v r, vs = v :: r ∧ t v σ H fun σ' H' => u r σ' H' Q
theorem pgs_nil : PGs X [] gNil := by
  intro pins s σ H vs us Q I r h
  obtain ⟨e, h⟩ := h
  subst e
  cases r
  exact assignInOrder_nil ⟨σ, H, I, h⟩
theorem pgs_cons {e : Expr} {es : List Expr} {t : TG} {u : TGs} (h1 : PG X e t) (h2 : PGs X es u)
    (hs : (assignEach (e :: es) X.env).map (·.2) = assign e X.env :: (assignEach es X.env).map (·.2) := by rfl) : PGs X (e :: es) (gCons t u) := by
  intro pins s σ H vs us Q I r h
  obtain ⟨v, vr, e1, h⟩ := h
  subst e1
  cases r with
  | cons r rr =>
    rw [hs]
    refine assignInOrder_cons (thn (h1 pins s σ H _ _ _ I r h) fun _ s1 ⟨σ1, H1, I1, q1⟩ => ?_)
    exact h2 pins s1 σ1 H1 _ _ Q I1 rr q1
/-- (a, b, ..) = a tuple of that length -/
def gTup (K : PySem.W.Frag) (n : Nat) (t : TGs) : TG := fun v σ H Q => ∃ a xs, v = .ref a ∧ SqT K H a xs ∧ xs.length = n ∧ t xs σ H Q
theorem pg_tup {es : List Expr} {k : Nat} {t : TGs} {n : Nat} (hc : X.calm = true) (h : PGs X es t)
    (hn : (assignEach es X.env).length = n := by rfl) (hst : (assignEach es X.env).findIdx? (·.1) = none := by rfl) : PG X (.Tuple es k pos) (gTup X.K n t) := by
  intro pins s σ H v u Q I r hw
  obtain ⟨a, xs, e1, hq, hl, hw⟩ := hw
  subst e1
  cases r
  obtain ⟨its, rv, ht, hz⟩ := I.tuple hq
  refine assign_Tuple_tuple (I.ok.hd hc) ht (by simp [hn, ← hl, rv.length]) hst fun h' hx => ?_
  have I1 : Inv X pins σ H { s with heap := h' } := I.kept (t' := s.toks) fun b o e => hx b o (Nat.ne_of_lt (Heap.lt_size e)) e
  exact h pins _ σ H xs _ Q I1 (by simpa using rv) hw
/-- o[i] = .. -/
def gSub (to ti : TE) (t : TSet) : TG := fun v σ H Q => to σ H fun o H1 => ti σ H1 fun i H2 => t o i v H2 fun H3 => Q σ H3
theorem pg_sub {o i : Expr} {to ti : TE} {t : TSet} (ho : PE X o to) (hi : PE X i ti) (hs : PSet X t)
    (ha : ∀ v, assign (.Subscript o i pos) X.env v = (do
      let ov ← holding [v] (eval o X.env)
      let iv ← holding [v, ov] (eval i X.env)
      standAt pos
      holding [v, ov, iv] (setItem ov iv v)
      release [v, ov, iv] []) := by intro _; rfl) : PG X (.Subscript o i pos) (gSub to ti t) := by
  intro pins s σ H v u Q I r h
  rw [ha]
  refine wpAny_bind (wpAny_holding (thn (ho pins s σ H _ I h) fun ov s1 ⟨x, H1, I1, r1, q1⟩ => ?_))
  refine wpAny_bind (wpAny_holding (thn (hi pins s1 σ H1 _ I1 q1) fun iv s2 ⟨y, H2, I2, r2, q2⟩ => ?_))
  refine wpAny_bind (wpAny_standAt (wpAny_bind (wpAny_holding (thn (hs pins s2 σ H2 x y v ov iv u _ I2 r1 r2 r q2) fun _ s3 ⟨H3, I3, q3⟩ => ?_))))
  exact wpAny_release ⟨σ, H3, I3, q3⟩
/-- target = value -/
def tAsg (te : TE) (g : TG) : TS := fun D σ H => te σ H fun x H1 => g x σ H1 D.nx
theorem ps_asg {tg e : Expr} {te : TE} {g : TG} (he : PE X e te) (hg : PG X tg g) (hs : swapsWithSole [tg] e pos.line X.env = pure false := by rfl) (hw : swappedStores [tg] e X.env = pure none := by rfl)
    (h1 : (assignEach [tg] X.env).map (·.2) = [assign tg X.env] := by rfl) : PS X (.Assign [tg] e pos) (tAsg te g) := by
  intro pins s σ H D I h
  refine wpAny_Assign_stores (thn (he pins s σ H _ I h) fun v s1 ⟨x, H1, I1, r1, q1⟩ => ?_) hs hw
  rw [h1]
  exact thn (hg pins s1 σ H1 x v _ I1 r1 q1) fun _ s2 q => q
/-- name = value -/
theorem ps_set {i : Nat} {x : Str} {e : Expr} {te : TE} {pos' : Pos} (hN : X.N.Nodup) (hi : X.N[i]? = some x) (hx : Loc X.env.scope x) (he : PE X e te) (hs : swapsWith e (some (.Name x pos')) pos.line X.env = pure false := by rfl) (hf : X.fn x = true ∨ X.env.scope.names.lookup x = some .local := by first | exact .inl rfl | exact .inr rfl | assumption) :
    PS X (.Assign [.Name x pos'] e pos) (tAsg te (gName i)) := by
  intro pins s σ H D I h
  refine wpAny_Assign_Name (thn (he pins s σ H _ I h) fun v s1 ⟨y, H1, I1, r1, q1⟩ => ?_) hs
  exact store_ok I1 hN hi hx r1 (fun s2 I2 => ⟨_, H1, I2, q1⟩) hf
/-- a, b = x, y with plain local names: stored from the right; the pair itself is not tracked (the opening rows as in PyProof/Rows/TupAssign.lean:23) -/
def tPar (i j : Nat) (ta : TA) : TS := fun D σ H => ta σ H fun vs H1 => ∃ v w, vs = [v, w] ∧ D.nx ((σ.set i (some v)).set j (some w)) H1
theorem ps_par {i j : Nat} {x y : Str} {a b : Expr} {ta : TA} {px py pt : Pos} {kt k2 pt2} (hc : X.calm = true) (hN : X.N.Nodup) (hi : X.N[i]? = some x) (hj : X.N[j]? = some y) (hij : i ≠ j)
    (hx : X.env.scope.names.lookup x = some .local) (hy : X.env.scope.names.lookup y = some .local) (ha : PA X [a, b] ta)
    (hw : swappedStores [.Tuple [.Name x px, .Name y py] kt pt] (.Tuple [a, b] k2 pt2) X.env = pure (some [x, y]))
    (hs : swapsWithSole [.Tuple [.Name x px, .Name y py] kt pt] (.Tuple [a, b] k2 pt2) pos.line X.env = pure false := by rfl) :
    PS X (.Assign [.Tuple [.Name x px, .Name y py] kt pt] (.Tuple [a, b] k2 pt2) pos) (tPar i j ta) := by
  intro pins s σ H D I h
  rw [exec_Assign_arm]
  refine wpAny_bind (wpAny_standAt ?_)
  rw [hs]
  refine wpAny_bind (wpAny_pure ?_)
  rw [if_neg (by decide)]
  refine wpAny_bind (Tuple_ (thn (ha _ pins s σ H _ I h) fun us s1 ⟨vs, H1, I1, r1, q1⟩ => ?_))
  obtain ⟨v, w, e1, q1⟩ := q1
  subst e1
  obtain ⟨u1, u2, rfl, rv, rw'⟩ : ∃ u1 u2, us = [u1, u2] ∧ RelV v u1 ∧ RelV w u2 := by
    cases r1 with
    | cons p q =>
      cases q with
      | cons p' q' =>
        cases q'
        exact ⟨_, _, rfl, p, p'⟩
  refine wpAny_newObj_type ?_ (by show 2 ≤ sizeLine; decide)
  have I2 : Inv X pins σ H1 { s1 with heap := s1.heap.push { cls := .type "tuple", data := .seq [u1, u2].toArray } } := I1.kept (t' := s1.toks) fun b o e => Heap.get?_push_of_some _ e
  rw [hw]
  refine wpAny_bind (wpAny_pure ?_)
  show wpAny (model X.prog X.w) X.A (do rule "assign.swapped-stores"; let items ← unpackItems (.ref s1.heap.objs.size) 2 none; assignInOrder [fun v => bindName X.env y v, fun v => bindName X.env x v] items.reverse; pure Flow.next) _ _ _
  refine wpAny_bind (wpAny_rule (wpAny_bind (unpackItems_tuple (items := #[u1, u2]) (I.ok.hd hc) (IsTup.new s1.heap _) fun h' hx' => ?_)))
  have I3 := I2.kept (h' := h') (t' := s1.toks) fun b o e => hx' b o (Nat.ne_of_lt (Heap.lt_size e)) e
  show wpAny _ _ (assignInOrder [fun v => bindName X.env y v, fun v => bindName X.env x v] [u2, u1] >>= fun _ => pure Flow.next) _ _ _
  refine wpAny_bind (assignInOrder_cons (wpAny_bindName (store_ok I3 hN hj (.inl hy) rw' (fun s2 I4 => ?_) (.inr hy))))
  refine assignInOrder_cons (wpAny_bindName (store_ok I4 hN hi (.inl hx) rv (fun s3 I5 => assignInOrder_nil (wpAny_pure ?_)) (.inr hx)))
  rw [List.set_comm _ _ (Ne.symm hij)] at I5
  exact ⟨_, H1, I5, q1⟩
end

/-! ### while -/
section
variable {X : Cx} {pos : Pos}
/-- the invariant W with its measure -/
def tWhile (c : TT) (tb : TS) : TS := fun D σ H => ∃ W : Nat → St → Hp → Prop, (∃ m, W m σ H) ∧ ∀ m σ H, W m σ H →
  c σ H fun b H1 => if b = true then ∃ N : St → Hp → Prop, (∀ σ' H', N σ' H' → ∃ m', m' < m ∧ W m' σ' H') ∧ tb { D with nx := N, ct := N, bk := D.nx } σ H1 else D.nx σ H1
theorem ps_while {c : Expr} {body : List Stmt} {tc : TT} {tb : TS} (hp : PassesOwn (model X.prog X.w) X.A X.env X.xe) (hc : PT X c tc) (hb : PSs X body tb) : PS X (.While c body [] pos) (tWhile tc tb) := by
  intro pins s σ H D I h
  obtain ⟨W, ⟨m0, w0⟩, turn⟩ := h
  refine wpAny_While (codeAny_whileLoop (fun n s' => ∃ σ' H', Inv X pins σ' H' s' ∧ W n σ' H') ?_ m0 ⟨σ, H, I, w0⟩)
  rintro n s1 ⟨σ1, H1, I1, w1⟩
  refine wpAny_passesOwn hp (thn (hc pins s1 σ1 H1 _ I1 (turn n σ1 H1 w1)) fun b s2 ⟨H2, I2, q2⟩ => ?_)
  cases b with
  | true =>
    obtain ⟨N, hN, q2⟩ := q2
    rw [if_pos rfl]
    refine wpAny_passesOwn hp (thn (hb pins s2 σ1 H2 _ I2 q2) fun f s3 q3 => ?_)
    cases f with
    | next =>
      obtain ⟨σ3, H3, I3, n3⟩ := q3
      obtain ⟨m', hm, w3⟩ := hN σ3 H3 n3
      exact ⟨m', hm, σ3, H3, I3, w3⟩
    | cont =>
      obtain ⟨σ3, H3, I3, n3⟩ := q3
      obtain ⟨m', hm, w3⟩ := hN σ3 H3 n3
      exact ⟨m', hm, σ3, H3, I3, w3⟩
    | brk => exact q3
    | ret v => exact q3
  | false =>
    rw [if_neg Bool.false_ne_true]
    exact wpAny_execs_nil ⟨σ1, H2, I2, q2⟩
end

/-! ### what a loop or a comprehension walks -/
/-- at turn i: it yields x (the heap may grow), or it stops -/
structure It where
  go : Nat → Hp → Prop
  yld : Nat → Hp → V → Hp → Prop
  stop : Nat → Hp → Prop
/-- the iterator's own objects may turn: they are not the frame's, not pinned, younger than the entry (or a comprehension's own) -/
def FpOk (X : Cx) (pins : List (Addr × Obj)) (H : Hp) (b : Addr) : Prop :=
  H b = none ∧ b ≠ X.env.locals ∧ b ∉ X.fs ∧ (b ∈ X.ex ∨ X.s₀.heap.objs.size ≤ b) ∧ (∀ x c, X.env.cells.lookup x = some c → c ≠ b) ∧ ∀ p ∈ X.pn ++ pins, p.1 ≠ b
theorem Inv.fpOk {X : Cx} {pins : List (Addr × Obj)} {σ : St} {H H' : Hp} {s : Shared} {b : Addr} (I : Inv X pins σ H s) (hb : s.heap.objs.size ≤ b) (hn : H' b = none) : FpOk X pins H' b := by
  refine ⟨hn, Nat.ne_of_gt (Nat.lt_of_lt_of_le I.lt hb), I.nofs hb, .inr (Nat.le_trans I.sz hb), fun x c e z => ?_, fun p hp z => ?_⟩
  · obtain ⟨v, q⟩ := I.cell x c e
    exact absurd (Nat.lt_of_lt_of_le q.lt (by rw [z]; exact hb)) (Nat.lt_irrefl _)
  · exact absurd (Nat.lt_of_lt_of_le (Heap.lt_size (I.pin p hp).1) (by rw [z]; exact hb)) (Nat.lt_irrefl _)
structure Turn (P : Program) (w : World) (K : PySem.W.Frag) (tg : Expr) (J : It) (fp : List Addr) (it : Addr) (tn : Nat → Heap → Prop) : Prop where
  mem : it ∈ fp
  obj : ∀ i h, tn i h → ∀ b ∈ fp, ∃ o, h.get? b = some o ∧ ∀ v, o.data ≠ .cell v
  keep : ∀ i h h', tn i h → (∀ b ∈ fp, ∀ o, h.get? b = some o → h'.get? b = some o) → tn i h'
  item : ∀ (X : Cx), X.prog = P → X.w = w → X.K = K → X.calm = true → ∀ (i : Nat) (pins : List (Addr × Obj)) (s : Shared) (σ : St) (H : Hp) (E : Value → Shared → Prop), Inv X pins σ H s → (∀ b ∈ fp, FpOk X pins H b) → tn i s.heap → J.go i H →
    wpAny (model P w) X.A (pyNext (.ref it)) (fun r s1 => ∃ u, r = some u ∧
      wpAny (model P w) X.A (letOwnedTupleGo tg (.ref it) u) (fun _ s2 => ∃ x H', Inv X pins σ H' s2 ∧ RelV x u ∧ J.yld i H x H' ∧ tn (i + 1) s2.heap ∧ ∀ b ∈ fp, H' b = none) E s1) E s
  done : ∀ (X : Cx), X.prog = P → X.w = w → X.K = K → X.calm = true → ∀ (i : Nat) (pins : List (Addr × Obj)) (s : Shared) (σ : St) (H : Hp) (E : Value → Shared → Prop), Inv X pins σ H s → (∀ b ∈ fp, FpOk X pins H b) → tn i s.heap → J.stop i H →
    wpAny (model P w) X.A (pyNext (.ref it)) (fun r s1 => r = none ∧ Inv X pins σ H s1) E s
  self : ∀ (A : Around) (i : Nat) (s : Shared) (Q : Value → Shared → Prop) (E : Value → Shared → Prop), tn i s.heap → Q (.ref it) s → wpAny (model P w) A (pyIter (.ref it)) Q E s
abbrev TI := St → Hp → (It → Hp → Prop) → Prop
/-- an iterator has come -/
def PIE (X : Cx) (pins : List (Addr × Obj)) (σ : St) (tg : Expr) (R : It → Hp → Prop) (itv : Value) (s2 : Shared) : Prop :=
  ∃ (it : Addr) (fp : List Addr) (tn : Nat → Heap → Prop) (J : It) (H' : Hp), itv = .ref it ∧ Inv X pins σ H' s2 ∧ Turn X.prog X.w X.K tg J fp it tn ∧ tn 0 s2.heap ∧ (∀ b ∈ fp, FpOk X pins H' b) ∧ R J H'
def PI (X : Cx) (tg iter : Expr) (wi : TI) : Prop :=
  ∀ (pins : List (Addr × Obj)) (s : Shared) (σ : St) (H : Hp) (R : It → Hp → Prop), Inv X pins σ H s → wi σ H R →
    wpAny (model X.prog X.w) X.A (eval iter X.env) (fun v s1 => wpAny (model X.prog X.w) X.A (pyIter v) (PIE X pins σ tg R) X.xe s1) X.xe s

/-- the step ahead of the store is nothing for an iterator that keeps no tuple -/
theorem go_of {M : Model} {A : Around} {E : Value → Shared → Prop} {s : Shared} {tg : Expr} {it : Addr} {u : Value} {o : Obj} {n : String} {vs : Array Value} {Q : Unit → Shared → Prop} (ho : s.heap.get? it = some o) (hc : o.cls = .type n) (hd : o.data = .fields vs)
    (hn : ["enumerate", "zip", "dict_itemiterator", "dict_reverseitemiterator", "odict_iterator", "itertools.zip_longest", "itertools.pairwise"].contains n = false) (hQ : Q () s) : wpAny M A (letOwnedTupleGo tg (.ref it) u) Q E s := by
  unfold letOwnedTupleGo
  cases tg <;> first
    | exact wpAny_pure hQ
    | (cases u <;> first
        | exact wpAny_pure hQ
        | (refine wpAny_bind (wpAny_load ho ?_)
           rw [hc, hd]
           show wpAny M A (if (["enumerate", "zip", "dict_itemiterator", "dict_reverseitemiterator", "odict_iterator", "itertools.zip_longest", "itertools.pairwise"].contains n && vs[0]? == some (rawInt _)) = true then _ else _) Q E s
           rw [if_neg (by intro h; rw [hn, Bool.false_and] at h; cases h)]
           exact wpAny_pure hQ))

/-- the list at a, as it stands at each turn (a loop may append to it) -/
def Itl (K : PySem.W.Frag) (a : Addr) : It :=
  ⟨fun i H => ∃ xs x, SqL K H a xs ∧ xs[i]? = some x, fun i H x H' => H' = H ∧ ∀ xs, SqL K H a xs → xs[i]? = some x, fun i H => ∃ xs, SqL K H a xs ∧ xs.length ≤ i⟩
/-- lo, lo + 1, .. (n of them) -/
def Itr (lo : Int) (n : Nat) : It := ⟨fun i _ => i < n, fun i H x H' => H' = H ∧ x = .int (lo + i), fun i _ => n ≤ i⟩
theorem turn_list {P : Program} {w : World} {K : PySem.W.Frag} {tg : Expr} (a it : Addr) : Turn P w K tg (Itl K a) [it] it (fun i h => h.IsListIter it a i) where
  mem := by simp
  obj := fun i h st b hb => by
    have e : b = it := by simpa using hb
    subst e
    obtain ⟨o, e, c, d⟩ := st
    exact ⟨o, e, fun v z => by rw [d] at z; cases z⟩
  keep := fun i h h' st k => st.at fun o e => k it (by simp) o e
  item := by
    intro X hP hw hK hc i pins s σ H E I hf st hg
    subst hP hw hK
    obtain ⟨xs, x, hq, hx⟩ := hg
    obtain ⟨its, rv, p, hz⟩ := I.list hq
    obtain ⟨u, hu, ru⟩ := rv.get hx
    obtain ⟨f0, f1, f2, f3, f4, f5⟩ := hf it (by simp)
    refine wpAny_pyNext_list_item st p.isList (x := u) (by simpa using hu) fun h' st' sb => ?_
    have I1 : Inv X pins σ H { s with heap := h' } := I.turned (t' := s.toks) (fun b o hb e => (sb.2 b hb).trans e) f0 f1 f3 f4 f5
    obtain ⟨o, e, c, d⟩ := id st'
    exact ⟨u, rfl, go_of (s := { s with heap := h' }) e c d (by decide) ⟨x, H, I1, ru, ⟨rfl, fun ys hy => by rw [I.list_inj hy hq]; exact hx⟩, st', fun b hb => (hf b hb).1⟩⟩
  done := by
    intro X hP hw hK hc i pins s σ H E I hf st hg
    subst hP hw hK
    obtain ⟨xs, hq, hx⟩ := hg
    obtain ⟨its, rv, p, hz⟩ := I.list hq
    obtain ⟨f0, f1, f2, f3, f4, f5⟩ := hf it (by simp)
    have hl := rv.length
    exact wpAny_pyNext_list_end (I.ok.hd hc) st p.isList (by simp; omega) fun h' eb => ⟨rfl, I.turned (t' := s.toks) (fun b o hb e => eb b o hb e) f0 f1 f3 f4 f5⟩
  self := fun _ _ _ _ _ st h => wpAny_pyIter_listiter st h
theorem turn_range {P : Program} {w : World} {K : PySem.W.Frag} {tg : Expr} (it : Addr) (lo : Int) (n : Nat) : Turn P w K tg (Itr lo n) [it] it (fun i h => IsRangeIter h it (lo + (i : Nat) * 1) ((n : Int) - (i : Nat)) 1) where
  mem := by simp
  obj := fun i h st b hb => by
    have e : b = it := by simpa using hb
    subst e
    exact ⟨_, st, fun v z => by
      have z' : Data.fields _ = Data.cell v := z
      cases z'⟩
  keep := fun i h h' st k => k it (by simp) _ st
  item := by
    intro X hP hw hK hc i pins s σ H E I hf st hg
    subst hP hw hK
    obtain ⟨f0, f1, f2, f3, f4, f5⟩ := hf it (by simp)
    have W := Walks.range (prog := X.prog) (w := X.w) (I.ok.hd hc) it lo 1 n
    refine W.item i s _ _ hg st fun v h' tk hv st' kk => ?_
    obtain ⟨t, rfl⟩ := hv
    have I1 : Inv X pins σ H { s with heap := h', toks := tk } := I.turned (fun b o hb e => kk b o (by simpa using hb) e) f0 f1 f3 f4 f5
    refine ⟨_, rfl, go_of (s := { s with heap := h', toks := tk }) (n := "range_iterator") st' rfl rfl (by decide) ⟨.int (lo + i), H, I1, ⟨t, ?_⟩, ⟨rfl, rfl⟩, st', fun b hb => (hf b hb).1⟩⟩
    rw [Int.mul_one]
  done := by
    intro X hP hw hK hc i pins s σ H E I hf st hg
    subst hP hw hK
    obtain ⟨f0, f1, f2, f3, f4, f5⟩ := hf it (by simp)
    exact wpAny_pyNext_range_end (I.ok.hd hc) st (by have : n ≤ i := hg; omega) fun h' eb => ⟨rfl, I.turned (t' := s.toks) (fun b o hb e => eb b o hb e) f0 f1 f3 f4 f5⟩
  self := fun _ _ _ _ _ st h => wpAny_pyIter_rangeiter st h
end L2

namespace L2
open PySem PySem.Spec PyProof.Rows
section
variable {X : Cx} {tg : Expr}
def iList (K : PySem.W.Frag) (tl : TE) : TI := fun σ H R => tl σ H fun x H1 => ∃ a, x = .ref a ∧ (∃ xs, SqL K H1 a xs) ∧ R (Itl K a) H1
theorem pi_list {l : Expr} {tl : TE} (hl : PE X l tl) : PI X tg l (iList X.K tl) := by
  intro pins s σ H R I h
  refine thn (hl pins s σ H _ I h) fun v s1 ⟨x, H1, I1, r1, q1⟩ => ?_
  obtain ⟨a, e, ⟨xs, hq⟩, q⟩ := q1
  subst e
  cases r1
  obtain ⟨its, rv, p, hz⟩ := I1.list hq
  refine wpAny_pyIter_list p.isList ?_
  refine ⟨s1.heap.objs.size, [s1.heap.objs.size], _, _, H1, rfl, I1.kept (t' := s1.toks) fun b o e => Heap.get?_push_of_some _ e, turn_list a _, ⟨_, Heap.get?_push_size _ rfl, rfl, rfl⟩, fun b hb => ?_, q⟩
  have e : b = s1.heap.objs.size := by simpa using hb
  subst e
  exact I1.fpOk (Nat.le_refl _) (I1.hok.fresh (Nat.le_refl _))
/-- a range object just made, walked -/
theorem range_it {pins : List (Addr × Obj)} {σ : St} {H : Hp} {s : Shared} {R : It → Hp → Prop} {E : Value → Shared → Prop} {lo hi : Int} {t u v : Tok} {tk : Nat} (I : Inv X pins σ H s) (h1 : -(2 ^ 62) ≤ lo) (h2 : lo < 2 ^ 62) (h3 : -(2 ^ 62) ≤ hi) (h4 : hi < 2 ^ 62)
    (q : R (Itr lo (hi - lo).toNat) H) : wpAny (model X.prog X.w) X.A (pyIter (.ref s.heap.objs.size)) (PIE X pins σ tg R) E { s with heap := s.heap.push { cls := .type "range", data := .fields #[.int lo t, .int hi u, .int 1 v] }, toks := tk } := by
  refine wpAny_pyIter_range (IsRange.new ..) (small_one h1 h2 h3 h4) ?_
  have I1 : Inv X pins σ H { s with heap := s.heap.push { cls := .type "range", data := .fields #[.int lo t, .int hi u, .int 1 v] }, toks := tk } := I.kept fun b o e => Heap.get?_push_of_some _ e
  refine ⟨(s.heap.push { cls := .type "range", data := .fields #[.int lo t, .int hi u, .int 1 v] }).objs.size, [(s.heap.push { cls := .type "range", data := .fields #[.int lo t, .int hi u, .int 1 v] }).objs.size], _, _, H, rfl,
    I1.kept (t' := tk) fun b o e => Heap.get?_push_of_some _ e, turn_range _ lo (hi - lo).toNat, ?_, fun b hb => ?_, q⟩
  · have e1 : lo + ((0 : Nat) : Int) * 1 = lo := by simp
    have e2 : (((hi - lo).toNat : Nat) : Int) - ((0 : Nat) : Int) = Builtin.Range.rangeSize lo hi 1 := by rw [rangeSize_one]; split <;> omega
    show IsRangeIter _ _ (lo + ((0 : Nat) : Int) * 1) ((((hi - lo).toNat : Nat) : Int) - ((0 : Nat) : Int)) 1
    rw [e1, e2]
    exact Heap.get?_push_size _ rfl
  · have e : b = (s.heap.push { cls := .type "range", data := .fields #[.int lo t, .int hi u, .int 1 v] }).objs.size := by simpa using hb
    subst e
    exact I1.fpOk (Nat.le_refl _) (I1.hok.fresh (Nat.le_refl _))
def iRng1 (ta : TA) : TI := fun σ H R => ta σ H fun vs H1 => ∃ j : Int, vs = [.int j] ∧ -(2 ^ 62) ≤ j ∧ j < 2 ^ 62 ∧ R (Itr 0 j.toNat) H1
def iRng2 (ta : TA) : TI := fun σ H R => ta σ H fun vs H1 => ∃ i j : Int, vs = [.int i, .int j] ∧ (-(2 ^ 62) ≤ i ∧ i < 2 ^ 62 ∧ -(2 ^ 62) ≤ j ∧ j < 2 ^ 62) ∧ R (Itr i (j - i).toNat) H1
theorem pi_range1 {a : Expr} {ta : TA} {p pos : Pos} (hg : Gl X "range") (hm : X.mg "range" = none) (ha : PA X [a] ta) (hs : starEach [a] X.env = [(false, eval a X.env)] := by rfl) : PI X tg (.Call (.Name "range" p) [a] [] pos) (iRng1 ta) := by
  intro pins s σ H R I h
  refine Call_ (ld_blt I hg hm boot_range (PyProof.Rows.callWith_type1 (thn (ha pos pins s σ H _ I h) fun us s1 ⟨vs, H1, I1, r1, q1⟩ => ?_) hs rfl))
  obtain ⟨j, e, q1, q2, q⟩ := q1
  subst e
  cases r1 with
  | cons r rr =>
    cases rr
    obtain ⟨t, rfl⟩ := r
    exact call_range_1 (range_it I1 (by omega) (by omega) q1 q2 (by simpa using q))
theorem pi_range2 {a b : Expr} {ta : TA} {p pos : Pos} (hg : Gl X "range") (hm : X.mg "range" = none) (ha : PA X [a, b] ta) (hs : starEach [a, b] X.env = [(false, eval a X.env), (false, eval b X.env)] := by rfl) (hs2 : starEach [b] X.env = [(false, eval b X.env)] := by rfl) :
    PI X tg (.Call (.Name "range" p) [a, b] [] pos) (iRng2 ta) := by
  intro pins s σ H R I h
  refine Call_ (ld_blt I hg hm boot_range (PyProof.Rows.callWith_type1 (thn (ha pos pins s σ H _ I h) fun us s1 ⟨vs, H1, I1, r1, q1⟩ => ?_) (by rw [hs, hs2]) (by rw [hs2]; rfl)))
  obtain ⟨i, j, e, ⟨q1, q2, q3, q4⟩, q⟩ := q1
  subst e
  cases r1 with
  | cons r rr =>
    cases rr with
    | cons r' rr =>
      cases rr
      obtain ⟨t, rfl⟩ := r
      obtain ⟨t', rfl⟩ := r'
      exact call_range_2 (range_it I1 q1 q2 q3 q4 q)

/-! ### for -/
/-- W: the invariant by the turn and a measure; N: what the body is to reach -/
def tFor (wi : TI) (g : TG) (tb : TS) : TS := fun D σ H => wi σ H fun J H1 => ∃ W : Nat → Nat → St → Hp → Prop, (∃ m, W 0 m σ H1) ∧ ∀ i m σ H, W i m σ H →
  (J.stop i H ∧ D.nx σ H) ∨ (J.go i H ∧ ∃ N : St → Hp → Prop, (∀ σ' H', N σ' H' → ∃ m', m' < m ∧ W (i + 1) m' σ' H') ∧ ∀ x H', J.yld i H x H' → g x σ H' fun σ2 H2 => tb { D with nx := N, ct := N, bk := D.nx } σ2 H2)
/-- the records at fp as they stand -/
def pinsAt (fp : List Addr) (h : Heap) : List (Addr × Obj) := fp.filterMap fun b => (h.get? b).map fun o => (b, o)
theorem mem_pinsAt {fp : List Addr} {h : Heap} {b : Addr} {o : Obj} (hb : b ∈ fp) (e : h.get? b = some o) : (b, o) ∈ pinsAt fp h := List.mem_filterMap.mpr ⟨b, hb, by rw [e]; rfl⟩
theorem of_pinsAt {fp : List Addr} {h : Heap} {p : Addr × Obj} (hp : p ∈ pinsAt fp h) : p.1 ∈ fp ∧ h.get? p.1 = some p.2 := by
  obtain ⟨b, hb, e⟩ := List.mem_filterMap.mp hp
  cases q : h.get? b with
  | none => rw [q] at e; cases e
  | some o =>
    rw [q] at e
    have e' : (b, o) = p := Option.some.inj e
    subst e'
    exact ⟨hb, q⟩
theorem Inv.pinned {pins : List (Addr × Obj)} {σ : St} {H : Hp} {s : Shared} {fp : List Addr} (I : Inv X pins σ H s) (hf : ∀ b ∈ fp, FpOk X pins H b) (ho : ∀ b ∈ fp, ∃ o, s.heap.get? b = some o ∧ ∀ v, o.data ≠ .cell v) : Inv X (pins ++ pinsAt fp s.heap) σ H s :=
  I.pins_of fun p hp => (List.mem_append.mp hp).elim (fun z => I.pin p (List.mem_append_right _ z)) fun z => by
    obtain ⟨hb, e⟩ := of_pinsAt z
    obtain ⟨f0, f1, f2, _⟩ := hf p.1 hb
    obtain ⟨o, e', d⟩ := ho p.1 hb
    rw [e] at e'; cases e'
    exact ⟨e, f0, f1, f2, d⟩
theorem Inv.unpinned {pins pl : List (Addr × Obj)} {σ : St} {H : Hp} {s : Shared} (I : Inv X (pins ++ pl) σ H s) : Inv X pins σ H s := I.pins_of fun p hp => I.pin p (List.mem_append_right _ (List.mem_append_left _ hp))
theorem ps_for {iter : Expr} {body : List Stmt} {wi : TI} {g : TG} {tb : TS} {pos : Pos} (hp : PassesOwn (model X.prog X.w) X.A X.env X.xe) (hc : X.calm = true) (hi : PI X tg iter wi) (hg : PG X tg g) (hb : PSs X body tb)
    (hs : ∀ x, foldedSetIterable iter X.env x = pure x := by intro _; rfl) : PS X (.For tg iter body [] pos) (tFor wi g tb) := by
  intro pins s σ H D I h
  refine wpAny_For (thn (hi pins s σ H _ I h) fun v s1 h1 => thn h1 fun itv s2 h2 => ?_) hs
  obtain ⟨it, fp, tn, J, H2, e, I2, T, st2, f2, W, ⟨m0, w0⟩, turn⟩ := h2
  subst e
  -- what stays true of the iterator's objects through the loop
  have stat : ∀ {H' : Hp}, (∀ b ∈ fp, H' b = none) → ∀ b ∈ fp, FpOk X pins H' b := fun hn b hb => ⟨hn b hb, (f2 b hb).2⟩
  refine codeAny_forLoop_any (fun n s' => ∃ i σ' H', Inv X pins σ' H' s' ∧ tn i s'.heap ∧ (∀ b ∈ fp, H' b = none) ∧ W i n σ' H') ?_ m0 ⟨0, σ, H2, I2, st2, fun b hb => (f2 b hb).1, w0⟩
  rintro n s3 ⟨i, σ3, H3, I3, st3, fr3, w3⟩
  rcases turn i n σ3 H3 w3 with ⟨stop, qn⟩ | ⟨go, N, hN, step⟩
  · refine wpAny_passesOwn hp (thn (T.done X rfl rfl rfl hc i pins s3 σ3 H3 X.xe I3 (stat fr3) st3 stop) fun r s4 ⟨hr, I4⟩ => ?_)
    subst hr
    exact wpAny_execs_nil ⟨σ3, H3, I4, qn⟩
  · refine wpAny_passesOwn hp (thn (T.item X rfl rfl rfl hc i pins s3 σ3 H3 X.xe I3 (stat fr3) st3 go) fun r s4 ⟨u, hr, h4⟩ => ?_)
    subst hr
    refine wpAny_passesOwn hp (thn h4 fun _ s5 ⟨x, H5, I5, r5, y5, st5, fr5⟩ => ?_)
    have I5' := I5.pinned (stat fr5) (T.obj _ _ st5)
    refine wpAny_passesOwn hp (thn (hg _ s5 σ3 H5 x u _ I5' r5 (step x H5 y5)) fun _ s6 ⟨σ6, H6, I6, q6⟩ => ?_)
    refine wpAny_passesOwn hp (thn (hb _ s6 σ6 H6 _ I6 q6) fun f s7 q7 => ?_)
    have again : ∀ {σ7 : St} {H7 : Hp}, Inv X (pins ++ pinsAt fp s5.heap) σ7 H7 s7 → N σ7 H7 → ∃ m, m < n ∧ ∃ i σ' H', Inv X pins σ' H' s7 ∧ tn i s7.heap ∧ (∀ b ∈ fp, H' b = none) ∧ W i m σ' H' := fun {σ7 H7} I7 n7 => by
      obtain ⟨m', hm, w7⟩ := hN σ7 H7 n7
      refine ⟨m', hm, i + 1, σ7, H7, I7.unpinned, T.keep _ _ _ st5 fun b hb o e => (I7.pin (b, o) (List.mem_append_right _ (List.mem_append_right _ (mem_pinsAt hb e)))).1, fun b hb => ?_, w7⟩
      obtain ⟨o, e, d⟩ := T.obj _ _ st5 b hb
      exact (I7.pin (b, o) (List.mem_append_right _ (List.mem_append_right _ (mem_pinsAt hb e)))).2.1
    cases f with
    | next => obtain ⟨σ7, H7, I7, n7⟩ := q7; exact again I7 n7
    | cont => obtain ⟨σ7, H7, I7, n7⟩ := q7; exact again I7 n7
    | brk => obtain ⟨σ7, H7, I7, q7⟩ := q7; exact ⟨σ7, H7, I7.unpinned, q7⟩
    | ret v => obtain ⟨x7, σ7, H7, I7, r7, q7⟩ := q7; exact ⟨x7, σ7, H7, I7.unpinned, r7, q7⟩
end

/-! ### the forms one uses -/
/-- over a list that the body leaves as it is -/
theorem for_list {K : PySem.W.Frag} {a : Addr} {xs : List V} {g : TG} {tb : TS} {D : Ends} {σ : St} {H : Hp} (Pv : Nat → St → Hp → Prop) (h0 : Pv 0 σ H) (hl : ∀ i σ H, i ≤ xs.length → Pv i σ H → SqL K H a xs)
    (hs : ∀ i x σ H, xs[i]? = some x → Pv i σ H → g x σ H fun σ2 H2 => tb { D with nx := Pv (i + 1), ct := Pv (i + 1), bk := D.nx } σ2 H2) (hd : ∀ σ H, Pv xs.length σ H → D.nx σ H) :
    ∃ W : Nat → Nat → St → Hp → Prop, (∃ m, W 0 m σ H) ∧ ∀ i m σ H, W i m σ H →
      ((Itl K a).stop i H ∧ D.nx σ H) ∨ ((Itl K a).go i H ∧ ∃ N : St → Hp → Prop, (∀ σ' H', N σ' H' → ∃ m', m' < m ∧ W (i + 1) m' σ' H') ∧ ∀ x H', (Itl K a).yld i H x H' → g x σ H' fun σ2 H2 => tb { D with nx := N, ct := N, bk := D.nx } σ2 H2) := by
  refine ⟨fun i m σ H => m = xs.length - i ∧ i ≤ xs.length ∧ Pv i σ H, ⟨xs.length, by simp, Nat.zero_le _, h0⟩, ?_⟩
  rintro i m σ H ⟨rfl, hi, p⟩
  have q := hl i σ H hi p
  by_cases hlt : i < xs.length
  · refine .inr ⟨⟨xs, xs[i], q, by simp [hlt]⟩, Pv (i + 1), fun σ' H' p' => ⟨xs.length - (i + 1), by omega, rfl, hlt, p'⟩, fun x H' y => ?_⟩
    obtain ⟨e, y⟩ := y
    subst e
    exact hs i x σ _ (y xs q) p
  · have e : i = xs.length := by omega
    subst e
    exact .inl ⟨⟨xs, q, Nat.le_refl _⟩, hd σ H p⟩
theorem for_range {lo : Int} {n : Nat} {g : TG} {tb : TS} {D : Ends} {σ : St} {H : Hp} (Pv : Nat → St → Hp → Prop) (h0 : Pv 0 σ H)
    (hs : ∀ i σ H, i < n → Pv i σ H → g (.int (lo + i)) σ H fun σ2 H2 => tb { D with nx := Pv (i + 1), ct := Pv (i + 1), bk := D.nx } σ2 H2) (hd : ∀ σ H, Pv n σ H → D.nx σ H) :
    ∃ W : Nat → Nat → St → Hp → Prop, (∃ m, W 0 m σ H) ∧ ∀ i m σ H, W i m σ H →
      ((Itr lo n).stop i H ∧ D.nx σ H) ∨ ((Itr lo n).go i H ∧ ∃ N : St → Hp → Prop, (∀ σ' H', N σ' H' → ∃ m', m' < m ∧ W (i + 1) m' σ' H') ∧ ∀ x H', (Itr lo n).yld i H x H' → g x σ H' fun σ2 H2 => tb { D with nx := N, ct := N, bk := D.nx } σ2 H2) := by
  refine ⟨fun i m σ H => m = n - i ∧ i ≤ n ∧ Pv i σ H, ⟨n, by simp, Nat.zero_le _, h0⟩, ?_⟩
  rintro i m σ H ⟨rfl, hi, p⟩
  by_cases hlt : i < n
  · refine .inr ⟨hlt, Pv (i + 1), fun σ' H' p' => ⟨n - (i + 1), by omega, rfl, hlt, p'⟩, fun x H' y => ?_⟩
    obtain ⟨e, y⟩ := y
    subst e y
    exact hs i σ _ hlt p
  · have e : i = n := by omega
    subst e
    exact .inl ⟨Nat.le_refl _, hd σ H p⟩
end L2

namespace L2
open PySem PySem.Spec PyProof.Rows

abbrev R2 := V → V → Hp → VK → Prop
/-- a two-place operation on values: f is binaryOp op, inplaceOp op or compareOp op -/
def OpR (X : Cx) (f : Value → Value → Sem Value) (r : R2) : Prop :=
  ∀ (pins : List (Addr × Obj)) (s : Shared) (σ : St) (H : Hp) (x y : V) (v u : Value) (Q : VK), Inv X pins σ H s → RelV x v → RelV y u → r x y H Q →
    wpAny (model X.prog X.w) X.A (f v u) (EP X pins σ Q) X.xe s
/-- a one-place operation -/
def UnR (X : Cx) (f : Value → Sem Value) (r : V → Hp → VK → Prop) : Prop :=
  ∀ (pins : List (Addr × Obj)) (s : Shared) (σ : St) (H : Hp) (x : V) (v : Value) (Q : VK), Inv X pins σ H s → RelV x v → r x H Q →
    wpAny (model X.prog X.w) X.A (f v) (EP X pins σ Q) X.xe s
/-- a call of a value that is known (a builtin, a type) with values -/
def CallR (X : Cx) (f : Value) (r : List V → Hp → VK → Prop) : Prop :=
  ∀ (pins : List (Addr × Obj)) (s : Shared) (σ : St) (H : Hp) (xs : List V) (us : List Value) (Q : VK), Inv X pins σ H s → Vals xs us → r xs H Q →
    wpAny (model X.prog X.w) X.A (call f us) (EP X pins σ Q) X.xe s
/-- a value's truth -/
def TruR (X : Cx) (r : V → Hp → (Bool → Hp → Prop) → Prop) : Prop :=
  ∀ (pins : List (Addr × Obj)) (s : Shared) (σ : St) (H : Hp) (x : V) (v : Value) (Q : Bool → Hp → Prop), Inv X pins σ H s → RelV x v → r x H Q →
    wpAny (model X.prog X.w) X.A (truthy v) (TP X pins σ Q) X.xe s

def tOp (r : R2) (ta tb : TE) : TE := fun σ H Q => ta σ H fun x H1 => tb σ H1 fun y H2 => r x y H2 Q
def tUn (r : V → Hp → VK → Prop) (ta : TE) : TE := fun σ H Q => ta σ H fun x H1 => r x H1 Q
/-- ints in, under C, and a value out -/
def rI (C : Int → Int → Prop) (g : Int → Int → V) : R2 := fun x y H Q => ∃ i j, x = .int i ∧ y = .int j ∧ C i j ∧ Q (g i j) H
def rI0 (g : Int → Int → V) : R2 := fun x y H Q => ∃ i j, x = .int i ∧ y = .int j ∧ Q (g i j) H
def rU (g : Int → V) : V → Hp → VK → Prop := fun x H Q => ∃ i, x = .int i ∧ Q (g i) H

section
variable {X : Cx} {a b c : Expr} {ta tb tc : TE} {pos : Pos}

theorem binT (ha : PE X a ta) (hb : PE X b tb) {pins : List (Addr × Obj)} {s : Shared} {σ : St} {H : Hp} {R : V → V → Hp → Prop} (I : Inv X pins σ H s)
    (h : ta σ H fun x H1 => tb σ H1 fun y H2 => R x y H2) {Q : Value → Shared → Prop} {f : Value → Value → Sem Value}
    (hf : ∀ v u s2 x y H2, Inv X pins σ H2 s2 → RelV x v → RelV y u → R x y H2 → wpAny (model X.prog X.w) X.A (f v u) Q X.xe s2) :
    wpAny (model X.prog X.w) X.A (eval a X.env) (fun v s₁ => wpAny (model X.prog X.w) X.A (eval b X.env) (fun u s₂ => wpAny (model X.prog X.w) X.A (f v u) Q X.xe s₂) X.xe s₁) X.xe s := by
  refine thn (ha pins s σ H _ I h) fun v s1 ⟨x, H1, I1, r1, q1⟩ => ?_
  refine thn (hb pins s1 σ H1 _ I1 q1) fun u s2 ⟨y, H2, I2, r2, q2⟩ => ?_
  exact hf v u s2 x y H2 I2 r1 r2 q2

theorem pe_op {op : Operator} {r : R2} (ho : OpR X (binaryOp op) r) (ha : PE X a ta) (hb : PE X b tb) : PE X (.BinOp a op b pos) (tOp r ta tb) := by
  intro pins s σ H Q I h
  exact wpAny_BinOp (binT ha hb I h fun v u s2 x y H2 I2 rx ry q => ho pins s2 σ H2 x y v u Q I2 rx ry q)
theorem pe_un {op : UnaryOp} {r : V → Hp → VK → Prop} (ho : UnR X (unaryOp op) r) (ha : PE X a ta) : PE X (.UnaryOp op a pos) (tUn r ta) := by
  intro pins s σ H Q I h
  exact UnaryOp_ (thn (ha pins s σ H _ I h) fun v s1 ⟨x, H1, I1, r1, q1⟩ => ho pins s1 σ H1 x v Q I1 r1 q1)
/-! ### ints -/
theorem opI {f : Value → Value → Sem Value} {C : Int → Int → Prop} {g : Int → Int → Int}
    (rule : ∀ (i j : Int) (t u : Tok) (s : Shared) (Q : Value → Shared → Prop) (E : Value → Shared → Prop), C i j → Q (.int (g i j) s.toks) { s with toks := s.toks + 1 } → wpAny (model X.prog X.w) X.A (f (.int i t) (.int j u)) Q E s) :
    OpR X f (rI C fun i j => .int (g i j)) := by
  intro pins s σ H x y v u Q I rx ry h
  obtain ⟨i, j, rfl, rfl, hc, q⟩ := h
  obtain ⟨t, rfl⟩ := rx
  obtain ⟨t', rfl⟩ := ry
  exact rule i j t t' s _ _ hc ⟨.int (g i j), H, I.tok _, ⟨_, rfl⟩, q⟩
theorem opI0 {f : Value → Value → Sem Value} {g : Int → Int → Int}
    (rule : ∀ (i j : Int) (t u : Tok) (s : Shared) (Q : Value → Shared → Prop) (E : Value → Shared → Prop), Q (.int (g i j) s.toks) { s with toks := s.toks + 1 } → wpAny (model X.prog X.w) X.A (f (.int i t) (.int j u)) Q E s) :
    OpR X f (rI0 fun i j => .int (g i j)) := by
  intro pins s σ H x y v u Q I rx ry h
  obtain ⟨i, j, rfl, rfl, q⟩ := h
  obtain ⟨t, rfl⟩ := rx
  obtain ⟨t', rfl⟩ := ry
  exact rule i j t t' s _ _ ⟨.int (g i j), H, I.tok _, ⟨_, rfl⟩, q⟩
theorem opB0 {f : Value → Value → Sem Value} {g : Int → Int → Bool}
    (rule : ∀ (i j : Int) (t u : Tok) (s : Shared) (Q : Value → Shared → Prop) (E : Value → Shared → Prop), Q (.bool (g i j)) s → wpAny (model X.prog X.w) X.A (f (.int i t) (.int j u)) Q E s) :
    OpR X f (rI0 fun i j => .bl (g i j)) := by
  intro pins s σ H x y v u Q I rx ry h
  obtain ⟨i, j, rfl, rfl, q⟩ := h
  obtain ⟨t, rfl⟩ := rx
  obtain ⟨t', rfl⟩ := ry
  exact rule i j t t' s _ _ ⟨.bl (g i j), H, I, rfl, q⟩

def CDiv (i j : Int) : Prop := 0 < j ∧ j < 1073741824
def CPow (i j : Int) : Prop := 0 ≤ j ∧ j ≤ 1000000 ∧ i.natAbs < 2 ^ 64
def CMul (i j : Int) : Prop := (-(2 ^ 64) < i ∧ i < 2 ^ 64) ∨ (-(2 ^ 64) < j ∧ j < 2 ^ 64)
theorem CMul.ok {i j : Int} (h : CMul i j) : IntMulOk i j := by
  rcases h with ⟨h1, h2⟩ | ⟨h1, h2⟩
  · exact .of_left (intBits_le_64 h1 h2)
  · exact .of_right (intBits_le_64 h1 h2)
theorem two_pow_nn (k : Nat) : (0 : Int) ≤ 2 ^ k := by
  rw [two_pow_cast]
  exact Int.natCast_nonneg _

theorem op_add : OpR X (binaryOp .Add) (rI0 fun i j => .int (i + j)) := opI0 fun _ _ _ _ _ _ _ q => add_int q
theorem op_sub : OpR X (binaryOp .Sub) (rI0 fun i j => .int (i - j)) := opI0 fun _ _ _ _ _ _ _ q => sub_int q
theorem op_mul : OpR X (binaryOp .Mult) (rI CMul fun i j => .int (i * j)) := opI fun _ _ _ _ _ _ _ hc q => mul_int q hc.ok
/-- // by a positive divisor -/
theorem op_fdiv : OpR X (binaryOp .FloorDiv) (rI CDiv fun i j => .int (i / j)) := opI fun i j _ _ _ _ _ hc q => by
  have h1 : (0 : Int) < j := hc.1
  have h2 : j < 1073741824 := hc.2
  exact floordiv_int (by omega) (by rw [Int.fdiv_eq_ediv_of_nonneg i (by omega)]; exact q) (.inl (PyProof.noPylong_small (by omega)))
/-- % by a positive divisor of any size -/
theorem op_mod : OpR X (binaryOp .Mod) (rI (fun _ j => 0 < j) fun i j => .int (i % j)) := opI fun i j _ _ _ _ _ hc q => by
  have h1 : (0 : Int) < j := hc
  exact mod_int' (by omega) (by rw [Int.fmod_eq_emod_of_nonneg i (by omega)]; exact q)
theorem op_pow : OpR X (binaryOp .Pow) (rI CPow fun i j => .int (i ^ j.toNat)) := opI fun _ _ _ _ _ _ _ hc q => pow_int_small hc.1 hc.2.1 hc.2.2 q
theorem op_shr : OpR X (binaryOp .RShift) (rI (fun _ j => 0 ≤ j) fun i j => .int (i / 2 ^ j.toNat)) := opI fun i j _ _ _ _ _ hc q =>
  rshift_int hc (by rw [Int.fdiv_eq_ediv_of_nonneg i (two_pow_nn _)]; exact q)
theorem op_and : OpR X (binaryOp .BitAnd) (rI0 fun i j => .int (Builtin.bitAnd i j)) := opI0 fun _ _ _ _ _ _ _ q => and_int q
theorem unI {f : Value → Sem Value} {g : Int → Int}
    (rule : ∀ (i : Int) (t : Tok) (s : Shared) (Q : Value → Shared → Prop) (E : Value → Shared → Prop), Q (.int (g i) s.toks) { s with toks := s.toks + 1 } → wpAny (model X.prog X.w) X.A (f (.int i t)) Q E s) :
    UnR X f (rU fun i => .int (g i)) := by
  intro pins s σ H x v Q I rx h
  obtain ⟨i, rfl, q⟩ := h
  obtain ⟨t, rfl⟩ := rx
  exact rule i t s _ _ ⟨.int (g i), H, I.tok _, ⟨_, rfl⟩, q⟩
theorem un_neg : UnR X (unaryOp .USub) (rU fun i => .int (-i)) := unI fun _ _ _ _ _ q => neg_int q
/-! ### bools among ints: n += (a < b) -/
end

/-! ### comparisons -/
/-- the scalars that == tells apart as data does -/
def scal : V → V → Bool
  | .non, .non => true | .non, .int _ => true | .int _, .non => true | .non, .bl _ => true | .bl _, .non => true | .non, .str _ => true | .str _, .non => true
  | .int _, .int _ => true | .bl _, .bl _ => true | .str _, .str _ => true | .byt _, .byt _ => true
  | .int _, .str _ => true | .str _, .int _ => true | .bl _, .str _ => true | .str _, .bl _ => true
  | _, _ => false
def rEq : R2 := fun x y H Q => scal x y = true ∧ Q (.bl (decide (x = y))) H
def rNe : R2 := fun x y H Q => scal x y = true ∧ Q (.bl (!decide (x = y))) H

theorem dec_int {i j : Int} : decide (V.int i = V.int j) = (i == j) := by
  rw [Bool.eq_iff_iff]
  simp
theorem dec_bl {i j : Bool} : decide (V.bl i = V.bl j) = (i == j) := by
  rw [Bool.eq_iff_iff]
  simp
theorem dec_str {i j : Str} : decide (V.str i = V.str j) = (i == j) := by
  rw [Bool.eq_iff_iff]
  simp
theorem dec_byt {i j : Array UInt8} : decide (V.byt i = V.byt j) = (i.toList == j.toList) := by
  rw [Bool.eq_iff_iff]
  cases i
  cases j
  simp

section
variable {X : Cx} {a b c : Expr} {ta tb tc : TE} {pos : Pos}
theorem fin_bl {pins : List (Addr × Obj)} {σ : St} {H : Hp} {s : Shared} {Q : VK} {k k' : Bool} (I : Inv X pins σ H s) (q : Q (.bl k) H) (e : k = k') : EP X pins σ Q (.bool k') s := by
  subst e
  exact ⟨.bl k, H, I, rfl, q⟩
theorem op_eq : OpR X (compareOp .Eq) rEq := by
  intro pins s σ H x y v u Q I rx ry h
  obtain ⟨hs, q⟩ := h
  cases x with
  | non =>
    cases rx
    cases y with
    | non => cases ry; exact PySem.EqNone.eq_none_none (fin_bl I q (by simp))
    | bl j => cases ry; exact PySem.EqNone.eq_none_bool (fin_bl I q (by simp))
    | int j => obtain ⟨t', rfl⟩ := ry; exact PySem.EqNone.eq_none_int (fin_bl I q (by simp))
    | str j => obtain ⟨t', rfl⟩ := ry; exact PySem.EqNone.eq_none_str (fin_bl I q (by simp))
    | _ => exact absurd (show false = true from hs) Bool.false_ne_true
  | bl i =>
    cases rx
    cases y with
    | non => cases ry; exact PySem.EqNone.eq_bool_none (fin_bl I q (by simp))
    | bl j => cases ry; exact eq_bool (fin_bl I q dec_bl)
    | str j => obtain ⟨t', rfl⟩ := ry; exact PySem.EqMixed.eq_bool_str (fin_bl I q (by simp))
    | _ => exact absurd (show false = true from hs) Bool.false_ne_true
  | int i =>
    obtain ⟨t, rfl⟩ := rx
    cases y with
    | non => cases ry; exact PySem.EqNone.eq_int_none (fin_bl I q (by simp))
    | int j => obtain ⟨t', rfl⟩ := ry; exact eq_int (fin_bl I q dec_int)
    | str j => obtain ⟨t', rfl⟩ := ry; exact PySem.EqMixed.eq_int_str (fin_bl I q (by simp))
    | _ => exact absurd (show false = true from hs) Bool.false_ne_true
  | str i =>
    obtain ⟨t, rfl⟩ := rx
    cases y with
    | non => cases ry; exact PySem.EqNone.eq_str_none (fin_bl I q (by simp))
    | bl j => cases ry; exact PySem.EqMixed.eq_str_bool (fin_bl I q (by simp))
    | int j => obtain ⟨t', rfl⟩ := ry; exact PySem.EqMixed.eq_str_int (fin_bl I q (by simp))
    | str j => obtain ⟨t', rfl⟩ := ry; exact eq_str (fin_bl I q dec_str)
    | _ => exact absurd (show false = true from hs) Bool.false_ne_true
  | byt i =>
    obtain ⟨t, rfl⟩ := rx
    cases y with
    | byt j => obtain ⟨t', rfl⟩ := ry; exact PySem.W.eq_bytes (fin_bl I q dec_byt)
    | _ => exact absurd (show false = true from hs) Bool.false_ne_true
  | _ => cases y <;> exact absurd (show false = true from hs) Bool.false_ne_true
theorem op_ne : OpR X (compareOp .NotEq) rNe := by
  intro pins s σ H x y v u Q I rx ry h
  obtain ⟨hs, q⟩ := h
  cases x with
  | non =>
    cases rx
    cases y with
    | non => cases ry; exact PySem.EqNone.ne_none_none (fin_bl I q (by simp))
    | bl j => cases ry; exact PySem.EqNone.ne_none_bool (fin_bl I q (by simp))
    | int j => obtain ⟨t', rfl⟩ := ry; exact PySem.EqNone.ne_none_int (fin_bl I q (by simp))
    | str j => obtain ⟨t', rfl⟩ := ry; exact PySem.EqNone.ne_none_str (fin_bl I q (by simp))
    | _ => exact absurd (show false = true from hs) Bool.false_ne_true
  | bl i =>
    cases rx
    cases y with
    | non => cases ry; exact PySem.EqNone.ne_bool_none (fin_bl I q (by simp))
    | bl j => cases ry; exact ne_bool (fin_bl I q (congrArg not dec_bl))
    | str j => obtain ⟨t', rfl⟩ := ry; exact PySem.EqMixed.ne_bool_str (fin_bl I q (by simp))
    | _ => exact absurd (show false = true from hs) Bool.false_ne_true
  | int i =>
    obtain ⟨t, rfl⟩ := rx
    cases y with
    | non => cases ry; exact PySem.EqNone.ne_int_none (fin_bl I q (by simp))
    | int j => obtain ⟨t', rfl⟩ := ry; exact ne_int (fin_bl I q (congrArg not dec_int))
    | str j => obtain ⟨t', rfl⟩ := ry; exact PySem.EqMixed.ne_int_str (fin_bl I q (by simp))
    | _ => exact absurd (show false = true from hs) Bool.false_ne_true
  | str i =>
    obtain ⟨t, rfl⟩ := rx
    cases y with
    | non => cases ry; exact PySem.EqNone.ne_str_none (fin_bl I q (by simp))
    | bl j => cases ry; exact PySem.EqMixed.ne_str_bool (fin_bl I q (by simp))
    | int j => obtain ⟨t', rfl⟩ := ry; exact PySem.EqMixed.ne_str_int (fin_bl I q (by simp))
    | str j => obtain ⟨t', rfl⟩ := ry; exact ne_str (fin_bl I q (congrArg not dec_str))
    | _ => exact absurd (show false = true from hs) Bool.false_ne_true
  | byt i =>
    obtain ⟨t, rfl⟩ := rx
    cases y with
    | byt j => obtain ⟨t', rfl⟩ := ry; exact PySem.W.ne_bytes (fin_bl I q (congrArg not dec_byt))
    | _ => exact absurd (show false = true from hs) Bool.false_ne_true
  | _ => cases y <;> exact absurd (show false = true from hs) Bool.false_ne_true

theorem op_lt : OpR X (compareOp .Lt) (rI0 fun i j => .bl (decide (i < j))) := opB0 fun _ _ _ _ _ _ _ q => lt_int q
theorem op_le : OpR X (compareOp .LtE) (rI0 fun i j => .bl (decide (i ≤ j))) := opB0 fun _ _ _ _ _ _ _ q => le_int q
theorem op_gt : OpR X (compareOp .Gt) (rI0 fun i j => .bl (decide (j < i))) := opB0 fun _ _ _ _ _ _ _ q => gt_int q
theorem op_ge : OpR X (compareOp .GtE) (rI0 fun i j => .bl (decide (j ≤ i))) := opB0 fun _ _ _ _ _ _ _ q => ge_int q
theorem op_lt_str : OpR X (compareOp .Lt) (fun x y H Q => ∃ i j, x = .str i ∧ y = .str j ∧ Q (.bl (decide (i.cps.toList < j.cps.toList))) H) := by
  intro pins s σ H x y v u Q I rx ry h
  obtain ⟨i, j, rfl, rfl, q⟩ := h
  obtain ⟨t, rfl⟩ := rx
  obtain ⟨t', rfl⟩ := ry
  exact lt_str (fin_bl I q rfl)
/-- two rules for one operation: by cases -/
theorem OpR.or {f : Value → Value → Sem Value} {r r' : R2} (h : OpR X f r) (h' : OpR X f r') : OpR X f (fun x y H Q => r x y H Q ∨ r' x y H Q) := by
  intro pins s σ H x y v u Q I rx ry q
  rcases q with q | q
  · exact h pins s σ H x y v u Q I rx ry q
  · exact h' pins s σ H x y v u Q I rx ry q

theorem nomark (b : Expr) {op : CmpOp} (h : op ≠ .In := by decide) (h2 : op ≠ .NotIn := by decide) : behindInMarks op b = false := by
  have e1 : (op == CmpOp.In) = false := by cases op <;> first | rfl | exact absurd rfl h
  have e2 : (op == CmpOp.NotIn) = false := by cases op <;> first | rfl | exact absurd rfl h2
  cases b <;> simp [behindInMarks, e1, e2]
/-- a comparison as a value; hm: nomark b, or (for in, not in) by with_unfolding_all rfl -/
theorem pe_cmpR {op : CmpOp} {r : R2} (ho : OpR X (compareOp op) r) (ha : PE X a ta) (hb : PE X b tb) (hm : behindInMarks op b = false) : PE X (.Compare a [op] [b] pos) (tOp r ta tb) := by
  intro pins s σ H Q I h
  exact wpAny_Compare1 (binT ha hb I h fun v u s2 x y H2 I2 rx ry q => ho pins s2 σ H2 x y v u Q I2 rx ry q) hm
/-- a reading of a value as a test -/
def tTest (t : TE) : TT := fun σ H Q => t σ H fun x H' => ∃ k, x = .bl k ∧ Q k H'
theorem pt_cmpR {op : CmpOp} {r : R2} (ho : OpR X (compareOp op) r) (ha : PE X a ta) (hb : PE X b tb) (hm : behindInMarks op b = false) : PT X (.Compare a [op] [b] pos) (tTest (tOp r ta tb)) := by
  intro pins s σ H Q I h
  refine wpAny_isTrue_Compare1 (thn (ha pins s σ H _ I h) fun v s1 ⟨x, H1, I1, r1, q1⟩ => thn (hb pins s1 σ H1 _ I1 q1) fun u s2 ⟨y, H2, I2, r2, q2⟩ =>
    thn (ho pins s2 σ H2 x y v u _ I2 r1 r2 q2) fun c s3 ⟨z, H3, I3, r3, k, e, q3⟩ => ?_) hm
  subst e
  cases r3
  exact wpAny_truthy_bool ⟨H3, I3, q3⟩
/-! ### truth -/
/-- a value's truth by the abstract heap -/
def TruV (K : PySem.W.Frag) (x : V) (H : Hp) (k : Bool) : Prop :=
  match x with
  | .non => k = false
  | .bl b => k = b
  | .int i => k = (i != 0)
  | .str y => y.length ≤ sizeLine ∧ k = ((y.length : Int) != 0)
  | .byt y => y.size ≤ sizeLine ∧ k = ((y.size : Int) != 0)
  | .ref p => (∃ xs, SqL K H p xs ∧ k = !xs.isEmpty) ∨ (∃ xs, SqT K H p xs ∧ k = !xs.isEmpty) ∨ ∃ kvs, H p = some (.dK kvs) ∧ k = !kvs.isEmpty
  | _ => False
theorem isEmpty_kv {κ : Type} {kvs : List (κ × V)} {vs : List (κ × Value)} (r : KV kvs vs) : (!vs.isEmpty) = !kvs.isEmpty := by
  cases r <;> rfl
theorem isEmpty_of {xs : List V} {its : List Value} (r : Vals xs its) : (!its.toArray.isEmpty) = !xs.isEmpty := by
  cases r <;> simp
theorem line63 : (sizeLine : Nat) < 2 ^ 63 := by rw [sizeLine_eq]; decide
theorem tru_ok : TruR X (fun x H Q => ∃ k, TruV X.K x H k ∧ Q k H) := by
  intro pins s σ H x v Q I rx h
  obtain ⟨k, e, q⟩ := h
  have hl := line63
  have hs : sizeLine = 16777216 := sizeLine_eq
  cases x with
  | non =>
    cases rx
    have e' : k = false := e
    subst e'
    exact truthy_none ⟨H, I, q⟩
  | bl b =>
    cases rx
    have e' : k = b := e
    subst e'
    exact wpAny_truthy_bool ⟨H, I, q⟩
  | int i =>
    obtain ⟨t, rfl⟩ := rx
    have e' : k = (i != 0) := e
    subst e'
    exact PySem.P.truthy_int ⟨H, I, q⟩
  | str y =>
    obtain ⟨t, rfl⟩ := rx
    obtain ⟨hy, e'⟩ : y.length ≤ sizeLine ∧ k = ((y.length : Int) != 0) := e
    subst e'
    exact PySem.P.truthy_str (by omega) ⟨H, I.tok _, q⟩
  | byt y =>
    obtain ⟨t, rfl⟩ := rx
    obtain ⟨hy, e'⟩ : y.size ≤ sizeLine ∧ k = ((y.size : Int) != 0) := e
    subst e'
    exact PySem.W.truthy_bytes (by omega) ⟨H, I.tok _, q⟩
  | ref p =>
    cases rx
    have e' : (∃ xs, SqL X.K H p xs ∧ k = !xs.isEmpty) ∨ (∃ xs, SqT X.K H p xs ∧ k = !xs.isEmpty) ∨ ∃ kvs, H p = some (.dK kvs) ∧ k = !kvs.isEmpty := e
    rcases e' with ⟨xs, hx, e'⟩ | ⟨xs, hx, e'⟩ | ⟨kvs, hx, e'⟩
    · subst e'
      obtain ⟨its, r, pl, hz⟩ := I.list hx
      have hlen := r.length
      exact wpAny_truthy_list pl.isList (by simp only [List.size_toArray]; omega) ⟨H, I.tok _, by rw [isEmpty_of r]; exact q⟩
    · subst e'
      obtain ⟨its, r, pl, hz⟩ := I.tuple hx
      have hlen := r.length
      exact truthy_tuple pl (by simp only [List.size_toArray]; omega) ⟨H, I.tok _, by rw [isEmpty_of r]; exact q⟩
    · subst e'
      obtain ⟨hz, hS, vs, r, m⟩ : kvs.length ≤ sizeLine ∧ (p == sysModules) = false ∧ ∃ vs, KV kvs vs ∧ s.heap.DictOf (mixKind X.prog X.w) p vs := I.hok p _ hx
      have hlen : kvs.length = vs.length := Paired.length r
      exact wpAny_truthy_dict hS m (by omega) ⟨H, I.tok _, by rw [isEmpty_kv r]; exact q⟩
  | _ => exact (show False from e).elim
/-- any expression whose test is its value's truth (a name, a call, a subscript, a field ..: he by fun _ => rfl) -/
theorem pt_truth (ha : PE X a ta) (he : ∀ whole, isTrue a X.env whole = (do let v ← whole; standAt a.pos; holding [v] (truthy v))) :
    PT X a (fun σ H Q => ta σ H fun x H' => ∃ k, TruV X.K x H' k ∧ Q k H') := by
  intro pins s σ H Q I h
  exact isTrue_plain (thn (ha pins s σ H _ I h) fun v s1 ⟨x, H1, I1, r1, q1⟩ => tru_ok pins s1 σ H1 x v Q I1 r1 q1) (he _)

/-! ### strs and bytes -/
theorem op_add_str : OpR X (binaryOp .Add) (fun x y H Q => ∃ i j, x = .str i ∧ y = .str j ∧ i.length + j.length ≤ sizeLine ∧ Q (.str (i ++ j)) H) := by
  intro pins s σ H x y v u Q I rx ry h
  obtain ⟨i, j, rfl, rfl, hz, q⟩ := h
  obtain ⟨t, rfl⟩ := rx
  obtain ⟨t', rfl⟩ := ry
  exact add_str (fun t' tk => ⟨.str (i ++ j), H, I.tok _, ⟨_, rfl⟩, q⟩) hz
/-! ### scalar builtins, by CallR -/
theorem vals1 {x : V} {us : List Value} (r : Vals [x] us) : ∃ u, us = [u] ∧ RelV x u := by
  cases r with
  | cons r1 r2 => cases r2; exact ⟨_, rfl, r1⟩
theorem vals2 {x y : V} {us : List Value} (r : Vals [x, y] us) : ∃ u w', us = [u, w'] ∧ RelV x u ∧ RelV y w' := by
  cases r with
  | cons r1 r2 =>
    cases r2 with
    | cons r3 r4 => cases r4; exact ⟨_, _, rfl, r1, r3⟩
theorem call_max2 (hc : X.calm = true) : CallR X (.builtin "max") (fun xs H Q => ∃ i j, xs = [.int i, .int j] ∧ Q (.int (if j > i then j else i)) H) := by
  intro pins s σ H xs us Q I r h
  obtain ⟨i, j, rfl, q⟩ := h
  obtain ⟨u, w', rfl, ⟨t, rfl⟩, ⟨t', rfl⟩⟩ := vals2 r
  refine max_two_ints (I.ok.hd hc) fun h' tk k => ⟨_, H, I.kept k, ?_, q⟩
  by_cases hj : j > i
  · rw [if_pos hj, if_pos hj]; exact ⟨_, rfl⟩
  · rw [if_neg hj, if_neg hj]; exact ⟨_, rfl⟩
theorem call_min2 (hc : X.calm = true) : CallR X (.builtin "min") (fun xs H Q => ∃ i j, xs = [.int i, .int j] ∧ Q (.int (if j < i then j else i)) H) := by
  intro pins s σ H xs us Q I r h
  obtain ⟨i, j, rfl, q⟩ := h
  obtain ⟨u, w', rfl, ⟨t, rfl⟩, ⟨t', rfl⟩⟩ := vals2 r
  refine min_two_ints (I.ok.hd hc) fun h' tk k => ⟨_, H, I.kept k, ?_, q⟩
  by_cases hj : j < i
  · rw [if_pos hj, if_pos hj]; exact ⟨_, rfl⟩
  · rw [if_neg hj, if_neg hj]; exact ⟨_, rfl⟩
theorem call_int1 : CallR X (.type "int") (fun xs H Q => (∃ i, xs = [.int i] ∧ Q (.int i) H) ∨ ∃ k, xs = [.bl k] ∧ Q (.int (if k then 1 else 0)) H) := by
  intro pins s σ H xs us Q I r h
  rcases h with ⟨i, rfl, q⟩ | ⟨k, rfl, q⟩
  · obtain ⟨u, rfl, t, rfl⟩ := vals1 r
    exact call_int_int ⟨.int i, H, I, ⟨_, rfl⟩, q⟩
  · obtain ⟨u, rfl, r1⟩ := vals1 r
    cases r1
    exact call_int_bool ⟨.int (if k then 1 else 0), H, I.tok _, ⟨_, rfl⟩, q⟩
/-- len of a str, a bytes, a list, a tuple -/
def LenV (K : PySem.W.Frag) (x : V) (H : Hp) (n : Nat) : Prop :=
  match x with
  | .str y => y.length ≤ sizeLine ∧ n = y.length
  | .byt y => y.size ≤ sizeLine ∧ n = y.size
  | .ref p => (∃ xs, SqL K H p xs ∧ n = xs.length) ∨ ∃ xs, SqT K H p xs ∧ n = xs.length
  | _ => False
theorem call_len : CallR X (.builtin "len") (fun xs H Q => ∃ x n, xs = [x] ∧ LenV X.K x H n ∧ Q (.int n) H) := by
  intro pins s σ H xs us Q I r h
  obtain ⟨x, n, rfl, e, q⟩ := h
  obtain ⟨u, rfl, rx⟩ := vals1 r
  have hl := line63
  have hs : sizeLine = 16777216 := sizeLine_eq
  cases x with
  | str y =>
    obtain ⟨t, rfl⟩ := rx
    obtain ⟨hy, e'⟩ : y.length ≤ sizeLine ∧ n = y.length := e
    subst e'
    exact len_str (by omega) ⟨.int _, H, I.tok _, ⟨_, rfl⟩, q⟩
  | byt y =>
    obtain ⟨t, rfl⟩ := rx
    obtain ⟨hy, e'⟩ : y.size ≤ sizeLine ∧ n = y.size := e
    subst e'
    exact PySem.W.len_bytes (by omega) ⟨.int _, H, I.tok _, ⟨_, rfl⟩, q⟩
  | ref p =>
    cases rx
    have e' : (∃ xs, SqL X.K H p xs ∧ n = xs.length) ∨ ∃ xs, SqT X.K H p xs ∧ n = xs.length := e
    rcases e' with ⟨xs, hx, e'⟩ | ⟨xs, hx, e'⟩
    · subst e'
      obtain ⟨its, r', pl, hz⟩ := I.list hx
      have hlen := r'.length
      exact Calls.call_len_list pl.isList (by simp only [List.size_toArray]; omega) ⟨.int xs.length, H, I.tok _, ⟨_, by simp only [List.size_toArray]; rw [hlen]⟩, q⟩
    · subst e'
      obtain ⟨its, r', pl, hz⟩ := I.tuple hx
      have hlen := r'.length
      exact len_tuple pl (by simp only [List.size_toArray]; omega) ⟨.int xs.length, H, I.tok _, ⟨_, by simp only [List.size_toArray]; rw [hlen]⟩, q⟩
  | _ => exact (show False from e).elim
end
end L2

namespace L2
open PySem PySem.Spec PyProof.Rows

/-! ### an instance, its attributes a map -/
structure ObjM (h : Heap) (x dx C : Addr) (mA : Str → Option Value) : Prop where
  obj : h.get? x = some (PySem.W.instObj C dx)
  ns : h.Ns1 dx mA
  ne : dx ≠ x

theorem lookIn_ns {h : Heap} {dx : Addr} {mA : Str → Option Value} (n : h.Ns1 dx mA) : ∃ od, h.get? dx = some od ∧ ∀ name, PySem.W.lookIn name od = some (mA name) := by
  obtain ⟨o, es, ep, ho, hd, hk, _, hm⟩ := n
  refine ⟨o, ho, fun name => ?_⟩
  have e := hm name
  unfold nsFind findBy at e
  rw [← Array.find?_toList] at e
  unfold PySem.W.lookIn
  rw [hd]
  dsimp only
  split
  · rename_i y q
    rw [q] at e
    exact congrArg some e
  · rename_i q
    rw [q] at e
    have a : es.toList.any (·.refKey) = false := by
      rw [List.any_eq_false]
      intro y hy
      obtain ⟨z, t, hkey⟩ := hk y (Array.mem_toList_iff.mp hy)
      simp [DictEntry.refKey, hkey]
    have a' : ¬ es.toList.any (·.refKey) = true := by rw [a]; exact Bool.false_ne_true
    rw [if_neg a']
    exact congrArg some e

theorem ObjM.look {h : Heap} {x dx C : Addr} {mA : Str → Option Value} (I : ObjM h x dx C mA) : ∃ od, PySem.W.InstAt h x (PySem.W.instObj C dx) C (some od) ∧ ∀ name, PySem.W.lookIn name od = some (mA name) :=
  let ⟨od, ho, hl⟩ := lookIn_ns I.ns
  ⟨od, ⟨I.obj, rfl, rfl, ho⟩, hl⟩

section
variable {prog : Program} {w : World} {A : Around} {E : Value → Shared → Prop} {s : Shared} {K : PySem.W.Frag} {x dx C f : Addr} {mA : Str → Option Value} {name : Str} {v : Value}

theorem get_map {expr : Bool} {Q : Value → Shared → Prop} (X : K.In s.heap) (I : ObjM s.heap x dx C mA) (hg : PySem.W.plainGet K C name = true) (hh : PySem.W.hasDictIn K C = true)
    (ha : PySem.W.findIn K (.ref C) name = some none) (hv : mA name = some v) (hv' : PySem.W.handedIn v = true) (h : Q v { s with toks := s.toks + 1 }) :
    wpAny (model prog w) A (getAttr (.ref x) name expr) Q E s := by
  obtain ⟨od, J, hl⟩ := I.look
  exact PySem.W.get_value X J (PySem.W.plainGet_of hg).1 (PySem.W.findObj_own hh ha rfl (by rw [hl, hv])) hv' h

theorem get_meth {pl : Sem Bool} {Q : Value × List Value → Shared → Prop} (X : K.In s.heap) (I : ObjM s.heap x dx C mA) (hg : PySem.W.plainGet K C name = true)
    (hf : PySem.W.findIn K (.ref C) name = some (some (.ref f))) (ht : PySem.W.isFn K (.ref f) = true) (hv : mA name = none) (h : Q (.ref f, [.ref x]) s) :
    wpAny (model prog w) A (getMethod (.ref x) name pl) Q E s := by
  obtain ⟨od, J, hl⟩ := I.look
  exact PySem.W.method_fn X J (PySem.W.plainGet_of hg).1 (PySem.W.plainGet_of hg).2 hf (beq_iff_eq.mp ht) (by show (PySem.W.lookIn name od).map (·.isSome) = some false; rw [hl, hv]; rfl) h

theorem set_map {ns : List Str} {Q : Unit → Shared → Prop} (X : K.In s.heap) (I : ObjM s.heap x dx C mA)
    (hs : PySem.W.findIn K (.ref C) "__setattr__" = some (some (.builtin "object.__setattr__"))) (hp : PySem.W.plainOver K C = true) (ht : PySem.W.takerIn K C name = some none) (hh : PySem.W.hasDictIn K C = true)
    (hw : PySem.Within mA ns) (hsz : ns.length ≤ sizeLine)
    (h : ∀ h', ObjM h' x dx C (fun y => if y = name then some v else mA y) → Heap.SameBut dx s.heap h' → Q () { s with heap := h', toks := s.toks + 2 }) :
    wpAny (model prog w) A (setAttr (.ref x) name v) Q E s := by
  obtain ⟨od, J, hl⟩ := I.look
  refine PySem.W.set_plain X J hs (PySem.W.osa_open (s := { s with toks := s.toks + 1 }) (r := none) X J hp ht fun b => ?_)
  obtain ⟨cd, hc, hd'⟩ := PySem.W.any_some hh
  have hx : s.heap.get? x = some ⟨.ref C, some dx, .plain, #[]⟩ := I.obj
  refine wpAny_bind (wpAny_pure (wpAny_bind (wpAny_bind (wpAny_loadPart hx (wpAny_bind (PySem.W.Looks.here (s := { s with toks := s.toks + 1 }) (PySem.W.looks_clsIn X hc) ?_))))))
  rw [hd']
  refine wpAny_pure (a := some dx) (wpAny_bind (wpAny_pure (wpAny_bind ?_)))
  refine wpAny_nsSet1 (s := { s with toks := s.toks + 1 }) I.ns fun h' hn2 hs2 => ?_
  obtain ⟨oD, esD, epD, hoD, hdD, hcD⟩ := hn2.count (PySem.Within.cons name v hw)
  refine wpAny_bind (wpAny_lookBehind hoD (by rw [hdD]; exact pastItsLine_dict (Nat.le_trans hcD (by rw [List.length_cons]; omega))) ?_)
  exact wpAny_pure (h _ ⟨(hs2.2 _ (Ne.symm I.ne)).trans I.obj, hn2, I.ne⟩ hs2)

/-- C(..): the dict at the heap's end, the instance behind it; then its __init__ -/
theorem make_map {R : Result → Shared → Prop} {vs : List Value} {kw : List (Str × Value)} (X : K.In s.heap) (hm : PySem.W.makesIn K C = true)
    (hi : PySem.W.findIn K (.ref C) "__init__" = some (some (.ref f))) (hf : PySem.W.typeIn K (.ref f) = some (.type "function"))
    (h : codeAny (model prog w) (A.under (.builtin "type.__call__" ⟨.ref C :: vs, kw⟩)) (.call (.ref f) ⟨.ref (s.heap.objs.size + 1) :: vs, kw⟩) (PySem.W.InitBack (s.heap.objs.size + 1) R)
      { s with heap := (s.heap.push PySem.W.emptyDict).push (PySem.W.instObj C s.heap.objs.size) }) :
    codeAny (model prog w) A (.call (.ref C) ⟨vs, kw⟩) R s := by
  obtain ⟨hh, g, d, t, os⟩ := s
  exact PySem.W.make_core (PySem.W.makes_of X hm) (PySem.W.looks_findIn X hi) (fun self => PySem.W.bind_fn X self hf) (.inl rfl) h
end

/-! ### the attributes as a list of pairs -/
def putF (f : Str) (v : V) : List (Str × V) → List (Str × V)
  | [] => [(f, v)]
  | (g, x) :: r => if g = f then (g, v) :: r else (g, x) :: putF f v r
theorem lookup_putF (f g : Str) (v : V) : ∀ fs : List (Str × V), (putF f v fs).lookup g = if g = f then some v else fs.lookup g
  | [] => by
    show List.lookup g [(f, v)] = _
    by_cases h : g = f
    · have hb : (g == f) = true := beq_iff_eq.mpr h
      simp only [List.lookup, hb, if_pos h]
    · have hb : (g == f) = false := beq_eq_false_iff_ne.mpr h
      simp only [List.lookup, hb, if_neg h]
  | (k, x) :: r => by
    have ih := lookup_putF f g v r
    rw [show putF f v ((k, x) :: r) = (if k = f then (k, v) :: r else (k, x) :: putF f v r) from rfl]
    by_cases hk : k = f
    · rw [if_pos hk]
      by_cases h : g = k
      · have hb : (g == k) = true := beq_iff_eq.mpr h
        simp only [List.lookup, hb, if_pos (h.trans hk)]
      · have hb : (g == k) = false := beq_eq_false_iff_ne.mpr h
        simp only [List.lookup, hb, if_neg (fun e : g = f => h (e.trans hk.symm))]
    · rw [if_neg hk]
      by_cases h : g = k
      · have hb : (g == k) = true := beq_iff_eq.mpr h
        simp only [List.lookup, hb, if_neg (fun e : g = f => hk (h.symm.trans e))]
      · have hb : (g == k) = false := beq_eq_false_iff_ne.mpr h
        simp only [List.lookup, hb]
        exact ih
theorem keys_putF (f : Str) (v : V) : ∀ fs : List (Str × V), f ∈ (putF f v fs).map (·.1) ∧ ∀ g, g ∈ fs.map (·.1) → g ∈ (putF f v fs).map (·.1)
  | [] => ⟨by simp [putF], fun g h => by simp at h⟩
  | (k, x) :: r => by
    obtain ⟨i1, i2⟩ := keys_putF f v r
    rw [show putF f v ((k, x) :: r) = (if k = f then (k, v) :: r else (k, x) :: putF f v r) from rfl]
    by_cases hk : k = f
    · rw [if_pos hk]
      subst hk
      exact ⟨by simp, fun g h => by simpa using h⟩
    · rw [if_neg hk]
      refine ⟨?_, fun g h => ?_⟩
      · rw [List.map_cons]
        exact List.mem_cons_of_mem _ i1
      · rw [List.map_cons] at h ⊢
        rcases List.mem_cons.mp h with e | e
        · exact List.mem_cons.mpr (.inl e)
        · exact List.mem_cons_of_mem _ (i2 g e)
theorem length_putF (f : Str) (v : V) : ∀ fs : List (Str × V), (putF f v fs).length ≤ fs.length + 1
  | [] => by simp [putF]
  | (k, x) :: r => by
    have ih := length_putF f v r
    rw [show putF f v ((k, x) :: r) = (if k = f then (k, v) :: r else (k, x) :: putF f v r) from rfl]
    by_cases hk : k = f
    · rw [if_pos hk, List.length_cons, List.length_cons]; omega
    · rw [if_neg hk, List.length_cons, List.length_cons]; omega

theorem RelO.some_of {v : V} {o : Option Value} (r : RelO (some v) o) : ∃ u, o = some u ∧ RelV v u := by
  cases o with
  | none => exact (show False from r).elim
  | some u => exact ⟨u, rfl, r⟩
theorem RelO.none_of {o : Option Value} (r : RelO none o) : o = none := by
  cases o with
  | none => rfl
  | some u => exact (show False from r).elim
theorem handed_of {v : V} {u : Value} (r : RelV v u) : PySem.W.handedIn u = true := by
  cases v with
  | non => cases (show u = Value.none from r); rfl
  | bl b => cases (show u = Value.bool b from r); rfl
  | int i => obtain ⟨t, e⟩ := (show ∃ t, u = Value.int i t from r); cases e; rfl
  | str x => obtain ⟨t, e⟩ := (show ∃ t, u = Value.str x t from r); cases e; rfl
  | byt b => obtain ⟨t, e⟩ := (show ∃ t, u = Value.bytes b t from r); cases e; rfl
  | flt b => obtain ⟨t, e⟩ := (show ∃ t, u = Value.float b t from r); cases e; rfl
  | ref a => cases (show u = Value.ref a from r); rfl
  | ty n => cases (show u = Value.type n from r); rfl

section
variable {P : Program} {w : World} {H H' : Hp} {h h' : Heap} {a C dx : Addr} {fs fs' : List (Str × V)}
theorem ins_get (hok : HOk P w H h) (e : H a = some (.ins C dx fs)) : ∃ mA, ObjM h a dx C mA ∧ (∀ f, RelO (fs.lookup f) (mA f)) ∧ PySem.Within mA (fs.map (·.1)) ∧ fs.length ≤ 1000 ∧ H dx = some (.own a) := by
  obtain ⟨d, z, ne, ob, mA, n, r, q⟩ := (show ObjOk P w H h a (.ins C dx fs) from hok a _ e)
  exact ⟨mA, ⟨ob, n, ne⟩, r, q, z, d⟩
end

/-! ### what of the text a class must have -/
structure Cls (K : PySem.W.Frag) (C : Addr) : Prop where
  pg : PySem.W.plainGet K C Str.empty = true
  hd : PySem.W.hasDictIn K C = true
  po : PySem.W.plainOver K C = true
  sa : PySem.W.findIn K (.ref C) "__setattr__" = some (some (.builtin "object.__setattr__"))
theorem Cls.get {K : PySem.W.Frag} {C : Addr} (c : Cls K C) (f : Str) : PySem.W.plainGet K C f = true := c.pg
/-- no class of it has the name -/
def NoAttr (K : PySem.W.Frag) (C : Addr) (f : Str) : Prop := PySem.W.findIn K (.ref C) f = some none
theorem NoAttr.taker {K : PySem.W.Frag} {C : Addr} {f : Str} (n : NoAttr K C f) : PySem.W.takerIn K C f = some none := by
  unfold PySem.W.takerIn
  rw [show PySem.W.findIn K (.ref C) f = some none from n]
  rfl
/-- a constant of the class -/
structure Con (K : PySem.W.Frag) (C : Addr) (f : Str) (v : V) (u : Value) : Prop where
  at_ : PySem.W.findIn K (.ref C) f = some (some u)
  rel : RelV v u
  get : PySem.W.specialIn K u "__get__" = some none
  cp : PySem.W.copiedNames.contains f = false
/-- a method: a plain def of the class or of one above it -/
structure Meth (K : PySem.W.Frag) (C : Addr) (m : Str) (f : Addr) : Prop where
  at_ : PySem.W.findIn K (.ref C) m = some (some (.ref f))
  fn : PySem.W.isFn K (.ref f) = true
  kp : PySem.W.keepIn K (.ref f) = true

section
variable {X : Cx} {pins : List (Addr × Obj)} {σ : St} {H : Hp} {s : Shared} {a C dx : Addr} {fs : List (Str × V)} {f : Str} {v : V} {A : Around} {E : Value → Shared → Prop}

theorem getattr_ok {b : Bool} {Q : Value → Shared → Prop} (I : Inv X pins σ H s) (e : H a = some (.ins C dx fs)) (c : Cls X.K C) (n : NoAttr X.K C f) (l : fs.lookup f = some v)
    (h : ∀ u s', Inv X pins σ H s' → RelV v u → Q u s') : wpAny (model X.prog X.w) A (getAttr (.ref a) f b) Q E s := by
  obtain ⟨mA, O, r, _, _, _⟩ := ins_get I.hok e
  obtain ⟨u, hu, ru⟩ := RelO.some_of (v := v) (o := mA f) (by rw [← l]; exact r f)
  exact get_map I.kIn O (c.get f) c.hd n hu (handed_of ru) (h u _ (I.tok _) ru)

theorem getmeth_ok {m : Str} {g : Addr} {pl : Sem Bool} {Q : Value × List Value → Shared → Prop} (I : Inv X pins σ H s) (e : H a = some (.ins C dx fs)) (c : Cls X.K C) (k : Meth X.K C m g) (l : fs.lookup m = none)
    (h : Q (.ref g, [.ref a]) s) : wpAny (model X.prog X.w) A (getMethod (.ref a) m pl) Q E s := by
  obtain ⟨mA, O, r, _, _, _⟩ := ins_get I.hok e
  have hn : mA m = none := RelO.none_of (by rw [← l]; exact r m)
  exact get_meth I.kIn O (c.get m) k.at_ k.fn hn h

theorem setattr_ok {y : V} {u : Value} {Q : Unit → Shared → Prop} (I : Inv X pins σ H s) (e : H a = some (.ins C dx fs)) (c : Cls X.K C) (n : NoAttr X.K C f) (hl : fs.length < 1000) (ry : RelV y u)
    (h : ∀ s', Inv X pins σ (upd H a (.ins C dx (putF f y fs))) s' → Q () s') : wpAny (model X.prog X.w) A (setAttr (.ref a) f u) Q E s := by
  obtain ⟨mA, O, r, wi, _, ho⟩ := ins_get I.hok e
  have hz : (fs.map (·.1)).length ≤ sizeLine := by rw [List.length_map, sizeLine_eq]; omega
  refine set_map I.kIn O c.sa c.po n.taker c.hd wi hz fun h' O' sb => h _ ?_
  have hd : ∃ o, h'.get? dx = some o := let ⟨o, _, _, e', _⟩ := O'.ns; ⟨o, e'⟩
  refine I.write (x := a) (e := dx) (by rw [e]; exact True.intro) (.inr ho) (fun b q hb z => (sb.2 b hb).trans z) hd ?_
  refine ⟨by rw [upd_ne O.ne]; exact ho, ?_, O.ne, O'.obj, _, O'.ns, fun g => ?_, fun g hg => ?_⟩
  · have := length_putF f y fs; omega
  · show RelO ((putF f y fs).lookup g) (if g = f then some u else mA g)
    rw [lookup_putF]
    by_cases q : g = f
    · rw [if_pos q, if_pos q]; exact ry
    · rw [if_neg q, if_neg q]; exact r g
  · by_cases q : g = f
    · rw [q]; exact (keys_putF f y fs).1
    · refine (keys_putF f y fs).2 g (wi g fun z => hg ?_)
      show (if g = f then some u else mA g) = none
      rw [if_neg q]; exact z

/-- a new instance, tracked, without attributes -/
theorem Inv.made (I : Inv X pins σ H s) : Inv X pins σ (upd (upd H s.heap.objs.size (.own (s.heap.objs.size + 1))) (s.heap.objs.size + 1) (.ins C s.heap.objs.size []))
    { s with heap := (s.heap.push PySem.W.emptyDict).push (PySem.W.instObj C s.heap.objs.size) } := by
  have e1 : (s.heap.push PySem.W.emptyDict).get? s.heap.objs.size = some PySem.W.emptyDict := Heap.get?_push_size s.heap rfl
  have e2 : ((s.heap.push PySem.W.emptyDict).push (PySem.W.instObj C s.heap.objs.size)).get? (s.heap.objs.size + 1) = some (PySem.W.instObj C s.heap.objs.size) := by
    have := Heap.get?_push_size (s.heap.push PySem.W.emptyDict) (o := PySem.W.instObj C s.heap.objs.size) rfl
    rwa [Heap.size_push] at this
  have e3 : (s.heap.push PySem.W.emptyDict).Ns s.heap.objs.size (fun _ => none) := ⟨PySem.W.emptyDict, #[], _, e1, rfl, (fun e he => absurd he (by simp)), fun _ => rfl⟩
  have I1 := I.laid (a := s.heap.objs.size) (o := .own (s.heap.objs.size + 1)) (h' := s.heap.push PySem.W.emptyDict) (t' := s.toks) (fun b u q => Heap.get?_push_of_some _ q) (Nat.le_refl _) ⟨_, e1⟩
  refine I1.laid (a := s.heap.objs.size + 1) (o := .ins C s.heap.objs.size []) (t' := s.toks) (fun b u q => Heap.get?_push_of_some _ q) (Nat.le_of_eq (Heap.size_push _ _)) ?_
  have ne : s.heap.objs.size ≠ s.heap.objs.size + 1 := Nat.ne_of_lt (Nat.lt_succ_self _)
  refine ⟨by rw [upd_ne ne, upd_same], Nat.zero_le _, ne, e2, fun _ => none, (Heap.Ns1.of_empty e3).at fun o q => Heap.get?_push_of_some _ q, fun _ => True.intro, fun y hy => absurd rfl hy⟩

/-- e.f where nothing but the object is asked: through attributeBase (super) and the last hold -/
theorem attr_of {prog : Program} {w : World} {env : Env} {e : Expr} {f : Str} {pos : Pos} {s : Shared} {Q : Value → Shared → Prop} (hb : attributeBase e f env (eval e env) = eval e env)
    (h : wpAny (model prog w) A (eval e env) (fun o s₁ => wpAny (model prog w) A (getAttr o f true) Q E s₁) E s) : wpAny (model prog w) A (eval (.Attribute e f pos) env) Q E s :=
  Attribute_any_ h (by rw [arm_eval_Attribute, hb])
end

/-! ### readings and rules -/
/-- e.f, an attribute of the instance -/
def tFld (K : PySem.W.Frag) (ta : TE) (f : Str) : TE := fun σ H Q => ta σ H fun x H1 => ∃ a C dx fs v, x = .ref a ∧ H1 a = some (.ins C dx fs) ∧ Cls K C ∧ NoAttr K C f ∧ fs.lookup f = some v ∧ Q v H1
/-- e.f = value -/
def sFld (K : PySem.W.Frag) (ta tv : TE) (f : Str) : TS := fun D σ H => tv σ H fun y H1 => ta σ H1 fun x H2 => ∃ a C dx fs, x = .ref a ∧ H2 a = some (.ins C dx fs) ∧ Cls K C ∧ NoAttr K C f ∧ fs.length < 1000 ∧
  D.nx σ (upd H2 a (.ins C dx (putF f y fs)))
section
variable {X : Cx} {o e value : Expr} {f : Str} {pos pos' tpos : Pos} {ta tv : TE}
theorem pe_fld (he : PE X e ta) (hb : attributeBase e f X.env (eval e X.env) = eval e X.env) : PE X (.Attribute e f pos) (tFld X.K ta f) := by
  intro pins s σ H Q I h
  refine attr_of hb (thn (he pins s σ H _ I h) fun u s1 ⟨x, H1, I1, rx, a, C, dx, fs, v, ex, ea, c, n, l, q⟩ => ?_)
  subst ex
  obtain rfl : u = Value.ref a := rx
  exact getattr_ok I1 ea c n l fun u' s2 I2 ru => ⟨v, H1, I2, ru, q⟩
theorem ps_fld (ha : PE X o ta) (hv : PE X value tv) (hs : swapsWith value (some (.Attribute o f pos')) pos.line X.env = pure false) : PS X (.Assign [.Attribute o f pos'] value pos) (sFld X.K ta tv f) := by
  intro pins s σ H D I h
  refine plainObj_wpAny_Assign_Attribute (thn (hv pins s σ H _ I h) fun u s1 ⟨y, H1, I1, ry, q⟩ => thn (ha pins s1 σ H1 _ I1 q) fun ov s2 ⟨x, H2, I2, rx, a, C, dx, fs, ex, ea, c, n, l, q2⟩ => ?_) hs
  subst ex
  obtain rfl : ov = Value.ref a := rx
  exact setattr_ok I2 ea c n l ry fun s3 I3 => ⟨σ, _, I3, q2⟩
end

/-! ### isinstance -/
section
variable {X : Cx} {pins : List (Addr × Obj)} {σ : St} {H : Hp} {s : Shared} {A : Around} {E : Value → Shared → Prop} {Q : Value → Shared → Prop} {c : Value} {b : Bool}
/-- the type of a value, as the fragment's deciders take it; for an instance its class -/
inductive TyOf (K : PySem.W.Frag) (H : Hp) : V → Value → Prop where
  | non : TyOf K H .non (.type "NoneType")
  | bl (x : Bool) : TyOf K H (.bl x) (.type "bool")
  | int (i : Int) : TyOf K H (.int i) (.type "int")
  | str (x : Str) : TyOf K H (.str x) (.type "str")
  | flt (x : UInt64) : TyOf K H (.flt x) (.type "float")
  | lst {a : Addr} {xs : List V} (e : H a = some (.lst xs)) : TyOf K H (.ref a) (.type "list")
  | frz {a : Addr} {o : Obj} {xs : List V} (e : H a = some (.frz o (.lst xs))) : TyOf K H (.ref a) (.type "list")
  | tup {a : Addr} {xs : List V} (e : H a = some (.tup xs)) : TyOf K H (.ref a) (.type "tuple")
  | dK {a : Addr} {kvs : List (Key × V)} (e : H a = some (.dK kvs)) : TyOf K H (.ref a) (.type "dict")
  | dT {a : Addr} {kvs : List (List Key × V)} (e : H a = some (.dT kvs)) : TyOf K H (.ref a) (.type "dict")
  | ins {a C dx : Addr} {fs : List (Str × V)} (e : H a = some (.ins C dx fs)) (cl : Cls K C) (ha : PySem.W.findIn K (.ref C) "__class__" = some (some (.builtin "object.__class__")))
      (hn : PySem.W.specialIn K (.builtin "object.__class__") "__get__" = some (some (.builtin "getset_descriptor.__get__"))) (htk : PySem.W.takesIn K (.builtin "object.__class__") = some true)
      (hm : PySem.W.mroIn K C (.type "object") = some true) : TyOf K H (.ref a) (.ref C)
/-- isinstance(x, c) for one class c, a built-in or an own one: kitOne's answer -/
theorem isinst_ok {x : V} {u t : Value} (I : Inv X pins σ H s) (rx : RelV x u) (ty : TyOf X.K H x t) (e : PySem.W.kitOne X.K t c = some b) (h : ∀ tk, Q (.bool b) { s with toks := tk }) :
    wpAny (model X.prog X.w) A (call (.builtin "isinstance") [u, c]) Q E s := by
  cases ty with
  | non => cases (show u = Value.none from rx); exact PySem.W.kia_one PySem.W.kitx_none I.kIn True.intro e (fun z => nomatch z) h
  | bl y => cases (show u = Value.bool y from rx); exact PySem.W.kia_one PySem.W.kitx_bool I.kIn True.intro e (fun z => nomatch z) h
  | int i => obtain ⟨t, q⟩ := (show ∃ t, u = Value.int i t from rx); cases q; exact PySem.W.kia_one PySem.W.kitx_int I.kIn True.intro e (fun z => nomatch z) h
  | str y => obtain ⟨t, q⟩ := (show ∃ t, u = Value.str y t from rx); cases q; exact PySem.W.kia_one PySem.W.kitx_str I.kIn True.intro e (fun z => nomatch z) h
  | flt y => obtain ⟨t, q⟩ := (show ∃ t, u = Value.float y t from rx); cases q; exact PySem.W.kia_one PySem.W.kitx_float I.kIn True.intro e (fun z => nomatch z) h
  | @lst a xs ea =>
    cases (show u = Value.ref a from rx)
    obtain ⟨_, _, n, _, h1⟩ := (show ObjOk X.prog X.w H s.heap a (.lst xs) from I.hok a _ ea)
    exact PySem.W.kia_one PySem.W.kitx_list I.kIn ⟨_, h1, rfl⟩ e (fun z => nomatch z) h
  | @frz a ob xs ea =>
    cases (show u = Value.ref a from rx)
    obtain ⟨_, _, _, n, _, h1⟩ := (show ObjOk X.prog X.w H s.heap a (.frz ob (.lst xs)) from I.hok a _ ea)
    exact PySem.W.kia_one PySem.W.kitx_list I.kIn ⟨_, h1, rfl⟩ e (fun z => nomatch z) h
  | @tup a xs ea =>
    cases (show u = Value.ref a from rx)
    obtain ⟨_, _, _, p⟩ := (show ObjOk X.prog X.w H s.heap a (.tup xs) from I.hok a _ ea)
    obtain ⟨o, h1, h2, _⟩ := p
    exact PySem.W.kia_one PySem.W.kitx_tuple I.kIn ⟨o, h1, h2⟩ e (fun z => nomatch z) h
  | @dK a kvs ea =>
    cases (show u = Value.ref a from rx)
    obtain ⟨_, _, vs, _, p⟩ := (show ObjOk X.prog X.w H s.heap a (.dK kvs) from I.hok a _ ea)
    obtain ⟨o, es, ep, h1, h2, _⟩ := p
    exact PySem.W.kia_one PySem.W.kitx_dict I.kIn ⟨o, h1, h2.1⟩ e (fun z => nomatch z) h
  | @dT a kvs ea => exact (show False from I.hok a _ ea).elim
  | @ins a C dx fs ea cl ha hn htk hm =>
    cases (show u = Value.ref a from rx)
    obtain ⟨mA, O, _⟩ := ins_get I.hok ea
    obtain ⟨od, J, _⟩ := O.look
    exact PySem.W.kia_one (PySem.W.kitx_own (cl.get _) cl.hd ha hn htk hm) I.kIn J e (fun z => nomatch z) h
end
end L2

namespace L2
open PySem PySem.Spec PyProof.Rows

/-! ### room -/
structure Room (k : Nat) (A : Around) : Prop where
  hd : A.handled = none
  dp : A.depth + 3 * k + 5 < recursionLimit
  un : A.units + 16 * k + 200 < cLine
theorem Room.mono {j k : Nat} {A : Around} (r : Room k A) (h : j ≤ k) : Room j A := ⟨r.hd, by have := r.dp; omega, by have := r.un; omega⟩
theorem Room.deeper {k : Nat} {A : Around} (r : Room (k + 1) A) (env : Env) : Room k (A.deeper env) :=
  ⟨r.hd, by have := r.dp; show A.depth + 1 + 3 * k + 5 < _; omega, by have := r.un; show A.units + 3 + 16 * k + 200 < _; omega⟩
theorem Room.in1 {k : Nat} {A : Around} (r : Room (k + 1) A) : Room k A.in1 :=
  ⟨r.hd, by have := r.dp; show A.depth + 3 * k + 5 < _; omega, by have := r.un; show A.units + 1 + 16 * k + 200 < _; omega⟩
theorem make_depth {A : Around} {C : Addr} {us : List Value} {kw : List (Str × Value)} : (A.under (.builtin "type.__call__" ⟨.ref C :: us, kw⟩)).depth = A.depth + 1 := by
  first | rfl | simp [Around.under, Code.weight, Code.isCreation, Code.isGuard, Code.isCaller, Code.frames, Code.isFrame, guardIds]
theorem make_units {A : Around} {C : Addr} {us : List Value} {kw : List (Str × Value)} : (A.under (.builtin "type.__call__" ⟨.ref C :: us, kw⟩)).units = A.units + 1 := by
  first | rfl | simp [Around.under, Code.cUnits, Code.frames, Code.isFrame]
theorem Room.make {k : Nat} {A : Around} (r : Room (k + 1) A) (C : Addr) (us : List Value) (kw : List (Str × Value)) : Room k (A.under (.builtin "type.__call__" ⟨.ref C :: us, kw⟩)) :=
  ⟨r.hd, by have := r.dp; rw [make_depth]; omega, by have := r.un; rw [make_units]; omega⟩
theorem Room.depth {k : Nat} {A : Around} (r : Room k A) : A.depth < recursionLimit := by have := r.dp; omega
theorem Room.units {k : Nat} {A : Around} (r : Room k A) : A.units + 64 < cLine := by have := r.un; omega
/-! ### argument lists and displays -/
def tNil : TA := fun _ H Q => Q [] H
def tCons (ta : TE) (tr : TA) : TA := fun σ H Q => ta σ H fun x H1 => tr σ H1 fun xs H2 => Q (x :: xs) H2
section
variable {X : Cx} {e : Expr} {es : List Expr} {te : TE} {t : TA} {pos : Pos}
theorem pa_nil : PA X [] tNil := fun _ _ _ _ H Q I h => Calls.spliced_nil ⟨[], H, I, .nil, h⟩
theorem pa_cons (ha : PE X e te) (hr : PA X es t) (hs : starEach (e :: es) X.env = (false, eval e X.env) :: starEach es X.env := by rfl) : PA X (e :: es) (tCons te t) := by
  intro pos pins s σ H Q I h
  rw [hs]
  show wpAny _ _ (spliced ((false, eval e X.env) :: backTo pos (starEach es X.env))) _ _ s
  refine Calls.spliced_cons (thn (ha pins s σ H _ I h) fun u s1 ⟨x, H1, I1, r1, q1⟩ => ?_)
  exact thn (hr pos pins s1 σ H1 _ I1 q1) fun us s2 ⟨xs, H2, I2, r2, q2⟩ => ⟨x :: xs, H2, I2, .cons r1 r2, q2⟩

/-- a tuple, a list of written items -/
def tTup (t : TA) : TE := fun σ H Q => t σ H fun xs H1 => xs.length ≤ sizeLine ∧ ∀ p, H1 p = none → Q (.ref p) (upd H1 p (.tup xs))
def tLst (t : TA) : TE := fun σ H Q => t σ H fun xs H1 => xs.length ≤ sizeLine ∧ ∀ p, H1 p = none → Q (.ref p) (upd H1 p (.lst xs))
theorem pe_tup {x1} (h : PA X es t) : PE X (.Tuple es x1 pos) (tTup t) := by
  intro pins s σ H Q I hq
  refine wpAny_Tuple_spliced (thn (h pos pins s σ H _ I hq) fun us s1 ⟨xs, H1, I1, r, z, q⟩ => ⟨by rw [← r.length]; exact z, ?_⟩)
  have hf : H1 s1.heap.objs.size = none := I1.hok.fresh (Nat.le_refl _)
  refine ⟨.ref s1.heap.objs.size, upd H1 s1.heap.objs.size (.tup xs), I1.laid (t' := s1.toks) (fun b u e => Heap.get?_push_of_some _ e) (Nat.le_refl _) ?_, rfl, q _ hf⟩
  exact ⟨z, us, r, ⟨_, Heap.get?_push_size _ rfl, rfl, _, rfl⟩⟩
theorem pe_lst (h : PA X es t) : PE X (.List es pos) (tLst t) := by
  intro pins s σ H Q I hq
  refine wpAny_List_spliced (thn (h pos pins s σ H _ I hq) fun us s1 ⟨xs, H1, I1, r, z, q⟩ => ⟨by rw [← r.length]; exact z, ?_⟩)
  have hf : H1 s1.heap.objs.size = none := I1.hok.fresh (Nat.le_refl _)
  refine ⟨.ref s1.heap.objs.size, upd H1 s1.heap.objs.size (.lst xs), I1.laid (t' := s1.toks) (fun b u e => Heap.get?_push_of_some _ e) (Nat.le_refl _) ?_, rfl, q _ hf⟩
  exact ⟨z, us, 0, r, Heap.get?_push_size _ rfl⟩
end

/-! ### what a def promises -/
/-- a def's promise: the bound arguments in the parameters' order, the heap, the wanted end, the wanted exception -/
abbrev Sp := List V → Hp → VK → XK → Prop
/-- how an exception lies behind a call (file 08 gives it): the callers' frames, abstract heap and state ahead of the call, the wish, the exception, the state -/
abbrev CXT := List Env → Hp → Shared → XK → Value → Shared → Prop

/-- the state at a call -/
structure Env0 (P : Program) (w : World) (K : PySem.W.Frag) (mg : Str → Option Value) (base : Heap) (A : Around) (outer : List Env) (s : Shared) (H : Hp) : Prop where
  frames : A.frames = some outer
  mod : Mod K mg base
  bs : ∀ b o, base.get? b = some o → s.heap.get? b = some o ∧ H b = none
  bsz : base.objs.size ≤ s.heap.objs.size
  funs : s.heap.FunFrames base outer
  frf : ∀ b ∈ frs outer, H b = none
  hok : HOk P w H s.heap
  bare : AllBare s.gens
/-- a call's end -/
def CE (outer : List Env) (P : Program) (w : World) (H : Hp) (s : Shared) (Q : VK) (u : Value) (s' : Shared) : Prop :=
  ∃ v H', s'.os = s.os ∧ AllBare s'.gens ∧ Un (frs outer) [] H H' s.heap s'.heap ∧ HOk P w H' s'.heap ∧ RelV v u ∧ Q v H'
def CR (CX : CXT) (outer : List Env) (P : Program) (w : World) (H : Hp) (s : Shared) (Q : VK) (E : XK) (r : Result) (s' : Shared) : Prop :=
  match r with
  | .ok (.ret u) => CE outer P w H s Q u s'
  | .ok _ => False
  | .error e => CX outer H s E e s'
structure FnOk (P : Program) (w : World) (K : PySem.W.Frag) (mg : Str → Option Value) (base : Heap) (CX : CXT) (k : Nat) (f : Addr) (fd : FuncData) (ps : List Str) (sp : Sp) : Prop where
  len : ∀ vs H Q E, sp vs H Q E → vs.length = ps.length
  run : ∀ (A : Around) (outer : List Env) (s : Shared) (H : Hp) (args : Args) (us : List Value) (vs : List V) (Q : VK) (E : XK), Room k A → Env0 P w K mg base A outer s H → BindsTo s fd args (ps.zip us) → Vals vs us → sp vs H Q E →
    codeAny (model P w) A (.call (.ref f) args) (CR CX outer P w H s Q E) s
theorem FnOk.mono {P : Program} {w : World} {K : PySem.W.Frag} {mg : Str → Option Value} {base : Heap} {CX : CXT} {j k : Nat} {f : Addr} {fd : FuncData} {ps : List Str} {sp : Sp} (F : FnOk P w K mg base CX j f fd ps sp) (h : j ≤ k) :
    FnOk P w K mg base CX k f fd ps sp := ⟨F.len, fun A outer s H args us vs Q E hr => F.run A outer s H args us vs Q E (hr.mono h)⟩
theorem Env0.make {P : Program} {w : World} {K : PySem.W.Frag} {mg : Str → Option Value} {base : Heap} {A : Around} {outer : List Env} {s : Shared} {H : Hp} (e : Env0 P w K mg base A outer s H) (C : Addr) (us : List Value) (kw : List (Str × Value)) :
    Env0 P w K mg base (A.under (.builtin "type.__call__" ⟨.ref C :: us, kw⟩)) outer s H := ⟨by first | exact e.frames | (simpa [Around.under, Code.envs, Code.isFrame, pushEnvs] using e.frames), e.mod, e.bs, e.bsz, e.funs, e.frf, e.hok, e.bare⟩
theorem Env0.in1 {P : Program} {w : World} {K : PySem.W.Frag} {mg : Str → Option Value} {base : Heap} {A : Around} {outer : List Env} {s : Shared} {H : Hp} (e : Env0 P w K mg base A outer s H) :
    Env0 P w K mg base A.in1 outer s H := ⟨e.frames, e.mod, e.bs, e.bsz, e.funs, e.frf, e.hok, e.bare⟩

section
variable {X : Cx} {pins : List (Addr × Obj)} {σ : St} {H : Hp} {s s' : Shared}
/-- from a body: what a callee wants -/
theorem Inv.env0 (I : Inv X pins σ H s) : Env0 X.prog X.w X.K X.mg X.base X.A X.stack s H :=
  ⟨I.ok.frames, I.ok.mod, I.bs, Nat.le_trans I.ok.bsz I.sz, I.stack, I.stkFree, I.hok, I.bare⟩
/-- behind a call -/
theorem Inv.after {Q : VK} {u : Value} (I : Inv X pins σ H s) (h : CE X.stack X.prog X.w H s Q u s') : EP X pins σ Q u s' := by
  obtain ⟨v, H', os, bare, un, hok, r, q⟩ := h
  obtain ⟨hh, g, d, t, os'⟩ := s'
  obtain rfl : os' = s.os := os
  exact ⟨v, H', I.call (h' := hh) (g' := g) (d' := d) (t' := t) (ch := []) un hok bare (fun b z => absurd z (by simp)), r, q⟩
end

/-! ### calls -/
/-- f(..): the written arguments, then the defaults dvs; E: what is wanted of an exception -/
def tCall (sp : Sp) (dvs : List V) (E : XK) (t : TA) : TE := fun σ H Q => t σ H fun vs H1 => sp (vs ++ dvs) H1 Q E
/-- o.m(..) of an instance of the class at C -/
def tMeth (C : Addr) (m : Str) (sp : Sp) (dvs : List V) (E : XK) (ta : TE) (t : TA) : TE := fun σ H Q => ta σ H fun x H1 => ∃ a dx fs, x = .ref a ∧ H1 a = some (.ins C dx fs) ∧ fs.lookup m = none ∧
  t σ H1 fun vs H2 => sp (x :: (vs ++ dvs)) H2 Q E
/-- C(..): a new instance and its dict, then __init__ -/
def tMake (C : Addr) (sp : Sp) (dvs : List V) (E : XK) (t : TA) : TE := fun σ H Q => t σ H fun vs H1 => ∀ x dx, H1 x = none → H1 dx = none → dx ≠ x →
  sp (.ref x :: (vs ++ dvs)) (upd (upd H1 dx (.own x)) x (.ins C dx [])) (fun v H2 => v = .non ∧ Q (.ref x) H2) E

/-- how the parameters are bound: us the positional arguments, kw the keywords' values by name, ds the defaults that fill up -/
def Binds (K : PySem.W.Frag) (fd : FuncData) (ps : List Str) (ds : List Value) : Prop :=
  ∀ (s : Shared) (us : List Value), K.In s.heap → (us ++ ds).length = ps.length → BindsTo s fd ⟨us, []⟩ (ps.zip (us ++ ds))
/-- every parameter is given -/
theorem Binds.all {K : PySem.W.Frag} {fd : FuncData} {ps : List Str} (h : ∀ us : List Value, us.length = ps.length → bindArgs fd ⟨us, []⟩ = pure (ps.zip us)) : Binds K fd ps [] := fun s us _ hl => by
  rw [List.append_nil] at hl ⊢
  exact .of_eq (h us hl)

/-- an exception of a callee reaches what this body wants of exceptions -/
def Passes (CX : CXT) (X : Cx) (E : XK) : Prop := ∀ (pins : List (Addr × Obj)) (σ : St) (H : Hp) (s : Shared) (e : Value) (s' : Shared), Inv X pins σ H s → CX X.stack H s E e s' → X.xe e s'

section
variable {X : Cx} {CX : CXT} {k : Nat} {f C : Addr} {fd : FuncData} {ps : List Str} {sp : Sp} {dvs : List V} {ds : List Value} {E : XK} {x m : Str} {p pos apos : Pos} {e o : Expr} {es : List Expr} {ta : TE} {t : TA}

/-- the callee runs -/
theorem run_fn {pins : List (Addr × Obj)} {σ : St} {H : Hp} {s : Shared} {Q : VK} {us : List Value} {vs : List V} (F : FnOk X.prog X.w X.K X.mg X.base CX k f fd ps sp) (hr : Room k X.A) (hb : Binds X.K fd ps ds) (hd : Vals dvs ds) (hx : Passes CX X E)
    (I : Inv X pins σ H s) (r : Vals vs us) (h : sp (vs ++ dvs) H Q E) : wpAny (model X.prog X.w) X.A (call (.ref f) us) (EP X pins σ Q) X.xe s := by
  have r2 : Vals (vs ++ dvs) (us ++ ds) := r.append hd
  have hl : (us ++ ds).length = ps.length := by rw [← r2.length]; exact F.len _ _ _ _ h
  refine wpAny_call (codeAny_mono (F.run X.A X.stack s H ⟨us, []⟩ (us ++ ds) (vs ++ dvs) Q E hr I.env0 (hb s us I.kIn hl) r2 h) fun r s' hq => ?_)
  cases r with
  | error e => exact hx pins σ H s e s' I hq
  | ok fl =>
    cases fl with
    | ret u => exact I.after hq
    | next => exact False.elim hq
    | brk => exact False.elim hq
    | cont => exact False.elim hq

theorem pe_call (F : FnOk X.prog X.w X.K X.mg X.base CX k f fd ps sp) (hr : Room k X.A) (hg : Gl X x) (hm : X.mg x = some (.ref f)) (hk : PySem.W.keepIn X.K (.ref f) = true) (hb : Binds X.K fd ps ds) (hd : Vals dvs ds) (hx : Passes CX X E)
    (ha : PA X (e :: es) t) (hdb : (x == ("__debug__" : Str)) = false := by decide) (he : starEach (e :: es) X.env = (false, eval e X.env) :: starEach es X.env := by rfl) (hpl : (backTo pos (starEach es X.env)).any (·.1) = false := by rfl) :
    PE X (.Call (.Name x p) (e :: es) [] pos) (tCall sp dvs E t) := by
  intro pins s σ H Q I h
  refine wpAny_Call_Name_kw (ld_glob I hg hm ?_ hdb)
  refine PySem.W.callWith_K (h₀ := X.base) I.ok.mod.kin hk (thn (ha pos pins s σ H _ I h) fun us s1 ⟨vs, H1, I1, r, q⟩ => ⟨I1.kIn, ?_⟩) he hpl
  exact run_fn F hr hb hd hx I1 r q
/-- o.m(e, ..) -/
theorem pe_meth {pl : Sem Bool} (he : PE X o ta) (c : Cls X.K C) (hm : Meth X.K C m f) (F : FnOk X.prog X.w X.K X.mg X.base CX k f fd ps sp) (hr : Room k X.A) (hb : Binds X.K fd ps ds) (hd : Vals dvs ds) (hx : Passes CX X E) (ha : PA X (e :: es) t)
    (hst : starEach (e :: es) X.env = (false, eval e X.env) :: starEach es X.env := by rfl) (hpl : (backTo pos (starEach es X.env)).any (·.1) = false := by rfl)
    (ht : eval (.Call (.Attribute o m apos) (e :: es) [] pos) X.env = (do
      let ov ← eval o X.env
      standAt apos.atName
      let (f, first) ← holding [ov] (getMethod ov m pl)
      callWith pos f first (backTo pos (starEach (e :: es) X.env)) (backToKw pos (keywordEach [] X.env))) := by rfl) :
    PE X (.Call (.Attribute o m apos) (e :: es) [] pos) (tMeth C m sp dvs E ta t) := by
  intro pins s σ H Q I h
  refine PySem.W.methodCall_KW (pl := pl) (thn (he pins s σ H _ I h) fun u s1 ⟨x, H1, I1, rx, a, dx, fs, ex, ea, l, q⟩ => ?_) ht
  subst ex
  obtain rfl : u = Value.ref a := rx
  refine getmeth_ok I1 ea c hm l ?_
  refine PySem.W.callWith_K (first := [.ref a]) (h₀ := X.base) I.ok.mod.kin hm.kp (thn (ha pos pins s1 σ H1 _ I1 q) fun us s2 ⟨vs, H2, I2, r, q2⟩ => ⟨I2.kIn, ?_⟩) hst hpl
  exact run_fn (us := .ref a :: us) (vs := .ref a :: vs) F hr hb hd hx I2 (.cons rfl r) q2
/-- o.m() -/
theorem pe_meth0 {pl : Sem Bool} (he : PE X o ta) (c : Cls X.K C) (hm : Meth X.K C m f) (F : FnOk X.prog X.w X.K X.mg X.base CX k f fd ps sp) (hr : Room k X.A) (hb : Binds X.K fd ps ds) (hd : Vals dvs ds) (hx : Passes CX X E)
    (ht : eval (.Call (.Attribute o m apos) [] [] pos) X.env = (do
      let ov ← eval o X.env
      standAt apos.atName
      let (f, first) ← holding [ov] (getMethod ov m pl)
      callWith pos f first (backTo pos (starEach [] X.env)) (backToKw pos (keywordEach [] X.env))) := by rfl) :
    PE X (.Call (.Attribute o m apos) [] [] pos) (tMeth C m sp dvs E ta tNil) := by
  intro pins s σ H Q I h
  refine PySem.W.methodCall_KW (pl := pl) (thn (he pins s σ H _ I h) fun u s1 ⟨x, H1, I1, rx, a, dx, fs, ex, ea, l, q⟩ => ?_) ht
  subst ex
  obtain rfl : u = Value.ref a := rx
  refine getmeth_ok I1 ea c hm l ?_
  exact PySem.W.callWith_K0 (first := [.ref a]) I1.kIn hm.kp (run_fn (us := [.ref a]) (vs := [.ref a]) F hr hb hd hx I1 (.cons rfl .nil) q)

/-- what a class must have to be made -/
structure Mk (K : PySem.W.Frag) (C f : Addr) : Prop where
  makes : PySem.W.makesIn K C = true
  init : PySem.W.findIn K (.ref C) "__init__" = some (some (.ref f))
  fn : PySem.W.isFn K (.ref f) = true
  kp : PySem.W.keepIn K (.ref C) = true

theorem run_make {pins : List (Addr × Obj)} {σ : St} {H : Hp} {s : Shared} {Q : VK} {us : List Value} {vs : List V} (M : Mk X.K C f) (F : FnOk X.prog X.w X.K X.mg X.base CX k f fd ps sp) (hr : Room (k + 1) X.A) (hb : Binds X.K fd ps ds) (hd : Vals dvs ds)
    (hx : Passes CX X E) (I : Inv X pins σ H s) (r : Vals vs us)
    (h : ∀ x dx, H x = none → H dx = none → dx ≠ x → sp (.ref x :: (vs ++ dvs)) (upd (upd H dx (.own x)) x (.ins C dx [])) (fun v H2 => v = .non ∧ Q (.ref x) H2) E) :
    wpAny (model X.prog X.w) X.A (call (.ref C) us) (EP X pins σ Q) X.xe s := by
  have hq := h (s.heap.objs.size + 1) s.heap.objs.size (I.hok.fresh (Nat.le_succ _)) (I.hok.fresh (Nat.le_refl _)) (Nat.ne_of_lt (Nat.lt_succ_self _))
  have I2 := Inv.made (C := C) I
  have r2 : Vals (V.ref (s.heap.objs.size + 1) :: (vs ++ dvs)) (Value.ref (s.heap.objs.size + 1) :: (us ++ ds)) := .cons rfl (r.append hd)
  have hl : (Value.ref (s.heap.objs.size + 1) :: us ++ ds).length = ps.length := by
    have e := r2.length
    rw [F.len _ _ _ _ hq] at e
    exact e.symm
  refine wpAny_call (make_map (f := f) I.kIn M.makes M.init (beq_iff_eq.mp M.fn) (codeAny_mono (F.run _ X.stack _ _ ⟨Value.ref (s.heap.objs.size + 1) :: us, []⟩ (Value.ref (s.heap.objs.size + 1) :: (us ++ ds)) _ _ E (hr.make C us [])
    (I2.env0.make C us []) (hb _ (Value.ref (s.heap.objs.size + 1) :: us) I2.kIn hl) r2 hq) fun r s' hq' => ?_))
  cases r with
  | error e => exact hx pins σ _ _ e s' I2 hq'
  | ok fl =>
    cases fl with
    | ret u =>
      obtain ⟨v, H', I3, rv, ev, q3⟩ := I2.after hq'
      subst ev
      exact ⟨rv, ⟨V.ref (s.heap.objs.size + 1), H', I3, rfl, q3⟩⟩
    | next => exact False.elim hq'
    | brk => exact False.elim hq'
    | cont => exact False.elim hq'
theorem pe_make (M : Mk X.K C f) (F : FnOk X.prog X.w X.K X.mg X.base CX k f fd ps sp) (hr : Room (k + 1) X.A) (hg : Gl X x) (hm : X.mg x = some (.ref C)) (hb : Binds X.K fd ps ds) (hd : Vals dvs ds) (hx : Passes CX X E)
    (ha : PA X (e :: es) t) (hdb : (x == ("__debug__" : Str)) = false := by decide) (he : starEach (e :: es) X.env = (false, eval e X.env) :: starEach es X.env := by rfl) (hpl : (backTo pos (starEach es X.env)).any (·.1) = false := by rfl) :
    PE X (.Call (.Name x p) (e :: es) [] pos) (tMake C sp dvs E t) := by
  intro pins s σ H Q I h
  refine wpAny_Call_Name_kw (ld_glob I hg hm ?_ hdb)
  refine PySem.W.callWith_K (h₀ := X.base) I.ok.mod.kin M.kp (thn (ha pos pins s σ H _ I h) fun us s1 ⟨vs, H1, I1, r, q⟩ => ⟨I1.kIn, ?_⟩) he hpl
  exact run_make M F hr hb hd hx I1 r q
end

/-! ### keywords -/
section
variable {X : Cx} {CX : CXT} {k : Nat} {f C : Addr} {fd : FuncData} {ps ks : List Str} {sp : Sp} {E : XK} {x m : Str} {p pos apos kpos : Pos} {e o : Expr} {es : List Expr} {kws : List Keyword} {te ta : TE} {t tk : TA} {nm : Option Str}
/-- how a call with keywords binds: g puts the positional values us and the keywords' values ws (names ks) in the parameters' order, defaults among them -/
structure KBinds (K : PySem.W.Frag) (fd : FuncData) (ps ks : List Str) (g : List Value → List Value → List Value) (gV : List V → List V → List V) : Prop where
  to : ∀ (s : Shared) (us ws : List Value), K.In s.heap → (g us ws).length = ps.length → BindsTo s fd ⟨us, ks.zip ws⟩ (ps.zip (g us ws))
  rel : ∀ {vs : List V} {us : List Value} {zs : List V} {ws : List Value}, Vals vs us → Vals zs ws → Vals (gV vs zs) (g us ws)
variable {g : List Value → List Value → List Value} {gV : List V → List V → List V}
end

/-! ### a def's body keeps its promise -/
/-- names: the parameters first -/
structure FnScope (N P : List Str) (sc : Scope) : Prop where
  kind : sc.kind = .function
  co : sc.isCoroutine = false
  gen : sc.isGenerator = false
  nd : N.Nodup
  pre : N.take P.length = P
  par : ∀ x ∈ P, sc.names.lookup x = some .local ∨ sc.names.lookup x = some .cell
  nofree : ∀ y ∈ sc.names, y.2 ≠ .free

theorem bindL_out {kindOf : Str → Option NameKind} {x : Str} : ∀ {binds : List (Str × Value)} {m : Str → Option Value}, (∀ v, (x, v) ∉ binds) → bindL kindOf binds m x = m x
  | [], _, _ => rfl
  | (n, v) :: r, m, h => by
    unfold bindL
    rw [bindL_out fun w hw => h w (List.mem_cons_of_mem _ hw)]
    split
    · have : x ≠ n := by rintro rfl; exact h v List.mem_cons_self
      simp [this]
    · rfl
theorem bindC_out {kindOf : Str → Option NameKind} {x : Str} : ∀ {binds : List (Str × Value)} {m : Str → Option Value}, (∀ v, (x, v) ∉ binds) → bindC kindOf binds m x = m x
  | [], _, _ => rfl
  | (n, v) :: r, m, h => by
    unfold bindC
    rw [bindC_out fun w hw => h w (List.mem_cons_of_mem _ hw)]
    split
    · rfl
    · have : x ≠ n := by rintro rfl; exact h v List.mem_cons_self
      simp [this]
theorem bindL_get {kindOf : Str → Option NameKind} {x : Str} {v : Value} : ∀ {P : List Str} {vs : List Value} {i : Nat} {m : Str → Option Value}, P.Nodup → P[i]? = some x → vs[i]? = some v → kindOf x = some .local →
    bindL kindOf (P.zip vs) m x = some v
  | [], _, _, _, _, h, _, _ => by simp at h
  | _ :: _, [], _, _, _, _, h, _ => by simp at h
  | p :: P, w :: vs, 0, m, nd, h1, h2, hk => by
    simp at h1 h2; subst h1; subst h2
    show bindL kindOf ((p, w) :: P.zip vs) m p = _
    unfold bindL
    rw [bindL_out fun v hv => (List.nodup_cons.mp nd).1 (List.of_mem_zip hv).1, if_pos hk]
    simp
  | p :: P, w :: vs, i + 1, m, nd, h1, h2, hk => by
    show bindL kindOf ((p, w) :: P.zip vs) m x = _
    unfold bindL
    exact bindL_get (i := i) (List.nodup_cons.mp nd).2 (by simpa using h1) (by simpa using h2) hk
theorem bindC_get {kindOf : Str → Option NameKind} {x : Str} {v : Value} : ∀ {P : List Str} {vs : List Value} {i : Nat} {m : Str → Option Value}, P.Nodup → P[i]? = some x → vs[i]? = some v → kindOf x ≠ some .local →
    bindC kindOf (P.zip vs) m x = some v
  | [], _, _, _, _, h, _, _ => by simp at h
  | _ :: _, [], _, _, _, _, h, _ => by simp at h
  | p :: P, w :: vs, 0, m, nd, h1, h2, hk => by
    simp at h1 h2; subst h1; subst h2
    show bindC kindOf ((p, w) :: P.zip vs) m p = _
    unfold bindC
    rw [bindC_out fun v hv => (List.nodup_cons.mp nd).1 (List.of_mem_zip hv).1, if_neg hk]
    simp
  | p :: P, w :: vs, i + 1, m, nd, h1, h2, hk => by
    show bindC kindOf ((p, w) :: P.zip vs) m x = _
    unfold bindC
    exact bindC_get (i := i) (List.nodup_cons.mp nd).2 (by simpa using h1) (by simpa using h2) hk

/-- the names' values at the entry -/
def start (N : List Str) (vs : List V) : St := vs.map some ++ List.replicate (N.length - vs.length) none

/-- the context of a def's body, at its entry; an exception leaves the frame, then lies as CX says -/
def cxOf (CX : CXT) (P : Program) (w : World) (K : PySem.W.Frag) (mg : Str → Option Value) (base : Heap) (N : List Str) (qual : Str) (scope : Scope) (f : Addr) (cd : Value) (A : Around) (outer : List Env) (s : Shared) (H : Hp) (E : XK) : Cx where
  prog := P
  w := w
  K := K
  mg := mg
  base := base
  A := A.deeper (envOfC qual scope s.heap.objs.size f cd)
  N := N
  s₀ := s
  H₀ := H
  env := envOfC qual scope s.heap.objs.size f cd
  outer := outer
  stack := envOfC qual scope s.heap.objs.size f cd :: outer
  ex := []
  calm := true
  fn := fun _ => true
  pn := []
  xe := fun e s' => wpAny (model P w) (A.deeper (envOfC qual scope s.heap.objs.size f cd)) (leaving (envOfC qual scope s.heap.objs.size f cd) e) (fun _ s'' => CX outer H s E e s'') (fun e' s'' => CX outer H s E e' s'') s'

theorem cell_has {sc : Scope} {n : Nat} {x : Str} (h : sc.names.lookup x = some .cell) : ∃ c, (cellsFrom n sc.names []).lookup x = some c := by
  have q := PySem.W.cellsFrom_some sc.names n [] (.inl h)
  exact Option.isSome_iff_exists.mp q

theorem inv_start {CX : CXT} {P : Program} {w : World} {K : PySem.W.Frag} {mg : Str → Option Value} {base : Heap} {N ps : List Str} {qual : Str} {scope : Scope} {f : Addr} {cd : Value} {A : Around} {outer : List Env} {s s1 : Shared} {H : Hp} {E : XK} {us : List Value} {vs : List V}
    (S : FnScope N ps scope) (hd : A.handled = none) (e0 : Env0 P w K mg base A outer s H) (hl : vs.length = ps.length) (r : Vals vs us)
    (x : InCallC s s.heap.objs.size (bindL (envOfC qual scope s.heap.objs.size f cd).kindOf (ps.zip us) fun _ => none) (cellsFrom (s.heap.objs.size + 1) scope.names []) (bindC (envOfC qual scope s.heap.objs.size f cd).kindOf (ps.zip us) fun _ => none) s1) :
    Inv (cxOf CX P w K mg base N qual scope f cd A outer s H E) [] (start N vs) H s1 := by
  have hpl : ps.length ≤ N.length := by have := congrArg List.length S.pre; rw [List.length_take] at this; omega
  obtain ⟨h1, tk, rfl, hk⟩ := x.done
  have noA : ∀ b : Addr, b ∉ (cxOf CX P w K mg base N qual scope f cd A outer s H E).ex := fun b z => absurd (show b ∈ ([] : List Addr) from z) (by simp)
  refine ⟨⟨e0.mod, S.kind, rfl, rfl, Nat.le_refl _, fun y z c h1 h2 => ?_, fun y hy => ?_, fun y c _ h => ?_, fun _ => hd, Around.frames_deeper e0.frames, .inr ⟨rfl, rfl⟩, fun b z => absurd z (noA b), e0.bs, e0.bsz, fun b _ _ => noA b, fun b z => absurd z (noA b), e0.funs, e0.frf⟩,
    rfl, e0.bare, Un.kept hk, ⟨_, x.toInCall.ns, fun i y v h1 h2 h3 => ?_⟩, fun y c h => ⟨_, x.cell y c h⟩, e0.hok.fresh (Nat.le_refl _), fun y c h => ?_, fun p hp => absurd (show p ∈ ([] : List (Addr × Obj)) from hp) (by simp), e0.hok.kept hk, ?_⟩
  · exact name_of_addr x.apart (PySem.mem_of_lookup h1) (PySem.mem_of_lookup h2)
  · have hy : scope.names.lookup y = some .cell ∨ scope.names.lookup y = some .free := hy
    rcases hy with hy | hy
    · exact cell_has hy
    · exact absurd rfl (S.nofree _ (PySem.mem_of_lookup hy))
  · exact Nat.le_of_lt (x.above y c (PySem.mem_of_lookup h))
  · have hi : i < vs.length := by
      unfold start at h2
      by_cases hi : i < vs.length
      · exact hi
      · rw [List.getElem?_append_right (by simpa using hi)] at h2
        rw [List.getElem?_replicate] at h2
        split at h2 <;> cases h2
    have ha : vs[i]? = some v := by
      unfold start at h2
      rw [List.getElem?_append_left (by simpa using hi), List.getElem?_map] at h2
      cases e : vs[i]? with
      | none => rw [e] at h2; cases h2
      | some a => rw [e] at h2; cases h2; rfl
    obtain ⟨u, hu, rv⟩ := r.get ha
    have hp : ps[i]? = some y := by
      rw [← S.pre, List.getElem?_take_of_lt (by omega)]; exact h1
    have ndP : ps.Nodup := by rw [← S.pre]; exact S.nd.sublist (List.take_sublist _ _)
    refine ⟨u, rv, ?_⟩
    rcases S.par y (List.mem_of_getElem? hp) with k | k
    · exact .inl ⟨k, bindL_get ndP hp hu k⟩
    · obtain ⟨c, e⟩ := cell_has (n := s.heap.objs.size + 1) k
      refine .inr ⟨.inl k, c, e, ?_⟩
      have q := x.cell y c e
      rw [bindC_get ndP hp hu (by show scope.names.lookup y ≠ _; rw [k]; decide)] at q
      exact q
  · exact e0.hok.fresh (Nat.le_of_lt (x.above y c (PySem.mem_of_lookup h)))
  · unfold start
    show _ = N.length
    rw [List.length_append, List.length_map, List.length_replicate]
    omega

/-- THE RULE: a def (or a method) of the text, by its body. The body's reading t is chosen for each entry; it is run at the parameters' values -/
theorem fn_of {CX : CXT} {P : Program} {w : World} {K : PySem.W.Frag} {mg : Str → Option Value} {base : Heap} {k : Nat} {f : Addr} {name qual : Str} {params : Arguments} {body : List Stmt} {scope : Scope} {dV kV doc pm cdv ct oc : Value} {an od : Option Addr}
    {osl : Array (Option Value)} {N ps : List Str} {sp : Sp} (lk : K.lookup f = some ⟨oc, od, .func (PySem.W.fnOf name qual params body scope dV kV doc pm an cdv ct), osl⟩) (hcd : PySem.W.codeIn K cdv qual = true) (S : FnScope N ps scope)
    (len : ∀ vs H Q E, sp vs H Q E → vs.length = ps.length)
    (hbody : ∀ (A : Around) (outer : List Env) (s : Shared) (H : Hp) (vs : List V) (Q : VK) (E : XK), Room k (A.deeper (envOfC qual scope s.heap.objs.size f cdv)) → sp vs H Q E →
      ∃ t, PSs (cxOf CX P w K mg base N qual scope f cdv A outer s H E) body t ∧ t { nx := fun _ H' => Q .non H', rt := Q } (start N vs) H) :
    FnOk P w K mg base CX (k + 1) f (PySem.W.fnOf name qual params body scope dV kV doc pm an cdv ct) ps sp := by
  refine ⟨len, fun A outer s H args us vs Q E hr e0 hb r hsp => ?_⟩
  have hl := len _ _ _ _ hsp
  have KX : K.In s.heap := e0.mod.kin.keeps fun b o e => (e0.bs b o e).1
  have lim : s.heap.NoLimit := e0.mod.nolimit.keeps fun b o e => (e0.bs b o e).1
  have hkind : ∀ y ∈ ps.zip us, scope.names.lookup y.1 = some .local ∨ (scope.names.lookup y.1 = some .cell ∧ ((cellsFrom (s.heap.objs.size + 1) scope.names []).lookup y.1).isSome = true) := fun ⟨n, v⟩ hy => by
    rcases S.par n (List.of_mem_zip hy).1 with q | q
    · exact .inl q
    · exact .inr ⟨q, PySem.W.cellsFrom_some _ _ _ (.inl q)⟩
  refine codeAny_call_function hr.depth (KX _ _ lk) rfl S.co S.gen rfl (PySem.W.codeRec_of KX hcd) (hb _ _ _ _ ?_)
  refine wpAny_newFunctionEnv_cells S.kind hkind fun env he s1 x => ?_
  subst he
  refine ⟨lim.keeps x.toInCall.keep, codeAny_func ?_⟩
  obtain ⟨t, ht, hq⟩ := hbody A outer s H vs Q E (hr.deeper _) hsp
  have I : Inv (cxOf CX P w K mg base N qual scope f cdv A outer s H E) [] (start N vs) H s1 := inv_start S hr.hd e0 hl r x
  refine wpAny_mono (ht [] s1 (start N vs) H _ I hq) (fun fl s' hs => ?_) fun e s' hs => hs
  have fin : ∀ {σ' : St} {H' : Hp} {v : V} {u : Value}, Inv (cxOf CX P w K mg base N qual scope f cdv A outer s H E) [] σ' H' s' → RelV v u → Q v H' → CE outer P w H s Q u s' :=
    fun {σ' H' v u} J rv q => ⟨v, H', J.os, J.bare, J.base, J.hok, rv, q⟩
  cases fl with
  | ret u =>
    obtain ⟨v, σ', H', J, rv, q⟩ := hs
    exact fin J rv q
  | next =>
    obtain ⟨σ', H', J, q⟩ := hs
    exact fin (v := V.non) (u := Value.none) J rfl q
  | brk =>
    obtain ⟨_, _, _, q⟩ := hs
    exact False.elim q
  | cont =>
    obtain ⟨_, _, _, q⟩ := hs
    exact False.elim q
end L2

namespace L2
open PySem PySem.Spec PyProof.Rows
section
variable {X : Cx} {x : Str} {p pos : Pos} {e : Expr} {es : List Expr} {t : TA} {id T : String} {r : List V → Hp → VK → Prop}

def tCB (r : List V → Hp → VK → Prop) (t : TA) : TE := fun σ H Q => t σ H fun vs H1 => r vs H1 Q
/-- f(e, ..), f a built-in function -/
theorem pe_callB (hc : CallR X (.builtin id) r) (hg : Gl X x) (hm : X.mg x = none) (hv : bootBuiltins x = some (.builtin id)) (ha : PA X (e :: es) t) (hn : x ≠ "__name__" := by decide) (hdb : (x == ("__debug__" : Str)) = false := by decide)
    (he : starEach (e :: es) X.env = (false, eval e X.env) :: starEach es X.env := by rfl) (hpl : (backTo pos (starEach es X.env)).any (·.1) = false := by rfl) : PE X (.Call (.Name x p) (e :: es) [] pos) (tCB r t) := by
  intro pins s σ H Q I h
  refine wpAny_Call_Name_kw (ld_blt I hg hm hv ?_ hn hdb)
  exact PyProof.Rows.callWith_builtin1 (thn (ha pos pins s σ H _ I h) fun us s1 ⟨vs, H1, I1, r1, q1⟩ => hc pins s1 σ H1 vs us Q I1 r1 q1) he hpl
/-- T(e, ..), T a built-in type -/
theorem pe_callTy (hc : CallR X (.type T) r) (hg : Gl X x) (hm : X.mg x = none) (hv : bootBuiltins x = some (.type T)) (ha : PA X (e :: es) t) (hn : x ≠ "__name__" := by decide) (hdb : (x == ("__debug__" : Str)) = false := by decide)
    (he : starEach (e :: es) X.env = (false, eval e X.env) :: starEach es X.env := by rfl) (hpl : (backTo pos (starEach es X.env)).any (·.1) = false := by rfl) : PE X (.Call (.Name x p) (e :: es) [] pos) (tCB r t) := by
  intro pins s σ H Q I h
  refine wpAny_Call_Name_kw (ld_blt I hg hm hv ?_ hn hdb)
  exact PyProof.Rows.callWith_type1 (thn (ha pos pins s σ H _ I h) fun us s1 ⟨vs, H1, I1, r1, q1⟩ => hc pins s1 σ H1 vs us Q I1 r1 q1) he hpl
end
end L2

namespace HT
open PySem PyProof.Rows

section
open PySem.SeqAt
open PySem.AutoSeq1 (wpAny_loadPart')
open PySem.MeetsSeq PySem.MeetsSeq2 PySem.MeetsSeq3

end

section
variable {prog : Program} {w : World} {A : Around} {E : Value → Shared → Prop} {s : Shared}

/-! ### t[a:b], not the whole -/
/-- a slice's bound as a place among n (d where it is left out) -/
def sIx (n d : Nat) : Option Int → Nat
  | none => d
  | some v => if v < 0 then (v + (n : Int)).toNat else min v.toNat n
theorem sIx_le (n d : Nat) (hd : d ≤ n) (o : Option Int) : sIx n d o ≤ n := by
  cases o with
  | none => exact hd
  | some v =>
    show (if v < 0 then (v + (n : Int)).toNat else min v.toNat n) ≤ n
    by_cases hv : v < 0
    · rw [if_pos hv]; omega
    · rw [if_neg hv]; exact Nat.min_le_right _ _
end
end HT

namespace L2
open PySem PySem.Spec PyProof.Rows

/-! ### the parts of a slice -/
abbrev TO := St → Hp → (Option Int → Hp → Prop) → Prop
/-- a slice's part (left out, or an int) -/
def PO (X : Cx) (e : Option Expr) (t : TO) : Prop :=
  ∀ (pins : List (Addr × Obj)) (s : Shared) (σ : St) (H : Hp) (Q : Option Int → Hp → Prop), Inv X pins σ H s → t σ H Q →
    wpAny (model X.prog X.w) X.A (evalPart e X.env) (fun u s' => ∃ o H', Inv X pins σ H' s' ∧ IsPart u o ∧ Q o H') X.xe s
def tNoPart : TO := fun _ H Q => Q none H
def tPart (t : TE) : TO := fun σ H Q => t σ H fun x H1 => ∃ i, x = .int i ∧ Q (some i) H1

section
variable {X : Cx} {e : Expr} {te : TE} {lo hi : Option Expr} {tl th : TO} {pos p2 : Pos}

theorem po_none : PO X none tNoPart := by
  intro pins s σ H Q I h
  rw [evalPart_none]
  exact wpAny_pure ⟨none, H, I, .none, h⟩
theorem po_some (h : PE X e te) : PO X (some e) (tPart te) := by
  intro pins s σ H Q I hw
  rw [evalPart_some]
  refine thn (h pins s σ H _ I hw) fun u s1 ⟨x, H1, I1, r1, q1⟩ => ?_
  obtain ⟨i, rfl, q⟩ := q1
  obtain ⟨t, rfl⟩ := r1
  exact ⟨some i, H1, I1, .int i t, q⟩

/-- what a slice of a value is, by values: the slice object stands at sl -/
def SlR (X : Cx) (r : V → Option Int → Option Int → Hp → VK → Prop) : Prop :=
  ∀ (pins : List (Addr × Obj)) (s : Shared) (σ : St) (H : Hp) (x : V) (v vl vu : Value) (lo hi : Option Int) (sl : Addr) (Q : VK), Inv X pins σ H s → RelV x v → s.heap.IsSliceOf sl vl vu .none → IsPart vl lo → IsPart vu hi → r x lo hi H Q →
    ∃ T id, typeLookup (.type T) "__getitem__" = pure (some (.builtin id)) ∧ s.TypeIs v T ∧ wpAny (model X.prog X.w) X.A (getItem v (.ref sl)) (EP X pins σ Q) X.xe s
theorem SlR.or {r r' : V → Option Int → Option Int → Hp → VK → Prop} (h : SlR X r) (h' : SlR X r') : SlR X (fun x lo hi H Q => r x lo hi H Q ∨ r' x lo hi H Q) := by
  intro pins s σ H x v vl vu lo hi sl Q I rx hs pl pu q
  rcases q with q | q
  · exact h pins s σ H x v vl vu lo hi sl Q I rx hs pl pu q
  · exact h' pins s σ H x v vl vu lo hi sl Q I rx hs pl pu q
def tSl (r : V → Option Int → Option Int → Hp → VK → Prop) (te : TE) (tl th : TO) : TE := fun σ H Q => te σ H fun x H1 => tl σ H1 fun l H2 => th σ H2 fun u H3 => r x l u H3 Q
/-- a[lo:hi], any a -/
theorem pe_slice {r : V → Option Int → Option Int → Hp → VK → Prop} (hr : SlR X r) (he : PE X e te) (hl : PO X lo tl) (hu : PO X hi th) : PE X (.Subscript e (.Slice lo hi none p2) pos) (tSl r te tl th) := by
  intro pins s σ H Q I h
  refine Subscript_ (thn (he pins s σ H _ I h) fun v s1 ⟨x, H1, I1, r1, q1⟩ => ?_)
  refine wpAny_Slice (thn (hl pins s1 σ H1 _ I1 q1) fun vl s2 ⟨l, H2, I2, pl, q2⟩ => thn (hu pins s2 σ H2 _ I2 q2) fun vu s3 ⟨u, H3, I3, pu, q3⟩ => ?_)
  rw [evalPart_none]
  refine wpAny_pure ?_
  have I4 : Inv X pins σ H3 { s3 with heap := s3.heap.push { cls := .type "slice", data := .fields #[vl, vu, .none] } } := I3.kept (t' := s3.toks) fun b ob q => Heap.get?_push_of_some _ q
  obtain ⟨T, id, hT, ht, hg⟩ := hr pins { s3 with heap := s3.heap.push { cls := .type "slice", data := .fields #[vl, vu, .none] } } σ H3 x v vl vu l u s3.heap.objs.size Q I4 r1 (Heap.IsSliceOf.new ..) pl pu q3
  show wpAny (model X.prog X.w) X.A (subscriptTail e (.Slice lo hi none p2) v (.ref s3.heap.objs.size)) (EP X pins σ Q) X.xe { s3 with heap := s3.heap.push { cls := .type "slice", data := .fields #[vl, vu, .none] } }
  exact tail_any (ops := [.ref s3.heap.objs.size, v]) ht hT hg (by with_unfolding_all rfl)

/-- the items of xs[lo:hi] -/
def cutV (xs : List V) (lo hi : Option Int) : List V := (xs.drop (HT.sIx xs.length 0 lo)).take (HT.sIx xs.length xs.length hi - HT.sIx xs.length 0 lo)
theorem cutV_length (xs : List V) (lo hi : Option Int) : (cutV xs lo hi).length ≤ xs.length := by
  unfold cutV
  rw [List.length_take, List.length_drop]
  omega
/-! ### t < u, t + u -/
end
end L2

namespace L2
open PySem PySem.Spec PyProof.Rows

/-! ### places -/
/-- the place that an index of any sign means -/
def ixN (n : Nat) (i : Int) : Option Nat := if 0 ≤ i then (if i < n then some i.toNat else none) else if -(n : Int) ≤ i then some (i + n).toNat else none
def atI {α : Type} (xs : List α) (i : Int) : Option α := (ixN xs.length i).bind fun j => xs[j]?
theorem ixN_seq {n : Nat} {i : Int} {j : Nat} (h : ixN n i = some j) : seqIndex? i n = some j ∧ j < n ∧ -(n : Int) ≤ i ∧ i < n := by
  unfold ixN at h
  by_cases h0 : 0 ≤ i
  · rw [if_pos h0] at h
    by_cases h1 : i < n
    · rw [if_pos h1] at h
      have e : i.toNat = j := Option.some.inj h
      exact ⟨by rw [seqIndex_of h0 h1, e], by omega, by omega, h1⟩
    · rw [if_neg h1] at h; cases h
  · rw [if_neg h0] at h
    by_cases h1 : -(n : Int) ≤ i
    · rw [if_pos h1] at h
      have e : (i + n).toNat = j := Option.some.inj h
      exact ⟨by rw [seqIndex_neg (by omega) h1, e], by omega, h1, by omega⟩
    · rw [if_neg h1] at h; cases h
theorem atI_get {α : Type} {xs : List α} {i : Int} {v : α} (h : atI xs i = some v) : ∃ j, seqIndex? i xs.length = some j ∧ xs[j]? = some v ∧ j < xs.length ∧ -(xs.length : Int) ≤ i ∧ i < xs.length := by
  unfold atI at h
  cases e : ixN xs.length i with
  | none => rw [e] at h; cases h
  | some j =>
    rw [e] at h
    obtain ⟨h1, h2, h3, h4⟩ := ixN_seq e
    exact ⟨j, h1, h, h2, h3, h4⟩
theorem atI_nat {α : Type} {xs : List α} {j : Nat} {v : α} (h : xs[j]? = some v) : atI xs (j : Int) = some v := by
  have hj : j < xs.length := (List.getElem?_eq_some_iff.mp h).1
  have e : ixN xs.length (j : Int) = some j := by
    unfold ixN
    rw [if_pos (by omega), if_pos (by omega)]; simp
  unfold atI; rw [e]; exact h
theorem atI_last {α : Type} (xs : List α) (v : α) : atI (xs ++ [v]) (-1) = some v := by
  have hl : (xs ++ [v]).length = xs.length + 1 := by simp
  have e : ixN (xs ++ [v]).length (-1) = some xs.length := by
    unfold ixN
    rw [hl, if_neg (by decide), if_pos (by omega)]
    congr 1
    omega
  unfold atI
  rw [e]
  show (xs ++ [v])[xs.length]? = some v
  simp

/-! ### what may be subscripted -/
/-- what stands as an index of a plain subscript -/
def PlainIx (b : Expr) : Prop := ∀ o i, subscripted b false o i = operate [o, i] (getItem o i)
/-- a subscript by values -/
def IxR (X : Cx) (r : R2) : Prop :=
  ∀ (value slice : Expr) (pins : List (Addr × Obj)) (s : Shared) (σ : St) (H : Hp) (x y : V) (v u : Value) (Q : VK), Inv X pins σ H s → RelV x v → RelV y u → r x y H Q →
    subscripted slice false v u = operate [v, u] (getItem v u) → wpAny (model X.prog X.w) X.A (subscriptTail value slice v u) (EP X pins σ Q) X.xe s
/-- a call of a builtin's method by values: the receiver, the arguments -/
def MtR (X : Cx) (id : String) (r : V → List V → Hp → VK → Prop) : Prop :=
  ∀ (pins : List (Addr × Obj)) (s : Shared) (σ : St) (H : Hp) (x : V) (xs : List V) (v : Value) (us : List Value) (Q : VK), Inv X pins σ H s → RelV x v → Vals xs us → r x xs H Q →
    wpAny (model X.prog X.w) X.A (call (.builtin id) (v :: us)) (EP X pins σ Q) X.xe s
section
variable {X : Cx} {a b : Expr} {ta tb : TE} {pos : Pos}
theorem IxR.or {r r' : R2} (h : IxR X r) (h' : IxR X r') : IxR X (fun x y H Q => r x y H Q ∨ r' x y H Q) := by
  intro value slice pins s σ H x y v u Q I rx ry q hs
  rcases q with q | q
  · exact h value slice pins s σ H x y v u Q I rx ry q hs
  · exact h' value slice pins s σ H x y v u Q I rx ry q hs
theorem MtR.or {id : String} {r r' : V → List V → Hp → VK → Prop} (h : MtR X id r) (h' : MtR X id r') : MtR X id (fun x xs H Q => r x xs H Q ∨ r' x xs H Q) := by
  intro pins s σ H x xs v us Q I rx rs q
  rcases q with q | q
  · exact h pins s σ H x xs v us Q I rx rs q
  · exact h' pins s σ H x xs v us Q I rx rs q
/-- a[b] -/
theorem pe_ix {r : R2} (hr : IxR X r) (ha : PE X a ta) (hb : PE X b tb) (hs : PlainIx b) : PE X (.Subscript a b pos) (tOp r ta tb) := by
  intro pins s σ H Q I h
  exact Subscript_ (binT ha hb I h fun v u s2 x y H2 I2 rx ry q => hr a b pins s2 σ H2 x y v u Q I2 rx ry q (hs _ _))

def rIxL (K : PySem.W.Frag) : R2 := fun x y H Q => ∃ p xs i v, x = .ref p ∧ y = .int i ∧ SqL K H p xs ∧ atI xs i = some v ∧ Q v H
def rIxT (K : PySem.W.Frag) : R2 := fun x y H Q => ∃ p xs i v, x = .ref p ∧ y = .int i ∧ SqT K H p xs ∧ atI xs i = some v ∧ Q v H
def rIxS : R2 := fun x y H Q => ∃ z i c, x = .str z ∧ y = .int i ∧ z.length ≤ sizeLine ∧ atI z.cps.toList i = some c ∧ Q (.str ⟨#[c]⟩) H
theorem ix_list : IxR X (rIxL X.K) := by
  intro value slice pins s σ H x y v u Q I rx ry h hs
  obtain ⟨p, xs, i, z, rfl, rfl, hq, he, q⟩ := h
  cases rx
  obtain ⟨t, rfl⟩ := ry
  obtain ⟨its, r, pl, hz⟩ := I.list hq
  obtain ⟨j, h1, h2, h3, h4, h5⟩ := atI_get he
  obtain ⟨w, ew, rw'⟩ := r.get h2
  have hl := r.length
  have hn := line63
  have fin : EP X pins σ Q w s := ⟨z, H, I, rw', q⟩
  by_cases h0 : 0 ≤ i
  · have hj : i.toNat = j := by
      rw [seqIndex_of h0 h5] at h1
      exact Option.some.inj h1
    exact item_listR pl.isList h0 (by omega) (by rw [hj]; simpa using ew) fin hs
  · have hj : (i + (its.toArray.size : Int)).toNat = j := by
      rw [seqIndex_neg (by omega) h4] at h1
      rw [List.size_toArray, ← hl]
      exact Option.some.inj h1
    exact subscriptTail_builtinR (x := w) pl.isList.typeIs slot_list_getitem.lookup
      (wpAny_getItem_list_neg (Q := fun r s' => r = w ∧ EP X pins σ Q r s') pl.isList (by omega) (by rw [List.size_toArray] <;> omega) (by omega) (by rw [hj]; simpa using ew) ⟨rfl, fin⟩) hs
theorem ix_tup : IxR X (rIxT X.K) := by
  intro value slice pins s σ H x y v u Q I rx ry h hs
  obtain ⟨p, xs, i, z, rfl, rfl, hq, he, q⟩ := h
  cases rx
  obtain ⟨t, rfl⟩ := ry
  obtain ⟨its, r, pl, hz⟩ := I.tuple hq
  obtain ⟨j, h1, h2, h3, h4, h5⟩ := atI_get he
  obtain ⟨w, ew, rw'⟩ := r.get h2
  have hl := r.length
  have hn := line63
  have fin : EP X pins σ Q w s := ⟨z, H, I, rw', q⟩
  exact subscriptTail_builtinR (x := w) pl.typeIs slot_tuple_getitem.lookup
    (getItem_tuple (j := j) (Q := fun r s' => r = w ∧ EP X pins σ Q r s') pl (by omega) (by omega) (by rw [List.size_toArray, ← hl]; exact h1) (by simpa using ew) ⟨rfl, fin⟩) hs
theorem ix_str : IxR X rIxS := by
  intro value slice pins s σ H x y v u Q I rx ry h hs
  obtain ⟨z, i, c, rfl, rfl, hz, he, q⟩ := h
  obtain ⟨t, rfl⟩ := rx
  obtain ⟨t', rfl⟩ := ry
  obtain ⟨j, h1, h2, h3, h4, h5⟩ := atI_get he
  have hl : z.cps.toList.length = z.length := by simp [Str.length]
  rw [hl] at h1 h4 h5
  have hn := line63
  exact tail_any (typeIs_str s z t) slot_str_getitem.lookup (getItem_str (c := c) (by
    have e1 : decide (i < -(2 ^ 63 : Int)) = false := decide_eq_false (by omega)
    have e2 : decide (i ≥ 2 ^ 63) = false := decide_eq_false (by omega)
    rw [e1, e2, Bool.or_false]) (by rw [h1]; simpa using h2) ⟨.str ⟨#[c]⟩, H, I.tok _, ⟨_, rfl⟩, q⟩) hs
/-! ### xs[i] = v, any sign -/
/-- the list's object behind a store -/
theorem mapSeq_set (its : List Value) (n j : Nat) (u : Value) : Obj.mapSeq (·.setIfInBounds j u) { cls := .type "list", data := .seq its.toArray n } = { cls := .type "list", data := .seq (its.set j u).toArray n } := by
  simp [Obj.mapSeq]
theorem Inv.lst {pins : List (Addr × Obj)} {σ : St} {H : Hp} {s : Shared} {p : Addr} {xs : List V} (I : Inv X pins σ H s) (h : H p = some (.lst xs)) :
    ∃ (its : List Value) (n : Nat), Vals xs its ∧ s.heap.get? p = some { cls := .type "list", data := .seq its.toArray n } ∧ xs.length ≤ sizeLine := by
  obtain ⟨z, its, n, r, e⟩ := I.hok p _ h
  exact ⟨its, n, r, e, z⟩
/-- the list at p is written by an update of its object -/
theorem Inv.lstUpd {pins : List (Addr × Obj)} {σ : St} {H : Hp} {s : Shared} {p : Addr} {xs ys : List V} {its its' : List Value} {n n' : Nat} {f : Obj → Obj} (I : Inv X pins σ H s) (h : H p = some (.lst xs))
    (ho : s.heap.get? p = some { cls := .type "list", data := .seq its.toArray n }) (hf : f { cls := .type "list", data := .seq its.toArray n } = { cls := .type "list", data := .seq its'.toArray n' }) (r : Vals ys its') (hz : ys.length ≤ sizeLine) (t : Nat) :
    Inv X pins σ (upd H p (.lst ys)) { s with heap := s.heap.update p f, toks := t } := by
  have e : (s.heap.update p f).get? p = some { cls := .type "list", data := .seq its'.toArray n' } := by
    rw [Heap.get?_update_self f ho (by rw [hf] <;> rfl), hf]
  refine I.write (x := p) (e := p) (by rw [h]; trivial) (.inl rfl) (fun b u hb q => (Heap.get?_update_other _ _ (Ne.symm hb)).trans q) ⟨_, e⟩ ?_
  exact ⟨hz, its', n', r, e⟩
def rSetL : V → V → V → Hp → (Hp → Prop) → Prop := fun o i v H Q => ∃ p xs k j, o = .ref p ∧ i = .int k ∧ H p = some (.lst xs) ∧ ixN xs.length k = some j ∧ Q (upd H p (.lst (xs.set j v)))
theorem set_list : PSet X rSetL := by
  intro pins s σ H o i v ov iv u Q I ro ri rv h
  obtain ⟨p, xs, k, j, rfl, rfl, hp, hj, q⟩ := h
  cases ro
  obtain ⟨t, rfl⟩ := ri
  obtain ⟨its, n, r, ho, hz⟩ := I.lst hp
  obtain ⟨h1, h2, h3, h4⟩ := ixN_seq hj
  have hl := r.length
  have hn := line63
  have I' : Inv X pins σ (upd H p (.lst (xs.set j v))) { s with heap := s.heap.update p (Obj.mapSeq (·.setIfInBounds j u)) } :=
    I.lstUpd hp ho (mapSeq_set its n j u) (r.set rv j) (by rw [List.length_set]; exact hz) s.toks
  by_cases h0 : 0 ≤ k
  · have hk : k.toNat = j := by
      rw [seqIndex_of h0 h4] at h1
      exact Option.some.inj h1
    exact PySem.W.ki_setAt ho h0 (by omega) (by rw [List.size_toArray, ← hl]; exact h4) (by rw [hk]; exact ⟨_, I', q⟩)
  · have hk : (k + (its.toArray.size : Int)).toNat = j := by
      rw [seqIndex_neg (by omega) h3] at h1
      rw [List.size_toArray, ← hl]
      exact Option.some.inj h1
    exact PySem.W.ki_setBack ho (by omega) (by rw [List.size_toArray, ← hl]; exact h3) (by omega) (by rw [hk]; exact ⟨_, I', q⟩)

/-! ### slices -/
theorem slice_bounds (lo hi : Option Int) (n : Nat) : (sliceBounds lo hi none n).1 = ((HT.sIx n 0 lo : Nat) : Int) ∧ (sliceBounds lo hi none n).2.1 = ((HT.sIx n n hi : Nat) : Int) ∧ (sliceBounds lo hi none n).2.2 = 1 := by
  refine ⟨?_, ?_, rfl⟩
  · cases lo with
    | none => simp [sliceBounds, HT.sIx]
    | some i =>
      simp only [sliceBounds, HT.sIx, Option.getD_none, show (1 : Int) > 0 by decide, if_true]
      by_cases h : i < 0
      · simp only [h, if_true] <;> omega
      · simp only [h, if_false] <;> omega
  · cases hi with
    | none => simp [sliceBounds, HT.sIx]
    | some i =>
      simp only [sliceBounds, HT.sIx, Option.getD_none, show (1 : Int) > 0 by decide, if_true]
      by_cases h : i < 0
      · simp only [h, if_true] <;> omega
      · simp only [h, if_false] <;> omega
theorem slicePick_cut (its : List Value) (lo hi : Option Int) : slicePick its.toArray lo hi none = ((its.drop (HT.sIx its.length 0 lo)).take (HT.sIx its.length its.length hi - HT.sIx its.length 0 lo)).toArray := by
  obtain ⟨h1, h2, h3⟩ := slice_bounds lo hi its.toArray.size
  unfold slicePick
  rw [h1, h2, h3]
  simp only [sliceRange_one, pick_run, List.size_toArray] <;> rfl
/-- xs[lo:hi] of a list: a new list -/
def rSlL (K : PySem.W.Frag) : V → Option Int → Option Int → Hp → VK → Prop := fun x lo hi H Q => ∃ a xs, x = .ref a ∧ SqL K H a xs ∧ ∀ p, H p = none → Q (.ref p) (upd H p (.lst (cutV xs lo hi)))
theorem sl_list : SlR X (rSlL X.K) := by
  intro pins s σ H x v vl vu lo hi sl Q I rx hs pl pu h
  obtain ⟨a, xs, rfl, hx, q⟩ := h
  cases rx
  obtain ⟨its, r, ht, hz⟩ := I.list hx
  have hlen := r.length
  refine ⟨"list", _, slot_list_getitem.lookup, ht.isList.typeIs, ?_⟩
  refine wpAny_getItem_list_slice ht.isList hs pl pu .none (by simp) ?_ (by rw [List.size_toArray] <;> omega)
  rw [slicePick_cut, ← hlen]
  refine ⟨.ref s.heap.objs.size, _, I.laid (t' := s.toks) (o := .lst (cutV xs lo hi)) (fun b ob q => Heap.get?_push_of_some _ q) (Nat.le_refl _) ?_, rfl, q _ (I.hok.fresh (Nat.le_refl _))⟩
  exact ⟨Nat.le_trans (cutV_length xs lo hi) hz, _, 0, (r.drop (HT.sIx xs.length 0 lo)).take (HT.sIx xs.length xs.length hi - HT.sIx xs.length 0 lo), Heap.get?_push_size _ rfl⟩

/-! ### in, not in: flat items -/
/-! ### len, list(x), tuple(x) of any list or tuple that is read -/
theorem CallR.or {f : Value} {r r' : List V → Hp → VK → Prop} (h : CallR X f r) (h' : CallR X f r') : CallR X f (fun xs H Q => r xs H Q ∨ r' xs H Q) := by
  intro pins s σ H xs us Q I rs q
  rcases q with q | q
  · exact h pins s σ H xs us Q I rs q
  · exact h' pins s σ H xs us Q I rs q
/-! ### the call of a builtin's method: o.m(..) -/
/-- the value is of that builtin type -/
def tyV (K : PySem.W.Frag) (T : String) (x : V) (H : Hp) : Prop := match x with
  | .str _ => T = "str"
  | .int _ => T = "int"
  | .ref p => (T = "list" ∧ ∃ xs, SqL K H p xs) ∨ (T = "tuple" ∧ ∃ o, K.lookup p = some o ∧ o.cls = .type "tuple" ∧ o.dict = none) ∨
      (T = "dict" ∧ ((∃ kvs, H p = some (.dK kvs)) ∨ ∃ kvs, H p = some (.dT kvs))) ∨ (T = "set" ∧ ∃ S n, H p = some (.set S n))
  | _ => False
theorem tyV_is {pins : List (Addr × Obj)} {σ : St} {H : Hp} {s : Shared} {T : String} {x : V} {v : Value} (I : Inv X pins σ H s) (r : RelV x v) (ty : tyV X.K T x H) :
    s.TypeIs v T ∧ ∀ a, v = .ref a → ∃ ob, s.heap.get? a = some ob ∧ ob.dict = none := by
  cases x with
  | str z =>
    obtain ⟨t, rfl⟩ := r
    cases (show T = "str" from ty)
    exact ⟨typeIs_str s z t, fun _ e => nomatch e⟩
  | int i =>
    obtain ⟨t, rfl⟩ := r
    cases (show T = "int" from ty)
    exact ⟨typeIs_int s i t, fun _ e => nomatch e⟩
  | ref p =>
    cases r
    rcases ty with ⟨rfl, xs, hq⟩ | ⟨rfl, o, hk, hc, hd⟩ | ⟨rfl, hk⟩ | ⟨rfl, S, n, hk⟩
    · obtain ⟨its, _, pl, _⟩ := I.list hq
      refine ⟨pl.isList.typeIs, fun a e => ?_⟩
      cases e
      obtain ⟨o, n, e, c, hd, _⟩ := pl
      exact ⟨o, e, hd⟩
    · refine ⟨⟨o, I.kIn p o hk, hc⟩, fun a e => ?_⟩
      cases e
      exact ⟨o, I.kIn _ o hk, hd⟩
    · have z : ∃ o, s.heap.get? p = some o ∧ o.ExactDict := by
        rcases hk with ⟨kvs, hk⟩ | ⟨kvs, hk⟩
        · obtain ⟨_, _, _, _, o, _, _, e, ex, _⟩ := I.hok p _ hk
          exact ⟨o, e, ex⟩
        · exact (show False from I.hok p _ hk).elim
      obtain ⟨o, e, ex⟩ := z
      refine ⟨⟨o, e, ex.1⟩, fun a e2 => ?_⟩
      cases e2
      exact ⟨o, e, ex.2.1⟩
    · obtain ⟨o, _, _, _, e, ex, _⟩ := I.hok p _ hk
      refine ⟨⟨o, e, ex.1⟩, fun a e2 => ?_⟩
      cases e2
      exact ⟨o, e, ex.2.1⟩
  | _ => exact False.elim ty
def tBM0 (K : PySem.W.Frag) (T : String) (r : V → List V → Hp → VK → Prop) (to : TE) : TE := fun σ H Q => to σ H fun x H1 => tyV K T x H1 ∧ r x [] H1 Q
def tBM (K : PySem.W.Frag) (T : String) (r : V → List V → Hp → VK → Prop) (to : TE) (t : TA) : TE := fun σ H Q => to σ H fun x H1 => tyV K T x H1 ∧ t σ H1 fun xs H2 => r x xs H2 Q
variable {o e : Expr} {es : List Expr} {to : TE} {t : TA} {name : Str} {apos cpos : Pos} {T id : String} {r : V → List V → Hp → VK → Prop}
theorem pe_bm0 (pa : PlainAttrs T) (slot : Slot T name id) (hty : typeOf (.builtin id) = pure (.type "method_descriptor")) (hm : MtR X id r) (ho : PE X o to)
    (hbase : attributeBase o name X.env (eval o X.env) = eval o X.env := by rfl) (hline : (apos.endLine == cpos.line) = true := by rfl) : PE X (.Call (.Attribute o name apos) [] [] cpos) (tBM0 X.K T r to) := by
  intro pins s σ H Q I h
  refine wpAny_Call_method0_late hbase hline (thn (ho pins s σ H _ I h) fun v s1 ⟨x, H1, I1, r1, ty, q1⟩ => ?_)
  obtain ⟨h1, h2⟩ := tyV_is I1 r1 ty
  exact ⟨T, id, pa, slot, hty, h1, h2, Calls.callWith_builtin rfl (PySem.evalArgs_none (hm pins s1 σ H1 x [] v [] Q I1 r1 .nil q1))⟩
theorem pe_bm (pa : PlainAttrs T) (slot : Slot T name id) (hty : typeOf (.builtin id) = pure (.type "method_descriptor")) (hm : MtR X id r) (ho : PE X o to) (ha : PA X (e :: es) t)
    (hbase : attributeBase o name X.env (eval o X.env) = eval o X.env := by rfl)
    (hfew : ((backTo cpos (starEach (e :: es) X.env)).all (fun x => !x.1) && (backToKw cpos (keywordEach [] X.env)).all (fun x => x.1.isSome)
      && decide ((e :: es).length + ([] : List Keyword).length + (if ([] : List Keyword).isEmpty then 0 else 1) < 30)) = true := by rfl)
    (hline : (apos.endLine == cpos.line) = true := by rfl) (hs : starEach (e :: es) X.env = (false, eval e X.env) :: starEach es X.env := by rfl) (hplain : (backTo cpos (starEach es X.env)).any (·.1) = false := by rfl) :
    PE X (.Call (.Attribute o name apos) (e :: es) [] cpos) (tBM X.K T r to t) := by
  intro pins s σ H Q I h
  refine wpAny_Call_method_late hbase hfew hline rfl (thn (ho pins s σ H _ I h) fun v s1 ⟨x, H1, I1, r1, ty, q1⟩ => ?_)
  obtain ⟨h1, h2⟩ := tyV_is I1 r1 ty
  refine ⟨T, id, pa, slot, hty, h1, h2, ?_⟩
  have hA := ha cpos pins s1 σ H1 _ I1 q1
  rw [hs] at hA ⊢
  refine Calls.callWith_builtin (by show (false || (backTo cpos (starEach es X.env)).any (·.1)) = false; rw [hplain] <;> rfl) (Calls.evalArgs_plain ?_)
  exact thn hA fun us s2 ⟨vs, H2, I2, r2, q2⟩ => hm pins s2 σ H2 x vs v us Q I2 r1 r2 q2
/- xs.append(e), list.index on a module's tuple .. are MtR facts of 06m -/
end
end L2

namespace L2
open PySem PySem.Spec PyProof.Rows

def MtM (X : Cx) (id : String) (r : V → List V → Hp → VK → Prop) : Prop :=
  ∀ (pins : List (Addr × Obj)) (s : Shared) (σ : St) (H : Hp) (x : V) (xs : List V) (v : Value) (us : List Value) (Q : VK), Inv X pins σ H s → RelV x v → Vals xs us → r x xs H Q →
    wpAny (model X.prog X.w) X.A (call (.builtin id) (v :: us)) (EP X pins σ Q) X.xe s

/-! ### lists of values -/
theorem Vals.one : ∀ {x : V} {us : List Value}, Vals [x] us → ∃ u, us = [u] ∧ RelV x u
  | _, _, .cons r .nil => ⟨_, rfl, r⟩
theorem Vals.two : ∀ {x y : V} {us : List Value}, Vals [x, y] us → ∃ u v, us = [u, v] ∧ RelV x u ∧ RelV y v
  | _, _, _, .cons r (.cons q .nil) => ⟨_, _, rfl, r, q⟩
theorem Vals.zero : ∀ {us : List Value}, Vals [] us → us = []
  | _, .nil => rfl
theorem Vals.dropLast {xs : List V} {us : List Value} (h : Vals xs us) : Vals xs.dropLast us.dropLast := by
  induction h with
  | nil => exact .nil
  | cons r t ih =>
    cases t with
    | nil => exact .nil
    | cons q t' => exact .cons r ih
theorem Vals.reverse {xs : List V} {us : List Value} (h : Vals xs us) : Vals xs.reverse us.reverse := by
  induction h with
  | nil => exact .nil
  | cons r t ih => rw [List.reverse_cons, List.reverse_cons]; exact Vals.append ih (.cons r .nil)
section
variable {X : Cx} {pins : List (Addr × Obj)} {σ : St} {H : Hp} {s : Shared} {l b : Addr} {xs ys zs : List V}

/-! ### the two steps: a tracked list is rewritten, a new list is laid -/
theorem Inv.lset {its its' : List Value} {n : Nat} {f : Array Value → Array Value} {t' : Nat} (I : Inv X pins σ H s) (hH : H l = some (.lst xs))
    (e : s.heap.get? l = some { cls := .type "list", data := .seq its.toArray n }) (hf : f its.toArray = its'.toArray) (hv : Vals ys its') (hz : ys.length ≤ sizeLine) :
    Inv X pins σ (upd H l (.lst ys)) { s with heap := s.heap.update l (Obj.mapSeq f), toks := t' } := by
  have q := PySem.IsL.update e f
  rw [hf] at q
  refine I.write (x := l) (e := l) (by rw [hH]; exact trivial) (.inl rfl) (fun b' u hb hu => (Heap.get?_update_other s.heap (Obj.mapSeq f) (Ne.symm hb)).trans hu) ⟨_, q⟩ ?_
  exact ⟨hz, its', _, hv, q⟩
theorem Inv.fresh (I : Inv X pins σ H s) : H s.heap.objs.size = none := I.hok.fresh (Nat.le_refl _)
theorem Inv.lstM (I : Inv X pins σ H s) (hH : H l = some (.lst xs)) : xs.length ≤ sizeLine ∧ ∃ (its : List Value) (n : Nat), Vals xs its ∧ xs.length = its.length ∧ s.heap.get? l = some { cls := .type "list", data := .seq its.toArray n } := by
  obtain ⟨z, its, n, r, e⟩ := I.hok l _ hH
  exact ⟨z, its, n, r, r.length, e⟩

end

section
variable {X : Cx}

/-! ### methods -/
def rAppend : V → List V → Hp → VK → Prop := fun x vs H Q => ∃ l xs y, x = .ref l ∧ vs = [y] ∧ H l = some (.lst xs) ∧ xs.length < sizeLine ∧ Q .non (upd H l (.lst (xs ++ [y])))
theorem mt_append : MtM X "list.append" rAppend := by
  intro pins s σ H x vs v us Q I rx rv h
  obtain ⟨l, xs, y, rfl, rfl, hH, hz, q⟩ := h
  cases rx
  obtain ⟨u, rfl, ru⟩ := rv.one
  obtain ⟨z, its, n, r, hl, e⟩ := I.lstM hH
  refine call_meets F.slot_list_append ⟨_, e, rfl⟩ F.entry_list_append (F.args_list_append_2 _ _) (PySem.list_append l its.toArray n u (by rw [List.size_toArray]; omega)) ⟨e, ?_⟩
  refine ⟨.non, _, I.lset (its' := its ++ [u]) hH e (by simp) (r.append (.cons ru .nil)) ?_, rfl, q⟩
  rw [List.length_append, List.length_singleton]
  omega

/-! ### list + list, list += list, list * int -/
/-! ### del xs[i] -/
end

/-! ### xs[a:b] = ys -/
section
variable {prog : Program} {w : World} {A : Around} {E : Value → Shared → Prop} {s : Shared}
set_option maxRecDepth 100000 in
end

section
variable {X : Cx}
end
end L2

namespace Att
open PySem PySem.W PySem.Calls PyProof.Rows

/-! ### the script -/
theorem ints_of_wellAll {P : Params} {h : Heap} : ∀ (ns : List Int) (vs : List Value), WellAll P h vs (ns.map WData.int) → IntsAre vs ns := by
  intro ns
  induction ns with
  | nil =>
    intro vs w
    rw [List.map_nil] at w
    cases w
    exact .nil
  | cons n ns ih =>
    intro vs w
    rw [List.map_cons] at w
    cases w with
    | cons a b =>
      cases a
      exact .cons _ _ (ih _ b)

theorem script_of {l : OpenLaw} {n : Nat} (hn : l.most = some n) {P : Params} {h : Heap} {args : List WData} {vals : List Value}
    (hpre : l.row.toRowW.claim.pre args = true) (hwl : WellAll P h vals args) :
    ∃ a vs ns, vals = [Value.ref a] ∧ args = [WData.list (ns.map WData.int)] ∧ h.get? a = some { cls := .type "list", data := .seq vs.toArray } ∧ IntsAre vs ns ∧ ns.length ≤ n := by
  have hsh : WShape.hasAll [] args [.list .int] = true := (pre_splitW hpre).1
  have hc : l.pre.holds [] { args := args } = true := (pre_splitW hpre).2
  obtain ⟨d, r, rfl, h1, h2⟩ := hasAllW_cons hsh
  obtain rfl := hasAllW_nil h2
  obtain ⟨xs, rfl, h3⟩ := hasW_list h1
  obtain ⟨ns, rfl⟩ := items_int h3
  have hlen : ns.length ≤ n := by
    unfold OpenLaw.pre at hc
    have h4 : (WTm.not (.lt (.lit (.int (n : Int))) (.len (.arg 0)))).holds [] { args := [.list (ns.map .int)] } = true := by
      have h4 := (holds_andW hc).1
      rw [hn] at h4
      exact h4
    have h5 := condW_of h4 (w_not (w_lt w_lit (w_len_list (w_arg rfl))))
    rw [List.length_map] at h5
    refine Nat.le_of_not_lt fun q => ?_
    have q' : (n : Int) < ((ns.length : Nat) : Int) := by omega
    first
      | (rw [decide_eq_true q'] at h5; exact absurd h5 (by decide))
      | (simp at h5; omega)
  cases hwl with
  | cons w1 w2 =>
    cases w2
    cases w1 with
    | list ho hall => exact ⟨_, _, ns, rfl, rfl, ho, ints_of_wellAll ns _ hall, hlen⟩

theorem post_true (l : OpenLaw) (args : List WData) : l.row.toRowW.claim.post args (.bool true) args = true :=
  postW_of (r := l.row.toRowW) (X := (true == true))
    (show WShape.has [] (.bool true) .bool = true by first | rfl | decide | simp [WShape.has, WShape.arms, WShape.armsAll])
    (show (WTm.eq .res (.lit (.bool true))).value [] { args := args, res := some (.bool true), after := args } = some (.bool (true == true)) from w_eq_bool (w_res rfl) w_lit) rfl

/-! ### the attachment: holds_open's last premise (the goal 'hc' behind k_head) from a wpAny of the law's body -/
/-- the same from a codeAny of the CALL (for a layer whose function contracts speak of calls) -/
theorem attach_call {l : OpenLaw} {n : Nat} {q : Program} {loose : List Str} {XP : (Str → Option Value) → Heap → Prop} {YP : World → Heap → Prop} {d : DefRec}
    (hn : l.most = some n) (hdf : d.params.defaults = [])
    (call : ∀ (w : World) (s₀ s₁ : Shared) (mg mb : Str → Option Value) (fa : Addr) (o : Obj) (pm cd doc : Value) (a : Addr) (vs : List Value) (ns : List Int),
      Ground q loose [] XP w s₀ mg mb s₁.heap → YP w s₁.heap →
      s₁.heap.get? fa = some o → o.data = .func (docDef d.name d.params d.body d.scope pm cd doc) → s₁.heap.CodeRec cd d.name → mg d.name = some (.ref fa) →
      s₁.heap.get? a = some { cls := .type "list", data := .seq vs.toArray } → IntsAre vs ns → ns.length ≤ n → s₁.gens = #[] →
      codeAny (model l.prog w) callerA (.call (.ref fa) ⟨[.ref a], []⟩) (fun r s' => r = .ok (.ret (.bool true)) ∧ OldK s₁.heap s'.heap ∧ s'.os = s₁.os ∧ AllBare s'.gens) s₁) :
    WalkO q loose XP YP l.row.toRowW d [] (fun f vs => PySem.call f vs) := by
  intro w s₀ s₁ mg mb G Y fa o pm cd doc dV kV ho hd hcd hD hmg hg args vals as hpre hlay hrd hwl hlo
  obtain rfl : dV = .none := Dflts.none hD hdf
  obtain rfl : kV = .none := Dflts.noKw hD
  obtain ⟨a, vs, ns, rfl, rfl, hobj, hints, hlen⟩ := script_of hn hpre hwl
  refine enter_call (codeAny_mono (call w s₀ s₁ mg mb fa o pm cd doc a vs ns G Y ho (fd_plain hd) hcd hmg hobj hints hlen hg) fun r s' hq => ?_)
  obtain ⟨rfl, h2, h3, h4⟩ := hq
  exact ⟨.inl ⟨.bool true, .bool true, [], rfl, fun _ => rfl, .bool true, post_true l _, fun _ => ⟨List.Pairwise.nil, fun _ hm => (nomatch hm)⟩⟩, h2, h3, h4⟩

/-! ### rules over ANY heap (no ledger) from facts about the written part K: the library's own take a ledger (News) for what they write -/
section
variable {prog : Program} {w : World} {A : Around} {E : Value → Shared → Prop} {s : Shared} {K : Frag}

/-! the whole heap as the ledger: makes every rule that writes through a ledger a rule over any heap -/
def ledger (h : Heap) (L d : Addr) : List (Addr × Obj) := (List.range h.objs.size).filterMap fun a => if a = L ∨ a = d then none else (h.get? a).map fun o => (a, o)
end
end Att

namespace L2
open PySem PySem.Spec PyProof.Rows

theorem vals_ints : ∀ {vs : List Value} {ns : List Int}, IntsAre vs ns → Vals (ns.map V.int) vs
  | _, _, .nil => .nil
  | _, _, .cons n t h => .cons ⟨t, rfl⟩ (vals_ints h)

/-- nothing is tracked but the script, known to the object (or it is an object of the module) -/
def Only (H : Hp) : Prop := ∀ b, H b = none ∨ ∃ o xs, H b = some (.frz o (.lst xs))

/-- THE HEAD: the law's promise, at the heap behind the top. F, the promise of the law's def, may use that base is part of the heap (so K.In base, base.Ns mainGlobals mg stand in Mod) -/
theorem law_call {P : Program} {w : World} {K : PySem.W.Frag} {mg mb : Str → Option Value} {CX : CXT} {k : Nat} {fa a : Addr} {fd : FuncData} {x : Str} {sp : Sp} {s₁ : Shared} {vs : List Value} {ns : List Int}
    (KX : K.In s₁.heap) (hns : s₁.heap.Ns mainGlobals mg) (hb : s₁.heap.Ns builtinsNs mb) (hbb : ∀ x : Str, x ≠ "__name__" → mb x = bootBuiltins x) (hlim : s₁.heap.NoLimit) (hg : s₁.gens = #[])
    (ha : s₁.heap.get? a = some { cls := .type "list", data := .seq vs.toArray }) (hi : IntsAre vs ns) (hl : ns.length ≤ sizeLine) (hr : Room k callerA)
    (F : ∀ base : Heap, K.In base → base.Ns mainGlobals mg → FnOk P w K mg base CX k fa fd [x] sp) (hbind : ∀ (s : Shared) (u : Value), BindsTo s fd ⟨[u], []⟩ [(x, u)])
    (hsp : ∀ H : Hp, Only H → SqL K H a (ns.map V.int) → sp [.ref a] H (fun v _ => v = .bl true) fun _ _ _ => False)
    (hCX : ∀ H e s', CX [] H s₁ (fun _ _ _ => False) e s' → False) :
    codeAny (model P w) callerA (.call (.ref fa) ⟨[.ref a], []⟩) (fun r s' => r = .ok (.ret (.bool true)) ∧ OldK s₁.heap s'.heap ∧ s'.os = s₁.os ∧ AllBare s'.gens) s₁ := by
  have rv := vals_ints hi
  have lenV := hi.length
  -- from an abstract heap in which nothing but the script may be tracked
  have core : ∀ H : Hp, Only H → SqL K H a (ns.map V.int) → HOk P w H s₁.heap → (∀ b, H b ≠ none → b = a) → (H a ≠ none → K.lookup a = none) →
      codeAny (model P w) callerA (.call (.ref fa) ⟨[.ref a], []⟩) (fun r s' => r = .ok (.ret (.bool true)) ∧ OldK s₁.heap s'.heap ∧ s'.os = s₁.os ∧ AllBare s'.gens) s₁ := by
    intro H hO hS hok hA hK
    have base_of : ∀ {b : Addr} {o : Obj}, s₁.heap.get? b = some o → H b = none → (hidT s₁.heap H).get? b = some o := fun e n => hidT_get e n
    have noA : ∀ {b : Addr} {o : Obj} {es : Array DictEntry} {ep : Nat}, s₁.heap.get? b = some o → o.data = .dict es ep → H b = none := fun {b o es ep} e d => by
      cases q : H b with
      | none => rfl
      | some u =>
        have e' : b = a := hA b (by rw [q]; simp)
        subst e'
        rw [ha] at e; cases e
        have d' : Data.seq vs.toArray _ = Data.dict es ep := d
        cases d'
    have nsK : ∀ {b : Addr} {m : Str → Option Value}, s₁.heap.Ns b m → (hidT s₁.heap H).Ns b m := fun {b m} ⟨o, es, ep, e, d, r⟩ => ⟨o, es, ep, base_of e (noA e d), d, r⟩
    have hKb : K.In (hidT s₁.heap H) := fun b o e => base_of (KX b o e) (by
      cases q : H b with
      | none => rfl
      | some u =>
        have e' : b = a := hA b (by rw [q]; simp)
        subst e'
        rw [hK (by rw [q]; simp)] at e; cases e)
    have hM : Mod K mg (hidT s₁.heap H) := ⟨hKb, nsK hns, ⟨mb, nsK hb, hbb⟩, let ⟨mc, h1, h2⟩ := hlim; ⟨mc, nsK h1, h2⟩⟩
    have e0 : Env0 P w K mg (hidT s₁.heap H) callerA [] s₁ H := ⟨rfl, hM, fun b o e => of_hidT e, Nat.le_of_eq (hidT_size _ _), trivial, fun b hb => absurd (show b ∈ ([] : List Addr) from hb) (by simp), hok, .of_eq hg⟩
    refine codeAny_mono ((F _ hKb (nsK hns)).run callerA [] s₁ H ⟨[.ref a], []⟩ [.ref a] [.ref a] _ _ hr e0 (hbind s₁ (.ref a)) (.cons rfl .nil) (hsp H hO hS)) fun r s' h => ?_
    cases r with
    | error e => exact (hCX H e s' h).elim
    | ok fl =>
      cases fl with
      | next => exact False.elim h
      | brk => exact False.elim h
      | cont => exact False.elim h
      | ret u =>
        obtain ⟨v, H', os, bare, un, hok', r', q⟩ := h
        have q' : v = .bl true := q
        subst q'
        obtain rfl : u = Value.bool true := r'
        refine ⟨rfl, OldK.of_keep fun b o e => ?_, os, bare⟩
        cases q : H b with
        | none => exact un.keep b o e q (by intro z; exact absurd (show b ∈ ([] : List Addr) from z) (by simp)) (by simp)
        | some u =>
          rcases hO b with z | ⟨ob, xs, z⟩
          · rw [q] at z; cases z
          · have z2 := un.frzs b ob _ z
            obtain ⟨e1, _⟩ := hok b _ z
            obtain ⟨e2, _⟩ := hok' b _ z2
            rw [e] at e1; cases e1
            exact e2
  cases hk : K.lookup a with
  | some o =>
    -- the script is one of the module's own objects
    have e := KX a o hk
    rw [ha] at e
    cases e
    refine core (fun _ => none) (fun _ => .inl rfl) (.inr ⟨_, vs.toArray, _, hk, rfl, rfl, rfl, by rw [List.size_toArray, lenV]; exact hl, by simpa using rv⟩) (fun b u z => by have z' : (none : Option HO) = some u := z; cases z') (fun b z => absurd rfl z) fun z => absurd rfl z
  | none =>
    refine core (fun b => if b = a then some (.frz { cls := .type "list", data := .seq vs.toArray } (.lst (ns.map V.int))) else none) (fun b => ?_) (.inl (.inr ⟨{ cls := .type "list", data := .seq vs.toArray }, if_pos rfl⟩)) (fun b u z => ?_) (fun b z => ?_) fun _ => hk
    · by_cases hb : b = a
      · exact .inr ⟨_, _, if_pos hb⟩
      · exact .inl (if_neg hb)
    · by_cases hb : b = a
      · have z' := (if_pos hb).symm.trans z
        cases z'
        subst hb
        exact ⟨ha, by rw [List.length_map]; exact hl, vs, _, rv, ha⟩
      · have z' := (if_neg hb).symm.trans z
        cases z'
    · by_cases hb : b = a
      · exact hb
      · exact absurd (if_neg hb) z
end L2

namespace L2
open PySem PySem.Spec PyProof.Rows

/-- the goal that k_head leaves (case hc), from the law's promise. F gives the function object fd (K's own) once, then the promise over every base -/
theorem walk_of {l : PySem.W.OpenLaw} {n k : Nat} {q : Program} {loose : List Str} {XP : (Str → Option Value) → Heap → Prop} {YP : World → Heap → Prop} {d : DefRec} {K : Params → PySem.W.Frag} {CX : World → CXT} {sp : World → Sp} {x : Str}
    (hn : l.most = some n) (hn2 : n ≤ sizeLine) (hdf : d.params.defaults = []) (hr : Room k callerA)
    (hY : ∀ (w : World) (h : Heap), YP w h → (K w.params).In h)
    (F : ∀ (w : World) (mg : Str → Option Value) (fa : Addr) (h : Heap), (K w.params).In h → h.Ns mainGlobals mg → mg d.name = some (.ref fa) →
      ∃ fd : FuncData, (∀ (s : Shared) (u : Value), BindsTo s fd ⟨[u], []⟩ [(x, u)]) ∧
        ∀ base : Heap, (K w.params).In base → base.Ns mainGlobals mg → FnOk l.prog w (K w.params) mg base (CX w) k fa fd [x] (sp w))
    (hsp : ∀ (w : World) (H : Hp) (a : Addr) (ns : List Int), ns.length ≤ n → Only H → SqL (K w.params) H a (ns.map V.int) → sp w [.ref a] H (fun v _ => v = .bl true) fun _ _ _ => False)
    (hCX : ∀ (w : World) (H : Hp) (s : Shared) (e : Value) (s' : Shared), CX w [] H s (fun _ _ _ => False) e s' → False) :
    PySem.W.WalkO q loose XP YP l.row.toRowW d [] (fun f vs => PySem.call f vs) := by
  refine Att.attach_call hn hdf fun w s₀ s₁ mg mb fa o pm cd doc a vs ns G Y ho hd hcd hmg hobj hints hlen hg => ?_
  have KX := hY w _ Y
  obtain ⟨fd, hb, hF⟩ := F w mg fa _ KX G.T.g hmg
  exact law_call KX G.T.g G.T.b G.T.builtins G.T.nolimit hg hobj hints (Nat.le_trans hlen hn2) hr hF hb (fun H hO hS => hsp w H a ns hlen hO hS) fun H e s' => hCX w H s₁ e s'
end L2


/-! SHORT WORDS over the layer: a def of the text, its body, what a loop and a test want. -/
namespace L2
open PySem PySem.Spec PyProof.Rows

/-! ### the text by places -/
/-- the j-th statement of a class's body -/
def inClass (s : Stmt) (j : Nat) : Stmt := match s with
  | .ClassDef _ _ _ body _ _ _ _ _ _ _ => body.getD j (.Pass ⟨0, 0, 0, 0⟩)
  | _ => .Pass ⟨0, 0, 0, 0⟩
def defArgs (s : Stmt) : Arguments := match s with
  | .FunctionDef _ a _ _ _ _ _ _ _ _ => a
  | _ => { posonlyargs := [], args := [], vararg := none, kwonlyargs := [], kw_defaults := [], kwarg := none, defaults := [] }
def defBody (s : Stmt) : List Stmt := match s with
  | .FunctionDef _ _ b _ _ _ _ _ _ _ => b
  | _ => []
def defScope (s : Stmt) : Scope := match s with
  | .FunctionDef _ _ _ _ _ _ sc _ _ _ => sc
  | _ => { kind := .function, names := [], isGenerator := false, isCoroutine := false }

/-! ### no exception leaves a def -/
abbrev CX0 : CXT := fun _ _ _ _ _ _ => False
abbrev E0 : XK := fun _ _ _ => False
theorem pass0 {X : Cx} : Passes CX0 X E0 := fun _ _ _ _ _ _ _ h => h.elim

/-! ### a def (or method) of the text as it stands behind the top -/
structure Fun (K : PySem.W.Frag) (x qual : Str) (st : Stmt) (f : Addr) (fd : FuncData) : Prop where
  ex : ∃ (oc : Value) (od : Option Addr) (kV doc pm : Value) (an : Option Addr) (cdv ct : Value) (osl : Array (Option Value)),
    fd = PySem.W.fnOf x qual (defArgs st) (defBody st) (defScope st) .none kV doc pm an cdv ct ∧ K.lookup f = some ⟨oc, od, .func fd, osl⟩ ∧ PySem.W.codeIn K cdv qual = true
  kp : PySem.W.keepIn K (.ref f) = true
section
variable {P : Program} {w : World} {K : PySem.W.Frag} {mg : Str → Option Value} {base : Heap}
/-- THE RULE for a def: its body as a term of rules, and the reading of that term -/
theorem Fun.ok {x qual : Str} {st : Stmt} {f : Addr} {fd : FuncData} {N ps : List Str} {k : Nat} {sp : Sp} (F : Fun K x qual st f fd) (S : FnScope N ps (defScope st)) (len : ∀ vs H Q E, sp vs H Q E → vs.length = ps.length)
    (hbody : ∀ (cdv : Value) (A : Around) (outer : List Env) (s : Shared) (H : Hp) (vs : List V) (Q : VK) (E : XK), Room k (A.deeper (envOfC qual (defScope st) s.heap.objs.size f cdv)) → sp vs H Q E →
      ∃ t, PSs (cxOf CX0 P w K mg base N qual (defScope st) f cdv A outer s H E).nox (defBody st) t ∧ t { nx := fun _ H' => Q .non H', rt := Q } (start N vs) H) : FnOk P w K mg base CX0 (k + 1) f fd ps sp := by
  obtain ⟨oc, od, kV, doc, pm, an, cdv, ct, osl, rfl, lk, hcd⟩ := F.ex
  refine fn_of lk hcd S len fun A outer s H vs Q E hr hsp => ?_
  obtain ⟨t, h, q⟩ := hbody cdv A outer s H vs Q E hr hsp
  exact ⟨t, h.nox, q⟩
/-- how its arguments bind (no defaults): h is «fun _ _ _ _ _ _ us hl => match us, hl with | [_, _], _ => rfl», one _ a parameter -/
theorem Fun.binds {x qual : Str} {st : Stmt} {f : Addr} {fd : FuncData} {ps : List Str} (F : Fun K x qual st f fd)
    (h : ∀ (kV doc pm : Value) (an : Option Addr) (cdv ct : Value) (us : List Value), us.length = ps.length → bindArgs (PySem.W.fnOf x qual (defArgs st) (defBody st) (defScope st) .none kV doc pm an cdv ct) ⟨us, []⟩ = pure (ps.zip us)) : Binds K fd ps [] := by
  obtain ⟨oc, od, kV, doc, pm, an, cdv, ct, osl, rfl, lk, hcd⟩ := F.ex
  exact .all (h kV doc pm an cdv ct)
theorem fun_mk {x qual : Str} {st : Stmt} {f : Addr} {oc : Value} {od an : Option Addr} {osl : Array (Option Value)} {kV doc pm cdv ct : Value} (l : K.lookup f = some ⟨oc, od, .func (PySem.W.fnOf x qual (defArgs st) (defBody st) (defScope st) .none kV doc pm an cdv ct), osl⟩)
    (c : PySem.W.codeIn K cdv qual = true) (k : PySem.W.keepIn K (.ref f) = true) : Fun K x qual st f (PySem.W.fnOf x qual (defArgs st) (defBody st) (defScope st) .none kV doc pm an cdv ct) := ⟨⟨oc, od, kV, doc, pm, an, cdv, ct, osl, rfl, l, c⟩, k⟩
end
/-! ### expressions in short: the name that stands in the i-th slot -/
section
variable {X : Cx}
theorem pv (i : Nat) {x : Str} {pos : Pos} (hN : X.N[i]? = some x := by rfl) (hv : Vis X.env.scope x := by first | exact Or.inl rfl | exact Or.inr (Or.inl rfl) | exact Or.inr (Or.inr rfl)) (hd : (x == ("__debug__" : Str)) = false := by decide)
    (hcd : (x == ("__classdict__" : Str)) = false := by decide) : PE X (.Name x pos) (tVar i) := pe_var hN hv hd hcd
end

/-! ### tests -/
theorem iteF {A B : Prop} (h : B) : if false = true then A else B := by
  rw [if_neg Bool.false_ne_true]
  exact h
theorem iteT {A B : Prop} (h : A) : if true = true then A else B := by
  rw [if_pos rfl]
  exact h
theorem iteNS {c A B : Prop} [Decidable c] (hc : c) (h : B) : if (!decide c) = true then A else B := by
  rw [decide_eq_true hc]
  exact iteF h

/-! ### heaps -/
/-- all that was tracked is as it was -/
def Same (H H' : Hp) : Prop := ∀ b o, H b = some o → H' b = some o
theorem Same.refl (H : Hp) : Same H H := fun _ _ h => h
theorem Same.trans {H H1 H2 : Hp} (a : Same H H1) (b : Same H1 H2) : Same H H2 := fun c o h => b c o (a c o h)
theorem Same.free {H H' : Hp} (e : Same H H') {l : Addr} (h : H' l = Option.none) : H l = Option.none := by
  cases q : H l with
  | none => rfl
  | some o =>
    rw [e l o q] at h
    cases h
theorem Same.seq {K : PySem.W.Frag} {H H' : Hp} {a : Addr} {xs : List V} (e : Same H H') (h : SqL K H a xs) : SqL K H' a xs := by
  rcases h with (h | ⟨o, h⟩) | h
  · exact .inl (.inl (e _ _ h))
  · exact .inl (.inr ⟨o, e _ _ h⟩)
  · exact .inr h

end L2

section
namespace L2
open PySem PySem.Spec PyProof.Rows
/-! ### more rules: texts, ranges down, comprehensions -/
section
variable {X : Cx}
theorem mt_bitlen : MtR X "int.bit_length" (fun x xs H Q => ∃ i, x = .int i ∧ xs = [] ∧ Q (.int ((Builtin.Int.intBits i : Nat) : Int)) H) := by
  intro pins s σ H x xs v us Q I rx rv h
  obtain ⟨i, rfl, rfl, q⟩ := h
  obtain ⟨t, rfl⟩ := rx
  cases rv
  exact call_gives F.slot_int_bit_length (typeIs_int s i t) F.entry_int_bit_length (F.args_int_bit_length_1 _) (AutoIntG2.int_bit_length_int_0 i t) ⟨.int _, H, I.tok _, ⟨_, rfl⟩, q⟩
theorem strs_of : ∀ {ys : List Str} {its : List Value}, Vals (ys.map V.str) its → StrsAre its ys
  | [], _, .nil => .nil
  | _ :: _, _, .cons ⟨_, e⟩ r => by subst e; exact .cons _ _ (strs_of r)
/-- sep.join(a list of texts) -/
theorem mt_join : MtR X "str.join" (fun x xs H Q => ∃ y a ys, x = .str y ∧ xs = [.ref a] ∧ SqL X.K H a (ys.map V.str) ∧ (ys.map (·.length)).sum + ys.length * y.length ≤ 16777216 ∧ Q (.str (Txt.join y ys)) H) := by
  intro pins s σ H x xs v us Q I rx rv h
  obtain ⟨y, a, ys, rfl, rfl, hq, hz, q⟩ := h
  obtain ⟨t, rfl⟩ := rx
  obtain ⟨u, rfl, ru⟩ := rv.one
  cases ru
  obtain ⟨its, r, pl, _⟩ := I.list hq
  exact join_list pl.isList (by simpa using strs_of r) hz fun t' k => ⟨.str _, H, I.tok _, ⟨_, rfl⟩, q⟩
theorem op_mul_str : OpR X (binaryOp .Mult) (fun x y H Q => ∃ z i, x = .str z ∧ y = .int i ∧ i < 2 ^ 40 ∧ -(2 ^ 40) < i ∧ z.length * i.toNat ≤ sizeLine ∧ Q (.str (Txt.mul z i)) H) := by
  intro pins s σ H x y v u Q I rx ry h
  obtain ⟨z, i, rfl, rfl, h1, h2, h3, q⟩ := h
  obtain ⟨t, rfl⟩ := rx
  obtain ⟨t', rfl⟩ := ry
  refine SB.mul ⟨?_, fun h4 _ => ?_, fun h4 _ => ?_⟩ fun t' k => ⟨.str _, H, I.tok _, ⟨_, rfl⟩, q⟩
  · simp only [Bool.or_eq_false_iff, decide_eq_false_iff_not]; omega
  · intro c
    have hn : (0 : Int) < i := by omega
    have h63 := line63
    have e : (z.length : Int) * i ≤ 2 ^ 63 - 1 := by
      have : ((z.length * i.toNat : Nat) : Int) = (z.length : Int) * i := by rw [Int.natCast_mul]; congr 1; omega
      omega
    have := (Int.le_ediv_iff_mul_le hn).mpr e
    omega
  · unfold Builtin.Str.tooLong; simpa using h3
theorem call_int_text : CallR X (.type "int") (fun xs H Q => ∃ x n, xs = [.str x] ∧ PySem.intText? x = some n ∧ x.length ≤ 640 ∧ Q (.int n) H) := by
  intro pins s σ H xs us Q I r h
  obtain ⟨x, n, rfl, hn, hl, q⟩ := h
  obtain ⟨u, rfl, t, rfl⟩ := vals1 r
  exact PySem.W.KIN.call_text hn hl ⟨.int n, H, I.tok _, ⟨_, rfl⟩, q⟩
theorem sl_str : SlR X (fun x lo hi H Q => ∃ z, x = .str z ∧ z.length ≤ sizeLine ∧ Q (.str (Txt.slice z lo hi)) H) := by
  intro pins s σ H x v vl vu lo hi sl Q I rx hs pl pu h
  obtain ⟨z, rfl, hz, q⟩ := h
  obtain ⟨t, rfl⟩ := rx
  refine ⟨"str", _, F.slot_str_getitem.lookup, typeIs_str s z t, ?_⟩
  have fin : ∀ (t' : Tok) (k : Nat), EP X pins σ Q (.str (Txt.slice z lo hi) t') { s with toks := k } := fun t' k => ⟨.str _, H, I.tok _, ⟨_, rfl⟩, q⟩
  obtain ⟨o, ho, hc, hd⟩ := hs
  cases pl with
  | none =>
    cases pu with
    | none => exact wpAny_getItem_str_slice (l := none) (u := none) (st := none) ⟨o, ho, hc, hd⟩ rfl (post_val_or_str ⟨Nat.le_trans (Txt.slice_le z _ _) hz, fin⟩)
    | int j uj => exact wpAny_getItem_str_slice (l := none) (u := some (j, uj)) (st := none) ⟨o, ho, hc, hd⟩ rfl (post_val_or_str ⟨Nat.le_trans (Txt.slice_le z _ _) hz, fin⟩)
  | int i ui =>
    cases pu with
    | none => exact wpAny_getItem_str_slice (l := some (i, ui)) (u := none) (st := none) ⟨o, ho, hc, hd⟩ rfl (post_val_or_str ⟨Nat.le_trans (Txt.slice_le z _ _) hz, fin⟩)
    | int j uj => exact wpAny_getItem_str_slice (l := some (i, ui)) (u := some (j, uj)) (st := none) ⟨o, ho, hc, hd⟩ rfl (post_val_or_str ⟨Nat.le_trans (Txt.slice_le z _ _) hz, fin⟩)
/-- isinstance(x, T), T a built-in type -/
theorem call_isinst : CallR X (.builtin "isinstance") (fun xs H Q => ∃ x T t b, xs = [x, .ty T] ∧ TyOf X.K H x t ∧ PySem.W.kitOne X.K t (.type T) = some b ∧ Q (.bl b) H) := by
  intro pins s σ H xs us Q I r h
  obtain ⟨x, T, t, b, rfl, ty, e, q⟩ := h
  obtain ⟨u, w', rfl, r1, r2⟩ := vals2 r
  cases (show w' = Value.type T from r2)
  exact isinst_ok I r1 ty e fun tk => ⟨.bl b, H, I.tok _, rfl, q⟩
/-- isinstance(x, C), C a class of the text -/
theorem call_isinstC : CallR X (.builtin "isinstance") (fun xs H Q => ∃ x C t b, xs = [x, .ref C] ∧ TyOf X.K H x t ∧ PySem.W.kitOne X.K t (.ref C) = some b ∧ Q (.bl b) H) := by
  intro pins s σ H xs us Q I r h
  obtain ⟨x, C, t, b, rfl, ty, e, q⟩ := h
  obtain ⟨u, w', rfl, r1, r2⟩ := vals2 r
  cases (show w' = Value.ref C from r2)
  exact isinst_ok I r1 ty e fun tk => ⟨.bl b, H, I.tok _, rfl, q⟩
end
/-! ### a range with a step -/
/-- lo, lo + c, .. (n of them) -/
def Itc (lo c : Int) (n : Nat) : It := ⟨fun i _ => i < n, fun i H x H' => H' = H ∧ x = .int (lo + i * c), fun i _ => n ≤ i⟩
theorem turn_rangeC {P : Program} {w : World} {K : PySem.W.Frag} {tg : Expr} (it : Addr) (lo c : Int) (n : Nat) : Turn P w K tg (Itc lo c n) [it] it (fun i h => IsRangeIter h it (lo + (i : Nat) * c) ((n : Int) - (i : Nat)) c) where
  mem := by simp
  obj := fun i h st b hb => by
    have e : b = it := by simpa using hb
    subst e
    exact ⟨_, st, fun v z => by
      have z' : Data.fields _ = Data.cell v := z
      cases z'⟩
  keep := fun i h h' st k => k it (by simp) _ st
  item := by
    intro X hP hw hK hc i pins s σ H E I hf st hg
    subst hP hw hK
    obtain ⟨f0, f1, f2, f3, f4, f5⟩ := hf it (by simp)
    have W := Walks.range (prog := X.prog) (w := X.w) (I.ok.hd hc) it lo c n
    refine W.item i s _ _ hg st fun v h' tk hv st' kk => ?_
    obtain ⟨t, rfl⟩ := hv
    have I1 : Inv X pins σ H { s with heap := h', toks := tk } := I.turned (fun b o hb e => kk b o (by simpa using hb) e) f0 f1 f3 f4 f5
    exact ⟨_, rfl, go_of (s := { s with heap := h', toks := tk }) (n := "range_iterator") st' rfl rfl (by decide) ⟨.int (lo + i * c), H, I1, ⟨t, rfl⟩, ⟨rfl, rfl⟩, st', fun b hb => (hf b hb).1⟩⟩
  done := by
    intro X hP hw hK hc i pins s σ H E I hf st hg
    subst hP hw hK
    obtain ⟨f0, f1, f2, f3, f4, f5⟩ := hf it (by simp)
    exact wpAny_pyNext_range_end (I.ok.hd hc) st (by have : n ≤ i := hg; omega) fun h' eb => ⟨rfl, I.turned (t' := s.toks) (fun b o hb e => eb b o hb e) f0 f1 f3 f4 f5⟩
  self := fun _ _ _ _ _ st h => wpAny_pyIter_rangeiter st h
section
variable {X : Cx} {tg : Expr}
/-- range(a, b, -1) -/
def iRngD (ta : TA) : TI := fun σ H R => ta σ H fun vs H1 => ∃ i j : Int, vs = [.int i, .int j, .int (-1)] ∧ (-(2 ^ 61) ≤ i ∧ i < 2 ^ 61 ∧ -(2 ^ 61) ≤ j ∧ j < 2 ^ 61) ∧ R (Itc i (-1) (i - j).toNat) H1
end
end L2

end

section
namespace L2
open PySem PySem.Spec PyProof.Rows
/-! ### range(a, b, -1) -/
section
variable {X : Cx} {tg : Expr}
theorem small_down {a b : Int} (ha : -(2 ^ 61) ≤ a) (ha' : a < 2 ^ 61) (hb : -(2 ^ 61) ≤ b) (hb' : b < 2 ^ 61) : Builtin.Range.small a b (-1) = true := by
  unfold Builtin.Range.small Builtin.Range.rangeSize
  simp only [Builtin.Range.rangeFitsLong, Bool.and_eq_true, Bool.or_eq_true, decide_eq_true_eq, beq_iff_eq, show ¬ ((-1 : Int) > 0) by decide, if_false, Int.neg_neg, Int.ediv_one]
  split <;> omega
theorem rangeSize_down (a b : Int) : Builtin.Range.rangeSize a b (-1) = (((a - b).toNat : Nat) : Int) := by
  unfold Builtin.Range.rangeSize
  rw [if_neg (by decide)]
  simp only [Int.neg_neg, Int.ediv_one]
  split <;> omega
theorem pi_rangeD {a b c : Expr} {ta : TA} {p pos : Pos} (hg : Gl X "range") (hm : X.mg "range" = none) (ha : PA X [a, b, c] ta)
    (hs : starEach [a, b, c] X.env = [(false, eval a X.env), (false, eval b X.env), (false, eval c X.env)] := by rfl) (hs2 : starEach [b, c] X.env = [(false, eval b X.env), (false, eval c X.env)] := by rfl) :
    PI X tg (.Call (.Name "range" p) [a, b, c] [] pos) (iRngD ta) := by
  intro pins s σ H R I h
  refine Call_ (ld_blt I hg hm boot_range (PyProof.Rows.callWith_type1 (thn (ha pos pins s σ H _ I h) fun us s1 ⟨vs, H1, I1, r1, q1⟩ => ?_) (by rw [hs, hs2]) (by rw [hs2]; rfl)))
  obtain ⟨i, j, e, ⟨q1, q2, q3, q4⟩, q⟩ := q1
  subst e
  cases r1 with
  | cons r rr =>
    cases rr with
    | cons r' rr =>
      cases rr with
      | cons r'' rr =>
        cases rr
        obtain ⟨t, rfl⟩ := r
        obtain ⟨t', rfl⟩ := r'
        obtain ⟨t'', rfl⟩ := r''
        refine call_range_3 (by decide) ?_ (.inl (PyProof.noPylong_small (by decide)))
        refine wpAny_pyIter_range (IsRange.new ..) (small_down q1 q2 q3 q4) ?_
        have I2 : Inv X pins σ H1 { s1 with heap := s1.heap.push { cls := .type "range", data := .fields #[.int i t, .int j t', .int (-1) t''] } } := I1.kept (t' := s1.toks) fun b o e => Heap.get?_push_of_some _ e
        refine ⟨_, [_], _, _, H1, rfl, I2.kept (t' := s1.toks) fun b o e => Heap.get?_push_of_some _ e, turn_rangeC _ i (-1) (i - j).toNat, ?_, fun b hb => ?_, q⟩
        · have e1 : i + ((0 : Nat) : Int) * (-1) = i := by simp
          have e2 : (((i - j).toNat : Nat) : Int) - ((0 : Nat) : Int) = Builtin.Range.rangeSize i j (-1) := by rw [rangeSize_down]; simp
          show IsRangeIter _ _ (i + ((0 : Nat) : Int) * (-1)) ((((i - j).toNat : Nat) : Int) - ((0 : Nat) : Int)) (-1)
          rw [e1, e2]
          exact Heap.get?_push_size _ rfl
        · have e := List.mem_singleton.mp hb
          subst e
          exact I2.fpOk (Nat.le_refl _) (I2.hok.fresh (Nat.le_refl _))
end
/-! ### a text's signs -/
def Its (x : Str) : It := ⟨fun i _ => i < x.cps.size, fun i H v H' => H' = H ∧ ∃ c, x.cps[i]? = some c ∧ v = .str ⟨#[c]⟩, fun i _ => x.cps.size ≤ i⟩
section
variable {X : Cx} {tg : Expr}
theorem turn_str {P : Program} {w : World} {K : PySem.W.Frag} {tg : Expr} (x : Str) (it : Addr) (n : String) (t : Tok) (W : ∀ A' : Around, A'.handled = none → Walks P w A' it [it] [it] x.cps.size (SignAt x) (fun i h => h.IsStrIter it n x t i))
    (hn : ["enumerate", "zip", "dict_itemiterator", "dict_reverseitemiterator", "odict_iterator", "itertools.zip_longest", "itertools.pairwise"].contains n = false)
    (hdone : ∀ (A : Around) (i : Nat) (s : Shared) (Q : Option Value → Shared → Prop) (E : Value → Shared → Prop), A.handled = none → s.heap.IsStrIter it n x t i → x.cps.size ≤ i → (∀ h', (∀ b o, b ≠ it → s.heap.get? b = some o → h'.get? b = some o) → Q none { s with heap := h' }) → wpAny (model P w) A (pyNext (.ref it)) Q E s)
    (hself : ∀ (A : Around) (i : Nat) (s : Shared) (Q : Value → Shared → Prop) (E : Value → Shared → Prop), s.heap.IsStrIter it n x t i → Q (.ref it) s → wpAny (model P w) A (pyIter (.ref it)) Q E s) :
    Turn P w K tg (Its x) [it] it (fun i h => h.IsStrIter it n x t i) where
  mem := by simp
  obj := fun i h st b hb => by
    have e : b = it := by simpa using hb
    subst e
    obtain ⟨o, ho, hc, hd⟩ := st
    exact ⟨o, ho, fun v z => by rw [hd] at z; cases z⟩
  keep := fun i h h' st k => by
    obtain ⟨o, ho, r⟩ := st
    exact ⟨o, k it (by simp) o ho, r⟩
  item := by
    intro X hP hw hK hc i pins s σ H E I hf st hg
    subst hP hw hK
    obtain ⟨f0, f1, f2, f3, f4, f5⟩ := hf it (by simp)
    refine (W X.A (I.ok.hd hc)).item i s _ _ hg st fun v h' tk hv st' kk => ?_
    obtain ⟨c, u, hc', rfl⟩ := hv
    have I1 : Inv X pins σ H { s with heap := h', toks := tk } := I.turned (fun b o hb e => kk b o (by simpa using hb) e) f0 f1 f3 f4 f5
    obtain ⟨o, ho, hcl, hd⟩ := id st'
    exact ⟨_, rfl, go_of (s := { s with heap := h', toks := tk }) (n := n) ho hcl hd hn ⟨.str ⟨#[c]⟩, H, I1, ⟨u, rfl⟩, ⟨rfl, c, hc', rfl⟩, st', fun b hb => (hf b hb).1⟩⟩
  done := by
    intro X hP hw hK hc i pins s σ H E I hf st hg
    subst hP hw hK
    obtain ⟨f0, f1, f2, f3, f4, f5⟩ := hf it (by simp)
    exact hdone X.A i s _ _ (I.ok.hd hc) st hg fun h' eb => ⟨rfl, I.turned (t' := s.toks) (fun b o hb e => eb b o hb e) f0 f1 f3 f4 f5⟩
  self := fun A i s Q E st h => hself A i s Q E st h
def iStr (tl : TE) : TI := fun σ H R => tl σ H fun x H1 => ∃ y, x = .str y ∧ R (Its y) H1
theorem pi_str {l : Expr} {tl : TE} (hl : PE X l tl) : PI X tg l (iStr tl) := by
  intro pins s σ H R I h
  refine thn (hl pins s σ H _ I h) fun v s1 ⟨x, H1, I1, r1, q1⟩ => ?_
  obtain ⟨y, e, q⟩ := q1
  subst e
  obtain ⟨t, rfl⟩ := r1
  have fin : ∀ (o : Obj) (tn : Nat → Heap → Prop), Turn X.prog X.w X.K tg (Its y) [s1.heap.objs.size] s1.heap.objs.size tn → tn 0 (s1.heap.push o) → PIE X pins σ tg R (.ref s1.heap.objs.size) { s1 with heap := s1.heap.push o } := fun o tn T h0 => by
    refine ⟨s1.heap.objs.size, [s1.heap.objs.size], tn, Its y, H1, rfl, I1.kept (t' := s1.toks) fun b o e => Heap.get?_push_of_some _ e, T, h0, fun b hb => ?_, q⟩
    have e := List.mem_singleton.mp hb
    subst e
    exact I1.fpOk (Nat.le_refl _) (I1.hok.fresh (Nat.le_refl _))
  cases ha : y.cps.all (· < 128)
  · refine wpAny_pyIter_wide ha (fin _ _ (turn_str y _ "str_iterator" t (fun A' hA => Walks.strWide hA _ y t) (by decide) (fun A i s Q E hh st hi hQ => ?_) fun A i s Q E st hq => wpAny_pyIter_striter_wide st hq) ⟨_, Heap.get?_push_size _ rfl, rfl, rfl⟩)
    exact wpAny_pyNext_wide_end hh st (by simpa using hi) fun h' he' => hQ h' fun b o hb e => he' b o hb e
  · refine wpAny_pyIter_ascii ha (fin _ _ (turn_str y _ "str_ascii_iterator" t (fun A' hA => Walks.strAscii hA _ y t) (by decide) (fun A i s Q E hh st hi hQ => ?_) fun A i s Q E st hq => wpAny_pyIter_striter_ascii st hq) ⟨_, Heap.get?_push_size _ rfl, rfl, rfl⟩)
    exact wpAny_pyNext_ascii_end hh st (by simpa using hi) fun h' he' => hQ h' fun b o hb e => he' b o hb e
end
/-! ### list comprehensions -/
/-- what is asked of a comprehension's scope: cs the names that it takes from around -/
def compScopeOk (sc : Scope) (cs : List Str) : Bool :=
  sc.kind == .function && sc.names.all (fun y => y.2 != .cell) && sc.names.all (fun y => y.2 != .local || sc.names.lookup y.1 == some .local) &&
    sc.names.all (fun y => y.2 != .free || cs.contains y.1) && cs.all (fun x => sc.names.lookup x == some .free)
/-- the captured names: place in the frame around, name -/
def CapsOk (X : Cx) : List (Nat × Str) → Prop
  | [] => True
  | (j, x) :: r => X.N[j]? = some x ∧ (X.env.kindOf x = some .cell ∨ X.env.kindOf x = some .free) ∧ CapsOk X r
theorem CapsOk.at {X : Cx} : ∀ {cs : List (Nat × Str)}, CapsOk X cs → ∀ p ∈ cs, X.N[p.1]? = some p.2 ∧ (X.env.kindOf p.2 = some .cell ∨ X.env.kindOf p.2 = some .free)
  | [], _, _, h => nomatch h
  | (j, x) :: r, ⟨h1, h2, h3⟩, p, h => by
    rcases List.mem_cons.mp h with e | e
    · subst e; exact ⟨h1, h2⟩
    · exact CapsOk.at h3 p e
def cxComp (X : Cx) (scope : Scope) (cl : List (Str × Addr)) (C : Addr) (N : List Str) (s2 : Shared) (H2 : Hp) (fp : List Addr) : Cx where
  prog := X.prog
  w := X.w
  K := X.K
  mg := X.mg
  base := X.base
  A := X.A
  N := N
  s₀ := s2
  H₀ := H2
  env := compEnvC scope cl C X.env
  outer := X.stack
  stack := X.stack
  ex := fp
  calm := X.calm
  fn := fun _ => false
  pn := []
  xe := fun _ _ => False
theorem closure_of {env : Env} : ∀ (names : List (Str × NameKind)), (∀ y ∈ names, y.2 = .free → ∃ c, env.cells.lookup y.1 = some c) →
    ∀ acc : List (Str × Addr), (∀ x c, acc.lookup x = some c → env.cells.lookup x = some c) → ∃ cl,
    (forIn names acc fun (x : Str × NameKind) r => do
      if x.2 == .free then pure (ForInStep.yield ((x.1, ← cellOf env x.1) :: r)) else pure (ForInStep.yield r) : Sem (List (Str × Addr))) = pure cl ∧
    (∀ x c, cl.lookup x = some c → env.cells.lookup x = some c) ∧ (∀ y ∈ names, y.2 = .free → ∃ c, cl.lookup y.1 = some c) ∧ ∀ x c, acc.lookup x = some c → ∃ c', cl.lookup x = some c'
  | [], _, acc, ha => ⟨acc, rfl, ha, (fun _ h => nomatch h), fun _ c h => ⟨c, h⟩⟩
  | (n, k) :: r, hn, acc, ha => by
    by_cases hk : k = .free
    · subst hk
      obtain ⟨c, hc⟩ := hn _ List.mem_cons_self rfl
      have ha' : ∀ x c', ((n, c) :: acc).lookup x = some c' → env.cells.lookup x = some c' := fun x c' e => by
        rw [List.lookup_cons] at e
        by_cases hx : x = n
        · subst hx
          rw [beq_self_eq_true] at e
          cases e
          exact hc
        · rw [beq_false_of_ne hx] at e
          exact ha x c' e
      obtain ⟨cl, e, h1, h2, h3⟩ := closure_of r (fun y hy => hn y (List.mem_cons_of_mem _ hy)) ((n, c) :: acc) ha'
      refine ⟨cl, ?_, h1, fun y hy hf => ?_, fun x c' hx => ?_⟩
      · rw [List.forIn_cons]
        simp only [cellOf, hc, beq_self_eq_true, if_true]
        exact e
      · rcases List.mem_cons.mp hy with e' | e'
        · subst e'
          exact h3 n c (by rw [List.lookup_cons, beq_self_eq_true])
        · exact h2 y e' hf
      · by_cases hxn : x = n
        · subst hxn
          exact h3 x c (by rw [List.lookup_cons, beq_self_eq_true])
        · exact h3 x c' (by rw [List.lookup_cons, beq_false_of_ne hxn]; exact hx)
    · obtain ⟨cl, e, h1, h2, h3⟩ := closure_of r (fun y hy => hn y (List.mem_cons_of_mem _ hy)) acc ha
      refine ⟨cl, ?_, h1, fun y hy hf => ?_, h3⟩
      · rw [List.forIn_cons]
        have hb : (k == NameKind.free) = false := by simpa using hk
        simp only [hb, Bool.false_eq_true, if_false]
        exact e
      · rcases List.mem_cons.mp hy with e' | e'
        · subst e'
          exact absurd hf hk
        · exact h2 y e' hf
end L2

end

section
namespace L2
open PySem PySem.Spec PyProof.Rows
/-- the turns of a comprehension over J from the block's frame σ0 on, its list at D -/
def CompGo (J : It) (g : TG) (tc : TT) (te : TE) (Q : VK) (σ0 : St) (H1 : Hp) (D : Addr) : Prop :=
  ∃ W : Nat → Nat → St → Hp → Prop, (∃ m, W 0 m σ0 (upd H1 D (.lst []))) ∧ ∀ i m σ1 H2, W i m σ1 H2 →
    (J.stop i H2 ∧ Q (.ref D) H2) ∨
    (J.go i H2 ∧ ∀ x H3, J.yld i H2 x H3 → g x σ1 H3 fun σ2 H4 => tc σ2 H4 fun b H5 =>
      if b = true then te σ2 H5 fun y H6 => ∃ xs m', H6 D = some (.lst xs) ∧ xs.length < sizeLine ∧ m' < m ∧ W (i + 1) m' σ2 (upd H6 D (.lst (xs ++ [y])))
      else ∃ m', m' < m ∧ W (i + 1) m' σ2 H5)
def tComp (wi : TI) (g : TG) (tc : TT) (te : TE) (σ0 : St → St) : TE := fun σ H Q => wi σ H fun J H1 => ∀ D, H1 D = none → CompGo J g tc te Q (σ0 σ) H1 D
def tYes : TT := fun _ H Q => Q true H
/-- the tests of a comprehension -/
def PTs (X : Cx) (ifs : List Expr) (t : TT) : Prop :=
  ∀ (pins : List (Addr × Obj)) (s : Shared) (σ : St) (H : Hp) (Q : Bool → Hp → Prop), Inv X pins σ H s → t σ H Q →
    wpAny (model X.prog X.w) X.A (forIn ifs true fun c r => if r = true then do let ok ← isTrue c X.env (eval c X.env); pure (ForInStep.yield ok) else pure (ForInStep.yield r)) (TP X pins σ Q) X.xe s
theorem pts_nil {X : Cx} : PTs X [] tYes := fun _ _ _ H _ I h => wpAny_tests_nil ⟨H, I, h⟩
section
variable {prog : Program} {w : World} {A : Around} {E : Value → Shared → Prop} {R : Result → Shared → Prop} {s : Shared}
theorem compLoop_gen {elt target iter : Expr} {ifs : List Expr} {scope : Scope} {pos : Pos} {it acc : Value} {env : Env} (I : Nat → Shared → Prop)
    (turn : ∀ n s, I n s → wpAny (model prog w) A (pyNext it) (fun r s₁ => match r with
      | none => R (.ok .next) s₁
      | some v => wpAny (model prog w) A (letOwnedTupleGo target it v) (fun _ s₁' => wpAny (model prog w) A (assign target env v) (fun _ s₂ =>
          wpAny (model prog w) A (forIn ifs true fun c r => if r = true then do let ok ← isTrue c env (eval c env); pure (ForInStep.yield ok) else pure (ForInStep.yield r)) (fun ok s₃ =>
            if ok = true then wpAny (model prog w) A (eval elt env) (fun x s₄ =>
              wpAny (model prog w) A (call (.builtin "list.append") [acc, x]) (fun _ s₅ => ∃ m, m < n ∧ I m s₅) (notedBy (model prog w) A env fun e s' => R (.error e) s') s₄) (notedBy (model prog w) A env fun e s' => R (.error e) s') s₃
            else ∃ m, m < n ∧ I m s₃) (notedBy (model prog w) A env fun e s' => R (.error e) s') s₂) (notedBy (model prog w) A env fun e s' => R (.error e) s') s₁') (notedBy (model prog w) A env fun e s' => R (.error e) s') s₁) (notedBy (model prog w) A env fun e s' => R (.error e) s') s)
    (n : Nat) (h : I n s) :
    codeAny (model prog w) A (.compLoop (.ListComp elt [⟨target, iter, ifs, 0⟩] scope pos) 0 it acc env) R s := by
  refine codeAny_loop rfl I (fun n s hI => ?_) n h
  show wpAny _ A ((compTurn (.ListComp elt [⟨target, iter, ifs, 0⟩] scope pos) 0 it acc env).onRaise (fun x => do noteFrame x env; theTreesLotGoes x)) _ _ s
  refine wpAny_noted ?_
  rw [compTurn_list]
  refine wpAny_bind (wpAny_standAt (wpAny_bind (wpAny_mono (turn n s hI) (fun r s₁ h₁ => ?_) fun _ _ h' => h')))
  cases r with
  | none => exact wpAny_pure h₁
  | some v =>
    refine wpAny_bind (wpAny_mono h₁ (fun _ s₁' h₁' => ?_) fun _ _ h' => h')
    refine wpAny_bind (wpAny_mono h₁' (fun _ s₂ h₂ => wpAny_bind (wpAny_mono h₂ (fun ok s₃ h₃ => ?_) fun _ _ h' => h')) fun _ _ h' => h')
    cases ok with
    | false => exact wpAny_pure ⟨rfl, h₃⟩
    | true =>
      exact wpAny_bind (wpAny_bind (wpAny_mono h₃ (fun x s₄ h₄ => wpAny_bind (wpAny_mono h₄ (fun _ s₅ h₅ => wpAny_pure (wpAny_pure ⟨rfl, h₅⟩)) fun _ _ h' => h')) fun _ _ h' => h'))
end
section
variable {X : Cx} {elt target iter : Expr} {ifs : List Expr} {scope : Scope} {pos p : Pos} {caps : List (Nat × Str)} {tgs : List Str} {wi : TI} {g : TG} {tc : TT} {te : TE}
/-- the block's frame at its start -/
def compSt (tgs : List Str) (caps : List (Nat × Str)) : St → St := fun σ => List.replicate tgs.length none ++ caps.map fun p => (σ[p.1]?).join
theorem relabel_free {env : Env} : ∀ {names : List (Str × NameKind)} {x : Str}, names.lookup x = some .free →
    ((names.map fun (n, k) => if (k == NameKind.free && env.scope.kind == .function && env.kindOf n == some .cell) then (n, NameKind.cell) else (n, k)).lookup x = some .cell ∨
     (names.map fun (n, k) => if (k == NameKind.free && env.scope.kind == .function && env.kindOf n == some .cell) then (n, NameKind.cell) else (n, k)).lookup x = some .free)
  | [], _, h => by cases h
  | (n, k) :: r, x, h => by
    rw [List.lookup_cons] at h
    rw [List.map_cons]
    by_cases hx : x = n
    · subst hx
      rw [beq_self_eq_true] at h
      cases h
      dsimp only
      split
      · exact .inl (by rw [List.lookup_cons, beq_self_eq_true])
      · exact .inr (by rw [List.lookup_cons, beq_self_eq_true])
    · rw [beq_false_of_ne hx] at h
      have ih := relabel_free (env := env) h
      dsimp only
      split <;> (rw [List.lookup_cons, beq_false_of_ne hx]; exact ih)
theorem relabel_back {env : Env} : ∀ {names : List (Str × NameKind)} {x : Str}, ((names.map fun (n, k) => if (k == NameKind.free && env.scope.kind == .function && env.kindOf n == some .cell) then (n, NameKind.cell) else (n, k)).lookup x = some .cell ∨
     (names.map fun (n, k) => if (k == NameKind.free && env.scope.kind == .function && env.kindOf n == some .cell) then (n, NameKind.cell) else (n, k)).lookup x = some .free) → (∀ y ∈ names, y.2 ≠ .cell) → names.lookup x = some .free
  | [], _, h, _ => by rcases h with h | h <;> cases h
  | (n, k) :: r, x, h, hn => by
    rw [List.lookup_cons]
    by_cases hx : x = n
    · subst hx
      rw [beq_self_eq_true]
      have hk := hn _ List.mem_cons_self
      rw [List.map_cons] at h
      dsimp only at h
      split at h
      · rename_i c
        simp only [Bool.and_eq_true, beq_iff_eq] at c
        exact congrArg some c.1.1
      · rw [List.lookup_cons, beq_self_eq_true] at h
        rcases h with h | h
        · cases h; exact absurd rfl hk
        · exact h
    · rw [beq_false_of_ne hx]
      refine relabel_back (env := env) ?_ fun y hy => hn y (List.mem_cons_of_mem _ hy)
      rw [List.map_cons] at h
      dsimp only at h
      split at h <;> (rw [List.lookup_cons, beq_false_of_ne hx] at h; exact h)
theorem mem_lookup_free : ∀ {names : List (Str × NameKind)} {x : Str} {k : NameKind}, names.lookup x = some k → (x, k) ∈ names
  | [], _, _, h => by cases h
  | (n, k') :: r, x, k, h => by
    rw [List.lookup_cons] at h
    by_cases hx : x = n
    · subst hx
      rw [beq_self_eq_true] at h
      cases h
      exact List.mem_cons_self
    · rw [beq_false_of_ne hx] at h
      exact List.mem_cons_of_mem _ (mem_lookup_free h)
set_option maxHeartbeats 1000000
theorem comp_core {use : Option (Value → Sem Unit)} {Qf : Value → Shared → Prop} {pins : List (Addr × Obj)} {σ : St} {H : Hp} {s : Shared} {Q : VK}
    (hc : X.calm = true) (hsc : compScopeOk scope (caps.map (·.2)) = true) (hcap : CapsOk X caps) (hi : PI X target iter wi)
    (hg : ∀ cl C s2 H2 fp, PG (cxComp X scope cl C (tgs ++ caps.map (·.2)) s2 H2 fp) target g)
    (ht : ∀ cl C s2 H2 fp, PTs (cxComp X scope cl C (tgs ++ caps.map (·.2)) s2 H2 fp) ifs tc)
    (he : ∀ cl C s2 H2 fp, PE (cxComp X scope cl C (tgs ++ caps.map (·.2)) s2 H2 fp) elt te)
    (I : Inv X pins σ H s) (h : tComp wi g tc te (compSt tgs caps) σ H Q)
    (fin : ∀ D C H' s', Inv X pins σ H' s' → Q (.ref D) H' → H' C = none → C ≠ X.env.locals → X.s₀.heap.objs.size ≤ C → (∀ x c, X.env.cells.lookup x = some c → c ≠ C) → (∀ p ∈ X.pn ++ pins, p.1 ≠ C) → (∃ m, s'.heap.Ns C m) →
      compPost (model X.prog X.w) X.A X.xe use Qf (.ref D) C (.ok .next) s')
    (hs : ∀ x, foldedSetIterable iter X.env x = pure x := by intro _; rfl) :
    wpAny (model X.prog X.w) X.A (comprehension (.ListComp elt [⟨target, iter, ifs, 0⟩] scope pos) scope X.env p (newList []) false (eval iter X.env) use) Qf X.xe s := by
  simp only [compScopeOk, Bool.and_eq_true, List.all_eq_true, beq_iff_eq, bne_iff_ne, Bool.or_eq_true, List.contains_iff_mem] at hsc
  obtain ⟨⟨⟨⟨k1, k2⟩, k3⟩, k4⟩, k5⟩ := hsc
  have hnames : ∀ y ∈ scope.names, y.2 = .local → scope.names.lookup y.1 = some .local := fun y hy hl => (k3 y hy).resolve_left fun z => z hl
  have capAt := hcap.at
  have hfr : ∀ y ∈ scope.names, y.2 = .free → ∃ c, X.env.cells.lookup y.1 = some c := fun y hy hf => by
    have hm := (k4 y hy).resolve_left fun z => z hf
    obtain ⟨q, hq, e⟩ := List.mem_map.mp hm
    have := (capAt q hq).2
    rw [e] at this
    exact I.ok.has _ this
  obtain ⟨cl, hcl, hin, hall, _⟩ := closure_of scope.names hfr [] (fun x c e => by cases e)
  have hclos : closureFor scope X.env = pure cl := by
    refine (show closureFor scope X.env = (_ >>= pure) from rfl).trans ((congrArg (· >>= pure) hcl).trans ?_)
    rfl
  refine wpAny_comprehension_free (use := use) rfl hs hclos k1 hnames (thn (hi pins s σ H _ I h) fun v s1 h1 => thn h1 fun itv s2 h2 => ?_)
  obtain ⟨it, fp, tn, J, H2, e, I2, T, st2, f2, hW⟩ := h2
  subst e
  have fD : H2 s2.heap.objs.size = none := I2.fresh
  obtain ⟨W, ⟨m0, w0⟩, turn⟩ := hW _ fD
  refine wpAny_newObj_type (wpAny_newFunctionEnv k2 (by intro y hy; simp at hy) (fun h₁ hns₁ hsb₁ => ?_) k1)
  dsimp only at hns₁ hsb₁ ⊢
  generalize hH3 : s2.heap.push { cls := .type "list", dict := none, data := .seq ([] : List Value).toArray } = H3 at hns₁ hsb₁ ⊢
  have hC : H3.objs.size = s2.heap.objs.size + 1 := by rw [← hH3, Heap.size_push]
  have hDC : s2.heap.objs.size ≠ H3.objs.size := by rw [hC]; exact Nat.ne_of_lt (Nat.lt_succ_self _)
  have hCle : s2.heap.objs.size ≤ H3.objs.size := by rw [hC]; exact Nat.le_succ _
  have below : ∀ b, b < s2.heap.objs.size → b ≠ H3.objs.size := fun b hb => by rw [hC]; exact Nat.ne_of_lt (Nat.lt_succ_of_lt hb)
  have old : ∀ b o, s2.heap.get? b = some o → h₁.get? b = some o := fun b o e => hsb₁.extBut b o (below b (Heap.lt_size e)) (Heap.get?_push_of_some _ (hH3 ▸ Heap.get?_push_of_some _ e))
  have hacc : h₁.get? s2.heap.objs.size = some { cls := .type "list", dict := none, data := .seq ([] : List Value).toArray } := hsb₁.extBut _ _ hDC (Heap.get?_push_of_some _ (hH3 ▸ Heap.get?_push_size _ rfl))
  have fC : H2 H3.objs.size = none := I2.hok.fresh hCle
  have fpl : ∀ b ∈ fp, b < s2.heap.objs.size := fun b hb => by
    obtain ⟨o, ho, _⟩ := T.obj _ _ st2 b hb
    exact Heap.lt_size ho
  -- the block's context
  let X' := cxComp X scope cl H3.objs.size (tgs ++ caps.map (·.2)) s2 H2 fp
  have ok' : X'.Ok := by
    refine ⟨I2.ok.mod, k1, I2.ok.glob, I2.ok.blt, hCle, fun x y c hx hy => I2.ok.inj x y c (hin _ _ hx) (hin _ _ hy), fun x hx => ?_, (fun x c hf => nomatch hf), I2.ok.hd, I2.ok.frames, .inl rfl, fun b hb => ⟨below b (fpl b hb), fun x c hx => (f2 b hb).2.2.2.2.1 x c (hin _ _ hx)⟩, I2.bs,
      Nat.le_trans I2.ok.bsz I2.sz, fun b o e hb => ?_, fun b hb z => ?_, I2.stack, I2.stkFree⟩
    · exact hall (x, .free) (mem_lookup_free (relabel_back hx k2)) rfl
    · rcases (f2 b hb).2.2.2.1 with z | z
      · exact I2.ok.noex b o e z
      · exact absurd (Nat.lt_of_lt_of_le (Heap.lt_size e) I2.ok.bsz) (Nat.not_lt.mpr z)
    · rcases List.mem_cons.mp (I2.stkSub b z) with q | q
      · exact (f2 b hb).2.1 q
      · exact (f2 b hb).2.2.1 q
  have un4 : Un (frs X.stack) fp H2 (upd H2 s2.heap.objs.size (.lst [])) s2.heap h₁ := Un.laid old (Nat.le_refl _) fD
  have hok4 : HOk X.prog X.w (upd H2 s2.heap.objs.size (.lst [])) h₁ := I2.hok.laid old (Nat.le_refl _) ⟨Nat.zero_le _, [], 0, .nil, hacc⟩
  have I4 : ∀ tk, Inv X' [] (compSt tgs caps σ) (upd H2 s2.heap.objs.size (.lst [])) { s2 with heap := h₁, toks := tk } := fun tk => by
    refine ⟨ok', rfl, I2.bare, un4, ⟨_, hns₁, fun i x v e1 e2 e3 => ?_⟩, fun x c hx => ?_, ?_, fun x c hx => ?_, fun q hq => ?_, hok4, ?_⟩
    · -- a captured name
      obtain ⟨m2, _, hl2⟩ := I2.loc
      have hlt : tgs.length ≤ i := by
        rcases Nat.lt_or_ge i tgs.length with z | z
        · have : (compSt tgs caps σ)[i]? = some none := by
            unfold compSt
            rw [List.getElem?_append_left (by simpa using z), List.getElem?_replicate, if_pos z]
          rw [this] at e2
          cases e2
        · exact z
      have e1' : (tgs ++ caps.map (·.2))[i]? = some x := e1
      rw [List.getElem?_append_right hlt, List.getElem?_map] at e1'
      have e2' : (caps.map fun p => (σ[p.1]?).join)[i - tgs.length]? = some (some v) := by
        have : (compSt tgs caps σ)[i]? = (caps.map fun p => (σ[p.1]?).join)[i - tgs.length]? := by
          unfold compSt
          rw [List.getElem?_append_right (by simpa using hlt), List.length_replicate]
        rw [← this]
        exact e2
      rw [List.getElem?_map] at e2'
      cases hq : caps[i - tgs.length]? with
      | none => rw [hq] at e1'; cases e1'
      | some q =>
        rw [hq] at e1' e2'
        obtain rfl : q.2 = x := Option.some.inj e1'
        have e2'' : (σ[q.1]?).join = some v := Option.some.inj e2'
        have hσ : σ[q.1]? = some (some v) := by
          cases z : σ[q.1]? with
          | none => rw [z] at e2''; cases e2''
          | some y => rw [z] at e2''; exact congrArg some e2''
        have hqm : q ∈ caps := List.mem_of_getElem? hq
        obtain ⟨n1, n2⟩ := capAt q hqm
        have hvis : Vis X.env.scope q.2 := by
          rcases n2 with z | z
          · exact .inr (.inl z)
          · exact .inr (.inr z)
        obtain ⟨u, ru, lk⟩ := hl2 q.1 q.2 v n1 hσ hvis
        have hfree : scope.names.lookup q.2 = some .free := k5 q.2 (List.mem_map_of_mem hqm)
        refine ⟨u, ru, .inr ⟨relabel_free hfree, ?_⟩⟩
        rcases lk with ⟨z, _⟩ | ⟨_, c, hcc, oc, hoc, hocd⟩
        · rcases n2 with y | y <;> (rw [y] at z; cases z)
        · obtain ⟨c', hc'⟩ := hall (q.2, .free) (mem_lookup_free hfree) rfl
          have := hin _ _ hc'
          rw [hcc] at this
          cases this
          exact ⟨c, hc', oc, old _ _ hoc, hocd⟩
    · obtain ⟨v, o, ho, hd⟩ := I2.cell x c (hin _ _ hx)
      exact ⟨v, o, old _ _ ho, hd⟩
    · show upd H2 s2.heap.objs.size (.lst []) H3.objs.size = none
      rw [upd_ne (Ne.symm hDC)]
      exact fC
    · have hcf := I2.freeC x c (hin _ _ hx)
      obtain ⟨v, o, ho, hd⟩ := I2.cell x c (hin _ _ hx)
      rw [upd_ne (Nat.ne_of_lt (Heap.lt_size ho))]
      exact hcf
    · have : q ∈ ([] : List (Addr × Obj)) := hq
      cases this
    · show (compSt tgs caps σ).length = (tgs ++ caps.map (·.2)).length
      simp [compSt]
  have stat : ∀ {pins' : List (Addr × Obj)} {H' : Hp}, (∀ b ∈ fp, H' b = none) → (∀ q ∈ pins', q.1 ∉ fp) → ∀ b ∈ fp, FpOk X' pins' H' b := fun hn hp b hb =>
    ⟨hn b hb, below b (fpl b hb), fun z => by
      rcases List.mem_cons.mp (I2.stkSub b z) with q | q
      · exact (f2 b hb).2.1 q
      · exact (f2 b hb).2.2.1 q, .inl hb, fun x c hx => (f2 b hb).2.2.2.2.1 x c (hin _ _ hx), fun q hq z => hp q hq (z ▸ hb)⟩
  have noPin : ∀ q ∈ ([] : List (Addr × Obj)), q.1 ∉ fp := fun _ z => nomatch z
  have tn0 : tn 0 h₁ := T.keep _ _ _ st2 fun b hb o e => old b o e
  have fr0 : ∀ b ∈ fp, (upd H2 s2.heap.objs.size (.lst [])) b = none := fun b hb => by
    rw [upd_ne (Nat.ne_of_lt (fpl b hb))]
    exact (f2 b hb).1
  have loop : ∀ s₃ : Shared, s₃ = { s2 with heap := h₁, toks := s2.toks + ([] : List (Str × Value)).length } →
      codeAny (model X.prog X.w) X.A (.compLoop (.ListComp elt [⟨target, iter, ifs, 0⟩] scope pos) 0 (.ref it) (.ref s2.heap.objs.size) (compEnvC scope cl H3.objs.size X.env))
        (compPost (model X.prog X.w) X.A X.xe use Qf (.ref s2.heap.objs.size) H3.objs.size) s₃ := by
    rintro s₃ rfl
    refine compLoop_gen (fun n s' => ∃ i σ' H', Inv X' [] σ' H' s' ∧ tn i s'.heap ∧ (∀ b ∈ fp, H' b = none) ∧ W i n σ' H') ?_ m0 ⟨0, _, _, I4 _, tn0, fr0, w0⟩
    rintro n s3 ⟨i, σ3, H3', I3, st3, fr3, w3⟩
    rcases turn i n σ3 H3' w3 with ⟨stop, qn⟩ | ⟨go, step⟩
    · refine thn (T.done X' rfl rfl rfl hc i [] s3 σ3 H3' _ I3 (stat fr3 noPin) st3 stop) fun r s4 ⟨hr, I4'⟩ => ?_
      subst hr
      have un := I4'.base
      refine fin _ _ H3' s4 (I2.call' I4'.os un I4'.hok I4'.bare fun b hb => ?_) qn I4'.free ?_ (Nat.le_trans I2.sz hCle) ?_ ?_ ?_
      · exact ⟨(f2 b hb).2.2.2.1, (f2 b hb).2.1, (f2 b hb).2.2.2.2.1, (f2 b hb).2.2.2.2.2⟩
      · exact Ne.symm (below _ I2.lt)
      · intro x c hx
        obtain ⟨v, o, ho, hd⟩ := I2.cell x c hx
        exact below c (Heap.lt_size ho)
      · intro q hq
        obtain ⟨e, _⟩ := I2.pin q hq
        exact below _ (Heap.lt_size e)
      · obtain ⟨m, hm, _⟩ := I4'.loc
        exact ⟨m, hm⟩
    · refine thn (T.item X' rfl rfl rfl hc i [] s3 σ3 H3' _ I3 (stat fr3 noPin) st3 go) fun r s4 ⟨u, hr, h4⟩ => ?_
      subst hr
      refine thn h4 fun _ s5 ⟨x, H5, I5, r5, y5, st5, fr5⟩ => ?_
      have I5' := I5.pinned (stat fr5 noPin) (T.obj _ _ st5)
      refine wpAny_mono (hg _ _ _ _ _ _ s5 σ3 H5 x u _ I5' r5 (step x H5 y5)) (fun _ s6 ⟨σ6, H6, I6, q6⟩ => ?_) fun _ _ z => z.elim
      have again : ∀ {σ7 : St} {H7 : Hp} {s7 : Shared} {m' : Nat}, Inv X' ([] ++ pinsAt fp s5.heap) σ7 H7 s7 → m' < n → W (i + 1) m' σ7 H7 → ∃ m, m < n ∧ ∃ i σ' H', Inv X' [] σ' H' s7 ∧ tn i s7.heap ∧ (∀ b ∈ fp, H' b = none) ∧ W i m σ' H' := fun {σ7 H7 s7 m'} I7 hm w7 => by
        refine ⟨m', hm, i + 1, σ7, H7, I7.unpinned, T.keep _ _ _ st5 fun b hb o e => (I7.pin (b, o) (List.mem_append_right _ (List.mem_append_right _ (mem_pinsAt hb e)))).1, fun b hb => ?_, w7⟩
        obtain ⟨o, e, d⟩ := T.obj _ _ st5 b hb
        exact (I7.pin (b, o) (List.mem_append_right _ (List.mem_append_right _ (mem_pinsAt hb e)))).2.1
      refine wpAny_mono (ht _ _ _ _ _ _ s6 σ6 H6 _ I6 q6) (fun ok s7 ⟨H7, I7, q7⟩ => ?_) fun _ _ z => z.elim
      cases ok with
      | false =>
        obtain ⟨m', hm, w7⟩ := q7
        exact again I7 hm w7
      | true =>
        refine wpAny_mono (he _ _ _ _ _ _ s7 σ6 H7 _ I7 q7) (fun yv s8 ⟨y, H8, I8, r8, q8⟩ => ?_) fun _ _ z => z.elim
        obtain ⟨xs, m', hD, hz, hm, w8⟩ := q8
        refine wpAny_mono (mt_append (X := X') _ s8 σ6 H8 (.ref s2.heap.objs.size) [y] (.ref s2.heap.objs.size) [yv] (fun _ H9 => W (i + 1) m' σ6 H9) I8 rfl (.cons r8 .nil) ⟨_, xs, y, rfl, rfl, hD, hz, w8⟩) (fun _ s9 ⟨_, H9, I9, _, q9⟩ => ?_) fun _ _ z => z.elim
        exact again I9 hm q9
  exact codeAny_compStart_list (loop _ rfl) (T.self _ 0 _ _ _ tn0 (loop _ rfl))
/-- what a block's rule may hang on -/
abbrev BK (α : Type) := List (Str × Addr) → Addr → Shared → Hp → List Addr → α
/-- [elt for target in iter if test] -/
theorem pe_comp {g : BK TG} {tc : BK TT} {te : BK TE} (tgs : List Str) (caps : List (Nat × Str)) (hc : X.calm = true) (hsc : compScopeOk scope (caps.map (·.2)) = true) (hcap : CapsOk X caps) (hi : PI X target iter wi)
    (hg : ∀ cl C s2 H2 fp, PG (cxComp X scope cl C (tgs ++ caps.map (·.2)) s2 H2 fp) target (g cl C s2 H2 fp))
    (ht : ∀ cl C s2 H2 fp, PTs (cxComp X scope cl C (tgs ++ caps.map (·.2)) s2 H2 fp) ifs (tc cl C s2 H2 fp))
    (he : ∀ cl C s2 H2 fp, PE (cxComp X scope cl C (tgs ++ caps.map (·.2)) s2 H2 fp) elt (te cl C s2 H2 fp))
    (eg : ∀ cl C s2 H2 fp, g cl C s2 H2 fp = g [] 0 X.s₀ X.H₀ [] := by intros; rfl) (et : ∀ cl C s2 H2 fp, tc cl C s2 H2 fp = tc [] 0 X.s₀ X.H₀ [] := by intros; rfl) (ee : ∀ cl C s2 H2 fp, te cl C s2 H2 fp = te [] 0 X.s₀ X.H₀ [] := by intros; rfl)
    (hs : ∀ x, foldedSetIterable iter X.env x = pure x := by intro _; rfl) :
    PE X (.ListComp elt [⟨target, iter, ifs, 0⟩] scope pos) (tComp wi (g [] 0 X.s₀ X.H₀ []) (tc [] 0 X.s₀ X.H₀ []) (te [] 0 X.s₀ X.H₀ []) (compSt tgs caps)) := by
  intro pins s σ H Q I h
  rw [eval_ListComp]
  refine comp_core (use := none) hc hsc hcap hi (fun cl C s2 H2 fp => eg cl C s2 H2 fp ▸ hg cl C s2 H2 fp) (fun cl C s2 H2 fp => et cl C s2 H2 fp ▸ ht cl C s2 H2 fp) (fun cl C s2 H2 fp => ee cl C s2 H2 fp ▸ he cl C s2 H2 fp) I h (fun D C H' s' I' q hC h1 h2 h3 h4 ⟨m, hm⟩ => ?_) hs
  refine ⟨m, hm, fun h' hsb => ?_⟩
  exact ⟨.ref D, H', I'.turned (t' := s'.toks) (fun b o hb e => hsb.extBut b o hb e) hC h1 (.inr h2) h3 h4, rfl, q⟩
end
end L2

end

section
namespace L2
open PySem PySem.Spec PyProof.Rows
/-! ### what is no longer asked may be forgotten -/
def OwnIn (H : Hp) (a : Addr) : HO → Prop
  | .ins _ dx _ => H dx = some (.own a)
  | .frz _ u => OwnIn H a u
  | _ => True
def Closed (H : Hp) : Prop := ∀ a o, H a = some o → OwnIn H a o
theorem OwnIn.of {P : Program} {w : World} {H : Hp} {h : Heap} {a : Addr} {o : HO} (x : ObjOk P w H h a o) : OwnIn H a o := by
  induction o with
  | ins C dx fs => exact x.1
  | frz ob u ih => exact ih x.2
  | _ => trivial
theorem HOk.closed {P : Program} {w : World} {H : Hp} {h : Heap} (x : HOk P w H h) : Closed H := fun a o e => OwnIn.of (x a o e)
theorem OwnIn.mono {H H' : Hp} {a : Addr} {o : HO} (s : ∀ b u, H b = some u → H' b = some u) (x : OwnIn H a o) : OwnIn H' a o := by
  induction o with
  | ins C dx fs => exact s _ _ x
  | frz ob u ih => exact ih x
  | _ => trivial
theorem ObjOk.sub {P : Program} {w : World} {H H' : Hp} {h : Heap} {a : Addr} {o : HO} (x : ObjOk P w H' h a o) (ow : OwnIn H a o) : ObjOk P w H h a o := by
  induction o with
  | ins C dx fs => exact ⟨ow, x.2⟩
  | frz ob u ih => exact ⟨x.1, ih x.2 ow⟩
  | lst _ => exact x
  | tup _ => exact x
  | dK _ => exact x
  | dT _ => exact x
  | set _ _ => exact x
  | own _ => exact x
  | xd _ => exact x
  | met _ _ => exact x
  | rng _ _ => exact x
  | tbl _ => exact x
  | ext _ => exact x
/-- from H on, H' was reached; of it H'' is still asked -/
structure Sub (H H'' H' : Hp) : Prop where
  le : Same H'' H'
  ge : ∀ b o, H b = some o → ∃ u, H'' b = some u
  cl : Closed H → Closed H''
theorem Sub.refl {H H' : Hp} (h : Same H H') : Sub H H H' := ⟨h, fun _ o e => ⟨o, e⟩, id⟩
theorem Sub.all {H H' : Hp} (h : ∀ b o, H b = some o → ∃ u, H' b = some u) (c : Closed H → Closed H') : Sub H H' H' := ⟨Same.refl _, h, c⟩
theorem same_new {H : Hp} {p : Addr} {o : HO} (h : H p = none) : Same H (upd H p o) := fun b u q => by rw [upd_ne (ne_of_none q h)]; exact q
theorem closed_new {H : Hp} {p : Addr} {o : HO} (c : Closed H) (h : H p = none) (ho : OwnIn (upd H p o) p o) : Closed (upd H p o) := fun a u e => by
  by_cases z : a = p
  · subst z; rw [upd_same] at e; cases e; exact ho
  · rw [upd_ne z] at e
    exact (c a u e).mono (same_new h)
theorem Sub.new {H H' : Hp} {p : Addr} {o : HO} (h : H p = none) (hs : Same H H') (e : H' p = some o) (ho : OwnIn (upd H p o) p o) : Sub H (upd H p o) H' :=
  ⟨fun b u q => by
    by_cases z : b = p
    · subst z; rw [upd_same] at q; cases q; exact e
    · rw [upd_ne z] at q; exact hs b u q, fun b u q => ⟨u, same_new h b u q⟩, fun c => closed_new c h ho⟩
theorem Sub.ins {H H' : Hp} {p C dx : Addr} {fs fs' : List (Str × V)} (h : H p = some (.ins C dx fs)) (hs : ∀ b u, b ≠ p → H b = some u → H' b = some u) (e : H' p = some (.ins C dx fs')) : Sub H (upd H p (.ins C dx fs')) H' :=
  ⟨fun b u q => by
    by_cases z : b = p
    · subst z; rw [upd_same] at q; cases q; exact e
    · rw [upd_ne z] at q; exact hs b u z q, fun b u q => by
    by_cases z : b = p
    · subst z; exact ⟨_, upd_same⟩
    · exact ⟨u, by rw [upd_ne z]; exact q⟩, fun c a u q => by
    have hd : H dx = some (.own p) := c p _ h
    have nd : dx ≠ p := fun z => by rw [z, h] at hd; cases hd
    by_cases z : a = p
    · subst z; rw [upd_same] at q; cases q
      show upd H a _ dx = _
      rw [upd_ne nd]; exact hd
    · rw [upd_ne z] at q
      have x := c a u q
      revert x
      generalize u = o
      clear q
      induction o with
      | ins C' d' f' =>
        intro (x : H d' = some (.own a))
        show upd H p _ d' = _
        rw [upd_ne (fun y => by rw [y, h] at x; cases x)]; exact x
      | frz ob u ih => intro x; exact ih x
      | _ => intro _; trivial⟩
section
variable {X : Cx} {pins : List (Addr × Obj)} {σ : St} {H H' H'' : Hp} {s s0 : Shared}
theorem Un.sub {fs ex : List Addr} {H0 : Hp} {h h1 h2 : Heap} (u0 : Un fs ex H0 H h h1) (u : Un fs ex H0 H' h h2) (d : Sub H H'' H') : Un fs ex H0 H'' h h2 := by
  refine ⟨u.keep, u.slot, fun b o e n hx => ?_, u.there, fun b xs e => ?_, fun b o v e => ?_, fun b ps e => ?_⟩
  · cases q : H'' b with
    | none => rfl
    | some v => have := d.le b v q; rw [u.free b o e n hx] at this; cases this
  · obtain ⟨v, hv⟩ := d.ge b _ (u0.tups b xs e)
    have := d.le b v hv; rw [u.tups b xs e] at this; cases this; exact hv
  · obtain ⟨z, hv⟩ := d.ge b _ (u0.frzs b o v e)
    have := d.le b z hv; rw [u.frzs b o v e] at this; cases this; exact hv
  · obtain ⟨m0, e0⟩ := u0.tbls b ps e
    obtain ⟨z, hv⟩ := d.ge b _ e0
    obtain ⟨m, e1⟩ := u.tbls b ps e
    have := d.le b z hv; rw [e1] at this; cases this; exact ⟨m, hv⟩
theorem HOk.sub {P : Program} {w : World} {h : Heap} (x : HOk P w H' h) (c : Closed H'') (d : Same H'' H') : HOk P w H'' h := fun a o e => (x a o (d a o e)).sub (c a o e)
theorem Same.none_of {H1 H2 : Hp} (d : Same H1 H2) {b : Addr} (n : H2 b = none) : H1 b = none := d.free n
theorem Inv.sub {σ0 : St} (I0 : Inv X pins σ0 H s0) (I : Inv X pins σ H' s) (d : Sub H H'' H') : Inv X pins σ H'' s :=
  ⟨I.ok, I.os, I.bare, I0.base.sub I.base d, I.loc, I.cell, d.le.free I.free, fun x c e => d.le.free (I.freeC x c e),
    fun p hp => let ⟨a, b, c⟩ := I.pin p hp; ⟨a, d.le.free b, c⟩, I.hok.sub (d.cl I0.hok.closed) d.le, I.len⟩
/-- .. behind which all is as it was -/
def tQuiet (t : TE) : TE := fun σ H Q => t σ H fun v H' => Same H H' ∧ Q v H
theorem pe_quiet {e : Expr} {t : TE} (h : PE X e t) : PE X e (tQuiet t) := fun pins s σ H Q I q =>
  thn (h pins s σ H _ I q) fun u s' ⟨v, H', I', r, d, q'⟩ => ⟨v, H, I.sub I' (.refl d), r, q'⟩
theorem SP.sub {D : Ends} {f : Flow} {s' : Shared} (I : Inv X pins σ H s)
    (h : SP X pins { nx := fun σ' H' => ∃ H'', Sub H H'' H' ∧ D.nx σ' H'', rt := fun v H' => ∃ H'', Sub H H'' H' ∧ D.rt v H'', bk := fun σ' H' => ∃ H'', Sub H H'' H' ∧ D.bk σ' H'', ct := fun σ' H' => ∃ H'', Sub H H'' H' ∧ D.ct σ' H'' } f s') : SP X pins D f s' := by
  cases f with
  | next => obtain ⟨σ', H', I', H'', d, q⟩ := h; exact ⟨σ', H'', I.sub I' d, q⟩
  | brk => obtain ⟨σ', H', I', H'', d, q⟩ := h; exact ⟨σ', H'', I.sub I' d, q⟩
  | cont => obtain ⟨σ', H', I', H'', d, q⟩ := h; exact ⟨σ', H'', I.sub I' d, q⟩
  | ret u => obtain ⟨v, σ', H', I', r, H'', d, q⟩ := h; exact ⟨v, σ', H'', I.sub I' d, r, q⟩
end
/-- a def's promise, less asked behind it -/
theorem FnOk.keep {P : Program} {w : World} {K : PySem.W.Frag} {mg : Str → Option Value} {base : Heap} {k : Nat} {f : Addr} {fd : FuncData} {ps : List Str} {sp sp' : Sp} (F : FnOk P w K mg base CX0 k f fd ps sp)
    (h : ∀ vs H Q E, sp' vs H Q E → sp vs H (fun v H' => ∃ H'', Sub H H'' H' ∧ Q v H'') E) : FnOk P w K mg base CX0 k f fd ps sp' := by
  refine ⟨fun vs H Q E q => F.len vs H _ E (h vs H Q E q), fun A outer s H args us vs Q E hr e0 hb r q => codeAny_mono (F.run A outer s H args us vs _ E hr e0 hb r (h vs H Q E q)) fun rs s' c => ?_⟩
  cases rs with
  | error e => exact c
  | ok fl =>
    cases fl with
    | ret u =>
      obtain ⟨v, H', os, bare, un, hok, rv, H'', d, q'⟩ := c
      exact ⟨v, H'', os, bare, Un.sub (Un.refl (h := s.heap)) un d, hok.sub (d.cl e0.hok.closed) d.le, rv, q'⟩
    | next => exact c
    | brk => exact c
    | cont => exact c
/-- THE RULE for a def without refusals: its body as a term of rules, the reading of that term, less asked behind it -/
theorem Fun.okK {P : Program} {w : World} {K : PySem.W.Frag} {mg : Str → Option Value} {base : Heap} {x qual : Str} {st : Stmt} {f : Addr} {fd : FuncData} {N ps : List Str} {k : Nat} {sp : Sp} (F : Fun K x qual st f fd) (S : FnScope N ps (defScope st)) (len : ∀ vs H Q E, sp vs H Q E → vs.length = ps.length)
    (hbody : ∀ (cdv : Value) (A : Around) (outer : List Env) (s : Shared) (H : Hp) (vs : List V) (Q : VK) (E : XK), Room k (A.deeper (envOfC qual (defScope st) s.heap.objs.size f cdv)) → sp vs H Q E →
      ∃ t, PSs (cxOf CX0 P w K mg base N qual (defScope st) f cdv A outer s H E).nox (defBody st) t ∧ t { nx := fun _ H' => ∃ H'', Sub H H'' H' ∧ Q .non H'', rt := fun v H' => ∃ H'', Sub H H'' H' ∧ Q v H'' } (start N vs) H) : FnOk P w K mg base CX0 (k + 1) f fd ps sp :=
  (F.ok (sp := fun vs H Q E => ∃ Q', Q = (fun v H' => ∃ H'', Sub H H'' H' ∧ Q' v H'') ∧ sp vs H Q' E) S (fun vs H Q E ⟨Q', _, h⟩ => len vs H Q' E h) (fun cdv A outer s H vs Q E hr ⟨Q', e, h⟩ => by
    subst e
    exact hbody cdv A outer s H vs Q' E hr h)).keep fun vs H Q E h => ⟨Q, rfl, h⟩
end L2

end

section
namespace KM
/-! bits, the higher ones first -/
def bitsW (n : Nat) : Nat → List Bool
  | 0 => []
  | w + 1 => n.testBit w :: bitsW n w
def blen (n : Nat) : Nat := if n = 0 then 0 else n.log2 + 1
def digs (n : Nat) : List Bool := bitsW n (blen n)
theorem bitsW_length (n w : Nat) : (bitsW n w).length = w := by
  induction w with
  | zero => rfl
  | succ w ih => simp [bitsW, ih]
theorem digs_length (n : Nat) : (digs n).length = blen n := bitsW_length _ _
theorem blen_lt (n : Nat) : n < 2 ^ blen n := by
  unfold blen
  split
  · omega
  · exact Nat.lt_log2_self
theorem blen_le {n w : Nat} (h : n < 2 ^ w) : blen n ≤ w := by
  unfold blen
  split
  · omega
  · rename_i h0
    exact (Nat.log2_lt h0).mpr h
theorem blen_pos {n : Nat} (h : n ≠ 0) : 0 < blen n := by unfold blen; rw [if_neg h]; omega
theorem blen_ge {n : Nat} (h : n ≠ 0) : 2 ^ (blen n - 1) ≤ n := by
  unfold blen; rw [if_neg h]; exact Nat.log2_self_le h
theorem blen_eq {n k : Nat} (h1 : 2 ^ k ≤ n) (h2 : n < 2 ^ (k + 1)) : blen n = k + 1 := by
  have h0 : n ≠ 0 := by have : 0 < 2 ^ k := Nat.two_pow_pos k; omega
  have a := blen_le h2
  have b := blen_lt n
  have : ¬ blen n ≤ k := fun q => by
    have := Nat.pow_le_pow_right (n := 2) (by decide) q
    omega
  omega
theorem testBit_last (n : Nat) (b : Bool) : (2 * n + b.toNat).testBit 0 = b := by
  cases b <;> simp [Nat.testBit_zero] <;> omega
theorem testBit_up (n k : Nat) (b : Bool) : (2 * n + b.toNat).testBit (k + 1) = n.testBit k := by
  rw [Nat.testBit_succ]
  congr 1
  cases b <;> simp <;> omega
theorem bitsW_snoc (n w : Nat) (b : Bool) : bitsW (2 * n + b.toNat) (w + 1) = bitsW n w ++ [b] := by
  induction w with
  | zero => simp only [bitsW, List.nil_append, testBit_last]
  | succ w ih =>
    rw [bitsW, ih, testBit_up]
    rfl
theorem blen_twice {n : Nat} (h : n ≠ 0) (b : Bool) : blen (2 * n + b.toNat) = blen n + 1 := by
  have h1 := blen_ge h
  have h2 := blen_lt n
  have h3 := blen_pos h
  obtain ⟨k, e⟩ : ∃ k, blen n = k + 1 := ⟨blen n - 1, by omega⟩
  rw [e] at h1 h2 ⊢
  have hb : b.toNat ≤ 1 := by cases b <;> simp
  have h1' : 2 ^ k ≤ n := h1
  have e1 : 2 ^ (k + 1) = 2 ^ k * 2 := Nat.pow_succ ..
  have e2 : 2 ^ (k + 1 + 1) = 2 ^ (k + 1) * 2 := Nat.pow_succ ..
  exact blen_eq (k := k + 1) (by omega) (by omega)
theorem digs_snoc {n : Nat} (h : n ≠ 0) (b : Bool) : digs (2 * n + b.toNat) = digs n ++ [b] := by
  unfold digs; rw [blen_twice h, bitsW_snoc]
theorem digs_zero : digs 0 = [] := rfl
/-- one turn of the digits' loop -/
theorem digs_step {n : Nat} (h : n ≠ 0) : digs n = digs (n / 2) ++ [decide (n % 2 = 1)] := by
  have e : n = 2 * (n / 2) + (decide (n % 2 = 1)).toNat := by
    by_cases q : n % 2 = 1
    · simp [q]; omega
    · simp [q]; omega
  by_cases h0 : n / 2 = 0
  · have : n = 1 := by omega
    subst this
    decide
  · conv => lhs; rw [e]
    exact digs_snoc h0 _
/-- reading: from a on -/
def rd (a : Nat) (l : List Bool) : Nat := l.foldl (fun x b => 2 * x + b.toNat) a
theorem rd_nil (a : Nat) : rd a [] = a := rfl
theorem rd_cons (a : Nat) (b : Bool) (l : List Bool) : rd a (b :: l) = rd (2 * a + b.toNat) l := rfl
theorem rd_append (a : Nat) (l m : List Bool) : rd a (l ++ m) = rd (rd a l) m := by simp [rd, List.foldl_append]
theorem rd_bits (a n w : Nat) : rd a (bitsW n w) = a * 2 ^ w + n % 2 ^ w := by
  induction w generalizing a with
  | zero => simp [bitsW, rd, Nat.mod_one]
  | succ w ih =>
    rw [bitsW, rd_cons, ih]
    have h : n % 2 ^ (w + 1) = (n.testBit w).toNat * 2 ^ w + n % 2 ^ w := by
      rw [Nat.pow_succ, Nat.mod_mul, Nat.testBit_eq_decide_div_mod_eq, Nat.add_comm, Nat.mul_comm]
      congr 1
      have : n / 2 ^ w % 2 < 2 := Nat.mod_lt _ (by decide)
      by_cases q : n / 2 ^ w % 2 = 1
      · simp [q]
      · have : n / 2 ^ w % 2 = 0 := by omega
        simp [this]
    rw [h, Nat.pow_succ, Nat.add_mul]
    have e : 2 * a * 2 ^ w = a * (2 ^ w * 2) := by rw [Nat.mul_comm 2 a, Nat.mul_assoc, Nat.mul_comm 2 (2 ^ w)]
    omega
theorem rd_top {n : Nat} (h : n ≠ 0) : rd 1 (bitsW n (blen n - 1)) = n := by
  rw [rd_bits, Nat.one_mul]
  have h1 := blen_ge h
  have h2 := blen_lt n
  have h3 := blen_pos h
  have e : 2 ^ blen n = 2 ^ (blen n - 1) * 2 := by rw [← Nat.pow_succ]; congr 1; omega
  have : n % 2 ^ (blen n - 1) = n - 2 ^ (blen n - 1) := by
    rw [Nat.mod_eq_sub_mod h1, Nat.mod_eq_of_lt (by omega)]
  omega
theorem digs_tail {n : Nat} (h : n ≠ 0) : (digs n).tail = bitsW n (blen n - 1) := by
  unfold digs
  have := blen_pos h
  obtain ⟨k, e⟩ : ∃ k, blen n = k + 1 := ⟨blen n - 1, by omega⟩
  rw [e]; rfl

/-! order: at the first place where they part the one has 0, the other 1 -/
def Sep (a b : List Bool) : Prop := ∃ c x y, a = c ++ false :: x ∧ b = c ++ true :: y
theorem Sep.pre (p : List Bool) {a b : List Bool} (h : Sep a b) : Sep (p ++ a) (p ++ b) := by
  obtain ⟨c, x, y, rfl, rfl⟩ := h
  exact ⟨p ++ c, x, y, by simp, by simp⟩
theorem Sep.post {a b : List Bool} (h : Sep a b) (u v : List Bool) : Sep (a ++ u) (b ++ v) := by
  obtain ⟨c, x, y, rfl, rfl⟩ := h
  exact ⟨c, x ++ u, y ++ v, by simp, by simp⟩
theorem Sep.turn {a b : List Bool} (h : Sep a b) : Sep (b.map (!·)) (a.map (!·)) := by
  obtain ⟨c, x, y, rfl, rfl⟩ := h
  exact ⟨c.map (!·), y.map (!·), x.map (!·), by simp, by simp⟩
theorem Sep.np {a b : List Bool} (h : Sep a b) : ¬ a <+: b := by
  obtain ⟨c, x, y, rfl, rfl⟩ := h
  rintro ⟨t, e⟩
  simp only [List.append_assoc] at e
  have := List.append_cancel_left e
  simp at this
/-! the row of a count -/
def cend (e : Nat) : List Bool := if e = 8 then [] else [false]
def cnt (n : Nat) : List Bool :=
  List.replicate (blen (blen (n + 1)) - 1) true ++ (cend (blen (blen (n + 1))) ++ (bitsW (blen (n + 1)) (blen (blen (n + 1)) - 1) ++ bitsW (n + 1) (blen (n + 1) - 1)))
theorem cnt_length {n : Nat} (h : n + 1 < 2 ^ 255) : (cnt n).length ≤ blen (n + 1) + 14 := by
  unfold cnt
  have hd : blen (n + 1) ≤ 255 := blen_le h
  have he : blen (blen (n + 1)) ≤ 8 := blen_le (by omega)
  have hq : 0 < blen (n + 1) := blen_pos (by omega)
  simp only [List.length_append, List.length_replicate, bitsW_length]
  have : (cend (blen (blen (n + 1)))).length ≤ if blen (blen (n + 1)) = 8 then 0 else 1 := by
    unfold cend; split <;> simp
  split at this <;> omega

/-! the row of a whole number -/
def whl (n : Int) : List Bool := if n < 0 then false :: (cnt (-1 - n).toNat).map (!·) else true :: cnt n.toNat
end KM
namespace KM
/-- where the parts of a count's row lie -/
structure CntAt (L : List Bool) (p n : Nat) : Prop where
  ones : ∀ j, j < blen (blen (n + 1)) - 1 → L.getD (p + j) false = true
  zero : blen (blen (n + 1)) < 8 → L.getD (p + (blen (blen (n + 1)) - 1)) false = false
  size : (L.drop (p + (blen (blen (n + 1)) - 1) + (cend (blen (blen (n + 1)))).length)).take (blen (blen (n + 1)) - 1) = bitsW (blen (n + 1)) (blen (blen (n + 1)) - 1)
  more : (L.drop (p + (blen (blen (n + 1)) - 1) + (cend (blen (blen (n + 1)))).length + (blen (blen (n + 1)) - 1))).take (blen (n + 1) - 1) = bitsW (n + 1) (blen (n + 1) - 1)
  fits : p + (cnt n).length ≤ L.length
theorem cnt_len (n : Nat) : (cnt n).length = (blen (blen (n + 1)) - 1) + (cend (blen (blen (n + 1)))).length + (blen (blen (n + 1)) - 1) + (blen (n + 1) - 1) := by
  unfold cnt
  simp only [List.length_append, List.length_replicate, bitsW_length]
  omega
theorem cnt_at {L : List Bool} {p n : Nat} (h : cnt n <+: L.drop p) (hp : p ≤ L.length) : CntAt L p n := by
  obtain ⟨r, e⟩ := h
  have hl := congrArg List.length e
  rw [List.length_append, List.length_drop] at hl
  have key : ∀ j, j < (cnt n).length → L.getD (p + j) false = (cnt n).getD j false := by
    intro j hj
    have : (L.drop p)[j]? = (cnt n)[j]? := by rw [← e, List.getElem?_append_left hj]
    rw [List.getElem?_drop] at this
    rw [List.getD_eq_getElem?_getD, List.getD_eq_getElem?_getD, this]
  have cl := cnt_len n
  refine ⟨fun j hj => ?_, fun h8 => ?_, ?_, ?_, by omega⟩
  · rw [key j (by omega)]
    unfold cnt
    rw [List.getD_eq_getElem?_getD, List.getElem?_append_left (by simpa using hj), List.getElem?_replicate, if_pos hj]; rfl
  · have c1 : (cend (blen (blen (n + 1)))) = [false] := by unfold cend; rw [if_neg (by omega)]
    rw [key _ (by rw [cl, c1]; simp only [List.length_cons, List.length_nil]; omega)]
    unfold cnt
    rw [c1, List.getD_eq_getElem?_getD, List.getElem?_append_right (by simp)]
    simp
  · have : L.drop (p + (blen (blen (n + 1)) - 1) + (cend (blen (blen (n + 1)))).length) = bitsW (blen (n + 1)) (blen (blen (n + 1)) - 1) ++ bitsW (n + 1) (blen (n + 1) - 1) ++ r := by
      rw [Nat.add_assoc, ← List.drop_drop, ← e]
      unfold cnt
      rw [← List.append_assoc, ← List.append_assoc, List.append_assoc (List.replicate _ _ ++ _), List.append_assoc (List.replicate _ _ ++ _)]
      have : (blen (blen (n + 1)) - 1) + (cend (blen (blen (n + 1)))).length = (List.replicate (blen (blen (n + 1)) - 1) true ++ cend (blen (blen (n + 1)))).length := by simp
      rw [this, List.drop_left]
    rw [this, List.append_assoc, List.take_left' (bitsW_length _ _)]
  · have : L.drop (p + (blen (blen (n + 1)) - 1) + (cend (blen (blen (n + 1)))).length + (blen (blen (n + 1)) - 1)) = bitsW (n + 1) (blen (n + 1) - 1) ++ r := by
      rw [Nat.add_assoc, Nat.add_assoc, ← List.drop_drop, ← e]
      unfold cnt
      have e2 : (List.replicate (blen (blen (n + 1)) - 1) true ++ (cend (blen (blen (n + 1))) ++ (bitsW (blen (n + 1)) (blen (blen (n + 1)) - 1) ++ bitsW (n + 1) (blen (n + 1) - 1)))) ++ r = (List.replicate (blen (blen (n + 1)) - 1) true ++ cend (blen (blen (n + 1))) ++ bitsW (blen (n + 1)) (blen (blen (n + 1)) - 1)) ++ (bitsW (n + 1) (blen (n + 1) - 1) ++ r) := by simp
      rw [e2]
      have : (blen (blen (n + 1)) - 1) + ((cend (blen (blen (n + 1)))).length + (blen (blen (n + 1)) - 1)) = (List.replicate (blen (blen (n + 1)) - 1) true ++ cend (blen (blen (n + 1))) ++ bitsW (blen (n + 1)) (blen (blen (n + 1)) - 1)).length := by simp [bitsW_length, Nat.add_assoc]
      rw [this, List.drop_left]
    rw [this, List.take_left' (bitsW_length _ _)]
end KM

end

section
namespace KM
open PySem L2
/-! ### rows as texts -/
def bc (b : Bool) : Nat := if b then 49 else 48
def rowS (l : List Bool) : Str := ⟨(l.map bc).toArray⟩
theorem str_ext {a b : Str} (h : a.cps.toList = b.cps.toList) : a = b := by
  obtain ⟨x⟩ := a; obtain ⟨y⟩ := b
  exact congrArg Str.mk (Array.ext' h)
theorem rowS_cps (l : List Bool) : (rowS l).cps.toList = l.map bc := by simp [rowS]
theorem rowS_length (l : List Bool) : (rowS l).length = l.length := by simp [rowS, Str.length]
theorem bc_inj {a b : Bool} (h : bc a = bc b) : a = b := by cases a <;> cases b <;> first | rfl | (revert h; decide)
theorem rowS_inj {a b : List Bool} (h : rowS a = rowS b) : a = b := by
  have := congrArg (fun x : Str => x.cps.toList) h
  simp only [rowS_cps] at this
  exact List.map_inj_right (fun _ _ => bc_inj) |>.mp this
theorem rowS_append (a b : List Bool) : rowS a ++ rowS b = rowS (a ++ b) := by
  apply str_ext
  show ((rowS a).cps ++ (rowS b).cps).toList = _
  rw [Array.toList_append, rowS_cps, rowS_cps, rowS_cps, List.map_append]
theorem s1 : (Str.ofString "1") = rowS [true] := by decide +kernel
theorem s0 : (Str.ofString "0") = rowS [false] := by decide +kernel
theorem sE : (Str.ofString "") = rowS [] := by decide +kernel
theorem rowS_dec (a b : List Bool) : decide (V.str (rowS a) = V.str (rowS b)) = decide (a = b) := by
  by_cases h : a = b
  · subst h; simp
  · have : ¬ V.str (rowS a) = V.str (rowS b) := fun q => h (rowS_inj (V.str.inj q))
    rw [decide_eq_false h, decide_eq_false this]
/-! joined, cut -/
theorem join_nil_cps : ∀ ys : List Str, (Txt.join (Str.ofString "") ys).cps.toList = (ys.map (·.cps.toList)).flatten := by
  have e : (Str.ofString "").cps = #[] := by decide +kernel
  have key : ∀ (ys : List Str) (acc : Array Nat), (ys.foldl (fun acc p => acc ++ (Str.ofString "").cps ++ p.cps) acc).toList = acc.toList ++ (ys.map (·.cps.toList)).flatten := by
    intro ys
    induction ys with
    | nil => intro acc; simp
    | cons y r ih => intro acc; rw [List.foldl_cons, ih, e]; simp
  intro ys
  cases ys with
  | nil => rfl
  | cons y r =>
    show ((r.foldl (fun acc p => acc ++ (Str.ofString "").cps ++ p.cps) y.cps)).toList = _
    rw [key]; simp
theorem join_rows (ls : List (List Bool)) : Txt.join (Str.ofString "") (ls.map rowS) = rowS ls.flatten := by
  apply str_ext
  rw [join_nil_cps, rowS_cps, List.map_map, List.map_flatten]
  exact congrArg List.flatten (List.map_congr_left fun l _ => rowS_cps l)
theorem flat_ones (l : List Bool) : (l.map fun b => [b]).flatten = l := by
  induction l with
  | nil => rfl
  | cons b r ih => rw [List.map_cons, List.flatten_cons, ih]; rfl
theorem join_bits (l : List Bool) : Txt.join (Str.ofString "") (l.map fun b => rowS [b]) = rowS l := by
  have := join_rows (l.map fun b => [b])
  rw [List.map_map] at this
  rw [show (fun b => rowS [b]) = rowS ∘ (fun b => [b]) from rfl, this]
  exact congrArg rowS (flat_ones l)
theorem mul_row (b : Bool) (n : Int) : Txt.mul (rowS [b]) n = rowS (List.replicate n.toNat b) := by
  unfold Txt.mul
  by_cases h : n < 1
  · rw [if_pos h, show n.toNat = 0 by omega]; rfl
  · rw [if_neg h]
    by_cases h1 : n = 1
    · subst h1; rfl
    · have : (n == 1 || (rowS [b]).length == 0) = false := by simp [rowS_length, h1]
      rw [this, if_neg (by decide)]
      apply str_ext
      have key : ∀ (k : Nat) (acc : Array Nat), ((List.replicate k (rowS [b]).cps).foldl (· ++ ·) acc).toList = acc.toList ++ (List.replicate k b).map bc := by
        intro k
        induction k with
        | zero => intro acc; simp
        | succ k ih => intro acc; rw [List.replicate_succ, List.foldl_cons, ih, List.replicate_succ]; simp [rowS]
      rw [rowS_cps]
      simpa using key n.toNat #[]
theorem sliceIx (lo hi : Option Int) (n : Nat) : Builtin.Str.strSliceIndices lo hi 1 n = (List.range (HT.sIx n n hi - HT.sIx n 0 lo)).map (HT.sIx n 0 lo + ·) := by
  unfold Builtin.Str.strSliceIndices
  rw [← sliceRange_one]
  simp only [show ((1 : Int) > 0) = True from eq_true (by decide), if_true]
  congr 1
  · cases lo with
    | none => rfl
    | some i =>
      simp only [HT.sIx]
      by_cases h : i < 0
      · simp only [h, if_true]; omega
      · simp only [h, if_false]; omega
  · cases hi with
    | none => rfl
    | some i =>
      simp only [HT.sIx]
      by_cases h : i < 0
      · simp only [h, if_true]; omega
      · simp only [h, if_false]; omega
theorem slice_cps (x : Str) (lo hi : Option Int) : (Txt.slice x lo hi).cps.toList = (x.cps.toList.drop (HT.sIx x.length 0 lo)).take (HT.sIx x.length x.length hi - HT.sIx x.length 0 lo) := by
  have hl : x.cps.toList.length = x.length := by simp [Str.length]
  have h1 := HT.sIx_le x.length x.length (Nat.le_refl _) hi
  have h2 := HT.sIx_le x.length 0 (Nat.zero_le _) lo
  unfold Txt.slice
  rw [sliceIx]
  split
  · rename_i c
    simp only [List.length_map, List.length_range, Bool.and_eq_true, beq_iff_eq] at c
    have a0 : HT.sIx x.length 0 lo = 0 ∨ x.length = 0 := by omega
    rcases a0 with a0 | a0
    · rw [a0, List.drop_zero, List.take_of_length_le (by omega)]
    · have : x.cps.toList = [] := List.length_eq_zero_iff.mp (by omega)
      rw [this]; simp
  · rw [pick_run]
theorem slice_row (l : List Bool) (lo hi : Option Int) : Txt.slice (rowS l) lo hi = rowS ((l.drop (HT.sIx l.length 0 lo)).take (HT.sIx l.length l.length hi - HT.sIx l.length 0 lo)) := by
  apply str_ext
  rw [slice_cps, rowS_cps, rowS_cps, rowS_length, List.map_take, List.map_drop]
theorem slice_tail (l : List Bool) : Txt.slice (rowS l) (some 1) none = rowS l.tail := by
  rw [slice_row]
  congr 1
  show (l.drop (min 1 l.length)).take (l.length - min 1 l.length) = l.tail
  cases l with
  | nil => rfl
  | cons b r => simp
/-! order -/
/-! one sign -/
theorem row_item {l : List Bool} {i : Nat} {b : Bool} (h : l[i]? = some b) : (rowS l).cps.toList[i]? = some (bc b) := by rw [rowS_cps, List.getElem?_map, h]; rfl
theorem sign_row (b : Bool) : (⟨#[bc b]⟩ : Str) = rowS [b] := rfl
theorem sign_int (b : Bool) : PySem.intText? (rowS [b]) = some (b.toNat : Int) := by cases b <;> decide +kernel
theorem bits_eq (n : Nat) : Builtin.Int.intBits ((n : Nat) : Int) = blen n := by
  unfold Builtin.Int.intBits blen
  by_cases h : n = 0
  · subst h; rfl
  · have : (((n : Nat) : Int) == 0) = false := by simpa using h
    rw [this, if_neg (by decide), if_neg h]
    simp
end KM
namespace KM
open PySem L2
theorem row_sign {l : List Bool} {i c : Nat} (h : (rowS l).cps[i]? = some c) : V.str ⟨#[c]⟩ = V.str (rowS [l.getD i false]) := by
  have h' : (rowS l).cps.toList[i]? = some c := by simpa using h
  rw [rowS_cps, List.getElem?_map] at h'
  rw [List.getD_eq_getElem?_getD]
  cases e : l[i]? with
  | none => rw [e] at h'; cases h'
  | some b =>
    rw [e] at h'
    have : bc b = c := Option.some.inj h'
    rw [← this]; rfl
end KM

end

section
namespace L2
open PySem PySem.Spec PyProof.Rows
/-! ### one rule for each operation, whatever it is given -/
section
variable {X : Cx}
def oAdd := OpR.or (op_add (X := X)) op_add_str
theorem oSub : OpR X (binaryOp .Sub) (rI0 fun i j => .int (i - j)) := op_sub
def oMul := OpR.or (op_mul (X := X)) op_mul_str
def oLt := OpR.or (op_lt (X := X)) op_lt_str
def iAll := IxR.or (IxR.or (ix_list (X := X)) ix_tup) ix_str
def slAll := SlR.or (sl_list (X := X)) sl_str
theorem PI.or {tg it : Expr} {wi wi' : TI} (h : PI X tg it wi) (h' : PI X tg it wi') : PI X tg it (fun σ H R => wi σ H R ∨ wi' σ H R) := fun pins s σ H R I q => q.elim (h pins s σ H R I) (h' pins s σ H R I)
theorem piAll {tg l : Expr} {tl : TE} (hl : PE X l tl) : PI X tg l (fun σ H R => iList X.K tl σ H R ∨ iStr tl σ H R) := (pi_list hl).or (pi_str hl)
end
/-! ### defs by name -/
/-- a def of the text stands at the top -/
def FunAt (K : PySem.W.Frag) (mg : Str → Option Value) (x : Str) (st : Stmt) (ps : List Str) (f : Addr) (fd : FuncData) : Prop := Fun K x x st f fd ∧ Binds K fd ps [] ∧ mg x = some (.ref f)
/-- a def keeps its promise -/
def DefOk (P : Program) (w : World) (K : PySem.W.Frag) (mg : Str → Option Value) (base : Heap) (k : Nat) (x : Str) (ps : List Str) (sp : Sp) : Prop :=
  ∃ f fd, FnOk P w K mg base CX0 k f fd ps sp ∧ Binds K fd ps [] ∧ PySem.W.keepIn K (.ref f) = true ∧ mg x = some (.ref f)
def MethOk (P : Program) (w : World) (K : PySem.W.Frag) (mg : Str → Option Value) (base : Heap) (k : Nat) (C : Addr) (m : Str) (ps : List Str) (sp : Sp) : Prop :=
  ∃ f fd, FnOk P w K mg base CX0 k f fd ps sp ∧ Binds K fd ps [] ∧ Meth K C m f
def MakeOk (P : Program) (w : World) (K : PySem.W.Frag) (mg : Str → Option Value) (base : Heap) (k : Nat) (x : Str) (C : Addr) (ps : List Str) (sp : Sp) : Prop :=
  ∃ f fd, Mk K C f ∧ FnOk P w K mg base CX0 k f fd ps sp ∧ Binds K fd ps [] ∧ mg x = some (.ref C)
def GlobV (mg : Str → Option Value) (x : Str) (v : V) : Prop := ∃ u, mg x = some u ∧ RelV v u
section
variable {X : Cx} {k k' : Nat} {x m : Str} {C : Addr} {ps : List Str} {sp : Sp} {e o : Expr} {es : List Expr} {t : TA} {ta : TE} {p pos apos : Pos} {v : V}
theorem pe_globV (h : GlobV X.mg x v) (hg : Gl X x := by rfl) (hd : (x == ("__debug__" : Str)) = false := by decide +kernel) : PE X (.Name x p) (tC v) := by
  obtain ⟨u, h1, h2⟩ := h
  exact pe_glob hg h1 h2 hd
theorem pe_callD (h : DefOk X.prog X.w X.K X.mg X.base k x ps sp) (hr : Room k' X.A) (ha : PA X (e :: es) t) (hk : k ≤ k' := by decide) (hg : Gl X x := by rfl) (hdb : (x == ("__debug__" : Str)) = false := by decide +kernel)
    (he : starEach (e :: es) X.env = (false, eval e X.env) :: starEach es X.env := by rfl) (hpl : (backTo pos (starEach es X.env)).any (·.1) = false := by rfl) : PE X (.Call (.Name x p) (e :: es) [] pos) (tCall sp [] E0 t) := by
  obtain ⟨f, fd, F, hb, kp, hm⟩ := h
  exact pe_call F (hr.mono hk) hg hm kp hb .nil pass0 ha hdb he hpl
theorem pe_methD {pl : Sem Bool} (h : MethOk X.prog X.w X.K X.mg X.base k C m ps sp) (c : Cls X.K C) (hr : Room k' X.A) (he : PE X o ta) (ha : PA X (e :: es) t) (hk : k ≤ k' := by decide)
    (hst : starEach (e :: es) X.env = (false, eval e X.env) :: starEach es X.env := by rfl) (hpl : (backTo pos (starEach es X.env)).any (·.1) = false := by rfl)
    (ht : eval (.Call (.Attribute o m apos) (e :: es) [] pos) X.env = (do
      let ov ← eval o X.env
      standAt apos.atName
      let (f, first) ← holding [ov] (getMethod ov m pl)
      callWith pos f first (backTo pos (starEach (e :: es) X.env)) (backToKw pos (keywordEach [] X.env))) := by rfl) :
    PE X (.Call (.Attribute o m apos) (e :: es) [] pos) (tMeth C m sp [] E0 ta t) := by
  obtain ⟨f, fd, F, hb, hm⟩ := h
  exact pe_meth he c hm F (hr.mono hk) hb .nil pass0 ha hst hpl ht
theorem pe_methD0 {pl : Sem Bool} (h : MethOk X.prog X.w X.K X.mg X.base k C m ps sp) (c : Cls X.K C) (hr : Room k' X.A) (he : PE X o ta) (hk : k ≤ k' := by decide)
    (ht : eval (.Call (.Attribute o m apos) [] [] pos) X.env = (do
      let ov ← eval o X.env
      standAt apos.atName
      let (f, first) ← holding [ov] (getMethod ov m pl)
      callWith pos f first (backTo pos (starEach [] X.env)) (backToKw pos (keywordEach [] X.env))) := by rfl) :
    PE X (.Call (.Attribute o m apos) [] [] pos) (tMeth C m sp [] E0 ta tNil) := by
  obtain ⟨f, fd, F, hb, hm⟩ := h
  exact pe_meth0 he c hm F (hr.mono hk) hb .nil pass0 ht
theorem pe_makeD (h : MakeOk X.prog X.w X.K X.mg X.base k x C ps sp) (hr : Room k' X.A) (ha : PA X (e :: es) t) (hk : k + 1 ≤ k' := by decide) (hg : Gl X x := by rfl) (hdb : (x == ("__debug__" : Str)) = false := by decide +kernel)
    (he : starEach (e :: es) X.env = (false, eval e X.env) :: starEach es X.env := by rfl) (hpl : (backTo pos (starEach es X.env)).any (·.1) = false := by rfl) : PE X (.Call (.Name x p) (e :: es) [] pos) (tMake C sp [] E0 t) := by
  obtain ⟨f, fd, M, F, hb, hm⟩ := h
  exact pe_make M F (hr.mono hk) hg hm hb .nil pass0 ha hdb he hpl
end
/-- THE RULE for a def without refusals, by name -/
theorem FunAt.ok {P : Program} {w : World} {K : PySem.W.Frag} {mg : Str → Option Value} {base : Heap} {x : Str} {st : Stmt} {f : Addr} {fd : FuncData} {N ps : List Str} {k : Nat} {sp : Sp} (F : FunAt K mg x st ps f fd) (S : FnScope N ps (defScope st)) (len : ∀ vs H Q E, sp vs H Q E → vs.length = ps.length)
    (hbody : ∀ (cdv : Value) (A : Around) (outer : List Env) (s : Shared) (H : Hp) (vs : List V) (Q : VK) (E : XK), Room k (A.deeper (envOfC x (defScope st) s.heap.objs.size f cdv)) → sp vs H Q E →
      ∃ t, PSs (cxOf CX0 P w K mg base N x (defScope st) f cdv A outer s H E).nox (defBody st) t ∧ t { nx := fun _ H' => ∃ H'', Sub H H'' H' ∧ Q .non H'', rt := fun v H' => ∃ H'', Sub H H'' H' ∧ Q v H'' } (start N vs) H) : DefOk P w K mg base (k + 1) x ps sp :=
  ⟨f, fd, F.1.okK S len hbody, F.2.1, F.1.kp, F.2.2⟩
end L2
namespace L2
open PySem PySem.Spec PyProof.Rows
section
variable {X : Cx} {e : Expr} {pos : Pos}
theorem oEq : OpR X (compareOp .Eq) rEq := op_eq
theorem oNe : OpR X (compareOp .NotEq) rNe := op_ne
theorem oLe : OpR X (compareOp .LtE) (rI0 fun i j => .bl (decide (i ≤ j))) := op_le
theorem oGt : OpR X (compareOp .Gt) (rI0 fun i j => .bl (decide (j < i))) := op_gt
theorem oGe : OpR X (compareOp .GtE) (rI0 fun i j => .bl (decide (j ≤ i))) := op_ge
theorem CallR.or' {f : Value} {r r' : List V → Hp → VK → Prop} (h : CallR X f r) (h' : CallR X f r') : CallR X f (fun xs H Q => r xs H Q ∨ r' xs H Q) := fun pins s σ H xs us Q I rv q => q.elim (h pins s σ H xs us Q I rv) (h' pins s σ H xs us Q I rv)
def call_intA := CallR.or' (call_int1 (X := X)) call_int_text
def call_isinstA := CallR.or' (call_isinst (X := X)) call_isinstC
/-- not e, as a value -/
theorem pe_notA {ta : TE} (ha : PE X e ta) : PE X (.UnaryOp .Not e pos) (fun σ H Q => ta σ H fun x H' => ∃ k, TruV X.K x H' k ∧ Q (.bl (!k)) H') := by
  intro pins s σ H Q I h
  refine UnaryOp_ (thn (ha pins s σ H _ I h) fun v s1 ⟨x, H1, I1, r1, k, tv, q1⟩ => ?_)
  exact not_of (thn (tru_ok pins s1 σ H1 x v (fun b H' => b = k ∧ Q (.bl (!k)) H') I1 r1 ⟨k, tv, rfl, q1⟩) fun b s2 ⟨H2, I2, e, q2⟩ => by subst e; exact ⟨.bl (!b), H2, I2, rfl, q2⟩)
end
end L2
namespace L2
open PySem
theorem bo_int : bootBuiltins "int" = some (.type "int") := by decide +kernel
theorem bo_str : bootBuiltins "str" = some (.type "str") := by decide +kernel
theorem bo_bool : bootBuiltins "bool" = some (.type "bool") := by decide +kernel
theorem bo_tuple : bootBuiltins "tuple" = some (.type "tuple") := by decide +kernel
theorem bo_list : bootBuiltins "list" = some (.type "list") := by decide +kernel
theorem bo_len : bootBuiltins "len" = some (.builtin "len") := by decide +kernel
theorem bo_isinstance : bootBuiltins "isinstance" = some (.builtin "isinstance") := by decide +kernel
theorem bo_min : bootBuiltins "min" = some (.builtin "min") := by decide +kernel
theorem bo_max : bootBuiltins "max" = some (.builtin "max") := by decide +kernel
theorem bo_all : bootBuiltins "all" = some (.builtin "all") := by decide +kernel
end L2

end

section
namespace L2
open PySem PySem.Spec PyProof.Rows KM
theorem upd_upd' {H : Hp} {a : Addr} {o u : HO} : upd (upd H a o) a u = upd H a u := by
  funext b
  unfold upd
  split <;> rfl
/-- a comprehension without tests whose element leaves the heap as it was -/
theorem comp_all {J : It} {g : TG} {te : TE} {Q : VK} {H : Hp} {D : Addr} {σ0 : St} (n : Nat) (xs fe : Nat → V) (S : St → Prop) (hn : n ≤ sizeLine) (h0 : S σ0)
    (hgo : ∀ i H, i < n → J.go i H) (hstop : ∀ H, J.stop n H) (hy : ∀ i H x H', i < n → J.yld i H x H' → H' = H ∧ x = xs i)
    (ht : ∀ i σ1 H1, i < n → S σ1 → ∀ R : St → V → Hp → Prop, (∀ σ2, S σ2 → R σ2 (fe i) H1) → g (xs i) σ1 H1 fun σ2 H2 => te σ2 H2 fun y H3 => R σ2 y H3)
    (hq : Q (.ref D) (upd H D (.lst ((List.range n).map fe)))) :
    CompGo J g tYes te Q σ0 H D := by
  refine ⟨fun i m σ1 H2 => i ≤ n ∧ m = n - i ∧ S σ1 ∧ H2 = upd H D (.lst ((List.range i).map fe)), ⟨n, Nat.zero_le _, rfl, h0, rfl⟩, ?_⟩
  rintro i m σ1 H2 ⟨h1, rfl, h2, rfl⟩
  rcases Nat.lt_or_ge i n with z | z
  · refine .inr ⟨hgo i _ z, fun x H3 y => ?_⟩
    obtain ⟨rfl, rfl⟩ := hy i _ x H3 z y
    refine ht i σ1 _ z h2 (fun σ2 y H6 => ∃ xs m', H6 D = some (.lst xs) ∧ xs.length < sizeLine ∧ m' < n - i ∧ (i + 1 ≤ n ∧ m' = n - (i + 1) ∧ S σ2 ∧ upd H6 D (.lst (xs ++ [y])) = upd H D (.lst ((List.range (i + 1)).map fe)))) fun σ2 q3 => ?_
    refine ⟨_, n - (i + 1), upd_same, ?_, by omega, by omega, rfl, q3, ?_⟩
    · rw [List.length_map, List.length_range]; omega
    · rw [upd_upd', List.range_succ, List.map_append]; rfl
  · have e : i = n := by omega
    subst e
    exact .inl ⟨hstop _, hq⟩
end L2
namespace L2
open PySem
theorem upd_self' {H : Hp} {a : Addr} {o : HO} (h : H a = some o) : upd H a o = H := by
  funext b
  unfold upd
  split
  · rename_i e; rw [e, h]
  · rfl
end L2
namespace KM
theorem map_xorF (l : List Bool) : l.map (xor false) = l := by
  rw [show (xor false) = (id : Bool → Bool) from funext fun b => by cases b <;> rfl, List.map_id]
end KM
namespace L2
open PySem
theorem kit_same (K : PySem.W.Frag) (t : Value) : PySem.W.kitOne K t t = some true := by
  unfold PySem.W.kitOne; rw [beq_self_eq_true, if_pos rfl]
theorem kit_int_bool (K : PySem.W.Frag) : PySem.W.kitOne K (.type "int") (.type "bool") = some false := by
  unfold PySem.W.kitOne; rw [if_neg (by decide)]; unfold PySem.W.kitCls; kernel_rfl
end L2
namespace KM
open PySem L2
theorem two_at (m : Nat) : atI [V.str (Str.ofString "0"), V.str (Str.ofString "1")] ((m : Int) % 2) = some (.str (rowS [decide (m % 2 = 1)])) := by
  have h : m % 2 = 0 ∨ m % 2 = 1 := by omega
  rcases h with h | h
  · have e : ((m : Int) % 2) = ((0 : Nat) : Int) := by omega
    rw [e, h]
    exact atI_nat (by rw [s0]; rfl)
  · have e : ((m : Int) % 2) = ((1 : Nat) : Int) := by omega
    rw [e, h]
    exact atI_nat (by rw [s1]; rfl)
end KM
namespace KM
theorem prefix_map_not {a L : List Bool} (h : a.map (!·) <+: L) : a <+: L.map (!·) := by
  obtain ⟨r, e⟩ := h
  refine ⟨r.map (!·), ?_⟩
  rw [← e, List.map_append, List.map_map]
  congr 1
  conv => lhs; rw [← List.map_id a]
  exact List.map_congr_left fun b _ => (Bool.not_not b).symm
theorem xor_not_map (l : List Bool) (t : Bool) : (l.map (xor t)).map (!·) = l.map (xor (!t)) := by
  rw [List.map_map]
  exact List.map_congr_left fun b _ => by cases t <;> cases b <;> rfl
theorem whl_length {n : Int} (h1 : -(2 ^ 255) < n) (h2 : n < 2 ^ 255 - 1) : (whl n).length ≤ 270 := by
  have c : ∀ m : Nat, m + 1 < 2 ^ 255 → (cnt m).length ≤ 269 := fun m h => by
    have := cnt_length h
    have := blen_le h
    omega
  unfold whl
  split
  · rw [List.length_cons, List.length_map]; have := c (-1 - n).toNat (by omega); omega
  · rw [List.length_cons]; have := c n.toNat (by omega); omega
end KM

end

section
namespace L2
open PySem PySem.Spec PyProof.Rows
/-! ### an exception in flight: its class, its own dict, its record T; fl: the frame that it is noted at -/
/-- behind a station: all but e, T and the frames is kept, the frames up to their slots -/
structure Stn (fs : List Addr) (e : Addr) (T : Option Addr) (h h' : Heap) : Prop where
  keep : ∀ b o, b ≠ e → some b ≠ T → b ∉ fs → h.get? b = some o → h'.get? b = some o
  slot : ∀ b o, b ≠ e → some b ≠ T → h.get? b = some o → ∃ sl, h'.get? b = some { o with slots := sl }
section
variable {M : Model} {A : Around} {E : Value → Shared → Prop} {s : Shared} {base : Heap} {env : Env} {outer : List Env} {L e T : Addr} {oe : Obj} {vs : Array Value} {head : Value} {hadNext : Bool} {Q : Unit → Shared → Prop} {cls : Value} {d : Option Addr} {fl : Value}
end
end L2

end

section
namespace L2
open PySem PySem.Spec PyProof.Rows
/-! ### how an exception of a class of the text lies behind a call -/
theorem HOk.there {P : Program} {w : World} {H : Hp} {h : Heap} (ok : HOk P w H h) {a : Addr} {o : HO} (e : H a = some o) : ∃ u, h.get? a = some u := by
  have x := ok a o e
  cases o with
  | lst xs => obtain ⟨_, _, _, _, e⟩ := x; exact ⟨_, e⟩
  | tup xs => obtain ⟨_, _, _, p⟩ := x; obtain ⟨o, e, _⟩ := p; exact ⟨_, e⟩
  | dK kvs => obtain ⟨_, _, _, _, o, _, _, e, _⟩ := x; exact ⟨_, e⟩
  | dT kvs => exact (show False from x).elim
  | set S n => obtain ⟨o, _, _, _, e, _⟩ := x; exact ⟨_, e⟩
  | ins C dx fs => obtain ⟨_, _, _, e, _⟩ := x; exact ⟨_, e⟩
  | own y => exact x
  | xd fs => obtain ⟨_, ⟨_, _, _, e, _⟩, _⟩ := x; exact ⟨_, e⟩
  | rng lo hi => obtain ⟨_, _, _, e⟩ := x; exact ⟨_, e⟩
  | frz ob u => obtain ⟨e, _⟩ := x; exact ⟨_, e⟩
  | tbl ps => exact ⟨_, x⟩
  | met f y => exact ⟨_, x⟩
  | ext φ => exact x.2.1
theorem HOk.none {P : Program} {w : World} {H : Hp} {h : Heap} (ok : HOk P w H h) {a : Addr} (e : h.get? a = none) : H a = none := by
  cases q : H a with
  | none => rfl
  | some o => obtain ⟨u, z⟩ := ok.there q; rw [e] at z; cases z
section
variable {P : Program} {w : World} {K : PySem.W.Frag} {mg : Str → Option Value} {base : Heap} {N : List Str} {qual : Str} {scope : Scope} {f : Addr} {cdv : Value} {A : Around} {outer : List Env} {s : Shared} {H : Hp} {E : XK}
end
section
variable {P : Program} {w : World} {K : PySem.W.Frag} {mg : Str → Option Value} {base : Heap} {N : List Str} {qual : Str} {scope : Scope} {f : Addr} {cdv : Value} {A : Around} {outer : List Env} {s : Shared} {H : Hp} {E : XK}
end
end L2

end

section
namespace L2
open PySem PySem.W PySem.Spec PyProof.Rows
/-! ### a class of exceptions of the text, as the fragment's deciders have it -/
structure ExcC (K : Frag) (C : Addr) : Prop where
  ga : findIn K (.ref C) "__getattribute__" = some (some (.builtin "BaseException.__getattribute__"))
  gt : findIn K (.ref C) "__getattr__" = some none
  cl : findIn K (.ref C) "__class__" = some (some (.builtin "object.__class__"))
  ob : mroIn K C (.type "object") = some true
  be : mroIn K C (.type "BaseException") = some true
  is : isClsIn K C = true
  hn : specialIn K (.builtin "object.__class__") "__get__" = some (some (.builtin "getset_descriptor.__get__"))
  tk : takesIn K (.builtin "object.__class__") = some true
section
variable {K : Frag} {prog : Program} {w : World} {A : Around} {E : Value → Shared → Prop} {h : Heap} {g : Array GenState} {d : Drawn} {t : Nat} {os : OsState} {x C : Addr} {ox : Obj} {odo : Option Obj} {name : Str}
end
end L2

end

section
namespace L2
open PySem PySem.W PySem.Spec PyProof.Rows
/-! ### defs that refuse -/
section
variable {P : Program} {w : World} {K : PySem.W.Frag} {mg : Str → Option Value} {base : Heap}
end
/-! ### calls whose exceptions may depend on the names' values -/
def PassesX (CX : CXT) (X : Cx) (E : St → XK) : Prop := ∀ (pins : List (Addr × Obj)) (σ : St) (H : Hp) (s : Shared) (e : Value) (s' : Shared), Inv X pins σ H s → CX X.stack H s (E σ) e s' → X.xe e s'
theorem Passes.x {CX : CXT} {X : Cx} {E : XK} (h : Passes CX X E) : PassesX CX X fun _ => E := h
section
variable {X : Cx} {k k' : Nat} {x : Str} {ps : List Str} {sp : Sp} {e : Expr} {es : List Expr} {t : TA} {p pos : Pos} {E : St → XK}
end
/-! ### raise C(..), C an own class without __init__ -/
abbrev bmV : List Value := [.type "ValueError", .type "Exception", .type "BaseException", .type "object"]
structure ClsAt (K : Frag) (h : Heap) (C : Addr) : Prop where
  ex : ∃ (bm : List Value) (N : Addr) (nm q : Str) (bs : List Value) (hdct : Bool) (sn : List Str) (sub : List Value) (ab : Bool) (col : Option Bool) (dd : Option Addr) (k0 k1 k2 k3 k5 : Option Value) (mN : Str → Option Value),
    h.get? C = some (excClassObj nm q C N bs bm hdct sn sub ab col dd k0 k1 k2 k3 k5 "ValueError.__new__") ∧ h.Ns N mN ∧ mN "__init__" = none ∧ OwnTail h bmV bm
end L2

end

section
namespace L2
open PySem PySem.W PySem.Spec PyProof.Rows
section
variable {X : Cx} {pins : List (Addr × Obj)} {σ : St} {H1 H2 : Hp} {s1 s2 : Shared} {h' : Heap} {a C T T' : Addr} {d : Option Addr}
end
/-! ### try -/
theorem Cx.Ok.pns {X : Cx} (ok : X.Ok) (pn : List (Addr × Obj)) : Cx.Ok { X with pn := pn } :=
  ⟨ok.mod, ok.kind, ok.glob, ok.blt, ok.above, ok.inj, ok.has, ok.cab, ok.hd, ok.frames, ok.stk, ok.exf, ok.bs, ok.bsz, ok.noex, ok.exfs, ok.funs, ok.frf⟩
theorem Inv.ins {X : Cx} {pins : List (Addr × Obj)} {σ : St} {H : Hp} {s : Shared} (I : Inv X pins σ H s) : Inv { X with pn := X.pn ++ pins } [] σ H s :=
  ⟨I.ok.pns _, I.os, I.bare, I.base, I.loc, I.cell, I.free, I.freeC, fun p hp => I.pin p (by simpa using hp), I.hok, I.len⟩
end L2

end

section
namespace L2
open PySem PySem.W PySem.Spec PyProof.Rows
section
variable {X : Cx}
/-! ### lists of bools -/
/-- * of numbers of up to a million bits -/
theorem op_mulB : OpR X (binaryOp .Mult) (rI (fun i j => Builtin.Int.intBits i ≤ 2 ^ 20 ∧ Builtin.Int.intBits j ≤ 2 ^ 20) fun i j => .int (i * j)) := opI fun _ _ _ _ _ _ _ hc q => mul_int q (IntMulOk.of_bits hc.1 hc.2)
end
/-! ### a def that answers or refuses -/
section
variable {X : Cx} {k1 k2 k' : Nat} {x : Str} {ps : List Str} {sp1 sp2 : Sp} {e : Expr} {es : List Expr} {t : TA} {p pos : Pos} {E : St → XK}
end
end L2
namespace L2
open PySem
end L2

end

section
namespace L2
open PySem PySem.W PySem.Spec PyProof.Rows PySem.Builtin.ObjectAttr
/-! ### an attribute laid on a new exception -/
def overV : List Value → Bool
  | .ref _ :: r => overV r
  | l => l == bmV
structure ExcS (K : Frag) (C : Addr) : Prop extends ExcC K C where
  sa : findIn K (.ref C) "__setattr__" = some (some (.builtin "object.__setattr__"))
  ov : (clsIn K C).any (fun cd => overV cd.mro) = true
  hd : hasDictIn K C = true
section
variable {K : Frag} {prog : Program} {w : World} {A : Around} {E : Value → Shared → Prop} {s : Shared} {x C : Addr} {ox : Obj} {od : Option Obj} {name : Str} {v : Value}
end
end L2

end

section
namespace L2
open PySem PySem.W PySem.Spec PyProof.Rows
/-! ### a class of exceptions with an __init__ of the text -/
def excInI (K : Frag) (C f : Addr) : Bool := match K.lookup C with
  | some ⟨.type "type", _, .cls cd, sl⟩ => (match cd.mro, sl.toList with
    | .ref C' :: bm, [_, _, _, _, some (.builtin n), _] => C' == C && n == "ValueError.__new__" && !cd.hasDel && tailIn K bmV bm && nsOkIn K cd.ns && nsIn K cd.ns "__init__" == some (some (.ref f))
    | _, _ => false)
  | _ => false
structure ClsAtI (h : Heap) (C f : Addr) : Prop where
  ex : ∃ (bm : List Value) (N : Addr) (nm q : Str) (bs : List Value) (hdct : Bool) (sn : List Str) (sub : List Value) (ab : Bool) (col : Option Bool) (dd : Option Addr) (k0 k1 k2 k3 k5 : Option Value) (mN : Str → Option Value),
    h.get? C = some (excClassObj nm q C N bs bm hdct sn sub ab col dd k0 k1 k2 k3 k5 "ValueError.__new__") ∧ h.Ns N mN ∧ mN "__init__" = some (.ref f) ∧ OwnTail h bmV bm
section
variable {prog : Program} {w : World} {A : Around} {E : Value → Shared → Prop} {h : Heap} {g : Array GenState} {d : Drawn} {t : Nat} {os : OsState}
variable {nm q : Str} {C N : Addr} {bs bm bmB : List Value} {hdct : Bool} {sn : List Str} {sub : List Value} {ab : Bool} {col : Option Bool} {dd : Option Addr} {k0 k1 k2 k3 k5 : Option Value} {B Bn newId nid initId inN : String} {bmN : List Value}
end
structure XMk (K : Frag) (mg : Str → Option Value) (x : Str) (C f : Addr) : Prop where
  xi : excInI K C f = true
  fn : typeIn K (.ref f) = some (.type "function")
  kp : keepIn K (.ref C) = true
  be : mroIn K C (.type "BaseException") = some true
  ty : typeIn K (.ref C) = some (.type "type")
  gm : mg x = some (.ref C)
end L2

end

section
namespace L2
open PySem PySem.W PySem.Spec PyProof.Rows
/-! ### f-strings of texts and small ints -/
abbrev TJ := Str → St → Hp → VK → Prop
section
variable {X : Cx} {e o : Expr} {es : List Expr} {te ta tv : TE} {t : TJ} {pos : Pos}
end
/-! ### B.__init__(self, ..), B an own base without __init__ -/
section
variable {X : Cx} {x : Str} {C D f : Addr} {np apos pos : Pos} {e : Expr} {es : List Expr} {t : TA}
end
/-! ### self.place = .. in __init__ -/
end L2

end

section
namespace L2
open PySem PySem.W PySem.Spec PyProof.Rows
/-! ### methods that answer or refuse -/
section
variable {X : Cx} {k1 k2 k' : Nat} {C : Addr} {m : Str} {ps : List Str} {sp1 sp2 : Sp} {e o : Expr} {es : List Expr} {t : TA} {ta : TE} {p pos apos : Pos} {E : St → XK}
end
end L2
namespace L2
open PySem PySem.Spec PyProof.Rows
end L2

end

section
namespace KM
open PySem L2
end KM

end

section
namespace L2
open PySem PySem.W PySem.Spec PyProof.Rows
section
variable {X : Cx}
end
end L2
namespace KM
open PySem L2
end KM

end

section
namespace L2
open PySem PySem.W PySem.Spec PyProof.Rows
/-! ### great numbers -/
section
variable {X : Cx}
def CDivB (i j : Int) : Prop := 0 < j ∧ (Builtin.Int.intBits j ≤ 9000 ∨ Builtin.Int.intBits i ≤ Builtin.Int.intBits j + 4000)
theorem log2_bits {j : Int} (h : j ≠ 0) : j.natAbs.log2 + 1 = Builtin.Int.intBits j := by
  unfold Builtin.Int.intBits
  rw [if_neg (by simpa using h)]
theorem CDivB.ok {i j : Int} (h : CDivB i j) : Builtin.divisionGoesByPylong i j = false := by
  unfold Builtin.divisionGoesByPylong
  have hj := log2_bits (Int.ne_of_gt h.1)
  have h2 := h.2
  have ej : (j == 0) = false := by have := h.1; simp; omega
  simp only [Bool.and_eq_false_iff, decide_eq_false_iff_not, ej, if_neg (show ¬ (false = true) from by decide)]
  rcases h2 with h2 | h2
  · left; omega
  · right
    by_cases hi : i = 0
    · subst hi; rw [if_pos (by decide)]; omega
    · have hi2 := log2_bits hi
      rw [if_neg (by simpa using hi)]
      omega
theorem op_fdivB : OpR X (binaryOp .FloorDiv) (rI CDivB fun i j => .int (i / j)) := opI fun i j _ _ _ _ _ hc q => by
  have e : i.fdiv j = i / j := Int.fdiv_eq_ediv_of_nonneg _ (Int.le_of_lt hc.1)
  exact floordiv_int (by have := hc.1; omega) (by rw [e]; exact q) (.inl hc.ok)
end
/-! ### reversed(a list) -/
def Itv (K : PySem.W.Frag) (a : Addr) (xs : List V) : It := ⟨fun i H => SqL K H a xs ∧ i < xs.length, fun i H x H' => H' = H ∧ xs[xs.length - 1 - i]? = some x, fun i H => SqL K H a xs ∧ xs.length ≤ i⟩
theorem turn_rev {P : Program} {w : World} {K : PySem.W.Frag} {tg : Expr} (a it : Addr) (xs : List V) : Turn P w K tg (Itv K a xs) [it] it (fun i h => i ≤ xs.length ∧ h.IsRevIter it a ((xs.length : Int) - 1 - i)) where
  mem := by simp
  obj := fun i h st b hb => by
    have e : b = it := by simpa using hb
    subst e
    obtain ⟨_, o, e, c, d⟩ := st
    exact ⟨o, e, fun v z => by rw [d] at z; cases z⟩
  keep := fun i h h' st k => ⟨st.1, st.2.at fun o e => k it (by simp) o e⟩
  item := by
    intro X hP hw hK hc i pins s σ H E I hf st hg
    subst hP hw hK
    obtain ⟨hq, hi⟩ := hg
    obtain ⟨its, rv, p, hz⟩ := I.list hq
    have hx : xs[xs.length - 1 - i]? = some (xs[xs.length - 1 - i]'(by omega)) := List.getElem?_eq_getElem _
    obtain ⟨u, hu, ru⟩ := rv.get hx
    obtain ⟨f0, f1, f2, f3, f4, f5⟩ := hf it (by simp)
    have ei : ((xs.length : Int) - 1 - i) = ((xs.length - 1 - i : Nat) : Int) := by omega
    have st1 := st.2
    rw [ei] at st1
    refine wpAny_pyNext_rev_item st1 p.isList (x := u) (by simpa using hu) fun h' st' sb => ?_
    have I1 : Inv X pins σ H { s with heap := h' } := I.turned (t' := s.toks) (fun b o hb e => (sb.2 b hb).trans e) f0 f1 f3 f4 f5
    have ej : (((xs.length - 1 - i : Nat) : Int) - 1) = ((xs.length : Int) - 1 - ((i + 1 : Nat) : Int)) := by omega
    rw [ej] at st'
    obtain ⟨o, e, c, d⟩ := id st'
    exact ⟨u, rfl, go_of (s := { s with heap := h' }) e c d (by decide) ⟨_, H, I1, ru, ⟨rfl, hx⟩, ⟨by omega, st'⟩, fun b hb => (hf b hb).1⟩⟩
  done := by
    intro X hP hw hK hc i pins s σ H E I hf st hg
    subst hP hw hK
    obtain ⟨hq, hx⟩ := hg
    obtain ⟨f0, f1, f2, f3, f4, f5⟩ := hf it (by simp)
    have ei : ((xs.length : Int) - 1 - i) = -1 := by have := st.1; omega
    have st1 := st.2
    rw [ei] at st1
    exact wpAny_pyNext_rev_end (I.ok.hd hc) st1 fun h' eb => ⟨rfl, I.turned (t' := s.toks) (fun b o hb e => eb b o hb e) f0 f1 f3 f4 f5⟩
  self := fun _ _ _ _ _ st h => wpAny_pyIter_revIter st.2 h
section
variable {X : Cx} {tg : Expr}
def iRev (K : PySem.W.Frag) (tl : TE) : TI := fun σ H R => tl σ H fun x H1 => ∃ a xs, x = .ref a ∧ SqL K H1 a xs ∧ R (Itv K a xs) H1
theorem pi_rev {l : Expr} {tl : TE} {p pos : Pos} (hg : Gl X "reversed") (hm : X.mg "reversed" = none) (hl : PE X l tl) (hs : starEach [l] X.env = [(false, eval l X.env)] := by rfl) : PI X tg (.Call (.Name "reversed" p) [l] [] pos) (iRev X.K tl) := by
  intro pins s σ H R I h
  have ha : PA X [l] _ := pa_cons hl pa_nil (hs := hs.trans rfl)
  refine Call_ (ld_blt I hg hm boot_reversed (callWith_type1 (thn (ha pos pins s σ H (fun vs H1 => ∃ x, vs = [x] ∧ ∃ a xs, x = .ref a ∧ SqL X.K H1 a xs ∧ R (Itv X.K a xs) H1) I ?_) fun us s1 ⟨vs, H1, I1, r1, q1⟩ => ?_) (by rw [hs]; rfl) rfl))
  · have h' : tl σ H fun x H1 => ∃ a xs, x = .ref a ∧ SqL X.K H1 a xs ∧ R (Itv X.K a xs) H1 := h
    show tl σ H fun x H1 => ∃ y, [x] = [y] ∧ _
    exact cast (congrArg (tl σ H) (funext fun x => funext fun H1 => propext ⟨fun q => ⟨x, rfl, q⟩, fun ⟨y, e, q⟩ => by cases e; exact q⟩)) h'
  · obtain ⟨x, rfl, a, xs, rfl, hq, q⟩ := q1
    obtain ⟨u, rfl, ru⟩ := vals1 r1
    obtain rfl : u = Value.ref a := ru
    obtain ⟨its, rv, pl, hz⟩ := I1.list hq
    have hlen := rv.length
    refine call_reversed_list pl.isList ?_
    have I2 : Inv X pins σ H1 { s1 with heap := s1.heap.push (revObj a ((its.toArray.size : Int) - 1)) } := I1.kept (t' := s1.toks) fun b o e => Heap.get?_push_of_some _ e
    have st0 : (s1.heap.push (revObj a ((its.toArray.size : Int) - 1))).IsRevIter s1.heap.objs.size a ((xs.length : Int) - 1 - ((0 : Nat) : Int)) := by
      have e0 : ((its.toArray.size : Int) - 1) = ((xs.length : Int) - 1 - ((0 : Nat) : Int)) := by rw [List.size_toArray, ← hlen]; omega
      rw [e0]
      exact ⟨_, Heap.get?_push_size _ rfl, rfl, rfl⟩
    refine wpAny_pyIter_revIter st0 ?_
    refine ⟨_, [_], _, _, H1, rfl, I2, turn_rev a _ xs, ⟨Nat.zero_le _, st0⟩, fun b hb => ?_, q⟩
    have e := List.mem_singleton.mp hb
    subst e
    exact I1.fpOk (Nat.le_refl _) (I1.hok.fresh (Nat.le_refl _))
/-- for x in reversed(a list that stays) -/
theorem for_rev {K : PySem.W.Frag} {a : Addr} {xs : List V} {g : TG} {tb : TS} {D : Ends} {σ : St} {H : Hp} (Pv : Nat → St → Hp → Prop) (h0 : Pv 0 σ H) (hl : ∀ i σ H, i ≤ xs.length → Pv i σ H → SqL K H a xs)
    (hs : ∀ i x σ H, i < xs.length → xs[xs.length - 1 - i]? = some x → Pv i σ H → g x σ H fun σ2 H2 => tb { D with nx := Pv (i + 1), ct := Pv (i + 1), bk := D.nx } σ2 H2) (hd : ∀ σ H, Pv xs.length σ H → D.nx σ H) :
    ∃ W : Nat → Nat → St → Hp → Prop, (∃ m, W 0 m σ H) ∧ ∀ i m σ H, W i m σ H →
      ((Itv K a xs).stop i H ∧ D.nx σ H) ∨ ((Itv K a xs).go i H ∧ ∃ N : St → Hp → Prop, (∀ σ' H', N σ' H' → ∃ m', m' < m ∧ W (i + 1) m' σ' H') ∧ ∀ x H', (Itv K a xs).yld i H x H' → g x σ H' fun σ2 H2 => tb { D with nx := N, ct := N, bk := D.nx } σ2 H2) := by
  refine ⟨fun i m σ H => i ≤ xs.length ∧ m = xs.length - i ∧ Pv i σ H, ⟨xs.length, Nat.zero_le _, rfl, h0⟩, ?_⟩
  rintro i m σ H ⟨h1, rfl, h2⟩
  rcases Nat.lt_or_ge i xs.length with z | z
  · refine .inr ⟨⟨hl i σ H h1 h2, z⟩, Pv (i + 1), fun σ' H' q => ⟨xs.length - (i + 1), by omega, by omega, rfl, q⟩, ?_⟩
    rintro x H' ⟨rfl, hx⟩
    exact hs i x σ _ z hx h2
  · have e : i = xs.length := by omega
    subst e
    exact .inl ⟨⟨hl _ σ H (Nat.le_refl _) h2, Nat.le_refl _⟩, hd σ H h2⟩
/-- all(a list of bools) -/
theorem call_all (hc : X.calm = true) : CallR X (.builtin "all") (fun xs H Q => ∃ a, ∃ bs : List Bool, xs = [.ref a] ∧ SqL X.K H a (bs.map .bl) ∧ Q (.bl (bs.all id)) H) := by
  intro pins s σ H xs us Q I r h
  obtain ⟨a, bs, rfl, hq, q⟩ := h
  obtain ⟨u, rfl, ru⟩ := vals1 r
  obtain rfl : u = Value.ref a := ru
  obtain ⟨its, rv, pl, hz⟩ := I.list hq
  have hlen := rv.length
  have hlt : a < s.heap.objs.size := by obtain ⟨o, ho, _⟩ := pl.isList; exact Heap.lt_size ho
  refine call_all_walkS (wpAny_pyIter_list pl.isList ?_)
  refine ⟨s.heap.objs.size, [s.heap.objs.size, a], [s.heap.objs.size], _, its.toArray.size, _, _, fun i => bs.getD i false, rfl, (Walks.list (A := X.A.in1) (I.ok.hd hc) s.heap.objs.size a (Nat.ne_of_lt hlt) its.toArray).toS, ⟨⟨_, Heap.get?_push_size _ rfl, rfl, rfl⟩, ?_⟩, ?_, fun s' mv => ?_⟩
  · obtain ⟨o, ho, r⟩ := pl.isList; exact ⟨o, Heap.get?_push_of_some _ ho, r⟩
  · intro i v s2 Q2 E2 hv q2
    have hv' : its[i]? = some v := by simpa using hv
    have hi : i < bs.length := by
      have := (List.getElem?_eq_some_iff.mp hv').1
      rw [List.length_map] at hlen; omega
    have hb : (bs.map V.bl)[i]? = some (.bl (bs.getD i false)) := by rw [List.getElem?_map, List.getElem?_eq_getElem hi, List.getD_eq_getElem?_getD, List.getElem?_eq_getElem hi]; rfl
    obtain ⟨u, hu, ru⟩ := rv.get hb
    rw [hv'] at hu; cases hu
    obtain rfl : v = Value.bool (bs.getD i false) := ru
    exact wpAny_truthy_bool q2
  · have hall : (List.range its.toArray.size).all (fun i => bs.getD i false) = bs.all id := by
      rw [List.size_toArray, ← hlen, List.length_map]
      apply Bool.eq_iff_iff.mpr
      rw [List.all_eq_true, List.all_eq_true]
      constructor
      · intro h x hx
        obtain ⟨i, hi, rfl⟩ := List.mem_iff_getElem.mp hx
        have := h i (List.mem_range.mpr hi)
        rw [List.getD_eq_getElem?_getD, List.getElem?_eq_getElem hi] at this
        exact this
      · intro h i hi
        have hi' := List.mem_range.mp hi
        rw [List.getD_eq_getElem?_getD, List.getElem?_eq_getElem hi']
        exact h _ (List.getElem_mem hi')
    rw [hall]
    refine ⟨.bl _, H, ?_, rfl, q⟩
    have I2 : Inv X pins σ H { s with heap := s.heap.push { cls := .type "list_iterator", data := .fields #[.ref a, .int 0 0] } } := I.kept (t' := s.toks) fun b o e => Heap.get?_push_of_some _ e
    obtain ⟨f0, f1, f2, f3, f4, f5⟩ := I.fpOk (b := s.heap.objs.size) (Nat.le_refl _) (I.hok.fresh (Nat.le_refl _))
    have e : s' = { s with heap := s'.heap, toks := s'.toks } := by
      obtain ⟨h1, g1, d1, t1, o1⟩ := s'
      have := mv.gens; have := mv.drawn; have := mv.os
      dsimp only at *
      subst_vars; rfl
    have I3 := I2.turned (t' := s'.toks) (it := s.heap.objs.size) (h' := s'.heap) (fun b o hb e => mv.heap b o (by simpa using hb) e) f0 f1 f3 f4 f5
    rw [e]
    exact I3
end
theorem cutV_tail (l : List V) : cutV l (some 1) none = l.drop 1 := by
  unfold cutV HT.sIx
  cases l with
  | nil => rfl
  | cons a r => simp
theorem cutV_init (l : List V) : cutV l none (some (-1)) = l.take (l.length - 1) := by
  unfold cutV HT.sIx
  cases l with
  | nil => rfl
  | cons a r =>
    simp only [show ((-1 : Int) < 0) from by decide, if_true, List.drop_zero, Nat.sub_zero]
    congr 1
    simp only [List.length_cons]
    omega
end L2
namespace L2
open PySem PySem.W PySem.Spec PyProof.Rows
/-! ### lists of ints, == and != -/
section
variable {X : Cx}
end
end L2
namespace L2
open PySem PySem.W PySem.Spec PyProof.Rows
/-! ### comprehensions over a list -/
theorem comp_list {K : PySem.W.Frag} {a : Addr} {xs : List V} {g : TG} {te : TE} {Q : VK} {H : Hp} {D : Addr} {σ0 : St} (f : V → V) (S : St → Prop) (hz : xs.length ≤ sizeLine) (h0 : S σ0) (hD : H D = none) (hl : SqL K H a xs)
    (ht : ∀ x, x ∈ xs → ∀ σ1 H1, S σ1 → Same H H1 → ∀ R : St → V → Hp → Prop, (∀ σ2, S σ2 → R σ2 (f x) H1) → g x σ1 H1 fun σ2 H2 => te σ2 H2 fun y H3 => R σ2 y H3)
    (hq : Q (.ref D) (upd H D (.lst (xs.map f)))) :
    CompGo (Itl K a) g tYes te Q σ0 H D := by
  refine ⟨fun i m σ1 H2 => i ≤ xs.length ∧ m = xs.length - i ∧ S σ1 ∧ H2 = upd H D (.lst ((xs.take i).map f)), ⟨xs.length, Nat.zero_le _, rfl, h0, rfl⟩, ?_⟩
  rintro i m σ1 H2 ⟨h1, rfl, h2, rfl⟩
  have hl2 := (same_new (o := .lst ((xs.take i).map f)) hD).seq hl
  rcases Nat.lt_or_ge i xs.length with z | z
  · refine .inr ⟨⟨xs, xs[i], hl2, List.getElem?_eq_getElem z⟩, ?_⟩
    rintro x H3 ⟨rfl, hx⟩
    have hx := hx xs hl2
    refine ht x (List.mem_of_getElem? hx) σ1 _ h2 (same_new hD) (fun σ2 y H6 => ∃ ys m', H6 D = some (.lst ys) ∧ ys.length < sizeLine ∧ m' < xs.length - i ∧ (i + 1 ≤ xs.length ∧ m' = xs.length - (i + 1) ∧ S σ2 ∧ upd H6 D (.lst (ys ++ [y])) = upd H D (.lst ((xs.take (i + 1)).map f)))) fun σ2 q3 => ?_
    refine ⟨_, xs.length - (i + 1), upd_same, ?_, by omega, by omega, rfl, q3, ?_⟩
    · rw [List.length_map, List.length_take]; omega
    · rw [upd_upd', List.take_add_one, hx, List.map_append]; rfl
  · have e : i = xs.length := by omega
    subst e
    rw [List.take_length]
    rw [List.take_length] at hl2
    exact .inl ⟨⟨xs, hl2, Nat.le_refl _⟩, hq⟩
end L2

end

section
namespace KM
open PySem L2
/-! ### fractions and their steps -/
/-- the fraction that has these steps; of no steps (1, 0), so that one more goes on alike -/
def frac : List Int → Int × Int
  | [] => (1, 0)
  | a :: r => (a * (frac r).1 + (frac r).2, (frac r).1)
/-- steps behind the first -/
def Tail (r : List Int) : Prop := (∀ x ∈ r, 1 ≤ x) ∧ ∀ h : r ≠ [], 2 ≤ r.getLast h
def Good : List Int → Prop
  | [] => False
  | _ :: r => Tail r
theorem Tail.tl {a : Int} {r : List Int} (h : Tail (a :: r)) : Tail r := by
  refine ⟨fun x hx => h.1 x (List.mem_cons_of_mem _ hx), fun hr => ?_⟩
  have := h.2 (List.cons_ne_nil _ _)
  rwa [List.getLast_cons hr] at this
theorem Tail.frac : ∀ {r : List Int}, Tail r → 0 ≤ (frac r).2 ∧ (frac r).2 < (frac r).1 ∧ (r ≠ [] → 0 < (frac r).2)
  | [], _ => ⟨by decide, by decide, fun h => absurd rfl h⟩
  | a :: r, h => by
    obtain ⟨h1, h2, h3⟩ := h.tl.frac
    have ha := h.1 a (List.mem_cons_self ..)
    show 0 ≤ (KM.frac r).1 ∧ (KM.frac r).1 < a * (KM.frac r).1 + (KM.frac r).2 ∧ (_ → 0 < (KM.frac r).1)
    refine ⟨by omega, ?_, fun _ => by omega⟩
    by_cases hr : r = []
    · subst hr
      have hl := h.2 (List.cons_ne_nil _ _)
      have hl' : (2 : Int) ≤ a := hl
      show (1 : Int) < a * 1 + 0
      omega
    · have := h3 hr
      have hm : 1 * (KM.frac r).1 ≤ a * (KM.frac r).1 := Int.mul_le_mul_of_nonneg_right ha (by omega)
      omega
theorem frac_div {a : Int} {r : List Int} (h : Tail r) : (frac (a :: r)).1 / (frac (a :: r)).2 = a ∧ (frac (a :: r)).1 % (frac (a :: r)).2 = (frac r).2 := by
  obtain ⟨h1, h2, _⟩ := h.frac
  show (a * (frac r).1 + (frac r).2) / (frac r).1 = a ∧ (a * (frac r).1 + (frac r).2) % (frac r).1 = (frac r).2
  constructor
  · rw [Int.add_comm, Int.add_mul_ediv_right _ _ (by omega), Int.ediv_eq_zero_of_lt h1 h2, Int.zero_add]
  · rw [Int.add_comm, Int.add_mul_emod_self_right, Int.emod_eq_of_lt h1 h2]
/-- the steps of (p, q) -/
def euc (p q : Int) : List Int := if h : 0 < q then (p / q) :: euc q (p % q) else []
termination_by q.toNat
decreasing_by
  have := Int.emod_lt_of_pos p h
  have := Int.emod_nonneg p (Int.ne_of_gt h)
  omega
theorem euc_pos {p q : Int} (h : 0 < q) : euc p q = (p / q) :: euc q (p % q) := by rw [euc, dif_pos h]
theorem euc_zero (p : Int) : euc p 0 = [] := by rw [euc, dif_neg (by decide)]
theorem euc_frac : ∀ {r : List Int}, Tail r → euc (frac r).1 (frac r).2 = r
  | [], _ => euc_zero _
  | a :: r, h => by
    obtain ⟨h1, h2, _⟩ := h.tl.frac
    obtain ⟨d1, d2⟩ := frac_div (a := a) h.tl
    rw [euc_pos (show 0 < (frac (a :: r)).2 from by show 0 < (frac r).1; omega), d1, d2]
    exact congrArg (a :: ·) (euc_frac h.tl)
theorem Good.euc : ∀ {s : List Int}, Good s → 0 < (frac s).2 ∧ euc (frac s).1 (frac s).2 = s
  | a :: r, h => by
    have h : Tail r := h
    obtain ⟨h1, h2, _⟩ := h.frac
    obtain ⟨d1, d2⟩ := frac_div (a := a) h
    have hp : 0 < (frac (a :: r)).2 := by show 0 < (frac r).1; omega
    refine ⟨hp, ?_⟩
    rw [euc_pos hp, d1, d2]
    exact congrArg (a :: ·) (euc_frac h)
/-! sizes -/
theorem bits_abs (i : Int) : Builtin.Int.intBits i = blen i.natAbs := by
  unfold Builtin.Int.intBits blen
  by_cases h : i = 0
  · subst h; rfl
  · rw [if_neg (by simpa using h), if_neg (by omega)]
theorem frac_size {B : Nat} : ∀ {s : List Int}, (∀ x ∈ s, x.natAbs < 2 ^ B) → (frac s).1.natAbs ≤ 2 ^ ((B + 1) * s.length) ∧ (frac s).2.natAbs ≤ 2 ^ ((B + 1) * s.length)
  | [], _ => ⟨by rw [List.length_nil, Nat.mul_zero]; decide, by rw [List.length_nil, Nat.mul_zero]; decide⟩
  | a :: r, h => by
    obtain ⟨h1, h2⟩ := frac_size (s := r) fun x hx => h x (List.mem_cons_of_mem _ hx)
    have ha := h a (List.mem_cons_self ..)
    have e : (B + 1) * (a :: r).length = (B + 1) * r.length + (B + 1) := by rw [List.length_cons, Nat.mul_succ]
    rw [e, Nat.pow_add]
    obtain ⟨T, hT⟩ : ∃ T, T = 2 ^ ((B + 1) * r.length) := ⟨_, rfl⟩
    rw [← hT] at h1 h2 ⊢
    have hb : 1 ≤ 2 ^ B := Nat.one_le_two_pow
    have e2 : 2 ^ (B + 1) = 2 ^ B * 2 := Nat.pow_succ ..
    rw [e2]
    obtain ⟨b, hbb⟩ : ∃ b, b = 2 ^ B := ⟨_, rfl⟩
    rw [← hbb] at ha hb ⊢
    have e3 : T * (b * 2) = b * T + T * b := by rw [← Nat.mul_assoc, Nat.mul_two, Nat.mul_comm b T]
    have k1 : T * 1 ≤ T * b := Nat.mul_le_mul_left _ hb
    constructor
    · show (a * (frac r).1 + (frac r).2).natAbs ≤ _
      have z := Int.natAbs_add_le (a * (frac r).1) (frac r).2
      rw [Int.natAbs_mul] at z
      have m : a.natAbs * (frac r).1.natAbs ≤ b * T := Nat.mul_le_mul (Nat.le_of_lt ha) h1
      omega
    · show (frac r).1.natAbs ≤ _
      have : 0 ≤ b * T := Nat.zero_le _
      omega
theorem bits_le {i : Int} {k : Nat} (h : i.natAbs ≤ 2 ^ k) : Builtin.Int.intBits i ≤ k + 1 := by
  rw [bits_abs]
  refine blen_le ?_
  rw [Nat.pow_succ]
  have := Nat.two_pow_pos k
  omega
theorem bits_lt {i : Int} {k : Nat} (h : i.natAbs < 2 ^ k) : Builtin.Int.intBits i ≤ k := by rw [bits_abs]; exact blen_le h
/-- a step tells how much greater the top is -/
theorem div_size {p q : Int} {B : Nat} (h : 0 < q) (hs : (p / q).natAbs < 2 ^ B) : Builtin.Int.intBits p ≤ Builtin.Int.intBits q + (B + 1) := by
  rw [bits_abs, bits_abs]
  refine blen_le ?_
  have e := Int.mul_ediv_add_emod p q
  have r0 := Int.emod_nonneg p (Int.ne_of_gt h)
  have r1 := Int.emod_lt_of_pos p h
  have z := Int.natAbs_add_le (q * (p / q)) (p % q)
  rw [e, Int.natAbs_mul] at z
  have hq := blen_lt q.natAbs
  have m : q.natAbs * (p / q).natAbs ≤ q.natAbs * 2 ^ B := Nat.mul_le_mul_left _ (Nat.le_of_lt hs)
  rw [Nat.pow_add, Nat.pow_succ]
  have m2 : q.natAbs * 2 ^ B ≤ 2 ^ blen q.natAbs * 2 ^ B := Nat.mul_le_mul_right _ (Nat.le_of_lt hq)
  have hb : 1 ≤ 2 ^ B := Nat.one_le_two_pow
  have m3 : 2 ^ blen q.natAbs * 1 ≤ 2 ^ blen q.natAbs * 2 ^ B := Nat.mul_le_mul_left _ hb
  have e3 : 2 ^ blen q.natAbs * (2 ^ B * 2) = 2 ^ blen q.natAbs * 2 ^ B + 2 ^ blen q.natAbs * 2 ^ B := by rw [← Nat.mul_assoc, Nat.mul_two]
  omega
/-! whether a list has a fraction -/
def goodB (s : List Int) : Bool := if s.length < 2 then decide (s.length = 1) else s.tail.all (fun x => decide (0 < x)) && decide (1 < s.getLastD 0)
theorem goodB_iff (s : List Int) : goodB s = true ↔ Good s := by
  unfold goodB
  match s with
  | [] => simp [Good]
  | [a] => simp [Good, Tail]
  | a :: b :: r =>
    rw [if_neg (by simp)]
    rw [Bool.and_eq_true, List.all_eq_true, decide_eq_true_eq]
    have e : (a :: b :: r).getLastD 0 = (b :: r).getLast (List.cons_ne_nil _ _) := by
      rw [List.getLastD_cons, List.getLastD_eq_getLast?, List.getLast?_eq_some_getLast (List.cons_ne_nil _ _)]; rfl
    rw [e]
    constructor
    · rintro ⟨h1, h2⟩
      exact ⟨fun x hx => by have := of_decide_eq_true (h1 x hx); omega, fun _ => by omega⟩
    · rintro ⟨h1, h2⟩
      exact ⟨fun x hx => decide_eq_true (by have := h1 x hx; omega), by have := h2 (List.cons_ne_nil _ _); omega⟩
theorem Good.ne {s : List Int} (h : Good s) : s ≠ [] := by intro e; subst e; exact h
end KM

end

section
namespace L2
open PySem PySem.W PySem.Spec PyProof.Rows
section
variable {X : Cx} {pins : List (Addr × Obj)} {σ : St} {H : Hp} {s : Shared} {h' : Heap}
/-- untracked records of ours have turned, and a new object is laid and tracked -/
theorem Inv.turnedNew {t' : Nat} {ch : List Addr} {a : Addr} {o : HO} (I : Inv X pins σ H s) (k : ∀ b u, b ∉ ch → s.heap.get? b = some u → h'.get? b = some u) (hf : ∀ b ∈ ch, FpOk X pins H b) (ha : s.heap.objs.size ≤ a) (new : ObjOk X.prog X.w (upd H a o) h' a o) :
    Inv X pins σ (upd H a o) { s with heap := h', toks := t' } := by
  have hn := I.hok.fresh ha
  have nch : ∀ b u, H b = some u → b ∉ ch := fun b u e z => by have := (hf b z).1; rw [this] at e; cases e
  have ne : ∀ b u, s.heap.get? b = some u → b ≠ a := fun b u e z => by subst z; exact absurd (Nat.lt_of_lt_of_le (Heap.lt_size e) ha) (Nat.lt_irrefl _)
  refine I.step (g' := s.gens) (d' := s.drawn) (ch := ch) (fun b hb => ?_) (fun b o _ _ hc e _ => k b o hc e) (fun b o _ _ hc e _ => ⟨o.slots, k b o hc e⟩) (fun b u _ e n => by rw [upd_ne (ne b u e)]; exact n)
    (fun b o hc e => ⟨o, k b o hc e⟩) (fun b xs e => by rw [upd_ne (ne_of_none e hn)]; exact e) (fun b u v e => by rw [upd_ne (ne_of_none e hn)]; exact e) (fun b ps e => ⟨#[], by rw [upd_ne (ne_of_none e hn), e]; simp⟩) (fun m hm => ?_) (fun b u e => ?_) I.bare
  · obtain ⟨f0, f1, f2, f3, f4, f5⟩ := hf b hb
    exact ⟨f3, f1, f4, f5⟩
  · obtain ⟨ob, es, ep, ho, r⟩ := hm
    exact ⟨ob, es, ep, k _ ob (fun z => (hf _ z).2.1 rfl) ho, r⟩
  · by_cases hb : b = a
    · subst hb; rw [upd_same] at e; cases e; exact new
    · rw [upd_ne hb] at e
      refine (I.hok b u e).stay (fun c v hc q => k c v ?_ q) (fun c q => by rw [upd_ne (ne_of_none q hn)]; exact q) fun c xs q => by rw [upd_ne (ne_of_none q hn)]; exact q
      rcases hc with z | z
      · rw [z]; exact nch b u e
      · exact nch c _ z
theorem Inv.turnedL {t' : Nat} {ch : List Addr} (I : Inv X pins σ H s) (k : ∀ b u, b ∉ ch → s.heap.get? b = some u → h'.get? b = some u) (hf : ∀ b ∈ ch, FpOk X pins H b) : Inv X pins σ H { s with heap := h', toks := t' } := by
  have nch : ∀ b u, H b = some u → b ∉ ch := fun b u e z => by have := (hf b z).1; rw [this] at e; cases e
  refine I.step (g' := s.gens) (d' := s.drawn) (ch := ch) (fun b hb => ?_) (fun b o _ _ hc e _ => k b o hc e) (fun b o _ _ hc e _ => ⟨o.slots, k b o hc e⟩) (fun _ _ _ _ n => n)
    (fun b o hc e => ⟨o, k b o hc e⟩) (fun _ _ e => e) (fun _ _ _ e => e) (fun b ps e => ⟨#[], by rw [e]; simp⟩) (fun m hm => ?_) (fun b u e => ?_) I.bare
  · obtain ⟨f0, f1, f2, f3, f4, f5⟩ := hf b hb
    exact ⟨f3, f1, f4, f5⟩
  · obtain ⟨ob, es, ep, ho, r⟩ := hm
    exact ⟨ob, es, ep, k _ ob (fun z => (hf _ z).2.1 rfl) ho, r⟩
  · refine (I.hok b u e).stay (fun c v hc q => k c v ?_ q) (fun _ q => q) fun _ _ q => q
    rcases hc with z | z
    · rw [z]; exact nch b u e
    · exact nch c _ z
end
/-! ### for k, x in enumerate(a list) -/
def Ite (K : PySem.W.Frag) (a : Addr) (xs : List V) : It :=
  ⟨fun i H => SqL K H a xs ∧ i < xs.length, fun i H x H' => ∃ (T : Addr) (y : V), H T = none ∧ xs[i]? = some y ∧ x = .ref T ∧ H' = upd H T (.tup [.int (i : Nat), y]), fun i H => SqL K H a xs ∧ xs.length ≤ i⟩
theorem turn_enum {P : Program} {w : World} {K : PySem.W.Frag} {elts : List Expr} {k : Nat} {pos : Pos} (a e it : Addr) (xs : List V) (h1 : e ≠ it) (h2 : a ≠ e) (h3 : a ≠ it) :
    Turn P w K (.Tuple elts k pos) (Ite K a xs) [e, it] e (fun i h => i ≤ xs.length ∧ (∃ old, IsEnum h e it (i : Nat) old) ∧ h.IsListIter it a i) where
  mem := by simp
  obj := fun i h st b hb => by
    obtain ⟨_, ⟨old, st1⟩, st2⟩ := st
    rcases List.mem_cons.mp hb with z | z
    · subst z
      exact ⟨_, st1, fun v z => by cases z⟩
    · obtain rfl := List.mem_singleton.mp z
      obtain ⟨o, e, c, d⟩ := st2
      exact ⟨o, e, fun v z => by rw [d] at z; cases z⟩
  keep := fun i h h' st k => by
    obtain ⟨hi, ⟨old, st1⟩, st2⟩ := st
    exact ⟨hi, ⟨old, k e (by simp) _ st1⟩, st2.at fun o e => k it (by simp) o e⟩
  item := by
    intro X hP hw hK hc i pins s σ H E I hf st hg
    subst hP hw hK
    obtain ⟨hq, hi⟩ := hg
    obtain ⟨its, rv, p, hz⟩ := I.list hq
    have hlen := rv.length
    have W := WalksT.enumerate (prog := X.prog) (w := X.w) (I.ok.hd hc) e it a h1 h2 h3 its.toArray
    refine W.item i s _ _ (by rw [List.size_toArray]; omega) ⟨st.2.1, st.2.2, p.isList⟩ fun T vals h' tk hv hT htup mid kk => ?_
    refine ⟨_, rfl, W.go elts k pos i T _ _ _ mid fun h'' st' kk' => ?_⟩
    obtain ⟨t, u, hu, rfl⟩ := hv
    have hu' : its[i]? = some u := by simpa using hu
    have hy : xs[i]? = some (xs[i]'hi) := List.getElem?_eq_getElem hi
    obtain ⟨u2, hu2, ru⟩ := rv.get hy
    rw [hu'] at hu2; cases hu2
    have hTf := I.hok.fresh hT
    have nT : T ∉ [e, it] := W.apart i T h' mid
    refine ⟨.ref T, upd H T (.tup [.int (i : Nat), xs[i]'hi]), ?_, rfl, ⟨T, _, hTf, hy, rfl, rfl⟩, ⟨by omega, st'.1, st'.2.1⟩, fun b hb => ?_⟩
    · refine I.turnedNew (ch := [e, it]) (t' := tk) (fun b o hb eb => kk' b o hb (kk b o hb eb)) hf hT ?_
      refine ⟨by show 2 ≤ sizeLine; decide, [Value.int (i : Nat) t, u], .cons ⟨t, rfl⟩ (.cons ru .nil), ?_⟩
      obtain ⟨o, ho, r⟩ := htup
      exact ⟨o, kk' T o nT ho, r⟩
    · have := (hf b hb).1
      rw [upd_ne]
      · exact this
      · intro z; subst z; exact nT hb
  done := by
    intro X hP hw hK hc i pins s σ H E I hf st hg
    subst hP hw hK
    obtain ⟨hq, hi⟩ := hg
    obtain ⟨its, rv, p, hz⟩ := I.list hq
    have hlen := rv.length
    have W := WalksT.enumerate (prog := X.prog) (w := X.w) (I.ok.hd hc) e it a h1 h2 h3 its.toArray
    have ei : i = its.toArray.size := by rw [List.size_toArray]; have := st.1; omega
    subst ei
    exact W.done s _ _ ⟨st.2.1, st.2.2, p.isList⟩ fun h' tk kk => ⟨rfl, I.turnedL (t' := tk) kk hf⟩
  self := fun A i s Q E st h => by
    obtain ⟨_, ⟨old, st1⟩, _⟩ := st
    exact wpAny_pyIter_enum st1 h
section
variable {X : Cx}
def iEnum (K : PySem.W.Frag) (tl : TE) : TI := fun σ H R => tl σ H fun x H1 => ∃ a xs, x = .ref a ∧ SqL K H1 a xs ∧ R (Ite K a xs) H1
theorem pi_enum {l : Expr} {tl : TE} {p pos : Pos} {elts : List Expr} {k : Nat} {tpos : Pos} (hg : Gl X "enumerate") (hm : X.mg "enumerate" = none) (hl : PE X l tl) (hs : starEach [l] X.env = [(false, eval l X.env)] := by rfl) : PI X (.Tuple elts k tpos) (.Call (.Name "enumerate" p) [l] [] pos) (iEnum X.K tl) := by
  intro pins s σ H R I h
  have ha : PA X [l] _ := pa_cons hl pa_nil (hs := hs.trans rfl)
  refine Call_ (ld_blt I hg hm boot_enumerate (callWith_type1 (thn (ha pos pins s σ H (fun vs H1 => ∃ x, vs = [x] ∧ ∃ a xs, x = .ref a ∧ SqL X.K H1 a xs ∧ R (Ite X.K a xs) H1) I ?_) fun us s1 ⟨vs, H1, I1, r1, q1⟩ => ?_) (by rw [hs]; rfl) rfl))
  · have h' : tl σ H fun x H1 => ∃ a xs, x = .ref a ∧ SqL X.K H1 a xs ∧ R (Ite X.K a xs) H1 := h
    show tl σ H fun x H1 => ∃ y, [x] = [y] ∧ _
    exact cast (congrArg (tl σ H) (funext fun x => funext fun H1 => propext ⟨fun q => ⟨x, rfl, q⟩, fun ⟨y, e, q⟩ => by cases e; exact q⟩)) h'
  · obtain ⟨x, rfl, a, xs, rfl, hq, q⟩ := q1
    obtain ⟨u, rfl, ru⟩ := vals1 r1
    obtain rfl : u = Value.ref a := ru
    obtain ⟨its, rv, pl, hz⟩ := I1.list hq
    have hlt : a < s1.heap.objs.size := by obtain ⟨o, ho, _⟩ := pl.isList; exact Heap.lt_size ho
    refine call_enumerate_list pl.isList fun h' he hi hsz kk => ?_
    have I2 : Inv X pins σ H1 { s1 with heap := h' } := I1.kept (t' := s1.toks) kk
    refine wpAny_pyIter_enum he ?_
    refine ⟨_, [s1.heap.objs.size + 1, s1.heap.objs.size], _, _, H1, rfl, I2, turn_enum a _ _ xs (Nat.succ_ne_self _) (Nat.ne_of_lt (Nat.lt_succ_of_lt hlt)) (Nat.ne_of_lt hlt), ⟨Nat.zero_le _, ⟨_, he⟩, hi⟩, fun b hb => ?_, q⟩
    rcases List.mem_cons.mp hb with z | z
    · subst z; exact I1.fpOk (by omega) (I1.hok.fresh (by omega))
    · obtain rfl := List.mem_singleton.mp z
      exact I1.fpOk (Nat.le_refl _) (I1.hok.fresh (Nat.le_refl _))
theorem for_enum {K : PySem.W.Frag} {a : Addr} {xs : List V} {g : TG} {tb : TS} {D : Ends} {σ : St} {H : Hp} (Pv : Nat → St → Hp → Prop) (h0 : Pv 0 σ H) (hl : ∀ i σ H, i ≤ xs.length → Pv i σ H → SqL K H a xs)
    (hs : ∀ i x σ H T, xs[i]? = some x → H T = none → Pv i σ H → g (.ref T) σ (upd H T (.tup [.int (i : Nat), x])) fun σ2 H2 => tb { D with nx := Pv (i + 1), ct := Pv (i + 1), bk := D.nx } σ2 H2) (hd : ∀ σ H, Pv xs.length σ H → D.nx σ H) :
    ∃ W : Nat → Nat → St → Hp → Prop, (∃ m, W 0 m σ H) ∧ ∀ i m σ H, W i m σ H →
      ((Ite K a xs).stop i H ∧ D.nx σ H) ∨ ((Ite K a xs).go i H ∧ ∃ N : St → Hp → Prop, (∀ σ' H', N σ' H' → ∃ m', m' < m ∧ W (i + 1) m' σ' H') ∧ ∀ x H', (Ite K a xs).yld i H x H' → g x σ H' fun σ2 H2 => tb { D with nx := N, ct := N, bk := D.nx } σ2 H2) := by
  refine ⟨fun i m σ H => i ≤ xs.length ∧ m = xs.length - i ∧ Pv i σ H, ⟨xs.length, Nat.zero_le _, rfl, h0⟩, ?_⟩
  rintro i m σ H ⟨h1, rfl, h2⟩
  rcases Nat.lt_or_ge i xs.length with z | z
  · refine .inr ⟨⟨hl i σ H h1 h2, z⟩, Pv (i + 1), fun σ' H' q => ⟨xs.length - (i + 1), by omega, by omega, rfl, q⟩, ?_⟩
    rintro x H' ⟨T, y, hT, hy, rfl, rfl⟩
    exact hs i y σ H T hy hT h2
  · have e : i = xs.length := by omega
    subst e
    exact .inl ⟨⟨hl _ σ H (Nat.le_refl _) h2, Nat.le_refl _⟩, hd σ H h2⟩
end
end L2

end

section
namespace KM
open PySem L2
/-! ### rows of fractions -/
def more : List Int → List Bool
  | [] => [false]
  | b :: r => true :: (cnt (b - 1).toNat ++ more r).map (!·)
def frow : List Int → List Bool
  | [] => []
  | a :: r => whl a ++ more r
def odd (k : Nat) : Bool := decide (k % 2 = 1)
theorem odd_succ (k : Nat) : odd (k + 1) = !odd k := by
  unfold odd
  have h : k % 2 = 0 ∨ k % 2 = 1 := by omega
  rcases h with h | h
  · have : (k + 1) % 2 = 1 := by omega
    simp [h, this]
  · have : (k + 1) % 2 = 0 := by omega
    simp [h, this]
def piece (k : Nat) (x : Int) (last : Bool) : List Bool := ((if k = 0 then whl x else cnt (x - 1).toNat) ++ [!last]).map (xor (odd k))
def pcs : Nat → List Int → List (List Bool)
  | _, [] => []
  | k, x :: r => piece k x r.isEmpty :: pcs (k + 1) r
theorem pcs_length (k : Nat) (s : List Int) : (pcs k s).length = s.length := by
  induction s generalizing k with
  | nil => rfl
  | cons x r ih => simp only [pcs, List.length_cons, ih]
theorem pcs_get {s : List Int} {k i : Nat} {x : Int} (h : s[i]? = some x) : (pcs k s)[i]? = some (piece (k + i) x (decide (i + 1 = s.length))) := by
  induction s generalizing k i with
  | nil => cases h
  | cons y r ih =>
    cases i with
    | zero =>
      cases h
      show some (piece k x r.isEmpty) = _
      congr 2
      cases r <;> simp
    | succ i =>
      have h' : r[i]? = some x := h
      have := ih (k := k + 1) h'
      show (pcs (k + 1) r)[i]? = _
      rw [this]
      congr 2
      · omega
      · simp
theorem xor_not' (l : List Bool) (t : Bool) : (l.map (!·)).map (xor t) = l.map (xor (!t)) := by
  rw [List.map_map]
  exact List.map_congr_left fun b _ => by cases t <;> cases b <;> rfl
theorem pcs_tail {k : Nat} (hk : k ≠ 0) (b : Int) (r : List Int) : (pcs k (b :: r)).flatten = (cnt (b - 1).toNat ++ more r).map (xor (odd k)) := by
  induction r generalizing k b with
  | nil =>
    show (piece k b true ++ []) = _
    rw [List.append_nil]
    unfold piece
    rw [if_neg hk]; rfl
  | cons c r ih =>
    show piece k b false ++ (pcs (k + 1) (c :: r)).flatten = _
    rw [ih (by omega) c]
    unfold piece
    rw [if_neg hk, odd_succ, more, ← xor_not', ← List.map_append, List.append_assoc]; rfl
theorem pcs_all (a : Int) (r : List Int) : (pcs 0 (a :: r)).flatten = frow (a :: r) := by
  have e0 : ∀ l : List Bool, l.map (xor (odd 0)) = l := fun l => map_xorF l
  cases r with
  | nil =>
    show (piece 0 a true ++ []) = _
    rw [List.append_nil]
    unfold piece
    rw [if_pos rfl, e0]; rfl
  | cons b r =>
    show piece 0 a false ++ (pcs 1 (b :: r)).flatten = _
    rw [pcs_tail (by decide)]
    unfold piece
    rw [if_pos rfl, e0]
    show _ = whl a ++ (true :: (cnt (b - 1).toNat ++ more r).map (!·))
    rw [List.append_assoc]
    congr 1
    show true :: List.map (xor (odd 1)) _ = true :: _
    congr 1
    exact List.map_congr_left fun b _ => by cases b <;> rfl
/-! ### the common divisor -/
def cd (p q : Int) : Int := if h : 0 < q then cd q (p % q) else p
termination_by q.toNat
decreasing_by
  have := Int.emod_lt_of_pos p h
  have := Int.emod_nonneg p (Int.ne_of_gt h)
  omega
theorem cd_pos {p q : Int} (h : 0 < q) : cd p q = cd q (p % q) := by rw [cd, dif_pos h]
theorem cd_zero (p : Int) : cd p 0 = p := by rw [cd, dif_neg (by decide)]
theorem cd_tail : ∀ {r : List Int}, Tail r → cd (frac r).1 (frac r).2 = 1
  | [], _ => cd_zero _
  | a :: r, h => by
    obtain ⟨h1, h2, _⟩ := h.tl.frac
    obtain ⟨d1, d2⟩ := frac_div (a := a) h.tl
    rw [cd_pos (show 0 < (frac (a :: r)).2 from by show 0 < (frac r).1; omega), d2]
    exact cd_tail h.tl
theorem Good.cd : ∀ {s : List Int}, Good s → cd (frac s).1 (frac s).2 = 1
  | a :: r, h => by
    have h : Tail r := h
    obtain ⟨h1, h2, _⟩ := h.frac
    obtain ⟨d1, d2⟩ := frac_div (a := a) h
    rw [cd_pos (show 0 < (frac (a :: r)).2 from by show 0 < (frac r).1; omega), d2]
    exact cd_tail h
end KM
namespace L2
open PySem PySem.Spec PyProof.Rows
theorem Sub.trans' {H H1 H2 H' X : Hp} (a : Sub H H1 X) (b : Sub H1 H2 H') : Sub H H2 H' :=
  ⟨b.le, fun c o e => let ⟨u, hu⟩ := a.ge c o e; b.ge c u hu, fun z => b.cl (a.cl z)⟩
/-- an instance changed, and a new object -/
theorem Sub.insNew {H H' : Hp} {p C dx r : Addr} {fs fs' : List (Str × V)} {o : HO} (h : H p = some (.ins C dx fs)) (hr : H r = none) (hs : ∀ b u, b ≠ p → H b = some u → H' b = some u) (e : H' p = some (.ins C dx fs')) (er : H' r = some o) (ho : OwnIn (upd (upd H p (.ins C dx fs')) r o) r o) :
    Sub H (upd (upd H p (.ins C dx fs')) r o) H' := by
  have hpr : r ≠ p := fun z => by rw [z, h] at hr; cases hr
  refine Sub.trans' (Sub.ins h hs e) (.new (by rw [upd_ne hpr]; exact hr) (fun b u q => ?_) er ho)
  by_cases z : b = p
  · subst z; rw [upd_same] at q; cases q; exact e
  · rw [upd_ne z] at q; exact hs b u z q
end L2

end

section
namespace KM
open PySem L2
/-! ### the order of fractions and of their rows -/
end KM

end

section
namespace L2
open PySem PySem.W PySem.Spec PyProof.Rows
section
variable {X : Cx}
end
end L2

end

section
namespace L2
open PySem PySem.W PySem.Spec PyProof.Rows
/-! ### try with two handlers of one name -/
end L2

end

section
namespace KM
open PySem L2
/-! ### rows of fractions, without their last sign -/
def mp : List Int → List Bool
  | [] => []
  | b :: r => true :: (cnt (b - 1).toNat ++ mp r).map (!·)
end KM

end
namespace KR
open PySem L2 KM
def top (i : Nat) : Stmt := PySem.Challenge.pw_keyrise_k13_fraction_rows.main.body.getD i (.Pass ⟨0, 0, 0, 0⟩)
abbrev s_turned_row : Stmt := top 11
abbrev s_lower_digits : Stmt := top 12
abbrev s_Source_init : Stmt := inClass (top 7) 0
abbrev s_Source_draw : Stmt := inClass (top 7) 1
abbrev s_is_count : Stmt := top 13
abbrev s_count_row : Stmt := top 15
abbrev s_draw_lower_digits : Stmt := top 17
abbrev s_draw_count : Stmt := top 18
abbrev s_whole_row : Stmt := top 16
abbrev s_Source_turn : Stmt := inClass (top 7) 2
abbrev s_draw_whole : Stmt := top 19
abbrev s_steps_of : Stmt := top 21
abbrev s_are_steps : Stmt := top 22
abbrev s_fraction_of : Stmt := top 23
abbrev s_has_whole_row : Stmt := top 14
abbrev s_common_divisor : Stmt := top 24
abbrev s_is_fraction : Stmt := top 25
abbrev s_has_fraction_row : Stmt := top 26
abbrev s_row_of_steps : Stmt := top 27
abbrev s_fraction_row : Stmt := top 28
abbrev s_Source_wish : Stmt := inClass (top 7) 4
abbrev s_draw_fraction : Stmt := top 29
abbrev s_read_fraction : Stmt := top 30
abbrev s_law_cell_at : Stmt := top 32
abbrev s_law_whole : Stmt := top 33
abbrev s_law_digits : Stmt := top 35
abbrev s_law_turned : Stmt := top 37
abbrev s_law_count : Stmt := top 36
abbrev s_law_mixed : Stmt := top 34
abbrev s_law_free_steps : Stmt := top 39
abbrev s_law_steps : Stmt := top 40
abbrev s_law_long : Stmt := top 41
abbrev s_law_fraction : Stmt := top 42
abbrev s_law_numbers : Stmt := top 43
abbrev s_law_laid : Stmt := top 38
abbrev s_law_read : Stmt := top 44
abbrev s_law : Stmt := top 45
abbrev s_Source_refuse : Stmt := inClass (top 7) 5
theorem sc_turned_row : FnScope ["row"] ["row"] (defScope s_turned_row) := ⟨rfl, rfl, rfl, by decide +kernel, rfl, by decide +kernel, by decide +kernel⟩
theorem sc_lower_digits : FnScope ["n", "width"] ["n", "width"] (defScope s_lower_digits) := ⟨rfl, rfl, rfl, by decide +kernel, rfl, by decide +kernel, by decide +kernel⟩
theorem sc_Source_init : FnScope ["self", "signs", "at"] ["self", "signs", "at"] (defScope s_Source_init) := ⟨rfl, rfl, rfl, by decide +kernel, rfl, by decide +kernel, by decide +kernel⟩
theorem sc_Source_draw : FnScope ["self", "wished", "sign"] ["self"] (defScope s_Source_draw) := ⟨rfl, rfl, rfl, by decide +kernel, rfl, by decide +kernel, by decide +kernel⟩
theorem sc_is_count : FnScope ["n"] ["n"] (defScope s_is_count) := ⟨rfl, rfl, rfl, by decide +kernel, rfl, by decide +kernel, by decide +kernel⟩
theorem sc_count_row : FnScope ["n", "m", "digits", "ahead", "end"] ["n"] (defScope s_count_row) := ⟨rfl, rfl, rfl, by decide +kernel, rfl, by decide +kernel, by decide +kernel⟩
theorem sc_draw_lower_digits : FnScope ["source", "width", "n", "k"] ["source", "width"] (defScope s_draw_lower_digits) := ⟨rfl, rfl, rfl, by decide +kernel, rfl, by decide +kernel, by decide +kernel⟩
theorem sc_draw_count : FnScope ["source", "ahead", "digits"] ["source"] (defScope s_draw_count) := ⟨rfl, rfl, rfl, by decide +kernel, rfl, by decide +kernel, by decide +kernel⟩
theorem sc_whole_row : FnScope ["n"] ["n"] (defScope s_whole_row) := ⟨rfl, rfl, rfl, by decide +kernel, rfl, by decide +kernel, by decide +kernel⟩
theorem sc_Source_turn : FnScope ["self"] ["self"] (defScope s_Source_turn) := ⟨rfl, rfl, rfl, by decide +kernel, rfl, by decide +kernel, by decide +kernel⟩
theorem sc_draw_whole : FnScope ["source", "n"] ["source"] (defScope s_draw_whole) := ⟨rfl, rfl, rfl, by decide +kernel, rfl, by decide +kernel, by decide +kernel⟩
theorem sc_steps_of : FnScope ["fraction", "steps", "top", "bottom", "rest"] ["fraction"] (defScope s_steps_of) := ⟨rfl, rfl, rfl, by decide +kernel, rfl, by decide +kernel, by decide +kernel⟩
theorem sc_are_steps : FnScope ["steps"] ["steps"] (defScope s_are_steps) := ⟨rfl, rfl, rfl, by decide +kernel, rfl, by decide +kernel, by decide +kernel⟩
theorem sc_fraction_of : FnScope ["steps", "top", "bottom", "step", "turned_over"] ["steps"] (defScope s_fraction_of) := ⟨rfl, rfl, rfl, by decide +kernel, rfl, by decide +kernel, by decide +kernel⟩
theorem sc_has_whole_row : FnScope ["n"] ["n"] (defScope s_has_whole_row) := ⟨rfl, rfl, rfl, by decide +kernel, rfl, by decide +kernel, by decide +kernel⟩
theorem sc_common_divisor : FnScope ["one", "other", "rest"] ["one", "other"] (defScope s_common_divisor) := ⟨rfl, rfl, rfl, by decide +kernel, rfl, by decide +kernel, by decide +kernel⟩
theorem sc_is_fraction : FnScope ["fraction"] ["fraction"] (defScope s_is_fraction) := ⟨rfl, rfl, rfl, by decide +kernel, rfl, by decide +kernel, by decide +kernel⟩
theorem sc_has_fraction_row : FnScope ["fraction", "steps"] ["fraction"] (defScope s_has_fraction_row) := ⟨rfl, rfl, rfl, by decide +kernel, rfl, by decide +kernel, by decide +kernel⟩
theorem sc_row_of_steps : FnScope ["steps", "last", "rows", "k", "step", "row"] ["steps"] (defScope s_row_of_steps) := ⟨rfl, rfl, rfl, by decide +kernel, rfl, by decide +kernel, by decide +kernel⟩
theorem sc_fraction_row : FnScope ["fraction"] ["fraction"] (defScope s_fraction_row) := ⟨rfl, rfl, rfl, by decide +kernel, rfl, by decide +kernel, by decide +kernel⟩
theorem sc_Source_wish : FnScope ["self", "sign"] ["self", "sign"] (defScope s_Source_wish) := ⟨rfl, rfl, rfl, by decide +kernel, rfl, by decide +kernel, by decide +kernel⟩
theorem sc_draw_fraction : FnScope ["source", "steps"] ["source"] (defScope s_draw_fraction) := ⟨rfl, rfl, rfl, by decide +kernel, rfl, by decide +kernel, by decide +kernel⟩
theorem sc_read_fraction : FnScope ["signs", "at", "source", "fraction"] ["signs", "at"] (defScope s_read_fraction) := ⟨rfl, rfl, rfl, by decide +kernel, rfl, by decide +kernel, by decide +kernel⟩
theorem sc_law_cell_at : FnScope ["_law_script", "_law_k"] ["_law_script", "_law_k"] (defScope s_law_cell_at) := ⟨rfl, rfl, rfl, by decide +kernel, rfl, by decide +kernel, by decide +kernel⟩
theorem sc_law_whole : FnScope ["_law_found"] ["_law_found"] (defScope s_law_whole) := ⟨rfl, rfl, rfl, by decide +kernel, rfl, by decide +kernel, by decide +kernel⟩
theorem sc_law_digits : FnScope ["_law_number", "_law_found"] ["_law_number"] (defScope s_law_digits) := ⟨rfl, rfl, rfl, by decide +kernel, rfl, by decide +kernel, by decide +kernel⟩
theorem sc_law_turned : FnScope ["_law_row"] ["_law_row"] (defScope s_law_turned) := ⟨rfl, rfl, rfl, by decide +kernel, rfl, by decide +kernel, by decide +kernel⟩
theorem sc_law_count : FnScope ["_law_n", "_law_more", "_law_size", "_law_head"] ["_law_n"] (defScope s_law_count) := ⟨rfl, rfl, rfl, by decide +kernel, rfl, by decide +kernel, by decide +kernel⟩
theorem sc_law_mixed : FnScope ["_law_cell", "_law_k", "_law_number"] ["_law_cell", "_law_k"] (defScope s_law_mixed) := ⟨rfl, rfl, rfl, by decide +kernel, rfl, by decide +kernel, by decide +kernel⟩
theorem sc_law_free_steps : FnScope ["_law_script", "_law_rest", "_law_great", "_law_room", "_law_steps_here", "_law_cell"] ["_law_script"] (defScope s_law_free_steps) := ⟨rfl, rfl, rfl, by decide +kernel, rfl, by decide +kernel, by decide +kernel⟩
theorem sc_law_steps : FnScope ["_law_script", "_law_first", "_law_great", "_law_room", "_law_steps_here", "_law_k", "_law_cell", "_law_big", "_law_size"] ["_law_script"] (defScope s_law_steps) := ⟨rfl, rfl, rfl, by decide +kernel, rfl, by decide +kernel, by decide +kernel⟩
theorem sc_law_long : FnScope ["_law_script", "_law_first", "_law_steps_here", "_law_k", "_law_cell"] ["_law_script"] (defScope s_law_long) := ⟨rfl, rfl, rfl, by decide +kernel, rfl, by decide +kernel, by decide +kernel⟩
theorem sc_law_fraction : FnScope ["_law_steps_here", "_law_top", "_law_bottom", "_law_step"] ["_law_steps_here"] (defScope s_law_fraction) := ⟨rfl, rfl, rfl, by decide +kernel, rfl, by decide +kernel, by decide +kernel⟩
theorem sc_law_numbers : FnScope ["_law_found", "_law_due", "_law_kind", "_law_k"] ["_law_found", "_law_due", "_law_kind"] (defScope s_law_numbers) := ⟨rfl, rfl, rfl, by decide +kernel, rfl, by decide +kernel, by decide +kernel⟩
theorem sc_law_laid : FnScope ["_law_steps_here", "_law_row", "_law_k"] ["_law_steps_here"] (defScope s_law_laid) := ⟨rfl, rfl, rfl, by decide +kernel, rfl, by decide +kernel, by decide +kernel⟩
theorem sc_law_read : FnScope ["_law_found", "_law_fraction_here", "_law_spot"] ["_law_found", "_law_fraction_here", "_law_spot"] (defScope s_law_read) := ⟨rfl, rfl, rfl, by decide +kernel, rfl, by decide +kernel, by decide +kernel⟩
theorem sc_law : FnScope ["_law_script", "_law_steps_here", "_law_fraction_here", "_law_due", "_law_found", "_law_head", "_law_tail"] ["_law_script"] (defScope s_law) := ⟨rfl, rfl, rfl, by decide +kernel, rfl, by decide +kernel, by decide +kernel⟩
/-- Python's own names are not given another meaning -/
structure NB (mg : Str → Option Value) : Prop where
  len_ : mg "len" = none
  range_ : mg "range" = none
  int_ : mg "int" = none
  str_ : mg "str" = none
  bool_ : mg "bool" = none
  tuple_ : mg "tuple" = none
  isinstance_ : mg "isinstance" = none
  min_ : mg "min" = none
  max_ : mg "max" = none
  list_ : mg "list" = none
  all_ : mg "all" = none
  reversed_ : mg "reversed" = none
  enumerate_ : mg "enumerate" = none
section
open PySem L2 KM
variable {P : Program} {w : World} {K : PySem.W.Frag} {mg : Str → Option Value} {base : Heap}
seal PE PT PW PA PS PSs PG PGs PI PTs PC PO

local macro_rules | `(tactic| walk_at "g1") => `(tactic| first
  | with_reducible exact True.intro
  | refine ⟨_, rfl, ?_⟩
  | refine ⟨_, _, rfl, rfl, ?_⟩
  | refine Or.inl ⟨_, _, rfl, rfl, ?_⟩
  | refine Or.inr ⟨_, _, rfl, rfl, ?_⟩
  | refine ⟨rfl, ?_⟩
  | refine ⟨(by first | omega | decide), ?_⟩)
local macro_rules | `(tactic| walk_at "g") => `(tactic| repeat walk_at "g1")
theorem iteD {p A B : Prop} [Decidable p] (h1 : p → A) (h2 : ¬ p → B) : if decide p = true then A else B := by
  by_cases h : p
  · rw [if_pos (decide_eq_true h)]; exact h1 h
  · rw [if_neg (by simpa using h)]; exact h2 h
theorem iteN {p A B : Prop} [Decidable p] (h : ¬ p) (h2 : B) : if decide p = true then A else B := by rw [if_neg (by simpa using h)]; exact h2
theorem iteY {p A B : Prop} [Decidable p] (h : p) (h2 : A) : if decide p = true then A else B := by rw [if_pos (decide_eq_true h)]; exact h2

/-! ### rows of signs -/
def spTurnedRow : Sp := fun vs H Q _ => ∃ l : List Bool, vs = [.str (rowS l)] ∧ l.length ≤ 100000 ∧ Q (.str (rowS (l.map (!·)))) H
theorem small5 {n : Nat} (h : n ≤ 100000) : n ≤ sizeLine := Nat.le_trans h (by decide)
theorem map_ones (l : List Bool) {fe : Nat → V} (g : Bool → Bool) (h : ∀ i, i < l.length → fe i = .str (rowS [g (l.getD i false)])) : (List.range l.length).map fe = ((l.map g).map fun b => rowS [b]).map V.str := by
  apply List.ext_getElem?
  intro i
  rw [List.getElem?_map, List.getElem?_map, List.getElem?_map, List.getElem?_map]
  rcases Nat.lt_or_ge i l.length with z | z
  · rw [List.getElem?_range z, List.getElem?_eq_getElem z]
    have := h i z
    rw [List.getD_eq_getElem?_getD, List.getElem?_eq_getElem z] at this
    exact congrArg some this
  · rw [List.getElem?_eq_none (by simpa using z), List.getElem?_eq_none z]; rfl
theorem join_len (l : List Bool) : ((l.map fun b => rowS [b]).map (·.length)).sum + (l.map fun b => rowS [b]).length * (Str.ofString "").length = l.length := by
  have e : (Str.ofString "").length = 0 := by decide +kernel
  rw [e, Nat.mul_zero, Nat.add_zero]
  induction l with
  | nil => rfl
  | cons b r ih => simp only [List.map_cons, List.sum_cons, ih, rowS_length, List.length_cons, List.length_nil]; omega
theorem one_slot {σ : St} (h : σ.length = 1) : ∃ z, σ = [z] := by
  match σ, h with
  | [z], _ => exact ⟨z, rfl⟩
theorem ok_turned_row {f : Addr} {fd : FuncData} (F : FunAt K mg "turned_row" s_turned_row ["row"] f fd) : DefOk P w K mg base 1 "turned_row" ["row"] spTurnedRow := by
  refine F.ok sc_turned_row (fun vs H Q E h => ?_) (fun cdv A outer s H vs Q E hr h => ?_)
  · obtain ⟨l, rfl, _⟩ := h; rfl
  obtain ⟨l, rfl, hl, q⟩ := h
  refine ⟨_, (pss_one (ps_ret (pe_bm PySem.F.plainAttrs_str PySem.F.slot_str_join PySem.F.type_str_join mt_join pe_str (pa_cons (pe_comp ["sign"] [] rfl (by decide +kernel) trivial (piAll (pv 0)) (fun _ _ _ _ _ => (pg_name (i := 0) (show (["sign"] : List Str).Nodup by decide +kernel) rfl (by first | exact Or.inl rfl | exact Or.inr rfl))) (fun _ _ _ _ _ => pts_nil) (fun _ _ _ _ _ => (pe_ifExp (pt_cmpR oEq (pv 0) pe_str (nomark _)) pe_str pe_str))) pa_nil)))), ?_⟩
  refine ⟨rfl, .inr ⟨_, rfl, _, rfl, fun D hD => ?_⟩⟩
  refine comp_all l.length (fun i => .str (rowS [l.getD i false])) (fun i => .str (rowS [!l.getD i false])) (fun σ => σ.length = 1) (small5 hl) ?_ ?_ ?_ ?_ ?_ ?_
  · rfl
  · intro i H1 hi; show i < (rowS l).cps.size; simpa [rowS] using hi
  · intro H1; show (rowS l).cps.size ≤ l.length; simp [rowS]
  · rintro i H1 x H2 hi ⟨rfl, c, hc, rfl⟩
    exact ⟨rfl, row_sign hc⟩
  · intro i σ1 H1 hi hS R hR
    obtain ⟨z, rfl⟩ := one_slot hS
    refine ⟨_, rfl, rfl, _, rfl, ?_⟩
    revert hR
    rw [s0, s1, rowS_dec]
    cases l.getD i false
    · intro hR; exact iteT (hR _ (by rfl))
    · intro hR; exact iteF (hR _ (by rfl))
  · refine ⟨_, D, (l.map (!·)).map fun b => rowS [b], rfl, rfl, SqL.of ?_, ?_, H, .refl ?_, ?_⟩
    · rw [upd_same]; exact congrArg (fun x => some (HO.lst x)) (map_ones l (!·) fun i _ => rfl)
    · rw [join_len, List.length_map]; omega
    · exact same_new hD
    · rw [join_bits]; exact q
def spLowerDigits : Sp := fun vs H Q _ => ∃ n d : Nat, vs = [.int n, .int d] ∧ d ≤ 100000 ∧ Q (.str (rowS (bitsW n d))) H
theorem bitsW_range (n d : Nat) : bitsW n d = (List.range d).map fun i => n.testBit (d - 1 - i) := by
  induction d with
  | zero => rfl
  | succ d ih =>
    rw [bitsW, ih, List.range_succ_eq_map, List.map_cons, List.map_map]
    congr 1
    apply List.map_congr_left
    intro i hi
    show n.testBit (d - 1 - i) = n.testBit (d + 1 - 1 - (i + 1))
    congr 1
    omega
theorem bit_and (n k : Nat) : Builtin.bitAnd ((n : Int) / 2 ^ k) 1 = ((n.testBit k).toNat : Int) := by
  rw [PyProof.Rows.bitAnd_m1]
  have e : ((n : Int) / 2 ^ k) % 2 = ((n / 2 ^ k % 2 : Nat) : Int) := by
    rw [Int.natCast_emod, Int.natCast_ediv, Int.natCast_pow]; rfl
  rw [e, Nat.testBit_eq_decide_div_mod_eq]
  have : n / 2 ^ k % 2 < 2 := Nat.mod_lt _ (by decide)
  by_cases q : n / 2 ^ k % 2 = 1
  · simp [q]
  · have : n / 2 ^ k % 2 = 0 := by omega
    simp [this]
theorem ok_lower_digits {f : Addr} {fd : FuncData} (nb : NB mg) (F : FunAt K mg "lower_digits" s_lower_digits ["n", "width"] f fd) : DefOk P w K mg base 1 "lower_digits" ["n", "width"] spLowerDigits := by
  refine F.ok sc_lower_digits (fun vs H Q E h => ?_) (fun cdv A outer s H vs Q E hr h => ?_)
  · obtain ⟨n, d, rfl, _⟩ := h; rfl
  obtain ⟨n, d, rfl, hl, q⟩ := h
  refine ⟨_, (pss_one (ps_ret (pe_bm PySem.F.plainAttrs_str PySem.F.slot_str_join PySem.F.type_str_join mt_join pe_str (pa_cons (pe_comp ["k"] [(0, "n")] rfl (by decide +kernel) ⟨rfl, .inl rfl, trivial⟩ (pi_rangeD rfl nb.range_ (pa_cons (pe_op oSub (pv 1) pe_int) (pa_cons (pe_un un_neg pe_int) (pa_cons (pe_un un_neg pe_int) pa_nil)))) (fun _ _ _ _ _ => (pg_name (i := 0) (show (["k", "n"] : List Str).Nodup by decide +kernel) rfl (by first | exact Or.inl rfl | exact Or.inr rfl))) (fun _ _ _ _ _ => pts_nil) (fun _ _ _ _ _ => (pe_ifExp (pt_cmpR oEq (pe_op op_and (pe_op op_shr (pv 1) (pv 0)) pe_int) pe_int (nomark _)) pe_str pe_str))) pa_nil)))), ?_⟩
  refine ⟨rfl, _, rfl, _, _, rfl, rfl, _, rfl, _, rfl, _, _, rfl, ⟨by omega, by omega, by decide, by decide⟩, fun D hD => ?_⟩
  have hn : (((d : Int) - 1) - (-1)).toNat = d := by omega
  refine comp_all (((d : Int) - 1) - (-1)).toNat (fun i => .int ((d : Int) - 1 + i * (-1))) (fun i => .str (rowS [n.testBit (d - 1 - i)])) (fun σ => ∃ z, σ = [z, some (.int n)]) (by rw [hn]; exact small5 hl) ?_ ?_ ?_ ?_ ?_ ?_
  · exact ⟨_, rfl⟩
  · intro i H1 hi; exact hi
  · intro H1; exact Nat.le_refl _
  · rintro i H1 x H2 hi ⟨rfl, rfl⟩
    exact ⟨rfl, rfl⟩
  · rintro i σ1 H1 hi ⟨z, rfl⟩ R hR
    rw [hn] at hi
    have ej : ((d : Int) - 1 + (i : Int) * (-1)).toNat = d - 1 - i := by omega
    refine ⟨_, rfl, _, rfl, _, _, rfl, rfl, (by omega), _, _, rfl, rfl, rfl, _, rfl, ?_⟩
    have hb : Builtin.bitAnd ((n : Int) / 2 ^ ((d : Int) - 1 + (i : Int) * (-1)).toNat) 1 = ((n.testBit (d - 1 - i)).toNat : Int) := by rw [ej]; exact bit_and _ _
    revert hR
    rw [s0, s1]
    cases e : n.testBit (d - 1 - i)
    · rw [e] at hb
      intro hR; exact iteN (fun c => absurd (hb.symm.trans (V.int.inj c)) (by decide)) (hR _ ⟨_, rfl⟩)
    · rw [e] at hb
      intro hR; exact iteY (congrArg V.int hb) (hR _ ⟨_, rfl⟩)
  · refine ⟨_, D, (bitsW n d).map fun b => rowS [b], rfl, rfl, SqL.of ?_, ?_, H, .refl ?_, ?_⟩
    · rw [upd_same, hn, bitsW_range, List.map_map, List.map_map]; rfl
    · rw [join_len, bitsW_length]; omega
    · exact same_new hD
    · rw [join_bits]; exact q
/-! ### the source of signs -/
def fldsW (z : Str) (i : Int) (t : Bool) (u : Int) : List (Str × V) := [("signs", .str z), ("place", .int i), ("turned", .bl t), ("endless", .bl false), ("wished", .int u)]
abbrev flds (z : Str) (i : Int) (t : Bool) : List (Str × V) := fldsW z i t 0
/-- what the top has made of the class -/
structure SrcCls (K : PySem.W.Frag) (C : Addr) : Prop where
  cl : Cls K C
  nS : NoAttr K C "signs"
  nP : NoAttr K C "place"
  nT : NoAttr K C "turned"
  nE : NoAttr K C "endless"
  nW : NoAttr K C "wished"
theorem f01 : ¬ (("signs" : Str) = "place") := by decide +kernel
theorem f02 : ¬ (("signs" : Str) = "turned") := by decide +kernel
theorem f03 : ¬ (("signs" : Str) = "endless") := by decide +kernel
theorem f04 : ¬ (("signs" : Str) = "wished") := by decide +kernel
theorem f12 : ¬ (("place" : Str) = "turned") := by decide +kernel
theorem f13 : ¬ (("place" : Str) = "endless") := by decide +kernel
theorem f14 : ¬ (("place" : Str) = "wished") := by decide +kernel
theorem f23 : ¬ (("turned" : Str) = "endless") := by decide +kernel
theorem f24 : ¬ (("turned" : Str) = "wished") := by decide +kernel
theorem f34 : ¬ (("endless" : Str) = "wished") := by decide +kernel
theorem g10 : (("place" : Str) == "signs") = false := by decide +kernel
theorem g20 : (("turned" : Str) == "signs") = false := by decide +kernel
theorem g21 : (("turned" : Str) == "place") = false := by decide +kernel
theorem g40 : (("wished" : Str) == "signs") = false := by decide +kernel
theorem g41 : (("wished" : Str) == "place") = false := by decide +kernel
theorem g42 : (("wished" : Str) == "turned") = false := by decide +kernel
theorem g43 : (("wished" : Str) == "endless") = false := by decide +kernel
theorem put_signs (z : Str) : putF "signs" (.str z) [] = ([("signs", .str z)] : List (Str × V)) := rfl
theorem put_place0 (z : Str) (i : Int) : putF "place" (.int i) ([("signs", .str z)] : List (Str × V)) = ([("signs", .str z), ("place", .int i)] : List (Str × V)) := by
  simp only [putF, f01, if_false]
theorem put_turned0 (z : Str) (i : Int) (t : Bool) : putF "turned" (.bl t) ([("signs", .str z), ("place", .int i)] : List (Str × V)) = ([("signs", .str z), ("place", .int i), ("turned", .bl t)] : List (Str × V)) := by
  simp only [putF, f02, f12, if_false]
theorem put_endless0 (z : Str) (i : Int) (t e : Bool) : putF "endless" (.bl e) ([("signs", .str z), ("place", .int i), ("turned", .bl t)] : List (Str × V)) = ([("signs", .str z), ("place", .int i), ("turned", .bl t), ("endless", .bl e)] : List (Str × V)) := by
  simp only [putF, f03, f13, f23, if_false]
theorem put_wished0 (z : Str) (i : Int) (t : Bool) (u : Int) : putF "wished" (.int u) ([("signs", .str z), ("place", .int i), ("turned", .bl t), ("endless", .bl false)] : List (Str × V)) = fldsW z i t u := by
  simp only [putF, f04, f14, f24, f34, if_false]; rfl
theorem put_place (z : Str) (i j : Int) (t : Bool) (u : Int) : putF "place" (.int j) (fldsW z i t u) = fldsW z j t u := by
  simp only [fldsW, putF, f01, if_false, if_true]
theorem put_turned (z : Str) (i : Int) (t t2 : Bool) (u : Int) : putF "turned" (.bl t2) (fldsW z i t u) = fldsW z i t2 u := by
  simp only [fldsW, putF, f02, f12, if_false, if_true]
theorem put_wished (z : Str) (i : Int) (t : Bool) (u u2 : Int) : putF "wished" (.int u2) (fldsW z i t u) = fldsW z i t u2 := by
  simp only [fldsW, putF, f04, f14, f24, f34, if_false, if_true]
theorem look_signs (z : Str) (i : Int) (t : Bool) {u : Int} : (fldsW z i t u).lookup ("signs" : Str) = some (.str z) := by simp [fldsW]
theorem look_place (z : Str) (i : Int) (t : Bool) {u : Int} : (fldsW z i t u).lookup ("place" : Str) = some (.int i) := by
  simp [fldsW, List.lookup, g10]
theorem look_turned (z : Str) (i : Int) (t : Bool) {u : Int} : (fldsW z i t u).lookup ("turned" : Str) = some (.bl t) := by
  simp [fldsW, List.lookup, g20, g21]
theorem look_wished (z : Str) (i : Int) (t : Bool) {u : Int} : (fldsW z i t u).lookup ("wished" : Str) = some (.int u) := by
  simp [fldsW, List.lookup, g40, g41, g42, g43]
theorem look_meth (z : Str) (i : Int) (t : Bool) {u : Int} {m : Str} (h : (m == ("signs" : Str)) = false) (h2 : (m == ("place" : Str)) = false) (h3 : (m == ("turned" : Str)) = false)
    (h4 : (m == ("endless" : Str)) = false := by decide +kernel) (h5 : (m == ("wished" : Str)) = false := by decide +kernel) : (fldsW z i t u).lookup m = none := by
  simp [fldsW, List.lookup, h, h2, h3, h4, h5]
/-- a source of these signs at that place, whatever it has been wished -/
def SrcAt (H : Hp) (p C dx : Addr) (l : List Bool) (i : Nat) (t : Bool) : Prop := ∃ u : Int, H p = some (.ins C dx (fldsW (rowS l) ((i : Nat) : Int) t u))
def spSrcInit (C : Addr) : Sp := fun vs H Q _ => ∃ p dx z i, vs = [.ref p, .str z, .int i] ∧ H p = some (.ins C dx []) ∧ Q .non (upd H p (.ins C dx (flds z i false)))
theorem ok_src_init {f C : Addr} {fd : FuncData} (T : SrcCls K C) (F : Fun K "__init__" "Source.__init__" s_Source_init f fd) : FnOk P w K mg base CX0 1 f fd ["self", "signs", "at"] (spSrcInit C) := by
  refine F.ok sc_Source_init (fun vs H Q E h => ?_) (fun cdv A outer s H vs Q E hr h => ?_)
  · obtain ⟨p, dx, z, i, rfl, _⟩ := h; rfl
  obtain ⟨p, dx, z, i, rfl, hp, q⟩ := h
  refine ⟨_, (pss_cons (ps_fld (pv 0) (pv 1) rfl)
    (pss_cons (ps_fld (pv 0) (pv 2) rfl)
    (pss_cons (ps_fld (pv 0) pe_bl rfl)
    (pss_cons (ps_fld (pv 0) pe_bl rfl)
    (pss_one (ps_fld (pv 0) pe_int rfl)))))), ?_⟩
  refine ⟨_, rfl, _, rfl, p, C, dx, _, rfl, hp, T.cl, T.nS, (by show 0 < 1000; decide), ?_⟩
  refine ⟨_, rfl, _, rfl, p, C, dx, _, rfl, upd_same, T.cl, T.nP, (by show 1 < 1000; decide), ?_⟩
  refine ⟨_, rfl, p, C, dx, _, rfl, upd_same, T.cl, T.nT, (by rw [put_signs, put_place0]; show 2 < 1000; decide), ?_⟩
  refine ⟨_, rfl, p, C, dx, _, rfl, upd_same, T.cl, T.nE, (by rw [put_signs, put_place0, put_turned0]; show 3 < 1000; decide), ?_⟩
  refine ⟨_, rfl, p, C, dx, _, rfl, upd_same, T.cl, T.nW, (by rw [put_signs, put_place0, put_turned0, put_endless0]; show 4 < 1000; decide), ?_⟩
  rw [upd_upd', upd_upd', upd_upd', upd_upd', put_signs, put_place0, put_turned0, put_endless0, put_wished0]
  exact q
def spDraw (C : Addr) : Sp := fun vs H Q _ => ∃ (p dx : Addr) (l : List Bool) (i : Nat) (t b : Bool), vs = [.ref p] ∧ SrcAt H p C dx l i t ∧ l.length ≤ 100000 ∧ l[i]? = some b ∧ Q (.int ((xor t b).toNat : Nat)) (upd H p (.ins C dx (flds (rowS l) ((i + 1 : Nat) : Int) t)))
theorem ok_draw {f C : Addr} {fd : FuncData} (nb : NB mg) (T : SrcCls K C) (F : Fun K "draw" "Source.draw" s_Source_draw f fd) : FnOk P w K mg base CX0 1 f fd ["self"] (spDraw C) := by
  refine F.ok sc_Source_draw (fun vs H Q E h => ?_) (fun cdv A outer s H vs Q E hr h => ?_)
  · obtain ⟨p, dx, l, i, t, b, rfl, _⟩ := h; rfl
  obtain ⟨p, dx, l, i, t, b, rfl, ⟨u, hp⟩, hl, hb, q⟩ := h
  have hi : i < l.length := (List.getElem?_eq_some_iff.mp hb).1
  refine ⟨_, (pss_cons (ps_set (i := 1) sc_Source_draw.nd rfl (by first | exact Or.inl rfl | exact Or.inr rfl) (pe_fld (pv 0) rfl))
    (pss_cons (ps_fld (pv 0) pe_int rfl)
    (pss_cons (ps_if (pt_cmpR oLt (pe_fld (pv 0) rfl) (pe_callB call_len rfl nb.len_ bo_len (pa_cons (pe_fld (pv 0) rfl) pa_nil)) (nomark _)) (pss_cons (ps_set (i := 2) sc_Source_draw.nd rfl (by first | exact Or.inl rfl | exact Or.inr rfl) (pe_callTy call_intA rfl nb.int_ bo_int (pa_cons (pe_ix iAll (pe_fld (pv 0) rfl) (pe_fld (pv 0) rfl) (fun _ _ => rfl)) pa_nil)))
      (pss_cons (ps_fld (pv 0) (pe_op oAdd (pe_fld (pv 0) rfl) pe_int) rfl)
      (pss_one (ps_ret (pe_ifExp (pt_truth (pe_fld (pv 0) rfl) (fun _ => rfl)) (pe_op oSub pe_int (pv 2)) (pv 2)))))) pss_nil)
    (pss_cons (ps_if (pt_not (pt_truth (pe_fld (pv 0) rfl) (fun _ => rfl))) (pss_one ps_never) pss_nil)
    (pss_one (ps_ret (pv 1))))))), ?_⟩
  refine ⟨_, rfl, p, C, dx, _, _, rfl, hp, T.cl, T.nW, look_wished .., ?_⟩
  refine ⟨_, rfl, p, C, dx, _, rfl, hp, T.cl, T.nW, (by show 5 < 1000; decide), ?_⟩
  rw [put_wished]
  refine ⟨_, rfl, p, C, dx, _, _, rfl, upd_same, T.cl, T.nP, look_place .., _, rfl, p, C, dx, _, _, rfl, upd_same, T.cl, T.nS, look_signs .., _, _, rfl, ⟨by rw [rowS_length]; exact small5 hl, rfl⟩, .inl ⟨_, _, rfl, rfl, _, rfl, ?_⟩⟩
  refine iteY (by rw [rowS_length]; omega) ?_
  refine ⟨_, rfl, p, C, dx, _, _, rfl, upd_same, T.cl, T.nS, look_signs .., _, rfl, p, C, dx, _, _, rfl, upd_same, T.cl, T.nP, look_place .., .inr ⟨_, _, bc b, rfl, rfl, by rw [rowS_length]; exact small5 hl, atI_nat (row_item hb), .inr ⟨_, _, rfl, sign_int b, (by show 1 ≤ 640; decide), ?_⟩⟩⟩
  refine ⟨_, rfl, p, C, dx, _, _, rfl, upd_same, T.cl, T.nP, look_place .., .inl ⟨_, _, rfl, rfl, _, rfl, p, C, dx, _, rfl, upd_same, T.cl, T.nP, (by show 5 < 1000; decide), ?_⟩⟩
  rw [put_place, upd_upd']
  refine ⟨_, rfl, p, C, dx, _, _, rfl, upd_same, T.cl, T.nT, look_turned .., _, rfl, ?_⟩
  cases t with
  | false =>
    refine iteF ⟨_, rfl, ?_⟩
    have e : (false ^^ b) = b := by cases b <;> rfl
    rw [e] at q
    exact q
  | true =>
    refine iteT ⟨_, rfl, _, _, rfl, rfl, ?_⟩
    have e : ((true ^^ b).toNat : Int) = 1 - (b.toNat : Int) := by cases b <;> rfl
    rw [e] at q
    exact q

/-- a def that is never called -/
def spNo : Sp := fun _ _ _ _ => False

/-! ### bounded numbers read -/
abbrev srcO (C dx : Addr) (l : List Bool) (i : Nat) (t : Bool) : HO := .ins C dx (flds (rowS l) ((i : Nat) : Int) t)
abbrev srcW (C dx : Addr) (l : List Bool) (i : Nat) (t : Bool) (u : Int) : HO := .ins C dx (fldsW (rowS l) ((i : Nat) : Int) t u)
/-! ### counts -/
def spCountRow : Sp := fun vs H Q _ => ∃ n : Nat, vs = [.int n] ∧ n + 1 < 2 ^ 255 ∧ Q (.str (rowS (cnt n))) H
theorem cend_pos {e : Nat} : e < 8 → 0 < (cend e).length := by intro h; unfold cend; rw [if_neg (by omega)]; decide
theorem cend_len (e : Nat) : (cend e).length ≤ 1 := by unfold cend; split <;> simp
theorem blen_big {n k : Nat} (h : 2 ^ k ≤ n) : k < blen n := by
  rcases Nat.lt_or_ge k (blen n) with z | z
  · exact z
  · have := blen_lt n
    have := Nat.pow_le_pow_right (show 0 < 2 by decide) z
    omega
def CountIn (n : Int) : Prop := 0 ≤ n ∧ n < 2 ^ 255 - 1
instance (n : Int) : Decidable (CountIn n) := inferInstanceAs (Decidable (_ ∧ _))
def spIsCount : Sp := fun vs H Q _ => ∃ n : Int, vs = [.int n] ∧ Q (.bl (decide (CountIn n))) H
theorem countIn_blen {m : Nat} : CountIn (m : Int) ↔ blen (m + 1) ≤ 255 := by
  unfold CountIn
  constructor
  · intro ⟨_, h⟩; exact blen_le (by omega)
  · intro h
    rcases Nat.lt_or_ge (m + 1) (2 ^ 255) with z | z
    · omega
    · have := blen_big z; omega
theorem ok_is_count {f : Addr} {fd : FuncData} (g_MOST_DIGITS : GlobV mg "MOST_DIGITS" (.int 255)) (F : FunAt K mg "is_count" s_is_count ["n"] f fd) : DefOk P w K mg base 1 "is_count" ["n"] spIsCount := by
  refine F.ok sc_is_count (fun vs H Q E h => ?_) (fun cdv A outer s H vs Q E hr h => ?_)
  · obtain ⟨n, rfl, _⟩ := h; rfl
  obtain ⟨n, rfl, q⟩ := h
  refine ⟨_, (pss_one (ps_ret (pe_and (pe_cmpR oGe (pv 0) pe_int (nomark _)) (pe_one (pe_cmpR oLe (pe_bm0 PySem.F.plainAttrs_int PySem.F.slot_int_bit_length PySem.F.type_int_bit_length mt_bitlen (pe_op oAdd (pv 0) pe_int)) (pe_globV g_MOST_DIGITS) (nomark _)))))), ?_⟩
  refine ⟨_, rfl, _, _, rfl, rfl, _, rfl, ?_⟩
  refine iteD (fun c => ?_) (fun c => ?_)
  · refine ⟨_, rfl, .inl ⟨_, _, rfl, rfl, rfl, _, rfl, rfl, _, _, rfl, rfl, H, .refl (Same.refl _), ?_⟩⟩
    obtain ⟨m, rfl⟩ : ∃ m : Nat, n = m := ⟨n.toNat, by omega⟩
    rw [show ((m : Int) + 1) = ((m + 1 : Nat) : Int) from rfl, bits_eq (m + 1)]
    have e : decide (((blen (m + 1) : Nat) : Int) ≤ 255) = decide (CountIn (m : Int)) := by
      rw [decide_eq_decide, countIn_blen]; omega
    dsimp only
    rw [e]
    exact q
  · refine ⟨H, .refl (Same.refl _), ?_⟩
    have e : decide (CountIn n) = false := decide_eq_false fun z => c z.1
    rw [← e]; exact q
theorem ok_count_row {f : Addr} {fd : FuncData} (g_MOST_AHEAD : GlobV mg "MOST_AHEAD" (.int 7)) (F : FunAt K mg "count_row" s_count_row ["n"] f fd) (D_is_count : DefOk P w K mg base 1 "is_count" ["n"] spIsCount) (D_lower_digits : DefOk P w K mg base 1 "lower_digits" ["n", "width"] spLowerDigits) : DefOk P w K mg base 2 "count_row" ["n"] spCountRow := by
  refine F.ok sc_count_row (fun vs H Q E h => ?_) (fun cdv A outer s H vs Q E hr h => ?_)
  · obtain ⟨n, rfl, _⟩ := h; rfl
  obtain ⟨n, rfl, hn, q⟩ := h
  refine ⟨_, (pss_cons (ps_if (pt_not (pt_truth (pe_callD D_is_count hr (pa_cons (pv 0) pa_nil)) (fun _ => rfl))) (pss_one ps_never) pss_nil)
    (pss_cons (ps_set (i := 1) sc_count_row.nd rfl (by first | exact Or.inl rfl | exact Or.inr rfl) (pe_op oAdd (pv 0) pe_int))
    (pss_cons (ps_set (i := 2) sc_count_row.nd rfl (by first | exact Or.inl rfl | exact Or.inr rfl) (pe_bm0 PySem.F.plainAttrs_int PySem.F.slot_int_bit_length PySem.F.type_int_bit_length mt_bitlen (pv 1)))
    (pss_cons (ps_set (i := 3) sc_count_row.nd rfl (by first | exact Or.inl rfl | exact Or.inr rfl) (pe_op oSub (pe_bm0 PySem.F.plainAttrs_int PySem.F.slot_int_bit_length PySem.F.type_int_bit_length mt_bitlen (pv 2)) pe_int))
    (pss_cons (ps_set (i := 4) sc_count_row.nd rfl (by first | exact Or.inl rfl | exact Or.inr rfl) (pe_ifExp (pt_cmpR oEq (pv 3) (pe_globV g_MOST_AHEAD) (nomark _)) pe_str pe_str))
    (pss_one (ps_ret (pe_op oAdd (pe_op oAdd (pe_op oAdd (pe_op oMul pe_str (pv 3)) (pv 4)) (pe_callD D_lower_digits hr (pa_cons (pv 2) (pa_cons (pv 3) pa_nil)))) (pe_callD D_lower_digits hr (pa_cons (pv 1) (pa_cons (pe_op oSub (pv 2) pe_int) pa_nil))))))))))), ?_⟩
  have hd : blen (n + 1) ≤ 255 := blen_le hn
  have hp : 0 < blen (n + 1) := blen_pos (by omega)
  have he : blen (blen (n + 1)) ≤ 8 := blen_le (by omega)
  have hq : 0 < blen (blen (n + 1)) := blen_pos (by omega)
  have b1 := bits_eq (n + 1)
  have b2 := bits_eq (blen (n + 1))
  refine ⟨_, rfl, _, rfl, _, rfl, ?_⟩
  rw [decide_eq_true (countIn_blen.mpr hd)]
  refine iteF ⟨_, rfl, .inl ⟨_, _, rfl, rfl, _, rfl, rfl, _, rfl, rfl, ?_⟩⟩
  rw [show ((n : Int) + 1) = ((n + 1 : Nat) : Int) from rfl, b1]
  refine ⟨_, rfl, rfl, _, rfl, rfl, _, _, rfl, rfl, ?_⟩
  rw [b2]
  obtain ⟨k, hk⟩ : ∃ k : Nat, ((blen (blen (n + 1)) : Nat) : Int) - 1 = k := ⟨blen (blen (n + 1)) - 1, by omega⟩
  have hk' : k = blen (blen (n + 1)) - 1 := by omega
  dsimp only
  rw [hk]
  have a1 : (k : Int) < 2 ^ 40 := by omega
  have a2 : -(2 ^ 40) < (k : Int) := by omega
  have a3 : (Str.ofString "1").length * ((k : Nat) : Int).toNat ≤ sizeLine := by rw [s1, rowS_length]; exact small5 (by show 1 * _ ≤ _; omega)
  have a4 : (Txt.mul (Str.ofString "1") (k : Int)).length + (rowS (cend (blen (blen (n + 1))))).length ≤ sizeLine := by
    rw [s1, mul_row, rowS_length, rowS_length, List.length_replicate]
    have := cend_len (blen (blen (n + 1)))
    exact small5 (by omega)
  have a5 : (Txt.mul (Str.ofString "1") (k : Int) ++ rowS (cend (blen (blen (n + 1))))).length + (rowS (bitsW (blen (n + 1)) k)).length ≤ sizeLine := by
    rw [s1, mul_row, rowS_append, rowS_length, rowS_length, List.length_append, List.length_replicate, bitsW_length]
    have := cend_len (blen (blen (n + 1)))
    exact small5 (by omega)
  have a6 : (Txt.mul (Str.ofString "1") (k : Int) ++ rowS (cend (blen (blen (n + 1)))) ++ rowS (bitsW (blen (n + 1)) k)).length + (rowS (bitsW (n + 1) (blen (n + 1) - 1))).length ≤ sizeLine := by
    rw [s1, mul_row, rowS_append, rowS_append, rowS_length, rowS_length, List.length_append, List.length_append, List.length_replicate, bitsW_length, bitsW_length]
    have := cend_len (blen (blen (n + 1)))
    exact small5 (by omega)
  have ar : Txt.mul (Str.ofString "1") (k : Int) ++ rowS (cend (blen (blen (n + 1)))) ++ rowS (bitsW (blen (n + 1)) k) ++ rowS (bitsW (n + 1) (blen (n + 1) - 1)) = rowS (cnt n) := by
    rw [s1, mul_row, rowS_append, rowS_append, rowS_append]
    unfold cnt
    rw [hk', List.append_assoc, List.append_assoc]
    rfl
  have ad : [V.int ((n : Int) + 1), V.int (((blen (n + 1) : Nat) : Int) - 1)] = [.int ((n + 1 : Nat) : Int), .int ((blen (n + 1) - 1 : Nat) : Int)] := by
    have : ((blen (n + 1) : Nat) : Int) - 1 = ((blen (n + 1) - 1 : Nat) : Int) := by omega
    rw [this]; rfl
  refine ⟨_, rfl, rfl, _, rfl, ?_⟩
  refine iteD (fun c => ?_) (fun c => ?_)
  · have hend : (Str.ofString "") = rowS (cend (blen (blen (n + 1)))) := by
      have := V.int.inj c
      rw [sE]; unfold cend; rw [if_pos (by omega)]
    rw [hend]
    refine ⟨_, rfl, .inr ⟨_, _, rfl, rfl, a1, a2, a3, _, rfl, .inr ⟨_, _, rfl, rfl, a4, _, rfl, _, rfl, _, _, rfl, (by omega), .inr ⟨_, _, rfl, rfl, a5, ?_⟩⟩⟩⟩
    refine ⟨_, rfl, _, rfl, _, _, rfl, rfl, n + 1, blen (n + 1) - 1, ad, (by omega), .inr ⟨_, _, rfl, rfl, a6, H, .refl (Same.refl _), ?_⟩⟩
    rw [ar]
    exact q
  · have hend : (Str.ofString "0") = rowS (cend (blen (blen (n + 1)))) := by
      have : ¬ k = 7 := fun z => c (by rw [z]; rfl)
      rw [s0]; unfold cend; rw [if_neg (by omega)]
    rw [hend]
    refine ⟨_, rfl, .inr ⟨_, _, rfl, rfl, a1, a2, a3, _, rfl, .inr ⟨_, _, rfl, rfl, a4, _, rfl, _, rfl, _, _, rfl, (by omega), .inr ⟨_, _, rfl, rfl, a5, ?_⟩⟩⟩⟩
    refine ⟨_, rfl, _, rfl, _, _, rfl, rfl, n + 1, blen (n + 1) - 1, ad, (by omega), .inr ⟨_, _, rfl, rfl, a6, H, .refl (Same.refl _), ?_⟩⟩
    rw [ar]
    exact q
def spDrawLower (C : Addr) : Sp := fun vs H Q _ => ∃ (p dx : Addr) (l : List Bool) (i d : Nat) (t : Bool), vs = [.ref p, .int d] ∧ H p = some (srcO C dx l i t) ∧ l.length ≤ 100000 ∧ i + d ≤ l.length ∧
  Q (.int ((rd 1 (((l.map (xor t)).drop i).take d) : Nat) : Int)) (upd H p (srcO C dx l (i + d) t))
theorem get_map {l : List Bool} {i : Nat} {t : Bool} (h : i < l.length) : ∃ b, l[i]? = some b ∧ (l.map (xor t)).getD i false = xor t b := by
  refine ⟨l[i], List.getElem?_eq_getElem h, ?_⟩
  rw [List.getD_eq_getElem?_getD, List.getElem?_map, List.getElem?_eq_getElem h]; rfl
theorem take_more {L : List Bool} {i j : Nat} {b : Bool} (h : i + j < L.length) (hb : L.getD (i + j) false = b) : (L.drop i).take (j + 1) = (L.drop i).take j ++ [b] := by
  rw [List.take_add_one, List.getElem?_drop]
  rw [List.getD_eq_getElem?_getD, List.getElem?_eq_getElem h] at hb
  rw [List.getElem?_eq_getElem h]
  have : L[i + j] = b := hb
  rw [this]; rfl
theorem ok_draw_lower_digits {f C : Addr} {fd : FuncData} (nb : NB mg) (c_C : Cls K C) (F : FunAt K mg "draw_lower_digits" s_draw_lower_digits ["source", "width"] f fd) (M_draw : MethOk P w K mg base 1 C "draw" ["self"] (spDraw C)) : DefOk P w K mg base 2 "draw_lower_digits" ["source", "width"] (spDrawLower C) := by
  refine F.ok sc_draw_lower_digits (fun vs H Q E h => ?_) (fun cdv A outer s H vs Q E hr h => ?_)
  · obtain ⟨p, dx, l, i, d, t, rfl, _⟩ := h; rfl
  obtain ⟨p, dx, l, i, d, t, rfl, hp, hl, hi, q⟩ := h
  refine ⟨_, (pss_cons (ps_set (i := 2) sc_draw_lower_digits.nd rfl (by first | exact Or.inl rfl | exact Or.inr rfl) pe_int)
    (pss_cons (ps_for PassesOwn.never rfl (pi_range1 rfl nb.range_ (pa_cons (pv 1) pa_nil)) (pg_name (i := 3) sc_draw_lower_digits.nd rfl (by first | exact Or.inl rfl | exact Or.inr rfl))
      (pss_one (ps_set (i := 2) sc_draw_lower_digits.nd rfl (by first | exact Or.inl rfl | exact Or.inr rfl) (pe_op oAdd (pe_op oMul pe_int (pv 2)) (pe_methD0 M_draw c_C hr (pv 0))))))
    (pss_one (ps_ret (pv 2))))), ?_⟩
  refine ⟨_, rfl, _, rfl, by omega, by omega, ?_⟩
  refine for_range (fun j σ H2 => ∃ z, σ = [some (.ref p), some (.int d), some (.int ((rd 1 (((l.map (xor t)).drop i).take j) : Nat) : Int)), z] ∧ H2 = upd H p (srcO C dx l (i + j) t)) ?_ ?_ ?_
  · exact ⟨none, rfl, (upd_self' hp).symm⟩
  · rintro j σ H2 hj ⟨z, rfl, rfl⟩
    have hj' : j < d := by omega
    obtain ⟨b, hb1, hb2⟩ := get_map (l := l) (t := t) (i := i + j) (by omega)
    have tm := take_more (L := l.map (xor t)) (i := i) (j := j) (by rw [List.length_map]; omega) hb2
    refine ⟨_, rfl, .inl ⟨_, _, rfl, rfl, .inl ⟨by decide, by decide⟩, _, rfl, p, dx, _, rfl, upd_same, look_meth _ _ _ (by decide +kernel) (by decide +kernel) (by decide +kernel), ?_⟩⟩
    refine ⟨p, dx, l, i + j, t, b, rfl, ⟨_, upd_same⟩, hl, hb1, .inl ⟨_, _, rfl, rfl, ?_⟩⟩
    have ev : (2 : Int) * ((rd 1 (((l.map (xor t)).drop i).take j) : Nat) : Int) + (((t ^^ b).toNat : Nat) : Int) = ((rd 1 (((l.map (xor t)).drop i).take (j + 1)) : Nat) : Int) := by
      rw [tm, rd_append]
      show _ = ((2 * rd 1 (((l.map (xor t)).drop i).take j) + (t ^^ b).toNat : Nat) : Int)
      omega
    rw [← ev]
    exact ⟨_, rfl, by rw [upd_upd']; rfl⟩
  · rintro σ H2 ⟨z, rfl, rfl⟩
    have e : ((d : Nat) : Int).toNat = d := by omega
    rw [e]
    exact ⟨_, rfl, _, .ins hp (fun b u hb e => by rw [upd_ne hb]; exact e) upd_same, q⟩
def spDrawCount (C : Addr) : Sp := fun vs H Q _ => ∃ (p dx : Addr) (l : List Bool) (i n : Nat) (t : Bool), vs = [.ref p] ∧ SrcAt H p C dx l i t ∧ l.length ≤ 100000 ∧ i ≤ l.length ∧ n + 1 < 2 ^ 255 ∧ cnt n <+: (l.map (xor t)).drop i ∧
  Q (.int (n : Nat)) (upd H p (srcO C dx l (i + (cnt n).length) t))
theorem ok_draw_count {f C : Addr} {fd : FuncData} (g_MOST_AHEAD : GlobV mg "MOST_AHEAD" (.int 7)) (c_C : Cls K C) (F : FunAt K mg "draw_count" s_draw_count ["source"] f fd) (M_draw : MethOk P w K mg base 1 C "draw" ["self"] (spDraw C)) (D_draw_lower_digits : DefOk P w K mg base 2 "draw_lower_digits" ["source", "width"] (spDrawLower C)) : DefOk P w K mg base 3 "draw_count" ["source"] (spDrawCount C) := by
  refine F.ok sc_draw_count (fun vs H Q E h => ?_) (fun cdv A outer s H vs Q E hr h => ?_)
  · obtain ⟨p, dx, l, i, n, t, rfl, _⟩ := h; rfl
  obtain ⟨p, dx, l, i, n, t, rfl, ⟨u0, hp⟩, hl, hi, hn, hc, q⟩ := h
  refine ⟨_, (pss_cons (ps_set (i := 1) sc_draw_count.nd rfl (by first | exact Or.inl rfl | exact Or.inr rfl) pe_int)
    (pss_cons (ps_while PassesOwn.never (PW.pt (pw_and (pt_cmpR oLt (pv 1) (pe_globV g_MOST_AHEAD) (nomark _)) (pw_and1 (pt_cmpR oEq (pe_methD0 M_draw c_C hr (pv 0)) pe_int (nomark _)))))
      (pss_one (ps_set (i := 1) sc_draw_count.nd rfl (by first | exact Or.inl rfl | exact Or.inr rfl) (pe_op oAdd (pv 1) pe_int))))
    (pss_cons (ps_set (i := 2) sc_draw_count.nd rfl (by first | exact Or.inl rfl | exact Or.inr rfl) (pe_callD D_draw_lower_digits hr (pa_cons (pv 0) (pa_cons (pv 1) pa_nil))))
    (pss_one (ps_ret (pe_op oSub (pe_callD D_draw_lower_digits hr (pa_cons (pv 0) (pa_cons (pe_op oSub (pv 2) pe_int) pa_nil))) pe_int)))))), ?_⟩
  have hd : blen (n + 1) ≤ 255 := blen_le hn
  have hpd : 0 < blen (n + 1) := blen_pos (by omega)
  have he : blen (blen (n + 1)) ≤ 8 := blen_le (by omega)
  have hq : 0 < blen (blen (n + 1)) := blen_pos (by omega)
  have ca := cnt_at hc (by rw [List.length_map]; exact hi)
  have fits := ca.fits
  have cl := cnt_len n
  rw [List.length_map] at fits
  refine ⟨fun m σ H2 => ∃ (j : Nat) (u : Int), j ≤ blen (blen (n + 1)) - 1 ∧ m = 8 - j ∧ σ = [some (.ref p), some (.int (j : Nat)), none] ∧ (j ≠ 0 → u = 0) ∧ H2 = upd H p (.ins C dx (fldsW (rowS l) ((i + j : Nat) : Int) t u)), ⟨8, 0, u0, Nat.zero_le _, rfl, rfl, (fun z => absurd rfl z), (upd_self' hp).symm⟩, ?_⟩
  rintro m σ H2 ⟨j, u, hj, rfl, rfl, hu, rfl⟩
  refine ⟨_, rfl, .inl ⟨_, _, rfl, rfl, _, rfl, ?_⟩⟩
  have v1 : rd 1 (((l.map (xor t)).drop (i + (blen (blen (n + 1)) - 1) + (cend (blen (blen (n + 1)))).length)).take (blen (blen (n + 1)) - 1)) = blen (n + 1) := by rw [ca.size]; exact rd_top (by omega)
  have v2 : rd 1 (((l.map (xor t)).drop (i + (blen (blen (n + 1)) - 1) + (cend (blen (blen (n + 1)))).length + (blen (blen (n + 1)) - 1))).take (blen (n + 1) - 1)) = n + 1 := by rw [ca.more]; exact rd_top (by omega)
  have ad : [V.ref p, V.int (((blen (n + 1) : Nat) : Int) - 1)] = [.ref p, .int ((blen (n + 1) - 1 : Nat) : Int)] := by
    have : ((blen (n + 1) : Nat) : Int) - 1 = ((blen (n + 1) - 1 : Nat) : Int) := by omega
    rw [this]
  have ae : ((n + 1 : Nat) : Int) - 1 = ((n : Nat) : Int) := by omega
  have ap : i + (blen (blen (n + 1)) - 1) + (cend (blen (blen (n + 1)))).length + (blen (blen (n + 1)) - 1) + (blen (n + 1) - 1) = i + (cnt n).length := by omega
  refine iteD (fun c => ?_) (fun c => ?_)
  · have hj7 : j < 7 := by omega
    obtain ⟨b, hb1, hb2⟩ := get_map (l := l) (t := t) (i := i + j) (by have := cend_pos (e := blen (blen (n + 1))); omega)
    refine ⟨_, rfl, p, dx, _, rfl, upd_same, look_meth _ _ _ (by decide +kernel) (by decide +kernel) (by decide +kernel), p, dx, l, i + j, t, b, rfl, ⟨_, upd_same⟩, hl, hb1, rfl, _, rfl, ?_⟩
    by_cases hjk : j < blen (blen (n + 1)) - 1
    · have o := ca.ones j hjk
      rw [hb2] at o
      rw [o]
      refine iteY rfl ⟨fun σ' H' => ∃ m', m' < 8 - j ∧ ∃ (j' : Nat) (u : Int), j' ≤ blen (blen (n + 1)) - 1 ∧ m' = 8 - j' ∧ σ' = [some (.ref p), some (.int (j' : Nat)), none] ∧ (j' ≠ 0 → u = 0) ∧ H' = upd H p (.ins C dx (fldsW (rowS l) ((i + j' : Nat) : Int) t u)), fun _ _ h => h, ?_⟩
      exact ⟨_, rfl, .inl ⟨_, _, rfl, rfl, 8 - (j + 1), by omega, j + 1, 0, by omega, rfl, rfl, (fun _ => rfl), by rw [upd_upd']; rfl⟩⟩
    · have ej : j = blen (blen (n + 1)) - 1 := by omega
      have o := ca.zero (by omega)
      rw [← ej, hb2] at o
      rw [o]
      refine iteN (by intro z; cases z) ?_
      have ec : (cend (blen (blen (n + 1)))).length = 1 := by unfold cend; rw [if_neg (by omega)]; rfl
      have ex : upd (upd H p (.ins C dx (fldsW (rowS l) ((i + j : Nat) : Int) t u))) p (.ins C dx (flds (rowS l) ((i + j + 1 : Nat) : Int) t)) = upd H p (srcO C dx l (i + (blen (blen (n + 1)) - 1) + (cend (blen (blen (n + 1)))).length) t) := by
        rw [upd_upd', ec, ← ej]
      rw [ex, ej]
      refine ⟨_, rfl, _, rfl, p, dx, l, i + (blen (blen (n + 1)) - 1) + (cend (blen (blen (n + 1)))).length, blen (blen (n + 1)) - 1, t, rfl, upd_same, hl, (by omega), ?_⟩
      rw [v1]
      refine ⟨_, rfl, _, rfl, _, _, rfl, rfl, p, dx, l, _, blen (n + 1) - 1, t, ad, upd_same, hl, (by omega), _, _, rfl, rfl, ?_⟩
      rw [v2, upd_upd', upd_upd', ap]
      refine ⟨_, .ins hp (fun b u hb e => by rw [upd_ne hb]; exact e) upd_same, ?_⟩
      dsimp only
      rw [ae]
      exact q
  · have ej : j = blen (blen (n + 1)) - 1 := by omega
    have ec : (cend (blen (blen (n + 1)))).length = 0 := by unfold cend; rw [if_pos (by omega)]; rfl
    have hj0 : j ≠ 0 := by omega
    rw [hu hj0]
    have ex : upd H p (srcO C dx l (i + j) t) = upd H p (srcO C dx l (i + (blen (blen (n + 1)) - 1) + (cend (blen (blen (n + 1)))).length) t) := by
      rw [ec, ← ej]; rfl
    rw [ex, ej]
    refine ⟨_, rfl, _, rfl, p, dx, l, i + (blen (blen (n + 1)) - 1) + (cend (blen (blen (n + 1)))).length, blen (blen (n + 1)) - 1, t, rfl, upd_same, hl, (by omega), ?_⟩
    rw [v1]
    refine ⟨_, rfl, _, rfl, _, _, rfl, rfl, p, dx, l, _, blen (n + 1) - 1, t, ad, upd_same, hl, (by omega), _, _, rfl, rfl, ?_⟩
    rw [v2, upd_upd', upd_upd', ap]
    refine ⟨_, .ins hp (fun b u hb e => by rw [upd_ne hb]; exact e) upd_same, ?_⟩
    dsimp only
    rw [ae]
    exact q
/-! ### whole numbers -/
def WholeIn (n : Int) : Prop := -(2 ^ 255) < n ∧ n < 2 ^ 255 - 1
def spWholeRow : Sp := fun vs H Q _ => ∃ n : Int, vs = [.int n] ∧ WholeIn n ∧ Q (.str (rowS (whl n))) H
theorem neg_nat {n : Int} (h : n < 0) (b : -(2 ^ 255) < n) : ∃ m : Nat, -1 - n = m ∧ m + 1 < 2 ^ 255 ∧ whl n = false :: (cnt m).map (!·) := by
  refine ⟨(-1 - n).toNat, by omega, by omega, ?_⟩
  unfold whl; rw [if_pos h]
theorem pos_nat {n : Int} (h : ¬ n < 0) (b : n < 2 ^ 255 - 1) : ∃ m : Nat, n = m ∧ m + 1 < 2 ^ 255 ∧ whl n = true :: cnt m := by
  refine ⟨n.toNat, by omega, by omega, ?_⟩
  unfold whl; rw [if_neg h]
theorem cnt_len5 {n : Nat} (h : n + 1 < 2 ^ 255) : (cnt n).length ≤ 269 := by
  have := cnt_length h
  have := blen_le h
  omega
theorem cons_row (b : Bool) (l : List Bool) : rowS [b] ++ rowS l = rowS (b :: l) := by rw [rowS_append]; rfl
theorem ok_whole_row {f : Addr} {fd : FuncData} (F : FunAt K mg "whole_row" s_whole_row ["n"] f fd) (D_count_row : DefOk P w K mg base 2 "count_row" ["n"] spCountRow) (D_turned_row : DefOk P w K mg base 1 "turned_row" ["row"] spTurnedRow) : DefOk P w K mg base 3 "whole_row" ["n"] spWholeRow := by
  refine F.ok sc_whole_row (fun vs H Q E h => ?_) (fun cdv A outer s H vs Q E hr h => ?_)
  · obtain ⟨n, rfl, _⟩ := h; rfl
  obtain ⟨n, rfl, hn, q⟩ := h
  refine ⟨_, (pss_cons (ps_if (pt_cmpR oLt (pv 0) pe_int (nomark _)) (pss_one (ps_ret (pe_op oAdd pe_str (pe_callD D_turned_row hr (pa_cons (pe_callD D_count_row hr (pa_cons (pe_op oSub (pe_un un_neg pe_int) (pv 0)) pa_nil)) pa_nil))))) pss_nil)
    (pss_one (ps_ret (pe_op oAdd pe_str (pe_callD D_count_row hr (pa_cons (pv 0) pa_nil)))))), ?_⟩
  refine ⟨_, rfl, .inl ⟨_, _, rfl, rfl, _, rfl, ?_⟩⟩
  refine iteD (fun c => ?_) (fun c => ?_)
  · obtain ⟨m, e, hm, ew⟩ := neg_nat c hn.1
    have lm := cnt_len5 hm
    refine ⟨_, rfl, _, rfl, _, _, rfl, rfl, m, (congrArg (fun x => [V.int x]) e), hm, cnt m, rfl, (by omega), .inr ⟨_, _, rfl, rfl, (by rw [s0, rowS_length, rowS_length, List.length_map]; exact small5 (by simp only [List.length_cons, List.length_nil]; omega)), H, .refl (Same.refl _), ?_⟩⟩
    rw [s0, cons_row, ← ew]
    exact q
  · obtain ⟨m, rfl, hm, ew⟩ := pos_nat c hn.2
    have lm := cnt_len5 hm
    refine ⟨_, rfl, m, rfl, hm, .inr ⟨_, _, rfl, rfl, (by rw [s1, rowS_length, rowS_length]; exact small5 (by simp only [List.length_cons, List.length_nil]; omega)), H, .refl (Same.refl _), ?_⟩⟩
    rw [s1, cons_row, ← ew]
    exact q
def spTurn (C : Addr) : Sp := fun vs H Q _ => ∃ (p dx : Addr) (z : Str) (i : Int) (t : Bool), vs = [.ref p] ∧ H p = some (.ins C dx (flds z i t)) ∧ Q .non (upd H p (.ins C dx (flds z i (!t))))
theorem ok_turn {f C : Addr} {fd : FuncData} (T : SrcCls K C) (F : Fun K "turn" "Source.turn" s_Source_turn f fd) : FnOk P w K mg base CX0 1 f fd ["self"] (spTurn C) := by
  refine F.ok sc_Source_turn (fun vs H Q E h => ?_) (fun cdv A outer s H vs Q E hr h => ?_)
  · obtain ⟨p, dx, z, i, t, rfl, _⟩ := h; rfl
  obtain ⟨p, dx, z, i, t, rfl, hp, q⟩ := h
  refine ⟨_, (pss_one (ps_fld (pv 0) (pe_notA (pe_fld (pv 0) rfl)) rfl)), ?_⟩
  refine ⟨_, rfl, p, C, dx, _, _, rfl, hp, T.cl, T.nT, look_turned .., t, rfl, _, rfl, p, C, dx, _, rfl, hp, T.cl, T.nT, (by show 5 < 1000; decide), ?_⟩
  rw [put_turned]
  exact q
def spDrawWhole (C : Addr) : Sp := fun vs H Q _ => ∃ (p dx : Addr) (l : List Bool) (i : Nat) (n : Int) (t : Bool), vs = [.ref p] ∧ H p = some (srcO C dx l i t) ∧ l.length ≤ 100000 ∧ i ≤ l.length ∧ WholeIn n ∧ whl n <+: (l.map (xor t)).drop i ∧
  Q (.int n) (upd H p (srcO C dx l (i + (whl n).length) t))
theorem head_bit {L : List Bool} {i : Nat} {b : Bool} {r : List Bool} (h : (b :: r) <+: L.drop i) : i < L.length ∧ L.getD i false = b ∧ r <+: L.drop (i + 1) := by
  obtain ⟨u, e⟩ := h
  have hl : i < L.length := by
    rcases Nat.lt_or_ge i L.length with z | z
    · exact z
    · rw [List.drop_eq_nil_of_le z] at e; cases e
  rw [List.drop_eq_getElem_cons hl] at e
  have e1 : b = L[i] := (List.cons.inj e).1
  refine ⟨hl, ?_, u, (List.cons.inj e).2⟩
  rw [List.getD_eq_getElem?_getD, List.getElem?_eq_getElem hl, e1]; rfl
theorem ok_draw_whole {f C : Addr} {fd : FuncData} (c_C : Cls K C) (F : FunAt K mg "draw_whole" s_draw_whole ["source"] f fd) (M_draw : MethOk P w K mg base 1 C "draw" ["self"] (spDraw C)) (M_turn : MethOk P w K mg base 1 C "turn" ["self"] (spTurn C)) (D_draw_count : DefOk P w K mg base 3 "draw_count" ["source"] (spDrawCount C)) : DefOk P w K mg base 4 "draw_whole" ["source"] (spDrawWhole C) := by
  refine F.ok sc_draw_whole (fun vs H Q E h => ?_) (fun cdv A outer s H vs Q E hr h => ?_)
  · obtain ⟨p, dx, l, i, n, t, rfl, _⟩ := h; rfl
  obtain ⟨p, dx, l, i, n, t, rfl, hp, hl, hi, hn, hc, q⟩ := h
  refine ⟨_, (pss_cons (ps_if (pt_cmpR oEq (pe_methD0 M_draw c_C hr (pv 0)) pe_int (nomark _)) (pss_one (ps_ret (pe_callD D_draw_count hr (pa_cons (pv 0) pa_nil)))) pss_nil)
    (pss_cons (ps_expr (pe_methD0 M_turn c_C hr (pv 0)))
    (pss_cons (ps_set (i := 1) sc_draw_whole.nd rfl (by first | exact Or.inl rfl | exact Or.inr rfl) (pe_op oSub (pe_un un_neg pe_int) (pe_callD D_draw_count hr (pa_cons (pv 0) pa_nil))))
    (pss_cons (ps_expr (pe_methD0 M_turn c_C hr (pv 0)))
    (pss_one (ps_ret (pv 1))))))), ?_⟩
  have nm : ∀ (z : Str) (i : Int) (t : Bool), (flds z i t).lookup ("draw" : Str) = none := fun _ _ _ => look_meth _ _ _ (by decide +kernel) (by decide +kernel) (by decide +kernel)
  have nt : ∀ (z : Str) (i : Int) (t : Bool), (flds z i t).lookup ("turn" : Str) = none := fun _ _ _ => look_meth _ _ _ (by decide +kernel) (by decide +kernel) (by decide +kernel)
  by_cases c : n < 0
  · obtain ⟨m, e, hm, ew⟩ := neg_nat c hn.1
    rw [ew] at hc
    obtain ⟨h1, h2, h3⟩ := head_bit hc
    rw [List.length_map] at h1
    obtain ⟨b, hb1, hb2⟩ := get_map (l := l) (t := t) h1
    rw [h2] at hb2
    refine ⟨_, rfl, p, dx, _, rfl, hp, nm .., p, dx, l, i, t, b, rfl, ⟨_, hp⟩, hl, hb1, rfl, _, rfl, ?_⟩
    rw [← hb2]
    refine iteN (by intro z; cases z) ?_
    refine ⟨_, rfl, p, dx, _, rfl, upd_same, nt .., p, dx, _, _, _, rfl, upd_same, ?_⟩
    rw [upd_upd']
    refine ⟨_, rfl, _, rfl, p, dx, l, i + 1, m, (!t), rfl, ⟨_, upd_same⟩, hl, (by omega), hm, ?_, ?_⟩
    · rw [← xor_not_map, ← List.map_drop]; exact prefix_map_not h3
    rw [upd_upd']
    refine ⟨_, _, rfl, rfl, ?_⟩
    refine ⟨_, rfl, p, dx, _, rfl, upd_same, nt .., p, dx, _, _, _, rfl, upd_same, ?_⟩
    rw [upd_upd', Bool.not_not]
    refine ⟨_, rfl, _, .ins hp (fun b u hb e => by rw [upd_ne hb]; exact e) upd_same, ?_⟩
    have en : (-1 : Int) - (m : Int) = n := by omega
    have el : i + 1 + (cnt m).length = i + (whl n).length := by rw [ew, List.length_cons, List.length_map]; omega
    dsimp only
    rw [en, el]
    exact q
  · obtain ⟨m, rfl, hm, ew⟩ := pos_nat c hn.2
    rw [ew] at hc
    obtain ⟨h1, h2, h3⟩ := head_bit hc
    rw [List.length_map] at h1
    obtain ⟨b, hb1, hb2⟩ := get_map (l := l) (t := t) h1
    rw [h2] at hb2
    refine ⟨_, rfl, p, dx, _, rfl, hp, nm .., p, dx, l, i, t, b, rfl, ⟨_, hp⟩, hl, hb1, rfl, _, rfl, ?_⟩
    rw [← hb2]
    refine iteY rfl ?_
    refine ⟨_, rfl, p, dx, l, i + 1, m, t, rfl, ⟨_, upd_same⟩, hl, (by omega), hm, h3, ?_⟩
    rw [upd_upd']
    refine ⟨_, .ins hp (fun b u hb e => by rw [upd_ne hb]; exact e) upd_same, ?_⟩
    have el : i + 1 + (cnt m).length = i + (whl (m : Int)).length := by rw [ew, List.length_cons]; omega
    rw [el]
    exact q
/-! ### fractions -/
theorem mI (l : List Int) : (l.map V.int).length = l.length := List.length_map ..
theorem small5' {n : Nat} (h : n ≤ 100001) : n ≤ sizeLine := Nat.le_trans h (by decide)
theorem same_updr {H H2 : Hp} {r : Addr} {o : HO} (hs : Same H H2) (hr : H r = none) : Same H (upd H2 r o) := fun b u e => by rw [upd_ne (ne_of_none e hr)]; exact hs b u e
def spStepsOf : Sp := fun vs H Q _ => ∃ (t : Addr) (p q : Int), vs = [.ref t] ∧ H t = some (.tup [.int p, .int q]) ∧ 0 ≤ q ∧ (euc p q).length ≤ 100000 ∧ (∀ x ∈ euc p q, x.natAbs < 2 ^ 1000) ∧ ∀ r, H r = none → Q (.ref r) (upd H r (.lst ((euc p q).map .int)))
theorem ok_steps_of {f : Addr} {fd : FuncData} (F : FunAt K mg "steps_of" s_steps_of ["fraction"] f fd) : DefOk P w K mg base 1 "steps_of" ["fraction"] spStepsOf := by
  refine F.ok sc_steps_of (fun vs H Q E h => ?_) (fun cdv A outer s H vs Q E hr h => ?_)
  · obtain ⟨t, p, q, rfl, _⟩ := h; rfl
  obtain ⟨t, p, q, rfl, ht, hq, hl, hb, hQ⟩ := h
  refine ⟨_, (pss_cons (ps_set (i := 1) sc_steps_of.nd rfl (by first | exact Or.inl rfl | exact Or.inr rfl) (pe_lst pa_nil))
    (pss_cons (ps_set (i := 2) sc_steps_of.nd rfl (by first | exact Or.inl rfl | exact Or.inr rfl) (pe_ix iAll (pv 0) pe_int (fun _ _ => rfl)))
    (pss_cons (ps_set (i := 3) sc_steps_of.nd rfl (by first | exact Or.inl rfl | exact Or.inr rfl) (pe_ix iAll (pv 0) pe_int (fun _ _ => rfl)))
    (pss_cons (ps_while PassesOwn.never (pt_cmpR oNe (pv 3) pe_int (nomark _))
      (pss_cons (ps_expr (pe_bm PySem.F.plainAttrs_list PySem.F.slot_list_append PySem.F.type_list_append mt_append (pv 1) (pa_cons (pe_op op_fdivB (pv 2) (pv 3)) pa_nil)))
      (pss_cons (ps_set (i := 4) sc_steps_of.nd rfl (by first | exact Or.inl rfl | exact Or.inr rfl) (pe_op op_mod (pv 2) (pv 3)))
      (pss_cons (ps_set (i := 2) sc_steps_of.nd rfl (by first | exact Or.inl rfl | exact Or.inr rfl) (pv 3))
      (pss_one (ps_set (i := 3) sc_steps_of.nd rfl (by first | exact Or.inl rfl | exact Or.inr rfl) (pv 4)))))))
    (pss_one (ps_ret (pv 1))))))), ?_⟩
  have a0 : atI [V.int p, V.int q] 0 = some (.int p) := atI_nat (j := 0) rfl
  have a1 : atI [V.int p, V.int q] 1 = some (.int q) := atI_nat (j := 1) rfl
  refine ⟨Nat.zero_le _, fun r hr2 => ?_⟩
  have ht2 := same_new (o := HO.lst []) hr2 t _ ht
  refine ⟨_, rfl, .inl (.inr ⟨_, _, _, _, rfl, rfl, SqT.of ht2, a0, _, rfl, .inl (.inr ⟨_, _, _, _, rfl, rfl, SqT.of ht2, a1, ?_⟩)⟩)⟩
  refine ⟨fun m σ H2 => ∃ (d : List Int) (x y : Int) (z : Option V), d ++ euc x y = euc p q ∧ 0 ≤ y ∧ m = y.toNat ∧ σ = [some (.ref t), some (.ref r), some (.int x), some (.int y), z] ∧ H2 = upd H r (.lst (d.map .int)), ⟨q.toNat, [], p, q, none, rfl, hq, rfl, rfl, rfl⟩, ?_⟩
  rintro m σ H2 ⟨d, x, y, z, hd, hy, rfl, rfl, rfl⟩
  refine ⟨_, rfl, rfl, _, rfl, ?_⟩
  rw [dec_int]
  by_cases hy0 : y = 0
  · subst hy0
    rw [euc_zero, List.append_nil] at hd
    subst hd
    refine iteF ⟨_, rfl, _, .new hr2 (same_new hr2) upd_same trivial, hQ r hr2⟩
  · have hy1 : 0 < y := by omega
    rw [euc_pos hy1] at hd
    have hmem : x / y ∈ euc p q := by rw [← hd]; exact List.mem_append_right _ (List.mem_cons_self ..)
    have hlen := congrArg List.length hd
    rw [List.length_append, List.length_cons] at hlen
    have eb : (y == 0) = false := by simpa using hy0
    rw [eb]
    have r1 := Int.emod_lt_of_pos x hy1
    have r0 := Int.emod_nonneg x hy0
    refine iteT ⟨fun σ' H' => ∃ m', m' < y.toNat ∧ ∃ (d : List Int) (x y : Int) (z : Option V), d ++ euc x y = euc p q ∧ 0 ≤ y ∧ m' = y.toNat ∧ σ' = [some (.ref t), some (.ref r), some (.int x), some (.int y), z] ∧ H' = upd H r (.lst (d.map .int)), fun _ _ h => h, ?_⟩
    refine ⟨_, rfl, .inl ⟨rfl, _, SqL.of upd_same⟩, _, rfl, _, rfl, _, _, rfl, rfl, ⟨hy1, .inr (Nat.le_trans (div_size hy1 (hb _ hmem)) (Nat.add_le_add_left (by decide) _))⟩, ?_⟩
    refine ⟨_, _, _, rfl, rfl, upd_same, (by rw [mI]; exact Nat.lt_of_lt_of_le (show d.length < 100001 by omega) (small5' (by decide))), ?_⟩
    refine ⟨_, rfl, _, rfl, _, _, rfl, rfl, hy1, _, rfl, _, rfl, ?_⟩
    refine ⟨(x % y).toNat, by omega, d ++ [x / y], y, x % y, _, ?_, r0, rfl, rfl, ?_⟩
    · rw [List.append_assoc]; exact hd
    · rw [upd_upd', List.map_append]; rfl
def spAreSteps : Sp := fun vs H Q _ => ∃ (a : Addr) (s : List Int), vs = [.ref a] ∧ H a = some (.lst (s.map .int)) ∧ s.length ≤ 100000 ∧ Q (.bl (goodB s)) H
theorem goodB_short {s : List Int} (h : s.length < 2) : goodB s = decide (s.length = 1) := by unfold goodB; rw [if_pos h]
theorem goodB_long {s : List Int} (h : ¬ s.length < 2) : goodB s = (s.tail.all (fun x => decide (0 < x)) && decide (1 < s.getLastD 0)) := by unfold goodB; rw [if_neg h]
theorem atI_lastI {s : List Int} (h : s ≠ []) : atI (s.map V.int) (-1) = some (.int (s.getLastD 0)) := by
  rw [List.getLastD_eq_getLast?, List.getLast?_eq_some_getLast h, Option.getD_some]
  conv => lhs; rw [← List.dropLast_concat_getLast h, List.map_append]
  exact atI_last _ _
theorem ok_are_steps {f : Addr} {fd : FuncData} (nb : NB mg) (F : FunAt K mg "are_steps" s_are_steps ["steps"] f fd) : DefOk P w K mg base 1 "are_steps" ["steps"] spAreSteps := by
  refine F.ok sc_are_steps (fun vs H Q E h => ?_) (fun cdv A outer s H vs Q E hr h => ?_)
  · obtain ⟨a, s, rfl, _⟩ := h; rfl
  obtain ⟨a, s, rfl, ha, hl, q⟩ := h
  refine ⟨_, (pss_cons (ps_if (pt_cmpR oLt (pe_callB call_len rfl nb.len_ bo_len (pa_cons (pv 0) pa_nil)) pe_int (nomark _)) (pss_one (ps_ret (pe_cmpR oEq (pe_callB call_len rfl nb.len_ bo_len (pa_cons (pv 0) pa_nil)) pe_int (nomark _)))) pss_nil)
    (pss_one (ps_ret (pe_and (pe_callB (call_all rfl) rfl nb.all_ bo_all (pa_cons (pe_comp ["step"] [] rfl (by decide +kernel) trivial (piAll (pe_slice slAll (pv 0) (po_some pe_int) po_none)) (fun _ _ _ _ _ => (pg_name (i := 0) (show (["step"] : List Str).Nodup by decide +kernel) rfl (by first | exact Or.inl rfl | exact Or.inr rfl))) (fun _ _ _ _ _ => pts_nil) (fun _ _ _ _ _ => (pe_cmpR oGt (pv 0) pe_int (nomark _)))) pa_nil)) (pe_one (pe_cmpR oGt (pe_ix iAll (pv 0) (pe_un un_neg pe_int) (fun _ _ => rfl)) pe_int (nomark _))))))), ?_⟩
  refine ⟨_, rfl, _, _, rfl, .inl ⟨_, SqL.of ha, rfl⟩, .inl ⟨_, _, rfl, rfl, _, rfl, ?_⟩⟩
  rw [mI]
  refine iteD (fun c => ?_) (fun c => ?_)
  · refine ⟨_, rfl, _, _, rfl, .inl ⟨_, SqL.of ha, rfl⟩, rfl, H, .refl (Same.refl _), ?_⟩
    have e : decide (V.int ((s.map V.int).length : Nat) = V.int 1) = goodB s := by
      rw [goodB_short (by omega), mI, dec_int]
      apply Bool.eq_iff_iff.mpr; simp; omega
    rw [e]; exact q
  · have hs : s ≠ [] := by intro e; subst e; simp at c
    refine .inl ⟨_, rfl, _, rfl, .inl ⟨a, _, rfl, SqL.of ha, fun p hp => ⟨_, rfl, ⟨_, SqL.of upd_same⟩, fun D hD => ?_⟩⟩⟩
    rw [cutV_tail, ← List.map_drop] at hD ⊢
    have s1' := same_new (o := HO.lst ((s.drop 1).map V.int)) hp
    refine comp_list (xs := (s.drop 1).map V.int) (fun x => match x with | .int i => .bl (decide (0 < i)) | _ => x) (fun σ => σ.length = 1) (by rw [mI, List.length_drop]; exact small5 (by omega)) rfl hD (SqL.of upd_same) ?_ ?_
    · rintro x hx σ1 H1 hS hs1 R hR
      obtain ⟨i, _, rfl⟩ := List.mem_map.mp hx
      obtain ⟨z, rfl⟩ := one_slot hS
      exact ⟨_, rfl, _, _, rfl, rfl, hR _ rfl⟩
    · rw [List.map_map]
      have s2' := s1'.trans (same_new (o := HO.lst ((s.drop 1).map fun i => V.bl (decide (0 < i)))) hD)
      refine ⟨D, (s.drop 1).map fun i => decide (0 < i), rfl, SqL.of (by rw [upd_same, List.map_map]; rfl), _, rfl, ?_⟩
      have fin : goodB s = (((s.drop 1).map fun i => decide (0 < i)).all id && decide (1 < s.getLastD 0)) := by
        rw [goodB_long (by omega), ← List.drop_one, List.all_map]; rfl
      cases hall : ((s.drop 1).map fun i => decide (0 < i)).all id with
      | false =>
        rw [hall, Bool.false_and] at fin
        rw [fin] at q
        exact iteF ⟨H, .refl s2', q⟩
      | true =>
        rw [hall, Bool.true_and] at fin
        rw [fin] at q
        exact iteT ⟨_, rfl, _, rfl, .inl (.inl ⟨_, _, _, _, rfl, rfl, SqL.of (s2' _ _ ha), atI_lastI hs, _, _, rfl, rfl, H, .refl s2', q⟩)⟩
def spFracOf : Sp := fun vs H Q _ => ∃ (a : Addr) (s : List Int), vs = [.ref a] ∧ H a = some (.lst (s.map .int)) ∧ s.length ≤ 1000 ∧ (∀ x ∈ s, x.natAbs < 2 ^ 1000) ∧ Good s ∧ ∀ r, H r = none → Q (.ref r) (upd H r (.tup [.int (frac s).1, .int (frac s).2]))
theorem frac_bits {s : List Int} (hl : s.length ≤ 1000) (hb : ∀ x ∈ s, x.natAbs < 2 ^ 1000) : Builtin.Int.intBits (frac s).1 ≤ 2 ^ 20 ∧ Builtin.Int.intBits (frac s).2 ≤ 2 ^ 20 := by
  obtain ⟨h1, h2⟩ := frac_size hb
  have k : (1000 + 1) * s.length + 1 ≤ 2 ^ 20 := by
    have : (1000 + 1) * s.length ≤ 1001 * 1000 := Nat.mul_le_mul_left _ hl
    omega
  exact ⟨Nat.le_trans (bits_le h1) k, Nat.le_trans (bits_le h2) k⟩
theorem take_rev {s : List Int} {i : Nat} {x : V} (h : ((s.take (s.length - 1)).map V.int)[((s.take (s.length - 1)).map V.int).length - 1 - i]? = some x) (hi : i < s.length - 1) : ∃ y, x = .int y ∧ s.drop (s.length - 1 - (i + 1)) = y :: s.drop (s.length - 1 - i) ∧ y ∈ s := by
  rw [mI, List.length_take, Nat.min_eq_left (by omega), List.getElem?_map, List.getElem?_take_of_lt (by omega)] at h
  have hk : s.length - 1 - 1 - i < s.length := by omega
  rw [List.getElem?_eq_getElem hk] at h
  refine ⟨_, (Option.some.inj h).symm, ?_, List.getElem_mem hk⟩
  have e1 : s.length - 1 - (i + 1) = s.length - 1 - 1 - i := by omega
  have e2 : s.length - 1 - i = s.length - 1 - 1 - i + 1 := by omega
  rw [e1, e2]
  exact List.drop_eq_getElem_cons hk
theorem drop_last {s : List Int} (h : s ≠ []) : s.drop (s.length - 1) = [s.getLastD 0] := by
  rw [List.getLastD_eq_getLast?, List.getLast?_eq_some_getLast h, Option.getD_some]
  conv => lhs; rw [← List.dropLast_concat_getLast h]
  rw [List.length_append, List.length_singleton, Nat.add_sub_cancel, List.drop_left]
theorem ok_fraction_of {f : Addr} {fd : FuncData} (nb : NB mg) (F : FunAt K mg "fraction_of" s_fraction_of ["steps"] f fd) (D_are_steps : DefOk P w K mg base 1 "are_steps" ["steps"] spAreSteps) : DefOk P w K mg base 2 "fraction_of" ["steps"] spFracOf := by
  refine F.ok sc_fraction_of (fun vs H Q E h => ?_) (fun cdv A outer s H vs Q E hr h => ?_)
  · obtain ⟨a, s, rfl, _⟩ := h; rfl
  obtain ⟨a, s, rfl, ha, hl, hb, hg, q⟩ := h
  refine ⟨_, (pss_cons (ps_if (pt_not (pt_truth (pe_callD D_are_steps hr (pa_cons (pv 0) pa_nil)) (fun _ => rfl))) (pss_one ps_never) pss_nil)
    (pss_cons (ps_set (i := 1) sc_fraction_of.nd rfl (by first | exact Or.inl rfl | exact Or.inr rfl) (pe_ix iAll (pv 0) (pe_un un_neg pe_int) (fun _ _ => rfl)))
    (pss_cons (ps_set (i := 2) sc_fraction_of.nd rfl (by first | exact Or.inl rfl | exact Or.inr rfl) pe_int)
    (pss_cons (ps_for PassesOwn.never rfl (pi_rev rfl nb.reversed_ (pe_slice slAll (pv 0) po_none (po_some (pe_un un_neg pe_int)))) (pg_name (i := 3) sc_fraction_of.nd rfl (by first | exact Or.inl rfl | exact Or.inr rfl))
      (pss_cons (ps_set (i := 4) sc_fraction_of.nd rfl (by first | exact Or.inl rfl | exact Or.inr rfl) (pv 1))
      (pss_cons (ps_set (i := 1) sc_fraction_of.nd rfl (by first | exact Or.inl rfl | exact Or.inr rfl) (pe_op oAdd (pe_op op_mulB (pv 3) (pv 1)) (pv 2)))
      (pss_one (ps_set (i := 2) sc_fraction_of.nd rfl (by first | exact Or.inl rfl | exact Or.inr rfl) (pv 4))))))
    (pss_one (ps_ret (pe_tup (pa_cons (pv 1) (pa_cons (pv 2) pa_nil))))))))), ?_⟩
  have hs := hg.ne
  have hn : 0 < s.length := List.length_pos_iff.mpr hs
  refine ⟨_, rfl, a, s, rfl, ha, by omega, _, rfl, ?_⟩
  rw [(goodB_iff s).mpr hg]
  refine iteF ⟨_, rfl, _, rfl, .inl (.inl ⟨_, _, _, _, rfl, rfl, SqL.of ha, atI_lastI hs, ?_⟩)⟩
  refine ⟨_, rfl, _, rfl, _, rfl, .inl ⟨a, _, rfl, SqL.of ha, fun p hp => ?_⟩⟩
  rw [cutV_init, ← List.map_take, mI]
  have s1' := same_new (o := HO.lst ((s.take (s.length - 1)).map V.int)) hp
  refine ⟨p, _, rfl, SqL.of upd_same, ?_⟩
  have hlen : ((s.take (s.length - 1)).map V.int).length = s.length - 1 := by rw [mI, List.length_take]; omega
  refine for_rev (fun i σ H2 => H2 = upd H p (.lst ((s.take (s.length - 1)).map V.int)) ∧ ∃ z1 z2, σ = [some (.ref a), some (.int (frac (s.drop (s.length - 1 - i))).1), some (.int (frac (s.drop (s.length - 1 - i))).2), z1, z2]) ?_ ?_ ?_ ?_
  · refine ⟨rfl, none, none, ?_⟩
    rw [Nat.sub_zero, drop_last hs]
    show _ = [_, some (V.int (s.getLastD 0 * 1 + 0)), some (V.int 1), _, _]
    rw [Int.mul_one, Int.add_zero]; rfl
  · rintro i σ H2 hi ⟨rfl, _⟩; exact SqL.of upd_same
  · rintro i x σ H2 hi hx ⟨rfl, z1, z2, rfl⟩
    rw [hlen] at hi
    obtain ⟨y, rfl, ed, hy⟩ := take_rev hx hi
    have fb := frac_bits (s := s.drop (s.length - 1 - i)) (by rw [List.length_drop]; omega) fun x hx => hb x (List.mem_of_mem_drop hx)
    refine ⟨_, rfl, _, rfl, _, rfl, _, _, rfl, rfl, ⟨Nat.le_trans (bits_lt (hb y hy)) (by decide), fb.1⟩, _, rfl, .inl ⟨_, _, rfl, rfl, _, rfl, rfl, some (.int y), some (.int (frac (s.drop (s.length - 1 - i))).1), ?_⟩⟩
    rw [ed]; rfl
  · rintro σ H2 ⟨rfl, z1, z2, rfl⟩
    rw [hlen, Nat.sub_self, List.drop_zero]
    refine ⟨_, rfl, _, rfl, (by show 2 ≤ sizeLine; decide), fun r hr2 => ?_⟩
    exact ⟨_, .new (s1'.free hr2) (s1'.trans (same_new hr2)) upd_same trivial, q r (s1'.free hr2)⟩
/-! ### rows of fractions -/
instance (n : Int) : Decidable (WholeIn n) := inferInstanceAs (Decidable (_ ∧ _))
def RowIn (s : List Int) : Prop := (∀ x ∈ s.take 1, WholeIn x) ∧ ∀ x ∈ s.drop 1, CountIn (x - 1)
instance (s : List Int) : Decidable (RowIn s) := inferInstanceAs (Decidable (_ ∧ _))
def spHasWhole : Sp := fun vs H Q _ => ∃ n : Int, vs = [.int n] ∧ Q (.bl (decide (WholeIn n))) H
theorem ok_has_whole_row {f : Addr} {fd : FuncData} (F : FunAt K mg "has_whole_row" s_has_whole_row ["n"] f fd) (D_is_count : DefOk P w K mg base 1 "is_count" ["n"] spIsCount) : DefOk P w K mg base 2 "has_whole_row" ["n"] spHasWhole := by
  refine F.ok sc_has_whole_row (fun vs H Q E h => ?_) (fun cdv A outer s H vs Q E hr h => ?_)
  · obtain ⟨n, rfl, _⟩ := h; rfl
  obtain ⟨n, rfl, q⟩ := h
  refine ⟨_, (pss_one (ps_ret (pe_callD D_is_count hr (pa_cons (pe_ifExp (pt_cmpR oGe (pv 0) pe_int (nomark _)) (pv 0) (pe_op oSub (pe_un un_neg pe_int) (pv 0))) pa_nil)))), ?_⟩
  refine ⟨_, rfl, _, _, rfl, rfl, _, rfl, ?_⟩
  refine iteD (fun c => ?_) (fun c => ?_)
  · refine ⟨_, rfl, _, rfl, H, .refl (Same.refl _), ?_⟩
    have e : decide (CountIn n) = decide (WholeIn n) := decide_eq_decide.mpr (by unfold CountIn WholeIn; omega)
    rw [e]; exact q
  · refine ⟨_, rfl, _, rfl, _, _, rfl, rfl, _, rfl, H, .refl (Same.refl _), ?_⟩
    have e : decide (CountIn (-1 - n)) = decide (WholeIn n) := decide_eq_decide.mpr (by unfold CountIn WholeIn; omega)
    rw [e]; exact q
def spCd : Sp := fun vs H Q _ => ∃ p q : Int, vs = [.int p, .int q] ∧ 0 ≤ q ∧ Q (.int (cd p q)) H
theorem ok_common_divisor {f : Addr} {fd : FuncData} (F : FunAt K mg "common_divisor" s_common_divisor ["one", "other"] f fd) : DefOk P w K mg base 1 "common_divisor" ["one", "other"] spCd := by
  refine F.ok sc_common_divisor (fun vs H Q E h => ?_) (fun cdv A outer s H vs Q E hr h => ?_)
  · obtain ⟨p, q, rfl, _⟩ := h; rfl
  obtain ⟨p, q, rfl, hq, hQ⟩ := h
  refine ⟨_, (pss_cons (ps_while PassesOwn.never (pt_cmpR oNe (pv 1) pe_int (nomark _))
      (pss_cons (ps_set (i := 2) sc_common_divisor.nd rfl (by first | exact Or.inl rfl | exact Or.inr rfl) (pe_op op_mod (pv 0) (pv 1)))
      (pss_cons (ps_set (i := 0) sc_common_divisor.nd rfl (by first | exact Or.inl rfl | exact Or.inr rfl) (pv 1))
      (pss_one (ps_set (i := 1) sc_common_divisor.nd rfl (by first | exact Or.inl rfl | exact Or.inr rfl) (pv 2))))))
    (pss_one (ps_ret (pv 0)))), ?_⟩
  refine ⟨fun m σ H2 => ∃ (x y : Int) (z : Option V), cd x y = cd p q ∧ 0 ≤ y ∧ m = y.toNat ∧ σ = [some (.int x), some (.int y), z] ∧ H2 = H, ⟨q.toNat, p, q, none, rfl, hq, rfl, rfl, rfl⟩, ?_⟩
  rintro m σ H2 ⟨x, y, z, hd, hy, rfl, rfl, rfl⟩
  refine ⟨_, rfl, rfl, _, rfl, ?_⟩
  rw [dec_int]
  by_cases hy0 : y = 0
  · subst hy0
    rw [cd_zero] at hd
    subst hd
    exact iteF ⟨_, rfl, H2, .refl (Same.refl _), hQ⟩
  · have hy1 : 0 < y := by omega
    rw [cd_pos hy1] at hd
    have eb : (y == 0) = false := by simpa using hy0
    rw [eb]
    have r1 := Int.emod_lt_of_pos x hy1
    have r0 := Int.emod_nonneg x hy0
    refine iteT ⟨fun σ' H' => ∃ m', m' < y.toNat ∧ ∃ (x y : Int) (z : Option V), cd x y = cd p q ∧ 0 ≤ y ∧ m' = y.toNat ∧ σ' = [some (.int x), some (.int y), z] ∧ H' = H2, fun _ _ h => h, ?_⟩
    refine ⟨_, rfl, _, rfl, _, _, rfl, rfl, hy1, _, rfl, _, rfl, ?_⟩
    exact ⟨(x % y).toNat, by omega, y, x % y, _, hd, r0, rfl, rfl, rfl⟩
def spIsFrac : Sp := fun vs H Q _ => ∃ (t : Addr) (p q : Int), vs = [.ref t] ∧ H t = some (.tup [.int p, .int q]) ∧ Q (.bl (decide (0 < q ∧ cd p q = 1))) H
theorem ok_is_fraction {f : Addr} {fd : FuncData} (F : FunAt K mg "is_fraction" s_is_fraction ["fraction"] f fd) (D_common_divisor : DefOk P w K mg base 1 "common_divisor" ["one", "other"] spCd) : DefOk P w K mg base 2 "is_fraction" ["fraction"] spIsFrac := by
  refine F.ok sc_is_fraction (fun vs H Q E h => ?_) (fun cdv A outer s H vs Q E hr h => ?_)
  · obtain ⟨t, p, q, rfl, _⟩ := h; rfl
  obtain ⟨t, p, q, rfl, ht, hQ⟩ := h
  refine ⟨_, (pss_one (ps_ret (pe_and (pe_cmpR oGt (pe_ix iAll (pv 0) pe_int (fun _ _ => rfl)) pe_int (nomark _)) (pe_one (pe_cmpR oEq (pe_callD D_common_divisor hr (pa_cons (pe_ix iAll (pv 0) pe_int (fun _ _ => rfl)) (pa_cons (pe_ix iAll (pv 0) pe_int (fun _ _ => rfl)) pa_nil))) pe_int (nomark _)))))), ?_⟩
  have a0 : atI [V.int p, V.int q] 0 = some (.int p) := atI_nat (j := 0) rfl
  have a1 : atI [V.int p, V.int q] 1 = some (.int q) := atI_nat (j := 1) rfl
  refine ⟨_, rfl, .inl (.inr ⟨_, _, _, _, rfl, rfl, SqT.of ht, a1, _, _, rfl, rfl, _, rfl, ?_⟩)⟩
  refine iteD (fun c => ?_) (fun c => ?_)
  · refine ⟨_, rfl, .inl (.inr ⟨_, _, _, _, rfl, rfl, SqT.of ht, a0, _, rfl, .inl (.inr ⟨_, _, _, _, rfl, rfl, SqT.of ht, a1, p, q, rfl, Int.le_of_lt c, rfl, H, .refl (Same.refl _), ?_⟩)⟩)⟩
    have e : decide (V.int (cd p q) = V.int 1) = decide (0 < q ∧ cd p q = 1) := decide_eq_decide.mpr ⟨fun z => ⟨c, V.int.inj z⟩, fun z => congrArg V.int z.2⟩
    rw [e]; exact hQ
  · refine ⟨H, .refl (Same.refl _), ?_⟩
    rw [decide_eq_false (fun z => c z.1)] at hQ
    exact hQ
def spHasRow : Sp := fun vs H Q _ => ∃ (t : Addr) (p q : Int), vs = [.ref t] ∧ H t = some (.tup [.int p, .int q]) ∧ (0 < q → (euc p q).length ≤ 100000 ∧ ∀ x ∈ euc p q, x.natAbs < 2 ^ 1000) ∧ Q (.bl (decide (0 < q ∧ cd p q = 1 ∧ RowIn (euc p q)))) H
theorem ok_has_fraction_row {f : Addr} {fd : FuncData} (nb : NB mg) (F : FunAt K mg "has_fraction_row" s_has_fraction_row ["fraction"] f fd) (D_is_fraction : DefOk P w K mg base 2 "is_fraction" ["fraction"] spIsFrac) (D_steps_of : DefOk P w K mg base 1 "steps_of" ["fraction"] spStepsOf) (D_has_whole_row : DefOk P w K mg base 2 "has_whole_row" ["n"] spHasWhole) (D_is_count : DefOk P w K mg base 1 "is_count" ["n"] spIsCount) : DefOk P w K mg base 3 "has_fraction_row" ["fraction"] spHasRow := by
  refine F.ok sc_has_fraction_row (fun vs H Q E h => ?_) (fun cdv A outer s H vs Q E hr h => ?_)
  · obtain ⟨t, p, q, rfl, _⟩ := h; rfl
  obtain ⟨t, p, q, rfl, ht, hb, hQ⟩ := h
  refine ⟨_, (pss_cons (ps_if (pt_not (pt_truth (pe_callD D_is_fraction hr (pa_cons (pv 0) pa_nil)) (fun _ => rfl))) (pss_one (ps_ret pe_bl)) pss_nil)
    (pss_cons (ps_set (i := 1) sc_has_fraction_row.nd rfl (by first | exact Or.inl rfl | exact Or.inr rfl) (pe_callD D_steps_of hr (pa_cons (pv 0) pa_nil)))
    (pss_one (ps_ret (pe_and (pe_callD D_has_whole_row hr (pa_cons (pe_ix iAll (pv 1) pe_int (fun _ _ => rfl)) pa_nil)) (pe_one (pe_callB (call_all rfl) rfl nb.all_ bo_all (pa_cons (pe_comp ["step"] [] rfl (by decide +kernel) trivial (piAll (pe_slice slAll (pv 1) (po_some pe_int) po_none)) (fun _ _ _ _ _ => (pg_name (i := 0) (show (["step"] : List Str).Nodup by decide +kernel) rfl (by first | exact Or.inl rfl | exact Or.inr rfl))) (fun _ _ _ _ _ => pts_nil) (fun _ _ _ _ _ => (pe_callD D_is_count hr (pa_cons (pe_op oSub (pv 0) pe_int) pa_nil)))) pa_nil)))))))), ?_⟩
  refine ⟨_, rfl, t, p, q, rfl, ht, _, rfl, ?_⟩
  by_cases hf : 0 < q ∧ cd p q = 1
  · rw [decide_eq_true hf]
    obtain ⟨hl, hz⟩ := hb hf.1
    refine iteF ⟨_, rfl, t, p, q, rfl, ht, Int.le_of_lt hf.1, hl, hz, fun r hr2 => ?_⟩
    have s1' := same_new (o := HO.lst ((euc p q).map V.int)) hr2
    obtain ⟨a, es, he⟩ : ∃ a es, euc p q = a :: es := ⟨_, _, euc_pos hf.1⟩
    rw [he] at hQ s1' hl ⊢
    have a0 : atI ((a :: es).map V.int) 0 = some (.int a) := atI_nat (j := 0) rfl
    refine ⟨_, rfl, .inl (.inl ⟨_, _, _, _, rfl, rfl, SqL.of upd_same, a0, a, rfl, _, rfl, ?_⟩)⟩
    refine iteD (fun c => ?_) (fun c => ?_)
    · refine .inl ⟨_, rfl, _, rfl, .inl ⟨r, _, rfl, SqL.of upd_same, fun g hg => ⟨_, rfl, ⟨_, SqL.of upd_same⟩, fun D hD => ?_⟩⟩⟩
      rw [cutV_tail, ← List.map_drop] at hD ⊢
      have s2' := s1'.trans (same_new (o := HO.lst (((a :: es).drop 1).map V.int)) hg)
      refine comp_list (xs := ((a :: es).drop 1).map V.int) (fun x => match x with | .int i => .bl (decide (CountIn (i - 1))) | _ => x) (fun σ => σ.length = 1) (by rw [mI, List.length_drop]; exact small5 (by omega)) rfl hD (SqL.of upd_same) ?_ ?_
      · rintro x hx σ1 H1 hS hs1 R hR
        obtain ⟨i, _, rfl⟩ := List.mem_map.mp hx
        obtain ⟨z, rfl⟩ := one_slot hS
        exact ⟨_, rfl, _, _, rfl, rfl, _, rfl, hR _ rfl⟩
      · rw [List.map_map]
        have s3' := s2'.trans (same_new (o := HO.lst (((a :: es).drop 1).map fun i => V.bl (decide (CountIn (i - 1))))) hD)
        refine ⟨D, ((a :: es).drop 1).map fun i => decide (CountIn (i - 1)), rfl, SqL.of (by rw [upd_same, List.map_map]; rfl), H, .refl s3', ?_⟩
        have e : (((a :: es).drop 1).map fun i => decide (CountIn (i - 1))).all id = decide (0 < q ∧ cd p q = 1 ∧ RowIn (a :: es)) := by
          rw [List.all_map]
          apply Bool.eq_iff_iff.mpr
          rw [List.all_eq_true, decide_eq_true_eq]
          constructor
          · intro h
            refine ⟨hf.1, hf.2, fun x hx => ?_, fun x hx => of_decide_eq_true (h x hx)⟩
            rw [List.mem_singleton.mp hx]; exact c
          · intro h x hx
            exact decide_eq_true (h.2.2.2 x hx)
        rw [e]; exact hQ
    · refine ⟨H, .refl s1', ?_⟩
      rw [decide_eq_false (fun z => c (z.2.2.1 a (List.mem_singleton.mpr rfl)))] at hQ
      exact hQ
  · rw [decide_eq_false hf]
    refine iteT ⟨H, .refl (Same.refl _), ?_⟩
    rw [decide_eq_false (fun z => hf ⟨z.1, z.2.1⟩)] at hQ
    exact hQ
def spRowOf : Sp := fun vs H Q _ => ∃ (a : Addr) (s : List Int), vs = [.ref a] ∧ H a = some (.lst (s.map .int)) ∧ s ≠ [] ∧ s.length ≤ 10000 ∧ RowIn s ∧ Q (.str (rowS (frow s))) H
theorem piece_len {k : Nat} {x : Int} {b : Bool} (h : if k = 0 then WholeIn x else CountIn (x - 1)) : (piece k x b).length ≤ 271 := by
  unfold piece
  rw [List.length_map, List.length_append, List.length_singleton]
  by_cases hk : k = 0
  · rw [if_pos hk] at h ⊢
    have := whl_length h.1 h.2
    omega
  · rw [if_neg hk] at h ⊢
    have := cnt_len5 (n := (x - 1).toNat) (by unfold CountIn at h; omega)
    omega
theorem RowIn.at {s : List Int} {i : Nat} {x : Int} (h : RowIn s) (hx : s[i]? = some x) : if i = 0 then WholeIn x else CountIn (x - 1) := by
  match s, i, hx with
  | a :: r, 0, hx => cases hx; exact h.1 x (List.mem_singleton.mpr rfl)
  | a :: r, i + 1, hx => exact h.2 x (List.mem_of_getElem? hx)
theorem sum_len {l : List (List Bool)} (h : ∀ p ∈ l, p.length ≤ 271) : ((l.map rowS).map (·.length)).sum ≤ 271 * l.length := by
  induction l with
  | nil => exact Nat.zero_le _
  | cons p r ih =>
    rw [List.map_cons, List.map_cons, List.sum_cons, List.length_cons, rowS_length]
    have := h p (List.mem_cons_self ..)
    have := ih fun q hq => h q (List.mem_cons_of_mem _ hq)
    omega
theorem tail_turn (x : List Bool) (b : Bool) : rowS x ++ rowS [b] = rowS (x ++ [b]) := by rw [rowS_append]
theorem ok_row_of_steps {f : Addr} {fd : FuncData} (nb : NB mg) (F : FunAt K mg "row_of_steps" s_row_of_steps ["steps"] f fd) (D_whole_row : DefOk P w K mg base 3 "whole_row" ["n"] spWholeRow) (D_count_row : DefOk P w K mg base 2 "count_row" ["n"] spCountRow) (D_turned_row : DefOk P w K mg base 1 "turned_row" ["row"] spTurnedRow) : DefOk P w K mg base 4 "row_of_steps" ["steps"] spRowOf := by
  refine F.ok sc_row_of_steps (fun vs H Q E h => ?_) (fun cdv A outer s H vs Q E hr h => ?_)
  · obtain ⟨a, s, rfl, _⟩ := h; rfl
  obtain ⟨a, s, rfl, ha, hne, hl, hR, q⟩ := h
  refine ⟨_, (pss_cons (ps_set (i := 1) sc_row_of_steps.nd rfl (by first | exact Or.inl rfl | exact Or.inr rfl) (pe_op oSub (pe_callB call_len rfl nb.len_ bo_len (pa_cons (pv 0) pa_nil)) pe_int))
    (pss_cons (ps_set (i := 2) sc_row_of_steps.nd rfl (by first | exact Or.inl rfl | exact Or.inr rfl) (pe_lst pa_nil))
    (pss_cons (ps_for PassesOwn.never rfl (pi_enum rfl nb.enumerate_ (pv 0)) (pg_tup rfl (pgs_cons (pg_name (i := 3) sc_row_of_steps.nd rfl (by first | exact Or.inl rfl | exact Or.inr rfl)) (pgs_cons (pg_name (i := 4) sc_row_of_steps.nd rfl (by first | exact Or.inl rfl | exact Or.inr rfl)) pgs_nil)))
      (pss_cons (ps_set (i := 5) sc_row_of_steps.nd rfl (by first | exact Or.inl rfl | exact Or.inr rfl) (pe_ifExp (pt_cmpR oEq (pv 3) pe_int (nomark _)) (pe_callD D_whole_row hr (pa_cons (pv 4) pa_nil)) (pe_callD D_count_row hr (pa_cons (pe_op oSub (pv 4) pe_int) pa_nil))))
      (pss_cons (ps_set (i := 5) sc_row_of_steps.nd rfl (by first | exact Or.inl rfl | exact Or.inr rfl) (pe_op oAdd (pv 5) (pe_ifExp (pt_cmpR oEq (pv 3) (pv 1) (nomark _)) pe_str pe_str)))
      (pss_one (ps_expr (pe_bm PySem.F.plainAttrs_list PySem.F.slot_list_append PySem.F.type_list_append mt_append (pv 2) (pa_cons (pe_ifExp (pt_cmpR oEq (pe_op op_mod (pv 3) pe_int) pe_int (nomark _)) (pe_callD D_turned_row hr (pa_cons (pv 5) pa_nil)) (pv 5)) pa_nil)))))))
    (pss_one (ps_ret (pe_bm PySem.F.plainAttrs_str PySem.F.slot_str_join PySem.F.type_str_join mt_join pe_str (pa_cons (pv 2) pa_nil))))))), ?_⟩
  refine ⟨_, rfl, _, _, rfl, .inl ⟨_, SqL.of ha, rfl⟩, _, _, rfl, rfl, Nat.zero_le _, fun r hr2 => ?_⟩
  have sB := same_new (o := HO.lst []) hr2
  refine ⟨_, rfl, a, _, rfl, SqL.of (sB _ _ ha), ?_⟩
  refine for_enum (xs := s.map V.int) (fun i σ H2 => Same H H2 ∧ H2 r = some (.lst (((pcs 0 s).take i).map (fun p => V.str (rowS p)))) ∧ ∃ z1 z2 z3, σ = [some (.ref a), some (.int ((s.length : Nat) - 1 : Int)), some (.ref r), z1, z2, z3]) ?_ ?_ ?_ ?_
  · exact ⟨sB, upd_same, none, none, none, by dsimp only; rw [mI]; rfl⟩
  · rintro i σ H2 hi ⟨hs, _⟩; exact SqL.of (hs _ _ ha)
  · rintro i xv σ H2 T hx hT ⟨hs, er, z1, z2, z3, rfl⟩
    obtain ⟨x, hxs, rfl⟩ : ∃ x, s[i]? = some x ∧ xv = .int x := by
      rw [List.getElem?_map] at hx
      cases h : s[i]? with
      | none => rw [h] at hx; cases hx
      | some y => rw [h] at hx; exact ⟨y, rfl, (Option.some.inj hx).symm⟩
    have hi : i < s.length := (List.getElem?_eq_some_iff.mp hxs).1
    have hin := hR.at hxs
    have hpc := pcs_get (k := 0) hxs
    rw [Nat.zero_add] at hpc
    have hs2 := hs.trans (same_new (o := HO.tup [V.int ((i : Nat) : Int), V.int x]) hT)
    have er2 := same_new (o := HO.tup [V.int ((i : Nat) : Int), V.int x]) hT _ _ er
    refine ⟨T, _, rfl, SqT.of upd_same, rfl, _, _, rfl, _, _, rfl, rfl, ?_⟩
    refine ⟨_, rfl, rfl, _, rfl, ?_⟩
    by_cases hi0 : i = 0
    · rw [if_pos hi0] at hin
      have e0 : decide (V.int ((i : Nat) : Int) = V.int 0) = true := decide_eq_true (congrArg V.int (by omega))
      rw [e0]
      refine iteT ⟨_, rfl, x, rfl, hin, _, rfl, _, rfl, _, rfl, rfl, _, rfl, ?_⟩
      obtain ⟨x', ex'⟩ : ∃ x', x' = whl x := ⟨_, rfl⟩
      have ex : (if i = 0 then whl x else cnt (x - 1).toNat) = x' := by rw [if_pos hi0, ex']
      have lx : x'.length ≤ 270 := by rw [ex']; exact whl_length hin.1 hin.2
      rw [← ex']
      have lp : (x' ++ [!decide (i + 1 = s.length)]).length ≤ 271 := by rw [List.length_append, List.length_singleton]; omega
      refine iteD (fun c2 => ?_) (fun c2 => ?_)
      · -- the last one
        have el : i + 1 = s.length := by have := V.int.inj c2; omega
        have eb : [!decide (i + 1 = s.length)] = [false] := by rw [decide_eq_true el]; rfl
        refine .inr ⟨_, _, rfl, rfl, (by rw [s0, rowS_length, rowS_length]; exact small5 (by rw [List.length_singleton]; omega)), ?_⟩
        rw [s0, tail_turn, ← eb]
        refine ⟨_, rfl, .inl ⟨rfl, _, SqL.of er2⟩, _, rfl, _, _, rfl, rfl, (by show (0 : Int) < 2; decide), rfl, _, rfl, ?_⟩
        have happ : ∀ z : List V, z = ((pcs 0 s).take i).map (fun p => V.str (rowS p)) → z.length < sizeLine := fun z hz => by rw [hz, List.length_map, List.length_take]; exact Nat.lt_of_lt_of_le (show min i (pcs 0 s).length < 100001 by omega) (small5' (by decide))
        have fin : ∀ p : List Bool, p = piece i x (decide (i + 1 = s.length)) → ((pcs 0 s).take i).map (fun p => V.str (rowS p)) ++ [V.str (rowS p)] = ((pcs 0 s).take (i + 1)).map (fun p => V.str (rowS p)) := fun p hp => by rw [List.take_add_one, hpc, List.map_append, hp]; rfl
        refine iteD (fun c3 => ?_) (fun c3 => ?_)
        · have ho : odd i = true := decide_eq_true (by have := V.int.inj c3; omega)
          refine ⟨_, rfl, _, rfl, by omega, ?_⟩
          refine ⟨_, _, _, rfl, rfl, er2, happ _ rfl, ?_⟩
          rw [fin _ (by unfold piece; rw [ho, ex]; exact List.map_congr_left fun b _ => by cases b <;> rfl)]
          exact ⟨same_updr hs2 hr2, upd_same, _, _, _, rfl⟩
        · have ho : odd i = false := decide_eq_false (fun z => c3 (congrArg V.int (by omega)))
          refine ⟨_, rfl, ?_⟩
          refine ⟨_, _, _, rfl, rfl, er2, happ _ rfl, ?_⟩
          rw [fin _ (by unfold piece; rw [ho, ex, map_xorF])]
          exact ⟨same_updr hs2 hr2, upd_same, _, _, _, rfl⟩
      · have el : ¬ i + 1 = s.length := fun z => c2 (congrArg V.int (by omega))
        have eb : [!decide (i + 1 = s.length)] = [true] := by rw [decide_eq_false el]; rfl
        refine .inr ⟨_, _, rfl, rfl, (by rw [s1, rowS_length, rowS_length]; exact small5 (by rw [List.length_singleton]; omega)), ?_⟩
        rw [s1, tail_turn, ← eb]
        refine ⟨_, rfl, .inl ⟨rfl, _, SqL.of er2⟩, _, rfl, _, _, rfl, rfl, (by show (0 : Int) < 2; decide), rfl, _, rfl, ?_⟩
        have happ : ∀ z : List V, z = ((pcs 0 s).take i).map (fun p => V.str (rowS p)) → z.length < sizeLine := fun z hz => by rw [hz, List.length_map, List.length_take]; exact Nat.lt_of_lt_of_le (show min i (pcs 0 s).length < 100001 by omega) (small5' (by decide))
        have fin : ∀ p : List Bool, p = piece i x (decide (i + 1 = s.length)) → ((pcs 0 s).take i).map (fun p => V.str (rowS p)) ++ [V.str (rowS p)] = ((pcs 0 s).take (i + 1)).map (fun p => V.str (rowS p)) := fun p hp => by rw [List.take_add_one, hpc, List.map_append, hp]; rfl
        refine iteD (fun c3 => ?_) (fun c3 => ?_)
        · have ho : odd i = true := decide_eq_true (by have := V.int.inj c3; omega)
          refine ⟨_, rfl, _, rfl, by omega, ?_⟩
          refine ⟨_, _, _, rfl, rfl, er2, happ _ rfl, ?_⟩
          rw [fin _ (by unfold piece; rw [ho, ex]; exact List.map_congr_left fun b _ => by cases b <;> rfl)]
          exact ⟨same_updr hs2 hr2, upd_same, _, _, _, rfl⟩
        · have ho : odd i = false := decide_eq_false (fun z => c3 (congrArg V.int (by omega)))
          refine ⟨_, rfl, ?_⟩
          refine ⟨_, _, _, rfl, rfl, er2, happ _ rfl, ?_⟩
          rw [fin _ (by unfold piece; rw [ho, ex, map_xorF])]
          exact ⟨same_updr hs2 hr2, upd_same, _, _, _, rfl⟩
    · rw [if_neg hi0] at hin
      have e0 : decide (V.int ((i : Nat) : Int) = V.int 0) = false := decide_eq_false (fun z => hi0 (by have := V.int.inj z; omega))
      rw [e0]
      have hc1 := hin.1
      have hc2 := hin.2
      refine iteF ⟨_, rfl, _, _, rfl, rfl, (x - 1).toNat, (congrArg (fun y => [V.int y]) (by omega)), (by omega), _, rfl, _, rfl, _, rfl, rfl, _, rfl, ?_⟩
      obtain ⟨x', ex'⟩ : ∃ x', x' = cnt (x - 1).toNat := ⟨_, rfl⟩
      have ex : (if i = 0 then whl x else cnt (x - 1).toNat) = x' := by rw [if_neg hi0, ex']
      have lx : x'.length ≤ 270 := by rw [ex']; have := cnt_len5 (n := (x - 1).toNat) (by omega); omega
      rw [← ex']
      have lp : (x' ++ [!decide (i + 1 = s.length)]).length ≤ 271 := by rw [List.length_append, List.length_singleton]; omega
      refine iteD (fun c2 => ?_) (fun c2 => ?_)
      · -- the last one
        have el : i + 1 = s.length := by have := V.int.inj c2; omega
        have eb : [!decide (i + 1 = s.length)] = [false] := by rw [decide_eq_true el]; rfl
        refine .inr ⟨_, _, rfl, rfl, (by rw [s0, rowS_length, rowS_length]; exact small5 (by rw [List.length_singleton]; omega)), ?_⟩
        rw [s0, tail_turn, ← eb]
        refine ⟨_, rfl, .inl ⟨rfl, _, SqL.of er2⟩, _, rfl, _, _, rfl, rfl, (by show (0 : Int) < 2; decide), rfl, _, rfl, ?_⟩
        have happ : ∀ z : List V, z = ((pcs 0 s).take i).map (fun p => V.str (rowS p)) → z.length < sizeLine := fun z hz => by rw [hz, List.length_map, List.length_take]; exact Nat.lt_of_lt_of_le (show min i (pcs 0 s).length < 100001 by omega) (small5' (by decide))
        have fin : ∀ p : List Bool, p = piece i x (decide (i + 1 = s.length)) → ((pcs 0 s).take i).map (fun p => V.str (rowS p)) ++ [V.str (rowS p)] = ((pcs 0 s).take (i + 1)).map (fun p => V.str (rowS p)) := fun p hp => by rw [List.take_add_one, hpc, List.map_append, hp]; rfl
        refine iteD (fun c3 => ?_) (fun c3 => ?_)
        · have ho : odd i = true := decide_eq_true (by have := V.int.inj c3; omega)
          refine ⟨_, rfl, _, rfl, by omega, ?_⟩
          refine ⟨_, _, _, rfl, rfl, er2, happ _ rfl, ?_⟩
          rw [fin _ (by unfold piece; rw [ho, ex]; exact List.map_congr_left fun b _ => by cases b <;> rfl)]
          exact ⟨same_updr hs2 hr2, upd_same, _, _, _, rfl⟩
        · have ho : odd i = false := decide_eq_false (fun z => c3 (congrArg V.int (by omega)))
          refine ⟨_, rfl, ?_⟩
          refine ⟨_, _, _, rfl, rfl, er2, happ _ rfl, ?_⟩
          rw [fin _ (by unfold piece; rw [ho, ex, map_xorF])]
          exact ⟨same_updr hs2 hr2, upd_same, _, _, _, rfl⟩
      · have el : ¬ i + 1 = s.length := fun z => c2 (congrArg V.int (by omega))
        have eb : [!decide (i + 1 = s.length)] = [true] := by rw [decide_eq_false el]; rfl
        refine .inr ⟨_, _, rfl, rfl, (by rw [s1, rowS_length, rowS_length]; exact small5 (by rw [List.length_singleton]; omega)), ?_⟩
        rw [s1, tail_turn, ← eb]
        refine ⟨_, rfl, .inl ⟨rfl, _, SqL.of er2⟩, _, rfl, _, _, rfl, rfl, (by show (0 : Int) < 2; decide), rfl, _, rfl, ?_⟩
        have happ : ∀ z : List V, z = ((pcs 0 s).take i).map (fun p => V.str (rowS p)) → z.length < sizeLine := fun z hz => by rw [hz, List.length_map, List.length_take]; exact Nat.lt_of_lt_of_le (show min i (pcs 0 s).length < 100001 by omega) (small5' (by decide))
        have fin : ∀ p : List Bool, p = piece i x (decide (i + 1 = s.length)) → ((pcs 0 s).take i).map (fun p => V.str (rowS p)) ++ [V.str (rowS p)] = ((pcs 0 s).take (i + 1)).map (fun p => V.str (rowS p)) := fun p hp => by rw [List.take_add_one, hpc, List.map_append, hp]; rfl
        refine iteD (fun c3 => ?_) (fun c3 => ?_)
        · have ho : odd i = true := decide_eq_true (by have := V.int.inj c3; omega)
          refine ⟨_, rfl, _, rfl, by omega, ?_⟩
          refine ⟨_, _, _, rfl, rfl, er2, happ _ rfl, ?_⟩
          rw [fin _ (by unfold piece; rw [ho, ex]; exact List.map_congr_left fun b _ => by cases b <;> rfl)]
          exact ⟨same_updr hs2 hr2, upd_same, _, _, _, rfl⟩
        · have ho : odd i = false := decide_eq_false (fun z => c3 (congrArg V.int (by omega)))
          refine ⟨_, rfl, ?_⟩
          refine ⟨_, _, _, rfl, rfl, er2, happ _ rfl, ?_⟩
          rw [fin _ (by unfold piece; rw [ho, ex, map_xorF])]
          exact ⟨same_updr hs2 hr2, upd_same, _, _, _, rfl⟩
  · rintro σ H2 ⟨hs, er, z1, z2, z3, rfl⟩
    have et : (pcs 0 s).take (s.map V.int).length = pcs 0 s := by rw [mI, ← pcs_length 0 s, List.take_length]
    rw [et] at er
    obtain ⟨a0, s0', rfl⟩ := List.exists_cons_of_ne_nil hne
    have hlen : ∀ p ∈ pcs 0 (a0 :: s0'), p.length ≤ 271 := fun p hp => by
      obtain ⟨i, hi, rfl⟩ := List.mem_iff_getElem.mp hp
      have hi' : i < (a0 :: s0').length := by rw [← pcs_length 0 (a0 :: s0')]; exact hi
      have hg := pcs_get (k := 0) (List.getElem?_eq_getElem hi')
      rw [List.getElem?_eq_getElem hi, Nat.zero_add] at hg
      rw [Option.some.inj hg]
      exact piece_len (hR.at (List.getElem?_eq_getElem hi'))
    refine ⟨rfl, _, rfl, _, r, (pcs 0 (a0 :: s0')).map rowS, rfl, rfl, SqL.of (by rw [er, List.map_map]; rfl), ?_, H, .refl hs, ?_⟩
    · have := sum_len hlen
      have e0 : (Str.ofString "").length = 0 := by decide +kernel
      rw [e0, Nat.mul_zero, Nat.add_zero]
      rw [pcs_length] at this
      omega
    · rw [join_rows, pcs_all]; exact q
def spFracRow : Sp := fun vs H Q _ => ∃ (t : Addr) (p q : Int), vs = [.ref t] ∧ H t = some (.tup [.int p, .int q]) ∧ 0 < q ∧ (euc p q).length ≤ 10000 ∧ (∀ x ∈ euc p q, x.natAbs < 2 ^ 1000) ∧ cd p q = 1 ∧ RowIn (euc p q) ∧ Q (.str (rowS (frow (euc p q)))) H
theorem ok_fraction_row {f : Addr} {fd : FuncData} (F : FunAt K mg "fraction_row" s_fraction_row ["fraction"] f fd) (D_has_fraction_row : DefOk P w K mg base 3 "has_fraction_row" ["fraction"] spHasRow) (D_steps_of : DefOk P w K mg base 1 "steps_of" ["fraction"] spStepsOf) (D_row_of_steps : DefOk P w K mg base 4 "row_of_steps" ["steps"] spRowOf) : DefOk P w K mg base 5 "fraction_row" ["fraction"] spFracRow := by
  refine F.ok sc_fraction_row (fun vs H Q E h => ?_) (fun cdv A outer s H vs Q E hr h => ?_)
  · obtain ⟨t, p, q, rfl, _⟩ := h; rfl
  obtain ⟨t, p, q, rfl, ht, hq, hl, hz, hc, hR, hQ⟩ := h
  refine ⟨_, (pss_cons (ps_if (pt_not (pt_truth (pe_callD D_has_fraction_row hr (pa_cons (pv 0) pa_nil)) (fun _ => rfl))) (pss_one ps_never) pss_nil)
    (pss_one (ps_ret (pe_callD D_row_of_steps hr (pa_cons (pe_callD D_steps_of hr (pa_cons (pv 0) pa_nil)) pa_nil))))), ?_⟩
  refine ⟨_, rfl, t, p, q, rfl, ht, fun _ => ⟨by omega, hz⟩, _, rfl, ?_⟩
  rw [decide_eq_true ⟨hq, hc, hR⟩]
  refine iteF ⟨_, rfl, t, p, q, rfl, ht, Int.le_of_lt hq, by omega, hz, fun r hr2 => ?_⟩
  exact ⟨r, _, rfl, upd_same, by rw [euc_pos hq]; exact List.cons_ne_nil _ _, hl, hR, H, .refl (same_new hr2), hQ⟩
def spDrawFrac (C : Addr) : Sp := fun vs H Q _ => ∃ (p dx : Addr) (l : List Bool) (i : Nat) (s : List Int) (t : Bool), vs = [.ref p] ∧ H p = some (srcO C dx l i t) ∧ l.length ≤ 100000 ∧ i ≤ l.length ∧ Good s ∧ s.length ≤ 1000 ∧ RowIn s ∧ frow s <+: (l.map (xor t)).drop i ∧
  ∀ r, H r = none → Q (.ref r) (upd (upd H p (srcO C dx l (i + (frow s).length) t)) r (.tup [.int (frac s).1, .int (frac s).2]))
theorem row_size {s : List Int} (h : RowIn s) : ∀ x ∈ s, x.natAbs < 2 ^ 1000 := by
  intro x hx
  obtain ⟨i, hi, rfl⟩ := List.mem_iff_getElem.mp hx
  have z := h.at (List.getElem?_eq_getElem hi)
  refine Nat.lt_of_lt_of_le (m := 2 ^ 256) ?_ (Nat.pow_le_pow_right (by decide) (by decide))
  split at z
  · unfold WholeIn at z; omega
  · unfold CountIn at z; omega
theorem drop_prefix {a b L : List Bool} {i : Nat} (h : a ++ b <+: L.drop i) : b <+: L.drop (i + a.length) := by
  obtain ⟨u, e⟩ := h
  refine ⟨u, ?_⟩
  rw [← List.drop_drop, ← e, List.append_assoc, List.drop_left]
theorem pre_le {a L : List Bool} {i : Nat} (h : a <+: L.drop i) (hi : i ≤ L.length) : i + a.length ≤ L.length := by
  have := h.length_le
  rw [List.length_drop] at this
  omega
theorem take_snoc {s : List Int} {j : Nat} {x : Int} (h : s[j]? = some x) : s.take (j + 1) = s.take j ++ [x] := by rw [List.take_add_one, h]; rfl
structure St2 (H H2 : Hp) (p r : Addr) (o u : HO) : Prop where
  hp : H2 p = some o
  hr : H2 r = some u
  hs : ∀ b v, b ≠ p → H b = some v → H2 b = some v
theorem St2.setp {H H2 : Hp} {p r : Addr} {o u o' : HO} (h : St2 H H2 p r o u) (n : r ≠ p) : St2 H (upd H2 p o') p r o' u := ⟨upd_same, by rw [upd_ne n]; exact h.hr, fun b v hb e => by rw [upd_ne hb]; exact h.hs b v hb e⟩
theorem St2.setr {H H2 : Hp} {p r : Addr} {o u u' : HO} (h : St2 H H2 p r o u) (n : r ≠ p) (hr : H r = none) : St2 H (upd H2 r u') p r o u' := ⟨by rw [upd_ne (Ne.symm n)]; exact h.hp, upd_same, fun b v hb e => by rw [upd_ne (ne_of_none e hr)]; exact h.hs b v hb e⟩
theorem St2.free {H H2 : Hp} {p r b : Addr} {o u : HO} (h : St2 H H2 p r o u) (e : H2 b = none) : H b = none := by
  cases q : H b with
  | none => rfl
  | some v =>
    by_cases hb : b = p
    · subst hb; rw [h.hp] at e; cases e
    · rw [h.hs b v hb q] at e; cases e
def spWish (C : Addr) : Sp := fun vs H Q _ => ∃ (p dx : Addr) (z : Str) (i : Int) (t : Bool) (u v : Int), vs = [.ref p, .int v] ∧ H p = some (.ins C dx (fldsW z i t u)) ∧ Q .non (upd H p (.ins C dx (fldsW z i t v)))
theorem ok_wish {f C : Addr} {fd : FuncData} (T : SrcCls K C) (F : Fun K "wish" "Source.wish" s_Source_wish f fd) : FnOk P w K mg base CX0 1 f fd ["self", "sign"] (spWish C) := by
  refine F.ok sc_Source_wish (fun vs H Q E h => ?_) (fun cdv A outer s H vs Q E hr h => ?_)
  · obtain ⟨p, dx, z, i, t, u, v, rfl, _⟩ := h; rfl
  obtain ⟨p, dx, z, i, t, u, v, rfl, hp, q⟩ := h
  refine ⟨_, (pss_one (ps_fld (pv 0) (pv 1) rfl)), ?_⟩
  refine ⟨_, rfl, _, rfl, p, C, dx, _, rfl, hp, T.cl, T.nW, (by show 5 < 1000; decide), ?_⟩
  rw [put_wished]
  exact q
theorem ok_draw_fraction {f C : Addr} {fd : FuncData} (nb : NB mg) (c_C : Cls K C) (F : FunAt K mg "draw_fraction" s_draw_fraction ["source"] f fd) (M_draw : MethOk P w K mg base 1 C "draw" ["self"] (spDraw C)) (M_turn : MethOk P w K mg base 1 C "turn" ["self"] (spTurn C)) (M_wish : MethOk P w K mg base 1 C "wish" ["self", "sign"] (spWish C)) (M_refuse : MethOk P w K mg base 1 C "refuse" ["self"] spNo) (D_draw_whole : DefOk P w K mg base 4 "draw_whole" ["source"] (spDrawWhole C)) (D_draw_count : DefOk P w K mg base 3 "draw_count" ["source"] (spDrawCount C))
    (D_are_steps : DefOk P w K mg base 1 "are_steps" ["steps"] spAreSteps) (D_fraction_of : DefOk P w K mg base 2 "fraction_of" ["steps"] spFracOf) : DefOk P w K mg base 5 "draw_fraction" ["source"] (spDrawFrac C) := by
  refine F.ok sc_draw_fraction (fun vs H Q E h => ?_) (fun cdv A outer s H vs Q E hr h => ?_)
  · obtain ⟨p, dx, l, i, s, t, rfl, _⟩ := h; rfl
  obtain ⟨p, dx, l, i, s, t, rfl, hp, hl, hi, hg, hsl, hR, hc, q⟩ := h
  refine ⟨_, (pss_cons (ps_set (i := 1) sc_draw_fraction.nd rfl (by first | exact Or.inl rfl | exact Or.inr rfl) (pe_lst (pa_cons (pe_callD D_draw_whole hr (pa_cons (pv 0) pa_nil)) pa_nil)))
    (pss_cons (ps_while PassesOwn.never (pt_cmpR oEq (pe_methD0 M_draw c_C hr (pv 0)) pe_int (nomark _))
      (pss_cons (ps_expr (pe_methD0 M_turn c_C hr (pv 0)))
      (pss_cons (ps_expr (pe_methD M_wish c_C hr (pv 0) (pa_cons pe_int pa_nil)))
      (pss_cons (ps_expr (pe_bm PySem.F.plainAttrs_list PySem.F.slot_list_append PySem.F.type_list_append mt_append (pv 1) (pa_cons (pe_op oAdd (pe_callD D_draw_count hr (pa_cons (pv 0) pa_nil)) pe_int) pa_nil)))
      (pss_one (ps_if (pt_cmpR oEq (pe_ix iAll (pv 1) (pe_un un_neg pe_int) (fun _ _ => rfl)) pe_int (nomark _)) (pss_one (ps_expr (pe_methD M_wish c_C hr (pv 0) (pa_cons pe_int pa_nil)))) pss_nil))))))
    (pss_cons (ps_if (pt_not (pt_truth (pe_callD D_are_steps hr (pa_cons (pv 1) pa_nil)) (fun _ => rfl))) (pss_one (ps_expr (pe_methD0 M_refuse c_C hr (pv 0)))) pss_nil)
    (pss_cons (ps_if (pt_cmpR oEq (pe_op op_mod (pe_callB call_len rfl nb.len_ bo_len (pa_cons (pv 1) pa_nil)) pe_int) pe_int (nomark _)) (pss_one (ps_expr (pe_methD0 M_turn c_C hr (pv 0)))) pss_nil)
    (pss_one (ps_ret (pe_callD D_fraction_of hr (pa_cons (pv 1) pa_nil)))))))), ?_⟩
  have nw : ∀ (z : Str) (i : Int) (t : Bool) (u : Int), (fldsW z i t u).lookup ("wish" : Str) = none := fun _ _ _ _ => look_meth _ _ _ (by decide +kernel) (by decide +kernel) (by decide +kernel)
  have nm : ∀ (z : Str) (i : Int) (t : Bool) (u : Int), (fldsW z i t u).lookup ("draw" : Str) = none := fun _ _ _ _ => look_meth _ _ _ (by decide +kernel) (by decide +kernel) (by decide +kernel)
  have nt : ∀ (z : Str) (i : Int) (t : Bool), (flds z i t).lookup ("turn" : Str) = none := fun _ _ _ => look_meth _ _ _ (by decide +kernel) (by decide +kernel) (by decide +kernel)
  obtain ⟨a, es, rfl⟩ := List.exists_cons_of_ne_nil hg.ne
  have ha := hR.1 a (List.mem_singleton.mpr rfl)
  have hc' : whl a ++ more es <+: (l.map (xor t)).drop i := hc
  have hlm : (l.map (xor t)).length = l.length := List.length_map ..
  refine ⟨_, rfl, p, dx, l, i, a, t, rfl, hp, hl, hi, ha, ⟨_, (List.append_assoc ..).symm.trans hc'.choose_spec⟩, (by show 1 ≤ sizeLine; decide), fun r hr2 => ?_⟩
  have hrp : r ≠ p := fun z => by rw [z, upd_same] at hr2; cases hr2
  have hrH : H r = none := by rw [upd_ne hrp] at hr2; exact hr2
  have S0 : St2 H (upd (upd H p (srcO C dx l (i + (whl a).length) t)) r (.lst [V.int a])) p r (srcO C dx l (i + (whl a).length) t) (.lst [V.int a]) := ⟨by rw [upd_ne (Ne.symm hrp)]; exact upd_same, upd_same, fun b v hb e => by rw [upd_ne (ne_of_none e hrH), upd_ne hb]; exact e⟩
  obtain ⟨s, hs⟩ : ∃ s, s = a :: es := ⟨_, rfl⟩
  have hn0 : 0 < s.length := by rw [hs]; exact Nat.succ_pos _
  have hfl : (frow s).length = (whl a).length + (more es).length := by rw [hs]; exact List.length_append
  rw [← hs] at hg hsl hR q
  refine ⟨fun m σ H2 => ∃ (j I : Nat) (T : Bool) (u : Int), 1 ≤ j ∧ j ≤ s.length ∧ m = s.length - j ∧ σ = [some (.ref p), some (.ref r)] ∧ St2 H H2 p r (srcW C dx l I T u) (.lst ((s.take j).map V.int)) ∧ more (s.drop j) <+: (l.map (xor T)).drop I ∧ I ≤ l.length ∧ I + (more (s.drop j)).length = i + (frow s).length ∧ T = (t ^^ odd (j + 1)),
    ⟨s.length - 1, 1, i + (whl a).length, t, 0, Nat.le_refl _, hn0, rfl, rfl, ?_, ?_, ?_, ?_, ?_⟩, ?_⟩
  · rw [hs]; exact S0
  · rw [hs]; exact drop_prefix hc'
  · have := pre_le (a := whl a) ⟨_, (List.append_assoc ..).symm.trans hc'.choose_spec⟩ (by rw [hlm]; exact hi); rw [hlm] at this; exact this
  · rw [hfl]; subst hs; show i + (whl a).length + (more es).length = _; omega
  · cases t <;> rfl
  rintro m σ H2 ⟨j, I, T, u, hj1, hj2, rfl, rfl, S, hpre, hI, hlen, hT⟩
  have hlT : (l.map (xor T)).length = l.length := List.length_map ..
  rcases Nat.lt_or_ge j s.length with hj | hj
  · -- one step more
    have hsj : s[j]? = some (s[j]'hj) := List.getElem?_eq_getElem hj
    have hin := hR.at hsj
    rw [if_neg (by omega)] at hin
    have ed : s.drop j = s[j]'hj :: s.drop (j + 1) := List.drop_eq_getElem_cons hj
    generalize s[j]'hj = b at hsj hin ed
    rw [ed] at hpre hlen
    obtain ⟨hb1, hb2, hb3⟩ := head_bit hpre
    rw [hlT] at hb1
    obtain ⟨bit, hbit, hbx⟩ := get_map (l := l) (t := T) (i := I) hb1
    rw [hb2] at hbx
    have hb4 := prefix_map_not hb3
    rw [List.map_drop, xor_not_map] at hb4
    have hcin := hin.1
    have hcin2 := hin.2
    obtain ⟨n, hn⟩ : ∃ n : Nat, n = (b - 1).toNat := ⟨_, rfl⟩
    rw [← hn] at hb4
    refine ⟨_, rfl, p, dx, _, rfl, S.hp, nm .., p, dx, l, I, T, bit, rfl, ⟨_, S.hp⟩, hl, hbit, rfl, _, rfl, ?_⟩
    rw [← hbx]
    refine iteY rfl ⟨fun σ' H' => ∃ m', m' < s.length - j ∧ ∃ (j I : Nat) (T : Bool) (u : Int), 1 ≤ j ∧ j ≤ s.length ∧ m' = s.length - j ∧ σ' = [some (.ref p), some (.ref r)] ∧ St2 H H' p r (srcW C dx l I T u) (.lst ((s.take j).map V.int)) ∧ more (s.drop j) <+: (l.map (xor T)).drop I ∧ I ≤ l.length ∧ I + (more (s.drop j)).length = i + (frow s).length ∧ T = (t ^^ odd (j + 1)), fun _ _ h => h, ?_⟩
    have S1 := S.setp (o' := srcO C dx l (I + 1) T) hrp
    refine ⟨_, rfl, p, dx, _, rfl, S1.hp, nt .., p, dx, rowS l, _, T, rfl, S1.hp, ?_⟩
    have S2 := S1.setp (o' := srcO C dx l (I + 1) (!T)) hrp
    refine ⟨_, rfl, p, dx, _, rfl, S2.hp, nw .., p, dx, rowS l, _, !T, 0, 1, rfl, S2.hp, ?_⟩
    have S2w := S2.setp (o' := srcW C dx l (I + 1) (!T) 1) hrp
    refine ⟨_, rfl, .inl ⟨rfl, _, SqL.of S2w.hr⟩, _, rfl, p, dx, l, I + 1, n, !T, rfl, ⟨_, S2w.hp⟩, hl, hb1, (by omega), ⟨_, (List.append_assoc ..).symm.trans hb4.choose_spec⟩, .inl ⟨_, _, rfl, rfl, ?_⟩⟩
    have S3 := S2w.setp (o' := srcO C dx l (I + 1 + (cnt n).length) (!T)) hrp
    refine ⟨_, _, _, rfl, rfl, S3.hr, (by rw [mI, List.length_take]; exact Nat.lt_of_lt_of_le (show min j s.length < 100001 by omega) (small5' (by decide))), ?_⟩
    have S4 := S3.setr (u' := .lst ((s.take j).map V.int ++ [V.int ((n : Int) + 1)])) hrp hrH
    have en : (n : Int) + 1 = b := by omega
    have e5 : (s.take j).map V.int ++ [V.int ((n : Int) + 1)] = (s.take (j + 1)).map V.int := by rw [take_snoc hsj, List.map_append, en]; rfl
    rw [e5] at S4
    have hpl := pre_le (a := cnt n) ⟨_, (List.append_assoc ..).symm.trans hb4.choose_spec⟩ (by rw [List.length_map]; exact hb1)
    rw [List.length_map] at hpl
    have fin1 : ∀ (u : Int) (H4 : Hp), St2 H H4 p r (srcW C dx l (I + 1 + (cnt n).length) (!T) u) (.lst ((s.take (j + 1)).map V.int)) → ∃ m', m' < s.length - j ∧ ∃ (j I : Nat) (T : Bool) (u : Int), 1 ≤ j ∧ j ≤ s.length ∧ m' = s.length - j ∧ [some (V.ref p), some (.ref r)] = [some (.ref p), some (.ref r)] ∧ St2 H H4 p r (srcW C dx l I T u) (.lst ((s.take j).map V.int)) ∧ more (s.drop j) <+: (l.map (xor T)).drop I ∧ I ≤ l.length ∧ I + (more (s.drop j)).length = i + (frow s).length ∧ T = (t ^^ odd (j + 1)) := fun u H4 hS4 => by
      refine ⟨s.length - (j + 1), by omega, j + 1, I + 1 + (cnt n).length, !T, u, by omega, by omega, rfl, rfl, hS4, drop_prefix hb4, hpl, ?_, ?_⟩
      · have e6 : (more (b :: s.drop (j + 1))).length = 1 + ((cnt n).length + (more (s.drop (j + 1))).length) := by
          rw [more, List.length_cons, List.length_map, List.length_append, ← hn]; omega
        rw [e6] at hlen
        omega
      · rw [hT, odd_succ (j + 1)]; cases t <;> cases odd (j + 1) <;> rfl
    dsimp only
    rw [e5]
    have hne : s.take (j + 1) ≠ [] := by rw [take_snoc hsj]; exact List.append_ne_nil_of_right_ne_nil _ (List.cons_ne_nil _ _)
    refine ⟨_, rfl, _, rfl, .inl (.inl ⟨_, _, _, _, rfl, rfl, SqL.of S4.hr, atI_lastI hne, rfl, _, rfl, ?_⟩)⟩
    refine iteD (fun c => ?_) (fun c => ?_)
    · refine ⟨_, rfl, p, dx, _, rfl, S4.hp, nw .., p, dx, rowS l, _, !T, 0, 1, rfl, S4.hp, ?_⟩
      exact fin1 1 _ (S4.setp hrp)
    · exact fin1 0 _ S4
  · -- the end
    have ej : j = s.length := by omega
    have ed : s.drop j = [] := by rw [ej]; exact List.drop_length ..
    have et : s.take j = s := by rw [ej]; exact List.take_length ..
    rw [ed] at hpre hlen
    rw [et] at S
    obtain ⟨hb1, hb2, hb3⟩ := head_bit hpre
    rw [hlT] at hb1
    obtain ⟨bit, hbit, hbx⟩ := get_map (l := l) (t := T) (i := I) hb1
    rw [hb2] at hbx
    refine ⟨_, rfl, p, dx, _, rfl, S.hp, nm .., p, dx, l, I, T, bit, rfl, ⟨_, S.hp⟩, hl, hbit, rfl, _, rfl, ?_⟩
    rw [← hbx]
    refine iteN (by decide) ?_
    have S1 := S.setp (o' := srcO C dx l (I + 1) T) hrp
    have eI : I + 1 = i + (frow s).length := hlen
    refine ⟨_, rfl, r, s, rfl, S1.hr, by omega, _, rfl, ?_⟩
    rw [(goodB_iff s).mpr hg]
    refine iteF ⟨_, rfl, _, _, rfl, .inl ⟨_, SqL.of S1.hr, rfl⟩, _, _, rfl, rfl, (by show (0 : Int) < 2; decide), rfl, _, rfl, ?_⟩
    rw [mI]
    have fin : ∀ {H3 : Hp}, St2 H H3 p r (srcO C dx l (I + 1) t) (.lst (s.map V.int)) → ∀ r2, H3 r2 = none → ∃ H'', Sub H H'' (upd H3 r2 (.tup [.int (frac s).1, .int (frac s).2])) ∧ Q (.ref r2) H'' := fun {H3} S3 r2 hr3 => by
      have hf := S3.free hr3
      have n1 : p ≠ r2 := fun z => by rw [← z, S3.hp] at hr3; cases hr3
      refine ⟨_, Sub.insNew hp hf (fun b u hb e => by rw [upd_ne (ne_of_none e hf)]; exact S3.hs b u hb e) (by rw [upd_ne n1]; exact S3.hp) upd_same trivial, ?_⟩
      rw [eI]
      exact q r2 hf
    refine iteD (fun c => ?_) (fun c => ?_)
    · have hev : s.length % 2 = 0 := by have := V.int.inj c; omega
      have eT : (!T) = t := by
        rw [hT, ej, odd_succ]
        have : odd s.length = false := decide_eq_false (by omega)
        rw [this]; cases t <;> rfl
      refine ⟨_, rfl, p, dx, _, rfl, S1.hp, nt .., p, dx, rowS l, _, T, rfl, S1.hp, ?_⟩
      have S2 := S1.setp (o' := srcO C dx l (I + 1) (!T)) hrp
      refine ⟨_, rfl, r, s, rfl, S2.hr, hsl, row_size hR, hg, ?_⟩
      rw [eT] at S2
      rw [eT]
      exact fin S2
    · have hod : s.length % 2 = 1 := by
        have : ¬ s.length % 2 = 0 := fun z => c (congrArg V.int (by omega))
        omega
      have eT : T = t := by
        rw [hT, ej, odd_succ]
        have : odd s.length = true := decide_eq_true hod
        rw [this]; cases t <;> rfl
      subst eT
      exact ⟨_, rfl, r, s, rfl, S1.hr, hsl, row_size hR, hg, fin S1⟩
def spReadFrac : Sp := fun vs H Q _ => ∃ (l : List Bool) (i : Nat) (s : List Int), vs = [.str (rowS l), .int i] ∧ l.length ≤ 100000 ∧ i ≤ l.length ∧ Good s ∧ s.length ≤ 1000 ∧ RowIn s ∧ frow s <+: l.drop i ∧ ∀ r1 r2, H r1 = none → H r2 = none → r2 ≠ r1 → Q (.ref r2) (upd (upd H r1 (.tup [.int (frac s).1, .int (frac s).2])) r2 (.tup [.ref r1, .int ((i + (frow s).length : Nat) : Int)]))
theorem ok_read_fraction {f C : Addr} {fd : FuncData} (T : SrcCls K C) (F : FunAt K mg "read_fraction" s_read_fraction ["signs", "at"] f fd) (M_Source : MakeOk P w K mg base 1 "Source" C ["self", "signs", "at"] (spSrcInit C)) (D_draw_fraction : DefOk P w K mg base 5 "draw_fraction" ["source"] (spDrawFrac C)) : DefOk P w K mg base 6 "read_fraction" ["signs", "at"] spReadFrac := by
  refine F.ok sc_read_fraction (fun vs H Q E h => ?_) (fun cdv A outer s H vs Q E hr h => ?_)
  · obtain ⟨l, i, s, rfl, _⟩ := h; rfl
  obtain ⟨l, i, s, rfl, hl, hi, hg, hsl, hR, hc, q⟩ := h
  refine ⟨_, (pss_cons (ps_set (i := 2) sc_read_fraction.nd rfl (by first | exact Or.inl rfl | exact Or.inr rfl) (pe_makeD M_Source hr (pa_cons (pv 0) (pa_cons (pv 1) pa_nil))))
    (pss_cons (ps_set (i := 3) sc_read_fraction.nd rfl (by first | exact Or.inl rfl | exact Or.inr rfl) (pe_callD D_draw_fraction hr (pa_cons (pv 2) pa_nil)))
    (pss_one (ps_ret (pe_tup (pa_cons (pv 3) (pa_cons (pe_fld (pv 2) rfl) pa_nil))))))), ?_⟩
  refine ⟨_, rfl, _, rfl, fun x dx nx ndx nex => ?_⟩
  refine ⟨x, dx, _, _, rfl, upd_same, rfl, ?_⟩
  refine ⟨_, rfl, x, dx, l, i, s, false, rfl, upd_same, hl, hi, hg, hsl, hR, by rw [map_xorF]; exact hc, fun r1 hr1 => ?_⟩
  have s1 : Same H (upd (upd (upd H dx (.own x)) x (.ins C dx [])) x (.ins C dx (flds (rowS l) i false))) := fun b o e => by
    rw [upd_ne (ne_of_none e nx), upd_ne (ne_of_none e nx), upd_ne (ne_of_none e ndx)]; exact e
  have n1 : x ≠ r1 := fun z => by rw [← z, upd_same] at hr1; cases hr1
  have s2 : Same H (upd (upd (upd (upd (upd H dx (.own x)) x (.ins C dx [])) x (.ins C dx (flds (rowS l) i false))) x (srcO C dx l (i + (frow s).length) false)) r1 (.tup [.int (frac s).1, .int (frac s).2])) := fun b o e => by
    rw [upd_ne (ne_of_none e (s1.free hr1)), upd_ne (ne_of_none e nx)]; exact s1 b o e
  refine ⟨_, rfl, _, rfl, x, C, dx, _, _, rfl, (by rw [upd_ne n1]; exact upd_same), T.cl, T.nP, look_place .., (by show 2 ≤ sizeLine; decide), fun r2 hr2 => ?_⟩
  have f1 := s1.free hr1
  have f2 := s2.free hr2
  have n2 : r2 ≠ r1 := fun z => by rw [z, upd_same] at hr2; cases hr2
  refine ⟨_, Sub.trans' (Sub.new f1 s2 upd_same trivial) (.new (by rw [upd_ne n2]; exact f2) (fun b u e => ?_) upd_same trivial), q r1 r2 f1 f2 n2⟩
  by_cases hb : b = r1
  · subst hb; rw [upd_ne (Ne.symm n2)]; rw [upd_same] at e ⊢; exact e
  · rw [upd_ne hb] at e
    rw [upd_ne (ne_of_none e f2)]
    exact s2 b u e

/-! ### the law's own helpers -/
def spCellAt (K : PySem.W.Frag) : Sp := fun vs H Q _ => ∃ (a : Addr) (ns : List Int) (k : Nat), vs = [.ref a, .int k] ∧ SqL K H a (ns.map V.int) ∧ ns.length ≤ 63 ∧ Q (.int (ns.getD k 0)) H
theorem ok_law_cell_at {f : Addr} {fd : FuncData} (nb : NB mg) (F : FunAt K mg "_law_cell_at" s_law_cell_at ["_law_script", "_law_k"] f fd) : DefOk P w K mg base 1 "_law_cell_at" ["_law_script", "_law_k"] (spCellAt K) := by
  refine F.ok sc_law_cell_at (fun vs H Q E h => ?_) (fun cdv A outer s H vs Q E hr h => ?_)
  · obtain ⟨a, ns, k, rfl, _⟩ := h; rfl
  obtain ⟨a, ns, k, rfl, hS, hl, q⟩ := h
  refine ⟨_, (pss_cons (ps_if (pt_cmpR oLt (pv 1) (pe_callB call_len rfl nb.len_ bo_len (pa_cons (pv 0) pa_nil)) (nomark _)) (pss_one (ps_ret (pe_ix iAll (pv 0) (pv 1) (fun _ _ => rfl)))) pss_nil)
    (pss_one (ps_ret pe_int))), ?_⟩
  refine ⟨_, rfl, _, rfl, _, _, rfl, .inl ⟨_, hS, rfl⟩, .inl ⟨_, _, rfl, rfl, _, rfl, ?_⟩⟩
  rw [List.length_map]
  refine iteD (fun c => ?_) (fun c => ?_)
  · have hk : k < ns.length := by omega
    refine ⟨_, rfl, _, rfl, .inl (.inl ⟨_, _, _, _, rfl, rfl, hS, atI_nat (by rw [List.getElem?_map, List.getElem?_eq_getElem hk]; rfl), H, .refl (Same.refl _), ?_⟩)⟩
    have e : ns.getD k 0 = ns[k] := by rw [List.getD_eq_getElem?_getD, List.getElem?_eq_getElem hk]; rfl
    rw [← e]
    exact q
  · have e : ns.getD k 0 = 0 := by rw [List.getD_eq_getElem?_getD, List.getElem?_eq_none (by omega)]; rfl
    rw [e] at q
    exact ⟨H, .refl (Same.refl _), q⟩
def spWhole : Sp := fun vs H Q _ => ∃ i : Int, vs = [.int i] ∧ Q (.bl true) H
theorem ok_law_whole {f : Addr} {fd : FuncData} (nb : NB mg) (F : FunAt K mg "_law_whole" s_law_whole ["_law_found"] f fd) : DefOk P w K mg base 1 "_law_whole" ["_law_found"] spWhole := by
  refine F.ok sc_law_whole (fun vs H Q E h => ?_) (fun cdv A outer s H vs Q E hr h => ?_)
  · obtain ⟨i, rfl, _⟩ := h; rfl
  obtain ⟨i, rfl, q⟩ := h
  refine ⟨_, (pss_one (ps_ret (pe_and (pe_callB call_isinstA rfl nb.isinstance_ bo_isinstance (pa_cons (pv 0) (pa_cons (pe_bltn (v := .ty "int") rfl nb.int_ bo_int rfl) pa_nil))) (pe_one (pe_notA (pe_callB call_isinstA rfl nb.isinstance_ bo_isinstance (pa_cons (pv 0) (pa_cons (pe_bltn (v := .ty "bool") rfl nb.bool_ bo_bool rfl) pa_nil)))))))), ?_⟩
  refine ⟨_, rfl, .inl ⟨_, _, _, true, rfl, .int i, kit_same .., _, rfl, ?_⟩⟩
  refine iteT ⟨_, rfl, .inl ⟨_, _, _, false, rfl, .int i, kit_int_bool .., _, rfl, H, .refl (Same.refl _), q⟩⟩
def spDigits : Sp := fun vs H Q _ => ∃ n : Nat, vs = [.int n] ∧ n < 2 ^ 100000 ∧ Q (.str (rowS (digs n))) H
theorem ok_law_digits {f : Addr} {fd : FuncData} (F : FunAt K mg "_law_digits" s_law_digits ["_law_number"] f fd) : DefOk P w K mg base 1 "_law_digits" ["_law_number"] spDigits := by
  refine F.ok sc_law_digits (fun vs H Q E h => ?_) (fun cdv A outer s H vs Q E hr h => ?_)
  · obtain ⟨n, rfl, _⟩ := h; rfl
  obtain ⟨n, rfl, hn, q⟩ := h
  refine ⟨_, (pss_cons (ps_set (i := 1) sc_law_digits.nd rfl (by first | exact Or.inl rfl | exact Or.inr rfl) pe_str)
    (pss_cons (ps_while PassesOwn.never (pt_cmpR oGt (pv 0) pe_int (nomark _))
      (pss_cons (ps_set (i := 1) sc_law_digits.nd rfl (by first | exact Or.inl rfl | exact Or.inr rfl) (pe_op oAdd (pe_ix iAll (pe_lst (pa_cons pe_str (pa_cons pe_str pa_nil))) (pe_op op_mod (pv 0) pe_int) (fun _ _ => rfl)) (pv 1)))
      (pss_one (ps_set (i := 0) sc_law_digits.nd rfl (by first | exact Or.inl rfl | exact Or.inr rfl) (pe_op op_fdiv (pv 0) pe_int)))))
    (pss_one (ps_ret (pv 1))))), ?_⟩
  have hbl : blen n ≤ 100000 := blen_le hn
  refine ⟨fun m σ H2 => ∃ l : List Bool, σ = [some (.int (m : Nat)), some (.str (rowS l))] ∧ digs m ++ l = digs n ∧ Same H H2, ⟨n, [], by rw [← sE]; rfl, List.append_nil _, Same.refl _⟩, ?_⟩
  rintro m σ H2 ⟨l, rfl, hd, hs⟩
  have hlen := congrArg List.length hd
  rw [List.length_append, digs_length, digs_length] at hlen
  refine ⟨_, rfl, _, _, rfl, rfl, _, rfl, ?_⟩
  refine iteD (fun c => ?_) (fun c => ?_)
  · have hm : m ≠ 0 := by omega
    have hst := digs_step hm
    have hb := blen_pos hm
    refine ⟨fun σ' H' => ∃ m', m' < m ∧ ∃ l : List Bool, σ' = [some (.int (m' : Nat)), some (.str (rowS l))] ∧ digs m' ++ l = digs n ∧ Same H H', fun _ _ h => h, ?_⟩
    refine ⟨(by show 2 ≤ sizeLine; decide), fun r hr' => ⟨_, rfl, _, _, rfl, rfl, (by show (0 : Int) < 2; decide), .inl (.inl ⟨_, _, _, _, rfl, rfl, SqL.of upd_same, two_at m, ?_⟩)⟩⟩
    refine ⟨_, rfl, .inr ⟨_, _, rfl, rfl, (by rw [rowS_length, rowS_length]; exact small5 (by simp only [List.length_cons, List.length_nil]; omega)), ?_⟩⟩
    refine ⟨_, rfl, _, _, rfl, rfl, ⟨by decide, by decide⟩, m / 2, by omega, [decide (m % 2 = 1)] ++ l, ?_, ?_, hs.trans (same_new hr')⟩
    · rw [rowS_append]; rfl
    · rw [← List.append_assoc, ← hst]; exact hd
  · have hm : m = 0 := by omega
    subst hm
    have : l = digs n := by rw [← hd, digs_zero]; rfl
    subst this
    exact ⟨_, rfl, H, .refl hs, q⟩
theorem ok_law_turned {f : Addr} {fd : FuncData} (nb : NB mg) (F : FunAt K mg "_law_turned" s_law_turned ["_law_row"] f fd) : DefOk P w K mg base 1 "_law_turned" ["_law_row"] spTurnedRow := by
  refine F.ok sc_law_turned (fun vs H Q E h => ?_) (fun cdv A outer s H vs Q E hr h => ?_)
  · obtain ⟨l, rfl, _⟩ := h; rfl
  obtain ⟨l, rfl, hl, q⟩ := h
  refine ⟨_, (pss_one (ps_ret (pe_bm PySem.F.plainAttrs_str PySem.F.slot_str_join PySem.F.type_str_join mt_join pe_str (pa_cons (pe_comp ["_law_sign"] [] rfl (by decide +kernel) trivial (piAll (pv 0)) (fun _ _ _ _ _ => (pg_name (i := 0) (show (["_law_sign"] : List Str).Nodup by decide +kernel) rfl (by first | exact Or.inl rfl | exact Or.inr rfl))) (fun _ _ _ _ _ => pts_nil) (fun _ _ _ _ _ => (pe_quiet (pe_ix iAll (pe_lst (pa_cons pe_str (pa_cons pe_str pa_nil))) (pe_callTy call_intA rfl nb.int_ bo_int (pa_cons (pe_cmpR oEq (pv 0) pe_str (nomark _)) pa_nil)) (fun _ _ => rfl))))) pa_nil)))), ?_⟩
  refine ⟨rfl, .inr ⟨_, rfl, _, rfl, fun D hD => ?_⟩⟩
  refine comp_all l.length (fun i => .str (rowS [l.getD i false])) (fun i => .str (rowS [!l.getD i false])) (fun σ => σ.length = 1) (small5 hl) ?_ ?_ ?_ ?_ ?_ ?_
  · rfl
  · intro i H1 hi; show i < (rowS l).cps.size; simpa [rowS] using hi
  · intro H1; show (rowS l).cps.size ≤ l.length; simp [rowS]
  · rintro i H1 x H2 hi ⟨rfl, c, hc, rfl⟩
    exact ⟨rfl, row_sign hc⟩
  · intro i σ1 H1 hi hS R hR
    obtain ⟨z, rfl⟩ := one_slot hS
    refine ⟨(by show 2 ≤ sizeLine; decide), fun r hr' => ⟨_, rfl, rfl, .inl (.inr ⟨_, rfl, .inl (.inl ⟨_, _, _, _, rfl, rfl, SqL.of upd_same, ?_, same_new hr', hR _ rfl⟩)⟩)⟩⟩
    rw [s0, s1, rowS_dec]
    cases l.getD i false
    · exact atI_nat (j := 0) rfl
    · exact atI_nat (j := 1) rfl
  · refine ⟨_, D, (l.map (!·)).map fun b => rowS [b], rfl, rfl, SqL.of ?_, ?_, H, .refl ?_, ?_⟩
    · rw [upd_same]; exact congrArg (fun x => some (HO.lst x)) (map_ones l (!·) fun i _ => rfl)
    · rw [join_len, List.length_map]; omega
    · exact same_new hD
    · rw [join_bits]; exact q

theorem dig_len8 {n : Nat} (h : blen n ≤ 255) : (rowS (digs n)).length ≤ sizeLine := by rw [rowS_length, digs_length]; exact small5 (by omega)
def spLawCount : Sp := fun vs H Q _ => ∃ n : Nat, vs = [.int n] ∧ n + 1 < 2 ^ 255 ∧ Q (.str (rowS (cnt n))) H
theorem big255 {n : Nat} (h : n < 2 ^ 255) : n < 2 ^ 100000 := Nat.lt_of_lt_of_le h (Nat.pow_le_pow_right (by decide) (by decide))
theorem ok_law_count {f : Addr} {fd : FuncData} (nb : NB mg) (F : FunAt K mg "_law_count" s_law_count ["_law_n"] f fd) (D_law_digits : DefOk P w K mg base 1 "_law_digits" ["_law_number"] spDigits) : DefOk P w K mg base 2 "_law_count" ["_law_n"] spLawCount := by
  refine F.ok sc_law_count (fun vs H Q E h => ?_) (fun cdv A outer s H vs Q E hr h => ?_)
  · obtain ⟨n, rfl, _⟩ := h; rfl
  obtain ⟨n, rfl, hn, q⟩ := h
  refine ⟨_, (pss_cons (ps_set (i := 1) sc_law_count.nd rfl (by first | exact Or.inl rfl | exact Or.inr rfl) (pe_callD D_law_digits hr (pa_cons (pe_op oAdd (pv 0) pe_int) pa_nil)))
    (pss_cons (ps_set (i := 2) sc_law_count.nd rfl (by first | exact Or.inl rfl | exact Or.inr rfl) (pe_callD D_law_digits hr (pa_cons (pe_callB call_len rfl nb.len_ bo_len (pa_cons (pv 1) pa_nil)) pa_nil)))
    (pss_cons (ps_set (i := 3) sc_law_count.nd rfl (by first | exact Or.inl rfl | exact Or.inr rfl) (pe_op oMul pe_str (pe_op oSub (pe_callB call_len rfl nb.len_ bo_len (pa_cons (pv 2) pa_nil)) pe_int)))
    (pss_cons (ps_if (pt_cmpR oLt (pe_callB call_len rfl nb.len_ bo_len (pa_cons (pv 2) pa_nil)) pe_int (nomark _)) (pss_one (ps_set (i := 3) sc_law_count.nd rfl (by first | exact Or.inl rfl | exact Or.inr rfl) (pe_op oAdd (pv 3) pe_str))) pss_nil)
    (pss_one (ps_ret (pe_op oAdd (pe_op oAdd (pv 3) (pe_slice slAll (pv 2) (po_some pe_int) po_none)) (pe_slice slAll (pv 1) (po_some pe_int) po_none)))))))), ?_⟩
  have hd : blen (n + 1) ≤ 255 := blen_le hn
  have hp : 0 < blen (n + 1) := blen_pos (by omega)
  have he : blen (blen (n + 1)) ≤ 8 := blen_le (by omega)
  have hq : 0 < blen (blen (n + 1)) := blen_pos (by omega)
  have l1 := dig_len8 hd
  have l2 : (rowS (digs (blen (n + 1)))).length ≤ sizeLine := dig_len8 (by omega)
  refine ⟨_, rfl, .inl ⟨_, _, rfl, rfl, n + 1, rfl, big255 hn, ?_⟩⟩
  refine ⟨_, rfl, _, _, rfl, ⟨l1, rfl⟩, blen (n + 1), (by rw [rowS_length, digs_length]; rfl), big255 (by omega), ?_⟩
  refine ⟨_, rfl, _, _, rfl, ⟨l2, rfl⟩, _, _, rfl, rfl, .inr ⟨_, _, rfl, rfl, (by rw [rowS_length, digs_length]; omega), (by rw [rowS_length, digs_length]; omega), (by rw [s1, rowS_length, rowS_length, digs_length]; exact small5 (by show 1 * _ ≤ _; omega)), ?_⟩⟩
  have hh : Txt.mul (Str.ofString "1") (((rowS (digs (blen (n + 1)))).length : Int) - 1) = rowS (List.replicate (blen (blen (n + 1)) - 1) true) := by
    rw [s1, mul_row, rowS_length, digs_length]; congr 2; omega
  dsimp only
  rw [hh]
  have ar : rowS (List.replicate (blen (blen (n + 1)) - 1) true ++ cend (blen (blen (n + 1)))) ++ rowS (bitsW (blen (n + 1)) (blen (blen (n + 1)) - 1)) ++ rowS (bitsW (n + 1) (blen (n + 1) - 1)) = rowS (cnt n) := by
    rw [rowS_append, rowS_append]; unfold cnt; rw [List.append_assoc, List.append_assoc]
  have a1 : (rowS (List.replicate (blen (blen (n + 1)) - 1) true ++ cend (blen (blen (n + 1))))).length + (rowS (bitsW (blen (n + 1)) (blen (blen (n + 1)) - 1))).length ≤ sizeLine := by
    rw [rowS_length, rowS_length, List.length_append, List.length_replicate, bitsW_length]
    have := cend_len (blen (blen (n + 1)))
    exact small5 (by omega)
  have a2 : (rowS (List.replicate (blen (blen (n + 1)) - 1) true ++ cend (blen (blen (n + 1)))) ++ rowS (bitsW (blen (n + 1)) (blen (blen (n + 1)) - 1))).length + (rowS (bitsW (n + 1) (blen (n + 1) - 1))).length ≤ sizeLine := by
    rw [rowS_append, rowS_length, rowS_length, List.length_append, List.length_append, List.length_replicate, bitsW_length, bitsW_length]
    have := cend_len (blen (blen (n + 1)))
    exact small5 (by omega)
  have t1 : Txt.slice (rowS (digs (blen (n + 1)))) (some 1) none = rowS (bitsW (blen (n + 1)) (blen (blen (n + 1)) - 1)) := by rw [slice_tail, digs_tail (by omega)]
  have t2 : Txt.slice (rowS (digs (n + 1))) (some 1) none = rowS (bitsW (n + 1) (blen (n + 1) - 1)) := by rw [slice_tail, digs_tail (by omega)]
  refine ⟨_, rfl, _, _, rfl, ⟨l2, rfl⟩, .inl ⟨_, _, rfl, rfl, _, rfl, ?_⟩⟩
  rw [rowS_length, digs_length]
  refine iteD (fun c => ?_) (fun c => ?_)
  · refine ⟨_, rfl, .inr ⟨_, _, rfl, rfl, (by rw [s0, rowS_length, rowS_length, List.length_replicate]; exact small5 (by simp only [List.length_cons, List.length_nil]; omega)), ?_⟩⟩
    have hc : rowS (List.replicate (blen (blen (n + 1)) - 1) true) ++ Str.ofString "0" = rowS (List.replicate (blen (blen (n + 1)) - 1) true ++ cend (blen (blen (n + 1)))) := by
      rw [s0, rowS_append]; unfold cend; rw [if_neg (by omega)]
    rw [hc]
    refine ⟨_, rfl, _, rfl, _, rfl, .inr ⟨_, rfl, l2, ?_⟩⟩
    rw [t1]
    refine .inr ⟨_, _, rfl, rfl, a1, _, rfl, _, rfl, .inr ⟨_, rfl, l1, ?_⟩⟩
    rw [t2]
    refine .inr ⟨_, _, rfl, rfl, a2, H, .refl (Same.refl _), ?_⟩
    rw [ar]
    exact q
  · have hc : rowS (List.replicate (blen (blen (n + 1)) - 1) true) = rowS (List.replicate (blen (blen (n + 1)) - 1) true ++ cend (blen (blen (n + 1)))) := by
      unfold cend; rw [if_pos (by omega), List.append_nil]
    rw [hc]
    refine ⟨_, rfl, _, rfl, _, rfl, .inr ⟨_, rfl, l2, ?_⟩⟩
    rw [t1]
    refine .inr ⟨_, _, rfl, rfl, a1, _, rfl, _, rfl, .inr ⟨_, rfl, l1, ?_⟩⟩
    rw [t2]
    refine .inr ⟨_, _, rfl, rfl, a2, H, .refl (Same.refl _), ?_⟩
    rw [ar]
    exact q
/-! ### the law's steps -/
def StepsOk (s : List Int) : Prop := Good s ∧ s.length ≤ 201 ∧ ∀ x ∈ s, x.natAbs < 2 ^ 250
def spMixed : Sp := fun vs H Q _ => ∃ c k : Int, vs = [.int c, .int k] ∧ ∀ v : Int, 0 ≤ v → v < 2147483587 → Q (.int v) H
theorem modb {a b : Int} (h : 0 < b) : 0 ≤ a % b ∧ a % b < b := ⟨Int.emod_nonneg _ (Int.ne_of_gt h), Int.emod_lt_of_pos _ h⟩
theorem ok_law_mixed {f : Addr} {fd : FuncData} (F : FunAt K mg "_law_mixed" s_law_mixed ["_law_cell", "_law_k"] f fd) : DefOk P w K mg base 1 "_law_mixed" ["_law_cell", "_law_k"] spMixed := by
  refine F.ok sc_law_mixed (fun vs H Q E h => ?_) (fun cdv A outer s H vs Q E hr h => ?_)
  · obtain ⟨c, k, rfl, _⟩ := h; rfl
  obtain ⟨c, k, rfl, q⟩ := h
  refine ⟨_, (pss_cons (ps_set (i := 2) sc_law_mixed.nd rfl (by first | exact Or.inl rfl | exact Or.inr rfl) (pe_op op_mod (pe_op oAdd (pe_op oAdd (pe_op oMul (pe_op op_mod (pv 0) pe_int) pe_int) (pe_op oMul (pv 1) pe_int)) pe_int) pe_int))
    (pss_cons (ps_set (i := 2) sc_law_mixed.nd rfl (by first | exact Or.inl rfl | exact Or.inr rfl) (pe_op op_mod (pe_op oMul (pv 2) (pv 2)) pe_int))
    (pss_one (ps_ret (pe_op op_mod (pe_op oMul (pv 2) (pv 2)) pe_int))))), ?_⟩
  refine ⟨_, rfl, _, _, rfl, rfl, (by show (0 : Int) < _; decide), .inl ⟨_, _, rfl, rfl, .inr ⟨by decide, by decide⟩, ?_⟩⟩
  refine ⟨_, rfl, .inl ⟨_, _, rfl, rfl, .inr ⟨by decide, by decide⟩, .inl ⟨_, _, rfl, rfl, .inl ⟨_, _, rfl, rfl, _, _, rfl, rfl, (by show (0 : Int) < _; decide), ?_⟩⟩⟩⟩
  obtain ⟨b1, b2⟩ := modb (a := (c % 2147483647 * 48271 + k * 69621 + 11)) (b := 2147483647) (by decide)
  generalize (c % 2147483647 * 48271 + k * 69621 + 11) % 2147483647 = n1 at b1 b2 ⊢
  refine ⟨_, rfl, _, rfl, .inl ⟨_, _, rfl, rfl, .inr ⟨by omega, by omega⟩, _, _, rfl, rfl, (by show (0 : Int) < _; decide), ?_⟩⟩
  obtain ⟨b3, b4⟩ := modb (a := n1 * n1) (b := 2147483629) (by decide)
  generalize n1 * n1 % 2147483629 = n2 at b3 b4 ⊢
  refine ⟨_, rfl, _, rfl, .inl ⟨_, _, rfl, rfl, .inr ⟨by omega, by omega⟩, _, _, rfl, rfl, (by show (0 : Int) < _; decide), H, .refl (Same.refl _), ?_⟩⟩
  exact q _ (modb (by decide)).1 (modb (by decide)).2
def spSteps (K : PySem.W.Frag) : Sp := fun vs H Q _ => ∃ (a : Addr) (ns : List Int), vs = [.ref a] ∧ SqL K H a (ns.map V.int) ∧ ns.length ≤ 63 ∧ ∀ s, StepsOk s → ∀ r, H r = none → Q (.ref r) (upd H r (.lst (s.map .int)))
theorem at2 {α : Type} (x y : α) (r : Int) : atI [x, y] (r % 2) = some (if r % 2 = 0 then x else y) := by
  have h : r % 2 = 0 ∨ r % 2 = 1 := by omega
  rcases h with h | h
  · rw [h]; exact atI_nat (j := 0) rfl
  · rw [h]; exact atI_nat (j := 1) rfl
theorem at2I (x y : Int) (r : Int) : atI [V.int x, V.int y] (r % 2) = some (.int (if r % 2 = 0 then x else y)) := by
  rw [at2]; split <;> rfl
theorem sz400 {x : Int} (h1 : -(10 ^ 71) ≤ x) (h2 : x ≤ 10 ^ 71) : x.natAbs < 2 ^ 250 := by omega
theorem div_in {R x : Int} (h : 0 ≤ R) (hx : 0 < x) : 0 ≤ R / x ∧ R / x ≤ R := ⟨Int.ediv_nonneg h (Int.le_of_lt hx), Int.ediv_le_self _ h⟩
theorem cut_map (ns : List Int) (lo hi : Option Int) : ∃ ms : List Int, cutV (ns.map V.int) lo hi = ms.map V.int ∧ ms.length ≤ ns.length := by
  unfold cutV
  refine ⟨(ns.drop (HT.sIx (ns.map V.int).length 0 lo)).take (HT.sIx (ns.map V.int).length (ns.map V.int).length hi - HT.sIx (ns.map V.int).length 0 lo), ?_, ?_⟩
  · rw [List.map_take, List.map_drop]
  · rw [List.length_take, List.length_drop]; omega
theorem set_last (d : List Int) (h : d ≠ []) (v : Int) : ((d.map V.int).set (d.length - 1) (.int v)) = (d.dropLast ++ [v]).map V.int := by
  have hn := List.length_pos_iff.mpr h
  have e : d.map V.int = (d.dropLast.map V.int) ++ [V.int (d.getLast h)] := by
    conv => lhs; rw [← List.dropLast_concat_getLast h]
    rw [List.map_append]; rfl
  rw [e, List.map_append]
  have hl : d.length - 1 = (d.dropLast.map V.int).length := by rw [List.length_map, List.length_dropLast]
  rw [hl, List.set_append_right _ _ (Nat.le_refl _), Nat.sub_self]; rfl
theorem ixN_last {n : Nat} (h : 0 < n) : ixN n (-1) = some (n - 1) := by
  unfold ixN
  rw [if_neg (by decide), if_pos (by omega)]
  congr 1; omega
/-- steps under way: all behind the first from one on -/
structure Way (d : List Int) (n : Nat) : Prop where
  ne : d ≠ []
  len : d.length ≤ n
  tl : ∀ x ∈ d.tail, 1 ≤ x
  sz : ∀ x ∈ d, x.natAbs < 2 ^ 250
theorem Way.one {a : Int} (h : a.natAbs < 2 ^ 250) : Way [a] 1 := ⟨List.cons_ne_nil _ _, Nat.le_refl _, (fun x hx => nomatch hx), fun x hx => by rw [List.mem_singleton.mp hx]; exact h⟩
theorem Way.add {d : List Int} {n : Nat} {x : Int} (h : Way d n) (h1 : 1 ≤ x) (h2 : x.natAbs < 2 ^ 250) : Way (d ++ [x]) (n + 1) := by
  refine ⟨by simp, by rw [List.length_append]; have := h.len; simpa using this, fun y hy => ?_, fun y hy => ?_⟩
  · obtain ⟨a, t, rfl⟩ : ∃ a t, d = a :: t := List.exists_cons_of_ne_nil h.ne
    have : y ∈ t ++ [x] := hy
    rcases List.mem_append.mp this with z | z
    · exact h.tl y z
    · rw [List.mem_singleton.mp z]; exact h1
  · rcases List.mem_append.mp hy with z | z
    · exact h.sz y z
    · rw [List.mem_singleton.mp z]; exact h2
theorem Way.good {d : List Int} {n : Nat} (h : Way d n) (hn : n ≤ 201) (hl : ¬ (1 < d.length ∧ d.getLastD 0 = 1)) : StepsOk d := by
  obtain ⟨a, t, rfl⟩ : ∃ a t, d = a :: t := List.exists_cons_of_ne_nil h.ne
  refine ⟨⟨h.tl, fun ht => ?_⟩, Nat.le_trans h.len hn, h.sz⟩
  have e : (a :: t).getLastD 0 = t.getLast ht := by rw [List.getLastD_cons, List.getLastD_eq_getLast?, List.getLast?_eq_some_getLast ht]; rfl
  have l1 := h.tl _ (List.getLast_mem ht)
  have hlen : 1 < (a :: t).length := by have := List.length_pos_iff.mpr ht; rw [List.length_cons]; omega
  have : t.getLast ht ≠ 1 := fun z => hl ⟨hlen, e.trans z⟩
  omega
theorem Way.fixed {d : List Int} {n : Nat} (h : Way d n) (hn : n ≤ 201) (hl : 1 < d.length) : StepsOk (d.dropLast ++ [2]) := by
  obtain ⟨a, t, rfl⟩ : ∃ a t, d = a :: t := List.exists_cons_of_ne_nil h.ne
  have ht : t ≠ [] := by intro e; subst e; simp at hl
  have e : (a :: t).dropLast ++ [2] = a :: (t.dropLast ++ [2]) := by rw [List.dropLast_cons_of_ne_nil ht]; rfl
  refine ⟨?_, ?_, ?_⟩
  · rw [e]
    refine ⟨fun x hx => ?_, fun _ => ?_⟩
    · rcases List.mem_append.mp hx with z | z
      · exact h.tl x ((List.dropLast_sublist t).subset z)
      · rw [List.mem_singleton.mp z]; decide
    · simp
  · rw [List.length_append, List.length_dropLast]
    have := h.len
    simp only [List.length_cons, List.length_nil] at this ⊢
    omega
  · intro x hx
    rcases List.mem_append.mp hx with z | z
    · exact h.sz x ((List.dropLast_sublist _).subset z)
    · rw [List.mem_singleton.mp z]; decide
theorem ok_law_free_steps {f : Addr} {fd : FuncData} (nb : NB mg) (F : FunAt K mg "_law_free_steps" s_law_free_steps ["_law_script"] f fd) (D_law_cell_at : DefOk P w K mg base 1 "_law_cell_at" ["_law_script", "_law_k"] (spCellAt K)) : DefOk P w K mg base 2 "_law_free_steps" ["_law_script"] (spSteps K) := by
  refine F.ok sc_law_free_steps (fun vs H Q E h => ?_) (fun cdv A outer s H vs Q E hr h => ?_)
  · obtain ⟨a, ns, rfl, _⟩ := h; rfl
  obtain ⟨a, ns, rfl, hS, hl, q⟩ := h
  refine ⟨_, (pss_cons (ps_set (i := 1) sc_law_free_steps.nd rfl (by first | exact Or.inl rfl | exact Or.inr rfl) (pe_op op_fdivB (pe_callD D_law_cell_at hr (pa_cons (pv 0) (pa_cons pe_int pa_nil))) pe_int))
    (pss_cons (ps_set (i := 2) sc_law_free_steps.nd rfl (by first | exact Or.inl rfl | exact Or.inr rfl) (pe_ix iAll (pe_lst (pa_cons (pe_op op_pow pe_int pe_int) (pa_cons (pe_op op_pow pe_int pe_int) pa_nil))) (pe_op op_mod (pv 1) pe_int) (fun _ _ => rfl)))
    (pss_cons (ps_set (i := 3) sc_law_free_steps.nd rfl (by first | exact Or.inl rfl | exact Or.inr rfl) (pe_ix iAll (pe_lst (pa_cons (pe_op oMul (pe_op op_pow pe_int pe_int) (pe_op op_pow pe_int pe_int)) (pa_cons (pe_op op_pow pe_int pe_int) pa_nil))) (pe_op op_mod (pv 1) pe_int) (fun _ _ => rfl)))
    (pss_cons (ps_set (i := 4) sc_law_free_steps.nd rfl (by first | exact Or.inl rfl | exact Or.inr rfl) (pe_lst (pa_cons (pe_op oSub (pe_op op_mod (pe_callD D_law_cell_at hr (pa_cons (pv 0) (pa_cons pe_int pa_nil))) (pe_op oAdd (pe_op oMul pe_int (pv 2)) pe_int)) (pv 2)) pa_nil)))
    (pss_cons (ps_for PassesOwn.never rfl (piAll (pe_slice slAll (pv 0) (po_some pe_int) (po_some (pe_op oAdd pe_int (pe_op op_mod (pe_op op_fdivB (pv 1) pe_int) pe_int))))) (pg_name (i := 5) sc_law_free_steps.nd rfl (by first | exact Or.inl rfl | exact Or.inr rfl))
      (pss_cons (ps_expr (pe_bm PySem.F.plainAttrs_list PySem.F.slot_list_append PySem.F.type_list_append mt_append (pv 4) (pa_cons (pe_op oAdd pe_int (pe_op op_mod (pv 5) (pe_callB (call_max2 rfl) rfl nb.max_ bo_max (pa_cons pe_int (pa_cons (pe_op oSub (pv 3) pe_int) pa_nil))))) pa_nil)))
      (pss_one (ps_set (i := 3) sc_law_free_steps.nd rfl (by first | exact Or.inl rfl | exact Or.inr rfl) (pe_callB (call_max2 rfl) rfl nb.max_ bo_max (pa_cons pe_int (pa_cons (pe_op op_fdivB (pv 3) (pe_op oAdd (pe_ix iAll (pv 4) (pe_un un_neg pe_int) (fun _ _ => rfl)) pe_int)) pa_nil)))))))
    (pss_cons (ps_if (PW.pt (pw_and (pt_cmpR oGt (pe_callB call_len rfl nb.len_ bo_len (pa_cons (pv 4) pa_nil)) pe_int (nomark _)) (pw_and1 (pt_cmpR oEq (pe_ix iAll (pv 4) (pe_un un_neg pe_int) (fun _ _ => rfl)) pe_int (nomark _))))) (pss_one (ps_asg pe_int (pg_sub (pv 4) (pe_un un_neg pe_int) set_list))) pss_nil)
    (pss_one (ps_ret (pv 4))))))))), ?_⟩
  refine ⟨_, rfl, a, ns, 0, rfl, hS, hl, _, _, rfl, rfl, ⟨by decide, .inl (by decide)⟩, ?_⟩
  have p9 : CPow 10 9 := ⟨by decide, by decide, by decide⟩
  have p60 : CPow 10 60 := ⟨by decide, by decide, by decide⟩
  have p10 : CPow 10 10 := ⟨by decide, by decide, by decide⟩
  have p15 : CPow 10 15 := ⟨by decide, by decide, by decide⟩
  refine ⟨_, _, rfl, rfl, p9, _, _, rfl, rfl, p60, (by show 2 ≤ sizeLine; decide), fun g0 hg0 => ?_⟩
  refine ⟨_, rfl, _, _, rfl, rfl, (by show (0 : Int) < 2; decide), .inl (.inl ⟨_, _, _, _, rfl, rfl, SqL.of upd_same, at2I _ _ _, ?_⟩)⟩
  obtain ⟨G, hG⟩ : ∃ G : Int, G = if ns.getD 0 0 / 2 % 2 = 0 then (10 : Int) ^ (9 : Int).toNat else (10 : Int) ^ (60 : Int).toNat := ⟨_, rfl⟩
  rw [← hG]
  have G1 : 1 ≤ G ∧ G ≤ 10 ^ 60 := by rw [hG]; split <;> exact ⟨by decide, by decide⟩
  clear hG
  refine ⟨_, _, rfl, rfl, p60, _, _, rfl, rfl, p10, .inl ⟨_, _, rfl, rfl, .inr ⟨by decide, by decide⟩, _, _, rfl, rfl, p15, (by show 2 ≤ sizeLine; decide), fun g1 hg1 => ?_⟩⟩
  refine ⟨_, rfl, _, _, rfl, rfl, (by show (0 : Int) < 2; decide), .inl (.inl ⟨_, _, _, _, rfl, rfl, SqL.of upd_same, at2I _ _ _, ?_⟩)⟩
  obtain ⟨R0, hR⟩ : ∃ G : Int, G = if ns.getD 0 0 / 2 % 2 = 0 then (10 : Int) ^ (60 : Int).toNat * 10 ^ (10 : Int).toNat else (10 : Int) ^ (15 : Int).toNat := ⟨_, rfl⟩
  rw [← hR]
  have R1 : 1 ≤ R0 ∧ R0 ≤ 10 ^ 70 := by rw [hR]; split <;> exact ⟨by decide, by decide⟩
  clear hR
  have sA := (same_new (o := HO.lst [V.int ((10 : Int) ^ (9 : Int).toNat), V.int ((10 : Int) ^ (60 : Int).toNat)]) hg0).trans (same_new (o := HO.lst [V.int ((10 : Int) ^ (60 : Int).toNat * 10 ^ (10 : Int).toNat), V.int ((10 : Int) ^ (15 : Int).toNat)]) hg1)
  refine ⟨_, rfl, a, ns, 1, rfl, sA.seq hS, hl, _, rfl, .inl ⟨_, _, rfl, rfl, .inl ⟨by decide, by decide⟩, .inl ⟨_, _, rfl, rfl, _, _, rfl, rfl, (by show (0 : Int) < _; omega), _, rfl, _, _, rfl, rfl, (by show 1 ≤ sizeLine; decide), fun r hr2 => ?_⟩⟩⟩
  have hw0 := modb (a := ns.getD 1 0) (b := 2 * G + 1) (by omega)
  have hrH := sA.free hr2
  refine .inl ⟨_, rfl, _, rfl, _, rfl, _, _, rfl, rfl, ⟨by decide, .inl (by decide)⟩, _, _, rfl, rfl, (by show (0 : Int) < 62; decide), .inl ⟨_, _, rfl, rfl, _, rfl, .inl ⟨a, _, rfl, (sA.trans (same_new hr2)).seq hS, fun p hp => ⟨_, rfl, ⟨_, SqL.of upd_same⟩, ?_⟩⟩⟩⟩
  obtain ⟨ms, hms, hml⟩ := cut_map ns (some 2) (some (2 + ns.getD 0 0 / 2 / 2 % 62))
  rw [hms]
  refine for_list (xs := ms.map V.int) (fun i σ H2 => Same H H2 ∧ H2 p = some (.lst (ms.map V.int)) ∧ ∃ d R z, Way d (1 + i) ∧ H2 r = some (.lst (d.map V.int)) ∧ 1 ≤ R ∧ R ≤ 10 ^ 70 ∧ σ = [some (.ref a), some (.int (ns.getD 0 0 / 2)), some (.int G), some (.int R), some (.ref r), z]) ?_ ?_ ?_ ?_
  · refine ⟨(sA.trans (same_new hr2)).trans (same_new hp), upd_same, [ns.getD 1 0 % (2 * G + 1) - G], R0, none, Way.one (sz400 (by omega) (by omega)), ?_, R1.1, R1.2, rfl⟩
    exact same_new hp _ _ upd_same
  · rintro i σ H2 hi ⟨_, hp2, _⟩; exact SqL.of hp2
  · rintro i x σ H2 hx ⟨hs, hp2, d, R, z, hw, er, hR1, hR2, rfl⟩
    obtain ⟨c, rfl⟩ : ∃ c, x = .int c := by rw [List.getElem?_map] at hx; cases h : ms[i]? with | none => rw [h] at hx; cases hx | some y => rw [h] at hx; exact ⟨y, (Option.some.inj hx).symm⟩
    have hpr : p ≠ r := fun z => by rw [z, upd_same] at hp; cases hp
    obtain ⟨M, hM⟩ : ∃ M : Int, M = if R - 1 > 1 then R - 1 else 1 := ⟨_, rfl⟩
    have hM1 : 1 ≤ M ∧ M ≤ 10 ^ 70 := by rw [hM]; split <;> omega
    have hx1 := modb (a := c) (b := M) (by omega)
    refine ⟨_, rfl, .inl ⟨rfl, _, SqL.of er⟩, _, rfl, _, rfl, _, _, rfl, rfl, _, _, rfl, _, _, rfl, rfl, (by rw [← hM]; omega), .inl ⟨_, _, rfl, rfl, ?_⟩⟩
    rw [← hM]
    have hdl := hw.len
    have hil : i < ms.length := by have := (List.getElem?_eq_some_iff.mp hx).1; rwa [mI] at this
    refine ⟨_, _, _, rfl, rfl, er, (by rw [mI]; exact Nat.lt_of_lt_of_le (show d.length < 100001 by omega) (small5' (by decide))), ?_⟩
    refine ⟨_, rfl, _, rfl, _, rfl, .inl (.inl ⟨_, _, _, _, rfl, rfl, SqL.of upd_same, atI_last _ _, .inl ⟨_, _, rfl, rfl, _, _, rfl, rfl, ⟨by omega, .inl (Nat.le_trans (bits_lt (k := 240) (by omega)) (by decide))⟩, _, _, rfl, ?_⟩⟩)⟩
    have hq := div_in (R := R) (x := 1 + c % M + 1) (by omega) (by omega)
    refine ⟨same_updr hs hrH, ?_, d ++ [1 + c % M], _, _, hw.add (by omega) (sz400 (by omega) (by omega)), ?_, ?_, ?_, rfl⟩
    · rw [upd_ne hpr]; exact hp2
    · rw [upd_same, List.map_append]; rfl
    · split <;> omega
    · split <;> omega
  · rintro σ H2 ⟨hs, hp2, d, R, z, hw, er, hR1, hR2, rfl⟩
    rw [mI] at hw
    have hr2 := hrH
    refine ⟨_, rfl, _, _, rfl, .inl ⟨_, SqL.of er, rfl⟩, _, _, rfl, rfl, _, rfl, ?_⟩
    rw [mI]
    refine iteD (fun c1 => ?_) (fun c1 => ?_)
    · refine ⟨_, rfl, _, rfl, .inl (.inl ⟨_, _, _, _, rfl, rfl, SqL.of er, atI_lastI hw.ne, rfl, _, rfl, ?_⟩)⟩
      refine iteD (fun c2 => ?_) (fun c2 => ?_)
      · refine ⟨_, rfl, _, rfl, r, _, _, _, rfl, rfl, er, (by rw [mI]; exact ixN_last (by omega)), ?_⟩
        refine ⟨_, rfl, _, .new hr2 (same_updr hs hr2) upd_same trivial, ?_⟩
        rw [set_last d hw.ne]
        exact q _ (hw.fixed (by omega) (by omega)) r hr2
      · refine ⟨_, rfl, _, .new hr2 hs er trivial, q _ (hw.good (by omega) fun z => c2 (congrArg V.int z.2)) r hr2⟩
    · refine iteF ⟨_, rfl, _, .new hr2 hs er trivial, q _ (hw.good (by omega) fun z => c1 (by omega)) r hr2⟩
theorem at4I (x y z u : Int) (r : Int) : ∃ v, atI [V.int x, V.int y, V.int z, V.int u] (r % 4) = some (.int v) ∧ (v = x ∨ v = y ∨ v = z ∨ v = u) := by
  have h : r % 4 = 0 ∨ r % 4 = 1 ∨ r % 4 = 2 ∨ r % 4 = 3 := by omega
  rcases h with h | h | h | h
  · rw [h]; exact ⟨x, atI_nat (j := 0) rfl, .inl rfl⟩
  · rw [h]; exact ⟨y, atI_nat (j := 1) rfl, .inr (.inl rfl)⟩
  · rw [h]; exact ⟨z, atI_nat (j := 2) rfl, .inr (.inr (.inl rfl))⟩
  · rw [h]; exact ⟨u, atI_nat (j := 3) rfl, .inr (.inr (.inr rfl))⟩
theorem ok_law_steps {f : Addr} {fd : FuncData} (nb : NB mg) (F : FunAt K mg "_law_steps" s_law_steps ["_law_script"] f fd) (D_law_cell_at : DefOk P w K mg base 1 "_law_cell_at" ["_law_script", "_law_k"] (spCellAt K)) (D_law_mixed : DefOk P w K mg base 1 "_law_mixed" ["_law_cell", "_law_k"] spMixed) (D_law_free_steps : DefOk P w K mg base 2 "_law_free_steps" ["_law_script"] (spSteps K)) : DefOk P w K mg base 3 "_law_steps" ["_law_script"] (spSteps K) := by
  refine F.ok sc_law_steps (fun vs H Q E h => ?_) (fun cdv A outer s H vs Q E hr h => ?_)
  · obtain ⟨a, ns, rfl, _⟩ := h; rfl
  obtain ⟨a, ns, rfl, hS, hl, q⟩ := h
  refine ⟨_, (pss_cons (ps_if (pt_cmpR oEq (pe_op op_mod (pe_callD D_law_cell_at hr (pa_cons (pv 0) (pa_cons pe_int pa_nil))) pe_int) pe_int (nomark _)) (pss_one (ps_ret (pe_callD D_law_free_steps hr (pa_cons (pv 0) pa_nil)))) pss_nil)
    (pss_cons (ps_set (i := 1) sc_law_steps.nd rfl (by first | exact Or.inl rfl | exact Or.inr rfl) (pe_op op_fdivB (pe_callD D_law_cell_at hr (pa_cons (pv 0) (pa_cons pe_int pa_nil))) pe_int))
    (pss_cons (ps_set (i := 2) sc_law_steps.nd rfl (by first | exact Or.inl rfl | exact Or.inr rfl) (pe_ix iAll (pe_lst (pa_cons (pe_op op_pow pe_int pe_int) (pa_cons (pe_op op_pow pe_int pe_int) pa_nil))) (pe_op op_mod (pv 1) pe_int) (fun _ _ => rfl)))
    (pss_cons (ps_set (i := 3) sc_law_steps.nd rfl (by first | exact Or.inl rfl | exact Or.inr rfl) (pe_ix iAll (pe_lst (pa_cons (pe_op oMul (pe_op op_pow pe_int pe_int) (pe_op op_pow pe_int pe_int)) (pa_cons (pe_op op_pow pe_int pe_int) pa_nil))) (pe_op op_mod (pv 1) pe_int) (fun _ _ => rfl)))
    (pss_cons (ps_set (i := 4) sc_law_steps.nd rfl (by first | exact Or.inl rfl | exact Or.inr rfl) (pe_lst (pa_cons (pe_op oSub (pe_op op_mod (pe_op oAdd (pe_op oMul (pe_op op_fdivB (pv 1) pe_int) pe_int) (pe_callD D_law_mixed hr (pa_cons (pv 1) (pa_cons pe_int pa_nil)))) (pe_op oAdd (pe_op oMul pe_int (pv 2)) pe_int)) (pv 2)) pa_nil)))
    (pss_cons (ps_for PassesOwn.never rfl (pi_range2 rfl nb.range_ (pa_cons pe_int (pa_cons (pe_callB (call_min2 rfl) rfl nb.min_ bo_min (pa_cons pe_int (pa_cons (pe_callB call_len rfl nb.len_ bo_len (pa_cons (pv 0) pa_nil)) pa_nil))) pa_nil))) (pg_name (i := 5) sc_law_steps.nd rfl (by first | exact Or.inl rfl | exact Or.inr rfl))
      (pss_cons (ps_set (i := 6) sc_law_steps.nd rfl (by first | exact Or.inl rfl | exact Or.inr rfl) (pe_ix iAll (pv 0) (pv 5) (fun _ _ => rfl)))
      (pss_cons (ps_set (i := 7) sc_law_steps.nd rfl (by first | exact Or.inl rfl | exact Or.inr rfl) (pe_op oAdd (pv 6) (pe_op oMul (pe_op oMul (pe_callD D_law_mixed hr (pa_cons (pv 6) (pa_cons (pv 5) pa_nil))) (pe_callD D_law_mixed hr (pa_cons (pv 6) (pa_cons (pe_op oAdd (pv 5) pe_int) pa_nil)))) (pe_callD D_law_mixed hr (pa_cons (pv 6) (pa_cons (pe_op oAdd (pv 5) pe_int) pa_nil))))))
      (pss_cons (ps_set (i := 8) sc_law_steps.nd rfl (by first | exact Or.inl rfl | exact Or.inr rfl) (pe_ix iAll (pe_lst (pa_cons pe_int (pa_cons pe_int (pa_cons pe_int (pa_cons (pe_op op_pow pe_int pe_int) pa_nil))))) (pe_op op_mod (pe_callD D_law_mixed hr (pa_cons (pv 6) (pa_cons (pe_op oAdd (pv 5) pe_int) pa_nil))) pe_int) (fun _ _ => rfl)))
      (pss_cons (ps_expr (pe_bm PySem.F.plainAttrs_list PySem.F.slot_list_append PySem.F.type_list_append mt_append (pv 4) (pa_cons (pe_op oAdd pe_int (pe_op op_mod (pv 7) (pe_callB (call_max2 rfl) rfl nb.max_ bo_max (pa_cons pe_int (pa_cons (pe_callB (call_min2 rfl) rfl nb.min_ bo_min (pa_cons (pe_op oSub (pv 3) pe_int) (pa_cons (pv 8) pa_nil))) pa_nil))))) pa_nil)))
      (pss_one (ps_set (i := 3) sc_law_steps.nd rfl (by first | exact Or.inl rfl | exact Or.inr rfl) (pe_callB (call_max2 rfl) rfl nb.max_ bo_max (pa_cons pe_int (pa_cons (pe_op op_fdivB (pv 3) (pe_op oAdd (pe_ix iAll (pv 4) (pe_un un_neg pe_int) (fun _ _ => rfl)) pe_int)) pa_nil))))))))))
    (pss_cons (ps_if (PW.pt (pw_and (pt_cmpR oGt (pe_callB call_len rfl nb.len_ bo_len (pa_cons (pv 4) pa_nil)) pe_int (nomark _)) (pw_and1 (pt_cmpR oEq (pe_ix iAll (pv 4) (pe_un un_neg pe_int) (fun _ _ => rfl)) pe_int (nomark _))))) (pss_one (ps_asg pe_int (pg_sub (pv 4) (pe_un un_neg pe_int) set_list))) pss_nil)
    (pss_one (ps_ret (pv 4)))))))))), ?_⟩
  refine ⟨_, rfl, a, ns, 0, rfl, hS, hl, _, _, rfl, rfl, (by show (0 : Int) < 2; decide), rfl, _, rfl, ?_⟩
  refine iteD (fun c0 => ?_) (fun c0 => ?_)
  · exact ⟨_, rfl, a, ns, rfl, hS, hl, fun s hs r hr2 => ⟨_, .new hr2 (same_new hr2) upd_same trivial, q s hs r hr2⟩⟩
  refine ⟨_, rfl, a, ns, 0, rfl, hS, hl, _, _, rfl, rfl, ⟨by decide, .inl (by decide)⟩, ?_⟩
  have p9 : CPow 10 9 := ⟨by decide, by decide, by decide⟩
  have p60 : CPow 10 60 := ⟨by decide, by decide, by decide⟩
  have p10 : CPow 10 10 := ⟨by decide, by decide, by decide⟩
  have p15 : CPow 10 15 := ⟨by decide, by decide, by decide⟩
  have p25 : CPow 10 25 := ⟨by decide, by decide, by decide⟩
  refine ⟨_, _, rfl, rfl, p9, _, _, rfl, rfl, p60, (by show 2 ≤ sizeLine; decide), fun g0 hg0 => ?_⟩
  refine ⟨_, rfl, _, _, rfl, rfl, (by show (0 : Int) < 2; decide), .inl (.inl ⟨_, _, _, _, rfl, rfl, SqL.of upd_same, at2I _ _ _, ?_⟩)⟩
  obtain ⟨G, hG⟩ : ∃ G : Int, G = if ns.getD 0 0 / 2 % 2 = 0 then (10 : Int) ^ (9 : Int).toNat else (10 : Int) ^ (60 : Int).toNat := ⟨_, rfl⟩
  rw [← hG]
  have G1 : 1 ≤ G ∧ G ≤ 10 ^ 60 := by rw [hG]; split <;> exact ⟨by decide, by decide⟩
  clear hG
  refine ⟨_, _, rfl, rfl, p60, _, _, rfl, rfl, p10, .inl ⟨_, _, rfl, rfl, .inr ⟨by decide, by decide⟩, _, _, rfl, rfl, p15, (by show 2 ≤ sizeLine; decide), fun g1 hg1 => ?_⟩⟩
  refine ⟨_, rfl, _, _, rfl, rfl, (by show (0 : Int) < 2; decide), .inl (.inl ⟨_, _, _, _, rfl, rfl, SqL.of upd_same, at2I _ _ _, ?_⟩)⟩
  obtain ⟨R0, hR⟩ : ∃ G : Int, G = if ns.getD 0 0 / 2 % 2 = 0 then (10 : Int) ^ (60 : Int).toNat * 10 ^ (10 : Int).toNat else (10 : Int) ^ (15 : Int).toNat := ⟨_, rfl⟩
  rw [← hR]
  have R1 : 1 ≤ R0 ∧ R0 ≤ 10 ^ 70 := by rw [hR]; split <;> exact ⟨by decide, by decide⟩
  clear hR
  have sA := (same_new (o := HO.lst [V.int ((10 : Int) ^ (9 : Int).toNat), V.int ((10 : Int) ^ (60 : Int).toNat)]) hg0).trans (same_new (o := HO.lst [V.int ((10 : Int) ^ (60 : Int).toNat * 10 ^ (10 : Int).toNat), V.int ((10 : Int) ^ (15 : Int).toNat)]) hg1)
  refine ⟨_, rfl, _, _, rfl, rfl, ⟨by decide, .inl (by decide)⟩, .inl ⟨_, _, rfl, rfl, .inr ⟨by decide, by decide⟩, _, rfl, _, _, rfl, fun m0 hm0 hm1 => .inl ⟨_, _, rfl, rfl, ?_⟩⟩⟩
  refine ⟨_, rfl, .inl ⟨_, _, rfl, rfl, .inl ⟨by decide, by decide⟩, .inl ⟨_, _, rfl, rfl, _, _, rfl, rfl, (by show (0 : Int) < _; omega), _, rfl, _, _, rfl, rfl, (by show 1 ≤ sizeLine; decide), fun r hr2 => ?_⟩⟩⟩
  have hw0 := modb (a := ns.getD 0 0 / 2 / 2 * 48271 + m0) (b := 2 * G + 1) (by omega)
  have hrH := sA.free hr2
  have sB := sA.trans (same_new (o := HO.lst [V.int ((ns.getD 0 0 / 2 / 2 * 48271 + m0) % (2 * G + 1) - G)]) hr2)
  refine ⟨_, rfl, _, _, rfl, .inl ⟨_, sB.seq hS, rfl⟩, _, _, rfl, ?_⟩
  rw [mI]
  obtain ⟨N, hN⟩ : ∃ N : Int, N = if (ns.length : Int) < 63 then (ns.length : Int) else 63 := ⟨_, rfl⟩
  rw [← hN]
  have hN1 : N = ns.length := by rw [hN]; split <;> omega
  refine ⟨_, _, rfl, (by omega), ?_⟩
  refine for_range (fun i σ H2 => Same H H2 ∧ ∃ d R z1 z2 z3 z4, Way d (1 + i) ∧ H2 r = some (.lst (d.map V.int)) ∧ 1 ≤ R ∧ R ≤ 10 ^ 70 ∧ σ = [some (.ref a), some (.int (ns.getD 0 0 / 2)), some (.int G), some (.int R), some (.ref r), z1, z2, z3, z4]) ?_ ?_ ?_
  · exact ⟨sB, [(ns.getD 0 0 / 2 / 2 * 48271 + m0) % (2 * G + 1) - G], R0, none, none, none, none, Way.one (sz400 (by omega) (by omega)), upd_same, R1.1, R1.2, rfl⟩
  · rintro i σ H2 hi ⟨hs, d, R, z1, z2, z3, z4, hw, er, hR1, hR2, rfl⟩
    have hi2 : i + 1 < ns.length := by omega
    have ei : (1 : Int) + (i : Int) = ((i + 1 : Nat) : Int) := by omega
    have e0 : atI (ns.map V.int) (1 + (i : Int)) = some (.int (ns[i + 1]'hi2)) := by rw [ei]; exact atI_nat (by rw [List.getElem?_map, List.getElem?_eq_getElem hi2]; rfl)
    refine ⟨_, rfl, _, rfl, .inl (.inl ⟨_, _, _, _, rfl, rfl, hs.seq hS, e0, ?_⟩)⟩
    generalize ns[i + 1]'hi2 = c
    refine ⟨_, rfl, _, rfl, _, rfl, _, _, rfl, fun m1 a1 b1 => ?_⟩
    refine ⟨_, rfl, _, rfl, .inl ⟨_, _, rfl, rfl, _, _, rfl, fun m2 a2 b2 => .inl ⟨_, _, rfl, rfl, .inl ⟨by omega, by omega⟩, ?_⟩⟩⟩
    refine ⟨_, rfl, _, rfl, .inl ⟨_, _, rfl, rfl, _, _, rfl, fun m3 a3 b3 => .inl ⟨_, _, rfl, rfl, .inr ⟨by omega, by omega⟩, .inl ⟨_, _, rfl, rfl, ?_⟩⟩⟩⟩
    refine ⟨_, _, rfl, rfl, p25, (by show 4 ≤ sizeLine; decide), fun g2 hg2 => ?_⟩
    refine ⟨_, rfl, _, rfl, .inl ⟨_, _, rfl, rfl, _, _, rfl, fun m4 a4 b4 => ⟨_, _, rfl, rfl, (by show (0 : Int) < 4; decide), ?_⟩⟩⟩
    obtain ⟨sz, hsz, hsv⟩ := at4I 1 2 10 (10 ^ (25 : Int).toNat) m4
    refine .inl (.inl ⟨_, _, _, _, rfl, rfl, SqL.of upd_same, hsz, ?_⟩)
    have hs1 : 1 ≤ sz ∧ sz ≤ 10 ^ 25 := by
      rcases hsv with rfl | rfl | rfl | rfl <;> exact ⟨by decide, by decide⟩
    have hs3 := hs.trans (same_new (o := HO.lst [V.int 1, V.int 2, V.int 10, V.int ((10 : Int) ^ (25 : Int).toNat)]) hg2)
    have er3 := same_new (o := HO.lst [V.int 1, V.int 2, V.int 10, V.int ((10 : Int) ^ (25 : Int).toNat)]) hg2 _ _ er
    have hdl := hw.len
    refine ⟨_, rfl, .inl ⟨rfl, _, SqL.of er3⟩, _, rfl, _, rfl, _, _, rfl, rfl, _, rfl, _, _, rfl, _, _, rfl, ?_⟩
    obtain ⟨M, hM⟩ : ∃ M : Int, M = if (if sz < R - 1 then sz else R - 1) > 1 then (if sz < R - 1 then sz else R - 1) else 1 := ⟨_, rfl⟩
    rw [← hM]
    have hM1 : 1 ≤ M ∧ M ≤ 10 ^ 70 := by rw [hM]; split <;> split <;> omega
    have hx1 := modb (a := c + m1 * m2 * m3) (b := M) (by omega)
    refine ⟨_, _, rfl, rfl, (by omega), .inl ⟨_, _, rfl, rfl, ?_⟩⟩
    refine ⟨_, _, _, rfl, rfl, er3, (by rw [mI]; exact Nat.lt_of_lt_of_le (show d.length < 100001 by omega) (small5' (by decide))), ?_⟩
    refine ⟨_, rfl, _, rfl, _, rfl, .inl (.inl ⟨_, _, _, _, rfl, rfl, SqL.of upd_same, atI_last _ _, .inl ⟨_, _, rfl, rfl, _, _, rfl, rfl, ⟨by omega, .inl (Nat.le_trans (bits_lt (k := 240) (by omega)) (by decide))⟩, _, _, rfl, ?_⟩⟩)⟩
    have hq := div_in (R := R) (x := 1 + (c + m1 * m2 * m3) % M + 1) (by omega) (by omega)
    refine ⟨same_updr hs3 hrH, d ++ [1 + (c + m1 * m2 * m3) % M], _, _, _, _, _, hw.add (by omega) (sz400 (by omega) (by omega)), ?_, ?_, ?_, rfl⟩
    · rw [upd_same, List.map_append]; rfl
    · split <;> omega
    · split <;> omega
  · rintro σ H2 ⟨hs, d, R, z1, z2, z3, z4, hw, er, hR1, hR2, rfl⟩
    have hr2 := hrH
    refine ⟨_, rfl, _, _, rfl, .inl ⟨_, SqL.of er, rfl⟩, _, _, rfl, rfl, _, rfl, ?_⟩
    rw [mI]
    refine iteD (fun c1 => ?_) (fun c1 => ?_)
    · refine ⟨_, rfl, _, rfl, .inl (.inl ⟨_, _, _, _, rfl, rfl, SqL.of er, atI_lastI hw.ne, rfl, _, rfl, ?_⟩)⟩
      refine iteD (fun c2 => ?_) (fun c2 => ?_)
      · refine ⟨_, rfl, _, rfl, r, _, _, _, rfl, rfl, er, (by rw [mI]; exact ixN_last (by omega)), ?_⟩
        refine ⟨_, rfl, _, .new hr2 (same_updr hs hr2) upd_same trivial, ?_⟩
        rw [set_last d hw.ne]
        exact q _ (hw.fixed (by omega) (by omega)) r hr2
      · refine ⟨_, rfl, _, .new hr2 hs er trivial, q _ (hw.good (by omega) fun z => c2 (congrArg V.int z.2)) r hr2⟩
    · refine iteF ⟨_, rfl, _, .new hr2 hs er trivial, q _ (hw.good (by omega) fun z => c1 (by omega)) r hr2⟩
theorem ok_law_long {f : Addr} {fd : FuncData} (nb : NB mg) (F : FunAt K mg "_law_long" s_law_long ["_law_script"] f fd) (D_law_cell_at : DefOk P w K mg base 1 "_law_cell_at" ["_law_script", "_law_k"] (spCellAt K)) (D_law_mixed : DefOk P w K mg base 1 "_law_mixed" ["_law_cell", "_law_k"] spMixed) (D_law_steps : DefOk P w K mg base 3 "_law_steps" ["_law_script"] (spSteps K)) : DefOk P w K mg base 4 "_law_long" ["_law_script"] (spSteps K) := by
  refine F.ok sc_law_long (fun vs H Q E h => ?_) (fun cdv A outer s H vs Q E hr h => ?_)
  · obtain ⟨a, ns, rfl, _⟩ := h; rfl
  obtain ⟨a, ns, rfl, hS, hl, q⟩ := h
  refine ⟨_, (pss_cons (ps_set (i := 1) sc_law_long.nd rfl (by first | exact Or.inl rfl | exact Or.inr rfl) (pe_callD D_law_cell_at hr (pa_cons (pv 0) (pa_cons pe_int pa_nil))))
    (pss_cons (ps_if (pt_cmpR oNe (pe_op op_mod (pe_op op_fdivB (pv 1) pe_int) pe_int) pe_int (nomark _)) (pss_one (ps_ret (pe_callD D_law_steps hr (pa_cons (pv 0) pa_nil)))) pss_nil)
    (pss_cons (ps_set (i := 2) sc_law_long.nd rfl (by first | exact Or.inl rfl | exact Or.inr rfl) (pe_lst (pa_cons (pe_op oSub (pe_op op_mod (pe_callD D_law_mixed hr (pa_cons (pv 1) (pa_cons pe_int pa_nil))) pe_int) pe_int) pa_nil)))
    (pss_cons (ps_for PassesOwn.never rfl (pi_range1 rfl nb.range_ (pa_cons (pe_op oAdd pe_int (pe_op op_mod (pe_op op_fdivB (pv 1) pe_int) pe_int)) pa_nil)) (pg_name (i := 3) sc_law_long.nd rfl (by first | exact Or.inl rfl | exact Or.inr rfl))
      (pss_cons (ps_set (i := 4) sc_law_long.nd rfl (by first | exact Or.inl rfl | exact Or.inr rfl) (pe_callD D_law_cell_at hr (pa_cons (pv 0) (pa_cons (pe_op oAdd pe_int (pe_op op_mod (pv 3) (pe_callB (call_max2 rfl) rfl nb.max_ bo_max (pa_cons pe_int (pa_cons (pe_callB (call_min2 rfl) rfl nb.min_ bo_min (pa_cons pe_int (pa_cons (pe_op oSub (pe_callB call_len rfl nb.len_ bo_len (pa_cons (pv 0) pa_nil)) pe_int) pa_nil))) pa_nil))))) pa_nil))))
      (pss_one (ps_if (pt_cmpR oEq (pe_op op_mod (pv 1) pe_int) pe_int (nomark _)) (pss_one (ps_expr (pe_bm PySem.F.plainAttrs_list PySem.F.slot_list_append PySem.F.type_list_append mt_append (pv 2) (pa_cons (pe_op oAdd pe_int (pe_op op_mod (pe_op op_shr (pe_callD D_law_cell_at hr (pa_cons (pv 0) (pa_cons (pe_op oAdd pe_int (pe_op op_fdivB (pv 3) pe_int)) pa_nil))) (pe_op op_mod (pv 3) pe_int)) pe_int)) pa_nil)))) (pss_one (ps_expr (pe_bm PySem.F.plainAttrs_list PySem.F.slot_list_append PySem.F.type_list_append mt_append (pv 2) (pa_cons (pe_op oAdd pe_int (pe_op op_fdivB (pe_op op_mod (pe_callD D_law_mixed hr (pa_cons (pv 4) (pa_cons (pe_op oAdd (pv 3) pe_int) pa_nil))) pe_int) pe_int)) pa_nil))))))))
    (pss_cons (ps_asg pe_int (pg_sub (pv 2) (pe_un un_neg pe_int) set_list))
    (pss_one (ps_ret (pv 2)))))))), ?_⟩
  refine ⟨_, rfl, a, ns, 0, rfl, hS, hl, ?_⟩
  generalize ns.getD 0 0 = fi
  refine ⟨_, rfl, _, _, rfl, rfl, ⟨by decide, .inl (by decide)⟩, _, _, rfl, rfl, (by show (0 : Int) < 8; decide), rfl, _, rfl, ?_⟩
  have key : ∀ {B C : Prop}, B → C → (if (!decide (V.int (fi / 2 % 8) = V.int 7)) = true then B else C) := fun b c => by split <;> assumption
  refine key ?_ ?_
  · exact ⟨_, rfl, a, ns, rfl, hS, hl, fun s hs r hr2 => ⟨_, .new hr2 (same_new hr2) upd_same trivial, q s hs r hr2⟩⟩
  refine ⟨_, rfl, _, _, rfl, fun m0 a0 b0 => ⟨_, _, rfl, rfl, (by show (0 : Int) < 2001; decide), _, _, rfl, rfl, (by show 1 ≤ sizeLine; decide), fun r hr2 => ?_⟩⟩
  have hw0 := modb (a := m0) (b := 2001) (by decide)
  have sB := same_new (o := HO.lst [V.int (m0 % 2001 - 1000)]) hr2
  refine ⟨_, rfl, _, _, rfl, rfl, ⟨by decide, .inl (by decide)⟩, _, _, rfl, rfl, (by show (0 : Int) < 199; decide), .inl ⟨_, _, rfl, rfl, ?_⟩⟩
  have hn := modb (a := fi / 16) (b := 199) (by decide)
  refine ⟨_, rfl, (by omega), (by omega), ?_⟩
  refine for_range (fun i σ H2 => Same H H2 ∧ ∃ d z1 z2, Way d (1 + i) ∧ d.length = 1 + i ∧ H2 r = some (.lst (d.map V.int)) ∧ σ = [some (.ref a), some (.int fi), some (.ref r), z1, z2]) ?_ ?_ ?_
  · exact ⟨sB, [m0 % 2001 - 1000], none, none, Way.one (sz400 (by omega) (by omega)), rfl, upd_same, rfl⟩
  · rintro i σ H2 hi ⟨hs, d, z1, z2, hw, hdl, er, rfl⟩
    rw [Int.zero_add]
    refine ⟨_, rfl, _, rfl, _, rfl, _, _, rfl, .inl ⟨_, hs.seq hS, rfl⟩, _, _, rfl, rfl, _, _, rfl, _, _, rfl, ?_⟩
    rw [mI]
    obtain ⟨M, hM⟩ : ∃ M : Int, M = if (if (ns.length : Int) - 1 < 62 then (ns.length : Int) - 1 else 62) > 1 then (if (ns.length : Int) - 1 < 62 then (ns.length : Int) - 1 else 62) else 1 := ⟨_, rfl⟩
    rw [← hM]
    have hM1 : 1 ≤ M ∧ M ≤ 62 := by rw [hM]; split <;> split <;> omega
    have hmi := modb (a := (i : Int)) (b := M) (by omega)
    obtain ⟨j, hj⟩ : ∃ j : Nat, (1 : Int) + (i : Int) % M = j := ⟨(1 + (i : Int) % M).toNat, by omega⟩
    refine ⟨_, _, rfl, rfl, (by omega), .inl ⟨_, _, rfl, rfl, a, ns, j, (congrArg (fun x => [V.ref a, V.int x]) hj), hs.seq hS, hl, ?_⟩⟩
    generalize ns.getD j 0 = c
    refine ⟨_, rfl, _, _, rfl, rfl, (by show (0 : Int) < 2; decide), rfl, _, rfl, ?_⟩
    have key2 : ∀ {B C : Prop}, B → C → (if (decide (V.int (fi % 2) = V.int 1)) = true then B else C) := fun b c => by split <;> assumption
    have happ : (d.map V.int).length < sizeLine := by rw [mI]; exact Nat.lt_of_lt_of_le (show d.length < 100001 by omega) (small5' (by decide))
    refine key2 ?_ ?_
    · obtain ⟨k, hk⟩ : ∃ k : Nat, (1 : Int) + (i : Int) / 4 = k := ⟨(1 + (i : Int) / 4).toNat, by omega⟩
      refine ⟨_, rfl, .inl ⟨rfl, _, SqL.of er⟩, _, rfl, _, rfl, _, _, rfl, rfl, ⟨by decide, .inl (by decide)⟩, .inl ⟨_, _, rfl, rfl, a, ns, k, (congrArg (fun x => [V.ref a, V.int x]) hk), hs.seq hS, hl, ?_⟩⟩
      generalize ns.getD k 0 = c2
      have hi4 := modb (a := (i : Int)) (b := 4) (by decide)
      refine ⟨_, rfl, _, _, rfl, rfl, (by show (0 : Int) < 4; decide), _, _, rfl, rfl, hi4.1, _, _, rfl, rfl, (by show (0 : Int) < 2; decide), .inl ⟨_, _, rfl, rfl, ?_⟩⟩
      have hm := modb (a := c2 / 2 ^ ((i : Int) % 4).toNat) (b := 2) (by decide)
      refine ⟨_, _, _, rfl, rfl, er, happ, ?_⟩
      refine ⟨same_updr hs hr2, d ++ [1 + c2 / 2 ^ ((i : Int) % 4).toNat % 2], _, _, hw.add (by omega) (sz400 (by omega) (by omega)), by rw [List.length_append, hdl]; rfl, ?_, rfl⟩
      rw [upd_same, List.map_append]; rfl
    · refine ⟨_, rfl, .inl ⟨rfl, _, SqL.of er⟩, _, rfl, _, rfl, .inl ⟨_, _, rfl, rfl, _, _, rfl, fun m1 a1 b1 => ⟨_, _, rfl, rfl, (by show (0 : Int) < 3; decide), _, _, rfl, rfl, ⟨by decide, .inl (by decide)⟩, .inl ⟨_, _, rfl, rfl, ?_⟩⟩⟩⟩
      have hm := modb (a := m1) (b := 3) (by decide)
      refine ⟨_, _, _, rfl, rfl, er, happ, ?_⟩
      refine ⟨same_updr hs hr2, d ++ [1 + m1 % 3 / 2], _, _, hw.add (by omega) (sz400 (by omega) (by omega)), by rw [List.length_append, hdl]; rfl, ?_, rfl⟩
      rw [upd_same, List.map_append]; rfl
  · rintro σ H2 ⟨hs, d, z1, z2, hw, hdl, er, rfl⟩
    refine ⟨_, rfl, _, rfl, r, _, _, _, rfl, rfl, er, (by rw [mI]; exact ixN_last (by omega)), ?_⟩
    refine ⟨_, rfl, _, .new hr2 (same_updr hs hr2) upd_same trivial, ?_⟩
    rw [set_last d hw.ne]
    exact q _ (hw.fixed (by omega) (by omega)) r hr2
def spLawFrac : Sp := fun vs H Q _ => ∃ (a : Addr) (s : List Int), vs = [.ref a] ∧ H a = some (.lst (s.map .int)) ∧ s.length ≤ 1000 ∧ (∀ x ∈ s, x.natAbs < 2 ^ 1000) ∧ s ≠ [] ∧ ∀ r, H r = none → Q (.ref r) (upd H r (.tup [.int (frac s).1, .int (frac s).2]))
theorem ok_law_fraction {f : Addr} {fd : FuncData} (nb : NB mg) (F : FunAt K mg "_law_fraction" s_law_fraction ["_law_steps_here"] f fd) : DefOk P w K mg base 1 "_law_fraction" ["_law_steps_here"] spLawFrac := by
  refine F.ok sc_law_fraction (fun vs H Q E h => ?_) (fun cdv A outer s H vs Q E hr h => ?_)
  · obtain ⟨a, s, rfl, _⟩ := h; rfl
  obtain ⟨a, s, rfl, ha, hl, hb, hs, q⟩ := h
  refine ⟨_, (pss_cons (ps_set (i := 1) sc_law_fraction.nd rfl (by first | exact Or.inl rfl | exact Or.inr rfl) (pe_ix iAll (pv 0) (pe_un un_neg pe_int) (fun _ _ => rfl)))
    (pss_cons (ps_set (i := 2) sc_law_fraction.nd rfl (by first | exact Or.inl rfl | exact Or.inr rfl) pe_int)
    (pss_cons (ps_for PassesOwn.never rfl (pi_rev rfl nb.reversed_ (pe_slice slAll (pv 0) po_none (po_some (pe_un un_neg pe_int)))) (pg_name (i := 3) sc_law_fraction.nd rfl (by first | exact Or.inl rfl | exact Or.inr rfl))
      (pss_one (ps_par (i := 1) (j := 2) rfl sc_law_fraction.nd rfl rfl (by decide) rfl rfl (pa_cons (pe_op oAdd (pe_op op_mulB (pv 3) (pv 1)) (pv 2)) (pa_cons (pv 1) pa_nil)) rfl)))
    (pss_one (ps_ret (pe_tup (pa_cons (pv 1) (pa_cons (pv 2) pa_nil)))))))), ?_⟩
  have hn : 0 < s.length := List.length_pos_iff.mpr hs
  refine ⟨_, rfl, _, rfl, .inl (.inl ⟨_, _, _, _, rfl, rfl, SqL.of ha, atI_lastI hs, ?_⟩)⟩
  refine ⟨_, rfl, _, rfl, _, rfl, .inl ⟨a, _, rfl, SqL.of ha, fun p hp => ?_⟩⟩
  rw [cutV_init, ← List.map_take, mI]
  have s1' := same_new (o := HO.lst ((s.take (s.length - 1)).map V.int)) hp
  refine ⟨p, _, rfl, SqL.of upd_same, ?_⟩
  have hlen : ((s.take (s.length - 1)).map V.int).length = s.length - 1 := by rw [mI, List.length_take]; omega
  refine for_rev (fun i σ H2 => H2 = upd H p (.lst ((s.take (s.length - 1)).map V.int)) ∧ ∃ z1, σ = [some (.ref a), some (.int (frac (s.drop (s.length - 1 - i))).1), some (.int (frac (s.drop (s.length - 1 - i))).2), z1]) ?_ ?_ ?_ ?_
  · refine ⟨rfl, none, ?_⟩
    rw [Nat.sub_zero, drop_last hs]
    show _ = [_, some (V.int (s.getLastD 0 * 1 + 0)), some (V.int 1), _]
    rw [Int.mul_one, Int.add_zero]; rfl
  · rintro i σ H2 hi ⟨rfl, _⟩; exact SqL.of upd_same
  · rintro i x σ H2 hi hx ⟨rfl, z1, rfl⟩
    rw [hlen] at hi
    obtain ⟨y, rfl, ed, hy⟩ := take_rev hx hi
    have fb := frac_bits (s := s.drop (s.length - 1 - i)) (by rw [List.length_drop]; omega) fun x hx => hb x (List.mem_of_mem_drop hx)
    refine ⟨_, rfl, _, rfl, _, _, rfl, rfl, ⟨Nat.le_trans (bits_lt (hb y hy)) (by decide), fb.1⟩, _, rfl, .inl ⟨_, _, rfl, rfl, _, rfl, _, _, rfl, rfl, some (.int y), ?_⟩⟩
    rw [ed]; rfl
  · rintro σ H2 ⟨rfl, z1, rfl⟩
    rw [hlen, Nat.sub_self, List.drop_zero]
    refine ⟨_, rfl, _, rfl, (by show 2 ≤ sizeLine; decide), fun r hr2 => ?_⟩
    exact ⟨_, .new (s1'.free hr2) (s1'.trans (same_new hr2)) upd_same trivial, q r (s1'.free hr2)⟩
def SeqAs (H : Hp) (k : Str) (a : Addr) (xs : List Int) : Prop := (k = "list" ∧ H a = some (.lst (xs.map .int))) ∨ (k = "tuple" ∧ H a = some (.tup (xs.map .int)))
def spNumbers : Sp := fun vs H Q _ => ∃ (a b : Addr) (xs : List Int) (k : Str), vs = [.ref a, .ref b, .str k] ∧ SeqAs H k a xs ∧ SeqAs H k b xs ∧ xs.length ≤ 100000 ∧ Q (.bl true) H
theorem st_lt : decide (V.str (Str.ofString "list") = V.str (Str.ofString "tuple")) = false := by decide +kernel
theorem st_tl : decide (V.str (Str.ofString "tuple") = V.str (Str.ofString "list")) = false := by decide +kernel
theorem st_ll : decide (V.str (Str.ofString "list") = V.str (Str.ofString "list")) = true := by decide +kernel
theorem st_tt : decide (V.str (Str.ofString "tuple") = V.str (Str.ofString "tuple")) = true := by decide +kernel
theorem ok_law_numbers {f : Addr} {fd : FuncData} (nb : NB mg) (F : FunAt K mg "_law_numbers" s_law_numbers ["_law_found", "_law_due", "_law_kind"] f fd) (D_law_whole : DefOk P w K mg base 1 "_law_whole" ["_law_found"] spWhole) : DefOk P w K mg base 2 "_law_numbers" ["_law_found", "_law_due", "_law_kind"] spNumbers := by
  refine F.ok sc_law_numbers (fun vs H Q E h => ?_) (fun cdv A outer s H vs Q E hr h => ?_)
  · obtain ⟨a, b, xs, k, rfl, _⟩ := h; rfl
  obtain ⟨a, b, xs, k, rfl, h1, h2, hl, q⟩ := h
  refine ⟨_, (pss_cons (ps_if (PW.pt (pw_or (PW.pt (pw_and (pt_cmpR oEq (pv 2) pe_str (nomark _)) (pw_and1 (pt_not (pt_truth (pe_callB call_isinstA rfl nb.isinstance_ bo_isinstance (pa_cons (pv 0) (pa_cons (pe_bltn (v := .ty "list") rfl nb.list_ bo_list rfl) pa_nil))) (fun _ => rfl)))))) (pw_or1 (PW.pt (pw_and (pt_cmpR oEq (pv 2) pe_str (nomark _)) (pw_and1 (pt_not (pt_truth (pe_callB call_isinstA rfl nb.isinstance_ bo_isinstance (pa_cons (pv 0) (pa_cons (pe_bltn (v := .ty "tuple") rfl nb.tuple_ bo_tuple rfl) pa_nil))) (fun _ => rfl))))))))) (pss_one (ps_ret pe_bl)) pss_nil)
    (pss_cons (ps_if (pt_cmpR oNe (pe_callB call_len rfl nb.len_ bo_len (pa_cons (pv 0) pa_nil)) (pe_callB call_len rfl nb.len_ bo_len (pa_cons (pv 1) pa_nil)) (nomark _)) (pss_one (ps_ret pe_bl)) pss_nil)
    (pss_cons (ps_for PassesOwn.never rfl (pi_range1 rfl nb.range_ (pa_cons (pe_callB call_len rfl nb.len_ bo_len (pa_cons (pv 1) pa_nil)) pa_nil)) (pg_name (i := 3) sc_law_numbers.nd rfl (by first | exact Or.inl rfl | exact Or.inr rfl))
      (pss_one (ps_if (PW.pt (pw_or (pt_not (pt_truth (pe_callD D_law_whole hr (pa_cons (pe_ix iAll (pv 0) (pv 3) (fun _ _ => rfl)) pa_nil)) (fun _ => rfl))) (pw_or1 (pt_cmpR oNe (pe_ix iAll (pv 0) (pv 3) (fun _ _ => rfl)) (pe_ix iAll (pv 1) (pv 3) (fun _ _ => rfl)) (nomark _))))) (pss_one (ps_ret pe_bl)) pss_nil)))
    (pss_one (ps_ret pe_bl))))), ?_⟩
  rcases h1 with ⟨rfl, ha⟩ | ⟨rfl, ha⟩
  · rcases h2 with ⟨_, hb⟩ | ⟨z, _⟩
    · refine ⟨_, rfl, rfl, _, rfl, ?_⟩
      rw [st_ll]
      refine iteT ⟨_, rfl, .inl ⟨_, _, _, true, rfl, .lst ha, kit_same .., true, rfl, ?_⟩⟩
      refine iteF ⟨_, rfl, rfl, _, rfl, ?_⟩
      rw [st_lt]
      refine iteF ?_
      refine iteF ⟨_, rfl, _, _, rfl, .inl ⟨_, SqL.of ha, rfl⟩, _, rfl, _, _, rfl, .inl ⟨_, SqL.of hb, rfl⟩, rfl, _, rfl, ?_⟩
      rw [mI, decide_eq_true rfl]
      refine iteF ⟨_, rfl, _, _, rfl, .inl ⟨_, SqL.of hb, rfl⟩, ?_⟩
      rw [mI]
      refine ⟨_, rfl, (by omega), (by omega), ?_⟩
      refine for_range (fun i σ H2 => H2 = H ∧ ∃ y z, σ = [some (.ref a), some (.ref b), y, z]) ?_ ?_ ?_
      · exact ⟨rfl, _, none, rfl⟩
      · rintro i σ H2 hi ⟨rfl, y, z, rfl⟩
        rw [Int.zero_add]
        have hi' : i < xs.length := by omega
        have e0 : atI (xs.map V.int) ((i : Nat) : Int) = some (.int (xs[i]'hi')) := atI_nat (by rw [List.getElem?_map, List.getElem?_eq_getElem hi']; rfl)
        refine ⟨_, rfl, _, rfl, .inl (.inl ⟨_, _, _, _, rfl, rfl, SqL.of ha, e0, _, rfl, true, rfl, ?_⟩)⟩
        refine iteF ⟨_, rfl, _, rfl, .inl (.inl ⟨_, _, _, _, rfl, rfl, SqL.of ha, e0, _, rfl, _, rfl, .inl (.inl ⟨_, _, _, _, rfl, rfl, SqL.of hb, e0, rfl, _, rfl, iteNS rfl ?_⟩)⟩)⟩
        exact ⟨rfl, _, _, rfl⟩
      · rintro σ H2 ⟨rfl, y, z, rfl⟩
        exact ⟨H2, .refl (Same.refl _), q⟩
    · exact absurd z (by decide +kernel)
  · rcases h2 with ⟨z, _⟩ | ⟨_, hb⟩
    · exact absurd z (by decide +kernel)
    · refine ⟨_, rfl, rfl, _, rfl, ?_⟩
      rw [st_tl]
      refine iteF (iteF ⟨_, rfl, rfl, _, rfl, ?_⟩)
      rw [st_tt]
      refine iteT ⟨_, rfl, .inl ⟨_, _, _, true, rfl, .tup ha, kit_same .., true, rfl, ?_⟩⟩
      refine iteF ⟨_, rfl, _, _, rfl, .inr ⟨_, SqT.of ha, rfl⟩, _, rfl, _, _, rfl, .inr ⟨_, SqT.of hb, rfl⟩, rfl, _, rfl, ?_⟩
      rw [mI, decide_eq_true rfl]
      refine iteF ⟨_, rfl, _, _, rfl, .inr ⟨_, SqT.of hb, rfl⟩, ?_⟩
      rw [mI]
      refine ⟨_, rfl, (by omega), (by omega), ?_⟩
      refine for_range (fun i σ H2 => H2 = H ∧ ∃ y z, σ = [some (.ref a), some (.ref b), y, z]) ?_ ?_ ?_
      · exact ⟨rfl, _, none, rfl⟩
      · rintro i σ H2 hi ⟨rfl, y, z, rfl⟩
        rw [Int.zero_add]
        have hi' : i < xs.length := by omega
        have e0 : atI (xs.map V.int) ((i : Nat) : Int) = some (.int (xs[i]'hi')) := atI_nat (by rw [List.getElem?_map, List.getElem?_eq_getElem hi']; rfl)
        refine ⟨_, rfl, _, rfl, .inl (.inr ⟨_, _, _, _, rfl, rfl, SqT.of ha, e0, _, rfl, true, rfl, ?_⟩)⟩
        refine iteF ⟨_, rfl, _, rfl, .inl (.inr ⟨_, _, _, _, rfl, rfl, SqT.of ha, e0, _, rfl, _, rfl, .inl (.inr ⟨_, _, _, _, rfl, rfl, SqT.of hb, e0, rfl, _, rfl, iteNS rfl ?_⟩)⟩)⟩
        exact ⟨rfl, _, _, rfl⟩
      · rintro σ H2 ⟨rfl, y, z, rfl⟩
        exact ⟨H2, .refl (Same.refl _), q⟩

theorem frow_len {s : List Int} (h : s ≠ []) (hR : RowIn s) : (frow s).length ≤ 271 * s.length := by
  obtain ⟨a, r, rfl⟩ := List.exists_cons_of_ne_nil h
  rw [← pcs_all]
  have key : ∀ l : List (List Bool), (∀ p ∈ l, p.length ≤ 271) → l.flatten.length ≤ 271 * l.length := fun l hl => by
    induction l with
    | nil => exact Nat.zero_le _
    | cons p t ih =>
      rw [List.flatten_cons, List.length_append, List.length_cons]
      have := hl p (List.mem_cons_self ..)
      have := ih fun q hq => hl q (List.mem_cons_of_mem _ hq)
      omega
  have := key (pcs 0 (a :: r)) fun p hp => by
    obtain ⟨i, hi, rfl⟩ := List.mem_iff_getElem.mp hp
    have hi' : i < (a :: r).length := by rw [← pcs_length 0 (a :: r)]; exact hi
    have hg := pcs_get (k := 0) (List.getElem?_eq_getElem hi')
    rw [List.getElem?_eq_getElem hi, Nat.zero_add] at hg
    rw [Option.some.inj hg]
    exact piece_len (hR.at (List.getElem?_eq_getElem hi'))
  rwa [pcs_length] at this
theorem StepsOk.row {s : List Int} (h : StepsOk s) : RowIn s := by
  obtain ⟨hg, _, hz⟩ := h
  obtain ⟨a, r, rfl⟩ := List.exists_cons_of_ne_nil hg.ne
  refine ⟨fun x hx => ?_, fun x hx => ?_⟩
  · have := hz x (List.mem_of_mem_take hx)
    unfold WholeIn; omega
  · have h1 := hz x (List.mem_of_mem_drop hx)
    have h2 : Tail r := hg
    have h3 := h2.1 x hx
    unfold CountIn; omega
def sgn (n j : Nat) : Bool := if j = n then !odd n else odd j
def spLaid : Sp := fun vs H Q _ => ∃ (a : Addr) (s : List Int), vs = [.ref a] ∧ H a = some (.lst (s.map .int)) ∧ s ≠ [] ∧ s.length ≤ 300 ∧ RowIn s ∧ Q (.str (rowS (frow s))) H
theorem s01 : (Str.ofString "01").cps.toList = [bc false, bc true] := by decide +kernel
theorem s10 : (Str.ofString "10").cps.toList = [bc true, bc false] := by decide +kernel
theorem len01 : (Str.ofString "01").length ≤ sizeLine := by decide +kernel
theorem len10 : (Str.ofString "10").length ≤ sizeLine := by decide +kernel
theorem at01 (k : Nat) : atI (Str.ofString "01").cps.toList ((k : Int) % 2) = some (bc (odd k)) := by
  rw [s01]
  have h : k % 2 = 0 ∨ k % 2 = 1 := by omega
  rcases h with h | h
  · have e : ((k : Int) % 2) = ((0 : Nat) : Int) := by omega
    rw [e, show odd k = false from decide_eq_false (by omega)]; exact atI_nat rfl
  · have e : ((k : Int) % 2) = ((1 : Nat) : Int) := by omega
    rw [e, show odd k = true from decide_eq_true h]; exact atI_nat rfl
theorem at10 (k : Nat) : atI (Str.ofString "10").cps.toList ((k : Int) % 2) = some (bc (!odd k)) := by
  rw [s10]
  have h : k % 2 = 0 ∨ k % 2 = 1 := by omega
  rcases h with h | h
  · have e : ((k : Int) % 2) = ((0 : Nat) : Int) := by omega
    rw [e, show odd k = false from decide_eq_false (by omega)]; exact atI_nat rfl
  · have e : ((k : Int) % 2) = ((1 : Nat) : Int) := by omega
    rw [e, show odd k = true from decide_eq_true h]; exact atI_nat rfl
theorem laid_step {s : List Int} {j : Nat} {x : Int} {R : List Bool} (hx : s[j]? = some x) (hj : j ≠ 0) (h : R ++ [sgn s.length j] = ((pcs 0 s).take j).flatten) :
    (R ++ [odd j] ++ (cnt (x - 1).toNat).map (xor (odd j))) ++ [sgn s.length (j + 1)] = ((pcs 0 s).take (j + 1)).flatten := by
  have hl : j < s.length := (List.getElem?_eq_some_iff.mp hx).1
  have hp := pcs_get (k := 0) hx
  rw [Nat.zero_add] at hp
  rw [List.take_add_one, hp, List.flatten_append, ← h]
  have e1 : sgn s.length j = odd j := by unfold sgn; rw [if_neg (by omega)]
  rw [e1]
  show _ = (R ++ [odd j]) ++ (piece j x (decide (j + 1 = s.length)) ++ [])
  rw [List.append_nil, List.append_assoc]
  congr 1
  unfold piece
  rw [if_neg hj, List.map_append]
  congr 1
  show [sgn s.length (j + 1)] = [xor (odd j) (!decide (j + 1 = s.length))]
  congr 1
  unfold sgn
  by_cases c : j + 1 = s.length
  · rw [if_pos c, ← c, odd_succ, decide_eq_true rfl]; cases odd j <;> rfl
  · rw [if_neg c, odd_succ, decide_eq_false c]; cases odd j <;> rfl
theorem ok_law_laid {f : Addr} {fd : FuncData} (nb : NB mg) (F : FunAt K mg "_law_laid" s_law_laid ["_law_steps_here"] f fd) (D_law_count : DefOk P w K mg base 2 "_law_count" ["_law_n"] spLawCount) (D_law_turned : DefOk P w K mg base 1 "_law_turned" ["_law_row"] spTurnedRow) : DefOk P w K mg base 3 "_law_laid" ["_law_steps_here"] spLaid := by
  refine F.ok sc_law_laid (fun vs H Q E h => ?_) (fun cdv A outer s H vs Q E hr h => ?_)
  · obtain ⟨a, s, rfl, _⟩ := h; rfl
  obtain ⟨a, s, rfl, ha, hne, hl, hR, q⟩ := h
  refine ⟨_, (pss_cons (ps_set (i := 1) sc_law_laid.nd rfl (by first | exact Or.inl rfl | exact Or.inr rfl) (pe_op oAdd pe_str (pe_callD D_law_count hr (pa_cons (pe_callB (call_max2 rfl) rfl nb.max_ bo_max (pa_cons (pe_ix iAll (pv 0) pe_int (fun _ _ => rfl)) (pa_cons pe_int pa_nil))) pa_nil))))
    (pss_cons (ps_if (pt_cmpR oLt (pe_ix iAll (pv 0) pe_int (fun _ _ => rfl)) pe_int (nomark _)) (pss_one (ps_set (i := 1) sc_law_laid.nd rfl (by first | exact Or.inl rfl | exact Or.inr rfl) (pe_op oAdd pe_str (pe_callD D_law_turned hr (pa_cons (pe_callD D_law_count hr (pa_cons (pe_op oSub (pe_un un_neg pe_int) (pe_ix iAll (pv 0) pe_int (fun _ _ => rfl))) pa_nil)) pa_nil))))) pss_nil)
    (pss_cons (ps_for PassesOwn.never rfl (pi_range2 rfl nb.range_ (pa_cons pe_int (pa_cons (pe_callB call_len rfl nb.len_ bo_len (pa_cons (pv 0) pa_nil)) pa_nil))) (pg_name (i := 2) sc_law_laid.nd rfl (by first | exact Or.inl rfl | exact Or.inr rfl))
      (pss_cons (ps_set (i := 1) sc_law_laid.nd rfl (by first | exact Or.inl rfl | exact Or.inr rfl) (pe_op oAdd (pv 1) (pe_ix iAll pe_str (pe_op op_mod (pv 2) pe_int) (fun _ _ => rfl))))
      (pss_one (ps_if (pt_cmpR oEq (pe_op op_mod (pv 2) pe_int) pe_int (nomark _)) (pss_one (ps_set (i := 1) sc_law_laid.nd rfl (by first | exact Or.inl rfl | exact Or.inr rfl) (pe_op oAdd (pv 1) (pe_callD D_law_turned hr (pa_cons (pe_callD D_law_count hr (pa_cons (pe_op oSub (pe_ix iAll (pv 0) (pv 2) (fun _ _ => rfl)) pe_int) pa_nil)) pa_nil))))) (pss_one (ps_set (i := 1) sc_law_laid.nd rfl (by first | exact Or.inl rfl | exact Or.inr rfl) (pe_op oAdd (pv 1) (pe_callD D_law_count hr (pa_cons (pe_op oSub (pe_ix iAll (pv 0) (pv 2) (fun _ _ => rfl)) pe_int) pa_nil)))))))))
    (pss_one (ps_ret (pe_op oAdd (pv 1) (pe_ix iAll pe_str (pe_op op_mod (pe_callB call_len rfl nb.len_ bo_len (pa_cons (pv 0) pa_nil)) pe_int) (fun _ _ => rfl)))))))), ?_⟩
  obtain ⟨a0, es, hs⟩ := List.exists_cons_of_ne_nil hne
  have hw : WholeIn a0 := by have := hR.at (i := 0) (x := a0) (by rw [hs]; rfl); rwa [if_pos rfl] at this
  have z0 : atI (s.map V.int) 0 = some (.int a0) := by rw [hs]; exact atI_nat (j := 0) rfl
  have hn0 : 0 < s.length := List.length_pos_iff.mpr hne
  have lw := whl_length hw.1 hw.2
  have hw1 := hw.1
  have hw2 := hw.2
  refine ⟨_, rfl, .inl (.inl ⟨_, _, _, _, rfl, rfl, SqL.of ha, z0, _, _, rfl, ?_⟩)⟩
  obtain ⟨n0, hn0'⟩ : ∃ n0 : Nat, (if (0 : Int) > a0 then (0 : Int) else a0) = n0 := ⟨(if (0 : Int) > a0 then (0 : Int) else a0).toNat, by split <;> omega⟩
  have hn1 : n0 + 1 < 2 ^ 255 := by split at hn0' <;> omega
  have ln0 := cnt_len5 hn1
  refine ⟨n0, (congrArg (fun y => [V.int y]) hn0'), hn1, .inr ⟨_, _, rfl, rfl, (by rw [s1, rowS_length, rowS_length, List.length_singleton]; exact small5 (by omega)), ?_⟩⟩
  rw [s1, cons_row]
  refine ⟨_, rfl, .inl (.inl ⟨_, _, _, _, rfl, rfl, SqL.of ha, z0, .inl ⟨_, _, rfl, rfl, _, rfl, ?_⟩⟩)⟩
  refine iteD (fun c => ?_) (fun c => ?_)
  · obtain ⟨m, em, hm, ew⟩ := neg_nat c hw.1
    have lm := cnt_len5 hm
    refine ⟨_, rfl, _, rfl, .inl (.inl ⟨_, _, _, _, rfl, rfl, SqL.of ha, z0, _, _, rfl, rfl, m, (congrArg (fun y => [V.int y]) em), hm, cnt m, rfl, by omega, .inr ⟨_, _, rfl, rfl, (by rw [s0, rowS_length, rowS_length, List.length_map, List.length_singleton]; exact small5 (by omega)), ?_⟩⟩)⟩
    rw [s0, cons_row, ← ew]
    -- the row of the first step is R = whl a
    refine ⟨_, rfl, _, _, rfl, .inl ⟨_, SqL.of ha, rfl⟩, ?_⟩
    rw [mI]
    refine ⟨_, _, rfl, (by omega), ?_⟩
    refine for_range (fun i σ H2 => H2 = H ∧ ∃ (R : List Bool) (z : Option V), R ++ [sgn s.length (i + 1)] = ((pcs 0 s).take (i + 1)).flatten ∧ R.length ≤ 271 * (i + 1) ∧ σ = [some (.ref a), some (.str (rowS R)), z]) ?_ ?_ ?_
    · refine ⟨rfl, whl a0, none, ?_, by omega, ?_⟩
      · rw [hs]
        show _ = piece 0 a0 es.isEmpty ++ []
        rw [List.append_nil]
        unfold piece
        rw [if_pos rfl, show odd 0 = false from rfl, map_xorF]
        congr 1
        show [sgn (a0 :: es).length 1] = [!es.isEmpty]
        congr 1
        unfold sgn
        cases es with
        | nil => rfl
        | cons b r => rw [if_neg (by simp)]; rfl
      · rfl
    · rintro i σ H2 hi ⟨rfl, R, z, hR1, hR2, rfl⟩
      have ei : (1 : Int) + (i : Int) = ((i + 1 : Nat) : Int) := by omega
      rw [ei]
      have hi' : i + 1 < s.length := by omega
      have hx : s[i + 1]? = some (s[i + 1]'hi') := List.getElem?_eq_getElem hi'
      have hin := hR.at hx
      rw [if_neg (by omega)] at hin
      have e0 : atI (s.map V.int) ((i + 1 : Nat) : Int) = some (.int (s[i + 1]'hi')) := atI_nat (by rw [List.getElem?_map, hx]; rfl)
      generalize s[i + 1]'hi' = x at hx hin e0
      have hc1 := hin.1
      have hc2 := hin.2
      have hst := laid_step hx (by omega) hR1
      obtain ⟨n, hn⟩ : ∃ n : Nat, n = (x - 1).toNat := ⟨_, rfl⟩
      rw [← hn] at hst
      have hn1 : n + 1 < 2 ^ 255 := by omega
      have ln := cnt_len5 hn1
      refine ⟨_, rfl, _, rfl, _, _, rfl, rfl, (by show (0 : Int) < 2; decide), .inr ⟨_, _, _, rfl, rfl, len01, at01 (i + 1), .inr ⟨_, _, rfl, rfl, (by rw [rowS_length, sign_row, rowS_length, List.length_singleton]; exact small5 (by omega)), ?_⟩⟩⟩
      rw [sign_row, rowS_append]
      refine ⟨_, rfl, _, _, rfl, rfl, (by show (0 : Int) < 2; decide), rfl, _, rfl, ?_⟩
      have l1 : (R ++ [odd (i + 1)]).length ≤ 271 * (i + 1) + 1 := by rw [List.length_append, List.length_singleton]; omega
      refine iteD (fun c => ?_) (fun c => ?_)
      · have ho : odd (i + 1) = true := decide_eq_true (by have := V.int.inj c; omega)
        refine ⟨_, rfl, _, rfl, _, rfl, .inl (.inl ⟨_, _, _, _, rfl, rfl, SqL.of ha, e0, _, _, rfl, rfl, n, (congrArg (fun y => [V.int y]) (by omega)), hn1, cnt n, rfl, by omega, .inr ⟨_, _, rfl, rfl, (by rw [rowS_length, rowS_length, List.length_map]; exact small5 (by omega)), ?_⟩⟩)⟩
        rw [rowS_append]
        refine ⟨rfl, _, _, ?_, ?_, rfl⟩
        · rw [ho, show (xor true) = (fun x : Bool => !x) from funext fun b => by cases b <;> rfl] at hst; rw [ho]; exact hst
        · rw [List.length_append, List.length_map]; omega
      · have ho : odd (i + 1) = false := decide_eq_false (fun z => c (congrArg V.int (by omega)))
        refine ⟨_, rfl, _, rfl, _, rfl, .inl (.inl ⟨_, _, _, _, rfl, rfl, SqL.of ha, e0, _, _, rfl, rfl, n, (congrArg (fun y => [V.int y]) (by omega)), hn1, .inr ⟨_, _, rfl, rfl, (by rw [rowS_length, rowS_length]; exact small5 (by omega)), ?_⟩⟩)⟩
        rw [rowS_append]
        refine ⟨rfl, _, _, ?_, ?_, rfl⟩
        · rw [ho] at hst ⊢; rw [map_xorF] at hst; exact hst
        · rw [List.length_append]; omega
    · rintro σ H2 ⟨rfl, R, z, hR1, hR2, rfl⟩
      have en : ((s.length : Int) - 1).toNat + 1 = s.length := by omega
      rw [en] at hR1 hR2
      have e1 : sgn s.length s.length = !odd s.length := if_pos rfl
      have e2 : (pcs 0 s).take s.length = pcs 0 s := by rw [← pcs_length 0 s, List.take_length]
      rw [e1, e2, hs, pcs_all, ← hs] at hR1
      refine ⟨_, rfl, _, rfl, _, _, rfl, .inl ⟨_, SqL.of ha, rfl⟩, ?_⟩
      rw [mI]
      refine ⟨_, _, rfl, rfl, (by show (0 : Int) < 2; decide), .inr ⟨_, _, _, rfl, rfl, len10, at10 s.length, .inr ⟨_, _, rfl, rfl, (by rw [rowS_length, sign_row, rowS_length, List.length_singleton]; exact small5 (by omega)), H2, .refl (Same.refl _), ?_⟩⟩⟩
      rw [sign_row, rowS_append, hR1]
      exact q
  · have ew : whl a0 = true :: cnt n0 := by
      obtain ⟨m, em, hm, ew⟩ := pos_nat c hw.2
      rw [ew]
      have : m = n0 := by split at hn0' <;> omega
      rw [this]
    rw [← ew]
    -- the row of the first step is R = whl a
    refine ⟨_, rfl, _, _, rfl, .inl ⟨_, SqL.of ha, rfl⟩, ?_⟩
    rw [mI]
    refine ⟨_, _, rfl, (by omega), ?_⟩
    refine for_range (fun i σ H2 => H2 = H ∧ ∃ (R : List Bool) (z : Option V), R ++ [sgn s.length (i + 1)] = ((pcs 0 s).take (i + 1)).flatten ∧ R.length ≤ 271 * (i + 1) ∧ σ = [some (.ref a), some (.str (rowS R)), z]) ?_ ?_ ?_
    · refine ⟨rfl, whl a0, none, ?_, by omega, ?_⟩
      · rw [hs]
        show _ = piece 0 a0 es.isEmpty ++ []
        rw [List.append_nil]
        unfold piece
        rw [if_pos rfl, show odd 0 = false from rfl, map_xorF]
        congr 1
        show [sgn (a0 :: es).length 1] = [!es.isEmpty]
        congr 1
        unfold sgn
        cases es with
        | nil => rfl
        | cons b r => rw [if_neg (by simp)]; rfl
      · rfl
    · rintro i σ H2 hi ⟨rfl, R, z, hR1, hR2, rfl⟩
      have ei : (1 : Int) + (i : Int) = ((i + 1 : Nat) : Int) := by omega
      rw [ei]
      have hi' : i + 1 < s.length := by omega
      have hx : s[i + 1]? = some (s[i + 1]'hi') := List.getElem?_eq_getElem hi'
      have hin := hR.at hx
      rw [if_neg (by omega)] at hin
      have e0 : atI (s.map V.int) ((i + 1 : Nat) : Int) = some (.int (s[i + 1]'hi')) := atI_nat (by rw [List.getElem?_map, hx]; rfl)
      generalize s[i + 1]'hi' = x at hx hin e0
      have hc1 := hin.1
      have hc2 := hin.2
      have hst := laid_step hx (by omega) hR1
      obtain ⟨n, hn⟩ : ∃ n : Nat, n = (x - 1).toNat := ⟨_, rfl⟩
      rw [← hn] at hst
      have hn1 : n + 1 < 2 ^ 255 := by omega
      have ln := cnt_len5 hn1
      refine ⟨_, rfl, _, rfl, _, _, rfl, rfl, (by show (0 : Int) < 2; decide), .inr ⟨_, _, _, rfl, rfl, len01, at01 (i + 1), .inr ⟨_, _, rfl, rfl, (by rw [rowS_length, sign_row, rowS_length, List.length_singleton]; exact small5 (by omega)), ?_⟩⟩⟩
      rw [sign_row, rowS_append]
      refine ⟨_, rfl, _, _, rfl, rfl, (by show (0 : Int) < 2; decide), rfl, _, rfl, ?_⟩
      have l1 : (R ++ [odd (i + 1)]).length ≤ 271 * (i + 1) + 1 := by rw [List.length_append, List.length_singleton]; omega
      refine iteD (fun c => ?_) (fun c => ?_)
      · have ho : odd (i + 1) = true := decide_eq_true (by have := V.int.inj c; omega)
        refine ⟨_, rfl, _, rfl, _, rfl, .inl (.inl ⟨_, _, _, _, rfl, rfl, SqL.of ha, e0, _, _, rfl, rfl, n, (congrArg (fun y => [V.int y]) (by omega)), hn1, cnt n, rfl, by omega, .inr ⟨_, _, rfl, rfl, (by rw [rowS_length, rowS_length, List.length_map]; exact small5 (by omega)), ?_⟩⟩)⟩
        rw [rowS_append]
        refine ⟨rfl, _, _, ?_, ?_, rfl⟩
        · rw [ho, show (xor true) = (fun x : Bool => !x) from funext fun b => by cases b <;> rfl] at hst; rw [ho]; exact hst
        · rw [List.length_append, List.length_map]; omega
      · have ho : odd (i + 1) = false := decide_eq_false (fun z => c (congrArg V.int (by omega)))
        refine ⟨_, rfl, _, rfl, _, rfl, .inl (.inl ⟨_, _, _, _, rfl, rfl, SqL.of ha, e0, _, _, rfl, rfl, n, (congrArg (fun y => [V.int y]) (by omega)), hn1, .inr ⟨_, _, rfl, rfl, (by rw [rowS_length, rowS_length]; exact small5 (by omega)), ?_⟩⟩)⟩
        rw [rowS_append]
        refine ⟨rfl, _, _, ?_, ?_, rfl⟩
        · rw [ho] at hst ⊢; rw [map_xorF] at hst; exact hst
        · rw [List.length_append]; omega
    · rintro σ H2 ⟨rfl, R, z, hR1, hR2, rfl⟩
      have en : ((s.length : Int) - 1).toNat + 1 = s.length := by omega
      rw [en] at hR1 hR2
      have e1 : sgn s.length s.length = !odd s.length := if_pos rfl
      have e2 : (pcs 0 s).take s.length = pcs 0 s := by rw [← pcs_length 0 s, List.take_length]
      rw [e1, e2, hs, pcs_all, ← hs] at hR1
      refine ⟨_, rfl, _, rfl, _, _, rfl, .inl ⟨_, SqL.of ha, rfl⟩, ?_⟩
      rw [mI]
      refine ⟨_, _, rfl, rfl, (by show (0 : Int) < 2; decide), .inr ⟨_, _, _, rfl, rfl, len10, at10 s.length, .inr ⟨_, _, rfl, rfl, (by rw [rowS_length, sign_row, rowS_length, List.length_singleton]; exact small5 (by omega)), H2, .refl (Same.refl _), ?_⟩⟩⟩
      rw [sign_row, rowS_append, hR1]
      exact q
def spRead13 : Sp := fun vs H Q _ => ∃ (r r1 t : Addr) (x y : Int) (v : Int), vs = [.ref r, .ref t, .int v] ∧ H r = some (.tup [.ref r1, .int v]) ∧ H r1 = some (.tup [.int x, .int y]) ∧ H t = some (.tup [.int x, .int y]) ∧ Q (.bl true) H
theorem ok_law_read13 {f : Addr} {fd : FuncData} (nb : NB mg) (F : FunAt K mg "_law_read" s_law_read ["_law_found", "_law_fraction_here", "_law_spot"] f fd) (D_law_whole : DefOk P w K mg base 1 "_law_whole" ["_law_found"] spWhole) (D_law_numbers : DefOk P w K mg base 2 "_law_numbers" ["_law_found", "_law_due", "_law_kind"] spNumbers) : DefOk P w K mg base 3 "_law_read" ["_law_found", "_law_fraction_here", "_law_spot"] spRead13 := by
  refine F.ok sc_law_read (fun vs H Q E h => ?_) (fun cdv A outer s H vs Q E hr h => ?_)
  · obtain ⟨r, r1, t, x, y, v, rfl, _⟩ := h; rfl
  obtain ⟨r, r1, t, x, y, v, rfl, hr1, hr2, ht, q⟩ := h
  refine ⟨_, (pss_cons (ps_if (PW.pt (pw_or (pt_not (pt_truth (pe_callB call_isinstA rfl nb.isinstance_ bo_isinstance (pa_cons (pv 0) (pa_cons (pe_bltn (v := .ty "tuple") rfl nb.tuple_ bo_tuple rfl) pa_nil))) (fun _ => rfl))) (pw_or (pt_cmpR oNe (pe_callB call_len rfl nb.len_ bo_len (pa_cons (pv 0) pa_nil)) pe_int (nomark _)) (pw_or1 (pt_not (pt_truth (pe_callD D_law_numbers hr (pa_cons (pe_ix iAll (pv 0) pe_int (fun _ _ => rfl)) (pa_cons (pv 1) (pa_cons pe_str pa_nil)))) (fun _ => rfl))))))) (pss_one (ps_ret pe_bl)) pss_nil)
    (pss_one (ps_ret (pe_and (pe_callD D_law_whole hr (pa_cons (pe_ix iAll (pv 0) pe_int (fun _ _ => rfl)) pa_nil)) (pe_one (pe_cmpR oEq (pe_ix iAll (pv 0) pe_int (fun _ _ => rfl)) (pv 2) (nomark _))))))), ?_⟩
  have a0 : atI [V.ref r1, V.int v] 0 = some (.ref r1) := atI_nat (j := 0) rfl
  have a1 : atI [V.ref r1, V.int v] 1 = some (.int v) := atI_nat (j := 1) rfl
  refine ⟨_, rfl, .inl ⟨_, _, _, true, rfl, .tup hr1, kit_same .., true, rfl, ?_⟩⟩
  refine iteF ⟨_, rfl, _, _, rfl, .inr ⟨_, SqT.of hr1, rfl⟩, rfl, _, rfl, ?_⟩
  refine iteF ⟨_, rfl, .inl (.inr ⟨_, _, _, _, rfl, rfl, SqT.of hr1, a0, _, rfl, r1, t, [x, y], _, rfl, .inr ⟨rfl, hr2⟩, .inr ⟨rfl, ht⟩, (by show 2 ≤ 100000; decide), true, rfl, ?_⟩)⟩
  refine iteF ⟨_, rfl, .inl (.inr ⟨_, _, _, _, rfl, rfl, SqT.of hr1, a1, v, rfl, _, rfl, ?_⟩)⟩
  refine iteT ⟨_, rfl, .inl (.inr ⟨_, _, _, _, rfl, rfl, SqT.of hr1, a1, _, rfl, rfl, H, .refl (Same.refl _), ?_⟩)⟩
  rw [dec_int, beq_self_eq_true]
  exact q
def spLaw (K : PySem.W.Frag) : Sp := fun vs H Q _ => ∃ (a : Addr) (ns : List Int), vs = [.ref a] ∧ SqL K H a (ns.map V.int) ∧ ns.length ≤ 63 ∧ ∀ H', Q (.bl true) H'
theorem k_small4 {h : Nat} (x : h < 4096) : h < 2 ^ 100000 ∧ blen h ≤ 12 := ⟨Nat.lt_of_lt_of_le (show h < 2 ^ 12 by omega) (Nat.pow_le_pow_right (by decide) (by decide)), blen_le (by omega)⟩
theorem sz1000' {s : List Int} (h : ∀ x ∈ s, x.natAbs < 2 ^ 250) : ∀ x ∈ s, x.natAbs < 2 ^ 1000 := fun x hx => Nat.lt_of_lt_of_le (h x hx) (Nat.pow_le_pow_right (by decide) (by decide))
theorem ok_law {f : Addr} {fd : FuncData} (nb : NB mg) (F : Fun K "law" "law" s_law f fd) (D_law_cell_at : DefOk P w K mg base 1 "_law_cell_at" ["_law_script", "_law_k"] (spCellAt K)) (D_law_mixed : DefOk P w K mg base 1 "_law_mixed" ["_law_cell", "_law_k"] spMixed) (D_law_digits : DefOk P w K mg base 1 "_law_digits" ["_law_number"] spDigits)
    (D_law_long : DefOk P w K mg base 4 "_law_long" ["_law_script"] (spSteps K)) (D_law_fraction : DefOk P w K mg base 1 "_law_fraction" ["_law_steps_here"] spLawFrac) (D_law_laid : DefOk P w K mg base 3 "_law_laid" ["_law_steps_here"] spLaid) (D_fraction_row : DefOk P w K mg base 5 "fraction_row" ["fraction"] spFracRow)
    (D_read_fraction : DefOk P w K mg base 6 "read_fraction" ["signs", "at"] spReadFrac) (D_law_read : DefOk P w K mg base 3 "_law_read" ["_law_found", "_law_fraction_here", "_law_spot"] spRead13) : FnOk P w K mg base CX0 7 f fd ["_law_script"] (spLaw K) := by
  refine F.okK sc_law (fun vs H Q E h => ?_) (fun cdv A outer s H vs Q E hr h => ?_)
  · obtain ⟨a, ns, rfl, _⟩ := h; rfl
  obtain ⟨a, ns, rfl, hS, hl, q⟩ := h
  refine ⟨_, (pss_cons (ps_set (i := 1) sc_law.nd rfl (by first | exact Or.inl rfl | exact Or.inr rfl) (pe_callD D_law_long hr (pa_cons (pv 0) pa_nil)))
    (pss_cons (ps_set (i := 2) sc_law.nd rfl (by first | exact Or.inl rfl | exact Or.inr rfl) (pe_callD D_law_fraction hr (pa_cons (pv 1) pa_nil)))
    (pss_cons (ps_set (i := 3) sc_law.nd rfl (by first | exact Or.inl rfl | exact Or.inr rfl) (pe_callD D_law_laid hr (pa_cons (pv 1) pa_nil)))
    (pss_cons (ps_set (i := 4) sc_law.nd rfl (by first | exact Or.inl rfl | exact Or.inr rfl) (pe_callD D_fraction_row hr (pa_cons (pv 2) pa_nil)))
    (pss_cons (ps_if (PW.pt (pw_or (pt_not (pt_truth (pe_callB call_isinstA rfl nb.isinstance_ bo_isinstance (pa_cons (pv 4) (pa_cons (pe_bltn (v := .ty "str") rfl nb.str_ bo_str rfl) pa_nil))) (fun _ => rfl))) (pw_or1 (pt_cmpR oNe (pv 4) (pv 3) (nomark _))))) (pss_one (ps_ret pe_bl)) pss_nil)
    (pss_cons (ps_set (i := 5) sc_law.nd rfl (by first | exact Or.inl rfl | exact Or.inr rfl) (pe_callD D_law_digits hr (pa_cons (pe_op op_mod (pe_callD D_law_mixed hr (pa_cons (pe_callD D_law_cell_at hr (pa_cons (pv 0) (pa_cons pe_int pa_nil))) (pa_cons pe_int pa_nil))) pe_int) pa_nil)))
    (pss_cons (ps_set (i := 6) sc_law.nd rfl (by first | exact Or.inl rfl | exact Or.inr rfl) (pe_callD D_law_digits hr (pa_cons (pe_op op_mod (pe_callD D_law_mixed hr (pa_cons (pe_callD D_law_cell_at hr (pa_cons (pv 0) (pa_cons pe_int pa_nil))) (pa_cons pe_int pa_nil))) pe_int) pa_nil)))
    (pss_one (ps_ret (pe_callD D_law_read hr (pa_cons (pe_callD D_read_fraction hr (pa_cons (pe_op oAdd (pe_op oAdd (pv 5) (pv 3)) (pv 6)) (pa_cons (pe_callB call_len rfl nb.len_ bo_len (pa_cons (pv 5) pa_nil)) pa_nil))) (pa_cons (pv 2) (pa_cons (pe_op oAdd (pe_callB call_len rfl nb.len_ bo_len (pa_cons (pv 5) pa_nil)) (pe_callB call_len rfl nb.len_ bo_len (pa_cons (pv 3) pa_nil))) pa_nil))))))))))))), ?_⟩
  refine ⟨_, rfl, a, ns, rfl, hS, hl, fun st ok r1 hr1 => ?_⟩
  have hR := ok.row
  obtain ⟨hg, hsl, hsz⟩ := ok
  obtain ⟨e1, e2⟩ := hg.euc
  have hfl := frow_len hg.ne hR
  have h1 := same_new (o := HO.lst (st.map V.int)) hr1
  refine ⟨_, rfl, r1, st, rfl, upd_same, by omega, sz1000' hsz, hg.ne, fun r2 hr2 => ?_⟩
  have h2 := same_new (o := HO.tup [.int (frac st).1, .int (frac st).2]) hr2
  have st1 := h2 _ _ (upd_same (H := H) (a := r1) (o := .lst (st.map V.int)))
  refine ⟨_, rfl, r1, st, rfl, st1, hg.ne, by omega, hR, ?_⟩
  refine ⟨_, rfl, r2, _, _, rfl, upd_same, e1, by rw [e2]; omega, by rw [e2]; exact sz1000' hsz, hg.cd, by rw [e2]; exact hR, ?_⟩
  rw [e2]
  refine ⟨_, rfl, .inl ⟨_, _, _, true, rfl, .str _, kit_same .., true, rfl, ?_⟩⟩
  refine iteF ⟨_, rfl, _, rfl, rfl, _, rfl, iteNS rfl ?_⟩
  have sB := h1.trans h2
  refine ⟨_, rfl, a, ns, 1, rfl, sB.seq hS, hl, _, _, rfl, fun m1 a1 b1 => ⟨_, _, rfl, rfl, (by show (0 : Int) < 4096; decide), ?_⟩⟩
  have hm1 := modb (a := m1) (b := 4096) (by decide)
  obtain ⟨h0, hh0⟩ : ∃ h : Nat, m1 % 4096 = h := ⟨(m1 % 4096).toNat, by omega⟩
  obtain ⟨h5, hbh⟩ := k_small4 (h := h0) (by omega)
  refine ⟨h0, (congrArg (fun x => [V.int x]) hh0), h5, ?_⟩
  refine ⟨_, rfl, a, ns, 2, rfl, sB.seq hS, hl, _, _, rfl, fun m2 a2 b2 => ⟨_, _, rfl, rfl, (by show (0 : Int) < 4096; decide), ?_⟩⟩
  have hm2 := modb (a := m2) (b := 4096) (by decide)
  obtain ⟨t0, ht0⟩ : ∃ h : Nat, m2 % 4096 = h := ⟨(m2 % 4096).toNat, by omega⟩
  obtain ⟨t5, hbt⟩ := k_small4 (h := t0) (by omega)
  refine ⟨t0, (congrArg (fun x => [V.int x]) ht0), t5, ?_⟩
  have lh : (rowS (digs h0)).length ≤ sizeLine := by rw [rowS_length, digs_length]; exact small5 (by omega)
  have lf : (rowS (frow st)).length ≤ sizeLine := by rw [rowS_length]; exact small5 (by omega)
  refine ⟨_, rfl, _, rfl, .inr ⟨_, _, rfl, rfl, (by rw [rowS_length, rowS_length, digs_length]; exact small5 (by omega)), _, rfl, .inr ⟨_, _, rfl, rfl, (by rw [rowS_append, rowS_length, rowS_length, List.length_append, digs_length, digs_length]; exact small5 (by omega)), _, rfl, _, _, rfl, ⟨lh, rfl⟩, ?_⟩⟩⟩
  refine ⟨digs h0 ++ frow st ++ digs t0, blen h0, st, (by rw [rowS_append, rowS_append, rowS_length, digs_length]; rfl), (by rw [List.length_append, List.length_append, digs_length, digs_length]; omega), (by rw [List.length_append, List.length_append, digs_length]; omega), hg, by omega, hR, ?_, fun r3 r4 hr3 hr4 n43 => ?_⟩
  · have e : blen h0 = (digs h0).length := (digs_length h0).symm
    rw [List.append_assoc, e, List.drop_left]
    exact List.prefix_append _ _
  have f3 := sB.free hr3
  have f4 := sB.free hr4
  have tp := (upd_same (H := upd H r1 (.lst (st.map V.int))) (a := r2) (o := HO.tup [.int (frac st).1, .int (frac st).2]))
  have tp2 := same_new (o := HO.tup [.int (frac st).1, .int (frac st).2]) hr3 _ _ tp
  have h4 : upd (upd (upd H r1 (.lst (st.map V.int))) r2 (HO.tup [.int (frac st).1, .int (frac st).2])) r3 (HO.tup [.int (frac st).1, .int (frac st).2]) r4 = none := by rw [upd_ne n43]; exact hr4
  have tp3 := same_new (o := HO.tup [.ref r3, .int ((blen h0 + (frow st).length : Nat) : Int)]) h4 _ _ tp2
  have tp4 := same_new (o := HO.tup [.ref r3, .int ((blen h0 + (frow st).length : Nat) : Int)]) h4 _ _ (upd_same (H := upd (upd H r1 (.lst (st.map V.int))) r2 (HO.tup [.int (frac st).1, .int (frac st).2])) (a := r3) (o := HO.tup [.int (frac st).1, .int (frac st).2]))
  refine ⟨_, rfl, _, rfl, _, _, rfl, ⟨lh, rfl⟩, _, rfl, _, _, rfl, ⟨lf, rfl⟩, .inl ⟨_, _, rfl, rfl, r4, r3, r2, _, _, _, rfl, ?_, tp4, tp3, H, .refl ((sB.trans (same_new hr3)).trans (same_new h4)), q _⟩⟩
  rw [upd_same, rowS_length, rowS_length, digs_length]
  rfl
theorem no_fn {f : Addr} {fd : FuncData} {ps : List Str} {k : Nat} : FnOk P w K mg base CX0 k f fd ps spNo := ⟨fun _ _ _ _ h => h.elim, fun _ _ _ _ _ _ _ _ _ _ _ _ _ h => h.elim⟩
theorem ex1 (us : List Value) (hl : us.length = 1) : ∃ a : Value, us = [a] := match us, hl with | [a], _ => ⟨a, rfl⟩
theorem ex2 (us : List Value) (hl : us.length = 2) : ∃ a b : Value, us = [a, b] := match us, hl with | [a, b], _ => ⟨a, b, rfl⟩
theorem ex3 (us : List Value) (hl : us.length = 3) : ∃ a b c : Value, us = [a, b, c] := match us, hl with | [a, b, c], _ => ⟨a, b, c, rfl⟩
theorem all_mk {l : PySem.W.OpenLaw} {w : World} {K : PySem.W.Frag} {h : Heap} {mg : Str → Option Value} {fa : Addr} (X : K.In h) (G : h.Ns mainGlobals mg) (hfa : mg "law" = some (.ref fa))
    {C_Source : Addr} {f_Source_init : Addr} {od_Source_init an_Source_init : Option Addr} {sl_Source_init : Array (Option Value)} {oc_Source_init kV_Source_init dc_Source_init pm_Source_init cd_Source_init ct_Source_init : Value} {f_Source_draw : Addr} {od_Source_draw an_Source_draw : Option Addr} {sl_Source_draw : Array (Option Value)} {oc_Source_draw kV_Source_draw dc_Source_draw pm_Source_draw cd_Source_draw ct_Source_draw : Value} {f_Source_turn : Addr} {od_Source_turn an_Source_turn : Option Addr} {sl_Source_turn : Array (Option Value)} {oc_Source_turn kV_Source_turn dc_Source_turn pm_Source_turn cd_Source_turn ct_Source_turn : Value} {f_Source_wish : Addr} {od_Source_wish an_Source_wish : Option Addr} {sl_Source_wish : Array (Option Value)} {oc_Source_wish kV_Source_wish dc_Source_wish pm_Source_wish cd_Source_wish ct_Source_wish : Value} {f_Source_refuse : Addr} {od_Source_refuse an_Source_refuse : Option Addr} {sl_Source_refuse : Array (Option Value)} {oc_Source_refuse kV_Source_refuse dc_Source_refuse pm_Source_refuse cd_Source_refuse ct_Source_refuse : Value} {f_turned_row : Addr} {od_turned_row an_turned_row : Option Addr} {sl_turned_row : Array (Option Value)} {oc_turned_row kV_turned_row dc_turned_row pm_turned_row cd_turned_row ct_turned_row : Value} {f_lower_digits : Addr} {od_lower_digits an_lower_digits : Option Addr} {sl_lower_digits : Array (Option Value)} {oc_lower_digits kV_lower_digits dc_lower_digits pm_lower_digits cd_lower_digits ct_lower_digits : Value} {f_is_count : Addr} {od_is_count an_is_count : Option Addr} {sl_is_count : Array (Option Value)} {oc_is_count kV_is_count dc_is_count pm_is_count cd_is_count ct_is_count : Value} {f_has_whole_row : Addr} {od_has_whole_row an_has_whole_row : Option Addr} {sl_has_whole_row : Array (Option Value)} {oc_has_whole_row kV_has_whole_row dc_has_whole_row pm_has_whole_row cd_has_whole_row ct_has_whole_row : Value} {f_count_row : Addr} {od_count_row an_count_row : Option Addr} {sl_count_row : Array (Option Value)} {oc_count_row kV_count_row dc_count_row pm_count_row cd_count_row ct_count_row : Value} {f_whole_row : Addr} {od_whole_row an_whole_row : Option Addr} {sl_whole_row : Array (Option Value)} {oc_whole_row kV_whole_row dc_whole_row pm_whole_row cd_whole_row ct_whole_row : Value} {f_draw_lower_digits : Addr} {od_draw_lower_digits an_draw_lower_digits : Option Addr} {sl_draw_lower_digits : Array (Option Value)} {oc_draw_lower_digits kV_draw_lower_digits dc_draw_lower_digits pm_draw_lower_digits cd_draw_lower_digits ct_draw_lower_digits : Value} {f_draw_count : Addr} {od_draw_count an_draw_count : Option Addr} {sl_draw_count : Array (Option Value)} {oc_draw_count kV_draw_count dc_draw_count pm_draw_count cd_draw_count ct_draw_count : Value} {f_draw_whole : Addr} {od_draw_whole an_draw_whole : Option Addr} {sl_draw_whole : Array (Option Value)} {oc_draw_whole kV_draw_whole dc_draw_whole pm_draw_whole cd_draw_whole ct_draw_whole : Value} {f_steps_of : Addr} {od_steps_of an_steps_of : Option Addr} {sl_steps_of : Array (Option Value)} {oc_steps_of kV_steps_of dc_steps_of pm_steps_of cd_steps_of ct_steps_of : Value} {f_are_steps : Addr} {od_are_steps an_are_steps : Option Addr} {sl_are_steps : Array (Option Value)} {oc_are_steps kV_are_steps dc_are_steps pm_are_steps cd_are_steps ct_are_steps : Value} {f_fraction_of : Addr} {od_fraction_of an_fraction_of : Option Addr} {sl_fraction_of : Array (Option Value)} {oc_fraction_of kV_fraction_of dc_fraction_of pm_fraction_of cd_fraction_of ct_fraction_of : Value} {f_common_divisor : Addr} {od_common_divisor an_common_divisor : Option Addr} {sl_common_divisor : Array (Option Value)} {oc_common_divisor kV_common_divisor dc_common_divisor pm_common_divisor cd_common_divisor ct_common_divisor : Value} {f_is_fraction : Addr} {od_is_fraction an_is_fraction : Option Addr} {sl_is_fraction : Array (Option Value)} {oc_is_fraction kV_is_fraction dc_is_fraction pm_is_fraction cd_is_fraction ct_is_fraction : Value} {f_has_fraction_row : Addr} {od_has_fraction_row an_has_fraction_row : Option Addr} {sl_has_fraction_row : Array (Option Value)} {oc_has_fraction_row kV_has_fraction_row dc_has_fraction_row pm_has_fraction_row cd_has_fraction_row ct_has_fraction_row : Value} {f_row_of_steps : Addr} {od_row_of_steps an_row_of_steps : Option Addr} {sl_row_of_steps : Array (Option Value)} {oc_row_of_steps kV_row_of_steps dc_row_of_steps pm_row_of_steps cd_row_of_steps ct_row_of_steps : Value} {f_fraction_row : Addr} {od_fraction_row an_fraction_row : Option Addr} {sl_fraction_row : Array (Option Value)} {oc_fraction_row kV_fraction_row dc_fraction_row pm_fraction_row cd_fraction_row ct_fraction_row : Value} {f_draw_fraction : Addr} {od_draw_fraction an_draw_fraction : Option Addr} {sl_draw_fraction : Array (Option Value)} {oc_draw_fraction kV_draw_fraction dc_draw_fraction pm_draw_fraction cd_draw_fraction ct_draw_fraction : Value} {f_read_fraction : Addr} {od_read_fraction an_read_fraction : Option Addr} {sl_read_fraction : Array (Option Value)} {oc_read_fraction kV_read_fraction dc_read_fraction pm_read_fraction cd_read_fraction ct_read_fraction : Value} {f_law_cell_at : Addr} {od_law_cell_at an_law_cell_at : Option Addr} {sl_law_cell_at : Array (Option Value)} {oc_law_cell_at kV_law_cell_at dc_law_cell_at pm_law_cell_at cd_law_cell_at ct_law_cell_at : Value} {f_law_whole : Addr} {od_law_whole an_law_whole : Option Addr} {sl_law_whole : Array (Option Value)} {oc_law_whole kV_law_whole dc_law_whole pm_law_whole cd_law_whole ct_law_whole : Value} {f_law_mixed : Addr} {od_law_mixed an_law_mixed : Option Addr} {sl_law_mixed : Array (Option Value)} {oc_law_mixed kV_law_mixed dc_law_mixed pm_law_mixed cd_law_mixed ct_law_mixed : Value} {f_law_digits : Addr} {od_law_digits an_law_digits : Option Addr} {sl_law_digits : Array (Option Value)} {oc_law_digits kV_law_digits dc_law_digits pm_law_digits cd_law_digits ct_law_digits : Value} {f_law_count : Addr} {od_law_count an_law_count : Option Addr} {sl_law_count : Array (Option Value)} {oc_law_count kV_law_count dc_law_count pm_law_count cd_law_count ct_law_count : Value} {f_law_turned : Addr} {od_law_turned an_law_turned : Option Addr} {sl_law_turned : Array (Option Value)} {oc_law_turned kV_law_turned dc_law_turned pm_law_turned cd_law_turned ct_law_turned : Value} {f_law_laid : Addr} {od_law_laid an_law_laid : Option Addr} {sl_law_laid : Array (Option Value)} {oc_law_laid kV_law_laid dc_law_laid pm_law_laid cd_law_laid ct_law_laid : Value} {f_law_free_steps : Addr} {od_law_free_steps an_law_free_steps : Option Addr} {sl_law_free_steps : Array (Option Value)} {oc_law_free_steps kV_law_free_steps dc_law_free_steps pm_law_free_steps cd_law_free_steps ct_law_free_steps : Value} {f_law_steps : Addr} {od_law_steps an_law_steps : Option Addr} {sl_law_steps : Array (Option Value)} {oc_law_steps kV_law_steps dc_law_steps pm_law_steps cd_law_steps ct_law_steps : Value} {f_law_long : Addr} {od_law_long an_law_long : Option Addr} {sl_law_long : Array (Option Value)} {oc_law_long kV_law_long dc_law_long pm_law_long cd_law_long ct_law_long : Value} {f_law_fraction : Addr} {od_law_fraction an_law_fraction : Option Addr} {sl_law_fraction : Array (Option Value)} {oc_law_fraction kV_law_fraction dc_law_fraction pm_law_fraction cd_law_fraction ct_law_fraction : Value} {f_law_numbers : Addr} {od_law_numbers an_law_numbers : Option Addr} {sl_law_numbers : Array (Option Value)} {oc_law_numbers kV_law_numbers dc_law_numbers pm_law_numbers cd_law_numbers ct_law_numbers : Value} {f_law_read : Addr} {od_law_read an_law_read : Option Addr} {sl_law_read : Array (Option Value)} {oc_law_read kV_law_read dc_law_read pm_law_read cd_law_read ct_law_read : Value} {f_law : Addr} {od_law an_law : Option Addr} {sl_law : Array (Option Value)} {oc_law kV_law dc_law pm_law cd_law ct_law : Value} {tk_MOST_DIGITS : Tok} {tk_MOST_AHEAD : Tok}
    (aC_Source : PySem.W.nsIn K mainGlobals "Source" = some (some (.ref C_Source)))
    (pg_Source : PySem.W.plainGet K C_Source Str.empty = true)
    (hd_Source : PySem.W.hasDictIn K C_Source = true)
    (po_Source : PySem.W.plainOver K C_Source = true)
    (sa_Source : PySem.W.findIn K (.ref C_Source) "__setattr__" = some (some (.builtin "object.__setattr__")))
    (mk_Source : PySem.W.makesIn K C_Source = true)
    (kc_Source : PySem.W.keepIn K (.ref C_Source) = true)
    (n_Source_signs : PySem.W.findIn K (.ref C_Source) "signs" = some none)
    (n_Source_place : PySem.W.findIn K (.ref C_Source) "place" = some none)
    (n_Source_turned : PySem.W.findIn K (.ref C_Source) "turned" = some none)
    (n_Source_endless : PySem.W.findIn K (.ref C_Source) "endless" = some none)
    (n_Source_wished : PySem.W.findIn K (.ref C_Source) "wished" = some none)
    (a_Source_init : PySem.W.findIn K (.ref C_Source) "__init__" = some (some (.ref f_Source_init)))
    (i_Source_init : PySem.W.isFn K (.ref f_Source_init) = true)
    (l_Source_init : K.lookup f_Source_init = some ⟨oc_Source_init, od_Source_init, .func (PySem.W.fnOf "__init__" "Source.__init__" (defArgs s_Source_init) (defBody s_Source_init) (defScope s_Source_init) .none kV_Source_init dc_Source_init pm_Source_init an_Source_init cd_Source_init ct_Source_init), sl_Source_init⟩)
    (c_Source_init : PySem.W.codeIn K cd_Source_init "Source.__init__" = true)
    (k_Source_init : PySem.W.keepIn K (.ref f_Source_init) = true)
    (a_Source_draw : PySem.W.findIn K (.ref C_Source) "draw" = some (some (.ref f_Source_draw)))
    (i_Source_draw : PySem.W.isFn K (.ref f_Source_draw) = true)
    (l_Source_draw : K.lookup f_Source_draw = some ⟨oc_Source_draw, od_Source_draw, .func (PySem.W.fnOf "draw" "Source.draw" (defArgs s_Source_draw) (defBody s_Source_draw) (defScope s_Source_draw) .none kV_Source_draw dc_Source_draw pm_Source_draw an_Source_draw cd_Source_draw ct_Source_draw), sl_Source_draw⟩)
    (c_Source_draw : PySem.W.codeIn K cd_Source_draw "Source.draw" = true)
    (k_Source_draw : PySem.W.keepIn K (.ref f_Source_draw) = true)
    (a_Source_turn : PySem.W.findIn K (.ref C_Source) "turn" = some (some (.ref f_Source_turn)))
    (i_Source_turn : PySem.W.isFn K (.ref f_Source_turn) = true)
    (l_Source_turn : K.lookup f_Source_turn = some ⟨oc_Source_turn, od_Source_turn, .func (PySem.W.fnOf "turn" "Source.turn" (defArgs s_Source_turn) (defBody s_Source_turn) (defScope s_Source_turn) .none kV_Source_turn dc_Source_turn pm_Source_turn an_Source_turn cd_Source_turn ct_Source_turn), sl_Source_turn⟩)
    (c_Source_turn : PySem.W.codeIn K cd_Source_turn "Source.turn" = true)
    (k_Source_turn : PySem.W.keepIn K (.ref f_Source_turn) = true)
    (a_Source_wish : PySem.W.findIn K (.ref C_Source) "wish" = some (some (.ref f_Source_wish)))
    (i_Source_wish : PySem.W.isFn K (.ref f_Source_wish) = true)
    (l_Source_wish : K.lookup f_Source_wish = some ⟨oc_Source_wish, od_Source_wish, .func (PySem.W.fnOf "wish" "Source.wish" (defArgs s_Source_wish) (defBody s_Source_wish) (defScope s_Source_wish) .none kV_Source_wish dc_Source_wish pm_Source_wish an_Source_wish cd_Source_wish ct_Source_wish), sl_Source_wish⟩)
    (c_Source_wish : PySem.W.codeIn K cd_Source_wish "Source.wish" = true)
    (k_Source_wish : PySem.W.keepIn K (.ref f_Source_wish) = true)
    (a_Source_refuse : PySem.W.findIn K (.ref C_Source) "refuse" = some (some (.ref f_Source_refuse)))
    (i_Source_refuse : PySem.W.isFn K (.ref f_Source_refuse) = true)
    (l_Source_refuse : K.lookup f_Source_refuse = some ⟨oc_Source_refuse, od_Source_refuse, .func (PySem.W.fnOf "refuse" "Source.refuse" (defArgs s_Source_refuse) (defBody s_Source_refuse) (defScope s_Source_refuse) .none kV_Source_refuse dc_Source_refuse pm_Source_refuse an_Source_refuse cd_Source_refuse ct_Source_refuse), sl_Source_refuse⟩)
    (c_Source_refuse : PySem.W.codeIn K cd_Source_refuse "Source.refuse" = true)
    (k_Source_refuse : PySem.W.keepIn K (.ref f_Source_refuse) = true)
    (a_turned_row : PySem.W.nsIn K mainGlobals "turned_row" = some (some (.ref f_turned_row)))
    (l_turned_row : K.lookup f_turned_row = some ⟨oc_turned_row, od_turned_row, .func (PySem.W.fnOf "turned_row" "turned_row" (defArgs s_turned_row) (defBody s_turned_row) (defScope s_turned_row) .none kV_turned_row dc_turned_row pm_turned_row an_turned_row cd_turned_row ct_turned_row), sl_turned_row⟩)
    (c_turned_row : PySem.W.codeIn K cd_turned_row "turned_row" = true)
    (k_turned_row : PySem.W.keepIn K (.ref f_turned_row) = true)
    (a_lower_digits : PySem.W.nsIn K mainGlobals "lower_digits" = some (some (.ref f_lower_digits)))
    (l_lower_digits : K.lookup f_lower_digits = some ⟨oc_lower_digits, od_lower_digits, .func (PySem.W.fnOf "lower_digits" "lower_digits" (defArgs s_lower_digits) (defBody s_lower_digits) (defScope s_lower_digits) .none kV_lower_digits dc_lower_digits pm_lower_digits an_lower_digits cd_lower_digits ct_lower_digits), sl_lower_digits⟩)
    (c_lower_digits : PySem.W.codeIn K cd_lower_digits "lower_digits" = true)
    (k_lower_digits : PySem.W.keepIn K (.ref f_lower_digits) = true)
    (a_is_count : PySem.W.nsIn K mainGlobals "is_count" = some (some (.ref f_is_count)))
    (l_is_count : K.lookup f_is_count = some ⟨oc_is_count, od_is_count, .func (PySem.W.fnOf "is_count" "is_count" (defArgs s_is_count) (defBody s_is_count) (defScope s_is_count) .none kV_is_count dc_is_count pm_is_count an_is_count cd_is_count ct_is_count), sl_is_count⟩)
    (c_is_count : PySem.W.codeIn K cd_is_count "is_count" = true)
    (k_is_count : PySem.W.keepIn K (.ref f_is_count) = true)
    (a_has_whole_row : PySem.W.nsIn K mainGlobals "has_whole_row" = some (some (.ref f_has_whole_row)))
    (l_has_whole_row : K.lookup f_has_whole_row = some ⟨oc_has_whole_row, od_has_whole_row, .func (PySem.W.fnOf "has_whole_row" "has_whole_row" (defArgs s_has_whole_row) (defBody s_has_whole_row) (defScope s_has_whole_row) .none kV_has_whole_row dc_has_whole_row pm_has_whole_row an_has_whole_row cd_has_whole_row ct_has_whole_row), sl_has_whole_row⟩)
    (c_has_whole_row : PySem.W.codeIn K cd_has_whole_row "has_whole_row" = true)
    (k_has_whole_row : PySem.W.keepIn K (.ref f_has_whole_row) = true)
    (a_count_row : PySem.W.nsIn K mainGlobals "count_row" = some (some (.ref f_count_row)))
    (l_count_row : K.lookup f_count_row = some ⟨oc_count_row, od_count_row, .func (PySem.W.fnOf "count_row" "count_row" (defArgs s_count_row) (defBody s_count_row) (defScope s_count_row) .none kV_count_row dc_count_row pm_count_row an_count_row cd_count_row ct_count_row), sl_count_row⟩)
    (c_count_row : PySem.W.codeIn K cd_count_row "count_row" = true)
    (k_count_row : PySem.W.keepIn K (.ref f_count_row) = true)
    (a_whole_row : PySem.W.nsIn K mainGlobals "whole_row" = some (some (.ref f_whole_row)))
    (l_whole_row : K.lookup f_whole_row = some ⟨oc_whole_row, od_whole_row, .func (PySem.W.fnOf "whole_row" "whole_row" (defArgs s_whole_row) (defBody s_whole_row) (defScope s_whole_row) .none kV_whole_row dc_whole_row pm_whole_row an_whole_row cd_whole_row ct_whole_row), sl_whole_row⟩)
    (c_whole_row : PySem.W.codeIn K cd_whole_row "whole_row" = true)
    (k_whole_row : PySem.W.keepIn K (.ref f_whole_row) = true)
    (a_draw_lower_digits : PySem.W.nsIn K mainGlobals "draw_lower_digits" = some (some (.ref f_draw_lower_digits)))
    (l_draw_lower_digits : K.lookup f_draw_lower_digits = some ⟨oc_draw_lower_digits, od_draw_lower_digits, .func (PySem.W.fnOf "draw_lower_digits" "draw_lower_digits" (defArgs s_draw_lower_digits) (defBody s_draw_lower_digits) (defScope s_draw_lower_digits) .none kV_draw_lower_digits dc_draw_lower_digits pm_draw_lower_digits an_draw_lower_digits cd_draw_lower_digits ct_draw_lower_digits), sl_draw_lower_digits⟩)
    (c_draw_lower_digits : PySem.W.codeIn K cd_draw_lower_digits "draw_lower_digits" = true)
    (k_draw_lower_digits : PySem.W.keepIn K (.ref f_draw_lower_digits) = true)
    (a_draw_count : PySem.W.nsIn K mainGlobals "draw_count" = some (some (.ref f_draw_count)))
    (l_draw_count : K.lookup f_draw_count = some ⟨oc_draw_count, od_draw_count, .func (PySem.W.fnOf "draw_count" "draw_count" (defArgs s_draw_count) (defBody s_draw_count) (defScope s_draw_count) .none kV_draw_count dc_draw_count pm_draw_count an_draw_count cd_draw_count ct_draw_count), sl_draw_count⟩)
    (c_draw_count : PySem.W.codeIn K cd_draw_count "draw_count" = true)
    (k_draw_count : PySem.W.keepIn K (.ref f_draw_count) = true)
    (a_draw_whole : PySem.W.nsIn K mainGlobals "draw_whole" = some (some (.ref f_draw_whole)))
    (l_draw_whole : K.lookup f_draw_whole = some ⟨oc_draw_whole, od_draw_whole, .func (PySem.W.fnOf "draw_whole" "draw_whole" (defArgs s_draw_whole) (defBody s_draw_whole) (defScope s_draw_whole) .none kV_draw_whole dc_draw_whole pm_draw_whole an_draw_whole cd_draw_whole ct_draw_whole), sl_draw_whole⟩)
    (c_draw_whole : PySem.W.codeIn K cd_draw_whole "draw_whole" = true)
    (k_draw_whole : PySem.W.keepIn K (.ref f_draw_whole) = true)
    (a_steps_of : PySem.W.nsIn K mainGlobals "steps_of" = some (some (.ref f_steps_of)))
    (l_steps_of : K.lookup f_steps_of = some ⟨oc_steps_of, od_steps_of, .func (PySem.W.fnOf "steps_of" "steps_of" (defArgs s_steps_of) (defBody s_steps_of) (defScope s_steps_of) .none kV_steps_of dc_steps_of pm_steps_of an_steps_of cd_steps_of ct_steps_of), sl_steps_of⟩)
    (c_steps_of : PySem.W.codeIn K cd_steps_of "steps_of" = true)
    (k_steps_of : PySem.W.keepIn K (.ref f_steps_of) = true)
    (a_are_steps : PySem.W.nsIn K mainGlobals "are_steps" = some (some (.ref f_are_steps)))
    (l_are_steps : K.lookup f_are_steps = some ⟨oc_are_steps, od_are_steps, .func (PySem.W.fnOf "are_steps" "are_steps" (defArgs s_are_steps) (defBody s_are_steps) (defScope s_are_steps) .none kV_are_steps dc_are_steps pm_are_steps an_are_steps cd_are_steps ct_are_steps), sl_are_steps⟩)
    (c_are_steps : PySem.W.codeIn K cd_are_steps "are_steps" = true)
    (k_are_steps : PySem.W.keepIn K (.ref f_are_steps) = true)
    (a_fraction_of : PySem.W.nsIn K mainGlobals "fraction_of" = some (some (.ref f_fraction_of)))
    (l_fraction_of : K.lookup f_fraction_of = some ⟨oc_fraction_of, od_fraction_of, .func (PySem.W.fnOf "fraction_of" "fraction_of" (defArgs s_fraction_of) (defBody s_fraction_of) (defScope s_fraction_of) .none kV_fraction_of dc_fraction_of pm_fraction_of an_fraction_of cd_fraction_of ct_fraction_of), sl_fraction_of⟩)
    (c_fraction_of : PySem.W.codeIn K cd_fraction_of "fraction_of" = true)
    (k_fraction_of : PySem.W.keepIn K (.ref f_fraction_of) = true)
    (a_common_divisor : PySem.W.nsIn K mainGlobals "common_divisor" = some (some (.ref f_common_divisor)))
    (l_common_divisor : K.lookup f_common_divisor = some ⟨oc_common_divisor, od_common_divisor, .func (PySem.W.fnOf "common_divisor" "common_divisor" (defArgs s_common_divisor) (defBody s_common_divisor) (defScope s_common_divisor) .none kV_common_divisor dc_common_divisor pm_common_divisor an_common_divisor cd_common_divisor ct_common_divisor), sl_common_divisor⟩)
    (c_common_divisor : PySem.W.codeIn K cd_common_divisor "common_divisor" = true)
    (k_common_divisor : PySem.W.keepIn K (.ref f_common_divisor) = true)
    (a_is_fraction : PySem.W.nsIn K mainGlobals "is_fraction" = some (some (.ref f_is_fraction)))
    (l_is_fraction : K.lookup f_is_fraction = some ⟨oc_is_fraction, od_is_fraction, .func (PySem.W.fnOf "is_fraction" "is_fraction" (defArgs s_is_fraction) (defBody s_is_fraction) (defScope s_is_fraction) .none kV_is_fraction dc_is_fraction pm_is_fraction an_is_fraction cd_is_fraction ct_is_fraction), sl_is_fraction⟩)
    (c_is_fraction : PySem.W.codeIn K cd_is_fraction "is_fraction" = true)
    (k_is_fraction : PySem.W.keepIn K (.ref f_is_fraction) = true)
    (a_has_fraction_row : PySem.W.nsIn K mainGlobals "has_fraction_row" = some (some (.ref f_has_fraction_row)))
    (l_has_fraction_row : K.lookup f_has_fraction_row = some ⟨oc_has_fraction_row, od_has_fraction_row, .func (PySem.W.fnOf "has_fraction_row" "has_fraction_row" (defArgs s_has_fraction_row) (defBody s_has_fraction_row) (defScope s_has_fraction_row) .none kV_has_fraction_row dc_has_fraction_row pm_has_fraction_row an_has_fraction_row cd_has_fraction_row ct_has_fraction_row), sl_has_fraction_row⟩)
    (c_has_fraction_row : PySem.W.codeIn K cd_has_fraction_row "has_fraction_row" = true)
    (k_has_fraction_row : PySem.W.keepIn K (.ref f_has_fraction_row) = true)
    (a_row_of_steps : PySem.W.nsIn K mainGlobals "row_of_steps" = some (some (.ref f_row_of_steps)))
    (l_row_of_steps : K.lookup f_row_of_steps = some ⟨oc_row_of_steps, od_row_of_steps, .func (PySem.W.fnOf "row_of_steps" "row_of_steps" (defArgs s_row_of_steps) (defBody s_row_of_steps) (defScope s_row_of_steps) .none kV_row_of_steps dc_row_of_steps pm_row_of_steps an_row_of_steps cd_row_of_steps ct_row_of_steps), sl_row_of_steps⟩)
    (c_row_of_steps : PySem.W.codeIn K cd_row_of_steps "row_of_steps" = true)
    (k_row_of_steps : PySem.W.keepIn K (.ref f_row_of_steps) = true)
    (a_fraction_row : PySem.W.nsIn K mainGlobals "fraction_row" = some (some (.ref f_fraction_row)))
    (l_fraction_row : K.lookup f_fraction_row = some ⟨oc_fraction_row, od_fraction_row, .func (PySem.W.fnOf "fraction_row" "fraction_row" (defArgs s_fraction_row) (defBody s_fraction_row) (defScope s_fraction_row) .none kV_fraction_row dc_fraction_row pm_fraction_row an_fraction_row cd_fraction_row ct_fraction_row), sl_fraction_row⟩)
    (c_fraction_row : PySem.W.codeIn K cd_fraction_row "fraction_row" = true)
    (k_fraction_row : PySem.W.keepIn K (.ref f_fraction_row) = true)
    (a_draw_fraction : PySem.W.nsIn K mainGlobals "draw_fraction" = some (some (.ref f_draw_fraction)))
    (l_draw_fraction : K.lookup f_draw_fraction = some ⟨oc_draw_fraction, od_draw_fraction, .func (PySem.W.fnOf "draw_fraction" "draw_fraction" (defArgs s_draw_fraction) (defBody s_draw_fraction) (defScope s_draw_fraction) .none kV_draw_fraction dc_draw_fraction pm_draw_fraction an_draw_fraction cd_draw_fraction ct_draw_fraction), sl_draw_fraction⟩)
    (c_draw_fraction : PySem.W.codeIn K cd_draw_fraction "draw_fraction" = true)
    (k_draw_fraction : PySem.W.keepIn K (.ref f_draw_fraction) = true)
    (a_read_fraction : PySem.W.nsIn K mainGlobals "read_fraction" = some (some (.ref f_read_fraction)))
    (l_read_fraction : K.lookup f_read_fraction = some ⟨oc_read_fraction, od_read_fraction, .func (PySem.W.fnOf "read_fraction" "read_fraction" (defArgs s_read_fraction) (defBody s_read_fraction) (defScope s_read_fraction) .none kV_read_fraction dc_read_fraction pm_read_fraction an_read_fraction cd_read_fraction ct_read_fraction), sl_read_fraction⟩)
    (c_read_fraction : PySem.W.codeIn K cd_read_fraction "read_fraction" = true)
    (k_read_fraction : PySem.W.keepIn K (.ref f_read_fraction) = true)
    (a_law_cell_at : PySem.W.nsIn K mainGlobals "_law_cell_at" = some (some (.ref f_law_cell_at)))
    (l_law_cell_at : K.lookup f_law_cell_at = some ⟨oc_law_cell_at, od_law_cell_at, .func (PySem.W.fnOf "_law_cell_at" "_law_cell_at" (defArgs s_law_cell_at) (defBody s_law_cell_at) (defScope s_law_cell_at) .none kV_law_cell_at dc_law_cell_at pm_law_cell_at an_law_cell_at cd_law_cell_at ct_law_cell_at), sl_law_cell_at⟩)
    (c_law_cell_at : PySem.W.codeIn K cd_law_cell_at "_law_cell_at" = true)
    (k_law_cell_at : PySem.W.keepIn K (.ref f_law_cell_at) = true)
    (a_law_whole : PySem.W.nsIn K mainGlobals "_law_whole" = some (some (.ref f_law_whole)))
    (l_law_whole : K.lookup f_law_whole = some ⟨oc_law_whole, od_law_whole, .func (PySem.W.fnOf "_law_whole" "_law_whole" (defArgs s_law_whole) (defBody s_law_whole) (defScope s_law_whole) .none kV_law_whole dc_law_whole pm_law_whole an_law_whole cd_law_whole ct_law_whole), sl_law_whole⟩)
    (c_law_whole : PySem.W.codeIn K cd_law_whole "_law_whole" = true)
    (k_law_whole : PySem.W.keepIn K (.ref f_law_whole) = true)
    (a_law_mixed : PySem.W.nsIn K mainGlobals "_law_mixed" = some (some (.ref f_law_mixed)))
    (l_law_mixed : K.lookup f_law_mixed = some ⟨oc_law_mixed, od_law_mixed, .func (PySem.W.fnOf "_law_mixed" "_law_mixed" (defArgs s_law_mixed) (defBody s_law_mixed) (defScope s_law_mixed) .none kV_law_mixed dc_law_mixed pm_law_mixed an_law_mixed cd_law_mixed ct_law_mixed), sl_law_mixed⟩)
    (c_law_mixed : PySem.W.codeIn K cd_law_mixed "_law_mixed" = true)
    (k_law_mixed : PySem.W.keepIn K (.ref f_law_mixed) = true)
    (a_law_digits : PySem.W.nsIn K mainGlobals "_law_digits" = some (some (.ref f_law_digits)))
    (l_law_digits : K.lookup f_law_digits = some ⟨oc_law_digits, od_law_digits, .func (PySem.W.fnOf "_law_digits" "_law_digits" (defArgs s_law_digits) (defBody s_law_digits) (defScope s_law_digits) .none kV_law_digits dc_law_digits pm_law_digits an_law_digits cd_law_digits ct_law_digits), sl_law_digits⟩)
    (c_law_digits : PySem.W.codeIn K cd_law_digits "_law_digits" = true)
    (k_law_digits : PySem.W.keepIn K (.ref f_law_digits) = true)
    (a_law_count : PySem.W.nsIn K mainGlobals "_law_count" = some (some (.ref f_law_count)))
    (l_law_count : K.lookup f_law_count = some ⟨oc_law_count, od_law_count, .func (PySem.W.fnOf "_law_count" "_law_count" (defArgs s_law_count) (defBody s_law_count) (defScope s_law_count) .none kV_law_count dc_law_count pm_law_count an_law_count cd_law_count ct_law_count), sl_law_count⟩)
    (c_law_count : PySem.W.codeIn K cd_law_count "_law_count" = true)
    (k_law_count : PySem.W.keepIn K (.ref f_law_count) = true)
    (a_law_turned : PySem.W.nsIn K mainGlobals "_law_turned" = some (some (.ref f_law_turned)))
    (l_law_turned : K.lookup f_law_turned = some ⟨oc_law_turned, od_law_turned, .func (PySem.W.fnOf "_law_turned" "_law_turned" (defArgs s_law_turned) (defBody s_law_turned) (defScope s_law_turned) .none kV_law_turned dc_law_turned pm_law_turned an_law_turned cd_law_turned ct_law_turned), sl_law_turned⟩)
    (c_law_turned : PySem.W.codeIn K cd_law_turned "_law_turned" = true)
    (k_law_turned : PySem.W.keepIn K (.ref f_law_turned) = true)
    (a_law_laid : PySem.W.nsIn K mainGlobals "_law_laid" = some (some (.ref f_law_laid)))
    (l_law_laid : K.lookup f_law_laid = some ⟨oc_law_laid, od_law_laid, .func (PySem.W.fnOf "_law_laid" "_law_laid" (defArgs s_law_laid) (defBody s_law_laid) (defScope s_law_laid) .none kV_law_laid dc_law_laid pm_law_laid an_law_laid cd_law_laid ct_law_laid), sl_law_laid⟩)
    (c_law_laid : PySem.W.codeIn K cd_law_laid "_law_laid" = true)
    (k_law_laid : PySem.W.keepIn K (.ref f_law_laid) = true)
    (a_law_free_steps : PySem.W.nsIn K mainGlobals "_law_free_steps" = some (some (.ref f_law_free_steps)))
    (l_law_free_steps : K.lookup f_law_free_steps = some ⟨oc_law_free_steps, od_law_free_steps, .func (PySem.W.fnOf "_law_free_steps" "_law_free_steps" (defArgs s_law_free_steps) (defBody s_law_free_steps) (defScope s_law_free_steps) .none kV_law_free_steps dc_law_free_steps pm_law_free_steps an_law_free_steps cd_law_free_steps ct_law_free_steps), sl_law_free_steps⟩)
    (c_law_free_steps : PySem.W.codeIn K cd_law_free_steps "_law_free_steps" = true)
    (k_law_free_steps : PySem.W.keepIn K (.ref f_law_free_steps) = true)
    (a_law_steps : PySem.W.nsIn K mainGlobals "_law_steps" = some (some (.ref f_law_steps)))
    (l_law_steps : K.lookup f_law_steps = some ⟨oc_law_steps, od_law_steps, .func (PySem.W.fnOf "_law_steps" "_law_steps" (defArgs s_law_steps) (defBody s_law_steps) (defScope s_law_steps) .none kV_law_steps dc_law_steps pm_law_steps an_law_steps cd_law_steps ct_law_steps), sl_law_steps⟩)
    (c_law_steps : PySem.W.codeIn K cd_law_steps "_law_steps" = true)
    (k_law_steps : PySem.W.keepIn K (.ref f_law_steps) = true)
    (a_law_long : PySem.W.nsIn K mainGlobals "_law_long" = some (some (.ref f_law_long)))
    (l_law_long : K.lookup f_law_long = some ⟨oc_law_long, od_law_long, .func (PySem.W.fnOf "_law_long" "_law_long" (defArgs s_law_long) (defBody s_law_long) (defScope s_law_long) .none kV_law_long dc_law_long pm_law_long an_law_long cd_law_long ct_law_long), sl_law_long⟩)
    (c_law_long : PySem.W.codeIn K cd_law_long "_law_long" = true)
    (k_law_long : PySem.W.keepIn K (.ref f_law_long) = true)
    (a_law_fraction : PySem.W.nsIn K mainGlobals "_law_fraction" = some (some (.ref f_law_fraction)))
    (l_law_fraction : K.lookup f_law_fraction = some ⟨oc_law_fraction, od_law_fraction, .func (PySem.W.fnOf "_law_fraction" "_law_fraction" (defArgs s_law_fraction) (defBody s_law_fraction) (defScope s_law_fraction) .none kV_law_fraction dc_law_fraction pm_law_fraction an_law_fraction cd_law_fraction ct_law_fraction), sl_law_fraction⟩)
    (c_law_fraction : PySem.W.codeIn K cd_law_fraction "_law_fraction" = true)
    (k_law_fraction : PySem.W.keepIn K (.ref f_law_fraction) = true)
    (a_law_numbers : PySem.W.nsIn K mainGlobals "_law_numbers" = some (some (.ref f_law_numbers)))
    (l_law_numbers : K.lookup f_law_numbers = some ⟨oc_law_numbers, od_law_numbers, .func (PySem.W.fnOf "_law_numbers" "_law_numbers" (defArgs s_law_numbers) (defBody s_law_numbers) (defScope s_law_numbers) .none kV_law_numbers dc_law_numbers pm_law_numbers an_law_numbers cd_law_numbers ct_law_numbers), sl_law_numbers⟩)
    (c_law_numbers : PySem.W.codeIn K cd_law_numbers "_law_numbers" = true)
    (k_law_numbers : PySem.W.keepIn K (.ref f_law_numbers) = true)
    (a_law_read : PySem.W.nsIn K mainGlobals "_law_read" = some (some (.ref f_law_read)))
    (l_law_read : K.lookup f_law_read = some ⟨oc_law_read, od_law_read, .func (PySem.W.fnOf "_law_read" "_law_read" (defArgs s_law_read) (defBody s_law_read) (defScope s_law_read) .none kV_law_read dc_law_read pm_law_read an_law_read cd_law_read ct_law_read), sl_law_read⟩)
    (c_law_read : PySem.W.codeIn K cd_law_read "_law_read" = true)
    (k_law_read : PySem.W.keepIn K (.ref f_law_read) = true)
    (a_law : PySem.W.nsIn K mainGlobals "law" = some (some (.ref f_law)))
    (l_law : K.lookup f_law = some ⟨oc_law, od_law, .func (PySem.W.fnOf "law" "law" (defArgs s_law) (defBody s_law) (defScope s_law) .none kV_law dc_law pm_law an_law cd_law ct_law), sl_law⟩)
    (c_law : PySem.W.codeIn K cd_law "law" = true)
    (k_law : PySem.W.keepIn K (.ref f_law) = true)
    (z_len : PySem.W.nsIn K mainGlobals "len" = some none)
    (z_range : PySem.W.nsIn K mainGlobals "range" = some none)
    (z_int : PySem.W.nsIn K mainGlobals "int" = some none)
    (z_str : PySem.W.nsIn K mainGlobals "str" = some none)
    (z_bool : PySem.W.nsIn K mainGlobals "bool" = some none)
    (z_tuple : PySem.W.nsIn K mainGlobals "tuple" = some none)
    (z_isinstance : PySem.W.nsIn K mainGlobals "isinstance" = some none)
    (z_min : PySem.W.nsIn K mainGlobals "min" = some none)
    (z_max : PySem.W.nsIn K mainGlobals "max" = some none)
    (z_list : PySem.W.nsIn K mainGlobals "list" = some none)
    (z_all : PySem.W.nsIn K mainGlobals "all" = some none)
    (z_reversed : PySem.W.nsIn K mainGlobals "reversed" = some none)
    (z_enumerate : PySem.W.nsIn K mainGlobals "enumerate" = some none)
    (g0_MOST_DIGITS : PySem.W.nsIn K mainGlobals "MOST_DIGITS" = some (some (.int 255 tk_MOST_DIGITS)))
    (g0_MOST_AHEAD : PySem.W.nsIn K mainGlobals "MOST_AHEAD" = some (some (.int 7 tk_MOST_AHEAD)))
    : ∃ fd : FuncData, (∀ (s : Shared) (v : Value), BindsTo s fd ⟨[v], []⟩ [("_law_script", v)]) ∧ ∀ base : Heap, K.In base → base.Ns mainGlobals mg → FnOk l.prog w K mg base CX0 7 fa fd ["_law_script"] (spLaw K) := by
  have e := hfa.symm.trans (PySem.W.mg_of X G a_law)
  cases e
  have cl_Source : Cls K C_Source := ⟨pg_Source, hd_Source, po_Source, sa_Source⟩
  have m_Source : mg "Source" = some (.ref C_Source) := PySem.W.mg_of X G aC_Source
  have F_Source_init := fun_mk (st := s_Source_init) l_Source_init c_Source_init k_Source_init
  have b_Source_init := F_Source_init.binds (ps := ["self", "signs", "at"]) fun _ _ _ _ _ _ us hl => by obtain ⟨_, _, _, rfl⟩ := ex3 us hl; rfl
  have K_Source : Mk K C_Source f_Source_init := ⟨mk_Source, a_Source_init, i_Source_init, kc_Source⟩
  have F_Source_draw := fun_mk (st := s_Source_draw) l_Source_draw c_Source_draw k_Source_draw
  have b_Source_draw := F_Source_draw.binds (ps := ["self"]) fun _ _ _ _ _ _ us hl => by obtain ⟨_, rfl⟩ := ex1 us hl; rfl
  have t_Source_draw : Meth K C_Source "draw" f_Source_draw := ⟨a_Source_draw, i_Source_draw, k_Source_draw⟩
  have F_Source_turn := fun_mk (st := s_Source_turn) l_Source_turn c_Source_turn k_Source_turn
  have b_Source_turn := F_Source_turn.binds (ps := ["self"]) fun _ _ _ _ _ _ us hl => by obtain ⟨_, rfl⟩ := ex1 us hl; rfl
  have t_Source_turn : Meth K C_Source "turn" f_Source_turn := ⟨a_Source_turn, i_Source_turn, k_Source_turn⟩
  have F_Source_wish := fun_mk (st := s_Source_wish) l_Source_wish c_Source_wish k_Source_wish
  have b_Source_wish := F_Source_wish.binds (ps := ["self", "sign"]) fun _ _ _ _ _ _ us hl => by obtain ⟨_, _, rfl⟩ := ex2 us hl; rfl
  have t_Source_wish : Meth K C_Source "wish" f_Source_wish := ⟨a_Source_wish, i_Source_wish, k_Source_wish⟩
  have F_Source_refuse := fun_mk (st := s_Source_refuse) l_Source_refuse c_Source_refuse k_Source_refuse
  have b_Source_refuse := F_Source_refuse.binds (ps := ["self"]) fun _ _ _ _ _ _ us hl => by obtain ⟨_, rfl⟩ := ex1 us hl; rfl
  have t_Source_refuse : Meth K C_Source "refuse" f_Source_refuse := ⟨a_Source_refuse, i_Source_refuse, k_Source_refuse⟩
  have F_turned_row : FunAt K mg "turned_row" s_turned_row ["row"] f_turned_row _ := ⟨fun_mk (st := s_turned_row) l_turned_row c_turned_row k_turned_row, (fun_mk (st := s_turned_row) l_turned_row c_turned_row k_turned_row).binds (ps := ["row"]) fun _ _ _ _ _ _ us hl => by obtain ⟨_, rfl⟩ := ex1 us hl; rfl, PySem.W.mg_of X G a_turned_row⟩
  have F_lower_digits : FunAt K mg "lower_digits" s_lower_digits ["n", "width"] f_lower_digits _ := ⟨fun_mk (st := s_lower_digits) l_lower_digits c_lower_digits k_lower_digits, (fun_mk (st := s_lower_digits) l_lower_digits c_lower_digits k_lower_digits).binds (ps := ["n", "width"]) fun _ _ _ _ _ _ us hl => by obtain ⟨_, _, rfl⟩ := ex2 us hl; rfl, PySem.W.mg_of X G a_lower_digits⟩
  have F_is_count : FunAt K mg "is_count" s_is_count ["n"] f_is_count _ := ⟨fun_mk (st := s_is_count) l_is_count c_is_count k_is_count, (fun_mk (st := s_is_count) l_is_count c_is_count k_is_count).binds (ps := ["n"]) fun _ _ _ _ _ _ us hl => by obtain ⟨_, rfl⟩ := ex1 us hl; rfl, PySem.W.mg_of X G a_is_count⟩
  have F_has_whole_row : FunAt K mg "has_whole_row" s_has_whole_row ["n"] f_has_whole_row _ := ⟨fun_mk (st := s_has_whole_row) l_has_whole_row c_has_whole_row k_has_whole_row, (fun_mk (st := s_has_whole_row) l_has_whole_row c_has_whole_row k_has_whole_row).binds (ps := ["n"]) fun _ _ _ _ _ _ us hl => by obtain ⟨_, rfl⟩ := ex1 us hl; rfl, PySem.W.mg_of X G a_has_whole_row⟩
  have F_count_row : FunAt K mg "count_row" s_count_row ["n"] f_count_row _ := ⟨fun_mk (st := s_count_row) l_count_row c_count_row k_count_row, (fun_mk (st := s_count_row) l_count_row c_count_row k_count_row).binds (ps := ["n"]) fun _ _ _ _ _ _ us hl => by obtain ⟨_, rfl⟩ := ex1 us hl; rfl, PySem.W.mg_of X G a_count_row⟩
  have F_whole_row : FunAt K mg "whole_row" s_whole_row ["n"] f_whole_row _ := ⟨fun_mk (st := s_whole_row) l_whole_row c_whole_row k_whole_row, (fun_mk (st := s_whole_row) l_whole_row c_whole_row k_whole_row).binds (ps := ["n"]) fun _ _ _ _ _ _ us hl => by obtain ⟨_, rfl⟩ := ex1 us hl; rfl, PySem.W.mg_of X G a_whole_row⟩
  have F_draw_lower_digits : FunAt K mg "draw_lower_digits" s_draw_lower_digits ["source", "width"] f_draw_lower_digits _ := ⟨fun_mk (st := s_draw_lower_digits) l_draw_lower_digits c_draw_lower_digits k_draw_lower_digits, (fun_mk (st := s_draw_lower_digits) l_draw_lower_digits c_draw_lower_digits k_draw_lower_digits).binds (ps := ["source", "width"]) fun _ _ _ _ _ _ us hl => by obtain ⟨_, _, rfl⟩ := ex2 us hl; rfl, PySem.W.mg_of X G a_draw_lower_digits⟩
  have F_draw_count : FunAt K mg "draw_count" s_draw_count ["source"] f_draw_count _ := ⟨fun_mk (st := s_draw_count) l_draw_count c_draw_count k_draw_count, (fun_mk (st := s_draw_count) l_draw_count c_draw_count k_draw_count).binds (ps := ["source"]) fun _ _ _ _ _ _ us hl => by obtain ⟨_, rfl⟩ := ex1 us hl; rfl, PySem.W.mg_of X G a_draw_count⟩
  have F_draw_whole : FunAt K mg "draw_whole" s_draw_whole ["source"] f_draw_whole _ := ⟨fun_mk (st := s_draw_whole) l_draw_whole c_draw_whole k_draw_whole, (fun_mk (st := s_draw_whole) l_draw_whole c_draw_whole k_draw_whole).binds (ps := ["source"]) fun _ _ _ _ _ _ us hl => by obtain ⟨_, rfl⟩ := ex1 us hl; rfl, PySem.W.mg_of X G a_draw_whole⟩
  have F_steps_of : FunAt K mg "steps_of" s_steps_of ["fraction"] f_steps_of _ := ⟨fun_mk (st := s_steps_of) l_steps_of c_steps_of k_steps_of, (fun_mk (st := s_steps_of) l_steps_of c_steps_of k_steps_of).binds (ps := ["fraction"]) fun _ _ _ _ _ _ us hl => by obtain ⟨_, rfl⟩ := ex1 us hl; rfl, PySem.W.mg_of X G a_steps_of⟩
  have F_are_steps : FunAt K mg "are_steps" s_are_steps ["steps"] f_are_steps _ := ⟨fun_mk (st := s_are_steps) l_are_steps c_are_steps k_are_steps, (fun_mk (st := s_are_steps) l_are_steps c_are_steps k_are_steps).binds (ps := ["steps"]) fun _ _ _ _ _ _ us hl => by obtain ⟨_, rfl⟩ := ex1 us hl; rfl, PySem.W.mg_of X G a_are_steps⟩
  have F_fraction_of : FunAt K mg "fraction_of" s_fraction_of ["steps"] f_fraction_of _ := ⟨fun_mk (st := s_fraction_of) l_fraction_of c_fraction_of k_fraction_of, (fun_mk (st := s_fraction_of) l_fraction_of c_fraction_of k_fraction_of).binds (ps := ["steps"]) fun _ _ _ _ _ _ us hl => by obtain ⟨_, rfl⟩ := ex1 us hl; rfl, PySem.W.mg_of X G a_fraction_of⟩
  have F_common_divisor : FunAt K mg "common_divisor" s_common_divisor ["one", "other"] f_common_divisor _ := ⟨fun_mk (st := s_common_divisor) l_common_divisor c_common_divisor k_common_divisor, (fun_mk (st := s_common_divisor) l_common_divisor c_common_divisor k_common_divisor).binds (ps := ["one", "other"]) fun _ _ _ _ _ _ us hl => by obtain ⟨_, _, rfl⟩ := ex2 us hl; rfl, PySem.W.mg_of X G a_common_divisor⟩
  have F_is_fraction : FunAt K mg "is_fraction" s_is_fraction ["fraction"] f_is_fraction _ := ⟨fun_mk (st := s_is_fraction) l_is_fraction c_is_fraction k_is_fraction, (fun_mk (st := s_is_fraction) l_is_fraction c_is_fraction k_is_fraction).binds (ps := ["fraction"]) fun _ _ _ _ _ _ us hl => by obtain ⟨_, rfl⟩ := ex1 us hl; rfl, PySem.W.mg_of X G a_is_fraction⟩
  have F_has_fraction_row : FunAt K mg "has_fraction_row" s_has_fraction_row ["fraction"] f_has_fraction_row _ := ⟨fun_mk (st := s_has_fraction_row) l_has_fraction_row c_has_fraction_row k_has_fraction_row, (fun_mk (st := s_has_fraction_row) l_has_fraction_row c_has_fraction_row k_has_fraction_row).binds (ps := ["fraction"]) fun _ _ _ _ _ _ us hl => by obtain ⟨_, rfl⟩ := ex1 us hl; rfl, PySem.W.mg_of X G a_has_fraction_row⟩
  have F_row_of_steps : FunAt K mg "row_of_steps" s_row_of_steps ["steps"] f_row_of_steps _ := ⟨fun_mk (st := s_row_of_steps) l_row_of_steps c_row_of_steps k_row_of_steps, (fun_mk (st := s_row_of_steps) l_row_of_steps c_row_of_steps k_row_of_steps).binds (ps := ["steps"]) fun _ _ _ _ _ _ us hl => by obtain ⟨_, rfl⟩ := ex1 us hl; rfl, PySem.W.mg_of X G a_row_of_steps⟩
  have F_fraction_row : FunAt K mg "fraction_row" s_fraction_row ["fraction"] f_fraction_row _ := ⟨fun_mk (st := s_fraction_row) l_fraction_row c_fraction_row k_fraction_row, (fun_mk (st := s_fraction_row) l_fraction_row c_fraction_row k_fraction_row).binds (ps := ["fraction"]) fun _ _ _ _ _ _ us hl => by obtain ⟨_, rfl⟩ := ex1 us hl; rfl, PySem.W.mg_of X G a_fraction_row⟩
  have F_draw_fraction : FunAt K mg "draw_fraction" s_draw_fraction ["source"] f_draw_fraction _ := ⟨fun_mk (st := s_draw_fraction) l_draw_fraction c_draw_fraction k_draw_fraction, (fun_mk (st := s_draw_fraction) l_draw_fraction c_draw_fraction k_draw_fraction).binds (ps := ["source"]) fun _ _ _ _ _ _ us hl => by obtain ⟨_, rfl⟩ := ex1 us hl; rfl, PySem.W.mg_of X G a_draw_fraction⟩
  have F_read_fraction : FunAt K mg "read_fraction" s_read_fraction ["signs", "at"] f_read_fraction _ := ⟨fun_mk (st := s_read_fraction) l_read_fraction c_read_fraction k_read_fraction, (fun_mk (st := s_read_fraction) l_read_fraction c_read_fraction k_read_fraction).binds (ps := ["signs", "at"]) fun _ _ _ _ _ _ us hl => by obtain ⟨_, _, rfl⟩ := ex2 us hl; rfl, PySem.W.mg_of X G a_read_fraction⟩
  have F_law_cell_at : FunAt K mg "_law_cell_at" s_law_cell_at ["_law_script", "_law_k"] f_law_cell_at _ := ⟨fun_mk (st := s_law_cell_at) l_law_cell_at c_law_cell_at k_law_cell_at, (fun_mk (st := s_law_cell_at) l_law_cell_at c_law_cell_at k_law_cell_at).binds (ps := ["_law_script", "_law_k"]) fun _ _ _ _ _ _ us hl => by obtain ⟨_, _, rfl⟩ := ex2 us hl; rfl, PySem.W.mg_of X G a_law_cell_at⟩
  have F_law_whole : FunAt K mg "_law_whole" s_law_whole ["_law_found"] f_law_whole _ := ⟨fun_mk (st := s_law_whole) l_law_whole c_law_whole k_law_whole, (fun_mk (st := s_law_whole) l_law_whole c_law_whole k_law_whole).binds (ps := ["_law_found"]) fun _ _ _ _ _ _ us hl => by obtain ⟨_, rfl⟩ := ex1 us hl; rfl, PySem.W.mg_of X G a_law_whole⟩
  have F_law_mixed : FunAt K mg "_law_mixed" s_law_mixed ["_law_cell", "_law_k"] f_law_mixed _ := ⟨fun_mk (st := s_law_mixed) l_law_mixed c_law_mixed k_law_mixed, (fun_mk (st := s_law_mixed) l_law_mixed c_law_mixed k_law_mixed).binds (ps := ["_law_cell", "_law_k"]) fun _ _ _ _ _ _ us hl => by obtain ⟨_, _, rfl⟩ := ex2 us hl; rfl, PySem.W.mg_of X G a_law_mixed⟩
  have F_law_digits : FunAt K mg "_law_digits" s_law_digits ["_law_number"] f_law_digits _ := ⟨fun_mk (st := s_law_digits) l_law_digits c_law_digits k_law_digits, (fun_mk (st := s_law_digits) l_law_digits c_law_digits k_law_digits).binds (ps := ["_law_number"]) fun _ _ _ _ _ _ us hl => by obtain ⟨_, rfl⟩ := ex1 us hl; rfl, PySem.W.mg_of X G a_law_digits⟩
  have F_law_count : FunAt K mg "_law_count" s_law_count ["_law_n"] f_law_count _ := ⟨fun_mk (st := s_law_count) l_law_count c_law_count k_law_count, (fun_mk (st := s_law_count) l_law_count c_law_count k_law_count).binds (ps := ["_law_n"]) fun _ _ _ _ _ _ us hl => by obtain ⟨_, rfl⟩ := ex1 us hl; rfl, PySem.W.mg_of X G a_law_count⟩
  have F_law_turned : FunAt K mg "_law_turned" s_law_turned ["_law_row"] f_law_turned _ := ⟨fun_mk (st := s_law_turned) l_law_turned c_law_turned k_law_turned, (fun_mk (st := s_law_turned) l_law_turned c_law_turned k_law_turned).binds (ps := ["_law_row"]) fun _ _ _ _ _ _ us hl => by obtain ⟨_, rfl⟩ := ex1 us hl; rfl, PySem.W.mg_of X G a_law_turned⟩
  have F_law_laid : FunAt K mg "_law_laid" s_law_laid ["_law_steps_here"] f_law_laid _ := ⟨fun_mk (st := s_law_laid) l_law_laid c_law_laid k_law_laid, (fun_mk (st := s_law_laid) l_law_laid c_law_laid k_law_laid).binds (ps := ["_law_steps_here"]) fun _ _ _ _ _ _ us hl => by obtain ⟨_, rfl⟩ := ex1 us hl; rfl, PySem.W.mg_of X G a_law_laid⟩
  have F_law_free_steps : FunAt K mg "_law_free_steps" s_law_free_steps ["_law_script"] f_law_free_steps _ := ⟨fun_mk (st := s_law_free_steps) l_law_free_steps c_law_free_steps k_law_free_steps, (fun_mk (st := s_law_free_steps) l_law_free_steps c_law_free_steps k_law_free_steps).binds (ps := ["_law_script"]) fun _ _ _ _ _ _ us hl => by obtain ⟨_, rfl⟩ := ex1 us hl; rfl, PySem.W.mg_of X G a_law_free_steps⟩
  have F_law_steps : FunAt K mg "_law_steps" s_law_steps ["_law_script"] f_law_steps _ := ⟨fun_mk (st := s_law_steps) l_law_steps c_law_steps k_law_steps, (fun_mk (st := s_law_steps) l_law_steps c_law_steps k_law_steps).binds (ps := ["_law_script"]) fun _ _ _ _ _ _ us hl => by obtain ⟨_, rfl⟩ := ex1 us hl; rfl, PySem.W.mg_of X G a_law_steps⟩
  have F_law_long : FunAt K mg "_law_long" s_law_long ["_law_script"] f_law_long _ := ⟨fun_mk (st := s_law_long) l_law_long c_law_long k_law_long, (fun_mk (st := s_law_long) l_law_long c_law_long k_law_long).binds (ps := ["_law_script"]) fun _ _ _ _ _ _ us hl => by obtain ⟨_, rfl⟩ := ex1 us hl; rfl, PySem.W.mg_of X G a_law_long⟩
  have F_law_fraction : FunAt K mg "_law_fraction" s_law_fraction ["_law_steps_here"] f_law_fraction _ := ⟨fun_mk (st := s_law_fraction) l_law_fraction c_law_fraction k_law_fraction, (fun_mk (st := s_law_fraction) l_law_fraction c_law_fraction k_law_fraction).binds (ps := ["_law_steps_here"]) fun _ _ _ _ _ _ us hl => by obtain ⟨_, rfl⟩ := ex1 us hl; rfl, PySem.W.mg_of X G a_law_fraction⟩
  have F_law_numbers : FunAt K mg "_law_numbers" s_law_numbers ["_law_found", "_law_due", "_law_kind"] f_law_numbers _ := ⟨fun_mk (st := s_law_numbers) l_law_numbers c_law_numbers k_law_numbers, (fun_mk (st := s_law_numbers) l_law_numbers c_law_numbers k_law_numbers).binds (ps := ["_law_found", "_law_due", "_law_kind"]) fun _ _ _ _ _ _ us hl => by obtain ⟨_, _, _, rfl⟩ := ex3 us hl; rfl, PySem.W.mg_of X G a_law_numbers⟩
  have F_law_read : FunAt K mg "_law_read" s_law_read ["_law_found", "_law_fraction_here", "_law_spot"] f_law_read _ := ⟨fun_mk (st := s_law_read) l_law_read c_law_read k_law_read, (fun_mk (st := s_law_read) l_law_read c_law_read k_law_read).binds (ps := ["_law_found", "_law_fraction_here", "_law_spot"]) fun _ _ _ _ _ _ us hl => by obtain ⟨_, _, _, rfl⟩ := ex3 us hl; rfl, PySem.W.mg_of X G a_law_read⟩
  have F_law := fun_mk (st := s_law) l_law c_law k_law
  have nb : NB mg := ⟨PySem.W.mg_none_of X G z_len, PySem.W.mg_none_of X G z_range, PySem.W.mg_none_of X G z_int, PySem.W.mg_none_of X G z_str, PySem.W.mg_none_of X G z_bool, PySem.W.mg_none_of X G z_tuple, PySem.W.mg_none_of X G z_isinstance, PySem.W.mg_none_of X G z_min, PySem.W.mg_none_of X G z_max, PySem.W.mg_none_of X G z_list, PySem.W.mg_none_of X G z_all, PySem.W.mg_none_of X G z_reversed, PySem.W.mg_none_of X G z_enumerate⟩
  have g_MOST_DIGITS : GlobV mg "MOST_DIGITS" (.int 255) := ⟨_, PySem.W.mg_of X G g0_MOST_DIGITS, ⟨_, rfl⟩⟩
  have g_MOST_AHEAD : GlobV mg "MOST_AHEAD" (.int 7) := ⟨_, PySem.W.mg_of X G g0_MOST_AHEAD, ⟨_, rfl⟩⟩
  refine ⟨PySem.W.fnOf "law" "law" (defArgs s_law) (defBody s_law) (defScope s_law) .none kV_law dc_law pm_law an_law cd_law ct_law, fun s v => .of_eq rfl, fun base _ _ => ?_⟩
  have T : SrcCls K C_Source := ⟨cl_Source, n_Source_signs, n_Source_place, n_Source_turned, n_Source_endless, n_Source_wished⟩
  have D_turned_row := ok_turned_row (P := l.prog) (w := w) (base := base) F_turned_row
  have D_lower_digits := ok_lower_digits (P := l.prog) (w := w) (base := base) nb F_lower_digits
  have D_is_count := ok_is_count (P := l.prog) (w := w) (base := base) g_MOST_DIGITS F_is_count
  have D_has_whole_row := ok_has_whole_row F_has_whole_row D_is_count
  have D_count_row := ok_count_row g_MOST_AHEAD F_count_row D_is_count D_lower_digits
  have D_whole_row := ok_whole_row F_whole_row D_count_row D_turned_row
  have M_draw : MethOk l.prog w K mg base 1 C_Source "draw" ["self"] (spDraw C_Source) := ⟨_, _, ok_draw nb T F_Source_draw, b_Source_draw, t_Source_draw⟩
  have M_wish : MethOk l.prog w K mg base 1 C_Source "wish" ["self", "sign"] (spWish C_Source) := ⟨_, _, ok_wish T F_Source_wish, b_Source_wish, t_Source_wish⟩
  have M_refuse : MethOk l.prog w K mg base 1 C_Source "refuse" ["self"] spNo := ⟨_, _, no_fn, b_Source_refuse, t_Source_refuse⟩
  have M_turn : MethOk l.prog w K mg base 1 C_Source "turn" ["self"] (spTurn C_Source) := ⟨_, _, ok_turn T F_Source_turn, b_Source_turn, t_Source_turn⟩
  have M_Source : MakeOk l.prog w K mg base 1 "Source" C_Source ["self", "signs", "at"] (spSrcInit C_Source) := ⟨_, _, K_Source, ok_src_init T F_Source_init, b_Source_init, m_Source⟩
  have D_draw_lower_digits := ok_draw_lower_digits nb T.cl F_draw_lower_digits M_draw
  have D_draw_count := ok_draw_count g_MOST_AHEAD T.cl F_draw_count M_draw D_draw_lower_digits
  have D_draw_whole := ok_draw_whole T.cl F_draw_whole M_draw M_turn D_draw_count
  have D_steps_of := ok_steps_of (P := l.prog) (w := w) (base := base) F_steps_of
  have D_are_steps := ok_are_steps (P := l.prog) (w := w) (base := base) nb F_are_steps
  have D_fraction_of := ok_fraction_of nb F_fraction_of D_are_steps
  have D_common_divisor := ok_common_divisor (P := l.prog) (w := w) (base := base) F_common_divisor
  have D_is_fraction := ok_is_fraction F_is_fraction D_common_divisor
  have D_has_fraction_row := ok_has_fraction_row nb F_has_fraction_row D_is_fraction D_steps_of D_has_whole_row D_is_count
  have D_row_of_steps := ok_row_of_steps nb F_row_of_steps D_whole_row D_count_row D_turned_row
  have D_fraction_row := ok_fraction_row F_fraction_row D_has_fraction_row D_steps_of D_row_of_steps
  have D_draw_fraction := ok_draw_fraction nb T.cl F_draw_fraction M_draw M_turn M_wish M_refuse D_draw_whole D_draw_count D_are_steps D_fraction_of
  have D_read_fraction := ok_read_fraction T F_read_fraction M_Source D_draw_fraction
  have D_law_cell_at := ok_law_cell_at (P := l.prog) (w := w) (base := base) nb F_law_cell_at
  have D_law_whole := ok_law_whole (P := l.prog) (w := w) (base := base) nb F_law_whole
  have D_law_mixed := ok_law_mixed (P := l.prog) (w := w) (base := base) F_law_mixed
  have D_law_digits := ok_law_digits (P := l.prog) (w := w) (base := base) F_law_digits
  have D_law_count := ok_law_count nb F_law_count D_law_digits
  have D_law_turned := ok_law_turned (P := l.prog) (w := w) (base := base) nb F_law_turned
  have D_law_laid := ok_law_laid nb F_law_laid D_law_count D_law_turned
  have D_law_free_steps := ok_law_free_steps nb F_law_free_steps D_law_cell_at
  have D_law_steps := ok_law_steps nb F_law_steps D_law_cell_at D_law_mixed D_law_free_steps
  have D_law_long := ok_law_long nb F_law_long D_law_cell_at D_law_mixed D_law_steps
  have D_law_fraction := ok_law_fraction (P := l.prog) (w := w) (base := base) nb F_law_fraction
  have D_law_numbers := ok_law_numbers nb F_law_numbers D_law_whole
  have D_law_read := ok_law_read13 nb F_law_read D_law_whole D_law_numbers
  exact ok_law nb F_law D_law_cell_at D_law_mixed D_law_digits D_law_long D_law_fraction D_law_laid D_fraction_row D_read_fraction D_law_read

theorem walk {l : PySem.W.OpenLaw} {q : Program} {loose : List Str} {XP : (Str → Option Value) → Heap → Prop} {YP : World → Heap → Prop} {d : DefRec} {K : Params → PySem.W.Frag} (hn : l.most = some 63) (hdf : d.params.defaults = [])
    (hY : ∀ (w : World) (h : Heap), YP w h → (K w.params).In h)
    (F : ∀ (w : World) (mg : Str → Option Value) (fa : Addr) (h : Heap), (K w.params).In h → h.Ns mainGlobals mg → mg d.name = some (.ref fa) →
      ∃ fd : FuncData, (∀ (s : Shared) (u : Value), BindsTo s fd ⟨[u], []⟩ [("_law_script", u)]) ∧ ∀ base : Heap, (K w.params).In base → base.Ns mainGlobals mg → FnOk l.prog w (K w.params) mg base CX0 7 fa fd ["_law_script"] (spLaw (K w.params))) :
    PySem.W.WalkO q loose XP YP l.row.toRowW d [] (fun f vs => PySem.call f vs) :=
  L2.walk_of (n := 63) (k := 7) (x := "_law_script") (CX := fun _ => CX0) (sp := fun w => spLaw (K w.params)) hn (by decide) hdf ⟨rfl, by decide, by decide⟩ hY F (fun _ _ a ns hl _ hS => ⟨a, ns, rfl, hS, hl, fun _ => rfl⟩) fun _ _ _ _ _ z => z
end
end KR
/-! the great twins of the walk are not laid: these names are taken -/
def PySem.W.Fast.tw14202289679083378962 : Nat := 0
def PySem.W.Fast.tw8682212028292859249 : Nat := 0
def PySem.W.Fast.tw1218705133917274366 : Nat := 0
def PySem.W.Fast.tw15385926426003480833 : Nat := 0
def PySem.W.Fast.tw15086901466347103214 : Nat := 0
def PySem.W.Fast.tw12690471870223360695 : Nat := 0
def PySem.W.Fast.tw954560702669959173 : Nat := 0
def PySem.W.Fast.tw7053150699702923604 : Nat := 0
def PySem.W.Fast.tw9294159195782173087 : Nat := 0
def PySem.W.Fast.tw10399040424515710625 : Nat := 0
def PySem.W.Fast.tw13494463495063903834 : Nat := 0
def PySem.W.Fast.tw7431880831166963948 : Nat := 0
def PySem.W.Fast.tw15098510100434344712 : Nat := 0
def PySem.W.Fast.tw4590563429742311344 : Nat := 0
def PySem.W.Fast.tw4594619628472181057 : Nat := 0
def PySem.W.Fast.tw1117203610745161706 : Nat := 0
def PySem.W.Fast.tw12378409448998811877 : Nat := 0
def PySem.W.Fast.tw5046761174136622149 : Nat := 0
def PySem.W.Fast.tw2978277124991313361 : Nat := 0
def PySem.W.Fast.tw532121020679196345 : Nat := 0
def PySem.W.Fast.tw5046945807671020805 : Nat := 0
def PySem.W.Fast.tw2710505593163708238 : Nat := 0
def PySem.W.Fast.tw17639522545297341241 : Nat := 0
def PySem.W.Fast.tw11230723861901279986 : Nat := 0
def PySem.W.Fast.tw12720615018896513153 : Nat := 0
def PySem.W.Fast.tw12624653116838298557 : Nat := 0
def PySem.W.Fast.tw2205470842289497702 : Nat := 0
def PySem.W.Fast.tw9267632128914779067 : Nat := 0
def PySem.W.Fast.tw8812132931542619846 : Nat := 0
def PySem.W.Fast.tw3103478367430269394 : Nat := 0
open PySem PySem.W PyProof.Rows
set_option maxRecDepth 100000 in
set_option maxHeartbeats 0 in
theorem PySem.Challenge.cw_keyrise_k13_fraction_rows_holds : PySem.Challenge.rw_keyrise_k13_fraction_rows.Holds := by
  w_on; o_law; k_head; (case hw => w_witness2)
  k_fill
  refine KR.walk (l := PySem.Challenge.rw_keyrise_k13_fraction_rows) rfl rfl (fun w h Y => PySem.W.kIn_of Y) ?F
  case F =>
    intro w mg fa h KX G hmg
    refine' KR.all_mk KX G hmg ?aC_Source ?pg_Source ?hd_Source ?po_Source ?sa_Source ?mk_Source ?kc_Source ?n_Source_signs ?n_Source_place ?n_Source_turned ?n_Source_endless ?n_Source_wished ?a_Source_init ?i_Source_init ?l_Source_init ?c_Source_init ?k_Source_init ?a_Source_draw ?i_Source_draw ?l_Source_draw ?c_Source_draw ?k_Source_draw ?a_Source_turn ?i_Source_turn ?l_Source_turn ?c_Source_turn ?k_Source_turn ?a_Source_wish ?i_Source_wish ?l_Source_wish ?c_Source_wish ?k_Source_wish ?a_Source_refuse ?i_Source_refuse ?l_Source_refuse ?c_Source_refuse ?k_Source_refuse ?a_turned_row ?l_turned_row ?c_turned_row ?k_turned_row ?a_lower_digits ?l_lower_digits ?c_lower_digits ?k_lower_digits ?a_is_count ?l_is_count ?c_is_count ?k_is_count ?a_has_whole_row ?l_has_whole_row ?c_has_whole_row ?k_has_whole_row ?a_count_row ?l_count_row ?c_count_row ?k_count_row ?a_whole_row ?l_whole_row ?c_whole_row ?k_whole_row ?a_draw_lower_digits ?l_draw_lower_digits ?c_draw_lower_digits ?k_draw_lower_digits ?a_draw_count ?l_draw_count ?c_draw_count ?k_draw_count ?a_draw_whole ?l_draw_whole ?c_draw_whole ?k_draw_whole ?a_steps_of ?l_steps_of ?c_steps_of ?k_steps_of ?a_are_steps ?l_are_steps ?c_are_steps ?k_are_steps ?a_fraction_of ?l_fraction_of ?c_fraction_of ?k_fraction_of ?a_common_divisor ?l_common_divisor ?c_common_divisor ?k_common_divisor ?a_is_fraction ?l_is_fraction ?c_is_fraction ?k_is_fraction ?a_has_fraction_row ?l_has_fraction_row ?c_has_fraction_row ?k_has_fraction_row ?a_row_of_steps ?l_row_of_steps ?c_row_of_steps ?k_row_of_steps ?a_fraction_row ?l_fraction_row ?c_fraction_row ?k_fraction_row ?a_draw_fraction ?l_draw_fraction ?c_draw_fraction ?k_draw_fraction ?a_read_fraction ?l_read_fraction ?c_read_fraction ?k_read_fraction ?a_law_cell_at ?l_law_cell_at ?c_law_cell_at ?k_law_cell_at ?a_law_whole ?l_law_whole ?c_law_whole ?k_law_whole ?a_law_mixed ?l_law_mixed ?c_law_mixed ?k_law_mixed ?a_law_digits ?l_law_digits ?c_law_digits ?k_law_digits ?a_law_count ?l_law_count ?c_law_count ?k_law_count ?a_law_turned ?l_law_turned ?c_law_turned ?k_law_turned ?a_law_laid ?l_law_laid ?c_law_laid ?k_law_laid ?a_law_free_steps ?l_law_free_steps ?c_law_free_steps ?k_law_free_steps ?a_law_steps ?l_law_steps ?c_law_steps ?k_law_steps ?a_law_long ?l_law_long ?c_law_long ?k_law_long ?a_law_fraction ?l_law_fraction ?c_law_fraction ?k_law_fraction ?a_law_numbers ?l_law_numbers ?c_law_numbers ?k_law_numbers ?a_law_read ?l_law_read ?c_law_read ?k_law_read ?a_law ?l_law ?c_law ?k_law ?z_len ?z_range ?z_int ?z_str ?z_bool ?z_tuple ?z_isinstance ?z_min ?z_max ?z_list ?z_all ?z_reversed ?z_enumerate ?g0_MOST_DIGITS ?g0_MOST_AHEAD
    (case aC_Source => k_is)
    (case pg_Source => k_is)
    (case hd_Source => k_is)
    (case po_Source => k_is)
    (case sa_Source => k_is)
    (case mk_Source => k_is)
    (case kc_Source => k_is)
    (case n_Source_signs => k_is)
    (case n_Source_place => k_is)
    (case n_Source_turned => k_is)
    (case n_Source_endless => k_is)
    (case n_Source_wished => k_is)
    (case a_Source_init => k_is)
    (case i_Source_init => k_is)
    (case l_Source_init => k_is)
    (case c_Source_init => k_is)
    (case k_Source_init => k_is)
    (case a_Source_draw => k_is)
    (case i_Source_draw => k_is)
    (case l_Source_draw => k_is)
    (case c_Source_draw => k_is)
    (case k_Source_draw => k_is)
    (case a_Source_turn => k_is)
    (case i_Source_turn => k_is)
    (case l_Source_turn => k_is)
    (case c_Source_turn => k_is)
    (case k_Source_turn => k_is)
    (case a_Source_wish => k_is)
    (case i_Source_wish => k_is)
    (case l_Source_wish => k_is)
    (case c_Source_wish => k_is)
    (case k_Source_wish => k_is)
    (case a_Source_refuse => k_is)
    (case i_Source_refuse => k_is)
    (case l_Source_refuse => k_is)
    (case c_Source_refuse => k_is)
    (case k_Source_refuse => k_is)
    (case a_turned_row => k_is)
    (case l_turned_row => k_is)
    (case c_turned_row => k_is)
    (case k_turned_row => k_is)
    (case a_lower_digits => k_is)
    (case l_lower_digits => k_is)
    (case c_lower_digits => k_is)
    (case k_lower_digits => k_is)
    (case a_is_count => k_is)
    (case l_is_count => k_is)
    (case c_is_count => k_is)
    (case k_is_count => k_is)
    (case a_has_whole_row => k_is)
    (case l_has_whole_row => k_is)
    (case c_has_whole_row => k_is)
    (case k_has_whole_row => k_is)
    (case a_count_row => k_is)
    (case l_count_row => k_is)
    (case c_count_row => k_is)
    (case k_count_row => k_is)
    (case a_whole_row => k_is)
    (case l_whole_row => k_is)
    (case c_whole_row => k_is)
    (case k_whole_row => k_is)
    (case a_draw_lower_digits => k_is)
    (case l_draw_lower_digits => k_is)
    (case c_draw_lower_digits => k_is)
    (case k_draw_lower_digits => k_is)
    (case a_draw_count => k_is)
    (case l_draw_count => k_is)
    (case c_draw_count => k_is)
    (case k_draw_count => k_is)
    (case a_draw_whole => k_is)
    (case l_draw_whole => k_is)
    (case c_draw_whole => k_is)
    (case k_draw_whole => k_is)
    (case a_steps_of => k_is)
    (case l_steps_of => k_is)
    (case c_steps_of => k_is)
    (case k_steps_of => k_is)
    (case a_are_steps => k_is)
    (case l_are_steps => k_is)
    (case c_are_steps => k_is)
    (case k_are_steps => k_is)
    (case a_fraction_of => k_is)
    (case l_fraction_of => k_is)
    (case c_fraction_of => k_is)
    (case k_fraction_of => k_is)
    (case a_common_divisor => k_is)
    (case l_common_divisor => k_is)
    (case c_common_divisor => k_is)
    (case k_common_divisor => k_is)
    (case a_is_fraction => k_is)
    (case l_is_fraction => k_is)
    (case c_is_fraction => k_is)
    (case k_is_fraction => k_is)
    (case a_has_fraction_row => k_is)
    (case l_has_fraction_row => k_is)
    (case c_has_fraction_row => k_is)
    (case k_has_fraction_row => k_is)
    (case a_row_of_steps => k_is)
    (case l_row_of_steps => k_is)
    (case c_row_of_steps => k_is)
    (case k_row_of_steps => k_is)
    (case a_fraction_row => k_is)
    (case l_fraction_row => k_is)
    (case c_fraction_row => k_is)
    (case k_fraction_row => k_is)
    (case a_draw_fraction => k_is)
    (case l_draw_fraction => k_is)
    (case c_draw_fraction => k_is)
    (case k_draw_fraction => k_is)
    (case a_read_fraction => k_is)
    (case l_read_fraction => k_is)
    (case c_read_fraction => k_is)
    (case k_read_fraction => k_is)
    (case a_law_cell_at => k_is)
    (case l_law_cell_at => k_is)
    (case c_law_cell_at => k_is)
    (case k_law_cell_at => k_is)
    (case a_law_whole => k_is)
    (case l_law_whole => k_is)
    (case c_law_whole => k_is)
    (case k_law_whole => k_is)
    (case a_law_mixed => k_is)
    (case l_law_mixed => k_is)
    (case c_law_mixed => k_is)
    (case k_law_mixed => k_is)
    (case a_law_digits => k_is)
    (case l_law_digits => k_is)
    (case c_law_digits => k_is)
    (case k_law_digits => k_is)
    (case a_law_count => k_is)
    (case l_law_count => k_is)
    (case c_law_count => k_is)
    (case k_law_count => k_is)
    (case a_law_turned => k_is)
    (case l_law_turned => k_is)
    (case c_law_turned => k_is)
    (case k_law_turned => k_is)
    (case a_law_laid => k_is)
    (case l_law_laid => k_is)
    (case c_law_laid => k_is)
    (case k_law_laid => k_is)
    (case a_law_free_steps => k_is)
    (case l_law_free_steps => k_is)
    (case c_law_free_steps => k_is)
    (case k_law_free_steps => k_is)
    (case a_law_steps => k_is)
    (case l_law_steps => k_is)
    (case c_law_steps => k_is)
    (case k_law_steps => k_is)
    (case a_law_long => k_is)
    (case l_law_long => k_is)
    (case c_law_long => k_is)
    (case k_law_long => k_is)
    (case a_law_fraction => k_is)
    (case l_law_fraction => k_is)
    (case c_law_fraction => k_is)
    (case k_law_fraction => k_is)
    (case a_law_numbers => k_is)
    (case l_law_numbers => k_is)
    (case c_law_numbers => k_is)
    (case k_law_numbers => k_is)
    (case a_law_read => k_is)
    (case l_law_read => k_is)
    (case c_law_read => k_is)
    (case k_law_read => k_is)
    (case a_law => k_is)
    (case l_law => k_is)
    (case c_law => k_is)
    (case k_law => k_is)
    (case z_len => k_is)
    (case z_range => k_is)
    (case z_int => k_is)
    (case z_str => k_is)
    (case z_bool => k_is)
    (case z_tuple => k_is)
    (case z_isinstance => k_is)
    (case z_min => k_is)
    (case z_max => k_is)
    (case z_list => k_is)
    (case z_all => k_is)
    (case z_reversed => k_is)
    (case z_enumerate => k_is)
    (case g0_MOST_DIGITS => k_is)
    (case g0_MOST_AHEAD => k_is)


