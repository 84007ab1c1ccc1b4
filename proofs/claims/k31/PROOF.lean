import PyProof.Rows.All
import Wide.All
import OpenK.AllK
import Wide.FinOn
import Lean
import PyProof.EqAt
import PyProof.EqKinds
import PyProof.TupleCall
import PySem.Challenge.RW_keyrise_k31_forms_read_and_shown
set_option Elab.async false
set_option linter.all false
set_option maxRecDepth 100000
/-! THE HAND LAYER, for ints, bools, texts, own classes, LISTS and tuples (index, slices, in, append, pop ..), calls, loops. Paste it whole ahead of your own text; what your proof does not reach may be deleted. -/
namespace L2
open PySem PySem.Spec PyProof.Rows

/-- a key: an int or a str -/
abbrev Key := Sum Int Str
def keyIs : Key → Value → Bool
  | .inl k, v => Value.isInt k v
  | .inr x, v => Value.isStrOf x v
def keyH (w : World) : Key → Int
  | .inl k => hashInt k
  | .inr x => hashStr w x
theorem keyIs_shape : ∀ {k : Key} {v : Value}, keyIs k v = true → (∃ i t, k = Sum.inl i ∧ v = Value.int i t) ∨ (∃ x t, k = Sum.inr x ∧ v = Value.str x t)
  | .inl i, v, h => by
    obtain ⟨t, e⟩ := Value.isInt_shape (k := i) (v := v) h
    exact .inl ⟨i, t, rfl, e⟩
  | .inr x, v, h => by
    obtain ⟨t, e⟩ := Value.isStrOf_shape (x := x) (v := v) h
    exact .inr ⟨x, t, rfl, e⟩
theorem key_ll (a b : Int) : decide ((Sum.inl a : Key) = Sum.inl b) = (a == b) := by
  by_cases e : a = b
  · subst e; simp
  · have h : ¬ (Sum.inl a : Key) = Sum.inl b := fun q => e (Sum.inl.inj q)
    rw [decide_eq_false h]
    exact (beq_eq_false_iff_ne.mpr e).symm
theorem key_rr (a b : Str) : decide ((Sum.inr a : Key) = Sum.inr b) = decide (a = b) := by
  by_cases e : a = b
  · subst e; simp
  · have h : ¬ (Sum.inr a : Key) = Sum.inr b := fun q => e (Sum.inr.inj q)
    rw [decide_eq_false h, decide_eq_false e]
theorem key_lr (a : Int) (b : Str) : decide ((Sum.inl a : Key) = Sum.inr b) = false := decide_eq_false (fun q => nomatch q)
theorem key_rl (a : Str) (b : Int) : decide ((Sum.inr a : Key) = Sum.inl b) = false := decide_eq_false (fun q => nomatch q)

def mixKind (prog : Program) (w : World) : PySem.KeyKind prog w Key where
  is := keyIs
  hash := keyH w
  inj := fun v a b ha hb => by
    rcases keyIs_shape ha with ⟨i, t, rfl, rfl⟩ | ⟨x, t, rfl, rfl⟩
    · rcases keyIs_shape hb with ⟨j, u, rfl, e⟩ | ⟨y, u, rfl, e⟩
      · injection e with e1 _; rw [e1]
      · exact nomatch e
    · rcases keyIs_shape hb with ⟨j, u, rfl, e⟩ | ⟨y, u, rfl, e⟩
      · exact nomatch e
      · injection e with e1 _; rw [e1]
  byValue := fun k v h => by
    rcases keyIs_shape h with ⟨i, t, rfl, rfl⟩ | ⟨x, t, rfl, rfl⟩ <;> rfl
  pyHash := fun hv h => by
    rcases keyIs_shape hv with ⟨i, t, rfl, rfl⟩ | ⟨x, t, rfl, rfl⟩
    · exact wpAny_pyHash_int h
    · exact wpAny_pyHash_str h
  eqBool := fun hu hv h => by
    rcases keyIs_shape hu with ⟨i, t, rfl, rfl⟩ | ⟨x, t, rfl, rfl⟩
    · rcases keyIs_shape hv with ⟨j, u, rfl, rfl⟩ | ⟨y, u, rfl, rfl⟩
      · rw [key_ll] at h; exact wpAny_eqBool_int h
      · rw [key_lr] at h; exact SeqAt.EqAt.int_str i t y u _ _ _ _ h
    · rcases keyIs_shape hv with ⟨j, u, rfl, rfl⟩ | ⟨y, u, rfl, rfl⟩
      · rw [key_rl] at h; exact SeqAt.EqAt.str_int x t j u _ _ _ _ h
      · rw [key_rr] at h; exact wpAny_eqBool_str h
  «strs» := fun k x t v h => by
    rcases keyIs_shape h with ⟨i, u, rfl, e⟩ | ⟨y, u, rfl, e⟩
    · exact nomatch e
    · injection e with e1 _
      subst e1
      cases v <;> rfl

end L2

namespace L2
open PySem PySem.Spec PyProof.Rows

/-- a value, without the heap -/
inductive V where
  | non | bl (b : Bool) | int (i : Int) | str (x : Str) | byt (b : Array UInt8) | flt (b : UInt64) | ref (a : Addr) | ty (n : String)
  deriving DecidableEq

def RelV : V → Value → Prop
  | .non, u => u = Value.none
  | .bl b, u => u = Value.bool b
  | .int i, u => ∃ t, u = Value.int i t
  | .str x, u => ∃ t, u = Value.str x t
  | .byt b, u => ∃ t, u = Value.bytes b t
  | .flt b, u => ∃ t, u = Value.float b t
  | .ref a, u => u = Value.ref a
  | .ty n, u => u = Value.type n

abbrev Vals : List V → List Value → Prop := Paired RelV
theorem Vals.length {xs : List V} {us : List Value} (r : Vals xs us) : xs.length = us.length := Paired.length r
theorem Vals.get : ∀ {xs : List V} {us : List Value} {i : Nat} {x : V}, Vals xs us → xs[i]? = some x → ∃ u, us[i]? = some u ∧ RelV x u
  | _, _, _, _, .nil, e => by simp at e
  | _, _, 0, _, .cons r _, e => by simp at e; subst e; exact ⟨_, rfl, r⟩
  | _, _, i + 1, x, .cons _ t, e => by
    obtain ⟨u, h1, h2⟩ := Vals.get (i := i) (x := x) t (by simpa using e)
    exact ⟨u, by simpa using h1, h2⟩
theorem Vals.set {x : V} {u : Value} (r : RelV x u) : ∀ {xs : List V} {us : List Value} (i : Nat), Vals xs us → Vals (xs.set i x) (us.set i u)
  | _, _, _, .nil => .nil
  | _, _, 0, .cons _ t => .cons r t
  | _, _, i + 1, .cons q t => .cons q (Vals.set r i t)
theorem Vals.append : ∀ {xs ys : List V} {us ws : List Value}, Vals xs us → Vals ys ws → Vals (xs ++ ys) (us ++ ws)
  | _, _, _, _, .nil, s => s
  | _, _, _, _, .cons r t, s => .cons r (Vals.append t s)
theorem Vals.take : ∀ {xs : List V} {us : List Value} (n : Nat), Vals xs us → Vals (xs.take n) (us.take n)
  | _, _, 0, _ => .nil
  | _, _, _ + 1, .nil => .nil
  | _, _, n + 1, .cons r t => .cons r (Vals.take n t)
theorem Vals.drop : ∀ {xs : List V} {us : List Value} (n : Nat), Vals xs us → Vals (xs.drop n) (us.drop n)
  | _, _, 0, r => r
  | _, _, _ + 1, .nil => .nil
  | _, _, n + 1, .cons _ t => Vals.drop n t
theorem Vals.none_of : ∀ {xs : List V} {us : List Value} {i : Nat}, Vals xs us → xs[i]? = none → us[i]? = none := fun {xs us i} r e => by
  have h1 := r.length
  have h2 : xs.length ≤ i := List.getElem?_eq_none_iff.mp e
  exact List.getElem?_eq_none_iff.mpr (by omega)

def RelO : Option V → Option Value → Prop
  | some v, some u => RelV v u
  | none, none => True
  | _, _ => False
def KV {κ : Type} : List (κ × V) → List (κ × Value) → Prop := Paired fun (p : κ × V) (q : κ × Value) => p.1 = q.1 ∧ RelV p.2 q.2

/-- a key of a dict (00_mix): an int or a text -/
def kV : Key → V
  | .inl i => .int i
  | .inr x => .str x

/-- what stands at a tracked address -/
inductive HO where
  /-- a list -/
  | lst (xs : List V)
  /-- a tuple (never changes) -/
  | tup (xs : List V)
  /-- a dict whose keys are ints and texts; one whose keys are tuples of ints and texts (the empty one is both) -/
  | dK (kvs : List (Key × V)) | dT (kvs : List (List Key × V))
  /-- a set of ints: its members, its size -/
  | set (S : Int → Bool) (n : Nat)
  /-- an instance of the class at C, its dict at dx, its attributes -/
  | ins (C dx : Addr) (fs : List (Str × V))
  /-- the dict of the instance at x -/
  | own (x : Addr)
  /-- the dict of an exception -/
  | xd (fs : List (Str × V))
  /-- a bound method, f of x -/
  | met (f x : Addr)
  /-- a range object lo, lo + 1, .. below hi -/
  | rng (lo hi : Int)
  /-- a thing that is known to the object (the script; a dict while a loop walks it): read, never written while it is so -/
  | frz (o : Obj) (u : HO)
  /-- a code object's table -/
  | tbl (ps : Array Value)
  /-- any other thing, by what is true of its one object (a def of one's own: SetO a S n := HO.ext fun h => ..) -/
  | ext (φ : Heap → Prop)

abbrev Hp := Addr → Option HO
def upd (H : Hp) (a : Addr) (o : HO) : Hp := fun b => if b = a then some o else H b
theorem upd_same {H : Hp} {a : Addr} {o : HO} : upd H a o a = some o := by unfold upd; rw [if_pos rfl]
theorem upd_ne {H : Hp} {a b : Addr} {o : HO} (h : b ≠ a) : upd H a o b = H b := by unfold upd; rw [if_neg h]
theorem ne_of_none {H : Hp} {a b : Addr} {o : HO} (h : H a = some o) (h' : H b = none) : a ≠ b := by
  intro e; subst e; rw [h] at h'; cases h'

section
variable (P : Program) (w : World)
def ObjOk (H : Hp) (h : Heap) (a : Addr) : HO → Prop
  | .lst xs => xs.length ≤ sizeLine ∧ ∃ (its : List Value) (n : Nat), Vals xs its ∧ h.get? a = some { cls := .type "list", data := .seq its.toArray n }
  | .tup xs => xs.length ≤ sizeLine ∧ ∃ its : List Value, Vals xs its ∧ IsTup h a its.toArray
  | .dK kvs => kvs.length ≤ sizeLine ∧ (a == sysModules) = false ∧ ∃ vs, KV kvs vs ∧ h.DictOf (mixKind P w) a vs
  | .dT _ => False
  | .set S n => h.SetOf (intKind P w) a S n
  | .ins C dx fs => H dx = some (.own a) ∧ fs.length ≤ 1000 ∧ dx ≠ a ∧ h.get? a = some (PySem.W.instObj C dx) ∧
      ∃ mA, h.Ns1 dx mA ∧ (∀ f, RelO (fs.lookup f) (mA f)) ∧ PySem.Within mA (fs.map (·.1))
  | .own _ => ∃ o, h.get? a = some o
  | .xd fs => ∃ mA, h.Ns1 a mA ∧ ∀ f, RelO (fs.lookup f) (mA f)
  | .rng lo hi => ∃ t u v, h.get? a = some { cls := .type "range", data := .fields #[.int lo t, .int hi u, .int 1 v] }
  | .frz o u => h.get? a = some o ∧ ObjOk H h a u
  | .tbl ps => h.get? a = some { cls := .none, data := .fields ps }
  | .met f x => h.get? a = some (PySem.W.methodObj (.ref f) (.ref x))
  | .ext φ => φ h ∧ (∃ o, h.get? a = some o) ∧ ∀ h1 h2 : Heap, φ h1 → (∀ o, h1.get? a = some o → h2.get? a = some o) → φ h2
/-- the abstract heap is held -/
def HOk (H : Hp) (h : Heap) : Prop := ∀ a o, H a = some o → ObjOk P w H h a o
end

section
variable {P : Program} {w : World} {H H' : Hp} {h h' : Heap} {a : Addr} {o : HO}
theorem ObjOk.lt (x : ObjOk P w H h a o) : a < h.objs.size := by
  cases o with
  | lst xs => obtain ⟨_, _, _, _, e⟩ := x; exact Heap.lt_size e
  | tup xs => obtain ⟨_, _, _, p⟩ := x; exact p.lt
  | dK kvs => obtain ⟨_, _, _, _, o, _, _, e, _⟩ := x; exact Heap.lt_size e
  | dT kvs => exact (show False from x).elim
  | set S n => obtain ⟨o, _, _, _, e, _⟩ := x; exact Heap.lt_size e
  | ins C dx fs => obtain ⟨_, _, _, e, _⟩ := x; exact Heap.lt_size e
  | own y => obtain ⟨_, e⟩ := x; exact Heap.lt_size e
  | xd fs => obtain ⟨_, ⟨_, _, _, e, _⟩, _⟩ := x; exact Heap.lt_size e
  | rng lo hi => obtain ⟨_, _, _, e⟩ := x; exact Heap.lt_size e
  | frz ob u => obtain ⟨e, _⟩ := x; exact Heap.lt_size e
  | tbl ps => exact Heap.lt_size (show h.get? a = some _ from x)
  | met f y => exact Heap.lt_size (show h.get? a = some _ from x)
  | ext φ => obtain ⟨_, ⟨_, e⟩, _⟩ := x; exact Heap.lt_size e
/-- what an object's description leans on: its own object, its own dict, the tuples -/
theorem ObjOk.stay (x : ObjOk P w H h a o) (k : ∀ b u, (b = a ∨ H b = some (.own a)) → h.get? b = some u → h'.get? b = some u)
    (ho : ∀ b, H b = some (.own a) → H' b = some (.own a)) (ht : ∀ b xs, H b = some (.tup xs) → H' b = some (.tup xs)) : ObjOk P w H' h' a o := by
  induction o with
  | lst xs => obtain ⟨z, its, n, r, e⟩ := x; exact ⟨z, its, n, r, k _ _ (.inl rfl) e⟩
  | tup xs => obtain ⟨z, its, r, ob, e, c⟩ := x; exact ⟨z, its, r, ob, k _ _ (.inl rfl) e, c⟩
  | dK kvs => obtain ⟨z, y, vs, r, ob, es, ep, e, c⟩ := x; exact ⟨z, y, vs, r, ob, es, ep, k _ _ (.inl rfl) e, c⟩
  | dT kvs => exact (show False from x).elim
  | set S n => obtain ⟨ob, es, ep, t, e, c⟩ := x; exact ⟨ob, es, ep, t, k _ _ (.inl rfl) e, c⟩
  | ins C dx fs =>
    obtain ⟨d, z, ne, e, mA, ⟨od, es, ep, e2, c⟩, r⟩ := x
    exact ⟨ho _ d, z, ne, k _ _ (.inl rfl) e, mA, ⟨od, es, ep, k _ _ (.inr d) e2, c⟩, r⟩
  | own y => obtain ⟨ob, e⟩ := x; exact ⟨ob, k _ _ (.inl rfl) e⟩
  | xd fs => obtain ⟨mA, ⟨od, es, ep, e, c⟩, r⟩ := x; exact ⟨mA, ⟨od, es, ep, k _ _ (.inl rfl) e, c⟩, r⟩
  | rng lo hi => obtain ⟨t, u, v, e⟩ := x; exact ⟨t, u, v, k _ _ (.inl rfl) e⟩
  | frz ob u ih => obtain ⟨e, q⟩ := x; exact ⟨k _ _ (.inl rfl) e, ih q⟩
  | tbl ps =>
    have e : h.get? a = some { cls := .none, data := .fields ps } := x
    show h'.get? a = some { cls := .none, data := .fields ps }
    exact k a _ (.inl rfl) e
  | met f y =>
    have e : h.get? a = some (PySem.W.methodObj (.ref f) (.ref y)) := x
    show h'.get? a = some (PySem.W.methodObj (.ref f) (.ref y))
    exact k a _ (.inl rfl) e
  | ext φ => obtain ⟨p, ⟨o, e⟩, st⟩ := x; exact ⟨st _ _ p fun o q => k _ _ (.inl rfl) q, ⟨o, k _ _ (.inl rfl) e⟩, st⟩
theorem HOk.lt (x : HOk P w H h) (e : H a = some o) : a < h.objs.size := (x a o e).lt
theorem HOk.fresh (x : HOk P w H h) (e : h.objs.size ≤ a) : H a = none := by
  cases q : H a with
  | none => rfl
  | some u => exact absurd (Nat.lt_of_lt_of_le (x.lt q) e) (Nat.lt_irrefl _)
/-- every object of the heap is kept -/
theorem HOk.kept (x : HOk P w H h) (k : ∀ b u, h.get? b = some u → h'.get? b = some u) : HOk P w H h' := fun a o e =>
  (x a o e).stay (fun b u _ q => k b u q) (fun _ q => q) fun _ _ q => q
/-- a new object is laid and tracked -/
theorem HOk.laid (x : HOk P w H h) (k : ∀ b u, h.get? b = some u → h'.get? b = some u) (hp : h.objs.size ≤ a) (new : ObjOk P w (upd H a o) h' a o) : HOk P w (upd H a o) h' := fun b u e => by
  have hn := x.fresh hp
  by_cases hb : b = a
  · subst hb; rw [upd_same] at e; cases e; exact new
  · rw [upd_ne hb] at e
    exact (x b u e).stay (fun c v _ q => k c v q) (fun c q => by rw [upd_ne (ne_of_none q hn)]; exact q) fun c xs q => by rw [upd_ne (ne_of_none q hn)]; exact q
end

/-- what may be read as u: it is u, or a known u -/
def Rd (H : Hp) (a : Addr) (u : HO) : Prop := H a = some u ∨ ∃ o, H a = some (.frz o u)
theorem Rd.of {H : Hp} {a : Addr} {u : HO} (h : H a = some u) : Rd H a u := .inl h
theorem Rd.ok {P : Program} {w : World} {H : Hp} {h : Heap} {a : Addr} {u : HO} (r : Rd H a u) (x : HOk P w H h) : ObjOk P w H h a u := by
  rcases r with r | ⟨o, r⟩
  · exact x a u r
  · obtain ⟨_, q⟩ := x a _ r
    exact q
/-- what may be written -/
def Mut : Option HO → Prop
  | some (.lst _) => True
  | some (.dK _) => True
  | some (.dT _) => True
  | some (.set _ _) => True
  | some (.ins _ _ _) => True
  | some (.ext _) => True
  | _ => False
section
variable {P : Program} {w : World} {H : Hp} {h h' : Heap} {x e : Addr} {o' : HO}
/-- the object at e is changed: x itself, or the dict of the instance x -/
theorem HOk.write (ok : HOk P w H h) (mu : Mut (H x)) (he : e = x ∨ H e = some (.own x)) (k : ∀ b u, b ≠ e → h.get? b = some u → h'.get? b = some u) (heo : ∃ u, h'.get? e = some u)
    (new : ObjOk P w (upd H x o') h' x o') : HOk P w (upd H x o') h' := fun b u q => by
  have nown : ∀ c y, H c = some (.own y) → c ≠ x := fun c y r z => by subst z; rw [r] at mu; exact mu
  have ntup : ∀ c xs, H c = some (.tup xs) → c ≠ x := fun c xs r z => by subst z; rw [r] at mu; exact mu
  by_cases hb : b = x
  · subst hb; rw [upd_same] at q; cases q; exact new
  · rw [upd_ne hb] at q
    by_cases hbe : b = e
    · have q' : H b = some (.own x) := by
        rcases he with z | z
        · exact absurd (hbe.trans z) hb
        · rw [hbe]; exact z
      rw [q] at q'; cases q'
      obtain ⟨v, hv⟩ := heo
      exact ⟨v, by rw [hbe]; exact hv⟩
    · refine (ok b u q).stay (fun c v hc r => k c v ?_ r) (fun c r => by rw [upd_ne (nown c b r)]; exact r) fun c xs r => by rw [upd_ne (ntup c xs r)]; exact r
      rcases hc with rfl | hc
      · exact hbe
      · rintro rfl
        rcases he with z | z
        · exact nown c b hc z
        · rw [hc] at z; cases z; exact hb rfl
end

/-! ### kept unless tracked; of the frames at fs (the callers') the slots may change (an exception that passes writes there); of the records at ex (iterators) nothing is said -/
structure Un (fs ex : List Addr) (H H' : Hp) (h h' : Heap) : Prop where
  keep : ∀ b o, h.get? b = some o → H b = none → b ∉ fs → b ∉ ex → h'.get? b = some o
  slot : ∀ b o, h.get? b = some o → H b = none → b ∈ fs → b ∉ ex → ∃ sl, h'.get? b = some { o with slots := sl }
  free : ∀ b o, h.get? b = some o → H b = none → b ∉ ex → H' b = none
  there : ∀ b o, h.get? b = some o → b ∉ ex → ∃ o', h'.get? b = some o'
  tups : ∀ b xs, H b = some (.tup xs) → H' b = some (.tup xs)
  frzs : ∀ b o u, H b = some (.frz o u) → H' b = some (.frz o u)
  tbls : ∀ b ps, H b = some (.tbl ps) → ∃ more, H' b = some (.tbl (ps ++ more))
section
variable {fs fs' ex ex' : List Addr} {H H1 H2 : Hp} {h h1 h2 h' : Heap} {a x e : Addr} {o : HO}
theorem Un.any (u : Un fs ex H H1 h h1) {b : Addr} {ob : Obj} (q : h.get? b = some ob) (n : H b = none) (hx : b ∉ ex) : ∃ sl, h1.get? b = some { ob with slots := sl } := by
  by_cases hb : b ∈ fs
  · exact u.slot b ob q n hb hx
  · exact ⟨ob.slots, u.keep b ob q n hb hx⟩
theorem Un.trans (a : Un fs ex H H1 h h1) (b : Un fs ex H1 H2 h1 h2) : Un fs ex H H2 h h2 where
  keep := fun c ob q n hc hx => b.keep c ob (a.keep c ob q n hc hx) (a.free c ob q n hx) hc hx
  slot := fun c ob q n hc hx => by
    obtain ⟨sl, e1⟩ := a.slot c ob q n hc hx
    obtain ⟨sl', e2⟩ := b.slot c _ e1 (a.free c ob q n hx) hc hx
    exact ⟨sl', e2⟩
  free := fun c ob q n hx => by
    obtain ⟨o', e1⟩ := a.there c ob q hx
    exact b.free c o' e1 (a.free c ob q n hx) hx
  there := fun c ob q hx => by
    obtain ⟨o', e1⟩ := a.there c ob q hx
    exact b.there c o' e1 hx
  tups := fun c xs q => b.tups c xs (a.tups c xs q)
  frzs := fun c ob xs q => b.frzs c ob xs (a.frzs c ob xs q)
  tbls := fun c ps q => by
    obtain ⟨m1, e1⟩ := a.tbls c ps q
    obtain ⟨m2, e2⟩ := b.tbls c _ e1
    exact ⟨m1 ++ m2, by rw [e2, Array.append_assoc]⟩
theorem Un.kept (k : ∀ b u, h.get? b = some u → h'.get? b = some u) : Un fs ex H H h h' :=
  ⟨fun b ob q _ _ _ => k b ob q, fun b ob q _ _ _ => ⟨ob.slots, k b ob q⟩, fun _ _ _ n _ => n, fun b ob q _ => ⟨ob, k b ob q⟩, fun _ _ q => q, fun _ _ _ q => q, fun _ ps q => ⟨#[], by rw [q]; simp⟩⟩
theorem Un.refl : Un fs ex H H h h := Un.kept fun _ _ q => q
theorem Un.laid (k : ∀ b u, h.get? b = some u → h'.get? b = some u) (hp : h.objs.size ≤ a) (hn : H a = none) : Un fs ex H (upd H a o) h h' where
  keep := fun b u q _ _ _ => k b u q
  slot := fun b u q _ _ _ => ⟨u.slots, k b u q⟩
  free := fun b u q n _ => by rw [upd_ne (Nat.ne_of_lt (Nat.lt_of_lt_of_le (Heap.lt_size q) hp))]; exact n
  there := fun b u q _ => ⟨u, k b u q⟩
  tups := fun b xs q => by rw [upd_ne (ne_of_none q hn)]; exact q
  frzs := fun b u xs q => by rw [upd_ne (ne_of_none q hn)]; exact q
  tbls := fun b ps q => ⟨#[], by rw [upd_ne (ne_of_none q hn), q]; simp⟩
theorem Un.write (mu : Mut (H x)) (he : e = x ∨ H e = some (.own x)) (k : ∀ b u, b ≠ e → h.get? b = some u → h'.get? b = some u) (heo : ∃ u, h'.get? e = some u) : Un fs ex H (upd H x o) h h' := by
  have hx : ∀ b, H b = none → b ≠ x := fun b n z => by subst z; rw [n] at mu; exact mu
  have hb : ∀ b, H b = none → b ≠ e := fun b n z => by
    subst z
    rcases he with r | r
    · exact hx b n r
    · rw [n] at r; cases r
  have hm : ∀ b u, H b = some u → ¬ Mut (some u) → b ≠ x := fun b u q nm z => by subst z; rw [q] at mu; exact nm mu
  refine ⟨fun b u q n _ _ => k b u (hb b n) q, fun b u q n _ _ => ⟨u.slots, k b u (hb b n) q⟩, fun b u q n _ => by rw [upd_ne (hx b n)]; exact n, fun b u q _ => ?_,
    fun b xs q => by rw [upd_ne (hm b _ q fun z => z)]; exact q, fun b u xs q => by rw [upd_ne (hm b _ q fun z => z)]; exact q, fun b ps q => ⟨#[], by rw [upd_ne (hm b _ q fun z => z), q]; simp⟩⟩
  by_cases hbe : b = e
  · subst hbe; exact heo
  · exact ⟨u, k b u hbe q⟩
theorem Un.mono (u : Un fs ex H H1 h h1) (hs : ∀ b ∈ fs, b ∈ fs') (hx : ∀ b ∈ ex, b ∈ ex') : Un fs' ex' H H1 h h1 :=
  ⟨fun b ob q n hb he => u.keep b ob q n (fun z => hb (hs b z)) fun z => he (hx b z), fun _ _ q n _ he => u.any q n fun z => he (hx _ z), fun b ob q n he => u.free b ob q n fun z => he (hx b z), fun b ob q he => u.there b ob q fun z => he (hx b z), u.tups, u.frzs, u.tbls⟩
end

/-! ### the heap without what is tracked -/
def trk (h : Heap) (H : Hp) : List Addr := (List.range h.objs.size).filter fun a => (H a).isSome
def hidT (h : Heap) (H : Hp) : Heap := PySem.W.hideAll h (trk h H)
theorem hidT_size (h : Heap) (H : Hp) : (hidT h H).objs.size = h.objs.size := PySem.W.hideAll_size _ _
theorem hidT_get {h : Heap} {H : Hp} {b : Addr} {o : Obj} (e : h.get? b = some o) (n : H b = none) : (hidT h H).get? b = some o :=
  PySem.W.hideAll_get _ e fun hm => by
    have q : (H b).isSome = true := (List.mem_filter.mp hm).2
    rw [n] at q; simp at q
theorem of_hidT {h : Heap} {H : Hp} {b : Addr} {o : Obj} (e : (hidT h H).get? b = some o) : h.get? b = some o ∧ H b = none := by
  have e' : h.get? b = some o := PySem.W.of_hideAll (trk h H) e
  refine ⟨e', ?_⟩
  cases q : H b with
  | none => rfl
  | some x =>
    have hm : b ∈ trk h H := List.mem_filter.mpr ⟨List.mem_range.mpr (Heap.lt_size e'), by simp [q]⟩
    have z : (hidT h H).get? b = none := PySem.W.hideAll_none (trk h H) hm
    rw [z] at e; cases e

/-! ### OpenK's ledger, filled with every new object but one -/
def allNews (g h : Heap) (L : Addr) : List (Addr × Obj) := (List.range h.objs.size).filterMap fun a => if a = L ∨ (g.get? a).isSome = true then none else (h.get? a).map fun o => (a, o)
def rest (g h : Heap) (L d : Addr) : List (Addr × Obj) := (allNews g h L).filter fun p => decide (p.1 ≠ d)
end L2

namespace L2
open PySem PySem.Spec PyProof.Rows

/-- the module's facts, over the base: the heap at the law's entry without what is tracked there -/
structure Mod (K : PySem.W.Frag) (mg : Str → Option Value) (base : Heap) : Prop where
  kin : K.In base
  glob : base.Ns mainGlobals mg
  blt : ∃ mb, base.Ns builtinsNs mb ∧ ∀ x : Str, x ≠ "__name__" → mb x = bootBuiltins x
  nolimit : base.NoLimit

/-- the context: a def's body (or a comprehension's block) running. base: fixed through the whole law; s₀, H₀: the entry; outer: the frames whose slots others may change (a def's callers); stack: all frames that run;
   ex: iterators that were made ahead of the entry and are walked here (a comprehension's); fn: the names whose cells were made at the entry (a def: all; a comprehension's block: its own); calm: not within an except suite; pn: pins that every state bears; xe: what is wanted of an exception that leaves the code -/
structure Cx where
  prog : Program
  w : World
  K : PySem.W.Frag
  mg : Str → Option Value
  base : Heap
  A : Around
  N : List Str
  s₀ : Shared
  H₀ : Hp
  env : Env
  outer : List Env
  stack : List Env
  ex : List Addr
  fn : Str → Bool
  calm : Bool
  pn : List (Addr × Obj)
  xe : Value → Shared → Prop
/-- the callers' frames -/
def frs (l : List Env) : List Addr := l.filterMap (·.frame)
abbrev Cx.fs (X : Cx) : List Addr := frs X.outer

def Vis (sc : Scope) (x : Str) : Prop := sc.names.lookup x = some .local ∨ sc.names.lookup x = some .cell ∨ sc.names.lookup x = some .free
def Loc (sc : Scope) (x : Str) : Prop := sc.names.lookup x = some .local ∨ sc.names.lookup x = some .cell
def Look (env : Env) (h : Heap) (m : Str → Option Value) (x : Str) (u : Value) : Prop :=
  (env.kindOf x = some .local ∧ m x = some u) ∨ ((env.kindOf x = some .cell ∨ env.kindOf x = some .free) ∧ ∃ c, env.cells.lookup x = some c ∧ h.IsCell c (some u))

structure Cx.Ok (X : Cx) : Prop where
  mod : Mod X.K X.mg X.base
  kind : X.env.scope.kind = .function
  glob : X.env.globals = mainGlobals
  blt : X.env.builtins = builtinsNs
  above : X.s₀.heap.objs.size ≤ X.env.locals
  inj : ∀ x y c, X.env.cells.lookup x = some c → X.env.cells.lookup y = some c → x = y
  has : ∀ x, (X.env.kindOf x = some .cell ∨ X.env.kindOf x = some .free) → ∃ c, X.env.cells.lookup x = some c
  cab : ∀ x c, X.fn x = true → X.env.cells.lookup x = some c → X.s₀.heap.objs.size ≤ c
  hd : X.calm = true → X.A.handled = none
  frames : X.A.frames = some X.stack
  stk : X.stack = X.outer ∨ (X.stack = X.env :: X.outer ∧ X.env.frame = some X.env.locals)
  exf : ∀ b ∈ X.ex, b ≠ X.env.locals ∧ ∀ x c, X.env.cells.lookup x = some c → c ≠ b
  bs : ∀ b o, X.base.get? b = some o → X.s₀.heap.get? b = some o ∧ X.H₀ b = none
  bsz : X.base.objs.size ≤ X.s₀.heap.objs.size
  noex : ∀ b o, X.base.get? b = some o → b ∉ X.ex
  exfs : ∀ b ∈ X.ex, b ∉ X.fs
  funs : X.s₀.heap.FunFrames X.base X.outer
  frf : ∀ b ∈ X.fs, X.H₀ b = none

structure Inv (X : Cx) (pins : List (Addr × Obj)) (σ : List (Option V)) (H : Hp) (s : Shared) : Prop where
  ok : X.Ok
  os : s.os = X.s₀.os
  bare : AllBare s.gens
  base : Un X.fs X.ex X.H₀ H X.s₀.heap s.heap
  loc : ∃ m, s.heap.Ns X.env.locals m ∧ ∀ (i : Nat) (x : Str) (v : V), X.N[i]? = some x → σ[i]? = some (some v) → Vis X.env.scope x → ∃ u, RelV v u ∧ Look X.env s.heap m x u
  cell : ∀ x c, X.env.cells.lookup x = some c → ∃ v, s.heap.IsCell c v
  free : H X.env.locals = none
  freeC : ∀ x c, X.env.cells.lookup x = some c → H c = none
  pin : ∀ p ∈ X.pn ++ pins, s.heap.get? p.1 = some p.2 ∧ H p.1 = none ∧ p.1 ≠ X.env.locals ∧ p.1 ∉ X.fs ∧ ∀ v, p.2.data ≠ .cell v
  hok : HOk X.prog X.w H s.heap
  len : σ.length = X.N.length

section
variable {X : Cx} {pins : List (Addr × Obj)} {σ : List (Option V)} {H H' : Hp} {s : Shared} {h' : Heap}

theorem Cx.Ok.nofr (ok : X.Ok) {b : Addr} {o : Obj} (e : X.base.get? b = some o) : b ∉ X.fs := fun hb => by
  have := (ok.funs.mem hb).1
  rw [e] at this; cases this
theorem Inv.bs (I : Inv X pins σ H s) : ∀ b o, X.base.get? b = some o → s.heap.get? b = some o ∧ H b = none := fun b o e =>
  ⟨I.base.keep b o (I.ok.bs b o e).1 (I.ok.bs b o e).2 (I.ok.nofr e) (I.ok.noex b o e), I.base.free b o (I.ok.bs b o e).1 (I.ok.bs b o e).2 (I.ok.noex b o e)⟩
theorem Inv.bk (I : Inv X pins σ H s) : ∀ b o, X.base.get? b = some o → s.heap.get? b = some o := fun b o e => (I.bs b o e).1
theorem Inv.mod (I : Inv X pins σ H s) : Mod X.K X.mg X.base := I.ok.mod
theorem Inv.kIn (I : Inv X pins σ H s) : X.K.In s.heap := I.ok.mod.kin.keeps I.bk
theorem Inv.nolimit (I : Inv X pins σ H s) : s.heap.NoLimit := I.ok.mod.nolimit.keeps I.bk
/-- the frame over the base: for OpenK's rules (K.In X.base is I.mod.kin) -/
theorem Inv.fr (I : Inv X pins σ H s) : ∃ m, Fr X.base X.env.locals s.heap m :=
  let ⟨m, hn, _⟩ := I.loc
  ⟨m, hn, I.bk, Nat.le_trans I.ok.bsz I.ok.above⟩
theorem Inv.lt (I : Inv X pins σ H s) : X.env.locals < s.heap.objs.size := let ⟨_, hn, _⟩ := I.loc; hn.lt
theorem Inv.sz (I : Inv X pins σ H s) : X.s₀.heap.objs.size ≤ s.heap.objs.size := Nat.le_trans I.ok.above (Nat.le_of_lt I.lt)
theorem Inv.nofs (I : Inv X pins σ H s) {a : Addr} (h : s.heap.objs.size ≤ a) : a ∉ X.fs := fun hb => by
  obtain ⟨_, o, ho, _⟩ := I.ok.funs.mem hb
  exact absurd (Nat.lt_of_lt_of_le (Heap.lt_size ho) (Nat.le_trans I.sz h)) (Nat.lt_irrefl _)
theorem Inv.cne (I : Inv X pins σ H s) : ∀ x c, X.env.cells.lookup x = some c → c ≠ X.env.locals := fun x c e z => by
  obtain ⟨v, o, ho, hd⟩ := I.cell x c e
  obtain ⟨m, ⟨o', es, ep, ho', hd', _⟩, _⟩ := I.loc
  rw [z, ho'] at ho; cases ho; rw [hd'] at hd; cases hd
theorem Inv.funs (I : Inv X pins σ H s) : s.heap.FunFrames X.base X.outer := by
  have all : ∀ (l : List Env), (∀ b ∈ frs l, b ∈ X.fs) → X.s₀.heap.FunFrames X.base l → s.heap.FunFrames X.base l := by
    intro l
    induction l with
    | nil => intro _ _; trivial
    | cons env r ih =>
      intro hs hl
      obtain ⟨hk, ⟨L, o, hf, hn, ho, hd⟩, hr⟩ := hl
      have hL : L ∈ X.fs := hs L (by unfold frs; rw [List.filterMap_cons, hf]; exact List.mem_cons_self)
      obtain ⟨sl, e⟩ := I.base.slot L o ho (I.ok.frf L hL) hL fun z => I.ok.exfs L z hL
      exact ⟨hk, ⟨L, _, hf, hn, e, hd⟩, ih (fun b hb => hs b (by unfold frs; rw [List.filterMap_cons, hf]; exact List.mem_cons_of_mem _ hb)) hr⟩
  exact all X.outer (fun _ hb => hb) I.ok.funs

/-- the frames that run, for a call -/
theorem Inv.stack (I : Inv X pins σ H s) : s.heap.FunFrames X.base X.stack := by
  rcases I.ok.stk with e | ⟨e, hf⟩
  · rw [e]; exact I.funs
  · rw [e]
    obtain ⟨m, hn, _⟩ := I.loc
    refine .cons (by rw [I.ok.kind]; decide) hf hn ?_ I.funs
    exact Heap.get?_none_of_le (Nat.le_trans I.ok.bsz I.ok.above)
theorem Inv.stkSub (I : Inv X pins σ H s) : ∀ b ∈ frs X.stack, b ∈ X.env.locals :: X.fs := fun b hb => by
  rcases I.ok.stk with e | ⟨e, hf⟩
  · rw [e] at hb; exact List.mem_cons_of_mem _ hb
  · rw [e] at hb
    unfold frs at hb
    rw [List.filterMap_cons, hf] at hb
    exact hb
theorem Inv.stkFree (I : Inv X pins σ H s) : ∀ b ∈ frs X.stack, H b = none := fun b hb => by
  rcases List.mem_cons.mp (I.stkSub b hb) with e | hb
  · rw [e]; exact I.free
  · obtain ⟨_, o, ho, _⟩ := I.ok.funs.mem hb
    exact I.base.free b o ho (I.ok.frf b hb) fun z => I.ok.exfs b z hb

/-- THE STEP: the untracked objects but the frame and the records at ch are kept (the callers' frames up to slots), the frame's map is kept, the new abstract heap is held -/
theorem Inv.step {g' : Array GenState} {t' : Nat} {d' : Drawn} {ch : List Addr} (I : Inv X pins σ H s)
    (hch : ∀ b ∈ ch, (b ∈ X.ex ∨ X.s₀.heap.objs.size ≤ b) ∧ b ≠ X.env.locals ∧ (∀ x c, X.env.cells.lookup x = some c → c ≠ b) ∧ ∀ p ∈ X.pn ++ pins, p.1 ≠ b)
    (keep : ∀ b o, b ≠ X.env.locals → b ∉ X.fs → b ∉ ch → s.heap.get? b = some o → H b = none → h'.get? b = some o)
    (slot : ∀ b o, b ≠ X.env.locals → b ∈ X.fs → b ∉ ch → s.heap.get? b = some o → H b = none → ∃ sl, h'.get? b = some { o with slots := sl }) (free : ∀ b o, b ∉ ch → s.heap.get? b = some o → H b = none → H' b = none)
    (there : ∀ b o, b ∉ ch → s.heap.get? b = some o → ∃ o', h'.get? b = some o')
    (tups : ∀ b xs, H b = some (.tup xs) → H' b = some (.tup xs)) (frzs : ∀ b o u, H b = some (.frz o u) → H' b = some (.frz o u)) (tbls : ∀ b ps, H b = some (.tbl ps) → ∃ more, H' b = some (.tbl (ps ++ more)))
    (ns : ∀ m, s.heap.Ns X.env.locals m → h'.Ns X.env.locals m) (hok : HOk X.prog X.w H' h') (hg : AllBare g') :
    Inv X pins σ H' { s with heap := h', gens := g', drawn := d', toks := t' } := by
  have neL : ∀ b o, X.s₀.heap.get? b = some o → b ≠ X.env.locals := fun b o e => Nat.ne_of_lt (Nat.lt_of_lt_of_le (Heap.lt_size e) I.ok.above)
  have neC : ∀ b o, X.s₀.heap.get? b = some o → b ∉ X.ex → b ∉ ch := fun b o e hx hb => by
    rcases (hch b hb).1 with z | z
    · exact hx z
    · exact absurd (Nat.lt_of_lt_of_le (Heap.lt_size e) z) (Nat.lt_irrefl _)
  have cellK : ∀ x c, X.env.cells.lookup x = some c → ∀ v, s.heap.IsCell c v → h'.IsCell c v := fun x c e v ⟨o, ho, hd⟩ => by
    have nch : c ∉ ch := fun z => (hch c z).2.2.1 x c e rfl
    by_cases hc : c ∈ X.fs
    · obtain ⟨sl, q⟩ := slot c o (I.cne x c e) hc nch ho (I.freeC x c e)
      exact ⟨_, q, hd⟩
    · exact ⟨o, keep c o (I.cne x c e) hc nch ho (I.freeC x c e), hd⟩
  refine ⟨I.ok, I.os, hg, ⟨fun b o e n hb hx => ?_, fun b o e n hb hx => ?_, fun b o e n hx => ?_, fun b o e hx => ?_, fun b xs e => tups b xs (I.base.tups b xs e), fun b o xs e => frzs b o xs (I.base.frzs b o xs e), fun b ps e => ?_⟩, ?_, fun x c e => ?_, ?_, fun x c e => ?_, fun p hp => ?_, hok, I.len⟩
  · exact keep b o (neL b o e) hb (neC b o e hx) (I.base.keep b o e n hb hx) (I.base.free b o e n hx)
  · obtain ⟨sl, e1⟩ := I.base.slot b o e n hb hx
    obtain ⟨sl', e2⟩ := slot b _ (neL b o e) hb (neC b o e hx) e1 (I.base.free b o e n hx)
    exact ⟨sl', e2⟩
  · obtain ⟨o', e1⟩ := I.base.there b o e hx
    exact free b o' (neC b o e hx) e1 (I.base.free b o e n hx)
  · obtain ⟨o', e1⟩ := I.base.there b o e hx
    exact there b o' (neC b o e hx) e1
  · obtain ⟨m1, e1⟩ := I.base.tbls b ps e
    obtain ⟨m2, e2⟩ := tbls b _ e1
    exact ⟨m1 ++ m2, by rw [e2, Array.append_assoc]⟩
  · obtain ⟨m, hn, hl⟩ := I.loc
    refine ⟨m, ns m hn, fun i x v e1 e2 e3 => ?_⟩
    obtain ⟨u, r, l⟩ := hl i x v e1 e2 e3
    refine ⟨u, r, ?_⟩
    rcases l with l | ⟨k, c, e, z⟩
    · exact .inl l
    · exact .inr ⟨k, c, e, cellK x c e _ z⟩
  · obtain ⟨v, z⟩ := I.cell x c e
    exact ⟨v, cellK x c e v z⟩
  · obtain ⟨m, ⟨o, _, _, ho, _⟩, _⟩ := I.loc
    exact free _ o (fun z => (hch _ z).2.1 rfl) ho I.free
  · obtain ⟨v, o, ho, hd⟩ := I.cell x c e
    exact free c o (fun z => (hch c z).2.2.1 x c e rfl) ho (I.freeC x c e)
  · obtain ⟨e, n, ne, nf, d⟩ := I.pin p hp
    have nch : p.1 ∉ ch := fun z => (hch p.1 z).2.2.2 p hp rfl
    exact ⟨keep p.1 p.2 ne nf nch e n, free p.1 p.2 nch e n, ne, nf, d⟩
/-- .. where the frame's own object is kept too -/
theorem Inv.un {t' : Nat} (I : Inv X pins σ H s) (u : Un X.fs [] H H' s.heap h') (hok : HOk X.prog X.w H' h') : Inv X pins σ H' { s with heap := h', toks := t' } := by
  obtain ⟨m, ⟨o, es, ep, ho, r⟩, _⟩ := id I.loc
  obtain ⟨sl, hL⟩ := u.any ho I.free (by simp)
  exact I.step (g' := s.gens) (d' := s.drawn) (ch := []) (fun _ z => nomatch z) (fun b o _ hb _ e n => u.keep b o e n hb (by simp)) (fun b o _ hb _ e n => u.slot b o e n hb (by simp)) (fun b o _ e n => u.free b o e n (by simp)) (fun b o _ e => u.there b o e (by simp)) u.tups u.frzs u.tbls (fun m' hm => by
    obtain ⟨o', es', ep', ho', r'⟩ := hm
    rw [ho] at ho'; cases ho'
    exact ⟨_, es', ep', hL, r'⟩) hok I.bare
/-- behind a call (or a comprehension's block): the slots of this frame may have changed too, the records at ch may have turned -/
theorem Inv.call {g' : Array GenState} {t' : Nat} {d' : Drawn} {ch : List Addr} (I : Inv X pins σ H s) (u : Un (frs X.stack) ch H H' s.heap h') (hok : HOk X.prog X.w H' h') (hg : AllBare g')
    (hch : ∀ b ∈ ch, (b ∈ X.ex ∨ X.s₀.heap.objs.size ≤ b) ∧ b ≠ X.env.locals ∧ (∀ x c, X.env.cells.lookup x = some c → c ≠ b) ∧ ∀ p ∈ X.pn ++ pins, p.1 ≠ b) :
    Inv X pins σ H' { s with heap := h', gens := g', drawn := d', toks := t' } := by
  obtain ⟨m, ⟨o, es, ep, ho, r⟩, _⟩ := id I.loc
  obtain ⟨sl, hL⟩ := u.any ho I.free fun z => (hch _ z).2.1 rfl
  exact I.step (ch := ch) hch (fun b o hL hb hc e n => u.keep b o e n (fun z => (List.mem_cons.mp (I.stkSub b z)).elim hL hb) hc) (fun b o _ _ hc e n => u.any e n hc) (fun b o hc e n => u.free b o e n hc) (fun b o hc e => u.there b o e hc) u.tups u.frzs u.tbls (fun m' hm => by
    obtain ⟨o', es', ep', ho', r'⟩ := hm
    rw [ho] at ho'; cases ho'
    exact ⟨_, es', ep', hL, r'⟩) hok hg
/-- an untracked record of ours (an iterator) has turned -/
theorem Inv.turned {t' : Nat} {it : Addr} (I : Inv X pins σ H s) (k : ∀ b o, b ≠ it → s.heap.get? b = some o → h'.get? b = some o) (hn : H it = none) (hL : it ≠ X.env.locals)
    (h1 : it ∈ X.ex ∨ X.s₀.heap.objs.size ≤ it) (h2 : ∀ x c, X.env.cells.lookup x = some c → c ≠ it) (h3 : ∀ p ∈ X.pn ++ pins, p.1 ≠ it) : Inv X pins σ H { s with heap := h', toks := t' } := by
  have nit : ∀ b u, H b = some u → b ≠ it := fun b u e z => by rw [z, hn] at e; cases e
  refine I.step (g' := s.gens) (d' := s.drawn) (ch := [it]) (fun b hb => ?_) (fun b o _ _ hc e _ => k b o (fun z => hc (by simp [z])) e) (fun b o _ _ hc e _ => ⟨o.slots, k b o (fun z => hc (by simp [z])) e⟩) (fun _ _ _ _ n => n)
    (fun b o hc e => ⟨o, k b o (fun z => hc (by simp [z])) e⟩) (fun _ _ e => e) (fun _ _ _ e => e) (fun b ps e => ⟨#[], by rw [e]; simp⟩) (fun m hm => ?_) (fun b u e => ?_) I.bare
  · have e : b = it := by simpa using hb
    subst e
    exact ⟨h1, hL, h2, h3⟩
  · obtain ⟨o, es, ep, ho, r⟩ := hm
    exact ⟨o, es, ep, k _ o (Ne.symm hL) ho, r⟩
  · refine (I.hok b u e).stay (fun c v hc q => k c v ?_ q) (fun _ q => q) fun _ _ q => q
    rcases hc with z | z
    · rw [z]; exact nit b u e
    · exact nit c _ z
theorem Inv.tok (I : Inv X pins σ H s) (t : Nat) : Inv X pins σ H { s with toks := t } := I.un (h' := s.heap) (t' := t) Un.refl I.hok
/-- all objects kept -/
theorem Inv.kept {t' : Nat} (I : Inv X pins σ H s) (k : ∀ b u, s.heap.get? b = some u → h'.get? b = some u) : Inv X pins σ H { s with heap := h', toks := t' } := I.un (Un.kept k) (I.hok.kept k)
/-- a new object laid and tracked -/
theorem Inv.laid {a : Addr} {o : HO} {t' : Nat} (I : Inv X pins σ H s) (k : ∀ b u, s.heap.get? b = some u → h'.get? b = some u) (hp : s.heap.objs.size ≤ a) (new : ObjOk X.prog X.w (upd H a o) h' a o) :
    Inv X pins σ (upd H a o) { s with heap := h', toks := t' } := I.un (Un.laid k hp (I.hok.fresh hp)) (I.hok.laid k hp new)
/-- an object written -/
theorem Inv.write {x e : Addr} {o : HO} {t' : Nat} (I : Inv X pins σ H s) (mu : Mut (H x)) (he : e = x ∨ H e = some (.own x)) (k : ∀ b u, b ≠ e → s.heap.get? b = some u → h'.get? b = some u) (heo : ∃ u, h'.get? e = some u)
    (new : ObjOk X.prog X.w (upd H x o) h' x o) : Inv X pins σ (upd H x o) { s with heap := h', toks := t' } := I.un (Un.write mu he k heo) (I.hok.write mu he k heo new)
/-- forgetting slots, pins -/
theorem Inv.weak {σ' : List (Option V)} (I : Inv X pins σ H s) (hl : σ'.length = σ.length) (w : ∀ (i : Nat) v, σ'[i]? = some (some v) → σ[i]? = some (some v)) : Inv X pins σ' H s :=
  ⟨I.ok, I.os, I.bare, I.base, let ⟨m, hn, hl'⟩ := I.loc; ⟨m, hn, fun i x v e1 e2 e3 => hl' i x v e1 (w i v e2) e3⟩, I.cell, I.free, I.freeC, I.pin, I.hok, hl.trans I.len⟩
theorem Inv.pins_of {pins' : List (Addr × Obj)} (I : Inv X pins σ H s) (h : ∀ p ∈ pins', s.heap.get? p.1 = some p.2 ∧ H p.1 = none ∧ p.1 ≠ X.env.locals ∧ p.1 ∉ X.fs ∧ ∀ v, p.2.data ≠ .cell v) : Inv X pins' σ H s :=
  ⟨I.ok, I.os, I.bare, I.base, I.loc, I.cell, I.free, I.freeC, fun p hp => (List.mem_append.mp hp).elim (fun z => I.pin p (List.mem_append_left _ z)) (h p), I.hok, I.len⟩

theorem nodup_ix {N : List Str} (hN : N.Nodup) {i j : Nat} {x : Str} (a : N[i]? = some x) (b : N[j]? = some x) : i = j := by
  obtain ⟨h1, e1⟩ := List.getElem?_eq_some_iff.mp a
  obtain ⟨h2, e2⟩ := List.getElem?_eq_some_iff.mp b
  exact (List.getElem_inj hN).mp (e1.trans e2.symm)

/-- a name is stored; what changed -/
theorem store_ok2 {M : Model} {A : Around} {E : Value → Shared → Prop} {i : Nat} {x : Str} {v : V} {u : Value} {Q : Unit → Shared → Prop} (I : Inv X pins σ H s) (hN : X.N.Nodup) (hi : X.N[i]? = some x) (hx : Loc X.env.scope x) (r : RelV v u)
    (h : ∀ s', Inv X pins (σ.set i (some v)) H s' → (∃ a, Heap.SameBut a s.heap s'.heap ∧ (a = X.env.locals ∨ X.env.cells.lookup x = some a)) → Q () s') (hf : X.fn x = true ∨ X.env.scope.names.lookup x = some .local := by first | exact .inl rfl | exact .inr rfl | assumption) : wpAny M A (storeName X.env x u) Q E s := by
  obtain ⟨m, hn, hl⟩ := id I.loc
  have hcls : (X.env.scope.kind == .class || (X.env.scope.kind == .module && X.env.locals != X.env.globals)) = false := by rw [I.ok.kind]; rfl
  have hiσ : i < σ.length := by rw [I.len]; exact (List.getElem?_eq_some_iff.mp hi).1
  have cne := I.cne
  have tracked : ∀ {a : Addr} {h' : Heap}, (∃ o, s.heap.get? a = some o ∧ H a = none) → Heap.SameBut a s.heap h' → HOk X.prog X.w H h' := fun {a h'} ha hs b ob e => by
    obtain ⟨_, _, hfree⟩ := ha
    refine (I.hok b ob e).stay (fun c w' hc q => (hs.2 c ?_).trans q) (fun _ q => q) fun _ _ q => q
    rintro rfl
    rcases hc with rfl | hc
    · rw [hfree] at e; cases e
    · rw [hfree] at hc; cases hc
  rcases hx with hk | hk
  · refine wpAny_storeName_local hk hn (fun h' hn' hs => ?_) hcls
    obtain ⟨oL, _, _, hoL, _⟩ := id hn
    refine h _ ⟨I.ok, I.os, I.bare, ⟨fun b o e n hb hx => ?_, fun b o e n hb hx => ?_, I.base.free, fun b o e hx => ?_, I.base.tups, I.base.frzs, I.base.tbls⟩, ⟨_, hn', fun j y v' e1 e2 e3 => ?_⟩, fun y c e => ?_, I.free, I.freeC, fun p hp => ?_, tracked ⟨oL, hoL, I.free⟩ hs, by simpa using I.len⟩ ⟨_, hs, .inl rfl⟩
    · exact (hs.2 b (Nat.ne_of_lt (Nat.lt_of_lt_of_le (Heap.lt_size e) I.ok.above))).trans (I.base.keep b o e n hb hx)
    · obtain ⟨sl, e1⟩ := I.base.slot b o e n hb hx
      exact ⟨sl, (hs.2 b (Nat.ne_of_lt (Nat.lt_of_lt_of_le (Heap.lt_size e) I.ok.above))).trans e1⟩
    · obtain ⟨o', e1⟩ := I.base.there b o e hx
      exact ⟨o', (hs.2 b (Nat.ne_of_lt (Nat.lt_of_lt_of_le (Heap.lt_size e) I.ok.above))).trans e1⟩
    · by_cases hj : j = i
      · subst hj
        rw [hi] at e1; cases e1
        rw [List.getElem?_set_self hiσ] at e2
        cases e2
        exact ⟨u, r, .inl ⟨hk, by simp⟩⟩
      · rw [List.getElem?_set_ne (Ne.symm hj)] at e2
        obtain ⟨u', r', q⟩ := hl j y v' e1 e2 e3
        refine ⟨u', r', ?_⟩
        rcases q with ⟨k, e⟩ | ⟨k, c, e, z⟩
        · refine .inl ⟨k, ?_⟩
          have : y ≠ x := fun e => hj (nodup_ix hN e1 (e ▸ hi))
          simp [this, e]
        · exact .inr ⟨k, c, e, z.sameBut hs (cne y c e)⟩
    · obtain ⟨w', z⟩ := I.cell y c e
      exact ⟨w', z.sameBut hs (cne y c e)⟩
    · obtain ⟨e, n, ne, nf, d⟩ := I.pin p hp
      exact ⟨(hs.2 p.1 ne).trans e, n, ne, nf, d⟩
  · have hfn : X.fn x = true := by
      rcases hf with z | z
      · exact z
      · rw [z] at hk; cases hk
    obtain ⟨c, hc⟩ := I.ok.has x (.inl hk)
    obtain ⟨w', z⟩ := I.cell x c hc
    refine wpAny_storeName_cell I.ok.kind hk hc z (fun h' hc' hs => ?_)
    obtain ⟨oc, hoc, hocd⟩ := id z
    refine h { s with heap := h' } ⟨I.ok, I.os, I.bare, ⟨fun b o e n hb hx => ?_, fun b o e n hb hx => ?_, I.base.free, fun b o e hx => ?_, I.base.tups, I.base.frzs, I.base.tbls⟩, ⟨m, hn.sameBut hs (Ne.symm (cne x c hc)), fun j y v' e1 e2 e3 => ?_⟩, fun y c' e => ?_, I.free, I.freeC, fun p hp => ?_, tracked ⟨oc, hoc, I.freeC x c hc⟩ hs, by simpa using I.len⟩ ⟨c, hs, .inr hc⟩
    · exact (hs.2 b (Nat.ne_of_lt (Nat.lt_of_lt_of_le (Heap.lt_size e) (I.ok.cab x c hfn hc)))).trans (I.base.keep b o e n hb hx)
    · obtain ⟨sl, e1⟩ := I.base.slot b o e n hb hx
      exact ⟨sl, (hs.2 b (Nat.ne_of_lt (Nat.lt_of_lt_of_le (Heap.lt_size e) (I.ok.cab x c hfn hc)))).trans e1⟩
    · obtain ⟨o', e1⟩ := I.base.there b o e hx
      exact ⟨o', (hs.2 b (Nat.ne_of_lt (Nat.lt_of_lt_of_le (Heap.lt_size e) (I.ok.cab x c hfn hc)))).trans e1⟩
    · by_cases hj : j = i
      · subst hj
        rw [hi] at e1; cases e1
        rw [List.getElem?_set_self hiσ] at e2
        cases e2
        exact ⟨u, r, .inr ⟨.inl hk, c, hc, hc'⟩⟩
      · rw [List.getElem?_set_ne (Ne.symm hj)] at e2
        obtain ⟨u', r', q⟩ := hl j y v' e1 e2 e3
        refine ⟨u', r', ?_⟩
        rcases q with q | ⟨k, c', e, z'⟩
        · exact .inl q
        · refine .inr ⟨k, c', e, z'.sameBut hs ?_⟩
          rintro rfl
          exact hj (nodup_ix hN e1 (I.ok.inj _ _ _ e hc ▸ hi))
    · by_cases hcc : c' = c
      · subst hcc; exact ⟨_, hc'⟩
      · obtain ⟨w2, z2⟩ := I.cell y c' e
        exact ⟨w2, z2.sameBut hs hcc⟩
    · obtain ⟨e, n, ne, nf, d⟩ := I.pin p hp
      refine ⟨(hs.2 p.1 ?_).trans e, n, ne, nf, d⟩
      intro q
      rw [q, hoc] at e
      have q' : oc = p.2 := Option.some.inj e
      exact d w' (by rw [← q']; exact hocd)
theorem store_ok {M : Model} {A : Around} {E : Value → Shared → Prop} {i : Nat} {x : Str} {v : V} {u : Value} {Q : Unit → Shared → Prop} (I : Inv X pins σ H s) (hN : X.N.Nodup) (hi : X.N[i]? = some x) (hx : Loc X.env.scope x) (r : RelV v u)
    (h : ∀ s', Inv X pins (σ.set i (some v)) H s' → Q () s') (hf : X.fn x = true ∨ X.env.scope.names.lookup x = some .local := by first | exact .inl rfl | exact .inr rfl | assumption) : wpAny M A (storeName X.env x u) Q E s :=
  store_ok2 I hN hi hx r (fun s' I' _ => h s' I') hf
/-- behind a call or a block, the state as it is -/
theorem Inv.call' {s' : Shared} {ch : List Addr} (I : Inv X pins σ H s) (ho : s'.os = s.os) (u : Un (frs X.stack) ch H H' s.heap s'.heap) (hok : HOk X.prog X.w H' s'.heap) (hg : AllBare s'.gens)
    (hch : ∀ b ∈ ch, (b ∈ X.ex ∨ X.s₀.heap.objs.size ≤ b) ∧ b ≠ X.env.locals ∧ (∀ x c, X.env.cells.lookup x = some c → c ≠ b) ∧ ∀ p ∈ X.pn ++ pins, p.1 ≠ b) : Inv X pins σ H' s' := by
  obtain ⟨h', g', d', t', o'⟩ := s'
  have e : o' = s.os := ho
  subst e
  exact I.call (g' := g') (t' := t') (d' := d') u hok hg hch
end

/-! ### the judgements -/
/-- an exception: its class, its own dict's address (where it has one), the abstract heap behind it -/
abbrev XK := Value → Option Addr → Hp → Prop
abbrev St := List (Option V)
abbrev VK := V → Hp → Prop
/-- an expression's reading; a test's; an argument list's -/
abbrev TE := St → Hp → VK → Prop
abbrev TT := St → Hp → (Bool → Hp → Prop) → Prop
abbrev TA := St → Hp → (List V → Hp → Prop) → Prop
/-- what is wanted behind a statement -/
structure Ends where
  nx : St → Hp → Prop
  rt : VK
  bk : St → Hp → Prop := fun _ _ => False
  ct : St → Hp → Prop := fun _ _ => False
abbrev TS := Ends → St → Hp → Prop

def EP (X : Cx) (pins : List (Addr × Obj)) (σ : St) (Q : VK) (u : Value) (s' : Shared) : Prop := ∃ v H', Inv X pins σ H' s' ∧ RelV v u ∧ Q v H'
def TP (X : Cx) (pins : List (Addr × Obj)) (σ : St) (Q : Bool → Hp → Prop) (b : Bool) (s' : Shared) : Prop := ∃ H', Inv X pins σ H' s' ∧ Q b H'
def AP (X : Cx) (pins : List (Addr × Obj)) (σ : St) (Q : List V → Hp → Prop) (us : List Value) (s' : Shared) : Prop := ∃ vs H', Inv X pins σ H' s' ∧ Vals vs us ∧ Q vs H'
def SP (X : Cx) (pins : List (Addr × Obj)) (D : Ends) (f : Flow) (s' : Shared) : Prop :=
  match f with
  | .next => ∃ σ' H', Inv X pins σ' H' s' ∧ D.nx σ' H'
  | .brk => ∃ σ' H', Inv X pins σ' H' s' ∧ D.bk σ' H'
  | .cont => ∃ σ' H', Inv X pins σ' H' s' ∧ D.ct σ' H'
  | .ret u => ∃ v σ' H', Inv X pins σ' H' s' ∧ RelV v u ∧ D.rt v H'

def PE (X : Cx) (e : Expr) (t : TE) : Prop :=
  ∀ (pins : List (Addr × Obj)) (s : Shared) (σ : St) (H : Hp) (Q : VK), Inv X pins σ H s → t σ H Q → wpAny (model X.prog X.w) X.A (eval e X.env) (EP X pins σ Q) X.xe s
def PT (X : Cx) (e : Expr) (t : TT) : Prop :=
  ∀ (pins : List (Addr × Obj)) (s : Shared) (σ : St) (H : Hp) (Q : Bool → Hp → Prop), Inv X pins σ H s → t σ H Q → wpAny (model X.prog X.w) X.A (isTrue e X.env (eval e X.env)) (TP X pins σ Q) X.xe s
/-- a test whatever its 'whole' is (and, or) -/
def PW (X : Cx) (e : Expr) (t : TT) : Prop :=
  ∀ (whole : Sem Value) (pins : List (Addr × Obj)) (s : Shared) (σ : St) (H : Hp) (Q : Bool → Hp → Prop), Inv X pins σ H s → t σ H Q → wpAny (model X.prog X.w) X.A (isTrue e X.env whole) (TP X pins σ Q) X.xe s
theorem PW.pt {X : Cx} {e : Expr} {t : TT} (h : PW X e t) : PT X e t := h _
/-- an argument list (no star), from the left -/
def PA (X : Cx) (es : List Expr) (t : TA) : Prop :=
  ∀ (pos : Pos) (pins : List (Addr × Obj)) (s : Shared) (σ : St) (H : Hp) (Q : List V → Hp → Prop), Inv X pins σ H s → t σ H Q → wpAny (model X.prog X.w) X.A (spliced (backTo pos (starEach es X.env))) (AP X pins σ Q) X.xe s
def PS (X : Cx) (st : Stmt) (t : TS) : Prop :=
  ∀ (pins : List (Addr × Obj)) (s : Shared) (σ : St) (H : Hp) (D : Ends), Inv X pins σ H s → t D σ H → wpAny (model X.prog X.w) X.A (exec st X.env) (SP X pins D) X.xe s
def PSs (X : Cx) (st : List Stmt) (t : TS) : Prop :=
  ∀ (pins : List (Addr × Obj)) (s : Shared) (σ : St) (H : Hp) (D : Ends), Inv X pins σ H s → t D σ H → wpAny (model X.prog X.w) X.A (execs st X.env) (SP X pins D) X.xe s
/-- weaken the end -/
theorem thn {α : Type} {t : Sem α} {Q Q' : α → Shared → Prop} {M : Model} {A : Around} {E : Value → Shared → Prop} {s : Shared} (h : wpAny M A t Q E s) (hQ : ∀ a s, Q a s → Q' a s) : wpAny M A t Q' E s := wpAny_mono h hQ fun _ _ x => x
end L2

namespace L2
open PySem PySem.Spec PyProof.Rows
section
variable {X : Cx}

/-! ### names and constants -/
def tVar (i : Nat) : TE := fun σ H Q => ∃ v, σ[i]? = some (some v) ∧ Q v H
def tC (v : V) : TE := fun _ H Q => Q v H
theorem pe_var {i : Nat} {x : Str} {pos : Pos} (hN : X.N[i]? = some x) (hv : Vis X.env.scope x) (hd : (x == ("__debug__" : Str)) = false := by decide) (hcd : (x == ("__classdict__" : Str)) = false := by decide) : PE X (.Name x pos) (tVar i) := by
  intro pins s σ H Q I h
  obtain ⟨v, e, h⟩ := h
  obtain ⟨m, hn, hl⟩ := I.loc
  obtain ⟨u, r, l⟩ := hl i x v hN e hv
  have fin : EP X pins σ Q u s := ⟨v, H, I, r, h⟩
  rcases l with ⟨hk, hm⟩ | ⟨hk, c, hc, hcell⟩
  · exact wpAny_Name (wpAny_loadName_local I.ok.kind hk hn hm fin) hd
  · rcases hk with hk | hk
    · exact wpAny_Name (wpAny_loadName_cell I.ok.kind hk hc hcell fin) hd
    · exact wpAny_Name (wpAny_loadName_free I.ok.kind hk hc hcell fin hcd) hd
theorem pe_int {i j pos} : PE X (.Constant (.int i) j pos) (tC (.int i)) := fun _ _ _ H _ I h => wpAny_Constant_int ⟨.int i, H, I.tok _, ⟨_, rfl⟩, h⟩
theorem pe_bl {b j pos} : PE X (.Constant (.bool b) j pos) (tC (.bl b)) := fun _ _ _ H _ I h => Constant_bool ⟨.bl b, H, I, rfl, h⟩
theorem pe_non {j pos} : PE X (.Constant .none j pos) (tC .non) := fun _ _ _ H _ I h => Constant_none ⟨.non, H, I, rfl, h⟩
theorem pe_str {x j pos} : PE X (.Constant (.str x) j pos) (tC (.str x)) := fun _ _ _ H _ I h => Calls.Constant_str ⟨.str x, H, I.tok _, ⟨_, rfl⟩, h⟩

/-- a global name of the def -/
def Gl (X : Cx) (x : Str) : Prop := X.env.kindOf x = some .globalImplicit
theorem ld_glob {E : Value → Shared → Prop} {pins : List (Addr × Obj)} {s : Shared} {σ : St} {H : Hp} {x : Str} {u : Value} {pos : Pos} {Q : Value → Shared → Prop} (I : Inv X pins σ H s) (hg : Gl X x) (hm : X.mg x = some u) (h : Q u s)
    (hd : (x == ("__debug__" : Str)) = false := by decide) : wpAny (model X.prog X.w) X.A (eval (.Name x pos) X.env) Q E s :=
  Calls.Name_function_global I.ok.kind hg (Calls.loadGlobal_global (by rw [I.ok.glob]; exact I.mod.glob.keeps I.bk) hm h) hd
theorem ld_blt {E : Value → Shared → Prop} {pins : List (Addr × Obj)} {s : Shared} {σ : St} {H : Hp} {x : Str} {u : Value} {pos : Pos} {Q : Value → Shared → Prop} (I : Inv X pins σ H s) (hg : Gl X x) (hm : X.mg x = none) (hv : bootBuiltins x = some u) (h : Q u s)
    (hn : x ≠ "__name__" := by decide) (hd : (x == ("__debug__" : Str)) = false := by decide) : wpAny (model X.prog X.w) X.A (eval (.Name x pos) X.env) Q E s := by
  obtain ⟨mb, h1, h2⟩ := I.mod.blt
  exact Calls.Name_function_global I.ok.kind hg (Calls.loadGlobal_builtin (by rw [I.ok.glob]; exact I.mod.glob.keeps I.bk) hm (by rw [I.ok.blt]; exact h1.keeps I.bk) ((h2 x hn).trans hv) h) hd
/-- a module's constant, a class, a function, as a value -/
theorem pe_glob {x : Str} {v : V} {u : Value} {pos : Pos} (hg : Gl X x) (hm : X.mg x = some u) (r : RelV v u) (hd : (x == ("__debug__" : Str)) = false := by decide) : PE X (.Name x pos) (tC v) :=
  fun _ _ _ H _ I h => ld_glob I hg hm ⟨v, H, I, r, h⟩ hd
theorem pe_bltn {x : Str} {v : V} {u : Value} {pos : Pos} (hg : Gl X x) (hm : X.mg x = none) (hv : bootBuiltins x = some u) (r : RelV v u) (hn : x ≠ "__name__" := by decide) (hd : (x == ("__debug__" : Str)) = false := by decide) : PE X (.Name x pos) (tC v) :=
  fun _ _ _ H _ I h => ld_blt I hg hm hv ⟨v, H, I, r, h⟩ hn hd

/-! ### arithmetic -/
variable {a b : Expr} {ta tb : TE} {pos : Pos}
/-! ### comparisons -/
def PC (X : Cx) (op : CmpOp) (a b : Expr) (t : TE) : Prop :=
  ∀ (pins : List (Addr × Obj)) (s : Shared) (σ : St) (H : Hp) (Q : VK), Inv X pins σ H s → t σ H Q →
    wpAny (model X.prog X.w) X.A (eval a X.env) (fun v s₁ => wpAny (model X.prog X.w) X.A (eval b X.env) (fun u s₂ => wpAny (model X.prog X.w) X.A (compareOp op v u) (EP X pins σ Q) X.xe s₂) X.xe s₁) X.xe s
/-! ### and, or, not -/
variable {tA tB' : TT} {rest : List Expr}
def tAnd (t u : TT) : TT := fun σ H Q => t σ H fun c H1 => if c = true then u σ H1 Q else Q false H1
def tOr (t u : TT) : TT := fun σ H Q => t σ H fun c H1 => if c = true then Q true H1 else u σ H1 Q
def tNot (t : TT) : TT := fun σ H Q => t σ H fun c H1 => Q (!c) H1
theorem pw_and1 (ha : PT X a tA) : PW X (.BoolOp .And [a] pos) tA := by
  intro wh pins s σ H Q I h
  refine isTrue_and (thn (ha pins s σ H Q I h) fun c s1 e => ?_)
  cases c with
  | true => exact isTrue_and_nil e
  | false => exact e
theorem pw_or1 (ha : PT X a tA) : PW X (.BoolOp .Or [a] pos) tA := by
  intro wh pins s σ H Q I h
  refine isTrue_or (thn (ha pins s σ H Q I h) fun c s1 e => ?_)
  cases c with
  | false => exact isTrue_or_nil e
  | true => exact e
theorem pw_and (ha : PT X a tA) (hb : PW X (.BoolOp .And (b :: rest) pos) tB') : PW X (.BoolOp .And (a :: b :: rest) pos) (tAnd tA tB') := by
  intro wh pins s σ H Q I h
  refine isTrue_and (thn (ha pins s σ H _ I h) fun c s1 ⟨H1, I1, q1⟩ => ?_)
  cases c with
  | true => exact hb wh pins s1 σ H1 Q I1 q1
  | false => exact ⟨H1, I1, q1⟩
theorem pw_or (ha : PT X a tA) (hb : PW X (.BoolOp .Or (b :: rest) pos) tB') : PW X (.BoolOp .Or (a :: b :: rest) pos) (tOr tA tB') := by
  intro wh pins s σ H Q I h
  refine isTrue_or (thn (ha pins s σ H _ I h) fun c s1 ⟨H1, I1, q1⟩ => ?_)
  cases c with
  | true => exact ⟨H1, I1, q1⟩
  | false => exact hb wh pins s1 σ H1 Q I1 q1
theorem pt_not (ha : PT X a tA) : PT X (.UnaryOp .Not a pos) (tNot tA) := by
  intro pins s σ H Q I h
  exact isTrue_not (ha pins s σ H (fun c H1 => Q (!c) H1) I h)
/-- .. as values (bools) -/
def tAndV (ta tb : TE) : TE := fun σ H Q => ta σ H fun x H1 => ∃ c, x = .bl c ∧ if c = true then tb σ H1 Q else Q (.bl false) H1
theorem pe_one {op} {t : TE} (h : PE X a t) : PE X (.BoolOp op [a] pos) t := fun pins s σ H Q I hw => BoolOp_one (h pins s σ H Q I hw)
theorem pe_and (ha : PE X a ta) (hb : PE X (.BoolOp .And (b :: rest) pos) tb) : PE X (.BoolOp .And (a :: b :: rest) pos) (tAndV ta tb) := by
  intro pins s σ H Q I h
  refine BoolOp_and (thn (ha pins s σ H _ I h) fun v s1 ⟨x, H1, I1, r1, q1⟩ => ?_)
  obtain ⟨c, rfl, q1⟩ := q1
  cases r1
  refine wpAny_truthy_bool ?_
  cases c with
  | true => exact hb pins s1 σ H1 Q I1 q1
  | false => exact ⟨.bl false, H1, I1, rfl, q1⟩
/-- a if t else b -/
def tIf (t : TT) (ta tb : TE) : TE := fun σ H Q => t σ H fun c H1 => if c = true then ta σ H1 Q else tb σ H1 Q
theorem pe_ifExp {c : Expr} (hc : PT X c tA) (ha : PE X a ta) (hb : PE X b tb) : PE X (.IfExp c a b pos) (tIf tA ta tb) := by
  intro pins s σ H Q I h
  refine wpAny_IfExp (thn (hc pins s σ H _ I h) fun d s1 ⟨H1, I1, q1⟩ => ?_)
  cases d with
  | true => exact ha pins s1 σ H1 Q I1 q1
  | false => exact hb pins s1 σ H1 Q I1 q1
end
end L2

namespace L2
open PySem PySem.Spec PyProof.Rows

/-! ### a list, a tuple that is read: tracked, frozen, or an object of the module -/
def SqL (K : PySem.W.Frag) (H : Hp) (a : Addr) (xs : List V) : Prop :=
  Rd H a (.lst xs) ∨
    ∃ (o : Obj) (its : Array Value) (n : Nat), K.lookup a = some o ∧ o.cls = .type "list" ∧ o.dict = none ∧ o.data = .seq its n ∧ its.size ≤ sizeLine ∧ Vals xs its.toList
def SqT (K : PySem.W.Frag) (H : Hp) (a : Addr) (xs : List V) : Prop :=
  Rd H a (.tup xs) ∨
    ∃ (o : Obj) (its : Array Value) (n : Nat), K.lookup a = some o ∧ o.cls = .type "tuple" ∧ o.data = .seq its n ∧ its.size ≤ sizeLine ∧ Vals xs its.toList
def absV : Value → Option V
  | .none => some .non
  | .bool b => some (.bl b)
  | .int i _ => some (.int i)
  | .str x _ => some (.str x)
  | .bytes b _ => some (.byt b)
  | .float b _ => some (.flt b)
  | .ref a => some (.ref a)
  | .type n => some (.ty n)
  | _ => none
theorem RelV.abs {x : V} {u : Value} (r : RelV x u) : absV u = some x := by
  cases x with
  | non => cases r; rfl
  | bl _ => cases r; rfl
  | int _ => obtain ⟨t, rfl⟩ := r; rfl
  | str _ => obtain ⟨t, rfl⟩ := r; rfl
  | byt _ => obtain ⟨t, rfl⟩ := r; rfl
  | flt _ => obtain ⟨t, rfl⟩ := r; rfl
  | ref _ => cases r; rfl
  | ty _ => cases r; rfl
theorem RelV.inj {x y : V} {u : Value} (r : RelV x u) (q : RelV y u) : x = y := Option.some.inj (r.abs.symm.trans q.abs)
theorem Vals.inj : ∀ {xs ys : List V} {us : List Value}, Vals xs us → Vals ys us → xs = ys
  | _, _, _, .nil, .nil => rfl
  | _, _, _, .cons r t, .cons r' t' => by rw [r.inj r', Vals.inj t t']
section
variable {X : Cx} {pins : List (Addr × Obj)} {σ : St} {H : Hp} {s : Shared} {a : Addr} {xs ys : List V}
theorem SqL.of {K : PySem.W.Frag} (h : H a = some (.lst xs)) : SqL K H a xs := .inl (.inl h)
theorem SqT.of {K : PySem.W.Frag} (h : H a = some (.tup xs)) : SqT K H a xs := .inl (.inl h)
theorem Inv.list (I : Inv X pins σ H s) (h : SqL X.K H a xs) : ∃ its : List Value, Vals xs its ∧ PlainL s.heap a its.toArray ∧ xs.length ≤ sizeLine := by
  rcases h with h | ⟨o, its, n, hk, hc, hd, hs, hz, r⟩
  · obtain ⟨z, its, n, r, e⟩ := h.ok I.hok
    exact ⟨its, r, ⟨_, n, e, rfl, rfl, rfl⟩, z⟩
  · refine ⟨its.toList, r, ⟨o, n, I.kIn a o hk, hc, hd, by simpa using hs⟩, ?_⟩
    have e := r.length
    simp only [Array.length_toList] at e
    omega
theorem Inv.tuple (I : Inv X pins σ H s) (h : SqT X.K H a xs) : ∃ its : List Value, Vals xs its ∧ IsTup s.heap a its.toArray ∧ xs.length ≤ sizeLine := by
  rcases h with h | ⟨o, its, n, hk, hc, hs, hz, r⟩
  · obtain ⟨z, its, r, p⟩ := h.ok I.hok
    exact ⟨its, r, p, z⟩
  · refine ⟨its.toList, r, ⟨o, I.kIn a o hk, hc, n, by simpa using hs⟩, ?_⟩
    have e := r.length
    simp only [Array.length_toList] at e
    omega
theorem Inv.list_inj (I : Inv X pins σ H s) (h : SqL X.K H a xs) (h' : SqL X.K H a ys) : xs = ys := by
  obtain ⟨its, r, ⟨o, n, e, _, _, d⟩, _⟩ := I.list h
  obtain ⟨its', r', ⟨o', n', e', _, _, d'⟩, _⟩ := I.list h'
  rw [e] at e'; cases e'
  rw [d] at d'
  injection d' with d1 _
  have : its = its' := by simpa using congrArg Array.toList d1
  subst this
  exact r.inj r'
end

/-! ### another wish about exceptions -/
abbrev Cx.wish (X : Cx) (E : Value → Shared → Prop) : Cx := { X with xe := E }
/-- no exception leaves -/
abbrev Cx.nox (X : Cx) : Cx := X.wish fun _ _ => False
theorem Cx.Ok.wish {X : Cx} (ok : X.Ok) (E : Value → Shared → Prop) : (X.wish E).Ok :=
  ⟨ok.mod, ok.kind, ok.glob, ok.blt, ok.above, ok.inj, ok.has, ok.cab, ok.hd, ok.frames, ok.stk, ok.exf, ok.bs, ok.bsz, ok.noex, ok.exfs, ok.funs, ok.frf⟩
theorem Cx.Ok.unwish {X : Cx} {E : Value → Shared → Prop} (ok : (X.wish E).Ok) : X.Ok :=
  ⟨ok.mod, ok.kind, ok.glob, ok.blt, ok.above, ok.inj, ok.has, ok.cab, ok.hd, ok.frames, ok.stk, ok.exf, ok.bs, ok.bsz, ok.noex, ok.exfs, ok.funs, ok.frf⟩
section
variable {X : Cx} {pins : List (Addr × Obj)} {σ : St} {H : Hp} {s : Shared} {E : Value → Shared → Prop}
theorem Inv.wish (I : Inv X pins σ H s) (E : Value → Shared → Prop) : Inv (X.wish E) pins σ H s := ⟨I.ok.wish E, I.os, I.bare, I.base, I.loc, I.cell, I.free, I.freeC, I.pin, I.hok, I.len⟩
theorem Inv.unwish (I : Inv (X.wish E) pins σ H s) : Inv X pins σ H s := ⟨I.ok.unwish, I.os, I.bare, I.base, I.loc, I.cell, I.free, I.freeC, I.pin, I.hok, I.len⟩
theorem SP.unwish {D : Ends} {f : Flow} {s' : Shared} (h : SP (X.wish E) pins D f s') : SP X pins D f s' := by
  cases f with
  | next => obtain ⟨σ', H', I, q⟩ := h; exact ⟨σ', H', I.unwish, q⟩
  | brk => obtain ⟨σ', H', I, q⟩ := h; exact ⟨σ', H', I.unwish, q⟩
  | cont => obtain ⟨σ', H', I, q⟩ := h; exact ⟨σ', H', I.unwish, q⟩
  | ret u => obtain ⟨v, σ', H', I, r, q⟩ := h; exact ⟨v, σ', H', I.unwish, r, q⟩
theorem PE.nox {e : Expr} {t : TE} (h : PE X.nox e t) : PE X e t := fun pins s σ H Q I hw =>
  wpAny_mono (h pins s σ H Q (I.wish _) hw) (fun _ _ ⟨v, H', I', r, q⟩ => ⟨v, H', I'.unwish, r, q⟩) fun _ _ z => False.elim z
theorem PT.nox {e : Expr} {t : TT} (h : PT X.nox e t) : PT X e t := fun pins s σ H Q I hw =>
  wpAny_mono (h pins s σ H Q (I.wish _) hw) (fun _ _ ⟨H', I', q⟩ => ⟨H', I'.unwish, q⟩) fun _ _ z => False.elim z
theorem PSs.nox {st : List Stmt} {t : TS} (h : PSs X.nox st t) : PSs X st t := fun pins s σ H D I hw =>
  wpAny_mono (h pins s σ H D (I.wish _) hw) (fun _ _ q => q.unwish) fun _ _ z => False.elim z
end

/-! ### blocks and small statements -/
section
variable {X : Cx} {st : Stmt} {rest : List Stmt} {t u : TS} {e : Expr} {te : TE} {pos : Pos}
def tNext : TS := fun D σ H => D.nx σ H
def tSeq (t u : TS) : TS := fun D σ H => t { D with nx := u D } σ H
theorem pss_nil : PSs X [] tNext := fun _ _ σ H _ I h => wpAny_execs_nil ⟨σ, H, I, h⟩
theorem pss_cons (h1 : PS X st t) (h2 : PSs X rest u) : PSs X (st :: rest) (tSeq t u) := by
  intro pins s σ H D I h
  refine wpAny_execs_cons (thn (h1 pins s σ H { D with nx := u D } I h) fun f s1 q => ?_)
  cases f with
  | next =>
    obtain ⟨σ', H', I', q⟩ := q
    exact h2 pins s1 σ' H' D I' q
  | ret v => exact q
  | brk => exact q
  | cont => exact q
theorem pss_one (h1 : PS X st t) : PSs X [st] t := by
  intro pins s σ H D I h
  refine wpAny_execs_cons (thn (h1 pins s σ H D I h) fun f s1 q => ?_)
  cases f with
  | next => exact wpAny_execs_nil q
  | ret v => exact q
  | brk => exact q
  | cont => exact q
/-- in a def's body nothing is shown -/
theorem Inv.quiet {pins : List (Addr × Obj)} {σ : St} {H : Hp} {s : Shared} (I : Inv X pins σ H s) : interactive X.env = false := by simp [interactive, I.ok.kind]
/-- an expression whose value is dropped -/
def tDrop (te : TE) : TS := fun D σ H => te σ H fun _ H1 => D.nx σ H1
theorem ps_expr (he : PE X e te) (hs : swapsWith e none pos.line X.env = pure false := by rfl) : PS X (.Expr e pos) (tDrop te) := by
  intro pins s σ H D I h
  exact wpAny_Expr_any (thn (he pins s σ H _ I h) fun v s1 ⟨x, H1, I1, r1, q1⟩ => ⟨σ, H1, I1, q1⟩) I.quiet hs
def tRet (te : TE) : TS := fun D σ H => te σ H D.rt
theorem ps_ret (he : PE X e te) : PS X (.Return (some e) pos) (tRet te) := by
  intro pins s σ H D I h
  exact wpAny_Return_some (thn (he pins s σ H _ I h) fun v s1 ⟨x, H1, I1, r1, q1⟩ => ⟨x, σ, H1, I1, r1, q1⟩)
def tIfS (c : TT) (t u : TS) : TS := fun D σ H => c σ H fun b H1 => if b = true then t D σ H1 else u D σ H1
theorem ps_if {c : Expr} {a b : List Stmt} {tc : TT} (hc : PT X c tc) (ha : PSs X a t) (hb : PSs X b u) : PS X (.If c a b pos) (tIfS tc t u) := by
  intro pins s σ H D I h
  refine wpAny_If (thn (hc pins s σ H _ I h) fun d s1 ⟨H1, I1, q1⟩ => ?_)
  cases d with
  | true => exact ha pins s1 σ H1 D I1 q1
  | false => exact hb pins s1 σ H1 D I1 q1
/-- code that the proof never comes to -/
def tNever : TS := fun _ _ _ => False
theorem ps_never : PS X st tNever := fun _ _ _ _ _ _ h => h.elim
end

/-! ### targets -/
abbrev TG := V → St → Hp → (St → Hp → Prop) → Prop
abbrev TGs := List V → St → Hp → (St → Hp → Prop) → Prop
def PG (X : Cx) (target : Expr) (t : TG) : Prop :=
  ∀ (pins : List (Addr × Obj)) (s : Shared) (σ : St) (H : Hp) (v : V) (u : Value) (Q : St → Hp → Prop), Inv X pins σ H s → RelV v u → t v σ H Q →
    wpAny (model X.prog X.w) X.A (assign target X.env u) (fun _ s' => ∃ σ' H', Inv X pins σ' H' s' ∧ Q σ' H') X.xe s
/-- several targets, one after another -/
def PGs (X : Cx) (ts : List Expr) (t : TGs) : Prop :=
  ∀ (pins : List (Addr × Obj)) (s : Shared) (σ : St) (H : Hp) (vs : List V) (us : List Value) (Q : St → Hp → Prop), Inv X pins σ H s → Vals vs us → t vs σ H Q →
    wpAny (model X.prog X.w) X.A (assignInOrder ((assignEach ts X.env).map (·.2)) us) (fun _ s' => ∃ σ' H', Inv X pins σ' H' s' ∧ Q σ' H') X.xe s
/-- o[i] = v, by values -/
abbrev TSet := V → V → V → Hp → (Hp → Prop) → Prop
def PSet (X : Cx) (t : TSet) : Prop :=
  ∀ (pins : List (Addr × Obj)) (s : Shared) (σ : St) (H : Hp) (o i v : V) (ov iv u : Value) (Q : Hp → Prop), Inv X pins σ H s → RelV o ov → RelV i iv → RelV v u → t o i v H Q →
    wpAny (model X.prog X.w) X.A (setItem ov iv u) (fun _ s' => ∃ H', Inv X pins σ H' s' ∧ Q H') X.xe s
section
variable {X : Cx} {pos : Pos}
def gName (i : Nat) : TG := fun v σ H Q => Q (σ.set i (some v)) H
theorem pg_name {i : Nat} {x : Str} (hN : X.N.Nodup) (hi : X.N[i]? = some x) (hx : Loc X.env.scope x) (hf : X.fn x = true ∨ X.env.scope.names.lookup x = some .local := by first | exact .inl rfl | exact .inr rfl | assumption) : PG X (.Name x pos) (gName i) := by
  intro pins s σ H v u Q I r h
  exact wpAny_assign_Name (store_ok I hN hi hx r (fun s' I' => ⟨_, H, I', h⟩) hf)
def gNil : TGs := fun vs σ H Q => vs = [] ∧ Q σ H
def gCons (t : TG) (u : TGs) : TGs := fun vs σ H Q => ∃ v r, vs = v :: r ∧ t v σ H fun σ' H' => u r σ' H' Q
theorem pgs_nil : PGs X [] gNil := by
  intro pins s σ H vs us Q I r h
  obtain ⟨e, h⟩ := h
  subst e
  cases r
  exact assignInOrder_nil ⟨σ, H, I, h⟩
theorem pgs_cons {e : Expr} {es : List Expr} {t : TG} {u : TGs} (h1 : PG X e t) (h2 : PGs X es u)
    (hs : (assignEach (e :: es) X.env).map (·.2) = assign e X.env :: (assignEach es X.env).map (·.2) := by rfl) : PGs X (e :: es) (gCons t u) := by
  intro pins s σ H vs us Q I r h
  obtain ⟨v, vr, e1, h⟩ := h
  subst e1
  cases r with
  | cons r rr =>
    rw [hs]
    refine assignInOrder_cons (thn (h1 pins s σ H _ _ _ I r h) fun _ s1 ⟨σ1, H1, I1, q1⟩ => ?_)
    exact h2 pins s1 σ1 H1 _ _ Q I1 rr q1
/-- (a, b, ..) = a tuple of that length -/
def gTup (K : PySem.W.Frag) (n : Nat) (t : TGs) : TG := fun v σ H Q => ∃ a xs, v = .ref a ∧ SqT K H a xs ∧ xs.length = n ∧ t xs σ H Q
theorem pg_tup {es : List Expr} {k : Nat} {t : TGs} {n : Nat} (hc : X.calm = true) (h : PGs X es t)
    (hn : (assignEach es X.env).length = n := by rfl) (hst : (assignEach es X.env).findIdx? (·.1) = none := by rfl) : PG X (.Tuple es k pos) (gTup X.K n t) := by
  intro pins s σ H v u Q I r hw
  obtain ⟨a, xs, e1, hq, hl, hw⟩ := hw
  subst e1
  cases r
  obtain ⟨its, rv, ht, hz⟩ := I.tuple hq
  refine assign_Tuple_tuple (I.ok.hd hc) ht (by simp [hn, ← hl, rv.length]) hst fun h' hx => ?_
  have I1 : Inv X pins σ H { s with heap := h' } := I.kept (t' := s.toks) fun b o e => hx b o (Nat.ne_of_lt (Heap.lt_size e)) e
  exact h pins _ σ H xs _ Q I1 (by simpa using rv) hw
/-- o[i] = .. -/
def gSub (to ti : TE) (t : TSet) : TG := fun v σ H Q => to σ H fun o H1 => ti σ H1 fun i H2 => t o i v H2 fun H3 => Q σ H3
theorem pg_sub {o i : Expr} {to ti : TE} {t : TSet} (ho : PE X o to) (hi : PE X i ti) (hs : PSet X t)
    (ha : ∀ v, assign (.Subscript o i pos) X.env v = (do
      let ov ← holding [v] (eval o X.env)
      let iv ← holding [v, ov] (eval i X.env)
      standAt pos
      holding [v, ov, iv] (setItem ov iv v)
      release [v, ov, iv] []) := by intro _; rfl) : PG X (.Subscript o i pos) (gSub to ti t) := by
  intro pins s σ H v u Q I r h
  rw [ha]
  refine wpAny_bind (wpAny_holding (thn (ho pins s σ H _ I h) fun ov s1 ⟨x, H1, I1, r1, q1⟩ => ?_))
  refine wpAny_bind (wpAny_holding (thn (hi pins s1 σ H1 _ I1 q1) fun iv s2 ⟨y, H2, I2, r2, q2⟩ => ?_))
  refine wpAny_bind (wpAny_standAt (wpAny_bind (wpAny_holding (thn (hs pins s2 σ H2 x y v ov iv u _ I2 r1 r2 r q2) fun _ s3 ⟨H3, I3, q3⟩ => ?_))))
  exact wpAny_release ⟨σ, H3, I3, q3⟩
/-- target = value -/
def tAsg (te : TE) (g : TG) : TS := fun D σ H => te σ H fun x H1 => g x σ H1 D.nx
theorem ps_asg {tg e : Expr} {te : TE} {g : TG} (he : PE X e te) (hg : PG X tg g) (hs : swapsWithSole [tg] e pos.line X.env = pure false := by rfl) (hw : swappedStores [tg] e X.env = pure none := by rfl)
    (h1 : (assignEach [tg] X.env).map (·.2) = [assign tg X.env] := by rfl) : PS X (.Assign [tg] e pos) (tAsg te g) := by
  intro pins s σ H D I h
  refine wpAny_Assign_stores (thn (he pins s σ H _ I h) fun v s1 ⟨x, H1, I1, r1, q1⟩ => ?_) hs hw
  rw [h1]
  exact thn (hg pins s1 σ H1 x v _ I1 r1 q1) fun _ s2 q => q
/-- name = value -/
theorem ps_set {i : Nat} {x : Str} {e : Expr} {te : TE} {pos' : Pos} (hN : X.N.Nodup) (hi : X.N[i]? = some x) (hx : Loc X.env.scope x) (he : PE X e te) (hs : swapsWith e (some (.Name x pos')) pos.line X.env = pure false := by rfl) (hf : X.fn x = true ∨ X.env.scope.names.lookup x = some .local := by first | exact .inl rfl | exact .inr rfl | assumption) :
    PS X (.Assign [.Name x pos'] e pos) (tAsg te (gName i)) := by
  intro pins s σ H D I h
  refine wpAny_Assign_Name (thn (he pins s σ H _ I h) fun v s1 ⟨y, H1, I1, r1, q1⟩ => ?_) hs
  exact store_ok I1 hN hi hx r1 (fun s2 I2 => ⟨_, H1, I2, q1⟩) hf
end

/-! ### while -/
section
variable {X : Cx} {pos : Pos}
/-- the invariant W with its measure -/
def tWhile (c : TT) (tb : TS) : TS := fun D σ H => ∃ W : Nat → St → Hp → Prop, (∃ m, W m σ H) ∧ ∀ m σ H, W m σ H →
  c σ H fun b H1 => if b = true then ∃ N : St → Hp → Prop, (∀ σ' H', N σ' H' → ∃ m', m' < m ∧ W m' σ' H') ∧ tb { D with nx := N, ct := N, bk := D.nx } σ H1 else D.nx σ H1
theorem ps_while {c : Expr} {body : List Stmt} {tc : TT} {tb : TS} (hp : PassesOwn (model X.prog X.w) X.A X.env X.xe) (hc : PT X c tc) (hb : PSs X body tb) : PS X (.While c body [] pos) (tWhile tc tb) := by
  intro pins s σ H D I h
  obtain ⟨W, ⟨m0, w0⟩, turn⟩ := h
  refine wpAny_While (codeAny_whileLoop (fun n s' => ∃ σ' H', Inv X pins σ' H' s' ∧ W n σ' H') ?_ m0 ⟨σ, H, I, w0⟩)
  rintro n s1 ⟨σ1, H1, I1, w1⟩
  refine wpAny_passesOwn hp (thn (hc pins s1 σ1 H1 _ I1 (turn n σ1 H1 w1)) fun b s2 ⟨H2, I2, q2⟩ => ?_)
  cases b with
  | true =>
    obtain ⟨N, hN, q2⟩ := q2
    rw [if_pos rfl]
    refine wpAny_passesOwn hp (thn (hb pins s2 σ1 H2 _ I2 q2) fun f s3 q3 => ?_)
    cases f with
    | next =>
      obtain ⟨σ3, H3, I3, n3⟩ := q3
      obtain ⟨m', hm, w3⟩ := hN σ3 H3 n3
      exact ⟨m', hm, σ3, H3, I3, w3⟩
    | cont =>
      obtain ⟨σ3, H3, I3, n3⟩ := q3
      obtain ⟨m', hm, w3⟩ := hN σ3 H3 n3
      exact ⟨m', hm, σ3, H3, I3, w3⟩
    | brk => exact q3
    | ret v => exact q3
  | false =>
    rw [if_neg Bool.false_ne_true]
    exact wpAny_execs_nil ⟨σ1, H2, I2, q2⟩
end

/-! ### what a loop or a comprehension walks -/
/-- at turn i: it yields x (the heap may grow), or it stops -/
structure It where
  go : Nat → Hp → Prop
  yld : Nat → Hp → V → Hp → Prop
  stop : Nat → Hp → Prop
/-- the iterator's own objects may turn: they are not the frame's, not pinned, younger than the entry (or a comprehension's own) -/
def FpOk (X : Cx) (pins : List (Addr × Obj)) (H : Hp) (b : Addr) : Prop :=
  H b = none ∧ b ≠ X.env.locals ∧ b ∉ X.fs ∧ (b ∈ X.ex ∨ X.s₀.heap.objs.size ≤ b) ∧ (∀ x c, X.env.cells.lookup x = some c → c ≠ b) ∧ ∀ p ∈ X.pn ++ pins, p.1 ≠ b
theorem Inv.fpOk {X : Cx} {pins : List (Addr × Obj)} {σ : St} {H H' : Hp} {s : Shared} {b : Addr} (I : Inv X pins σ H s) (hb : s.heap.objs.size ≤ b) (hn : H' b = none) : FpOk X pins H' b := by
  refine ⟨hn, Nat.ne_of_gt (Nat.lt_of_lt_of_le I.lt hb), I.nofs hb, .inr (Nat.le_trans I.sz hb), fun x c e z => ?_, fun p hp z => ?_⟩
  · obtain ⟨v, q⟩ := I.cell x c e
    exact absurd (Nat.lt_of_lt_of_le q.lt (by rw [z]; exact hb)) (Nat.lt_irrefl _)
  · exact absurd (Nat.lt_of_lt_of_le (Heap.lt_size (I.pin p hp).1) (by rw [z]; exact hb)) (Nat.lt_irrefl _)
structure Turn (P : Program) (w : World) (K : PySem.W.Frag) (tg : Expr) (J : It) (fp : List Addr) (it : Addr) (tn : Nat → Heap → Prop) : Prop where
  mem : it ∈ fp
  obj : ∀ i h, tn i h → ∀ b ∈ fp, ∃ o, h.get? b = some o ∧ ∀ v, o.data ≠ .cell v
  keep : ∀ i h h', tn i h → (∀ b ∈ fp, ∀ o, h.get? b = some o → h'.get? b = some o) → tn i h'
  item : ∀ (X : Cx), X.prog = P → X.w = w → X.K = K → X.calm = true → ∀ (i : Nat) (pins : List (Addr × Obj)) (s : Shared) (σ : St) (H : Hp) (E : Value → Shared → Prop), Inv X pins σ H s → (∀ b ∈ fp, FpOk X pins H b) → tn i s.heap → J.go i H →
    wpAny (model P w) X.A (pyNext (.ref it)) (fun r s1 => ∃ u, r = some u ∧
      wpAny (model P w) X.A (letOwnedTupleGo tg (.ref it) u) (fun _ s2 => ∃ x H', Inv X pins σ H' s2 ∧ RelV x u ∧ J.yld i H x H' ∧ tn (i + 1) s2.heap ∧ ∀ b ∈ fp, H' b = none) E s1) E s
  done : ∀ (X : Cx), X.prog = P → X.w = w → X.K = K → X.calm = true → ∀ (i : Nat) (pins : List (Addr × Obj)) (s : Shared) (σ : St) (H : Hp) (E : Value → Shared → Prop), Inv X pins σ H s → (∀ b ∈ fp, FpOk X pins H b) → tn i s.heap → J.stop i H →
    wpAny (model P w) X.A (pyNext (.ref it)) (fun r s1 => r = none ∧ Inv X pins σ H s1) E s
  self : ∀ (A : Around) (i : Nat) (s : Shared) (Q : Value → Shared → Prop) (E : Value → Shared → Prop), tn i s.heap → Q (.ref it) s → wpAny (model P w) A (pyIter (.ref it)) Q E s
abbrev TI := St → Hp → (It → Hp → Prop) → Prop
/-- an iterator has come -/
def PIE (X : Cx) (pins : List (Addr × Obj)) (σ : St) (tg : Expr) (R : It → Hp → Prop) (itv : Value) (s2 : Shared) : Prop :=
  ∃ (it : Addr) (fp : List Addr) (tn : Nat → Heap → Prop) (J : It) (H' : Hp), itv = .ref it ∧ Inv X pins σ H' s2 ∧ Turn X.prog X.w X.K tg J fp it tn ∧ tn 0 s2.heap ∧ (∀ b ∈ fp, FpOk X pins H' b) ∧ R J H'
def PI (X : Cx) (tg iter : Expr) (wi : TI) : Prop :=
  ∀ (pins : List (Addr × Obj)) (s : Shared) (σ : St) (H : Hp) (R : It → Hp → Prop), Inv X pins σ H s → wi σ H R →
    wpAny (model X.prog X.w) X.A (eval iter X.env) (fun v s1 => wpAny (model X.prog X.w) X.A (pyIter v) (PIE X pins σ tg R) X.xe s1) X.xe s

/-- the step ahead of the store is nothing for an iterator that keeps no tuple -/
theorem go_of {M : Model} {A : Around} {E : Value → Shared → Prop} {s : Shared} {tg : Expr} {it : Addr} {u : Value} {o : Obj} {n : String} {vs : Array Value} {Q : Unit → Shared → Prop} (ho : s.heap.get? it = some o) (hc : o.cls = .type n) (hd : o.data = .fields vs)
    (hn : ["enumerate", "zip", "dict_itemiterator", "dict_reverseitemiterator", "odict_iterator", "itertools.zip_longest", "itertools.pairwise"].contains n = false) (hQ : Q () s) : wpAny M A (letOwnedTupleGo tg (.ref it) u) Q E s := by
  unfold letOwnedTupleGo
  cases tg <;> first
    | exact wpAny_pure hQ
    | (cases u <;> first
        | exact wpAny_pure hQ
        | (refine wpAny_bind (wpAny_load ho ?_)
           rw [hc, hd]
           show wpAny M A (if (["enumerate", "zip", "dict_itemiterator", "dict_reverseitemiterator", "odict_iterator", "itertools.zip_longest", "itertools.pairwise"].contains n && vs[0]? == some (rawInt _)) = true then _ else _) Q E s
           rw [if_neg (by intro h; rw [hn, Bool.false_and] at h; cases h)]
           exact wpAny_pure hQ))

/-- the list at a, as it stands at each turn (a loop may append to it) -/
def Itl (K : PySem.W.Frag) (a : Addr) : It :=
  ⟨fun i H => ∃ xs x, SqL K H a xs ∧ xs[i]? = some x, fun i H x H' => H' = H ∧ ∀ xs, SqL K H a xs → xs[i]? = some x, fun i H => ∃ xs, SqL K H a xs ∧ xs.length ≤ i⟩
/-- lo, lo + 1, .. (n of them) -/
def Itr (lo : Int) (n : Nat) : It := ⟨fun i _ => i < n, fun i H x H' => H' = H ∧ x = .int (lo + i), fun i _ => n ≤ i⟩
theorem turn_list {P : Program} {w : World} {K : PySem.W.Frag} {tg : Expr} (a it : Addr) : Turn P w K tg (Itl K a) [it] it (fun i h => h.IsListIter it a i) where
  mem := by simp
  obj := fun i h st b hb => by
    have e : b = it := by simpa using hb
    subst e
    obtain ⟨o, e, c, d⟩ := st
    exact ⟨o, e, fun v z => by rw [d] at z; cases z⟩
  keep := fun i h h' st k => st.at fun o e => k it (by simp) o e
  item := by
    intro X hP hw hK hc i pins s σ H E I hf st hg
    subst hP hw hK
    obtain ⟨xs, x, hq, hx⟩ := hg
    obtain ⟨its, rv, p, hz⟩ := I.list hq
    obtain ⟨u, hu, ru⟩ := rv.get hx
    obtain ⟨f0, f1, f2, f3, f4, f5⟩ := hf it (by simp)
    refine wpAny_pyNext_list_item st p.isList (x := u) (by simpa using hu) fun h' st' sb => ?_
    have I1 : Inv X pins σ H { s with heap := h' } := I.turned (t' := s.toks) (fun b o hb e => (sb.2 b hb).trans e) f0 f1 f3 f4 f5
    obtain ⟨o, e, c, d⟩ := id st'
    exact ⟨u, rfl, go_of (s := { s with heap := h' }) e c d (by decide) ⟨x, H, I1, ru, ⟨rfl, fun ys hy => by rw [I.list_inj hy hq]; exact hx⟩, st', fun b hb => (hf b hb).1⟩⟩
  done := by
    intro X hP hw hK hc i pins s σ H E I hf st hg
    subst hP hw hK
    obtain ⟨xs, hq, hx⟩ := hg
    obtain ⟨its, rv, p, hz⟩ := I.list hq
    obtain ⟨f0, f1, f2, f3, f4, f5⟩ := hf it (by simp)
    have hl := rv.length
    exact wpAny_pyNext_list_end (I.ok.hd hc) st p.isList (by simp; omega) fun h' eb => ⟨rfl, I.turned (t' := s.toks) (fun b o hb e => eb b o hb e) f0 f1 f3 f4 f5⟩
  self := fun _ _ _ _ _ st h => wpAny_pyIter_listiter st h
theorem turn_range {P : Program} {w : World} {K : PySem.W.Frag} {tg : Expr} (it : Addr) (lo : Int) (n : Nat) : Turn P w K tg (Itr lo n) [it] it (fun i h => IsRangeIter h it (lo + (i : Nat) * 1) ((n : Int) - (i : Nat)) 1) where
  mem := by simp
  obj := fun i h st b hb => by
    have e : b = it := by simpa using hb
    subst e
    exact ⟨_, st, fun v z => by
      have z' : Data.fields _ = Data.cell v := z
      cases z'⟩
  keep := fun i h h' st k => k it (by simp) _ st
  item := by
    intro X hP hw hK hc i pins s σ H E I hf st hg
    subst hP hw hK
    obtain ⟨f0, f1, f2, f3, f4, f5⟩ := hf it (by simp)
    have W := Walks.range (prog := X.prog) (w := X.w) (I.ok.hd hc) it lo 1 n
    refine W.item i s _ _ hg st fun v h' tk hv st' kk => ?_
    obtain ⟨t, rfl⟩ := hv
    have I1 : Inv X pins σ H { s with heap := h', toks := tk } := I.turned (fun b o hb e => kk b o (by simpa using hb) e) f0 f1 f3 f4 f5
    refine ⟨_, rfl, go_of (s := { s with heap := h', toks := tk }) (n := "range_iterator") st' rfl rfl (by decide) ⟨.int (lo + i), H, I1, ⟨t, ?_⟩, ⟨rfl, rfl⟩, st', fun b hb => (hf b hb).1⟩⟩
    rw [Int.mul_one]
  done := by
    intro X hP hw hK hc i pins s σ H E I hf st hg
    subst hP hw hK
    obtain ⟨f0, f1, f2, f3, f4, f5⟩ := hf it (by simp)
    exact wpAny_pyNext_range_end (I.ok.hd hc) st (by have : n ≤ i := hg; omega) fun h' eb => ⟨rfl, I.turned (t' := s.toks) (fun b o hb e => eb b o hb e) f0 f1 f3 f4 f5⟩
  self := fun _ _ _ _ _ st h => wpAny_pyIter_rangeiter st h
end L2

namespace L2
open PySem PySem.Spec PyProof.Rows
section
variable {X : Cx} {tg : Expr}
def iList (K : PySem.W.Frag) (tl : TE) : TI := fun σ H R => tl σ H fun x H1 => ∃ a, x = .ref a ∧ (∃ xs, SqL K H1 a xs) ∧ R (Itl K a) H1
theorem pi_list {l : Expr} {tl : TE} (hl : PE X l tl) : PI X tg l (iList X.K tl) := by
  intro pins s σ H R I h
  refine thn (hl pins s σ H _ I h) fun v s1 ⟨x, H1, I1, r1, q1⟩ => ?_
  obtain ⟨a, e, ⟨xs, hq⟩, q⟩ := q1
  subst e
  cases r1
  obtain ⟨its, rv, p, hz⟩ := I1.list hq
  refine wpAny_pyIter_list p.isList ?_
  refine ⟨s1.heap.objs.size, [s1.heap.objs.size], _, _, H1, rfl, I1.kept (t' := s1.toks) fun b o e => Heap.get?_push_of_some _ e, turn_list a _, ⟨_, Heap.get?_push_size _ rfl, rfl, rfl⟩, fun b hb => ?_, q⟩
  have e : b = s1.heap.objs.size := by simpa using hb
  subst e
  exact I1.fpOk (Nat.le_refl _) (I1.hok.fresh (Nat.le_refl _))
/-- a range object just made, walked -/
theorem range_it {pins : List (Addr × Obj)} {σ : St} {H : Hp} {s : Shared} {R : It → Hp → Prop} {E : Value → Shared → Prop} {lo hi : Int} {t u v : Tok} {tk : Nat} (I : Inv X pins σ H s) (h1 : -(2 ^ 62) ≤ lo) (h2 : lo < 2 ^ 62) (h3 : -(2 ^ 62) ≤ hi) (h4 : hi < 2 ^ 62)
    (q : R (Itr lo (hi - lo).toNat) H) : wpAny (model X.prog X.w) X.A (pyIter (.ref s.heap.objs.size)) (PIE X pins σ tg R) E { s with heap := s.heap.push { cls := .type "range", data := .fields #[.int lo t, .int hi u, .int 1 v] }, toks := tk } := by
  refine wpAny_pyIter_range (IsRange.new ..) (small_one h1 h2 h3 h4) ?_
  have I1 : Inv X pins σ H { s with heap := s.heap.push { cls := .type "range", data := .fields #[.int lo t, .int hi u, .int 1 v] }, toks := tk } := I.kept fun b o e => Heap.get?_push_of_some _ e
  refine ⟨(s.heap.push { cls := .type "range", data := .fields #[.int lo t, .int hi u, .int 1 v] }).objs.size, [(s.heap.push { cls := .type "range", data := .fields #[.int lo t, .int hi u, .int 1 v] }).objs.size], _, _, H, rfl,
    I1.kept (t' := tk) fun b o e => Heap.get?_push_of_some _ e, turn_range _ lo (hi - lo).toNat, ?_, fun b hb => ?_, q⟩
  · have e1 : lo + ((0 : Nat) : Int) * 1 = lo := by simp
    have e2 : (((hi - lo).toNat : Nat) : Int) - ((0 : Nat) : Int) = Builtin.Range.rangeSize lo hi 1 := by rw [rangeSize_one]; split <;> omega
    show IsRangeIter _ _ (lo + ((0 : Nat) : Int) * 1) ((((hi - lo).toNat : Nat) : Int) - ((0 : Nat) : Int)) 1
    rw [e1, e2]
    exact Heap.get?_push_size _ rfl
  · have e : b = (s.heap.push { cls := .type "range", data := .fields #[.int lo t, .int hi u, .int 1 v] }).objs.size := by simpa using hb
    subst e
    exact I1.fpOk (Nat.le_refl _) (I1.hok.fresh (Nat.le_refl _))
def iRng1 (ta : TA) : TI := fun σ H R => ta σ H fun vs H1 => ∃ j : Int, vs = [.int j] ∧ -(2 ^ 62) ≤ j ∧ j < 2 ^ 62 ∧ R (Itr 0 j.toNat) H1
theorem pi_range1 {a : Expr} {ta : TA} {p pos : Pos} (hg : Gl X "range") (hm : X.mg "range" = none) (ha : PA X [a] ta) (hs : starEach [a] X.env = [(false, eval a X.env)] := by rfl) : PI X tg (.Call (.Name "range" p) [a] [] pos) (iRng1 ta) := by
  intro pins s σ H R I h
  refine Call_ (ld_blt I hg hm boot_range (PyProof.Rows.callWith_type1 (thn (ha pos pins s σ H _ I h) fun us s1 ⟨vs, H1, I1, r1, q1⟩ => ?_) hs rfl))
  obtain ⟨j, e, q1, q2, q⟩ := q1
  subst e
  cases r1 with
  | cons r rr =>
    cases rr
    obtain ⟨t, rfl⟩ := r
    exact call_range_1 (range_it I1 (by omega) (by omega) q1 q2 (by simpa using q))
/-! ### for -/
/-- W: the invariant by the turn and a measure; N: what the body is to reach -/
def tFor (wi : TI) (g : TG) (tb : TS) : TS := fun D σ H => wi σ H fun J H1 => ∃ W : Nat → Nat → St → Hp → Prop, (∃ m, W 0 m σ H1) ∧ ∀ i m σ H, W i m σ H →
  (J.stop i H ∧ D.nx σ H) ∨ (J.go i H ∧ ∃ N : St → Hp → Prop, (∀ σ' H', N σ' H' → ∃ m', m' < m ∧ W (i + 1) m' σ' H') ∧ ∀ x H', J.yld i H x H' → g x σ H' fun σ2 H2 => tb { D with nx := N, ct := N, bk := D.nx } σ2 H2)
/-- the records at fp as they stand -/
def pinsAt (fp : List Addr) (h : Heap) : List (Addr × Obj) := fp.filterMap fun b => (h.get? b).map fun o => (b, o)
theorem mem_pinsAt {fp : List Addr} {h : Heap} {b : Addr} {o : Obj} (hb : b ∈ fp) (e : h.get? b = some o) : (b, o) ∈ pinsAt fp h := List.mem_filterMap.mpr ⟨b, hb, by rw [e]; rfl⟩
theorem of_pinsAt {fp : List Addr} {h : Heap} {p : Addr × Obj} (hp : p ∈ pinsAt fp h) : p.1 ∈ fp ∧ h.get? p.1 = some p.2 := by
  obtain ⟨b, hb, e⟩ := List.mem_filterMap.mp hp
  cases q : h.get? b with
  | none => rw [q] at e; cases e
  | some o =>
    rw [q] at e
    have e' : (b, o) = p := Option.some.inj e
    subst e'
    exact ⟨hb, q⟩
theorem Inv.pinned {pins : List (Addr × Obj)} {σ : St} {H : Hp} {s : Shared} {fp : List Addr} (I : Inv X pins σ H s) (hf : ∀ b ∈ fp, FpOk X pins H b) (ho : ∀ b ∈ fp, ∃ o, s.heap.get? b = some o ∧ ∀ v, o.data ≠ .cell v) : Inv X (pins ++ pinsAt fp s.heap) σ H s :=
  I.pins_of fun p hp => (List.mem_append.mp hp).elim (fun z => I.pin p (List.mem_append_right _ z)) fun z => by
    obtain ⟨hb, e⟩ := of_pinsAt z
    obtain ⟨f0, f1, f2, _⟩ := hf p.1 hb
    obtain ⟨o, e', d⟩ := ho p.1 hb
    rw [e] at e'; cases e'
    exact ⟨e, f0, f1, f2, d⟩
theorem Inv.unpinned {pins pl : List (Addr × Obj)} {σ : St} {H : Hp} {s : Shared} (I : Inv X (pins ++ pl) σ H s) : Inv X pins σ H s := I.pins_of fun p hp => I.pin p (List.mem_append_right _ (List.mem_append_left _ hp))
theorem ps_for {iter : Expr} {body : List Stmt} {wi : TI} {g : TG} {tb : TS} {pos : Pos} (hp : PassesOwn (model X.prog X.w) X.A X.env X.xe) (hc : X.calm = true) (hi : PI X tg iter wi) (hg : PG X tg g) (hb : PSs X body tb)
    (hs : ∀ x, foldedSetIterable iter X.env x = pure x := by intro _; rfl) : PS X (.For tg iter body [] pos) (tFor wi g tb) := by
  intro pins s σ H D I h
  refine wpAny_For (thn (hi pins s σ H _ I h) fun v s1 h1 => thn h1 fun itv s2 h2 => ?_) hs
  obtain ⟨it, fp, tn, J, H2, e, I2, T, st2, f2, W, ⟨m0, w0⟩, turn⟩ := h2
  subst e
  -- what stays true of the iterator's objects through the loop
  have stat : ∀ {H' : Hp}, (∀ b ∈ fp, H' b = none) → ∀ b ∈ fp, FpOk X pins H' b := fun hn b hb => ⟨hn b hb, (f2 b hb).2⟩
  refine codeAny_forLoop_any (fun n s' => ∃ i σ' H', Inv X pins σ' H' s' ∧ tn i s'.heap ∧ (∀ b ∈ fp, H' b = none) ∧ W i n σ' H') ?_ m0 ⟨0, σ, H2, I2, st2, fun b hb => (f2 b hb).1, w0⟩
  rintro n s3 ⟨i, σ3, H3, I3, st3, fr3, w3⟩
  rcases turn i n σ3 H3 w3 with ⟨stop, qn⟩ | ⟨go, N, hN, step⟩
  · refine wpAny_passesOwn hp (thn (T.done X rfl rfl rfl hc i pins s3 σ3 H3 X.xe I3 (stat fr3) st3 stop) fun r s4 ⟨hr, I4⟩ => ?_)
    subst hr
    exact wpAny_execs_nil ⟨σ3, H3, I4, qn⟩
  · refine wpAny_passesOwn hp (thn (T.item X rfl rfl rfl hc i pins s3 σ3 H3 X.xe I3 (stat fr3) st3 go) fun r s4 ⟨u, hr, h4⟩ => ?_)
    subst hr
    refine wpAny_passesOwn hp (thn h4 fun _ s5 ⟨x, H5, I5, r5, y5, st5, fr5⟩ => ?_)
    have I5' := I5.pinned (stat fr5) (T.obj _ _ st5)
    refine wpAny_passesOwn hp (thn (hg _ s5 σ3 H5 x u _ I5' r5 (step x H5 y5)) fun _ s6 ⟨σ6, H6, I6, q6⟩ => ?_)
    refine wpAny_passesOwn hp (thn (hb _ s6 σ6 H6 _ I6 q6) fun f s7 q7 => ?_)
    have again : ∀ {σ7 : St} {H7 : Hp}, Inv X (pins ++ pinsAt fp s5.heap) σ7 H7 s7 → N σ7 H7 → ∃ m, m < n ∧ ∃ i σ' H', Inv X pins σ' H' s7 ∧ tn i s7.heap ∧ (∀ b ∈ fp, H' b = none) ∧ W i m σ' H' := fun {σ7 H7} I7 n7 => by
      obtain ⟨m', hm, w7⟩ := hN σ7 H7 n7
      refine ⟨m', hm, i + 1, σ7, H7, I7.unpinned, T.keep _ _ _ st5 fun b hb o e => (I7.pin (b, o) (List.mem_append_right _ (List.mem_append_right _ (mem_pinsAt hb e)))).1, fun b hb => ?_, w7⟩
      obtain ⟨o, e, d⟩ := T.obj _ _ st5 b hb
      exact (I7.pin (b, o) (List.mem_append_right _ (List.mem_append_right _ (mem_pinsAt hb e)))).2.1
    cases f with
    | next => obtain ⟨σ7, H7, I7, n7⟩ := q7; exact again I7 n7
    | cont => obtain ⟨σ7, H7, I7, n7⟩ := q7; exact again I7 n7
    | brk => obtain ⟨σ7, H7, I7, q7⟩ := q7; exact ⟨σ7, H7, I7.unpinned, q7⟩
    | ret v => obtain ⟨x7, σ7, H7, I7, r7, q7⟩ := q7; exact ⟨x7, σ7, H7, I7.unpinned, r7, q7⟩
end

/-! ### the forms one uses -/
theorem for_range {lo : Int} {n : Nat} {g : TG} {tb : TS} {D : Ends} {σ : St} {H : Hp} (Pv : Nat → St → Hp → Prop) (h0 : Pv 0 σ H)
    (hs : ∀ i σ H, i < n → Pv i σ H → g (.int (lo + i)) σ H fun σ2 H2 => tb { D with nx := Pv (i + 1), ct := Pv (i + 1), bk := D.nx } σ2 H2) (hd : ∀ σ H, Pv n σ H → D.nx σ H) :
    ∃ W : Nat → Nat → St → Hp → Prop, (∃ m, W 0 m σ H) ∧ ∀ i m σ H, W i m σ H →
      ((Itr lo n).stop i H ∧ D.nx σ H) ∨ ((Itr lo n).go i H ∧ ∃ N : St → Hp → Prop, (∀ σ' H', N σ' H' → ∃ m', m' < m ∧ W (i + 1) m' σ' H') ∧ ∀ x H', (Itr lo n).yld i H x H' → g x σ H' fun σ2 H2 => tb { D with nx := N, ct := N, bk := D.nx } σ2 H2) := by
  refine ⟨fun i m σ H => m = n - i ∧ i ≤ n ∧ Pv i σ H, ⟨n, by simp, Nat.zero_le _, h0⟩, ?_⟩
  rintro i m σ H ⟨rfl, hi, p⟩
  by_cases hlt : i < n
  · refine .inr ⟨hlt, Pv (i + 1), fun σ' H' p' => ⟨n - (i + 1), by omega, rfl, hlt, p'⟩, fun x H' y => ?_⟩
    obtain ⟨e, y⟩ := y
    subst e y
    exact hs i σ _ hlt p
  · have e : i = n := by omega
    subst e
    exact .inl ⟨Nat.le_refl _, hd σ H p⟩
end L2

namespace L2
open PySem PySem.Spec PyProof.Rows

abbrev R2 := V → V → Hp → VK → Prop
/-- a two-place operation on values: f is binaryOp op, inplaceOp op or compareOp op -/
def OpR (X : Cx) (f : Value → Value → Sem Value) (r : R2) : Prop :=
  ∀ (pins : List (Addr × Obj)) (s : Shared) (σ : St) (H : Hp) (x y : V) (v u : Value) (Q : VK), Inv X pins σ H s → RelV x v → RelV y u → r x y H Q →
    wpAny (model X.prog X.w) X.A (f v u) (EP X pins σ Q) X.xe s
/-- a one-place operation -/
def UnR (X : Cx) (f : Value → Sem Value) (r : V → Hp → VK → Prop) : Prop :=
  ∀ (pins : List (Addr × Obj)) (s : Shared) (σ : St) (H : Hp) (x : V) (v : Value) (Q : VK), Inv X pins σ H s → RelV x v → r x H Q →
    wpAny (model X.prog X.w) X.A (f v) (EP X pins σ Q) X.xe s
/-- a call of a value that is known (a builtin, a type) with values -/
def CallR (X : Cx) (f : Value) (r : List V → Hp → VK → Prop) : Prop :=
  ∀ (pins : List (Addr × Obj)) (s : Shared) (σ : St) (H : Hp) (xs : List V) (us : List Value) (Q : VK), Inv X pins σ H s → Vals xs us → r xs H Q →
    wpAny (model X.prog X.w) X.A (call f us) (EP X pins σ Q) X.xe s
/-- a value's truth -/
def TruR (X : Cx) (r : V → Hp → (Bool → Hp → Prop) → Prop) : Prop :=
  ∀ (pins : List (Addr × Obj)) (s : Shared) (σ : St) (H : Hp) (x : V) (v : Value) (Q : Bool → Hp → Prop), Inv X pins σ H s → RelV x v → r x H Q →
    wpAny (model X.prog X.w) X.A (truthy v) (TP X pins σ Q) X.xe s

def tOp (r : R2) (ta tb : TE) : TE := fun σ H Q => ta σ H fun x H1 => tb σ H1 fun y H2 => r x y H2 Q
def tUn (r : V → Hp → VK → Prop) (ta : TE) : TE := fun σ H Q => ta σ H fun x H1 => r x H1 Q
/-- ints in, under C, and a value out -/
def rI (C : Int → Int → Prop) (g : Int → Int → V) : R2 := fun x y H Q => ∃ i j, x = .int i ∧ y = .int j ∧ C i j ∧ Q (g i j) H
def rI0 (g : Int → Int → V) : R2 := fun x y H Q => ∃ i j, x = .int i ∧ y = .int j ∧ Q (g i j) H
def rU (g : Int → V) : V → Hp → VK → Prop := fun x H Q => ∃ i, x = .int i ∧ Q (g i) H

section
variable {X : Cx} {a b c : Expr} {ta tb tc : TE} {pos : Pos}

theorem binT (ha : PE X a ta) (hb : PE X b tb) {pins : List (Addr × Obj)} {s : Shared} {σ : St} {H : Hp} {R : V → V → Hp → Prop} (I : Inv X pins σ H s)
    (h : ta σ H fun x H1 => tb σ H1 fun y H2 => R x y H2) {Q : Value → Shared → Prop} {f : Value → Value → Sem Value}
    (hf : ∀ v u s2 x y H2, Inv X pins σ H2 s2 → RelV x v → RelV y u → R x y H2 → wpAny (model X.prog X.w) X.A (f v u) Q X.xe s2) :
    wpAny (model X.prog X.w) X.A (eval a X.env) (fun v s₁ => wpAny (model X.prog X.w) X.A (eval b X.env) (fun u s₂ => wpAny (model X.prog X.w) X.A (f v u) Q X.xe s₂) X.xe s₁) X.xe s := by
  refine thn (ha pins s σ H _ I h) fun v s1 ⟨x, H1, I1, r1, q1⟩ => ?_
  refine thn (hb pins s1 σ H1 _ I1 q1) fun u s2 ⟨y, H2, I2, r2, q2⟩ => ?_
  exact hf v u s2 x y H2 I2 r1 r2 q2

theorem pe_op {op : Operator} {r : R2} (ho : OpR X (binaryOp op) r) (ha : PE X a ta) (hb : PE X b tb) : PE X (.BinOp a op b pos) (tOp r ta tb) := by
  intro pins s σ H Q I h
  exact wpAny_BinOp (binT ha hb I h fun v u s2 x y H2 I2 rx ry q => ho pins s2 σ H2 x y v u Q I2 rx ry q)
theorem pe_un {op : UnaryOp} {r : V → Hp → VK → Prop} (ho : UnR X (unaryOp op) r) (ha : PE X a ta) : PE X (.UnaryOp op a pos) (tUn r ta) := by
  intro pins s σ H Q I h
  exact UnaryOp_ (thn (ha pins s σ H _ I h) fun v s1 ⟨x, H1, I1, r1, q1⟩ => ho pins s1 σ H1 x v Q I1 r1 q1)
/-! ### ints -/
theorem opI {f : Value → Value → Sem Value} {C : Int → Int → Prop} {g : Int → Int → Int}
    (rule : ∀ (i j : Int) (t u : Tok) (s : Shared) (Q : Value → Shared → Prop) (E : Value → Shared → Prop), C i j → Q (.int (g i j) s.toks) { s with toks := s.toks + 1 } → wpAny (model X.prog X.w) X.A (f (.int i t) (.int j u)) Q E s) :
    OpR X f (rI C fun i j => .int (g i j)) := by
  intro pins s σ H x y v u Q I rx ry h
  obtain ⟨i, j, rfl, rfl, hc, q⟩ := h
  obtain ⟨t, rfl⟩ := rx
  obtain ⟨t', rfl⟩ := ry
  exact rule i j t t' s _ _ hc ⟨.int (g i j), H, I.tok _, ⟨_, rfl⟩, q⟩
theorem opI0 {f : Value → Value → Sem Value} {g : Int → Int → Int}
    (rule : ∀ (i j : Int) (t u : Tok) (s : Shared) (Q : Value → Shared → Prop) (E : Value → Shared → Prop), Q (.int (g i j) s.toks) { s with toks := s.toks + 1 } → wpAny (model X.prog X.w) X.A (f (.int i t) (.int j u)) Q E s) :
    OpR X f (rI0 fun i j => .int (g i j)) := by
  intro pins s σ H x y v u Q I rx ry h
  obtain ⟨i, j, rfl, rfl, q⟩ := h
  obtain ⟨t, rfl⟩ := rx
  obtain ⟨t', rfl⟩ := ry
  exact rule i j t t' s _ _ ⟨.int (g i j), H, I.tok _, ⟨_, rfl⟩, q⟩
theorem opB0 {f : Value → Value → Sem Value} {g : Int → Int → Bool}
    (rule : ∀ (i j : Int) (t u : Tok) (s : Shared) (Q : Value → Shared → Prop) (E : Value → Shared → Prop), Q (.bool (g i j)) s → wpAny (model X.prog X.w) X.A (f (.int i t) (.int j u)) Q E s) :
    OpR X f (rI0 fun i j => .bl (g i j)) := by
  intro pins s σ H x y v u Q I rx ry h
  obtain ⟨i, j, rfl, rfl, q⟩ := h
  obtain ⟨t, rfl⟩ := rx
  obtain ⟨t', rfl⟩ := ry
  exact rule i j t t' s _ _ ⟨.bl (g i j), H, I, rfl, q⟩

def CDiv (i j : Int) : Prop := 0 < j ∧ j < 1073741824
def CPow (i j : Int) : Prop := 0 ≤ j ∧ j ≤ 1000000 ∧ i.natAbs < 2 ^ 64
def CMul (i j : Int) : Prop := (-(2 ^ 64) < i ∧ i < 2 ^ 64) ∨ (-(2 ^ 64) < j ∧ j < 2 ^ 64)
theorem CMul.ok {i j : Int} (h : CMul i j) : IntMulOk i j := by
  rcases h with ⟨h1, h2⟩ | ⟨h1, h2⟩
  · exact .of_left (intBits_le_64 h1 h2)
  · exact .of_right (intBits_le_64 h1 h2)
theorem op_add : OpR X (binaryOp .Add) (rI0 fun i j => .int (i + j)) := opI0 fun _ _ _ _ _ _ _ q => add_int q
theorem op_sub : OpR X (binaryOp .Sub) (rI0 fun i j => .int (i - j)) := opI0 fun _ _ _ _ _ _ _ q => sub_int q
theorem op_mul : OpR X (binaryOp .Mult) (rI CMul fun i j => .int (i * j)) := opI fun _ _ _ _ _ _ _ hc q => mul_int q hc.ok
/-- // by a positive divisor -/
theorem op_fdiv : OpR X (binaryOp .FloorDiv) (rI CDiv fun i j => .int (i / j)) := opI fun i j _ _ _ _ _ hc q => by
  have h1 : (0 : Int) < j := hc.1
  have h2 : j < 1073741824 := hc.2
  exact floordiv_int (by omega) (by rw [Int.fdiv_eq_ediv_of_nonneg i (by omega)]; exact q) (.inl (PyProof.noPylong_small (by omega)))
/-- % by a positive divisor of any size -/
theorem op_mod : OpR X (binaryOp .Mod) (rI (fun _ j => 0 < j) fun i j => .int (i % j)) := opI fun i j _ _ _ _ _ hc q => by
  have h1 : (0 : Int) < j := hc
  exact mod_int' (by omega) (by rw [Int.fmod_eq_emod_of_nonneg i (by omega)]; exact q)
theorem op_pow : OpR X (binaryOp .Pow) (rI CPow fun i j => .int (i ^ j.toNat)) := opI fun _ _ _ _ _ _ _ hc q => pow_int_small hc.1 hc.2.1 hc.2.2 q
theorem unI {f : Value → Sem Value} {g : Int → Int}
    (rule : ∀ (i : Int) (t : Tok) (s : Shared) (Q : Value → Shared → Prop) (E : Value → Shared → Prop), Q (.int (g i) s.toks) { s with toks := s.toks + 1 } → wpAny (model X.prog X.w) X.A (f (.int i t)) Q E s) :
    UnR X f (rU fun i => .int (g i)) := by
  intro pins s σ H x v Q I rx h
  obtain ⟨i, rfl, q⟩ := h
  obtain ⟨t, rfl⟩ := rx
  exact rule i t s _ _ ⟨.int (g i), H, I.tok _, ⟨_, rfl⟩, q⟩
theorem un_neg : UnR X (unaryOp .USub) (rU fun i => .int (-i)) := unI fun _ _ _ _ _ q => neg_int q
/-! ### bools among ints: n += (a < b) -/
end

/-! ### comparisons -/
/-- the scalars that == tells apart as data does -/
def scal : V → V → Bool
  | .non, .non => true | .non, .int _ => true | .int _, .non => true | .non, .bl _ => true | .bl _, .non => true | .non, .str _ => true | .str _, .non => true
  | .int _, .int _ => true | .bl _, .bl _ => true | .str _, .str _ => true | .byt _, .byt _ => true
  | .int _, .str _ => true | .str _, .int _ => true | .bl _, .str _ => true | .str _, .bl _ => true
  | _, _ => false
def rEq : R2 := fun x y H Q => scal x y = true ∧ Q (.bl (decide (x = y))) H
def rNe : R2 := fun x y H Q => scal x y = true ∧ Q (.bl (!decide (x = y))) H

theorem dec_int {i j : Int} : decide (V.int i = V.int j) = (i == j) := by
  rw [Bool.eq_iff_iff]
  simp
theorem dec_bl {i j : Bool} : decide (V.bl i = V.bl j) = (i == j) := by
  rw [Bool.eq_iff_iff]
  simp
theorem dec_str {i j : Str} : decide (V.str i = V.str j) = (i == j) := by
  rw [Bool.eq_iff_iff]
  simp
theorem dec_byt {i j : Array UInt8} : decide (V.byt i = V.byt j) = (i.toList == j.toList) := by
  rw [Bool.eq_iff_iff]
  cases i
  cases j
  simp

section
variable {X : Cx} {a b c : Expr} {ta tb tc : TE} {pos : Pos}
theorem fin_bl {pins : List (Addr × Obj)} {σ : St} {H : Hp} {s : Shared} {Q : VK} {k k' : Bool} (I : Inv X pins σ H s) (q : Q (.bl k) H) (e : k = k') : EP X pins σ Q (.bool k') s := by
  subst e
  exact ⟨.bl k, H, I, rfl, q⟩
theorem op_eq : OpR X (compareOp .Eq) rEq := by
  intro pins s σ H x y v u Q I rx ry h
  obtain ⟨hs, q⟩ := h
  cases x with
  | non =>
    cases rx
    cases y with
    | non => cases ry; exact PySem.EqNone.eq_none_none (fin_bl I q (by simp))
    | bl j => cases ry; exact PySem.EqNone.eq_none_bool (fin_bl I q (by simp))
    | int j => obtain ⟨t', rfl⟩ := ry; exact PySem.EqNone.eq_none_int (fin_bl I q (by simp))
    | str j => obtain ⟨t', rfl⟩ := ry; exact PySem.EqNone.eq_none_str (fin_bl I q (by simp))
    | _ => exact absurd (show false = true from hs) Bool.false_ne_true
  | bl i =>
    cases rx
    cases y with
    | non => cases ry; exact PySem.EqNone.eq_bool_none (fin_bl I q (by simp))
    | bl j => cases ry; exact eq_bool (fin_bl I q dec_bl)
    | str j => obtain ⟨t', rfl⟩ := ry; exact PySem.EqMixed.eq_bool_str (fin_bl I q (by simp))
    | _ => exact absurd (show false = true from hs) Bool.false_ne_true
  | int i =>
    obtain ⟨t, rfl⟩ := rx
    cases y with
    | non => cases ry; exact PySem.EqNone.eq_int_none (fin_bl I q (by simp))
    | int j => obtain ⟨t', rfl⟩ := ry; exact eq_int (fin_bl I q dec_int)
    | str j => obtain ⟨t', rfl⟩ := ry; exact PySem.EqMixed.eq_int_str (fin_bl I q (by simp))
    | _ => exact absurd (show false = true from hs) Bool.false_ne_true
  | str i =>
    obtain ⟨t, rfl⟩ := rx
    cases y with
    | non => cases ry; exact PySem.EqNone.eq_str_none (fin_bl I q (by simp))
    | bl j => cases ry; exact PySem.EqMixed.eq_str_bool (fin_bl I q (by simp))
    | int j => obtain ⟨t', rfl⟩ := ry; exact PySem.EqMixed.eq_str_int (fin_bl I q (by simp))
    | str j => obtain ⟨t', rfl⟩ := ry; exact eq_str (fin_bl I q dec_str)
    | _ => exact absurd (show false = true from hs) Bool.false_ne_true
  | byt i =>
    obtain ⟨t, rfl⟩ := rx
    cases y with
    | byt j => obtain ⟨t', rfl⟩ := ry; exact PySem.W.eq_bytes (fin_bl I q dec_byt)
    | _ => exact absurd (show false = true from hs) Bool.false_ne_true
  | _ => cases y <;> exact absurd (show false = true from hs) Bool.false_ne_true
theorem op_ne : OpR X (compareOp .NotEq) rNe := by
  intro pins s σ H x y v u Q I rx ry h
  obtain ⟨hs, q⟩ := h
  cases x with
  | non =>
    cases rx
    cases y with
    | non => cases ry; exact PySem.EqNone.ne_none_none (fin_bl I q (by simp))
    | bl j => cases ry; exact PySem.EqNone.ne_none_bool (fin_bl I q (by simp))
    | int j => obtain ⟨t', rfl⟩ := ry; exact PySem.EqNone.ne_none_int (fin_bl I q (by simp))
    | str j => obtain ⟨t', rfl⟩ := ry; exact PySem.EqNone.ne_none_str (fin_bl I q (by simp))
    | _ => exact absurd (show false = true from hs) Bool.false_ne_true
  | bl i =>
    cases rx
    cases y with
    | non => cases ry; exact PySem.EqNone.ne_bool_none (fin_bl I q (by simp))
    | bl j => cases ry; exact ne_bool (fin_bl I q (congrArg not dec_bl))
    | str j => obtain ⟨t', rfl⟩ := ry; exact PySem.EqMixed.ne_bool_str (fin_bl I q (by simp))
    | _ => exact absurd (show false = true from hs) Bool.false_ne_true
  | int i =>
    obtain ⟨t, rfl⟩ := rx
    cases y with
    | non => cases ry; exact PySem.EqNone.ne_int_none (fin_bl I q (by simp))
    | int j => obtain ⟨t', rfl⟩ := ry; exact ne_int (fin_bl I q (congrArg not dec_int))
    | str j => obtain ⟨t', rfl⟩ := ry; exact PySem.EqMixed.ne_int_str (fin_bl I q (by simp))
    | _ => exact absurd (show false = true from hs) Bool.false_ne_true
  | str i =>
    obtain ⟨t, rfl⟩ := rx
    cases y with
    | non => cases ry; exact PySem.EqNone.ne_str_none (fin_bl I q (by simp))
    | bl j => cases ry; exact PySem.EqMixed.ne_str_bool (fin_bl I q (by simp))
    | int j => obtain ⟨t', rfl⟩ := ry; exact PySem.EqMixed.ne_str_int (fin_bl I q (by simp))
    | str j => obtain ⟨t', rfl⟩ := ry; exact ne_str (fin_bl I q (congrArg not dec_str))
    | _ => exact absurd (show false = true from hs) Bool.false_ne_true
  | byt i =>
    obtain ⟨t, rfl⟩ := rx
    cases y with
    | byt j => obtain ⟨t', rfl⟩ := ry; exact PySem.W.ne_bytes (fin_bl I q (congrArg not dec_byt))
    | _ => exact absurd (show false = true from hs) Bool.false_ne_true
  | _ => cases y <;> exact absurd (show false = true from hs) Bool.false_ne_true

theorem op_lt : OpR X (compareOp .Lt) (rI0 fun i j => .bl (decide (i < j))) := opB0 fun _ _ _ _ _ _ _ q => lt_int q
theorem op_le : OpR X (compareOp .LtE) (rI0 fun i j => .bl (decide (i ≤ j))) := opB0 fun _ _ _ _ _ _ _ q => le_int q
theorem op_gt : OpR X (compareOp .Gt) (rI0 fun i j => .bl (decide (j < i))) := opB0 fun _ _ _ _ _ _ _ q => gt_int q
theorem op_lt_str : OpR X (compareOp .Lt) (fun x y H Q => ∃ i j, x = .str i ∧ y = .str j ∧ Q (.bl (decide (i.cps.toList < j.cps.toList))) H) := by
  intro pins s σ H x y v u Q I rx ry h
  obtain ⟨i, j, rfl, rfl, q⟩ := h
  obtain ⟨t, rfl⟩ := rx
  obtain ⟨t', rfl⟩ := ry
  exact lt_str (fin_bl I q rfl)
/-- the one string within the other -/
theorem op_in_str : OpR X (compareOp .In) (fun x y H Q => ∃ i j, x = .str i ∧ y = .str j ∧ Q (.bl (!(Builtin.Str.occurrences j i 0 j.length 1).isEmpty)) H) := by
  intro pins s σ H x y v u Q I rx ry h
  obtain ⟨i, j, rfl, rfl, q⟩ := h
  obtain ⟨t, rfl⟩ := rx
  obtain ⟨t', rfl⟩ := ry
  exact in_str (fin_bl I q rfl)

/-- is None, is not None: the right side a value none -/
theorem op_isN : OpR X (compareOp .Is) (fun x y H Q => y = .non ∧ Q (.bl (decide (x = .non))) H) := by
  intro pins s σ H x y v u Q I rx ry h
  obtain ⟨rfl, q⟩ := h
  cases ry
  refine is_none_gen (fin_bl I q ?_)
  cases x <;> first
    | (cases rx; rfl)
    | (obtain ⟨t, rfl⟩ := rx; rfl)
/-- two rules for one operation: by cases -/
theorem OpR.or {f : Value → Value → Sem Value} {r r' : R2} (h : OpR X f r) (h' : OpR X f r') : OpR X f (fun x y H Q => r x y H Q ∨ r' x y H Q) := by
  intro pins s σ H x y v u Q I rx ry q
  rcases q with q | q
  · exact h pins s σ H x y v u Q I rx ry q
  · exact h' pins s σ H x y v u Q I rx ry q

theorem nomark (b : Expr) {op : CmpOp} (h : op ≠ .In := by decide) (h2 : op ≠ .NotIn := by decide) : behindInMarks op b = false := by
  have e1 : (op == CmpOp.In) = false := by cases op <;> first | rfl | exact absurd rfl h
  have e2 : (op == CmpOp.NotIn) = false := by cases op <;> first | rfl | exact absurd rfl h2
  cases b <;> simp [behindInMarks, e1, e2]
/-- a comparison as a value; hm: nomark b, or (for in, not in) by with_unfolding_all rfl -/
theorem pe_cmpR {op : CmpOp} {r : R2} (ho : OpR X (compareOp op) r) (ha : PE X a ta) (hb : PE X b tb) (hm : behindInMarks op b = false) : PE X (.Compare a [op] [b] pos) (tOp r ta tb) := by
  intro pins s σ H Q I h
  exact wpAny_Compare1 (binT ha hb I h fun v u s2 x y H2 I2 rx ry q => ho pins s2 σ H2 x y v u Q I2 rx ry q) hm
/-- a reading of a value as a test -/
def tTest (t : TE) : TT := fun σ H Q => t σ H fun x H' => ∃ k, x = .bl k ∧ Q k H'
theorem pt_cmpR {op : CmpOp} {r : R2} (ho : OpR X (compareOp op) r) (ha : PE X a ta) (hb : PE X b tb) (hm : behindInMarks op b = false) : PT X (.Compare a [op] [b] pos) (tTest (tOp r ta tb)) := by
  intro pins s σ H Q I h
  refine wpAny_isTrue_Compare1 (thn (ha pins s σ H _ I h) fun v s1 ⟨x, H1, I1, r1, q1⟩ => thn (hb pins s1 σ H1 _ I1 q1) fun u s2 ⟨y, H2, I2, r2, q2⟩ =>
    thn (ho pins s2 σ H2 x y v u _ I2 r1 r2 q2) fun c s3 ⟨z, H3, I3, r3, k, e, q3⟩ => ?_) hm
  subst e
  cases r3
  exact wpAny_truthy_bool ⟨H3, I3, q3⟩
/-! ### truth -/
/-- a value's truth by the abstract heap -/
def TruV (K : PySem.W.Frag) (x : V) (H : Hp) (k : Bool) : Prop :=
  match x with
  | .non => k = false
  | .bl b => k = b
  | .int i => k = (i != 0)
  | .str y => y.length ≤ sizeLine ∧ k = ((y.length : Int) != 0)
  | .byt y => y.size ≤ sizeLine ∧ k = ((y.size : Int) != 0)
  | .ref p => (∃ xs, SqL K H p xs ∧ k = !xs.isEmpty) ∨ (∃ xs, SqT K H p xs ∧ k = !xs.isEmpty) ∨ ∃ kvs, H p = some (.dK kvs) ∧ k = !kvs.isEmpty
  | _ => False
theorem isEmpty_kv {κ : Type} {kvs : List (κ × V)} {vs : List (κ × Value)} (r : KV kvs vs) : (!vs.isEmpty) = !kvs.isEmpty := by
  cases r <;> rfl
theorem isEmpty_of {xs : List V} {its : List Value} (r : Vals xs its) : (!its.toArray.isEmpty) = !xs.isEmpty := by
  cases r <;> simp
theorem line63 : (sizeLine : Nat) < 2 ^ 63 := by rw [sizeLine_eq]; decide
theorem tru_ok : TruR X (fun x H Q => ∃ k, TruV X.K x H k ∧ Q k H) := by
  intro pins s σ H x v Q I rx h
  obtain ⟨k, e, q⟩ := h
  have hl := line63
  have hs : sizeLine = 16777216 := sizeLine_eq
  cases x with
  | non =>
    cases rx
    have e' : k = false := e
    subst e'
    exact truthy_none ⟨H, I, q⟩
  | bl b =>
    cases rx
    have e' : k = b := e
    subst e'
    exact wpAny_truthy_bool ⟨H, I, q⟩
  | int i =>
    obtain ⟨t, rfl⟩ := rx
    have e' : k = (i != 0) := e
    subst e'
    exact PySem.P.truthy_int ⟨H, I, q⟩
  | str y =>
    obtain ⟨t, rfl⟩ := rx
    obtain ⟨hy, e'⟩ : y.length ≤ sizeLine ∧ k = ((y.length : Int) != 0) := e
    subst e'
    exact PySem.P.truthy_str (by omega) ⟨H, I.tok _, q⟩
  | byt y =>
    obtain ⟨t, rfl⟩ := rx
    obtain ⟨hy, e'⟩ : y.size ≤ sizeLine ∧ k = ((y.size : Int) != 0) := e
    subst e'
    exact PySem.W.truthy_bytes (by omega) ⟨H, I.tok _, q⟩
  | ref p =>
    cases rx
    have e' : (∃ xs, SqL X.K H p xs ∧ k = !xs.isEmpty) ∨ (∃ xs, SqT X.K H p xs ∧ k = !xs.isEmpty) ∨ ∃ kvs, H p = some (.dK kvs) ∧ k = !kvs.isEmpty := e
    rcases e' with ⟨xs, hx, e'⟩ | ⟨xs, hx, e'⟩ | ⟨kvs, hx, e'⟩
    · subst e'
      obtain ⟨its, r, pl, hz⟩ := I.list hx
      have hlen := r.length
      exact wpAny_truthy_list pl.isList (by simp only [List.size_toArray]; omega) ⟨H, I.tok _, by rw [isEmpty_of r]; exact q⟩
    · subst e'
      obtain ⟨its, r, pl, hz⟩ := I.tuple hx
      have hlen := r.length
      exact truthy_tuple pl (by simp only [List.size_toArray]; omega) ⟨H, I.tok _, by rw [isEmpty_of r]; exact q⟩
    · subst e'
      obtain ⟨hz, hS, vs, r, m⟩ : kvs.length ≤ sizeLine ∧ (p == sysModules) = false ∧ ∃ vs, KV kvs vs ∧ s.heap.DictOf (mixKind X.prog X.w) p vs := I.hok p _ hx
      have hlen : kvs.length = vs.length := Paired.length r
      exact wpAny_truthy_dict hS m (by omega) ⟨H, I.tok _, by rw [isEmpty_kv r]; exact q⟩
  | _ => exact (show False from e).elim
/-- any expression whose test is its value's truth (a name, a call, a subscript, a field ..: he by fun _ => rfl) -/
theorem pt_truth (ha : PE X a ta) (he : ∀ whole, isTrue a X.env whole = (do let v ← whole; standAt a.pos; holding [v] (truthy v))) :
    PT X a (fun σ H Q => ta σ H fun x H' => ∃ k, TruV X.K x H' k ∧ Q k H') := by
  intro pins s σ H Q I h
  exact isTrue_plain (thn (ha pins s σ H _ I h) fun v s1 ⟨x, H1, I1, r1, q1⟩ => tru_ok pins s1 σ H1 x v Q I1 r1 q1) (he _)

/-! ### strs and bytes -/
theorem op_add_str : OpR X (binaryOp .Add) (fun x y H Q => ∃ i j, x = .str i ∧ y = .str j ∧ i.length + j.length ≤ sizeLine ∧ Q (.str (i ++ j)) H) := by
  intro pins s σ H x y v u Q I rx ry h
  obtain ⟨i, j, rfl, rfl, hz, q⟩ := h
  obtain ⟨t, rfl⟩ := rx
  obtain ⟨t', rfl⟩ := ry
  exact add_str (fun t' tk => ⟨.str (i ++ j), H, I.tok _, ⟨_, rfl⟩, q⟩) hz
/-! ### scalar builtins, by CallR -/
theorem vals1 {x : V} {us : List Value} (r : Vals [x] us) : ∃ u, us = [u] ∧ RelV x u := by
  cases r with
  | cons r1 r2 => cases r2; exact ⟨_, rfl, r1⟩
theorem vals2 {x y : V} {us : List Value} (r : Vals [x, y] us) : ∃ u w', us = [u, w'] ∧ RelV x u ∧ RelV y w' := by
  cases r with
  | cons r1 r2 =>
    cases r2 with
    | cons r3 r4 => cases r4; exact ⟨_, _, rfl, r1, r3⟩
theorem call_max2 (hc : X.calm = true) : CallR X (.builtin "max") (fun xs H Q => ∃ i j, xs = [.int i, .int j] ∧ Q (.int (if j > i then j else i)) H) := by
  intro pins s σ H xs us Q I r h
  obtain ⟨i, j, rfl, q⟩ := h
  obtain ⟨u, w', rfl, ⟨t, rfl⟩, ⟨t', rfl⟩⟩ := vals2 r
  refine max_two_ints (I.ok.hd hc) fun h' tk k => ⟨_, H, I.kept k, ?_, q⟩
  by_cases hj : j > i
  · rw [if_pos hj, if_pos hj]; exact ⟨_, rfl⟩
  · rw [if_neg hj, if_neg hj]; exact ⟨_, rfl⟩
theorem call_min2 (hc : X.calm = true) : CallR X (.builtin "min") (fun xs H Q => ∃ i j, xs = [.int i, .int j] ∧ Q (.int (if j < i then j else i)) H) := by
  intro pins s σ H xs us Q I r h
  obtain ⟨i, j, rfl, q⟩ := h
  obtain ⟨u, w', rfl, ⟨t, rfl⟩, ⟨t', rfl⟩⟩ := vals2 r
  refine min_two_ints (I.ok.hd hc) fun h' tk k => ⟨_, H, I.kept k, ?_, q⟩
  by_cases hj : j < i
  · rw [if_pos hj, if_pos hj]; exact ⟨_, rfl⟩
  · rw [if_neg hj, if_neg hj]; exact ⟨_, rfl⟩
theorem call_int1 : CallR X (.type "int") (fun xs H Q => (∃ i, xs = [.int i] ∧ Q (.int i) H) ∨ ∃ k, xs = [.bl k] ∧ Q (.int (if k then 1 else 0)) H) := by
  intro pins s σ H xs us Q I r h
  rcases h with ⟨i, rfl, q⟩ | ⟨k, rfl, q⟩
  · obtain ⟨u, rfl, t, rfl⟩ := vals1 r
    exact call_int_int ⟨.int i, H, I, ⟨_, rfl⟩, q⟩
  · obtain ⟨u, rfl, r1⟩ := vals1 r
    cases r1
    exact call_int_bool ⟨.int (if k then 1 else 0), H, I.tok _, ⟨_, rfl⟩, q⟩
theorem call_str_int : CallR X (.type "str") (fun xs H Q => ∃ i, xs = [.int i] ∧ i.natAbs.log2 < 1920 ∧ Q (.str (toString i)) H) := by
  intro pins s σ H xs us Q I r h
  obtain ⟨i, rfl, hz, q⟩ := h
  obtain ⟨u, rfl, t, rfl⟩ := vals1 r
  exact PySem.P.str_of_int hz ⟨.str _, H, I.tok _, ⟨_, rfl⟩, q⟩
/-- len of a str, a bytes, a list, a tuple -/
def LenV (K : PySem.W.Frag) (x : V) (H : Hp) (n : Nat) : Prop :=
  match x with
  | .str y => y.length ≤ sizeLine ∧ n = y.length
  | .byt y => y.size ≤ sizeLine ∧ n = y.size
  | .ref p => (∃ xs, SqL K H p xs ∧ n = xs.length) ∨ ∃ xs, SqT K H p xs ∧ n = xs.length
  | _ => False
theorem call_len : CallR X (.builtin "len") (fun xs H Q => ∃ x n, xs = [x] ∧ LenV X.K x H n ∧ Q (.int n) H) := by
  intro pins s σ H xs us Q I r h
  obtain ⟨x, n, rfl, e, q⟩ := h
  obtain ⟨u, rfl, rx⟩ := vals1 r
  have hl := line63
  have hs : sizeLine = 16777216 := sizeLine_eq
  cases x with
  | str y =>
    obtain ⟨t, rfl⟩ := rx
    obtain ⟨hy, e'⟩ : y.length ≤ sizeLine ∧ n = y.length := e
    subst e'
    exact len_str (by omega) ⟨.int _, H, I.tok _, ⟨_, rfl⟩, q⟩
  | byt y =>
    obtain ⟨t, rfl⟩ := rx
    obtain ⟨hy, e'⟩ : y.size ≤ sizeLine ∧ n = y.size := e
    subst e'
    exact PySem.W.len_bytes (by omega) ⟨.int _, H, I.tok _, ⟨_, rfl⟩, q⟩
  | ref p =>
    cases rx
    have e' : (∃ xs, SqL X.K H p xs ∧ n = xs.length) ∨ ∃ xs, SqT X.K H p xs ∧ n = xs.length := e
    rcases e' with ⟨xs, hx, e'⟩ | ⟨xs, hx, e'⟩
    · subst e'
      obtain ⟨its, r', pl, hz⟩ := I.list hx
      have hlen := r'.length
      exact Calls.call_len_list pl.isList (by simp only [List.size_toArray]; omega) ⟨.int xs.length, H, I.tok _, ⟨_, by simp only [List.size_toArray]; rw [hlen]⟩, q⟩
    · subst e'
      obtain ⟨its, r', pl, hz⟩ := I.tuple hx
      have hlen := r'.length
      exact len_tuple pl (by simp only [List.size_toArray]; omega) ⟨.int xs.length, H, I.tok _, ⟨_, by simp only [List.size_toArray]; rw [hlen]⟩, q⟩
  | _ => exact (show False from e).elim
end
end L2

namespace L2
open PySem PySem.Spec PyProof.Rows

/-! ### an instance, its attributes a map -/
structure ObjM (h : Heap) (x dx C : Addr) (mA : Str → Option Value) : Prop where
  obj : h.get? x = some (PySem.W.instObj C dx)
  ns : h.Ns1 dx mA
  ne : dx ≠ x

theorem lookIn_ns {h : Heap} {dx : Addr} {mA : Str → Option Value} (n : h.Ns1 dx mA) : ∃ od, h.get? dx = some od ∧ ∀ name, PySem.W.lookIn name od = some (mA name) := by
  obtain ⟨o, es, ep, ho, hd, hk, _, hm⟩ := n
  refine ⟨o, ho, fun name => ?_⟩
  have e := hm name
  unfold nsFind findBy at e
  rw [← Array.find?_toList] at e
  unfold PySem.W.lookIn
  rw [hd]
  dsimp only
  split
  · rename_i y q
    rw [q] at e
    exact congrArg some e
  · rename_i q
    rw [q] at e
    have a : es.toList.any (·.refKey) = false := by
      rw [List.any_eq_false]
      intro y hy
      obtain ⟨z, t, hkey⟩ := hk y (Array.mem_toList_iff.mp hy)
      simp [DictEntry.refKey, hkey]
    have a' : ¬ es.toList.any (·.refKey) = true := by rw [a]; exact Bool.false_ne_true
    rw [if_neg a']
    exact congrArg some e

theorem ObjM.look {h : Heap} {x dx C : Addr} {mA : Str → Option Value} (I : ObjM h x dx C mA) : ∃ od, PySem.W.InstAt h x (PySem.W.instObj C dx) C (some od) ∧ ∀ name, PySem.W.lookIn name od = some (mA name) :=
  let ⟨od, ho, hl⟩ := lookIn_ns I.ns
  ⟨od, ⟨I.obj, rfl, rfl, ho⟩, hl⟩

section
variable {prog : Program} {w : World} {A : Around} {E : Value → Shared → Prop} {s : Shared} {K : PySem.W.Frag} {x dx C f : Addr} {mA : Str → Option Value} {name : Str} {v : Value}

theorem get_map {expr : Bool} {Q : Value → Shared → Prop} (X : K.In s.heap) (I : ObjM s.heap x dx C mA) (hg : PySem.W.plainGet K C name = true) (hh : PySem.W.hasDictIn K C = true)
    (ha : PySem.W.findIn K (.ref C) name = some none) (hv : mA name = some v) (hv' : PySem.W.handedIn v = true) (h : Q v { s with toks := s.toks + 1 }) :
    wpAny (model prog w) A (getAttr (.ref x) name expr) Q E s := by
  obtain ⟨od, J, hl⟩ := I.look
  exact PySem.W.get_value X J (PySem.W.plainGet_of hg).1 (PySem.W.findObj_own hh ha rfl (by rw [hl, hv])) hv' h

theorem get_meth {pl : Sem Bool} {Q : Value × List Value → Shared → Prop} (X : K.In s.heap) (I : ObjM s.heap x dx C mA) (hg : PySem.W.plainGet K C name = true)
    (hf : PySem.W.findIn K (.ref C) name = some (some (.ref f))) (ht : PySem.W.isFn K (.ref f) = true) (hv : mA name = none) (h : Q (.ref f, [.ref x]) s) :
    wpAny (model prog w) A (getMethod (.ref x) name pl) Q E s := by
  obtain ⟨od, J, hl⟩ := I.look
  exact PySem.W.method_fn X J (PySem.W.plainGet_of hg).1 (PySem.W.plainGet_of hg).2 hf (beq_iff_eq.mp ht) (by show (PySem.W.lookIn name od).map (·.isSome) = some false; rw [hl, hv]; rfl) h

theorem set_map {ns : List Str} {Q : Unit → Shared → Prop} (X : K.In s.heap) (I : ObjM s.heap x dx C mA)
    (hs : PySem.W.findIn K (.ref C) "__setattr__" = some (some (.builtin "object.__setattr__"))) (hp : PySem.W.plainOver K C = true) (ht : PySem.W.takerIn K C name = some none) (hh : PySem.W.hasDictIn K C = true)
    (hw : PySem.Within mA ns) (hsz : ns.length ≤ sizeLine)
    (h : ∀ h', ObjM h' x dx C (fun y => if y = name then some v else mA y) → Heap.SameBut dx s.heap h' → Q () { s with heap := h', toks := s.toks + 2 }) :
    wpAny (model prog w) A (setAttr (.ref x) name v) Q E s := by
  obtain ⟨od, J, hl⟩ := I.look
  refine PySem.W.set_plain X J hs (PySem.W.osa_open (s := { s with toks := s.toks + 1 }) (r := none) X J hp ht fun b => ?_)
  obtain ⟨cd, hc, hd'⟩ := PySem.W.any_some hh
  have hx : s.heap.get? x = some ⟨.ref C, some dx, .plain, #[]⟩ := I.obj
  refine wpAny_bind (wpAny_pure (wpAny_bind (wpAny_bind (wpAny_loadPart hx (wpAny_bind (PySem.W.Looks.here (s := { s with toks := s.toks + 1 }) (PySem.W.looks_clsIn X hc) ?_))))))
  rw [hd']
  refine wpAny_pure (a := some dx) (wpAny_bind (wpAny_pure (wpAny_bind ?_)))
  refine wpAny_nsSet1 (s := { s with toks := s.toks + 1 }) I.ns fun h' hn2 hs2 => ?_
  obtain ⟨oD, esD, epD, hoD, hdD, hcD⟩ := hn2.count (PySem.Within.cons name v hw)
  refine wpAny_bind (wpAny_lookBehind hoD (by rw [hdD]; exact pastItsLine_dict (Nat.le_trans hcD (by rw [List.length_cons]; omega))) ?_)
  exact wpAny_pure (h _ ⟨(hs2.2 _ (Ne.symm I.ne)).trans I.obj, hn2, I.ne⟩ hs2)

/-- C(..): the dict at the heap's end, the instance behind it; then its __init__ -/
theorem make_map {R : Result → Shared → Prop} {vs : List Value} {kw : List (Str × Value)} (X : K.In s.heap) (hm : PySem.W.makesIn K C = true)
    (hi : PySem.W.findIn K (.ref C) "__init__" = some (some (.ref f))) (hf : PySem.W.typeIn K (.ref f) = some (.type "function"))
    (h : codeAny (model prog w) (A.under (.builtin "type.__call__" ⟨.ref C :: vs, kw⟩)) (.call (.ref f) ⟨.ref (s.heap.objs.size + 1) :: vs, kw⟩) (PySem.W.InitBack (s.heap.objs.size + 1) R)
      { s with heap := (s.heap.push PySem.W.emptyDict).push (PySem.W.instObj C s.heap.objs.size) }) :
    codeAny (model prog w) A (.call (.ref C) ⟨vs, kw⟩) R s := by
  obtain ⟨hh, g, d, t, os⟩ := s
  exact PySem.W.make_core (PySem.W.makes_of X hm) (PySem.W.looks_findIn X hi) (fun self => PySem.W.bind_fn X self hf) (.inl rfl) h
/-- C() where there is no __init__ but object's -/
theorem make_map0 {R : Result → Shared → Prop} (X : K.In s.heap) (hm : PySem.W.makesIn K C = true)
    (hi : PySem.W.findIn K (.ref C) "__init__" = some (some (.builtin "object.__init__")))
    (hb : ∀ self, PySem.W.Looks (model prog w) s.heap (bindSpecial (.builtin "object.__init__") self) (.builtin "object.__init__", [self]))
    (h : codeAny (model prog w) (A.under (.builtin "type.__call__" ⟨[.ref C], []⟩)) (.call (.builtin "object.__init__") ⟨[.ref (s.heap.objs.size + 1)], []⟩) (PySem.W.InitBack (s.heap.objs.size + 1) R)
      { s with heap := (s.heap.push PySem.W.emptyDict).push (PySem.W.instObj C s.heap.objs.size) }) :
    codeAny (model prog w) A (.call (.ref C) ⟨[], []⟩) R s := by
  obtain ⟨hh, g, d, t, os⟩ := s
  exact PySem.W.make_core (PySem.W.makes_of X hm) (PySem.W.looks_findIn X hi) hb (.inr ⟨rfl, rfl⟩) h
end

/-! ### the attributes as a list of pairs -/
def putF (f : Str) (v : V) : List (Str × V) → List (Str × V)
  | [] => [(f, v)]
  | (g, x) :: r => if g = f then (g, v) :: r else (g, x) :: putF f v r
theorem lookup_putF (f g : Str) (v : V) : ∀ fs : List (Str × V), (putF f v fs).lookup g = if g = f then some v else fs.lookup g
  | [] => by
    show List.lookup g [(f, v)] = _
    by_cases h : g = f
    · have hb : (g == f) = true := beq_iff_eq.mpr h
      simp only [List.lookup, hb, if_pos h]
    · have hb : (g == f) = false := beq_eq_false_iff_ne.mpr h
      simp only [List.lookup, hb, if_neg h]
  | (k, x) :: r => by
    have ih := lookup_putF f g v r
    rw [show putF f v ((k, x) :: r) = (if k = f then (k, v) :: r else (k, x) :: putF f v r) from rfl]
    by_cases hk : k = f
    · rw [if_pos hk]
      by_cases h : g = k
      · have hb : (g == k) = true := beq_iff_eq.mpr h
        simp only [List.lookup, hb, if_pos (h.trans hk)]
      · have hb : (g == k) = false := beq_eq_false_iff_ne.mpr h
        simp only [List.lookup, hb, if_neg (fun e : g = f => h (e.trans hk.symm))]
    · rw [if_neg hk]
      by_cases h : g = k
      · have hb : (g == k) = true := beq_iff_eq.mpr h
        simp only [List.lookup, hb, if_neg (fun e : g = f => hk (h.symm.trans e))]
      · have hb : (g == k) = false := beq_eq_false_iff_ne.mpr h
        simp only [List.lookup, hb]
        exact ih
theorem keys_putF (f : Str) (v : V) : ∀ fs : List (Str × V), f ∈ (putF f v fs).map (·.1) ∧ ∀ g, g ∈ fs.map (·.1) → g ∈ (putF f v fs).map (·.1)
  | [] => ⟨by simp [putF], fun g h => by simp at h⟩
  | (k, x) :: r => by
    obtain ⟨i1, i2⟩ := keys_putF f v r
    rw [show putF f v ((k, x) :: r) = (if k = f then (k, v) :: r else (k, x) :: putF f v r) from rfl]
    by_cases hk : k = f
    · rw [if_pos hk]
      subst hk
      exact ⟨by simp, fun g h => by simpa using h⟩
    · rw [if_neg hk]
      refine ⟨?_, fun g h => ?_⟩
      · rw [List.map_cons]
        exact List.mem_cons_of_mem _ i1
      · rw [List.map_cons] at h ⊢
        rcases List.mem_cons.mp h with e | e
        · exact List.mem_cons.mpr (.inl e)
        · exact List.mem_cons_of_mem _ (i2 g e)
theorem length_putF (f : Str) (v : V) : ∀ fs : List (Str × V), (putF f v fs).length ≤ fs.length + 1
  | [] => by simp [putF]
  | (k, x) :: r => by
    have ih := length_putF f v r
    rw [show putF f v ((k, x) :: r) = (if k = f then (k, v) :: r else (k, x) :: putF f v r) from rfl]
    by_cases hk : k = f
    · rw [if_pos hk, List.length_cons, List.length_cons]; omega
    · rw [if_neg hk, List.length_cons, List.length_cons]; omega

theorem RelO.some_of {v : V} {o : Option Value} (r : RelO (some v) o) : ∃ u, o = some u ∧ RelV v u := by
  cases o with
  | none => exact (show False from r).elim
  | some u => exact ⟨u, rfl, r⟩
theorem RelO.none_of {o : Option Value} (r : RelO none o) : o = none := by
  cases o with
  | none => rfl
  | some u => exact (show False from r).elim
theorem handed_of {v : V} {u : Value} (r : RelV v u) : PySem.W.handedIn u = true := by
  cases v with
  | non => cases (show u = Value.none from r); rfl
  | bl b => cases (show u = Value.bool b from r); rfl
  | int i => obtain ⟨t, e⟩ := (show ∃ t, u = Value.int i t from r); cases e; rfl
  | str x => obtain ⟨t, e⟩ := (show ∃ t, u = Value.str x t from r); cases e; rfl
  | byt b => obtain ⟨t, e⟩ := (show ∃ t, u = Value.bytes b t from r); cases e; rfl
  | flt b => obtain ⟨t, e⟩ := (show ∃ t, u = Value.float b t from r); cases e; rfl
  | ref a => cases (show u = Value.ref a from r); rfl
  | ty n => cases (show u = Value.type n from r); rfl

section
variable {P : Program} {w : World} {H H' : Hp} {h h' : Heap} {a C dx : Addr} {fs fs' : List (Str × V)}
theorem ins_get (hok : HOk P w H h) (e : H a = some (.ins C dx fs)) : ∃ mA, ObjM h a dx C mA ∧ (∀ f, RelO (fs.lookup f) (mA f)) ∧ PySem.Within mA (fs.map (·.1)) ∧ fs.length ≤ 1000 ∧ H dx = some (.own a) := by
  obtain ⟨d, z, ne, ob, mA, n, r, q⟩ := (show ObjOk P w H h a (.ins C dx fs) from hok a _ e)
  exact ⟨mA, ⟨ob, n, ne⟩, r, q, z, d⟩
end

/-! ### what of the text a class must have -/
structure Cls (K : PySem.W.Frag) (C : Addr) : Prop where
  pg : PySem.W.plainGet K C Str.empty = true
  hd : PySem.W.hasDictIn K C = true
  po : PySem.W.plainOver K C = true
  sa : PySem.W.findIn K (.ref C) "__setattr__" = some (some (.builtin "object.__setattr__"))
theorem Cls.get {K : PySem.W.Frag} {C : Addr} (c : Cls K C) (f : Str) : PySem.W.plainGet K C f = true := c.pg
/-- no class of it has the name -/
def NoAttr (K : PySem.W.Frag) (C : Addr) (f : Str) : Prop := PySem.W.findIn K (.ref C) f = some none
theorem NoAttr.taker {K : PySem.W.Frag} {C : Addr} {f : Str} (n : NoAttr K C f) : PySem.W.takerIn K C f = some none := by
  unfold PySem.W.takerIn
  rw [show PySem.W.findIn K (.ref C) f = some none from n]
  rfl
/-- a constant of the class -/
structure Con (K : PySem.W.Frag) (C : Addr) (f : Str) (v : V) (u : Value) : Prop where
  at_ : PySem.W.findIn K (.ref C) f = some (some u)
  rel : RelV v u
  get : PySem.W.specialIn K u "__get__" = some none
  cp : PySem.W.copiedNames.contains f = false
/-- a method: a plain def of the class or of one above it -/
structure Meth (K : PySem.W.Frag) (C : Addr) (m : Str) (f : Addr) : Prop where
  at_ : PySem.W.findIn K (.ref C) m = some (some (.ref f))
  fn : PySem.W.isFn K (.ref f) = true
  kp : PySem.W.keepIn K (.ref f) = true

section
variable {X : Cx} {pins : List (Addr × Obj)} {σ : St} {H : Hp} {s : Shared} {a C dx : Addr} {fs : List (Str × V)} {f : Str} {v : V} {A : Around} {E : Value → Shared → Prop}

theorem getattr_ok {b : Bool} {Q : Value → Shared → Prop} (I : Inv X pins σ H s) (e : H a = some (.ins C dx fs)) (c : Cls X.K C) (n : NoAttr X.K C f) (l : fs.lookup f = some v)
    (h : ∀ u s', Inv X pins σ H s' → RelV v u → Q u s') : wpAny (model X.prog X.w) A (getAttr (.ref a) f b) Q E s := by
  obtain ⟨mA, O, r, _, _, _⟩ := ins_get I.hok e
  obtain ⟨u, hu, ru⟩ := RelO.some_of (v := v) (o := mA f) (by rw [← l]; exact r f)
  exact get_map I.kIn O (c.get f) c.hd n hu (handed_of ru) (h u _ (I.tok _) ru)

theorem getmeth_ok {m : Str} {g : Addr} {pl : Sem Bool} {Q : Value × List Value → Shared → Prop} (I : Inv X pins σ H s) (e : H a = some (.ins C dx fs)) (c : Cls X.K C) (k : Meth X.K C m g) (l : fs.lookup m = none)
    (h : Q (.ref g, [.ref a]) s) : wpAny (model X.prog X.w) A (getMethod (.ref a) m pl) Q E s := by
  obtain ⟨mA, O, r, _, _, _⟩ := ins_get I.hok e
  have hn : mA m = none := RelO.none_of (by rw [← l]; exact r m)
  exact get_meth I.kIn O (c.get m) k.at_ k.fn hn h

theorem setattr_ok {y : V} {u : Value} {Q : Unit → Shared → Prop} (I : Inv X pins σ H s) (e : H a = some (.ins C dx fs)) (c : Cls X.K C) (n : NoAttr X.K C f) (hl : fs.length < 1000) (ry : RelV y u)
    (h : ∀ s', Inv X pins σ (upd H a (.ins C dx (putF f y fs))) s' → Q () s') : wpAny (model X.prog X.w) A (setAttr (.ref a) f u) Q E s := by
  obtain ⟨mA, O, r, wi, _, ho⟩ := ins_get I.hok e
  have hz : (fs.map (·.1)).length ≤ sizeLine := by rw [List.length_map, sizeLine_eq]; omega
  refine set_map I.kIn O c.sa c.po n.taker c.hd wi hz fun h' O' sb => h _ ?_
  have hd : ∃ o, h'.get? dx = some o := let ⟨o, _, _, e', _⟩ := O'.ns; ⟨o, e'⟩
  refine I.write (x := a) (e := dx) (by rw [e]; exact True.intro) (.inr ho) (fun b q hb z => (sb.2 b hb).trans z) hd ?_
  refine ⟨by rw [upd_ne O.ne]; exact ho, ?_, O.ne, O'.obj, _, O'.ns, fun g => ?_, fun g hg => ?_⟩
  · have := length_putF f y fs; omega
  · show RelO ((putF f y fs).lookup g) (if g = f then some u else mA g)
    rw [lookup_putF]
    by_cases q : g = f
    · rw [if_pos q, if_pos q]; exact ry
    · rw [if_neg q, if_neg q]; exact r g
  · by_cases q : g = f
    · rw [q]; exact (keys_putF f y fs).1
    · refine (keys_putF f y fs).2 g (wi g fun z => hg ?_)
      show (if g = f then some u else mA g) = none
      rw [if_neg q]; exact z

/-- a new instance, tracked, without attributes -/
theorem Inv.made (I : Inv X pins σ H s) : Inv X pins σ (upd (upd H s.heap.objs.size (.own (s.heap.objs.size + 1))) (s.heap.objs.size + 1) (.ins C s.heap.objs.size []))
    { s with heap := (s.heap.push PySem.W.emptyDict).push (PySem.W.instObj C s.heap.objs.size) } := by
  have e1 : (s.heap.push PySem.W.emptyDict).get? s.heap.objs.size = some PySem.W.emptyDict := Heap.get?_push_size s.heap rfl
  have e2 : ((s.heap.push PySem.W.emptyDict).push (PySem.W.instObj C s.heap.objs.size)).get? (s.heap.objs.size + 1) = some (PySem.W.instObj C s.heap.objs.size) := by
    have := Heap.get?_push_size (s.heap.push PySem.W.emptyDict) (o := PySem.W.instObj C s.heap.objs.size) rfl
    rwa [Heap.size_push] at this
  have e3 : (s.heap.push PySem.W.emptyDict).Ns s.heap.objs.size (fun _ => none) := ⟨PySem.W.emptyDict, #[], _, e1, rfl, (fun e he => absurd he (by simp)), fun _ => rfl⟩
  have I1 := I.laid (a := s.heap.objs.size) (o := .own (s.heap.objs.size + 1)) (h' := s.heap.push PySem.W.emptyDict) (t' := s.toks) (fun b u q => Heap.get?_push_of_some _ q) (Nat.le_refl _) ⟨_, e1⟩
  refine I1.laid (a := s.heap.objs.size + 1) (o := .ins C s.heap.objs.size []) (t' := s.toks) (fun b u q => Heap.get?_push_of_some _ q) (Nat.le_of_eq (Heap.size_push _ _)) ?_
  have ne : s.heap.objs.size ≠ s.heap.objs.size + 1 := Nat.ne_of_lt (Nat.lt_succ_self _)
  refine ⟨by rw [upd_ne ne, upd_same], Nat.zero_le _, ne, e2, fun _ => none, (Heap.Ns1.of_empty e3).at fun o q => Heap.get?_push_of_some _ q, fun _ => True.intro, fun y hy => absurd rfl hy⟩

/-- e.f where nothing but the object is asked: through attributeBase (super) and the last hold -/
theorem attr_of {prog : Program} {w : World} {env : Env} {e : Expr} {f : Str} {pos : Pos} {s : Shared} {Q : Value → Shared → Prop} (hb : attributeBase e f env (eval e env) = eval e env)
    (h : wpAny (model prog w) A (eval e env) (fun o s₁ => wpAny (model prog w) A (getAttr o f true) Q E s₁) E s) : wpAny (model prog w) A (eval (.Attribute e f pos) env) Q E s :=
  Attribute_any_ h (by rw [arm_eval_Attribute, hb])
end

/-! ### readings and rules -/
/-- e.f, an attribute of the instance -/
def tFld (K : PySem.W.Frag) (ta : TE) (f : Str) : TE := fun σ H Q => ta σ H fun x H1 => ∃ a C dx fs v, x = .ref a ∧ H1 a = some (.ins C dx fs) ∧ Cls K C ∧ NoAttr K C f ∧ fs.lookup f = some v ∧ Q v H1
/-- e.f = value -/
def sFld (K : PySem.W.Frag) (ta tv : TE) (f : Str) : TS := fun D σ H => tv σ H fun y H1 => ta σ H1 fun x H2 => ∃ a C dx fs, x = .ref a ∧ H2 a = some (.ins C dx fs) ∧ Cls K C ∧ NoAttr K C f ∧ fs.length < 1000 ∧
  D.nx σ (upd H2 a (.ins C dx (putF f y fs)))
section
variable {X : Cx} {o e value : Expr} {f : Str} {pos pos' tpos : Pos} {ta tv : TE}
theorem pe_fld (he : PE X e ta) (hb : attributeBase e f X.env (eval e X.env) = eval e X.env) : PE X (.Attribute e f pos) (tFld X.K ta f) := by
  intro pins s σ H Q I h
  refine attr_of hb (thn (he pins s σ H _ I h) fun u s1 ⟨x, H1, I1, rx, a, C, dx, fs, v, ex, ea, c, n, l, q⟩ => ?_)
  subst ex
  obtain rfl : u = Value.ref a := rx
  exact getattr_ok I1 ea c n l fun u' s2 I2 ru => ⟨v, H1, I2, ru, q⟩
theorem ps_fld (ha : PE X o ta) (hv : PE X value tv) (hs : swapsWith value (some (.Attribute o f pos')) pos.line X.env = pure false) : PS X (.Assign [.Attribute o f pos'] value pos) (sFld X.K ta tv f) := by
  intro pins s σ H D I h
  refine plainObj_wpAny_Assign_Attribute (thn (hv pins s σ H _ I h) fun u s1 ⟨y, H1, I1, ry, q⟩ => thn (ha pins s1 σ H1 _ I1 q) fun ov s2 ⟨x, H2, I2, rx, a, C, dx, fs, ex, ea, c, n, l, q2⟩ => ?_) hs
  subst ex
  obtain rfl : ov = Value.ref a := rx
  exact setattr_ok I2 ea c n l ry fun s3 I3 => ⟨σ, _, I3, q2⟩
end

/-! ### isinstance -/
section
variable {X : Cx} {pins : List (Addr × Obj)} {σ : St} {H : Hp} {s : Shared} {A : Around} {E : Value → Shared → Prop} {Q : Value → Shared → Prop} {c : Value} {b : Bool}
/-- the type of a value, as the fragment's deciders take it; for an instance its class -/
inductive TyOf (K : PySem.W.Frag) (H : Hp) : V → Value → Prop where
  | non : TyOf K H .non (.type "NoneType")
  | bl (x : Bool) : TyOf K H (.bl x) (.type "bool")
  | int (i : Int) : TyOf K H (.int i) (.type "int")
  | str (x : Str) : TyOf K H (.str x) (.type "str")
  | flt (x : UInt64) : TyOf K H (.flt x) (.type "float")
  | lst {a : Addr} {xs : List V} (e : H a = some (.lst xs)) : TyOf K H (.ref a) (.type "list")
  | frz {a : Addr} {o : Obj} {xs : List V} (e : H a = some (.frz o (.lst xs))) : TyOf K H (.ref a) (.type "list")
  | tup {a : Addr} {xs : List V} (e : H a = some (.tup xs)) : TyOf K H (.ref a) (.type "tuple")
  | dK {a : Addr} {kvs : List (Key × V)} (e : H a = some (.dK kvs)) : TyOf K H (.ref a) (.type "dict")
  | dT {a : Addr} {kvs : List (List Key × V)} (e : H a = some (.dT kvs)) : TyOf K H (.ref a) (.type "dict")
  | ins {a C dx : Addr} {fs : List (Str × V)} (e : H a = some (.ins C dx fs)) (cl : Cls K C) (ha : PySem.W.findIn K (.ref C) "__class__" = some (some (.builtin "object.__class__")))
      (hn : PySem.W.specialIn K (.builtin "object.__class__") "__get__" = some (some (.builtin "getset_descriptor.__get__"))) (htk : PySem.W.takesIn K (.builtin "object.__class__") = some true)
      (hm : PySem.W.mroIn K C (.type "object") = some true) : TyOf K H (.ref a) (.ref C)
/-- isinstance(x, c) for one class c, a built-in or an own one: kitOne's answer -/
theorem isinst_ok {x : V} {u t : Value} (I : Inv X pins σ H s) (rx : RelV x u) (ty : TyOf X.K H x t) (e : PySem.W.kitOne X.K t c = some b) (h : ∀ tk, Q (.bool b) { s with toks := tk }) :
    wpAny (model X.prog X.w) A (call (.builtin "isinstance") [u, c]) Q E s := by
  cases ty with
  | non => cases (show u = Value.none from rx); exact PySem.W.kia_one PySem.W.kitx_none I.kIn True.intro e (fun z => nomatch z) h
  | bl y => cases (show u = Value.bool y from rx); exact PySem.W.kia_one PySem.W.kitx_bool I.kIn True.intro e (fun z => nomatch z) h
  | int i => obtain ⟨t, q⟩ := (show ∃ t, u = Value.int i t from rx); cases q; exact PySem.W.kia_one PySem.W.kitx_int I.kIn True.intro e (fun z => nomatch z) h
  | str y => obtain ⟨t, q⟩ := (show ∃ t, u = Value.str y t from rx); cases q; exact PySem.W.kia_one PySem.W.kitx_str I.kIn True.intro e (fun z => nomatch z) h
  | flt y => obtain ⟨t, q⟩ := (show ∃ t, u = Value.float y t from rx); cases q; exact PySem.W.kia_one PySem.W.kitx_float I.kIn True.intro e (fun z => nomatch z) h
  | @lst a xs ea =>
    cases (show u = Value.ref a from rx)
    obtain ⟨_, _, n, _, h1⟩ := (show ObjOk X.prog X.w H s.heap a (.lst xs) from I.hok a _ ea)
    exact PySem.W.kia_one PySem.W.kitx_list I.kIn ⟨_, h1, rfl⟩ e (fun z => nomatch z) h
  | @frz a ob xs ea =>
    cases (show u = Value.ref a from rx)
    obtain ⟨_, _, _, n, _, h1⟩ := (show ObjOk X.prog X.w H s.heap a (.frz ob (.lst xs)) from I.hok a _ ea)
    exact PySem.W.kia_one PySem.W.kitx_list I.kIn ⟨_, h1, rfl⟩ e (fun z => nomatch z) h
  | @tup a xs ea =>
    cases (show u = Value.ref a from rx)
    obtain ⟨_, _, _, p⟩ := (show ObjOk X.prog X.w H s.heap a (.tup xs) from I.hok a _ ea)
    obtain ⟨o, h1, h2, _⟩ := p
    exact PySem.W.kia_one PySem.W.kitx_tuple I.kIn ⟨o, h1, h2⟩ e (fun z => nomatch z) h
  | @dK a kvs ea =>
    cases (show u = Value.ref a from rx)
    obtain ⟨_, _, vs, _, p⟩ := (show ObjOk X.prog X.w H s.heap a (.dK kvs) from I.hok a _ ea)
    obtain ⟨o, es, ep, h1, h2, _⟩ := p
    exact PySem.W.kia_one PySem.W.kitx_dict I.kIn ⟨o, h1, h2.1⟩ e (fun z => nomatch z) h
  | @dT a kvs ea => exact (show False from I.hok a _ ea).elim
  | @ins a C dx fs ea cl ha hn htk hm =>
    cases (show u = Value.ref a from rx)
    obtain ⟨mA, O, _⟩ := ins_get I.hok ea
    obtain ⟨od, J, _⟩ := O.look
    exact PySem.W.kia_one (PySem.W.kitx_own (cl.get _) cl.hd ha hn htk hm) I.kIn J e (fun z => nomatch z) h
end
end L2

namespace L2
open PySem PySem.Spec PyProof.Rows

/-! ### room -/
structure Room (k : Nat) (A : Around) : Prop where
  hd : A.handled = none
  dp : A.depth + 3 * k + 5 < recursionLimit
  un : A.units + 16 * k + 200 < cLine
theorem Room.mono {j k : Nat} {A : Around} (r : Room k A) (h : j ≤ k) : Room j A := ⟨r.hd, by have := r.dp; omega, by have := r.un; omega⟩
theorem Room.deeper {k : Nat} {A : Around} (r : Room (k + 1) A) (env : Env) : Room k (A.deeper env) :=
  ⟨r.hd, by have := r.dp; show A.depth + 1 + 3 * k + 5 < _; omega, by have := r.un; show A.units + 3 + 16 * k + 200 < _; omega⟩
theorem Room.in1 {k : Nat} {A : Around} (r : Room (k + 1) A) : Room k A.in1 :=
  ⟨r.hd, by have := r.dp; show A.depth + 3 * k + 5 < _; omega, by have := r.un; show A.units + 1 + 16 * k + 200 < _; omega⟩
theorem make_depth {A : Around} {C : Addr} {us : List Value} {kw : List (Str × Value)} : (A.under (.builtin "type.__call__" ⟨.ref C :: us, kw⟩)).depth = A.depth + 1 := by
  first | rfl | simp [Around.under, Code.weight, Code.isCreation, Code.isGuard, Code.isCaller, Code.frames, Code.isFrame, guardIds]
theorem make_units {A : Around} {C : Addr} {us : List Value} {kw : List (Str × Value)} : (A.under (.builtin "type.__call__" ⟨.ref C :: us, kw⟩)).units = A.units + 1 := by
  first | rfl | simp [Around.under, Code.cUnits, Code.frames, Code.isFrame]
theorem Room.make {k : Nat} {A : Around} (r : Room (k + 1) A) (C : Addr) (us : List Value) (kw : List (Str × Value)) : Room k (A.under (.builtin "type.__call__" ⟨.ref C :: us, kw⟩)) :=
  ⟨r.hd, by have := r.dp; rw [make_depth]; omega, by have := r.un; rw [make_units]; omega⟩
theorem Room.depth {k : Nat} {A : Around} (r : Room k A) : A.depth < recursionLimit := by have := r.dp; omega
theorem Room.units {k : Nat} {A : Around} (r : Room k A) : A.units + 64 < cLine := by have := r.un; omega
/-! ### argument lists and displays -/
def tNil : TA := fun _ H Q => Q [] H
def tCons (ta : TE) (tr : TA) : TA := fun σ H Q => ta σ H fun x H1 => tr σ H1 fun xs H2 => Q (x :: xs) H2
section
variable {X : Cx} {e : Expr} {es : List Expr} {te : TE} {t : TA} {pos : Pos}
theorem pa_nil : PA X [] tNil := fun _ _ _ _ H Q I h => Calls.spliced_nil ⟨[], H, I, .nil, h⟩
theorem pa_cons (ha : PE X e te) (hr : PA X es t) (hs : starEach (e :: es) X.env = (false, eval e X.env) :: starEach es X.env := by rfl) : PA X (e :: es) (tCons te t) := by
  intro pos pins s σ H Q I h
  rw [hs]
  show wpAny _ _ (spliced ((false, eval e X.env) :: backTo pos (starEach es X.env))) _ _ s
  refine Calls.spliced_cons (thn (ha pins s σ H _ I h) fun u s1 ⟨x, H1, I1, r1, q1⟩ => ?_)
  exact thn (hr pos pins s1 σ H1 _ I1 q1) fun us s2 ⟨xs, H2, I2, r2, q2⟩ => ⟨x :: xs, H2, I2, .cons r1 r2, q2⟩

/-- a tuple, a list of written items -/
def tTup (t : TA) : TE := fun σ H Q => t σ H fun xs H1 => xs.length ≤ sizeLine ∧ ∀ p, H1 p = none → Q (.ref p) (upd H1 p (.tup xs))
def tLst (t : TA) : TE := fun σ H Q => t σ H fun xs H1 => xs.length ≤ sizeLine ∧ ∀ p, H1 p = none → Q (.ref p) (upd H1 p (.lst xs))
theorem pe_tup {x1} (h : PA X es t) : PE X (.Tuple es x1 pos) (tTup t) := by
  intro pins s σ H Q I hq
  refine wpAny_Tuple_spliced (thn (h pos pins s σ H _ I hq) fun us s1 ⟨xs, H1, I1, r, z, q⟩ => ⟨by rw [← r.length]; exact z, ?_⟩)
  have hf : H1 s1.heap.objs.size = none := I1.hok.fresh (Nat.le_refl _)
  refine ⟨.ref s1.heap.objs.size, upd H1 s1.heap.objs.size (.tup xs), I1.laid (t' := s1.toks) (fun b u e => Heap.get?_push_of_some _ e) (Nat.le_refl _) ?_, rfl, q _ hf⟩
  exact ⟨z, us, r, ⟨_, Heap.get?_push_size _ rfl, rfl, _, rfl⟩⟩
theorem pe_lst (h : PA X es t) : PE X (.List es pos) (tLst t) := by
  intro pins s σ H Q I hq
  refine wpAny_List_spliced (thn (h pos pins s σ H _ I hq) fun us s1 ⟨xs, H1, I1, r, z, q⟩ => ⟨by rw [← r.length]; exact z, ?_⟩)
  have hf : H1 s1.heap.objs.size = none := I1.hok.fresh (Nat.le_refl _)
  refine ⟨.ref s1.heap.objs.size, upd H1 s1.heap.objs.size (.lst xs), I1.laid (t' := s1.toks) (fun b u e => Heap.get?_push_of_some _ e) (Nat.le_refl _) ?_, rfl, q _ hf⟩
  exact ⟨z, us, 0, r, Heap.get?_push_size _ rfl⟩
end

/-! ### what a def promises -/
/-- a def's promise: the bound arguments in the parameters' order, the heap, the wanted end, the wanted exception -/
abbrev Sp := List V → Hp → VK → XK → Prop
/-- how an exception lies behind a call (file 08 gives it): the callers' frames, abstract heap and state ahead of the call, the wish, the exception, the state -/
abbrev CXT := List Env → Hp → Shared → XK → Value → Shared → Prop

/-- the state at a call -/
structure Env0 (P : Program) (w : World) (K : PySem.W.Frag) (mg : Str → Option Value) (base : Heap) (A : Around) (outer : List Env) (s : Shared) (H : Hp) : Prop where
  frames : A.frames = some outer
  mod : Mod K mg base
  bs : ∀ b o, base.get? b = some o → s.heap.get? b = some o ∧ H b = none
  bsz : base.objs.size ≤ s.heap.objs.size
  funs : s.heap.FunFrames base outer
  frf : ∀ b ∈ frs outer, H b = none
  hok : HOk P w H s.heap
  bare : AllBare s.gens
/-- a call's end -/
def CE (outer : List Env) (P : Program) (w : World) (H : Hp) (s : Shared) (Q : VK) (u : Value) (s' : Shared) : Prop :=
  ∃ v H', s'.os = s.os ∧ AllBare s'.gens ∧ Un (frs outer) [] H H' s.heap s'.heap ∧ HOk P w H' s'.heap ∧ RelV v u ∧ Q v H'
def CR (CX : CXT) (outer : List Env) (P : Program) (w : World) (H : Hp) (s : Shared) (Q : VK) (E : XK) (r : Result) (s' : Shared) : Prop :=
  match r with
  | .ok (.ret u) => CE outer P w H s Q u s'
  | .ok _ => False
  | .error e => CX outer H s E e s'
structure FnOk (P : Program) (w : World) (K : PySem.W.Frag) (mg : Str → Option Value) (base : Heap) (CX : CXT) (k : Nat) (f : Addr) (fd : FuncData) (ps : List Str) (sp : Sp) : Prop where
  len : ∀ vs H Q E, sp vs H Q E → vs.length = ps.length
  run : ∀ (A : Around) (outer : List Env) (s : Shared) (H : Hp) (args : Args) (us : List Value) (vs : List V) (Q : VK) (E : XK), Room k A → Env0 P w K mg base A outer s H → BindsTo s fd args (ps.zip us) → Vals vs us → sp vs H Q E →
    codeAny (model P w) A (.call (.ref f) args) (CR CX outer P w H s Q E) s
theorem FnOk.mono {P : Program} {w : World} {K : PySem.W.Frag} {mg : Str → Option Value} {base : Heap} {CX : CXT} {j k : Nat} {f : Addr} {fd : FuncData} {ps : List Str} {sp : Sp} (F : FnOk P w K mg base CX j f fd ps sp) (h : j ≤ k) :
    FnOk P w K mg base CX k f fd ps sp := ⟨F.len, fun A outer s H args us vs Q E hr => F.run A outer s H args us vs Q E (hr.mono h)⟩
theorem Env0.make {P : Program} {w : World} {K : PySem.W.Frag} {mg : Str → Option Value} {base : Heap} {A : Around} {outer : List Env} {s : Shared} {H : Hp} (e : Env0 P w K mg base A outer s H) (C : Addr) (us : List Value) (kw : List (Str × Value)) :
    Env0 P w K mg base (A.under (.builtin "type.__call__" ⟨.ref C :: us, kw⟩)) outer s H := ⟨by first | exact e.frames | (simpa [Around.under, Code.envs, Code.isFrame, pushEnvs] using e.frames), e.mod, e.bs, e.bsz, e.funs, e.frf, e.hok, e.bare⟩
theorem Env0.in1 {P : Program} {w : World} {K : PySem.W.Frag} {mg : Str → Option Value} {base : Heap} {A : Around} {outer : List Env} {s : Shared} {H : Hp} (e : Env0 P w K mg base A outer s H) :
    Env0 P w K mg base A.in1 outer s H := ⟨e.frames, e.mod, e.bs, e.bsz, e.funs, e.frf, e.hok, e.bare⟩

section
variable {X : Cx} {pins : List (Addr × Obj)} {σ : St} {H : Hp} {s s' : Shared}
/-- from a body: what a callee wants -/
theorem Inv.env0 (I : Inv X pins σ H s) : Env0 X.prog X.w X.K X.mg X.base X.A X.stack s H :=
  ⟨I.ok.frames, I.ok.mod, I.bs, Nat.le_trans I.ok.bsz I.sz, I.stack, I.stkFree, I.hok, I.bare⟩
/-- behind a call -/
theorem Inv.after {Q : VK} {u : Value} (I : Inv X pins σ H s) (h : CE X.stack X.prog X.w H s Q u s') : EP X pins σ Q u s' := by
  obtain ⟨v, H', os, bare, un, hok, r, q⟩ := h
  obtain ⟨hh, g, d, t, os'⟩ := s'
  obtain rfl : os' = s.os := os
  exact ⟨v, H', I.call (h' := hh) (g' := g) (d' := d) (t' := t) (ch := []) un hok bare (fun b z => absurd z (by simp)), r, q⟩
end

/-! ### calls -/
/-- f(..): the written arguments, then the defaults dvs; E: what is wanted of an exception -/
def tCall (sp : Sp) (dvs : List V) (E : XK) (t : TA) : TE := fun σ H Q => t σ H fun vs H1 => sp (vs ++ dvs) H1 Q E
/-- o.m(..) of an instance of the class at C -/
def tMeth (C : Addr) (m : Str) (sp : Sp) (dvs : List V) (E : XK) (ta : TE) (t : TA) : TE := fun σ H Q => ta σ H fun x H1 => ∃ a dx fs, x = .ref a ∧ H1 a = some (.ins C dx fs) ∧ fs.lookup m = none ∧
  t σ H1 fun vs H2 => sp (x :: (vs ++ dvs)) H2 Q E
/-- C(..): a new instance and its dict, then __init__ -/
def tMake (C : Addr) (sp : Sp) (dvs : List V) (E : XK) (t : TA) : TE := fun σ H Q => t σ H fun vs H1 => ∀ x dx, H1 x = none → H1 dx = none → dx ≠ x →
  sp (.ref x :: (vs ++ dvs)) (upd (upd H1 dx (.own x)) x (.ins C dx [])) (fun v H2 => v = .non ∧ Q (.ref x) H2) E

/-- how the parameters are bound: us the positional arguments, kw the keywords' values by name, ds the defaults that fill up -/
def Binds (K : PySem.W.Frag) (fd : FuncData) (ps : List Str) (ds : List Value) : Prop :=
  ∀ (s : Shared) (us : List Value), K.In s.heap → (us ++ ds).length = ps.length → BindsTo s fd ⟨us, []⟩ (ps.zip (us ++ ds))
/-- every parameter is given -/
theorem Binds.all {K : PySem.W.Frag} {fd : FuncData} {ps : List Str} (h : ∀ us : List Value, us.length = ps.length → bindArgs fd ⟨us, []⟩ = pure (ps.zip us)) : Binds K fd ps [] := fun s us _ hl => by
  rw [List.append_nil] at hl ⊢
  exact .of_eq (h us hl)

/-- an exception of a callee reaches what this body wants of exceptions -/
def Passes (CX : CXT) (X : Cx) (E : XK) : Prop := ∀ (pins : List (Addr × Obj)) (σ : St) (H : Hp) (s : Shared) (e : Value) (s' : Shared), Inv X pins σ H s → CX X.stack H s E e s' → X.xe e s'

section
variable {X : Cx} {CX : CXT} {k : Nat} {f C : Addr} {fd : FuncData} {ps : List Str} {sp : Sp} {dvs : List V} {ds : List Value} {E : XK} {x m : Str} {p pos apos : Pos} {e o : Expr} {es : List Expr} {ta : TE} {t : TA}

/-- the callee runs -/
theorem run_fn {pins : List (Addr × Obj)} {σ : St} {H : Hp} {s : Shared} {Q : VK} {us : List Value} {vs : List V} (F : FnOk X.prog X.w X.K X.mg X.base CX k f fd ps sp) (hr : Room k X.A) (hb : Binds X.K fd ps ds) (hd : Vals dvs ds) (hx : Passes CX X E)
    (I : Inv X pins σ H s) (r : Vals vs us) (h : sp (vs ++ dvs) H Q E) : wpAny (model X.prog X.w) X.A (call (.ref f) us) (EP X pins σ Q) X.xe s := by
  have r2 : Vals (vs ++ dvs) (us ++ ds) := r.append hd
  have hl : (us ++ ds).length = ps.length := by rw [← r2.length]; exact F.len _ _ _ _ h
  refine wpAny_call (codeAny_mono (F.run X.A X.stack s H ⟨us, []⟩ (us ++ ds) (vs ++ dvs) Q E hr I.env0 (hb s us I.kIn hl) r2 h) fun r s' hq => ?_)
  cases r with
  | error e => exact hx pins σ H s e s' I hq
  | ok fl =>
    cases fl with
    | ret u => exact I.after hq
    | next => exact False.elim hq
    | brk => exact False.elim hq
    | cont => exact False.elim hq

theorem pe_call (F : FnOk X.prog X.w X.K X.mg X.base CX k f fd ps sp) (hr : Room k X.A) (hg : Gl X x) (hm : X.mg x = some (.ref f)) (hk : PySem.W.keepIn X.K (.ref f) = true) (hb : Binds X.K fd ps ds) (hd : Vals dvs ds) (hx : Passes CX X E)
    (ha : PA X (e :: es) t) (hdb : (x == ("__debug__" : Str)) = false := by decide) (he : starEach (e :: es) X.env = (false, eval e X.env) :: starEach es X.env := by rfl) (hpl : (backTo pos (starEach es X.env)).any (·.1) = false := by rfl) :
    PE X (.Call (.Name x p) (e :: es) [] pos) (tCall sp dvs E t) := by
  intro pins s σ H Q I h
  refine wpAny_Call_Name_kw (ld_glob I hg hm ?_ hdb)
  refine PySem.W.callWith_K (h₀ := X.base) I.ok.mod.kin hk (thn (ha pos pins s σ H _ I h) fun us s1 ⟨vs, H1, I1, r, q⟩ => ⟨I1.kIn, ?_⟩) he hpl
  exact run_fn F hr hb hd hx I1 r q
/-- o.m(e, ..) -/
theorem pe_meth {pl : Sem Bool} (he : PE X o ta) (c : Cls X.K C) (hm : Meth X.K C m f) (F : FnOk X.prog X.w X.K X.mg X.base CX k f fd ps sp) (hr : Room k X.A) (hb : Binds X.K fd ps ds) (hd : Vals dvs ds) (hx : Passes CX X E) (ha : PA X (e :: es) t)
    (hst : starEach (e :: es) X.env = (false, eval e X.env) :: starEach es X.env := by rfl) (hpl : (backTo pos (starEach es X.env)).any (·.1) = false := by rfl)
    (ht : eval (.Call (.Attribute o m apos) (e :: es) [] pos) X.env = (do
      let ov ← eval o X.env
      standAt apos.atName
      let (f, first) ← holding [ov] (getMethod ov m pl)
      callWith pos f first (backTo pos (starEach (e :: es) X.env)) (backToKw pos (keywordEach [] X.env))) := by rfl) :
    PE X (.Call (.Attribute o m apos) (e :: es) [] pos) (tMeth C m sp dvs E ta t) := by
  intro pins s σ H Q I h
  refine PySem.W.methodCall_KW (pl := pl) (thn (he pins s σ H _ I h) fun u s1 ⟨x, H1, I1, rx, a, dx, fs, ex, ea, l, q⟩ => ?_) ht
  subst ex
  obtain rfl : u = Value.ref a := rx
  refine getmeth_ok I1 ea c hm l ?_
  refine PySem.W.callWith_K (first := [.ref a]) (h₀ := X.base) I.ok.mod.kin hm.kp (thn (ha pos pins s1 σ H1 _ I1 q) fun us s2 ⟨vs, H2, I2, r, q2⟩ => ⟨I2.kIn, ?_⟩) hst hpl
  exact run_fn (us := .ref a :: us) (vs := .ref a :: vs) F hr hb hd hx I2 (.cons rfl r) q2
/-- o.m() -/
theorem pe_meth0 {pl : Sem Bool} (he : PE X o ta) (c : Cls X.K C) (hm : Meth X.K C m f) (F : FnOk X.prog X.w X.K X.mg X.base CX k f fd ps sp) (hr : Room k X.A) (hb : Binds X.K fd ps ds) (hd : Vals dvs ds) (hx : Passes CX X E)
    (ht : eval (.Call (.Attribute o m apos) [] [] pos) X.env = (do
      let ov ← eval o X.env
      standAt apos.atName
      let (f, first) ← holding [ov] (getMethod ov m pl)
      callWith pos f first (backTo pos (starEach [] X.env)) (backToKw pos (keywordEach [] X.env))) := by rfl) :
    PE X (.Call (.Attribute o m apos) [] [] pos) (tMeth C m sp dvs E ta tNil) := by
  intro pins s σ H Q I h
  refine PySem.W.methodCall_KW (pl := pl) (thn (he pins s σ H _ I h) fun u s1 ⟨x, H1, I1, rx, a, dx, fs, ex, ea, l, q⟩ => ?_) ht
  subst ex
  obtain rfl : u = Value.ref a := rx
  refine getmeth_ok I1 ea c hm l ?_
  exact PySem.W.callWith_K0 (first := [.ref a]) I1.kIn hm.kp (run_fn (us := [.ref a]) (vs := [.ref a]) F hr hb hd hx I1 (.cons rfl .nil) q)

/-- what a class must have to be made -/
structure Mk (K : PySem.W.Frag) (C f : Addr) : Prop where
  makes : PySem.W.makesIn K C = true
  init : PySem.W.findIn K (.ref C) "__init__" = some (some (.ref f))
  fn : PySem.W.isFn K (.ref f) = true
  kp : PySem.W.keepIn K (.ref C) = true

theorem run_make {pins : List (Addr × Obj)} {σ : St} {H : Hp} {s : Shared} {Q : VK} {us : List Value} {vs : List V} (M : Mk X.K C f) (F : FnOk X.prog X.w X.K X.mg X.base CX k f fd ps sp) (hr : Room (k + 1) X.A) (hb : Binds X.K fd ps ds) (hd : Vals dvs ds)
    (hx : Passes CX X E) (I : Inv X pins σ H s) (r : Vals vs us)
    (h : ∀ x dx, H x = none → H dx = none → dx ≠ x → sp (.ref x :: (vs ++ dvs)) (upd (upd H dx (.own x)) x (.ins C dx [])) (fun v H2 => v = .non ∧ Q (.ref x) H2) E) :
    wpAny (model X.prog X.w) X.A (call (.ref C) us) (EP X pins σ Q) X.xe s := by
  have hq := h (s.heap.objs.size + 1) s.heap.objs.size (I.hok.fresh (Nat.le_succ _)) (I.hok.fresh (Nat.le_refl _)) (Nat.ne_of_lt (Nat.lt_succ_self _))
  have I2 := Inv.made (C := C) I
  have r2 : Vals (V.ref (s.heap.objs.size + 1) :: (vs ++ dvs)) (Value.ref (s.heap.objs.size + 1) :: (us ++ ds)) := .cons rfl (r.append hd)
  have hl : (Value.ref (s.heap.objs.size + 1) :: us ++ ds).length = ps.length := by
    have e := r2.length
    rw [F.len _ _ _ _ hq] at e
    exact e.symm
  refine wpAny_call (make_map (f := f) I.kIn M.makes M.init (beq_iff_eq.mp M.fn) (codeAny_mono (F.run _ X.stack _ _ ⟨Value.ref (s.heap.objs.size + 1) :: us, []⟩ (Value.ref (s.heap.objs.size + 1) :: (us ++ ds)) _ _ E (hr.make C us [])
    (I2.env0.make C us []) (hb _ (Value.ref (s.heap.objs.size + 1) :: us) I2.kIn hl) r2 hq) fun r s' hq' => ?_))
  cases r with
  | error e => exact hx pins σ _ _ e s' I2 hq'
  | ok fl =>
    cases fl with
    | ret u =>
      obtain ⟨v, H', I3, rv, ev, q3⟩ := I2.after hq'
      subst ev
      exact ⟨rv, ⟨V.ref (s.heap.objs.size + 1), H', I3, rfl, q3⟩⟩
    | next => exact False.elim hq'
    | brk => exact False.elim hq'
    | cont => exact False.elim hq'
theorem pe_make (M : Mk X.K C f) (F : FnOk X.prog X.w X.K X.mg X.base CX k f fd ps sp) (hr : Room (k + 1) X.A) (hg : Gl X x) (hm : X.mg x = some (.ref C)) (hb : Binds X.K fd ps ds) (hd : Vals dvs ds) (hx : Passes CX X E)
    (ha : PA X (e :: es) t) (hdb : (x == ("__debug__" : Str)) = false := by decide) (he : starEach (e :: es) X.env = (false, eval e X.env) :: starEach es X.env := by rfl) (hpl : (backTo pos (starEach es X.env)).any (·.1) = false := by rfl) :
    PE X (.Call (.Name x p) (e :: es) [] pos) (tMake C sp dvs E t) := by
  intro pins s σ H Q I h
  refine wpAny_Call_Name_kw (ld_glob I hg hm ?_ hdb)
  refine PySem.W.callWith_K (h₀ := X.base) I.ok.mod.kin M.kp (thn (ha pos pins s σ H _ I h) fun us s1 ⟨vs, H1, I1, r, q⟩ => ⟨I1.kIn, ?_⟩) he hpl
  exact run_make M F hr hb hd hx I1 r q
end

/-! ### keywords -/
section
variable {X : Cx} {CX : CXT} {k : Nat} {f C : Addr} {fd : FuncData} {ps ks : List Str} {sp : Sp} {E : XK} {x m : Str} {p pos apos kpos : Pos} {e o : Expr} {es : List Expr} {kws : List Keyword} {te ta : TE} {t tk : TA} {nm : Option Str}
/-- how a call with keywords binds: g puts the positional values us and the keywords' values ws (names ks) in the parameters' order, defaults among them -/
structure KBinds (K : PySem.W.Frag) (fd : FuncData) (ps ks : List Str) (g : List Value → List Value → List Value) (gV : List V → List V → List V) : Prop where
  to : ∀ (s : Shared) (us ws : List Value), K.In s.heap → (g us ws).length = ps.length → BindsTo s fd ⟨us, ks.zip ws⟩ (ps.zip (g us ws))
  rel : ∀ {vs : List V} {us : List Value} {zs : List V} {ws : List Value}, Vals vs us → Vals zs ws → Vals (gV vs zs) (g us ws)
variable {g : List Value → List Value → List Value} {gV : List V → List V → List V}
end

/-! ### a def's body keeps its promise -/
/-- names: the parameters first -/
structure FnScope (N P : List Str) (sc : Scope) : Prop where
  kind : sc.kind = .function
  co : sc.isCoroutine = false
  gen : sc.isGenerator = false
  nd : N.Nodup
  pre : N.take P.length = P
  par : ∀ x ∈ P, sc.names.lookup x = some .local ∨ sc.names.lookup x = some .cell
  nofree : ∀ y ∈ sc.names, y.2 ≠ .free

theorem bindL_out {kindOf : Str → Option NameKind} {x : Str} : ∀ {binds : List (Str × Value)} {m : Str → Option Value}, (∀ v, (x, v) ∉ binds) → bindL kindOf binds m x = m x
  | [], _, _ => rfl
  | (n, v) :: r, m, h => by
    unfold bindL
    rw [bindL_out fun w hw => h w (List.mem_cons_of_mem _ hw)]
    split
    · have : x ≠ n := by rintro rfl; exact h v List.mem_cons_self
      simp [this]
    · rfl
theorem bindC_out {kindOf : Str → Option NameKind} {x : Str} : ∀ {binds : List (Str × Value)} {m : Str → Option Value}, (∀ v, (x, v) ∉ binds) → bindC kindOf binds m x = m x
  | [], _, _ => rfl
  | (n, v) :: r, m, h => by
    unfold bindC
    rw [bindC_out fun w hw => h w (List.mem_cons_of_mem _ hw)]
    split
    · rfl
    · have : x ≠ n := by rintro rfl; exact h v List.mem_cons_self
      simp [this]
theorem bindL_get {kindOf : Str → Option NameKind} {x : Str} {v : Value} : ∀ {P : List Str} {vs : List Value} {i : Nat} {m : Str → Option Value}, P.Nodup → P[i]? = some x → vs[i]? = some v → kindOf x = some .local →
    bindL kindOf (P.zip vs) m x = some v
  | [], _, _, _, _, h, _, _ => by simp at h
  | _ :: _, [], _, _, _, _, h, _ => by simp at h
  | p :: P, w :: vs, 0, m, nd, h1, h2, hk => by
    simp at h1 h2; subst h1; subst h2
    show bindL kindOf ((p, w) :: P.zip vs) m p = _
    unfold bindL
    rw [bindL_out fun v hv => (List.nodup_cons.mp nd).1 (List.of_mem_zip hv).1, if_pos hk]
    simp
  | p :: P, w :: vs, i + 1, m, nd, h1, h2, hk => by
    show bindL kindOf ((p, w) :: P.zip vs) m x = _
    unfold bindL
    exact bindL_get (i := i) (List.nodup_cons.mp nd).2 (by simpa using h1) (by simpa using h2) hk
theorem bindC_get {kindOf : Str → Option NameKind} {x : Str} {v : Value} : ∀ {P : List Str} {vs : List Value} {i : Nat} {m : Str → Option Value}, P.Nodup → P[i]? = some x → vs[i]? = some v → kindOf x ≠ some .local →
    bindC kindOf (P.zip vs) m x = some v
  | [], _, _, _, _, h, _, _ => by simp at h
  | _ :: _, [], _, _, _, _, h, _ => by simp at h
  | p :: P, w :: vs, 0, m, nd, h1, h2, hk => by
    simp at h1 h2; subst h1; subst h2
    show bindC kindOf ((p, w) :: P.zip vs) m p = _
    unfold bindC
    rw [bindC_out fun v hv => (List.nodup_cons.mp nd).1 (List.of_mem_zip hv).1, if_neg hk]
    simp
  | p :: P, w :: vs, i + 1, m, nd, h1, h2, hk => by
    show bindC kindOf ((p, w) :: P.zip vs) m x = _
    unfold bindC
    exact bindC_get (i := i) (List.nodup_cons.mp nd).2 (by simpa using h1) (by simpa using h2) hk

/-- the names' values at the entry -/
def start (N : List Str) (vs : List V) : St := vs.map some ++ List.replicate (N.length - vs.length) none

/-- the context of a def's body, at its entry; an exception leaves the frame, then lies as CX says -/
def cxOf (CX : CXT) (P : Program) (w : World) (K : PySem.W.Frag) (mg : Str → Option Value) (base : Heap) (N : List Str) (qual : Str) (scope : Scope) (f : Addr) (cd : Value) (A : Around) (outer : List Env) (s : Shared) (H : Hp) (E : XK) : Cx where
  prog := P
  w := w
  K := K
  mg := mg
  base := base
  A := A.deeper (envOfC qual scope s.heap.objs.size f cd)
  N := N
  s₀ := s
  H₀ := H
  env := envOfC qual scope s.heap.objs.size f cd
  outer := outer
  stack := envOfC qual scope s.heap.objs.size f cd :: outer
  ex := []
  calm := true
  fn := fun _ => true
  pn := []
  xe := fun e s' => wpAny (model P w) (A.deeper (envOfC qual scope s.heap.objs.size f cd)) (leaving (envOfC qual scope s.heap.objs.size f cd) e) (fun _ s'' => CX outer H s E e s'') (fun e' s'' => CX outer H s E e' s'') s'

theorem cell_has {sc : Scope} {n : Nat} {x : Str} (h : sc.names.lookup x = some .cell) : ∃ c, (cellsFrom n sc.names []).lookup x = some c := by
  have q := PySem.W.cellsFrom_some sc.names n [] (.inl h)
  exact Option.isSome_iff_exists.mp q

theorem inv_start {CX : CXT} {P : Program} {w : World} {K : PySem.W.Frag} {mg : Str → Option Value} {base : Heap} {N ps : List Str} {qual : Str} {scope : Scope} {f : Addr} {cd : Value} {A : Around} {outer : List Env} {s s1 : Shared} {H : Hp} {E : XK} {us : List Value} {vs : List V}
    (S : FnScope N ps scope) (hd : A.handled = none) (e0 : Env0 P w K mg base A outer s H) (hl : vs.length = ps.length) (r : Vals vs us)
    (x : InCallC s s.heap.objs.size (bindL (envOfC qual scope s.heap.objs.size f cd).kindOf (ps.zip us) fun _ => none) (cellsFrom (s.heap.objs.size + 1) scope.names []) (bindC (envOfC qual scope s.heap.objs.size f cd).kindOf (ps.zip us) fun _ => none) s1) :
    Inv (cxOf CX P w K mg base N qual scope f cd A outer s H E) [] (start N vs) H s1 := by
  have hpl : ps.length ≤ N.length := by have := congrArg List.length S.pre; rw [List.length_take] at this; omega
  obtain ⟨h1, tk, rfl, hk⟩ := x.done
  have noA : ∀ b : Addr, b ∉ (cxOf CX P w K mg base N qual scope f cd A outer s H E).ex := fun b z => absurd (show b ∈ ([] : List Addr) from z) (by simp)
  refine ⟨⟨e0.mod, S.kind, rfl, rfl, Nat.le_refl _, fun y z c h1 h2 => ?_, fun y hy => ?_, fun y c _ h => ?_, fun _ => hd, Around.frames_deeper e0.frames, .inr ⟨rfl, rfl⟩, fun b z => absurd z (noA b), e0.bs, e0.bsz, fun b _ _ => noA b, fun b z => absurd z (noA b), e0.funs, e0.frf⟩,
    rfl, e0.bare, Un.kept hk, ⟨_, x.toInCall.ns, fun i y v h1 h2 h3 => ?_⟩, fun y c h => ⟨_, x.cell y c h⟩, e0.hok.fresh (Nat.le_refl _), fun y c h => ?_, fun p hp => absurd (show p ∈ ([] : List (Addr × Obj)) from hp) (by simp), e0.hok.kept hk, ?_⟩
  · exact name_of_addr x.apart (PySem.mem_of_lookup h1) (PySem.mem_of_lookup h2)
  · have hy : scope.names.lookup y = some .cell ∨ scope.names.lookup y = some .free := hy
    rcases hy with hy | hy
    · exact cell_has hy
    · exact absurd rfl (S.nofree _ (PySem.mem_of_lookup hy))
  · exact Nat.le_of_lt (x.above y c (PySem.mem_of_lookup h))
  · have hi : i < vs.length := by
      unfold start at h2
      by_cases hi : i < vs.length
      · exact hi
      · rw [List.getElem?_append_right (by simpa using hi)] at h2
        rw [List.getElem?_replicate] at h2
        split at h2 <;> cases h2
    have ha : vs[i]? = some v := by
      unfold start at h2
      rw [List.getElem?_append_left (by simpa using hi), List.getElem?_map] at h2
      cases e : vs[i]? with
      | none => rw [e] at h2; cases h2
      | some a => rw [e] at h2; cases h2; rfl
    obtain ⟨u, hu, rv⟩ := r.get ha
    have hp : ps[i]? = some y := by
      rw [← S.pre, List.getElem?_take_of_lt (by omega)]; exact h1
    have ndP : ps.Nodup := by rw [← S.pre]; exact S.nd.sublist (List.take_sublist _ _)
    refine ⟨u, rv, ?_⟩
    rcases S.par y (List.mem_of_getElem? hp) with k | k
    · exact .inl ⟨k, bindL_get ndP hp hu k⟩
    · obtain ⟨c, e⟩ := cell_has (n := s.heap.objs.size + 1) k
      refine .inr ⟨.inl k, c, e, ?_⟩
      have q := x.cell y c e
      rw [bindC_get ndP hp hu (by show scope.names.lookup y ≠ _; rw [k]; decide)] at q
      exact q
  · exact e0.hok.fresh (Nat.le_of_lt (x.above y c (PySem.mem_of_lookup h)))
  · unfold start
    show _ = N.length
    rw [List.length_append, List.length_map, List.length_replicate]
    omega

/-- THE RULE: a def (or a method) of the text, by its body. The body's reading t is chosen for each entry; it is run at the parameters' values -/
theorem fn_of {CX : CXT} {P : Program} {w : World} {K : PySem.W.Frag} {mg : Str → Option Value} {base : Heap} {k : Nat} {f : Addr} {name qual : Str} {params : Arguments} {body : List Stmt} {scope : Scope} {dV kV doc pm cdv ct oc : Value} {an od : Option Addr}
    {osl : Array (Option Value)} {N ps : List Str} {sp : Sp} (lk : K.lookup f = some ⟨oc, od, .func (PySem.W.fnOf name qual params body scope dV kV doc pm an cdv ct), osl⟩) (hcd : PySem.W.codeIn K cdv qual = true) (S : FnScope N ps scope)
    (len : ∀ vs H Q E, sp vs H Q E → vs.length = ps.length)
    (hbody : ∀ (A : Around) (outer : List Env) (s : Shared) (H : Hp) (vs : List V) (Q : VK) (E : XK), Room k (A.deeper (envOfC qual scope s.heap.objs.size f cdv)) → sp vs H Q E →
      ∃ t, PSs (cxOf CX P w K mg base N qual scope f cdv A outer s H E) body t ∧ t { nx := fun _ H' => Q .non H', rt := Q } (start N vs) H) :
    FnOk P w K mg base CX (k + 1) f (PySem.W.fnOf name qual params body scope dV kV doc pm an cdv ct) ps sp := by
  refine ⟨len, fun A outer s H args us vs Q E hr e0 hb r hsp => ?_⟩
  have hl := len _ _ _ _ hsp
  have KX : K.In s.heap := e0.mod.kin.keeps fun b o e => (e0.bs b o e).1
  have lim : s.heap.NoLimit := e0.mod.nolimit.keeps fun b o e => (e0.bs b o e).1
  have hkind : ∀ y ∈ ps.zip us, scope.names.lookup y.1 = some .local ∨ (scope.names.lookup y.1 = some .cell ∧ ((cellsFrom (s.heap.objs.size + 1) scope.names []).lookup y.1).isSome = true) := fun ⟨n, v⟩ hy => by
    rcases S.par n (List.of_mem_zip hy).1 with q | q
    · exact .inl q
    · exact .inr ⟨q, PySem.W.cellsFrom_some _ _ _ (.inl q)⟩
  refine codeAny_call_function hr.depth (KX _ _ lk) rfl S.co S.gen rfl (PySem.W.codeRec_of KX hcd) (hb _ _ _ _ ?_)
  refine wpAny_newFunctionEnv_cells S.kind hkind fun env he s1 x => ?_
  subst he
  refine ⟨lim.keeps x.toInCall.keep, codeAny_func ?_⟩
  obtain ⟨t, ht, hq⟩ := hbody A outer s H vs Q E (hr.deeper _) hsp
  have I : Inv (cxOf CX P w K mg base N qual scope f cdv A outer s H E) [] (start N vs) H s1 := inv_start S hr.hd e0 hl r x
  refine wpAny_mono (ht [] s1 (start N vs) H _ I hq) (fun fl s' hs => ?_) fun e s' hs => hs
  have fin : ∀ {σ' : St} {H' : Hp} {v : V} {u : Value}, Inv (cxOf CX P w K mg base N qual scope f cdv A outer s H E) [] σ' H' s' → RelV v u → Q v H' → CE outer P w H s Q u s' :=
    fun {σ' H' v u} J rv q => ⟨v, H', J.os, J.bare, J.base, J.hok, rv, q⟩
  cases fl with
  | ret u =>
    obtain ⟨v, σ', H', J, rv, q⟩ := hs
    exact fin J rv q
  | next =>
    obtain ⟨σ', H', J, q⟩ := hs
    exact fin (v := V.non) (u := Value.none) J rfl q
  | brk =>
    obtain ⟨_, _, _, q⟩ := hs
    exact False.elim q
  | cont =>
    obtain ⟨_, _, _, q⟩ := hs
    exact False.elim q
end L2

namespace L2
open PySem PySem.Spec PyProof.Rows
section
variable {X : Cx} {x : Str} {p pos : Pos} {e : Expr} {es : List Expr} {t : TA} {id T : String} {r : List V → Hp → VK → Prop}

def tCB (r : List V → Hp → VK → Prop) (t : TA) : TE := fun σ H Q => t σ H fun vs H1 => r vs H1 Q
/-- f(e, ..), f a built-in function -/
theorem pe_callB (hc : CallR X (.builtin id) r) (hg : Gl X x) (hm : X.mg x = none) (hv : bootBuiltins x = some (.builtin id)) (ha : PA X (e :: es) t) (hn : x ≠ "__name__" := by decide) (hdb : (x == ("__debug__" : Str)) = false := by decide)
    (he : starEach (e :: es) X.env = (false, eval e X.env) :: starEach es X.env := by rfl) (hpl : (backTo pos (starEach es X.env)).any (·.1) = false := by rfl) : PE X (.Call (.Name x p) (e :: es) [] pos) (tCB r t) := by
  intro pins s σ H Q I h
  refine wpAny_Call_Name_kw (ld_blt I hg hm hv ?_ hn hdb)
  exact PyProof.Rows.callWith_builtin1 (thn (ha pos pins s σ H _ I h) fun us s1 ⟨vs, H1, I1, r1, q1⟩ => hc pins s1 σ H1 vs us Q I1 r1 q1) he hpl
/-- T(e, ..), T a built-in type -/
theorem pe_callTy (hc : CallR X (.type T) r) (hg : Gl X x) (hm : X.mg x = none) (hv : bootBuiltins x = some (.type T)) (ha : PA X (e :: es) t) (hn : x ≠ "__name__" := by decide) (hdb : (x == ("__debug__" : Str)) = false := by decide)
    (he : starEach (e :: es) X.env = (false, eval e X.env) :: starEach es X.env := by rfl) (hpl : (backTo pos (starEach es X.env)).any (·.1) = false := by rfl) : PE X (.Call (.Name x p) (e :: es) [] pos) (tCB r t) := by
  intro pins s σ H Q I h
  refine wpAny_Call_Name_kw (ld_blt I hg hm hv ?_ hn hdb)
  exact PyProof.Rows.callWith_type1 (thn (ha pos pins s σ H _ I h) fun us s1 ⟨vs, H1, I1, r1, q1⟩ => hc pins s1 σ H1 vs us Q I1 r1 q1) he hpl
end
end L2

namespace HT
open PySem PyProof.Rows

section
open PySem.SeqAt
open PySem.AutoSeq1 (wpAny_loadPart')
open PySem.MeetsSeq PySem.MeetsSeq2 PySem.MeetsSeq3

end

section
variable {prog : Program} {w : World} {A : Around} {E : Value → Shared → Prop} {s : Shared}

/-! ### t[a:b], not the whole -/
/-- a slice's bound as a place among n (d where it is left out) -/
def sIx (n d : Nat) : Option Int → Nat
  | none => d
  | some v => if v < 0 then (v + (n : Int)).toNat else min v.toNat n
theorem sIx_none (n d : Nat) : sIx n d none = d := rfl
theorem sIx_nat (n d k : Nat) : sIx n d (some (k : Int)) = min k n := by
  show (if (k : Int) < 0 then ((k : Int) + (n : Int)).toNat else min (k : Int).toNat n) = min k n
  rw [if_neg (by omega), Int.toNat_natCast]
theorem sIx_le (n d : Nat) (hd : d ≤ n) (o : Option Int) : sIx n d o ≤ n := by
  cases o with
  | none => exact hd
  | some v =>
    show (if v < 0 then (v + (n : Int)).toNat else min v.toNat n) ≤ n
    by_cases hv : v < 0
    · rw [if_pos hv]; omega
    · rw [if_neg hv]; exact Nat.min_le_right _ _
end
end HT

namespace L2
open PySem PySem.Spec PyProof.Rows

/-! ### the parts of a slice -/
abbrev TO := St → Hp → (Option Int → Hp → Prop) → Prop
/-- a slice's part (left out, or an int) -/
def PO (X : Cx) (e : Option Expr) (t : TO) : Prop :=
  ∀ (pins : List (Addr × Obj)) (s : Shared) (σ : St) (H : Hp) (Q : Option Int → Hp → Prop), Inv X pins σ H s → t σ H Q →
    wpAny (model X.prog X.w) X.A (evalPart e X.env) (fun u s' => ∃ o H', Inv X pins σ H' s' ∧ IsPart u o ∧ Q o H') X.xe s
def tNoPart : TO := fun _ H Q => Q none H
def tPart (t : TE) : TO := fun σ H Q => t σ H fun x H1 => ∃ i, x = .int i ∧ Q (some i) H1

section
variable {X : Cx} {e : Expr} {te : TE} {lo hi : Option Expr} {tl th : TO} {pos p2 : Pos}

theorem po_none : PO X none tNoPart := by
  intro pins s σ H Q I h
  rw [evalPart_none]
  exact wpAny_pure ⟨none, H, I, .none, h⟩
theorem po_some (h : PE X e te) : PO X (some e) (tPart te) := by
  intro pins s σ H Q I hw
  rw [evalPart_some]
  refine thn (h pins s σ H _ I hw) fun u s1 ⟨x, H1, I1, r1, q1⟩ => ?_
  obtain ⟨i, rfl, q⟩ := q1
  obtain ⟨t, rfl⟩ := r1
  exact ⟨some i, H1, I1, .int i t, q⟩

/-- what a slice of a value is, by values: the slice object stands at sl -/
def SlR (X : Cx) (r : V → Option Int → Option Int → Hp → VK → Prop) : Prop :=
  ∀ (pins : List (Addr × Obj)) (s : Shared) (σ : St) (H : Hp) (x : V) (v vl vu : Value) (lo hi : Option Int) (sl : Addr) (Q : VK), Inv X pins σ H s → RelV x v → s.heap.IsSliceOf sl vl vu .none → IsPart vl lo → IsPart vu hi → r x lo hi H Q →
    ∃ T id, typeLookup (.type T) "__getitem__" = pure (some (.builtin id)) ∧ s.TypeIs v T ∧ wpAny (model X.prog X.w) X.A (getItem v (.ref sl)) (EP X pins σ Q) X.xe s
theorem SlR.or {r r' : V → Option Int → Option Int → Hp → VK → Prop} (h : SlR X r) (h' : SlR X r') : SlR X (fun x lo hi H Q => r x lo hi H Q ∨ r' x lo hi H Q) := by
  intro pins s σ H x v vl vu lo hi sl Q I rx hs pl pu q
  rcases q with q | q
  · exact h pins s σ H x v vl vu lo hi sl Q I rx hs pl pu q
  · exact h' pins s σ H x v vl vu lo hi sl Q I rx hs pl pu q
def tSl (r : V → Option Int → Option Int → Hp → VK → Prop) (te : TE) (tl th : TO) : TE := fun σ H Q => te σ H fun x H1 => tl σ H1 fun l H2 => th σ H2 fun u H3 => r x l u H3 Q
/-- a[lo:hi], any a -/
theorem pe_slice {r : V → Option Int → Option Int → Hp → VK → Prop} (hr : SlR X r) (he : PE X e te) (hl : PO X lo tl) (hu : PO X hi th) : PE X (.Subscript e (.Slice lo hi none p2) pos) (tSl r te tl th) := by
  intro pins s σ H Q I h
  refine Subscript_ (thn (he pins s σ H _ I h) fun v s1 ⟨x, H1, I1, r1, q1⟩ => ?_)
  refine wpAny_Slice (thn (hl pins s1 σ H1 _ I1 q1) fun vl s2 ⟨l, H2, I2, pl, q2⟩ => thn (hu pins s2 σ H2 _ I2 q2) fun vu s3 ⟨u, H3, I3, pu, q3⟩ => ?_)
  rw [evalPart_none]
  refine wpAny_pure ?_
  have I4 : Inv X pins σ H3 { s3 with heap := s3.heap.push { cls := .type "slice", data := .fields #[vl, vu, .none] } } := I3.kept (t' := s3.toks) fun b ob q => Heap.get?_push_of_some _ q
  obtain ⟨T, id, hT, ht, hg⟩ := hr pins { s3 with heap := s3.heap.push { cls := .type "slice", data := .fields #[vl, vu, .none] } } σ H3 x v vl vu l u s3.heap.objs.size Q I4 r1 (Heap.IsSliceOf.new ..) pl pu q3
  show wpAny (model X.prog X.w) X.A (subscriptTail e (.Slice lo hi none p2) v (.ref s3.heap.objs.size)) (EP X pins σ Q) X.xe { s3 with heap := s3.heap.push { cls := .type "slice", data := .fields #[vl, vu, .none] } }
  exact tail_any (ops := [.ref s3.heap.objs.size, v]) ht hT hg (by with_unfolding_all rfl)

/-- the items of xs[lo:hi] -/
def cutV (xs : List V) (lo hi : Option Int) : List V := (xs.drop (HT.sIx xs.length 0 lo)).take (HT.sIx xs.length xs.length hi - HT.sIx xs.length 0 lo)
theorem cutV_length (xs : List V) (lo hi : Option Int) : (cutV xs lo hi).length ≤ xs.length := by
  unfold cutV
  rw [List.length_take, List.length_drop]
  omega
/-! ### t < u, t + u -/
end
end L2

namespace L2
open PySem PySem.Spec PyProof.Rows

/-! ### places -/
/-- the place that an index of any sign means -/
def ixN (n : Nat) (i : Int) : Option Nat := if 0 ≤ i then (if i < n then some i.toNat else none) else if -(n : Int) ≤ i then some (i + n).toNat else none
def atI {α : Type} (xs : List α) (i : Int) : Option α := (ixN xs.length i).bind fun j => xs[j]?
theorem ixN_seq {n : Nat} {i : Int} {j : Nat} (h : ixN n i = some j) : seqIndex? i n = some j ∧ j < n ∧ -(n : Int) ≤ i ∧ i < n := by
  unfold ixN at h
  by_cases h0 : 0 ≤ i
  · rw [if_pos h0] at h
    by_cases h1 : i < n
    · rw [if_pos h1] at h
      have e : i.toNat = j := Option.some.inj h
      exact ⟨by rw [seqIndex_of h0 h1, e], by omega, by omega, h1⟩
    · rw [if_neg h1] at h; cases h
  · rw [if_neg h0] at h
    by_cases h1 : -(n : Int) ≤ i
    · rw [if_pos h1] at h
      have e : (i + n).toNat = j := Option.some.inj h
      exact ⟨by rw [seqIndex_neg (by omega) h1, e], by omega, h1, by omega⟩
    · rw [if_neg h1] at h; cases h
theorem atI_get {α : Type} {xs : List α} {i : Int} {v : α} (h : atI xs i = some v) : ∃ j, seqIndex? i xs.length = some j ∧ xs[j]? = some v ∧ j < xs.length ∧ -(xs.length : Int) ≤ i ∧ i < xs.length := by
  unfold atI at h
  cases e : ixN xs.length i with
  | none => rw [e] at h; cases h
  | some j =>
    rw [e] at h
    obtain ⟨h1, h2, h3, h4⟩ := ixN_seq e
    exact ⟨j, h1, h, h2, h3, h4⟩
theorem atI_nat {α : Type} {xs : List α} {j : Nat} {v : α} (h : xs[j]? = some v) : atI xs (j : Int) = some v := by
  have hj : j < xs.length := (List.getElem?_eq_some_iff.mp h).1
  have e : ixN xs.length (j : Int) = some j := by
    unfold ixN
    rw [if_pos (by omega), if_pos (by omega)]; simp
  unfold atI; rw [e]; exact h
/-! ### what may be subscripted -/
/-- what stands as an index of a plain subscript -/
def PlainIx (b : Expr) : Prop := ∀ o i, subscripted b false o i = operate [o, i] (getItem o i)
/-- a subscript by values -/
def IxR (X : Cx) (r : R2) : Prop :=
  ∀ (value slice : Expr) (pins : List (Addr × Obj)) (s : Shared) (σ : St) (H : Hp) (x y : V) (v u : Value) (Q : VK), Inv X pins σ H s → RelV x v → RelV y u → r x y H Q →
    subscripted slice false v u = operate [v, u] (getItem v u) → wpAny (model X.prog X.w) X.A (subscriptTail value slice v u) (EP X pins σ Q) X.xe s
/-- a call of a builtin's method by values: the receiver, the arguments -/
def MtR (X : Cx) (id : String) (r : V → List V → Hp → VK → Prop) : Prop :=
  ∀ (pins : List (Addr × Obj)) (s : Shared) (σ : St) (H : Hp) (x : V) (xs : List V) (v : Value) (us : List Value) (Q : VK), Inv X pins σ H s → RelV x v → Vals xs us → r x xs H Q →
    wpAny (model X.prog X.w) X.A (call (.builtin id) (v :: us)) (EP X pins σ Q) X.xe s
section
variable {X : Cx} {a b : Expr} {ta tb : TE} {pos : Pos}
theorem IxR.or {r r' : R2} (h : IxR X r) (h' : IxR X r') : IxR X (fun x y H Q => r x y H Q ∨ r' x y H Q) := by
  intro value slice pins s σ H x y v u Q I rx ry q hs
  rcases q with q | q
  · exact h value slice pins s σ H x y v u Q I rx ry q hs
  · exact h' value slice pins s σ H x y v u Q I rx ry q hs
theorem MtR.or {id : String} {r r' : V → List V → Hp → VK → Prop} (h : MtR X id r) (h' : MtR X id r') : MtR X id (fun x xs H Q => r x xs H Q ∨ r' x xs H Q) := by
  intro pins s σ H x xs v us Q I rx rs q
  rcases q with q | q
  · exact h pins s σ H x xs v us Q I rx rs q
  · exact h' pins s σ H x xs v us Q I rx rs q
/-- a[b] -/
theorem pe_ix {r : R2} (hr : IxR X r) (ha : PE X a ta) (hb : PE X b tb) (hs : PlainIx b) : PE X (.Subscript a b pos) (tOp r ta tb) := by
  intro pins s σ H Q I h
  exact Subscript_ (binT ha hb I h fun v u s2 x y H2 I2 rx ry q => hr a b pins s2 σ H2 x y v u Q I2 rx ry q (hs _ _))

def rIxL (K : PySem.W.Frag) : R2 := fun x y H Q => ∃ p xs i v, x = .ref p ∧ y = .int i ∧ SqL K H p xs ∧ atI xs i = some v ∧ Q v H
def rIxT (K : PySem.W.Frag) : R2 := fun x y H Q => ∃ p xs i v, x = .ref p ∧ y = .int i ∧ SqT K H p xs ∧ atI xs i = some v ∧ Q v H
def rIxS : R2 := fun x y H Q => ∃ z i c, x = .str z ∧ y = .int i ∧ z.length ≤ sizeLine ∧ atI z.cps.toList i = some c ∧ Q (.str ⟨#[c]⟩) H
theorem ix_list : IxR X (rIxL X.K) := by
  intro value slice pins s σ H x y v u Q I rx ry h hs
  obtain ⟨p, xs, i, z, rfl, rfl, hq, he, q⟩ := h
  cases rx
  obtain ⟨t, rfl⟩ := ry
  obtain ⟨its, r, pl, hz⟩ := I.list hq
  obtain ⟨j, h1, h2, h3, h4, h5⟩ := atI_get he
  obtain ⟨w, ew, rw'⟩ := r.get h2
  have hl := r.length
  have hn := line63
  have fin : EP X pins σ Q w s := ⟨z, H, I, rw', q⟩
  by_cases h0 : 0 ≤ i
  · have hj : i.toNat = j := by
      rw [seqIndex_of h0 h5] at h1
      exact Option.some.inj h1
    exact item_listR pl.isList h0 (by omega) (by rw [hj]; simpa using ew) fin hs
  · have hj : (i + (its.toArray.size : Int)).toNat = j := by
      rw [seqIndex_neg (by omega) h4] at h1
      rw [List.size_toArray, ← hl]
      exact Option.some.inj h1
    exact subscriptTail_builtinR (x := w) pl.isList.typeIs slot_list_getitem.lookup
      (wpAny_getItem_list_neg (Q := fun r s' => r = w ∧ EP X pins σ Q r s') pl.isList (by omega) (by rw [List.size_toArray] <;> omega) (by omega) (by rw [hj]; simpa using ew) ⟨rfl, fin⟩) hs
theorem ix_tup : IxR X (rIxT X.K) := by
  intro value slice pins s σ H x y v u Q I rx ry h hs
  obtain ⟨p, xs, i, z, rfl, rfl, hq, he, q⟩ := h
  cases rx
  obtain ⟨t, rfl⟩ := ry
  obtain ⟨its, r, pl, hz⟩ := I.tuple hq
  obtain ⟨j, h1, h2, h3, h4, h5⟩ := atI_get he
  obtain ⟨w, ew, rw'⟩ := r.get h2
  have hl := r.length
  have hn := line63
  have fin : EP X pins σ Q w s := ⟨z, H, I, rw', q⟩
  exact subscriptTail_builtinR (x := w) pl.typeIs slot_tuple_getitem.lookup
    (getItem_tuple (j := j) (Q := fun r s' => r = w ∧ EP X pins σ Q r s') pl (by omega) (by omega) (by rw [List.size_toArray, ← hl]; exact h1) (by simpa using ew) ⟨rfl, fin⟩) hs
theorem ix_str : IxR X rIxS := by
  intro value slice pins s σ H x y v u Q I rx ry h hs
  obtain ⟨z, i, c, rfl, rfl, hz, he, q⟩ := h
  obtain ⟨t, rfl⟩ := rx
  obtain ⟨t', rfl⟩ := ry
  obtain ⟨j, h1, h2, h3, h4, h5⟩ := atI_get he
  have hl : z.cps.toList.length = z.length := by simp [Str.length]
  rw [hl] at h1 h4 h5
  have hn := line63
  exact tail_any (typeIs_str s z t) slot_str_getitem.lookup (getItem_str (c := c) (by
    have e1 : decide (i < -(2 ^ 63 : Int)) = false := decide_eq_false (by omega)
    have e2 : decide (i ≥ 2 ^ 63) = false := decide_eq_false (by omega)
    rw [e1, e2, Bool.or_false]) (by rw [h1]; simpa using h2) ⟨.str ⟨#[c]⟩, H, I.tok _, ⟨_, rfl⟩, q⟩) hs
/-! ### xs[i] = v, any sign -/
/-- the list's object behind a store -/
theorem mapSeq_set (its : List Value) (n j : Nat) (u : Value) : Obj.mapSeq (·.setIfInBounds j u) { cls := .type "list", data := .seq its.toArray n } = { cls := .type "list", data := .seq (its.set j u).toArray n } := by
  simp [Obj.mapSeq]
theorem Inv.lst {pins : List (Addr × Obj)} {σ : St} {H : Hp} {s : Shared} {p : Addr} {xs : List V} (I : Inv X pins σ H s) (h : H p = some (.lst xs)) :
    ∃ (its : List Value) (n : Nat), Vals xs its ∧ s.heap.get? p = some { cls := .type "list", data := .seq its.toArray n } ∧ xs.length ≤ sizeLine := by
  obtain ⟨z, its, n, r, e⟩ := I.hok p _ h
  exact ⟨its, n, r, e, z⟩
/-- the list at p is written by an update of its object -/
theorem Inv.lstUpd {pins : List (Addr × Obj)} {σ : St} {H : Hp} {s : Shared} {p : Addr} {xs ys : List V} {its its' : List Value} {n n' : Nat} {f : Obj → Obj} (I : Inv X pins σ H s) (h : H p = some (.lst xs))
    (ho : s.heap.get? p = some { cls := .type "list", data := .seq its.toArray n }) (hf : f { cls := .type "list", data := .seq its.toArray n } = { cls := .type "list", data := .seq its'.toArray n' }) (r : Vals ys its') (hz : ys.length ≤ sizeLine) (t : Nat) :
    Inv X pins σ (upd H p (.lst ys)) { s with heap := s.heap.update p f, toks := t } := by
  have e : (s.heap.update p f).get? p = some { cls := .type "list", data := .seq its'.toArray n' } := by
    rw [Heap.get?_update_self f ho (by rw [hf] <;> rfl), hf]
  refine I.write (x := p) (e := p) (by rw [h]; trivial) (.inl rfl) (fun b u hb q => (Heap.get?_update_other _ _ (Ne.symm hb)).trans q) ⟨_, e⟩ ?_
  exact ⟨hz, its', n', r, e⟩
def rSetL : V → V → V → Hp → (Hp → Prop) → Prop := fun o i v H Q => ∃ p xs k j, o = .ref p ∧ i = .int k ∧ H p = some (.lst xs) ∧ ixN xs.length k = some j ∧ Q (upd H p (.lst (xs.set j v)))
theorem set_list : PSet X rSetL := by
  intro pins s σ H o i v ov iv u Q I ro ri rv h
  obtain ⟨p, xs, k, j, rfl, rfl, hp, hj, q⟩ := h
  cases ro
  obtain ⟨t, rfl⟩ := ri
  obtain ⟨its, n, r, ho, hz⟩ := I.lst hp
  obtain ⟨h1, h2, h3, h4⟩ := ixN_seq hj
  have hl := r.length
  have hn := line63
  have I' : Inv X pins σ (upd H p (.lst (xs.set j v))) { s with heap := s.heap.update p (Obj.mapSeq (·.setIfInBounds j u)) } :=
    I.lstUpd hp ho (mapSeq_set its n j u) (r.set rv j) (by rw [List.length_set]; exact hz) s.toks
  by_cases h0 : 0 ≤ k
  · have hk : k.toNat = j := by
      rw [seqIndex_of h0 h4] at h1
      exact Option.some.inj h1
    exact PySem.W.ki_setAt ho h0 (by omega) (by rw [List.size_toArray, ← hl]; exact h4) (by rw [hk]; exact ⟨_, I', q⟩)
  · have hk : (k + (its.toArray.size : Int)).toNat = j := by
      rw [seqIndex_neg (by omega) h3] at h1
      rw [List.size_toArray, ← hl]
      exact Option.some.inj h1
    exact PySem.W.ki_setBack ho (by omega) (by rw [List.size_toArray, ← hl]; exact h3) (by omega) (by rw [hk]; exact ⟨_, I', q⟩)

/-! ### slices -/
theorem slice_bounds (lo hi : Option Int) (n : Nat) : (sliceBounds lo hi none n).1 = ((HT.sIx n 0 lo : Nat) : Int) ∧ (sliceBounds lo hi none n).2.1 = ((HT.sIx n n hi : Nat) : Int) ∧ (sliceBounds lo hi none n).2.2 = 1 := by
  refine ⟨?_, ?_, rfl⟩
  · cases lo with
    | none => simp [sliceBounds, HT.sIx]
    | some i =>
      simp only [sliceBounds, HT.sIx, Option.getD_none, show (1 : Int) > 0 by decide, if_true]
      by_cases h : i < 0
      · simp only [h, if_true] <;> omega
      · simp only [h, if_false] <;> omega
  · cases hi with
    | none => simp [sliceBounds, HT.sIx]
    | some i =>
      simp only [sliceBounds, HT.sIx, Option.getD_none, show (1 : Int) > 0 by decide, if_true]
      by_cases h : i < 0
      · simp only [h, if_true] <;> omega
      · simp only [h, if_false] <;> omega
theorem slicePick_cut (its : List Value) (lo hi : Option Int) : slicePick its.toArray lo hi none = ((its.drop (HT.sIx its.length 0 lo)).take (HT.sIx its.length its.length hi - HT.sIx its.length 0 lo)).toArray := by
  obtain ⟨h1, h2, h3⟩ := slice_bounds lo hi its.toArray.size
  unfold slicePick
  rw [h1, h2, h3]
  simp only [sliceRange_one, pick_run, List.size_toArray] <;> rfl
/-- xs[lo:hi] of a list: a new list -/
def rSlL (K : PySem.W.Frag) : V → Option Int → Option Int → Hp → VK → Prop := fun x lo hi H Q => ∃ a xs, x = .ref a ∧ SqL K H a xs ∧ ∀ p, H p = none → Q (.ref p) (upd H p (.lst (cutV xs lo hi)))
theorem sl_list : SlR X (rSlL X.K) := by
  intro pins s σ H x v vl vu lo hi sl Q I rx hs pl pu h
  obtain ⟨a, xs, rfl, hx, q⟩ := h
  cases rx
  obtain ⟨its, r, ht, hz⟩ := I.list hx
  have hlen := r.length
  refine ⟨"list", _, slot_list_getitem.lookup, ht.isList.typeIs, ?_⟩
  refine wpAny_getItem_list_slice ht.isList hs pl pu .none (by simp) ?_ (by rw [List.size_toArray] <;> omega)
  rw [slicePick_cut, ← hlen]
  refine ⟨.ref s.heap.objs.size, _, I.laid (t' := s.toks) (o := .lst (cutV xs lo hi)) (fun b ob q => Heap.get?_push_of_some _ q) (Nat.le_refl _) ?_, rfl, q _ (I.hok.fresh (Nat.le_refl _))⟩
  exact ⟨Nat.le_trans (cutV_length xs lo hi) hz, _, 0, (r.drop (HT.sIx xs.length 0 lo)).take (HT.sIx xs.length xs.length hi - HT.sIx xs.length 0 lo), Heap.get?_push_size _ rfl⟩

/-! ### in, not in: flat items -/
/-! ### len, list(x), tuple(x) of any list or tuple that is read -/
theorem CallR.or {f : Value} {r r' : List V → Hp → VK → Prop} (h : CallR X f r) (h' : CallR X f r') : CallR X f (fun xs H Q => r xs H Q ∨ r' xs H Q) := by
  intro pins s σ H xs us Q I rs q
  rcases q with q | q
  · exact h pins s σ H xs us Q I rs q
  · exact h' pins s σ H xs us Q I rs q
/-! ### the call of a builtin's method: o.m(..) -/
/-- the value is of that builtin type -/
def tyV (K : PySem.W.Frag) (T : String) (x : V) (H : Hp) : Prop := match x with
  | .str _ => T = "str"
  | .int _ => T = "int"
  | .ref p => (T = "list" ∧ ∃ xs, SqL K H p xs) ∨ (T = "tuple" ∧ ∃ o, K.lookup p = some o ∧ o.cls = .type "tuple" ∧ o.dict = none) ∨
      (T = "dict" ∧ ((∃ kvs, H p = some (.dK kvs)) ∨ ∃ kvs, H p = some (.dT kvs))) ∨ (T = "set" ∧ ∃ S n, H p = some (.set S n))
  | _ => False
theorem tyV_is {pins : List (Addr × Obj)} {σ : St} {H : Hp} {s : Shared} {T : String} {x : V} {v : Value} (I : Inv X pins σ H s) (r : RelV x v) (ty : tyV X.K T x H) :
    s.TypeIs v T ∧ ∀ a, v = .ref a → ∃ ob, s.heap.get? a = some ob ∧ ob.dict = none := by
  cases x with
  | str z =>
    obtain ⟨t, rfl⟩ := r
    cases (show T = "str" from ty)
    exact ⟨typeIs_str s z t, fun _ e => nomatch e⟩
  | int i =>
    obtain ⟨t, rfl⟩ := r
    cases (show T = "int" from ty)
    exact ⟨typeIs_int s i t, fun _ e => nomatch e⟩
  | ref p =>
    cases r
    rcases ty with ⟨rfl, xs, hq⟩ | ⟨rfl, o, hk, hc, hd⟩ | ⟨rfl, hk⟩ | ⟨rfl, S, n, hk⟩
    · obtain ⟨its, _, pl, _⟩ := I.list hq
      refine ⟨pl.isList.typeIs, fun a e => ?_⟩
      cases e
      obtain ⟨o, n, e, c, hd, _⟩ := pl
      exact ⟨o, e, hd⟩
    · refine ⟨⟨o, I.kIn p o hk, hc⟩, fun a e => ?_⟩
      cases e
      exact ⟨o, I.kIn _ o hk, hd⟩
    · have z : ∃ o, s.heap.get? p = some o ∧ o.ExactDict := by
        rcases hk with ⟨kvs, hk⟩ | ⟨kvs, hk⟩
        · obtain ⟨_, _, _, _, o, _, _, e, ex, _⟩ := I.hok p _ hk
          exact ⟨o, e, ex⟩
        · exact (show False from I.hok p _ hk).elim
      obtain ⟨o, e, ex⟩ := z
      refine ⟨⟨o, e, ex.1⟩, fun a e2 => ?_⟩
      cases e2
      exact ⟨o, e, ex.2.1⟩
    · obtain ⟨o, _, _, _, e, ex, _⟩ := I.hok p _ hk
      refine ⟨⟨o, e, ex.1⟩, fun a e2 => ?_⟩
      cases e2
      exact ⟨o, e, ex.2.1⟩
  | _ => exact False.elim ty
def tBM0 (K : PySem.W.Frag) (T : String) (r : V → List V → Hp → VK → Prop) (to : TE) : TE := fun σ H Q => to σ H fun x H1 => tyV K T x H1 ∧ r x [] H1 Q
def tBM (K : PySem.W.Frag) (T : String) (r : V → List V → Hp → VK → Prop) (to : TE) (t : TA) : TE := fun σ H Q => to σ H fun x H1 => tyV K T x H1 ∧ t σ H1 fun xs H2 => r x xs H2 Q
variable {o e : Expr} {es : List Expr} {to : TE} {t : TA} {name : Str} {apos cpos : Pos} {T id : String} {r : V → List V → Hp → VK → Prop}
theorem pe_bm0 (pa : PlainAttrs T) (slot : Slot T name id) (hty : typeOf (.builtin id) = pure (.type "method_descriptor")) (hm : MtR X id r) (ho : PE X o to)
    (hbase : attributeBase o name X.env (eval o X.env) = eval o X.env := by rfl) (hline : (apos.endLine == cpos.line) = true := by rfl) : PE X (.Call (.Attribute o name apos) [] [] cpos) (tBM0 X.K T r to) := by
  intro pins s σ H Q I h
  refine wpAny_Call_method0_late hbase hline (thn (ho pins s σ H _ I h) fun v s1 ⟨x, H1, I1, r1, ty, q1⟩ => ?_)
  obtain ⟨h1, h2⟩ := tyV_is I1 r1 ty
  exact ⟨T, id, pa, slot, hty, h1, h2, Calls.callWith_builtin rfl (PySem.evalArgs_none (hm pins s1 σ H1 x [] v [] Q I1 r1 .nil q1))⟩
theorem pe_bm (pa : PlainAttrs T) (slot : Slot T name id) (hty : typeOf (.builtin id) = pure (.type "method_descriptor")) (hm : MtR X id r) (ho : PE X o to) (ha : PA X (e :: es) t)
    (hbase : attributeBase o name X.env (eval o X.env) = eval o X.env := by rfl)
    (hfew : ((backTo cpos (starEach (e :: es) X.env)).all (fun x => !x.1) && (backToKw cpos (keywordEach [] X.env)).all (fun x => x.1.isSome)
      && decide ((e :: es).length + ([] : List Keyword).length + (if ([] : List Keyword).isEmpty then 0 else 1) < 30)) = true := by rfl)
    (hline : (apos.endLine == cpos.line) = true := by rfl) (hs : starEach (e :: es) X.env = (false, eval e X.env) :: starEach es X.env := by rfl) (hplain : (backTo cpos (starEach es X.env)).any (·.1) = false := by rfl) :
    PE X (.Call (.Attribute o name apos) (e :: es) [] cpos) (tBM X.K T r to t) := by
  intro pins s σ H Q I h
  refine wpAny_Call_method_late hbase hfew hline rfl (thn (ho pins s σ H _ I h) fun v s1 ⟨x, H1, I1, r1, ty, q1⟩ => ?_)
  obtain ⟨h1, h2⟩ := tyV_is I1 r1 ty
  refine ⟨T, id, pa, slot, hty, h1, h2, ?_⟩
  have hA := ha cpos pins s1 σ H1 _ I1 q1
  rw [hs] at hA ⊢
  refine Calls.callWith_builtin (by show (false || (backTo cpos (starEach es X.env)).any (·.1)) = false; rw [hplain] <;> rfl) (Calls.evalArgs_plain ?_)
  exact thn hA fun us s2 ⟨vs, H2, I2, r2, q2⟩ => hm pins s2 σ H2 x vs v us Q I2 r1 r2 q2
/- xs.append(e), list.index on a module's tuple .. are MtR facts of 06m -/
end
end L2

namespace L2
open PySem PySem.Spec PyProof.Rows

def MtM (X : Cx) (id : String) (r : V → List V → Hp → VK → Prop) : Prop :=
  ∀ (pins : List (Addr × Obj)) (s : Shared) (σ : St) (H : Hp) (x : V) (xs : List V) (v : Value) (us : List Value) (Q : VK), Inv X pins σ H s → RelV x v → Vals xs us → r x xs H Q →
    wpAny (model X.prog X.w) X.A (call (.builtin id) (v :: us)) (EP X pins σ Q) X.xe s

/-! ### lists of values -/
theorem Vals.one : ∀ {x : V} {us : List Value}, Vals [x] us → ∃ u, us = [u] ∧ RelV x u
  | _, _, .cons r .nil => ⟨_, rfl, r⟩
theorem Vals.two : ∀ {x y : V} {us : List Value}, Vals [x, y] us → ∃ u v, us = [u, v] ∧ RelV x u ∧ RelV y v
  | _, _, _, .cons r (.cons q .nil) => ⟨_, _, rfl, r, q⟩
theorem Vals.zero : ∀ {us : List Value}, Vals [] us → us = []
  | _, .nil => rfl
theorem Vals.dropLast {xs : List V} {us : List Value} (h : Vals xs us) : Vals xs.dropLast us.dropLast := by
  induction h with
  | nil => exact .nil
  | cons r t ih =>
    cases t with
    | nil => exact .nil
    | cons q t' => exact .cons r ih
theorem Vals.eraseIdx : ∀ {xs : List V} {us : List Value} (i : Nat), Vals xs us → Vals (xs.eraseIdx i) (us.eraseIdx i)
  | _, _, _, .nil => .nil
  | _, _, 0, .cons _ t => t
  | _, _, i + 1, .cons r t => .cons r (Vals.eraseIdx i t)
theorem erase_last {α : Type} (l : List α) : l.eraseIdx (l.length - 1) = l.dropLast := by
  induction l with
  | nil => rfl
  | cons a r ih =>
    cases r with
    | nil => rfl
    | cons b r =>
      have e : (a :: b :: r).length - 1 = ((b :: r).length - 1) + 1 := by
        have h1 : (a :: b :: r).length = r.length + 2 := rfl
        have h2 : (b :: r).length = r.length + 1 := rfl
        omega
      rw [e, List.eraseIdx_cons_succ, ih]
      all_goals rfl
section
variable {X : Cx} {pins : List (Addr × Obj)} {σ : St} {H : Hp} {s : Shared} {l b : Addr} {xs ys zs : List V}

/-! ### the two steps: a tracked list is rewritten, a new list is laid -/
theorem Inv.lset {its its' : List Value} {n : Nat} {f : Array Value → Array Value} {t' : Nat} (I : Inv X pins σ H s) (hH : H l = some (.lst xs))
    (e : s.heap.get? l = some { cls := .type "list", data := .seq its.toArray n }) (hf : f its.toArray = its'.toArray) (hv : Vals ys its') (hz : ys.length ≤ sizeLine) :
    Inv X pins σ (upd H l (.lst ys)) { s with heap := s.heap.update l (Obj.mapSeq f), toks := t' } := by
  have q := PySem.IsL.update e f
  rw [hf] at q
  refine I.write (x := l) (e := l) (by rw [hH]; exact trivial) (.inl rfl) (fun b' u hb hu => (Heap.get?_update_other s.heap (Obj.mapSeq f) (Ne.symm hb)).trans hu) ⟨_, q⟩ ?_
  exact ⟨hz, its', _, hv, q⟩
theorem Inv.lnew {its : List Value} {t' : Nat} (I : Inv X pins σ H s) (hv : Vals ys its) (hz : ys.length ≤ sizeLine) :
    Inv X pins σ (upd H s.heap.objs.size (.lst ys)) { s with heap := s.heap.push { cls := .type "list", data := .seq its.toArray }, toks := t' } :=
  I.laid (fun _ _ q => Heap.get?_push_of_some _ q) (Nat.le_refl _) ⟨hz, its, 0, hv, Heap.get?_push_size _ rfl⟩
theorem Inv.fresh (I : Inv X pins σ H s) : H s.heap.objs.size = none := I.hok.fresh (Nat.le_refl _)
theorem Inv.lstM (I : Inv X pins σ H s) (hH : H l = some (.lst xs)) : xs.length ≤ sizeLine ∧ ∃ (its : List Value) (n : Nat), Vals xs its ∧ xs.length = its.length ∧ s.heap.get? l = some { cls := .type "list", data := .seq its.toArray n } := by
  obtain ⟨z, its, n, r, e⟩ := I.hok l _ hH
  exact ⟨z, its, n, r, r.length, e⟩

end

section
variable {X : Cx}

/-! ### methods -/
def rAppend : V → List V → Hp → VK → Prop := fun x vs H Q => ∃ l xs y, x = .ref l ∧ vs = [y] ∧ H l = some (.lst xs) ∧ xs.length < sizeLine ∧ Q .non (upd H l (.lst (xs ++ [y])))
theorem mt_append : MtM X "list.append" rAppend := by
  intro pins s σ H x vs v us Q I rx rv h
  obtain ⟨l, xs, y, rfl, rfl, hH, hz, q⟩ := h
  cases rx
  obtain ⟨u, rfl, ru⟩ := rv.one
  obtain ⟨z, its, n, r, hl, e⟩ := I.lstM hH
  refine call_meets F.slot_list_append ⟨_, e, rfl⟩ F.entry_list_append (F.args_list_append_2 _ _) (PySem.list_append l its.toArray n u (by rw [List.size_toArray]; omega)) ⟨e, ?_⟩
  refine ⟨.non, _, I.lset (its' := its ++ [u]) hH e (by simp) (r.append (.cons ru .nil)) ?_, rfl, q⟩
  rw [List.length_append, List.length_singleton]
  omega

def rPop : V → List V → Hp → VK → Prop := fun x vs H Q => ∃ l xs y, x = .ref l ∧ vs = [] ∧ H l = some (.lst xs) ∧ xs[xs.length - 1]? = some y ∧ Q y (upd H l (.lst xs.dropLast))
theorem mt_pop : MtM X "list.pop" rPop := by
  intro pins s σ H x vs v us Q I rx rv h
  obtain ⟨l, xs, y, rfl, rfl, hH, hy, q⟩ := h
  cases rx
  have hus := rv.zero
  subst hus
  obtain ⟨z, its, n, r, hl, e⟩ := I.lstM hH
  obtain ⟨u, hu, ru⟩ := r.get hy
  have hy' : its.toArray[its.toArray.size - 1]? = some u := by
    show its.toArray[its.length - 1]? = some u
    rw [← Array.getElem?_toList, ← hl]
    exact hu
  refine call_meets F.slot_list_pop ⟨_, e, rfl⟩ F.entry_list_pop (F.args_list_pop_1 _) (MeetsSeq.list_pop_last l its.toArray n u hy' (by rw [List.size_toArray]; omega)) ⟨e, ?_⟩
  refine ⟨y, _, I.lset (its' := its.dropLast) hH e ?_ r.dropLast ?_, ru, q⟩
  · show its.toArray.eraseIdxIfInBounds (its.toArray.size - 1) = its.dropLast.toArray
    rw [List.size_toArray, List.eraseIdxIfInBounds_toArray, erase_last]
  · rw [List.length_dropLast]
    omega

/-! ### list + list, list += list, list * int -/
def rCat : R2 := fun x y H Q => ∃ l b xs zs, x = .ref l ∧ y = .ref b ∧ H l = some (.lst xs) ∧ H b = some (.lst zs) ∧ xs.length + zs.length ≤ sizeLine ∧ ∀ p, H p = none → Q (.ref p) (upd H p (.lst (xs ++ zs)))
theorem op_cat : OpR X (binaryOp .Add) rCat := by
  intro pins s σ H x y v u Q I rx ry h
  obtain ⟨l, b, xs, zs, rfl, rfl, hH, hB, hz, q⟩ := h
  cases rx
  cases ry
  obtain ⟨z, its, n, r, hl, e⟩ := I.lstM hH
  obtain ⟨z2, its2, n2, r2, hl2, e2⟩ := I.lstM hB
  refine PySem.P.add_list e e2 ?_ (by rw [List.size_toArray, List.size_toArray]; omega)
  have ea : its.toArray ++ its2.toArray = (its ++ its2).toArray := by simp
  rw [ea]
  exact ⟨.ref _, _, I.lnew (t' := s.toks) (r.append r2) (by rw [List.length_append]; omega), rfl, q _ I.fresh⟩
/-! ### del xs[i] -/
end

/-! ### xs[a:b] = ys -/
section
variable {prog : Program} {w : World} {A : Around} {E : Value → Shared → Prop} {s : Shared}
set_option maxRecDepth 100000 in
end

section
variable {X : Cx}
end
end L2

namespace Att
open PySem PySem.W PySem.Calls PyProof.Rows

/-! ### the script -/
theorem ints_of_wellAll {P : Params} {h : Heap} : ∀ (ns : List Int) (vs : List Value), WellAll P h vs (ns.map WData.int) → IntsAre vs ns := by
  intro ns
  induction ns with
  | nil =>
    intro vs w
    rw [List.map_nil] at w
    cases w
    exact .nil
  | cons n ns ih =>
    intro vs w
    rw [List.map_cons] at w
    cases w with
    | cons a b =>
      cases a
      exact .cons _ _ (ih _ b)

theorem script_of {l : OpenLaw} {n : Nat} (hn : l.most = some n) {P : Params} {h : Heap} {args : List WData} {vals : List Value}
    (hpre : l.row.toRowW.claim.pre args = true) (hwl : WellAll P h vals args) :
    ∃ a vs ns, vals = [Value.ref a] ∧ args = [WData.list (ns.map WData.int)] ∧ h.get? a = some { cls := .type "list", data := .seq vs.toArray } ∧ IntsAre vs ns ∧ ns.length ≤ n := by
  have hsh : WShape.hasAll [] args [.list .int] = true := (pre_splitW hpre).1
  have hc : l.pre.holds [] { args := args } = true := (pre_splitW hpre).2
  obtain ⟨d, r, rfl, h1, h2⟩ := hasAllW_cons hsh
  obtain rfl := hasAllW_nil h2
  obtain ⟨xs, rfl, h3⟩ := hasW_list h1
  obtain ⟨ns, rfl⟩ := items_int h3
  have hlen : ns.length ≤ n := by
    unfold OpenLaw.pre at hc
    have h4 : (WTm.not (.lt (.lit (.int (n : Int))) (.len (.arg 0)))).holds [] { args := [.list (ns.map .int)] } = true := by
      have h4 := (holds_andW hc).1
      rw [hn] at h4
      exact h4
    have h5 := condW_of h4 (w_not (w_lt w_lit (w_len_list (w_arg rfl))))
    rw [List.length_map] at h5
    refine Nat.le_of_not_lt fun q => ?_
    have q' : (n : Int) < ((ns.length : Nat) : Int) := by omega
    first
      | (rw [decide_eq_true q'] at h5; exact absurd h5 (by decide))
      | (simp at h5; omega)
  cases hwl with
  | cons w1 w2 =>
    cases w2
    cases w1 with
    | list ho hall => exact ⟨_, _, ns, rfl, rfl, ho, ints_of_wellAll ns _ hall, hlen⟩

theorem post_true (l : OpenLaw) (args : List WData) : l.row.toRowW.claim.post args (.bool true) args = true :=
  postW_of (r := l.row.toRowW) (X := (true == true))
    (show WShape.has [] (.bool true) .bool = true by first | rfl | decide | simp [WShape.has, WShape.arms, WShape.armsAll])
    (show (WTm.eq .res (.lit (.bool true))).value [] { args := args, res := some (.bool true), after := args } = some (.bool (true == true)) from w_eq_bool (w_res rfl) w_lit) rfl

/-! ### the attachment: holds_open's last premise (the goal 'hc' behind k_head) from a wpAny of the law's body -/
/-- the same from a codeAny of the CALL (for a layer whose function contracts speak of calls) -/
theorem attach_call {l : OpenLaw} {n : Nat} {q : Program} {loose : List Str} {XP : (Str → Option Value) → Heap → Prop} {YP : World → Heap → Prop} {d : DefRec}
    (hn : l.most = some n) (hdf : d.params.defaults = [])
    (call : ∀ (w : World) (s₀ s₁ : Shared) (mg mb : Str → Option Value) (fa : Addr) (o : Obj) (pm cd doc : Value) (a : Addr) (vs : List Value) (ns : List Int),
      Ground q loose [] XP w s₀ mg mb s₁.heap → YP w s₁.heap →
      s₁.heap.get? fa = some o → o.data = .func (docDef d.name d.params d.body d.scope pm cd doc) → s₁.heap.CodeRec cd d.name → mg d.name = some (.ref fa) →
      s₁.heap.get? a = some { cls := .type "list", data := .seq vs.toArray } → IntsAre vs ns → ns.length ≤ n → s₁.gens = #[] →
      codeAny (model l.prog w) callerA (.call (.ref fa) ⟨[.ref a], []⟩) (fun r s' => r = .ok (.ret (.bool true)) ∧ OldK s₁.heap s'.heap ∧ s'.os = s₁.os ∧ AllBare s'.gens) s₁) :
    WalkO q loose XP YP l.row.toRowW d [] (fun f vs => PySem.call f vs) := by
  intro w s₀ s₁ mg mb G Y fa o pm cd doc dV kV ho hd hcd hD hmg hg args vals as hpre hlay hrd hwl hlo
  obtain rfl : dV = .none := Dflts.none hD hdf
  obtain rfl : kV = .none := Dflts.noKw hD
  obtain ⟨a, vs, ns, rfl, rfl, hobj, hints, hlen⟩ := script_of hn hpre hwl
  refine enter_call (codeAny_mono (call w s₀ s₁ mg mb fa o pm cd doc a vs ns G Y ho (fd_plain hd) hcd hmg hobj hints hlen hg) fun r s' hq => ?_)
  obtain ⟨rfl, h2, h3, h4⟩ := hq
  exact ⟨.inl ⟨.bool true, .bool true, [], rfl, fun _ => rfl, .bool true, post_true l _, fun _ => ⟨List.Pairwise.nil, fun _ hm => (nomatch hm)⟩⟩, h2, h3, h4⟩

/-! ### rules over ANY heap (no ledger) from facts about the written part K: the library's own take a ledger (News) for what they write -/
section
variable {prog : Program} {w : World} {A : Around} {E : Value → Shared → Prop} {s : Shared} {K : Frag}

/-! the whole heap as the ledger: makes every rule that writes through a ledger a rule over any heap -/
def ledger (h : Heap) (L d : Addr) : List (Addr × Obj) := (List.range h.objs.size).filterMap fun a => if a = L ∨ a = d then none else (h.get? a).map fun o => (a, o)
end
end Att

namespace L2
open PySem PySem.Spec PyProof.Rows

theorem vals_ints : ∀ {vs : List Value} {ns : List Int}, IntsAre vs ns → Vals (ns.map V.int) vs
  | _, _, .nil => .nil
  | _, _, .cons n t h => .cons ⟨t, rfl⟩ (vals_ints h)

/-- nothing is tracked but the script, known to the object (or it is an object of the module) -/
def Only (H : Hp) : Prop := ∀ b, H b = none ∨ ∃ o xs, H b = some (.frz o (.lst xs))

/-- THE HEAD: the law's promise, at the heap behind the top. F, the promise of the law's def, may use that base is part of the heap (so K.In base, base.Ns mainGlobals mg stand in Mod) -/
theorem law_call {P : Program} {w : World} {K : PySem.W.Frag} {mg mb : Str → Option Value} {CX : CXT} {k : Nat} {fa a : Addr} {fd : FuncData} {x : Str} {sp : Sp} {s₁ : Shared} {vs : List Value} {ns : List Int}
    (KX : K.In s₁.heap) (hns : s₁.heap.Ns mainGlobals mg) (hb : s₁.heap.Ns builtinsNs mb) (hbb : ∀ x : Str, x ≠ "__name__" → mb x = bootBuiltins x) (hlim : s₁.heap.NoLimit) (hg : s₁.gens = #[])
    (ha : s₁.heap.get? a = some { cls := .type "list", data := .seq vs.toArray }) (hi : IntsAre vs ns) (hl : ns.length ≤ sizeLine) (hr : Room k callerA)
    (F : ∀ base : Heap, K.In base → base.Ns mainGlobals mg → FnOk P w K mg base CX k fa fd [x] sp) (hbind : ∀ (s : Shared) (u : Value), BindsTo s fd ⟨[u], []⟩ [(x, u)])
    (hsp : ∀ H : Hp, Only H → SqL K H a (ns.map V.int) → sp [.ref a] H (fun v _ => v = .bl true) fun _ _ _ => False)
    (hCX : ∀ H e s', CX [] H s₁ (fun _ _ _ => False) e s' → False) :
    codeAny (model P w) callerA (.call (.ref fa) ⟨[.ref a], []⟩) (fun r s' => r = .ok (.ret (.bool true)) ∧ OldK s₁.heap s'.heap ∧ s'.os = s₁.os ∧ AllBare s'.gens) s₁ := by
  have rv := vals_ints hi
  have lenV := hi.length
  -- from an abstract heap in which nothing but the script may be tracked
  have core : ∀ H : Hp, Only H → SqL K H a (ns.map V.int) → HOk P w H s₁.heap → (∀ b, H b ≠ none → b = a) → (H a ≠ none → K.lookup a = none) →
      codeAny (model P w) callerA (.call (.ref fa) ⟨[.ref a], []⟩) (fun r s' => r = .ok (.ret (.bool true)) ∧ OldK s₁.heap s'.heap ∧ s'.os = s₁.os ∧ AllBare s'.gens) s₁ := by
    intro H hO hS hok hA hK
    have base_of : ∀ {b : Addr} {o : Obj}, s₁.heap.get? b = some o → H b = none → (hidT s₁.heap H).get? b = some o := fun e n => hidT_get e n
    have noA : ∀ {b : Addr} {o : Obj} {es : Array DictEntry} {ep : Nat}, s₁.heap.get? b = some o → o.data = .dict es ep → H b = none := fun {b o es ep} e d => by
      cases q : H b with
      | none => rfl
      | some u =>
        have e' : b = a := hA b (by rw [q]; simp)
        subst e'
        rw [ha] at e; cases e
        have d' : Data.seq vs.toArray _ = Data.dict es ep := d
        cases d'
    have nsK : ∀ {b : Addr} {m : Str → Option Value}, s₁.heap.Ns b m → (hidT s₁.heap H).Ns b m := fun {b m} ⟨o, es, ep, e, d, r⟩ => ⟨o, es, ep, base_of e (noA e d), d, r⟩
    have hKb : K.In (hidT s₁.heap H) := fun b o e => base_of (KX b o e) (by
      cases q : H b with
      | none => rfl
      | some u =>
        have e' : b = a := hA b (by rw [q]; simp)
        subst e'
        rw [hK (by rw [q]; simp)] at e; cases e)
    have hM : Mod K mg (hidT s₁.heap H) := ⟨hKb, nsK hns, ⟨mb, nsK hb, hbb⟩, let ⟨mc, h1, h2⟩ := hlim; ⟨mc, nsK h1, h2⟩⟩
    have e0 : Env0 P w K mg (hidT s₁.heap H) callerA [] s₁ H := ⟨rfl, hM, fun b o e => of_hidT e, Nat.le_of_eq (hidT_size _ _), trivial, fun b hb => absurd (show b ∈ ([] : List Addr) from hb) (by simp), hok, .of_eq hg⟩
    refine codeAny_mono ((F _ hKb (nsK hns)).run callerA [] s₁ H ⟨[.ref a], []⟩ [.ref a] [.ref a] _ _ hr e0 (hbind s₁ (.ref a)) (.cons rfl .nil) (hsp H hO hS)) fun r s' h => ?_
    cases r with
    | error e => exact (hCX H e s' h).elim
    | ok fl =>
      cases fl with
      | next => exact False.elim h
      | brk => exact False.elim h
      | cont => exact False.elim h
      | ret u =>
        obtain ⟨v, H', os, bare, un, hok', r', q⟩ := h
        have q' : v = .bl true := q
        subst q'
        obtain rfl : u = Value.bool true := r'
        refine ⟨rfl, OldK.of_keep fun b o e => ?_, os, bare⟩
        cases q : H b with
        | none => exact un.keep b o e q (by intro z; exact absurd (show b ∈ ([] : List Addr) from z) (by simp)) (by simp)
        | some u =>
          rcases hO b with z | ⟨ob, xs, z⟩
          · rw [q] at z; cases z
          · have z2 := un.frzs b ob _ z
            obtain ⟨e1, _⟩ := hok b _ z
            obtain ⟨e2, _⟩ := hok' b _ z2
            rw [e] at e1; cases e1
            exact e2
  cases hk : K.lookup a with
  | some o =>
    -- the script is one of the module's own objects
    have e := KX a o hk
    rw [ha] at e
    cases e
    refine core (fun _ => none) (fun _ => .inl rfl) (.inr ⟨_, vs.toArray, _, hk, rfl, rfl, rfl, by rw [List.size_toArray, lenV]; exact hl, by simpa using rv⟩) (fun b u z => by have z' : (none : Option HO) = some u := z; cases z') (fun b z => absurd rfl z) fun z => absurd rfl z
  | none =>
    refine core (fun b => if b = a then some (.frz { cls := .type "list", data := .seq vs.toArray } (.lst (ns.map V.int))) else none) (fun b => ?_) (.inl (.inr ⟨{ cls := .type "list", data := .seq vs.toArray }, if_pos rfl⟩)) (fun b u z => ?_) (fun b z => ?_) fun _ => hk
    · by_cases hb : b = a
      · exact .inr ⟨_, _, if_pos hb⟩
      · exact .inl (if_neg hb)
    · by_cases hb : b = a
      · have z' := (if_pos hb).symm.trans z
        cases z'
        subst hb
        exact ⟨ha, by rw [List.length_map]; exact hl, vs, _, rv, ha⟩
      · have z' := (if_neg hb).symm.trans z
        cases z'
    · by_cases hb : b = a
      · exact hb
      · exact absurd (if_neg hb) z
end L2

namespace L2
open PySem PySem.Spec PyProof.Rows

/-- the goal that k_head leaves (case hc), from the law's promise. F gives the function object fd (K's own) once, then the promise over every base -/
theorem walk_of {l : PySem.W.OpenLaw} {n k : Nat} {q : Program} {loose : List Str} {XP : (Str → Option Value) → Heap → Prop} {YP : World → Heap → Prop} {d : DefRec} {K : Params → PySem.W.Frag} {CX : World → CXT} {sp : World → Sp} {x : Str}
    (hn : l.most = some n) (hn2 : n ≤ sizeLine) (hdf : d.params.defaults = []) (hr : Room k callerA)
    (hY : ∀ (w : World) (h : Heap), YP w h → (K w.params).In h)
    (F : ∀ (w : World) (mg : Str → Option Value) (fa : Addr) (h : Heap), (K w.params).In h → h.Ns mainGlobals mg → mg d.name = some (.ref fa) →
      ∃ fd : FuncData, (∀ (s : Shared) (u : Value), BindsTo s fd ⟨[u], []⟩ [(x, u)]) ∧
        ∀ base : Heap, (K w.params).In base → base.Ns mainGlobals mg → FnOk l.prog w (K w.params) mg base (CX w) k fa fd [x] (sp w))
    (hsp : ∀ (w : World) (H : Hp) (a : Addr) (ns : List Int), ns.length ≤ n → Only H → SqL (K w.params) H a (ns.map V.int) → sp w [.ref a] H (fun v _ => v = .bl true) fun _ _ _ => False)
    (hCX : ∀ (w : World) (H : Hp) (s : Shared) (e : Value) (s' : Shared), CX w [] H s (fun _ _ _ => False) e s' → False) :
    PySem.W.WalkO q loose XP YP l.row.toRowW d [] (fun f vs => PySem.call f vs) := by
  refine Att.attach_call hn hdf fun w s₀ s₁ mg mb fa o pm cd doc a vs ns G Y ho hd hcd hmg hobj hints hlen hg => ?_
  have KX := hY w _ Y
  obtain ⟨fd, hb, hF⟩ := F w mg fa _ KX G.T.g hmg
  exact law_call KX G.T.g G.T.b G.T.builtins G.T.nolimit hg hobj hints (Nat.le_trans hlen hn2) hr hF hb (fun H hO hS => hsp w H a ns hlen hO hS) fun H e s' => hCX w H s₁ e s'
end L2


/-! SHORT WORDS over the layer: a def of the text, its body, what a loop and a test want. -/
namespace L2
open PySem PySem.Spec PyProof.Rows

/-! ### the text by places -/
/-- the j-th statement of a class's body -/
def inClass (s : Stmt) (j : Nat) : Stmt := match s with
  | .ClassDef _ _ _ body _ _ _ _ _ _ _ => body.getD j (.Pass ⟨0, 0, 0, 0⟩)
  | _ => .Pass ⟨0, 0, 0, 0⟩
def defArgs (s : Stmt) : Arguments := match s with
  | .FunctionDef _ a _ _ _ _ _ _ _ _ => a
  | _ => { posonlyargs := [], args := [], vararg := none, kwonlyargs := [], kw_defaults := [], kwarg := none, defaults := [] }
def defBody (s : Stmt) : List Stmt := match s with
  | .FunctionDef _ _ b _ _ _ _ _ _ _ => b
  | _ => []
def defScope (s : Stmt) : Scope := match s with
  | .FunctionDef _ _ _ _ _ _ sc _ _ _ => sc
  | _ => { kind := .function, names := [], isGenerator := false, isCoroutine := false }

/-! ### no exception leaves a def -/
abbrev CX0 : CXT := fun _ _ _ _ _ _ => False
abbrev E0 : XK := fun _ _ _ => False
theorem pass0 {X : Cx} : Passes CX0 X E0 := fun _ _ _ _ _ _ _ h => h.elim

/-! ### a def (or method) of the text as it stands behind the top -/
structure Fun (K : PySem.W.Frag) (x qual : Str) (st : Stmt) (f : Addr) (fd : FuncData) : Prop where
  ex : ∃ (oc : Value) (od : Option Addr) (kV doc pm : Value) (an : Option Addr) (cdv ct : Value) (osl : Array (Option Value)),
    fd = PySem.W.fnOf x qual (defArgs st) (defBody st) (defScope st) .none kV doc pm an cdv ct ∧ K.lookup f = some ⟨oc, od, .func fd, osl⟩ ∧ PySem.W.codeIn K cdv qual = true
  kp : PySem.W.keepIn K (.ref f) = true
section
variable {P : Program} {w : World} {K : PySem.W.Frag} {mg : Str → Option Value} {base : Heap}
/-- THE RULE for a def: its body as a term of rules, and the reading of that term -/
theorem Fun.ok {x qual : Str} {st : Stmt} {f : Addr} {fd : FuncData} {N ps : List Str} {k : Nat} {sp : Sp} (F : Fun K x qual st f fd) (S : FnScope N ps (defScope st)) (len : ∀ vs H Q E, sp vs H Q E → vs.length = ps.length)
    (hbody : ∀ (cdv : Value) (A : Around) (outer : List Env) (s : Shared) (H : Hp) (vs : List V) (Q : VK) (E : XK), Room k (A.deeper (envOfC qual (defScope st) s.heap.objs.size f cdv)) → sp vs H Q E →
      ∃ t, PSs (cxOf CX0 P w K mg base N qual (defScope st) f cdv A outer s H E).nox (defBody st) t ∧ t { nx := fun _ H' => Q .non H', rt := Q } (start N vs) H) : FnOk P w K mg base CX0 (k + 1) f fd ps sp := by
  obtain ⟨oc, od, kV, doc, pm, an, cdv, ct, osl, rfl, lk, hcd⟩ := F.ex
  refine fn_of lk hcd S len fun A outer s H vs Q E hr hsp => ?_
  obtain ⟨t, h, q⟩ := hbody cdv A outer s H vs Q E hr hsp
  exact ⟨t, h.nox, q⟩
/-- how its arguments bind (no defaults): h is «fun _ _ _ _ _ _ us hl => match us, hl with | [_, _], _ => rfl», one _ a parameter -/
theorem Fun.binds {x qual : Str} {st : Stmt} {f : Addr} {fd : FuncData} {ps : List Str} (F : Fun K x qual st f fd)
    (h : ∀ (kV doc pm : Value) (an : Option Addr) (cdv ct : Value) (us : List Value), us.length = ps.length → bindArgs (PySem.W.fnOf x qual (defArgs st) (defBody st) (defScope st) .none kV doc pm an cdv ct) ⟨us, []⟩ = pure (ps.zip us)) : Binds K fd ps [] := by
  obtain ⟨oc, od, kV, doc, pm, an, cdv, ct, osl, rfl, lk, hcd⟩ := F.ex
  exact .all (h kV doc pm an cdv ct)
theorem fun_mk {x qual : Str} {st : Stmt} {f : Addr} {oc : Value} {od an : Option Addr} {osl : Array (Option Value)} {kV doc pm cdv ct : Value} (l : K.lookup f = some ⟨oc, od, .func (PySem.W.fnOf x qual (defArgs st) (defBody st) (defScope st) .none kV doc pm an cdv ct), osl⟩)
    (c : PySem.W.codeIn K cdv qual = true) (k : PySem.W.keepIn K (.ref f) = true) : Fun K x qual st f (PySem.W.fnOf x qual (defArgs st) (defBody st) (defScope st) .none kV doc pm an cdv ct) := ⟨⟨oc, od, kV, doc, pm, an, cdv, ct, osl, rfl, l, c⟩, k⟩
end
/-! ### expressions in short: the name that stands in the i-th slot -/
section
variable {X : Cx}
theorem pv (i : Nat) {x : Str} {pos : Pos} (hN : X.N[i]? = some x := by rfl) (hv : Vis X.env.scope x := by first | exact Or.inl rfl | exact Or.inr (Or.inl rfl) | exact Or.inr (Or.inr rfl)) (hd : (x == ("__debug__" : Str)) = false := by decide)
    (hcd : (x == ("__classdict__" : Str)) = false := by decide) : PE X (.Name x pos) (tVar i) := pe_var hN hv hd hcd
end

/-! ### tests -/
theorem iteF {A B : Prop} (h : B) : if false = true then A else B := by
  rw [if_neg Bool.false_ne_true]
  exact h
theorem iteT {A B : Prop} (h : A) : if true = true then A else B := by
  rw [if_pos rfl]
  exact h
theorem iteNS {c A B : Prop} [Decidable c] (hc : c) (h : B) : if (!decide c) = true then A else B := by
  rw [decide_eq_true hc]
  exact iteF h

/-! ### heaps -/
/-- all that was tracked is as it was -/
def Same (H H' : Hp) : Prop := ∀ b o, H b = some o → H' b = some o
theorem Same.refl (H : Hp) : Same H H := fun _ _ h => h
theorem Same.trans {H H1 H2 : Hp} (a : Same H H1) (b : Same H1 H2) : Same H H2 := fun c o h => b c o (a c o h)
theorem Same.free {H H' : Hp} (e : Same H H') {l : Addr} (h : H' l = Option.none) : H l = Option.none := by
  cases q : H l with
  | none => rfl
  | some o =>
    rw [e l o q] at h
    cases h
theorem Same.seq {K : PySem.W.Frag} {H H' : Hp} {a : Addr} {xs : List V} (e : Same H H') (h : SqL K H a xs) : SqL K H' a xs := by
  rcases h with (h | ⟨o, h⟩) | h
  · exact .inl (.inl (e _ _ h))
  · exact .inl (.inr ⟨o, e _ _ h⟩)
  · exact .inr h

end L2

section
namespace L2
open PySem PySem.Spec PyProof.Rows
/-! ### more rules: texts, ranges down, comprehensions -/
section
variable {X : Cx}
theorem strs_of : ∀ {ys : List Str} {its : List Value}, Vals (ys.map V.str) its → StrsAre its ys
  | [], _, .nil => .nil
  | _ :: _, _, .cons ⟨_, e⟩ r => by subst e; exact .cons _ _ (strs_of r)
/-- sep.join(a list of texts) -/
theorem mt_join : MtR X "str.join" (fun x xs H Q => ∃ y a ys, x = .str y ∧ xs = [.ref a] ∧ SqL X.K H a (ys.map V.str) ∧ (ys.map (·.length)).sum + ys.length * y.length ≤ 16777216 ∧ Q (.str (Txt.join y ys)) H) := by
  intro pins s σ H x xs v us Q I rx rv h
  obtain ⟨y, a, ys, rfl, rfl, hq, hz, q⟩ := h
  obtain ⟨t, rfl⟩ := rx
  obtain ⟨u, rfl, ru⟩ := rv.one
  cases ru
  obtain ⟨its, r, pl, _⟩ := I.list hq
  exact join_list pl.isList (by simpa using strs_of r) hz fun t' k => ⟨.str _, H, I.tok _, ⟨_, rfl⟩, q⟩
theorem op_mul_str : OpR X (binaryOp .Mult) (fun x y H Q => ∃ z i, x = .str z ∧ y = .int i ∧ i < 2 ^ 40 ∧ -(2 ^ 40) < i ∧ z.length * i.toNat ≤ sizeLine ∧ Q (.str (Txt.mul z i)) H) := by
  intro pins s σ H x y v u Q I rx ry h
  obtain ⟨z, i, rfl, rfl, h1, h2, h3, q⟩ := h
  obtain ⟨t, rfl⟩ := rx
  obtain ⟨t', rfl⟩ := ry
  refine SB.mul ⟨?_, fun h4 _ => ?_, fun h4 _ => ?_⟩ fun t' k => ⟨.str _, H, I.tok _, ⟨_, rfl⟩, q⟩
  · simp only [Bool.or_eq_false_iff, decide_eq_false_iff_not]; omega
  · intro c
    have hn : (0 : Int) < i := by omega
    have h63 := line63
    have e : (z.length : Int) * i ≤ 2 ^ 63 - 1 := by
      have : ((z.length * i.toNat : Nat) : Int) = (z.length : Int) * i := by rw [Int.natCast_mul]; congr 1; omega
      omega
    have := (Int.le_ediv_iff_mul_le hn).mpr e
    omega
  · unfold Builtin.Str.tooLong; simpa using h3
theorem call_int_text : CallR X (.type "int") (fun xs H Q => ∃ x n, xs = [.str x] ∧ PySem.intText? x = some n ∧ x.length ≤ 640 ∧ Q (.int n) H) := by
  intro pins s σ H xs us Q I r h
  obtain ⟨x, n, rfl, hn, hl, q⟩ := h
  obtain ⟨u, rfl, t, rfl⟩ := vals1 r
  exact PySem.W.KIN.call_text hn hl ⟨.int n, H, I.tok _, ⟨_, rfl⟩, q⟩
theorem sl_str : SlR X (fun x lo hi H Q => ∃ z, x = .str z ∧ z.length ≤ sizeLine ∧ Q (.str (Txt.slice z lo hi)) H) := by
  intro pins s σ H x v vl vu lo hi sl Q I rx hs pl pu h
  obtain ⟨z, rfl, hz, q⟩ := h
  obtain ⟨t, rfl⟩ := rx
  refine ⟨"str", _, F.slot_str_getitem.lookup, typeIs_str s z t, ?_⟩
  have fin : ∀ (t' : Tok) (k : Nat), EP X pins σ Q (.str (Txt.slice z lo hi) t') { s with toks := k } := fun t' k => ⟨.str _, H, I.tok _, ⟨_, rfl⟩, q⟩
  obtain ⟨o, ho, hc, hd⟩ := hs
  cases pl with
  | none =>
    cases pu with
    | none => exact wpAny_getItem_str_slice (l := none) (u := none) (st := none) ⟨o, ho, hc, hd⟩ rfl (post_val_or_str ⟨Nat.le_trans (Txt.slice_le z _ _) hz, fin⟩)
    | int j uj => exact wpAny_getItem_str_slice (l := none) (u := some (j, uj)) (st := none) ⟨o, ho, hc, hd⟩ rfl (post_val_or_str ⟨Nat.le_trans (Txt.slice_le z _ _) hz, fin⟩)
  | int i ui =>
    cases pu with
    | none => exact wpAny_getItem_str_slice (l := some (i, ui)) (u := none) (st := none) ⟨o, ho, hc, hd⟩ rfl (post_val_or_str ⟨Nat.le_trans (Txt.slice_le z _ _) hz, fin⟩)
    | int j uj => exact wpAny_getItem_str_slice (l := some (i, ui)) (u := some (j, uj)) (st := none) ⟨o, ho, hc, hd⟩ rfl (post_val_or_str ⟨Nat.le_trans (Txt.slice_le z _ _) hz, fin⟩)
/-- isinstance(x, T), T a built-in type -/
theorem call_isinst : CallR X (.builtin "isinstance") (fun xs H Q => ∃ x T t b, xs = [x, .ty T] ∧ TyOf X.K H x t ∧ PySem.W.kitOne X.K t (.type T) = some b ∧ Q (.bl b) H) := by
  intro pins s σ H xs us Q I r h
  obtain ⟨x, T, t, b, rfl, ty, e, q⟩ := h
  obtain ⟨u, w', rfl, r1, r2⟩ := vals2 r
  cases (show w' = Value.type T from r2)
  exact isinst_ok I r1 ty e fun tk => ⟨.bl b, H, I.tok _, rfl, q⟩
/-- isinstance(x, C), C a class of the text -/
theorem call_isinstC : CallR X (.builtin "isinstance") (fun xs H Q => ∃ x C t b, xs = [x, .ref C] ∧ TyOf X.K H x t ∧ PySem.W.kitOne X.K t (.ref C) = some b ∧ Q (.bl b) H) := by
  intro pins s σ H xs us Q I r h
  obtain ⟨x, C, t, b, rfl, ty, e, q⟩ := h
  obtain ⟨u, w', rfl, r1, r2⟩ := vals2 r
  cases (show w' = Value.ref C from r2)
  exact isinst_ok I r1 ty e fun tk => ⟨.bl b, H, I.tok _, rfl, q⟩
end
/-! ### a range with a step -/
section
variable {X : Cx} {tg : Expr}
end
end L2

end

section
namespace L2
open PySem PySem.Spec PyProof.Rows
/-! ### range(a, b, -1) -/
section
variable {X : Cx} {tg : Expr}
end
/-! ### a text's signs -/
def Its (x : Str) : It := ⟨fun i _ => i < x.cps.size, fun i H v H' => H' = H ∧ ∃ c, x.cps[i]? = some c ∧ v = .str ⟨#[c]⟩, fun i _ => x.cps.size ≤ i⟩
section
variable {X : Cx} {tg : Expr}
theorem turn_str {P : Program} {w : World} {K : PySem.W.Frag} {tg : Expr} (x : Str) (it : Addr) (n : String) (t : Tok) (W : ∀ A' : Around, A'.handled = none → Walks P w A' it [it] [it] x.cps.size (SignAt x) (fun i h => h.IsStrIter it n x t i))
    (hn : ["enumerate", "zip", "dict_itemiterator", "dict_reverseitemiterator", "odict_iterator", "itertools.zip_longest", "itertools.pairwise"].contains n = false)
    (hdone : ∀ (A : Around) (i : Nat) (s : Shared) (Q : Option Value → Shared → Prop) (E : Value → Shared → Prop), A.handled = none → s.heap.IsStrIter it n x t i → x.cps.size ≤ i → (∀ h', (∀ b o, b ≠ it → s.heap.get? b = some o → h'.get? b = some o) → Q none { s with heap := h' }) → wpAny (model P w) A (pyNext (.ref it)) Q E s)
    (hself : ∀ (A : Around) (i : Nat) (s : Shared) (Q : Value → Shared → Prop) (E : Value → Shared → Prop), s.heap.IsStrIter it n x t i → Q (.ref it) s → wpAny (model P w) A (pyIter (.ref it)) Q E s) :
    Turn P w K tg (Its x) [it] it (fun i h => h.IsStrIter it n x t i) where
  mem := by simp
  obj := fun i h st b hb => by
    have e : b = it := by simpa using hb
    subst e
    obtain ⟨o, ho, hc, hd⟩ := st
    exact ⟨o, ho, fun v z => by rw [hd] at z; cases z⟩
  keep := fun i h h' st k => by
    obtain ⟨o, ho, r⟩ := st
    exact ⟨o, k it (by simp) o ho, r⟩
  item := by
    intro X hP hw hK hc i pins s σ H E I hf st hg
    subst hP hw hK
    obtain ⟨f0, f1, f2, f3, f4, f5⟩ := hf it (by simp)
    refine (W X.A (I.ok.hd hc)).item i s _ _ hg st fun v h' tk hv st' kk => ?_
    obtain ⟨c, u, hc', rfl⟩ := hv
    have I1 : Inv X pins σ H { s with heap := h', toks := tk } := I.turned (fun b o hb e => kk b o (by simpa using hb) e) f0 f1 f3 f4 f5
    obtain ⟨o, ho, hcl, hd⟩ := id st'
    exact ⟨_, rfl, go_of (s := { s with heap := h', toks := tk }) (n := n) ho hcl hd hn ⟨.str ⟨#[c]⟩, H, I1, ⟨u, rfl⟩, ⟨rfl, c, hc', rfl⟩, st', fun b hb => (hf b hb).1⟩⟩
  done := by
    intro X hP hw hK hc i pins s σ H E I hf st hg
    subst hP hw hK
    obtain ⟨f0, f1, f2, f3, f4, f5⟩ := hf it (by simp)
    exact hdone X.A i s _ _ (I.ok.hd hc) st hg fun h' eb => ⟨rfl, I.turned (t' := s.toks) (fun b o hb e => eb b o hb e) f0 f1 f3 f4 f5⟩
  self := fun A i s Q E st h => hself A i s Q E st h
def iStr (tl : TE) : TI := fun σ H R => tl σ H fun x H1 => ∃ y, x = .str y ∧ R (Its y) H1
theorem pi_str {l : Expr} {tl : TE} (hl : PE X l tl) : PI X tg l (iStr tl) := by
  intro pins s σ H R I h
  refine thn (hl pins s σ H _ I h) fun v s1 ⟨x, H1, I1, r1, q1⟩ => ?_
  obtain ⟨y, e, q⟩ := q1
  subst e
  obtain ⟨t, rfl⟩ := r1
  have fin : ∀ (o : Obj) (tn : Nat → Heap → Prop), Turn X.prog X.w X.K tg (Its y) [s1.heap.objs.size] s1.heap.objs.size tn → tn 0 (s1.heap.push o) → PIE X pins σ tg R (.ref s1.heap.objs.size) { s1 with heap := s1.heap.push o } := fun o tn T h0 => by
    refine ⟨s1.heap.objs.size, [s1.heap.objs.size], tn, Its y, H1, rfl, I1.kept (t' := s1.toks) fun b o e => Heap.get?_push_of_some _ e, T, h0, fun b hb => ?_, q⟩
    have e := List.mem_singleton.mp hb
    subst e
    exact I1.fpOk (Nat.le_refl _) (I1.hok.fresh (Nat.le_refl _))
  cases ha : y.cps.all (· < 128)
  · refine wpAny_pyIter_wide ha (fin _ _ (turn_str y _ "str_iterator" t (fun A' hA => Walks.strWide hA _ y t) (by decide) (fun A i s Q E hh st hi hQ => ?_) fun A i s Q E st hq => wpAny_pyIter_striter_wide st hq) ⟨_, Heap.get?_push_size _ rfl, rfl, rfl⟩)
    exact wpAny_pyNext_wide_end hh st (by simpa using hi) fun h' he' => hQ h' fun b o hb e => he' b o hb e
  · refine wpAny_pyIter_ascii ha (fin _ _ (turn_str y _ "str_ascii_iterator" t (fun A' hA => Walks.strAscii hA _ y t) (by decide) (fun A i s Q E hh st hi hQ => ?_) fun A i s Q E st hq => wpAny_pyIter_striter_ascii st hq) ⟨_, Heap.get?_push_size _ rfl, rfl, rfl⟩)
    exact wpAny_pyNext_ascii_end hh st (by simpa using hi) fun h' he' => hQ h' fun b o hb e => he' b o hb e
end
/-! ### list comprehensions -/
/-- what is asked of a comprehension's scope: cs the names that it takes from around -/
def compScopeOk (sc : Scope) (cs : List Str) : Bool :=
  sc.kind == .function && sc.names.all (fun y => y.2 != .cell) && sc.names.all (fun y => y.2 != .local || sc.names.lookup y.1 == some .local) &&
    sc.names.all (fun y => y.2 != .free || cs.contains y.1) && cs.all (fun x => sc.names.lookup x == some .free)
/-- the captured names: place in the frame around, name -/
def CapsOk (X : Cx) : List (Nat × Str) → Prop
  | [] => True
  | (j, x) :: r => X.N[j]? = some x ∧ (X.env.kindOf x = some .cell ∨ X.env.kindOf x = some .free) ∧ CapsOk X r
theorem CapsOk.at {X : Cx} : ∀ {cs : List (Nat × Str)}, CapsOk X cs → ∀ p ∈ cs, X.N[p.1]? = some p.2 ∧ (X.env.kindOf p.2 = some .cell ∨ X.env.kindOf p.2 = some .free)
  | [], _, _, h => nomatch h
  | (j, x) :: r, ⟨h1, h2, h3⟩, p, h => by
    rcases List.mem_cons.mp h with e | e
    · subst e; exact ⟨h1, h2⟩
    · exact CapsOk.at h3 p e
def cxComp (X : Cx) (scope : Scope) (cl : List (Str × Addr)) (C : Addr) (N : List Str) (s2 : Shared) (H2 : Hp) (fp : List Addr) : Cx where
  prog := X.prog
  w := X.w
  K := X.K
  mg := X.mg
  base := X.base
  A := X.A
  N := N
  s₀ := s2
  H₀ := H2
  env := compEnvC scope cl C X.env
  outer := X.stack
  stack := X.stack
  ex := fp
  calm := X.calm
  fn := fun _ => false
  pn := []
  xe := fun _ _ => False
theorem closure_of {env : Env} : ∀ (names : List (Str × NameKind)), (∀ y ∈ names, y.2 = .free → ∃ c, env.cells.lookup y.1 = some c) →
    ∀ acc : List (Str × Addr), (∀ x c, acc.lookup x = some c → env.cells.lookup x = some c) → ∃ cl,
    (forIn names acc fun (x : Str × NameKind) r => do
      if x.2 == .free then pure (ForInStep.yield ((x.1, ← cellOf env x.1) :: r)) else pure (ForInStep.yield r) : Sem (List (Str × Addr))) = pure cl ∧
    (∀ x c, cl.lookup x = some c → env.cells.lookup x = some c) ∧ (∀ y ∈ names, y.2 = .free → ∃ c, cl.lookup y.1 = some c) ∧ ∀ x c, acc.lookup x = some c → ∃ c', cl.lookup x = some c'
  | [], _, acc, ha => ⟨acc, rfl, ha, (fun _ h => nomatch h), fun _ c h => ⟨c, h⟩⟩
  | (n, k) :: r, hn, acc, ha => by
    by_cases hk : k = .free
    · subst hk
      obtain ⟨c, hc⟩ := hn _ List.mem_cons_self rfl
      have ha' : ∀ x c', ((n, c) :: acc).lookup x = some c' → env.cells.lookup x = some c' := fun x c' e => by
        rw [List.lookup_cons] at e
        by_cases hx : x = n
        · subst hx
          rw [beq_self_eq_true] at e
          cases e
          exact hc
        · rw [beq_false_of_ne hx] at e
          exact ha x c' e
      obtain ⟨cl, e, h1, h2, h3⟩ := closure_of r (fun y hy => hn y (List.mem_cons_of_mem _ hy)) ((n, c) :: acc) ha'
      refine ⟨cl, ?_, h1, fun y hy hf => ?_, fun x c' hx => ?_⟩
      · rw [List.forIn_cons]
        simp only [cellOf, hc, beq_self_eq_true, if_true]
        exact e
      · rcases List.mem_cons.mp hy with e' | e'
        · subst e'
          exact h3 n c (by rw [List.lookup_cons, beq_self_eq_true])
        · exact h2 y e' hf
      · by_cases hxn : x = n
        · subst hxn
          exact h3 x c (by rw [List.lookup_cons, beq_self_eq_true])
        · exact h3 x c' (by rw [List.lookup_cons, beq_false_of_ne hxn]; exact hx)
    · obtain ⟨cl, e, h1, h2, h3⟩ := closure_of r (fun y hy => hn y (List.mem_cons_of_mem _ hy)) acc ha
      refine ⟨cl, ?_, h1, fun y hy hf => ?_, h3⟩
      · rw [List.forIn_cons]
        have hb : (k == NameKind.free) = false := by simpa using hk
        simp only [hb, Bool.false_eq_true, if_false]
        exact e
      · rcases List.mem_cons.mp hy with e' | e'
        · subst e'
          exact absurd hf hk
        · exact h2 y e' hf
end L2

end

section
namespace L2
open PySem PySem.Spec PyProof.Rows
/-- the turns of a comprehension over J from the block's frame σ0 on, its list at D -/
def CompGo (J : It) (g : TG) (tc : TT) (te : TE) (Q : VK) (σ0 : St) (H1 : Hp) (D : Addr) : Prop :=
  ∃ W : Nat → Nat → St → Hp → Prop, (∃ m, W 0 m σ0 (upd H1 D (.lst []))) ∧ ∀ i m σ1 H2, W i m σ1 H2 →
    (J.stop i H2 ∧ Q (.ref D) H2) ∨
    (J.go i H2 ∧ ∀ x H3, J.yld i H2 x H3 → g x σ1 H3 fun σ2 H4 => tc σ2 H4 fun b H5 =>
      if b = true then te σ2 H5 fun y H6 => ∃ xs m', H6 D = some (.lst xs) ∧ xs.length < sizeLine ∧ m' < m ∧ W (i + 1) m' σ2 (upd H6 D (.lst (xs ++ [y])))
      else ∃ m', m' < m ∧ W (i + 1) m' σ2 H5)
def tComp (wi : TI) (g : TG) (tc : TT) (te : TE) (σ0 : St → St) : TE := fun σ H Q => wi σ H fun J H1 => ∀ D, H1 D = none → CompGo J g tc te Q (σ0 σ) H1 D
def tYes : TT := fun _ H Q => Q true H
/-- the tests of a comprehension -/
def PTs (X : Cx) (ifs : List Expr) (t : TT) : Prop :=
  ∀ (pins : List (Addr × Obj)) (s : Shared) (σ : St) (H : Hp) (Q : Bool → Hp → Prop), Inv X pins σ H s → t σ H Q →
    wpAny (model X.prog X.w) X.A (forIn ifs true fun c r => if r = true then do let ok ← isTrue c X.env (eval c X.env); pure (ForInStep.yield ok) else pure (ForInStep.yield r)) (TP X pins σ Q) X.xe s
theorem pts_nil {X : Cx} : PTs X [] tYes := fun _ _ _ H _ I h => wpAny_tests_nil ⟨H, I, h⟩
section
variable {prog : Program} {w : World} {A : Around} {E : Value → Shared → Prop} {R : Result → Shared → Prop} {s : Shared}
theorem compLoop_gen {elt target iter : Expr} {ifs : List Expr} {scope : Scope} {pos : Pos} {it acc : Value} {env : Env} (I : Nat → Shared → Prop)
    (turn : ∀ n s, I n s → wpAny (model prog w) A (pyNext it) (fun r s₁ => match r with
      | none => R (.ok .next) s₁
      | some v => wpAny (model prog w) A (letOwnedTupleGo target it v) (fun _ s₁' => wpAny (model prog w) A (assign target env v) (fun _ s₂ =>
          wpAny (model prog w) A (forIn ifs true fun c r => if r = true then do let ok ← isTrue c env (eval c env); pure (ForInStep.yield ok) else pure (ForInStep.yield r)) (fun ok s₃ =>
            if ok = true then wpAny (model prog w) A (eval elt env) (fun x s₄ =>
              wpAny (model prog w) A (call (.builtin "list.append") [acc, x]) (fun _ s₅ => ∃ m, m < n ∧ I m s₅) (notedBy (model prog w) A env fun e s' => R (.error e) s') s₄) (notedBy (model prog w) A env fun e s' => R (.error e) s') s₃
            else ∃ m, m < n ∧ I m s₃) (notedBy (model prog w) A env fun e s' => R (.error e) s') s₂) (notedBy (model prog w) A env fun e s' => R (.error e) s') s₁') (notedBy (model prog w) A env fun e s' => R (.error e) s') s₁) (notedBy (model prog w) A env fun e s' => R (.error e) s') s)
    (n : Nat) (h : I n s) :
    codeAny (model prog w) A (.compLoop (.ListComp elt [⟨target, iter, ifs, 0⟩] scope pos) 0 it acc env) R s := by
  refine codeAny_loop rfl I (fun n s hI => ?_) n h
  show wpAny _ A ((compTurn (.ListComp elt [⟨target, iter, ifs, 0⟩] scope pos) 0 it acc env).onRaise (fun x => do noteFrame x env; theTreesLotGoes x)) _ _ s
  refine wpAny_noted ?_
  rw [compTurn_list]
  refine wpAny_bind (wpAny_standAt (wpAny_bind (wpAny_mono (turn n s hI) (fun r s₁ h₁ => ?_) fun _ _ h' => h')))
  cases r with
  | none => exact wpAny_pure h₁
  | some v =>
    refine wpAny_bind (wpAny_mono h₁ (fun _ s₁' h₁' => ?_) fun _ _ h' => h')
    refine wpAny_bind (wpAny_mono h₁' (fun _ s₂ h₂ => wpAny_bind (wpAny_mono h₂ (fun ok s₃ h₃ => ?_) fun _ _ h' => h')) fun _ _ h' => h')
    cases ok with
    | false => exact wpAny_pure ⟨rfl, h₃⟩
    | true =>
      exact wpAny_bind (wpAny_bind (wpAny_mono h₃ (fun x s₄ h₄ => wpAny_bind (wpAny_mono h₄ (fun _ s₅ h₅ => wpAny_pure (wpAny_pure ⟨rfl, h₅⟩)) fun _ _ h' => h')) fun _ _ h' => h'))
end
section
variable {X : Cx} {elt target iter : Expr} {ifs : List Expr} {scope : Scope} {pos p : Pos} {caps : List (Nat × Str)} {tgs : List Str} {wi : TI} {g : TG} {tc : TT} {te : TE}
/-- the block's frame at its start -/
def compSt (tgs : List Str) (caps : List (Nat × Str)) : St → St := fun σ => List.replicate tgs.length none ++ caps.map fun p => (σ[p.1]?).join
theorem relabel_free {env : Env} : ∀ {names : List (Str × NameKind)} {x : Str}, names.lookup x = some .free →
    ((names.map fun (n, k) => if (k == NameKind.free && env.scope.kind == .function && env.kindOf n == some .cell) then (n, NameKind.cell) else (n, k)).lookup x = some .cell ∨
     (names.map fun (n, k) => if (k == NameKind.free && env.scope.kind == .function && env.kindOf n == some .cell) then (n, NameKind.cell) else (n, k)).lookup x = some .free)
  | [], _, h => by cases h
  | (n, k) :: r, x, h => by
    rw [List.lookup_cons] at h
    rw [List.map_cons]
    by_cases hx : x = n
    · subst hx
      rw [beq_self_eq_true] at h
      cases h
      dsimp only
      split
      · exact .inl (by rw [List.lookup_cons, beq_self_eq_true])
      · exact .inr (by rw [List.lookup_cons, beq_self_eq_true])
    · rw [beq_false_of_ne hx] at h
      have ih := relabel_free (env := env) h
      dsimp only
      split <;> (rw [List.lookup_cons, beq_false_of_ne hx]; exact ih)
theorem relabel_back {env : Env} : ∀ {names : List (Str × NameKind)} {x : Str}, ((names.map fun (n, k) => if (k == NameKind.free && env.scope.kind == .function && env.kindOf n == some .cell) then (n, NameKind.cell) else (n, k)).lookup x = some .cell ∨
     (names.map fun (n, k) => if (k == NameKind.free && env.scope.kind == .function && env.kindOf n == some .cell) then (n, NameKind.cell) else (n, k)).lookup x = some .free) → (∀ y ∈ names, y.2 ≠ .cell) → names.lookup x = some .free
  | [], _, h, _ => by rcases h with h | h <;> cases h
  | (n, k) :: r, x, h, hn => by
    rw [List.lookup_cons]
    by_cases hx : x = n
    · subst hx
      rw [beq_self_eq_true]
      have hk := hn _ List.mem_cons_self
      rw [List.map_cons] at h
      dsimp only at h
      split at h
      · rename_i c
        simp only [Bool.and_eq_true, beq_iff_eq] at c
        exact congrArg some c.1.1
      · rw [List.lookup_cons, beq_self_eq_true] at h
        rcases h with h | h
        · cases h; exact absurd rfl hk
        · exact h
    · rw [beq_false_of_ne hx]
      refine relabel_back (env := env) ?_ fun y hy => hn y (List.mem_cons_of_mem _ hy)
      rw [List.map_cons] at h
      dsimp only at h
      split at h <;> (rw [List.lookup_cons, beq_false_of_ne hx] at h; exact h)
theorem mem_lookup_free : ∀ {names : List (Str × NameKind)} {x : Str} {k : NameKind}, names.lookup x = some k → (x, k) ∈ names
  | [], _, _, h => by cases h
  | (n, k') :: r, x, k, h => by
    rw [List.lookup_cons] at h
    by_cases hx : x = n
    · subst hx
      rw [beq_self_eq_true] at h
      cases h
      exact List.mem_cons_self
    · rw [beq_false_of_ne hx] at h
      exact List.mem_cons_of_mem _ (mem_lookup_free h)
set_option maxHeartbeats 1000000
theorem comp_core {use : Option (Value → Sem Unit)} {Qf : Value → Shared → Prop} {pins : List (Addr × Obj)} {σ : St} {H : Hp} {s : Shared} {Q : VK}
    (hc : X.calm = true) (hsc : compScopeOk scope (caps.map (·.2)) = true) (hcap : CapsOk X caps) (hi : PI X target iter wi)
    (hg : ∀ cl C s2 H2 fp, PG (cxComp X scope cl C (tgs ++ caps.map (·.2)) s2 H2 fp) target g)
    (ht : ∀ cl C s2 H2 fp, PTs (cxComp X scope cl C (tgs ++ caps.map (·.2)) s2 H2 fp) ifs tc)
    (he : ∀ cl C s2 H2 fp, PE (cxComp X scope cl C (tgs ++ caps.map (·.2)) s2 H2 fp) elt te)
    (I : Inv X pins σ H s) (h : tComp wi g tc te (compSt tgs caps) σ H Q)
    (fin : ∀ D C H' s', Inv X pins σ H' s' → Q (.ref D) H' → H' C = none → C ≠ X.env.locals → X.s₀.heap.objs.size ≤ C → (∀ x c, X.env.cells.lookup x = some c → c ≠ C) → (∀ p ∈ X.pn ++ pins, p.1 ≠ C) → (∃ m, s'.heap.Ns C m) →
      compPost (model X.prog X.w) X.A X.xe use Qf (.ref D) C (.ok .next) s')
    (hs : ∀ x, foldedSetIterable iter X.env x = pure x := by intro _; rfl) :
    wpAny (model X.prog X.w) X.A (comprehension (.ListComp elt [⟨target, iter, ifs, 0⟩] scope pos) scope X.env p (newList []) false (eval iter X.env) use) Qf X.xe s := by
  simp only [compScopeOk, Bool.and_eq_true, List.all_eq_true, beq_iff_eq, bne_iff_ne, Bool.or_eq_true, List.contains_iff_mem] at hsc
  obtain ⟨⟨⟨⟨k1, k2⟩, k3⟩, k4⟩, k5⟩ := hsc
  have hnames : ∀ y ∈ scope.names, y.2 = .local → scope.names.lookup y.1 = some .local := fun y hy hl => (k3 y hy).resolve_left fun z => z hl
  have capAt := hcap.at
  have hfr : ∀ y ∈ scope.names, y.2 = .free → ∃ c, X.env.cells.lookup y.1 = some c := fun y hy hf => by
    have hm := (k4 y hy).resolve_left fun z => z hf
    obtain ⟨q, hq, e⟩ := List.mem_map.mp hm
    have := (capAt q hq).2
    rw [e] at this
    exact I.ok.has _ this
  obtain ⟨cl, hcl, hin, hall, _⟩ := closure_of scope.names hfr [] (fun x c e => by cases e)
  have hclos : closureFor scope X.env = pure cl := by
    refine (show closureFor scope X.env = (_ >>= pure) from rfl).trans ((congrArg (· >>= pure) hcl).trans ?_)
    rfl
  refine wpAny_comprehension_free (use := use) rfl hs hclos k1 hnames (thn (hi pins s σ H _ I h) fun v s1 h1 => thn h1 fun itv s2 h2 => ?_)
  obtain ⟨it, fp, tn, J, H2, e, I2, T, st2, f2, hW⟩ := h2
  subst e
  have fD : H2 s2.heap.objs.size = none := I2.fresh
  obtain ⟨W, ⟨m0, w0⟩, turn⟩ := hW _ fD
  refine wpAny_newObj_type (wpAny_newFunctionEnv k2 (by intro y hy; simp at hy) (fun h₁ hns₁ hsb₁ => ?_) k1)
  dsimp only at hns₁ hsb₁ ⊢
  generalize hH3 : s2.heap.push { cls := .type "list", dict := none, data := .seq ([] : List Value).toArray } = H3 at hns₁ hsb₁ ⊢
  have hC : H3.objs.size = s2.heap.objs.size + 1 := by rw [← hH3, Heap.size_push]
  have hDC : s2.heap.objs.size ≠ H3.objs.size := by rw [hC]; exact Nat.ne_of_lt (Nat.lt_succ_self _)
  have hCle : s2.heap.objs.size ≤ H3.objs.size := by rw [hC]; exact Nat.le_succ _
  have below : ∀ b, b < s2.heap.objs.size → b ≠ H3.objs.size := fun b hb => by rw [hC]; exact Nat.ne_of_lt (Nat.lt_succ_of_lt hb)
  have old : ∀ b o, s2.heap.get? b = some o → h₁.get? b = some o := fun b o e => hsb₁.extBut b o (below b (Heap.lt_size e)) (Heap.get?_push_of_some _ (hH3 ▸ Heap.get?_push_of_some _ e))
  have hacc : h₁.get? s2.heap.objs.size = some { cls := .type "list", dict := none, data := .seq ([] : List Value).toArray } := hsb₁.extBut _ _ hDC (Heap.get?_push_of_some _ (hH3 ▸ Heap.get?_push_size _ rfl))
  have fC : H2 H3.objs.size = none := I2.hok.fresh hCle
  have fpl : ∀ b ∈ fp, b < s2.heap.objs.size := fun b hb => by
    obtain ⟨o, ho, _⟩ := T.obj _ _ st2 b hb
    exact Heap.lt_size ho
  -- the block's context
  let X' := cxComp X scope cl H3.objs.size (tgs ++ caps.map (·.2)) s2 H2 fp
  have ok' : X'.Ok := by
    refine ⟨I2.ok.mod, k1, I2.ok.glob, I2.ok.blt, hCle, fun x y c hx hy => I2.ok.inj x y c (hin _ _ hx) (hin _ _ hy), fun x hx => ?_, (fun x c hf => nomatch hf), I2.ok.hd, I2.ok.frames, .inl rfl, fun b hb => ⟨below b (fpl b hb), fun x c hx => (f2 b hb).2.2.2.2.1 x c (hin _ _ hx)⟩, I2.bs,
      Nat.le_trans I2.ok.bsz I2.sz, fun b o e hb => ?_, fun b hb z => ?_, I2.stack, I2.stkFree⟩
    · exact hall (x, .free) (mem_lookup_free (relabel_back hx k2)) rfl
    · rcases (f2 b hb).2.2.2.1 with z | z
      · exact I2.ok.noex b o e z
      · exact absurd (Nat.lt_of_lt_of_le (Heap.lt_size e) I2.ok.bsz) (Nat.not_lt.mpr z)
    · rcases List.mem_cons.mp (I2.stkSub b z) with q | q
      · exact (f2 b hb).2.1 q
      · exact (f2 b hb).2.2.1 q
  have un4 : Un (frs X.stack) fp H2 (upd H2 s2.heap.objs.size (.lst [])) s2.heap h₁ := Un.laid old (Nat.le_refl _) fD
  have hok4 : HOk X.prog X.w (upd H2 s2.heap.objs.size (.lst [])) h₁ := I2.hok.laid old (Nat.le_refl _) ⟨Nat.zero_le _, [], 0, .nil, hacc⟩
  have I4 : ∀ tk, Inv X' [] (compSt tgs caps σ) (upd H2 s2.heap.objs.size (.lst [])) { s2 with heap := h₁, toks := tk } := fun tk => by
    refine ⟨ok', rfl, I2.bare, un4, ⟨_, hns₁, fun i x v e1 e2 e3 => ?_⟩, fun x c hx => ?_, ?_, fun x c hx => ?_, fun q hq => ?_, hok4, ?_⟩
    · -- a captured name
      obtain ⟨m2, _, hl2⟩ := I2.loc
      have hlt : tgs.length ≤ i := by
        rcases Nat.lt_or_ge i tgs.length with z | z
        · have : (compSt tgs caps σ)[i]? = some none := by
            unfold compSt
            rw [List.getElem?_append_left (by simpa using z), List.getElem?_replicate, if_pos z]
          rw [this] at e2
          cases e2
        · exact z
      have e1' : (tgs ++ caps.map (·.2))[i]? = some x := e1
      rw [List.getElem?_append_right hlt, List.getElem?_map] at e1'
      have e2' : (caps.map fun p => (σ[p.1]?).join)[i - tgs.length]? = some (some v) := by
        have : (compSt tgs caps σ)[i]? = (caps.map fun p => (σ[p.1]?).join)[i - tgs.length]? := by
          unfold compSt
          rw [List.getElem?_append_right (by simpa using hlt), List.length_replicate]
        rw [← this]
        exact e2
      rw [List.getElem?_map] at e2'
      cases hq : caps[i - tgs.length]? with
      | none => rw [hq] at e1'; cases e1'
      | some q =>
        rw [hq] at e1' e2'
        obtain rfl : q.2 = x := Option.some.inj e1'
        have e2'' : (σ[q.1]?).join = some v := Option.some.inj e2'
        have hσ : σ[q.1]? = some (some v) := by
          cases z : σ[q.1]? with
          | none => rw [z] at e2''; cases e2''
          | some y => rw [z] at e2''; exact congrArg some e2''
        have hqm : q ∈ caps := List.mem_of_getElem? hq
        obtain ⟨n1, n2⟩ := capAt q hqm
        have hvis : Vis X.env.scope q.2 := by
          rcases n2 with z | z
          · exact .inr (.inl z)
          · exact .inr (.inr z)
        obtain ⟨u, ru, lk⟩ := hl2 q.1 q.2 v n1 hσ hvis
        have hfree : scope.names.lookup q.2 = some .free := k5 q.2 (List.mem_map_of_mem hqm)
        refine ⟨u, ru, .inr ⟨relabel_free hfree, ?_⟩⟩
        rcases lk with ⟨z, _⟩ | ⟨_, c, hcc, oc, hoc, hocd⟩
        · rcases n2 with y | y <;> (rw [y] at z; cases z)
        · obtain ⟨c', hc'⟩ := hall (q.2, .free) (mem_lookup_free hfree) rfl
          have := hin _ _ hc'
          rw [hcc] at this
          cases this
          exact ⟨c, hc', oc, old _ _ hoc, hocd⟩
    · obtain ⟨v, o, ho, hd⟩ := I2.cell x c (hin _ _ hx)
      exact ⟨v, o, old _ _ ho, hd⟩
    · show upd H2 s2.heap.objs.size (.lst []) H3.objs.size = none
      rw [upd_ne (Ne.symm hDC)]
      exact fC
    · have hcf := I2.freeC x c (hin _ _ hx)
      obtain ⟨v, o, ho, hd⟩ := I2.cell x c (hin _ _ hx)
      rw [upd_ne (Nat.ne_of_lt (Heap.lt_size ho))]
      exact hcf
    · have : q ∈ ([] : List (Addr × Obj)) := hq
      cases this
    · show (compSt tgs caps σ).length = (tgs ++ caps.map (·.2)).length
      simp [compSt]
  have stat : ∀ {pins' : List (Addr × Obj)} {H' : Hp}, (∀ b ∈ fp, H' b = none) → (∀ q ∈ pins', q.1 ∉ fp) → ∀ b ∈ fp, FpOk X' pins' H' b := fun hn hp b hb =>
    ⟨hn b hb, below b (fpl b hb), fun z => by
      rcases List.mem_cons.mp (I2.stkSub b z) with q | q
      · exact (f2 b hb).2.1 q
      · exact (f2 b hb).2.2.1 q, .inl hb, fun x c hx => (f2 b hb).2.2.2.2.1 x c (hin _ _ hx), fun q hq z => hp q hq (z ▸ hb)⟩
  have noPin : ∀ q ∈ ([] : List (Addr × Obj)), q.1 ∉ fp := fun _ z => nomatch z
  have tn0 : tn 0 h₁ := T.keep _ _ _ st2 fun b hb o e => old b o e
  have fr0 : ∀ b ∈ fp, (upd H2 s2.heap.objs.size (.lst [])) b = none := fun b hb => by
    rw [upd_ne (Nat.ne_of_lt (fpl b hb))]
    exact (f2 b hb).1
  have loop : ∀ s₃ : Shared, s₃ = { s2 with heap := h₁, toks := s2.toks + ([] : List (Str × Value)).length } →
      codeAny (model X.prog X.w) X.A (.compLoop (.ListComp elt [⟨target, iter, ifs, 0⟩] scope pos) 0 (.ref it) (.ref s2.heap.objs.size) (compEnvC scope cl H3.objs.size X.env))
        (compPost (model X.prog X.w) X.A X.xe use Qf (.ref s2.heap.objs.size) H3.objs.size) s₃ := by
    rintro s₃ rfl
    refine compLoop_gen (fun n s' => ∃ i σ' H', Inv X' [] σ' H' s' ∧ tn i s'.heap ∧ (∀ b ∈ fp, H' b = none) ∧ W i n σ' H') ?_ m0 ⟨0, _, _, I4 _, tn0, fr0, w0⟩
    rintro n s3 ⟨i, σ3, H3', I3, st3, fr3, w3⟩
    rcases turn i n σ3 H3' w3 with ⟨stop, qn⟩ | ⟨go, step⟩
    · refine thn (T.done X' rfl rfl rfl hc i [] s3 σ3 H3' _ I3 (stat fr3 noPin) st3 stop) fun r s4 ⟨hr, I4'⟩ => ?_
      subst hr
      have un := I4'.base
      refine fin _ _ H3' s4 (I2.call' I4'.os un I4'.hok I4'.bare fun b hb => ?_) qn I4'.free ?_ (Nat.le_trans I2.sz hCle) ?_ ?_ ?_
      · exact ⟨(f2 b hb).2.2.2.1, (f2 b hb).2.1, (f2 b hb).2.2.2.2.1, (f2 b hb).2.2.2.2.2⟩
      · exact Ne.symm (below _ I2.lt)
      · intro x c hx
        obtain ⟨v, o, ho, hd⟩ := I2.cell x c hx
        exact below c (Heap.lt_size ho)
      · intro q hq
        obtain ⟨e, _⟩ := I2.pin q hq
        exact below _ (Heap.lt_size e)
      · obtain ⟨m, hm, _⟩ := I4'.loc
        exact ⟨m, hm⟩
    · refine thn (T.item X' rfl rfl rfl hc i [] s3 σ3 H3' _ I3 (stat fr3 noPin) st3 go) fun r s4 ⟨u, hr, h4⟩ => ?_
      subst hr
      refine thn h4 fun _ s5 ⟨x, H5, I5, r5, y5, st5, fr5⟩ => ?_
      have I5' := I5.pinned (stat fr5 noPin) (T.obj _ _ st5)
      refine wpAny_mono (hg _ _ _ _ _ _ s5 σ3 H5 x u _ I5' r5 (step x H5 y5)) (fun _ s6 ⟨σ6, H6, I6, q6⟩ => ?_) fun _ _ z => z.elim
      have again : ∀ {σ7 : St} {H7 : Hp} {s7 : Shared} {m' : Nat}, Inv X' ([] ++ pinsAt fp s5.heap) σ7 H7 s7 → m' < n → W (i + 1) m' σ7 H7 → ∃ m, m < n ∧ ∃ i σ' H', Inv X' [] σ' H' s7 ∧ tn i s7.heap ∧ (∀ b ∈ fp, H' b = none) ∧ W i m σ' H' := fun {σ7 H7 s7 m'} I7 hm w7 => by
        refine ⟨m', hm, i + 1, σ7, H7, I7.unpinned, T.keep _ _ _ st5 fun b hb o e => (I7.pin (b, o) (List.mem_append_right _ (List.mem_append_right _ (mem_pinsAt hb e)))).1, fun b hb => ?_, w7⟩
        obtain ⟨o, e, d⟩ := T.obj _ _ st5 b hb
        exact (I7.pin (b, o) (List.mem_append_right _ (List.mem_append_right _ (mem_pinsAt hb e)))).2.1
      refine wpAny_mono (ht _ _ _ _ _ _ s6 σ6 H6 _ I6 q6) (fun ok s7 ⟨H7, I7, q7⟩ => ?_) fun _ _ z => z.elim
      cases ok with
      | false =>
        obtain ⟨m', hm, w7⟩ := q7
        exact again I7 hm w7
      | true =>
        refine wpAny_mono (he _ _ _ _ _ _ s7 σ6 H7 _ I7 q7) (fun yv s8 ⟨y, H8, I8, r8, q8⟩ => ?_) fun _ _ z => z.elim
        obtain ⟨xs, m', hD, hz, hm, w8⟩ := q8
        refine wpAny_mono (mt_append (X := X') _ s8 σ6 H8 (.ref s2.heap.objs.size) [y] (.ref s2.heap.objs.size) [yv] (fun _ H9 => W (i + 1) m' σ6 H9) I8 rfl (.cons r8 .nil) ⟨_, xs, y, rfl, rfl, hD, hz, w8⟩) (fun _ s9 ⟨_, H9, I9, _, q9⟩ => ?_) fun _ _ z => z.elim
        exact again I9 hm q9
  exact codeAny_compStart_list (loop _ rfl) (T.self _ 0 _ _ _ tn0 (loop _ rfl))
/-- what a block's rule may hang on -/
abbrev BK (α : Type) := List (Str × Addr) → Addr → Shared → Hp → List Addr → α
/-- [elt for target in iter if test] -/
theorem pe_comp {g : BK TG} {tc : BK TT} {te : BK TE} (tgs : List Str) (caps : List (Nat × Str)) (hc : X.calm = true) (hsc : compScopeOk scope (caps.map (·.2)) = true) (hcap : CapsOk X caps) (hi : PI X target iter wi)
    (hg : ∀ cl C s2 H2 fp, PG (cxComp X scope cl C (tgs ++ caps.map (·.2)) s2 H2 fp) target (g cl C s2 H2 fp))
    (ht : ∀ cl C s2 H2 fp, PTs (cxComp X scope cl C (tgs ++ caps.map (·.2)) s2 H2 fp) ifs (tc cl C s2 H2 fp))
    (he : ∀ cl C s2 H2 fp, PE (cxComp X scope cl C (tgs ++ caps.map (·.2)) s2 H2 fp) elt (te cl C s2 H2 fp))
    (eg : ∀ cl C s2 H2 fp, g cl C s2 H2 fp = g [] 0 X.s₀ X.H₀ [] := by intros; rfl) (et : ∀ cl C s2 H2 fp, tc cl C s2 H2 fp = tc [] 0 X.s₀ X.H₀ [] := by intros; rfl) (ee : ∀ cl C s2 H2 fp, te cl C s2 H2 fp = te [] 0 X.s₀ X.H₀ [] := by intros; rfl)
    (hs : ∀ x, foldedSetIterable iter X.env x = pure x := by intro _; rfl) :
    PE X (.ListComp elt [⟨target, iter, ifs, 0⟩] scope pos) (tComp wi (g [] 0 X.s₀ X.H₀ []) (tc [] 0 X.s₀ X.H₀ []) (te [] 0 X.s₀ X.H₀ []) (compSt tgs caps)) := by
  intro pins s σ H Q I h
  rw [eval_ListComp]
  refine comp_core (use := none) hc hsc hcap hi (fun cl C s2 H2 fp => eg cl C s2 H2 fp ▸ hg cl C s2 H2 fp) (fun cl C s2 H2 fp => et cl C s2 H2 fp ▸ ht cl C s2 H2 fp) (fun cl C s2 H2 fp => ee cl C s2 H2 fp ▸ he cl C s2 H2 fp) I h (fun D C H' s' I' q hC h1 h2 h3 h4 ⟨m, hm⟩ => ?_) hs
  refine ⟨m, hm, fun h' hsb => ?_⟩
  exact ⟨.ref D, H', I'.turned (t' := s'.toks) (fun b o hb e => hsb.extBut b o hb e) hC h1 (.inr h2) h3 h4, rfl, q⟩
/-- name = [elt for target in iter if test] -/
theorem ps_setComp {g : BK TG} {tc : BK TT} {te : BK TE} {i : Nat} {y : Str} {py spos : Pos} (tgs : List Str) (caps : List (Nat × Str)) (hN : X.N.Nodup) (hiN : X.N[i]? = some y) (hy : X.env.scope.names.lookup y = some .local) (hc : X.calm = true) (hsc : compScopeOk scope (caps.map (·.2)) = true) (hcap : CapsOk X caps) (hi : PI X target iter wi)
    (hg : ∀ cl C s2 H2 fp, PG (cxComp X scope cl C (tgs ++ caps.map (·.2)) s2 H2 fp) target (g cl C s2 H2 fp))
    (ht : ∀ cl C s2 H2 fp, PTs (cxComp X scope cl C (tgs ++ caps.map (·.2)) s2 H2 fp) ifs (tc cl C s2 H2 fp))
    (he : ∀ cl C s2 H2 fp, PE (cxComp X scope cl C (tgs ++ caps.map (·.2)) s2 H2 fp) elt (te cl C s2 H2 fp))
    (eg : ∀ cl C s2 H2 fp, g cl C s2 H2 fp = g [] 0 X.s₀ X.H₀ [] := by intros; rfl) (et : ∀ cl C s2 H2 fp, tc cl C s2 H2 fp = tc [] 0 X.s₀ X.H₀ [] := by intros; rfl) (ee : ∀ cl C s2 H2 fp, te cl C s2 H2 fp = te [] 0 X.s₀ X.H₀ [] := by intros; rfl)
    (hsw : swapsWith (.ListComp elt [⟨target, iter, ifs, 0⟩] scope pos) (some (.Name y py)) spos.line X.env = pure true := by rfl)
    (hs : ∀ x, foldedSetIterable iter X.env x = pure x := by intro _; rfl) :
    PS X (.Assign [.Name y py] (.ListComp elt [⟨target, iter, ifs, 0⟩] scope pos) spos) (tAsg (tComp wi (g [] 0 X.s₀ X.H₀ []) (tc [] 0 X.s₀ X.H₀ []) (te [] 0 X.s₀ X.H₀ []) (compSt tgs caps)) (gName i)) := by
  intro pins s σ H D I h
  rw [exec_Assign_Name_used _ _ _ _ hsw]
  refine wpAny_bind (wpAny_standAt (wpAny_bind ?_))
  show wpAny _ X.A (do let _ ← comprehension (.ListComp elt [⟨target, iter, ifs, 0⟩] scope pos) scope X.env _ (newList []) false (eval iter X.env) (some (assign (.Name y py) X.env))) _ _ s
  refine wpAny_bind (thn (comp_core (use := some (assign (.Name y py) X.env)) (Qf := fun _ s' => SP X pins D .next s') hc hsc hcap hi (fun cl C s2 H2 fp => eg cl C s2 H2 fp ▸ hg cl C s2 H2 fp) (fun cl C s2 H2 fp => et cl C s2 H2 fp ▸ ht cl C s2 H2 fp) (fun cl C s2 H2 fp => ee cl C s2 H2 fp ▸ he cl C s2 H2 fp) I h (fun Dd C H' s' I' q hC h1 h2 h3 h4 ⟨m, hm⟩ => ?_) hs) fun _ s' hq => wpAny_pure (wpAny_pure hq))
  show wpAny _ X.A (assign (.Name y py) X.env (.ref Dd)) _ _ _
  refine wpAny_assign_Name (store_ok2 I' hN hiN (.inl hy) (v := .ref Dd) rfl (fun s'' I'' ⟨a, hsb, ha⟩ => ?_) (.inr hy))
  have hCa : C ≠ a := by
    rcases ha with z | z
    · rw [z]; exact h1
    · exact Ne.symm (h3 _ _ z)
  refine ⟨m, hm.sameBut hsb hCa, fun h' hsb' => ?_⟩
  exact ⟨_, H', I''.turned (t' := s''.toks) (fun b o hb e => hsb'.extBut b o hb e) hC h1 (.inr h2) h3 h4, q⟩
end
end L2

end

section
namespace L2
open PySem PySem.Spec PyProof.Rows
/-! ### what is no longer asked may be forgotten -/
def OwnIn (H : Hp) (a : Addr) : HO → Prop
  | .ins _ dx _ => H dx = some (.own a)
  | .frz _ u => OwnIn H a u
  | _ => True
def Closed (H : Hp) : Prop := ∀ a o, H a = some o → OwnIn H a o
theorem OwnIn.of {P : Program} {w : World} {H : Hp} {h : Heap} {a : Addr} {o : HO} (x : ObjOk P w H h a o) : OwnIn H a o := by
  induction o with
  | ins C dx fs => exact x.1
  | frz ob u ih => exact ih x.2
  | _ => trivial
theorem HOk.closed {P : Program} {w : World} {H : Hp} {h : Heap} (x : HOk P w H h) : Closed H := fun a o e => OwnIn.of (x a o e)
theorem OwnIn.mono {H H' : Hp} {a : Addr} {o : HO} (s : ∀ b u, H b = some u → H' b = some u) (x : OwnIn H a o) : OwnIn H' a o := by
  induction o with
  | ins C dx fs => exact s _ _ x
  | frz ob u ih => exact ih x
  | _ => trivial
theorem ObjOk.sub {P : Program} {w : World} {H H' : Hp} {h : Heap} {a : Addr} {o : HO} (x : ObjOk P w H' h a o) (ow : OwnIn H a o) : ObjOk P w H h a o := by
  induction o with
  | ins C dx fs => exact ⟨ow, x.2⟩
  | frz ob u ih => exact ⟨x.1, ih x.2 ow⟩
  | lst _ => exact x
  | tup _ => exact x
  | dK _ => exact x
  | dT _ => exact x
  | set _ _ => exact x
  | own _ => exact x
  | xd _ => exact x
  | met _ _ => exact x
  | rng _ _ => exact x
  | tbl _ => exact x
  | ext _ => exact x
/-- from H on, H' was reached; of it H'' is still asked -/
structure Sub (H H'' H' : Hp) : Prop where
  le : Same H'' H'
  ge : ∀ b o, H b = some o → ∃ u, H'' b = some u
  cl : Closed H → Closed H''
theorem Sub.refl {H H' : Hp} (h : Same H H') : Sub H H H' := ⟨h, fun _ o e => ⟨o, e⟩, id⟩
theorem Sub.all {H H' : Hp} (h : ∀ b o, H b = some o → ∃ u, H' b = some u) (c : Closed H → Closed H') : Sub H H' H' := ⟨Same.refl _, h, c⟩
theorem same_new {H : Hp} {p : Addr} {o : HO} (h : H p = none) : Same H (upd H p o) := fun b u q => by rw [upd_ne (ne_of_none q h)]; exact q
theorem closed_new {H : Hp} {p : Addr} {o : HO} (c : Closed H) (h : H p = none) (ho : OwnIn (upd H p o) p o) : Closed (upd H p o) := fun a u e => by
  by_cases z : a = p
  · subst z; rw [upd_same] at e; cases e; exact ho
  · rw [upd_ne z] at e
    exact (c a u e).mono (same_new h)
theorem Sub.new {H H' : Hp} {p : Addr} {o : HO} (h : H p = none) (hs : Same H H') (e : H' p = some o) (ho : OwnIn (upd H p o) p o) : Sub H (upd H p o) H' :=
  ⟨fun b u q => by
    by_cases z : b = p
    · subst z; rw [upd_same] at q; cases q; exact e
    · rw [upd_ne z] at q; exact hs b u q, fun b u q => ⟨u, same_new h b u q⟩, fun c => closed_new c h ho⟩
theorem Sub.ins {H H' : Hp} {p C dx : Addr} {fs fs' : List (Str × V)} (h : H p = some (.ins C dx fs)) (hs : ∀ b u, b ≠ p → H b = some u → H' b = some u) (e : H' p = some (.ins C dx fs')) : Sub H (upd H p (.ins C dx fs')) H' :=
  ⟨fun b u q => by
    by_cases z : b = p
    · subst z; rw [upd_same] at q; cases q; exact e
    · rw [upd_ne z] at q; exact hs b u z q, fun b u q => by
    by_cases z : b = p
    · subst z; exact ⟨_, upd_same⟩
    · exact ⟨u, by rw [upd_ne z]; exact q⟩, fun c a u q => by
    have hd : H dx = some (.own p) := c p _ h
    have nd : dx ≠ p := fun z => by rw [z, h] at hd; cases hd
    by_cases z : a = p
    · subst z; rw [upd_same] at q; cases q
      show upd H a _ dx = _
      rw [upd_ne nd]; exact hd
    · rw [upd_ne z] at q
      have x := c a u q
      revert x
      generalize u = o
      clear q
      induction o with
      | ins C' d' f' =>
        intro (x : H d' = some (.own a))
        show upd H p _ d' = _
        rw [upd_ne (fun y => by rw [y, h] at x; cases x)]; exact x
      | frz ob u ih => intro x; exact ih x
      | _ => intro _; trivial⟩
section
variable {X : Cx} {pins : List (Addr × Obj)} {σ : St} {H H' H'' : Hp} {s s0 : Shared}
theorem Un.sub {fs ex : List Addr} {H0 : Hp} {h h1 h2 : Heap} (u0 : Un fs ex H0 H h h1) (u : Un fs ex H0 H' h h2) (d : Sub H H'' H') : Un fs ex H0 H'' h h2 := by
  refine ⟨u.keep, u.slot, fun b o e n hx => ?_, u.there, fun b xs e => ?_, fun b o v e => ?_, fun b ps e => ?_⟩
  · cases q : H'' b with
    | none => rfl
    | some v => have := d.le b v q; rw [u.free b o e n hx] at this; cases this
  · obtain ⟨v, hv⟩ := d.ge b _ (u0.tups b xs e)
    have := d.le b v hv; rw [u.tups b xs e] at this; cases this; exact hv
  · obtain ⟨z, hv⟩ := d.ge b _ (u0.frzs b o v e)
    have := d.le b z hv; rw [u.frzs b o v e] at this; cases this; exact hv
  · obtain ⟨m0, e0⟩ := u0.tbls b ps e
    obtain ⟨z, hv⟩ := d.ge b _ e0
    obtain ⟨m, e1⟩ := u.tbls b ps e
    have := d.le b z hv; rw [e1] at this; cases this; exact ⟨m, hv⟩
theorem HOk.sub {P : Program} {w : World} {h : Heap} (x : HOk P w H' h) (c : Closed H'') (d : Same H'' H') : HOk P w H'' h := fun a o e => (x a o (d a o e)).sub (c a o e)
theorem Same.none_of {H1 H2 : Hp} (d : Same H1 H2) {b : Addr} (n : H2 b = none) : H1 b = none := d.free n
theorem Inv.sub {σ0 : St} (I0 : Inv X pins σ0 H s0) (I : Inv X pins σ H' s) (d : Sub H H'' H') : Inv X pins σ H'' s :=
  ⟨I.ok, I.os, I.bare, I0.base.sub I.base d, I.loc, I.cell, d.le.free I.free, fun x c e => d.le.free (I.freeC x c e),
    fun p hp => let ⟨a, b, c⟩ := I.pin p hp; ⟨a, d.le.free b, c⟩, I.hok.sub (d.cl I0.hok.closed) d.le, I.len⟩
theorem SP.sub {D : Ends} {f : Flow} {s' : Shared} (I : Inv X pins σ H s)
    (h : SP X pins { nx := fun σ' H' => ∃ H'', Sub H H'' H' ∧ D.nx σ' H'', rt := fun v H' => ∃ H'', Sub H H'' H' ∧ D.rt v H'', bk := fun σ' H' => ∃ H'', Sub H H'' H' ∧ D.bk σ' H'', ct := fun σ' H' => ∃ H'', Sub H H'' H' ∧ D.ct σ' H'' } f s') : SP X pins D f s' := by
  cases f with
  | next => obtain ⟨σ', H', I', H'', d, q⟩ := h; exact ⟨σ', H'', I.sub I' d, q⟩
  | brk => obtain ⟨σ', H', I', H'', d, q⟩ := h; exact ⟨σ', H'', I.sub I' d, q⟩
  | cont => obtain ⟨σ', H', I', H'', d, q⟩ := h; exact ⟨σ', H'', I.sub I' d, q⟩
  | ret u => obtain ⟨v, σ', H', I', r, H'', d, q⟩ := h; exact ⟨v, σ', H'', I.sub I' d, r, q⟩
end
/-- a def's promise, less asked behind it -/
theorem FnOk.keep {P : Program} {w : World} {K : PySem.W.Frag} {mg : Str → Option Value} {base : Heap} {k : Nat} {f : Addr} {fd : FuncData} {ps : List Str} {sp sp' : Sp} (F : FnOk P w K mg base CX0 k f fd ps sp)
    (h : ∀ vs H Q E, sp' vs H Q E → sp vs H (fun v H' => ∃ H'', Sub H H'' H' ∧ Q v H'') E) : FnOk P w K mg base CX0 k f fd ps sp' := by
  refine ⟨fun vs H Q E q => F.len vs H _ E (h vs H Q E q), fun A outer s H args us vs Q E hr e0 hb r q => codeAny_mono (F.run A outer s H args us vs _ E hr e0 hb r (h vs H Q E q)) fun rs s' c => ?_⟩
  cases rs with
  | error e => exact c
  | ok fl =>
    cases fl with
    | ret u =>
      obtain ⟨v, H', os, bare, un, hok, rv, H'', d, q'⟩ := c
      exact ⟨v, H'', os, bare, Un.sub (Un.refl (h := s.heap)) un d, hok.sub (d.cl e0.hok.closed) d.le, rv, q'⟩
    | next => exact c
    | brk => exact c
    | cont => exact c
/-- THE RULE for a def without refusals: its body as a term of rules, the reading of that term, less asked behind it -/
theorem Fun.okK {P : Program} {w : World} {K : PySem.W.Frag} {mg : Str → Option Value} {base : Heap} {x qual : Str} {st : Stmt} {f : Addr} {fd : FuncData} {N ps : List Str} {k : Nat} {sp : Sp} (F : Fun K x qual st f fd) (S : FnScope N ps (defScope st)) (len : ∀ vs H Q E, sp vs H Q E → vs.length = ps.length)
    (hbody : ∀ (cdv : Value) (A : Around) (outer : List Env) (s : Shared) (H : Hp) (vs : List V) (Q : VK) (E : XK), Room k (A.deeper (envOfC qual (defScope st) s.heap.objs.size f cdv)) → sp vs H Q E →
      ∃ t, PSs (cxOf CX0 P w K mg base N qual (defScope st) f cdv A outer s H E).nox (defBody st) t ∧ t { nx := fun _ H' => ∃ H'', Sub H H'' H' ∧ Q .non H'', rt := fun v H' => ∃ H'', Sub H H'' H' ∧ Q v H'' } (start N vs) H) : FnOk P w K mg base CX0 (k + 1) f fd ps sp :=
  (F.ok (sp := fun vs H Q E => ∃ Q', Q = (fun v H' => ∃ H'', Sub H H'' H' ∧ Q' v H'') ∧ sp vs H Q' E) S (fun vs H Q E ⟨Q', _, h⟩ => len vs H Q' E h) (fun cdv A outer s H vs Q E hr ⟨Q', e, h⟩ => by
    subst e
    exact hbody cdv A outer s H vs Q' E hr h)).keep fun vs H Q E h => ⟨Q, rfl, h⟩
end L2

end

section
namespace KM
/-! bits, the higher ones first -/
def bitsW (n : Nat) : Nat → List Bool
  | 0 => []
  | w + 1 => n.testBit w :: bitsW n w
def blen (n : Nat) : Nat := if n = 0 then 0 else n.log2 + 1
theorem bitsW_length (n w : Nat) : (bitsW n w).length = w := by
  induction w with
  | zero => rfl
  | succ w ih => simp [bitsW, ih]
/-- reading: from a on -/
def rd (a : Nat) (l : List Bool) : Nat := l.foldl (fun x b => 2 * x + b.toNat) a
theorem rd_nil (a : Nat) : rd a [] = a := rfl
/-! order: at the first place where they part the one has 0, the other 1 -/
def Sep (a b : List Bool) : Prop := ∃ c x y, a = c ++ false :: x ∧ b = c ++ true :: y
theorem Sep.pre (p : List Bool) {a b : List Bool} (h : Sep a b) : Sep (p ++ a) (p ++ b) := by
  obtain ⟨c, x, y, rfl, rfl⟩ := h
  exact ⟨p ++ c, x, y, by simp, by simp⟩
theorem Sep.post {a b : List Bool} (h : Sep a b) (u v : List Bool) : Sep (a ++ u) (b ++ v) := by
  obtain ⟨c, x, y, rfl, rfl⟩ := h
  exact ⟨c, x ++ u, y ++ v, by simp, by simp⟩
theorem Sep.turn {a b : List Bool} (h : Sep a b) : Sep (b.map (!·)) (a.map (!·)) := by
  obtain ⟨c, x, y, rfl, rfl⟩ := h
  exact ⟨c.map (!·), y.map (!·), x.map (!·), by simp, by simp⟩
theorem Sep.np {a b : List Bool} (h : Sep a b) : ¬ a <+: b := by
  obtain ⟨c, x, y, rfl, rfl⟩ := h
  rintro ⟨t, e⟩
  simp only [List.append_assoc] at e
  have := List.append_cancel_left e
  simp at this
/-! the row of a count -/
def cend (e : Nat) : List Bool := if e = 8 then [] else [false]
def cnt (n : Nat) : List Bool :=
  List.replicate (blen (blen (n + 1)) - 1) true ++ (cend (blen (blen (n + 1))) ++ (bitsW (blen (n + 1)) (blen (blen (n + 1)) - 1) ++ bitsW (n + 1) (blen (n + 1) - 1)))
/-! the row of a whole number -/
end KM
namespace KM
/-- where the parts of a count's row lie -/
structure CntAt (L : List Bool) (p n : Nat) : Prop where
  ones : ∀ j, j < blen (blen (n + 1)) - 1 → L.getD (p + j) false = true
  zero : blen (blen (n + 1)) < 8 → L.getD (p + (blen (blen (n + 1)) - 1)) false = false
  size : (L.drop (p + (blen (blen (n + 1)) - 1) + (cend (blen (blen (n + 1)))).length)).take (blen (blen (n + 1)) - 1) = bitsW (blen (n + 1)) (blen (blen (n + 1)) - 1)
  more : (L.drop (p + (blen (blen (n + 1)) - 1) + (cend (blen (blen (n + 1)))).length + (blen (blen (n + 1)) - 1))).take (blen (n + 1) - 1) = bitsW (n + 1) (blen (n + 1) - 1)
  fits : p + (cnt n).length ≤ L.length
theorem cnt_len (n : Nat) : (cnt n).length = (blen (blen (n + 1)) - 1) + (cend (blen (blen (n + 1)))).length + (blen (blen (n + 1)) - 1) + (blen (n + 1) - 1) := by
  unfold cnt
  simp only [List.length_append, List.length_replicate, bitsW_length]
  omega
end KM

end

section
namespace KM
open PySem L2
/-! ### rows as texts -/
def bc (b : Bool) : Nat := if b then 49 else 48
def rowS (l : List Bool) : Str := ⟨(l.map bc).toArray⟩
theorem str_ext {a b : Str} (h : a.cps.toList = b.cps.toList) : a = b := by
  obtain ⟨x⟩ := a; obtain ⟨y⟩ := b
  exact congrArg Str.mk (Array.ext' h)
theorem s1 : (Str.ofString "1") = rowS [true] := by decide +kernel
theorem s0 : (Str.ofString "0") = rowS [false] := by decide +kernel
/-! joined, cut -/
theorem sliceIx (lo hi : Option Int) (n : Nat) : Builtin.Str.strSliceIndices lo hi 1 n = (List.range (HT.sIx n n hi - HT.sIx n 0 lo)).map (HT.sIx n 0 lo + ·) := by
  unfold Builtin.Str.strSliceIndices
  rw [← sliceRange_one]
  simp only [show ((1 : Int) > 0) = True from eq_true (by decide), if_true]
  congr 1
  · cases lo with
    | none => rfl
    | some i =>
      simp only [HT.sIx]
      by_cases h : i < 0
      · simp only [h, if_true]; omega
      · simp only [h, if_false]; omega
  · cases hi with
    | none => rfl
    | some i =>
      simp only [HT.sIx]
      by_cases h : i < 0
      · simp only [h, if_true]; omega
      · simp only [h, if_false]; omega
theorem slice_cps (x : Str) (lo hi : Option Int) : (Txt.slice x lo hi).cps.toList = (x.cps.toList.drop (HT.sIx x.length 0 lo)).take (HT.sIx x.length x.length hi - HT.sIx x.length 0 lo) := by
  have hl : x.cps.toList.length = x.length := by simp [Str.length]
  have h1 := HT.sIx_le x.length x.length (Nat.le_refl _) hi
  have h2 := HT.sIx_le x.length 0 (Nat.zero_le _) lo
  unfold Txt.slice
  rw [sliceIx]
  split
  · rename_i c
    simp only [List.length_map, List.length_range, Bool.and_eq_true, beq_iff_eq] at c
    have a0 : HT.sIx x.length 0 lo = 0 ∨ x.length = 0 := by omega
    rcases a0 with a0 | a0
    · rw [a0, List.drop_zero, List.take_of_length_le (by omega)]
    · have : x.cps.toList = [] := List.length_eq_zero_iff.mp (by omega)
      rw [this]; simp
  · rw [pick_run]
/-! order -/
/-! one sign -/
end KM
namespace KM
open PySem L2
end KM

end

section
namespace L2
open PySem PySem.Spec PyProof.Rows
/-! ### one rule for each operation, whatever it is given -/
section
variable {X : Cx}
def oAdd := OpR.or (op_add (X := X)) op_add_str
theorem oSub : OpR X (binaryOp .Sub) (rI0 fun i j => .int (i - j)) := op_sub
def oMul := OpR.or (op_mul (X := X)) op_mul_str
def oLt := OpR.or (op_lt (X := X)) op_lt_str
def iAll := IxR.or (IxR.or (ix_list (X := X)) ix_tup) ix_str
def slAll := SlR.or (sl_list (X := X)) sl_str
theorem PI.or {tg it : Expr} {wi wi' : TI} (h : PI X tg it wi) (h' : PI X tg it wi') : PI X tg it (fun σ H R => wi σ H R ∨ wi' σ H R) := fun pins s σ H R I q => q.elim (h pins s σ H R I) (h' pins s σ H R I)
theorem piAll {tg l : Expr} {tl : TE} (hl : PE X l tl) : PI X tg l (fun σ H R => iList X.K tl σ H R ∨ iStr tl σ H R) := (pi_list hl).or (pi_str hl)
end
/-! ### defs by name -/
/-- a def of the text stands at the top -/
def FunAt (K : PySem.W.Frag) (mg : Str → Option Value) (x : Str) (st : Stmt) (ps : List Str) (f : Addr) (fd : FuncData) : Prop := Fun K x x st f fd ∧ Binds K fd ps [] ∧ mg x = some (.ref f)
/-- a def keeps its promise -/
def DefOk (P : Program) (w : World) (K : PySem.W.Frag) (mg : Str → Option Value) (base : Heap) (k : Nat) (x : Str) (ps : List Str) (sp : Sp) : Prop :=
  ∃ f fd, FnOk P w K mg base CX0 k f fd ps sp ∧ Binds K fd ps [] ∧ PySem.W.keepIn K (.ref f) = true ∧ mg x = some (.ref f)
def MethOk (P : Program) (w : World) (K : PySem.W.Frag) (mg : Str → Option Value) (base : Heap) (k : Nat) (C : Addr) (m : Str) (ps : List Str) (sp : Sp) : Prop :=
  ∃ f fd, FnOk P w K mg base CX0 k f fd ps sp ∧ Binds K fd ps [] ∧ Meth K C m f
def MakeOk (P : Program) (w : World) (K : PySem.W.Frag) (mg : Str → Option Value) (base : Heap) (k : Nat) (x : Str) (C : Addr) (ps : List Str) (sp : Sp) : Prop :=
  ∃ f fd, Mk K C f ∧ FnOk P w K mg base CX0 k f fd ps sp ∧ Binds K fd ps [] ∧ mg x = some (.ref C)
def GlobV (mg : Str → Option Value) (x : Str) (v : V) : Prop := ∃ u, mg x = some u ∧ RelV v u
section
variable {X : Cx} {k k' : Nat} {x m : Str} {C : Addr} {ps : List Str} {sp : Sp} {e o : Expr} {es : List Expr} {t : TA} {ta : TE} {p pos apos : Pos} {v : V}
theorem pe_globV (h : GlobV X.mg x v) (hg : Gl X x := by rfl) (hd : (x == ("__debug__" : Str)) = false := by decide +kernel) : PE X (.Name x p) (tC v) := by
  obtain ⟨u, h1, h2⟩ := h
  exact pe_glob hg h1 h2 hd
theorem pe_callD (h : DefOk X.prog X.w X.K X.mg X.base k x ps sp) (hr : Room k' X.A) (ha : PA X (e :: es) t) (hk : k ≤ k' := by decide) (hg : Gl X x := by rfl) (hdb : (x == ("__debug__" : Str)) = false := by decide +kernel)
    (he : starEach (e :: es) X.env = (false, eval e X.env) :: starEach es X.env := by rfl) (hpl : (backTo pos (starEach es X.env)).any (·.1) = false := by rfl) : PE X (.Call (.Name x p) (e :: es) [] pos) (tCall sp [] E0 t) := by
  obtain ⟨f, fd, F, hb, kp, hm⟩ := h
  exact pe_call F (hr.mono hk) hg hm kp hb .nil pass0 ha hdb he hpl
theorem pe_methD {pl : Sem Bool} (h : MethOk X.prog X.w X.K X.mg X.base k C m ps sp) (c : Cls X.K C) (hr : Room k' X.A) (he : PE X o ta) (ha : PA X (e :: es) t) (hk : k ≤ k' := by decide)
    (hst : starEach (e :: es) X.env = (false, eval e X.env) :: starEach es X.env := by rfl) (hpl : (backTo pos (starEach es X.env)).any (·.1) = false := by rfl)
    (ht : eval (.Call (.Attribute o m apos) (e :: es) [] pos) X.env = (do
      let ov ← eval o X.env
      standAt apos.atName
      let (f, first) ← holding [ov] (getMethod ov m pl)
      callWith pos f first (backTo pos (starEach (e :: es) X.env)) (backToKw pos (keywordEach [] X.env))) := by rfl) :
    PE X (.Call (.Attribute o m apos) (e :: es) [] pos) (tMeth C m sp [] E0 ta t) := by
  obtain ⟨f, fd, F, hb, hm⟩ := h
  exact pe_meth he c hm F (hr.mono hk) hb .nil pass0 ha hst hpl ht
theorem pe_methD0 {pl : Sem Bool} (h : MethOk X.prog X.w X.K X.mg X.base k C m ps sp) (c : Cls X.K C) (hr : Room k' X.A) (he : PE X o ta) (hk : k ≤ k' := by decide)
    (ht : eval (.Call (.Attribute o m apos) [] [] pos) X.env = (do
      let ov ← eval o X.env
      standAt apos.atName
      let (f, first) ← holding [ov] (getMethod ov m pl)
      callWith pos f first (backTo pos (starEach [] X.env)) (backToKw pos (keywordEach [] X.env))) := by rfl) :
    PE X (.Call (.Attribute o m apos) [] [] pos) (tMeth C m sp [] E0 ta tNil) := by
  obtain ⟨f, fd, F, hb, hm⟩ := h
  exact pe_meth0 he c hm F (hr.mono hk) hb .nil pass0 ht
theorem pe_makeD (h : MakeOk X.prog X.w X.K X.mg X.base k x C ps sp) (hr : Room k' X.A) (ha : PA X (e :: es) t) (hk : k + 1 ≤ k' := by decide) (hg : Gl X x := by rfl) (hdb : (x == ("__debug__" : Str)) = false := by decide +kernel)
    (he : starEach (e :: es) X.env = (false, eval e X.env) :: starEach es X.env := by rfl) (hpl : (backTo pos (starEach es X.env)).any (·.1) = false := by rfl) : PE X (.Call (.Name x p) (e :: es) [] pos) (tMake C sp [] E0 t) := by
  obtain ⟨f, fd, M, F, hb, hm⟩ := h
  exact pe_make M F (hr.mono hk) hg hm hb .nil pass0 ha hdb he hpl
end
/-- THE RULE for a def without refusals, by name -/
theorem FunAt.ok {P : Program} {w : World} {K : PySem.W.Frag} {mg : Str → Option Value} {base : Heap} {x : Str} {st : Stmt} {f : Addr} {fd : FuncData} {N ps : List Str} {k : Nat} {sp : Sp} (F : FunAt K mg x st ps f fd) (S : FnScope N ps (defScope st)) (len : ∀ vs H Q E, sp vs H Q E → vs.length = ps.length)
    (hbody : ∀ (cdv : Value) (A : Around) (outer : List Env) (s : Shared) (H : Hp) (vs : List V) (Q : VK) (E : XK), Room k (A.deeper (envOfC x (defScope st) s.heap.objs.size f cdv)) → sp vs H Q E →
      ∃ t, PSs (cxOf CX0 P w K mg base N x (defScope st) f cdv A outer s H E).nox (defBody st) t ∧ t { nx := fun _ H' => ∃ H'', Sub H H'' H' ∧ Q .non H'', rt := fun v H' => ∃ H'', Sub H H'' H' ∧ Q v H'' } (start N vs) H) : DefOk P w K mg base (k + 1) x ps sp :=
  ⟨f, fd, F.1.okK S len hbody, F.2.1, F.1.kp, F.2.2⟩
end L2
namespace L2
open PySem PySem.Spec PyProof.Rows
section
variable {X : Cx} {e : Expr} {pos : Pos}
theorem oEq : OpR X (compareOp .Eq) rEq := op_eq
theorem oNe : OpR X (compareOp .NotEq) rNe := op_ne
theorem oLe : OpR X (compareOp .LtE) (rI0 fun i j => .bl (decide (i ≤ j))) := op_le
theorem oGt : OpR X (compareOp .Gt) (rI0 fun i j => .bl (decide (j < i))) := op_gt
theorem CallR.or' {f : Value} {r r' : List V → Hp → VK → Prop} (h : CallR X f r) (h' : CallR X f r') : CallR X f (fun xs H Q => r xs H Q ∨ r' xs H Q) := fun pins s σ H xs us Q I rv q => q.elim (h pins s σ H xs us Q I rv) (h' pins s σ H xs us Q I rv)
def call_intA := CallR.or' (call_int1 (X := X)) call_int_text
def call_isinstA := CallR.or' (call_isinst (X := X)) call_isinstC
end
end L2
namespace L2
open PySem
theorem bo_int : bootBuiltins "int" = some (.type "int") := by decide +kernel
theorem bo_str : bootBuiltins "str" = some (.type "str") := by decide +kernel
theorem bo_len : bootBuiltins "len" = some (.builtin "len") := by decide +kernel
theorem bo_isinstance : bootBuiltins "isinstance" = some (.builtin "isinstance") := by decide +kernel
theorem bo_min : bootBuiltins "min" = some (.builtin "min") := by decide +kernel
theorem bo_max : bootBuiltins "max" = some (.builtin "max") := by decide +kernel
theorem bo_all : bootBuiltins "all" = some (.builtin "all") := by decide +kernel
end L2

end

section
namespace L2
open PySem PySem.Spec PyProof.Rows KM
theorem upd_upd' {H : Hp} {a : Addr} {o u : HO} : upd (upd H a o) a u = upd H a u := by
  funext b
  unfold upd
  split <;> rfl
end L2
namespace L2
open PySem
theorem upd_self' {H : Hp} {a : Addr} {o : HO} (h : H a = some o) : upd H a o = H := by
  funext b
  unfold upd
  split
  · rename_i e; rw [e, h]
  · rfl
end L2
namespace KM
end KM
namespace L2
open PySem
theorem kit_same (K : PySem.W.Frag) (t : Value) : PySem.W.kitOne K t t = some true := by
  unfold PySem.W.kitOne; rw [beq_self_eq_true, if_pos rfl]
end L2
namespace KM
open PySem L2
end KM
namespace KM
end KM

end

section
namespace L2
open PySem PySem.Spec PyProof.Rows
/-! ### an exception in flight: its class, its own dict, its record T; fl: the frame that it is noted at -/
def Fly (h : Heap) (e : Addr) (cls : Value) (d : Option Addr) (T : Addr) (fl : Value) : Prop :=
  ∃ oe vs oT ts, h.get? e = some oe ∧ oe.cls = cls ∧ oe.dict = d ∧ oe.data = .fields vs ∧ vs[1]? = some (.ref T) ∧ T ≠ e ∧ h.get? T = some oT ∧ oT.data = .fields ts ∧ ts[3]? = some fl ∧ (d = none ∨ vs[2]? = some .none)
/-- behind a station: all but e, T and the frames is kept, the frames up to their slots -/
structure Stn (fs : List Addr) (e : Addr) (T : Option Addr) (h h' : Heap) : Prop where
  keep : ∀ b o, b ≠ e → some b ≠ T → b ∉ fs → h.get? b = some o → h'.get? b = some o
  slot : ∀ b o, b ≠ e → some b ≠ T → h.get? b = some o → ∃ sl, h'.get? b = some { o with slots := sl }
section
variable {M : Model} {A : Around} {E : Value → Shared → Prop} {s : Shared} {base : Heap} {env : Env} {outer : List Env} {L e T : Addr} {oe : Obj} {vs : Array Value} {head : Value} {hadNext : Bool} {Q : Unit → Shared → Prop} {cls : Value} {d : Option Addr} {fl : Value}
end
end L2

end

section
namespace L2
open PySem PySem.Spec PyProof.Rows
/-! ### how an exception of a class of the text lies behind a call -/
theorem HOk.there {P : Program} {w : World} {H : Hp} {h : Heap} (ok : HOk P w H h) {a : Addr} {o : HO} (e : H a = some o) : ∃ u, h.get? a = some u := by
  have x := ok a o e
  cases o with
  | lst xs => obtain ⟨_, _, _, _, e⟩ := x; exact ⟨_, e⟩
  | tup xs => obtain ⟨_, _, _, p⟩ := x; obtain ⟨o, e, _⟩ := p; exact ⟨_, e⟩
  | dK kvs => obtain ⟨_, _, _, _, o, _, _, e, _⟩ := x; exact ⟨_, e⟩
  | dT kvs => exact (show False from x).elim
  | set S n => obtain ⟨o, _, _, _, e, _⟩ := x; exact ⟨_, e⟩
  | ins C dx fs => obtain ⟨_, _, _, e, _⟩ := x; exact ⟨_, e⟩
  | own y => exact x
  | xd fs => obtain ⟨_, ⟨_, _, _, e, _⟩, _⟩ := x; exact ⟨_, e⟩
  | rng lo hi => obtain ⟨_, _, _, e⟩ := x; exact ⟨_, e⟩
  | frz ob u => obtain ⟨e, _⟩ := x; exact ⟨_, e⟩
  | tbl ps => exact ⟨_, x⟩
  | met f y => exact ⟨_, x⟩
  | ext φ => exact x.2.1
theorem HOk.none {P : Program} {w : World} {H : Hp} {h : Heap} (ok : HOk P w H h) {a : Addr} (e : h.get? a = none) : H a = none := by
  cases q : H a with
  | none => rfl
  | some o => obtain ⟨u, z⟩ := ok.there q; rw [e] at z; cases z
section
variable {P : Program} {w : World} {K : PySem.W.Frag} {mg : Str → Option Value} {base : Heap} {N : List Str} {qual : Str} {scope : Scope} {f : Addr} {cdv : Value} {A : Around} {outer : List Env} {s : Shared} {H : Hp} {E : XK}
end
section
variable {P : Program} {w : World} {K : PySem.W.Frag} {mg : Str → Option Value} {base : Heap} {N : List Str} {qual : Str} {scope : Scope} {f : Addr} {cdv : Value} {A : Around} {outer : List Env} {s : Shared} {H : Hp} {E : XK}
end
end L2

end

section
namespace L2
open PySem PySem.W PySem.Spec PyProof.Rows
/-! ### a class of exceptions of the text, as the fragment's deciders have it -/
structure ExcC (K : Frag) (C : Addr) : Prop where
  ga : findIn K (.ref C) "__getattribute__" = some (some (.builtin "BaseException.__getattribute__"))
  gt : findIn K (.ref C) "__getattr__" = some none
  cl : findIn K (.ref C) "__class__" = some (some (.builtin "object.__class__"))
  ob : mroIn K C (.type "object") = some true
  be : mroIn K C (.type "BaseException") = some true
  is : isClsIn K C = true
  hn : specialIn K (.builtin "object.__class__") "__get__" = some (some (.builtin "getset_descriptor.__get__"))
  tk : takesIn K (.builtin "object.__class__") = some true
section
variable {K : Frag} {prog : Program} {w : World} {A : Around} {E : Value → Shared → Prop} {h : Heap} {g : Array GenState} {d : Drawn} {t : Nat} {os : OsState} {x C : Addr} {ox : Obj} {odo : Option Obj} {name : Str}
end
end L2

end

section
namespace L2
open PySem PySem.W PySem.Spec PyProof.Rows
/-! ### defs that refuse -/
section
variable {P : Program} {w : World} {K : PySem.W.Frag} {mg : Str → Option Value} {base : Heap}
end
/-! ### calls whose exceptions may depend on the names' values -/
def PassesX (CX : CXT) (X : Cx) (E : St → XK) : Prop := ∀ (pins : List (Addr × Obj)) (σ : St) (H : Hp) (s : Shared) (e : Value) (s' : Shared), Inv X pins σ H s → CX X.stack H s (E σ) e s' → X.xe e s'
theorem Passes.x {CX : CXT} {X : Cx} {E : XK} (h : Passes CX X E) : PassesX CX X fun _ => E := h
section
variable {X : Cx} {k k' : Nat} {x : Str} {ps : List Str} {sp : Sp} {e : Expr} {es : List Expr} {t : TA} {p pos : Pos} {E : St → XK}
end
/-! ### raise C(..), C an own class without __init__ -/
abbrev bmV : List Value := [.type "ValueError", .type "Exception", .type "BaseException", .type "object"]
structure ClsAt (K : Frag) (h : Heap) (C : Addr) : Prop where
  ex : ∃ (bm : List Value) (N : Addr) (nm q : Str) (bs : List Value) (hdct : Bool) (sn : List Str) (sub : List Value) (ab : Bool) (col : Option Bool) (dd : Option Addr) (k0 k1 k2 k3 k5 : Option Value) (mN : Str → Option Value),
    h.get? C = some (excClassObj nm q C N bs bm hdct sn sub ab col dd k0 k1 k2 k3 k5 "ValueError.__new__") ∧ h.Ns N mN ∧ mN "__init__" = none ∧ OwnTail h bmV bm
end L2

end

section
namespace L2
open PySem PySem.W PySem.Spec PyProof.Rows
section
variable {X : Cx} {pins : List (Addr × Obj)} {σ : St} {H1 H2 : Hp} {s1 s2 : Shared} {h' : Heap} {a C T T' : Addr} {d : Option Addr}
end
/-! ### try -/
def tryXe (X : Cx) (pn : List (Addr × Obj)) (Eh : St → XK) (e : Value) (s' : Shared) : Prop := ∃ a C d T σ' H1 H' s1, e = .ref a ∧ Inv { X with pn := pn } [] σ' H1 s1 ∧ Inv { X with pn := pn } [] σ' H' s' ∧ Fly s'.heap a (.ref C) d T .none ∧
  H' a = none ∧ H' T = none ∧ s1.heap.get? a = none ∧ s1.heap.get? T = none ∧ Eh σ' (.ref C) d H'
def Cx.tryC (X : Cx) (pn : List (Addr × Obj)) (Eh : St → XK) : Cx := { X with pn := pn, xe := tryXe X pn Eh }
theorem Cx.Ok.pns {X : Cx} (ok : X.Ok) (pn : List (Addr × Obj)) : Cx.Ok { X with pn := pn } :=
  ⟨ok.mod, ok.kind, ok.glob, ok.blt, ok.above, ok.inj, ok.has, ok.cab, ok.hd, ok.frames, ok.stk, ok.exf, ok.bs, ok.bsz, ok.noex, ok.exfs, ok.funs, ok.frf⟩
theorem Inv.ins {X : Cx} {pins : List (Addr × Obj)} {σ : St} {H : Hp} {s : Shared} (I : Inv X pins σ H s) : Inv { X with pn := X.pn ++ pins } [] σ H s :=
  ⟨I.ok.pns _, I.os, I.bare, I.base, I.loc, I.cell, I.free, I.freeC, fun p hp => I.pin p (by simpa using hp), I.hok, I.len⟩
theorem Inv.outs {X Y : Cx} {pins : List (Addr × Obj)} {σ : St} {H : Hp} {s : Shared} (ok : X.Ok) (I : Inv { X with pn := X.pn ++ pins } [] σ H s) : Inv X pins σ H s :=
  ⟨ok, I.os, I.bare, I.base, I.loc, I.cell, I.free, I.freeC, fun p hp => I.pin p (by simpa using hp), I.hok, I.len⟩
end L2

end

section
namespace L2
open PySem PySem.W PySem.Spec PyProof.Rows
section
variable {X : Cx}
/-! ### lists of bools -/
theorem kb_canLay : ∀ ns : List Bool, PyData.canLayAll0 (ns.map PyData.bool) = true
  | [] => rfl
  | _ :: r => by simp [PyData.canLayAll0, PyData.canLay0, kb_canLay r]
theorem kb_depth : ∀ ns : List Bool, PyData.depthAll (ns.map PyData.bool) = 0
  | [] => rfl
  | _ :: r => by simp [PyData.depthAll, PyData.depth, kb_depth r]
theorem kb_shaped (ns : List Bool) : SeqAt.shaped (.list (ns.map PyData.bool)) = true := by
  simp [SeqAt.shaped, PyData.canLay0, PyData.depth, kb_canLay, kb_depth]
theorem kb_sameAll : ∀ ns ms : List Bool, PySem.Spec.sameAll (ns.map PyData.bool) (ms.map PyData.bool) = decide (ns = ms)
  | [], [] => by simp [PySem.Spec.sameAll]
  | [], _ :: _ => by simp [PySem.Spec.sameAll]
  | _ :: _, [] => by simp [PySem.Spec.sameAll]
  | a :: r, b :: t => by
    simp only [List.map_cons, PySem.Spec.sameAll, PySem.Spec.same, kb_sameAll r t]
    by_cases h : a = b <;> by_cases h' : r = t <;> simp [h, h']
theorem kb_same (ns ms : List Bool) : PySem.Spec.same (.list (ns.map PyData.bool)) (.list (ms.map PyData.bool)) = decide (ns = ms) := by
  simp only [PySem.Spec.same]; exact kb_sameAll ns ms
theorem kb_carried : ∀ {vs : List Value} {ns : List Bool}, Vals (ns.map V.bl) vs → CarriedAll vs (ns.map PyData.bool)
  | [], [], _ => .nil
  | v :: vs, b :: ns, h => by
    cases h with
    | cons a r =>
      cases (show v = Value.bool b from a)
      exact .cons (.bool _) (kb_carried r)
  | [], _ :: _, h => by cases h
  | _ :: _, [], h => by cases h
def rNeB : R2 := fun x y H Q => ∃ (l b : Addr) (xs zs : List Bool), x = .ref l ∧ y = .ref b ∧ H l = some (.lst (xs.map .bl)) ∧ H b = some (.lst (zs.map .bl)) ∧ Q (.bl (!decide (xs = zs))) H
theorem op_neB (hu : X.A.units + 64 < cLine) : OpR X (compareOp .NotEq) rNeB := by
  intro pins s σ H x y v u Q I rx ry h
  obtain ⟨l, b, xs, zs, rfl, rfl, h1, h2, q⟩ := h
  cases rx
  cases ry
  obtain ⟨_, its, n, r, _, e⟩ := I.lstM h1
  obtain ⟨_, its2, n2, r2, _, e2⟩ := I.lstM h2
  exact ne_dataH_same (reads_newData ⟨_, e, rfl, n, rfl⟩ (kb_carried r)) (reads_newData ⟨_, e2, rfl, n2, rfl⟩ (kb_carried r2)) (kb_shaped _) (kb_shaped _) hu (SeqAt.noMix_of_shape (.list .bool) rfl _ _ (list_map_has fun _ => rfl) (list_map_has fun _ => rfl)) (by rw [kb_same]; exact ⟨.bl _, H, I, rfl, q⟩)
theorem room64 {k : Nat} {A : Around} (hr : Room k A) : A.units + 64 < cLine := by have := hr.un; omega
end
/-! ### a def that answers or refuses -/
section
variable {X : Cx} {k1 k2 k' : Nat} {x : Str} {ps : List Str} {sp1 sp2 : Sp} {e : Expr} {es : List Expr} {t : TA} {p pos : Pos} {E : St → XK}
end
end L2
namespace L2
open PySem
end L2

end

section
namespace L2
open PySem PySem.W PySem.Spec PyProof.Rows PySem.Builtin.ObjectAttr
/-! ### an attribute laid on a new exception -/
def overV : List Value → Bool
  | .ref _ :: r => overV r
  | l => l == bmV
structure ExcS (K : Frag) (C : Addr) : Prop extends ExcC K C where
  sa : findIn K (.ref C) "__setattr__" = some (some (.builtin "object.__setattr__"))
  ov : (clsIn K C).any (fun cd => overV cd.mro) = true
  hd : hasDictIn K C = true
section
variable {K : Frag} {prog : Program} {w : World} {A : Around} {E : Value → Shared → Prop} {s : Shared} {x C : Addr} {ox : Obj} {od : Option Obj} {name : Str} {v : Value}
end
end L2

end

section
namespace L2
open PySem PySem.W PySem.Spec PyProof.Rows
/-! ### a class of exceptions with an __init__ of the text -/
def excInI (K : Frag) (C f : Addr) : Bool := match K.lookup C with
  | some ⟨.type "type", _, .cls cd, sl⟩ => (match cd.mro, sl.toList with
    | .ref C' :: bm, [_, _, _, _, some (.builtin n), _] => C' == C && n == "ValueError.__new__" && !cd.hasDel && tailIn K bmV bm && nsOkIn K cd.ns && nsIn K cd.ns "__init__" == some (some (.ref f))
    | _, _ => false)
  | _ => false
structure ClsAtI (h : Heap) (C f : Addr) : Prop where
  ex : ∃ (bm : List Value) (N : Addr) (nm q : Str) (bs : List Value) (hdct : Bool) (sn : List Str) (sub : List Value) (ab : Bool) (col : Option Bool) (dd : Option Addr) (k0 k1 k2 k3 k5 : Option Value) (mN : Str → Option Value),
    h.get? C = some (excClassObj nm q C N bs bm hdct sn sub ab col dd k0 k1 k2 k3 k5 "ValueError.__new__") ∧ h.Ns N mN ∧ mN "__init__" = some (.ref f) ∧ OwnTail h bmV bm
section
variable {prog : Program} {w : World} {A : Around} {E : Value → Shared → Prop} {h : Heap} {g : Array GenState} {d : Drawn} {t : Nat} {os : OsState}
variable {nm q : Str} {C N : Addr} {bs bm bmB : List Value} {hdct : Bool} {sn : List Str} {sub : List Value} {ab : Bool} {col : Option Bool} {dd : Option Addr} {k0 k1 k2 k3 k5 : Option Value} {B Bn newId nid initId inN : String} {bmN : List Value}
end
structure XMk (K : Frag) (mg : Str → Option Value) (x : Str) (C f : Addr) : Prop where
  xi : excInI K C f = true
  fn : typeIn K (.ref f) = some (.type "function")
  kp : keepIn K (.ref C) = true
  be : mroIn K C (.type "BaseException") = some true
  ty : typeIn K (.ref C) = some (.type "type")
  gm : mg x = some (.ref C)
end L2

end

section
namespace L2
open PySem PySem.W PySem.Spec PyProof.Rows
/-! ### f-strings of texts and small ints -/
abbrev TJ := Str → St → Hp → VK → Prop
section
variable {X : Cx} {e o : Expr} {es : List Expr} {te ta tv : TE} {t : TJ} {pos : Pos}
end
/-! ### B.__init__(self, ..), B an own base without __init__ -/
section
variable {X : Cx} {x : Str} {C D f : Addr} {np apos pos : Pos} {e : Expr} {es : List Expr} {t : TA}
end
/-! ### self.place = .. in __init__ -/
end L2

end

section
namespace L2
open PySem PySem.W PySem.Spec PyProof.Rows
/-! ### methods that answer or refuse -/
section
variable {X : Cx} {k1 k2 k' : Nat} {C : Addr} {m : Str} {ps : List Str} {sp1 sp2 : Sp} {e o : Expr} {es : List Expr} {t : TA} {ta : TE} {p pos apos : Pos} {E : St → XK}
end
end L2
namespace L2
open PySem PySem.Spec PyProof.Rows
end L2

end

section
namespace KM
open PySem L2
end KM

end

section
namespace L2
open PySem PySem.W PySem.Spec PyProof.Rows
section
variable {X : Cx}
def rEqB : R2 := fun x y H Q => ∃ (l b : Addr) (xs zs : List Bool), x = .ref l ∧ y = .ref b ∧ H l = some (.lst (xs.map .bl)) ∧ H b = some (.lst (zs.map .bl)) ∧ Q (.bl (decide (xs = zs))) H
theorem op_eqB (hu : X.A.units + 64 < cLine) : OpR X (compareOp .Eq) rEqB := by
  intro pins s σ H x y v u Q I rx ry h
  obtain ⟨l, b, xs, zs, rfl, rfl, h1, h2, q⟩ := h
  cases rx
  cases ry
  obtain ⟨_, its, n, r, _, e⟩ := I.lstM h1
  obtain ⟨_, its2, n2, r2, _, e2⟩ := I.lstM h2
  exact eq_dataH_same (reads_newData ⟨_, e, rfl, n, rfl⟩ (kb_carried r)) (reads_newData ⟨_, e2, rfl, n2, rfl⟩ (kb_carried r2)) (kb_shaped _) (kb_shaped _) hu (SeqAt.noMix_of_shape (.list .bool) rfl _ _ (list_map_has fun _ => rfl) (list_map_has fun _ => rfl)) (by rw [kb_same]; exact ⟨.bl _, H, I, rfl, q⟩)
def oAdd3 := OpR.or (oAdd (X := X)) op_cat
def oEqM (hu : X.A.units + 64 < cLine) := OpR.or (oEq (X := X)) (op_eqB hu)
def oNeM (hu : X.A.units + 64 < cLine) := OpR.or (oNe (X := X)) (op_neB hu)
end
end L2
namespace KM
open PySem L2
end KM

end

section
namespace L2
open PySem PySem.W PySem.Spec PyProof.Rows
/-! ### great numbers -/
section
variable {X : Cx}
def CDivB (i j : Int) : Prop := 0 < j ∧ (Builtin.Int.intBits j ≤ 9000 ∨ Builtin.Int.intBits i ≤ Builtin.Int.intBits j + 4000)
theorem log2_bits {j : Int} (h : j ≠ 0) : j.natAbs.log2 + 1 = Builtin.Int.intBits j := by
  unfold Builtin.Int.intBits
  rw [if_neg (by simpa using h)]
theorem CDivB.ok {i j : Int} (h : CDivB i j) : Builtin.divisionGoesByPylong i j = false := by
  unfold Builtin.divisionGoesByPylong
  have hj := log2_bits (Int.ne_of_gt h.1)
  have h2 := h.2
  have ej : (j == 0) = false := by have := h.1; simp; omega
  simp only [Bool.and_eq_false_iff, decide_eq_false_iff_not, ej, if_neg (show ¬ (false = true) from by decide)]
  rcases h2 with h2 | h2
  · left; omega
  · right
    by_cases hi : i = 0
    · subst hi; rw [if_pos (by decide)]; omega
    · have hi2 := log2_bits hi
      rw [if_neg (by simpa using hi)]
      omega
end
/-! ### reversed(a list) -/
section
variable {X : Cx} {tg : Expr}
/-- all(a list of bools) -/
theorem call_all (hc : X.calm = true) : CallR X (.builtin "all") (fun xs H Q => ∃ a, ∃ bs : List Bool, xs = [.ref a] ∧ SqL X.K H a (bs.map .bl) ∧ Q (.bl (bs.all id)) H) := by
  intro pins s σ H xs us Q I r h
  obtain ⟨a, bs, rfl, hq, q⟩ := h
  obtain ⟨u, rfl, ru⟩ := vals1 r
  obtain rfl : u = Value.ref a := ru
  obtain ⟨its, rv, pl, hz⟩ := I.list hq
  have hlen := rv.length
  have hlt : a < s.heap.objs.size := by obtain ⟨o, ho, _⟩ := pl.isList; exact Heap.lt_size ho
  refine call_all_walkS (wpAny_pyIter_list pl.isList ?_)
  refine ⟨s.heap.objs.size, [s.heap.objs.size, a], [s.heap.objs.size], _, its.toArray.size, _, _, fun i => bs.getD i false, rfl, (Walks.list (A := X.A.in1) (I.ok.hd hc) s.heap.objs.size a (Nat.ne_of_lt hlt) its.toArray).toS, ⟨⟨_, Heap.get?_push_size _ rfl, rfl, rfl⟩, ?_⟩, ?_, fun s' mv => ?_⟩
  · obtain ⟨o, ho, r⟩ := pl.isList; exact ⟨o, Heap.get?_push_of_some _ ho, r⟩
  · intro i v s2 Q2 E2 hv q2
    have hv' : its[i]? = some v := by simpa using hv
    have hi : i < bs.length := by
      have := (List.getElem?_eq_some_iff.mp hv').1
      rw [List.length_map] at hlen; omega
    have hb : (bs.map V.bl)[i]? = some (.bl (bs.getD i false)) := by rw [List.getElem?_map, List.getElem?_eq_getElem hi, List.getD_eq_getElem?_getD, List.getElem?_eq_getElem hi]; rfl
    obtain ⟨u, hu, ru⟩ := rv.get hb
    rw [hv'] at hu; cases hu
    obtain rfl : v = Value.bool (bs.getD i false) := ru
    exact wpAny_truthy_bool q2
  · have hall : (List.range its.toArray.size).all (fun i => bs.getD i false) = bs.all id := by
      rw [List.size_toArray, ← hlen, List.length_map]
      apply Bool.eq_iff_iff.mpr
      rw [List.all_eq_true, List.all_eq_true]
      constructor
      · intro h x hx
        obtain ⟨i, hi, rfl⟩ := List.mem_iff_getElem.mp hx
        have := h i (List.mem_range.mpr hi)
        rw [List.getD_eq_getElem?_getD, List.getElem?_eq_getElem hi] at this
        exact this
      · intro h i hi
        have hi' := List.mem_range.mp hi
        rw [List.getD_eq_getElem?_getD, List.getElem?_eq_getElem hi']
        exact h _ (List.getElem_mem hi')
    rw [hall]
    refine ⟨.bl _, H, ?_, rfl, q⟩
    have I2 : Inv X pins σ H { s with heap := s.heap.push { cls := .type "list_iterator", data := .fields #[.ref a, .int 0 0] } } := I.kept (t' := s.toks) fun b o e => Heap.get?_push_of_some _ e
    obtain ⟨f0, f1, f2, f3, f4, f5⟩ := I.fpOk (b := s.heap.objs.size) (Nat.le_refl _) (I.hok.fresh (Nat.le_refl _))
    have e : s' = { s with heap := s'.heap, toks := s'.toks } := by
      obtain ⟨h1, g1, d1, t1, o1⟩ := s'
      have := mv.gens; have := mv.drawn; have := mv.os
      dsimp only at *
      subst_vars; rfl
    have I3 := I2.turned (t' := s'.toks) (it := s.heap.objs.size) (h' := s'.heap) (fun b o hb e => mv.heap b o (by simpa using hb) e) f0 f1 f3 f4 f5
    rw [e]
    exact I3
end
end L2
namespace L2
open PySem PySem.W PySem.Spec PyProof.Rows
/-! ### lists of ints, == and != -/
section
variable {X : Cx}
theorem ki_canLay : ∀ ns : List Int, PyData.canLayAll0 (ns.map PyData.int) = true
  | [] => rfl
  | _ :: r => by simp [PyData.canLayAll0, PyData.canLay0, ki_canLay r]
theorem ki_depth : ∀ ns : List Int, PyData.depthAll (ns.map PyData.int) = 0
  | [] => rfl
  | _ :: r => by simp [PyData.depthAll, PyData.depth, ki_depth r]
theorem ki_shaped (ns : List Int) : SeqAt.shaped (.list (ns.map PyData.int)) = true := by
  simp [SeqAt.shaped, PyData.canLay0, PyData.depth, ki_canLay, ki_depth]
theorem ki_sameAll : ∀ ns ms : List Int, PySem.Spec.sameAll (ns.map PyData.int) (ms.map PyData.int) = decide (ns = ms)
  | [], [] => by simp [PySem.Spec.sameAll]
  | [], _ :: _ => by simp [PySem.Spec.sameAll]
  | _ :: _, [] => by simp [PySem.Spec.sameAll]
  | a :: r, b :: t => by
    simp only [List.map_cons, PySem.Spec.sameAll, PySem.Spec.same, ki_sameAll r t]
    by_cases h : a = b <;> by_cases h' : r = t <;> simp [h, h']
theorem ki_same (ns ms : List Int) : PySem.Spec.same (.list (ns.map PyData.int)) (.list (ms.map PyData.int)) = decide (ns = ms) := by
  simp only [PySem.Spec.same]; exact ki_sameAll ns ms
theorem ki_carried : ∀ {vs : List Value} {ns : List Int}, Vals (ns.map V.int) vs → CarriedAll vs (ns.map PyData.int)
  | [], [], _ => .nil
  | v :: vs, b :: ns, h => by
    cases h with
    | cons a r =>
      obtain ⟨t, rfl⟩ := (show ∃ t, v = Value.int b t from a)
      exact .cons (.int _ _) (ki_carried r)
  | [], _ :: _, h => by cases h
  | _ :: _, [], h => by cases h
def rEqI : R2 := fun x y H Q => ∃ (l b : Addr) (xs zs : List Int), x = .ref l ∧ y = .ref b ∧ H l = some (.lst (xs.map .int)) ∧ H b = some (.lst (zs.map .int)) ∧ Q (.bl (decide (xs = zs))) H
def rNeI : R2 := fun x y H Q => ∃ (l b : Addr) (xs zs : List Int), x = .ref l ∧ y = .ref b ∧ H l = some (.lst (xs.map .int)) ∧ H b = some (.lst (zs.map .int)) ∧ Q (.bl (!decide (xs = zs))) H
theorem op_eqI (hu : X.A.units + 64 < cLine) : OpR X (compareOp .Eq) rEqI := by
  intro pins s σ H x y v u Q I rx ry h
  obtain ⟨l, b, xs, zs, rfl, rfl, h1, h2, q⟩ := h
  cases rx
  cases ry
  obtain ⟨_, its, n, r, _, e⟩ := I.lstM h1
  obtain ⟨_, its2, n2, r2, _, e2⟩ := I.lstM h2
  exact eq_dataH_same (reads_newData ⟨_, e, rfl, n, rfl⟩ (ki_carried r)) (reads_newData ⟨_, e2, rfl, n2, rfl⟩ (ki_carried r2)) (ki_shaped _) (ki_shaped _) hu (SeqAt.noMix_of_shape (.list .int) rfl _ _ (list_map_has fun _ => rfl) (list_map_has fun _ => rfl)) (by rw [ki_same]; exact ⟨.bl _, H, I, rfl, q⟩)
theorem op_neI (hu : X.A.units + 64 < cLine) : OpR X (compareOp .NotEq) rNeI := by
  intro pins s σ H x y v u Q I rx ry h
  obtain ⟨l, b, xs, zs, rfl, rfl, h1, h2, q⟩ := h
  cases rx
  cases ry
  obtain ⟨_, its, n, r, _, e⟩ := I.lstM h1
  obtain ⟨_, its2, n2, r2, _, e2⟩ := I.lstM h2
  exact ne_dataH_same (reads_newData ⟨_, e, rfl, n, rfl⟩ (ki_carried r)) (reads_newData ⟨_, e2, rfl, n2, rfl⟩ (ki_carried r2)) (ki_shaped _) (ki_shaped _) hu (SeqAt.noMix_of_shape (.list .int) rfl _ _ (list_map_has fun _ => rfl) (list_map_has fun _ => rfl)) (by rw [ki_same]; exact ⟨.bl _, H, I, rfl, q⟩)
def oEqL (hu : X.A.units + 64 < cLine) := OpR.or (oEq (X := X)) (op_eqI hu)
def oNeL (hu : X.A.units + 64 < cLine) := OpR.or (oNe (X := X)) (op_neI hu)
end
end L2
namespace L2
open PySem PySem.W PySem.Spec PyProof.Rows
/-! ### comprehensions over a list -/
theorem comp_list {K : PySem.W.Frag} {a : Addr} {xs : List V} {g : TG} {te : TE} {Q : VK} {H : Hp} {D : Addr} {σ0 : St} (f : V → V) (S : St → Prop) (hz : xs.length ≤ sizeLine) (h0 : S σ0) (hD : H D = none) (hl : SqL K H a xs)
    (ht : ∀ x, x ∈ xs → ∀ σ1 H1, S σ1 → Same H H1 → ∀ R : St → V → Hp → Prop, (∀ σ2, S σ2 → R σ2 (f x) H1) → g x σ1 H1 fun σ2 H2 => te σ2 H2 fun y H3 => R σ2 y H3)
    (hq : Q (.ref D) (upd H D (.lst (xs.map f)))) :
    CompGo (Itl K a) g tYes te Q σ0 H D := by
  refine ⟨fun i m σ1 H2 => i ≤ xs.length ∧ m = xs.length - i ∧ S σ1 ∧ H2 = upd H D (.lst ((xs.take i).map f)), ⟨xs.length, Nat.zero_le _, rfl, h0, rfl⟩, ?_⟩
  rintro i m σ1 H2 ⟨h1, rfl, h2, rfl⟩
  have hl2 := (same_new (o := .lst ((xs.take i).map f)) hD).seq hl
  rcases Nat.lt_or_ge i xs.length with z | z
  · refine .inr ⟨⟨xs, xs[i], hl2, List.getElem?_eq_getElem z⟩, ?_⟩
    rintro x H3 ⟨rfl, hx⟩
    have hx := hx xs hl2
    refine ht x (List.mem_of_getElem? hx) σ1 _ h2 (same_new hD) (fun σ2 y H6 => ∃ ys m', H6 D = some (.lst ys) ∧ ys.length < sizeLine ∧ m' < xs.length - i ∧ (i + 1 ≤ xs.length ∧ m' = xs.length - (i + 1) ∧ S σ2 ∧ upd H6 D (.lst (ys ++ [y])) = upd H D (.lst ((xs.take (i + 1)).map f)))) fun σ2 q3 => ?_
    refine ⟨_, xs.length - (i + 1), upd_same, ?_, by omega, by omega, rfl, q3, ?_⟩
    · rw [List.length_map, List.length_take]; omega
    · rw [upd_upd', List.take_add_one, hx, List.map_append]; rfl
  · have e : i = xs.length := by omega
    subst e
    rw [List.take_length]
    rw [List.take_length] at hl2
    exact .inl ⟨⟨xs, hl2, Nat.le_refl _⟩, hq⟩
end L2

end

section
namespace KM
open PySem L2
/-! ### fractions and their steps -/
/-- the fraction that has these steps; of no steps (1, 0), so that one more goes on alike -/
def frac : List Int → Int × Int
  | [] => (1, 0)
  | a :: r => (a * (frac r).1 + (frac r).2, (frac r).1)
/-- steps behind the first -/
def Tail (r : List Int) : Prop := (∀ x ∈ r, 1 ≤ x) ∧ ∀ h : r ≠ [], 2 ≤ r.getLast h
def Good : List Int → Prop
  | [] => False
  | _ :: r => Tail r
theorem Tail.tl {a : Int} {r : List Int} (h : Tail (a :: r)) : Tail r := by
  refine ⟨fun x hx => h.1 x (List.mem_cons_of_mem _ hx), fun hr => ?_⟩
  have := h.2 (List.cons_ne_nil _ _)
  rwa [List.getLast_cons hr] at this
theorem Tail.frac : ∀ {r : List Int}, Tail r → 0 ≤ (frac r).2 ∧ (frac r).2 < (frac r).1 ∧ (r ≠ [] → 0 < (frac r).2)
  | [], _ => ⟨by decide, by decide, fun h => absurd rfl h⟩
  | a :: r, h => by
    obtain ⟨h1, h2, h3⟩ := h.tl.frac
    have ha := h.1 a (List.mem_cons_self ..)
    show 0 ≤ (KM.frac r).1 ∧ (KM.frac r).1 < a * (KM.frac r).1 + (KM.frac r).2 ∧ (_ → 0 < (KM.frac r).1)
    refine ⟨by omega, ?_, fun _ => by omega⟩
    by_cases hr : r = []
    · subst hr
      have hl := h.2 (List.cons_ne_nil _ _)
      have hl' : (2 : Int) ≤ a := hl
      show (1 : Int) < a * 1 + 0
      omega
    · have := h3 hr
      have hm : 1 * (KM.frac r).1 ≤ a * (KM.frac r).1 := Int.mul_le_mul_of_nonneg_right ha (by omega)
      omega
theorem frac_div {a : Int} {r : List Int} (h : Tail r) : (frac (a :: r)).1 / (frac (a :: r)).2 = a ∧ (frac (a :: r)).1 % (frac (a :: r)).2 = (frac r).2 := by
  obtain ⟨h1, h2, _⟩ := h.frac
  show (a * (frac r).1 + (frac r).2) / (frac r).1 = a ∧ (a * (frac r).1 + (frac r).2) % (frac r).1 = (frac r).2
  constructor
  · rw [Int.add_comm, Int.add_mul_ediv_right _ _ (by omega), Int.ediv_eq_zero_of_lt h1 h2, Int.zero_add]
  · rw [Int.add_comm, Int.add_mul_emod_self_right, Int.emod_eq_of_lt h1 h2]
/-! sizes -/
/-! whether a list has a fraction -/
theorem Good.ne {s : List Int} (h : Good s) : s ≠ [] := by intro e; subst e; exact h
end KM

end

section
namespace L2
open PySem PySem.W PySem.Spec PyProof.Rows
section
variable {X : Cx} {pins : List (Addr × Obj)} {σ : St} {H : Hp} {s : Shared} {h' : Heap}
/-- untracked records of ours have turned, and a new object is laid and tracked -/
theorem Inv.turnedNew {t' : Nat} {ch : List Addr} {a : Addr} {o : HO} (I : Inv X pins σ H s) (k : ∀ b u, b ∉ ch → s.heap.get? b = some u → h'.get? b = some u) (hf : ∀ b ∈ ch, FpOk X pins H b) (ha : s.heap.objs.size ≤ a) (new : ObjOk X.prog X.w (upd H a o) h' a o) :
    Inv X pins σ (upd H a o) { s with heap := h', toks := t' } := by
  have hn := I.hok.fresh ha
  have nch : ∀ b u, H b = some u → b ∉ ch := fun b u e z => by have := (hf b z).1; rw [this] at e; cases e
  have ne : ∀ b u, s.heap.get? b = some u → b ≠ a := fun b u e z => by subst z; exact absurd (Nat.lt_of_lt_of_le (Heap.lt_size e) ha) (Nat.lt_irrefl _)
  refine I.step (g' := s.gens) (d' := s.drawn) (ch := ch) (fun b hb => ?_) (fun b o _ _ hc e _ => k b o hc e) (fun b o _ _ hc e _ => ⟨o.slots, k b o hc e⟩) (fun b u _ e n => by rw [upd_ne (ne b u e)]; exact n)
    (fun b o hc e => ⟨o, k b o hc e⟩) (fun b xs e => by rw [upd_ne (ne_of_none e hn)]; exact e) (fun b u v e => by rw [upd_ne (ne_of_none e hn)]; exact e) (fun b ps e => ⟨#[], by rw [upd_ne (ne_of_none e hn), e]; simp⟩) (fun m hm => ?_) (fun b u e => ?_) I.bare
  · obtain ⟨f0, f1, f2, f3, f4, f5⟩ := hf b hb
    exact ⟨f3, f1, f4, f5⟩
  · obtain ⟨ob, es, ep, ho, r⟩ := hm
    exact ⟨ob, es, ep, k _ ob (fun z => (hf _ z).2.1 rfl) ho, r⟩
  · by_cases hb : b = a
    · subst hb; rw [upd_same] at e; cases e; exact new
    · rw [upd_ne hb] at e
      refine (I.hok b u e).stay (fun c v hc q => k c v ?_ q) (fun c q => by rw [upd_ne (ne_of_none q hn)]; exact q) fun c xs q => by rw [upd_ne (ne_of_none q hn)]; exact q
      rcases hc with z | z
      · rw [z]; exact nch b u e
      · exact nch c _ z
theorem Inv.turnedL {t' : Nat} {ch : List Addr} (I : Inv X pins σ H s) (k : ∀ b u, b ∉ ch → s.heap.get? b = some u → h'.get? b = some u) (hf : ∀ b ∈ ch, FpOk X pins H b) : Inv X pins σ H { s with heap := h', toks := t' } := by
  have nch : ∀ b u, H b = some u → b ∉ ch := fun b u e z => by have := (hf b z).1; rw [this] at e; cases e
  refine I.step (g' := s.gens) (d' := s.drawn) (ch := ch) (fun b hb => ?_) (fun b o _ _ hc e _ => k b o hc e) (fun b o _ _ hc e _ => ⟨o.slots, k b o hc e⟩) (fun _ _ _ _ n => n)
    (fun b o hc e => ⟨o, k b o hc e⟩) (fun _ _ e => e) (fun _ _ _ e => e) (fun b ps e => ⟨#[], by rw [e]; simp⟩) (fun m hm => ?_) (fun b u e => ?_) I.bare
  · obtain ⟨f0, f1, f2, f3, f4, f5⟩ := hf b hb
    exact ⟨f3, f1, f4, f5⟩
  · obtain ⟨ob, es, ep, ho, r⟩ := hm
    exact ⟨ob, es, ep, k _ ob (fun z => (hf _ z).2.1 rfl) ho, r⟩
  · refine (I.hok b u e).stay (fun c v hc q => k c v ?_ q) (fun _ q => q) fun _ _ q => q
    rcases hc with z | z
    · rw [z]; exact nch b u e
    · exact nch c _ z
end
/-! ### for k, x in enumerate(a list) -/
section
variable {X : Cx}
end
end L2

end

section
namespace KM
open PySem L2
/-! ### rows of fractions -/
def more : List Int → List Bool
  | [] => [false]
  | b :: r => true :: (cnt (b - 1).toNat ++ more r).map (!·)
/-! ### the common divisor -/
def cd (p q : Int) : Int := if h : 0 < q then cd q (p % q) else p
termination_by q.toNat
decreasing_by
  have := Int.emod_lt_of_pos p h
  have := Int.emod_nonneg p (Int.ne_of_gt h)
  omega
theorem cd_pos {p q : Int} (h : 0 < q) : cd p q = cd q (p % q) := by rw [cd, dif_pos h]
theorem cd_zero (p : Int) : cd p 0 = p := by rw [cd, dif_neg (by decide)]
theorem cd_tail : ∀ {r : List Int}, Tail r → cd (frac r).1 (frac r).2 = 1
  | [], _ => cd_zero _
  | a :: r, h => by
    obtain ⟨h1, h2, _⟩ := h.tl.frac
    obtain ⟨d1, d2⟩ := frac_div (a := a) h.tl
    rw [cd_pos (show 0 < (frac (a :: r)).2 from by show 0 < (frac r).1; omega), d2]
    exact cd_tail h.tl
theorem Good.cd : ∀ {s : List Int}, Good s → cd (frac s).1 (frac s).2 = 1
  | a :: r, h => by
    have h : Tail r := h
    obtain ⟨h1, h2, _⟩ := h.frac
    obtain ⟨d1, d2⟩ := frac_div (a := a) h
    rw [cd_pos (show 0 < (frac (a :: r)).2 from by show 0 < (frac r).1; omega), d2]
    exact cd_tail h
end KM
namespace L2
open PySem PySem.Spec PyProof.Rows
end L2

end

section
namespace KM
open PySem L2
/-! ### the order of fractions and of their rows -/
end KM

end

section
namespace L2
open PySem PySem.W PySem.Spec PyProof.Rows
section
variable {X : Cx}
end
/-- .. whose element is a value by its place -/
theorem comp_listI {K : PySem.W.Frag} {a : Addr} {xs : List V} {g : TG} {te : TE} {Q : VK} {H : Hp} {D : Addr} {σ0 : St} (fe : Nat → V) (S : St → Prop) (hz : xs.length ≤ sizeLine) (h0 : S σ0) (hD : H D = none) (hl : SqL K H a xs)
    (ht : ∀ i x, xs[i]? = some x → ∀ σ1 H1, S σ1 → Same H H1 → ∀ R : St → V → Hp → Prop, (∀ σ2, S σ2 → R σ2 (fe i) H1) → g x σ1 H1 fun σ2 H2 => te σ2 H2 fun y H3 => R σ2 y H3)
    (hq : Q (.ref D) (upd H D (.lst ((List.range xs.length).map fe)))) :
    CompGo (Itl K a) g tYes te Q σ0 H D := by
  refine ⟨fun i m σ1 H2 => i ≤ xs.length ∧ m = xs.length - i ∧ S σ1 ∧ H2 = upd H D (.lst ((List.range i).map fe)), ⟨xs.length, Nat.zero_le _, rfl, h0, rfl⟩, ?_⟩
  rintro i m σ1 H2 ⟨h1, rfl, h2, rfl⟩
  have hl2 := (same_new (o := .lst ((List.range i).map fe)) hD).seq hl
  rcases Nat.lt_or_ge i xs.length with z | z
  · refine .inr ⟨⟨xs, xs[i], hl2, List.getElem?_eq_getElem z⟩, ?_⟩
    rintro x H3 ⟨rfl, hx⟩
    have hx := hx xs hl2
    refine ht i x hx σ1 _ h2 (same_new hD) (fun σ2 y H6 => ∃ ys m', H6 D = some (.lst ys) ∧ ys.length < sizeLine ∧ m' < xs.length - i ∧ (i + 1 ≤ xs.length ∧ m' = xs.length - (i + 1) ∧ S σ2 ∧ upd H6 D (.lst (ys ++ [y])) = upd H D (.lst ((List.range (i + 1)).map fe)))) fun σ2 q3 => ?_
    refine ⟨_, xs.length - (i + 1), upd_same, by rw [List.length_map, List.length_range]; omega, by omega, by omega, rfl, q3, ?_⟩
    rw [upd_upd', List.range_succ, List.map_append]; rfl
  · have e : i = xs.length := by omega
    subst e
    exact .inl ⟨⟨xs, hl2, Nat.le_refl _⟩, hq⟩
end L2

end

section
namespace L2
open PySem PySem.W PySem.Spec PyProof.Rows
/-! ### try with two handlers of one name -/
end L2

end

section
namespace KM
open PySem L2
/-! ### rows of fractions, without their last sign -/
def mp : List Int → List Bool
  | [] => []
  | b :: r => true :: (cnt (b - 1).toNat ++ mp r).map (!·)
end KM

end

section
namespace L2
open PySem PySem.W PySem.Spec PyProof.Rows
section
variable {X : Cx}
end
end L2
namespace KM
open PySem L2
/-! ### rows without the ones at their end -/
/-! ### the order of rows -/
def Lt (a b : List Bool) : Prop := (rowS a).cps.toList < (rowS b).cps.toList
instance (a b : List Bool) : Decidable (Lt a b) := inferInstanceAs (Decidable (_ < _))
/-- how many signs two rows begin with in common -/
def com : List Bool → List Bool → Nat
  | x :: a, y :: b => if x = y then com a b + 1 else 0
  | _, _ => 0
end KM
namespace KM
open PySem L2
end KM

end

section
namespace L2
open PySem PySem.W PySem.Spec PyProof.Rows
/-! ### the lesser and the greater of two texts -/
section
variable {prog : Program} {w : World} {A : Around} {E : Value → Shared → Prop} {s : Shared}
end
section
variable {X : Cx}
/-! ### list.insert -/
end
/-! ### for x, y in zip(a list, a list) -/
def Itz (K : PySem.W.Frag) (a b : Addr) (xs ys : List V) : It :=
  ⟨fun i H => SqL K H a xs ∧ SqL K H b ys ∧ i < min xs.length ys.length, fun i H x H' => ∃ (T : Addr) (u v : V), H T = none ∧ xs[i]? = some u ∧ ys[i]? = some v ∧ x = .ref T ∧ H' = upd H T (.tup [u, v]), fun i H => SqL K H a xs ∧ SqL K H b ys ∧ min xs.length ys.length ≤ i⟩
theorem turn_zip {P : Program} {w : World} {K : PySem.W.Frag} {elts : List Expr} {k : Nat} {pos : Pos} (a b z TI TO i1 i2 : Addr) (xs ys : List V) (D : ZipApart z TI TO i1 i2 a b) :
    Turn P w K (.Tuple elts k pos) (Itz K a b xs ys) [z, TI, TO, i1, i2] z (fun i h => i ≤ min xs.length ys.length ∧ IsZip h z TI TO .none ∧ IsPair h TI (.ref i1) (.ref i2) ∧ (∃ a b, IsPair h TO a b) ∧ h.IsListIter i1 a i ∧ h.IsListIter i2 b i) where
  mem := by simp
  obj := fun i h st c hc => by
    obtain ⟨_, st1, st2, ⟨p, q, st3⟩, st4, st5⟩ := st
    rcases List.mem_cons.mp hc with e | hc
    · subst e; exact ⟨_, st1, fun v z => by cases z⟩
    rcases List.mem_cons.mp hc with e | hc
    · subst e; exact ⟨_, st2, fun v z => by cases z⟩
    rcases List.mem_cons.mp hc with e | hc
    · subst e; exact ⟨_, st3, fun v z => by cases z⟩
    rcases List.mem_cons.mp hc with e | hc
    · subst e
      obtain ⟨o, e, c, d⟩ := st4
      exact ⟨o, e, fun v z => by rw [d] at z; cases z⟩
    · obtain rfl := List.mem_singleton.mp hc
      obtain ⟨o, e, c, d⟩ := st5
      exact ⟨o, e, fun v z => by rw [d] at z; cases z⟩
  keep := fun i h h' st k => by
    obtain ⟨hi, st1, st2, ⟨p, q, st3⟩, st4, st5⟩ := st
    exact ⟨hi, k z (by simp) _ st1, k TI (by simp) _ st2, ⟨p, q, k TO (by simp) _ st3⟩, st4.at fun o e => k i1 (by simp) o e, st5.at fun o e => k i2 (by simp) o e⟩
  item := by
    intro X hP hw hK hc i pins s σ H E I hf st hg
    subst hP hw hK
    obtain ⟨hq1, hq2, hi⟩ := hg
    obtain ⟨its1, rv1, p1, hz1⟩ := I.list hq1
    obtain ⟨its2, rv2, p2, hz2⟩ := I.list hq2
    have hlen1 := rv1.length
    have hlen2 := rv2.length
    have W := WalksT.zip2 (prog := X.prog) (w := X.w) (I.ok.hd hc) z TI TO i1 i2 a b D its1.toArray its2.toArray
    refine W.item i s _ _ (by rw [List.size_toArray, List.size_toArray]; omega) ⟨st.2.1, st.2.2.1, st.2.2.2.1, st.2.2.2.2.1, st.2.2.2.2.2, p1.isList, p2.isList⟩ fun T vals h' tk hv hT htup mid kk => ?_
    refine ⟨_, rfl, W.go elts k pos i T _ _ _ mid fun h'' st' kk' => ?_⟩
    obtain ⟨u1, u2, hu1, hu2, rfl⟩ := hv
    have hu1' : its1[i]? = some u1 := by simpa using hu1
    have hu2' : its2[i]? = some u2 := by simpa using hu2
    have hy1 : xs[i]? = some (xs[i]'(by omega)) := List.getElem?_eq_getElem _
    have hy2 : ys[i]? = some (ys[i]'(by omega)) := List.getElem?_eq_getElem _
    obtain ⟨v1, hv1, ru1⟩ := rv1.get hy1
    obtain ⟨v2, hv2, ru2⟩ := rv2.get hy2
    rw [hu1'] at hv1; cases hv1
    rw [hu2'] at hv2; cases hv2
    have hTf := I.hok.fresh hT
    have nT : T ∉ [z, TO, i1, i2] := W.apart i T h' mid
    have nT2 : ∀ c ∈ [z, TI, TO, i1, i2], c ≠ T := fun c hcm e => by
      subst e
      rcases List.mem_cons.mp hcm with e | hcm
      · exact nT (by rw [e]; simp)
      rcases List.mem_cons.mp hcm with e | hcm
      · have h0 := Heap.lt_size st.2.2.1
        rw [← e] at h0
        exact absurd (Nat.lt_of_lt_of_le h0 hT) (Nat.lt_irrefl _)
      · exact nT (List.mem_cons_of_mem _ hcm)
    refine ⟨.ref T, upd H T (.tup [xs[i]'(by omega), ys[i]'(by omega)]), ?_, rfl, ⟨T, _, _, hTf, hy1, hy2, rfl, rfl⟩, ⟨by omega, st'.1, st'.2.1, st'.2.2.1, st'.2.2.2.1, st'.2.2.2.2.1⟩, fun c hcm => ?_⟩
    · refine I.turnedNew (ch := [z, TO, i1, i2]) (t' := tk) (fun c o hcn ec => kk' c o hcn (kk c o hcn ec)) (fun c hcm => hf c ?_) hT ?_
      · rcases List.mem_cons.mp hcm with e | hcm
        · rw [e]; simp
        · exact List.mem_cons_of_mem _ (List.mem_cons_of_mem _ hcm)
      refine ⟨by show 2 ≤ sizeLine; decide, [u1, u2], .cons ru1 (.cons ru2 .nil), ?_⟩
      obtain ⟨o, ho, r⟩ := htup
      exact ⟨o, kk' T o nT ho, r⟩
    · rw [upd_ne (nT2 c hcm)]
      exact (hf c hcm).1
  done := by
    intro X hP hw hK hc i pins s σ H E I hf st hg
    subst hP hw hK
    obtain ⟨hq1, hq2, hi⟩ := hg
    obtain ⟨its1, rv1, p1, hz1⟩ := I.list hq1
    obtain ⟨its2, rv2, p2, hz2⟩ := I.list hq2
    have hlen1 := rv1.length
    have hlen2 := rv2.length
    have W := WalksT.zip2 (prog := X.prog) (w := X.w) (I.ok.hd hc) z TI TO i1 i2 a b D its1.toArray its2.toArray
    have ei : i = min its1.toArray.size its2.toArray.size := by rw [List.size_toArray, List.size_toArray]; have := st.1; omega
    subst ei
    refine W.done s _ _ ⟨st.2.1, st.2.2.1, st.2.2.2.1, st.2.2.2.2.1, st.2.2.2.2.2, p1.isList, p2.isList⟩ fun h' tk kk => ⟨rfl, I.turnedL (t' := tk) kk fun c hcm => hf c ?_⟩
    rcases List.mem_cons.mp hcm with e | hcm
    · rw [e]; simp
    · exact List.mem_cons_of_mem _ (List.mem_cons_of_mem _ hcm)
  self := fun A i s Q E st h => wpAny_pyIter_zip st.2.1 h
section
variable {X : Cx}
def iZip (K : PySem.W.Frag) (ta : TA) : TI := fun σ H R => ta σ H fun vs H1 => ∃ a b xs ys, vs = [.ref a, .ref b] ∧ SqL K H1 a xs ∧ SqL K H1 b ys ∧ R (Itz K a b xs ys) H1
theorem pi_zip {l m : Expr} {ta : TA} {p pos : Pos} {elts : List Expr} {k : Nat} {tpos : Pos} (hg : Gl X "zip") (hm : X.mg "zip" = none) (ha : PA X [l, m] ta) (hs : starEach [l, m] X.env = [(false, eval l X.env), (false, eval m X.env)] := by rfl) (hs2 : starEach [m] X.env = [(false, eval m X.env)] := by rfl) :
    PI X (.Tuple elts k tpos) (.Call (.Name "zip" p) [l, m] [] pos) (iZip X.K ta) := by
  intro pins s σ H R I h
  refine Call_ (ld_blt I hg hm boot_zip (PyProof.Rows.callWith_type1 (thn (ha pos pins s σ H (fun vs H1 => ∃ a b xs ys, vs = [.ref a, .ref b] ∧ SqL X.K H1 a xs ∧ SqL X.K H1 b ys ∧ R (Itz X.K a b xs ys) H1) I h) fun us s1 ⟨vs, H1, I1, r1, q1⟩ => ?_) (by rw [hs, hs2]) (by rw [hs2]; rfl)))
  obtain ⟨a, b, xs, ys, rfl, hq1, hq2, q⟩ := q1
  obtain ⟨u1, u2, rfl, ru1, ru2⟩ := vals2 r1
  obtain rfl : u1 = Value.ref a := ru1
  obtain rfl : u2 = Value.ref b := ru2
  obtain ⟨its1, rv1, p1, hz1⟩ := I1.list hq1
  obtain ⟨its2, rv2, p2, hz2⟩ := I1.list hq2
  have l1 : a < s1.heap.objs.size := by obtain ⟨o, ho, _⟩ := p1.isList; exact Heap.lt_size ho
  have l2 : b < s1.heap.objs.size := by obtain ⟨o, ho, _⟩ := p2.isList; exact Heap.lt_size ho
  refine call_zip_2 p1.isList p2.isList fun h' z1 z2 z3 z4 z5 hsz kk => ?_
  have I2 : Inv X pins σ H1 { s1 with heap := h' } := I1.kept (t' := s1.toks) kk
  refine wpAny_pyIter_zip z1 ?_
  refine ⟨_, _, _, _, H1, rfl, I2, turn_zip a b _ _ _ _ _ xs ys (zipApart_new l1 l2), ⟨Nat.zero_le _, z1, z2, ⟨_, _, z3⟩, z4, z5⟩, fun c hc => ?_, q⟩
  have hcl : s1.heap.objs.size ≤ c := by
    rcases List.mem_cons.mp hc with e | hc
    · rw [e]; exact Nat.le_add_right ..
    rcases List.mem_cons.mp hc with e | hc
    · rw [e]; exact Nat.le_add_right ..
    rcases List.mem_cons.mp hc with e | hc
    · rw [e]; exact Nat.le_add_right ..
    rcases List.mem_cons.mp hc with e | hc
    · rw [e]; exact Nat.le_refl _
    · rw [List.mem_singleton.mp hc]; exact Nat.le_add_right ..
  exact I1.fpOk hcl (I1.hok.fresh hcl)
end
end L2
namespace L2
open PySem PySem.W PySem.Spec PyProof.Rows
/-- a comprehension over pairs of two lists -/
theorem comp_zip {K : PySem.W.Frag} {a b : Addr} {xs ys : List V} {g : TG} {te : TE} {Q : VK} {H : Hp} {D : Addr} {σ0 : St} (fe : Nat → V) (S : St → Prop) (hz : min xs.length ys.length ≤ 100000) (h0 : S σ0) (hD : H D = none) (hl1 : SqL K H a xs) (hl2 : SqL K H b ys)
    (ht : ∀ i x y, xs[i]? = some x → ys[i]? = some y → ∀ σ1 H1 T, S σ1 → Same H H1 → H1 T = none → ∀ R : St → V → Hp → Prop, (∀ σ2 H3, S σ2 → Same (upd H1 T (.tup [x, y])) H3 → R σ2 (fe i) H3) → g (.ref T) σ1 (upd H1 T (.tup [x, y])) fun σ2 H2 => te σ2 H2 fun z H3 => R σ2 z H3)
    (hq : ∀ H' : Hp, Same H H' → H' D = some (.lst ((List.range (min xs.length ys.length)).map fe)) → Q (.ref D) H') :
    CompGo (Itz K a b xs ys) g tYes te Q σ0 H D := by
  refine ⟨fun i m σ1 H2 => i ≤ min xs.length ys.length ∧ m = min xs.length ys.length - i ∧ S σ1 ∧ Same H H2 ∧ H2 D = some (.lst ((List.range i).map fe)), ⟨min xs.length ys.length, Nat.zero_le _, rfl, h0, same_new hD, upd_same⟩, ?_⟩
  rintro i m σ1 H2 ⟨h1, rfl, h2, hs, hDv⟩
  have q1 := hs.seq hl1
  have q2 := hs.seq hl2
  rcases Nat.lt_or_ge i (min xs.length ys.length) with z | z
  · refine .inr ⟨⟨q1, q2, z⟩, ?_⟩
    rintro x H3 ⟨T, u, v, hT, hu, hv, rfl, rfl⟩
    refine ht i u v hu hv σ1 H2 T h2 hs hT (fun σ2 y H6 => ∃ zs m', H6 D = some (.lst zs) ∧ zs.length < sizeLine ∧ m' < min xs.length ys.length - i ∧ (i + 1 ≤ min xs.length ys.length ∧ m' = min xs.length ys.length - (i + 1) ∧ S σ2 ∧ Same H (upd H6 D (.lst (zs ++ [y]))) ∧ upd H6 D (.lst (zs ++ [y])) D = some (.lst ((List.range (i + 1)).map fe)))) fun σ2 H6 q3 hs6 => ?_
    have nDT : D ≠ T := fun e => by rw [e, hT] at hDv; cases hDv
    refine ⟨(List.range i).map fe, min xs.length ys.length - (i + 1), hs6 _ _ (by rw [upd_ne nDT]; exact hDv), ?_, by omega, by omega, rfl, q3, ?_, ?_⟩
    · rw [List.length_map, List.length_range]
      exact Nat.lt_of_lt_of_le (show i < 100000 by omega) (by decide)
    · intro c o e
      rw [upd_ne (ne_of_none e hD)]
      refine hs6 c o ?_
      rw [upd_ne (fun e' => by rw [e', hs.free hT] at e; cases e)]
      exact hs c o e
    · rw [upd_same, List.range_succ, List.map_append]; rfl
  · have e : i = min xs.length ys.length := by omega
    subst e
    exact .inl ⟨⟨q1, q2, Nat.le_refl _⟩, hq H2 hs hDv⟩
end L2
namespace L2
open PySem PySem.W PySem.Spec PyProof.Rows
section
variable {X : Cx} {pos : Pos}
end
end L2

end

section
namespace KM
open PySem L2
/-! ### pages -/
def ent (a r : List Bool) : List Bool := cnt (com a r) ++ cnt (r.length - com a r) ++ r.drop (com a r)
def ents : List Bool → List (List Bool) → List Bool
  | _, [] => []
  | a, r :: rs => ent a r ++ ents r rs
def page (rs : List (List Bool)) : List Bool := cnt rs.length ++ ents [] rs
end KM
namespace KM
open PySem L2
end KM
namespace KM
open PySem L2
end KM

end

section
namespace L2
open PySem PySem.W PySem.Spec PyProof.Rows
/-! ### lists of texts, == and != -/
section
variable {X : Cx}
end
/-! ### a try whose body raises nothing -/
theorem ps_tryQ {X : Cx} {body : List Stmt} {h0 : ExceptHandler} {hs : List ExceptHandler} {tpos : Pos} {tb : TS} (hb : ∀ pn, PSs (X.tryC pn fun _ _ _ _ => False) body tb) : PS X (.Try body (h0 :: hs) [] [] tpos) tb := by
  intro pins s σ H Dn I h1
  have ok := I.ok
  refine wpAny_Try_except (wpAny_mono (hb (X.pn ++ pins) [] s σ H Dn (I.ins.wish _) h1) (fun f s1 z => ?_) (fun e s1 z => ?_))
  · cases f with
    | next =>
      obtain ⟨σ', H', I', q⟩ := z
      exact pss_nil (X := X) pins s1 σ' H' Dn (Inv.outs (Y := X) ok (Inv.unwish (X := { X with pn := X.pn ++ pins }) I')) q
    | brk => obtain ⟨σ', H', I', q⟩ := z; exact ⟨σ', H', Inv.outs (Y := X) ok (Inv.unwish (X := { X with pn := X.pn ++ pins }) I'), q⟩
    | cont => obtain ⟨σ', H', I', q⟩ := z; exact ⟨σ', H', Inv.outs (Y := X) ok (Inv.unwish (X := { X with pn := X.pn ++ pins }) I'), q⟩
    | ret u => obtain ⟨v, σ', H', I', r, q⟩ := z; exact ⟨v, σ', H', Inv.outs (Y := X) ok (Inv.unwish (X := { X with pn := X.pn ++ pins }) I'), r, q⟩
  obtain ⟨a, C, d, T, σ', H1, H', s0, rfl, I1, I2, fly, fa, fT, na, nT, q⟩ := z
  exact q.elim
end L2

end

section
namespace L2
open PySem PySem.W PySem.Spec PyProof.Rows
section
variable {M : Model} {A : Around} {E : Value → Shared → Prop} {s : Shared} {base : Heap} {env : Env} {outer : List Env} {L e T : Addr} {Q : Unit → Shared → Prop} {cls : Value} {d : Option Addr} {fl : Value}
end
section
variable {P : Program} {w : World} {K : PySem.W.Frag} {mg : Str → Option Value} {base : Heap} {N : List Str} {qual : Str} {scope : Scope} {f : Addr} {cdv : Value} {A : Around} {outer : List Env} {s : Shared} {H : Hp} {E : XK}
end
end L2

end

section
namespace L2
open PySem PySem.W PySem.Spec PyProof.Rows
section
variable {X : Cx}
/-! ### tuples of a number and a truth, == -/
end
end L2

namespace L2
open PySem PySem.W PySem.Spec PyProof.Rows
/-- a comprehension over a range, of whose values only a property is told -/
theorem comp_rangeP {lo : Int} {n : Nat} {g : TG} {te : TE} {Q : VK} {H : Hp} {D : Addr} {σ0 : St} (Pv : V → Prop) (S : St → Prop) (hn : n ≤ 100000) (h0 : S σ0) (hD : H D = none)
    (ht : ∀ i : Nat, i < n → ∀ σ1 H1, S σ1 → Same H H1 → ∀ R : St → V → Hp → Prop, (∀ σ2 H3 y, S σ2 → Same H1 H3 → Pv y → R σ2 y H3) → g (.int (lo + (i : Int))) σ1 H1 fun σ2 H2 => te σ2 H2 fun z H3 => R σ2 z H3)
    (hq : ∀ (ys : List V) (H' : Hp), ys.length = n → (∀ y ∈ ys, Pv y) → Same H H' → H' D = some (.lst ys) → Q (.ref D) H') :
    CompGo (Itr lo n) g tYes te Q σ0 H D := by
  refine ⟨fun i m σ1 H2 => i ≤ n ∧ m = n - i ∧ S σ1 ∧ Same H H2 ∧ ∃ ys : List V, ys.length = i ∧ (∀ y ∈ ys, Pv y) ∧ H2 D = some (.lst ys), ⟨n, Nat.zero_le _, rfl, h0, same_new hD, [], rfl, (fun y hy => nomatch hy), upd_same⟩, ?_⟩
  rintro i m σ1 H2 ⟨h1, rfl, h2, hs, ys, hl, hp, hDv⟩
  rcases Nat.lt_or_ge i n with z | z
  · refine .inr ⟨z, ?_⟩
    rintro x H3 ⟨rfl, rfl⟩
    refine ht i z σ1 _ h2 hs (fun σ2 y H6 => ∃ zs m', H6 D = some (.lst zs) ∧ zs.length < sizeLine ∧ m' < n - i ∧ (i + 1 ≤ n ∧ m' = n - (i + 1) ∧ S σ2 ∧ Same H (upd H6 D (.lst (zs ++ [y]))) ∧ ∃ ys : List V, ys.length = i + 1 ∧ (∀ y ∈ ys, Pv y) ∧ upd H6 D (.lst (zs ++ [y])) D = some (.lst ys))) fun σ2 H6 y q3 hs6 hy => ?_
    refine ⟨ys, n - (i + 1), hs6 _ _ hDv, ?_, by omega, by omega, rfl, q3, ?_, ys ++ [y], by rw [List.length_append, hl]; rfl, ?_, upd_same⟩
    · rw [hl]; exact Nat.lt_of_lt_of_le (show i < 100000 by omega) (by decide)
    · intro c o e
      rw [upd_ne (ne_of_none e hD)]
      exact hs6 c o (hs c o e)
    · intro u hu
      rcases List.mem_append.mp hu with w | w
      · exact hp u w
      · rw [List.mem_singleton.mp w]; exact hy
  · have e : i = n := by omega
    subst e
    exact .inl ⟨Nat.le_refl _, hq ys H2 hl hp hs hDv⟩
end L2

end

section
namespace L2
open PySem PySem.W PySem.Spec PyProof.Rows
end L2

end

section
namespace KM
open PySem L2
/-! ### rows that ascend, by their order alone -/
end KM
namespace L2
open PySem PySem.W PySem.Spec PyProof.Rows
section
variable {X : Cx}
/-! ### sorted(rows) -/
/-! ### tuples of a word and a row or None, == -/
inductive RowN : V → PyData → Prop
  | non : RowN .non .none
  | row (l : List Bool) : RowN (.str (KM.rowS l)) (.str (KM.rowS l))
end
end L2

end

section
namespace L2
open PySem PySem.W PySem.Spec PyProof.Rows
section
variable {prog : Program} {w : World} {A : Around} {E : Value → Shared → Prop} {s : Shared}
end
section
variable {prog : Program} {w : World} {A : Around} {E : Value → Shared → Prop} {s : Shared} {env : Env}
variable {nm q : Str} {C N a : Addr} {bs bm bmB : List Value} {hdct : Bool} {sn : List Str} {sub : List Value} {ab : Bool} {col : Option Bool} {dd : Option Addr} {k0 k1 k2 k3 k5 : Option Value} {B Bn newId nid initId inN : String} {bmN : List Value} {K : Frag}
end
section
variable {X : Cx}
end
end L2

end

section
namespace KM
open PySem L2
/-! ### any signs read as a page -/
def padL (l : List Bool) : List Bool := l ++ List.replicate 3000 false
open Classical in
/-- the count that stands at i, the signs behind the end being 0 -/
noncomputable def cnv (l : List Bool) (i : Nat) : Nat := if h : ∃ n, n + 1 < 2 ^ 255 ∧ cnt n <+: (padL l).drop i then h.choose else 0
/-- an entry behind la, s signs of which it shares, its m others at i; fst: it is the first -/
def entAt (l la : List Bool) (fst : Bool) (s m i : Nat) : Option (List Bool × Nat) :=
  if i + m ≤ l.length ∧ s ≤ la.length ∧ com la (la.take s ++ (l.drop i).take m) = s ∧ (fst = true ∨ Lt la (la.take s ++ (l.drop i).take m)) then some (la.take s ++ (l.drop i).take m, i + m) else none
noncomputable def entR (l la : List Bool) (fst : Bool) (i : Nat) : Option (List Bool × Nat) :=
  entAt l la fst (cnv l i) (cnv l (i + (cnt (cnv l i)).length)) (i + (cnt (cnv l i)).length + (cnt (cnv l (i + (cnt (cnv l i)).length))).length)
theorem entAt_some {l la r : List Bool} {fst : Bool} {s m i j : Nat} (h : entAt l la fst s m i = some (r, j)) : i + m ≤ l.length ∧ s ≤ la.length ∧ j = i + m ∧ r.length ≤ la.length + m := by
  unfold entAt at h
  split at h
  · rename_i c
    cases h
    refine ⟨c.1, c.2.1, rfl, ?_⟩
    rw [List.length_append, List.length_take, List.length_take]
    omega
  · cases h
theorem cnt_pos1 (n : Nat) : 1 ≤ (cnt n).length := by
  rw [cnt_len]
  by_cases h : blen (blen (n + 1)) = 8
  · rw [h]; omega
  · have : (cend (blen (blen (n + 1)))).length = 1 := by unfold cend; rw [if_neg h]; rfl
    omega
theorem entR_some {l la r : List Bool} {fst : Bool} {i j : Nat} (h : entR l la fst i = some (r, j)) : i + 2 ≤ j ∧ j ≤ l.length ∧ r.length + i ≤ la.length + j := by
  unfold entR at h
  obtain ⟨a, b, c, d⟩ := entAt_some h
  have e1 := cnt_pos1 (cnv l i)
  have e2 := cnt_pos1 (cnv l (i + (cnt (cnv l i)).length))
  omega
noncomputable def goR (l : List Bool) : Nat → List (List Bool) → Nat → Option (List (List Bool))
  | 0, rs, i => if i = l.length then some rs else none
  | k + 1, rs, i => match entR l (rs.getLastD []) rs.isEmpty i with
    | none => none
    | some (r, j) => goR l k (rs ++ [r]) j
noncomputable def rowsR (l : List Bool) : Option (List (List Bool)) := if (cnt (cnv l 0)).length ≤ l.length then goR l (cnv l 0) [] (cnt (cnv l 0)).length else none
/-- how a page's reading stands: rs read, the next entry at i -/
structure RdAt (l : List Bool) (out : Option (List (List Bool))) (rs : List (List Bool)) (i : Nat) : Prop where
  le : rs.length ≤ cnv l 0
  at_ : i ≤ l.length
  few : rs.length ≤ i
  sm : ∀ x ∈ rs, x.length ≤ i
  go : goR l (cnv l 0 - rs.length) rs i = out
theorem RdAt.start {l : List Bool} {out : Option (List (List Bool))} (h : rowsR l = out) (hf : (cnt (cnv l 0)).length ≤ l.length) : RdAt l out [] (cnt (cnv l 0)).length := by
  unfold rowsR at h
  rw [if_pos hf] at h
  exact ⟨Nat.zero_le _, hf, Nat.zero_le _, fun x hx => (by cases hx), h⟩
theorem RdAt.step {l r : List Bool} {out : Option (List (List Bool))} {rs : List (List Bool)} {i j : Nat} (h : RdAt l out rs i) (hl : rs.length < cnv l 0) (he : entR l (rs.getLastD []) rs.isEmpty i = some (r, j)) : RdAt l out (rs ++ [r]) j := by
  obtain ⟨a, b, c⟩ := entR_some he
  have hg := h.go
  rw [show cnv l 0 - rs.length = (cnv l 0 - (rs.length + 1)) + 1 by omega] at hg
  unfold goR at hg
  rw [he] at hg
  have hla : (rs.getLastD []).length ≤ i := by
    cases rs with
    | nil => exact Nat.zero_le _
    | cons x y => exact h.sm _ (by rw [List.getLastD_cons]; exact List.getLastD_mem_cons ..)
  have f := h.few
  refine ⟨by rw [List.length_append, List.length_singleton]; omega, b, by rw [List.length_append, List.length_singleton]; omega, fun x hx => ?_, by rw [List.length_append, List.length_singleton]; exact hg⟩
  rcases List.mem_append.mp hx with z | z
  · have := h.sm x z; omega
  · rw [List.mem_singleton.mp z]; omega
theorem RdAt.stop {l : List Bool} {out : Option (List (List Bool))} {rs : List (List Bool)} {i : Nat} (h : RdAt l out rs i) (hl : rs.length < cnv l 0) (he : entR l (rs.getLastD []) rs.isEmpty i = none) : out = none := by
  have hg := h.go
  rw [show cnv l 0 - rs.length = (cnv l 0 - (rs.length + 1)) + 1 by omega] at hg
  unfold goR at hg
  rw [he] at hg
  exact hg.symm
theorem RdAt.last {l : List Bool} {out : Option (List (List Bool))} {rs : List (List Bool)} {i : Nat} (h : RdAt l out rs i) (hl : ¬ rs.length < cnv l 0) : out = if i = l.length then some rs else none := by
  have hg := h.go
  rw [show cnv l 0 - rs.length = 0 by omega] at hg
  exact hg.symm
end KM

end

section
namespace L2
open PySem PySem.W PySem.Spec PyProof.Rows
/-! ### xs[::-1] -/
section
variable {X : Cx} {e : Expr} {te : TE} {p2 pos : Pos}
end
end L2

end

section
namespace KM
open PySem
/-! ### 5 x + 1 goes through all slots of a table -/
/-! ### a free slot is met -/
/-! ### the table laid anew -/
theorem none_of {α : Type} : ∀ (l : List (Option α)), (l.filterMap id).length < l.length → ∃ t, t < l.length ∧ l[t]? = some none
  | [], h => by cases h
  | none :: r, h => ⟨0, Nat.succ_pos _, rfl⟩
  | some x :: r, h => by
    obtain ⟨t, ht, e⟩ := none_of r (by simpa using h)
    exact ⟨t + 1, Nat.succ_lt_succ ht, e⟩
end KM

end

section
namespace L2
open PySem PySem.Spec
/-! ### sets of texts, as they lie -/
abbrev setO (es : Array (Int × Value)) (ep : Nat) (t : SetTable) : Obj := { cls := .type "set", dict := none, data := .set es ep t }
structure SetIn (w : World) (es : Array (Int × Value)) (t : SetTable) (ks : List Str) : Prop where
  fit : t.fits es.size = true
  led : w.params.followText "set-order" = false → t.led = true
  pl : es.size ≠ 0 → t.plain = false
  els : ∀ e ∈ es.toList, ∃ k u, e = (hashStr w k, Value.str k u)
  keys : (es.toList.map fun e => PyProof.Rows.strOf e.2).Perm ks
def SetT (w : World) (h : Heap) (a : Addr) (ks : List Str) : Prop := ∃ es ep t, h.get? a = some (setO es ep t) ∧ SetIn w es t ks
section
variable {w : World} {es es' : Array (Int × Value)} {t t' : SetTable} {ks : List Str}
theorem SetIn.size (h : SetIn w es t ks) : es.size = ks.length := by
  have z := h.keys.length_eq
  rwa [List.length_map, Array.length_toList] at z
theorem SetIn.mem (prog : Program) (h : SetIn w es t ks) (k : Str) : (∃ e ∈ es.toList, (PySem.strKind prog w).is k e.2 = true) ↔ k ∈ ks := by
  rw [← h.keys.mem_iff, List.mem_map]
  constructor
  · rintro ⟨e, he, hp⟩
    obtain ⟨k', u, rfl⟩ := h.els e he
    obtain ⟨v, hv⟩ := Value.isStrOf_shape (x := k) (v := Value.str k' u) hp
    injection hv with hv
    exact ⟨_, he, hv⟩
  · rintro ⟨e, he, rfl⟩
    obtain ⟨k', u, rfl⟩ := h.els e he
    exact ⟨_, he, by simp [PySem.strKind, Value.isStrOf, PyProof.Rows.strOf]⟩
theorem SetIn.move (h : SetIn w es t ks) (hp : es'.toList.Perm es.toList) (hf : t'.fits es'.size = true) (hl : t.led = true → t'.led = true) (hpl : es'.size ≠ 0 → t'.plain = false) : SetIn w es' t' ks :=
  ⟨hf, fun z => hl (h.led z), hpl, fun e he => h.els e (hp.mem_iff.mp he), (hp.map _).trans h.keys⟩
theorem SetIn.fresh : SetIn w #[] (.fresh 0 0 (!w.params.followText "set-order")) [] :=
  ⟨rfl, fun z => by show (!w.params.followText "set-order") = true; rw [z]; rfl, fun z => absurd rfl z, fun e he => (by cases he), .refl _⟩
theorem SetT.keep {h h' : Heap} {a : Addr} (t : SetT w h a ks) (k : ∀ o, h.get? a = some o → h'.get? a = some o) : SetT w h' a ks := by
  obtain ⟨es, ep, tb, ho, hi⟩ := t
  exact ⟨es, ep, tb, k _ ho, hi⟩
/-! ### flags of a table laid anew -/
end
section
variable {prog : Program} {w : World} {A : Around} {E : Value → Shared → Prop} {s : Shared} {a : Addr} {es : Array (Int × Value)} {ep : Nat} {t : SetTable} {ks : List Str}
set_option maxHeartbeats 1000000 in
/-! ### a table laid anew, and the merging of two -/
set_option maxHeartbeats 1000000 in
/-! ### the order of a walk -/
/-! ### a merge into an empty set, and into one that is not -/
set_option maxHeartbeats 1000000 in
set_option maxHeartbeats 1000000 in
end
end L2

end

section
namespace L2
open PySem PySem.Spec
section
variable {prog : Program} {w : World} {A : Around} {E : Value → Shared → Prop} {s : Shared} {a : Addr} {es : Array (Int × Value)} {ep : Nat} {t : SetTable} {ks : List Str}
set_option maxHeartbeats 1000000 in
set_option maxHeartbeats 1000000 in
/-! ### a | b -/
theorem SetT.ty {h : Heap} {g : Array GenState} {d : Drawn} {k : Nat} {os : OsState} (hT : SetT w h a ks) : (⟨h, g, d, k, os⟩ : Shared).TypeIs (.ref a) "set" := by
  obtain ⟨es, ep, t, ho, _⟩ := hT
  exact ⟨_, ho, rfl⟩
set_option maxHeartbeats 1000000 in
/-! ### what is in the union -/
end
end L2

end

section
namespace L2
open PySem PySem.Spec
/-! ### set(a list of texts) -/
section
variable {prog : Program} {w : World} {A : Around} {R : Result → Shared → Prop} {I : Addr} {fp wr : List Addr} {G : Array GenState → Array GenState → Prop} {n : Nat} {Pv : Nat → Value → Prop} {St : Nat → Shared → Prop}
end
section
variable {prog : Program} {w : World} {A : Around} {E : Value → Shared → Prop} {s : Shared}
set_option maxHeartbeats 3200000 in
set_option maxHeartbeats 3200000 in
end
end L2

end

section
namespace L2
open PySem PySem.Spec
/-! ### a walk through a set of texts -/
section
variable {prog : Program} {w : World} {A : Around} {E : Value → Shared → Prop} {s : Shared} {a I : Addr} {es : Array (Int × Value)} {ep : Nat} {t : SetTable} {ks : List Str}
set_option maxHeartbeats 1000000 in
set_option maxHeartbeats 1000000 in
end
end L2

end

section
namespace L2
open PySem PySem.Spec
section
variable {prog : Program} {w : World} {A : Around} {E : Value → Shared → Prop} {s : Shared} {a I p : Addr} {es : Array (Int × Value)} {ep : Nat} {t : SetTable} {ks : List Str}
set_option maxHeartbeats 1000000 in
set_option maxHeartbeats 1000000 in
/-! ### what comes next -/
end
end L2

end

section
namespace L2
open PySem PySem.Spec
section
variable {prog : Program} {w : World} {A : Around} {E : Value → Shared → Prop} {s : Shared} {a I p : Addr} {es : Array (Int × Value)} {ep : Nat} {t : SetTable} {ks : List Str}
set_option maxHeartbeats 1000000 in
end
end L2

end

section
namespace L2
open PySem PySem.Spec PyProof.Rows
section
variable {prog : Program} {w : World} {A : Around} {E : Value → Shared → Prop} {s : Shared} {a : Addr} {es : Array (Int × Value)} {ep : Nat} {t : SetTable} {ks : List Str}
set_option maxHeartbeats 1000000 in
/-! ### sorted(a set of texts) -/
set_option maxHeartbeats 1000000 in
end
end L2

end

section
namespace L2
open PySem PySem.W PySem.Spec PyProof.Rows
section
variable {X : Cx} {pos p p2 p3 q q2 q3 : Pos} {e1 e2 : Expr} {te1 te2 : TE}
set_option maxHeartbeats 1000000 in
end
/-- a comprehension over a range with an if -/
theorem comp_rangeF {lo : Int} {n : Nat} {g : TG} {tc : TT} {te : TE} {Q : VK} {H : Hp} {D : Addr} {σ0 : St} (keep : Nat → Bool) (f : Nat → V) (S : St → Prop) (hn : n ≤ 100000) (h0 : S σ0) (hD : H D = none)
    (ht : ∀ i : Nat, i < n → ∀ σ1 H1, S σ1 → Same H H1 → ∀ (R : St → V → Hp → Prop) (R' : St → Hp → Prop), (∀ σ2, S σ2 → if keep i = true then R σ2 (f i) H1 else R' σ2 H1) → g (.int (lo + (i : Int))) σ1 H1 fun σ2 H2 => tc σ2 H2 fun b H3 => if b = true then te σ2 H3 fun y H4 => R σ2 y H4 else R' σ2 H3)
    (hq : Q (.ref D) (upd H D (.lst (((List.range n).filter keep).map f)))) :
    CompGo (Itr lo n) g tc te Q σ0 H D := by
  refine ⟨fun i m σ1 H2 => i ≤ n ∧ m = n - i ∧ S σ1 ∧ H2 = upd H D (.lst (((List.range i).filter keep).map f)), ⟨n, Nat.zero_le _, rfl, h0, rfl⟩, ?_⟩
  rintro i m σ1 H2 ⟨h1, rfl, h2, rfl⟩
  rcases Nat.lt_or_ge i n with z | z
  · refine .inr ⟨z, ?_⟩
    rintro x H3 ⟨rfl, rfl⟩
    refine ht i z σ1 _ h2 (same_new hD) (fun σ2 y H6 => ∃ ys m', H6 D = some (.lst ys) ∧ ys.length < sizeLine ∧ m' < n - i ∧ (i + 1 ≤ n ∧ m' = n - (i + 1) ∧ S σ2 ∧ upd H6 D (.lst (ys ++ [y])) = upd H D (.lst (((List.range (i + 1)).filter keep).map f))))
      (fun σ2 H5 => ∃ m', m' < n - i ∧ (i + 1 ≤ n ∧ m' = n - (i + 1) ∧ S σ2 ∧ H5 = upd H D (.lst (((List.range (i + 1)).filter keep).map f)))) fun σ2 q3 => ?_
    by_cases hk : keep i = true
    · rw [if_pos hk]
      refine ⟨_, n - (i + 1), upd_same, ?_, by omega, by omega, rfl, q3, ?_⟩
      · rw [List.length_map]
        have := List.length_filter_le keep (List.range i)
        rw [List.length_range] at this
        exact Nat.lt_of_le_of_lt this (Nat.lt_of_lt_of_le (show i < 100000 by omega) (by decide))
      · rw [upd_upd', List.range_succ, List.filter_append, List.map_append, List.filter_cons_of_pos hk]; rfl
    · rw [if_neg hk]
      refine ⟨n - (i + 1), by omega, by omega, rfl, q3, ?_⟩
      rw [List.range_succ, List.filter_append, List.map_append, List.filter_cons_of_neg hk]; simp
  · have e : i = n := by omega
    subst e
    exact .inl ⟨Nat.le_refl _, hq⟩
end L2

end

section
namespace L2
open PySem PySem.W PySem.Spec PyProof.Rows
/-! ### try with two handlers without a name -/
/-! ### xs[lo:hi:step], a step ahead -/
section
variable {X : Cx} {e el eh es : Expr} {te tl th ts : TE} {p2 pos : Pos}
/-! ### sum(ints) -/
/-! ### (int, bool) != (int, bool) -/
end
end L2

end

section
namespace L2
open PySem PySem.W PySem.Spec PyProof.Rows
/-! ### C() where C has no __init__ of its own -/
structure Mk0 (K : PySem.W.Frag) (C : Addr) : Prop where
  makes : PySem.W.makesIn K C = true
  init : PySem.W.findIn K (.ref C) "__init__" = some (some (.builtin "object.__init__"))
  kp : PySem.W.keepIn K (.ref C) = true
section
variable {X : Cx} {C : Addr} {x : Str} {p pos : Pos}
theorem run_make0 {pins : List (Addr × Obj)} {σ : St} {H : Hp} {s : Shared} {Q : VK} (M : Mk0 X.K C) (I : Inv X pins σ H s) (h : ∀ x dx, H x = none → H dx = none → dx ≠ x → Q (.ref x) (upd (upd H dx (.own x)) x (.ins C dx []))) :
    wpAny (model X.prog X.w) X.A (call (.ref C) []) (EP X pins σ Q) X.xe s := by
  have hq := h (s.heap.objs.size + 1) s.heap.objs.size (I.hok.fresh (Nat.le_succ _)) (I.hok.fresh (Nat.le_refl _)) (Nat.ne_of_lt (Nat.lt_succ_self _))
  have I2 := Inv.made (C := C) I
  have Y := makes_of (M := model X.prog X.w) I.kIn M.makes
  refine wpAny_call (make_map0 I.kIn M.makes M.init (fun self => Looks.of_pure (oi_bind self)) ?_)
  have e2 : ((s.heap.push PySem.W.emptyDict).push (PySem.W.instObj C s.heap.objs.size)).get? (s.heap.objs.size + 1) = some (PySem.W.instObj C s.heap.objs.size) := by
    have := Heap.get?_push_size (s.heap.push PySem.W.emptyDict) (o := PySem.W.instObj C s.heap.objs.size) rfl
    rwa [Heap.size_push] at this
  have t1 : Looks (model X.prog X.w) ((s.heap.push PySem.W.emptyDict).push (PySem.W.instObj C s.heap.objs.size)) (typeOf (.ref (s.heap.objs.size + 1))) (.ref C) := (Looks.ld e2).andThen .now
  have t2 : Looks (model X.prog X.w) ((s.heap.push PySem.W.emptyDict).push (PySem.W.instObj C s.heap.objs.size)) (isInstance (.ref (s.heap.objs.size + 1)) (.type "object")) true := t1.andThen (Y.top.keeps fun b o e => Heap.get?_push_of_some _ (Heap.get?_push_of_some _ e))
  obtain ⟨hh, g, d, t, os⟩ := s
  refine codeAny_call_builtin oi_plain entry_oi (@check_slot (model X.prog X.w) _ _ _ "object.__init__" "object" "__init__" (.ref (hh.objs.size + 1)) [] [] _ oi_kind oi_split t2 (oi_args (.ref (hh.objs.size + 1))) ?_)
  rw [oi_run]
  exact wpAny_pure (And.intro rfl ⟨V.ref (hh.objs.size + 1), _, I2, rfl, hq⟩)
def tMake0 (C : Addr) : TE := fun _ H Q => ∀ x dx, H x = none → H dx = none → dx ≠ x → Q (.ref x) (upd (upd H dx (.own x)) x (.ins C dx []))
theorem pe_makeN0 (M : Mk0 X.K C) (hg : Gl X x) (hm : X.mg x = some (.ref C)) (hdb : (x == ("__debug__" : Str)) = false := by decide) : PE X (.Call (.Name x p) [] [] pos) (tMake0 C) := by
  intro pins s σ H Q I h
  refine wpAny_Call_Name_kw (ld_glob I hg hm ?_ hdb)
  exact PySem.W.callWith_K0 I.kIn M.kp (run_make0 M I h)
/-! ### list.remove(row) -/
theorem eqG_str (a b : Str) (t u : Tok) : MeetsSeq.EqGives (.str a t) (.str b u) (decide (a = b)) := by
  intro prog w A Q E s h
  exact wpAny_eqBool_str h
/-! ### range(a, b, c), ahead -/
end
/-! ### lists of two lists of texts, == -/
section
variable {X : Cx}
end
end L2

end

section
namespace L2
open PySem PySem.W PySem.Spec PyProof.Rows
end L2

end

section
namespace L2
open PySem PySem.Spec PyProof.Rows
/-! ### signs in texts, kinds of signs -/
end L2

end

section
namespace L2
open PySem PySem.Spec
/-! ### how many unlike texts -/
def metT (val : Nat → Str) : Nat → List Str
  | 0 => []
  | i + 1 => if val i ∈ metT val i then metT val i else metT val i ++ [val i]
theorem metT_le (val : Nat → Str) : ∀ i, (metT val i).length ≤ i
  | 0 => Nat.le_refl _
  | i + 1 => by
    have ih := metT_le val i
    unfold metT
    split
    · omega
    · rw [List.length_append, List.length_singleton]; omega
theorem metT_mem (val : Nat → Str) (i : Nat) (k : Str) : (decide (k ∈ metT val i) || decide (k = val i)) = decide (k ∈ metT val (i + 1)) := by
  conv => rhs; unfold metT
  by_cases h : val i ∈ metT val i
  · rw [if_pos h]
    by_cases e : k = val i
    · subst e; simp [h]
    · simp [e]
  · rw [if_neg h]
    by_cases e : k = val i <;> simp [e]
theorem metT_len (val : Nat → Str) (i : Nat) : (if decide (val i ∈ metT val i) = true then (metT val i).length else (metT val i).length + 1) = (metT val (i + 1)).length := by
  conv => rhs; unfold metT
  by_cases h : val i ∈ metT val i
  · rw [if_pos h, if_pos (decide_eq_true h)]
  · rw [if_neg h, if_neg (by simpa using h), List.length_append]; rfl
section
variable {prog : Program} {w : World} {A : Around} {R : Result → Shared → Prop} {I : Addr} {fp wr : List Addr} {G : Array GenState → Array GenState → Prop} {n : Nat} {Pv : Nat → Value → Prop} {St : Nat → Shared → Prop}
abbrev TxtSet (prog : Program) (w : World) (h : Heap) (S : Addr) (val : Nat → Str) (i : Nat) : Prop := h.SetOf (PySem.strKind prog w) S (fun k => decide (k ∈ metT val i)) (metT val i).length
theorem TxtSet.keep {h h' : Heap} {S : Addr} {val : Nat → Str} {i : Nat} (t : TxtSet prog w h S val i) (k : ∀ o, h.get? S = some o → h'.get? S = some o) : TxtSet prog w h' S val i := by
  obtain ⟨o, es, ep, tb, ho, rest⟩ := t
  exact ⟨o, es, ep, tb, k o ho, rest⟩
theorem set_loopT (W : WalksS prog w A.in1 I fp wr G n Pv St) (S : Addr) (hSf : S ∉ fp) (val : Nat → Str) (hval : ∀ i v, Pv i v → ∃ t, v = .str (val i) t) (hb : n + 1 < scanBound) :
    ∀ (m i : Nat) (s : Shared), n - i = m → i ≤ n → St i s → TxtSet prog w s.heap S val i → (∀ s', Moved (S :: wr) G s s' → TxtSet prog w s'.heap S val n → R (.ok (.ret .none)) s') →
      codeAny (model prog w) A (.builtin "set.update.loop" ⟨[.ref S, .ref I], []⟩) R s := by
  have hSw : S ∉ wr := fun h => hSf (W.sub _ h)
  have up : ∀ b ∈ wr, b ∈ S :: wr := fun b h => List.mem_cons_of_mem _ h
  intro m
  induction m with
  | zero =>
    intro i s hm hi st hT hR
    obtain rfl : i = n := by omega
    refine codeAny_builtin PyProof.Rows.F.entry_set_update_loop ?_
    rw [Around.under_plainId PyProof.Rows.F.plain_set_update_loop _]
    refine wpAny_bind (m := pyNext (.ref I)) (W.done s _ _ st fun s' mv => ?_)
    exact wpAny_pure (hR s' (mv.mono up) (hT.keep fun o e => mv.heap S _ hSw e))
  | succ m ih =>
    intro i s hm hi st hT hR
    have hlt : i < n := by omega
    refine codeAny_builtin PyProof.Rows.F.entry_set_update_loop ?_
    rw [Around.under_plainId PyProof.Rows.F.plain_set_update_loop _]
    refine wpAny_bind (m := pyNext (.ref I)) (W.item i s _ _ hlt st fun v s' hP st' mv => ?_)
    obtain ⟨t, rfl⟩ := hval i v hP
    have hT' : TxtSet prog w s'.heap S val i := hT.keep fun o e => mv.heap S _ hSw e
    have his : (PySem.strKind prog w).is (val i) (.str (val i) t) = true := by simp [PySem.strKind, Value.isStrOf]
    refine wpAny_bind (m := holding [Value.str (val i) t] (setAdd S (.str (val i) t))) (wpAny_holding ?_)
    unfold setAdd
    refine wpAny_holding (wpAny_bind ((PySem.strKind prog w).pyHash (k := val i) his ?_))
    have room : (metT val i).length + 1 < scanBound := by have := metT_le val i; omega
    refine wpAny_setAddHashed_of (knd := PySem.strKind prog w) (s := { s' with toks := s'.toks + 1 }) his rfl hT' room fun h' sb hS2 => ?_
    have hT2 : TxtSet prog w h' S val (i + 1) := PyProof.Rows.SetOf_congr hS2 (fun k => metT_mem val i k) (metT_len val i)
    refine wpAny_pure ⟨plainId_quiet PyProof.Rows.F.plain_set_update_loop _, ih (i + 1) _ (by omega) hlt (W.frame _ s' _ _ st' (Nat.le_succ _) fun b hbf o e => ?_) hT2 fun s'' mv' hT3 => ?_⟩
    · rw [sb.2 b fun z : b = S => hSf (z ▸ hbf)]; exact e
    · refine hR s'' (Moved.trans W.gtrans ((mv.mono up).then_heap (Nat.le_succ _) fun b o hbn e => ?_) mv') hT3
      rw [sb.2 b fun z : b = S => hbn (by rw [z]; exact List.mem_cons_self)]; exact e
end
end L2

end

section
namespace L2
open PySem PySem.Spec
section
variable {prog : Program} {w : World} {A : Around} {E : Value → Shared → Prop} {s : Shared}
/-- the set as it is made -/
abbrev noSet (led : Bool) : Obj := { cls := .type "set", dict := none, data := .set #[] 0 (.fresh 0 0 led) }
abbrev setDone (prog : Program) (w : World) (s : Shared) (val : Nat → Str) (n : Nat) (r : Value) (s₂ : Shared) : Prop := r = .none ∧ ∃ h' tk, s₂ = { s with heap := h', toks := tk } ∧ TxtSet prog w h' s.heap.objs.size val n ∧ ∀ b o, b < s.heap.objs.size → s.heap.get? b = some o → h'.get? b = some o
def InitDone (prog : Program) (w : World) (A : Around) (E : Value → Shared → Prop) (s : Shared) (x : Value) (val : Nat → Str) (n : Nat) (led : Bool) : Prop :=
  wpAny (model prog w) A.in1.in1 (Builtin.«set.__init__» ⟨[.ref s.heap.objs.size, x], []⟩) (fun fin s' => match fin with
      | Fin.done f => wants (setDone prog w s val n) E (Except.ok f) s'
      | Fin.again c' => c'.quiet = true ∧ codeAny (model prog w) A.in1 c' (wants (setDone prog w s val n) E) s')
    (fun e s' => wants (setDone prog w s val n) E (Except.error e) s') { s with heap := s.heap.push (noSet led) }
set_option maxHeartbeats 3200000 in
/-- set(x), once its own init has been seen -/
theorem call_set_by {x : Value} {val : Nat → Str} {n : Nat} {Q : Value → Shared → Prop}
    (hin : ∀ led : Bool, InitDone prog w A E s x val n led)
    (h : ∀ h' tk, TxtSet prog w h' s.heap.objs.size val n → (∀ b o, b < s.heap.objs.size → s.heap.get? b = some o → h'.get? b = some o) → Q (.ref s.heap.objs.size) { s with heap := h', toks := tk }) :
    wpAny (model prog w) A (call (.type "set") [x]) Q E s := by
  obtain ⟨c, tl, hmro⟩ := F.called_set.mro
  have hmade := F.called_set.made
  have hsub := F.called_set.sub
  refine wpAny_call (codeAny_of_tree ?_)
  show wpAny _ _ (callAny (.type "set") _) _ _ _
  refine wpAny_pure ⟨Code.quiet_builtin _ (by decide +kernel), codeAny_builtin F.entry_type_call ?_⟩
  rw [Around.under_plain (weight_type_call_type "set" [x] []) rfl]
  have h1 := F.called_set.notType
  have h2 := F.called_set.canCreate
  have hct := F.typeCall_set_1 x
  repeat (any_goals (first | assumption | wp_step))
  refine codeAny_mono (PySem.code_set_new_1 x (E := E) (Q₁ := fun obj s₁ => ∃ led : Bool, obj = .ref s.heap.objs.size ∧ s₁ = { s with heap := s.heap.push (noSet led) }) fun led => ⟨led, rfl, rfl⟩) fun r s₁ hr => ?_
  cases r with
  | error e => exact hr
  | ok fl =>
    cases fl with
    | ret obj =>
      obtain ⟨led, rfl, rfl⟩ := hr
      have hS : (s.heap.push (noSet led)).get? s.heap.objs.size = some (noSet led) := Heap.get?_push_size _ rfl
      have hT : Shared.TypeIs { s with heap := s.heap.push (noSet led) } (.ref s.heap.objs.size) "set" := ⟨_, hS, rfl⟩
      have hli := F.called_set.init.lookup
      have hbi := F.called_set.init.bind (.ref s.heap.objs.size)
      repeat (any_goals (first | assumption | wp_step))
      refine codeAny_mono (codeAny_call_builtin (R := wants (setDone prog w s val n) E) F.called_set.init.plain F.entry_set_init (PySem.check_set_init_1 hT ?_)) fun r₂ s₂ hr₂ => ?_
      · exact hin led
      · cases r₂ with
        | error e => exact hr₂
        | ok fl₂ =>
          cases fl₂ with
          | ret r =>
            obtain ⟨rfl, h', tk, rfl, hS', hk'⟩ := hr₂
            repeat (any_goals (first | assumption | wp_step))
            exact h _ _ hS' hk'
          | _ => exact hr₂.elim
    | _ => exact hr.elim
set_option maxHeartbeats 3200000 in
theorem init_list {l : Addr} {items : Array Value} {val : Nat → Str} (hh : A.handled = none) (hl : s.heap.IsList l items) (hv : ∀ (i : Nat) (v : Value), items[i]? = some v → ∃ t, v = .str (val i) t) (hb : items.size + 1 < scanBound) (led : Bool) : InitDone prog w A E s (.ref l) val items.size led := by
  unfold InitDone
  obtain ⟨ol, hol, hcl, nl, hdl⟩ := hl
  obtain ⟨ocls, odict, odata, oslots⟩ := ol
  simp only at hcl hdl
  subst hcl; subst hdl
  have hS : (s.heap.push (noSet led)).get? s.heap.objs.size = some (noSet led) := Heap.get?_push_size _ rfl
  have hol' : (s.heap.push (noSet led)).get? l = some { cls := .type "list", dict := odict, data := .seq items nl, slots := oslots } := Heap.get?_push_of_some _ hol
  have hsls := F.sub_list_set
  have hslf := F.sub_list_frozenset
  have hne : (Value.type "list" == Value.type "dict") = false := by decide
  have hl1 : (s.heap.push (noSet led)).IsList l items := ⟨_, hol', rfl, nl, rfl⟩
  unfold Builtin.«set.__init__» noKeywords Builtin.Frozenset.updateFrom
  generalize hPI : pyIter = PI
  wp_walk
  subst hPI
  refine wpAny_pyIter_list hl1 ?_
  refine wpAny_bind (wpAny_runValue ?_)
  have hlS : l < s.heap.objs.size := Heap.lt_size hol
  have hh3 : A.in1.in1.in1.handled = none := by simp [hh]
  have hsz : (s.heap.push (noSet led)).objs.size = s.heap.objs.size + 1 := Heap.size_push ..
  have hne2 : l ≠ (s.heap.push (noSet led)).objs.size := by rw [hsz]; exact Nat.ne_of_lt (Nat.lt_succ_of_lt hlS)
  have hSf : s.heap.objs.size ∉ [(s.heap.push (noSet led)).objs.size, l] := fun z => by
    rw [hsz] at z
    rcases List.mem_cons.mp z with y | y
    · exact absurd y (Nat.ne_of_lt (Nat.lt_succ_self _))
    · exact absurd (List.mem_singleton.mp y) (Nat.ne_of_gt hlS)
  refine set_loopT ((Walks.list hh3 _ l hne2 items).toS) s.heap.objs.size hSf val hv hb items.size 0 _ (by omega) (Nat.zero_le _) ⟨⟨_, Heap.get?_push_size _ rfl, rfl, rfl⟩, hl1.push _⟩ ?_ ?_
  · exact PyProof.Rows.SetOf_congr ((PyProof.Rows.setObjOf_fresh (knd := PySem.strKind prog w) led).setOf (Heap.get?_push_of_some _ hS) (by unfold scanBound; omega)) (fun _ => rfl) rfl
  · intro s' hm hS'
    obtain ⟨h', g', d', tk', os'⟩ := s'
    have eg : g' = s.gens := hm.gens
    have ed : d' = s.drawn := hm.drawn
    have eo : os' = s.os := hm.os
    subst eg; subst ed; subst eo
    refine wpAny_pure ?_
    refine wpAny_pure (a := Fin.done (Flow.ret Value.none)) ⟨rfl, h', tk', rfl, hS', fun b o hbl e => ?_⟩
    refine hm.heap b o (fun z => ?_) (Heap.get?_push_of_some _ (Heap.get?_push_of_some _ e))
    rcases List.mem_cons.mp z with y | y
    · exact absurd y (Nat.ne_of_lt hbl)
    · rcases List.mem_cons.mp y with y | y
      · rw [hsz] at y; exact absurd y (Nat.ne_of_lt (Nat.lt_succ_of_lt hbl))
      · cases y
end
end L2

end

section
namespace L2
open PySem PySem.Spec
section
variable {prog : Program} {w : World} {A : Around} {E : Value → Shared → Prop} {s : Shared}
def signsOf (x : Str) (i : Nat) : Str := ⟨#[x.cps.getD i 0]⟩
set_option maxHeartbeats 3200000 in
theorem init_text {x : Str} {t : Tok} (hh : A.handled = none) (hb : x.cps.size + 1 < scanBound) (led : Bool) : InitDone prog w A E s (.str x t) (signsOf x) x.cps.size led := by
  unfold InitDone
  have hS : (s.heap.push (noSet led)).get? s.heap.objs.size = some (noSet led) := Heap.get?_push_size _ rfl
  have hsls := F.sub_str_set
  have hslf := F.sub_str_frozenset
  have hne : (Value.type "str" == Value.type "dict") = false := by decide
  unfold Builtin.«set.__init__» noKeywords Builtin.Frozenset.updateFrom
  generalize hPI : pyIter = PI
  wp_walk
  subst hPI
  have hsz : (s.heap.push (noSet led)).objs.size = s.heap.objs.size + 1 := Heap.size_push ..
  refine wpAny_pyIter_str (s := { s with heap := s.heap.push (noSet led) }) fun o St W st0 => ?_
  refine wpAny_bind (wpAny_runValue ?_)
  have hh3 : A.in1.in1.in1.handled = none := by simp [hh]
  have hSf : s.heap.objs.size ∉ [(s.heap.push (noSet led)).objs.size] := fun z => by
    rw [hsz] at z
    exact absurd (List.mem_singleton.mp z) (Nat.ne_of_lt (Nat.lt_succ_self _))
  refine set_loopT ((W _ hh3).toS) s.heap.objs.size hSf (signsOf x) (fun i v hv => ?_) hb x.cps.size 0 _ (by omega) (Nat.zero_le _) st0 ?_ ?_
  · obtain ⟨c, u, hc, rfl⟩ := hv
    refine ⟨u, ?_⟩
    unfold signsOf
    rw [Array.getD_eq_getD_getElem?, hc]; rfl
  · exact PyProof.Rows.SetOf_congr ((PyProof.Rows.setObjOf_fresh (knd := PySem.strKind prog w) led).setOf (Heap.get?_push_of_some _ hS) (by unfold scanBound; omega)) (fun _ => rfl) rfl
  · intro s' hm hS'
    obtain ⟨h', g', d', tk', os'⟩ := s'
    have eg : g' = s.gens := hm.gens
    have ed : d' = s.drawn := hm.drawn
    have eo : os' = s.os := hm.os
    subst eg; subst ed; subst eo
    refine wpAny_pure ?_
    refine wpAny_pure (a := Fin.done (Flow.ret Value.none)) ⟨rfl, h', tk', rfl, hS', fun b o' hbl e => ?_⟩
    refine hm.heap b o' (fun z => ?_) (Heap.get?_push_of_some _ (Heap.get?_push_of_some _ e))
    rcases List.mem_cons.mp z with y | y
    · exact absurd y (Nat.ne_of_lt hbl)
    · have y := List.mem_singleton.mp y
      rw [hsz] at y; exact absurd y (Nat.ne_of_lt (Nat.lt_succ_of_lt hbl))
theorem len_TxtSet {S : Addr} {val : Nat → Str} {i : Nat} {Q : Value → Shared → Prop} (hT : TxtSet prog w s.heap S val i) (h : Q (.int ((metT val i).length : Nat) (s.toks + 1)) { s with toks := s.toks + 1 + 1 }) : wpAny (model prog w) A (call (.builtin "len") [.ref S]) Q E s := by
  obtain ⟨o, es, ep, t, ho, hex, hd, _, _, hb, hf, hn⟩ := hT
  refine call_len_set ho hex hd hf (by unfold scanBound at hb; omega) ?_
  rw [hn]; exact h
end
section
variable {X : Cx} {pos p p2 pos2 : Pos} {e : Expr} {te : TE}
/-- a list of texts or a text, as the texts in it -/
def TextsOf (K : PySem.W.Frag) (H : Hp) (x : V) (val : Nat → Str) (n : Nat) : Prop := (∃ a, x = .ref a ∧ SqL K H a ((List.range n).map fun i => V.str (val i))) ∨ (∃ z, x = .str z ∧ n = z.cps.size ∧ val = signsOf z)
def tLenSet (K : PySem.W.Frag) (te : TE) : TE := fun σ H Q => te σ H fun x H1 => ∃ val n, TextsOf K H1 x val n ∧ n + 1 < scanBound ∧ Q (.int ((metT val n).length : Nat)) H1
theorem pe_lenset (hcm : X.calm = true) (hgl : Gl X "len") (hml : X.mg "len" = none) (hgs : Gl X "set") (hms : X.mg "set" = none) (he : PE X e te)
    (hs1 : starEach [.Call (.Name "set" p2) [e] [] pos2] X.env = [(false, eval (.Call (.Name "set" p2) [e] [] pos2) X.env)] := by rfl) (hs2 : starEach [e] X.env = [(false, eval e X.env)] := by rfl) :
    PE X (.Call (.Name "len" p) [.Call (.Name "set" p2) [e] [] pos2] [] pos) (tLenSet X.K te) := by
  intro pins s σ H Q I h
  refine wpAny_Call_Name_kw (ld_blt I hgl hml bo_len ?_ (by decide) (by decide))
  refine PyProof.Rows.callWith_builtin1 ?_ (hs1.trans rfl) rfl
  rw [hs1]
  show wpAny _ _ (spliced ((false, eval (.Call (.Name "set" p2) [e] [] pos2) X.env) :: [])) _ _ s
  refine Calls.spliced_cons (wpAny_Call_Name_kw (ld_blt I hgs hms (by decide +kernel : bootBuiltins "set" = some (.type "set")) ?_ (by decide) (by decide)))
  refine PyProof.Rows.callWith_type1 ?_ (hs2.trans rfl) rfl
  rw [hs2]
  show wpAny _ _ (spliced ((false, eval e X.env) :: [])) _ _ s
  refine Calls.spliced_cons (thn (he pins s σ H _ I h) fun u s1 ⟨x, H1, I1, r1, val, n, hx, hb, q⟩ => Calls.spliced_nil ?_)
  have fin : ∀ (h' : Heap) (tk : Nat), TxtSet X.prog X.w h' s1.heap.objs.size val n → (∀ b o, b < s1.heap.objs.size → s1.heap.get? b = some o → h'.get? b = some o) → wpAny (model X.prog X.w) X.A (spliced []) (fun vs s₁ => wpAny (model X.prog X.w) X.A (call (.builtin "len") (.ref s1.heap.objs.size :: vs)) (EP X pins σ Q) X.xe s₁) X.xe { s1 with heap := h', toks := tk } := fun h' tk hT hk => by
    refine Calls.spliced_nil (len_TxtSet (s := { s1 with heap := h', toks := tk }) hT ?_)
    exact ⟨.int _, H1, I1.kept (h' := h') (t' := tk + 1 + 1) fun b o eb => hk b o (Heap.lt_size eb) eb, ⟨_, rfl⟩, q⟩
  rcases hx with ⟨a, rfl, hq⟩ | ⟨z, rfl, rfl, rfl⟩
  · obtain rfl : u = Value.ref a := r1
    obtain ⟨its, rv, pl, hz⟩ := I1.list hq
    have hlen := rv.length
    rw [List.length_map, List.length_range] at hlen
    have hsz : its.toArray.size = n := by rw [List.size_toArray]; omega
    refine call_set_by (fun led => ?_) fin
    have hi := init_list (prog := X.prog) (w := X.w) (E := X.xe) (val := val) (I1.ok.hd hcm) pl.isList (fun i v hv => ?_) (by rw [hsz]; exact hb) led
    · rw [hsz] at hi; exact hi
    · have hv' : its[i]? = some v := by simpa using hv
      have hil : i < n := by rw [hlen]; exact (List.getElem?_eq_some_iff.mp hv').1
      obtain ⟨u, hu, ru⟩ := rv.get (i := i) (x := .str (val i)) (by rw [List.getElem?_map, List.getElem?_range hil]; rfl)
      rw [hv'] at hu; cases hu
      exact ru
  · obtain ⟨t, rfl⟩ := r1
    exact call_set_by (fun led => init_text (I1.ok.hd hcm) hb led) fin
end
end L2

end

section
namespace L2
open PySem PySem.W PySem.Spec PyProof.Rows
/-! ### C(..) that makes or refuses -/
section
variable {X : Cx} {CX : CXT} {k k1 k2 k' : Nat} {f C : Addr} {fd : FuncData} {x : Str} {ps : List Str} {sp sp1 sp2 : Sp} {e : Expr} {es : List Expr} {t : TA} {p pos : Pos} {E : St → XK}
theorem PE.or {e : Expr} {t t' : TE} (h : PE X e t) (h' : PE X e t') : PE X e (fun σ H Q => t σ H Q ∨ t' σ H Q) := fun pins s σ H Q I q => q.elim (h pins s σ H Q I) (h' pins s σ H Q I)
end
/-! ### comprehensions over a text -/
theorem comp_strF {x : Str} {g : TG} {tc : TT} {te : TE} {Q : VK} {H : Hp} {D : Addr} {σ0 : St} (keep : Nat → Bool) (f : Nat → V) (S : St → Prop) (hz : x.cps.size ≤ sizeLine) (h0 : S σ0) (hD : H D = none)
    (ht : ∀ c, c ∈ x.cps.toList → ∀ σ1 H1, S σ1 → Same H H1 → ∀ (R : St → V → Hp → Prop) (R' : St → Hp → Prop), (∀ σ2, S σ2 → if keep c = true then R σ2 (f c) H1 else R' σ2 H1) → g (.str ⟨#[c]⟩) σ1 H1 fun σ2 H2 => tc σ2 H2 fun b H3 => if b = true then te σ2 H3 fun y H4 => R σ2 y H4 else R' σ2 H3)
    (hq : Q (.ref D) (upd H D (.lst ((x.cps.toList.filter keep).map f)))) :
    CompGo (Its x) g tc te Q σ0 H D := by
  have hn : x.cps.toList.length = x.cps.size := Array.length_toList
  refine ⟨fun i m σ1 H2 => i ≤ x.cps.size ∧ m = x.cps.size - i ∧ S σ1 ∧ H2 = upd H D (.lst (((x.cps.toList.take i).filter keep).map f)), ⟨x.cps.size, Nat.zero_le _, rfl, h0, rfl⟩, ?_⟩
  rintro i m σ1 H2 ⟨h1, rfl, h2, rfl⟩
  rcases Nat.lt_or_ge i x.cps.size with z | z
  · refine .inr ⟨z, ?_⟩
    rintro y H3 ⟨rfl, c, hc, rfl⟩
    have hc' : x.cps.toList[i]? = some c := by rw [Array.getElem?_toList]; exact hc
    refine ht c (List.mem_of_getElem? hc') σ1 _ h2 (same_new hD) (fun σ2 y H6 => ∃ ys m', H6 D = some (.lst ys) ∧ ys.length < sizeLine ∧ m' < x.cps.size - i ∧ (i + 1 ≤ x.cps.size ∧ m' = x.cps.size - (i + 1) ∧ S σ2 ∧ upd H6 D (.lst (ys ++ [y])) = upd H D (.lst (((x.cps.toList.take (i + 1)).filter keep).map f))))
      (fun σ2 H5 => ∃ m', m' < x.cps.size - i ∧ (i + 1 ≤ x.cps.size ∧ m' = x.cps.size - (i + 1) ∧ S σ2 ∧ H5 = upd H D (.lst (((x.cps.toList.take (i + 1)).filter keep).map f)))) fun σ2 q3 => ?_
    have et : x.cps.toList.take (i + 1) = x.cps.toList.take i ++ [c] := by rw [List.take_add_one, hc']; rfl
    by_cases hk : keep c = true
    · rw [if_pos hk]
      refine ⟨_, x.cps.size - (i + 1), upd_same, ?_, by omega, by omega, rfl, q3, ?_⟩
      · rw [List.length_map]
        have := List.length_filter_le keep (x.cps.toList.take i)
        rw [List.length_take] at this; omega
      · rw [upd_upd', et, List.filter_append, List.map_append, List.filter_cons_of_pos hk]; rfl
    · rw [if_neg hk]
      refine ⟨x.cps.size - (i + 1), by omega, by omega, rfl, q3, ?_⟩
      rw [et, List.filter_append, List.map_append, List.filter_cons_of_neg hk]; simp
  · have e : i = x.cps.size := by omega
    subst e
    rw [List.take_of_length_le (by omega)]
    exact .inl ⟨Nat.le_refl _, hq⟩
theorem comp_str {x : Str} {g : TG} {te : TE} {Q : VK} {H : Hp} {D : Addr} {σ0 : St} (f : Nat → V) (S : St → Prop) (hz : x.cps.size ≤ sizeLine) (h0 : S σ0) (hD : H D = none)
    (ht : ∀ c, c ∈ x.cps.toList → ∀ σ1 H1, S σ1 → Same H H1 → ∀ R : St → V → Hp → Prop, (∀ σ2, S σ2 → R σ2 (f c) H1) → g (.str ⟨#[c]⟩) σ1 H1 fun σ2 H2 => te σ2 H2 fun y H4 => R σ2 y H4)
    (hq : Q (.ref D) (upd H D (.lst (x.cps.toList.map f)))) :
    CompGo (Its x) g tYes te Q σ0 H D := by
  refine comp_strF (fun _ => true) f S hz h0 hD (fun c hc σ1 H1 hS hs R R' hR => ?_) (by rw [List.filter_eq_self.mpr fun _ _ => rfl]; exact hq)
  exact ht c hc σ1 H1 hS hs R fun σ2 h2 => by have := hR σ2 h2; rwa [if_pos rfl] at this
/-! ### a comprehension over a list whose elements may be anything new -/
/-! ### what was reached: all is kept, and it is closed -/
structure Ext (H H' : Hp) : Prop where
  s : Same H H'
  c : Closed H → Closed H'
theorem Ext.refl (H : Hp) : Ext H H := ⟨Same.refl _, id⟩
theorem Ext.trans {A B C : Hp} (a : Ext A B) (b : Ext B C) : Ext A C := ⟨a.s.trans b.s, fun z => b.c (a.c z)⟩
theorem Ext.new {H : Hp} {p : Addr} {o : HO} (h : H p = none) (ho : OwnIn (upd H p o) p o) : Ext H (upd H p o) := ⟨same_new h, fun c => closed_new c h ho⟩
theorem Ext.lst {H : Hp} {p : Addr} {xs : List V} (h : H p = none) : Ext H (upd H p (.lst xs)) := .new h trivial
theorem Ext.tup {H : Hp} {p : Addr} {xs : List V} (h : H p = none) : Ext H (upd H p (.tup xs)) := .new h trivial
theorem Ext.made {H : Hp} {x dx C : Addr} {fs : List (Str × V)} (h1 : H x = none) (h2 : H dx = none) (h3 : dx ≠ x) : Ext H (upd (upd H dx (.own x)) x (.ins C dx fs)) := by
  have hx : upd H dx (.own x) x = none := by rw [upd_ne (Ne.symm h3)]; exact h1
  refine ⟨(same_new h2).trans (same_new hx), fun c => closed_new (closed_new c h2 trivial) hx ?_⟩
  show upd (upd H dx (.own x)) x (.ins C dx fs) dx = some (.own x)
  rw [upd_ne h3]; exact upd_same
theorem Ext.sub {H H' : Hp} (e : Ext H H') : Sub H H' H' := .all (fun b o h => ⟨o, e.s b o h⟩) e.c
/-! ### texts -/
theorem len_toString {i : Int} {k : Nat} (hk : 1 ≤ k) (h : i.natAbs < 10 ^ k) : (Str.ofString (toString i)).length ≤ k + 1 := by
  rw [Str.ofString_eq_toList]
  show ((toString i).toList.map Char.toNat).toArray.size ≤ _
  rw [List.size_toArray, List.length_map]
  cases i with
  | ofNat m =>
    show (Nat.repr m).toList.length ≤ _
    rw [Nat.toList_repr]
    have := PyProof.Rows.digits10_le hk (show m < 10 ^ k from h)
    omega
  | negSucc m =>
    show ("-" ++ Nat.repr (m + 1)).toList.length ≤ _
    rw [String.toList_append, List.length_append, Nat.toList_repr]
    have := PyProof.Rows.digits10_le hk (show m + 1 < 10 ^ k from h)
    show 1 + _ ≤ _
    omega
theorem app_cps (x y : Str) : (x ++ y).cps.toList = x.cps.toList ++ y.cps.toList := Array.toList_append
theorem app_len (x y : Str) : (x ++ y).length = x.length + y.length := Array.size_append
/-- a text of at most n signs, all out of S -/
structure Tx (n : Nat) (S : List Nat) (x : Str) : Prop where
  n : x.length ≤ n
  s : ∀ c, c ∈ x.cps.toList → c ∈ S
theorem Tx.mono {n m : Nat} {S S' : List Nat} {x : Str} (h : Tx n S x) (hn : n ≤ m) (hs : ∀ c, c ∈ S → c ∈ S') : Tx m S' x := ⟨Nat.le_trans h.n hn, fun c hc => hs c (h.s c hc)⟩
theorem Tx.app {n m : Nat} {S : List Nat} {x y : Str} (h : Tx n S x) (h' : Tx m S y) : Tx (n + m) S (x ++ y) := ⟨by rw [app_len]; have := h.n; have := h'.n; omega, fun c hc => by
  rw [app_cps] at hc
  exact (List.mem_append.mp hc).elim (h.s c) (h'.s c)⟩
theorem Tx.one {S : List Nat} {c : Nat} (h : c ∈ S) : Tx 1 S ⟨#[c]⟩ := ⟨Nat.le_refl _, fun d hd => by rw [List.mem_singleton.mp hd]; exact h⟩
theorem Tx.slice {n : Nat} {S : List Nat} {x : Str} (h : Tx n S x) (lo hi : Option Int) : Tx n S (Txt.slice x lo hi) := by
  have e := KM.slice_cps x lo hi
  refine ⟨?_, fun c hc => h.s c ?_⟩
  · have e2 := congrArg List.length e
    rw [List.length_take, List.length_drop] at e2
    have e3 : (Txt.slice x lo hi).cps.toList.length = (Txt.slice x lo hi).length := Array.length_toList
    have e4 : x.cps.toList.length = x.length := Array.length_toList
    have := h.n
    omega
  · rw [e] at hc
    exact List.mem_of_mem_drop (List.mem_of_mem_take hc)
theorem slice_len_to (x : Str) (k : Nat) (h : k ≤ x.length) : (Txt.slice x none (some (k : Int))).length = k := by
  have e2 := congrArg List.length (KM.slice_cps x none (some (k : Int)))
  rw [HT.sIx_nat, HT.sIx_none, List.drop_zero, List.length_take] at e2
  have e3 : (Txt.slice x none (some (k : Int))).cps.toList.length = (Txt.slice x none (some (k : Int))).length := Array.length_toList
  have e4 : x.cps.toList.length = x.length := Array.length_toList
  omega
theorem slice_len_from (x : Str) (k : Nat) (h : k ≤ x.length) : (Txt.slice x (some (k : Int)) none).length = x.length - k := by
  have e2 := congrArg List.length (KM.slice_cps x (some (k : Int)) none)
  rw [HT.sIx_nat, HT.sIx_none, List.length_take, List.length_drop] at e2
  have e3 : (Txt.slice x (some (k : Int)) none).cps.toList.length = (Txt.slice x (some (k : Int)) none).length := Array.length_toList
  have e4 : x.cps.toList.length = x.length := Array.length_toList
  omega
theorem at_text {x : Str} {k : Nat} (h : k < x.length) : ∃ c, c ∈ x.cps.toList ∧ atI x.cps.toList ((k : Nat) : Int) = some c := by
  have h' : k < x.cps.toList.length := by rw [Array.length_toList]; exact h
  exact ⟨x.cps.toList[k], List.getElem_mem h', atI_nat (List.getElem?_eq_getElem h')⟩
/-- how many unlike texts -/
def dsN (ns : List Str) : Nat := (metT (fun i => ns.getD i Str.empty) ns.length).length
def dsT (s : Str) : Nat := (metT (signsOf s) s.cps.size).length
theorem dsN_le (ns : List Str) : dsN ns ≤ ns.length := metT_le ..
theorem dsT_le (s : Str) : dsT s ≤ s.length := metT_le ..
theorem names_range (ns : List Str) : ((List.range ns.length).map fun i => V.str (ns.getD i Str.empty)) = ns.map V.str := by
  apply List.ext_getElem
  · rw [List.length_map, List.length_range, List.length_map]
  · intro i h1 h2
    rw [List.length_map] at h2
    rw [List.getElem_map, List.getElem_map, List.getElem_range, List.getD_eq_getElem?_getD, List.getElem?_eq_getElem h2]; rfl
theorem texts_names {K : PySem.W.Frag} {H : Hp} {a : Addr} {ns : List Str} (h : SqL K H a (ns.map V.str)) : TextsOf K H (.ref a) (fun i => ns.getD i Str.empty) ns.length := .inl ⟨a, rfl, by rw [names_range]; exact h⟩
theorem texts_text {K : PySem.W.Frag} {H : Hp} (s : Str) : TextsOf K H (.str s) (signsOf s) s.cps.size := .inr ⟨s, rfl, rfl, rfl⟩
/-! ### what the forms ask of texts -/
def L26 : Str := "abcdefghijklmnopqrstuvwxyz"
def L62 : Str := "abcdefghijklmnopqrstuvwxyzABCDEFGHIJKLMNOPQRSTUVWXYZ0123456789"
def madeOf (t s : Str) : Bool := t.cps.toList.all fun c => decide (c ∈ s.cps.toList)
theorem L26_len : L26.length = 26 := by decide +kernel
def goodText (s : Str) : Bool := decide (s.length ≠ 0 ∧ s.length ≤ 60 ∧ dsT s = s.length) && madeOf s L62
def isName (n : Str) : Bool := decide (0 < n.length ∧ n.length ≤ 12) && madeOf n L26
def goodNames (ns : List Str) : Bool := decide (ns.length ≠ 0 ∧ ns.length ≤ 20 ∧ dsN ns = ns.length) && ns.all isName
theorem log_small {i : Int} (h : i.natAbs < 10 ^ 60) : i.natAbs.log2 < 1920 := by
  by_cases z : i.natAbs = 0
  · rw [z]; decide
  · rw [Nat.log2_lt z]
    exact Nat.lt_trans h (by decide +kernel)
theorem str_nil (s : Str) : s = Str.ofString "" ↔ s.length = 0 := by
  have e : Str.ofString "" = ⟨#[]⟩ := by decide +kernel
  rw [e]
  constructor
  · rintro rfl; rfl
  · intro h
    obtain ⟨c⟩ := s
    have : c = #[] := Array.eq_empty_of_size_eq_zero h
    rw [this]
theorem upd_swap {H : Hp} {a b : Addr} {x y : HO} (h : a ≠ b) : upd (upd H a x) b y = upd (upd H b y) a x := by
  funext c
  by_cases h1 : c = b
  · subst h1
    rw [upd_same, upd_ne (Ne.symm h), upd_same]
  · rw [upd_ne h1]
    by_cases h2 : c = a
    · subst h2
      rw [upd_same, upd_same]
    · rw [upd_ne h2, upd_ne h2, upd_ne h1]
theorem slice_le (x : Str) (lo hi : Option Int) : (Txt.slice x lo hi).length ≤ x.length := by
  have e2 := congrArg List.length (KM.slice_cps x lo hi)
  rw [List.length_take, List.length_drop] at e2
  have e3 : (Txt.slice x lo hi).cps.toList.length = (Txt.slice x lo hi).length := Array.length_toList
  have e4 : x.cps.toList.length = x.length := Array.length_toList
  omega
theorem closed_lst {H : Hp} {D : Addr} {l l' : List V} (h : H D = some (.lst l)) (c : Closed H) : Closed (upd H D (.lst l')) := fun b u e => by
  by_cases z : b = D
  · subst z; rw [upd_same] at e; cases e; trivial
  · rw [upd_ne z] at e
    have ow := c b u e
    clear e
    induction u with
    | ins C dx fs =>
      have x' : H dx = some (.own b) := ow
      show upd H D (.lst l') dx = some (.own b)
      rw [upd_ne fun z => by rw [z, h] at x'; cases x']
      exact x'
    | frz ob u ih => exact ih ow
    | _ => trivial
theorem Ext.set {H H' : Hp} {D : Addr} {l l' : List V} (h0 : H D = none) (e : Ext H H') (h : H' D = some (.lst l)) : Ext H (upd H' D (.lst l')) :=
  ⟨fun b u q => by rw [upd_ne (ne_of_none q h0)]; exact e.s b u q, fun c => closed_lst h (e.c c)⟩
theorem ixN_nat {n k : Nat} (h : k < n) : ixN n ((k : Nat) : Int) = some k := by
  have : atI (List.range n) ((k : Nat) : Int) = some k := atI_nat (by rw [List.getElem?_range h])
  unfold atI at this
  rw [List.length_range] at this
  cases hx : ixN n ((k : Nat) : Int) with
  | none => rw [hx] at this; cases this
  | some j =>
    rw [hx, Option.bind_some] at this
    rw [List.getElem?_eq_some_iff] at this
    obtain ⟨_, z⟩ := this
    rw [List.getElem_range] at z
    rw [z]
end L2

end

section
namespace L2
open PySem PySem.W PySem.Spec PyProof.Rows
/-! ### unlike texts -/
theorem metT_sub (val : Nat → Str) : ∀ n k, k ∈ metT val n → ∃ i, i < n ∧ k = val i
  | 0, k, h => by cases h
  | n + 1, k, h => by
    unfold metT at h
    by_cases z : val n ∈ metT val n
    · rw [if_pos z] at h
      obtain ⟨i, hi, e⟩ := metT_sub val n k h
      exact ⟨i, by omega, e⟩
    · rw [if_neg z] at h
      rcases List.mem_append.mp h with y | y
      · obtain ⟨i, hi, e⟩ := metT_sub val n k y
        exact ⟨i, by omega, e⟩
      · exact ⟨n, Nat.lt_succ_self _, List.mem_singleton.mp y⟩
theorem metT_inj (val : Nat → Str) : ∀ n, (∀ i j, i < n → j < n → val i = val j → i = j) → (metT val n).length = n
  | 0, _ => rfl
  | n + 1, h => by
    unfold metT
    have z : val n ∉ metT val n := fun z => by
      obtain ⟨i, hi, e⟩ := metT_sub val n _ z
      have := h n i (Nat.lt_succ_self _) (by omega) e
      omega
    rw [if_neg z, List.length_append, metT_inj val n fun i j hi hj e => h i j (by omega) (by omega) e]
    rfl
theorem dsT_nodup {s : Str} (h : s.cps.toList.Nodup) : dsT s = s.length := by
  refine metT_inj _ _ fun i j hi hj e => ?_
  unfold signsOf at e
  injection e with e
  have e := congrArg (fun a => a[0]?) e
  simp only [List.getElem?_toArray, List.getElem?_cons_zero, Option.some.injEq] at e
  have hi' : i < s.cps.toList.length := by rw [Array.length_toList]; exact hi
  have hj' : j < s.cps.toList.length := by rw [Array.length_toList]; exact hj
  have g : ∀ k (hk : k < s.cps.toList.length), s.cps.getD k 0 = s.cps.toList[k] := fun k hk => by
    rw [Array.getD_eq_getD_getElem?, ← Array.getElem?_toList, List.getElem?_eq_getElem hk]; rfl
  rw [g i hi', g j hj'] at e
  exact (List.getElem_inj h).mp e
theorem dsN_nodup {ns : List Str} (h : ns.Nodup) : dsN ns = ns.length := by
  refine metT_inj _ _ fun i j hi hj e => ?_
  have g : ∀ k (hk : k < ns.length), ns.getD k Str.empty = ns[k] := fun k hk => by
    rw [List.getD_eq_getElem?_getD, List.getElem?_eq_getElem hk]; rfl
  rw [g i hi, g j hj] at e
  exact (List.getElem_inj h).mp e
theorem L26_nodup : L26.cps.toList.Nodup := by decide +kernel
/-! ### names -/
theorem isName_of {n : Str} (h : Tx 12 L26.cps.toList n) (h0 : 0 < n.length) : isName n = true := by
  unfold isName
  rw [decide_eq_true ⟨h0, h.n⟩, Bool.true_and]
  unfold madeOf
  rw [List.all_eq_true]
  exact fun c hc => decide_eq_true (h.s c hc)
theorem goodNames_of {ns : List Str} (h0 : ns.length ≠ 0) (h1 : ns.length ≤ 20) (hn : ns.Nodup) (hs : ∀ n, n ∈ ns → isName n = true) : goodNames ns = true := by
  unfold goodNames
  rw [decide_eq_true ⟨h0, h1, dsN_nodup hn⟩, Bool.true_and, List.all_eq_true]
  exact hs
theorem isName_len {n : Str} (h : isName n = true) : n.length ≤ 12 := by
  unfold isName at h
  simp only [Bool.and_eq_true, decide_eq_true_eq] at h
  exact h.1.2
theorem goodNames_mem {ns : List Str} (h : goodNames ns = true) : ns.length ≤ 20 ∧ ∀ n, n ∈ ns → n.length ≤ 12 := by
  unfold goodNames at h
  simp only [Bool.and_eq_true, decide_eq_true_eq, List.all_eq_true] at h
  exact ⟨h.1.2.1, fun n hn => isName_len (h.2 n hn)⟩
/-! ### all but one list is kept -/
structure Grow (p : Addr) (H H' : Hp) : Prop where
  k : ∀ b u, b ≠ p → H b = some u → H' b = some u
  l : ∃ ns : List Int, H' p = some (.lst (ns.map V.int)) ∧ ns.length ≤ 90
  c : Closed H → Closed H'
def Pool (p : Addr) (H : Hp) : Prop := ∃ ns : List Int, H p = some (.lst (ns.map V.int)) ∧ ns.length ≤ 90
theorem Grow.refl {p : Addr} {H : Hp} (h : Pool p H) : Grow p H H := ⟨fun _ _ _ e => e, h, id⟩
theorem Grow.trans {p : Addr} {A B C : Hp} (a : Grow p A B) (b : Grow p B C) : Grow p A C := ⟨fun x u n e => b.k x u n (a.k x u n e), b.l, fun c => b.c (a.c c)⟩
theorem Grow.ext {p : Addr} {A B C : Hp} (a : Grow p A B) (b : Ext B C) : Grow p A C := by
  obtain ⟨ns, h, hn⟩ := a.l
  exact ⟨fun x u n e => b.s x u (a.k x u n e), ⟨ns, b.s _ _ h, hn⟩, fun c => b.c (a.c c)⟩
theorem Grow.pop {p : Addr} {H : Hp} {ns : List Int} (h : Pool p H) (hn : ns.length ≤ 90) : Grow p H (upd H p (.lst (ns.map V.int))) := by
  obtain ⟨ms, e, _⟩ := h
  exact ⟨fun b u nb q => by rw [upd_ne nb]; exact q, ⟨ns, upd_same, hn⟩, fun c => closed_lst e c⟩
theorem Grow.sub {p : Addr} {H H' : Hp} (h : Grow p H H') : Sub H H' H' := .all (fun b o e => by
  by_cases z : b = p
  · subst z
    obtain ⟨ns, e, _⟩ := h.l
    exact ⟨_, e⟩
  · exact ⟨o, h.k b o z e⟩) h.c
theorem Grow.free {p b : Addr} {H H' : Hp} (h : Grow p H H') (e : H' b = none) : H b = none := by
  cases z : H b with
  | none => rfl
  | some u =>
    by_cases y : b = p
    · subst y
      obtain ⟨ns, q, _⟩ := h.l
      rw [e] at q; cases q
    · rw [h.k b u y z] at e; cases e
/-- a def of which nothing is asked -/
theorem DefOk.none {P : Program} {w : World} {K : PySem.W.Frag} {mg : Str → Option Value} {base : Heap} {x : Str} {st : Stmt} {f : Addr} {fd : FuncData} {ps : List Str} {k : Nat} {sp : Sp} (F : FunAt K mg x st ps f fd) (h : ∀ vs H Q E, ¬ sp vs H Q E) : DefOk P w K mg base k x ps sp :=
  ⟨f, fd, ⟨fun vs H Q E q => absurd q (h _ _ _ _), fun A outer s H args us vs Q E _ _ _ _ q => absurd q (h _ _ _ _)⟩, F.2.1, F.1.kp, F.2.2⟩
theorem Grow.set {p l : Addr} {H H' : Hp} {xs ys : List V} (g : Grow p H H') (h0 : H l = none) (h : H' l = some (.lst xs)) (hl : l ≠ p) : Grow p H (upd H' l (.lst ys)) := by
  obtain ⟨ns, e, hn⟩ := g.l
  exact ⟨fun b u nb q => by rw [upd_ne (ne_of_none q h0)]; exact g.k b u nb q, ⟨ns, by rw [upd_ne (Ne.symm hl)]; exact e, hn⟩, fun c => closed_lst h (g.c c)⟩
theorem Grow.ne {p l : Addr} {H H' : Hp} (g : Grow p H H') (h : H' l = none) : l ≠ p := fun z => by
  obtain ⟨ns, e, _⟩ := g.l
  rw [z, e] at h; cases h
end L2

end

section
namespace L2
open PySem PySem.W PySem.Spec PyProof.Rows
section
variable {X : Cx}
/-! ### further calls -/
theorem mt_startsfrom : MtR X "str.startswith" (fun x xs H Q => ∃ (y z : Str) (k : Nat), x = .str y ∧ xs = [.str z, .int ((k : Nat) : Int)] ∧ k ≤ y.length ∧ Q (.bl (decide (z.cps.toList <+: y.cps.toList.drop k))) H) := by
  intro pins s σ H x xs v us Q I rx rv h
  obtain ⟨y, z, k, rfl, rfl, hk, q⟩ := h
  obtain ⟨t, rfl⟩ := rx
  obtain ⟨u1, u2, rfl, ⟨t1, rfl⟩, ⟨t2, rfl⟩⟩ := vals2 rv
  refine SC.startswith3 ?_
  have e : Txt.startswith3 y z ((k : Nat) : Int) = decide (z.cps.toList <+: y.cps.toList.drop k) := by
    unfold Txt.startswith3
    have ef : fromIndex y.length ((k : Nat) : Int) = k := by
      unfold fromIndex
      rw [if_neg (by omega)]
      omega
    have el : y.cps.toList.length = y.length := Array.length_toList
    have ez : z.cps.toList.length = z.length := Array.length_toList
    rw [ef, StrLaws.subAt_eq, Bool.eq_iff_iff, decide_eq_true_eq, Bool.and_eq_true, decide_eq_true_eq, beq_iff_eq, List.prefix_iff_eq_take, ez]
    constructor
    · intro ⟨_, h⟩; exact h.symm
    · intro h
      refine ⟨?_, h.symm⟩
      have := congrArg List.length h
      rw [List.length_take, List.length_drop, el, ez] at this
      omega
  rw [e]
  exact ⟨.bl _, H, I, rfl, q⟩
theorem mt_sindex : MtR X "str.index" (fun x xs H Q => ∃ (y : Str) (c : Nat), x = .str y ∧ xs = [.str ⟨#[c]⟩] ∧ c ∈ y.cps.toList ∧ ∀ i : Nat, Q (.int ((i : Nat) : Int)) H) := by
  intro pins s σ H x xs v us Q I rx rv h
  obtain ⟨y, c, rfl, rfl, hc, q⟩ := h
  obtain ⟨t, rfl⟩ := rx
  obtain ⟨u, rfl, t', rfl⟩ := rv.one
  have e := StrLaws.found_one y c
  rw [decide_eq_true hc] at e
  cases ho : Builtin.Str.occurrences y ⟨#[c]⟩ 0 y.length 1 with
  | nil => rw [ho] at e; cases e
  | cons i rest =>
    exact call_gives F.slot_str_index (typeIs_str s y t) F.entry_str_index (F.args_str_index_2 _ _) (gives_str_index y ⟨#[c]⟩ t t' i rest ho) ⟨.int _, H, I.tok _, ⟨_, rfl⟩, q i⟩
/-- a list of texts, where the text stands first -/
def rLIndex : V → List V → Hp → VK → Prop := fun x vs H Q => ∃ (l : Addr) (ws : List Str) (w : Str) (k : Nat), x = .ref l ∧ vs = [.str w] ∧ H l = some (.lst (ws.map V.str)) ∧ ws[k]? = some w ∧ (∀ j, j < k → ws[j]? ≠ some w) ∧ ws.length < 100000 ∧ Q (.int ((k : Nat) : Int)) H
theorem mt_lindex : MtR X "list.index" rLIndex := by
  intro pins s σ H x vs v us Q I rx rv h
  obtain ⟨l, ws, w, k, rfl, rfl, hH, hk, hno, hz, q⟩ := h
  cases rx
  obtain ⟨u1, rfl, ⟨t, rfl⟩⟩ := vals1 rv
  obtain ⟨z, its, n, rr, hl, e⟩ := I.lstM hH
  have hlen := rr.length
  rw [List.length_map] at hlen
  have hkl : k < ws.length := (List.getElem?_eq_some_iff.mp hk).1
  have hat : ∀ (j : Nat) (hj : j < its.length), ∃ t', its[j] = .str (ws[j]'(by omega)) t' := fun j hj => by
    obtain ⟨u, hu, ru⟩ := rr.get (i := j) (x := .str (ws[j]'(by omega))) (by rw [List.getElem?_map, List.getElem?_eq_getElem (by omega)]; rfl)
    rw [List.getElem?_eq_getElem hj] at hu
    obtain ⟨t', ht'⟩ := (show ∃ t, u = Value.str _ t from ru)
    exact ⟨t', by rw [← ht']; exact Option.some.inj hu⟩
  let ee : Value → Bool := fun y => match y with | .str a _ => decide (a = w) | _ => false
  have he : ∀ y, y ∈ its.toArray → MeetsSeq.EqGives y (.str w t) (ee y) := fun y hy => by
    obtain ⟨j, hj, rfl⟩ := List.mem_iff_getElem.mp (List.mem_toArray.mp hy)
    obtain ⟨t', e'⟩ := hat j hj
    rw [e']
    exact eqG_str _ _ _ _
  have hit : ee (its.toArray[k]'(by rw [List.size_toArray]; omega)) = true := by
    obtain ⟨t', e'⟩ := hat k (by omega)
    rw [List.getElem_toArray, e']
    have := (List.getElem?_eq_some_iff.mp hk).2
    show decide (_ = _) = true
    rw [this]; exact decide_eq_true rfl
  have hno' : ∀ m (hm : m < its.toArray.size), m < k → ee its.toArray[m] = false := fun m hm hmk => by
    rw [List.size_toArray] at hm
    obtain ⟨t', e'⟩ := hat m hm
    rw [List.getElem_toArray, e']
    show decide (_ = _) = false
    refine decide_eq_false fun z => hno m hmk ?_
    rw [List.getElem?_eq_getElem (by omega), z]
  refine call_meets F.slot_list_index ⟨_, e, rfl⟩ F.entry_list_index (F.args_list_index_2 _ _) (MeetsSeq.list_index l its.toArray n (.str w t) ee he k (by rw [List.size_toArray]; omega) (by omega) hit hno') ⟨e, ?_⟩
  exact ⟨.int _, H, I.tok _, ⟨_, rfl⟩, q⟩
/-- a list beside an empty one, == -/
def rEqNil : R2 := fun x y H Q => ∃ (l b : Addr) (xs : List V), x = .ref l ∧ y = .ref b ∧ H l = some (.lst xs) ∧ H b = some (.lst []) ∧ Q (.bl (decide (xs.length = 0))) H
theorem op_eqNil (hu : X.A.units + 64 < cLine) : OpR X (compareOp .Eq) rEqNil := by
  intro pins s σ H x y v u Q I rx ry h
  obtain ⟨l, b, xs, rfl, rfl, h1, h2, q⟩ := h
  cases rx
  cases ry
  obtain ⟨_, its, n, r, _, e⟩ := I.lstM h1
  obtain ⟨_, jts, m, r2, _, f⟩ := I.lstM h2
  have hl := r.length
  have hl2 := r2.length
  have hj : jts.length = 0 := by rw [← hl2]; rfl
  by_cases z : xs.length = 0
  · rw [decide_eq_true z] at q
    refine SeqAt.eq_listAt (e := fun _ => true) ⟨_, e, rfl, n, rfl⟩ ⟨_, f, rfl, m, rfl⟩ (by rw [List.size_toArray, List.size_toArray]; omega) (by omega) (fun j h1 h2 => ?_) ?_
    · rw [List.size_toArray] at h2; omega
    · rw [List.size_toArray, show its.length = 0 by omega]
      exact ⟨.bl _, H, I, rfl, q⟩
  · rw [decide_eq_false z] at q
    refine SeqAt.eq_list_lengthsAt (items := its.toArray) (items2 := jts.toArray) ⟨_, e, rfl, n, rfl⟩ ⟨_, f, rfl, m, rfl⟩ ?_ (by omega) ⟨.bl _, H, I, rfl, q⟩
    rw [List.size_toArray, List.size_toArray, hj]
    simp only [bne_iff_ne, ne_eq]
    omega
def oEqN (hu : X.A.units + 64 < cLine) := OpR.or (oEqL (X := X) hu) (op_eqNil hu)
end
/-! ### forms, and how they are written -/
inductive Fm where
  | bare (k : Fin 4)
  | sp (a b : Int)
  | le (s : Str)
  | one (k : Fin 3) (f : Fm)
  | two (k : Fin 2) (ns : List Str) (fs : List Fm)
def cp (s : String) : List Nat := (Str.ofString s).cps.toList
def num (a : Int) : List Nat := (Str.ofString (toString a)).cps.toList
def bw (k : Fin 4) : Str := [Str.ofString "nothing", Str.ofString "truth", Str.ofString "whole", Str.ofString "fraction"][k]
def ow (k : Fin 3) : Str := [Str.ofString "maybe", Str.ofString "many", Str.ofString "turned"][k]
def tw (k : Fin 2) : Str := [Str.ofString "record", Str.ofString "choice"][k]
mutual
def sh : Fm → List Nat
  | .bare k => (bw k).cps.toList
  | .sp a b => cp "span" ++ (cp "(" ++ ((num a ++ (cp ", " ++ num b)) ++ cp ")"))
  | .le s => cp "letters" ++ (cp "(" ++ (s.cps.toList ++ cp ")"))
  | .one k f => (ow k).cps.toList ++ (cp "(" ++ (sh f ++ cp ")"))
  | .two k ns fs => (tw k).cps.toList ++ (cp "(" ++ (shs fs ns ++ cp ")"))
def shs : List Fm → List Str → List Nat
  | [], _ => []
  | f :: fs, ns => (ns.headD Str.empty).cps.toList ++ (cp " " ++ (sh f ++ (match fs with | [] => [] | _ :: _ => cp ", " ++ shs fs ns.tail)))
end
mutual
def ht : Fm → Nat
  | .bare _ => 1
  | .sp _ _ => 1
  | .le _ => 1
  | .one _ f => ht f + 1
  | .two _ _ fs => hts fs + 1
def hts : List Fm → Nat
  | [] => 0
  | f :: fs => max (ht f) (hts fs)
end
mutual
def okF : Fm → Prop
  | .bare _ => True
  | .sp a b => a ≤ b ∧ a.natAbs < 10 ^ 58 ∧ b.natAbs < 10 ^ 58
  | .le s => goodText s = true ∧ s.length ≤ 60
  | .one _ f => okF f
  | .two _ ns fs => goodNames ns = true ∧ ns.length = fs.length ∧ okFs fs
def okFs : List Fm → Prop
  | [] => True
  | f :: fs => okF f ∧ okFs fs
end
/-- the classes of forms -/
structure FC where
  b : Fin 4 → Addr
  s : Addr
  l : Addr
  o : Fin 3 → Addr
  t : Fin 2 → Addr
mutual
/-- the object o stands for the form; its objects are none of X -/
def FAt (c : FC) (X : List Addr) (H : Hp) : Fm → Addr → Prop
  | .bare k, o => o ∉ X ∧ ∃ dx, H o = some (.ins (c.b k) dx [])
  | .sp a b, o => o ∉ X ∧ ∃ dx, H o = some (.ins c.s dx [("low", .int a), ("high", .int b)])
  | .le s, o => o ∉ X ∧ ∃ dx, H o = some (.ins c.l dx [("signs", .str s)])
  | .one k f, o => o ∉ X ∧ ∃ dx i, H o = some (.ins (c.o k) dx [("inner", .ref i)]) ∧ FAt c X H f i
  | .two k ns fs, o => o ∉ X ∧ ∃ dx l1 l2 os, H o = some (.ins (c.t k) dx [("names", .ref l1), ("forms", .ref l2)]) ∧ l1 ∉ X ∧ l2 ∉ X ∧ H l1 = some (.lst (ns.map V.str)) ∧ H l2 = some (.lst (os.map V.ref)) ∧ FsAt c X H fs os
def FsAt (c : FC) (X : List Addr) (H : Hp) : List Fm → List Addr → Prop
  | [], os => os = []
  | f :: fs, os => ∃ o r, os = o :: r ∧ FAt c X H f o ∧ FsAt c X H fs r
end
/-! ### o.m(..) of an object of one of some classes -/
def AnyM (P : Program) (w : World) (K : PySem.W.Frag) (mg : Str → Option Value) (base : Heap) (k : Nat) (m : Str) (ps : List Str) {ι : Type} (cl : ι → Addr) (sp : ι → Sp) : Prop := ∀ i, MethOk P w K mg base k (cl i) m ps (sp i) ∧ Cls K (cl i)
section
variable {X : Cx} {k k' : Nat} {m : Str} {ps : List Str} {ι : Type} {cl : ι → Addr} {sp : ι → Sp} {e o : Expr} {es : List Expr} {t : TA} {ta : TE} {pos apos : Pos}
theorem pe_methAny0 {pl : Sem Bool} (h : AnyM X.prog X.w X.K X.mg X.base k m ps cl sp) (hr : Room k' X.A) (he : PE X o ta) (hk : k ≤ k' := by decide)
    (ht : eval (.Call (.Attribute o m apos) [] [] pos) X.env = (do
      let ov ← eval o X.env
      standAt apos.atName
      let (f, first) ← holding [ov] (getMethod ov m pl)
      callWith pos f first (backTo pos (starEach [] X.env)) (backToKw pos (keywordEach [] X.env))) := by rfl) :
    PE X (.Call (.Attribute o m apos) [] [] pos) (fun σ H Q => ta σ H fun x H1 => ∃ a i dx fs, x = .ref a ∧ H1 a = some (.ins (cl i) dx fs) ∧ fs.lookup m = none ∧ sp i [x] H1 Q E0) := by
  intro pins s σ H Q I hq
  refine PySem.W.methodCall_KW (pl := pl) (thn (he pins s σ H _ I hq) fun u s1 ⟨x, H1, I1, rx, a, i, dx, fs, ex, ea, l, q⟩ => ?_) ht
  subst ex
  obtain rfl : u = Value.ref a := rx
  obtain ⟨⟨f, fd, F, hb, hm⟩, c⟩ := h i
  refine getmeth_ok I1 ea c hm l ?_
  exact PySem.W.callWith_K0 (first := [.ref a]) I1.kIn hm.kp (run_fn (us := [.ref a]) (vs := [.ref a]) (dvs := []) (ds := []) F (hr.mono hk) hb .nil pass0 I1 (.cons rfl .nil) (by rw [List.append_nil]; exact q))
end
/-! ### numbers as texts -/
theorem num_nat (m : Nat) : num ((m : Nat) : Int) = (Nat.toDigits 10 m).map Char.toNat := KIN.signs_num m
theorem num_neg (m : Nat) : num (-((m + 1 : Nat) : Int)) = 45 :: (Nat.toDigits 10 (m + 1)).map Char.toNat := by
  have e : -((m + 1 : Nat) : Int) = Int.negSucc m := rfl
  rw [e]
  unfold num
  rw [Str.ofString_eq_toList]
  show ((("-" ++ Nat.repr (m + 1)).toList.map Char.toNat)) = _
  rw [String.toList_append, List.map_append, Nat.toList_repr]
  rfl
def figs (m : Nat) : List Nat := (Nat.toDigits 10 m).map Char.toNat
theorem figs_len {m : Nat} (h : m < 10 ^ 58) : (figs m).length ≤ 58 := by unfold figs; rw [List.length_map]; exact PyProof.Rows.digits10_le (by decide) h
theorem figs_ne (m : Nat) : figs m ≠ [] := fun e => by
  have h := PyProof.Rows.tDigits_len_ge 10 m
  unfold figs at e
  rw [List.map_eq_nil_iff.mp e] at h
  exact absurd h (by decide)
theorem figs_all (m : Nat) : NumText.AllDigits (figs m) := fun c hc => by
  obtain ⟨ch, hch, e⟩ := List.mem_map.mp hc
  have r := PyProof.Rows.digit_range (Nat.isDigit_of_mem_toDigits (by decide) (by decide) hch)
  rw [← e]
  exact r
theorem figs_step {m : Nat} (h : 10 ≤ m) : figs m = figs (m / 10) ++ figs (m % 10) := by
  unfold figs
  rw [← List.map_append, Nat.toDigits_append_toDigits (by decide) (by omega) (Nat.mod_lt _ (by decide)), Nat.div_add_mod]
theorem figs_head : ∀ m : Nat, m ≠ 0 → (figs m).head? ≠ some 48 := by
  intro m
  induction m using Nat.strongRecOn with
  | _ m ih =>
    intro h0
    by_cases h : m < 10
    · have : ∀ k : Fin 10, k.val ≠ 0 → (figs k.val).head? ≠ some 48 := by decide +kernel
      exact this ⟨m, h⟩ h0
    · rw [figs_step (by omega)]
      have := ih (m / 10) (by omega) (by omega)
      cases e : figs (m / 10) with
      | nil => exact absurd e (figs_ne _)
      | cons c r => rw [e] at this; exact this
theorem figs_zero : figs 0 = [48] := by decide +kernel
theorem figs_int {m : Nat} (h : m < 10 ^ 58) : PySem.intText? ⟨(figs m).toArray⟩ = some ((m : Nat) : Int) := by
  have e := PySem.intText_digits (x := ⟨(figs m).toArray⟩) (figs_all m) (figs_ne m) (Nat.le_trans (figs_len h) (by decide))
  rw [e]
  show some (((NumText.digitsVal (figs m) : Nat)) : Int) = _
  unfold figs
  rw [KIN.val_back]
/-! ### all but one object is kept -/
structure Mv (cu : Addr) (H H' : Hp) : Prop where
  k : ∀ b u, b ≠ cu → H b = some u → H' b = some u
  c : Closed H → Closed H'
theorem Mv.refl (cu : Addr) (H : Hp) : Mv cu H H := ⟨fun _ _ _ e => e, id⟩
theorem Mv.trans {cu : Addr} {A B C : Hp} (a : Mv cu A B) (b : Mv cu B C) : Mv cu A C := ⟨fun x u n e => b.k x u n (a.k x u n e), fun c => b.c (a.c c)⟩
theorem Mv.ext {cu : Addr} {A B C : Hp} (a : Mv cu A B) (b : Ext B C) : Mv cu A C := ⟨fun x u n e => b.s x u (a.k x u n e), fun c => b.c (a.c c)⟩
theorem Mv.move {cu C dx : Addr} {H : Hp} {fs fs' : List (Str × V)} (h : H cu = some (.ins C dx fs)) : Mv cu H (upd H cu (.ins C dx fs')) :=
  ⟨fun b u nb e => by rw [upd_ne nb]; exact e, (Sub.ins (H' := upd H cu (.ins C dx fs')) h (fun b u nb e => by rw [upd_ne nb]; exact e) upd_same).cl⟩
theorem Mv.sub {cu : Addr} {H H' : Hp} {o : HO} (h : Mv cu H H') (e : H' cu = some o) : Sub H H' H' := .all (fun b u q => by
  by_cases z : b = cu
  · subst z; exact ⟨_, e⟩
  · exact ⟨u, h.k b u z q⟩) h.c
theorem Mv.free {cu b : Addr} {H H' : Hp} {o : HO} (h : Mv cu H H') (e : H' cu = some o) (q : H' b = none) : H b = none := by
  cases z : H b with
  | none => rfl
  | some u =>
    by_cases y : b = cu
    · subst y; rw [e] at q; cases q
    · rw [h.k b u y z] at q; cases q
mutual
theorem FAt.keep {c : FC} {X : List Addr} {H H' : Hp} (k : ∀ b u, b ∉ X → H b = some u → H' b = some u) : ∀ (f : Fm) {o : Addr}, FAt c X H f o → FAt c X H' f o
  | .bare i, o, h => by
    obtain ⟨n, dx, e⟩ := h
    exact ⟨n, dx, k _ _ n e⟩
  | .sp a b, o, h => by
    obtain ⟨n, dx, e⟩ := h
    exact ⟨n, dx, k _ _ n e⟩
  | .le s, o, h => by
    obtain ⟨n, dx, e⟩ := h
    exact ⟨n, dx, k _ _ n e⟩
  | .one i f, o, h => by
    obtain ⟨n, dx, j, e, q⟩ := h
    exact ⟨n, dx, j, k _ _ n e, FAt.keep k f q⟩
  | .two i ns fs, o, h => by
    obtain ⟨n, dx, l1, l2, os, e, n1, n2, e1, e2, q⟩ := h
    exact ⟨n, dx, l1, l2, os, k _ _ n e, n1, n2, k _ _ n1 e1, k _ _ n2 e2, FsAt.keep k fs q⟩
theorem FsAt.keep {c : FC} {X : List Addr} {H H' : Hp} (k : ∀ b u, b ∉ X → H b = some u → H' b = some u) : ∀ (fs : List Fm) {os : List Addr}, FsAt c X H fs os → FsAt c X H' fs os
  | [], os, h => h
  | f :: fs, os, h => by
    obtain ⟨o, r, e, q, q2⟩ := h
    exact ⟨o, r, e, FAt.keep k f q, FsAt.keep k fs q2⟩
end
mutual
theorem FAt.weak {c : FC} {X Y : List Addr} {H : Hp} (hs : ∀ x, x ∈ X → x ∈ Y) : ∀ (f : Fm) {o : Addr}, FAt c Y H f o → FAt c X H f o
  | .bare i, o, h => ⟨fun z => h.1 (hs _ z), h.2⟩
  | .sp a b, o, h => ⟨fun z => h.1 (hs _ z), h.2⟩
  | .le s, o, h => ⟨fun z => h.1 (hs _ z), h.2⟩
  | .one i f, o, h => by
    obtain ⟨n, dx, j, e, q⟩ := h
    exact ⟨fun z => n (hs _ z), dx, j, e, FAt.weak hs f q⟩
  | .two i ns fs, o, h => by
    obtain ⟨n, dx, l1, l2, os, e, n1, n2, e1, e2, q⟩ := h
    exact ⟨fun z => n (hs _ z), dx, l1, l2, os, e, fun z => n1 (hs _ z), fun z => n2 (hs _ z), e1, e2, FsAt.weak hs fs q⟩
theorem FsAt.weak {c : FC} {X Y : List Addr} {H : Hp} (hs : ∀ x, x ∈ X → x ∈ Y) : ∀ (fs : List Fm) {os : List Addr}, FsAt c Y H fs os → FsAt c X H fs os
  | [], os, h => h
  | f :: fs, os, h => by
    obtain ⟨o, r, e, q, q2⟩ := h
    exact ⟨o, r, e, FAt.weak hs f q, FsAt.weak hs fs q2⟩
end
theorem FsAt.snoc {c : FC} {X : List Addr} {H : Hp} {f : Fm} {o : Addr} (hf : FAt c X H f o) : ∀ (fs : List Fm) {os : List Addr}, FsAt c X H fs os → FsAt c X H (fs ++ [f]) (os ++ [o])
  | [], os, h => by
    obtain rfl : os = [] := h
    exact ⟨o, [], rfl, hf, rfl⟩
  | g :: fs, os, h => by
    obtain ⟨o', r, rfl, q, q2⟩ := h
    exact ⟨o', r ++ [o], rfl, q, FsAt.snoc hf fs q2⟩
theorem FsAt.len {c : FC} {X : List Addr} {H : Hp} : ∀ (fs : List Fm) {os : List Addr}, FsAt c X H fs os → os.length = fs.length
  | [], os, h => by
    obtain rfl : os = [] := h
    rfl
  | g :: fs, os, h => by
    obtain ⟨o', r, rfl, q, q2⟩ := h
    rw [List.length_cons, FsAt.len fs q2]; rfl
/-- the word and the body of a form in brackets -/
def wd : Fm → Str
  | .bare k => bw k
  | .sp _ _ => Str.ofString "span"
  | .le _ => Str.ofString "letters"
  | .one k _ => ow k
  | .two k _ _ => tw k
def bd : Fm → List Nat
  | .bare _ => []
  | .sp a b => num a ++ (cp ", " ++ num b)
  | .le s => s.cps.toList
  | .one _ f => sh f
  | .two _ ns fs => shs fs ns
def isB : Fm → Bool
  | .bare _ => true
  | _ => false
theorem sh_brk (f : Fm) (h : isB f = false) : sh f = (wd f).cps.toList ++ (cp "(" ++ (bd f ++ cp ")")) := by
  cases f with
  | bare k => cases h
  | sp a b => rw [sh]; rfl
  | le s => rw [sh]; rfl
  | one k f => rw [sh]; rfl
  | two k ns fs => rw [sh]; rfl
theorem wd_small (f : Fm) : ∀ ch, ch ∈ (wd f).cps.toList → ch ∈ L26.cps.toList := by
  have hb : ∀ k : Fin 4, ∀ ch, ch ∈ (bw k).cps.toList → ch ∈ L26.cps.toList := by decide +kernel
  have ho : ∀ k : Fin 3, ∀ ch, ch ∈ (ow k).cps.toList → ch ∈ L26.cps.toList := by decide +kernel
  have ht : ∀ k : Fin 2, ∀ ch, ch ∈ (tw k).cps.toList → ch ∈ L26.cps.toList := by decide +kernel
  have hs : ∀ ch, ch ∈ (Str.ofString "span").cps.toList → ch ∈ L26.cps.toList := by decide +kernel
  have hl : ∀ ch, ch ∈ (Str.ofString "letters").cps.toList → ch ∈ L26.cps.toList := by decide +kernel
  cases f with
  | bare k => exact hb k
  | sp a b => exact hs
  | le s => exact hl
  | one k f => exact ho k
  | two k ns fs => exact ht k
def FIG : Str := "0123456789"
theorem fig_mem {c : Nat} (h : 48 ≤ c ∧ c ≤ 57) : c ∈ FIG.cps.toList := by
  have : ∀ k : Fin 10, (48 + k.val) ∈ FIG.cps.toList := by decide +kernel
  have h2 := this ⟨c - 48, by omega⟩
  rwa [show 48 + (c - 48) = c by omega] at h2
theorem ht_pos : ∀ f : Fm, 1 ≤ ht f
  | .bare _ => by rw [ht]; exact Nat.le_refl _
  | .sp _ _ => by rw [ht]; exact Nat.le_refl _
  | .le _ => by rw [ht]; exact Nat.le_refl _
  | .one _ f => by rw [ht]; omega
  | .two _ _ fs => by rw [ht]; omega
mutual
theorem FAt.add {c : FC} {X : List Addr} {H : Hp} {l : Addr} (hl : H l = none) : ∀ (f : Fm) {o : Addr}, FAt c X H f o → FAt c (l :: X) H f o
  | .bare i, o, h => by
    obtain ⟨n, dx, e⟩ := h
    exact ⟨fun z => (List.mem_cons.mp z).elim (fun y => by rw [y, hl] at e; cases e) n, dx, e⟩
  | .sp a b, o, h => by
    obtain ⟨n, dx, e⟩ := h
    exact ⟨fun z => (List.mem_cons.mp z).elim (fun y => by rw [y, hl] at e; cases e) n, dx, e⟩
  | .le s, o, h => by
    obtain ⟨n, dx, e⟩ := h
    exact ⟨fun z => (List.mem_cons.mp z).elim (fun y => by rw [y, hl] at e; cases e) n, dx, e⟩
  | .one i f, o, h => by
    obtain ⟨n, dx, j, e, q⟩ := h
    exact ⟨fun z => (List.mem_cons.mp z).elim (fun y => by rw [y, hl] at e; cases e) n, dx, j, e, FAt.add hl f q⟩
  | .two i ns fs, o, h => by
    obtain ⟨n, dx, l1, l2, os, e, n1, n2, e1, e2, q⟩ := h
    exact ⟨fun z => (List.mem_cons.mp z).elim (fun y => by rw [y, hl] at e; cases e) n, dx, l1, l2, os, e, fun z => (List.mem_cons.mp z).elim (fun y => by rw [y, hl] at e1; cases e1) n1, fun z => (List.mem_cons.mp z).elim (fun y => by rw [y, hl] at e2; cases e2) n2, e1, e2, FsAt.add hl fs q⟩
theorem FsAt.add {c : FC} {X : List Addr} {H : Hp} {l : Addr} (hl : H l = none) : ∀ (fs : List Fm) {os : List Addr}, FsAt c X H fs os → FsAt c (l :: X) H fs os
  | [], os, h => h
  | f :: fs, os, h => by
    obtain ⟨o, r, e, q, q2⟩ := h
    exact ⟨o, r, e, FAt.add hl f q, FsAt.add hl fs q2⟩
end
inductive Sl where
  | b (k : Fin 4) | s | l | o (k : Fin 3) | t (k : Fin 2)
def clS (c : FC) : Sl → Addr
  | .b k => c.b k
  | .s => c.s
  | .l => c.l
  | .o k => c.o k
  | .t k => c.t k
def slot : Fm → Sl
  | .bare k => .b k
  | .sp _ _ => .s
  | .le _ => .l
  | .one k _ => .o k
  | .two k _ _ => .t k
theorem FAt.ins {c : FC} {X : List Addr} {H : Hp} {m : Str} (h1 : (m == ("low" : Str)) = false) (h2 : (m == ("high" : Str)) = false) (h3 : (m == ("signs" : Str)) = false) (h4 : (m == ("inner" : Str)) = false) (h5 : (m == ("names" : Str)) = false) (h6 : (m == ("forms" : Str)) = false) :
    ∀ (f : Fm) {o : Addr}, FAt c X H f o → ∃ dx fs, H o = some (.ins (clS c (slot f)) dx fs) ∧ fs.lookup m = none
  | .bare i, o, h => by
    obtain ⟨n, dx, e⟩ := h
    exact ⟨dx, _, e, rfl⟩
  | .sp a b, o, h => by
    obtain ⟨n, dx, e⟩ := h
    exact ⟨dx, _, e, by simp [List.lookup, h1, h2]⟩
  | .le s, o, h => by
    obtain ⟨n, dx, e⟩ := h
    exact ⟨dx, _, e, by simp [List.lookup, h3]⟩
  | .one i f, o, h => by
    obtain ⟨n, dx, j, e, q⟩ := h
    exact ⟨dx, _, e, by simp [List.lookup, h4]⟩
  | .two i ns fs, o, h => by
    obtain ⟨n, dx, l1, l2, os, e, _⟩ := h
    exact ⟨dx, _, e, by simp [List.lookup, h5, h6]⟩
theorem comp_rangeI {lo : Int} {n : Nat} {g : TG} {te : TE} {Q : VK} {H : Hp} {D : Addr} {σ0 : St} (f : Nat → V) (S : St → Prop) (hn : n ≤ 100000) (h0 : S σ0) (hD : H D = none)
    (ht : ∀ i : Nat, i < n → ∀ σ1 H1, S σ1 → Same H H1 → ∀ R : St → V → Hp → Prop, (∀ σ2, S σ2 → R σ2 (f i) H1) → g (.int (lo + (i : Int))) σ1 H1 fun σ2 H2 => te σ2 H2 fun y H4 => R σ2 y H4)
    (hq : Q (.ref D) (upd H D (.lst ((List.range n).map f)))) : CompGo (Itr lo n) g tYes te Q σ0 H D := by
  refine comp_rangeF (fun _ => true) f S hn h0 hD (fun i hi σ1 H1 hS hs R R' hR => ?_) (by rw [List.filter_eq_self.mpr fun _ _ => rfl]; exact hq)
  exact ht i hi σ1 H1 hS hs R fun σ2 h2 => by have := hR σ2 h2; rwa [if_pos rfl] at this
end L2

end
namespace KR
open PySem L2 KM
def top (i : Nat) : Stmt := PySem.Challenge.pw_keyrise_k31_forms_read_and_shown.main.body.getD i (.Pass ⟨0, 0, 0, 0⟩)
abbrev s_law_cell_at : Stmt := top 75
abbrev s_law_mixed : Stmt := top 76
abbrev s_made_of : Stmt := top 40
abbrev s_is_name : Stmt := top 53
abbrev s_names_of : Stmt := top 54
abbrev s_Span_init : Stmt := inClass (top 45) 0
abbrev s_Letters_init : Stmt := inClass (top 47) 0
abbrev s_Record_init : Stmt := inClass (top 58) 0
abbrev s_Choice_init : Stmt := inClass (top 59) 0
abbrev s_Maybe_init : Stmt := inClass (top 56) 0
abbrev s_Many_init : Stmt := inClass (top 57) 0
abbrev s_Turned_init : Stmt := inClass (top 60) 0
abbrev s_Cursor_init : Stmt := inClass (top 64) 0
abbrev s_Cursor_ended : Stmt := inClass (top 64) 1
abbrev s_Cursor_skip : Stmt := inClass (top 64) 2
abbrev s_Cursor_expect : Stmt := inClass (top 64) 3
abbrev s_Cursor_run_of : Stmt := inClass (top 64) 4
abbrev s_number_at : Stmt := top 65
abbrev s_bare_form : Stmt := top 70
abbrev s_part_at : Stmt := top 68
abbrev s_parts_at : Stmt := top 69
abbrev s_span_at : Stmt := top 66
abbrev s_letters_at : Stmt := top 67
abbrev s_bracketed_form_at : Stmt := top 71
abbrev s_form_at : Stmt := top 72
abbrev s_form_of : Stmt := top 73
abbrev s_law_numbers_of : Stmt := top 77
abbrev s_law_names : Stmt := top 78
abbrev s_law_simple : Stmt := top 79
abbrev s_law_tree : Stmt := top 80
abbrev s_law_text : Stmt := top 81
abbrev s_law_drawn : Stmt := top 82
abbrev s_law_kinds : Stmt := top 83
abbrev s_law_good : Stmt := top 84
abbrev s_law : Stmt := top 85
abbrev s_shown_parts : Stmt := top 55
abbrev s_Record_shown : Stmt := inClass (top 58) 5
abbrev s_Choice_shown : Stmt := inClass (top 59) 5
abbrev s_Nothing_shown : Stmt := inClass (top 42) 4
abbrev s_Truth_shown : Stmt := inClass (top 43) 4
abbrev s_Whole_shown : Stmt := inClass (top 44) 4
abbrev s_Fraction_shown : Stmt := inClass (top 46) 4
abbrev s_Span_shown : Stmt := inClass (top 45) 5
abbrev s_Letters_shown : Stmt := inClass (top 47) 6
abbrev s_Maybe_shown : Stmt := inClass (top 56) 5
abbrev s_Many_shown : Stmt := inClass (top 57) 5
abbrev s_Turned_shown : Stmt := inClass (top 60) 5
theorem sc_law_cell_at : FnScope ["_law_script", "_law_k"] ["_law_script", "_law_k"] (defScope s_law_cell_at) := ⟨rfl, rfl, rfl, by decide +kernel, rfl, by decide +kernel, by decide +kernel⟩
theorem sc_law_mixed : FnScope ["_law_cell", "_law_k", "_law_number"] ["_law_cell", "_law_k"] (defScope s_law_mixed) := ⟨rfl, rfl, rfl, by decide +kernel, rfl, by decide +kernel, by decide +kernel⟩
theorem sc_made_of : FnScope ["text", "signs"] ["text", "signs"] (defScope s_made_of) := ⟨rfl, rfl, rfl, by decide +kernel, rfl, by decide +kernel, by decide +kernel⟩
theorem sc_is_name : FnScope ["name"] ["name"] (defScope s_is_name) := ⟨rfl, rfl, rfl, by decide +kernel, rfl, by decide +kernel, by decide +kernel⟩
theorem sc_names_of : FnScope ["parts", "names"] ["parts"] (defScope s_names_of) := ⟨rfl, rfl, rfl, by decide +kernel, rfl, by decide +kernel, by decide +kernel⟩
theorem sc_Span_init : FnScope ["self", "low", "high"] ["self", "low", "high"] (defScope s_Span_init) := ⟨rfl, rfl, rfl, by decide +kernel, rfl, by decide +kernel, by decide +kernel⟩
theorem sc_Letters_init : FnScope ["self", "signs"] ["self", "signs"] (defScope s_Letters_init) := ⟨rfl, rfl, rfl, by decide +kernel, rfl, by decide +kernel, by decide +kernel⟩
theorem sc_Record_init : FnScope ["self", "parts"] ["self", "parts"] (defScope s_Record_init) := ⟨rfl, rfl, rfl, by decide +kernel, rfl, by decide +kernel, by decide +kernel⟩
theorem sc_Choice_init : FnScope ["self", "cases"] ["self", "cases"] (defScope s_Choice_init) := ⟨rfl, rfl, rfl, by decide +kernel, rfl, by decide +kernel, by decide +kernel⟩
theorem sc_Maybe_init : FnScope ["self", "inner"] ["self", "inner"] (defScope s_Maybe_init) := ⟨rfl, rfl, rfl, by decide +kernel, rfl, by decide +kernel, by decide +kernel⟩
theorem sc_Many_init : FnScope ["self", "inner"] ["self", "inner"] (defScope s_Many_init) := ⟨rfl, rfl, rfl, by decide +kernel, rfl, by decide +kernel, by decide +kernel⟩
theorem sc_Turned_init : FnScope ["self", "inner"] ["self", "inner"] (defScope s_Turned_init) := ⟨rfl, rfl, rfl, by decide +kernel, rfl, by decide +kernel, by decide +kernel⟩
theorem sc_Cursor_init : FnScope ["self", "text"] ["self", "text"] (defScope s_Cursor_init) := ⟨rfl, rfl, rfl, by decide +kernel, rfl, by decide +kernel, by decide +kernel⟩
theorem sc_Cursor_ended : FnScope ["self"] ["self"] (defScope s_Cursor_ended) := ⟨rfl, rfl, rfl, by decide +kernel, rfl, by decide +kernel, by decide +kernel⟩
theorem sc_Cursor_skip : FnScope ["self", "words", "there"] ["self", "words"] (defScope s_Cursor_skip) := ⟨rfl, rfl, rfl, by decide +kernel, rfl, by decide +kernel, by decide +kernel⟩
theorem sc_Cursor_expect : FnScope ["self", "words"] ["self", "words"] (defScope s_Cursor_expect) := ⟨rfl, rfl, rfl, by decide +kernel, rfl, by decide +kernel, by decide +kernel⟩
theorem sc_Cursor_run_of : FnScope ["self", "signs", "start"] ["self", "signs"] (defScope s_Cursor_run_of) := ⟨rfl, rfl, rfl, by decide +kernel, rfl, by decide +kernel, by decide +kernel⟩
theorem sc_number_at : FnScope ["cursor", "below", "figures"] ["cursor"] (defScope s_number_at) := ⟨rfl, rfl, rfl, by decide +kernel, rfl, by decide +kernel, by decide +kernel⟩
theorem sc_bare_form : FnScope ["word"] ["word"] (defScope s_bare_form) := ⟨rfl, rfl, rfl, by decide +kernel, rfl, by decide +kernel, by decide +kernel⟩
theorem sc_part_at : FnScope ["cursor", "depth", "name"] ["cursor", "depth"] (defScope s_part_at) := ⟨rfl, rfl, rfl, by decide +kernel, rfl, by decide +kernel, by decide +kernel⟩
theorem sc_parts_at : FnScope ["cursor", "depth", "parts"] ["cursor", "depth"] (defScope s_parts_at) := ⟨rfl, rfl, rfl, by decide +kernel, rfl, by decide +kernel, by decide +kernel⟩
theorem sc_span_at : FnScope ["cursor", "low"] ["cursor"] (defScope s_span_at) := ⟨rfl, rfl, rfl, by decide +kernel, rfl, by decide +kernel, by decide +kernel⟩
theorem sc_letters_at : FnScope ["cursor"] ["cursor"] (defScope s_letters_at) := ⟨rfl, rfl, rfl, by decide +kernel, rfl, by decide +kernel, by decide +kernel⟩
theorem sc_bracketed_form_at : FnScope ["cursor", "word", "depth"] ["cursor", "word", "depth"] (defScope s_bracketed_form_at) := ⟨rfl, rfl, rfl, by decide +kernel, rfl, by decide +kernel, by decide +kernel⟩
theorem sc_form_at : FnScope ["cursor", "depth", "word", "form"] ["cursor", "depth"] (defScope s_form_at) := ⟨rfl, rfl, rfl, by decide +kernel, rfl, by decide +kernel, by decide +kernel⟩
theorem sc_form_of : FnScope ["text", "cursor", "form"] ["text"] (defScope s_form_of) := ⟨rfl, rfl, rfl, by decide +kernel, rfl, by decide +kernel, by decide +kernel⟩
theorem sc_law_numbers_of : FnScope ["_law_script", "_law_many", "_law_salt", "_law_start", "_law_left", "_law_k"] ["_law_script", "_law_many", "_law_salt"] (defScope s_law_numbers_of) := ⟨rfl, rfl, rfl, by decide +kernel, rfl, by decide +kernel, by decide +kernel⟩
theorem sc_law_names : FnScope ["_law_number", "_law_many", "_law_letters", "_law_words", "_law_way", "_law_size", "_law_rest", "_law_base", "_law_k", "_law_at", "_law_turn", "_law_tail"] ["_law_number", "_law_many"] (defScope s_law_names) := ⟨rfl, rfl, rfl, by decide +kernel, rfl, by decide +kernel, by decide +kernel⟩
theorem sc_law_simple : FnScope ["_law_word", "_law_number", "_law_last", "_law_low", "_law_high", "_law_signs", "_law_at"] ["_law_word", "_law_number", "_law_last"] (defScope s_law_simple) := ⟨rfl, rfl, rfl, by decide +kernel, rfl, by decide +kernel, by decide +kernel⟩
theorem sc_law_tree : FnScope ["_law_left", "_law_deep", "_law_words", "_law_number", "_law_word", "_law_inner"] ["_law_left", "_law_deep"] (defScope s_law_tree) := ⟨rfl, rfl, rfl, by decide +kernel, rfl, by decide +kernel, by decide +kernel⟩
theorem sc_law_text : FnScope ["_law_tree_here", "_law_word", "_law_extra", "_law_inner", "_law_some"] ["_law_tree_here"] (defScope s_law_text) := ⟨rfl, rfl, rfl, by decide +kernel, rfl, by decide +kernel, by decide +kernel⟩
theorem sc_law_drawn : FnScope ["_law_script", "_law_salt", "_law_number", "_law_left", "_law_wraps", "_law_tree_here", "_law_k"] ["_law_script", "_law_salt"] (defScope s_law_drawn) := ⟨rfl, rfl, rfl, by decide +kernel, rfl, by decide +kernel, by decide +kernel⟩
theorem sc_law_kinds : FnScope ["_law_form", "_law_told"] ["_law_form"] (defScope s_law_kinds) := ⟨rfl, rfl, rfl, by decide +kernel, rfl, by decide +kernel, by decide +kernel⟩
theorem sc_law_good : FnScope ["_law_form", "_law_tree_here", "_law_words", "_law_told"] ["_law_form", "_law_tree_here"] (defScope s_law_good) := ⟨rfl, rfl, rfl, by decide +kernel, rfl, by decide +kernel, by decide +kernel⟩
theorem sc_law : FnScope ["_law_script", "_law_one", "_law_other", "_law_first", "_law_second"] ["_law_script"] (defScope s_law) := ⟨rfl, rfl, rfl, by decide +kernel, rfl, by decide +kernel, by decide +kernel⟩
theorem sc_shown_parts : FnScope ["names", "forms"] ["names", "forms"] (defScope s_shown_parts) := ⟨rfl, rfl, rfl, by decide +kernel, rfl, by decide +kernel, by decide +kernel⟩
theorem sc_Record_shown : FnScope ["self"] ["self"] (defScope s_Record_shown) := ⟨rfl, rfl, rfl, by decide +kernel, rfl, by decide +kernel, by decide +kernel⟩
theorem sc_Choice_shown : FnScope ["self"] ["self"] (defScope s_Choice_shown) := ⟨rfl, rfl, rfl, by decide +kernel, rfl, by decide +kernel, by decide +kernel⟩
theorem sc_Nothing_shown : FnScope ["self"] ["self"] (defScope s_Nothing_shown) := ⟨rfl, rfl, rfl, by decide +kernel, rfl, by decide +kernel, by decide +kernel⟩
theorem sc_Truth_shown : FnScope ["self"] ["self"] (defScope s_Truth_shown) := ⟨rfl, rfl, rfl, by decide +kernel, rfl, by decide +kernel, by decide +kernel⟩
theorem sc_Whole_shown : FnScope ["self"] ["self"] (defScope s_Whole_shown) := ⟨rfl, rfl, rfl, by decide +kernel, rfl, by decide +kernel, by decide +kernel⟩
theorem sc_Fraction_shown : FnScope ["self"] ["self"] (defScope s_Fraction_shown) := ⟨rfl, rfl, rfl, by decide +kernel, rfl, by decide +kernel, by decide +kernel⟩
theorem sc_Span_shown : FnScope ["self"] ["self"] (defScope s_Span_shown) := ⟨rfl, rfl, rfl, by decide +kernel, rfl, by decide +kernel, by decide +kernel⟩
theorem sc_Letters_shown : FnScope ["self"] ["self"] (defScope s_Letters_shown) := ⟨rfl, rfl, rfl, by decide +kernel, rfl, by decide +kernel, by decide +kernel⟩
theorem sc_Maybe_shown : FnScope ["self"] ["self"] (defScope s_Maybe_shown) := ⟨rfl, rfl, rfl, by decide +kernel, rfl, by decide +kernel, by decide +kernel⟩
theorem sc_Many_shown : FnScope ["self"] ["self"] (defScope s_Many_shown) := ⟨rfl, rfl, rfl, by decide +kernel, rfl, by decide +kernel, by decide +kernel⟩
theorem sc_Turned_shown : FnScope ["self"] ["self"] (defScope s_Turned_shown) := ⟨rfl, rfl, rfl, by decide +kernel, rfl, by decide +kernel, by decide +kernel⟩
/-- Python's own names are not given another meaning -/
structure NB (mg : Str → Option Value) : Prop where
  len_ : mg "len" = none
  range_ : mg "range" = none
  int_ : mg "int" = none
  str_ : mg "str" = none
  bool_ : mg "bool" = none
  tuple_ : mg "tuple" = none
  isinstance_ : mg "isinstance" = none
  min_ : mg "min" = none
  max_ : mg "max" = none
  list_ : mg "list" = none
  all_ : mg "all" = none
  reversed_ : mg "reversed" = none
  enumerate_ : mg "enumerate" = none
  zip_ : mg "zip" = none
  set_ : mg "set" = none
section
open PySem L2 KM
variable {P : Program} {w : World} {K : PySem.W.Frag} {mg : Str → Option Value} {base : Heap}
seal PE PT PW PA PS PSs PG PGs PI PTs PC PO

local macro_rules | `(tactic| walk_at "g1") => `(tactic| first
  | with_reducible exact True.intro
  | refine ⟨_, rfl, ?_⟩
  | refine ⟨_, _, rfl, rfl, ?_⟩
  | refine Or.inl ⟨_, _, rfl, rfl, ?_⟩
  | refine Or.inr ⟨_, _, rfl, rfl, ?_⟩
  | refine ⟨rfl, ?_⟩
  | refine ⟨(by first | omega | decide), ?_⟩)
local macro_rules | `(tactic| walk_at "g") => `(tactic| repeat walk_at "g1")
theorem iteD {p A B : Prop} [Decidable p] (h1 : p → A) (h2 : ¬ p → B) : if decide p = true then A else B := by
  by_cases h : p
  · rw [if_pos (decide_eq_true h)]; exact h1 h
  · rw [if_neg (by simpa using h)]; exact h2 h
theorem iteN {p A B : Prop} [Decidable p] (h : ¬ p) (h2 : B) : if decide p = true then A else B := by rw [if_neg (by simpa using h)]; exact h2
theorem iteY {p A B : Prop} [Decidable p] (h : p) (h2 : A) : if decide p = true then A else B := by rw [if_pos (decide_eq_true h)]; exact h2

/-! ### rows of signs -/
theorem small5 {n : Nat} (h : n ≤ 100000) : n ≤ sizeLine := Nat.le_trans h (by decide)
/-! ### the law's own helpers -/
def spCellAt (K : PySem.W.Frag) : Sp := fun vs H Q _ => ∃ (a : Addr) (ns : List Int) (k : Nat), vs = [.ref a, .int k] ∧ SqL K H a (ns.map V.int) ∧ ns.length ≤ 63 ∧ Q (.int (ns.getD k 0)) H
theorem ok_law_cell_at {f : Addr} {fd : FuncData} (nb : NB mg) (F : FunAt K mg "_law_cell_at" s_law_cell_at ["_law_script", "_law_k"] f fd) : DefOk P w K mg base 1 "_law_cell_at" ["_law_script", "_law_k"] (spCellAt K) := by
  refine F.ok sc_law_cell_at (fun vs H Q E h => ?_) (fun cdv A outer s H vs Q E hr h => ?_)
  · obtain ⟨a, ns, k, rfl, _⟩ := h; rfl
  obtain ⟨a, ns, k, rfl, hS, hl, q⟩ := h
  refine ⟨_, (pss_cons (ps_if (pt_cmpR oLt (pv 1) (pe_callB call_len rfl nb.len_ bo_len (pa_cons (pv 0) pa_nil)) (nomark _)) (pss_one (ps_ret (pe_ix iAll (pv 0) (pv 1) (fun _ _ => rfl)))) pss_nil)
    (pss_one (ps_ret pe_int))), ?_⟩
  refine ⟨_, rfl, _, rfl, _, _, rfl, .inl ⟨_, hS, rfl⟩, .inl ⟨_, _, rfl, rfl, _, rfl, ?_⟩⟩
  rw [List.length_map]
  refine iteD (fun c => ?_) (fun c => ?_)
  · have hk : k < ns.length := by omega
    refine ⟨_, rfl, _, rfl, .inl (.inl ⟨_, _, _, _, rfl, rfl, hS, atI_nat (by rw [List.getElem?_map, List.getElem?_eq_getElem hk]; rfl), H, .refl (Same.refl _), ?_⟩)⟩
    have e : ns.getD k 0 = ns[k] := by rw [List.getD_eq_getElem?_getD, List.getElem?_eq_getElem hk]; rfl
    rw [← e]
    exact q
  · have e : ns.getD k 0 = 0 := by rw [List.getD_eq_getElem?_getD, List.getElem?_eq_none (by omega)]; rfl
    rw [e] at q
    exact ⟨H, .refl (Same.refl _), q⟩
def spMixed : Sp := fun vs H Q _ => ∃ c k : Int, vs = [.int c, .int k] ∧ ∀ v : Int, 0 ≤ v → v < 2147483587 → Q (.int v) H
theorem modb {a b : Int} (h : 0 < b) : 0 ≤ a % b ∧ a % b < b := ⟨Int.emod_nonneg _ (Int.ne_of_gt h), Int.emod_lt_of_pos _ h⟩
theorem ok_law_mixed {f : Addr} {fd : FuncData} (F : FunAt K mg "_law_mixed" s_law_mixed ["_law_cell", "_law_k"] f fd) : DefOk P w K mg base 1 "_law_mixed" ["_law_cell", "_law_k"] spMixed := by
  refine F.ok sc_law_mixed (fun vs H Q E h => ?_) (fun cdv A outer s H vs Q E hr h => ?_)
  · obtain ⟨c, k, rfl, _⟩ := h; rfl
  obtain ⟨c, k, rfl, q⟩ := h
  refine ⟨_, (pss_cons (ps_set (i := 2) sc_law_mixed.nd rfl (by first | exact Or.inl rfl | exact Or.inr rfl) (pe_op op_mod (pe_op oAdd (pe_op oAdd (pe_op oMul (pe_op op_mod (pv 0) pe_int) pe_int) (pe_op oMul (pv 1) pe_int)) pe_int) pe_int))
    (pss_cons (ps_set (i := 2) sc_law_mixed.nd rfl (by first | exact Or.inl rfl | exact Or.inr rfl) (pe_op op_mod (pe_op oMul (pv 2) (pv 2)) pe_int))
    (pss_one (ps_ret (pe_op op_mod (pe_op oMul (pv 2) (pv 2)) pe_int))))), ?_⟩
  refine ⟨_, rfl, _, _, rfl, rfl, (by show (0 : Int) < _; decide), .inl ⟨_, _, rfl, rfl, .inr ⟨by decide, by decide⟩, ?_⟩⟩
  refine ⟨_, rfl, .inl ⟨_, _, rfl, rfl, .inr ⟨by decide, by decide⟩, .inl ⟨_, _, rfl, rfl, .inl ⟨_, _, rfl, rfl, _, _, rfl, rfl, (by show (0 : Int) < _; decide), ?_⟩⟩⟩⟩
  obtain ⟨b1, b2⟩ := modb (a := (c % 2147483647 * 48271 + k * 69621 + 11)) (b := 2147483647) (by decide)
  generalize (c % 2147483647 * 48271 + k * 69621 + 11) % 2147483647 = n1 at b1 b2 ⊢
  refine ⟨_, rfl, _, rfl, .inl ⟨_, _, rfl, rfl, .inr ⟨by omega, by omega⟩, _, _, rfl, rfl, (by show (0 : Int) < _; decide), ?_⟩⟩
  obtain ⟨b3, b4⟩ := modb (a := n1 * n1) (b := 2147483629) (by decide)
  generalize n1 * n1 % 2147483629 = n2 at b3 b4 ⊢
  refine ⟨_, rfl, _, rfl, .inl ⟨_, _, rfl, rfl, .inr ⟨by omega, by omega⟩, _, _, rfl, rfl, (by show (0 : Int) < _; decide), H, .refl (Same.refl _), ?_⟩⟩
  exact q _ (modb (by decide)).1 (modb (by decide)).2

/-! ### texts and names, as the forms ask them -/
theorem one_ok : 1 ≤ sizeLine := by decide
def spMadeOf : Sp := fun vs H Q _ => ∃ t s : Str, vs = [.str t, .str s] ∧ t.length ≤ 1000 ∧ Q (.bl (madeOf t s)) H
theorem ok_made_of {f : Addr} {fd : FuncData} (nb : NB mg) (F : FunAt K mg "made_of" s_made_of ["text", "signs"] f fd) : DefOk P w K mg base 1 "made_of" ["text", "signs"] spMadeOf := by
  refine F.ok sc_made_of (fun vs H Q E h => ?_) (fun cdv A outer s H vs Q E hr h => ?_)
  · obtain ⟨_, _, rfl, _⟩ := h; rfl
  obtain ⟨t, sg, rfl, ht, q⟩ := h
  refine ⟨_, (pss_one (ps_ret (pe_callB (call_all rfl) rfl nb.all_ bo_all (pa_cons (pe_comp ["sign"] [(1, "signs")] rfl (by decide +kernel) ⟨rfl, .inl rfl, trivial⟩ (piAll (pv 0)) (fun _ _ _ _ _ => (pg_name (i := 0) (show (["sign", "signs"] : List Str).Nodup by decide +kernel) rfl (by first | exact Or.inl rfl | exact Or.inr rfl))) (fun _ _ _ _ _ => pts_nil) (fun _ _ _ _ _ => (pe_cmpR op_in_str (pv 0) (pv 1) (by with_unfolding_all rfl)))) pa_nil)))), ?_⟩
  refine .inr ⟨_, rfl, t, rfl, fun D hD => ?_⟩
  refine comp_str (fun c => .bl (decide (c ∈ sg.cps.toList))) (fun σ => ∃ z, σ = [z, some (.str sg)]) (small5 (by show t.length ≤ _; omega)) ⟨_, rfl⟩ hD ?_ ?_
  · rintro c hc σ1 H1 ⟨z, rfl⟩ hs R hR
    refine ⟨_, rfl, _, rfl, _, _, rfl, rfl, ?_⟩
    rw [StrLaws.found_one]
    exact hR _ ⟨_, rfl⟩
  · refine ⟨D, t.cps.toList.map fun c => decide (c ∈ sg.cps.toList), rfl, ?_, H, .refl (same_new hD), ?_⟩
    · rw [List.map_map]; exact SqL.of upd_same
    · rw [List.all_map]; exact q
def spIsName : Sp := fun vs H Q _ => ∃ n : Str, vs = [.str n] ∧ n.length ≤ 1000 ∧ Q (.bl (isName n)) H
theorem ok_is_name {f : Addr} {fd : FuncData} (nb : NB mg) (g_LONGEST_NAME : GlobV mg "LONGEST_NAME" (.int 12)) (g_SMALL_LETTERS : GlobV mg "SMALL_LETTERS" (.str L26)) (F : FunAt K mg "is_name" s_is_name ["name"] f fd) (D_made_of : DefOk P w K mg base 1 "made_of" ["text", "signs"] spMadeOf) : DefOk P w K mg base 2 "is_name" ["name"] spIsName := by
  refine F.ok sc_is_name (fun vs H Q E h => ?_) (fun cdv A outer s H vs Q E hr h => ?_)
  · obtain ⟨_, rfl, _⟩ := h; rfl
  obtain ⟨n, rfl, hn, q⟩ := h
  refine ⟨_, (pss_one (ps_ret (pe_and (pe_cmpR oLt pe_int (pe_callB call_len rfl nb.len_ bo_len (pa_cons (pv 0) pa_nil)) (nomark _)) (pe_and (pe_cmpR oLe (pe_callB call_len rfl nb.len_ bo_len (pa_cons (pv 0) pa_nil)) (pe_globV g_LONGEST_NAME) (nomark _)) (pe_one (pe_callD D_made_of hr (pa_cons (pv 0) (pa_cons (pe_globV g_SMALL_LETTERS) pa_nil)))))))), ?_⟩
  have ln : n.length ≤ sizeLine := small5 (by omega)
  unfold isName at q
  refine ⟨_, rfl, _, _, rfl, ⟨ln, rfl⟩, .inl ⟨_, _, rfl, rfl, _, rfl, ?_⟩⟩
  refine iteD (fun c1 => ?_) (fun c1 => ?_)
  · refine ⟨_, rfl, _, _, rfl, ⟨ln, rfl⟩, _, _, rfl, rfl, _, rfl, ?_⟩
    refine iteD (fun c2 => ?_) (fun c2 => ?_)
    · refine ⟨_, rfl, n, L26, rfl, hn, H, .refl (Same.refl _), ?_⟩
      rw [decide_eq_true ⟨by omega, by omega⟩, Bool.true_and] at q
      exact q
    · rw [decide_eq_false (fun z => c2 (by omega)), Bool.false_and] at q
      exact ⟨H, .refl (Same.refl _), q⟩
  · rw [decide_eq_false (fun z => c1 (by omega)), Bool.false_and] at q
    exact ⟨H, .refl (Same.refl _), q⟩
/-- a list of parts: tuples of a name and a form -/
structure Parts (H : Hp) (p : Addr) (ps : List (Addr × Str × Addr)) : Prop where
  l : H p = some (.lst (ps.map fun x => V.ref x.1))
  t : ∀ x, x ∈ ps → H x.1 = some (.tup [.str x.2.1, .ref x.2.2])
  n : ps.length ≤ 30
  b : ∀ x, x ∈ ps → x.2.1.length ≤ 100
def nms (ps : List (Addr × Str × Addr)) : List Str := ps.map fun x => x.2.1
def fms (ps : List (Addr × Str × Addr)) : List Addr := ps.map fun x => x.2.2
theorem Parts.same {H H' : Hp} {p : Addr} {ps : List (Addr × Str × Addr)} (h : Parts H p ps) (s : Same H H') : Parts H' p ps := ⟨s _ _ h.l, fun x hx => s _ _ (h.t x hx), h.n, h.b⟩
def spNamesOf : Sp := fun vs H Q _ => ∃ p ps, vs = [.ref p] ∧ Parts H p ps ∧ goodNames (nms ps) = true ∧ ∀ D, H D = none → Q (.ref D) (upd H D (.lst ((nms ps).map V.str)))
theorem ok_names_of {f : Addr} {fd : FuncData} (nb : NB mg) (g_MOST_PARTS : GlobV mg "MOST_PARTS" (.int 20)) (F : FunAt K mg "names_of" s_names_of ["parts"] f fd) (D_is_name : DefOk P w K mg base 2 "is_name" ["name"] spIsName) : DefOk P w K mg base 3 "names_of" ["parts"] spNamesOf := by
  refine F.ok sc_names_of (fun vs H Q E h => ?_) (fun cdv A outer s H vs Q E hr h => ?_)
  · obtain ⟨_, _, rfl, _⟩ := h; rfl
  obtain ⟨p, ps, rfl, hP, hg, q⟩ := h
  refine ⟨_, (pss_cons (ps_setComp (i := 1)  ["part"] [] sc_names_of.nd rfl rfl rfl (by decide +kernel) trivial (piAll (pv 0)) (fun _ _ _ _ _ => (pg_name (i := 0) (show (["part"] : List Str).Nodup by decide +kernel) rfl (by first | exact Or.inl rfl | exact Or.inr rfl))) (fun _ _ _ _ _ => pts_nil) (fun _ _ _ _ _ => (pe_ix iAll (pv 0) pe_int (fun _ _ => rfl))))
    (pss_cons (ps_if (PW.pt (pw_or (pt_cmpR oEq (pe_callB call_len rfl nb.len_ bo_len (pa_cons (pv 1) pa_nil)) pe_int (nomark _)) (pw_or1 (pt_cmpR oGt (pe_callB call_len rfl nb.len_ bo_len (pa_cons (pv 1) pa_nil)) (pe_globV g_MOST_PARTS) (nomark _))))) (pss_one ps_never) pss_nil)
    (pss_cons (ps_if (pt_cmpR oLt (pe_lenset rfl rfl nb.len_ rfl nb.set_ (pv 1)) (pe_callB call_len rfl nb.len_ bo_len (pa_cons (pv 1) pa_nil)) (nomark _)) (pss_one ps_never) pss_nil)
    (pss_cons (ps_if (pt_not (pt_truth (pe_callB (call_all rfl) rfl nb.all_ bo_all (pa_cons (pe_comp ["name"] [] rfl (by decide +kernel) trivial (piAll (pv 1)) (fun _ _ _ _ _ => (pg_name (i := 0) (show (["name"] : List Str).Nodup by decide +kernel) rfl (by first | exact Or.inl rfl | exact Or.inr rfl))) (fun _ _ _ _ _ => pts_nil) (fun _ _ _ _ _ => (pe_callD D_is_name hr (pa_cons (pv 0) pa_nil)))) pa_nil)) (fun _ => rfl))) (pss_one ps_never) pss_nil)
    (pss_one (ps_ret (pv 1))))))), ?_⟩
  refine .inl ⟨_, rfl, p, rfl, ⟨_, SqL.of hP.l⟩, fun D hD => ?_⟩
  refine comp_listI (K := K) (a := p) (xs := ps.map fun x => V.ref x.1) (fun i => V.str ((nms ps).getD i Str.empty)) (fun σ => ∃ z, σ = [z]) (by rw [List.length_map]; exact small5 (by have := hP.n; omega)) ⟨_, rfl⟩ hD (SqL.of hP.l) ?_ ?_
  · rintro i x hx σ1 H1 ⟨z, rfl⟩ hs1 R hR
    rw [List.getElem?_map] at hx
    obtain ⟨y, hy, rfl⟩ := Option.map_eq_some_iff.mp hx
    have hm := List.mem_of_getElem? hy
    have e : (nms ps).getD i Str.empty = y.2.1 := by unfold nms; rw [List.getD_eq_getElem?_getD, List.getElem?_map, hy]; rfl
    rw [e] at hR
    exact ⟨_, rfl, .inl (.inr ⟨_, _, _, _, rfl, rfl, SqT.of (hs1 _ _ (hP.t y hm)), atI_nat (j := 0) rfl, hR _ ⟨_, rfl⟩⟩)⟩
  have en : (List.range (ps.map fun x => V.ref x.1).length).map (fun i => V.str ((nms ps).getD i Str.empty)) = (nms ps).map V.str := by
    have h0 := names_range (nms ps)
    rw [show (ps.map fun x => V.ref x.1).length = (nms ps).length by unfold nms; rw [List.length_map, List.length_map]]
    exact h0
  rw [en]
  have hlN : (nms ps).length ≤ 30 := by unfold nms; rw [List.length_map]; exact hP.n
  have hSq : SqL K (upd H D (.lst ((nms ps).map V.str))) D ((nms ps).map V.str) := SqL.of upd_same
  have hds := dsN_le (nms ps)
  unfold goodNames at hg
  refine ⟨_, rfl, _, _, rfl, .inl ⟨_, hSq, rfl⟩, rfl, _, rfl, ?_⟩
  rw [List.length_map]
  simp only [Bool.and_eq_true, decide_eq_true_eq] at hg
  obtain ⟨⟨h0, h20, hd⟩, hall⟩ := hg
  refine iteN (fun z => h0 (by have := V.int.inj z; omega)) ⟨_, rfl, _, _, rfl, .inl ⟨_, hSq, rfl⟩, _, _, rfl, rfl, _, rfl, iteN (by rw [List.length_map]; omega) ?_⟩
  refine ⟨_, rfl, _, _, texts_names hSq, (by unfold scanBound; omega), _, rfl, _, _, rfl, .inl ⟨_, hSq, rfl⟩, .inl ⟨_, _, rfl, rfl, _, rfl, iteN (by rw [List.length_map]; show ¬ (((dsN (nms ps) : Nat) : Int) < _); omega) ?_⟩⟩
  refine .inl ⟨_, rfl, D, rfl, ⟨_, hSq⟩, fun D2 hD2 => ?_⟩
  have hD3 : upd H D (.lst ((nms ps).map V.str)) D = some (.lst ((nms ps).map V.str)) := upd_same
  refine comp_list (K := K) (a := D) (xs := (nms ps).map V.str) (fun x => match x with | .str n => .bl (isName n) | _ => .non) (fun σ => ∃ z, σ = [z]) (by rw [List.length_map]; exact small5 (by omega)) ⟨_, rfl⟩ hD2 hSq ?_ ?_
  · rintro x hx σ1 H1 ⟨z, rfl⟩ hs1 R hR
    obtain ⟨n, hn, rfl⟩ := List.mem_map.mp hx
    obtain ⟨y, hy, rfl⟩ := List.mem_map.mp hn
    have := hP.b y hy
    exact ⟨_, rfl, _, rfl, by omega, hR _ ⟨_, rfl⟩⟩
  · rw [List.map_map]
    refine ⟨D2, (nms ps).map isName, rfl, ?_, _, rfl, ?_⟩
    · rw [List.map_map]; exact SqL.of upd_same
    rw [List.all_map, show (id ∘ isName) = isName from rfl, hall]
    exact iteF ⟨_, rfl, _, .new (o := HO.lst ((nms ps).map V.str)) hD ((same_new hD).trans (same_new hD2)) (by rw [upd_ne (fun z => by rw [← z, hD3] at hD2; cases hD2)]; exact upd_same) trivial, q D hD⟩
/-! ### the classes Span, Letters, Record, Choice -/
structure SpanCls (K : PySem.W.Frag) (C : Addr) : Prop where
  cl : Cls K C
  nL : NoAttr K C "low"
  nH : NoAttr K C "high"
structure LetCls (K : PySem.W.Frag) (C : Addr) : Prop where
  cl : Cls K C
  nS : NoAttr K C "signs"
structure TwoCls (K : PySem.W.Frag) (C : Addr) : Prop where
  cl : Cls K C
  nN : NoAttr K C "names"
  nF : NoAttr K C "forms"
theorem lowhigh : ¬ (("low" : Str) = "high") := by decide +kernel
theorem namesforms : ¬ (("names" : Str) = "forms") := by decide +kernel
theorem put_low (v : V) : putF "low" v [] = ([("low", v)] : List (Str × V)) := rfl
theorem put_high (v w : V) : putF "high" w ([("low", v)] : List (Str × V)) = ([("low", v), ("high", w)] : List (Str × V)) := by simp only [putF, lowhigh, if_false]
theorem put_signs (v : V) : putF "signs" v [] = ([("signs", v)] : List (Str × V)) := rfl
theorem put_names (v : V) : putF "names" v [] = ([("names", v)] : List (Str × V)) := rfl
theorem put_forms (v w : V) : putF "forms" w ([("names", v)] : List (Str × V)) = ([("names", v), ("forms", w)] : List (Str × V)) := by simp only [putF, namesforms, if_false]
theorem look1 (k : Str) (v : V) (r : List (Str × V)) : ((k, v) :: r).lookup k = some v := by simp [List.lookup]
theorem look2 (k k2 : Str) (v w : V) (h : (k2 == k) = false) : ([(k, v), (k2, w)] : List (Str × V)).lookup k2 = some w := by simp [List.lookup, h]
theorem highlow : (("high" : Str) == "low") = false := by decide +kernel
theorem formsnames : (("forms" : Str) == "names") = false := by decide +kernel
def spanF (a b : Int) : List (Str × V) := [("low", .int a), ("high", .int b)]
def letF (s : Str) : List (Str × V) := [("signs", .str s)]
def twoF (l1 l2 : Addr) : List (Str × V) := [("names", .ref l1), ("forms", .ref l2)]
def spSpanInit (C : Addr) : Sp := fun vs H Q _ => ∃ (p dx : Addr) (a b : Int), vs = [.ref p, .int a, .int b] ∧ H p = some (.ins C dx []) ∧ a ≤ b ∧ Q .non (upd H p (.ins C dx (spanF a b)))
theorem ok_span_init {f C : Addr} {fd : FuncData} (T : SpanCls K C) (F : Fun K "__init__" "Span.__init__" s_Span_init f fd) : FnOk P w K mg base CX0 1 f fd ["self", "low", "high"] (spSpanInit C) := by
  refine F.ok sc_Span_init (fun vs H Q E h => ?_) (fun cdv A outer s H vs Q E hr h => ?_)
  · obtain ⟨_, _, _, _, rfl, _⟩ := h; rfl
  obtain ⟨p, dx, a, b, rfl, hp, hab, q⟩ := h
  refine ⟨_, (pss_cons (ps_if (pt_cmpR oGt (pv 1) (pv 2) (nomark _)) (pss_one ps_never) pss_nil)
    (pss_cons (ps_fld (pv 0) (pv 1) rfl)
    (pss_one (ps_fld (pv 0) (pv 2) rfl)))), ?_⟩
  refine ⟨_, rfl, _, rfl, _, _, rfl, rfl, _, rfl, iteN (by omega) ?_⟩
  refine ⟨_, rfl, _, rfl, p, C, dx, _, rfl, hp, T.cl, T.nL, (by show 0 < 1000; decide), ?_⟩
  rw [put_low]
  refine ⟨_, rfl, _, rfl, p, C, dx, _, rfl, upd_same, T.cl, T.nH, (by show 1 < 1000; decide), ?_⟩
  rw [put_high, upd_upd']
  exact q
def spLetInit (C : Addr) : Sp := fun vs H Q _ => ∃ (p dx : Addr) (s : Str), vs = [.ref p, .str s] ∧ H p = some (.ins C dx []) ∧ s.length ≤ 1000 ∧ goodText s = true ∧ Q .non (upd H p (.ins C dx (letF s)))
theorem ok_let_init {f C : Addr} {fd : FuncData} (nb : NB mg) (g_MOST_SIGNS : GlobV mg "MOST_SIGNS" (.int 60)) (g_LETTERS_AND_FIGURES : GlobV mg "LETTERS_AND_FIGURES" (.str L62)) (T : LetCls K C) (F : Fun K "__init__" "Letters.__init__" s_Letters_init f fd) (D_made_of : DefOk P w K mg base 1 "made_of" ["text", "signs"] spMadeOf) : FnOk P w K mg base CX0 2 f fd ["self", "signs"] (spLetInit C) := by
  refine F.ok sc_Letters_init (fun vs H Q E h => ?_) (fun cdv A outer s H vs Q E hr h => ?_)
  · obtain ⟨_, _, _, rfl, _⟩ := h; rfl
  obtain ⟨p, dx, t, rfl, hp, ht, hg, q⟩ := h
  refine ⟨_, (pss_cons (ps_if (PW.pt (pw_or (pt_cmpR oEq (pv 1) pe_str (nomark _)) (pw_or1 (pt_cmpR oGt (pe_callB call_len rfl nb.len_ bo_len (pa_cons (pv 1) pa_nil)) (pe_globV g_MOST_SIGNS) (nomark _))))) (pss_one ps_never) pss_nil)
    (pss_cons (ps_if (pt_cmpR oLt (pe_lenset rfl rfl nb.len_ rfl nb.set_ (pv 1)) (pe_callB call_len rfl nb.len_ bo_len (pa_cons (pv 1) pa_nil)) (nomark _)) (pss_one ps_never) pss_nil)
    (pss_cons (ps_if (pt_not (pt_truth (pe_callD D_made_of hr (pa_cons (pv 1) (pa_cons (pe_globV g_LETTERS_AND_FIGURES) pa_nil))) (fun _ => rfl))) (pss_one ps_never) pss_nil)
    (pss_one (ps_fld (pv 0) (pv 1) rfl))))), ?_⟩
  have ln : t.length ≤ sizeLine := small5 (by omega)
  have hds := dsT_le t
  unfold goodText at hg
  simp only [Bool.and_eq_true, decide_eq_true_eq] at hg
  obtain ⟨⟨h0, h60, hd⟩, hall⟩ := hg
  refine ⟨_, rfl, rfl, _, rfl, iteN (fun z => h0 ((str_nil t).mp (V.str.inj z))) ⟨_, rfl, _, _, rfl, ⟨ln, rfl⟩, _, _, rfl, rfl, _, rfl, iteN (by omega) ?_⟩⟩
  refine ⟨_, rfl, _, _, texts_text t, (by unfold scanBound; show t.length + 1 < _; omega), _, rfl, _, _, rfl, ⟨ln, rfl⟩, .inl ⟨_, _, rfl, rfl, _, rfl, iteN (by show ¬ (((dsT t : Nat) : Int) < _); omega) ?_⟩⟩
  refine ⟨_, rfl, t, L62, rfl, by omega, _, rfl, ?_⟩
  rw [hall]
  refine iteF ⟨_, rfl, _, rfl, p, C, dx, _, rfl, hp, T.cl, T.nS, (by show 0 < 1000; decide), ?_⟩
  rw [put_signs]
  exact q
theorem Parts.keep {H H' : Hp} {p o C dx : Addr} {fs : List (Str × V)} {ps : List (Addr × Str × Addr)} (h : Parts H p ps) (ho : H o = some (.ins C dx fs)) (s : ∀ b u, b ≠ o → H b = some u → H' b = some u) : Parts H' p ps :=
  ⟨s _ _ (fun z => by have := h.l; rw [z, ho] at this; cases this) h.l, fun x hx => s _ _ (fun z => by have := h.t x hx; rw [z, ho] at this; cases this) (h.t x hx), h.n, h.b⟩
def spTwoInit (C : Addr) : Sp := fun vs H Q _ => ∃ (o dx p : Addr) (ps : List (Addr × Str × Addr)), vs = [.ref o, .ref p] ∧ H o = some (.ins C dx []) ∧ Parts H p ps ∧ goodNames (nms ps) = true ∧
  ∀ l1 l2, H l1 = none → H l2 = none → l1 ≠ l2 → Q .non (upd (upd (upd H l1 (.lst ((nms ps).map V.str))) l2 (.lst ((fms ps).map V.ref))) o (.ins C dx (twoF l1 l2)))
theorem ok_rec_init {f C : Addr} {fd : FuncData} (nb : NB mg) (T : TwoCls K C) (F : Fun K "__init__" "Record.__init__" s_Record_init f fd) (D_names_of : DefOk P w K mg base 3 "names_of" ["parts"] spNamesOf) : FnOk P w K mg base CX0 4 f fd ["self", "parts"] (spTwoInit C) := by
  refine F.ok sc_Record_init (fun vs H Q E h => ?_) (fun cdv A outer s H vs Q E hr h => ?_)
  · obtain ⟨_, _, _, _, rfl, _⟩ := h; rfl
  obtain ⟨o, dx, p, ps, rfl, ho, hP, hg, q⟩ := h
  refine ⟨_, (pss_cons (ps_fld (pv 0) (pe_callD D_names_of hr (pa_cons (pv 1) pa_nil)) rfl)
    (pss_one (ps_fld (pv 0) (pe_comp ["part"] [] rfl (by decide +kernel) trivial (piAll (pv 1)) (fun _ _ _ _ _ => (pg_name (i := 0) (show (["part"] : List Str).Nodup by decide +kernel) rfl (by first | exact Or.inl rfl | exact Or.inr rfl))) (fun _ _ _ _ _ => pts_nil) (fun _ _ _ _ _ => (pe_ix iAll (pv 0) pe_int (fun _ _ => rfl)))) rfl))), ?_⟩
  refine ⟨_, rfl, p, ps, rfl, hP, hg, fun l1 h1 => ?_⟩
  have n1 : l1 ≠ o := (ne_of_none ho h1).symm
  refine ⟨_, rfl, o, C, dx, _, rfl, (by rw [upd_ne (Ne.symm n1)]; exact ho), T.cl, T.nN, (by show 0 < 1000; decide), ?_⟩
  rw [put_names]
  have k1 : ∀ b u, b ≠ o → H b = some u → upd (upd H l1 (.lst ((nms ps).map V.str))) o (.ins C dx [("names", .ref l1)]) b = some u := fun b u nb e => by rw [upd_ne nb, upd_ne (ne_of_none e h1)]; exact e
  have hP1 := hP.keep ho k1
  refine .inl ⟨_, rfl, p, rfl, ⟨_, SqL.of hP1.l⟩, fun l2 h2 => ?_⟩
  have n2 : l2 ≠ o := fun z => by rw [z, upd_same] at h2; cases h2
  have n12 : l1 ≠ l2 := fun z => by rw [upd_ne n2, ← z, upd_same] at h2; cases h2
  have h20 : H l2 = none := by rw [upd_ne n2, upd_ne (Ne.symm n12)] at h2; exact h2
  refine comp_listI (K := K) (a := p) (xs := ps.map fun x => V.ref x.1) (fun i => V.ref ((fms ps).getD i 0)) (fun σ => ∃ z, σ = [z]) (by rw [List.length_map]; exact small5 (by have := hP.n; omega)) ⟨_, rfl⟩ h2 (SqL.of hP1.l) ?_ ?_
  · rintro i x hx σ1 H1 ⟨z, rfl⟩ hs1 R hR
    rw [List.getElem?_map] at hx
    obtain ⟨y, hy, rfl⟩ := Option.map_eq_some_iff.mp hx
    have hm := List.mem_of_getElem? hy
    have e : (fms ps).getD i 0 = y.2.2 := by unfold fms; rw [List.getD_eq_getElem?_getD, List.getElem?_map, hy]; rfl
    rw [e] at hR
    exact ⟨_, rfl, .inl (.inr ⟨_, _, _, _, rfl, rfl, SqT.of (hs1 _ _ (hP1.t y hm)), atI_nat (j := 1) rfl, hR _ ⟨_, rfl⟩⟩)⟩
  have en : (List.range (ps.map fun x => V.ref x.1).length).map (fun i => V.ref ((fms ps).getD i 0)) = (fms ps).map V.ref := by
    apply List.ext_getElem
    · unfold fms; simp
    · intro i g1 g2
      have g3 : i < ps.length := by simpa [fms] using g2
      have g4 : i < (fms ps).length := by simpa using g2
      rw [List.getElem_map, List.getElem_map, List.getElem_range, List.getD_eq_getElem?_getD, List.getElem?_eq_getElem g4]; rfl
  rw [en]
  refine ⟨_, rfl, o, C, dx, _, rfl, (by rw [upd_ne (Ne.symm n2)]; exact upd_same), T.cl, T.nF, (by show 1 < 1000; decide), ?_⟩
  rw [put_forms, upd_swap (Ne.symm n2), upd_upd']
  exact q l1 l2 h1 h20 n12
theorem ok_cho_init {f C : Addr} {fd : FuncData} (nb : NB mg) (T : TwoCls K C) (F : Fun K "__init__" "Choice.__init__" s_Choice_init f fd) (D_names_of : DefOk P w K mg base 3 "names_of" ["parts"] spNamesOf) : FnOk P w K mg base CX0 4 f fd ["self", "cases"] (spTwoInit C) := by
  refine F.ok sc_Choice_init (fun vs H Q E h => ?_) (fun cdv A outer s H vs Q E hr h => ?_)
  · obtain ⟨_, _, _, _, rfl, _⟩ := h; rfl
  obtain ⟨o, dx, p, ps, rfl, ho, hP, hg, q⟩ := h
  refine ⟨_, (pss_cons (ps_fld (pv 0) (pe_callD D_names_of hr (pa_cons (pv 1) pa_nil)) rfl)
    (pss_one (ps_fld (pv 0) (pe_comp ["case"] [] rfl (by decide +kernel) trivial (piAll (pv 1)) (fun _ _ _ _ _ => (pg_name (i := 0) (show (["case"] : List Str).Nodup by decide +kernel) rfl (by first | exact Or.inl rfl | exact Or.inr rfl))) (fun _ _ _ _ _ => pts_nil) (fun _ _ _ _ _ => (pe_ix iAll (pv 0) pe_int (fun _ _ => rfl)))) rfl))), ?_⟩
  refine ⟨_, rfl, p, ps, rfl, hP, hg, fun l1 h1 => ?_⟩
  have n1 : l1 ≠ o := (ne_of_none ho h1).symm
  refine ⟨_, rfl, o, C, dx, _, rfl, (by rw [upd_ne (Ne.symm n1)]; exact ho), T.cl, T.nN, (by show 0 < 1000; decide), ?_⟩
  rw [put_names]
  have k1 : ∀ b u, b ≠ o → H b = some u → upd (upd H l1 (.lst ((nms ps).map V.str))) o (.ins C dx [("names", .ref l1)]) b = some u := fun b u nb e => by rw [upd_ne nb, upd_ne (ne_of_none e h1)]; exact e
  have hP1 := hP.keep ho k1
  refine .inl ⟨_, rfl, p, rfl, ⟨_, SqL.of hP1.l⟩, fun l2 h2 => ?_⟩
  have n2 : l2 ≠ o := fun z => by rw [z, upd_same] at h2; cases h2
  have n12 : l1 ≠ l2 := fun z => by rw [upd_ne n2, ← z, upd_same] at h2; cases h2
  have h20 : H l2 = none := by rw [upd_ne n2, upd_ne (Ne.symm n12)] at h2; exact h2
  refine comp_listI (K := K) (a := p) (xs := ps.map fun x => V.ref x.1) (fun i => V.ref ((fms ps).getD i 0)) (fun σ => ∃ z, σ = [z]) (by rw [List.length_map]; exact small5 (by have := hP.n; omega)) ⟨_, rfl⟩ h2 (SqL.of hP1.l) ?_ ?_
  · rintro i x hx σ1 H1 ⟨z, rfl⟩ hs1 R hR
    rw [List.getElem?_map] at hx
    obtain ⟨y, hy, rfl⟩ := Option.map_eq_some_iff.mp hx
    have hm := List.mem_of_getElem? hy
    have e : (fms ps).getD i 0 = y.2.2 := by unfold fms; rw [List.getD_eq_getElem?_getD, List.getElem?_map, hy]; rfl
    rw [e] at hR
    exact ⟨_, rfl, .inl (.inr ⟨_, _, _, _, rfl, rfl, SqT.of (hs1 _ _ (hP1.t y hm)), atI_nat (j := 1) rfl, hR _ ⟨_, rfl⟩⟩)⟩
  have en : (List.range (ps.map fun x => V.ref x.1).length).map (fun i => V.ref ((fms ps).getD i 0)) = (fms ps).map V.ref := by
    apply List.ext_getElem
    · unfold fms; simp
    · intro i g1 g2
      have g3 : i < ps.length := by simpa [fms] using g2
      have g4 : i < (fms ps).length := by simpa using g2
      rw [List.getElem_map, List.getElem_map, List.getElem_range, List.getD_eq_getElem?_getD, List.getElem?_eq_getElem g4]; rfl
  rw [en]
  refine ⟨_, rfl, o, C, dx, _, rfl, (by rw [upd_ne (Ne.symm n2)]; exact upd_same), T.cl, T.nF, (by show 1 < 1000; decide), ?_⟩
  rw [put_forms, upd_swap (Ne.symm n2), upd_upd']
  exact q l1 l2 h1 h20 n12
/-! ### the forms that hold one form -/
structure OneCls (K : PySem.W.Frag) (C : Addr) : Prop where
  cl : Cls K C
  nI : NoAttr K C "inner"
def spOneInit (C : Addr) : Sp := fun vs H Q _ => ∃ p dx w, vs = [.ref p, .ref w] ∧ H p = some (.ins C dx []) ∧ Q .non (upd H p (.ins C dx [("inner", .ref w)]))
theorem ok_maybe_init {f C : Addr} {fd : FuncData} (T : OneCls K C) (F : Fun K "__init__" "Maybe.__init__" s_Maybe_init f fd) : FnOk P w K mg base CX0 1 f fd ["self", "inner"] (spOneInit C) := by
  refine F.ok sc_Maybe_init (fun vs H Q E h => ?_) (fun cdv A outer s H vs Q E hr h => ?_)
  · obtain ⟨_, _, _, rfl, _⟩ := h; rfl
  obtain ⟨p, dx, w, rfl, hp, q⟩ := h
  exact ⟨_, (pss_one (ps_fld (pv 0) (pv 1) rfl)), _, rfl, _, rfl, p, C, dx, _, rfl, hp, T.cl, T.nI, (by show 0 < 1000; decide), q⟩
theorem ok_many_init {f C : Addr} {fd : FuncData} (T : OneCls K C) (F : Fun K "__init__" "Many.__init__" s_Many_init f fd) : FnOk P w K mg base CX0 1 f fd ["self", "inner"] (spOneInit C) := by
  refine F.ok sc_Many_init (fun vs H Q E h => ?_) (fun cdv A outer s H vs Q E hr h => ?_)
  · obtain ⟨_, _, _, rfl, _⟩ := h; rfl
  obtain ⟨p, dx, w, rfl, hp, q⟩ := h
  exact ⟨_, (pss_one (ps_fld (pv 0) (pv 1) rfl)), _, rfl, _, rfl, p, C, dx, _, rfl, hp, T.cl, T.nI, (by show 0 < 1000; decide), q⟩
theorem ok_turned_init {f C : Addr} {fd : FuncData} (T : OneCls K C) (F : Fun K "__init__" "Turned.__init__" s_Turned_init f fd) : FnOk P w K mg base CX0 1 f fd ["self", "inner"] (spOneInit C) := by
  refine F.ok sc_Turned_init (fun vs H Q E h => ?_) (fun cdv A outer s H vs Q E hr h => ?_)
  · obtain ⟨_, _, _, rfl, _⟩ := h; rfl
  obtain ⟨p, dx, w, rfl, hp, q⟩ := h
  exact ⟨_, (pss_one (ps_fld (pv 0) (pv 1) rfl)), _, rfl, _, rfl, p, C, dx, _, rfl, hp, T.cl, T.nI, (by show 0 < 1000; decide), q⟩
structure Ins (K : PySem.W.Frag) (C : Addr) : Prop where
  cl : Cls K C
  ha : PySem.W.findIn K (.ref C) "__class__" = some (some (.builtin "object.__class__"))
  hn : PySem.W.specialIn K (.builtin "object.__class__") "__get__" = some (some (.builtin "getset_descriptor.__get__"))
  htk : PySem.W.takesIn K (.builtin "object.__class__") = some true
  hm : PySem.W.mroIn K C (.type "object") = some true
theorem Ins.ty {K : PySem.W.Frag} {C : Addr} (I : Ins K C) {H : Hp} {o dx : Addr} {fs : List (Str × V)} (h : H o = some (.ins C dx fs)) : TyOf K H (.ref o) (.ref C) := .ins h I.cl I.ha I.hn I.htk I.hm

/-! ### the cursor -/
structure CurCls (K : PySem.W.Frag) (C : Addr) : Prop where
  cl : Cls K C
  nT : NoAttr K C "text"
  nP : NoAttr K C "place"
theorem tp_ne : ¬ (("text" : Str) = "place") := by decide +kernel
theorem pt_ne : (("place" : Str) == "text") = false := by decide +kernel
def curF (t : Str) (k : Nat) : List (Str × V) := [("text", .str t), ("place", .int ((k : Nat) : Int))]
theorem cput1 (t : V) : putF "text" t [] = ([("text", t)] : List (Str × V)) := rfl
theorem cput2 (t k : V) : putF "place" k ([("text", t)] : List (Str × V)) = ([("text", t), ("place", k)] : List (Str × V)) := by simp only [putF, tp_ne, if_false]
theorem cput3 (t : Str) (k k' : Nat) : putF "place" (.int ((k' : Nat) : Int)) (curF t k) = curF t k' := by simp only [curF, putF, tp_ne, if_false, if_true]
theorem clookT (t : Str) (k : Nat) : (curF t k).lookup ("text" : Str) = some (.str t) := by simp [curF, List.lookup]
theorem clookP (t : Str) (k : Nat) : (curF t k).lookup ("place" : Str) = some (.int ((k : Nat) : Int)) := by simp [curF, List.lookup, pt_ne]
theorem clookm (t : Str) (k : Nat) {m : Str} (h1 : (m == ("text" : Str)) = false := by decide +kernel) (h2 : (m == ("place" : Str)) = false := by decide +kernel) : (curF t k).lookup m = none := by simp [curF, List.lookup, h1, h2]
abbrev curO (C dx : Addr) (t : Str) (k : Nat) : HO := .ins C dx (curF t k)
def spCurInit (C : Addr) : Sp := fun vs H Q _ => ∃ (p dx : Addr) (t : Str), vs = [.ref p, .str t] ∧ H p = some (.ins C dx []) ∧ Q .non (upd H p (curO C dx t 0))
theorem ok_cur_init {f C : Addr} {fd : FuncData} (T : CurCls K C) (F : Fun K "__init__" "Cursor.__init__" s_Cursor_init f fd) : FnOk P w K mg base CX0 1 f fd ["self", "text"] (spCurInit C) := by
  refine F.ok sc_Cursor_init (fun vs H Q E h => ?_) (fun cdv A outer s H vs Q E hr h => ?_)
  · obtain ⟨_, _, _, rfl, _⟩ := h; rfl
  obtain ⟨p, dx, t, rfl, hp, q⟩ := h
  refine ⟨_, (pss_cons (ps_fld (pv 0) (pv 1) rfl)
    (pss_one (ps_fld (pv 0) pe_int rfl))), ?_⟩
  refine ⟨_, rfl, _, rfl, p, C, dx, _, rfl, hp, T.cl, T.nT, (by show 0 < 1000; decide), ?_⟩
  rw [cput1]
  refine ⟨_, rfl, p, C, dx, _, rfl, upd_same, T.cl, T.nP, (by show 1 < 1000; decide), ?_⟩
  rw [cput2, upd_upd']
  exact q
def spEnded (C : Addr) : Sp := fun vs H Q _ => ∃ (cu dx : Addr) (t : Str) (k : Nat), vs = [.ref cu] ∧ H cu = some (curO C dx t k) ∧ t.length ≤ 100000 ∧ Q (.bl (decide (k = t.length))) H
theorem ok_ended {f C : Addr} {fd : FuncData} (nb : NB mg) (T : CurCls K C) (F : Fun K "ended" "Cursor.ended" s_Cursor_ended f fd) : FnOk P w K mg base CX0 1 f fd ["self"] (spEnded C) := by
  refine F.okK sc_Cursor_ended (fun vs H Q E h => ?_) (fun cdv A outer s H vs Q E hr h => ?_)
  · obtain ⟨_, _, _, _, rfl, _⟩ := h; rfl
  obtain ⟨cu, dx, t, k, rfl, hc, ht, q⟩ := h
  refine ⟨_, (pss_one (ps_ret (pe_cmpR oEq (pe_fld (pv 0) rfl) (pe_callB call_len rfl nb.len_ bo_len (pa_cons (pe_fld (pv 0) rfl) pa_nil)) (nomark _)))), ?_⟩
  refine ⟨_, rfl, cu, C, dx, _, _, rfl, hc, T.cl, T.nP, clookP .., _, rfl, cu, C, dx, _, _, rfl, hc, T.cl, T.nT, clookT .., _, _, rfl, ⟨small5 ht, rfl⟩, rfl, H, .refl (Same.refl _), ?_⟩
  have e : decide (V.int ((k : Nat) : Int) = V.int ((t.length : Nat) : Int)) = decide (k = t.length) := decide_eq_decide.mpr ⟨fun z => by have := V.int.inj z; omega, fun z => by rw [z]⟩
  rw [e]; exact q
def spSkip (C : Addr) : Sp := fun vs H Q _ => ∃ (cu dx : Addr) (t z : Str) (k : Nat), vs = [.ref cu, .str z] ∧ H cu = some (curO C dx t k) ∧ k ≤ t.length ∧ t.length ≤ 100000 ∧ z.length ≤ 100 ∧
  (z.cps.toList <+: t.cps.toList.drop k → Q (.bl true) (upd H cu (curO C dx t (k + z.length)))) ∧ (¬ z.cps.toList <+: t.cps.toList.drop k → Q (.bl false) H)
theorem ok_skip {f C : Addr} {fd : FuncData} (nb : NB mg) (T : CurCls K C) (F : Fun K "skip" "Cursor.skip" s_Cursor_skip f fd) : FnOk P w K mg base CX0 1 f fd ["self", "words"] (spSkip C) := by
  refine F.okK sc_Cursor_skip (fun vs H Q E h => ?_) (fun cdv A outer s H vs Q E hr h => ?_)
  · obtain ⟨_, _, _, _, _, rfl, _⟩ := h; rfl
  obtain ⟨cu, dx, t, z, k, rfl, hc, hk, ht, hz, q1, q2⟩ := h
  refine ⟨_, (pss_cons (ps_set (i := 2) sc_Cursor_skip.nd rfl (by first | exact Or.inl rfl | exact Or.inr rfl) (pe_bm PySem.F.plainAttrs_str PySem.F.slot_str_startswith PySem.F.type_str_startswith mt_startsfrom (pe_fld (pv 0) rfl) (pa_cons (pv 1) (pa_cons (pe_fld (pv 0) rfl) pa_nil))))
    (pss_cons (ps_if (pt_truth (pv 2) (fun _ => rfl)) (pss_one (ps_fld (pv 0) (pe_op oAdd (pe_fld (pv 0) rfl) (pe_callB call_len rfl nb.len_ bo_len (pa_cons (pv 1) pa_nil))) rfl)) pss_nil)
    (pss_one (ps_ret (pv 2))))), ?_⟩
  refine ⟨_, rfl, cu, C, dx, _, _, rfl, hc, T.cl, T.nT, clookT .., rfl, _, rfl, _, rfl, cu, C, dx, _, _, rfl, hc, T.cl, T.nP, clookP .., t, z, k, rfl, rfl, hk, ?_⟩
  refine ⟨_, rfl, _, rfl, iteD (fun c => ?_) (fun c => ?_)⟩
  · refine ⟨_, rfl, cu, C, dx, _, _, rfl, hc, T.cl, T.nP, clookP .., _, rfl, _, _, rfl, ⟨small5 (by omega), rfl⟩, .inl ⟨_, _, rfl, rfl, _, rfl, cu, C, dx, _, rfl, hc, T.cl, T.nP, (by show 2 < 1000; decide), ?_⟩⟩
    have e : ((k : Nat) : Int) + ((z.length : Nat) : Int) = ((k + z.length : Nat) : Int) := by omega
    dsimp only
    rw [e, cput3]
    refine ⟨_, rfl, _, .ins hc (fun b u nb e => by rw [upd_ne nb]; exact e) upd_same, ?_⟩
    rw [decide_eq_true c]
    exact q1 c
  · refine ⟨_, rfl, H, .refl (Same.refl _), ?_⟩
    rw [decide_eq_false c]
    exact q2 c
def spExpect (C : Addr) : Sp := fun vs H Q _ => ∃ (cu dx : Addr) (t z : Str) (k : Nat), vs = [.ref cu, .str z] ∧ H cu = some (curO C dx t k) ∧ k ≤ t.length ∧ t.length ≤ 100000 ∧ z.length ≤ 100 ∧ z.cps.toList <+: t.cps.toList.drop k ∧ Q .non (upd H cu (curO C dx t (k + z.length)))
theorem ok_expect {f C : Addr} {fd : FuncData} (T : CurCls K C) (F : Fun K "expect" "Cursor.expect" s_Cursor_expect f fd) (c_C : Cls K C) (M_skip : MethOk P w K mg base 1 C "skip" ["self", "words"] (spSkip C)) : FnOk P w K mg base CX0 2 f fd ["self", "words"] (spExpect C) := by
  refine F.ok sc_Cursor_expect (fun vs H Q E h => ?_) (fun cdv A outer s H vs Q E hr h => ?_)
  · obtain ⟨_, _, _, _, _, rfl, _⟩ := h; rfl
  obtain ⟨cu, dx, t, z, k, rfl, hc, hk, ht, hz, hp, q⟩ := h
  refine ⟨_, (pss_one (ps_if (pt_not (pt_truth (pe_methD M_skip c_C hr (pv 0) (pa_cons (pv 1) pa_nil)) (fun _ => rfl))) (pss_one ps_never) pss_nil)), ?_⟩
  exact ⟨_, rfl, cu, dx, _, rfl, hc, clookm .., _, rfl, cu, dx, t, z, k, rfl, hc, hk, ht, hz, fun _ => ⟨true, rfl, iteF q⟩, fun n => absurd hp n⟩
/-- the text from place k on is run and what follows, and what follows goes on otherwise -/
structure RunAt (t : Str) (k : Nat) (sg : Str) (run post : List Nat) : Prop where
  e : t.cps.toList.drop k = run ++ post
  a : ∀ c, c ∈ run → c ∈ sg.cps.toList
  n : ∀ c r, post = c :: r → c ∉ sg.cps.toList
  k : k ≤ t.length
def spRun (C : Addr) : Sp := fun vs H Q _ => ∃ (cu dx : Addr) (t sg : Str) (k : Nat) (run post : List Nat), vs = [.ref cu, .str sg] ∧ H cu = some (curO C dx t k) ∧ t.length ≤ 100000 ∧ RunAt t k sg run post ∧ Q (.str ⟨run.toArray⟩) (upd H cu (curO C dx t (k + run.length)))
theorem slice_mid {t : Str} {k : Nat} {run post : List Nat} (h : t.cps.toList.drop k = run ++ post) (hk : k ≤ t.length) : Txt.slice t (some ((k : Nat) : Int)) (some ((k + run.length : Nat) : Int)) = ⟨run.toArray⟩ := by
  apply KM.str_ext
  have el : t.cps.toList.length = t.length := Array.length_toList
  have hl := congrArg List.length h
  rw [List.length_drop, List.length_append, el] at hl
  rw [KM.slice_cps, HT.sIx_nat, HT.sIx_nat, Nat.min_eq_left hk, Nat.min_eq_left (by omega), h, Nat.add_sub_cancel_left, List.take_left']
  · rfl
theorem ok_run_of {f C : Addr} {fd : FuncData} (T : CurCls K C) (F : Fun K "run_of" "Cursor.run_of" s_Cursor_run_of f fd) (c_C : Cls K C) (M_ended : MethOk P w K mg base 1 C "ended" ["self"] (spEnded C)) : FnOk P w K mg base CX0 2 f fd ["self", "signs"] (spRun C) := by
  refine F.okK sc_Cursor_run_of (fun vs H Q E h => ?_) (fun cdv A outer s H vs Q E hr h => ?_)
  · obtain ⟨_, _, _, _, _, _, _, rfl, _⟩ := h; rfl
  obtain ⟨cu, dx, t, sg, k, run, post, rfl, hc, ht, R, q⟩ := h
  refine ⟨_, (pss_cons (ps_set (i := 2) sc_Cursor_run_of.nd rfl (by first | exact Or.inl rfl | exact Or.inr rfl) (pe_fld (pv 0) rfl))
    (pss_cons (ps_while PassesOwn.never (PW.pt (pw_and (pt_not (pt_truth (pe_methD0 M_ended c_C hr (pv 0)) (fun _ => rfl))) (pw_and1 (pt_cmpR op_in_str (pe_ix iAll (pe_fld (pv 0) rfl) (pe_fld (pv 0) rfl) (fun _ _ => rfl)) (pv 1) (by with_unfolding_all rfl)))))
      (pss_one (ps_fld (pv 0) (pe_op oAdd (pe_fld (pv 0) rfl) pe_int) rfl)))
    (pss_one (ps_ret (pe_slice slAll (pe_fld (pv 0) rfl) (po_some (pv 2)) (po_some (pe_fld (pv 0) rfl))))))), ?_⟩
  have el : t.cps.toList.length = t.length := Array.length_toList
  have hl := congrArg List.length R.e
  rw [List.length_drop, List.length_append, el] at hl
  have hk := R.k
  refine ⟨_, rfl, cu, C, dx, _, _, rfl, hc, T.cl, T.nP, clookP .., ?_⟩
  refine ⟨fun m σ H2 => ∃ i, m = run.length - i ∧ i ≤ run.length ∧ σ = [some (.ref cu), some (.str sg), some (.int ((k : Nat) : Int))] ∧ H2 = upd H cu (curO C dx t (k + i)), ⟨run.length, 0, rfl, Nat.zero_le _, rfl, (upd_self' hc).symm⟩, ?_⟩
  rintro m σ H2 ⟨i, rfl, hi, rfl, rfl⟩
  have hat : (t.cps.toList.drop k)[i]? = t.cps.toList[k + i]? := List.getElem?_drop
  refine ⟨_, rfl, cu, dx, _, rfl, upd_same, clookm .., cu, dx, t, k + i, rfl, upd_same, ht, _, rfl, ?_⟩
  rcases Nat.lt_or_ge i run.length with z | z
  · have hc2 : t.cps.toList[k + i]? = some run[i] := by rw [← hat, R.e, List.getElem?_append_left z, List.getElem?_eq_getElem z]
    rw [decide_eq_false (show ¬ k + i = t.length by omega)]
    refine iteT ⟨_, rfl, cu, C, dx, _, _, rfl, upd_same, T.cl, T.nT, clookT .., _, rfl, cu, C, dx, _, _, rfl, upd_same, T.cl, T.nP, clookP .., .inr ⟨_, _, _, rfl, rfl, small5 ht, atI_nat hc2, _, rfl, _, _, rfl, rfl, _, rfl, ?_⟩⟩
    rw [StrLaws.found_one, decide_eq_true (R.a _ (List.getElem_mem z))]
    refine iteT ⟨fun σ' H' => ∃ m', m' < run.length - i ∧ ∃ i', m' = run.length - i' ∧ i' ≤ run.length ∧ σ' = [some (.ref cu), some (.str sg), some (.int ((k : Nat) : Int))] ∧ H' = upd H cu (curO C dx t (k + i')), fun _ _ h => h, ?_⟩
    refine ⟨_, rfl, cu, C, dx, _, _, rfl, upd_same, T.cl, T.nP, clookP .., .inl ⟨_, _, rfl, rfl, _, rfl, cu, C, dx, _, rfl, upd_same, T.cl, T.nP, (by show 2 < 1000; decide), ?_⟩⟩
    have e : ((k + i : Nat) : Int) + 1 = ((k + (i + 1) : Nat) : Int) := by omega
    dsimp only
    rw [e, cput3, upd_upd']
    exact ⟨run.length - (i + 1), by omega, i + 1, rfl, z, rfl, rfl⟩
  · obtain rfl : i = run.length := by omega
    have fin : ∃ H'', L2.Sub H H'' (upd H cu (curO C dx t (k + run.length))) ∧ Q (.str ⟨run.toArray⟩) H'' := ⟨_, .ins hc (fun b u nb e => by rw [upd_ne nb]; exact e) upd_same, q⟩
    cases post with
    | nil =>
      rw [List.length_nil] at hl
      rw [decide_eq_true (show k + run.length = t.length by omega)]
      refine iteF ?_
      refine ⟨_, rfl, cu, C, dx, _, _, rfl, upd_same, T.cl, T.nT, clookT .., _, rfl, _, rfl, _, rfl, cu, C, dx, _, _, rfl, upd_same, T.cl, T.nP, clookP .., _, rfl, .inr ⟨_, rfl, small5 ht, ?_⟩⟩
      rw [slice_mid R.e hk]
      exact fin
    | cons c r =>
      rw [List.length_cons] at hl
      have hc2 : t.cps.toList[k + run.length]? = some c := by rw [← hat, R.e, List.getElem?_append_right (Nat.le_refl _), Nat.sub_self]; rfl
      rw [decide_eq_false (show ¬ k + run.length = t.length by omega)]
      refine iteT ⟨_, rfl, cu, C, dx, _, _, rfl, upd_same, T.cl, T.nT, clookT .., _, rfl, cu, C, dx, _, _, rfl, upd_same, T.cl, T.nP, clookP .., .inr ⟨_, _, _, rfl, rfl, small5 ht, atI_nat hc2, _, rfl, _, _, rfl, rfl, _, rfl, ?_⟩⟩
      rw [StrLaws.found_one, decide_eq_false (R.n c r rfl)]
      refine iteF ?_
      refine ⟨_, rfl, cu, C, dx, _, _, rfl, upd_same, T.cl, T.nT, clookT .., _, rfl, _, rfl, _, rfl, cu, C, dx, _, _, rfl, upd_same, T.cl, T.nP, clookP .., _, rfl, .inr ⟨_, rfl, small5 ht, ?_⟩⟩
      rw [slice_mid R.e hk]
      exact fin

/-! ### numbers and forms read -/
def spNumAt (C : Addr) : Sp := fun vs H Q _ => ∃ (cu dx : Addr) (t : Str) (k : Nat) (a : Int) (post : List Nat), vs = [.ref cu] ∧ H cu = some (curO C dx t k) ∧ k ≤ t.length ∧ t.length ≤ 100000 ∧ t.cps.toList.drop k = num a ++ post ∧ a.natAbs < 10 ^ 58 ∧ (∀ c r, post = c :: r → c ∉ FIG.cps.toList) ∧ Q (.int a) (upd H cu (curO C dx t (k + (num a).length)))
theorem drop_more {t : Str} {k : Nat} {a b : List Nat} (h : t.cps.toList.drop k = a ++ b) (hk : k ≤ t.length) : t.cps.toList.drop (k + a.length) = b ∧ k + a.length ≤ t.length := by
  have el : t.cps.toList.length = t.length := Array.length_toList
  have hl := congrArg List.length h
  rw [List.length_drop, List.length_append, el] at hl
  refine ⟨?_, by omega⟩
  rw [← List.drop_drop, h, List.drop_left]
theorem one_sign (c : Nat) : decide (V.str ⟨#[c]⟩ = V.str (Str.ofString "0")) = decide (c = 48) := by
  have e : Str.ofString "0" = ⟨#[48]⟩ := by decide +kernel
  rw [e]
  refine decide_eq_decide.mpr ⟨fun z => ?_, fun z => by rw [z]⟩
  have z := V.str.inj z
  injection z with z
  have z := congrArg (fun a => a[0]?) z
  simpa using z
theorem minus_cps : (Str.ofString "-").cps.toList = [45] := by decide +kernel
theorem ok_number_at {f C : Addr} {fd : FuncData} (nb : NB mg) (c_C : Cls K C) (g_FIGURES : GlobV mg "FIGURES" (.str FIG)) (g_MOST_FIGURES : GlobV mg "MOST_FIGURES" (.int 58)) (F : FunAt K mg "number_at" s_number_at ["cursor"] f fd) (M_skip : MethOk P w K mg base 1 C "skip" ["self", "words"] (spSkip C)) (M_run_of : MethOk P w K mg base 2 C "run_of" ["self", "signs"] (spRun C)) : DefOk P w K mg base 3 "number_at" ["cursor"] (spNumAt C) := by
  refine F.ok sc_number_at (fun vs H Q E h => ?_) (fun cdv A outer s H vs Q E hr h => ?_)
  · obtain ⟨_, _, _, _, _, _, rfl, _⟩ := h; rfl
  obtain ⟨cu, dx, t, k, a, post, rfl, hc, hk, ht, he, ha, hpost, q⟩ := h
  refine ⟨_, (pss_cons (ps_set (i := 1) sc_number_at.nd rfl (by first | exact Or.inl rfl | exact Or.inr rfl) (pe_methD M_skip c_C hr (pv 0) (pa_cons pe_str pa_nil)))
    (pss_cons (ps_set (i := 2) sc_number_at.nd rfl (by first | exact Or.inl rfl | exact Or.inr rfl) (pe_methD M_run_of c_C hr (pv 0) (pa_cons (pe_globV g_FIGURES) pa_nil)))
    (pss_cons (ps_if (PW.pt (pw_or (pt_cmpR oEq (pv 2) pe_str (nomark _)) (pw_or1 (pt_cmpR oGt (pe_callB call_len rfl nb.len_ bo_len (pa_cons (pv 2) pa_nil)) (pe_globV g_MOST_FIGURES) (nomark _))))) (pss_one ps_never) pss_nil)
    (pss_cons (ps_if (PW.pt (pw_and (pt_cmpR oEq (pe_ix iAll (pv 2) pe_int (fun _ _ => rfl)) pe_str (nomark _)) (pw_and1 (PW.pt (pw_or (pt_truth (pv 1) (fun _ => rfl)) (pw_or1 (pt_cmpR oGt (pe_callB call_len rfl nb.len_ bo_len (pa_cons (pv 2) pa_nil)) pe_int (nomark _)))))))) (pss_one ps_never) pss_nil)
    (pss_one (ps_ret (pe_ifExp (pt_truth (pv 1) (fun _ => rfl)) (pe_un un_neg (pe_callTy call_intA rfl nb.int_ bo_int (pa_cons (pv 2) pa_nil))) (pe_callTy call_intA rfl nb.int_ bo_int (pa_cons (pv 2) pa_nil))))))))), ?_⟩
  have l1 : (Str.ofString "-").length = 1 := by decide +kernel
  by_cases hneg : a < 0
  · obtain ⟨n, rfl⟩ : ∃ n : Nat, a = -((n + 1 : Nat) : Int) := ⟨a.natAbs - 1, by omega⟩
    obtain ⟨m, hmn⟩ : ∃ m, m = n + 1 := ⟨_, rfl⟩
    have hm : m < 10 ^ 58 := by omega
    have en : num (-((n + 1 : Nat) : Int)) = 45 :: figs m := by rw [num_neg, hmn]; rfl
    rw [en] at he q
    have hp : (Str.ofString "-").cps.toList <+: t.cps.toList.drop k := by rw [minus_cps, he]; exact ⟨_, rfl⟩
    refine ⟨_, rfl, cu, dx, _, rfl, hc, clookm .., cu, dx, t, Str.ofString "-", k, rfl, hc, hk, ht, (by omega), fun _ => ?_, fun z => absurd hp z⟩
    obtain ⟨hr2, hk'⟩ := drop_more (a := [45]) (b := figs m ++ post) he hk
    rw [l1]
    have hc' : upd H cu (curO C dx t (k + 1)) cu = some (curO C dx t (k + 1)) := upd_same
    obtain ⟨k', hkk⟩ : ∃ k', k' = k + 1 := ⟨_, rfl⟩
    have hr2 : t.cps.toList.drop (k + 1) = figs m ++ post := hr2
    have hk' : k + 1 ≤ t.length := hk'
    rw [← hkk] at hc' hk' hr2 ⊢
    refine ⟨_, rfl, cu, dx, _, rfl, hc', clookm .., cu, dx, t, FIG, k', figs m, post, rfl, hc', ht, ⟨hr2, (fun c hc => fig_mem (figs_all m c hc)), hpost, hk'⟩, ?_⟩
    have hf0 : ((⟨(figs m).toArray⟩ : Str)).length = (figs m).length := by show (figs m).toArray.size = _; rw [List.size_toArray]
    have hfl := figs_len hm
    have lf : ((⟨(figs m).toArray⟩ : Str)).length ≤ sizeLine := by rw [hf0]; exact small5 (by omega)
    obtain ⟨hd, tl, hfe⟩ : ∃ hd tl, figs m = hd :: tl := by
      cases e : figs m with
      | nil => exact absurd e (figs_ne m)
      | cons c r => exact ⟨c, r, rfl⟩
    have hlen1 : (figs m).length = tl.length + 1 := by rw [hfe]; rfl
    refine ⟨_, rfl, rfl, _, rfl, iteN (fun z => ?_) ⟨_, rfl, _, _, rfl, ⟨lf, rfl⟩, _, _, rfl, rfl, _, rfl, iteN (by rw [hf0]; omega) ?_⟩⟩
    · have := (str_nil _).mp (V.str.inj z)
      rw [hf0] at this
      omega
    refine ⟨_, rfl, .inr ⟨_, _, _, rfl, rfl, lf, atI_nat (j := 0) (by rw [hfe]; rfl), rfl, _, rfl, ?_⟩⟩
    rw [one_sign]
    have hne : hd ≠ 48 := fun z => figs_head m (by omega) (by rw [hfe, z]; rfl)
    rw [decide_eq_false hne]
    refine iteF ⟨_, rfl, true, rfl, iteT ⟨_, rfl, .inr ⟨_, _, rfl, figs_int hm, (by rw [hf0]; omega), _, rfl, ?_⟩⟩⟩
    rw [upd_upd', hkk, Nat.add_assoc, Nat.add_comm 1]
    rw [List.length_cons] at q
    have ea : -((m : Nat) : Int) = -((n + 1 : Nat) : Int) := by rw [hmn]
    dsimp only
    rw [ea]
    exact ⟨_, .ins hc (fun b u nb e => by rw [upd_ne nb]; exact e) upd_same, q⟩
  · obtain ⟨m, rfl⟩ := Int.eq_ofNat_of_zero_le (show 0 ≤ a by omega)
    have hm : m < 10 ^ 58 := by omega
    have en : num ((m : Nat) : Int) = figs m := num_nat m
    rw [en] at he q
    have hp : ¬ (Str.ofString "-").cps.toList <+: t.cps.toList.drop k := fun hp => by
      rw [minus_cps, he] at hp
      have hfa := figs_all m
      cases e : figs m with
      | nil => exact figs_ne m e
      | cons c r =>
        rw [e] at hp
        obtain ⟨w, hw⟩ := hp
        have h1 : (45 : Nat) = c := List.head_eq_of_cons_eq (show 45 :: w = c :: (r ++ post) from hw)
        have h2 := hfa c (by rw [e]; exact List.mem_cons_self ..)
        omega
    refine ⟨_, rfl, cu, dx, _, rfl, hc, clookm .., cu, dx, t, Str.ofString "-", k, rfl, hc, hk, ht, (by omega), fun z => absurd z hp, fun _ => ?_⟩
    have hr2 := he
    have hc' := hc
    have hk' := hk
    obtain ⟨k', hkk⟩ : ∃ k', k' = k := ⟨_, rfl⟩
    rw [← hkk] at hc' hk' hr2
    refine ⟨_, rfl, cu, dx, _, rfl, hc', clookm .., cu, dx, t, FIG, k', figs m, post, rfl, hc', ht, ⟨hr2, (fun c hc => fig_mem (figs_all m c hc)), hpost, hk'⟩, ?_⟩
    have hf0 : ((⟨(figs m).toArray⟩ : Str)).length = (figs m).length := by show (figs m).toArray.size = _; rw [List.size_toArray]
    have hfl := figs_len hm
    have lf : ((⟨(figs m).toArray⟩ : Str)).length ≤ sizeLine := by rw [hf0]; exact small5 (by omega)
    obtain ⟨hd, tl, hfe⟩ : ∃ hd tl, figs m = hd :: tl := by
      cases e : figs m with
      | nil => exact absurd e (figs_ne m)
      | cons c r => exact ⟨c, r, rfl⟩
    have hlen1 : (figs m).length = tl.length + 1 := by rw [hfe]; rfl
    refine ⟨_, rfl, rfl, _, rfl, iteN (fun z => ?_) ⟨_, rfl, _, _, rfl, ⟨lf, rfl⟩, _, _, rfl, rfl, _, rfl, iteN (by rw [hf0]; omega) ?_⟩⟩
    · have := (str_nil _).mp (V.str.inj z)
      rw [hf0] at this
      omega
    refine ⟨_, rfl, .inr ⟨_, _, _, rfl, rfl, lf, atI_nat (j := 0) (by rw [hfe]; rfl), rfl, _, rfl, ?_⟩⟩
    rw [one_sign]
    have fin : ∃ H'', L2.Sub H H'' (upd H cu (curO C dx t (k' + (figs m).length))) ∧ Q (.int ((m : Nat) : Int)) H'' := by
      rw [hkk]
      exact ⟨_, .ins hc (fun b u nb e => by rw [upd_ne nb]; exact e) upd_same, q⟩
    by_cases h48 : hd = 48
    · have hm0 : m = 0 := by
        rcases Nat.eq_zero_or_pos m with z | z
        · exact z
        · exact absurd (by rw [hfe, h48]; rfl) (figs_head m (by omega))
      have hl1 : (figs m).length = 1 := by rw [hm0, figs_zero]; rfl
      rw [decide_eq_true h48]
      refine iteT ⟨_, rfl, false, rfl, iteF ⟨_, rfl, _, _, rfl, ⟨lf, rfl⟩, _, _, rfl, rfl, _, rfl, iteN (by rw [hf0]; omega) ?_⟩⟩
      exact ⟨_, rfl, false, rfl, iteF ⟨_, rfl, .inr ⟨_, _, rfl, figs_int hm, (by rw [hf0]; omega), fin⟩⟩⟩
    · rw [decide_eq_false h48]
      exact iteF ⟨_, rfl, false, rfl, iteF ⟨_, rfl, .inr ⟨_, _, rfl, figs_int hm, (by rw [hf0]; omega), fin⟩⟩⟩

/-! ### forms read -/
theorem two_ok : 2 ≤ sizeLine := by decide
theorem fin4 : ∀ k : Fin 4, k = 0 ∨ k = 1 ∨ k = 2 ∨ k = 3 := by decide
theorem fin3 : ∀ k : Fin 3, k = 0 ∨ k = 1 ∨ k = 2 := by decide
theorem fin2 : ∀ k : Fin 2, k = 0 ∨ k = 1 := by decide
def othr : List Str := [Str.ofString "span", Str.ofString "letters", Str.ofString "maybe", Str.ofString "many", Str.ofString "turned", Str.ofString "record", Str.ofString "choice"]
def spBare (c : FC) : Sp := fun vs H Q _ => ∃ w : Str, vs = [.str w] ∧ ((∃ k : Fin 4, w = bw k ∧ ∀ x dx, H x = none → H dx = none → dx ≠ x → Q (.ref x) (upd (upd H dx (.own x)) x (.ins (c.b k) dx []))) ∨ (w ∈ othr ∧ Q .non H))
theorem ok_bare_form {f : Addr} {c : FC} {fd : FuncData} (F : FunAt K mg "bare_form" s_bare_form ["word"] f fd) (M0_Nothing : Mk0 K (c.b 0)) (m_Nothing : mg "Nothing" = some (.ref (c.b 0))) (M0_Truth : Mk0 K (c.b 1)) (m_Truth : mg "Truth" = some (.ref (c.b 1))) (M0_Whole : Mk0 K (c.b 2)) (m_Whole : mg "Whole" = some (.ref (c.b 2))) (M0_Fraction : Mk0 K (c.b 3)) (m_Fraction : mg "Fraction" = some (.ref (c.b 3))) : DefOk P w K mg base 1 "bare_form" ["word"] (spBare c) := by
  refine F.ok sc_bare_form (fun vs H Q E h => ?_) (fun cdv A outer s H vs Q E hr h => ?_)
  · obtain ⟨_, rfl, _⟩ := h; rfl
  obtain ⟨ww, rfl, h⟩ := h
  refine ⟨_, (pss_cons (ps_if (pt_cmpR oEq (pv 0) pe_str (nomark _)) (pss_one (ps_ret (pe_makeN0 M0_Nothing rfl m_Nothing))) pss_nil)
    (pss_cons (ps_if (pt_cmpR oEq (pv 0) pe_str (nomark _)) (pss_one (ps_ret (pe_makeN0 M0_Truth rfl m_Truth))) pss_nil)
    (pss_cons (ps_if (pt_cmpR oEq (pv 0) pe_str (nomark _)) (pss_one (ps_ret (pe_makeN0 M0_Whole rfl m_Whole))) pss_nil)
    (pss_cons (ps_if (pt_cmpR oEq (pv 0) pe_str (nomark _)) (pss_one (ps_ret (pe_makeN0 M0_Fraction rfl m_Fraction))) pss_nil)
    (pss_one (ps_ret pe_non)))))), ?_⟩
  rcases h with ⟨k, rfl, q⟩ | ⟨hw, q⟩
  · rcases fin4 k with rfl | rfl | rfl | rfl
    · skip
      refine ⟨_, rfl, rfl, _, rfl, iteY rfl fun x dx h1 h2 h12 => ?_⟩
      exact ⟨_, (Ext.made h1 h2 h12).sub, q x dx h1 h2 h12⟩
    · skip
      refine ⟨_, rfl, rfl, _, rfl, iteN (by decide +kernel) ?_⟩
      refine ⟨_, rfl, rfl, _, rfl, iteY rfl fun x dx h1 h2 h12 => ?_⟩
      exact ⟨_, (Ext.made h1 h2 h12).sub, q x dx h1 h2 h12⟩
    · skip
      refine ⟨_, rfl, rfl, _, rfl, iteN (by decide +kernel) ?_⟩
      refine ⟨_, rfl, rfl, _, rfl, iteN (by decide +kernel) ?_⟩
      refine ⟨_, rfl, rfl, _, rfl, iteY rfl fun x dx h1 h2 h12 => ?_⟩
      exact ⟨_, (Ext.made h1 h2 h12).sub, q x dx h1 h2 h12⟩
    · skip
      refine ⟨_, rfl, rfl, _, rfl, iteN (by decide +kernel) ?_⟩
      refine ⟨_, rfl, rfl, _, rfl, iteN (by decide +kernel) ?_⟩
      refine ⟨_, rfl, rfl, _, rfl, iteN (by decide +kernel) ?_⟩
      refine ⟨_, rfl, rfl, _, rfl, iteY rfl fun x dx h1 h2 h12 => ?_⟩
      exact ⟨_, (Ext.made h1 h2 h12).sub, q x dx h1 h2 h12⟩
  · have no : ∀ k : Fin 4, ¬ V.str ww = V.str (bw k) := fun k z => by
      have : ∀ k : Fin 4, bw k ∉ othr := by decide +kernel
      exact this k (by rw [← V.str.inj z]; exact hw)
    exact ⟨_, rfl, rfl, _, rfl, iteN (no 0) ⟨_, rfl, rfl, _, rfl, iteN (no 1) ⟨_, rfl, rfl, _, rfl, iteN (no 2) ⟨_, rfl, rfl, _, rfl, iteN (no 3) ⟨H, .refl (Same.refl _), q⟩⟩⟩⟩⟩
def Alloc (X : List Addr) (H : Hp) : Prop := ∀ x, x ∈ X → H x ≠ none
theorem Alloc.nin {X : List Addr} {H : Hp} (h : Alloc X H) {a : Addr} (e : H a = none) : a ∉ X := fun z => h a z e
theorem Alloc.mv {X : List Addr} {cu : Addr} {H H' : Hp} {o : HO} (h : Alloc X H) (m : Mv cu H H') (e : H' cu = some o) : Alloc X H' := fun x hx z => h x hx (m.free e z)
theorem Alloc.ext {X : List Addr} {H H' : Hp} (h : Alloc X H) (m : Ext H H') : Alloc X H' := fun x hx z => h x hx (m.s.free z)
def Nxt (post : List Nat) (S : Str) : Prop := ∀ c r, post = c :: r → c ∉ S.cps.toList
structure Rd (H : Hp) (C cu dx : Addr) (t : Str) (k : Nat) (txt : List Nat) : Prop where
  hc : H cu = some (curO C dx t k)
  hk : k ≤ t.length
  hl : t.length ≤ 100000
  he : t.cps.toList.drop k = txt
def spForm31 (c : FC) (C : Addr) (n : Nat) : Sp := fun vs H Q _ => ∃ (cu dx : Addr) (t : Str) (k dep : Nat) (f : Fm) (post : List Nat) (X : List Addr), vs = [.ref cu, .int ((dep : Nat) : Int)] ∧ Rd H C cu dx t k (sh f ++ post) ∧ Nxt post L26 ∧ okF f ∧ ht f ≤ n ∧ dep + ht f ≤ 9 ∧ cu ∈ X ∧ Alloc X H ∧
  ∀ o H', Mv cu H H' → H' cu = some (curO C dx t (k + (sh f).length)) → FAt c X H' f o → Q (.ref o) H'
def spBrk (c : FC) (C : Addr) (n : Nat) : Sp := fun vs H Q _ => ∃ (cu dx : Addr) (t : Str) (k dep : Nat) (f : Fm) (post : List Nat) (X : List Addr), vs = [.ref cu, .str (wd f), .int ((dep : Nat) : Int)] ∧ Rd H C cu dx t k (bd f ++ (cp ")" ++ post)) ∧ isB f = false ∧ okF f ∧ ht f ≤ n + 1 ∧ dep + ht f ≤ 9 ∧ cu ∈ X ∧ Alloc X H ∧
  ∀ o H', Mv cu H H' → H' cu = some (curO C dx t (k + (bd f).length)) → FAt c X H' f o → Q (.ref o) H'
def spPart (c : FC) (C : Addr) (n : Nat) : Sp := fun vs H Q _ => ∃ (cu dx : Addr) (t : Str) (k dep : Nat) (nm : Str) (f : Fm) (post : List Nat) (X : List Addr), vs = [.ref cu, .int ((dep : Nat) : Int)] ∧ Rd H C cu dx t k (nm.cps.toList ++ (cp " " ++ (sh f ++ post))) ∧ Nxt post L26 ∧ isName nm = true ∧ okF f ∧ ht f ≤ n ∧ dep + ht f ≤ 9 ∧ cu ∈ X ∧ Alloc X H ∧
  ∀ T o H', Mv cu H H' → H' cu = some (curO C dx t (k + (nm.length + (1 + (sh f).length)))) → H T = none → H' T = some (.tup [.str nm, .ref o]) → FAt c X H' f o → Q (.ref T) H'
theorem str_eta (x : Str) : (⟨x.cps.toList.toArray⟩ : Str) = x := by
  obtain ⟨c⟩ := x
  rfl
theorem cp_sp : cp " " = [32] := by decide +kernel
theorem cp_op : cp "(" = [40] := by decide +kernel
theorem cp_cl : cp ")" = [41] := by decide +kernel
theorem cp_co : cp ", " = [44, 32] := by decide +kernel
theorem n26 : (32 ∉ L26.cps.toList ∧ 40 ∉ L26.cps.toList) ∧ (41 ∉ L26.cps.toList ∧ 44 ∉ L26.cps.toList) := by decide +kernel
theorem isName_small {n : Str} (h : isName n = true) : ∀ c, c ∈ n.cps.toList → c ∈ L26.cps.toList := fun c hc => by
  unfold isName madeOf at h
  simp only [Bool.and_eq_true, decide_eq_true_eq, List.all_eq_true] at h
  exact h.2 c hc
theorem nxt_cons {c : Nat} {r : List Nat} {S : Str} (h : c ∉ S.cps.toList) : Nxt (c :: r) S := fun d r' e => by
  injection e with e1 e2
  rw [← e1]; exact h
theorem ok_part_at {f C : Addr} {c : FC} {fd : FuncData} {n : Nat} (c_C : Cls K C) (g_SMALL_LETTERS : GlobV mg "SMALL_LETTERS" (.str L26)) (F : FunAt K mg "part_at" s_part_at ["cursor", "depth"] f fd) (M_run_of : MethOk P w K mg base 2 C "run_of" ["self", "signs"] (spRun C)) (M_expect : MethOk P w K mg base 2 C "expect" ["self", "words"] (spExpect C))
    (D_form_at : DefOk P w K mg base (4 * n + 8) "form_at" ["cursor", "depth"] (spForm31 c C n)) : DefOk P w K mg base (4 * n + 8 + 1) "part_at" ["cursor", "depth"] (spPart c C n) := by
  refine F.ok sc_part_at (fun vs H Q E h => ?_) (fun cdv A outer s H vs Q E hr h => ?_)
  · obtain ⟨_, _, _, _, _, _, _, _, _, rfl, _⟩ := h; rfl
  obtain ⟨cu, dx, t, k, dep, nm, fm, post, X, rfl, R, hN, hnm, hok, hht, hdep, hcX, hA, q⟩ := h
  refine ⟨_, (pss_cons (ps_set (i := 2) sc_part_at.nd rfl (by first | exact Or.inl rfl | exact Or.inr rfl) (pe_methD M_run_of c_C hr (pv 0) (pa_cons (pe_globV g_SMALL_LETTERS) pa_nil) (hk := by omega)))
    (pss_cons (ps_expr (pe_methD M_expect c_C hr (pv 0) (pa_cons pe_str pa_nil) (hk := by omega)))
    (pss_one (ps_ret (pe_tup (pa_cons (pv 2) (pa_cons (pe_callD D_form_at hr (pa_cons (pv 0) (pa_cons (pv 1) pa_nil)) (hk := by omega)) pa_nil))))))), ?_⟩
  obtain ⟨hc, hk, htl, he⟩ := R
  refine ⟨_, rfl, cu, dx, _, rfl, hc, clookm .., cu, dx, t, L26, k, nm.cps.toList, cp " " ++ (sh fm ++ post), rfl, hc, htl, ⟨he, isName_small hnm, (by rw [cp_sp]; exact nxt_cons n26.1.1), hk⟩, ?_⟩
  rw [str_eta]
  obtain ⟨he2, hk2⟩ := drop_more he hk
  have hln : nm.cps.toList.length = nm.length := Array.length_toList
  rw [hln] at he2 hk2 ⊢
  have hp : (Str.ofString " ").cps.toList <+: t.cps.toList.drop (k + nm.length) := by rw [he2]; exact ⟨_, rfl⟩
  have l1 : (Str.ofString " ").length = 1 := by decide +kernel
  refine ⟨_, rfl, cu, dx, _, rfl, upd_same, clookm .., cu, dx, t, Str.ofString " ", k + nm.length, rfl, upd_same, hk2, htl, (by omega), hp, ?_⟩
  rw [upd_upd', l1]
  obtain ⟨he3, hk3⟩ := drop_more (a := cp " ") he2 hk2
  have l2 : (cp " ").length = 1 := by rw [cp_sp]; rfl
  rw [l2] at he3 hk3
  have m1 := Mv.move (fs' := curF t (k + nm.length + 1)) hc
  have e1 : upd H cu (curO C dx t (k + nm.length + 1)) cu = some (curO C dx t (k + nm.length + 1)) := upd_same
  refine ⟨_, rfl, _, rfl, _, rfl, cu, dx, t, k + nm.length + 1, dep, fm, post, X, rfl, ⟨e1, hk3, htl, he3⟩, hN, hok, hht, hdep, hcX, hA.mv m1 e1, fun o H' m2 e2 hF => ⟨two_ok, fun T hT => ?_⟩⟩
  have m3 := m1.trans m2
  have E := Ext.tup (xs := [V.str nm, V.ref o]) hT
  have e3 := E.s _ _ e2
  refine ⟨_, (m3.ext E).sub e3, q T o _ (m3.ext E) (by rw [e3, Nat.add_assoc (k + nm.length) 1, Nat.add_assoc k]) (m3.free e2 hT) upd_same ?_⟩
  exact FAt.keep (fun b u _ e => E.s b u e) fm hF
def tlS (fs : List Fm) (ns : List Str) : List Nat := match fs with | [] => [] | _ :: _ => cp ", " ++ shs fs ns
theorem shs_cons (f : Fm) (fs : List Fm) (n : Str) (ns : List Str) : shs (f :: fs) (n :: ns) = n.cps.toList ++ (cp " " ++ (sh f ++ tlS fs ns)) := by
  cases fs with
  | nil => rw [shs]; rfl
  | cons g r => rw [shs]; rfl
def spParts31 (c : FC) (C : Addr) (n : Nat) : Sp := fun vs H Q _ => ∃ (cu dx : Addr) (t : Str) (k dep : Nat) (fs : List Fm) (ns : List Str) (post : List Nat) (X : List Addr), vs = [.ref cu, .int ((dep : Nat) : Int)] ∧ Rd H C cu dx t k (shs fs ns ++ (cp ")" ++ post)) ∧ fs ≠ [] ∧ ns.length = fs.length ∧ goodNames ns = true ∧ okFs fs ∧ hts fs ≤ n ∧ dep + hts fs ≤ 9 ∧ cu ∈ X ∧ Alloc X H ∧
  ∀ p ps H', Mv cu H H' → H' cu = some (curO C dx t (k + (shs fs ns).length)) → Parts H' p ps → nms ps = ns → FsAt c X H' fs (fms ps) → Q (.ref p) H'
/-- the parts read so far at the list l, and what is still to read -/
structure Pts (c : FC) (C cu dx l : Addr) (t : Str) (X : List Addr) (post : List Nat) (kE n dep : Nat) (fs : List Fm) (ns : List Str) (H : Hp) (fs2 : List Fm) (ns2 : List Str) (ps : List (Addr × Str × Addr)) (k : Nat) : Prop where
  pf : ∃ fs1, fs = fs1 ++ fs2 ∧ FsAt c (l :: X) H fs1 (fms ps)
  pn : ns = nms ps ++ ns2
  pl : H l = some (.lst (ps.map fun x => V.ref x.1))
  pt : ∀ x, x ∈ ps → H x.1 = some (.tup [.str x.2.1, .ref x.2.2])
  pr : Rd H C cu dx t k (tlS fs2 ns2 ++ (cp ")" ++ post))
  pe : k + (tlS fs2 ns2).length = kE
  pz : ns2.length = fs2.length
  po : okFs fs2
  ph : hts fs2 ≤ n ∧ dep + hts fs2 ≤ 9
  pa : Alloc (l :: X) H
theorem nxt_tl (fs : List Fm) (ns : List Str) (post : List Nat) : Nxt (tlS fs ns ++ (cp ")" ++ post)) L26 := by
  cases fs with
  | nil => rw [cp_cl]; exact nxt_cons n26.2.1
  | cons g r =>
    unfold tlS
    rw [cp_co]; exact nxt_cons n26.2.2
theorem part_drop {t : Str} {k : Nat} {nm : Str} {f : Fm} {post : List Nat} (h : t.cps.toList.drop k = nm.cps.toList ++ (cp " " ++ (sh f ++ post))) (hk : k ≤ t.length) : t.cps.toList.drop (k + (nm.length + (1 + (sh f).length))) = post ∧ k + (nm.length + (1 + (sh f).length)) ≤ t.length := by
  have hln : nm.cps.toList.length = nm.length := Array.length_toList
  have l2 : (cp " ").length = 1 := by rw [cp_sp]; rfl
  have := drop_more (a := nm.cps.toList ++ (cp " " ++ sh f)) (b := post) (by rw [h]; simp only [List.append_assoc]) hk
  rwa [List.length_append, List.length_append, hln, l2] at this
theorem goodN_mem {ns : List Str} (h : goodNames ns = true) {n : Str} (hn : n ∈ ns) : isName n = true := by
  unfold goodNames at h
  simp only [Bool.and_eq_true, List.all_eq_true] at h
  exact h.2 n hn
set_option maxHeartbeats 4000000 in
theorem ok_parts_at {f C : Addr} {c : FC} {fd : FuncData} {n : Nat} (c_C : Cls K C) (F : FunAt K mg "parts_at" s_parts_at ["cursor", "depth"] f fd) (M_skip : MethOk P w K mg base 1 C "skip" ["self", "words"] (spSkip C))
    (D_part_at : DefOk P w K mg base (4 * n + 9) "part_at" ["cursor", "depth"] (spPart c C n)) : DefOk P w K mg base (4 * n + 9 + 1) "parts_at" ["cursor", "depth"] (spParts31 c C n) := by
  refine F.ok sc_parts_at (fun vs H Q E h => ?_) (fun cdv A outer s H vs Q E hr h => ?_)
  · obtain ⟨_, _, _, _, _, _, _, _, _, rfl, _⟩ := h; rfl
  obtain ⟨cu, dx, t, k, dep, fs, ns, post, X, rfl, R, hne, hlen, hgn, hok, hht, hdep, hcX, hA, q⟩ := h
  refine ⟨_, (pss_cons (ps_set (i := 2) sc_parts_at.nd rfl (by first | exact Or.inl rfl | exact Or.inr rfl) (pe_lst (pa_cons (pe_callD D_part_at hr (pa_cons (pv 0) (pa_cons (pv 1) pa_nil)) (hk := by omega)) pa_nil)))
    (pss_cons (ps_while PassesOwn.never (pt_truth (pe_methD M_skip c_C hr (pv 0) (pa_cons pe_str pa_nil) (hk := by omega)) (fun _ => rfl))
      (pss_one (ps_expr (pe_bm PySem.F.plainAttrs_list PySem.F.slot_list_append PySem.F.type_list_append mt_append (pv 2) (pa_cons (pe_callD D_part_at hr (pa_cons (pv 0) (pa_cons (pv 1) pa_nil)) (hk := by omega)) pa_nil)))))
    (pss_one (ps_ret (pv 2))))), ?_⟩
  obtain ⟨kE, hkE⟩ : ∃ kE, kE = k + (shs fs ns).length := ⟨_, rfl⟩
  rw [← hkE] at q
  have hgm := goodNames_mem hgn
  obtain ⟨f0, fs', rfl⟩ : ∃ f0 fs', fs = f0 :: fs' := by
    cases fs with
    | nil => exact absurd rfl hne
    | cons a b => exact ⟨a, b, rfl⟩
  obtain ⟨n0, ns', rfl⟩ : ∃ n0 ns', ns = n0 :: ns' := by
    cases ns with
    | nil => cases hlen
    | cons a b => exact ⟨a, b, rfl⟩
  obtain ⟨hc, hk, htl, he⟩ := R
  have hln : n0.cps.toList.length = n0.length := Array.length_toList
  have l2 : (cp " ").length = 1 := by rw [cp_sp]; rfl
  rw [shs_cons, List.append_assoc, List.append_assoc, List.append_assoc] at he
  rw [shs_cons, List.length_append, List.length_append, List.length_append, hln, l2] at hkE
  have hok2 : okF f0 ∧ okFs fs' := by rw [okFs] at hok; exact hok
  have hh2 : ht f0 ≤ hts (f0 :: fs') ∧ hts fs' ≤ hts (f0 :: fs') := by rw [hts]; exact ⟨Nat.le_max_left .., Nat.le_max_right ..⟩
  refine ⟨_, rfl, _, rfl, cu, dx, t, k, dep, n0, f0, tlS fs' ns' ++ (cp ")" ++ post), X, rfl, ⟨hc, hk, htl, he⟩, nxt_tl _ _ _, goodN_mem hgn (List.mem_cons_self ..), hok2.1, by omega, by omega, hcX, hA, fun T o H1 m1 e1 hT hT1 hF => ⟨one_ok, fun l hl => ?_⟩⟩
  obtain ⟨hd1, hk1⟩ := part_drop he hk
  have El := Ext.lst (xs := [V.ref T]) hl
  have hA1 := hA.mv m1 e1
  have lcu : l ≠ cu := fun z => by rw [z, e1] at hl; cases hl
  have hlX : l ∉ X := hA1.nin hl
  refine ⟨fun m σ H2 => ∃ fs2 ns2 ps k2, m = fs2.length ∧ σ = [some (.ref cu), some (.int ((dep : Nat) : Int)), some (.ref l)] ∧ Mv cu H H2 ∧ Pts c C cu dx l t X post kE n dep (f0 :: fs') (n0 :: ns') H2 fs2 ns2 ps k2, ⟨fs'.length, fs', ns', [(T, n0, o)], k + (n0.length + (1 + (sh f0).length)), rfl, rfl, m1.ext El, ?_⟩, ?_⟩
  · refine ⟨⟨[f0], rfl, ⟨o, [], rfl, FAt.keep (fun b u _ e => El.s b u e) f0 (FAt.add hl f0 hF), rfl⟩⟩, rfl, upd_same, fun x hx => ?_, ⟨El.s _ _ e1, hk1, htl, hd1⟩, by omega, Nat.succ.inj hlen, hok2.2, ⟨by omega, by omega⟩, ?_⟩
    · rw [List.mem_singleton.mp hx]; exact El.s _ _ hT1
    · intro x hx
      rcases List.mem_cons.mp hx with z | z
      · rw [z, upd_same]; exact fun y => by cases y
      · exact (hA1.ext El) x z
  rintro m σ H2 ⟨fs2, ns2, ps, k2, rfl, rfl, m2, I⟩
  obtain ⟨⟨fs1, hf12, hF1⟩, hn12, hl2, ht2, ⟨hc2, hk2, _, he2⟩, hke, hz, ho2, hh, hA2⟩ := I
  have lz : (Str.ofString ", ").length = 2 := by decide +kernel
  cases fs2 with
  | nil =>
    obtain rfl : ns2 = [] := List.length_eq_zero_iff.mp hz
    have hp : ¬ (Str.ofString ", ").cps.toList <+: t.cps.toList.drop k2 := by
      rw [he2]
      show ¬ cp ", " <+: [] ++ (cp ")" ++ post)
      rw [cp_co, cp_cl]
      rintro ⟨r, hr⟩
      have : (44 : Nat) = 41 := List.head_eq_of_cons_eq (show 44 :: (32 :: r) = 41 :: post from hr)
      omega
    refine ⟨_, rfl, cu, dx, _, rfl, hc2, clookm .., cu, dx, t, Str.ofString ", ", k2, rfl, hc2, hk2, htl, by omega, fun z => absurd z hp, fun _ => ⟨false, rfl, iteF ?_⟩⟩
    rw [List.append_nil] at hf12 hn12
    have hkk : k2 = kE := by rw [← hke]; rfl
    rw [hkk] at hc2
    have hpl : ps.length = (n0 :: ns').length := by rw [hn12]; unfold nms; rw [List.length_map]
    refine ⟨_, rfl, _, m2.sub hc2, q l ps H2 m2 hc2 ⟨hl2, ht2, by have := hgm.1; omega, fun x hx => ?_⟩ hn12.symm ?_⟩
    · exact Nat.le_trans (hgm.2 _ (by rw [hn12]; exact List.mem_map.mpr ⟨x, hx, rfl⟩)) (by decide)
    · rw [hf12]; exact FsAt.weak (fun x hx => List.mem_cons_of_mem _ hx) fs1 hF1
  | cons f1 fs3 =>
    obtain ⟨n1, ns3, rfl⟩ : ∃ n1 ns3, ns2 = n1 :: ns3 := by
      cases ns2 with
      | nil => cases hz
      | cons a b => exact ⟨a, b, rfl⟩
    have hp : (Str.ofString ", ").cps.toList <+: t.cps.toList.drop k2 := by
      rw [he2]
      exact ⟨shs (f1 :: fs3) (n1 :: ns3) ++ (cp ")" ++ post), by show cp ", " ++ _ = (cp ", " ++ _) ++ _; rw [List.append_assoc]⟩
    refine ⟨_, rfl, cu, dx, _, rfl, hc2, clookm .., cu, dx, t, Str.ofString ", ", k2, rfl, hc2, hk2, htl, by omega, fun _ => ⟨true, rfl, iteT ?_⟩, fun z => absurd hp z⟩
    rw [lz]
    obtain ⟨he3, hk3⟩ := drop_more (a := cp ", ") (b := shs (f1 :: fs3) (n1 :: ns3) ++ (cp ")" ++ post)) (by rw [he2]; show (cp ", " ++ _) ++ _ = _; rw [List.append_assoc]) hk2
    have l3 : (cp ", ").length = 2 := by rw [cp_co]; rfl
    rw [l3] at he3 hk3
    have m3 := m2.trans (Mv.move (fs' := curF t (k2 + 2)) hc2)
    have e3 : upd H2 cu (curO C dx t (k2 + 2)) cu = some (curO C dx t (k2 + 2)) := upd_same
    have hl3 : upd H2 cu (curO C dx t (k2 + 2)) l = some (.lst (ps.map fun x => V.ref x.1)) := by rw [upd_ne lcu]; exact hl2
    have k3 : ∀ b u, b ≠ cu → H2 b = some u → upd H2 cu (curO C dx t (k2 + 2)) b = some u := fun b u nb e => by rw [upd_ne nb]; exact e
    have hA3 : Alloc (l :: X) (upd H2 cu (curO C dx t (k2 + 2))) := hA2.mv (Mv.move hc2) e3
    generalize upd H2 cu (curO C dx t (k2 + 2)) = H3 at m3 e3 hl3 k3 hA3 ⊢
    have hln1 : n1.cps.toList.length = n1.length := Array.length_toList
    rw [shs_cons, List.append_assoc, List.append_assoc, List.append_assoc] at he3
    have ho3 : okF f1 ∧ okFs fs3 := by rw [okFs] at ho2; exact ho2
    have hh3 : ht f1 ≤ hts (f1 :: fs3) ∧ hts fs3 ≤ hts (f1 :: fs3) := by rw [hts]; exact ⟨Nat.le_max_left .., Nat.le_max_right ..⟩
    have hn1m : n1 ∈ n0 :: ns' := by rw [hn12]; exact List.mem_append_right _ (List.mem_cons_self ..)
    refine ⟨fun σ' H' => ∃ m', m' < (f1 :: fs3).length ∧ ∃ fs2 ns2 ps k2, m' = fs2.length ∧ σ' = [some (.ref cu), some (.int ((dep : Nat) : Int)), some (.ref l)] ∧ Mv cu H H' ∧ Pts c C cu dx l t X post kE n dep (f0 :: fs') (n0 :: ns') H' fs2 ns2 ps k2, fun _ _ h => h, ?_⟩
    refine ⟨_, rfl, .inl ⟨rfl, _, SqL.of hl3⟩, _, rfl, _, rfl, cu, dx, t, k2 + 2, dep, n1, f1, tlS fs3 ns3 ++ (cp ")" ++ post), l :: X, rfl, ⟨e3, hk3, htl, he3⟩, nxt_tl _ _ _, goodN_mem hgn hn1m, ho3.1, by omega, by omega, List.mem_cons_of_mem _ hcX, hA3, fun T4 o4 H4 m4 e4 hT4 hT5 hF4 => ?_⟩
    have hl4 := m4.k _ _ lcu hl3
    have hpl : ps.length ≤ 20 := by
      have h1 := congrArg List.length hn12
      unfold nms at h1
      rw [List.length_append, List.length_map] at h1
      have := hgm.1
      omega
    refine ⟨l, _, _, rfl, rfl, hl4, (by rw [List.length_map]; exact Nat.lt_of_lt_of_le (show ps.length < 100000 by omega) (by decide)), ?_⟩
    have nTl : T4 ≠ l := fun z => by rw [z, hl3] at hT4; cases hT4
    obtain ⟨hd4, hk4⟩ := part_drop he3 hk3
    have kk : ∀ b u, b ∉ l :: X → H2 b = some u → upd H4 l (.lst ((ps.map fun x => V.ref x.1) ++ [V.ref T4])) b = some u := fun b u nb e => by
      have n1 : b ≠ l := fun z => nb (by rw [z]; exact List.mem_cons_self ..)
      have n2 : b ≠ cu := fun z => nb (by rw [z]; exact List.mem_cons_of_mem _ hcX)
      rw [upd_ne n1]; exact m4.k b u n2 (k3 b u n2 e)
    have k4 : ∀ b u, b ∉ l :: X → H4 b = some u → upd H4 l (.lst ((ps.map fun x => V.ref x.1) ++ [V.ref T4])) b = some u := fun b u nb e => by
      rw [upd_ne (fun z => nb (by rw [z]; exact List.mem_cons_self ..))]; exact e
    have e5 : upd H4 l (.lst ((ps.map fun x => V.ref x.1) ++ [V.ref T4])) cu = some (curO C dx t (k2 + 2 + (n1.length + (1 + (sh f1).length)))) := by rw [upd_ne (Ne.symm lcu)]; exact e4
    have hl0 : H l = none := m1.free e1 hl
    refine ⟨fs3.length, by rw [List.length_cons]; omega, fs3, ns3, ps ++ [(T4, n1, o4)], k2 + 2 + (n1.length + (1 + (sh f1).length)), rfl, rfl, ?_, ?_⟩
    · have m5 := m3.trans m4
      exact ⟨fun b u nb e => by rw [upd_ne (ne_of_none e hl0)]; exact m5.k b u nb e, fun cl => closed_lst hl4 (m5.c cl)⟩
    · refine ⟨⟨fs1 ++ [f1], by rw [hf12, List.append_assoc]; rfl, ?_⟩, ?_, ?_, fun x hx => ?_, ⟨e5, hk4, htl, hd4⟩, ?_, Nat.succ.inj hz, ho3.2, ⟨by omega, by omega⟩, fun x hx => ?_⟩
      · unfold fms
        rw [List.map_append]
        exact FsAt.snoc (FAt.keep k4 f1 hF4) fs1 (FsAt.keep kk fs1 hF1)
      · rw [hn12]; unfold nms; rw [List.map_append, List.append_assoc]; rfl
      · rw [upd_same, List.map_append]; rfl
      · rcases List.mem_append.mp hx with y | y
        · have hx2 := ht2 x y
          have n1' : x.1 ≠ l := fun z => by rw [z, hl2] at hx2; cases hx2
          have n2' : x.1 ≠ cu := fun z => by rw [z, hc2] at hx2; cases hx2
          rw [upd_ne n1']; exact m4.k _ _ n2' (k3 _ _ n2' hx2)
        · rw [List.mem_singleton.mp y]
          show upd H4 l _ T4 = _
          rw [upd_ne nTl]; exact hT5
      · rw [← hke]
        have : (tlS (f1 :: fs3) (n1 :: ns3)).length = 2 + (n1.length + (1 + ((sh f1).length + (tlS fs3 ns3).length))) := by
          show (cp ", " ++ shs (f1 :: fs3) (n1 :: ns3)).length = _
          rw [List.length_append, l3, shs_cons, List.length_append, List.length_append, List.length_append, hln1, l2]
        omega
      · by_cases z : x = l
        · rw [z, upd_same]; exact fun y => by cases y
        · rw [upd_ne z]; exact (hA3.mv m4 e4) x hx

def spSpanAt (c : FC) (C : Addr) : Sp := fun vs H Q _ => ∃ (cu dx : Addr) (t : Str) (k : Nat) (a b : Int) (post : List Nat) (X : List Addr), vs = [.ref cu] ∧ Rd H C cu dx t k (bd (.sp a b) ++ (cp ")" ++ post)) ∧ okF (.sp a b) ∧ Alloc X H ∧
  ∀ o H', Mv cu H H' → H' cu = some (curO C dx t (k + (bd (.sp a b)).length)) → FAt c X H' (.sp a b) o → Q (.ref o) H'
theorem fig_no : 44 ∉ FIG.cps.toList ∧ 41 ∉ FIG.cps.toList := by decide +kernel
theorem c62_no : 41 ∉ L62.cps.toList := by decide +kernel
theorem ok_span_at {f C : Addr} {c : FC} {fd : FuncData} (c_C : Cls K C) (F : FunAt K mg "span_at" s_span_at ["cursor"] f fd) (M_expect : MethOk P w K mg base 2 C "expect" ["self", "words"] (spExpect C)) (D_number_at : DefOk P w K mg base 3 "number_at" ["cursor"] (spNumAt C)) (M_Span : MakeOk P w K mg base 1 "Span" c.s ["self", "low", "high"] (spSpanInit c.s)) : DefOk P w K mg base 4 "span_at" ["cursor"] (spSpanAt c C) := by
  refine F.ok sc_span_at (fun vs H Q E h => ?_) (fun cdv A outer s H vs Q E hr h => ?_)
  · obtain ⟨_, _, _, _, _, _, _, _, rfl, _⟩ := h; rfl
  obtain ⟨cu, dx, t, k, a, b, post, X, rfl, ⟨hc, hk, htl, he⟩, hok, hA, q⟩ := h
  refine ⟨_, (pss_cons (ps_set (i := 1) sc_span_at.nd rfl (by first | exact Or.inl rfl | exact Or.inr rfl) (pe_callD D_number_at hr (pa_cons (pv 0) pa_nil)))
    (pss_cons (ps_expr (pe_methD M_expect c_C hr (pv 0) (pa_cons pe_str pa_nil)))
    (pss_one (ps_ret (pe_makeD M_Span hr (pa_cons (pv 1) (pa_cons (pe_callD D_number_at hr (pa_cons (pv 0) pa_nil)) pa_nil))))))), ?_⟩
  rw [okF] at hok
  obtain ⟨hab, ha, hb⟩ := hok
  have he1 : t.cps.toList.drop k = num a ++ (cp ", " ++ (num b ++ (cp ")" ++ post))) := by rw [he]; show (num a ++ (cp ", " ++ num b)) ++ _ = _; simp only [List.append_assoc]
  refine ⟨_, rfl, cu, dx, t, k, a, _, rfl, hc, hk, htl, he1, ha, (by rw [cp_co]; exact nxt_cons fig_no.1), ?_⟩
  obtain ⟨he2, hk2⟩ := drop_more he1 hk
  have lz : (Str.ofString ", ").length = 2 := by decide +kernel
  have l3 : (cp ", ").length = 2 := by rw [cp_co]; rfl
  have hp : (Str.ofString ", ").cps.toList <+: t.cps.toList.drop (k + (num a).length) := by rw [he2]; exact ⟨_, rfl⟩
  refine ⟨_, rfl, cu, dx, _, rfl, upd_same, clookm .., cu, dx, t, Str.ofString ", ", k + (num a).length, rfl, upd_same, hk2, htl, by omega, hp, ?_⟩
  rw [upd_upd', lz]
  obtain ⟨he3, hk3⟩ := drop_more (a := cp ", ") he2 hk2
  rw [l3] at he3 hk3
  refine ⟨_, rfl, _, rfl, cu, dx, t, _, b, _, rfl, upd_same, hk3, htl, he3, hb, (by rw [cp_cl]; exact nxt_cons fig_no.2), ?_⟩
  rw [upd_upd']
  have ek : k + (num a).length + 2 + (num b).length = k + (bd (.sp a b)).length := by
    show _ = k + (num a ++ (cp ", " ++ num b)).length
    rw [List.length_append, List.length_append, l3]; omega
  rw [ek]
  intro x dx' h1 h2 h12
  have m1 := Mv.move (fs' := curF t (k + (bd (.sp a b)).length)) hc
  have e1 : upd H cu (curO C dx t (k + (bd (.sp a b)).length)) cu = some (curO C dx t (k + (bd (.sp a b)).length)) := upd_same
  refine ⟨x, dx', a, b, rfl, upd_same, hab, rfl, ?_⟩
  rw [upd_upd']
  have E := Ext.made (C := c.s) (fs := spanF a b) h1 h2 h12
  have e2 := E.s _ _ e1
  refine ⟨_, (m1.ext E).sub e2, q x _ (m1.ext E) e2 ?_⟩
  exact ⟨(hA.mv m1 e1).nin h1, dx', upd_same⟩
def spLetAt (c : FC) (C : Addr) : Sp := fun vs H Q _ => ∃ (cu dx : Addr) (t : Str) (k : Nat) (sg : Str) (post : List Nat) (X : List Addr), vs = [.ref cu] ∧ Rd H C cu dx t k (sg.cps.toList ++ (cp ")" ++ post)) ∧ okF (.le sg) ∧ Alloc X H ∧
  ∀ o H', Mv cu H H' → H' cu = some (curO C dx t (k + sg.cps.toList.length)) → FAt c X H' (.le sg) o → Q (.ref o) H'
theorem goodText_mem {s : Str} (h : goodText s = true) : ∀ c, c ∈ s.cps.toList → c ∈ L62.cps.toList := fun c hc => by
  unfold goodText madeOf at h
  simp only [Bool.and_eq_true, decide_eq_true_eq, List.all_eq_true] at h
  exact h.2 c hc
theorem ok_letters_at {f C : Addr} {c : FC} {fd : FuncData} (c_C : Cls K C) (g_LETTERS_AND_FIGURES : GlobV mg "LETTERS_AND_FIGURES" (.str L62)) (F : FunAt K mg "letters_at" s_letters_at ["cursor"] f fd) (M_run_of : MethOk P w K mg base 2 C "run_of" ["self", "signs"] (spRun C)) (M_Letters : MakeOk P w K mg base 2 "Letters" c.l ["self", "signs"] (spLetInit c.l)) : DefOk P w K mg base 4 "letters_at" ["cursor"] (spLetAt c C) := by
  refine F.ok sc_letters_at (fun vs H Q E h => ?_) (fun cdv A outer s H vs Q E hr h => ?_)
  · obtain ⟨_, _, _, _, _, _, _, rfl, _⟩ := h; rfl
  obtain ⟨cu, dx, t, k, sg, post, X, rfl, ⟨hc, hk, htl, he⟩, hok, hA, q⟩ := h
  refine ⟨_, (pss_one (ps_ret (pe_makeD M_Letters hr (pa_cons (pe_methD M_run_of c_C hr (pv 0) (pa_cons (pe_globV g_LETTERS_AND_FIGURES) pa_nil)) pa_nil)))), ?_⟩
  rw [okF] at hok
  refine ⟨_, rfl, cu, dx, _, rfl, hc, clookm .., cu, dx, t, L62, k, sg.cps.toList, cp ")" ++ post, rfl, hc, htl, ⟨he, goodText_mem hok.1, (by rw [cp_cl]; exact nxt_cons c62_no), hk⟩, ?_⟩
  rw [str_eta]
  intro x dx' h1 h2 h12
  have m1 := Mv.move (fs' := curF t (k + sg.cps.toList.length)) hc
  have e1 : upd H cu (curO C dx t (k + sg.cps.toList.length)) cu = some (curO C dx t (k + sg.cps.toList.length)) := upd_same
  refine ⟨x, dx', sg, rfl, upd_same, by omega, hok.1, rfl, ?_⟩
  rw [upd_upd']
  have E := Ext.made (C := c.l) (fs := letF sg) h1 h2 h12
  have e2 := E.s _ _ e1
  refine ⟨_, (m1.ext E).sub e2, q x _ (m1.ext E) e2 ?_⟩
  exact ⟨(hA.mv m1 e1).nin h1, dx', upd_same⟩
set_option maxHeartbeats 4000000 in
theorem ok_bracketed {f C : Addr} {c : FC} {fd : FuncData} {n : Nat} (F : FunAt K mg "bracketed_form_at" s_bracketed_form_at ["cursor", "word", "depth"] f fd) (D_span_at : DefOk P w K mg base 4 "span_at" ["cursor"] (spSpanAt c C)) (D_letters_at : DefOk P w K mg base 4 "letters_at" ["cursor"] (spLetAt c C)) (D_form_at : DefOk P w K mg base (4 * n + 8) "form_at" ["cursor", "depth"] (spForm31 c C n)) (D_parts_at : DefOk P w K mg base (4 * n + 10) "parts_at" ["cursor", "depth"] (spParts31 c C n))
    (M_Record : MakeOk P w K mg base 4 "Record" (c.t 0) ["self", "parts"] (spTwoInit (c.t 0))) (M_Choice : MakeOk P w K mg base 4 "Choice" (c.t 1) ["self", "cases"] (spTwoInit (c.t 1))) (M_Maybe : MakeOk P w K mg base 1 "Maybe" (c.o 0) ["self", "inner"] (spOneInit (c.o 0))) (M_Many : MakeOk P w K mg base 1 "Many" (c.o 1) ["self", "inner"] (spOneInit (c.o 1))) (M_Turned : MakeOk P w K mg base 1 "Turned" (c.o 2) ["self", "inner"] (spOneInit (c.o 2))) :
    DefOk P w K mg base (4 * n + 10 + 1) "bracketed_form_at" ["cursor", "word", "depth"] (spBrk c C n) := by
  refine F.ok sc_bracketed_form_at (fun vs H Q E h => ?_) (fun cdv A outer s H vs Q E hr h => ?_)
  · obtain ⟨_, _, _, _, _, _, _, _, rfl, _⟩ := h; rfl
  obtain ⟨cu, dx, t, k, dep, fm, post, X, rfl, ⟨hc, hk, htl, he⟩, hB, hok, hht, hdep, hcX, hA, q⟩ := h
  refine ⟨_, (pss_cons (ps_if (pt_cmpR oEq (pv 1) pe_str (nomark _)) (pss_one (ps_ret (pe_callD D_span_at hr (pa_cons (pv 0) pa_nil) (hk := by omega)))) pss_nil)
    (pss_cons (ps_if (pt_cmpR oEq (pv 1) pe_str (nomark _)) (pss_one (ps_ret (pe_callD D_letters_at hr (pa_cons (pv 0) pa_nil) (hk := by omega)))) pss_nil)
    (pss_cons (ps_if (pt_cmpR oEq (pv 1) pe_str (nomark _)) (pss_one (ps_ret (pe_makeD M_Maybe hr (pa_cons (pe_callD D_form_at hr (pa_cons (pv 0) (pa_cons (pe_op oAdd (pv 2) pe_int) pa_nil)) (hk := by omega)) pa_nil) (hk := by omega)))) pss_nil)
    (pss_cons (ps_if (pt_cmpR oEq (pv 1) pe_str (nomark _)) (pss_one (ps_ret (pe_makeD M_Many hr (pa_cons (pe_callD D_form_at hr (pa_cons (pv 0) (pa_cons (pe_op oAdd (pv 2) pe_int) pa_nil)) (hk := by omega)) pa_nil) (hk := by omega)))) pss_nil)
    (pss_cons (ps_if (pt_cmpR oEq (pv 1) pe_str (nomark _)) (pss_one (ps_ret (pe_makeD M_Record hr (pa_cons (pe_callD D_parts_at hr (pa_cons (pv 0) (pa_cons (pe_op oAdd (pv 2) pe_int) pa_nil)) (hk := by omega)) pa_nil) (hk := by omega)))) pss_nil)
    (pss_cons (ps_if (pt_cmpR oEq (pv 1) pe_str (nomark _)) (pss_one (ps_ret (pe_makeD M_Choice hr (pa_cons (pe_callD D_parts_at hr (pa_cons (pv 0) (pa_cons (pe_op oAdd (pv 2) pe_int) pa_nil)) (hk := by omega)) pa_nil) (hk := by omega)))) pss_nil)
    (pss_cons (ps_if (pt_cmpR oEq (pv 1) pe_str (nomark _)) (pss_one (ps_ret (pe_makeD M_Turned hr (pa_cons (pe_callD D_form_at hr (pa_cons (pv 0) (pa_cons (pe_op oAdd (pv 2) pe_int) pa_nil)) (hk := by omega)) pa_nil) (hk := by omega)))) pss_nil)
    (pss_one ps_never)))))))), ?_⟩
  cases fm with
  | bare k => cases hB
  | sp a b =>
    exact ⟨_, rfl, rfl, _, rfl, iteY rfl ⟨_, rfl, cu, dx, t, k, a, b, post, X, rfl, ⟨hc, hk, htl, he⟩, hok, hA, fun o H' m e hF => ⟨_, m.sub e, q o H' m e hF⟩⟩⟩
  | le sg =>
    refine ⟨_, rfl, rfl, _, rfl, iteN (show ¬ V.str (Str.ofString "letters") = V.str _ from by decide +kernel) ?_⟩
    exact ⟨_, rfl, rfl, _, rfl, iteY rfl ⟨_, rfl, cu, dx, t, k, sg, post, X, rfl, ⟨hc, hk, htl, he⟩, hok, hA, fun o H' m e hF => ⟨_, m.sub e, q o H' m e hF⟩⟩⟩
  | one i fi =>
    rcases fin3 i with rfl | rfl | rfl
    · obtain ⟨CC, hCC⟩ : ∃ CC, CC = c.o 0 := ⟨_, rfl⟩
      rw [← hCC]
      refine ⟨_, rfl, rfl, _, rfl, iteN (show ¬ V.str (ow 0) = V.str _ from by decide +kernel) ?_⟩
      refine ⟨_, rfl, rfl, _, rfl, iteN (show ¬ V.str (ow 0) = V.str _ from by decide +kernel) ?_⟩
      refine ⟨_, rfl, rfl, _, rfl, iteY rfl ?_⟩
      have hht2 : ht fi + 1 ≤ n + 1 := by rw [ht] at hht; exact hht
      have hdep2 : dep + (ht fi + 1) ≤ 9 := by rw [ht] at hdep; exact hdep
      have hok2 : okF fi := by rw [okF] at hok; exact hok
      refine ⟨_, rfl, _, rfl, .inl ⟨_, _, rfl, rfl, cu, dx, t, k, dep + 1, fi, cp ")" ++ post, X, rfl, ⟨hc, hk, htl, he⟩, (by rw [cp_cl]; exact nxt_cons n26.2.1), hok2, by omega, by omega, hcX, hA, fun i H1 m1 e1 hF => ?_⟩⟩
      intro x dx' h1 h2 h12
      refine ⟨x, dx', i, rfl, upd_same, rfl, ?_⟩
      rw [upd_upd']
      have E := Ext.made (C := CC) (fs := [("inner", V.ref i)]) h1 h2 h12
      have e2 := E.s _ _ e1
      refine ⟨_, (m1.ext E).sub e2, q x _ (m1.ext E) e2 ⟨(hA.mv m1 e1).nin h1, dx', i, by rw [← hCC]; exact upd_same, FAt.keep (fun b u _ e => E.s b u e) fi hF⟩⟩
    · obtain ⟨CC, hCC⟩ : ∃ CC, CC = c.o 1 := ⟨_, rfl⟩
      rw [← hCC]
      refine ⟨_, rfl, rfl, _, rfl, iteN (show ¬ V.str (ow 1) = V.str _ from by decide +kernel) ?_⟩
      refine ⟨_, rfl, rfl, _, rfl, iteN (show ¬ V.str (ow 1) = V.str _ from by decide +kernel) ?_⟩
      refine ⟨_, rfl, rfl, _, rfl, iteN (show ¬ V.str (ow 1) = V.str _ from by decide +kernel) ?_⟩
      refine ⟨_, rfl, rfl, _, rfl, iteY rfl ?_⟩
      have hht2 : ht fi + 1 ≤ n + 1 := by rw [ht] at hht; exact hht
      have hdep2 : dep + (ht fi + 1) ≤ 9 := by rw [ht] at hdep; exact hdep
      have hok2 : okF fi := by rw [okF] at hok; exact hok
      refine ⟨_, rfl, _, rfl, .inl ⟨_, _, rfl, rfl, cu, dx, t, k, dep + 1, fi, cp ")" ++ post, X, rfl, ⟨hc, hk, htl, he⟩, (by rw [cp_cl]; exact nxt_cons n26.2.1), hok2, by omega, by omega, hcX, hA, fun i H1 m1 e1 hF => ?_⟩⟩
      intro x dx' h1 h2 h12
      refine ⟨x, dx', i, rfl, upd_same, rfl, ?_⟩
      rw [upd_upd']
      have E := Ext.made (C := CC) (fs := [("inner", V.ref i)]) h1 h2 h12
      have e2 := E.s _ _ e1
      refine ⟨_, (m1.ext E).sub e2, q x _ (m1.ext E) e2 ⟨(hA.mv m1 e1).nin h1, dx', i, by rw [← hCC]; exact upd_same, FAt.keep (fun b u _ e => E.s b u e) fi hF⟩⟩
    · obtain ⟨CC, hCC⟩ : ∃ CC, CC = c.o 2 := ⟨_, rfl⟩
      rw [← hCC]
      refine ⟨_, rfl, rfl, _, rfl, iteN (show ¬ V.str (ow 2) = V.str _ from by decide +kernel) ?_⟩
      refine ⟨_, rfl, rfl, _, rfl, iteN (show ¬ V.str (ow 2) = V.str _ from by decide +kernel) ?_⟩
      refine ⟨_, rfl, rfl, _, rfl, iteN (show ¬ V.str (ow 2) = V.str _ from by decide +kernel) ?_⟩
      refine ⟨_, rfl, rfl, _, rfl, iteN (show ¬ V.str (ow 2) = V.str _ from by decide +kernel) ?_⟩
      refine ⟨_, rfl, rfl, _, rfl, iteN (show ¬ V.str (ow 2) = V.str _ from by decide +kernel) ?_⟩
      refine ⟨_, rfl, rfl, _, rfl, iteN (show ¬ V.str (ow 2) = V.str _ from by decide +kernel) ?_⟩
      refine ⟨_, rfl, rfl, _, rfl, iteY rfl ?_⟩
      have hht2 : ht fi + 1 ≤ n + 1 := by rw [ht] at hht; exact hht
      have hdep2 : dep + (ht fi + 1) ≤ 9 := by rw [ht] at hdep; exact hdep
      have hok2 : okF fi := by rw [okF] at hok; exact hok
      refine ⟨_, rfl, _, rfl, .inl ⟨_, _, rfl, rfl, cu, dx, t, k, dep + 1, fi, cp ")" ++ post, X, rfl, ⟨hc, hk, htl, he⟩, (by rw [cp_cl]; exact nxt_cons n26.2.1), hok2, by omega, by omega, hcX, hA, fun i H1 m1 e1 hF => ?_⟩⟩
      intro x dx' h1 h2 h12
      refine ⟨x, dx', i, rfl, upd_same, rfl, ?_⟩
      rw [upd_upd']
      have E := Ext.made (C := CC) (fs := [("inner", V.ref i)]) h1 h2 h12
      have e2 := E.s _ _ e1
      refine ⟨_, (m1.ext E).sub e2, q x _ (m1.ext E) e2 ⟨(hA.mv m1 e1).nin h1, dx', i, by rw [← hCC]; exact upd_same, FAt.keep (fun b u _ e => E.s b u e) fi hF⟩⟩
  | two i ns fi =>
    rcases fin2 i with rfl | rfl
    · obtain ⟨CC, hCC⟩ : ∃ CC, CC = c.t 0 := ⟨_, rfl⟩
      rw [← hCC]
      refine ⟨_, rfl, rfl, _, rfl, iteN (show ¬ V.str (tw 0) = V.str _ from by decide +kernel) ?_⟩
      refine ⟨_, rfl, rfl, _, rfl, iteN (show ¬ V.str (tw 0) = V.str _ from by decide +kernel) ?_⟩
      refine ⟨_, rfl, rfl, _, rfl, iteN (show ¬ V.str (tw 0) = V.str _ from by decide +kernel) ?_⟩
      refine ⟨_, rfl, rfl, _, rfl, iteN (show ¬ V.str (tw 0) = V.str _ from by decide +kernel) ?_⟩
      refine ⟨_, rfl, rfl, _, rfl, iteY rfl ?_⟩
      have hht2 : hts fi + 1 ≤ n + 1 := by rw [ht] at hht; exact hht
      have hdep2 : dep + (hts fi + 1) ≤ 9 := by rw [ht] at hdep; exact hdep
      have hok2 : goodNames ns = true ∧ ns.length = fi.length ∧ okFs fi := by rw [okF] at hok; exact hok
      have hne : fi ≠ [] := fun z => by
        have h1 := hok2.1
        rw [z] at hok2
        have : ns = [] := List.length_eq_zero_iff.mp hok2.2.1
        rw [this] at h1
        cases h1
      refine ⟨_, rfl, _, rfl, .inl ⟨_, _, rfl, rfl, cu, dx, t, k, dep + 1, fi, ns, post, X, rfl, ⟨hc, hk, htl, he⟩, hne, hok2.2.1, hok2.1, hok2.2.2, by omega, by omega, hcX, hA, fun p ps H1 m1 e1 hP hnm hF => ?_⟩⟩
      intro y dx' hy hdx hne'
      have E1 := Ext.made (C := CC) (fs := []) hy hdx hne'
      refine ⟨y, dx', p, ps, rfl, upd_same, hP.same E1.s, by rw [hnm]; exact hok2.1, fun l1 l2 h1 h2 h12 => ⟨rfl, ?_⟩⟩
      have n1 : l1 ≠ y := fun z => by rw [z, upd_same] at h1; cases h1
      have n2 : l2 ≠ y := fun z => by rw [z, upd_same] at h2; cases h2
      rw [upd_swap n2, upd_swap n1, upd_upd']
      have F1 := Ext.made (C := CC) (fs := twoF l1 l2) hy hdx hne'
      have g1 : upd (upd H1 dx' (.own y)) y (.ins CC dx' (twoF l1 l2)) l1 = none := by rw [upd_ne n1] at h1 ⊢; exact h1
      have F2 := Ext.lst (xs := (nms ps).map V.str) g1
      have g2 : upd (upd (upd H1 dx' (.own y)) y (.ins CC dx' (twoF l1 l2))) l1 (.lst ((nms ps).map V.str)) l2 = none := by rw [upd_ne (Ne.symm h12)]; rw [upd_ne n2] at h2 ⊢; exact h2
      have F3 := Ext.lst (xs := (fms ps).map V.ref) g2
      have E := (F1.trans F2).trans F3
      have e2 := E.s _ _ e1
      have hA1 := hA.mv m1 e1
      refine ⟨_, (m1.ext E).sub e2, q y _ (m1.ext E) e2 ⟨hA1.nin hy, dx', l1, l2, fms ps, by rw [← hCC]; exact (F2.trans F3).s _ _ upd_same, hA1.nin (F1.s.free g1), hA1.nin ((F1.trans F2).s.free g2), by rw [← hnm]; exact F3.s _ _ upd_same, upd_same, FsAt.keep (fun b u _ e => E.s b u e) fi hF⟩⟩
    · obtain ⟨CC, hCC⟩ : ∃ CC, CC = c.t 1 := ⟨_, rfl⟩
      rw [← hCC]
      refine ⟨_, rfl, rfl, _, rfl, iteN (show ¬ V.str (tw 1) = V.str _ from by decide +kernel) ?_⟩
      refine ⟨_, rfl, rfl, _, rfl, iteN (show ¬ V.str (tw 1) = V.str _ from by decide +kernel) ?_⟩
      refine ⟨_, rfl, rfl, _, rfl, iteN (show ¬ V.str (tw 1) = V.str _ from by decide +kernel) ?_⟩
      refine ⟨_, rfl, rfl, _, rfl, iteN (show ¬ V.str (tw 1) = V.str _ from by decide +kernel) ?_⟩
      refine ⟨_, rfl, rfl, _, rfl, iteN (show ¬ V.str (tw 1) = V.str _ from by decide +kernel) ?_⟩
      refine ⟨_, rfl, rfl, _, rfl, iteY rfl ?_⟩
      have hht2 : hts fi + 1 ≤ n + 1 := by rw [ht] at hht; exact hht
      have hdep2 : dep + (hts fi + 1) ≤ 9 := by rw [ht] at hdep; exact hdep
      have hok2 : goodNames ns = true ∧ ns.length = fi.length ∧ okFs fi := by rw [okF] at hok; exact hok
      have hne : fi ≠ [] := fun z => by
        have h1 := hok2.1
        rw [z] at hok2
        have : ns = [] := List.length_eq_zero_iff.mp hok2.2.1
        rw [this] at h1
        cases h1
      refine ⟨_, rfl, _, rfl, .inl ⟨_, _, rfl, rfl, cu, dx, t, k, dep + 1, fi, ns, post, X, rfl, ⟨hc, hk, htl, he⟩, hne, hok2.2.1, hok2.1, hok2.2.2, by omega, by omega, hcX, hA, fun p ps H1 m1 e1 hP hnm hF => ?_⟩⟩
      intro y dx' hy hdx hne'
      have E1 := Ext.made (C := CC) (fs := []) hy hdx hne'
      refine ⟨y, dx', p, ps, rfl, upd_same, hP.same E1.s, by rw [hnm]; exact hok2.1, fun l1 l2 h1 h2 h12 => ⟨rfl, ?_⟩⟩
      have n1 : l1 ≠ y := fun z => by rw [z, upd_same] at h1; cases h1
      have n2 : l2 ≠ y := fun z => by rw [z, upd_same] at h2; cases h2
      rw [upd_swap n2, upd_swap n1, upd_upd']
      have F1 := Ext.made (C := CC) (fs := twoF l1 l2) hy hdx hne'
      have g1 : upd (upd H1 dx' (.own y)) y (.ins CC dx' (twoF l1 l2)) l1 = none := by rw [upd_ne n1] at h1 ⊢; exact h1
      have F2 := Ext.lst (xs := (nms ps).map V.str) g1
      have g2 : upd (upd (upd H1 dx' (.own y)) y (.ins CC dx' (twoF l1 l2))) l1 (.lst ((nms ps).map V.str)) l2 = none := by rw [upd_ne (Ne.symm h12)]; rw [upd_ne n2] at h2 ⊢; exact h2
      have F3 := Ext.lst (xs := (fms ps).map V.ref) g2
      have E := (F1.trans F2).trans F3
      have e2 := E.s _ _ e1
      have hA1 := hA.mv m1 e1
      refine ⟨_, (m1.ext E).sub e2, q y _ (m1.ext E) e2 ⟨hA1.nin hy, dx', l1, l2, fms ps, by rw [← hCC]; exact (F2.trans F3).s _ _ upd_same, hA1.nin (F1.s.free g1), hA1.nin ((F1.trans F2).s.free g2), by rw [← hnm]; exact F3.s _ _ upd_same, upd_same, FsAt.keep (fun b u _ e => E.s b u e) fi hF⟩⟩

theorem wd_othr (f : Fm) (h : isB f = false) : wd f ∈ othr := by
  have ho : ∀ k : Fin 3, ow k ∈ othr := by decide +kernel
  have ht : ∀ k : Fin 2, tw k ∈ othr := by decide +kernel
  have hs : Str.ofString "span" ∈ othr := by decide +kernel
  have hl : Str.ofString "letters" ∈ othr := by decide +kernel
  cases f with
  | bare k => cases h
  | sp a b => exact hs
  | le s => exact hl
  | one k f => exact ho k
  | two k ns fs => exact ht k
set_option maxHeartbeats 4000000 in
theorem step_form_at {f C : Addr} {c : FC} {fd : FuncData} {n : Nat} (c_C : Cls K C) (g_SMALL_LETTERS : GlobV mg "SMALL_LETTERS" (.str L26)) (g_MOST_DEEP : GlobV mg "MOST_DEEP" (.int 8)) (F : FunAt K mg "form_at" s_form_at ["cursor", "depth"] f fd) (M_run_of : MethOk P w K mg base 2 C "run_of" ["self", "signs"] (spRun C)) (M_expect : MethOk P w K mg base 2 C "expect" ["self", "words"] (spExpect C)) (D_bare_form : DefOk P w K mg base 1 "bare_form" ["word"] (spBare c))
    (D_bracketed_form_at : DefOk P w K mg base (4 * n + 11) "bracketed_form_at" ["cursor", "word", "depth"] (spBrk c C n)) : DefOk P w K mg base (4 * n + 11 + 1) "form_at" ["cursor", "depth"] (spForm31 c C (n + 1)) := by
  refine F.ok sc_form_at (fun vs H Q E h => ?_) (fun cdv A outer s H vs Q E hr h => ?_)
  · obtain ⟨_, _, _, _, _, _, _, _, rfl, _⟩ := h; rfl
  obtain ⟨cu, dx, t, k, dep, fm, post, X, rfl, ⟨hc, hk, htl, he⟩, hN, hok, hht, hdep, hcX, hA, q⟩ := h
  refine ⟨_, (pss_cons (ps_if (pt_cmpR oGt (pv 1) (pe_globV g_MOST_DEEP) (nomark _)) (pss_one ps_never) pss_nil)
    (pss_cons (ps_set (i := 2) sc_form_at.nd rfl (by first | exact Or.inl rfl | exact Or.inr rfl) (pe_methD M_run_of c_C hr (pv 0) (pa_cons (pe_globV g_SMALL_LETTERS) pa_nil) (hk := by omega)))
    (pss_cons (ps_set (i := 3) sc_form_at.nd rfl (by first | exact Or.inl rfl | exact Or.inr rfl) (pe_callD D_bare_form hr (pa_cons (pv 2) pa_nil) (hk := by omega)))
    (pss_cons (ps_if (pt_cmpR op_isN (pv 3) pe_non (nomark _)) (pss_cons (ps_expr (pe_methD M_expect c_C hr (pv 0) (pa_cons pe_str pa_nil) (hk := by omega)))
      (pss_cons (ps_set (i := 3) sc_form_at.nd rfl (by first | exact Or.inl rfl | exact Or.inr rfl) (pe_callD D_bracketed_form_at hr (pa_cons (pv 0) (pa_cons (pv 2) (pa_cons (pv 1) pa_nil))) (hk := by omega)))
      (pss_one (ps_expr (pe_methD M_expect c_C hr (pv 0) (pa_cons pe_str pa_nil) (hk := by omega)))))) pss_nil)
    (pss_one (ps_ret (pv 3))))))), ?_⟩
  have hp1 := ht_pos fm
  refine ⟨_, rfl, _, _, rfl, rfl, _, rfl, iteN (by omega) ?_⟩
  have hlw : (wd fm).cps.toList.length = (wd fm).length := Array.length_toList
  by_cases hB : isB fm = true
  · obtain ⟨kb, rfl⟩ : ∃ kb, fm = .bare kb := by
      cases fm with
      | bare kb => exact ⟨kb, rfl⟩
      | _ => cases hB
    have hsh : sh (.bare kb) = (bw kb).cps.toList := by rw [sh]
    rw [hsh] at he q
    refine ⟨_, rfl, cu, dx, _, rfl, hc, clookm .., cu, dx, t, L26, k, (bw kb).cps.toList, post, rfl, hc, htl, ⟨he, wd_small (.bare kb), hN, hk⟩, ?_⟩
    rw [str_eta]
    have m1 := Mv.move (fs' := curF t (k + (bw kb).cps.toList.length)) hc
    have e1 : upd H cu (curO C dx t (k + (bw kb).cps.toList.length)) cu = some (curO C dx t (k + (bw kb).cps.toList.length)) := upd_same
    refine ⟨_, rfl, bw kb, rfl, .inl ⟨kb, rfl, fun x dx' h1 h2 h12 => ?_⟩⟩
    have E := Ext.made (C := c.b kb) (fs := []) h1 h2 h12
    have e2 := E.s _ _ e1
    refine ⟨_, rfl, rfl, _, rfl, iteN (fun z => nomatch z) ⟨_, rfl, _, (m1.ext E).sub e2, q x _ (m1.ext E) e2 ?_⟩⟩
    exact ⟨(hA.mv m1 e1).nin h1, dx', upd_same⟩
  · have hB : isB fm = false := by simpa using hB
    have hsh := sh_brk fm hB
    rw [hsh] at he q
    have he1 : t.cps.toList.drop k = (wd fm).cps.toList ++ (cp "(" ++ (bd fm ++ (cp ")" ++ post))) := by rw [he]; simp only [List.append_assoc]
    refine ⟨_, rfl, cu, dx, _, rfl, hc, clookm .., cu, dx, t, L26, k, (wd fm).cps.toList, cp "(" ++ (bd fm ++ (cp ")" ++ post)), rfl, hc, htl, ⟨he1, wd_small fm, (by rw [cp_op]; exact nxt_cons n26.1.2), hk⟩, ?_⟩
    rw [str_eta, hlw]
    obtain ⟨he2, hk2⟩ := drop_more he1 hk
    rw [hlw] at he2 hk2
    refine ⟨_, rfl, wd fm, rfl, .inr ⟨wd_othr fm hB, ?_⟩⟩
    have lo : (Str.ofString "(").length = 1 := by decide +kernel
    have lc : (Str.ofString ")").length = 1 := by decide +kernel
    have lo' : (cp "(").length = 1 := by rw [cp_op]; rfl
    have lc' : (cp ")").length = 1 := by rw [cp_cl]; rfl
    have hp : (Str.ofString "(").cps.toList <+: t.cps.toList.drop (k + (wd fm).length) := by rw [he2]; exact ⟨_, rfl⟩
    refine ⟨_, rfl, rfl, _, rfl, iteY rfl ⟨_, rfl, cu, dx, _, rfl, upd_same, clookm .., cu, dx, t, Str.ofString "(", k + (wd fm).length, rfl, upd_same, hk2, htl, by omega, hp, ?_⟩⟩
    rw [upd_upd', lo]
    obtain ⟨he3, hk3⟩ := drop_more (a := cp "(") he2 hk2
    rw [lo'] at he3 hk3
    have m1 := Mv.move (fs' := curF t (k + (wd fm).length + 1)) hc
    have e1 : upd H cu (curO C dx t (k + (wd fm).length + 1)) cu = some (curO C dx t (k + (wd fm).length + 1)) := upd_same
    refine ⟨_, rfl, _, rfl, _, rfl, cu, dx, t, k + (wd fm).length + 1, dep, fm, post, X, rfl, ⟨e1, hk3, htl, he3⟩, hB, hok, hht, hdep, hcX, hA.mv m1 e1, fun o H' m2 e2 hF => ?_⟩
    obtain ⟨he4, hk4⟩ := drop_more he3 hk3
    have hp2 : (Str.ofString ")").cps.toList <+: t.cps.toList.drop (k + (wd fm).length + 1 + (bd fm).length) := by rw [he4]; exact ⟨_, rfl⟩
    refine ⟨_, rfl, cu, dx, _, rfl, e2, clookm .., cu, dx, t, Str.ofString ")", _, rfl, e2, hk4, htl, by omega, hp2, ?_⟩
    rw [lc]
    have m3 := (m1.trans m2).trans (Mv.move (fs' := curF t (k + (wd fm).length + 1 + (bd fm).length + 1)) e2)
    have e3 : upd H' cu (curO C dx t (k + (wd fm).length + 1 + (bd fm).length + 1)) cu = some (curO C dx t (k + ((wd fm).cps.toList ++ (cp "(" ++ (bd fm ++ cp ")"))).length)) := by
      rw [upd_same, List.length_append, List.length_append, List.length_append, hlw, lo', lc']
      rw [show k + (wd fm).length + 1 + (bd fm).length + 1 = k + ((wd fm).length + (1 + ((bd fm).length + 1))) by omega]
    refine ⟨_, rfl, _, m3.sub e3, q o _ m3 e3 (FAt.keep (fun b u nb e => ?_) fm hF)⟩
    rw [upd_ne (fun z => nb (by rw [z]; exact hcX))]; exact e
def spFormOf (c : FC) : Sp := fun vs H Q _ => ∃ (f : Fm), vs = [.str ⟨(sh f).toArray⟩] ∧ okF f ∧ ht f ≤ 8 ∧ (sh f).length ≤ 100000 ∧ ∀ o H', Ext H H' → FAt c [] H' f o → Q (.ref o) H'
theorem ok_form_of {f C : Addr} {c : FC} {fd : FuncData} (c_C : Cls K C) (F : FunAt K mg "form_of" s_form_of ["text"] f fd) (M_Cursor : MakeOk P w K mg base 1 "Cursor" C ["self", "text"] (spCurInit C)) (M_ended : MethOk P w K mg base 1 C "ended" ["self"] (spEnded C)) (D_form_at : DefOk P w K mg base 40 "form_at" ["cursor", "depth"] (spForm31 c C 8)) : DefOk P w K mg base 41 "form_of" ["text"] (spFormOf c) := by
  refine F.ok sc_form_of (fun vs H Q E h => ?_) (fun cdv A outer s H vs Q E hr h => ?_)
  · obtain ⟨_, rfl, _⟩ := h; rfl
  obtain ⟨fm, rfl, hok, hht, hlen, q⟩ := h
  refine ⟨_, (pss_cons (ps_set (i := 1) sc_form_of.nd rfl (by first | exact Or.inl rfl | exact Or.inr rfl) (pe_makeD M_Cursor hr (pa_cons (pv 0) pa_nil)))
    (pss_cons (ps_tryQ (fun _ => (pss_one (ps_set (i := 2) sc_form_of.nd rfl (by first | exact Or.inl rfl | exact Or.inr rfl) (pe_callD D_form_at hr (pa_cons (pv 1) (pa_cons pe_int pa_nil)))))))
    (pss_cons (ps_if (pt_not (pt_truth (pe_methD0 M_ended c_C hr (pv 1)) (fun _ => rfl))) (pss_one ps_never) pss_nil)
    (pss_one (ps_ret (pv 2)))))), ?_⟩
  have hl0 : (⟨(sh fm).toArray⟩ : Str).length = (sh fm).length := by show (sh fm).toArray.size = _; rw [List.size_toArray]
  refine ⟨_, rfl, ?_⟩
  intro y dx h1 h2 h12
  refine ⟨y, dx, _, rfl, upd_same, rfl, ?_⟩
  rw [upd_upd']
  have E := Ext.made (C := C) (fs := curF ⟨(sh fm).toArray⟩ 0) h1 h2 h12
  have e1 : upd (upd H dx (.own y)) y (curO C dx ⟨(sh fm).toArray⟩ 0) y = some (curO C dx ⟨(sh fm).toArray⟩ 0) := upd_same
  generalize upd (upd H dx (.own y)) y (curO C dx ⟨(sh fm).toArray⟩ 0) = H1 at E e1 ⊢
  refine ⟨_, rfl, y, dx, ⟨(sh fm).toArray⟩, 0, 1, fm, [], [y], rfl, ⟨e1, Nat.zero_le _, by omega, by rw [List.append_nil]; rfl⟩, (fun c r e => nomatch e), hok, hht, by omega, List.mem_singleton.mpr rfl, (fun x hx => by rw [List.mem_singleton.mp hx, e1]; exact fun z => by cases z), fun o H' m e hF => ?_⟩
  refine ⟨_, rfl, y, dx, _, rfl, e, clookm .., y, dx, _, _, rfl, e, by omega, true, (by rw [decide_eq_true (by rw [hl0]; omega)]; rfl), iteF ⟨_, rfl, H', ?_, ?_⟩⟩
  · have : Ext H H' := ⟨fun b u q => m.k b u (ne_of_none q h1) (E.s b u q), fun cl => m.c (E.c cl)⟩
    exact this.sub
  · exact q o H' ⟨fun b u q => m.k b u (ne_of_none q h1) (E.s b u q), fun cl => m.c (E.c cl)⟩ (FAt.weak (fun x (hx : x ∈ []) => by cases hx) fm hF)

-- s_law_cell_at s_law_mixed s_law_numbers_of s_law_names s_law_simple s_law_tree s_law_text s_law_drawn s_law_kinds s_law_good s_law s_shown_parts s_Record_shown s_Choice_shown
/-! ### forms shown -/
def spShow (c : FC) (n : Nat) (i : Sl) : Sp := fun vs H Q _ => ∃ (o : Addr) (f : Fm), vs = [.ref o] ∧ slot f = i ∧ FAt c [] H f o ∧ okF f ∧ ht f ≤ n ∧ (sh f).length ≤ 90000 ∧ Q (.str ⟨(sh f).toArray⟩) H
theorem str_of {x : Str} {l : List Nat} (h : x.cps.toList = l) : x = ⟨l.toArray⟩ := by rw [← h]
theorem mk_len (l : List Nat) : (⟨l.toArray⟩ : Str).length = l.length := by simp [Str.length]
theorem mk_cps (l : List Nat) : (⟨l.toArray⟩ : Str).cps.toList = l := rfl
theorem sh_words : (Str.ofString "maybe(").cps.toList = (ow 0).cps.toList ++ cp "(" ∧ (Str.ofString "many(").cps.toList = (ow 1).cps.toList ++ cp "(" ∧ (Str.ofString "turned(").cps.toList = (ow 2).cps.toList ++ cp "(" ∧ (Str.ofString "record(").cps.toList = (tw 0).cps.toList ++ cp "(" ∧ (Str.ofString "choice(").cps.toList = (tw 1).cps.toList ++ cp "(" ∧ (Str.ofString "span(").cps.toList = cp "span" ++ cp "(" ∧ (Str.ofString "letters(").cps.toList = cp "letters" ++ cp "(" := by decide +kernel
theorem slot_bare {f : Fm} {k : Fin 4} (h : slot f = .b k) : f = .bare k := by
  cases f with
  | bare j => injection h with h; rw [h]
  | sp a b => cases h
  | le s => cases h
  | one j f => cases h
  | two j ns fs => cases h
theorem slot_sp {f : Fm} (h : slot f = .s) : ∃ a b, f = .sp a b := by
  cases f with
  | sp a b => exact ⟨a, b, rfl⟩
  | bare j => cases h
  | le s => cases h
  | one j f => cases h
  | two j ns fs => cases h
theorem slot_le {f : Fm} (h : slot f = .l) : ∃ s, f = .le s := by
  cases f with
  | le s => exact ⟨s, rfl⟩
  | sp a b => cases h
  | bare j => cases h
  | one j f => cases h
  | two j ns fs => cases h
theorem slot_one {f : Fm} {k : Fin 3} (h : slot f = .o k) : ∃ g, f = .one k g := by
  cases f with
  | one j g => injection h with h; rw [h]; exact ⟨g, rfl⟩
  | sp a b => cases h
  | bare j => cases h
  | le s => cases h
  | two j ns fs => cases h
theorem slot_two {f : Fm} {k : Fin 2} (h : slot f = .t k) : ∃ ns fs, f = .two k ns fs := by
  cases f with
  | two j ns fs => injection h with h; rw [h]; exact ⟨ns, fs, rfl⟩
  | sp a b => cases h
  | bare j => cases h
  | le s => cases h
  | one j f => cases h
theorem ok_Nothing_shown {f : Addr} {c : FC} {fd : FuncData} {n : Nat} (F : Fun K "shown" "Nothing.shown" s_Nothing_shown f fd) : FnOk P w K mg base CX0 1 f fd ["self"] (spShow c n (.b 0)) := by
  refine F.okK sc_Nothing_shown (fun vs H Q E h => ?_) (fun cdv A outer s H vs Q E hr h => ?_)
  · obtain ⟨_, _, rfl, _⟩ := h; rfl
  obtain ⟨o, fm, rfl, hs, hF, hok, hht, hlen, q⟩ := h
  have := slot_bare hs
  subst this
  have e : (⟨(sh (.bare 0)).toArray⟩ : Str) = Str.ofString "nothing" := by rw [sh]; exact str_eta _
  rw [e] at q
  exact ⟨_, (pss_one (ps_ret pe_str)), H, .refl (Same.refl _), q⟩
theorem ok_Truth_shown {f : Addr} {c : FC} {fd : FuncData} {n : Nat} (F : Fun K "shown" "Truth.shown" s_Truth_shown f fd) : FnOk P w K mg base CX0 1 f fd ["self"] (spShow c n (.b 1)) := by
  refine F.okK sc_Truth_shown (fun vs H Q E h => ?_) (fun cdv A outer s H vs Q E hr h => ?_)
  · obtain ⟨_, _, rfl, _⟩ := h; rfl
  obtain ⟨o, fm, rfl, hs, hF, hok, hht, hlen, q⟩ := h
  have := slot_bare hs
  subst this
  have e : (⟨(sh (.bare 1)).toArray⟩ : Str) = Str.ofString "truth" := by rw [sh]; exact str_eta _
  rw [e] at q
  exact ⟨_, (pss_one (ps_ret pe_str)), H, .refl (Same.refl _), q⟩
theorem ok_Whole_shown {f : Addr} {c : FC} {fd : FuncData} {n : Nat} (F : Fun K "shown" "Whole.shown" s_Whole_shown f fd) : FnOk P w K mg base CX0 1 f fd ["self"] (spShow c n (.b 2)) := by
  refine F.okK sc_Whole_shown (fun vs H Q E h => ?_) (fun cdv A outer s H vs Q E hr h => ?_)
  · obtain ⟨_, _, rfl, _⟩ := h; rfl
  obtain ⟨o, fm, rfl, hs, hF, hok, hht, hlen, q⟩ := h
  have := slot_bare hs
  subst this
  have e : (⟨(sh (.bare 2)).toArray⟩ : Str) = Str.ofString "whole" := by rw [sh]; exact str_eta _
  rw [e] at q
  exact ⟨_, (pss_one (ps_ret pe_str)), H, .refl (Same.refl _), q⟩
theorem ok_Fraction_shown {f : Addr} {c : FC} {fd : FuncData} {n : Nat} (F : Fun K "shown" "Fraction.shown" s_Fraction_shown f fd) : FnOk P w K mg base CX0 1 f fd ["self"] (spShow c n (.b 3)) := by
  refine F.okK sc_Fraction_shown (fun vs H Q E h => ?_) (fun cdv A outer s H vs Q E hr h => ?_)
  · obtain ⟨_, _, rfl, _⟩ := h; rfl
  obtain ⟨o, fm, rfl, hs, hF, hok, hht, hlen, q⟩ := h
  have := slot_bare hs
  subst this
  have e : (⟨(sh (.bare 3)).toArray⟩ : Str) = Str.ofString "fraction" := by rw [sh]; exact str_eta _
  rw [e] at q
  exact ⟨_, (pss_one (ps_ret pe_str)), H, .refl (Same.refl _), q⟩
theorem ok_Span_shown {f : Addr} {c : FC} {fd : FuncData} {n : Nat} (nb : NB mg) (T : SpanCls K c.s) (F : Fun K "shown" "Span.shown" s_Span_shown f fd) : FnOk P w K mg base CX0 1 f fd ["self"] (spShow c n .s) := by
  refine F.okK sc_Span_shown (fun vs H Q E h => ?_) (fun cdv A outer s H vs Q E hr h => ?_)
  · obtain ⟨_, _, rfl, _⟩ := h; rfl
  obtain ⟨o, fm, rfl, hs, hF, hok, hht, hlen, q⟩ := h
  obtain ⟨a, b, rfl⟩ := slot_sp hs
  obtain ⟨_, dx, ho⟩ := hF
  rw [okF] at hok
  obtain ⟨_, ha, hb⟩ := hok
  refine ⟨_, (pss_one (ps_ret (pe_op oAdd (pe_op oAdd (pe_op oAdd (pe_op oAdd pe_str (pe_callTy call_str_int rfl nb.str_ bo_str (pa_cons (pe_fld (pv 0) rfl) pa_nil))) pe_str) (pe_callTy call_str_int rfl nb.str_ bo_str (pa_cons (pe_fld (pv 0) rfl) pa_nil))) pe_str))), ?_⟩
  have ha' : a.natAbs < 10 ^ 60 := Nat.lt_trans ha (by decide +kernel)
  have hb' : b.natAbs < 10 ^ 60 := Nat.lt_trans hb (by decide +kernel)
  have la := len_toString (by decide) ha'
  have lb := len_toString (by decide) hb'
  have l1 : (Str.ofString "span(").length = 5 := by decide +kernel
  have l2 : (Str.ofString ", ").length = 2 := by decide +kernel
  have l3 : (Str.ofString ")").length = 1 := by decide +kernel
  refine ⟨_, rfl, o, c.s, dx, _, _, rfl, ho, T.cl, T.nL, look1 .., _, rfl, log_small ha', .inr ⟨_, _, rfl, rfl, small5 (by omega), ?_⟩⟩
  refine .inr ⟨_, _, rfl, rfl, small5 (by rw [app_len]; omega), ?_⟩
  refine ⟨_, rfl, o, c.s, dx, _, _, rfl, ho, T.cl, T.nH, look2 _ _ _ _ highlow, _, rfl, log_small hb', .inr ⟨_, _, rfl, rfl, small5 (by rw [app_len, app_len]; omega), ?_⟩⟩
  refine .inr ⟨_, _, rfl, rfl, small5 (by rw [app_len, app_len, app_len]; omega), H, .refl (Same.refl _), ?_⟩
  rw [← str_of (l := sh (.sp a b)) ?_] at q
  · exact q
  · rw [app_cps, app_cps, app_cps, app_cps, sh_words.2.2.2.2.2.1, sh]
    show (((cp "span" ++ cp "(") ++ num a) ++ cp ", ") ++ num b ++ cp ")" = _
    simp only [List.append_assoc]
theorem ok_Letters_shown {f : Addr} {c : FC} {fd : FuncData} {n : Nat} (T : LetCls K c.l) (F : Fun K "shown" "Letters.shown" s_Letters_shown f fd) : FnOk P w K mg base CX0 1 f fd ["self"] (spShow c n .l) := by
  refine F.okK sc_Letters_shown (fun vs H Q E h => ?_) (fun cdv A outer s H vs Q E hr h => ?_)
  · obtain ⟨_, _, rfl, _⟩ := h; rfl
  obtain ⟨o, fm, rfl, hs, hF, hok, hht, hlen, q⟩ := h
  obtain ⟨sg, rfl⟩ := slot_le hs
  obtain ⟨_, dx, ho⟩ := hF
  rw [okF] at hok
  refine ⟨_, (pss_one (ps_ret (pe_op oAdd (pe_op oAdd pe_str (pe_fld (pv 0) rfl)) pe_str))), ?_⟩
  have l1 : (Str.ofString "letters(").length = 8 := by decide +kernel
  have l3 : (Str.ofString ")").length = 1 := by decide +kernel
  refine ⟨_, rfl, o, c.l, dx, _, _, rfl, ho, T.cl, T.nS, look1 .., .inr ⟨_, _, rfl, rfl, small5 (by omega), ?_⟩⟩
  refine .inr ⟨_, _, rfl, rfl, small5 (by rw [app_len]; omega), H, .refl (Same.refl _), ?_⟩
  rw [← str_of (l := sh (.le sg)) ?_] at q
  · exact q
  · rw [app_cps, app_cps, sh_words.2.2.2.2.2.2, sh]
    show ((cp "letters" ++ cp "(") ++ sg.cps.toList) ++ cp ")" = _
    simp only [List.append_assoc]
theorem show_go {c : FC} {n : Nat} {H : Hp} {f : Fm} {o : Addr} {R : VK} (hF : FAt c [] H f o) (hok : okF f) (hht : ht f ≤ n) (hlen : (sh f).length ≤ 90000) (q : R (.str ⟨(sh f).toArray⟩) H) :
    ∃ a i dx fs, V.ref o = .ref a ∧ H a = some (.ins (clS c i) dx fs) ∧ fs.lookup (Str.ofString "shown") = none ∧ spShow c n i [.ref o] H R E0 := by
  obtain ⟨dx, fs, e, l⟩ := FAt.ins (m := Str.ofString "shown") (by decide +kernel) (by decide +kernel) (by decide +kernel) (by decide +kernel) (by decide +kernel) (by decide +kernel) f hF
  exact ⟨o, slot f, dx, fs, rfl, e, l, o, f, rfl, rfl, hF, hok, hht, hlen, q⟩
theorem ok_Maybe_shown {f : Addr} {c : FC} {fd : FuncData} {n : Nat} (T : OneCls K (c.o 0)) (F : Fun K "shown" "Maybe.shown" s_Maybe_shown f fd) (AM_shown : AnyM P w K mg base (2 * n + 3) "shown" ["self"] (clS c) (spShow c n)) : FnOk P w K mg base CX0 (2 * n + 3 + 1) f fd ["self"] (spShow c (n + 1) (.o 0)) := by
  refine F.okK sc_Maybe_shown (fun vs H Q E h => ?_) (fun cdv A outer s H vs Q E hr h => ?_)
  · obtain ⟨_, _, rfl, _⟩ := h; rfl
  obtain ⟨o, fm, rfl, hs, hF, hok, hht, hlen, q⟩ := h
  obtain ⟨g, rfl⟩ := slot_one hs
  obtain ⟨_, dx, i, ho, hI⟩ := hF
  have hok2 : okF g := by rw [okF] at hok; exact hok
  have hht2 : ht g ≤ n := by rw [ht] at hht; omega
  have esh : sh (.one 0 g) = (ow 0).cps.toList ++ (cp "(" ++ (sh g ++ cp ")")) := by rw [sh]
  have hlen2 : (sh g).length ≤ 90000 := by rw [esh, List.length_append, List.length_append, List.length_append] at hlen; omega
  refine ⟨_, (pss_one (ps_ret (pe_op oAdd (pe_op oAdd pe_str (pe_methAny0 AM_shown hr (pe_fld (pv 0) rfl) (hk := by omega))) pe_str))), ?_⟩
  have l0 : (Str.ofString "maybe(").length ≤ 10 := by decide +kernel
  have l3 : (Str.ofString ")").length = 1 := by decide +kernel
  have lg := mk_len (sh g)
  refine ⟨_, rfl, o, c.o 0, dx, _, _, rfl, ho, T.cl, T.nI, look1 .., show_go hI hok2 hht2 hlen2 (.inr ⟨_, _, rfl, rfl, small5 (by omega), ?_⟩)⟩
  refine .inr ⟨_, _, rfl, rfl, small5 (by rw [app_len]; omega), H, .refl (Same.refl _), ?_⟩
  rw [← str_of (l := sh (.one 0 g)) ?_] at q
  · exact q
  · rw [app_cps, app_cps, sh_words.1, esh, mk_cps]
    show ((_ ++ _) ++ sh g) ++ cp ")" = _
    simp only [List.append_assoc]
theorem ok_Many_shown {f : Addr} {c : FC} {fd : FuncData} {n : Nat} (T : OneCls K (c.o 1)) (F : Fun K "shown" "Many.shown" s_Many_shown f fd) (AM_shown : AnyM P w K mg base (2 * n + 3) "shown" ["self"] (clS c) (spShow c n)) : FnOk P w K mg base CX0 (2 * n + 3 + 1) f fd ["self"] (spShow c (n + 1) (.o 1)) := by
  refine F.okK sc_Many_shown (fun vs H Q E h => ?_) (fun cdv A outer s H vs Q E hr h => ?_)
  · obtain ⟨_, _, rfl, _⟩ := h; rfl
  obtain ⟨o, fm, rfl, hs, hF, hok, hht, hlen, q⟩ := h
  obtain ⟨g, rfl⟩ := slot_one hs
  obtain ⟨_, dx, i, ho, hI⟩ := hF
  have hok2 : okF g := by rw [okF] at hok; exact hok
  have hht2 : ht g ≤ n := by rw [ht] at hht; omega
  have esh : sh (.one 1 g) = (ow 1).cps.toList ++ (cp "(" ++ (sh g ++ cp ")")) := by rw [sh]
  have hlen2 : (sh g).length ≤ 90000 := by rw [esh, List.length_append, List.length_append, List.length_append] at hlen; omega
  refine ⟨_, (pss_one (ps_ret (pe_op oAdd (pe_op oAdd pe_str (pe_methAny0 AM_shown hr (pe_fld (pv 0) rfl) (hk := by omega))) pe_str))), ?_⟩
  have l0 : (Str.ofString "many(").length ≤ 10 := by decide +kernel
  have l3 : (Str.ofString ")").length = 1 := by decide +kernel
  have lg := mk_len (sh g)
  refine ⟨_, rfl, o, c.o 1, dx, _, _, rfl, ho, T.cl, T.nI, look1 .., show_go hI hok2 hht2 hlen2 (.inr ⟨_, _, rfl, rfl, small5 (by omega), ?_⟩)⟩
  refine .inr ⟨_, _, rfl, rfl, small5 (by rw [app_len]; omega), H, .refl (Same.refl _), ?_⟩
  rw [← str_of (l := sh (.one 1 g)) ?_] at q
  · exact q
  · rw [app_cps, app_cps, sh_words.2.1, esh, mk_cps]
    show ((_ ++ _) ++ sh g) ++ cp ")" = _
    simp only [List.append_assoc]
theorem ok_Turned_shown {f : Addr} {c : FC} {fd : FuncData} {n : Nat} (T : OneCls K (c.o 2)) (F : Fun K "shown" "Turned.shown" s_Turned_shown f fd) (AM_shown : AnyM P w K mg base (2 * n + 3) "shown" ["self"] (clS c) (spShow c n)) : FnOk P w K mg base CX0 (2 * n + 3 + 1) f fd ["self"] (spShow c (n + 1) (.o 2)) := by
  refine F.okK sc_Turned_shown (fun vs H Q E h => ?_) (fun cdv A outer s H vs Q E hr h => ?_)
  · obtain ⟨_, _, rfl, _⟩ := h; rfl
  obtain ⟨o, fm, rfl, hs, hF, hok, hht, hlen, q⟩ := h
  obtain ⟨g, rfl⟩ := slot_one hs
  obtain ⟨_, dx, i, ho, hI⟩ := hF
  have hok2 : okF g := by rw [okF] at hok; exact hok
  have hht2 : ht g ≤ n := by rw [ht] at hht; omega
  have esh : sh (.one 2 g) = (ow 2).cps.toList ++ (cp "(" ++ (sh g ++ cp ")")) := by rw [sh]
  have hlen2 : (sh g).length ≤ 90000 := by rw [esh, List.length_append, List.length_append, List.length_append] at hlen; omega
  refine ⟨_, (pss_one (ps_ret (pe_op oAdd (pe_op oAdd pe_str (pe_methAny0 AM_shown hr (pe_fld (pv 0) rfl) (hk := by omega))) pe_str))), ?_⟩
  have l0 : (Str.ofString "turned(").length ≤ 10 := by decide +kernel
  have l3 : (Str.ofString ")").length = 1 := by decide +kernel
  have lg := mk_len (sh g)
  refine ⟨_, rfl, o, c.o 2, dx, _, _, rfl, ho, T.cl, T.nI, look1 .., show_go hI hok2 hht2 hlen2 (.inr ⟨_, _, rfl, rfl, small5 (by omega), ?_⟩)⟩
  refine .inr ⟨_, _, rfl, rfl, small5 (by rw [app_len]; omega), H, .refl (Same.refl _), ?_⟩
  rw [← str_of (l := sh (.one 2 g)) ?_] at q
  · exact q
  · rw [app_cps, app_cps, sh_words.2.2.1, esh, mk_cps]
    show ((_ ++ _) ++ sh g) ++ cp ")" = _
    simp only [List.append_assoc]
def prt31 (f : Fm) (n : Str) : Str := (n ++ Str.ofString " ") ++ ⟨(sh f).toArray⟩
theorem prt_cps (f : Fm) (n : Str) : (prt31 f n).cps.toList = n.cps.toList ++ (cp " " ++ sh f) := by
  unfold prt31
  rw [app_cps, app_cps, List.append_assoc]; rfl
theorem join_shs : ∀ (fs : List Fm) (ns : List Str), ns.length = fs.length → (Str.join (Str.ofString ", ") (List.zipWith prt31 fs ns)).cps.toList = shs fs ns
  | [], ns, h => by
    rw [shs]; rfl
  | [f], [], h => by cases h
  | [f], n :: ns, h => by
    rw [shs_cons]
    show (prt31 f n).cps.toList = _
    rw [prt_cps]
    show _ = n.cps.toList ++ (cp " " ++ (sh f ++ []))
    rw [List.append_nil]
  | f :: g :: fs, [], h => by cases h
  | f :: g :: fs, [n], h => by cases h
  | f :: g :: fs, n :: m :: ns, h => by
    have ih := join_shs (g :: fs) (m :: ns) (Nat.succ.inj h)
    rw [shs_cons]
    show ((prt31 f n ++ Str.ofString ", ") ++ Str.join (Str.ofString ", ") (List.zipWith prt31 (g :: fs) (m :: ns))).cps.toList = _
    rw [app_cps, app_cps, ih, prt_cps]
    show _ = n.cps.toList ++ (cp " " ++ (sh f ++ (cp ", " ++ shs (g :: fs) (m :: ns))))
    simp only [List.append_assoc]
    rfl
theorem FsAt.get {c : FC} {X : List Addr} {H : Hp} : ∀ (fs : List Fm) {os : List Addr} {i : Nat} {o : Addr}, FsAt c X H fs os → os[i]? = some o → ∃ f, fs[i]? = some f ∧ FAt c X H f o
  | [], os, i, o, h, e => by
    obtain rfl : os = [] := h
    cases e
  | f :: fs, os, 0, o, h, e => by
    obtain ⟨o', r, rfl, q, q2⟩ := h
    cases e
    exact ⟨f, rfl, q⟩
  | f :: fs, os, i + 1, o, h, e => by
    obtain ⟨o', r, rfl, q, q2⟩ := h
    exact FsAt.get fs q2 e
theorem okFs_get : ∀ {fs : List Fm} {i : Nat} {f : Fm}, okFs fs → fs[i]? = some f → okF f ∧ ht f ≤ hts fs
  | [], i, f, h, e => by cases e
  | g :: fs, 0, f, h, e => by
    cases e
    rw [okFs] at h
    rw [hts]
    exact ⟨h.1, Nat.le_max_left ..⟩
  | g :: fs, i + 1, f, h, e => by
    rw [okFs] at h
    have := okFs_get h.2 e
    rw [hts]
    exact ⟨this.1, Nat.le_trans this.2 (Nat.le_max_right ..)⟩
theorem shs_part : ∀ (fs : List Fm) (ns : List Str), ns.length = fs.length → ∀ (i : Nat) (f : Fm) (n : Str), fs[i]? = some f → ns[i]? = some n → n.length + (1 + (sh f).length) ≤ (shs fs ns).length
  | [], ns, h, i, f, n, e1, e2 => by cases e1
  | g :: fs, [], h, i, f, n, e1, e2 => by cases h
  | g :: fs, m :: ns, h, 0, f, n, e1, e2 => by
    cases e1; cases e2
    have hln : m.cps.toList.length = m.length := Array.length_toList
    rw [shs_cons, List.length_append, List.length_append, List.length_append, hln, cp_sp]
    show _ ≤ m.length + (1 + _)
    omega
  | g :: fs, m :: ns, h, i + 1, f, n, e1, e2 => by
    have ih := shs_part fs ns (Nat.succ.inj h) i f n e1 e2
    rw [shs_cons, List.length_append, List.length_append, List.length_append]
    have : (shs fs ns).length ≤ (tlS fs ns).length := by
      cases fs with
      | nil => cases e1
      | cons a b => unfold tlS; rw [List.length_append]; omega
    omega
def spShP (c : FC) (n : Nat) : Sp := fun vs H Q _ => ∃ (l1 l2 : Addr) (ns : List Str) (fs : List Fm) (os : List Addr), vs = [.ref l1, .ref l2] ∧ H l1 = some (.lst (ns.map V.str)) ∧ H l2 = some (.lst (os.map V.ref)) ∧ FsAt c [] H fs os ∧ ns.length = fs.length ∧ okFs fs ∧ hts fs ≤ n ∧ (shs fs ns).length ≤ 90000 ∧ ns.length ≤ 20 ∧ Q (.str ⟨(shs fs ns).toArray⟩) H
theorem ok_shown_parts31 {f : Addr} {c : FC} {fd : FuncData} {n : Nat} (nb : NB mg) (F : FunAt K mg "shown_parts" s_shown_parts ["names", "forms"] f fd) (AM_shown : AnyM P w K mg base (2 * n + 3) "shown" ["self"] (clS c) (spShow c n)) : DefOk P w K mg base (2 * n + 3 + 1) "shown_parts" ["names", "forms"] (spShP c n) := by
  refine F.ok sc_shown_parts (fun vs H Q E h => ?_) (fun cdv A outer s H vs Q E hr h => ?_)
  · obtain ⟨_, _, _, _, _, rfl, _⟩ := h; rfl
  obtain ⟨a1, a2, ns, fs, os, rfl, h1, h2, hF, hn, hok, hht, hlen, hn20, q⟩ := h
  refine ⟨_, (pss_one (ps_ret (pe_bm PySem.F.plainAttrs_str PySem.F.slot_str_join PySem.F.type_str_join mt_join pe_str (pa_cons (pe_comp ["name", "form"] [] rfl (by decide +kernel) trivial (pi_zip rfl nb.zip_ (pa_cons (pv 0) (pa_cons (pv 1) pa_nil))) (fun _ _ _ _ _ => (pg_tup rfl (pgs_cons (pg_name (i := 0) (show (["name", "form"] : List Str).Nodup by decide +kernel) rfl (by first | exact Or.inl rfl | exact Or.inr rfl)) (pgs_cons (pg_name (i := 1) (show (["name", "form"] : List Str).Nodup by decide +kernel) rfl (by first | exact Or.inl rfl | exact Or.inr rfl)) pgs_nil)))) (fun _ _ _ _ _ => pts_nil) (fun _ _ _ _ _ => (pe_op oAdd (pe_op oAdd (pv 0) pe_str) (pe_methAny0 AM_shown hr (pv 1) (hk := by omega))))) pa_nil)))), ?_⟩
  have l1 : (Str.ofString " ").length = 1 := by decide +kernel
  have l3 : (Str.ofString ", ").length = 2 := by decide +kernel
  have hol := FsAt.len fs hF
  refine ⟨rfl, _, rfl, _, rfl, a1, a2, _, _, rfl, SqL.of h1, SqL.of h2, fun D hD => ?_⟩
  refine comp_zip (fun i => V.str ((List.zipWith prt31 fs ns).getD i Str.empty)) (fun σ => ∃ z1 z2, σ = [z1, z2]) (by rw [List.length_map, List.length_map]; omega) ⟨_, _, rfl⟩ hD (SqL.of h1) (SqL.of h2) ?_ ?_
  · rintro i x y hx hy σ1 H1 T ⟨z1, z2, rfl⟩ hs1 hT R hR
    rw [List.getElem?_map] at hx hy
    obtain ⟨nm, hnm, rfl⟩ := Option.map_eq_some_iff.mp hx
    obtain ⟨om, hom, rfl⟩ := Option.map_eq_some_iff.mp hy
    obtain ⟨fm, hfm, hFm⟩ := FsAt.get fs hF hom
    obtain ⟨hok2, hht2⟩ := okFs_get hok hfm
    have hpl := shs_part fs ns hn i fm nm hfm hnm
    have e : (List.zipWith prt31 fs ns).getD i Str.empty = prt31 fm nm := by rw [List.getD_eq_getElem?_getD, List.getElem?_zipWith, hfm, hnm]; rfl
    rw [e] at hR
    have sT := hs1.trans (same_new (o := HO.tup [V.str nm, V.ref om]) hT)
    have lg := mk_len (sh fm)
    refine ⟨T, _, rfl, SqT.of upd_same, rfl, _, _, rfl, _, _, rfl, rfl, ?_⟩
    refine ⟨_, rfl, .inr ⟨_, _, rfl, rfl, small5 (by omega), ?_⟩⟩
    refine ⟨_, rfl, show_go (FAt.keep (fun b u _ e => sT b u e) fm hFm) hok2 (by omega) (by omega) (.inr ⟨_, _, rfl, rfl, small5 (by rw [app_len]; omega), ?_⟩)⟩
    exact hR _ _ ⟨_, _, rfl⟩ (Same.refl _)
  · intro H' hs' hD'
    have hzl : (List.zipWith prt31 fs ns).length = fs.length := by rw [List.length_zipWith, hn, Nat.min_self]
    have e : (List.range (min (ns.map V.str).length (os.map V.ref).length)).map (fun i => V.str ((List.zipWith prt31 fs ns).getD i Str.empty)) = (List.zipWith prt31 fs ns).map V.str := by
      have := names_range (List.zipWith prt31 fs ns)
      rw [hzl] at this
      rw [List.length_map, List.length_map, hn, hol, Nat.min_self]
      exact this
    rw [e] at hD'
    have hB : ∀ y ∈ List.zipWith prt31 fs ns, y.length ≤ 90000 := fun y hy => by
      obtain ⟨i, hi, rfl⟩ := List.mem_iff_getElem.mp hy
      rw [hzl] at hi
      rw [List.getElem_zipWith]
      have hpl := shs_part fs ns hn i fs[i] (ns[i]'(by omega)) (List.getElem?_eq_getElem hi) (List.getElem?_eq_getElem (by omega))
      unfold prt31
      have lg := mk_len (sh fs[i])
      rw [app_len, app_len, l1]
      omega
    have hsum := StrLaws.sumLen_le _ hB
    rw [hzl] at hsum
    refine ⟨_, D, _, rfl, rfl, SqL.of hD', (by rw [hzl, l3]; omega), H, .refl hs', ?_⟩
    have ej : Txt.join (Str.ofString ", ") (List.zipWith prt31 fs ns) = ⟨(shs fs ns).toArray⟩ := by
      refine str_of ?_
      show (Builtin.Str.glued (Str.ofString ", ") (List.zipWith prt31 fs ns)).cps.toList = _
      rw [StrLaws.glued_eq_join]
      exact join_shs fs ns hn
    rw [ej]; exact q
theorem ok_Record_shown {f : Addr} {c : FC} {fd : FuncData} {n : Nat} (T : TwoCls K (c.t 0)) (F : Fun K "shown" "Record.shown" s_Record_shown f fd) (D_shown_parts : DefOk P w K mg base (2 * n + 4) "shown_parts" ["names", "forms"] (spShP c n)) : FnOk P w K mg base CX0 (2 * n + 4 + 1) f fd ["self"] (spShow c (n + 1) (.t 0)) := by
  refine F.okK sc_Record_shown (fun vs H Q E h => ?_) (fun cdv A outer s H vs Q E hr h => ?_)
  · obtain ⟨_, _, rfl, _⟩ := h; rfl
  obtain ⟨o, fm, rfl, hs, hF, hok, hht, hlen, q⟩ := h
  obtain ⟨ns, fs, rfl⟩ := slot_two hs
  obtain ⟨_, dx, a1, a2, os, ho, _, _, h1, h2, hI⟩ := hF
  rw [okF] at hok
  obtain ⟨hgn, hnl, hok2⟩ := hok
  have hht2 : hts fs ≤ n := by rw [ht] at hht; omega
  have esh : sh (.two 0 ns fs) = (tw 0).cps.toList ++ (cp "(" ++ (shs fs ns ++ cp ")")) := by rw [sh]
  have hlen2 : (shs fs ns).length ≤ 90000 := by rw [esh, List.length_append, List.length_append, List.length_append] at hlen; omega
  refine ⟨_, (pss_one (ps_ret (pe_op oAdd (pe_op oAdd pe_str (pe_callD D_shown_parts hr (pa_cons (pe_fld (pv 0) rfl) (pa_cons (pe_fld (pv 0) rfl) pa_nil)) (hk := by omega))) pe_str))), ?_⟩
  have l0 : (Str.ofString "record(").length ≤ 10 := by decide +kernel
  have l3 : (Str.ofString ")").length = 1 := by decide +kernel
  have lg := mk_len (shs fs ns)
  refine ⟨_, rfl, o, c.t 0, dx, _, _, rfl, ho, T.cl, T.nN, look1 .., _, rfl, o, c.t 0, dx, _, _, rfl, ho, T.cl, T.nF, look2 _ _ _ _ formsnames, a1, a2, ns, fs, os, rfl, h1, h2, hI, hnl, hok2, hht2, hlen2, (goodNames_mem hgn).1, .inr ⟨_, _, rfl, rfl, small5 (by omega), ?_⟩⟩
  refine .inr ⟨_, _, rfl, rfl, small5 (by rw [app_len]; omega), H, .refl (Same.refl _), ?_⟩
  rw [← str_of (l := sh (.two 0 ns fs)) ?_] at q
  · exact q
  · rw [app_cps, app_cps, sh_words.2.2.2.1, esh, mk_cps]
    show ((_ ++ _) ++ shs fs ns) ++ cp ")" = _
    simp only [List.append_assoc]
theorem ok_Choice_shown {f : Addr} {c : FC} {fd : FuncData} {n : Nat} (T : TwoCls K (c.t 1)) (F : Fun K "shown" "Choice.shown" s_Choice_shown f fd) (D_shown_parts : DefOk P w K mg base (2 * n + 4) "shown_parts" ["names", "forms"] (spShP c n)) : FnOk P w K mg base CX0 (2 * n + 4 + 1) f fd ["self"] (spShow c (n + 1) (.t 1)) := by
  refine F.okK sc_Choice_shown (fun vs H Q E h => ?_) (fun cdv A outer s H vs Q E hr h => ?_)
  · obtain ⟨_, _, rfl, _⟩ := h; rfl
  obtain ⟨o, fm, rfl, hs, hF, hok, hht, hlen, q⟩ := h
  obtain ⟨ns, fs, rfl⟩ := slot_two hs
  obtain ⟨_, dx, a1, a2, os, ho, _, _, h1, h2, hI⟩ := hF
  rw [okF] at hok
  obtain ⟨hgn, hnl, hok2⟩ := hok
  have hht2 : hts fs ≤ n := by rw [ht] at hht; omega
  have esh : sh (.two 1 ns fs) = (tw 1).cps.toList ++ (cp "(" ++ (shs fs ns ++ cp ")")) := by rw [sh]
  have hlen2 : (shs fs ns).length ≤ 90000 := by rw [esh, List.length_append, List.length_append, List.length_append] at hlen; omega
  refine ⟨_, (pss_one (ps_ret (pe_op oAdd (pe_op oAdd pe_str (pe_callD D_shown_parts hr (pa_cons (pe_fld (pv 0) rfl) (pa_cons (pe_fld (pv 0) rfl) pa_nil)) (hk := by omega))) pe_str))), ?_⟩
  have l0 : (Str.ofString "choice(").length ≤ 10 := by decide +kernel
  have l3 : (Str.ofString ")").length = 1 := by decide +kernel
  have lg := mk_len (shs fs ns)
  refine ⟨_, rfl, o, c.t 1, dx, _, _, rfl, ho, T.cl, T.nN, look1 .., _, rfl, o, c.t 1, dx, _, _, rfl, ho, T.cl, T.nF, look2 _ _ _ _ formsnames, a1, a2, ns, fs, os, rfl, h1, h2, hI, hnl, hok2, hht2, hlen2, (goodNames_mem hgn).1, .inr ⟨_, _, rfl, rfl, small5 (by omega), ?_⟩⟩
  refine .inr ⟨_, _, rfl, rfl, small5 (by rw [app_len]; omega), H, .refl (Same.refl _), ?_⟩
  rw [← str_of (l := sh (.two 1 ns fs)) ?_] at q
  · exact q
  · rw [app_cps, app_cps, sh_words.2.2.2.2.1, esh, mk_cps]
    show ((_ ++ _) ++ shs fs ns) ++ cp ")" = _
    simp only [List.append_assoc]
/-- a method of a class, as the text has it -/
structure MethAt (K : PySem.W.Frag) (C : Addr) (m qual : Str) (st : Stmt) (ps : List Str) : Prop where
  ex : ∃ f fd, Fun K m qual st f fd ∧ Binds K fd ps [] ∧ Meth K C m f
  cl : Cls K C
theorem meth_none {C : Addr} {m qual : Str} {st : Stmt} {ps : List Str} {k : Nat} {sp : Sp} (M : MethAt K C m qual st ps) (h : ∀ vs H Q E, ¬ sp vs H Q E) : MethOk P w K mg base k C m ps sp := by
  obtain ⟨f, fd, F, hb, hm⟩ := M.ex
  exact ⟨f, fd, ⟨fun vs H Q E q => absurd q (h _ _ _ _), fun A outer s H args us vs Q E _ _ _ _ q => absurd q (h _ _ _ _)⟩, hb, hm⟩
theorem MethOk.mono {C : Addr} {m : Str} {ps : List Str} {j k : Nat} {sp : Sp} (h : MethOk P w K mg base j C m ps sp) (hjk : j ≤ k) : MethOk P w K mg base k C m ps sp := by
  obtain ⟨f, fd, F, hb, hm⟩ := h
  exact ⟨f, fd, F.mono hjk, hb, hm⟩
structure Shs (K : PySem.W.Frag) (c : FC) : Prop where
  m0 : MethAt K (c.b 0) "shown" "Nothing.shown" s_Nothing_shown ["self"]
  m1 : MethAt K (c.b 1) "shown" "Truth.shown" s_Truth_shown ["self"]
  m2 : MethAt K (c.b 2) "shown" "Whole.shown" s_Whole_shown ["self"]
  m3 : MethAt K (c.b 3) "shown" "Fraction.shown" s_Fraction_shown ["self"]
  m4 : MethAt K c.s "shown" "Span.shown" s_Span_shown ["self"]
  m5 : MethAt K c.l "shown" "Letters.shown" s_Letters_shown ["self"]
  m6 : MethAt K (c.o 0) "shown" "Maybe.shown" s_Maybe_shown ["self"]
  m7 : MethAt K (c.o 1) "shown" "Many.shown" s_Many_shown ["self"]
  m8 : MethAt K (c.o 2) "shown" "Turned.shown" s_Turned_shown ["self"]
  m9 : MethAt K (c.t 0) "shown" "Record.shown" s_Record_shown ["self"]
  ma : MethAt K (c.t 1) "shown" "Choice.shown" s_Choice_shown ["self"]
  tS : SpanCls K c.s
  tL : LetCls K c.l
  tO : ∀ k, OneCls K (c.o k)
  tT : ∀ k, TwoCls K (c.t k)
theorem all_shown {f : Addr} {c : FC} {fd : FuncData} (nb : NB mg) (S : Shs K c) (F : FunAt K mg "shown_parts" s_shown_parts ["names", "forms"] f fd) : ∀ n, AnyM P w K mg base (2 * n + 3) "shown" ["self"] (clS c) (spShow c n)
  | 0 => by
    have no : ∀ i vs H Q E, ¬ spShow c 0 i vs H Q E := fun i vs H Q E ⟨o, f, _, _, _, _, h, _⟩ => by have := ht_pos f; omega
    intro i
    cases i with
    | b k =>
      rcases fin4 k with rfl | rfl | rfl | rfl
      · exact ⟨meth_none S.m0 (no _), S.m0.cl⟩
      · exact ⟨meth_none S.m1 (no _), S.m1.cl⟩
      · exact ⟨meth_none S.m2 (no _), S.m2.cl⟩
      · exact ⟨meth_none S.m3 (no _), S.m3.cl⟩
    | s => exact ⟨meth_none S.m4 (no _), S.m4.cl⟩
    | l => exact ⟨meth_none S.m5 (no _), S.m5.cl⟩
    | o k =>
      rcases fin3 k with rfl | rfl | rfl
      · exact ⟨meth_none S.m6 (no _), S.m6.cl⟩
      · exact ⟨meth_none S.m7 (no _), S.m7.cl⟩
      · exact ⟨meth_none S.m8 (no _), S.m8.cl⟩
    | t k =>
      rcases fin2 k with rfl | rfl
      · exact ⟨meth_none S.m9 (no _), S.m9.cl⟩
      · exact ⟨meth_none S.ma (no _), S.ma.cl⟩
  | n + 1 => by
    have ih := all_shown nb S F n
    have D := ok_shown_parts31 nb F ih
    intro i
    cases i with
    | b k =>
      rcases fin4 k with rfl | rfl | rfl | rfl
      · obtain ⟨f, fd, G, hb, hm⟩ := S.m0.ex
        exact ⟨⟨f, fd, (ok_Nothing_shown G).mono (by omega), hb, hm⟩, S.m0.cl⟩
      · obtain ⟨f, fd, G, hb, hm⟩ := S.m1.ex
        exact ⟨⟨f, fd, (ok_Truth_shown G).mono (by omega), hb, hm⟩, S.m1.cl⟩
      · obtain ⟨f, fd, G, hb, hm⟩ := S.m2.ex
        exact ⟨⟨f, fd, (ok_Whole_shown G).mono (by omega), hb, hm⟩, S.m2.cl⟩
      · obtain ⟨f, fd, G, hb, hm⟩ := S.m3.ex
        exact ⟨⟨f, fd, (ok_Fraction_shown G).mono (by omega), hb, hm⟩, S.m3.cl⟩
    | s =>
      obtain ⟨f, fd, G, hb, hm⟩ := S.m4.ex
      exact ⟨⟨f, fd, (ok_Span_shown nb S.tS G).mono (by omega), hb, hm⟩, S.m4.cl⟩
    | l =>
      obtain ⟨f, fd, G, hb, hm⟩ := S.m5.ex
      exact ⟨⟨f, fd, (ok_Letters_shown S.tL G).mono (by omega), hb, hm⟩, S.m5.cl⟩
    | o k =>
      rcases fin3 k with rfl | rfl | rfl
      · obtain ⟨f, fd, G, hb, hm⟩ := S.m6.ex
        exact ⟨⟨f, fd, (ok_Maybe_shown (S.tO 0) G ih).mono (by omega), hb, hm⟩, S.m6.cl⟩
      · obtain ⟨f, fd, G, hb, hm⟩ := S.m7.ex
        exact ⟨⟨f, fd, (ok_Many_shown (S.tO 1) G ih).mono (by omega), hb, hm⟩, S.m7.cl⟩
      · obtain ⟨f, fd, G, hb, hm⟩ := S.m8.ex
        exact ⟨⟨f, fd, (ok_Turned_shown (S.tO 2) G ih).mono (by omega), hb, hm⟩, S.m8.cl⟩
    | t k =>
      rcases fin2 k with rfl | rfl
      · obtain ⟨f, fd, G, hb, hm⟩ := S.m9.ex
        exact ⟨⟨f, fd, (ok_Record_shown (S.tT 0) G D).mono (by omega), hb, hm⟩, S.m9.cl⟩
      · obtain ⟨f, fd, G, hb, hm⟩ := S.ma.ex
        exact ⟨⟨f, fd, (ok_Choice_shown (S.tT 1) G D).mono (by omega), hb, hm⟩, S.ma.cl⟩

/-! ### the law's numbers and names -/
theorem atI_modG {α : Type} (f : α → V) (xs : List α) (c m : Int) (hm : m = xs.length) (h : 0 < xs.length) : ∃ n, n ∈ xs ∧ atI (xs.map f) (c % m) = some (f n) := by
  subst hm
  have h1 := Int.emod_nonneg c (b := (xs.length : Int)) (by omega)
  have h2 := Int.emod_lt_of_pos c (b := (xs.length : Int)) (by omega)
  obtain ⟨k, hk⟩ := Int.eq_ofNat_of_zero_le h1
  rw [hk]
  have hk2 : k < xs.length := by omega
  exact ⟨xs[k], List.getElem_mem hk2, atI_nat (by rw [List.getElem?_map, List.getElem?_eq_getElem hk2]; rfl)⟩
theorem mod_nat (c : Int) (n : Nat) (h : 0 < n) : ∃ k : Nat, k < n ∧ c % ((n : Nat) : Int) = ((k : Nat) : Int) := by
  have h1 := Int.emod_nonneg c (b := (n : Int)) (by omega)
  have h2 := Int.emod_lt_of_pos c (b := (n : Int)) (by omega)
  obtain ⟨k, hk⟩ := Int.eq_ofNat_of_zero_le h1
  exact ⟨k, by omega, hk⟩
def spNumbers (K : PySem.W.Frag) : Sp := fun vs H Q _ => ∃ (a : Addr) (ns : List Int) (m sl : Nat), vs = [.ref a, .int ((m : Nat) : Int), .int ((sl : Nat) : Int)] ∧ SqL K H a (ns.map V.int) ∧ ns.length ≤ 63 ∧ 0 < m ∧ m ≤ 8 ∧ (sl = 1000 ∨ sl = 2000) ∧ ∀ (D : Addr) (ms : List Int), H D = none → ms.length ≤ 11 → Q (.ref D) (upd H D (.lst (ms.map V.int)))
theorem ints_of : ∀ (ys : List V), (∀ y ∈ ys, ∃ n : Int, y = .int n) → ∃ ns : List Int, ys = ns.map V.int ∧ ns.length = ys.length
  | [], _ => ⟨[], rfl, rfl⟩
  | y :: r, h => by
    obtain ⟨n, rfl⟩ := h y (List.mem_cons_self ..)
    obtain ⟨ns, rfl, hl⟩ := ints_of r fun z hz => h z (List.mem_cons_of_mem _ hz)
    exact ⟨n :: ns, rfl, by rw [List.length_cons, hl]; rfl⟩
theorem cut_le11 (ns : List Int) (s m : Nat) (hm : m ≤ 11) : ∃ ms : List Int, cutV (ns.map V.int) (some ((s : Nat) : Int)) (some ((s + m : Nat) : Int)) = ms.map V.int ∧ ms.length ≤ 11 := by
  unfold cutV
  refine ⟨(ns.drop (HT.sIx (ns.map V.int).length 0 (some ((s : Nat) : Int)))).take (HT.sIx (ns.map V.int).length (ns.map V.int).length (some ((s + m : Nat) : Int)) - HT.sIx (ns.map V.int).length 0 (some ((s : Nat) : Int))), ?_, ?_⟩
  · rw [List.map_take, List.map_drop]
  · rw [List.length_take, HT.sIx_nat, HT.sIx_nat]; omega
theorem ok_law_numbers_of {f : Addr} {fd : FuncData} (nb : NB mg) (F : FunAt K mg "_law_numbers_of" s_law_numbers_of ["_law_script", "_law_many", "_law_salt"] f fd) (D_law_cell_at : DefOk P w K mg base 1 "_law_cell_at" ["_law_script", "_law_k"] (spCellAt K)) (D_law_mixed : DefOk P w K mg base 1 "_law_mixed" ["_law_cell", "_law_k"] spMixed) : DefOk P w K mg base 2 "_law_numbers_of" ["_law_script", "_law_many", "_law_salt"] (spNumbers K) := by
  refine F.ok sc_law_numbers_of (fun vs H Q E h => ?_) (fun cdv A outer s H vs Q E hr h => ?_)
  · obtain ⟨_, _, _, _, rfl, _⟩ := h; rfl
  obtain ⟨a, ns, m, sl, rfl, hS, hl, hm0, hm8, hsl, q⟩ := h
  refine ⟨_, (pss_cons (ps_if (pt_cmpR oEq (pe_op op_mod (pe_callD D_law_cell_at hr (pa_cons (pv 0) (pa_cons pe_int pa_nil))) pe_int) pe_int (nomark _)) (pss_cons (ps_set (i := 3) sc_law_numbers_of.nd rfl (by first | exact Or.inl rfl | exact Or.inr rfl) (pe_op oAdd (pe_op oSub (pe_op oAdd pe_int (pe_op oMul (pe_op op_fdiv (pv 2) pe_int) pe_int)) pe_int) (pe_op oMul (pe_op op_fdiv (pe_op op_mod (pv 2) pe_int) pe_int) pe_int)))
      (pss_one (ps_ret (pe_slice slAll (pv 0) (po_some (pv 3)) (po_some (pe_op oAdd (pv 3) (pe_callB (call_min2 rfl) rfl nb.min_ bo_min (pa_cons (pv 1) (pa_cons pe_int pa_nil))))))))) pss_nil)
    (pss_cons (ps_setComp (i := 4)  ["_law_k"] [(2, "_law_salt")] sc_law_numbers_of.nd rfl rfl rfl (by decide +kernel) ⟨rfl, .inl rfl, trivial⟩ (pi_range1 rfl nb.range_ (pa_cons (pv 1) pa_nil)) (fun _ _ _ _ _ => (pg_name (i := 0) (show (["_law_k", "_law_salt"] : List Str).Nodup by decide +kernel) rfl (by first | exact Or.inl rfl | exact Or.inr rfl))) (fun _ _ _ _ _ => pts_nil) (fun _ _ _ _ _ => (pe_callD D_law_mixed hr (pa_cons (pv 0) (pa_cons (pv 1) pa_nil)))))
    (pss_cons (ps_for PassesOwn.never rfl (pi_range1 rfl nb.range_ (pa_cons (pe_callB call_len rfl nb.len_ bo_len (pa_cons (pe_slice slAll (pv 0) po_none (po_some pe_int)) pa_nil)) pa_nil)) (pg_name (i := 5) sc_law_numbers_of.nd rfl (by first | exact Or.inl rfl | exact Or.inr rfl))
      (pss_one (ps_asg (pe_callD D_law_mixed hr (pa_cons (pe_op oAdd (pe_ix iAll (pv 0) (pv 5) (fun _ _ => rfl)) (pe_ix iAll (pv 4) (pe_op op_mod (pv 5) (pv 1)) (fun _ _ => rfl))) (pa_cons (pe_op oAdd (pv 5) (pv 2)) pa_nil))) (pg_sub (pv 4) (pe_op op_mod (pv 5) (pv 1)) set_list))))
    (pss_one (ps_ret (pv 4)))))), ?_⟩
  refine ⟨_, rfl, a, ns, 0, rfl, hS, hl, _, _, rfl, rfl, (by show (0 : Int) < 2; decide), rfl, _, rfl, iteD (fun c1 => ?_) (fun c1 => ?_)⟩
  · obtain ⟨s0, hs0, es0⟩ : ∃ s0 : Nat, s0 ≤ 10 ∧ 1 + ((sl : Nat) : Int) / 1000 * 9 - 9 + ((sl : Nat) : Int) % 1000 / 100 * 11 = ((s0 : Nat) : Int) := by
      rcases hsl with rfl | rfl
      · exact ⟨1, by decide, by decide⟩
      · exact ⟨10, by decide, by decide⟩
    refine ⟨_, rfl, _, _, rfl, rfl, ⟨by decide, by decide⟩, .inl ⟨_, _, rfl, rfl, .inr ⟨by decide, by decide⟩, .inl ⟨_, _, rfl, rfl, _, _, rfl, rfl, ?_⟩⟩⟩
    refine ⟨_, rfl, _, _, rfl, rfl, (by show (0 : Int) < 1000; decide), _, _, rfl, rfl, ⟨by decide, by decide⟩, .inl ⟨_, _, rfl, rfl, .inr ⟨by decide, by decide⟩, .inl ⟨_, _, rfl, rfl, ?_⟩⟩⟩
    dsimp only
    rw [es0]
    refine ⟨_, rfl, _, rfl, _, rfl, _, rfl, _, rfl, _, _, rfl, .inl ⟨_, _, rfl, rfl, _, rfl, .inl ⟨a, _, rfl, hS, fun D hD => ?_⟩⟩⟩
    have em : ((s0 : Nat) : Int) + (if (11 : Int) < ((m : Nat) : Int) then 11 else ((m : Nat) : Int)) = ((s0 + m : Nat) : Int) := by split <;> omega
    dsimp only
    rw [em]
    obtain ⟨ms, ems, hml⟩ := cut_le11 ns s0 m (by omega)
    rw [ems]
    exact ⟨_, .new hD (same_new hD) upd_same trivial, q D ms hD hml⟩
  · refine ⟨_, rfl, _, rfl, by omega, by omega, fun D hD => ?_⟩
    have em : (((m : Nat) : Int)).toNat = m := by omega
    rw [em]
    refine comp_rangeP (fun y => ∃ n : Int, y = .int n) (fun σ => ∃ z, σ = [z, some (.int ((sl : Nat) : Int))]) (by omega) ⟨_, rfl⟩ hD ?_ ?_
    · rintro i hi σ1 H1 ⟨z, rfl⟩ hs1 R hR
      exact ⟨_, rfl, _, rfl, _, _, rfl, fun v _ _ => hR _ _ _ ⟨_, rfl⟩ (Same.refl _) ⟨v, rfl⟩⟩
    intro ys H1 hyl hyp hs1 hD1
    obtain ⟨ms, rfl, hml⟩ := ints_of ys hyp
    have hS1 := hs1.seq hS
    refine ⟨_, rfl, _, rfl, .inl ⟨a, _, rfl, hS1, fun p hp => ⟨_, _, rfl, .inl ⟨_, SqL.of upd_same, rfl⟩, ?_⟩⟩⟩
    have hcut := cutV_length (ns.map V.int) none (some 63)
    rw [List.length_map] at hcut
    refine ⟨_, rfl, by omega, by omega, ?_⟩
    have s2 := same_new (o := HO.lst (cutV (ns.map V.int) none (some 63))) hp
    have nDp : D ≠ p := fun z => by rw [← z, hD1] at hp; cases hp
    refine for_range (fun i σ H2 => (∀ b u, b ≠ D → H b = some u → H2 b = some u) ∧ ∃ (ms : List Int) (z1 z2 : Option V), σ = [some (.ref a), some (.int ((m : Nat) : Int)), some (.int ((sl : Nat) : Int)), z1, some (.ref D), z2] ∧ ms.length = m ∧ H2 D = some (.lst (ms.map V.int))) ?_ ?_ ?_
    · exact ⟨fun b u _ e => s2 b u (hs1 b u e), ms, _, _, rfl, by rw [hml, hyl], s2 _ _ hD1⟩
    · rintro i σ H2 hi ⟨hk2, ms2, z1, z2, rfl, hm2, hD2⟩
      rw [Int.zero_add]
      have hi2 : i < ns.length := by omega
      have hS2 : SqL K H2 a (ns.map V.int) := by
        have hs' : Same H (fun b => if b = D then H b else H2 b) := fun b u e => by
          by_cases z : b = D
          · rw [z, hD] at e; cases e
          · show (if b = D then H b else H2 b) = _
            rw [if_neg z]; exact hk2 b u z e
        have h3 := hs'.seq hS
        have h4 : Same (fun b => if b = D then H b else H2 b) H2 := fun b u e => by
          have e : (if b = D then H b else H2 b) = some u := e
          by_cases z : b = D
          · rw [if_pos z, z, hD] at e; cases e
          · rw [if_neg z] at e; exact e
        exact h4.seq h3
      obtain ⟨j, hj, ej⟩ := mod_nat ((i : Nat) : Int) m hm0
      have hj2 : j < ms2.length := by omega
      have hat1 : atI (ns.map V.int) ((i : Nat) : Int) = some (.int ns[i]) := atI_nat (by rw [List.getElem?_map, List.getElem?_eq_getElem hi2]; rfl)
      have hat2 : atI (ms2.map V.int) ((j : Nat) : Int) = some (.int ms2[j]) := atI_nat (by rw [List.getElem?_map, List.getElem?_eq_getElem hj2]; rfl)
      refine ⟨_, rfl, _, rfl, .inl (.inl ⟨_, _, _, _, rfl, rfl, hS2, hat1, ?_⟩)⟩
      refine ⟨_, rfl, _, rfl, _, rfl, _, _, rfl, rfl, (by omega), .inl (.inl ⟨_, _, _, _, rfl, rfl, SqL.of hD2, (by rw [ej]; exact hat2), .inl ⟨_, _, rfl, rfl, ?_⟩⟩)⟩
      refine ⟨_, rfl, _, rfl, .inl ⟨_, _, rfl, rfl, _, _, rfl, fun v _ _ => ?_⟩⟩
      refine ⟨_, rfl, _, rfl, _, rfl, _, _, rfl, rfl, (by omega), D, _, _, _, rfl, rfl, hD2, (by rw [ej, List.length_map, hm2]; exact ixN_nat hj), ?_⟩
      exact ⟨fun b u nb e => by rw [upd_ne nb]; exact hk2 b u nb e, ms2.set j v, _, _, rfl, by rw [List.length_set]; exact hm2, by rw [upd_same, List.map_set]⟩
    · rintro σ H2 ⟨hk2, ms2, z1, z2, rfl, hm2, hD2⟩
      refine ⟨_, rfl, _, .new (o := HO.lst (ms2.map V.int)) hD (fun b u e => hk2 b u (ne_of_none e hD) e) hD2 trivial, q D ms2 hD (by omega)⟩
def spNames31 : Sp := fun vs H Q _ => ∃ (c : Int) (m : Nat), vs = [.int c, .int ((m : Nat) : Int)] ∧ 0 < m ∧ m ≤ 4 ∧ ∀ (D : Addr) (ns : List Str), H D = none → ns.length = m → goodNames ns = true → Q (.ref D) (upd H D (.lst (ns.map V.str)))
theorem names_ok {m : Nat} (nmf : Nat → Str) (h0 : 0 < m) (h4 : m ≤ 4) (hi : ∀ i j, i < m → j < m → nmf i = nmf j → i = j) (hn : ∀ i, i < m → isName (nmf i) = true) : goodNames ((List.range m).map nmf) = true := by
  refine goodNames_of (by rw [List.length_map, List.length_range]; omega) (by rw [List.length_map, List.length_range]; omega) ?_ fun n hx => ?_
  · unfold List.Nodup
    rw [List.pairwise_iff_getElem]
    intro i j h1 h2 hij
    rw [List.length_map, List.length_range] at h1 h2
    rw [List.getElem_map, List.getElem_map, List.getElem_range, List.getElem_range]
    intro z
    have := hi i j h1 h2 z
    omega
  · obtain ⟨i, h1, rfl⟩ := List.mem_map.mp hx
    exact hn i (List.mem_range.mp h1)
theorem name_eq2 {x y : Str} {c d : Nat} (e : (x ++ ⟨#[c]⟩) ++ y = (x ++ ⟨#[d]⟩) ++ y) : c = d := by
  have e := congrArg (fun x => x.cps.toList) e
  simp only [app_cps] at e
  have e := List.append_cancel_left (List.append_cancel_right e)
  have : [c] = [d] := e
  exact List.head_eq_of_cons_eq this
def W7 : List Str := [Str.ofString "whole", Str.ofString "record", Str.ofString "many", Str.ofString "nothing", Str.ofString "span", Str.ofString "letters", Str.ofString "turned"]
theorem ok_law_names31 {f : Addr} {fd : FuncData} (nb : NB mg) (F : FunAt K mg "_law_names" s_law_names ["_law_number", "_law_many"] f fd) : DefOk P w K mg base 1 "_law_names" ["_law_number", "_law_many"] spNames31 := by
  refine F.ok sc_law_names (fun vs H Q E h => ?_) (fun cdv A outer s H vs Q E hr h => ?_)
  · obtain ⟨_, _, rfl, _⟩ := h; rfl
  obtain ⟨c, m, rfl, hm0, hm4, q⟩ := h
  refine ⟨_, (pss_cons (ps_set (i := 2) sc_law_names.nd rfl (by first | exact Or.inl rfl | exact Or.inr rfl) pe_str)
    (pss_cons (ps_set (i := 3) sc_law_names.nd rfl (by first | exact Or.inl rfl | exact Or.inr rfl) (pe_lst (pa_cons pe_str (pa_cons pe_str (pa_cons pe_str (pa_cons pe_str (pa_cons pe_str (pa_cons pe_str (pa_cons pe_str pa_nil)))))))))
    (pss_cons (ps_set (i := 4) sc_law_names.nd rfl (by first | exact Or.inl rfl | exact Or.inr rfl) (pe_op op_mod (pv 0) pe_int))
    (pss_cons (ps_set (i := 5) sc_law_names.nd rfl (by first | exact Or.inl rfl | exact Or.inr rfl) (pe_op oAdd pe_int (pe_op op_mod (pe_op op_fdiv (pv 0) pe_int) pe_int)))
    (pss_cons (ps_set (i := 6) sc_law_names.nd rfl (by first | exact Or.inl rfl | exact Or.inr rfl) (pe_op op_fdiv (pv 0) pe_int))
    (pss_cons (ps_if (pt_cmpR oEq (pv 4) pe_int (nomark _)) (pss_one (ps_ret (pe_comp ["_law_k"] [(3, "_law_words"), (6, "_law_rest")] rfl (by decide +kernel) ⟨rfl, .inl rfl, rfl, .inl rfl, trivial⟩ (pi_range1 rfl nb.range_ (pa_cons (pv 1) pa_nil)) (fun _ _ _ _ _ => (pg_name (i := 0) (show (["_law_k", "_law_words", "_law_rest"] : List Str).Nodup by decide +kernel) rfl (by first | exact Or.inl rfl | exact Or.inr rfl))) (fun _ _ _ _ _ => pts_nil) (fun _ _ _ _ _ => (pe_ix iAll (pv 1) (pe_op op_mod (pe_op oAdd (pv 2) (pv 0)) pe_int) (fun _ _ => rfl)))))) pss_nil)
    (pss_cons (ps_set (i := 7) sc_law_names.nd rfl (by first | exact Or.inl rfl | exact Or.inr rfl) pe_str)
    (pss_cons (ps_for PassesOwn.never rfl (pi_range1 rfl nb.range_ (pa_cons (pv 5) pa_nil)) (pg_name (i := 8) sc_law_names.nd rfl (by first | exact Or.inl rfl | exact Or.inr rfl))
      (pss_cons (ps_set (i := 7) sc_law_names.nd rfl (by first | exact Or.inl rfl | exact Or.inr rfl) (pe_op oAdd (pv 7) (pe_ix iAll (pv 2) (pe_op op_mod (pe_op oAdd (pv 6) (pe_op oMul (pv 8) (pv 8))) pe_int) (fun _ _ => rfl))))
      (pss_one (ps_set (i := 6) sc_law_names.nd rfl (by first | exact Or.inl rfl | exact Or.inr rfl) (pe_op op_fdiv (pv 6) pe_int)))))
    (pss_cons (ps_if (pt_cmpR oEq (pv 4) pe_int (nomark _)) (pss_one (ps_ret (pe_comp ["_law_k"] [(7, "_law_base")] rfl (by decide +kernel) ⟨rfl, .inl rfl, trivial⟩ (pi_range1 rfl nb.range_ (pa_cons (pv 1) pa_nil)) (fun _ _ _ _ _ => (pg_name (i := 0) (show (["_law_k", "_law_base"] : List Str).Nodup by decide +kernel) rfl (by first | exact Or.inl rfl | exact Or.inr rfl))) (fun _ _ _ _ _ => pts_nil) (fun _ _ _ _ _ => (pe_op oAdd (pv 1) (pe_slice slAll pe_str po_none (po_some (pv 0)))))))) pss_nil)
    (pss_cons (ps_set (i := 9) sc_law_names.nd rfl (by first | exact Or.inl rfl | exact Or.inr rfl) (pe_op op_mod (pe_op op_fdiv (pv 0) pe_int) (pv 5)))
    (pss_cons (ps_set (i := 10) sc_law_names.nd rfl (by first | exact Or.inl rfl | exact Or.inr rfl) (pe_bm PySem.F.plainAttrs_str PySem.F.slot_str_index PySem.F.type_str_index mt_sindex (pv 2) (pa_cons (pe_ix iAll (pv 7) (pv 9) (fun _ _ => rfl)) pa_nil)))
    (pss_cons (ps_set (i := 11) sc_law_names.nd rfl (by first | exact Or.inl rfl | exact Or.inr rfl) (pe_op oAdd (pe_slice slAll (pv 7) (po_some (pe_op oAdd (pv 9) pe_int)) po_none) (pe_ix iAll (pe_lst (pa_cons pe_str (pa_cons pe_str pa_nil))) (pe_op op_mod (pe_op op_fdiv (pv 0) pe_int) pe_int) (fun _ _ => rfl))))
    (pss_one (ps_ret (pe_comp ["_law_k"] [(7, "_law_base"), (9, "_law_at"), (2, "_law_letters"), (10, "_law_turn"), (11, "_law_tail")] rfl (by decide +kernel) ⟨rfl, .inl rfl, rfl, .inl rfl, rfl, .inl rfl, rfl, .inl rfl, rfl, .inl rfl, trivial⟩ (pi_range1 rfl nb.range_ (pa_cons (pv 1) pa_nil)) (fun _ _ _ _ _ => (pg_name (i := 0) (show (["_law_k", "_law_base", "_law_at", "_law_letters", "_law_turn", "_law_tail"] : List Str).Nodup by decide +kernel) rfl (by first | exact Or.inl rfl | exact Or.inr rfl))) (fun _ _ _ _ _ => pts_nil) (fun _ _ _ _ _ => (pe_op oAdd (pe_op oAdd (pe_slice slAll (pv 1) po_none (po_some (pv 2))) (pe_ix iAll (pv 3) (pe_op op_mod (pe_op oAdd (pv 4) (pe_op oMul pe_int (pv 0))) pe_int) (fun _ _ => rfl))) (pv 5)))))))))))))))))), ?_⟩
  refine ⟨(by show 7 ≤ sizeLine; decide), fun lw hlw => ?_⟩
  have s1 := same_new (o := HO.lst (W7.map V.str)) hlw
  have e1 : upd H lw (.lst (W7.map V.str)) lw = some (.lst (W7.map V.str)) := upd_same
  obtain ⟨sz, hsz, esz'⟩ := mod_nat (c / 8) 9 (by decide)
  have esz : c / 8 % 9 = ((sz : Nat) : Int) := esz'
  refine ⟨_, rfl, _, _, rfl, rfl, (by show (0 : Int) < 4; decide), ?_⟩
  refine ⟨_, rfl, _, _, rfl, rfl, ⟨by decide, by decide⟩, _, _, rfl, rfl, (by show (0 : Int) < 9; decide), .inl ⟨_, _, rfl, rfl, ?_⟩⟩
  dsimp only
  rw [esz]
  refine ⟨_, rfl, _, _, rfl, rfl, ⟨by decide, by decide⟩, ?_⟩
  dsimp only
  generalize c / 648 = r0
  have em : (((m : Nat) : Int)).toNat = m := by omega
  have l26 : L26.length ≤ sizeLine := by rw [L26_len]; exact small5 (by decide)
  have l26' : L26.cps.toList.length = 26 := by rw [Array.length_toList]; exact L26_len
  refine ⟨_, rfl, rfl, _, rfl, iteD (fun c2 => ?_) (fun c2 => ?_)⟩
  · refine ⟨_, rfl, _, rfl, by omega, by omega, fun D hD => ?_⟩
    rw [em]
    have hD' : upd H lw (.lst (W7.map V.str)) D = none := hD
    let nmf : Nat → Str := fun i => W7.getD ((r0 + (0 + ((i : Nat) : Int))) % 7).toNat Str.empty
    have hix : ∀ i : Nat, ((r0 + (0 + ((i : Nat) : Int))) % 7).toNat < 7 ∧ (r0 + (0 + ((i : Nat) : Int))) % 7 = (((r0 + (0 + ((i : Nat) : Int))) % 7).toNat : Nat) := fun i => by
      have h1 := Int.emod_nonneg (r0 + (0 + ((i : Nat) : Int))) (show (7 : Int) ≠ 0 by decide)
      have h2 := Int.emod_lt_of_pos (r0 + (0 + ((i : Nat) : Int))) (show (0 : Int) < 7 by decide)
      omega
    have hat : ∀ i : Nat, atI (W7.map V.str) ((r0 + (0 + ((i : Nat) : Int))) % 7) = some (.str (nmf i)) := fun i => by
      obtain ⟨h1, h2⟩ := hix i
      rw [h2]
      exact atI_nat (by show (W7.map V.str)[((r0 + (0 + ((i : Nat) : Int))) % 7).toNat]? = some (V.str (W7.getD _ _)); rw [List.getElem?_map, List.getD_eq_getElem?_getD, List.getElem?_eq_getElem (show _ < W7.length from h1)]; rfl)
    refine comp_rangeI (fun i => V.str (nmf i)) (fun σ => ∃ z, σ = [z, some (.ref lw), some (.int r0)]) (by omega) ⟨_, rfl⟩ hD ?_ ?_
    · rintro i hi σ1 H1 ⟨z, rfl⟩ hs1 R hR
      exact ⟨_, rfl, _, rfl, _, rfl, .inl ⟨_, _, rfl, rfl, _, _, rfl, rfl, (by show (0 : Int) < 7; decide), .inl (.inl ⟨_, _, _, _, rfl, rfl, SqL.of (hs1 _ _ e1), hat i, hR _ ⟨_, rfl⟩⟩)⟩⟩
    · have hs := s1
      have e : (List.range m).map (fun i => V.str (nmf i)) = ((List.range m).map nmf).map V.str := by rw [List.map_map]; rfl
      rw [e]
      have hD0 := hs.free hD
      refine ⟨_, .new hD0 (hs.trans (same_new hD)) upd_same trivial, q D ((List.range m).map nmf) hD0 (by rw [List.length_map, List.length_range]) ?_⟩
      refine names_ok nmf hm0 hm4 (fun i j hi hj z => ?_) fun i hi => ?_
      · have nd : W7.Nodup := by decide +kernel
        obtain ⟨h1, h2⟩ := hix i
        obtain ⟨h3, h4⟩ := hix j
        have z : W7.getD ((r0 + (0 + ((i : Nat) : Int))) % 7).toNat Str.empty = W7.getD ((r0 + (0 + ((j : Nat) : Int))) % 7).toNat Str.empty := z
        rw [List.getD_eq_getElem?_getD, List.getD_eq_getElem?_getD, List.getElem?_eq_getElem (show _ < W7.length from h1), List.getElem?_eq_getElem (show _ < W7.length from h3)] at z
        have z2 := (List.getElem_inj nd).mp z
        omega
      · obtain ⟨h1, h2⟩ := hix i
        have : ∀ w ∈ W7, isName w = true := by decide +kernel
        refine this _ ?_
        show W7.getD _ _ ∈ W7
        rw [List.getD_eq_getElem?_getD, List.getElem?_eq_getElem (show _ < W7.length from h1)]
        exact List.getElem_mem _
  refine ⟨_, rfl, _, rfl, by omega, by omega, ?_⟩
  have en : (1 + ((sz : Nat) : Int)).toNat = sz + 1 := by omega
  rw [en]
  refine for_range (fun i σ H2 => Same H H2 ∧ ∃ (bs : Str) (num : Int) (z1 z2 z3 z4 z5 z6 : Option V), σ = [some (.int c), some (.int ((m : Nat) : Int)), some (.str L26), z1, some (.int (c % 4)), some (.int ((sz + 1 : Nat) : Int)), some (.int num), some (.str bs), z2, z3, z4, z5] ∧ bs.length = i ∧ Tx i L26.cps.toList bs) ?_ ?_ ?_
  · have e9 : (1 : Int) + ((sz : Nat) : Int) = ((sz + 1 : Nat) : Int) := by omega
    refine ⟨s1, Str.ofString "", r0, _, none, none, none, none, none, by rw [← e9]; rfl, by decide +kernel, by decide +kernel, fun c h => ?_⟩
    rw [show (Str.ofString "").cps.toList = [] by decide +kernel] at h
    cases h
  · rintro i σ H2 hi ⟨hs, bs, num, z1, z2, z3, z4, z5, z6, rfl, hl, htx⟩
    obtain ⟨k, hk, ek'⟩ := mod_nat (num + (0 + ((i : Nat) : Int)) * (0 + ((i : Nat) : Int))) 26 (by decide)
    have ek : (num + (0 + ((i : Nat) : Int)) * (0 + ((i : Nat) : Int))) % 26 = ((k : Nat) : Int) := ek'
    obtain ⟨sg, hsg, hat⟩ := at_text (x := L26) (k := k) (by rw [L26_len]; exact hk)
    refine ⟨_, rfl, _, rfl, _, rfl, _, rfl, _, rfl, .inl ⟨_, _, rfl, rfl, .inl ⟨by omega, by omega⟩, .inl ⟨_, _, rfl, rfl, _, _, rfl, rfl, (by show (0 : Int) < 26; decide), .inr ⟨_, _, _, rfl, rfl, l26, (by rw [ek]; exact hat), .inr ⟨_, _, rfl, rfl, small5 (by show _ + 1 ≤ _; omega), ?_⟩⟩⟩⟩⟩
    refine ⟨_, rfl, _, _, rfl, rfl, ⟨by decide, by decide⟩, ?_⟩
    exact ⟨hs, _, _, _, _, _, _, _, none, rfl, by rw [app_len, hl]; rfl, htx.app (Tx.one hsg)⟩
  rintro σ H2 ⟨hs, bs, num, z1, z2, z3, z4, z5, z6, rfl, hl, htx⟩
  have lb : bs.length ≤ sizeLine := small5 (by omega)
  refine ⟨_, rfl, rfl, _, rfl, iteD (fun k1 => ?_) (fun k1 => ?_)⟩
  · refine ⟨_, rfl, _, rfl, by omega, by omega, fun D hD => ?_⟩
    rw [em]
    have la : (Str.ofString "aaa").length = 3 := by decide +kernel
    let nmf : Nat → Str := fun i => bs ++ Txt.slice (Str.ofString "aaa") none (some (0 + ((i : Nat) : Int)))
    have hsl : ∀ i : Nat, i < m → (Txt.slice (Str.ofString "aaa") none (some (0 + ((i : Nat) : Int)))).length = i := fun i hi => by rw [Int.zero_add]; exact slice_len_to _ i (by omega)
    refine comp_rangeI (fun i => V.str (nmf i)) (fun σ => ∃ z, σ = [z, some (.str bs)]) (by omega) ⟨_, rfl⟩ hD ?_ ?_
    · rintro i hi σ1 H1 ⟨z, rfl⟩ hs1 R hR
      exact ⟨_, rfl, _, rfl, _, rfl, .inr ⟨_, rfl, small5 (by omega), .inr ⟨_, _, rfl, rfl, small5 (by rw [hsl i hi]; omega), hR _ ⟨_, rfl⟩⟩⟩⟩
    · skip
      have e : (List.range m).map (fun i => V.str (nmf i)) = ((List.range m).map nmf).map V.str := by rw [List.map_map]; rfl
      rw [e]
      have hD0 := hs.free hD
      refine ⟨_, .new hD0 (hs.trans (same_new hD)) upd_same trivial, q D ((List.range m).map nmf) hD0 (by rw [List.length_map, List.length_range]) ?_⟩
      refine names_ok nmf hm0 hm4 (fun i j hi hj z => ?_) fun i hi => ?_
      · have := congrArg Str.length z
        have e1' := hsl i hi
        have e2' := hsl j hj
        have h3 : (nmf i).length = bs.length + i := by show (_ ++ _ : Str).length = _; rw [app_len, e1']
        have h4 : (nmf j).length = bs.length + j := by show (_ ++ _ : Str).length = _; rw [app_len, e2']
        omega
      · have e1' := hsl i hi
        refine isName_of ⟨?_, ?_⟩ ?_
        · show (_ ++ _ : Str).length ≤ 12
          rw [app_len, e1']; omega
        · have ta : Tx 3 L26.cps.toList (Str.ofString "aaa") := ⟨by omega, by decide +kernel⟩
          exact (htx.app (ta.slice ..)).s
        · show 0 < (_ ++ _ : Str).length
          rw [app_len]; omega
  · obtain ⟨a, ha, ea'⟩ := mod_nat (c / 72) (sz + 1) (by omega)
    obtain ⟨sg, hsg, hat⟩ := at_text (x := bs) (k := a) (by omega)
    have b1 := slice_len_to bs a (by omega)
    have b2 := slice_len_from bs (a + 1) (by omega)
    refine ⟨_, rfl, _, _, rfl, rfl, ⟨by decide, by decide⟩, _, rfl, _, _, rfl, rfl, (by omega), ?_⟩
    dsimp only
    rw [ea']
    refine ⟨_, rfl, rfl, _, rfl, _, rfl, .inr ⟨_, _, _, rfl, rfl, lb, hat, L26, sg, rfl, rfl, htx.s _ hsg, fun tn => ?_⟩⟩
    obtain ⟨x, hx, hx1⟩ := atI_modG V.str [Str.ofString "", Str.ofString "xyz"] (c / 4) 2 rfl (by decide)
    have tx : Tx 3 L26.cps.toList x := by
      have : ∀ y ∈ [Str.ofString "", Str.ofString "xyz"], y.length ≤ 3 ∧ ∀ c ∈ y.cps.toList, c ∈ L26.cps.toList := by decide +kernel
      exact ⟨(this x hx).1, (this x hx).2⟩
    have hxl := tx.n
    have e1' : ((a : Nat) : Int) + 1 = ((a + 1 : Nat) : Int) := by omega
    refine ⟨_, rfl, _, rfl, .inl ⟨_, _, rfl, rfl, _, rfl, .inr ⟨_, rfl, lb, two_ok, fun g hg => ?_⟩⟩⟩
    refine ⟨_, rfl, _, _, rfl, rfl, ⟨by decide, by decide⟩, _, _, rfl, rfl, (by show (0 : Int) < 2; decide), .inl (.inl ⟨_, _, _, _, rfl, rfl, SqL.of upd_same, hx1, .inr ⟨_, _, rfl, rfl, small5 (by rw [e1', b2]; omega), ?_⟩⟩)⟩
    dsimp only
    rw [e1']
    have hs := hs.trans (same_new (o := HO.lst ([Str.ofString "", Str.ofString "xyz"].map V.str)) hg)
    obtain ⟨tl, htl⟩ : ∃ tl, tl = Txt.slice bs (some ((a + 1 : Nat) : Int)) none ++ x := ⟨_, rfl⟩
    have tt : Tx (sz + 1 + 3) L26.cps.toList tl := by rw [htl]; exact (htx.slice ..).app tx
    have ltl : tl.length ≤ sz - a + 3 := by rw [htl, app_len, b2]; omega
    rw [← htl]
    refine ⟨_, rfl, _, rfl, by omega, by omega, fun D hD => ?_⟩
    rw [em]
    let ix : Nat → Nat := fun i => ((((tn : Nat) : Int) + 5 * (0 + ((i : Nat) : Int))) % 26).toNat
    have hix : ∀ i, ix i < 26 ∧ (((tn : Nat) : Int) + 5 * (0 + ((i : Nat) : Int))) % 26 = ((ix i : Nat) : Int) := fun i => by
      constructor
      · show Int.toNat _ < 26
        omega
      · show _ = ((Int.toNat _ : Nat) : Int)
        omega
    let nmf : Nat → Str := fun i => (Txt.slice bs none (some ((a : Nat) : Int)) ++ ⟨#[L26.cps.toList.getD (ix i) 0]⟩) ++ tl
    refine comp_rangeI (fun i => V.str (nmf i)) (fun σ => ∃ z, σ = [z, some (.str bs), some (.int ((a : Nat) : Int)), some (.str L26), some (.int ((tn : Nat) : Int)), some (.str tl)]) (by omega) ⟨_, rfl⟩ hD ?_ ?_
    · rintro i hi σ1 H1 ⟨z, rfl⟩ hs1 R hR
      obtain ⟨hk, ek⟩ := hix i
      have hat3 : atI L26.cps.toList ((ix i : Nat) : Int) = some (L26.cps.toList.getD (ix i) 0) := atI_nat (by rw [List.getD_eq_getElem?_getD, List.getElem?_eq_getElem (by omega)]; rfl)
      have e1 : (⟨#[L26.cps.toList.getD (ix i) 0]⟩ : Str).length = 1 := rfl
      refine ⟨_, rfl, _, rfl, _, rfl, .inr ⟨_, rfl, lb, ?_⟩⟩
      refine ⟨_, rfl, _, rfl, _, rfl, .inl ⟨_, _, rfl, rfl, .inl ⟨by decide, by decide⟩, .inl ⟨_, _, rfl, rfl, _, _, rfl, rfl, (by show (0 : Int) < 26; decide), .inr ⟨_, _, _, rfl, rfl, l26, (by rw [ek]; exact hat3), .inr ⟨_, _, rfl, rfl, small5 (by omega), ?_⟩⟩⟩⟩⟩
      exact ⟨_, rfl, .inr ⟨_, _, rfl, rfl, small5 (by rw [app_len]; omega), hR _ ⟨_, rfl⟩⟩⟩
    · skip
      have e : (List.range m).map (fun i => V.str (nmf i)) = ((List.range m).map nmf).map V.str := by rw [List.map_map]; rfl
      rw [e]
      have hD0 := hs.free hD
      refine ⟨_, .new hD0 (hs.trans (same_new hD)) upd_same trivial, q D ((List.range m).map nmf) hD0 (by rw [List.length_map, List.length_range]) ?_⟩
      refine names_ok nmf hm0 hm4 (fun i j hi hj z => ?_) fun i hi => ?_
      · obtain ⟨hk1, ek1⟩ := hix i
        obtain ⟨hk2, ek2⟩ := hix j
        have z3 := name_eq2 z
        rw [List.getD_eq_getElem?_getD, List.getD_eq_getElem?_getD, List.getElem?_eq_getElem (by omega), List.getElem?_eq_getElem (by omega)] at z3
        have z4 := (List.getElem_inj L26_nodup).mp z3
        omega
      · obtain ⟨hk, ek⟩ := hix i
        refine isName_of ⟨?_, ?_⟩ ?_
        · show (_ ++ _ : Str).length ≤ 12
          rw [app_len, app_len, b1]
          show a + 1 + _ ≤ 12
          omega
        · refine (((htx.slice none (some ((a : Nat) : Int))).app (Tx.one ?_)).app tt).s
          rw [List.getD_eq_getElem?_getD, List.getElem?_eq_getElem (by omega)]
          exact List.getElem_mem _
        · show 0 < (_ ++ _ : Str).length
          rw [app_len, app_len]
          show 0 < _ + 1 + _
          omega

/-! ### trees -/
def Lists (X : List Addr) (H : Hp) : Prop := ∀ x, x ∈ X → ∃ l, H x = some (.lst l)
theorem Lists.tup {X : List Addr} {H H' : Hp} (hX : Lists X H) (k : ∀ b u, b ∉ X → H b = some u → H' b = some u) {T : Addr} {xs : List V} (e : H T = some (.tup xs)) : H' T = some (.tup xs) := k _ _ (fun z => by obtain ⟨l, h⟩ := hX T z; rw [h] at e; cases e) e
theorem Lists.grow {X : List Addr} {p : Addr} {H H' : Hp} (h : Lists X H) (g : Grow p H H') : Lists X H' := fun x hx => by
  by_cases z : x = p
  · subst z
    obtain ⟨ns, e, _⟩ := g.l
    exact ⟨_, e⟩
  · obtain ⟨l, e⟩ := h x hx
    exact ⟨l, g.k _ _ z e⟩
theorem Lists.keep {X : List Addr} {H H' : Hp} (h : Lists X H) (s : Same H H') : Lists X H' := fun x hx => by
  obtain ⟨l, e⟩ := h x hx
  exact ⟨l, s _ _ e⟩
theorem Lists.nin {X : List Addr} {H : Hp} (h : Lists X H) {a : Addr} (e : H a = none) : a ∉ X := fun z => by
  obtain ⟨l, q⟩ := h a z
  rw [e] at q; cases q
mutual
def TAt (X : List Addr) (H : Hp) : Fm → V → Prop
  | .bare k, v => ∃ T a b, v = .ref T ∧ H T = some (.tup [.str (bw k), .ref a, .ref b]) ∧ a ∉ X ∧ b ∉ X ∧ H a = some (.lst []) ∧ H b = some (.lst [])
  | .sp lo hi, v => ∃ T a b, v = .ref T ∧ H T = some (.tup [.str (Str.ofString "span"), .ref a, .ref b]) ∧ a ∉ X ∧ b ∉ X ∧ H a = some (.lst [.int lo, .int hi]) ∧ H b = some (.lst [])
  | .le s, v => ∃ T b, v = .ref T ∧ H T = some (.tup [.str (Str.ofString "letters"), .str s, .ref b]) ∧ b ∉ X ∧ H b = some (.lst [])
  | .one k f, v => ∃ T a b v', v = .ref T ∧ H T = some (.tup [.str (ow k), .ref a, .ref b]) ∧ a ∉ X ∧ b ∉ X ∧ H a = some (.lst []) ∧ H b = some (.lst [v']) ∧ TAt X H f v'
  | .two k ns fs, v => ∃ T a b vs, v = .ref T ∧ H T = some (.tup [.str (tw k), .ref a, .ref b]) ∧ a ∉ X ∧ b ∉ X ∧ H a = some (.lst (ns.map V.str)) ∧ H b = some (.lst vs) ∧ TsAt X H fs vs
def TsAt (X : List Addr) (H : Hp) : List Fm → List V → Prop
  | [], vs => vs = []
  | f :: fs, vs => ∃ v r, vs = v :: r ∧ TAt X H f v ∧ TsAt X H fs r
end
mutual
theorem TAt.keep {X : List Addr} {H H' : Hp} (hX : Lists X H) (k : ∀ b u, b ∉ X → H b = some u → H' b = some u) : ∀ (f : Fm) {v : V}, TAt X H f v → TAt X H' f v
  | .bare i, v, h => by
    obtain ⟨T, a, b, e, eT, na, nb, ea, eb⟩ := h
    exact ⟨T, a, b, e, hX.tup k eT, na, nb, k _ _ na ea, k _ _ nb eb⟩
  | .sp lo hi, v, h => by
    obtain ⟨T, a, b, e, eT, na, nb, ea, eb⟩ := h
    exact ⟨T, a, b, e, hX.tup k eT, na, nb, k _ _ na ea, k _ _ nb eb⟩
  | .le s, v, h => by
    obtain ⟨T, b, e, eT, nb, eb⟩ := h
    exact ⟨T, b, e, hX.tup k eT, nb, k _ _ nb eb⟩
  | .one i f, v, h => by
    obtain ⟨T, a, b, v', e, eT, na, nb, ea, eb, q⟩ := h
    exact ⟨T, a, b, v', e, hX.tup k eT, na, nb, k _ _ na ea, k _ _ nb eb, TAt.keep hX k f q⟩
  | .two i ns fs, v, h => by
    obtain ⟨T, a, b, vs, e, eT, na, nb, ea, eb, q⟩ := h
    exact ⟨T, a, b, vs, e, hX.tup k eT, na, nb, k _ _ na ea, k _ _ nb eb, TsAt.keep hX k fs q⟩
theorem TsAt.keep {X : List Addr} {H H' : Hp} (hX : Lists X H) (k : ∀ b u, b ∉ X → H b = some u → H' b = some u) : ∀ (fs : List Fm) {vs : List V}, TsAt X H fs vs → TsAt X H' fs vs
  | [], vs, h => h
  | f :: fs, vs, h => by
    obtain ⟨v, r, e, q, q2⟩ := h
    exact ⟨v, r, e, TAt.keep hX k f q, TsAt.keep hX k fs q2⟩
end
mutual
theorem TAt.weak {X Y : List Addr} {H : Hp} (hs : ∀ x, x ∈ X → x ∈ Y) : ∀ (f : Fm) {v : V}, TAt Y H f v → TAt X H f v
  | .bare i, v, h => by
    obtain ⟨T, a, b, e, eT, na, nb, ea, eb⟩ := h
    exact ⟨T, a, b, e, eT, fun z => na (hs _ z), fun z => nb (hs _ z), ea, eb⟩
  | .sp lo hi, v, h => by
    obtain ⟨T, a, b, e, eT, na, nb, ea, eb⟩ := h
    exact ⟨T, a, b, e, eT, fun z => na (hs _ z), fun z => nb (hs _ z), ea, eb⟩
  | .le s, v, h => by
    obtain ⟨T, b, e, eT, nb, eb⟩ := h
    exact ⟨T, b, e, eT, fun z => nb (hs _ z), eb⟩
  | .one i f, v, h => by
    obtain ⟨T, a, b, v', e, eT, na, nb, ea, eb, q⟩ := h
    exact ⟨T, a, b, v', e, eT, fun z => na (hs _ z), fun z => nb (hs _ z), ea, eb, TAt.weak hs f q⟩
  | .two i ns fs, v, h => by
    obtain ⟨T, a, b, vs, e, eT, na, nb, ea, eb, q⟩ := h
    exact ⟨T, a, b, vs, e, eT, fun z => na (hs _ z), fun z => nb (hs _ z), ea, eb, TsAt.weak hs fs q⟩
theorem TsAt.weak {X Y : List Addr} {H : Hp} (hs : ∀ x, x ∈ X → x ∈ Y) : ∀ (fs : List Fm) {vs : List V}, TsAt Y H fs vs → TsAt X H fs vs
  | [], vs, h => h
  | f :: fs, vs, h => by
    obtain ⟨v, r, e, q, q2⟩ := h
    exact ⟨v, r, e, TAt.weak hs f q, TsAt.weak hs fs q2⟩
end
mutual
theorem TAt.add {X : List Addr} {H : Hp} {l : Addr} (hl : H l = none) : ∀ (f : Fm) {v : V}, TAt X H f v → TAt (l :: X) H f v
  | .bare i, v, h => by
    obtain ⟨T, a, b, e, eT, na, nb, ea, eb⟩ := h
    exact ⟨T, a, b, e, eT, fun z => (List.mem_cons.mp z).elim (fun y => by rw [y, hl] at ea; cases ea) na, fun z => (List.mem_cons.mp z).elim (fun y => by rw [y, hl] at eb; cases eb) nb, ea, eb⟩
  | .sp lo hi, v, h => by
    obtain ⟨T, a, b, e, eT, na, nb, ea, eb⟩ := h
    exact ⟨T, a, b, e, eT, fun z => (List.mem_cons.mp z).elim (fun y => by rw [y, hl] at ea; cases ea) na, fun z => (List.mem_cons.mp z).elim (fun y => by rw [y, hl] at eb; cases eb) nb, ea, eb⟩
  | .le s, v, h => by
    obtain ⟨T, b, e, eT, nb, eb⟩ := h
    exact ⟨T, b, e, eT, fun z => (List.mem_cons.mp z).elim (fun y => by rw [y, hl] at eb; cases eb) nb, eb⟩
  | .one i f, v, h => by
    obtain ⟨T, a, b, v', e, eT, na, nb, ea, eb, q⟩ := h
    exact ⟨T, a, b, v', e, eT, fun z => (List.mem_cons.mp z).elim (fun y => by rw [y, hl] at ea; cases ea) na, fun z => (List.mem_cons.mp z).elim (fun y => by rw [y, hl] at eb; cases eb) nb, ea, eb, TAt.add hl f q⟩
  | .two i ns fs, v, h => by
    obtain ⟨T, a, b, vs, e, eT, na, nb, ea, eb, q⟩ := h
    exact ⟨T, a, b, vs, e, eT, fun z => (List.mem_cons.mp z).elim (fun y => by rw [y, hl] at ea; cases ea) na, fun z => (List.mem_cons.mp z).elim (fun y => by rw [y, hl] at eb; cases eb) nb, ea, eb, TsAt.add hl fs q⟩
theorem TsAt.add {X : List Addr} {H : Hp} {l : Addr} (hl : H l = none) : ∀ (fs : List Fm) {vs : List V}, TsAt X H fs vs → TsAt (l :: X) H fs vs
  | [], vs, h => h
  | f :: fs, vs, h => by
    obtain ⟨v, r, e, q, q2⟩ := h
    exact ⟨v, r, e, TAt.add hl f q, TsAt.add hl fs q2⟩
end
mutual
theorem TAt.same {X : List Addr} {H H' : Hp} (s : Same H H') : ∀ (f : Fm) {v : V}, TAt X H f v → TAt X H' f v
  | .bare i, v, h => by
    obtain ⟨T, a, b, e, eT, na, nb, ea, eb⟩ := h
    exact ⟨T, a, b, e, s _ _ eT, na, nb, s _ _ ea, s _ _ eb⟩
  | .sp lo hi, v, h => by
    obtain ⟨T, a, b, e, eT, na, nb, ea, eb⟩ := h
    exact ⟨T, a, b, e, s _ _ eT, na, nb, s _ _ ea, s _ _ eb⟩
  | .le st, v, h => by
    obtain ⟨T, b, e, eT, nb, eb⟩ := h
    exact ⟨T, b, e, s _ _ eT, nb, s _ _ eb⟩
  | .one i f, v, h => by
    obtain ⟨T, a, b, v', e, eT, na, nb, ea, eb, q⟩ := h
    exact ⟨T, a, b, v', e, s _ _ eT, na, nb, s _ _ ea, s _ _ eb, TAt.same s f q⟩
  | .two i ns fs, v, h => by
    obtain ⟨T, a, b, vs, e, eT, na, nb, ea, eb, q⟩ := h
    exact ⟨T, a, b, vs, e, s _ _ eT, na, nb, s _ _ ea, s _ _ eb, TsAt.same s fs q⟩
theorem TsAt.same {X : List Addr} {H H' : Hp} (s : Same H H') : ∀ (fs : List Fm) {vs : List V}, TsAt X H fs vs → TsAt X H' fs vs
  | [], vs, h => h
  | f :: fs, vs, h => by
    obtain ⟨v, r, e, q, q2⟩ := h
    exact ⟨v, r, e, TAt.same s f q, TsAt.same s fs q2⟩
end
theorem TAt.ext {X : List Addr} {H H' : Hp} (hX : Lists X H) (s : Same H H') (f : Fm) {v : V} (h : TAt X H f v) : TAt X H' f v := TAt.keep hX (fun b u _ e => s b u e) f h
theorem TsAt.snoc {X : List Addr} {H : Hp} {f : Fm} {v : V} (hf : TAt X H f v) : ∀ (fs : List Fm) {vs : List V}, TsAt X H fs vs → TsAt X H (fs ++ [f]) (vs ++ [v])
  | [], vs, h => by
    obtain rfl : vs = [] := h
    exact ⟨v, [], rfl, hf, rfl⟩
  | g :: fs, vs, h => by
    obtain ⟨o', r, rfl, q, q2⟩ := h
    exact ⟨o', r ++ [v], rfl, q, TsAt.snoc hf fs q2⟩
theorem TsAt.len {X : List Addr} {H : Hp} : ∀ (fs : List Fm) {vs : List V}, TsAt X H fs vs → vs.length = fs.length
  | [], vs, h => by
    obtain rfl : vs = [] := h
    rfl
  | g :: fs, vs, h => by
    obtain ⟨o', r, rfl, q, q2⟩ := h
    rw [List.length_cons, TsAt.len fs q2]; rfl
def spSimple31 : Sp := fun vs H Q _ => ∃ (w : Str) (c : Int) (b : Bool) (X : List Addr), vs = [.str w, .int c, .bl b] ∧ ((∃ k, w = bw k) ∨ w = Str.ofString "span" ∨ w = Str.ofString "letters") ∧ Lists X H ∧ ∀ v f H', Ext H H' → TAt X H' f v → okF f → ht f = 1 → (sh f).length ≤ 170 → Q v H'
def SG : Str := "q7bZaX09cdefghijklmnoprstuvwxyzABCDEFGHIJKLMNOPQRSTUVWY1234568"
theorem good_sub {s : Str} (h : s.cps.toList.Sublist SG.cps.toList) (h1 : 0 < s.length) (h2 : s.length ≤ 60) : goodText s = true := by
  have nd : SG.cps.toList.Nodup := by decide +kernel
  have sb : ∀ c ∈ SG.cps.toList, c ∈ L62.cps.toList := by decide +kernel
  unfold goodText
  rw [decide_eq_true ⟨by omega, h2, dsT_nodup (nd.sublist h)⟩, Bool.true_and]
  unfold madeOf
  rw [List.all_eq_true]
  exact fun c hc => decide_eq_true (sb c (h.subset hc))
theorem num_len {a : Int} (h : a.natAbs < 10 ^ 58) : (num a).length ≤ 59 := by
  have := len_toString (by decide) h
  have e : (num a).length = (Str.ofString (toString a)).length := Array.length_toList
  omega
set_option maxHeartbeats 4000000 in
theorem ok_law_simple31 {f : Addr} {fd : FuncData} (nb : NB mg) (F : FunAt K mg "_law_simple" s_law_simple ["_law_word", "_law_number", "_law_last"] f fd) : DefOk P w K mg base 1 "_law_simple" ["_law_word", "_law_number", "_law_last"] spSimple31 := by
  refine F.ok sc_law_simple (fun vs H Q E h => ?_) (fun cdv A outer s H vs Q E hr h => ?_)
  · obtain ⟨_, _, _, _, rfl, _⟩ := h; rfl
  obtain ⟨ww, c, bb, X, rfl, hw, hX, q⟩ := h
  refine ⟨_, (pss_cons (ps_if (pt_cmpR oEq (pv 0) pe_str (nomark _)) (pss_cons (ps_set (i := 3) sc_law_simple.nd rfl (by first | exact Or.inl rfl | exact Or.inr rfl) (pe_op oSub (pe_op op_mod (pe_op op_fdiv (pv 1) pe_int) pe_int) pe_int))
      (pss_cons (ps_set (i := 4) sc_law_simple.nd rfl (by first | exact Or.inl rfl | exact Or.inr rfl) (pe_op oAdd (pv 3) (pe_op op_mod (pe_op op_fdiv (pv 1) pe_int) pe_int)))
      (pss_cons (ps_if (pt_truth (pv 2) (fun _ => rfl)) (pss_cons (ps_set (i := 3) sc_law_simple.nd rfl (by first | exact Or.inl rfl | exact Or.inr rfl) (pe_op oSub (pe_op oMul (pv 3) (pe_op op_pow pe_int pe_int)) (pe_op op_mod (pv 1) (pe_op op_pow pe_int pe_int))))
        (pss_one (ps_set (i := 4) sc_law_simple.nd rfl (by first | exact Or.inl rfl | exact Or.inr rfl) (pe_callB (call_max2 rfl) rfl nb.max_ bo_max (pa_cons (pv 3) (pa_cons (pe_op oMul (pe_op op_mod (pv 1) (pe_op op_pow pe_int pe_int)) (pe_op op_pow pe_int pe_int)) pa_nil)))))) pss_nil)
      (pss_one (ps_ret (pe_tup (pa_cons (pv 0) (pa_cons (pe_lst (pa_cons (pv 3) (pa_cons (pv 4) pa_nil))) (pa_cons (pe_lst pa_nil) pa_nil))))))))) pss_nil)
    (pss_cons (ps_if (pt_cmpR oEq (pv 0) pe_str (nomark _)) (pss_cons (ps_set (i := 5) sc_law_simple.nd rfl (by first | exact Or.inl rfl | exact Or.inr rfl) pe_str)
      (pss_cons (ps_set (i := 6) sc_law_simple.nd rfl (by first | exact Or.inl rfl | exact Or.inr rfl) (pe_op op_mod (pe_op op_fdiv (pv 1) pe_int) pe_int))
      (pss_one (ps_ret (pe_tup (pa_cons (pv 0) (pa_cons (pe_slice slAll (pv 5) (po_some (pv 6)) (po_some (pe_op oAdd (pe_op oAdd (pv 6) pe_int) (pe_op op_mod (pe_op op_fdiv (pv 1) pe_int) (pe_ix iAll (pe_lst (pa_cons pe_int (pa_cons pe_int pa_nil))) (pe_callTy call_intA rfl nb.int_ bo_int (pa_cons (pv 2) pa_nil)) (fun _ _ => rfl)))))) (pa_cons (pe_lst pa_nil) pa_nil)))))))) pss_nil)
    (pss_one (ps_ret (pe_tup (pa_cons (pv 0) (pa_cons (pe_lst pa_nil) (pa_cons (pe_lst pa_nil) pa_nil)))))))), ?_⟩
  rcases hw with ⟨k, rfl⟩ | rfl | rfl
  · have n1 : ∀ k : Fin 4, ¬ V.str (bw k) = V.str (Str.ofString "span") := by decide +kernel
    have n2 : ∀ k : Fin 4, ¬ V.str (bw k) = V.str (Str.ofString "letters") := by decide +kernel
    refine ⟨_, rfl, rfl, _, rfl, iteN (n1 k) ⟨_, rfl, rfl, _, rfl, iteN (n2 k) ⟨_, rfl, Nat.zero_le _, fun a ha => ⟨Nat.zero_le _, fun b hb => ⟨(by show 3 ≤ sizeLine; decide), fun T hT => ?_⟩⟩⟩⟩⟩
    have E1 := Ext.lst (xs := []) ha
    have E2 := Ext.lst (xs := []) hb
    have E3 := Ext.tup (xs := [V.str (bw k), .ref a, .ref b]) hT
    have E := (E1.trans E2).trans E3
    have hl : (sh (.bare k)).length ≤ 170 := by
      rw [sh]
      have : ∀ k : Fin 4, (bw k).cps.toList.length ≤ 170 := by decide +kernel
      exact this k
    refine ⟨_, E.sub, q _ (.bare k) _ E ⟨T, a, b, rfl, upd_same, hX.nin ha, (hX.keep E1.s).nin hb, (E2.trans E3).s _ _ upd_same, E3.s _ _ upd_same⟩ (by rw [okF]; trivial) (by rw [ht]) hl⟩
  · have p9 : (0 : Int) < 10 ^ Int.toNat 9 ∧ (10 : Int) ^ Int.toNat 9 = 1000000000 := by decide +kernel
    have p55 : (10 : Int) ^ Int.toNat 55 = 10 ^ 55 ∧ (10 : Int) ^ Int.toNat 40 = 10 ^ 40 := by decide +kernel
    have pw : ∀ n : Int, n = 55 ∨ n = 9 ∨ n = 40 → CPow 10 n := fun n hn => by rcases hn with rfl | rfl | rfl <;> (refine ⟨?_, ?_, ?_⟩ <;> decide)
    obtain ⟨l0, hl0, el0'⟩ := mod_nat (c / 6) 99 (by decide)
    have el0 : c / 6 % 99 = ((l0 : Nat) : Int) := el0'
    obtain ⟨h0, hh0, eh0'⟩ := mod_nat (c / 600) 50 (by decide)
    have eh0 : c / 600 % 50 = ((h0 : Nat) : Int) := eh0'
    have fin : ∀ (lo hi : Int) (H1 : Hp), H1 = H → lo ≤ hi → lo.natAbs < 10 ^ 58 → hi.natAbs < 10 ^ 58 → 2 ≤ sizeLine ∧ ∀ a, H1 a = none → (0 ≤ sizeLine ∧ ∀ b, upd H1 a (.lst [.int lo, .int hi]) b = none → (3 ≤ sizeLine ∧ ∀ T, upd (upd H1 a (.lst [.int lo, .int hi])) b (.lst []) T = none → ∃ H'', L2.Sub H H'' (upd (upd (upd H1 a (.lst [.int lo, .int hi])) b (.lst [])) T (.tup [.str (Str.ofString "span"), .ref a, .ref b])) ∧ Q (.ref T) H'')) := by
      rintro lo hi H1 rfl hle hlo hhi
      refine ⟨two_ok, fun a ha => ⟨Nat.zero_le _, fun b hb => ⟨by decide, fun T hT => ?_⟩⟩⟩
      have E1 := Ext.lst (xs := [V.int lo, .int hi]) ha
      have E2 := Ext.lst (xs := []) hb
      have E3 := Ext.tup (xs := [V.str (Str.ofString "span"), .ref a, .ref b]) hT
      have E := (E1.trans E2).trans E3
      have hl : (sh (.sp lo hi)).length ≤ 170 := by
        have h1 := num_len hlo
        have h2 := num_len hhi
        rw [sh]
        rw [List.length_append, List.length_append, List.length_append, List.length_append, List.length_append, cp_op, cp_cl, cp_co, show (cp "span").length = 4 by decide +kernel]
        show 4 + (1 + (((num lo).length + (2 + (num hi).length)) + 1)) ≤ 170
        omega
      exact ⟨_, E.sub, q _ (.sp lo hi) _ E ⟨T, a, b, rfl, upd_same, hX.nin ha, (hX.keep E1.s).nin hb, (E2.trans E3).s _ _ upd_same, E3.s _ _ upd_same⟩ (by rw [okF]; exact ⟨hle, hlo, hhi⟩) (by rw [ht]) hl⟩
    refine ⟨_, rfl, rfl, _, rfl, iteY rfl ⟨_, rfl, _, _, rfl, rfl, ⟨by decide, by decide⟩, _, _, rfl, rfl, (by show (0 : Int) < 99; decide), _, _, rfl, rfl, ?_⟩⟩
    dsimp only
    rw [el0]
    refine ⟨_, rfl, _, rfl, _, _, rfl, rfl, ⟨by decide, by decide⟩, _, _, rfl, rfl, (by show (0 : Int) < 50; decide), .inl ⟨_, _, rfl, rfl, ?_⟩⟩
    dsimp only
    rw [eh0]
    refine ⟨_, rfl, bb, rfl, ?_⟩
    cases bb with
    | false =>
      exact iteF ⟨_, rfl, _, rfl, _, rfl, fin _ _ H rfl (by omega) (by omega) (by omega)⟩
    | true =>
      refine iteT ⟨_, rfl, _, _, rfl, rfl, pw _ (.inl rfl), .inl ⟨_, _, rfl, rfl, .inl ⟨by omega, by omega⟩, ?_⟩⟩
      refine ⟨_, rfl, _, _, rfl, rfl, pw _ (.inr (.inl rfl)), _, _, rfl, rfl, p9.1, _, _, rfl, rfl, ?_⟩
      have m1 := Int.emod_nonneg c (b := 10 ^ Int.toNat 9) (Int.ne_of_gt p9.1)
      have m2 := Int.emod_lt_of_pos c (b := 10 ^ Int.toNat 9) p9.1
      dsimp only
      rw [p55.1]
      rw [p9.2] at m1 m2 ⊢
      generalize c % 1000000000 = r at m1 m2 ⊢
      refine ⟨_, rfl, _, rfl, _, _, rfl, rfl, pw _ (.inr (.inl rfl)), _, _, rfl, rfl, p9.1, _, _, rfl, rfl, pw _ (.inr (.inr rfl)), .inl ⟨_, _, rfl, rfl, .inl ⟨?_, ?_⟩, _, _, rfl, ?_⟩⟩
      · have m3 := Int.emod_nonneg c (b := 10 ^ Int.toNat 9) (Int.ne_of_gt p9.1)
        omega
      · have m4 := Int.emod_lt_of_pos c (b := 10 ^ Int.toNat 9) p9.1
        rw [p9.2] at m4 ⊢
        omega
      have m3 := Int.emod_nonneg c (b := 10 ^ Int.toNat 9) (Int.ne_of_gt p9.1)
      have m4 := Int.emod_lt_of_pos c (b := 10 ^ Int.toNat 9) p9.1
      dsimp only
      rw [p55.2]
      rw [p9.2] at m3 m4 ⊢
      generalize c % 1000000000 = r2 at m3 m4 ⊢
      refine ⟨_, rfl, _, rfl, _, rfl, fin _ _ H rfl ?_ ?_ ?_⟩
      · split <;> omega
      · omega
      · split <;> omega
  · obtain ⟨a0, ha0, ea0'⟩ := mod_nat (c / 6) 40 (by decide)
    have ea0 : c / 6 % 40 = ((a0 : Nat) : Int) := ea0'
    refine ⟨_, rfl, rfl, _, rfl, iteN (by decide +kernel) ⟨_, rfl, rfl, _, rfl, iteY rfl ?_⟩⟩
    refine ⟨_, rfl, _, _, rfl, rfl, ⟨by decide, by decide⟩, _, _, rfl, rfl, (by show (0 : Int) < 40; decide), ?_⟩
    dsimp only
    rw [ea0]
    obtain ⟨x, hx0, hx1, hxa⟩ : ∃ x : Nat, 0 < x ∧ x ≤ 22 ∧ atI [V.int 9, V.int 22] (if bb = true then 1 else 0) = some (.int ((x : Nat) : Int)) := by
      cases bb with
      | true => exact ⟨22, by decide, by decide, atI_nat (j := 1) rfl⟩
      | false => exact ⟨9, by decide, by decide, atI_nat (j := 0) rfl⟩
    obtain ⟨y, hy, ey⟩ := mod_nat (c / 240) x hx0
    have lSG : SG.length = 62 := by decide +kernel
    have lS : SG.length ≤ sizeLine := by rw [lSG]; exact small5 (by decide)
    refine ⟨_, rfl, _, rfl, _, rfl, _, rfl, _, rfl, .inl ⟨_, _, rfl, rfl, _, rfl, _, _, rfl, rfl, ⟨by decide, by decide⟩, two_ok, fun g hg => ?_⟩⟩
    refine ⟨_, rfl, .inl (.inr ⟨_, rfl, .inl (.inl ⟨_, _, _, _, rfl, rfl, SqL.of upd_same, hxa, _, _, rfl, rfl, (by omega), .inl ⟨_, _, rfl, rfl, _, rfl, .inr ⟨_, rfl, lS, ?_⟩⟩⟩)⟩)⟩
    have ek : ((a0 : Nat) : Int) + 1 + c / 240 % ((x : Nat) : Int) = ((a0 + (1 + y) : Nat) : Int) := by rw [ey]; omega
    dsimp only
    rw [ek]
    have ecp := KM.slice_cps SG (some ((a0 : Nat) : Int)) (some ((a0 + (1 + y) : Nat) : Int))
    rw [HT.sIx_nat, HT.sIx_nat] at ecp
    obtain ⟨sx, hsx⟩ : ∃ sx, sx = Txt.slice SG (some ((a0 : Nat) : Int)) (some ((a0 + (1 + y) : Nat) : Int)) := ⟨_, rfl⟩
    have esx : Txt.slice SG (some ((a0 : Nat) : Int)) (some ((a0 + (1 + y) : Nat) : Int)) = sx := hsx.symm
    rw [esx] at ecp
    have hsub : sx.cps.toList.Sublist SG.cps.toList := by rw [ecp]; exact (List.take_sublist ..).trans (List.drop_sublist ..)
    have hsl : sx.length = min (a0 + (1 + y)) 62 - a0 := by
      have := congrArg List.length ecp
      rw [List.length_take, List.length_drop, Array.length_toList, Array.length_toList] at this
      have e1 : sx.length = sx.cps.size := rfl
      have e2 : SG.length = SG.cps.size := rfl
      rw [lSG] at this
      omega
    have hgt := good_sub hsub (by omega) (by omega)
    refine ⟨Nat.zero_le _, fun b hb => ⟨(by show 3 ≤ sizeLine; decide), fun T hT => ?_⟩⟩
    have E1 := Ext.lst (xs := [V.int 9, V.int 22]) hg
    have E2 := Ext.lst (xs := []) hb
    have E3 := Ext.tup (xs := [V.str (Str.ofString "letters"), .str sx, .ref b]) hT
    have E := (E1.trans E2).trans E3
    have hl : (sh (.le sx)).length ≤ 170 := by
      rw [sh, List.length_append, List.length_append, List.length_append, cp_op, cp_cl, show (cp "letters").length = 7 by decide +kernel]
      have e1 : sx.cps.toList.length = sx.length := Array.length_toList
      show 7 + (1 + (sx.cps.toList.length + 1)) ≤ 170
      omega
    have fin2 := q (.ref T) (.le sx) _ E ⟨T, b, rfl, upd_same, (hX.keep E1.s).nin hb, E3.s _ _ upd_same⟩ (by rw [okF]; exact ⟨hgt, by omega⟩) (by rw [ht]) hl
    have sub2 := E.sub
    rw [← esx] at fin2 sub2
    exact ⟨_, sub2, fin2⟩

def Wds : List Str := [Str.ofString "nothing", Str.ofString "truth", Str.ofString "whole", Str.ofString "fraction", Str.ofString "span", Str.ofString "letters", Str.ofString "maybe", Str.ofString "many", Str.ofString "turned", Str.ofString "record", Str.ofString "choice"]
def spTree (d : Nat) : Sp := fun vs H Q _ => ∃ (p : Addr) (dep : Nat) (ms : List Int) (X : List Addr), vs = [.ref p, .int ((dep : Nat) : Int)] ∧ 1 ≤ dep ∧ dep ≤ d ∧ H p = some (.lst (ms.map V.int)) ∧ ms.length ≤ 90 ∧ p ∈ X ∧ Lists X H ∧
  ∀ (v : V) (f : Fm) (H' : Hp) (ms' : List Int), Grow p H H' → H' p = some (.lst (ms'.map V.int)) → ms'.length ≤ ms.length → TAt X H' f v → okF f → ht f ≤ dep → (sh f).length + 680 * ms'.length ≤ 170 + 680 * ms.length → Q v H'
def slen : List Fm → Nat
  | [] => 0
  | f :: fs => (sh f).length + 15 + slen fs
theorem slen_snoc (f : Fm) : ∀ fs : List Fm, slen (fs ++ [f]) = slen fs + ((sh f).length + 15)
  | [] => by show (sh f).length + 15 + 0 = 0 + _; omega
  | g :: fs => by show (sh g).length + 15 + slen (fs ++ [f]) = (sh g).length + 15 + slen fs + _; rw [slen_snoc f fs]; omega
theorem okFs_snoc {f : Fm} (h : okF f) : ∀ {fs : List Fm}, okFs fs → okFs (fs ++ [f])
  | [], _ => by show okFs [f]; rw [okFs, okFs]; exact ⟨h, trivial⟩
  | g :: fs, h2 => by
    rw [okFs] at h2
    show okFs (g :: (fs ++ [f]))
    rw [okFs]
    exact ⟨h2.1, okFs_snoc h h2.2⟩
theorem hts_snoc {f : Fm} {n : Nat} (h : ht f ≤ n) : ∀ {fs : List Fm}, hts fs ≤ n → hts (fs ++ [f]) ≤ n
  | [], _ => by show hts [f] ≤ n; rw [hts, hts]; omega
  | g :: fs, h2 => by
    rw [hts] at h2
    show hts (g :: (fs ++ [f])) ≤ n
    rw [hts]
    have := hts_snoc h (fs := fs) (by omega)
    omega
theorem shs_slen : ∀ (fs : List Fm) (ns : List Str), ns.length = fs.length → (∀ n, n ∈ ns → n.length ≤ 12) → (shs fs ns).length ≤ slen fs
  | [], ns, h, _ => by rw [shs]; exact Nat.zero_le _
  | f :: fs, [], h, _ => by cases h
  | f :: fs, n :: ns, h, hb => by
    have ih := shs_slen fs ns (Nat.succ.inj h) fun x hx => hb x (List.mem_cons_of_mem _ hx)
    have hn := hb n (List.mem_cons_self ..)
    have hln : n.cps.toList.length = n.length := Array.length_toList
    rw [shs_cons, List.length_append, List.length_append, List.length_append, hln, cp_sp]
    have : (tlS fs ns).length ≤ 2 + slen fs := by
      cases fs with
      | nil => exact Nat.zero_le _
      | cons a b => unfold tlS; rw [List.length_append, cp_co]; show 2 + _ ≤ _; omega
    show n.length + (1 + _) ≤ (sh f).length + 15 + slen fs
    omega
theorem iteNO {c A B : Prop} [Decidable c] (hc : ¬ c) (h : A) : if (!decide c) = true then A else B := by
  rw [decide_eq_false hc]
  exact h
set_option maxHeartbeats 8000000 in
theorem step_law_tree {f : Addr} {fd : FuncData} {d : Nat} (nb : NB mg) (F : FunAt K mg "_law_tree" s_law_tree ["_law_left", "_law_deep"] f fd) (D_law_simple : DefOk P w K mg base 1 "_law_simple" ["_law_word", "_law_number", "_law_last"] spSimple31) (D_law_names : DefOk P w K mg base 1 "_law_names" ["_law_number", "_law_many"] spNames31)
    (D_law_tree : DefOk P w K mg base (d + 2) "_law_tree" ["_law_left", "_law_deep"] (spTree d)) : DefOk P w K mg base (d + 2 + 1) "_law_tree" ["_law_left", "_law_deep"] (spTree (d + 1)) := by
  refine F.ok sc_law_tree (fun vs H Q E h => ?_) (fun cdv A outer s H vs Q E hr h => ?_)
  · obtain ⟨_, _, _, _, rfl, _⟩ := h; rfl
  obtain ⟨p, dep, ms, X, rfl, hd1, hd2, hp, hms, hpX, hX, q⟩ := h
  refine ⟨_, (pss_cons (ps_set (i := 2) sc_law_tree.nd rfl (by first | exact Or.inl rfl | exact Or.inr rfl) (pe_lst (pa_cons pe_str (pa_cons pe_str (pa_cons pe_str (pa_cons pe_str (pa_cons pe_str (pa_cons pe_str pa_nil))))))))
    (pss_cons (ps_set (i := 2) sc_law_tree.nd rfl (by first | exact Or.inl rfl | exact Or.inr rfl) (pe_op oAdd3 (pv 2) (pe_lst (pa_cons pe_str (pa_cons pe_str (pa_cons pe_str (pa_cons pe_str (pa_cons pe_str pa_nil))))))))
    (pss_cons (ps_if (pt_cmpR (oEqL (room64 hr)) (pv 0) (pe_lst pa_nil) (nomark _)) (pss_one (ps_ret (pe_tup (pa_cons pe_str (pa_cons (pe_lst pa_nil) (pa_cons (pe_lst pa_nil) pa_nil)))))) pss_nil)
    (pss_cons (ps_set (i := 3) sc_law_tree.nd rfl (by first | exact Or.inl rfl | exact Or.inr rfl) (pe_bm0 PySem.F.plainAttrs_list PySem.F.slot_list_pop PySem.F.type_list_pop mt_pop (pv 0)))
    (pss_cons (ps_set (i := 4) sc_law_tree.nd rfl (by first | exact Or.inl rfl | exact Or.inr rfl) (pe_ix iAll (pv 2) (pe_op op_mod (pv 3) pe_int) (fun _ _ => rfl)))
    (pss_cons (ps_if (PW.pt (pw_and (pt_cmpR (oEqL (room64 hr)) (pv 1) pe_int (nomark _)) (pw_and1 (pt_cmpR oGt (pe_op op_mod (pv 3) pe_int) pe_int (nomark _))))) (pss_one (ps_set (i := 4) sc_law_tree.nd rfl (by first | exact Or.inl rfl | exact Or.inr rfl) (pe_ix iAll (pv 2) (pe_op op_mod (pv 3) pe_int) (fun _ _ => rfl)))) pss_nil)
    (pss_cons (ps_if (pt_cmpR oLt (pe_bm PySem.F.plainAttrs_list PySem.F.slot_list_index PySem.F.type_list_index mt_lindex (pv 2) (pa_cons (pv 4) pa_nil)) pe_int (nomark _)) (pss_one (ps_ret (pe_callD D_law_simple hr (pa_cons (pv 4) (pa_cons (pe_op op_fdiv (pv 3) pe_int) (pa_cons (pe_cmpR (oEqL (room64 hr)) (pv 0) (pe_lst pa_nil) (nomark _)) pa_nil))) (hk := by omega)))) pss_nil)
    (pss_cons (ps_if (pt_cmpR oLt (pe_bm PySem.F.plainAttrs_list PySem.F.slot_list_index PySem.F.type_list_index mt_lindex (pv 2) (pa_cons (pv 4) pa_nil)) pe_int (nomark _)) (pss_one (ps_ret (pe_tup (pa_cons (pv 4) (pa_cons (pe_lst pa_nil) (pa_cons (pe_lst (pa_cons (pe_callD D_law_tree hr (pa_cons (pv 0) (pa_cons (pe_op oSub (pv 1) pe_int) pa_nil)) (hk := by omega)) pa_nil)) pa_nil)))))) pss_nil)
    (pss_cons (ps_set (i := 5) sc_law_tree.nd rfl (by first | exact Or.inl rfl | exact Or.inr rfl) (pe_lst (pa_cons (pe_callD D_law_tree hr (pa_cons (pv 0) (pa_cons (pe_op oSub (pv 1) pe_int) pa_nil)) (hk := by omega)) pa_nil)))
    (pss_cons (ps_while PassesOwn.never (PW.pt (pw_and (pt_cmpR (oNeL (room64 hr)) (pv 0) (pe_lst pa_nil) (nomark _)) (pw_and1 (pt_cmpR oLt (pe_callB call_len rfl nb.len_ bo_len (pa_cons (pv 5) pa_nil)) (pe_op oAdd3 pe_int (pe_op op_mod (pe_op op_fdiv (pv 3) pe_int) pe_int)) (nomark _)))))
      (pss_one (ps_expr (pe_bm PySem.F.plainAttrs_list PySem.F.slot_list_append PySem.F.type_list_append mt_append (pv 5) (pa_cons (pe_callD D_law_tree hr (pa_cons (pv 0) (pa_cons (pe_op oSub (pv 1) pe_int) pa_nil)) (hk := by omega)) pa_nil)))))
    (pss_one (ps_ret (pe_tup (pa_cons (pv 4) (pa_cons (pe_callD D_law_names hr (pa_cons (pe_op op_fdiv (pv 3) pe_int) (pa_cons (pe_callB call_len rfl nb.len_ bo_len (pa_cons (pv 5) pa_nil)) pa_nil)) (hk := by omega)) (pa_cons (pv 5) pa_nil)))))))))))))))), ?_⟩
  refine ⟨(by show 6 ≤ sizeLine; decide), fun g1 h1 => ⟨_, rfl, (by show 5 ≤ sizeLine; decide), fun g2 h2 => .inr ⟨g1, g2, _, _, rfl, rfl, (same_new h2) _ _ upd_same, upd_same, (by show 6 + 5 ≤ sizeLine; decide), fun lw hlw => ?_⟩⟩⟩
  have G0 := (((Grow.refl ⟨ms, hp, hms⟩).ext (Ext.lst h1)).ext (Ext.lst h2)).ext (Ext.lst (xs := Wds.map V.str) hlw)
  have e0 := upd_same (H := upd (upd H g1 (.lst [V.str (Str.ofString "nothing"), V.str (Str.ofString "truth"), V.str (Str.ofString "whole"), V.str (Str.ofString "fraction"), V.str (Str.ofString "span"), V.str (Str.ofString "letters")])) g2 (.lst [V.str (Str.ofString "maybe"), V.str (Str.ofString "many"), V.str (Str.ofString "turned"), V.str (Str.ofString "record"), V.str (Str.ofString "choice")])) (a := lw) (o := .lst (Wds.map V.str))
  have hp0 := (same_new (o := HO.lst (Wds.map V.str)) hlw) _ _ ((same_new h2) _ _ ((same_new h1) _ _ hp))
  change _
  generalize hH1 : upd (upd (upd H g1 (.lst [V.str (Str.ofString "nothing"), V.str (Str.ofString "truth"), V.str (Str.ofString "whole"), V.str (Str.ofString "fraction"), V.str (Str.ofString "span"), V.str (Str.ofString "letters")])) g2 (.lst [V.str (Str.ofString "maybe"), V.str (Str.ofString "many"), V.str (Str.ofString "turned"), V.str (Str.ofString "record"), V.str (Str.ofString "choice")])) lw _ = H1
  have hH1' : upd (upd (upd H g1 (.lst [V.str (Str.ofString "nothing"), V.str (Str.ofString "truth"), V.str (Str.ofString "whole"), V.str (Str.ofString "fraction"), V.str (Str.ofString "span"), V.str (Str.ofString "letters")])) g2 (.lst [V.str (Str.ofString "maybe"), V.str (Str.ofString "many"), V.str (Str.ofString "turned"), V.str (Str.ofString "record"), V.str (Str.ofString "choice")])) lw (.lst (Wds.map V.str)) = H1 := hH1
  rw [hH1'] at G0 e0 hp0
  clear hH1 hH1'
  have hX0 := hX.grow G0
  have nlp : lw ≠ p := (((Grow.refl ⟨ms, hp, hms⟩).ext (Ext.lst h1)).ext (Ext.lst h2)).ne hlw
  refine ⟨_, rfl, Nat.zero_le _, fun g3 h3 => .inr ⟨p, g3, ms, [], rfl, rfl, (same_new h3) _ _ hp0, upd_same, _, rfl, iteD (fun c0 => ?_) (fun c0 => ?_)⟩⟩
  · have E0 := Ext.lst (xs := []) h3
    refine ⟨Nat.zero_le _, fun a ha => ⟨Nat.zero_le _, fun b hb => ⟨(by show 3 ≤ sizeLine; decide), fun T hT => ?_⟩⟩⟩
    have E1 := Ext.lst (xs := []) ha
    have E2 := Ext.lst (xs := []) hb
    have E3 := Ext.tup (xs := [V.str (bw 0), .ref a, .ref b]) hT
    have E := ((E0.trans E1).trans E2).trans E3
    have G := G0.ext E
    refine ⟨_, G.sub, q _ (.bare 0) _ ms G (E.s _ _ hp0) (Nat.le_refl _) ⟨T, a, b, rfl, upd_same, (hX0.keep E0.s).nin ha, (hX0.keep (E0.trans E1).s).nin hb, (E2.trans E3).s _ _ upd_same, E3.s _ _ upd_same⟩ (by rw [okF]; trivial) (by rw [ht]; exact hd1) ?_⟩
    rw [sh, show (bw 0).cps.toList.length = 7 by decide +kernel]; omega
  have E0 := Ext.lst (xs := []) h3
  have G1 := G0.ext E0
  have hp1 := E0.s _ _ hp0
  have e1 := E0.s _ _ e0
  generalize upd H1 g3 (.lst []) = H2 at G1 hp1 e1 ⊢
  obtain ⟨ms1, c, rfl⟩ : ∃ ms1 c, ms = ms1 ++ [c] := ⟨ms.dropLast, ms.getLast c0, (List.dropLast_concat_getLast c0).symm⟩
  have hms1 : ms1.length + 1 = (ms1 ++ [c]).length := by rw [List.length_append]; rfl
  rw [← hms1] at hms
  refine ⟨_, rfl, .inl ⟨rfl, _, SqL.of hp1⟩, p, _, .int c, rfl, rfl, hp1, ?_, ?_⟩
  · rw [List.length_map, ← hms1, Nat.add_sub_cancel, List.getElem?_map, List.getElem?_append_right (Nat.le_refl _), Nat.sub_self]; rfl
  have edl : ((ms1 ++ [c]).map V.int).dropLast = ms1.map V.int := by rw [List.map_append]; exact List.dropLast_concat
  rw [edl]
  have hP1 : Pool p H2 := G1.l
  have G2 := G1.trans (Grow.pop hP1 (ns := ms1) (by omega))
  have e2 : upd H2 p (.lst (ms1.map V.int)) lw = some (.lst (Wds.map V.str)) := by rw [upd_ne nlp]; exact e1
  have hp2 : upd H2 p (.lst (ms1.map V.int)) p = some (.lst (ms1.map V.int)) := upd_same
  generalize upd H2 p (.lst (ms1.map V.int)) = H3 at G2 e2 hp2 ⊢
  have hX2 := hX.grow G2
  have lW : Wds.length = 11 := rfl
  have hWat : ∀ j, (hj : j < 11) → atI (Wds.map V.str) ((j : Nat) : Int) = some (.str (Wds[j]'(by omega))) := fun j hj => atI_nat (by rw [List.getElem?_map, List.getElem?_eq_getElem (by omega)]; rfl)
  obtain ⟨j1, hj1, ej1'⟩ := mod_nat c 11 (by decide)
  have ej1 : c % 11 = ((j1 : Nat) : Int) := ej1'
  obtain ⟨j6, hj6, ej6'⟩ := mod_nat c 6 (by decide)
  have ej6 : c % 6 = ((j6 : Nat) : Int) := ej6'
  refine ⟨_, rfl, _, rfl, _, _, rfl, rfl, (by show (0 : Int) < 11; decide), .inl (.inl ⟨_, _, _, _, rfl, rfl, SqL.of e2, (by rw [ej1]; exact hWat j1 hj1), ?_⟩)⟩
  refine ⟨_, rfl, .inl ⟨rfl, _, rfl, iteD (fun k1 => ?_) (fun k1 => ?_)⟩⟩
  · have hdep1 : dep = 1 := by have := V.int.inj k1; omega
    refine ⟨_, rfl, _, _, rfl, rfl, (by show (0 : Int) < 11; decide), _, _, rfl, rfl, _, rfl, iteD (fun k2 => ?_) (fun k2 => ?_)⟩
    · refine ⟨_, rfl, _, rfl, _, _, rfl, rfl, (by show (0 : Int) < 6; decide), .inl (.inl ⟨_, _, _, _, rfl, rfl, SqL.of e2, (by rw [ej6]; exact hWat j6 (by omega)), ?_⟩)⟩
      obtain ⟨j, hj, hjd⟩ : ∃ j, ∃ hj : j = j6, dep = 1 → j < 6 := ⟨j6, rfl, fun _ => hj6⟩
      subst hj
      have hj11 : j < 11 := by omega
      have hget : Wds[j]? = some (Wds[j]'(by omega)) := List.getElem?_eq_getElem (by omega)
      have hno : ∀ i, i < j → Wds[i]? ≠ some (Wds[j]'(by omega)) := fun i hi z => by
        have nd : Wds.Nodup := by decide +kernel
        rw [List.getElem?_eq_getElem (by omega)] at z
        have := (List.getElem_inj nd).mp (Option.some.inj z)
        omega
      refine ⟨_, rfl, .inl ⟨rfl, _, SqL.of e2⟩, _, rfl, lw, Wds, _, j, rfl, rfl, e2, hget, hno, by decide, .inl ⟨_, _, rfl, rfl, _, rfl, iteD (fun z6 => ?_) (fun z6 => ?_)⟩⟩
      · refine ⟨_, rfl, _, rfl, _, _, rfl, rfl, ⟨by decide, by decide⟩, _, rfl, Nat.zero_le _, fun g4 h4 => .inr ⟨p, g4, ms1, [], rfl, rfl, (same_new h4) _ _ hp2, upd_same, ?_⟩⟩
        have E4 := Ext.lst (xs := []) h4
        refine ⟨_, _, _, X, rfl, ?_, hX2.keep E4.s, fun v fm H' E5 hT hok hht hlen => ?_⟩
        · have hj6 : j = 0 ∨ j = 1 ∨ j = 2 ∨ j = 3 ∨ j = 4 ∨ j = 5 := by omega
          rcases hj6 with rfl | rfl | rfl | rfl | rfl | rfl
          · exact .inl ⟨0, rfl⟩
          · exact .inl ⟨1, rfl⟩
          · exact .inl ⟨2, rfl⟩
          · exact .inl ⟨3, rfl⟩
          · exact .inr (.inl rfl)
          · exact .inr (.inr rfl)
        · have E := E4.trans E5
          exact ⟨_, (G2.ext E).sub, q v fm H' ms1 (G2.ext E) (E.s _ _ hp2) (by omega) hT hok (by omega) (by omega)⟩
      have hd2' : 2 ≤ dep := by
        rcases Nat.lt_or_ge dep 2 with z | z
        · have := hjd (by omega); omega
        · exact z
      have ed : ((dep : Nat) : Int) - 1 = ((dep - 1 : Nat) : Int) := by omega
      refine ⟨_, rfl, .inl ⟨rfl, _, SqL.of e2⟩, _, rfl, lw, Wds, _, j, rfl, rfl, e2, hget, hno, by decide, .inl ⟨_, _, rfl, rfl, _, rfl, iteD (fun z9 => ?_) (fun z9 => ?_)⟩⟩
      · refine ⟨_, rfl, Nat.zero_le _, fun a ha => ?_⟩
        have E4 := Ext.lst (xs := []) ha
        refine ⟨_, rfl, _, rfl, _, _, rfl, rfl, p, dep - 1, ms1, X, (by rw [← ed]; rfl), by omega, by omega, E4.s _ _ hp2, by omega, hpX, hX2.keep E4.s, fun v fm H4 ms2 G4 hp4 hm4 hT hok hht hlen => ⟨one_ok, fun b hb => ⟨(by show 3 ≤ sizeLine; decide), fun T hTn => ?_⟩⟩⟩
        have naX : a ∉ X := hX2.nin ha
        have ea4 : H4 a = some (.lst []) := G4.k _ _ (fun z => naX (by rw [z]; exact hpX)) upd_same
        have E5 := Ext.lst (xs := [v]) hb
        obtain ⟨kk, hkk⟩ : ∃ kk : Fin 3, Wds[j]'(by omega) = ow kk := by
          have : j = 6 ∨ j = 7 ∨ j = 8 := by omega
          rcases this with rfl | rfl | rfl
          · exact ⟨0, rfl⟩
          · exact ⟨1, rfl⟩
          · exact ⟨2, rfl⟩
        rw [hkk]
        have E6 := Ext.tup (xs := [V.str (ow kk), .ref a, .ref b]) hTn
        have E := E5.trans E6
        have G := ((G2.ext E4).trans G4).ext E
        have hX4 := (hX2.keep E4.s).grow G4
        refine ⟨_, G.sub, q _ (.one kk fm) _ ms2 G (E.s _ _ hp4) (by omega) ⟨T, a, b, v, rfl, upd_same, naX, hX4.nin hb, E.s _ _ ea4, E6.s _ _ upd_same, TAt.ext hX4 E.s fm hT⟩ (by rw [okF]; exact hok) (by rw [ht]; omega) ?_⟩
        rw [sh, List.length_append, List.length_append, List.length_append, cp_op, cp_cl]
        have lo : (ow kk).cps.toList.length ≤ 6 := by
          have : ∀ k : Fin 3, (ow k).cps.toList.length ≤ 6 := by decide +kernel
          exact this kk
        show _ + (1 + ((sh fm).length + 1)) + _ ≤ _
        omega
      refine ⟨_, rfl, _, rfl, _, _, rfl, rfl, p, dep - 1, ms1, X, (by rw [← ed]; rfl), by omega, by omega, hp2, by omega, hpX, hX2, fun v0 f0 H4 ms2 G4 hp4 hm4 hT0 hok0 hht0 hlen0 => ⟨one_ok, fun l hl => ?_⟩⟩
      have G5 := G2.trans G4
      have E5 := Ext.lst (xs := [v0]) hl
      have hX4 := hX2.grow G4
      have nlX : l ∉ X := hX4.nin hl
      have nlp2 : l ≠ p := fun z => nlX (by rw [z]; exact hpX)
      have hl0 : H l = none := G5.free hl
      have nll : lw ≠ l := fun z => by
        have := G4.k _ _ nlp e2
        rw [z, hl] at this; cases this
      obtain ⟨x4, hx4, ex4'⟩ := mod_nat (c / 66) 4 (by decide)
      have ex4 : c / 66 % 4 = ((x4 : Nat) : Int) := ex4'
      refine ⟨fun m σ H5 => ∃ (fs : List Fm) (vs : List V) (ms3 : List Int), m = 4 - fs.length ∧ σ = [some (.ref p), some (.int ((dep : Nat) : Int)), some (.ref lw), some (.int c), some (.str (Wds[j]'(by omega))), some (.ref l)] ∧ Grow p H H5 ∧ H5 p = some (.lst (ms3.map V.int)) ∧ ms3.length ≤ ms1.length ∧ H5 l = some (.lst vs) ∧ TsAt (l :: X) H5 fs vs ∧ Lists (l :: X) H5 ∧ okFs fs ∧ hts fs ≤ dep - 1 ∧ 1 ≤ fs.length ∧ fs.length ≤ 4 ∧ slen fs + 680 * ms3.length ≤ 185 * fs.length + 680 * ms1.length, ⟨3, [f0], [v0], ms2, rfl, rfl, G5.ext E5, E5.s _ _ hp4, hm4, upd_same, ⟨v0, [], rfl, ?_, rfl⟩, ?_, okFs_snoc (fs := []) hok0 (by rw [okFs]; trivial), hts_snoc (fs := []) (by omega) (by rw [hts]; exact Nat.zero_le _), Nat.le_refl _, (by show 1 ≤ 4; decide), ?_⟩, ?_⟩
      · exact TAt.same E5.s f0 (TAt.add hl f0 hT0)
      · intro x hx
        rcases List.mem_cons.mp hx with z | z
        · rw [z]; exact ⟨_, upd_same⟩
        · exact (hX4.keep E5.s) x z
      · show (sh f0).length + 15 + 0 + 680 * ms2.length ≤ 185 * 1 + 680 * ms1.length
        omega
      rintro m σ H5 ⟨fs, vs, ms3, rfl, rfl, g5, hp5, hm5, hl5, hT5, hX5, hok5, hht5, hf1, hf4, hlen5⟩
      have hvl := TsAt.len fs hT5
      refine ⟨_, rfl, Nat.zero_le _, fun g6 h6 => .inr ⟨p, g6, ms3, [], rfl, rfl, (same_new h6) _ _ hp5, upd_same, _, rfl, ?_⟩⟩
      have E6 := Ext.lst (xs := []) h6
      have g6' := g5.ext E6
      have hp6 := E6.s _ _ hp5
      have hl6 := E6.s _ _ hl5
      have hT6 := TsAt.same E6.s fs hT5
      have hX6 := hX5.keep E6.s
      generalize upd H5 g6 (.lst []) = H6 at g6' hp6 hl6 hT6 hX6 ⊢
      by_cases hm3 : ms3 = []
      · refine iteNS hm3 ?_
        refine ⟨_, rfl, _, rfl, _, _, rfl, rfl, ⟨by decide, by decide⟩, _, rfl, _, _, rfl, .inl ⟨_, SqL.of hl6, rfl⟩, _, vs.length, rfl, by omega, by omega, fun D ns hD hnl hgn => ⟨_, rfl, (by show 3 ≤ sizeLine; decide), fun T hTn => ?_⟩⟩
        obtain ⟨kk, hkk⟩ : ∃ kk : Fin 2, Wds[j]'(by omega) = tw kk := by
          have : j = 9 ∨ j = 10 := by omega
          rcases this with rfl | rfl
          · exact ⟨0, rfl⟩
          · exact ⟨1, rfl⟩
        rw [hkk]
        have ED := Ext.lst (xs := ns.map V.str) hD
        have ET := Ext.tup (xs := [V.str (tw kk), .ref D, .ref l]) hTn
        have E := ED.trans ET
        have G := g6'.ext E
        have hDX : D ∉ l :: X := hX6.nin hD
        refine ⟨_, G.sub, q _ (.two kk ns fs) _ ms3 G (E.s _ _ hp6) (by omega) ⟨T, D, l, vs, rfl, upd_same, fun z => hDX (List.mem_cons_of_mem _ z), nlX, ET.s _ _ upd_same, E.s _ _ hl6, TsAt.weak (fun x hx => List.mem_cons_of_mem _ hx) fs (TsAt.same E.s fs hT6)⟩ (by rw [okF]; exact ⟨hgn, by omega, hok5⟩) (by rw [ht]; omega) ?_⟩
        have hsl := shs_slen fs ns (by omega) (goodNames_mem hgn).2
        rw [sh, List.length_append, List.length_append, List.length_append, cp_op, cp_cl]
        have lo : (tw kk).cps.toList.length ≤ 6 := by
          have : ∀ k : Fin 2, (tw k).cps.toList.length ≤ 6 := by decide +kernel
          exact this kk
        show _ + (1 + ((shs fs ns).length + 1)) + _ ≤ _
        omega
      refine iteNO hm3 ?_
      refine ⟨_, rfl, _, _, rfl, .inl ⟨_, SqL.of hl6, rfl⟩, _, rfl, _, _, rfl, rfl, ⟨by decide, by decide⟩, _, _, rfl, rfl, (by show (0 : Int) < 4; decide), .inl (.inl ⟨_, _, rfl, rfl, .inl ⟨_, _, rfl, rfl, _, rfl, iteD (fun zl => ?_) (fun zl => ?_)⟩⟩)⟩
      · rw [ex4] at zl
        have hfl : fs.length < 4 := by omega
        refine ⟨fun σ' H' => ∃ m', m' < 4 - fs.length ∧ ∃ (fs : List Fm) (vs : List V) (ms3 : List Int), m' = 4 - fs.length ∧ σ' = [some (.ref p), some (.int ((dep : Nat) : Int)), some (.ref lw), some (.int c), some (.str (Wds[j]'(by omega))), some (.ref l)] ∧ Grow p H H' ∧ H' p = some (.lst (ms3.map V.int)) ∧ ms3.length ≤ ms1.length ∧ H' l = some (.lst vs) ∧ TsAt (l :: X) H' fs vs ∧ Lists (l :: X) H' ∧ okFs fs ∧ hts fs ≤ dep - 1 ∧ 1 ≤ fs.length ∧ fs.length ≤ 4 ∧ slen fs + 680 * ms3.length ≤ 185 * fs.length + 680 * ms1.length, fun _ _ h => h, ?_⟩
        refine ⟨_, rfl, .inl ⟨rfl, _, SqL.of hl6⟩, _, rfl, _, rfl, _, _, rfl, rfl, p, dep - 1, ms3, l :: X, (by rw [← ed]; rfl), by omega, by omega, hp6, by omega, List.mem_cons_of_mem _ hpX, hX6, fun v7 f7 H7 ms7 G7 hp7 hm7 hT7 hok7 hht7 hlen7 => ?_⟩
        have hl7 := G7.k _ _ nlp2 hl6
        have hX7 := hX6.grow G7
        refine ⟨l, _, _, rfl, rfl, hl7, (by rw [hvl]; exact Nat.lt_of_lt_of_le (show fs.length < 100000 by omega) (by decide)), ?_⟩
        have k7 : ∀ b u, b ∉ l :: X → H7 b = some u → upd H7 l (.lst (vs ++ [v7])) b = some u := fun b u nb e => by rw [upd_ne (fun z => nb (by rw [z]; exact List.mem_cons_self ..))]; exact e
        have k6 : ∀ b u, b ∉ l :: X → H6 b = some u → upd H7 l (.lst (vs ++ [v7])) b = some u := fun b u nb e => k7 b u nb (G7.k b u (fun z => nb (by rw [z]; exact List.mem_cons_of_mem _ hpX)) e)
        refine ⟨4 - (fs ++ [f7]).length, by rw [List.length_append, List.length_singleton]; omega, fs ++ [f7], vs ++ [v7], ms7, rfl, rfl, (g6'.trans G7).set hl0 hl7 nlp2, by rw [upd_ne (Ne.symm nlp2)]; exact hp7, by omega, upd_same, TsAt.snoc (TAt.keep hX7 k7 f7 hT7) fs (TsAt.keep hX6 k6 fs hT6), ?_, okFs_snoc hok7 hok5, hts_snoc hht7 hht5, by rw [List.length_append]; omega, by rw [List.length_append, List.length_singleton]; omega, ?_⟩
        · intro x hx
          by_cases z : x = l
          · rw [z]; exact ⟨_, upd_same⟩
          · obtain ⟨y, hy⟩ := hX7 x hx
            exact ⟨y, by rw [upd_ne z]; exact hy⟩
        · rw [slen_snoc, List.length_append, List.length_singleton]; omega
      · skip
        refine ⟨_, rfl, _, rfl, _, _, rfl, rfl, ⟨by decide, by decide⟩, _, rfl, _, _, rfl, .inl ⟨_, SqL.of hl6, rfl⟩, _, vs.length, rfl, by omega, by omega, fun D ns hD hnl hgn => ⟨_, rfl, (by show 3 ≤ sizeLine; decide), fun T hTn => ?_⟩⟩
        obtain ⟨kk, hkk⟩ : ∃ kk : Fin 2, Wds[j]'(by omega) = tw kk := by
          have : j = 9 ∨ j = 10 := by omega
          rcases this with rfl | rfl
          · exact ⟨0, rfl⟩
          · exact ⟨1, rfl⟩
        rw [hkk]
        have ED := Ext.lst (xs := ns.map V.str) hD
        have ET := Ext.tup (xs := [V.str (tw kk), .ref D, .ref l]) hTn
        have E := ED.trans ET
        have G := g6'.ext E
        have hDX : D ∉ l :: X := hX6.nin hD
        refine ⟨_, G.sub, q _ (.two kk ns fs) _ ms3 G (E.s _ _ hp6) (by omega) ⟨T, D, l, vs, rfl, upd_same, fun z => hDX (List.mem_cons_of_mem _ z), nlX, ET.s _ _ upd_same, E.s _ _ hl6, TsAt.weak (fun x hx => List.mem_cons_of_mem _ hx) fs (TsAt.same E.s fs hT6)⟩ (by rw [okF]; exact ⟨hgn, by omega, hok5⟩) (by rw [ht]; omega) ?_⟩
        have hsl := shs_slen fs ns (by omega) (goodNames_mem hgn).2
        rw [sh, List.length_append, List.length_append, List.length_append, cp_op, cp_cl]
        have lo : (tw kk).cps.toList.length ≤ 6 := by
          have : ∀ k : Fin 2, (tw k).cps.toList.length ≤ 6 := by decide +kernel
          exact this kk
        show _ + (1 + ((shs fs ns).length + 1)) + _ ≤ _
        omega
    · obtain ⟨j, hj, hjd⟩ : ∃ j, ∃ hj : j = j1, dep = 1 → j < 6 := ⟨j1, rfl, fun _ => by rw [ej1] at k2; omega⟩
      subst hj
      have hj11 : j < 11 := by omega
      have hget : Wds[j]? = some (Wds[j]'(by omega)) := List.getElem?_eq_getElem (by omega)
      have hno : ∀ i, i < j → Wds[i]? ≠ some (Wds[j]'(by omega)) := fun i hi z => by
        have nd : Wds.Nodup := by decide +kernel
        rw [List.getElem?_eq_getElem (by omega)] at z
        have := (List.getElem_inj nd).mp (Option.some.inj z)
        omega
      refine ⟨_, rfl, .inl ⟨rfl, _, SqL.of e2⟩, _, rfl, lw, Wds, _, j, rfl, rfl, e2, hget, hno, by decide, .inl ⟨_, _, rfl, rfl, _, rfl, iteD (fun z6 => ?_) (fun z6 => ?_)⟩⟩
      · refine ⟨_, rfl, _, rfl, _, _, rfl, rfl, ⟨by decide, by decide⟩, _, rfl, Nat.zero_le _, fun g4 h4 => .inr ⟨p, g4, ms1, [], rfl, rfl, (same_new h4) _ _ hp2, upd_same, ?_⟩⟩
        have E4 := Ext.lst (xs := []) h4
        refine ⟨_, _, _, X, rfl, ?_, hX2.keep E4.s, fun v fm H' E5 hT hok hht hlen => ?_⟩
        · have hj6 : j = 0 ∨ j = 1 ∨ j = 2 ∨ j = 3 ∨ j = 4 ∨ j = 5 := by omega
          rcases hj6 with rfl | rfl | rfl | rfl | rfl | rfl
          · exact .inl ⟨0, rfl⟩
          · exact .inl ⟨1, rfl⟩
          · exact .inl ⟨2, rfl⟩
          · exact .inl ⟨3, rfl⟩
          · exact .inr (.inl rfl)
          · exact .inr (.inr rfl)
        · have E := E4.trans E5
          exact ⟨_, (G2.ext E).sub, q v fm H' ms1 (G2.ext E) (E.s _ _ hp2) (by omega) hT hok (by omega) (by omega)⟩
      have hd2' : 2 ≤ dep := by
        rcases Nat.lt_or_ge dep 2 with z | z
        · have := hjd (by omega); omega
        · exact z
      have ed : ((dep : Nat) : Int) - 1 = ((dep - 1 : Nat) : Int) := by omega
      refine ⟨_, rfl, .inl ⟨rfl, _, SqL.of e2⟩, _, rfl, lw, Wds, _, j, rfl, rfl, e2, hget, hno, by decide, .inl ⟨_, _, rfl, rfl, _, rfl, iteD (fun z9 => ?_) (fun z9 => ?_)⟩⟩
      · refine ⟨_, rfl, Nat.zero_le _, fun a ha => ?_⟩
        have E4 := Ext.lst (xs := []) ha
        refine ⟨_, rfl, _, rfl, _, _, rfl, rfl, p, dep - 1, ms1, X, (by rw [← ed]; rfl), by omega, by omega, E4.s _ _ hp2, by omega, hpX, hX2.keep E4.s, fun v fm H4 ms2 G4 hp4 hm4 hT hok hht hlen => ⟨one_ok, fun b hb => ⟨(by show 3 ≤ sizeLine; decide), fun T hTn => ?_⟩⟩⟩
        have naX : a ∉ X := hX2.nin ha
        have ea4 : H4 a = some (.lst []) := G4.k _ _ (fun z => naX (by rw [z]; exact hpX)) upd_same
        have E5 := Ext.lst (xs := [v]) hb
        obtain ⟨kk, hkk⟩ : ∃ kk : Fin 3, Wds[j]'(by omega) = ow kk := by
          have : j = 6 ∨ j = 7 ∨ j = 8 := by omega
          rcases this with rfl | rfl | rfl
          · exact ⟨0, rfl⟩
          · exact ⟨1, rfl⟩
          · exact ⟨2, rfl⟩
        rw [hkk]
        have E6 := Ext.tup (xs := [V.str (ow kk), .ref a, .ref b]) hTn
        have E := E5.trans E6
        have G := ((G2.ext E4).trans G4).ext E
        have hX4 := (hX2.keep E4.s).grow G4
        refine ⟨_, G.sub, q _ (.one kk fm) _ ms2 G (E.s _ _ hp4) (by omega) ⟨T, a, b, v, rfl, upd_same, naX, hX4.nin hb, E.s _ _ ea4, E6.s _ _ upd_same, TAt.ext hX4 E.s fm hT⟩ (by rw [okF]; exact hok) (by rw [ht]; omega) ?_⟩
        rw [sh, List.length_append, List.length_append, List.length_append, cp_op, cp_cl]
        have lo : (ow kk).cps.toList.length ≤ 6 := by
          have : ∀ k : Fin 3, (ow k).cps.toList.length ≤ 6 := by decide +kernel
          exact this kk
        show _ + (1 + ((sh fm).length + 1)) + _ ≤ _
        omega
      refine ⟨_, rfl, _, rfl, _, _, rfl, rfl, p, dep - 1, ms1, X, (by rw [← ed]; rfl), by omega, by omega, hp2, by omega, hpX, hX2, fun v0 f0 H4 ms2 G4 hp4 hm4 hT0 hok0 hht0 hlen0 => ⟨one_ok, fun l hl => ?_⟩⟩
      have G5 := G2.trans G4
      have E5 := Ext.lst (xs := [v0]) hl
      have hX4 := hX2.grow G4
      have nlX : l ∉ X := hX4.nin hl
      have nlp2 : l ≠ p := fun z => nlX (by rw [z]; exact hpX)
      have hl0 : H l = none := G5.free hl
      have nll : lw ≠ l := fun z => by
        have := G4.k _ _ nlp e2
        rw [z, hl] at this; cases this
      obtain ⟨x4, hx4, ex4'⟩ := mod_nat (c / 66) 4 (by decide)
      have ex4 : c / 66 % 4 = ((x4 : Nat) : Int) := ex4'
      refine ⟨fun m σ H5 => ∃ (fs : List Fm) (vs : List V) (ms3 : List Int), m = 4 - fs.length ∧ σ = [some (.ref p), some (.int ((dep : Nat) : Int)), some (.ref lw), some (.int c), some (.str (Wds[j]'(by omega))), some (.ref l)] ∧ Grow p H H5 ∧ H5 p = some (.lst (ms3.map V.int)) ∧ ms3.length ≤ ms1.length ∧ H5 l = some (.lst vs) ∧ TsAt (l :: X) H5 fs vs ∧ Lists (l :: X) H5 ∧ okFs fs ∧ hts fs ≤ dep - 1 ∧ 1 ≤ fs.length ∧ fs.length ≤ 4 ∧ slen fs + 680 * ms3.length ≤ 185 * fs.length + 680 * ms1.length, ⟨3, [f0], [v0], ms2, rfl, rfl, G5.ext E5, E5.s _ _ hp4, hm4, upd_same, ⟨v0, [], rfl, ?_, rfl⟩, ?_, okFs_snoc (fs := []) hok0 (by rw [okFs]; trivial), hts_snoc (fs := []) (by omega) (by rw [hts]; exact Nat.zero_le _), Nat.le_refl _, (by show 1 ≤ 4; decide), ?_⟩, ?_⟩
      · exact TAt.same E5.s f0 (TAt.add hl f0 hT0)
      · intro x hx
        rcases List.mem_cons.mp hx with z | z
        · rw [z]; exact ⟨_, upd_same⟩
        · exact (hX4.keep E5.s) x z
      · show (sh f0).length + 15 + 0 + 680 * ms2.length ≤ 185 * 1 + 680 * ms1.length
        omega
      rintro m σ H5 ⟨fs, vs, ms3, rfl, rfl, g5, hp5, hm5, hl5, hT5, hX5, hok5, hht5, hf1, hf4, hlen5⟩
      have hvl := TsAt.len fs hT5
      refine ⟨_, rfl, Nat.zero_le _, fun g6 h6 => .inr ⟨p, g6, ms3, [], rfl, rfl, (same_new h6) _ _ hp5, upd_same, _, rfl, ?_⟩⟩
      have E6 := Ext.lst (xs := []) h6
      have g6' := g5.ext E6
      have hp6 := E6.s _ _ hp5
      have hl6 := E6.s _ _ hl5
      have hT6 := TsAt.same E6.s fs hT5
      have hX6 := hX5.keep E6.s
      generalize upd H5 g6 (.lst []) = H6 at g6' hp6 hl6 hT6 hX6 ⊢
      by_cases hm3 : ms3 = []
      · refine iteNS hm3 ?_
        refine ⟨_, rfl, _, rfl, _, _, rfl, rfl, ⟨by decide, by decide⟩, _, rfl, _, _, rfl, .inl ⟨_, SqL.of hl6, rfl⟩, _, vs.length, rfl, by omega, by omega, fun D ns hD hnl hgn => ⟨_, rfl, (by show 3 ≤ sizeLine; decide), fun T hTn => ?_⟩⟩
        obtain ⟨kk, hkk⟩ : ∃ kk : Fin 2, Wds[j]'(by omega) = tw kk := by
          have : j = 9 ∨ j = 10 := by omega
          rcases this with rfl | rfl
          · exact ⟨0, rfl⟩
          · exact ⟨1, rfl⟩
        rw [hkk]
        have ED := Ext.lst (xs := ns.map V.str) hD
        have ET := Ext.tup (xs := [V.str (tw kk), .ref D, .ref l]) hTn
        have E := ED.trans ET
        have G := g6'.ext E
        have hDX : D ∉ l :: X := hX6.nin hD
        refine ⟨_, G.sub, q _ (.two kk ns fs) _ ms3 G (E.s _ _ hp6) (by omega) ⟨T, D, l, vs, rfl, upd_same, fun z => hDX (List.mem_cons_of_mem _ z), nlX, ET.s _ _ upd_same, E.s _ _ hl6, TsAt.weak (fun x hx => List.mem_cons_of_mem _ hx) fs (TsAt.same E.s fs hT6)⟩ (by rw [okF]; exact ⟨hgn, by omega, hok5⟩) (by rw [ht]; omega) ?_⟩
        have hsl := shs_slen fs ns (by omega) (goodNames_mem hgn).2
        rw [sh, List.length_append, List.length_append, List.length_append, cp_op, cp_cl]
        have lo : (tw kk).cps.toList.length ≤ 6 := by
          have : ∀ k : Fin 2, (tw k).cps.toList.length ≤ 6 := by decide +kernel
          exact this kk
        show _ + (1 + ((shs fs ns).length + 1)) + _ ≤ _
        omega
      refine iteNO hm3 ?_
      refine ⟨_, rfl, _, _, rfl, .inl ⟨_, SqL.of hl6, rfl⟩, _, rfl, _, _, rfl, rfl, ⟨by decide, by decide⟩, _, _, rfl, rfl, (by show (0 : Int) < 4; decide), .inl (.inl ⟨_, _, rfl, rfl, .inl ⟨_, _, rfl, rfl, _, rfl, iteD (fun zl => ?_) (fun zl => ?_)⟩⟩)⟩
      · rw [ex4] at zl
        have hfl : fs.length < 4 := by omega
        refine ⟨fun σ' H' => ∃ m', m' < 4 - fs.length ∧ ∃ (fs : List Fm) (vs : List V) (ms3 : List Int), m' = 4 - fs.length ∧ σ' = [some (.ref p), some (.int ((dep : Nat) : Int)), some (.ref lw), some (.int c), some (.str (Wds[j]'(by omega))), some (.ref l)] ∧ Grow p H H' ∧ H' p = some (.lst (ms3.map V.int)) ∧ ms3.length ≤ ms1.length ∧ H' l = some (.lst vs) ∧ TsAt (l :: X) H' fs vs ∧ Lists (l :: X) H' ∧ okFs fs ∧ hts fs ≤ dep - 1 ∧ 1 ≤ fs.length ∧ fs.length ≤ 4 ∧ slen fs + 680 * ms3.length ≤ 185 * fs.length + 680 * ms1.length, fun _ _ h => h, ?_⟩
        refine ⟨_, rfl, .inl ⟨rfl, _, SqL.of hl6⟩, _, rfl, _, rfl, _, _, rfl, rfl, p, dep - 1, ms3, l :: X, (by rw [← ed]; rfl), by omega, by omega, hp6, by omega, List.mem_cons_of_mem _ hpX, hX6, fun v7 f7 H7 ms7 G7 hp7 hm7 hT7 hok7 hht7 hlen7 => ?_⟩
        have hl7 := G7.k _ _ nlp2 hl6
        have hX7 := hX6.grow G7
        refine ⟨l, _, _, rfl, rfl, hl7, (by rw [hvl]; exact Nat.lt_of_lt_of_le (show fs.length < 100000 by omega) (by decide)), ?_⟩
        have k7 : ∀ b u, b ∉ l :: X → H7 b = some u → upd H7 l (.lst (vs ++ [v7])) b = some u := fun b u nb e => by rw [upd_ne (fun z => nb (by rw [z]; exact List.mem_cons_self ..))]; exact e
        have k6 : ∀ b u, b ∉ l :: X → H6 b = some u → upd H7 l (.lst (vs ++ [v7])) b = some u := fun b u nb e => k7 b u nb (G7.k b u (fun z => nb (by rw [z]; exact List.mem_cons_of_mem _ hpX)) e)
        refine ⟨4 - (fs ++ [f7]).length, by rw [List.length_append, List.length_singleton]; omega, fs ++ [f7], vs ++ [v7], ms7, rfl, rfl, (g6'.trans G7).set hl0 hl7 nlp2, by rw [upd_ne (Ne.symm nlp2)]; exact hp7, by omega, upd_same, TsAt.snoc (TAt.keep hX7 k7 f7 hT7) fs (TsAt.keep hX6 k6 fs hT6), ?_, okFs_snoc hok7 hok5, hts_snoc hht7 hht5, by rw [List.length_append]; omega, by rw [List.length_append, List.length_singleton]; omega, ?_⟩
        · intro x hx
          by_cases z : x = l
          · rw [z]; exact ⟨_, upd_same⟩
          · obtain ⟨y, hy⟩ := hX7 x hx
            exact ⟨y, by rw [upd_ne z]; exact hy⟩
        · rw [slen_snoc, List.length_append, List.length_singleton]; omega
      · skip
        refine ⟨_, rfl, _, rfl, _, _, rfl, rfl, ⟨by decide, by decide⟩, _, rfl, _, _, rfl, .inl ⟨_, SqL.of hl6, rfl⟩, _, vs.length, rfl, by omega, by omega, fun D ns hD hnl hgn => ⟨_, rfl, (by show 3 ≤ sizeLine; decide), fun T hTn => ?_⟩⟩
        obtain ⟨kk, hkk⟩ : ∃ kk : Fin 2, Wds[j]'(by omega) = tw kk := by
          have : j = 9 ∨ j = 10 := by omega
          rcases this with rfl | rfl
          · exact ⟨0, rfl⟩
          · exact ⟨1, rfl⟩
        rw [hkk]
        have ED := Ext.lst (xs := ns.map V.str) hD
        have ET := Ext.tup (xs := [V.str (tw kk), .ref D, .ref l]) hTn
        have E := ED.trans ET
        have G := g6'.ext E
        have hDX : D ∉ l :: X := hX6.nin hD
        refine ⟨_, G.sub, q _ (.two kk ns fs) _ ms3 G (E.s _ _ hp6) (by omega) ⟨T, D, l, vs, rfl, upd_same, fun z => hDX (List.mem_cons_of_mem _ z), nlX, ET.s _ _ upd_same, E.s _ _ hl6, TsAt.weak (fun x hx => List.mem_cons_of_mem _ hx) fs (TsAt.same E.s fs hT6)⟩ (by rw [okF]; exact ⟨hgn, by omega, hok5⟩) (by rw [ht]; omega) ?_⟩
        have hsl := shs_slen fs ns (by omega) (goodNames_mem hgn).2
        rw [sh, List.length_append, List.length_append, List.length_append, cp_op, cp_cl]
        have lo : (tw kk).cps.toList.length ≤ 6 := by
          have : ∀ k : Fin 2, (tw k).cps.toList.length ≤ 6 := by decide +kernel
          exact this kk
        show _ + (1 + ((shs fs ns).length + 1)) + _ ≤ _
        omega
  · obtain ⟨j, hj, hjd⟩ : ∃ j, ∃ hj : j = j1, dep = 1 → j < 6 := ⟨j1, rfl, fun z => absurd (by rw [z]; rfl) k1⟩
    subst hj
    have hj11 : j < 11 := by omega
    have hget : Wds[j]? = some (Wds[j]'(by omega)) := List.getElem?_eq_getElem (by omega)
    have hno : ∀ i, i < j → Wds[i]? ≠ some (Wds[j]'(by omega)) := fun i hi z => by
      have nd : Wds.Nodup := by decide +kernel
      rw [List.getElem?_eq_getElem (by omega)] at z
      have := (List.getElem_inj nd).mp (Option.some.inj z)
      omega
    refine ⟨_, rfl, .inl ⟨rfl, _, SqL.of e2⟩, _, rfl, lw, Wds, _, j, rfl, rfl, e2, hget, hno, by decide, .inl ⟨_, _, rfl, rfl, _, rfl, iteD (fun z6 => ?_) (fun z6 => ?_)⟩⟩
    · refine ⟨_, rfl, _, rfl, _, _, rfl, rfl, ⟨by decide, by decide⟩, _, rfl, Nat.zero_le _, fun g4 h4 => .inr ⟨p, g4, ms1, [], rfl, rfl, (same_new h4) _ _ hp2, upd_same, ?_⟩⟩
      have E4 := Ext.lst (xs := []) h4
      refine ⟨_, _, _, X, rfl, ?_, hX2.keep E4.s, fun v fm H' E5 hT hok hht hlen => ?_⟩
      · have hj6 : j = 0 ∨ j = 1 ∨ j = 2 ∨ j = 3 ∨ j = 4 ∨ j = 5 := by omega
        rcases hj6 with rfl | rfl | rfl | rfl | rfl | rfl
        · exact .inl ⟨0, rfl⟩
        · exact .inl ⟨1, rfl⟩
        · exact .inl ⟨2, rfl⟩
        · exact .inl ⟨3, rfl⟩
        · exact .inr (.inl rfl)
        · exact .inr (.inr rfl)
      · have E := E4.trans E5
        exact ⟨_, (G2.ext E).sub, q v fm H' ms1 (G2.ext E) (E.s _ _ hp2) (by omega) hT hok (by omega) (by omega)⟩
    have hd2' : 2 ≤ dep := by
      rcases Nat.lt_or_ge dep 2 with z | z
      · have := hjd (by omega); omega
      · exact z
    have ed : ((dep : Nat) : Int) - 1 = ((dep - 1 : Nat) : Int) := by omega
    refine ⟨_, rfl, .inl ⟨rfl, _, SqL.of e2⟩, _, rfl, lw, Wds, _, j, rfl, rfl, e2, hget, hno, by decide, .inl ⟨_, _, rfl, rfl, _, rfl, iteD (fun z9 => ?_) (fun z9 => ?_)⟩⟩
    · refine ⟨_, rfl, Nat.zero_le _, fun a ha => ?_⟩
      have E4 := Ext.lst (xs := []) ha
      refine ⟨_, rfl, _, rfl, _, _, rfl, rfl, p, dep - 1, ms1, X, (by rw [← ed]; rfl), by omega, by omega, E4.s _ _ hp2, by omega, hpX, hX2.keep E4.s, fun v fm H4 ms2 G4 hp4 hm4 hT hok hht hlen => ⟨one_ok, fun b hb => ⟨(by show 3 ≤ sizeLine; decide), fun T hTn => ?_⟩⟩⟩
      have naX : a ∉ X := hX2.nin ha
      have ea4 : H4 a = some (.lst []) := G4.k _ _ (fun z => naX (by rw [z]; exact hpX)) upd_same
      have E5 := Ext.lst (xs := [v]) hb
      obtain ⟨kk, hkk⟩ : ∃ kk : Fin 3, Wds[j]'(by omega) = ow kk := by
        have : j = 6 ∨ j = 7 ∨ j = 8 := by omega
        rcases this with rfl | rfl | rfl
        · exact ⟨0, rfl⟩
        · exact ⟨1, rfl⟩
        · exact ⟨2, rfl⟩
      rw [hkk]
      have E6 := Ext.tup (xs := [V.str (ow kk), .ref a, .ref b]) hTn
      have E := E5.trans E6
      have G := ((G2.ext E4).trans G4).ext E
      have hX4 := (hX2.keep E4.s).grow G4
      refine ⟨_, G.sub, q _ (.one kk fm) _ ms2 G (E.s _ _ hp4) (by omega) ⟨T, a, b, v, rfl, upd_same, naX, hX4.nin hb, E.s _ _ ea4, E6.s _ _ upd_same, TAt.ext hX4 E.s fm hT⟩ (by rw [okF]; exact hok) (by rw [ht]; omega) ?_⟩
      rw [sh, List.length_append, List.length_append, List.length_append, cp_op, cp_cl]
      have lo : (ow kk).cps.toList.length ≤ 6 := by
        have : ∀ k : Fin 3, (ow k).cps.toList.length ≤ 6 := by decide +kernel
        exact this kk
      show _ + (1 + ((sh fm).length + 1)) + _ ≤ _
      omega
    refine ⟨_, rfl, _, rfl, _, _, rfl, rfl, p, dep - 1, ms1, X, (by rw [← ed]; rfl), by omega, by omega, hp2, by omega, hpX, hX2, fun v0 f0 H4 ms2 G4 hp4 hm4 hT0 hok0 hht0 hlen0 => ⟨one_ok, fun l hl => ?_⟩⟩
    have G5 := G2.trans G4
    have E5 := Ext.lst (xs := [v0]) hl
    have hX4 := hX2.grow G4
    have nlX : l ∉ X := hX4.nin hl
    have nlp2 : l ≠ p := fun z => nlX (by rw [z]; exact hpX)
    have hl0 : H l = none := G5.free hl
    have nll : lw ≠ l := fun z => by
      have := G4.k _ _ nlp e2
      rw [z, hl] at this; cases this
    obtain ⟨x4, hx4, ex4'⟩ := mod_nat (c / 66) 4 (by decide)
    have ex4 : c / 66 % 4 = ((x4 : Nat) : Int) := ex4'
    refine ⟨fun m σ H5 => ∃ (fs : List Fm) (vs : List V) (ms3 : List Int), m = 4 - fs.length ∧ σ = [some (.ref p), some (.int ((dep : Nat) : Int)), some (.ref lw), some (.int c), some (.str (Wds[j]'(by omega))), some (.ref l)] ∧ Grow p H H5 ∧ H5 p = some (.lst (ms3.map V.int)) ∧ ms3.length ≤ ms1.length ∧ H5 l = some (.lst vs) ∧ TsAt (l :: X) H5 fs vs ∧ Lists (l :: X) H5 ∧ okFs fs ∧ hts fs ≤ dep - 1 ∧ 1 ≤ fs.length ∧ fs.length ≤ 4 ∧ slen fs + 680 * ms3.length ≤ 185 * fs.length + 680 * ms1.length, ⟨3, [f0], [v0], ms2, rfl, rfl, G5.ext E5, E5.s _ _ hp4, hm4, upd_same, ⟨v0, [], rfl, ?_, rfl⟩, ?_, okFs_snoc (fs := []) hok0 (by rw [okFs]; trivial), hts_snoc (fs := []) (by omega) (by rw [hts]; exact Nat.zero_le _), Nat.le_refl _, (by show 1 ≤ 4; decide), ?_⟩, ?_⟩
    · exact TAt.same E5.s f0 (TAt.add hl f0 hT0)
    · intro x hx
      rcases List.mem_cons.mp hx with z | z
      · rw [z]; exact ⟨_, upd_same⟩
      · exact (hX4.keep E5.s) x z
    · show (sh f0).length + 15 + 0 + 680 * ms2.length ≤ 185 * 1 + 680 * ms1.length
      omega
    rintro m σ H5 ⟨fs, vs, ms3, rfl, rfl, g5, hp5, hm5, hl5, hT5, hX5, hok5, hht5, hf1, hf4, hlen5⟩
    have hvl := TsAt.len fs hT5
    refine ⟨_, rfl, Nat.zero_le _, fun g6 h6 => .inr ⟨p, g6, ms3, [], rfl, rfl, (same_new h6) _ _ hp5, upd_same, _, rfl, ?_⟩⟩
    have E6 := Ext.lst (xs := []) h6
    have g6' := g5.ext E6
    have hp6 := E6.s _ _ hp5
    have hl6 := E6.s _ _ hl5
    have hT6 := TsAt.same E6.s fs hT5
    have hX6 := hX5.keep E6.s
    generalize upd H5 g6 (.lst []) = H6 at g6' hp6 hl6 hT6 hX6 ⊢
    by_cases hm3 : ms3 = []
    · refine iteNS hm3 ?_
      refine ⟨_, rfl, _, rfl, _, _, rfl, rfl, ⟨by decide, by decide⟩, _, rfl, _, _, rfl, .inl ⟨_, SqL.of hl6, rfl⟩, _, vs.length, rfl, by omega, by omega, fun D ns hD hnl hgn => ⟨_, rfl, (by show 3 ≤ sizeLine; decide), fun T hTn => ?_⟩⟩
      obtain ⟨kk, hkk⟩ : ∃ kk : Fin 2, Wds[j]'(by omega) = tw kk := by
        have : j = 9 ∨ j = 10 := by omega
        rcases this with rfl | rfl
        · exact ⟨0, rfl⟩
        · exact ⟨1, rfl⟩
      rw [hkk]
      have ED := Ext.lst (xs := ns.map V.str) hD
      have ET := Ext.tup (xs := [V.str (tw kk), .ref D, .ref l]) hTn
      have E := ED.trans ET
      have G := g6'.ext E
      have hDX : D ∉ l :: X := hX6.nin hD
      refine ⟨_, G.sub, q _ (.two kk ns fs) _ ms3 G (E.s _ _ hp6) (by omega) ⟨T, D, l, vs, rfl, upd_same, fun z => hDX (List.mem_cons_of_mem _ z), nlX, ET.s _ _ upd_same, E.s _ _ hl6, TsAt.weak (fun x hx => List.mem_cons_of_mem _ hx) fs (TsAt.same E.s fs hT6)⟩ (by rw [okF]; exact ⟨hgn, by omega, hok5⟩) (by rw [ht]; omega) ?_⟩
      have hsl := shs_slen fs ns (by omega) (goodNames_mem hgn).2
      rw [sh, List.length_append, List.length_append, List.length_append, cp_op, cp_cl]
      have lo : (tw kk).cps.toList.length ≤ 6 := by
        have : ∀ k : Fin 2, (tw k).cps.toList.length ≤ 6 := by decide +kernel
        exact this kk
      show _ + (1 + ((shs fs ns).length + 1)) + _ ≤ _
      omega
    refine iteNO hm3 ?_
    refine ⟨_, rfl, _, _, rfl, .inl ⟨_, SqL.of hl6, rfl⟩, _, rfl, _, _, rfl, rfl, ⟨by decide, by decide⟩, _, _, rfl, rfl, (by show (0 : Int) < 4; decide), .inl (.inl ⟨_, _, rfl, rfl, .inl ⟨_, _, rfl, rfl, _, rfl, iteD (fun zl => ?_) (fun zl => ?_)⟩⟩)⟩
    · rw [ex4] at zl
      have hfl : fs.length < 4 := by omega
      refine ⟨fun σ' H' => ∃ m', m' < 4 - fs.length ∧ ∃ (fs : List Fm) (vs : List V) (ms3 : List Int), m' = 4 - fs.length ∧ σ' = [some (.ref p), some (.int ((dep : Nat) : Int)), some (.ref lw), some (.int c), some (.str (Wds[j]'(by omega))), some (.ref l)] ∧ Grow p H H' ∧ H' p = some (.lst (ms3.map V.int)) ∧ ms3.length ≤ ms1.length ∧ H' l = some (.lst vs) ∧ TsAt (l :: X) H' fs vs ∧ Lists (l :: X) H' ∧ okFs fs ∧ hts fs ≤ dep - 1 ∧ 1 ≤ fs.length ∧ fs.length ≤ 4 ∧ slen fs + 680 * ms3.length ≤ 185 * fs.length + 680 * ms1.length, fun _ _ h => h, ?_⟩
      refine ⟨_, rfl, .inl ⟨rfl, _, SqL.of hl6⟩, _, rfl, _, rfl, _, _, rfl, rfl, p, dep - 1, ms3, l :: X, (by rw [← ed]; rfl), by omega, by omega, hp6, by omega, List.mem_cons_of_mem _ hpX, hX6, fun v7 f7 H7 ms7 G7 hp7 hm7 hT7 hok7 hht7 hlen7 => ?_⟩
      have hl7 := G7.k _ _ nlp2 hl6
      have hX7 := hX6.grow G7
      refine ⟨l, _, _, rfl, rfl, hl7, (by rw [hvl]; exact Nat.lt_of_lt_of_le (show fs.length < 100000 by omega) (by decide)), ?_⟩
      have k7 : ∀ b u, b ∉ l :: X → H7 b = some u → upd H7 l (.lst (vs ++ [v7])) b = some u := fun b u nb e => by rw [upd_ne (fun z => nb (by rw [z]; exact List.mem_cons_self ..))]; exact e
      have k6 : ∀ b u, b ∉ l :: X → H6 b = some u → upd H7 l (.lst (vs ++ [v7])) b = some u := fun b u nb e => k7 b u nb (G7.k b u (fun z => nb (by rw [z]; exact List.mem_cons_of_mem _ hpX)) e)
      refine ⟨4 - (fs ++ [f7]).length, by rw [List.length_append, List.length_singleton]; omega, fs ++ [f7], vs ++ [v7], ms7, rfl, rfl, (g6'.trans G7).set hl0 hl7 nlp2, by rw [upd_ne (Ne.symm nlp2)]; exact hp7, by omega, upd_same, TsAt.snoc (TAt.keep hX7 k7 f7 hT7) fs (TsAt.keep hX6 k6 fs hT6), ?_, okFs_snoc hok7 hok5, hts_snoc hht7 hht5, by rw [List.length_append]; omega, by rw [List.length_append, List.length_singleton]; omega, ?_⟩
      · intro x hx
        by_cases z : x = l
        · rw [z]; exact ⟨_, upd_same⟩
        · obtain ⟨y, hy⟩ := hX7 x hx
          exact ⟨y, by rw [upd_ne z]; exact hy⟩
      · rw [slen_snoc, List.length_append, List.length_singleton]; omega
    · skip
      refine ⟨_, rfl, _, rfl, _, _, rfl, rfl, ⟨by decide, by decide⟩, _, rfl, _, _, rfl, .inl ⟨_, SqL.of hl6, rfl⟩, _, vs.length, rfl, by omega, by omega, fun D ns hD hnl hgn => ⟨_, rfl, (by show 3 ≤ sizeLine; decide), fun T hTn => ?_⟩⟩
      obtain ⟨kk, hkk⟩ : ∃ kk : Fin 2, Wds[j]'(by omega) = tw kk := by
        have : j = 9 ∨ j = 10 := by omega
        rcases this with rfl | rfl
        · exact ⟨0, rfl⟩
        · exact ⟨1, rfl⟩
      rw [hkk]
      have ED := Ext.lst (xs := ns.map V.str) hD
      have ET := Ext.tup (xs := [V.str (tw kk), .ref D, .ref l]) hTn
      have E := ED.trans ET
      have G := g6'.ext E
      have hDX : D ∉ l :: X := hX6.nin hD
      refine ⟨_, G.sub, q _ (.two kk ns fs) _ ms3 G (E.s _ _ hp6) (by omega) ⟨T, D, l, vs, rfl, upd_same, fun z => hDX (List.mem_cons_of_mem _ z), nlX, ET.s _ _ upd_same, E.s _ _ hl6, TsAt.weak (fun x hx => List.mem_cons_of_mem _ hx) fs (TsAt.same E.s fs hT6)⟩ (by rw [okF]; exact ⟨hgn, by omega, hok5⟩) (by rw [ht]; omega) ?_⟩
      have hsl := shs_slen fs ns (by omega) (goodNames_mem hgn).2
      rw [sh, List.length_append, List.length_append, List.length_append, cp_op, cp_cl]
      have lo : (tw kk).cps.toList.length ≤ 6 := by
        have : ∀ k : Fin 2, (tw k).cps.toList.length ≤ 6 := by decide +kernel
        exact this kk
      show _ + (1 + ((shs fs ns).length + 1)) + _ ≤ _
      omega

/-! ### trees as texts -/
def spTxt (n : Nat) : Sp := fun vs H Q _ => ∃ (v : V) (f : Fm), vs = [v] ∧ TAt [] H f v ∧ okF f ∧ ht f ≤ n ∧ (sh f).length ≤ 90000 ∧ Q (.str ⟨(sh f).toArray⟩) H
theorem TsAt.get {X : List Addr} {H : Hp} : ∀ (fs : List Fm) {vs : List V} {i : Nat} {v : V}, TsAt X H fs vs → vs[i]? = some v → ∃ f, fs[i]? = some f ∧ TAt X H f v
  | [], vs, i, v, h, e => by
    obtain rfl : vs = [] := h
    cases e
  | f :: fs, vs, 0, v, h, e => by
    obtain ⟨o', r, rfl, q, q2⟩ := h
    cases e
    exact ⟨f, rfl, q⟩
  | f :: fs, vs, i + 1, v, h, e => by
    obtain ⟨o', r, rfl, q, q2⟩ := h
    exact TsAt.get fs q2 e
set_option maxHeartbeats 4000000 in
theorem step_law_text {f : Addr} {fd : FuncData} {n : Nat} (nb : NB mg) (F : FunAt K mg "_law_text" s_law_text ["_law_tree_here"] f fd) (D_law_text : DefOk P w K mg base (n + 1) "_law_text" ["_law_tree_here"] (spTxt n)) : DefOk P w K mg base (n + 1 + 1) "_law_text" ["_law_tree_here"] (spTxt (n + 1)) := by
  refine F.ok sc_law_text (fun vs H Q E h => ?_) (fun cdv A outer s H vs Q E hr h => ?_)
  · obtain ⟨_, _, rfl, _⟩ := h; rfl
  obtain ⟨v, fm, rfl, hT, hok, hht, hlen, q⟩ := h
  refine ⟨_, (pss_cons (ps_asg (pv 0) (pg_tup rfl (pgs_cons (pg_name (i := 1) sc_law_text.nd rfl (by first | exact Or.inl rfl | exact Or.inr rfl)) (pgs_cons (pg_name (i := 2) sc_law_text.nd rfl (by first | exact Or.inl rfl | exact Or.inr rfl)) (pgs_cons (pg_name (i := 3) sc_law_text.nd rfl (by first | exact Or.inl rfl | exact Or.inr rfl)) pgs_nil)))))
    (pss_cons (ps_if (pt_cmpR (oEqN (room64 hr)) (pv 1) pe_str (nomark _)) (pss_one (ps_ret (pe_op oAdd (pe_op oAdd (pe_op oAdd (pe_op oAdd pe_str (pe_callTy call_str_int rfl nb.str_ bo_str (pa_cons (pe_ix iAll (pv 2) pe_int (fun _ _ => rfl)) pa_nil))) pe_str) (pe_callTy call_str_int rfl nb.str_ bo_str (pa_cons (pe_ix iAll (pv 2) pe_int (fun _ _ => rfl)) pa_nil))) pe_str))) pss_nil)
    (pss_cons (ps_if (pt_cmpR (oEqN (room64 hr)) (pv 1) pe_str (nomark _)) (pss_one (ps_ret (pe_op oAdd (pe_op oAdd pe_str (pv 2)) pe_str))) pss_nil)
    (pss_cons (ps_if (pt_cmpR (oEqN (room64 hr)) (pv 3) (pe_lst pa_nil) (nomark _)) (pss_one (ps_ret (pv 1))) pss_nil)
    (pss_cons (ps_if (pt_cmpR (oEqN (room64 hr)) (pv 2) (pe_lst pa_nil) (nomark _)) (pss_one (ps_ret (pe_op oAdd (pe_op oAdd (pe_op oAdd (pv 1) pe_str) (pe_callD D_law_text hr (pa_cons (pe_ix iAll (pv 3) pe_int (fun _ _ => rfl)) pa_nil) (hk := by omega))) pe_str))) pss_nil)
    (pss_cons (ps_setComp (i := 4)  ["_law_name", "_law_one"] [] sc_law_text.nd rfl rfl rfl (by decide +kernel) trivial (pi_zip rfl nb.zip_ (pa_cons (pv 2) (pa_cons (pv 3) pa_nil))) (fun _ _ _ _ _ => (pg_tup rfl (pgs_cons (pg_name (i := 0) (show (["_law_name", "_law_one"] : List Str).Nodup by decide +kernel) rfl (by first | exact Or.inl rfl | exact Or.inr rfl)) (pgs_cons (pg_name (i := 1) (show (["_law_name", "_law_one"] : List Str).Nodup by decide +kernel) rfl (by first | exact Or.inl rfl | exact Or.inr rfl)) pgs_nil)))) (fun _ _ _ _ _ => pts_nil) (fun _ _ _ _ _ => (pe_op oAdd (pe_op oAdd (pv 0) pe_str) (pe_callD D_law_text hr (pa_cons (pv 1) pa_nil) (hk := by omega)))))
    (pss_one (ps_ret (pe_op oAdd (pe_op oAdd (pe_op oAdd (pv 1) pe_str) (pe_bm PySem.F.plainAttrs_str PySem.F.slot_str_join PySem.F.type_str_join mt_join pe_str (pa_cons (pv 4) pa_nil))) pe_str))))))))), ?_⟩
  have l2 : (Str.ofString ", ").length = 2 := by decide +kernel
  have l3 : (Str.ofString ")").length = 1 := by decide +kernel
  have l4 : (Str.ofString "(").length = 1 := by decide +kernel
  cases fm with
  | bare k =>
    obtain ⟨T, a, b, rfl, eT, _, _, ea, eb⟩ := hT
    have n1 : ∀ k : Fin 4, ¬ V.str (bw k) = V.str (Str.ofString "span") := by decide +kernel
    have n2 : ∀ k : Fin 4, ¬ V.str (bw k) = V.str (Str.ofString "letters") := by decide +kernel
    refine ⟨_, rfl, T, _, rfl, SqT.of eT, rfl, _, _, rfl, _, _, rfl, _, _, rfl, rfl, ?_⟩
    refine ⟨_, rfl, .inl (.inl ⟨rfl, _, rfl, iteN (n1 k) ⟨_, rfl, .inl (.inl ⟨rfl, _, rfl, iteN (n2 k) ?_⟩)⟩⟩)⟩
    refine ⟨_, rfl, Nat.zero_le _, fun g hg => .inr ⟨b, g, _, rfl, rfl, (same_new hg) _ _ eb, upd_same, _, rfl, iteY rfl ⟨_, rfl, H, .refl (same_new hg), ?_⟩⟩⟩
    have e : (⟨(sh (.bare k)).toArray⟩ : Str) = bw k := by rw [sh]
    rw [e] at q; exact q
  | sp lo hi =>
    obtain ⟨T, a, b, rfl, eT, _, _, ea, eb⟩ := hT
    rw [okF] at hok
    obtain ⟨_, hlo, hhi⟩ := hok
    have ha' : lo.natAbs < 10 ^ 60 := Nat.lt_trans hlo (by decide +kernel)
    have hb' : hi.natAbs < 10 ^ 60 := Nat.lt_trans hhi (by decide +kernel)
    have la := len_toString (by decide) ha'
    have lb := len_toString (by decide) hb'
    have l1 : (Str.ofString "span(").length = 5 := by decide +kernel
    have a0 : atI [V.int lo, V.int hi] 0 = some (.int lo) := atI_nat (j := 0) rfl
    have a1 : atI [V.int lo, V.int hi] 1 = some (.int hi) := atI_nat (j := 1) rfl
    refine ⟨_, rfl, T, _, rfl, SqT.of eT, rfl, _, _, rfl, _, _, rfl, _, _, rfl, rfl, ?_⟩
    refine ⟨_, rfl, .inl (.inl ⟨rfl, _, rfl, iteY rfl ?_⟩)⟩
    refine ⟨_, rfl, .inl (.inl ⟨_, _, _, _, rfl, rfl, SqL.of ea, a0, _, rfl, log_small ha', .inr ⟨_, _, rfl, rfl, small5 (by omega), ?_⟩⟩)⟩
    refine .inr ⟨_, _, rfl, rfl, small5 (by rw [app_len]; omega), ?_⟩
    refine ⟨_, rfl, .inl (.inl ⟨_, _, _, _, rfl, rfl, SqL.of ea, a1, _, rfl, log_small hb', .inr ⟨_, _, rfl, rfl, small5 (by rw [app_len, app_len]; omega), ?_⟩⟩)⟩
    refine .inr ⟨_, _, rfl, rfl, small5 (by rw [app_len, app_len, app_len]; omega), H, .refl (Same.refl _), ?_⟩
    rw [← str_of (l := sh (.sp lo hi)) ?_] at q
    · exact q
    · rw [app_cps, app_cps, app_cps, app_cps, sh_words.2.2.2.2.2.1, sh]
      show (((cp "span" ++ cp "(") ++ num lo) ++ cp ", ") ++ num hi ++ cp ")" = _
      simp only [List.append_assoc]
  | le sg =>
    obtain ⟨T, b, rfl, eT, _, eb⟩ := hT
    rw [okF] at hok
    have l1 : (Str.ofString "letters(").length = 8 := by decide +kernel
    refine ⟨_, rfl, T, _, rfl, SqT.of eT, rfl, _, _, rfl, _, _, rfl, _, _, rfl, rfl, ?_⟩
    refine ⟨_, rfl, .inl (.inl ⟨rfl, _, rfl, iteN (by decide +kernel) ⟨_, rfl, .inl (.inl ⟨rfl, _, rfl, iteY rfl ?_⟩)⟩⟩)⟩
    refine ⟨_, rfl, .inr ⟨_, _, rfl, rfl, small5 (by omega), .inr ⟨_, _, rfl, rfl, small5 (by rw [app_len]; omega), H, .refl (Same.refl _), ?_⟩⟩⟩
    rw [← str_of (l := sh (.le sg)) ?_] at q
    · exact q
    · rw [app_cps, app_cps, sh_words.2.2.2.2.2.2, sh]
      show ((cp "letters" ++ cp "(") ++ sg.cps.toList) ++ cp ")" = _
      simp only [List.append_assoc]
  | one k fi =>
    obtain ⟨T, a, b, v', rfl, eT, _, _, ea, eb, hI⟩ := hT
    have hok2 : okF fi := by rw [okF] at hok; exact hok
    have hht2 : ht fi ≤ n := by rw [ht] at hht; omega
    have esh : sh (.one k fi) = (ow k).cps.toList ++ (cp "(" ++ (sh fi ++ cp ")")) := by rw [sh]
    have hlen2 : (sh fi).length ≤ 90000 := by rw [esh, List.length_append, List.length_append, List.length_append] at hlen; omega
    have n1 : ∀ k : Fin 3, ¬ V.str (ow k) = V.str (Str.ofString "span") := by decide +kernel
    have n2 : ∀ k : Fin 3, ¬ V.str (ow k) = V.str (Str.ofString "letters") := by decide +kernel
    have lo : ∀ k : Fin 3, (ow k).length ≤ 6 := by decide +kernel
    have lk := lo k
    have lg := mk_len (sh fi)
    refine ⟨_, rfl, T, _, rfl, SqT.of eT, rfl, _, _, rfl, _, _, rfl, _, _, rfl, rfl, ?_⟩
    refine ⟨_, rfl, .inl (.inl ⟨rfl, _, rfl, iteN (n1 k) ⟨_, rfl, .inl (.inl ⟨rfl, _, rfl, iteN (n2 k) ?_⟩)⟩⟩)⟩
    refine ⟨_, rfl, Nat.zero_le _, fun g hg => .inr ⟨b, g, _, rfl, rfl, (same_new hg) _ _ eb, upd_same, _, rfl, iteN (by show ¬ 1 = 0; decide) ?_⟩⟩
    have s1 := same_new (o := HO.lst []) hg
    refine ⟨_, rfl, Nat.zero_le _, fun g2 hg2 => .inr ⟨a, g2, _, rfl, rfl, (same_new hg2) _ _ (s1 _ _ ea), upd_same, _, rfl, iteY rfl ?_⟩⟩
    have s2 := s1.trans (same_new (o := HO.lst []) hg2)
    refine ⟨_, rfl, .inr ⟨_, _, rfl, rfl, small5 (by omega), ?_⟩⟩
    refine ⟨_, rfl, .inl (.inl ⟨_, _, _, _, rfl, rfl, SqL.of (s2 _ _ eb), atI_nat (j := 0) rfl, v', fi, rfl, TAt.same s2 fi hI, hok2, hht2, hlen2, .inr ⟨_, _, rfl, rfl, small5 (by rw [app_len]; omega), ?_⟩⟩)⟩
    refine .inr ⟨_, _, rfl, rfl, small5 (by rw [app_len, app_len]; omega), H, .refl s2, ?_⟩
    rw [← str_of (l := sh (.one k fi)) ?_] at q
    · exact q
    · rw [app_cps, app_cps, app_cps, esh, mk_cps]
      show (((ow k).cps.toList ++ cp "(") ++ sh fi) ++ cp ")" = _
      simp only [List.append_assoc]
  | two k ns fs =>
    obtain ⟨T, a, b, vs, rfl, eT, _, _, ea, eb, hI⟩ := hT
    rw [okF] at hok
    obtain ⟨hgn, hnl, hok2⟩ := hok
    have hgm := goodNames_mem hgn
    have hvl := TsAt.len fs hI
    have hne : 0 < ns.length := by
      rcases Nat.eq_zero_or_pos ns.length with z | z
      · rw [List.length_eq_zero_iff.mp z] at hgn; cases hgn
      · exact z
    have hht2 : hts fs ≤ n := by rw [ht] at hht; omega
    have esh : sh (.two k ns fs) = (tw k).cps.toList ++ (cp "(" ++ (shs fs ns ++ cp ")")) := by rw [sh]
    have hlen2 : (shs fs ns).length ≤ 90000 := by rw [esh, List.length_append, List.length_append, List.length_append] at hlen; omega
    have n1 : ∀ k : Fin 2, ¬ V.str (tw k) = V.str (Str.ofString "span") := by decide +kernel
    have n2 : ∀ k : Fin 2, ¬ V.str (tw k) = V.str (Str.ofString "letters") := by decide +kernel
    have lo : ∀ k : Fin 2, (tw k).length ≤ 6 := by decide +kernel
    have lk := lo k
    have lg := mk_len (shs fs ns)
    refine ⟨_, rfl, T, _, rfl, SqT.of eT, rfl, _, _, rfl, _, _, rfl, _, _, rfl, rfl, ?_⟩
    refine ⟨_, rfl, .inl (.inl ⟨rfl, _, rfl, iteN (n1 k) ⟨_, rfl, .inl (.inl ⟨rfl, _, rfl, iteN (n2 k) ?_⟩)⟩⟩)⟩
    refine ⟨_, rfl, Nat.zero_le _, fun g hg => .inr ⟨b, g, _, rfl, rfl, (same_new hg) _ _ eb, upd_same, _, rfl, iteN (by omega) ?_⟩⟩
    have s1 := same_new (o := HO.lst []) hg
    refine ⟨_, rfl, Nat.zero_le _, fun g2 hg2 => .inr ⟨a, g2, _, rfl, rfl, (same_new hg2) _ _ (s1 _ _ ea), upd_same, _, rfl, iteN (by rw [List.length_map]; omega) ?_⟩⟩
    have s2 := s1.trans (same_new (o := HO.lst []) hg2)
    generalize upd (upd H g (.lst [])) g2 (.lst []) = H2 at s2 ⊢
    have l1 : (Str.ofString " ").length = 1 := by decide +kernel
    refine ⟨_, rfl, _, rfl, a, b, _, _, rfl, SqL.of (s2 _ _ ea), SqL.of (s2 _ _ eb), fun D hD => ?_⟩
    refine comp_zip (fun i => V.str ((List.zipWith prt31 fs ns).getD i Str.empty)) (fun σ => ∃ z1 z2, σ = [z1, z2]) (by rw [List.length_map]; omega) ⟨_, _, rfl⟩ hD (SqL.of (s2 _ _ ea)) (SqL.of (s2 _ _ eb)) ?_ ?_
    · rintro i x y hx hy σ1 H1 T' ⟨z1, z2, rfl⟩ hs1 hT' R hR
      rw [List.getElem?_map] at hx
      obtain ⟨nm, hnm, rfl⟩ := Option.map_eq_some_iff.mp hx
      obtain ⟨fm, hfm, hFm⟩ := TsAt.get fs hI hy
      obtain ⟨hok3, hht3⟩ := okFs_get hok2 hfm
      have hpl := shs_part fs ns hnl i fm nm hfm hnm
      have e : (List.zipWith prt31 fs ns).getD i Str.empty = prt31 fm nm := by rw [List.getD_eq_getElem?_getD, List.getElem?_zipWith, hfm, hnm]; rfl
      rw [e] at hR
      have sT := (s2.trans hs1).trans (same_new (o := HO.tup [V.str nm, y]) hT')
      have lgf := mk_len (sh fm)
      refine ⟨T', _, rfl, SqT.of upd_same, rfl, _, _, rfl, _, _, rfl, rfl, ?_⟩
      refine ⟨_, rfl, .inr ⟨_, _, rfl, rfl, small5 (by omega), ?_⟩⟩
      refine ⟨_, rfl, y, fm, rfl, TAt.same sT fm hFm, hok3, by omega, by omega, .inr ⟨_, _, rfl, rfl, small5 (by rw [app_len]; omega), ?_⟩⟩
      exact hR _ _ ⟨_, _, rfl⟩ (Same.refl _)
    · intro H' hs' hD'
      have hzl : (List.zipWith prt31 fs ns).length = fs.length := by rw [List.length_zipWith, hnl, Nat.min_self]
      have e : (List.range (min (ns.map V.str).length vs.length)).map (fun i => V.str ((List.zipWith prt31 fs ns).getD i Str.empty)) = (List.zipWith prt31 fs ns).map V.str := by
        have := names_range (List.zipWith prt31 fs ns)
        rw [hzl] at this
        rw [List.length_map, hnl, hvl, Nat.min_self]
        exact this
      rw [e] at hD'
      have hB : ∀ y ∈ List.zipWith prt31 fs ns, y.length ≤ 90000 := fun y hy => by
        obtain ⟨i, hi, rfl⟩ := List.mem_iff_getElem.mp hy
        rw [hzl] at hi
        rw [List.getElem_zipWith]
        have hpl := shs_part fs ns hnl i fs[i] (ns[i]'(by omega)) (List.getElem?_eq_getElem hi) (List.getElem?_eq_getElem (by omega))
        unfold prt31
        have lg := mk_len (sh fs[i])
        rw [app_len, app_len, l1]
        omega
      have hsum := StrLaws.sumLen_le _ hB
      rw [hzl] at hsum
      have ej : Txt.join (Str.ofString ", ") (List.zipWith prt31 fs ns) = ⟨(shs fs ns).toArray⟩ := by
        refine str_of ?_
        show (Builtin.Str.glued (Str.ofString ", ") (List.zipWith prt31 fs ns)).cps.toList = _
        rw [StrLaws.glued_eq_join]
        exact join_shs fs ns hnl
      refine ⟨_, rfl, .inr ⟨_, _, rfl, rfl, small5 (by omega), ?_⟩⟩
      refine ⟨rfl, _, rfl, _, D, _, rfl, rfl, SqL.of hD', (by have := hgm.1; rw [hzl, l2]; omega), ?_⟩
      rw [ej]
      refine .inr ⟨_, _, rfl, rfl, small5 (by rw [app_len]; omega), .inr ⟨_, _, rfl, rfl, small5 (by rw [app_len, app_len]; omega), H, .refl (s2.trans hs'), ?_⟩⟩
      rw [← str_of (l := sh (.two k ns fs)) ?_] at q
      · exact q
      · rw [app_cps, app_cps, app_cps, esh, mk_cps]
        show (((tw k).cps.toList ++ cp "(") ++ shs fs ns) ++ cp ")" = _
        simp only [List.append_assoc]

def spDrawn31 (K : PySem.W.Frag) : Sp := fun vs H Q _ => ∃ (a : Addr) (ns : List Int) (sl : Nat), vs = [.ref a, .int ((sl : Nat) : Int)] ∧ SqL K H a (ns.map V.int) ∧ ns.length ≤ 63 ∧ (sl = 1000 ∨ sl = 2000) ∧ ∀ (v : V) (f : Fm) (H' : Hp), Ext H H' → TAt [] H' f v → okF f → ht f ≤ 8 → (sh f).length ≤ 90000 → Q v H'
theorem Ext.growOf {p : Addr} {H H' : Hp} {o : HO} (hp : H p = none) (ho : OwnIn (upd H p o) p o) (g : Grow p (upd H p o) H') : Ext H H' :=
  ⟨fun b u e => g.k b u (ne_of_none e hp) ((same_new hp) b u e), fun c => g.c (closed_new c hp ho)⟩
set_option maxHeartbeats 4000000 in
theorem ok_law_drawn31 {f : Addr} {fd : FuncData} (nb : NB mg) (F : FunAt K mg "_law_drawn" s_law_drawn ["_law_script", "_law_salt"] f fd) (D_law_cell_at : DefOk P w K mg base 1 "_law_cell_at" ["_law_script", "_law_k"] (spCellAt K)) (D_law_mixed : DefOk P w K mg base 1 "_law_mixed" ["_law_cell", "_law_k"] spMixed) (D_law_numbers_of : DefOk P w K mg base 2 "_law_numbers_of" ["_law_script", "_law_many", "_law_salt"] (spNumbers K)) (D_law_tree : DefOk P w K mg base 10 "_law_tree" ["_law_left", "_law_deep"] (spTree 8)) : DefOk P w K mg base 11 "_law_drawn" ["_law_script", "_law_salt"] (spDrawn31 K) := by
  refine F.ok sc_law_drawn (fun vs H Q E h => ?_) (fun cdv A outer s H vs Q E hr h => ?_)
  · obtain ⟨_, _, _, rfl, _⟩ := h; rfl
  obtain ⟨a, ns, sl, rfl, hS, hl, hsl, q⟩ := h
  refine ⟨_, (pss_cons (ps_set (i := 2) sc_law_drawn.nd rfl (by first | exact Or.inl rfl | exact Or.inr rfl) (pe_callD D_law_mixed hr (pa_cons (pe_callD D_law_cell_at hr (pa_cons (pv 0) (pa_cons pe_int pa_nil))) (pa_cons (pv 1) pa_nil))))
    (pss_cons (ps_if (pt_cmpR oEq (pe_op op_mod (pe_callD D_law_cell_at hr (pa_cons (pv 0) (pa_cons pe_int pa_nil))) pe_int) pe_int (nomark _)) (pss_one (ps_set (i := 2) sc_law_drawn.nd rfl (by first | exact Or.inl rfl | exact Or.inr rfl) (pe_op op_fdiv (pe_callD D_law_cell_at hr (pa_cons (pv 0) (pa_cons pe_int pa_nil))) pe_int))) pss_nil)
    (pss_cons (ps_set (i := 3) sc_law_drawn.nd rfl (by first | exact Or.inl rfl | exact Or.inr rfl) (pe_callD D_law_numbers_of hr (pa_cons (pv 0) (pa_cons (pe_op oAdd pe_int (pe_op op_mod (pv 2) pe_int)) (pa_cons (pv 1) pa_nil)))))
    (pss_cons (ps_set (i := 4) sc_law_drawn.nd rfl (by first | exact Or.inl rfl | exact Or.inr rfl) pe_int)
    (pss_cons (ps_if (pt_cmpR oEq (pe_op op_mod (pe_op op_fdiv (pv 2) pe_int) pe_int) pe_int (nomark _)) (pss_one (ps_set (i := 4) sc_law_drawn.nd rfl (by first | exact Or.inl rfl | exact Or.inr rfl) (pe_op op_mod (pe_op op_fdiv (pv 2) pe_int) pe_int))) pss_nil)
    (pss_cons (ps_set (i := 5) sc_law_drawn.nd rfl (by first | exact Or.inl rfl | exact Or.inr rfl) (pe_callD D_law_tree hr (pa_cons (pv 3) (pa_cons (pe_op oSub pe_int (pv 4)) pa_nil))))
    (pss_cons (ps_for PassesOwn.never rfl (pi_range1 rfl nb.range_ (pa_cons (pv 4) pa_nil)) (pg_name (i := 6) sc_law_drawn.nd rfl (by first | exact Or.inl rfl | exact Or.inr rfl))
      (pss_one (ps_set (i := 5) sc_law_drawn.nd rfl (by first | exact Or.inl rfl | exact Or.inr rfl) (pe_tup (pa_cons (pe_ix iAll (pe_lst (pa_cons pe_str (pa_cons pe_str (pa_cons pe_str pa_nil)))) (pe_op op_mod (pe_op op_fdiv (pv 2) (pe_op oAdd (pv 6) pe_int)) pe_int) (fun _ _ => rfl)) (pa_cons (pe_lst pa_nil) (pa_cons (pe_lst (pa_cons (pv 5) pa_nil)) pa_nil)))))))
    (pss_one (ps_ret (pv 5)))))))))), ?_⟩
  refine ⟨_, rfl, a, ns, 0, rfl, hS, hl, _, rfl, _, _, rfl, fun nu hnu1 hnu2 => ?_⟩
  refine ⟨_, rfl, a, ns, 0, rfl, hS, hl, _, _, rfl, rfl, (by show (0 : Int) < 2; decide), rfl, _, rfl, iteD (fun k1 => ?_) (fun k1 => ?_)⟩
  · refine ⟨_, rfl, a, ns, 0, rfl, hS, hl, _, _, rfl, rfl, ⟨by decide, by decide⟩, ?_⟩
    dsimp only
    clear hnu1 hnu2
    generalize ns.getD 0 0 / 2 = nu
    obtain ⟨x8, hx8, ex8'⟩ := mod_nat nu 8 (by decide)
    have ex8 : nu % 8 = ((x8 : Nat) : Int) := ex8'
    refine ⟨_, rfl, _, rfl, _, _, rfl, rfl, (by show (0 : Int) < 8; decide), .inl ⟨_, _, rfl, rfl, _, rfl, a, ns, x8 + 1, sl, (by rw [ex8]; show [V.ref a, V.int (1 + ((x8 : Nat) : Int)), V.int ((sl : Nat) : Int)] = _; rw [show (1 : Int) + ((x8 : Nat) : Int) = ((x8 + 1 : Nat) : Int) by omega]), hS, hl, by omega, by omega, hsl, fun D ms hD hms => ?_⟩⟩
    have hD1 : upd H D (.lst (ms.map V.int)) D = some (.lst (ms.map V.int)) := upd_same
    refine ⟨_, rfl, _, _, rfl, rfl, ⟨by decide, by decide⟩, _, _, rfl, rfl, (by show (0 : Int) < 4; decide), rfl, _, rfl, iteD (fun k3 => ?_) (fun k3 => ?_)⟩
    · obtain ⟨wr, hwr, ewr'⟩ := mod_nat (nu / 32) 8 (by decide)
      have ewr : nu / 32 % 8 = ((wr : Nat) : Int) := ewr'
      refine ⟨_, rfl, _, _, rfl, rfl, ⟨by decide, by decide⟩, _, _, rfl, rfl, (by show (0 : Int) < 8; decide), ?_⟩
      dsimp only
      rw [ewr]
      have e8 : (8 : Int) - ((wr : Nat) : Int) = ((8 - wr : Nat) : Int) := by omega
      refine ⟨_, rfl, _, rfl, _, _, rfl, rfl, D, 8 - wr, ms, [D], (by rw [← e8]; rfl), by omega, by omega, hD1, by omega, List.mem_singleton.mpr rfl, (fun x hx => by rw [List.mem_singleton.mp hx]; exact ⟨_, hD1⟩), fun v0 f0 H4 ms4 G4 hp4 hm4 hT4 hok4 hht4 hlen4 => ?_⟩
      have E4 : Ext H H4 := Ext.growOf (o := .lst (ms.map V.int)) hD trivial G4
      have hT40 := TAt.weak (X := []) (fun x (hx : x ∈ []) => by cases hx) f0 hT4
      refine ⟨_, rfl, _, rfl, by omega, by omega, ?_⟩
      have en : (((wr : Nat) : Int)).toNat = wr := by omega
      rw [en]
      refine for_range (fun i σ H5 => Ext H H5 ∧ ∃ (v : V) (fm : Fm) (z1 z2 : Option V), σ = [some (.ref a), some (.int ((sl : Nat) : Int)), some (.int nu), z1, some (.int ((wr : Nat) : Int)), some v, z2] ∧ TAt [] H5 fm v ∧ okF fm ∧ ht fm ≤ 8 - wr + i ∧ (sh fm).length ≤ 8000 + 10 * i) ?_ ?_ ?_
      · exact ⟨E4, v0, f0, _, none, rfl, hT40, hok4, hht4, by omega⟩
      · rintro i σ H5 hi ⟨E5, v, fm, z1, z2, rfl, hT5, hok5, hht5, hlen5⟩
        obtain ⟨x, hx, hx1⟩ := atI_modG V.str [ow 0, ow 1, ow 2] (nu / (0 + ((i : Nat) : Int) + 1)) 3 rfl (by decide)
        obtain ⟨kk, rfl⟩ : ∃ kk : Fin 3, x = ow kk := by
          have : x = ow 0 ∨ x = ow 1 ∨ x = ow 2 := by simpa using hx
          rcases this with rfl | rfl | rfl
          · exact ⟨0, rfl⟩
          · exact ⟨1, rfl⟩
          · exact ⟨2, rfl⟩
        refine ⟨(by show 3 ≤ sizeLine; decide), fun g6 h6 => ⟨_, rfl, _, rfl, .inl ⟨_, _, rfl, rfl, _, _, rfl, rfl, ⟨by omega, by omega⟩, _, _, rfl, rfl, (by show (0 : Int) < 3; decide), .inl (.inl ⟨_, _, _, _, rfl, rfl, SqL.of upd_same, hx1, Nat.zero_le _, fun a7 h7 => ⟨_, rfl, one_ok, fun b8 h8 => ⟨(by show 3 ≤ sizeLine; decide), fun T9 h9 => ?_⟩⟩⟩)⟩⟩⟩
        have F6 := Ext.lst (xs := [ow 0, ow 1, ow 2].map V.str) h6
        have F7 := Ext.lst (xs := []) h7
        have F8 := Ext.lst (xs := [v]) h8
        have F9 := Ext.tup (xs := [V.str (ow kk), .ref a7, .ref b8]) h9
        have FF := ((F6.trans F7).trans F8).trans F9
        have lo : (ow kk).cps.toList.length ≤ 6 := by
          have : ∀ k : Fin 3, (ow k).cps.toList.length ≤ 6 := by decide +kernel
          exact this kk
        refine ⟨E5.trans FF, _, .one kk fm, _, _, rfl, ⟨T9, a7, b8, v, rfl, upd_same, (fun z => by cases z), (fun z => by cases z), (F8.trans F9).s _ _ upd_same, F9.s _ _ upd_same, TAt.same FF.s fm hT5⟩, by rw [okF]; exact hok5, by rw [ht]; omega, ?_⟩
        rw [sh, List.length_append, List.length_append, List.length_append, cp_op, cp_cl]
        show _ + (1 + ((sh fm).length + 1)) ≤ _
        omega
      · rintro σ H5 ⟨E5, v, fm, z1, z2, rfl, hT5, hok5, hht5, hlen5⟩
        exact ⟨_, rfl, H5, E5.sub, q v fm H5 E5 hT5 hok5 (by omega) (by omega)⟩
    · obtain ⟨wr, hwr, ewr⟩ : ∃ wr : Nat, wr < 8 ∧ (0 : Int) = ((wr : Nat) : Int) := ⟨0, by decide, rfl⟩
      have ewr0 : some (V.int 0) = some (V.int ((wr : Nat) : Int)) := by rw [← ewr]
      rw [ewr0]
      have e8 : (8 : Int) - ((wr : Nat) : Int) = ((8 - wr : Nat) : Int) := by omega
      refine ⟨_, rfl, _, rfl, _, _, rfl, rfl, D, 8 - wr, ms, [D], (by rw [← e8]; rfl), by omega, by omega, hD1, by omega, List.mem_singleton.mpr rfl, (fun x hx => by rw [List.mem_singleton.mp hx]; exact ⟨_, hD1⟩), fun v0 f0 H4 ms4 G4 hp4 hm4 hT4 hok4 hht4 hlen4 => ?_⟩
      have E4 : Ext H H4 := Ext.growOf (o := .lst (ms.map V.int)) hD trivial G4
      have hT40 := TAt.weak (X := []) (fun x (hx : x ∈ []) => by cases hx) f0 hT4
      refine ⟨_, rfl, _, rfl, by omega, by omega, ?_⟩
      have en : (((wr : Nat) : Int)).toNat = wr := by omega
      rw [en]
      refine for_range (fun i σ H5 => Ext H H5 ∧ ∃ (v : V) (fm : Fm) (z1 z2 : Option V), σ = [some (.ref a), some (.int ((sl : Nat) : Int)), some (.int nu), z1, some (.int ((wr : Nat) : Int)), some v, z2] ∧ TAt [] H5 fm v ∧ okF fm ∧ ht fm ≤ 8 - wr + i ∧ (sh fm).length ≤ 8000 + 10 * i) ?_ ?_ ?_
      · exact ⟨E4, v0, f0, _, none, rfl, hT40, hok4, hht4, by omega⟩
      · rintro i σ H5 hi ⟨E5, v, fm, z1, z2, rfl, hT5, hok5, hht5, hlen5⟩
        obtain ⟨x, hx, hx1⟩ := atI_modG V.str [ow 0, ow 1, ow 2] (nu / (0 + ((i : Nat) : Int) + 1)) 3 rfl (by decide)
        obtain ⟨kk, rfl⟩ : ∃ kk : Fin 3, x = ow kk := by
          have : x = ow 0 ∨ x = ow 1 ∨ x = ow 2 := by simpa using hx
          rcases this with rfl | rfl | rfl
          · exact ⟨0, rfl⟩
          · exact ⟨1, rfl⟩
          · exact ⟨2, rfl⟩
        refine ⟨(by show 3 ≤ sizeLine; decide), fun g6 h6 => ⟨_, rfl, _, rfl, .inl ⟨_, _, rfl, rfl, _, _, rfl, rfl, ⟨by omega, by omega⟩, _, _, rfl, rfl, (by show (0 : Int) < 3; decide), .inl (.inl ⟨_, _, _, _, rfl, rfl, SqL.of upd_same, hx1, Nat.zero_le _, fun a7 h7 => ⟨_, rfl, one_ok, fun b8 h8 => ⟨(by show 3 ≤ sizeLine; decide), fun T9 h9 => ?_⟩⟩⟩)⟩⟩⟩
        have F6 := Ext.lst (xs := [ow 0, ow 1, ow 2].map V.str) h6
        have F7 := Ext.lst (xs := []) h7
        have F8 := Ext.lst (xs := [v]) h8
        have F9 := Ext.tup (xs := [V.str (ow kk), .ref a7, .ref b8]) h9
        have FF := ((F6.trans F7).trans F8).trans F9
        have lo : (ow kk).cps.toList.length ≤ 6 := by
          have : ∀ k : Fin 3, (ow k).cps.toList.length ≤ 6 := by decide +kernel
          exact this kk
        refine ⟨E5.trans FF, _, .one kk fm, _, _, rfl, ⟨T9, a7, b8, v, rfl, upd_same, (fun z => by cases z), (fun z => by cases z), (F8.trans F9).s _ _ upd_same, F9.s _ _ upd_same, TAt.same FF.s fm hT5⟩, by rw [okF]; exact hok5, by rw [ht]; omega, ?_⟩
        rw [sh, List.length_append, List.length_append, List.length_append, cp_op, cp_cl]
        show _ + (1 + ((sh fm).length + 1)) ≤ _
        omega
      · rintro σ H5 ⟨E5, v, fm, z1, z2, rfl, hT5, hok5, hht5, hlen5⟩
        exact ⟨_, rfl, H5, E5.sub, q v fm H5 E5 hT5 hok5 (by omega) (by omega)⟩
  · obtain ⟨x8, hx8, ex8'⟩ := mod_nat nu 8 (by decide)
    have ex8 : nu % 8 = ((x8 : Nat) : Int) := ex8'
    refine ⟨_, rfl, _, rfl, _, _, rfl, rfl, (by show (0 : Int) < 8; decide), .inl ⟨_, _, rfl, rfl, _, rfl, a, ns, x8 + 1, sl, (by rw [ex8]; show [V.ref a, V.int (1 + ((x8 : Nat) : Int)), V.int ((sl : Nat) : Int)] = _; rw [show (1 : Int) + ((x8 : Nat) : Int) = ((x8 + 1 : Nat) : Int) by omega]), hS, hl, by omega, by omega, hsl, fun D ms hD hms => ?_⟩⟩
    have hD1 : upd H D (.lst (ms.map V.int)) D = some (.lst (ms.map V.int)) := upd_same
    refine ⟨_, rfl, _, _, rfl, rfl, ⟨by decide, by decide⟩, _, _, rfl, rfl, (by show (0 : Int) < 4; decide), rfl, _, rfl, iteD (fun k3 => ?_) (fun k3 => ?_)⟩
    · obtain ⟨wr, hwr, ewr'⟩ := mod_nat (nu / 32) 8 (by decide)
      have ewr : nu / 32 % 8 = ((wr : Nat) : Int) := ewr'
      refine ⟨_, rfl, _, _, rfl, rfl, ⟨by decide, by decide⟩, _, _, rfl, rfl, (by show (0 : Int) < 8; decide), ?_⟩
      dsimp only
      rw [ewr]
      have e8 : (8 : Int) - ((wr : Nat) : Int) = ((8 - wr : Nat) : Int) := by omega
      refine ⟨_, rfl, _, rfl, _, _, rfl, rfl, D, 8 - wr, ms, [D], (by rw [← e8]; rfl), by omega, by omega, hD1, by omega, List.mem_singleton.mpr rfl, (fun x hx => by rw [List.mem_singleton.mp hx]; exact ⟨_, hD1⟩), fun v0 f0 H4 ms4 G4 hp4 hm4 hT4 hok4 hht4 hlen4 => ?_⟩
      have E4 : Ext H H4 := Ext.growOf (o := .lst (ms.map V.int)) hD trivial G4
      have hT40 := TAt.weak (X := []) (fun x (hx : x ∈ []) => by cases hx) f0 hT4
      refine ⟨_, rfl, _, rfl, by omega, by omega, ?_⟩
      have en : (((wr : Nat) : Int)).toNat = wr := by omega
      rw [en]
      refine for_range (fun i σ H5 => Ext H H5 ∧ ∃ (v : V) (fm : Fm) (z1 z2 : Option V), σ = [some (.ref a), some (.int ((sl : Nat) : Int)), some (.int nu), z1, some (.int ((wr : Nat) : Int)), some v, z2] ∧ TAt [] H5 fm v ∧ okF fm ∧ ht fm ≤ 8 - wr + i ∧ (sh fm).length ≤ 8000 + 10 * i) ?_ ?_ ?_
      · exact ⟨E4, v0, f0, _, none, rfl, hT40, hok4, hht4, by omega⟩
      · rintro i σ H5 hi ⟨E5, v, fm, z1, z2, rfl, hT5, hok5, hht5, hlen5⟩
        obtain ⟨x, hx, hx1⟩ := atI_modG V.str [ow 0, ow 1, ow 2] (nu / (0 + ((i : Nat) : Int) + 1)) 3 rfl (by decide)
        obtain ⟨kk, rfl⟩ : ∃ kk : Fin 3, x = ow kk := by
          have : x = ow 0 ∨ x = ow 1 ∨ x = ow 2 := by simpa using hx
          rcases this with rfl | rfl | rfl
          · exact ⟨0, rfl⟩
          · exact ⟨1, rfl⟩
          · exact ⟨2, rfl⟩
        refine ⟨(by show 3 ≤ sizeLine; decide), fun g6 h6 => ⟨_, rfl, _, rfl, .inl ⟨_, _, rfl, rfl, _, _, rfl, rfl, ⟨by omega, by omega⟩, _, _, rfl, rfl, (by show (0 : Int) < 3; decide), .inl (.inl ⟨_, _, _, _, rfl, rfl, SqL.of upd_same, hx1, Nat.zero_le _, fun a7 h7 => ⟨_, rfl, one_ok, fun b8 h8 => ⟨(by show 3 ≤ sizeLine; decide), fun T9 h9 => ?_⟩⟩⟩)⟩⟩⟩
        have F6 := Ext.lst (xs := [ow 0, ow 1, ow 2].map V.str) h6
        have F7 := Ext.lst (xs := []) h7
        have F8 := Ext.lst (xs := [v]) h8
        have F9 := Ext.tup (xs := [V.str (ow kk), .ref a7, .ref b8]) h9
        have FF := ((F6.trans F7).trans F8).trans F9
        have lo : (ow kk).cps.toList.length ≤ 6 := by
          have : ∀ k : Fin 3, (ow k).cps.toList.length ≤ 6 := by decide +kernel
          exact this kk
        refine ⟨E5.trans FF, _, .one kk fm, _, _, rfl, ⟨T9, a7, b8, v, rfl, upd_same, (fun z => by cases z), (fun z => by cases z), (F8.trans F9).s _ _ upd_same, F9.s _ _ upd_same, TAt.same FF.s fm hT5⟩, by rw [okF]; exact hok5, by rw [ht]; omega, ?_⟩
        rw [sh, List.length_append, List.length_append, List.length_append, cp_op, cp_cl]
        show _ + (1 + ((sh fm).length + 1)) ≤ _
        omega
      · rintro σ H5 ⟨E5, v, fm, z1, z2, rfl, hT5, hok5, hht5, hlen5⟩
        exact ⟨_, rfl, H5, E5.sub, q v fm H5 E5 hT5 hok5 (by omega) (by omega)⟩
    · obtain ⟨wr, hwr, ewr⟩ : ∃ wr : Nat, wr < 8 ∧ (0 : Int) = ((wr : Nat) : Int) := ⟨0, by decide, rfl⟩
      have ewr0 : some (V.int 0) = some (V.int ((wr : Nat) : Int)) := by rw [← ewr]
      rw [ewr0]
      have e8 : (8 : Int) - ((wr : Nat) : Int) = ((8 - wr : Nat) : Int) := by omega
      refine ⟨_, rfl, _, rfl, _, _, rfl, rfl, D, 8 - wr, ms, [D], (by rw [← e8]; rfl), by omega, by omega, hD1, by omega, List.mem_singleton.mpr rfl, (fun x hx => by rw [List.mem_singleton.mp hx]; exact ⟨_, hD1⟩), fun v0 f0 H4 ms4 G4 hp4 hm4 hT4 hok4 hht4 hlen4 => ?_⟩
      have E4 : Ext H H4 := Ext.growOf (o := .lst (ms.map V.int)) hD trivial G4
      have hT40 := TAt.weak (X := []) (fun x (hx : x ∈ []) => by cases hx) f0 hT4
      refine ⟨_, rfl, _, rfl, by omega, by omega, ?_⟩
      have en : (((wr : Nat) : Int)).toNat = wr := by omega
      rw [en]
      refine for_range (fun i σ H5 => Ext H H5 ∧ ∃ (v : V) (fm : Fm) (z1 z2 : Option V), σ = [some (.ref a), some (.int ((sl : Nat) : Int)), some (.int nu), z1, some (.int ((wr : Nat) : Int)), some v, z2] ∧ TAt [] H5 fm v ∧ okF fm ∧ ht fm ≤ 8 - wr + i ∧ (sh fm).length ≤ 8000 + 10 * i) ?_ ?_ ?_
      · exact ⟨E4, v0, f0, _, none, rfl, hT40, hok4, hht4, by omega⟩
      · rintro i σ H5 hi ⟨E5, v, fm, z1, z2, rfl, hT5, hok5, hht5, hlen5⟩
        obtain ⟨x, hx, hx1⟩ := atI_modG V.str [ow 0, ow 1, ow 2] (nu / (0 + ((i : Nat) : Int) + 1)) 3 rfl (by decide)
        obtain ⟨kk, rfl⟩ : ∃ kk : Fin 3, x = ow kk := by
          have : x = ow 0 ∨ x = ow 1 ∨ x = ow 2 := by simpa using hx
          rcases this with rfl | rfl | rfl
          · exact ⟨0, rfl⟩
          · exact ⟨1, rfl⟩
          · exact ⟨2, rfl⟩
        refine ⟨(by show 3 ≤ sizeLine; decide), fun g6 h6 => ⟨_, rfl, _, rfl, .inl ⟨_, _, rfl, rfl, _, _, rfl, rfl, ⟨by omega, by omega⟩, _, _, rfl, rfl, (by show (0 : Int) < 3; decide), .inl (.inl ⟨_, _, _, _, rfl, rfl, SqL.of upd_same, hx1, Nat.zero_le _, fun a7 h7 => ⟨_, rfl, one_ok, fun b8 h8 => ⟨(by show 3 ≤ sizeLine; decide), fun T9 h9 => ?_⟩⟩⟩)⟩⟩⟩
        have F6 := Ext.lst (xs := [ow 0, ow 1, ow 2].map V.str) h6
        have F7 := Ext.lst (xs := []) h7
        have F8 := Ext.lst (xs := [v]) h8
        have F9 := Ext.tup (xs := [V.str (ow kk), .ref a7, .ref b8]) h9
        have FF := ((F6.trans F7).trans F8).trans F9
        have lo : (ow kk).cps.toList.length ≤ 6 := by
          have : ∀ k : Fin 3, (ow k).cps.toList.length ≤ 6 := by decide +kernel
          exact this kk
        refine ⟨E5.trans FF, _, .one kk fm, _, _, rfl, ⟨T9, a7, b8, v, rfl, upd_same, (fun z => by cases z), (fun z => by cases z), (F8.trans F9).s _ _ upd_same, F9.s _ _ upd_same, TAt.same FF.s fm hT5⟩, by rw [okF]; exact hok5, by rw [ht]; omega, ?_⟩
        rw [sh, List.length_append, List.length_append, List.length_append, cp_op, cp_cl]
        show _ + (1 + ((sh fm).length + 1)) ≤ _
        omega
      · rintro σ H5 ⟨E5, v, fm, z1, z2, rfl, hT5, hok5, hht5, hlen5⟩
        exact ⟨_, rfl, H5, E5.sub, q v fm H5 E5 hT5 hok5 (by omega) (by omega)⟩
/-! ### kinds, good, law -/
def wS : Sl → Str
  | .b k => bw k
  | .s => Str.ofString "span"
  | .l => Str.ofString "letters"
  | .o k => ow k
  | .t k => tw k
theorem wd_slot (f : Fm) : wd f = wS (slot f) := by cases f <;> rfl
structure Kd31 (K : PySem.W.Frag) (c : FC) (fo C : Addr) (w : Str) : Prop where
  i : Ins K C
  fo : PySem.W.kitOne K (.ref C) (.ref fo) = some true
  b : ∀ k, PySem.W.kitOne K (.ref C) (.ref (c.b k)) = some (decide (w = bw k))
  s : PySem.W.kitOne K (.ref C) (.ref c.s) = some (decide (w = Str.ofString "span"))
  l : PySem.W.kitOne K (.ref C) (.ref c.l) = some (decide (w = Str.ofString "letters"))
  o : ∀ k, PySem.W.kitOne K (.ref C) (.ref (c.o k)) = some (decide (w = ow k))
  t : ∀ k, PySem.W.kitOne K (.ref C) (.ref (c.t k)) = some (decide (w = tw k))
def kk31 (w : Str) : List Bool := [decide (w = bw 0), decide (w = bw 1), decide (w = bw 2), decide (w = bw 3), decide (w = Str.ofString "span"), decide (w = Str.ofString "letters"), decide (w = ow 0), decide (w = ow 1), decide (w = ow 2), decide (w = tw 0), decide (w = tw 1)]
structure Nam31 (mg : Str → Option Value) (c : FC) (fo : Addr) : Prop where
  no : GlobV mg "Nothing" (.ref (c.b 0))
  tr : GlobV mg "Truth" (.ref (c.b 1))
  wh : GlobV mg "Whole" (.ref (c.b 2))
  fr : GlobV mg "Fraction" (.ref (c.b 3))
  sp : GlobV mg "Span" (.ref c.s)
  le : GlobV mg "Letters" (.ref c.l)
  ma : GlobV mg "Maybe" (.ref (c.o 0))
  my : GlobV mg "Many" (.ref (c.o 1))
  tu : GlobV mg "Turned" (.ref (c.o 2))
  re : GlobV mg "Record" (.ref (c.t 0))
  ch : GlobV mg "Choice" (.ref (c.t 1))
  fo : GlobV mg "Form" (.ref fo)
theorem FAt.at {c : FC} {X : List Addr} {H : Hp} (f : Fm) {o : Addr} (h : FAt c X H f o) : ∃ dx fs, H o = some (.ins (clS c (slot f)) dx fs) := by
  obtain ⟨dx, fs, e, _⟩ := FAt.ins (m := Str.ofString "shown") (by decide +kernel) (by decide +kernel) (by decide +kernel) (by decide +kernel) (by decide +kernel) (by decide +kernel) f h
  exact ⟨dx, fs, e⟩
def spKinds31 (c : FC) : Sp := fun vs H Q _ => ∃ (o : Addr) (f : Fm), vs = [.ref o] ∧ FAt c [] H f o ∧ ∀ p, H p = none → Q (.ref p) (upd H p (.lst ((kk31 (wd f)).map V.bl)))
theorem ok_law_kinds31 {f fo : Addr} {c : FC} {fd : FuncData} (nb : NB mg) (N : Nam31 mg c fo) (KD : ∀ i : Sl, Kd31 K c fo (clS c i) (wS i)) (F : FunAt K mg "_law_kinds" s_law_kinds ["_law_form"] f fd) : DefOk P w K mg base 1 "_law_kinds" ["_law_form"] (spKinds31 c) := by
  obtain ⟨gc_Nothing, gc_Truth, gc_Whole, gc_Fraction, gc_Span, gc_Letters, gc_Maybe, gc_Many, gc_Turned, gc_Record, gc_Choice, _⟩ := N
  refine F.ok sc_law_kinds (fun vs H Q E h => ?_) (fun cdv A outer s H vs Q E hr h => ?_)
  · obtain ⟨_, _, rfl, _⟩ := h; rfl
  obtain ⟨o, fm, rfl, hF, q⟩ := h
  obtain ⟨dx, fs, ho⟩ := FAt.at fm hF
  have kd := KD (slot fm)
  rw [← wd_slot] at kd
  refine ⟨_, (pss_cons (ps_set (i := 1) sc_law_kinds.nd rfl (by first | exact Or.inl rfl | exact Or.inr rfl) (pe_lst (pa_cons (pe_callB call_isinstA rfl nb.isinstance_ bo_isinstance (pa_cons (pv 0) (pa_cons (pe_globV gc_Nothing) pa_nil))) (pa_cons (pe_callB call_isinstA rfl nb.isinstance_ bo_isinstance (pa_cons (pv 0) (pa_cons (pe_globV gc_Truth) pa_nil))) (pa_cons (pe_callB call_isinstA rfl nb.isinstance_ bo_isinstance (pa_cons (pv 0) (pa_cons (pe_globV gc_Whole) pa_nil))) (pa_cons (pe_callB call_isinstA rfl nb.isinstance_ bo_isinstance (pa_cons (pv 0) (pa_cons (pe_globV gc_Fraction) pa_nil))) pa_nil))))))
    (pss_cons (ps_set (i := 1) sc_law_kinds.nd rfl (by first | exact Or.inl rfl | exact Or.inr rfl) (pe_op op_cat (pv 1) (pe_lst (pa_cons (pe_callB call_isinstA rfl nb.isinstance_ bo_isinstance (pa_cons (pv 0) (pa_cons (pe_globV gc_Span) pa_nil))) (pa_cons (pe_callB call_isinstA rfl nb.isinstance_ bo_isinstance (pa_cons (pv 0) (pa_cons (pe_globV gc_Letters) pa_nil))) (pa_cons (pe_callB call_isinstA rfl nb.isinstance_ bo_isinstance (pa_cons (pv 0) (pa_cons (pe_globV gc_Maybe) pa_nil))) pa_nil))))))
    (pss_cons (ps_set (i := 1) sc_law_kinds.nd rfl (by first | exact Or.inl rfl | exact Or.inr rfl) (pe_op op_cat (pv 1) (pe_lst (pa_cons (pe_callB call_isinstA rfl nb.isinstance_ bo_isinstance (pa_cons (pv 0) (pa_cons (pe_globV gc_Many) pa_nil))) (pa_cons (pe_callB call_isinstA rfl nb.isinstance_ bo_isinstance (pa_cons (pv 0) (pa_cons (pe_globV gc_Turned) pa_nil))) (pa_cons (pe_callB call_isinstA rfl nb.isinstance_ bo_isinstance (pa_cons (pv 0) (pa_cons (pe_globV gc_Record) pa_nil))) pa_nil))))))
    (pss_one (ps_ret (pe_op op_cat (pv 1) (pe_lst (pa_cons (pe_callB call_isinstA rfl nb.isinstance_ bo_isinstance (pa_cons (pv 0) (pa_cons (pe_globV gc_Choice) pa_nil))) pa_nil)))))))), ?_⟩
  generalize wd fm = ww at kd q
  have ty : ∀ {H' : Hp}, Same H H' → TyOf K H' (.ref o) (.ref (clS c (slot fm))) := fun {H'} hs => kd.i.ty (hs _ _ ho)
  have t0 := ty (Same.refl H)
  refine ⟨_, rfl, .inr ⟨_, _, _, _, rfl, t0, kd.b 0, _, rfl, .inr ⟨_, _, _, _, rfl, t0, kd.b 1, _, rfl, .inr ⟨_, _, _, _, rfl, t0, kd.b 2, _, rfl, .inr ⟨_, _, _, _, rfl, t0, kd.b 3, (by show 4 ≤ sizeLine; decide), fun r1 h1 => ?_⟩⟩⟩⟩⟩
  have s1 := same_new (o := HO.lst [V.bl (decide (ww = bw 0)), .bl (decide (ww = bw 1)), .bl (decide (ww = bw 2)), .bl (decide (ww = bw 3))]) h1
  have t1 := ty s1
  refine ⟨_, rfl, _, rfl, .inr ⟨_, _, _, _, rfl, t1, kd.s, _, rfl, .inr ⟨_, _, _, _, rfl, t1, kd.l, _, rfl, .inr ⟨_, _, _, _, rfl, t1, kd.o 0, (by show 3 ≤ sizeLine; decide), fun r2 h2 => ?_⟩⟩⟩⟩
  have s2 := same_new (o := HO.lst [V.bl (decide (ww = Str.ofString "span")), .bl (decide (ww = Str.ofString "letters")), .bl (decide (ww = ow 0))]) h2
  refine ⟨r1, r2, _, _, rfl, rfl, s2 _ _ upd_same, upd_same, (by show 4 + 3 ≤ sizeLine; decide), fun r3 h3 => ?_⟩
  have s3 := same_new (o := HO.lst ([V.bl (decide (ww = bw 0)), .bl (decide (ww = bw 1)), .bl (decide (ww = bw 2)), .bl (decide (ww = bw 3))] ++ [V.bl (decide (ww = Str.ofString "span")), .bl (decide (ww = Str.ofString "letters")), .bl (decide (ww = ow 0))])) h3
  have u3 := (s1.trans s2).trans s3
  have t3 := ty u3
  refine ⟨_, rfl, _, rfl, .inr ⟨_, _, _, _, rfl, t3, kd.o 1, _, rfl, .inr ⟨_, _, _, _, rfl, t3, kd.o 2, _, rfl, .inr ⟨_, _, _, _, rfl, t3, kd.t 0, (by show 3 ≤ sizeLine; decide), fun r4 h4 => ?_⟩⟩⟩⟩
  have s4 := same_new (o := HO.lst [V.bl (decide (ww = ow 1)), .bl (decide (ww = ow 2)), .bl (decide (ww = tw 0))]) h4
  refine ⟨r3, r4, _, _, rfl, rfl, s4 _ _ upd_same, upd_same, (by show 7 + 3 ≤ sizeLine; decide), fun r5 h5 => ?_⟩
  have s5 := same_new (o := HO.lst (([V.bl (decide (ww = bw 0)), .bl (decide (ww = bw 1)), .bl (decide (ww = bw 2)), .bl (decide (ww = bw 3))] ++ [V.bl (decide (ww = Str.ofString "span")), .bl (decide (ww = Str.ofString "letters")), .bl (decide (ww = ow 0))]) ++ [V.bl (decide (ww = ow 1)), .bl (decide (ww = ow 2)), .bl (decide (ww = tw 0))])) h5
  have u5 := (u3.trans s4).trans s5
  have t5 := ty u5
  refine ⟨_, rfl, _, rfl, .inr ⟨_, _, _, _, rfl, t5, kd.t 1, (by show 1 ≤ sizeLine; decide), fun r6 h6 => ?_⟩⟩
  have s6 := same_new (o := HO.lst [V.bl (decide (ww = tw 1))]) h6
  refine ⟨r5, r6, _, _, rfl, rfl, s6 _ _ upd_same, upd_same, (by show 10 + 1 ≤ sizeLine; decide), fun p hp => ?_⟩
  have sa := u5.trans s6
  exact ⟨_, .new (sa.free hp) (sa.trans (same_new hp)) upd_same trivial, q p (sa.free hp)⟩

def spGood31 (c : FC) : Sp := fun vs H Q _ => ∃ (o : Addr) (v : V) (f : Fm), vs = [.ref o, v] ∧ FAt c [] H f o ∧ TAt [] H f v ∧ okF f ∧ ht f ≤ 8 ∧ (sh f).length ≤ 90000 ∧ Q (.bl true) H
theorem TAt.word {X : List Addr} {H : Hp} (f : Fm) {v : V} (h : TAt X H f v) : ∃ T r, v = .ref T ∧ H T = some (.tup (.str (wd f) :: r)) := by
  cases f with
  | bare k => obtain ⟨T, a, b, e, eT, _⟩ := h; exact ⟨T, _, e, eT⟩
  | sp lo hi => obtain ⟨T, a, b, e, eT, _⟩ := h; exact ⟨T, _, e, eT⟩
  | le s => obtain ⟨T, b, e, eT, _⟩ := h; exact ⟨T, _, e, eT⟩
  | one k g => obtain ⟨T, a, b, v', e, eT, _⟩ := h; exact ⟨T, _, e, eT⟩
  | two k ns fs => obtain ⟨T, a, b, vs, e, eT, _⟩ := h; exact ⟨T, _, e, eT⟩
theorem kk31_eq (w : Str) : (Wds.map V.str).map (fun x => V.bl (decide (x = V.str w))) = (kk31 w).map V.bl := by
  have e : ∀ a : Str, decide (V.str a = V.str w) = decide (w = a) := fun a => decide_eq_decide.mpr ⟨fun z => (V.str.inj z).symm, fun z => by rw [z]⟩
  have e2 : Wds = [bw 0, bw 1, bw 2, bw 3, Str.ofString "span", Str.ofString "letters", ow 0, ow 1, ow 2, tw 0, tw 1] := rfl
  rw [e2]
  simp only [kk31, List.map_cons, List.map_nil, e]
set_option maxHeartbeats 4000000 in
theorem ok_law_good31 {f fo : Addr} {c : FC} {fd : FuncData} (nb : NB mg) (N : Nam31 mg c fo) (KD : ∀ i : Sl, Kd31 K c fo (clS c i) (wS i)) (F : FunAt K mg "_law_good" s_law_good ["_law_form", "_law_tree_here"] f fd) (D_law_kinds : DefOk P w K mg base 1 "_law_kinds" ["_law_form"] (spKinds31 c)) (D_law_text : DefOk P w K mg base 9 "_law_text" ["_law_tree_here"] (spTxt 8)) (AM_shown : AnyM P w K mg base 19 "shown" ["self"] (clS c) (spShow c 8)) : DefOk P w K mg base 20 "_law_good" ["_law_form", "_law_tree_here"] (spGood31 c) := by
  have gc_Form := N.fo
  refine F.ok sc_law_good (fun vs H Q E h => ?_) (fun cdv A outer s H vs Q E hr h => ?_)
  · obtain ⟨_, _, _, rfl, _⟩ := h; rfl
  obtain ⟨o, v, fm, rfl, hF, hT, hok, hht, hlen, q⟩ := h
  obtain ⟨T, r, rfl, eT⟩ := TAt.word fm hT
  obtain ⟨dx, fs, ho⟩ := FAt.at fm hF
  have kd := KD (slot fm)
  have a0 : ∀ (x : V) (r : List V), atI (x :: r) 0 = some x := fun x r => atI_nat (j := 0) rfl
  refine ⟨_, (pss_cons (ps_set (i := 2) sc_law_good.nd rfl (by first | exact Or.inl rfl | exact Or.inr rfl) (pe_lst (pa_cons pe_str (pa_cons pe_str (pa_cons pe_str (pa_cons pe_str (pa_cons pe_str (pa_cons pe_str pa_nil))))))))
    (pss_cons (ps_set (i := 2) sc_law_good.nd rfl (by first | exact Or.inl rfl | exact Or.inr rfl) (pe_op oAdd3 (pv 2) (pe_lst (pa_cons pe_str (pa_cons pe_str (pa_cons pe_str (pa_cons pe_str (pa_cons pe_str pa_nil))))))))
    (pss_cons (ps_if (PW.pt (pw_or (pt_not (pt_truth (pe_callB call_isinstA rfl nb.isinstance_ bo_isinstance (pa_cons (pv 0) (pa_cons (pe_globV gc_Form) pa_nil))) (fun _ => rfl))) (pw_or1 (pt_cmpR (oNeM (room64 hr)) (pe_callD D_law_kinds hr (pa_cons (pv 0) pa_nil)) (pe_comp ["_law_word"] [(1, "_law_tree_here")] rfl (by decide +kernel) ⟨rfl, .inl rfl, trivial⟩ (piAll (pv 2)) (fun _ _ _ _ _ => (pg_name (i := 0) (show (["_law_word", "_law_tree_here"] : List Str).Nodup by decide +kernel) rfl (by first | exact Or.inl rfl | exact Or.inr rfl))) (fun _ _ _ _ _ => pts_nil) (fun _ _ _ _ _ => (pe_cmpR (oEqM (room64 hr)) (pv 0) (pe_ix iAll (pv 1) pe_int (fun _ _ => rfl)) (nomark _)))) (nomark _))))) (pss_one (ps_ret pe_bl)) pss_nil)
    (pss_cons (ps_set (i := 3) sc_law_good.nd rfl (by first | exact Or.inl rfl | exact Or.inr rfl) (pe_methAny0 AM_shown hr (pv 0)))
    (pss_one (ps_ret (pe_and (pe_callB call_isinstA rfl nb.isinstance_ bo_isinstance (pa_cons (pv 3) (pa_cons (pe_bltn (v := .ty "str") rfl nb.str_ bo_str rfl) pa_nil))) (pe_one (pe_cmpR (oEqM (room64 hr)) (pv 3) (pe_callD D_law_text hr (pa_cons (pv 1) pa_nil)) (nomark _)))))))))), ?_⟩
  refine ⟨(by show 6 ≤ sizeLine; decide), fun g1 h1 => ⟨_, rfl, (by show 5 ≤ sizeLine; decide), fun g2 h2 => .inr ⟨g1, g2, _, _, rfl, rfl, (same_new h2) _ _ upd_same, upd_same, (by show 6 + 5 ≤ sizeLine; decide), fun lw hlw => ?_⟩⟩⟩
  have s0 := ((same_new h1).trans (same_new h2)).trans (same_new (o := HO.lst (Wds.map V.str)) hlw)
  have e0 := upd_same (H := upd (upd H g1 (.lst [V.str (Str.ofString "nothing"), V.str (Str.ofString "truth"), V.str (Str.ofString "whole"), V.str (Str.ofString "fraction"), V.str (Str.ofString "span"), V.str (Str.ofString "letters")])) g2 (.lst [V.str (Str.ofString "maybe"), V.str (Str.ofString "many"), V.str (Str.ofString "turned"), V.str (Str.ofString "record"), V.str (Str.ofString "choice")])) (a := lw) (o := .lst (Wds.map V.str))
  change _
  generalize hH1 : upd (upd (upd H g1 (.lst [V.str (Str.ofString "nothing"), V.str (Str.ofString "truth"), V.str (Str.ofString "whole"), V.str (Str.ofString "fraction"), V.str (Str.ofString "span"), V.str (Str.ofString "letters")])) g2 (.lst [V.str (Str.ofString "maybe"), V.str (Str.ofString "many"), V.str (Str.ofString "turned"), V.str (Str.ofString "record"), V.str (Str.ofString "choice")])) lw _ = H1
  have hH1' : upd (upd (upd H g1 (.lst [V.str (Str.ofString "nothing"), V.str (Str.ofString "truth"), V.str (Str.ofString "whole"), V.str (Str.ofString "fraction"), V.str (Str.ofString "span"), V.str (Str.ofString "letters")])) g2 (.lst [V.str (Str.ofString "maybe"), V.str (Str.ofString "many"), V.str (Str.ofString "turned"), V.str (Str.ofString "record"), V.str (Str.ofString "choice")])) lw (.lst (Wds.map V.str)) = H1 := hH1
  rw [hH1'] at s0 e0
  clear hH1 hH1'
  refine ⟨_, rfl, .inr ⟨_, _, _, _, rfl, kd.i.ty (s0 _ _ ho), kd.fo, true, rfl, iteF ?_⟩⟩
  refine ⟨_, rfl, o, fm, rfl, FAt.keep (fun b u _ e => s0 b u e) fm hF, fun p2 h3 => ?_⟩
  have s3 := same_new (o := HO.lst ((kk31 (wd fm)).map V.bl)) h3
  refine .inl ⟨_, rfl, lw, rfl, ⟨_, SqL.of (s3 _ _ e0)⟩, fun D hD => ?_⟩
  refine comp_list (K := K) (a := lw) (xs := Wds.map V.str) (fun x => .bl (decide (x = .str (wd fm)))) (fun σ => ∃ z, σ = [z, some (.ref T)]) (by show 11 ≤ sizeLine; decide) ⟨_, rfl⟩ hD (SqL.of (s3 _ _ e0)) ?_ ?_
  · rintro x hx σ1 H3 ⟨z, rfl⟩ hs3 R hR
    obtain ⟨sx, _, rfl⟩ := List.mem_map.mp hx
    exact ⟨_, rfl, _, rfl, .inl (.inr ⟨_, _, _, _, rfl, rfl, SqT.of (hs3 _ _ (s3 _ _ (s0 _ _ eT))), a0 _ _, .inl ⟨rfl, hR _ ⟨_, rfl⟩⟩⟩)⟩
  rw [kk31_eq]
  have s4 := same_new (o := HO.lst ((kk31 (wd fm)).map V.bl)) hD
  refine .inr ⟨p2, D, kk31 (wd fm), kk31 (wd fm), rfl, rfl, s4 _ _ upd_same, upd_same, _, rfl, iteNS rfl ?_⟩
  have sA := (s0.trans s3).trans s4
  generalize upd (upd H1 p2 (HO.lst ((kk31 (wd fm)).map V.bl))) D (HO.lst ((kk31 (wd fm)).map V.bl)) = HA at sA ⊢
  refine ⟨_, rfl, show_go (FAt.keep (fun b u _ e => sA b u e) fm hF) hok hht hlen ?_⟩
  refine ⟨_, rfl, .inl ⟨_, _, _, true, rfl, .str _, kit_same .., true, rfl, iteT ?_⟩⟩
  refine ⟨_, rfl, _, rfl, _, fm, rfl, TAt.same sA fm hT, hok, hht, hlen, .inl ⟨rfl, H, .refl sA, ?_⟩⟩
  rw [decide_eq_true rfl]
  exact q
theorem all_law_tree {f : Addr} {fd : FuncData} (nb : NB mg) (F : FunAt K mg "_law_tree" s_law_tree ["_law_left", "_law_deep"] f fd) (D_law_simple : DefOk P w K mg base 1 "_law_simple" ["_law_word", "_law_number", "_law_last"] spSimple31) (D_law_names : DefOk P w K mg base 1 "_law_names" ["_law_number", "_law_many"] spNames31) : ∀ d, DefOk P w K mg base (d + 2) "_law_tree" ["_law_left", "_law_deep"] (spTree d)
  | 0 => DefOk.none F fun vs H Q E ⟨_, _, _, _, _, h1, h2, _⟩ => by omega
  | d + 1 => by
    have := step_law_tree nb F D_law_simple D_law_names (all_law_tree nb F D_law_simple D_law_names d)
    rwa [show d + 1 + 2 = d + 2 + 1 by omega]
theorem all_law_text {f : Addr} {fd : FuncData} (nb : NB mg) (F : FunAt K mg "_law_text" s_law_text ["_law_tree_here"] f fd) : ∀ n, DefOk P w K mg base (n + 1) "_law_text" ["_law_tree_here"] (spTxt n)
  | 0 => DefOk.none F fun vs H Q E ⟨_, f, _, _, _, h, _⟩ => by have := ht_pos f; omega
  | n + 1 => step_law_text nb F (all_law_text nb F n)
theorem all_form_at {f f2 f3 f4 C : Addr} {c : FC} {fd fd2 fd3 fd4 : FuncData} (c_C : Cls K C) (g_SMALL_LETTERS : GlobV mg "SMALL_LETTERS" (.str L26)) (g_MOST_DEEP : GlobV mg "MOST_DEEP" (.int 8)) (F : FunAt K mg "form_at" s_form_at ["cursor", "depth"] f fd) (F2 : FunAt K mg "part_at" s_part_at ["cursor", "depth"] f2 fd2) (F3 : FunAt K mg "parts_at" s_parts_at ["cursor", "depth"] f3 fd3) (F4 : FunAt K mg "bracketed_form_at" s_bracketed_form_at ["cursor", "word", "depth"] f4 fd4)
    (M_skip : MethOk P w K mg base 1 C "skip" ["self", "words"] (spSkip C)) (M_run_of : MethOk P w K mg base 2 C "run_of" ["self", "signs"] (spRun C)) (M_expect : MethOk P w K mg base 2 C "expect" ["self", "words"] (spExpect C)) (D_bare_form : DefOk P w K mg base 1 "bare_form" ["word"] (spBare c)) (D_span_at : DefOk P w K mg base 4 "span_at" ["cursor"] (spSpanAt c C)) (D_letters_at : DefOk P w K mg base 4 "letters_at" ["cursor"] (spLetAt c C))
    (M_Record : MakeOk P w K mg base 4 "Record" (c.t 0) ["self", "parts"] (spTwoInit (c.t 0))) (M_Choice : MakeOk P w K mg base 4 "Choice" (c.t 1) ["self", "cases"] (spTwoInit (c.t 1))) (M_Maybe : MakeOk P w K mg base 1 "Maybe" (c.o 0) ["self", "inner"] (spOneInit (c.o 0))) (M_Many : MakeOk P w K mg base 1 "Many" (c.o 1) ["self", "inner"] (spOneInit (c.o 1))) (M_Turned : MakeOk P w K mg base 1 "Turned" (c.o 2) ["self", "inner"] (spOneInit (c.o 2))) :
    ∀ n, DefOk P w K mg base (4 * n + 8) "form_at" ["cursor", "depth"] (spForm31 c C n)
  | 0 => DefOk.none F fun vs H Q E ⟨_, _, _, _, _, f, _, _, _, _, _, _, h, _⟩ => by have := ht_pos f; omega
  | n + 1 => by
    have D := all_form_at c_C g_SMALL_LETTERS g_MOST_DEEP F F2 F3 F4 M_skip M_run_of M_expect D_bare_form D_span_at D_letters_at M_Record M_Choice M_Maybe M_Many M_Turned n
    have D2 := ok_part_at c_C g_SMALL_LETTERS F2 M_run_of M_expect D
    have D3 := ok_parts_at c_C F3 M_skip D2
    have D4 := ok_bracketed F4 D_span_at D_letters_at D D3 M_Record M_Choice M_Maybe M_Many M_Turned
    have := step_form_at c_C g_SMALL_LETTERS g_MOST_DEEP F M_run_of M_expect D_bare_form D4
    rwa [show 4 * (n + 1) + 8 = 4 * n + 11 + 1 by omega]
def spLaw (K : PySem.W.Frag) : Sp := fun vs H Q _ => ∃ (a : Addr) (ns : List Int), vs = [.ref a] ∧ SqL K H a (ns.map V.int) ∧ ns.length ≤ 63 ∧ ∀ H', Q (.bl true) H'
theorem ok_law {f : Addr} {c : FC} {fd : FuncData} (F : Fun K "law" "law" s_law f fd) (D_law_drawn : DefOk P w K mg base 11 "_law_drawn" ["_law_script", "_law_salt"] (spDrawn31 K)) (D_law_text : DefOk P w K mg base 9 "_law_text" ["_law_tree_here"] (spTxt 8)) (D_form_of : DefOk P w K mg base 41 "form_of" ["text"] (spFormOf c)) (D_law_good : DefOk P w K mg base 20 "_law_good" ["_law_form", "_law_tree_here"] (spGood31 c)) : FnOk P w K mg base CX0 42 f fd ["_law_script"] (spLaw K) := by
  refine F.okK sc_law (fun vs H Q E h => ?_) (fun cdv A outer s H vs Q E hr h => ?_)
  · obtain ⟨_, _, rfl, _⟩ := h; rfl
  obtain ⟨a, ns, rfl, hS, hl, q⟩ := h
  refine ⟨_, (pss_cons (ps_set (i := 1) sc_law.nd rfl (by first | exact Or.inl rfl | exact Or.inr rfl) (pe_callD D_law_drawn hr (pa_cons (pv 0) (pa_cons pe_int pa_nil))))
    (pss_cons (ps_set (i := 2) sc_law.nd rfl (by first | exact Or.inl rfl | exact Or.inr rfl) (pe_callD D_law_drawn hr (pa_cons (pv 0) (pa_cons pe_int pa_nil))))
    (pss_cons (ps_set (i := 3) sc_law.nd rfl (by first | exact Or.inl rfl | exact Or.inr rfl) (pe_callD D_form_of hr (pa_cons (pe_callD D_law_text hr (pa_cons (pv 1) pa_nil)) pa_nil)))
    (pss_cons (ps_set (i := 4) sc_law.nd rfl (by first | exact Or.inl rfl | exact Or.inr rfl) (pe_callD D_form_of hr (pa_cons (pe_callD D_law_text hr (pa_cons (pv 2) pa_nil)) pa_nil)))
    (pss_cons (ps_if (PW.pt (pw_or (pt_not (pt_truth (pe_callD D_law_good hr (pa_cons (pv 3) (pa_cons (pv 1) pa_nil))) (fun _ => rfl))) (pw_or1 (pt_not (pt_truth (pe_callD D_law_good hr (pa_cons (pv 4) (pa_cons (pv 2) pa_nil))) (fun _ => rfl)))))) (pss_one (ps_ret pe_bl)) pss_nil)
    (pss_one (ps_ret (pe_and (pe_callD D_law_good hr (pa_cons (pe_callD D_form_of hr (pa_cons (pe_callD D_law_text hr (pa_cons (pv 1) pa_nil)) pa_nil)) (pa_cons (pv 1) pa_nil))) (pe_one (pe_callD D_law_good hr (pa_cons (pv 3) (pa_cons (pv 1) pa_nil)))))))))))), ?_⟩
  refine ⟨_, rfl, a, ns, 1000, rfl, hS, hl, .inl rfl, fun v1 f1 H1 E1 hT1 ok1 ht1 len1 => ?_⟩
  refine ⟨_, rfl, a, ns, 2000, rfl, E1.s.seq hS, hl, .inr rfl, fun v2 f2 H2 E2 hT2 ok2 ht2 len2 => ?_⟩
  have hT1' := TAt.same E2.s f1 hT1
  refine ⟨_, rfl, v1, f1, rfl, hT1', ok1, ht1, len1, f1, rfl, ok1, ht1, by omega, fun o1 H3 E3 hF1 => ?_⟩
  have hT1'' := TAt.same E3.s f1 hT1'
  have hT2' := TAt.same E3.s f2 hT2
  refine ⟨_, rfl, v2, f2, rfl, hT2', ok2, ht2, len2, f2, rfl, ok2, ht2, by omega, fun o2 H4 E4 hF2 => ?_⟩
  have hF1' := FAt.keep (fun b u _ e => E4.s b u e) f1 hF1
  have hT14 := TAt.same E4.s f1 hT1''
  have hT24 := TAt.same E4.s f2 hT2'
  refine ⟨_, rfl, _, rfl, o1, v1, f1, rfl, hF1', hT14, ok1, ht1, len1, true, rfl, iteF ?_⟩
  refine ⟨_, rfl, _, rfl, o2, v2, f2, rfl, hF2, hT24, ok2, ht2, len2, true, rfl, iteF ?_⟩
  refine ⟨_, rfl, v1, f1, rfl, hT14, ok1, ht1, len1, f1, rfl, ok1, ht1, by omega, fun o3 H5 E5 hF3 => ?_⟩
  refine ⟨_, rfl, o3, v1, f1, rfl, hF3, TAt.same E5.s f1 hT14, ok1, ht1, len1, true, rfl, iteT ?_⟩
  refine ⟨_, rfl, _, rfl, o1, v1, f1, rfl, FAt.keep (fun b u _ e => E5.s b u e) f1 hF1', TAt.same E5.s f1 hT14, ok1, ht1, len1, H, .refl ((((E1.trans E2).trans E3).trans E4).trans E5).s, q _⟩
theorem ex1 (us : List Value) (hl : us.length = 1) : ∃ a : Value, us = [a] := match us, hl with | [a], _ => ⟨a, rfl⟩
theorem ex2 (us : List Value) (hl : us.length = 2) : ∃ a b : Value, us = [a, b] := match us, hl with | [a, b], _ => ⟨a, b, rfl⟩
theorem ex3 (us : List Value) (hl : us.length = 3) : ∃ a b c : Value, us = [a, b, c] := match us, hl with | [a, b, c], _ => ⟨a, b, c, rfl⟩
theorem ex4 (us : List Value) (hl : us.length = 4) : ∃ a b c d : Value, us = [a, b, c, d] := match us, hl with | [a, b, c, d], _ => ⟨a, b, c, d, rfl⟩
set_option maxHeartbeats 16000000 in
theorem all_mk {l : PySem.W.OpenLaw} {w : World} {K : PySem.W.Frag} {h : Heap} {mg : Str → Option Value} {fa : Addr} (X : K.In h) (G : h.Ns mainGlobals mg) (hfa : mg "law" = some (.ref fa))
    {C_Nothing : Addr} {f_Nothing_shown : Addr} {od_Nothing_shown an_Nothing_shown : Option Addr} {sl_Nothing_shown : Array (Option Value)} {oc_Nothing_shown kV_Nothing_shown dc_Nothing_shown pm_Nothing_shown cd_Nothing_shown ct_Nothing_shown : Value} {C_Truth : Addr} {f_Truth_shown : Addr} {od_Truth_shown an_Truth_shown : Option Addr} {sl_Truth_shown : Array (Option Value)} {oc_Truth_shown kV_Truth_shown dc_Truth_shown pm_Truth_shown cd_Truth_shown ct_Truth_shown : Value} {C_Whole : Addr} {f_Whole_shown : Addr} {od_Whole_shown an_Whole_shown : Option Addr} {sl_Whole_shown : Array (Option Value)} {oc_Whole_shown kV_Whole_shown dc_Whole_shown pm_Whole_shown cd_Whole_shown ct_Whole_shown : Value} {C_Fraction : Addr} {f_Fraction_shown : Addr} {od_Fraction_shown an_Fraction_shown : Option Addr} {sl_Fraction_shown : Array (Option Value)} {oc_Fraction_shown kV_Fraction_shown dc_Fraction_shown pm_Fraction_shown cd_Fraction_shown ct_Fraction_shown : Value} {C_Span : Addr} {f_Span_init : Addr} {od_Span_init an_Span_init : Option Addr} {sl_Span_init : Array (Option Value)} {oc_Span_init kV_Span_init dc_Span_init pm_Span_init cd_Span_init ct_Span_init : Value} {f_Span_shown : Addr} {od_Span_shown an_Span_shown : Option Addr} {sl_Span_shown : Array (Option Value)} {oc_Span_shown kV_Span_shown dc_Span_shown pm_Span_shown cd_Span_shown ct_Span_shown : Value} {C_Letters : Addr} {f_Letters_init : Addr} {od_Letters_init an_Letters_init : Option Addr} {sl_Letters_init : Array (Option Value)} {oc_Letters_init kV_Letters_init dc_Letters_init pm_Letters_init cd_Letters_init ct_Letters_init : Value} {f_Letters_shown : Addr} {od_Letters_shown an_Letters_shown : Option Addr} {sl_Letters_shown : Array (Option Value)} {oc_Letters_shown kV_Letters_shown dc_Letters_shown pm_Letters_shown cd_Letters_shown ct_Letters_shown : Value} {C_Maybe : Addr} {f_Maybe_init : Addr} {od_Maybe_init an_Maybe_init : Option Addr} {sl_Maybe_init : Array (Option Value)} {oc_Maybe_init kV_Maybe_init dc_Maybe_init pm_Maybe_init cd_Maybe_init ct_Maybe_init : Value} {f_Maybe_shown : Addr} {od_Maybe_shown an_Maybe_shown : Option Addr} {sl_Maybe_shown : Array (Option Value)} {oc_Maybe_shown kV_Maybe_shown dc_Maybe_shown pm_Maybe_shown cd_Maybe_shown ct_Maybe_shown : Value} {C_Many : Addr} {f_Many_init : Addr} {od_Many_init an_Many_init : Option Addr} {sl_Many_init : Array (Option Value)} {oc_Many_init kV_Many_init dc_Many_init pm_Many_init cd_Many_init ct_Many_init : Value} {f_Many_shown : Addr} {od_Many_shown an_Many_shown : Option Addr} {sl_Many_shown : Array (Option Value)} {oc_Many_shown kV_Many_shown dc_Many_shown pm_Many_shown cd_Many_shown ct_Many_shown : Value} {C_Turned : Addr} {f_Turned_init : Addr} {od_Turned_init an_Turned_init : Option Addr} {sl_Turned_init : Array (Option Value)} {oc_Turned_init kV_Turned_init dc_Turned_init pm_Turned_init cd_Turned_init ct_Turned_init : Value} {f_Turned_shown : Addr} {od_Turned_shown an_Turned_shown : Option Addr} {sl_Turned_shown : Array (Option Value)} {oc_Turned_shown kV_Turned_shown dc_Turned_shown pm_Turned_shown cd_Turned_shown ct_Turned_shown : Value} {C_Record : Addr} {f_Record_init : Addr} {od_Record_init an_Record_init : Option Addr} {sl_Record_init : Array (Option Value)} {oc_Record_init kV_Record_init dc_Record_init pm_Record_init cd_Record_init ct_Record_init : Value} {f_Record_shown : Addr} {od_Record_shown an_Record_shown : Option Addr} {sl_Record_shown : Array (Option Value)} {oc_Record_shown kV_Record_shown dc_Record_shown pm_Record_shown cd_Record_shown ct_Record_shown : Value} {C_Choice : Addr} {f_Choice_init : Addr} {od_Choice_init an_Choice_init : Option Addr} {sl_Choice_init : Array (Option Value)} {oc_Choice_init kV_Choice_init dc_Choice_init pm_Choice_init cd_Choice_init ct_Choice_init : Value} {f_Choice_shown : Addr} {od_Choice_shown an_Choice_shown : Option Addr} {sl_Choice_shown : Array (Option Value)} {oc_Choice_shown kV_Choice_shown dc_Choice_shown pm_Choice_shown cd_Choice_shown ct_Choice_shown : Value} {C_Cursor : Addr} {f_Cursor_init : Addr} {od_Cursor_init an_Cursor_init : Option Addr} {sl_Cursor_init : Array (Option Value)} {oc_Cursor_init kV_Cursor_init dc_Cursor_init pm_Cursor_init cd_Cursor_init ct_Cursor_init : Value} {f_Cursor_ended : Addr} {od_Cursor_ended an_Cursor_ended : Option Addr} {sl_Cursor_ended : Array (Option Value)} {oc_Cursor_ended kV_Cursor_ended dc_Cursor_ended pm_Cursor_ended cd_Cursor_ended ct_Cursor_ended : Value} {f_Cursor_skip : Addr} {od_Cursor_skip an_Cursor_skip : Option Addr} {sl_Cursor_skip : Array (Option Value)} {oc_Cursor_skip kV_Cursor_skip dc_Cursor_skip pm_Cursor_skip cd_Cursor_skip ct_Cursor_skip : Value} {f_Cursor_expect : Addr} {od_Cursor_expect an_Cursor_expect : Option Addr} {sl_Cursor_expect : Array (Option Value)} {oc_Cursor_expect kV_Cursor_expect dc_Cursor_expect pm_Cursor_expect cd_Cursor_expect ct_Cursor_expect : Value} {f_Cursor_run_of : Addr} {od_Cursor_run_of an_Cursor_run_of : Option Addr} {sl_Cursor_run_of : Array (Option Value)} {oc_Cursor_run_of kV_Cursor_run_of dc_Cursor_run_of pm_Cursor_run_of cd_Cursor_run_of ct_Cursor_run_of : Value} {C_Form : Addr} {f_made_of : Addr} {od_made_of an_made_of : Option Addr} {sl_made_of : Array (Option Value)} {oc_made_of kV_made_of dc_made_of pm_made_of cd_made_of ct_made_of : Value} {f_is_name : Addr} {od_is_name an_is_name : Option Addr} {sl_is_name : Array (Option Value)} {oc_is_name kV_is_name dc_is_name pm_is_name cd_is_name ct_is_name : Value} {f_names_of : Addr} {od_names_of an_names_of : Option Addr} {sl_names_of : Array (Option Value)} {oc_names_of kV_names_of dc_names_of pm_names_of cd_names_of ct_names_of : Value} {f_shown_parts : Addr} {od_shown_parts an_shown_parts : Option Addr} {sl_shown_parts : Array (Option Value)} {oc_shown_parts kV_shown_parts dc_shown_parts pm_shown_parts cd_shown_parts ct_shown_parts : Value} {f_number_at : Addr} {od_number_at an_number_at : Option Addr} {sl_number_at : Array (Option Value)} {oc_number_at kV_number_at dc_number_at pm_number_at cd_number_at ct_number_at : Value} {f_span_at : Addr} {od_span_at an_span_at : Option Addr} {sl_span_at : Array (Option Value)} {oc_span_at kV_span_at dc_span_at pm_span_at cd_span_at ct_span_at : Value} {f_letters_at : Addr} {od_letters_at an_letters_at : Option Addr} {sl_letters_at : Array (Option Value)} {oc_letters_at kV_letters_at dc_letters_at pm_letters_at cd_letters_at ct_letters_at : Value} {f_part_at : Addr} {od_part_at an_part_at : Option Addr} {sl_part_at : Array (Option Value)} {oc_part_at kV_part_at dc_part_at pm_part_at cd_part_at ct_part_at : Value} {f_parts_at : Addr} {od_parts_at an_parts_at : Option Addr} {sl_parts_at : Array (Option Value)} {oc_parts_at kV_parts_at dc_parts_at pm_parts_at cd_parts_at ct_parts_at : Value} {f_bare_form : Addr} {od_bare_form an_bare_form : Option Addr} {sl_bare_form : Array (Option Value)} {oc_bare_form kV_bare_form dc_bare_form pm_bare_form cd_bare_form ct_bare_form : Value} {f_bracketed_form_at : Addr} {od_bracketed_form_at an_bracketed_form_at : Option Addr} {sl_bracketed_form_at : Array (Option Value)} {oc_bracketed_form_at kV_bracketed_form_at dc_bracketed_form_at pm_bracketed_form_at cd_bracketed_form_at ct_bracketed_form_at : Value} {f_form_at : Addr} {od_form_at an_form_at : Option Addr} {sl_form_at : Array (Option Value)} {oc_form_at kV_form_at dc_form_at pm_form_at cd_form_at ct_form_at : Value} {f_form_of : Addr} {od_form_of an_form_of : Option Addr} {sl_form_of : Array (Option Value)} {oc_form_of kV_form_of dc_form_of pm_form_of cd_form_of ct_form_of : Value} {f_law_cell_at : Addr} {od_law_cell_at an_law_cell_at : Option Addr} {sl_law_cell_at : Array (Option Value)} {oc_law_cell_at kV_law_cell_at dc_law_cell_at pm_law_cell_at cd_law_cell_at ct_law_cell_at : Value} {f_law_mixed : Addr} {od_law_mixed an_law_mixed : Option Addr} {sl_law_mixed : Array (Option Value)} {oc_law_mixed kV_law_mixed dc_law_mixed pm_law_mixed cd_law_mixed ct_law_mixed : Value} {f_law_numbers_of : Addr} {od_law_numbers_of an_law_numbers_of : Option Addr} {sl_law_numbers_of : Array (Option Value)} {oc_law_numbers_of kV_law_numbers_of dc_law_numbers_of pm_law_numbers_of cd_law_numbers_of ct_law_numbers_of : Value} {f_law_names : Addr} {od_law_names an_law_names : Option Addr} {sl_law_names : Array (Option Value)} {oc_law_names kV_law_names dc_law_names pm_law_names cd_law_names ct_law_names : Value} {f_law_simple : Addr} {od_law_simple an_law_simple : Option Addr} {sl_law_simple : Array (Option Value)} {oc_law_simple kV_law_simple dc_law_simple pm_law_simple cd_law_simple ct_law_simple : Value} {f_law_tree : Addr} {od_law_tree an_law_tree : Option Addr} {sl_law_tree : Array (Option Value)} {oc_law_tree kV_law_tree dc_law_tree pm_law_tree cd_law_tree ct_law_tree : Value} {f_law_text : Addr} {od_law_text an_law_text : Option Addr} {sl_law_text : Array (Option Value)} {oc_law_text kV_law_text dc_law_text pm_law_text cd_law_text ct_law_text : Value} {f_law_drawn : Addr} {od_law_drawn an_law_drawn : Option Addr} {sl_law_drawn : Array (Option Value)} {oc_law_drawn kV_law_drawn dc_law_drawn pm_law_drawn cd_law_drawn ct_law_drawn : Value} {f_law_kinds : Addr} {od_law_kinds an_law_kinds : Option Addr} {sl_law_kinds : Array (Option Value)} {oc_law_kinds kV_law_kinds dc_law_kinds pm_law_kinds cd_law_kinds ct_law_kinds : Value} {f_law_good : Addr} {od_law_good an_law_good : Option Addr} {sl_law_good : Array (Option Value)} {oc_law_good kV_law_good dc_law_good pm_law_good cd_law_good ct_law_good : Value} {f_law : Addr} {od_law an_law : Option Addr} {sl_law : Array (Option Value)} {oc_law kV_law dc_law pm_law cd_law ct_law : Value} {tk_MOST_SIGNS : Tok} {tk_MOST_PARTS : Tok} {tk_LONGEST_NAME : Tok} {tk_MOST_FIGURES : Tok} {tk_MOST_DEEP : Tok} {tk_SMALL_LETTERS : Tok} {tk_LETTERS_AND_FIGURES : Tok} {tk_FIGURES : Tok}
    (aC_Nothing : PySem.W.nsIn K mainGlobals "Nothing" = some (some (.ref C_Nothing)))
    (pg_Nothing : PySem.W.plainGet K C_Nothing Str.empty = true)
    (hd_Nothing : PySem.W.hasDictIn K C_Nothing = true)
    (po_Nothing : PySem.W.plainOver K C_Nothing = true)
    (sa_Nothing : PySem.W.findIn K (.ref C_Nothing) "__setattr__" = some (some (.builtin "object.__setattr__")))
    (mk_Nothing : PySem.W.makesIn K C_Nothing = true)
    (kc_Nothing : PySem.W.keepIn K (.ref C_Nothing) = true)
    (i0_Nothing : PySem.W.findIn K (.ref C_Nothing) "__init__" = some (some (.builtin "object.__init__")))
    (a_Nothing_shown : PySem.W.findIn K (.ref C_Nothing) "shown" = some (some (.ref f_Nothing_shown)))
    (i_Nothing_shown : PySem.W.isFn K (.ref f_Nothing_shown) = true)
    (l_Nothing_shown : K.lookup f_Nothing_shown = some ⟨oc_Nothing_shown, od_Nothing_shown, .func (PySem.W.fnOf "shown" "Nothing.shown" (defArgs s_Nothing_shown) (defBody s_Nothing_shown) (defScope s_Nothing_shown) .none kV_Nothing_shown dc_Nothing_shown pm_Nothing_shown an_Nothing_shown cd_Nothing_shown ct_Nothing_shown), sl_Nothing_shown⟩)
    (c_Nothing_shown : PySem.W.codeIn K cd_Nothing_shown "Nothing.shown" = true)
    (k_Nothing_shown : PySem.W.keepIn K (.ref f_Nothing_shown) = true)
    (aC_Truth : PySem.W.nsIn K mainGlobals "Truth" = some (some (.ref C_Truth)))
    (pg_Truth : PySem.W.plainGet K C_Truth Str.empty = true)
    (hd_Truth : PySem.W.hasDictIn K C_Truth = true)
    (po_Truth : PySem.W.plainOver K C_Truth = true)
    (sa_Truth : PySem.W.findIn K (.ref C_Truth) "__setattr__" = some (some (.builtin "object.__setattr__")))
    (mk_Truth : PySem.W.makesIn K C_Truth = true)
    (kc_Truth : PySem.W.keepIn K (.ref C_Truth) = true)
    (i0_Truth : PySem.W.findIn K (.ref C_Truth) "__init__" = some (some (.builtin "object.__init__")))
    (a_Truth_shown : PySem.W.findIn K (.ref C_Truth) "shown" = some (some (.ref f_Truth_shown)))
    (i_Truth_shown : PySem.W.isFn K (.ref f_Truth_shown) = true)
    (l_Truth_shown : K.lookup f_Truth_shown = some ⟨oc_Truth_shown, od_Truth_shown, .func (PySem.W.fnOf "shown" "Truth.shown" (defArgs s_Truth_shown) (defBody s_Truth_shown) (defScope s_Truth_shown) .none kV_Truth_shown dc_Truth_shown pm_Truth_shown an_Truth_shown cd_Truth_shown ct_Truth_shown), sl_Truth_shown⟩)
    (c_Truth_shown : PySem.W.codeIn K cd_Truth_shown "Truth.shown" = true)
    (k_Truth_shown : PySem.W.keepIn K (.ref f_Truth_shown) = true)
    (aC_Whole : PySem.W.nsIn K mainGlobals "Whole" = some (some (.ref C_Whole)))
    (pg_Whole : PySem.W.plainGet K C_Whole Str.empty = true)
    (hd_Whole : PySem.W.hasDictIn K C_Whole = true)
    (po_Whole : PySem.W.plainOver K C_Whole = true)
    (sa_Whole : PySem.W.findIn K (.ref C_Whole) "__setattr__" = some (some (.builtin "object.__setattr__")))
    (mk_Whole : PySem.W.makesIn K C_Whole = true)
    (kc_Whole : PySem.W.keepIn K (.ref C_Whole) = true)
    (i0_Whole : PySem.W.findIn K (.ref C_Whole) "__init__" = some (some (.builtin "object.__init__")))
    (a_Whole_shown : PySem.W.findIn K (.ref C_Whole) "shown" = some (some (.ref f_Whole_shown)))
    (i_Whole_shown : PySem.W.isFn K (.ref f_Whole_shown) = true)
    (l_Whole_shown : K.lookup f_Whole_shown = some ⟨oc_Whole_shown, od_Whole_shown, .func (PySem.W.fnOf "shown" "Whole.shown" (defArgs s_Whole_shown) (defBody s_Whole_shown) (defScope s_Whole_shown) .none kV_Whole_shown dc_Whole_shown pm_Whole_shown an_Whole_shown cd_Whole_shown ct_Whole_shown), sl_Whole_shown⟩)
    (c_Whole_shown : PySem.W.codeIn K cd_Whole_shown "Whole.shown" = true)
    (k_Whole_shown : PySem.W.keepIn K (.ref f_Whole_shown) = true)
    (aC_Fraction : PySem.W.nsIn K mainGlobals "Fraction" = some (some (.ref C_Fraction)))
    (pg_Fraction : PySem.W.plainGet K C_Fraction Str.empty = true)
    (hd_Fraction : PySem.W.hasDictIn K C_Fraction = true)
    (po_Fraction : PySem.W.plainOver K C_Fraction = true)
    (sa_Fraction : PySem.W.findIn K (.ref C_Fraction) "__setattr__" = some (some (.builtin "object.__setattr__")))
    (mk_Fraction : PySem.W.makesIn K C_Fraction = true)
    (kc_Fraction : PySem.W.keepIn K (.ref C_Fraction) = true)
    (i0_Fraction : PySem.W.findIn K (.ref C_Fraction) "__init__" = some (some (.builtin "object.__init__")))
    (a_Fraction_shown : PySem.W.findIn K (.ref C_Fraction) "shown" = some (some (.ref f_Fraction_shown)))
    (i_Fraction_shown : PySem.W.isFn K (.ref f_Fraction_shown) = true)
    (l_Fraction_shown : K.lookup f_Fraction_shown = some ⟨oc_Fraction_shown, od_Fraction_shown, .func (PySem.W.fnOf "shown" "Fraction.shown" (defArgs s_Fraction_shown) (defBody s_Fraction_shown) (defScope s_Fraction_shown) .none kV_Fraction_shown dc_Fraction_shown pm_Fraction_shown an_Fraction_shown cd_Fraction_shown ct_Fraction_shown), sl_Fraction_shown⟩)
    (c_Fraction_shown : PySem.W.codeIn K cd_Fraction_shown "Fraction.shown" = true)
    (k_Fraction_shown : PySem.W.keepIn K (.ref f_Fraction_shown) = true)
    (aC_Span : PySem.W.nsIn K mainGlobals "Span" = some (some (.ref C_Span)))
    (pg_Span : PySem.W.plainGet K C_Span Str.empty = true)
    (hd_Span : PySem.W.hasDictIn K C_Span = true)
    (po_Span : PySem.W.plainOver K C_Span = true)
    (sa_Span : PySem.W.findIn K (.ref C_Span) "__setattr__" = some (some (.builtin "object.__setattr__")))
    (mk_Span : PySem.W.makesIn K C_Span = true)
    (kc_Span : PySem.W.keepIn K (.ref C_Span) = true)
    (n_Span_low : PySem.W.findIn K (.ref C_Span) "low" = some none)
    (n_Span_high : PySem.W.findIn K (.ref C_Span) "high" = some none)
    (a_Span_init : PySem.W.findIn K (.ref C_Span) "__init__" = some (some (.ref f_Span_init)))
    (i_Span_init : PySem.W.isFn K (.ref f_Span_init) = true)
    (l_Span_init : K.lookup f_Span_init = some ⟨oc_Span_init, od_Span_init, .func (PySem.W.fnOf "__init__" "Span.__init__" (defArgs s_Span_init) (defBody s_Span_init) (defScope s_Span_init) .none kV_Span_init dc_Span_init pm_Span_init an_Span_init cd_Span_init ct_Span_init), sl_Span_init⟩)
    (c_Span_init : PySem.W.codeIn K cd_Span_init "Span.__init__" = true)
    (k_Span_init : PySem.W.keepIn K (.ref f_Span_init) = true)
    (a_Span_shown : PySem.W.findIn K (.ref C_Span) "shown" = some (some (.ref f_Span_shown)))
    (i_Span_shown : PySem.W.isFn K (.ref f_Span_shown) = true)
    (l_Span_shown : K.lookup f_Span_shown = some ⟨oc_Span_shown, od_Span_shown, .func (PySem.W.fnOf "shown" "Span.shown" (defArgs s_Span_shown) (defBody s_Span_shown) (defScope s_Span_shown) .none kV_Span_shown dc_Span_shown pm_Span_shown an_Span_shown cd_Span_shown ct_Span_shown), sl_Span_shown⟩)
    (c_Span_shown : PySem.W.codeIn K cd_Span_shown "Span.shown" = true)
    (k_Span_shown : PySem.W.keepIn K (.ref f_Span_shown) = true)
    (aC_Letters : PySem.W.nsIn K mainGlobals "Letters" = some (some (.ref C_Letters)))
    (pg_Letters : PySem.W.plainGet K C_Letters Str.empty = true)
    (hd_Letters : PySem.W.hasDictIn K C_Letters = true)
    (po_Letters : PySem.W.plainOver K C_Letters = true)
    (sa_Letters : PySem.W.findIn K (.ref C_Letters) "__setattr__" = some (some (.builtin "object.__setattr__")))
    (mk_Letters : PySem.W.makesIn K C_Letters = true)
    (kc_Letters : PySem.W.keepIn K (.ref C_Letters) = true)
    (n_Letters_signs : PySem.W.findIn K (.ref C_Letters) "signs" = some none)
    (a_Letters_init : PySem.W.findIn K (.ref C_Letters) "__init__" = some (some (.ref f_Letters_init)))
    (i_Letters_init : PySem.W.isFn K (.ref f_Letters_init) = true)
    (l_Letters_init : K.lookup f_Letters_init = some ⟨oc_Letters_init, od_Letters_init, .func (PySem.W.fnOf "__init__" "Letters.__init__" (defArgs s_Letters_init) (defBody s_Letters_init) (defScope s_Letters_init) .none kV_Letters_init dc_Letters_init pm_Letters_init an_Letters_init cd_Letters_init ct_Letters_init), sl_Letters_init⟩)
    (c_Letters_init : PySem.W.codeIn K cd_Letters_init "Letters.__init__" = true)
    (k_Letters_init : PySem.W.keepIn K (.ref f_Letters_init) = true)
    (a_Letters_shown : PySem.W.findIn K (.ref C_Letters) "shown" = some (some (.ref f_Letters_shown)))
    (i_Letters_shown : PySem.W.isFn K (.ref f_Letters_shown) = true)
    (l_Letters_shown : K.lookup f_Letters_shown = some ⟨oc_Letters_shown, od_Letters_shown, .func (PySem.W.fnOf "shown" "Letters.shown" (defArgs s_Letters_shown) (defBody s_Letters_shown) (defScope s_Letters_shown) .none kV_Letters_shown dc_Letters_shown pm_Letters_shown an_Letters_shown cd_Letters_shown ct_Letters_shown), sl_Letters_shown⟩)
    (c_Letters_shown : PySem.W.codeIn K cd_Letters_shown "Letters.shown" = true)
    (k_Letters_shown : PySem.W.keepIn K (.ref f_Letters_shown) = true)
    (aC_Maybe : PySem.W.nsIn K mainGlobals "Maybe" = some (some (.ref C_Maybe)))
    (pg_Maybe : PySem.W.plainGet K C_Maybe Str.empty = true)
    (hd_Maybe : PySem.W.hasDictIn K C_Maybe = true)
    (po_Maybe : PySem.W.plainOver K C_Maybe = true)
    (sa_Maybe : PySem.W.findIn K (.ref C_Maybe) "__setattr__" = some (some (.builtin "object.__setattr__")))
    (mk_Maybe : PySem.W.makesIn K C_Maybe = true)
    (kc_Maybe : PySem.W.keepIn K (.ref C_Maybe) = true)
    (n_Maybe_inner : PySem.W.findIn K (.ref C_Maybe) "inner" = some none)
    (a_Maybe_init : PySem.W.findIn K (.ref C_Maybe) "__init__" = some (some (.ref f_Maybe_init)))
    (i_Maybe_init : PySem.W.isFn K (.ref f_Maybe_init) = true)
    (l_Maybe_init : K.lookup f_Maybe_init = some ⟨oc_Maybe_init, od_Maybe_init, .func (PySem.W.fnOf "__init__" "Maybe.__init__" (defArgs s_Maybe_init) (defBody s_Maybe_init) (defScope s_Maybe_init) .none kV_Maybe_init dc_Maybe_init pm_Maybe_init an_Maybe_init cd_Maybe_init ct_Maybe_init), sl_Maybe_init⟩)
    (c_Maybe_init : PySem.W.codeIn K cd_Maybe_init "Maybe.__init__" = true)
    (k_Maybe_init : PySem.W.keepIn K (.ref f_Maybe_init) = true)
    (a_Maybe_shown : PySem.W.findIn K (.ref C_Maybe) "shown" = some (some (.ref f_Maybe_shown)))
    (i_Maybe_shown : PySem.W.isFn K (.ref f_Maybe_shown) = true)
    (l_Maybe_shown : K.lookup f_Maybe_shown = some ⟨oc_Maybe_shown, od_Maybe_shown, .func (PySem.W.fnOf "shown" "Maybe.shown" (defArgs s_Maybe_shown) (defBody s_Maybe_shown) (defScope s_Maybe_shown) .none kV_Maybe_shown dc_Maybe_shown pm_Maybe_shown an_Maybe_shown cd_Maybe_shown ct_Maybe_shown), sl_Maybe_shown⟩)
    (c_Maybe_shown : PySem.W.codeIn K cd_Maybe_shown "Maybe.shown" = true)
    (k_Maybe_shown : PySem.W.keepIn K (.ref f_Maybe_shown) = true)
    (aC_Many : PySem.W.nsIn K mainGlobals "Many" = some (some (.ref C_Many)))
    (pg_Many : PySem.W.plainGet K C_Many Str.empty = true)
    (hd_Many : PySem.W.hasDictIn K C_Many = true)
    (po_Many : PySem.W.plainOver K C_Many = true)
    (sa_Many : PySem.W.findIn K (.ref C_Many) "__setattr__" = some (some (.builtin "object.__setattr__")))
    (mk_Many : PySem.W.makesIn K C_Many = true)
    (kc_Many : PySem.W.keepIn K (.ref C_Many) = true)
    (n_Many_inner : PySem.W.findIn K (.ref C_Many) "inner" = some none)
    (a_Many_init : PySem.W.findIn K (.ref C_Many) "__init__" = some (some (.ref f_Many_init)))
    (i_Many_init : PySem.W.isFn K (.ref f_Many_init) = true)
    (l_Many_init : K.lookup f_Many_init = some ⟨oc_Many_init, od_Many_init, .func (PySem.W.fnOf "__init__" "Many.__init__" (defArgs s_Many_init) (defBody s_Many_init) (defScope s_Many_init) .none kV_Many_init dc_Many_init pm_Many_init an_Many_init cd_Many_init ct_Many_init), sl_Many_init⟩)
    (c_Many_init : PySem.W.codeIn K cd_Many_init "Many.__init__" = true)
    (k_Many_init : PySem.W.keepIn K (.ref f_Many_init) = true)
    (a_Many_shown : PySem.W.findIn K (.ref C_Many) "shown" = some (some (.ref f_Many_shown)))
    (i_Many_shown : PySem.W.isFn K (.ref f_Many_shown) = true)
    (l_Many_shown : K.lookup f_Many_shown = some ⟨oc_Many_shown, od_Many_shown, .func (PySem.W.fnOf "shown" "Many.shown" (defArgs s_Many_shown) (defBody s_Many_shown) (defScope s_Many_shown) .none kV_Many_shown dc_Many_shown pm_Many_shown an_Many_shown cd_Many_shown ct_Many_shown), sl_Many_shown⟩)
    (c_Many_shown : PySem.W.codeIn K cd_Many_shown "Many.shown" = true)
    (k_Many_shown : PySem.W.keepIn K (.ref f_Many_shown) = true)
    (aC_Turned : PySem.W.nsIn K mainGlobals "Turned" = some (some (.ref C_Turned)))
    (pg_Turned : PySem.W.plainGet K C_Turned Str.empty = true)
    (hd_Turned : PySem.W.hasDictIn K C_Turned = true)
    (po_Turned : PySem.W.plainOver K C_Turned = true)
    (sa_Turned : PySem.W.findIn K (.ref C_Turned) "__setattr__" = some (some (.builtin "object.__setattr__")))
    (mk_Turned : PySem.W.makesIn K C_Turned = true)
    (kc_Turned : PySem.W.keepIn K (.ref C_Turned) = true)
    (n_Turned_inner : PySem.W.findIn K (.ref C_Turned) "inner" = some none)
    (a_Turned_init : PySem.W.findIn K (.ref C_Turned) "__init__" = some (some (.ref f_Turned_init)))
    (i_Turned_init : PySem.W.isFn K (.ref f_Turned_init) = true)
    (l_Turned_init : K.lookup f_Turned_init = some ⟨oc_Turned_init, od_Turned_init, .func (PySem.W.fnOf "__init__" "Turned.__init__" (defArgs s_Turned_init) (defBody s_Turned_init) (defScope s_Turned_init) .none kV_Turned_init dc_Turned_init pm_Turned_init an_Turned_init cd_Turned_init ct_Turned_init), sl_Turned_init⟩)
    (c_Turned_init : PySem.W.codeIn K cd_Turned_init "Turned.__init__" = true)
    (k_Turned_init : PySem.W.keepIn K (.ref f_Turned_init) = true)
    (a_Turned_shown : PySem.W.findIn K (.ref C_Turned) "shown" = some (some (.ref f_Turned_shown)))
    (i_Turned_shown : PySem.W.isFn K (.ref f_Turned_shown) = true)
    (l_Turned_shown : K.lookup f_Turned_shown = some ⟨oc_Turned_shown, od_Turned_shown, .func (PySem.W.fnOf "shown" "Turned.shown" (defArgs s_Turned_shown) (defBody s_Turned_shown) (defScope s_Turned_shown) .none kV_Turned_shown dc_Turned_shown pm_Turned_shown an_Turned_shown cd_Turned_shown ct_Turned_shown), sl_Turned_shown⟩)
    (c_Turned_shown : PySem.W.codeIn K cd_Turned_shown "Turned.shown" = true)
    (k_Turned_shown : PySem.W.keepIn K (.ref f_Turned_shown) = true)
    (aC_Record : PySem.W.nsIn K mainGlobals "Record" = some (some (.ref C_Record)))
    (pg_Record : PySem.W.plainGet K C_Record Str.empty = true)
    (hd_Record : PySem.W.hasDictIn K C_Record = true)
    (po_Record : PySem.W.plainOver K C_Record = true)
    (sa_Record : PySem.W.findIn K (.ref C_Record) "__setattr__" = some (some (.builtin "object.__setattr__")))
    (mk_Record : PySem.W.makesIn K C_Record = true)
    (kc_Record : PySem.W.keepIn K (.ref C_Record) = true)
    (n_Record_names : PySem.W.findIn K (.ref C_Record) "names" = some none)
    (n_Record_forms : PySem.W.findIn K (.ref C_Record) "forms" = some none)
    (a_Record_init : PySem.W.findIn K (.ref C_Record) "__init__" = some (some (.ref f_Record_init)))
    (i_Record_init : PySem.W.isFn K (.ref f_Record_init) = true)
    (l_Record_init : K.lookup f_Record_init = some ⟨oc_Record_init, od_Record_init, .func (PySem.W.fnOf "__init__" "Record.__init__" (defArgs s_Record_init) (defBody s_Record_init) (defScope s_Record_init) .none kV_Record_init dc_Record_init pm_Record_init an_Record_init cd_Record_init ct_Record_init), sl_Record_init⟩)
    (c_Record_init : PySem.W.codeIn K cd_Record_init "Record.__init__" = true)
    (k_Record_init : PySem.W.keepIn K (.ref f_Record_init) = true)
    (a_Record_shown : PySem.W.findIn K (.ref C_Record) "shown" = some (some (.ref f_Record_shown)))
    (i_Record_shown : PySem.W.isFn K (.ref f_Record_shown) = true)
    (l_Record_shown : K.lookup f_Record_shown = some ⟨oc_Record_shown, od_Record_shown, .func (PySem.W.fnOf "shown" "Record.shown" (defArgs s_Record_shown) (defBody s_Record_shown) (defScope s_Record_shown) .none kV_Record_shown dc_Record_shown pm_Record_shown an_Record_shown cd_Record_shown ct_Record_shown), sl_Record_shown⟩)
    (c_Record_shown : PySem.W.codeIn K cd_Record_shown "Record.shown" = true)
    (k_Record_shown : PySem.W.keepIn K (.ref f_Record_shown) = true)
    (aC_Choice : PySem.W.nsIn K mainGlobals "Choice" = some (some (.ref C_Choice)))
    (pg_Choice : PySem.W.plainGet K C_Choice Str.empty = true)
    (hd_Choice : PySem.W.hasDictIn K C_Choice = true)
    (po_Choice : PySem.W.plainOver K C_Choice = true)
    (sa_Choice : PySem.W.findIn K (.ref C_Choice) "__setattr__" = some (some (.builtin "object.__setattr__")))
    (mk_Choice : PySem.W.makesIn K C_Choice = true)
    (kc_Choice : PySem.W.keepIn K (.ref C_Choice) = true)
    (n_Choice_names : PySem.W.findIn K (.ref C_Choice) "names" = some none)
    (n_Choice_forms : PySem.W.findIn K (.ref C_Choice) "forms" = some none)
    (a_Choice_init : PySem.W.findIn K (.ref C_Choice) "__init__" = some (some (.ref f_Choice_init)))
    (i_Choice_init : PySem.W.isFn K (.ref f_Choice_init) = true)
    (l_Choice_init : K.lookup f_Choice_init = some ⟨oc_Choice_init, od_Choice_init, .func (PySem.W.fnOf "__init__" "Choice.__init__" (defArgs s_Choice_init) (defBody s_Choice_init) (defScope s_Choice_init) .none kV_Choice_init dc_Choice_init pm_Choice_init an_Choice_init cd_Choice_init ct_Choice_init), sl_Choice_init⟩)
    (c_Choice_init : PySem.W.codeIn K cd_Choice_init "Choice.__init__" = true)
    (k_Choice_init : PySem.W.keepIn K (.ref f_Choice_init) = true)
    (a_Choice_shown : PySem.W.findIn K (.ref C_Choice) "shown" = some (some (.ref f_Choice_shown)))
    (i_Choice_shown : PySem.W.isFn K (.ref f_Choice_shown) = true)
    (l_Choice_shown : K.lookup f_Choice_shown = some ⟨oc_Choice_shown, od_Choice_shown, .func (PySem.W.fnOf "shown" "Choice.shown" (defArgs s_Choice_shown) (defBody s_Choice_shown) (defScope s_Choice_shown) .none kV_Choice_shown dc_Choice_shown pm_Choice_shown an_Choice_shown cd_Choice_shown ct_Choice_shown), sl_Choice_shown⟩)
    (c_Choice_shown : PySem.W.codeIn K cd_Choice_shown "Choice.shown" = true)
    (k_Choice_shown : PySem.W.keepIn K (.ref f_Choice_shown) = true)
    (aC_Cursor : PySem.W.nsIn K mainGlobals "Cursor" = some (some (.ref C_Cursor)))
    (pg_Cursor : PySem.W.plainGet K C_Cursor Str.empty = true)
    (hd_Cursor : PySem.W.hasDictIn K C_Cursor = true)
    (po_Cursor : PySem.W.plainOver K C_Cursor = true)
    (sa_Cursor : PySem.W.findIn K (.ref C_Cursor) "__setattr__" = some (some (.builtin "object.__setattr__")))
    (mk_Cursor : PySem.W.makesIn K C_Cursor = true)
    (kc_Cursor : PySem.W.keepIn K (.ref C_Cursor) = true)
    (n_Cursor_text : PySem.W.findIn K (.ref C_Cursor) "text" = some none)
    (n_Cursor_place : PySem.W.findIn K (.ref C_Cursor) "place" = some none)
    (a_Cursor_init : PySem.W.findIn K (.ref C_Cursor) "__init__" = some (some (.ref f_Cursor_init)))
    (i_Cursor_init : PySem.W.isFn K (.ref f_Cursor_init) = true)
    (l_Cursor_init : K.lookup f_Cursor_init = some ⟨oc_Cursor_init, od_Cursor_init, .func (PySem.W.fnOf "__init__" "Cursor.__init__" (defArgs s_Cursor_init) (defBody s_Cursor_init) (defScope s_Cursor_init) .none kV_Cursor_init dc_Cursor_init pm_Cursor_init an_Cursor_init cd_Cursor_init ct_Cursor_init), sl_Cursor_init⟩)
    (c_Cursor_init : PySem.W.codeIn K cd_Cursor_init "Cursor.__init__" = true)
    (k_Cursor_init : PySem.W.keepIn K (.ref f_Cursor_init) = true)
    (a_Cursor_ended : PySem.W.findIn K (.ref C_Cursor) "ended" = some (some (.ref f_Cursor_ended)))
    (i_Cursor_ended : PySem.W.isFn K (.ref f_Cursor_ended) = true)
    (l_Cursor_ended : K.lookup f_Cursor_ended = some ⟨oc_Cursor_ended, od_Cursor_ended, .func (PySem.W.fnOf "ended" "Cursor.ended" (defArgs s_Cursor_ended) (defBody s_Cursor_ended) (defScope s_Cursor_ended) .none kV_Cursor_ended dc_Cursor_ended pm_Cursor_ended an_Cursor_ended cd_Cursor_ended ct_Cursor_ended), sl_Cursor_ended⟩)
    (c_Cursor_ended : PySem.W.codeIn K cd_Cursor_ended "Cursor.ended" = true)
    (k_Cursor_ended : PySem.W.keepIn K (.ref f_Cursor_ended) = true)
    (a_Cursor_skip : PySem.W.findIn K (.ref C_Cursor) "skip" = some (some (.ref f_Cursor_skip)))
    (i_Cursor_skip : PySem.W.isFn K (.ref f_Cursor_skip) = true)
    (l_Cursor_skip : K.lookup f_Cursor_skip = some ⟨oc_Cursor_skip, od_Cursor_skip, .func (PySem.W.fnOf "skip" "Cursor.skip" (defArgs s_Cursor_skip) (defBody s_Cursor_skip) (defScope s_Cursor_skip) .none kV_Cursor_skip dc_Cursor_skip pm_Cursor_skip an_Cursor_skip cd_Cursor_skip ct_Cursor_skip), sl_Cursor_skip⟩)
    (c_Cursor_skip : PySem.W.codeIn K cd_Cursor_skip "Cursor.skip" = true)
    (k_Cursor_skip : PySem.W.keepIn K (.ref f_Cursor_skip) = true)
    (a_Cursor_expect : PySem.W.findIn K (.ref C_Cursor) "expect" = some (some (.ref f_Cursor_expect)))
    (i_Cursor_expect : PySem.W.isFn K (.ref f_Cursor_expect) = true)
    (l_Cursor_expect : K.lookup f_Cursor_expect = some ⟨oc_Cursor_expect, od_Cursor_expect, .func (PySem.W.fnOf "expect" "Cursor.expect" (defArgs s_Cursor_expect) (defBody s_Cursor_expect) (defScope s_Cursor_expect) .none kV_Cursor_expect dc_Cursor_expect pm_Cursor_expect an_Cursor_expect cd_Cursor_expect ct_Cursor_expect), sl_Cursor_expect⟩)
    (c_Cursor_expect : PySem.W.codeIn K cd_Cursor_expect "Cursor.expect" = true)
    (k_Cursor_expect : PySem.W.keepIn K (.ref f_Cursor_expect) = true)
    (a_Cursor_run_of : PySem.W.findIn K (.ref C_Cursor) "run_of" = some (some (.ref f_Cursor_run_of)))
    (i_Cursor_run_of : PySem.W.isFn K (.ref f_Cursor_run_of) = true)
    (l_Cursor_run_of : K.lookup f_Cursor_run_of = some ⟨oc_Cursor_run_of, od_Cursor_run_of, .func (PySem.W.fnOf "run_of" "Cursor.run_of" (defArgs s_Cursor_run_of) (defBody s_Cursor_run_of) (defScope s_Cursor_run_of) .none kV_Cursor_run_of dc_Cursor_run_of pm_Cursor_run_of an_Cursor_run_of cd_Cursor_run_of ct_Cursor_run_of), sl_Cursor_run_of⟩)
    (c_Cursor_run_of : PySem.W.codeIn K cd_Cursor_run_of "Cursor.run_of" = true)
    (k_Cursor_run_of : PySem.W.keepIn K (.ref f_Cursor_run_of) = true)
    (ihn : PySem.W.specialIn K (.builtin "object.__class__") "__get__" = some (some (.builtin "getset_descriptor.__get__")))
    (itk : PySem.W.takesIn K (.builtin "object.__class__") = some true)
    (ic_Nothing : PySem.W.findIn K (.ref C_Nothing) "__class__" = some (some (.builtin "object.__class__")))
    (io_Nothing : PySem.W.mroIn K C_Nothing (.type "object") = some true)
    (ic_Truth : PySem.W.findIn K (.ref C_Truth) "__class__" = some (some (.builtin "object.__class__")))
    (io_Truth : PySem.W.mroIn K C_Truth (.type "object") = some true)
    (ic_Whole : PySem.W.findIn K (.ref C_Whole) "__class__" = some (some (.builtin "object.__class__")))
    (io_Whole : PySem.W.mroIn K C_Whole (.type "object") = some true)
    (ic_Fraction : PySem.W.findIn K (.ref C_Fraction) "__class__" = some (some (.builtin "object.__class__")))
    (io_Fraction : PySem.W.mroIn K C_Fraction (.type "object") = some true)
    (ic_Span : PySem.W.findIn K (.ref C_Span) "__class__" = some (some (.builtin "object.__class__")))
    (io_Span : PySem.W.mroIn K C_Span (.type "object") = some true)
    (ic_Letters : PySem.W.findIn K (.ref C_Letters) "__class__" = some (some (.builtin "object.__class__")))
    (io_Letters : PySem.W.mroIn K C_Letters (.type "object") = some true)
    (ic_Maybe : PySem.W.findIn K (.ref C_Maybe) "__class__" = some (some (.builtin "object.__class__")))
    (io_Maybe : PySem.W.mroIn K C_Maybe (.type "object") = some true)
    (ic_Many : PySem.W.findIn K (.ref C_Many) "__class__" = some (some (.builtin "object.__class__")))
    (io_Many : PySem.W.mroIn K C_Many (.type "object") = some true)
    (ic_Turned : PySem.W.findIn K (.ref C_Turned) "__class__" = some (some (.builtin "object.__class__")))
    (io_Turned : PySem.W.mroIn K C_Turned (.type "object") = some true)
    (ic_Record : PySem.W.findIn K (.ref C_Record) "__class__" = some (some (.builtin "object.__class__")))
    (io_Record : PySem.W.mroIn K C_Record (.type "object") = some true)
    (ic_Choice : PySem.W.findIn K (.ref C_Choice) "__class__" = some (some (.builtin "object.__class__")))
    (io_Choice : PySem.W.mroIn K C_Choice (.type "object") = some true)
    (aC_Form : PySem.W.nsIn K mainGlobals "Form" = some (some (.ref C_Form)))
    (kt_Nothing_Truth : PySem.W.kitOne K (.ref C_Nothing) (.ref C_Truth) = some false)
    (kt_Nothing_Whole : PySem.W.kitOne K (.ref C_Nothing) (.ref C_Whole) = some false)
    (kt_Nothing_Fraction : PySem.W.kitOne K (.ref C_Nothing) (.ref C_Fraction) = some false)
    (kt_Nothing_Span : PySem.W.kitOne K (.ref C_Nothing) (.ref C_Span) = some false)
    (kt_Nothing_Letters : PySem.W.kitOne K (.ref C_Nothing) (.ref C_Letters) = some false)
    (kt_Nothing_Maybe : PySem.W.kitOne K (.ref C_Nothing) (.ref C_Maybe) = some false)
    (kt_Nothing_Many : PySem.W.kitOne K (.ref C_Nothing) (.ref C_Many) = some false)
    (kt_Nothing_Turned : PySem.W.kitOne K (.ref C_Nothing) (.ref C_Turned) = some false)
    (kt_Nothing_Record : PySem.W.kitOne K (.ref C_Nothing) (.ref C_Record) = some false)
    (kt_Nothing_Choice : PySem.W.kitOne K (.ref C_Nothing) (.ref C_Choice) = some false)
    (kt_Nothing_Form : PySem.W.kitOne K (.ref C_Nothing) (.ref C_Form) = some true)
    (kt_Truth_Nothing : PySem.W.kitOne K (.ref C_Truth) (.ref C_Nothing) = some false)
    (kt_Truth_Whole : PySem.W.kitOne K (.ref C_Truth) (.ref C_Whole) = some false)
    (kt_Truth_Fraction : PySem.W.kitOne K (.ref C_Truth) (.ref C_Fraction) = some false)
    (kt_Truth_Span : PySem.W.kitOne K (.ref C_Truth) (.ref C_Span) = some false)
    (kt_Truth_Letters : PySem.W.kitOne K (.ref C_Truth) (.ref C_Letters) = some false)
    (kt_Truth_Maybe : PySem.W.kitOne K (.ref C_Truth) (.ref C_Maybe) = some false)
    (kt_Truth_Many : PySem.W.kitOne K (.ref C_Truth) (.ref C_Many) = some false)
    (kt_Truth_Turned : PySem.W.kitOne K (.ref C_Truth) (.ref C_Turned) = some false)
    (kt_Truth_Record : PySem.W.kitOne K (.ref C_Truth) (.ref C_Record) = some false)
    (kt_Truth_Choice : PySem.W.kitOne K (.ref C_Truth) (.ref C_Choice) = some false)
    (kt_Truth_Form : PySem.W.kitOne K (.ref C_Truth) (.ref C_Form) = some true)
    (kt_Whole_Nothing : PySem.W.kitOne K (.ref C_Whole) (.ref C_Nothing) = some false)
    (kt_Whole_Truth : PySem.W.kitOne K (.ref C_Whole) (.ref C_Truth) = some false)
    (kt_Whole_Fraction : PySem.W.kitOne K (.ref C_Whole) (.ref C_Fraction) = some false)
    (kt_Whole_Span : PySem.W.kitOne K (.ref C_Whole) (.ref C_Span) = some false)
    (kt_Whole_Letters : PySem.W.kitOne K (.ref C_Whole) (.ref C_Letters) = some false)
    (kt_Whole_Maybe : PySem.W.kitOne K (.ref C_Whole) (.ref C_Maybe) = some false)
    (kt_Whole_Many : PySem.W.kitOne K (.ref C_Whole) (.ref C_Many) = some false)
    (kt_Whole_Turned : PySem.W.kitOne K (.ref C_Whole) (.ref C_Turned) = some false)
    (kt_Whole_Record : PySem.W.kitOne K (.ref C_Whole) (.ref C_Record) = some false)
    (kt_Whole_Choice : PySem.W.kitOne K (.ref C_Whole) (.ref C_Choice) = some false)
    (kt_Whole_Form : PySem.W.kitOne K (.ref C_Whole) (.ref C_Form) = some true)
    (kt_Fraction_Nothing : PySem.W.kitOne K (.ref C_Fraction) (.ref C_Nothing) = some false)
    (kt_Fraction_Truth : PySem.W.kitOne K (.ref C_Fraction) (.ref C_Truth) = some false)
    (kt_Fraction_Whole : PySem.W.kitOne K (.ref C_Fraction) (.ref C_Whole) = some false)
    (kt_Fraction_Span : PySem.W.kitOne K (.ref C_Fraction) (.ref C_Span) = some false)
    (kt_Fraction_Letters : PySem.W.kitOne K (.ref C_Fraction) (.ref C_Letters) = some false)
    (kt_Fraction_Maybe : PySem.W.kitOne K (.ref C_Fraction) (.ref C_Maybe) = some false)
    (kt_Fraction_Many : PySem.W.kitOne K (.ref C_Fraction) (.ref C_Many) = some false)
    (kt_Fraction_Turned : PySem.W.kitOne K (.ref C_Fraction) (.ref C_Turned) = some false)
    (kt_Fraction_Record : PySem.W.kitOne K (.ref C_Fraction) (.ref C_Record) = some false)
    (kt_Fraction_Choice : PySem.W.kitOne K (.ref C_Fraction) (.ref C_Choice) = some false)
    (kt_Fraction_Form : PySem.W.kitOne K (.ref C_Fraction) (.ref C_Form) = some true)
    (kt_Span_Nothing : PySem.W.kitOne K (.ref C_Span) (.ref C_Nothing) = some false)
    (kt_Span_Truth : PySem.W.kitOne K (.ref C_Span) (.ref C_Truth) = some false)
    (kt_Span_Whole : PySem.W.kitOne K (.ref C_Span) (.ref C_Whole) = some false)
    (kt_Span_Fraction : PySem.W.kitOne K (.ref C_Span) (.ref C_Fraction) = some false)
    (kt_Span_Letters : PySem.W.kitOne K (.ref C_Span) (.ref C_Letters) = some false)
    (kt_Span_Maybe : PySem.W.kitOne K (.ref C_Span) (.ref C_Maybe) = some false)
    (kt_Span_Many : PySem.W.kitOne K (.ref C_Span) (.ref C_Many) = some false)
    (kt_Span_Turned : PySem.W.kitOne K (.ref C_Span) (.ref C_Turned) = some false)
    (kt_Span_Record : PySem.W.kitOne K (.ref C_Span) (.ref C_Record) = some false)
    (kt_Span_Choice : PySem.W.kitOne K (.ref C_Span) (.ref C_Choice) = some false)
    (kt_Span_Form : PySem.W.kitOne K (.ref C_Span) (.ref C_Form) = some true)
    (kt_Letters_Nothing : PySem.W.kitOne K (.ref C_Letters) (.ref C_Nothing) = some false)
    (kt_Letters_Truth : PySem.W.kitOne K (.ref C_Letters) (.ref C_Truth) = some false)
    (kt_Letters_Whole : PySem.W.kitOne K (.ref C_Letters) (.ref C_Whole) = some false)
    (kt_Letters_Fraction : PySem.W.kitOne K (.ref C_Letters) (.ref C_Fraction) = some false)
    (kt_Letters_Span : PySem.W.kitOne K (.ref C_Letters) (.ref C_Span) = some false)
    (kt_Letters_Maybe : PySem.W.kitOne K (.ref C_Letters) (.ref C_Maybe) = some false)
    (kt_Letters_Many : PySem.W.kitOne K (.ref C_Letters) (.ref C_Many) = some false)
    (kt_Letters_Turned : PySem.W.kitOne K (.ref C_Letters) (.ref C_Turned) = some false)
    (kt_Letters_Record : PySem.W.kitOne K (.ref C_Letters) (.ref C_Record) = some false)
    (kt_Letters_Choice : PySem.W.kitOne K (.ref C_Letters) (.ref C_Choice) = some false)
    (kt_Letters_Form : PySem.W.kitOne K (.ref C_Letters) (.ref C_Form) = some true)
    (kt_Maybe_Nothing : PySem.W.kitOne K (.ref C_Maybe) (.ref C_Nothing) = some false)
    (kt_Maybe_Truth : PySem.W.kitOne K (.ref C_Maybe) (.ref C_Truth) = some false)
    (kt_Maybe_Whole : PySem.W.kitOne K (.ref C_Maybe) (.ref C_Whole) = some false)
    (kt_Maybe_Fraction : PySem.W.kitOne K (.ref C_Maybe) (.ref C_Fraction) = some false)
    (kt_Maybe_Span : PySem.W.kitOne K (.ref C_Maybe) (.ref C_Span) = some false)
    (kt_Maybe_Letters : PySem.W.kitOne K (.ref C_Maybe) (.ref C_Letters) = some false)
    (kt_Maybe_Many : PySem.W.kitOne K (.ref C_Maybe) (.ref C_Many) = some false)
    (kt_Maybe_Turned : PySem.W.kitOne K (.ref C_Maybe) (.ref C_Turned) = some false)
    (kt_Maybe_Record : PySem.W.kitOne K (.ref C_Maybe) (.ref C_Record) = some false)
    (kt_Maybe_Choice : PySem.W.kitOne K (.ref C_Maybe) (.ref C_Choice) = some false)
    (kt_Maybe_Form : PySem.W.kitOne K (.ref C_Maybe) (.ref C_Form) = some true)
    (kt_Many_Nothing : PySem.W.kitOne K (.ref C_Many) (.ref C_Nothing) = some false)
    (kt_Many_Truth : PySem.W.kitOne K (.ref C_Many) (.ref C_Truth) = some false)
    (kt_Many_Whole : PySem.W.kitOne K (.ref C_Many) (.ref C_Whole) = some false)
    (kt_Many_Fraction : PySem.W.kitOne K (.ref C_Many) (.ref C_Fraction) = some false)
    (kt_Many_Span : PySem.W.kitOne K (.ref C_Many) (.ref C_Span) = some false)
    (kt_Many_Letters : PySem.W.kitOne K (.ref C_Many) (.ref C_Letters) = some false)
    (kt_Many_Maybe : PySem.W.kitOne K (.ref C_Many) (.ref C_Maybe) = some false)
    (kt_Many_Turned : PySem.W.kitOne K (.ref C_Many) (.ref C_Turned) = some false)
    (kt_Many_Record : PySem.W.kitOne K (.ref C_Many) (.ref C_Record) = some false)
    (kt_Many_Choice : PySem.W.kitOne K (.ref C_Many) (.ref C_Choice) = some false)
    (kt_Many_Form : PySem.W.kitOne K (.ref C_Many) (.ref C_Form) = some true)
    (kt_Turned_Nothing : PySem.W.kitOne K (.ref C_Turned) (.ref C_Nothing) = some false)
    (kt_Turned_Truth : PySem.W.kitOne K (.ref C_Turned) (.ref C_Truth) = some false)
    (kt_Turned_Whole : PySem.W.kitOne K (.ref C_Turned) (.ref C_Whole) = some false)
    (kt_Turned_Fraction : PySem.W.kitOne K (.ref C_Turned) (.ref C_Fraction) = some false)
    (kt_Turned_Span : PySem.W.kitOne K (.ref C_Turned) (.ref C_Span) = some false)
    (kt_Turned_Letters : PySem.W.kitOne K (.ref C_Turned) (.ref C_Letters) = some false)
    (kt_Turned_Maybe : PySem.W.kitOne K (.ref C_Turned) (.ref C_Maybe) = some false)
    (kt_Turned_Many : PySem.W.kitOne K (.ref C_Turned) (.ref C_Many) = some false)
    (kt_Turned_Record : PySem.W.kitOne K (.ref C_Turned) (.ref C_Record) = some false)
    (kt_Turned_Choice : PySem.W.kitOne K (.ref C_Turned) (.ref C_Choice) = some false)
    (kt_Turned_Form : PySem.W.kitOne K (.ref C_Turned) (.ref C_Form) = some true)
    (kt_Record_Nothing : PySem.W.kitOne K (.ref C_Record) (.ref C_Nothing) = some false)
    (kt_Record_Truth : PySem.W.kitOne K (.ref C_Record) (.ref C_Truth) = some false)
    (kt_Record_Whole : PySem.W.kitOne K (.ref C_Record) (.ref C_Whole) = some false)
    (kt_Record_Fraction : PySem.W.kitOne K (.ref C_Record) (.ref C_Fraction) = some false)
    (kt_Record_Span : PySem.W.kitOne K (.ref C_Record) (.ref C_Span) = some false)
    (kt_Record_Letters : PySem.W.kitOne K (.ref C_Record) (.ref C_Letters) = some false)
    (kt_Record_Maybe : PySem.W.kitOne K (.ref C_Record) (.ref C_Maybe) = some false)
    (kt_Record_Many : PySem.W.kitOne K (.ref C_Record) (.ref C_Many) = some false)
    (kt_Record_Turned : PySem.W.kitOne K (.ref C_Record) (.ref C_Turned) = some false)
    (kt_Record_Choice : PySem.W.kitOne K (.ref C_Record) (.ref C_Choice) = some false)
    (kt_Record_Form : PySem.W.kitOne K (.ref C_Record) (.ref C_Form) = some true)
    (kt_Choice_Nothing : PySem.W.kitOne K (.ref C_Choice) (.ref C_Nothing) = some false)
    (kt_Choice_Truth : PySem.W.kitOne K (.ref C_Choice) (.ref C_Truth) = some false)
    (kt_Choice_Whole : PySem.W.kitOne K (.ref C_Choice) (.ref C_Whole) = some false)
    (kt_Choice_Fraction : PySem.W.kitOne K (.ref C_Choice) (.ref C_Fraction) = some false)
    (kt_Choice_Span : PySem.W.kitOne K (.ref C_Choice) (.ref C_Span) = some false)
    (kt_Choice_Letters : PySem.W.kitOne K (.ref C_Choice) (.ref C_Letters) = some false)
    (kt_Choice_Maybe : PySem.W.kitOne K (.ref C_Choice) (.ref C_Maybe) = some false)
    (kt_Choice_Many : PySem.W.kitOne K (.ref C_Choice) (.ref C_Many) = some false)
    (kt_Choice_Turned : PySem.W.kitOne K (.ref C_Choice) (.ref C_Turned) = some false)
    (kt_Choice_Record : PySem.W.kitOne K (.ref C_Choice) (.ref C_Record) = some false)
    (kt_Choice_Form : PySem.W.kitOne K (.ref C_Choice) (.ref C_Form) = some true)
    (a_made_of : PySem.W.nsIn K mainGlobals "made_of" = some (some (.ref f_made_of)))
    (l_made_of : K.lookup f_made_of = some ⟨oc_made_of, od_made_of, .func (PySem.W.fnOf "made_of" "made_of" (defArgs s_made_of) (defBody s_made_of) (defScope s_made_of) .none kV_made_of dc_made_of pm_made_of an_made_of cd_made_of ct_made_of), sl_made_of⟩)
    (c_made_of : PySem.W.codeIn K cd_made_of "made_of" = true)
    (k_made_of : PySem.W.keepIn K (.ref f_made_of) = true)
    (a_is_name : PySem.W.nsIn K mainGlobals "is_name" = some (some (.ref f_is_name)))
    (l_is_name : K.lookup f_is_name = some ⟨oc_is_name, od_is_name, .func (PySem.W.fnOf "is_name" "is_name" (defArgs s_is_name) (defBody s_is_name) (defScope s_is_name) .none kV_is_name dc_is_name pm_is_name an_is_name cd_is_name ct_is_name), sl_is_name⟩)
    (c_is_name : PySem.W.codeIn K cd_is_name "is_name" = true)
    (k_is_name : PySem.W.keepIn K (.ref f_is_name) = true)
    (a_names_of : PySem.W.nsIn K mainGlobals "names_of" = some (some (.ref f_names_of)))
    (l_names_of : K.lookup f_names_of = some ⟨oc_names_of, od_names_of, .func (PySem.W.fnOf "names_of" "names_of" (defArgs s_names_of) (defBody s_names_of) (defScope s_names_of) .none kV_names_of dc_names_of pm_names_of an_names_of cd_names_of ct_names_of), sl_names_of⟩)
    (c_names_of : PySem.W.codeIn K cd_names_of "names_of" = true)
    (k_names_of : PySem.W.keepIn K (.ref f_names_of) = true)
    (a_shown_parts : PySem.W.nsIn K mainGlobals "shown_parts" = some (some (.ref f_shown_parts)))
    (l_shown_parts : K.lookup f_shown_parts = some ⟨oc_shown_parts, od_shown_parts, .func (PySem.W.fnOf "shown_parts" "shown_parts" (defArgs s_shown_parts) (defBody s_shown_parts) (defScope s_shown_parts) .none kV_shown_parts dc_shown_parts pm_shown_parts an_shown_parts cd_shown_parts ct_shown_parts), sl_shown_parts⟩)
    (c_shown_parts : PySem.W.codeIn K cd_shown_parts "shown_parts" = true)
    (k_shown_parts : PySem.W.keepIn K (.ref f_shown_parts) = true)
    (a_number_at : PySem.W.nsIn K mainGlobals "number_at" = some (some (.ref f_number_at)))
    (l_number_at : K.lookup f_number_at = some ⟨oc_number_at, od_number_at, .func (PySem.W.fnOf "number_at" "number_at" (defArgs s_number_at) (defBody s_number_at) (defScope s_number_at) .none kV_number_at dc_number_at pm_number_at an_number_at cd_number_at ct_number_at), sl_number_at⟩)
    (c_number_at : PySem.W.codeIn K cd_number_at "number_at" = true)
    (k_number_at : PySem.W.keepIn K (.ref f_number_at) = true)
    (a_span_at : PySem.W.nsIn K mainGlobals "span_at" = some (some (.ref f_span_at)))
    (l_span_at : K.lookup f_span_at = some ⟨oc_span_at, od_span_at, .func (PySem.W.fnOf "span_at" "span_at" (defArgs s_span_at) (defBody s_span_at) (defScope s_span_at) .none kV_span_at dc_span_at pm_span_at an_span_at cd_span_at ct_span_at), sl_span_at⟩)
    (c_span_at : PySem.W.codeIn K cd_span_at "span_at" = true)
    (k_span_at : PySem.W.keepIn K (.ref f_span_at) = true)
    (a_letters_at : PySem.W.nsIn K mainGlobals "letters_at" = some (some (.ref f_letters_at)))
    (l_letters_at : K.lookup f_letters_at = some ⟨oc_letters_at, od_letters_at, .func (PySem.W.fnOf "letters_at" "letters_at" (defArgs s_letters_at) (defBody s_letters_at) (defScope s_letters_at) .none kV_letters_at dc_letters_at pm_letters_at an_letters_at cd_letters_at ct_letters_at), sl_letters_at⟩)
    (c_letters_at : PySem.W.codeIn K cd_letters_at "letters_at" = true)
    (k_letters_at : PySem.W.keepIn K (.ref f_letters_at) = true)
    (a_part_at : PySem.W.nsIn K mainGlobals "part_at" = some (some (.ref f_part_at)))
    (l_part_at : K.lookup f_part_at = some ⟨oc_part_at, od_part_at, .func (PySem.W.fnOf "part_at" "part_at" (defArgs s_part_at) (defBody s_part_at) (defScope s_part_at) .none kV_part_at dc_part_at pm_part_at an_part_at cd_part_at ct_part_at), sl_part_at⟩)
    (c_part_at : PySem.W.codeIn K cd_part_at "part_at" = true)
    (k_part_at : PySem.W.keepIn K (.ref f_part_at) = true)
    (a_parts_at : PySem.W.nsIn K mainGlobals "parts_at" = some (some (.ref f_parts_at)))
    (l_parts_at : K.lookup f_parts_at = some ⟨oc_parts_at, od_parts_at, .func (PySem.W.fnOf "parts_at" "parts_at" (defArgs s_parts_at) (defBody s_parts_at) (defScope s_parts_at) .none kV_parts_at dc_parts_at pm_parts_at an_parts_at cd_parts_at ct_parts_at), sl_parts_at⟩)
    (c_parts_at : PySem.W.codeIn K cd_parts_at "parts_at" = true)
    (k_parts_at : PySem.W.keepIn K (.ref f_parts_at) = true)
    (a_bare_form : PySem.W.nsIn K mainGlobals "bare_form" = some (some (.ref f_bare_form)))
    (l_bare_form : K.lookup f_bare_form = some ⟨oc_bare_form, od_bare_form, .func (PySem.W.fnOf "bare_form" "bare_form" (defArgs s_bare_form) (defBody s_bare_form) (defScope s_bare_form) .none kV_bare_form dc_bare_form pm_bare_form an_bare_form cd_bare_form ct_bare_form), sl_bare_form⟩)
    (c_bare_form : PySem.W.codeIn K cd_bare_form "bare_form" = true)
    (k_bare_form : PySem.W.keepIn K (.ref f_bare_form) = true)
    (a_bracketed_form_at : PySem.W.nsIn K mainGlobals "bracketed_form_at" = some (some (.ref f_bracketed_form_at)))
    (l_bracketed_form_at : K.lookup f_bracketed_form_at = some ⟨oc_bracketed_form_at, od_bracketed_form_at, .func (PySem.W.fnOf "bracketed_form_at" "bracketed_form_at" (defArgs s_bracketed_form_at) (defBody s_bracketed_form_at) (defScope s_bracketed_form_at) .none kV_bracketed_form_at dc_bracketed_form_at pm_bracketed_form_at an_bracketed_form_at cd_bracketed_form_at ct_bracketed_form_at), sl_bracketed_form_at⟩)
    (c_bracketed_form_at : PySem.W.codeIn K cd_bracketed_form_at "bracketed_form_at" = true)
    (k_bracketed_form_at : PySem.W.keepIn K (.ref f_bracketed_form_at) = true)
    (a_form_at : PySem.W.nsIn K mainGlobals "form_at" = some (some (.ref f_form_at)))
    (l_form_at : K.lookup f_form_at = some ⟨oc_form_at, od_form_at, .func (PySem.W.fnOf "form_at" "form_at" (defArgs s_form_at) (defBody s_form_at) (defScope s_form_at) .none kV_form_at dc_form_at pm_form_at an_form_at cd_form_at ct_form_at), sl_form_at⟩)
    (c_form_at : PySem.W.codeIn K cd_form_at "form_at" = true)
    (k_form_at : PySem.W.keepIn K (.ref f_form_at) = true)
    (a_form_of : PySem.W.nsIn K mainGlobals "form_of" = some (some (.ref f_form_of)))
    (l_form_of : K.lookup f_form_of = some ⟨oc_form_of, od_form_of, .func (PySem.W.fnOf "form_of" "form_of" (defArgs s_form_of) (defBody s_form_of) (defScope s_form_of) .none kV_form_of dc_form_of pm_form_of an_form_of cd_form_of ct_form_of), sl_form_of⟩)
    (c_form_of : PySem.W.codeIn K cd_form_of "form_of" = true)
    (k_form_of : PySem.W.keepIn K (.ref f_form_of) = true)
    (a_law_cell_at : PySem.W.nsIn K mainGlobals "_law_cell_at" = some (some (.ref f_law_cell_at)))
    (l_law_cell_at : K.lookup f_law_cell_at = some ⟨oc_law_cell_at, od_law_cell_at, .func (PySem.W.fnOf "_law_cell_at" "_law_cell_at" (defArgs s_law_cell_at) (defBody s_law_cell_at) (defScope s_law_cell_at) .none kV_law_cell_at dc_law_cell_at pm_law_cell_at an_law_cell_at cd_law_cell_at ct_law_cell_at), sl_law_cell_at⟩)
    (c_law_cell_at : PySem.W.codeIn K cd_law_cell_at "_law_cell_at" = true)
    (k_law_cell_at : PySem.W.keepIn K (.ref f_law_cell_at) = true)
    (a_law_mixed : PySem.W.nsIn K mainGlobals "_law_mixed" = some (some (.ref f_law_mixed)))
    (l_law_mixed : K.lookup f_law_mixed = some ⟨oc_law_mixed, od_law_mixed, .func (PySem.W.fnOf "_law_mixed" "_law_mixed" (defArgs s_law_mixed) (defBody s_law_mixed) (defScope s_law_mixed) .none kV_law_mixed dc_law_mixed pm_law_mixed an_law_mixed cd_law_mixed ct_law_mixed), sl_law_mixed⟩)
    (c_law_mixed : PySem.W.codeIn K cd_law_mixed "_law_mixed" = true)
    (k_law_mixed : PySem.W.keepIn K (.ref f_law_mixed) = true)
    (a_law_numbers_of : PySem.W.nsIn K mainGlobals "_law_numbers_of" = some (some (.ref f_law_numbers_of)))
    (l_law_numbers_of : K.lookup f_law_numbers_of = some ⟨oc_law_numbers_of, od_law_numbers_of, .func (PySem.W.fnOf "_law_numbers_of" "_law_numbers_of" (defArgs s_law_numbers_of) (defBody s_law_numbers_of) (defScope s_law_numbers_of) .none kV_law_numbers_of dc_law_numbers_of pm_law_numbers_of an_law_numbers_of cd_law_numbers_of ct_law_numbers_of), sl_law_numbers_of⟩)
    (c_law_numbers_of : PySem.W.codeIn K cd_law_numbers_of "_law_numbers_of" = true)
    (k_law_numbers_of : PySem.W.keepIn K (.ref f_law_numbers_of) = true)
    (a_law_names : PySem.W.nsIn K mainGlobals "_law_names" = some (some (.ref f_law_names)))
    (l_law_names : K.lookup f_law_names = some ⟨oc_law_names, od_law_names, .func (PySem.W.fnOf "_law_names" "_law_names" (defArgs s_law_names) (defBody s_law_names) (defScope s_law_names) .none kV_law_names dc_law_names pm_law_names an_law_names cd_law_names ct_law_names), sl_law_names⟩)
    (c_law_names : PySem.W.codeIn K cd_law_names "_law_names" = true)
    (k_law_names : PySem.W.keepIn K (.ref f_law_names) = true)
    (a_law_simple : PySem.W.nsIn K mainGlobals "_law_simple" = some (some (.ref f_law_simple)))
    (l_law_simple : K.lookup f_law_simple = some ⟨oc_law_simple, od_law_simple, .func (PySem.W.fnOf "_law_simple" "_law_simple" (defArgs s_law_simple) (defBody s_law_simple) (defScope s_law_simple) .none kV_law_simple dc_law_simple pm_law_simple an_law_simple cd_law_simple ct_law_simple), sl_law_simple⟩)
    (c_law_simple : PySem.W.codeIn K cd_law_simple "_law_simple" = true)
    (k_law_simple : PySem.W.keepIn K (.ref f_law_simple) = true)
    (a_law_tree : PySem.W.nsIn K mainGlobals "_law_tree" = some (some (.ref f_law_tree)))
    (l_law_tree : K.lookup f_law_tree = some ⟨oc_law_tree, od_law_tree, .func (PySem.W.fnOf "_law_tree" "_law_tree" (defArgs s_law_tree) (defBody s_law_tree) (defScope s_law_tree) .none kV_law_tree dc_law_tree pm_law_tree an_law_tree cd_law_tree ct_law_tree), sl_law_tree⟩)
    (c_law_tree : PySem.W.codeIn K cd_law_tree "_law_tree" = true)
    (k_law_tree : PySem.W.keepIn K (.ref f_law_tree) = true)
    (a_law_text : PySem.W.nsIn K mainGlobals "_law_text" = some (some (.ref f_law_text)))
    (l_law_text : K.lookup f_law_text = some ⟨oc_law_text, od_law_text, .func (PySem.W.fnOf "_law_text" "_law_text" (defArgs s_law_text) (defBody s_law_text) (defScope s_law_text) .none kV_law_text dc_law_text pm_law_text an_law_text cd_law_text ct_law_text), sl_law_text⟩)
    (c_law_text : PySem.W.codeIn K cd_law_text "_law_text" = true)
    (k_law_text : PySem.W.keepIn K (.ref f_law_text) = true)
    (a_law_drawn : PySem.W.nsIn K mainGlobals "_law_drawn" = some (some (.ref f_law_drawn)))
    (l_law_drawn : K.lookup f_law_drawn = some ⟨oc_law_drawn, od_law_drawn, .func (PySem.W.fnOf "_law_drawn" "_law_drawn" (defArgs s_law_drawn) (defBody s_law_drawn) (defScope s_law_drawn) .none kV_law_drawn dc_law_drawn pm_law_drawn an_law_drawn cd_law_drawn ct_law_drawn), sl_law_drawn⟩)
    (c_law_drawn : PySem.W.codeIn K cd_law_drawn "_law_drawn" = true)
    (k_law_drawn : PySem.W.keepIn K (.ref f_law_drawn) = true)
    (a_law_kinds : PySem.W.nsIn K mainGlobals "_law_kinds" = some (some (.ref f_law_kinds)))
    (l_law_kinds : K.lookup f_law_kinds = some ⟨oc_law_kinds, od_law_kinds, .func (PySem.W.fnOf "_law_kinds" "_law_kinds" (defArgs s_law_kinds) (defBody s_law_kinds) (defScope s_law_kinds) .none kV_law_kinds dc_law_kinds pm_law_kinds an_law_kinds cd_law_kinds ct_law_kinds), sl_law_kinds⟩)
    (c_law_kinds : PySem.W.codeIn K cd_law_kinds "_law_kinds" = true)
    (k_law_kinds : PySem.W.keepIn K (.ref f_law_kinds) = true)
    (a_law_good : PySem.W.nsIn K mainGlobals "_law_good" = some (some (.ref f_law_good)))
    (l_law_good : K.lookup f_law_good = some ⟨oc_law_good, od_law_good, .func (PySem.W.fnOf "_law_good" "_law_good" (defArgs s_law_good) (defBody s_law_good) (defScope s_law_good) .none kV_law_good dc_law_good pm_law_good an_law_good cd_law_good ct_law_good), sl_law_good⟩)
    (c_law_good : PySem.W.codeIn K cd_law_good "_law_good" = true)
    (k_law_good : PySem.W.keepIn K (.ref f_law_good) = true)
    (a_law : PySem.W.nsIn K mainGlobals "law" = some (some (.ref f_law)))
    (l_law : K.lookup f_law = some ⟨oc_law, od_law, .func (PySem.W.fnOf "law" "law" (defArgs s_law) (defBody s_law) (defScope s_law) .none kV_law dc_law pm_law an_law cd_law ct_law), sl_law⟩)
    (c_law : PySem.W.codeIn K cd_law "law" = true)
    (k_law : PySem.W.keepIn K (.ref f_law) = true)
    (z_len : PySem.W.nsIn K mainGlobals "len" = some none)
    (z_range : PySem.W.nsIn K mainGlobals "range" = some none)
    (z_int : PySem.W.nsIn K mainGlobals "int" = some none)
    (z_str : PySem.W.nsIn K mainGlobals "str" = some none)
    (z_bool : PySem.W.nsIn K mainGlobals "bool" = some none)
    (z_tuple : PySem.W.nsIn K mainGlobals "tuple" = some none)
    (z_isinstance : PySem.W.nsIn K mainGlobals "isinstance" = some none)
    (z_min : PySem.W.nsIn K mainGlobals "min" = some none)
    (z_max : PySem.W.nsIn K mainGlobals "max" = some none)
    (z_list : PySem.W.nsIn K mainGlobals "list" = some none)
    (z_all : PySem.W.nsIn K mainGlobals "all" = some none)
    (z_reversed : PySem.W.nsIn K mainGlobals "reversed" = some none)
    (z_enumerate : PySem.W.nsIn K mainGlobals "enumerate" = some none)
    (z_zip : PySem.W.nsIn K mainGlobals "zip" = some none)
    (z_set : PySem.W.nsIn K mainGlobals "set" = some none)
    (g0_MOST_SIGNS : PySem.W.nsIn K mainGlobals "MOST_SIGNS" = some (some (.int 60 tk_MOST_SIGNS)))
    (g0_MOST_PARTS : PySem.W.nsIn K mainGlobals "MOST_PARTS" = some (some (.int 20 tk_MOST_PARTS)))
    (g0_LONGEST_NAME : PySem.W.nsIn K mainGlobals "LONGEST_NAME" = some (some (.int 12 tk_LONGEST_NAME)))
    (g0_MOST_FIGURES : PySem.W.nsIn K mainGlobals "MOST_FIGURES" = some (some (.int 58 tk_MOST_FIGURES)))
    (g0_MOST_DEEP : PySem.W.nsIn K mainGlobals "MOST_DEEP" = some (some (.int 8 tk_MOST_DEEP)))
    (g0_SMALL_LETTERS : PySem.W.nsIn K mainGlobals "SMALL_LETTERS" = some (some (.str "abcdefghijklmnopqrstuvwxyz" tk_SMALL_LETTERS)))
    (g0_LETTERS_AND_FIGURES : PySem.W.nsIn K mainGlobals "LETTERS_AND_FIGURES" = some (some (.str "abcdefghijklmnopqrstuvwxyzABCDEFGHIJKLMNOPQRSTUVWXYZ0123456789" tk_LETTERS_AND_FIGURES)))
    (g0_FIGURES : PySem.W.nsIn K mainGlobals "FIGURES" = some (some (.str "0123456789" tk_FIGURES)))
    : ∃ fd : FuncData, (∀ (s : Shared) (v : Value), BindsTo s fd ⟨[v], []⟩ [("_law_script", v)]) ∧ ∀ base : Heap, K.In base → base.Ns mainGlobals mg → FnOk l.prog w K mg base CX0 42 fa fd ["_law_script"] (spLaw K) := by
  have e := hfa.symm.trans (PySem.W.mg_of X G a_law)
  cases e
  have cl_Nothing : Cls K C_Nothing := ⟨pg_Nothing, hd_Nothing, po_Nothing, sa_Nothing⟩
  have m_Nothing : mg "Nothing" = some (.ref C_Nothing) := PySem.W.mg_of X G aC_Nothing
  have M0_Nothing : Mk0 K C_Nothing := ⟨mk_Nothing, i0_Nothing, kc_Nothing⟩
  have F_Nothing_shown := fun_mk (st := s_Nothing_shown) l_Nothing_shown c_Nothing_shown k_Nothing_shown
  have b_Nothing_shown := F_Nothing_shown.binds (ps := ["self"]) fun _ _ _ _ _ _ us hl => by obtain ⟨_, rfl⟩ := ex1 us hl; rfl
  have t_Nothing_shown : Meth K C_Nothing "shown" f_Nothing_shown := ⟨a_Nothing_shown, i_Nothing_shown, k_Nothing_shown⟩
  have cl_Truth : Cls K C_Truth := ⟨pg_Truth, hd_Truth, po_Truth, sa_Truth⟩
  have m_Truth : mg "Truth" = some (.ref C_Truth) := PySem.W.mg_of X G aC_Truth
  have M0_Truth : Mk0 K C_Truth := ⟨mk_Truth, i0_Truth, kc_Truth⟩
  have F_Truth_shown := fun_mk (st := s_Truth_shown) l_Truth_shown c_Truth_shown k_Truth_shown
  have b_Truth_shown := F_Truth_shown.binds (ps := ["self"]) fun _ _ _ _ _ _ us hl => by obtain ⟨_, rfl⟩ := ex1 us hl; rfl
  have t_Truth_shown : Meth K C_Truth "shown" f_Truth_shown := ⟨a_Truth_shown, i_Truth_shown, k_Truth_shown⟩
  have cl_Whole : Cls K C_Whole := ⟨pg_Whole, hd_Whole, po_Whole, sa_Whole⟩
  have m_Whole : mg "Whole" = some (.ref C_Whole) := PySem.W.mg_of X G aC_Whole
  have M0_Whole : Mk0 K C_Whole := ⟨mk_Whole, i0_Whole, kc_Whole⟩
  have F_Whole_shown := fun_mk (st := s_Whole_shown) l_Whole_shown c_Whole_shown k_Whole_shown
  have b_Whole_shown := F_Whole_shown.binds (ps := ["self"]) fun _ _ _ _ _ _ us hl => by obtain ⟨_, rfl⟩ := ex1 us hl; rfl
  have t_Whole_shown : Meth K C_Whole "shown" f_Whole_shown := ⟨a_Whole_shown, i_Whole_shown, k_Whole_shown⟩
  have cl_Fraction : Cls K C_Fraction := ⟨pg_Fraction, hd_Fraction, po_Fraction, sa_Fraction⟩
  have m_Fraction : mg "Fraction" = some (.ref C_Fraction) := PySem.W.mg_of X G aC_Fraction
  have M0_Fraction : Mk0 K C_Fraction := ⟨mk_Fraction, i0_Fraction, kc_Fraction⟩
  have F_Fraction_shown := fun_mk (st := s_Fraction_shown) l_Fraction_shown c_Fraction_shown k_Fraction_shown
  have b_Fraction_shown := F_Fraction_shown.binds (ps := ["self"]) fun _ _ _ _ _ _ us hl => by obtain ⟨_, rfl⟩ := ex1 us hl; rfl
  have t_Fraction_shown : Meth K C_Fraction "shown" f_Fraction_shown := ⟨a_Fraction_shown, i_Fraction_shown, k_Fraction_shown⟩
  have cl_Span : Cls K C_Span := ⟨pg_Span, hd_Span, po_Span, sa_Span⟩
  have m_Span : mg "Span" = some (.ref C_Span) := PySem.W.mg_of X G aC_Span
  have F_Span_init := fun_mk (st := s_Span_init) l_Span_init c_Span_init k_Span_init
  have b_Span_init := F_Span_init.binds (ps := ["self", "low", "high"]) fun _ _ _ _ _ _ us hl => by obtain ⟨_, _, _, rfl⟩ := ex3 us hl; rfl
  have K_Span : Mk K C_Span f_Span_init := ⟨mk_Span, a_Span_init, i_Span_init, kc_Span⟩
  have F_Span_shown := fun_mk (st := s_Span_shown) l_Span_shown c_Span_shown k_Span_shown
  have b_Span_shown := F_Span_shown.binds (ps := ["self"]) fun _ _ _ _ _ _ us hl => by obtain ⟨_, rfl⟩ := ex1 us hl; rfl
  have t_Span_shown : Meth K C_Span "shown" f_Span_shown := ⟨a_Span_shown, i_Span_shown, k_Span_shown⟩
  have cl_Letters : Cls K C_Letters := ⟨pg_Letters, hd_Letters, po_Letters, sa_Letters⟩
  have m_Letters : mg "Letters" = some (.ref C_Letters) := PySem.W.mg_of X G aC_Letters
  have F_Letters_init := fun_mk (st := s_Letters_init) l_Letters_init c_Letters_init k_Letters_init
  have b_Letters_init := F_Letters_init.binds (ps := ["self", "signs"]) fun _ _ _ _ _ _ us hl => by obtain ⟨_, _, rfl⟩ := ex2 us hl; rfl
  have K_Letters : Mk K C_Letters f_Letters_init := ⟨mk_Letters, a_Letters_init, i_Letters_init, kc_Letters⟩
  have F_Letters_shown := fun_mk (st := s_Letters_shown) l_Letters_shown c_Letters_shown k_Letters_shown
  have b_Letters_shown := F_Letters_shown.binds (ps := ["self"]) fun _ _ _ _ _ _ us hl => by obtain ⟨_, rfl⟩ := ex1 us hl; rfl
  have t_Letters_shown : Meth K C_Letters "shown" f_Letters_shown := ⟨a_Letters_shown, i_Letters_shown, k_Letters_shown⟩
  have cl_Maybe : Cls K C_Maybe := ⟨pg_Maybe, hd_Maybe, po_Maybe, sa_Maybe⟩
  have m_Maybe : mg "Maybe" = some (.ref C_Maybe) := PySem.W.mg_of X G aC_Maybe
  have F_Maybe_init := fun_mk (st := s_Maybe_init) l_Maybe_init c_Maybe_init k_Maybe_init
  have b_Maybe_init := F_Maybe_init.binds (ps := ["self", "inner"]) fun _ _ _ _ _ _ us hl => by obtain ⟨_, _, rfl⟩ := ex2 us hl; rfl
  have K_Maybe : Mk K C_Maybe f_Maybe_init := ⟨mk_Maybe, a_Maybe_init, i_Maybe_init, kc_Maybe⟩
  have F_Maybe_shown := fun_mk (st := s_Maybe_shown) l_Maybe_shown c_Maybe_shown k_Maybe_shown
  have b_Maybe_shown := F_Maybe_shown.binds (ps := ["self"]) fun _ _ _ _ _ _ us hl => by obtain ⟨_, rfl⟩ := ex1 us hl; rfl
  have t_Maybe_shown : Meth K C_Maybe "shown" f_Maybe_shown := ⟨a_Maybe_shown, i_Maybe_shown, k_Maybe_shown⟩
  have cl_Many : Cls K C_Many := ⟨pg_Many, hd_Many, po_Many, sa_Many⟩
  have m_Many : mg "Many" = some (.ref C_Many) := PySem.W.mg_of X G aC_Many
  have F_Many_init := fun_mk (st := s_Many_init) l_Many_init c_Many_init k_Many_init
  have b_Many_init := F_Many_init.binds (ps := ["self", "inner"]) fun _ _ _ _ _ _ us hl => by obtain ⟨_, _, rfl⟩ := ex2 us hl; rfl
  have K_Many : Mk K C_Many f_Many_init := ⟨mk_Many, a_Many_init, i_Many_init, kc_Many⟩
  have F_Many_shown := fun_mk (st := s_Many_shown) l_Many_shown c_Many_shown k_Many_shown
  have b_Many_shown := F_Many_shown.binds (ps := ["self"]) fun _ _ _ _ _ _ us hl => by obtain ⟨_, rfl⟩ := ex1 us hl; rfl
  have t_Many_shown : Meth K C_Many "shown" f_Many_shown := ⟨a_Many_shown, i_Many_shown, k_Many_shown⟩
  have cl_Turned : Cls K C_Turned := ⟨pg_Turned, hd_Turned, po_Turned, sa_Turned⟩
  have m_Turned : mg "Turned" = some (.ref C_Turned) := PySem.W.mg_of X G aC_Turned
  have F_Turned_init := fun_mk (st := s_Turned_init) l_Turned_init c_Turned_init k_Turned_init
  have b_Turned_init := F_Turned_init.binds (ps := ["self", "inner"]) fun _ _ _ _ _ _ us hl => by obtain ⟨_, _, rfl⟩ := ex2 us hl; rfl
  have K_Turned : Mk K C_Turned f_Turned_init := ⟨mk_Turned, a_Turned_init, i_Turned_init, kc_Turned⟩
  have F_Turned_shown := fun_mk (st := s_Turned_shown) l_Turned_shown c_Turned_shown k_Turned_shown
  have b_Turned_shown := F_Turned_shown.binds (ps := ["self"]) fun _ _ _ _ _ _ us hl => by obtain ⟨_, rfl⟩ := ex1 us hl; rfl
  have t_Turned_shown : Meth K C_Turned "shown" f_Turned_shown := ⟨a_Turned_shown, i_Turned_shown, k_Turned_shown⟩
  have cl_Record : Cls K C_Record := ⟨pg_Record, hd_Record, po_Record, sa_Record⟩
  have m_Record : mg "Record" = some (.ref C_Record) := PySem.W.mg_of X G aC_Record
  have F_Record_init := fun_mk (st := s_Record_init) l_Record_init c_Record_init k_Record_init
  have b_Record_init := F_Record_init.binds (ps := ["self", "parts"]) fun _ _ _ _ _ _ us hl => by obtain ⟨_, _, rfl⟩ := ex2 us hl; rfl
  have K_Record : Mk K C_Record f_Record_init := ⟨mk_Record, a_Record_init, i_Record_init, kc_Record⟩
  have F_Record_shown := fun_mk (st := s_Record_shown) l_Record_shown c_Record_shown k_Record_shown
  have b_Record_shown := F_Record_shown.binds (ps := ["self"]) fun _ _ _ _ _ _ us hl => by obtain ⟨_, rfl⟩ := ex1 us hl; rfl
  have t_Record_shown : Meth K C_Record "shown" f_Record_shown := ⟨a_Record_shown, i_Record_shown, k_Record_shown⟩
  have cl_Choice : Cls K C_Choice := ⟨pg_Choice, hd_Choice, po_Choice, sa_Choice⟩
  have m_Choice : mg "Choice" = some (.ref C_Choice) := PySem.W.mg_of X G aC_Choice
  have F_Choice_init := fun_mk (st := s_Choice_init) l_Choice_init c_Choice_init k_Choice_init
  have b_Choice_init := F_Choice_init.binds (ps := ["self", "cases"]) fun _ _ _ _ _ _ us hl => by obtain ⟨_, _, rfl⟩ := ex2 us hl; rfl
  have K_Choice : Mk K C_Choice f_Choice_init := ⟨mk_Choice, a_Choice_init, i_Choice_init, kc_Choice⟩
  have F_Choice_shown := fun_mk (st := s_Choice_shown) l_Choice_shown c_Choice_shown k_Choice_shown
  have b_Choice_shown := F_Choice_shown.binds (ps := ["self"]) fun _ _ _ _ _ _ us hl => by obtain ⟨_, rfl⟩ := ex1 us hl; rfl
  have t_Choice_shown : Meth K C_Choice "shown" f_Choice_shown := ⟨a_Choice_shown, i_Choice_shown, k_Choice_shown⟩
  have cl_Cursor : Cls K C_Cursor := ⟨pg_Cursor, hd_Cursor, po_Cursor, sa_Cursor⟩
  have m_Cursor : mg "Cursor" = some (.ref C_Cursor) := PySem.W.mg_of X G aC_Cursor
  have F_Cursor_init := fun_mk (st := s_Cursor_init) l_Cursor_init c_Cursor_init k_Cursor_init
  have b_Cursor_init := F_Cursor_init.binds (ps := ["self", "text"]) fun _ _ _ _ _ _ us hl => by obtain ⟨_, _, rfl⟩ := ex2 us hl; rfl
  have K_Cursor : Mk K C_Cursor f_Cursor_init := ⟨mk_Cursor, a_Cursor_init, i_Cursor_init, kc_Cursor⟩
  have F_Cursor_ended := fun_mk (st := s_Cursor_ended) l_Cursor_ended c_Cursor_ended k_Cursor_ended
  have b_Cursor_ended := F_Cursor_ended.binds (ps := ["self"]) fun _ _ _ _ _ _ us hl => by obtain ⟨_, rfl⟩ := ex1 us hl; rfl
  have t_Cursor_ended : Meth K C_Cursor "ended" f_Cursor_ended := ⟨a_Cursor_ended, i_Cursor_ended, k_Cursor_ended⟩
  have F_Cursor_skip := fun_mk (st := s_Cursor_skip) l_Cursor_skip c_Cursor_skip k_Cursor_skip
  have b_Cursor_skip := F_Cursor_skip.binds (ps := ["self", "words"]) fun _ _ _ _ _ _ us hl => by obtain ⟨_, _, rfl⟩ := ex2 us hl; rfl
  have t_Cursor_skip : Meth K C_Cursor "skip" f_Cursor_skip := ⟨a_Cursor_skip, i_Cursor_skip, k_Cursor_skip⟩
  have F_Cursor_expect := fun_mk (st := s_Cursor_expect) l_Cursor_expect c_Cursor_expect k_Cursor_expect
  have b_Cursor_expect := F_Cursor_expect.binds (ps := ["self", "words"]) fun _ _ _ _ _ _ us hl => by obtain ⟨_, _, rfl⟩ := ex2 us hl; rfl
  have t_Cursor_expect : Meth K C_Cursor "expect" f_Cursor_expect := ⟨a_Cursor_expect, i_Cursor_expect, k_Cursor_expect⟩
  have F_Cursor_run_of := fun_mk (st := s_Cursor_run_of) l_Cursor_run_of c_Cursor_run_of k_Cursor_run_of
  have b_Cursor_run_of := F_Cursor_run_of.binds (ps := ["self", "signs"]) fun _ _ _ _ _ _ us hl => by obtain ⟨_, _, rfl⟩ := ex2 us hl; rfl
  have t_Cursor_run_of : Meth K C_Cursor "run_of" f_Cursor_run_of := ⟨a_Cursor_run_of, i_Cursor_run_of, k_Cursor_run_of⟩
  have is_Nothing : Ins K C_Nothing := ⟨cl_Nothing, ic_Nothing, ihn, itk, io_Nothing⟩
  have gc_Nothing : GlobV mg "Nothing" (.ref C_Nothing) := ⟨_, m_Nothing, rfl⟩
  have is_Truth : Ins K C_Truth := ⟨cl_Truth, ic_Truth, ihn, itk, io_Truth⟩
  have gc_Truth : GlobV mg "Truth" (.ref C_Truth) := ⟨_, m_Truth, rfl⟩
  have is_Whole : Ins K C_Whole := ⟨cl_Whole, ic_Whole, ihn, itk, io_Whole⟩
  have gc_Whole : GlobV mg "Whole" (.ref C_Whole) := ⟨_, m_Whole, rfl⟩
  have is_Fraction : Ins K C_Fraction := ⟨cl_Fraction, ic_Fraction, ihn, itk, io_Fraction⟩
  have gc_Fraction : GlobV mg "Fraction" (.ref C_Fraction) := ⟨_, m_Fraction, rfl⟩
  have is_Span : Ins K C_Span := ⟨cl_Span, ic_Span, ihn, itk, io_Span⟩
  have gc_Span : GlobV mg "Span" (.ref C_Span) := ⟨_, m_Span, rfl⟩
  have is_Letters : Ins K C_Letters := ⟨cl_Letters, ic_Letters, ihn, itk, io_Letters⟩
  have gc_Letters : GlobV mg "Letters" (.ref C_Letters) := ⟨_, m_Letters, rfl⟩
  have is_Maybe : Ins K C_Maybe := ⟨cl_Maybe, ic_Maybe, ihn, itk, io_Maybe⟩
  have gc_Maybe : GlobV mg "Maybe" (.ref C_Maybe) := ⟨_, m_Maybe, rfl⟩
  have is_Many : Ins K C_Many := ⟨cl_Many, ic_Many, ihn, itk, io_Many⟩
  have gc_Many : GlobV mg "Many" (.ref C_Many) := ⟨_, m_Many, rfl⟩
  have is_Turned : Ins K C_Turned := ⟨cl_Turned, ic_Turned, ihn, itk, io_Turned⟩
  have gc_Turned : GlobV mg "Turned" (.ref C_Turned) := ⟨_, m_Turned, rfl⟩
  have is_Record : Ins K C_Record := ⟨cl_Record, ic_Record, ihn, itk, io_Record⟩
  have gc_Record : GlobV mg "Record" (.ref C_Record) := ⟨_, m_Record, rfl⟩
  have is_Choice : Ins K C_Choice := ⟨cl_Choice, ic_Choice, ihn, itk, io_Choice⟩
  have gc_Choice : GlobV mg "Choice" (.ref C_Choice) := ⟨_, m_Choice, rfl⟩
  have gm_Form : mg "Form" = some (.ref C_Form) := PySem.W.mg_of X G aC_Form
  have gc_Form : GlobV mg "Form" (.ref C_Form) := ⟨_, gm_Form, rfl⟩
  have F_made_of : FunAt K mg "made_of" s_made_of ["text", "signs"] f_made_of _ := ⟨fun_mk (st := s_made_of) l_made_of c_made_of k_made_of, (fun_mk (st := s_made_of) l_made_of c_made_of k_made_of).binds (ps := ["text", "signs"]) fun _ _ _ _ _ _ us hl => by obtain ⟨_, _, rfl⟩ := ex2 us hl; rfl, PySem.W.mg_of X G a_made_of⟩
  have F_is_name : FunAt K mg "is_name" s_is_name ["name"] f_is_name _ := ⟨fun_mk (st := s_is_name) l_is_name c_is_name k_is_name, (fun_mk (st := s_is_name) l_is_name c_is_name k_is_name).binds (ps := ["name"]) fun _ _ _ _ _ _ us hl => by obtain ⟨_, rfl⟩ := ex1 us hl; rfl, PySem.W.mg_of X G a_is_name⟩
  have F_names_of : FunAt K mg "names_of" s_names_of ["parts"] f_names_of _ := ⟨fun_mk (st := s_names_of) l_names_of c_names_of k_names_of, (fun_mk (st := s_names_of) l_names_of c_names_of k_names_of).binds (ps := ["parts"]) fun _ _ _ _ _ _ us hl => by obtain ⟨_, rfl⟩ := ex1 us hl; rfl, PySem.W.mg_of X G a_names_of⟩
  have F_shown_parts : FunAt K mg "shown_parts" s_shown_parts ["names", "forms"] f_shown_parts _ := ⟨fun_mk (st := s_shown_parts) l_shown_parts c_shown_parts k_shown_parts, (fun_mk (st := s_shown_parts) l_shown_parts c_shown_parts k_shown_parts).binds (ps := ["names", "forms"]) fun _ _ _ _ _ _ us hl => by obtain ⟨_, _, rfl⟩ := ex2 us hl; rfl, PySem.W.mg_of X G a_shown_parts⟩
  have F_number_at : FunAt K mg "number_at" s_number_at ["cursor"] f_number_at _ := ⟨fun_mk (st := s_number_at) l_number_at c_number_at k_number_at, (fun_mk (st := s_number_at) l_number_at c_number_at k_number_at).binds (ps := ["cursor"]) fun _ _ _ _ _ _ us hl => by obtain ⟨_, rfl⟩ := ex1 us hl; rfl, PySem.W.mg_of X G a_number_at⟩
  have F_span_at : FunAt K mg "span_at" s_span_at ["cursor"] f_span_at _ := ⟨fun_mk (st := s_span_at) l_span_at c_span_at k_span_at, (fun_mk (st := s_span_at) l_span_at c_span_at k_span_at).binds (ps := ["cursor"]) fun _ _ _ _ _ _ us hl => by obtain ⟨_, rfl⟩ := ex1 us hl; rfl, PySem.W.mg_of X G a_span_at⟩
  have F_letters_at : FunAt K mg "letters_at" s_letters_at ["cursor"] f_letters_at _ := ⟨fun_mk (st := s_letters_at) l_letters_at c_letters_at k_letters_at, (fun_mk (st := s_letters_at) l_letters_at c_letters_at k_letters_at).binds (ps := ["cursor"]) fun _ _ _ _ _ _ us hl => by obtain ⟨_, rfl⟩ := ex1 us hl; rfl, PySem.W.mg_of X G a_letters_at⟩
  have F_part_at : FunAt K mg "part_at" s_part_at ["cursor", "depth"] f_part_at _ := ⟨fun_mk (st := s_part_at) l_part_at c_part_at k_part_at, (fun_mk (st := s_part_at) l_part_at c_part_at k_part_at).binds (ps := ["cursor", "depth"]) fun _ _ _ _ _ _ us hl => by obtain ⟨_, _, rfl⟩ := ex2 us hl; rfl, PySem.W.mg_of X G a_part_at⟩
  have F_parts_at : FunAt K mg "parts_at" s_parts_at ["cursor", "depth"] f_parts_at _ := ⟨fun_mk (st := s_parts_at) l_parts_at c_parts_at k_parts_at, (fun_mk (st := s_parts_at) l_parts_at c_parts_at k_parts_at).binds (ps := ["cursor", "depth"]) fun _ _ _ _ _ _ us hl => by obtain ⟨_, _, rfl⟩ := ex2 us hl; rfl, PySem.W.mg_of X G a_parts_at⟩
  have F_bare_form : FunAt K mg "bare_form" s_bare_form ["word"] f_bare_form _ := ⟨fun_mk (st := s_bare_form) l_bare_form c_bare_form k_bare_form, (fun_mk (st := s_bare_form) l_bare_form c_bare_form k_bare_form).binds (ps := ["word"]) fun _ _ _ _ _ _ us hl => by obtain ⟨_, rfl⟩ := ex1 us hl; rfl, PySem.W.mg_of X G a_bare_form⟩
  have F_bracketed_form_at : FunAt K mg "bracketed_form_at" s_bracketed_form_at ["cursor", "word", "depth"] f_bracketed_form_at _ := ⟨fun_mk (st := s_bracketed_form_at) l_bracketed_form_at c_bracketed_form_at k_bracketed_form_at, (fun_mk (st := s_bracketed_form_at) l_bracketed_form_at c_bracketed_form_at k_bracketed_form_at).binds (ps := ["cursor", "word", "depth"]) fun _ _ _ _ _ _ us hl => by obtain ⟨_, _, _, rfl⟩ := ex3 us hl; rfl, PySem.W.mg_of X G a_bracketed_form_at⟩
  have F_form_at : FunAt K mg "form_at" s_form_at ["cursor", "depth"] f_form_at _ := ⟨fun_mk (st := s_form_at) l_form_at c_form_at k_form_at, (fun_mk (st := s_form_at) l_form_at c_form_at k_form_at).binds (ps := ["cursor", "depth"]) fun _ _ _ _ _ _ us hl => by obtain ⟨_, _, rfl⟩ := ex2 us hl; rfl, PySem.W.mg_of X G a_form_at⟩
  have F_form_of : FunAt K mg "form_of" s_form_of ["text"] f_form_of _ := ⟨fun_mk (st := s_form_of) l_form_of c_form_of k_form_of, (fun_mk (st := s_form_of) l_form_of c_form_of k_form_of).binds (ps := ["text"]) fun _ _ _ _ _ _ us hl => by obtain ⟨_, rfl⟩ := ex1 us hl; rfl, PySem.W.mg_of X G a_form_of⟩
  have F_law_cell_at : FunAt K mg "_law_cell_at" s_law_cell_at ["_law_script", "_law_k"] f_law_cell_at _ := ⟨fun_mk (st := s_law_cell_at) l_law_cell_at c_law_cell_at k_law_cell_at, (fun_mk (st := s_law_cell_at) l_law_cell_at c_law_cell_at k_law_cell_at).binds (ps := ["_law_script", "_law_k"]) fun _ _ _ _ _ _ us hl => by obtain ⟨_, _, rfl⟩ := ex2 us hl; rfl, PySem.W.mg_of X G a_law_cell_at⟩
  have F_law_mixed : FunAt K mg "_law_mixed" s_law_mixed ["_law_cell", "_law_k"] f_law_mixed _ := ⟨fun_mk (st := s_law_mixed) l_law_mixed c_law_mixed k_law_mixed, (fun_mk (st := s_law_mixed) l_law_mixed c_law_mixed k_law_mixed).binds (ps := ["_law_cell", "_law_k"]) fun _ _ _ _ _ _ us hl => by obtain ⟨_, _, rfl⟩ := ex2 us hl; rfl, PySem.W.mg_of X G a_law_mixed⟩
  have F_law_numbers_of : FunAt K mg "_law_numbers_of" s_law_numbers_of ["_law_script", "_law_many", "_law_salt"] f_law_numbers_of _ := ⟨fun_mk (st := s_law_numbers_of) l_law_numbers_of c_law_numbers_of k_law_numbers_of, (fun_mk (st := s_law_numbers_of) l_law_numbers_of c_law_numbers_of k_law_numbers_of).binds (ps := ["_law_script", "_law_many", "_law_salt"]) fun _ _ _ _ _ _ us hl => by obtain ⟨_, _, _, rfl⟩ := ex3 us hl; rfl, PySem.W.mg_of X G a_law_numbers_of⟩
  have F_law_names : FunAt K mg "_law_names" s_law_names ["_law_number", "_law_many"] f_law_names _ := ⟨fun_mk (st := s_law_names) l_law_names c_law_names k_law_names, (fun_mk (st := s_law_names) l_law_names c_law_names k_law_names).binds (ps := ["_law_number", "_law_many"]) fun _ _ _ _ _ _ us hl => by obtain ⟨_, _, rfl⟩ := ex2 us hl; rfl, PySem.W.mg_of X G a_law_names⟩
  have F_law_simple : FunAt K mg "_law_simple" s_law_simple ["_law_word", "_law_number", "_law_last"] f_law_simple _ := ⟨fun_mk (st := s_law_simple) l_law_simple c_law_simple k_law_simple, (fun_mk (st := s_law_simple) l_law_simple c_law_simple k_law_simple).binds (ps := ["_law_word", "_law_number", "_law_last"]) fun _ _ _ _ _ _ us hl => by obtain ⟨_, _, _, rfl⟩ := ex3 us hl; rfl, PySem.W.mg_of X G a_law_simple⟩
  have F_law_tree : FunAt K mg "_law_tree" s_law_tree ["_law_left", "_law_deep"] f_law_tree _ := ⟨fun_mk (st := s_law_tree) l_law_tree c_law_tree k_law_tree, (fun_mk (st := s_law_tree) l_law_tree c_law_tree k_law_tree).binds (ps := ["_law_left", "_law_deep"]) fun _ _ _ _ _ _ us hl => by obtain ⟨_, _, rfl⟩ := ex2 us hl; rfl, PySem.W.mg_of X G a_law_tree⟩
  have F_law_text : FunAt K mg "_law_text" s_law_text ["_law_tree_here"] f_law_text _ := ⟨fun_mk (st := s_law_text) l_law_text c_law_text k_law_text, (fun_mk (st := s_law_text) l_law_text c_law_text k_law_text).binds (ps := ["_law_tree_here"]) fun _ _ _ _ _ _ us hl => by obtain ⟨_, rfl⟩ := ex1 us hl; rfl, PySem.W.mg_of X G a_law_text⟩
  have F_law_drawn : FunAt K mg "_law_drawn" s_law_drawn ["_law_script", "_law_salt"] f_law_drawn _ := ⟨fun_mk (st := s_law_drawn) l_law_drawn c_law_drawn k_law_drawn, (fun_mk (st := s_law_drawn) l_law_drawn c_law_drawn k_law_drawn).binds (ps := ["_law_script", "_law_salt"]) fun _ _ _ _ _ _ us hl => by obtain ⟨_, _, rfl⟩ := ex2 us hl; rfl, PySem.W.mg_of X G a_law_drawn⟩
  have F_law_kinds : FunAt K mg "_law_kinds" s_law_kinds ["_law_form"] f_law_kinds _ := ⟨fun_mk (st := s_law_kinds) l_law_kinds c_law_kinds k_law_kinds, (fun_mk (st := s_law_kinds) l_law_kinds c_law_kinds k_law_kinds).binds (ps := ["_law_form"]) fun _ _ _ _ _ _ us hl => by obtain ⟨_, rfl⟩ := ex1 us hl; rfl, PySem.W.mg_of X G a_law_kinds⟩
  have F_law_good : FunAt K mg "_law_good" s_law_good ["_law_form", "_law_tree_here"] f_law_good _ := ⟨fun_mk (st := s_law_good) l_law_good c_law_good k_law_good, (fun_mk (st := s_law_good) l_law_good c_law_good k_law_good).binds (ps := ["_law_form", "_law_tree_here"]) fun _ _ _ _ _ _ us hl => by obtain ⟨_, _, rfl⟩ := ex2 us hl; rfl, PySem.W.mg_of X G a_law_good⟩
  have F_law := fun_mk (st := s_law) l_law c_law k_law
  have nb : NB mg := ⟨PySem.W.mg_none_of X G z_len, PySem.W.mg_none_of X G z_range, PySem.W.mg_none_of X G z_int, PySem.W.mg_none_of X G z_str, PySem.W.mg_none_of X G z_bool, PySem.W.mg_none_of X G z_tuple, PySem.W.mg_none_of X G z_isinstance, PySem.W.mg_none_of X G z_min, PySem.W.mg_none_of X G z_max, PySem.W.mg_none_of X G z_list, PySem.W.mg_none_of X G z_all, PySem.W.mg_none_of X G z_reversed, PySem.W.mg_none_of X G z_enumerate, PySem.W.mg_none_of X G z_zip, PySem.W.mg_none_of X G z_set⟩
  have g_MOST_SIGNS : GlobV mg "MOST_SIGNS" (.int 60) := ⟨_, PySem.W.mg_of X G g0_MOST_SIGNS, ⟨_, rfl⟩⟩
  have g_MOST_PARTS : GlobV mg "MOST_PARTS" (.int 20) := ⟨_, PySem.W.mg_of X G g0_MOST_PARTS, ⟨_, rfl⟩⟩
  have g_LONGEST_NAME : GlobV mg "LONGEST_NAME" (.int 12) := ⟨_, PySem.W.mg_of X G g0_LONGEST_NAME, ⟨_, rfl⟩⟩
  have g_MOST_FIGURES : GlobV mg "MOST_FIGURES" (.int 58) := ⟨_, PySem.W.mg_of X G g0_MOST_FIGURES, ⟨_, rfl⟩⟩
  have g_MOST_DEEP : GlobV mg "MOST_DEEP" (.int 8) := ⟨_, PySem.W.mg_of X G g0_MOST_DEEP, ⟨_, rfl⟩⟩
  have g_SMALL_LETTERS : GlobV mg "SMALL_LETTERS" (.str L26) := ⟨_, PySem.W.mg_of X G g0_SMALL_LETTERS, ⟨_, rfl⟩⟩
  have g_LETTERS_AND_FIGURES : GlobV mg "LETTERS_AND_FIGURES" (.str L62) := ⟨_, PySem.W.mg_of X G g0_LETTERS_AND_FIGURES, ⟨_, rfl⟩⟩
  have g_FIGURES : GlobV mg "FIGURES" (.str FIG) := ⟨_, PySem.W.mg_of X G g0_FIGURES, ⟨_, rfl⟩⟩
  refine ⟨PySem.W.fnOf "law" "law" (defArgs s_law) (defBody s_law) (defScope s_law) .none kV_law dc_law pm_law an_law cd_law ct_law, fun s v => .of_eq rfl, fun base _ _ => ?_⟩
  have D_made_of := ok_made_of (P := l.prog) (w := w) (base := base) nb F_made_of
  have D_is_name := ok_is_name nb g_LONGEST_NAME g_SMALL_LETTERS F_is_name D_made_of
  have D_names_of := ok_names_of nb g_MOST_PARTS F_names_of D_is_name
  have TS : SpanCls K C_Span := ⟨cl_Span, n_Span_low, n_Span_high⟩
  have TL : LetCls K C_Letters := ⟨cl_Letters, n_Letters_signs⟩
  have TR : TwoCls K C_Record := ⟨cl_Record, n_Record_names, n_Record_forms⟩
  have TC : TwoCls K C_Choice := ⟨cl_Choice, n_Choice_names, n_Choice_forms⟩
  have TM : OneCls K C_Maybe := ⟨cl_Maybe, n_Maybe_inner⟩
  have TY : OneCls K C_Many := ⟨cl_Many, n_Many_inner⟩
  have TT : OneCls K C_Turned := ⟨cl_Turned, n_Turned_inner⟩
  have TU : CurCls K C_Cursor := ⟨cl_Cursor, n_Cursor_text, n_Cursor_place⟩
  have M_Span : MakeOk l.prog w K mg base 1 "Span" C_Span ["self", "low", "high"] (spSpanInit C_Span) := ⟨_, _, K_Span, ok_span_init TS F_Span_init, b_Span_init, m_Span⟩
  have M_Letters : MakeOk l.prog w K mg base 2 "Letters" C_Letters ["self", "signs"] (spLetInit C_Letters) := ⟨_, _, K_Letters, ok_let_init nb g_MOST_SIGNS g_LETTERS_AND_FIGURES TL F_Letters_init D_made_of, b_Letters_init, m_Letters⟩
  have M_Record : MakeOk l.prog w K mg base 4 "Record" C_Record ["self", "parts"] (spTwoInit C_Record) := ⟨_, _, K_Record, ok_rec_init nb TR F_Record_init D_names_of, b_Record_init, m_Record⟩
  have M_Choice : MakeOk l.prog w K mg base 4 "Choice" C_Choice ["self", "cases"] (spTwoInit C_Choice) := ⟨_, _, K_Choice, ok_cho_init nb TC F_Choice_init D_names_of, b_Choice_init, m_Choice⟩
  have M_Maybe : MakeOk l.prog w K mg base 1 "Maybe" C_Maybe ["self", "inner"] (spOneInit C_Maybe) := ⟨_, _, K_Maybe, ok_maybe_init TM F_Maybe_init, b_Maybe_init, m_Maybe⟩
  have M_Many : MakeOk l.prog w K mg base 1 "Many" C_Many ["self", "inner"] (spOneInit C_Many) := ⟨_, _, K_Many, ok_many_init TY F_Many_init, b_Many_init, m_Many⟩
  have M_Turned : MakeOk l.prog w K mg base 1 "Turned" C_Turned ["self", "inner"] (spOneInit C_Turned) := ⟨_, _, K_Turned, ok_turned_init TT F_Turned_init, b_Turned_init, m_Turned⟩
  have M_Cursor : MakeOk l.prog w K mg base 1 "Cursor" C_Cursor ["self", "text"] (spCurInit C_Cursor) := ⟨_, _, K_Cursor, ok_cur_init TU F_Cursor_init, b_Cursor_init, m_Cursor⟩
  have M_ended : MethOk l.prog w K mg base 1 C_Cursor "ended" ["self"] (spEnded C_Cursor) := ⟨_, _, ok_ended nb TU F_Cursor_ended, b_Cursor_ended, t_Cursor_ended⟩
  have M_skip : MethOk l.prog w K mg base 1 C_Cursor "skip" ["self", "words"] (spSkip C_Cursor) := ⟨_, _, ok_skip nb TU F_Cursor_skip, b_Cursor_skip, t_Cursor_skip⟩
  have M_expect : MethOk l.prog w K mg base 2 C_Cursor "expect" ["self", "words"] (spExpect C_Cursor) := ⟨_, _, ok_expect TU F_Cursor_expect cl_Cursor M_skip, b_Cursor_expect, t_Cursor_expect⟩
  have M_run_of : MethOk l.prog w K mg base 2 C_Cursor "run_of" ["self", "signs"] (spRun C_Cursor) := ⟨_, _, ok_run_of TU F_Cursor_run_of cl_Cursor M_ended, b_Cursor_run_of, t_Cursor_run_of⟩
  obtain ⟨c, hc⟩ : ∃ c : FC, c = ⟨fun k => [C_Nothing, C_Truth, C_Whole, C_Fraction][k], C_Span, C_Letters, fun k => [C_Maybe, C_Many, C_Turned][k], fun k => [C_Record, C_Choice][k]⟩ := ⟨_, rfl⟩
  have ec_Nothing : c.b 0 = C_Nothing := by rw [hc]; rfl
  have ec_Truth : c.b 1 = C_Truth := by rw [hc]; rfl
  have ec_Whole : c.b 2 = C_Whole := by rw [hc]; rfl
  have ec_Fraction : c.b 3 = C_Fraction := by rw [hc]; rfl
  have ec_Span : c.s = C_Span := by rw [hc]
  have ec_Letters : c.l = C_Letters := by rw [hc]
  have ec_Maybe : c.o 0 = C_Maybe := by rw [hc]; rfl
  have ec_Many : c.o 1 = C_Many := by rw [hc]; rfl
  have ec_Turned : c.o 2 = C_Turned := by rw [hc]; rfl
  have ec_Record : c.t 0 = C_Record := by rw [hc]; rfl
  have ec_Choice : c.t 1 = C_Choice := by rw [hc]; rfl
  clear hc
  subst ec_Nothing
  subst ec_Truth
  subst ec_Whole
  subst ec_Fraction
  subst ec_Span
  subst ec_Letters
  subst ec_Maybe
  subst ec_Many
  subst ec_Turned
  subst ec_Record
  subst ec_Choice
  have SH : Shs K c := ⟨⟨⟨_, _, F_Nothing_shown, b_Nothing_shown, t_Nothing_shown⟩, cl_Nothing⟩, ⟨⟨_, _, F_Truth_shown, b_Truth_shown, t_Truth_shown⟩, cl_Truth⟩, ⟨⟨_, _, F_Whole_shown, b_Whole_shown, t_Whole_shown⟩, cl_Whole⟩, ⟨⟨_, _, F_Fraction_shown, b_Fraction_shown, t_Fraction_shown⟩, cl_Fraction⟩, ⟨⟨_, _, F_Span_shown, b_Span_shown, t_Span_shown⟩, cl_Span⟩, ⟨⟨_, _, F_Letters_shown, b_Letters_shown, t_Letters_shown⟩, cl_Letters⟩, ⟨⟨_, _, F_Maybe_shown, b_Maybe_shown, t_Maybe_shown⟩, cl_Maybe⟩, ⟨⟨_, _, F_Many_shown, b_Many_shown, t_Many_shown⟩, cl_Many⟩, ⟨⟨_, _, F_Turned_shown, b_Turned_shown, t_Turned_shown⟩, cl_Turned⟩, ⟨⟨_, _, F_Record_shown, b_Record_shown, t_Record_shown⟩, cl_Record⟩, ⟨⟨_, _, F_Choice_shown, b_Choice_shown, t_Choice_shown⟩, cl_Choice⟩, TS, TL, (fun k => by rcases fin3 k with rfl | rfl | rfl <;> first | exact TM | exact TY | exact TT), (fun k => by rcases fin2 k with rfl | rfl <;> first | exact TR | exact TC)⟩
  have N31 : Nam31 mg c C_Form := ⟨gc_Nothing, gc_Truth, gc_Whole, gc_Fraction, gc_Span, gc_Letters, gc_Maybe, gc_Many, gc_Turned, gc_Record, gc_Choice, gc_Form⟩
  have KD : ∀ i : Sl, Kd31 K c C_Form (clS c i) (wS i) := by
    intro i
    cases i with
    | b k =>
      rcases fin4 k with rfl | rfl | rfl | rfl
      · exact ⟨is_Nothing, kt_Nothing_Form, (fun k => by rcases fin4 k with rfl | rfl | rfl | rfl <;> first | exact kit_same .. | exact kt_Nothing_Truth | exact kt_Nothing_Whole | exact kt_Nothing_Fraction), kt_Nothing_Span, kt_Nothing_Letters, (fun k => by rcases fin3 k with rfl | rfl | rfl <;> first | exact kt_Nothing_Maybe | exact kt_Nothing_Many | exact kt_Nothing_Turned), (fun k => by rcases fin2 k with rfl | rfl <;> first | exact kt_Nothing_Record | exact kt_Nothing_Choice)⟩
      · exact ⟨is_Truth, kt_Truth_Form, (fun k => by rcases fin4 k with rfl | rfl | rfl | rfl <;> first | exact kt_Truth_Nothing | exact kit_same .. | exact kt_Truth_Whole | exact kt_Truth_Fraction), kt_Truth_Span, kt_Truth_Letters, (fun k => by rcases fin3 k with rfl | rfl | rfl <;> first | exact kt_Truth_Maybe | exact kt_Truth_Many | exact kt_Truth_Turned), (fun k => by rcases fin2 k with rfl | rfl <;> first | exact kt_Truth_Record | exact kt_Truth_Choice)⟩
      · exact ⟨is_Whole, kt_Whole_Form, (fun k => by rcases fin4 k with rfl | rfl | rfl | rfl <;> first | exact kt_Whole_Nothing | exact kt_Whole_Truth | exact kit_same .. | exact kt_Whole_Fraction), kt_Whole_Span, kt_Whole_Letters, (fun k => by rcases fin3 k with rfl | rfl | rfl <;> first | exact kt_Whole_Maybe | exact kt_Whole_Many | exact kt_Whole_Turned), (fun k => by rcases fin2 k with rfl | rfl <;> first | exact kt_Whole_Record | exact kt_Whole_Choice)⟩
      · exact ⟨is_Fraction, kt_Fraction_Form, (fun k => by rcases fin4 k with rfl | rfl | rfl | rfl <;> first | exact kt_Fraction_Nothing | exact kt_Fraction_Truth | exact kt_Fraction_Whole | exact kit_same ..), kt_Fraction_Span, kt_Fraction_Letters, (fun k => by rcases fin3 k with rfl | rfl | rfl <;> first | exact kt_Fraction_Maybe | exact kt_Fraction_Many | exact kt_Fraction_Turned), (fun k => by rcases fin2 k with rfl | rfl <;> first | exact kt_Fraction_Record | exact kt_Fraction_Choice)⟩
    | s => exact ⟨is_Span, kt_Span_Form, (fun k => by rcases fin4 k with rfl | rfl | rfl | rfl <;> first | exact kt_Span_Nothing | exact kt_Span_Truth | exact kt_Span_Whole | exact kt_Span_Fraction), kit_same .., kt_Span_Letters, (fun k => by rcases fin3 k with rfl | rfl | rfl <;> first | exact kt_Span_Maybe | exact kt_Span_Many | exact kt_Span_Turned), (fun k => by rcases fin2 k with rfl | rfl <;> first | exact kt_Span_Record | exact kt_Span_Choice)⟩
    | l => exact ⟨is_Letters, kt_Letters_Form, (fun k => by rcases fin4 k with rfl | rfl | rfl | rfl <;> first | exact kt_Letters_Nothing | exact kt_Letters_Truth | exact kt_Letters_Whole | exact kt_Letters_Fraction), kt_Letters_Span, kit_same .., (fun k => by rcases fin3 k with rfl | rfl | rfl <;> first | exact kt_Letters_Maybe | exact kt_Letters_Many | exact kt_Letters_Turned), (fun k => by rcases fin2 k with rfl | rfl <;> first | exact kt_Letters_Record | exact kt_Letters_Choice)⟩
    | o k =>
      rcases fin3 k with rfl | rfl | rfl
      · exact ⟨is_Maybe, kt_Maybe_Form, (fun k => by rcases fin4 k with rfl | rfl | rfl | rfl <;> first | exact kt_Maybe_Nothing | exact kt_Maybe_Truth | exact kt_Maybe_Whole | exact kt_Maybe_Fraction), kt_Maybe_Span, kt_Maybe_Letters, (fun k => by rcases fin3 k with rfl | rfl | rfl <;> first | exact kit_same .. | exact kt_Maybe_Many | exact kt_Maybe_Turned), (fun k => by rcases fin2 k with rfl | rfl <;> first | exact kt_Maybe_Record | exact kt_Maybe_Choice)⟩
      · exact ⟨is_Many, kt_Many_Form, (fun k => by rcases fin4 k with rfl | rfl | rfl | rfl <;> first | exact kt_Many_Nothing | exact kt_Many_Truth | exact kt_Many_Whole | exact kt_Many_Fraction), kt_Many_Span, kt_Many_Letters, (fun k => by rcases fin3 k with rfl | rfl | rfl <;> first | exact kt_Many_Maybe | exact kit_same .. | exact kt_Many_Turned), (fun k => by rcases fin2 k with rfl | rfl <;> first | exact kt_Many_Record | exact kt_Many_Choice)⟩
      · exact ⟨is_Turned, kt_Turned_Form, (fun k => by rcases fin4 k with rfl | rfl | rfl | rfl <;> first | exact kt_Turned_Nothing | exact kt_Turned_Truth | exact kt_Turned_Whole | exact kt_Turned_Fraction), kt_Turned_Span, kt_Turned_Letters, (fun k => by rcases fin3 k with rfl | rfl | rfl <;> first | exact kt_Turned_Maybe | exact kt_Turned_Many | exact kit_same ..), (fun k => by rcases fin2 k with rfl | rfl <;> first | exact kt_Turned_Record | exact kt_Turned_Choice)⟩
    | t k =>
      rcases fin2 k with rfl | rfl
      · exact ⟨is_Record, kt_Record_Form, (fun k => by rcases fin4 k with rfl | rfl | rfl | rfl <;> first | exact kt_Record_Nothing | exact kt_Record_Truth | exact kt_Record_Whole | exact kt_Record_Fraction), kt_Record_Span, kt_Record_Letters, (fun k => by rcases fin3 k with rfl | rfl | rfl <;> first | exact kt_Record_Maybe | exact kt_Record_Many | exact kt_Record_Turned), (fun k => by rcases fin2 k with rfl | rfl <;> first | exact kit_same .. | exact kt_Record_Choice)⟩
      · exact ⟨is_Choice, kt_Choice_Form, (fun k => by rcases fin4 k with rfl | rfl | rfl | rfl <;> first | exact kt_Choice_Nothing | exact kt_Choice_Truth | exact kt_Choice_Whole | exact kt_Choice_Fraction), kt_Choice_Span, kt_Choice_Letters, (fun k => by rcases fin3 k with rfl | rfl | rfl <;> first | exact kt_Choice_Maybe | exact kt_Choice_Many | exact kt_Choice_Turned), (fun k => by rcases fin2 k with rfl | rfl <;> first | exact kt_Choice_Record | exact kit_same ..)⟩
  have AM_shown := all_shown (P := l.prog) (w := w) (base := base) nb SH F_shown_parts 8
  have D_number_at := ok_number_at nb cl_Cursor g_FIGURES g_MOST_FIGURES F_number_at M_skip M_run_of
  have D_span_at := ok_span_at cl_Cursor F_span_at M_expect D_number_at M_Span
  have D_letters_at := ok_letters_at cl_Cursor g_LETTERS_AND_FIGURES F_letters_at M_run_of M_Letters
  have D_bare_form := ok_bare_form (P := l.prog) (w := w) (base := base) F_bare_form M0_Nothing m_Nothing M0_Truth m_Truth M0_Whole m_Whole M0_Fraction m_Fraction
  have D_form_at := all_form_at cl_Cursor g_SMALL_LETTERS g_MOST_DEEP F_form_at F_part_at F_parts_at F_bracketed_form_at M_skip M_run_of M_expect D_bare_form D_span_at D_letters_at M_Record M_Choice M_Maybe M_Many M_Turned 8
  have D_form_of := ok_form_of cl_Cursor F_form_of M_Cursor M_ended D_form_at
  have D_law_cell_at := ok_law_cell_at (P := l.prog) (w := w) (base := base) nb F_law_cell_at
  have D_law_mixed := ok_law_mixed (P := l.prog) (w := w) (base := base) F_law_mixed
  have D_law_numbers_of := ok_law_numbers_of nb F_law_numbers_of D_law_cell_at D_law_mixed
  have D_law_names := ok_law_names31 (P := l.prog) (w := w) (base := base) nb F_law_names
  have D_law_simple := ok_law_simple31 (P := l.prog) (w := w) (base := base) nb F_law_simple
  have D_law_tree := all_law_tree nb F_law_tree D_law_simple D_law_names 8
  have D_law_text := all_law_text (P := l.prog) (w := w) (base := base) nb F_law_text 8
  have D_law_drawn := ok_law_drawn31 nb F_law_drawn D_law_cell_at D_law_mixed D_law_numbers_of D_law_tree
  have D_law_kinds := ok_law_kinds31 (P := l.prog) (w := w) (base := base) nb N31 KD F_law_kinds
  have D_law_good := ok_law_good31 nb N31 KD F_law_good D_law_kinds D_law_text AM_shown
  exact ok_law F_law D_law_drawn D_law_text D_form_of D_law_good

theorem walk {l : PySem.W.OpenLaw} {q : Program} {loose : List Str} {XP : (Str → Option Value) → Heap → Prop} {YP : World → Heap → Prop} {d : DefRec} {K : Params → PySem.W.Frag} (hn : l.most = some 63) (hdf : d.params.defaults = [])
    (hY : ∀ (w : World) (h : Heap), YP w h → (K w.params).In h)
    (F : ∀ (w : World) (mg : Str → Option Value) (fa : Addr) (h : Heap), (K w.params).In h → h.Ns mainGlobals mg → mg d.name = some (.ref fa) →
      ∃ fd : FuncData, (∀ (s : Shared) (u : Value), BindsTo s fd ⟨[u], []⟩ [("_law_script", u)]) ∧ ∀ base : Heap, (K w.params).In base → base.Ns mainGlobals mg → FnOk l.prog w (K w.params) mg base CX0 42 fa fd ["_law_script"] (spLaw (K w.params))) :
    PySem.W.WalkO q loose XP YP l.row.toRowW d [] (fun f vs => PySem.call f vs) :=
  L2.walk_of (n := 63) (k := 42) (x := "_law_script") (CX := fun _ => CX0) (sp := fun w => spLaw (K w.params)) hn (by decide) hdf ⟨rfl, by decide, by decide⟩ hY F (fun _ _ a ns hl _ hS => ⟨a, ns, rfl, hS, hl, fun _ => rfl⟩) fun _ _ _ _ _ z => z
end
end KR
/-! the great twins of the walk are not laid: these names are taken -/
def PySem.W.Fast.tw3974373538075059133 : Nat := 0
def PySem.W.Fast.tw5207426839637320799 : Nat := 0
def PySem.W.Fast.tw3662293032124672749 : Nat := 0
def PySem.W.Fast.tw17723116787245442797 : Nat := 0
def PySem.W.Fast.tw6487725539589415615 : Nat := 0
def PySem.W.Fast.tw15555275148973244391 : Nat := 0
def PySem.W.Fast.tw12280041956990516154 : Nat := 0
def PySem.W.Fast.tw15979551840297081959 : Nat := 0
def PySem.W.Fast.tw1315833261551722958 : Nat := 0
def PySem.W.Fast.tw2039796350443733298 : Nat := 0
def PySem.W.Fast.tw2217578336794278594 : Nat := 0
def PySem.W.Fast.tw17054140962635320480 : Nat := 0
def PySem.W.Fast.tw9827973433764300570 : Nat := 0
def PySem.W.Fast.tw9273698539337620628 : Nat := 0
def PySem.W.Fast.tw4169914924225484453 : Nat := 0
def PySem.W.Fast.tw385032172506372034 : Nat := 0
def PySem.W.Fast.tw2421146465471210542 : Nat := 0
def PySem.W.Fast.tw16486080813051829323 : Nat := 0
def PySem.W.Fast.tw1530962467959977325 : Nat := 0
def PySem.W.Fast.tw220646763627249688 : Nat := 0
def PySem.W.Fast.tw14544781195255504860 : Nat := 0
def PySem.W.Fast.tw11027676812933376732 : Nat := 0
def PySem.W.Fast.tw946478728694950230 : Nat := 0
def PySem.W.Fast.tw12487925068440125020 : Nat := 0
def PySem.W.Fast.tw3678921601214880018 : Nat := 0
def PySem.W.Fast.tw2011523465363370244 : Nat := 0
def PySem.W.Fast.tw12567897872526139227 : Nat := 0
def PySem.W.Fast.tw15346925227174846326 : Nat := 0
def PySem.W.Fast.tw9403076238769741018 : Nat := 0
def PySem.W.Fast.tw7033623671670418229 : Nat := 0
def PySem.W.Fast.tw14869130598892692593 : Nat := 0
def PySem.W.Fast.tw13502722914392210185 : Nat := 0
def PySem.W.Fast.tw14344789315083952069 : Nat := 0
def PySem.W.Fast.tw8217133299646211126 : Nat := 0
def PySem.W.Fast.tw22134515214543049 : Nat := 0
def PySem.W.Fast.tw18037702825239097225 : Nat := 0
def PySem.W.Fast.tw6673550349018907088 : Nat := 0
def PySem.W.Fast.tw7611599595315497142 : Nat := 0
def PySem.W.Fast.tw14749048976796675700 : Nat := 0
def PySem.W.Fast.tw9522679270187759514 : Nat := 0
def PySem.W.Fast.tw6639408049863318838 : Nat := 0
def PySem.W.Fast.tw3082430171562282465 : Nat := 0
def PySem.W.Fast.tw16357670277104388578 : Nat := 0
def PySem.W.Fast.tw3606648909279615606 : Nat := 0
def PySem.W.Fast.tw13933586997565903887 : Nat := 0
def PySem.W.Fast.tw14109937028106659347 : Nat := 0
def PySem.W.Fast.tw61741421880160484 : Nat := 0
def PySem.W.Fast.tw11587629174079666234 : Nat := 0
def PySem.W.Fast.tw6281357967922066284 : Nat := 0
def PySem.W.Fast.tw17356869944664755157 : Nat := 0
def PySem.W.Fast.tw13359437380208996571 : Nat := 0
def PySem.W.Fast.tw7657441770477991263 : Nat := 0
def PySem.W.Fast.tw10899663839786644886 : Nat := 0
def PySem.W.Fast.tw6456426504349877403 : Nat := 0
def PySem.W.Fast.tw6484752576438136004 : Nat := 0
def PySem.W.Fast.tw5696803206426603667 : Nat := 0
def PySem.W.Fast.tw16737514598535491533 : Nat := 0
def PySem.W.Fast.tw4991351961514137168 : Nat := 0
def PySem.W.Fast.tw13925395767582087399 : Nat := 0
def PySem.W.Fast.tw5306124315160395698 : Nat := 0
def PySem.W.Fast.tw13080569955563218801 : Nat := 0
def PySem.W.Fast.tw2221070747202012831 : Nat := 0
def PySem.W.Fast.tw4524331214761079715 : Nat := 0
def PySem.W.Fast.tw18346778270090589402 : Nat := 0
def PySem.W.Fast.tw12834962731673416075 : Nat := 0
def PySem.W.Fast.tw10956374080663531572 : Nat := 0
def PySem.W.Fast.tw3095511559287446952 : Nat := 0
def PySem.W.Fast.tw6695245700421530993 : Nat := 0
def PySem.W.Fast.tw16633219356976266155 : Nat := 0
def PySem.W.Fast.tw2254100095121534768 : Nat := 0
def PySem.W.Fast.tw1031967095643591348 : Nat := 0
def PySem.W.Fast.tw16839948496214685592 : Nat := 0
def PySem.W.Fast.tw12721009277816456079 : Nat := 0
def PySem.W.Fast.tw11291098615437501324 : Nat := 0
def PySem.W.Fast.tw4925634404876072094 : Nat := 0
def PySem.W.Fast.tw10476483156903160682 : Nat := 0
def PySem.W.Fast.tw4852955097009530993 : Nat := 0
def PySem.W.Fast.tw12342457486962568481 : Nat := 0
def PySem.W.Fast.tw6109969501640289736 : Nat := 0
def PySem.W.Fast.tw5931325726384443943 : Nat := 0
def PySem.W.Fast.tw14005012335722770027 : Nat := 0
def PySem.W.Fast.tw15632828480658572521 : Nat := 0
def PySem.W.Fast.tw4055339467444439344 : Nat := 0
def PySem.W.Fast.tw1826067599158650337 : Nat := 0
def PySem.W.Fast.tw1186584589331459711 : Nat := 0
def PySem.W.Fast.tw7564835707156067060 : Nat := 0
def PySem.W.Fast.tw2764711774472762417 : Nat := 0
open PySem PySem.W PyProof.Rows
set_option maxRecDepth 100000 in
set_option maxHeartbeats 0 in
theorem PySem.Challenge.cw_keyrise_k31_forms_read_and_shown_holds : PySem.Challenge.rw_keyrise_k31_forms_read_and_shown.Holds := by
  w_on; o_law; k_head; (case hw => w_witness2)
  k_fill
  refine KR.walk (l := PySem.Challenge.rw_keyrise_k31_forms_read_and_shown) rfl rfl (fun w h Y => PySem.W.kIn_of Y) ?F
  case F =>
    intro w mg fa h KX G hmg
    refine' KR.all_mk KX G hmg ?aC_Nothing ?pg_Nothing ?hd_Nothing ?po_Nothing ?sa_Nothing ?mk_Nothing ?kc_Nothing ?i0_Nothing ?a_Nothing_shown ?i_Nothing_shown ?l_Nothing_shown ?c_Nothing_shown ?k_Nothing_shown ?aC_Truth ?pg_Truth ?hd_Truth ?po_Truth ?sa_Truth ?mk_Truth ?kc_Truth ?i0_Truth ?a_Truth_shown ?i_Truth_shown ?l_Truth_shown ?c_Truth_shown ?k_Truth_shown ?aC_Whole ?pg_Whole ?hd_Whole ?po_Whole ?sa_Whole ?mk_Whole ?kc_Whole ?i0_Whole ?a_Whole_shown ?i_Whole_shown ?l_Whole_shown ?c_Whole_shown ?k_Whole_shown ?aC_Fraction ?pg_Fraction ?hd_Fraction ?po_Fraction ?sa_Fraction ?mk_Fraction ?kc_Fraction ?i0_Fraction ?a_Fraction_shown ?i_Fraction_shown ?l_Fraction_shown ?c_Fraction_shown ?k_Fraction_shown ?aC_Span ?pg_Span ?hd_Span ?po_Span ?sa_Span ?mk_Span ?kc_Span ?n_Span_low ?n_Span_high ?a_Span_init ?i_Span_init ?l_Span_init ?c_Span_init ?k_Span_init ?a_Span_shown ?i_Span_shown ?l_Span_shown ?c_Span_shown ?k_Span_shown ?aC_Letters ?pg_Letters ?hd_Letters ?po_Letters ?sa_Letters ?mk_Letters ?kc_Letters ?n_Letters_signs ?a_Letters_init ?i_Letters_init ?l_Letters_init ?c_Letters_init ?k_Letters_init ?a_Letters_shown ?i_Letters_shown ?l_Letters_shown ?c_Letters_shown ?k_Letters_shown ?aC_Maybe ?pg_Maybe ?hd_Maybe ?po_Maybe ?sa_Maybe ?mk_Maybe ?kc_Maybe ?n_Maybe_inner ?a_Maybe_init ?i_Maybe_init ?l_Maybe_init ?c_Maybe_init ?k_Maybe_init ?a_Maybe_shown ?i_Maybe_shown ?l_Maybe_shown ?c_Maybe_shown ?k_Maybe_shown ?aC_Many ?pg_Many ?hd_Many ?po_Many ?sa_Many ?mk_Many ?kc_Many ?n_Many_inner ?a_Many_init ?i_Many_init ?l_Many_init ?c_Many_init ?k_Many_init ?a_Many_shown ?i_Many_shown ?l_Many_shown ?c_Many_shown ?k_Many_shown ?aC_Turned ?pg_Turned ?hd_Turned ?po_Turned ?sa_Turned ?mk_Turned ?kc_Turned ?n_Turned_inner ?a_Turned_init ?i_Turned_init ?l_Turned_init ?c_Turned_init ?k_Turned_init ?a_Turned_shown ?i_Turned_shown ?l_Turned_shown ?c_Turned_shown ?k_Turned_shown ?aC_Record ?pg_Record ?hd_Record ?po_Record ?sa_Record ?mk_Record ?kc_Record ?n_Record_names ?n_Record_forms ?a_Record_init ?i_Record_init ?l_Record_init ?c_Record_init ?k_Record_init ?a_Record_shown ?i_Record_shown ?l_Record_shown ?c_Record_shown ?k_Record_shown ?aC_Choice ?pg_Choice ?hd_Choice ?po_Choice ?sa_Choice ?mk_Choice ?kc_Choice ?n_Choice_names ?n_Choice_forms ?a_Choice_init ?i_Choice_init ?l_Choice_init ?c_Choice_init ?k_Choice_init ?a_Choice_shown ?i_Choice_shown ?l_Choice_shown ?c_Choice_shown ?k_Choice_shown ?aC_Cursor ?pg_Cursor ?hd_Cursor ?po_Cursor ?sa_Cursor ?mk_Cursor ?kc_Cursor ?n_Cursor_text ?n_Cursor_place ?a_Cursor_init ?i_Cursor_init ?l_Cursor_init ?c_Cursor_init ?k_Cursor_init ?a_Cursor_ended ?i_Cursor_ended ?l_Cursor_ended ?c_Cursor_ended ?k_Cursor_ended ?a_Cursor_skip ?i_Cursor_skip ?l_Cursor_skip ?c_Cursor_skip ?k_Cursor_skip ?a_Cursor_expect ?i_Cursor_expect ?l_Cursor_expect ?c_Cursor_expect ?k_Cursor_expect ?a_Cursor_run_of ?i_Cursor_run_of ?l_Cursor_run_of ?c_Cursor_run_of ?k_Cursor_run_of ?ihn ?itk ?ic_Nothing ?io_Nothing ?ic_Truth ?io_Truth ?ic_Whole ?io_Whole ?ic_Fraction ?io_Fraction ?ic_Span ?io_Span ?ic_Letters ?io_Letters ?ic_Maybe ?io_Maybe ?ic_Many ?io_Many ?ic_Turned ?io_Turned ?ic_Record ?io_Record ?ic_Choice ?io_Choice ?aC_Form ?kt_Nothing_Truth ?kt_Nothing_Whole ?kt_Nothing_Fraction ?kt_Nothing_Span ?kt_Nothing_Letters ?kt_Nothing_Maybe ?kt_Nothing_Many ?kt_Nothing_Turned ?kt_Nothing_Record ?kt_Nothing_Choice ?kt_Nothing_Form ?kt_Truth_Nothing ?kt_Truth_Whole ?kt_Truth_Fraction ?kt_Truth_Span ?kt_Truth_Letters ?kt_Truth_Maybe ?kt_Truth_Many ?kt_Truth_Turned ?kt_Truth_Record ?kt_Truth_Choice ?kt_Truth_Form ?kt_Whole_Nothing ?kt_Whole_Truth ?kt_Whole_Fraction ?kt_Whole_Span ?kt_Whole_Letters ?kt_Whole_Maybe ?kt_Whole_Many ?kt_Whole_Turned ?kt_Whole_Record ?kt_Whole_Choice ?kt_Whole_Form ?kt_Fraction_Nothing ?kt_Fraction_Truth ?kt_Fraction_Whole ?kt_Fraction_Span ?kt_Fraction_Letters ?kt_Fraction_Maybe ?kt_Fraction_Many ?kt_Fraction_Turned ?kt_Fraction_Record ?kt_Fraction_Choice ?kt_Fraction_Form ?kt_Span_Nothing ?kt_Span_Truth ?kt_Span_Whole ?kt_Span_Fraction ?kt_Span_Letters ?kt_Span_Maybe ?kt_Span_Many ?kt_Span_Turned ?kt_Span_Record ?kt_Span_Choice ?kt_Span_Form ?kt_Letters_Nothing ?kt_Letters_Truth ?kt_Letters_Whole ?kt_Letters_Fraction ?kt_Letters_Span ?kt_Letters_Maybe ?kt_Letters_Many ?kt_Letters_Turned ?kt_Letters_Record ?kt_Letters_Choice ?kt_Letters_Form ?kt_Maybe_Nothing ?kt_Maybe_Truth ?kt_Maybe_Whole ?kt_Maybe_Fraction ?kt_Maybe_Span ?kt_Maybe_Letters ?kt_Maybe_Many ?kt_Maybe_Turned ?kt_Maybe_Record ?kt_Maybe_Choice ?kt_Maybe_Form ?kt_Many_Nothing ?kt_Many_Truth ?kt_Many_Whole ?kt_Many_Fraction ?kt_Many_Span ?kt_Many_Letters ?kt_Many_Maybe ?kt_Many_Turned ?kt_Many_Record ?kt_Many_Choice ?kt_Many_Form ?kt_Turned_Nothing ?kt_Turned_Truth ?kt_Turned_Whole ?kt_Turned_Fraction ?kt_Turned_Span ?kt_Turned_Letters ?kt_Turned_Maybe ?kt_Turned_Many ?kt_Turned_Record ?kt_Turned_Choice ?kt_Turned_Form ?kt_Record_Nothing ?kt_Record_Truth ?kt_Record_Whole ?kt_Record_Fraction ?kt_Record_Span ?kt_Record_Letters ?kt_Record_Maybe ?kt_Record_Many ?kt_Record_Turned ?kt_Record_Choice ?kt_Record_Form ?kt_Choice_Nothing ?kt_Choice_Truth ?kt_Choice_Whole ?kt_Choice_Fraction ?kt_Choice_Span ?kt_Choice_Letters ?kt_Choice_Maybe ?kt_Choice_Many ?kt_Choice_Turned ?kt_Choice_Record ?kt_Choice_Form ?a_made_of ?l_made_of ?c_made_of ?k_made_of ?a_is_name ?l_is_name ?c_is_name ?k_is_name ?a_names_of ?l_names_of ?c_names_of ?k_names_of ?a_shown_parts ?l_shown_parts ?c_shown_parts ?k_shown_parts ?a_number_at ?l_number_at ?c_number_at ?k_number_at ?a_span_at ?l_span_at ?c_span_at ?k_span_at ?a_letters_at ?l_letters_at ?c_letters_at ?k_letters_at ?a_part_at ?l_part_at ?c_part_at ?k_part_at ?a_parts_at ?l_parts_at ?c_parts_at ?k_parts_at ?a_bare_form ?l_bare_form ?c_bare_form ?k_bare_form ?a_bracketed_form_at ?l_bracketed_form_at ?c_bracketed_form_at ?k_bracketed_form_at ?a_form_at ?l_form_at ?c_form_at ?k_form_at ?a_form_of ?l_form_of ?c_form_of ?k_form_of ?a_law_cell_at ?l_law_cell_at ?c_law_cell_at ?k_law_cell_at ?a_law_mixed ?l_law_mixed ?c_law_mixed ?k_law_mixed ?a_law_numbers_of ?l_law_numbers_of ?c_law_numbers_of ?k_law_numbers_of ?a_law_names ?l_law_names ?c_law_names ?k_law_names ?a_law_simple ?l_law_simple ?c_law_simple ?k_law_simple ?a_law_tree ?l_law_tree ?c_law_tree ?k_law_tree ?a_law_text ?l_law_text ?c_law_text ?k_law_text ?a_law_drawn ?l_law_drawn ?c_law_drawn ?k_law_drawn ?a_law_kinds ?l_law_kinds ?c_law_kinds ?k_law_kinds ?a_law_good ?l_law_good ?c_law_good ?k_law_good ?a_law ?l_law ?c_law ?k_law ?z_len ?z_range ?z_int ?z_str ?z_bool ?z_tuple ?z_isinstance ?z_min ?z_max ?z_list ?z_all ?z_reversed ?z_enumerate ?z_zip ?z_set ?g0_MOST_SIGNS ?g0_MOST_PARTS ?g0_LONGEST_NAME ?g0_MOST_FIGURES ?g0_MOST_DEEP ?g0_SMALL_LETTERS ?g0_LETTERS_AND_FIGURES ?g0_FIGURES
    (case aC_Nothing => k_is)
    (case pg_Nothing => k_is)
    (case hd_Nothing => k_is)
    (case po_Nothing => k_is)
    (case sa_Nothing => k_is)
    (case mk_Nothing => k_is)
    (case kc_Nothing => k_is)
    (case i0_Nothing => k_is)
    (case a_Nothing_shown => k_is)
    (case i_Nothing_shown => k_is)
    (case l_Nothing_shown => k_is)
    (case c_Nothing_shown => k_is)
    (case k_Nothing_shown => k_is)
    (case aC_Truth => k_is)
    (case pg_Truth => k_is)
    (case hd_Truth => k_is)
    (case po_Truth => k_is)
    (case sa_Truth => k_is)
    (case mk_Truth => k_is)
    (case kc_Truth => k_is)
    (case i0_Truth => k_is)
    (case a_Truth_shown => k_is)
    (case i_Truth_shown => k_is)
    (case l_Truth_shown => k_is)
    (case c_Truth_shown => k_is)
    (case k_Truth_shown => k_is)
    (case aC_Whole => k_is)
    (case pg_Whole => k_is)
    (case hd_Whole => k_is)
    (case po_Whole => k_is)
    (case sa_Whole => k_is)
    (case mk_Whole => k_is)
    (case kc_Whole => k_is)
    (case i0_Whole => k_is)
    (case a_Whole_shown => k_is)
    (case i_Whole_shown => k_is)
    (case l_Whole_shown => k_is)
    (case c_Whole_shown => k_is)
    (case k_Whole_shown => k_is)
    (case aC_Fraction => k_is)
    (case pg_Fraction => k_is)
    (case hd_Fraction => k_is)
    (case po_Fraction => k_is)
    (case sa_Fraction => k_is)
    (case mk_Fraction => k_is)
    (case kc_Fraction => k_is)
    (case i0_Fraction => k_is)
    (case a_Fraction_shown => k_is)
    (case i_Fraction_shown => k_is)
    (case l_Fraction_shown => k_is)
    (case c_Fraction_shown => k_is)
    (case k_Fraction_shown => k_is)
    (case aC_Span => k_is)
    (case pg_Span => k_is)
    (case hd_Span => k_is)
    (case po_Span => k_is)
    (case sa_Span => k_is)
    (case mk_Span => k_is)
    (case kc_Span => k_is)
    (case n_Span_low => k_is)
    (case n_Span_high => k_is)
    (case a_Span_init => k_is)
    (case i_Span_init => k_is)
    (case l_Span_init => k_is)
    (case c_Span_init => k_is)
    (case k_Span_init => k_is)
    (case a_Span_shown => k_is)
    (case i_Span_shown => k_is)
    (case l_Span_shown => k_is)
    (case c_Span_shown => k_is)
    (case k_Span_shown => k_is)
    (case aC_Letters => k_is)
    (case pg_Letters => k_is)
    (case hd_Letters => k_is)
    (case po_Letters => k_is)
    (case sa_Letters => k_is)
    (case mk_Letters => k_is)
    (case kc_Letters => k_is)
    (case n_Letters_signs => k_is)
    (case a_Letters_init => k_is)
    (case i_Letters_init => k_is)
    (case l_Letters_init => k_is)
    (case c_Letters_init => k_is)
    (case k_Letters_init => k_is)
    (case a_Letters_shown => k_is)
    (case i_Letters_shown => k_is)
    (case l_Letters_shown => k_is)
    (case c_Letters_shown => k_is)
    (case k_Letters_shown => k_is)
    (case aC_Maybe => k_is)
    (case pg_Maybe => k_is)
    (case hd_Maybe => k_is)
    (case po_Maybe => k_is)
    (case sa_Maybe => k_is)
    (case mk_Maybe => k_is)
    (case kc_Maybe => k_is)
    (case n_Maybe_inner => k_is)
    (case a_Maybe_init => k_is)
    (case i_Maybe_init => k_is)
    (case l_Maybe_init => k_is)
    (case c_Maybe_init => k_is)
    (case k_Maybe_init => k_is)
    (case a_Maybe_shown => k_is)
    (case i_Maybe_shown => k_is)
    (case l_Maybe_shown => k_is)
    (case c_Maybe_shown => k_is)
    (case k_Maybe_shown => k_is)
    (case aC_Many => k_is)
    (case pg_Many => k_is)
    (case hd_Many => k_is)
    (case po_Many => k_is)
    (case sa_Many => k_is)
    (case mk_Many => k_is)
    (case kc_Many => k_is)
    (case n_Many_inner => k_is)
    (case a_Many_init => k_is)
    (case i_Many_init => k_is)
    (case l_Many_init => k_is)
    (case c_Many_init => k_is)
    (case k_Many_init => k_is)
    (case a_Many_shown => k_is)
    (case i_Many_shown => k_is)
    (case l_Many_shown => k_is)
    (case c_Many_shown => k_is)
    (case k_Many_shown => k_is)
    (case aC_Turned => k_is)
    (case pg_Turned => k_is)
    (case hd_Turned => k_is)
    (case po_Turned => k_is)
    (case sa_Turned => k_is)
    (case mk_Turned => k_is)
    (case kc_Turned => k_is)
    (case n_Turned_inner => k_is)
    (case a_Turned_init => k_is)
    (case i_Turned_init => k_is)
    (case l_Turned_init => k_is)
    (case c_Turned_init => k_is)
    (case k_Turned_init => k_is)
    (case a_Turned_shown => k_is)
    (case i_Turned_shown => k_is)
    (case l_Turned_shown => k_is)
    (case c_Turned_shown => k_is)
    (case k_Turned_shown => k_is)
    (case aC_Record => k_is)
    (case pg_Record => k_is)
    (case hd_Record => k_is)
    (case po_Record => k_is)
    (case sa_Record => k_is)
    (case mk_Record => k_is)
    (case kc_Record => k_is)
    (case n_Record_names => k_is)
    (case n_Record_forms => k_is)
    (case a_Record_init => k_is)
    (case i_Record_init => k_is)
    (case l_Record_init => k_is)
    (case c_Record_init => k_is)
    (case k_Record_init => k_is)
    (case a_Record_shown => k_is)
    (case i_Record_shown => k_is)
    (case l_Record_shown => k_is)
    (case c_Record_shown => k_is)
    (case k_Record_shown => k_is)
    (case aC_Choice => k_is)
    (case pg_Choice => k_is)
    (case hd_Choice => k_is)
    (case po_Choice => k_is)
    (case sa_Choice => k_is)
    (case mk_Choice => k_is)
    (case kc_Choice => k_is)
    (case n_Choice_names => k_is)
    (case n_Choice_forms => k_is)
    (case a_Choice_init => k_is)
    (case i_Choice_init => k_is)
    (case l_Choice_init => k_is)
    (case c_Choice_init => k_is)
    (case k_Choice_init => k_is)
    (case a_Choice_shown => k_is)
    (case i_Choice_shown => k_is)
    (case l_Choice_shown => k_is)
    (case c_Choice_shown => k_is)
    (case k_Choice_shown => k_is)
    (case aC_Cursor => k_is)
    (case pg_Cursor => k_is)
    (case hd_Cursor => k_is)
    (case po_Cursor => k_is)
    (case sa_Cursor => k_is)
    (case mk_Cursor => k_is)
    (case kc_Cursor => k_is)
    (case n_Cursor_text => k_is)
    (case n_Cursor_place => k_is)
    (case a_Cursor_init => k_is)
    (case i_Cursor_init => k_is)
    (case l_Cursor_init => k_is)
    (case c_Cursor_init => k_is)
    (case k_Cursor_init => k_is)
    (case a_Cursor_ended => k_is)
    (case i_Cursor_ended => k_is)
    (case l_Cursor_ended => k_is)
    (case c_Cursor_ended => k_is)
    (case k_Cursor_ended => k_is)
    (case a_Cursor_skip => k_is)
    (case i_Cursor_skip => k_is)
    (case l_Cursor_skip => k_is)
    (case c_Cursor_skip => k_is)
    (case k_Cursor_skip => k_is)
    (case a_Cursor_expect => k_is)
    (case i_Cursor_expect => k_is)
    (case l_Cursor_expect => k_is)
    (case c_Cursor_expect => k_is)
    (case k_Cursor_expect => k_is)
    (case a_Cursor_run_of => k_is)
    (case i_Cursor_run_of => k_is)
    (case l_Cursor_run_of => k_is)
    (case c_Cursor_run_of => k_is)
    (case k_Cursor_run_of => k_is)
    (case ihn => k_is)
    (case itk => k_is)
    (case ic_Nothing => k_is)
    (case io_Nothing => k_is)
    (case ic_Truth => k_is)
    (case io_Truth => k_is)
    (case ic_Whole => k_is)
    (case io_Whole => k_is)
    (case ic_Fraction => k_is)
    (case io_Fraction => k_is)
    (case ic_Span => k_is)
    (case io_Span => k_is)
    (case ic_Letters => k_is)
    (case io_Letters => k_is)
    (case ic_Maybe => k_is)
    (case io_Maybe => k_is)
    (case ic_Many => k_is)
    (case io_Many => k_is)
    (case ic_Turned => k_is)
    (case io_Turned => k_is)
    (case ic_Record => k_is)
    (case io_Record => k_is)
    (case ic_Choice => k_is)
    (case io_Choice => k_is)
    (case aC_Form => k_is)
    (case kt_Nothing_Truth => kit_is)
    (case kt_Nothing_Whole => kit_is)
    (case kt_Nothing_Fraction => kit_is)
    (case kt_Nothing_Span => kit_is)
    (case kt_Nothing_Letters => kit_is)
    (case kt_Nothing_Maybe => kit_is)
    (case kt_Nothing_Many => kit_is)
    (case kt_Nothing_Turned => kit_is)
    (case kt_Nothing_Record => kit_is)
    (case kt_Nothing_Choice => kit_is)
    (case kt_Nothing_Form => kit_is)
    (case kt_Truth_Nothing => kit_is)
    (case kt_Truth_Whole => kit_is)
    (case kt_Truth_Fraction => kit_is)
    (case kt_Truth_Span => kit_is)
    (case kt_Truth_Letters => kit_is)
    (case kt_Truth_Maybe => kit_is)
    (case kt_Truth_Many => kit_is)
    (case kt_Truth_Turned => kit_is)
    (case kt_Truth_Record => kit_is)
    (case kt_Truth_Choice => kit_is)
    (case kt_Truth_Form => kit_is)
    (case kt_Whole_Nothing => kit_is)
    (case kt_Whole_Truth => kit_is)
    (case kt_Whole_Fraction => kit_is)
    (case kt_Whole_Span => kit_is)
    (case kt_Whole_Letters => kit_is)
    (case kt_Whole_Maybe => kit_is)
    (case kt_Whole_Many => kit_is)
    (case kt_Whole_Turned => kit_is)
    (case kt_Whole_Record => kit_is)
    (case kt_Whole_Choice => kit_is)
    (case kt_Whole_Form => kit_is)
    (case kt_Fraction_Nothing => kit_is)
    (case kt_Fraction_Truth => kit_is)
    (case kt_Fraction_Whole => kit_is)
    (case kt_Fraction_Span => kit_is)
    (case kt_Fraction_Letters => kit_is)
    (case kt_Fraction_Maybe => kit_is)
    (case kt_Fraction_Many => kit_is)
    (case kt_Fraction_Turned => kit_is)
    (case kt_Fraction_Record => kit_is)
    (case kt_Fraction_Choice => kit_is)
    (case kt_Fraction_Form => kit_is)
    (case kt_Span_Nothing => kit_is)
    (case kt_Span_Truth => kit_is)
    (case kt_Span_Whole => kit_is)
    (case kt_Span_Fraction => kit_is)
    (case kt_Span_Letters => kit_is)
    (case kt_Span_Maybe => kit_is)
    (case kt_Span_Many => kit_is)
    (case kt_Span_Turned => kit_is)
    (case kt_Span_Record => kit_is)
    (case kt_Span_Choice => kit_is)
    (case kt_Span_Form => kit_is)
    (case kt_Letters_Nothing => kit_is)
    (case kt_Letters_Truth => kit_is)
    (case kt_Letters_Whole => kit_is)
    (case kt_Letters_Fraction => kit_is)
    (case kt_Letters_Span => kit_is)
    (case kt_Letters_Maybe => kit_is)
    (case kt_Letters_Many => kit_is)
    (case kt_Letters_Turned => kit_is)
    (case kt_Letters_Record => kit_is)
    (case kt_Letters_Choice => kit_is)
    (case kt_Letters_Form => kit_is)
    (case kt_Maybe_Nothing => kit_is)
    (case kt_Maybe_Truth => kit_is)
    (case kt_Maybe_Whole => kit_is)
    (case kt_Maybe_Fraction => kit_is)
    (case kt_Maybe_Span => kit_is)
    (case kt_Maybe_Letters => kit_is)
    (case kt_Maybe_Many => kit_is)
    (case kt_Maybe_Turned => kit_is)
    (case kt_Maybe_Record => kit_is)
    (case kt_Maybe_Choice => kit_is)
    (case kt_Maybe_Form => kit_is)
    (case kt_Many_Nothing => kit_is)
    (case kt_Many_Truth => kit_is)
    (case kt_Many_Whole => kit_is)
    (case kt_Many_Fraction => kit_is)
    (case kt_Many_Span => kit_is)
    (case kt_Many_Letters => kit_is)
    (case kt_Many_Maybe => kit_is)
    (case kt_Many_Turned => kit_is)
    (case kt_Many_Record => kit_is)
    (case kt_Many_Choice => kit_is)
    (case kt_Many_Form => kit_is)
    (case kt_Turned_Nothing => kit_is)
    (case kt_Turned_Truth => kit_is)
    (case kt_Turned_Whole => kit_is)
    (case kt_Turned_Fraction => kit_is)
    (case kt_Turned_Span => kit_is)
    (case kt_Turned_Letters => kit_is)
    (case kt_Turned_Maybe => kit_is)
    (case kt_Turned_Many => kit_is)
    (case kt_Turned_Record => kit_is)
    (case kt_Turned_Choice => kit_is)
    (case kt_Turned_Form => kit_is)
    (case kt_Record_Nothing => kit_is)
    (case kt_Record_Truth => kit_is)
    (case kt_Record_Whole => kit_is)
    (case kt_Record_Fraction => kit_is)
    (case kt_Record_Span => kit_is)
    (case kt_Record_Letters => kit_is)
    (case kt_Record_Maybe => kit_is)
    (case kt_Record_Many => kit_is)
    (case kt_Record_Turned => kit_is)
    (case kt_Record_Choice => kit_is)
    (case kt_Record_Form => kit_is)
    (case kt_Choice_Nothing => kit_is)
    (case kt_Choice_Truth => kit_is)
    (case kt_Choice_Whole => kit_is)
    (case kt_Choice_Fraction => kit_is)
    (case kt_Choice_Span => kit_is)
    (case kt_Choice_Letters => kit_is)
    (case kt_Choice_Maybe => kit_is)
    (case kt_Choice_Many => kit_is)
    (case kt_Choice_Turned => kit_is)
    (case kt_Choice_Record => kit_is)
    (case kt_Choice_Form => kit_is)
    (case a_made_of => k_is)
    (case l_made_of => k_is)
    (case c_made_of => k_is)
    (case k_made_of => k_is)
    (case a_is_name => k_is)
    (case l_is_name => k_is)
    (case c_is_name => k_is)
    (case k_is_name => k_is)
    (case a_names_of => k_is)
    (case l_names_of => k_is)
    (case c_names_of => k_is)
    (case k_names_of => k_is)
    (case a_shown_parts => k_is)
    (case l_shown_parts => k_is)
    (case c_shown_parts => k_is)
    (case k_shown_parts => k_is)
    (case a_number_at => k_is)
    (case l_number_at => k_is)
    (case c_number_at => k_is)
    (case k_number_at => k_is)
    (case a_span_at => k_is)
    (case l_span_at => k_is)
    (case c_span_at => k_is)
    (case k_span_at => k_is)
    (case a_letters_at => k_is)
    (case l_letters_at => k_is)
    (case c_letters_at => k_is)
    (case k_letters_at => k_is)
    (case a_part_at => k_is)
    (case l_part_at => k_is)
    (case c_part_at => k_is)
    (case k_part_at => k_is)
    (case a_parts_at => k_is)
    (case l_parts_at => k_is)
    (case c_parts_at => k_is)
    (case k_parts_at => k_is)
    (case a_bare_form => k_is)
    (case l_bare_form => k_is)
    (case c_bare_form => k_is)
    (case k_bare_form => k_is)
    (case a_bracketed_form_at => k_is)
    (case l_bracketed_form_at => k_is)
    (case c_bracketed_form_at => k_is)
    (case k_bracketed_form_at => k_is)
    (case a_form_at => k_is)
    (case l_form_at => k_is)
    (case c_form_at => k_is)
    (case k_form_at => k_is)
    (case a_form_of => k_is)
    (case l_form_of => k_is)
    (case c_form_of => k_is)
    (case k_form_of => k_is)
    (case a_law_cell_at => k_is)
    (case l_law_cell_at => k_is)
    (case c_law_cell_at => k_is)
    (case k_law_cell_at => k_is)
    (case a_law_mixed => k_is)
    (case l_law_mixed => k_is)
    (case c_law_mixed => k_is)
    (case k_law_mixed => k_is)
    (case a_law_numbers_of => k_is)
    (case l_law_numbers_of => k_is)
    (case c_law_numbers_of => k_is)
    (case k_law_numbers_of => k_is)
    (case a_law_names => k_is)
    (case l_law_names => k_is)
    (case c_law_names => k_is)
    (case k_law_names => k_is)
    (case a_law_simple => k_is)
    (case l_law_simple => k_is)
    (case c_law_simple => k_is)
    (case k_law_simple => k_is)
    (case a_law_tree => k_is)
    (case l_law_tree => k_is)
    (case c_law_tree => k_is)
    (case k_law_tree => k_is)
    (case a_law_text => k_is)
    (case l_law_text => k_is)
    (case c_law_text => k_is)
    (case k_law_text => k_is)
    (case a_law_drawn => k_is)
    (case l_law_drawn => k_is)
    (case c_law_drawn => k_is)
    (case k_law_drawn => k_is)
    (case a_law_kinds => k_is)
    (case l_law_kinds => k_is)
    (case c_law_kinds => k_is)
    (case k_law_kinds => k_is)
    (case a_law_good => k_is)
    (case l_law_good => k_is)
    (case c_law_good => k_is)
    (case k_law_good => k_is)
    (case a_law => k_is)
    (case l_law => k_is)
    (case c_law => k_is)
    (case k_law => k_is)
    (case z_len => k_is)
    (case z_range => k_is)
    (case z_int => k_is)
    (case z_str => k_is)
    (case z_bool => k_is)
    (case z_tuple => k_is)
    (case z_isinstance => k_is)
    (case z_min => k_is)
    (case z_max => k_is)
    (case z_list => k_is)
    (case z_all => k_is)
    (case z_reversed => k_is)
    (case z_enumerate => k_is)
    (case z_zip => k_is)
    (case z_set => k_is)
    (case g0_MOST_SIGNS => k_is)
    (case g0_MOST_PARTS => k_is)
    (case g0_LONGEST_NAME => k_is)
    (case g0_MOST_FIGURES => k_is)
    (case g0_MOST_DEEP => k_is)
    (case g0_SMALL_LETTERS => k_is)
    (case g0_LETTERS_AND_FIGURES => k_is)
    (case g0_FIGURES => k_is)


