import PyProof.Rows.All
import Wide.All
import OpenK.AllK
import Wide.FinOn
import Lean
import PyProof.EqAt
import PyProof.EqKinds
import PyProof.TupleCall
import PySem.Challenge.RW_keyrise_k72_pages_and_partings
set_option Elab.async false
set_option linter.all false
set_option maxRecDepth 100000
/-! THE HAND LAYER, for ints, bools, texts, own classes, LISTS and tuples (index, slices, in, append, pop ..), calls, loops. Paste it whole ahead of your own text; what your proof does not reach may be deleted. -/
namespace L2
open PySem PySem.Spec PyProof.Rows

/-- a key: an int or a str -/
abbrev Key := Sum Int Str
def keyIs : Key → Value → Bool
  | .inl k, v => Value.isInt k v
  | .inr x, v => Value.isStrOf x v
def keyH (w : World) : Key → Int
  | .inl k => hashInt k
  | .inr x => hashStr w x
theorem keyIs_shape : ∀ {k : Key} {v : Value}, keyIs k v = true → (∃ i t, k = Sum.inl i ∧ v = Value.int i t) ∨ (∃ x t, k = Sum.inr x ∧ v = Value.str x t)
  | .inl i, v, h => by
    obtain ⟨t, e⟩ := Value.isInt_shape (k := i) (v := v) h
    exact .inl ⟨i, t, rfl, e⟩
  | .inr x, v, h => by
    obtain ⟨t, e⟩ := Value.isStrOf_shape (x := x) (v := v) h
    exact .inr ⟨x, t, rfl, e⟩
theorem key_ll (a b : Int) : decide ((Sum.inl a : Key) = Sum.inl b) = (a == b) := by
  by_cases e : a = b
  · subst e; simp
  · have h : ¬ (Sum.inl a : Key) = Sum.inl b := fun q => e (Sum.inl.inj q)
    rw [decide_eq_false h]
    exact (beq_eq_false_iff_ne.mpr e).symm
theorem key_rr (a b : Str) : decide ((Sum.inr a : Key) = Sum.inr b) = decide (a = b) := by
  by_cases e : a = b
  · subst e; simp
  · have h : ¬ (Sum.inr a : Key) = Sum.inr b := fun q => e (Sum.inr.inj q)
    rw [decide_eq_false h, decide_eq_false e]
theorem key_lr (a : Int) (b : Str) : decide ((Sum.inl a : Key) = Sum.inr b) = false := decide_eq_false (fun q => nomatch q)
theorem key_rl (a : Str) (b : Int) : decide ((Sum.inr a : Key) = Sum.inl b) = false := decide_eq_false (fun q => nomatch q)

def mixKind (prog : Program) (w : World) : PySem.KeyKind prog w Key where
  is := keyIs
  hash := keyH w
  inj := fun v a b ha hb => by
    rcases keyIs_shape ha with ⟨i, t, rfl, rfl⟩ | ⟨x, t, rfl, rfl⟩
    · rcases keyIs_shape hb with ⟨j, u, rfl, e⟩ | ⟨y, u, rfl, e⟩
      · injection e with e1 _; rw [e1]
      · exact nomatch e
    · rcases keyIs_shape hb with ⟨j, u, rfl, e⟩ | ⟨y, u, rfl, e⟩
      · exact nomatch e
      · injection e with e1 _; rw [e1]
  byValue := fun k v h => by
    rcases keyIs_shape h with ⟨i, t, rfl, rfl⟩ | ⟨x, t, rfl, rfl⟩ <;> rfl
  pyHash := fun hv h => by
    rcases keyIs_shape hv with ⟨i, t, rfl, rfl⟩ | ⟨x, t, rfl, rfl⟩
    · exact wpAny_pyHash_int h
    · exact wpAny_pyHash_str h
  eqBool := fun hu hv h => by
    rcases keyIs_shape hu with ⟨i, t, rfl, rfl⟩ | ⟨x, t, rfl, rfl⟩
    · rcases keyIs_shape hv with ⟨j, u, rfl, rfl⟩ | ⟨y, u, rfl, rfl⟩
      · rw [key_ll] at h; exact wpAny_eqBool_int h
      · rw [key_lr] at h; exact SeqAt.EqAt.int_str i t y u _ _ _ _ h
    · rcases keyIs_shape hv with ⟨j, u, rfl, rfl⟩ | ⟨y, u, rfl, rfl⟩
      · rw [key_rl] at h; exact SeqAt.EqAt.str_int x t j u _ _ _ _ h
      · rw [key_rr] at h; exact wpAny_eqBool_str h
  «strs» := fun k x t v h => by
    rcases keyIs_shape h with ⟨i, u, rfl, e⟩ | ⟨y, u, rfl, e⟩
    · exact nomatch e
    · injection e with e1 _
      subst e1
      cases v <;> rfl

end L2

namespace L2
open PySem PySem.Spec PyProof.Rows

/-- a value, without the heap -/
inductive V where
  | non | bl (b : Bool) | int (i : Int) | str (x : Str) | byt (b : Array UInt8) | flt (b : UInt64) | ref (a : Addr) | ty (n : String)
  deriving DecidableEq

def RelV : V → Value → Prop
  | .non, u => u = Value.none
  | .bl b, u => u = Value.bool b
  | .int i, u => ∃ t, u = Value.int i t
  | .str x, u => ∃ t, u = Value.str x t
  | .byt b, u => ∃ t, u = Value.bytes b t
  | .flt b, u => ∃ t, u = Value.float b t
  | .ref a, u => u = Value.ref a
  | .ty n, u => u = Value.type n

abbrev Vals : List V → List Value → Prop := Paired RelV
theorem Vals.length {xs : List V} {us : List Value} (r : Vals xs us) : xs.length = us.length := Paired.length r
theorem Vals.get : ∀ {xs : List V} {us : List Value} {i : Nat} {x : V}, Vals xs us → xs[i]? = some x → ∃ u, us[i]? = some u ∧ RelV x u
  | _, _, _, _, .nil, e => by simp at e
  | _, _, 0, _, .cons r _, e => by simp at e; subst e; exact ⟨_, rfl, r⟩
  | _, _, i + 1, x, .cons _ t, e => by
    obtain ⟨u, h1, h2⟩ := Vals.get (i := i) (x := x) t (by simpa using e)
    exact ⟨u, by simpa using h1, h2⟩
theorem Vals.set {x : V} {u : Value} (r : RelV x u) : ∀ {xs : List V} {us : List Value} (i : Nat), Vals xs us → Vals (xs.set i x) (us.set i u)
  | _, _, _, .nil => .nil
  | _, _, 0, .cons _ t => .cons r t
  | _, _, i + 1, .cons q t => .cons q (Vals.set r i t)
theorem Vals.append : ∀ {xs ys : List V} {us ws : List Value}, Vals xs us → Vals ys ws → Vals (xs ++ ys) (us ++ ws)
  | _, _, _, _, .nil, s => s
  | _, _, _, _, .cons r t, s => .cons r (Vals.append t s)
theorem Vals.take : ∀ {xs : List V} {us : List Value} (n : Nat), Vals xs us → Vals (xs.take n) (us.take n)
  | _, _, 0, _ => .nil
  | _, _, _ + 1, .nil => .nil
  | _, _, n + 1, .cons r t => .cons r (Vals.take n t)
theorem Vals.drop : ∀ {xs : List V} {us : List Value} (n : Nat), Vals xs us → Vals (xs.drop n) (us.drop n)
  | _, _, 0, r => r
  | _, _, _ + 1, .nil => .nil
  | _, _, n + 1, .cons _ t => Vals.drop n t
theorem Vals.none_of : ∀ {xs : List V} {us : List Value} {i : Nat}, Vals xs us → xs[i]? = none → us[i]? = none := fun {xs us i} r e => by
  have h1 := r.length
  have h2 : xs.length ≤ i := List.getElem?_eq_none_iff.mp e
  exact List.getElem?_eq_none_iff.mpr (by omega)

def RelO : Option V → Option Value → Prop
  | some v, some u => RelV v u
  | none, none => True
  | _, _ => False
def KV {κ : Type} : List (κ × V) → List (κ × Value) → Prop := Paired fun (p : κ × V) (q : κ × Value) => p.1 = q.1 ∧ RelV p.2 q.2

/-- a key of a dict (00_mix): an int or a text -/
def kV : Key → V
  | .inl i => .int i
  | .inr x => .str x

/-- what stands at a tracked address -/
inductive HO where
  /-- a list -/
  | lst (xs : List V)
  /-- a tuple (never changes) -/
  | tup (xs : List V)
  /-- a dict whose keys are ints and texts; one whose keys are tuples of ints and texts (the empty one is both) -/
  | dK (kvs : List (Key × V)) | dT (kvs : List (List Key × V))
  /-- a set of ints: its members, its size -/
  | set (S : Int → Bool) (n : Nat)
  /-- an instance of the class at C, its dict at dx, its attributes -/
  | ins (C dx : Addr) (fs : List (Str × V))
  /-- the dict of the instance at x -/
  | own (x : Addr)
  /-- the dict of an exception -/
  | xd (fs : List (Str × V))
  /-- a bound method, f of x -/
  | met (f x : Addr)
  /-- a range object lo, lo + 1, .. below hi -/
  | rng (lo hi : Int)
  /-- a thing that is known to the object (the script; a dict while a loop walks it): read, never written while it is so -/
  | frz (o : Obj) (u : HO)
  /-- a code object's table -/
  | tbl (ps : Array Value)
  /-- any other thing, by what is true of its one object (a def of one's own: SetO a S n := HO.ext fun h => ..) -/
  | ext (φ : Heap → Prop)

abbrev Hp := Addr → Option HO
def upd (H : Hp) (a : Addr) (o : HO) : Hp := fun b => if b = a then some o else H b
theorem upd_same {H : Hp} {a : Addr} {o : HO} : upd H a o a = some o := by unfold upd; rw [if_pos rfl]
theorem upd_ne {H : Hp} {a b : Addr} {o : HO} (h : b ≠ a) : upd H a o b = H b := by unfold upd; rw [if_neg h]
theorem ne_of_none {H : Hp} {a b : Addr} {o : HO} (h : H a = some o) (h' : H b = none) : a ≠ b := by
  intro e; subst e; rw [h] at h'; cases h'

section
variable (P : Program) (w : World)
def ObjOk (H : Hp) (h : Heap) (a : Addr) : HO → Prop
  | .lst xs => xs.length ≤ sizeLine ∧ ∃ (its : List Value) (n : Nat), Vals xs its ∧ h.get? a = some { cls := .type "list", data := .seq its.toArray n }
  | .tup xs => xs.length ≤ sizeLine ∧ ∃ its : List Value, Vals xs its ∧ IsTup h a its.toArray
  | .dK kvs => kvs.length ≤ sizeLine ∧ (a == sysModules) = false ∧ ∃ vs, KV kvs vs ∧ h.DictOf (mixKind P w) a vs
  | .dT _ => False
  | .set S n => h.SetOf (intKind P w) a S n
  | .ins C dx fs => H dx = some (.own a) ∧ fs.length ≤ 1000 ∧ dx ≠ a ∧ h.get? a = some (PySem.W.instObj C dx) ∧
      ∃ mA, h.Ns1 dx mA ∧ (∀ f, RelO (fs.lookup f) (mA f)) ∧ PySem.Within mA (fs.map (·.1))
  | .own _ => ∃ o, h.get? a = some o
  | .xd fs => ∃ mA, h.Ns1 a mA ∧ ∀ f, RelO (fs.lookup f) (mA f)
  | .rng lo hi => ∃ t u v, h.get? a = some { cls := .type "range", data := .fields #[.int lo t, .int hi u, .int 1 v] }
  | .frz o u => h.get? a = some o ∧ ObjOk H h a u
  | .tbl ps => h.get? a = some { cls := .none, data := .fields ps }
  | .met f x => h.get? a = some (PySem.W.methodObj (.ref f) (.ref x))
  | .ext φ => φ h ∧ (∃ o, h.get? a = some o) ∧ ∀ h1 h2 : Heap, φ h1 → (∀ o, h1.get? a = some o → h2.get? a = some o) → φ h2
/-- the abstract heap is held -/
def HOk (H : Hp) (h : Heap) : Prop := ∀ a o, H a = some o → ObjOk P w H h a o
end

section
variable {P : Program} {w : World} {H H' : Hp} {h h' : Heap} {a : Addr} {o : HO}
theorem ObjOk.lt (x : ObjOk P w H h a o) : a < h.objs.size := by
  cases o with
  | lst xs => obtain ⟨_, _, _, _, e⟩ := x; exact Heap.lt_size e
  | tup xs => obtain ⟨_, _, _, p⟩ := x; exact p.lt
  | dK kvs => obtain ⟨_, _, _, _, o, _, _, e, _⟩ := x; exact Heap.lt_size e
  | dT kvs => exact (show False from x).elim
  | set S n => obtain ⟨o, _, _, _, e, _⟩ := x; exact Heap.lt_size e
  | ins C dx fs => obtain ⟨_, _, _, e, _⟩ := x; exact Heap.lt_size e
  | own y => obtain ⟨_, e⟩ := x; exact Heap.lt_size e
  | xd fs => obtain ⟨_, ⟨_, _, _, e, _⟩, _⟩ := x; exact Heap.lt_size e
  | rng lo hi => obtain ⟨_, _, _, e⟩ := x; exact Heap.lt_size e
  | frz ob u => obtain ⟨e, _⟩ := x; exact Heap.lt_size e
  | tbl ps => exact Heap.lt_size (show h.get? a = some _ from x)
  | met f y => exact Heap.lt_size (show h.get? a = some _ from x)
  | ext φ => obtain ⟨_, ⟨_, e⟩, _⟩ := x; exact Heap.lt_size e
/-- what an object's description leans on: its own object, its own dict, the tuples -/
theorem ObjOk.stay (x : ObjOk P w H h a o) (k : ∀ b u, (b = a ∨ H b = some (.own a)) → h.get? b = some u → h'.get? b = some u)
    (ho : ∀ b, H b = some (.own a) → H' b = some (.own a)) (ht : ∀ b xs, H b = some (.tup xs) → H' b = some (.tup xs)) : ObjOk P w H' h' a o := by
  induction o with
  | lst xs => obtain ⟨z, its, n, r, e⟩ := x; exact ⟨z, its, n, r, k _ _ (.inl rfl) e⟩
  | tup xs => obtain ⟨z, its, r, ob, e, c⟩ := x; exact ⟨z, its, r, ob, k _ _ (.inl rfl) e, c⟩
  | dK kvs => obtain ⟨z, y, vs, r, ob, es, ep, e, c⟩ := x; exact ⟨z, y, vs, r, ob, es, ep, k _ _ (.inl rfl) e, c⟩
  | dT kvs => exact (show False from x).elim
  | set S n => obtain ⟨ob, es, ep, t, e, c⟩ := x; exact ⟨ob, es, ep, t, k _ _ (.inl rfl) e, c⟩
  | ins C dx fs =>
    obtain ⟨d, z, ne, e, mA, ⟨od, es, ep, e2, c⟩, r⟩ := x
    exact ⟨ho _ d, z, ne, k _ _ (.inl rfl) e, mA, ⟨od, es, ep, k _ _ (.inr d) e2, c⟩, r⟩
  | own y => obtain ⟨ob, e⟩ := x; exact ⟨ob, k _ _ (.inl rfl) e⟩
  | xd fs => obtain ⟨mA, ⟨od, es, ep, e, c⟩, r⟩ := x; exact ⟨mA, ⟨od, es, ep, k _ _ (.inl rfl) e, c⟩, r⟩
  | rng lo hi => obtain ⟨t, u, v, e⟩ := x; exact ⟨t, u, v, k _ _ (.inl rfl) e⟩
  | frz ob u ih => obtain ⟨e, q⟩ := x; exact ⟨k _ _ (.inl rfl) e, ih q⟩
  | tbl ps =>
    have e : h.get? a = some { cls := .none, data := .fields ps } := x
    show h'.get? a = some { cls := .none, data := .fields ps }
    exact k a _ (.inl rfl) e
  | met f y =>
    have e : h.get? a = some (PySem.W.methodObj (.ref f) (.ref y)) := x
    show h'.get? a = some (PySem.W.methodObj (.ref f) (.ref y))
    exact k a _ (.inl rfl) e
  | ext φ => obtain ⟨p, ⟨o, e⟩, st⟩ := x; exact ⟨st _ _ p fun o q => k _ _ (.inl rfl) q, ⟨o, k _ _ (.inl rfl) e⟩, st⟩
theorem HOk.lt (x : HOk P w H h) (e : H a = some o) : a < h.objs.size := (x a o e).lt
theorem HOk.fresh (x : HOk P w H h) (e : h.objs.size ≤ a) : H a = none := by
  cases q : H a with
  | none => rfl
  | some u => exact absurd (Nat.lt_of_lt_of_le (x.lt q) e) (Nat.lt_irrefl _)
/-- every object of the heap is kept -/
theorem HOk.kept (x : HOk P w H h) (k : ∀ b u, h.get? b = some u → h'.get? b = some u) : HOk P w H h' := fun a o e =>
  (x a o e).stay (fun b u _ q => k b u q) (fun _ q => q) fun _ _ q => q
/-- a new object is laid and tracked -/
theorem HOk.laid (x : HOk P w H h) (k : ∀ b u, h.get? b = some u → h'.get? b = some u) (hp : h.objs.size ≤ a) (new : ObjOk P w (upd H a o) h' a o) : HOk P w (upd H a o) h' := fun b u e => by
  have hn := x.fresh hp
  by_cases hb : b = a
  · subst hb; rw [upd_same] at e; cases e; exact new
  · rw [upd_ne hb] at e
    exact (x b u e).stay (fun c v _ q => k c v q) (fun c q => by rw [upd_ne (ne_of_none q hn)]; exact q) fun c xs q => by rw [upd_ne (ne_of_none q hn)]; exact q
end

/-- what may be read as u: it is u, or a known u -/
def Rd (H : Hp) (a : Addr) (u : HO) : Prop := H a = some u ∨ ∃ o, H a = some (.frz o u)
theorem Rd.of {H : Hp} {a : Addr} {u : HO} (h : H a = some u) : Rd H a u := .inl h
theorem Rd.ok {P : Program} {w : World} {H : Hp} {h : Heap} {a : Addr} {u : HO} (r : Rd H a u) (x : HOk P w H h) : ObjOk P w H h a u := by
  rcases r with r | ⟨o, r⟩
  · exact x a u r
  · obtain ⟨_, q⟩ := x a _ r
    exact q
/-- what may be written -/
def Mut : Option HO → Prop
  | some (.lst _) => True
  | some (.dK _) => True
  | some (.dT _) => True
  | some (.set _ _) => True
  | some (.ins _ _ _) => True
  | some (.ext _) => True
  | _ => False
section
variable {P : Program} {w : World} {H : Hp} {h h' : Heap} {x e : Addr} {o' : HO}
/-- the object at e is changed: x itself, or the dict of the instance x -/
theorem HOk.write (ok : HOk P w H h) (mu : Mut (H x)) (he : e = x ∨ H e = some (.own x)) (k : ∀ b u, b ≠ e → h.get? b = some u → h'.get? b = some u) (heo : ∃ u, h'.get? e = some u)
    (new : ObjOk P w (upd H x o') h' x o') : HOk P w (upd H x o') h' := fun b u q => by
  have nown : ∀ c y, H c = some (.own y) → c ≠ x := fun c y r z => by subst z; rw [r] at mu; exact mu
  have ntup : ∀ c xs, H c = some (.tup xs) → c ≠ x := fun c xs r z => by subst z; rw [r] at mu; exact mu
  by_cases hb : b = x
  · subst hb; rw [upd_same] at q; cases q; exact new
  · rw [upd_ne hb] at q
    by_cases hbe : b = e
    · have q' : H b = some (.own x) := by
        rcases he with z | z
        · exact absurd (hbe.trans z) hb
        · rw [hbe]; exact z
      rw [q] at q'; cases q'
      obtain ⟨v, hv⟩ := heo
      exact ⟨v, by rw [hbe]; exact hv⟩
    · refine (ok b u q).stay (fun c v hc r => k c v ?_ r) (fun c r => by rw [upd_ne (nown c b r)]; exact r) fun c xs r => by rw [upd_ne (ntup c xs r)]; exact r
      rcases hc with rfl | hc
      · exact hbe
      · rintro rfl
        rcases he with z | z
        · exact nown c b hc z
        · rw [hc] at z; cases z; exact hb rfl
end

/-! ### kept unless tracked; of the frames at fs (the callers') the slots may change (an exception that passes writes there); of the records at ex (iterators) nothing is said -/
structure Un (fs ex : List Addr) (H H' : Hp) (h h' : Heap) : Prop where
  keep : ∀ b o, h.get? b = some o → H b = none → b ∉ fs → b ∉ ex → h'.get? b = some o
  slot : ∀ b o, h.get? b = some o → H b = none → b ∈ fs → b ∉ ex → ∃ sl, h'.get? b = some { o with slots := sl }
  free : ∀ b o, h.get? b = some o → H b = none → b ∉ ex → H' b = none
  there : ∀ b o, h.get? b = some o → b ∉ ex → ∃ o', h'.get? b = some o'
  tups : ∀ b xs, H b = some (.tup xs) → H' b = some (.tup xs)
  frzs : ∀ b o u, H b = some (.frz o u) → H' b = some (.frz o u)
  tbls : ∀ b ps, H b = some (.tbl ps) → ∃ more, H' b = some (.tbl (ps ++ more))
section
variable {fs fs' ex ex' : List Addr} {H H1 H2 : Hp} {h h1 h2 h' : Heap} {a x e : Addr} {o : HO}
theorem Un.any (u : Un fs ex H H1 h h1) {b : Addr} {ob : Obj} (q : h.get? b = some ob) (n : H b = none) (hx : b ∉ ex) : ∃ sl, h1.get? b = some { ob with slots := sl } := by
  by_cases hb : b ∈ fs
  · exact u.slot b ob q n hb hx
  · exact ⟨ob.slots, u.keep b ob q n hb hx⟩
theorem Un.trans (a : Un fs ex H H1 h h1) (b : Un fs ex H1 H2 h1 h2) : Un fs ex H H2 h h2 where
  keep := fun c ob q n hc hx => b.keep c ob (a.keep c ob q n hc hx) (a.free c ob q n hx) hc hx
  slot := fun c ob q n hc hx => by
    obtain ⟨sl, e1⟩ := a.slot c ob q n hc hx
    obtain ⟨sl', e2⟩ := b.slot c _ e1 (a.free c ob q n hx) hc hx
    exact ⟨sl', e2⟩
  free := fun c ob q n hx => by
    obtain ⟨o', e1⟩ := a.there c ob q hx
    exact b.free c o' e1 (a.free c ob q n hx) hx
  there := fun c ob q hx => by
    obtain ⟨o', e1⟩ := a.there c ob q hx
    exact b.there c o' e1 hx
  tups := fun c xs q => b.tups c xs (a.tups c xs q)
  frzs := fun c ob xs q => b.frzs c ob xs (a.frzs c ob xs q)
  tbls := fun c ps q => by
    obtain ⟨m1, e1⟩ := a.tbls c ps q
    obtain ⟨m2, e2⟩ := b.tbls c _ e1
    exact ⟨m1 ++ m2, by rw [e2, Array.append_assoc]⟩
theorem Un.kept (k : ∀ b u, h.get? b = some u → h'.get? b = some u) : Un fs ex H H h h' :=
  ⟨fun b ob q _ _ _ => k b ob q, fun b ob q _ _ _ => ⟨ob.slots, k b ob q⟩, fun _ _ _ n _ => n, fun b ob q _ => ⟨ob, k b ob q⟩, fun _ _ q => q, fun _ _ _ q => q, fun _ ps q => ⟨#[], by rw [q]; simp⟩⟩
theorem Un.refl : Un fs ex H H h h := Un.kept fun _ _ q => q
theorem Un.laid (k : ∀ b u, h.get? b = some u → h'.get? b = some u) (hp : h.objs.size ≤ a) (hn : H a = none) : Un fs ex H (upd H a o) h h' where
  keep := fun b u q _ _ _ => k b u q
  slot := fun b u q _ _ _ => ⟨u.slots, k b u q⟩
  free := fun b u q n _ => by rw [upd_ne (Nat.ne_of_lt (Nat.lt_of_lt_of_le (Heap.lt_size q) hp))]; exact n
  there := fun b u q _ => ⟨u, k b u q⟩
  tups := fun b xs q => by rw [upd_ne (ne_of_none q hn)]; exact q
  frzs := fun b u xs q => by rw [upd_ne (ne_of_none q hn)]; exact q
  tbls := fun b ps q => ⟨#[], by rw [upd_ne (ne_of_none q hn), q]; simp⟩
theorem Un.write (mu : Mut (H x)) (he : e = x ∨ H e = some (.own x)) (k : ∀ b u, b ≠ e → h.get? b = some u → h'.get? b = some u) (heo : ∃ u, h'.get? e = some u) : Un fs ex H (upd H x o) h h' := by
  have hx : ∀ b, H b = none → b ≠ x := fun b n z => by subst z; rw [n] at mu; exact mu
  have hb : ∀ b, H b = none → b ≠ e := fun b n z => by
    subst z
    rcases he with r | r
    · exact hx b n r
    · rw [n] at r; cases r
  have hm : ∀ b u, H b = some u → ¬ Mut (some u) → b ≠ x := fun b u q nm z => by subst z; rw [q] at mu; exact nm mu
  refine ⟨fun b u q n _ _ => k b u (hb b n) q, fun b u q n _ _ => ⟨u.slots, k b u (hb b n) q⟩, fun b u q n _ => by rw [upd_ne (hx b n)]; exact n, fun b u q _ => ?_,
    fun b xs q => by rw [upd_ne (hm b _ q fun z => z)]; exact q, fun b u xs q => by rw [upd_ne (hm b _ q fun z => z)]; exact q, fun b ps q => ⟨#[], by rw [upd_ne (hm b _ q fun z => z), q]; simp⟩⟩
  by_cases hbe : b = e
  · subst hbe; exact heo
  · exact ⟨u, k b u hbe q⟩
theorem Un.mono (u : Un fs ex H H1 h h1) (hs : ∀ b ∈ fs, b ∈ fs') (hx : ∀ b ∈ ex, b ∈ ex') : Un fs' ex' H H1 h h1 :=
  ⟨fun b ob q n hb he => u.keep b ob q n (fun z => hb (hs b z)) fun z => he (hx b z), fun _ _ q n _ he => u.any q n fun z => he (hx _ z), fun b ob q n he => u.free b ob q n fun z => he (hx b z), fun b ob q he => u.there b ob q fun z => he (hx b z), u.tups, u.frzs, u.tbls⟩
end

/-! ### the heap without what is tracked -/
def trk (h : Heap) (H : Hp) : List Addr := (List.range h.objs.size).filter fun a => (H a).isSome
def hidT (h : Heap) (H : Hp) : Heap := PySem.W.hideAll h (trk h H)
theorem hidT_size (h : Heap) (H : Hp) : (hidT h H).objs.size = h.objs.size := PySem.W.hideAll_size _ _
theorem hidT_get {h : Heap} {H : Hp} {b : Addr} {o : Obj} (e : h.get? b = some o) (n : H b = none) : (hidT h H).get? b = some o :=
  PySem.W.hideAll_get _ e fun hm => by
    have q : (H b).isSome = true := (List.mem_filter.mp hm).2
    rw [n] at q; simp at q
theorem of_hidT {h : Heap} {H : Hp} {b : Addr} {o : Obj} (e : (hidT h H).get? b = some o) : h.get? b = some o ∧ H b = none := by
  have e' : h.get? b = some o := PySem.W.of_hideAll (trk h H) e
  refine ⟨e', ?_⟩
  cases q : H b with
  | none => rfl
  | some x =>
    have hm : b ∈ trk h H := List.mem_filter.mpr ⟨List.mem_range.mpr (Heap.lt_size e'), by simp [q]⟩
    have z : (hidT h H).get? b = none := PySem.W.hideAll_none (trk h H) hm
    rw [z] at e; cases e

/-! ### OpenK's ledger, filled with every new object but one -/
def allNews (g h : Heap) (L : Addr) : List (Addr × Obj) := (List.range h.objs.size).filterMap fun a => if a = L ∨ (g.get? a).isSome = true then none else (h.get? a).map fun o => (a, o)
def rest (g h : Heap) (L d : Addr) : List (Addr × Obj) := (allNews g h L).filter fun p => decide (p.1 ≠ d)
end L2

namespace L2
open PySem PySem.Spec PyProof.Rows

/-- the module's facts, over the base: the heap at the law's entry without what is tracked there -/
structure Mod (K : PySem.W.Frag) (mg : Str → Option Value) (base : Heap) : Prop where
  kin : K.In base
  glob : base.Ns mainGlobals mg
  blt : ∃ mb, base.Ns builtinsNs mb ∧ ∀ x : Str, x ≠ "__name__" → mb x = bootBuiltins x
  nolimit : base.NoLimit

/-- the context: a def's body (or a comprehension's block) running. base: fixed through the whole law; s₀, H₀: the entry; outer: the frames whose slots others may change (a def's callers); stack: all frames that run;
   ex: iterators that were made ahead of the entry and are walked here (a comprehension's); fn: the names whose cells were made at the entry (a def: all; a comprehension's block: its own); calm: not within an except suite; pn: pins that every state bears; xe: what is wanted of an exception that leaves the code -/
structure Cx where
  prog : Program
  w : World
  K : PySem.W.Frag
  mg : Str → Option Value
  base : Heap
  A : Around
  N : List Str
  s₀ : Shared
  H₀ : Hp
  env : Env
  outer : List Env
  stack : List Env
  ex : List Addr
  fn : Str → Bool
  calm : Bool
  pn : List (Addr × Obj)
  xe : Value → Shared → Prop
/-- the callers' frames -/
def frs (l : List Env) : List Addr := l.filterMap (·.frame)
abbrev Cx.fs (X : Cx) : List Addr := frs X.outer

def Vis (sc : Scope) (x : Str) : Prop := sc.names.lookup x = some .local ∨ sc.names.lookup x = some .cell ∨ sc.names.lookup x = some .free
def Loc (sc : Scope) (x : Str) : Prop := sc.names.lookup x = some .local ∨ sc.names.lookup x = some .cell
def Look (env : Env) (h : Heap) (m : Str → Option Value) (x : Str) (u : Value) : Prop :=
  (env.kindOf x = some .local ∧ m x = some u) ∨ ((env.kindOf x = some .cell ∨ env.kindOf x = some .free) ∧ ∃ c, env.cells.lookup x = some c ∧ h.IsCell c (some u))

structure Cx.Ok (X : Cx) : Prop where
  mod : Mod X.K X.mg X.base
  kind : X.env.scope.kind = .function
  glob : X.env.globals = mainGlobals
  blt : X.env.builtins = builtinsNs
  above : X.s₀.heap.objs.size ≤ X.env.locals
  inj : ∀ x y c, X.env.cells.lookup x = some c → X.env.cells.lookup y = some c → x = y
  has : ∀ x, (X.env.kindOf x = some .cell ∨ X.env.kindOf x = some .free) → ∃ c, X.env.cells.lookup x = some c
  cab : ∀ x c, X.fn x = true → X.env.cells.lookup x = some c → X.s₀.heap.objs.size ≤ c
  hd : X.calm = true → X.A.handled = none
  frames : X.A.frames = some X.stack
  stk : X.stack = X.outer ∨ (X.stack = X.env :: X.outer ∧ X.env.frame = some X.env.locals)
  exf : ∀ b ∈ X.ex, b ≠ X.env.locals ∧ ∀ x c, X.env.cells.lookup x = some c → c ≠ b
  bs : ∀ b o, X.base.get? b = some o → X.s₀.heap.get? b = some o ∧ X.H₀ b = none
  bsz : X.base.objs.size ≤ X.s₀.heap.objs.size
  noex : ∀ b o, X.base.get? b = some o → b ∉ X.ex
  exfs : ∀ b ∈ X.ex, b ∉ X.fs
  funs : X.s₀.heap.FunFrames X.base X.outer
  frf : ∀ b ∈ X.fs, X.H₀ b = none

structure Inv (X : Cx) (pins : List (Addr × Obj)) (σ : List (Option V)) (H : Hp) (s : Shared) : Prop where
  ok : X.Ok
  os : s.os = X.s₀.os
  bare : AllBare s.gens
  base : Un X.fs X.ex X.H₀ H X.s₀.heap s.heap
  loc : ∃ m, s.heap.Ns X.env.locals m ∧ ∀ (i : Nat) (x : Str) (v : V), X.N[i]? = some x → σ[i]? = some (some v) → Vis X.env.scope x → ∃ u, RelV v u ∧ Look X.env s.heap m x u
  cell : ∀ x c, X.env.cells.lookup x = some c → ∃ v, s.heap.IsCell c v
  free : H X.env.locals = none
  freeC : ∀ x c, X.env.cells.lookup x = some c → H c = none
  pin : ∀ p ∈ X.pn ++ pins, s.heap.get? p.1 = some p.2 ∧ H p.1 = none ∧ p.1 ≠ X.env.locals ∧ p.1 ∉ X.fs ∧ ∀ v, p.2.data ≠ .cell v
  hok : HOk X.prog X.w H s.heap
  len : σ.length = X.N.length

section
variable {X : Cx} {pins : List (Addr × Obj)} {σ : List (Option V)} {H H' : Hp} {s : Shared} {h' : Heap}

theorem Cx.Ok.nofr (ok : X.Ok) {b : Addr} {o : Obj} (e : X.base.get? b = some o) : b ∉ X.fs := fun hb => by
  have := (ok.funs.mem hb).1
  rw [e] at this; cases this
theorem Inv.bs (I : Inv X pins σ H s) : ∀ b o, X.base.get? b = some o → s.heap.get? b = some o ∧ H b = none := fun b o e =>
  ⟨I.base.keep b o (I.ok.bs b o e).1 (I.ok.bs b o e).2 (I.ok.nofr e) (I.ok.noex b o e), I.base.free b o (I.ok.bs b o e).1 (I.ok.bs b o e).2 (I.ok.noex b o e)⟩
theorem Inv.bk (I : Inv X pins σ H s) : ∀ b o, X.base.get? b = some o → s.heap.get? b = some o := fun b o e => (I.bs b o e).1
theorem Inv.mod (I : Inv X pins σ H s) : Mod X.K X.mg X.base := I.ok.mod
theorem Inv.kIn (I : Inv X pins σ H s) : X.K.In s.heap := I.ok.mod.kin.keeps I.bk
theorem Inv.nolimit (I : Inv X pins σ H s) : s.heap.NoLimit := I.ok.mod.nolimit.keeps I.bk
theorem Inv.lt (I : Inv X pins σ H s) : X.env.locals < s.heap.objs.size := let ⟨_, hn, _⟩ := I.loc; hn.lt
theorem Inv.sz (I : Inv X pins σ H s) : X.s₀.heap.objs.size ≤ s.heap.objs.size := Nat.le_trans I.ok.above (Nat.le_of_lt I.lt)
theorem Inv.nofs (I : Inv X pins σ H s) {a : Addr} (h : s.heap.objs.size ≤ a) : a ∉ X.fs := fun hb => by
  obtain ⟨_, o, ho, _⟩ := I.ok.funs.mem hb
  exact absurd (Nat.lt_of_lt_of_le (Heap.lt_size ho) (Nat.le_trans I.sz h)) (Nat.lt_irrefl _)
theorem Inv.cne (I : Inv X pins σ H s) : ∀ x c, X.env.cells.lookup x = some c → c ≠ X.env.locals := fun x c e z => by
  obtain ⟨v, o, ho, hd⟩ := I.cell x c e
  obtain ⟨m, ⟨o', es, ep, ho', hd', _⟩, _⟩ := I.loc
  rw [z, ho'] at ho; cases ho; rw [hd'] at hd; cases hd
theorem Inv.funs (I : Inv X pins σ H s) : s.heap.FunFrames X.base X.outer := by
  have all : ∀ (l : List Env), (∀ b ∈ frs l, b ∈ X.fs) → X.s₀.heap.FunFrames X.base l → s.heap.FunFrames X.base l := by
    intro l
    induction l with
    | nil => intro _ _; trivial
    | cons env r ih =>
      intro hs hl
      obtain ⟨hk, ⟨L, o, hf, hn, ho, hd⟩, hr⟩ := hl
      have hL : L ∈ X.fs := hs L (by unfold frs; rw [List.filterMap_cons, hf]; exact List.mem_cons_self)
      obtain ⟨sl, e⟩ := I.base.slot L o ho (I.ok.frf L hL) hL fun z => I.ok.exfs L z hL
      exact ⟨hk, ⟨L, _, hf, hn, e, hd⟩, ih (fun b hb => hs b (by unfold frs; rw [List.filterMap_cons, hf]; exact List.mem_cons_of_mem _ hb)) hr⟩
  exact all X.outer (fun _ hb => hb) I.ok.funs

/-- the frames that run, for a call -/
theorem Inv.stack (I : Inv X pins σ H s) : s.heap.FunFrames X.base X.stack := by
  rcases I.ok.stk with e | ⟨e, hf⟩
  · rw [e]; exact I.funs
  · rw [e]
    obtain ⟨m, hn, _⟩ := I.loc
    refine .cons (by rw [I.ok.kind]; decide) hf hn ?_ I.funs
    exact Heap.get?_none_of_le (Nat.le_trans I.ok.bsz I.ok.above)
theorem Inv.stkSub (I : Inv X pins σ H s) : ∀ b ∈ frs X.stack, b ∈ X.env.locals :: X.fs := fun b hb => by
  rcases I.ok.stk with e | ⟨e, hf⟩
  · rw [e] at hb; exact List.mem_cons_of_mem _ hb
  · rw [e] at hb
    unfold frs at hb
    rw [List.filterMap_cons, hf] at hb
    exact hb
theorem Inv.stkFree (I : Inv X pins σ H s) : ∀ b ∈ frs X.stack, H b = none := fun b hb => by
  rcases List.mem_cons.mp (I.stkSub b hb) with e | hb
  · rw [e]; exact I.free
  · obtain ⟨_, o, ho, _⟩ := I.ok.funs.mem hb
    exact I.base.free b o ho (I.ok.frf b hb) fun z => I.ok.exfs b z hb

/-- THE STEP: the untracked objects but the frame and the records at ch are kept (the callers' frames up to slots), the frame's map is kept, the new abstract heap is held -/
theorem Inv.step {g' : Array GenState} {t' : Nat} {d' : Drawn} {ch : List Addr} (I : Inv X pins σ H s)
    (hch : ∀ b ∈ ch, (b ∈ X.ex ∨ X.s₀.heap.objs.size ≤ b) ∧ b ≠ X.env.locals ∧ (∀ x c, X.env.cells.lookup x = some c → c ≠ b) ∧ ∀ p ∈ X.pn ++ pins, p.1 ≠ b)
    (keep : ∀ b o, b ≠ X.env.locals → b ∉ X.fs → b ∉ ch → s.heap.get? b = some o → H b = none → h'.get? b = some o)
    (slot : ∀ b o, b ≠ X.env.locals → b ∈ X.fs → b ∉ ch → s.heap.get? b = some o → H b = none → ∃ sl, h'.get? b = some { o with slots := sl }) (free : ∀ b o, b ∉ ch → s.heap.get? b = some o → H b = none → H' b = none)
    (there : ∀ b o, b ∉ ch → s.heap.get? b = some o → ∃ o', h'.get? b = some o')
    (tups : ∀ b xs, H b = some (.tup xs) → H' b = some (.tup xs)) (frzs : ∀ b o u, H b = some (.frz o u) → H' b = some (.frz o u)) (tbls : ∀ b ps, H b = some (.tbl ps) → ∃ more, H' b = some (.tbl (ps ++ more)))
    (ns : ∀ m, s.heap.Ns X.env.locals m → h'.Ns X.env.locals m) (hok : HOk X.prog X.w H' h') (hg : AllBare g') :
    Inv X pins σ H' { s with heap := h', gens := g', drawn := d', toks := t' } := by
  have neL : ∀ b o, X.s₀.heap.get? b = some o → b ≠ X.env.locals := fun b o e => Nat.ne_of_lt (Nat.lt_of_lt_of_le (Heap.lt_size e) I.ok.above)
  have neC : ∀ b o, X.s₀.heap.get? b = some o → b ∉ X.ex → b ∉ ch := fun b o e hx hb => by
    rcases (hch b hb).1 with z | z
    · exact hx z
    · exact absurd (Nat.lt_of_lt_of_le (Heap.lt_size e) z) (Nat.lt_irrefl _)
  have cellK : ∀ x c, X.env.cells.lookup x = some c → ∀ v, s.heap.IsCell c v → h'.IsCell c v := fun x c e v ⟨o, ho, hd⟩ => by
    have nch : c ∉ ch := fun z => (hch c z).2.2.1 x c e rfl
    by_cases hc : c ∈ X.fs
    · obtain ⟨sl, q⟩ := slot c o (I.cne x c e) hc nch ho (I.freeC x c e)
      exact ⟨_, q, hd⟩
    · exact ⟨o, keep c o (I.cne x c e) hc nch ho (I.freeC x c e), hd⟩
  refine ⟨I.ok, I.os, hg, ⟨fun b o e n hb hx => ?_, fun b o e n hb hx => ?_, fun b o e n hx => ?_, fun b o e hx => ?_, fun b xs e => tups b xs (I.base.tups b xs e), fun b o xs e => frzs b o xs (I.base.frzs b o xs e), fun b ps e => ?_⟩, ?_, fun x c e => ?_, ?_, fun x c e => ?_, fun p hp => ?_, hok, I.len⟩
  · exact keep b o (neL b o e) hb (neC b o e hx) (I.base.keep b o e n hb hx) (I.base.free b o e n hx)
  · obtain ⟨sl, e1⟩ := I.base.slot b o e n hb hx
    obtain ⟨sl', e2⟩ := slot b _ (neL b o e) hb (neC b o e hx) e1 (I.base.free b o e n hx)
    exact ⟨sl', e2⟩
  · obtain ⟨o', e1⟩ := I.base.there b o e hx
    exact free b o' (neC b o e hx) e1 (I.base.free b o e n hx)
  · obtain ⟨o', e1⟩ := I.base.there b o e hx
    exact there b o' (neC b o e hx) e1
  · obtain ⟨m1, e1⟩ := I.base.tbls b ps e
    obtain ⟨m2, e2⟩ := tbls b _ e1
    exact ⟨m1 ++ m2, by rw [e2, Array.append_assoc]⟩
  · obtain ⟨m, hn, hl⟩ := I.loc
    refine ⟨m, ns m hn, fun i x v e1 e2 e3 => ?_⟩
    obtain ⟨u, r, l⟩ := hl i x v e1 e2 e3
    refine ⟨u, r, ?_⟩
    rcases l with l | ⟨k, c, e, z⟩
    · exact .inl l
    · exact .inr ⟨k, c, e, cellK x c e _ z⟩
  · obtain ⟨v, z⟩ := I.cell x c e
    exact ⟨v, cellK x c e v z⟩
  · obtain ⟨m, ⟨o, _, _, ho, _⟩, _⟩ := I.loc
    exact free _ o (fun z => (hch _ z).2.1 rfl) ho I.free
  · obtain ⟨v, o, ho, hd⟩ := I.cell x c e
    exact free c o (fun z => (hch c z).2.2.1 x c e rfl) ho (I.freeC x c e)
  · obtain ⟨e, n, ne, nf, d⟩ := I.pin p hp
    have nch : p.1 ∉ ch := fun z => (hch p.1 z).2.2.2 p hp rfl
    exact ⟨keep p.1 p.2 ne nf nch e n, free p.1 p.2 nch e n, ne, nf, d⟩
/-- .. where the frame's own object is kept too -/
theorem Inv.un {t' : Nat} (I : Inv X pins σ H s) (u : Un X.fs [] H H' s.heap h') (hok : HOk X.prog X.w H' h') : Inv X pins σ H' { s with heap := h', toks := t' } := by
  obtain ⟨m, ⟨o, es, ep, ho, r⟩, _⟩ := id I.loc
  obtain ⟨sl, hL⟩ := u.any ho I.free (by simp)
  exact I.step (g' := s.gens) (d' := s.drawn) (ch := []) (fun _ z => nomatch z) (fun b o _ hb _ e n => u.keep b o e n hb (by simp)) (fun b o _ hb _ e n => u.slot b o e n hb (by simp)) (fun b o _ e n => u.free b o e n (by simp)) (fun b o _ e => u.there b o e (by simp)) u.tups u.frzs u.tbls (fun m' hm => by
    obtain ⟨o', es', ep', ho', r'⟩ := hm
    rw [ho] at ho'; cases ho'
    exact ⟨_, es', ep', hL, r'⟩) hok I.bare
/-- behind a call (or a comprehension's block): the slots of this frame may have changed too, the records at ch may have turned -/
theorem Inv.call {g' : Array GenState} {t' : Nat} {d' : Drawn} {ch : List Addr} (I : Inv X pins σ H s) (u : Un (frs X.stack) ch H H' s.heap h') (hok : HOk X.prog X.w H' h') (hg : AllBare g')
    (hch : ∀ b ∈ ch, (b ∈ X.ex ∨ X.s₀.heap.objs.size ≤ b) ∧ b ≠ X.env.locals ∧ (∀ x c, X.env.cells.lookup x = some c → c ≠ b) ∧ ∀ p ∈ X.pn ++ pins, p.1 ≠ b) :
    Inv X pins σ H' { s with heap := h', gens := g', drawn := d', toks := t' } := by
  obtain ⟨m, ⟨o, es, ep, ho, r⟩, _⟩ := id I.loc
  obtain ⟨sl, hL⟩ := u.any ho I.free fun z => (hch _ z).2.1 rfl
  exact I.step (ch := ch) hch (fun b o hL hb hc e n => u.keep b o e n (fun z => (List.mem_cons.mp (I.stkSub b z)).elim hL hb) hc) (fun b o _ _ hc e n => u.any e n hc) (fun b o hc e n => u.free b o e n hc) (fun b o hc e => u.there b o e hc) u.tups u.frzs u.tbls (fun m' hm => by
    obtain ⟨o', es', ep', ho', r'⟩ := hm
    rw [ho] at ho'; cases ho'
    exact ⟨_, es', ep', hL, r'⟩) hok hg
/-- an untracked record of ours (an iterator) has turned -/
theorem Inv.turned {t' : Nat} {it : Addr} (I : Inv X pins σ H s) (k : ∀ b o, b ≠ it → s.heap.get? b = some o → h'.get? b = some o) (hn : H it = none) (hL : it ≠ X.env.locals)
    (h1 : it ∈ X.ex ∨ X.s₀.heap.objs.size ≤ it) (h2 : ∀ x c, X.env.cells.lookup x = some c → c ≠ it) (h3 : ∀ p ∈ X.pn ++ pins, p.1 ≠ it) : Inv X pins σ H { s with heap := h', toks := t' } := by
  have nit : ∀ b u, H b = some u → b ≠ it := fun b u e z => by rw [z, hn] at e; cases e
  refine I.step (g' := s.gens) (d' := s.drawn) (ch := [it]) (fun b hb => ?_) (fun b o _ _ hc e _ => k b o (fun z => hc (by simp [z])) e) (fun b o _ _ hc e _ => ⟨o.slots, k b o (fun z => hc (by simp [z])) e⟩) (fun _ _ _ _ n => n)
    (fun b o hc e => ⟨o, k b o (fun z => hc (by simp [z])) e⟩) (fun _ _ e => e) (fun _ _ _ e => e) (fun b ps e => ⟨#[], by rw [e]; simp⟩) (fun m hm => ?_) (fun b u e => ?_) I.bare
  · have e : b = it := by simpa using hb
    subst e
    exact ⟨h1, hL, h2, h3⟩
  · obtain ⟨o, es, ep, ho, r⟩ := hm
    exact ⟨o, es, ep, k _ o (Ne.symm hL) ho, r⟩
  · refine (I.hok b u e).stay (fun c v hc q => k c v ?_ q) (fun _ q => q) fun _ _ q => q
    rcases hc with z | z
    · rw [z]; exact nit b u e
    · exact nit c _ z
theorem Inv.tok (I : Inv X pins σ H s) (t : Nat) : Inv X pins σ H { s with toks := t } := I.un (h' := s.heap) (t' := t) Un.refl I.hok
/-- all objects kept -/
theorem Inv.kept {t' : Nat} (I : Inv X pins σ H s) (k : ∀ b u, s.heap.get? b = some u → h'.get? b = some u) : Inv X pins σ H { s with heap := h', toks := t' } := I.un (Un.kept k) (I.hok.kept k)
/-- a new object laid and tracked -/
theorem Inv.laid {a : Addr} {o : HO} {t' : Nat} (I : Inv X pins σ H s) (k : ∀ b u, s.heap.get? b = some u → h'.get? b = some u) (hp : s.heap.objs.size ≤ a) (new : ObjOk X.prog X.w (upd H a o) h' a o) :
    Inv X pins σ (upd H a o) { s with heap := h', toks := t' } := I.un (Un.laid k hp (I.hok.fresh hp)) (I.hok.laid k hp new)
/-- an object written -/
theorem Inv.write {x e : Addr} {o : HO} {t' : Nat} (I : Inv X pins σ H s) (mu : Mut (H x)) (he : e = x ∨ H e = some (.own x)) (k : ∀ b u, b ≠ e → s.heap.get? b = some u → h'.get? b = some u) (heo : ∃ u, h'.get? e = some u)
    (new : ObjOk X.prog X.w (upd H x o) h' x o) : Inv X pins σ (upd H x o) { s with heap := h', toks := t' } := I.un (Un.write mu he k heo) (I.hok.write mu he k heo new)
theorem Inv.pins_of {pins' : List (Addr × Obj)} (I : Inv X pins σ H s) (h : ∀ p ∈ pins', s.heap.get? p.1 = some p.2 ∧ H p.1 = none ∧ p.1 ≠ X.env.locals ∧ p.1 ∉ X.fs ∧ ∀ v, p.2.data ≠ .cell v) : Inv X pins' σ H s :=
  ⟨I.ok, I.os, I.bare, I.base, I.loc, I.cell, I.free, I.freeC, fun p hp => (List.mem_append.mp hp).elim (fun z => I.pin p (List.mem_append_left _ z)) (h p), I.hok, I.len⟩

theorem nodup_ix {N : List Str} (hN : N.Nodup) {i j : Nat} {x : Str} (a : N[i]? = some x) (b : N[j]? = some x) : i = j := by
  obtain ⟨h1, e1⟩ := List.getElem?_eq_some_iff.mp a
  obtain ⟨h2, e2⟩ := List.getElem?_eq_some_iff.mp b
  exact (List.getElem_inj hN).mp (e1.trans e2.symm)

/-- a name is stored; what changed -/
theorem store_ok2 {M : Model} {A : Around} {E : Value → Shared → Prop} {i : Nat} {x : Str} {v : V} {u : Value} {Q : Unit → Shared → Prop} (I : Inv X pins σ H s) (hN : X.N.Nodup) (hi : X.N[i]? = some x) (hx : Loc X.env.scope x) (r : RelV v u)
    (h : ∀ s', Inv X pins (σ.set i (some v)) H s' → (∃ a, Heap.SameBut a s.heap s'.heap ∧ (a = X.env.locals ∨ X.env.cells.lookup x = some a)) → Q () s') (hf : X.fn x = true ∨ X.env.scope.names.lookup x = some .local := by first | exact .inl rfl | exact .inr rfl | assumption) : wpAny M A (storeName X.env x u) Q E s := by
  obtain ⟨m, hn, hl⟩ := id I.loc
  have hcls : (X.env.scope.kind == .class || (X.env.scope.kind == .module && X.env.locals != X.env.globals)) = false := by rw [I.ok.kind]; rfl
  have hiσ : i < σ.length := by rw [I.len]; exact (List.getElem?_eq_some_iff.mp hi).1
  have cne := I.cne
  have tracked : ∀ {a : Addr} {h' : Heap}, (∃ o, s.heap.get? a = some o ∧ H a = none) → Heap.SameBut a s.heap h' → HOk X.prog X.w H h' := fun {a h'} ha hs b ob e => by
    obtain ⟨_, _, hfree⟩ := ha
    refine (I.hok b ob e).stay (fun c w' hc q => (hs.2 c ?_).trans q) (fun _ q => q) fun _ _ q => q
    rintro rfl
    rcases hc with rfl | hc
    · rw [hfree] at e; cases e
    · rw [hfree] at hc; cases hc
  rcases hx with hk | hk
  · refine wpAny_storeName_local hk hn (fun h' hn' hs => ?_) hcls
    obtain ⟨oL, _, _, hoL, _⟩ := id hn
    refine h _ ⟨I.ok, I.os, I.bare, ⟨fun b o e n hb hx => ?_, fun b o e n hb hx => ?_, I.base.free, fun b o e hx => ?_, I.base.tups, I.base.frzs, I.base.tbls⟩, ⟨_, hn', fun j y v' e1 e2 e3 => ?_⟩, fun y c e => ?_, I.free, I.freeC, fun p hp => ?_, tracked ⟨oL, hoL, I.free⟩ hs, by simpa using I.len⟩ ⟨_, hs, .inl rfl⟩
    · exact (hs.2 b (Nat.ne_of_lt (Nat.lt_of_lt_of_le (Heap.lt_size e) I.ok.above))).trans (I.base.keep b o e n hb hx)
    · obtain ⟨sl, e1⟩ := I.base.slot b o e n hb hx
      exact ⟨sl, (hs.2 b (Nat.ne_of_lt (Nat.lt_of_lt_of_le (Heap.lt_size e) I.ok.above))).trans e1⟩
    · obtain ⟨o', e1⟩ := I.base.there b o e hx
      exact ⟨o', (hs.2 b (Nat.ne_of_lt (Nat.lt_of_lt_of_le (Heap.lt_size e) I.ok.above))).trans e1⟩
    · by_cases hj : j = i
      · subst hj
        rw [hi] at e1; cases e1
        rw [List.getElem?_set_self hiσ] at e2
        cases e2
        exact ⟨u, r, .inl ⟨hk, by simp⟩⟩
      · rw [List.getElem?_set_ne (Ne.symm hj)] at e2
        obtain ⟨u', r', q⟩ := hl j y v' e1 e2 e3
        refine ⟨u', r', ?_⟩
        rcases q with ⟨k, e⟩ | ⟨k, c, e, z⟩
        · refine .inl ⟨k, ?_⟩
          have : y ≠ x := fun e => hj (nodup_ix hN e1 (e ▸ hi))
          simp [this, e]
        · exact .inr ⟨k, c, e, z.sameBut hs (cne y c e)⟩
    · obtain ⟨w', z⟩ := I.cell y c e
      exact ⟨w', z.sameBut hs (cne y c e)⟩
    · obtain ⟨e, n, ne, nf, d⟩ := I.pin p hp
      exact ⟨(hs.2 p.1 ne).trans e, n, ne, nf, d⟩
  · have hfn : X.fn x = true := by
      rcases hf with z | z
      · exact z
      · rw [z] at hk; cases hk
    obtain ⟨c, hc⟩ := I.ok.has x (.inl hk)
    obtain ⟨w', z⟩ := I.cell x c hc
    refine wpAny_storeName_cell I.ok.kind hk hc z (fun h' hc' hs => ?_)
    obtain ⟨oc, hoc, hocd⟩ := id z
    refine h { s with heap := h' } ⟨I.ok, I.os, I.bare, ⟨fun b o e n hb hx => ?_, fun b o e n hb hx => ?_, I.base.free, fun b o e hx => ?_, I.base.tups, I.base.frzs, I.base.tbls⟩, ⟨m, hn.sameBut hs (Ne.symm (cne x c hc)), fun j y v' e1 e2 e3 => ?_⟩, fun y c' e => ?_, I.free, I.freeC, fun p hp => ?_, tracked ⟨oc, hoc, I.freeC x c hc⟩ hs, by simpa using I.len⟩ ⟨c, hs, .inr hc⟩
    · exact (hs.2 b (Nat.ne_of_lt (Nat.lt_of_lt_of_le (Heap.lt_size e) (I.ok.cab x c hfn hc)))).trans (I.base.keep b o e n hb hx)
    · obtain ⟨sl, e1⟩ := I.base.slot b o e n hb hx
      exact ⟨sl, (hs.2 b (Nat.ne_of_lt (Nat.lt_of_lt_of_le (Heap.lt_size e) (I.ok.cab x c hfn hc)))).trans e1⟩
    · obtain ⟨o', e1⟩ := I.base.there b o e hx
      exact ⟨o', (hs.2 b (Nat.ne_of_lt (Nat.lt_of_lt_of_le (Heap.lt_size e) (I.ok.cab x c hfn hc)))).trans e1⟩
    · by_cases hj : j = i
      · subst hj
        rw [hi] at e1; cases e1
        rw [List.getElem?_set_self hiσ] at e2
        cases e2
        exact ⟨u, r, .inr ⟨.inl hk, c, hc, hc'⟩⟩
      · rw [List.getElem?_set_ne (Ne.symm hj)] at e2
        obtain ⟨u', r', q⟩ := hl j y v' e1 e2 e3
        refine ⟨u', r', ?_⟩
        rcases q with q | ⟨k, c', e, z'⟩
        · exact .inl q
        · refine .inr ⟨k, c', e, z'.sameBut hs ?_⟩
          rintro rfl
          exact hj (nodup_ix hN e1 (I.ok.inj _ _ _ e hc ▸ hi))
    · by_cases hcc : c' = c
      · subst hcc; exact ⟨_, hc'⟩
      · obtain ⟨w2, z2⟩ := I.cell y c' e
        exact ⟨w2, z2.sameBut hs hcc⟩
    · obtain ⟨e, n, ne, nf, d⟩ := I.pin p hp
      refine ⟨(hs.2 p.1 ?_).trans e, n, ne, nf, d⟩
      intro q
      rw [q, hoc] at e
      have q' : oc = p.2 := Option.some.inj e
      exact d w' (by rw [← q']; exact hocd)
theorem store_ok {M : Model} {A : Around} {E : Value → Shared → Prop} {i : Nat} {x : Str} {v : V} {u : Value} {Q : Unit → Shared → Prop} (I : Inv X pins σ H s) (hN : X.N.Nodup) (hi : X.N[i]? = some x) (hx : Loc X.env.scope x) (r : RelV v u)
    (h : ∀ s', Inv X pins (σ.set i (some v)) H s' → Q () s') (hf : X.fn x = true ∨ X.env.scope.names.lookup x = some .local := by first | exact .inl rfl | exact .inr rfl | assumption) : wpAny M A (storeName X.env x u) Q E s :=
  store_ok2 I hN hi hx r (fun s' I' _ => h s' I') hf
/-- behind a call or a block, the state as it is -/
theorem Inv.call' {s' : Shared} {ch : List Addr} (I : Inv X pins σ H s) (ho : s'.os = s.os) (u : Un (frs X.stack) ch H H' s.heap s'.heap) (hok : HOk X.prog X.w H' s'.heap) (hg : AllBare s'.gens)
    (hch : ∀ b ∈ ch, (b ∈ X.ex ∨ X.s₀.heap.objs.size ≤ b) ∧ b ≠ X.env.locals ∧ (∀ x c, X.env.cells.lookup x = some c → c ≠ b) ∧ ∀ p ∈ X.pn ++ pins, p.1 ≠ b) : Inv X pins σ H' s' := by
  obtain ⟨h', g', d', t', o'⟩ := s'
  have e : o' = s.os := ho
  subst e
  exact I.call (g' := g') (t' := t') (d' := d') u hok hg hch
end

/-! ### the judgements -/
/-- an exception: its class, its own dict's address (where it has one), the abstract heap behind it -/
abbrev XK := Value → Option Addr → Hp → Prop
abbrev St := List (Option V)
abbrev VK := V → Hp → Prop
/-- an expression's reading; a test's; an argument list's -/
abbrev TE := St → Hp → VK → Prop
abbrev TT := St → Hp → (Bool → Hp → Prop) → Prop
abbrev TA := St → Hp → (List V → Hp → Prop) → Prop
/-- what is wanted behind a statement -/
structure Ends where
  nx : St → Hp → Prop
  rt : VK
  bk : St → Hp → Prop := fun _ _ => False
  ct : St → Hp → Prop := fun _ _ => False
abbrev TS := Ends → St → Hp → Prop

def EP (X : Cx) (pins : List (Addr × Obj)) (σ : St) (Q : VK) (u : Value) (s' : Shared) : Prop := ∃ v H', Inv X pins σ H' s' ∧ RelV v u ∧ Q v H'
def TP (X : Cx) (pins : List (Addr × Obj)) (σ : St) (Q : Bool → Hp → Prop) (b : Bool) (s' : Shared) : Prop := ∃ H', Inv X pins σ H' s' ∧ Q b H'
def AP (X : Cx) (pins : List (Addr × Obj)) (σ : St) (Q : List V → Hp → Prop) (us : List Value) (s' : Shared) : Prop := ∃ vs H', Inv X pins σ H' s' ∧ Vals vs us ∧ Q vs H'
def SP (X : Cx) (pins : List (Addr × Obj)) (D : Ends) (f : Flow) (s' : Shared) : Prop :=
  match f with
  | .next => ∃ σ' H', Inv X pins σ' H' s' ∧ D.nx σ' H'
  | .brk => ∃ σ' H', Inv X pins σ' H' s' ∧ D.bk σ' H'
  | .cont => ∃ σ' H', Inv X pins σ' H' s' ∧ D.ct σ' H'
  | .ret u => ∃ v σ' H', Inv X pins σ' H' s' ∧ RelV v u ∧ D.rt v H'

def PE (X : Cx) (e : Expr) (t : TE) : Prop :=
  ∀ (pins : List (Addr × Obj)) (s : Shared) (σ : St) (H : Hp) (Q : VK), Inv X pins σ H s → t σ H Q → wpAny (model X.prog X.w) X.A (eval e X.env) (EP X pins σ Q) X.xe s
def PT (X : Cx) (e : Expr) (t : TT) : Prop :=
  ∀ (pins : List (Addr × Obj)) (s : Shared) (σ : St) (H : Hp) (Q : Bool → Hp → Prop), Inv X pins σ H s → t σ H Q → wpAny (model X.prog X.w) X.A (isTrue e X.env (eval e X.env)) (TP X pins σ Q) X.xe s
/-- a test whatever its 'whole' is (and, or) -/
def PW (X : Cx) (e : Expr) (t : TT) : Prop :=
  ∀ (whole : Sem Value) (pins : List (Addr × Obj)) (s : Shared) (σ : St) (H : Hp) (Q : Bool → Hp → Prop), Inv X pins σ H s → t σ H Q → wpAny (model X.prog X.w) X.A (isTrue e X.env whole) (TP X pins σ Q) X.xe s
theorem PW.pt {X : Cx} {e : Expr} {t : TT} (h : PW X e t) : PT X e t := h _
/-- an argument list (no star), from the left -/
def PA (X : Cx) (es : List Expr) (t : TA) : Prop :=
  ∀ (pos : Pos) (pins : List (Addr × Obj)) (s : Shared) (σ : St) (H : Hp) (Q : List V → Hp → Prop), Inv X pins σ H s → t σ H Q → wpAny (model X.prog X.w) X.A (spliced (backTo pos (starEach es X.env))) (AP X pins σ Q) X.xe s
def PS (X : Cx) (st : Stmt) (t : TS) : Prop :=
  ∀ (pins : List (Addr × Obj)) (s : Shared) (σ : St) (H : Hp) (D : Ends), Inv X pins σ H s → t D σ H → wpAny (model X.prog X.w) X.A (exec st X.env) (SP X pins D) X.xe s
def PSs (X : Cx) (st : List Stmt) (t : TS) : Prop :=
  ∀ (pins : List (Addr × Obj)) (s : Shared) (σ : St) (H : Hp) (D : Ends), Inv X pins σ H s → t D σ H → wpAny (model X.prog X.w) X.A (execs st X.env) (SP X pins D) X.xe s
/-- weaken the end -/
theorem thn {α : Type} {t : Sem α} {Q Q' : α → Shared → Prop} {M : Model} {A : Around} {E : Value → Shared → Prop} {s : Shared} (h : wpAny M A t Q E s) (hQ : ∀ a s, Q a s → Q' a s) : wpAny M A t Q' E s := wpAny_mono h hQ fun _ _ x => x
end L2

namespace L2
open PySem PySem.Spec PyProof.Rows
section
variable {X : Cx}

/-! ### names and constants -/
def tVar (i : Nat) : TE := fun σ H Q => ∃ v, σ[i]? = some (some v) ∧ Q v H
def tC (v : V) : TE := fun _ H Q => Q v H
theorem pe_var {i : Nat} {x : Str} {pos : Pos} (hN : X.N[i]? = some x) (hv : Vis X.env.scope x) (hd : (x == ("__debug__" : Str)) = false := by decide) (hcd : (x == ("__classdict__" : Str)) = false := by decide) : PE X (.Name x pos) (tVar i) := by
  intro pins s σ H Q I h
  obtain ⟨v, e, h⟩ := h
  obtain ⟨m, hn, hl⟩ := I.loc
  obtain ⟨u, r, l⟩ := hl i x v hN e hv
  have fin : EP X pins σ Q u s := ⟨v, H, I, r, h⟩
  rcases l with ⟨hk, hm⟩ | ⟨hk, c, hc, hcell⟩
  · exact wpAny_Name (wpAny_loadName_local I.ok.kind hk hn hm fin) hd
  · rcases hk with hk | hk
    · exact wpAny_Name (wpAny_loadName_cell I.ok.kind hk hc hcell fin) hd
    · exact wpAny_Name (wpAny_loadName_free I.ok.kind hk hc hcell fin hcd) hd
theorem pe_int {i j pos} : PE X (.Constant (.int i) j pos) (tC (.int i)) := fun _ _ _ H _ I h => wpAny_Constant_int ⟨.int i, H, I.tok _, ⟨_, rfl⟩, h⟩
theorem pe_bl {b j pos} : PE X (.Constant (.bool b) j pos) (tC (.bl b)) := fun _ _ _ H _ I h => Constant_bool ⟨.bl b, H, I, rfl, h⟩
theorem pe_str {x j pos} : PE X (.Constant (.str x) j pos) (tC (.str x)) := fun _ _ _ H _ I h => Calls.Constant_str ⟨.str x, H, I.tok _, ⟨_, rfl⟩, h⟩

/-- a global name of the def -/
def Gl (X : Cx) (x : Str) : Prop := X.env.kindOf x = some .globalImplicit
theorem ld_glob {E : Value → Shared → Prop} {pins : List (Addr × Obj)} {s : Shared} {σ : St} {H : Hp} {x : Str} {u : Value} {pos : Pos} {Q : Value → Shared → Prop} (I : Inv X pins σ H s) (hg : Gl X x) (hm : X.mg x = some u) (h : Q u s)
    (hd : (x == ("__debug__" : Str)) = false := by decide) : wpAny (model X.prog X.w) X.A (eval (.Name x pos) X.env) Q E s :=
  Calls.Name_function_global I.ok.kind hg (Calls.loadGlobal_global (by rw [I.ok.glob]; exact I.mod.glob.keeps I.bk) hm h) hd
theorem ld_blt {E : Value → Shared → Prop} {pins : List (Addr × Obj)} {s : Shared} {σ : St} {H : Hp} {x : Str} {u : Value} {pos : Pos} {Q : Value → Shared → Prop} (I : Inv X pins σ H s) (hg : Gl X x) (hm : X.mg x = none) (hv : bootBuiltins x = some u) (h : Q u s)
    (hn : x ≠ "__name__" := by decide) (hd : (x == ("__debug__" : Str)) = false := by decide) : wpAny (model X.prog X.w) X.A (eval (.Name x pos) X.env) Q E s := by
  obtain ⟨mb, h1, h2⟩ := I.mod.blt
  exact Calls.Name_function_global I.ok.kind hg (Calls.loadGlobal_builtin (by rw [I.ok.glob]; exact I.mod.glob.keeps I.bk) hm (by rw [I.ok.blt]; exact h1.keeps I.bk) ((h2 x hn).trans hv) h) hd
/-- a module's constant, a class, a function, as a value -/
theorem pe_glob {x : Str} {v : V} {u : Value} {pos : Pos} (hg : Gl X x) (hm : X.mg x = some u) (r : RelV v u) (hd : (x == ("__debug__" : Str)) = false := by decide) : PE X (.Name x pos) (tC v) :=
  fun _ _ _ H _ I h => ld_glob I hg hm ⟨v, H, I, r, h⟩ hd
theorem pe_bltn {x : Str} {v : V} {u : Value} {pos : Pos} (hg : Gl X x) (hm : X.mg x = none) (hv : bootBuiltins x = some u) (r : RelV v u) (hn : x ≠ "__name__" := by decide) (hd : (x == ("__debug__" : Str)) = false := by decide) : PE X (.Name x pos) (tC v) :=
  fun _ _ _ H _ I h => ld_blt I hg hm hv ⟨v, H, I, r, h⟩ hn hd

/-! ### arithmetic -/
variable {a b : Expr} {ta tb : TE} {pos : Pos}
/-! ### comparisons -/
def PC (X : Cx) (op : CmpOp) (a b : Expr) (t : TE) : Prop :=
  ∀ (pins : List (Addr × Obj)) (s : Shared) (σ : St) (H : Hp) (Q : VK), Inv X pins σ H s → t σ H Q →
    wpAny (model X.prog X.w) X.A (eval a X.env) (fun v s₁ => wpAny (model X.prog X.w) X.A (eval b X.env) (fun u s₂ => wpAny (model X.prog X.w) X.A (compareOp op v u) (EP X pins σ Q) X.xe s₂) X.xe s₁) X.xe s
/-! ### and, or, not -/
variable {tA tB' : TT} {rest : List Expr}
def tAnd (t u : TT) : TT := fun σ H Q => t σ H fun c H1 => if c = true then u σ H1 Q else Q false H1
def tOr (t u : TT) : TT := fun σ H Q => t σ H fun c H1 => if c = true then Q true H1 else u σ H1 Q
def tNot (t : TT) : TT := fun σ H Q => t σ H fun c H1 => Q (!c) H1
theorem pw_and1 (ha : PT X a tA) : PW X (.BoolOp .And [a] pos) tA := by
  intro wh pins s σ H Q I h
  refine isTrue_and (thn (ha pins s σ H Q I h) fun c s1 e => ?_)
  cases c with
  | true => exact isTrue_and_nil e
  | false => exact e
theorem pw_or1 (ha : PT X a tA) : PW X (.BoolOp .Or [a] pos) tA := by
  intro wh pins s σ H Q I h
  refine isTrue_or (thn (ha pins s σ H Q I h) fun c s1 e => ?_)
  cases c with
  | false => exact isTrue_or_nil e
  | true => exact e
theorem pw_and (ha : PT X a tA) (hb : PW X (.BoolOp .And (b :: rest) pos) tB') : PW X (.BoolOp .And (a :: b :: rest) pos) (tAnd tA tB') := by
  intro wh pins s σ H Q I h
  refine isTrue_and (thn (ha pins s σ H _ I h) fun c s1 ⟨H1, I1, q1⟩ => ?_)
  cases c with
  | true => exact hb wh pins s1 σ H1 Q I1 q1
  | false => exact ⟨H1, I1, q1⟩
theorem pw_or (ha : PT X a tA) (hb : PW X (.BoolOp .Or (b :: rest) pos) tB') : PW X (.BoolOp .Or (a :: b :: rest) pos) (tOr tA tB') := by
  intro wh pins s σ H Q I h
  refine isTrue_or (thn (ha pins s σ H _ I h) fun c s1 ⟨H1, I1, q1⟩ => ?_)
  cases c with
  | true => exact ⟨H1, I1, q1⟩
  | false => exact hb wh pins s1 σ H1 Q I1 q1
theorem pt_not (ha : PT X a tA) : PT X (.UnaryOp .Not a pos) (tNot tA) := by
  intro pins s σ H Q I h
  exact isTrue_not (ha pins s σ H (fun c H1 => Q (!c) H1) I h)
/-- .. as values (bools) -/
def tAndV (ta tb : TE) : TE := fun σ H Q => ta σ H fun x H1 => ∃ c, x = .bl c ∧ if c = true then tb σ H1 Q else Q (.bl false) H1
theorem pe_one {op} {t : TE} (h : PE X a t) : PE X (.BoolOp op [a] pos) t := fun pins s σ H Q I hw => BoolOp_one (h pins s σ H Q I hw)
theorem pe_and (ha : PE X a ta) (hb : PE X (.BoolOp .And (b :: rest) pos) tb) : PE X (.BoolOp .And (a :: b :: rest) pos) (tAndV ta tb) := by
  intro pins s σ H Q I h
  refine BoolOp_and (thn (ha pins s σ H _ I h) fun v s1 ⟨x, H1, I1, r1, q1⟩ => ?_)
  obtain ⟨c, rfl, q1⟩ := q1
  cases r1
  refine wpAny_truthy_bool ?_
  cases c with
  | true => exact hb pins s1 σ H1 Q I1 q1
  | false => exact ⟨.bl false, H1, I1, rfl, q1⟩
/-- a if t else b -/
def tIf (t : TT) (ta tb : TE) : TE := fun σ H Q => t σ H fun c H1 => if c = true then ta σ H1 Q else tb σ H1 Q
theorem pe_ifExp {c : Expr} (hc : PT X c tA) (ha : PE X a ta) (hb : PE X b tb) : PE X (.IfExp c a b pos) (tIf tA ta tb) := by
  intro pins s σ H Q I h
  refine wpAny_IfExp (thn (hc pins s σ H _ I h) fun d s1 ⟨H1, I1, q1⟩ => ?_)
  cases d with
  | true => exact ha pins s1 σ H1 Q I1 q1
  | false => exact hb pins s1 σ H1 Q I1 q1
end
end L2

namespace L2
open PySem PySem.Spec PyProof.Rows

/-! ### a list, a tuple that is read: tracked, frozen, or an object of the module -/
def SqL (K : PySem.W.Frag) (H : Hp) (a : Addr) (xs : List V) : Prop :=
  Rd H a (.lst xs) ∨
    ∃ (o : Obj) (its : Array Value) (n : Nat), K.lookup a = some o ∧ o.cls = .type "list" ∧ o.dict = none ∧ o.data = .seq its n ∧ its.size ≤ sizeLine ∧ Vals xs its.toList
def SqT (K : PySem.W.Frag) (H : Hp) (a : Addr) (xs : List V) : Prop :=
  Rd H a (.tup xs) ∨
    ∃ (o : Obj) (its : Array Value) (n : Nat), K.lookup a = some o ∧ o.cls = .type "tuple" ∧ o.data = .seq its n ∧ its.size ≤ sizeLine ∧ Vals xs its.toList
def absV : Value → Option V
  | .none => some .non
  | .bool b => some (.bl b)
  | .int i _ => some (.int i)
  | .str x _ => some (.str x)
  | .bytes b _ => some (.byt b)
  | .float b _ => some (.flt b)
  | .ref a => some (.ref a)
  | .type n => some (.ty n)
  | _ => none
theorem RelV.abs {x : V} {u : Value} (r : RelV x u) : absV u = some x := by
  cases x with
  | non => cases r; rfl
  | bl _ => cases r; rfl
  | int _ => obtain ⟨t, rfl⟩ := r; rfl
  | str _ => obtain ⟨t, rfl⟩ := r; rfl
  | byt _ => obtain ⟨t, rfl⟩ := r; rfl
  | flt _ => obtain ⟨t, rfl⟩ := r; rfl
  | ref _ => cases r; rfl
  | ty _ => cases r; rfl
theorem RelV.inj {x y : V} {u : Value} (r : RelV x u) (q : RelV y u) : x = y := Option.some.inj (r.abs.symm.trans q.abs)
theorem Vals.inj : ∀ {xs ys : List V} {us : List Value}, Vals xs us → Vals ys us → xs = ys
  | _, _, _, .nil, .nil => rfl
  | _, _, _, .cons r t, .cons r' t' => by rw [r.inj r', Vals.inj t t']
section
variable {X : Cx} {pins : List (Addr × Obj)} {σ : St} {H : Hp} {s : Shared} {a : Addr} {xs ys : List V}
theorem SqL.of {K : PySem.W.Frag} (h : H a = some (.lst xs)) : SqL K H a xs := .inl (.inl h)
theorem SqT.of {K : PySem.W.Frag} (h : H a = some (.tup xs)) : SqT K H a xs := .inl (.inl h)
theorem Inv.list (I : Inv X pins σ H s) (h : SqL X.K H a xs) : ∃ its : List Value, Vals xs its ∧ PlainL s.heap a its.toArray ∧ xs.length ≤ sizeLine := by
  rcases h with h | ⟨o, its, n, hk, hc, hd, hs, hz, r⟩
  · obtain ⟨z, its, n, r, e⟩ := h.ok I.hok
    exact ⟨its, r, ⟨_, n, e, rfl, rfl, rfl⟩, z⟩
  · refine ⟨its.toList, r, ⟨o, n, I.kIn a o hk, hc, hd, by simpa using hs⟩, ?_⟩
    have e := r.length
    simp only [Array.length_toList] at e
    omega
theorem Inv.tuple (I : Inv X pins σ H s) (h : SqT X.K H a xs) : ∃ its : List Value, Vals xs its ∧ IsTup s.heap a its.toArray ∧ xs.length ≤ sizeLine := by
  rcases h with h | ⟨o, its, n, hk, hc, hs, hz, r⟩
  · obtain ⟨z, its, r, p⟩ := h.ok I.hok
    exact ⟨its, r, p, z⟩
  · refine ⟨its.toList, r, ⟨o, I.kIn a o hk, hc, n, by simpa using hs⟩, ?_⟩
    have e := r.length
    simp only [Array.length_toList] at e
    omega
theorem Inv.list_inj (I : Inv X pins σ H s) (h : SqL X.K H a xs) (h' : SqL X.K H a ys) : xs = ys := by
  obtain ⟨its, r, ⟨o, n, e, _, _, d⟩, _⟩ := I.list h
  obtain ⟨its', r', ⟨o', n', e', _, _, d'⟩, _⟩ := I.list h'
  rw [e] at e'; cases e'
  rw [d] at d'
  injection d' with d1 _
  have : its = its' := by simpa using congrArg Array.toList d1
  subst this
  exact r.inj r'
end

/-! ### another wish about exceptions -/
abbrev Cx.wish (X : Cx) (E : Value → Shared → Prop) : Cx := { X with xe := E }
/-- no exception leaves -/
abbrev Cx.nox (X : Cx) : Cx := X.wish fun _ _ => False
theorem Cx.Ok.wish {X : Cx} (ok : X.Ok) (E : Value → Shared → Prop) : (X.wish E).Ok :=
  ⟨ok.mod, ok.kind, ok.glob, ok.blt, ok.above, ok.inj, ok.has, ok.cab, ok.hd, ok.frames, ok.stk, ok.exf, ok.bs, ok.bsz, ok.noex, ok.exfs, ok.funs, ok.frf⟩
theorem Cx.Ok.unwish {X : Cx} {E : Value → Shared → Prop} (ok : (X.wish E).Ok) : X.Ok :=
  ⟨ok.mod, ok.kind, ok.glob, ok.blt, ok.above, ok.inj, ok.has, ok.cab, ok.hd, ok.frames, ok.stk, ok.exf, ok.bs, ok.bsz, ok.noex, ok.exfs, ok.funs, ok.frf⟩
section
variable {X : Cx} {pins : List (Addr × Obj)} {σ : St} {H : Hp} {s : Shared} {E : Value → Shared → Prop}
theorem Inv.wish (I : Inv X pins σ H s) (E : Value → Shared → Prop) : Inv (X.wish E) pins σ H s := ⟨I.ok.wish E, I.os, I.bare, I.base, I.loc, I.cell, I.free, I.freeC, I.pin, I.hok, I.len⟩
theorem Inv.unwish (I : Inv (X.wish E) pins σ H s) : Inv X pins σ H s := ⟨I.ok.unwish, I.os, I.bare, I.base, I.loc, I.cell, I.free, I.freeC, I.pin, I.hok, I.len⟩
theorem SP.unwish {D : Ends} {f : Flow} {s' : Shared} (h : SP (X.wish E) pins D f s') : SP X pins D f s' := by
  cases f with
  | next => obtain ⟨σ', H', I, q⟩ := h; exact ⟨σ', H', I.unwish, q⟩
  | brk => obtain ⟨σ', H', I, q⟩ := h; exact ⟨σ', H', I.unwish, q⟩
  | cont => obtain ⟨σ', H', I, q⟩ := h; exact ⟨σ', H', I.unwish, q⟩
  | ret u => obtain ⟨v, σ', H', I, r, q⟩ := h; exact ⟨v, σ', H', I.unwish, r, q⟩
theorem PE.nox {e : Expr} {t : TE} (h : PE X.nox e t) : PE X e t := fun pins s σ H Q I hw =>
  wpAny_mono (h pins s σ H Q (I.wish _) hw) (fun _ _ ⟨v, H', I', r, q⟩ => ⟨v, H', I'.unwish, r, q⟩) fun _ _ z => False.elim z
theorem PT.nox {e : Expr} {t : TT} (h : PT X.nox e t) : PT X e t := fun pins s σ H Q I hw =>
  wpAny_mono (h pins s σ H Q (I.wish _) hw) (fun _ _ ⟨H', I', q⟩ => ⟨H', I'.unwish, q⟩) fun _ _ z => False.elim z
theorem PSs.nox {st : List Stmt} {t : TS} (h : PSs X.nox st t) : PSs X st t := fun pins s σ H D I hw =>
  wpAny_mono (h pins s σ H D (I.wish _) hw) (fun _ _ q => q.unwish) fun _ _ z => False.elim z
end

/-! ### blocks and small statements -/
section
variable {X : Cx} {st : Stmt} {rest : List Stmt} {t u : TS} {e : Expr} {te : TE} {pos : Pos}
def tNext : TS := fun D σ H => D.nx σ H
def tSeq (t u : TS) : TS := fun D σ H => t { D with nx := u D } σ H
theorem pss_nil : PSs X [] tNext := fun _ _ σ H _ I h => wpAny_execs_nil ⟨σ, H, I, h⟩
theorem pss_cons (h1 : PS X st t) (h2 : PSs X rest u) : PSs X (st :: rest) (tSeq t u) := by
  intro pins s σ H D I h
  refine wpAny_execs_cons (thn (h1 pins s σ H { D with nx := u D } I h) fun f s1 q => ?_)
  cases f with
  | next =>
    obtain ⟨σ', H', I', q⟩ := q
    exact h2 pins s1 σ' H' D I' q
  | ret v => exact q
  | brk => exact q
  | cont => exact q
theorem pss_one (h1 : PS X st t) : PSs X [st] t := by
  intro pins s σ H D I h
  refine wpAny_execs_cons (thn (h1 pins s σ H D I h) fun f s1 q => ?_)
  cases f with
  | next => exact wpAny_execs_nil q
  | ret v => exact q
  | brk => exact q
  | cont => exact q
/-- in a def's body nothing is shown -/
theorem Inv.quiet {pins : List (Addr × Obj)} {σ : St} {H : Hp} {s : Shared} (I : Inv X pins σ H s) : interactive X.env = false := by simp [interactive, I.ok.kind]
/-- an expression whose value is dropped -/
def tDrop (te : TE) : TS := fun D σ H => te σ H fun _ H1 => D.nx σ H1
theorem ps_expr (he : PE X e te) (hs : swapsWith e none pos.line X.env = pure false := by rfl) : PS X (.Expr e pos) (tDrop te) := by
  intro pins s σ H D I h
  exact wpAny_Expr_any (thn (he pins s σ H _ I h) fun v s1 ⟨x, H1, I1, r1, q1⟩ => ⟨σ, H1, I1, q1⟩) I.quiet hs
def tRet (te : TE) : TS := fun D σ H => te σ H D.rt
theorem ps_ret (he : PE X e te) : PS X (.Return (some e) pos) (tRet te) := by
  intro pins s σ H D I h
  exact wpAny_Return_some (thn (he pins s σ H _ I h) fun v s1 ⟨x, H1, I1, r1, q1⟩ => ⟨x, σ, H1, I1, r1, q1⟩)
def tIfS (c : TT) (t u : TS) : TS := fun D σ H => c σ H fun b H1 => if b = true then t D σ H1 else u D σ H1
theorem ps_if {c : Expr} {a b : List Stmt} {tc : TT} (hc : PT X c tc) (ha : PSs X a t) (hb : PSs X b u) : PS X (.If c a b pos) (tIfS tc t u) := by
  intro pins s σ H D I h
  refine wpAny_If (thn (hc pins s σ H _ I h) fun d s1 ⟨H1, I1, q1⟩ => ?_)
  cases d with
  | true => exact ha pins s1 σ H1 D I1 q1
  | false => exact hb pins s1 σ H1 D I1 q1
/-- code that the proof never comes to -/
def tNever : TS := fun _ _ _ => False
theorem ps_never : PS X st tNever := fun _ _ _ _ _ _ h => h.elim
end

/-! ### targets -/
abbrev TG := V → St → Hp → (St → Hp → Prop) → Prop
abbrev TGs := List V → St → Hp → (St → Hp → Prop) → Prop
def PG (X : Cx) (target : Expr) (t : TG) : Prop :=
  ∀ (pins : List (Addr × Obj)) (s : Shared) (σ : St) (H : Hp) (v : V) (u : Value) (Q : St → Hp → Prop), Inv X pins σ H s → RelV v u → t v σ H Q →
    wpAny (model X.prog X.w) X.A (assign target X.env u) (fun _ s' => ∃ σ' H', Inv X pins σ' H' s' ∧ Q σ' H') X.xe s
/-- several targets, one after another -/
def PGs (X : Cx) (ts : List Expr) (t : TGs) : Prop :=
  ∀ (pins : List (Addr × Obj)) (s : Shared) (σ : St) (H : Hp) (vs : List V) (us : List Value) (Q : St → Hp → Prop), Inv X pins σ H s → Vals vs us → t vs σ H Q →
    wpAny (model X.prog X.w) X.A (assignInOrder ((assignEach ts X.env).map (·.2)) us) (fun _ s' => ∃ σ' H', Inv X pins σ' H' s' ∧ Q σ' H') X.xe s
section
variable {X : Cx} {pos : Pos}
def gName (i : Nat) : TG := fun v σ H Q => Q (σ.set i (some v)) H
theorem pg_name {i : Nat} {x : Str} (hN : X.N.Nodup) (hi : X.N[i]? = some x) (hx : Loc X.env.scope x) (hf : X.fn x = true ∨ X.env.scope.names.lookup x = some .local := by first | exact .inl rfl | exact .inr rfl | assumption) : PG X (.Name x pos) (gName i) := by
  intro pins s σ H v u Q I r h
  exact wpAny_assign_Name (store_ok I hN hi hx r (fun s' I' => ⟨_, H, I', h⟩) hf)
def gNil : TGs := fun vs σ H Q => vs = [] ∧ Q σ H
def gCons (t : TG) (u : TGs) : TGs := fun vs σ H Q => ∃ v r, vs = v :: r ∧ t v σ H fun σ' H' => u r σ' H' Q
theorem pgs_nil : PGs X [] gNil := by
  intro pins s σ H vs us Q I r h
  obtain ⟨e, h⟩ := h
  subst e
  cases r
  exact assignInOrder_nil ⟨σ, H, I, h⟩
theorem pgs_cons {e : Expr} {es : List Expr} {t : TG} {u : TGs} (h1 : PG X e t) (h2 : PGs X es u)
    (hs : (assignEach (e :: es) X.env).map (·.2) = assign e X.env :: (assignEach es X.env).map (·.2) := by rfl) : PGs X (e :: es) (gCons t u) := by
  intro pins s σ H vs us Q I r h
  obtain ⟨v, vr, e1, h⟩ := h
  subst e1
  cases r with
  | cons r rr =>
    rw [hs]
    refine assignInOrder_cons (thn (h1 pins s σ H _ _ _ I r h) fun _ s1 ⟨σ1, H1, I1, q1⟩ => ?_)
    exact h2 pins s1 σ1 H1 _ _ Q I1 rr q1
/-- (a, b, ..) = a tuple of that length -/
def gTup (K : PySem.W.Frag) (n : Nat) (t : TGs) : TG := fun v σ H Q => ∃ a xs, v = .ref a ∧ SqT K H a xs ∧ xs.length = n ∧ t xs σ H Q
theorem pg_tup {es : List Expr} {k : Nat} {t : TGs} {n : Nat} (hc : X.calm = true) (h : PGs X es t)
    (hn : (assignEach es X.env).length = n := by rfl) (hst : (assignEach es X.env).findIdx? (·.1) = none := by rfl) : PG X (.Tuple es k pos) (gTup X.K n t) := by
  intro pins s σ H v u Q I r hw
  obtain ⟨a, xs, e1, hq, hl, hw⟩ := hw
  subst e1
  cases r
  obtain ⟨its, rv, ht, hz⟩ := I.tuple hq
  refine assign_Tuple_tuple (I.ok.hd hc) ht (by simp [hn, ← hl, rv.length]) hst fun h' hx => ?_
  have I1 : Inv X pins σ H { s with heap := h' } := I.kept (t' := s.toks) fun b o e => hx b o (Nat.ne_of_lt (Heap.lt_size e)) e
  exact h pins _ σ H xs _ Q I1 (by simpa using rv) hw
/-- target = value -/
def tAsg (te : TE) (g : TG) : TS := fun D σ H => te σ H fun x H1 => g x σ H1 D.nx
/-- name = value -/
theorem ps_set {i : Nat} {x : Str} {e : Expr} {te : TE} {pos' : Pos} (hN : X.N.Nodup) (hi : X.N[i]? = some x) (hx : Loc X.env.scope x) (he : PE X e te) (hs : swapsWith e (some (.Name x pos')) pos.line X.env = pure false := by rfl) (hf : X.fn x = true ∨ X.env.scope.names.lookup x = some .local := by first | exact .inl rfl | exact .inr rfl | assumption) :
    PS X (.Assign [.Name x pos'] e pos) (tAsg te (gName i)) := by
  intro pins s σ H D I h
  refine wpAny_Assign_Name (thn (he pins s σ H _ I h) fun v s1 ⟨y, H1, I1, r1, q1⟩ => ?_) hs
  exact store_ok I1 hN hi hx r1 (fun s2 I2 => ⟨_, H1, I2, q1⟩) hf
end

/-! ### while -/
section
variable {X : Cx} {pos : Pos}
/-- the invariant W with its measure -/
def tWhile (c : TT) (tb : TS) : TS := fun D σ H => ∃ W : Nat → St → Hp → Prop, (∃ m, W m σ H) ∧ ∀ m σ H, W m σ H →
  c σ H fun b H1 => if b = true then ∃ N : St → Hp → Prop, (∀ σ' H', N σ' H' → ∃ m', m' < m ∧ W m' σ' H') ∧ tb { D with nx := N, ct := N, bk := D.nx } σ H1 else D.nx σ H1
theorem ps_while {c : Expr} {body : List Stmt} {tc : TT} {tb : TS} (hp : PassesOwn (model X.prog X.w) X.A X.env X.xe) (hc : PT X c tc) (hb : PSs X body tb) : PS X (.While c body [] pos) (tWhile tc tb) := by
  intro pins s σ H D I h
  obtain ⟨W, ⟨m0, w0⟩, turn⟩ := h
  refine wpAny_While (codeAny_whileLoop (fun n s' => ∃ σ' H', Inv X pins σ' H' s' ∧ W n σ' H') ?_ m0 ⟨σ, H, I, w0⟩)
  rintro n s1 ⟨σ1, H1, I1, w1⟩
  refine wpAny_passesOwn hp (thn (hc pins s1 σ1 H1 _ I1 (turn n σ1 H1 w1)) fun b s2 ⟨H2, I2, q2⟩ => ?_)
  cases b with
  | true =>
    obtain ⟨N, hN, q2⟩ := q2
    rw [if_pos rfl]
    refine wpAny_passesOwn hp (thn (hb pins s2 σ1 H2 _ I2 q2) fun f s3 q3 => ?_)
    cases f with
    | next =>
      obtain ⟨σ3, H3, I3, n3⟩ := q3
      obtain ⟨m', hm, w3⟩ := hN σ3 H3 n3
      exact ⟨m', hm, σ3, H3, I3, w3⟩
    | cont =>
      obtain ⟨σ3, H3, I3, n3⟩ := q3
      obtain ⟨m', hm, w3⟩ := hN σ3 H3 n3
      exact ⟨m', hm, σ3, H3, I3, w3⟩
    | brk => exact q3
    | ret v => exact q3
  | false =>
    rw [if_neg Bool.false_ne_true]
    exact wpAny_execs_nil ⟨σ1, H2, I2, q2⟩
end

/-! ### what a loop or a comprehension walks -/
/-- at turn i: it yields x (the heap may grow), or it stops -/
structure It where
  go : Nat → Hp → Prop
  yld : Nat → Hp → V → Hp → Prop
  stop : Nat → Hp → Prop
/-- the iterator's own objects may turn: they are not the frame's, not pinned, younger than the entry (or a comprehension's own) -/
def FpOk (X : Cx) (pins : List (Addr × Obj)) (H : Hp) (b : Addr) : Prop :=
  H b = none ∧ b ≠ X.env.locals ∧ b ∉ X.fs ∧ (b ∈ X.ex ∨ X.s₀.heap.objs.size ≤ b) ∧ (∀ x c, X.env.cells.lookup x = some c → c ≠ b) ∧ ∀ p ∈ X.pn ++ pins, p.1 ≠ b
theorem Inv.fpOk {X : Cx} {pins : List (Addr × Obj)} {σ : St} {H H' : Hp} {s : Shared} {b : Addr} (I : Inv X pins σ H s) (hb : s.heap.objs.size ≤ b) (hn : H' b = none) : FpOk X pins H' b := by
  refine ⟨hn, Nat.ne_of_gt (Nat.lt_of_lt_of_le I.lt hb), I.nofs hb, .inr (Nat.le_trans I.sz hb), fun x c e z => ?_, fun p hp z => ?_⟩
  · obtain ⟨v, q⟩ := I.cell x c e
    exact absurd (Nat.lt_of_lt_of_le q.lt (by rw [z]; exact hb)) (Nat.lt_irrefl _)
  · exact absurd (Nat.lt_of_lt_of_le (Heap.lt_size (I.pin p hp).1) (by rw [z]; exact hb)) (Nat.lt_irrefl _)
structure Turn (P : Program) (w : World) (K : PySem.W.Frag) (tg : Expr) (J : It) (fp : List Addr) (it : Addr) (tn : Nat → Heap → Prop) : Prop where
  mem : it ∈ fp
  obj : ∀ i h, tn i h → ∀ b ∈ fp, ∃ o, h.get? b = some o ∧ ∀ v, o.data ≠ .cell v
  keep : ∀ i h h', tn i h → (∀ b ∈ fp, ∀ o, h.get? b = some o → h'.get? b = some o) → tn i h'
  item : ∀ (X : Cx), X.prog = P → X.w = w → X.K = K → X.calm = true → ∀ (i : Nat) (pins : List (Addr × Obj)) (s : Shared) (σ : St) (H : Hp) (E : Value → Shared → Prop), Inv X pins σ H s → (∀ b ∈ fp, FpOk X pins H b) → tn i s.heap → J.go i H →
    wpAny (model P w) X.A (pyNext (.ref it)) (fun r s1 => ∃ u, r = some u ∧
      wpAny (model P w) X.A (letOwnedTupleGo tg (.ref it) u) (fun _ s2 => ∃ x H', Inv X pins σ H' s2 ∧ RelV x u ∧ J.yld i H x H' ∧ tn (i + 1) s2.heap ∧ ∀ b ∈ fp, H' b = none) E s1) E s
  done : ∀ (X : Cx), X.prog = P → X.w = w → X.K = K → X.calm = true → ∀ (i : Nat) (pins : List (Addr × Obj)) (s : Shared) (σ : St) (H : Hp) (E : Value → Shared → Prop), Inv X pins σ H s → (∀ b ∈ fp, FpOk X pins H b) → tn i s.heap → J.stop i H →
    wpAny (model P w) X.A (pyNext (.ref it)) (fun r s1 => r = none ∧ Inv X pins σ H s1) E s
  self : ∀ (A : Around) (i : Nat) (s : Shared) (Q : Value → Shared → Prop) (E : Value → Shared → Prop), tn i s.heap → Q (.ref it) s → wpAny (model P w) A (pyIter (.ref it)) Q E s
abbrev TI := St → Hp → (It → Hp → Prop) → Prop
/-- an iterator has come -/
def PIE (X : Cx) (pins : List (Addr × Obj)) (σ : St) (tg : Expr) (R : It → Hp → Prop) (itv : Value) (s2 : Shared) : Prop :=
  ∃ (it : Addr) (fp : List Addr) (tn : Nat → Heap → Prop) (J : It) (H' : Hp), itv = .ref it ∧ Inv X pins σ H' s2 ∧ Turn X.prog X.w X.K tg J fp it tn ∧ tn 0 s2.heap ∧ (∀ b ∈ fp, FpOk X pins H' b) ∧ R J H'
def PI (X : Cx) (tg iter : Expr) (wi : TI) : Prop :=
  ∀ (pins : List (Addr × Obj)) (s : Shared) (σ : St) (H : Hp) (R : It → Hp → Prop), Inv X pins σ H s → wi σ H R →
    wpAny (model X.prog X.w) X.A (eval iter X.env) (fun v s1 => wpAny (model X.prog X.w) X.A (pyIter v) (PIE X pins σ tg R) X.xe s1) X.xe s

/-- the step ahead of the store is nothing for an iterator that keeps no tuple -/
theorem go_of {M : Model} {A : Around} {E : Value → Shared → Prop} {s : Shared} {tg : Expr} {it : Addr} {u : Value} {o : Obj} {n : String} {vs : Array Value} {Q : Unit → Shared → Prop} (ho : s.heap.get? it = some o) (hc : o.cls = .type n) (hd : o.data = .fields vs)
    (hn : ["enumerate", "zip", "dict_itemiterator", "dict_reverseitemiterator", "odict_iterator", "itertools.zip_longest", "itertools.pairwise"].contains n = false) (hQ : Q () s) : wpAny M A (letOwnedTupleGo tg (.ref it) u) Q E s := by
  unfold letOwnedTupleGo
  cases tg <;> first
    | exact wpAny_pure hQ
    | (cases u <;> first
        | exact wpAny_pure hQ
        | (refine wpAny_bind (wpAny_load ho ?_)
           rw [hc, hd]
           show wpAny M A (if (["enumerate", "zip", "dict_itemiterator", "dict_reverseitemiterator", "odict_iterator", "itertools.zip_longest", "itertools.pairwise"].contains n && vs[0]? == some (rawInt _)) = true then _ else _) Q E s
           rw [if_neg (by intro h; rw [hn, Bool.false_and] at h; cases h)]
           exact wpAny_pure hQ))

/-- the list at a, as it stands at each turn (a loop may append to it) -/
def Itl (K : PySem.W.Frag) (a : Addr) : It :=
  ⟨fun i H => ∃ xs x, SqL K H a xs ∧ xs[i]? = some x, fun i H x H' => H' = H ∧ ∀ xs, SqL K H a xs → xs[i]? = some x, fun i H => ∃ xs, SqL K H a xs ∧ xs.length ≤ i⟩
/-- lo, lo + 1, .. (n of them) -/
def Itr (lo : Int) (n : Nat) : It := ⟨fun i _ => i < n, fun i H x H' => H' = H ∧ x = .int (lo + i), fun i _ => n ≤ i⟩
theorem turn_list {P : Program} {w : World} {K : PySem.W.Frag} {tg : Expr} (a it : Addr) : Turn P w K tg (Itl K a) [it] it (fun i h => h.IsListIter it a i) where
  mem := by simp
  obj := fun i h st b hb => by
    have e : b = it := by simpa using hb
    subst e
    obtain ⟨o, e, c, d⟩ := st
    exact ⟨o, e, fun v z => by rw [d] at z; cases z⟩
  keep := fun i h h' st k => st.at fun o e => k it (by simp) o e
  item := by
    intro X hP hw hK hc i pins s σ H E I hf st hg
    subst hP hw hK
    obtain ⟨xs, x, hq, hx⟩ := hg
    obtain ⟨its, rv, p, hz⟩ := I.list hq
    obtain ⟨u, hu, ru⟩ := rv.get hx
    obtain ⟨f0, f1, f2, f3, f4, f5⟩ := hf it (by simp)
    refine wpAny_pyNext_list_item st p.isList (x := u) (by simpa using hu) fun h' st' sb => ?_
    have I1 : Inv X pins σ H { s with heap := h' } := I.turned (t' := s.toks) (fun b o hb e => (sb.2 b hb).trans e) f0 f1 f3 f4 f5
    obtain ⟨o, e, c, d⟩ := id st'
    exact ⟨u, rfl, go_of (s := { s with heap := h' }) e c d (by decide) ⟨x, H, I1, ru, ⟨rfl, fun ys hy => by rw [I.list_inj hy hq]; exact hx⟩, st', fun b hb => (hf b hb).1⟩⟩
  done := by
    intro X hP hw hK hc i pins s σ H E I hf st hg
    subst hP hw hK
    obtain ⟨xs, hq, hx⟩ := hg
    obtain ⟨its, rv, p, hz⟩ := I.list hq
    obtain ⟨f0, f1, f2, f3, f4, f5⟩ := hf it (by simp)
    have hl := rv.length
    exact wpAny_pyNext_list_end (I.ok.hd hc) st p.isList (by simp; omega) fun h' eb => ⟨rfl, I.turned (t' := s.toks) (fun b o hb e => eb b o hb e) f0 f1 f3 f4 f5⟩
  self := fun _ _ _ _ _ st h => wpAny_pyIter_listiter st h
theorem turn_range {P : Program} {w : World} {K : PySem.W.Frag} {tg : Expr} (it : Addr) (lo : Int) (n : Nat) : Turn P w K tg (Itr lo n) [it] it (fun i h => IsRangeIter h it (lo + (i : Nat) * 1) ((n : Int) - (i : Nat)) 1) where
  mem := by simp
  obj := fun i h st b hb => by
    have e : b = it := by simpa using hb
    subst e
    exact ⟨_, st, fun v z => by
      have z' : Data.fields _ = Data.cell v := z
      cases z'⟩
  keep := fun i h h' st k => k it (by simp) _ st
  item := by
    intro X hP hw hK hc i pins s σ H E I hf st hg
    subst hP hw hK
    obtain ⟨f0, f1, f2, f3, f4, f5⟩ := hf it (by simp)
    have W := Walks.range (prog := X.prog) (w := X.w) (I.ok.hd hc) it lo 1 n
    refine W.item i s _ _ hg st fun v h' tk hv st' kk => ?_
    obtain ⟨t, rfl⟩ := hv
    have I1 : Inv X pins σ H { s with heap := h', toks := tk } := I.turned (fun b o hb e => kk b o (by simpa using hb) e) f0 f1 f3 f4 f5
    refine ⟨_, rfl, go_of (s := { s with heap := h', toks := tk }) (n := "range_iterator") st' rfl rfl (by decide) ⟨.int (lo + i), H, I1, ⟨t, ?_⟩, ⟨rfl, rfl⟩, st', fun b hb => (hf b hb).1⟩⟩
    rw [Int.mul_one]
  done := by
    intro X hP hw hK hc i pins s σ H E I hf st hg
    subst hP hw hK
    obtain ⟨f0, f1, f2, f3, f4, f5⟩ := hf it (by simp)
    exact wpAny_pyNext_range_end (I.ok.hd hc) st (by have : n ≤ i := hg; omega) fun h' eb => ⟨rfl, I.turned (t' := s.toks) (fun b o hb e => eb b o hb e) f0 f1 f3 f4 f5⟩
  self := fun _ _ _ _ _ st h => wpAny_pyIter_rangeiter st h
end L2

namespace L2
open PySem PySem.Spec PyProof.Rows
section
variable {X : Cx} {tg : Expr}
def iList (K : PySem.W.Frag) (tl : TE) : TI := fun σ H R => tl σ H fun x H1 => ∃ a, x = .ref a ∧ (∃ xs, SqL K H1 a xs) ∧ R (Itl K a) H1
theorem pi_list {l : Expr} {tl : TE} (hl : PE X l tl) : PI X tg l (iList X.K tl) := by
  intro pins s σ H R I h
  refine thn (hl pins s σ H _ I h) fun v s1 ⟨x, H1, I1, r1, q1⟩ => ?_
  obtain ⟨a, e, ⟨xs, hq⟩, q⟩ := q1
  subst e
  cases r1
  obtain ⟨its, rv, p, hz⟩ := I1.list hq
  refine wpAny_pyIter_list p.isList ?_
  refine ⟨s1.heap.objs.size, [s1.heap.objs.size], _, _, H1, rfl, I1.kept (t' := s1.toks) fun b o e => Heap.get?_push_of_some _ e, turn_list a _, ⟨_, Heap.get?_push_size _ rfl, rfl, rfl⟩, fun b hb => ?_, q⟩
  have e : b = s1.heap.objs.size := by simpa using hb
  subst e
  exact I1.fpOk (Nat.le_refl _) (I1.hok.fresh (Nat.le_refl _))
/-- a range object just made, walked -/
theorem range_it {pins : List (Addr × Obj)} {σ : St} {H : Hp} {s : Shared} {R : It → Hp → Prop} {E : Value → Shared → Prop} {lo hi : Int} {t u v : Tok} {tk : Nat} (I : Inv X pins σ H s) (h1 : -(2 ^ 62) ≤ lo) (h2 : lo < 2 ^ 62) (h3 : -(2 ^ 62) ≤ hi) (h4 : hi < 2 ^ 62)
    (q : R (Itr lo (hi - lo).toNat) H) : wpAny (model X.prog X.w) X.A (pyIter (.ref s.heap.objs.size)) (PIE X pins σ tg R) E { s with heap := s.heap.push { cls := .type "range", data := .fields #[.int lo t, .int hi u, .int 1 v] }, toks := tk } := by
  refine wpAny_pyIter_range (IsRange.new ..) (small_one h1 h2 h3 h4) ?_
  have I1 : Inv X pins σ H { s with heap := s.heap.push { cls := .type "range", data := .fields #[.int lo t, .int hi u, .int 1 v] }, toks := tk } := I.kept fun b o e => Heap.get?_push_of_some _ e
  refine ⟨(s.heap.push { cls := .type "range", data := .fields #[.int lo t, .int hi u, .int 1 v] }).objs.size, [(s.heap.push { cls := .type "range", data := .fields #[.int lo t, .int hi u, .int 1 v] }).objs.size], _, _, H, rfl,
    I1.kept (t' := tk) fun b o e => Heap.get?_push_of_some _ e, turn_range _ lo (hi - lo).toNat, ?_, fun b hb => ?_, q⟩
  · have e1 : lo + ((0 : Nat) : Int) * 1 = lo := by simp
    have e2 : (((hi - lo).toNat : Nat) : Int) - ((0 : Nat) : Int) = Builtin.Range.rangeSize lo hi 1 := by rw [rangeSize_one]; split <;> omega
    show IsRangeIter _ _ (lo + ((0 : Nat) : Int) * 1) ((((hi - lo).toNat : Nat) : Int) - ((0 : Nat) : Int)) 1
    rw [e1, e2]
    exact Heap.get?_push_size _ rfl
  · have e : b = (s.heap.push { cls := .type "range", data := .fields #[.int lo t, .int hi u, .int 1 v] }).objs.size := by simpa using hb
    subst e
    exact I1.fpOk (Nat.le_refl _) (I1.hok.fresh (Nat.le_refl _))
def iRng1 (ta : TA) : TI := fun σ H R => ta σ H fun vs H1 => ∃ j : Int, vs = [.int j] ∧ -(2 ^ 62) ≤ j ∧ j < 2 ^ 62 ∧ R (Itr 0 j.toNat) H1
theorem pi_range1 {a : Expr} {ta : TA} {p pos : Pos} (hg : Gl X "range") (hm : X.mg "range" = none) (ha : PA X [a] ta) (hs : starEach [a] X.env = [(false, eval a X.env)] := by rfl) : PI X tg (.Call (.Name "range" p) [a] [] pos) (iRng1 ta) := by
  intro pins s σ H R I h
  refine Call_ (ld_blt I hg hm boot_range (PyProof.Rows.callWith_type1 (thn (ha pos pins s σ H _ I h) fun us s1 ⟨vs, H1, I1, r1, q1⟩ => ?_) hs rfl))
  obtain ⟨j, e, q1, q2, q⟩ := q1
  subst e
  cases r1 with
  | cons r rr =>
    cases rr
    obtain ⟨t, rfl⟩ := r
    exact call_range_1 (range_it I1 (by omega) (by omega) q1 q2 (by simpa using q))
/-! ### for -/
/-- W: the invariant by the turn and a measure; N: what the body is to reach -/
def tFor (wi : TI) (g : TG) (tb : TS) : TS := fun D σ H => wi σ H fun J H1 => ∃ W : Nat → Nat → St → Hp → Prop, (∃ m, W 0 m σ H1) ∧ ∀ i m σ H, W i m σ H →
  (J.stop i H ∧ D.nx σ H) ∨ (J.go i H ∧ ∃ N : St → Hp → Prop, (∀ σ' H', N σ' H' → ∃ m', m' < m ∧ W (i + 1) m' σ' H') ∧ ∀ x H', J.yld i H x H' → g x σ H' fun σ2 H2 => tb { D with nx := N, ct := N, bk := D.nx } σ2 H2)
/-- the records at fp as they stand -/
def pinsAt (fp : List Addr) (h : Heap) : List (Addr × Obj) := fp.filterMap fun b => (h.get? b).map fun o => (b, o)
theorem mem_pinsAt {fp : List Addr} {h : Heap} {b : Addr} {o : Obj} (hb : b ∈ fp) (e : h.get? b = some o) : (b, o) ∈ pinsAt fp h := List.mem_filterMap.mpr ⟨b, hb, by rw [e]; rfl⟩
theorem of_pinsAt {fp : List Addr} {h : Heap} {p : Addr × Obj} (hp : p ∈ pinsAt fp h) : p.1 ∈ fp ∧ h.get? p.1 = some p.2 := by
  obtain ⟨b, hb, e⟩ := List.mem_filterMap.mp hp
  cases q : h.get? b with
  | none => rw [q] at e; cases e
  | some o =>
    rw [q] at e
    have e' : (b, o) = p := Option.some.inj e
    subst e'
    exact ⟨hb, q⟩
theorem Inv.pinned {pins : List (Addr × Obj)} {σ : St} {H : Hp} {s : Shared} {fp : List Addr} (I : Inv X pins σ H s) (hf : ∀ b ∈ fp, FpOk X pins H b) (ho : ∀ b ∈ fp, ∃ o, s.heap.get? b = some o ∧ ∀ v, o.data ≠ .cell v) : Inv X (pins ++ pinsAt fp s.heap) σ H s :=
  I.pins_of fun p hp => (List.mem_append.mp hp).elim (fun z => I.pin p (List.mem_append_right _ z)) fun z => by
    obtain ⟨hb, e⟩ := of_pinsAt z
    obtain ⟨f0, f1, f2, _⟩ := hf p.1 hb
    obtain ⟨o, e', d⟩ := ho p.1 hb
    rw [e] at e'; cases e'
    exact ⟨e, f0, f1, f2, d⟩
theorem Inv.unpinned {pins pl : List (Addr × Obj)} {σ : St} {H : Hp} {s : Shared} (I : Inv X (pins ++ pl) σ H s) : Inv X pins σ H s := I.pins_of fun p hp => I.pin p (List.mem_append_right _ (List.mem_append_left _ hp))
theorem ps_for {iter : Expr} {body : List Stmt} {wi : TI} {g : TG} {tb : TS} {pos : Pos} (hp : PassesOwn (model X.prog X.w) X.A X.env X.xe) (hc : X.calm = true) (hi : PI X tg iter wi) (hg : PG X tg g) (hb : PSs X body tb)
    (hs : ∀ x, foldedSetIterable iter X.env x = pure x := by intro _; rfl) : PS X (.For tg iter body [] pos) (tFor wi g tb) := by
  intro pins s σ H D I h
  refine wpAny_For (thn (hi pins s σ H _ I h) fun v s1 h1 => thn h1 fun itv s2 h2 => ?_) hs
  obtain ⟨it, fp, tn, J, H2, e, I2, T, st2, f2, W, ⟨m0, w0⟩, turn⟩ := h2
  subst e
  -- what stays true of the iterator's objects through the loop
  have stat : ∀ {H' : Hp}, (∀ b ∈ fp, H' b = none) → ∀ b ∈ fp, FpOk X pins H' b := fun hn b hb => ⟨hn b hb, (f2 b hb).2⟩
  refine codeAny_forLoop_any (fun n s' => ∃ i σ' H', Inv X pins σ' H' s' ∧ tn i s'.heap ∧ (∀ b ∈ fp, H' b = none) ∧ W i n σ' H') ?_ m0 ⟨0, σ, H2, I2, st2, fun b hb => (f2 b hb).1, w0⟩
  rintro n s3 ⟨i, σ3, H3, I3, st3, fr3, w3⟩
  rcases turn i n σ3 H3 w3 with ⟨stop, qn⟩ | ⟨go, N, hN, step⟩
  · refine wpAny_passesOwn hp (thn (T.done X rfl rfl rfl hc i pins s3 σ3 H3 X.xe I3 (stat fr3) st3 stop) fun r s4 ⟨hr, I4⟩ => ?_)
    subst hr
    exact wpAny_execs_nil ⟨σ3, H3, I4, qn⟩
  · refine wpAny_passesOwn hp (thn (T.item X rfl rfl rfl hc i pins s3 σ3 H3 X.xe I3 (stat fr3) st3 go) fun r s4 ⟨u, hr, h4⟩ => ?_)
    subst hr
    refine wpAny_passesOwn hp (thn h4 fun _ s5 ⟨x, H5, I5, r5, y5, st5, fr5⟩ => ?_)
    have I5' := I5.pinned (stat fr5) (T.obj _ _ st5)
    refine wpAny_passesOwn hp (thn (hg _ s5 σ3 H5 x u _ I5' r5 (step x H5 y5)) fun _ s6 ⟨σ6, H6, I6, q6⟩ => ?_)
    refine wpAny_passesOwn hp (thn (hb _ s6 σ6 H6 _ I6 q6) fun f s7 q7 => ?_)
    have again : ∀ {σ7 : St} {H7 : Hp}, Inv X (pins ++ pinsAt fp s5.heap) σ7 H7 s7 → N σ7 H7 → ∃ m, m < n ∧ ∃ i σ' H', Inv X pins σ' H' s7 ∧ tn i s7.heap ∧ (∀ b ∈ fp, H' b = none) ∧ W i m σ' H' := fun {σ7 H7} I7 n7 => by
      obtain ⟨m', hm, w7⟩ := hN σ7 H7 n7
      refine ⟨m', hm, i + 1, σ7, H7, I7.unpinned, T.keep _ _ _ st5 fun b hb o e => (I7.pin (b, o) (List.mem_append_right _ (List.mem_append_right _ (mem_pinsAt hb e)))).1, fun b hb => ?_, w7⟩
      obtain ⟨o, e, d⟩ := T.obj _ _ st5 b hb
      exact (I7.pin (b, o) (List.mem_append_right _ (List.mem_append_right _ (mem_pinsAt hb e)))).2.1
    cases f with
    | next => obtain ⟨σ7, H7, I7, n7⟩ := q7; exact again I7 n7
    | cont => obtain ⟨σ7, H7, I7, n7⟩ := q7; exact again I7 n7
    | brk => obtain ⟨σ7, H7, I7, q7⟩ := q7; exact ⟨σ7, H7, I7.unpinned, q7⟩
    | ret v => obtain ⟨x7, σ7, H7, I7, r7, q7⟩ := q7; exact ⟨x7, σ7, H7, I7.unpinned, r7, q7⟩
end

/-! ### the forms one uses -/
/-- over a list that the body leaves as it is -/
theorem for_list {K : PySem.W.Frag} {a : Addr} {xs : List V} {g : TG} {tb : TS} {D : Ends} {σ : St} {H : Hp} (Pv : Nat → St → Hp → Prop) (h0 : Pv 0 σ H) (hl : ∀ i σ H, i ≤ xs.length → Pv i σ H → SqL K H a xs)
    (hs : ∀ i x σ H, xs[i]? = some x → Pv i σ H → g x σ H fun σ2 H2 => tb { D with nx := Pv (i + 1), ct := Pv (i + 1), bk := D.nx } σ2 H2) (hd : ∀ σ H, Pv xs.length σ H → D.nx σ H) :
    ∃ W : Nat → Nat → St → Hp → Prop, (∃ m, W 0 m σ H) ∧ ∀ i m σ H, W i m σ H →
      ((Itl K a).stop i H ∧ D.nx σ H) ∨ ((Itl K a).go i H ∧ ∃ N : St → Hp → Prop, (∀ σ' H', N σ' H' → ∃ m', m' < m ∧ W (i + 1) m' σ' H') ∧ ∀ x H', (Itl K a).yld i H x H' → g x σ H' fun σ2 H2 => tb { D with nx := N, ct := N, bk := D.nx } σ2 H2) := by
  refine ⟨fun i m σ H => m = xs.length - i ∧ i ≤ xs.length ∧ Pv i σ H, ⟨xs.length, by simp, Nat.zero_le _, h0⟩, ?_⟩
  rintro i m σ H ⟨rfl, hi, p⟩
  have q := hl i σ H hi p
  by_cases hlt : i < xs.length
  · refine .inr ⟨⟨xs, xs[i], q, by simp [hlt]⟩, Pv (i + 1), fun σ' H' p' => ⟨xs.length - (i + 1), by omega, rfl, hlt, p'⟩, fun x H' y => ?_⟩
    obtain ⟨e, y⟩ := y
    subst e
    exact hs i x σ _ (y xs q) p
  · have e : i = xs.length := by omega
    subst e
    exact .inl ⟨⟨xs, q, Nat.le_refl _⟩, hd σ H p⟩
theorem for_range {lo : Int} {n : Nat} {g : TG} {tb : TS} {D : Ends} {σ : St} {H : Hp} (Pv : Nat → St → Hp → Prop) (h0 : Pv 0 σ H)
    (hs : ∀ i σ H, i < n → Pv i σ H → g (.int (lo + i)) σ H fun σ2 H2 => tb { D with nx := Pv (i + 1), ct := Pv (i + 1), bk := D.nx } σ2 H2) (hd : ∀ σ H, Pv n σ H → D.nx σ H) :
    ∃ W : Nat → Nat → St → Hp → Prop, (∃ m, W 0 m σ H) ∧ ∀ i m σ H, W i m σ H →
      ((Itr lo n).stop i H ∧ D.nx σ H) ∨ ((Itr lo n).go i H ∧ ∃ N : St → Hp → Prop, (∀ σ' H', N σ' H' → ∃ m', m' < m ∧ W (i + 1) m' σ' H') ∧ ∀ x H', (Itr lo n).yld i H x H' → g x σ H' fun σ2 H2 => tb { D with nx := N, ct := N, bk := D.nx } σ2 H2) := by
  refine ⟨fun i m σ H => m = n - i ∧ i ≤ n ∧ Pv i σ H, ⟨n, by simp, Nat.zero_le _, h0⟩, ?_⟩
  rintro i m σ H ⟨rfl, hi, p⟩
  by_cases hlt : i < n
  · refine .inr ⟨hlt, Pv (i + 1), fun σ' H' p' => ⟨n - (i + 1), by omega, rfl, hlt, p'⟩, fun x H' y => ?_⟩
    obtain ⟨e, y⟩ := y
    subst e y
    exact hs i σ _ hlt p
  · have e : i = n := by omega
    subst e
    exact .inl ⟨Nat.le_refl _, hd σ H p⟩
end L2

namespace L2
open PySem PySem.Spec PyProof.Rows

abbrev R2 := V → V → Hp → VK → Prop
/-- a two-place operation on values: f is binaryOp op, inplaceOp op or compareOp op -/
def OpR (X : Cx) (f : Value → Value → Sem Value) (r : R2) : Prop :=
  ∀ (pins : List (Addr × Obj)) (s : Shared) (σ : St) (H : Hp) (x y : V) (v u : Value) (Q : VK), Inv X pins σ H s → RelV x v → RelV y u → r x y H Q →
    wpAny (model X.prog X.w) X.A (f v u) (EP X pins σ Q) X.xe s
/-- a one-place operation -/
def UnR (X : Cx) (f : Value → Sem Value) (r : V → Hp → VK → Prop) : Prop :=
  ∀ (pins : List (Addr × Obj)) (s : Shared) (σ : St) (H : Hp) (x : V) (v : Value) (Q : VK), Inv X pins σ H s → RelV x v → r x H Q →
    wpAny (model X.prog X.w) X.A (f v) (EP X pins σ Q) X.xe s
/-- a call of a value that is known (a builtin, a type) with values -/
def CallR (X : Cx) (f : Value) (r : List V → Hp → VK → Prop) : Prop :=
  ∀ (pins : List (Addr × Obj)) (s : Shared) (σ : St) (H : Hp) (xs : List V) (us : List Value) (Q : VK), Inv X pins σ H s → Vals xs us → r xs H Q →
    wpAny (model X.prog X.w) X.A (call f us) (EP X pins σ Q) X.xe s
/-- a value's truth -/
def TruR (X : Cx) (r : V → Hp → (Bool → Hp → Prop) → Prop) : Prop :=
  ∀ (pins : List (Addr × Obj)) (s : Shared) (σ : St) (H : Hp) (x : V) (v : Value) (Q : Bool → Hp → Prop), Inv X pins σ H s → RelV x v → r x H Q →
    wpAny (model X.prog X.w) X.A (truthy v) (TP X pins σ Q) X.xe s

def tOp (r : R2) (ta tb : TE) : TE := fun σ H Q => ta σ H fun x H1 => tb σ H1 fun y H2 => r x y H2 Q
def tUn (r : V → Hp → VK → Prop) (ta : TE) : TE := fun σ H Q => ta σ H fun x H1 => r x H1 Q
/-- ints in, under C, and a value out -/
def rI (C : Int → Int → Prop) (g : Int → Int → V) : R2 := fun x y H Q => ∃ i j, x = .int i ∧ y = .int j ∧ C i j ∧ Q (g i j) H
def rI0 (g : Int → Int → V) : R2 := fun x y H Q => ∃ i j, x = .int i ∧ y = .int j ∧ Q (g i j) H
def rU (g : Int → V) : V → Hp → VK → Prop := fun x H Q => ∃ i, x = .int i ∧ Q (g i) H

section
variable {X : Cx} {a b c : Expr} {ta tb tc : TE} {pos : Pos}

theorem binT (ha : PE X a ta) (hb : PE X b tb) {pins : List (Addr × Obj)} {s : Shared} {σ : St} {H : Hp} {R : V → V → Hp → Prop} (I : Inv X pins σ H s)
    (h : ta σ H fun x H1 => tb σ H1 fun y H2 => R x y H2) {Q : Value → Shared → Prop} {f : Value → Value → Sem Value}
    (hf : ∀ v u s2 x y H2, Inv X pins σ H2 s2 → RelV x v → RelV y u → R x y H2 → wpAny (model X.prog X.w) X.A (f v u) Q X.xe s2) :
    wpAny (model X.prog X.w) X.A (eval a X.env) (fun v s₁ => wpAny (model X.prog X.w) X.A (eval b X.env) (fun u s₂ => wpAny (model X.prog X.w) X.A (f v u) Q X.xe s₂) X.xe s₁) X.xe s := by
  refine thn (ha pins s σ H _ I h) fun v s1 ⟨x, H1, I1, r1, q1⟩ => ?_
  refine thn (hb pins s1 σ H1 _ I1 q1) fun u s2 ⟨y, H2, I2, r2, q2⟩ => ?_
  exact hf v u s2 x y H2 I2 r1 r2 q2

theorem pe_op {op : Operator} {r : R2} (ho : OpR X (binaryOp op) r) (ha : PE X a ta) (hb : PE X b tb) : PE X (.BinOp a op b pos) (tOp r ta tb) := by
  intro pins s σ H Q I h
  exact wpAny_BinOp (binT ha hb I h fun v u s2 x y H2 I2 rx ry q => ho pins s2 σ H2 x y v u Q I2 rx ry q)
theorem pe_un {op : UnaryOp} {r : V → Hp → VK → Prop} (ho : UnR X (unaryOp op) r) (ha : PE X a ta) : PE X (.UnaryOp op a pos) (tUn r ta) := by
  intro pins s σ H Q I h
  exact UnaryOp_ (thn (ha pins s σ H _ I h) fun v s1 ⟨x, H1, I1, r1, q1⟩ => ho pins s1 σ H1 x v Q I1 r1 q1)
/-! ### ints -/
theorem opI {f : Value → Value → Sem Value} {C : Int → Int → Prop} {g : Int → Int → Int}
    (rule : ∀ (i j : Int) (t u : Tok) (s : Shared) (Q : Value → Shared → Prop) (E : Value → Shared → Prop), C i j → Q (.int (g i j) s.toks) { s with toks := s.toks + 1 } → wpAny (model X.prog X.w) X.A (f (.int i t) (.int j u)) Q E s) :
    OpR X f (rI C fun i j => .int (g i j)) := by
  intro pins s σ H x y v u Q I rx ry h
  obtain ⟨i, j, rfl, rfl, hc, q⟩ := h
  obtain ⟨t, rfl⟩ := rx
  obtain ⟨t', rfl⟩ := ry
  exact rule i j t t' s _ _ hc ⟨.int (g i j), H, I.tok _, ⟨_, rfl⟩, q⟩
theorem opI0 {f : Value → Value → Sem Value} {g : Int → Int → Int}
    (rule : ∀ (i j : Int) (t u : Tok) (s : Shared) (Q : Value → Shared → Prop) (E : Value → Shared → Prop), Q (.int (g i j) s.toks) { s with toks := s.toks + 1 } → wpAny (model X.prog X.w) X.A (f (.int i t) (.int j u)) Q E s) :
    OpR X f (rI0 fun i j => .int (g i j)) := by
  intro pins s σ H x y v u Q I rx ry h
  obtain ⟨i, j, rfl, rfl, q⟩ := h
  obtain ⟨t, rfl⟩ := rx
  obtain ⟨t', rfl⟩ := ry
  exact rule i j t t' s _ _ ⟨.int (g i j), H, I.tok _, ⟨_, rfl⟩, q⟩
theorem opB0 {f : Value → Value → Sem Value} {g : Int → Int → Bool}
    (rule : ∀ (i j : Int) (t u : Tok) (s : Shared) (Q : Value → Shared → Prop) (E : Value → Shared → Prop), Q (.bool (g i j)) s → wpAny (model X.prog X.w) X.A (f (.int i t) (.int j u)) Q E s) :
    OpR X f (rI0 fun i j => .bl (g i j)) := by
  intro pins s σ H x y v u Q I rx ry h
  obtain ⟨i, j, rfl, rfl, q⟩ := h
  obtain ⟨t, rfl⟩ := rx
  obtain ⟨t', rfl⟩ := ry
  exact rule i j t t' s _ _ ⟨.bl (g i j), H, I, rfl, q⟩

def CDiv (i j : Int) : Prop := 0 < j ∧ j < 1073741824
def CPow (i j : Int) : Prop := 0 ≤ j ∧ j ≤ 1000000 ∧ i.natAbs < 2 ^ 64
def CMul (i j : Int) : Prop := (-(2 ^ 64) < i ∧ i < 2 ^ 64) ∨ (-(2 ^ 64) < j ∧ j < 2 ^ 64)
theorem CMul.ok {i j : Int} (h : CMul i j) : IntMulOk i j := by
  rcases h with ⟨h1, h2⟩ | ⟨h1, h2⟩
  · exact .of_left (intBits_le_64 h1 h2)
  · exact .of_right (intBits_le_64 h1 h2)
theorem two_pow_nn (k : Nat) : (0 : Int) ≤ 2 ^ k := by
  rw [two_pow_cast]
  exact Int.natCast_nonneg _

theorem op_add : OpR X (binaryOp .Add) (rI0 fun i j => .int (i + j)) := opI0 fun _ _ _ _ _ _ _ q => add_int q
theorem op_sub : OpR X (binaryOp .Sub) (rI0 fun i j => .int (i - j)) := opI0 fun _ _ _ _ _ _ _ q => sub_int q
theorem op_mul : OpR X (binaryOp .Mult) (rI CMul fun i j => .int (i * j)) := opI fun _ _ _ _ _ _ _ hc q => mul_int q hc.ok
/-- // by a positive divisor -/
theorem op_fdiv : OpR X (binaryOp .FloorDiv) (rI CDiv fun i j => .int (i / j)) := opI fun i j _ _ _ _ _ hc q => by
  have h1 : (0 : Int) < j := hc.1
  have h2 : j < 1073741824 := hc.2
  exact floordiv_int (by omega) (by rw [Int.fdiv_eq_ediv_of_nonneg i (by omega)]; exact q) (.inl (PyProof.noPylong_small (by omega)))
/-- % by a positive divisor of any size -/
theorem op_mod : OpR X (binaryOp .Mod) (rI (fun _ j => 0 < j) fun i j => .int (i % j)) := opI fun i j _ _ _ _ _ hc q => by
  have h1 : (0 : Int) < j := hc
  exact mod_int' (by omega) (by rw [Int.fmod_eq_emod_of_nonneg i (by omega)]; exact q)
theorem op_pow : OpR X (binaryOp .Pow) (rI CPow fun i j => .int (i ^ j.toNat)) := opI fun _ _ _ _ _ _ _ hc q => pow_int_small hc.1 hc.2.1 hc.2.2 q
theorem op_shr : OpR X (binaryOp .RShift) (rI (fun _ j => 0 ≤ j) fun i j => .int (i / 2 ^ j.toNat)) := opI fun i j _ _ _ _ _ hc q =>
  rshift_int hc (by rw [Int.fdiv_eq_ediv_of_nonneg i (two_pow_nn _)]; exact q)
theorem op_and : OpR X (binaryOp .BitAnd) (rI0 fun i j => .int (Builtin.bitAnd i j)) := opI0 fun _ _ _ _ _ _ _ q => and_int q
theorem unI {f : Value → Sem Value} {g : Int → Int}
    (rule : ∀ (i : Int) (t : Tok) (s : Shared) (Q : Value → Shared → Prop) (E : Value → Shared → Prop), Q (.int (g i) s.toks) { s with toks := s.toks + 1 } → wpAny (model X.prog X.w) X.A (f (.int i t)) Q E s) :
    UnR X f (rU fun i => .int (g i)) := by
  intro pins s σ H x v Q I rx h
  obtain ⟨i, rfl, q⟩ := h
  obtain ⟨t, rfl⟩ := rx
  exact rule i t s _ _ ⟨.int (g i), H, I.tok _, ⟨_, rfl⟩, q⟩
theorem un_neg : UnR X (unaryOp .USub) (rU fun i => .int (-i)) := unI fun _ _ _ _ _ q => neg_int q
/-! ### bools among ints: n += (a < b) -/
end

/-! ### comparisons -/
/-- the scalars that == tells apart as data does -/
def scal : V → V → Bool
  | .non, .non => true | .non, .int _ => true | .int _, .non => true | .non, .bl _ => true | .bl _, .non => true | .non, .str _ => true | .str _, .non => true
  | .int _, .int _ => true | .bl _, .bl _ => true | .str _, .str _ => true | .byt _, .byt _ => true
  | .int _, .str _ => true | .str _, .int _ => true | .bl _, .str _ => true | .str _, .bl _ => true
  | _, _ => false
def rEq : R2 := fun x y H Q => scal x y = true ∧ Q (.bl (decide (x = y))) H
def rNe : R2 := fun x y H Q => scal x y = true ∧ Q (.bl (!decide (x = y))) H

theorem dec_int {i j : Int} : decide (V.int i = V.int j) = (i == j) := by
  rw [Bool.eq_iff_iff]
  simp
theorem dec_bl {i j : Bool} : decide (V.bl i = V.bl j) = (i == j) := by
  rw [Bool.eq_iff_iff]
  simp
theorem dec_str {i j : Str} : decide (V.str i = V.str j) = (i == j) := by
  rw [Bool.eq_iff_iff]
  simp
theorem dec_byt {i j : Array UInt8} : decide (V.byt i = V.byt j) = (i.toList == j.toList) := by
  rw [Bool.eq_iff_iff]
  cases i
  cases j
  simp

section
variable {X : Cx} {a b c : Expr} {ta tb tc : TE} {pos : Pos}
theorem fin_bl {pins : List (Addr × Obj)} {σ : St} {H : Hp} {s : Shared} {Q : VK} {k k' : Bool} (I : Inv X pins σ H s) (q : Q (.bl k) H) (e : k = k') : EP X pins σ Q (.bool k') s := by
  subst e
  exact ⟨.bl k, H, I, rfl, q⟩
theorem op_eq : OpR X (compareOp .Eq) rEq := by
  intro pins s σ H x y v u Q I rx ry h
  obtain ⟨hs, q⟩ := h
  cases x with
  | non =>
    cases rx
    cases y with
    | non => cases ry; exact PySem.EqNone.eq_none_none (fin_bl I q (by simp))
    | bl j => cases ry; exact PySem.EqNone.eq_none_bool (fin_bl I q (by simp))
    | int j => obtain ⟨t', rfl⟩ := ry; exact PySem.EqNone.eq_none_int (fin_bl I q (by simp))
    | str j => obtain ⟨t', rfl⟩ := ry; exact PySem.EqNone.eq_none_str (fin_bl I q (by simp))
    | _ => exact absurd (show false = true from hs) Bool.false_ne_true
  | bl i =>
    cases rx
    cases y with
    | non => cases ry; exact PySem.EqNone.eq_bool_none (fin_bl I q (by simp))
    | bl j => cases ry; exact eq_bool (fin_bl I q dec_bl)
    | str j => obtain ⟨t', rfl⟩ := ry; exact PySem.EqMixed.eq_bool_str (fin_bl I q (by simp))
    | _ => exact absurd (show false = true from hs) Bool.false_ne_true
  | int i =>
    obtain ⟨t, rfl⟩ := rx
    cases y with
    | non => cases ry; exact PySem.EqNone.eq_int_none (fin_bl I q (by simp))
    | int j => obtain ⟨t', rfl⟩ := ry; exact eq_int (fin_bl I q dec_int)
    | str j => obtain ⟨t', rfl⟩ := ry; exact PySem.EqMixed.eq_int_str (fin_bl I q (by simp))
    | _ => exact absurd (show false = true from hs) Bool.false_ne_true
  | str i =>
    obtain ⟨t, rfl⟩ := rx
    cases y with
    | non => cases ry; exact PySem.EqNone.eq_str_none (fin_bl I q (by simp))
    | bl j => cases ry; exact PySem.EqMixed.eq_str_bool (fin_bl I q (by simp))
    | int j => obtain ⟨t', rfl⟩ := ry; exact PySem.EqMixed.eq_str_int (fin_bl I q (by simp))
    | str j => obtain ⟨t', rfl⟩ := ry; exact eq_str (fin_bl I q dec_str)
    | _ => exact absurd (show false = true from hs) Bool.false_ne_true
  | byt i =>
    obtain ⟨t, rfl⟩ := rx
    cases y with
    | byt j => obtain ⟨t', rfl⟩ := ry; exact PySem.W.eq_bytes (fin_bl I q dec_byt)
    | _ => exact absurd (show false = true from hs) Bool.false_ne_true
  | _ => cases y <;> exact absurd (show false = true from hs) Bool.false_ne_true
theorem op_ne : OpR X (compareOp .NotEq) rNe := by
  intro pins s σ H x y v u Q I rx ry h
  obtain ⟨hs, q⟩ := h
  cases x with
  | non =>
    cases rx
    cases y with
    | non => cases ry; exact PySem.EqNone.ne_none_none (fin_bl I q (by simp))
    | bl j => cases ry; exact PySem.EqNone.ne_none_bool (fin_bl I q (by simp))
    | int j => obtain ⟨t', rfl⟩ := ry; exact PySem.EqNone.ne_none_int (fin_bl I q (by simp))
    | str j => obtain ⟨t', rfl⟩ := ry; exact PySem.EqNone.ne_none_str (fin_bl I q (by simp))
    | _ => exact absurd (show false = true from hs) Bool.false_ne_true
  | bl i =>
    cases rx
    cases y with
    | non => cases ry; exact PySem.EqNone.ne_bool_none (fin_bl I q (by simp))
    | bl j => cases ry; exact ne_bool (fin_bl I q (congrArg not dec_bl))
    | str j => obtain ⟨t', rfl⟩ := ry; exact PySem.EqMixed.ne_bool_str (fin_bl I q (by simp))
    | _ => exact absurd (show false = true from hs) Bool.false_ne_true
  | int i =>
    obtain ⟨t, rfl⟩ := rx
    cases y with
    | non => cases ry; exact PySem.EqNone.ne_int_none (fin_bl I q (by simp))
    | int j => obtain ⟨t', rfl⟩ := ry; exact ne_int (fin_bl I q (congrArg not dec_int))
    | str j => obtain ⟨t', rfl⟩ := ry; exact PySem.EqMixed.ne_int_str (fin_bl I q (by simp))
    | _ => exact absurd (show false = true from hs) Bool.false_ne_true
  | str i =>
    obtain ⟨t, rfl⟩ := rx
    cases y with
    | non => cases ry; exact PySem.EqNone.ne_str_none (fin_bl I q (by simp))
    | bl j => cases ry; exact PySem.EqMixed.ne_str_bool (fin_bl I q (by simp))
    | int j => obtain ⟨t', rfl⟩ := ry; exact PySem.EqMixed.ne_str_int (fin_bl I q (by simp))
    | str j => obtain ⟨t', rfl⟩ := ry; exact ne_str (fin_bl I q (congrArg not dec_str))
    | _ => exact absurd (show false = true from hs) Bool.false_ne_true
  | byt i =>
    obtain ⟨t, rfl⟩ := rx
    cases y with
    | byt j => obtain ⟨t', rfl⟩ := ry; exact PySem.W.ne_bytes (fin_bl I q (congrArg not dec_byt))
    | _ => exact absurd (show false = true from hs) Bool.false_ne_true
  | _ => cases y <;> exact absurd (show false = true from hs) Bool.false_ne_true

theorem op_lt : OpR X (compareOp .Lt) (rI0 fun i j => .bl (decide (i < j))) := opB0 fun _ _ _ _ _ _ _ q => lt_int q
theorem op_le : OpR X (compareOp .LtE) (rI0 fun i j => .bl (decide (i ≤ j))) := opB0 fun _ _ _ _ _ _ _ q => le_int q
theorem op_gt : OpR X (compareOp .Gt) (rI0 fun i j => .bl (decide (j < i))) := opB0 fun _ _ _ _ _ _ _ q => gt_int q
theorem op_ge : OpR X (compareOp .GtE) (rI0 fun i j => .bl (decide (j ≤ i))) := opB0 fun _ _ _ _ _ _ _ q => ge_int q
theorem op_lt_str : OpR X (compareOp .Lt) (fun x y H Q => ∃ i j, x = .str i ∧ y = .str j ∧ Q (.bl (decide (i.cps.toList < j.cps.toList))) H) := by
  intro pins s σ H x y v u Q I rx ry h
  obtain ⟨i, j, rfl, rfl, q⟩ := h
  obtain ⟨t, rfl⟩ := rx
  obtain ⟨t', rfl⟩ := ry
  exact lt_str (fin_bl I q rfl)
/-- two rules for one operation: by cases -/
theorem OpR.or {f : Value → Value → Sem Value} {r r' : R2} (h : OpR X f r) (h' : OpR X f r') : OpR X f (fun x y H Q => r x y H Q ∨ r' x y H Q) := by
  intro pins s σ H x y v u Q I rx ry q
  rcases q with q | q
  · exact h pins s σ H x y v u Q I rx ry q
  · exact h' pins s σ H x y v u Q I rx ry q

theorem nomark (b : Expr) {op : CmpOp} (h : op ≠ .In := by decide) (h2 : op ≠ .NotIn := by decide) : behindInMarks op b = false := by
  have e1 : (op == CmpOp.In) = false := by cases op <;> first | rfl | exact absurd rfl h
  have e2 : (op == CmpOp.NotIn) = false := by cases op <;> first | rfl | exact absurd rfl h2
  cases b <;> simp [behindInMarks, e1, e2]
/-- a comparison as a value; hm: nomark b, or (for in, not in) by with_unfolding_all rfl -/
theorem pe_cmpR {op : CmpOp} {r : R2} (ho : OpR X (compareOp op) r) (ha : PE X a ta) (hb : PE X b tb) (hm : behindInMarks op b = false) : PE X (.Compare a [op] [b] pos) (tOp r ta tb) := by
  intro pins s σ H Q I h
  exact wpAny_Compare1 (binT ha hb I h fun v u s2 x y H2 I2 rx ry q => ho pins s2 σ H2 x y v u Q I2 rx ry q) hm
/-- a reading of a value as a test -/
def tTest (t : TE) : TT := fun σ H Q => t σ H fun x H' => ∃ k, x = .bl k ∧ Q k H'
theorem pt_cmpR {op : CmpOp} {r : R2} (ho : OpR X (compareOp op) r) (ha : PE X a ta) (hb : PE X b tb) (hm : behindInMarks op b = false) : PT X (.Compare a [op] [b] pos) (tTest (tOp r ta tb)) := by
  intro pins s σ H Q I h
  refine wpAny_isTrue_Compare1 (thn (ha pins s σ H _ I h) fun v s1 ⟨x, H1, I1, r1, q1⟩ => thn (hb pins s1 σ H1 _ I1 q1) fun u s2 ⟨y, H2, I2, r2, q2⟩ =>
    thn (ho pins s2 σ H2 x y v u _ I2 r1 r2 q2) fun c s3 ⟨z, H3, I3, r3, k, e, q3⟩ => ?_) hm
  subst e
  cases r3
  exact wpAny_truthy_bool ⟨H3, I3, q3⟩
/-! ### truth -/
/-- a value's truth by the abstract heap -/
def TruV (K : PySem.W.Frag) (x : V) (H : Hp) (k : Bool) : Prop :=
  match x with
  | .non => k = false
  | .bl b => k = b
  | .int i => k = (i != 0)
  | .str y => y.length ≤ sizeLine ∧ k = ((y.length : Int) != 0)
  | .byt y => y.size ≤ sizeLine ∧ k = ((y.size : Int) != 0)
  | .ref p => (∃ xs, SqL K H p xs ∧ k = !xs.isEmpty) ∨ (∃ xs, SqT K H p xs ∧ k = !xs.isEmpty) ∨ ∃ kvs, H p = some (.dK kvs) ∧ k = !kvs.isEmpty
  | _ => False
theorem isEmpty_kv {κ : Type} {kvs : List (κ × V)} {vs : List (κ × Value)} (r : KV kvs vs) : (!vs.isEmpty) = !kvs.isEmpty := by
  cases r <;> rfl
theorem isEmpty_of {xs : List V} {its : List Value} (r : Vals xs its) : (!its.toArray.isEmpty) = !xs.isEmpty := by
  cases r <;> simp
theorem line63 : (sizeLine : Nat) < 2 ^ 63 := by rw [sizeLine_eq]; decide
theorem tru_ok : TruR X (fun x H Q => ∃ k, TruV X.K x H k ∧ Q k H) := by
  intro pins s σ H x v Q I rx h
  obtain ⟨k, e, q⟩ := h
  have hl := line63
  have hs : sizeLine = 16777216 := sizeLine_eq
  cases x with
  | non =>
    cases rx
    have e' : k = false := e
    subst e'
    exact truthy_none ⟨H, I, q⟩
  | bl b =>
    cases rx
    have e' : k = b := e
    subst e'
    exact wpAny_truthy_bool ⟨H, I, q⟩
  | int i =>
    obtain ⟨t, rfl⟩ := rx
    have e' : k = (i != 0) := e
    subst e'
    exact PySem.P.truthy_int ⟨H, I, q⟩
  | str y =>
    obtain ⟨t, rfl⟩ := rx
    obtain ⟨hy, e'⟩ : y.length ≤ sizeLine ∧ k = ((y.length : Int) != 0) := e
    subst e'
    exact PySem.P.truthy_str (by omega) ⟨H, I.tok _, q⟩
  | byt y =>
    obtain ⟨t, rfl⟩ := rx
    obtain ⟨hy, e'⟩ : y.size ≤ sizeLine ∧ k = ((y.size : Int) != 0) := e
    subst e'
    exact PySem.W.truthy_bytes (by omega) ⟨H, I.tok _, q⟩
  | ref p =>
    cases rx
    have e' : (∃ xs, SqL X.K H p xs ∧ k = !xs.isEmpty) ∨ (∃ xs, SqT X.K H p xs ∧ k = !xs.isEmpty) ∨ ∃ kvs, H p = some (.dK kvs) ∧ k = !kvs.isEmpty := e
    rcases e' with ⟨xs, hx, e'⟩ | ⟨xs, hx, e'⟩ | ⟨kvs, hx, e'⟩
    · subst e'
      obtain ⟨its, r, pl, hz⟩ := I.list hx
      have hlen := r.length
      exact wpAny_truthy_list pl.isList (by simp only [List.size_toArray]; omega) ⟨H, I.tok _, by rw [isEmpty_of r]; exact q⟩
    · subst e'
      obtain ⟨its, r, pl, hz⟩ := I.tuple hx
      have hlen := r.length
      exact truthy_tuple pl (by simp only [List.size_toArray]; omega) ⟨H, I.tok _, by rw [isEmpty_of r]; exact q⟩
    · subst e'
      obtain ⟨hz, hS, vs, r, m⟩ : kvs.length ≤ sizeLine ∧ (p == sysModules) = false ∧ ∃ vs, KV kvs vs ∧ s.heap.DictOf (mixKind X.prog X.w) p vs := I.hok p _ hx
      have hlen : kvs.length = vs.length := Paired.length r
      exact wpAny_truthy_dict hS m (by omega) ⟨H, I.tok _, by rw [isEmpty_kv r]; exact q⟩
  | _ => exact (show False from e).elim
/-- any expression whose test is its value's truth (a name, a call, a subscript, a field ..: he by fun _ => rfl) -/
theorem pt_truth (ha : PE X a ta) (he : ∀ whole, isTrue a X.env whole = (do let v ← whole; standAt a.pos; holding [v] (truthy v))) :
    PT X a (fun σ H Q => ta σ H fun x H' => ∃ k, TruV X.K x H' k ∧ Q k H') := by
  intro pins s σ H Q I h
  exact isTrue_plain (thn (ha pins s σ H _ I h) fun v s1 ⟨x, H1, I1, r1, q1⟩ => tru_ok pins s1 σ H1 x v Q I1 r1 q1) (he _)

/-! ### strs and bytes -/
theorem op_add_str : OpR X (binaryOp .Add) (fun x y H Q => ∃ i j, x = .str i ∧ y = .str j ∧ i.length + j.length ≤ sizeLine ∧ Q (.str (i ++ j)) H) := by
  intro pins s σ H x y v u Q I rx ry h
  obtain ⟨i, j, rfl, rfl, hz, q⟩ := h
  obtain ⟨t, rfl⟩ := rx
  obtain ⟨t', rfl⟩ := ry
  exact add_str (fun t' tk => ⟨.str (i ++ j), H, I.tok _, ⟨_, rfl⟩, q⟩) hz
/-! ### scalar builtins, by CallR -/
theorem vals1 {x : V} {us : List Value} (r : Vals [x] us) : ∃ u, us = [u] ∧ RelV x u := by
  cases r with
  | cons r1 r2 => cases r2; exact ⟨_, rfl, r1⟩
theorem vals2 {x y : V} {us : List Value} (r : Vals [x, y] us) : ∃ u w', us = [u, w'] ∧ RelV x u ∧ RelV y w' := by
  cases r with
  | cons r1 r2 =>
    cases r2 with
    | cons r3 r4 => cases r4; exact ⟨_, _, rfl, r1, r3⟩
theorem call_max2 (hc : X.calm = true) : CallR X (.builtin "max") (fun xs H Q => ∃ i j, xs = [.int i, .int j] ∧ Q (.int (if j > i then j else i)) H) := by
  intro pins s σ H xs us Q I r h
  obtain ⟨i, j, rfl, q⟩ := h
  obtain ⟨u, w', rfl, ⟨t, rfl⟩, ⟨t', rfl⟩⟩ := vals2 r
  refine max_two_ints (I.ok.hd hc) fun h' tk k => ⟨_, H, I.kept k, ?_, q⟩
  by_cases hj : j > i
  · rw [if_pos hj, if_pos hj]; exact ⟨_, rfl⟩
  · rw [if_neg hj, if_neg hj]; exact ⟨_, rfl⟩
theorem call_int1 : CallR X (.type "int") (fun xs H Q => (∃ i, xs = [.int i] ∧ Q (.int i) H) ∨ ∃ k, xs = [.bl k] ∧ Q (.int (if k then 1 else 0)) H) := by
  intro pins s σ H xs us Q I r h
  rcases h with ⟨i, rfl, q⟩ | ⟨k, rfl, q⟩
  · obtain ⟨u, rfl, t, rfl⟩ := vals1 r
    exact call_int_int ⟨.int i, H, I, ⟨_, rfl⟩, q⟩
  · obtain ⟨u, rfl, r1⟩ := vals1 r
    cases r1
    exact call_int_bool ⟨.int (if k then 1 else 0), H, I.tok _, ⟨_, rfl⟩, q⟩
/-- len of a str, a bytes, a list, a tuple -/
def LenV (K : PySem.W.Frag) (x : V) (H : Hp) (n : Nat) : Prop :=
  match x with
  | .str y => y.length ≤ sizeLine ∧ n = y.length
  | .byt y => y.size ≤ sizeLine ∧ n = y.size
  | .ref p => (∃ xs, SqL K H p xs ∧ n = xs.length) ∨ ∃ xs, SqT K H p xs ∧ n = xs.length
  | _ => False
theorem call_len : CallR X (.builtin "len") (fun xs H Q => ∃ x n, xs = [x] ∧ LenV X.K x H n ∧ Q (.int n) H) := by
  intro pins s σ H xs us Q I r h
  obtain ⟨x, n, rfl, e, q⟩ := h
  obtain ⟨u, rfl, rx⟩ := vals1 r
  have hl := line63
  have hs : sizeLine = 16777216 := sizeLine_eq
  cases x with
  | str y =>
    obtain ⟨t, rfl⟩ := rx
    obtain ⟨hy, e'⟩ : y.length ≤ sizeLine ∧ n = y.length := e
    subst e'
    exact len_str (by omega) ⟨.int _, H, I.tok _, ⟨_, rfl⟩, q⟩
  | byt y =>
    obtain ⟨t, rfl⟩ := rx
    obtain ⟨hy, e'⟩ : y.size ≤ sizeLine ∧ n = y.size := e
    subst e'
    exact PySem.W.len_bytes (by omega) ⟨.int _, H, I.tok _, ⟨_, rfl⟩, q⟩
  | ref p =>
    cases rx
    have e' : (∃ xs, SqL X.K H p xs ∧ n = xs.length) ∨ ∃ xs, SqT X.K H p xs ∧ n = xs.length := e
    rcases e' with ⟨xs, hx, e'⟩ | ⟨xs, hx, e'⟩
    · subst e'
      obtain ⟨its, r', pl, hz⟩ := I.list hx
      have hlen := r'.length
      exact Calls.call_len_list pl.isList (by simp only [List.size_toArray]; omega) ⟨.int xs.length, H, I.tok _, ⟨_, by simp only [List.size_toArray]; rw [hlen]⟩, q⟩
    · subst e'
      obtain ⟨its, r', pl, hz⟩ := I.tuple hx
      have hlen := r'.length
      exact len_tuple pl (by simp only [List.size_toArray]; omega) ⟨.int xs.length, H, I.tok _, ⟨_, by simp only [List.size_toArray]; rw [hlen]⟩, q⟩
  | _ => exact (show False from e).elim
end
end L2

namespace L2
open PySem PySem.Spec PyProof.Rows

/-! ### an instance, its attributes a map -/
structure ObjM (h : Heap) (x dx C : Addr) (mA : Str → Option Value) : Prop where
  obj : h.get? x = some (PySem.W.instObj C dx)
  ns : h.Ns1 dx mA
  ne : dx ≠ x

theorem lookIn_ns {h : Heap} {dx : Addr} {mA : Str → Option Value} (n : h.Ns1 dx mA) : ∃ od, h.get? dx = some od ∧ ∀ name, PySem.W.lookIn name od = some (mA name) := by
  obtain ⟨o, es, ep, ho, hd, hk, _, hm⟩ := n
  refine ⟨o, ho, fun name => ?_⟩
  have e := hm name
  unfold nsFind findBy at e
  rw [← Array.find?_toList] at e
  unfold PySem.W.lookIn
  rw [hd]
  dsimp only
  split
  · rename_i y q
    rw [q] at e
    exact congrArg some e
  · rename_i q
    rw [q] at e
    have a : es.toList.any (·.refKey) = false := by
      rw [List.any_eq_false]
      intro y hy
      obtain ⟨z, t, hkey⟩ := hk y (Array.mem_toList_iff.mp hy)
      simp [DictEntry.refKey, hkey]
    have a' : ¬ es.toList.any (·.refKey) = true := by rw [a]; exact Bool.false_ne_true
    rw [if_neg a']
    exact congrArg some e

theorem ObjM.look {h : Heap} {x dx C : Addr} {mA : Str → Option Value} (I : ObjM h x dx C mA) : ∃ od, PySem.W.InstAt h x (PySem.W.instObj C dx) C (some od) ∧ ∀ name, PySem.W.lookIn name od = some (mA name) :=
  let ⟨od, ho, hl⟩ := lookIn_ns I.ns
  ⟨od, ⟨I.obj, rfl, rfl, ho⟩, hl⟩

section
variable {prog : Program} {w : World} {A : Around} {E : Value → Shared → Prop} {s : Shared} {K : PySem.W.Frag} {x dx C f : Addr} {mA : Str → Option Value} {name : Str} {v : Value}

theorem get_map {expr : Bool} {Q : Value → Shared → Prop} (X : K.In s.heap) (I : ObjM s.heap x dx C mA) (hg : PySem.W.plainGet K C name = true) (hh : PySem.W.hasDictIn K C = true)
    (ha : PySem.W.findIn K (.ref C) name = some none) (hv : mA name = some v) (hv' : PySem.W.handedIn v = true) (h : Q v { s with toks := s.toks + 1 }) :
    wpAny (model prog w) A (getAttr (.ref x) name expr) Q E s := by
  obtain ⟨od, J, hl⟩ := I.look
  exact PySem.W.get_value X J (PySem.W.plainGet_of hg).1 (PySem.W.findObj_own hh ha rfl (by rw [hl, hv])) hv' h

theorem get_meth {pl : Sem Bool} {Q : Value × List Value → Shared → Prop} (X : K.In s.heap) (I : ObjM s.heap x dx C mA) (hg : PySem.W.plainGet K C name = true)
    (hf : PySem.W.findIn K (.ref C) name = some (some (.ref f))) (ht : PySem.W.isFn K (.ref f) = true) (hv : mA name = none) (h : Q (.ref f, [.ref x]) s) :
    wpAny (model prog w) A (getMethod (.ref x) name pl) Q E s := by
  obtain ⟨od, J, hl⟩ := I.look
  exact PySem.W.method_fn X J (PySem.W.plainGet_of hg).1 (PySem.W.plainGet_of hg).2 hf (beq_iff_eq.mp ht) (by show (PySem.W.lookIn name od).map (·.isSome) = some false; rw [hl, hv]; rfl) h

theorem set_map {ns : List Str} {Q : Unit → Shared → Prop} (X : K.In s.heap) (I : ObjM s.heap x dx C mA)
    (hs : PySem.W.findIn K (.ref C) "__setattr__" = some (some (.builtin "object.__setattr__"))) (hp : PySem.W.plainOver K C = true) (ht : PySem.W.takerIn K C name = some none) (hh : PySem.W.hasDictIn K C = true)
    (hw : PySem.Within mA ns) (hsz : ns.length ≤ sizeLine)
    (h : ∀ h', ObjM h' x dx C (fun y => if y = name then some v else mA y) → Heap.SameBut dx s.heap h' → Q () { s with heap := h', toks := s.toks + 2 }) :
    wpAny (model prog w) A (setAttr (.ref x) name v) Q E s := by
  obtain ⟨od, J, hl⟩ := I.look
  refine PySem.W.set_plain X J hs (PySem.W.osa_open (s := { s with toks := s.toks + 1 }) (r := none) X J hp ht fun b => ?_)
  obtain ⟨cd, hc, hd'⟩ := PySem.W.any_some hh
  have hx : s.heap.get? x = some ⟨.ref C, some dx, .plain, #[]⟩ := I.obj
  refine wpAny_bind (wpAny_pure (wpAny_bind (wpAny_bind (wpAny_loadPart hx (wpAny_bind (PySem.W.Looks.here (s := { s with toks := s.toks + 1 }) (PySem.W.looks_clsIn X hc) ?_))))))
  rw [hd']
  refine wpAny_pure (a := some dx) (wpAny_bind (wpAny_pure (wpAny_bind ?_)))
  refine wpAny_nsSet1 (s := { s with toks := s.toks + 1 }) I.ns fun h' hn2 hs2 => ?_
  obtain ⟨oD, esD, epD, hoD, hdD, hcD⟩ := hn2.count (PySem.Within.cons name v hw)
  refine wpAny_bind (wpAny_lookBehind hoD (by rw [hdD]; exact pastItsLine_dict (Nat.le_trans hcD (by rw [List.length_cons]; omega))) ?_)
  exact wpAny_pure (h _ ⟨(hs2.2 _ (Ne.symm I.ne)).trans I.obj, hn2, I.ne⟩ hs2)

/-- C(..): the dict at the heap's end, the instance behind it; then its __init__ -/
theorem make_map {R : Result → Shared → Prop} {vs : List Value} {kw : List (Str × Value)} (X : K.In s.heap) (hm : PySem.W.makesIn K C = true)
    (hi : PySem.W.findIn K (.ref C) "__init__" = some (some (.ref f))) (hf : PySem.W.typeIn K (.ref f) = some (.type "function"))
    (h : codeAny (model prog w) (A.under (.builtin "type.__call__" ⟨.ref C :: vs, kw⟩)) (.call (.ref f) ⟨.ref (s.heap.objs.size + 1) :: vs, kw⟩) (PySem.W.InitBack (s.heap.objs.size + 1) R)
      { s with heap := (s.heap.push PySem.W.emptyDict).push (PySem.W.instObj C s.heap.objs.size) }) :
    codeAny (model prog w) A (.call (.ref C) ⟨vs, kw⟩) R s := by
  obtain ⟨hh, g, d, t, os⟩ := s
  exact PySem.W.make_core (PySem.W.makes_of X hm) (PySem.W.looks_findIn X hi) (fun self => PySem.W.bind_fn X self hf) (.inl rfl) h
/-- C() where there is no __init__ but object's -/
theorem make_map0 {R : Result → Shared → Prop} (X : K.In s.heap) (hm : PySem.W.makesIn K C = true)
    (hi : PySem.W.findIn K (.ref C) "__init__" = some (some (.builtin "object.__init__")))
    (hb : ∀ self, PySem.W.Looks (model prog w) s.heap (bindSpecial (.builtin "object.__init__") self) (.builtin "object.__init__", [self]))
    (h : codeAny (model prog w) (A.under (.builtin "type.__call__" ⟨[.ref C], []⟩)) (.call (.builtin "object.__init__") ⟨[.ref (s.heap.objs.size + 1)], []⟩) (PySem.W.InitBack (s.heap.objs.size + 1) R)
      { s with heap := (s.heap.push PySem.W.emptyDict).push (PySem.W.instObj C s.heap.objs.size) }) :
    codeAny (model prog w) A (.call (.ref C) ⟨[], []⟩) R s := by
  obtain ⟨hh, g, d, t, os⟩ := s
  exact PySem.W.make_core (PySem.W.makes_of X hm) (PySem.W.looks_findIn X hi) hb (.inr ⟨rfl, rfl⟩) h
end

/-! ### the attributes as a list of pairs -/
def putF (f : Str) (v : V) : List (Str × V) → List (Str × V)
  | [] => [(f, v)]
  | (g, x) :: r => if g = f then (g, v) :: r else (g, x) :: putF f v r
theorem lookup_putF (f g : Str) (v : V) : ∀ fs : List (Str × V), (putF f v fs).lookup g = if g = f then some v else fs.lookup g
  | [] => by
    show List.lookup g [(f, v)] = _
    by_cases h : g = f
    · have hb : (g == f) = true := beq_iff_eq.mpr h
      simp only [List.lookup, hb, if_pos h]
    · have hb : (g == f) = false := beq_eq_false_iff_ne.mpr h
      simp only [List.lookup, hb, if_neg h]
  | (k, x) :: r => by
    have ih := lookup_putF f g v r
    rw [show putF f v ((k, x) :: r) = (if k = f then (k, v) :: r else (k, x) :: putF f v r) from rfl]
    by_cases hk : k = f
    · rw [if_pos hk]
      by_cases h : g = k
      · have hb : (g == k) = true := beq_iff_eq.mpr h
        simp only [List.lookup, hb, if_pos (h.trans hk)]
      · have hb : (g == k) = false := beq_eq_false_iff_ne.mpr h
        simp only [List.lookup, hb, if_neg (fun e : g = f => h (e.trans hk.symm))]
    · rw [if_neg hk]
      by_cases h : g = k
      · have hb : (g == k) = true := beq_iff_eq.mpr h
        simp only [List.lookup, hb, if_neg (fun e : g = f => hk (h.symm.trans e))]
      · have hb : (g == k) = false := beq_eq_false_iff_ne.mpr h
        simp only [List.lookup, hb]
        exact ih
theorem keys_putF (f : Str) (v : V) : ∀ fs : List (Str × V), f ∈ (putF f v fs).map (·.1) ∧ ∀ g, g ∈ fs.map (·.1) → g ∈ (putF f v fs).map (·.1)
  | [] => ⟨by simp [putF], fun g h => by simp at h⟩
  | (k, x) :: r => by
    obtain ⟨i1, i2⟩ := keys_putF f v r
    rw [show putF f v ((k, x) :: r) = (if k = f then (k, v) :: r else (k, x) :: putF f v r) from rfl]
    by_cases hk : k = f
    · rw [if_pos hk]
      subst hk
      exact ⟨by simp, fun g h => by simpa using h⟩
    · rw [if_neg hk]
      refine ⟨?_, fun g h => ?_⟩
      · rw [List.map_cons]
        exact List.mem_cons_of_mem _ i1
      · rw [List.map_cons] at h ⊢
        rcases List.mem_cons.mp h with e | e
        · exact List.mem_cons.mpr (.inl e)
        · exact List.mem_cons_of_mem _ (i2 g e)
theorem length_putF (f : Str) (v : V) : ∀ fs : List (Str × V), (putF f v fs).length ≤ fs.length + 1
  | [] => by simp [putF]
  | (k, x) :: r => by
    have ih := length_putF f v r
    rw [show putF f v ((k, x) :: r) = (if k = f then (k, v) :: r else (k, x) :: putF f v r) from rfl]
    by_cases hk : k = f
    · rw [if_pos hk, List.length_cons, List.length_cons]; omega
    · rw [if_neg hk, List.length_cons, List.length_cons]; omega

theorem RelO.some_of {v : V} {o : Option Value} (r : RelO (some v) o) : ∃ u, o = some u ∧ RelV v u := by
  cases o with
  | none => exact (show False from r).elim
  | some u => exact ⟨u, rfl, r⟩
theorem RelO.none_of {o : Option Value} (r : RelO none o) : o = none := by
  cases o with
  | none => rfl
  | some u => exact (show False from r).elim
theorem handed_of {v : V} {u : Value} (r : RelV v u) : PySem.W.handedIn u = true := by
  cases v with
  | non => cases (show u = Value.none from r); rfl
  | bl b => cases (show u = Value.bool b from r); rfl
  | int i => obtain ⟨t, e⟩ := (show ∃ t, u = Value.int i t from r); cases e; rfl
  | str x => obtain ⟨t, e⟩ := (show ∃ t, u = Value.str x t from r); cases e; rfl
  | byt b => obtain ⟨t, e⟩ := (show ∃ t, u = Value.bytes b t from r); cases e; rfl
  | flt b => obtain ⟨t, e⟩ := (show ∃ t, u = Value.float b t from r); cases e; rfl
  | ref a => cases (show u = Value.ref a from r); rfl
  | ty n => cases (show u = Value.type n from r); rfl

section
variable {P : Program} {w : World} {H H' : Hp} {h h' : Heap} {a C dx : Addr} {fs fs' : List (Str × V)}
theorem ins_get (hok : HOk P w H h) (e : H a = some (.ins C dx fs)) : ∃ mA, ObjM h a dx C mA ∧ (∀ f, RelO (fs.lookup f) (mA f)) ∧ PySem.Within mA (fs.map (·.1)) ∧ fs.length ≤ 1000 ∧ H dx = some (.own a) := by
  obtain ⟨d, z, ne, ob, mA, n, r, q⟩ := (show ObjOk P w H h a (.ins C dx fs) from hok a _ e)
  exact ⟨mA, ⟨ob, n, ne⟩, r, q, z, d⟩
end

/-! ### what of the text a class must have -/
structure Cls (K : PySem.W.Frag) (C : Addr) : Prop where
  pg : PySem.W.plainGet K C Str.empty = true
  hd : PySem.W.hasDictIn K C = true
  po : PySem.W.plainOver K C = true
  sa : PySem.W.findIn K (.ref C) "__setattr__" = some (some (.builtin "object.__setattr__"))
theorem Cls.get {K : PySem.W.Frag} {C : Addr} (c : Cls K C) (f : Str) : PySem.W.plainGet K C f = true := c.pg
/-- no class of it has the name -/
def NoAttr (K : PySem.W.Frag) (C : Addr) (f : Str) : Prop := PySem.W.findIn K (.ref C) f = some none
theorem NoAttr.taker {K : PySem.W.Frag} {C : Addr} {f : Str} (n : NoAttr K C f) : PySem.W.takerIn K C f = some none := by
  unfold PySem.W.takerIn
  rw [show PySem.W.findIn K (.ref C) f = some none from n]
  rfl
/-- a constant of the class -/
structure Con (K : PySem.W.Frag) (C : Addr) (f : Str) (v : V) (u : Value) : Prop where
  at_ : PySem.W.findIn K (.ref C) f = some (some u)
  rel : RelV v u
  get : PySem.W.specialIn K u "__get__" = some none
  cp : PySem.W.copiedNames.contains f = false
/-- a method: a plain def of the class or of one above it -/
structure Meth (K : PySem.W.Frag) (C : Addr) (m : Str) (f : Addr) : Prop where
  at_ : PySem.W.findIn K (.ref C) m = some (some (.ref f))
  fn : PySem.W.isFn K (.ref f) = true
  kp : PySem.W.keepIn K (.ref f) = true

section
variable {X : Cx} {pins : List (Addr × Obj)} {σ : St} {H : Hp} {s : Shared} {a C dx : Addr} {fs : List (Str × V)} {f : Str} {v : V} {A : Around} {E : Value → Shared → Prop}

theorem getattr_ok {b : Bool} {Q : Value → Shared → Prop} (I : Inv X pins σ H s) (e : H a = some (.ins C dx fs)) (c : Cls X.K C) (n : NoAttr X.K C f) (l : fs.lookup f = some v)
    (h : ∀ u s', Inv X pins σ H s' → RelV v u → Q u s') : wpAny (model X.prog X.w) A (getAttr (.ref a) f b) Q E s := by
  obtain ⟨mA, O, r, _, _, _⟩ := ins_get I.hok e
  obtain ⟨u, hu, ru⟩ := RelO.some_of (v := v) (o := mA f) (by rw [← l]; exact r f)
  exact get_map I.kIn O (c.get f) c.hd n hu (handed_of ru) (h u _ (I.tok _) ru)

theorem getmeth_ok {m : Str} {g : Addr} {pl : Sem Bool} {Q : Value × List Value → Shared → Prop} (I : Inv X pins σ H s) (e : H a = some (.ins C dx fs)) (c : Cls X.K C) (k : Meth X.K C m g) (l : fs.lookup m = none)
    (h : Q (.ref g, [.ref a]) s) : wpAny (model X.prog X.w) A (getMethod (.ref a) m pl) Q E s := by
  obtain ⟨mA, O, r, _, _, _⟩ := ins_get I.hok e
  have hn : mA m = none := RelO.none_of (by rw [← l]; exact r m)
  exact get_meth I.kIn O (c.get m) k.at_ k.fn hn h

theorem setattr_ok {y : V} {u : Value} {Q : Unit → Shared → Prop} (I : Inv X pins σ H s) (e : H a = some (.ins C dx fs)) (c : Cls X.K C) (n : NoAttr X.K C f) (hl : fs.length < 1000) (ry : RelV y u)
    (h : ∀ s', Inv X pins σ (upd H a (.ins C dx (putF f y fs))) s' → Q () s') : wpAny (model X.prog X.w) A (setAttr (.ref a) f u) Q E s := by
  obtain ⟨mA, O, r, wi, _, ho⟩ := ins_get I.hok e
  have hz : (fs.map (·.1)).length ≤ sizeLine := by rw [List.length_map, sizeLine_eq]; omega
  refine set_map I.kIn O c.sa c.po n.taker c.hd wi hz fun h' O' sb => h _ ?_
  have hd : ∃ o, h'.get? dx = some o := let ⟨o, _, _, e', _⟩ := O'.ns; ⟨o, e'⟩
  refine I.write (x := a) (e := dx) (by rw [e]; exact True.intro) (.inr ho) (fun b q hb z => (sb.2 b hb).trans z) hd ?_
  refine ⟨by rw [upd_ne O.ne]; exact ho, ?_, O.ne, O'.obj, _, O'.ns, fun g => ?_, fun g hg => ?_⟩
  · have := length_putF f y fs; omega
  · show RelO ((putF f y fs).lookup g) (if g = f then some u else mA g)
    rw [lookup_putF]
    by_cases q : g = f
    · rw [if_pos q, if_pos q]; exact ry
    · rw [if_neg q, if_neg q]; exact r g
  · by_cases q : g = f
    · rw [q]; exact (keys_putF f y fs).1
    · refine (keys_putF f y fs).2 g (wi g fun z => hg ?_)
      show (if g = f then some u else mA g) = none
      rw [if_neg q]; exact z

/-- a new instance, tracked, without attributes -/
theorem Inv.made (I : Inv X pins σ H s) : Inv X pins σ (upd (upd H s.heap.objs.size (.own (s.heap.objs.size + 1))) (s.heap.objs.size + 1) (.ins C s.heap.objs.size []))
    { s with heap := (s.heap.push PySem.W.emptyDict).push (PySem.W.instObj C s.heap.objs.size) } := by
  have e1 : (s.heap.push PySem.W.emptyDict).get? s.heap.objs.size = some PySem.W.emptyDict := Heap.get?_push_size s.heap rfl
  have e2 : ((s.heap.push PySem.W.emptyDict).push (PySem.W.instObj C s.heap.objs.size)).get? (s.heap.objs.size + 1) = some (PySem.W.instObj C s.heap.objs.size) := by
    have := Heap.get?_push_size (s.heap.push PySem.W.emptyDict) (o := PySem.W.instObj C s.heap.objs.size) rfl
    rwa [Heap.size_push] at this
  have e3 : (s.heap.push PySem.W.emptyDict).Ns s.heap.objs.size (fun _ => none) := ⟨PySem.W.emptyDict, #[], _, e1, rfl, (fun e he => absurd he (by simp)), fun _ => rfl⟩
  have I1 := I.laid (a := s.heap.objs.size) (o := .own (s.heap.objs.size + 1)) (h' := s.heap.push PySem.W.emptyDict) (t' := s.toks) (fun b u q => Heap.get?_push_of_some _ q) (Nat.le_refl _) ⟨_, e1⟩
  refine I1.laid (a := s.heap.objs.size + 1) (o := .ins C s.heap.objs.size []) (t' := s.toks) (fun b u q => Heap.get?_push_of_some _ q) (Nat.le_of_eq (Heap.size_push _ _)) ?_
  have ne : s.heap.objs.size ≠ s.heap.objs.size + 1 := Nat.ne_of_lt (Nat.lt_succ_self _)
  refine ⟨by rw [upd_ne ne, upd_same], Nat.zero_le _, ne, e2, fun _ => none, (Heap.Ns1.of_empty e3).at fun o q => Heap.get?_push_of_some _ q, fun _ => True.intro, fun y hy => absurd rfl hy⟩

/-- e.f where nothing but the object is asked: through attributeBase (super) and the last hold -/
theorem attr_of {prog : Program} {w : World} {env : Env} {e : Expr} {f : Str} {pos : Pos} {s : Shared} {Q : Value → Shared → Prop} (hb : attributeBase e f env (eval e env) = eval e env)
    (h : wpAny (model prog w) A (eval e env) (fun o s₁ => wpAny (model prog w) A (getAttr o f true) Q E s₁) E s) : wpAny (model prog w) A (eval (.Attribute e f pos) env) Q E s :=
  Attribute_any_ h (by rw [arm_eval_Attribute, hb])
end

/-! ### readings and rules -/
/-- e.f, an attribute of the instance -/
def tFld (K : PySem.W.Frag) (ta : TE) (f : Str) : TE := fun σ H Q => ta σ H fun x H1 => ∃ a C dx fs v, x = .ref a ∧ H1 a = some (.ins C dx fs) ∧ Cls K C ∧ NoAttr K C f ∧ fs.lookup f = some v ∧ Q v H1
/-- e.f = value -/
def sFld (K : PySem.W.Frag) (ta tv : TE) (f : Str) : TS := fun D σ H => tv σ H fun y H1 => ta σ H1 fun x H2 => ∃ a C dx fs, x = .ref a ∧ H2 a = some (.ins C dx fs) ∧ Cls K C ∧ NoAttr K C f ∧ fs.length < 1000 ∧
  D.nx σ (upd H2 a (.ins C dx (putF f y fs)))
section
variable {X : Cx} {o e value : Expr} {f : Str} {pos pos' tpos : Pos} {ta tv : TE}
theorem pe_fld (he : PE X e ta) (hb : attributeBase e f X.env (eval e X.env) = eval e X.env) : PE X (.Attribute e f pos) (tFld X.K ta f) := by
  intro pins s σ H Q I h
  refine attr_of hb (thn (he pins s σ H _ I h) fun u s1 ⟨x, H1, I1, rx, a, C, dx, fs, v, ex, ea, c, n, l, q⟩ => ?_)
  subst ex
  obtain rfl : u = Value.ref a := rx
  exact getattr_ok I1 ea c n l fun u' s2 I2 ru => ⟨v, H1, I2, ru, q⟩
theorem ps_fld (ha : PE X o ta) (hv : PE X value tv) (hs : swapsWith value (some (.Attribute o f pos')) pos.line X.env = pure false) : PS X (.Assign [.Attribute o f pos'] value pos) (sFld X.K ta tv f) := by
  intro pins s σ H D I h
  refine plainObj_wpAny_Assign_Attribute (thn (hv pins s σ H _ I h) fun u s1 ⟨y, H1, I1, ry, q⟩ => thn (ha pins s1 σ H1 _ I1 q) fun ov s2 ⟨x, H2, I2, rx, a, C, dx, fs, ex, ea, c, n, l, q2⟩ => ?_) hs
  subst ex
  obtain rfl : ov = Value.ref a := rx
  exact setattr_ok I2 ea c n l ry fun s3 I3 => ⟨σ, _, I3, q2⟩
end

/-! ### isinstance -/
section
variable {X : Cx} {pins : List (Addr × Obj)} {σ : St} {H : Hp} {s : Shared} {A : Around} {E : Value → Shared → Prop} {Q : Value → Shared → Prop} {c : Value} {b : Bool}
/-- the type of a value, as the fragment's deciders take it; for an instance its class -/
inductive TyOf (K : PySem.W.Frag) (H : Hp) : V → Value → Prop where
  | non : TyOf K H .non (.type "NoneType")
  | bl (x : Bool) : TyOf K H (.bl x) (.type "bool")
  | int (i : Int) : TyOf K H (.int i) (.type "int")
  | str (x : Str) : TyOf K H (.str x) (.type "str")
  | flt (x : UInt64) : TyOf K H (.flt x) (.type "float")
  | lst {a : Addr} {xs : List V} (e : H a = some (.lst xs)) : TyOf K H (.ref a) (.type "list")
  | frz {a : Addr} {o : Obj} {xs : List V} (e : H a = some (.frz o (.lst xs))) : TyOf K H (.ref a) (.type "list")
  | tup {a : Addr} {xs : List V} (e : H a = some (.tup xs)) : TyOf K H (.ref a) (.type "tuple")
  | dK {a : Addr} {kvs : List (Key × V)} (e : H a = some (.dK kvs)) : TyOf K H (.ref a) (.type "dict")
  | dT {a : Addr} {kvs : List (List Key × V)} (e : H a = some (.dT kvs)) : TyOf K H (.ref a) (.type "dict")
  | ins {a C dx : Addr} {fs : List (Str × V)} (e : H a = some (.ins C dx fs)) (cl : Cls K C) (ha : PySem.W.findIn K (.ref C) "__class__" = some (some (.builtin "object.__class__")))
      (hn : PySem.W.specialIn K (.builtin "object.__class__") "__get__" = some (some (.builtin "getset_descriptor.__get__"))) (htk : PySem.W.takesIn K (.builtin "object.__class__") = some true)
      (hm : PySem.W.mroIn K C (.type "object") = some true) : TyOf K H (.ref a) (.ref C)
/-- isinstance(x, c) for one class c, a built-in or an own one: kitOne's answer -/
theorem isinst_ok {x : V} {u t : Value} (I : Inv X pins σ H s) (rx : RelV x u) (ty : TyOf X.K H x t) (e : PySem.W.kitOne X.K t c = some b) (h : ∀ tk, Q (.bool b) { s with toks := tk }) :
    wpAny (model X.prog X.w) A (call (.builtin "isinstance") [u, c]) Q E s := by
  cases ty with
  | non => cases (show u = Value.none from rx); exact PySem.W.kia_one PySem.W.kitx_none I.kIn True.intro e (fun z => nomatch z) h
  | bl y => cases (show u = Value.bool y from rx); exact PySem.W.kia_one PySem.W.kitx_bool I.kIn True.intro e (fun z => nomatch z) h
  | int i => obtain ⟨t, q⟩ := (show ∃ t, u = Value.int i t from rx); cases q; exact PySem.W.kia_one PySem.W.kitx_int I.kIn True.intro e (fun z => nomatch z) h
  | str y => obtain ⟨t, q⟩ := (show ∃ t, u = Value.str y t from rx); cases q; exact PySem.W.kia_one PySem.W.kitx_str I.kIn True.intro e (fun z => nomatch z) h
  | flt y => obtain ⟨t, q⟩ := (show ∃ t, u = Value.float y t from rx); cases q; exact PySem.W.kia_one PySem.W.kitx_float I.kIn True.intro e (fun z => nomatch z) h
  | @lst a xs ea =>
    cases (show u = Value.ref a from rx)
    obtain ⟨_, _, n, _, h1⟩ := (show ObjOk X.prog X.w H s.heap a (.lst xs) from I.hok a _ ea)
    exact PySem.W.kia_one PySem.W.kitx_list I.kIn ⟨_, h1, rfl⟩ e (fun z => nomatch z) h
  | @frz a ob xs ea =>
    cases (show u = Value.ref a from rx)
    obtain ⟨_, _, _, n, _, h1⟩ := (show ObjOk X.prog X.w H s.heap a (.frz ob (.lst xs)) from I.hok a _ ea)
    exact PySem.W.kia_one PySem.W.kitx_list I.kIn ⟨_, h1, rfl⟩ e (fun z => nomatch z) h
  | @tup a xs ea =>
    cases (show u = Value.ref a from rx)
    obtain ⟨_, _, _, p⟩ := (show ObjOk X.prog X.w H s.heap a (.tup xs) from I.hok a _ ea)
    obtain ⟨o, h1, h2, _⟩ := p
    exact PySem.W.kia_one PySem.W.kitx_tuple I.kIn ⟨o, h1, h2⟩ e (fun z => nomatch z) h
  | @dK a kvs ea =>
    cases (show u = Value.ref a from rx)
    obtain ⟨_, _, vs, _, p⟩ := (show ObjOk X.prog X.w H s.heap a (.dK kvs) from I.hok a _ ea)
    obtain ⟨o, es, ep, h1, h2, _⟩ := p
    exact PySem.W.kia_one PySem.W.kitx_dict I.kIn ⟨o, h1, h2.1⟩ e (fun z => nomatch z) h
  | @dT a kvs ea => exact (show False from I.hok a _ ea).elim
  | @ins a C dx fs ea cl ha hn htk hm =>
    cases (show u = Value.ref a from rx)
    obtain ⟨mA, O, _⟩ := ins_get I.hok ea
    obtain ⟨od, J, _⟩ := O.look
    exact PySem.W.kia_one (PySem.W.kitx_own (cl.get _) cl.hd ha hn htk hm) I.kIn J e (fun z => nomatch z) h
end
end L2

namespace L2
open PySem PySem.Spec PyProof.Rows

/-! ### room -/
structure Room (k : Nat) (A : Around) : Prop where
  hd : A.handled = none
  dp : A.depth + 3 * k + 5 < recursionLimit
  un : A.units + 16 * k + 200 < cLine
theorem Room.mono {j k : Nat} {A : Around} (r : Room k A) (h : j ≤ k) : Room j A := ⟨r.hd, by have := r.dp; omega, by have := r.un; omega⟩
theorem Room.deeper {k : Nat} {A : Around} (r : Room (k + 1) A) (env : Env) : Room k (A.deeper env) :=
  ⟨r.hd, by have := r.dp; show A.depth + 1 + 3 * k + 5 < _; omega, by have := r.un; show A.units + 3 + 16 * k + 200 < _; omega⟩
theorem Room.in1 {k : Nat} {A : Around} (r : Room (k + 1) A) : Room k A.in1 :=
  ⟨r.hd, by have := r.dp; show A.depth + 3 * k + 5 < _; omega, by have := r.un; show A.units + 1 + 16 * k + 200 < _; omega⟩
theorem make_depth {A : Around} {C : Addr} {us : List Value} {kw : List (Str × Value)} : (A.under (.builtin "type.__call__" ⟨.ref C :: us, kw⟩)).depth = A.depth + 1 := by
  first | rfl | simp [Around.under, Code.weight, Code.isCreation, Code.isGuard, Code.isCaller, Code.frames, Code.isFrame, guardIds]
theorem make_units {A : Around} {C : Addr} {us : List Value} {kw : List (Str × Value)} : (A.under (.builtin "type.__call__" ⟨.ref C :: us, kw⟩)).units = A.units + 1 := by
  first | rfl | simp [Around.under, Code.cUnits, Code.frames, Code.isFrame]
theorem Room.make {k : Nat} {A : Around} (r : Room (k + 1) A) (C : Addr) (us : List Value) (kw : List (Str × Value)) : Room k (A.under (.builtin "type.__call__" ⟨.ref C :: us, kw⟩)) :=
  ⟨r.hd, by have := r.dp; rw [make_depth]; omega, by have := r.un; rw [make_units]; omega⟩
theorem Room.depth {k : Nat} {A : Around} (r : Room k A) : A.depth < recursionLimit := by have := r.dp; omega
theorem Room.units {k : Nat} {A : Around} (r : Room k A) : A.units + 64 < cLine := by have := r.un; omega
/-! ### argument lists and displays -/
def tNil : TA := fun _ H Q => Q [] H
def tCons (ta : TE) (tr : TA) : TA := fun σ H Q => ta σ H fun x H1 => tr σ H1 fun xs H2 => Q (x :: xs) H2
section
variable {X : Cx} {e : Expr} {es : List Expr} {te : TE} {t : TA} {pos : Pos}
theorem pa_nil : PA X [] tNil := fun _ _ _ _ H Q I h => Calls.spliced_nil ⟨[], H, I, .nil, h⟩
theorem pa_cons (ha : PE X e te) (hr : PA X es t) (hs : starEach (e :: es) X.env = (false, eval e X.env) :: starEach es X.env := by rfl) : PA X (e :: es) (tCons te t) := by
  intro pos pins s σ H Q I h
  rw [hs]
  show wpAny _ _ (spliced ((false, eval e X.env) :: backTo pos (starEach es X.env))) _ _ s
  refine Calls.spliced_cons (thn (ha pins s σ H _ I h) fun u s1 ⟨x, H1, I1, r1, q1⟩ => ?_)
  exact thn (hr pos pins s1 σ H1 _ I1 q1) fun us s2 ⟨xs, H2, I2, r2, q2⟩ => ⟨x :: xs, H2, I2, .cons r1 r2, q2⟩

/-- a tuple, a list of written items -/
def tTup (t : TA) : TE := fun σ H Q => t σ H fun xs H1 => xs.length ≤ sizeLine ∧ ∀ p, H1 p = none → Q (.ref p) (upd H1 p (.tup xs))
def tLst (t : TA) : TE := fun σ H Q => t σ H fun xs H1 => xs.length ≤ sizeLine ∧ ∀ p, H1 p = none → Q (.ref p) (upd H1 p (.lst xs))
theorem pe_tup {x1} (h : PA X es t) : PE X (.Tuple es x1 pos) (tTup t) := by
  intro pins s σ H Q I hq
  refine wpAny_Tuple_spliced (thn (h pos pins s σ H _ I hq) fun us s1 ⟨xs, H1, I1, r, z, q⟩ => ⟨by rw [← r.length]; exact z, ?_⟩)
  have hf : H1 s1.heap.objs.size = none := I1.hok.fresh (Nat.le_refl _)
  refine ⟨.ref s1.heap.objs.size, upd H1 s1.heap.objs.size (.tup xs), I1.laid (t' := s1.toks) (fun b u e => Heap.get?_push_of_some _ e) (Nat.le_refl _) ?_, rfl, q _ hf⟩
  exact ⟨z, us, r, ⟨_, Heap.get?_push_size _ rfl, rfl, _, rfl⟩⟩
theorem pe_lst (h : PA X es t) : PE X (.List es pos) (tLst t) := by
  intro pins s σ H Q I hq
  refine wpAny_List_spliced (thn (h pos pins s σ H _ I hq) fun us s1 ⟨xs, H1, I1, r, z, q⟩ => ⟨by rw [← r.length]; exact z, ?_⟩)
  have hf : H1 s1.heap.objs.size = none := I1.hok.fresh (Nat.le_refl _)
  refine ⟨.ref s1.heap.objs.size, upd H1 s1.heap.objs.size (.lst xs), I1.laid (t' := s1.toks) (fun b u e => Heap.get?_push_of_some _ e) (Nat.le_refl _) ?_, rfl, q _ hf⟩
  exact ⟨z, us, 0, r, Heap.get?_push_size _ rfl⟩
end

/-! ### what a def promises -/
/-- a def's promise: the bound arguments in the parameters' order, the heap, the wanted end, the wanted exception -/
abbrev Sp := List V → Hp → VK → XK → Prop
/-- how an exception lies behind a call (file 08 gives it): the callers' frames, abstract heap and state ahead of the call, the wish, the exception, the state -/
abbrev CXT := List Env → Hp → Shared → XK → Value → Shared → Prop

/-- the state at a call -/
structure Env0 (P : Program) (w : World) (K : PySem.W.Frag) (mg : Str → Option Value) (base : Heap) (A : Around) (outer : List Env) (s : Shared) (H : Hp) : Prop where
  frames : A.frames = some outer
  mod : Mod K mg base
  bs : ∀ b o, base.get? b = some o → s.heap.get? b = some o ∧ H b = none
  bsz : base.objs.size ≤ s.heap.objs.size
  funs : s.heap.FunFrames base outer
  frf : ∀ b ∈ frs outer, H b = none
  hok : HOk P w H s.heap
  bare : AllBare s.gens
/-- a call's end -/
def CE (outer : List Env) (P : Program) (w : World) (H : Hp) (s : Shared) (Q : VK) (u : Value) (s' : Shared) : Prop :=
  ∃ v H', s'.os = s.os ∧ AllBare s'.gens ∧ Un (frs outer) [] H H' s.heap s'.heap ∧ HOk P w H' s'.heap ∧ RelV v u ∧ Q v H'
def CR (CX : CXT) (outer : List Env) (P : Program) (w : World) (H : Hp) (s : Shared) (Q : VK) (E : XK) (r : Result) (s' : Shared) : Prop :=
  match r with
  | .ok (.ret u) => CE outer P w H s Q u s'
  | .ok _ => False
  | .error e => CX outer H s E e s'
structure FnOk (P : Program) (w : World) (K : PySem.W.Frag) (mg : Str → Option Value) (base : Heap) (CX : CXT) (k : Nat) (f : Addr) (fd : FuncData) (ps : List Str) (sp : Sp) : Prop where
  len : ∀ vs H Q E, sp vs H Q E → vs.length = ps.length
  run : ∀ (A : Around) (outer : List Env) (s : Shared) (H : Hp) (args : Args) (us : List Value) (vs : List V) (Q : VK) (E : XK), Room k A → Env0 P w K mg base A outer s H → BindsTo s fd args (ps.zip us) → Vals vs us → sp vs H Q E →
    codeAny (model P w) A (.call (.ref f) args) (CR CX outer P w H s Q E) s
theorem FnOk.mono {P : Program} {w : World} {K : PySem.W.Frag} {mg : Str → Option Value} {base : Heap} {CX : CXT} {j k : Nat} {f : Addr} {fd : FuncData} {ps : List Str} {sp : Sp} (F : FnOk P w K mg base CX j f fd ps sp) (h : j ≤ k) :
    FnOk P w K mg base CX k f fd ps sp := ⟨F.len, fun A outer s H args us vs Q E hr => F.run A outer s H args us vs Q E (hr.mono h)⟩
/-- a weaker promise -/
theorem FnOk.imp {P : Program} {w : World} {K : PySem.W.Frag} {mg : Str → Option Value} {base : Heap} {CX : CXT} {k : Nat} {f : Addr} {fd : FuncData} {ps : List Str} {sp sp' : Sp} (F : FnOk P w K mg base CX k f fd ps sp)
    (h : ∀ vs H Q E, sp' vs H Q E → sp vs H Q E) : FnOk P w K mg base CX k f fd ps sp' :=
  ⟨fun vs H Q E q => F.len vs H Q E (h _ _ _ _ q), fun A outer s H args us vs Q E hr he hb hv hs => F.run A outer s H args us vs Q E hr he hb hv (h _ _ _ _ hs)⟩

theorem Env0.make {P : Program} {w : World} {K : PySem.W.Frag} {mg : Str → Option Value} {base : Heap} {A : Around} {outer : List Env} {s : Shared} {H : Hp} (e : Env0 P w K mg base A outer s H) (C : Addr) (us : List Value) (kw : List (Str × Value)) :
    Env0 P w K mg base (A.under (.builtin "type.__call__" ⟨.ref C :: us, kw⟩)) outer s H := ⟨by first | exact e.frames | (simpa [Around.under, Code.envs, Code.isFrame, pushEnvs] using e.frames), e.mod, e.bs, e.bsz, e.funs, e.frf, e.hok, e.bare⟩
theorem Env0.in1 {P : Program} {w : World} {K : PySem.W.Frag} {mg : Str → Option Value} {base : Heap} {A : Around} {outer : List Env} {s : Shared} {H : Hp} (e : Env0 P w K mg base A outer s H) :
    Env0 P w K mg base A.in1 outer s H := ⟨e.frames, e.mod, e.bs, e.bsz, e.funs, e.frf, e.hok, e.bare⟩

section
variable {X : Cx} {pins : List (Addr × Obj)} {σ : St} {H : Hp} {s s' : Shared}
/-- from a body: what a callee wants -/
theorem Inv.env0 (I : Inv X pins σ H s) : Env0 X.prog X.w X.K X.mg X.base X.A X.stack s H :=
  ⟨I.ok.frames, I.ok.mod, I.bs, Nat.le_trans I.ok.bsz I.sz, I.stack, I.stkFree, I.hok, I.bare⟩
/-- behind a call -/
theorem Inv.after {Q : VK} {u : Value} (I : Inv X pins σ H s) (h : CE X.stack X.prog X.w H s Q u s') : EP X pins σ Q u s' := by
  obtain ⟨v, H', os, bare, un, hok, r, q⟩ := h
  obtain ⟨hh, g, d, t, os'⟩ := s'
  obtain rfl : os' = s.os := os
  exact ⟨v, H', I.call (h' := hh) (g' := g) (d' := d) (t' := t) (ch := []) un hok bare (fun b z => absurd z (by simp)), r, q⟩
end

/-! ### calls -/
/-- f(..): the written arguments, then the defaults dvs; E: what is wanted of an exception -/
def tCall (sp : Sp) (dvs : List V) (E : XK) (t : TA) : TE := fun σ H Q => t σ H fun vs H1 => sp (vs ++ dvs) H1 Q E
/-- o.m(..) of an instance of the class at C -/
def tMeth (C : Addr) (m : Str) (sp : Sp) (dvs : List V) (E : XK) (ta : TE) (t : TA) : TE := fun σ H Q => ta σ H fun x H1 => ∃ a dx fs, x = .ref a ∧ H1 a = some (.ins C dx fs) ∧ fs.lookup m = none ∧
  t σ H1 fun vs H2 => sp (x :: (vs ++ dvs)) H2 Q E
/-- C(..): a new instance and its dict, then __init__ -/
def tMake (C : Addr) (sp : Sp) (dvs : List V) (E : XK) (t : TA) : TE := fun σ H Q => t σ H fun vs H1 => ∀ x dx, H1 x = none → H1 dx = none → dx ≠ x →
  sp (.ref x :: (vs ++ dvs)) (upd (upd H1 dx (.own x)) x (.ins C dx [])) (fun v H2 => v = .non ∧ Q (.ref x) H2) E

/-- how the parameters are bound: us the positional arguments, kw the keywords' values by name, ds the defaults that fill up -/
def Binds (K : PySem.W.Frag) (fd : FuncData) (ps : List Str) (ds : List Value) : Prop :=
  ∀ (s : Shared) (us : List Value), K.In s.heap → (us ++ ds).length = ps.length → BindsTo s fd ⟨us, []⟩ (ps.zip (us ++ ds))
/-- every parameter is given -/
theorem Binds.all {K : PySem.W.Frag} {fd : FuncData} {ps : List Str} (h : ∀ us : List Value, us.length = ps.length → bindArgs fd ⟨us, []⟩ = pure (ps.zip us)) : Binds K fd ps [] := fun s us _ hl => by
  rw [List.append_nil] at hl ⊢
  exact .of_eq (h us hl)

/-- an exception of a callee reaches what this body wants of exceptions -/
def Passes (CX : CXT) (X : Cx) (E : XK) : Prop := ∀ (pins : List (Addr × Obj)) (σ : St) (H : Hp) (s : Shared) (e : Value) (s' : Shared), Inv X pins σ H s → CX X.stack H s E e s' → X.xe e s'

section
variable {X : Cx} {CX : CXT} {k : Nat} {f C : Addr} {fd : FuncData} {ps : List Str} {sp : Sp} {dvs : List V} {ds : List Value} {E : XK} {x m : Str} {p pos apos : Pos} {e o : Expr} {es : List Expr} {ta : TE} {t : TA}

/-- the callee runs -/
theorem run_fn {pins : List (Addr × Obj)} {σ : St} {H : Hp} {s : Shared} {Q : VK} {us : List Value} {vs : List V} (F : FnOk X.prog X.w X.K X.mg X.base CX k f fd ps sp) (hr : Room k X.A) (hb : Binds X.K fd ps ds) (hd : Vals dvs ds) (hx : Passes CX X E)
    (I : Inv X pins σ H s) (r : Vals vs us) (h : sp (vs ++ dvs) H Q E) : wpAny (model X.prog X.w) X.A (call (.ref f) us) (EP X pins σ Q) X.xe s := by
  have r2 : Vals (vs ++ dvs) (us ++ ds) := r.append hd
  have hl : (us ++ ds).length = ps.length := by rw [← r2.length]; exact F.len _ _ _ _ h
  refine wpAny_call (codeAny_mono (F.run X.A X.stack s H ⟨us, []⟩ (us ++ ds) (vs ++ dvs) Q E hr I.env0 (hb s us I.kIn hl) r2 h) fun r s' hq => ?_)
  cases r with
  | error e => exact hx pins σ H s e s' I hq
  | ok fl =>
    cases fl with
    | ret u => exact I.after hq
    | next => exact False.elim hq
    | brk => exact False.elim hq
    | cont => exact False.elim hq

theorem pe_call (F : FnOk X.prog X.w X.K X.mg X.base CX k f fd ps sp) (hr : Room k X.A) (hg : Gl X x) (hm : X.mg x = some (.ref f)) (hk : PySem.W.keepIn X.K (.ref f) = true) (hb : Binds X.K fd ps ds) (hd : Vals dvs ds) (hx : Passes CX X E)
    (ha : PA X (e :: es) t) (hdb : (x == ("__debug__" : Str)) = false := by decide) (he : starEach (e :: es) X.env = (false, eval e X.env) :: starEach es X.env := by rfl) (hpl : (backTo pos (starEach es X.env)).any (·.1) = false := by rfl) :
    PE X (.Call (.Name x p) (e :: es) [] pos) (tCall sp dvs E t) := by
  intro pins s σ H Q I h
  refine wpAny_Call_Name_kw (ld_glob I hg hm ?_ hdb)
  refine PySem.W.callWith_K (h₀ := X.base) I.ok.mod.kin hk (thn (ha pos pins s σ H _ I h) fun us s1 ⟨vs, H1, I1, r, q⟩ => ⟨I1.kIn, ?_⟩) he hpl
  exact run_fn F hr hb hd hx I1 r q
/-- o.m(e, ..) -/
theorem pe_meth {pl : Sem Bool} (he : PE X o ta) (c : Cls X.K C) (hm : Meth X.K C m f) (F : FnOk X.prog X.w X.K X.mg X.base CX k f fd ps sp) (hr : Room k X.A) (hb : Binds X.K fd ps ds) (hd : Vals dvs ds) (hx : Passes CX X E) (ha : PA X (e :: es) t)
    (hst : starEach (e :: es) X.env = (false, eval e X.env) :: starEach es X.env := by rfl) (hpl : (backTo pos (starEach es X.env)).any (·.1) = false := by rfl)
    (ht : eval (.Call (.Attribute o m apos) (e :: es) [] pos) X.env = (do
      let ov ← eval o X.env
      standAt apos.atName
      let (f, first) ← holding [ov] (getMethod ov m pl)
      callWith pos f first (backTo pos (starEach (e :: es) X.env)) (backToKw pos (keywordEach [] X.env))) := by rfl) :
    PE X (.Call (.Attribute o m apos) (e :: es) [] pos) (tMeth C m sp dvs E ta t) := by
  intro pins s σ H Q I h
  refine PySem.W.methodCall_KW (pl := pl) (thn (he pins s σ H _ I h) fun u s1 ⟨x, H1, I1, rx, a, dx, fs, ex, ea, l, q⟩ => ?_) ht
  subst ex
  obtain rfl : u = Value.ref a := rx
  refine getmeth_ok I1 ea c hm l ?_
  refine PySem.W.callWith_K (first := [.ref a]) (h₀ := X.base) I.ok.mod.kin hm.kp (thn (ha pos pins s1 σ H1 _ I1 q) fun us s2 ⟨vs, H2, I2, r, q2⟩ => ⟨I2.kIn, ?_⟩) hst hpl
  exact run_fn (us := .ref a :: us) (vs := .ref a :: vs) F hr hb hd hx I2 (.cons rfl r) q2
/-- o.m() -/
theorem pe_meth0 {pl : Sem Bool} (he : PE X o ta) (c : Cls X.K C) (hm : Meth X.K C m f) (F : FnOk X.prog X.w X.K X.mg X.base CX k f fd ps sp) (hr : Room k X.A) (hb : Binds X.K fd ps ds) (hd : Vals dvs ds) (hx : Passes CX X E)
    (ht : eval (.Call (.Attribute o m apos) [] [] pos) X.env = (do
      let ov ← eval o X.env
      standAt apos.atName
      let (f, first) ← holding [ov] (getMethod ov m pl)
      callWith pos f first (backTo pos (starEach [] X.env)) (backToKw pos (keywordEach [] X.env))) := by rfl) :
    PE X (.Call (.Attribute o m apos) [] [] pos) (tMeth C m sp dvs E ta tNil) := by
  intro pins s σ H Q I h
  refine PySem.W.methodCall_KW (pl := pl) (thn (he pins s σ H _ I h) fun u s1 ⟨x, H1, I1, rx, a, dx, fs, ex, ea, l, q⟩ => ?_) ht
  subst ex
  obtain rfl : u = Value.ref a := rx
  refine getmeth_ok I1 ea c hm l ?_
  exact PySem.W.callWith_K0 (first := [.ref a]) I1.kIn hm.kp (run_fn (us := [.ref a]) (vs := [.ref a]) F hr hb hd hx I1 (.cons rfl .nil) q)

/-- what a class must have to be made -/
structure Mk (K : PySem.W.Frag) (C f : Addr) : Prop where
  makes : PySem.W.makesIn K C = true
  init : PySem.W.findIn K (.ref C) "__init__" = some (some (.ref f))
  fn : PySem.W.isFn K (.ref f) = true
  kp : PySem.W.keepIn K (.ref C) = true

theorem run_make {pins : List (Addr × Obj)} {σ : St} {H : Hp} {s : Shared} {Q : VK} {us : List Value} {vs : List V} (M : Mk X.K C f) (F : FnOk X.prog X.w X.K X.mg X.base CX k f fd ps sp) (hr : Room (k + 1) X.A) (hb : Binds X.K fd ps ds) (hd : Vals dvs ds)
    (hx : Passes CX X E) (I : Inv X pins σ H s) (r : Vals vs us)
    (h : ∀ x dx, H x = none → H dx = none → dx ≠ x → sp (.ref x :: (vs ++ dvs)) (upd (upd H dx (.own x)) x (.ins C dx [])) (fun v H2 => v = .non ∧ Q (.ref x) H2) E) :
    wpAny (model X.prog X.w) X.A (call (.ref C) us) (EP X pins σ Q) X.xe s := by
  have hq := h (s.heap.objs.size + 1) s.heap.objs.size (I.hok.fresh (Nat.le_succ _)) (I.hok.fresh (Nat.le_refl _)) (Nat.ne_of_lt (Nat.lt_succ_self _))
  have I2 := Inv.made (C := C) I
  have r2 : Vals (V.ref (s.heap.objs.size + 1) :: (vs ++ dvs)) (Value.ref (s.heap.objs.size + 1) :: (us ++ ds)) := .cons rfl (r.append hd)
  have hl : (Value.ref (s.heap.objs.size + 1) :: us ++ ds).length = ps.length := by
    have e := r2.length
    rw [F.len _ _ _ _ hq] at e
    exact e.symm
  refine wpAny_call (make_map (f := f) I.kIn M.makes M.init (beq_iff_eq.mp M.fn) (codeAny_mono (F.run _ X.stack _ _ ⟨Value.ref (s.heap.objs.size + 1) :: us, []⟩ (Value.ref (s.heap.objs.size + 1) :: (us ++ ds)) _ _ E (hr.make C us [])
    (I2.env0.make C us []) (hb _ (Value.ref (s.heap.objs.size + 1) :: us) I2.kIn hl) r2 hq) fun r s' hq' => ?_))
  cases r with
  | error e => exact hx pins σ _ _ e s' I2 hq'
  | ok fl =>
    cases fl with
    | ret u =>
      obtain ⟨v, H', I3, rv, ev, q3⟩ := I2.after hq'
      subst ev
      exact ⟨rv, ⟨V.ref (s.heap.objs.size + 1), H', I3, rfl, q3⟩⟩
    | next => exact False.elim hq'
    | brk => exact False.elim hq'
    | cont => exact False.elim hq'
theorem pe_make (M : Mk X.K C f) (F : FnOk X.prog X.w X.K X.mg X.base CX k f fd ps sp) (hr : Room (k + 1) X.A) (hg : Gl X x) (hm : X.mg x = some (.ref C)) (hb : Binds X.K fd ps ds) (hd : Vals dvs ds) (hx : Passes CX X E)
    (ha : PA X (e :: es) t) (hdb : (x == ("__debug__" : Str)) = false := by decide) (he : starEach (e :: es) X.env = (false, eval e X.env) :: starEach es X.env := by rfl) (hpl : (backTo pos (starEach es X.env)).any (·.1) = false := by rfl) :
    PE X (.Call (.Name x p) (e :: es) [] pos) (tMake C sp dvs E t) := by
  intro pins s σ H Q I h
  refine wpAny_Call_Name_kw (ld_glob I hg hm ?_ hdb)
  refine PySem.W.callWith_K (h₀ := X.base) I.ok.mod.kin M.kp (thn (ha pos pins s σ H _ I h) fun us s1 ⟨vs, H1, I1, r, q⟩ => ⟨I1.kIn, ?_⟩) he hpl
  exact run_make M F hr hb hd hx I1 r q
end

/-! ### keywords -/
section
variable {X : Cx} {CX : CXT} {k : Nat} {f C : Addr} {fd : FuncData} {ps ks : List Str} {sp : Sp} {E : XK} {x m : Str} {p pos apos kpos : Pos} {e o : Expr} {es : List Expr} {kws : List Keyword} {te ta : TE} {t tk : TA} {nm : Option Str}
/-- how a call with keywords binds: g puts the positional values us and the keywords' values ws (names ks) in the parameters' order, defaults among them -/
structure KBinds (K : PySem.W.Frag) (fd : FuncData) (ps ks : List Str) (g : List Value → List Value → List Value) (gV : List V → List V → List V) : Prop where
  to : ∀ (s : Shared) (us ws : List Value), K.In s.heap → (g us ws).length = ps.length → BindsTo s fd ⟨us, ks.zip ws⟩ (ps.zip (g us ws))
  rel : ∀ {vs : List V} {us : List Value} {zs : List V} {ws : List Value}, Vals vs us → Vals zs ws → Vals (gV vs zs) (g us ws)
variable {g : List Value → List Value → List Value} {gV : List V → List V → List V}
end

/-! ### a def's body keeps its promise -/
/-- names: the parameters first -/
structure FnScope (N P : List Str) (sc : Scope) : Prop where
  kind : sc.kind = .function
  co : sc.isCoroutine = false
  gen : sc.isGenerator = false
  nd : N.Nodup
  pre : N.take P.length = P
  par : ∀ x ∈ P, sc.names.lookup x = some .local ∨ sc.names.lookup x = some .cell
  nofree : ∀ y ∈ sc.names, y.2 ≠ .free

theorem bindL_out {kindOf : Str → Option NameKind} {x : Str} : ∀ {binds : List (Str × Value)} {m : Str → Option Value}, (∀ v, (x, v) ∉ binds) → bindL kindOf binds m x = m x
  | [], _, _ => rfl
  | (n, v) :: r, m, h => by
    unfold bindL
    rw [bindL_out fun w hw => h w (List.mem_cons_of_mem _ hw)]
    split
    · have : x ≠ n := by rintro rfl; exact h v List.mem_cons_self
      simp [this]
    · rfl
theorem bindC_out {kindOf : Str → Option NameKind} {x : Str} : ∀ {binds : List (Str × Value)} {m : Str → Option Value}, (∀ v, (x, v) ∉ binds) → bindC kindOf binds m x = m x
  | [], _, _ => rfl
  | (n, v) :: r, m, h => by
    unfold bindC
    rw [bindC_out fun w hw => h w (List.mem_cons_of_mem _ hw)]
    split
    · rfl
    · have : x ≠ n := by rintro rfl; exact h v List.mem_cons_self
      simp [this]
theorem bindL_get {kindOf : Str → Option NameKind} {x : Str} {v : Value} : ∀ {P : List Str} {vs : List Value} {i : Nat} {m : Str → Option Value}, P.Nodup → P[i]? = some x → vs[i]? = some v → kindOf x = some .local →
    bindL kindOf (P.zip vs) m x = some v
  | [], _, _, _, _, h, _, _ => by simp at h
  | _ :: _, [], _, _, _, _, h, _ => by simp at h
  | p :: P, w :: vs, 0, m, nd, h1, h2, hk => by
    simp at h1 h2; subst h1; subst h2
    show bindL kindOf ((p, w) :: P.zip vs) m p = _
    unfold bindL
    rw [bindL_out fun v hv => (List.nodup_cons.mp nd).1 (List.of_mem_zip hv).1, if_pos hk]
    simp
  | p :: P, w :: vs, i + 1, m, nd, h1, h2, hk => by
    show bindL kindOf ((p, w) :: P.zip vs) m x = _
    unfold bindL
    exact bindL_get (i := i) (List.nodup_cons.mp nd).2 (by simpa using h1) (by simpa using h2) hk
theorem bindC_get {kindOf : Str → Option NameKind} {x : Str} {v : Value} : ∀ {P : List Str} {vs : List Value} {i : Nat} {m : Str → Option Value}, P.Nodup → P[i]? = some x → vs[i]? = some v → kindOf x ≠ some .local →
    bindC kindOf (P.zip vs) m x = some v
  | [], _, _, _, _, h, _, _ => by simp at h
  | _ :: _, [], _, _, _, _, h, _ => by simp at h
  | p :: P, w :: vs, 0, m, nd, h1, h2, hk => by
    simp at h1 h2; subst h1; subst h2
    show bindC kindOf ((p, w) :: P.zip vs) m p = _
    unfold bindC
    rw [bindC_out fun v hv => (List.nodup_cons.mp nd).1 (List.of_mem_zip hv).1, if_neg hk]
    simp
  | p :: P, w :: vs, i + 1, m, nd, h1, h2, hk => by
    show bindC kindOf ((p, w) :: P.zip vs) m x = _
    unfold bindC
    exact bindC_get (i := i) (List.nodup_cons.mp nd).2 (by simpa using h1) (by simpa using h2) hk

/-- the names' values at the entry -/
def start (N : List Str) (vs : List V) : St := vs.map some ++ List.replicate (N.length - vs.length) none

/-- the context of a def's body, at its entry; an exception leaves the frame, then lies as CX says -/
def cxOf (CX : CXT) (P : Program) (w : World) (K : PySem.W.Frag) (mg : Str → Option Value) (base : Heap) (N : List Str) (qual : Str) (scope : Scope) (f : Addr) (cd : Value) (A : Around) (outer : List Env) (s : Shared) (H : Hp) (E : XK) : Cx where
  prog := P
  w := w
  K := K
  mg := mg
  base := base
  A := A.deeper (envOfC qual scope s.heap.objs.size f cd)
  N := N
  s₀ := s
  H₀ := H
  env := envOfC qual scope s.heap.objs.size f cd
  outer := outer
  stack := envOfC qual scope s.heap.objs.size f cd :: outer
  ex := []
  calm := true
  fn := fun _ => true
  pn := []
  xe := fun e s' => wpAny (model P w) (A.deeper (envOfC qual scope s.heap.objs.size f cd)) (leaving (envOfC qual scope s.heap.objs.size f cd) e) (fun _ s'' => CX outer H s E e s'') (fun e' s'' => CX outer H s E e' s'') s'

theorem cell_has {sc : Scope} {n : Nat} {x : Str} (h : sc.names.lookup x = some .cell) : ∃ c, (cellsFrom n sc.names []).lookup x = some c := by
  have q := PySem.W.cellsFrom_some sc.names n [] (.inl h)
  exact Option.isSome_iff_exists.mp q

theorem inv_start {CX : CXT} {P : Program} {w : World} {K : PySem.W.Frag} {mg : Str → Option Value} {base : Heap} {N ps : List Str} {qual : Str} {scope : Scope} {f : Addr} {cd : Value} {A : Around} {outer : List Env} {s s1 : Shared} {H : Hp} {E : XK} {us : List Value} {vs : List V}
    (S : FnScope N ps scope) (hd : A.handled = none) (e0 : Env0 P w K mg base A outer s H) (hl : vs.length = ps.length) (r : Vals vs us)
    (x : InCallC s s.heap.objs.size (bindL (envOfC qual scope s.heap.objs.size f cd).kindOf (ps.zip us) fun _ => none) (cellsFrom (s.heap.objs.size + 1) scope.names []) (bindC (envOfC qual scope s.heap.objs.size f cd).kindOf (ps.zip us) fun _ => none) s1) :
    Inv (cxOf CX P w K mg base N qual scope f cd A outer s H E) [] (start N vs) H s1 := by
  have hpl : ps.length ≤ N.length := by have := congrArg List.length S.pre; rw [List.length_take] at this; omega
  obtain ⟨h1, tk, rfl, hk⟩ := x.done
  have noA : ∀ b : Addr, b ∉ (cxOf CX P w K mg base N qual scope f cd A outer s H E).ex := fun b z => absurd (show b ∈ ([] : List Addr) from z) (by simp)
  refine ⟨⟨e0.mod, S.kind, rfl, rfl, Nat.le_refl _, fun y z c h1 h2 => ?_, fun y hy => ?_, fun y c _ h => ?_, fun _ => hd, Around.frames_deeper e0.frames, .inr ⟨rfl, rfl⟩, fun b z => absurd z (noA b), e0.bs, e0.bsz, fun b _ _ => noA b, fun b z => absurd z (noA b), e0.funs, e0.frf⟩,
    rfl, e0.bare, Un.kept hk, ⟨_, x.toInCall.ns, fun i y v h1 h2 h3 => ?_⟩, fun y c h => ⟨_, x.cell y c h⟩, e0.hok.fresh (Nat.le_refl _), fun y c h => ?_, fun p hp => absurd (show p ∈ ([] : List (Addr × Obj)) from hp) (by simp), e0.hok.kept hk, ?_⟩
  · exact name_of_addr x.apart (PySem.mem_of_lookup h1) (PySem.mem_of_lookup h2)
  · have hy : scope.names.lookup y = some .cell ∨ scope.names.lookup y = some .free := hy
    rcases hy with hy | hy
    · exact cell_has hy
    · exact absurd rfl (S.nofree _ (PySem.mem_of_lookup hy))
  · exact Nat.le_of_lt (x.above y c (PySem.mem_of_lookup h))
  · have hi : i < vs.length := by
      unfold start at h2
      by_cases hi : i < vs.length
      · exact hi
      · rw [List.getElem?_append_right (by simpa using hi)] at h2
        rw [List.getElem?_replicate] at h2
        split at h2 <;> cases h2
    have ha : vs[i]? = some v := by
      unfold start at h2
      rw [List.getElem?_append_left (by simpa using hi), List.getElem?_map] at h2
      cases e : vs[i]? with
      | none => rw [e] at h2; cases h2
      | some a => rw [e] at h2; cases h2; rfl
    obtain ⟨u, hu, rv⟩ := r.get ha
    have hp : ps[i]? = some y := by
      rw [← S.pre, List.getElem?_take_of_lt (by omega)]; exact h1
    have ndP : ps.Nodup := by rw [← S.pre]; exact S.nd.sublist (List.take_sublist _ _)
    refine ⟨u, rv, ?_⟩
    rcases S.par y (List.mem_of_getElem? hp) with k | k
    · exact .inl ⟨k, bindL_get ndP hp hu k⟩
    · obtain ⟨c, e⟩ := cell_has (n := s.heap.objs.size + 1) k
      refine .inr ⟨.inl k, c, e, ?_⟩
      have q := x.cell y c e
      rw [bindC_get ndP hp hu (by show scope.names.lookup y ≠ _; rw [k]; decide)] at q
      exact q
  · exact e0.hok.fresh (Nat.le_of_lt (x.above y c (PySem.mem_of_lookup h)))
  · unfold start
    show _ = N.length
    rw [List.length_append, List.length_map, List.length_replicate]
    omega

/-- THE RULE: a def (or a method) of the text, by its body. The body's reading t is chosen for each entry; it is run at the parameters' values -/
theorem fn_of {CX : CXT} {P : Program} {w : World} {K : PySem.W.Frag} {mg : Str → Option Value} {base : Heap} {k : Nat} {f : Addr} {name qual : Str} {params : Arguments} {body : List Stmt} {scope : Scope} {dV kV doc pm cdv ct oc : Value} {an od : Option Addr}
    {osl : Array (Option Value)} {N ps : List Str} {sp : Sp} (lk : K.lookup f = some ⟨oc, od, .func (PySem.W.fnOf name qual params body scope dV kV doc pm an cdv ct), osl⟩) (hcd : PySem.W.codeIn K cdv qual = true) (S : FnScope N ps scope)
    (len : ∀ vs H Q E, sp vs H Q E → vs.length = ps.length)
    (hbody : ∀ (A : Around) (outer : List Env) (s : Shared) (H : Hp) (vs : List V) (Q : VK) (E : XK), Room k (A.deeper (envOfC qual scope s.heap.objs.size f cdv)) → sp vs H Q E →
      ∃ t, PSs (cxOf CX P w K mg base N qual scope f cdv A outer s H E) body t ∧ t { nx := fun _ H' => Q .non H', rt := Q } (start N vs) H) :
    FnOk P w K mg base CX (k + 1) f (PySem.W.fnOf name qual params body scope dV kV doc pm an cdv ct) ps sp := by
  refine ⟨len, fun A outer s H args us vs Q E hr e0 hb r hsp => ?_⟩
  have hl := len _ _ _ _ hsp
  have KX : K.In s.heap := e0.mod.kin.keeps fun b o e => (e0.bs b o e).1
  have lim : s.heap.NoLimit := e0.mod.nolimit.keeps fun b o e => (e0.bs b o e).1
  have hkind : ∀ y ∈ ps.zip us, scope.names.lookup y.1 = some .local ∨ (scope.names.lookup y.1 = some .cell ∧ ((cellsFrom (s.heap.objs.size + 1) scope.names []).lookup y.1).isSome = true) := fun ⟨n, v⟩ hy => by
    rcases S.par n (List.of_mem_zip hy).1 with q | q
    · exact .inl q
    · exact .inr ⟨q, PySem.W.cellsFrom_some _ _ _ (.inl q)⟩
  refine codeAny_call_function hr.depth (KX _ _ lk) rfl S.co S.gen rfl (PySem.W.codeRec_of KX hcd) (hb _ _ _ _ ?_)
  refine wpAny_newFunctionEnv_cells S.kind hkind fun env he s1 x => ?_
  subst he
  refine ⟨lim.keeps x.toInCall.keep, codeAny_func ?_⟩
  obtain ⟨t, ht, hq⟩ := hbody A outer s H vs Q E (hr.deeper _) hsp
  have I : Inv (cxOf CX P w K mg base N qual scope f cdv A outer s H E) [] (start N vs) H s1 := inv_start S hr.hd e0 hl r x
  refine wpAny_mono (ht [] s1 (start N vs) H _ I hq) (fun fl s' hs => ?_) fun e s' hs => hs
  have fin : ∀ {σ' : St} {H' : Hp} {v : V} {u : Value}, Inv (cxOf CX P w K mg base N qual scope f cdv A outer s H E) [] σ' H' s' → RelV v u → Q v H' → CE outer P w H s Q u s' :=
    fun {σ' H' v u} J rv q => ⟨v, H', J.os, J.bare, J.base, J.hok, rv, q⟩
  cases fl with
  | ret u =>
    obtain ⟨v, σ', H', J, rv, q⟩ := hs
    exact fin J rv q
  | next =>
    obtain ⟨σ', H', J, q⟩ := hs
    exact fin (v := V.non) (u := Value.none) J rfl q
  | brk =>
    obtain ⟨_, _, _, q⟩ := hs
    exact False.elim q
  | cont =>
    obtain ⟨_, _, _, q⟩ := hs
    exact False.elim q
end L2

namespace L2
open PySem PySem.Spec PyProof.Rows
section
variable {X : Cx} {x : Str} {p pos : Pos} {e : Expr} {es : List Expr} {t : TA} {id T : String} {r : List V → Hp → VK → Prop}

def tCB (r : List V → Hp → VK → Prop) (t : TA) : TE := fun σ H Q => t σ H fun vs H1 => r vs H1 Q
/-- f(e, ..), f a built-in function -/
theorem pe_callB (hc : CallR X (.builtin id) r) (hg : Gl X x) (hm : X.mg x = none) (hv : bootBuiltins x = some (.builtin id)) (ha : PA X (e :: es) t) (hn : x ≠ "__name__" := by decide) (hdb : (x == ("__debug__" : Str)) = false := by decide)
    (he : starEach (e :: es) X.env = (false, eval e X.env) :: starEach es X.env := by rfl) (hpl : (backTo pos (starEach es X.env)).any (·.1) = false := by rfl) : PE X (.Call (.Name x p) (e :: es) [] pos) (tCB r t) := by
  intro pins s σ H Q I h
  refine wpAny_Call_Name_kw (ld_blt I hg hm hv ?_ hn hdb)
  exact PyProof.Rows.callWith_builtin1 (thn (ha pos pins s σ H _ I h) fun us s1 ⟨vs, H1, I1, r1, q1⟩ => hc pins s1 σ H1 vs us Q I1 r1 q1) he hpl
/-- T(e, ..), T a built-in type -/
theorem pe_callTy (hc : CallR X (.type T) r) (hg : Gl X x) (hm : X.mg x = none) (hv : bootBuiltins x = some (.type T)) (ha : PA X (e :: es) t) (hn : x ≠ "__name__" := by decide) (hdb : (x == ("__debug__" : Str)) = false := by decide)
    (he : starEach (e :: es) X.env = (false, eval e X.env) :: starEach es X.env := by rfl) (hpl : (backTo pos (starEach es X.env)).any (·.1) = false := by rfl) : PE X (.Call (.Name x p) (e :: es) [] pos) (tCB r t) := by
  intro pins s σ H Q I h
  refine wpAny_Call_Name_kw (ld_blt I hg hm hv ?_ hn hdb)
  exact PyProof.Rows.callWith_type1 (thn (ha pos pins s σ H _ I h) fun us s1 ⟨vs, H1, I1, r1, q1⟩ => hc pins s1 σ H1 vs us Q I1 r1 q1) he hpl
end
end L2

namespace HT
open PySem PyProof.Rows

section
open PySem.SeqAt
open PySem.AutoSeq1 (wpAny_loadPart')
open PySem.MeetsSeq PySem.MeetsSeq2 PySem.MeetsSeq3

end

section
variable {prog : Program} {w : World} {A : Around} {E : Value → Shared → Prop} {s : Shared}

/-! ### t[a:b], not the whole -/
/-- a slice's bound as a place among n (d where it is left out) -/
def sIx (n d : Nat) : Option Int → Nat
  | none => d
  | some v => if v < 0 then (v + (n : Int)).toNat else min v.toNat n
theorem sIx_none (n d : Nat) : sIx n d none = d := rfl
theorem sIx_nat (n d k : Nat) : sIx n d (some (k : Int)) = min k n := by
  show (if (k : Int) < 0 then ((k : Int) + (n : Int)).toNat else min (k : Int).toNat n) = min k n
  rw [if_neg (by omega), Int.toNat_natCast]
theorem sIx_le (n d : Nat) (hd : d ≤ n) (o : Option Int) : sIx n d o ≤ n := by
  cases o with
  | none => exact hd
  | some v =>
    show (if v < 0 then (v + (n : Int)).toNat else min v.toNat n) ≤ n
    by_cases hv : v < 0
    · rw [if_pos hv]; omega
    · rw [if_neg hv]; exact Nat.min_le_right _ _
end
end HT

namespace L2
open PySem PySem.Spec PyProof.Rows

/-! ### the parts of a slice -/
abbrev TO := St → Hp → (Option Int → Hp → Prop) → Prop
/-- a slice's part (left out, or an int) -/
def PO (X : Cx) (e : Option Expr) (t : TO) : Prop :=
  ∀ (pins : List (Addr × Obj)) (s : Shared) (σ : St) (H : Hp) (Q : Option Int → Hp → Prop), Inv X pins σ H s → t σ H Q →
    wpAny (model X.prog X.w) X.A (evalPart e X.env) (fun u s' => ∃ o H', Inv X pins σ H' s' ∧ IsPart u o ∧ Q o H') X.xe s
def tNoPart : TO := fun _ H Q => Q none H
def tPart (t : TE) : TO := fun σ H Q => t σ H fun x H1 => ∃ i, x = .int i ∧ Q (some i) H1

section
variable {X : Cx} {e : Expr} {te : TE} {lo hi : Option Expr} {tl th : TO} {pos p2 : Pos}

theorem po_none : PO X none tNoPart := by
  intro pins s σ H Q I h
  rw [evalPart_none]
  exact wpAny_pure ⟨none, H, I, .none, h⟩
theorem po_some (h : PE X e te) : PO X (some e) (tPart te) := by
  intro pins s σ H Q I hw
  rw [evalPart_some]
  refine thn (h pins s σ H _ I hw) fun u s1 ⟨x, H1, I1, r1, q1⟩ => ?_
  obtain ⟨i, rfl, q⟩ := q1
  obtain ⟨t, rfl⟩ := r1
  exact ⟨some i, H1, I1, .int i t, q⟩

/-- what a slice of a value is, by values: the slice object stands at sl -/
def SlR (X : Cx) (r : V → Option Int → Option Int → Hp → VK → Prop) : Prop :=
  ∀ (pins : List (Addr × Obj)) (s : Shared) (σ : St) (H : Hp) (x : V) (v vl vu : Value) (lo hi : Option Int) (sl : Addr) (Q : VK), Inv X pins σ H s → RelV x v → s.heap.IsSliceOf sl vl vu .none → IsPart vl lo → IsPart vu hi → r x lo hi H Q →
    ∃ T id, typeLookup (.type T) "__getitem__" = pure (some (.builtin id)) ∧ s.TypeIs v T ∧ wpAny (model X.prog X.w) X.A (getItem v (.ref sl)) (EP X pins σ Q) X.xe s
theorem SlR.or {r r' : V → Option Int → Option Int → Hp → VK → Prop} (h : SlR X r) (h' : SlR X r') : SlR X (fun x lo hi H Q => r x lo hi H Q ∨ r' x lo hi H Q) := by
  intro pins s σ H x v vl vu lo hi sl Q I rx hs pl pu q
  rcases q with q | q
  · exact h pins s σ H x v vl vu lo hi sl Q I rx hs pl pu q
  · exact h' pins s σ H x v vl vu lo hi sl Q I rx hs pl pu q
def tSl (r : V → Option Int → Option Int → Hp → VK → Prop) (te : TE) (tl th : TO) : TE := fun σ H Q => te σ H fun x H1 => tl σ H1 fun l H2 => th σ H2 fun u H3 => r x l u H3 Q
/-- a[lo:hi], any a -/
theorem pe_slice {r : V → Option Int → Option Int → Hp → VK → Prop} (hr : SlR X r) (he : PE X e te) (hl : PO X lo tl) (hu : PO X hi th) : PE X (.Subscript e (.Slice lo hi none p2) pos) (tSl r te tl th) := by
  intro pins s σ H Q I h
  refine Subscript_ (thn (he pins s σ H _ I h) fun v s1 ⟨x, H1, I1, r1, q1⟩ => ?_)
  refine wpAny_Slice (thn (hl pins s1 σ H1 _ I1 q1) fun vl s2 ⟨l, H2, I2, pl, q2⟩ => thn (hu pins s2 σ H2 _ I2 q2) fun vu s3 ⟨u, H3, I3, pu, q3⟩ => ?_)
  rw [evalPart_none]
  refine wpAny_pure ?_
  have I4 : Inv X pins σ H3 { s3 with heap := s3.heap.push { cls := .type "slice", data := .fields #[vl, vu, .none] } } := I3.kept (t' := s3.toks) fun b ob q => Heap.get?_push_of_some _ q
  obtain ⟨T, id, hT, ht, hg⟩ := hr pins { s3 with heap := s3.heap.push { cls := .type "slice", data := .fields #[vl, vu, .none] } } σ H3 x v vl vu l u s3.heap.objs.size Q I4 r1 (Heap.IsSliceOf.new ..) pl pu q3
  show wpAny (model X.prog X.w) X.A (subscriptTail e (.Slice lo hi none p2) v (.ref s3.heap.objs.size)) (EP X pins σ Q) X.xe { s3 with heap := s3.heap.push { cls := .type "slice", data := .fields #[vl, vu, .none] } }
  exact tail_any (ops := [.ref s3.heap.objs.size, v]) ht hT hg (by with_unfolding_all rfl)

/-- the items of xs[lo:hi] -/
def cutV (xs : List V) (lo hi : Option Int) : List V := (xs.drop (HT.sIx xs.length 0 lo)).take (HT.sIx xs.length xs.length hi - HT.sIx xs.length 0 lo)
theorem cutV_length (xs : List V) (lo hi : Option Int) : (cutV xs lo hi).length ≤ xs.length := by
  unfold cutV
  rw [List.length_take, List.length_drop]
  omega
/-! ### t < u, t + u -/
end
end L2

namespace L2
open PySem PySem.Spec PyProof.Rows

/-! ### places -/
/-- the place that an index of any sign means -/
def ixN (n : Nat) (i : Int) : Option Nat := if 0 ≤ i then (if i < n then some i.toNat else none) else if -(n : Int) ≤ i then some (i + n).toNat else none
def atI {α : Type} (xs : List α) (i : Int) : Option α := (ixN xs.length i).bind fun j => xs[j]?
theorem ixN_seq {n : Nat} {i : Int} {j : Nat} (h : ixN n i = some j) : seqIndex? i n = some j ∧ j < n ∧ -(n : Int) ≤ i ∧ i < n := by
  unfold ixN at h
  by_cases h0 : 0 ≤ i
  · rw [if_pos h0] at h
    by_cases h1 : i < n
    · rw [if_pos h1] at h
      have e : i.toNat = j := Option.some.inj h
      exact ⟨by rw [seqIndex_of h0 h1, e], by omega, by omega, h1⟩
    · rw [if_neg h1] at h; cases h
  · rw [if_neg h0] at h
    by_cases h1 : -(n : Int) ≤ i
    · rw [if_pos h1] at h
      have e : (i + n).toNat = j := Option.some.inj h
      exact ⟨by rw [seqIndex_neg (by omega) h1, e], by omega, h1, by omega⟩
    · rw [if_neg h1] at h; cases h
theorem atI_get {α : Type} {xs : List α} {i : Int} {v : α} (h : atI xs i = some v) : ∃ j, seqIndex? i xs.length = some j ∧ xs[j]? = some v ∧ j < xs.length ∧ -(xs.length : Int) ≤ i ∧ i < xs.length := by
  unfold atI at h
  cases e : ixN xs.length i with
  | none => rw [e] at h; cases h
  | some j =>
    rw [e] at h
    obtain ⟨h1, h2, h3, h4⟩ := ixN_seq e
    exact ⟨j, h1, h, h2, h3, h4⟩
theorem atI_nat {α : Type} {xs : List α} {j : Nat} {v : α} (h : xs[j]? = some v) : atI xs (j : Int) = some v := by
  have hj : j < xs.length := (List.getElem?_eq_some_iff.mp h).1
  have e : ixN xs.length (j : Int) = some j := by
    unfold ixN
    rw [if_pos (by omega), if_pos (by omega)]; simp
  unfold atI; rw [e]; exact h
theorem atI_last {α : Type} (xs : List α) (v : α) : atI (xs ++ [v]) (-1) = some v := by
  have hl : (xs ++ [v]).length = xs.length + 1 := by simp
  have e : ixN (xs ++ [v]).length (-1) = some xs.length := by
    unfold ixN
    rw [hl, if_neg (by decide), if_pos (by omega)]
    congr 1
    omega
  unfold atI
  rw [e]
  show (xs ++ [v])[xs.length]? = some v
  simp

/-! ### what may be subscripted -/
/-- what stands as an index of a plain subscript -/
def PlainIx (b : Expr) : Prop := ∀ o i, subscripted b false o i = operate [o, i] (getItem o i)
/-- a subscript by values -/
def IxR (X : Cx) (r : R2) : Prop :=
  ∀ (value slice : Expr) (pins : List (Addr × Obj)) (s : Shared) (σ : St) (H : Hp) (x y : V) (v u : Value) (Q : VK), Inv X pins σ H s → RelV x v → RelV y u → r x y H Q →
    subscripted slice false v u = operate [v, u] (getItem v u) → wpAny (model X.prog X.w) X.A (subscriptTail value slice v u) (EP X pins σ Q) X.xe s
/-- a call of a builtin's method by values: the receiver, the arguments -/
def MtR (X : Cx) (id : String) (r : V → List V → Hp → VK → Prop) : Prop :=
  ∀ (pins : List (Addr × Obj)) (s : Shared) (σ : St) (H : Hp) (x : V) (xs : List V) (v : Value) (us : List Value) (Q : VK), Inv X pins σ H s → RelV x v → Vals xs us → r x xs H Q →
    wpAny (model X.prog X.w) X.A (call (.builtin id) (v :: us)) (EP X pins σ Q) X.xe s
section
variable {X : Cx} {a b : Expr} {ta tb : TE} {pos : Pos}
theorem IxR.or {r r' : R2} (h : IxR X r) (h' : IxR X r') : IxR X (fun x y H Q => r x y H Q ∨ r' x y H Q) := by
  intro value slice pins s σ H x y v u Q I rx ry q hs
  rcases q with q | q
  · exact h value slice pins s σ H x y v u Q I rx ry q hs
  · exact h' value slice pins s σ H x y v u Q I rx ry q hs
theorem MtR.or {id : String} {r r' : V → List V → Hp → VK → Prop} (h : MtR X id r) (h' : MtR X id r') : MtR X id (fun x xs H Q => r x xs H Q ∨ r' x xs H Q) := by
  intro pins s σ H x xs v us Q I rx rs q
  rcases q with q | q
  · exact h pins s σ H x xs v us Q I rx rs q
  · exact h' pins s σ H x xs v us Q I rx rs q
/-- a[b] -/
theorem pe_ix {r : R2} (hr : IxR X r) (ha : PE X a ta) (hb : PE X b tb) (hs : PlainIx b) : PE X (.Subscript a b pos) (tOp r ta tb) := by
  intro pins s σ H Q I h
  exact Subscript_ (binT ha hb I h fun v u s2 x y H2 I2 rx ry q => hr a b pins s2 σ H2 x y v u Q I2 rx ry q (hs _ _))

def rIxL (K : PySem.W.Frag) : R2 := fun x y H Q => ∃ p xs i v, x = .ref p ∧ y = .int i ∧ SqL K H p xs ∧ atI xs i = some v ∧ Q v H
def rIxT (K : PySem.W.Frag) : R2 := fun x y H Q => ∃ p xs i v, x = .ref p ∧ y = .int i ∧ SqT K H p xs ∧ atI xs i = some v ∧ Q v H
def rIxS : R2 := fun x y H Q => ∃ z i c, x = .str z ∧ y = .int i ∧ z.length ≤ sizeLine ∧ atI z.cps.toList i = some c ∧ Q (.str ⟨#[c]⟩) H
theorem ix_list : IxR X (rIxL X.K) := by
  intro value slice pins s σ H x y v u Q I rx ry h hs
  obtain ⟨p, xs, i, z, rfl, rfl, hq, he, q⟩ := h
  cases rx
  obtain ⟨t, rfl⟩ := ry
  obtain ⟨its, r, pl, hz⟩ := I.list hq
  obtain ⟨j, h1, h2, h3, h4, h5⟩ := atI_get he
  obtain ⟨w, ew, rw'⟩ := r.get h2
  have hl := r.length
  have hn := line63
  have fin : EP X pins σ Q w s := ⟨z, H, I, rw', q⟩
  by_cases h0 : 0 ≤ i
  · have hj : i.toNat = j := by
      rw [seqIndex_of h0 h5] at h1
      exact Option.some.inj h1
    exact item_listR pl.isList h0 (by omega) (by rw [hj]; simpa using ew) fin hs
  · have hj : (i + (its.toArray.size : Int)).toNat = j := by
      rw [seqIndex_neg (by omega) h4] at h1
      rw [List.size_toArray, ← hl]
      exact Option.some.inj h1
    exact subscriptTail_builtinR (x := w) pl.isList.typeIs slot_list_getitem.lookup
      (wpAny_getItem_list_neg (Q := fun r s' => r = w ∧ EP X pins σ Q r s') pl.isList (by omega) (by rw [List.size_toArray] <;> omega) (by omega) (by rw [hj]; simpa using ew) ⟨rfl, fin⟩) hs
theorem ix_tup : IxR X (rIxT X.K) := by
  intro value slice pins s σ H x y v u Q I rx ry h hs
  obtain ⟨p, xs, i, z, rfl, rfl, hq, he, q⟩ := h
  cases rx
  obtain ⟨t, rfl⟩ := ry
  obtain ⟨its, r, pl, hz⟩ := I.tuple hq
  obtain ⟨j, h1, h2, h3, h4, h5⟩ := atI_get he
  obtain ⟨w, ew, rw'⟩ := r.get h2
  have hl := r.length
  have hn := line63
  have fin : EP X pins σ Q w s := ⟨z, H, I, rw', q⟩
  exact subscriptTail_builtinR (x := w) pl.typeIs slot_tuple_getitem.lookup
    (getItem_tuple (j := j) (Q := fun r s' => r = w ∧ EP X pins σ Q r s') pl (by omega) (by omega) (by rw [List.size_toArray, ← hl]; exact h1) (by simpa using ew) ⟨rfl, fin⟩) hs
theorem ix_str : IxR X rIxS := by
  intro value slice pins s σ H x y v u Q I rx ry h hs
  obtain ⟨z, i, c, rfl, rfl, hz, he, q⟩ := h
  obtain ⟨t, rfl⟩ := rx
  obtain ⟨t', rfl⟩ := ry
  obtain ⟨j, h1, h2, h3, h4, h5⟩ := atI_get he
  have hl : z.cps.toList.length = z.length := by simp [Str.length]
  rw [hl] at h1 h4 h5
  have hn := line63
  exact tail_any (typeIs_str s z t) slot_str_getitem.lookup (getItem_str (c := c) (by
    have e1 : decide (i < -(2 ^ 63 : Int)) = false := decide_eq_false (by omega)
    have e2 : decide (i ≥ 2 ^ 63) = false := decide_eq_false (by omega)
    rw [e1, e2, Bool.or_false]) (by rw [h1]; simpa using h2) ⟨.str ⟨#[c]⟩, H, I.tok _, ⟨_, rfl⟩, q⟩) hs
/-! ### xs[i] = v, any sign -/
theorem Inv.lst {pins : List (Addr × Obj)} {σ : St} {H : Hp} {s : Shared} {p : Addr} {xs : List V} (I : Inv X pins σ H s) (h : H p = some (.lst xs)) :
    ∃ (its : List Value) (n : Nat), Vals xs its ∧ s.heap.get? p = some { cls := .type "list", data := .seq its.toArray n } ∧ xs.length ≤ sizeLine := by
  obtain ⟨z, its, n, r, e⟩ := I.hok p _ h
  exact ⟨its, n, r, e, z⟩
/-! ### slices -/
theorem slice_bounds (lo hi : Option Int) (n : Nat) : (sliceBounds lo hi none n).1 = ((HT.sIx n 0 lo : Nat) : Int) ∧ (sliceBounds lo hi none n).2.1 = ((HT.sIx n n hi : Nat) : Int) ∧ (sliceBounds lo hi none n).2.2 = 1 := by
  refine ⟨?_, ?_, rfl⟩
  · cases lo with
    | none => simp [sliceBounds, HT.sIx]
    | some i =>
      simp only [sliceBounds, HT.sIx, Option.getD_none, show (1 : Int) > 0 by decide, if_true]
      by_cases h : i < 0
      · simp only [h, if_true] <;> omega
      · simp only [h, if_false] <;> omega
  · cases hi with
    | none => simp [sliceBounds, HT.sIx]
    | some i =>
      simp only [sliceBounds, HT.sIx, Option.getD_none, show (1 : Int) > 0 by decide, if_true]
      by_cases h : i < 0
      · simp only [h, if_true] <;> omega
      · simp only [h, if_false] <;> omega
theorem slicePick_cut (its : List Value) (lo hi : Option Int) : slicePick its.toArray lo hi none = ((its.drop (HT.sIx its.length 0 lo)).take (HT.sIx its.length its.length hi - HT.sIx its.length 0 lo)).toArray := by
  obtain ⟨h1, h2, h3⟩ := slice_bounds lo hi its.toArray.size
  unfold slicePick
  rw [h1, h2, h3]
  simp only [sliceRange_one, pick_run, List.size_toArray] <;> rfl
/-- xs[lo:hi] of a list: a new list -/
def rSlL (K : PySem.W.Frag) : V → Option Int → Option Int → Hp → VK → Prop := fun x lo hi H Q => ∃ a xs, x = .ref a ∧ SqL K H a xs ∧ ∀ p, H p = none → Q (.ref p) (upd H p (.lst (cutV xs lo hi)))
theorem sl_list : SlR X (rSlL X.K) := by
  intro pins s σ H x v vl vu lo hi sl Q I rx hs pl pu h
  obtain ⟨a, xs, rfl, hx, q⟩ := h
  cases rx
  obtain ⟨its, r, ht, hz⟩ := I.list hx
  have hlen := r.length
  refine ⟨"list", _, slot_list_getitem.lookup, ht.isList.typeIs, ?_⟩
  refine wpAny_getItem_list_slice ht.isList hs pl pu .none (by simp) ?_ (by rw [List.size_toArray] <;> omega)
  rw [slicePick_cut, ← hlen]
  refine ⟨.ref s.heap.objs.size, _, I.laid (t' := s.toks) (o := .lst (cutV xs lo hi)) (fun b ob q => Heap.get?_push_of_some _ q) (Nat.le_refl _) ?_, rfl, q _ (I.hok.fresh (Nat.le_refl _))⟩
  exact ⟨Nat.le_trans (cutV_length xs lo hi) hz, _, 0, (r.drop (HT.sIx xs.length 0 lo)).take (HT.sIx xs.length xs.length hi - HT.sIx xs.length 0 lo), Heap.get?_push_size _ rfl⟩

/-! ### in, not in: flat items -/
def flatV : V → Bool
  | .non => true
  | .bl _ => true
  | .int _ => true
  | .str _ => true
  | _ => false
/-- == of flat values -/
def eqV : V → V → Bool
  | .non, .non => true
  | .bl a, .bl b => a == b
  | .bl a, .int b => (if a then 1 else 0) == b
  | .int a, .bl b => a == (if b then 1 else 0)
  | .int a, .int b => a == b
  | .str a, .str b => a == b
  | _, _ => false
theorem eqAt_V {A : Around} {s : Shared} {y x : V} {u v : Value} (ry : RelV y u) (rx : RelV x v) (fy : flatV y = true) (fx : flatV x = true) : SeqAt.EqAt A s u v (eqV y x) := by
  cases y with
  | non =>
    cases ry
    cases x with
    | non => cases rx; exact SeqAt.EqAt.same _
    | bl b => cases rx; exact SeqAt.EqAt.none_bool b
    | int b => obtain ⟨t, rfl⟩ := rx; exact SeqAt.EqAt.none_int b t
    | str b => obtain ⟨t, rfl⟩ := rx; exact SeqAt.EqAt.none_str b t
    | _ => exact absurd (show false = true from fx) Bool.false_ne_true
  | bl a =>
    cases ry
    cases x with
    | non => cases rx; exact SeqAt.EqAt.bool_none a
    | bl b => cases rx; exact SeqAt.EqAt.bool_bool a b
    | int b => obtain ⟨t, rfl⟩ := rx; exact SeqAt.EqAt.bool_int a b t
    | str b => obtain ⟨t, rfl⟩ := rx; exact SeqAt.EqAt.bool_str a b t
    | _ => exact absurd (show false = true from fx) Bool.false_ne_true
  | int a =>
    obtain ⟨t', rfl⟩ := ry
    cases x with
    | non => cases rx; exact SeqAt.EqAt.int_none a t'
    | bl b => cases rx; exact SeqAt.EqAt.int_bool a t' b
    | int b => obtain ⟨t, rfl⟩ := rx; exact SeqAt.EqAt.int_int a t' b t
    | str b => obtain ⟨t, rfl⟩ := rx; exact SeqAt.EqAt.int_str a t' b t
    | _ => exact absurd (show false = true from fx) Bool.false_ne_true
  | str a =>
    obtain ⟨t', rfl⟩ := ry
    cases x with
    | non => cases rx; exact SeqAt.EqAt.str_none a t'
    | bl b => cases rx; exact SeqAt.EqAt.str_bool a t' b
    | int b => obtain ⟨t, rfl⟩ := rx; exact SeqAt.EqAt.str_int a t' b t
    | str b => obtain ⟨t, rfl⟩ := rx; exact SeqAt.EqAt.str_str a t' b t
    | _ => exact absurd (show false = true from fx) Bool.false_ne_true
  | _ => exact absurd (show false = true from fy) Bool.false_ne_true
/-- the items' answers, read off the values (a value's own answer does not lean on its token) -/
def eqU (x : V) (u : Value) : Bool := match u with
  | .none => eqV .non x
  | .bool b => eqV (.bl b) x
  | .int i _ => eqV (.int i) x
  | .str z _ => eqV (.str z) x
  | _ => false
theorem eqU_of {x y : V} {u : Value} (r : RelV y u) (f : flatV y = true) : eqU x u = eqV y x := by
  cases y with
  | non => cases r; rfl
  | bl b => cases r; rfl
  | int i => obtain ⟨t, rfl⟩ := r; rfl
  | str z => obtain ⟨t, rfl⟩ := r; rfl
  | _ => exact absurd (show false = true from f) Bool.false_ne_true
theorem any_eqU {x : V} : ∀ {xs : List V} {us : List Value}, Vals xs us → xs.all flatV = true → us.any (eqU x) = xs.any fun y => eqV y x
  | _, _, .nil, _ => rfl
  | y :: xs, u :: us, .cons r t, f => by
    rw [List.all_cons, Bool.and_eq_true] at f
    rw [List.any_cons, List.any_cons, eqU_of r f.1, any_eqU t f.2]
theorem mem_eqAt {A : Around} {s : Shared} {x : V} {v : Value} (rx : RelV x v) (fx : flatV x = true) : ∀ {xs : List V} {us : List Value}, Vals xs us → xs.all flatV = true → ∀ u ∈ us, SeqAt.EqAt A s u v (eqU x u)
  | _, _, .nil, _ => fun u hu => by cases hu
  | y :: xs, u :: us, .cons r t, f => fun u' hu => by
    rw [List.all_cons, Bool.and_eq_true] at f
    rcases List.mem_cons.mp hu with rfl | hu
    · rw [eqU_of r f.1]; exact eqAt_V r rx f.1 fx
    · exact mem_eqAt rx fx t f.2 u' hu
def inV (x : V) (xs : List V) : Bool := xs.any fun y => eqV y x
/-- x in a list or tuple of flat items -/
def rIn (K : PySem.W.Frag) (neg : Bool) : R2 := fun x y H Q => ∃ p xs, y = .ref p ∧ (SqL K H p xs ∨ SqT K H p xs) ∧ flatV x = true ∧ xs.all flatV = true ∧ Q (.bl (if neg then !inV x xs else inV x xs)) H
theorem op_in_seq : OpR X (compareOp .In) (rIn X.K false) := by
  intro pins s σ H x y v u Q I rx ry h
  obtain ⟨p, xs, rfl, hq, fx, fs, q⟩ := h
  cases ry
  rcases hq with hq | hq
  · obtain ⟨its, r, pl, hz⟩ := I.list hq
    refine SeqAt.in_listAt (eqU x) pl.isList (fun w hw => mem_eqAt rx fx r fs w (by simpa using hw)) ⟨.bl _, H, I, rfl, ?_⟩
    rw [show its.toArray.any (eqU x) = its.any (eqU x) by simp, any_eqU r fs]
    exact q
  · obtain ⟨its, r, pl, hz⟩ := I.tuple hq
    refine SeqAt.in_tupleAt (eqU x) pl (fun w hw => mem_eqAt rx fx r fs w (by simpa using hw)) ⟨.bl _, H, I, rfl, ?_⟩
    rw [show its.toArray.any (eqU x) = its.any (eqU x) by simp, any_eqU r fs]
    exact q
theorem op_notIn_seq : OpR X (compareOp .NotIn) (rIn X.K true) := by
  intro pins s σ H x y v u Q I rx ry h
  obtain ⟨p, xs, rfl, hq, fx, fs, q⟩ := h
  cases ry
  rcases hq with hq | hq
  · obtain ⟨its, r, pl, hz⟩ := I.list hq
    refine SeqAt.notIn_listAt (eqU x) pl.isList (fun w hw => mem_eqAt rx fx r fs w (by simpa using hw)) ⟨.bl _, H, I, rfl, ?_⟩
    rw [show its.toArray.any (eqU x) = its.any (eqU x) by simp, any_eqU r fs]
    exact q
  · obtain ⟨its, r, pl, hz⟩ := I.tuple hq
    refine SeqAt.notIn_tupleAt (eqU x) pl (fun w hw => mem_eqAt rx fx r fs w (by simpa using hw)) ⟨.bl _, H, I, rfl, ?_⟩
    rw [show its.toArray.any (eqU x) = its.any (eqU x) by simp, any_eqU r fs]
    exact q
/-! ### len, list(x), tuple(x) of any list or tuple that is read -/
theorem CallR.or {f : Value} {r r' : List V → Hp → VK → Prop} (h : CallR X f r) (h' : CallR X f r') : CallR X f (fun xs H Q => r xs H Q ∨ r' xs H Q) := by
  intro pins s σ H xs us Q I rs q
  rcases q with q | q
  · exact h pins s σ H xs us Q I rs q
  · exact h' pins s σ H xs us Q I rs q
theorem call_list_of : CallR X (.type "list") (fun xs H Q => ∃ p ys, xs = [.ref p] ∧ (SqL X.K H p ys ∨ SqT X.K H p ys) ∧ ∀ l, H l = none → Q (.ref l) (upd H l (.lst ys))) := by
  intro pins s σ H xs us Q I r h
  obtain ⟨p, ys, rfl, hq, q⟩ := h
  obtain ⟨u, rfl, rx⟩ := vals1 r
  cases rx
  have fin : ∀ (its : List Value), Vals ys its → ys.length ≤ sizeLine → ∀ (h' : Heap) (c' : Nat), (∀ b o', s.heap.get? b = some o' → h'.get? b = some o') →
      h'.get? s.heap.objs.size = some { cls := .type "list", dict := none, data := .seq its.toArray c', slots := #[] } → EP X pins σ Q (.ref s.heap.objs.size) { s with heap := h' } := fun its r' hz h' c' kp e =>
    ⟨.ref s.heap.objs.size, _, I.laid (t' := s.toks) kp (Nat.le_refl _) (show ObjOk X.prog X.w _ h' _ (.lst ys) from ⟨hz, its, c', r', e⟩), rfl, q _ (I.hok.fresh (Nat.le_refl _))⟩
  rcases hq with hq | hq
  · obtain ⟨its, r', pl, hz⟩ := I.list hq
    have hlen := r'.length
    obtain ⟨o, ho, hc, n, hd⟩ := pl.isList
    exact call_list_seq p (.inl rfl) ho hc hd (fun h' c' kp e => fin its r' hz h' c' kp e) (by simp only [List.size_toArray] <;> omega)
  · obtain ⟨its, r', pl, hz⟩ := I.tuple hq
    have hlen := r'.length
    obtain ⟨o, ho, hc, n, hd⟩ := pl
    exact call_list_seq p (.inr rfl) ho hc hd (fun h' c' kp e => fin its r' hz h' c' kp e) (by simp only [List.size_toArray] <;> omega)
/-! ### the call of a builtin's method: o.m(..) -/
/-- the value is of that builtin type -/
def tyV (K : PySem.W.Frag) (T : String) (x : V) (H : Hp) : Prop := match x with
  | .str _ => T = "str"
  | .int _ => T = "int"
  | .ref p => (T = "list" ∧ ∃ xs, SqL K H p xs) ∨ (T = "tuple" ∧ ∃ o, K.lookup p = some o ∧ o.cls = .type "tuple" ∧ o.dict = none) ∨
      (T = "dict" ∧ ((∃ kvs, H p = some (.dK kvs)) ∨ ∃ kvs, H p = some (.dT kvs))) ∨ (T = "set" ∧ ∃ S n, H p = some (.set S n))
  | _ => False
theorem tyV_is {pins : List (Addr × Obj)} {σ : St} {H : Hp} {s : Shared} {T : String} {x : V} {v : Value} (I : Inv X pins σ H s) (r : RelV x v) (ty : tyV X.K T x H) :
    s.TypeIs v T ∧ ∀ a, v = .ref a → ∃ ob, s.heap.get? a = some ob ∧ ob.dict = none := by
  cases x with
  | str z =>
    obtain ⟨t, rfl⟩ := r
    cases (show T = "str" from ty)
    exact ⟨typeIs_str s z t, fun _ e => nomatch e⟩
  | int i =>
    obtain ⟨t, rfl⟩ := r
    cases (show T = "int" from ty)
    exact ⟨typeIs_int s i t, fun _ e => nomatch e⟩
  | ref p =>
    cases r
    rcases ty with ⟨rfl, xs, hq⟩ | ⟨rfl, o, hk, hc, hd⟩ | ⟨rfl, hk⟩ | ⟨rfl, S, n, hk⟩
    · obtain ⟨its, _, pl, _⟩ := I.list hq
      refine ⟨pl.isList.typeIs, fun a e => ?_⟩
      cases e
      obtain ⟨o, n, e, c, hd, _⟩ := pl
      exact ⟨o, e, hd⟩
    · refine ⟨⟨o, I.kIn p o hk, hc⟩, fun a e => ?_⟩
      cases e
      exact ⟨o, I.kIn _ o hk, hd⟩
    · have z : ∃ o, s.heap.get? p = some o ∧ o.ExactDict := by
        rcases hk with ⟨kvs, hk⟩ | ⟨kvs, hk⟩
        · obtain ⟨_, _, _, _, o, _, _, e, ex, _⟩ := I.hok p _ hk
          exact ⟨o, e, ex⟩
        · exact (show False from I.hok p _ hk).elim
      obtain ⟨o, e, ex⟩ := z
      refine ⟨⟨o, e, ex.1⟩, fun a e2 => ?_⟩
      cases e2
      exact ⟨o, e, ex.2.1⟩
    · obtain ⟨o, _, _, _, e, ex, _⟩ := I.hok p _ hk
      refine ⟨⟨o, e, ex.1⟩, fun a e2 => ?_⟩
      cases e2
      exact ⟨o, e, ex.2.1⟩
  | _ => exact False.elim ty
def tBM0 (K : PySem.W.Frag) (T : String) (r : V → List V → Hp → VK → Prop) (to : TE) : TE := fun σ H Q => to σ H fun x H1 => tyV K T x H1 ∧ r x [] H1 Q
def tBM (K : PySem.W.Frag) (T : String) (r : V → List V → Hp → VK → Prop) (to : TE) (t : TA) : TE := fun σ H Q => to σ H fun x H1 => tyV K T x H1 ∧ t σ H1 fun xs H2 => r x xs H2 Q
variable {o e : Expr} {es : List Expr} {to : TE} {t : TA} {name : Str} {apos cpos : Pos} {T id : String} {r : V → List V → Hp → VK → Prop}
theorem pe_bm0 (pa : PlainAttrs T) (slot : Slot T name id) (hty : typeOf (.builtin id) = pure (.type "method_descriptor")) (hm : MtR X id r) (ho : PE X o to)
    (hbase : attributeBase o name X.env (eval o X.env) = eval o X.env := by rfl) (hline : (apos.endLine == cpos.line) = true := by rfl) : PE X (.Call (.Attribute o name apos) [] [] cpos) (tBM0 X.K T r to) := by
  intro pins s σ H Q I h
  refine wpAny_Call_method0_late hbase hline (thn (ho pins s σ H _ I h) fun v s1 ⟨x, H1, I1, r1, ty, q1⟩ => ?_)
  obtain ⟨h1, h2⟩ := tyV_is I1 r1 ty
  exact ⟨T, id, pa, slot, hty, h1, h2, Calls.callWith_builtin rfl (PySem.evalArgs_none (hm pins s1 σ H1 x [] v [] Q I1 r1 .nil q1))⟩
theorem pe_bm (pa : PlainAttrs T) (slot : Slot T name id) (hty : typeOf (.builtin id) = pure (.type "method_descriptor")) (hm : MtR X id r) (ho : PE X o to) (ha : PA X (e :: es) t)
    (hbase : attributeBase o name X.env (eval o X.env) = eval o X.env := by rfl)
    (hfew : ((backTo cpos (starEach (e :: es) X.env)).all (fun x => !x.1) && (backToKw cpos (keywordEach [] X.env)).all (fun x => x.1.isSome)
      && decide ((e :: es).length + ([] : List Keyword).length + (if ([] : List Keyword).isEmpty then 0 else 1) < 30)) = true := by rfl)
    (hline : (apos.endLine == cpos.line) = true := by rfl) (hs : starEach (e :: es) X.env = (false, eval e X.env) :: starEach es X.env := by rfl) (hplain : (backTo cpos (starEach es X.env)).any (·.1) = false := by rfl) :
    PE X (.Call (.Attribute o name apos) (e :: es) [] cpos) (tBM X.K T r to t) := by
  intro pins s σ H Q I h
  refine wpAny_Call_method_late hbase hfew hline rfl (thn (ho pins s σ H _ I h) fun v s1 ⟨x, H1, I1, r1, ty, q1⟩ => ?_)
  obtain ⟨h1, h2⟩ := tyV_is I1 r1 ty
  refine ⟨T, id, pa, slot, hty, h1, h2, ?_⟩
  have hA := ha cpos pins s1 σ H1 _ I1 q1
  rw [hs] at hA ⊢
  refine Calls.callWith_builtin (by show (false || (backTo cpos (starEach es X.env)).any (·.1)) = false; rw [hplain] <;> rfl) (Calls.evalArgs_plain ?_)
  exact thn hA fun us s2 ⟨vs, H2, I2, r2, q2⟩ => hm pins s2 σ H2 x vs v us Q I2 r1 r2 q2
/- xs.append(e), list.index on a module's tuple .. are MtR facts of 06m -/
end
end L2

namespace L2
open PySem PySem.Spec PyProof.Rows

def MtM (X : Cx) (id : String) (r : V → List V → Hp → VK → Prop) : Prop :=
  ∀ (pins : List (Addr × Obj)) (s : Shared) (σ : St) (H : Hp) (x : V) (xs : List V) (v : Value) (us : List Value) (Q : VK), Inv X pins σ H s → RelV x v → Vals xs us → r x xs H Q →
    wpAny (model X.prog X.w) X.A (call (.builtin id) (v :: us)) (EP X pins σ Q) X.xe s

/-! ### lists of values -/
theorem Vals.one : ∀ {x : V} {us : List Value}, Vals [x] us → ∃ u, us = [u] ∧ RelV x u
  | _, _, .cons r .nil => ⟨_, rfl, r⟩
theorem Vals.two : ∀ {x y : V} {us : List Value}, Vals [x, y] us → ∃ u v, us = [u, v] ∧ RelV x u ∧ RelV y v
  | _, _, _, .cons r (.cons q .nil) => ⟨_, _, rfl, r, q⟩
theorem Vals.zero : ∀ {us : List Value}, Vals [] us → us = []
  | _, .nil => rfl
theorem Vals.dropLast {xs : List V} {us : List Value} (h : Vals xs us) : Vals xs.dropLast us.dropLast := by
  induction h with
  | nil => exact .nil
  | cons r t ih =>
    cases t with
    | nil => exact .nil
    | cons q t' => exact .cons r ih
theorem Vals.eraseIdx : ∀ {xs : List V} {us : List Value} (i : Nat), Vals xs us → Vals (xs.eraseIdx i) (us.eraseIdx i)
  | _, _, _, .nil => .nil
  | _, _, 0, .cons _ t => t
  | _, _, i + 1, .cons r t => .cons r (Vals.eraseIdx i t)
section
variable {X : Cx} {pins : List (Addr × Obj)} {σ : St} {H : Hp} {s : Shared} {l b : Addr} {xs ys zs : List V}

/-! ### the two steps: a tracked list is rewritten, a new list is laid -/
theorem Inv.lset {its its' : List Value} {n : Nat} {f : Array Value → Array Value} {t' : Nat} (I : Inv X pins σ H s) (hH : H l = some (.lst xs))
    (e : s.heap.get? l = some { cls := .type "list", data := .seq its.toArray n }) (hf : f its.toArray = its'.toArray) (hv : Vals ys its') (hz : ys.length ≤ sizeLine) :
    Inv X pins σ (upd H l (.lst ys)) { s with heap := s.heap.update l (Obj.mapSeq f), toks := t' } := by
  have q := PySem.IsL.update e f
  rw [hf] at q
  refine I.write (x := l) (e := l) (by rw [hH]; exact trivial) (.inl rfl) (fun b' u hb hu => (Heap.get?_update_other s.heap (Obj.mapSeq f) (Ne.symm hb)).trans hu) ⟨_, q⟩ ?_
  exact ⟨hz, its', _, hv, q⟩
theorem Inv.lnew {its : List Value} {t' : Nat} (I : Inv X pins σ H s) (hv : Vals ys its) (hz : ys.length ≤ sizeLine) :
    Inv X pins σ (upd H s.heap.objs.size (.lst ys)) { s with heap := s.heap.push { cls := .type "list", data := .seq its.toArray }, toks := t' } :=
  I.laid (fun _ _ q => Heap.get?_push_of_some _ q) (Nat.le_refl _) ⟨hz, its, 0, hv, Heap.get?_push_size _ rfl⟩
theorem Inv.fresh (I : Inv X pins σ H s) : H s.heap.objs.size = none := I.hok.fresh (Nat.le_refl _)
theorem Inv.lstM (I : Inv X pins σ H s) (hH : H l = some (.lst xs)) : xs.length ≤ sizeLine ∧ ∃ (its : List Value) (n : Nat), Vals xs its ∧ xs.length = its.length ∧ s.heap.get? l = some { cls := .type "list", data := .seq its.toArray n } := by
  obtain ⟨z, its, n, r, e⟩ := I.hok l _ hH
  exact ⟨z, its, n, r, r.length, e⟩

end

section
variable {X : Cx}

/-! ### methods -/
def rAppend : V → List V → Hp → VK → Prop := fun x vs H Q => ∃ l xs y, x = .ref l ∧ vs = [y] ∧ H l = some (.lst xs) ∧ xs.length < sizeLine ∧ Q .non (upd H l (.lst (xs ++ [y])))
theorem mt_append : MtM X "list.append" rAppend := by
  intro pins s σ H x vs v us Q I rx rv h
  obtain ⟨l, xs, y, rfl, rfl, hH, hz, q⟩ := h
  cases rx
  obtain ⟨u, rfl, ru⟩ := rv.one
  obtain ⟨z, its, n, r, hl, e⟩ := I.lstM hH
  refine call_meets F.slot_list_append ⟨_, e, rfl⟩ F.entry_list_append (F.args_list_append_2 _ _) (PySem.list_append l its.toArray n u (by rw [List.size_toArray]; omega)) ⟨e, ?_⟩
  refine ⟨.non, _, I.lset (its' := its ++ [u]) hH e (by simp) (r.append (.cons ru .nil)) ?_, rfl, q⟩
  rw [List.length_append, List.length_singleton]
  omega

/-! ### list + list, list += list, list * int -/
def rCat : R2 := fun x y H Q => ∃ l b xs zs, x = .ref l ∧ y = .ref b ∧ H l = some (.lst xs) ∧ H b = some (.lst zs) ∧ xs.length + zs.length ≤ sizeLine ∧ ∀ p, H p = none → Q (.ref p) (upd H p (.lst (xs ++ zs)))
theorem op_cat : OpR X (binaryOp .Add) rCat := by
  intro pins s σ H x y v u Q I rx ry h
  obtain ⟨l, b, xs, zs, rfl, rfl, hH, hB, hz, q⟩ := h
  cases rx
  cases ry
  obtain ⟨z, its, n, r, hl, e⟩ := I.lstM hH
  obtain ⟨z2, its2, n2, r2, hl2, e2⟩ := I.lstM hB
  refine PySem.P.add_list e e2 ?_ (by rw [List.size_toArray, List.size_toArray]; omega)
  have ea : its.toArray ++ its2.toArray = (its ++ its2).toArray := by simp
  rw [ea]
  exact ⟨.ref _, _, I.lnew (t' := s.toks) (r.append r2) (by rw [List.length_append]; omega), rfl, q _ I.fresh⟩
/-! ### del xs[i] -/
end

/-! ### xs[a:b] = ys -/
section
variable {prog : Program} {w : World} {A : Around} {E : Value → Shared → Prop} {s : Shared}
set_option maxRecDepth 100000 in
end

section
variable {X : Cx}
end
end L2

namespace Att
open PySem PySem.W PySem.Calls PyProof.Rows

/-! ### the script -/
theorem ints_of_wellAll {P : Params} {h : Heap} : ∀ (ns : List Int) (vs : List Value), WellAll P h vs (ns.map WData.int) → IntsAre vs ns := by
  intro ns
  induction ns with
  | nil =>
    intro vs w
    rw [List.map_nil] at w
    cases w
    exact .nil
  | cons n ns ih =>
    intro vs w
    rw [List.map_cons] at w
    cases w with
    | cons a b =>
      cases a
      exact .cons _ _ (ih _ b)

theorem script_of {l : OpenLaw} {n : Nat} (hn : l.most = some n) {P : Params} {h : Heap} {args : List WData} {vals : List Value}
    (hpre : l.row.toRowW.claim.pre args = true) (hwl : WellAll P h vals args) :
    ∃ a vs ns, vals = [Value.ref a] ∧ args = [WData.list (ns.map WData.int)] ∧ h.get? a = some { cls := .type "list", data := .seq vs.toArray } ∧ IntsAre vs ns ∧ ns.length ≤ n := by
  have hsh : WShape.hasAll [] args [.list .int] = true := (pre_splitW hpre).1
  have hc : l.pre.holds [] { args := args } = true := (pre_splitW hpre).2
  obtain ⟨d, r, rfl, h1, h2⟩ := hasAllW_cons hsh
  obtain rfl := hasAllW_nil h2
  obtain ⟨xs, rfl, h3⟩ := hasW_list h1
  obtain ⟨ns, rfl⟩ := items_int h3
  have hlen : ns.length ≤ n := by
    unfold OpenLaw.pre at hc
    have h4 : (WTm.not (.lt (.lit (.int (n : Int))) (.len (.arg 0)))).holds [] { args := [.list (ns.map .int)] } = true := by
      have h4 := (holds_andW hc).1
      rw [hn] at h4
      exact h4
    have h5 := condW_of h4 (w_not (w_lt w_lit (w_len_list (w_arg rfl))))
    rw [List.length_map] at h5
    refine Nat.le_of_not_lt fun q => ?_
    have q' : (n : Int) < ((ns.length : Nat) : Int) := by omega
    first
      | (rw [decide_eq_true q'] at h5; exact absurd h5 (by decide))
      | (simp at h5; omega)
  cases hwl with
  | cons w1 w2 =>
    cases w2
    cases w1 with
    | list ho hall => exact ⟨_, _, ns, rfl, rfl, ho, ints_of_wellAll ns _ hall, hlen⟩

theorem post_true (l : OpenLaw) (args : List WData) : l.row.toRowW.claim.post args (.bool true) args = true :=
  postW_of (r := l.row.toRowW) (X := (true == true))
    (show WShape.has [] (.bool true) .bool = true by first | rfl | decide | simp [WShape.has, WShape.arms, WShape.armsAll])
    (show (WTm.eq .res (.lit (.bool true))).value [] { args := args, res := some (.bool true), after := args } = some (.bool (true == true)) from w_eq_bool (w_res rfl) w_lit) rfl

/-! ### the attachment: holds_open's last premise (the goal 'hc' behind k_head) from a wpAny of the law's body -/
/-- the same from a codeAny of the CALL (for a layer whose function contracts speak of calls) -/
theorem attach_call {l : OpenLaw} {n : Nat} {q : Program} {loose : List Str} {XP : (Str → Option Value) → Heap → Prop} {YP : World → Heap → Prop} {d : DefRec}
    (hn : l.most = some n) (hdf : d.params.defaults = [])
    (call : ∀ (w : World) (s₀ s₁ : Shared) (mg mb : Str → Option Value) (fa : Addr) (o : Obj) (pm cd doc : Value) (a : Addr) (vs : List Value) (ns : List Int),
      Ground q loose [] XP w s₀ mg mb s₁.heap → YP w s₁.heap →
      s₁.heap.get? fa = some o → o.data = .func (docDef d.name d.params d.body d.scope pm cd doc) → s₁.heap.CodeRec cd d.name → mg d.name = some (.ref fa) →
      s₁.heap.get? a = some { cls := .type "list", data := .seq vs.toArray } → IntsAre vs ns → ns.length ≤ n → s₁.gens = #[] →
      codeAny (model l.prog w) callerA (.call (.ref fa) ⟨[.ref a], []⟩) (fun r s' => r = .ok (.ret (.bool true)) ∧ OldK s₁.heap s'.heap ∧ s'.os = s₁.os ∧ AllBare s'.gens) s₁) :
    WalkO q loose XP YP l.row.toRowW d [] (fun f vs => PySem.call f vs) := by
  intro w s₀ s₁ mg mb G Y fa o pm cd doc dV kV ho hd hcd hD hmg hg args vals as hpre hlay hrd hwl hlo
  obtain rfl : dV = .none := Dflts.none hD hdf
  obtain rfl : kV = .none := Dflts.noKw hD
  obtain ⟨a, vs, ns, rfl, rfl, hobj, hints, hlen⟩ := script_of hn hpre hwl
  refine enter_call (codeAny_mono (call w s₀ s₁ mg mb fa o pm cd doc a vs ns G Y ho (fd_plain hd) hcd hmg hobj hints hlen hg) fun r s' hq => ?_)
  obtain ⟨rfl, h2, h3, h4⟩ := hq
  exact ⟨.inl ⟨.bool true, .bool true, [], rfl, fun _ => rfl, .bool true, post_true l _, fun _ => ⟨List.Pairwise.nil, fun _ hm => (nomatch hm)⟩⟩, h2, h3, h4⟩

/-! ### rules over ANY heap (no ledger) from facts about the written part K: the library's own take a ledger (News) for what they write -/
section
variable {prog : Program} {w : World} {A : Around} {E : Value → Shared → Prop} {s : Shared} {K : Frag}

/-! the whole heap as the ledger: makes every rule that writes through a ledger a rule over any heap -/
def ledger (h : Heap) (L d : Addr) : List (Addr × Obj) := (List.range h.objs.size).filterMap fun a => if a = L ∨ a = d then none else (h.get? a).map fun o => (a, o)
end
end Att

namespace L2
open PySem PySem.Spec PyProof.Rows

theorem vals_ints : ∀ {vs : List Value} {ns : List Int}, IntsAre vs ns → Vals (ns.map V.int) vs
  | _, _, .nil => .nil
  | _, _, .cons n t h => .cons ⟨t, rfl⟩ (vals_ints h)

/-- nothing is tracked but the script, known to the object (or it is an object of the module) -/
def Only (H : Hp) : Prop := ∀ b, H b = none ∨ ∃ o xs, H b = some (.frz o (.lst xs))

/-- THE HEAD: the law's promise, at the heap behind the top. F, the promise of the law's def, may use that base is part of the heap (so K.In base, base.Ns mainGlobals mg stand in Mod) -/
theorem law_call {P : Program} {w : World} {K : PySem.W.Frag} {mg mb : Str → Option Value} {CX : CXT} {k : Nat} {fa a : Addr} {fd : FuncData} {x : Str} {sp : Sp} {s₁ : Shared} {vs : List Value} {ns : List Int}
    (KX : K.In s₁.heap) (hns : s₁.heap.Ns mainGlobals mg) (hb : s₁.heap.Ns builtinsNs mb) (hbb : ∀ x : Str, x ≠ "__name__" → mb x = bootBuiltins x) (hlim : s₁.heap.NoLimit) (hg : s₁.gens = #[])
    (ha : s₁.heap.get? a = some { cls := .type "list", data := .seq vs.toArray }) (hi : IntsAre vs ns) (hl : ns.length ≤ sizeLine) (hr : Room k callerA)
    (F : ∀ base : Heap, K.In base → base.Ns mainGlobals mg → FnOk P w K mg base CX k fa fd [x] sp) (hbind : ∀ (s : Shared) (u : Value), BindsTo s fd ⟨[u], []⟩ [(x, u)])
    (hsp : ∀ H : Hp, Only H → SqL K H a (ns.map V.int) → sp [.ref a] H (fun v _ => v = .bl true) fun _ _ _ => False)
    (hCX : ∀ H e s', CX [] H s₁ (fun _ _ _ => False) e s' → False) :
    codeAny (model P w) callerA (.call (.ref fa) ⟨[.ref a], []⟩) (fun r s' => r = .ok (.ret (.bool true)) ∧ OldK s₁.heap s'.heap ∧ s'.os = s₁.os ∧ AllBare s'.gens) s₁ := by
  have rv := vals_ints hi
  have lenV := hi.length
  -- from an abstract heap in which nothing but the script may be tracked
  have core : ∀ H : Hp, Only H → SqL K H a (ns.map V.int) → HOk P w H s₁.heap → (∀ b, H b ≠ none → b = a) → (H a ≠ none → K.lookup a = none) →
      codeAny (model P w) callerA (.call (.ref fa) ⟨[.ref a], []⟩) (fun r s' => r = .ok (.ret (.bool true)) ∧ OldK s₁.heap s'.heap ∧ s'.os = s₁.os ∧ AllBare s'.gens) s₁ := by
    intro H hO hS hok hA hK
    have base_of : ∀ {b : Addr} {o : Obj}, s₁.heap.get? b = some o → H b = none → (hidT s₁.heap H).get? b = some o := fun e n => hidT_get e n
    have noA : ∀ {b : Addr} {o : Obj} {es : Array DictEntry} {ep : Nat}, s₁.heap.get? b = some o → o.data = .dict es ep → H b = none := fun {b o es ep} e d => by
      cases q : H b with
      | none => rfl
      | some u =>
        have e' : b = a := hA b (by rw [q]; simp)
        subst e'
        rw [ha] at e; cases e
        have d' : Data.seq vs.toArray _ = Data.dict es ep := d
        cases d'
    have nsK : ∀ {b : Addr} {m : Str → Option Value}, s₁.heap.Ns b m → (hidT s₁.heap H).Ns b m := fun {b m} ⟨o, es, ep, e, d, r⟩ => ⟨o, es, ep, base_of e (noA e d), d, r⟩
    have hKb : K.In (hidT s₁.heap H) := fun b o e => base_of (KX b o e) (by
      cases q : H b with
      | none => rfl
      | some u =>
        have e' : b = a := hA b (by rw [q]; simp)
        subst e'
        rw [hK (by rw [q]; simp)] at e; cases e)
    have hM : Mod K mg (hidT s₁.heap H) := ⟨hKb, nsK hns, ⟨mb, nsK hb, hbb⟩, let ⟨mc, h1, h2⟩ := hlim; ⟨mc, nsK h1, h2⟩⟩
    have e0 : Env0 P w K mg (hidT s₁.heap H) callerA [] s₁ H := ⟨rfl, hM, fun b o e => of_hidT e, Nat.le_of_eq (hidT_size _ _), trivial, fun b hb => absurd (show b ∈ ([] : List Addr) from hb) (by simp), hok, .of_eq hg⟩
    refine codeAny_mono ((F _ hKb (nsK hns)).run callerA [] s₁ H ⟨[.ref a], []⟩ [.ref a] [.ref a] _ _ hr e0 (hbind s₁ (.ref a)) (.cons rfl .nil) (hsp H hO hS)) fun r s' h => ?_
    cases r with
    | error e => exact (hCX H e s' h).elim
    | ok fl =>
      cases fl with
      | next => exact False.elim h
      | brk => exact False.elim h
      | cont => exact False.elim h
      | ret u =>
        obtain ⟨v, H', os, bare, un, hok', r', q⟩ := h
        have q' : v = .bl true := q
        subst q'
        obtain rfl : u = Value.bool true := r'
        refine ⟨rfl, OldK.of_keep fun b o e => ?_, os, bare⟩
        cases q : H b with
        | none => exact un.keep b o e q (by intro z; exact absurd (show b ∈ ([] : List Addr) from z) (by simp)) (by simp)
        | some u =>
          rcases hO b with z | ⟨ob, xs, z⟩
          · rw [q] at z; cases z
          · have z2 := un.frzs b ob _ z
            obtain ⟨e1, _⟩ := hok b _ z
            obtain ⟨e2, _⟩ := hok' b _ z2
            rw [e] at e1; cases e1
            exact e2
  cases hk : K.lookup a with
  | some o =>
    -- the script is one of the module's own objects
    have e := KX a o hk
    rw [ha] at e
    cases e
    refine core (fun _ => none) (fun _ => .inl rfl) (.inr ⟨_, vs.toArray, _, hk, rfl, rfl, rfl, by rw [List.size_toArray, lenV]; exact hl, by simpa using rv⟩) (fun b u z => by have z' : (none : Option HO) = some u := z; cases z') (fun b z => absurd rfl z) fun z => absurd rfl z
  | none =>
    refine core (fun b => if b = a then some (.frz { cls := .type "list", data := .seq vs.toArray } (.lst (ns.map V.int))) else none) (fun b => ?_) (.inl (.inr ⟨{ cls := .type "list", data := .seq vs.toArray }, if_pos rfl⟩)) (fun b u z => ?_) (fun b z => ?_) fun _ => hk
    · by_cases hb : b = a
      · exact .inr ⟨_, _, if_pos hb⟩
      · exact .inl (if_neg hb)
    · by_cases hb : b = a
      · have z' := (if_pos hb).symm.trans z
        cases z'
        subst hb
        exact ⟨ha, by rw [List.length_map]; exact hl, vs, _, rv, ha⟩
      · have z' := (if_neg hb).symm.trans z
        cases z'
    · by_cases hb : b = a
      · exact hb
      · exact absurd (if_neg hb) z
end L2

namespace L2
open PySem PySem.Spec PyProof.Rows

/-- the goal that k_head leaves (case hc), from the law's promise. F gives the function object fd (K's own) once, then the promise over every base -/
theorem walk_of {l : PySem.W.OpenLaw} {n k : Nat} {q : Program} {loose : List Str} {XP : (Str → Option Value) → Heap → Prop} {YP : World → Heap → Prop} {d : DefRec} {K : Params → PySem.W.Frag} {CX : World → CXT} {sp : World → Sp} {x : Str}
    (hn : l.most = some n) (hn2 : n ≤ sizeLine) (hdf : d.params.defaults = []) (hr : Room k callerA)
    (hY : ∀ (w : World) (h : Heap), YP w h → (K w.params).In h)
    (F : ∀ (w : World) (mg : Str → Option Value) (fa : Addr) (h : Heap), (K w.params).In h → h.Ns mainGlobals mg → mg d.name = some (.ref fa) →
      ∃ fd : FuncData, (∀ (s : Shared) (u : Value), BindsTo s fd ⟨[u], []⟩ [(x, u)]) ∧
        ∀ base : Heap, (K w.params).In base → base.Ns mainGlobals mg → FnOk l.prog w (K w.params) mg base (CX w) k fa fd [x] (sp w))
    (hsp : ∀ (w : World) (H : Hp) (a : Addr) (ns : List Int), ns.length ≤ n → Only H → SqL (K w.params) H a (ns.map V.int) → sp w [.ref a] H (fun v _ => v = .bl true) fun _ _ _ => False)
    (hCX : ∀ (w : World) (H : Hp) (s : Shared) (e : Value) (s' : Shared), CX w [] H s (fun _ _ _ => False) e s' → False) :
    PySem.W.WalkO q loose XP YP l.row.toRowW d [] (fun f vs => PySem.call f vs) := by
  refine Att.attach_call hn hdf fun w s₀ s₁ mg mb fa o pm cd doc a vs ns G Y ho hd hcd hmg hobj hints hlen hg => ?_
  have KX := hY w _ Y
  obtain ⟨fd, hb, hF⟩ := F w mg fa _ KX G.T.g hmg
  exact law_call KX G.T.g G.T.b G.T.builtins G.T.nolimit hg hobj hints (Nat.le_trans hlen hn2) hr hF hb (fun H hO hS => hsp w H a ns hlen hO hS) fun H e s' => hCX w H s₁ e s'
end L2


/-! SHORT WORDS over the layer: a def of the text, its body, what a loop and a test want. -/
namespace L2
open PySem PySem.Spec PyProof.Rows

/-! ### the text by places -/
/-- the j-th statement of a class's body -/
def inClass (s : Stmt) (j : Nat) : Stmt := match s with
  | .ClassDef _ _ _ body _ _ _ _ _ _ _ => body.getD j (.Pass ⟨0, 0, 0, 0⟩)
  | _ => .Pass ⟨0, 0, 0, 0⟩
def defArgs (s : Stmt) : Arguments := match s with
  | .FunctionDef _ a _ _ _ _ _ _ _ _ => a
  | _ => { posonlyargs := [], args := [], vararg := none, kwonlyargs := [], kw_defaults := [], kwarg := none, defaults := [] }
def defBody (s : Stmt) : List Stmt := match s with
  | .FunctionDef _ _ b _ _ _ _ _ _ _ => b
  | _ => []
def defScope (s : Stmt) : Scope := match s with
  | .FunctionDef _ _ _ _ _ _ sc _ _ _ => sc
  | _ => { kind := .function, names := [], isGenerator := false, isCoroutine := false }

/-! ### no exception leaves a def -/
abbrev CX0 : CXT := fun _ _ _ _ _ _ => False
abbrev E0 : XK := fun _ _ _ => False
theorem pass0 {X : Cx} : Passes CX0 X E0 := fun _ _ _ _ _ _ _ h => h.elim

/-! ### a def (or method) of the text as it stands behind the top -/
structure Fun (K : PySem.W.Frag) (x qual : Str) (st : Stmt) (f : Addr) (fd : FuncData) : Prop where
  ex : ∃ (oc : Value) (od : Option Addr) (kV doc pm : Value) (an : Option Addr) (cdv ct : Value) (osl : Array (Option Value)),
    fd = PySem.W.fnOf x qual (defArgs st) (defBody st) (defScope st) .none kV doc pm an cdv ct ∧ K.lookup f = some ⟨oc, od, .func fd, osl⟩ ∧ PySem.W.codeIn K cdv qual = true
  kp : PySem.W.keepIn K (.ref f) = true
section
variable {P : Program} {w : World} {K : PySem.W.Frag} {mg : Str → Option Value} {base : Heap}
/-- THE RULE for a def: its body as a term of rules, and the reading of that term -/
theorem Fun.ok {x qual : Str} {st : Stmt} {f : Addr} {fd : FuncData} {N ps : List Str} {k : Nat} {sp : Sp} (F : Fun K x qual st f fd) (S : FnScope N ps (defScope st)) (len : ∀ vs H Q E, sp vs H Q E → vs.length = ps.length)
    (hbody : ∀ (cdv : Value) (A : Around) (outer : List Env) (s : Shared) (H : Hp) (vs : List V) (Q : VK) (E : XK), Room k (A.deeper (envOfC qual (defScope st) s.heap.objs.size f cdv)) → sp vs H Q E →
      ∃ t, PSs (cxOf CX0 P w K mg base N qual (defScope st) f cdv A outer s H E).nox (defBody st) t ∧ t { nx := fun _ H' => Q .non H', rt := Q } (start N vs) H) : FnOk P w K mg base CX0 (k + 1) f fd ps sp := by
  obtain ⟨oc, od, kV, doc, pm, an, cdv, ct, osl, rfl, lk, hcd⟩ := F.ex
  refine fn_of lk hcd S len fun A outer s H vs Q E hr hsp => ?_
  obtain ⟨t, h, q⟩ := hbody cdv A outer s H vs Q E hr hsp
  exact ⟨t, h.nox, q⟩
/-- how its arguments bind (no defaults): h is «fun _ _ _ _ _ _ us hl => match us, hl with | [_, _], _ => rfl», one _ a parameter -/
theorem Fun.binds {x qual : Str} {st : Stmt} {f : Addr} {fd : FuncData} {ps : List Str} (F : Fun K x qual st f fd)
    (h : ∀ (kV doc pm : Value) (an : Option Addr) (cdv ct : Value) (us : List Value), us.length = ps.length → bindArgs (PySem.W.fnOf x qual (defArgs st) (defBody st) (defScope st) .none kV doc pm an cdv ct) ⟨us, []⟩ = pure (ps.zip us)) : Binds K fd ps [] := by
  obtain ⟨oc, od, kV, doc, pm, an, cdv, ct, osl, rfl, lk, hcd⟩ := F.ex
  exact .all (h kV doc pm an cdv ct)
theorem fun_mk {x qual : Str} {st : Stmt} {f : Addr} {oc : Value} {od an : Option Addr} {osl : Array (Option Value)} {kV doc pm cdv ct : Value} (l : K.lookup f = some ⟨oc, od, .func (PySem.W.fnOf x qual (defArgs st) (defBody st) (defScope st) .none kV doc pm an cdv ct), osl⟩)
    (c : PySem.W.codeIn K cdv qual = true) (k : PySem.W.keepIn K (.ref f) = true) : Fun K x qual st f (PySem.W.fnOf x qual (defArgs st) (defBody st) (defScope st) .none kV doc pm an cdv ct) := ⟨⟨oc, od, kV, doc, pm, an, cdv, ct, osl, rfl, l, c⟩, k⟩
end
/-! ### expressions in short: the name that stands in the i-th slot -/
section
variable {X : Cx}
theorem pv (i : Nat) {x : Str} {pos : Pos} (hN : X.N[i]? = some x := by rfl) (hv : Vis X.env.scope x := by first | exact Or.inl rfl | exact Or.inr (Or.inl rfl) | exact Or.inr (Or.inr rfl)) (hd : (x == ("__debug__" : Str)) = false := by decide)
    (hcd : (x == ("__classdict__" : Str)) = false := by decide) : PE X (.Name x pos) (tVar i) := pe_var hN hv hd hcd
end

/-! ### tests -/
theorem iteF {A B : Prop} (h : B) : if false = true then A else B := by
  rw [if_neg Bool.false_ne_true]
  exact h
theorem iteT {A B : Prop} (h : A) : if true = true then A else B := by
  rw [if_pos rfl]
  exact h
/-! ### heaps -/
/-- all that was tracked is as it was -/
def Same (H H' : Hp) : Prop := ∀ b o, H b = some o → H' b = some o
theorem Same.refl (H : Hp) : Same H H := fun _ _ h => h
theorem Same.trans {H H1 H2 : Hp} (a : Same H H1) (b : Same H1 H2) : Same H H2 := fun c o h => b c o (a c o h)
theorem Same.free {H H' : Hp} (e : Same H H') {l : Addr} (h : H' l = Option.none) : H l = Option.none := by
  cases q : H l with
  | none => rfl
  | some o =>
    rw [e l o q] at h
    cases h
theorem Same.seq {K : PySem.W.Frag} {H H' : Hp} {a : Addr} {xs : List V} (e : Same H H') (h : SqL K H a xs) : SqL K H' a xs := by
  rcases h with (h | ⟨o, h⟩) | h
  · exact .inl (.inl (e _ _ h))
  · exact .inl (.inr ⟨o, e _ _ h⟩)
  · exact .inr h

end L2

section
namespace L2
open PySem PySem.Spec PyProof.Rows
/-! ### more rules: texts, ranges down, comprehensions -/
section
variable {X : Cx}
theorem mt_bitlen : MtR X "int.bit_length" (fun x xs H Q => ∃ i, x = .int i ∧ xs = [] ∧ Q (.int ((Builtin.Int.intBits i : Nat) : Int)) H) := by
  intro pins s σ H x xs v us Q I rx rv h
  obtain ⟨i, rfl, rfl, q⟩ := h
  obtain ⟨t, rfl⟩ := rx
  cases rv
  exact call_gives F.slot_int_bit_length (typeIs_int s i t) F.entry_int_bit_length (F.args_int_bit_length_1 _) (AutoIntG2.int_bit_length_int_0 i t) ⟨.int _, H, I.tok _, ⟨_, rfl⟩, q⟩
theorem strs_of : ∀ {ys : List Str} {its : List Value}, Vals (ys.map V.str) its → StrsAre its ys
  | [], _, .nil => .nil
  | _ :: _, _, .cons ⟨_, e⟩ r => by subst e; exact .cons _ _ (strs_of r)
/-- sep.join(a list of texts) -/
theorem mt_join : MtR X "str.join" (fun x xs H Q => ∃ y a ys, x = .str y ∧ xs = [.ref a] ∧ SqL X.K H a (ys.map V.str) ∧ (ys.map (·.length)).sum + ys.length * y.length ≤ 16777216 ∧ Q (.str (Txt.join y ys)) H) := by
  intro pins s σ H x xs v us Q I rx rv h
  obtain ⟨y, a, ys, rfl, rfl, hq, hz, q⟩ := h
  obtain ⟨t, rfl⟩ := rx
  obtain ⟨u, rfl, ru⟩ := rv.one
  cases ru
  obtain ⟨its, r, pl, _⟩ := I.list hq
  exact join_list pl.isList (by simpa using strs_of r) hz fun t' k => ⟨.str _, H, I.tok _, ⟨_, rfl⟩, q⟩
theorem op_mul_str : OpR X (binaryOp .Mult) (fun x y H Q => ∃ z i, x = .str z ∧ y = .int i ∧ i < 2 ^ 40 ∧ -(2 ^ 40) < i ∧ z.length * i.toNat ≤ sizeLine ∧ Q (.str (Txt.mul z i)) H) := by
  intro pins s σ H x y v u Q I rx ry h
  obtain ⟨z, i, rfl, rfl, h1, h2, h3, q⟩ := h
  obtain ⟨t, rfl⟩ := rx
  obtain ⟨t', rfl⟩ := ry
  refine SB.mul ⟨?_, fun h4 _ => ?_, fun h4 _ => ?_⟩ fun t' k => ⟨.str _, H, I.tok _, ⟨_, rfl⟩, q⟩
  · simp only [Bool.or_eq_false_iff, decide_eq_false_iff_not]; omega
  · intro c
    have hn : (0 : Int) < i := by omega
    have h63 := line63
    have e : (z.length : Int) * i ≤ 2 ^ 63 - 1 := by
      have : ((z.length * i.toNat : Nat) : Int) = (z.length : Int) * i := by rw [Int.natCast_mul]; congr 1; omega
      omega
    have := (Int.le_ediv_iff_mul_le hn).mpr e
    omega
  · unfold Builtin.Str.tooLong; simpa using h3
theorem call_int_text : CallR X (.type "int") (fun xs H Q => ∃ x n, xs = [.str x] ∧ PySem.intText? x = some n ∧ x.length ≤ 640 ∧ Q (.int n) H) := by
  intro pins s σ H xs us Q I r h
  obtain ⟨x, n, rfl, hn, hl, q⟩ := h
  obtain ⟨u, rfl, t, rfl⟩ := vals1 r
  exact PySem.W.KIN.call_text hn hl ⟨.int n, H, I.tok _, ⟨_, rfl⟩, q⟩
theorem sl_str : SlR X (fun x lo hi H Q => ∃ z, x = .str z ∧ z.length ≤ sizeLine ∧ Q (.str (Txt.slice z lo hi)) H) := by
  intro pins s σ H x v vl vu lo hi sl Q I rx hs pl pu h
  obtain ⟨z, rfl, hz, q⟩ := h
  obtain ⟨t, rfl⟩ := rx
  refine ⟨"str", _, F.slot_str_getitem.lookup, typeIs_str s z t, ?_⟩
  have fin : ∀ (t' : Tok) (k : Nat), EP X pins σ Q (.str (Txt.slice z lo hi) t') { s with toks := k } := fun t' k => ⟨.str _, H, I.tok _, ⟨_, rfl⟩, q⟩
  obtain ⟨o, ho, hc, hd⟩ := hs
  cases pl with
  | none =>
    cases pu with
    | none => exact wpAny_getItem_str_slice (l := none) (u := none) (st := none) ⟨o, ho, hc, hd⟩ rfl (post_val_or_str ⟨Nat.le_trans (Txt.slice_le z _ _) hz, fin⟩)
    | int j uj => exact wpAny_getItem_str_slice (l := none) (u := some (j, uj)) (st := none) ⟨o, ho, hc, hd⟩ rfl (post_val_or_str ⟨Nat.le_trans (Txt.slice_le z _ _) hz, fin⟩)
  | int i ui =>
    cases pu with
    | none => exact wpAny_getItem_str_slice (l := some (i, ui)) (u := none) (st := none) ⟨o, ho, hc, hd⟩ rfl (post_val_or_str ⟨Nat.le_trans (Txt.slice_le z _ _) hz, fin⟩)
    | int j uj => exact wpAny_getItem_str_slice (l := some (i, ui)) (u := some (j, uj)) (st := none) ⟨o, ho, hc, hd⟩ rfl (post_val_or_str ⟨Nat.le_trans (Txt.slice_le z _ _) hz, fin⟩)
/-- isinstance(x, T), T a built-in type -/
theorem call_isinst : CallR X (.builtin "isinstance") (fun xs H Q => ∃ x T t b, xs = [x, .ty T] ∧ TyOf X.K H x t ∧ PySem.W.kitOne X.K t (.type T) = some b ∧ Q (.bl b) H) := by
  intro pins s σ H xs us Q I r h
  obtain ⟨x, T, t, b, rfl, ty, e, q⟩ := h
  obtain ⟨u, w', rfl, r1, r2⟩ := vals2 r
  cases (show w' = Value.type T from r2)
  exact isinst_ok I r1 ty e fun tk => ⟨.bl b, H, I.tok _, rfl, q⟩
/-- isinstance(x, C), C a class of the text -/
theorem call_isinstC : CallR X (.builtin "isinstance") (fun xs H Q => ∃ x C t b, xs = [x, .ref C] ∧ TyOf X.K H x t ∧ PySem.W.kitOne X.K t (.ref C) = some b ∧ Q (.bl b) H) := by
  intro pins s σ H xs us Q I r h
  obtain ⟨x, C, t, b, rfl, ty, e, q⟩ := h
  obtain ⟨u, w', rfl, r1, r2⟩ := vals2 r
  cases (show w' = Value.ref C from r2)
  exact isinst_ok I r1 ty e fun tk => ⟨.bl b, H, I.tok _, rfl, q⟩
end
/-! ### a range with a step -/
/-- lo, lo + c, .. (n of them) -/
def Itc (lo c : Int) (n : Nat) : It := ⟨fun i _ => i < n, fun i H x H' => H' = H ∧ x = .int (lo + i * c), fun i _ => n ≤ i⟩
theorem turn_rangeC {P : Program} {w : World} {K : PySem.W.Frag} {tg : Expr} (it : Addr) (lo c : Int) (n : Nat) : Turn P w K tg (Itc lo c n) [it] it (fun i h => IsRangeIter h it (lo + (i : Nat) * c) ((n : Int) - (i : Nat)) c) where
  mem := by simp
  obj := fun i h st b hb => by
    have e : b = it := by simpa using hb
    subst e
    exact ⟨_, st, fun v z => by
      have z' : Data.fields _ = Data.cell v := z
      cases z'⟩
  keep := fun i h h' st k => k it (by simp) _ st
  item := by
    intro X hP hw hK hc i pins s σ H E I hf st hg
    subst hP hw hK
    obtain ⟨f0, f1, f2, f3, f4, f5⟩ := hf it (by simp)
    have W := Walks.range (prog := X.prog) (w := X.w) (I.ok.hd hc) it lo c n
    refine W.item i s _ _ hg st fun v h' tk hv st' kk => ?_
    obtain ⟨t, rfl⟩ := hv
    have I1 : Inv X pins σ H { s with heap := h', toks := tk } := I.turned (fun b o hb e => kk b o (by simpa using hb) e) f0 f1 f3 f4 f5
    exact ⟨_, rfl, go_of (s := { s with heap := h', toks := tk }) (n := "range_iterator") st' rfl rfl (by decide) ⟨.int (lo + i * c), H, I1, ⟨t, rfl⟩, ⟨rfl, rfl⟩, st', fun b hb => (hf b hb).1⟩⟩
  done := by
    intro X hP hw hK hc i pins s σ H E I hf st hg
    subst hP hw hK
    obtain ⟨f0, f1, f2, f3, f4, f5⟩ := hf it (by simp)
    exact wpAny_pyNext_range_end (I.ok.hd hc) st (by have : n ≤ i := hg; omega) fun h' eb => ⟨rfl, I.turned (t' := s.toks) (fun b o hb e => eb b o hb e) f0 f1 f3 f4 f5⟩
  self := fun _ _ _ _ _ st h => wpAny_pyIter_rangeiter st h
section
variable {X : Cx} {tg : Expr}
/-- range(a, b, -1) -/
def iRngD (ta : TA) : TI := fun σ H R => ta σ H fun vs H1 => ∃ i j : Int, vs = [.int i, .int j, .int (-1)] ∧ (-(2 ^ 61) ≤ i ∧ i < 2 ^ 61 ∧ -(2 ^ 61) ≤ j ∧ j < 2 ^ 61) ∧ R (Itc i (-1) (i - j).toNat) H1
end
end L2

end

section
namespace L2
open PySem PySem.Spec PyProof.Rows
/-! ### range(a, b, -1) -/
section
variable {X : Cx} {tg : Expr}
theorem small_down {a b : Int} (ha : -(2 ^ 61) ≤ a) (ha' : a < 2 ^ 61) (hb : -(2 ^ 61) ≤ b) (hb' : b < 2 ^ 61) : Builtin.Range.small a b (-1) = true := by
  unfold Builtin.Range.small Builtin.Range.rangeSize
  simp only [Builtin.Range.rangeFitsLong, Bool.and_eq_true, Bool.or_eq_true, decide_eq_true_eq, beq_iff_eq, show ¬ ((-1 : Int) > 0) by decide, if_false, Int.neg_neg, Int.ediv_one]
  split <;> omega
theorem rangeSize_down (a b : Int) : Builtin.Range.rangeSize a b (-1) = (((a - b).toNat : Nat) : Int) := by
  unfold Builtin.Range.rangeSize
  rw [if_neg (by decide)]
  simp only [Int.neg_neg, Int.ediv_one]
  split <;> omega
theorem pi_rangeD {a b c : Expr} {ta : TA} {p pos : Pos} (hg : Gl X "range") (hm : X.mg "range" = none) (ha : PA X [a, b, c] ta)
    (hs : starEach [a, b, c] X.env = [(false, eval a X.env), (false, eval b X.env), (false, eval c X.env)] := by rfl) (hs2 : starEach [b, c] X.env = [(false, eval b X.env), (false, eval c X.env)] := by rfl) :
    PI X tg (.Call (.Name "range" p) [a, b, c] [] pos) (iRngD ta) := by
  intro pins s σ H R I h
  refine Call_ (ld_blt I hg hm boot_range (PyProof.Rows.callWith_type1 (thn (ha pos pins s σ H _ I h) fun us s1 ⟨vs, H1, I1, r1, q1⟩ => ?_) (by rw [hs, hs2]) (by rw [hs2]; rfl)))
  obtain ⟨i, j, e, ⟨q1, q2, q3, q4⟩, q⟩ := q1
  subst e
  cases r1 with
  | cons r rr =>
    cases rr with
    | cons r' rr =>
      cases rr with
      | cons r'' rr =>
        cases rr
        obtain ⟨t, rfl⟩ := r
        obtain ⟨t', rfl⟩ := r'
        obtain ⟨t'', rfl⟩ := r''
        refine call_range_3 (by decide) ?_ (.inl (PyProof.noPylong_small (by decide)))
        refine wpAny_pyIter_range (IsRange.new ..) (small_down q1 q2 q3 q4) ?_
        have I2 : Inv X pins σ H1 { s1 with heap := s1.heap.push { cls := .type "range", data := .fields #[.int i t, .int j t', .int (-1) t''] } } := I1.kept (t' := s1.toks) fun b o e => Heap.get?_push_of_some _ e
        refine ⟨_, [_], _, _, H1, rfl, I2.kept (t' := s1.toks) fun b o e => Heap.get?_push_of_some _ e, turn_rangeC _ i (-1) (i - j).toNat, ?_, fun b hb => ?_, q⟩
        · have e1 : i + ((0 : Nat) : Int) * (-1) = i := by simp
          have e2 : (((i - j).toNat : Nat) : Int) - ((0 : Nat) : Int) = Builtin.Range.rangeSize i j (-1) := by rw [rangeSize_down]; simp
          show IsRangeIter _ _ (i + ((0 : Nat) : Int) * (-1)) ((((i - j).toNat : Nat) : Int) - ((0 : Nat) : Int)) (-1)
          rw [e1, e2]
          exact Heap.get?_push_size _ rfl
        · have e := List.mem_singleton.mp hb
          subst e
          exact I2.fpOk (Nat.le_refl _) (I2.hok.fresh (Nat.le_refl _))
end
/-! ### a text's signs -/
def Its (x : Str) : It := ⟨fun i _ => i < x.cps.size, fun i H v H' => H' = H ∧ ∃ c, x.cps[i]? = some c ∧ v = .str ⟨#[c]⟩, fun i _ => x.cps.size ≤ i⟩
section
variable {X : Cx} {tg : Expr}
theorem turn_str {P : Program} {w : World} {K : PySem.W.Frag} {tg : Expr} (x : Str) (it : Addr) (n : String) (t : Tok) (W : ∀ A' : Around, A'.handled = none → Walks P w A' it [it] [it] x.cps.size (SignAt x) (fun i h => h.IsStrIter it n x t i))
    (hn : ["enumerate", "zip", "dict_itemiterator", "dict_reverseitemiterator", "odict_iterator", "itertools.zip_longest", "itertools.pairwise"].contains n = false)
    (hdone : ∀ (A : Around) (i : Nat) (s : Shared) (Q : Option Value → Shared → Prop) (E : Value → Shared → Prop), A.handled = none → s.heap.IsStrIter it n x t i → x.cps.size ≤ i → (∀ h', (∀ b o, b ≠ it → s.heap.get? b = some o → h'.get? b = some o) → Q none { s with heap := h' }) → wpAny (model P w) A (pyNext (.ref it)) Q E s)
    (hself : ∀ (A : Around) (i : Nat) (s : Shared) (Q : Value → Shared → Prop) (E : Value → Shared → Prop), s.heap.IsStrIter it n x t i → Q (.ref it) s → wpAny (model P w) A (pyIter (.ref it)) Q E s) :
    Turn P w K tg (Its x) [it] it (fun i h => h.IsStrIter it n x t i) where
  mem := by simp
  obj := fun i h st b hb => by
    have e : b = it := by simpa using hb
    subst e
    obtain ⟨o, ho, hc, hd⟩ := st
    exact ⟨o, ho, fun v z => by rw [hd] at z; cases z⟩
  keep := fun i h h' st k => by
    obtain ⟨o, ho, r⟩ := st
    exact ⟨o, k it (by simp) o ho, r⟩
  item := by
    intro X hP hw hK hc i pins s σ H E I hf st hg
    subst hP hw hK
    obtain ⟨f0, f1, f2, f3, f4, f5⟩ := hf it (by simp)
    refine (W X.A (I.ok.hd hc)).item i s _ _ hg st fun v h' tk hv st' kk => ?_
    obtain ⟨c, u, hc', rfl⟩ := hv
    have I1 : Inv X pins σ H { s with heap := h', toks := tk } := I.turned (fun b o hb e => kk b o (by simpa using hb) e) f0 f1 f3 f4 f5
    obtain ⟨o, ho, hcl, hd⟩ := id st'
    exact ⟨_, rfl, go_of (s := { s with heap := h', toks := tk }) (n := n) ho hcl hd hn ⟨.str ⟨#[c]⟩, H, I1, ⟨u, rfl⟩, ⟨rfl, c, hc', rfl⟩, st', fun b hb => (hf b hb).1⟩⟩
  done := by
    intro X hP hw hK hc i pins s σ H E I hf st hg
    subst hP hw hK
    obtain ⟨f0, f1, f2, f3, f4, f5⟩ := hf it (by simp)
    exact hdone X.A i s _ _ (I.ok.hd hc) st hg fun h' eb => ⟨rfl, I.turned (t' := s.toks) (fun b o hb e => eb b o hb e) f0 f1 f3 f4 f5⟩
  self := fun A i s Q E st h => hself A i s Q E st h
def iStr (tl : TE) : TI := fun σ H R => tl σ H fun x H1 => ∃ y, x = .str y ∧ R (Its y) H1
theorem pi_str {l : Expr} {tl : TE} (hl : PE X l tl) : PI X tg l (iStr tl) := by
  intro pins s σ H R I h
  refine thn (hl pins s σ H _ I h) fun v s1 ⟨x, H1, I1, r1, q1⟩ => ?_
  obtain ⟨y, e, q⟩ := q1
  subst e
  obtain ⟨t, rfl⟩ := r1
  have fin : ∀ (o : Obj) (tn : Nat → Heap → Prop), Turn X.prog X.w X.K tg (Its y) [s1.heap.objs.size] s1.heap.objs.size tn → tn 0 (s1.heap.push o) → PIE X pins σ tg R (.ref s1.heap.objs.size) { s1 with heap := s1.heap.push o } := fun o tn T h0 => by
    refine ⟨s1.heap.objs.size, [s1.heap.objs.size], tn, Its y, H1, rfl, I1.kept (t' := s1.toks) fun b o e => Heap.get?_push_of_some _ e, T, h0, fun b hb => ?_, q⟩
    have e := List.mem_singleton.mp hb
    subst e
    exact I1.fpOk (Nat.le_refl _) (I1.hok.fresh (Nat.le_refl _))
  cases ha : y.cps.all (· < 128)
  · refine wpAny_pyIter_wide ha (fin _ _ (turn_str y _ "str_iterator" t (fun A' hA => Walks.strWide hA _ y t) (by decide) (fun A i s Q E hh st hi hQ => ?_) fun A i s Q E st hq => wpAny_pyIter_striter_wide st hq) ⟨_, Heap.get?_push_size _ rfl, rfl, rfl⟩)
    exact wpAny_pyNext_wide_end hh st (by simpa using hi) fun h' he' => hQ h' fun b o hb e => he' b o hb e
  · refine wpAny_pyIter_ascii ha (fin _ _ (turn_str y _ "str_ascii_iterator" t (fun A' hA => Walks.strAscii hA _ y t) (by decide) (fun A i s Q E hh st hi hQ => ?_) fun A i s Q E st hq => wpAny_pyIter_striter_ascii st hq) ⟨_, Heap.get?_push_size _ rfl, rfl, rfl⟩)
    exact wpAny_pyNext_ascii_end hh st (by simpa using hi) fun h' he' => hQ h' fun b o hb e => he' b o hb e
end
/-! ### list comprehensions -/
/-- what is asked of a comprehension's scope: cs the names that it takes from around -/
def compScopeOk (sc : Scope) (cs : List Str) : Bool :=
  sc.kind == .function && sc.names.all (fun y => y.2 != .cell) && sc.names.all (fun y => y.2 != .local || sc.names.lookup y.1 == some .local) &&
    sc.names.all (fun y => y.2 != .free || cs.contains y.1) && cs.all (fun x => sc.names.lookup x == some .free)
/-- the captured names: place in the frame around, name -/
def CapsOk (X : Cx) : List (Nat × Str) → Prop
  | [] => True
  | (j, x) :: r => X.N[j]? = some x ∧ (X.env.kindOf x = some .cell ∨ X.env.kindOf x = some .free) ∧ CapsOk X r
theorem CapsOk.at {X : Cx} : ∀ {cs : List (Nat × Str)}, CapsOk X cs → ∀ p ∈ cs, X.N[p.1]? = some p.2 ∧ (X.env.kindOf p.2 = some .cell ∨ X.env.kindOf p.2 = some .free)
  | [], _, _, h => nomatch h
  | (j, x) :: r, ⟨h1, h2, h3⟩, p, h => by
    rcases List.mem_cons.mp h with e | e
    · subst e; exact ⟨h1, h2⟩
    · exact CapsOk.at h3 p e
def cxComp (X : Cx) (scope : Scope) (cl : List (Str × Addr)) (C : Addr) (N : List Str) (s2 : Shared) (H2 : Hp) (fp : List Addr) : Cx where
  prog := X.prog
  w := X.w
  K := X.K
  mg := X.mg
  base := X.base
  A := X.A
  N := N
  s₀ := s2
  H₀ := H2
  env := compEnvC scope cl C X.env
  outer := X.stack
  stack := X.stack
  ex := fp
  calm := X.calm
  fn := fun _ => false
  pn := []
  xe := fun _ _ => False
theorem closure_of {env : Env} : ∀ (names : List (Str × NameKind)), (∀ y ∈ names, y.2 = .free → ∃ c, env.cells.lookup y.1 = some c) →
    ∀ acc : List (Str × Addr), (∀ x c, acc.lookup x = some c → env.cells.lookup x = some c) → ∃ cl,
    (forIn names acc fun (x : Str × NameKind) r => do
      if x.2 == .free then pure (ForInStep.yield ((x.1, ← cellOf env x.1) :: r)) else pure (ForInStep.yield r) : Sem (List (Str × Addr))) = pure cl ∧
    (∀ x c, cl.lookup x = some c → env.cells.lookup x = some c) ∧ (∀ y ∈ names, y.2 = .free → ∃ c, cl.lookup y.1 = some c) ∧ ∀ x c, acc.lookup x = some c → ∃ c', cl.lookup x = some c'
  | [], _, acc, ha => ⟨acc, rfl, ha, (fun _ h => nomatch h), fun _ c h => ⟨c, h⟩⟩
  | (n, k) :: r, hn, acc, ha => by
    by_cases hk : k = .free
    · subst hk
      obtain ⟨c, hc⟩ := hn _ List.mem_cons_self rfl
      have ha' : ∀ x c', ((n, c) :: acc).lookup x = some c' → env.cells.lookup x = some c' := fun x c' e => by
        rw [List.lookup_cons] at e
        by_cases hx : x = n
        · subst hx
          rw [beq_self_eq_true] at e
          cases e
          exact hc
        · rw [beq_false_of_ne hx] at e
          exact ha x c' e
      obtain ⟨cl, e, h1, h2, h3⟩ := closure_of r (fun y hy => hn y (List.mem_cons_of_mem _ hy)) ((n, c) :: acc) ha'
      refine ⟨cl, ?_, h1, fun y hy hf => ?_, fun x c' hx => ?_⟩
      · rw [List.forIn_cons]
        simp only [cellOf, hc, beq_self_eq_true, if_true]
        exact e
      · rcases List.mem_cons.mp hy with e' | e'
        · subst e'
          exact h3 n c (by rw [List.lookup_cons, beq_self_eq_true])
        · exact h2 y e' hf
      · by_cases hxn : x = n
        · subst hxn
          exact h3 x c (by rw [List.lookup_cons, beq_self_eq_true])
        · exact h3 x c' (by rw [List.lookup_cons, beq_false_of_ne hxn]; exact hx)
    · obtain ⟨cl, e, h1, h2, h3⟩ := closure_of r (fun y hy => hn y (List.mem_cons_of_mem _ hy)) acc ha
      refine ⟨cl, ?_, h1, fun y hy hf => ?_, h3⟩
      · rw [List.forIn_cons]
        have hb : (k == NameKind.free) = false := by simpa using hk
        simp only [hb, Bool.false_eq_true, if_false]
        exact e
      · rcases List.mem_cons.mp hy with e' | e'
        · subst e'
          exact absurd hf hk
        · exact h2 y e' hf
end L2

end

section
namespace L2
open PySem PySem.Spec PyProof.Rows
/-- the turns of a comprehension over J from the block's frame σ0 on, its list at D -/
def CompGo (J : It) (g : TG) (tc : TT) (te : TE) (Q : VK) (σ0 : St) (H1 : Hp) (D : Addr) : Prop :=
  ∃ W : Nat → Nat → St → Hp → Prop, (∃ m, W 0 m σ0 (upd H1 D (.lst []))) ∧ ∀ i m σ1 H2, W i m σ1 H2 →
    (J.stop i H2 ∧ Q (.ref D) H2) ∨
    (J.go i H2 ∧ ∀ x H3, J.yld i H2 x H3 → g x σ1 H3 fun σ2 H4 => tc σ2 H4 fun b H5 =>
      if b = true then te σ2 H5 fun y H6 => ∃ xs m', H6 D = some (.lst xs) ∧ xs.length < sizeLine ∧ m' < m ∧ W (i + 1) m' σ2 (upd H6 D (.lst (xs ++ [y])))
      else ∃ m', m' < m ∧ W (i + 1) m' σ2 H5)
def tComp (wi : TI) (g : TG) (tc : TT) (te : TE) (σ0 : St → St) : TE := fun σ H Q => wi σ H fun J H1 => ∀ D, H1 D = none → CompGo J g tc te Q (σ0 σ) H1 D
def tYes : TT := fun _ H Q => Q true H
/-- the tests of a comprehension -/
def PTs (X : Cx) (ifs : List Expr) (t : TT) : Prop :=
  ∀ (pins : List (Addr × Obj)) (s : Shared) (σ : St) (H : Hp) (Q : Bool → Hp → Prop), Inv X pins σ H s → t σ H Q →
    wpAny (model X.prog X.w) X.A (forIn ifs true fun c r => if r = true then do let ok ← isTrue c X.env (eval c X.env); pure (ForInStep.yield ok) else pure (ForInStep.yield r)) (TP X pins σ Q) X.xe s
theorem pts_nil {X : Cx} : PTs X [] tYes := fun _ _ _ H _ I h => wpAny_tests_nil ⟨H, I, h⟩
theorem pts_one {X : Cx} {c : Expr} {t : TT} (h : PT X c t) : PTs X [c] t := fun pins s σ H Q I q => wpAny_tests_one (h pins s σ H Q I q)
section
variable {prog : Program} {w : World} {A : Around} {E : Value → Shared → Prop} {R : Result → Shared → Prop} {s : Shared}
theorem compLoop_gen {elt target iter : Expr} {ifs : List Expr} {scope : Scope} {pos : Pos} {it acc : Value} {env : Env} (I : Nat → Shared → Prop)
    (turn : ∀ n s, I n s → wpAny (model prog w) A (pyNext it) (fun r s₁ => match r with
      | none => R (.ok .next) s₁
      | some v => wpAny (model prog w) A (letOwnedTupleGo target it v) (fun _ s₁' => wpAny (model prog w) A (assign target env v) (fun _ s₂ =>
          wpAny (model prog w) A (forIn ifs true fun c r => if r = true then do let ok ← isTrue c env (eval c env); pure (ForInStep.yield ok) else pure (ForInStep.yield r)) (fun ok s₃ =>
            if ok = true then wpAny (model prog w) A (eval elt env) (fun x s₄ =>
              wpAny (model prog w) A (call (.builtin "list.append") [acc, x]) (fun _ s₅ => ∃ m, m < n ∧ I m s₅) (notedBy (model prog w) A env fun e s' => R (.error e) s') s₄) (notedBy (model prog w) A env fun e s' => R (.error e) s') s₃
            else ∃ m, m < n ∧ I m s₃) (notedBy (model prog w) A env fun e s' => R (.error e) s') s₂) (notedBy (model prog w) A env fun e s' => R (.error e) s') s₁') (notedBy (model prog w) A env fun e s' => R (.error e) s') s₁) (notedBy (model prog w) A env fun e s' => R (.error e) s') s)
    (n : Nat) (h : I n s) :
    codeAny (model prog w) A (.compLoop (.ListComp elt [⟨target, iter, ifs, 0⟩] scope pos) 0 it acc env) R s := by
  refine codeAny_loop rfl I (fun n s hI => ?_) n h
  show wpAny _ A ((compTurn (.ListComp elt [⟨target, iter, ifs, 0⟩] scope pos) 0 it acc env).onRaise (fun x => do noteFrame x env; theTreesLotGoes x)) _ _ s
  refine wpAny_noted ?_
  rw [compTurn_list]
  refine wpAny_bind (wpAny_standAt (wpAny_bind (wpAny_mono (turn n s hI) (fun r s₁ h₁ => ?_) fun _ _ h' => h')))
  cases r with
  | none => exact wpAny_pure h₁
  | some v =>
    refine wpAny_bind (wpAny_mono h₁ (fun _ s₁' h₁' => ?_) fun _ _ h' => h')
    refine wpAny_bind (wpAny_mono h₁' (fun _ s₂ h₂ => wpAny_bind (wpAny_mono h₂ (fun ok s₃ h₃ => ?_) fun _ _ h' => h')) fun _ _ h' => h')
    cases ok with
    | false => exact wpAny_pure ⟨rfl, h₃⟩
    | true =>
      exact wpAny_bind (wpAny_bind (wpAny_mono h₃ (fun x s₄ h₄ => wpAny_bind (wpAny_mono h₄ (fun _ s₅ h₅ => wpAny_pure (wpAny_pure ⟨rfl, h₅⟩)) fun _ _ h' => h')) fun _ _ h' => h'))
end
section
variable {X : Cx} {elt target iter : Expr} {ifs : List Expr} {scope : Scope} {pos p : Pos} {caps : List (Nat × Str)} {tgs : List Str} {wi : TI} {g : TG} {tc : TT} {te : TE}
/-- the block's frame at its start -/
def compSt (tgs : List Str) (caps : List (Nat × Str)) : St → St := fun σ => List.replicate tgs.length none ++ caps.map fun p => (σ[p.1]?).join
theorem relabel_free {env : Env} : ∀ {names : List (Str × NameKind)} {x : Str}, names.lookup x = some .free →
    ((names.map fun (n, k) => if (k == NameKind.free && env.scope.kind == .function && env.kindOf n == some .cell) then (n, NameKind.cell) else (n, k)).lookup x = some .cell ∨
     (names.map fun (n, k) => if (k == NameKind.free && env.scope.kind == .function && env.kindOf n == some .cell) then (n, NameKind.cell) else (n, k)).lookup x = some .free)
  | [], _, h => by cases h
  | (n, k) :: r, x, h => by
    rw [List.lookup_cons] at h
    rw [List.map_cons]
    by_cases hx : x = n
    · subst hx
      rw [beq_self_eq_true] at h
      cases h
      dsimp only
      split
      · exact .inl (by rw [List.lookup_cons, beq_self_eq_true])
      · exact .inr (by rw [List.lookup_cons, beq_self_eq_true])
    · rw [beq_false_of_ne hx] at h
      have ih := relabel_free (env := env) h
      dsimp only
      split <;> (rw [List.lookup_cons, beq_false_of_ne hx]; exact ih)
theorem relabel_back {env : Env} : ∀ {names : List (Str × NameKind)} {x : Str}, ((names.map fun (n, k) => if (k == NameKind.free && env.scope.kind == .function && env.kindOf n == some .cell) then (n, NameKind.cell) else (n, k)).lookup x = some .cell ∨
     (names.map fun (n, k) => if (k == NameKind.free && env.scope.kind == .function && env.kindOf n == some .cell) then (n, NameKind.cell) else (n, k)).lookup x = some .free) → (∀ y ∈ names, y.2 ≠ .cell) → names.lookup x = some .free
  | [], _, h, _ => by rcases h with h | h <;> cases h
  | (n, k) :: r, x, h, hn => by
    rw [List.lookup_cons]
    by_cases hx : x = n
    · subst hx
      rw [beq_self_eq_true]
      have hk := hn _ List.mem_cons_self
      rw [List.map_cons] at h
      dsimp only at h
      split at h
      · rename_i c
        simp only [Bool.and_eq_true, beq_iff_eq] at c
        exact congrArg some c.1.1
      · rw [List.lookup_cons, beq_self_eq_true] at h
        rcases h with h | h
        · cases h; exact absurd rfl hk
        · exact h
    · rw [beq_false_of_ne hx]
      refine relabel_back (env := env) ?_ fun y hy => hn y (List.mem_cons_of_mem _ hy)
      rw [List.map_cons] at h
      dsimp only at h
      split at h <;> (rw [List.lookup_cons, beq_false_of_ne hx] at h; exact h)
theorem mem_lookup_free : ∀ {names : List (Str × NameKind)} {x : Str} {k : NameKind}, names.lookup x = some k → (x, k) ∈ names
  | [], _, _, h => by cases h
  | (n, k') :: r, x, k, h => by
    rw [List.lookup_cons] at h
    by_cases hx : x = n
    · subst hx
      rw [beq_self_eq_true] at h
      cases h
      exact List.mem_cons_self
    · rw [beq_false_of_ne hx] at h
      exact List.mem_cons_of_mem _ (mem_lookup_free h)
set_option maxHeartbeats 1000000
theorem comp_core {use : Option (Value → Sem Unit)} {Qf : Value → Shared → Prop} {pins : List (Addr × Obj)} {σ : St} {H : Hp} {s : Shared} {Q : VK}
    (hc : X.calm = true) (hsc : compScopeOk scope (caps.map (·.2)) = true) (hcap : CapsOk X caps) (hi : PI X target iter wi)
    (hg : ∀ cl C s2 H2 fp, PG (cxComp X scope cl C (tgs ++ caps.map (·.2)) s2 H2 fp) target g)
    (ht : ∀ cl C s2 H2 fp, PTs (cxComp X scope cl C (tgs ++ caps.map (·.2)) s2 H2 fp) ifs tc)
    (he : ∀ cl C s2 H2 fp, PE (cxComp X scope cl C (tgs ++ caps.map (·.2)) s2 H2 fp) elt te)
    (I : Inv X pins σ H s) (h : tComp wi g tc te (compSt tgs caps) σ H Q)
    (fin : ∀ D C H' s', Inv X pins σ H' s' → Q (.ref D) H' → H' C = none → C ≠ X.env.locals → X.s₀.heap.objs.size ≤ C → (∀ x c, X.env.cells.lookup x = some c → c ≠ C) → (∀ p ∈ X.pn ++ pins, p.1 ≠ C) → (∃ m, s'.heap.Ns C m) →
      compPost (model X.prog X.w) X.A X.xe use Qf (.ref D) C (.ok .next) s')
    (hs : ∀ x, foldedSetIterable iter X.env x = pure x := by intro _; rfl) :
    wpAny (model X.prog X.w) X.A (comprehension (.ListComp elt [⟨target, iter, ifs, 0⟩] scope pos) scope X.env p (newList []) false (eval iter X.env) use) Qf X.xe s := by
  simp only [compScopeOk, Bool.and_eq_true, List.all_eq_true, beq_iff_eq, bne_iff_ne, Bool.or_eq_true, List.contains_iff_mem] at hsc
  obtain ⟨⟨⟨⟨k1, k2⟩, k3⟩, k4⟩, k5⟩ := hsc
  have hnames : ∀ y ∈ scope.names, y.2 = .local → scope.names.lookup y.1 = some .local := fun y hy hl => (k3 y hy).resolve_left fun z => z hl
  have capAt := hcap.at
  have hfr : ∀ y ∈ scope.names, y.2 = .free → ∃ c, X.env.cells.lookup y.1 = some c := fun y hy hf => by
    have hm := (k4 y hy).resolve_left fun z => z hf
    obtain ⟨q, hq, e⟩ := List.mem_map.mp hm
    have := (capAt q hq).2
    rw [e] at this
    exact I.ok.has _ this
  obtain ⟨cl, hcl, hin, hall, _⟩ := closure_of scope.names hfr [] (fun x c e => by cases e)
  have hclos : closureFor scope X.env = pure cl := by
    refine (show closureFor scope X.env = (_ >>= pure) from rfl).trans ((congrArg (· >>= pure) hcl).trans ?_)
    rfl
  refine wpAny_comprehension_free (use := use) rfl hs hclos k1 hnames (thn (hi pins s σ H _ I h) fun v s1 h1 => thn h1 fun itv s2 h2 => ?_)
  obtain ⟨it, fp, tn, J, H2, e, I2, T, st2, f2, hW⟩ := h2
  subst e
  have fD : H2 s2.heap.objs.size = none := I2.fresh
  obtain ⟨W, ⟨m0, w0⟩, turn⟩ := hW _ fD
  refine wpAny_newObj_type (wpAny_newFunctionEnv k2 (by intro y hy; simp at hy) (fun h₁ hns₁ hsb₁ => ?_) k1)
  dsimp only at hns₁ hsb₁ ⊢
  generalize hH3 : s2.heap.push { cls := .type "list", dict := none, data := .seq ([] : List Value).toArray } = H3 at hns₁ hsb₁ ⊢
  have hC : H3.objs.size = s2.heap.objs.size + 1 := by rw [← hH3, Heap.size_push]
  have hDC : s2.heap.objs.size ≠ H3.objs.size := by rw [hC]; exact Nat.ne_of_lt (Nat.lt_succ_self _)
  have hCle : s2.heap.objs.size ≤ H3.objs.size := by rw [hC]; exact Nat.le_succ _
  have below : ∀ b, b < s2.heap.objs.size → b ≠ H3.objs.size := fun b hb => by rw [hC]; exact Nat.ne_of_lt (Nat.lt_succ_of_lt hb)
  have old : ∀ b o, s2.heap.get? b = some o → h₁.get? b = some o := fun b o e => hsb₁.extBut b o (below b (Heap.lt_size e)) (Heap.get?_push_of_some _ (hH3 ▸ Heap.get?_push_of_some _ e))
  have hacc : h₁.get? s2.heap.objs.size = some { cls := .type "list", dict := none, data := .seq ([] : List Value).toArray } := hsb₁.extBut _ _ hDC (Heap.get?_push_of_some _ (hH3 ▸ Heap.get?_push_size _ rfl))
  have fC : H2 H3.objs.size = none := I2.hok.fresh hCle
  have fpl : ∀ b ∈ fp, b < s2.heap.objs.size := fun b hb => by
    obtain ⟨o, ho, _⟩ := T.obj _ _ st2 b hb
    exact Heap.lt_size ho
  -- the block's context
  let X' := cxComp X scope cl H3.objs.size (tgs ++ caps.map (·.2)) s2 H2 fp
  have ok' : X'.Ok := by
    refine ⟨I2.ok.mod, k1, I2.ok.glob, I2.ok.blt, hCle, fun x y c hx hy => I2.ok.inj x y c (hin _ _ hx) (hin _ _ hy), fun x hx => ?_, (fun x c hf => nomatch hf), I2.ok.hd, I2.ok.frames, .inl rfl, fun b hb => ⟨below b (fpl b hb), fun x c hx => (f2 b hb).2.2.2.2.1 x c (hin _ _ hx)⟩, I2.bs,
      Nat.le_trans I2.ok.bsz I2.sz, fun b o e hb => ?_, fun b hb z => ?_, I2.stack, I2.stkFree⟩
    · exact hall (x, .free) (mem_lookup_free (relabel_back hx k2)) rfl
    · rcases (f2 b hb).2.2.2.1 with z | z
      · exact I2.ok.noex b o e z
      · exact absurd (Nat.lt_of_lt_of_le (Heap.lt_size e) I2.ok.bsz) (Nat.not_lt.mpr z)
    · rcases List.mem_cons.mp (I2.stkSub b z) with q | q
      · exact (f2 b hb).2.1 q
      · exact (f2 b hb).2.2.1 q
  have un4 : Un (frs X.stack) fp H2 (upd H2 s2.heap.objs.size (.lst [])) s2.heap h₁ := Un.laid old (Nat.le_refl _) fD
  have hok4 : HOk X.prog X.w (upd H2 s2.heap.objs.size (.lst [])) h₁ := I2.hok.laid old (Nat.le_refl _) ⟨Nat.zero_le _, [], 0, .nil, hacc⟩
  have I4 : ∀ tk, Inv X' [] (compSt tgs caps σ) (upd H2 s2.heap.objs.size (.lst [])) { s2 with heap := h₁, toks := tk } := fun tk => by
    refine ⟨ok', rfl, I2.bare, un4, ⟨_, hns₁, fun i x v e1 e2 e3 => ?_⟩, fun x c hx => ?_, ?_, fun x c hx => ?_, fun q hq => ?_, hok4, ?_⟩
    · -- a captured name
      obtain ⟨m2, _, hl2⟩ := I2.loc
      have hlt : tgs.length ≤ i := by
        rcases Nat.lt_or_ge i tgs.length with z | z
        · have : (compSt tgs caps σ)[i]? = some none := by
            unfold compSt
            rw [List.getElem?_append_left (by simpa using z), List.getElem?_replicate, if_pos z]
          rw [this] at e2
          cases e2
        · exact z
      have e1' : (tgs ++ caps.map (·.2))[i]? = some x := e1
      rw [List.getElem?_append_right hlt, List.getElem?_map] at e1'
      have e2' : (caps.map fun p => (σ[p.1]?).join)[i - tgs.length]? = some (some v) := by
        have : (compSt tgs caps σ)[i]? = (caps.map fun p => (σ[p.1]?).join)[i - tgs.length]? := by
          unfold compSt
          rw [List.getElem?_append_right (by simpa using hlt), List.length_replicate]
        rw [← this]
        exact e2
      rw [List.getElem?_map] at e2'
      cases hq : caps[i - tgs.length]? with
      | none => rw [hq] at e1'; cases e1'
      | some q =>
        rw [hq] at e1' e2'
        obtain rfl : q.2 = x := Option.some.inj e1'
        have e2'' : (σ[q.1]?).join = some v := Option.some.inj e2'
        have hσ : σ[q.1]? = some (some v) := by
          cases z : σ[q.1]? with
          | none => rw [z] at e2''; cases e2''
          | some y => rw [z] at e2''; exact congrArg some e2''
        have hqm : q ∈ caps := List.mem_of_getElem? hq
        obtain ⟨n1, n2⟩ := capAt q hqm
        have hvis : Vis X.env.scope q.2 := by
          rcases n2 with z | z
          · exact .inr (.inl z)
          · exact .inr (.inr z)
        obtain ⟨u, ru, lk⟩ := hl2 q.1 q.2 v n1 hσ hvis
        have hfree : scope.names.lookup q.2 = some .free := k5 q.2 (List.mem_map_of_mem hqm)
        refine ⟨u, ru, .inr ⟨relabel_free hfree, ?_⟩⟩
        rcases lk with ⟨z, _⟩ | ⟨_, c, hcc, oc, hoc, hocd⟩
        · rcases n2 with y | y <;> (rw [y] at z; cases z)
        · obtain ⟨c', hc'⟩ := hall (q.2, .free) (mem_lookup_free hfree) rfl
          have := hin _ _ hc'
          rw [hcc] at this
          cases this
          exact ⟨c, hc', oc, old _ _ hoc, hocd⟩
    · obtain ⟨v, o, ho, hd⟩ := I2.cell x c (hin _ _ hx)
      exact ⟨v, o, old _ _ ho, hd⟩
    · show upd H2 s2.heap.objs.size (.lst []) H3.objs.size = none
      rw [upd_ne (Ne.symm hDC)]
      exact fC
    · have hcf := I2.freeC x c (hin _ _ hx)
      obtain ⟨v, o, ho, hd⟩ := I2.cell x c (hin _ _ hx)
      rw [upd_ne (Nat.ne_of_lt (Heap.lt_size ho))]
      exact hcf
    · have : q ∈ ([] : List (Addr × Obj)) := hq
      cases this
    · show (compSt tgs caps σ).length = (tgs ++ caps.map (·.2)).length
      simp [compSt]
  have stat : ∀ {pins' : List (Addr × Obj)} {H' : Hp}, (∀ b ∈ fp, H' b = none) → (∀ q ∈ pins', q.1 ∉ fp) → ∀ b ∈ fp, FpOk X' pins' H' b := fun hn hp b hb =>
    ⟨hn b hb, below b (fpl b hb), fun z => by
      rcases List.mem_cons.mp (I2.stkSub b z) with q | q
      · exact (f2 b hb).2.1 q
      · exact (f2 b hb).2.2.1 q, .inl hb, fun x c hx => (f2 b hb).2.2.2.2.1 x c (hin _ _ hx), fun q hq z => hp q hq (z ▸ hb)⟩
  have noPin : ∀ q ∈ ([] : List (Addr × Obj)), q.1 ∉ fp := fun _ z => nomatch z
  have tn0 : tn 0 h₁ := T.keep _ _ _ st2 fun b hb o e => old b o e
  have fr0 : ∀ b ∈ fp, (upd H2 s2.heap.objs.size (.lst [])) b = none := fun b hb => by
    rw [upd_ne (Nat.ne_of_lt (fpl b hb))]
    exact (f2 b hb).1
  have loop : ∀ s₃ : Shared, s₃ = { s2 with heap := h₁, toks := s2.toks + ([] : List (Str × Value)).length } →
      codeAny (model X.prog X.w) X.A (.compLoop (.ListComp elt [⟨target, iter, ifs, 0⟩] scope pos) 0 (.ref it) (.ref s2.heap.objs.size) (compEnvC scope cl H3.objs.size X.env))
        (compPost (model X.prog X.w) X.A X.xe use Qf (.ref s2.heap.objs.size) H3.objs.size) s₃ := by
    rintro s₃ rfl
    refine compLoop_gen (fun n s' => ∃ i σ' H', Inv X' [] σ' H' s' ∧ tn i s'.heap ∧ (∀ b ∈ fp, H' b = none) ∧ W i n σ' H') ?_ m0 ⟨0, _, _, I4 _, tn0, fr0, w0⟩
    rintro n s3 ⟨i, σ3, H3', I3, st3, fr3, w3⟩
    rcases turn i n σ3 H3' w3 with ⟨stop, qn⟩ | ⟨go, step⟩
    · refine thn (T.done X' rfl rfl rfl hc i [] s3 σ3 H3' _ I3 (stat fr3 noPin) st3 stop) fun r s4 ⟨hr, I4'⟩ => ?_
      subst hr
      have un := I4'.base
      refine fin _ _ H3' s4 (I2.call' I4'.os un I4'.hok I4'.bare fun b hb => ?_) qn I4'.free ?_ (Nat.le_trans I2.sz hCle) ?_ ?_ ?_
      · exact ⟨(f2 b hb).2.2.2.1, (f2 b hb).2.1, (f2 b hb).2.2.2.2.1, (f2 b hb).2.2.2.2.2⟩
      · exact Ne.symm (below _ I2.lt)
      · intro x c hx
        obtain ⟨v, o, ho, hd⟩ := I2.cell x c hx
        exact below c (Heap.lt_size ho)
      · intro q hq
        obtain ⟨e, _⟩ := I2.pin q hq
        exact below _ (Heap.lt_size e)
      · obtain ⟨m, hm, _⟩ := I4'.loc
        exact ⟨m, hm⟩
    · refine thn (T.item X' rfl rfl rfl hc i [] s3 σ3 H3' _ I3 (stat fr3 noPin) st3 go) fun r s4 ⟨u, hr, h4⟩ => ?_
      subst hr
      refine thn h4 fun _ s5 ⟨x, H5, I5, r5, y5, st5, fr5⟩ => ?_
      have I5' := I5.pinned (stat fr5 noPin) (T.obj _ _ st5)
      refine wpAny_mono (hg _ _ _ _ _ _ s5 σ3 H5 x u _ I5' r5 (step x H5 y5)) (fun _ s6 ⟨σ6, H6, I6, q6⟩ => ?_) fun _ _ z => z.elim
      have again : ∀ {σ7 : St} {H7 : Hp} {s7 : Shared} {m' : Nat}, Inv X' ([] ++ pinsAt fp s5.heap) σ7 H7 s7 → m' < n → W (i + 1) m' σ7 H7 → ∃ m, m < n ∧ ∃ i σ' H', Inv X' [] σ' H' s7 ∧ tn i s7.heap ∧ (∀ b ∈ fp, H' b = none) ∧ W i m σ' H' := fun {σ7 H7 s7 m'} I7 hm w7 => by
        refine ⟨m', hm, i + 1, σ7, H7, I7.unpinned, T.keep _ _ _ st5 fun b hb o e => (I7.pin (b, o) (List.mem_append_right _ (List.mem_append_right _ (mem_pinsAt hb e)))).1, fun b hb => ?_, w7⟩
        obtain ⟨o, e, d⟩ := T.obj _ _ st5 b hb
        exact (I7.pin (b, o) (List.mem_append_right _ (List.mem_append_right _ (mem_pinsAt hb e)))).2.1
      refine wpAny_mono (ht _ _ _ _ _ _ s6 σ6 H6 _ I6 q6) (fun ok s7 ⟨H7, I7, q7⟩ => ?_) fun _ _ z => z.elim
      cases ok with
      | false =>
        obtain ⟨m', hm, w7⟩ := q7
        exact again I7 hm w7
      | true =>
        refine wpAny_mono (he _ _ _ _ _ _ s7 σ6 H7 _ I7 q7) (fun yv s8 ⟨y, H8, I8, r8, q8⟩ => ?_) fun _ _ z => z.elim
        obtain ⟨xs, m', hD, hz, hm, w8⟩ := q8
        refine wpAny_mono (mt_append (X := X') _ s8 σ6 H8 (.ref s2.heap.objs.size) [y] (.ref s2.heap.objs.size) [yv] (fun _ H9 => W (i + 1) m' σ6 H9) I8 rfl (.cons r8 .nil) ⟨_, xs, y, rfl, rfl, hD, hz, w8⟩) (fun _ s9 ⟨_, H9, I9, _, q9⟩ => ?_) fun _ _ z => z.elim
        exact again I9 hm q9
  exact codeAny_compStart_list (loop _ rfl) (T.self _ 0 _ _ _ tn0 (loop _ rfl))
/-- what a block's rule may hang on -/
abbrev BK (α : Type) := List (Str × Addr) → Addr → Shared → Hp → List Addr → α
/-- [elt for target in iter if test] -/
theorem pe_comp {g : BK TG} {tc : BK TT} {te : BK TE} (tgs : List Str) (caps : List (Nat × Str)) (hc : X.calm = true) (hsc : compScopeOk scope (caps.map (·.2)) = true) (hcap : CapsOk X caps) (hi : PI X target iter wi)
    (hg : ∀ cl C s2 H2 fp, PG (cxComp X scope cl C (tgs ++ caps.map (·.2)) s2 H2 fp) target (g cl C s2 H2 fp))
    (ht : ∀ cl C s2 H2 fp, PTs (cxComp X scope cl C (tgs ++ caps.map (·.2)) s2 H2 fp) ifs (tc cl C s2 H2 fp))
    (he : ∀ cl C s2 H2 fp, PE (cxComp X scope cl C (tgs ++ caps.map (·.2)) s2 H2 fp) elt (te cl C s2 H2 fp))
    (eg : ∀ cl C s2 H2 fp, g cl C s2 H2 fp = g [] 0 X.s₀ X.H₀ [] := by intros; rfl) (et : ∀ cl C s2 H2 fp, tc cl C s2 H2 fp = tc [] 0 X.s₀ X.H₀ [] := by intros; rfl) (ee : ∀ cl C s2 H2 fp, te cl C s2 H2 fp = te [] 0 X.s₀ X.H₀ [] := by intros; rfl)
    (hs : ∀ x, foldedSetIterable iter X.env x = pure x := by intro _; rfl) :
    PE X (.ListComp elt [⟨target, iter, ifs, 0⟩] scope pos) (tComp wi (g [] 0 X.s₀ X.H₀ []) (tc [] 0 X.s₀ X.H₀ []) (te [] 0 X.s₀ X.H₀ []) (compSt tgs caps)) := by
  intro pins s σ H Q I h
  rw [eval_ListComp]
  refine comp_core (use := none) hc hsc hcap hi (fun cl C s2 H2 fp => eg cl C s2 H2 fp ▸ hg cl C s2 H2 fp) (fun cl C s2 H2 fp => et cl C s2 H2 fp ▸ ht cl C s2 H2 fp) (fun cl C s2 H2 fp => ee cl C s2 H2 fp ▸ he cl C s2 H2 fp) I h (fun D C H' s' I' q hC h1 h2 h3 h4 ⟨m, hm⟩ => ?_) hs
  refine ⟨m, hm, fun h' hsb => ?_⟩
  exact ⟨.ref D, H', I'.turned (t' := s'.toks) (fun b o hb e => hsb.extBut b o hb e) hC h1 (.inr h2) h3 h4, rfl, q⟩
/-- name = [elt for target in iter if test] -/
theorem ps_setComp {g : BK TG} {tc : BK TT} {te : BK TE} {i : Nat} {y : Str} {py spos : Pos} (tgs : List Str) (caps : List (Nat × Str)) (hN : X.N.Nodup) (hiN : X.N[i]? = some y) (hy : X.env.scope.names.lookup y = some .local) (hc : X.calm = true) (hsc : compScopeOk scope (caps.map (·.2)) = true) (hcap : CapsOk X caps) (hi : PI X target iter wi)
    (hg : ∀ cl C s2 H2 fp, PG (cxComp X scope cl C (tgs ++ caps.map (·.2)) s2 H2 fp) target (g cl C s2 H2 fp))
    (ht : ∀ cl C s2 H2 fp, PTs (cxComp X scope cl C (tgs ++ caps.map (·.2)) s2 H2 fp) ifs (tc cl C s2 H2 fp))
    (he : ∀ cl C s2 H2 fp, PE (cxComp X scope cl C (tgs ++ caps.map (·.2)) s2 H2 fp) elt (te cl C s2 H2 fp))
    (eg : ∀ cl C s2 H2 fp, g cl C s2 H2 fp = g [] 0 X.s₀ X.H₀ [] := by intros; rfl) (et : ∀ cl C s2 H2 fp, tc cl C s2 H2 fp = tc [] 0 X.s₀ X.H₀ [] := by intros; rfl) (ee : ∀ cl C s2 H2 fp, te cl C s2 H2 fp = te [] 0 X.s₀ X.H₀ [] := by intros; rfl)
    (hsw : swapsWith (.ListComp elt [⟨target, iter, ifs, 0⟩] scope pos) (some (.Name y py)) spos.line X.env = pure true := by rfl)
    (hs : ∀ x, foldedSetIterable iter X.env x = pure x := by intro _; rfl) :
    PS X (.Assign [.Name y py] (.ListComp elt [⟨target, iter, ifs, 0⟩] scope pos) spos) (tAsg (tComp wi (g [] 0 X.s₀ X.H₀ []) (tc [] 0 X.s₀ X.H₀ []) (te [] 0 X.s₀ X.H₀ []) (compSt tgs caps)) (gName i)) := by
  intro pins s σ H D I h
  rw [exec_Assign_Name_used _ _ _ _ hsw]
  refine wpAny_bind (wpAny_standAt (wpAny_bind ?_))
  show wpAny _ X.A (do let _ ← comprehension (.ListComp elt [⟨target, iter, ifs, 0⟩] scope pos) scope X.env _ (newList []) false (eval iter X.env) (some (assign (.Name y py) X.env))) _ _ s
  refine wpAny_bind (thn (comp_core (use := some (assign (.Name y py) X.env)) (Qf := fun _ s' => SP X pins D .next s') hc hsc hcap hi (fun cl C s2 H2 fp => eg cl C s2 H2 fp ▸ hg cl C s2 H2 fp) (fun cl C s2 H2 fp => et cl C s2 H2 fp ▸ ht cl C s2 H2 fp) (fun cl C s2 H2 fp => ee cl C s2 H2 fp ▸ he cl C s2 H2 fp) I h (fun Dd C H' s' I' q hC h1 h2 h3 h4 ⟨m, hm⟩ => ?_) hs) fun _ s' hq => wpAny_pure (wpAny_pure hq))
  show wpAny _ X.A (assign (.Name y py) X.env (.ref Dd)) _ _ _
  refine wpAny_assign_Name (store_ok2 I' hN hiN (.inl hy) (v := .ref Dd) rfl (fun s'' I'' ⟨a, hsb, ha⟩ => ?_) (.inr hy))
  have hCa : C ≠ a := by
    rcases ha with z | z
    · rw [z]; exact h1
    · exact Ne.symm (h3 _ _ z)
  refine ⟨m, hm.sameBut hsb hCa, fun h' hsb' => ?_⟩
  exact ⟨_, H', I''.turned (t' := s''.toks) (fun b o hb e => hsb'.extBut b o hb e) hC h1 (.inr h2) h3 h4, q⟩
end
end L2

end

section
namespace L2
open PySem PySem.Spec PyProof.Rows
/-! ### what is no longer asked may be forgotten -/
def OwnIn (H : Hp) (a : Addr) : HO → Prop
  | .ins _ dx _ => H dx = some (.own a)
  | .frz _ u => OwnIn H a u
  | _ => True
def Closed (H : Hp) : Prop := ∀ a o, H a = some o → OwnIn H a o
theorem OwnIn.of {P : Program} {w : World} {H : Hp} {h : Heap} {a : Addr} {o : HO} (x : ObjOk P w H h a o) : OwnIn H a o := by
  induction o with
  | ins C dx fs => exact x.1
  | frz ob u ih => exact ih x.2
  | _ => trivial
theorem HOk.closed {P : Program} {w : World} {H : Hp} {h : Heap} (x : HOk P w H h) : Closed H := fun a o e => OwnIn.of (x a o e)
theorem OwnIn.mono {H H' : Hp} {a : Addr} {o : HO} (s : ∀ b u, H b = some u → H' b = some u) (x : OwnIn H a o) : OwnIn H' a o := by
  induction o with
  | ins C dx fs => exact s _ _ x
  | frz ob u ih => exact ih x
  | _ => trivial
theorem ObjOk.sub {P : Program} {w : World} {H H' : Hp} {h : Heap} {a : Addr} {o : HO} (x : ObjOk P w H' h a o) (ow : OwnIn H a o) : ObjOk P w H h a o := by
  induction o with
  | ins C dx fs => exact ⟨ow, x.2⟩
  | frz ob u ih => exact ⟨x.1, ih x.2 ow⟩
  | lst _ => exact x
  | tup _ => exact x
  | dK _ => exact x
  | dT _ => exact x
  | set _ _ => exact x
  | own _ => exact x
  | xd _ => exact x
  | met _ _ => exact x
  | rng _ _ => exact x
  | tbl _ => exact x
  | ext _ => exact x
/-- from H on, H' was reached; of it H'' is still asked -/
structure Sub (H H'' H' : Hp) : Prop where
  le : Same H'' H'
  ge : ∀ b o, H b = some o → ∃ u, H'' b = some u
  cl : Closed H → Closed H''
theorem Sub.refl {H H' : Hp} (h : Same H H') : Sub H H H' := ⟨h, fun _ o e => ⟨o, e⟩, id⟩
theorem Sub.all {H H' : Hp} (h : ∀ b o, H b = some o → ∃ u, H' b = some u) (c : Closed H → Closed H') : Sub H H' H' := ⟨Same.refl _, h, c⟩
theorem same_new {H : Hp} {p : Addr} {o : HO} (h : H p = none) : Same H (upd H p o) := fun b u q => by rw [upd_ne (ne_of_none q h)]; exact q
theorem closed_new {H : Hp} {p : Addr} {o : HO} (c : Closed H) (h : H p = none) (ho : OwnIn (upd H p o) p o) : Closed (upd H p o) := fun a u e => by
  by_cases z : a = p
  · subst z; rw [upd_same] at e; cases e; exact ho
  · rw [upd_ne z] at e
    exact (c a u e).mono (same_new h)
theorem Sub.new {H H' : Hp} {p : Addr} {o : HO} (h : H p = none) (hs : Same H H') (e : H' p = some o) (ho : OwnIn (upd H p o) p o) : Sub H (upd H p o) H' :=
  ⟨fun b u q => by
    by_cases z : b = p
    · subst z; rw [upd_same] at q; cases q; exact e
    · rw [upd_ne z] at q; exact hs b u q, fun b u q => ⟨u, same_new h b u q⟩, fun c => closed_new c h ho⟩
theorem Sub.ins {H H' : Hp} {p C dx : Addr} {fs fs' : List (Str × V)} (h : H p = some (.ins C dx fs)) (hs : ∀ b u, b ≠ p → H b = some u → H' b = some u) (e : H' p = some (.ins C dx fs')) : Sub H (upd H p (.ins C dx fs')) H' :=
  ⟨fun b u q => by
    by_cases z : b = p
    · subst z; rw [upd_same] at q; cases q; exact e
    · rw [upd_ne z] at q; exact hs b u z q, fun b u q => by
    by_cases z : b = p
    · subst z; exact ⟨_, upd_same⟩
    · exact ⟨u, by rw [upd_ne z]; exact q⟩, fun c a u q => by
    have hd : H dx = some (.own p) := c p _ h
    have nd : dx ≠ p := fun z => by rw [z, h] at hd; cases hd
    by_cases z : a = p
    · subst z; rw [upd_same] at q; cases q
      show upd H a _ dx = _
      rw [upd_ne nd]; exact hd
    · rw [upd_ne z] at q
      have x := c a u q
      revert x
      generalize u = o
      clear q
      induction o with
      | ins C' d' f' =>
        intro (x : H d' = some (.own a))
        show upd H p _ d' = _
        rw [upd_ne (fun y => by rw [y, h] at x; cases x)]; exact x
      | frz ob u ih => intro x; exact ih x
      | _ => intro _; trivial⟩
section
variable {X : Cx} {pins : List (Addr × Obj)} {σ : St} {H H' H'' : Hp} {s s0 : Shared}
theorem Un.sub {fs ex : List Addr} {H0 : Hp} {h h1 h2 : Heap} (u0 : Un fs ex H0 H h h1) (u : Un fs ex H0 H' h h2) (d : Sub H H'' H') : Un fs ex H0 H'' h h2 := by
  refine ⟨u.keep, u.slot, fun b o e n hx => ?_, u.there, fun b xs e => ?_, fun b o v e => ?_, fun b ps e => ?_⟩
  · cases q : H'' b with
    | none => rfl
    | some v => have := d.le b v q; rw [u.free b o e n hx] at this; cases this
  · obtain ⟨v, hv⟩ := d.ge b _ (u0.tups b xs e)
    have := d.le b v hv; rw [u.tups b xs e] at this; cases this; exact hv
  · obtain ⟨z, hv⟩ := d.ge b _ (u0.frzs b o v e)
    have := d.le b z hv; rw [u.frzs b o v e] at this; cases this; exact hv
  · obtain ⟨m0, e0⟩ := u0.tbls b ps e
    obtain ⟨z, hv⟩ := d.ge b _ e0
    obtain ⟨m, e1⟩ := u.tbls b ps e
    have := d.le b z hv; rw [e1] at this; cases this; exact ⟨m, hv⟩
theorem HOk.sub {P : Program} {w : World} {h : Heap} (x : HOk P w H' h) (c : Closed H'') (d : Same H'' H') : HOk P w H'' h := fun a o e => (x a o (d a o e)).sub (c a o e)
theorem Same.none_of {H1 H2 : Hp} (d : Same H1 H2) {b : Addr} (n : H2 b = none) : H1 b = none := d.free n
theorem Inv.sub {σ0 : St} (I0 : Inv X pins σ0 H s0) (I : Inv X pins σ H' s) (d : Sub H H'' H') : Inv X pins σ H'' s :=
  ⟨I.ok, I.os, I.bare, I0.base.sub I.base d, I.loc, I.cell, d.le.free I.free, fun x c e => d.le.free (I.freeC x c e),
    fun p hp => let ⟨a, b, c⟩ := I.pin p hp; ⟨a, d.le.free b, c⟩, I.hok.sub (d.cl I0.hok.closed) d.le, I.len⟩
theorem SP.sub {D : Ends} {f : Flow} {s' : Shared} (I : Inv X pins σ H s)
    (h : SP X pins { nx := fun σ' H' => ∃ H'', Sub H H'' H' ∧ D.nx σ' H'', rt := fun v H' => ∃ H'', Sub H H'' H' ∧ D.rt v H'', bk := fun σ' H' => ∃ H'', Sub H H'' H' ∧ D.bk σ' H'', ct := fun σ' H' => ∃ H'', Sub H H'' H' ∧ D.ct σ' H'' } f s') : SP X pins D f s' := by
  cases f with
  | next => obtain ⟨σ', H', I', H'', d, q⟩ := h; exact ⟨σ', H'', I.sub I' d, q⟩
  | brk => obtain ⟨σ', H', I', H'', d, q⟩ := h; exact ⟨σ', H'', I.sub I' d, q⟩
  | cont => obtain ⟨σ', H', I', H'', d, q⟩ := h; exact ⟨σ', H'', I.sub I' d, q⟩
  | ret u => obtain ⟨v, σ', H', I', r, H'', d, q⟩ := h; exact ⟨v, σ', H'', I.sub I' d, r, q⟩
end
/-- a def's promise, less asked behind it -/
theorem FnOk.keep {P : Program} {w : World} {K : PySem.W.Frag} {mg : Str → Option Value} {base : Heap} {k : Nat} {f : Addr} {fd : FuncData} {ps : List Str} {sp sp' : Sp} (F : FnOk P w K mg base CX0 k f fd ps sp)
    (h : ∀ vs H Q E, sp' vs H Q E → sp vs H (fun v H' => ∃ H'', Sub H H'' H' ∧ Q v H'') E) : FnOk P w K mg base CX0 k f fd ps sp' := by
  refine ⟨fun vs H Q E q => F.len vs H _ E (h vs H Q E q), fun A outer s H args us vs Q E hr e0 hb r q => codeAny_mono (F.run A outer s H args us vs _ E hr e0 hb r (h vs H Q E q)) fun rs s' c => ?_⟩
  cases rs with
  | error e => exact c
  | ok fl =>
    cases fl with
    | ret u =>
      obtain ⟨v, H', os, bare, un, hok, rv, H'', d, q'⟩ := c
      exact ⟨v, H'', os, bare, Un.sub (Un.refl (h := s.heap)) un d, hok.sub (d.cl e0.hok.closed) d.le, rv, q'⟩
    | next => exact c
    | brk => exact c
    | cont => exact c
/-- THE RULE for a def without refusals: its body as a term of rules, the reading of that term, less asked behind it -/
theorem Fun.okK {P : Program} {w : World} {K : PySem.W.Frag} {mg : Str → Option Value} {base : Heap} {x qual : Str} {st : Stmt} {f : Addr} {fd : FuncData} {N ps : List Str} {k : Nat} {sp : Sp} (F : Fun K x qual st f fd) (S : FnScope N ps (defScope st)) (len : ∀ vs H Q E, sp vs H Q E → vs.length = ps.length)
    (hbody : ∀ (cdv : Value) (A : Around) (outer : List Env) (s : Shared) (H : Hp) (vs : List V) (Q : VK) (E : XK), Room k (A.deeper (envOfC qual (defScope st) s.heap.objs.size f cdv)) → sp vs H Q E →
      ∃ t, PSs (cxOf CX0 P w K mg base N qual (defScope st) f cdv A outer s H E).nox (defBody st) t ∧ t { nx := fun _ H' => ∃ H'', Sub H H'' H' ∧ Q .non H'', rt := fun v H' => ∃ H'', Sub H H'' H' ∧ Q v H'' } (start N vs) H) : FnOk P w K mg base CX0 (k + 1) f fd ps sp :=
  (F.ok (sp := fun vs H Q E => ∃ Q', Q = (fun v H' => ∃ H'', Sub H H'' H' ∧ Q' v H'') ∧ sp vs H Q' E) S (fun vs H Q E ⟨Q', _, h⟩ => len vs H Q' E h) (fun cdv A outer s H vs Q E hr ⟨Q', e, h⟩ => by
    subst e
    exact hbody cdv A outer s H vs Q' E hr h)).keep fun vs H Q E h => ⟨Q, rfl, h⟩
end L2

end

section
namespace KM
/-! bits, the higher ones first -/
def bitsW (n : Nat) : Nat → List Bool
  | 0 => []
  | w + 1 => n.testBit w :: bitsW n w
def blen (n : Nat) : Nat := if n = 0 then 0 else n.log2 + 1
theorem bitsW_length (n w : Nat) : (bitsW n w).length = w := by
  induction w with
  | zero => rfl
  | succ w ih => simp [bitsW, ih]
theorem blen_lt (n : Nat) : n < 2 ^ blen n := by
  unfold blen
  split
  · omega
  · exact Nat.lt_log2_self
theorem blen_le {n w : Nat} (h : n < 2 ^ w) : blen n ≤ w := by
  unfold blen
  split
  · omega
  · rename_i h0
    exact (Nat.log2_lt h0).mpr h
theorem blen_pos {n : Nat} (h : n ≠ 0) : 0 < blen n := by unfold blen; rw [if_neg h]; omega
theorem blen_ge {n : Nat} (h : n ≠ 0) : 2 ^ (blen n - 1) ≤ n := by
  unfold blen; rw [if_neg h]; exact Nat.log2_self_le h
/-- reading: from a on -/
def rd (a : Nat) (l : List Bool) : Nat := l.foldl (fun x b => 2 * x + b.toNat) a
theorem rd_nil (a : Nat) : rd a [] = a := rfl
theorem rd_cons (a : Nat) (b : Bool) (l : List Bool) : rd a (b :: l) = rd (2 * a + b.toNat) l := rfl
theorem rd_append (a : Nat) (l m : List Bool) : rd a (l ++ m) = rd (rd a l) m := by simp [rd, List.foldl_append]
theorem rd_bits (a n w : Nat) : rd a (bitsW n w) = a * 2 ^ w + n % 2 ^ w := by
  induction w generalizing a with
  | zero => simp [bitsW, rd, Nat.mod_one]
  | succ w ih =>
    rw [bitsW, rd_cons, ih]
    have h : n % 2 ^ (w + 1) = (n.testBit w).toNat * 2 ^ w + n % 2 ^ w := by
      rw [Nat.pow_succ, Nat.mod_mul, Nat.testBit_eq_decide_div_mod_eq, Nat.add_comm, Nat.mul_comm]
      congr 1
      have : n / 2 ^ w % 2 < 2 := Nat.mod_lt _ (by decide)
      by_cases q : n / 2 ^ w % 2 = 1
      · simp [q]
      · have : n / 2 ^ w % 2 = 0 := by omega
        simp [this]
    rw [h, Nat.pow_succ, Nat.add_mul]
    have e : 2 * a * 2 ^ w = a * (2 ^ w * 2) := by rw [Nat.mul_comm 2 a, Nat.mul_assoc, Nat.mul_comm 2 (2 ^ w)]
    omega
theorem rd_top {n : Nat} (h : n ≠ 0) : rd 1 (bitsW n (blen n - 1)) = n := by
  rw [rd_bits, Nat.one_mul]
  have h1 := blen_ge h
  have h2 := blen_lt n
  have h3 := blen_pos h
  have e : 2 ^ blen n = 2 ^ (blen n - 1) * 2 := by rw [← Nat.pow_succ]; congr 1; omega
  have : n % 2 ^ (blen n - 1) = n - 2 ^ (blen n - 1) := by
    rw [Nat.mod_eq_sub_mod h1, Nat.mod_eq_of_lt (by omega)]
  omega
/-! order: at the first place where they part the one has 0, the other 1 -/
def Sep (a b : List Bool) : Prop := ∃ c x y, a = c ++ false :: x ∧ b = c ++ true :: y
theorem Sep.pre (p : List Bool) {a b : List Bool} (h : Sep a b) : Sep (p ++ a) (p ++ b) := by
  obtain ⟨c, x, y, rfl, rfl⟩ := h
  exact ⟨p ++ c, x, y, by simp, by simp⟩
theorem Sep.post {a b : List Bool} (h : Sep a b) (u v : List Bool) : Sep (a ++ u) (b ++ v) := by
  obtain ⟨c, x, y, rfl, rfl⟩ := h
  exact ⟨c, x ++ u, y ++ v, by simp, by simp⟩
theorem Sep.turn {a b : List Bool} (h : Sep a b) : Sep (b.map (!·)) (a.map (!·)) := by
  obtain ⟨c, x, y, rfl, rfl⟩ := h
  exact ⟨c.map (!·), y.map (!·), x.map (!·), by simp, by simp⟩
theorem Sep.np {a b : List Bool} (h : Sep a b) : ¬ a <+: b := by
  obtain ⟨c, x, y, rfl, rfl⟩ := h
  rintro ⟨t, e⟩
  simp only [List.append_assoc] at e
  have := List.append_cancel_left e
  simp at this
/-! the row of a count -/
def cend (e : Nat) : List Bool := if e = 8 then [] else [false]
def cnt (n : Nat) : List Bool :=
  List.replicate (blen (blen (n + 1)) - 1) true ++ (cend (blen (blen (n + 1))) ++ (bitsW (blen (n + 1)) (blen (blen (n + 1)) - 1) ++ bitsW (n + 1) (blen (n + 1) - 1)))
theorem cnt_length {n : Nat} (h : n + 1 < 2 ^ 255) : (cnt n).length ≤ blen (n + 1) + 14 := by
  unfold cnt
  have hd : blen (n + 1) ≤ 255 := blen_le h
  have he : blen (blen (n + 1)) ≤ 8 := blen_le (by omega)
  have hq : 0 < blen (n + 1) := blen_pos (by omega)
  simp only [List.length_append, List.length_replicate, bitsW_length]
  have : (cend (blen (blen (n + 1)))).length ≤ if blen (blen (n + 1)) = 8 then 0 else 1 := by
    unfold cend; split <;> simp
  split at this <;> omega

/-! the row of a whole number -/
def whl (n : Int) : List Bool := if n < 0 then false :: (cnt (-1 - n).toNat).map (!·) else true :: cnt n.toNat
end KM
namespace KM
/-- where the parts of a count's row lie -/
structure CntAt (L : List Bool) (p n : Nat) : Prop where
  ones : ∀ j, j < blen (blen (n + 1)) - 1 → L.getD (p + j) false = true
  zero : blen (blen (n + 1)) < 8 → L.getD (p + (blen (blen (n + 1)) - 1)) false = false
  size : (L.drop (p + (blen (blen (n + 1)) - 1) + (cend (blen (blen (n + 1)))).length)).take (blen (blen (n + 1)) - 1) = bitsW (blen (n + 1)) (blen (blen (n + 1)) - 1)
  more : (L.drop (p + (blen (blen (n + 1)) - 1) + (cend (blen (blen (n + 1)))).length + (blen (blen (n + 1)) - 1))).take (blen (n + 1) - 1) = bitsW (n + 1) (blen (n + 1) - 1)
  fits : p + (cnt n).length ≤ L.length
theorem cnt_len (n : Nat) : (cnt n).length = (blen (blen (n + 1)) - 1) + (cend (blen (blen (n + 1)))).length + (blen (blen (n + 1)) - 1) + (blen (n + 1) - 1) := by
  unfold cnt
  simp only [List.length_append, List.length_replicate, bitsW_length]
  omega
theorem cnt_at {L : List Bool} {p n : Nat} (h : cnt n <+: L.drop p) (hp : p ≤ L.length) : CntAt L p n := by
  obtain ⟨r, e⟩ := h
  have hl := congrArg List.length e
  rw [List.length_append, List.length_drop] at hl
  have key : ∀ j, j < (cnt n).length → L.getD (p + j) false = (cnt n).getD j false := by
    intro j hj
    have : (L.drop p)[j]? = (cnt n)[j]? := by rw [← e, List.getElem?_append_left hj]
    rw [List.getElem?_drop] at this
    rw [List.getD_eq_getElem?_getD, List.getD_eq_getElem?_getD, this]
  have cl := cnt_len n
  refine ⟨fun j hj => ?_, fun h8 => ?_, ?_, ?_, by omega⟩
  · rw [key j (by omega)]
    unfold cnt
    rw [List.getD_eq_getElem?_getD, List.getElem?_append_left (by simpa using hj), List.getElem?_replicate, if_pos hj]; rfl
  · have c1 : (cend (blen (blen (n + 1)))) = [false] := by unfold cend; rw [if_neg (by omega)]
    rw [key _ (by rw [cl, c1]; simp only [List.length_cons, List.length_nil]; omega)]
    unfold cnt
    rw [c1, List.getD_eq_getElem?_getD, List.getElem?_append_right (by simp)]
    simp
  · have : L.drop (p + (blen (blen (n + 1)) - 1) + (cend (blen (blen (n + 1)))).length) = bitsW (blen (n + 1)) (blen (blen (n + 1)) - 1) ++ bitsW (n + 1) (blen (n + 1) - 1) ++ r := by
      rw [Nat.add_assoc, ← List.drop_drop, ← e]
      unfold cnt
      rw [← List.append_assoc, ← List.append_assoc, List.append_assoc (List.replicate _ _ ++ _), List.append_assoc (List.replicate _ _ ++ _)]
      have : (blen (blen (n + 1)) - 1) + (cend (blen (blen (n + 1)))).length = (List.replicate (blen (blen (n + 1)) - 1) true ++ cend (blen (blen (n + 1)))).length := by simp
      rw [this, List.drop_left]
    rw [this, List.append_assoc, List.take_left' (bitsW_length _ _)]
  · have : L.drop (p + (blen (blen (n + 1)) - 1) + (cend (blen (blen (n + 1)))).length + (blen (blen (n + 1)) - 1)) = bitsW (n + 1) (blen (n + 1) - 1) ++ r := by
      rw [Nat.add_assoc, Nat.add_assoc, ← List.drop_drop, ← e]
      unfold cnt
      have e2 : (List.replicate (blen (blen (n + 1)) - 1) true ++ (cend (blen (blen (n + 1))) ++ (bitsW (blen (n + 1)) (blen (blen (n + 1)) - 1) ++ bitsW (n + 1) (blen (n + 1) - 1)))) ++ r = (List.replicate (blen (blen (n + 1)) - 1) true ++ cend (blen (blen (n + 1))) ++ bitsW (blen (n + 1)) (blen (blen (n + 1)) - 1)) ++ (bitsW (n + 1) (blen (n + 1) - 1) ++ r) := by simp
      rw [e2]
      have : (blen (blen (n + 1)) - 1) + ((cend (blen (blen (n + 1)))).length + (blen (blen (n + 1)) - 1)) = (List.replicate (blen (blen (n + 1)) - 1) true ++ cend (blen (blen (n + 1))) ++ bitsW (blen (n + 1)) (blen (blen (n + 1)) - 1)).length := by simp [bitsW_length, Nat.add_assoc]
      rw [this, List.drop_left]
    rw [this, List.take_left' (bitsW_length _ _)]
end KM

end

section
namespace KM
open PySem L2
/-! ### rows as texts -/
def bc (b : Bool) : Nat := if b then 49 else 48
def rowS (l : List Bool) : Str := ⟨(l.map bc).toArray⟩
theorem str_ext {a b : Str} (h : a.cps.toList = b.cps.toList) : a = b := by
  obtain ⟨x⟩ := a; obtain ⟨y⟩ := b
  exact congrArg Str.mk (Array.ext' h)
theorem rowS_cps (l : List Bool) : (rowS l).cps.toList = l.map bc := by simp [rowS]
theorem rowS_length (l : List Bool) : (rowS l).length = l.length := by simp [rowS, Str.length]
theorem bc_inj {a b : Bool} (h : bc a = bc b) : a = b := by cases a <;> cases b <;> first | rfl | (revert h; decide)
theorem rowS_inj {a b : List Bool} (h : rowS a = rowS b) : a = b := by
  have := congrArg (fun x : Str => x.cps.toList) h
  simp only [rowS_cps] at this
  exact List.map_inj_right (fun _ _ => bc_inj) |>.mp this
theorem rowS_append (a b : List Bool) : rowS a ++ rowS b = rowS (a ++ b) := by
  apply str_ext
  show ((rowS a).cps ++ (rowS b).cps).toList = _
  rw [Array.toList_append, rowS_cps, rowS_cps, rowS_cps, List.map_append]
theorem s1 : (Str.ofString "1") = rowS [true] := by decide +kernel
theorem s0 : (Str.ofString "0") = rowS [false] := by decide +kernel
theorem sE : (Str.ofString "") = rowS [] := by decide +kernel
theorem rowS_dec (a b : List Bool) : decide (V.str (rowS a) = V.str (rowS b)) = decide (a = b) := by
  by_cases h : a = b
  · subst h; simp
  · have : ¬ V.str (rowS a) = V.str (rowS b) := fun q => h (rowS_inj (V.str.inj q))
    rw [decide_eq_false h, decide_eq_false this]
/-! joined, cut -/
theorem join_nil_cps : ∀ ys : List Str, (Txt.join (Str.ofString "") ys).cps.toList = (ys.map (·.cps.toList)).flatten := by
  have e : (Str.ofString "").cps = #[] := by decide +kernel
  have key : ∀ (ys : List Str) (acc : Array Nat), (ys.foldl (fun acc p => acc ++ (Str.ofString "").cps ++ p.cps) acc).toList = acc.toList ++ (ys.map (·.cps.toList)).flatten := by
    intro ys
    induction ys with
    | nil => intro acc; simp
    | cons y r ih => intro acc; rw [List.foldl_cons, ih, e]; simp
  intro ys
  cases ys with
  | nil => rfl
  | cons y r =>
    show ((r.foldl (fun acc p => acc ++ (Str.ofString "").cps ++ p.cps) y.cps)).toList = _
    rw [key]; simp
theorem join_rows (ls : List (List Bool)) : Txt.join (Str.ofString "") (ls.map rowS) = rowS ls.flatten := by
  apply str_ext
  rw [join_nil_cps, rowS_cps, List.map_map, List.map_flatten]
  exact congrArg List.flatten (List.map_congr_left fun l _ => rowS_cps l)
theorem flat_ones (l : List Bool) : (l.map fun b => [b]).flatten = l := by
  induction l with
  | nil => rfl
  | cons b r ih => rw [List.map_cons, List.flatten_cons, ih]; rfl
theorem join_bits (l : List Bool) : Txt.join (Str.ofString "") (l.map fun b => rowS [b]) = rowS l := by
  have := join_rows (l.map fun b => [b])
  rw [List.map_map] at this
  rw [show (fun b => rowS [b]) = rowS ∘ (fun b => [b]) from rfl, this]
  exact congrArg rowS (flat_ones l)
theorem mul_row (b : Bool) (n : Int) : Txt.mul (rowS [b]) n = rowS (List.replicate n.toNat b) := by
  unfold Txt.mul
  by_cases h : n < 1
  · rw [if_pos h, show n.toNat = 0 by omega]; rfl
  · rw [if_neg h]
    by_cases h1 : n = 1
    · subst h1; rfl
    · have : (n == 1 || (rowS [b]).length == 0) = false := by simp [rowS_length, h1]
      rw [this, if_neg (by decide)]
      apply str_ext
      have key : ∀ (k : Nat) (acc : Array Nat), ((List.replicate k (rowS [b]).cps).foldl (· ++ ·) acc).toList = acc.toList ++ (List.replicate k b).map bc := by
        intro k
        induction k with
        | zero => intro acc; simp
        | succ k ih => intro acc; rw [List.replicate_succ, List.foldl_cons, ih, List.replicate_succ]; simp [rowS]
      rw [rowS_cps]
      simpa using key n.toNat #[]
theorem sliceIx (lo hi : Option Int) (n : Nat) : Builtin.Str.strSliceIndices lo hi 1 n = (List.range (HT.sIx n n hi - HT.sIx n 0 lo)).map (HT.sIx n 0 lo + ·) := by
  unfold Builtin.Str.strSliceIndices
  rw [← sliceRange_one]
  simp only [show ((1 : Int) > 0) = True from eq_true (by decide), if_true]
  congr 1
  · cases lo with
    | none => rfl
    | some i =>
      simp only [HT.sIx]
      by_cases h : i < 0
      · simp only [h, if_true]; omega
      · simp only [h, if_false]; omega
  · cases hi with
    | none => rfl
    | some i =>
      simp only [HT.sIx]
      by_cases h : i < 0
      · simp only [h, if_true]; omega
      · simp only [h, if_false]; omega
theorem slice_cps (x : Str) (lo hi : Option Int) : (Txt.slice x lo hi).cps.toList = (x.cps.toList.drop (HT.sIx x.length 0 lo)).take (HT.sIx x.length x.length hi - HT.sIx x.length 0 lo) := by
  have hl : x.cps.toList.length = x.length := by simp [Str.length]
  have h1 := HT.sIx_le x.length x.length (Nat.le_refl _) hi
  have h2 := HT.sIx_le x.length 0 (Nat.zero_le _) lo
  unfold Txt.slice
  rw [sliceIx]
  split
  · rename_i c
    simp only [List.length_map, List.length_range, Bool.and_eq_true, beq_iff_eq] at c
    have a0 : HT.sIx x.length 0 lo = 0 ∨ x.length = 0 := by omega
    rcases a0 with a0 | a0
    · rw [a0, List.drop_zero, List.take_of_length_le (by omega)]
    · have : x.cps.toList = [] := List.length_eq_zero_iff.mp (by omega)
      rw [this]; simp
  · rw [pick_run]
theorem slice_row (l : List Bool) (lo hi : Option Int) : Txt.slice (rowS l) lo hi = rowS ((l.drop (HT.sIx l.length 0 lo)).take (HT.sIx l.length l.length hi - HT.sIx l.length 0 lo)) := by
  apply str_ext
  rw [slice_cps, rowS_cps, rowS_cps, rowS_length, List.map_take, List.map_drop]
/-! order -/
/-! one sign -/
theorem row_item {l : List Bool} {i : Nat} {b : Bool} (h : l[i]? = some b) : (rowS l).cps.toList[i]? = some (bc b) := by rw [rowS_cps, List.getElem?_map, h]; rfl
theorem sign_row (b : Bool) : (⟨#[bc b]⟩ : Str) = rowS [b] := rfl
theorem sign_int (b : Bool) : PySem.intText? (rowS [b]) = some (b.toNat : Int) := by cases b <;> decide +kernel
theorem bits_eq (n : Nat) : Builtin.Int.intBits ((n : Nat) : Int) = blen n := by
  unfold Builtin.Int.intBits blen
  by_cases h : n = 0
  · subst h; rfl
  · have : (((n : Nat) : Int) == 0) = false := by simpa using h
    rw [this, if_neg (by decide), if_neg h]
    simp
end KM
namespace KM
open PySem L2
theorem row_sign {l : List Bool} {i c : Nat} (h : (rowS l).cps[i]? = some c) : V.str ⟨#[c]⟩ = V.str (rowS [l.getD i false]) := by
  have h' : (rowS l).cps.toList[i]? = some c := by simpa using h
  rw [rowS_cps, List.getElem?_map] at h'
  rw [List.getD_eq_getElem?_getD]
  cases e : l[i]? with
  | none => rw [e] at h'; cases h'
  | some b =>
    rw [e] at h'
    have : bc b = c := Option.some.inj h'
    rw [← this]; rfl
end KM

end

section
namespace L2
open PySem PySem.Spec PyProof.Rows
/-! ### one rule for each operation, whatever it is given -/
section
variable {X : Cx}
def oAdd := OpR.or (op_add (X := X)) op_add_str
theorem oSub : OpR X (binaryOp .Sub) (rI0 fun i j => .int (i - j)) := op_sub
def oMul := OpR.or (op_mul (X := X)) op_mul_str
def oLt := OpR.or (op_lt (X := X)) op_lt_str
def iAll := IxR.or (IxR.or (ix_list (X := X)) ix_tup) ix_str
def slAll := SlR.or (sl_list (X := X)) sl_str
theorem PI.or {tg it : Expr} {wi wi' : TI} (h : PI X tg it wi) (h' : PI X tg it wi') : PI X tg it (fun σ H R => wi σ H R ∨ wi' σ H R) := fun pins s σ H R I q => q.elim (h pins s σ H R I) (h' pins s σ H R I)
theorem piAll {tg l : Expr} {tl : TE} (hl : PE X l tl) : PI X tg l (fun σ H R => iList X.K tl σ H R ∨ iStr tl σ H R) := (pi_list hl).or (pi_str hl)
end
/-! ### defs by name -/
/-- a def of the text stands at the top -/
def FunAt (K : PySem.W.Frag) (mg : Str → Option Value) (x : Str) (st : Stmt) (ps : List Str) (f : Addr) (fd : FuncData) : Prop := Fun K x x st f fd ∧ Binds K fd ps [] ∧ mg x = some (.ref f)
/-- a def keeps its promise -/
def DefOk (P : Program) (w : World) (K : PySem.W.Frag) (mg : Str → Option Value) (base : Heap) (k : Nat) (x : Str) (ps : List Str) (sp : Sp) : Prop :=
  ∃ f fd, FnOk P w K mg base CX0 k f fd ps sp ∧ Binds K fd ps [] ∧ PySem.W.keepIn K (.ref f) = true ∧ mg x = some (.ref f)
def MethOk (P : Program) (w : World) (K : PySem.W.Frag) (mg : Str → Option Value) (base : Heap) (k : Nat) (C : Addr) (m : Str) (ps : List Str) (sp : Sp) : Prop :=
  ∃ f fd, FnOk P w K mg base CX0 k f fd ps sp ∧ Binds K fd ps [] ∧ Meth K C m f
def MakeOk (P : Program) (w : World) (K : PySem.W.Frag) (mg : Str → Option Value) (base : Heap) (k : Nat) (x : Str) (C : Addr) (ps : List Str) (sp : Sp) : Prop :=
  ∃ f fd, Mk K C f ∧ FnOk P w K mg base CX0 k f fd ps sp ∧ Binds K fd ps [] ∧ mg x = some (.ref C)
def GlobV (mg : Str → Option Value) (x : Str) (v : V) : Prop := ∃ u, mg x = some u ∧ RelV v u
section
variable {X : Cx} {k k' : Nat} {x m : Str} {C : Addr} {ps : List Str} {sp : Sp} {e o : Expr} {es : List Expr} {t : TA} {ta : TE} {p pos apos : Pos} {v : V}
theorem pe_globV (h : GlobV X.mg x v) (hg : Gl X x := by rfl) (hd : (x == ("__debug__" : Str)) = false := by decide +kernel) : PE X (.Name x p) (tC v) := by
  obtain ⟨u, h1, h2⟩ := h
  exact pe_glob hg h1 h2 hd
theorem pe_callD (h : DefOk X.prog X.w X.K X.mg X.base k x ps sp) (hr : Room k' X.A) (ha : PA X (e :: es) t) (hk : k ≤ k' := by decide) (hg : Gl X x := by rfl) (hdb : (x == ("__debug__" : Str)) = false := by decide +kernel)
    (he : starEach (e :: es) X.env = (false, eval e X.env) :: starEach es X.env := by rfl) (hpl : (backTo pos (starEach es X.env)).any (·.1) = false := by rfl) : PE X (.Call (.Name x p) (e :: es) [] pos) (tCall sp [] E0 t) := by
  obtain ⟨f, fd, F, hb, kp, hm⟩ := h
  exact pe_call F (hr.mono hk) hg hm kp hb .nil pass0 ha hdb he hpl
theorem pe_methD {pl : Sem Bool} (h : MethOk X.prog X.w X.K X.mg X.base k C m ps sp) (c : Cls X.K C) (hr : Room k' X.A) (he : PE X o ta) (ha : PA X (e :: es) t) (hk : k ≤ k' := by decide)
    (hst : starEach (e :: es) X.env = (false, eval e X.env) :: starEach es X.env := by rfl) (hpl : (backTo pos (starEach es X.env)).any (·.1) = false := by rfl)
    (ht : eval (.Call (.Attribute o m apos) (e :: es) [] pos) X.env = (do
      let ov ← eval o X.env
      standAt apos.atName
      let (f, first) ← holding [ov] (getMethod ov m pl)
      callWith pos f first (backTo pos (starEach (e :: es) X.env)) (backToKw pos (keywordEach [] X.env))) := by rfl) :
    PE X (.Call (.Attribute o m apos) (e :: es) [] pos) (tMeth C m sp [] E0 ta t) := by
  obtain ⟨f, fd, F, hb, hm⟩ := h
  exact pe_meth he c hm F (hr.mono hk) hb .nil pass0 ha hst hpl ht
theorem pe_methD0 {pl : Sem Bool} (h : MethOk X.prog X.w X.K X.mg X.base k C m ps sp) (c : Cls X.K C) (hr : Room k' X.A) (he : PE X o ta) (hk : k ≤ k' := by decide)
    (ht : eval (.Call (.Attribute o m apos) [] [] pos) X.env = (do
      let ov ← eval o X.env
      standAt apos.atName
      let (f, first) ← holding [ov] (getMethod ov m pl)
      callWith pos f first (backTo pos (starEach [] X.env)) (backToKw pos (keywordEach [] X.env))) := by rfl) :
    PE X (.Call (.Attribute o m apos) [] [] pos) (tMeth C m sp [] E0 ta tNil) := by
  obtain ⟨f, fd, F, hb, hm⟩ := h
  exact pe_meth0 he c hm F (hr.mono hk) hb .nil pass0 ht
theorem pe_makeD (h : MakeOk X.prog X.w X.K X.mg X.base k x C ps sp) (hr : Room k' X.A) (ha : PA X (e :: es) t) (hk : k + 1 ≤ k' := by decide) (hg : Gl X x := by rfl) (hdb : (x == ("__debug__" : Str)) = false := by decide +kernel)
    (he : starEach (e :: es) X.env = (false, eval e X.env) :: starEach es X.env := by rfl) (hpl : (backTo pos (starEach es X.env)).any (·.1) = false := by rfl) : PE X (.Call (.Name x p) (e :: es) [] pos) (tMake C sp [] E0 t) := by
  obtain ⟨f, fd, M, F, hb, hm⟩ := h
  exact pe_make M F (hr.mono hk) hg hm hb .nil pass0 ha hdb he hpl
end
/-- THE RULE for a def without refusals, by name -/
theorem FunAt.ok {P : Program} {w : World} {K : PySem.W.Frag} {mg : Str → Option Value} {base : Heap} {x : Str} {st : Stmt} {f : Addr} {fd : FuncData} {N ps : List Str} {k : Nat} {sp : Sp} (F : FunAt K mg x st ps f fd) (S : FnScope N ps (defScope st)) (len : ∀ vs H Q E, sp vs H Q E → vs.length = ps.length)
    (hbody : ∀ (cdv : Value) (A : Around) (outer : List Env) (s : Shared) (H : Hp) (vs : List V) (Q : VK) (E : XK), Room k (A.deeper (envOfC x (defScope st) s.heap.objs.size f cdv)) → sp vs H Q E →
      ∃ t, PSs (cxOf CX0 P w K mg base N x (defScope st) f cdv A outer s H E).nox (defBody st) t ∧ t { nx := fun _ H' => ∃ H'', Sub H H'' H' ∧ Q .non H'', rt := fun v H' => ∃ H'', Sub H H'' H' ∧ Q v H'' } (start N vs) H) : DefOk P w K mg base (k + 1) x ps sp :=
  ⟨f, fd, F.1.okK S len hbody, F.2.1, F.1.kp, F.2.2⟩
end L2
namespace L2
open PySem PySem.Spec PyProof.Rows
section
variable {X : Cx} {e : Expr} {pos : Pos}
theorem oEq : OpR X (compareOp .Eq) rEq := op_eq
theorem oNe : OpR X (compareOp .NotEq) rNe := op_ne
theorem oLe : OpR X (compareOp .LtE) (rI0 fun i j => .bl (decide (i ≤ j))) := op_le
theorem oGt : OpR X (compareOp .Gt) (rI0 fun i j => .bl (decide (j < i))) := op_gt
theorem oGe : OpR X (compareOp .GtE) (rI0 fun i j => .bl (decide (j ≤ i))) := op_ge
theorem CallR.or' {f : Value} {r r' : List V → Hp → VK → Prop} (h : CallR X f r) (h' : CallR X f r') : CallR X f (fun xs H Q => r xs H Q ∨ r' xs H Q) := fun pins s σ H xs us Q I rv q => q.elim (h pins s σ H xs us Q I rv) (h' pins s σ H xs us Q I rv)
def call_intA := CallR.or' (call_int1 (X := X)) call_int_text
def call_isinstA := CallR.or' (call_isinst (X := X)) call_isinstC
/-- not e, as a value -/
theorem pe_notA {ta : TE} (ha : PE X e ta) : PE X (.UnaryOp .Not e pos) (fun σ H Q => ta σ H fun x H' => ∃ k, TruV X.K x H' k ∧ Q (.bl (!k)) H') := by
  intro pins s σ H Q I h
  refine UnaryOp_ (thn (ha pins s σ H _ I h) fun v s1 ⟨x, H1, I1, r1, k, tv, q1⟩ => ?_)
  exact not_of (thn (tru_ok pins s1 σ H1 x v (fun b H' => b = k ∧ Q (.bl (!k)) H') I1 r1 ⟨k, tv, rfl, q1⟩) fun b s2 ⟨H2, I2, e, q2⟩ => by subst e; exact ⟨.bl (!b), H2, I2, rfl, q2⟩)
end
end L2
namespace L2
open PySem
theorem bo_int : bootBuiltins "int" = some (.type "int") := by decide +kernel
theorem bo_str : bootBuiltins "str" = some (.type "str") := by decide +kernel
theorem bo_bool : bootBuiltins "bool" = some (.type "bool") := by decide +kernel
theorem bo_list : bootBuiltins "list" = some (.type "list") := by decide +kernel
theorem bo_len : bootBuiltins "len" = some (.builtin "len") := by decide +kernel
theorem bo_isinstance : bootBuiltins "isinstance" = some (.builtin "isinstance") := by decide +kernel
theorem bo_max : bootBuiltins "max" = some (.builtin "max") := by decide +kernel
theorem bo_sorted : bootBuiltins "sorted" = some (.builtin "sorted") := by decide +kernel
theorem bo_all : bootBuiltins "all" = some (.builtin "all") := by decide +kernel
end L2

end

section
namespace L2
open PySem PySem.Spec PyProof.Rows KM
theorem upd_upd' {H : Hp} {a : Addr} {o u : HO} : upd (upd H a o) a u = upd H a u := by
  funext b
  unfold upd
  split <;> rfl
/-- a comprehension without tests whose element leaves the heap as it was -/
theorem comp_all {J : It} {g : TG} {te : TE} {Q : VK} {H : Hp} {D : Addr} {σ0 : St} (n : Nat) (xs fe : Nat → V) (S : St → Prop) (hn : n ≤ sizeLine) (h0 : S σ0)
    (hgo : ∀ i H, i < n → J.go i H) (hstop : ∀ H, J.stop n H) (hy : ∀ i H x H', i < n → J.yld i H x H' → H' = H ∧ x = xs i)
    (ht : ∀ i σ1 H1, i < n → S σ1 → ∀ R : St → V → Hp → Prop, (∀ σ2, S σ2 → R σ2 (fe i) H1) → g (xs i) σ1 H1 fun σ2 H2 => te σ2 H2 fun y H3 => R σ2 y H3)
    (hq : Q (.ref D) (upd H D (.lst ((List.range n).map fe)))) :
    CompGo J g tYes te Q σ0 H D := by
  refine ⟨fun i m σ1 H2 => i ≤ n ∧ m = n - i ∧ S σ1 ∧ H2 = upd H D (.lst ((List.range i).map fe)), ⟨n, Nat.zero_le _, rfl, h0, rfl⟩, ?_⟩
  rintro i m σ1 H2 ⟨h1, rfl, h2, rfl⟩
  rcases Nat.lt_or_ge i n with z | z
  · refine .inr ⟨hgo i _ z, fun x H3 y => ?_⟩
    obtain ⟨rfl, rfl⟩ := hy i _ x H3 z y
    refine ht i σ1 _ z h2 (fun σ2 y H6 => ∃ xs m', H6 D = some (.lst xs) ∧ xs.length < sizeLine ∧ m' < n - i ∧ (i + 1 ≤ n ∧ m' = n - (i + 1) ∧ S σ2 ∧ upd H6 D (.lst (xs ++ [y])) = upd H D (.lst ((List.range (i + 1)).map fe)))) fun σ2 q3 => ?_
    refine ⟨_, n - (i + 1), upd_same, ?_, by omega, by omega, rfl, q3, ?_⟩
    · rw [List.length_map, List.length_range]; omega
    · rw [upd_upd', List.range_succ, List.map_append]; rfl
  · have e : i = n := by omega
    subst e
    exact .inl ⟨hstop _, hq⟩
end L2
namespace L2
open PySem
theorem upd_self' {H : Hp} {a : Addr} {o : HO} (h : H a = some o) : upd H a o = H := by
  funext b
  unfold upd
  split
  · rename_i e; rw [e, h]
  · rfl
end L2
namespace KM
theorem map_xorF (l : List Bool) : l.map (xor false) = l := by
  rw [show (xor false) = (id : Bool → Bool) from funext fun b => by cases b <;> rfl, List.map_id]
end KM
namespace L2
open PySem
theorem kit_same (K : PySem.W.Frag) (t : Value) : PySem.W.kitOne K t t = some true := by
  unfold PySem.W.kitOne; rw [beq_self_eq_true, if_pos rfl]
theorem kit_int_bool (K : PySem.W.Frag) : PySem.W.kitOne K (.type "int") (.type "bool") = some false := by
  unfold PySem.W.kitOne; rw [if_neg (by decide)]; unfold PySem.W.kitCls; kernel_rfl
end L2
namespace KM
open PySem L2
end KM
namespace KM
theorem whl_length {n : Int} (h1 : -(2 ^ 255) < n) (h2 : n < 2 ^ 255 - 1) : (whl n).length ≤ 270 := by
  have c : ∀ m : Nat, m + 1 < 2 ^ 255 → (cnt m).length ≤ 269 := fun m h => by
    have := cnt_length h
    have := blen_le h
    omega
  unfold whl
  split
  · rw [List.length_cons, List.length_map]; have := c (-1 - n).toNat (by omega); omega
  · rw [List.length_cons]; have := c n.toNat (by omega); omega
end KM

end

section
namespace L2
open PySem PySem.Spec PyProof.Rows
/-! ### an exception in flight: its class, its own dict, its record T; fl: the frame that it is noted at -/
def Fly (h : Heap) (e : Addr) (cls : Value) (d : Option Addr) (T : Addr) (fl : Value) : Prop :=
  ∃ oe vs oT ts, h.get? e = some oe ∧ oe.cls = cls ∧ oe.dict = d ∧ oe.data = .fields vs ∧ vs[1]? = some (.ref T) ∧ T ≠ e ∧ h.get? T = some oT ∧ oT.data = .fields ts ∧ ts[3]? = some fl ∧ (d = none ∨ vs[2]? = some .none)
/-- behind a station: all but e, T and the frames is kept, the frames up to their slots -/
structure Stn (fs : List Addr) (e : Addr) (T : Option Addr) (h h' : Heap) : Prop where
  keep : ∀ b o, b ≠ e → some b ≠ T → b ∉ fs → h.get? b = some o → h'.get? b = some o
  slot : ∀ b o, b ≠ e → some b ≠ T → h.get? b = some o → ∃ sl, h'.get? b = some { o with slots := sl }
section
variable {M : Model} {A : Around} {E : Value → Shared → Prop} {s : Shared} {base : Heap} {env : Env} {outer : List Env} {L e T : Addr} {oe : Obj} {vs : Array Value} {head : Value} {hadNext : Bool} {Q : Unit → Shared → Prop} {cls : Value} {d : Option Addr} {fl : Value}
end
end L2

end

section
namespace L2
open PySem PySem.Spec PyProof.Rows
/-! ### how an exception of a class of the text lies behind a call -/
theorem HOk.there {P : Program} {w : World} {H : Hp} {h : Heap} (ok : HOk P w H h) {a : Addr} {o : HO} (e : H a = some o) : ∃ u, h.get? a = some u := by
  have x := ok a o e
  cases o with
  | lst xs => obtain ⟨_, _, _, _, e⟩ := x; exact ⟨_, e⟩
  | tup xs => obtain ⟨_, _, _, p⟩ := x; obtain ⟨o, e, _⟩ := p; exact ⟨_, e⟩
  | dK kvs => obtain ⟨_, _, _, _, o, _, _, e, _⟩ := x; exact ⟨_, e⟩
  | dT kvs => exact (show False from x).elim
  | set S n => obtain ⟨o, _, _, _, e, _⟩ := x; exact ⟨_, e⟩
  | ins C dx fs => obtain ⟨_, _, _, e, _⟩ := x; exact ⟨_, e⟩
  | own y => exact x
  | xd fs => obtain ⟨_, ⟨_, _, _, e, _⟩, _⟩ := x; exact ⟨_, e⟩
  | rng lo hi => obtain ⟨_, _, _, e⟩ := x; exact ⟨_, e⟩
  | frz ob u => obtain ⟨e, _⟩ := x; exact ⟨_, e⟩
  | tbl ps => exact ⟨_, x⟩
  | met f y => exact ⟨_, x⟩
  | ext φ => exact x.2.1
theorem HOk.none {P : Program} {w : World} {H : Hp} {h : Heap} (ok : HOk P w H h) {a : Addr} (e : h.get? a = none) : H a = none := by
  cases q : H a with
  | none => rfl
  | some o => obtain ⟨u, z⟩ := ok.there q; rw [e] at z; cases z
section
variable {P : Program} {w : World} {K : PySem.W.Frag} {mg : Str → Option Value} {base : Heap} {N : List Str} {qual : Str} {scope : Scope} {f : Addr} {cdv : Value} {A : Around} {outer : List Env} {s : Shared} {H : Hp} {E : XK}
end
section
variable {P : Program} {w : World} {K : PySem.W.Frag} {mg : Str → Option Value} {base : Heap} {N : List Str} {qual : Str} {scope : Scope} {f : Addr} {cdv : Value} {A : Around} {outer : List Env} {s : Shared} {H : Hp} {E : XK}
end
end L2

end

section
namespace L2
open PySem PySem.W PySem.Spec PyProof.Rows
/-! ### a class of exceptions of the text, as the fragment's deciders have it -/
structure ExcC (K : Frag) (C : Addr) : Prop where
  ga : findIn K (.ref C) "__getattribute__" = some (some (.builtin "BaseException.__getattribute__"))
  gt : findIn K (.ref C) "__getattr__" = some none
  cl : findIn K (.ref C) "__class__" = some (some (.builtin "object.__class__"))
  ob : mroIn K C (.type "object") = some true
  be : mroIn K C (.type "BaseException") = some true
  is : isClsIn K C = true
  hn : specialIn K (.builtin "object.__class__") "__get__" = some (some (.builtin "getset_descriptor.__get__"))
  tk : takesIn K (.builtin "object.__class__") = some true
section
variable {K : Frag} {prog : Program} {w : World} {A : Around} {E : Value → Shared → Prop} {h : Heap} {g : Array GenState} {d : Drawn} {t : Nat} {os : OsState} {x C : Addr} {ox : Obj} {odo : Option Obj} {name : Str}
end
end L2

end

section
namespace L2
open PySem PySem.W PySem.Spec PyProof.Rows
/-! ### defs that refuse -/
section
variable {P : Program} {w : World} {K : PySem.W.Frag} {mg : Str → Option Value} {base : Heap}
end
/-! ### calls whose exceptions may depend on the names' values -/
def PassesX (CX : CXT) (X : Cx) (E : St → XK) : Prop := ∀ (pins : List (Addr × Obj)) (σ : St) (H : Hp) (s : Shared) (e : Value) (s' : Shared), Inv X pins σ H s → CX X.stack H s (E σ) e s' → X.xe e s'
theorem Passes.x {CX : CXT} {X : Cx} {E : XK} (h : Passes CX X E) : PassesX CX X fun _ => E := h
section
variable {X : Cx} {k k' : Nat} {x : Str} {ps : List Str} {sp : Sp} {e : Expr} {es : List Expr} {t : TA} {p pos : Pos} {E : St → XK}
end
/-! ### raise C(..), C an own class without __init__ -/
abbrev bmV : List Value := [.type "ValueError", .type "Exception", .type "BaseException", .type "object"]
structure ClsAt (K : Frag) (h : Heap) (C : Addr) : Prop where
  ex : ∃ (bm : List Value) (N : Addr) (nm q : Str) (bs : List Value) (hdct : Bool) (sn : List Str) (sub : List Value) (ab : Bool) (col : Option Bool) (dd : Option Addr) (k0 k1 k2 k3 k5 : Option Value) (mN : Str → Option Value),
    h.get? C = some (excClassObj nm q C N bs bm hdct sn sub ab col dd k0 k1 k2 k3 k5 "ValueError.__new__") ∧ h.Ns N mN ∧ mN "__init__" = none ∧ OwnTail h bmV bm
end L2

end

section
namespace L2
open PySem PySem.W PySem.Spec PyProof.Rows
section
variable {X : Cx} {pins : List (Addr × Obj)} {σ : St} {H1 H2 : Hp} {s1 s2 : Shared} {h' : Heap} {a C T T' : Addr} {d : Option Addr}
end
/-! ### try -/
def tryXe (X : Cx) (pn : List (Addr × Obj)) (Eh : St → XK) (e : Value) (s' : Shared) : Prop := ∃ a C d T σ' H1 H' s1, e = .ref a ∧ Inv { X with pn := pn } [] σ' H1 s1 ∧ Inv { X with pn := pn } [] σ' H' s' ∧ Fly s'.heap a (.ref C) d T .none ∧
  H' a = none ∧ H' T = none ∧ s1.heap.get? a = none ∧ s1.heap.get? T = none ∧ Eh σ' (.ref C) d H'
def Cx.tryC (X : Cx) (pn : List (Addr × Obj)) (Eh : St → XK) : Cx := { X with pn := pn, xe := tryXe X pn Eh }
theorem Cx.Ok.pns {X : Cx} (ok : X.Ok) (pn : List (Addr × Obj)) : Cx.Ok { X with pn := pn } :=
  ⟨ok.mod, ok.kind, ok.glob, ok.blt, ok.above, ok.inj, ok.has, ok.cab, ok.hd, ok.frames, ok.stk, ok.exf, ok.bs, ok.bsz, ok.noex, ok.exfs, ok.funs, ok.frf⟩
theorem Inv.ins {X : Cx} {pins : List (Addr × Obj)} {σ : St} {H : Hp} {s : Shared} (I : Inv X pins σ H s) : Inv { X with pn := X.pn ++ pins } [] σ H s :=
  ⟨I.ok.pns _, I.os, I.bare, I.base, I.loc, I.cell, I.free, I.freeC, fun p hp => I.pin p (by simpa using hp), I.hok, I.len⟩
theorem Inv.outs {X Y : Cx} {pins : List (Addr × Obj)} {σ : St} {H : Hp} {s : Shared} (ok : X.Ok) (I : Inv { X with pn := X.pn ++ pins } [] σ H s) : Inv X pins σ H s :=
  ⟨ok, I.os, I.bare, I.base, I.loc, I.cell, I.free, I.freeC, fun p hp => I.pin p (by simpa using hp), I.hok, I.len⟩
end L2

end

section
namespace L2
open PySem PySem.W PySem.Spec PyProof.Rows
section
variable {X : Cx}
/-! ### lists of bools -/
theorem room64 {k : Nat} {A : Around} (hr : Room k A) : A.units + 64 < cLine := by have := hr.un; omega
end
/-! ### a def that answers or refuses -/
section
variable {X : Cx} {k1 k2 k' : Nat} {x : Str} {ps : List Str} {sp1 sp2 : Sp} {e : Expr} {es : List Expr} {t : TA} {p pos : Pos} {E : St → XK}
end
end L2
namespace L2
open PySem
end L2

end

section
namespace L2
open PySem PySem.W PySem.Spec PyProof.Rows PySem.Builtin.ObjectAttr
/-! ### an attribute laid on a new exception -/
def overV : List Value → Bool
  | .ref _ :: r => overV r
  | l => l == bmV
structure ExcS (K : Frag) (C : Addr) : Prop extends ExcC K C where
  sa : findIn K (.ref C) "__setattr__" = some (some (.builtin "object.__setattr__"))
  ov : (clsIn K C).any (fun cd => overV cd.mro) = true
  hd : hasDictIn K C = true
section
variable {K : Frag} {prog : Program} {w : World} {A : Around} {E : Value → Shared → Prop} {s : Shared} {x C : Addr} {ox : Obj} {od : Option Obj} {name : Str} {v : Value}
end
end L2

end

section
namespace L2
open PySem PySem.W PySem.Spec PyProof.Rows
/-! ### a class of exceptions with an __init__ of the text -/
def excInI (K : Frag) (C f : Addr) : Bool := match K.lookup C with
  | some ⟨.type "type", _, .cls cd, sl⟩ => (match cd.mro, sl.toList with
    | .ref C' :: bm, [_, _, _, _, some (.builtin n), _] => C' == C && n == "ValueError.__new__" && !cd.hasDel && tailIn K bmV bm && nsOkIn K cd.ns && nsIn K cd.ns "__init__" == some (some (.ref f))
    | _, _ => false)
  | _ => false
structure ClsAtI (h : Heap) (C f : Addr) : Prop where
  ex : ∃ (bm : List Value) (N : Addr) (nm q : Str) (bs : List Value) (hdct : Bool) (sn : List Str) (sub : List Value) (ab : Bool) (col : Option Bool) (dd : Option Addr) (k0 k1 k2 k3 k5 : Option Value) (mN : Str → Option Value),
    h.get? C = some (excClassObj nm q C N bs bm hdct sn sub ab col dd k0 k1 k2 k3 k5 "ValueError.__new__") ∧ h.Ns N mN ∧ mN "__init__" = some (.ref f) ∧ OwnTail h bmV bm
section
variable {prog : Program} {w : World} {A : Around} {E : Value → Shared → Prop} {h : Heap} {g : Array GenState} {d : Drawn} {t : Nat} {os : OsState}
variable {nm q : Str} {C N : Addr} {bs bm bmB : List Value} {hdct : Bool} {sn : List Str} {sub : List Value} {ab : Bool} {col : Option Bool} {dd : Option Addr} {k0 k1 k2 k3 k5 : Option Value} {B Bn newId nid initId inN : String} {bmN : List Value}
end
structure XMk (K : Frag) (mg : Str → Option Value) (x : Str) (C f : Addr) : Prop where
  xi : excInI K C f = true
  fn : typeIn K (.ref f) = some (.type "function")
  kp : keepIn K (.ref C) = true
  be : mroIn K C (.type "BaseException") = some true
  ty : typeIn K (.ref C) = some (.type "type")
  gm : mg x = some (.ref C)
end L2

end

section
namespace L2
open PySem PySem.W PySem.Spec PyProof.Rows
/-! ### f-strings of texts and small ints -/
abbrev TJ := Str → St → Hp → VK → Prop
section
variable {X : Cx} {e o : Expr} {es : List Expr} {te ta tv : TE} {t : TJ} {pos : Pos}
end
/-! ### B.__init__(self, ..), B an own base without __init__ -/
section
variable {X : Cx} {x : Str} {C D f : Addr} {np apos pos : Pos} {e : Expr} {es : List Expr} {t : TA}
end
/-! ### self.place = .. in __init__ -/
end L2

end

section
namespace L2
open PySem PySem.W PySem.Spec PyProof.Rows
/-! ### methods that answer or refuse -/
section
variable {X : Cx} {k1 k2 k' : Nat} {C : Addr} {m : Str} {ps : List Str} {sp1 sp2 : Sp} {e o : Expr} {es : List Expr} {t : TA} {ta : TE} {p pos apos : Pos} {E : St → XK}
end
end L2
namespace L2
open PySem PySem.Spec PyProof.Rows
end L2

end

section
namespace KM
open PySem L2
theorem slice_nat (l : List Bool) (i k : Nat) (h : i + k ≤ l.length) : Txt.slice (rowS l) (some (i : Int)) (some ((i + k : Nat) : Int)) = rowS ((l.drop i).take k) := by
  rw [slice_row, HT.sIx_nat, HT.sIx_nat, Nat.min_eq_left (by omega), Nat.min_eq_left (by omega), Nat.add_sub_cancel_left]
theorem slice_to (l : List Bool) (k : Nat) (h : k ≤ l.length) : Txt.slice (rowS l) none (some (k : Int)) = rowS (l.take k) := by
  rw [slice_row, HT.sIx_nat, HT.sIx_none, Nat.min_eq_left (by omega), List.drop_zero, Nat.sub_zero]
end KM

end

section
namespace L2
open PySem PySem.W PySem.Spec PyProof.Rows
section
variable {X : Cx}
def oAdd3 := OpR.or (oAdd (X := X)) op_cat
end
end L2
namespace KM
open PySem L2
end KM

end

section
namespace L2
open PySem PySem.W PySem.Spec PyProof.Rows
/-! ### great numbers -/
section
variable {X : Cx}
def CDivB (i j : Int) : Prop := 0 < j ∧ (Builtin.Int.intBits j ≤ 9000 ∨ Builtin.Int.intBits i ≤ Builtin.Int.intBits j + 4000)
theorem log2_bits {j : Int} (h : j ≠ 0) : j.natAbs.log2 + 1 = Builtin.Int.intBits j := by
  unfold Builtin.Int.intBits
  rw [if_neg (by simpa using h)]
theorem CDivB.ok {i j : Int} (h : CDivB i j) : Builtin.divisionGoesByPylong i j = false := by
  unfold Builtin.divisionGoesByPylong
  have hj := log2_bits (Int.ne_of_gt h.1)
  have h2 := h.2
  have ej : (j == 0) = false := by have := h.1; simp; omega
  simp only [Bool.and_eq_false_iff, decide_eq_false_iff_not, ej, if_neg (show ¬ (false = true) from by decide)]
  rcases h2 with h2 | h2
  · left; omega
  · right
    by_cases hi : i = 0
    · subst hi; rw [if_pos (by decide)]; omega
    · have hi2 := log2_bits hi
      rw [if_neg (by simpa using hi)]
      omega
end
/-! ### reversed(a list) -/
section
variable {X : Cx} {tg : Expr}
/-- all(a list of bools) -/
theorem call_all (hc : X.calm = true) : CallR X (.builtin "all") (fun xs H Q => ∃ a, ∃ bs : List Bool, xs = [.ref a] ∧ SqL X.K H a (bs.map .bl) ∧ Q (.bl (bs.all id)) H) := by
  intro pins s σ H xs us Q I r h
  obtain ⟨a, bs, rfl, hq, q⟩ := h
  obtain ⟨u, rfl, ru⟩ := vals1 r
  obtain rfl : u = Value.ref a := ru
  obtain ⟨its, rv, pl, hz⟩ := I.list hq
  have hlen := rv.length
  have hlt : a < s.heap.objs.size := by obtain ⟨o, ho, _⟩ := pl.isList; exact Heap.lt_size ho
  refine call_all_walkS (wpAny_pyIter_list pl.isList ?_)
  refine ⟨s.heap.objs.size, [s.heap.objs.size, a], [s.heap.objs.size], _, its.toArray.size, _, _, fun i => bs.getD i false, rfl, (Walks.list (A := X.A.in1) (I.ok.hd hc) s.heap.objs.size a (Nat.ne_of_lt hlt) its.toArray).toS, ⟨⟨_, Heap.get?_push_size _ rfl, rfl, rfl⟩, ?_⟩, ?_, fun s' mv => ?_⟩
  · obtain ⟨o, ho, r⟩ := pl.isList; exact ⟨o, Heap.get?_push_of_some _ ho, r⟩
  · intro i v s2 Q2 E2 hv q2
    have hv' : its[i]? = some v := by simpa using hv
    have hi : i < bs.length := by
      have := (List.getElem?_eq_some_iff.mp hv').1
      rw [List.length_map] at hlen; omega
    have hb : (bs.map V.bl)[i]? = some (.bl (bs.getD i false)) := by rw [List.getElem?_map, List.getElem?_eq_getElem hi, List.getD_eq_getElem?_getD, List.getElem?_eq_getElem hi]; rfl
    obtain ⟨u, hu, ru⟩ := rv.get hb
    rw [hv'] at hu; cases hu
    obtain rfl : v = Value.bool (bs.getD i false) := ru
    exact wpAny_truthy_bool q2
  · have hall : (List.range its.toArray.size).all (fun i => bs.getD i false) = bs.all id := by
      rw [List.size_toArray, ← hlen, List.length_map]
      apply Bool.eq_iff_iff.mpr
      rw [List.all_eq_true, List.all_eq_true]
      constructor
      · intro h x hx
        obtain ⟨i, hi, rfl⟩ := List.mem_iff_getElem.mp hx
        have := h i (List.mem_range.mpr hi)
        rw [List.getD_eq_getElem?_getD, List.getElem?_eq_getElem hi] at this
        exact this
      · intro h i hi
        have hi' := List.mem_range.mp hi
        rw [List.getD_eq_getElem?_getD, List.getElem?_eq_getElem hi']
        exact h _ (List.getElem_mem hi')
    rw [hall]
    refine ⟨.bl _, H, ?_, rfl, q⟩
    have I2 : Inv X pins σ H { s with heap := s.heap.push { cls := .type "list_iterator", data := .fields #[.ref a, .int 0 0] } } := I.kept (t' := s.toks) fun b o e => Heap.get?_push_of_some _ e
    obtain ⟨f0, f1, f2, f3, f4, f5⟩ := I.fpOk (b := s.heap.objs.size) (Nat.le_refl _) (I.hok.fresh (Nat.le_refl _))
    have e : s' = { s with heap := s'.heap, toks := s'.toks } := by
      obtain ⟨h1, g1, d1, t1, o1⟩ := s'
      have := mv.gens; have := mv.drawn; have := mv.os
      dsimp only at *
      subst_vars; rfl
    have I3 := I2.turned (t' := s'.toks) (it := s.heap.objs.size) (h' := s'.heap) (fun b o hb e => mv.heap b o (by simpa using hb) e) f0 f1 f3 f4 f5
    rw [e]
    exact I3
end
theorem cutV_tail (l : List V) : cutV l (some 1) none = l.drop 1 := by
  unfold cutV HT.sIx
  cases l with
  | nil => rfl
  | cons a r => simp
end L2
namespace L2
open PySem PySem.W PySem.Spec PyProof.Rows
/-! ### lists of ints, == and != -/
section
variable {X : Cx}
end
end L2
namespace L2
open PySem PySem.W PySem.Spec PyProof.Rows
/-! ### comprehensions over a list -/
theorem comp_filter {K : PySem.W.Frag} {a : Addr} {xs : List V} {g : TG} {tc : TT} {te : TE} {Q : VK} {H : Hp} {D : Addr} {σ0 : St} (keep : V → Bool) (f : V → V) (S : St → Prop) (hz : xs.length ≤ sizeLine) (h0 : S σ0) (hD : H D = none) (hl : SqL K H a xs)
    (ht : ∀ x, x ∈ xs → ∀ σ1 H1, S σ1 → Same H H1 → ∀ (R : St → V → Hp → Prop) (R' : St → Hp → Prop), (∀ σ2, S σ2 → if keep x = true then R σ2 (f x) H1 else R' σ2 H1) → g x σ1 H1 fun σ2 H2 => tc σ2 H2 fun b H3 => if b = true then te σ2 H3 fun y H4 => R σ2 y H4 else R' σ2 H3)
    (hq : Q (.ref D) (upd H D (.lst ((xs.filter keep).map f)))) :
    CompGo (Itl K a) g tc te Q σ0 H D := by
  refine ⟨fun i m σ1 H2 => i ≤ xs.length ∧ m = xs.length - i ∧ S σ1 ∧ H2 = upd H D (.lst (((xs.take i).filter keep).map f)), ⟨xs.length, Nat.zero_le _, rfl, h0, rfl⟩, ?_⟩
  rintro i m σ1 H2 ⟨h1, rfl, h2, rfl⟩
  have hl2 := (same_new (o := .lst (((xs.take i).filter keep).map f)) hD).seq hl
  rcases Nat.lt_or_ge i xs.length with z | z
  · refine .inr ⟨⟨xs, xs[i], hl2, List.getElem?_eq_getElem z⟩, ?_⟩
    rintro x H3 ⟨rfl, hx⟩
    have hx := hx xs hl2
    refine ht x (List.mem_of_getElem? hx) σ1 _ h2 (same_new hD) (fun σ2 y H6 => ∃ ys m', H6 D = some (.lst ys) ∧ ys.length < sizeLine ∧ m' < xs.length - i ∧ (i + 1 ≤ xs.length ∧ m' = xs.length - (i + 1) ∧ S σ2 ∧ upd H6 D (.lst (ys ++ [y])) = upd H D (.lst (((xs.take (i + 1)).filter keep).map f))))
      (fun σ2 H5 => ∃ m', m' < xs.length - i ∧ (i + 1 ≤ xs.length ∧ m' = xs.length - (i + 1) ∧ S σ2 ∧ H5 = upd H D (.lst (((xs.take (i + 1)).filter keep).map f)))) fun σ2 q3 => ?_
    have et : xs.take (i + 1) = xs.take i ++ [x] := by rw [List.take_add_one, hx]; rfl
    by_cases hk : keep x = true
    · rw [if_pos hk]
      refine ⟨_, xs.length - (i + 1), upd_same, ?_, by omega, by omega, rfl, q3, ?_⟩
      · rw [List.length_map]
        have := List.length_filter_le keep (xs.take i)
        rw [List.length_take] at this; omega
      · rw [upd_upd', et, List.filter_append, List.map_append, List.filter_cons_of_pos hk]; rfl
    · rw [if_neg hk]
      refine ⟨xs.length - (i + 1), by omega, by omega, rfl, q3, ?_⟩
      rw [et, List.filter_append, List.map_append, List.filter_cons_of_neg hk]; simp
  · have e : i = xs.length := by omega
    subst e
    rw [List.take_length]
    rw [List.take_length] at hl2
    exact .inl ⟨⟨xs, hl2, Nat.le_refl _⟩, hq⟩
end L2

end

section
namespace KM
open PySem L2
/-! ### fractions and their steps -/
/-- the fraction that has these steps; of no steps (1, 0), so that one more goes on alike -/
def frac : List Int → Int × Int
  | [] => (1, 0)
  | a :: r => (a * (frac r).1 + (frac r).2, (frac r).1)
/-- steps behind the first -/
def Tail (r : List Int) : Prop := (∀ x ∈ r, 1 ≤ x) ∧ ∀ h : r ≠ [], 2 ≤ r.getLast h
def Good : List Int → Prop
  | [] => False
  | _ :: r => Tail r
theorem Tail.tl {a : Int} {r : List Int} (h : Tail (a :: r)) : Tail r := by
  refine ⟨fun x hx => h.1 x (List.mem_cons_of_mem _ hx), fun hr => ?_⟩
  have := h.2 (List.cons_ne_nil _ _)
  rwa [List.getLast_cons hr] at this
theorem Tail.frac : ∀ {r : List Int}, Tail r → 0 ≤ (frac r).2 ∧ (frac r).2 < (frac r).1 ∧ (r ≠ [] → 0 < (frac r).2)
  | [], _ => ⟨by decide, by decide, fun h => absurd rfl h⟩
  | a :: r, h => by
    obtain ⟨h1, h2, h3⟩ := h.tl.frac
    have ha := h.1 a (List.mem_cons_self ..)
    show 0 ≤ (KM.frac r).1 ∧ (KM.frac r).1 < a * (KM.frac r).1 + (KM.frac r).2 ∧ (_ → 0 < (KM.frac r).1)
    refine ⟨by omega, ?_, fun _ => by omega⟩
    by_cases hr : r = []
    · subst hr
      have hl := h.2 (List.cons_ne_nil _ _)
      have hl' : (2 : Int) ≤ a := hl
      show (1 : Int) < a * 1 + 0
      omega
    · have := h3 hr
      have hm : 1 * (KM.frac r).1 ≤ a * (KM.frac r).1 := Int.mul_le_mul_of_nonneg_right ha (by omega)
      omega
theorem frac_div {a : Int} {r : List Int} (h : Tail r) : (frac (a :: r)).1 / (frac (a :: r)).2 = a ∧ (frac (a :: r)).1 % (frac (a :: r)).2 = (frac r).2 := by
  obtain ⟨h1, h2, _⟩ := h.frac
  show (a * (frac r).1 + (frac r).2) / (frac r).1 = a ∧ (a * (frac r).1 + (frac r).2) % (frac r).1 = (frac r).2
  constructor
  · rw [Int.add_comm, Int.add_mul_ediv_right _ _ (by omega), Int.ediv_eq_zero_of_lt h1 h2, Int.zero_add]
  · rw [Int.add_comm, Int.add_mul_emod_self_right, Int.emod_eq_of_lt h1 h2]
/-! sizes -/
/-! whether a list has a fraction -/
theorem Good.ne {s : List Int} (h : Good s) : s ≠ [] := by intro e; subst e; exact h
end KM

end

section
namespace L2
open PySem PySem.W PySem.Spec PyProof.Rows
section
variable {X : Cx} {pins : List (Addr × Obj)} {σ : St} {H : Hp} {s : Shared} {h' : Heap}
/-- untracked records of ours have turned, and a new object is laid and tracked -/
theorem Inv.turnedNew {t' : Nat} {ch : List Addr} {a : Addr} {o : HO} (I : Inv X pins σ H s) (k : ∀ b u, b ∉ ch → s.heap.get? b = some u → h'.get? b = some u) (hf : ∀ b ∈ ch, FpOk X pins H b) (ha : s.heap.objs.size ≤ a) (new : ObjOk X.prog X.w (upd H a o) h' a o) :
    Inv X pins σ (upd H a o) { s with heap := h', toks := t' } := by
  have hn := I.hok.fresh ha
  have nch : ∀ b u, H b = some u → b ∉ ch := fun b u e z => by have := (hf b z).1; rw [this] at e; cases e
  have ne : ∀ b u, s.heap.get? b = some u → b ≠ a := fun b u e z => by subst z; exact absurd (Nat.lt_of_lt_of_le (Heap.lt_size e) ha) (Nat.lt_irrefl _)
  refine I.step (g' := s.gens) (d' := s.drawn) (ch := ch) (fun b hb => ?_) (fun b o _ _ hc e _ => k b o hc e) (fun b o _ _ hc e _ => ⟨o.slots, k b o hc e⟩) (fun b u _ e n => by rw [upd_ne (ne b u e)]; exact n)
    (fun b o hc e => ⟨o, k b o hc e⟩) (fun b xs e => by rw [upd_ne (ne_of_none e hn)]; exact e) (fun b u v e => by rw [upd_ne (ne_of_none e hn)]; exact e) (fun b ps e => ⟨#[], by rw [upd_ne (ne_of_none e hn), e]; simp⟩) (fun m hm => ?_) (fun b u e => ?_) I.bare
  · obtain ⟨f0, f1, f2, f3, f4, f5⟩ := hf b hb
    exact ⟨f3, f1, f4, f5⟩
  · obtain ⟨ob, es, ep, ho, r⟩ := hm
    exact ⟨ob, es, ep, k _ ob (fun z => (hf _ z).2.1 rfl) ho, r⟩
  · by_cases hb : b = a
    · subst hb; rw [upd_same] at e; cases e; exact new
    · rw [upd_ne hb] at e
      refine (I.hok b u e).stay (fun c v hc q => k c v ?_ q) (fun c q => by rw [upd_ne (ne_of_none q hn)]; exact q) fun c xs q => by rw [upd_ne (ne_of_none q hn)]; exact q
      rcases hc with z | z
      · rw [z]; exact nch b u e
      · exact nch c _ z
theorem Inv.turnedL {t' : Nat} {ch : List Addr} (I : Inv X pins σ H s) (k : ∀ b u, b ∉ ch → s.heap.get? b = some u → h'.get? b = some u) (hf : ∀ b ∈ ch, FpOk X pins H b) : Inv X pins σ H { s with heap := h', toks := t' } := by
  have nch : ∀ b u, H b = some u → b ∉ ch := fun b u e z => by have := (hf b z).1; rw [this] at e; cases e
  refine I.step (g' := s.gens) (d' := s.drawn) (ch := ch) (fun b hb => ?_) (fun b o _ _ hc e _ => k b o hc e) (fun b o _ _ hc e _ => ⟨o.slots, k b o hc e⟩) (fun _ _ _ _ n => n)
    (fun b o hc e => ⟨o, k b o hc e⟩) (fun _ _ e => e) (fun _ _ _ e => e) (fun b ps e => ⟨#[], by rw [e]; simp⟩) (fun m hm => ?_) (fun b u e => ?_) I.bare
  · obtain ⟨f0, f1, f2, f3, f4, f5⟩ := hf b hb
    exact ⟨f3, f1, f4, f5⟩
  · obtain ⟨ob, es, ep, ho, r⟩ := hm
    exact ⟨ob, es, ep, k _ ob (fun z => (hf _ z).2.1 rfl) ho, r⟩
  · refine (I.hok b u e).stay (fun c v hc q => k c v ?_ q) (fun _ q => q) fun _ _ q => q
    rcases hc with z | z
    · rw [z]; exact nch b u e
    · exact nch c _ z
end
/-! ### for k, x in enumerate(a list) -/
section
variable {X : Cx}
end
end L2

end

section
namespace KM
open PySem L2
/-! ### rows of fractions -/
def more : List Int → List Bool
  | [] => [false]
  | b :: r => true :: (cnt (b - 1).toNat ++ more r).map (!·)
/-! ### the common divisor -/
def cd (p q : Int) : Int := if h : 0 < q then cd q (p % q) else p
termination_by q.toNat
decreasing_by
  have := Int.emod_lt_of_pos p h
  have := Int.emod_nonneg p (Int.ne_of_gt h)
  omega
theorem cd_pos {p q : Int} (h : 0 < q) : cd p q = cd q (p % q) := by rw [cd, dif_pos h]
theorem cd_zero (p : Int) : cd p 0 = p := by rw [cd, dif_neg (by decide)]
theorem cd_tail : ∀ {r : List Int}, Tail r → cd (frac r).1 (frac r).2 = 1
  | [], _ => cd_zero _
  | a :: r, h => by
    obtain ⟨h1, h2, _⟩ := h.tl.frac
    obtain ⟨d1, d2⟩ := frac_div (a := a) h.tl
    rw [cd_pos (show 0 < (frac (a :: r)).2 from by show 0 < (frac r).1; omega), d2]
    exact cd_tail h.tl
theorem Good.cd : ∀ {s : List Int}, Good s → cd (frac s).1 (frac s).2 = 1
  | a :: r, h => by
    have h : Tail r := h
    obtain ⟨h1, h2, _⟩ := h.frac
    obtain ⟨d1, d2⟩ := frac_div (a := a) h
    rw [cd_pos (show 0 < (frac (a :: r)).2 from by show 0 < (frac r).1; omega), d2]
    exact cd_tail h
end KM
namespace L2
open PySem PySem.Spec PyProof.Rows
theorem Sub.trans' {H H1 H2 H' X : Hp} (a : Sub H H1 X) (b : Sub H1 H2 H') : Sub H H2 H' :=
  ⟨b.le, fun c o e => let ⟨u, hu⟩ := a.ge c o e; b.ge c u hu, fun z => b.cl (a.cl z)⟩
/-- an instance changed, and a new object -/
theorem Sub.insNew {H H' : Hp} {p C dx r : Addr} {fs fs' : List (Str × V)} {o : HO} (h : H p = some (.ins C dx fs)) (hr : H r = none) (hs : ∀ b u, b ≠ p → H b = some u → H' b = some u) (e : H' p = some (.ins C dx fs')) (er : H' r = some o) (ho : OwnIn (upd (upd H p (.ins C dx fs')) r o) r o) :
    Sub H (upd (upd H p (.ins C dx fs')) r o) H' := by
  have hpr : r ≠ p := fun z => by rw [z, h] at hr; cases hr
  refine Sub.trans' (Sub.ins h hs e) (.new (by rw [upd_ne hpr]; exact hr) (fun b u q => ?_) er ho)
  by_cases z : b = p
  · subst z; rw [upd_same] at q; cases q; exact e
  · rw [upd_ne z] at q; exact hs b u z q
end L2

end

section
namespace KM
open PySem L2
/-! ### the order of fractions and of their rows -/
/-- the rows behind the first step -/
def trow : List Int → List Bool
  | [] => []
  | c :: r => cnt (c - 1).toNat ++ more r
end KM

end

section
namespace L2
open PySem PySem.W PySem.Spec PyProof.Rows
section
variable {X : Cx}
end
end L2

end

section
namespace L2
open PySem PySem.W PySem.Spec PyProof.Rows
/-! ### try with two handlers of one name -/
end L2

end

section
namespace KM
open PySem L2
/-! ### rows of fractions, without their last sign -/
def mp : List Int → List Bool
  | [] => []
  | b :: r => true :: (cnt (b - 1).toNat ++ mp r).map (!·)
end KM

end

section
namespace L2
open PySem PySem.W PySem.Spec PyProof.Rows
section
variable {X : Cx}
end
end L2
namespace KM
open PySem L2
/-! ### rows without the ones at their end -/
/-! ### the order of rows -/
def Lt (a b : List Bool) : Prop := (rowS a).cps.toList < (rowS b).cps.toList
instance (a b : List Bool) : Decidable (Lt a b) := inferInstanceAs (Decidable (_ < _))
theorem lt_nil (a : List Bool) : ¬ Lt a [] := by
  unfold Lt; rw [rowS_cps, rowS_cps]; exact List.not_lt_nil _
theorem nil_lt (y : Bool) (b : List Bool) : Lt [] (y :: b) := by
  unfold Lt; rw [rowS_cps, rowS_cps]; exact List.nil_lt_cons _ _
theorem cons_lt {x y : Bool} {a b : List Bool} : Lt (x :: a) (y :: b) ↔ (x = false ∧ y = true) ∨ (x = y ∧ Lt a b) := by
  unfold Lt
  rw [rowS_cps, rowS_cps, rowS_cps, rowS_cps, List.map_cons, List.map_cons, List.cons_lt_cons_iff]
  cases x <;> cases y <;> simp [bc]
theorem lt_irr (a : List Bool) : ¬ Lt a a := List.lt_irrefl _
theorem lt_asym {a b : List Bool} (h : Lt a b) : ¬ Lt b a := fun q => List.lt_asymm q h
theorem lt_tr {a b c : List Bool} (h : Lt a b) (h2 : Lt b c) : Lt a c := List.lt_trans h h2
theorem lt_tri (a b : List Bool) : Lt a b ∨ a = b ∨ Lt b a := by
  induction a generalizing b with
  | nil => cases b with
    | nil => exact .inr (.inl rfl)
    | cons y b => exact .inl (nil_lt y b)
  | cons x a ih => cases b with
    | nil => exact .inr (.inr (nil_lt x a))
    | cons y b =>
      rw [cons_lt, cons_lt]
      rcases ih b with h | h | h
      · cases x <;> cases y <;> simp [h]
      · subst h; cases x <;> cases y <;> simp
      · cases x <;> cases y <;> simp [h]
/-- how many signs two rows begin with in common -/
def com : List Bool → List Bool → Nat
  | x :: a, y :: b => if x = y then com a b + 1 else 0
  | _, _ => 0
theorem com_at {a b : List Bool} : ∀ {m : Nat}, m < com a b → ∃ x, a[m]? = some x ∧ b[m]? = some x := by
  induction a generalizing b with
  | nil => intro m h; exact absurd h (by cases b <;> exact Nat.not_lt_zero _)
  | cons x a ih =>
    cases b with
    | nil => intro m h; exact absurd h (Nat.not_lt_zero _)
    | cons y b =>
      intro m h
      unfold com at h
      split at h
      · rename_i e
        subst e
        cases m with
        | zero => exact ⟨x, rfl, rfl⟩
        | succ m => exact ih (b := b) (by omega)
      · exact absurd h (Nat.not_lt_zero _)
theorem com_le {a b : List Bool} : com a b ≤ a.length ∧ com a b ≤ b.length := by
  induction a generalizing b with
  | nil => cases b <;> exact ⟨Nat.zero_le _, Nat.zero_le _⟩
  | cons x a ih =>
    cases b with
    | nil => exact ⟨Nat.zero_le _, Nat.zero_le _⟩
    | cons y b =>
      unfold com
      split
      · exact ⟨Nat.succ_le_succ ih.1, Nat.succ_le_succ ih.2⟩
      · exact ⟨Nat.zero_le _, Nat.zero_le _⟩
theorem com_end (a b : List Bool) : com a b = a.length ∨ com a b = b.length ∨ ∃ x y, a[com a b]? = some x ∧ b[com a b]? = some y ∧ x ≠ y := by
  induction a generalizing b with
  | nil => left; cases b <;> rfl
  | cons x a ih =>
    cases b with
    | nil => right; left; rfl
    | cons y b =>
      unfold com
      split
      · rcases ih b with h | h | ⟨u, v, h1, h2, h3⟩
        · left; rw [h]; rfl
        · right; left; rw [h]; rfl
        · right; right; exact ⟨u, v, h1, h2, h3⟩
      · rename_i e
        exact .inr (.inr ⟨x, y, rfl, rfl, e⟩)
theorem com_take (a b : List Bool) : a.take (com a b) = b.take (com a b) := by
  induction a generalizing b with
  | nil => cases b <;> rfl
  | cons x a ih =>
    cases b with
    | nil => rfl
    | cons y b =>
      unfold com
      split
      · rename_i e; rw [List.take_succ_cons, List.take_succ_cons, ih b, e]
      · rfl
end KM
namespace KM
open PySem L2
theorem lt_com {a b : List Bool} (h : Lt a b) : com a b < b.length := by
  induction a generalizing b with
  | nil => cases b with
    | nil => exact absurd h (lt_nil _)
    | cons y b => exact Nat.succ_pos _
  | cons x a ih =>
    cases b with
    | nil => exact absurd h (lt_nil _)
    | cons y b =>
      unfold com
      split
      · rename_i e
        rcases cons_lt.mp h with ⟨h1, h2⟩ | ⟨_, h'⟩
        · rw [← e, h1] at h2; cases h2
        · exact Nat.succ_lt_succ (ih h')
      · exact Nat.succ_pos _
end KM

end

section
namespace L2
open PySem PySem.W PySem.Spec PyProof.Rows
/-! ### the lesser and the greater of two texts -/
section
variable {prog : Program} {w : World} {A : Around} {E : Value → Shared → Prop} {s : Shared}
end
section
variable {X : Cx}
/-! ### list.insert -/
end
/-! ### for x, y in zip(a list, a list) -/
def Itz (K : PySem.W.Frag) (a b : Addr) (xs ys : List V) : It :=
  ⟨fun i H => SqL K H a xs ∧ SqL K H b ys ∧ i < min xs.length ys.length, fun i H x H' => ∃ (T : Addr) (u v : V), H T = none ∧ xs[i]? = some u ∧ ys[i]? = some v ∧ x = .ref T ∧ H' = upd H T (.tup [u, v]), fun i H => SqL K H a xs ∧ SqL K H b ys ∧ min xs.length ys.length ≤ i⟩
theorem turn_zip {P : Program} {w : World} {K : PySem.W.Frag} {elts : List Expr} {k : Nat} {pos : Pos} (a b z TI TO i1 i2 : Addr) (xs ys : List V) (D : ZipApart z TI TO i1 i2 a b) :
    Turn P w K (.Tuple elts k pos) (Itz K a b xs ys) [z, TI, TO, i1, i2] z (fun i h => i ≤ min xs.length ys.length ∧ IsZip h z TI TO .none ∧ IsPair h TI (.ref i1) (.ref i2) ∧ (∃ a b, IsPair h TO a b) ∧ h.IsListIter i1 a i ∧ h.IsListIter i2 b i) where
  mem := by simp
  obj := fun i h st c hc => by
    obtain ⟨_, st1, st2, ⟨p, q, st3⟩, st4, st5⟩ := st
    rcases List.mem_cons.mp hc with e | hc
    · subst e; exact ⟨_, st1, fun v z => by cases z⟩
    rcases List.mem_cons.mp hc with e | hc
    · subst e; exact ⟨_, st2, fun v z => by cases z⟩
    rcases List.mem_cons.mp hc with e | hc
    · subst e; exact ⟨_, st3, fun v z => by cases z⟩
    rcases List.mem_cons.mp hc with e | hc
    · subst e
      obtain ⟨o, e, c, d⟩ := st4
      exact ⟨o, e, fun v z => by rw [d] at z; cases z⟩
    · obtain rfl := List.mem_singleton.mp hc
      obtain ⟨o, e, c, d⟩ := st5
      exact ⟨o, e, fun v z => by rw [d] at z; cases z⟩
  keep := fun i h h' st k => by
    obtain ⟨hi, st1, st2, ⟨p, q, st3⟩, st4, st5⟩ := st
    exact ⟨hi, k z (by simp) _ st1, k TI (by simp) _ st2, ⟨p, q, k TO (by simp) _ st3⟩, st4.at fun o e => k i1 (by simp) o e, st5.at fun o e => k i2 (by simp) o e⟩
  item := by
    intro X hP hw hK hc i pins s σ H E I hf st hg
    subst hP hw hK
    obtain ⟨hq1, hq2, hi⟩ := hg
    obtain ⟨its1, rv1, p1, hz1⟩ := I.list hq1
    obtain ⟨its2, rv2, p2, hz2⟩ := I.list hq2
    have hlen1 := rv1.length
    have hlen2 := rv2.length
    have W := WalksT.zip2 (prog := X.prog) (w := X.w) (I.ok.hd hc) z TI TO i1 i2 a b D its1.toArray its2.toArray
    refine W.item i s _ _ (by rw [List.size_toArray, List.size_toArray]; omega) ⟨st.2.1, st.2.2.1, st.2.2.2.1, st.2.2.2.2.1, st.2.2.2.2.2, p1.isList, p2.isList⟩ fun T vals h' tk hv hT htup mid kk => ?_
    refine ⟨_, rfl, W.go elts k pos i T _ _ _ mid fun h'' st' kk' => ?_⟩
    obtain ⟨u1, u2, hu1, hu2, rfl⟩ := hv
    have hu1' : its1[i]? = some u1 := by simpa using hu1
    have hu2' : its2[i]? = some u2 := by simpa using hu2
    have hy1 : xs[i]? = some (xs[i]'(by omega)) := List.getElem?_eq_getElem _
    have hy2 : ys[i]? = some (ys[i]'(by omega)) := List.getElem?_eq_getElem _
    obtain ⟨v1, hv1, ru1⟩ := rv1.get hy1
    obtain ⟨v2, hv2, ru2⟩ := rv2.get hy2
    rw [hu1'] at hv1; cases hv1
    rw [hu2'] at hv2; cases hv2
    have hTf := I.hok.fresh hT
    have nT : T ∉ [z, TO, i1, i2] := W.apart i T h' mid
    have nT2 : ∀ c ∈ [z, TI, TO, i1, i2], c ≠ T := fun c hcm e => by
      subst e
      rcases List.mem_cons.mp hcm with e | hcm
      · exact nT (by rw [e]; simp)
      rcases List.mem_cons.mp hcm with e | hcm
      · have h0 := Heap.lt_size st.2.2.1
        rw [← e] at h0
        exact absurd (Nat.lt_of_lt_of_le h0 hT) (Nat.lt_irrefl _)
      · exact nT (List.mem_cons_of_mem _ hcm)
    refine ⟨.ref T, upd H T (.tup [xs[i]'(by omega), ys[i]'(by omega)]), ?_, rfl, ⟨T, _, _, hTf, hy1, hy2, rfl, rfl⟩, ⟨by omega, st'.1, st'.2.1, st'.2.2.1, st'.2.2.2.1, st'.2.2.2.2.1⟩, fun c hcm => ?_⟩
    · refine I.turnedNew (ch := [z, TO, i1, i2]) (t' := tk) (fun c o hcn ec => kk' c o hcn (kk c o hcn ec)) (fun c hcm => hf c ?_) hT ?_
      · rcases List.mem_cons.mp hcm with e | hcm
        · rw [e]; simp
        · exact List.mem_cons_of_mem _ (List.mem_cons_of_mem _ hcm)
      refine ⟨by show 2 ≤ sizeLine; decide, [u1, u2], .cons ru1 (.cons ru2 .nil), ?_⟩
      obtain ⟨o, ho, r⟩ := htup
      exact ⟨o, kk' T o nT ho, r⟩
    · rw [upd_ne (nT2 c hcm)]
      exact (hf c hcm).1
  done := by
    intro X hP hw hK hc i pins s σ H E I hf st hg
    subst hP hw hK
    obtain ⟨hq1, hq2, hi⟩ := hg
    obtain ⟨its1, rv1, p1, hz1⟩ := I.list hq1
    obtain ⟨its2, rv2, p2, hz2⟩ := I.list hq2
    have hlen1 := rv1.length
    have hlen2 := rv2.length
    have W := WalksT.zip2 (prog := X.prog) (w := X.w) (I.ok.hd hc) z TI TO i1 i2 a b D its1.toArray its2.toArray
    have ei : i = min its1.toArray.size its2.toArray.size := by rw [List.size_toArray, List.size_toArray]; have := st.1; omega
    subst ei
    refine W.done s _ _ ⟨st.2.1, st.2.2.1, st.2.2.2.1, st.2.2.2.2.1, st.2.2.2.2.2, p1.isList, p2.isList⟩ fun h' tk kk => ⟨rfl, I.turnedL (t' := tk) kk fun c hcm => hf c ?_⟩
    rcases List.mem_cons.mp hcm with e | hcm
    · rw [e]; simp
    · exact List.mem_cons_of_mem _ (List.mem_cons_of_mem _ hcm)
  self := fun A i s Q E st h => wpAny_pyIter_zip st.2.1 h
section
variable {X : Cx}
def iZip (K : PySem.W.Frag) (ta : TA) : TI := fun σ H R => ta σ H fun vs H1 => ∃ a b xs ys, vs = [.ref a, .ref b] ∧ SqL K H1 a xs ∧ SqL K H1 b ys ∧ R (Itz K a b xs ys) H1
theorem pi_zip {l m : Expr} {ta : TA} {p pos : Pos} {elts : List Expr} {k : Nat} {tpos : Pos} (hg : Gl X "zip") (hm : X.mg "zip" = none) (ha : PA X [l, m] ta) (hs : starEach [l, m] X.env = [(false, eval l X.env), (false, eval m X.env)] := by rfl) (hs2 : starEach [m] X.env = [(false, eval m X.env)] := by rfl) :
    PI X (.Tuple elts k tpos) (.Call (.Name "zip" p) [l, m] [] pos) (iZip X.K ta) := by
  intro pins s σ H R I h
  refine Call_ (ld_blt I hg hm boot_zip (PyProof.Rows.callWith_type1 (thn (ha pos pins s σ H (fun vs H1 => ∃ a b xs ys, vs = [.ref a, .ref b] ∧ SqL X.K H1 a xs ∧ SqL X.K H1 b ys ∧ R (Itz X.K a b xs ys) H1) I h) fun us s1 ⟨vs, H1, I1, r1, q1⟩ => ?_) (by rw [hs, hs2]) (by rw [hs2]; rfl)))
  obtain ⟨a, b, xs, ys, rfl, hq1, hq2, q⟩ := q1
  obtain ⟨u1, u2, rfl, ru1, ru2⟩ := vals2 r1
  obtain rfl : u1 = Value.ref a := ru1
  obtain rfl : u2 = Value.ref b := ru2
  obtain ⟨its1, rv1, p1, hz1⟩ := I1.list hq1
  obtain ⟨its2, rv2, p2, hz2⟩ := I1.list hq2
  have l1 : a < s1.heap.objs.size := by obtain ⟨o, ho, _⟩ := p1.isList; exact Heap.lt_size ho
  have l2 : b < s1.heap.objs.size := by obtain ⟨o, ho, _⟩ := p2.isList; exact Heap.lt_size ho
  refine call_zip_2 p1.isList p2.isList fun h' z1 z2 z3 z4 z5 hsz kk => ?_
  have I2 : Inv X pins σ H1 { s1 with heap := h' } := I1.kept (t' := s1.toks) kk
  refine wpAny_pyIter_zip z1 ?_
  refine ⟨_, _, _, _, H1, rfl, I2, turn_zip a b _ _ _ _ _ xs ys (zipApart_new l1 l2), ⟨Nat.zero_le _, z1, z2, ⟨_, _, z3⟩, z4, z5⟩, fun c hc => ?_, q⟩
  have hcl : s1.heap.objs.size ≤ c := by
    rcases List.mem_cons.mp hc with e | hc
    · rw [e]; exact Nat.le_add_right ..
    rcases List.mem_cons.mp hc with e | hc
    · rw [e]; exact Nat.le_add_right ..
    rcases List.mem_cons.mp hc with e | hc
    · rw [e]; exact Nat.le_add_right ..
    rcases List.mem_cons.mp hc with e | hc
    · rw [e]; exact Nat.le_refl _
    · rw [List.mem_singleton.mp hc]; exact Nat.le_add_right ..
  exact I1.fpOk hcl (I1.hok.fresh hcl)
end
end L2
namespace L2
open PySem PySem.W PySem.Spec PyProof.Rows
/-- a comprehension over pairs of two lists -/
theorem comp_zip {K : PySem.W.Frag} {a b : Addr} {xs ys : List V} {g : TG} {te : TE} {Q : VK} {H : Hp} {D : Addr} {σ0 : St} (fe : Nat → V) (S : St → Prop) (hz : min xs.length ys.length ≤ 100000) (h0 : S σ0) (hD : H D = none) (hl1 : SqL K H a xs) (hl2 : SqL K H b ys)
    (ht : ∀ i x y, xs[i]? = some x → ys[i]? = some y → ∀ σ1 H1 T, S σ1 → Same H H1 → H1 T = none → ∀ R : St → V → Hp → Prop, (∀ σ2 H3, S σ2 → Same (upd H1 T (.tup [x, y])) H3 → R σ2 (fe i) H3) → g (.ref T) σ1 (upd H1 T (.tup [x, y])) fun σ2 H2 => te σ2 H2 fun z H3 => R σ2 z H3)
    (hq : ∀ H' : Hp, Same H H' → H' D = some (.lst ((List.range (min xs.length ys.length)).map fe)) → Q (.ref D) H') :
    CompGo (Itz K a b xs ys) g tYes te Q σ0 H D := by
  refine ⟨fun i m σ1 H2 => i ≤ min xs.length ys.length ∧ m = min xs.length ys.length - i ∧ S σ1 ∧ Same H H2 ∧ H2 D = some (.lst ((List.range i).map fe)), ⟨min xs.length ys.length, Nat.zero_le _, rfl, h0, same_new hD, upd_same⟩, ?_⟩
  rintro i m σ1 H2 ⟨h1, rfl, h2, hs, hDv⟩
  have q1 := hs.seq hl1
  have q2 := hs.seq hl2
  rcases Nat.lt_or_ge i (min xs.length ys.length) with z | z
  · refine .inr ⟨⟨q1, q2, z⟩, ?_⟩
    rintro x H3 ⟨T, u, v, hT, hu, hv, rfl, rfl⟩
    refine ht i u v hu hv σ1 H2 T h2 hs hT (fun σ2 y H6 => ∃ zs m', H6 D = some (.lst zs) ∧ zs.length < sizeLine ∧ m' < min xs.length ys.length - i ∧ (i + 1 ≤ min xs.length ys.length ∧ m' = min xs.length ys.length - (i + 1) ∧ S σ2 ∧ Same H (upd H6 D (.lst (zs ++ [y]))) ∧ upd H6 D (.lst (zs ++ [y])) D = some (.lst ((List.range (i + 1)).map fe)))) fun σ2 H6 q3 hs6 => ?_
    have nDT : D ≠ T := fun e => by rw [e, hT] at hDv; cases hDv
    refine ⟨(List.range i).map fe, min xs.length ys.length - (i + 1), hs6 _ _ (by rw [upd_ne nDT]; exact hDv), ?_, by omega, by omega, rfl, q3, ?_, ?_⟩
    · rw [List.length_map, List.length_range]
      exact Nat.lt_of_lt_of_le (show i < 100000 by omega) (by decide)
    · intro c o e
      rw [upd_ne (ne_of_none e hD)]
      refine hs6 c o ?_
      rw [upd_ne (fun e' => by rw [e', hs.free hT] at e; cases e)]
      exact hs c o e
    · rw [upd_same, List.range_succ, List.map_append]; rfl
  · have e : i = min xs.length ys.length := by omega
    subst e
    exact .inl ⟨⟨q1, q2, Nat.le_refl _⟩, hq H2 hs hDv⟩
end L2
namespace L2
open PySem PySem.W PySem.Spec PyProof.Rows
section
variable {X : Cx} {pos : Pos}
end
end L2

end

section
namespace KM
open PySem L2
/-! ### pages -/
def ent (a r : List Bool) : List Bool := cnt (com a r) ++ cnt (r.length - com a r) ++ r.drop (com a r)
def ents : List Bool → List (List Bool) → List Bool
  | _, [] => []
  | a, r :: rs => ent a r ++ ents r rs
def page (rs : List (List Bool)) : List Bool := cnt rs.length ++ ents [] rs
def Asc : List (List Bool) → Prop
  | [] => True
  | [_] => True
  | a :: b :: r => Lt a b ∧ Asc (b :: r)
theorem com_nil (r : List Bool) : com [] r = 0 := by cases r <;> rfl
theorem lt_drop {a b : List Bool} (h : Lt a b) : Lt (a.drop (com a b)) (b.drop (com a b)) ∧ com (a.drop (com a b)) (b.drop (com a b)) = 0 := by
  induction a generalizing b with
  | nil => rw [com_nil, List.drop_zero, List.drop_zero]; exact ⟨h, com_nil b⟩
  | cons x a ih =>
    cases b with
    | nil => exact absurd h (lt_nil _)
    | cons y b =>
      by_cases e : x = y
      · subst e
        have e1 : com (x :: a) (x :: b) = com a b + 1 := by rw [com, if_pos rfl]
        rw [e1, List.drop_succ_cons, List.drop_succ_cons]
        rcases cons_lt.mp h with ⟨h1, h2⟩ | ⟨_, h⟩
        · rw [h1] at h2; cases h2
        · exact ih h
      · have e1 : com (x :: a) (y :: b) = 0 := by rw [com, if_neg e]
        rw [e1, List.drop_zero, List.drop_zero]
        exact ⟨h, e1⟩
theorem com_join (a b : List Bool) : a.take (com a b) ++ b.drop (com a b) = b := by rw [com_take, List.take_append_drop]
theorem ents_append (a : List Bool) (xs ys : List (List Bool)) : ents a (xs ++ ys) = ents a xs ++ ents (xs.getLastD a) ys := by
  induction xs generalizing a with
  | nil => rfl
  | cons x xs ih =>
    rw [List.cons_append, ents, ents, ih, List.append_assoc]
    cases xs <;> rfl
theorem asc_tail {a : List Bool} {r : List (List Bool)} (h : Asc (a :: r)) : Asc r := by
  cases r with
  | nil => trivial
  | cons b r => exact h.2
theorem asc_get {rs : List (List Bool)} (h : Asc rs) : ∀ {j : Nat} {a b : List Bool}, rs[j]? = some a → rs[j + 1]? = some b → Lt a b := by
  induction rs with
  | nil => intro j a b h1; cases h1
  | cons x rs ih =>
    intro j a b h1 h2
    cases j with
    | zero =>
      cases rs with
      | nil => cases h2
      | cons y rs =>
        cases h1; cases h2
        exact h.1
    | succ j => exact ih (asc_tail h) h1 h2
theorem asc_all {a : List Bool} {r : List (List Bool)} (h : Asc (a :: r)) : ∀ b ∈ r, Lt a b := by
  induction r generalizing a with
  | nil => intro b hb; cases hb
  | cons x r ih =>
    intro b hb
    rcases List.mem_cons.mp hb with e | hb
    · rw [e]; exact h.1
    · exact lt_tr h.1 (ih h.2 b hb)
/-- which rows are there decides, where they ascend -/
def ascB : List (List Bool) → Bool
  | [] => true
  | [_] => true
  | a :: b :: r => decide (Lt a b) && ascB (b :: r)
theorem ascB_iff (rs : List (List Bool)) : ascB rs = true ↔ Asc rs := by
  induction rs with
  | nil => exact ⟨fun _ => trivial, fun _ => rfl⟩
  | cons a r ih =>
    cases r with
    | nil => exact ⟨fun _ => trivial, fun _ => rfl⟩
    | cons b r =>
      rw [ascB, Asc, Bool.and_eq_true, ih, decide_eq_true_iff]
theorem cnt_short {n : Nat} (h : n < 2 ^ 20) : (cnt n).length ≤ 36 := by
  have := cnt_length (n := n) (by have : (2 : Nat) ^ 20 < 2 ^ 255 - 1 := by decide +kernel
                                  omega)
  have := blen_le (n := n + 1) (w := 21) (by have : (2 : Nat) ^ 21 = 2 ^ 20 + 2 ^ 20 := by decide
                                             omega)
  omega
end KM
namespace KM
open PySem L2
theorem asc_cons {a : List Bool} {r : List (List Bool)} (h : Asc r) (h2 : ∀ b, r[0]? = some b → Lt a b) : Asc (a :: r) := by
  cases r with
  | nil => trivial
  | cons b r => exact ⟨h2 b rfl, h⟩
end KM
namespace KM
open PySem L2
theorem slice_from (r : List Bool) (k : Nat) (h : k ≤ r.length) : Txt.slice (rowS r) (some (k : Int)) none = rowS (r.drop k) := by
  rw [slice_row]
  congr 1
  have e1 : HT.sIx r.length 0 (some (k : Int)) = k := by
    unfold HT.sIx
    show (if (k : Int) < 0 then _ else _) = _
    rw [if_neg (by omega)]
    omega
  have e2 : HT.sIx r.length r.length none = r.length := rfl
  rw [e1, e2, List.take_of_length_le (by rw [List.length_drop]; omega)]
abbrev RL (rs : List (List Bool)) : List V := rs.map fun r => V.str (rowS r)
theorem RL_len (rs : List (List Bool)) : (RL rs).length = rs.length := List.length_map ..
theorem RL_at {rs : List (List Bool)} {i : Nat} {r : List Bool} (h : rs[i]? = some r) : (RL rs)[i]? = some (.str (rowS r)) := by rw [List.getElem?_map, h]; rfl
theorem RL_app (xs ys : List (List Bool)) : RL (xs ++ ys) = RL xs ++ RL ys := List.map_append ..
theorem page_step {rs : List (List Bool)} {i : Nat} {r : List Bool} (h : rs[i]? = some r) : cnt rs.length ++ ents [] (rs.take (i + 1)) = cnt rs.length ++ ents [] (rs.take i) ++ ent ((rs.take i).getLastD []) r := by
  have e : rs.take (i + 1) = rs.take i ++ [r] := by rw [List.take_add_one, h]; rfl
  rw [e, ents_append, List.append_assoc]
  show _ ++ (_ ++ (ent _ r ++ [])) = _
  rw [List.append_nil]
theorem last_step {rs : List (List Bool)} {i : Nat} {r : List Bool} (h : rs[i]? = some r) : (rs.take (i + 1)).getLastD [] = r := by
  have e : rs.take (i + 1) = rs.take i ++ [r] := by rw [List.take_add_one, h]; rfl
  rw [e]; simp
/-- the entries, one by one -/
theorem ents_map (rs : List (List Bool)) : ∀ a, ents a rs = ((List.range rs.length).map fun i => ent ((a :: rs).getD i []) (rs.getD i [])).flatten := by
  induction rs with
  | nil => intro a; rfl
  | cons r rs ih =>
    intro a
    rw [ents, ih r, List.length_cons, List.range_succ_eq_map, List.map_cons, List.flatten_cons, List.map_map]
    rfl
end KM

end

section
namespace L2
open PySem PySem.W PySem.Spec PyProof.Rows
/-! ### lists of texts, == and != -/
section
variable {X : Cx}
theorem row_ok (l : List Bool) : PyData.strOk (KM.rowS l) = true := by
  unfold PyData.strOk
  rw [← Array.all_toList, KM.rowS_cps, List.all_map, List.all_eq_true]
  intro b _
  cases b <;> decide
theorem ks_canLay : ∀ ns : List (List Bool), PyData.canLayAll0 (ns.map fun r => PyData.str (KM.rowS r)) = true
  | [] => rfl
  | _ :: r => by simp [PyData.canLayAll0, PyData.canLay0, ks_canLay r, row_ok]
theorem ks_depth : ∀ ns : List (List Bool), PyData.depthAll (ns.map fun r => PyData.str (KM.rowS r)) = 0
  | [] => rfl
  | _ :: r => by simp [PyData.depthAll, PyData.depth, ks_depth r]
theorem ks_shaped (ns : List (List Bool)) : SeqAt.shaped (.list (ns.map fun r => PyData.str (KM.rowS r))) = true := by
  simp [SeqAt.shaped, PyData.canLay0, PyData.depth, ks_canLay, ks_depth]
theorem ks_sameAll : ∀ ns ms : List (List Bool), PySem.Spec.sameAll (ns.map fun r => PyData.str (KM.rowS r)) (ms.map fun r => PyData.str (KM.rowS r)) = decide (ns = ms)
  | [], [] => by simp [PySem.Spec.sameAll]
  | [], _ :: _ => by simp [PySem.Spec.sameAll]
  | _ :: _, [] => by simp [PySem.Spec.sameAll]
  | a :: r, b :: t => by
    have e : (KM.rowS a = KM.rowS b) = (a = b) := propext ⟨KM.rowS_inj, fun h => by rw [h]⟩
    simp only [List.map_cons, PySem.Spec.sameAll, PySem.Spec.same, ks_sameAll r t]
    by_cases h : a = b <;> by_cases h' : r = t <;> simp [h, h', e]
theorem ks_same (ns ms : List (List Bool)) : PySem.Spec.same (.list (ns.map fun r => PyData.str (KM.rowS r))) (.list (ms.map fun r => PyData.str (KM.rowS r))) = decide (ns = ms) := by
  simp only [PySem.Spec.same]; exact ks_sameAll ns ms
theorem ks_carried : ∀ {vs : List Value} {ns : List (List Bool)}, Vals (KM.RL ns) vs → CarriedAll vs (ns.map fun r => PyData.str (KM.rowS r))
  | [], [], _ => .nil
  | v :: vs, b :: ns, h => by
    cases h with
    | cons a r =>
      obtain ⟨t, rfl⟩ := (show ∃ t, v = Value.str (KM.rowS b) t from a)
      exact .cons (.str _ _) (ks_carried r)
  | [], _ :: _, h => by cases h
  | _ :: _, [], h => by cases h
def rEqS : R2 := fun x y H Q => ∃ (l b : Addr) (xs zs : List (List Bool)), x = .ref l ∧ y = .ref b ∧ H l = some (.lst (KM.RL xs)) ∧ H b = some (.lst (KM.RL zs)) ∧ Q (.bl (decide (xs = zs))) H
def rNeS : R2 := fun x y H Q => ∃ (l b : Addr) (xs zs : List (List Bool)), x = .ref l ∧ y = .ref b ∧ H l = some (.lst (KM.RL xs)) ∧ H b = some (.lst (KM.RL zs)) ∧ Q (.bl (!decide (xs = zs))) H
theorem op_eqS (hu : X.A.units + 64 < cLine) : OpR X (compareOp .Eq) rEqS := by
  intro pins s σ H x y v u Q I rx ry h
  obtain ⟨l, b, xs, zs, rfl, rfl, h1, h2, q⟩ := h
  cases rx
  cases ry
  obtain ⟨_, its, n, r, _, e⟩ := I.lstM h1
  obtain ⟨_, its2, n2, r2, _, e2⟩ := I.lstM h2
  exact eq_dataH_same (reads_newData ⟨_, e, rfl, n, rfl⟩ (ks_carried r)) (reads_newData ⟨_, e2, rfl, n2, rfl⟩ (ks_carried r2)) (ks_shaped _) (ks_shaped _) hu (SeqAt.noMix_of_shape (.list .str) rfl _ _ (list_map_has fun _ => rfl) (list_map_has fun _ => rfl)) (by rw [ks_same]; exact ⟨.bl _, H, I, rfl, q⟩)
theorem op_neS (hu : X.A.units + 64 < cLine) : OpR X (compareOp .NotEq) rNeS := by
  intro pins s σ H x y v u Q I rx ry h
  obtain ⟨l, b, xs, zs, rfl, rfl, h1, h2, q⟩ := h
  cases rx
  cases ry
  obtain ⟨_, its, n, r, _, e⟩ := I.lstM h1
  obtain ⟨_, its2, n2, r2, _, e2⟩ := I.lstM h2
  exact ne_dataH_same (reads_newData ⟨_, e, rfl, n, rfl⟩ (ks_carried r)) (reads_newData ⟨_, e2, rfl, n2, rfl⟩ (ks_carried r2)) (ks_shaped _) (ks_shaped _) hu (SeqAt.noMix_of_shape (.list .str) rfl _ _ (list_map_has fun _ => rfl) (list_map_has fun _ => rfl)) (by rw [ks_same]; exact ⟨.bl _, H, I, rfl, q⟩)
def oEqLS (hu : X.A.units + 64 < cLine) := OpR.or (oEq (X := X)) (op_eqS hu)
def oNeLS (hu : X.A.units + 64 < cLine) := OpR.or (oNe (X := X)) (op_neS hu)
end
/-! ### a try whose body raises nothing -/
theorem ps_tryQ {X : Cx} {body : List Stmt} {h0 : ExceptHandler} {hs : List ExceptHandler} {tpos : Pos} {tb : TS} (hb : ∀ pn, PSs (X.tryC pn fun _ _ _ _ => False) body tb) : PS X (.Try body (h0 :: hs) [] [] tpos) tb := by
  intro pins s σ H Dn I h1
  have ok := I.ok
  refine wpAny_Try_except (wpAny_mono (hb (X.pn ++ pins) [] s σ H Dn (I.ins.wish _) h1) (fun f s1 z => ?_) (fun e s1 z => ?_))
  · cases f with
    | next =>
      obtain ⟨σ', H', I', q⟩ := z
      exact pss_nil (X := X) pins s1 σ' H' Dn (Inv.outs (Y := X) ok (Inv.unwish (X := { X with pn := X.pn ++ pins }) I')) q
    | brk => obtain ⟨σ', H', I', q⟩ := z; exact ⟨σ', H', Inv.outs (Y := X) ok (Inv.unwish (X := { X with pn := X.pn ++ pins }) I'), q⟩
    | cont => obtain ⟨σ', H', I', q⟩ := z; exact ⟨σ', H', Inv.outs (Y := X) ok (Inv.unwish (X := { X with pn := X.pn ++ pins }) I'), q⟩
    | ret u => obtain ⟨v, σ', H', I', r, q⟩ := z; exact ⟨v, σ', H', Inv.outs (Y := X) ok (Inv.unwish (X := { X with pn := X.pn ++ pins }) I'), r, q⟩
  obtain ⟨a, C, d, T, σ', H1, H', s0, rfl, I1, I2, fly, fa, fT, na, nT, q⟩ := z
  exact q.elim
end L2

end

section
namespace L2
open PySem PySem.W PySem.Spec PyProof.Rows
section
variable {M : Model} {A : Around} {E : Value → Shared → Prop} {s : Shared} {base : Heap} {env : Env} {outer : List Env} {L e T : Addr} {Q : Unit → Shared → Prop} {cls : Value} {d : Option Addr} {fl : Value}
end
section
variable {P : Program} {w : World} {K : PySem.W.Frag} {mg : Str → Option Value} {base : Heap} {N : List Str} {qual : Str} {scope : Scope} {f : Addr} {cdv : Value} {A : Around} {outer : List Env} {s : Shared} {H : Hp} {E : XK}
end
end L2

end

section
namespace L2
open PySem PySem.W PySem.Spec PyProof.Rows
section
variable {X : Cx}
/-! ### tuples of a number and a truth, == -/
end
end L2

namespace L2
open PySem PySem.W PySem.Spec PyProof.Rows
end L2

end

section
namespace L2
open PySem PySem.W PySem.Spec PyProof.Rows
end L2

end

section
namespace KM
open PySem L2
/-! ### rows that ascend, by their order alone -/
theorem asc_pw {rs : List (List Bool)} : Asc rs ↔ rs.Pairwise Lt := by
  induction rs with
  | nil => exact ⟨fun _ => .nil, fun _ => trivial⟩
  | cons a r ih =>
    constructor
    · intro h; exact .cons (asc_all h) (ih.mp (asc_tail h))
    · intro h
      have h' := List.pairwise_cons.mp h
      exact asc_cons (ih.mpr h'.2) fun b hb => h'.1 b (List.mem_of_getElem? hb)
theorem asc_eq : ∀ {a b : List (List Bool)}, Asc a → Asc b → a.Perm b → a = b
  | [], b, _, _, h => (List.Perm.nil_eq h)
  | x :: a, [], _, _, h => by have := h.length_eq; simp at this
  | x :: a, y :: b, ha, hb, h => by
    have e : x = y := by
      rcases lt_tri x y with z | z | z
      · have hx : x ∈ y :: b := h.mem_iff.mp (List.mem_cons_self ..)
        rcases List.mem_cons.mp hx with w | w
        · exact w
        · exact absurd z (lt_asym (asc_all hb x w))
      · exact z
      · have hy : y ∈ x :: a := h.mem_iff.mpr (List.mem_cons_self ..)
        rcases List.mem_cons.mp hy with w | w
        · exact w.symm
        · exact absurd z (lt_asym (asc_all ha y w))
    subst e
    rw [asc_eq (asc_tail ha) (asc_tail hb) (List.Perm.cons_inv h)]
theorem asc_filter {rs : List (List Bool)} (h : Asc rs) (p : List Bool → Bool) : Asc (rs.filter p) := asc_pw.mpr ((asc_pw.mp h).filter p)
theorem asc_nodup {rs : List (List Bool)} (h : Asc rs) : rs.Nodup := (asc_pw.mp h).imp fun {a b} z e => by rw [e] at z; exact lt_irr b z
/-- one row more -/
def insR (x : List Bool) : List (List Bool) → List (List Bool)
  | [] => [x]
  | a :: r => if Lt x a then x :: a :: r else a :: insR x r
theorem insR_perm (x : List Bool) (rs : List (List Bool)) : (insR x rs).Perm (x :: rs) := by
  induction rs with
  | nil => exact .refl _
  | cons a r ih =>
    unfold insR
    split
    · exact .refl _
    · exact (List.Perm.cons a ih).trans (List.Perm.swap x a r)
theorem insR_asc {x : List Bool} {rs : List (List Bool)} (h : Asc rs) (hx : x ∉ rs) : Asc (insR x rs) := by
  induction rs with
  | nil => trivial
  | cons a r ih =>
    unfold insR
    split
    · rename_i c; exact ⟨c, h⟩
    · rename_i c
      have hax : Lt a x := by
        rcases lt_tri a x with z | z | z
        · exact z
        · exact absurd (z ▸ List.mem_cons_self ..) hx
        · exact absurd z c
      refine asc_cons (ih (asc_tail h) fun z => hx (List.mem_cons_of_mem _ z)) fun b hb => ?_
      have hm := (insR_perm x r).mem_iff.mp (List.mem_of_getElem? hb)
      rcases List.mem_cons.mp hm with w | w
      · rw [w]; exact hax
      · exact asc_all h b w
theorem insR_len (x : List Bool) (rs : List (List Bool)) : (insR x rs).length = rs.length + 1 := (insR_perm x rs).length_eq
theorem insR_mem {x : List Bool} {rs : List (List Bool)} {y : List Bool} (h : y ∈ insR x rs) : y = x ∨ y ∈ rs := List.mem_cons.mp ((insR_perm x rs).mem_iff.mp h)
/-- what is sorted and has all unlike, ascends -/
theorem sortedS_asc : ∀ {ss : List (List Bool)}, PyProof.Rows.sortedS (ss.map rowS) = true → ss.Nodup → Asc ss
  | [], _, _ => trivial
  | [_], _, _ => trivial
  | a :: b :: r, h, hn => by
    have h1 : (!PySem.Spec.ltCps (rowS b).cps.toList (rowS a).cps.toList && PyProof.Rows.risingS (rowS b) (r.map rowS)) = true := h
    rw [Bool.and_eq_true] at h1
    have hn' := List.nodup_cons.mp hn
    refine ⟨?_, sortedS_asc (ss := b :: r) h1.2 hn'.2⟩
    rcases lt_tri a b with z | z | z
    · exact z
    · exact absurd (z ▸ List.mem_cons_self ..) hn'.1
    · exfalso
      have := h1.1
      rw [PyProof.Rows.ltCps_eq, decide_eq_true (show (rowS b).cps.toList < (rowS a).cps.toList from z)] at this
      cases this
theorem perm_rows : ∀ {l l' : List Str}, l.Perm l' → ∀ {rs : List (List Bool)}, l = rs.map rowS → ∃ ss, l' = ss.map rowS ∧ rs.Perm ss := by
  intro l l' h
  induction h with
  | nil => intro rs e; exact ⟨[], rfl, by cases rs with | nil => exact .refl _ | cons a r => cases e⟩
  | cons x _ ih =>
    intro rs e
    cases rs with
    | nil => cases e
    | cons a r =>
      obtain ⟨e1, e2⟩ := List.cons.inj e
      obtain ⟨ss, h1, h2⟩ := ih e2
      exact ⟨a :: ss, by rw [h1, e1]; rfl, .cons a h2⟩
  | swap x y l =>
    intro rs e
    match rs, e with
    | a :: b :: r, e =>
      obtain ⟨e1, e2⟩ := List.cons.inj e
      obtain ⟨e3, e4⟩ := List.cons.inj e2
      exact ⟨b :: a :: r, by rw [e1, e3, e4]; rfl, .swap b a r⟩
  | trans _ _ ih1 ih2 =>
    intro rs e
    obtain ⟨ss, h1, h2⟩ := ih1 e
    obtain ⟨ts, h3, h4⟩ := ih2 h1
    exact ⟨ts, h3, h2.trans h4⟩
end KM
namespace L2
open PySem PySem.W PySem.Spec PyProof.Rows
section
variable {X : Cx}
theorem strs_are : ∀ {vs : List Value} {rs : List (List Bool)}, Vals (KM.RL rs) vs → StrsAre vs (rs.map KM.rowS)
  | [], [], _ => .nil
  | v :: vs, b :: ns, h => by
    cases h with
    | cons a r =>
      obtain ⟨t, rfl⟩ := (show ∃ t, v = Value.str (KM.rowS b) t from a)
      exact .cons _ _ (strs_are r)
  | [], _ :: _, h => by cases h
  | _ :: _, [], h => by cases h
theorem strs_back : ∀ {vs : List Value} {rs : List (List Bool)}, StrsAre vs (rs.map KM.rowS) → Vals (KM.RL rs) vs
  | [], [], _ => .nil
  | v :: vs, b :: ns, h => by
    cases h with
    | cons x t r => exact .cons ⟨t, rfl⟩ (strs_back r)
  | [], _ :: _, h => by cases h
  | _ :: _, [], h => by cases h
/-! ### sorted(rows) -/
theorem call_sortedR : CallR X (.builtin "sorted") (fun xs H Q => ∃ (a : Addr) (rs : List (List Bool)), xs = [.ref a] ∧ SqL X.K H a (KM.RL rs) ∧ rs.length < 64 ∧ rs.Nodup ∧ ∀ ss : List (List Bool), KM.Asc ss → ss.Perm rs → ∀ p, H p = none → Q (.ref p) (upd H p (.lst (KM.RL ss)))) := by
  intro pins s σ H xs us Q I r h
  obtain ⟨a, rs, rfl, hq, h64, hnd, q⟩ := h
  obtain ⟨u, rfl, ru⟩ := vals1 r
  obtain rfl : u = Value.ref a := ru
  obtain ⟨its, rv, pl, hz⟩ := I.list hq
  have hlen := rv.length
  rw [KM.RL_len] at hlen
  refine sorted_strs pl.isList (strs_are rv) (by omega) fun out ss' a1 a2 a3 => ?_
  obtain ⟨ss, e1, e2⟩ := KM.perm_rows a2.symm rfl
  subst e1
  obtain ⟨e, he⟩ := sortedAll_at s.heap its out
  have hp := I.hok.fresh (a := s.heap.objs.size + 1) (Nat.le_succ _)
  have hA := KM.sortedS_asc a3 (e2.nodup_iff.mp hnd)
  refine ⟨.ref (s.heap.objs.size + 1), _, ?_, rfl, q ss hA e2.symm _ hp⟩
  have hl2 := e2.length_eq
  refine I.turnedNew (ch := []) (t' := s.toks) (fun b o _ eb => sortedAll_old eb) (fun b hb => nomatch hb) (Nat.le_succ _) ?_
  refine ⟨by rw [KM.RL_len]; exact Nat.le_trans (show ss.length ≤ 64 by omega) (by decide), out.toList, e, strs_back a1, ?_⟩
  rw [he]
/-! ### tuples of a word and a row or None, == -/
inductive RowN : V → PyData → Prop
  | non : RowN .non .none
  | row (l : List Bool) : RowN (.str (KM.rowS l)) (.str (KM.rowS l))
end
end L2

end

section
namespace L2
open PySem PySem.W PySem.Spec PyProof.Rows
section
variable {prog : Program} {w : World} {A : Around} {E : Value → Shared → Prop} {s : Shared}
end
section
variable {prog : Program} {w : World} {A : Around} {E : Value → Shared → Prop} {s : Shared} {env : Env}
variable {nm q : Str} {C N a : Addr} {bs bm bmB : List Value} {hdct : Bool} {sn : List Str} {sub : List Value} {ab : Bool} {col : Option Bool} {dd : Option Addr} {k0 k1 k2 k3 k5 : Option Value} {B Bn newId nid initId inN : String} {bmN : List Value} {K : Frag}
end
section
variable {X : Cx}
end
end L2

end

section
namespace KM
open PySem L2
/-! ### any signs read as a page -/
def padL (l : List Bool) : List Bool := l ++ List.replicate 3000 false
open Classical in
/-- the count that stands at i, the signs behind the end being 0 -/
noncomputable def cnv (l : List Bool) (i : Nat) : Nat := if h : ∃ n, n + 1 < 2 ^ 255 ∧ cnt n <+: (padL l).drop i then h.choose else 0
/-- an entry behind la, s signs of which it shares, its m others at i; fst: it is the first -/
def entAt (l la : List Bool) (fst : Bool) (s m i : Nat) : Option (List Bool × Nat) :=
  if i + m ≤ l.length ∧ s ≤ la.length ∧ com la (la.take s ++ (l.drop i).take m) = s ∧ (fst = true ∨ Lt la (la.take s ++ (l.drop i).take m)) then some (la.take s ++ (l.drop i).take m, i + m) else none
noncomputable def entR (l la : List Bool) (fst : Bool) (i : Nat) : Option (List Bool × Nat) :=
  entAt l la fst (cnv l i) (cnv l (i + (cnt (cnv l i)).length)) (i + (cnt (cnv l i)).length + (cnt (cnv l (i + (cnt (cnv l i)).length))).length)
theorem entAt_some {l la r : List Bool} {fst : Bool} {s m i j : Nat} (h : entAt l la fst s m i = some (r, j)) : i + m ≤ l.length ∧ s ≤ la.length ∧ j = i + m ∧ r.length ≤ la.length + m := by
  unfold entAt at h
  split at h
  · rename_i c
    cases h
    refine ⟨c.1, c.2.1, rfl, ?_⟩
    rw [List.length_append, List.length_take, List.length_take]
    omega
  · cases h
theorem cnt_pos1 (n : Nat) : 1 ≤ (cnt n).length := by
  rw [cnt_len]
  by_cases h : blen (blen (n + 1)) = 8
  · rw [h]; omega
  · have : (cend (blen (blen (n + 1)))).length = 1 := by unfold cend; rw [if_neg h]; rfl
    omega
theorem entR_some {l la r : List Bool} {fst : Bool} {i j : Nat} (h : entR l la fst i = some (r, j)) : i + 2 ≤ j ∧ j ≤ l.length ∧ r.length + i ≤ la.length + j := by
  unfold entR at h
  obtain ⟨a, b, c, d⟩ := entAt_some h
  have e1 := cnt_pos1 (cnv l i)
  have e2 := cnt_pos1 (cnv l (i + (cnt (cnv l i)).length))
  omega
noncomputable def goR (l : List Bool) : Nat → List (List Bool) → Nat → Option (List (List Bool))
  | 0, rs, i => if i = l.length then some rs else none
  | k + 1, rs, i => match entR l (rs.getLastD []) rs.isEmpty i with
    | none => none
    | some (r, j) => goR l k (rs ++ [r]) j
noncomputable def rowsR (l : List Bool) : Option (List (List Bool)) := if (cnt (cnv l 0)).length ≤ l.length then goR l (cnv l 0) [] (cnt (cnv l 0)).length else none
/-- how a page's reading stands: rs read, the next entry at i -/
structure RdAt (l : List Bool) (out : Option (List (List Bool))) (rs : List (List Bool)) (i : Nat) : Prop where
  le : rs.length ≤ cnv l 0
  at_ : i ≤ l.length
  few : rs.length ≤ i
  sm : ∀ x ∈ rs, x.length ≤ i
  go : goR l (cnv l 0 - rs.length) rs i = out
theorem RdAt.start {l : List Bool} {out : Option (List (List Bool))} (h : rowsR l = out) (hf : (cnt (cnv l 0)).length ≤ l.length) : RdAt l out [] (cnt (cnv l 0)).length := by
  unfold rowsR at h
  rw [if_pos hf] at h
  exact ⟨Nat.zero_le _, hf, Nat.zero_le _, fun x hx => (by cases hx), h⟩
theorem RdAt.step {l r : List Bool} {out : Option (List (List Bool))} {rs : List (List Bool)} {i j : Nat} (h : RdAt l out rs i) (hl : rs.length < cnv l 0) (he : entR l (rs.getLastD []) rs.isEmpty i = some (r, j)) : RdAt l out (rs ++ [r]) j := by
  obtain ⟨a, b, c⟩ := entR_some he
  have hg := h.go
  rw [show cnv l 0 - rs.length = (cnv l 0 - (rs.length + 1)) + 1 by omega] at hg
  unfold goR at hg
  rw [he] at hg
  have hla : (rs.getLastD []).length ≤ i := by
    cases rs with
    | nil => exact Nat.zero_le _
    | cons x y => exact h.sm _ (by rw [List.getLastD_cons]; exact List.getLastD_mem_cons ..)
  have f := h.few
  refine ⟨by rw [List.length_append, List.length_singleton]; omega, b, by rw [List.length_append, List.length_singleton]; omega, fun x hx => ?_, by rw [List.length_append, List.length_singleton]; exact hg⟩
  rcases List.mem_append.mp hx with z | z
  · have := h.sm x z; omega
  · rw [List.mem_singleton.mp z]; omega
theorem RdAt.stop {l : List Bool} {out : Option (List (List Bool))} {rs : List (List Bool)} {i : Nat} (h : RdAt l out rs i) (hl : rs.length < cnv l 0) (he : entR l (rs.getLastD []) rs.isEmpty i = none) : out = none := by
  have hg := h.go
  rw [show cnv l 0 - rs.length = (cnv l 0 - (rs.length + 1)) + 1 by omega] at hg
  unfold goR at hg
  rw [he] at hg
  exact hg.symm
theorem RdAt.last {l : List Bool} {out : Option (List (List Bool))} {rs : List (List Bool)} {i : Nat} (h : RdAt l out rs i) (hl : ¬ rs.length < cnv l 0) : out = if i = l.length then some rs else none := by
  have hg := h.go
  rw [show cnv l 0 - rs.length = 0 by omega] at hg
  exact hg.symm
end KM

end

section
namespace L2
open PySem PySem.W PySem.Spec PyProof.Rows
/-! ### xs[::-1] -/
section
variable {X : Cx} {e : Expr} {te : TE} {p2 pos : Pos}
end
end L2

end

section
namespace KM
open PySem
/-! ### 5 x + 1 goes through all slots of a table -/
/-! ### a free slot is met -/
/-! ### the table laid anew -/
theorem none_of {α : Type} : ∀ (l : List (Option α)), (l.filterMap id).length < l.length → ∃ t, t < l.length ∧ l[t]? = some none
  | [], h => by cases h
  | none :: r, h => ⟨0, Nat.succ_pos _, rfl⟩
  | some x :: r, h => by
    obtain ⟨t, ht, e⟩ := none_of r (by simpa using h)
    exact ⟨t + 1, Nat.succ_lt_succ ht, e⟩
end KM

end

section
namespace L2
open PySem PySem.Spec
/-! ### sets of texts, as they lie -/
abbrev setO (es : Array (Int × Value)) (ep : Nat) (t : SetTable) : Obj := { cls := .type "set", dict := none, data := .set es ep t }
structure SetIn (w : World) (es : Array (Int × Value)) (t : SetTable) (ks : List Str) : Prop where
  fit : t.fits es.size = true
  led : w.params.followText "set-order" = false → t.led = true
  pl : es.size ≠ 0 → t.plain = false
  els : ∀ e ∈ es.toList, ∃ k u, e = (hashStr w k, Value.str k u)
  keys : (es.toList.map fun e => PyProof.Rows.strOf e.2).Perm ks
def SetT (w : World) (h : Heap) (a : Addr) (ks : List Str) : Prop := ∃ es ep t, h.get? a = some (setO es ep t) ∧ SetIn w es t ks
section
variable {w : World} {es es' : Array (Int × Value)} {t t' : SetTable} {ks : List Str}
theorem SetIn.size (h : SetIn w es t ks) : es.size = ks.length := by
  have z := h.keys.length_eq
  rwa [List.length_map, Array.length_toList] at z
theorem SetIn.mem (prog : Program) (h : SetIn w es t ks) (k : Str) : (∃ e ∈ es.toList, (PySem.strKind prog w).is k e.2 = true) ↔ k ∈ ks := by
  rw [← h.keys.mem_iff, List.mem_map]
  constructor
  · rintro ⟨e, he, hp⟩
    obtain ⟨k', u, rfl⟩ := h.els e he
    obtain ⟨v, hv⟩ := Value.isStrOf_shape (x := k) (v := Value.str k' u) hp
    injection hv with hv
    exact ⟨_, he, hv⟩
  · rintro ⟨e, he, rfl⟩
    obtain ⟨k', u, rfl⟩ := h.els e he
    exact ⟨_, he, by simp [PySem.strKind, Value.isStrOf, PyProof.Rows.strOf]⟩
theorem SetIn.fresh : SetIn w #[] (.fresh 0 0 (!w.params.followText "set-order")) [] :=
  ⟨rfl, fun z => by show (!w.params.followText "set-order") = true; rw [z]; rfl, fun z => absurd rfl z, fun e he => (by cases he), .refl _⟩
theorem SetT.keep {h h' : Heap} {a : Addr} (t : SetT w h a ks) (k : ∀ o, h.get? a = some o → h'.get? a = some o) : SetT w h' a ks := by
  obtain ⟨es, ep, tb, ho, hi⟩ := t
  exact ⟨es, ep, tb, k _ ho, hi⟩
/-! ### flags of a table laid anew -/
end
section
variable {prog : Program} {w : World} {A : Around} {E : Value → Shared → Prop} {s : Shared} {a : Addr} {es : Array (Int × Value)} {ep : Nat} {t : SetTable} {ks : List Str}
set_option maxHeartbeats 1000000 in
/-! ### a table laid anew, and the merging of two -/
set_option maxHeartbeats 1000000 in
/-! ### the order of a walk -/
/-! ### a merge into an empty set, and into one that is not -/
set_option maxHeartbeats 1000000 in
set_option maxHeartbeats 1000000 in
end
end L2

end

section
namespace L2
open PySem PySem.Spec
section
variable {prog : Program} {w : World} {A : Around} {E : Value → Shared → Prop} {s : Shared} {a : Addr} {es : Array (Int × Value)} {ep : Nat} {t : SetTable} {ks : List Str}
set_option maxHeartbeats 1000000 in
set_option maxHeartbeats 1000000 in
/-! ### a | b -/
theorem SetT.ty {h : Heap} {g : Array GenState} {d : Drawn} {k : Nat} {os : OsState} (hT : SetT w h a ks) : (⟨h, g, d, k, os⟩ : Shared).TypeIs (.ref a) "set" := by
  obtain ⟨es, ep, t, ho, _⟩ := hT
  exact ⟨_, ho, rfl⟩
set_option maxHeartbeats 1000000 in
/-! ### what is in the union -/
end
end L2

end

section
namespace L2
open PySem PySem.Spec
/-! ### set(a list of texts) -/
section
variable {prog : Program} {w : World} {A : Around} {R : Result → Shared → Prop} {I : Addr} {fp wr : List Addr} {G : Array GenState → Array GenState → Prop} {n : Nat} {Pv : Nat → Value → Prop} {St : Nat → Shared → Prop}
end
section
variable {prog : Program} {w : World} {A : Around} {E : Value → Shared → Prop} {s : Shared}
set_option maxHeartbeats 3200000 in
set_option maxHeartbeats 3200000 in
end
end L2

end

section
namespace L2
open PySem PySem.Spec
/-! ### a walk through a set of texts -/
section
variable {prog : Program} {w : World} {A : Around} {E : Value → Shared → Prop} {s : Shared} {a I : Addr} {es : Array (Int × Value)} {ep : Nat} {t : SetTable} {ks : List Str}
set_option maxHeartbeats 1000000 in
set_option maxHeartbeats 1000000 in
end
end L2

end

section
namespace L2
open PySem PySem.Spec
section
variable {prog : Program} {w : World} {A : Around} {E : Value → Shared → Prop} {s : Shared} {a I p : Addr} {es : Array (Int × Value)} {ep : Nat} {t : SetTable} {ks : List Str}
set_option maxHeartbeats 1000000 in
set_option maxHeartbeats 1000000 in
/-! ### what comes next -/
end
end L2

end

section
namespace L2
open PySem PySem.Spec
section
variable {prog : Program} {w : World} {A : Around} {E : Value → Shared → Prop} {s : Shared} {a I p : Addr} {es : Array (Int × Value)} {ep : Nat} {t : SetTable} {ks : List Str}
set_option maxHeartbeats 1000000 in
end
end L2

end

section
namespace L2
open PySem PySem.Spec PyProof.Rows
section
variable {prog : Program} {w : World} {A : Around} {E : Value → Shared → Prop} {s : Shared} {a : Addr} {es : Array (Int × Value)} {ep : Nat} {t : SetTable} {ks : List Str}
set_option maxHeartbeats 1000000 in
/-! ### sorted(a set of texts) -/
set_option maxHeartbeats 1000000 in
end
end L2

end

section
namespace L2
open PySem PySem.W PySem.Spec PyProof.Rows
theorem Inv.draw {X : Cx} {pins : List (Addr × Obj)} {σ : St} {H : Hp} {s : Shared} (I : Inv X pins σ H s) (d : Drawn) : Inv X pins σ H { s with drawn := d } :=
  I.step (g' := s.gens) (d' := d) (t' := s.toks) (h' := s.heap) (ch := []) (fun b hb => nomatch hb) (fun b o _ _ _ e _ => e) (fun b o _ _ _ e _ => ⟨o.slots, e⟩) (fun b o _ _ n => n) (fun b o _ e => ⟨o, e⟩) (fun _ _ e => e) (fun _ _ _ e => e) (fun b ps e => ⟨#[], by rw [e]; simp⟩) (fun m hm => hm) I.hok I.bare
section
variable {X : Cx} {pos p p2 p3 q q2 q3 : Pos} {e1 e2 : Expr} {te1 te2 : TE}
set_option maxHeartbeats 1000000 in
end
end L2

end

section
namespace L2
open PySem PySem.W PySem.Spec PyProof.Rows
/-! ### try with two handlers without a name -/
/-! ### xs[lo:hi:step], a step ahead -/
section
variable {X : Cx} {e el eh es : Expr} {te tl th ts : TE} {p2 pos : Pos}
/-! ### sum(ints) -/
/-! ### (int, bool) != (int, bool) -/
/-- the test of a truth value -/
theorem pt_bl {a : Expr} {ta : TE} (ha : PE X a ta) (he : ∀ whole, isTrue a X.env whole = (do let v ← whole; standAt a.pos; holding [v] (truthy v))) : PT X a (fun σ H Q => ta σ H fun x H' => ∃ c, x = .bl c ∧ Q c H') := by
  intro pins s σ H Q I h
  refine isTrue_plain (thn (ha pins s σ H _ I h) fun v s1 ⟨x, H1, I1, r1, c, ex, q1⟩ => ?_) (he _)
  subst ex
  cases r1
  exact wpAny_truthy_bool ⟨H1, I1, q1⟩
end
end L2

end

section
namespace L2
open PySem PySem.W PySem.Spec PyProof.Rows
/-! ### C() where C has no __init__ of its own -/
structure Mk0 (K : PySem.W.Frag) (C : Addr) : Prop where
  makes : PySem.W.makesIn K C = true
  init : PySem.W.findIn K (.ref C) "__init__" = some (some (.builtin "object.__init__"))
  kp : PySem.W.keepIn K (.ref C) = true
section
variable {X : Cx} {C : Addr} {x : Str} {p pos : Pos}
theorem run_make0 {pins : List (Addr × Obj)} {σ : St} {H : Hp} {s : Shared} {Q : VK} (M : Mk0 X.K C) (I : Inv X pins σ H s) (h : ∀ x dx, H x = none → H dx = none → dx ≠ x → Q (.ref x) (upd (upd H dx (.own x)) x (.ins C dx []))) :
    wpAny (model X.prog X.w) X.A (call (.ref C) []) (EP X pins σ Q) X.xe s := by
  have hq := h (s.heap.objs.size + 1) s.heap.objs.size (I.hok.fresh (Nat.le_succ _)) (I.hok.fresh (Nat.le_refl _)) (Nat.ne_of_lt (Nat.lt_succ_self _))
  have I2 := Inv.made (C := C) I
  have Y := makes_of (M := model X.prog X.w) I.kIn M.makes
  refine wpAny_call (make_map0 I.kIn M.makes M.init (fun self => Looks.of_pure (oi_bind self)) ?_)
  have e2 : ((s.heap.push PySem.W.emptyDict).push (PySem.W.instObj C s.heap.objs.size)).get? (s.heap.objs.size + 1) = some (PySem.W.instObj C s.heap.objs.size) := by
    have := Heap.get?_push_size (s.heap.push PySem.W.emptyDict) (o := PySem.W.instObj C s.heap.objs.size) rfl
    rwa [Heap.size_push] at this
  have t1 : Looks (model X.prog X.w) ((s.heap.push PySem.W.emptyDict).push (PySem.W.instObj C s.heap.objs.size)) (typeOf (.ref (s.heap.objs.size + 1))) (.ref C) := (Looks.ld e2).andThen .now
  have t2 : Looks (model X.prog X.w) ((s.heap.push PySem.W.emptyDict).push (PySem.W.instObj C s.heap.objs.size)) (isInstance (.ref (s.heap.objs.size + 1)) (.type "object")) true := t1.andThen (Y.top.keeps fun b o e => Heap.get?_push_of_some _ (Heap.get?_push_of_some _ e))
  obtain ⟨hh, g, d, t, os⟩ := s
  refine codeAny_call_builtin oi_plain entry_oi (@check_slot (model X.prog X.w) _ _ _ "object.__init__" "object" "__init__" (.ref (hh.objs.size + 1)) [] [] _ oi_kind oi_split t2 (oi_args (.ref (hh.objs.size + 1))) ?_)
  rw [oi_run]
  exact wpAny_pure (And.intro rfl ⟨V.ref (hh.objs.size + 1), _, I2, rfl, hq⟩)
def tMake0 (C : Addr) : TE := fun _ H Q => ∀ x dx, H x = none → H dx = none → dx ≠ x → Q (.ref x) (upd (upd H dx (.own x)) x (.ins C dx []))
theorem pe_makeN0 (M : Mk0 X.K C) (hg : Gl X x) (hm : X.mg x = some (.ref C)) (hdb : (x == ("__debug__" : Str)) = false := by decide) : PE X (.Call (.Name x p) [] [] pos) (tMake0 C) := by
  intro pins s σ H Q I h
  refine wpAny_Call_Name_kw (ld_glob I hg hm ?_ hdb)
  exact PySem.W.callWith_K0 I.kIn M.kp (run_make0 M I h)
/-! ### list.remove(row) -/
def rRemove : V → List V → Hp → VK → Prop := fun x vs H Q => ∃ (l : Addr) (rs : List (List Bool)) (r : List Bool) (k : Nat), x = .ref l ∧ vs = [.str (KM.rowS r)] ∧ H l = some (.lst (KM.RL rs)) ∧ rs[k]? = some r ∧ (∀ j, j < k → rs[j]? ≠ some r) ∧ rs.length < 100000 ∧ Q .non (upd H l (.lst (KM.RL (rs.eraseIdx k))))
theorem RL_er : ∀ (rs : List (List Bool)) (k : Nat), (KM.RL rs).eraseIdx k = KM.RL (rs.eraseIdx k)
  | [], _ => rfl
  | _ :: _, 0 => rfl
  | a :: r, k + 1 => congrArg (V.str (KM.rowS a) :: ·) (RL_er r k)
theorem eqG_str (a b : Str) (t u : Tok) : MeetsSeq.EqGives (.str a t) (.str b u) (decide (a = b)) := by
  intro prog w A Q E s h
  exact wpAny_eqBool_str h
theorem vals_erase : ∀ {xs : List V} {its : List Value}, Vals xs its → ∀ k : Nat, Vals (xs.eraseIdx k) (its.eraseIdx k)
  | _, _, .nil, _ => .nil
  | _, _, .cons a r, 0 => r
  | _, _, .cons a r, k + 1 => .cons a (vals_erase r k)
theorem mt_remove : MtM X "list.remove" rRemove := by
  intro pins s σ H x vs v us Q I rx rv h
  obtain ⟨l, rs, r, k, rfl, rfl, hH, hk, hno, hz, q⟩ := h
  cases rx
  obtain ⟨u1, rfl, ⟨t, rfl⟩⟩ := vals1 rv
  obtain ⟨z, its, n, rr, hl, e⟩ := I.lstM hH
  have hlen := rr.length
  rw [KM.RL_len] at hlen
  have hkl : k < rs.length := (List.getElem?_eq_some_iff.mp hk).1
  have hat : ∀ (j : Nat) (hj : j < its.length), ∃ t', its[j] = .str (KM.rowS (rs[j]'(by omega))) t' := fun j hj => by
    obtain ⟨u, hu, ru⟩ := rr.get (i := j) (x := .str (KM.rowS (rs[j]'(by omega)))) (by unfold KM.RL; rw [List.getElem?_map, List.getElem?_eq_getElem (by omega)]; rfl)
    rw [List.getElem?_eq_getElem hj] at hu
    obtain ⟨t', ht'⟩ := (show ∃ t, u = Value.str _ t from ru)
    exact ⟨t', by rw [← ht']; exact Option.some.inj hu⟩
  let ee : Value → Bool := fun y => match y with | .str a _ => decide (a = KM.rowS r) | _ => false
  have he : ∀ y, y ∈ its.toArray → MeetsSeq.EqGives y (.str (KM.rowS r) t) (ee y) := fun y hy => by
    obtain ⟨j, hj, rfl⟩ := List.mem_iff_getElem.mp (List.mem_toArray.mp hy)
    obtain ⟨t', e'⟩ := hat j hj
    rw [e']
    exact eqG_str _ _ _ _
  have h5 : (100000 : Nat) ≤ sizeLine := by decide
  have hsz : its.toArray.size ≤ sizeLine := by rw [List.size_toArray]; omega
  have hit : ee (its.toArray[k]'(by rw [List.size_toArray]; omega)) = true := by
    obtain ⟨t', e'⟩ := hat k (by omega)
    rw [List.getElem_toArray, e']
    have := (List.getElem?_eq_some_iff.mp hk).2
    show decide (_ = _) = true
    rw [this]; exact decide_eq_true rfl
  have hno' : ∀ m (hm : m < its.toArray.size), m < k → ee its.toArray[m] = false := fun m hm hmk => by
    rw [List.size_toArray] at hm
    obtain ⟨t', e'⟩ := hat m hm
    rw [List.getElem_toArray, e']
    show decide (_ = _) = false
    refine decide_eq_false fun z => hno m hmk ?_
    rw [List.getElem?_eq_getElem (by omega), KM.rowS_inj z]
  refine call_meets F.slot_list_remove ⟨_, e, rfl⟩ F.entry_list_remove (F.args_list_remove_2 _ _) (MeetsSeq.list_remove l its.toArray n (.str (KM.rowS r) t) ee he k (by rw [List.size_toArray]; omega) hit hno' hsz) ⟨e, ?_⟩
  refine ⟨.non, _, I.lset (its' := its.eraseIdx k) hH e ?_ (by rw [← RL_er]; exact vals_erase rr k) ?_, rfl, q⟩
  · apply Array.ext'
    simp [Array.eraseIdxIfInBounds, show k < its.length by omega]
  · rw [KM.RL_len, List.length_eraseIdx]
    split <;> omega
/-! ### range(a, b, c), ahead -/
theorem size_small {i j c : Int} (hi : 0 ≤ i) (hj : 0 ≤ j) (hj2 : j ≤ 1000) (hc : 0 < c) : 0 ≤ Builtin.Range.rangeSize i j c ∧ Builtin.Range.rangeSize i j c ≤ 1000 := by
  unfold Builtin.Range.rangeSize
  rw [if_pos hc]
  split
  · have h1 := Int.ediv_nonneg (a := j - i - 1) (b := c) (by omega) (by omega)
    have h2 := Int.ediv_le_self (a := j - i - 1) c (by omega)
    omega
  · omega
theorem small_up {i j c : Int} (hi : 0 ≤ i) (hi2 : i ≤ 1000) (hj : 0 ≤ j) (hj2 : j ≤ 1000) (hc : 0 < c) (hc2 : c ≤ 1000) : Builtin.Range.small i j c = true := by
  obtain ⟨h1, h2⟩ := size_small hi hj hj2 hc
  unfold Builtin.Range.small
  generalize Builtin.Range.rangeSize i j c = m at h1 h2 ⊢
  simp only [Builtin.Range.rangeFitsLong, Bool.and_eq_true, Bool.or_eq_true, decide_eq_true_eq, beq_iff_eq, if_pos hc]
  omega
def iRngS (ta : TA) : TI := fun σ H R => ta σ H fun vs H1 => ∃ i j c : Int, vs = [.int i, .int j, .int c] ∧ (0 ≤ i ∧ i ≤ 1000 ∧ 0 ≤ j ∧ j ≤ 1000 ∧ 0 < c ∧ c ≤ 1000) ∧ R (Itc i c (Builtin.Range.rangeSize i j c).toNat) H1
theorem pi_rangeS {tg a b c : Expr} {ta : TA} {p pos : Pos} (hg : Gl X "range") (hm : X.mg "range" = none) (ha : PA X [a, b, c] ta)
    (hs : starEach [a, b, c] X.env = [(false, eval a X.env), (false, eval b X.env), (false, eval c X.env)] := by rfl) (hs2 : starEach [b, c] X.env = [(false, eval b X.env), (false, eval c X.env)] := by rfl) :
    PI X tg (.Call (.Name "range" p) [a, b, c] [] pos) (iRngS ta) := by
  intro pins s σ H R I h
  refine Call_ (ld_blt I hg hm boot_range (PyProof.Rows.callWith_type1 (thn (ha pos pins s σ H _ I h) fun us s1 ⟨vs, H1, I1, r1, q1⟩ => ?_) (by rw [hs, hs2]) (by rw [hs2]; rfl)))
  obtain ⟨i, j, c, e, ⟨q1, q2, q3, q4, q5, q6⟩, q⟩ := q1
  subst e
  cases r1 with
  | cons r rr =>
    cases rr with
    | cons r' rr =>
      cases rr with
      | cons r'' rr =>
        cases rr
        obtain ⟨t, rfl⟩ := r
        obtain ⟨t', rfl⟩ := r'
        obtain ⟨t'', rfl⟩ := r''
        refine call_range_3 (by omega) ?_ (.inl (PyProof.noPylong_small (by omega)))
        refine wpAny_pyIter_range (IsRange.new ..) (small_up q1 q2 q3 q4 q5 q6) ?_
        have I2 : Inv X pins σ H1 { s1 with heap := s1.heap.push { cls := .type "range", data := .fields #[.int i t, .int j t', .int c t''] } } := I1.kept (t' := s1.toks) fun b o e => Heap.get?_push_of_some _ e
        refine ⟨_, [_], _, _, H1, rfl, I2.kept (t' := s1.toks) fun b o e => Heap.get?_push_of_some _ e, turn_rangeC _ i c (Builtin.Range.rangeSize i j c).toNat, ?_, fun b hb => ?_, q⟩
        · have e1 : i + ((0 : Nat) : Int) * c = i := by simp
          have e2 : (((Builtin.Range.rangeSize i j c).toNat : Nat) : Int) - ((0 : Nat) : Int) = Builtin.Range.rangeSize i j c := by have := (size_small q1 q3 q4 q5).1; omega
          show IsRangeIter _ _ (i + ((0 : Nat) : Int) * c) ((((Builtin.Range.rangeSize i j c).toNat : Nat) : Int) - ((0 : Nat) : Int)) c
          rw [e1, e2]
          exact Heap.get?_push_size _ rfl
        · have e := List.mem_singleton.mp hb
          subst e
          exact I2.fpOk (Nat.le_refl _) (I2.hok.fresh (Nat.le_refl _))
end
theorem comp_itcI {lo c : Int} {n : Nat} {g : TG} {te : TE} {Q : VK} {H : Hp} {D : Addr} {σ0 : St} (fe : Nat → V) (S : St → Prop) (hn : n ≤ 100000) (h0 : S σ0) (hD : H D = none)
    (ht : ∀ i : Nat, i < n → ∀ σ1 H1, S σ1 → Same H H1 → ∀ R : St → V → Hp → Prop, (∀ σ2 H3, S σ2 → Same H1 H3 → R σ2 (fe i) H3) → g (.int (lo + (i : Int) * c)) σ1 H1 fun σ2 H2 => te σ2 H2 fun z H3 => R σ2 z H3)
    (hq : ∀ H' : Hp, Same H H' → H' D = some (.lst ((List.range n).map fe)) → Q (.ref D) H') :
    CompGo (Itc lo c n) g tYes te Q σ0 H D := by
  refine ⟨fun i m σ1 H2 => i ≤ n ∧ m = n - i ∧ S σ1 ∧ Same H H2 ∧ H2 D = some (.lst ((List.range i).map fe)), ⟨n, Nat.zero_le _, rfl, h0, same_new hD, upd_same⟩, ?_⟩
  rintro i m σ1 H2 ⟨h1, rfl, h2, hs, hDv⟩
  rcases Nat.lt_or_ge i n with z | z
  · refine .inr ⟨z, ?_⟩
    rintro x H3 ⟨rfl, rfl⟩
    refine ht i z σ1 _ h2 hs (fun σ2 y H6 => ∃ zs m', H6 D = some (.lst zs) ∧ zs.length < sizeLine ∧ m' < n - i ∧ (i + 1 ≤ n ∧ m' = n - (i + 1) ∧ S σ2 ∧ Same H (upd H6 D (.lst (zs ++ [y]))) ∧ upd H6 D (.lst (zs ++ [y])) D = some (.lst ((List.range (i + 1)).map fe)))) fun σ2 H6 q3 hs6 => ?_
    refine ⟨(List.range i).map fe, n - (i + 1), hs6 _ _ hDv, ?_, by omega, by omega, rfl, q3, ?_, ?_⟩
    · rw [List.length_map, List.length_range]; exact Nat.lt_of_lt_of_le (show i < 100000 by omega) (by decide)
    · intro c o e
      rw [upd_ne (ne_of_none e hD)]
      exact hs6 c o (hs c o e)
    · rw [upd_same, List.range_succ, List.map_append]; rfl
  · have e : i = n := by omega
    subst e
    exact .inl ⟨Nat.le_refl _, hq H2 hs hDv⟩
/-! ### lists of two lists of texts, == -/
section
variable {X : Cx}
def rEqLL : R2 := fun x y H Q => ∃ (l b a1 a2 b1 b2 : Addr) (x1 x2 y1 y2 : List (List Bool)), x = .ref l ∧ y = .ref b ∧ H l = some (.lst [.ref a1, .ref a2]) ∧ H b = some (.lst [.ref b1, .ref b2]) ∧ H a1 = some (.lst (KM.RL x1)) ∧ H a2 = some (.lst (KM.RL x2)) ∧ H b1 = some (.lst (KM.RL y1)) ∧ H b2 = some (.lst (KM.RL y2)) ∧ Q (.bl (decide (x1 = y1) && decide (x2 = y2))) H
theorem ll_shaped (a b : List (List Bool)) : SeqAt.shaped (.list [.list (a.map fun r => PyData.str (KM.rowS r)), .list (b.map fun r => PyData.str (KM.rowS r))]) = true := by
  simp [SeqAt.shaped, PyData.canLay0, PyData.canLayAll0, PyData.depth, PyData.depthAll, ks_canLay, ks_depth]
theorem ll_reads {h : Heap} {l a1 a2 : Addr} {i0 i1 i2 : Array Value} {n0 n1 n2 : Nat} {x1 x2 : List (List Bool)} (e0 : h.get? l = some { cls := .type "list", data := .seq i0 n0 }) (r0 : i0.toList = [.ref a1, .ref a2]) (e1 : h.get? a1 = some { cls := .type "list", data := .seq i1 n1 }) (e2 : h.get? a2 = some { cls := .type "list", data := .seq i2 n2 })
    (c1 : Vals (KM.RL x1) i1.toList) (c2 : Vals (KM.RL x2) i2.toList) : ∃ as, Reads h (.ref l) (.list [.list (x1.map fun r => PyData.str (KM.rowS r)), .list (x2.map fun r => PyData.str (KM.rowS r))]) as :=
  ⟨_, .list e0 rfl rfl (by rw [r0]; exact .cons (.list e1 rfl rfl ((ks_carried c1).reads h)) (.cons (.list e2 rfl rfl ((ks_carried c2).reads h)) .nil))⟩
theorem ll_has (a b : List (List Bool)) : (Shape.list (.list .str)).has (.list [.list (a.map fun r => PyData.str (KM.rowS r)), .list (b.map fun r => PyData.str (KM.rowS r))]) = true :=
  list_map_has (l := [a, b]) (g := fun a => PyData.list (a.map fun r => PyData.str (KM.rowS r))) fun a => list_map_has fun _ => rfl
theorem op_eqLL (hu : X.A.units + 64 < cLine) : OpR X (compareOp .Eq) rEqLL := by
  intro pins s σ H x y v u Q I rx ry h
  obtain ⟨l, b, a1, a2, b1, b2, x1, x2, y1, y2, rfl, rfl, h0, g0, h1, h2, g1, g2, q⟩ := h
  cases rx
  cases ry
  obtain ⟨_, its0, n0, r0, _, e0⟩ := I.lstM h0
  obtain ⟨_, its1, n1, r1, _, e1⟩ := I.lstM h1
  obtain ⟨_, its2, n2, r2, _, e2⟩ := I.lstM h2
  obtain ⟨_, jts0, m0, s0, _, f0⟩ := I.lstM g0
  obtain ⟨_, jts1, m1, s1, _, f1⟩ := I.lstM g1
  obtain ⟨_, jts2, m2, s2, _, f2⟩ := I.lstM g2
  obtain ⟨u1, u2, rfl, k1, k2⟩ := vals2 r0
  obtain ⟨w1, w2, rfl, k3, k4⟩ := vals2 s0
  cases k1; cases k2; cases k3; cases k4
  obtain ⟨as, R1⟩ := ll_reads e0 rfl e1 e2 r1 r2
  obtain ⟨bs, R2⟩ := ll_reads f0 rfl f1 f2 s1 s2
  refine eq_dataH_same R1 R2 (ll_shaped _ _) (ll_shaped _ _) hu (SeqAt.noMix_of_shape (.list (.list .str)) rfl _ _ (ll_has x1 x2) (ll_has y1 y2)) ?_
  have e : PySem.Spec.same (.list [.list (x1.map fun r => PyData.str (KM.rowS r)), .list (x2.map fun r => PyData.str (KM.rowS r))]) (.list [.list (y1.map fun r => PyData.str (KM.rowS r)), .list (y2.map fun r => PyData.str (KM.rowS r))]) = (decide (x1 = y1) && decide (x2 = y2)) := by
    simp only [PySem.Spec.same, PySem.Spec.sameAll, ks_sameAll, Bool.and_true]
  rw [e]
  exact ⟨.bl _, H, I, rfl, q⟩
/-- == of texts, numbers, lists of texts, lists of two such -/
def oEqLL (hu : X.A.units + 64 < cLine) := OpR.or (oEqLS (X := X) hu) (op_eqLL hu)
end
end L2

end

section
namespace L2
open PySem PySem.W PySem.Spec PyProof.Rows
/-- a comprehension over a list whose element is a new object, be it a list -/
theorem comp_objsL {K : PySem.W.Frag} {a : Addr} {xs : List V} {g : TG} {te : TE} {Q : VK} {H : Hp} {D : Addr} {σ0 : St} (obj : Nat → HO) (S : St → Prop) (hz : xs.length ≤ sizeLine) (h0 : S σ0) (hD : H D = none) (hl : SqL K H a xs)
    (ht : ∀ i x, xs[i]? = some x → ∀ σ1 H1, S σ1 → Same H H1 → ∀ R : St → V → Hp → Prop, (∀ σ2 T, S σ2 → H1 T = none → R σ2 (.ref T) (upd H1 T (obj i))) → g x σ1 H1 fun σ2 H2 => te σ2 H2 fun y H3 => R σ2 y H3)
    (hq : ∀ (ts : List Addr) (H' : Hp), ts.length = xs.length → Same H H' → H' D = some (.lst (ts.map V.ref)) → (∀ k T, ts[k]? = some T → T ≠ D ∧ H T = none ∧ H' T = some (obj k)) → Q (.ref D) H') :
    CompGo (Itl K a) g tYes te Q σ0 H D := by
  refine ⟨fun i m σ1 H2 => i ≤ xs.length ∧ m = xs.length - i ∧ S σ1 ∧ ∃ ts : List Addr, ts.length = i ∧ Same H H2 ∧ H2 D = some (.lst (ts.map V.ref)) ∧ ∀ k T, ts[k]? = some T → T ≠ D ∧ H T = none ∧ H2 T = some (obj k), ⟨xs.length, Nat.zero_le _, rfl, h0, [], rfl, same_new hD, upd_same, fun k T h => nomatch h⟩, ?_⟩
  rintro i m σ1 H2 ⟨h1, rfl, h2, ts, ht1, hs, hDv, hts⟩
  have hl2 := hs.seq hl
  rcases Nat.lt_or_ge i xs.length with z | z
  · refine .inr ⟨⟨xs, xs[i], hl2, List.getElem?_eq_getElem z⟩, ?_⟩
    rintro x H3 ⟨rfl, hx⟩
    have hx := hx xs hl2
    refine ht i x hx σ1 _ h2 hs (fun σ2 y H6 => ∃ ys m', H6 D = some (.lst ys) ∧ ys.length < sizeLine ∧ m' < xs.length - i ∧ (i + 1 ≤ xs.length ∧ m' = xs.length - (i + 1) ∧ S σ2 ∧ ∃ ts : List Addr, ts.length = i + 1 ∧ Same H (upd H6 D (.lst (ys ++ [y]))) ∧ upd H6 D (.lst (ys ++ [y])) D = some (.lst (ts.map V.ref)) ∧ ∀ k T, ts[k]? = some T → T ≠ D ∧ H T = none ∧ upd H6 D (.lst (ys ++ [y])) T = some (obj k))) fun σ2 T q3 hT => ?_
    have nDT : D ≠ T := fun e => by rw [e, hT] at hDv; cases hDv
    refine ⟨ts.map V.ref, xs.length - (i + 1), by rw [upd_ne nDT]; exact hDv, by rw [List.length_map]; omega, by omega, by omega, rfl, q3, ts ++ [T], by rw [List.length_append, ht1]; rfl, ?_, ?_, ?_⟩
    · intro b o e
      rw [upd_ne (ne_of_none e hD), upd_ne (fun e' => by rw [e', hs.free hT] at e; cases e)]
      exact hs b o e
    · rw [upd_same, List.map_append]; rfl
    · intro k U hU
      rcases Nat.lt_or_ge k ts.length with zk | zk
      · rw [List.getElem?_append_left zk] at hU
        obtain ⟨n1, n0, hv⟩ := hts k U hU
        have n2 : U ≠ T := fun e => by rw [e, hT] at hv; cases hv
        exact ⟨n1, n0, by rw [upd_ne n1, upd_ne n2]; exact hv⟩
      · rw [List.getElem?_append_right zk] at hU
        have ek : k = ts.length := by
          rcases Nat.lt_or_ge (k - ts.length) 1 with y | y
          · omega
          · rw [List.getElem?_eq_none (by simpa using y)] at hU; cases hU
        subst ek
        rw [Nat.sub_self] at hU
        cases hU
        exact ⟨Ne.symm nDT, hs.free hT, by rw [upd_ne (Ne.symm nDT), upd_same, ht1]⟩
  · have e : i = xs.length := by omega
    subst e
    exact .inl ⟨⟨xs, hl2, Nat.le_refl _⟩, hq ts H2 ht1 hs hDv hts⟩
end L2

end
namespace KR
open PySem L2 KM
def top (i : Nat) : Stmt := PySem.Challenge.pw_keyrise_k72_pages_and_partings.main.body.getD i (.Pass ⟨0, 0, 0, 0⟩)
abbrev s_turned_row : Stmt := top 13
abbrev s_lower_digits : Stmt := top 14
abbrev s_Source_init : Stmt := inClass (top 9) 0
abbrev s_Source_draw : Stmt := inClass (top 9) 1
abbrev s_is_count : Stmt := top 15
abbrev s_count_row : Stmt := top 17
abbrev s_draw_lower_digits : Stmt := top 19
abbrev s_draw_count : Stmt := top 20
abbrev s_read_count : Stmt := top 22
abbrev s_whole_row : Stmt := top 18
abbrev s_law_cell_at : Stmt := top 46
abbrev s_first_unlike : Stmt := top 28
abbrev s_shared_signs : Stmt := top 31
abbrev s_parting_of : Stmt := top 32
abbrev s_entry_of : Stmt := top 35
abbrev s_ascend : Stmt := top 34
abbrev s_page_of : Stmt := top 36
abbrev s_may_follow : Stmt := top 37
abbrev s_read_entry : Stmt := top 38
abbrev s_read_rows : Stmt := top 39
abbrev s_rows_of : Stmt := top 40
abbrev s_has_whole_row : Stmt := top 16
abbrev s_is_number : Stmt := top 24
abbrev s_Whole_fits : Stmt := inClass (top 26) 0
abbrev s_Whole_written : Stmt := inClass (top 26) 1
abbrev s_Turned_init : Stmt := inClass (top 29) 0
abbrev s_Turned_fits : Stmt := inClass (top 29) 1
abbrev s_Turned_written : Stmt := inClass (top 29) 2
abbrev s_Form_row : Stmt := inClass (top 25) 0
abbrev s_Shelf_init : Stmt := inClass (top 44) 0
abbrev s_Shelf_put : Stmt := inClass (top 44) 1
abbrev s_Shelf_take : Stmt := inClass (top 44) 2
abbrev s_Shelf_pages : Stmt := inClass (top 44) 5
abbrev s_Shelf_partings : Stmt := inClass (top 44) 6
abbrev s_law_texts : Stmt := top 47
abbrev s_law_parting : Stmt := top 48
abbrev s_law_number : Stmt := top 50
abbrev s_law_pages : Stmt := top 49
abbrev s_law : Stmt := top 51
theorem sc_turned_row : FnScope ["row"] ["row"] (defScope s_turned_row) := ⟨rfl, rfl, rfl, by decide +kernel, rfl, by decide +kernel, by decide +kernel⟩
theorem sc_lower_digits : FnScope ["n", "width"] ["n", "width"] (defScope s_lower_digits) := ⟨rfl, rfl, rfl, by decide +kernel, rfl, by decide +kernel, by decide +kernel⟩
theorem sc_Source_init : FnScope ["self", "signs", "at"] ["self", "signs", "at"] (defScope s_Source_init) := ⟨rfl, rfl, rfl, by decide +kernel, rfl, by decide +kernel, by decide +kernel⟩
theorem sc_Source_draw : FnScope ["self", "wished", "sign"] ["self"] (defScope s_Source_draw) := ⟨rfl, rfl, rfl, by decide +kernel, rfl, by decide +kernel, by decide +kernel⟩
theorem sc_is_count : FnScope ["n"] ["n"] (defScope s_is_count) := ⟨rfl, rfl, rfl, by decide +kernel, rfl, by decide +kernel, by decide +kernel⟩
theorem sc_count_row : FnScope ["n", "m", "digits", "ahead", "end"] ["n"] (defScope s_count_row) := ⟨rfl, rfl, rfl, by decide +kernel, rfl, by decide +kernel, by decide +kernel⟩
theorem sc_draw_lower_digits : FnScope ["source", "width", "n", "k"] ["source", "width"] (defScope s_draw_lower_digits) := ⟨rfl, rfl, rfl, by decide +kernel, rfl, by decide +kernel, by decide +kernel⟩
theorem sc_draw_count : FnScope ["source", "ahead", "digits"] ["source"] (defScope s_draw_count) := ⟨rfl, rfl, rfl, by decide +kernel, rfl, by decide +kernel, by decide +kernel⟩
theorem sc_read_count : FnScope ["signs", "at", "source", "n"] ["signs", "at"] (defScope s_read_count) := ⟨rfl, rfl, rfl, by decide +kernel, rfl, by decide +kernel, by decide +kernel⟩
theorem sc_whole_row : FnScope ["n"] ["n"] (defScope s_whole_row) := ⟨rfl, rfl, rfl, by decide +kernel, rfl, by decide +kernel, by decide +kernel⟩
theorem sc_law_cell_at : FnScope ["_law_script", "_law_k"] ["_law_script", "_law_k"] (defScope s_law_cell_at) := ⟨rfl, rfl, rfl, by decide +kernel, rfl, by decide +kernel, by decide +kernel⟩
theorem sc_first_unlike : FnScope ["one", "other", "place"] ["one", "other"] (defScope s_first_unlike) := ⟨rfl, rfl, rfl, by decide +kernel, rfl, by decide +kernel, by decide +kernel⟩
theorem sc_shared_signs : FnScope ["one", "other"] ["one", "other"] (defScope s_shared_signs) := ⟨rfl, rfl, rfl, by decide +kernel, rfl, by decide +kernel, by decide +kernel⟩
theorem sc_parting_of : FnScope ["one", "other"] ["one", "other"] (defScope s_parting_of) := ⟨rfl, rfl, rfl, by decide +kernel, rfl, by decide +kernel, by decide +kernel⟩
theorem sc_entry_of : FnScope ["ahead", "row", "shared"] ["ahead", "row"] (defScope s_entry_of) := ⟨rfl, rfl, rfl, by decide +kernel, rfl, by decide +kernel, by decide +kernel⟩
theorem sc_ascend : FnScope ["rows"] ["rows"] (defScope s_ascend) := ⟨rfl, rfl, rfl, by decide +kernel, rfl, by decide +kernel, by decide +kernel⟩
theorem sc_page_of : FnScope ["rows", "entries"] ["rows"] (defScope s_page_of) := ⟨rfl, rfl, rfl, by decide +kernel, rfl, by decide +kernel, by decide +kernel⟩
theorem sc_may_follow : FnScope ["rows", "shared", "rest", "last", "left"] ["rows", "shared", "rest"] (defScope s_may_follow) := ⟨rfl, rfl, rfl, by decide +kernel, rfl, by decide +kernel, by decide +kernel⟩
theorem sc_read_entry : FnScope ["page", "at", "rows", "shared", "others", "end", "rest", "begun"] ["page", "at", "rows"] (defScope s_read_entry) := ⟨rfl, rfl, rfl, by decide +kernel, rfl, by decide +kernel, by decide +kernel⟩
theorem sc_read_rows : FnScope ["page", "number", "rows", "place", "entry"] ["page"] (defScope s_read_rows) := ⟨rfl, rfl, rfl, by decide +kernel, rfl, by decide +kernel, by decide +kernel⟩
theorem sc_rows_of : FnScope ["page"] ["page"] (defScope s_rows_of) := ⟨rfl, rfl, rfl, by decide +kernel, rfl, by decide +kernel, by decide +kernel⟩
theorem sc_has_whole_row : FnScope ["n"] ["n"] (defScope s_has_whole_row) := ⟨rfl, rfl, rfl, by decide +kernel, rfl, by decide +kernel, by decide +kernel⟩
theorem sc_is_number : FnScope ["value"] ["value"] (defScope s_is_number) := ⟨rfl, rfl, rfl, by decide +kernel, rfl, by decide +kernel, by decide +kernel⟩
theorem sc_Whole_fits : FnScope ["self", "value"] ["self", "value"] (defScope s_Whole_fits) := ⟨rfl, rfl, rfl, by decide +kernel, rfl, by decide +kernel, by decide +kernel⟩
theorem sc_Whole_written : FnScope ["self", "value"] ["self", "value"] (defScope s_Whole_written) := ⟨rfl, rfl, rfl, by decide +kernel, rfl, by decide +kernel, by decide +kernel⟩
theorem sc_Turned_init : FnScope ["self", "inner"] ["self", "inner"] (defScope s_Turned_init) := ⟨rfl, rfl, rfl, by decide +kernel, rfl, by decide +kernel, by decide +kernel⟩
theorem sc_Turned_fits : FnScope ["self", "value"] ["self", "value"] (defScope s_Turned_fits) := ⟨rfl, rfl, rfl, by decide +kernel, rfl, by decide +kernel, by decide +kernel⟩
theorem sc_Turned_written : FnScope ["self", "value"] ["self", "value"] (defScope s_Turned_written) := ⟨rfl, rfl, rfl, by decide +kernel, rfl, by decide +kernel, by decide +kernel⟩
theorem sc_Form_row : FnScope ["self", "value"] ["self", "value"] (defScope s_Form_row) := ⟨rfl, rfl, rfl, by decide +kernel, rfl, by decide +kernel, by decide +kernel⟩
theorem sc_Shelf_init : FnScope ["self", "form", "room"] ["self", "form", "room"] (defScope s_Shelf_init) := ⟨rfl, rfl, rfl, by decide +kernel, rfl, by decide +kernel, by decide +kernel⟩
theorem sc_Shelf_put : FnScope ["self", "value", "row"] ["self", "value"] (defScope s_Shelf_put) := ⟨rfl, rfl, rfl, by decide +kernel, rfl, by decide +kernel, by decide +kernel⟩
theorem sc_Shelf_take : FnScope ["self", "value", "row"] ["self", "value"] (defScope s_Shelf_take) := ⟨rfl, rfl, rfl, by decide +kernel, rfl, by decide +kernel, by decide +kernel⟩
theorem sc_Shelf_pages : FnScope ["self"] ["self"] (defScope s_Shelf_pages) := ⟨rfl, rfl, rfl, by decide +kernel, rfl, by decide +kernel, by decide +kernel⟩
theorem sc_Shelf_partings : FnScope ["self"] ["self"] (defScope s_Shelf_partings) := ⟨rfl, rfl, rfl, by decide +kernel, rfl, by decide +kernel, by decide +kernel⟩
theorem sc_law_texts : FnScope ["_law_found"] ["_law_found"] (defScope s_law_texts) := ⟨rfl, rfl, rfl, by decide +kernel, rfl, by decide +kernel, by decide +kernel⟩
theorem sc_law_parting : FnScope ["_law_one", "_law_other", "_law_k"] ["_law_one", "_law_other"] (defScope s_law_parting) := ⟨rfl, rfl, rfl, by decide +kernel, rfl, by decide +kernel, by decide +kernel⟩
theorem sc_law_number : FnScope ["_law_cell", "_law_number_here"] ["_law_cell"] (defScope s_law_number) := ⟨rfl, rfl, rfl, by decide +kernel, rfl, by decide +kernel, by decide +kernel⟩
theorem sc_law_pages : FnScope ["_law_shelf", "_law_room", "_law_kept", "_law_ahead", "_law_found", "_law_told", "_law_parts", "_law_rows", "_law_k"] ["_law_shelf", "_law_room", "_law_kept", "_law_ahead"] (defScope s_law_pages) := ⟨rfl, rfl, rfl, by decide +kernel, rfl, by decide +kernel, by decide +kernel⟩
theorem sc_law : FnScope ["_law_script", "_law_first", "_law_room", "_law_turn", "_law_form", "_law_shelf", "_law_beside", "_law_kept", "_law_others", "_law_cell", "_law_number_here", "_law_row"] ["_law_script"] (defScope s_law) := ⟨rfl, rfl, rfl, by decide +kernel, rfl, by decide +kernel, by decide +kernel⟩
/-- Python's own names are not given another meaning -/
structure NB (mg : Str → Option Value) : Prop where
  len_ : mg "len" = none
  range_ : mg "range" = none
  int_ : mg "int" = none
  str_ : mg "str" = none
  bool_ : mg "bool" = none
  isinstance_ : mg "isinstance" = none
  max_ : mg "max" = none
  list_ : mg "list" = none
  all_ : mg "all" = none
  zip_ : mg "zip" = none
  sorted_ : mg "sorted" = none
section
open PySem L2 KM
variable {P : Program} {w : World} {K : PySem.W.Frag} {mg : Str → Option Value} {base : Heap}
seal PE PT PW PA PS PSs PG PGs PI PTs PC PO

local macro_rules | `(tactic| walk_at "g1") => `(tactic| first
  | with_reducible exact True.intro
  | refine ⟨_, rfl, ?_⟩
  | refine ⟨_, _, rfl, rfl, ?_⟩
  | refine Or.inl ⟨_, _, rfl, rfl, ?_⟩
  | refine Or.inr ⟨_, _, rfl, rfl, ?_⟩
  | refine ⟨rfl, ?_⟩
  | refine ⟨(by first | omega | decide), ?_⟩)
local macro_rules | `(tactic| walk_at "g") => `(tactic| repeat walk_at "g1")
theorem iteD {p A B : Prop} [Decidable p] (h1 : p → A) (h2 : ¬ p → B) : if decide p = true then A else B := by
  by_cases h : p
  · rw [if_pos (decide_eq_true h)]; exact h1 h
  · rw [if_neg (by simpa using h)]; exact h2 h
theorem iteN {p A B : Prop} [Decidable p] (h : ¬ p) (h2 : B) : if decide p = true then A else B := by rw [if_neg (by simpa using h)]; exact h2
theorem iteY {p A B : Prop} [Decidable p] (h : p) (h2 : A) : if decide p = true then A else B := by rw [if_pos (decide_eq_true h)]; exact h2

/-! ### rows of signs -/
def spTurnedRow : Sp := fun vs H Q _ => ∃ l : List Bool, vs = [.str (rowS l)] ∧ l.length ≤ 100000 ∧ Q (.str (rowS (l.map (!·)))) H
theorem small5 {n : Nat} (h : n ≤ 100000) : n ≤ sizeLine := Nat.le_trans h (by decide)
theorem map_ones (l : List Bool) {fe : Nat → V} (g : Bool → Bool) (h : ∀ i, i < l.length → fe i = .str (rowS [g (l.getD i false)])) : (List.range l.length).map fe = ((l.map g).map fun b => rowS [b]).map V.str := by
  apply List.ext_getElem?
  intro i
  rw [List.getElem?_map, List.getElem?_map, List.getElem?_map, List.getElem?_map]
  rcases Nat.lt_or_ge i l.length with z | z
  · rw [List.getElem?_range z, List.getElem?_eq_getElem z]
    have := h i z
    rw [List.getD_eq_getElem?_getD, List.getElem?_eq_getElem z] at this
    exact congrArg some this
  · rw [List.getElem?_eq_none (by simpa using z), List.getElem?_eq_none z]; rfl
theorem join_len (l : List Bool) : ((l.map fun b => rowS [b]).map (·.length)).sum + (l.map fun b => rowS [b]).length * (Str.ofString "").length = l.length := by
  have e : (Str.ofString "").length = 0 := by decide +kernel
  rw [e, Nat.mul_zero, Nat.add_zero]
  induction l with
  | nil => rfl
  | cons b r ih => simp only [List.map_cons, List.sum_cons, ih, rowS_length, List.length_cons, List.length_nil]; omega
theorem one_slot {σ : St} (h : σ.length = 1) : ∃ z, σ = [z] := by
  match σ, h with
  | [z], _ => exact ⟨z, rfl⟩
theorem ok_turned_row {f : Addr} {fd : FuncData} (F : FunAt K mg "turned_row" s_turned_row ["row"] f fd) : DefOk P w K mg base 1 "turned_row" ["row"] spTurnedRow := by
  refine F.ok sc_turned_row (fun vs H Q E h => ?_) (fun cdv A outer s H vs Q E hr h => ?_)
  · obtain ⟨l, rfl, _⟩ := h; rfl
  obtain ⟨l, rfl, hl, q⟩ := h
  refine ⟨_, (pss_one (ps_ret (pe_bm PySem.F.plainAttrs_str PySem.F.slot_str_join PySem.F.type_str_join mt_join pe_str (pa_cons (pe_comp ["sign"] [] rfl (by decide +kernel) trivial (piAll (pv 0)) (fun _ _ _ _ _ => (pg_name (i := 0) (show (["sign"] : List Str).Nodup by decide +kernel) rfl (by first | exact Or.inl rfl | exact Or.inr rfl))) (fun _ _ _ _ _ => pts_nil) (fun _ _ _ _ _ => (pe_ifExp (pt_cmpR oEq (pv 0) pe_str (nomark _)) pe_str pe_str))) pa_nil)))), ?_⟩
  refine ⟨rfl, .inr ⟨_, rfl, _, rfl, fun D hD => ?_⟩⟩
  refine comp_all l.length (fun i => .str (rowS [l.getD i false])) (fun i => .str (rowS [!l.getD i false])) (fun σ => σ.length = 1) (small5 hl) ?_ ?_ ?_ ?_ ?_ ?_
  · rfl
  · intro i H1 hi; show i < (rowS l).cps.size; simpa [rowS] using hi
  · intro H1; show (rowS l).cps.size ≤ l.length; simp [rowS]
  · rintro i H1 x H2 hi ⟨rfl, c, hc, rfl⟩
    exact ⟨rfl, row_sign hc⟩
  · intro i σ1 H1 hi hS R hR
    obtain ⟨z, rfl⟩ := one_slot hS
    refine ⟨_, rfl, rfl, _, rfl, ?_⟩
    revert hR
    rw [s0, s1, rowS_dec]
    cases l.getD i false
    · intro hR; exact iteT (hR _ (by rfl))
    · intro hR; exact iteF (hR _ (by rfl))
  · refine ⟨_, D, (l.map (!·)).map fun b => rowS [b], rfl, rfl, SqL.of ?_, ?_, H, .refl ?_, ?_⟩
    · rw [upd_same]; exact congrArg (fun x => some (HO.lst x)) (map_ones l (!·) fun i _ => rfl)
    · rw [join_len, List.length_map]; omega
    · exact same_new hD
    · rw [join_bits]; exact q
def spLowerDigits : Sp := fun vs H Q _ => ∃ n d : Nat, vs = [.int n, .int d] ∧ d ≤ 100000 ∧ Q (.str (rowS (bitsW n d))) H
theorem bitsW_range (n d : Nat) : bitsW n d = (List.range d).map fun i => n.testBit (d - 1 - i) := by
  induction d with
  | zero => rfl
  | succ d ih =>
    rw [bitsW, ih, List.range_succ_eq_map, List.map_cons, List.map_map]
    congr 1
    apply List.map_congr_left
    intro i hi
    show n.testBit (d - 1 - i) = n.testBit (d + 1 - 1 - (i + 1))
    congr 1
    omega
theorem bit_and (n k : Nat) : Builtin.bitAnd ((n : Int) / 2 ^ k) 1 = ((n.testBit k).toNat : Int) := by
  rw [PyProof.Rows.bitAnd_m1]
  have e : ((n : Int) / 2 ^ k) % 2 = ((n / 2 ^ k % 2 : Nat) : Int) := by
    rw [Int.natCast_emod, Int.natCast_ediv, Int.natCast_pow]; rfl
  rw [e, Nat.testBit_eq_decide_div_mod_eq]
  have : n / 2 ^ k % 2 < 2 := Nat.mod_lt _ (by decide)
  by_cases q : n / 2 ^ k % 2 = 1
  · simp [q]
  · have : n / 2 ^ k % 2 = 0 := by omega
    simp [this]
theorem ok_lower_digits {f : Addr} {fd : FuncData} (nb : NB mg) (F : FunAt K mg "lower_digits" s_lower_digits ["n", "width"] f fd) : DefOk P w K mg base 1 "lower_digits" ["n", "width"] spLowerDigits := by
  refine F.ok sc_lower_digits (fun vs H Q E h => ?_) (fun cdv A outer s H vs Q E hr h => ?_)
  · obtain ⟨n, d, rfl, _⟩ := h; rfl
  obtain ⟨n, d, rfl, hl, q⟩ := h
  refine ⟨_, (pss_one (ps_ret (pe_bm PySem.F.plainAttrs_str PySem.F.slot_str_join PySem.F.type_str_join mt_join pe_str (pa_cons (pe_comp ["k"] [(0, "n")] rfl (by decide +kernel) ⟨rfl, .inl rfl, trivial⟩ (pi_rangeD rfl nb.range_ (pa_cons (pe_op oSub (pv 1) pe_int) (pa_cons (pe_un un_neg pe_int) (pa_cons (pe_un un_neg pe_int) pa_nil)))) (fun _ _ _ _ _ => (pg_name (i := 0) (show (["k", "n"] : List Str).Nodup by decide +kernel) rfl (by first | exact Or.inl rfl | exact Or.inr rfl))) (fun _ _ _ _ _ => pts_nil) (fun _ _ _ _ _ => (pe_ifExp (pt_cmpR oEq (pe_op op_and (pe_op op_shr (pv 1) (pv 0)) pe_int) pe_int (nomark _)) pe_str pe_str))) pa_nil)))), ?_⟩
  refine ⟨rfl, _, rfl, _, _, rfl, rfl, _, rfl, _, rfl, _, _, rfl, ⟨by omega, by omega, by decide, by decide⟩, fun D hD => ?_⟩
  have hn : (((d : Int) - 1) - (-1)).toNat = d := by omega
  refine comp_all (((d : Int) - 1) - (-1)).toNat (fun i => .int ((d : Int) - 1 + i * (-1))) (fun i => .str (rowS [n.testBit (d - 1 - i)])) (fun σ => ∃ z, σ = [z, some (.int n)]) (by rw [hn]; exact small5 hl) ?_ ?_ ?_ ?_ ?_ ?_
  · exact ⟨_, rfl⟩
  · intro i H1 hi; exact hi
  · intro H1; exact Nat.le_refl _
  · rintro i H1 x H2 hi ⟨rfl, rfl⟩
    exact ⟨rfl, rfl⟩
  · rintro i σ1 H1 hi ⟨z, rfl⟩ R hR
    rw [hn] at hi
    have ej : ((d : Int) - 1 + (i : Int) * (-1)).toNat = d - 1 - i := by omega
    refine ⟨_, rfl, _, rfl, _, _, rfl, rfl, (by omega), _, _, rfl, rfl, rfl, _, rfl, ?_⟩
    have hb : Builtin.bitAnd ((n : Int) / 2 ^ ((d : Int) - 1 + (i : Int) * (-1)).toNat) 1 = ((n.testBit (d - 1 - i)).toNat : Int) := by rw [ej]; exact bit_and _ _
    revert hR
    rw [s0, s1]
    cases e : n.testBit (d - 1 - i)
    · rw [e] at hb
      intro hR; exact iteN (fun c => absurd (hb.symm.trans (V.int.inj c)) (by decide)) (hR _ ⟨_, rfl⟩)
    · rw [e] at hb
      intro hR; exact iteY (congrArg V.int hb) (hR _ ⟨_, rfl⟩)
  · refine ⟨_, D, (bitsW n d).map fun b => rowS [b], rfl, rfl, SqL.of ?_, ?_, H, .refl ?_, ?_⟩
    · rw [upd_same, hn, bitsW_range, List.map_map, List.map_map]; rfl
    · rw [join_len, bitsW_length]; omega
    · exact same_new hD
    · rw [join_bits]; exact q
/-! ### the source of signs -/
def fldsW (z : Str) (i : Int) (t : Bool) (u : Int) : List (Str × V) := [("signs", .str z), ("place", .int i), ("turned", .bl t), ("endless", .bl false), ("wished", .int u)]
abbrev flds (z : Str) (i : Int) (t : Bool) : List (Str × V) := fldsW z i t 0
/-- what the top has made of the class -/
structure SrcCls (K : PySem.W.Frag) (C : Addr) : Prop where
  cl : Cls K C
  nS : NoAttr K C "signs"
  nP : NoAttr K C "place"
  nT : NoAttr K C "turned"
  nE : NoAttr K C "endless"
  nW : NoAttr K C "wished"
theorem f01 : ¬ (("signs" : Str) = "place") := by decide +kernel
theorem f02 : ¬ (("signs" : Str) = "turned") := by decide +kernel
theorem f03 : ¬ (("signs" : Str) = "endless") := by decide +kernel
theorem f04 : ¬ (("signs" : Str) = "wished") := by decide +kernel
theorem f12 : ¬ (("place" : Str) = "turned") := by decide +kernel
theorem f13 : ¬ (("place" : Str) = "endless") := by decide +kernel
theorem f14 : ¬ (("place" : Str) = "wished") := by decide +kernel
theorem f23 : ¬ (("turned" : Str) = "endless") := by decide +kernel
theorem f24 : ¬ (("turned" : Str) = "wished") := by decide +kernel
theorem f34 : ¬ (("endless" : Str) = "wished") := by decide +kernel
theorem g10 : (("place" : Str) == "signs") = false := by decide +kernel
theorem g20 : (("turned" : Str) == "signs") = false := by decide +kernel
theorem g21 : (("turned" : Str) == "place") = false := by decide +kernel
theorem g40 : (("wished" : Str) == "signs") = false := by decide +kernel
theorem g41 : (("wished" : Str) == "place") = false := by decide +kernel
theorem g42 : (("wished" : Str) == "turned") = false := by decide +kernel
theorem g43 : (("wished" : Str) == "endless") = false := by decide +kernel
theorem put_signs (z : Str) : putF "signs" (.str z) [] = ([("signs", .str z)] : List (Str × V)) := rfl
theorem put_place0 (z : Str) (i : Int) : putF "place" (.int i) ([("signs", .str z)] : List (Str × V)) = ([("signs", .str z), ("place", .int i)] : List (Str × V)) := by
  simp only [putF, f01, if_false]
theorem put_turned0 (z : Str) (i : Int) (t : Bool) : putF "turned" (.bl t) ([("signs", .str z), ("place", .int i)] : List (Str × V)) = ([("signs", .str z), ("place", .int i), ("turned", .bl t)] : List (Str × V)) := by
  simp only [putF, f02, f12, if_false]
theorem put_endless0 (z : Str) (i : Int) (t e : Bool) : putF "endless" (.bl e) ([("signs", .str z), ("place", .int i), ("turned", .bl t)] : List (Str × V)) = ([("signs", .str z), ("place", .int i), ("turned", .bl t), ("endless", .bl e)] : List (Str × V)) := by
  simp only [putF, f03, f13, f23, if_false]
theorem put_wished0 (z : Str) (i : Int) (t : Bool) (u : Int) : putF "wished" (.int u) ([("signs", .str z), ("place", .int i), ("turned", .bl t), ("endless", .bl false)] : List (Str × V)) = fldsW z i t u := by
  simp only [putF, f04, f14, f24, f34, if_false]; rfl
theorem put_place (z : Str) (i j : Int) (t : Bool) (u : Int) : putF "place" (.int j) (fldsW z i t u) = fldsW z j t u := by
  simp only [fldsW, putF, f01, if_false, if_true]
theorem put_wished (z : Str) (i : Int) (t : Bool) (u u2 : Int) : putF "wished" (.int u2) (fldsW z i t u) = fldsW z i t u2 := by
  simp only [fldsW, putF, f04, f14, f24, f34, if_false, if_true]
theorem look_signs (z : Str) (i : Int) (t : Bool) {u : Int} : (fldsW z i t u).lookup ("signs" : Str) = some (.str z) := by simp [fldsW]
theorem look_place (z : Str) (i : Int) (t : Bool) {u : Int} : (fldsW z i t u).lookup ("place" : Str) = some (.int i) := by
  simp [fldsW, List.lookup, g10]
theorem look_turned (z : Str) (i : Int) (t : Bool) {u : Int} : (fldsW z i t u).lookup ("turned" : Str) = some (.bl t) := by
  simp [fldsW, List.lookup, g20, g21]
theorem look_wished (z : Str) (i : Int) (t : Bool) {u : Int} : (fldsW z i t u).lookup ("wished" : Str) = some (.int u) := by
  simp [fldsW, List.lookup, g40, g41, g42, g43]
theorem look_meth (z : Str) (i : Int) (t : Bool) {u : Int} {m : Str} (h : (m == ("signs" : Str)) = false) (h2 : (m == ("place" : Str)) = false) (h3 : (m == ("turned" : Str)) = false)
    (h4 : (m == ("endless" : Str)) = false := by decide +kernel) (h5 : (m == ("wished" : Str)) = false := by decide +kernel) : (fldsW z i t u).lookup m = none := by
  simp [fldsW, List.lookup, h, h2, h3, h4, h5]
/-- a source of these signs at that place, whatever it has been wished -/
def SrcAt (H : Hp) (p C dx : Addr) (l : List Bool) (i : Nat) (t : Bool) : Prop := ∃ u : Int, H p = some (.ins C dx (fldsW (rowS l) ((i : Nat) : Int) t u))
def spSrcInit (C : Addr) : Sp := fun vs H Q _ => ∃ p dx z i, vs = [.ref p, .str z, .int i] ∧ H p = some (.ins C dx []) ∧ Q .non (upd H p (.ins C dx (flds z i false)))
theorem ok_src_init {f C : Addr} {fd : FuncData} (T : SrcCls K C) (F : Fun K "__init__" "Source.__init__" s_Source_init f fd) : FnOk P w K mg base CX0 1 f fd ["self", "signs", "at"] (spSrcInit C) := by
  refine F.ok sc_Source_init (fun vs H Q E h => ?_) (fun cdv A outer s H vs Q E hr h => ?_)
  · obtain ⟨p, dx, z, i, rfl, _⟩ := h; rfl
  obtain ⟨p, dx, z, i, rfl, hp, q⟩ := h
  refine ⟨_, (pss_cons (ps_fld (pv 0) (pv 1) rfl)
    (pss_cons (ps_fld (pv 0) (pv 2) rfl)
    (pss_cons (ps_fld (pv 0) pe_bl rfl)
    (pss_cons (ps_fld (pv 0) pe_bl rfl)
    (pss_one (ps_fld (pv 0) pe_int rfl)))))), ?_⟩
  refine ⟨_, rfl, _, rfl, p, C, dx, _, rfl, hp, T.cl, T.nS, (by show 0 < 1000; decide), ?_⟩
  refine ⟨_, rfl, _, rfl, p, C, dx, _, rfl, upd_same, T.cl, T.nP, (by show 1 < 1000; decide), ?_⟩
  refine ⟨_, rfl, p, C, dx, _, rfl, upd_same, T.cl, T.nT, (by rw [put_signs, put_place0]; show 2 < 1000; decide), ?_⟩
  refine ⟨_, rfl, p, C, dx, _, rfl, upd_same, T.cl, T.nE, (by rw [put_signs, put_place0, put_turned0]; show 3 < 1000; decide), ?_⟩
  refine ⟨_, rfl, p, C, dx, _, rfl, upd_same, T.cl, T.nW, (by rw [put_signs, put_place0, put_turned0, put_endless0]; show 4 < 1000; decide), ?_⟩
  rw [upd_upd', upd_upd', upd_upd', upd_upd', put_signs, put_place0, put_turned0, put_endless0, put_wished0]
  exact q
def spDraw (C : Addr) : Sp := fun vs H Q _ => ∃ (p dx : Addr) (l : List Bool) (i : Nat) (t b : Bool), vs = [.ref p] ∧ SrcAt H p C dx l i t ∧ l.length ≤ 100000 ∧ l[i]? = some b ∧ Q (.int ((xor t b).toNat : Nat)) (upd H p (.ins C dx (flds (rowS l) ((i + 1 : Nat) : Int) t)))
theorem ok_draw {f C : Addr} {fd : FuncData} (nb : NB mg) (T : SrcCls K C) (F : Fun K "draw" "Source.draw" s_Source_draw f fd) : FnOk P w K mg base CX0 1 f fd ["self"] (spDraw C) := by
  refine F.ok sc_Source_draw (fun vs H Q E h => ?_) (fun cdv A outer s H vs Q E hr h => ?_)
  · obtain ⟨p, dx, l, i, t, b, rfl, _⟩ := h; rfl
  obtain ⟨p, dx, l, i, t, b, rfl, ⟨u, hp⟩, hl, hb, q⟩ := h
  have hi : i < l.length := (List.getElem?_eq_some_iff.mp hb).1
  refine ⟨_, (pss_cons (ps_set (i := 1) sc_Source_draw.nd rfl (by first | exact Or.inl rfl | exact Or.inr rfl) (pe_fld (pv 0) rfl))
    (pss_cons (ps_fld (pv 0) pe_int rfl)
    (pss_cons (ps_if (pt_cmpR oLt (pe_fld (pv 0) rfl) (pe_callB call_len rfl nb.len_ bo_len (pa_cons (pe_fld (pv 0) rfl) pa_nil)) (nomark _)) (pss_cons (ps_set (i := 2) sc_Source_draw.nd rfl (by first | exact Or.inl rfl | exact Or.inr rfl) (pe_callTy call_intA rfl nb.int_ bo_int (pa_cons (pe_ix iAll (pe_fld (pv 0) rfl) (pe_fld (pv 0) rfl) (fun _ _ => rfl)) pa_nil)))
      (pss_cons (ps_fld (pv 0) (pe_op oAdd (pe_fld (pv 0) rfl) pe_int) rfl)
      (pss_one (ps_ret (pe_ifExp (pt_truth (pe_fld (pv 0) rfl) (fun _ => rfl)) (pe_op oSub pe_int (pv 2)) (pv 2)))))) pss_nil)
    (pss_cons (ps_if (pt_not (pt_truth (pe_fld (pv 0) rfl) (fun _ => rfl))) (pss_one ps_never) pss_nil)
    (pss_one (ps_ret (pv 1))))))), ?_⟩
  refine ⟨_, rfl, p, C, dx, _, _, rfl, hp, T.cl, T.nW, look_wished .., ?_⟩
  refine ⟨_, rfl, p, C, dx, _, rfl, hp, T.cl, T.nW, (by show 5 < 1000; decide), ?_⟩
  rw [put_wished]
  refine ⟨_, rfl, p, C, dx, _, _, rfl, upd_same, T.cl, T.nP, look_place .., _, rfl, p, C, dx, _, _, rfl, upd_same, T.cl, T.nS, look_signs .., _, _, rfl, ⟨by rw [rowS_length]; exact small5 hl, rfl⟩, .inl ⟨_, _, rfl, rfl, _, rfl, ?_⟩⟩
  refine iteY (by rw [rowS_length]; omega) ?_
  refine ⟨_, rfl, p, C, dx, _, _, rfl, upd_same, T.cl, T.nS, look_signs .., _, rfl, p, C, dx, _, _, rfl, upd_same, T.cl, T.nP, look_place .., .inr ⟨_, _, bc b, rfl, rfl, by rw [rowS_length]; exact small5 hl, atI_nat (row_item hb), .inr ⟨_, _, rfl, sign_int b, (by show 1 ≤ 640; decide), ?_⟩⟩⟩
  refine ⟨_, rfl, p, C, dx, _, _, rfl, upd_same, T.cl, T.nP, look_place .., .inl ⟨_, _, rfl, rfl, _, rfl, p, C, dx, _, rfl, upd_same, T.cl, T.nP, (by show 5 < 1000; decide), ?_⟩⟩
  rw [put_place, upd_upd']
  refine ⟨_, rfl, p, C, dx, _, _, rfl, upd_same, T.cl, T.nT, look_turned .., _, rfl, ?_⟩
  cases t with
  | false =>
    refine iteF ⟨_, rfl, ?_⟩
    have e : (false ^^ b) = b := by cases b <;> rfl
    rw [e] at q
    exact q
  | true =>
    refine iteT ⟨_, rfl, _, _, rfl, rfl, ?_⟩
    have e : ((true ^^ b).toNat : Int) = 1 - (b.toNat : Int) := by cases b <;> rfl
    rw [e] at q
    exact q

/-! ### bounded numbers read -/
abbrev srcO (C dx : Addr) (l : List Bool) (i : Nat) (t : Bool) : HO := .ins C dx (flds (rowS l) ((i : Nat) : Int) t)
/-! ### counts -/
def spCountRow : Sp := fun vs H Q _ => ∃ n : Nat, vs = [.int n] ∧ n + 1 < 2 ^ 255 ∧ Q (.str (rowS (cnt n))) H
theorem cend_pos {e : Nat} : e < 8 → 0 < (cend e).length := by intro h; unfold cend; rw [if_neg (by omega)]; decide
theorem cend_len (e : Nat) : (cend e).length ≤ 1 := by unfold cend; split <;> simp
theorem blen_big {n k : Nat} (h : 2 ^ k ≤ n) : k < blen n := by
  rcases Nat.lt_or_ge k (blen n) with z | z
  · exact z
  · have := blen_lt n
    have := Nat.pow_le_pow_right (show 0 < 2 by decide) z
    omega
def CountIn (n : Int) : Prop := 0 ≤ n ∧ n < 2 ^ 255 - 1
instance (n : Int) : Decidable (CountIn n) := inferInstanceAs (Decidable (_ ∧ _))
def spIsCount : Sp := fun vs H Q _ => ∃ n : Int, vs = [.int n] ∧ Q (.bl (decide (CountIn n))) H
theorem countIn_blen {m : Nat} : CountIn (m : Int) ↔ blen (m + 1) ≤ 255 := by
  unfold CountIn
  constructor
  · intro ⟨_, h⟩; exact blen_le (by omega)
  · intro h
    rcases Nat.lt_or_ge (m + 1) (2 ^ 255) with z | z
    · omega
    · have := blen_big z; omega
theorem ok_is_count {f : Addr} {fd : FuncData} (g_MOST_DIGITS : GlobV mg "MOST_DIGITS" (.int 255)) (F : FunAt K mg "is_count" s_is_count ["n"] f fd) : DefOk P w K mg base 1 "is_count" ["n"] spIsCount := by
  refine F.ok sc_is_count (fun vs H Q E h => ?_) (fun cdv A outer s H vs Q E hr h => ?_)
  · obtain ⟨n, rfl, _⟩ := h; rfl
  obtain ⟨n, rfl, q⟩ := h
  refine ⟨_, (pss_one (ps_ret (pe_and (pe_cmpR oGe (pv 0) pe_int (nomark _)) (pe_one (pe_cmpR oLe (pe_bm0 PySem.F.plainAttrs_int PySem.F.slot_int_bit_length PySem.F.type_int_bit_length mt_bitlen (pe_op oAdd (pv 0) pe_int)) (pe_globV g_MOST_DIGITS) (nomark _)))))), ?_⟩
  refine ⟨_, rfl, _, _, rfl, rfl, _, rfl, ?_⟩
  refine iteD (fun c => ?_) (fun c => ?_)
  · refine ⟨_, rfl, .inl ⟨_, _, rfl, rfl, rfl, _, rfl, rfl, _, _, rfl, rfl, H, .refl (Same.refl _), ?_⟩⟩
    obtain ⟨m, rfl⟩ : ∃ m : Nat, n = m := ⟨n.toNat, by omega⟩
    rw [show ((m : Int) + 1) = ((m + 1 : Nat) : Int) from rfl, bits_eq (m + 1)]
    have e : decide (((blen (m + 1) : Nat) : Int) ≤ 255) = decide (CountIn (m : Int)) := by
      rw [decide_eq_decide, countIn_blen]; omega
    dsimp only
    rw [e]
    exact q
  · refine ⟨H, .refl (Same.refl _), ?_⟩
    have e : decide (CountIn n) = false := decide_eq_false fun z => c z.1
    rw [← e]; exact q
theorem ok_count_row {f : Addr} {fd : FuncData} (g_MOST_AHEAD : GlobV mg "MOST_AHEAD" (.int 7)) (F : FunAt K mg "count_row" s_count_row ["n"] f fd) (D_is_count : DefOk P w K mg base 1 "is_count" ["n"] spIsCount) (D_lower_digits : DefOk P w K mg base 1 "lower_digits" ["n", "width"] spLowerDigits) : DefOk P w K mg base 2 "count_row" ["n"] spCountRow := by
  refine F.ok sc_count_row (fun vs H Q E h => ?_) (fun cdv A outer s H vs Q E hr h => ?_)
  · obtain ⟨n, rfl, _⟩ := h; rfl
  obtain ⟨n, rfl, hn, q⟩ := h
  refine ⟨_, (pss_cons (ps_if (pt_not (pt_truth (pe_callD D_is_count hr (pa_cons (pv 0) pa_nil)) (fun _ => rfl))) (pss_one ps_never) pss_nil)
    (pss_cons (ps_set (i := 1) sc_count_row.nd rfl (by first | exact Or.inl rfl | exact Or.inr rfl) (pe_op oAdd (pv 0) pe_int))
    (pss_cons (ps_set (i := 2) sc_count_row.nd rfl (by first | exact Or.inl rfl | exact Or.inr rfl) (pe_bm0 PySem.F.plainAttrs_int PySem.F.slot_int_bit_length PySem.F.type_int_bit_length mt_bitlen (pv 1)))
    (pss_cons (ps_set (i := 3) sc_count_row.nd rfl (by first | exact Or.inl rfl | exact Or.inr rfl) (pe_op oSub (pe_bm0 PySem.F.plainAttrs_int PySem.F.slot_int_bit_length PySem.F.type_int_bit_length mt_bitlen (pv 2)) pe_int))
    (pss_cons (ps_set (i := 4) sc_count_row.nd rfl (by first | exact Or.inl rfl | exact Or.inr rfl) (pe_ifExp (pt_cmpR oEq (pv 3) (pe_globV g_MOST_AHEAD) (nomark _)) pe_str pe_str))
    (pss_one (ps_ret (pe_op oAdd (pe_op oAdd (pe_op oAdd (pe_op oMul pe_str (pv 3)) (pv 4)) (pe_callD D_lower_digits hr (pa_cons (pv 2) (pa_cons (pv 3) pa_nil)))) (pe_callD D_lower_digits hr (pa_cons (pv 1) (pa_cons (pe_op oSub (pv 2) pe_int) pa_nil))))))))))), ?_⟩
  have hd : blen (n + 1) ≤ 255 := blen_le hn
  have hp : 0 < blen (n + 1) := blen_pos (by omega)
  have he : blen (blen (n + 1)) ≤ 8 := blen_le (by omega)
  have hq : 0 < blen (blen (n + 1)) := blen_pos (by omega)
  have b1 := bits_eq (n + 1)
  have b2 := bits_eq (blen (n + 1))
  refine ⟨_, rfl, _, rfl, _, rfl, ?_⟩
  rw [decide_eq_true (countIn_blen.mpr hd)]
  refine iteF ⟨_, rfl, .inl ⟨_, _, rfl, rfl, _, rfl, rfl, _, rfl, rfl, ?_⟩⟩
  rw [show ((n : Int) + 1) = ((n + 1 : Nat) : Int) from rfl, b1]
  refine ⟨_, rfl, rfl, _, rfl, rfl, _, _, rfl, rfl, ?_⟩
  rw [b2]
  obtain ⟨k, hk⟩ : ∃ k : Nat, ((blen (blen (n + 1)) : Nat) : Int) - 1 = k := ⟨blen (blen (n + 1)) - 1, by omega⟩
  have hk' : k = blen (blen (n + 1)) - 1 := by omega
  dsimp only
  rw [hk]
  have a1 : (k : Int) < 2 ^ 40 := by omega
  have a2 : -(2 ^ 40) < (k : Int) := by omega
  have a3 : (Str.ofString "1").length * ((k : Nat) : Int).toNat ≤ sizeLine := by rw [s1, rowS_length]; exact small5 (by show 1 * _ ≤ _; omega)
  have a4 : (Txt.mul (Str.ofString "1") (k : Int)).length + (rowS (cend (blen (blen (n + 1))))).length ≤ sizeLine := by
    rw [s1, mul_row, rowS_length, rowS_length, List.length_replicate]
    have := cend_len (blen (blen (n + 1)))
    exact small5 (by omega)
  have a5 : (Txt.mul (Str.ofString "1") (k : Int) ++ rowS (cend (blen (blen (n + 1))))).length + (rowS (bitsW (blen (n + 1)) k)).length ≤ sizeLine := by
    rw [s1, mul_row, rowS_append, rowS_length, rowS_length, List.length_append, List.length_replicate, bitsW_length]
    have := cend_len (blen (blen (n + 1)))
    exact small5 (by omega)
  have a6 : (Txt.mul (Str.ofString "1") (k : Int) ++ rowS (cend (blen (blen (n + 1)))) ++ rowS (bitsW (blen (n + 1)) k)).length + (rowS (bitsW (n + 1) (blen (n + 1) - 1))).length ≤ sizeLine := by
    rw [s1, mul_row, rowS_append, rowS_append, rowS_length, rowS_length, List.length_append, List.length_append, List.length_replicate, bitsW_length, bitsW_length]
    have := cend_len (blen (blen (n + 1)))
    exact small5 (by omega)
  have ar : Txt.mul (Str.ofString "1") (k : Int) ++ rowS (cend (blen (blen (n + 1)))) ++ rowS (bitsW (blen (n + 1)) k) ++ rowS (bitsW (n + 1) (blen (n + 1) - 1)) = rowS (cnt n) := by
    rw [s1, mul_row, rowS_append, rowS_append, rowS_append]
    unfold cnt
    rw [hk', List.append_assoc, List.append_assoc]
    rfl
  have ad : [V.int ((n : Int) + 1), V.int (((blen (n + 1) : Nat) : Int) - 1)] = [.int ((n + 1 : Nat) : Int), .int ((blen (n + 1) - 1 : Nat) : Int)] := by
    have : ((blen (n + 1) : Nat) : Int) - 1 = ((blen (n + 1) - 1 : Nat) : Int) := by omega
    rw [this]; rfl
  refine ⟨_, rfl, rfl, _, rfl, ?_⟩
  refine iteD (fun c => ?_) (fun c => ?_)
  · have hend : (Str.ofString "") = rowS (cend (blen (blen (n + 1)))) := by
      have := V.int.inj c
      rw [sE]; unfold cend; rw [if_pos (by omega)]
    rw [hend]
    refine ⟨_, rfl, .inr ⟨_, _, rfl, rfl, a1, a2, a3, _, rfl, .inr ⟨_, _, rfl, rfl, a4, _, rfl, _, rfl, _, _, rfl, (by omega), .inr ⟨_, _, rfl, rfl, a5, ?_⟩⟩⟩⟩
    refine ⟨_, rfl, _, rfl, _, _, rfl, rfl, n + 1, blen (n + 1) - 1, ad, (by omega), .inr ⟨_, _, rfl, rfl, a6, H, .refl (Same.refl _), ?_⟩⟩
    rw [ar]
    exact q
  · have hend : (Str.ofString "0") = rowS (cend (blen (blen (n + 1)))) := by
      have : ¬ k = 7 := fun z => c (by rw [z]; rfl)
      rw [s0]; unfold cend; rw [if_neg (by omega)]
    rw [hend]
    refine ⟨_, rfl, .inr ⟨_, _, rfl, rfl, a1, a2, a3, _, rfl, .inr ⟨_, _, rfl, rfl, a4, _, rfl, _, rfl, _, _, rfl, (by omega), .inr ⟨_, _, rfl, rfl, a5, ?_⟩⟩⟩⟩
    refine ⟨_, rfl, _, rfl, _, _, rfl, rfl, n + 1, blen (n + 1) - 1, ad, (by omega), .inr ⟨_, _, rfl, rfl, a6, H, .refl (Same.refl _), ?_⟩⟩
    rw [ar]
    exact q
def spDrawLower (C : Addr) : Sp := fun vs H Q _ => ∃ (p dx : Addr) (l : List Bool) (i d : Nat) (t : Bool), vs = [.ref p, .int d] ∧ H p = some (srcO C dx l i t) ∧ l.length ≤ 100000 ∧ i + d ≤ l.length ∧
  Q (.int ((rd 1 (((l.map (xor t)).drop i).take d) : Nat) : Int)) (upd H p (srcO C dx l (i + d) t))
theorem get_map {l : List Bool} {i : Nat} {t : Bool} (h : i < l.length) : ∃ b, l[i]? = some b ∧ (l.map (xor t)).getD i false = xor t b := by
  refine ⟨l[i], List.getElem?_eq_getElem h, ?_⟩
  rw [List.getD_eq_getElem?_getD, List.getElem?_map, List.getElem?_eq_getElem h]; rfl
theorem take_more {L : List Bool} {i j : Nat} {b : Bool} (h : i + j < L.length) (hb : L.getD (i + j) false = b) : (L.drop i).take (j + 1) = (L.drop i).take j ++ [b] := by
  rw [List.take_add_one, List.getElem?_drop]
  rw [List.getD_eq_getElem?_getD, List.getElem?_eq_getElem h] at hb
  rw [List.getElem?_eq_getElem h]
  have : L[i + j] = b := hb
  rw [this]; rfl
theorem ok_draw_lower_digits {f C : Addr} {fd : FuncData} (nb : NB mg) (c_C : Cls K C) (F : FunAt K mg "draw_lower_digits" s_draw_lower_digits ["source", "width"] f fd) (M_draw : MethOk P w K mg base 1 C "draw" ["self"] (spDraw C)) : DefOk P w K mg base 2 "draw_lower_digits" ["source", "width"] (spDrawLower C) := by
  refine F.ok sc_draw_lower_digits (fun vs H Q E h => ?_) (fun cdv A outer s H vs Q E hr h => ?_)
  · obtain ⟨p, dx, l, i, d, t, rfl, _⟩ := h; rfl
  obtain ⟨p, dx, l, i, d, t, rfl, hp, hl, hi, q⟩ := h
  refine ⟨_, (pss_cons (ps_set (i := 2) sc_draw_lower_digits.nd rfl (by first | exact Or.inl rfl | exact Or.inr rfl) pe_int)
    (pss_cons (ps_for PassesOwn.never rfl (pi_range1 rfl nb.range_ (pa_cons (pv 1) pa_nil)) (pg_name (i := 3) sc_draw_lower_digits.nd rfl (by first | exact Or.inl rfl | exact Or.inr rfl))
      (pss_one (ps_set (i := 2) sc_draw_lower_digits.nd rfl (by first | exact Or.inl rfl | exact Or.inr rfl) (pe_op oAdd (pe_op oMul pe_int (pv 2)) (pe_methD0 M_draw c_C hr (pv 0))))))
    (pss_one (ps_ret (pv 2))))), ?_⟩
  refine ⟨_, rfl, _, rfl, by omega, by omega, ?_⟩
  refine for_range (fun j σ H2 => ∃ z, σ = [some (.ref p), some (.int d), some (.int ((rd 1 (((l.map (xor t)).drop i).take j) : Nat) : Int)), z] ∧ H2 = upd H p (srcO C dx l (i + j) t)) ?_ ?_ ?_
  · exact ⟨none, rfl, (upd_self' hp).symm⟩
  · rintro j σ H2 hj ⟨z, rfl, rfl⟩
    have hj' : j < d := by omega
    obtain ⟨b, hb1, hb2⟩ := get_map (l := l) (t := t) (i := i + j) (by omega)
    have tm := take_more (L := l.map (xor t)) (i := i) (j := j) (by rw [List.length_map]; omega) hb2
    refine ⟨_, rfl, .inl ⟨_, _, rfl, rfl, .inl ⟨by decide, by decide⟩, _, rfl, p, dx, _, rfl, upd_same, look_meth _ _ _ (by decide +kernel) (by decide +kernel) (by decide +kernel), ?_⟩⟩
    refine ⟨p, dx, l, i + j, t, b, rfl, ⟨_, upd_same⟩, hl, hb1, .inl ⟨_, _, rfl, rfl, ?_⟩⟩
    have ev : (2 : Int) * ((rd 1 (((l.map (xor t)).drop i).take j) : Nat) : Int) + (((t ^^ b).toNat : Nat) : Int) = ((rd 1 (((l.map (xor t)).drop i).take (j + 1)) : Nat) : Int) := by
      rw [tm, rd_append]
      show _ = ((2 * rd 1 (((l.map (xor t)).drop i).take j) + (t ^^ b).toNat : Nat) : Int)
      omega
    rw [← ev]
    exact ⟨_, rfl, by rw [upd_upd']; rfl⟩
  · rintro σ H2 ⟨z, rfl, rfl⟩
    have e : ((d : Nat) : Int).toNat = d := by omega
    rw [e]
    exact ⟨_, rfl, _, .ins hp (fun b u hb e => by rw [upd_ne hb]; exact e) upd_same, q⟩
def spDrawCount (C : Addr) : Sp := fun vs H Q _ => ∃ (p dx : Addr) (l : List Bool) (i n : Nat) (t : Bool), vs = [.ref p] ∧ SrcAt H p C dx l i t ∧ l.length ≤ 100000 ∧ i ≤ l.length ∧ n + 1 < 2 ^ 255 ∧ cnt n <+: (l.map (xor t)).drop i ∧
  Q (.int (n : Nat)) (upd H p (srcO C dx l (i + (cnt n).length) t))
theorem ok_draw_count {f C : Addr} {fd : FuncData} (g_MOST_AHEAD : GlobV mg "MOST_AHEAD" (.int 7)) (c_C : Cls K C) (F : FunAt K mg "draw_count" s_draw_count ["source"] f fd) (M_draw : MethOk P w K mg base 1 C "draw" ["self"] (spDraw C)) (D_draw_lower_digits : DefOk P w K mg base 2 "draw_lower_digits" ["source", "width"] (spDrawLower C)) : DefOk P w K mg base 3 "draw_count" ["source"] (spDrawCount C) := by
  refine F.ok sc_draw_count (fun vs H Q E h => ?_) (fun cdv A outer s H vs Q E hr h => ?_)
  · obtain ⟨p, dx, l, i, n, t, rfl, _⟩ := h; rfl
  obtain ⟨p, dx, l, i, n, t, rfl, ⟨u0, hp⟩, hl, hi, hn, hc, q⟩ := h
  refine ⟨_, (pss_cons (ps_set (i := 1) sc_draw_count.nd rfl (by first | exact Or.inl rfl | exact Or.inr rfl) pe_int)
    (pss_cons (ps_while PassesOwn.never (PW.pt (pw_and (pt_cmpR oLt (pv 1) (pe_globV g_MOST_AHEAD) (nomark _)) (pw_and1 (pt_cmpR oEq (pe_methD0 M_draw c_C hr (pv 0)) pe_int (nomark _)))))
      (pss_one (ps_set (i := 1) sc_draw_count.nd rfl (by first | exact Or.inl rfl | exact Or.inr rfl) (pe_op oAdd (pv 1) pe_int))))
    (pss_cons (ps_set (i := 2) sc_draw_count.nd rfl (by first | exact Or.inl rfl | exact Or.inr rfl) (pe_callD D_draw_lower_digits hr (pa_cons (pv 0) (pa_cons (pv 1) pa_nil))))
    (pss_one (ps_ret (pe_op oSub (pe_callD D_draw_lower_digits hr (pa_cons (pv 0) (pa_cons (pe_op oSub (pv 2) pe_int) pa_nil))) pe_int)))))), ?_⟩
  have hd : blen (n + 1) ≤ 255 := blen_le hn
  have hpd : 0 < blen (n + 1) := blen_pos (by omega)
  have he : blen (blen (n + 1)) ≤ 8 := blen_le (by omega)
  have hq : 0 < blen (blen (n + 1)) := blen_pos (by omega)
  have ca := cnt_at hc (by rw [List.length_map]; exact hi)
  have fits := ca.fits
  have cl := cnt_len n
  rw [List.length_map] at fits
  refine ⟨fun m σ H2 => ∃ (j : Nat) (u : Int), j ≤ blen (blen (n + 1)) - 1 ∧ m = 8 - j ∧ σ = [some (.ref p), some (.int (j : Nat)), none] ∧ (j ≠ 0 → u = 0) ∧ H2 = upd H p (.ins C dx (fldsW (rowS l) ((i + j : Nat) : Int) t u)), ⟨8, 0, u0, Nat.zero_le _, rfl, rfl, (fun z => absurd rfl z), (upd_self' hp).symm⟩, ?_⟩
  rintro m σ H2 ⟨j, u, hj, rfl, rfl, hu, rfl⟩
  refine ⟨_, rfl, .inl ⟨_, _, rfl, rfl, _, rfl, ?_⟩⟩
  have v1 : rd 1 (((l.map (xor t)).drop (i + (blen (blen (n + 1)) - 1) + (cend (blen (blen (n + 1)))).length)).take (blen (blen (n + 1)) - 1)) = blen (n + 1) := by rw [ca.size]; exact rd_top (by omega)
  have v2 : rd 1 (((l.map (xor t)).drop (i + (blen (blen (n + 1)) - 1) + (cend (blen (blen (n + 1)))).length + (blen (blen (n + 1)) - 1))).take (blen (n + 1) - 1)) = n + 1 := by rw [ca.more]; exact rd_top (by omega)
  have ad : [V.ref p, V.int (((blen (n + 1) : Nat) : Int) - 1)] = [.ref p, .int ((blen (n + 1) - 1 : Nat) : Int)] := by
    have : ((blen (n + 1) : Nat) : Int) - 1 = ((blen (n + 1) - 1 : Nat) : Int) := by omega
    rw [this]
  have ae : ((n + 1 : Nat) : Int) - 1 = ((n : Nat) : Int) := by omega
  have ap : i + (blen (blen (n + 1)) - 1) + (cend (blen (blen (n + 1)))).length + (blen (blen (n + 1)) - 1) + (blen (n + 1) - 1) = i + (cnt n).length := by omega
  refine iteD (fun c => ?_) (fun c => ?_)
  · have hj7 : j < 7 := by omega
    obtain ⟨b, hb1, hb2⟩ := get_map (l := l) (t := t) (i := i + j) (by have := cend_pos (e := blen (blen (n + 1))); omega)
    refine ⟨_, rfl, p, dx, _, rfl, upd_same, look_meth _ _ _ (by decide +kernel) (by decide +kernel) (by decide +kernel), p, dx, l, i + j, t, b, rfl, ⟨_, upd_same⟩, hl, hb1, rfl, _, rfl, ?_⟩
    by_cases hjk : j < blen (blen (n + 1)) - 1
    · have o := ca.ones j hjk
      rw [hb2] at o
      rw [o]
      refine iteY rfl ⟨fun σ' H' => ∃ m', m' < 8 - j ∧ ∃ (j' : Nat) (u : Int), j' ≤ blen (blen (n + 1)) - 1 ∧ m' = 8 - j' ∧ σ' = [some (.ref p), some (.int (j' : Nat)), none] ∧ (j' ≠ 0 → u = 0) ∧ H' = upd H p (.ins C dx (fldsW (rowS l) ((i + j' : Nat) : Int) t u)), fun _ _ h => h, ?_⟩
      exact ⟨_, rfl, .inl ⟨_, _, rfl, rfl, 8 - (j + 1), by omega, j + 1, 0, by omega, rfl, rfl, (fun _ => rfl), by rw [upd_upd']; rfl⟩⟩
    · have ej : j = blen (blen (n + 1)) - 1 := by omega
      have o := ca.zero (by omega)
      rw [← ej, hb2] at o
      rw [o]
      refine iteN (by intro z; cases z) ?_
      have ec : (cend (blen (blen (n + 1)))).length = 1 := by unfold cend; rw [if_neg (by omega)]; rfl
      have ex : upd (upd H p (.ins C dx (fldsW (rowS l) ((i + j : Nat) : Int) t u))) p (.ins C dx (flds (rowS l) ((i + j + 1 : Nat) : Int) t)) = upd H p (srcO C dx l (i + (blen (blen (n + 1)) - 1) + (cend (blen (blen (n + 1)))).length) t) := by
        rw [upd_upd', ec, ← ej]
      rw [ex, ej]
      refine ⟨_, rfl, _, rfl, p, dx, l, i + (blen (blen (n + 1)) - 1) + (cend (blen (blen (n + 1)))).length, blen (blen (n + 1)) - 1, t, rfl, upd_same, hl, (by omega), ?_⟩
      rw [v1]
      refine ⟨_, rfl, _, rfl, _, _, rfl, rfl, p, dx, l, _, blen (n + 1) - 1, t, ad, upd_same, hl, (by omega), _, _, rfl, rfl, ?_⟩
      rw [v2, upd_upd', upd_upd', ap]
      refine ⟨_, .ins hp (fun b u hb e => by rw [upd_ne hb]; exact e) upd_same, ?_⟩
      dsimp only
      rw [ae]
      exact q
  · have ej : j = blen (blen (n + 1)) - 1 := by omega
    have ec : (cend (blen (blen (n + 1)))).length = 0 := by unfold cend; rw [if_pos (by omega)]; rfl
    have hj0 : j ≠ 0 := by omega
    rw [hu hj0]
    have ex : upd H p (srcO C dx l (i + j) t) = upd H p (srcO C dx l (i + (blen (blen (n + 1)) - 1) + (cend (blen (blen (n + 1)))).length) t) := by
      rw [ec, ← ej]; rfl
    rw [ex, ej]
    refine ⟨_, rfl, _, rfl, p, dx, l, i + (blen (blen (n + 1)) - 1) + (cend (blen (blen (n + 1)))).length, blen (blen (n + 1)) - 1, t, rfl, upd_same, hl, (by omega), ?_⟩
    rw [v1]
    refine ⟨_, rfl, _, rfl, _, _, rfl, rfl, p, dx, l, _, blen (n + 1) - 1, t, ad, upd_same, hl, (by omega), _, _, rfl, rfl, ?_⟩
    rw [v2, upd_upd', upd_upd', ap]
    refine ⟨_, .ins hp (fun b u hb e => by rw [upd_ne hb]; exact e) upd_same, ?_⟩
    dsimp only
    rw [ae]
    exact q
def spReadCount : Sp := fun vs H Q _ => ∃ (l : List Bool) (i n : Nat), vs = [.str (rowS l), .int i] ∧ l.length ≤ 100000 ∧ i ≤ l.length ∧ n + 1 < 2 ^ 255 ∧ cnt n <+: l.drop i ∧ ∀ r, H r = none → Q (.ref r) (upd H r (.tup [.int n, .int ((i + (cnt n).length : Nat) : Int)]))
theorem ok_read_count {f C : Addr} {fd : FuncData} (T : SrcCls K C) (F : FunAt K mg "read_count" s_read_count ["signs", "at"] f fd) (M_Source : MakeOk P w K mg base 1 "Source" C ["self", "signs", "at"] (spSrcInit C)) (D_draw_count : DefOk P w K mg base 3 "draw_count" ["source"] (spDrawCount C)) : DefOk P w K mg base 4 "read_count" ["signs", "at"] spReadCount := by
  refine F.ok sc_read_count (fun vs H Q E h => ?_) (fun cdv A outer s H vs Q E hr h => ?_)
  · obtain ⟨l, i, n, rfl, _⟩ := h; rfl
  obtain ⟨l, i, n, rfl, hl, hi, hn, hc, q⟩ := h
  refine ⟨_, (pss_cons (ps_set (i := 2) sc_read_count.nd rfl (by first | exact Or.inl rfl | exact Or.inr rfl) (pe_makeD M_Source hr (pa_cons (pv 0) (pa_cons (pv 1) pa_nil))))
    (pss_cons (ps_set (i := 3) sc_read_count.nd rfl (by first | exact Or.inl rfl | exact Or.inr rfl) (pe_callD D_draw_count hr (pa_cons (pv 2) pa_nil)))
    (pss_one (ps_ret (pe_tup (pa_cons (pv 3) (pa_cons (pe_fld (pv 2) rfl) pa_nil))))))), ?_⟩
  refine ⟨_, rfl, _, rfl, fun x dx nx ndx nex => ?_⟩
  refine ⟨x, dx, _, _, rfl, upd_same, rfl, ?_⟩
  refine ⟨_, rfl, x, dx, l, i, n, false, rfl, ⟨_, upd_same⟩, hl, hi, hn, by rw [map_xorF]; exact hc, ?_⟩
  refine ⟨_, rfl, _, rfl, x, C, dx, _, _, rfl, upd_same, T.cl, T.nP, look_place .., (by show 2 ≤ sizeLine; decide), fun r hr' => ?_⟩
  have s1 : Same H (upd (upd H dx (.own x)) x (.ins C dx [])) := fun b o e => by
    rw [upd_ne (ne_of_none e nx), upd_ne (ne_of_none e ndx)]; exact e
  have s2 : Same H (upd (upd (upd (upd H dx (.own x)) x (.ins C dx [])) x (.ins C dx (flds (rowS l) i false))) x (srcO C dx l (i + (cnt n).length) false)) := fun b o e => by
    rw [upd_ne (ne_of_none e nx), upd_ne (ne_of_none e nx)]; exact s1 b o e
  have nr : H r = none := s2.free hr'
  exact ⟨_, .new nr (s2.trans (same_new hr')) upd_same trivial, q r nr⟩

/-! ### whole numbers -/
def WholeIn (n : Int) : Prop := -(2 ^ 255) < n ∧ n < 2 ^ 255 - 1
def spWholeRow : Sp := fun vs H Q _ => ∃ n : Int, vs = [.int n] ∧ WholeIn n ∧ Q (.str (rowS (whl n))) H
theorem neg_nat {n : Int} (h : n < 0) (b : -(2 ^ 255) < n) : ∃ m : Nat, -1 - n = m ∧ m + 1 < 2 ^ 255 ∧ whl n = false :: (cnt m).map (!·) := by
  refine ⟨(-1 - n).toNat, by omega, by omega, ?_⟩
  unfold whl; rw [if_pos h]
theorem pos_nat {n : Int} (h : ¬ n < 0) (b : n < 2 ^ 255 - 1) : ∃ m : Nat, n = m ∧ m + 1 < 2 ^ 255 ∧ whl n = true :: cnt m := by
  refine ⟨n.toNat, by omega, by omega, ?_⟩
  unfold whl; rw [if_neg h]
theorem cnt_len5 {n : Nat} (h : n + 1 < 2 ^ 255) : (cnt n).length ≤ 269 := by
  have := cnt_length h
  have := blen_le h
  omega
theorem cons_row (b : Bool) (l : List Bool) : rowS [b] ++ rowS l = rowS (b :: l) := by rw [rowS_append]; rfl
theorem ok_whole_row {f : Addr} {fd : FuncData} (F : FunAt K mg "whole_row" s_whole_row ["n"] f fd) (D_count_row : DefOk P w K mg base 2 "count_row" ["n"] spCountRow) (D_turned_row : DefOk P w K mg base 1 "turned_row" ["row"] spTurnedRow) : DefOk P w K mg base 3 "whole_row" ["n"] spWholeRow := by
  refine F.ok sc_whole_row (fun vs H Q E h => ?_) (fun cdv A outer s H vs Q E hr h => ?_)
  · obtain ⟨n, rfl, _⟩ := h; rfl
  obtain ⟨n, rfl, hn, q⟩ := h
  refine ⟨_, (pss_cons (ps_if (pt_cmpR oLt (pv 0) pe_int (nomark _)) (pss_one (ps_ret (pe_op oAdd pe_str (pe_callD D_turned_row hr (pa_cons (pe_callD D_count_row hr (pa_cons (pe_op oSub (pe_un un_neg pe_int) (pv 0)) pa_nil)) pa_nil))))) pss_nil)
    (pss_one (ps_ret (pe_op oAdd pe_str (pe_callD D_count_row hr (pa_cons (pv 0) pa_nil)))))), ?_⟩
  refine ⟨_, rfl, .inl ⟨_, _, rfl, rfl, _, rfl, ?_⟩⟩
  refine iteD (fun c => ?_) (fun c => ?_)
  · obtain ⟨m, e, hm, ew⟩ := neg_nat c hn.1
    have lm := cnt_len5 hm
    refine ⟨_, rfl, _, rfl, _, _, rfl, rfl, m, (congrArg (fun x => [V.int x]) e), hm, cnt m, rfl, (by omega), .inr ⟨_, _, rfl, rfl, (by rw [s0, rowS_length, rowS_length, List.length_map]; exact small5 (by simp only [List.length_cons, List.length_nil]; omega)), H, .refl (Same.refl _), ?_⟩⟩
    rw [s0, cons_row, ← ew]
    exact q
  · obtain ⟨m, rfl, hm, ew⟩ := pos_nat c hn.2
    have lm := cnt_len5 hm
    refine ⟨_, rfl, m, rfl, hm, .inr ⟨_, _, rfl, rfl, (by rw [s1, rowS_length, rowS_length]; exact small5 (by simp only [List.length_cons, List.length_nil]; omega)), H, .refl (Same.refl _), ?_⟩⟩
    rw [s1, cons_row, ← ew]
    exact q
def spLaw (K : PySem.W.Frag) : Sp := fun vs H Q _ => ∃ (a : Addr) (ns : List Int), vs = [.ref a] ∧ SqL K H a (ns.map V.int) ∧ ns.length ≤ 63 ∧ ∀ H', Q (.bl true) H'
theorem atI_modG {α : Type} (f : α → V) (xs : List α) (c m : Int) (hm : m = xs.length) (h : 0 < xs.length) : ∃ n, n ∈ xs ∧ atI (xs.map f) (c % m) = some (f n) := by
  subst hm
  have h1 : (0 : Int) < xs.length := by omega
  have h2 := Int.emod_nonneg c (Int.ne_of_gt h1)
  have h3 := Int.emod_lt_of_pos c h1
  obtain ⟨k, e⟩ : ∃ k : Nat, c % (xs.length : Int) = k := ⟨(c % (xs.length : Int)).toNat, by omega⟩
  rw [e]
  have hk : k < xs.length := by omega
  exact ⟨xs[k], List.getElem_mem hk, atI_nat (by rw [List.getElem?_map, List.getElem?_eq_getElem hk]; rfl)⟩
theorem cut_map (ns : List Int) (lo hi : Option Int) : ∃ ms : List Int, cutV (ns.map V.int) lo hi = ms.map V.int ∧ ms.length ≤ ns.length := by
  unfold cutV
  refine ⟨(ns.drop (HT.sIx (ns.map V.int).length 0 lo)).take (HT.sIx (ns.map V.int).length (ns.map V.int).length hi - HT.sIx (ns.map V.int).length 0 lo), ?_, ?_⟩
  · rw [List.map_take, List.map_drop]
  · rw [List.length_take, List.length_drop]; omega
/-! ### the law's own helpers -/
def spCellAt (K : PySem.W.Frag) : Sp := fun vs H Q _ => ∃ (a : Addr) (ns : List Int) (k : Nat), vs = [.ref a, .int k] ∧ SqL K H a (ns.map V.int) ∧ ns.length ≤ 63 ∧ Q (.int (ns.getD k 0)) H
theorem ok_law_cell_at {f : Addr} {fd : FuncData} (nb : NB mg) (F : FunAt K mg "_law_cell_at" s_law_cell_at ["_law_script", "_law_k"] f fd) : DefOk P w K mg base 1 "_law_cell_at" ["_law_script", "_law_k"] (spCellAt K) := by
  refine F.ok sc_law_cell_at (fun vs H Q E h => ?_) (fun cdv A outer s H vs Q E hr h => ?_)
  · obtain ⟨a, ns, k, rfl, _⟩ := h; rfl
  obtain ⟨a, ns, k, rfl, hS, hl, q⟩ := h
  refine ⟨_, (pss_cons (ps_if (pt_cmpR oLt (pv 1) (pe_callB call_len rfl nb.len_ bo_len (pa_cons (pv 0) pa_nil)) (nomark _)) (pss_one (ps_ret (pe_ix iAll (pv 0) (pv 1) (fun _ _ => rfl)))) pss_nil)
    (pss_one (ps_ret pe_int))), ?_⟩
  refine ⟨_, rfl, _, rfl, _, _, rfl, .inl ⟨_, hS, rfl⟩, .inl ⟨_, _, rfl, rfl, _, rfl, ?_⟩⟩
  rw [List.length_map]
  refine iteD (fun c => ?_) (fun c => ?_)
  · have hk : k < ns.length := by omega
    refine ⟨_, rfl, _, rfl, .inl (.inl ⟨_, _, _, _, rfl, rfl, hS, atI_nat (by rw [List.getElem?_map, List.getElem?_eq_getElem hk]; rfl), H, .refl (Same.refl _), ?_⟩)⟩
    have e : ns.getD k 0 = ns[k] := by rw [List.getD_eq_getElem?_getD, List.getElem?_eq_getElem hk]; rfl
    rw [← e]
    exact q
  · have e : ns.getD k 0 = 0 := by rw [List.getD_eq_getElem?_getD, List.getElem?_eq_none (by omega)]; rfl
    rw [e] at q
    exact ⟨H, .refl (Same.refl _), q⟩
def spWhole : Sp := fun vs H Q _ => ∃ i : Int, vs = [.int i] ∧ Q (.bl true) H
/-! ### what two rows begin with in common -/
theorem ltB_t {a b : List Bool} (h : Lt a b) : decide ((rowS a).cps.toList < (rowS b).cps.toList) = true := decide_eq_true h
def spCom : Sp := fun vs H Q _ => ∃ a b : List Bool, vs = [.str (rowS a), .str (rowS b)] ∧ a.length ≤ 90000 ∧ b.length ≤ 90000 ∧ Q (.int ((com a b : Nat) : Int)) H
theorem ok_first_unlike {f : Addr} {fd : FuncData} (nb : NB mg) (F : FunAt K mg "first_unlike" s_first_unlike ["one", "other"] f fd) : DefOk P w K mg base 1 "first_unlike" ["one", "other"] spCom := by
  refine F.ok sc_first_unlike (fun vs H Q E h => ?_) (fun cdv A outer s H vs Q E hr h => ?_)
  · obtain ⟨a, b, rfl, _⟩ := h; rfl
  obtain ⟨a, b, rfl, ha, hb, q⟩ := h
  refine ⟨_, (pss_cons (ps_set (i := 2) sc_first_unlike.nd rfl (by first | exact Or.inl rfl | exact Or.inr rfl) pe_int)
    (pss_cons (ps_while PassesOwn.never (PW.pt (pw_and (pt_cmpR oLt (pv 2) (pe_callB call_len rfl nb.len_ bo_len (pa_cons (pv 0) pa_nil)) (nomark _)) (pw_and (pt_cmpR oLt (pv 2) (pe_callB call_len rfl nb.len_ bo_len (pa_cons (pv 1) pa_nil)) (nomark _)) (pw_and1 (pt_cmpR oEq (pe_ix iAll (pv 0) (pv 2) (fun _ _ => rfl)) (pe_ix iAll (pv 1) (pv 2) (fun _ _ => rfl)) (nomark _))))))
      (pss_one (ps_set (i := 2) sc_first_unlike.nd rfl (by first | exact Or.inl rfl | exact Or.inr rfl) (pe_op oAdd (pv 2) pe_int))))
    (pss_one (ps_ret (pv 2))))), ?_⟩
  have hA : (rowS a).length ≤ sizeLine := by rw [rowS_length]; exact small5 (by omega)
  have hB : (rowS b).length ≤ sizeLine := by rw [rowS_length]; exact small5 (by omega)
  have eA := rowS_length a
  have eB := rowS_length b
  refine ⟨fun m σ H2 => ∃ j : Nat, j ≤ com a b ∧ m = com a b - j ∧ σ = [some (.str (rowS a)), some (.str (rowS b)), some (.int (j : Nat))] ∧ H2 = H, ⟨_, 0, Nat.zero_le _, rfl, rfl, rfl⟩, ?_⟩
  rintro m σ H2 ⟨j, hj, rfl, rfl, rfl⟩
  have hle := com_le (a := a) (b := b)
  have q' : j = com a b → Q (.int ((j : Nat) : Int)) H2 := fun e => by rw [e]; exact q
  rcases Nat.lt_or_ge j (com a b) with c | c
  · obtain ⟨x, hx1, hx2⟩ := com_at c
    refine ⟨_, rfl, _, rfl, _, _, rfl, ⟨hA, rfl⟩, .inl ⟨_, _, rfl, rfl, _, rfl, iteY (by omega) ?_⟩⟩
    refine ⟨_, rfl, _, rfl, _, _, rfl, ⟨hB, rfl⟩, .inl ⟨_, _, rfl, rfl, _, rfl, iteY (by omega) ?_⟩⟩
    refine ⟨_, rfl, _, rfl, .inr ⟨_, _, bc x, rfl, rfl, hA, atI_nat (row_item hx1), _, rfl, _, rfl, .inr ⟨_, _, bc x, rfl, rfl, hB, atI_nat (row_item hx2), rfl, _, rfl, iteY rfl ?_⟩⟩⟩
    refine ⟨fun σ' H' => ∃ m', m' < com a b - j ∧ ∃ j : Nat, j ≤ com a b ∧ m' = com a b - j ∧ σ' = [some (.str (rowS a)), some (.str (rowS b)), some (.int (j : Nat))] ∧ H' = H2, fun _ _ h => h, ?_⟩
    exact ⟨_, rfl, .inl ⟨_, _, rfl, rfl, com a b - (j + 1), by omega, j + 1, c, rfl, rfl, rfl⟩⟩
  · have ej : j = com a b := by omega
    rcases com_end a b with h | h | ⟨x, y, h1, h2, h3⟩
    · exact ⟨_, rfl, _, rfl, _, _, rfl, ⟨hA, rfl⟩, .inl ⟨_, _, rfl, rfl, _, rfl, iteN (by omega) (iteF (⟨_, rfl, H2, .refl (Same.refl _), q' ej⟩))⟩⟩
    · refine ⟨_, rfl, _, rfl, _, _, rfl, ⟨hA, rfl⟩, .inl ⟨_, _, rfl, rfl, _, rfl, iteD (fun c1 => ?_) (fun c1 => iteF (⟨_, rfl, H2, .refl (Same.refl _), q' ej⟩))⟩⟩
      exact ⟨_, rfl, _, rfl, _, _, rfl, ⟨hB, rfl⟩, .inl ⟨_, _, rfl, rfl, _, rfl, iteN (by omega) (iteF (⟨_, rfl, H2, .refl (Same.refl _), q' ej⟩))⟩⟩
    · have l1 := (List.getElem?_eq_some_iff.mp h1).1
      have l2 := (List.getElem?_eq_some_iff.mp h2).1
      rw [← ej] at h1 h2
      refine ⟨_, rfl, _, rfl, _, _, rfl, ⟨hA, rfl⟩, .inl ⟨_, _, rfl, rfl, _, rfl, iteY (by omega) ?_⟩⟩
      refine ⟨_, rfl, _, rfl, _, _, rfl, ⟨hB, rfl⟩, .inl ⟨_, _, rfl, rfl, _, rfl, iteY (by omega) ?_⟩⟩
      refine ⟨_, rfl, _, rfl, .inr ⟨_, _, bc x, rfl, rfl, hA, atI_nat (row_item h1), _, rfl, _, rfl, .inr ⟨_, _, bc y, rfl, rfl, hB, atI_nat (row_item h2), rfl, _, rfl, iteN ?_ (⟨_, rfl, H2, .refl (Same.refl _), q' ej⟩)⟩⟩⟩
      rw [sign_row, sign_row]
      intro z
      exact h3 (List.cons.inj (rowS_inj (V.str.inj z))).1
theorem ok_shared_signs {f : Addr} {fd : FuncData} (F : FunAt K mg "shared_signs" s_shared_signs ["one", "other"] f fd) (D_first_unlike : DefOk P w K mg base 1 "first_unlike" ["one", "other"] spCom) : DefOk P w K mg base 2 "shared_signs" ["one", "other"] spCom := by
  refine F.ok sc_shared_signs (fun vs H Q E h => ?_) (fun cdv A outer s H vs Q E hr h => ?_)
  · obtain ⟨a, b, rfl, _⟩ := h; rfl
  obtain ⟨a, b, rfl, ha, hb, q⟩ := h
  refine ⟨_, (pss_one (ps_ret (pe_callD D_first_unlike hr (pa_cons (pv 0) (pa_cons (pv 1) pa_nil))))), ?_⟩
  exact ⟨_, rfl, _, rfl, a, b, rfl, ha, hb, H, .refl (Same.refl _), q⟩
def spPart : Sp := fun vs H Q _ => ∃ a b : List Bool, vs = [.str (rowS a), .str (rowS b)] ∧ a.length ≤ 90000 ∧ b.length ≤ 90000 ∧ Lt a b ∧ Q (.str (rowS (b.take (com a b + 1)))) H
theorem ok_parting_of {f : Addr} {fd : FuncData} (F : FunAt K mg "parting_of" s_parting_of ["one", "other"] f fd) (D_shared_signs : DefOk P w K mg base 2 "shared_signs" ["one", "other"] spCom) : DefOk P w K mg base 3 "parting_of" ["one", "other"] spPart := by
  refine F.ok sc_parting_of (fun vs H Q E h => ?_) (fun cdv A outer s H vs Q E hr h => ?_)
  · obtain ⟨a, b, rfl, _⟩ := h; rfl
  obtain ⟨a, b, rfl, ha, hb, hlt, q⟩ := h
  refine ⟨_, (pss_cons (ps_if (pt_not (pt_cmpR oLt (pv 0) (pv 1) (nomark _))) (pss_one ps_never) pss_nil)
    (pss_one (ps_ret (pe_slice slAll (pv 1) po_none (po_some (pe_op oAdd (pe_callD D_shared_signs hr (pa_cons (pv 0) (pa_cons (pv 1) pa_nil))) pe_int)))))), ?_⟩
  have hB : (rowS b).length ≤ sizeLine := by rw [rowS_length]; exact small5 (by omega)
  refine ⟨_, rfl, _, rfl, .inr ⟨_, _, rfl, rfl, _, rfl, ?_⟩⟩
  rw [ltB_t hlt]
  refine iteF ⟨_, rfl, _, rfl, _, rfl, a, b, rfl, ha, hb, .inl ⟨_, _, rfl, rfl, _, rfl, .inr ⟨_, rfl, hB, ?_⟩⟩⟩
  have e := slice_to b (com a b + 1) (lt_com hlt)
  have e' : (((com a b + 1 : Nat) : Int)) = ((com a b : Nat) : Int) + 1 := rfl
  rw [e'] at e
  rw [e]
  exact ⟨H, .refl (Same.refl _), q⟩
theorem ents_len3 {rs : List (List Bool)} (h : ∀ r ∈ rs, r.length ≤ 300) : ∀ a, (ents a rs).length ≤ 372 * rs.length := by
  induction rs with
  | nil => intro a; exact Nat.zero_le _
  | cons r rs ih =>
    intro a
    have hr := h r (List.mem_cons_self ..)
    have h0 := ih (fun x hx => h x (List.mem_cons_of_mem _ hx)) r
    have h3 : (ent a r).length ≤ 372 := by
      unfold ent
      have := (com_le (a := a) (b := r)).2
      have h1 := cnt_short (n := com a r) (by have : (1000 : Nat) < 2 ^ 20 := by decide
                                              omega)
      have h2 := cnt_short (n := r.length - com a r) (by have : (1000 : Nat) < 2 ^ 20 := by decide
                                                         omega)
      rw [List.length_append, List.length_append, List.length_drop]
      omega
    rw [ents, List.length_append, List.length_cons]
    omega
theorem page_len3 {rs : List (List Bool)} (h : ∀ r ∈ rs, r.length ≤ 300) (hn : rs.length ≤ 100) : (page rs).length ≤ 38000 := by
  unfold page
  have h1 := cnt_short (n := rs.length) (by have : (1000 : Nat) < 2 ^ 20 := by decide
                                            omega)
  have h2 := ents_len3 h []
  rw [List.length_append]
  omega
theorem cnt_len255 {n : Nat} (h : n + 1 < 2 ^ 255) : (cnt n).length ≤ 269 := by
  have := cnt_length h
  have := blen_le h
  omega
theorem cnt_in {n : Nat} (h : n ≤ 100000) : n + 1 < 2 ^ 255 := Nat.lt_of_le_of_lt (Nat.succ_le_succ h) (by decide +kernel)
theorem RL_get {rs : List (List Bool)} {i : Nat} {x : V} (h : (RL rs)[i]? = some x) : ∃ r, rs[i]? = some r ∧ rs.getD i [] = r ∧ x = .str (rowS r) := by
  rw [List.getElem?_map] at h
  cases e : rs[i]? with
  | none => rw [e] at h; cases h
  | some r => rw [e] at h; cases h; exact ⟨r, rfl, by rw [List.getD_eq_getElem?_getD, e]; rfl, rfl⟩
theorem slots2 {σ : St} (h : σ.length = 2) : ∃ z1 z2, σ = [z1, z2] := match σ, h with | [z1, z2], _ => ⟨z1, z2, rfl⟩
def spEntry : Sp := fun vs H Q _ => ∃ a r : List Bool, vs = [.str (rowS a), .str (rowS r)] ∧ a.length ≤ 1000 ∧ r.length ≤ 1000 ∧ Q (.str (rowS (ent a r))) H
theorem ok_entry_of {f : Addr} {fd : FuncData} (nb : NB mg) (F : FunAt K mg "entry_of" s_entry_of ["ahead", "row"] f fd) (D_shared_signs : DefOk P w K mg base 2 "shared_signs" ["one", "other"] spCom) (D_count_row : DefOk P w K mg base 2 "count_row" ["n"] spCountRow) : DefOk P w K mg base 3 "entry_of" ["ahead", "row"] spEntry := by
  refine F.ok sc_entry_of (fun vs H Q E h => ?_) (fun cdv A outer s H vs Q E hr h => ?_)
  · obtain ⟨a, r, rfl, _⟩ := h; rfl
  obtain ⟨a, r, rfl, ha, hb, q⟩ := h
  refine ⟨_, (pss_cons (ps_set (i := 2) sc_entry_of.nd rfl (by first | exact Or.inl rfl | exact Or.inr rfl) (pe_callD D_shared_signs hr (pa_cons (pv 0) (pa_cons (pv 1) pa_nil))))
    (pss_one (ps_ret (pe_op oAdd (pe_op oAdd (pe_callD D_count_row hr (pa_cons (pv 2) pa_nil)) (pe_callD D_count_row hr (pa_cons (pe_op oSub (pe_callB call_len rfl nb.len_ bo_len (pa_cons (pv 1) pa_nil)) (pv 2)) pa_nil))) (pe_slice slAll (pv 1) (po_some (pv 2)) po_none))))), ?_⟩
  have hR : (rowS r).length ≤ sizeLine := by rw [rowS_length]; exact small5 (by omega)
  have eR := rowS_length r
  have hc := (com_le (a := a) (b := r)).2
  have l1 := cnt_len255 (cnt_in (n := com a r) (by omega))
  have l2 := cnt_len255 (cnt_in (n := r.length - com a r) (by omega))
  refine ⟨_, rfl, _, rfl, a, r, rfl, by omega, by omega, ?_⟩
  refine ⟨_, rfl, com a r, rfl, cnt_in (by omega), ?_⟩
  refine ⟨_, rfl, _, _, rfl, ⟨hR, rfl⟩, _, rfl, _, _, rfl, rfl, r.length - com a r, (congrArg (fun x => [V.int x]) (by omega)), cnt_in (by omega), ?_⟩
  refine .inr ⟨_, _, rfl, rfl, (by rw [rowS_length, rowS_length]; exact small5 (by omega)), ?_⟩
  refine ⟨_, rfl, _, rfl, _, rfl, .inr ⟨_, rfl, hR, ?_⟩⟩
  rw [slice_from r _ hc, rowS_append]
  refine .inr ⟨_, _, rfl, rfl, (by rw [rowS_length, rowS_length, List.length_append, List.length_drop]; exact small5 (by omega)), ?_⟩
  rw [rowS_append]
  exact ⟨H, .refl (Same.refl _), q⟩
def spAscend : Sp := fun vs H Q _ => ∃ (a : Addr) (rs : List (List Bool)), vs = [.ref a] ∧ H a = some (.lst (RL rs)) ∧ rs.length ≤ 200 ∧ Q (.bl (ascB rs)) H
theorem asc_range (rs : List (List Bool)) : ((List.range (rs.length - 1)).map fun i => decide (Lt (rs.getD i []) (rs.getD (i + 1) []))).all id = ascB rs := by
  induction rs with
  | nil => rfl
  | cons a r ih =>
    cases r with
    | nil => rfl
    | cons b r =>
      have e : (a :: b :: r).length - 1 = ((b :: r).length - 1) + 1 := rfl
      rw [e, List.range_succ_eq_map, List.map_cons, List.all_cons, List.map_map, ascB]
      congr 1
theorem ok_ascend {f : Addr} {fd : FuncData} (nb : NB mg) (F : FunAt K mg "ascend" s_ascend ["rows"] f fd) : DefOk P w K mg base 1 "ascend" ["rows"] spAscend := by
  refine F.ok sc_ascend (fun vs H Q E h => ?_) (fun cdv A outer s H vs Q E hr h => ?_)
  · obtain ⟨a, rs, rfl, _⟩ := h; rfl
  obtain ⟨a, rs, rfl, ha, hl, q⟩ := h
  refine ⟨_, (pss_one (ps_ret (pe_callB (call_all rfl) rfl nb.all_ bo_all (pa_cons (pe_comp ["one", "other"] [] rfl (by decide +kernel) trivial (pi_zip rfl nb.zip_ (pa_cons (pv 0) (pa_cons (pe_slice slAll (pv 0) (po_some pe_int) po_none) pa_nil))) (fun _ _ _ _ _ => (pg_tup rfl (pgs_cons (pg_name (i := 0) (show (["one", "other"] : List Str).Nodup by decide +kernel) rfl (by first | exact Or.inl rfl | exact Or.inr rfl)) (pgs_cons (pg_name (i := 1) (show (["one", "other"] : List Str).Nodup by decide +kernel) rfl (by first | exact Or.inl rfl | exact Or.inr rfl)) pgs_nil)))) (fun _ _ _ _ _ => pts_nil) (fun _ _ _ _ _ => (pe_cmpR oLt (pv 0) (pv 1) (nomark _)))) pa_nil)))), ?_⟩
  refine ⟨_, rfl, _, rfl, _, rfl, .inl ⟨a, _, rfl, SqL.of ha, fun p hp => ⟨a, p, _, _, rfl, SqL.of (same_new hp _ _ ha), SqL.of upd_same, fun D hD => ?_⟩⟩⟩
  rw [cutV_tail] at hD ⊢
  have hs1 := same_new (o := HO.lst ((RL rs).drop 1)) hp
  have hn : min (RL rs).length ((RL rs).drop 1).length = rs.length - 1 := by rw [List.length_drop, RL_len]; omega
  refine comp_zip (fun i => V.bl (decide (Lt (rs.getD i []) (rs.getD (i + 1) [])))) (fun σ => σ.length = 2) (by omega) rfl hD (SqL.of (hs1 _ _ ha)) (SqL.of upd_same) ?_ ?_
  · intro i x y hx hy σ1 H1 T hS hs hT R hR
    obtain ⟨z1, z2, rfl⟩ := slots2 hS
    obtain ⟨r1, _, g1, rfl⟩ := RL_get hx
    rw [List.getElem?_drop, Nat.add_comm] at hy
    obtain ⟨r2, _, g2, rfl⟩ := RL_get hy
    refine ⟨T, _, rfl, SqT.of upd_same, rfl, _, _, rfl, _, _, rfl, rfl, _, rfl, _, rfl, .inr ⟨_, _, rfl, rfl, ?_⟩⟩
    have := hR [some (.str (rowS r1)), some (.str (rowS r2))] _ rfl (Same.refl _)
    rw [g1, g2] at this
    exact this
  · intro H' hs' hD'
    rw [hn] at hD'
    refine ⟨D, (List.range (rs.length - 1)).map fun i => decide (Lt (rs.getD i []) (rs.getD (i + 1) [])), rfl, SqL.of (by rw [hD', List.map_map]; rfl), H, .refl (hs1.trans hs'), ?_⟩
    rw [asc_range]
    exact q
def spPageOf : Sp := fun vs H Q _ => ∃ (a : Addr) (rs : List (List Bool)), vs = [.ref a] ∧ H a = some (.lst (RL rs)) ∧ rs.length ≤ 100 ∧ (∀ r ∈ rs, r.length ≤ 300) ∧ Asc rs ∧ Q (.str (rowS (page rs))) H
theorem ent_len100 {a r : List Bool} (hr : r.length ≤ 300) : (ent a r).length ≤ 372 := by
  have := ents_len3 (rs := [r]) (fun x hx => by rw [List.mem_singleton.mp hx]; exact hr) a
  rw [ents, List.length_append] at this
  simp only [List.length_cons, List.length_nil] at this
  omega
theorem getD_mem {rs : List (List Bool)} {i : Nat} (h : ∀ r ∈ rs, r.length ≤ 300) : (rs.getD i []).length ≤ 300 := by
  rw [List.getD_eq_getElem?_getD]
  cases e : rs[i]? with
  | none => exact Nat.zero_le _
  | some r => exact h r (List.mem_of_getElem? e)
theorem sum_le (f : Nat → Nat) (k : Nat) (h : ∀ i, f i ≤ k) : ∀ n, ((List.range n).map f).sum ≤ k * n
  | 0 => Nat.zero_le _
  | n + 1 => by
    rw [List.range_succ, List.map_append, List.sum_append, List.map_cons, List.map_nil, List.sum_cons, List.sum_nil]
    have := sum_le f k h n
    have := h n
    rw [Nat.mul_succ]
    omega
theorem ok_page_of {f : Addr} {fd : FuncData} (nb : NB mg) (F : FunAt K mg "page_of" s_page_of ["rows"] f fd) (D_ascend : DefOk P w K mg base 1 "ascend" ["rows"] spAscend) (D_entry_of : DefOk P w K mg base 3 "entry_of" ["ahead", "row"] spEntry) (D_count_row : DefOk P w K mg base 2 "count_row" ["n"] spCountRow) : DefOk P w K mg base 4 "page_of" ["rows"] spPageOf := by
  refine F.ok sc_page_of (fun vs H Q E h => ?_) (fun cdv A outer s H vs Q E hr h => ?_)
  · obtain ⟨a, rs, rfl, _⟩ := h; rfl
  obtain ⟨a, rs, rfl, ha, hl, hb, hA, q⟩ := h
  refine ⟨_, (pss_cons (ps_if (pt_not (pt_truth (pe_callD D_ascend hr (pa_cons (pv 0) pa_nil)) (fun _ => rfl))) (pss_one ps_never) pss_nil)
    (pss_cons (ps_setComp (i := 1)  ["ahead", "row"] [] sc_page_of.nd rfl rfl rfl (by decide +kernel) trivial (pi_zip rfl nb.zip_ (pa_cons (pe_op oAdd3 (pe_lst (pa_cons pe_str pa_nil)) (pv 0)) (pa_cons (pv 0) pa_nil))) (fun _ _ _ _ _ => (pg_tup rfl (pgs_cons (pg_name (i := 0) (show (["ahead", "row"] : List Str).Nodup by decide +kernel) rfl (by first | exact Or.inl rfl | exact Or.inr rfl)) (pgs_cons (pg_name (i := 1) (show (["ahead", "row"] : List Str).Nodup by decide +kernel) rfl (by first | exact Or.inl rfl | exact Or.inr rfl)) pgs_nil)))) (fun _ _ _ _ _ => pts_nil) (fun _ _ _ _ _ => (pe_callD D_entry_of hr (pa_cons (pv 0) (pa_cons (pv 1) pa_nil)))))
    (pss_one (ps_ret (pe_op oAdd3 (pe_callD D_count_row hr (pa_cons (pe_callB call_len rfl nb.len_ bo_len (pa_cons (pv 0) pa_nil)) pa_nil)) (pe_bm PySem.F.plainAttrs_str PySem.F.slot_str_join PySem.F.type_str_join mt_join pe_str (pa_cons (pv 1) pa_nil))))))), ?_⟩
  refine ⟨_, rfl, a, rs, rfl, ha, by omega, _, rfl, ?_⟩
  rw [(ascB_iff rs).mpr hA]
  refine iteF ⟨(by show 1 ≤ sizeLine; decide), fun p1 hp1 => ?_⟩
  have s1' := same_new (o := HO.lst [V.str (Str.ofString "")]) hp1
  refine ⟨_, rfl, .inr ⟨p1, a, _, _, rfl, rfl, upd_same, s1' _ _ ha, (by rw [RL_len]; exact small5 (by show 1 + _ ≤ _; omega)), fun p2 hp2 => ?_⟩⟩
  have s2' := s1'.trans (same_new (o := HO.lst ([V.str (Str.ofString "")] ++ RL rs)) hp2)
  have e1 : [V.str (Str.ofString "")] ++ RL rs = RL ([] :: rs) := by rw [sE]; rfl
  rw [e1] at s2' ⊢
  refine ⟨_, rfl, p2, a, _, _, rfl, SqL.of upd_same, SqL.of (s2' _ _ ha), fun D hD => ?_⟩
  have hn : min (RL ([] :: rs)).length (RL rs).length = rs.length := by rw [RL_len, RL_len, List.length_cons]; omega
  have hent : ∀ i, (ent (([] :: rs).getD i []) (rs.getD i [])).length ≤ 372 := fun i => ent_len100 (getD_mem hb)
  refine comp_zip (fun i => V.str (rowS (ent (([] :: rs).getD i []) (rs.getD i [])))) (fun σ => σ.length = 2) (by omega) rfl hD (SqL.of upd_same) (SqL.of (s2' _ _ ha)) ?_ ?_
  · intro i x y hx hy σ1 H1 T hS hs hT R hR
    obtain ⟨z1, z2, rfl⟩ := slots2 hS
    obtain ⟨r1, e1', g1, rfl⟩ := RL_get hx
    obtain ⟨r2, e2', g2, rfl⟩ := RL_get hy
    have hbc : ∀ r ∈ [] :: rs, r.length ≤ 300 := fun r hr => by
      rcases List.mem_cons.mp hr with z | z
      · rw [z]; exact Nat.zero_le _
      · exact hb r z
    have hb1 : r1.length ≤ 300 := by rw [← g1]; exact getD_mem hbc
    have hb2 : r2.length ≤ 300 := hb r2 (List.mem_of_getElem? e2')
    refine ⟨T, _, rfl, SqT.of upd_same, rfl, _, _, rfl, _, _, rfl, rfl, _, rfl, _, rfl, r1, r2, rfl, by omega, by omega, ?_⟩
    have := hR [some (.str (rowS r1)), some (.str (rowS r2))] _ rfl (Same.refl _)
    rw [g1, g2] at this
    exact this
  · intro H' hs' hD'
    rw [hn] at hD'
    have s3' := s2'.trans hs'
    refine ⟨_, rfl, _, _, rfl, .inl ⟨_, SqL.of (s3' _ _ ha), rfl⟩, rs.length, (by rw [RL_len]; rfl), cnt_in (by omega), ?_⟩
    refine ⟨rfl, _, rfl, _, D, (List.range rs.length).map fun i => rowS (ent (([] :: rs).getD i []) (rs.getD i [])), rfl, rfl, SqL.of (by rw [hD', List.map_map]; rfl), ?_, ?_⟩
    · have := sum_le (fun i => (rowS (ent (([] :: rs).getD i []) (rs.getD i []))).length) 372 (fun i => by rw [rowS_length]; exact hent i) rs.length
      rw [List.map_map]
      have e0 : (Str.ofString "").length = 0 := by decide +kernel
      rw [e0, Nat.mul_zero, Nat.add_zero]
      exact small5 (Nat.le_trans this (by omega))
    · have ej : Txt.join (Str.ofString "") ((List.range rs.length).map fun i => rowS (ent (([] :: rs).getD i []) (rs.getD i []))) = rowS (ents [] rs) := by
        rw [ents_map, ← join_rows, List.map_map]; rfl
      rw [ej]
      refine .inl (.inr ⟨_, _, rfl, rfl, ?_, ?_⟩)
      · have := ents_len3 hb []
        have := cnt_len255 (cnt_in (n := rs.length) (by omega))
        rw [rowS_length, rowS_length]; exact small5 (by omega)
      · rw [rowS_append]
        exact ⟨H, .refl s3', q⟩
/-! ### pages read -/
/-- what follows a page's rows -/
def After (rs : List (List Bool)) (r : List Bool) : Prop := rs = [] ∨ Lt (rs.getLastD []) r
def spMay : Sp := fun vs H Q _ => ∃ (a : Addr) (rs : List (List Bool)) (r : List Bool), vs = [.ref a, .int ((com (rs.getLastD []) r : Nat) : Int), .str (rowS (r.drop (com (rs.getLastD []) r)))] ∧ H a = some (.lst (RL rs)) ∧ rs.length ≤ 10000 ∧ (∀ x ∈ rs, x.length ≤ 10000) ∧ r.length ≤ 10000 ∧ After rs r ∧ Q (.bl true) H
theorem last_RL {rs : List (List Bool)} (h : rs ≠ []) : atI (RL rs) (-1) = some (.str (rowS (rs.getLastD []))) := by
  obtain ⟨xs, x, rfl⟩ : ∃ xs x, rs = xs ++ [x] := ⟨rs.dropLast, rs.getLast h, (List.dropLast_concat_getLast h).symm⟩
  rw [RL_app]
  have : (xs ++ [x]).getLastD [] = x := by simp
  rw [this]
  exact atI_last _ _
theorem last_len {rs : List (List Bool)} {k : Nat} (h : ∀ x ∈ rs, x.length ≤ k) : (rs.getLastD []).length ≤ k := by
  cases rs with
  | nil => exact Nat.zero_le _
  | cons a r =>
    have : (a :: r).getLastD [] ∈ a :: r := by
      rw [List.getLastD_cons]
      exact List.getLastD_mem_cons ..
    exact h _ this
theorem ok_may_follow {f : Addr} {fd : FuncData} (nb : NB mg) (F : FunAt K mg "may_follow" s_may_follow ["rows", "shared", "rest"] f fd) (D_shared_signs : DefOk P w K mg base 2 "shared_signs" ["one", "other"] spCom) : DefOk P w K mg base 3 "may_follow" ["rows", "shared", "rest"] spMay := by
  refine F.ok sc_may_follow (fun vs H Q E h => ?_) (fun cdv A outer s H vs Q E hr h => ?_)
  · obtain ⟨a, rs, r, rfl, _⟩ := h; rfl
  obtain ⟨a, rs, r, rfl, ha, hl, hb, hrl, hA, q⟩ := h
  refine ⟨_, (pss_cons (ps_if (pt_cmpR oEq (pe_callB call_len rfl nb.len_ bo_len (pa_cons (pv 0) pa_nil)) pe_int (nomark _)) (pss_one (ps_ret (pe_cmpR oEq (pv 1) pe_int (nomark _)))) pss_nil)
    (pss_cons (ps_set (i := 3) sc_may_follow.nd rfl (by first | exact Or.inl rfl | exact Or.inr rfl) (pe_ix iAll (pv 0) (pe_un un_neg pe_int) (fun _ _ => rfl)))
    (pss_cons (ps_set (i := 4) sc_may_follow.nd rfl (by first | exact Or.inl rfl | exact Or.inr rfl) (pe_slice slAll (pv 3) (po_some (pv 1)) po_none))
    (pss_one (ps_ret (pe_and (pe_cmpR oLe (pv 1) (pe_callB call_len rfl nb.len_ bo_len (pa_cons (pv 3) pa_nil)) (nomark _)) (pe_and (pe_cmpR oLt (pv 4) (pv 2) (nomark _)) (pe_one (pe_cmpR oEq (pe_callD D_shared_signs hr (pa_cons (pv 4) (pa_cons (pv 2) pa_nil))) pe_int (nomark _)))))))))), ?_⟩
  refine ⟨_, rfl, _, _, rfl, .inl ⟨_, SqL.of ha, rfl⟩, rfl, _, rfl, ?_⟩
  rw [RL_len]
  by_cases h0 : rs = []
  · subst h0
    have e0 : com (([] : List (List Bool)).getLastD []) r = 0 := com_nil r
    rw [e0]
    exact iteY rfl ⟨_, rfl, rfl, H, .refl (Same.refl _), q⟩
  · have hp := List.length_pos_iff.mpr h0
    refine iteN (fun z => by have := V.int.inj z; omega) ?_
    have hlt := hA.resolve_left h0
    have hll := last_len hb
    have hL := last_RL h0
    generalize rs.getLastD [] = la at *
    have hla : (rowS la).length ≤ sizeLine := by rw [rowS_length]; exact small5 (by omega)
    have hcm := (com_le (a := la) (b := r)).1
    obtain ⟨d1, d2⟩ := lt_drop hlt
    refine ⟨_, rfl, _, rfl, .inl (.inl ⟨_, _, _, _, rfl, rfl, SqL.of ha, hL, ?_⟩)⟩
    refine ⟨_, rfl, _, rfl, _, rfl, .inr ⟨_, rfl, hla, ?_⟩⟩
    rw [slice_from la _ hcm]
    refine ⟨_, rfl, _, rfl, _, _, rfl, ⟨hla, rfl⟩, _, _, rfl, rfl, _, rfl, iteY (by rw [rowS_length]; omega) ?_⟩
    refine ⟨_, rfl, _, rfl, .inr ⟨_, _, rfl, rfl, _, rfl, ?_⟩⟩
    rw [ltB_t d1]
    refine iteT ⟨_, rfl, _, rfl, _, _, rfl, (by rw [List.length_drop]; omega), (by rw [List.length_drop]; omega), rfl, H, .refl (Same.refl _), ?_⟩
    rw [d2]
    exact q
theorem drop_pre {a b L : List Bool} {i : Nat} (h : a ++ b <+: L.drop i) : b <+: L.drop (i + a.length) := by
  obtain ⟨u, e⟩ := h
  refine ⟨u, ?_⟩
  rw [← List.drop_drop, ← e, List.append_assoc, List.drop_left]
theorem pre_left {a b L : List Bool} (h : a ++ b <+: L) : a <+: L := ⟨_, (List.append_assoc ..).symm.trans h.choose_spec⟩
theorem pre_fit {a L : List Bool} {i : Nat} (h : a <+: L.drop i) (hi : i ≤ L.length) : i + a.length ≤ L.length := by
  have := h.length_le
  rw [List.length_drop] at this
  omega
def spReadEntry : Sp := fun vs H Q _ => ∃ (l : List Bool) (i : Nat) (a : Addr) (rs : List (List Bool)) (r : List Bool), vs = [.str (rowS l), .int ((i : Nat) : Int), .ref a] ∧ l.length ≤ 90000 ∧ i ≤ l.length ∧ H a = some (.lst (RL rs)) ∧ rs.length ≤ 10000 ∧ (∀ x ∈ rs, x.length ≤ 1000) ∧ r.length ≤ 1000 ∧ ent (rs.getLastD []) r <+: l.drop i ∧ After rs r ∧
  ∀ t, H t = none → Q (.ref t) (upd H t (.tup [.str (rowS r), .int ((i + (ent (rs.getLastD []) r).length : Nat) : Int)]))
set_option maxHeartbeats 1000000 in
theorem ok_read_entry {f : Addr} {fd : FuncData} (nb : NB mg) (F : FunAt K mg "read_entry" s_read_entry ["page", "at", "rows"] f fd) (D_read_count : DefOk P w K mg base 4 "read_count" ["signs", "at"] spReadCount) (D_may_follow : DefOk P w K mg base 3 "may_follow" ["rows", "shared", "rest"] spMay) : DefOk P w K mg base 5 "read_entry" ["page", "at", "rows"] spReadEntry := by
  refine F.ok sc_read_entry (fun vs H Q E h => ?_) (fun cdv A outer s H vs Q E hr h => ?_)
  · obtain ⟨l, i, a, rs, r, rfl, _⟩ := h; rfl
  obtain ⟨l, i, a, rs, r, rfl, hl, hi, ha, hn, hb, hrl, hpre, hA, q⟩ := h
  refine ⟨_, (pss_cons (ps_set (i := 3) sc_read_entry.nd rfl (by first | exact Or.inl rfl | exact Or.inr rfl) (pe_callD D_read_count hr (pa_cons (pv 0) (pa_cons (pv 1) pa_nil))))
    (pss_cons (ps_set (i := 4) sc_read_entry.nd rfl (by first | exact Or.inl rfl | exact Or.inr rfl) (pe_callD D_read_count hr (pa_cons (pv 0) (pa_cons (pe_ix iAll (pv 3) pe_int (fun _ _ => rfl)) pa_nil))))
    (pss_cons (ps_set (i := 5) sc_read_entry.nd rfl (by first | exact Or.inl rfl | exact Or.inr rfl) (pe_op oAdd (pe_ix iAll (pv 4) pe_int (fun _ _ => rfl)) (pe_ix iAll (pv 4) pe_int (fun _ _ => rfl))))
    (pss_cons (ps_set (i := 6) sc_read_entry.nd rfl (by first | exact Or.inl rfl | exact Or.inr rfl) (pe_slice slAll (pv 0) (po_some (pe_ix iAll (pv 4) pe_int (fun _ _ => rfl))) (po_some (pv 5))))
    (pss_cons (ps_if (PW.pt (pw_or (pt_cmpR oGt (pv 5) (pe_callB call_len rfl nb.len_ bo_len (pa_cons (pv 0) pa_nil)) (nomark _)) (pw_or1 (pt_not (pt_truth (pe_callD D_may_follow hr (pa_cons (pv 2) (pa_cons (pe_ix iAll (pv 3) pe_int (fun _ _ => rfl)) (pa_cons (pv 6) pa_nil)))) (fun _ => rfl)))))) (pss_one ps_never) pss_nil)
    (pss_cons (ps_set (i := 7) sc_read_entry.nd rfl (by first | exact Or.inl rfl | exact Or.inr rfl) (pe_ifExp (pt_truth (pv 2) (fun _ => rfl)) (pe_slice slAll (pe_ix iAll (pv 2) (pe_un un_neg pe_int) (fun _ _ => rfl)) po_none (po_some (pe_ix iAll (pv 3) pe_int (fun _ _ => rfl)))) pe_str))
    (pss_one (ps_ret (pe_tup (pa_cons (pe_op oAdd (pv 7) (pv 6)) (pa_cons (pv 5) pa_nil))))))))))), ?_⟩
  have hL : (rowS l).length ≤ sizeLine := by rw [rowS_length]; exact small5 (by omega)
  have hll := last_len hb
  obtain ⟨c, hc⟩ : ∃ c, c = com (rs.getLastD []) r := ⟨_, rfl⟩
  obtain ⟨m, hm⟩ : ∃ m, m = r.length - c := ⟨_, rfl⟩
  have hcl := com_le (a := rs.getLastD []) (b := r)
  have he : ent (rs.getLastD []) r = cnt c ++ (cnt m ++ r.drop c) := by unfold ent; rw [← hc, ← hm, List.append_assoc]
  rw [he] at hpre q
  rw [← hc] at hcl
  have p1 := pre_left hpre
  have p23 := drop_pre hpre
  have p2 := pre_left p23
  have p3 := drop_pre p23
  have f1 := pre_fit p1 hi
  have f2 := pre_fit p2 f1
  have f3 := pre_fit p3 f2
  have hrd : (r.drop c).length = m := by rw [List.length_drop, hm]
  rw [hrd] at f3
  obtain ⟨i1, hi1⟩ : ∃ i1, i1 = i + (cnt c).length := ⟨_, rfl⟩
  obtain ⟨i2, hi2⟩ : ∃ i2, i2 = i1 + (cnt m).length := ⟨_, rfl⟩
  have hend : i + (cnt c ++ (cnt m ++ r.drop c)).length = i2 + m := by rw [List.length_append, List.length_append, hrd]; omega
  rw [hend] at q
  rw [← hi1] at p2 p3 f1 f2 f3
  rw [← hi2] at p3 f2 f3
  have erest : (l.drop i2).take m = r.drop c := by rw [← hrd]; exact (List.prefix_iff_eq_take.mp p3).symm
  have esl : Txt.slice (rowS l) (some ((i2 : Nat) : Int)) (some ((i2 + m : Nat) : Int)) = rowS (r.drop c) := by rw [slice_nat l i2 m (by omega), erest]
  refine ⟨_, rfl, _, rfl, l, i, c, rfl, by omega, hi, cnt_in (by omega), p1, fun t1 ht1 => ?_⟩
  rw [← hi1]
  have s1' := same_new (o := HO.tup [V.int ((c : Nat) : Int), V.int ((i1 : Nat) : Int)]) ht1
  have a0 : atI [V.int ((c : Nat) : Int), V.int ((i1 : Nat) : Int)] 0 = some (.int ((c : Nat) : Int)) := atI_nat (j := 0) rfl
  have a1 : atI [V.int ((c : Nat) : Int), V.int ((i1 : Nat) : Int)] 1 = some (.int ((i1 : Nat) : Int)) := atI_nat (j := 1) rfl
  refine ⟨_, rfl, _, rfl, .inl (.inr ⟨_, _, _, _, rfl, rfl, SqT.of upd_same, a1, l, i1, m, rfl, by omega, f1, cnt_in (by omega), p2, fun t2 ht2 => ?_⟩)⟩
  rw [← hi2]
  have s2' := same_new (o := HO.tup [V.int ((m : Nat) : Int), V.int ((i2 : Nat) : Int)]) ht2
  have b0 : atI [V.int ((m : Nat) : Int), V.int ((i2 : Nat) : Int)] 0 = some (.int ((m : Nat) : Int)) := atI_nat (j := 0) rfl
  have b1 : atI [V.int ((m : Nat) : Int), V.int ((i2 : Nat) : Int)] 1 = some (.int ((i2 : Nat) : Int)) := atI_nat (j := 1) rfl
  have ht1' := s2' _ _ (upd_same (H := H) (a := t1) (o := HO.tup [V.int ((c : Nat) : Int), V.int ((i1 : Nat) : Int)]))
  have ha' := s2' _ _ (s1' _ _ ha)
  have st := s1'.trans s2'
  refine ⟨_, rfl, .inl (.inr ⟨_, _, _, _, rfl, rfl, SqT.of upd_same, b1, _, rfl, .inl (.inr ⟨_, _, _, _, rfl, rfl, SqT.of upd_same, b0, .inl ⟨_, _, rfl, rfl, ?_⟩⟩)⟩)⟩
  dsimp only
  rw [show ((i2 : Nat) : Int) + ((m : Nat) : Int) = ((i2 + m : Nat) : Int) from rfl]
  refine ⟨_, rfl, _, rfl, .inl (.inr ⟨_, _, _, _, rfl, rfl, SqT.of upd_same, b1, _, rfl, _, rfl, _, rfl, .inr ⟨_, rfl, hL, ?_⟩⟩)⟩
  rw [esl]
  refine ⟨_, rfl, _, rfl, _, _, rfl, ⟨hL, rfl⟩, _, _, rfl, rfl, _, rfl, iteN (by rw [rowS_length]; omega) ?_⟩
  refine ⟨_, rfl, _, rfl, .inl (.inr ⟨_, _, _, _, rfl, rfl, SqT.of ht1', a0, _, rfl, a, rs, r, (by rw [hc]; rfl), ha', hn, (fun x hx => by have := hb x hx; omega), by omega, hA, true, rfl, iteF ?_⟩)⟩
  have hrow : rowS ((rs.getLastD []).take c) ++ rowS (r.drop c) = rowS r := by rw [rowS_append, hc, com_join]
  have hfit : (rowS ((rs.getLastD []).take c)).length + (rowS (r.drop c)).length ≤ sizeLine := by rw [rowS_length, rowS_length, List.length_take, hrd]; exact small5 (by omega)
  refine ⟨_, rfl, _, .inl ⟨_, SqL.of ha', rfl⟩, ?_⟩
  by_cases h0 : rs = []
  · have hbeg : Str.ofString "" = rowS ((rs.getLastD []).take c) := by rw [h0, sE]; simp
    have hem : (RL rs).isEmpty = true := by rw [h0]; rfl
    rw [hem]
    refine iteF ?_
    rw [hbeg]
    refine ⟨_, rfl, _, rfl, .inr ⟨_, _, rfl, rfl, hfit, _, rfl, (by show 2 ≤ sizeLine; decide), fun t3 ht3 => ?_⟩⟩
    rw [hrow]
    exact ⟨_, .new (st.free ht3) (st.trans (same_new ht3)) upd_same trivial, q t3 (st.free ht3)⟩
  · have hem : (RL rs).isEmpty = false := by
      cases rs with
      | nil => exact absurd rfl h0
      | cons x y => rfl
    rw [hem]
    have hla : (rowS (rs.getLastD [])).length ≤ sizeLine := by rw [rowS_length]; exact small5 (by omega)
    refine iteT ⟨_, rfl, _, rfl, .inl (.inl ⟨_, _, _, _, rfl, rfl, SqL.of ha', last_RL h0, _, rfl, .inl (.inr ⟨_, _, _, _, rfl, rfl, SqT.of ht1', a0, _, rfl, .inr ⟨_, rfl, hla, ?_⟩⟩)⟩)⟩
    rw [slice_to _ c (by omega)]
    refine ⟨_, rfl, _, rfl, .inr ⟨_, _, rfl, rfl, hfit, _, rfl, (by show 2 ≤ sizeLine; decide), fun t3 ht3 => ?_⟩⟩
    rw [hrow]
    exact ⟨_, .new (st.free ht3) (st.trans (same_new ht3)) upd_same trivial, q t3 (st.free ht3)⟩
def spRowsOf : Sp := fun vs H Q _ => ∃ (rs : List (List Bool)), vs = [.str (rowS (page rs))] ∧ Asc rs ∧ rs.length ≤ 100 ∧ (∀ r ∈ rs, r.length ≤ 300) ∧ ∀ p, H p = none → Q (.ref p) (upd H p (.lst (RL rs)))
theorem same_updr {H H2 : Hp} {r : Addr} {o : HO} (hs : Same H H2) (hr : H r = none) : Same H (upd H2 r o) := fun b u e => by rw [upd_ne (ne_of_none e hr)]; exact hs b u e
theorem page_drop (rs : List (List Bool)) (j : Nat) : (page rs).drop ((cnt rs.length).length + (ents [] (rs.take j)).length) = ents ((rs.take j).getLastD []) (rs.drop j) := by
  have e : ents [] rs = ents [] (rs.take j) ++ ents ((rs.take j).getLastD []) (rs.drop j) := by rw [← ents_append, List.take_append_drop]
  unfold page
  rw [e, ← List.append_assoc, ← List.length_append, List.drop_left]
theorem page_fit (rs : List (List Bool)) (j : Nat) : (cnt rs.length).length + (ents [] (rs.take j)).length ≤ (page rs).length := by
  have e : ents [] rs = ents [] (rs.take j) ++ ents ((rs.take j).getLastD []) (rs.drop j) := by rw [← ents_append, List.take_append_drop]
  unfold page
  rw [e, List.length_append, List.length_append]
  omega
theorem after_at {rs : List (List Bool)} (h : Asc rs) {j : Nat} {r : List Bool} (hr : rs[j]? = some r) : After (rs.take j) r := by
  cases j with
  | zero => exact .inl rfl
  | succ j =>
    have hj : j < rs.length := by have := (List.getElem?_eq_some_iff.mp hr).1; omega
    have e := List.getElem?_eq_getElem hj
    right
    rw [last_step e]
    exact asc_get h e hr
set_option maxHeartbeats 1000000 in
theorem ok_read_rows {f : Addr} {fd : FuncData} (nb : NB mg) (F : FunAt K mg "read_rows" s_read_rows ["page"] f fd) (D_read_count : DefOk P w K mg base 4 "read_count" ["signs", "at"] spReadCount) (D_read_entry : DefOk P w K mg base 5 "read_entry" ["page", "at", "rows"] spReadEntry) : DefOk P w K mg base 6 "read_rows" ["page"] spRowsOf := by
  refine F.ok sc_read_rows (fun vs H Q E h => ?_) (fun cdv A outer s H vs Q E hr h => ?_)
  · obtain ⟨rs, rfl, _⟩ := h; rfl
  obtain ⟨rs, rfl, hA, hn, hb, q⟩ := h
  refine ⟨_, (pss_cons (ps_set (i := 1) sc_read_rows.nd rfl (by first | exact Or.inl rfl | exact Or.inr rfl) (pe_callD D_read_count hr (pa_cons (pv 0) (pa_cons pe_int pa_nil))))
    (pss_cons (ps_set (i := 2) sc_read_rows.nd rfl (by first | exact Or.inl rfl | exact Or.inr rfl) (pe_lst pa_nil))
    (pss_cons (ps_set (i := 3) sc_read_rows.nd rfl (by first | exact Or.inl rfl | exact Or.inr rfl) (pe_ix iAll (pv 1) pe_int (fun _ _ => rfl)))
    (pss_cons (ps_while PassesOwn.never (pt_cmpR oLt (pe_callB call_len rfl nb.len_ bo_len (pa_cons (pv 2) pa_nil)) (pe_ix iAll (pv 1) pe_int (fun _ _ => rfl)) (nomark _))
      (pss_cons (ps_set (i := 4) sc_read_rows.nd rfl (by first | exact Or.inl rfl | exact Or.inr rfl) (pe_callD D_read_entry hr (pa_cons (pv 0) (pa_cons (pv 3) (pa_cons (pv 2) pa_nil)))))
      (pss_cons (ps_expr (pe_bm PySem.F.plainAttrs_list PySem.F.slot_list_append PySem.F.type_list_append mt_append (pv 2) (pa_cons (pe_ix iAll (pv 4) pe_int (fun _ _ => rfl)) pa_nil)))
      (pss_one (ps_set (i := 3) sc_read_rows.nd rfl (by first | exact Or.inl rfl | exact Or.inr rfl) (pe_ix iAll (pv 4) pe_int (fun _ _ => rfl)))))))
    (pss_cons (ps_if (pt_cmpR oLt (pv 3) (pe_callB call_len rfl nb.len_ bo_len (pa_cons (pv 0) pa_nil)) (nomark _)) (pss_one ps_never) pss_nil)
    (pss_one (ps_ret (pv 2)))))))), ?_⟩
  have hpl := page_len3 hb hn
  have hL : (rowS (page rs)).length ≤ sizeLine := by rw [rowS_length]; exact small5 (by omega)
  have hc0 : cnt rs.length <+: (page rs).drop 0 := ⟨ents [] rs, rfl⟩
  refine ⟨_, rfl, page rs, 0, rs.length, rfl, by omega, Nat.zero_le _, cnt_in (by omega), hc0, fun t0 ht0 => ?_⟩
  rw [Nat.zero_add]
  obtain ⟨n0, hn0⟩ : ∃ n0, n0 = (cnt rs.length).length := ⟨_, rfl⟩
  rw [← hn0]
  have s1' := same_new (o := HO.tup [V.int ((rs.length : Nat) : Int), V.int ((n0 : Nat) : Int)]) ht0
  have a0 : atI [V.int ((rs.length : Nat) : Int), V.int ((n0 : Nat) : Int)] 0 = some (.int ((rs.length : Nat) : Int)) := atI_nat (j := 0) rfl
  have a1 : atI [V.int ((rs.length : Nat) : Int), V.int ((n0 : Nat) : Int)] 1 = some (.int ((n0 : Nat) : Int)) := atI_nat (j := 1) rfl
  refine ⟨Nat.zero_le _, fun p hp => ?_⟩
  have s2' := s1'.trans (same_new (o := HO.lst []) hp)
  have hpH := s1'.free hp
  have ht0' := same_new (o := HO.lst []) hp _ _ (upd_same (H := H) (a := t0) (o := HO.tup [V.int ((rs.length : Nat) : Int), V.int ((n0 : Nat) : Int)]))
  have hpt : p ≠ t0 := fun e => by rw [e, upd_same] at hp; cases hp
  refine ⟨_, rfl, .inl (.inr ⟨_, _, _, _, rfl, rfl, SqT.of ht0', a1, ?_⟩)⟩
  refine ⟨fun m σ H2 => ∃ (j : Nat) (z : Option V), j ≤ rs.length ∧ m = rs.length - j ∧ σ = [some (.str (rowS (page rs))), some (.ref t0), some (.ref p), some (.int ((n0 + (ents [] (rs.take j)).length : Nat) : Int)), z] ∧ Same H H2 ∧ H2 t0 = some (.tup [V.int ((rs.length : Nat) : Int), V.int ((n0 : Nat) : Int)]) ∧ H2 p = some (.lst (RL (rs.take j))),
    ⟨_, 0, none, Nat.zero_le _, rfl, rfl, s2', ht0', upd_same⟩, ?_⟩
  rintro m σ H2 ⟨j, z, hj, rfl, rfl, hs, h0, hpv⟩
  refine ⟨_, rfl, _, _, rfl, .inl ⟨_, SqL.of hpv, rfl⟩, _, rfl, .inl (.inr ⟨_, _, _, _, rfl, rfl, SqT.of h0, a0, .inl ⟨_, _, rfl, rfl, _, rfl, ?_⟩⟩)⟩
  rw [RL_len, List.length_take, Nat.min_eq_left hj]
  have hfit := page_fit rs j
  rw [← hn0] at hfit
  refine iteD (fun c => ?_) (fun c => ?_)
  · have hjl : j < rs.length := by omega
    have er := List.getElem?_eq_getElem hjl
    generalize rs[j] = r at er
    have hpre : ent ((rs.take j).getLastD []) r <+: (page rs).drop (n0 + (ents [] (rs.take j)).length) := by
      rw [hn0, page_drop]
      have ed : rs.drop j = r :: rs.drop (j + 1) := by
        rw [List.drop_eq_getElem_cons hjl]
        rw [List.getElem?_eq_getElem hjl] at er
        rw [Option.some.inj er]
      rw [ed, ents]
      exact ⟨_, rfl⟩
    have hrm := hb r (List.mem_of_getElem? er)
    refine ⟨fun σ' H' => ∃ m', m' < rs.length - j ∧ ∃ (j : Nat) (z : Option V), j ≤ rs.length ∧ m' = rs.length - j ∧ σ' = [some (.str (rowS (page rs))), some (.ref t0), some (.ref p), some (.int ((n0 + (ents [] (rs.take j)).length : Nat) : Int)), z] ∧ Same H H' ∧ H' t0 = some (.tup [V.int ((rs.length : Nat) : Int), V.int ((n0 : Nat) : Int)]) ∧ H' p = some (.lst (RL (rs.take j))), fun _ _ h => h, ?_⟩
    refine ⟨_, rfl, _, rfl, _, rfl, page rs, n0 + (ents [] (rs.take j)).length, p, rs.take j, r, rfl, by omega, hfit, hpv, (by rw [List.length_take]; omega), (fun x hx => by have := hb x (List.mem_of_mem_take hx); omega), by omega, hpre, after_at hA er, fun t ht => ?_⟩
    obtain ⟨e2, he2⟩ : ∃ e2, e2 = n0 + (ents [] (rs.take j)).length + (ent ((rs.take j).getLastD []) r).length := ⟨_, rfl⟩
    rw [← he2]
    have s3' := same_new (o := HO.tup [V.str (rowS r), V.int ((e2 : Nat) : Int)]) ht
    have hp3 := s3' _ _ hpv
    have b0 : atI [V.str (rowS r), V.int ((e2 : Nat) : Int)] 0 = some (.str (rowS r)) := atI_nat (j := 0) rfl
    have b1 : atI [V.str (rowS r), V.int ((e2 : Nat) : Int)] 1 = some (.int ((e2 : Nat) : Int)) := atI_nat (j := 1) rfl
    have hpt2 : t ≠ p := fun e => by rw [e, hpv] at ht; cases ht
    refine ⟨_, rfl, .inl ⟨rfl, _, SqL.of hp3⟩, _, rfl, .inl (.inr ⟨_, _, _, _, rfl, rfl, SqT.of upd_same, b0, ?_⟩)⟩
    refine ⟨_, _, _, rfl, rfl, hp3, (by rw [RL_len, List.length_take]; exact Nat.lt_of_lt_of_le (show min j rs.length < 100000 by omega) (small5 (Nat.le_refl _))), ?_⟩
    refine ⟨_, rfl, .inl (.inr ⟨_, _, _, _, rfl, rfl, SqT.of (by rw [upd_ne hpt2]; exact upd_same), b1, ?_⟩)⟩
    have etk : RL (rs.take j) ++ [V.str (rowS r)] = RL (rs.take (j + 1)) := by rw [List.take_add_one, er, RL_app]; rfl
    have elen : e2 = n0 + (ents [] (rs.take (j + 1))).length := by
      have e := congrArg List.length (page_step er)
      rw [List.length_append, List.length_append, List.length_append] at e
      omega
    rw [etk]
    exact ⟨rs.length - (j + 1), by omega, j + 1, _, by omega, rfl, (by rw [← elen]; rfl), same_updr (hs.trans s3') hpH, (by rw [upd_ne (Ne.symm hpt)]; exact s3' _ _ h0), upd_same⟩
  · have ej : j = rs.length := by omega
    subst ej
    have elen : n0 + (ents [] (rs.take rs.length)).length = (page rs).length := by rw [List.take_length]; unfold page; rw [List.length_append, hn0]
    rw [elen]
    refine ⟨_, rfl, _, rfl, _, _, rfl, ⟨hL, rfl⟩, .inl ⟨_, _, rfl, rfl, _, rfl, iteN (by rw [rowS_length]; omega) ?_⟩⟩
    rw [List.take_length] at hpv
    exact ⟨_, rfl, _, .new hpH hs hpv trivial, q p hpH⟩
theorem ok_rows_of {f : Addr} {fd : FuncData} (nb : NB mg) (F : FunAt K mg "rows_of" s_rows_of ["page"] f fd) (D_read_rows : DefOk P w K mg base 6 "read_rows" ["page"] spRowsOf) : DefOk P w K mg base 7 "rows_of" ["page"] spRowsOf := by
  refine F.ok sc_rows_of (fun vs H Q E h => ?_) (fun cdv A outer s H vs Q E hr h => ?_)
  · obtain ⟨rs, rfl, _⟩ := h; rfl
  obtain ⟨rs, rfl, hA, hn, hb, q⟩ := h
  refine ⟨_, (pss_one (ps_tryQ (fun _ => (pss_one (ps_ret (pe_callD D_read_rows hr (pa_cons (pv 0) pa_nil))))))), ?_⟩
  exact ⟨_, rfl, rs, rfl, hA, hn, hb, fun p hp => ⟨_, .new hp (same_new hp) upd_same trivial, q p hp⟩⟩

/-! ### a row's place in a page -/
theorem inV_rows (x : List Bool) (rs : List (List Bool)) : inV (.str (rowS x)) (RL rs) = decide (x ∈ rs) := by
  unfold inV
  induction rs with
  | nil => rfl
  | cons r rs ih =>
    show ((rowS r == rowS x) || (RL rs).any fun y => eqV y (.str (rowS x))) = decide (x ∈ r :: rs)
    rw [ih]
    by_cases h : x = r
    · subst h; simp
    · have : (rowS r == rowS x) = false := beq_false_of_ne fun z => h (rowS_inj z).symm
      rw [this]; simp [h]
theorem flat_rows (rs : List (List Bool)) : (RL rs).all flatV = true := by
  rw [List.all_eq_true]
  intro v hv
  obtain ⟨r, _, rfl⟩ := List.mem_map.mp hv
  rfl
def cntLt (x : List Bool) (rs : List (List Bool)) : Nat := (rs.filter fun y => decide (Lt y x)).length
/-! ### a row more, a row less -/
theorem app_nodup {rs : List (List Bool)} {x : List Bool} (h : Asc rs) (hx : x ∉ rs) : (rs ++ [x]).Nodup := by
  have p : (rs ++ [x]).Perm (x :: rs) := List.perm_append_comm
  exact p.nodup_iff.mpr (List.nodup_cons.mpr ⟨hx, asc_nodup h⟩)
theorem sort_ins {rs ss : List (List Bool)} {x : List Bool} (h : Asc rs) (hx : x ∉ rs) (hs : Asc ss) (hp : ss.Perm (rs ++ [x])) : ss = insR x rs :=
  asc_eq hs (insR_asc h hx) (hp.trans (List.perm_append_comm.trans (insR_perm x rs).symm))
def lessR (x : List Bool) (rs : List (List Bool)) : List (List Bool) := rs.filter fun y => decide (y ≠ x)
def keepNe (x : List Bool) : V → Bool := fun v => !decide (v = .str (rowS x))
theorem less_RL (x : List Bool) (rs : List (List Bool)) : List.map id (List.filter (keepNe x) (RL rs)) = RL (lessR x rs) := by
  rw [List.map_id, List.filter_map]
  unfold lessR
  congr 1
  apply List.filter_congr
  intro y _
  show (!decide (V.str (rowS y) = V.str (rowS x))) = decide (y ≠ x)
  rw [rowS_dec]
  by_cases h : y = x <;> simp [h]
theorem less_len {x : List Bool} {rs : List (List Bool)} : (lessR x rs).length ≤ rs.length := List.length_filter_le ..
theorem less_mem {x y : List Bool} {rs : List (List Bool)} (h : y ∈ lessR x rs) : y ∈ rs := (List.mem_filter.mp h).1
theorem cnt_cons_lt {x a : List Bool} {r : List (List Bool)} (h : Lt a x) : cntLt x (a :: r) = cntLt x r + 1 := by
  unfold cntLt
  rw [List.filter_cons_of_pos (p := fun y => decide (Lt y x)) (decide_eq_true h)]; rfl
theorem cnt_none {x : List Bool} {r : List (List Bool)} (h : ∀ y ∈ r, ¬ Lt y x) : cntLt x r = 0 := by
  unfold cntLt
  rw [List.filter_eq_nil_iff.mpr fun y hy => by simpa using h y hy]; rfl
theorem cnt_head {x a : List Bool} {r : List (List Bool)} (hA : Asc (a :: r)) (h : ¬ Lt a x) : cntLt x (a :: r) = 0 := cnt_none fun y hy z => by
  rcases List.mem_cons.mp hy with e | e
  · exact h (e ▸ z)
  · exact h (lt_tr (asc_all hA y e) z)
theorem erase_cnt {x : List Bool} : ∀ {rs : List (List Bool)}, Asc rs → x ∈ rs → rs[cntLt x rs]? = some x ∧ rs.eraseIdx (cntLt x rs) = lessR x rs
  | [], _, h => nomatch h
  | a :: r, hA, h => by
    by_cases hl : Lt a x
    · have hx : x ∈ r := by
        rcases List.mem_cons.mp h with e | e
        · exact absurd (e ▸ hl) (lt_irr _)
        · exact e
      obtain ⟨h1, h2⟩ := erase_cnt (asc_tail hA) hx
      rw [cnt_cons_lt hl]
      refine ⟨h1, ?_⟩
      show a :: r.eraseIdx (cntLt x r) = lessR x (a :: r)
      rw [h2]
      unfold lessR
      rw [List.filter_cons_of_pos (p := fun y => decide (y ≠ x)) (by simpa using fun e : a = x => lt_irr x (e ▸ hl))]
    · have hx : x = a := by
        rcases List.mem_cons.mp h with e | e
        · exact e
        · exact absurd (asc_all hA x e) hl
      subst hx
      rw [cnt_head hA hl]
      refine ⟨rfl, ?_⟩
      show r = lessR x (x :: r)
      unfold lessR
      rw [List.filter_cons_of_neg (by simp)]
      exact (List.filter_eq_self.mpr fun y hy => by simpa using fun e : y = x => lt_irr x (by have := asc_all hA y hy; rw [e] at this; exact this)).symm
theorem cnt_first {x : List Bool} {rs : List (List Bool)} (hA : Asc rs) (hx : x ∈ rs) : ∀ j, j < cntLt x rs → rs[j]? ≠ some x := fun j hj e => by
  obtain ⟨h1, _⟩ := erase_cnt hA hx
  have hl := (List.getElem?_eq_some_iff.mp h1).1
  have pw := asc_pw.mp hA
  have e1 := (List.getElem?_eq_some_iff.mp e)
  have e2 := (List.getElem?_eq_some_iff.mp h1)
  have := List.pairwise_iff_getElem.mp pw j (cntLt x rs) e1.1 hl hj
  rw [e1.2, e2.2] at this
  exact lt_irr x this

/-! ### the forms Whole and Turned, as a shelf asks them -/
instance decWhole (n : Int) : Decidable (WholeIn n) := inferInstanceAs (Decidable (_ ∧ _))
def spHasWhole : Sp := fun vs H Q _ => ∃ n : Int, vs = [.int n] ∧ Q (.bl (decide (WholeIn n))) H
theorem ok_has_whole_row {f : Addr} {fd : FuncData} (F : FunAt K mg "has_whole_row" s_has_whole_row ["n"] f fd) (D_is_count : DefOk P w K mg base 1 "is_count" ["n"] spIsCount) : DefOk P w K mg base 2 "has_whole_row" ["n"] spHasWhole := by
  refine F.ok sc_has_whole_row (fun vs H Q E h => ?_) (fun cdv A outer s H vs Q E hr h => ?_)
  · obtain ⟨n, rfl, _⟩ := h; rfl
  obtain ⟨n, rfl, q⟩ := h
  refine ⟨_, (pss_one (ps_ret (pe_callD D_is_count hr (pa_cons (pe_ifExp (pt_cmpR oGe (pv 0) pe_int (nomark _)) (pv 0) (pe_op oSub (pe_un un_neg pe_int) (pv 0))) pa_nil)))), ?_⟩
  refine ⟨_, rfl, _, _, rfl, rfl, _, rfl, ?_⟩
  refine iteD (fun c => ?_) (fun c => ?_)
  · refine ⟨_, rfl, _, rfl, H, .refl (Same.refl _), ?_⟩
    have e : decide (CountIn n) = decide (WholeIn n) := decide_eq_decide.mpr (by unfold CountIn WholeIn; omega)
    rw [e]; exact q
  · refine ⟨_, rfl, _, rfl, _, _, rfl, rfl, _, rfl, H, .refl (Same.refl _), ?_⟩
    have e : decide (CountIn (-1 - n)) = decide (WholeIn n) := decide_eq_decide.mpr (by unfold CountIn WholeIn; omega)
    rw [e]; exact q
theorem ok_is_number {f : Addr} {fd : FuncData} (nb : NB mg) (F : FunAt K mg "is_number" s_is_number ["value"] f fd) : DefOk P w K mg base 1 "is_number" ["value"] spWhole := by
  refine F.ok sc_is_number (fun vs H Q E h => ?_) (fun cdv A outer s H vs Q E hr h => ?_)
  · obtain ⟨i, rfl, _⟩ := h; rfl
  obtain ⟨i, rfl, q⟩ := h
  refine ⟨_, (pss_one (ps_ret (pe_and (pe_callB call_isinstA rfl nb.isinstance_ bo_isinstance (pa_cons (pv 0) (pa_cons (pe_bltn (v := .ty "int") rfl nb.int_ bo_int rfl) pa_nil))) (pe_one (pe_notA (pe_callB call_isinstA rfl nb.isinstance_ bo_isinstance (pa_cons (pv 0) (pa_cons (pe_bltn (v := .ty "bool") rfl nb.bool_ bo_bool rfl) pa_nil)))))))), ?_⟩
  refine ⟨_, rfl, .inl ⟨_, _, _, true, rfl, .int i, kit_same .., _, rfl, ?_⟩⟩
  refine iteT ⟨_, rfl, .inl ⟨_, _, _, false, rfl, .int i, kit_int_bool .., _, rfl, H, .refl (Same.refl _), q⟩⟩
/-- what is known of a form's object -/
abbrev FP := Hp → Addr → Prop
def spFits (F : FP) : Sp := fun vs H Q _ => ∃ (fm : Addr) (v : Int), vs = [.ref fm, .int v] ∧ F H fm ∧ WholeIn v ∧ Q (.bl true) H
def spWrit (F : FP) (g : Int → List Bool) : Sp := fun vs H Q _ => ∃ (fm : Addr) (v : Int), vs = [.ref fm, .int v] ∧ F H fm ∧ WholeIn v ∧ Q (.str (rowS (g v))) H
def isW (CW : Addr) : FP := fun H fm => ∃ dx, H fm = some (.ins CW dx [])
def isT (CT CW : Addr) : FP := fun H fm => ∃ dx wa, H fm = some (.ins CT dx [("inner", .ref wa)]) ∧ isW CW H wa
def trow (v : Int) : List Bool := (whl v).map (!·)
theorem ok_Whole_fits {f CW : Addr} {fd : FuncData} (F : Fun K "fits" "Whole.fits" s_Whole_fits f fd) (D_is_number : DefOk P w K mg base 1 "is_number" ["value"] spWhole) (D_has_whole_row : DefOk P w K mg base 2 "has_whole_row" ["n"] spHasWhole) : FnOk P w K mg base CX0 3 f fd ["self", "value"] (spFits (isW CW)) := by
  refine F.okK sc_Whole_fits (fun vs H Q E h => ?_) (fun cdv A outer s H vs Q E hr h => ?_)
  · obtain ⟨_, _, rfl, _⟩ := h; rfl
  obtain ⟨fm, v, rfl, hF, hv, q⟩ := h
  refine ⟨_, (pss_one (ps_ret (pe_and (pe_callD D_is_number hr (pa_cons (pv 1) pa_nil)) (pe_one (pe_callD D_has_whole_row hr (pa_cons (pv 1) pa_nil)))))), ?_⟩
  refine ⟨_, rfl, v, rfl, true, rfl, iteT ⟨_, rfl, v, rfl, H, .refl (Same.refl _), ?_⟩⟩
  rw [decide_eq_true hv]; exact q
theorem ok_Whole_written {f CW : Addr} {fd : FuncData} (F : Fun K "written" "Whole.written" s_Whole_written f fd) (D_whole_row : DefOk P w K mg base 3 "whole_row" ["n"] spWholeRow) : FnOk P w K mg base CX0 4 f fd ["self", "value"] (spWrit (isW CW) whl) := by
  refine F.okK sc_Whole_written (fun vs H Q E h => ?_) (fun cdv A outer s H vs Q E hr h => ?_)
  · obtain ⟨_, _, rfl, _⟩ := h; rfl
  obtain ⟨fm, v, rfl, hF, hv, q⟩ := h
  refine ⟨_, (pss_one (ps_ret (pe_callD D_whole_row hr (pa_cons (pv 1) pa_nil)))), ?_⟩
  exact ⟨_, rfl, v, rfl, hv, H, .refl (Same.refl _), q⟩
structure TurCls (K : PySem.W.Frag) (C : Addr) : Prop where
  cl : Cls K C
  nI : NoAttr K C "inner"
theorem look_inner (w : V) : ([("inner", w)] : List (Str × V)).lookup ("inner" : Str) = some w := by simp [List.lookup]
theorem look_turm (w : V) {m : Str} (h : (m == ("inner" : Str)) = false := by decide +kernel) : ([("inner", w)] : List (Str × V)).lookup m = none := by simp [List.lookup, h]
def spTurInit (C : Addr) : Sp := fun vs H Q _ => ∃ p dx w, vs = [.ref p, .ref w] ∧ H p = some (.ins C dx []) ∧ Q .non (upd H p (.ins C dx [("inner", .ref w)]))
theorem ok_tur_init {f C : Addr} {fd : FuncData} (T : TurCls K C) (F : Fun K "__init__" "Turned.__init__" s_Turned_init f fd) : FnOk P w K mg base CX0 1 f fd ["self", "inner"] (spTurInit C) := by
  refine F.ok sc_Turned_init (fun vs H Q E h => ?_) (fun cdv A outer s H vs Q E hr h => ?_)
  · obtain ⟨p, dx, w, rfl, _⟩ := h; rfl
  obtain ⟨p, dx, w, rfl, hp, q⟩ := h
  refine ⟨_, (pss_one (ps_fld (pv 0) (pv 1) rfl)), ?_⟩
  exact ⟨_, rfl, _, rfl, p, C, dx, _, rfl, hp, T.cl, T.nI, (by show 0 < 1000; decide), q⟩
theorem ok_Turned_fits {f CT CW : Addr} {fd : FuncData} (T : TurCls K CT) (c_C : Cls K CW) (F : Fun K "fits" "Turned.fits" s_Turned_fits f fd) (M_fits : MethOk P w K mg base 3 CW "fits" ["self", "value"] (spFits (isW CW))) : FnOk P w K mg base CX0 4 f fd ["self", "value"] (spFits (isT CT CW)) := by
  refine F.okK sc_Turned_fits (fun vs H Q E h => ?_) (fun cdv A outer s H vs Q E hr h => ?_)
  · obtain ⟨_, _, rfl, _⟩ := h; rfl
  obtain ⟨fm, v, rfl, ⟨dx, wa, hF, dw, hW⟩, hv, q⟩ := h
  refine ⟨_, (pss_one (ps_ret (pe_methD M_fits c_C hr (pe_fld (pv 0) rfl) (pa_cons (pv 1) pa_nil)))), ?_⟩
  exact ⟨_, rfl, fm, CT, dx, _, _, rfl, hF, T.cl, T.nI, look_inner _, wa, dw, _, rfl, hW, rfl, _, rfl, wa, v, rfl, ⟨dw, hW⟩, hv, H, .refl (Same.refl _), q⟩
theorem ok_Turned_written {f CT CW : Addr} {fd : FuncData} (T : TurCls K CT) (c_C : Cls K CW) (F : Fun K "written" "Turned.written" s_Turned_written f fd) (M_written : MethOk P w K mg base 4 CW "written" ["self", "value"] (spWrit (isW CW) whl)) (D_turned_row : DefOk P w K mg base 1 "turned_row" ["row"] spTurnedRow) : FnOk P w K mg base CX0 5 f fd ["self", "value"] (spWrit (isT CT CW) trow) := by
  refine F.okK sc_Turned_written (fun vs H Q E h => ?_) (fun cdv A outer s H vs Q E hr h => ?_)
  · obtain ⟨_, _, rfl, _⟩ := h; rfl
  obtain ⟨fm, v, rfl, ⟨dx, wa, hF, dw, hW⟩, hv, q⟩ := h
  refine ⟨_, (pss_one (ps_ret (pe_callD D_turned_row hr (pa_cons (pe_methD M_written c_C hr (pe_fld (pv 0) rfl) (pa_cons (pv 1) pa_nil)) pa_nil)))), ?_⟩
  have hwl := whl_length hv.1 hv.2
  exact ⟨_, rfl, fm, CT, dx, _, _, rfl, hF, T.cl, T.nI, look_inner _, wa, dw, _, rfl, hW, rfl, _, rfl, wa, v, rfl, ⟨dw, hW⟩, hv, whl v, rfl, by omega, H, .refl (Same.refl _), q⟩
theorem ok_Form_row {f C : Addr} {fd : FuncData} {G : FP} {g : Int → List Bool} (c_C : Cls K C) (hG : ∀ H fm, G H fm → ∃ dx fs, H fm = some (.ins C dx fs) ∧ fs.lookup ("fits" : Str) = none ∧ fs.lookup ("written" : Str) = none) (F : Fun K "row" "Form.row" s_Form_row f fd) (M_fits : MethOk P w K mg base 4 C "fits" ["self", "value"] (spFits G)) (M_written : MethOk P w K mg base 5 C "written" ["self", "value"] (spWrit G g)) : FnOk P w K mg base CX0 6 f fd ["self", "value"] (spWrit G g) := by
  refine F.okK sc_Form_row (fun vs H Q E h => ?_) (fun cdv A outer s H vs Q E hr h => ?_)
  · obtain ⟨_, _, rfl, _⟩ := h; rfl
  obtain ⟨fm, v, rfl, hF, hv, q⟩ := h
  obtain ⟨dx, fs, e1, e2, e3⟩ := hG H fm hF
  refine ⟨_, (pss_cons (ps_if (pt_not (pt_truth (pe_methD M_fits c_C hr (pv 0) (pa_cons (pv 1) pa_nil)) (fun _ => rfl))) (pss_one ps_never) pss_nil)
    (pss_one (ps_ret (pe_methD M_written c_C hr (pv 0) (pa_cons (pv 1) pa_nil))))), ?_⟩
  refine ⟨_, rfl, fm, dx, fs, rfl, e1, e2, _, rfl, fm, v, rfl, hF, hv, true, rfl, iteF ?_⟩
  exact ⟨_, rfl, fm, dx, fs, rfl, e1, e3, _, rfl, fm, v, rfl, hF, hv, H, .refl (Same.refl _), q⟩

/-! ### the shelf -/
def shF (fm : Addr) (m : Int) (l : Addr) : List (Str × V) := [("form", .ref fm), ("room", .int m), ("rows", .ref l)]
structure ShCls (K : PySem.W.Frag) (C : Addr) : Prop where
  cl : Cls K C
  nF : NoAttr K C "form"
  nM : NoAttr K C "room"
  nR : NoAttr K C "rows"
theorem sh01 : ¬ (("form" : Str) = "room") := by decide +kernel
theorem sh02 : ¬ (("form" : Str) = "rows") := by decide +kernel
theorem sh12 : ¬ (("room" : Str) = "rows") := by decide +kernel
theorem sg10 : (("room" : Str) == "form") = false := by decide +kernel
theorem sg20 : (("rows" : Str) == "form") = false := by decide +kernel
theorem sg21 : (("rows" : Str) == "room") = false := by decide +kernel
theorem sput0 (fm : V) : putF "form" fm [] = ([("form", fm)] : List (Str × V)) := rfl
theorem sput1 (fm m : V) : putF "room" m ([("form", fm)] : List (Str × V)) = ([("form", fm), ("room", m)] : List (Str × V)) := by simp only [putF, sh01, if_false]
theorem sput2 (fm m l : V) : putF "rows" l ([("form", fm), ("room", m)] : List (Str × V)) = ([("form", fm), ("room", m), ("rows", l)] : List (Str × V)) := by simp only [putF, sh02, sh12, if_false]
theorem sput3 (fm : Addr) (m : Int) (l l' : Addr) : putF "rows" (.ref l') (shF fm m l) = shF fm m l' := by simp only [shF, putF, sh02, sh12, if_false, if_true]
theorem slook0 (fm : Addr) (m : Int) (l : Addr) : (shF fm m l).lookup ("form" : Str) = some (.ref fm) := by simp [shF]
theorem slook1 (fm : Addr) (m : Int) (l : Addr) : (shF fm m l).lookup ("room" : Str) = some (.int m) := by simp [shF, List.lookup, sg10]
theorem slook2 (fm : Addr) (m : Int) (l : Addr) : (shF fm m l).lookup ("rows" : Str) = some (.ref l) := by simp [shF, List.lookup, sg20, sg21]
theorem slookm (fm : Addr) (m : Int) (l : Addr) {x : Str} (h1 : (x == ("form" : Str)) = false := by decide +kernel) (h2 : (x == ("room" : Str)) = false := by decide +kernel) (h3 : (x == ("rows" : Str)) = false := by decide +kernel) : (shF fm m l).lookup x = none := by simp [shF, List.lookup, h1, h2, h3]
def spShInit (C : Addr) : Sp := fun vs H Q _ => ∃ (p dx fm : Addr) (m : Int), vs = [.ref p, .ref fm, .int m] ∧ H p = some (.ins C dx []) ∧ 2 ≤ m ∧ m ≤ 20 ∧ ∀ l, H l = none → Q .non (upd (upd H p (.ins C dx (shF fm m l))) l (.lst []))
theorem ok_sh_init {f C : Addr} {fd : FuncData} (g_LEAST_ROOM : GlobV mg "LEAST_ROOM" (.int 2)) (g_MOST_ROOM : GlobV mg "MOST_ROOM" (.int 20)) (T : ShCls K C) (F : Fun K "__init__" "Shelf.__init__" s_Shelf_init f fd) : FnOk P w K mg base CX0 1 f fd ["self", "form", "room"] (spShInit C) := by
  refine F.okK sc_Shelf_init (fun vs H Q E h => ?_) (fun cdv A outer s H vs Q E hr h => ?_)
  · obtain ⟨_, _, _, _, rfl, _⟩ := h; rfl
  obtain ⟨p, dx, fm, m, rfl, hp, h2, h20, q⟩ := h
  refine ⟨_, (pss_cons (ps_if (PW.pt (pw_or (pt_cmpR oLt (pv 2) (pe_globV g_LEAST_ROOM) (nomark _)) (pw_or1 (pt_cmpR oGt (pv 2) (pe_globV g_MOST_ROOM) (nomark _))))) (pss_one ps_never) pss_nil)
    (pss_cons (ps_fld (pv 0) (pv 1) rfl)
    (pss_cons (ps_fld (pv 0) (pv 2) rfl)
    (pss_one (ps_fld (pv 0) (pe_lst pa_nil) rfl))))), ?_⟩
  refine ⟨_, rfl, .inl ⟨_, _, rfl, rfl, _, rfl, iteN (by omega) ⟨_, rfl, _, _, rfl, rfl, _, rfl, iteN (by omega) ?_⟩⟩⟩
  refine ⟨_, rfl, _, rfl, p, C, dx, _, rfl, hp, T.cl, T.nF, (by show 0 < 1000; decide), ?_⟩
  rw [sput0]
  refine ⟨_, rfl, _, rfl, p, C, dx, _, rfl, upd_same, T.cl, T.nM, (by show 1 < 1000; decide), ?_⟩
  rw [sput1, upd_upd']
  refine ⟨Nat.zero_le _, fun l hl => ?_⟩
  have hlp : l ≠ p := fun z => by rw [z, upd_same] at hl; cases hl
  have hl0 : H l = none := by rw [upd_ne hlp] at hl; exact hl
  refine ⟨_, rfl, p, C, dx, _, rfl, (by rw [upd_ne (Ne.symm hlp)]; exact upd_same), T.cl, T.nR, (by show 2 < 1000; decide), ?_⟩
  rw [sput2]
  refine ⟨_, Sub.insNew (o := HO.lst []) hp hl0 (fun b u hb e => ?_) upd_same (by rw [upd_ne hlp]; exact upd_same) trivial, q l hl0⟩
  rw [upd_ne hb, upd_ne (ne_of_none e hl0), upd_ne hb]
  exact e
def ShAt (H : Hp) (s C dx fm : Addr) (m : Int) (l : Addr) (rs : List (List Bool)) : Prop := H s = some (.ins C dx (shF fm m l)) ∧ H l = some (.lst (RL rs))
structure Rws (rs : List (List Bool)) : Prop where
  a : Asc rs
  n : rs.length ≤ 62
  b : ∀ r ∈ rs, r.length ≤ 300
def spPut (C : Addr) (G : FP) (g : Int → List Bool) : Sp := fun vs H Q _ => ∃ (s dx fm l : Addr) (m v : Int) (rs : List (List Bool)), vs = [.ref s, .int v] ∧ ShAt H s C dx fm m l rs ∧ G H fm ∧ WholeIn v ∧ Rws rs ∧
  (g v ∈ rs → Q (.bl false) H) ∧ (g v ∉ rs → ∀ l', H l' = none → Q (.bl true) (upd (upd H s (.ins C dx (shF fm m l'))) l' (.lst (RL (insR (g v) rs)))))
def spTake (C : Addr) (G : FP) (g : Int → List Bool) : Sp := fun vs H Q _ => ∃ (s dx fm l : Addr) (m v : Int) (rs : List (List Bool)), vs = [.ref s, .int v] ∧ ShAt H s C dx fm m l rs ∧ G H fm ∧ WholeIn v ∧ Rws rs ∧
  (g v ∉ rs → Q (.bl false) H) ∧ (g v ∈ rs → Q (.bl true) (upd H l (.lst (RL (lessR (g v) rs)))))
theorem own_lst {H : Hp} {l a : Addr} {xs ys : List V} {o : HO} (h : H l = some (.lst xs)) (x : OwnIn H a o) : OwnIn (upd H l (.lst ys)) a o := by
  induction o with
  | ins C dx fs =>
    have x' : H dx = some (.own a) := x
    show upd H l (.lst ys) dx = some (.own a)
    rw [upd_ne fun z => by rw [z, h] at x'; cases x']
    exact x'
  | frz ob u ih => exact ih x
  | _ => trivial
theorem sub_lst {H : Hp} {l : Addr} {xs ys : List V} (h : H l = some (.lst xs)) : L2.Sub H (upd H l (.lst ys)) (upd H l (.lst ys)) := by
  refine .all (fun b o e => ?_) fun c a u e => ?_
  · by_cases z : b = l
    · subst z; exact ⟨_, upd_same⟩
    · exact ⟨o, by rw [upd_ne z]; exact e⟩
  · by_cases z : a = l
    · subst z; rw [upd_same] at e; cases e; trivial
    · rw [upd_ne z] at e
      exact own_lst h (c a u e)
theorem ok_put {f C CF : Addr} {fd : FuncData} {G : FP} {g : Int → List Bool} (nb : NB mg) (T : ShCls K C) (c_C : Cls K CF) (hG : ∀ H fm, G H fm → ∃ dx fs, H fm = some (.ins CF dx fs) ∧ fs.lookup ("row" : Str) = none) (F : Fun K "put" "Shelf.put" s_Shelf_put f fd) (M_row : MethOk P w K mg base 6 CF "row" ["self", "value"] (spWrit G g)) : FnOk P w K mg base CX0 7 f fd ["self", "value"] (spPut C G g) := by
  refine F.okK sc_Shelf_put (fun vs H Q E h => ?_) (fun cdv A outer s H vs Q E hr h => ?_)
  · obtain ⟨_, _, _, _, _, _, _, rfl, _⟩ := h; rfl
  obtain ⟨p, dx, fm, l, m, v, rs, rfl, ⟨hp, hl⟩, hF, hv, R, q1, q2⟩ := h
  obtain ⟨dxf, fs, e1, e2⟩ := hG H fm hF
  have hn := R.n
  refine ⟨_, (pss_cons (ps_set (i := 2) sc_Shelf_put.nd rfl (by first | exact Or.inl rfl | exact Or.inr rfl) (pe_methD M_row c_C hr (pe_fld (pv 0) rfl) (pa_cons (pv 1) pa_nil)))
    (pss_cons (ps_if (pt_cmpR op_in_seq (pv 2) (pe_fld (pv 0) rfl) (by with_unfolding_all rfl)) (pss_one (ps_ret pe_bl)) pss_nil)
    (pss_cons (ps_fld (pv 0) (pe_callB call_sortedR rfl nb.sorted_ bo_sorted (pa_cons (pe_op op_cat (pe_fld (pv 0) rfl) (pe_lst (pa_cons (pv 2) pa_nil))) pa_nil)) rfl)
    (pss_one (ps_ret pe_bl))))), ?_⟩
  refine ⟨_, rfl, p, C, dx, _, _, rfl, hp, T.cl, T.nF, slook0 .., fm, dxf, fs, rfl, e1, e2, _, rfl, fm, v, rfl, hF, hv, ?_⟩
  by_cases hx : g v ∈ rs
  · refine ⟨_, rfl, _, rfl, p, C, dx, _, _, rfl, hp, T.cl, T.nR, slook2 .., l, RL rs, rfl, .inl (SqL.of hl), rfl, flat_rows rs, true, (by rw [inV_rows, decide_eq_true hx]; rfl), iteT ?_⟩
    exact ⟨H, .refl (Same.refl _), q1 hx⟩
  · refine ⟨_, rfl, _, rfl, p, C, dx, _, _, rfl, hp, T.cl, T.nR, slook2 .., l, RL rs, rfl, .inl (SqL.of hl), rfl, flat_rows rs, false, (by rw [inV_rows, decide_eq_false hx]; rfl), iteF ?_⟩
    refine ⟨_, rfl, p, C, dx, _, _, rfl, hp, T.cl, T.nR, slook2 .., _, rfl, (by show 1 ≤ sizeLine; decide), fun p2 hp2 => ?_⟩
    have sp2 := same_new (o := HO.lst [V.str (rowS (g v))]) hp2
    refine ⟨l, p2, _, _, rfl, rfl, sp2 _ _ hl, upd_same, (by rw [RL_len]; exact small5 (by show rs.length + 1 ≤ _; omega)), fun p3 hp3 => ?_⟩
    have e3 : RL rs ++ [V.str (rowS (g v))] = RL (rs ++ [g v]) := (RL_app rs [g v]).symm
    rw [e3]
    have sp3 := sp2.trans (same_new (o := HO.lst (RL (rs ++ [g v]))) hp3)
    refine ⟨p3, rs ++ [g v], rfl, SqL.of upd_same, (by rw [List.length_append]; show rs.length + 1 < 64; omega), app_nodup R.a hx, fun ss hss hperm p4 hp4 => ?_⟩
    have ess := sort_ins R.a hx hss hperm
    subst ess
    have sp4 := sp3.trans (same_new (o := HO.lst (RL (insR (g v) rs))) hp4)
    have h40 : H p4 = none := sp3.free hp4
    have n4 : p4 ≠ p := (ne_of_none hp h40).symm
    refine ⟨_, rfl, p, C, dx, _, rfl, sp4 _ _ hp, T.cl, T.nR, (by show 3 < 1000; decide), ?_⟩
    rw [sput3]
    refine ⟨_, Sub.insNew (o := HO.lst (RL (insR (g v) rs))) hp h40 (fun b u hb e => ?_) upd_same (by rw [upd_ne n4]; exact upd_same) trivial, q2 hx p4 h40⟩
    rw [upd_ne hb]
    exact sp4 b u e
theorem ok_take {f C CF : Addr} {fd : FuncData} {G : FP} {g : Int → List Bool} (nb : NB mg) (T : ShCls K C) (c_C : Cls K CF) (hG : ∀ H fm, G H fm → ∃ dx fs, H fm = some (.ins CF dx fs) ∧ fs.lookup ("row" : Str) = none) (F : Fun K "take" "Shelf.take" s_Shelf_take f fd) (M_row : MethOk P w K mg base 6 CF "row" ["self", "value"] (spWrit G g)) : FnOk P w K mg base CX0 7 f fd ["self", "value"] (spTake C G g) := by
  refine F.okK sc_Shelf_take (fun vs H Q E h => ?_) (fun cdv A outer s H vs Q E hr h => ?_)
  · obtain ⟨_, _, _, _, _, _, _, rfl, _⟩ := h; rfl
  obtain ⟨p, dx, fm, l, m, v, rs, rfl, ⟨hp, hl⟩, hF, hv, R, q1, q2⟩ := h
  obtain ⟨dxf, fs, e1, e2⟩ := hG H fm hF
  have hn := R.n
  refine ⟨_, (pss_cons (ps_set (i := 2) sc_Shelf_take.nd rfl (by first | exact Or.inl rfl | exact Or.inr rfl) (pe_methD M_row c_C hr (pe_fld (pv 0) rfl) (pa_cons (pv 1) pa_nil)))
    (pss_cons (ps_if (pt_cmpR op_notIn_seq (pv 2) (pe_fld (pv 0) rfl) (by with_unfolding_all rfl)) (pss_one (ps_ret pe_bl)) pss_nil)
    (pss_cons (ps_expr (pe_bm PySem.F.plainAttrs_list PySem.F.slot_list_remove PySem.F.type_list_remove mt_remove (pe_fld (pv 0) rfl) (pa_cons (pv 2) pa_nil)))
    (pss_one (ps_ret pe_bl))))), ?_⟩
  refine ⟨_, rfl, p, C, dx, _, _, rfl, hp, T.cl, T.nF, slook0 .., fm, dxf, fs, rfl, e1, e2, _, rfl, fm, v, rfl, hF, hv, ?_⟩
  by_cases hx : g v ∈ rs
  · refine ⟨_, rfl, _, rfl, p, C, dx, _, _, rfl, hp, T.cl, T.nR, slook2 .., l, RL rs, rfl, .inl (SqL.of hl), rfl, flat_rows rs, false, (by rw [inV_rows, decide_eq_true hx]; rfl), iteF ?_⟩
    obtain ⟨k1, k2⟩ := erase_cnt R.a hx
    have kf : ∀ j, j < cntLt (g v) rs → rs[j]? ≠ some (g v) := cnt_first R.a hx
    refine ⟨_, rfl, p, C, dx, _, _, rfl, hp, T.cl, T.nR, slook2 .., .inl ⟨rfl, _, SqL.of hl⟩, _, rfl, l, rs, g v, cntLt (g v) rs, rfl, rfl, hl, k1, kf, by omega, ?_⟩
    rw [k2]
    exact ⟨_, sub_lst hl, q2 hx⟩
  · refine ⟨_, rfl, _, rfl, p, C, dx, _, _, rfl, hp, T.cl, T.nR, slook2 .., l, RL rs, rfl, .inl (SqL.of hl), rfl, flat_rows rs, true, (by rw [inV_rows, decide_eq_false hx]; rfl), iteT ?_⟩
    exact ⟨H, .refl (Same.refl _), q1 hx⟩
/-! ### the shelf's pages and partings -/
def nch (n m : Nat) : Nat := (Builtin.Range.rangeSize 0 (n : Int) (m : Int)).toNat
def chunk (rs : List (List Bool)) (m i : Nat) : List (List Bool) := (rs.drop (i * m)).take m
def pgs (rs : List (List Bool)) (m : Nat) : List (List Bool) := (List.range (nch rs.length m)).map fun i => page (chunk rs m i)
def npt (n m : Nat) : Nat := (Builtin.Range.rangeSize (m : Int) (n : Int) (m : Int)).toNat
def prt (a b : List Bool) : List Bool := b.take (com a b + 1)
def prts (rs : List (List Bool)) (m : Nat) : List (List Bool) := (List.range (npt rs.length m)).map fun i => prt (rs.getD (m + i * m - 1) []) (rs.getD (m + i * m) [])
theorem lt_nch {n m i : Nat} (hm : 0 < m) : i < nch n m ↔ i * m < n := by
  unfold nch Builtin.Range.rangeSize
  rw [if_pos (by omega)]
  by_cases h : (0 : Int) < (n : Int)
  · rw [if_pos h]
    have e : ((n : Int) - 0 - 1) / (m : Int) = (((n - 1) / m : Nat) : Int) := by
      rw [show (n : Int) - 0 - 1 = ((n - 1 : Nat) : Int) by omega]; exact (Int.natCast_ediv _ _).symm
    rw [e]
    have this : ∀ d : Nat, ((d : Int) + 1).toNat = d + 1 := fun d => by omega
    rw [this, Nat.lt_succ_iff, Nat.le_div_iff_mul_le hm]
    omega
  · rw [if_neg h]
    have : n = 0 := by omega
    subst this
    simp
theorem lt_npt {n m i : Nat} (hm : 0 < m) : i < npt n m ↔ m + i * m < n := by
  unfold npt Builtin.Range.rangeSize
  rw [if_pos (by omega)]
  by_cases h : (m : Int) < (n : Int)
  · rw [if_pos h]
    have e : ((n : Int) - (m : Int) - 1) / (m : Int) = (((n - m - 1) / m : Nat) : Int) := by
      rw [show (n : Int) - (m : Int) - 1 = ((n - m - 1 : Nat) : Int) by omega]; exact (Int.natCast_ediv _ _).symm
    rw [e]
    have this : ∀ d : Nat, ((d : Int) + 1).toNat = d + 1 := fun d => by omega
    rw [this, Nat.lt_succ_iff, Nat.le_div_iff_mul_le hm]
    omega
  · rw [if_neg h]
    constructor
    · intro z; exact absurd z (by simp)
    · intro z; omega
theorem nch_le {n m : Nat} (hm : 0 < m) : nch n m ≤ n := by
  rcases Nat.lt_or_ge n (nch n m) with z | z
  · have := (lt_nch hm).mp z
    have h2 := Nat.le_mul_of_pos_right n hm
    omega
  · exact z
theorem npt_le {n m : Nat} (hm : 0 < m) : npt n m ≤ n := by
  rcases Nat.lt_or_ge n (npt n m) with z | z
  · have := (lt_npt hm).mp z
    have h2 := Nat.le_mul_of_pos_right n hm
    omega
  · exact z
theorem cut_chunk (rs : List (List Bool)) (m i : Nat) (h : i * m < rs.length) : cutV (RL rs) (some ((i * m : Nat) : Int)) (some (((i * m : Nat) : Int) + (m : Int))) = RL (chunk rs m i) := by
  unfold cutV chunk
  have h1 : HT.sIx (RL rs).length 0 (some ((i * m : Nat) : Int)) = i * m := by
    unfold HT.sIx
    dsimp only
    rw [if_neg (by omega), RL_len]; omega
  have h2 : HT.sIx (RL rs).length (RL rs).length (some (((i * m : Nat) : Int) + (m : Int))) = min (i * m + m) rs.length := by
    unfold HT.sIx
    dsimp only
    rw [if_neg (by omega), RL_len]; omega
  rw [h1, h2]
  unfold RL
  rw [← List.map_drop, ← List.map_take]
  congr 1
  rcases Nat.le_total (i * m + m) rs.length with z | z
  · rw [Nat.min_eq_left z, Nat.add_sub_cancel_left]
  · rw [Nat.min_eq_right z, List.take_of_length_le (by rw [List.length_drop]; exact Nat.le_refl _), List.take_of_length_le (by rw [List.length_drop]; omega)]
theorem chunk_sub (rs : List (List Bool)) (m i : Nat) : (chunk rs m i).Sublist rs := (List.take_sublist ..).trans (List.drop_sublist ..)
def spPages (C : Addr) : Sp := fun vs H Q _ => ∃ (s dx fm l : Addr) (m : Nat) (rs : List (List Bool)), vs = [.ref s] ∧ ShAt H s C dx fm ((m : Nat) : Int) l rs ∧ 2 ≤ m ∧ m ≤ 20 ∧ Rws rs ∧ ∀ D, H D = none → Q (.ref D) (upd H D (.lst (RL (pgs rs m))))
def spParts (C : Addr) : Sp := fun vs H Q _ => ∃ (s dx fm l : Addr) (m : Nat) (rs : List (List Bool)), vs = [.ref s] ∧ ShAt H s C dx fm ((m : Nat) : Int) l rs ∧ 2 ≤ m ∧ m ≤ 20 ∧ Rws rs ∧ ∀ D, H D = none → Q (.ref D) (upd H D (.lst (RL (prts rs m))))
theorem ok_pages {f C : Addr} {fd : FuncData} (nb : NB mg) (T : ShCls K C) (F : Fun K "pages" "Shelf.pages" s_Shelf_pages f fd) (D_page_of : DefOk P w K mg base 4 "page_of" ["rows"] spPageOf) : FnOk P w K mg base CX0 5 f fd ["self"] (spPages C) := by
  refine F.okK sc_Shelf_pages (fun vs H Q E h => ?_) (fun cdv A outer s H vs Q E hr h => ?_)
  · obtain ⟨_, _, _, _, _, _, rfl, _⟩ := h; rfl
  obtain ⟨p, dx, fm, l, m, rs, rfl, ⟨hp, hl⟩, h2, h20, R, q⟩ := h
  have hn := R.n
  refine ⟨_, (pss_one (ps_ret (pe_comp ["k"] [(0, "self")] rfl (by decide +kernel) ⟨rfl, .inl rfl, trivial⟩ (pi_rangeS rfl nb.range_ (pa_cons pe_int (pa_cons (pe_callB call_len rfl nb.len_ bo_len (pa_cons (pe_fld (pv 0) rfl) pa_nil)) (pa_cons (pe_fld (pv 0) rfl) pa_nil)))) (fun _ _ _ _ _ => (pg_name (i := 0) (show (["k", "self"] : List Str).Nodup by decide +kernel) rfl (by first | exact Or.inl rfl | exact Or.inr rfl))) (fun _ _ _ _ _ => pts_nil) (fun _ _ _ _ _ => (pe_callD D_page_of hr (pa_cons (pe_slice slAll (pe_fld (pv 1) rfl) (po_some (pv 0)) (po_some (pe_op oAdd (pv 0) (pe_fld (pv 1) rfl)))) pa_nil)))))), ?_⟩
  refine ⟨_, rfl, p, C, dx, _, _, rfl, hp, T.cl, T.nR, slook2 .., _, _, rfl, .inl ⟨_, SqL.of hl, rfl⟩, ?_⟩
  refine ⟨_, rfl, p, C, dx, _, _, rfl, hp, T.cl, T.nM, slook1 .., 0, _, ((m : Nat) : Int), rfl, ⟨by omega, by omega, by omega, by rw [RL_len]; omega, by omega, by omega⟩, fun D hD => ?_⟩
  have en : (Builtin.Range.rangeSize 0 (((RL rs).length : Nat) : Int) ((m : Nat) : Int)).toNat = nch rs.length m := by rw [RL_len]; rfl
  rw [en]
  have hnc := nch_le (n := rs.length) (m := m) (by omega)
  refine comp_itcI (fun i => V.str (rowS (page (chunk rs m i)))) (fun σ => ∃ z, σ = [z, some (.ref p)]) (by omega) ⟨_, rfl⟩ hD ?_ ?_
  · rintro i hi σ1 H1 ⟨z, rfl⟩ hs1 R' hR
    have him := (lt_nch (by omega)).mp hi
    have ek : (0 : Int) + ((i : Nat) : Int) * ((m : Nat) : Int) = ((i * m : Nat) : Int) := by rw [Int.zero_add]; exact (Int.natCast_mul i m).symm
    rw [ek]
    have hp1 := hs1 _ _ hp
    have hl1 := hs1 _ _ hl
    refine ⟨_, rfl, p, C, dx, _, _, rfl, hp1, T.cl, T.nR, slook2 .., _, rfl, _, rfl, _, rfl, _, rfl, p, C, dx, _, _, rfl, hp1, T.cl, T.nM, slook1 .., .inl ⟨_, _, rfl, rfl, ?_⟩⟩
    refine ⟨_, rfl, .inl ⟨l, _, rfl, SqL.of hl1, fun p2 hp2 => ?_⟩⟩
    rw [cut_chunk rs m i him]
    have sub := chunk_sub rs m i
    have hcl := sub.length_le
    refine ⟨p2, chunk rs m i, rfl, upd_same, by omega, (fun r hr => R.b r (sub.subset hr)), asc_pw.mpr ((asc_pw.mp R.a).sublist sub), ?_⟩
    exact hR _ _ ⟨_, rfl⟩ (same_new hp2)
  · intro H' hs' hD'
    have e : (List.range (nch rs.length m)).map (fun i => V.str (rowS (page (chunk rs m i)))) = RL (pgs rs m) := by unfold RL pgs; rw [List.map_map]; rfl
    rw [e] at hD'
    exact ⟨_, .new hD hs' hD' trivial, q D hD⟩
theorem ok_partings {f C : Addr} {fd : FuncData} (nb : NB mg) (T : ShCls K C) (F : Fun K "partings" "Shelf.partings" s_Shelf_partings f fd) (D_parting_of : DefOk P w K mg base 3 "parting_of" ["one", "other"] spPart) : FnOk P w K mg base CX0 4 f fd ["self"] (spParts C) := by
  refine F.okK sc_Shelf_partings (fun vs H Q E h => ?_) (fun cdv A outer s H vs Q E hr h => ?_)
  · obtain ⟨_, _, _, _, _, _, rfl, _⟩ := h; rfl
  obtain ⟨p, dx, fm, l, m, rs, rfl, ⟨hp, hl⟩, h2, h20, R, q⟩ := h
  have hn := R.n
  refine ⟨_, (pss_one (ps_ret (pe_comp ["k"] [(0, "self")] rfl (by decide +kernel) ⟨rfl, .inl rfl, trivial⟩ (pi_rangeS rfl nb.range_ (pa_cons (pe_fld (pv 0) rfl) (pa_cons (pe_callB call_len rfl nb.len_ bo_len (pa_cons (pe_fld (pv 0) rfl) pa_nil)) (pa_cons (pe_fld (pv 0) rfl) pa_nil)))) (fun _ _ _ _ _ => (pg_name (i := 0) (show (["k", "self"] : List Str).Nodup by decide +kernel) rfl (by first | exact Or.inl rfl | exact Or.inr rfl))) (fun _ _ _ _ _ => pts_nil) (fun _ _ _ _ _ => (pe_callD D_parting_of hr (pa_cons (pe_ix iAll (pe_fld (pv 1) rfl) (pe_op oSub (pv 0) pe_int) (fun _ _ => rfl)) (pa_cons (pe_ix iAll (pe_fld (pv 1) rfl) (pv 0) (fun _ _ => rfl)) pa_nil))))))), ?_⟩
  refine ⟨_, rfl, p, C, dx, _, _, rfl, hp, T.cl, T.nM, slook1 .., _, rfl, p, C, dx, _, _, rfl, hp, T.cl, T.nR, slook2 .., _, _, rfl, .inl ⟨_, SqL.of hl, rfl⟩, ?_⟩
  refine ⟨_, rfl, p, C, dx, _, _, rfl, hp, T.cl, T.nM, slook1 .., ((m : Nat) : Int), _, ((m : Nat) : Int), rfl, ⟨by omega, by omega, by omega, by rw [RL_len]; omega, by omega, by omega⟩, fun D hD => ?_⟩
  have en : (Builtin.Range.rangeSize ((m : Nat) : Int) (((RL rs).length : Nat) : Int) ((m : Nat) : Int)).toNat = npt rs.length m := by rw [RL_len]; rfl
  rw [en]
  have hnc := npt_le (n := rs.length) (m := m) (by omega)
  refine comp_itcI (fun i => V.str (rowS (prt (rs.getD (m + i * m - 1) []) (rs.getD (m + i * m) [])))) (fun σ => ∃ z, σ = [z, some (.ref p)]) (by omega) ⟨_, rfl⟩ hD ?_ ?_
  · rintro i hi σ1 H1 ⟨z, rfl⟩ hs1 R' hR
    have him := (lt_npt (by omega)).mp hi
    have ek : ((m : Nat) : Int) + ((i : Nat) : Int) * ((m : Nat) : Int) = ((m + i * m : Nat) : Int) := by rw [Int.natCast_add, Int.natCast_mul]
    rw [ek]
    have hp1 := hs1 _ _ hp
    have hl1 := hs1 _ _ hl
    generalize hk : m + i * m = k at him hR ⊢
    have hk0 : 0 < k := by omega
    have hat1 := atI_nat (xs := RL rs) (j := k - 1) (RL_at (List.getElem?_eq_getElem (show k - 1 < rs.length by omega)))
    have hat2 := atI_nat (xs := RL rs) (j := k) (RL_at (List.getElem?_eq_getElem him))
    have g1 : rs.getD (k - 1) [] = rs[k - 1] := by simp [List.getD, List.getElem?_eq_getElem (show k - 1 < rs.length by omega)]
    have g2 : rs.getD k [] = rs[k] := by simp [List.getD, List.getElem?_eq_getElem him]
    rw [g1, g2] at hR
    have eki : ((k : Nat) : Int) - 1 = ((k - 1 : Nat) : Int) := by omega
    have b1 := R.b _ (List.getElem_mem (show k - 1 < rs.length by omega))
    have b2 := R.b _ (List.getElem_mem him)
    have lt := List.pairwise_iff_getElem.mp (asc_pw.mp R.a) (k - 1) k (by omega) him (by omega)
    refine ⟨_, rfl, p, C, dx, _, _, rfl, hp1, T.cl, T.nR, slook2 .., _, rfl, _, _, rfl, rfl, .inl (.inl ⟨_, _, _, _, rfl, rfl, SqL.of hl1, (by rw [eki]; exact hat1), ?_⟩)⟩
    refine ⟨_, rfl, p, C, dx, _, _, rfl, hp1, T.cl, T.nR, slook2 .., _, rfl, .inl (.inl ⟨_, _, _, _, rfl, rfl, SqL.of hl1, hat2, rs[k - 1], rs[k], rfl, by omega, by omega, lt, ?_⟩)⟩
    exact hR _ _ ⟨_, rfl⟩ (Same.refl _)
  · intro H' hs' hD'
    have e : (List.range (npt rs.length m)).map (fun i => V.str (rowS (prt (rs.getD (m + i * m - 1) []) (rs.getD (m + i * m) [])))) = RL (prts rs m) := by unfold RL prts; rw [List.map_map]; rfl
    rw [e] at hD'
    exact ⟨_, .new hD hs' hD' trivial, q D hD⟩

def spTexts : Sp := fun vs H Q _ => ∃ (a : Addr) (rs : List (List Bool)), vs = [.ref a] ∧ H a = some (.lst (RL rs)) ∧ rs.length ≤ 1000 ∧ Q (.bl true) H
theorem ok_law_texts {f : Addr} {fd : FuncData} (nb : NB mg) (F : FunAt K mg "_law_texts" s_law_texts ["_law_found"] f fd) : DefOk P w K mg base 1 "_law_texts" ["_law_found"] spTexts := by
  refine F.ok sc_law_texts (fun vs H Q E h => ?_) (fun cdv A outer s H vs Q E hr h => ?_)
  · obtain ⟨_, _, rfl, _⟩ := h; rfl
  obtain ⟨a, rs, rfl, ha, hn, q⟩ := h
  refine ⟨_, (pss_cons (ps_if (pt_not (pt_truth (pe_callB call_isinstA rfl nb.isinstance_ bo_isinstance (pa_cons (pv 0) (pa_cons (pe_bltn (v := .ty "list") rfl nb.list_ bo_list rfl) pa_nil))) (fun _ => rfl))) (pss_one (ps_ret pe_bl)) pss_nil)
    (pss_one (ps_ret (pe_cmpR oEq (pe_callB call_len rfl nb.len_ bo_len (pa_cons (pe_comp ["_law_row"] [] rfl (by decide +kernel) trivial (piAll (pv 0)) (fun _ _ _ _ _ => (pg_name (i := 0) (show (["_law_row"] : List Str).Nodup by decide +kernel) rfl (by first | exact Or.inl rfl | exact Or.inr rfl))) (fun _ _ _ _ _ => (pts_one (pt_not (pt_truth (pe_callB call_isinstA rfl nb.isinstance_ bo_isinstance (pa_cons (pv 0) (pa_cons (pe_bltn (v := .ty "str") rfl nb.str_ bo_str rfl) pa_nil))) (fun _ => rfl))))) (fun _ _ _ _ _ => (pv 0))) pa_nil)) pe_int (nomark _))))), ?_⟩
  refine ⟨_, rfl, .inl ⟨_, _, _, true, rfl, .lst ha, kit_same .., true, rfl, iteF ?_⟩⟩
  refine .inl ⟨_, rfl, a, rfl, ⟨_, SqL.of ha⟩, fun D hD => ?_⟩
  refine comp_filter (xs := RL rs) (fun _ => false) id (fun σ => ∃ z, σ = [z]) (by rw [RL_len]; exact small5 (by omega)) ⟨_, rfl⟩ hD (SqL.of ha) ?_ ?_
  · rintro v hv σ1 H1 ⟨z, rfl⟩ hs1 R R' hR
    obtain ⟨y, _, rfl⟩ := List.mem_map.mp hv
    replace hR := hR [some (.str (rowS y))] ⟨_, rfl⟩
    rw [if_neg Bool.false_ne_true] at hR
    exact ⟨_, rfl, .inl ⟨_, _, _, true, rfl, .str _, kit_same .., true, rfl, iteF hR⟩⟩
  · have e : List.map id (List.filter (fun _ => false) (RL rs)) = [] := by rw [List.filter_eq_nil_iff.mpr fun x _ => Bool.false_ne_true]; rfl
    rw [e]
    exact ⟨_, _, rfl, .inl ⟨_, SqL.of upd_same, rfl⟩, rfl, H, .refl (same_new hD), q⟩
def spLawPart : Sp := fun vs H Q _ => ∃ a b : List Bool, vs = [.str (rowS a), .str (rowS b)] ∧ a.length ≤ 1000 ∧ b.length ≤ 1000 ∧ Lt a b ∧ Q (.str (rowS (prt a b))) H
theorem slice_any_to (l : List Bool) (k : Nat) : Txt.slice (rowS l) none (some ((k : Nat) : Int)) = rowS (l.take k) := by
  rw [slice_row, HT.sIx_nat, HT.sIx_none, List.drop_zero, Nat.sub_zero]
  rcases Nat.le_total k l.length with z | z
  · rw [Nat.min_eq_left z]
  · rw [Nat.min_eq_right z, List.take_length, List.take_of_length_le z]
theorem take_same {a b : List Bool} {k : Nat} (h : k ≤ com a b) : a.take k = b.take k := by
  have e := com_take a b
  have h1 := congrArg (List.take k) e
  rwa [List.take_take, List.take_take, Nat.min_eq_left h] at h1
theorem take_not {a b : List Bool} (h : com a b < a.length) : a.take (com a b + 1) ≠ b.take (com a b + 1) := fun e => by
  have h1 : (a.take (com a b + 1))[com a b]? = (b.take (com a b + 1))[com a b]? := by rw [e]
  rw [List.getElem?_take_of_lt (Nat.lt_succ_self _), List.getElem?_take_of_lt (Nat.lt_succ_self _)] at h1
  rcases com_end a b with z | z | ⟨x, y, e1, e2, ne⟩
  · omega
  · rw [List.getElem?_eq_getElem h, List.getElem?_eq_none (by omega)] at h1; cases h1
  · rw [e1, e2] at h1; exact ne (Option.some.inj h1)
theorem ok_law_parting {f : Addr} {fd : FuncData} (nb : NB mg) (F : FunAt K mg "_law_parting" s_law_parting ["_law_one", "_law_other"] f fd) : DefOk P w K mg base 1 "_law_parting" ["_law_one", "_law_other"] spLawPart := by
  refine F.ok sc_law_parting (fun vs H Q E h => ?_) (fun cdv A outer s H vs Q E hr h => ?_)
  · obtain ⟨_, _, rfl, _⟩ := h; rfl
  obtain ⟨a, b, rfl, ha, hb, hlt, q⟩ := h
  refine ⟨_, (pss_cons (ps_for PassesOwn.never rfl (pi_range1 rfl nb.range_ (pa_cons (pe_callB call_len rfl nb.len_ bo_len (pa_cons (pv 0) pa_nil)) pa_nil)) (pg_name (i := 2) sc_law_parting.nd rfl (by first | exact Or.inl rfl | exact Or.inr rfl))
      (pss_one (ps_if (pt_cmpR oNe (pe_slice slAll (pv 0) po_none (po_some (pe_op oAdd (pv 2) pe_int))) (pe_slice slAll (pv 1) po_none (po_some (pe_op oAdd (pv 2) pe_int))) (nomark _)) (pss_one (ps_ret (pe_slice slAll (pv 1) po_none (po_some (pe_op oAdd (pv 2) pe_int))))) pss_nil)))
    (pss_one (ps_ret (pe_slice slAll (pv 1) po_none (po_some (pe_op oAdd (pe_callB call_len rfl nb.len_ bo_len (pa_cons (pv 0) pa_nil)) pe_int)))))), ?_⟩
  have la : (rowS a).length ≤ sizeLine := by rw [rowS_length]; exact small5 (by omega)
  have lb : (rowS b).length ≤ sizeLine := by rw [rowS_length]; exact small5 (by omega)
  have hc := com_le (a := a) (b := b)
  refine ⟨_, rfl, _, _, rfl, ⟨la, rfl⟩, _, rfl, (by rw [rowS_length]; omega), (by rw [rowS_length]; omega), ?_⟩
  have en : (((rowS a).length : Nat) : Int).toNat = a.length := by rw [rowS_length]; omega
  rw [en]
  refine for_range (fun j σ H2 => H2 = H ∧ j ≤ com a b ∧ ∃ z, σ = [some (.str (rowS a)), some (.str (rowS b)), z]) ⟨rfl, Nat.zero_le _, _, rfl⟩ ?_ ?_
  · rintro j σ H2 hj ⟨rfl, hjc, z, rfl⟩
    rw [Int.zero_add]
    have ej : ((j : Nat) : Int) + 1 = ((j + 1 : Nat) : Int) := by omega
    refine ⟨_, rfl, _, rfl, .inl ⟨_, _, rfl, rfl, _, rfl, .inr ⟨_, rfl, la, _, rfl, _, rfl, .inl ⟨_, _, rfl, rfl, _, rfl, .inr ⟨_, rfl, lb, rfl, _, rfl, ?_⟩⟩⟩⟩⟩
    rw [ej, slice_any_to, slice_any_to, rowS_dec]
    rcases Nat.lt_or_ge j (com a b) with z1 | z1
    · rw [decide_eq_true (take_same (show j + 1 ≤ com a b by omega))]
      exact iteF ⟨rfl, z1, _, rfl⟩
    · have hjc2 : j = com a b := by omega
      subst hjc2
      rw [decide_eq_false (take_not hj)]
      refine iteT ⟨_, rfl, _, rfl, .inl ⟨_, _, rfl, rfl, _, rfl, .inr ⟨_, rfl, lb, H2, .refl (Same.refl _), ?_⟩⟩⟩
      rw [ej, slice_any_to]
      exact q
  · rintro σ H2 ⟨rfl, hjc, z, rfl⟩
    refine ⟨_, rfl, _, rfl, _, _, rfl, ⟨la, rfl⟩, .inl ⟨_, _, rfl, rfl, _, rfl, .inr ⟨_, rfl, lb, H2, .refl (Same.refl _), ?_⟩⟩⟩
    have ej : (((rowS a).length : Nat) : Int) + 1 = ((com a b + 1 : Nat) : Int) := by rw [rowS_length]; omega
    rw [ej, slice_any_to]
    exact q
def spNumber : Sp := fun vs H Q _ => ∃ c : Int, vs = [.int c] ∧ ∀ v : Int, WholeIn v → Q (.int v) H
theorem ok_law_number {f : Addr} {fd : FuncData} (nb : NB mg) (F : FunAt K mg "_law_number" s_law_number ["_law_cell"] f fd) : DefOk P w K mg base 1 "_law_number" ["_law_cell"] spNumber := by
  refine F.ok sc_law_number (fun vs H Q E h => ?_) (fun cdv A outer s H vs Q E hr h => ?_)
  · obtain ⟨_, rfl, _⟩ := h; rfl
  obtain ⟨c, rfl, q⟩ := h
  refine ⟨_, (pss_cons (ps_set (i := 1) sc_law_number.nd rfl (by first | exact Or.inl rfl | exact Or.inr rfl) (pe_op op_mod (pe_op op_fdiv (pv 0) pe_int) (pe_ix iAll (pe_lst (pa_cons pe_int (pa_cons pe_int (pa_cons (pe_op op_pow pe_int pe_int) pa_nil)))) (pe_op op_mod (pe_op op_fdiv (pv 0) pe_int) pe_int) (fun _ _ => rfl))))
    (pss_cons (ps_if (pt_cmpR oEq (pe_op op_mod (pe_op op_fdiv (pv 0) pe_int) pe_int) pe_int (nomark _)) (pss_one (ps_ret (pe_op oSub pe_int (pv 1)))) pss_nil)
    (pss_one (ps_ret (pv 1))))), ?_⟩
  refine ⟨_, rfl, _, _, rfl, rfl, ⟨by decide, by decide⟩, ?_⟩
  refine ⟨_, _, rfl, rfl, (by refine ⟨?_, ?_, ?_⟩ <;> decide), (by show 3 ≤ sizeLine; decide), fun g hg => ?_⟩
  have s1 := same_new (o := HO.lst [V.int 9, V.int 90, V.int (10 ^ Int.toNat 60)]) hg
  obtain ⟨x, hx, hx1⟩ := atI_modG V.int [9, 90, 10 ^ Int.toNat 60] (c / 4) 3 rfl (by show 0 < 3; decide)
  have hxb : 0 < x ∧ x < 2 ^ 254 := by
    have : ∀ y ∈ ([9, 90, 10 ^ Int.toNat 60] : List Int), 0 < y ∧ y < 2 ^ 254 := by decide +kernel
    exact this x hx
  refine ⟨_, rfl, _, _, rfl, rfl, ⟨by decide, by decide⟩, _, _, rfl, rfl, (by show (0 : Int) < 3; decide), .inl (.inl ⟨_, _, _, _, rfl, rfl, SqL.of upd_same, hx1, _, _, rfl, rfl, hxb.1, ?_⟩)⟩
  have v0 := Int.emod_nonneg (c / 16) (show x ≠ 0 by omega)
  have v1 := Int.emod_lt_of_pos (c / 16) hxb.1
  refine ⟨_, rfl, _, _, rfl, rfl, ⟨by decide, by decide⟩, _, _, rfl, rfl, (by show (0 : Int) < 4; decide), rfl, _, rfl, iteD (fun c1 => ?_) (fun c1 => ?_)⟩
  · exact ⟨_, rfl, _, _, rfl, rfl, H, .refl s1, q _ ⟨by omega, by omega⟩⟩
  · exact ⟨_, rfl, H, .refl s1, q _ ⟨by omega, by omega⟩⟩

theorem iteC {c : Bool} {A B : Prop} (h : c = true) (x : A) : if c = true then A else B := by rw [if_pos h]; exact x
theorem iteE {c : Bool} {A B : Prop} (h : c = false) (x : B) : if c = true then A else B := by rw [if_neg (by rw [h]; exact Bool.false_ne_true)]; exact x
theorem atI_neg1 {α : Type} {xs : List α} {v : α} (h : 0 < xs.length) (e : xs[xs.length - 1]? = some v) : atI xs (-1) = some v := by
  unfold atI ixN
  rw [if_neg (by decide), if_pos (by omega)]
  show xs[((-1 : Int) + (xs.length : Int)).toNat]? = some v
  rw [show ((-1 : Int) + (xs.length : Int)).toNat = xs.length - 1 by omega]
  exact e
/-! ### chunks -/
theorem chunk_len (rs : List (List Bool)) (m i : Nat) : (chunk rs m i).length = min m (rs.length - i * m) := by
  unfold chunk
  rw [List.length_take, List.length_drop]
theorem chunks_all {rs : List (List Bool)} {m : Nat} (hm : 0 < m) : rs.take (nch rs.length m * m) = rs := by
  rcases Nat.lt_or_ge (nch rs.length m * m) rs.length with z | z
  · exact absurd ((lt_nch hm).mpr z) (Nat.lt_irrefl _)
  · exact List.take_of_length_le z
theorem npt_nch {n m : Nat} (hm : 0 < m) : npt n m = nch n m - 1 := by
  have h : ∀ i, i < npt n m ↔ i < nch n m - 1 := fun i => by
    rw [lt_npt hm, show i < nch n m - 1 ↔ i + 1 < nch n m by omega, lt_nch hm, Nat.succ_mul, Nat.add_comm]
  rcases Nat.lt_trichotomy (npt n m) (nch n m - 1) with z | z | z
  · exact absurd ((h _).mpr z) (Nat.lt_irrefl _)
  · exact z
  · exact absurd ((h _).mp z) (Nat.lt_irrefl _)
def spLawPages (C : Addr) : Sp := fun vs H Q _ => ∃ (s dx fm l kp : Addr) (m : Nat) (rs ks : List (List Bool)) (ah : Bool), vs = [.ref s, .int ((m : Nat) : Int), .ref kp, .bl ah] ∧ ShAt H s C dx fm ((m : Nat) : Int) l rs ∧ 2 ≤ m ∧ m ≤ 20 ∧ Rws rs ∧ H kp = some (.lst (RL ks)) ∧ ks.Perm rs ∧ Q (.bl true) H
set_option maxHeartbeats 4000000 in
theorem ok_law_pages {f C : Addr} {fd : FuncData} (nb : NB mg) (T : ShCls K C) (c_C : Cls K C) (F : FunAt K mg "_law_pages" s_law_pages ["_law_shelf", "_law_room", "_law_kept", "_law_ahead"] f fd) (M_pages : MethOk P w K mg base 5 C "pages" ["self"] (spPages C)) (M_partings : MethOk P w K mg base 4 C "partings" ["self"] (spParts C)) (D_law_texts : DefOk P w K mg base 1 "_law_texts" ["_law_found"] spTexts) (D_rows_of : DefOk P w K mg base 7 "rows_of" ["page"] spRowsOf) (D_law_parting : DefOk P w K mg base 1 "_law_parting" ["_law_one", "_law_other"] spLawPart) :
    DefOk P w K mg base 8 "_law_pages" ["_law_shelf", "_law_room", "_law_kept", "_law_ahead"] (spLawPages C) := by
  refine F.ok sc_law_pages (fun vs H Q E h => ?_) (fun cdv A outer s H vs Q E hr h => ?_)
  · obtain ⟨_, _, _, _, _, _, _, _, _, rfl, _⟩ := h; rfl
  obtain ⟨p, dx, fm, l, kp, m, rs, ks, ah, rfl, ⟨hp, hl⟩, h2, h20, R, hk, hperm, q⟩ := h
  have hn := R.n
  have hm0 : 0 < m := by omega
  have hnc := nch_le (n := rs.length) hm0
  have hlk := hperm.length_eq
  refine ⟨_, (pss_cons (ps_set (i := 4) sc_law_pages.nd rfl (by first | exact Or.inl rfl | exact Or.inr rfl) (pe_lst pa_nil))
    (pss_cons (ps_if (pt_bl (pv 3) (fun _ => rfl)) (pss_one (ps_set (i := 4) sc_law_pages.nd rfl (by first | exact Or.inl rfl | exact Or.inr rfl) (pe_methD0 M_partings c_C hr (pv 0)))) pss_nil)
    (pss_cons (ps_set (i := 5) sc_law_pages.nd rfl (by first | exact Or.inl rfl | exact Or.inr rfl) (pe_methD0 M_pages c_C hr (pv 0)))
    (pss_cons (ps_if (pt_not (pt_bl (pe_callD D_law_texts hr (pa_cons (pv 5) pa_nil)) (fun _ => rfl))) (pss_one (ps_ret pe_bl)) pss_nil)
    (pss_cons (ps_setComp (i := 6)  ["_law_page"] [] sc_law_pages.nd rfl rfl rfl (by decide +kernel) trivial (piAll (pv 5)) (fun _ _ _ _ _ => (pg_name (i := 0) (show (["_law_page"] : List Str).Nodup by decide +kernel) rfl (by first | exact Or.inl rfl | exact Or.inr rfl))) (fun _ _ _ _ _ => pts_nil) (fun _ _ _ _ _ => (pe_callD D_rows_of hr (pa_cons (pv 0) pa_nil))))
    (pss_cons (ps_set (i := 7) sc_law_pages.nd rfl (by first | exact Or.inl rfl | exact Or.inr rfl) (pe_lst pa_nil))
    (pss_cons (ps_for PassesOwn.never rfl (pi_range1 rfl nb.range_ (pa_cons (pe_callB call_len rfl nb.len_ bo_len (pa_cons (pv 6) pa_nil)) pa_nil)) (pg_name (i := 8) sc_law_pages.nd rfl (by first | exact Or.inl rfl | exact Or.inr rfl))
      (pss_cons (ps_if (PW.pt (pw_or (pt_not (pt_bl (pe_callD D_law_texts hr (pa_cons (pe_ix iAll (pv 6) (pv 8) (fun _ _ => rfl)) pa_nil)) (fun _ => rfl))) (pw_or (pt_cmpR oLt (pe_callB call_len rfl nb.len_ bo_len (pa_cons (pe_ix iAll (pv 6) (pv 8) (fun _ _ => rfl)) pa_nil)) pe_int (nomark _)) (pw_or1 (pt_cmpR oGt (pe_callB call_len rfl nb.len_ bo_len (pa_cons (pe_ix iAll (pv 6) (pv 8) (fun _ _ => rfl)) pa_nil)) (pv 1) (nomark _)))))) (pss_one (ps_ret pe_bl)) pss_nil)
      (pss_cons (ps_if (PW.pt (pw_and (pt_cmpR oGt (pv 8) pe_int (nomark _)) (pw_and1 (pt_cmpR oLe (pe_op oAdd3 (pe_callB call_len rfl nb.len_ bo_len (pa_cons (pe_ix iAll (pv 6) (pe_op oSub (pv 8) pe_int) (fun _ _ => rfl)) pa_nil)) (pe_callB call_len rfl nb.len_ bo_len (pa_cons (pe_ix iAll (pv 6) (pv 8) (fun _ _ => rfl)) pa_nil))) (pv 1) (nomark _))))) (pss_one (ps_ret pe_bl)) pss_nil)
      (pss_one (ps_set (i := 7) sc_law_pages.nd rfl (by first | exact Or.inl rfl | exact Or.inr rfl) (pe_op oAdd3 (pv 7) (pe_ix iAll (pv 6) (pv 8) (fun _ _ => rfl))))))))
    (pss_cons (ps_if (pt_cmpR (oNeLS (room64 hr)) (pv 7) (pe_callB call_sortedR rfl nb.sorted_ bo_sorted (pa_cons (pv 2) pa_nil)) (nomark _)) (pss_one (ps_ret pe_bl)) pss_nil)
    (pss_cons (ps_if (pt_not (pt_bl (pv 3) (fun _ => rfl))) (pss_one (ps_set (i := 4) sc_law_pages.nd rfl (by first | exact Or.inl rfl | exact Or.inr rfl) (pe_methD0 M_partings c_C hr (pv 0)))) pss_nil)
    (pss_cons (ps_if (PW.pt (pw_or (pt_not (pt_bl (pe_callD D_law_texts hr (pa_cons (pv 4) pa_nil)) (fun _ => rfl))) (pw_or1 (pt_cmpR (oNeLS (room64 hr)) (pe_callB call_len rfl nb.len_ bo_len (pa_cons (pv 4) pa_nil)) (pe_callB (call_max2 rfl) rfl nb.max_ bo_max (pa_cons pe_int (pa_cons (pe_op oSub (pe_callB call_len rfl nb.len_ bo_len (pa_cons (pv 6) pa_nil)) pe_int) pa_nil))) (nomark _))))) (pss_one (ps_ret pe_bl)) pss_nil)
    (pss_cons (ps_for PassesOwn.never rfl (pi_range1 rfl nb.range_ (pa_cons (pe_callB call_len rfl nb.len_ bo_len (pa_cons (pv 4) pa_nil)) pa_nil)) (pg_name (i := 8) sc_law_pages.nd rfl (by first | exact Or.inl rfl | exact Or.inr rfl))
      (pss_one (ps_if (pt_cmpR (oNeLS (room64 hr)) (pe_ix iAll (pv 4) (pv 8) (fun _ _ => rfl)) (pe_callD D_law_parting hr (pa_cons (pe_ix iAll (pe_ix iAll (pv 6) (pv 8) (fun _ _ => rfl)) (pe_un un_neg pe_int) (fun _ _ => rfl)) (pa_cons (pe_ix iAll (pe_ix iAll (pv 6) (pe_op oAdd3 (pv 8) pe_int) (fun _ _ => rfl)) pe_int (fun _ _ => rfl)) pa_nil))) (nomark _)) (pss_one (ps_ret pe_bl)) pss_nil)))
    (pss_cons (ps_set (i := 2) sc_law_pages.nd rfl (by first | exact Or.inl rfl | exact Or.inr rfl) (pe_lst (pa_cons (pe_callTy call_list_of rfl nb.list_ bo_list (pa_cons (pv 5) pa_nil)) (pa_cons (pe_callTy call_list_of rfl nb.list_ bo_list (pa_cons (pv 4) pa_nil)) pa_nil))))
    (pss_cons (ps_expr (pe_bm PySem.F.plainAttrs_list PySem.F.slot_list_append PySem.F.type_list_append mt_append (pv 5) (pa_cons pe_str pa_nil)))
    (pss_cons (ps_expr (pe_bm PySem.F.plainAttrs_list PySem.F.slot_list_append PySem.F.type_list_append mt_append (pv 4) (pa_cons pe_str pa_nil)))
    (pss_one (ps_ret (pe_cmpR (oEqLL (room64 hr)) (pe_lst (pa_cons (pe_methD0 M_pages c_C hr (pv 0)) (pa_cons (pe_methD0 M_partings c_C hr (pv 0)) pa_nil))) (pv 2) (nomark _)))))))))))))))))), ?_⟩
  refine ⟨Nat.zero_le _, fun f0 hf0 => ?_⟩
  have s0 := same_new (o := HO.lst []) hf0
  have hnt : npt rs.length m = nch rs.length m - 1 := npt_nch hm0
  have lpg : (pgs rs m).length = nch rs.length m := by unfold pgs; rw [List.length_map, List.length_range]
  have lpr : (prts rs m).length = npt rs.length m := by unfold prts; rw [List.length_map, List.length_range]
  refine ⟨_, rfl, ah, rfl, ?_⟩
  by_cases hah : ah = true
  · refine iteC hah ⟨_, rfl, p, dx, _, rfl, s0 _ _ hp, slookm .., p, dx, fm, l, m, rs, rfl, ⟨s0 _ _ hp, s0 _ _ hl⟩, h2, h20, R, fun FA hFA => ?_⟩
    have hs1 := s0.trans (same_new (o := HO.lst (RL (prts rs m))) hFA)
    have gF := upd_same (H := upd H f0 (HO.lst [])) (a := FA) (o := HO.lst (RL (prts rs m)))
    have hFAH := s0.free hFA
    generalize upd (upd H f0 (HO.lst [])) FA (HO.lst (RL (prts rs m))) = H1 at hs1 gF ⊢
    have lp1 := hs1 _ _ hp
    have ll1 := hs1 _ _ hl
    refine ⟨_, rfl, p, dx, _, rfl, lp1, slookm .., p, dx, fm, l, m, rs, rfl, ⟨lp1, ll1⟩, h2, h20, R, fun T1 hT1 => ?_⟩
    have s2 := same_new (o := HO.lst (RL (pgs rs m))) hT1
    refine ⟨_, rfl, T1, pgs rs m, rfl, upd_same, by omega, true, rfl, iteF ?_⟩
    refine .inl ⟨_, rfl, T1, rfl, ⟨_, SqL.of upd_same⟩, fun D hD => ?_⟩
    refine comp_objsL (xs := RL (pgs rs m)) (fun i => HO.lst (RL (chunk rs m i))) (fun σ => ∃ z, σ = [z]) (by rw [RL_len]; exact small5 (by omega)) ⟨_, rfl⟩ hD (SqL.of upd_same) ?_ ?_
    · rintro i x hx σ1 H3 ⟨z, rfl⟩ hs3 R' hR
      have hi : i < nch rs.length m := by
        have := (List.getElem?_eq_some_iff.mp hx).1
        rw [RL_len, lpg] at this; exact this
      obtain rfl : x = V.str (rowS (page (chunk rs m i))) := by
        unfold RL pgs at hx
        rw [List.map_map, List.getElem?_map, List.getElem?_range hi] at hx
        exact (Option.some.inj hx).symm
      have sub := chunk_sub rs m i
      have hcl := sub.length_le
      refine ⟨_, rfl, chunk rs m i, rfl, asc_pw.mpr ((asc_pw.mp R.a).sublist sub), by omega, (fun r hr => R.b r (sub.subset hr)), fun p2 hp2 => ?_⟩
      exact hR _ _ ⟨_, rfl⟩ hp2
    intro ts H4 hts hs4 hD4 hT4
    rw [RL_len, lpg] at hts
    have gT := hs4 _ _ (upd_same (H := H1) (a := T1) (o := HO.lst (RL (pgs rs m))))
    have hs5 := (hs1.trans s2).trans hs4
    refine ⟨Nat.zero_le _, fun r0 hr0 => ?_⟩
    have s6 := same_new (o := HO.lst []) hr0
    have at_ : ∀ {H' : Hp} (i : Nat) (hi : i < ts.length), Same H4 H' → atI (ts.map V.ref) ((i : Nat) : Int) = some (.ref ts[i]) ∧ H' ts[i] = some (HO.lst (RL (chunk rs m i))) := fun {H'} i hi hs => ⟨atI_nat (by rw [List.getElem?_map, List.getElem?_eq_getElem hi]; rfl), hs _ _ (hT4 i _ (List.getElem?_eq_getElem hi)).2.2⟩
    refine ⟨_, rfl, _, _, rfl, .inl ⟨_, SqL.of (s6 _ _ hD4), rfl⟩, _, rfl, (by rw [List.length_map]; omega), (by rw [List.length_map]; omega), ?_⟩
    have eN : (((ts.map V.ref).length : Nat) : Int).toNat = ts.length := by rw [List.length_map]; omega
    rw [eN]
    refine for_range (fun i σ H5 => ∃ ra, Same H4 H5 ∧ H5 ra = some (.lst (RL (rs.take (i * m)))) ∧ ∃ z, σ = [some (.ref p), some (.int ((m : Nat) : Int)), some (.ref kp), some (.bl ah), some (.ref FA), some (.ref T1), some (.ref D), some (.ref ra), z]) ⟨r0, s6, (by rw [Nat.zero_mul]; exact upd_same), _, rfl⟩ ?_ ?_
    · rintro i σ H5 hi ⟨ra, hs, gra, z, rfl⟩
      rw [Int.zero_add]
      obtain ⟨ha1, ha2⟩ := at_ i hi hs
      have gD5 := hs _ _ hD4
      have him : i * m < rs.length := (lt_nch hm0).mp (by rw [← hts]; exact hi)
      have hcl := chunk_len rs m i
      refine ⟨_, rfl, _, rfl, .inl (.inl ⟨_, _, _, _, rfl, rfl, SqL.of gD5, ha1, ts[i], chunk rs m i, rfl, ha2, by omega, true, rfl, iteF ?_⟩)⟩
      refine ⟨_, rfl, _, rfl, .inl (.inl ⟨_, _, _, _, rfl, rfl, SqL.of gD5, ha1, _, _, rfl, .inl ⟨_, SqL.of ha2, rfl⟩, .inl ⟨_, _, rfl, rfl, _, rfl, iteN (by rw [RL_len]; omega) ?_⟩⟩)⟩
      refine ⟨_, rfl, _, rfl, .inl (.inl ⟨_, _, _, _, rfl, rfl, SqL.of gD5, ha1, _, _, rfl, .inl ⟨_, SqL.of ha2, rfl⟩, _, rfl, _, _, rfl, rfl, _, rfl, iteN (by rw [RL_len]; omega) ?_⟩)⟩
      have last : ∀ p3, H5 p3 = none → ∃ ra2, Same H4 (upd H5 p3 (HO.lst (RL (rs.take (i * m)) ++ RL (chunk rs m i)))) ∧ upd H5 p3 (HO.lst (RL (rs.take (i * m)) ++ RL (chunk rs m i))) ra2 = some (.lst (RL (rs.take ((i + 1) * m)))) ∧ ra2 = p3 := fun p3 hp3 => ⟨p3, hs.trans (same_new hp3), (by
        rw [upd_same]
        have : RL (rs.take (i * m)) ++ RL (chunk rs m i) = RL (rs.take ((i + 1) * m)) := by
          rw [← RL_app, Nat.succ_mul, List.take_add]; rfl
        rw [this]), rfl⟩
      refine ⟨_, rfl, _, _, rfl, rfl, _, rfl, iteD (fun c1 => ?_) (fun c1 => iteF ?_)⟩
      · have hi1 : i - 1 < ts.length := by omega
        obtain ⟨hb1, hb2⟩ := at_ (i - 1) hi1 hs
        have ei : ((i : Nat) : Int) - 1 = ((i - 1 : Nat) : Int) := by omega
        have hcl2 := chunk_len rs m (i - 1)
        have hb1' : atI (ts.map V.ref) (((i : Nat) : Int) - 1) = some (.ref ts[i - 1]) := by rw [ei]; exact hb1
        have hmul : (i - 1) * m + m = i * m := by
          obtain ⟨j, rfl⟩ : ∃ j, i = j + 1 := ⟨i - 1, by omega⟩
          rw [Nat.add_sub_cancel, Nat.succ_mul]
        refine ⟨_, rfl, _, rfl, _, _, rfl, rfl, .inl (.inl ⟨_, _, _, _, rfl, rfl, SqL.of gD5, hb1', _, _, rfl, .inl ⟨_, SqL.of hb2, rfl⟩, ?_⟩)⟩
        refine ⟨_, rfl, _, rfl, .inl (.inl ⟨_, _, _, _, rfl, rfl, SqL.of gD5, ha1, _, _, rfl, .inl ⟨_, SqL.of ha2, rfl⟩, .inl (.inl ⟨_, _, rfl, rfl, ?_⟩)⟩)⟩
        refine ⟨_, rfl, _, _, rfl, rfl, _, rfl, iteN (by rw [RL_len, RL_len]; omega) ?_⟩
        refine ⟨_, rfl, _, rfl, _, rfl, .inl (.inl ⟨_, _, _, _, rfl, rfl, SqL.of gD5, ha1, .inr ⟨ra, ts[i], _, _, rfl, rfl, gra, ha2, (by rw [RL_len, RL_len]; exact small5 (by have := List.length_take_le (i * m) rs; omega)), fun p3 hp3 => ?_⟩⟩)⟩
        obtain ⟨ra2, w1, w2, rfl⟩ := last p3 hp3
        exact ⟨_, w1, w2, _, rfl⟩
      · refine ⟨_, rfl, _, rfl, _, rfl, .inl (.inl ⟨_, _, _, _, rfl, rfl, SqL.of gD5, ha1, .inr ⟨ra, ts[i], _, _, rfl, rfl, gra, ha2, (by rw [RL_len, RL_len]; exact small5 (by have := List.length_take_le (i * m) rs; omega)), fun p3 hp3 => ?_⟩⟩)⟩
        obtain ⟨ra2, w1, w2, rfl⟩ := last p3 hp3
        exact ⟨_, w1, w2, _, rfl⟩
    rintro σ H5 ⟨ra, hs, gra, z, rfl⟩
    rw [hts, chunks_all hm0] at gra
    have hs7 := hs5.trans hs
    refine ⟨_, rfl, _, rfl, kp, ks, rfl, SqL.of (hs7 _ _ hk), by omega, hperm.nodup_iff.mpr (asc_nodup R.a), fun ss hss hpp p5 hp5 => ?_⟩
    obtain rfl : rs = ss := (asc_eq hss R.a (hpp.trans hperm)).symm
    have s8 := same_new (o := HO.lst (RL rs)) hp5
    refine .inr ⟨ra, p5, rs, rs, rfl, rfl, s8 _ _ gra, upd_same, _, rfl, ?_⟩
    rw [decide_eq_true rfl]
    refine iteF ?_
    have hs9 := hs.trans s8
    have hsA := hs7.trans s8
    generalize upd H5 p5 (HO.lst (RL rs)) = H6 at hs9 hsA ⊢
    clear s8 hp5 gra hs7 hs
    have hT1H : H T1 = none := hs1.free hT1
    refine ⟨_, rfl, ah, rfl, ?_⟩
    refine iteE (by rw [hah]; rfl) ?_
    have gFB := hs9 _ _ (hs4 _ _ (s2 _ _ gF))
    have hs7 := hs9
    have hsB := hsA
    have neT : FA ≠ T1 := fun z => by rw [z, hT1] at gF; cases gF
    have hFBH := hFAH
    obtain ⟨FB, rfl⟩ : ∃ FB, FB = FA := ⟨_, rfl⟩
    obtain ⟨H7, rfl⟩ : ∃ H7, H7 = H6 := ⟨_, rfl⟩
    have gD7 := hs7 _ _ hD4
    have gT7 := hs7 _ _ gT
    refine ⟨_, rfl, FB, prts rs m, rfl, gFB, by omega, true, rfl, iteF ?_⟩
    refine ⟨_, rfl, _, _, rfl, .inl ⟨_, SqL.of gFB, rfl⟩, _, rfl, _, _, rfl, .inl ⟨_, SqL.of gD7, rfl⟩, _, _, rfl, rfl, _, _, rfl, .inl ⟨rfl, _, rfl, ?_⟩⟩
    have emx : V.int (((RL (prts rs m)).length : Nat) : Int) = V.int (if (((ts.map V.ref).length : Nat) : Int) - 1 > 0 then (((ts.map V.ref).length : Nat) : Int) - 1 else 0) := by
      rw [RL_len, lpr, List.length_map, hts, hnt]
      congr 1
      split <;> omega
    rw [decide_eq_true emx]
    refine iteF ⟨_, rfl, _, _, rfl, .inl ⟨_, SqL.of gFB, rfl⟩, _, rfl, (by rw [RL_len]; omega), (by rw [RL_len]; omega), ?_⟩
    have eF : (((RL (prts rs m)).length : Nat) : Int).toNat = npt rs.length m := by rw [RL_len, lpr]; omega
    rw [eF]
    refine for_range (fun i σ H8 => H8 = H7 ∧ ∃ z, σ = [some (.ref p), some (.int ((m : Nat) : Int)), some (.ref kp), some (.bl ah), some (.ref FB), some (.ref T1), some (.ref D), some (.ref ra), z]) ⟨rfl, _, rfl⟩ ?_ ?_
    · rintro i σ H8 hi ⟨rfl, z9, rfl⟩
      rw [Int.zero_add]
      have hi2 := (lt_npt hm0).mp hi
      have hic : i < ts.length := by omega
      have hic2 : i + 1 < ts.length := by omega
      obtain ⟨ha1, ha2⟩ := at_ i hic hs7
      obtain ⟨hb1, hb2⟩ := at_ (i + 1) hic2 hs7
      have hb1' : atI (ts.map V.ref) (((i : Nat) : Int) + 1) = some (.ref ts[i + 1]) := hb1
      have hcl := chunk_len rs m i
      have hcl2 := chunk_len rs m (i + 1)
      have hcomm : i * m + m = m + i * m := Nat.add_comm ..
      have hsucc : (i + 1) * m = m + i * m := by rw [Nat.succ_mul]; exact hcomm
      obtain ⟨k, hk9⟩ : ∃ k, k = m + i * m := ⟨_, rfl⟩
      have hkl : k < rs.length := by omega
      have hatF : atI (RL (prts rs m)) ((i : Nat) : Int) = some (.str (rowS (prt rs[k - 1] rs[k]))) := atI_nat (RL_at (by
        unfold prts
        rw [List.getElem?_map, List.getElem?_range hi, Option.map_some, ← hk9]
        have g1 : rs.getD (k - 1) [] = rs[k - 1] := by simp [List.getD, List.getElem?_eq_getElem (show k - 1 < rs.length by omega)]
        have g2 : rs.getD k [] = rs[k] := by simp [List.getD, List.getElem?_eq_getElem hkl]
        show some (prt (rs.getD (k - 1) []) (rs.getD k [])) = _
        rw [g1, g2]))
      have hl0 : (chunk rs m i)[m - 1]? = some rs[k - 1] := by
        unfold chunk
        rw [List.getElem?_take_of_lt (by omega), List.getElem?_drop, show i * m + (m - 1) = k - 1 by omega, List.getElem?_eq_getElem]
      have hlast : atI (RL (chunk rs m i)) (-1) = some (.str (rowS rs[k - 1])) := atI_neg1 (by rw [RL_len]; omega) (by rw [RL_len, show (chunk rs m i).length - 1 = m - 1 by omega]; exact RL_at hl0)
      have hf0 : (chunk rs m (i + 1))[0]? = some rs[k] := by
        unfold chunk
        rw [List.getElem?_take_of_lt (by omega), List.getElem?_drop, Nat.add_zero, hsucc, ← hk9, List.getElem?_eq_getElem]
      have hfirst : atI (RL (chunk rs m (i + 1))) 0 = some (.str (rowS rs[k])) := atI_nat (j := 0) (RL_at hf0)
      have b1 := R.b _ (List.getElem_mem (show k - 1 < rs.length by omega))
      have b2 := R.b _ (List.getElem_mem hkl)
      have lt := List.pairwise_iff_getElem.mp (asc_pw.mp R.a) (k - 1) k (by omega) hkl (by omega)
      refine ⟨_, rfl, _, rfl, .inl (.inl ⟨_, _, _, _, rfl, rfl, SqL.of gFB, hatF, ?_⟩)⟩
      refine ⟨_, rfl, _, rfl, .inl (.inl ⟨_, _, _, _, rfl, rfl, SqL.of gD7, ha1, _, rfl, .inl (.inl ⟨_, _, _, _, rfl, rfl, SqL.of ha2, hlast, ?_⟩)⟩)⟩
      refine ⟨_, rfl, _, rfl, .inl (.inl ⟨_, _, rfl, rfl, .inl (.inl ⟨_, _, _, _, rfl, rfl, SqL.of gD7, hb1', .inl (.inl ⟨_, _, _, _, rfl, rfl, SqL.of hb2, hfirst, ?_⟩)⟩)⟩)⟩
      refine ⟨rs[k - 1], rs[k], rfl, by omega, by omega, lt, .inl ⟨rfl, _, rfl, ?_⟩⟩
      rw [decide_eq_true rfl]
      exact iteF ⟨rfl, _, rfl⟩
    rintro σ H8 ⟨rfl, z9, rfl⟩
    refine ⟨_, rfl, T1, _, rfl, .inl (SqL.of gT7), fun c1 hc1 => ?_⟩
    have u1 := same_new (o := HO.lst (RL (pgs rs m))) hc1
    refine ⟨_, rfl, FB, _, rfl, .inl (SqL.of (u1 _ _ gFB)), fun c2 hc2 => ?_⟩
    have u2 := same_new (o := HO.lst (RL (prts rs m))) hc2
    refine ⟨(by show 2 ≤ sizeLine; decide), fun kq hkq => ?_⟩
    have u3 := same_new (o := HO.lst [V.ref c1, V.ref c2]) hkq
    have v1 := u3 _ _ (u2 _ _ (upd_same (H := H8) (a := c1) (o := HO.lst (RL (pgs rs m)))))
    have v2 := u3 _ _ (upd_same (H := upd H8 c1 (HO.lst (RL (pgs rs m)))) (a := c2) (o := HO.lst (RL (prts rs m))))
    have v3 := upd_same (H := upd (upd H8 c1 (HO.lst (RL (pgs rs m)))) c2 (HO.lst (RL (prts rs m)))) (a := kq) (o := HO.lst [V.ref c1, V.ref c2])
    have u := (u1.trans u2).trans u3
    have wT := u _ _ gT7
    have wF := u _ _ gFB
    have hsC := hsB.trans u
    have k1 : c1 ≠ T1 := (ne_of_none gT7 hc1).symm
    have k2 : c2 ≠ T1 := (ne_of_none (u1 _ _ gT7) hc2).symm
    have k3 : kq ≠ T1 := (ne_of_none ((u1.trans u2) _ _ gT7) hkq).symm
    have k4 : c1 ≠ FB := (ne_of_none gFB hc1).symm
    have k5 : c2 ≠ FB := (ne_of_none (u1 _ _ gFB) hc2).symm
    have k6 : kq ≠ FB := (ne_of_none ((u1.trans u2) _ _ gFB) hkq).symm
    generalize upd (upd (upd H8 c1 (HO.lst (RL (pgs rs m)))) c2 (HO.lst (RL (prts rs m)))) kq (HO.lst [V.ref c1, V.ref c2]) = H9 at v1 v2 v3 wT wF hsC ⊢
    refine ⟨_, rfl, .inl ⟨rfl, _, SqL.of wT⟩, T1, _, _, rfl, rfl, wT, (by rw [RL_len]; exact Nat.lt_of_le_of_lt (show (pgs rs m).length ≤ 1000 by omega) (by decide)), ?_⟩
    refine ⟨_, rfl, .inl ⟨rfl, _, SqL.of (by rw [upd_ne neT]; exact wF)⟩, FB, _, _, rfl, rfl, (by rw [upd_ne neT]; exact wF), (by rw [RL_len]; exact Nat.lt_of_le_of_lt (show (prts rs m).length ≤ 1000 by omega) (by decide)), ?_⟩
    have hsD : Same H (upd (upd H9 T1 (HO.lst (RL (pgs rs m) ++ [V.str (Str.ofString "")]))) FB (HO.lst (RL (prts rs m) ++ [V.str (Str.ofString "")]))) := same_updr (same_updr hsC hT1H) hFBH
    have x1 : upd (upd H9 T1 (HO.lst (RL (pgs rs m) ++ [V.str (Str.ofString "")]))) FB (HO.lst (RL (prts rs m) ++ [V.str (Str.ofString "")])) c1 = some (HO.lst (RL (pgs rs m))) := by rw [upd_ne k4, upd_ne k1]; exact v1
    have x2 : upd (upd H9 T1 (HO.lst (RL (pgs rs m) ++ [V.str (Str.ofString "")]))) FB (HO.lst (RL (prts rs m) ++ [V.str (Str.ofString "")])) c2 = some (HO.lst (RL (prts rs m))) := by rw [upd_ne k5, upd_ne k2]; exact v2
    have x3 : upd (upd H9 T1 (HO.lst (RL (pgs rs m) ++ [V.str (Str.ofString "")]))) FB (HO.lst (RL (prts rs m) ++ [V.str (Str.ofString "")])) kq = some (HO.lst [V.ref c1, V.ref c2]) := by rw [upd_ne k6, upd_ne k3]; exact v3
    generalize upd (upd H9 T1 (HO.lst (RL (pgs rs m) ++ [V.str (Str.ofString "")]))) FB (HO.lst (RL (prts rs m) ++ [V.str (Str.ofString "")])) = HA at hsD x1 x2 x3 ⊢
    refine ⟨_, rfl, p, dx, _, rfl, hsD _ _ hp, slookm .., p, dx, fm, l, m, rs, rfl, ⟨hsD _ _ hp, hsD _ _ hl⟩, h2, h20, R, fun q1 hq1 => ?_⟩
    have y1 := same_new (o := HO.lst (RL (pgs rs m))) hq1
    refine ⟨_, rfl, p, dx, _, rfl, y1 _ _ (hsD _ _ hp), slookm .., p, dx, fm, l, m, rs, rfl, ⟨y1 _ _ (hsD _ _ hp), y1 _ _ (hsD _ _ hl)⟩, h2, h20, R, fun q2 hq2 => ?_⟩
    have y2 := same_new (o := HO.lst (RL (prts rs m))) hq2
    refine ⟨(by show 2 ≤ sizeLine; decide), fun q3 hq3 => ?_⟩
    have y3 := same_new (o := HO.lst [V.ref q1, V.ref q2]) hq3
    have y := (y1.trans y2).trans y3
    refine ⟨_, rfl, .inr ⟨q3, kq, q1, q2, c1, c2, pgs rs m, prts rs m, pgs rs m, prts rs m, rfl, rfl, upd_same, y _ _ x3, y3 _ _ (y2 _ _ upd_same), y3 _ _ upd_same, y _ _ x1, y _ _ x2, H, .refl (hsD.trans y), ?_⟩⟩
    rw [decide_eq_true rfl, decide_eq_true rfl]
    exact q
  · have hah : ah = false := by simpa using hah
    refine iteE hah ?_
    have hs1 := s0
    obtain ⟨FA, rfl⟩ : ∃ FA, FA = f0 := ⟨_, rfl⟩
    generalize upd H FA (HO.lst []) = H1 at hs1 ⊢
    have lp1 := hs1 _ _ hp
    have ll1 := hs1 _ _ hl
    refine ⟨_, rfl, p, dx, _, rfl, lp1, slookm .., p, dx, fm, l, m, rs, rfl, ⟨lp1, ll1⟩, h2, h20, R, fun T1 hT1 => ?_⟩
    have s2 := same_new (o := HO.lst (RL (pgs rs m))) hT1
    refine ⟨_, rfl, T1, pgs rs m, rfl, upd_same, by omega, true, rfl, iteF ?_⟩
    refine .inl ⟨_, rfl, T1, rfl, ⟨_, SqL.of upd_same⟩, fun D hD => ?_⟩
    refine comp_objsL (xs := RL (pgs rs m)) (fun i => HO.lst (RL (chunk rs m i))) (fun σ => ∃ z, σ = [z]) (by rw [RL_len]; exact small5 (by omega)) ⟨_, rfl⟩ hD (SqL.of upd_same) ?_ ?_
    · rintro i x hx σ1 H3 ⟨z, rfl⟩ hs3 R' hR
      have hi : i < nch rs.length m := by
        have := (List.getElem?_eq_some_iff.mp hx).1
        rw [RL_len, lpg] at this; exact this
      obtain rfl : x = V.str (rowS (page (chunk rs m i))) := by
        unfold RL pgs at hx
        rw [List.map_map, List.getElem?_map, List.getElem?_range hi] at hx
        exact (Option.some.inj hx).symm
      have sub := chunk_sub rs m i
      have hcl := sub.length_le
      refine ⟨_, rfl, chunk rs m i, rfl, asc_pw.mpr ((asc_pw.mp R.a).sublist sub), by omega, (fun r hr => R.b r (sub.subset hr)), fun p2 hp2 => ?_⟩
      exact hR _ _ ⟨_, rfl⟩ hp2
    intro ts H4 hts hs4 hD4 hT4
    rw [RL_len, lpg] at hts
    have gT := hs4 _ _ (upd_same (H := H1) (a := T1) (o := HO.lst (RL (pgs rs m))))
    have hs5 := (hs1.trans s2).trans hs4
    refine ⟨Nat.zero_le _, fun r0 hr0 => ?_⟩
    have s6 := same_new (o := HO.lst []) hr0
    have at_ : ∀ {H' : Hp} (i : Nat) (hi : i < ts.length), Same H4 H' → atI (ts.map V.ref) ((i : Nat) : Int) = some (.ref ts[i]) ∧ H' ts[i] = some (HO.lst (RL (chunk rs m i))) := fun {H'} i hi hs => ⟨atI_nat (by rw [List.getElem?_map, List.getElem?_eq_getElem hi]; rfl), hs _ _ (hT4 i _ (List.getElem?_eq_getElem hi)).2.2⟩
    refine ⟨_, rfl, _, _, rfl, .inl ⟨_, SqL.of (s6 _ _ hD4), rfl⟩, _, rfl, (by rw [List.length_map]; omega), (by rw [List.length_map]; omega), ?_⟩
    have eN : (((ts.map V.ref).length : Nat) : Int).toNat = ts.length := by rw [List.length_map]; omega
    rw [eN]
    refine for_range (fun i σ H5 => ∃ ra, Same H4 H5 ∧ H5 ra = some (.lst (RL (rs.take (i * m)))) ∧ ∃ z, σ = [some (.ref p), some (.int ((m : Nat) : Int)), some (.ref kp), some (.bl ah), some (.ref FA), some (.ref T1), some (.ref D), some (.ref ra), z]) ⟨r0, s6, (by rw [Nat.zero_mul]; exact upd_same), _, rfl⟩ ?_ ?_
    · rintro i σ H5 hi ⟨ra, hs, gra, z, rfl⟩
      rw [Int.zero_add]
      obtain ⟨ha1, ha2⟩ := at_ i hi hs
      have gD5 := hs _ _ hD4
      have him : i * m < rs.length := (lt_nch hm0).mp (by rw [← hts]; exact hi)
      have hcl := chunk_len rs m i
      refine ⟨_, rfl, _, rfl, .inl (.inl ⟨_, _, _, _, rfl, rfl, SqL.of gD5, ha1, ts[i], chunk rs m i, rfl, ha2, by omega, true, rfl, iteF ?_⟩)⟩
      refine ⟨_, rfl, _, rfl, .inl (.inl ⟨_, _, _, _, rfl, rfl, SqL.of gD5, ha1, _, _, rfl, .inl ⟨_, SqL.of ha2, rfl⟩, .inl ⟨_, _, rfl, rfl, _, rfl, iteN (by rw [RL_len]; omega) ?_⟩⟩)⟩
      refine ⟨_, rfl, _, rfl, .inl (.inl ⟨_, _, _, _, rfl, rfl, SqL.of gD5, ha1, _, _, rfl, .inl ⟨_, SqL.of ha2, rfl⟩, _, rfl, _, _, rfl, rfl, _, rfl, iteN (by rw [RL_len]; omega) ?_⟩)⟩
      have last : ∀ p3, H5 p3 = none → ∃ ra2, Same H4 (upd H5 p3 (HO.lst (RL (rs.take (i * m)) ++ RL (chunk rs m i)))) ∧ upd H5 p3 (HO.lst (RL (rs.take (i * m)) ++ RL (chunk rs m i))) ra2 = some (.lst (RL (rs.take ((i + 1) * m)))) ∧ ra2 = p3 := fun p3 hp3 => ⟨p3, hs.trans (same_new hp3), (by
        rw [upd_same]
        have : RL (rs.take (i * m)) ++ RL (chunk rs m i) = RL (rs.take ((i + 1) * m)) := by
          rw [← RL_app, Nat.succ_mul, List.take_add]; rfl
        rw [this]), rfl⟩
      refine ⟨_, rfl, _, _, rfl, rfl, _, rfl, iteD (fun c1 => ?_) (fun c1 => iteF ?_)⟩
      · have hi1 : i - 1 < ts.length := by omega
        obtain ⟨hb1, hb2⟩ := at_ (i - 1) hi1 hs
        have ei : ((i : Nat) : Int) - 1 = ((i - 1 : Nat) : Int) := by omega
        have hcl2 := chunk_len rs m (i - 1)
        have hb1' : atI (ts.map V.ref) (((i : Nat) : Int) - 1) = some (.ref ts[i - 1]) := by rw [ei]; exact hb1
        have hmul : (i - 1) * m + m = i * m := by
          obtain ⟨j, rfl⟩ : ∃ j, i = j + 1 := ⟨i - 1, by omega⟩
          rw [Nat.add_sub_cancel, Nat.succ_mul]
        refine ⟨_, rfl, _, rfl, _, _, rfl, rfl, .inl (.inl ⟨_, _, _, _, rfl, rfl, SqL.of gD5, hb1', _, _, rfl, .inl ⟨_, SqL.of hb2, rfl⟩, ?_⟩)⟩
        refine ⟨_, rfl, _, rfl, .inl (.inl ⟨_, _, _, _, rfl, rfl, SqL.of gD5, ha1, _, _, rfl, .inl ⟨_, SqL.of ha2, rfl⟩, .inl (.inl ⟨_, _, rfl, rfl, ?_⟩)⟩)⟩
        refine ⟨_, rfl, _, _, rfl, rfl, _, rfl, iteN (by rw [RL_len, RL_len]; omega) ?_⟩
        refine ⟨_, rfl, _, rfl, _, rfl, .inl (.inl ⟨_, _, _, _, rfl, rfl, SqL.of gD5, ha1, .inr ⟨ra, ts[i], _, _, rfl, rfl, gra, ha2, (by rw [RL_len, RL_len]; exact small5 (by have := List.length_take_le (i * m) rs; omega)), fun p3 hp3 => ?_⟩⟩)⟩
        obtain ⟨ra2, w1, w2, rfl⟩ := last p3 hp3
        exact ⟨_, w1, w2, _, rfl⟩
      · refine ⟨_, rfl, _, rfl, _, rfl, .inl (.inl ⟨_, _, _, _, rfl, rfl, SqL.of gD5, ha1, .inr ⟨ra, ts[i], _, _, rfl, rfl, gra, ha2, (by rw [RL_len, RL_len]; exact small5 (by have := List.length_take_le (i * m) rs; omega)), fun p3 hp3 => ?_⟩⟩)⟩
        obtain ⟨ra2, w1, w2, rfl⟩ := last p3 hp3
        exact ⟨_, w1, w2, _, rfl⟩
    rintro σ H5 ⟨ra, hs, gra, z, rfl⟩
    rw [hts, chunks_all hm0] at gra
    have hs7 := hs5.trans hs
    refine ⟨_, rfl, _, rfl, kp, ks, rfl, SqL.of (hs7 _ _ hk), by omega, hperm.nodup_iff.mpr (asc_nodup R.a), fun ss hss hpp p5 hp5 => ?_⟩
    obtain rfl : rs = ss := (asc_eq hss R.a (hpp.trans hperm)).symm
    have s8 := same_new (o := HO.lst (RL rs)) hp5
    refine .inr ⟨ra, p5, rs, rs, rfl, rfl, s8 _ _ gra, upd_same, _, rfl, ?_⟩
    rw [decide_eq_true rfl]
    refine iteF ?_
    have hs9 := hs.trans s8
    have hsA := hs7.trans s8
    generalize upd H5 p5 (HO.lst (RL rs)) = H6 at hs9 hsA ⊢
    clear s8 hp5 gra hs7 hs
    have hT1H : H T1 = none := hs1.free hT1
    refine ⟨_, rfl, ah, rfl, ?_⟩
    refine iteC (by rw [hah]; rfl) ⟨_, rfl, p, dx, _, rfl, hsA _ _ hp, slookm .., p, dx, fm, l, m, rs, rfl, ⟨hsA _ _ hp, hsA _ _ hl⟩, h2, h20, R, fun FB hFB => ?_⟩
    have gFB := upd_same (H := H6) (a := FB) (o := HO.lst (RL (prts rs m)))
    have sB := same_new (o := HO.lst (RL (prts rs m))) hFB
    have hs7 := hs9.trans sB
    have hsB := hsA.trans sB
    have neT : FB ≠ T1 := fun z => by have := hs9 _ _ gT; rw [← z, hFB] at this; cases this
    have hFBH : H FB = none := hsA.free hFB
    generalize upd H6 FB (HO.lst (RL (prts rs m))) = H7 at gFB hs7 hsB ⊢
    have gD7 := hs7 _ _ hD4
    have gT7 := hs7 _ _ gT
    refine ⟨_, rfl, FB, prts rs m, rfl, gFB, by omega, true, rfl, iteF ?_⟩
    refine ⟨_, rfl, _, _, rfl, .inl ⟨_, SqL.of gFB, rfl⟩, _, rfl, _, _, rfl, .inl ⟨_, SqL.of gD7, rfl⟩, _, _, rfl, rfl, _, _, rfl, .inl ⟨rfl, _, rfl, ?_⟩⟩
    have emx : V.int (((RL (prts rs m)).length : Nat) : Int) = V.int (if (((ts.map V.ref).length : Nat) : Int) - 1 > 0 then (((ts.map V.ref).length : Nat) : Int) - 1 else 0) := by
      rw [RL_len, lpr, List.length_map, hts, hnt]
      congr 1
      split <;> omega
    rw [decide_eq_true emx]
    refine iteF ⟨_, rfl, _, _, rfl, .inl ⟨_, SqL.of gFB, rfl⟩, _, rfl, (by rw [RL_len]; omega), (by rw [RL_len]; omega), ?_⟩
    have eF : (((RL (prts rs m)).length : Nat) : Int).toNat = npt rs.length m := by rw [RL_len, lpr]; omega
    rw [eF]
    refine for_range (fun i σ H8 => H8 = H7 ∧ ∃ z, σ = [some (.ref p), some (.int ((m : Nat) : Int)), some (.ref kp), some (.bl ah), some (.ref FB), some (.ref T1), some (.ref D), some (.ref ra), z]) ⟨rfl, _, rfl⟩ ?_ ?_
    · rintro i σ H8 hi ⟨rfl, z9, rfl⟩
      rw [Int.zero_add]
      have hi2 := (lt_npt hm0).mp hi
      have hic : i < ts.length := by omega
      have hic2 : i + 1 < ts.length := by omega
      obtain ⟨ha1, ha2⟩ := at_ i hic hs7
      obtain ⟨hb1, hb2⟩ := at_ (i + 1) hic2 hs7
      have hb1' : atI (ts.map V.ref) (((i : Nat) : Int) + 1) = some (.ref ts[i + 1]) := hb1
      have hcl := chunk_len rs m i
      have hcl2 := chunk_len rs m (i + 1)
      have hcomm : i * m + m = m + i * m := Nat.add_comm ..
      have hsucc : (i + 1) * m = m + i * m := by rw [Nat.succ_mul]; exact hcomm
      obtain ⟨k, hk9⟩ : ∃ k, k = m + i * m := ⟨_, rfl⟩
      have hkl : k < rs.length := by omega
      have hatF : atI (RL (prts rs m)) ((i : Nat) : Int) = some (.str (rowS (prt rs[k - 1] rs[k]))) := atI_nat (RL_at (by
        unfold prts
        rw [List.getElem?_map, List.getElem?_range hi, Option.map_some, ← hk9]
        have g1 : rs.getD (k - 1) [] = rs[k - 1] := by simp [List.getD, List.getElem?_eq_getElem (show k - 1 < rs.length by omega)]
        have g2 : rs.getD k [] = rs[k] := by simp [List.getD, List.getElem?_eq_getElem hkl]
        show some (prt (rs.getD (k - 1) []) (rs.getD k [])) = _
        rw [g1, g2]))
      have hl0 : (chunk rs m i)[m - 1]? = some rs[k - 1] := by
        unfold chunk
        rw [List.getElem?_take_of_lt (by omega), List.getElem?_drop, show i * m + (m - 1) = k - 1 by omega, List.getElem?_eq_getElem]
      have hlast : atI (RL (chunk rs m i)) (-1) = some (.str (rowS rs[k - 1])) := atI_neg1 (by rw [RL_len]; omega) (by rw [RL_len, show (chunk rs m i).length - 1 = m - 1 by omega]; exact RL_at hl0)
      have hf0 : (chunk rs m (i + 1))[0]? = some rs[k] := by
        unfold chunk
        rw [List.getElem?_take_of_lt (by omega), List.getElem?_drop, Nat.add_zero, hsucc, ← hk9, List.getElem?_eq_getElem]
      have hfirst : atI (RL (chunk rs m (i + 1))) 0 = some (.str (rowS rs[k])) := atI_nat (j := 0) (RL_at hf0)
      have b1 := R.b _ (List.getElem_mem (show k - 1 < rs.length by omega))
      have b2 := R.b _ (List.getElem_mem hkl)
      have lt := List.pairwise_iff_getElem.mp (asc_pw.mp R.a) (k - 1) k (by omega) hkl (by omega)
      refine ⟨_, rfl, _, rfl, .inl (.inl ⟨_, _, _, _, rfl, rfl, SqL.of gFB, hatF, ?_⟩)⟩
      refine ⟨_, rfl, _, rfl, .inl (.inl ⟨_, _, _, _, rfl, rfl, SqL.of gD7, ha1, _, rfl, .inl (.inl ⟨_, _, _, _, rfl, rfl, SqL.of ha2, hlast, ?_⟩)⟩)⟩
      refine ⟨_, rfl, _, rfl, .inl (.inl ⟨_, _, rfl, rfl, .inl (.inl ⟨_, _, _, _, rfl, rfl, SqL.of gD7, hb1', .inl (.inl ⟨_, _, _, _, rfl, rfl, SqL.of hb2, hfirst, ?_⟩)⟩)⟩)⟩
      refine ⟨rs[k - 1], rs[k], rfl, by omega, by omega, lt, .inl ⟨rfl, _, rfl, ?_⟩⟩
      rw [decide_eq_true rfl]
      exact iteF ⟨rfl, _, rfl⟩
    rintro σ H8 ⟨rfl, z9, rfl⟩
    refine ⟨_, rfl, T1, _, rfl, .inl (SqL.of gT7), fun c1 hc1 => ?_⟩
    have u1 := same_new (o := HO.lst (RL (pgs rs m))) hc1
    refine ⟨_, rfl, FB, _, rfl, .inl (SqL.of (u1 _ _ gFB)), fun c2 hc2 => ?_⟩
    have u2 := same_new (o := HO.lst (RL (prts rs m))) hc2
    refine ⟨(by show 2 ≤ sizeLine; decide), fun kq hkq => ?_⟩
    have u3 := same_new (o := HO.lst [V.ref c1, V.ref c2]) hkq
    have v1 := u3 _ _ (u2 _ _ (upd_same (H := H8) (a := c1) (o := HO.lst (RL (pgs rs m)))))
    have v2 := u3 _ _ (upd_same (H := upd H8 c1 (HO.lst (RL (pgs rs m)))) (a := c2) (o := HO.lst (RL (prts rs m))))
    have v3 := upd_same (H := upd (upd H8 c1 (HO.lst (RL (pgs rs m)))) c2 (HO.lst (RL (prts rs m)))) (a := kq) (o := HO.lst [V.ref c1, V.ref c2])
    have u := (u1.trans u2).trans u3
    have wT := u _ _ gT7
    have wF := u _ _ gFB
    have hsC := hsB.trans u
    have k1 : c1 ≠ T1 := (ne_of_none gT7 hc1).symm
    have k2 : c2 ≠ T1 := (ne_of_none (u1 _ _ gT7) hc2).symm
    have k3 : kq ≠ T1 := (ne_of_none ((u1.trans u2) _ _ gT7) hkq).symm
    have k4 : c1 ≠ FB := (ne_of_none gFB hc1).symm
    have k5 : c2 ≠ FB := (ne_of_none (u1 _ _ gFB) hc2).symm
    have k6 : kq ≠ FB := (ne_of_none ((u1.trans u2) _ _ gFB) hkq).symm
    generalize upd (upd (upd H8 c1 (HO.lst (RL (pgs rs m)))) c2 (HO.lst (RL (prts rs m)))) kq (HO.lst [V.ref c1, V.ref c2]) = H9 at v1 v2 v3 wT wF hsC ⊢
    refine ⟨_, rfl, .inl ⟨rfl, _, SqL.of wT⟩, T1, _, _, rfl, rfl, wT, (by rw [RL_len]; exact Nat.lt_of_le_of_lt (show (pgs rs m).length ≤ 1000 by omega) (by decide)), ?_⟩
    refine ⟨_, rfl, .inl ⟨rfl, _, SqL.of (by rw [upd_ne neT]; exact wF)⟩, FB, _, _, rfl, rfl, (by rw [upd_ne neT]; exact wF), (by rw [RL_len]; exact Nat.lt_of_le_of_lt (show (prts rs m).length ≤ 1000 by omega) (by decide)), ?_⟩
    have hsD : Same H (upd (upd H9 T1 (HO.lst (RL (pgs rs m) ++ [V.str (Str.ofString "")]))) FB (HO.lst (RL (prts rs m) ++ [V.str (Str.ofString "")]))) := same_updr (same_updr hsC hT1H) hFBH
    have x1 : upd (upd H9 T1 (HO.lst (RL (pgs rs m) ++ [V.str (Str.ofString "")]))) FB (HO.lst (RL (prts rs m) ++ [V.str (Str.ofString "")])) c1 = some (HO.lst (RL (pgs rs m))) := by rw [upd_ne k4, upd_ne k1]; exact v1
    have x2 : upd (upd H9 T1 (HO.lst (RL (pgs rs m) ++ [V.str (Str.ofString "")]))) FB (HO.lst (RL (prts rs m) ++ [V.str (Str.ofString "")])) c2 = some (HO.lst (RL (prts rs m))) := by rw [upd_ne k5, upd_ne k2]; exact v2
    have x3 : upd (upd H9 T1 (HO.lst (RL (pgs rs m) ++ [V.str (Str.ofString "")]))) FB (HO.lst (RL (prts rs m) ++ [V.str (Str.ofString "")])) kq = some (HO.lst [V.ref c1, V.ref c2]) := by rw [upd_ne k6, upd_ne k3]; exact v3
    generalize upd (upd H9 T1 (HO.lst (RL (pgs rs m) ++ [V.str (Str.ofString "")]))) FB (HO.lst (RL (prts rs m) ++ [V.str (Str.ofString "")])) = HA at hsD x1 x2 x3 ⊢
    refine ⟨_, rfl, p, dx, _, rfl, hsD _ _ hp, slookm .., p, dx, fm, l, m, rs, rfl, ⟨hsD _ _ hp, hsD _ _ hl⟩, h2, h20, R, fun q1 hq1 => ?_⟩
    have y1 := same_new (o := HO.lst (RL (pgs rs m))) hq1
    refine ⟨_, rfl, p, dx, _, rfl, y1 _ _ (hsD _ _ hp), slookm .., p, dx, fm, l, m, rs, rfl, ⟨y1 _ _ (hsD _ _ hp), y1 _ _ (hsD _ _ hl)⟩, h2, h20, R, fun q2 hq2 => ?_⟩
    have y2 := same_new (o := HO.lst (RL (prts rs m))) hq2
    refine ⟨(by show 2 ≤ sizeLine; decide), fun q3 hq3 => ?_⟩
    have y3 := same_new (o := HO.lst [V.ref q1, V.ref q2]) hq3
    have y := (y1.trans y2).trans y3
    refine ⟨_, rfl, .inr ⟨q3, kq, q1, q2, c1, c2, pgs rs m, prts rs m, pgs rs m, prts rs m, rfl, rfl, upd_same, y _ _ x3, y3 _ _ (y2 _ _ upd_same), y3 _ _ upd_same, y _ _ x1, y _ _ x2, H, .refl (hsD.trans y), ?_⟩⟩
    rw [decide_eq_true rfl, decide_eq_true rfl]
    exact q

theorem fn_or {f : Addr} {fd : FuncData} {k : Nat} {ps : List Str} {sp sp2 : Sp} (F : FnOk P w K mg base CX0 k f fd ps sp) (F2 : FnOk P w K mg base CX0 k f fd ps sp2) : FnOk P w K mg base CX0 k f fd ps (fun vs H Q E => sp vs H Q E ∨ sp2 vs H Q E) :=
  ⟨fun vs H Q E h => h.elim (F.len vs H Q E) (F2.len vs H Q E), fun A outer s H args us vs Q E hr he hb hv h => h.elim (F.run A outer s H args us vs Q E hr he hb hv) (F2.run A outer s H args us vs Q E hr he hb hv)⟩
/-- the form, whole or turned -/
def KindAt (CT CW : Addr) (t : Bool) : FP := fun H fm => if t = true then isT CT CW H fm else isW CW H fm
def rowK (t : Bool) (v : Int) : List Bool := if t = true then trow v else whl v
theorem rowK_len {t : Bool} {v : Int} (h : WholeIn v) : (rowK t v).length ≤ 300 := by
  have := whl_length h.1 h.2
  unfold rowK trow
  split
  · rw [List.length_map]; omega
  · omega
/-- what may be changed beside a form -/
def Lts (H : Hp) (x : Addr) : Prop := H x = none ∨ (∃ xs, H x = some (.lst xs)) ∨ ∃ C d f m l, H x = some (.ins C d (shF f m l))
theorem isW_upd {CW : Addr} {H : Hp} {x fm : Addr} {o : HO} (h : isW CW H fm) (hx : Lts H x) : isW CW (upd H x o) fm := by
  obtain ⟨dx, e⟩ := h
  refine ⟨dx, ?_⟩
  rw [upd_ne]
  · exact e
  · intro z
    subst z
    rcases hx with y | ⟨_, y⟩ | ⟨_, _, _, _, _, y⟩
    · rw [e] at y; cases y
    · rw [e] at y; cases y
    · rw [e] at y
      unfold shF at y
      simp at y
theorem kind_upd {CT CW : Addr} {t : Bool} {H : Hp} {x fm : Addr} {o : HO} (h : KindAt CT CW t H fm) (hx : Lts H x) : KindAt CT CW t (upd H x o) fm := by
  unfold KindAt at h ⊢
  split at h
  · rename_i ht
    rw [if_pos ht]
    obtain ⟨dx, wa, e, hw⟩ := h
    refine ⟨dx, wa, ?_, isW_upd hw hx⟩
    rw [upd_ne]
    · exact e
    · intro z
      subst z
      rcases hx with y | ⟨_, y⟩ | ⟨_, _, _, _, _, y⟩
      · rw [e] at y; cases y
      · rw [e] at y; cases y
      · rw [e] at y
        unfold shF at y
        simp at y
  · rename_i ht
    rw [if_neg ht]
    exact isW_upd h hx
theorem kind_same {CT CW : Addr} {t : Bool} {H H' : Hp} {fm : Addr} (h : KindAt CT CW t H fm) (hs : Same H H') : KindAt CT CW t H' fm := by
  unfold KindAt at h ⊢
  split at h
  · rename_i ht
    rw [if_pos ht]
    obtain ⟨dx, wa, e, dw, e2⟩ := h
    exact ⟨dx, wa, hs _ _ e, dw, hs _ _ e2⟩
  · rename_i ht
    rw [if_neg ht]
    obtain ⟨dx, e⟩ := h
    exact ⟨dx, hs _ _ e⟩
/-- a shelf and the rows kept beside it -/
structure Kept (CS : Addr) (H : Hp) (s d fm : Addr) (m : Nat) (l kp : Addr) (rs ks : List (List Bool)) : Prop where
  sh : ShAt H s CS d fm ((m : Nat) : Int) l rs
  hk : H kp = some (.lst (RL ks))
  a : Asc rs
  b : ∀ r ∈ rs, r.length ≤ 300
  pm : ks.Perm rs
  ne : l ≠ kp
  m2 : 2 ≤ m
  m20 : m ≤ 20
theorem Kept.frame {CS : Addr} {H H' : Hp} {s d fm : Addr} {m : Nat} {l kp : Addr} {rs ks : List (List Bool)} (h : Kept CS H s d fm m l kp rs ks) (e1 : H' s = H s) (e2 : H' l = H l) (e3 : H' kp = H kp) : Kept CS H' s d fm m l kp rs ks :=
  ⟨⟨e1.trans h.sh.1, e2.trans h.sh.2⟩, e3.trans h.hk, h.a, h.b, h.pm, h.ne, h.m2, h.m20⟩
theorem Kept.same {CS : Addr} {H H' : Hp} {s d fm : Addr} {m : Nat} {l kp : Addr} {rs ks : List (List Bool)} (h : Kept CS H s d fm m l kp rs ks) (hs : Same H H') : Kept CS H' s d fm m l kp rs ks :=
  ⟨⟨hs _ _ h.sh.1, hs _ _ h.sh.2⟩, hs _ _ h.hk, h.a, h.b, h.pm, h.ne, h.m2, h.m20⟩
theorem lst_ne_ins {H : Hp} {x y C d : Addr} {fs : List (Str × V)} {xs : List V} (h : H x = some (.lst xs)) (h2 : H y = some (.ins C d fs)) : x ≠ y := fun z => by rw [z, h2] at h; cases h
theorem perm_ins {x : List Bool} {ks rs : List (List Bool)} (h : ks.Perm rs) : (ks ++ [x]).Perm (insR x rs) :=
  List.perm_append_comm.trans ((h.cons x).trans (insR_perm x rs).symm)
theorem perm_less {x : List Bool} {ks rs : List (List Bool)} (h : ks.Perm rs) : (lessR x ks).Perm (lessR x rs) := h.filter _
/-- a new row put and kept -/
theorem Kept.put {CS : Addr} {H : Hp} {s d fm : Addr} {m : Nat} {l kp l' : Addr} {rs ks : List (List Bool)} {x : List Bool} (h : Kept CS H s d fm m l kp rs ks) (hx : x ∉ rs) (hxl : x.length ≤ 300) (hl' : H l' = none) :
    Kept CS (upd (upd (upd H s (.ins CS d (shF fm ((m : Nat) : Int) l'))) l' (.lst (RL (insR x rs)))) kp (.lst (RL (ks ++ [x])))) s d fm m l' kp (insR x rs) (ks ++ [x]) := by
  have n1 : l' ≠ s := (ne_of_none h.sh.1 hl').symm
  have n2 : l' ≠ kp := (ne_of_none h.hk hl').symm
  have n3 : kp ≠ s := lst_ne_ins h.hk h.sh.1
  refine ⟨⟨?_, ?_⟩, upd_same, insR_asc h.a hx, fun r hr => ?_, perm_ins h.pm, n2, h.m2, h.m20⟩
  · rw [upd_ne (Ne.symm n3), upd_ne (Ne.symm n1), upd_same]
  · rw [upd_ne n2, upd_same]
  · rcases insR_mem hr with z | z
    · rw [z]; exact hxl
    · exact h.b r z
/-- a row taken, and the others kept in a new list -/
theorem Kept.take {CS : Addr} {H : Hp} {s d fm : Addr} {m : Nat} {l kp kp' : Addr} {rs ks : List (List Bool)} {x : List Bool} (h : Kept CS H s d fm m l kp rs ks) (hk' : upd H l (.lst (RL (lessR x rs))) kp' = none) :
    Kept CS (upd (upd H l (.lst (RL (lessR x rs)))) kp' (.lst (RL (lessR x ks)))) s d fm m l kp' (lessR x rs) (lessR x ks) := by
  have n0 : l ≠ kp' := fun z => by rw [← z, upd_same] at hk'; cases hk'
  have hk0 : H kp' = none := by rw [upd_ne (Ne.symm n0)] at hk'; exact hk'
  have n1 : s ≠ kp' := ne_of_none h.sh.1 hk0
  have n2 : s ≠ l := (lst_ne_ins h.sh.2 h.sh.1).symm
  refine ⟨⟨?_, ?_⟩, upd_same, asc_filter h.a _, fun r hr => h.b r (less_mem hr), perm_less h.pm, n0, h.m2, h.m20⟩
  · rw [upd_ne n1, upd_ne n2]; exact h.sh.1
  · rw [upd_ne n0, upd_same]
theorem less_same {x : List Bool} {rs : List (List Bool)} (h : x ∉ rs) : lessR x rs = rs := List.filter_eq_self.mpr fun y hy => decide_eq_true fun e => h (e ▸ hy)

theorem same_obj {H : Hp} {x dx : Addr} {o o2 : HO} (hx : H x = none) (hdx : H dx = none) (hne : dx ≠ x) : Same H (upd (upd H dx o) x o2) :=
  (same_new hdx).trans (same_new (by rw [upd_ne (Ne.symm hne)]; exact hx))
theorem shelf_new {H : Hp} {p d l C fm : Addr} {m : Int} (hp : H p = none) (hd : H d = none) (hne : d ≠ p) (hl : upd (upd H d (.own p)) p (.ins C d []) l = none) :
    Same H (upd (upd (upd (upd H d (.own p)) p (.ins C d [])) p (.ins C d (shF fm m l))) l (.lst [])) ∧ ShAt (upd (upd (upd (upd H d (.own p)) p (.ins C d [])) p (.ins C d (shF fm m l))) l (.lst [])) p C d fm m l [] ∧ H l = none ∧ l ≠ p := by
  have n1 : l ≠ p := fun z => by rw [z, upd_same] at hl; cases hl
  have s := same_obj (o := HO.own p) (o2 := HO.ins C d []) hp hd hne
  have h0 := s.free hl
  refine ⟨same_updr (same_updr s hp) h0, ⟨?_, upd_same⟩, h0, n1⟩
  rw [upd_ne (Ne.symm n1), upd_same]
theorem Kept.new {CS : Addr} {H : Hp} {s d fm : Addr} {m : Nat} {l kp : Addr} (h : ShAt H s CS d fm ((m : Nat) : Int) l []) (hk : H kp = some (.lst [])) (hne : l ≠ kp) (m2 : 2 ≤ m) (m20 : m ≤ 20) : Kept CS H s d fm m l kp [] [] :=
  ⟨h, hk, trivial, (fun r hr => nomatch hr), .refl _, hne, m2, m20⟩
theorem Kept.rekeep {CS : Addr} {H : Hp} {s d fm : Addr} {m : Nat} {l kp kp' : Addr} {rs ks : List (List Bool)} (h : Kept CS H s d fm m l kp rs ks) (hk : H kp' = none) : Kept CS (upd H kp' (.lst (RL ks))) s d fm m l kp' rs ks :=
  ⟨⟨by rw [upd_ne (ne_of_none h.sh.1 hk)]; exact h.sh.1, by rw [upd_ne (ne_of_none h.sh.2 hk)]; exact h.sh.2⟩, upd_same, h.a, h.b, h.pm, ne_of_none h.sh.2 hk, h.m2, h.m20⟩
/-- two shelves, and lists beside them that nobody changes -/
structure Two (CS CT CW : Addr) (H H' : Hp) (t : Bool) (fm : Addr) (L : List (Addr × List V)) (m : Nat) (p1 d1 l1 k1 : Addr) (rs1 ks1 : List (List Bool)) (m' : Nat) (p2 d2 l2 k2 : Addr) (rs2 ks2 : List (List Bool)) : Prop where
  hs : Same H H'
  k : KindAt CT CW t H' fm
  a : Kept CS H' p1 d1 fm m l1 k1 rs1 ks1
  b : Kept CS H' p2 d2 fm m' l2 k2 rs2 ks2
  n1 : H p1 = none
  n2 : H p2 = none
  n3 : H l1 = none
  n4 : H l2 = none
  n5 : H k1 = none
  n6 : H k2 = none
  dp : p1 ≠ p2
  dl : l1 ≠ l2
  lk : l1 ≠ k2
  kl : k1 ≠ l2
  kk : k1 ≠ k2
  off : ∀ y ∈ L, H' y.1 = some (.lst y.2) ∧ y.1 ≠ l1 ∧ y.1 ≠ k1 ∧ y.1 ≠ l2 ∧ y.1 ≠ k2
section
variable {CS CT CW fm p1 d1 l1 k1 p2 d2 l2 k2 : Addr} {H H' : Hp} {t : Bool} {L : List (Addr × List V)} {m m' : Nat} {rs1 ks1 rs2 ks2 : List (List Bool)}
theorem Two.swap (h : Two CS CT CW H H' t fm L m p1 d1 l1 k1 rs1 ks1 m' p2 d2 l2 k2 rs2 ks2) : Two CS CT CW H H' t fm L m' p2 d2 l2 k2 rs2 ks2 m p1 d1 l1 k1 rs1 ks1 :=
  ⟨h.hs, h.k, h.b, h.a, h.n2, h.n1, h.n4, h.n3, h.n6, h.n5, h.dp.symm, h.dl.symm, h.kl.symm, h.lk.symm, h.kk.symm, fun y hy => let ⟨e, a, b, c, d⟩ := h.off y hy; ⟨e, c, d, a, b⟩⟩
theorem Two.same {H'' : Hp} (h : Two CS CT CW H H' t fm L m p1 d1 l1 k1 rs1 ks1 m' p2 d2 l2 k2 rs2 ks2) (s : Same H' H'') : Two CS CT CW H H'' t fm L m p1 d1 l1 k1 rs1 ks1 m' p2 d2 l2 k2 rs2 ks2 :=
  ⟨h.hs.trans s, kind_same h.k s, h.a.same s, h.b.same s, h.n1, h.n2, h.n3, h.n4, h.n5, h.n6, h.dp, h.dl, h.lk, h.kl, h.kk, fun y hy => let ⟨e, a, b, c, d⟩ := h.off y hy; ⟨s _ _ e, a, b, c, d⟩⟩
theorem Two.more {x : Addr} {xs : List V} (h : Two CS CT CW H H' t fm L m p1 d1 l1 k1 rs1 ks1 m' p2 d2 l2 k2 rs2 ks2) (hx : H' x = none) : Two CS CT CW H (upd H' x (.lst xs)) t fm ((x, xs) :: L) m p1 d1 l1 k1 rs1 ks1 m' p2 d2 l2 k2 rs2 ks2 :=
  have z := h.same (same_new (o := HO.lst xs) hx)
  ⟨z.hs, z.k, z.a, z.b, z.n1, z.n2, z.n3, z.n4, z.n5, z.n6, z.dp, z.dl, z.lk, z.kl, z.kk, fun y hy => (List.mem_cons.mp hy).elim (fun e => e ▸ ⟨upd_same, (ne_of_none h.a.sh.2 hx).symm, (ne_of_none h.a.hk hx).symm, (ne_of_none h.b.sh.2 hx).symm, (ne_of_none h.b.hk hx).symm⟩) fun hy => z.off y hy⟩
theorem Two.less {x : Addr} {xs : List V} (h : Two CS CT CW H H' t fm ((x, xs) :: L) m p1 d1 l1 k1 rs1 ks1 m' p2 d2 l2 k2 rs2 ks2) : Two CS CT CW H H' t fm L m p1 d1 l1 k1 rs1 ks1 m' p2 d2 l2 k2 rs2 ks2 :=
  { h with off := fun y hy => h.off y (List.mem_cons_of_mem _ hy) }
theorem Two.put {x : List Bool} {l' : Addr} (h : Two CS CT CW H H' t fm L m p1 d1 l1 k1 rs1 ks1 m' p2 d2 l2 k2 rs2 ks2) (hx : x ∉ rs1) (hxl : x.length ≤ 300) (hl' : H' l' = none) :
    Two CS CT CW H (upd (upd (upd H' p1 (.ins CS d1 (shF fm ((m : Nat) : Int) l'))) l' (.lst (RL (insR x rs1)))) k1 (.lst (RL (ks1 ++ [x])))) t fm L m p1 d1 l' k1 (insR x rs1) (ks1 ++ [x]) m' p2 d2 l2 k2 rs2 ks2 := by
  have a := h.a
  have b := h.b
  have np : l' ≠ p1 := (ne_of_none a.sh.1 hl').symm
  have nk : l' ≠ k1 := (ne_of_none a.hk hl').symm
  have nkp : k1 ≠ p1 := lst_ne_ins a.hk a.sh.1
  refine ⟨same_updr (same_updr (same_updr h.hs h.n1) (h.hs.free hl')) h.n5, ?_, a.put hx hxl hl', b.frame ?_ ?_ ?_, h.n1, h.n2, h.hs.free hl', h.n4, h.n5, h.n6, h.dp, (ne_of_none b.sh.2 hl').symm, (ne_of_none b.hk hl').symm, h.kl, h.kk, fun y hy => ?_⟩
  · exact kind_upd (kind_upd (kind_upd h.k (.inr (.inr ⟨_, _, _, _, _, a.sh.1⟩))) (.inl (by rw [upd_ne np]; exact hl'))) (.inr (.inl ⟨_, by rw [upd_ne nk.symm, upd_ne nkp]; exact a.hk⟩))
  · rw [upd_ne (lst_ne_ins a.hk b.sh.1).symm, upd_ne (ne_of_none b.sh.1 hl'), upd_ne h.dp.symm]
  · rw [upd_ne h.kl.symm, upd_ne (ne_of_none b.sh.2 hl'), upd_ne (lst_ne_ins b.sh.2 a.sh.1)]
  · rw [upd_ne h.kk.symm, upd_ne (ne_of_none b.hk hl'), upd_ne (lst_ne_ins b.hk a.sh.1)]
  · obtain ⟨e, o1, o2, o3, o4⟩ := h.off y hy
    have nl : y.1 ≠ l' := ne_of_none e hl'
    exact ⟨by rw [upd_ne o2, upd_ne nl, upd_ne (lst_ne_ins e a.sh.1)]; exact e, nl, o2, o3, o4⟩
theorem Two.take {x : List Bool} {k' : Addr} (h : Two CS CT CW H H' t fm L m p1 d1 l1 k1 rs1 ks1 m' p2 d2 l2 k2 rs2 ks2) (hk' : upd H' l1 (.lst (RL (lessR x rs1))) k' = none) :
    Two CS CT CW H (upd (upd H' l1 (.lst (RL (lessR x rs1)))) k' (.lst (RL (lessR x ks1)))) t fm L m p1 d1 l1 k' (lessR x rs1) (lessR x ks1) m' p2 d2 l2 k2 rs2 ks2 := by
  have a := h.a
  have b := h.b
  have n0 : k' ≠ l1 := fun z => by rw [z, upd_same] at hk'; cases hk'
  have hk0 : H' k' = none := by rw [upd_ne n0] at hk'; exact hk'
  refine ⟨same_updr (same_updr h.hs h.n3) (h.hs.free hk0), ?_, a.take hk', b.frame ?_ ?_ ?_, h.n1, h.n2, h.n3, h.n4, h.hs.free hk0, h.n6, h.dp, h.dl, h.lk, (ne_of_none b.sh.2 hk0).symm, (ne_of_none b.hk hk0).symm, fun y hy => ?_⟩
  · exact kind_upd (kind_upd h.k (.inr (.inl ⟨_, a.sh.2⟩))) (.inl hk')
  · rw [upd_ne (ne_of_none b.sh.1 hk0), upd_ne (lst_ne_ins a.sh.2 b.sh.1).symm]
  · rw [upd_ne (ne_of_none b.sh.2 hk0), upd_ne h.dl.symm]
  · rw [upd_ne (ne_of_none b.hk hk0), upd_ne h.lk.symm]
  · obtain ⟨e, o1, o2, o3, o4⟩ := h.off y hy
    have nl : y.1 ≠ k' := ne_of_none e hk0
    exact ⟨by rw [upd_ne nl, upd_ne o1]; exact e, o1, nl, o3, o4⟩
theorem Two.rekeep {k' : Addr} (h : Two CS CT CW H H' t fm L m p1 d1 l1 k1 rs1 ks1 m' p2 d2 l2 k2 rs2 ks2) (hk : H' k' = none) : Two CS CT CW H (upd H' k' (.lst (RL ks1))) t fm L m p1 d1 l1 k' rs1 ks1 m' p2 d2 l2 k2 rs2 ks2 := by
  have s := same_new (o := HO.lst (RL ks1)) hk
  have z := h.same s
  exact ⟨z.hs, z.k, h.a.rekeep hk, z.b, h.n1, h.n2, h.n3, h.n4, h.hs.free hk, h.n6, h.dp, h.dl, h.lk, (ne_of_none h.b.sh.2 hk).symm, (ne_of_none h.b.hk hk).symm, fun y hy => let ⟨e, o1, o2, o3, o4⟩ := h.off y hy; ⟨s _ _ e, o1, ne_of_none e hk, o3, o4⟩⟩
theorem Two.rws (h : Two CS CT CW H H' t fm L m p1 d1 l1 k1 rs1 ks1 m' p2 d2 l2 k2 rs2 ks2) (n : rs1.length ≤ 62) : Rws rs1 := ⟨h.a.a, n, h.a.b⟩
end
theorem put_kind {CS CT CW : Addr} {t : Bool} {vs : List V} {H : Hp} {Q : VK} {E : XK} (h : spPut CS (KindAt CT CW t) (rowK t) vs H Q E) : spPut CS (isW CW) whl vs H Q E ∨ spPut CS (isT CT CW) trow vs H Q E := by
  cases t with
  | false => exact .inl h
  | true => exact .inr h
theorem take_kind {CS CT CW : Addr} {t : Bool} {vs : List V} {H : Hp} {Q : VK} {E : XK} (h : spTake CS (KindAt CT CW t) (rowK t) vs H Q E) : spTake CS (isW CW) whl vs H Q E ∨ spTake CS (isT CT CW) trow vs H Q E := by
  cases t with
  | false => exact .inl h
  | true => exact .inr h
set_option maxHeartbeats 4000000 in
theorem ok_law {f CS CT CW : Addr} {fd : FuncData} (nb : NB mg) (T : ShCls K CS) (c_C : Cls K CS) (F : Fun K "law" "law" s_law f fd) (M0_Whole : Mk0 K CW) (m_Whole : mg "Whole" = some (.ref CW)) (M_Turned : MakeOk P w K mg base 1 "Turned" CT ["self", "inner"] (spTurInit CT)) (M_Shelf : MakeOk P w K mg base 1 "Shelf" CS ["self", "form", "room"] (spShInit CS))
    (M_put : MethOk P w K mg base 7 CS "put" ["self", "value"] (fun vs H Q E => spPut CS (isW CW) whl vs H Q E ∨ spPut CS (isT CT CW) trow vs H Q E)) (M_take : MethOk P w K mg base 7 CS "take" ["self", "value"] (fun vs H Q E => spTake CS (isW CW) whl vs H Q E ∨ spTake CS (isT CT CW) trow vs H Q E))
    (D_law_cell_at : DefOk P w K mg base 1 "_law_cell_at" ["_law_script", "_law_k"] (spCellAt K)) (D_law_number : DefOk P w K mg base 1 "_law_number" ["_law_cell"] spNumber) (D_whole_row : DefOk P w K mg base 3 "whole_row" ["n"] spWholeRow) (D_turned_row : DefOk P w K mg base 1 "turned_row" ["row"] spTurnedRow) (D_law_pages : DefOk P w K mg base 8 "_law_pages" ["_law_shelf", "_law_room", "_law_kept", "_law_ahead"] (spLawPages CS)) :
    FnOk P w K mg base CX0 9 f fd ["_law_script"] (spLaw K) := by
  refine F.okK sc_law (fun vs H Q E h => ?_) (fun cdv A outer s H vs Q E hr h => ?_)
  · obtain ⟨a, ns, rfl, _⟩ := h; rfl
  obtain ⟨a, ns, rfl, hS, hl, q⟩ := h
  refine ⟨_, (pss_cons (ps_set (i := 1) sc_law.nd rfl (by first | exact Or.inl rfl | exact Or.inr rfl) (pe_callD D_law_cell_at hr (pa_cons (pv 0) (pa_cons pe_int pa_nil))))
    (pss_cons (ps_set (i := 2) sc_law.nd rfl (by first | exact Or.inl rfl | exact Or.inr rfl) (pe_op oAdd pe_int (pe_op op_mod (pv 1) pe_int)))
    (pss_cons (ps_if (pt_cmpR oEq (pe_op op_mod (pe_op op_fdiv (pv 1) pe_int) pe_int) pe_int (nomark _)) (pss_one (ps_set (i := 2) sc_law.nd rfl (by first | exact Or.inl rfl | exact Or.inr rfl) (pe_op oAdd pe_int (pe_op op_mod (pe_op op_fdiv (pv 1) pe_int) pe_int)))) pss_nil)
    (pss_cons (ps_set (i := 3) sc_law.nd rfl (by first | exact Or.inl rfl | exact Or.inr rfl) (pe_cmpR oEq (pe_op op_mod (pe_op op_fdiv (pv 1) pe_int) pe_int) pe_int (nomark _)))
    (pss_cons (ps_set (i := 4) sc_law.nd rfl (by first | exact Or.inl rfl | exact Or.inr rfl) (pe_makeN0 M0_Whole rfl m_Whole))
    (pss_cons (ps_if (pt_bl (pv 3) (fun _ => rfl)) (pss_one (ps_set (i := 4) sc_law.nd rfl (by first | exact Or.inl rfl | exact Or.inr rfl) (pe_makeD M_Turned hr (pa_cons (pe_makeN0 M0_Whole rfl m_Whole) pa_nil)))) pss_nil)
    (pss_cons (ps_set (i := 5) sc_law.nd rfl (by first | exact Or.inl rfl | exact Or.inr rfl) (pe_makeD M_Shelf hr (pa_cons (pv 4) (pa_cons (pv 2) pa_nil))))
    (pss_cons (ps_set (i := 6) sc_law.nd rfl (by first | exact Or.inl rfl | exact Or.inr rfl) (pe_makeD M_Shelf hr (pa_cons (pv 4) (pa_cons (pe_op oAdd pe_int (pe_op op_mod (pv 2) pe_int)) pa_nil))))
    (pss_cons (ps_set (i := 7) sc_law.nd rfl (by first | exact Or.inl rfl | exact Or.inr rfl) (pe_lst pa_nil))
    (pss_cons (ps_set (i := 8) sc_law.nd rfl (by first | exact Or.inl rfl | exact Or.inr rfl) (pe_lst pa_nil))
    (pss_cons (ps_for PassesOwn.never rfl (piAll (pe_slice slAll (pv 0) po_none (po_some pe_int))) (pg_name (i := 9) sc_law.nd rfl (by first | exact Or.inl rfl | exact Or.inr rfl))
      (pss_cons (ps_for PassesOwn.never rfl (piAll (pe_lst (pa_cons (pe_callD D_law_number hr (pa_cons (pv 9) pa_nil)) (pa_cons (pe_callD D_law_number hr (pa_cons (pe_op oAdd (pe_op op_fdiv (pv 9) pe_int) pe_int) pa_nil)) pa_nil)))) (pg_name (i := 10) sc_law.nd rfl (by first | exact Or.inl rfl | exact Or.inr rfl))
        (pss_cons (ps_set (i := 11) sc_law.nd rfl (by first | exact Or.inl rfl | exact Or.inr rfl) (pe_callD D_whole_row hr (pa_cons (pv 10) pa_nil)))
        (pss_cons (ps_if (pt_bl (pv 3) (fun _ => rfl)) (pss_one (ps_set (i := 11) sc_law.nd rfl (by first | exact Or.inl rfl | exact Or.inr rfl) (pe_callD D_turned_row hr (pa_cons (pv 11) pa_nil)))) pss_nil)
        (pss_one (ps_if (pt_cmpR oGt (pe_op op_mod (pv 9) pe_int) pe_int (nomark _)) (pss_cons (ps_expr (pe_methD M_put c_C hr (pv 5) (pa_cons (pv 10) pa_nil)))
          (pss_one (ps_if (pt_cmpR op_notIn_seq (pv 11) (pv 7) (by with_unfolding_all rfl)) (pss_one (ps_expr (pe_bm PySem.F.plainAttrs_list PySem.F.slot_list_append PySem.F.type_list_append mt_append (pv 7) (pa_cons (pv 11) pa_nil)))) pss_nil))) (pss_cons (ps_expr (pe_methD M_take c_C hr (pv 5) (pa_cons (pv 10) pa_nil)))
          (pss_one (ps_setComp (i := 7)  ["_law_one"] [(11, "_law_row")] sc_law.nd rfl rfl rfl (by decide +kernel) ⟨rfl, .inl rfl, trivial⟩ (piAll (pv 7)) (fun _ _ _ _ _ => (pg_name (i := 0) (show (["_law_one", "_law_row"] : List Str).Nodup by decide +kernel) rfl (by first | exact Or.inl rfl | exact Or.inr rfl))) (fun _ _ _ _ _ => (pts_one (pt_cmpR oNe (pv 0) (pv 1) (nomark _)))) (fun _ _ _ _ _ => (pv 0))))))))))
      (pss_cons (ps_set (i := 10) sc_law.nd rfl (by first | exact Or.inl rfl | exact Or.inr rfl) (pe_callD D_law_number hr (pa_cons (pe_op op_fdiv (pv 9) pe_int) pa_nil)))
      (pss_cons (ps_set (i := 11) sc_law.nd rfl (by first | exact Or.inl rfl | exact Or.inr rfl) (pe_callD D_whole_row hr (pa_cons (pv 10) pa_nil)))
      (pss_cons (ps_if (pt_bl (pv 3) (fun _ => rfl)) (pss_one (ps_set (i := 11) sc_law.nd rfl (by first | exact Or.inl rfl | exact Or.inr rfl) (pe_callD D_turned_row hr (pa_cons (pv 11) pa_nil)))) pss_nil)
      (pss_cons (ps_expr (pe_methD M_put c_C hr (pv 6) (pa_cons (pv 10) pa_nil)))
      (pss_cons (ps_if (pt_cmpR op_notIn_seq (pv 11) (pv 8) (by with_unfolding_all rfl)) (pss_one (ps_expr (pe_bm PySem.F.plainAttrs_list PySem.F.slot_list_append PySem.F.type_list_append mt_append (pv 8) (pa_cons (pv 11) pa_nil)))) pss_nil)
      (pss_one (ps_if (pt_not (pt_bl (pe_callD D_law_pages hr (pa_cons (pv 5) (pa_cons (pv 2) (pa_cons (pv 7) (pa_cons (pe_cmpR oEq (pe_op op_mod (pe_op op_fdiv (pv 9) pe_int) pe_int) pe_int (nomark _)) pa_nil))))) (fun _ => rfl))) (pss_one (ps_ret pe_bl)) pss_nil)))))))))
    (pss_cons (ps_if (pt_not (pt_bl (pe_callD D_law_pages hr (pa_cons (pv 6) (pa_cons (pe_op oAdd pe_int (pe_op op_mod (pv 2) pe_int)) (pa_cons (pv 8) (pa_cons (pe_cmpR oEq (pe_op op_mod (pv 1) pe_int) pe_int (nomark _)) pa_nil))))) (fun _ => rfl))) (pss_one (ps_ret pe_bl)) pss_nil)
    (pss_one (ps_ret (pe_callD D_law_pages hr (pa_cons (pv 5) (pa_cons (pv 2) (pa_cons (pv 7) (pa_cons (pe_cmpR oEq (pe_op op_mod (pv 1) pe_int) pe_int (nomark _)) pa_nil))))))))))))))))))), ?_⟩
  refine ⟨_, rfl, a, ns, 0, rfl, hS, hl, ?_⟩
  obtain ⟨c0, ec0⟩ : ∃ c, c = ns.getD 0 0 := ⟨_, rfl⟩
  rw [← ec0]
  clear ec0
  refine ⟨_, rfl, _, _, rfl, rfl, (by show (0 : Int) < 5; decide), .inl ⟨_, _, rfl, rfl, ?_⟩⟩
  have m0 := Int.emod_nonneg c0 (show (5 : Int) ≠ 0 by decide)
  have m1 := Int.emod_lt_of_pos c0 (show (0 : Int) < 5 by decide)
  change gName 2 (V.int (2 + c0 % 5)) _ _ _
  generalize emi : 2 + c0 % 5 = mi
  have hm2 : 2 ≤ mi := by omega
  have hm20 : mi ≤ 20 := by omega
  clear emi m0 m1
  have m2 := Int.emod_nonneg (c0 / 20) (show (19 : Int) ≠ 0 by decide)
  have m3 := Int.emod_lt_of_pos (c0 / 20) (show (0 : Int) < 19 by decide)
  refine ⟨_, rfl, _, _, rfl, rfl, ⟨by decide, by decide⟩, _, _, rfl, rfl, (by show (0 : Int) < 4; decide), rfl, _, rfl, ?_⟩
  refine iteD (fun c1 => ?_) (fun c1 => ?_)
  · refine ⟨_, rfl, _, _, rfl, rfl, ⟨by decide, by decide⟩, _, _, rfl, rfl, (by show (0 : Int) < 19; decide), .inl ⟨_, _, rfl, rfl, ?_⟩⟩
    change gName 2 (V.int (2 + c0 / 20 % 19)) _ _ _
    generalize emi : 2 + c0 / 20 % 19 = mi
    have hm2 : 2 ≤ mi := by omega
    have hm20 : mi ≤ 20 := by omega
    clear emi c1 m2 m3
    obtain ⟨m, rfl⟩ : ∃ m' : Nat, mi = (m' : Int) := ⟨mi.toNat, by omega⟩
    have h2 : 2 ≤ m := by omega
    have h20 : m ≤ 20 := by omega
    have e4 : (2 + ((m : Nat) : Int) % 4) = ((2 + m % 4 : Nat) : Int) := by omega
    clear hm2 hm20
    refine ⟨_, rfl, _, _, rfl, rfl, ⟨by decide, by decide⟩, _, _, rfl, rfl, (by show (0 : Int) < 2; decide), rfl, ?_⟩
    generalize decide (_ = V.int 1) = t
    intro x dx hx hdx hne
    have s1 := same_obj (o := HO.own x) (o2 := HO.ins CW dx []) hx hdx hne
    have w1 : isW CW (upd (upd H dx (HO.own x)) x (HO.ins CW dx [])) x := ⟨dx, upd_same⟩
    generalize upd (upd H dx (HO.own x)) x (HO.ins CW dx []) = H1 at s1 w1 ⊢
    refine ⟨_, rfl, t, rfl, ?_⟩
    by_cases ht : t = true
    · refine iteC ht fun x1 dx1 hx1 hdx1 hne1 p dp hp hdp hnep => ⟨p, dp, x1, rfl, upd_same, rfl, ?_⟩
      have s2 := same_obj (o := HO.own x1) (o2 := HO.ins CW dx1 []) hx1 hdx1 hne1
      have w2 : isW CW (upd (upd H1 dx1 (HO.own x1)) x1 (HO.ins CW dx1 [])) x1 := ⟨dx1, upd_same⟩
      generalize upd (upd H1 dx1 (HO.own x1)) x1 (HO.ins CW dx1 []) = H1b at s2 w2 hp hdp ⊢
      have s3 := same_updr (o := HO.ins CT dp [("inner", V.ref x1)]) (same_obj (o := HO.own p) (o2 := HO.ins CT dp []) hp hdp hnep) hp
      have k2 : KindAt CT CW t (upd (upd (upd H1b dp (HO.own p)) p (HO.ins CT dp [])) p (HO.ins CT dp [("inner", V.ref x1)])) p := by
        obtain ⟨d, e⟩ := w2
        unfold KindAt
        rw [if_pos ht]
        exact ⟨dp, x1, upd_same, d, s3 _ _ e⟩
      have hs2 := (s1.trans s2).trans s3
      generalize upd (upd (upd H1b dp (HO.own p)) p (HO.ins CT dp [])) p (HO.ins CT dp [("inner", V.ref x1)]) = H2 at k2 hs2 ⊢
      clear s1 s2 s3 w1 w2 hx1 hdx1 hne1 hp hdp hnep hx hdx hne
      obtain ⟨fm, rfl⟩ : ∃ fm, fm = p := ⟨_, rfl⟩
      refine ⟨_, rfl, _, rfl, fun p1 d1 hp1 hd1 hn1 => ⟨p1, d1, fm, (m : Int), rfl, upd_same, by omega, by omega, fun l1 hl1 => ⟨rfl, ?_⟩⟩⟩
      obtain ⟨s3, sh1, nl1, ne1⟩ := shelf_new (fm := fm) (m := (m : Int)) hp1 hd1 hn1 hl1
      generalize upd (upd (upd (upd H2 d1 _) p1 _) p1 _) l1 _ = H3 at s3 sh1 ⊢
      refine ⟨_, rfl, _, rfl, _, _, rfl, rfl, (by show (0 : Int) < 4; decide), .inl ⟨_, _, rfl, rfl, fun p2 d2 hp2 hd2 hn2 => ⟨p2, d2, fm, ((2 + m % 4 : Nat) : Int), congrArg (fun z => [V.ref p2, V.ref fm, V.int z]) e4, upd_same, by omega, by omega, fun l2 hl2 => ⟨rfl, ?_⟩⟩⟩⟩
      obtain ⟨s4, sh2, nl2, ne2⟩ := shelf_new (fm := fm) (m := ((2 + m % 4 : Nat) : Int)) hp2 hd2 hn2 hl2
      generalize upd (upd (upd (upd H3 d2 _) p2 _) p2 _) l2 _ = H4 at s4 sh2 ⊢
      refine ⟨Nat.zero_le _, fun k1 hk1 => ?_⟩
      have s5 := same_new (o := HO.lst []) hk1
      have g1 := upd_same (H := H4) (a := k1) (o := HO.lst [])
      generalize upd H4 k1 (HO.lst []) = H5 at s5 g1 ⊢
      refine ⟨Nat.zero_le _, fun k2' hk2 => ?_⟩
      have s6 := same_new (o := HO.lst []) hk2
      have g2 := upd_same (H := H5) (a := k2') (o := HO.lst [])
      generalize upd H5 k2' (HO.lst []) = H6 at s6 g2 ⊢
      have u := (s4.trans s5).trans s6
      have u2 := s5.trans s6
      have W0 : Two CS CT CW H H6 t fm [] m p1 d1 l1 k1 [] [] (2 + m % 4) p2 d2 l2 k2' [] [] :=
        ⟨(hs2.trans s3).trans u, kind_same k2 (s3.trans u), .new ⟨u _ _ sh1.1, u _ _ sh1.2⟩ (s6 _ _ g1) (ne_of_none (s4 _ _ sh1.2) hk1) h2 h20, .new ⟨u2 _ _ sh2.1, u2 _ _ sh2.2⟩ g2 (ne_of_none (s5 _ _ sh2.2) hk2) (by omega) (by omega),
         hs2.free hp1, (hs2.trans s3).free hp2, hs2.free nl1, (hs2.trans s3).free nl2, ((hs2.trans s3).trans s4).free hk1, (((hs2.trans s3).trans s4).trans s5).free hk2, ne_of_none sh1.1 hp2, ne_of_none sh1.2 nl2, ne_of_none ((s4.trans s5) _ _ sh1.2) hk2, (ne_of_none sh2.2 hk1).symm, ne_of_none g1 hk2, fun y hy => nomatch hy⟩
      clear s3 sh1 nl1 ne1 hp1 hd1 hn1 hl1 s4 sh2 nl2 ne2 hp2 hd2 hn2 hl2 hk1 s5 g1 hk2 s6 g2 u u2 k2 hs2
      refine .inl ⟨_, rfl, _, rfl, .inl ⟨a, _, rfl, W0.hs.seq hS, fun sl hsl => ⟨_, rfl, ⟨_, SqL.of upd_same⟩, ?_⟩⟩⟩
      have hcut2 : (cutV (ns.map V.int) none (some 24)).length ≤ 24 := by
        unfold cutV HT.sIx
        rw [List.length_take, List.length_drop]
        dsimp only
        rw [if_neg (by decide)]
        omega
      obtain ⟨ms, hms, hml⟩ := cut_map ns none (some 24)
      rw [hms, List.length_map] at hcut2
      rw [hms]
      replace W0 := W0.more (xs := ms.map V.int) hsl
      generalize upd H6 sl (HO.lst (ms.map V.int)) = H7 at W0 ⊢
      clear hsl hms hml
      refine for_list (xs := ms.map V.int) (fun i σ H8 => ∃ l1 k1 rs1 ks1 l2 rs2 ks2, Two CS CT CW H H8 t fm [(sl, ms.map V.int)] m p1 d1 l1 k1 rs1 ks1 (2 + m % 4) p2 d2 l2 k2' rs2 ks2 ∧ rs1.length ≤ 2 * i ∧ rs2.length ≤ i ∧ ∃ z9 z10 z11, σ = [some (.ref a), some (.int c0), some (.int (m : Int)), some (.bl t), some (.ref fm), some (.ref p1), some (.ref p2), some (.ref k1), some (.ref k2'), z9, z10, z11]) ⟨l1, k1, [], [], l2, [], [], W0, Nat.le_refl _, Nat.le_refl _, _, _, _, rfl⟩ ?_ ?_ ?_
      · rintro i σ H8 hi ⟨_, _, _, _, _, _, _, W, _⟩
        exact SqL.of (W.off _ (List.mem_cons_self ..)).1
      · clear W0
        rintro i x σ H8 hx ⟨l1, k1, rs1, ks1, l2, rs2, ks2, W, n1, n2, z9, z10, z11, rfl⟩
        obtain ⟨c, rfl⟩ : ∃ c, x = .int c := by rw [List.getElem?_map] at hx; cases h : ms[i]? with | none => rw [h] at hx; cases hx | some y => rw [h] at hx; exact ⟨y, (Option.some.inj hx).symm⟩
        have hi24 : i < 24 := by have := (List.getElem?_eq_some_iff.mp hx).1; rw [List.length_map] at this; omega
        refine .inl ⟨_, rfl, c, rfl, fun v1 hv1 => ⟨_, rfl, _, _, rfl, rfl, ⟨by decide, by decide⟩, .inl ⟨_, _, rfl, rfl, _, rfl, fun v2 hv2 => ⟨(by show 2 ≤ sizeLine; decide), fun il hil => ⟨il, rfl, ⟨_, SqL.of upd_same⟩, ?_⟩⟩⟩⟩⟩
        replace W := W.more (xs := [V.int v1, V.int v2]) hil
        generalize upd H8 il (HO.lst [V.int v1, V.int v2]) = H9 at W ⊢
        clear hil hx
        refine for_list (xs := [V.int v1, V.int v2]) (fun j σ HA => ∃ l1 k1 rs1 ks1, Two CS CT CW H HA t fm [(il, [V.int v1, V.int v2]), (sl, ms.map V.int)] m p1 d1 l1 k1 rs1 ks1 (2 + m % 4) p2 d2 l2 k2' rs2 ks2 ∧ rs1.length ≤ 2 * i + j ∧ ∃ z10 z11, σ = [some (.ref a), some (.int c0), some (.int (m : Int)), some (.bl t), some (.ref fm), some (.ref p1), some (.ref p2), some (.ref k1), some (.ref k2'), some (.int c), z10, z11]) ⟨l1, k1, rs1, ks1, W, by omega, _, _, rfl⟩ ?_ ?_ ?_
        · rintro j σ HA hj ⟨_, _, _, _, W, _⟩
          exact SqL.of (W.off _ (List.mem_cons_self ..)).1
        · clear W n1
          rintro j x σ HA hx ⟨l1, k1, rs1, ks1, W, n1, z10, z11, rfl⟩
          have hj2 : j < 2 := (List.getElem?_eq_some_iff.mp hx).1
          obtain ⟨v, rfl, hv⟩ : ∃ v, x = .int v ∧ WholeIn v := by
            match j, hx with
            | 0, hx => exact ⟨v1, (Option.some.inj hx).symm, hv1⟩
            | 1, hx => exact ⟨v2, (Option.some.inj hx).symm, hv2⟩
          have hlk := W.a.pm.length_eq
          refine ⟨_, rfl, v, rfl, hv, ?_⟩
          have hwl := whl_length hv.1 hv.2
          have hxl := rowK_len (t := t) hv
          first
          | (have hf : t = false := ht
             have ew : whl v = rowK t v := by rw [hf]; rfl
             rw [ew]
             refine ⟨_, rfl, t, rfl, iteE hf ?_⟩)
          | (refine ⟨_, rfl, t, rfl, iteC ht ⟨_, rfl, whl v, rfl, by omega, ?_⟩⟩
             have ew : trow v = rowK t v := by rw [ht]; rfl
             change gName 11 (V.str (rowS (trow v))) _ _ _
             rw [ew])
          generalize ex : rowK t v = x
          rw [ex] at hxl
          refine ⟨_, rfl, _, _, rfl, rfl, (by show (0 : Int) < 4; decide), _, _, rfl, rfl, _, rfl, iteD (fun c1 => ?_) (fun c1 => ?_)⟩
          · refine ⟨_, rfl, p1, d1, _, rfl, W.a.sh.1, slookm .., _, rfl, put_kind (t := t) ⟨p1, d1, fm, l1, (m : Int), v, rs1, rfl, W.a.sh, W.k, hv, W.rws (by omega), fun hin => ?_, fun hout l' hl' => ?_⟩⟩
            · rw [ex] at hin
              have hk : x ∈ ks1 := W.a.pm.mem_iff.mpr hin
              refine ⟨_, rfl, _, rfl, k1, RL ks1, rfl, .inl (SqL.of W.a.hk), rfl, flat_rows ks1, false, (by rw [inV_rows, decide_eq_true hk]; rfl), iteF ?_⟩
              exact ⟨l1, k1, rs1, ks1, W, by omega, _, _, rfl⟩
            · rw [ex] at hout ⊢
              have hk : x ∉ ks1 := fun z => hout (W.a.pm.mem_iff.mp z)
              have gk : upd (upd HA p1 (.ins CS d1 (shF fm ((m : Nat) : Int) l'))) l' (.lst (RL (insR x rs1))) k1 = some (.lst (RL ks1)) := by rw [upd_ne (ne_of_none W.a.hk hl'), upd_ne (lst_ne_ins W.a.hk W.a.sh.1)]; exact W.a.hk
              refine ⟨_, rfl, _, rfl, k1, RL ks1, rfl, .inl (SqL.of gk), rfl, flat_rows ks1, true, (by rw [inV_rows, decide_eq_false hk]; rfl), iteT ?_⟩
              refine ⟨_, rfl, .inl ⟨rfl, _, SqL.of gk⟩, _, rfl, k1, _, _, rfl, rfl, gk, (by rw [RL_len]; exact Nat.lt_of_le_of_lt (show ks1.length ≤ 1000 by omega) (by decide)), ?_⟩
              rw [show RL ks1 ++ [V.str (rowS x)] = RL (ks1 ++ [x]) from (RL_app ks1 [x]).symm]
              exact ⟨l', k1, insR x rs1, ks1 ++ [x], W.put hout hxl hl', by rw [insR_len]; omega, _, _, rfl⟩
          · refine ⟨_, rfl, p1, d1, _, rfl, W.a.sh.1, slookm .., _, rfl, take_kind (t := t) ⟨p1, d1, fm, l1, (m : Int), v, rs1, rfl, W.a.sh, W.k, hv, W.rws (by omega), fun hout => ?_, fun hin => ?_⟩⟩
            · rw [ex] at hout
              have hk : x ∉ ks1 := fun z => hout (W.a.pm.mem_iff.mp z)
              have gk := W.a.hk
              refine .inl ⟨_, rfl, k1, rfl, ⟨_, SqL.of gk⟩, fun D hD => ?_⟩
              refine comp_filter (xs := RL ks1) (keepNe x) id (fun σ => ∃ z, σ = [z, some (.str (rowS x))]) (by rw [RL_len]; exact small5 (by omega)) ⟨_, rfl⟩ hD (SqL.of gk) ?_ ?_
              · rintro v hv σ1 H1 ⟨z, rfl⟩ hs1 R R' hR
                obtain ⟨y, _, rfl⟩ := List.mem_map.mp hv
                refine ⟨_, rfl, _, rfl, rfl, _, rfl, ?_⟩
                have hR := hR [some (.str (rowS y)), some (.str (rowS x))] ⟨_, rfl⟩
                generalize hv0 : V.str (rowS y) = v at hR ⊢
                cases hk : keepNe x v with
                | true =>
                  rw [if_pos hk] at hR
                  have hk' : (!decide (v = .str (rowS x))) = true := hk
                  rw [hk']
                  exact iteT ⟨_, rfl, hR⟩
                | false =>
                  rw [if_neg (by rw [hk]; exact Bool.false_ne_true)] at hR
                  have hk' : (!decide (v = .str (rowS x))) = false := hk
                  rw [hk']
                  exact iteF hR
              rw [less_RL]
              rw [less_same hk]
              exact ⟨l1, D, rs1, ks1, W.rekeep hD, by omega, _, _, rfl⟩
            · rw [ex] at hin ⊢
              have gk : upd HA l1 (.lst (RL (lessR x rs1))) k1 = some (.lst (RL ks1)) := by rw [upd_ne W.a.ne.symm]; exact W.a.hk
              refine .inl ⟨_, rfl, k1, rfl, ⟨_, SqL.of gk⟩, fun D hD => ?_⟩
              refine comp_filter (xs := RL ks1) (keepNe x) id (fun σ => ∃ z, σ = [z, some (.str (rowS x))]) (by rw [RL_len]; exact small5 (by omega)) ⟨_, rfl⟩ hD (SqL.of gk) ?_ ?_
              · rintro v hv σ1 H1 ⟨z, rfl⟩ hs1 R R' hR
                obtain ⟨y, _, rfl⟩ := List.mem_map.mp hv
                refine ⟨_, rfl, _, rfl, rfl, _, rfl, ?_⟩
                have hR := hR [some (.str (rowS y)), some (.str (rowS x))] ⟨_, rfl⟩
                generalize hv0 : V.str (rowS y) = v at hR ⊢
                cases hk : keepNe x v with
                | true =>
                  rw [if_pos hk] at hR
                  have hk' : (!decide (v = .str (rowS x))) = true := hk
                  rw [hk']
                  exact iteT ⟨_, rfl, hR⟩
                | false =>
                  rw [if_neg (by rw [hk]; exact Bool.false_ne_true)] at hR
                  have hk' : (!decide (v = .str (rowS x))) = false := hk
                  rw [hk']
                  exact iteF hR
              rw [less_RL]
              exact ⟨l1, D, lessR x rs1, lessR x ks1, W.take hD, by have := less_len (x := x) (rs := rs1); omega, _, _, rfl⟩
        · clear W n1
          rintro σ HA ⟨l1, k1, rs1, ks1, W, n1, z10, z11, rfl⟩
          replace n1 : rs1.length ≤ 2 * i + 2 := n1
          replace W := W.less
          have hlk := W.b.pm.length_eq
          refine ⟨_, rfl, _, _, rfl, rfl, ⟨by decide, by decide⟩, _, rfl, fun v hv => ?_⟩
          refine ⟨_, rfl, v, rfl, hv, ?_⟩
          have hwl := whl_length hv.1 hv.2
          have hxl := rowK_len (t := t) hv
          first
          | (have hf : t = false := ht
             have ew : whl v = rowK t v := by rw [hf]; rfl
             rw [ew]
             refine ⟨_, rfl, t, rfl, iteE hf ?_⟩)
          | (refine ⟨_, rfl, t, rfl, iteC ht ⟨_, rfl, whl v, rfl, by omega, ?_⟩⟩
             have ew : trow v = rowK t v := by rw [ht]; rfl
             change gName 11 (V.str (rowS (trow v))) _ _ _
             rw [ew])
          generalize ex : rowK t v = x
          rw [ex] at hxl
          refine ⟨_, rfl, p2, d2, _, rfl, W.b.sh.1, slookm .., _, rfl, put_kind (t := t) ⟨p2, d2, fm, l2, ((2 + m % 4 : Nat) : Int), v, rs2, rfl, W.b.sh, W.k, hv, W.swap.rws (by omega), fun hin => ?_, fun hout l' hl' => ?_⟩⟩
          · rw [ex] at hin
            have hk : x ∈ ks2 := W.b.pm.mem_iff.mpr hin
            refine ⟨_, rfl, _, rfl, k2', RL ks2, rfl, .inl (SqL.of W.b.hk), rfl, flat_rows ks2, false, (by rw [inV_rows, decide_eq_true hk]; rfl), iteF ?_⟩
            have hn2 : rs2.length ≤ i + 1 := by omega
            refine ⟨_, rfl, _, rfl, _, rfl, _, rfl, _, _, rfl, rfl, ⟨by decide, by decide⟩, _, _, rfl, rfl, (by show (0 : Int) < 2; decide), rfl, p1, d1, fm, l1, k1, m, rs1, ks1, _, rfl, W.a.sh, h2, h20, W.rws (by omega), W.a.hk, W.a.pm, true, rfl, iteF ?_⟩
            exact ⟨l1, k1, rs1, ks1, _, _, _, W, by omega, hn2, _, _, _, rfl⟩
          · rw [ex] at hout ⊢
            have hk : x ∉ ks2 := fun z => hout (W.b.pm.mem_iff.mp z)
            have gk : upd (upd HA p2 (.ins CS d2 (shF fm ((2 + m % 4 : Nat) : Int) l'))) l' (.lst (RL (insR x rs2))) k2' = some (.lst (RL ks2)) := by rw [upd_ne (ne_of_none W.b.hk hl'), upd_ne (lst_ne_ins W.b.hk W.b.sh.1)]; exact W.b.hk
            refine ⟨_, rfl, _, rfl, k2', RL ks2, rfl, .inl (SqL.of gk), rfl, flat_rows ks2, true, (by rw [inV_rows, decide_eq_false hk]; rfl), iteT ?_⟩
            refine ⟨_, rfl, .inl ⟨rfl, _, SqL.of gk⟩, _, rfl, k2', _, _, rfl, rfl, gk, (by rw [RL_len]; exact Nat.lt_of_le_of_lt (show ks2.length ≤ 1000 by omega) (by decide)), ?_⟩
            rw [show RL ks2 ++ [V.str (rowS x)] = RL (ks2 ++ [x]) from (RL_app ks2 [x]).symm]
            replace W := (W.swap.put hout hxl hl').swap
            have hn2 : (insR x rs2).length ≤ i + 1 := by rw [insR_len]; omega
            refine ⟨_, rfl, _, rfl, _, rfl, _, rfl, _, _, rfl, rfl, ⟨by decide, by decide⟩, _, _, rfl, rfl, (by show (0 : Int) < 2; decide), rfl, p1, d1, fm, l1, k1, m, rs1, ks1, _, rfl, W.a.sh, h2, h20, W.rws (by omega), W.a.hk, W.a.pm, true, rfl, iteF ?_⟩
            exact ⟨l1, k1, rs1, ks1, _, _, _, W, by omega, hn2, _, _, _, rfl⟩
      · clear W0
        rintro σ H8 ⟨l1, k1, rs1, ks1, l2, rs2, ks2, W, n1, n2, z9, z10, z11, rfl⟩
        rw [List.length_map] at n1 n2
        refine ⟨_, rfl, _, rfl, _, _, rfl, rfl, (by show (0 : Int) < 4; decide), .inl ⟨_, _, rfl, rfl, _, rfl, _, rfl, _, _, rfl, rfl, (by show (0 : Int) < 2; decide), rfl, p2, d2, fm, l2, k2', 2 + m % 4, rs2, ks2, _, congrArg (fun z => [V.ref p2, V.int z, V.ref k2', V.bl _]) e4, W.b.sh, by omega, by omega, W.swap.rws (by omega), W.b.hk, W.b.pm, true, rfl, iteF ?_⟩⟩
        exact ⟨_, rfl, _, rfl, _, rfl, _, rfl, _, _, rfl, rfl, (by show (0 : Int) < 2; decide), rfl, p1, d1, fm, l1, k1, m, rs1, ks1, _, rfl, W.a.sh, h2, h20, W.rws (by omega), W.a.hk, W.a.pm, H, .refl W.hs, q _⟩
    · have ht : t = false := by simpa using ht
      refine iteE ht ?_
      have k2 : KindAt CT CW t H1 x := by
        unfold KindAt
        rw [if_neg (by rw [ht]; exact Bool.false_ne_true)]
        exact w1
      have hs2 := s1
      obtain ⟨H2, rfl⟩ : ∃ H2, H2 = H1 := ⟨_, rfl⟩
      clear s1 w1 hx hdx hne
      obtain ⟨fm, rfl⟩ : ∃ fm, fm = x := ⟨_, rfl⟩
      refine ⟨_, rfl, _, rfl, fun p1 d1 hp1 hd1 hn1 => ⟨p1, d1, fm, (m : Int), rfl, upd_same, by omega, by omega, fun l1 hl1 => ⟨rfl, ?_⟩⟩⟩
      obtain ⟨s3, sh1, nl1, ne1⟩ := shelf_new (fm := fm) (m := (m : Int)) hp1 hd1 hn1 hl1
      generalize upd (upd (upd (upd H2 d1 _) p1 _) p1 _) l1 _ = H3 at s3 sh1 ⊢
      refine ⟨_, rfl, _, rfl, _, _, rfl, rfl, (by show (0 : Int) < 4; decide), .inl ⟨_, _, rfl, rfl, fun p2 d2 hp2 hd2 hn2 => ⟨p2, d2, fm, ((2 + m % 4 : Nat) : Int), congrArg (fun z => [V.ref p2, V.ref fm, V.int z]) e4, upd_same, by omega, by omega, fun l2 hl2 => ⟨rfl, ?_⟩⟩⟩⟩
      obtain ⟨s4, sh2, nl2, ne2⟩ := shelf_new (fm := fm) (m := ((2 + m % 4 : Nat) : Int)) hp2 hd2 hn2 hl2
      generalize upd (upd (upd (upd H3 d2 _) p2 _) p2 _) l2 _ = H4 at s4 sh2 ⊢
      refine ⟨Nat.zero_le _, fun k1 hk1 => ?_⟩
      have s5 := same_new (o := HO.lst []) hk1
      have g1 := upd_same (H := H4) (a := k1) (o := HO.lst [])
      generalize upd H4 k1 (HO.lst []) = H5 at s5 g1 ⊢
      refine ⟨Nat.zero_le _, fun k2' hk2 => ?_⟩
      have s6 := same_new (o := HO.lst []) hk2
      have g2 := upd_same (H := H5) (a := k2') (o := HO.lst [])
      generalize upd H5 k2' (HO.lst []) = H6 at s6 g2 ⊢
      have u := (s4.trans s5).trans s6
      have u2 := s5.trans s6
      have W0 : Two CS CT CW H H6 t fm [] m p1 d1 l1 k1 [] [] (2 + m % 4) p2 d2 l2 k2' [] [] :=
        ⟨(hs2.trans s3).trans u, kind_same k2 (s3.trans u), .new ⟨u _ _ sh1.1, u _ _ sh1.2⟩ (s6 _ _ g1) (ne_of_none (s4 _ _ sh1.2) hk1) h2 h20, .new ⟨u2 _ _ sh2.1, u2 _ _ sh2.2⟩ g2 (ne_of_none (s5 _ _ sh2.2) hk2) (by omega) (by omega),
         hs2.free hp1, (hs2.trans s3).free hp2, hs2.free nl1, (hs2.trans s3).free nl2, ((hs2.trans s3).trans s4).free hk1, (((hs2.trans s3).trans s4).trans s5).free hk2, ne_of_none sh1.1 hp2, ne_of_none sh1.2 nl2, ne_of_none ((s4.trans s5) _ _ sh1.2) hk2, (ne_of_none sh2.2 hk1).symm, ne_of_none g1 hk2, fun y hy => nomatch hy⟩
      clear s3 sh1 nl1 ne1 hp1 hd1 hn1 hl1 s4 sh2 nl2 ne2 hp2 hd2 hn2 hl2 hk1 s5 g1 hk2 s6 g2 u u2 k2 hs2
      refine .inl ⟨_, rfl, _, rfl, .inl ⟨a, _, rfl, W0.hs.seq hS, fun sl hsl => ⟨_, rfl, ⟨_, SqL.of upd_same⟩, ?_⟩⟩⟩
      have hcut2 : (cutV (ns.map V.int) none (some 24)).length ≤ 24 := by
        unfold cutV HT.sIx
        rw [List.length_take, List.length_drop]
        dsimp only
        rw [if_neg (by decide)]
        omega
      obtain ⟨ms, hms, hml⟩ := cut_map ns none (some 24)
      rw [hms, List.length_map] at hcut2
      rw [hms]
      replace W0 := W0.more (xs := ms.map V.int) hsl
      generalize upd H6 sl (HO.lst (ms.map V.int)) = H7 at W0 ⊢
      clear hsl hms hml
      refine for_list (xs := ms.map V.int) (fun i σ H8 => ∃ l1 k1 rs1 ks1 l2 rs2 ks2, Two CS CT CW H H8 t fm [(sl, ms.map V.int)] m p1 d1 l1 k1 rs1 ks1 (2 + m % 4) p2 d2 l2 k2' rs2 ks2 ∧ rs1.length ≤ 2 * i ∧ rs2.length ≤ i ∧ ∃ z9 z10 z11, σ = [some (.ref a), some (.int c0), some (.int (m : Int)), some (.bl t), some (.ref fm), some (.ref p1), some (.ref p2), some (.ref k1), some (.ref k2'), z9, z10, z11]) ⟨l1, k1, [], [], l2, [], [], W0, Nat.le_refl _, Nat.le_refl _, _, _, _, rfl⟩ ?_ ?_ ?_
      · rintro i σ H8 hi ⟨_, _, _, _, _, _, _, W, _⟩
        exact SqL.of (W.off _ (List.mem_cons_self ..)).1
      · clear W0
        rintro i x σ H8 hx ⟨l1, k1, rs1, ks1, l2, rs2, ks2, W, n1, n2, z9, z10, z11, rfl⟩
        obtain ⟨c, rfl⟩ : ∃ c, x = .int c := by rw [List.getElem?_map] at hx; cases h : ms[i]? with | none => rw [h] at hx; cases hx | some y => rw [h] at hx; exact ⟨y, (Option.some.inj hx).symm⟩
        have hi24 : i < 24 := by have := (List.getElem?_eq_some_iff.mp hx).1; rw [List.length_map] at this; omega
        refine .inl ⟨_, rfl, c, rfl, fun v1 hv1 => ⟨_, rfl, _, _, rfl, rfl, ⟨by decide, by decide⟩, .inl ⟨_, _, rfl, rfl, _, rfl, fun v2 hv2 => ⟨(by show 2 ≤ sizeLine; decide), fun il hil => ⟨il, rfl, ⟨_, SqL.of upd_same⟩, ?_⟩⟩⟩⟩⟩
        replace W := W.more (xs := [V.int v1, V.int v2]) hil
        generalize upd H8 il (HO.lst [V.int v1, V.int v2]) = H9 at W ⊢
        clear hil hx
        refine for_list (xs := [V.int v1, V.int v2]) (fun j σ HA => ∃ l1 k1 rs1 ks1, Two CS CT CW H HA t fm [(il, [V.int v1, V.int v2]), (sl, ms.map V.int)] m p1 d1 l1 k1 rs1 ks1 (2 + m % 4) p2 d2 l2 k2' rs2 ks2 ∧ rs1.length ≤ 2 * i + j ∧ ∃ z10 z11, σ = [some (.ref a), some (.int c0), some (.int (m : Int)), some (.bl t), some (.ref fm), some (.ref p1), some (.ref p2), some (.ref k1), some (.ref k2'), some (.int c), z10, z11]) ⟨l1, k1, rs1, ks1, W, by omega, _, _, rfl⟩ ?_ ?_ ?_
        · rintro j σ HA hj ⟨_, _, _, _, W, _⟩
          exact SqL.of (W.off _ (List.mem_cons_self ..)).1
        · clear W n1
          rintro j x σ HA hx ⟨l1, k1, rs1, ks1, W, n1, z10, z11, rfl⟩
          have hj2 : j < 2 := (List.getElem?_eq_some_iff.mp hx).1
          obtain ⟨v, rfl, hv⟩ : ∃ v, x = .int v ∧ WholeIn v := by
            match j, hx with
            | 0, hx => exact ⟨v1, (Option.some.inj hx).symm, hv1⟩
            | 1, hx => exact ⟨v2, (Option.some.inj hx).symm, hv2⟩
          have hlk := W.a.pm.length_eq
          refine ⟨_, rfl, v, rfl, hv, ?_⟩
          have hwl := whl_length hv.1 hv.2
          have hxl := rowK_len (t := t) hv
          first
          | (have hf : t = false := ht
             have ew : whl v = rowK t v := by rw [hf]; rfl
             rw [ew]
             refine ⟨_, rfl, t, rfl, iteE hf ?_⟩)
          | (refine ⟨_, rfl, t, rfl, iteC ht ⟨_, rfl, whl v, rfl, by omega, ?_⟩⟩
             have ew : trow v = rowK t v := by rw [ht]; rfl
             change gName 11 (V.str (rowS (trow v))) _ _ _
             rw [ew])
          generalize ex : rowK t v = x
          rw [ex] at hxl
          refine ⟨_, rfl, _, _, rfl, rfl, (by show (0 : Int) < 4; decide), _, _, rfl, rfl, _, rfl, iteD (fun c1 => ?_) (fun c1 => ?_)⟩
          · refine ⟨_, rfl, p1, d1, _, rfl, W.a.sh.1, slookm .., _, rfl, put_kind (t := t) ⟨p1, d1, fm, l1, (m : Int), v, rs1, rfl, W.a.sh, W.k, hv, W.rws (by omega), fun hin => ?_, fun hout l' hl' => ?_⟩⟩
            · rw [ex] at hin
              have hk : x ∈ ks1 := W.a.pm.mem_iff.mpr hin
              refine ⟨_, rfl, _, rfl, k1, RL ks1, rfl, .inl (SqL.of W.a.hk), rfl, flat_rows ks1, false, (by rw [inV_rows, decide_eq_true hk]; rfl), iteF ?_⟩
              exact ⟨l1, k1, rs1, ks1, W, by omega, _, _, rfl⟩
            · rw [ex] at hout ⊢
              have hk : x ∉ ks1 := fun z => hout (W.a.pm.mem_iff.mp z)
              have gk : upd (upd HA p1 (.ins CS d1 (shF fm ((m : Nat) : Int) l'))) l' (.lst (RL (insR x rs1))) k1 = some (.lst (RL ks1)) := by rw [upd_ne (ne_of_none W.a.hk hl'), upd_ne (lst_ne_ins W.a.hk W.a.sh.1)]; exact W.a.hk
              refine ⟨_, rfl, _, rfl, k1, RL ks1, rfl, .inl (SqL.of gk), rfl, flat_rows ks1, true, (by rw [inV_rows, decide_eq_false hk]; rfl), iteT ?_⟩
              refine ⟨_, rfl, .inl ⟨rfl, _, SqL.of gk⟩, _, rfl, k1, _, _, rfl, rfl, gk, (by rw [RL_len]; exact Nat.lt_of_le_of_lt (show ks1.length ≤ 1000 by omega) (by decide)), ?_⟩
              rw [show RL ks1 ++ [V.str (rowS x)] = RL (ks1 ++ [x]) from (RL_app ks1 [x]).symm]
              exact ⟨l', k1, insR x rs1, ks1 ++ [x], W.put hout hxl hl', by rw [insR_len]; omega, _, _, rfl⟩
          · refine ⟨_, rfl, p1, d1, _, rfl, W.a.sh.1, slookm .., _, rfl, take_kind (t := t) ⟨p1, d1, fm, l1, (m : Int), v, rs1, rfl, W.a.sh, W.k, hv, W.rws (by omega), fun hout => ?_, fun hin => ?_⟩⟩
            · rw [ex] at hout
              have hk : x ∉ ks1 := fun z => hout (W.a.pm.mem_iff.mp z)
              have gk := W.a.hk
              refine .inl ⟨_, rfl, k1, rfl, ⟨_, SqL.of gk⟩, fun D hD => ?_⟩
              refine comp_filter (xs := RL ks1) (keepNe x) id (fun σ => ∃ z, σ = [z, some (.str (rowS x))]) (by rw [RL_len]; exact small5 (by omega)) ⟨_, rfl⟩ hD (SqL.of gk) ?_ ?_
              · rintro v hv σ1 H1 ⟨z, rfl⟩ hs1 R R' hR
                obtain ⟨y, _, rfl⟩ := List.mem_map.mp hv
                refine ⟨_, rfl, _, rfl, rfl, _, rfl, ?_⟩
                have hR := hR [some (.str (rowS y)), some (.str (rowS x))] ⟨_, rfl⟩
                generalize hv0 : V.str (rowS y) = v at hR ⊢
                cases hk : keepNe x v with
                | true =>
                  rw [if_pos hk] at hR
                  have hk' : (!decide (v = .str (rowS x))) = true := hk
                  rw [hk']
                  exact iteT ⟨_, rfl, hR⟩
                | false =>
                  rw [if_neg (by rw [hk]; exact Bool.false_ne_true)] at hR
                  have hk' : (!decide (v = .str (rowS x))) = false := hk
                  rw [hk']
                  exact iteF hR
              rw [less_RL]
              rw [less_same hk]
              exact ⟨l1, D, rs1, ks1, W.rekeep hD, by omega, _, _, rfl⟩
            · rw [ex] at hin ⊢
              have gk : upd HA l1 (.lst (RL (lessR x rs1))) k1 = some (.lst (RL ks1)) := by rw [upd_ne W.a.ne.symm]; exact W.a.hk
              refine .inl ⟨_, rfl, k1, rfl, ⟨_, SqL.of gk⟩, fun D hD => ?_⟩
              refine comp_filter (xs := RL ks1) (keepNe x) id (fun σ => ∃ z, σ = [z, some (.str (rowS x))]) (by rw [RL_len]; exact small5 (by omega)) ⟨_, rfl⟩ hD (SqL.of gk) ?_ ?_
              · rintro v hv σ1 H1 ⟨z, rfl⟩ hs1 R R' hR
                obtain ⟨y, _, rfl⟩ := List.mem_map.mp hv
                refine ⟨_, rfl, _, rfl, rfl, _, rfl, ?_⟩
                have hR := hR [some (.str (rowS y)), some (.str (rowS x))] ⟨_, rfl⟩
                generalize hv0 : V.str (rowS y) = v at hR ⊢
                cases hk : keepNe x v with
                | true =>
                  rw [if_pos hk] at hR
                  have hk' : (!decide (v = .str (rowS x))) = true := hk
                  rw [hk']
                  exact iteT ⟨_, rfl, hR⟩
                | false =>
                  rw [if_neg (by rw [hk]; exact Bool.false_ne_true)] at hR
                  have hk' : (!decide (v = .str (rowS x))) = false := hk
                  rw [hk']
                  exact iteF hR
              rw [less_RL]
              exact ⟨l1, D, lessR x rs1, lessR x ks1, W.take hD, by have := less_len (x := x) (rs := rs1); omega, _, _, rfl⟩
        · clear W n1
          rintro σ HA ⟨l1, k1, rs1, ks1, W, n1, z10, z11, rfl⟩
          replace n1 : rs1.length ≤ 2 * i + 2 := n1
          replace W := W.less
          have hlk := W.b.pm.length_eq
          refine ⟨_, rfl, _, _, rfl, rfl, ⟨by decide, by decide⟩, _, rfl, fun v hv => ?_⟩
          refine ⟨_, rfl, v, rfl, hv, ?_⟩
          have hwl := whl_length hv.1 hv.2
          have hxl := rowK_len (t := t) hv
          first
          | (have hf : t = false := ht
             have ew : whl v = rowK t v := by rw [hf]; rfl
             rw [ew]
             refine ⟨_, rfl, t, rfl, iteE hf ?_⟩)
          | (refine ⟨_, rfl, t, rfl, iteC ht ⟨_, rfl, whl v, rfl, by omega, ?_⟩⟩
             have ew : trow v = rowK t v := by rw [ht]; rfl
             change gName 11 (V.str (rowS (trow v))) _ _ _
             rw [ew])
          generalize ex : rowK t v = x
          rw [ex] at hxl
          refine ⟨_, rfl, p2, d2, _, rfl, W.b.sh.1, slookm .., _, rfl, put_kind (t := t) ⟨p2, d2, fm, l2, ((2 + m % 4 : Nat) : Int), v, rs2, rfl, W.b.sh, W.k, hv, W.swap.rws (by omega), fun hin => ?_, fun hout l' hl' => ?_⟩⟩
          · rw [ex] at hin
            have hk : x ∈ ks2 := W.b.pm.mem_iff.mpr hin
            refine ⟨_, rfl, _, rfl, k2', RL ks2, rfl, .inl (SqL.of W.b.hk), rfl, flat_rows ks2, false, (by rw [inV_rows, decide_eq_true hk]; rfl), iteF ?_⟩
            have hn2 : rs2.length ≤ i + 1 := by omega
            refine ⟨_, rfl, _, rfl, _, rfl, _, rfl, _, _, rfl, rfl, ⟨by decide, by decide⟩, _, _, rfl, rfl, (by show (0 : Int) < 2; decide), rfl, p1, d1, fm, l1, k1, m, rs1, ks1, _, rfl, W.a.sh, h2, h20, W.rws (by omega), W.a.hk, W.a.pm, true, rfl, iteF ?_⟩
            exact ⟨l1, k1, rs1, ks1, _, _, _, W, by omega, hn2, _, _, _, rfl⟩
          · rw [ex] at hout ⊢
            have hk : x ∉ ks2 := fun z => hout (W.b.pm.mem_iff.mp z)
            have gk : upd (upd HA p2 (.ins CS d2 (shF fm ((2 + m % 4 : Nat) : Int) l'))) l' (.lst (RL (insR x rs2))) k2' = some (.lst (RL ks2)) := by rw [upd_ne (ne_of_none W.b.hk hl'), upd_ne (lst_ne_ins W.b.hk W.b.sh.1)]; exact W.b.hk
            refine ⟨_, rfl, _, rfl, k2', RL ks2, rfl, .inl (SqL.of gk), rfl, flat_rows ks2, true, (by rw [inV_rows, decide_eq_false hk]; rfl), iteT ?_⟩
            refine ⟨_, rfl, .inl ⟨rfl, _, SqL.of gk⟩, _, rfl, k2', _, _, rfl, rfl, gk, (by rw [RL_len]; exact Nat.lt_of_le_of_lt (show ks2.length ≤ 1000 by omega) (by decide)), ?_⟩
            rw [show RL ks2 ++ [V.str (rowS x)] = RL (ks2 ++ [x]) from (RL_app ks2 [x]).symm]
            replace W := (W.swap.put hout hxl hl').swap
            have hn2 : (insR x rs2).length ≤ i + 1 := by rw [insR_len]; omega
            refine ⟨_, rfl, _, rfl, _, rfl, _, rfl, _, _, rfl, rfl, ⟨by decide, by decide⟩, _, _, rfl, rfl, (by show (0 : Int) < 2; decide), rfl, p1, d1, fm, l1, k1, m, rs1, ks1, _, rfl, W.a.sh, h2, h20, W.rws (by omega), W.a.hk, W.a.pm, true, rfl, iteF ?_⟩
            exact ⟨l1, k1, rs1, ks1, _, _, _, W, by omega, hn2, _, _, _, rfl⟩
      · clear W0
        rintro σ H8 ⟨l1, k1, rs1, ks1, l2, rs2, ks2, W, n1, n2, z9, z10, z11, rfl⟩
        rw [List.length_map] at n1 n2
        refine ⟨_, rfl, _, rfl, _, _, rfl, rfl, (by show (0 : Int) < 4; decide), .inl ⟨_, _, rfl, rfl, _, rfl, _, rfl, _, _, rfl, rfl, (by show (0 : Int) < 2; decide), rfl, p2, d2, fm, l2, k2', 2 + m % 4, rs2, ks2, _, congrArg (fun z => [V.ref p2, V.int z, V.ref k2', V.bl _]) e4, W.b.sh, by omega, by omega, W.swap.rws (by omega), W.b.hk, W.b.pm, true, rfl, iteF ?_⟩⟩
        exact ⟨_, rfl, _, rfl, _, rfl, _, rfl, _, _, rfl, rfl, (by show (0 : Int) < 2; decide), rfl, p1, d1, fm, l1, k1, m, rs1, ks1, _, rfl, W.a.sh, h2, h20, W.rws (by omega), W.a.hk, W.a.pm, H, .refl W.hs, q _⟩
  · clear m2 m3 c1
    obtain ⟨m, rfl⟩ : ∃ m' : Nat, mi = (m' : Int) := ⟨mi.toNat, by omega⟩
    have h2 : 2 ≤ m := by omega
    have h20 : m ≤ 20 := by omega
    have e4 : (2 + ((m : Nat) : Int) % 4) = ((2 + m % 4 : Nat) : Int) := by omega
    clear hm2 hm20
    refine ⟨_, rfl, _, _, rfl, rfl, ⟨by decide, by decide⟩, _, _, rfl, rfl, (by show (0 : Int) < 2; decide), rfl, ?_⟩
    generalize decide (_ = V.int 1) = t
    intro x dx hx hdx hne
    have s1 := same_obj (o := HO.own x) (o2 := HO.ins CW dx []) hx hdx hne
    have w1 : isW CW (upd (upd H dx (HO.own x)) x (HO.ins CW dx [])) x := ⟨dx, upd_same⟩
    generalize upd (upd H dx (HO.own x)) x (HO.ins CW dx []) = H1 at s1 w1 ⊢
    refine ⟨_, rfl, t, rfl, ?_⟩
    by_cases ht : t = true
    · refine iteC ht fun x1 dx1 hx1 hdx1 hne1 p dp hp hdp hnep => ⟨p, dp, x1, rfl, upd_same, rfl, ?_⟩
      have s2 := same_obj (o := HO.own x1) (o2 := HO.ins CW dx1 []) hx1 hdx1 hne1
      have w2 : isW CW (upd (upd H1 dx1 (HO.own x1)) x1 (HO.ins CW dx1 [])) x1 := ⟨dx1, upd_same⟩
      generalize upd (upd H1 dx1 (HO.own x1)) x1 (HO.ins CW dx1 []) = H1b at s2 w2 hp hdp ⊢
      have s3 := same_updr (o := HO.ins CT dp [("inner", V.ref x1)]) (same_obj (o := HO.own p) (o2 := HO.ins CT dp []) hp hdp hnep) hp
      have k2 : KindAt CT CW t (upd (upd (upd H1b dp (HO.own p)) p (HO.ins CT dp [])) p (HO.ins CT dp [("inner", V.ref x1)])) p := by
        obtain ⟨d, e⟩ := w2
        unfold KindAt
        rw [if_pos ht]
        exact ⟨dp, x1, upd_same, d, s3 _ _ e⟩
      have hs2 := (s1.trans s2).trans s3
      generalize upd (upd (upd H1b dp (HO.own p)) p (HO.ins CT dp [])) p (HO.ins CT dp [("inner", V.ref x1)]) = H2 at k2 hs2 ⊢
      clear s1 s2 s3 w1 w2 hx1 hdx1 hne1 hp hdp hnep hx hdx hne
      obtain ⟨fm, rfl⟩ : ∃ fm, fm = p := ⟨_, rfl⟩
      refine ⟨_, rfl, _, rfl, fun p1 d1 hp1 hd1 hn1 => ⟨p1, d1, fm, (m : Int), rfl, upd_same, by omega, by omega, fun l1 hl1 => ⟨rfl, ?_⟩⟩⟩
      obtain ⟨s3, sh1, nl1, ne1⟩ := shelf_new (fm := fm) (m := (m : Int)) hp1 hd1 hn1 hl1
      generalize upd (upd (upd (upd H2 d1 _) p1 _) p1 _) l1 _ = H3 at s3 sh1 ⊢
      refine ⟨_, rfl, _, rfl, _, _, rfl, rfl, (by show (0 : Int) < 4; decide), .inl ⟨_, _, rfl, rfl, fun p2 d2 hp2 hd2 hn2 => ⟨p2, d2, fm, ((2 + m % 4 : Nat) : Int), congrArg (fun z => [V.ref p2, V.ref fm, V.int z]) e4, upd_same, by omega, by omega, fun l2 hl2 => ⟨rfl, ?_⟩⟩⟩⟩
      obtain ⟨s4, sh2, nl2, ne2⟩ := shelf_new (fm := fm) (m := ((2 + m % 4 : Nat) : Int)) hp2 hd2 hn2 hl2
      generalize upd (upd (upd (upd H3 d2 _) p2 _) p2 _) l2 _ = H4 at s4 sh2 ⊢
      refine ⟨Nat.zero_le _, fun k1 hk1 => ?_⟩
      have s5 := same_new (o := HO.lst []) hk1
      have g1 := upd_same (H := H4) (a := k1) (o := HO.lst [])
      generalize upd H4 k1 (HO.lst []) = H5 at s5 g1 ⊢
      refine ⟨Nat.zero_le _, fun k2' hk2 => ?_⟩
      have s6 := same_new (o := HO.lst []) hk2
      have g2 := upd_same (H := H5) (a := k2') (o := HO.lst [])
      generalize upd H5 k2' (HO.lst []) = H6 at s6 g2 ⊢
      have u := (s4.trans s5).trans s6
      have u2 := s5.trans s6
      have W0 : Two CS CT CW H H6 t fm [] m p1 d1 l1 k1 [] [] (2 + m % 4) p2 d2 l2 k2' [] [] :=
        ⟨(hs2.trans s3).trans u, kind_same k2 (s3.trans u), .new ⟨u _ _ sh1.1, u _ _ sh1.2⟩ (s6 _ _ g1) (ne_of_none (s4 _ _ sh1.2) hk1) h2 h20, .new ⟨u2 _ _ sh2.1, u2 _ _ sh2.2⟩ g2 (ne_of_none (s5 _ _ sh2.2) hk2) (by omega) (by omega),
         hs2.free hp1, (hs2.trans s3).free hp2, hs2.free nl1, (hs2.trans s3).free nl2, ((hs2.trans s3).trans s4).free hk1, (((hs2.trans s3).trans s4).trans s5).free hk2, ne_of_none sh1.1 hp2, ne_of_none sh1.2 nl2, ne_of_none ((s4.trans s5) _ _ sh1.2) hk2, (ne_of_none sh2.2 hk1).symm, ne_of_none g1 hk2, fun y hy => nomatch hy⟩
      clear s3 sh1 nl1 ne1 hp1 hd1 hn1 hl1 s4 sh2 nl2 ne2 hp2 hd2 hn2 hl2 hk1 s5 g1 hk2 s6 g2 u u2 k2 hs2
      refine .inl ⟨_, rfl, _, rfl, .inl ⟨a, _, rfl, W0.hs.seq hS, fun sl hsl => ⟨_, rfl, ⟨_, SqL.of upd_same⟩, ?_⟩⟩⟩
      have hcut2 : (cutV (ns.map V.int) none (some 24)).length ≤ 24 := by
        unfold cutV HT.sIx
        rw [List.length_take, List.length_drop]
        dsimp only
        rw [if_neg (by decide)]
        omega
      obtain ⟨ms, hms, hml⟩ := cut_map ns none (some 24)
      rw [hms, List.length_map] at hcut2
      rw [hms]
      replace W0 := W0.more (xs := ms.map V.int) hsl
      generalize upd H6 sl (HO.lst (ms.map V.int)) = H7 at W0 ⊢
      clear hsl hms hml
      refine for_list (xs := ms.map V.int) (fun i σ H8 => ∃ l1 k1 rs1 ks1 l2 rs2 ks2, Two CS CT CW H H8 t fm [(sl, ms.map V.int)] m p1 d1 l1 k1 rs1 ks1 (2 + m % 4) p2 d2 l2 k2' rs2 ks2 ∧ rs1.length ≤ 2 * i ∧ rs2.length ≤ i ∧ ∃ z9 z10 z11, σ = [some (.ref a), some (.int c0), some (.int (m : Int)), some (.bl t), some (.ref fm), some (.ref p1), some (.ref p2), some (.ref k1), some (.ref k2'), z9, z10, z11]) ⟨l1, k1, [], [], l2, [], [], W0, Nat.le_refl _, Nat.le_refl _, _, _, _, rfl⟩ ?_ ?_ ?_
      · rintro i σ H8 hi ⟨_, _, _, _, _, _, _, W, _⟩
        exact SqL.of (W.off _ (List.mem_cons_self ..)).1
      · clear W0
        rintro i x σ H8 hx ⟨l1, k1, rs1, ks1, l2, rs2, ks2, W, n1, n2, z9, z10, z11, rfl⟩
        obtain ⟨c, rfl⟩ : ∃ c, x = .int c := by rw [List.getElem?_map] at hx; cases h : ms[i]? with | none => rw [h] at hx; cases hx | some y => rw [h] at hx; exact ⟨y, (Option.some.inj hx).symm⟩
        have hi24 : i < 24 := by have := (List.getElem?_eq_some_iff.mp hx).1; rw [List.length_map] at this; omega
        refine .inl ⟨_, rfl, c, rfl, fun v1 hv1 => ⟨_, rfl, _, _, rfl, rfl, ⟨by decide, by decide⟩, .inl ⟨_, _, rfl, rfl, _, rfl, fun v2 hv2 => ⟨(by show 2 ≤ sizeLine; decide), fun il hil => ⟨il, rfl, ⟨_, SqL.of upd_same⟩, ?_⟩⟩⟩⟩⟩
        replace W := W.more (xs := [V.int v1, V.int v2]) hil
        generalize upd H8 il (HO.lst [V.int v1, V.int v2]) = H9 at W ⊢
        clear hil hx
        refine for_list (xs := [V.int v1, V.int v2]) (fun j σ HA => ∃ l1 k1 rs1 ks1, Two CS CT CW H HA t fm [(il, [V.int v1, V.int v2]), (sl, ms.map V.int)] m p1 d1 l1 k1 rs1 ks1 (2 + m % 4) p2 d2 l2 k2' rs2 ks2 ∧ rs1.length ≤ 2 * i + j ∧ ∃ z10 z11, σ = [some (.ref a), some (.int c0), some (.int (m : Int)), some (.bl t), some (.ref fm), some (.ref p1), some (.ref p2), some (.ref k1), some (.ref k2'), some (.int c), z10, z11]) ⟨l1, k1, rs1, ks1, W, by omega, _, _, rfl⟩ ?_ ?_ ?_
        · rintro j σ HA hj ⟨_, _, _, _, W, _⟩
          exact SqL.of (W.off _ (List.mem_cons_self ..)).1
        · clear W n1
          rintro j x σ HA hx ⟨l1, k1, rs1, ks1, W, n1, z10, z11, rfl⟩
          have hj2 : j < 2 := (List.getElem?_eq_some_iff.mp hx).1
          obtain ⟨v, rfl, hv⟩ : ∃ v, x = .int v ∧ WholeIn v := by
            match j, hx with
            | 0, hx => exact ⟨v1, (Option.some.inj hx).symm, hv1⟩
            | 1, hx => exact ⟨v2, (Option.some.inj hx).symm, hv2⟩
          have hlk := W.a.pm.length_eq
          refine ⟨_, rfl, v, rfl, hv, ?_⟩
          have hwl := whl_length hv.1 hv.2
          have hxl := rowK_len (t := t) hv
          first
          | (have hf : t = false := ht
             have ew : whl v = rowK t v := by rw [hf]; rfl
             rw [ew]
             refine ⟨_, rfl, t, rfl, iteE hf ?_⟩)
          | (refine ⟨_, rfl, t, rfl, iteC ht ⟨_, rfl, whl v, rfl, by omega, ?_⟩⟩
             have ew : trow v = rowK t v := by rw [ht]; rfl
             change gName 11 (V.str (rowS (trow v))) _ _ _
             rw [ew])
          generalize ex : rowK t v = x
          rw [ex] at hxl
          refine ⟨_, rfl, _, _, rfl, rfl, (by show (0 : Int) < 4; decide), _, _, rfl, rfl, _, rfl, iteD (fun c1 => ?_) (fun c1 => ?_)⟩
          · refine ⟨_, rfl, p1, d1, _, rfl, W.a.sh.1, slookm .., _, rfl, put_kind (t := t) ⟨p1, d1, fm, l1, (m : Int), v, rs1, rfl, W.a.sh, W.k, hv, W.rws (by omega), fun hin => ?_, fun hout l' hl' => ?_⟩⟩
            · rw [ex] at hin
              have hk : x ∈ ks1 := W.a.pm.mem_iff.mpr hin
              refine ⟨_, rfl, _, rfl, k1, RL ks1, rfl, .inl (SqL.of W.a.hk), rfl, flat_rows ks1, false, (by rw [inV_rows, decide_eq_true hk]; rfl), iteF ?_⟩
              exact ⟨l1, k1, rs1, ks1, W, by omega, _, _, rfl⟩
            · rw [ex] at hout ⊢
              have hk : x ∉ ks1 := fun z => hout (W.a.pm.mem_iff.mp z)
              have gk : upd (upd HA p1 (.ins CS d1 (shF fm ((m : Nat) : Int) l'))) l' (.lst (RL (insR x rs1))) k1 = some (.lst (RL ks1)) := by rw [upd_ne (ne_of_none W.a.hk hl'), upd_ne (lst_ne_ins W.a.hk W.a.sh.1)]; exact W.a.hk
              refine ⟨_, rfl, _, rfl, k1, RL ks1, rfl, .inl (SqL.of gk), rfl, flat_rows ks1, true, (by rw [inV_rows, decide_eq_false hk]; rfl), iteT ?_⟩
              refine ⟨_, rfl, .inl ⟨rfl, _, SqL.of gk⟩, _, rfl, k1, _, _, rfl, rfl, gk, (by rw [RL_len]; exact Nat.lt_of_le_of_lt (show ks1.length ≤ 1000 by omega) (by decide)), ?_⟩
              rw [show RL ks1 ++ [V.str (rowS x)] = RL (ks1 ++ [x]) from (RL_app ks1 [x]).symm]
              exact ⟨l', k1, insR x rs1, ks1 ++ [x], W.put hout hxl hl', by rw [insR_len]; omega, _, _, rfl⟩
          · refine ⟨_, rfl, p1, d1, _, rfl, W.a.sh.1, slookm .., _, rfl, take_kind (t := t) ⟨p1, d1, fm, l1, (m : Int), v, rs1, rfl, W.a.sh, W.k, hv, W.rws (by omega), fun hout => ?_, fun hin => ?_⟩⟩
            · rw [ex] at hout
              have hk : x ∉ ks1 := fun z => hout (W.a.pm.mem_iff.mp z)
              have gk := W.a.hk
              refine .inl ⟨_, rfl, k1, rfl, ⟨_, SqL.of gk⟩, fun D hD => ?_⟩
              refine comp_filter (xs := RL ks1) (keepNe x) id (fun σ => ∃ z, σ = [z, some (.str (rowS x))]) (by rw [RL_len]; exact small5 (by omega)) ⟨_, rfl⟩ hD (SqL.of gk) ?_ ?_
              · rintro v hv σ1 H1 ⟨z, rfl⟩ hs1 R R' hR
                obtain ⟨y, _, rfl⟩ := List.mem_map.mp hv
                refine ⟨_, rfl, _, rfl, rfl, _, rfl, ?_⟩
                have hR := hR [some (.str (rowS y)), some (.str (rowS x))] ⟨_, rfl⟩
                generalize hv0 : V.str (rowS y) = v at hR ⊢
                cases hk : keepNe x v with
                | true =>
                  rw [if_pos hk] at hR
                  have hk' : (!decide (v = .str (rowS x))) = true := hk
                  rw [hk']
                  exact iteT ⟨_, rfl, hR⟩
                | false =>
                  rw [if_neg (by rw [hk]; exact Bool.false_ne_true)] at hR
                  have hk' : (!decide (v = .str (rowS x))) = false := hk
                  rw [hk']
                  exact iteF hR
              rw [less_RL]
              rw [less_same hk]
              exact ⟨l1, D, rs1, ks1, W.rekeep hD, by omega, _, _, rfl⟩
            · rw [ex] at hin ⊢
              have gk : upd HA l1 (.lst (RL (lessR x rs1))) k1 = some (.lst (RL ks1)) := by rw [upd_ne W.a.ne.symm]; exact W.a.hk
              refine .inl ⟨_, rfl, k1, rfl, ⟨_, SqL.of gk⟩, fun D hD => ?_⟩
              refine comp_filter (xs := RL ks1) (keepNe x) id (fun σ => ∃ z, σ = [z, some (.str (rowS x))]) (by rw [RL_len]; exact small5 (by omega)) ⟨_, rfl⟩ hD (SqL.of gk) ?_ ?_
              · rintro v hv σ1 H1 ⟨z, rfl⟩ hs1 R R' hR
                obtain ⟨y, _, rfl⟩ := List.mem_map.mp hv
                refine ⟨_, rfl, _, rfl, rfl, _, rfl, ?_⟩
                have hR := hR [some (.str (rowS y)), some (.str (rowS x))] ⟨_, rfl⟩
                generalize hv0 : V.str (rowS y) = v at hR ⊢
                cases hk : keepNe x v with
                | true =>
                  rw [if_pos hk] at hR
                  have hk' : (!decide (v = .str (rowS x))) = true := hk
                  rw [hk']
                  exact iteT ⟨_, rfl, hR⟩
                | false =>
                  rw [if_neg (by rw [hk]; exact Bool.false_ne_true)] at hR
                  have hk' : (!decide (v = .str (rowS x))) = false := hk
                  rw [hk']
                  exact iteF hR
              rw [less_RL]
              exact ⟨l1, D, lessR x rs1, lessR x ks1, W.take hD, by have := less_len (x := x) (rs := rs1); omega, _, _, rfl⟩
        · clear W n1
          rintro σ HA ⟨l1, k1, rs1, ks1, W, n1, z10, z11, rfl⟩
          replace n1 : rs1.length ≤ 2 * i + 2 := n1
          replace W := W.less
          have hlk := W.b.pm.length_eq
          refine ⟨_, rfl, _, _, rfl, rfl, ⟨by decide, by decide⟩, _, rfl, fun v hv => ?_⟩
          refine ⟨_, rfl, v, rfl, hv, ?_⟩
          have hwl := whl_length hv.1 hv.2
          have hxl := rowK_len (t := t) hv
          first
          | (have hf : t = false := ht
             have ew : whl v = rowK t v := by rw [hf]; rfl
             rw [ew]
             refine ⟨_, rfl, t, rfl, iteE hf ?_⟩)
          | (refine ⟨_, rfl, t, rfl, iteC ht ⟨_, rfl, whl v, rfl, by omega, ?_⟩⟩
             have ew : trow v = rowK t v := by rw [ht]; rfl
             change gName 11 (V.str (rowS (trow v))) _ _ _
             rw [ew])
          generalize ex : rowK t v = x
          rw [ex] at hxl
          refine ⟨_, rfl, p2, d2, _, rfl, W.b.sh.1, slookm .., _, rfl, put_kind (t := t) ⟨p2, d2, fm, l2, ((2 + m % 4 : Nat) : Int), v, rs2, rfl, W.b.sh, W.k, hv, W.swap.rws (by omega), fun hin => ?_, fun hout l' hl' => ?_⟩⟩
          · rw [ex] at hin
            have hk : x ∈ ks2 := W.b.pm.mem_iff.mpr hin
            refine ⟨_, rfl, _, rfl, k2', RL ks2, rfl, .inl (SqL.of W.b.hk), rfl, flat_rows ks2, false, (by rw [inV_rows, decide_eq_true hk]; rfl), iteF ?_⟩
            have hn2 : rs2.length ≤ i + 1 := by omega
            refine ⟨_, rfl, _, rfl, _, rfl, _, rfl, _, _, rfl, rfl, ⟨by decide, by decide⟩, _, _, rfl, rfl, (by show (0 : Int) < 2; decide), rfl, p1, d1, fm, l1, k1, m, rs1, ks1, _, rfl, W.a.sh, h2, h20, W.rws (by omega), W.a.hk, W.a.pm, true, rfl, iteF ?_⟩
            exact ⟨l1, k1, rs1, ks1, _, _, _, W, by omega, hn2, _, _, _, rfl⟩
          · rw [ex] at hout ⊢
            have hk : x ∉ ks2 := fun z => hout (W.b.pm.mem_iff.mp z)
            have gk : upd (upd HA p2 (.ins CS d2 (shF fm ((2 + m % 4 : Nat) : Int) l'))) l' (.lst (RL (insR x rs2))) k2' = some (.lst (RL ks2)) := by rw [upd_ne (ne_of_none W.b.hk hl'), upd_ne (lst_ne_ins W.b.hk W.b.sh.1)]; exact W.b.hk
            refine ⟨_, rfl, _, rfl, k2', RL ks2, rfl, .inl (SqL.of gk), rfl, flat_rows ks2, true, (by rw [inV_rows, decide_eq_false hk]; rfl), iteT ?_⟩
            refine ⟨_, rfl, .inl ⟨rfl, _, SqL.of gk⟩, _, rfl, k2', _, _, rfl, rfl, gk, (by rw [RL_len]; exact Nat.lt_of_le_of_lt (show ks2.length ≤ 1000 by omega) (by decide)), ?_⟩
            rw [show RL ks2 ++ [V.str (rowS x)] = RL (ks2 ++ [x]) from (RL_app ks2 [x]).symm]
            replace W := (W.swap.put hout hxl hl').swap
            have hn2 : (insR x rs2).length ≤ i + 1 := by rw [insR_len]; omega
            refine ⟨_, rfl, _, rfl, _, rfl, _, rfl, _, _, rfl, rfl, ⟨by decide, by decide⟩, _, _, rfl, rfl, (by show (0 : Int) < 2; decide), rfl, p1, d1, fm, l1, k1, m, rs1, ks1, _, rfl, W.a.sh, h2, h20, W.rws (by omega), W.a.hk, W.a.pm, true, rfl, iteF ?_⟩
            exact ⟨l1, k1, rs1, ks1, _, _, _, W, by omega, hn2, _, _, _, rfl⟩
      · clear W0
        rintro σ H8 ⟨l1, k1, rs1, ks1, l2, rs2, ks2, W, n1, n2, z9, z10, z11, rfl⟩
        rw [List.length_map] at n1 n2
        refine ⟨_, rfl, _, rfl, _, _, rfl, rfl, (by show (0 : Int) < 4; decide), .inl ⟨_, _, rfl, rfl, _, rfl, _, rfl, _, _, rfl, rfl, (by show (0 : Int) < 2; decide), rfl, p2, d2, fm, l2, k2', 2 + m % 4, rs2, ks2, _, congrArg (fun z => [V.ref p2, V.int z, V.ref k2', V.bl _]) e4, W.b.sh, by omega, by omega, W.swap.rws (by omega), W.b.hk, W.b.pm, true, rfl, iteF ?_⟩⟩
        exact ⟨_, rfl, _, rfl, _, rfl, _, rfl, _, _, rfl, rfl, (by show (0 : Int) < 2; decide), rfl, p1, d1, fm, l1, k1, m, rs1, ks1, _, rfl, W.a.sh, h2, h20, W.rws (by omega), W.a.hk, W.a.pm, H, .refl W.hs, q _⟩
    · have ht : t = false := by simpa using ht
      refine iteE ht ?_
      have k2 : KindAt CT CW t H1 x := by
        unfold KindAt
        rw [if_neg (by rw [ht]; exact Bool.false_ne_true)]
        exact w1
      have hs2 := s1
      obtain ⟨H2, rfl⟩ : ∃ H2, H2 = H1 := ⟨_, rfl⟩
      clear s1 w1 hx hdx hne
      obtain ⟨fm, rfl⟩ : ∃ fm, fm = x := ⟨_, rfl⟩
      refine ⟨_, rfl, _, rfl, fun p1 d1 hp1 hd1 hn1 => ⟨p1, d1, fm, (m : Int), rfl, upd_same, by omega, by omega, fun l1 hl1 => ⟨rfl, ?_⟩⟩⟩
      obtain ⟨s3, sh1, nl1, ne1⟩ := shelf_new (fm := fm) (m := (m : Int)) hp1 hd1 hn1 hl1
      generalize upd (upd (upd (upd H2 d1 _) p1 _) p1 _) l1 _ = H3 at s3 sh1 ⊢
      refine ⟨_, rfl, _, rfl, _, _, rfl, rfl, (by show (0 : Int) < 4; decide), .inl ⟨_, _, rfl, rfl, fun p2 d2 hp2 hd2 hn2 => ⟨p2, d2, fm, ((2 + m % 4 : Nat) : Int), congrArg (fun z => [V.ref p2, V.ref fm, V.int z]) e4, upd_same, by omega, by omega, fun l2 hl2 => ⟨rfl, ?_⟩⟩⟩⟩
      obtain ⟨s4, sh2, nl2, ne2⟩ := shelf_new (fm := fm) (m := ((2 + m % 4 : Nat) : Int)) hp2 hd2 hn2 hl2
      generalize upd (upd (upd (upd H3 d2 _) p2 _) p2 _) l2 _ = H4 at s4 sh2 ⊢
      refine ⟨Nat.zero_le _, fun k1 hk1 => ?_⟩
      have s5 := same_new (o := HO.lst []) hk1
      have g1 := upd_same (H := H4) (a := k1) (o := HO.lst [])
      generalize upd H4 k1 (HO.lst []) = H5 at s5 g1 ⊢
      refine ⟨Nat.zero_le _, fun k2' hk2 => ?_⟩
      have s6 := same_new (o := HO.lst []) hk2
      have g2 := upd_same (H := H5) (a := k2') (o := HO.lst [])
      generalize upd H5 k2' (HO.lst []) = H6 at s6 g2 ⊢
      have u := (s4.trans s5).trans s6
      have u2 := s5.trans s6
      have W0 : Two CS CT CW H H6 t fm [] m p1 d1 l1 k1 [] [] (2 + m % 4) p2 d2 l2 k2' [] [] :=
        ⟨(hs2.trans s3).trans u, kind_same k2 (s3.trans u), .new ⟨u _ _ sh1.1, u _ _ sh1.2⟩ (s6 _ _ g1) (ne_of_none (s4 _ _ sh1.2) hk1) h2 h20, .new ⟨u2 _ _ sh2.1, u2 _ _ sh2.2⟩ g2 (ne_of_none (s5 _ _ sh2.2) hk2) (by omega) (by omega),
         hs2.free hp1, (hs2.trans s3).free hp2, hs2.free nl1, (hs2.trans s3).free nl2, ((hs2.trans s3).trans s4).free hk1, (((hs2.trans s3).trans s4).trans s5).free hk2, ne_of_none sh1.1 hp2, ne_of_none sh1.2 nl2, ne_of_none ((s4.trans s5) _ _ sh1.2) hk2, (ne_of_none sh2.2 hk1).symm, ne_of_none g1 hk2, fun y hy => nomatch hy⟩
      clear s3 sh1 nl1 ne1 hp1 hd1 hn1 hl1 s4 sh2 nl2 ne2 hp2 hd2 hn2 hl2 hk1 s5 g1 hk2 s6 g2 u u2 k2 hs2
      refine .inl ⟨_, rfl, _, rfl, .inl ⟨a, _, rfl, W0.hs.seq hS, fun sl hsl => ⟨_, rfl, ⟨_, SqL.of upd_same⟩, ?_⟩⟩⟩
      have hcut2 : (cutV (ns.map V.int) none (some 24)).length ≤ 24 := by
        unfold cutV HT.sIx
        rw [List.length_take, List.length_drop]
        dsimp only
        rw [if_neg (by decide)]
        omega
      obtain ⟨ms, hms, hml⟩ := cut_map ns none (some 24)
      rw [hms, List.length_map] at hcut2
      rw [hms]
      replace W0 := W0.more (xs := ms.map V.int) hsl
      generalize upd H6 sl (HO.lst (ms.map V.int)) = H7 at W0 ⊢
      clear hsl hms hml
      refine for_list (xs := ms.map V.int) (fun i σ H8 => ∃ l1 k1 rs1 ks1 l2 rs2 ks2, Two CS CT CW H H8 t fm [(sl, ms.map V.int)] m p1 d1 l1 k1 rs1 ks1 (2 + m % 4) p2 d2 l2 k2' rs2 ks2 ∧ rs1.length ≤ 2 * i ∧ rs2.length ≤ i ∧ ∃ z9 z10 z11, σ = [some (.ref a), some (.int c0), some (.int (m : Int)), some (.bl t), some (.ref fm), some (.ref p1), some (.ref p2), some (.ref k1), some (.ref k2'), z9, z10, z11]) ⟨l1, k1, [], [], l2, [], [], W0, Nat.le_refl _, Nat.le_refl _, _, _, _, rfl⟩ ?_ ?_ ?_
      · rintro i σ H8 hi ⟨_, _, _, _, _, _, _, W, _⟩
        exact SqL.of (W.off _ (List.mem_cons_self ..)).1
      · clear W0
        rintro i x σ H8 hx ⟨l1, k1, rs1, ks1, l2, rs2, ks2, W, n1, n2, z9, z10, z11, rfl⟩
        obtain ⟨c, rfl⟩ : ∃ c, x = .int c := by rw [List.getElem?_map] at hx; cases h : ms[i]? with | none => rw [h] at hx; cases hx | some y => rw [h] at hx; exact ⟨y, (Option.some.inj hx).symm⟩
        have hi24 : i < 24 := by have := (List.getElem?_eq_some_iff.mp hx).1; rw [List.length_map] at this; omega
        refine .inl ⟨_, rfl, c, rfl, fun v1 hv1 => ⟨_, rfl, _, _, rfl, rfl, ⟨by decide, by decide⟩, .inl ⟨_, _, rfl, rfl, _, rfl, fun v2 hv2 => ⟨(by show 2 ≤ sizeLine; decide), fun il hil => ⟨il, rfl, ⟨_, SqL.of upd_same⟩, ?_⟩⟩⟩⟩⟩
        replace W := W.more (xs := [V.int v1, V.int v2]) hil
        generalize upd H8 il (HO.lst [V.int v1, V.int v2]) = H9 at W ⊢
        clear hil hx
        refine for_list (xs := [V.int v1, V.int v2]) (fun j σ HA => ∃ l1 k1 rs1 ks1, Two CS CT CW H HA t fm [(il, [V.int v1, V.int v2]), (sl, ms.map V.int)] m p1 d1 l1 k1 rs1 ks1 (2 + m % 4) p2 d2 l2 k2' rs2 ks2 ∧ rs1.length ≤ 2 * i + j ∧ ∃ z10 z11, σ = [some (.ref a), some (.int c0), some (.int (m : Int)), some (.bl t), some (.ref fm), some (.ref p1), some (.ref p2), some (.ref k1), some (.ref k2'), some (.int c), z10, z11]) ⟨l1, k1, rs1, ks1, W, by omega, _, _, rfl⟩ ?_ ?_ ?_
        · rintro j σ HA hj ⟨_, _, _, _, W, _⟩
          exact SqL.of (W.off _ (List.mem_cons_self ..)).1
        · clear W n1
          rintro j x σ HA hx ⟨l1, k1, rs1, ks1, W, n1, z10, z11, rfl⟩
          have hj2 : j < 2 := (List.getElem?_eq_some_iff.mp hx).1
          obtain ⟨v, rfl, hv⟩ : ∃ v, x = .int v ∧ WholeIn v := by
            match j, hx with
            | 0, hx => exact ⟨v1, (Option.some.inj hx).symm, hv1⟩
            | 1, hx => exact ⟨v2, (Option.some.inj hx).symm, hv2⟩
          have hlk := W.a.pm.length_eq
          refine ⟨_, rfl, v, rfl, hv, ?_⟩
          have hwl := whl_length hv.1 hv.2
          have hxl := rowK_len (t := t) hv
          first
          | (have hf : t = false := ht
             have ew : whl v = rowK t v := by rw [hf]; rfl
             rw [ew]
             refine ⟨_, rfl, t, rfl, iteE hf ?_⟩)
          | (refine ⟨_, rfl, t, rfl, iteC ht ⟨_, rfl, whl v, rfl, by omega, ?_⟩⟩
             have ew : trow v = rowK t v := by rw [ht]; rfl
             change gName 11 (V.str (rowS (trow v))) _ _ _
             rw [ew])
          generalize ex : rowK t v = x
          rw [ex] at hxl
          refine ⟨_, rfl, _, _, rfl, rfl, (by show (0 : Int) < 4; decide), _, _, rfl, rfl, _, rfl, iteD (fun c1 => ?_) (fun c1 => ?_)⟩
          · refine ⟨_, rfl, p1, d1, _, rfl, W.a.sh.1, slookm .., _, rfl, put_kind (t := t) ⟨p1, d1, fm, l1, (m : Int), v, rs1, rfl, W.a.sh, W.k, hv, W.rws (by omega), fun hin => ?_, fun hout l' hl' => ?_⟩⟩
            · rw [ex] at hin
              have hk : x ∈ ks1 := W.a.pm.mem_iff.mpr hin
              refine ⟨_, rfl, _, rfl, k1, RL ks1, rfl, .inl (SqL.of W.a.hk), rfl, flat_rows ks1, false, (by rw [inV_rows, decide_eq_true hk]; rfl), iteF ?_⟩
              exact ⟨l1, k1, rs1, ks1, W, by omega, _, _, rfl⟩
            · rw [ex] at hout ⊢
              have hk : x ∉ ks1 := fun z => hout (W.a.pm.mem_iff.mp z)
              have gk : upd (upd HA p1 (.ins CS d1 (shF fm ((m : Nat) : Int) l'))) l' (.lst (RL (insR x rs1))) k1 = some (.lst (RL ks1)) := by rw [upd_ne (ne_of_none W.a.hk hl'), upd_ne (lst_ne_ins W.a.hk W.a.sh.1)]; exact W.a.hk
              refine ⟨_, rfl, _, rfl, k1, RL ks1, rfl, .inl (SqL.of gk), rfl, flat_rows ks1, true, (by rw [inV_rows, decide_eq_false hk]; rfl), iteT ?_⟩
              refine ⟨_, rfl, .inl ⟨rfl, _, SqL.of gk⟩, _, rfl, k1, _, _, rfl, rfl, gk, (by rw [RL_len]; exact Nat.lt_of_le_of_lt (show ks1.length ≤ 1000 by omega) (by decide)), ?_⟩
              rw [show RL ks1 ++ [V.str (rowS x)] = RL (ks1 ++ [x]) from (RL_app ks1 [x]).symm]
              exact ⟨l', k1, insR x rs1, ks1 ++ [x], W.put hout hxl hl', by rw [insR_len]; omega, _, _, rfl⟩
          · refine ⟨_, rfl, p1, d1, _, rfl, W.a.sh.1, slookm .., _, rfl, take_kind (t := t) ⟨p1, d1, fm, l1, (m : Int), v, rs1, rfl, W.a.sh, W.k, hv, W.rws (by omega), fun hout => ?_, fun hin => ?_⟩⟩
            · rw [ex] at hout
              have hk : x ∉ ks1 := fun z => hout (W.a.pm.mem_iff.mp z)
              have gk := W.a.hk
              refine .inl ⟨_, rfl, k1, rfl, ⟨_, SqL.of gk⟩, fun D hD => ?_⟩
              refine comp_filter (xs := RL ks1) (keepNe x) id (fun σ => ∃ z, σ = [z, some (.str (rowS x))]) (by rw [RL_len]; exact small5 (by omega)) ⟨_, rfl⟩ hD (SqL.of gk) ?_ ?_
              · rintro v hv σ1 H1 ⟨z, rfl⟩ hs1 R R' hR
                obtain ⟨y, _, rfl⟩ := List.mem_map.mp hv
                refine ⟨_, rfl, _, rfl, rfl, _, rfl, ?_⟩
                have hR := hR [some (.str (rowS y)), some (.str (rowS x))] ⟨_, rfl⟩
                generalize hv0 : V.str (rowS y) = v at hR ⊢
                cases hk : keepNe x v with
                | true =>
                  rw [if_pos hk] at hR
                  have hk' : (!decide (v = .str (rowS x))) = true := hk
                  rw [hk']
                  exact iteT ⟨_, rfl, hR⟩
                | false =>
                  rw [if_neg (by rw [hk]; exact Bool.false_ne_true)] at hR
                  have hk' : (!decide (v = .str (rowS x))) = false := hk
                  rw [hk']
                  exact iteF hR
              rw [less_RL]
              rw [less_same hk]
              exact ⟨l1, D, rs1, ks1, W.rekeep hD, by omega, _, _, rfl⟩
            · rw [ex] at hin ⊢
              have gk : upd HA l1 (.lst (RL (lessR x rs1))) k1 = some (.lst (RL ks1)) := by rw [upd_ne W.a.ne.symm]; exact W.a.hk
              refine .inl ⟨_, rfl, k1, rfl, ⟨_, SqL.of gk⟩, fun D hD => ?_⟩
              refine comp_filter (xs := RL ks1) (keepNe x) id (fun σ => ∃ z, σ = [z, some (.str (rowS x))]) (by rw [RL_len]; exact small5 (by omega)) ⟨_, rfl⟩ hD (SqL.of gk) ?_ ?_
              · rintro v hv σ1 H1 ⟨z, rfl⟩ hs1 R R' hR
                obtain ⟨y, _, rfl⟩ := List.mem_map.mp hv
                refine ⟨_, rfl, _, rfl, rfl, _, rfl, ?_⟩
                have hR := hR [some (.str (rowS y)), some (.str (rowS x))] ⟨_, rfl⟩
                generalize hv0 : V.str (rowS y) = v at hR ⊢
                cases hk : keepNe x v with
                | true =>
                  rw [if_pos hk] at hR
                  have hk' : (!decide (v = .str (rowS x))) = true := hk
                  rw [hk']
                  exact iteT ⟨_, rfl, hR⟩
                | false =>
                  rw [if_neg (by rw [hk]; exact Bool.false_ne_true)] at hR
                  have hk' : (!decide (v = .str (rowS x))) = false := hk
                  rw [hk']
                  exact iteF hR
              rw [less_RL]
              exact ⟨l1, D, lessR x rs1, lessR x ks1, W.take hD, by have := less_len (x := x) (rs := rs1); omega, _, _, rfl⟩
        · clear W n1
          rintro σ HA ⟨l1, k1, rs1, ks1, W, n1, z10, z11, rfl⟩
          replace n1 : rs1.length ≤ 2 * i + 2 := n1
          replace W := W.less
          have hlk := W.b.pm.length_eq
          refine ⟨_, rfl, _, _, rfl, rfl, ⟨by decide, by decide⟩, _, rfl, fun v hv => ?_⟩
          refine ⟨_, rfl, v, rfl, hv, ?_⟩
          have hwl := whl_length hv.1 hv.2
          have hxl := rowK_len (t := t) hv
          first
          | (have hf : t = false := ht
             have ew : whl v = rowK t v := by rw [hf]; rfl
             rw [ew]
             refine ⟨_, rfl, t, rfl, iteE hf ?_⟩)
          | (refine ⟨_, rfl, t, rfl, iteC ht ⟨_, rfl, whl v, rfl, by omega, ?_⟩⟩
             have ew : trow v = rowK t v := by rw [ht]; rfl
             change gName 11 (V.str (rowS (trow v))) _ _ _
             rw [ew])
          generalize ex : rowK t v = x
          rw [ex] at hxl
          refine ⟨_, rfl, p2, d2, _, rfl, W.b.sh.1, slookm .., _, rfl, put_kind (t := t) ⟨p2, d2, fm, l2, ((2 + m % 4 : Nat) : Int), v, rs2, rfl, W.b.sh, W.k, hv, W.swap.rws (by omega), fun hin => ?_, fun hout l' hl' => ?_⟩⟩
          · rw [ex] at hin
            have hk : x ∈ ks2 := W.b.pm.mem_iff.mpr hin
            refine ⟨_, rfl, _, rfl, k2', RL ks2, rfl, .inl (SqL.of W.b.hk), rfl, flat_rows ks2, false, (by rw [inV_rows, decide_eq_true hk]; rfl), iteF ?_⟩
            have hn2 : rs2.length ≤ i + 1 := by omega
            refine ⟨_, rfl, _, rfl, _, rfl, _, rfl, _, _, rfl, rfl, ⟨by decide, by decide⟩, _, _, rfl, rfl, (by show (0 : Int) < 2; decide), rfl, p1, d1, fm, l1, k1, m, rs1, ks1, _, rfl, W.a.sh, h2, h20, W.rws (by omega), W.a.hk, W.a.pm, true, rfl, iteF ?_⟩
            exact ⟨l1, k1, rs1, ks1, _, _, _, W, by omega, hn2, _, _, _, rfl⟩
          · rw [ex] at hout ⊢
            have hk : x ∉ ks2 := fun z => hout (W.b.pm.mem_iff.mp z)
            have gk : upd (upd HA p2 (.ins CS d2 (shF fm ((2 + m % 4 : Nat) : Int) l'))) l' (.lst (RL (insR x rs2))) k2' = some (.lst (RL ks2)) := by rw [upd_ne (ne_of_none W.b.hk hl'), upd_ne (lst_ne_ins W.b.hk W.b.sh.1)]; exact W.b.hk
            refine ⟨_, rfl, _, rfl, k2', RL ks2, rfl, .inl (SqL.of gk), rfl, flat_rows ks2, true, (by rw [inV_rows, decide_eq_false hk]; rfl), iteT ?_⟩
            refine ⟨_, rfl, .inl ⟨rfl, _, SqL.of gk⟩, _, rfl, k2', _, _, rfl, rfl, gk, (by rw [RL_len]; exact Nat.lt_of_le_of_lt (show ks2.length ≤ 1000 by omega) (by decide)), ?_⟩
            rw [show RL ks2 ++ [V.str (rowS x)] = RL (ks2 ++ [x]) from (RL_app ks2 [x]).symm]
            replace W := (W.swap.put hout hxl hl').swap
            have hn2 : (insR x rs2).length ≤ i + 1 := by rw [insR_len]; omega
            refine ⟨_, rfl, _, rfl, _, rfl, _, rfl, _, _, rfl, rfl, ⟨by decide, by decide⟩, _, _, rfl, rfl, (by show (0 : Int) < 2; decide), rfl, p1, d1, fm, l1, k1, m, rs1, ks1, _, rfl, W.a.sh, h2, h20, W.rws (by omega), W.a.hk, W.a.pm, true, rfl, iteF ?_⟩
            exact ⟨l1, k1, rs1, ks1, _, _, _, W, by omega, hn2, _, _, _, rfl⟩
      · clear W0
        rintro σ H8 ⟨l1, k1, rs1, ks1, l2, rs2, ks2, W, n1, n2, z9, z10, z11, rfl⟩
        rw [List.length_map] at n1 n2
        refine ⟨_, rfl, _, rfl, _, _, rfl, rfl, (by show (0 : Int) < 4; decide), .inl ⟨_, _, rfl, rfl, _, rfl, _, rfl, _, _, rfl, rfl, (by show (0 : Int) < 2; decide), rfl, p2, d2, fm, l2, k2', 2 + m % 4, rs2, ks2, _, congrArg (fun z => [V.ref p2, V.int z, V.ref k2', V.bl _]) e4, W.b.sh, by omega, by omega, W.swap.rws (by omega), W.b.hk, W.b.pm, true, rfl, iteF ?_⟩⟩
        exact ⟨_, rfl, _, rfl, _, rfl, _, rfl, _, _, rfl, rfl, (by show (0 : Int) < 2; decide), rfl, p1, d1, fm, l1, k1, m, rs1, ks1, _, rfl, W.a.sh, h2, h20, W.rws (by omega), W.a.hk, W.a.pm, H, .refl W.hs, q _⟩
theorem ex1 (us : List Value) (hl : us.length = 1) : ∃ a : Value, us = [a] := match us, hl with | [a], _ => ⟨a, rfl⟩
theorem ex2 (us : List Value) (hl : us.length = 2) : ∃ a b : Value, us = [a, b] := match us, hl with | [a, b], _ => ⟨a, b, rfl⟩
theorem ex3 (us : List Value) (hl : us.length = 3) : ∃ a b c : Value, us = [a, b, c] := match us, hl with | [a, b, c], _ => ⟨a, b, c, rfl⟩
theorem ex4 (us : List Value) (hl : us.length = 4) : ∃ a b c d : Value, us = [a, b, c, d] := match us, hl with | [a, b, c, d], _ => ⟨a, b, c, d, rfl⟩
theorem all_mk {l : PySem.W.OpenLaw} {w : World} {K : PySem.W.Frag} {h : Heap} {mg : Str → Option Value} {fa : Addr} (X : K.In h) (G : h.Ns mainGlobals mg) (hfa : mg "law" = some (.ref fa))
    {C_Source : Addr} {f_Source_init : Addr} {od_Source_init an_Source_init : Option Addr} {sl_Source_init : Array (Option Value)} {oc_Source_init kV_Source_init dc_Source_init pm_Source_init cd_Source_init ct_Source_init : Value} {f_Source_draw : Addr} {od_Source_draw an_Source_draw : Option Addr} {sl_Source_draw : Array (Option Value)} {oc_Source_draw kV_Source_draw dc_Source_draw pm_Source_draw cd_Source_draw ct_Source_draw : Value} {C_Whole : Addr} {f_Whole_fits : Addr} {od_Whole_fits an_Whole_fits : Option Addr} {sl_Whole_fits : Array (Option Value)} {oc_Whole_fits kV_Whole_fits dc_Whole_fits pm_Whole_fits cd_Whole_fits ct_Whole_fits : Value} {f_Whole_written : Addr} {od_Whole_written an_Whole_written : Option Addr} {sl_Whole_written : Array (Option Value)} {oc_Whole_written kV_Whole_written dc_Whole_written pm_Whole_written cd_Whole_written ct_Whole_written : Value} {f_Whole_row : Addr} {od_Whole_row an_Whole_row : Option Addr} {sl_Whole_row : Array (Option Value)} {oc_Whole_row kV_Whole_row dc_Whole_row pm_Whole_row cd_Whole_row ct_Whole_row : Value} {C_Turned : Addr} {f_Turned_init : Addr} {od_Turned_init an_Turned_init : Option Addr} {sl_Turned_init : Array (Option Value)} {oc_Turned_init kV_Turned_init dc_Turned_init pm_Turned_init cd_Turned_init ct_Turned_init : Value} {f_Turned_fits : Addr} {od_Turned_fits an_Turned_fits : Option Addr} {sl_Turned_fits : Array (Option Value)} {oc_Turned_fits kV_Turned_fits dc_Turned_fits pm_Turned_fits cd_Turned_fits ct_Turned_fits : Value} {f_Turned_written : Addr} {od_Turned_written an_Turned_written : Option Addr} {sl_Turned_written : Array (Option Value)} {oc_Turned_written kV_Turned_written dc_Turned_written pm_Turned_written cd_Turned_written ct_Turned_written : Value} {f_Turned_row : Addr} {od_Turned_row an_Turned_row : Option Addr} {sl_Turned_row : Array (Option Value)} {oc_Turned_row kV_Turned_row dc_Turned_row pm_Turned_row cd_Turned_row ct_Turned_row : Value} {C_Shelf : Addr} {f_Shelf_init : Addr} {od_Shelf_init an_Shelf_init : Option Addr} {sl_Shelf_init : Array (Option Value)} {oc_Shelf_init kV_Shelf_init dc_Shelf_init pm_Shelf_init cd_Shelf_init ct_Shelf_init : Value} {f_Shelf_put : Addr} {od_Shelf_put an_Shelf_put : Option Addr} {sl_Shelf_put : Array (Option Value)} {oc_Shelf_put kV_Shelf_put dc_Shelf_put pm_Shelf_put cd_Shelf_put ct_Shelf_put : Value} {f_Shelf_take : Addr} {od_Shelf_take an_Shelf_take : Option Addr} {sl_Shelf_take : Array (Option Value)} {oc_Shelf_take kV_Shelf_take dc_Shelf_take pm_Shelf_take cd_Shelf_take ct_Shelf_take : Value} {f_Shelf_pages : Addr} {od_Shelf_pages an_Shelf_pages : Option Addr} {sl_Shelf_pages : Array (Option Value)} {oc_Shelf_pages kV_Shelf_pages dc_Shelf_pages pm_Shelf_pages cd_Shelf_pages ct_Shelf_pages : Value} {f_Shelf_partings : Addr} {od_Shelf_partings an_Shelf_partings : Option Addr} {sl_Shelf_partings : Array (Option Value)} {oc_Shelf_partings kV_Shelf_partings dc_Shelf_partings pm_Shelf_partings cd_Shelf_partings ct_Shelf_partings : Value} {f_turned_row : Addr} {od_turned_row an_turned_row : Option Addr} {sl_turned_row : Array (Option Value)} {oc_turned_row kV_turned_row dc_turned_row pm_turned_row cd_turned_row ct_turned_row : Value} {f_lower_digits : Addr} {od_lower_digits an_lower_digits : Option Addr} {sl_lower_digits : Array (Option Value)} {oc_lower_digits kV_lower_digits dc_lower_digits pm_lower_digits cd_lower_digits ct_lower_digits : Value} {f_is_count : Addr} {od_is_count an_is_count : Option Addr} {sl_is_count : Array (Option Value)} {oc_is_count kV_is_count dc_is_count pm_is_count cd_is_count ct_is_count : Value} {f_has_whole_row : Addr} {od_has_whole_row an_has_whole_row : Option Addr} {sl_has_whole_row : Array (Option Value)} {oc_has_whole_row kV_has_whole_row dc_has_whole_row pm_has_whole_row cd_has_whole_row ct_has_whole_row : Value} {f_count_row : Addr} {od_count_row an_count_row : Option Addr} {sl_count_row : Array (Option Value)} {oc_count_row kV_count_row dc_count_row pm_count_row cd_count_row ct_count_row : Value} {f_whole_row : Addr} {od_whole_row an_whole_row : Option Addr} {sl_whole_row : Array (Option Value)} {oc_whole_row kV_whole_row dc_whole_row pm_whole_row cd_whole_row ct_whole_row : Value} {f_draw_lower_digits : Addr} {od_draw_lower_digits an_draw_lower_digits : Option Addr} {sl_draw_lower_digits : Array (Option Value)} {oc_draw_lower_digits kV_draw_lower_digits dc_draw_lower_digits pm_draw_lower_digits cd_draw_lower_digits ct_draw_lower_digits : Value} {f_draw_count : Addr} {od_draw_count an_draw_count : Option Addr} {sl_draw_count : Array (Option Value)} {oc_draw_count kV_draw_count dc_draw_count pm_draw_count cd_draw_count ct_draw_count : Value} {f_read_count : Addr} {od_read_count an_read_count : Option Addr} {sl_read_count : Array (Option Value)} {oc_read_count kV_read_count dc_read_count pm_read_count cd_read_count ct_read_count : Value} {f_is_number : Addr} {od_is_number an_is_number : Option Addr} {sl_is_number : Array (Option Value)} {oc_is_number kV_is_number dc_is_number pm_is_number cd_is_number ct_is_number : Value} {f_first_unlike : Addr} {od_first_unlike an_first_unlike : Option Addr} {sl_first_unlike : Array (Option Value)} {oc_first_unlike kV_first_unlike dc_first_unlike pm_first_unlike cd_first_unlike ct_first_unlike : Value} {f_shared_signs : Addr} {od_shared_signs an_shared_signs : Option Addr} {sl_shared_signs : Array (Option Value)} {oc_shared_signs kV_shared_signs dc_shared_signs pm_shared_signs cd_shared_signs ct_shared_signs : Value} {f_parting_of : Addr} {od_parting_of an_parting_of : Option Addr} {sl_parting_of : Array (Option Value)} {oc_parting_of kV_parting_of dc_parting_of pm_parting_of cd_parting_of ct_parting_of : Value} {f_ascend : Addr} {od_ascend an_ascend : Option Addr} {sl_ascend : Array (Option Value)} {oc_ascend kV_ascend dc_ascend pm_ascend cd_ascend ct_ascend : Value} {f_entry_of : Addr} {od_entry_of an_entry_of : Option Addr} {sl_entry_of : Array (Option Value)} {oc_entry_of kV_entry_of dc_entry_of pm_entry_of cd_entry_of ct_entry_of : Value} {f_page_of : Addr} {od_page_of an_page_of : Option Addr} {sl_page_of : Array (Option Value)} {oc_page_of kV_page_of dc_page_of pm_page_of cd_page_of ct_page_of : Value} {f_may_follow : Addr} {od_may_follow an_may_follow : Option Addr} {sl_may_follow : Array (Option Value)} {oc_may_follow kV_may_follow dc_may_follow pm_may_follow cd_may_follow ct_may_follow : Value} {f_read_entry : Addr} {od_read_entry an_read_entry : Option Addr} {sl_read_entry : Array (Option Value)} {oc_read_entry kV_read_entry dc_read_entry pm_read_entry cd_read_entry ct_read_entry : Value} {f_read_rows : Addr} {od_read_rows an_read_rows : Option Addr} {sl_read_rows : Array (Option Value)} {oc_read_rows kV_read_rows dc_read_rows pm_read_rows cd_read_rows ct_read_rows : Value} {f_rows_of : Addr} {od_rows_of an_rows_of : Option Addr} {sl_rows_of : Array (Option Value)} {oc_rows_of kV_rows_of dc_rows_of pm_rows_of cd_rows_of ct_rows_of : Value} {f_law_cell_at : Addr} {od_law_cell_at an_law_cell_at : Option Addr} {sl_law_cell_at : Array (Option Value)} {oc_law_cell_at kV_law_cell_at dc_law_cell_at pm_law_cell_at cd_law_cell_at ct_law_cell_at : Value} {f_law_texts : Addr} {od_law_texts an_law_texts : Option Addr} {sl_law_texts : Array (Option Value)} {oc_law_texts kV_law_texts dc_law_texts pm_law_texts cd_law_texts ct_law_texts : Value} {f_law_parting : Addr} {od_law_parting an_law_parting : Option Addr} {sl_law_parting : Array (Option Value)} {oc_law_parting kV_law_parting dc_law_parting pm_law_parting cd_law_parting ct_law_parting : Value} {f_law_pages : Addr} {od_law_pages an_law_pages : Option Addr} {sl_law_pages : Array (Option Value)} {oc_law_pages kV_law_pages dc_law_pages pm_law_pages cd_law_pages ct_law_pages : Value} {f_law_number : Addr} {od_law_number an_law_number : Option Addr} {sl_law_number : Array (Option Value)} {oc_law_number kV_law_number dc_law_number pm_law_number cd_law_number ct_law_number : Value} {f_law : Addr} {od_law an_law : Option Addr} {sl_law : Array (Option Value)} {oc_law kV_law dc_law pm_law cd_law ct_law : Value} {tk_MOST_DIGITS : Tok} {tk_MOST_AHEAD : Tok} {tk_LEAST_ROOM : Tok} {tk_MOST_ROOM : Tok}
    (aC_Source : PySem.W.nsIn K mainGlobals "Source" = some (some (.ref C_Source)))
    (pg_Source : PySem.W.plainGet K C_Source Str.empty = true)
    (hd_Source : PySem.W.hasDictIn K C_Source = true)
    (po_Source : PySem.W.plainOver K C_Source = true)
    (sa_Source : PySem.W.findIn K (.ref C_Source) "__setattr__" = some (some (.builtin "object.__setattr__")))
    (mk_Source : PySem.W.makesIn K C_Source = true)
    (kc_Source : PySem.W.keepIn K (.ref C_Source) = true)
    (n_Source_signs : PySem.W.findIn K (.ref C_Source) "signs" = some none)
    (n_Source_place : PySem.W.findIn K (.ref C_Source) "place" = some none)
    (n_Source_turned : PySem.W.findIn K (.ref C_Source) "turned" = some none)
    (n_Source_endless : PySem.W.findIn K (.ref C_Source) "endless" = some none)
    (n_Source_wished : PySem.W.findIn K (.ref C_Source) "wished" = some none)
    (a_Source_init : PySem.W.findIn K (.ref C_Source) "__init__" = some (some (.ref f_Source_init)))
    (i_Source_init : PySem.W.isFn K (.ref f_Source_init) = true)
    (l_Source_init : K.lookup f_Source_init = some ⟨oc_Source_init, od_Source_init, .func (PySem.W.fnOf "__init__" "Source.__init__" (defArgs s_Source_init) (defBody s_Source_init) (defScope s_Source_init) .none kV_Source_init dc_Source_init pm_Source_init an_Source_init cd_Source_init ct_Source_init), sl_Source_init⟩)
    (c_Source_init : PySem.W.codeIn K cd_Source_init "Source.__init__" = true)
    (k_Source_init : PySem.W.keepIn K (.ref f_Source_init) = true)
    (a_Source_draw : PySem.W.findIn K (.ref C_Source) "draw" = some (some (.ref f_Source_draw)))
    (i_Source_draw : PySem.W.isFn K (.ref f_Source_draw) = true)
    (l_Source_draw : K.lookup f_Source_draw = some ⟨oc_Source_draw, od_Source_draw, .func (PySem.W.fnOf "draw" "Source.draw" (defArgs s_Source_draw) (defBody s_Source_draw) (defScope s_Source_draw) .none kV_Source_draw dc_Source_draw pm_Source_draw an_Source_draw cd_Source_draw ct_Source_draw), sl_Source_draw⟩)
    (c_Source_draw : PySem.W.codeIn K cd_Source_draw "Source.draw" = true)
    (k_Source_draw : PySem.W.keepIn K (.ref f_Source_draw) = true)
    (aC_Whole : PySem.W.nsIn K mainGlobals "Whole" = some (some (.ref C_Whole)))
    (pg_Whole : PySem.W.plainGet K C_Whole Str.empty = true)
    (hd_Whole : PySem.W.hasDictIn K C_Whole = true)
    (po_Whole : PySem.W.plainOver K C_Whole = true)
    (sa_Whole : PySem.W.findIn K (.ref C_Whole) "__setattr__" = some (some (.builtin "object.__setattr__")))
    (mk_Whole : PySem.W.makesIn K C_Whole = true)
    (kc_Whole : PySem.W.keepIn K (.ref C_Whole) = true)
    (i0_Whole : PySem.W.findIn K (.ref C_Whole) "__init__" = some (some (.builtin "object.__init__")))
    (a_Whole_fits : PySem.W.findIn K (.ref C_Whole) "fits" = some (some (.ref f_Whole_fits)))
    (i_Whole_fits : PySem.W.isFn K (.ref f_Whole_fits) = true)
    (l_Whole_fits : K.lookup f_Whole_fits = some ⟨oc_Whole_fits, od_Whole_fits, .func (PySem.W.fnOf "fits" "Whole.fits" (defArgs s_Whole_fits) (defBody s_Whole_fits) (defScope s_Whole_fits) .none kV_Whole_fits dc_Whole_fits pm_Whole_fits an_Whole_fits cd_Whole_fits ct_Whole_fits), sl_Whole_fits⟩)
    (c_Whole_fits : PySem.W.codeIn K cd_Whole_fits "Whole.fits" = true)
    (k_Whole_fits : PySem.W.keepIn K (.ref f_Whole_fits) = true)
    (a_Whole_written : PySem.W.findIn K (.ref C_Whole) "written" = some (some (.ref f_Whole_written)))
    (i_Whole_written : PySem.W.isFn K (.ref f_Whole_written) = true)
    (l_Whole_written : K.lookup f_Whole_written = some ⟨oc_Whole_written, od_Whole_written, .func (PySem.W.fnOf "written" "Whole.written" (defArgs s_Whole_written) (defBody s_Whole_written) (defScope s_Whole_written) .none kV_Whole_written dc_Whole_written pm_Whole_written an_Whole_written cd_Whole_written ct_Whole_written), sl_Whole_written⟩)
    (c_Whole_written : PySem.W.codeIn K cd_Whole_written "Whole.written" = true)
    (k_Whole_written : PySem.W.keepIn K (.ref f_Whole_written) = true)
    (a_Whole_row : PySem.W.findIn K (.ref C_Whole) "row" = some (some (.ref f_Whole_row)))
    (i_Whole_row : PySem.W.isFn K (.ref f_Whole_row) = true)
    (l_Whole_row : K.lookup f_Whole_row = some ⟨oc_Whole_row, od_Whole_row, .func (PySem.W.fnOf "row" "Form.row" (defArgs s_Form_row) (defBody s_Form_row) (defScope s_Form_row) .none kV_Whole_row dc_Whole_row pm_Whole_row an_Whole_row cd_Whole_row ct_Whole_row), sl_Whole_row⟩)
    (c_Whole_row : PySem.W.codeIn K cd_Whole_row "Form.row" = true)
    (k_Whole_row : PySem.W.keepIn K (.ref f_Whole_row) = true)
    (aC_Turned : PySem.W.nsIn K mainGlobals "Turned" = some (some (.ref C_Turned)))
    (pg_Turned : PySem.W.plainGet K C_Turned Str.empty = true)
    (hd_Turned : PySem.W.hasDictIn K C_Turned = true)
    (po_Turned : PySem.W.plainOver K C_Turned = true)
    (sa_Turned : PySem.W.findIn K (.ref C_Turned) "__setattr__" = some (some (.builtin "object.__setattr__")))
    (mk_Turned : PySem.W.makesIn K C_Turned = true)
    (kc_Turned : PySem.W.keepIn K (.ref C_Turned) = true)
    (n_Turned_inner : PySem.W.findIn K (.ref C_Turned) "inner" = some none)
    (a_Turned_init : PySem.W.findIn K (.ref C_Turned) "__init__" = some (some (.ref f_Turned_init)))
    (i_Turned_init : PySem.W.isFn K (.ref f_Turned_init) = true)
    (l_Turned_init : K.lookup f_Turned_init = some ⟨oc_Turned_init, od_Turned_init, .func (PySem.W.fnOf "__init__" "Turned.__init__" (defArgs s_Turned_init) (defBody s_Turned_init) (defScope s_Turned_init) .none kV_Turned_init dc_Turned_init pm_Turned_init an_Turned_init cd_Turned_init ct_Turned_init), sl_Turned_init⟩)
    (c_Turned_init : PySem.W.codeIn K cd_Turned_init "Turned.__init__" = true)
    (k_Turned_init : PySem.W.keepIn K (.ref f_Turned_init) = true)
    (a_Turned_fits : PySem.W.findIn K (.ref C_Turned) "fits" = some (some (.ref f_Turned_fits)))
    (i_Turned_fits : PySem.W.isFn K (.ref f_Turned_fits) = true)
    (l_Turned_fits : K.lookup f_Turned_fits = some ⟨oc_Turned_fits, od_Turned_fits, .func (PySem.W.fnOf "fits" "Turned.fits" (defArgs s_Turned_fits) (defBody s_Turned_fits) (defScope s_Turned_fits) .none kV_Turned_fits dc_Turned_fits pm_Turned_fits an_Turned_fits cd_Turned_fits ct_Turned_fits), sl_Turned_fits⟩)
    (c_Turned_fits : PySem.W.codeIn K cd_Turned_fits "Turned.fits" = true)
    (k_Turned_fits : PySem.W.keepIn K (.ref f_Turned_fits) = true)
    (a_Turned_written : PySem.W.findIn K (.ref C_Turned) "written" = some (some (.ref f_Turned_written)))
    (i_Turned_written : PySem.W.isFn K (.ref f_Turned_written) = true)
    (l_Turned_written : K.lookup f_Turned_written = some ⟨oc_Turned_written, od_Turned_written, .func (PySem.W.fnOf "written" "Turned.written" (defArgs s_Turned_written) (defBody s_Turned_written) (defScope s_Turned_written) .none kV_Turned_written dc_Turned_written pm_Turned_written an_Turned_written cd_Turned_written ct_Turned_written), sl_Turned_written⟩)
    (c_Turned_written : PySem.W.codeIn K cd_Turned_written "Turned.written" = true)
    (k_Turned_written : PySem.W.keepIn K (.ref f_Turned_written) = true)
    (a_Turned_row : PySem.W.findIn K (.ref C_Turned) "row" = some (some (.ref f_Turned_row)))
    (i_Turned_row : PySem.W.isFn K (.ref f_Turned_row) = true)
    (l_Turned_row : K.lookup f_Turned_row = some ⟨oc_Turned_row, od_Turned_row, .func (PySem.W.fnOf "row" "Form.row" (defArgs s_Form_row) (defBody s_Form_row) (defScope s_Form_row) .none kV_Turned_row dc_Turned_row pm_Turned_row an_Turned_row cd_Turned_row ct_Turned_row), sl_Turned_row⟩)
    (c_Turned_row : PySem.W.codeIn K cd_Turned_row "Form.row" = true)
    (k_Turned_row : PySem.W.keepIn K (.ref f_Turned_row) = true)
    (aC_Shelf : PySem.W.nsIn K mainGlobals "Shelf" = some (some (.ref C_Shelf)))
    (pg_Shelf : PySem.W.plainGet K C_Shelf Str.empty = true)
    (hd_Shelf : PySem.W.hasDictIn K C_Shelf = true)
    (po_Shelf : PySem.W.plainOver K C_Shelf = true)
    (sa_Shelf : PySem.W.findIn K (.ref C_Shelf) "__setattr__" = some (some (.builtin "object.__setattr__")))
    (mk_Shelf : PySem.W.makesIn K C_Shelf = true)
    (kc_Shelf : PySem.W.keepIn K (.ref C_Shelf) = true)
    (n_Shelf_form : PySem.W.findIn K (.ref C_Shelf) "form" = some none)
    (n_Shelf_room : PySem.W.findIn K (.ref C_Shelf) "room" = some none)
    (n_Shelf_rows : PySem.W.findIn K (.ref C_Shelf) "rows" = some none)
    (a_Shelf_init : PySem.W.findIn K (.ref C_Shelf) "__init__" = some (some (.ref f_Shelf_init)))
    (i_Shelf_init : PySem.W.isFn K (.ref f_Shelf_init) = true)
    (l_Shelf_init : K.lookup f_Shelf_init = some ⟨oc_Shelf_init, od_Shelf_init, .func (PySem.W.fnOf "__init__" "Shelf.__init__" (defArgs s_Shelf_init) (defBody s_Shelf_init) (defScope s_Shelf_init) .none kV_Shelf_init dc_Shelf_init pm_Shelf_init an_Shelf_init cd_Shelf_init ct_Shelf_init), sl_Shelf_init⟩)
    (c_Shelf_init : PySem.W.codeIn K cd_Shelf_init "Shelf.__init__" = true)
    (k_Shelf_init : PySem.W.keepIn K (.ref f_Shelf_init) = true)
    (a_Shelf_put : PySem.W.findIn K (.ref C_Shelf) "put" = some (some (.ref f_Shelf_put)))
    (i_Shelf_put : PySem.W.isFn K (.ref f_Shelf_put) = true)
    (l_Shelf_put : K.lookup f_Shelf_put = some ⟨oc_Shelf_put, od_Shelf_put, .func (PySem.W.fnOf "put" "Shelf.put" (defArgs s_Shelf_put) (defBody s_Shelf_put) (defScope s_Shelf_put) .none kV_Shelf_put dc_Shelf_put pm_Shelf_put an_Shelf_put cd_Shelf_put ct_Shelf_put), sl_Shelf_put⟩)
    (c_Shelf_put : PySem.W.codeIn K cd_Shelf_put "Shelf.put" = true)
    (k_Shelf_put : PySem.W.keepIn K (.ref f_Shelf_put) = true)
    (a_Shelf_take : PySem.W.findIn K (.ref C_Shelf) "take" = some (some (.ref f_Shelf_take)))
    (i_Shelf_take : PySem.W.isFn K (.ref f_Shelf_take) = true)
    (l_Shelf_take : K.lookup f_Shelf_take = some ⟨oc_Shelf_take, od_Shelf_take, .func (PySem.W.fnOf "take" "Shelf.take" (defArgs s_Shelf_take) (defBody s_Shelf_take) (defScope s_Shelf_take) .none kV_Shelf_take dc_Shelf_take pm_Shelf_take an_Shelf_take cd_Shelf_take ct_Shelf_take), sl_Shelf_take⟩)
    (c_Shelf_take : PySem.W.codeIn K cd_Shelf_take "Shelf.take" = true)
    (k_Shelf_take : PySem.W.keepIn K (.ref f_Shelf_take) = true)
    (a_Shelf_pages : PySem.W.findIn K (.ref C_Shelf) "pages" = some (some (.ref f_Shelf_pages)))
    (i_Shelf_pages : PySem.W.isFn K (.ref f_Shelf_pages) = true)
    (l_Shelf_pages : K.lookup f_Shelf_pages = some ⟨oc_Shelf_pages, od_Shelf_pages, .func (PySem.W.fnOf "pages" "Shelf.pages" (defArgs s_Shelf_pages) (defBody s_Shelf_pages) (defScope s_Shelf_pages) .none kV_Shelf_pages dc_Shelf_pages pm_Shelf_pages an_Shelf_pages cd_Shelf_pages ct_Shelf_pages), sl_Shelf_pages⟩)
    (c_Shelf_pages : PySem.W.codeIn K cd_Shelf_pages "Shelf.pages" = true)
    (k_Shelf_pages : PySem.W.keepIn K (.ref f_Shelf_pages) = true)
    (a_Shelf_partings : PySem.W.findIn K (.ref C_Shelf) "partings" = some (some (.ref f_Shelf_partings)))
    (i_Shelf_partings : PySem.W.isFn K (.ref f_Shelf_partings) = true)
    (l_Shelf_partings : K.lookup f_Shelf_partings = some ⟨oc_Shelf_partings, od_Shelf_partings, .func (PySem.W.fnOf "partings" "Shelf.partings" (defArgs s_Shelf_partings) (defBody s_Shelf_partings) (defScope s_Shelf_partings) .none kV_Shelf_partings dc_Shelf_partings pm_Shelf_partings an_Shelf_partings cd_Shelf_partings ct_Shelf_partings), sl_Shelf_partings⟩)
    (c_Shelf_partings : PySem.W.codeIn K cd_Shelf_partings "Shelf.partings" = true)
    (k_Shelf_partings : PySem.W.keepIn K (.ref f_Shelf_partings) = true)
    (a_turned_row : PySem.W.nsIn K mainGlobals "turned_row" = some (some (.ref f_turned_row)))
    (l_turned_row : K.lookup f_turned_row = some ⟨oc_turned_row, od_turned_row, .func (PySem.W.fnOf "turned_row" "turned_row" (defArgs s_turned_row) (defBody s_turned_row) (defScope s_turned_row) .none kV_turned_row dc_turned_row pm_turned_row an_turned_row cd_turned_row ct_turned_row), sl_turned_row⟩)
    (c_turned_row : PySem.W.codeIn K cd_turned_row "turned_row" = true)
    (k_turned_row : PySem.W.keepIn K (.ref f_turned_row) = true)
    (a_lower_digits : PySem.W.nsIn K mainGlobals "lower_digits" = some (some (.ref f_lower_digits)))
    (l_lower_digits : K.lookup f_lower_digits = some ⟨oc_lower_digits, od_lower_digits, .func (PySem.W.fnOf "lower_digits" "lower_digits" (defArgs s_lower_digits) (defBody s_lower_digits) (defScope s_lower_digits) .none kV_lower_digits dc_lower_digits pm_lower_digits an_lower_digits cd_lower_digits ct_lower_digits), sl_lower_digits⟩)
    (c_lower_digits : PySem.W.codeIn K cd_lower_digits "lower_digits" = true)
    (k_lower_digits : PySem.W.keepIn K (.ref f_lower_digits) = true)
    (a_is_count : PySem.W.nsIn K mainGlobals "is_count" = some (some (.ref f_is_count)))
    (l_is_count : K.lookup f_is_count = some ⟨oc_is_count, od_is_count, .func (PySem.W.fnOf "is_count" "is_count" (defArgs s_is_count) (defBody s_is_count) (defScope s_is_count) .none kV_is_count dc_is_count pm_is_count an_is_count cd_is_count ct_is_count), sl_is_count⟩)
    (c_is_count : PySem.W.codeIn K cd_is_count "is_count" = true)
    (k_is_count : PySem.W.keepIn K (.ref f_is_count) = true)
    (a_has_whole_row : PySem.W.nsIn K mainGlobals "has_whole_row" = some (some (.ref f_has_whole_row)))
    (l_has_whole_row : K.lookup f_has_whole_row = some ⟨oc_has_whole_row, od_has_whole_row, .func (PySem.W.fnOf "has_whole_row" "has_whole_row" (defArgs s_has_whole_row) (defBody s_has_whole_row) (defScope s_has_whole_row) .none kV_has_whole_row dc_has_whole_row pm_has_whole_row an_has_whole_row cd_has_whole_row ct_has_whole_row), sl_has_whole_row⟩)
    (c_has_whole_row : PySem.W.codeIn K cd_has_whole_row "has_whole_row" = true)
    (k_has_whole_row : PySem.W.keepIn K (.ref f_has_whole_row) = true)
    (a_count_row : PySem.W.nsIn K mainGlobals "count_row" = some (some (.ref f_count_row)))
    (l_count_row : K.lookup f_count_row = some ⟨oc_count_row, od_count_row, .func (PySem.W.fnOf "count_row" "count_row" (defArgs s_count_row) (defBody s_count_row) (defScope s_count_row) .none kV_count_row dc_count_row pm_count_row an_count_row cd_count_row ct_count_row), sl_count_row⟩)
    (c_count_row : PySem.W.codeIn K cd_count_row "count_row" = true)
    (k_count_row : PySem.W.keepIn K (.ref f_count_row) = true)
    (a_whole_row : PySem.W.nsIn K mainGlobals "whole_row" = some (some (.ref f_whole_row)))
    (l_whole_row : K.lookup f_whole_row = some ⟨oc_whole_row, od_whole_row, .func (PySem.W.fnOf "whole_row" "whole_row" (defArgs s_whole_row) (defBody s_whole_row) (defScope s_whole_row) .none kV_whole_row dc_whole_row pm_whole_row an_whole_row cd_whole_row ct_whole_row), sl_whole_row⟩)
    (c_whole_row : PySem.W.codeIn K cd_whole_row "whole_row" = true)
    (k_whole_row : PySem.W.keepIn K (.ref f_whole_row) = true)
    (a_draw_lower_digits : PySem.W.nsIn K mainGlobals "draw_lower_digits" = some (some (.ref f_draw_lower_digits)))
    (l_draw_lower_digits : K.lookup f_draw_lower_digits = some ⟨oc_draw_lower_digits, od_draw_lower_digits, .func (PySem.W.fnOf "draw_lower_digits" "draw_lower_digits" (defArgs s_draw_lower_digits) (defBody s_draw_lower_digits) (defScope s_draw_lower_digits) .none kV_draw_lower_digits dc_draw_lower_digits pm_draw_lower_digits an_draw_lower_digits cd_draw_lower_digits ct_draw_lower_digits), sl_draw_lower_digits⟩)
    (c_draw_lower_digits : PySem.W.codeIn K cd_draw_lower_digits "draw_lower_digits" = true)
    (k_draw_lower_digits : PySem.W.keepIn K (.ref f_draw_lower_digits) = true)
    (a_draw_count : PySem.W.nsIn K mainGlobals "draw_count" = some (some (.ref f_draw_count)))
    (l_draw_count : K.lookup f_draw_count = some ⟨oc_draw_count, od_draw_count, .func (PySem.W.fnOf "draw_count" "draw_count" (defArgs s_draw_count) (defBody s_draw_count) (defScope s_draw_count) .none kV_draw_count dc_draw_count pm_draw_count an_draw_count cd_draw_count ct_draw_count), sl_draw_count⟩)
    (c_draw_count : PySem.W.codeIn K cd_draw_count "draw_count" = true)
    (k_draw_count : PySem.W.keepIn K (.ref f_draw_count) = true)
    (a_read_count : PySem.W.nsIn K mainGlobals "read_count" = some (some (.ref f_read_count)))
    (l_read_count : K.lookup f_read_count = some ⟨oc_read_count, od_read_count, .func (PySem.W.fnOf "read_count" "read_count" (defArgs s_read_count) (defBody s_read_count) (defScope s_read_count) .none kV_read_count dc_read_count pm_read_count an_read_count cd_read_count ct_read_count), sl_read_count⟩)
    (c_read_count : PySem.W.codeIn K cd_read_count "read_count" = true)
    (k_read_count : PySem.W.keepIn K (.ref f_read_count) = true)
    (a_is_number : PySem.W.nsIn K mainGlobals "is_number" = some (some (.ref f_is_number)))
    (l_is_number : K.lookup f_is_number = some ⟨oc_is_number, od_is_number, .func (PySem.W.fnOf "is_number" "is_number" (defArgs s_is_number) (defBody s_is_number) (defScope s_is_number) .none kV_is_number dc_is_number pm_is_number an_is_number cd_is_number ct_is_number), sl_is_number⟩)
    (c_is_number : PySem.W.codeIn K cd_is_number "is_number" = true)
    (k_is_number : PySem.W.keepIn K (.ref f_is_number) = true)
    (a_first_unlike : PySem.W.nsIn K mainGlobals "first_unlike" = some (some (.ref f_first_unlike)))
    (l_first_unlike : K.lookup f_first_unlike = some ⟨oc_first_unlike, od_first_unlike, .func (PySem.W.fnOf "first_unlike" "first_unlike" (defArgs s_first_unlike) (defBody s_first_unlike) (defScope s_first_unlike) .none kV_first_unlike dc_first_unlike pm_first_unlike an_first_unlike cd_first_unlike ct_first_unlike), sl_first_unlike⟩)
    (c_first_unlike : PySem.W.codeIn K cd_first_unlike "first_unlike" = true)
    (k_first_unlike : PySem.W.keepIn K (.ref f_first_unlike) = true)
    (a_shared_signs : PySem.W.nsIn K mainGlobals "shared_signs" = some (some (.ref f_shared_signs)))
    (l_shared_signs : K.lookup f_shared_signs = some ⟨oc_shared_signs, od_shared_signs, .func (PySem.W.fnOf "shared_signs" "shared_signs" (defArgs s_shared_signs) (defBody s_shared_signs) (defScope s_shared_signs) .none kV_shared_signs dc_shared_signs pm_shared_signs an_shared_signs cd_shared_signs ct_shared_signs), sl_shared_signs⟩)
    (c_shared_signs : PySem.W.codeIn K cd_shared_signs "shared_signs" = true)
    (k_shared_signs : PySem.W.keepIn K (.ref f_shared_signs) = true)
    (a_parting_of : PySem.W.nsIn K mainGlobals "parting_of" = some (some (.ref f_parting_of)))
    (l_parting_of : K.lookup f_parting_of = some ⟨oc_parting_of, od_parting_of, .func (PySem.W.fnOf "parting_of" "parting_of" (defArgs s_parting_of) (defBody s_parting_of) (defScope s_parting_of) .none kV_parting_of dc_parting_of pm_parting_of an_parting_of cd_parting_of ct_parting_of), sl_parting_of⟩)
    (c_parting_of : PySem.W.codeIn K cd_parting_of "parting_of" = true)
    (k_parting_of : PySem.W.keepIn K (.ref f_parting_of) = true)
    (a_ascend : PySem.W.nsIn K mainGlobals "ascend" = some (some (.ref f_ascend)))
    (l_ascend : K.lookup f_ascend = some ⟨oc_ascend, od_ascend, .func (PySem.W.fnOf "ascend" "ascend" (defArgs s_ascend) (defBody s_ascend) (defScope s_ascend) .none kV_ascend dc_ascend pm_ascend an_ascend cd_ascend ct_ascend), sl_ascend⟩)
    (c_ascend : PySem.W.codeIn K cd_ascend "ascend" = true)
    (k_ascend : PySem.W.keepIn K (.ref f_ascend) = true)
    (a_entry_of : PySem.W.nsIn K mainGlobals "entry_of" = some (some (.ref f_entry_of)))
    (l_entry_of : K.lookup f_entry_of = some ⟨oc_entry_of, od_entry_of, .func (PySem.W.fnOf "entry_of" "entry_of" (defArgs s_entry_of) (defBody s_entry_of) (defScope s_entry_of) .none kV_entry_of dc_entry_of pm_entry_of an_entry_of cd_entry_of ct_entry_of), sl_entry_of⟩)
    (c_entry_of : PySem.W.codeIn K cd_entry_of "entry_of" = true)
    (k_entry_of : PySem.W.keepIn K (.ref f_entry_of) = true)
    (a_page_of : PySem.W.nsIn K mainGlobals "page_of" = some (some (.ref f_page_of)))
    (l_page_of : K.lookup f_page_of = some ⟨oc_page_of, od_page_of, .func (PySem.W.fnOf "page_of" "page_of" (defArgs s_page_of) (defBody s_page_of) (defScope s_page_of) .none kV_page_of dc_page_of pm_page_of an_page_of cd_page_of ct_page_of), sl_page_of⟩)
    (c_page_of : PySem.W.codeIn K cd_page_of "page_of" = true)
    (k_page_of : PySem.W.keepIn K (.ref f_page_of) = true)
    (a_may_follow : PySem.W.nsIn K mainGlobals "may_follow" = some (some (.ref f_may_follow)))
    (l_may_follow : K.lookup f_may_follow = some ⟨oc_may_follow, od_may_follow, .func (PySem.W.fnOf "may_follow" "may_follow" (defArgs s_may_follow) (defBody s_may_follow) (defScope s_may_follow) .none kV_may_follow dc_may_follow pm_may_follow an_may_follow cd_may_follow ct_may_follow), sl_may_follow⟩)
    (c_may_follow : PySem.W.codeIn K cd_may_follow "may_follow" = true)
    (k_may_follow : PySem.W.keepIn K (.ref f_may_follow) = true)
    (a_read_entry : PySem.W.nsIn K mainGlobals "read_entry" = some (some (.ref f_read_entry)))
    (l_read_entry : K.lookup f_read_entry = some ⟨oc_read_entry, od_read_entry, .func (PySem.W.fnOf "read_entry" "read_entry" (defArgs s_read_entry) (defBody s_read_entry) (defScope s_read_entry) .none kV_read_entry dc_read_entry pm_read_entry an_read_entry cd_read_entry ct_read_entry), sl_read_entry⟩)
    (c_read_entry : PySem.W.codeIn K cd_read_entry "read_entry" = true)
    (k_read_entry : PySem.W.keepIn K (.ref f_read_entry) = true)
    (a_read_rows : PySem.W.nsIn K mainGlobals "read_rows" = some (some (.ref f_read_rows)))
    (l_read_rows : K.lookup f_read_rows = some ⟨oc_read_rows, od_read_rows, .func (PySem.W.fnOf "read_rows" "read_rows" (defArgs s_read_rows) (defBody s_read_rows) (defScope s_read_rows) .none kV_read_rows dc_read_rows pm_read_rows an_read_rows cd_read_rows ct_read_rows), sl_read_rows⟩)
    (c_read_rows : PySem.W.codeIn K cd_read_rows "read_rows" = true)
    (k_read_rows : PySem.W.keepIn K (.ref f_read_rows) = true)
    (a_rows_of : PySem.W.nsIn K mainGlobals "rows_of" = some (some (.ref f_rows_of)))
    (l_rows_of : K.lookup f_rows_of = some ⟨oc_rows_of, od_rows_of, .func (PySem.W.fnOf "rows_of" "rows_of" (defArgs s_rows_of) (defBody s_rows_of) (defScope s_rows_of) .none kV_rows_of dc_rows_of pm_rows_of an_rows_of cd_rows_of ct_rows_of), sl_rows_of⟩)
    (c_rows_of : PySem.W.codeIn K cd_rows_of "rows_of" = true)
    (k_rows_of : PySem.W.keepIn K (.ref f_rows_of) = true)
    (a_law_cell_at : PySem.W.nsIn K mainGlobals "_law_cell_at" = some (some (.ref f_law_cell_at)))
    (l_law_cell_at : K.lookup f_law_cell_at = some ⟨oc_law_cell_at, od_law_cell_at, .func (PySem.W.fnOf "_law_cell_at" "_law_cell_at" (defArgs s_law_cell_at) (defBody s_law_cell_at) (defScope s_law_cell_at) .none kV_law_cell_at dc_law_cell_at pm_law_cell_at an_law_cell_at cd_law_cell_at ct_law_cell_at), sl_law_cell_at⟩)
    (c_law_cell_at : PySem.W.codeIn K cd_law_cell_at "_law_cell_at" = true)
    (k_law_cell_at : PySem.W.keepIn K (.ref f_law_cell_at) = true)
    (a_law_texts : PySem.W.nsIn K mainGlobals "_law_texts" = some (some (.ref f_law_texts)))
    (l_law_texts : K.lookup f_law_texts = some ⟨oc_law_texts, od_law_texts, .func (PySem.W.fnOf "_law_texts" "_law_texts" (defArgs s_law_texts) (defBody s_law_texts) (defScope s_law_texts) .none kV_law_texts dc_law_texts pm_law_texts an_law_texts cd_law_texts ct_law_texts), sl_law_texts⟩)
    (c_law_texts : PySem.W.codeIn K cd_law_texts "_law_texts" = true)
    (k_law_texts : PySem.W.keepIn K (.ref f_law_texts) = true)
    (a_law_parting : PySem.W.nsIn K mainGlobals "_law_parting" = some (some (.ref f_law_parting)))
    (l_law_parting : K.lookup f_law_parting = some ⟨oc_law_parting, od_law_parting, .func (PySem.W.fnOf "_law_parting" "_law_parting" (defArgs s_law_parting) (defBody s_law_parting) (defScope s_law_parting) .none kV_law_parting dc_law_parting pm_law_parting an_law_parting cd_law_parting ct_law_parting), sl_law_parting⟩)
    (c_law_parting : PySem.W.codeIn K cd_law_parting "_law_parting" = true)
    (k_law_parting : PySem.W.keepIn K (.ref f_law_parting) = true)
    (a_law_pages : PySem.W.nsIn K mainGlobals "_law_pages" = some (some (.ref f_law_pages)))
    (l_law_pages : K.lookup f_law_pages = some ⟨oc_law_pages, od_law_pages, .func (PySem.W.fnOf "_law_pages" "_law_pages" (defArgs s_law_pages) (defBody s_law_pages) (defScope s_law_pages) .none kV_law_pages dc_law_pages pm_law_pages an_law_pages cd_law_pages ct_law_pages), sl_law_pages⟩)
    (c_law_pages : PySem.W.codeIn K cd_law_pages "_law_pages" = true)
    (k_law_pages : PySem.W.keepIn K (.ref f_law_pages) = true)
    (a_law_number : PySem.W.nsIn K mainGlobals "_law_number" = some (some (.ref f_law_number)))
    (l_law_number : K.lookup f_law_number = some ⟨oc_law_number, od_law_number, .func (PySem.W.fnOf "_law_number" "_law_number" (defArgs s_law_number) (defBody s_law_number) (defScope s_law_number) .none kV_law_number dc_law_number pm_law_number an_law_number cd_law_number ct_law_number), sl_law_number⟩)
    (c_law_number : PySem.W.codeIn K cd_law_number "_law_number" = true)
    (k_law_number : PySem.W.keepIn K (.ref f_law_number) = true)
    (a_law : PySem.W.nsIn K mainGlobals "law" = some (some (.ref f_law)))
    (l_law : K.lookup f_law = some ⟨oc_law, od_law, .func (PySem.W.fnOf "law" "law" (defArgs s_law) (defBody s_law) (defScope s_law) .none kV_law dc_law pm_law an_law cd_law ct_law), sl_law⟩)
    (c_law : PySem.W.codeIn K cd_law "law" = true)
    (k_law : PySem.W.keepIn K (.ref f_law) = true)
    (z_len : PySem.W.nsIn K mainGlobals "len" = some none)
    (z_range : PySem.W.nsIn K mainGlobals "range" = some none)
    (z_int : PySem.W.nsIn K mainGlobals "int" = some none)
    (z_str : PySem.W.nsIn K mainGlobals "str" = some none)
    (z_bool : PySem.W.nsIn K mainGlobals "bool" = some none)
    (z_isinstance : PySem.W.nsIn K mainGlobals "isinstance" = some none)
    (z_max : PySem.W.nsIn K mainGlobals "max" = some none)
    (z_list : PySem.W.nsIn K mainGlobals "list" = some none)
    (z_all : PySem.W.nsIn K mainGlobals "all" = some none)
    (z_zip : PySem.W.nsIn K mainGlobals "zip" = some none)
    (z_sorted : PySem.W.nsIn K mainGlobals "sorted" = some none)
    (g0_MOST_DIGITS : PySem.W.nsIn K mainGlobals "MOST_DIGITS" = some (some (.int 255 tk_MOST_DIGITS)))
    (g0_MOST_AHEAD : PySem.W.nsIn K mainGlobals "MOST_AHEAD" = some (some (.int 7 tk_MOST_AHEAD)))
    (g0_LEAST_ROOM : PySem.W.nsIn K mainGlobals "LEAST_ROOM" = some (some (.int 2 tk_LEAST_ROOM)))
    (g0_MOST_ROOM : PySem.W.nsIn K mainGlobals "MOST_ROOM" = some (some (.int 20 tk_MOST_ROOM)))
    : ∃ fd : FuncData, (∀ (s : Shared) (v : Value), BindsTo s fd ⟨[v], []⟩ [("_law_script", v)]) ∧ ∀ base : Heap, K.In base → base.Ns mainGlobals mg → FnOk l.prog w K mg base CX0 9 fa fd ["_law_script"] (spLaw K) := by
  have e := hfa.symm.trans (PySem.W.mg_of X G a_law)
  cases e
  have cl_Source : Cls K C_Source := ⟨pg_Source, hd_Source, po_Source, sa_Source⟩
  have m_Source : mg "Source" = some (.ref C_Source) := PySem.W.mg_of X G aC_Source
  have F_Source_init := fun_mk (st := s_Source_init) l_Source_init c_Source_init k_Source_init
  have b_Source_init := F_Source_init.binds (ps := ["self", "signs", "at"]) fun _ _ _ _ _ _ us hl => by obtain ⟨_, _, _, rfl⟩ := ex3 us hl; rfl
  have K_Source : Mk K C_Source f_Source_init := ⟨mk_Source, a_Source_init, i_Source_init, kc_Source⟩
  have F_Source_draw := fun_mk (st := s_Source_draw) l_Source_draw c_Source_draw k_Source_draw
  have b_Source_draw := F_Source_draw.binds (ps := ["self"]) fun _ _ _ _ _ _ us hl => by obtain ⟨_, rfl⟩ := ex1 us hl; rfl
  have t_Source_draw : Meth K C_Source "draw" f_Source_draw := ⟨a_Source_draw, i_Source_draw, k_Source_draw⟩
  have cl_Whole : Cls K C_Whole := ⟨pg_Whole, hd_Whole, po_Whole, sa_Whole⟩
  have m_Whole : mg "Whole" = some (.ref C_Whole) := PySem.W.mg_of X G aC_Whole
  have M0_Whole : Mk0 K C_Whole := ⟨mk_Whole, i0_Whole, kc_Whole⟩
  have F_Whole_fits := fun_mk (st := s_Whole_fits) l_Whole_fits c_Whole_fits k_Whole_fits
  have b_Whole_fits := F_Whole_fits.binds (ps := ["self", "value"]) fun _ _ _ _ _ _ us hl => by obtain ⟨_, _, rfl⟩ := ex2 us hl; rfl
  have t_Whole_fits : Meth K C_Whole "fits" f_Whole_fits := ⟨a_Whole_fits, i_Whole_fits, k_Whole_fits⟩
  have F_Whole_written := fun_mk (st := s_Whole_written) l_Whole_written c_Whole_written k_Whole_written
  have b_Whole_written := F_Whole_written.binds (ps := ["self", "value"]) fun _ _ _ _ _ _ us hl => by obtain ⟨_, _, rfl⟩ := ex2 us hl; rfl
  have t_Whole_written : Meth K C_Whole "written" f_Whole_written := ⟨a_Whole_written, i_Whole_written, k_Whole_written⟩
  have F_Whole_row := fun_mk (st := s_Form_row) l_Whole_row c_Whole_row k_Whole_row
  have b_Whole_row := F_Whole_row.binds (ps := ["self", "value"]) fun _ _ _ _ _ _ us hl => by obtain ⟨_, _, rfl⟩ := ex2 us hl; rfl
  have t_Whole_row : Meth K C_Whole "row" f_Whole_row := ⟨a_Whole_row, i_Whole_row, k_Whole_row⟩
  have cl_Turned : Cls K C_Turned := ⟨pg_Turned, hd_Turned, po_Turned, sa_Turned⟩
  have m_Turned : mg "Turned" = some (.ref C_Turned) := PySem.W.mg_of X G aC_Turned
  have F_Turned_init := fun_mk (st := s_Turned_init) l_Turned_init c_Turned_init k_Turned_init
  have b_Turned_init := F_Turned_init.binds (ps := ["self", "inner"]) fun _ _ _ _ _ _ us hl => by obtain ⟨_, _, rfl⟩ := ex2 us hl; rfl
  have K_Turned : Mk K C_Turned f_Turned_init := ⟨mk_Turned, a_Turned_init, i_Turned_init, kc_Turned⟩
  have F_Turned_fits := fun_mk (st := s_Turned_fits) l_Turned_fits c_Turned_fits k_Turned_fits
  have b_Turned_fits := F_Turned_fits.binds (ps := ["self", "value"]) fun _ _ _ _ _ _ us hl => by obtain ⟨_, _, rfl⟩ := ex2 us hl; rfl
  have t_Turned_fits : Meth K C_Turned "fits" f_Turned_fits := ⟨a_Turned_fits, i_Turned_fits, k_Turned_fits⟩
  have F_Turned_written := fun_mk (st := s_Turned_written) l_Turned_written c_Turned_written k_Turned_written
  have b_Turned_written := F_Turned_written.binds (ps := ["self", "value"]) fun _ _ _ _ _ _ us hl => by obtain ⟨_, _, rfl⟩ := ex2 us hl; rfl
  have t_Turned_written : Meth K C_Turned "written" f_Turned_written := ⟨a_Turned_written, i_Turned_written, k_Turned_written⟩
  have F_Turned_row := fun_mk (st := s_Form_row) l_Turned_row c_Turned_row k_Turned_row
  have b_Turned_row := F_Turned_row.binds (ps := ["self", "value"]) fun _ _ _ _ _ _ us hl => by obtain ⟨_, _, rfl⟩ := ex2 us hl; rfl
  have t_Turned_row : Meth K C_Turned "row" f_Turned_row := ⟨a_Turned_row, i_Turned_row, k_Turned_row⟩
  have cl_Shelf : Cls K C_Shelf := ⟨pg_Shelf, hd_Shelf, po_Shelf, sa_Shelf⟩
  have m_Shelf : mg "Shelf" = some (.ref C_Shelf) := PySem.W.mg_of X G aC_Shelf
  have F_Shelf_init := fun_mk (st := s_Shelf_init) l_Shelf_init c_Shelf_init k_Shelf_init
  have b_Shelf_init := F_Shelf_init.binds (ps := ["self", "form", "room"]) fun _ _ _ _ _ _ us hl => by obtain ⟨_, _, _, rfl⟩ := ex3 us hl; rfl
  have K_Shelf : Mk K C_Shelf f_Shelf_init := ⟨mk_Shelf, a_Shelf_init, i_Shelf_init, kc_Shelf⟩
  have F_Shelf_put := fun_mk (st := s_Shelf_put) l_Shelf_put c_Shelf_put k_Shelf_put
  have b_Shelf_put := F_Shelf_put.binds (ps := ["self", "value"]) fun _ _ _ _ _ _ us hl => by obtain ⟨_, _, rfl⟩ := ex2 us hl; rfl
  have t_Shelf_put : Meth K C_Shelf "put" f_Shelf_put := ⟨a_Shelf_put, i_Shelf_put, k_Shelf_put⟩
  have F_Shelf_take := fun_mk (st := s_Shelf_take) l_Shelf_take c_Shelf_take k_Shelf_take
  have b_Shelf_take := F_Shelf_take.binds (ps := ["self", "value"]) fun _ _ _ _ _ _ us hl => by obtain ⟨_, _, rfl⟩ := ex2 us hl; rfl
  have t_Shelf_take : Meth K C_Shelf "take" f_Shelf_take := ⟨a_Shelf_take, i_Shelf_take, k_Shelf_take⟩
  have F_Shelf_pages := fun_mk (st := s_Shelf_pages) l_Shelf_pages c_Shelf_pages k_Shelf_pages
  have b_Shelf_pages := F_Shelf_pages.binds (ps := ["self"]) fun _ _ _ _ _ _ us hl => by obtain ⟨_, rfl⟩ := ex1 us hl; rfl
  have t_Shelf_pages : Meth K C_Shelf "pages" f_Shelf_pages := ⟨a_Shelf_pages, i_Shelf_pages, k_Shelf_pages⟩
  have F_Shelf_partings := fun_mk (st := s_Shelf_partings) l_Shelf_partings c_Shelf_partings k_Shelf_partings
  have b_Shelf_partings := F_Shelf_partings.binds (ps := ["self"]) fun _ _ _ _ _ _ us hl => by obtain ⟨_, rfl⟩ := ex1 us hl; rfl
  have t_Shelf_partings : Meth K C_Shelf "partings" f_Shelf_partings := ⟨a_Shelf_partings, i_Shelf_partings, k_Shelf_partings⟩
  have F_turned_row : FunAt K mg "turned_row" s_turned_row ["row"] f_turned_row _ := ⟨fun_mk (st := s_turned_row) l_turned_row c_turned_row k_turned_row, (fun_mk (st := s_turned_row) l_turned_row c_turned_row k_turned_row).binds (ps := ["row"]) fun _ _ _ _ _ _ us hl => by obtain ⟨_, rfl⟩ := ex1 us hl; rfl, PySem.W.mg_of X G a_turned_row⟩
  have F_lower_digits : FunAt K mg "lower_digits" s_lower_digits ["n", "width"] f_lower_digits _ := ⟨fun_mk (st := s_lower_digits) l_lower_digits c_lower_digits k_lower_digits, (fun_mk (st := s_lower_digits) l_lower_digits c_lower_digits k_lower_digits).binds (ps := ["n", "width"]) fun _ _ _ _ _ _ us hl => by obtain ⟨_, _, rfl⟩ := ex2 us hl; rfl, PySem.W.mg_of X G a_lower_digits⟩
  have F_is_count : FunAt K mg "is_count" s_is_count ["n"] f_is_count _ := ⟨fun_mk (st := s_is_count) l_is_count c_is_count k_is_count, (fun_mk (st := s_is_count) l_is_count c_is_count k_is_count).binds (ps := ["n"]) fun _ _ _ _ _ _ us hl => by obtain ⟨_, rfl⟩ := ex1 us hl; rfl, PySem.W.mg_of X G a_is_count⟩
  have F_has_whole_row : FunAt K mg "has_whole_row" s_has_whole_row ["n"] f_has_whole_row _ := ⟨fun_mk (st := s_has_whole_row) l_has_whole_row c_has_whole_row k_has_whole_row, (fun_mk (st := s_has_whole_row) l_has_whole_row c_has_whole_row k_has_whole_row).binds (ps := ["n"]) fun _ _ _ _ _ _ us hl => by obtain ⟨_, rfl⟩ := ex1 us hl; rfl, PySem.W.mg_of X G a_has_whole_row⟩
  have F_count_row : FunAt K mg "count_row" s_count_row ["n"] f_count_row _ := ⟨fun_mk (st := s_count_row) l_count_row c_count_row k_count_row, (fun_mk (st := s_count_row) l_count_row c_count_row k_count_row).binds (ps := ["n"]) fun _ _ _ _ _ _ us hl => by obtain ⟨_, rfl⟩ := ex1 us hl; rfl, PySem.W.mg_of X G a_count_row⟩
  have F_whole_row : FunAt K mg "whole_row" s_whole_row ["n"] f_whole_row _ := ⟨fun_mk (st := s_whole_row) l_whole_row c_whole_row k_whole_row, (fun_mk (st := s_whole_row) l_whole_row c_whole_row k_whole_row).binds (ps := ["n"]) fun _ _ _ _ _ _ us hl => by obtain ⟨_, rfl⟩ := ex1 us hl; rfl, PySem.W.mg_of X G a_whole_row⟩
  have F_draw_lower_digits : FunAt K mg "draw_lower_digits" s_draw_lower_digits ["source", "width"] f_draw_lower_digits _ := ⟨fun_mk (st := s_draw_lower_digits) l_draw_lower_digits c_draw_lower_digits k_draw_lower_digits, (fun_mk (st := s_draw_lower_digits) l_draw_lower_digits c_draw_lower_digits k_draw_lower_digits).binds (ps := ["source", "width"]) fun _ _ _ _ _ _ us hl => by obtain ⟨_, _, rfl⟩ := ex2 us hl; rfl, PySem.W.mg_of X G a_draw_lower_digits⟩
  have F_draw_count : FunAt K mg "draw_count" s_draw_count ["source"] f_draw_count _ := ⟨fun_mk (st := s_draw_count) l_draw_count c_draw_count k_draw_count, (fun_mk (st := s_draw_count) l_draw_count c_draw_count k_draw_count).binds (ps := ["source"]) fun _ _ _ _ _ _ us hl => by obtain ⟨_, rfl⟩ := ex1 us hl; rfl, PySem.W.mg_of X G a_draw_count⟩
  have F_read_count : FunAt K mg "read_count" s_read_count ["signs", "at"] f_read_count _ := ⟨fun_mk (st := s_read_count) l_read_count c_read_count k_read_count, (fun_mk (st := s_read_count) l_read_count c_read_count k_read_count).binds (ps := ["signs", "at"]) fun _ _ _ _ _ _ us hl => by obtain ⟨_, _, rfl⟩ := ex2 us hl; rfl, PySem.W.mg_of X G a_read_count⟩
  have F_is_number : FunAt K mg "is_number" s_is_number ["value"] f_is_number _ := ⟨fun_mk (st := s_is_number) l_is_number c_is_number k_is_number, (fun_mk (st := s_is_number) l_is_number c_is_number k_is_number).binds (ps := ["value"]) fun _ _ _ _ _ _ us hl => by obtain ⟨_, rfl⟩ := ex1 us hl; rfl, PySem.W.mg_of X G a_is_number⟩
  have F_first_unlike : FunAt K mg "first_unlike" s_first_unlike ["one", "other"] f_first_unlike _ := ⟨fun_mk (st := s_first_unlike) l_first_unlike c_first_unlike k_first_unlike, (fun_mk (st := s_first_unlike) l_first_unlike c_first_unlike k_first_unlike).binds (ps := ["one", "other"]) fun _ _ _ _ _ _ us hl => by obtain ⟨_, _, rfl⟩ := ex2 us hl; rfl, PySem.W.mg_of X G a_first_unlike⟩
  have F_shared_signs : FunAt K mg "shared_signs" s_shared_signs ["one", "other"] f_shared_signs _ := ⟨fun_mk (st := s_shared_signs) l_shared_signs c_shared_signs k_shared_signs, (fun_mk (st := s_shared_signs) l_shared_signs c_shared_signs k_shared_signs).binds (ps := ["one", "other"]) fun _ _ _ _ _ _ us hl => by obtain ⟨_, _, rfl⟩ := ex2 us hl; rfl, PySem.W.mg_of X G a_shared_signs⟩
  have F_parting_of : FunAt K mg "parting_of" s_parting_of ["one", "other"] f_parting_of _ := ⟨fun_mk (st := s_parting_of) l_parting_of c_parting_of k_parting_of, (fun_mk (st := s_parting_of) l_parting_of c_parting_of k_parting_of).binds (ps := ["one", "other"]) fun _ _ _ _ _ _ us hl => by obtain ⟨_, _, rfl⟩ := ex2 us hl; rfl, PySem.W.mg_of X G a_parting_of⟩
  have F_ascend : FunAt K mg "ascend" s_ascend ["rows"] f_ascend _ := ⟨fun_mk (st := s_ascend) l_ascend c_ascend k_ascend, (fun_mk (st := s_ascend) l_ascend c_ascend k_ascend).binds (ps := ["rows"]) fun _ _ _ _ _ _ us hl => by obtain ⟨_, rfl⟩ := ex1 us hl; rfl, PySem.W.mg_of X G a_ascend⟩
  have F_entry_of : FunAt K mg "entry_of" s_entry_of ["ahead", "row"] f_entry_of _ := ⟨fun_mk (st := s_entry_of) l_entry_of c_entry_of k_entry_of, (fun_mk (st := s_entry_of) l_entry_of c_entry_of k_entry_of).binds (ps := ["ahead", "row"]) fun _ _ _ _ _ _ us hl => by obtain ⟨_, _, rfl⟩ := ex2 us hl; rfl, PySem.W.mg_of X G a_entry_of⟩
  have F_page_of : FunAt K mg "page_of" s_page_of ["rows"] f_page_of _ := ⟨fun_mk (st := s_page_of) l_page_of c_page_of k_page_of, (fun_mk (st := s_page_of) l_page_of c_page_of k_page_of).binds (ps := ["rows"]) fun _ _ _ _ _ _ us hl => by obtain ⟨_, rfl⟩ := ex1 us hl; rfl, PySem.W.mg_of X G a_page_of⟩
  have F_may_follow : FunAt K mg "may_follow" s_may_follow ["rows", "shared", "rest"] f_may_follow _ := ⟨fun_mk (st := s_may_follow) l_may_follow c_may_follow k_may_follow, (fun_mk (st := s_may_follow) l_may_follow c_may_follow k_may_follow).binds (ps := ["rows", "shared", "rest"]) fun _ _ _ _ _ _ us hl => by obtain ⟨_, _, _, rfl⟩ := ex3 us hl; rfl, PySem.W.mg_of X G a_may_follow⟩
  have F_read_entry : FunAt K mg "read_entry" s_read_entry ["page", "at", "rows"] f_read_entry _ := ⟨fun_mk (st := s_read_entry) l_read_entry c_read_entry k_read_entry, (fun_mk (st := s_read_entry) l_read_entry c_read_entry k_read_entry).binds (ps := ["page", "at", "rows"]) fun _ _ _ _ _ _ us hl => by obtain ⟨_, _, _, rfl⟩ := ex3 us hl; rfl, PySem.W.mg_of X G a_read_entry⟩
  have F_read_rows : FunAt K mg "read_rows" s_read_rows ["page"] f_read_rows _ := ⟨fun_mk (st := s_read_rows) l_read_rows c_read_rows k_read_rows, (fun_mk (st := s_read_rows) l_read_rows c_read_rows k_read_rows).binds (ps := ["page"]) fun _ _ _ _ _ _ us hl => by obtain ⟨_, rfl⟩ := ex1 us hl; rfl, PySem.W.mg_of X G a_read_rows⟩
  have F_rows_of : FunAt K mg "rows_of" s_rows_of ["page"] f_rows_of _ := ⟨fun_mk (st := s_rows_of) l_rows_of c_rows_of k_rows_of, (fun_mk (st := s_rows_of) l_rows_of c_rows_of k_rows_of).binds (ps := ["page"]) fun _ _ _ _ _ _ us hl => by obtain ⟨_, rfl⟩ := ex1 us hl; rfl, PySem.W.mg_of X G a_rows_of⟩
  have F_law_cell_at : FunAt K mg "_law_cell_at" s_law_cell_at ["_law_script", "_law_k"] f_law_cell_at _ := ⟨fun_mk (st := s_law_cell_at) l_law_cell_at c_law_cell_at k_law_cell_at, (fun_mk (st := s_law_cell_at) l_law_cell_at c_law_cell_at k_law_cell_at).binds (ps := ["_law_script", "_law_k"]) fun _ _ _ _ _ _ us hl => by obtain ⟨_, _, rfl⟩ := ex2 us hl; rfl, PySem.W.mg_of X G a_law_cell_at⟩
  have F_law_texts : FunAt K mg "_law_texts" s_law_texts ["_law_found"] f_law_texts _ := ⟨fun_mk (st := s_law_texts) l_law_texts c_law_texts k_law_texts, (fun_mk (st := s_law_texts) l_law_texts c_law_texts k_law_texts).binds (ps := ["_law_found"]) fun _ _ _ _ _ _ us hl => by obtain ⟨_, rfl⟩ := ex1 us hl; rfl, PySem.W.mg_of X G a_law_texts⟩
  have F_law_parting : FunAt K mg "_law_parting" s_law_parting ["_law_one", "_law_other"] f_law_parting _ := ⟨fun_mk (st := s_law_parting) l_law_parting c_law_parting k_law_parting, (fun_mk (st := s_law_parting) l_law_parting c_law_parting k_law_parting).binds (ps := ["_law_one", "_law_other"]) fun _ _ _ _ _ _ us hl => by obtain ⟨_, _, rfl⟩ := ex2 us hl; rfl, PySem.W.mg_of X G a_law_parting⟩
  have F_law_pages : FunAt K mg "_law_pages" s_law_pages ["_law_shelf", "_law_room", "_law_kept", "_law_ahead"] f_law_pages _ := ⟨fun_mk (st := s_law_pages) l_law_pages c_law_pages k_law_pages, (fun_mk (st := s_law_pages) l_law_pages c_law_pages k_law_pages).binds (ps := ["_law_shelf", "_law_room", "_law_kept", "_law_ahead"]) fun _ _ _ _ _ _ us hl => by obtain ⟨_, _, _, _, rfl⟩ := ex4 us hl; rfl, PySem.W.mg_of X G a_law_pages⟩
  have F_law_number : FunAt K mg "_law_number" s_law_number ["_law_cell"] f_law_number _ := ⟨fun_mk (st := s_law_number) l_law_number c_law_number k_law_number, (fun_mk (st := s_law_number) l_law_number c_law_number k_law_number).binds (ps := ["_law_cell"]) fun _ _ _ _ _ _ us hl => by obtain ⟨_, rfl⟩ := ex1 us hl; rfl, PySem.W.mg_of X G a_law_number⟩
  have F_law := fun_mk (st := s_law) l_law c_law k_law
  have nb : NB mg := ⟨PySem.W.mg_none_of X G z_len, PySem.W.mg_none_of X G z_range, PySem.W.mg_none_of X G z_int, PySem.W.mg_none_of X G z_str, PySem.W.mg_none_of X G z_bool, PySem.W.mg_none_of X G z_isinstance, PySem.W.mg_none_of X G z_max, PySem.W.mg_none_of X G z_list, PySem.W.mg_none_of X G z_all, PySem.W.mg_none_of X G z_zip, PySem.W.mg_none_of X G z_sorted⟩
  have g_MOST_DIGITS : GlobV mg "MOST_DIGITS" (.int 255) := ⟨_, PySem.W.mg_of X G g0_MOST_DIGITS, ⟨_, rfl⟩⟩
  have g_MOST_AHEAD : GlobV mg "MOST_AHEAD" (.int 7) := ⟨_, PySem.W.mg_of X G g0_MOST_AHEAD, ⟨_, rfl⟩⟩
  have g_LEAST_ROOM : GlobV mg "LEAST_ROOM" (.int 2) := ⟨_, PySem.W.mg_of X G g0_LEAST_ROOM, ⟨_, rfl⟩⟩
  have g_MOST_ROOM : GlobV mg "MOST_ROOM" (.int 20) := ⟨_, PySem.W.mg_of X G g0_MOST_ROOM, ⟨_, rfl⟩⟩
  refine ⟨PySem.W.fnOf "law" "law" (defArgs s_law) (defBody s_law) (defScope s_law) .none kV_law dc_law pm_law an_law cd_law ct_law, fun s v => .of_eq rfl, fun base _ _ => ?_⟩
  have T : SrcCls K C_Source := ⟨cl_Source, n_Source_signs, n_Source_place, n_Source_turned, n_Source_endless, n_Source_wished⟩
  have TT : TurCls K C_Turned := ⟨cl_Turned, n_Turned_inner⟩
  have TS : ShCls K C_Shelf := ⟨cl_Shelf, n_Shelf_form, n_Shelf_room, n_Shelf_rows⟩
  have D_turned_row := ok_turned_row (P := l.prog) (w := w) (base := base) F_turned_row
  have D_lower_digits := ok_lower_digits (P := l.prog) (w := w) (base := base) nb F_lower_digits
  have D_is_count := ok_is_count (P := l.prog) (w := w) (base := base) g_MOST_DIGITS F_is_count
  have D_has_whole_row := ok_has_whole_row F_has_whole_row D_is_count
  have D_count_row := ok_count_row g_MOST_AHEAD F_count_row D_is_count D_lower_digits
  have D_whole_row := ok_whole_row F_whole_row D_count_row D_turned_row
  have M_draw : MethOk l.prog w K mg base 1 C_Source "draw" ["self"] (spDraw C_Source) := ⟨_, _, ok_draw nb T F_Source_draw, b_Source_draw, t_Source_draw⟩
  have M_Source : MakeOk l.prog w K mg base 1 "Source" C_Source ["self", "signs", "at"] (spSrcInit C_Source) := ⟨_, _, K_Source, ok_src_init T F_Source_init, b_Source_init, m_Source⟩
  have D_draw_lower_digits := ok_draw_lower_digits nb T.cl F_draw_lower_digits M_draw
  have D_draw_count := ok_draw_count g_MOST_AHEAD T.cl F_draw_count M_draw D_draw_lower_digits
  have D_read_count := ok_read_count T F_read_count M_Source D_draw_count
  have D_is_number := ok_is_number (P := l.prog) (w := w) (base := base) nb F_is_number
  have D_first_unlike := ok_first_unlike (P := l.prog) (w := w) (base := base) nb F_first_unlike
  have D_shared_signs := ok_shared_signs F_shared_signs D_first_unlike
  have D_parting_of := ok_parting_of F_parting_of D_shared_signs
  have D_ascend := ok_ascend (P := l.prog) (w := w) (base := base) nb F_ascend
  have D_entry_of := ok_entry_of nb F_entry_of D_shared_signs D_count_row
  have D_page_of := ok_page_of nb F_page_of D_ascend D_entry_of D_count_row
  have D_may_follow := ok_may_follow nb F_may_follow D_shared_signs
  have D_read_entry := ok_read_entry nb F_read_entry D_read_count D_may_follow
  have D_read_rows := ok_read_rows nb F_read_rows D_read_count D_read_entry
  have D_rows_of := ok_rows_of nb F_rows_of D_read_rows
  have O_fW := ok_Whole_fits (CW := C_Whole) F_Whole_fits D_is_number D_has_whole_row
  have O_wW := ok_Whole_written (CW := C_Whole) F_Whole_written D_whole_row
  have M_fW : MethOk l.prog w K mg base 3 C_Whole "fits" ["self", "value"] (spFits (isW C_Whole)) := ⟨_, _, O_fW, b_Whole_fits, t_Whole_fits⟩
  have M_wW : MethOk l.prog w K mg base 4 C_Whole "written" ["self", "value"] (spWrit (isW C_Whole) whl) := ⟨_, _, O_wW, b_Whole_written, t_Whole_written⟩
  have M_fT : MethOk l.prog w K mg base 4 C_Turned "fits" ["self", "value"] (spFits (isT C_Turned C_Whole)) := ⟨_, _, ok_Turned_fits TT cl_Whole F_Turned_fits M_fW, b_Turned_fits, t_Turned_fits⟩
  have M_wT : MethOk l.prog w K mg base 5 C_Turned "written" ["self", "value"] (spWrit (isT C_Turned C_Whole) trow) := ⟨_, _, ok_Turned_written TT cl_Whole F_Turned_written M_wW D_turned_row, b_Turned_written, t_Turned_written⟩
  have M_fW4 : MethOk l.prog w K mg base 4 C_Whole "fits" ["self", "value"] (spFits (isW C_Whole)) := ⟨_, _, O_fW.mono (by decide), b_Whole_fits, t_Whole_fits⟩
  have M_wW5 : MethOk l.prog w K mg base 5 C_Whole "written" ["self", "value"] (spWrit (isW C_Whole) whl) := ⟨_, _, O_wW.mono (by decide), b_Whole_written, t_Whole_written⟩
  have M_rowW : MethOk l.prog w K mg base 6 C_Whole "row" ["self", "value"] (spWrit (isW C_Whole) whl) := ⟨_, _, ok_Form_row cl_Whole (fun _ _ h => let ⟨dx, e⟩ := h; ⟨dx, [], e, rfl, rfl⟩) F_Whole_row M_fW4 M_wW5, b_Whole_row, t_Whole_row⟩
  have M_rowT : MethOk l.prog w K mg base 6 C_Turned "row" ["self", "value"] (spWrit (isT C_Turned C_Whole) trow) := ⟨_, _, ok_Form_row cl_Turned (fun _ _ h => let ⟨dx, _, e, _⟩ := h; ⟨dx, _, e, look_turm _, look_turm _⟩) F_Turned_row M_fT M_wT, b_Turned_row, t_Turned_row⟩
  have hW : ∀ H fm, isW C_Whole H fm → ∃ dx fs, H fm = some (.ins C_Whole dx fs) ∧ fs.lookup ("row" : Str) = none := fun _ _ h => let ⟨dx, e⟩ := h; ⟨dx, [], e, rfl⟩
  have hT : ∀ H fm, isT C_Turned C_Whole H fm → ∃ dx fs, H fm = some (.ins C_Turned dx fs) ∧ fs.lookup ("row" : Str) = none := fun _ _ h => let ⟨dx, _, e, _⟩ := h; ⟨dx, _, e, look_turm _⟩
  have M_Turned : MakeOk l.prog w K mg base 1 "Turned" C_Turned ["self", "inner"] (spTurInit C_Turned) := ⟨_, _, K_Turned, ok_tur_init TT F_Turned_init, b_Turned_init, m_Turned⟩
  have M_Shelf : MakeOk l.prog w K mg base 1 "Shelf" C_Shelf ["self", "form", "room"] (spShInit C_Shelf) := ⟨_, _, K_Shelf, ok_sh_init g_LEAST_ROOM g_MOST_ROOM TS F_Shelf_init, b_Shelf_init, m_Shelf⟩
  have M_put : MethOk l.prog w K mg base 7 C_Shelf "put" ["self", "value"] _ := ⟨_, _, fn_or (ok_put nb TS cl_Whole hW F_Shelf_put M_rowW) (ok_put nb TS cl_Turned hT F_Shelf_put M_rowT), b_Shelf_put, t_Shelf_put⟩
  have M_take : MethOk l.prog w K mg base 7 C_Shelf "take" ["self", "value"] _ := ⟨_, _, fn_or (ok_take nb TS cl_Whole hW F_Shelf_take M_rowW) (ok_take nb TS cl_Turned hT F_Shelf_take M_rowT), b_Shelf_take, t_Shelf_take⟩
  have M_pages : MethOk l.prog w K mg base 5 C_Shelf "pages" ["self"] (spPages C_Shelf) := ⟨_, _, ok_pages nb TS F_Shelf_pages D_page_of, b_Shelf_pages, t_Shelf_pages⟩
  have M_partings : MethOk l.prog w K mg base 4 C_Shelf "partings" ["self"] (spParts C_Shelf) := ⟨_, _, ok_partings nb TS F_Shelf_partings D_parting_of, b_Shelf_partings, t_Shelf_partings⟩
  have D_law_cell_at := ok_law_cell_at (P := l.prog) (w := w) (base := base) nb F_law_cell_at
  have D_law_texts := ok_law_texts (P := l.prog) (w := w) (base := base) nb F_law_texts
  have D_law_parting := ok_law_parting (P := l.prog) (w := w) (base := base) nb F_law_parting
  have D_law_number := ok_law_number (P := l.prog) (w := w) (base := base) nb F_law_number
  have D_law_pages := ok_law_pages nb TS cl_Shelf F_law_pages M_pages M_partings D_law_texts D_rows_of D_law_parting
  exact ok_law nb TS cl_Shelf F_law M0_Whole m_Whole M_Turned M_Shelf M_put M_take D_law_cell_at D_law_number D_whole_row D_turned_row D_law_pages

theorem walk {l : PySem.W.OpenLaw} {q : Program} {loose : List Str} {XP : (Str → Option Value) → Heap → Prop} {YP : World → Heap → Prop} {d : DefRec} {K : Params → PySem.W.Frag} (hn : l.most = some 63) (hdf : d.params.defaults = [])
    (hY : ∀ (w : World) (h : Heap), YP w h → (K w.params).In h)
    (F : ∀ (w : World) (mg : Str → Option Value) (fa : Addr) (h : Heap), (K w.params).In h → h.Ns mainGlobals mg → mg d.name = some (.ref fa) →
      ∃ fd : FuncData, (∀ (s : Shared) (u : Value), BindsTo s fd ⟨[u], []⟩ [("_law_script", u)]) ∧ ∀ base : Heap, (K w.params).In base → base.Ns mainGlobals mg → FnOk l.prog w (K w.params) mg base CX0 9 fa fd ["_law_script"] (spLaw (K w.params))) :
    PySem.W.WalkO q loose XP YP l.row.toRowW d [] (fun f vs => PySem.call f vs) :=
  L2.walk_of (n := 63) (k := 9) (x := "_law_script") (CX := fun _ => CX0) (sp := fun w => spLaw (K w.params)) hn (by decide) hdf ⟨rfl, by decide, by decide⟩ hY F (fun _ _ a ns hl _ hS => ⟨a, ns, rfl, hS, hl, fun _ => rfl⟩) fun _ _ _ _ _ z => z
end
end KR
/-! the great twins of the walk are not laid: these names are taken -/
def PySem.W.Fast.tw5302985454079929101 : Nat := 0
def PySem.W.Fast.tw5042504320690368980 : Nat := 0
def PySem.W.Fast.tw10312252040584507308 : Nat := 0
def PySem.W.Fast.tw4653188481942325037 : Nat := 0
def PySem.W.Fast.tw9032203329277495851 : Nat := 0
def PySem.W.Fast.tw12909228447216330573 : Nat := 0
def PySem.W.Fast.tw1898873694135859248 : Nat := 0
def PySem.W.Fast.tw1268168441403587310 : Nat := 0
def PySem.W.Fast.tw3474518902062067306 : Nat := 0
def PySem.W.Fast.tw545073633679472353 : Nat := 0
def PySem.W.Fast.tw18157841877161844033 : Nat := 0
def PySem.W.Fast.tw13421280083929979617 : Nat := 0
def PySem.W.Fast.tw13706059632631031247 : Nat := 0
def PySem.W.Fast.tw4447890588012197063 : Nat := 0
def PySem.W.Fast.tw12216205665771464982 : Nat := 0
def PySem.W.Fast.tw10427603798218653633 : Nat := 0
def PySem.W.Fast.tw12898075111008706468 : Nat := 0
def PySem.W.Fast.tw11038797657112643565 : Nat := 0
def PySem.W.Fast.tw3059331675958254766 : Nat := 0
def PySem.W.Fast.tw489187987068014433 : Nat := 0
def PySem.W.Fast.tw7369454255950756973 : Nat := 0
def PySem.W.Fast.tw10845248326940333652 : Nat := 0
def PySem.W.Fast.tw16319737280144754124 : Nat := 0
def PySem.W.Fast.tw228278728033390945 : Nat := 0
def PySem.W.Fast.tw2780179085432111306 : Nat := 0
def PySem.W.Fast.tw5163321867774553387 : Nat := 0
def PySem.W.Fast.tw4056219281486529543 : Nat := 0
def PySem.W.Fast.tw240700005700909233 : Nat := 0
def PySem.W.Fast.tw13696494966550376142 : Nat := 0
def PySem.W.Fast.tw14750466845240598661 : Nat := 0
def PySem.W.Fast.tw2120750532400901222 : Nat := 0
def PySem.W.Fast.tw3619648897127882347 : Nat := 0
def PySem.W.Fast.tw8031904064555424485 : Nat := 0
def PySem.W.Fast.tw16504917019466279173 : Nat := 0
def PySem.W.Fast.tw16990561538237504878 : Nat := 0
def PySem.W.Fast.tw12784861760890141616 : Nat := 0
def PySem.W.Fast.tw6847386356593847538 : Nat := 0
def PySem.W.Fast.tw9679728661856673337 : Nat := 0
open PySem PySem.W PyProof.Rows
set_option maxRecDepth 100000 in
set_option maxHeartbeats 0 in
theorem PySem.Challenge.cw_keyrise_k72_pages_and_partings_holds : PySem.Challenge.rw_keyrise_k72_pages_and_partings.Holds := by
  w_on; o_law; k_head; (case hw => w_witness2)
  k_fill
  refine KR.walk (l := PySem.Challenge.rw_keyrise_k72_pages_and_partings) rfl rfl (fun w h Y => PySem.W.kIn_of Y) ?F
  case F =>
    intro w mg fa h KX G hmg
    refine' KR.all_mk KX G hmg ?aC_Source ?pg_Source ?hd_Source ?po_Source ?sa_Source ?mk_Source ?kc_Source ?n_Source_signs ?n_Source_place ?n_Source_turned ?n_Source_endless ?n_Source_wished ?a_Source_init ?i_Source_init ?l_Source_init ?c_Source_init ?k_Source_init ?a_Source_draw ?i_Source_draw ?l_Source_draw ?c_Source_draw ?k_Source_draw ?aC_Whole ?pg_Whole ?hd_Whole ?po_Whole ?sa_Whole ?mk_Whole ?kc_Whole ?i0_Whole ?a_Whole_fits ?i_Whole_fits ?l_Whole_fits ?c_Whole_fits ?k_Whole_fits ?a_Whole_written ?i_Whole_written ?l_Whole_written ?c_Whole_written ?k_Whole_written ?a_Whole_row ?i_Whole_row ?l_Whole_row ?c_Whole_row ?k_Whole_row ?aC_Turned ?pg_Turned ?hd_Turned ?po_Turned ?sa_Turned ?mk_Turned ?kc_Turned ?n_Turned_inner ?a_Turned_init ?i_Turned_init ?l_Turned_init ?c_Turned_init ?k_Turned_init ?a_Turned_fits ?i_Turned_fits ?l_Turned_fits ?c_Turned_fits ?k_Turned_fits ?a_Turned_written ?i_Turned_written ?l_Turned_written ?c_Turned_written ?k_Turned_written ?a_Turned_row ?i_Turned_row ?l_Turned_row ?c_Turned_row ?k_Turned_row ?aC_Shelf ?pg_Shelf ?hd_Shelf ?po_Shelf ?sa_Shelf ?mk_Shelf ?kc_Shelf ?n_Shelf_form ?n_Shelf_room ?n_Shelf_rows ?a_Shelf_init ?i_Shelf_init ?l_Shelf_init ?c_Shelf_init ?k_Shelf_init ?a_Shelf_put ?i_Shelf_put ?l_Shelf_put ?c_Shelf_put ?k_Shelf_put ?a_Shelf_take ?i_Shelf_take ?l_Shelf_take ?c_Shelf_take ?k_Shelf_take ?a_Shelf_pages ?i_Shelf_pages ?l_Shelf_pages ?c_Shelf_pages ?k_Shelf_pages ?a_Shelf_partings ?i_Shelf_partings ?l_Shelf_partings ?c_Shelf_partings ?k_Shelf_partings ?a_turned_row ?l_turned_row ?c_turned_row ?k_turned_row ?a_lower_digits ?l_lower_digits ?c_lower_digits ?k_lower_digits ?a_is_count ?l_is_count ?c_is_count ?k_is_count ?a_has_whole_row ?l_has_whole_row ?c_has_whole_row ?k_has_whole_row ?a_count_row ?l_count_row ?c_count_row ?k_count_row ?a_whole_row ?l_whole_row ?c_whole_row ?k_whole_row ?a_draw_lower_digits ?l_draw_lower_digits ?c_draw_lower_digits ?k_draw_lower_digits ?a_draw_count ?l_draw_count ?c_draw_count ?k_draw_count ?a_read_count ?l_read_count ?c_read_count ?k_read_count ?a_is_number ?l_is_number ?c_is_number ?k_is_number ?a_first_unlike ?l_first_unlike ?c_first_unlike ?k_first_unlike ?a_shared_signs ?l_shared_signs ?c_shared_signs ?k_shared_signs ?a_parting_of ?l_parting_of ?c_parting_of ?k_parting_of ?a_ascend ?l_ascend ?c_ascend ?k_ascend ?a_entry_of ?l_entry_of ?c_entry_of ?k_entry_of ?a_page_of ?l_page_of ?c_page_of ?k_page_of ?a_may_follow ?l_may_follow ?c_may_follow ?k_may_follow ?a_read_entry ?l_read_entry ?c_read_entry ?k_read_entry ?a_read_rows ?l_read_rows ?c_read_rows ?k_read_rows ?a_rows_of ?l_rows_of ?c_rows_of ?k_rows_of ?a_law_cell_at ?l_law_cell_at ?c_law_cell_at ?k_law_cell_at ?a_law_texts ?l_law_texts ?c_law_texts ?k_law_texts ?a_law_parting ?l_law_parting ?c_law_parting ?k_law_parting ?a_law_pages ?l_law_pages ?c_law_pages ?k_law_pages ?a_law_number ?l_law_number ?c_law_number ?k_law_number ?a_law ?l_law ?c_law ?k_law ?z_len ?z_range ?z_int ?z_str ?z_bool ?z_isinstance ?z_max ?z_list ?z_all ?z_zip ?z_sorted ?g0_MOST_DIGITS ?g0_MOST_AHEAD ?g0_LEAST_ROOM ?g0_MOST_ROOM
    (case aC_Source => k_is)
    (case pg_Source => k_is)
    (case hd_Source => k_is)
    (case po_Source => k_is)
    (case sa_Source => k_is)
    (case mk_Source => k_is)
    (case kc_Source => k_is)
    (case n_Source_signs => k_is)
    (case n_Source_place => k_is)
    (case n_Source_turned => k_is)
    (case n_Source_endless => k_is)
    (case n_Source_wished => k_is)
    (case a_Source_init => k_is)
    (case i_Source_init => k_is)
    (case l_Source_init => k_is)
    (case c_Source_init => k_is)
    (case k_Source_init => k_is)
    (case a_Source_draw => k_is)
    (case i_Source_draw => k_is)
    (case l_Source_draw => k_is)
    (case c_Source_draw => k_is)
    (case k_Source_draw => k_is)
    (case aC_Whole => k_is)
    (case pg_Whole => k_is)
    (case hd_Whole => k_is)
    (case po_Whole => k_is)
    (case sa_Whole => k_is)
    (case mk_Whole => k_is)
    (case kc_Whole => k_is)
    (case i0_Whole => k_is)
    (case a_Whole_fits => k_is)
    (case i_Whole_fits => k_is)
    (case l_Whole_fits => k_is)
    (case c_Whole_fits => k_is)
    (case k_Whole_fits => k_is)
    (case a_Whole_written => k_is)
    (case i_Whole_written => k_is)
    (case l_Whole_written => k_is)
    (case c_Whole_written => k_is)
    (case k_Whole_written => k_is)
    (case a_Whole_row => k_is)
    (case i_Whole_row => k_is)
    (case l_Whole_row => k_is)
    (case c_Whole_row => k_is)
    (case k_Whole_row => k_is)
    (case aC_Turned => k_is)
    (case pg_Turned => k_is)
    (case hd_Turned => k_is)
    (case po_Turned => k_is)
    (case sa_Turned => k_is)
    (case mk_Turned => k_is)
    (case kc_Turned => k_is)
    (case n_Turned_inner => k_is)
    (case a_Turned_init => k_is)
    (case i_Turned_init => k_is)
    (case l_Turned_init => k_is)
    (case c_Turned_init => k_is)
    (case k_Turned_init => k_is)
    (case a_Turned_fits => k_is)
    (case i_Turned_fits => k_is)
    (case l_Turned_fits => k_is)
    (case c_Turned_fits => k_is)
    (case k_Turned_fits => k_is)
    (case a_Turned_written => k_is)
    (case i_Turned_written => k_is)
    (case l_Turned_written => k_is)
    (case c_Turned_written => k_is)
    (case k_Turned_written => k_is)
    (case a_Turned_row => k_is)
    (case i_Turned_row => k_is)
    (case l_Turned_row => k_is)
    (case c_Turned_row => k_is)
    (case k_Turned_row => k_is)
    (case aC_Shelf => k_is)
    (case pg_Shelf => k_is)
    (case hd_Shelf => k_is)
    (case po_Shelf => k_is)
    (case sa_Shelf => k_is)
    (case mk_Shelf => k_is)
    (case kc_Shelf => k_is)
    (case n_Shelf_form => k_is)
    (case n_Shelf_room => k_is)
    (case n_Shelf_rows => k_is)
    (case a_Shelf_init => k_is)
    (case i_Shelf_init => k_is)
    (case l_Shelf_init => k_is)
    (case c_Shelf_init => k_is)
    (case k_Shelf_init => k_is)
    (case a_Shelf_put => k_is)
    (case i_Shelf_put => k_is)
    (case l_Shelf_put => k_is)
    (case c_Shelf_put => k_is)
    (case k_Shelf_put => k_is)
    (case a_Shelf_take => k_is)
    (case i_Shelf_take => k_is)
    (case l_Shelf_take => k_is)
    (case c_Shelf_take => k_is)
    (case k_Shelf_take => k_is)
    (case a_Shelf_pages => k_is)
    (case i_Shelf_pages => k_is)
    (case l_Shelf_pages => k_is)
    (case c_Shelf_pages => k_is)
    (case k_Shelf_pages => k_is)
    (case a_Shelf_partings => k_is)
    (case i_Shelf_partings => k_is)
    (case l_Shelf_partings => k_is)
    (case c_Shelf_partings => k_is)
    (case k_Shelf_partings => k_is)
    (case a_turned_row => k_is)
    (case l_turned_row => k_is)
    (case c_turned_row => k_is)
    (case k_turned_row => k_is)
    (case a_lower_digits => k_is)
    (case l_lower_digits => k_is)
    (case c_lower_digits => k_is)
    (case k_lower_digits => k_is)
    (case a_is_count => k_is)
    (case l_is_count => k_is)
    (case c_is_count => k_is)
    (case k_is_count => k_is)
    (case a_has_whole_row => k_is)
    (case l_has_whole_row => k_is)
    (case c_has_whole_row => k_is)
    (case k_has_whole_row => k_is)
    (case a_count_row => k_is)
    (case l_count_row => k_is)
    (case c_count_row => k_is)
    (case k_count_row => k_is)
    (case a_whole_row => k_is)
    (case l_whole_row => k_is)
    (case c_whole_row => k_is)
    (case k_whole_row => k_is)
    (case a_draw_lower_digits => k_is)
    (case l_draw_lower_digits => k_is)
    (case c_draw_lower_digits => k_is)
    (case k_draw_lower_digits => k_is)
    (case a_draw_count => k_is)
    (case l_draw_count => k_is)
    (case c_draw_count => k_is)
    (case k_draw_count => k_is)
    (case a_read_count => k_is)
    (case l_read_count => k_is)
    (case c_read_count => k_is)
    (case k_read_count => k_is)
    (case a_is_number => k_is)
    (case l_is_number => k_is)
    (case c_is_number => k_is)
    (case k_is_number => k_is)
    (case a_first_unlike => k_is)
    (case l_first_unlike => k_is)
    (case c_first_unlike => k_is)
    (case k_first_unlike => k_is)
    (case a_shared_signs => k_is)
    (case l_shared_signs => k_is)
    (case c_shared_signs => k_is)
    (case k_shared_signs => k_is)
    (case a_parting_of => k_is)
    (case l_parting_of => k_is)
    (case c_parting_of => k_is)
    (case k_parting_of => k_is)
    (case a_ascend => k_is)
    (case l_ascend => k_is)
    (case c_ascend => k_is)
    (case k_ascend => k_is)
    (case a_entry_of => k_is)
    (case l_entry_of => k_is)
    (case c_entry_of => k_is)
    (case k_entry_of => k_is)
    (case a_page_of => k_is)
    (case l_page_of => k_is)
    (case c_page_of => k_is)
    (case k_page_of => k_is)
    (case a_may_follow => k_is)
    (case l_may_follow => k_is)
    (case c_may_follow => k_is)
    (case k_may_follow => k_is)
    (case a_read_entry => k_is)
    (case l_read_entry => k_is)
    (case c_read_entry => k_is)
    (case k_read_entry => k_is)
    (case a_read_rows => k_is)
    (case l_read_rows => k_is)
    (case c_read_rows => k_is)
    (case k_read_rows => k_is)
    (case a_rows_of => k_is)
    (case l_rows_of => k_is)
    (case c_rows_of => k_is)
    (case k_rows_of => k_is)
    (case a_law_cell_at => k_is)
    (case l_law_cell_at => k_is)
    (case c_law_cell_at => k_is)
    (case k_law_cell_at => k_is)
    (case a_law_texts => k_is)
    (case l_law_texts => k_is)
    (case c_law_texts => k_is)
    (case k_law_texts => k_is)
    (case a_law_parting => k_is)
    (case l_law_parting => k_is)
    (case c_law_parting => k_is)
    (case k_law_parting => k_is)
    (case a_law_pages => k_is)
    (case l_law_pages => k_is)
    (case c_law_pages => k_is)
    (case k_law_pages => k_is)
    (case a_law_number => k_is)
    (case l_law_number => k_is)
    (case c_law_number => k_is)
    (case k_law_number => k_is)
    (case a_law => k_is)
    (case l_law => k_is)
    (case c_law => k_is)
    (case k_law => k_is)
    (case z_len => k_is)
    (case z_range => k_is)
    (case z_int => k_is)
    (case z_str => k_is)
    (case z_bool => k_is)
    (case z_isinstance => k_is)
    (case z_max => k_is)
    (case z_list => k_is)
    (case z_all => k_is)
    (case z_zip => k_is)
    (case z_sorted => k_is)
    (case g0_MOST_DIGITS => k_is)
    (case g0_MOST_AHEAD => k_is)
    (case g0_LEAST_ROOM => k_is)
    (case g0_MOST_ROOM => k_is)


