import PyProof.Rows.All
import Wide.All
import OpenK.AllK
import Wide.FinOn
import Lean
import PyProof.EqAt
import PyProof.EqKinds
import PyProof.TupleCall
import PySem.Challenge.RW_keyrise_k23_ahead
set_option Elab.async false
set_option linter.all false
set_option maxRecDepth 100000
/-! THE HAND LAYER, for ints, bools, texts, own classes, LISTS and tuples (index, slices, in, append, pop ..), calls, loops. Paste it whole ahead of your own text; what your proof does not reach may be deleted. -/
namespace L2
open PySem PySem.Spec PyProof.Rows

/-- a key: an int or a str -/
abbrev Key := Sum Int Str
def keyIs : Key → Value → Bool
  | .inl k, v => Value.isInt k v
  | .inr x, v => Value.isStrOf x v
def keyH (w : World) : Key → Int
  | .inl k => hashInt k
  | .inr x => hashStr w x
theorem keyIs_shape : ∀ {k : Key} {v : Value}, keyIs k v = true → (∃ i t, k = Sum.inl i ∧ v = Value.int i t) ∨ (∃ x t, k = Sum.inr x ∧ v = Value.str x t)
  | .inl i, v, h => by
    obtain ⟨t, e⟩ := Value.isInt_shape (k := i) (v := v) h
    exact .inl ⟨i, t, rfl, e⟩
  | .inr x, v, h => by
    obtain ⟨t, e⟩ := Value.isStrOf_shape (x := x) (v := v) h
    exact .inr ⟨x, t, rfl, e⟩
theorem key_ll (a b : Int) : decide ((Sum.inl a : Key) = Sum.inl b) = (a == b) := by
  by_cases e : a = b
  · subst e; simp
  · have h : ¬ (Sum.inl a : Key) = Sum.inl b := fun q => e (Sum.inl.inj q)
    rw [decide_eq_false h]
    exact (beq_eq_false_iff_ne.mpr e).symm
theorem key_rr (a b : Str) : decide ((Sum.inr a : Key) = Sum.inr b) = decide (a = b) := by
  by_cases e : a = b
  · subst e; simp
  · have h : ¬ (Sum.inr a : Key) = Sum.inr b := fun q => e (Sum.inr.inj q)
    rw [decide_eq_false h, decide_eq_false e]
theorem key_lr (a : Int) (b : Str) : decide ((Sum.inl a : Key) = Sum.inr b) = false := decide_eq_false (fun q => nomatch q)
theorem key_rl (a : Str) (b : Int) : decide ((Sum.inr a : Key) = Sum.inl b) = false := decide_eq_false (fun q => nomatch q)

def mixKind (prog : Program) (w : World) : PySem.KeyKind prog w Key where
  is := keyIs
  hash := keyH w
  inj := fun v a b ha hb => by
    rcases keyIs_shape ha with ⟨i, t, rfl, rfl⟩ | ⟨x, t, rfl, rfl⟩
    · rcases keyIs_shape hb with ⟨j, u, rfl, e⟩ | ⟨y, u, rfl, e⟩
      · injection e with e1 _; rw [e1]
      · exact nomatch e
    · rcases keyIs_shape hb with ⟨j, u, rfl, e⟩ | ⟨y, u, rfl, e⟩
      · exact nomatch e
      · injection e with e1 _; rw [e1]
  byValue := fun k v h => by
    rcases keyIs_shape h with ⟨i, t, rfl, rfl⟩ | ⟨x, t, rfl, rfl⟩ <;> rfl
  pyHash := fun hv h => by
    rcases keyIs_shape hv with ⟨i, t, rfl, rfl⟩ | ⟨x, t, rfl, rfl⟩
    · exact wpAny_pyHash_int h
    · exact wpAny_pyHash_str h
  eqBool := fun hu hv h => by
    rcases keyIs_shape hu with ⟨i, t, rfl, rfl⟩ | ⟨x, t, rfl, rfl⟩
    · rcases keyIs_shape hv with ⟨j, u, rfl, rfl⟩ | ⟨y, u, rfl, rfl⟩
      · rw [key_ll] at h; exact wpAny_eqBool_int h
      · rw [key_lr] at h; exact SeqAt.EqAt.int_str i t y u _ _ _ _ h
    · rcases keyIs_shape hv with ⟨j, u, rfl, rfl⟩ | ⟨y, u, rfl, rfl⟩
      · rw [key_rl] at h; exact SeqAt.EqAt.str_int x t j u _ _ _ _ h
      · rw [key_rr] at h; exact wpAny_eqBool_str h
  «strs» := fun k x t v h => by
    rcases keyIs_shape h with ⟨i, u, rfl, e⟩ | ⟨y, u, rfl, e⟩
    · exact nomatch e
    · injection e with e1 _
      subst e1
      cases v <;> rfl

end L2

namespace L2
open PySem PySem.Spec PyProof.Rows

/-- a value, without the heap -/
inductive V where
  | non | bl (b : Bool) | int (i : Int) | str (x : Str) | byt (b : Array UInt8) | flt (b : UInt64) | ref (a : Addr) | ty (n : String)
  deriving DecidableEq

def RelV : V → Value → Prop
  | .non, u => u = Value.none
  | .bl b, u => u = Value.bool b
  | .int i, u => ∃ t, u = Value.int i t
  | .str x, u => ∃ t, u = Value.str x t
  | .byt b, u => ∃ t, u = Value.bytes b t
  | .flt b, u => ∃ t, u = Value.float b t
  | .ref a, u => u = Value.ref a
  | .ty n, u => u = Value.type n

abbrev Vals : List V → List Value → Prop := Paired RelV
theorem Vals.length {xs : List V} {us : List Value} (r : Vals xs us) : xs.length = us.length := Paired.length r
theorem Vals.get : ∀ {xs : List V} {us : List Value} {i : Nat} {x : V}, Vals xs us → xs[i]? = some x → ∃ u, us[i]? = some u ∧ RelV x u
  | _, _, _, _, .nil, e => by simp at e
  | _, _, 0, _, .cons r _, e => by simp at e; subst e; exact ⟨_, rfl, r⟩
  | _, _, i + 1, x, .cons _ t, e => by
    obtain ⟨u, h1, h2⟩ := Vals.get (i := i) (x := x) t (by simpa using e)
    exact ⟨u, by simpa using h1, h2⟩
theorem Vals.append : ∀ {xs ys : List V} {us ws : List Value}, Vals xs us → Vals ys ws → Vals (xs ++ ys) (us ++ ws)
  | _, _, _, _, .nil, s => s
  | _, _, _, _, .cons r t, s => .cons r (Vals.append t s)
theorem Vals.take : ∀ {xs : List V} {us : List Value} (n : Nat), Vals xs us → Vals (xs.take n) (us.take n)
  | _, _, 0, _ => .nil
  | _, _, _ + 1, .nil => .nil
  | _, _, n + 1, .cons r t => .cons r (Vals.take n t)
theorem Vals.drop : ∀ {xs : List V} {us : List Value} (n : Nat), Vals xs us → Vals (xs.drop n) (us.drop n)
  | _, _, 0, r => r
  | _, _, _ + 1, .nil => .nil
  | _, _, n + 1, .cons _ t => Vals.drop n t
def RelO : Option V → Option Value → Prop
  | some v, some u => RelV v u
  | none, none => True
  | _, _ => False
def KV {κ : Type} : List (κ × V) → List (κ × Value) → Prop := Paired fun (p : κ × V) (q : κ × Value) => p.1 = q.1 ∧ RelV p.2 q.2

/-- a key of a dict (00_mix): an int or a text -/
def kV : Key → V
  | .inl i => .int i
  | .inr x => .str x

/-- what stands at a tracked address -/
inductive HO where
  /-- a list -/
  | lst (xs : List V)
  /-- a tuple (never changes) -/
  | tup (xs : List V)
  /-- a dict whose keys are ints and texts; one whose keys are tuples of ints and texts (the empty one is both) -/
  | dK (kvs : List (Key × V)) | dT (kvs : List (List Key × V))
  /-- a set of ints: its members, its size -/
  | set (S : Int → Bool) (n : Nat)
  /-- an instance of the class at C, its dict at dx, its attributes -/
  | ins (C dx : Addr) (fs : List (Str × V))
  /-- the dict of the instance at x -/
  | own (x : Addr)
  /-- the dict of an exception -/
  | xd (fs : List (Str × V))
  /-- a bound method, f of x -/
  | met (f x : Addr)
  /-- a range object lo, lo + 1, .. below hi -/
  | rng (lo hi : Int)
  /-- a thing that is known to the object (the script; a dict while a loop walks it): read, never written while it is so -/
  | frz (o : Obj) (u : HO)
  /-- a code object's table -/
  | tbl (ps : Array Value)
  /-- any other thing, by what is true of its one object (a def of one's own: SetO a S n := HO.ext fun h => ..) -/
  | ext (φ : Heap → Prop)

abbrev Hp := Addr → Option HO
def upd (H : Hp) (a : Addr) (o : HO) : Hp := fun b => if b = a then some o else H b
theorem upd_same {H : Hp} {a : Addr} {o : HO} : upd H a o a = some o := by unfold upd; rw [if_pos rfl]
theorem upd_ne {H : Hp} {a b : Addr} {o : HO} (h : b ≠ a) : upd H a o b = H b := by unfold upd; rw [if_neg h]
theorem ne_of_none {H : Hp} {a b : Addr} {o : HO} (h : H a = some o) (h' : H b = none) : a ≠ b := by
  intro e; subst e; rw [h] at h'; cases h'

section
variable (P : Program) (w : World)
def ObjOk (H : Hp) (h : Heap) (a : Addr) : HO → Prop
  | .lst xs => xs.length ≤ sizeLine ∧ ∃ (its : List Value) (n : Nat), Vals xs its ∧ h.get? a = some { cls := .type "list", data := .seq its.toArray n }
  | .tup xs => xs.length ≤ sizeLine ∧ ∃ its : List Value, Vals xs its ∧ IsTup h a its.toArray
  | .dK kvs => kvs.length ≤ sizeLine ∧ (a == sysModules) = false ∧ ∃ vs, KV kvs vs ∧ h.DictOf (mixKind P w) a vs
  | .dT _ => False
  | .set S n => h.SetOf (intKind P w) a S n
  | .ins C dx fs => H dx = some (.own a) ∧ fs.length ≤ 1000 ∧ dx ≠ a ∧ h.get? a = some (PySem.W.instObj C dx) ∧
      ∃ mA, h.Ns1 dx mA ∧ (∀ f, RelO (fs.lookup f) (mA f)) ∧ PySem.Within mA (fs.map (·.1))
  | .own _ => ∃ o, h.get? a = some o
  | .xd fs => ∃ mA, h.Ns1 a mA ∧ ∀ f, RelO (fs.lookup f) (mA f)
  | .rng lo hi => ∃ t u v, h.get? a = some { cls := .type "range", data := .fields #[.int lo t, .int hi u, .int 1 v] }
  | .frz o u => h.get? a = some o ∧ ObjOk H h a u
  | .tbl ps => h.get? a = some { cls := .none, data := .fields ps }
  | .met f x => h.get? a = some (PySem.W.methodObj (.ref f) (.ref x))
  | .ext φ => φ h ∧ (∃ o, h.get? a = some o) ∧ ∀ h1 h2 : Heap, φ h1 → (∀ o, h1.get? a = some o → h2.get? a = some o) → φ h2
/-- the abstract heap is held -/
def HOk (H : Hp) (h : Heap) : Prop := ∀ a o, H a = some o → ObjOk P w H h a o
end

section
variable {P : Program} {w : World} {H H' : Hp} {h h' : Heap} {a : Addr} {o : HO}
theorem ObjOk.lt (x : ObjOk P w H h a o) : a < h.objs.size := by
  cases o with
  | lst xs => obtain ⟨_, _, _, _, e⟩ := x; exact Heap.lt_size e
  | tup xs => obtain ⟨_, _, _, p⟩ := x; exact p.lt
  | dK kvs => obtain ⟨_, _, _, _, o, _, _, e, _⟩ := x; exact Heap.lt_size e
  | dT kvs => exact (show False from x).elim
  | set S n => obtain ⟨o, _, _, _, e, _⟩ := x; exact Heap.lt_size e
  | ins C dx fs => obtain ⟨_, _, _, e, _⟩ := x; exact Heap.lt_size e
  | own y => obtain ⟨_, e⟩ := x; exact Heap.lt_size e
  | xd fs => obtain ⟨_, ⟨_, _, _, e, _⟩, _⟩ := x; exact Heap.lt_size e
  | rng lo hi => obtain ⟨_, _, _, e⟩ := x; exact Heap.lt_size e
  | frz ob u => obtain ⟨e, _⟩ := x; exact Heap.lt_size e
  | tbl ps => exact Heap.lt_size (show h.get? a = some _ from x)
  | met f y => exact Heap.lt_size (show h.get? a = some _ from x)
  | ext φ => obtain ⟨_, ⟨_, e⟩, _⟩ := x; exact Heap.lt_size e
/-- what an object's description leans on: its own object, its own dict, the tuples -/
theorem ObjOk.stay (x : ObjOk P w H h a o) (k : ∀ b u, (b = a ∨ H b = some (.own a)) → h.get? b = some u → h'.get? b = some u)
    (ho : ∀ b, H b = some (.own a) → H' b = some (.own a)) (ht : ∀ b xs, H b = some (.tup xs) → H' b = some (.tup xs)) : ObjOk P w H' h' a o := by
  induction o with
  | lst xs => obtain ⟨z, its, n, r, e⟩ := x; exact ⟨z, its, n, r, k _ _ (.inl rfl) e⟩
  | tup xs => obtain ⟨z, its, r, ob, e, c⟩ := x; exact ⟨z, its, r, ob, k _ _ (.inl rfl) e, c⟩
  | dK kvs => obtain ⟨z, y, vs, r, ob, es, ep, e, c⟩ := x; exact ⟨z, y, vs, r, ob, es, ep, k _ _ (.inl rfl) e, c⟩
  | dT kvs => exact (show False from x).elim
  | set S n => obtain ⟨ob, es, ep, t, e, c⟩ := x; exact ⟨ob, es, ep, t, k _ _ (.inl rfl) e, c⟩
  | ins C dx fs =>
    obtain ⟨d, z, ne, e, mA, ⟨od, es, ep, e2, c⟩, r⟩ := x
    exact ⟨ho _ d, z, ne, k _ _ (.inl rfl) e, mA, ⟨od, es, ep, k _ _ (.inr d) e2, c⟩, r⟩
  | own y => obtain ⟨ob, e⟩ := x; exact ⟨ob, k _ _ (.inl rfl) e⟩
  | xd fs => obtain ⟨mA, ⟨od, es, ep, e, c⟩, r⟩ := x; exact ⟨mA, ⟨od, es, ep, k _ _ (.inl rfl) e, c⟩, r⟩
  | rng lo hi => obtain ⟨t, u, v, e⟩ := x; exact ⟨t, u, v, k _ _ (.inl rfl) e⟩
  | frz ob u ih => obtain ⟨e, q⟩ := x; exact ⟨k _ _ (.inl rfl) e, ih q⟩
  | tbl ps =>
    have e : h.get? a = some { cls := .none, data := .fields ps } := x
    show h'.get? a = some { cls := .none, data := .fields ps }
    exact k a _ (.inl rfl) e
  | met f y =>
    have e : h.get? a = some (PySem.W.methodObj (.ref f) (.ref y)) := x
    show h'.get? a = some (PySem.W.methodObj (.ref f) (.ref y))
    exact k a _ (.inl rfl) e
  | ext φ => obtain ⟨p, ⟨o, e⟩, st⟩ := x; exact ⟨st _ _ p fun o q => k _ _ (.inl rfl) q, ⟨o, k _ _ (.inl rfl) e⟩, st⟩
theorem HOk.lt (x : HOk P w H h) (e : H a = some o) : a < h.objs.size := (x a o e).lt
theorem HOk.fresh (x : HOk P w H h) (e : h.objs.size ≤ a) : H a = none := by
  cases q : H a with
  | none => rfl
  | some u => exact absurd (Nat.lt_of_lt_of_le (x.lt q) e) (Nat.lt_irrefl _)
/-- every object of the heap is kept -/
theorem HOk.kept (x : HOk P w H h) (k : ∀ b u, h.get? b = some u → h'.get? b = some u) : HOk P w H h' := fun a o e =>
  (x a o e).stay (fun b u _ q => k b u q) (fun _ q => q) fun _ _ q => q
/-- a new object is laid and tracked -/
theorem HOk.laid (x : HOk P w H h) (k : ∀ b u, h.get? b = some u → h'.get? b = some u) (hp : h.objs.size ≤ a) (new : ObjOk P w (upd H a o) h' a o) : HOk P w (upd H a o) h' := fun b u e => by
  have hn := x.fresh hp
  by_cases hb : b = a
  · subst hb; rw [upd_same] at e; cases e; exact new
  · rw [upd_ne hb] at e
    exact (x b u e).stay (fun c v _ q => k c v q) (fun c q => by rw [upd_ne (ne_of_none q hn)]; exact q) fun c xs q => by rw [upd_ne (ne_of_none q hn)]; exact q
end

/-- what may be read as u: it is u, or a known u -/
def Rd (H : Hp) (a : Addr) (u : HO) : Prop := H a = some u ∨ ∃ o, H a = some (.frz o u)
theorem Rd.ok {P : Program} {w : World} {H : Hp} {h : Heap} {a : Addr} {u : HO} (r : Rd H a u) (x : HOk P w H h) : ObjOk P w H h a u := by
  rcases r with r | ⟨o, r⟩
  · exact x a u r
  · obtain ⟨_, q⟩ := x a _ r
    exact q
/-- what may be written -/
def Mut : Option HO → Prop
  | some (.lst _) => True
  | some (.dK _) => True
  | some (.dT _) => True
  | some (.set _ _) => True
  | some (.ins _ _ _) => True
  | some (.ext _) => True
  | _ => False
section
variable {P : Program} {w : World} {H : Hp} {h h' : Heap} {x e : Addr} {o' : HO}
/-- the object at e is changed: x itself, or the dict of the instance x -/
theorem HOk.write (ok : HOk P w H h) (mu : Mut (H x)) (he : e = x ∨ H e = some (.own x)) (k : ∀ b u, b ≠ e → h.get? b = some u → h'.get? b = some u) (heo : ∃ u, h'.get? e = some u)
    (new : ObjOk P w (upd H x o') h' x o') : HOk P w (upd H x o') h' := fun b u q => by
  have nown : ∀ c y, H c = some (.own y) → c ≠ x := fun c y r z => by subst z; rw [r] at mu; exact mu
  have ntup : ∀ c xs, H c = some (.tup xs) → c ≠ x := fun c xs r z => by subst z; rw [r] at mu; exact mu
  by_cases hb : b = x
  · subst hb; rw [upd_same] at q; cases q; exact new
  · rw [upd_ne hb] at q
    by_cases hbe : b = e
    · have q' : H b = some (.own x) := by
        rcases he with z | z
        · exact absurd (hbe.trans z) hb
        · rw [hbe]; exact z
      rw [q] at q'; cases q'
      obtain ⟨v, hv⟩ := heo
      exact ⟨v, by rw [hbe]; exact hv⟩
    · refine (ok b u q).stay (fun c v hc r => k c v ?_ r) (fun c r => by rw [upd_ne (nown c b r)]; exact r) fun c xs r => by rw [upd_ne (ntup c xs r)]; exact r
      rcases hc with rfl | hc
      · exact hbe
      · rintro rfl
        rcases he with z | z
        · exact nown c b hc z
        · rw [hc] at z; cases z; exact hb rfl
end

/-! ### kept unless tracked; of the frames at fs (the callers') the slots may change (an exception that passes writes there); of the records at ex (iterators) nothing is said -/
structure Un (fs ex : List Addr) (H H' : Hp) (h h' : Heap) : Prop where
  keep : ∀ b o, h.get? b = some o → H b = none → b ∉ fs → b ∉ ex → h'.get? b = some o
  slot : ∀ b o, h.get? b = some o → H b = none → b ∈ fs → b ∉ ex → ∃ sl, h'.get? b = some { o with slots := sl }
  free : ∀ b o, h.get? b = some o → H b = none → b ∉ ex → H' b = none
  there : ∀ b o, h.get? b = some o → b ∉ ex → ∃ o', h'.get? b = some o'
  tups : ∀ b xs, H b = some (.tup xs) → H' b = some (.tup xs)
  frzs : ∀ b o u, H b = some (.frz o u) → H' b = some (.frz o u)
  tbls : ∀ b ps, H b = some (.tbl ps) → ∃ more, H' b = some (.tbl (ps ++ more))
section
variable {fs fs' ex ex' : List Addr} {H H1 H2 : Hp} {h h1 h2 h' : Heap} {a x e : Addr} {o : HO}
theorem Un.any (u : Un fs ex H H1 h h1) {b : Addr} {ob : Obj} (q : h.get? b = some ob) (n : H b = none) (hx : b ∉ ex) : ∃ sl, h1.get? b = some { ob with slots := sl } := by
  by_cases hb : b ∈ fs
  · exact u.slot b ob q n hb hx
  · exact ⟨ob.slots, u.keep b ob q n hb hx⟩
theorem Un.kept (k : ∀ b u, h.get? b = some u → h'.get? b = some u) : Un fs ex H H h h' :=
  ⟨fun b ob q _ _ _ => k b ob q, fun b ob q _ _ _ => ⟨ob.slots, k b ob q⟩, fun _ _ _ n _ => n, fun b ob q _ => ⟨ob, k b ob q⟩, fun _ _ q => q, fun _ _ _ q => q, fun _ ps q => ⟨#[], by rw [q]; simp⟩⟩
theorem Un.refl : Un fs ex H H h h := Un.kept fun _ _ q => q
theorem Un.laid (k : ∀ b u, h.get? b = some u → h'.get? b = some u) (hp : h.objs.size ≤ a) (hn : H a = none) : Un fs ex H (upd H a o) h h' where
  keep := fun b u q _ _ _ => k b u q
  slot := fun b u q _ _ _ => ⟨u.slots, k b u q⟩
  free := fun b u q n _ => by rw [upd_ne (Nat.ne_of_lt (Nat.lt_of_lt_of_le (Heap.lt_size q) hp))]; exact n
  there := fun b u q _ => ⟨u, k b u q⟩
  tups := fun b xs q => by rw [upd_ne (ne_of_none q hn)]; exact q
  frzs := fun b u xs q => by rw [upd_ne (ne_of_none q hn)]; exact q
  tbls := fun b ps q => ⟨#[], by rw [upd_ne (ne_of_none q hn), q]; simp⟩
theorem Un.write (mu : Mut (H x)) (he : e = x ∨ H e = some (.own x)) (k : ∀ b u, b ≠ e → h.get? b = some u → h'.get? b = some u) (heo : ∃ u, h'.get? e = some u) : Un fs ex H (upd H x o) h h' := by
  have hx : ∀ b, H b = none → b ≠ x := fun b n z => by subst z; rw [n] at mu; exact mu
  have hb : ∀ b, H b = none → b ≠ e := fun b n z => by
    subst z
    rcases he with r | r
    · exact hx b n r
    · rw [n] at r; cases r
  have hm : ∀ b u, H b = some u → ¬ Mut (some u) → b ≠ x := fun b u q nm z => by subst z; rw [q] at mu; exact nm mu
  refine ⟨fun b u q n _ _ => k b u (hb b n) q, fun b u q n _ _ => ⟨u.slots, k b u (hb b n) q⟩, fun b u q n _ => by rw [upd_ne (hx b n)]; exact n, fun b u q _ => ?_,
    fun b xs q => by rw [upd_ne (hm b _ q fun z => z)]; exact q, fun b u xs q => by rw [upd_ne (hm b _ q fun z => z)]; exact q, fun b ps q => ⟨#[], by rw [upd_ne (hm b _ q fun z => z), q]; simp⟩⟩
  by_cases hbe : b = e
  · subst hbe; exact heo
  · exact ⟨u, k b u hbe q⟩
end

/-! ### the heap without what is tracked -/
def trk (h : Heap) (H : Hp) : List Addr := (List.range h.objs.size).filter fun a => (H a).isSome
def hidT (h : Heap) (H : Hp) : Heap := PySem.W.hideAll h (trk h H)
theorem hidT_size (h : Heap) (H : Hp) : (hidT h H).objs.size = h.objs.size := PySem.W.hideAll_size _ _
theorem hidT_get {h : Heap} {H : Hp} {b : Addr} {o : Obj} (e : h.get? b = some o) (n : H b = none) : (hidT h H).get? b = some o :=
  PySem.W.hideAll_get _ e fun hm => by
    have q : (H b).isSome = true := (List.mem_filter.mp hm).2
    rw [n] at q; simp at q
theorem of_hidT {h : Heap} {H : Hp} {b : Addr} {o : Obj} (e : (hidT h H).get? b = some o) : h.get? b = some o ∧ H b = none := by
  have e' : h.get? b = some o := PySem.W.of_hideAll (trk h H) e
  refine ⟨e', ?_⟩
  cases q : H b with
  | none => rfl
  | some x =>
    have hm : b ∈ trk h H := List.mem_filter.mpr ⟨List.mem_range.mpr (Heap.lt_size e'), by simp [q]⟩
    have z : (hidT h H).get? b = none := PySem.W.hideAll_none (trk h H) hm
    rw [z] at e; cases e

/-! ### OpenK's ledger, filled with every new object but one -/
def allNews (g h : Heap) (L : Addr) : List (Addr × Obj) := (List.range h.objs.size).filterMap fun a => if a = L ∨ (g.get? a).isSome = true then none else (h.get? a).map fun o => (a, o)
def rest (g h : Heap) (L d : Addr) : List (Addr × Obj) := (allNews g h L).filter fun p => decide (p.1 ≠ d)
end L2

namespace L2
open PySem PySem.Spec PyProof.Rows

/-- the module's facts, over the base: the heap at the law's entry without what is tracked there -/
structure Mod (K : PySem.W.Frag) (mg : Str → Option Value) (base : Heap) : Prop where
  kin : K.In base
  glob : base.Ns mainGlobals mg
  blt : ∃ mb, base.Ns builtinsNs mb ∧ ∀ x : Str, x ≠ "__name__" → mb x = bootBuiltins x
  nolimit : base.NoLimit

/-- the context: a def's body (or a comprehension's block) running. base: fixed through the whole law; s₀, H₀: the entry; outer: the frames whose slots others may change (a def's callers); stack: all frames that run;
   ex: iterators that were made ahead of the entry and are walked here (a comprehension's); fn: the names whose cells were made at the entry (a def: all; a comprehension's block: its own); calm: not within an except suite; pn: pins that every state bears; xe: what is wanted of an exception that leaves the code -/
structure Cx where
  prog : Program
  w : World
  K : PySem.W.Frag
  mg : Str → Option Value
  base : Heap
  A : Around
  N : List Str
  s₀ : Shared
  H₀ : Hp
  env : Env
  outer : List Env
  stack : List Env
  ex : List Addr
  fn : Str → Bool
  calm : Bool
  pn : List (Addr × Obj)
  xe : Value → Shared → Prop
/-- the callers' frames -/
def frs (l : List Env) : List Addr := l.filterMap (·.frame)
abbrev Cx.fs (X : Cx) : List Addr := frs X.outer

def Vis (sc : Scope) (x : Str) : Prop := sc.names.lookup x = some .local ∨ sc.names.lookup x = some .cell ∨ sc.names.lookup x = some .free
def Loc (sc : Scope) (x : Str) : Prop := sc.names.lookup x = some .local ∨ sc.names.lookup x = some .cell
def Look (env : Env) (h : Heap) (m : Str → Option Value) (x : Str) (u : Value) : Prop :=
  (env.kindOf x = some .local ∧ m x = some u) ∨ ((env.kindOf x = some .cell ∨ env.kindOf x = some .free) ∧ ∃ c, env.cells.lookup x = some c ∧ h.IsCell c (some u))

structure Cx.Ok (X : Cx) : Prop where
  mod : Mod X.K X.mg X.base
  kind : X.env.scope.kind = .function
  glob : X.env.globals = mainGlobals
  blt : X.env.builtins = builtinsNs
  above : X.s₀.heap.objs.size ≤ X.env.locals
  inj : ∀ x y c, X.env.cells.lookup x = some c → X.env.cells.lookup y = some c → x = y
  has : ∀ x, (X.env.kindOf x = some .cell ∨ X.env.kindOf x = some .free) → ∃ c, X.env.cells.lookup x = some c
  cab : ∀ x c, X.fn x = true → X.env.cells.lookup x = some c → X.s₀.heap.objs.size ≤ c
  hd : X.calm = true → X.A.handled = none
  frames : X.A.frames = some X.stack
  stk : X.stack = X.outer ∨ (X.stack = X.env :: X.outer ∧ X.env.frame = some X.env.locals)
  exf : ∀ b ∈ X.ex, b ≠ X.env.locals ∧ ∀ x c, X.env.cells.lookup x = some c → c ≠ b
  bs : ∀ b o, X.base.get? b = some o → X.s₀.heap.get? b = some o ∧ X.H₀ b = none
  bsz : X.base.objs.size ≤ X.s₀.heap.objs.size
  noex : ∀ b o, X.base.get? b = some o → b ∉ X.ex
  exfs : ∀ b ∈ X.ex, b ∉ X.fs
  funs : X.s₀.heap.FunFrames X.base X.outer
  frf : ∀ b ∈ X.fs, X.H₀ b = none

structure Inv (X : Cx) (pins : List (Addr × Obj)) (σ : List (Option V)) (H : Hp) (s : Shared) : Prop where
  ok : X.Ok
  os : s.os = X.s₀.os
  bare : AllBare s.gens
  base : Un X.fs X.ex X.H₀ H X.s₀.heap s.heap
  loc : ∃ m, s.heap.Ns X.env.locals m ∧ ∀ (i : Nat) (x : Str) (v : V), X.N[i]? = some x → σ[i]? = some (some v) → Vis X.env.scope x → ∃ u, RelV v u ∧ Look X.env s.heap m x u
  cell : ∀ x c, X.env.cells.lookup x = some c → ∃ v, s.heap.IsCell c v
  free : H X.env.locals = none
  freeC : ∀ x c, X.env.cells.lookup x = some c → H c = none
  pin : ∀ p ∈ X.pn ++ pins, s.heap.get? p.1 = some p.2 ∧ H p.1 = none ∧ p.1 ≠ X.env.locals ∧ p.1 ∉ X.fs ∧ ∀ v, p.2.data ≠ .cell v
  hok : HOk X.prog X.w H s.heap
  len : σ.length = X.N.length

section
variable {X : Cx} {pins : List (Addr × Obj)} {σ : List (Option V)} {H H' : Hp} {s : Shared} {h' : Heap}

theorem Cx.Ok.nofr (ok : X.Ok) {b : Addr} {o : Obj} (e : X.base.get? b = some o) : b ∉ X.fs := fun hb => by
  have := (ok.funs.mem hb).1
  rw [e] at this; cases this
theorem Inv.bs (I : Inv X pins σ H s) : ∀ b o, X.base.get? b = some o → s.heap.get? b = some o ∧ H b = none := fun b o e =>
  ⟨I.base.keep b o (I.ok.bs b o e).1 (I.ok.bs b o e).2 (I.ok.nofr e) (I.ok.noex b o e), I.base.free b o (I.ok.bs b o e).1 (I.ok.bs b o e).2 (I.ok.noex b o e)⟩
theorem Inv.bk (I : Inv X pins σ H s) : ∀ b o, X.base.get? b = some o → s.heap.get? b = some o := fun b o e => (I.bs b o e).1
theorem Inv.mod (I : Inv X pins σ H s) : Mod X.K X.mg X.base := I.ok.mod
theorem Inv.kIn (I : Inv X pins σ H s) : X.K.In s.heap := I.ok.mod.kin.keeps I.bk
theorem Inv.lt (I : Inv X pins σ H s) : X.env.locals < s.heap.objs.size := let ⟨_, hn, _⟩ := I.loc; hn.lt
theorem Inv.sz (I : Inv X pins σ H s) : X.s₀.heap.objs.size ≤ s.heap.objs.size := Nat.le_trans I.ok.above (Nat.le_of_lt I.lt)
theorem Inv.nofs (I : Inv X pins σ H s) {a : Addr} (h : s.heap.objs.size ≤ a) : a ∉ X.fs := fun hb => by
  obtain ⟨_, o, ho, _⟩ := I.ok.funs.mem hb
  exact absurd (Nat.lt_of_lt_of_le (Heap.lt_size ho) (Nat.le_trans I.sz h)) (Nat.lt_irrefl _)
theorem Inv.cne (I : Inv X pins σ H s) : ∀ x c, X.env.cells.lookup x = some c → c ≠ X.env.locals := fun x c e z => by
  obtain ⟨v, o, ho, hd⟩ := I.cell x c e
  obtain ⟨m, ⟨o', es, ep, ho', hd', _⟩, _⟩ := I.loc
  rw [z, ho'] at ho; cases ho; rw [hd'] at hd; cases hd
theorem Inv.funs (I : Inv X pins σ H s) : s.heap.FunFrames X.base X.outer := by
  have all : ∀ (l : List Env), (∀ b ∈ frs l, b ∈ X.fs) → X.s₀.heap.FunFrames X.base l → s.heap.FunFrames X.base l := by
    intro l
    induction l with
    | nil => intro _ _; trivial
    | cons env r ih =>
      intro hs hl
      obtain ⟨hk, ⟨L, o, hf, hn, ho, hd⟩, hr⟩ := hl
      have hL : L ∈ X.fs := hs L (by unfold frs; rw [List.filterMap_cons, hf]; exact List.mem_cons_self)
      obtain ⟨sl, e⟩ := I.base.slot L o ho (I.ok.frf L hL) hL fun z => I.ok.exfs L z hL
      exact ⟨hk, ⟨L, _, hf, hn, e, hd⟩, ih (fun b hb => hs b (by unfold frs; rw [List.filterMap_cons, hf]; exact List.mem_cons_of_mem _ hb)) hr⟩
  exact all X.outer (fun _ hb => hb) I.ok.funs

/-- the frames that run, for a call -/
theorem Inv.stack (I : Inv X pins σ H s) : s.heap.FunFrames X.base X.stack := by
  rcases I.ok.stk with e | ⟨e, hf⟩
  · rw [e]; exact I.funs
  · rw [e]
    obtain ⟨m, hn, _⟩ := I.loc
    refine .cons (by rw [I.ok.kind]; decide) hf hn ?_ I.funs
    exact Heap.get?_none_of_le (Nat.le_trans I.ok.bsz I.ok.above)
theorem Inv.stkSub (I : Inv X pins σ H s) : ∀ b ∈ frs X.stack, b ∈ X.env.locals :: X.fs := fun b hb => by
  rcases I.ok.stk with e | ⟨e, hf⟩
  · rw [e] at hb; exact List.mem_cons_of_mem _ hb
  · rw [e] at hb
    unfold frs at hb
    rw [List.filterMap_cons, hf] at hb
    exact hb
theorem Inv.stkFree (I : Inv X pins σ H s) : ∀ b ∈ frs X.stack, H b = none := fun b hb => by
  rcases List.mem_cons.mp (I.stkSub b hb) with e | hb
  · rw [e]; exact I.free
  · obtain ⟨_, o, ho, _⟩ := I.ok.funs.mem hb
    exact I.base.free b o ho (I.ok.frf b hb) fun z => I.ok.exfs b z hb

/-- THE STEP: the untracked objects but the frame and the records at ch are kept (the callers' frames up to slots), the frame's map is kept, the new abstract heap is held -/
theorem Inv.step {g' : Array GenState} {t' : Nat} {d' : Drawn} {ch : List Addr} (I : Inv X pins σ H s)
    (hch : ∀ b ∈ ch, (b ∈ X.ex ∨ X.s₀.heap.objs.size ≤ b) ∧ b ≠ X.env.locals ∧ (∀ x c, X.env.cells.lookup x = some c → c ≠ b) ∧ ∀ p ∈ X.pn ++ pins, p.1 ≠ b)
    (keep : ∀ b o, b ≠ X.env.locals → b ∉ X.fs → b ∉ ch → s.heap.get? b = some o → H b = none → h'.get? b = some o)
    (slot : ∀ b o, b ≠ X.env.locals → b ∈ X.fs → b ∉ ch → s.heap.get? b = some o → H b = none → ∃ sl, h'.get? b = some { o with slots := sl }) (free : ∀ b o, b ∉ ch → s.heap.get? b = some o → H b = none → H' b = none)
    (there : ∀ b o, b ∉ ch → s.heap.get? b = some o → ∃ o', h'.get? b = some o')
    (tups : ∀ b xs, H b = some (.tup xs) → H' b = some (.tup xs)) (frzs : ∀ b o u, H b = some (.frz o u) → H' b = some (.frz o u)) (tbls : ∀ b ps, H b = some (.tbl ps) → ∃ more, H' b = some (.tbl (ps ++ more)))
    (ns : ∀ m, s.heap.Ns X.env.locals m → h'.Ns X.env.locals m) (hok : HOk X.prog X.w H' h') (hg : AllBare g') :
    Inv X pins σ H' { s with heap := h', gens := g', drawn := d', toks := t' } := by
  have neL : ∀ b o, X.s₀.heap.get? b = some o → b ≠ X.env.locals := fun b o e => Nat.ne_of_lt (Nat.lt_of_lt_of_le (Heap.lt_size e) I.ok.above)
  have neC : ∀ b o, X.s₀.heap.get? b = some o → b ∉ X.ex → b ∉ ch := fun b o e hx hb => by
    rcases (hch b hb).1 with z | z
    · exact hx z
    · exact absurd (Nat.lt_of_lt_of_le (Heap.lt_size e) z) (Nat.lt_irrefl _)
  have cellK : ∀ x c, X.env.cells.lookup x = some c → ∀ v, s.heap.IsCell c v → h'.IsCell c v := fun x c e v ⟨o, ho, hd⟩ => by
    have nch : c ∉ ch := fun z => (hch c z).2.2.1 x c e rfl
    by_cases hc : c ∈ X.fs
    · obtain ⟨sl, q⟩ := slot c o (I.cne x c e) hc nch ho (I.freeC x c e)
      exact ⟨_, q, hd⟩
    · exact ⟨o, keep c o (I.cne x c e) hc nch ho (I.freeC x c e), hd⟩
  refine ⟨I.ok, I.os, hg, ⟨fun b o e n hb hx => ?_, fun b o e n hb hx => ?_, fun b o e n hx => ?_, fun b o e hx => ?_, fun b xs e => tups b xs (I.base.tups b xs e), fun b o xs e => frzs b o xs (I.base.frzs b o xs e), fun b ps e => ?_⟩, ?_, fun x c e => ?_, ?_, fun x c e => ?_, fun p hp => ?_, hok, I.len⟩
  · exact keep b o (neL b o e) hb (neC b o e hx) (I.base.keep b o e n hb hx) (I.base.free b o e n hx)
  · obtain ⟨sl, e1⟩ := I.base.slot b o e n hb hx
    obtain ⟨sl', e2⟩ := slot b _ (neL b o e) hb (neC b o e hx) e1 (I.base.free b o e n hx)
    exact ⟨sl', e2⟩
  · obtain ⟨o', e1⟩ := I.base.there b o e hx
    exact free b o' (neC b o e hx) e1 (I.base.free b o e n hx)
  · obtain ⟨o', e1⟩ := I.base.there b o e hx
    exact there b o' (neC b o e hx) e1
  · obtain ⟨m1, e1⟩ := I.base.tbls b ps e
    obtain ⟨m2, e2⟩ := tbls b _ e1
    exact ⟨m1 ++ m2, by rw [e2, Array.append_assoc]⟩
  · obtain ⟨m, hn, hl⟩ := I.loc
    refine ⟨m, ns m hn, fun i x v e1 e2 e3 => ?_⟩
    obtain ⟨u, r, l⟩ := hl i x v e1 e2 e3
    refine ⟨u, r, ?_⟩
    rcases l with l | ⟨k, c, e, z⟩
    · exact .inl l
    · exact .inr ⟨k, c, e, cellK x c e _ z⟩
  · obtain ⟨v, z⟩ := I.cell x c e
    exact ⟨v, cellK x c e v z⟩
  · obtain ⟨m, ⟨o, _, _, ho, _⟩, _⟩ := I.loc
    exact free _ o (fun z => (hch _ z).2.1 rfl) ho I.free
  · obtain ⟨v, o, ho, hd⟩ := I.cell x c e
    exact free c o (fun z => (hch c z).2.2.1 x c e rfl) ho (I.freeC x c e)
  · obtain ⟨e, n, ne, nf, d⟩ := I.pin p hp
    have nch : p.1 ∉ ch := fun z => (hch p.1 z).2.2.2 p hp rfl
    exact ⟨keep p.1 p.2 ne nf nch e n, free p.1 p.2 nch e n, ne, nf, d⟩
/-- .. where the frame's own object is kept too -/
theorem Inv.un {t' : Nat} (I : Inv X pins σ H s) (u : Un X.fs [] H H' s.heap h') (hok : HOk X.prog X.w H' h') : Inv X pins σ H' { s with heap := h', toks := t' } := by
  obtain ⟨m, ⟨o, es, ep, ho, r⟩, _⟩ := id I.loc
  obtain ⟨sl, hL⟩ := u.any ho I.free (by simp)
  exact I.step (g' := s.gens) (d' := s.drawn) (ch := []) (fun _ z => nomatch z) (fun b o _ hb _ e n => u.keep b o e n hb (by simp)) (fun b o _ hb _ e n => u.slot b o e n hb (by simp)) (fun b o _ e n => u.free b o e n (by simp)) (fun b o _ e => u.there b o e (by simp)) u.tups u.frzs u.tbls (fun m' hm => by
    obtain ⟨o', es', ep', ho', r'⟩ := hm
    rw [ho] at ho'; cases ho'
    exact ⟨_, es', ep', hL, r'⟩) hok I.bare
/-- behind a call (or a comprehension's block): the slots of this frame may have changed too, the records at ch may have turned -/
theorem Inv.call {g' : Array GenState} {t' : Nat} {d' : Drawn} {ch : List Addr} (I : Inv X pins σ H s) (u : Un (frs X.stack) ch H H' s.heap h') (hok : HOk X.prog X.w H' h') (hg : AllBare g')
    (hch : ∀ b ∈ ch, (b ∈ X.ex ∨ X.s₀.heap.objs.size ≤ b) ∧ b ≠ X.env.locals ∧ (∀ x c, X.env.cells.lookup x = some c → c ≠ b) ∧ ∀ p ∈ X.pn ++ pins, p.1 ≠ b) :
    Inv X pins σ H' { s with heap := h', gens := g', drawn := d', toks := t' } := by
  obtain ⟨m, ⟨o, es, ep, ho, r⟩, _⟩ := id I.loc
  obtain ⟨sl, hL⟩ := u.any ho I.free fun z => (hch _ z).2.1 rfl
  exact I.step (ch := ch) hch (fun b o hL hb hc e n => u.keep b o e n (fun z => (List.mem_cons.mp (I.stkSub b z)).elim hL hb) hc) (fun b o _ _ hc e n => u.any e n hc) (fun b o hc e n => u.free b o e n hc) (fun b o hc e => u.there b o e hc) u.tups u.frzs u.tbls (fun m' hm => by
    obtain ⟨o', es', ep', ho', r'⟩ := hm
    rw [ho] at ho'; cases ho'
    exact ⟨_, es', ep', hL, r'⟩) hok hg
/-- an untracked record of ours (an iterator) has turned -/
theorem Inv.turned {t' : Nat} {it : Addr} (I : Inv X pins σ H s) (k : ∀ b o, b ≠ it → s.heap.get? b = some o → h'.get? b = some o) (hn : H it = none) (hL : it ≠ X.env.locals)
    (h1 : it ∈ X.ex ∨ X.s₀.heap.objs.size ≤ it) (h2 : ∀ x c, X.env.cells.lookup x = some c → c ≠ it) (h3 : ∀ p ∈ X.pn ++ pins, p.1 ≠ it) : Inv X pins σ H { s with heap := h', toks := t' } := by
  have nit : ∀ b u, H b = some u → b ≠ it := fun b u e z => by rw [z, hn] at e; cases e
  refine I.step (g' := s.gens) (d' := s.drawn) (ch := [it]) (fun b hb => ?_) (fun b o _ _ hc e _ => k b o (fun z => hc (by simp [z])) e) (fun b o _ _ hc e _ => ⟨o.slots, k b o (fun z => hc (by simp [z])) e⟩) (fun _ _ _ _ n => n)
    (fun b o hc e => ⟨o, k b o (fun z => hc (by simp [z])) e⟩) (fun _ _ e => e) (fun _ _ _ e => e) (fun b ps e => ⟨#[], by rw [e]; simp⟩) (fun m hm => ?_) (fun b u e => ?_) I.bare
  · have e : b = it := by simpa using hb
    subst e
    exact ⟨h1, hL, h2, h3⟩
  · obtain ⟨o, es, ep, ho, r⟩ := hm
    exact ⟨o, es, ep, k _ o (Ne.symm hL) ho, r⟩
  · refine (I.hok b u e).stay (fun c v hc q => k c v ?_ q) (fun _ q => q) fun _ _ q => q
    rcases hc with z | z
    · rw [z]; exact nit b u e
    · exact nit c _ z
theorem Inv.tok (I : Inv X pins σ H s) (t : Nat) : Inv X pins σ H { s with toks := t } := I.un (h' := s.heap) (t' := t) Un.refl I.hok
/-- all objects kept -/
theorem Inv.kept {t' : Nat} (I : Inv X pins σ H s) (k : ∀ b u, s.heap.get? b = some u → h'.get? b = some u) : Inv X pins σ H { s with heap := h', toks := t' } := I.un (Un.kept k) (I.hok.kept k)
/-- a new object laid and tracked -/
theorem Inv.laid {a : Addr} {o : HO} {t' : Nat} (I : Inv X pins σ H s) (k : ∀ b u, s.heap.get? b = some u → h'.get? b = some u) (hp : s.heap.objs.size ≤ a) (new : ObjOk X.prog X.w (upd H a o) h' a o) :
    Inv X pins σ (upd H a o) { s with heap := h', toks := t' } := I.un (Un.laid k hp (I.hok.fresh hp)) (I.hok.laid k hp new)
/-- an object written -/
theorem Inv.write {x e : Addr} {o : HO} {t' : Nat} (I : Inv X pins σ H s) (mu : Mut (H x)) (he : e = x ∨ H e = some (.own x)) (k : ∀ b u, b ≠ e → s.heap.get? b = some u → h'.get? b = some u) (heo : ∃ u, h'.get? e = some u)
    (new : ObjOk X.prog X.w (upd H x o) h' x o) : Inv X pins σ (upd H x o) { s with heap := h', toks := t' } := I.un (Un.write mu he k heo) (I.hok.write mu he k heo new)
theorem Inv.pins_of {pins' : List (Addr × Obj)} (I : Inv X pins σ H s) (h : ∀ p ∈ pins', s.heap.get? p.1 = some p.2 ∧ H p.1 = none ∧ p.1 ≠ X.env.locals ∧ p.1 ∉ X.fs ∧ ∀ v, p.2.data ≠ .cell v) : Inv X pins' σ H s :=
  ⟨I.ok, I.os, I.bare, I.base, I.loc, I.cell, I.free, I.freeC, fun p hp => (List.mem_append.mp hp).elim (fun z => I.pin p (List.mem_append_left _ z)) (h p), I.hok, I.len⟩

theorem nodup_ix {N : List Str} (hN : N.Nodup) {i j : Nat} {x : Str} (a : N[i]? = some x) (b : N[j]? = some x) : i = j := by
  obtain ⟨h1, e1⟩ := List.getElem?_eq_some_iff.mp a
  obtain ⟨h2, e2⟩ := List.getElem?_eq_some_iff.mp b
  exact (List.getElem_inj hN).mp (e1.trans e2.symm)

/-- a name is stored; what changed -/
theorem store_ok2 {M : Model} {A : Around} {E : Value → Shared → Prop} {i : Nat} {x : Str} {v : V} {u : Value} {Q : Unit → Shared → Prop} (I : Inv X pins σ H s) (hN : X.N.Nodup) (hi : X.N[i]? = some x) (hx : Loc X.env.scope x) (r : RelV v u)
    (h : ∀ s', Inv X pins (σ.set i (some v)) H s' → (∃ a, Heap.SameBut a s.heap s'.heap ∧ (a = X.env.locals ∨ X.env.cells.lookup x = some a)) → Q () s') (hf : X.fn x = true ∨ X.env.scope.names.lookup x = some .local := by first | exact .inl rfl | exact .inr rfl | assumption) : wpAny M A (storeName X.env x u) Q E s := by
  obtain ⟨m, hn, hl⟩ := id I.loc
  have hcls : (X.env.scope.kind == .class || (X.env.scope.kind == .module && X.env.locals != X.env.globals)) = false := by rw [I.ok.kind]; rfl
  have hiσ : i < σ.length := by rw [I.len]; exact (List.getElem?_eq_some_iff.mp hi).1
  have cne := I.cne
  have tracked : ∀ {a : Addr} {h' : Heap}, (∃ o, s.heap.get? a = some o ∧ H a = none) → Heap.SameBut a s.heap h' → HOk X.prog X.w H h' := fun {a h'} ha hs b ob e => by
    obtain ⟨_, _, hfree⟩ := ha
    refine (I.hok b ob e).stay (fun c w' hc q => (hs.2 c ?_).trans q) (fun _ q => q) fun _ _ q => q
    rintro rfl
    rcases hc with rfl | hc
    · rw [hfree] at e; cases e
    · rw [hfree] at hc; cases hc
  rcases hx with hk | hk
  · refine wpAny_storeName_local hk hn (fun h' hn' hs => ?_) hcls
    obtain ⟨oL, _, _, hoL, _⟩ := id hn
    refine h _ ⟨I.ok, I.os, I.bare, ⟨fun b o e n hb hx => ?_, fun b o e n hb hx => ?_, I.base.free, fun b o e hx => ?_, I.base.tups, I.base.frzs, I.base.tbls⟩, ⟨_, hn', fun j y v' e1 e2 e3 => ?_⟩, fun y c e => ?_, I.free, I.freeC, fun p hp => ?_, tracked ⟨oL, hoL, I.free⟩ hs, by simpa using I.len⟩ ⟨_, hs, .inl rfl⟩
    · exact (hs.2 b (Nat.ne_of_lt (Nat.lt_of_lt_of_le (Heap.lt_size e) I.ok.above))).trans (I.base.keep b o e n hb hx)
    · obtain ⟨sl, e1⟩ := I.base.slot b o e n hb hx
      exact ⟨sl, (hs.2 b (Nat.ne_of_lt (Nat.lt_of_lt_of_le (Heap.lt_size e) I.ok.above))).trans e1⟩
    · obtain ⟨o', e1⟩ := I.base.there b o e hx
      exact ⟨o', (hs.2 b (Nat.ne_of_lt (Nat.lt_of_lt_of_le (Heap.lt_size e) I.ok.above))).trans e1⟩
    · by_cases hj : j = i
      · subst hj
        rw [hi] at e1; cases e1
        rw [List.getElem?_set_self hiσ] at e2
        cases e2
        exact ⟨u, r, .inl ⟨hk, by simp⟩⟩
      · rw [List.getElem?_set_ne (Ne.symm hj)] at e2
        obtain ⟨u', r', q⟩ := hl j y v' e1 e2 e3
        refine ⟨u', r', ?_⟩
        rcases q with ⟨k, e⟩ | ⟨k, c, e, z⟩
        · refine .inl ⟨k, ?_⟩
          have : y ≠ x := fun e => hj (nodup_ix hN e1 (e ▸ hi))
          simp [this, e]
        · exact .inr ⟨k, c, e, z.sameBut hs (cne y c e)⟩
    · obtain ⟨w', z⟩ := I.cell y c e
      exact ⟨w', z.sameBut hs (cne y c e)⟩
    · obtain ⟨e, n, ne, nf, d⟩ := I.pin p hp
      exact ⟨(hs.2 p.1 ne).trans e, n, ne, nf, d⟩
  · have hfn : X.fn x = true := by
      rcases hf with z | z
      · exact z
      · rw [z] at hk; cases hk
    obtain ⟨c, hc⟩ := I.ok.has x (.inl hk)
    obtain ⟨w', z⟩ := I.cell x c hc
    refine wpAny_storeName_cell I.ok.kind hk hc z (fun h' hc' hs => ?_)
    obtain ⟨oc, hoc, hocd⟩ := id z
    refine h { s with heap := h' } ⟨I.ok, I.os, I.bare, ⟨fun b o e n hb hx => ?_, fun b o e n hb hx => ?_, I.base.free, fun b o e hx => ?_, I.base.tups, I.base.frzs, I.base.tbls⟩, ⟨m, hn.sameBut hs (Ne.symm (cne x c hc)), fun j y v' e1 e2 e3 => ?_⟩, fun y c' e => ?_, I.free, I.freeC, fun p hp => ?_, tracked ⟨oc, hoc, I.freeC x c hc⟩ hs, by simpa using I.len⟩ ⟨c, hs, .inr hc⟩
    · exact (hs.2 b (Nat.ne_of_lt (Nat.lt_of_lt_of_le (Heap.lt_size e) (I.ok.cab x c hfn hc)))).trans (I.base.keep b o e n hb hx)
    · obtain ⟨sl, e1⟩ := I.base.slot b o e n hb hx
      exact ⟨sl, (hs.2 b (Nat.ne_of_lt (Nat.lt_of_lt_of_le (Heap.lt_size e) (I.ok.cab x c hfn hc)))).trans e1⟩
    · obtain ⟨o', e1⟩ := I.base.there b o e hx
      exact ⟨o', (hs.2 b (Nat.ne_of_lt (Nat.lt_of_lt_of_le (Heap.lt_size e) (I.ok.cab x c hfn hc)))).trans e1⟩
    · by_cases hj : j = i
      · subst hj
        rw [hi] at e1; cases e1
        rw [List.getElem?_set_self hiσ] at e2
        cases e2
        exact ⟨u, r, .inr ⟨.inl hk, c, hc, hc'⟩⟩
      · rw [List.getElem?_set_ne (Ne.symm hj)] at e2
        obtain ⟨u', r', q⟩ := hl j y v' e1 e2 e3
        refine ⟨u', r', ?_⟩
        rcases q with q | ⟨k, c', e, z'⟩
        · exact .inl q
        · refine .inr ⟨k, c', e, z'.sameBut hs ?_⟩
          rintro rfl
          exact hj (nodup_ix hN e1 (I.ok.inj _ _ _ e hc ▸ hi))
    · by_cases hcc : c' = c
      · subst hcc; exact ⟨_, hc'⟩
      · obtain ⟨w2, z2⟩ := I.cell y c' e
        exact ⟨w2, z2.sameBut hs hcc⟩
    · obtain ⟨e, n, ne, nf, d⟩ := I.pin p hp
      refine ⟨(hs.2 p.1 ?_).trans e, n, ne, nf, d⟩
      intro q
      rw [q, hoc] at e
      have q' : oc = p.2 := Option.some.inj e
      exact d w' (by rw [← q']; exact hocd)
theorem store_ok {M : Model} {A : Around} {E : Value → Shared → Prop} {i : Nat} {x : Str} {v : V} {u : Value} {Q : Unit → Shared → Prop} (I : Inv X pins σ H s) (hN : X.N.Nodup) (hi : X.N[i]? = some x) (hx : Loc X.env.scope x) (r : RelV v u)
    (h : ∀ s', Inv X pins (σ.set i (some v)) H s' → Q () s') (hf : X.fn x = true ∨ X.env.scope.names.lookup x = some .local := by first | exact .inl rfl | exact .inr rfl | assumption) : wpAny M A (storeName X.env x u) Q E s :=
  store_ok2 I hN hi hx r (fun s' I' _ => h s' I') hf
/-- behind a call or a block, the state as it is -/
theorem Inv.call' {s' : Shared} {ch : List Addr} (I : Inv X pins σ H s) (ho : s'.os = s.os) (u : Un (frs X.stack) ch H H' s.heap s'.heap) (hok : HOk X.prog X.w H' s'.heap) (hg : AllBare s'.gens)
    (hch : ∀ b ∈ ch, (b ∈ X.ex ∨ X.s₀.heap.objs.size ≤ b) ∧ b ≠ X.env.locals ∧ (∀ x c, X.env.cells.lookup x = some c → c ≠ b) ∧ ∀ p ∈ X.pn ++ pins, p.1 ≠ b) : Inv X pins σ H' s' := by
  obtain ⟨h', g', d', t', o'⟩ := s'
  have e : o' = s.os := ho
  subst e
  exact I.call (g' := g') (t' := t') (d' := d') u hok hg hch
end

/-! ### the judgements -/
/-- an exception: its class, its own dict's address (where it has one), the abstract heap behind it -/
abbrev XK := Value → Option Addr → Hp → Prop
abbrev St := List (Option V)
abbrev VK := V → Hp → Prop
/-- an expression's reading; a test's; an argument list's -/
abbrev TE := St → Hp → VK → Prop
abbrev TT := St → Hp → (Bool → Hp → Prop) → Prop
abbrev TA := St → Hp → (List V → Hp → Prop) → Prop
/-- what is wanted behind a statement -/
structure Ends where
  nx : St → Hp → Prop
  rt : VK
  bk : St → Hp → Prop := fun _ _ => False
  ct : St → Hp → Prop := fun _ _ => False
abbrev TS := Ends → St → Hp → Prop

def EP (X : Cx) (pins : List (Addr × Obj)) (σ : St) (Q : VK) (u : Value) (s' : Shared) : Prop := ∃ v H', Inv X pins σ H' s' ∧ RelV v u ∧ Q v H'
def TP (X : Cx) (pins : List (Addr × Obj)) (σ : St) (Q : Bool → Hp → Prop) (b : Bool) (s' : Shared) : Prop := ∃ H', Inv X pins σ H' s' ∧ Q b H'
def AP (X : Cx) (pins : List (Addr × Obj)) (σ : St) (Q : List V → Hp → Prop) (us : List Value) (s' : Shared) : Prop := ∃ vs H', Inv X pins σ H' s' ∧ Vals vs us ∧ Q vs H'
def SP (X : Cx) (pins : List (Addr × Obj)) (D : Ends) (f : Flow) (s' : Shared) : Prop :=
  match f with
  | .next => ∃ σ' H', Inv X pins σ' H' s' ∧ D.nx σ' H'
  | .brk => ∃ σ' H', Inv X pins σ' H' s' ∧ D.bk σ' H'
  | .cont => ∃ σ' H', Inv X pins σ' H' s' ∧ D.ct σ' H'
  | .ret u => ∃ v σ' H', Inv X pins σ' H' s' ∧ RelV v u ∧ D.rt v H'

def PE (X : Cx) (e : Expr) (t : TE) : Prop :=
  ∀ (pins : List (Addr × Obj)) (s : Shared) (σ : St) (H : Hp) (Q : VK), Inv X pins σ H s → t σ H Q → wpAny (model X.prog X.w) X.A (eval e X.env) (EP X pins σ Q) X.xe s
def PT (X : Cx) (e : Expr) (t : TT) : Prop :=
  ∀ (pins : List (Addr × Obj)) (s : Shared) (σ : St) (H : Hp) (Q : Bool → Hp → Prop), Inv X pins σ H s → t σ H Q → wpAny (model X.prog X.w) X.A (isTrue e X.env (eval e X.env)) (TP X pins σ Q) X.xe s
/-- a test whatever its 'whole' is (and, or) -/
def PW (X : Cx) (e : Expr) (t : TT) : Prop :=
  ∀ (whole : Sem Value) (pins : List (Addr × Obj)) (s : Shared) (σ : St) (H : Hp) (Q : Bool → Hp → Prop), Inv X pins σ H s → t σ H Q → wpAny (model X.prog X.w) X.A (isTrue e X.env whole) (TP X pins σ Q) X.xe s
theorem PW.pt {X : Cx} {e : Expr} {t : TT} (h : PW X e t) : PT X e t := h _
/-- an argument list (no star), from the left -/
def PA (X : Cx) (es : List Expr) (t : TA) : Prop :=
  ∀ (pos : Pos) (pins : List (Addr × Obj)) (s : Shared) (σ : St) (H : Hp) (Q : List V → Hp → Prop), Inv X pins σ H s → t σ H Q → wpAny (model X.prog X.w) X.A (spliced (backTo pos (starEach es X.env))) (AP X pins σ Q) X.xe s
def PS (X : Cx) (st : Stmt) (t : TS) : Prop :=
  ∀ (pins : List (Addr × Obj)) (s : Shared) (σ : St) (H : Hp) (D : Ends), Inv X pins σ H s → t D σ H → wpAny (model X.prog X.w) X.A (exec st X.env) (SP X pins D) X.xe s
def PSs (X : Cx) (st : List Stmt) (t : TS) : Prop :=
  ∀ (pins : List (Addr × Obj)) (s : Shared) (σ : St) (H : Hp) (D : Ends), Inv X pins σ H s → t D σ H → wpAny (model X.prog X.w) X.A (execs st X.env) (SP X pins D) X.xe s
/-- weaken the end -/
theorem thn {α : Type} {t : Sem α} {Q Q' : α → Shared → Prop} {M : Model} {A : Around} {E : Value → Shared → Prop} {s : Shared} (h : wpAny M A t Q E s) (hQ : ∀ a s, Q a s → Q' a s) : wpAny M A t Q' E s := wpAny_mono h hQ fun _ _ x => x
end L2

namespace L2
open PySem PySem.Spec PyProof.Rows
section
variable {X : Cx}

/-! ### names and constants -/
def tVar (i : Nat) : TE := fun σ H Q => ∃ v, σ[i]? = some (some v) ∧ Q v H
def tC (v : V) : TE := fun _ H Q => Q v H
theorem pe_var {i : Nat} {x : Str} {pos : Pos} (hN : X.N[i]? = some x) (hv : Vis X.env.scope x) (hd : (x == ("__debug__" : Str)) = false := by decide) (hcd : (x == ("__classdict__" : Str)) = false := by decide) : PE X (.Name x pos) (tVar i) := by
  intro pins s σ H Q I h
  obtain ⟨v, e, h⟩ := h
  obtain ⟨m, hn, hl⟩ := I.loc
  obtain ⟨u, r, l⟩ := hl i x v hN e hv
  have fin : EP X pins σ Q u s := ⟨v, H, I, r, h⟩
  rcases l with ⟨hk, hm⟩ | ⟨hk, c, hc, hcell⟩
  · exact wpAny_Name (wpAny_loadName_local I.ok.kind hk hn hm fin) hd
  · rcases hk with hk | hk
    · exact wpAny_Name (wpAny_loadName_cell I.ok.kind hk hc hcell fin) hd
    · exact wpAny_Name (wpAny_loadName_free I.ok.kind hk hc hcell fin hcd) hd
theorem pe_int {i j pos} : PE X (.Constant (.int i) j pos) (tC (.int i)) := fun _ _ _ H _ I h => wpAny_Constant_int ⟨.int i, H, I.tok _, ⟨_, rfl⟩, h⟩
theorem pe_bl {b j pos} : PE X (.Constant (.bool b) j pos) (tC (.bl b)) := fun _ _ _ H _ I h => Constant_bool ⟨.bl b, H, I, rfl, h⟩
theorem pe_non {j pos} : PE X (.Constant .none j pos) (tC .non) := fun _ _ _ H _ I h => Constant_none ⟨.non, H, I, rfl, h⟩
theorem pe_str {x j pos} : PE X (.Constant (.str x) j pos) (tC (.str x)) := fun _ _ _ H _ I h => Calls.Constant_str ⟨.str x, H, I.tok _, ⟨_, rfl⟩, h⟩

/-- a global name of the def -/
def Gl (X : Cx) (x : Str) : Prop := X.env.kindOf x = some .globalImplicit
theorem ld_glob {E : Value → Shared → Prop} {pins : List (Addr × Obj)} {s : Shared} {σ : St} {H : Hp} {x : Str} {u : Value} {pos : Pos} {Q : Value → Shared → Prop} (I : Inv X pins σ H s) (hg : Gl X x) (hm : X.mg x = some u) (h : Q u s)
    (hd : (x == ("__debug__" : Str)) = false := by decide) : wpAny (model X.prog X.w) X.A (eval (.Name x pos) X.env) Q E s :=
  Calls.Name_function_global I.ok.kind hg (Calls.loadGlobal_global (by rw [I.ok.glob]; exact I.mod.glob.keeps I.bk) hm h) hd
theorem ld_blt {E : Value → Shared → Prop} {pins : List (Addr × Obj)} {s : Shared} {σ : St} {H : Hp} {x : Str} {u : Value} {pos : Pos} {Q : Value → Shared → Prop} (I : Inv X pins σ H s) (hg : Gl X x) (hm : X.mg x = none) (hv : bootBuiltins x = some u) (h : Q u s)
    (hn : x ≠ "__name__" := by decide) (hd : (x == ("__debug__" : Str)) = false := by decide) : wpAny (model X.prog X.w) X.A (eval (.Name x pos) X.env) Q E s := by
  obtain ⟨mb, h1, h2⟩ := I.mod.blt
  exact Calls.Name_function_global I.ok.kind hg (Calls.loadGlobal_builtin (by rw [I.ok.glob]; exact I.mod.glob.keeps I.bk) hm (by rw [I.ok.blt]; exact h1.keeps I.bk) ((h2 x hn).trans hv) h) hd
/-- a module's constant, a class, a function, as a value -/
theorem pe_glob {x : Str} {v : V} {u : Value} {pos : Pos} (hg : Gl X x) (hm : X.mg x = some u) (r : RelV v u) (hd : (x == ("__debug__" : Str)) = false := by decide) : PE X (.Name x pos) (tC v) :=
  fun _ _ _ H _ I h => ld_glob I hg hm ⟨v, H, I, r, h⟩ hd
theorem pe_bltn {x : Str} {v : V} {u : Value} {pos : Pos} (hg : Gl X x) (hm : X.mg x = none) (hv : bootBuiltins x = some u) (r : RelV v u) (hn : x ≠ "__name__" := by decide) (hd : (x == ("__debug__" : Str)) = false := by decide) : PE X (.Name x pos) (tC v) :=
  fun _ _ _ H _ I h => ld_blt I hg hm hv ⟨v, H, I, r, h⟩ hn hd

/-! ### arithmetic -/
variable {a b : Expr} {ta tb : TE} {pos : Pos}
/-! ### comparisons -/
def PC (X : Cx) (op : CmpOp) (a b : Expr) (t : TE) : Prop :=
  ∀ (pins : List (Addr × Obj)) (s : Shared) (σ : St) (H : Hp) (Q : VK), Inv X pins σ H s → t σ H Q →
    wpAny (model X.prog X.w) X.A (eval a X.env) (fun v s₁ => wpAny (model X.prog X.w) X.A (eval b X.env) (fun u s₂ => wpAny (model X.prog X.w) X.A (compareOp op v u) (EP X pins σ Q) X.xe s₂) X.xe s₁) X.xe s
/-! ### and, or, not -/
variable {tA tB' : TT} {rest : List Expr}
def tAnd (t u : TT) : TT := fun σ H Q => t σ H fun c H1 => if c = true then u σ H1 Q else Q false H1
def tOr (t u : TT) : TT := fun σ H Q => t σ H fun c H1 => if c = true then Q true H1 else u σ H1 Q
def tNot (t : TT) : TT := fun σ H Q => t σ H fun c H1 => Q (!c) H1
theorem pw_and1 (ha : PT X a tA) : PW X (.BoolOp .And [a] pos) tA := by
  intro wh pins s σ H Q I h
  refine isTrue_and (thn (ha pins s σ H Q I h) fun c s1 e => ?_)
  cases c with
  | true => exact isTrue_and_nil e
  | false => exact e
theorem pw_or1 (ha : PT X a tA) : PW X (.BoolOp .Or [a] pos) tA := by
  intro wh pins s σ H Q I h
  refine isTrue_or (thn (ha pins s σ H Q I h) fun c s1 e => ?_)
  cases c with
  | false => exact isTrue_or_nil e
  | true => exact e
theorem pw_and (ha : PT X a tA) (hb : PW X (.BoolOp .And (b :: rest) pos) tB') : PW X (.BoolOp .And (a :: b :: rest) pos) (tAnd tA tB') := by
  intro wh pins s σ H Q I h
  refine isTrue_and (thn (ha pins s σ H _ I h) fun c s1 ⟨H1, I1, q1⟩ => ?_)
  cases c with
  | true => exact hb wh pins s1 σ H1 Q I1 q1
  | false => exact ⟨H1, I1, q1⟩
theorem pw_or (ha : PT X a tA) (hb : PW X (.BoolOp .Or (b :: rest) pos) tB') : PW X (.BoolOp .Or (a :: b :: rest) pos) (tOr tA tB') := by
  intro wh pins s σ H Q I h
  refine isTrue_or (thn (ha pins s σ H _ I h) fun c s1 ⟨H1, I1, q1⟩ => ?_)
  cases c with
  | true => exact ⟨H1, I1, q1⟩
  | false => exact hb wh pins s1 σ H1 Q I1 q1
theorem pt_not (ha : PT X a tA) : PT X (.UnaryOp .Not a pos) (tNot tA) := by
  intro pins s σ H Q I h
  exact isTrue_not (ha pins s σ H (fun c H1 => Q (!c) H1) I h)
/-- .. as values (bools) -/
def tAndV (ta tb : TE) : TE := fun σ H Q => ta σ H fun x H1 => ∃ c, x = .bl c ∧ if c = true then tb σ H1 Q else Q (.bl false) H1
theorem pe_one {op} {t : TE} (h : PE X a t) : PE X (.BoolOp op [a] pos) t := fun pins s σ H Q I hw => BoolOp_one (h pins s σ H Q I hw)
theorem pe_and (ha : PE X a ta) (hb : PE X (.BoolOp .And (b :: rest) pos) tb) : PE X (.BoolOp .And (a :: b :: rest) pos) (tAndV ta tb) := by
  intro pins s σ H Q I h
  refine BoolOp_and (thn (ha pins s σ H _ I h) fun v s1 ⟨x, H1, I1, r1, q1⟩ => ?_)
  obtain ⟨c, rfl, q1⟩ := q1
  cases r1
  refine wpAny_truthy_bool ?_
  cases c with
  | true => exact hb pins s1 σ H1 Q I1 q1
  | false => exact ⟨.bl false, H1, I1, rfl, q1⟩
end
end L2

namespace L2
open PySem PySem.Spec PyProof.Rows

/-! ### a list, a tuple that is read: tracked, frozen, or an object of the module -/
def SqL (K : PySem.W.Frag) (H : Hp) (a : Addr) (xs : List V) : Prop :=
  Rd H a (.lst xs) ∨
    ∃ (o : Obj) (its : Array Value) (n : Nat), K.lookup a = some o ∧ o.cls = .type "list" ∧ o.dict = none ∧ o.data = .seq its n ∧ its.size ≤ sizeLine ∧ Vals xs its.toList
def SqT (K : PySem.W.Frag) (H : Hp) (a : Addr) (xs : List V) : Prop :=
  Rd H a (.tup xs) ∨
    ∃ (o : Obj) (its : Array Value) (n : Nat), K.lookup a = some o ∧ o.cls = .type "tuple" ∧ o.data = .seq its n ∧ its.size ≤ sizeLine ∧ Vals xs its.toList
def absV : Value → Option V
  | .none => some .non
  | .bool b => some (.bl b)
  | .int i _ => some (.int i)
  | .str x _ => some (.str x)
  | .bytes b _ => some (.byt b)
  | .float b _ => some (.flt b)
  | .ref a => some (.ref a)
  | .type n => some (.ty n)
  | _ => none
theorem RelV.abs {x : V} {u : Value} (r : RelV x u) : absV u = some x := by
  cases x with
  | non => cases r; rfl
  | bl _ => cases r; rfl
  | int _ => obtain ⟨t, rfl⟩ := r; rfl
  | str _ => obtain ⟨t, rfl⟩ := r; rfl
  | byt _ => obtain ⟨t, rfl⟩ := r; rfl
  | flt _ => obtain ⟨t, rfl⟩ := r; rfl
  | ref _ => cases r; rfl
  | ty _ => cases r; rfl
theorem RelV.inj {x y : V} {u : Value} (r : RelV x u) (q : RelV y u) : x = y := Option.some.inj (r.abs.symm.trans q.abs)
theorem Vals.inj : ∀ {xs ys : List V} {us : List Value}, Vals xs us → Vals ys us → xs = ys
  | _, _, _, .nil, .nil => rfl
  | _, _, _, .cons r t, .cons r' t' => by rw [r.inj r', Vals.inj t t']
section
variable {X : Cx} {pins : List (Addr × Obj)} {σ : St} {H : Hp} {s : Shared} {a : Addr} {xs ys : List V}
theorem SqL.of {K : PySem.W.Frag} (h : H a = some (.lst xs)) : SqL K H a xs := .inl (.inl h)
theorem SqT.of {K : PySem.W.Frag} (h : H a = some (.tup xs)) : SqT K H a xs := .inl (.inl h)
theorem Inv.list (I : Inv X pins σ H s) (h : SqL X.K H a xs) : ∃ its : List Value, Vals xs its ∧ PlainL s.heap a its.toArray ∧ xs.length ≤ sizeLine := by
  rcases h with h | ⟨o, its, n, hk, hc, hd, hs, hz, r⟩
  · obtain ⟨z, its, n, r, e⟩ := h.ok I.hok
    exact ⟨its, r, ⟨_, n, e, rfl, rfl, rfl⟩, z⟩
  · refine ⟨its.toList, r, ⟨o, n, I.kIn a o hk, hc, hd, by simpa using hs⟩, ?_⟩
    have e := r.length
    simp only [Array.length_toList] at e
    omega
theorem Inv.tuple (I : Inv X pins σ H s) (h : SqT X.K H a xs) : ∃ its : List Value, Vals xs its ∧ IsTup s.heap a its.toArray ∧ xs.length ≤ sizeLine := by
  rcases h with h | ⟨o, its, n, hk, hc, hs, hz, r⟩
  · obtain ⟨z, its, r, p⟩ := h.ok I.hok
    exact ⟨its, r, p, z⟩
  · refine ⟨its.toList, r, ⟨o, I.kIn a o hk, hc, n, by simpa using hs⟩, ?_⟩
    have e := r.length
    simp only [Array.length_toList] at e
    omega
theorem Inv.list_inj (I : Inv X pins σ H s) (h : SqL X.K H a xs) (h' : SqL X.K H a ys) : xs = ys := by
  obtain ⟨its, r, ⟨o, n, e, _, _, d⟩, _⟩ := I.list h
  obtain ⟨its', r', ⟨o', n', e', _, _, d'⟩, _⟩ := I.list h'
  rw [e] at e'; cases e'
  rw [d] at d'
  injection d' with d1 _
  have : its = its' := by simpa using congrArg Array.toList d1
  subst this
  exact r.inj r'
end

/-! ### another wish about exceptions -/
abbrev Cx.wish (X : Cx) (E : Value → Shared → Prop) : Cx := { X with xe := E }
/-- no exception leaves -/
abbrev Cx.nox (X : Cx) : Cx := X.wish fun _ _ => False
theorem Cx.Ok.wish {X : Cx} (ok : X.Ok) (E : Value → Shared → Prop) : (X.wish E).Ok :=
  ⟨ok.mod, ok.kind, ok.glob, ok.blt, ok.above, ok.inj, ok.has, ok.cab, ok.hd, ok.frames, ok.stk, ok.exf, ok.bs, ok.bsz, ok.noex, ok.exfs, ok.funs, ok.frf⟩
theorem Cx.Ok.unwish {X : Cx} {E : Value → Shared → Prop} (ok : (X.wish E).Ok) : X.Ok :=
  ⟨ok.mod, ok.kind, ok.glob, ok.blt, ok.above, ok.inj, ok.has, ok.cab, ok.hd, ok.frames, ok.stk, ok.exf, ok.bs, ok.bsz, ok.noex, ok.exfs, ok.funs, ok.frf⟩
section
variable {X : Cx} {pins : List (Addr × Obj)} {σ : St} {H : Hp} {s : Shared} {E : Value → Shared → Prop}
theorem Inv.wish (I : Inv X pins σ H s) (E : Value → Shared → Prop) : Inv (X.wish E) pins σ H s := ⟨I.ok.wish E, I.os, I.bare, I.base, I.loc, I.cell, I.free, I.freeC, I.pin, I.hok, I.len⟩
theorem Inv.unwish (I : Inv (X.wish E) pins σ H s) : Inv X pins σ H s := ⟨I.ok.unwish, I.os, I.bare, I.base, I.loc, I.cell, I.free, I.freeC, I.pin, I.hok, I.len⟩
theorem SP.unwish {D : Ends} {f : Flow} {s' : Shared} (h : SP (X.wish E) pins D f s') : SP X pins D f s' := by
  cases f with
  | next => obtain ⟨σ', H', I, q⟩ := h; exact ⟨σ', H', I.unwish, q⟩
  | brk => obtain ⟨σ', H', I, q⟩ := h; exact ⟨σ', H', I.unwish, q⟩
  | cont => obtain ⟨σ', H', I, q⟩ := h; exact ⟨σ', H', I.unwish, q⟩
  | ret u => obtain ⟨v, σ', H', I, r, q⟩ := h; exact ⟨v, σ', H', I.unwish, r, q⟩
theorem PSs.nox {st : List Stmt} {t : TS} (h : PSs X.nox st t) : PSs X st t := fun pins s σ H D I hw =>
  wpAny_mono (h pins s σ H D (I.wish _) hw) (fun _ _ q => q.unwish) fun _ _ z => False.elim z
end

/-! ### blocks and small statements -/
section
variable {X : Cx} {st : Stmt} {rest : List Stmt} {t u : TS} {e : Expr} {te : TE} {pos : Pos}
def tNext : TS := fun D σ H => D.nx σ H
def tSeq (t u : TS) : TS := fun D σ H => t { D with nx := u D } σ H
theorem pss_nil : PSs X [] tNext := fun _ _ σ H _ I h => wpAny_execs_nil ⟨σ, H, I, h⟩
theorem pss_cons (h1 : PS X st t) (h2 : PSs X rest u) : PSs X (st :: rest) (tSeq t u) := by
  intro pins s σ H D I h
  refine wpAny_execs_cons (thn (h1 pins s σ H { D with nx := u D } I h) fun f s1 q => ?_)
  cases f with
  | next =>
    obtain ⟨σ', H', I', q⟩ := q
    exact h2 pins s1 σ' H' D I' q
  | ret v => exact q
  | brk => exact q
  | cont => exact q
theorem pss_one (h1 : PS X st t) : PSs X [st] t := by
  intro pins s σ H D I h
  refine wpAny_execs_cons (thn (h1 pins s σ H D I h) fun f s1 q => ?_)
  cases f with
  | next => exact wpAny_execs_nil q
  | ret v => exact q
  | brk => exact q
  | cont => exact q
/-- in a def's body nothing is shown -/
theorem Inv.quiet {pins : List (Addr × Obj)} {σ : St} {H : Hp} {s : Shared} (I : Inv X pins σ H s) : interactive X.env = false := by simp [interactive, I.ok.kind]
/-- an expression whose value is dropped -/
def tDrop (te : TE) : TS := fun D σ H => te σ H fun _ H1 => D.nx σ H1
theorem ps_expr (he : PE X e te) (hs : swapsWith e none pos.line X.env = pure false := by rfl) : PS X (.Expr e pos) (tDrop te) := by
  intro pins s σ H D I h
  exact wpAny_Expr_any (thn (he pins s σ H _ I h) fun v s1 ⟨x, H1, I1, r1, q1⟩ => ⟨σ, H1, I1, q1⟩) I.quiet hs
def tRet (te : TE) : TS := fun D σ H => te σ H D.rt
theorem ps_ret (he : PE X e te) : PS X (.Return (some e) pos) (tRet te) := by
  intro pins s σ H D I h
  exact wpAny_Return_some (thn (he pins s σ H _ I h) fun v s1 ⟨x, H1, I1, r1, q1⟩ => ⟨x, σ, H1, I1, r1, q1⟩)
def tIfS (c : TT) (t u : TS) : TS := fun D σ H => c σ H fun b H1 => if b = true then t D σ H1 else u D σ H1
theorem ps_if {c : Expr} {a b : List Stmt} {tc : TT} (hc : PT X c tc) (ha : PSs X a t) (hb : PSs X b u) : PS X (.If c a b pos) (tIfS tc t u) := by
  intro pins s σ H D I h
  refine wpAny_If (thn (hc pins s σ H _ I h) fun d s1 ⟨H1, I1, q1⟩ => ?_)
  cases d with
  | true => exact ha pins s1 σ H1 D I1 q1
  | false => exact hb pins s1 σ H1 D I1 q1
/-- code that the proof never comes to -/
def tNever : TS := fun _ _ _ => False
theorem ps_never : PS X st tNever := fun _ _ _ _ _ _ h => h.elim
end

/-! ### targets -/
abbrev TG := V → St → Hp → (St → Hp → Prop) → Prop
abbrev TGs := List V → St → Hp → (St → Hp → Prop) → Prop
def PG (X : Cx) (target : Expr) (t : TG) : Prop :=
  ∀ (pins : List (Addr × Obj)) (s : Shared) (σ : St) (H : Hp) (v : V) (u : Value) (Q : St → Hp → Prop), Inv X pins σ H s → RelV v u → t v σ H Q →
    wpAny (model X.prog X.w) X.A (assign target X.env u) (fun _ s' => ∃ σ' H', Inv X pins σ' H' s' ∧ Q σ' H') X.xe s
/-- several targets, one after another -/
def PGs (X : Cx) (ts : List Expr) (t : TGs) : Prop :=
  ∀ (pins : List (Addr × Obj)) (s : Shared) (σ : St) (H : Hp) (vs : List V) (us : List Value) (Q : St → Hp → Prop), Inv X pins σ H s → Vals vs us → t vs σ H Q →
    wpAny (model X.prog X.w) X.A (assignInOrder ((assignEach ts X.env).map (·.2)) us) (fun _ s' => ∃ σ' H', Inv X pins σ' H' s' ∧ Q σ' H') X.xe s
section
variable {X : Cx} {pos : Pos}
def gName (i : Nat) : TG := fun v σ H Q => Q (σ.set i (some v)) H
theorem pg_name {i : Nat} {x : Str} (hN : X.N.Nodup) (hi : X.N[i]? = some x) (hx : Loc X.env.scope x) (hf : X.fn x = true ∨ X.env.scope.names.lookup x = some .local := by first | exact .inl rfl | exact .inr rfl | assumption) : PG X (.Name x pos) (gName i) := by
  intro pins s σ H v u Q I r h
  exact wpAny_assign_Name (store_ok I hN hi hx r (fun s' I' => ⟨_, H, I', h⟩) hf)
def gNil : TGs := fun vs σ H Q => vs = [] ∧ Q σ H
def gCons (t : TG) (u : TGs) : TGs := fun vs σ H Q => ∃ v r, vs = v :: r ∧ t v σ H fun σ' H' => u r σ' H' Q
theorem pgs_nil : PGs X [] gNil := by
  intro pins s σ H vs us Q I r h
  obtain ⟨e, h⟩ := h
  subst e
  cases r
  exact assignInOrder_nil ⟨σ, H, I, h⟩
theorem pgs_cons {e : Expr} {es : List Expr} {t : TG} {u : TGs} (h1 : PG X e t) (h2 : PGs X es u)
    (hs : (assignEach (e :: es) X.env).map (·.2) = assign e X.env :: (assignEach es X.env).map (·.2) := by rfl) : PGs X (e :: es) (gCons t u) := by
  intro pins s σ H vs us Q I r h
  obtain ⟨v, vr, e1, h⟩ := h
  subst e1
  cases r with
  | cons r rr =>
    rw [hs]
    refine assignInOrder_cons (thn (h1 pins s σ H _ _ _ I r h) fun _ s1 ⟨σ1, H1, I1, q1⟩ => ?_)
    exact h2 pins s1 σ1 H1 _ _ Q I1 rr q1
/-- (a, b, ..) = a tuple of that length -/
def gTup (K : PySem.W.Frag) (n : Nat) (t : TGs) : TG := fun v σ H Q => ∃ a xs, v = .ref a ∧ SqT K H a xs ∧ xs.length = n ∧ t xs σ H Q
theorem pg_tup {es : List Expr} {k : Nat} {t : TGs} {n : Nat} (hc : X.calm = true) (h : PGs X es t)
    (hn : (assignEach es X.env).length = n := by rfl) (hst : (assignEach es X.env).findIdx? (·.1) = none := by rfl) : PG X (.Tuple es k pos) (gTup X.K n t) := by
  intro pins s σ H v u Q I r hw
  obtain ⟨a, xs, e1, hq, hl, hw⟩ := hw
  subst e1
  cases r
  obtain ⟨its, rv, ht, hz⟩ := I.tuple hq
  refine assign_Tuple_tuple (I.ok.hd hc) ht (by simp [hn, ← hl, rv.length]) hst fun h' hx => ?_
  have I1 : Inv X pins σ H { s with heap := h' } := I.kept (t' := s.toks) fun b o e => hx b o (Nat.ne_of_lt (Heap.lt_size e)) e
  exact h pins _ σ H xs _ Q I1 (by simpa using rv) hw
/-- target = value -/
def tAsg (te : TE) (g : TG) : TS := fun D σ H => te σ H fun x H1 => g x σ H1 D.nx
theorem ps_asg {tg e : Expr} {te : TE} {g : TG} (he : PE X e te) (hg : PG X tg g) (hs : swapsWithSole [tg] e pos.line X.env = pure false := by rfl) (hw : swappedStores [tg] e X.env = pure none := by rfl)
    (h1 : (assignEach [tg] X.env).map (·.2) = [assign tg X.env] := by rfl) : PS X (.Assign [tg] e pos) (tAsg te g) := by
  intro pins s σ H D I h
  refine wpAny_Assign_stores (thn (he pins s σ H _ I h) fun v s1 ⟨x, H1, I1, r1, q1⟩ => ?_) hs hw
  rw [h1]
  exact thn (hg pins s1 σ H1 x v _ I1 r1 q1) fun _ s2 q => q
/-- name = value -/
theorem ps_set {i : Nat} {x : Str} {e : Expr} {te : TE} {pos' : Pos} (hN : X.N.Nodup) (hi : X.N[i]? = some x) (hx : Loc X.env.scope x) (he : PE X e te) (hs : swapsWith e (some (.Name x pos')) pos.line X.env = pure false := by rfl) (hf : X.fn x = true ∨ X.env.scope.names.lookup x = some .local := by first | exact .inl rfl | exact .inr rfl | assumption) :
    PS X (.Assign [.Name x pos'] e pos) (tAsg te (gName i)) := by
  intro pins s σ H D I h
  refine wpAny_Assign_Name (thn (he pins s σ H _ I h) fun v s1 ⟨y, H1, I1, r1, q1⟩ => ?_) hs
  exact store_ok I1 hN hi hx r1 (fun s2 I2 => ⟨_, H1, I2, q1⟩) hf
end

/-! ### while -/
section
variable {X : Cx} {pos : Pos}
/-- the invariant W with its measure -/
def tWhile (c : TT) (tb : TS) : TS := fun D σ H => ∃ W : Nat → St → Hp → Prop, (∃ m, W m σ H) ∧ ∀ m σ H, W m σ H →
  c σ H fun b H1 => if b = true then ∃ N : St → Hp → Prop, (∀ σ' H', N σ' H' → ∃ m', m' < m ∧ W m' σ' H') ∧ tb { D with nx := N, ct := N, bk := D.nx } σ H1 else D.nx σ H1
theorem ps_while {c : Expr} {body : List Stmt} {tc : TT} {tb : TS} (hp : PassesOwn (model X.prog X.w) X.A X.env X.xe) (hc : PT X c tc) (hb : PSs X body tb) : PS X (.While c body [] pos) (tWhile tc tb) := by
  intro pins s σ H D I h
  obtain ⟨W, ⟨m0, w0⟩, turn⟩ := h
  refine wpAny_While (codeAny_whileLoop (fun n s' => ∃ σ' H', Inv X pins σ' H' s' ∧ W n σ' H') ?_ m0 ⟨σ, H, I, w0⟩)
  rintro n s1 ⟨σ1, H1, I1, w1⟩
  refine wpAny_passesOwn hp (thn (hc pins s1 σ1 H1 _ I1 (turn n σ1 H1 w1)) fun b s2 ⟨H2, I2, q2⟩ => ?_)
  cases b with
  | true =>
    obtain ⟨N, hN, q2⟩ := q2
    rw [if_pos rfl]
    refine wpAny_passesOwn hp (thn (hb pins s2 σ1 H2 _ I2 q2) fun f s3 q3 => ?_)
    cases f with
    | next =>
      obtain ⟨σ3, H3, I3, n3⟩ := q3
      obtain ⟨m', hm, w3⟩ := hN σ3 H3 n3
      exact ⟨m', hm, σ3, H3, I3, w3⟩
    | cont =>
      obtain ⟨σ3, H3, I3, n3⟩ := q3
      obtain ⟨m', hm, w3⟩ := hN σ3 H3 n3
      exact ⟨m', hm, σ3, H3, I3, w3⟩
    | brk => exact q3
    | ret v => exact q3
  | false =>
    rw [if_neg Bool.false_ne_true]
    exact wpAny_execs_nil ⟨σ1, H2, I2, q2⟩
end

/-! ### what a loop or a comprehension walks -/
/-- at turn i: it yields x (the heap may grow), or it stops -/
structure It where
  go : Nat → Hp → Prop
  yld : Nat → Hp → V → Hp → Prop
  stop : Nat → Hp → Prop
/-- the iterator's own objects may turn: they are not the frame's, not pinned, younger than the entry (or a comprehension's own) -/
def FpOk (X : Cx) (pins : List (Addr × Obj)) (H : Hp) (b : Addr) : Prop :=
  H b = none ∧ b ≠ X.env.locals ∧ b ∉ X.fs ∧ (b ∈ X.ex ∨ X.s₀.heap.objs.size ≤ b) ∧ (∀ x c, X.env.cells.lookup x = some c → c ≠ b) ∧ ∀ p ∈ X.pn ++ pins, p.1 ≠ b
theorem Inv.fpOk {X : Cx} {pins : List (Addr × Obj)} {σ : St} {H H' : Hp} {s : Shared} {b : Addr} (I : Inv X pins σ H s) (hb : s.heap.objs.size ≤ b) (hn : H' b = none) : FpOk X pins H' b := by
  refine ⟨hn, Nat.ne_of_gt (Nat.lt_of_lt_of_le I.lt hb), I.nofs hb, .inr (Nat.le_trans I.sz hb), fun x c e z => ?_, fun p hp z => ?_⟩
  · obtain ⟨v, q⟩ := I.cell x c e
    exact absurd (Nat.lt_of_lt_of_le q.lt (by rw [z]; exact hb)) (Nat.lt_irrefl _)
  · exact absurd (Nat.lt_of_lt_of_le (Heap.lt_size (I.pin p hp).1) (by rw [z]; exact hb)) (Nat.lt_irrefl _)
structure Turn (P : Program) (w : World) (K : PySem.W.Frag) (tg : Expr) (J : It) (fp : List Addr) (it : Addr) (tn : Nat → Heap → Prop) : Prop where
  mem : it ∈ fp
  obj : ∀ i h, tn i h → ∀ b ∈ fp, ∃ o, h.get? b = some o ∧ ∀ v, o.data ≠ .cell v
  keep : ∀ i h h', tn i h → (∀ b ∈ fp, ∀ o, h.get? b = some o → h'.get? b = some o) → tn i h'
  item : ∀ (X : Cx), X.prog = P → X.w = w → X.K = K → X.calm = true → ∀ (i : Nat) (pins : List (Addr × Obj)) (s : Shared) (σ : St) (H : Hp) (E : Value → Shared → Prop), Inv X pins σ H s → (∀ b ∈ fp, FpOk X pins H b) → tn i s.heap → J.go i H →
    wpAny (model P w) X.A (pyNext (.ref it)) (fun r s1 => ∃ u, r = some u ∧
      wpAny (model P w) X.A (letOwnedTupleGo tg (.ref it) u) (fun _ s2 => ∃ x H', Inv X pins σ H' s2 ∧ RelV x u ∧ J.yld i H x H' ∧ tn (i + 1) s2.heap ∧ ∀ b ∈ fp, H' b = none) E s1) E s
  done : ∀ (X : Cx), X.prog = P → X.w = w → X.K = K → X.calm = true → ∀ (i : Nat) (pins : List (Addr × Obj)) (s : Shared) (σ : St) (H : Hp) (E : Value → Shared → Prop), Inv X pins σ H s → (∀ b ∈ fp, FpOk X pins H b) → tn i s.heap → J.stop i H →
    wpAny (model P w) X.A (pyNext (.ref it)) (fun r s1 => r = none ∧ Inv X pins σ H s1) E s
  self : ∀ (A : Around) (i : Nat) (s : Shared) (Q : Value → Shared → Prop) (E : Value → Shared → Prop), tn i s.heap → Q (.ref it) s → wpAny (model P w) A (pyIter (.ref it)) Q E s
abbrev TI := St → Hp → (It → Hp → Prop) → Prop
/-- an iterator has come -/
def PIE (X : Cx) (pins : List (Addr × Obj)) (σ : St) (tg : Expr) (R : It → Hp → Prop) (itv : Value) (s2 : Shared) : Prop :=
  ∃ (it : Addr) (fp : List Addr) (tn : Nat → Heap → Prop) (J : It) (H' : Hp), itv = .ref it ∧ Inv X pins σ H' s2 ∧ Turn X.prog X.w X.K tg J fp it tn ∧ tn 0 s2.heap ∧ (∀ b ∈ fp, FpOk X pins H' b) ∧ R J H'
def PI (X : Cx) (tg iter : Expr) (wi : TI) : Prop :=
  ∀ (pins : List (Addr × Obj)) (s : Shared) (σ : St) (H : Hp) (R : It → Hp → Prop), Inv X pins σ H s → wi σ H R →
    wpAny (model X.prog X.w) X.A (eval iter X.env) (fun v s1 => wpAny (model X.prog X.w) X.A (pyIter v) (PIE X pins σ tg R) X.xe s1) X.xe s

/-- the step ahead of the store is nothing for an iterator that keeps no tuple -/
theorem go_of {M : Model} {A : Around} {E : Value → Shared → Prop} {s : Shared} {tg : Expr} {it : Addr} {u : Value} {o : Obj} {n : String} {vs : Array Value} {Q : Unit → Shared → Prop} (ho : s.heap.get? it = some o) (hc : o.cls = .type n) (hd : o.data = .fields vs)
    (hn : ["enumerate", "zip", "dict_itemiterator", "dict_reverseitemiterator", "odict_iterator", "itertools.zip_longest", "itertools.pairwise"].contains n = false) (hQ : Q () s) : wpAny M A (letOwnedTupleGo tg (.ref it) u) Q E s := by
  unfold letOwnedTupleGo
  cases tg <;> first
    | exact wpAny_pure hQ
    | (cases u <;> first
        | exact wpAny_pure hQ
        | (refine wpAny_bind (wpAny_load ho ?_)
           rw [hc, hd]
           show wpAny M A (if (["enumerate", "zip", "dict_itemiterator", "dict_reverseitemiterator", "odict_iterator", "itertools.zip_longest", "itertools.pairwise"].contains n && vs[0]? == some (rawInt _)) = true then _ else _) Q E s
           rw [if_neg (by intro h; rw [hn, Bool.false_and] at h; cases h)]
           exact wpAny_pure hQ))

/-- the list at a, as it stands at each turn (a loop may append to it) -/
def Itl (K : PySem.W.Frag) (a : Addr) : It :=
  ⟨fun i H => ∃ xs x, SqL K H a xs ∧ xs[i]? = some x, fun i H x H' => H' = H ∧ ∀ xs, SqL K H a xs → xs[i]? = some x, fun i H => ∃ xs, SqL K H a xs ∧ xs.length ≤ i⟩
/-- lo, lo + 1, .. (n of them) -/
def Itr (lo : Int) (n : Nat) : It := ⟨fun i _ => i < n, fun i H x H' => H' = H ∧ x = .int (lo + i), fun i _ => n ≤ i⟩
theorem turn_list {P : Program} {w : World} {K : PySem.W.Frag} {tg : Expr} (a it : Addr) : Turn P w K tg (Itl K a) [it] it (fun i h => h.IsListIter it a i) where
  mem := by simp
  obj := fun i h st b hb => by
    have e : b = it := by simpa using hb
    subst e
    obtain ⟨o, e, c, d⟩ := st
    exact ⟨o, e, fun v z => by rw [d] at z; cases z⟩
  keep := fun i h h' st k => st.at fun o e => k it (by simp) o e
  item := by
    intro X hP hw hK hc i pins s σ H E I hf st hg
    subst hP hw hK
    obtain ⟨xs, x, hq, hx⟩ := hg
    obtain ⟨its, rv, p, hz⟩ := I.list hq
    obtain ⟨u, hu, ru⟩ := rv.get hx
    obtain ⟨f0, f1, f2, f3, f4, f5⟩ := hf it (by simp)
    refine wpAny_pyNext_list_item st p.isList (x := u) (by simpa using hu) fun h' st' sb => ?_
    have I1 : Inv X pins σ H { s with heap := h' } := I.turned (t' := s.toks) (fun b o hb e => (sb.2 b hb).trans e) f0 f1 f3 f4 f5
    obtain ⟨o, e, c, d⟩ := id st'
    exact ⟨u, rfl, go_of (s := { s with heap := h' }) e c d (by decide) ⟨x, H, I1, ru, ⟨rfl, fun ys hy => by rw [I.list_inj hy hq]; exact hx⟩, st', fun b hb => (hf b hb).1⟩⟩
  done := by
    intro X hP hw hK hc i pins s σ H E I hf st hg
    subst hP hw hK
    obtain ⟨xs, hq, hx⟩ := hg
    obtain ⟨its, rv, p, hz⟩ := I.list hq
    obtain ⟨f0, f1, f2, f3, f4, f5⟩ := hf it (by simp)
    have hl := rv.length
    exact wpAny_pyNext_list_end (I.ok.hd hc) st p.isList (by simp; omega) fun h' eb => ⟨rfl, I.turned (t' := s.toks) (fun b o hb e => eb b o hb e) f0 f1 f3 f4 f5⟩
  self := fun _ _ _ _ _ st h => wpAny_pyIter_listiter st h
theorem turn_range {P : Program} {w : World} {K : PySem.W.Frag} {tg : Expr} (it : Addr) (lo : Int) (n : Nat) : Turn P w K tg (Itr lo n) [it] it (fun i h => IsRangeIter h it (lo + (i : Nat) * 1) ((n : Int) - (i : Nat)) 1) where
  mem := by simp
  obj := fun i h st b hb => by
    have e : b = it := by simpa using hb
    subst e
    exact ⟨_, st, fun v z => by
      have z' : Data.fields _ = Data.cell v := z
      cases z'⟩
  keep := fun i h h' st k => k it (by simp) _ st
  item := by
    intro X hP hw hK hc i pins s σ H E I hf st hg
    subst hP hw hK
    obtain ⟨f0, f1, f2, f3, f4, f5⟩ := hf it (by simp)
    have W := Walks.range (prog := X.prog) (w := X.w) (I.ok.hd hc) it lo 1 n
    refine W.item i s _ _ hg st fun v h' tk hv st' kk => ?_
    obtain ⟨t, rfl⟩ := hv
    have I1 : Inv X pins σ H { s with heap := h', toks := tk } := I.turned (fun b o hb e => kk b o (by simpa using hb) e) f0 f1 f3 f4 f5
    refine ⟨_, rfl, go_of (s := { s with heap := h', toks := tk }) (n := "range_iterator") st' rfl rfl (by decide) ⟨.int (lo + i), H, I1, ⟨t, ?_⟩, ⟨rfl, rfl⟩, st', fun b hb => (hf b hb).1⟩⟩
    rw [Int.mul_one]
  done := by
    intro X hP hw hK hc i pins s σ H E I hf st hg
    subst hP hw hK
    obtain ⟨f0, f1, f2, f3, f4, f5⟩ := hf it (by simp)
    exact wpAny_pyNext_range_end (I.ok.hd hc) st (by have : n ≤ i := hg; omega) fun h' eb => ⟨rfl, I.turned (t' := s.toks) (fun b o hb e => eb b o hb e) f0 f1 f3 f4 f5⟩
  self := fun _ _ _ _ _ st h => wpAny_pyIter_rangeiter st h
end L2

namespace L2
open PySem PySem.Spec PyProof.Rows
section
variable {X : Cx} {tg : Expr}
def iList (K : PySem.W.Frag) (tl : TE) : TI := fun σ H R => tl σ H fun x H1 => ∃ a, x = .ref a ∧ (∃ xs, SqL K H1 a xs) ∧ R (Itl K a) H1
theorem pi_list {l : Expr} {tl : TE} (hl : PE X l tl) : PI X tg l (iList X.K tl) := by
  intro pins s σ H R I h
  refine thn (hl pins s σ H _ I h) fun v s1 ⟨x, H1, I1, r1, q1⟩ => ?_
  obtain ⟨a, e, ⟨xs, hq⟩, q⟩ := q1
  subst e
  cases r1
  obtain ⟨its, rv, p, hz⟩ := I1.list hq
  refine wpAny_pyIter_list p.isList ?_
  refine ⟨s1.heap.objs.size, [s1.heap.objs.size], _, _, H1, rfl, I1.kept (t' := s1.toks) fun b o e => Heap.get?_push_of_some _ e, turn_list a _, ⟨_, Heap.get?_push_size _ rfl, rfl, rfl⟩, fun b hb => ?_, q⟩
  have e : b = s1.heap.objs.size := by simpa using hb
  subst e
  exact I1.fpOk (Nat.le_refl _) (I1.hok.fresh (Nat.le_refl _))
/-- a range object just made, walked -/
theorem range_it {pins : List (Addr × Obj)} {σ : St} {H : Hp} {s : Shared} {R : It → Hp → Prop} {E : Value → Shared → Prop} {lo hi : Int} {t u v : Tok} {tk : Nat} (I : Inv X pins σ H s) (h1 : -(2 ^ 62) ≤ lo) (h2 : lo < 2 ^ 62) (h3 : -(2 ^ 62) ≤ hi) (h4 : hi < 2 ^ 62)
    (q : R (Itr lo (hi - lo).toNat) H) : wpAny (model X.prog X.w) X.A (pyIter (.ref s.heap.objs.size)) (PIE X pins σ tg R) E { s with heap := s.heap.push { cls := .type "range", data := .fields #[.int lo t, .int hi u, .int 1 v] }, toks := tk } := by
  refine wpAny_pyIter_range (IsRange.new ..) (small_one h1 h2 h3 h4) ?_
  have I1 : Inv X pins σ H { s with heap := s.heap.push { cls := .type "range", data := .fields #[.int lo t, .int hi u, .int 1 v] }, toks := tk } := I.kept fun b o e => Heap.get?_push_of_some _ e
  refine ⟨(s.heap.push { cls := .type "range", data := .fields #[.int lo t, .int hi u, .int 1 v] }).objs.size, [(s.heap.push { cls := .type "range", data := .fields #[.int lo t, .int hi u, .int 1 v] }).objs.size], _, _, H, rfl,
    I1.kept (t' := tk) fun b o e => Heap.get?_push_of_some _ e, turn_range _ lo (hi - lo).toNat, ?_, fun b hb => ?_, q⟩
  · have e1 : lo + ((0 : Nat) : Int) * 1 = lo := by simp
    have e2 : (((hi - lo).toNat : Nat) : Int) - ((0 : Nat) : Int) = Builtin.Range.rangeSize lo hi 1 := by rw [rangeSize_one]; split <;> omega
    show IsRangeIter _ _ (lo + ((0 : Nat) : Int) * 1) ((((hi - lo).toNat : Nat) : Int) - ((0 : Nat) : Int)) 1
    rw [e1, e2]
    exact Heap.get?_push_size _ rfl
  · have e : b = (s.heap.push { cls := .type "range", data := .fields #[.int lo t, .int hi u, .int 1 v] }).objs.size := by simpa using hb
    subst e
    exact I1.fpOk (Nat.le_refl _) (I1.hok.fresh (Nat.le_refl _))
def iRng1 (ta : TA) : TI := fun σ H R => ta σ H fun vs H1 => ∃ j : Int, vs = [.int j] ∧ -(2 ^ 62) ≤ j ∧ j < 2 ^ 62 ∧ R (Itr 0 j.toNat) H1
theorem pi_range1 {a : Expr} {ta : TA} {p pos : Pos} (hg : Gl X "range") (hm : X.mg "range" = none) (ha : PA X [a] ta) (hs : starEach [a] X.env = [(false, eval a X.env)] := by rfl) : PI X tg (.Call (.Name "range" p) [a] [] pos) (iRng1 ta) := by
  intro pins s σ H R I h
  refine Call_ (ld_blt I hg hm boot_range (PyProof.Rows.callWith_type1 (thn (ha pos pins s σ H _ I h) fun us s1 ⟨vs, H1, I1, r1, q1⟩ => ?_) hs rfl))
  obtain ⟨j, e, q1, q2, q⟩ := q1
  subst e
  cases r1 with
  | cons r rr =>
    cases rr
    obtain ⟨t, rfl⟩ := r
    exact call_range_1 (range_it I1 (by omega) (by omega) q1 q2 (by simpa using q))
/-! ### for -/
/-- W: the invariant by the turn and a measure; N: what the body is to reach -/
def tFor (wi : TI) (g : TG) (tb : TS) : TS := fun D σ H => wi σ H fun J H1 => ∃ W : Nat → Nat → St → Hp → Prop, (∃ m, W 0 m σ H1) ∧ ∀ i m σ H, W i m σ H →
  (J.stop i H ∧ D.nx σ H) ∨ (J.go i H ∧ ∃ N : St → Hp → Prop, (∀ σ' H', N σ' H' → ∃ m', m' < m ∧ W (i + 1) m' σ' H') ∧ ∀ x H', J.yld i H x H' → g x σ H' fun σ2 H2 => tb { D with nx := N, ct := N, bk := D.nx } σ2 H2)
/-- the records at fp as they stand -/
def pinsAt (fp : List Addr) (h : Heap) : List (Addr × Obj) := fp.filterMap fun b => (h.get? b).map fun o => (b, o)
theorem mem_pinsAt {fp : List Addr} {h : Heap} {b : Addr} {o : Obj} (hb : b ∈ fp) (e : h.get? b = some o) : (b, o) ∈ pinsAt fp h := List.mem_filterMap.mpr ⟨b, hb, by rw [e]; rfl⟩
theorem of_pinsAt {fp : List Addr} {h : Heap} {p : Addr × Obj} (hp : p ∈ pinsAt fp h) : p.1 ∈ fp ∧ h.get? p.1 = some p.2 := by
  obtain ⟨b, hb, e⟩ := List.mem_filterMap.mp hp
  cases q : h.get? b with
  | none => rw [q] at e; cases e
  | some o =>
    rw [q] at e
    have e' : (b, o) = p := Option.some.inj e
    subst e'
    exact ⟨hb, q⟩
theorem Inv.pinned {pins : List (Addr × Obj)} {σ : St} {H : Hp} {s : Shared} {fp : List Addr} (I : Inv X pins σ H s) (hf : ∀ b ∈ fp, FpOk X pins H b) (ho : ∀ b ∈ fp, ∃ o, s.heap.get? b = some o ∧ ∀ v, o.data ≠ .cell v) : Inv X (pins ++ pinsAt fp s.heap) σ H s :=
  I.pins_of fun p hp => (List.mem_append.mp hp).elim (fun z => I.pin p (List.mem_append_right _ z)) fun z => by
    obtain ⟨hb, e⟩ := of_pinsAt z
    obtain ⟨f0, f1, f2, _⟩ := hf p.1 hb
    obtain ⟨o, e', d⟩ := ho p.1 hb
    rw [e] at e'; cases e'
    exact ⟨e, f0, f1, f2, d⟩
theorem Inv.unpinned {pins pl : List (Addr × Obj)} {σ : St} {H : Hp} {s : Shared} (I : Inv X (pins ++ pl) σ H s) : Inv X pins σ H s := I.pins_of fun p hp => I.pin p (List.mem_append_right _ (List.mem_append_left _ hp))
theorem ps_for {iter : Expr} {body : List Stmt} {wi : TI} {g : TG} {tb : TS} {pos : Pos} (hp : PassesOwn (model X.prog X.w) X.A X.env X.xe) (hc : X.calm = true) (hi : PI X tg iter wi) (hg : PG X tg g) (hb : PSs X body tb)
    (hs : ∀ x, foldedSetIterable iter X.env x = pure x := by intro _; rfl) : PS X (.For tg iter body [] pos) (tFor wi g tb) := by
  intro pins s σ H D I h
  refine wpAny_For (thn (hi pins s σ H _ I h) fun v s1 h1 => thn h1 fun itv s2 h2 => ?_) hs
  obtain ⟨it, fp, tn, J, H2, e, I2, T, st2, f2, W, ⟨m0, w0⟩, turn⟩ := h2
  subst e
  -- what stays true of the iterator's objects through the loop
  have stat : ∀ {H' : Hp}, (∀ b ∈ fp, H' b = none) → ∀ b ∈ fp, FpOk X pins H' b := fun hn b hb => ⟨hn b hb, (f2 b hb).2⟩
  refine codeAny_forLoop_any (fun n s' => ∃ i σ' H', Inv X pins σ' H' s' ∧ tn i s'.heap ∧ (∀ b ∈ fp, H' b = none) ∧ W i n σ' H') ?_ m0 ⟨0, σ, H2, I2, st2, fun b hb => (f2 b hb).1, w0⟩
  rintro n s3 ⟨i, σ3, H3, I3, st3, fr3, w3⟩
  rcases turn i n σ3 H3 w3 with ⟨stop, qn⟩ | ⟨go, N, hN, step⟩
  · refine wpAny_passesOwn hp (thn (T.done X rfl rfl rfl hc i pins s3 σ3 H3 X.xe I3 (stat fr3) st3 stop) fun r s4 ⟨hr, I4⟩ => ?_)
    subst hr
    exact wpAny_execs_nil ⟨σ3, H3, I4, qn⟩
  · refine wpAny_passesOwn hp (thn (T.item X rfl rfl rfl hc i pins s3 σ3 H3 X.xe I3 (stat fr3) st3 go) fun r s4 ⟨u, hr, h4⟩ => ?_)
    subst hr
    refine wpAny_passesOwn hp (thn h4 fun _ s5 ⟨x, H5, I5, r5, y5, st5, fr5⟩ => ?_)
    have I5' := I5.pinned (stat fr5) (T.obj _ _ st5)
    refine wpAny_passesOwn hp (thn (hg _ s5 σ3 H5 x u _ I5' r5 (step x H5 y5)) fun _ s6 ⟨σ6, H6, I6, q6⟩ => ?_)
    refine wpAny_passesOwn hp (thn (hb _ s6 σ6 H6 _ I6 q6) fun f s7 q7 => ?_)
    have again : ∀ {σ7 : St} {H7 : Hp}, Inv X (pins ++ pinsAt fp s5.heap) σ7 H7 s7 → N σ7 H7 → ∃ m, m < n ∧ ∃ i σ' H', Inv X pins σ' H' s7 ∧ tn i s7.heap ∧ (∀ b ∈ fp, H' b = none) ∧ W i m σ' H' := fun {σ7 H7} I7 n7 => by
      obtain ⟨m', hm, w7⟩ := hN σ7 H7 n7
      refine ⟨m', hm, i + 1, σ7, H7, I7.unpinned, T.keep _ _ _ st5 fun b hb o e => (I7.pin (b, o) (List.mem_append_right _ (List.mem_append_right _ (mem_pinsAt hb e)))).1, fun b hb => ?_, w7⟩
      obtain ⟨o, e, d⟩ := T.obj _ _ st5 b hb
      exact (I7.pin (b, o) (List.mem_append_right _ (List.mem_append_right _ (mem_pinsAt hb e)))).2.1
    cases f with
    | next => obtain ⟨σ7, H7, I7, n7⟩ := q7; exact again I7 n7
    | cont => obtain ⟨σ7, H7, I7, n7⟩ := q7; exact again I7 n7
    | brk => obtain ⟨σ7, H7, I7, q7⟩ := q7; exact ⟨σ7, H7, I7.unpinned, q7⟩
    | ret v => obtain ⟨x7, σ7, H7, I7, r7, q7⟩ := q7; exact ⟨x7, σ7, H7, I7.unpinned, r7, q7⟩
end

/-! ### the forms one uses -/
/-- over a list that the body leaves as it is -/
theorem for_list {K : PySem.W.Frag} {a : Addr} {xs : List V} {g : TG} {tb : TS} {D : Ends} {σ : St} {H : Hp} (Pv : Nat → St → Hp → Prop) (h0 : Pv 0 σ H) (hl : ∀ i σ H, i ≤ xs.length → Pv i σ H → SqL K H a xs)
    (hs : ∀ i x σ H, xs[i]? = some x → Pv i σ H → g x σ H fun σ2 H2 => tb { D with nx := Pv (i + 1), ct := Pv (i + 1), bk := D.nx } σ2 H2) (hd : ∀ σ H, Pv xs.length σ H → D.nx σ H) :
    ∃ W : Nat → Nat → St → Hp → Prop, (∃ m, W 0 m σ H) ∧ ∀ i m σ H, W i m σ H →
      ((Itl K a).stop i H ∧ D.nx σ H) ∨ ((Itl K a).go i H ∧ ∃ N : St → Hp → Prop, (∀ σ' H', N σ' H' → ∃ m', m' < m ∧ W (i + 1) m' σ' H') ∧ ∀ x H', (Itl K a).yld i H x H' → g x σ H' fun σ2 H2 => tb { D with nx := N, ct := N, bk := D.nx } σ2 H2) := by
  refine ⟨fun i m σ H => m = xs.length - i ∧ i ≤ xs.length ∧ Pv i σ H, ⟨xs.length, by simp, Nat.zero_le _, h0⟩, ?_⟩
  rintro i m σ H ⟨rfl, hi, p⟩
  have q := hl i σ H hi p
  by_cases hlt : i < xs.length
  · refine .inr ⟨⟨xs, xs[i], q, by simp [hlt]⟩, Pv (i + 1), fun σ' H' p' => ⟨xs.length - (i + 1), by omega, rfl, hlt, p'⟩, fun x H' y => ?_⟩
    obtain ⟨e, y⟩ := y
    subst e
    exact hs i x σ _ (y xs q) p
  · have e : i = xs.length := by omega
    subst e
    exact .inl ⟨⟨xs, q, Nat.le_refl _⟩, hd σ H p⟩
theorem for_range {lo : Int} {n : Nat} {g : TG} {tb : TS} {D : Ends} {σ : St} {H : Hp} (Pv : Nat → St → Hp → Prop) (h0 : Pv 0 σ H)
    (hs : ∀ i σ H, i < n → Pv i σ H → g (.int (lo + i)) σ H fun σ2 H2 => tb { D with nx := Pv (i + 1), ct := Pv (i + 1), bk := D.nx } σ2 H2) (hd : ∀ σ H, Pv n σ H → D.nx σ H) :
    ∃ W : Nat → Nat → St → Hp → Prop, (∃ m, W 0 m σ H) ∧ ∀ i m σ H, W i m σ H →
      ((Itr lo n).stop i H ∧ D.nx σ H) ∨ ((Itr lo n).go i H ∧ ∃ N : St → Hp → Prop, (∀ σ' H', N σ' H' → ∃ m', m' < m ∧ W (i + 1) m' σ' H') ∧ ∀ x H', (Itr lo n).yld i H x H' → g x σ H' fun σ2 H2 => tb { D with nx := N, ct := N, bk := D.nx } σ2 H2) := by
  refine ⟨fun i m σ H => m = n - i ∧ i ≤ n ∧ Pv i σ H, ⟨n, by simp, Nat.zero_le _, h0⟩, ?_⟩
  rintro i m σ H ⟨rfl, hi, p⟩
  by_cases hlt : i < n
  · refine .inr ⟨hlt, Pv (i + 1), fun σ' H' p' => ⟨n - (i + 1), by omega, rfl, hlt, p'⟩, fun x H' y => ?_⟩
    obtain ⟨e, y⟩ := y
    subst e y
    exact hs i σ _ hlt p
  · have e : i = n := by omega
    subst e
    exact .inl ⟨Nat.le_refl _, hd σ H p⟩
end L2

namespace L2
open PySem PySem.Spec PyProof.Rows

abbrev R2 := V → V → Hp → VK → Prop
/-- a two-place operation on values: f is binaryOp op, inplaceOp op or compareOp op -/
def OpR (X : Cx) (f : Value → Value → Sem Value) (r : R2) : Prop :=
  ∀ (pins : List (Addr × Obj)) (s : Shared) (σ : St) (H : Hp) (x y : V) (v u : Value) (Q : VK), Inv X pins σ H s → RelV x v → RelV y u → r x y H Q →
    wpAny (model X.prog X.w) X.A (f v u) (EP X pins σ Q) X.xe s
/-- a one-place operation -/
def UnR (X : Cx) (f : Value → Sem Value) (r : V → Hp → VK → Prop) : Prop :=
  ∀ (pins : List (Addr × Obj)) (s : Shared) (σ : St) (H : Hp) (x : V) (v : Value) (Q : VK), Inv X pins σ H s → RelV x v → r x H Q →
    wpAny (model X.prog X.w) X.A (f v) (EP X pins σ Q) X.xe s
/-- a call of a value that is known (a builtin, a type) with values -/
def CallR (X : Cx) (f : Value) (r : List V → Hp → VK → Prop) : Prop :=
  ∀ (pins : List (Addr × Obj)) (s : Shared) (σ : St) (H : Hp) (xs : List V) (us : List Value) (Q : VK), Inv X pins σ H s → Vals xs us → r xs H Q →
    wpAny (model X.prog X.w) X.A (call f us) (EP X pins σ Q) X.xe s
/-- a value's truth -/
def TruR (X : Cx) (r : V → Hp → (Bool → Hp → Prop) → Prop) : Prop :=
  ∀ (pins : List (Addr × Obj)) (s : Shared) (σ : St) (H : Hp) (x : V) (v : Value) (Q : Bool → Hp → Prop), Inv X pins σ H s → RelV x v → r x H Q →
    wpAny (model X.prog X.w) X.A (truthy v) (TP X pins σ Q) X.xe s

def tOp (r : R2) (ta tb : TE) : TE := fun σ H Q => ta σ H fun x H1 => tb σ H1 fun y H2 => r x y H2 Q
def tUn (r : V → Hp → VK → Prop) (ta : TE) : TE := fun σ H Q => ta σ H fun x H1 => r x H1 Q
/-- ints in, under C, and a value out -/
def rI (C : Int → Int → Prop) (g : Int → Int → V) : R2 := fun x y H Q => ∃ i j, x = .int i ∧ y = .int j ∧ C i j ∧ Q (g i j) H
def rI0 (g : Int → Int → V) : R2 := fun x y H Q => ∃ i j, x = .int i ∧ y = .int j ∧ Q (g i j) H
def rU (g : Int → V) : V → Hp → VK → Prop := fun x H Q => ∃ i, x = .int i ∧ Q (g i) H

section
variable {X : Cx} {a b c : Expr} {ta tb tc : TE} {pos : Pos}

theorem binT (ha : PE X a ta) (hb : PE X b tb) {pins : List (Addr × Obj)} {s : Shared} {σ : St} {H : Hp} {R : V → V → Hp → Prop} (I : Inv X pins σ H s)
    (h : ta σ H fun x H1 => tb σ H1 fun y H2 => R x y H2) {Q : Value → Shared → Prop} {f : Value → Value → Sem Value}
    (hf : ∀ v u s2 x y H2, Inv X pins σ H2 s2 → RelV x v → RelV y u → R x y H2 → wpAny (model X.prog X.w) X.A (f v u) Q X.xe s2) :
    wpAny (model X.prog X.w) X.A (eval a X.env) (fun v s₁ => wpAny (model X.prog X.w) X.A (eval b X.env) (fun u s₂ => wpAny (model X.prog X.w) X.A (f v u) Q X.xe s₂) X.xe s₁) X.xe s := by
  refine thn (ha pins s σ H _ I h) fun v s1 ⟨x, H1, I1, r1, q1⟩ => ?_
  refine thn (hb pins s1 σ H1 _ I1 q1) fun u s2 ⟨y, H2, I2, r2, q2⟩ => ?_
  exact hf v u s2 x y H2 I2 r1 r2 q2

theorem pe_op {op : Operator} {r : R2} (ho : OpR X (binaryOp op) r) (ha : PE X a ta) (hb : PE X b tb) : PE X (.BinOp a op b pos) (tOp r ta tb) := by
  intro pins s σ H Q I h
  exact wpAny_BinOp (binT ha hb I h fun v u s2 x y H2 I2 rx ry q => ho pins s2 σ H2 x y v u Q I2 rx ry q)
theorem pe_un {op : UnaryOp} {r : V → Hp → VK → Prop} (ho : UnR X (unaryOp op) r) (ha : PE X a ta) : PE X (.UnaryOp op a pos) (tUn r ta) := by
  intro pins s σ H Q I h
  exact UnaryOp_ (thn (ha pins s σ H _ I h) fun v s1 ⟨x, H1, I1, r1, q1⟩ => ho pins s1 σ H1 x v Q I1 r1 q1)
/-! ### ints -/
theorem opI {f : Value → Value → Sem Value} {C : Int → Int → Prop} {g : Int → Int → Int}
    (rule : ∀ (i j : Int) (t u : Tok) (s : Shared) (Q : Value → Shared → Prop) (E : Value → Shared → Prop), C i j → Q (.int (g i j) s.toks) { s with toks := s.toks + 1 } → wpAny (model X.prog X.w) X.A (f (.int i t) (.int j u)) Q E s) :
    OpR X f (rI C fun i j => .int (g i j)) := by
  intro pins s σ H x y v u Q I rx ry h
  obtain ⟨i, j, rfl, rfl, hc, q⟩ := h
  obtain ⟨t, rfl⟩ := rx
  obtain ⟨t', rfl⟩ := ry
  exact rule i j t t' s _ _ hc ⟨.int (g i j), H, I.tok _, ⟨_, rfl⟩, q⟩
theorem opI0 {f : Value → Value → Sem Value} {g : Int → Int → Int}
    (rule : ∀ (i j : Int) (t u : Tok) (s : Shared) (Q : Value → Shared → Prop) (E : Value → Shared → Prop), Q (.int (g i j) s.toks) { s with toks := s.toks + 1 } → wpAny (model X.prog X.w) X.A (f (.int i t) (.int j u)) Q E s) :
    OpR X f (rI0 fun i j => .int (g i j)) := by
  intro pins s σ H x y v u Q I rx ry h
  obtain ⟨i, j, rfl, rfl, q⟩ := h
  obtain ⟨t, rfl⟩ := rx
  obtain ⟨t', rfl⟩ := ry
  exact rule i j t t' s _ _ ⟨.int (g i j), H, I.tok _, ⟨_, rfl⟩, q⟩
theorem opB0 {f : Value → Value → Sem Value} {g : Int → Int → Bool}
    (rule : ∀ (i j : Int) (t u : Tok) (s : Shared) (Q : Value → Shared → Prop) (E : Value → Shared → Prop), Q (.bool (g i j)) s → wpAny (model X.prog X.w) X.A (f (.int i t) (.int j u)) Q E s) :
    OpR X f (rI0 fun i j => .bl (g i j)) := by
  intro pins s σ H x y v u Q I rx ry h
  obtain ⟨i, j, rfl, rfl, q⟩ := h
  obtain ⟨t, rfl⟩ := rx
  obtain ⟨t', rfl⟩ := ry
  exact rule i j t t' s _ _ ⟨.bl (g i j), H, I, rfl, q⟩

def CDiv (i j : Int) : Prop := 0 < j ∧ j < 1073741824
def CPow (i j : Int) : Prop := 0 ≤ j ∧ j ≤ 1000000 ∧ i.natAbs < 2 ^ 64
def CMul (i j : Int) : Prop := (-(2 ^ 64) < i ∧ i < 2 ^ 64) ∨ (-(2 ^ 64) < j ∧ j < 2 ^ 64)
theorem CMul.ok {i j : Int} (h : CMul i j) : IntMulOk i j := by
  rcases h with ⟨h1, h2⟩ | ⟨h1, h2⟩
  · exact .of_left (intBits_le_64 h1 h2)
  · exact .of_right (intBits_le_64 h1 h2)
theorem op_add : OpR X (binaryOp .Add) (rI0 fun i j => .int (i + j)) := opI0 fun _ _ _ _ _ _ _ q => add_int q
theorem op_sub : OpR X (binaryOp .Sub) (rI0 fun i j => .int (i - j)) := opI0 fun _ _ _ _ _ _ _ q => sub_int q
theorem op_mul : OpR X (binaryOp .Mult) (rI CMul fun i j => .int (i * j)) := opI fun _ _ _ _ _ _ _ hc q => mul_int q hc.ok
/-- // by a positive divisor -/
theorem op_fdiv : OpR X (binaryOp .FloorDiv) (rI CDiv fun i j => .int (i / j)) := opI fun i j _ _ _ _ _ hc q => by
  have h1 : (0 : Int) < j := hc.1
  have h2 : j < 1073741824 := hc.2
  exact floordiv_int (by omega) (by rw [Int.fdiv_eq_ediv_of_nonneg i (by omega)]; exact q) (.inl (PyProof.noPylong_small (by omega)))
/-- % by a positive divisor of any size -/
theorem op_mod : OpR X (binaryOp .Mod) (rI (fun _ j => 0 < j) fun i j => .int (i % j)) := opI fun i j _ _ _ _ _ hc q => by
  have h1 : (0 : Int) < j := hc
  exact mod_int' (by omega) (by rw [Int.fmod_eq_emod_of_nonneg i (by omega)]; exact q)
theorem op_pow : OpR X (binaryOp .Pow) (rI CPow fun i j => .int (i ^ j.toNat)) := opI fun _ _ _ _ _ _ _ hc q => pow_int_small hc.1 hc.2.1 hc.2.2 q
theorem op_shl : OpR X (binaryOp .LShift) (rI CPow fun i j => .int (i * 2 ^ j.toNat)) := opI fun _ _ _ _ _ _ _ hc q => lshift_int_small hc.1 hc.2.1 hc.2.2 q
theorem unI {f : Value → Sem Value} {g : Int → Int}
    (rule : ∀ (i : Int) (t : Tok) (s : Shared) (Q : Value → Shared → Prop) (E : Value → Shared → Prop), Q (.int (g i) s.toks) { s with toks := s.toks + 1 } → wpAny (model X.prog X.w) X.A (f (.int i t)) Q E s) :
    UnR X f (rU fun i => .int (g i)) := by
  intro pins s σ H x v Q I rx h
  obtain ⟨i, rfl, q⟩ := h
  obtain ⟨t, rfl⟩ := rx
  exact rule i t s _ _ ⟨.int (g i), H, I.tok _, ⟨_, rfl⟩, q⟩
theorem un_neg : UnR X (unaryOp .USub) (rU fun i => .int (-i)) := unI fun _ _ _ _ _ q => neg_int q
/-! ### bools among ints: n += (a < b) -/
end

/-! ### comparisons -/
/-- the scalars that == tells apart as data does -/
def scal : V → V → Bool
  | .non, .non => true | .non, .int _ => true | .int _, .non => true | .non, .bl _ => true | .bl _, .non => true | .non, .str _ => true | .str _, .non => true
  | .int _, .int _ => true | .bl _, .bl _ => true | .str _, .str _ => true | .byt _, .byt _ => true
  | .int _, .str _ => true | .str _, .int _ => true | .bl _, .str _ => true | .str _, .bl _ => true
  | _, _ => false
def rEq : R2 := fun x y H Q => scal x y = true ∧ Q (.bl (decide (x = y))) H
def rNe : R2 := fun x y H Q => scal x y = true ∧ Q (.bl (!decide (x = y))) H

theorem dec_int {i j : Int} : decide (V.int i = V.int j) = (i == j) := by
  rw [Bool.eq_iff_iff]
  simp
theorem dec_bl {i j : Bool} : decide (V.bl i = V.bl j) = (i == j) := by
  rw [Bool.eq_iff_iff]
  simp
theorem dec_str {i j : Str} : decide (V.str i = V.str j) = (i == j) := by
  rw [Bool.eq_iff_iff]
  simp
theorem dec_byt {i j : Array UInt8} : decide (V.byt i = V.byt j) = (i.toList == j.toList) := by
  rw [Bool.eq_iff_iff]
  cases i
  cases j
  simp

section
variable {X : Cx} {a b c : Expr} {ta tb tc : TE} {pos : Pos}
theorem fin_bl {pins : List (Addr × Obj)} {σ : St} {H : Hp} {s : Shared} {Q : VK} {k k' : Bool} (I : Inv X pins σ H s) (q : Q (.bl k) H) (e : k = k') : EP X pins σ Q (.bool k') s := by
  subst e
  exact ⟨.bl k, H, I, rfl, q⟩
theorem op_eq : OpR X (compareOp .Eq) rEq := by
  intro pins s σ H x y v u Q I rx ry h
  obtain ⟨hs, q⟩ := h
  cases x with
  | non =>
    cases rx
    cases y with
    | non => cases ry; exact PySem.EqNone.eq_none_none (fin_bl I q (by simp))
    | bl j => cases ry; exact PySem.EqNone.eq_none_bool (fin_bl I q (by simp))
    | int j => obtain ⟨t', rfl⟩ := ry; exact PySem.EqNone.eq_none_int (fin_bl I q (by simp))
    | str j => obtain ⟨t', rfl⟩ := ry; exact PySem.EqNone.eq_none_str (fin_bl I q (by simp))
    | _ => exact absurd (show false = true from hs) Bool.false_ne_true
  | bl i =>
    cases rx
    cases y with
    | non => cases ry; exact PySem.EqNone.eq_bool_none (fin_bl I q (by simp))
    | bl j => cases ry; exact eq_bool (fin_bl I q dec_bl)
    | str j => obtain ⟨t', rfl⟩ := ry; exact PySem.EqMixed.eq_bool_str (fin_bl I q (by simp))
    | _ => exact absurd (show false = true from hs) Bool.false_ne_true
  | int i =>
    obtain ⟨t, rfl⟩ := rx
    cases y with
    | non => cases ry; exact PySem.EqNone.eq_int_none (fin_bl I q (by simp))
    | int j => obtain ⟨t', rfl⟩ := ry; exact eq_int (fin_bl I q dec_int)
    | str j => obtain ⟨t', rfl⟩ := ry; exact PySem.EqMixed.eq_int_str (fin_bl I q (by simp))
    | _ => exact absurd (show false = true from hs) Bool.false_ne_true
  | str i =>
    obtain ⟨t, rfl⟩ := rx
    cases y with
    | non => cases ry; exact PySem.EqNone.eq_str_none (fin_bl I q (by simp))
    | bl j => cases ry; exact PySem.EqMixed.eq_str_bool (fin_bl I q (by simp))
    | int j => obtain ⟨t', rfl⟩ := ry; exact PySem.EqMixed.eq_str_int (fin_bl I q (by simp))
    | str j => obtain ⟨t', rfl⟩ := ry; exact eq_str (fin_bl I q dec_str)
    | _ => exact absurd (show false = true from hs) Bool.false_ne_true
  | byt i =>
    obtain ⟨t, rfl⟩ := rx
    cases y with
    | byt j => obtain ⟨t', rfl⟩ := ry; exact PySem.W.eq_bytes (fin_bl I q dec_byt)
    | _ => exact absurd (show false = true from hs) Bool.false_ne_true
  | _ => cases y <;> exact absurd (show false = true from hs) Bool.false_ne_true
theorem op_ne : OpR X (compareOp .NotEq) rNe := by
  intro pins s σ H x y v u Q I rx ry h
  obtain ⟨hs, q⟩ := h
  cases x with
  | non =>
    cases rx
    cases y with
    | non => cases ry; exact PySem.EqNone.ne_none_none (fin_bl I q (by simp))
    | bl j => cases ry; exact PySem.EqNone.ne_none_bool (fin_bl I q (by simp))
    | int j => obtain ⟨t', rfl⟩ := ry; exact PySem.EqNone.ne_none_int (fin_bl I q (by simp))
    | str j => obtain ⟨t', rfl⟩ := ry; exact PySem.EqNone.ne_none_str (fin_bl I q (by simp))
    | _ => exact absurd (show false = true from hs) Bool.false_ne_true
  | bl i =>
    cases rx
    cases y with
    | non => cases ry; exact PySem.EqNone.ne_bool_none (fin_bl I q (by simp))
    | bl j => cases ry; exact ne_bool (fin_bl I q (congrArg not dec_bl))
    | str j => obtain ⟨t', rfl⟩ := ry; exact PySem.EqMixed.ne_bool_str (fin_bl I q (by simp))
    | _ => exact absurd (show false = true from hs) Bool.false_ne_true
  | int i =>
    obtain ⟨t, rfl⟩ := rx
    cases y with
    | non => cases ry; exact PySem.EqNone.ne_int_none (fin_bl I q (by simp))
    | int j => obtain ⟨t', rfl⟩ := ry; exact ne_int (fin_bl I q (congrArg not dec_int))
    | str j => obtain ⟨t', rfl⟩ := ry; exact PySem.EqMixed.ne_int_str (fin_bl I q (by simp))
    | _ => exact absurd (show false = true from hs) Bool.false_ne_true
  | str i =>
    obtain ⟨t, rfl⟩ := rx
    cases y with
    | non => cases ry; exact PySem.EqNone.ne_str_none (fin_bl I q (by simp))
    | bl j => cases ry; exact PySem.EqMixed.ne_str_bool (fin_bl I q (by simp))
    | int j => obtain ⟨t', rfl⟩ := ry; exact PySem.EqMixed.ne_str_int (fin_bl I q (by simp))
    | str j => obtain ⟨t', rfl⟩ := ry; exact ne_str (fin_bl I q (congrArg not dec_str))
    | _ => exact absurd (show false = true from hs) Bool.false_ne_true
  | byt i =>
    obtain ⟨t, rfl⟩ := rx
    cases y with
    | byt j => obtain ⟨t', rfl⟩ := ry; exact PySem.W.ne_bytes (fin_bl I q (congrArg not dec_byt))
    | _ => exact absurd (show false = true from hs) Bool.false_ne_true
  | _ => cases y <;> exact absurd (show false = true from hs) Bool.false_ne_true

theorem op_lt : OpR X (compareOp .Lt) (rI0 fun i j => .bl (decide (i < j))) := opB0 fun _ _ _ _ _ _ _ q => lt_int q
theorem op_le : OpR X (compareOp .LtE) (rI0 fun i j => .bl (decide (i ≤ j))) := opB0 fun _ _ _ _ _ _ _ q => le_int q
theorem op_gt : OpR X (compareOp .Gt) (rI0 fun i j => .bl (decide (j < i))) := opB0 fun _ _ _ _ _ _ _ q => gt_int q
theorem op_lt_str : OpR X (compareOp .Lt) (fun x y H Q => ∃ i j, x = .str i ∧ y = .str j ∧ Q (.bl (decide (i.cps.toList < j.cps.toList))) H) := by
  intro pins s σ H x y v u Q I rx ry h
  obtain ⟨i, j, rfl, rfl, q⟩ := h
  obtain ⟨t, rfl⟩ := rx
  obtain ⟨t', rfl⟩ := ry
  exact lt_str (fin_bl I q rfl)
/-- the one string within the other -/
theorem op_in_str : OpR X (compareOp .In) (fun x y H Q => ∃ i j, x = .str i ∧ y = .str j ∧ Q (.bl (!(Builtin.Str.occurrences j i 0 j.length 1).isEmpty)) H) := by
  intro pins s σ H x y v u Q I rx ry h
  obtain ⟨i, j, rfl, rfl, q⟩ := h
  obtain ⟨t, rfl⟩ := rx
  obtain ⟨t', rfl⟩ := ry
  exact in_str (fin_bl I q rfl)

/-- is None, is not None: the right side a value none -/
theorem op_isN : OpR X (compareOp .Is) (fun x y H Q => y = .non ∧ Q (.bl (decide (x = .non))) H) := by
  intro pins s σ H x y v u Q I rx ry h
  obtain ⟨rfl, q⟩ := h
  cases ry
  refine is_none_gen (fin_bl I q ?_)
  cases x <;> first
    | (cases rx; rfl)
    | (obtain ⟨t, rfl⟩ := rx; rfl)
/-- two rules for one operation: by cases -/
theorem OpR.or {f : Value → Value → Sem Value} {r r' : R2} (h : OpR X f r) (h' : OpR X f r') : OpR X f (fun x y H Q => r x y H Q ∨ r' x y H Q) := by
  intro pins s σ H x y v u Q I rx ry q
  rcases q with q | q
  · exact h pins s σ H x y v u Q I rx ry q
  · exact h' pins s σ H x y v u Q I rx ry q

theorem nomark (b : Expr) {op : CmpOp} (h : op ≠ .In := by decide) (h2 : op ≠ .NotIn := by decide) : behindInMarks op b = false := by
  have e1 : (op == CmpOp.In) = false := by cases op <;> first | rfl | exact absurd rfl h
  have e2 : (op == CmpOp.NotIn) = false := by cases op <;> first | rfl | exact absurd rfl h2
  cases b <;> simp [behindInMarks, e1, e2]
/-- a comparison as a value; hm: nomark b, or (for in, not in) by with_unfolding_all rfl -/
theorem pe_cmpR {op : CmpOp} {r : R2} (ho : OpR X (compareOp op) r) (ha : PE X a ta) (hb : PE X b tb) (hm : behindInMarks op b = false) : PE X (.Compare a [op] [b] pos) (tOp r ta tb) := by
  intro pins s σ H Q I h
  exact wpAny_Compare1 (binT ha hb I h fun v u s2 x y H2 I2 rx ry q => ho pins s2 σ H2 x y v u Q I2 rx ry q) hm
/-- a reading of a value as a test -/
def tTest (t : TE) : TT := fun σ H Q => t σ H fun x H' => ∃ k, x = .bl k ∧ Q k H'
theorem pt_cmpR {op : CmpOp} {r : R2} (ho : OpR X (compareOp op) r) (ha : PE X a ta) (hb : PE X b tb) (hm : behindInMarks op b = false) : PT X (.Compare a [op] [b] pos) (tTest (tOp r ta tb)) := by
  intro pins s σ H Q I h
  refine wpAny_isTrue_Compare1 (thn (ha pins s σ H _ I h) fun v s1 ⟨x, H1, I1, r1, q1⟩ => thn (hb pins s1 σ H1 _ I1 q1) fun u s2 ⟨y, H2, I2, r2, q2⟩ =>
    thn (ho pins s2 σ H2 x y v u _ I2 r1 r2 q2) fun c s3 ⟨z, H3, I3, r3, k, e, q3⟩ => ?_) hm
  subst e
  cases r3
  exact wpAny_truthy_bool ⟨H3, I3, q3⟩
/-! ### truth -/
/-- a value's truth by the abstract heap -/
def TruV (K : PySem.W.Frag) (x : V) (H : Hp) (k : Bool) : Prop :=
  match x with
  | .non => k = false
  | .bl b => k = b
  | .int i => k = (i != 0)
  | .str y => y.length ≤ sizeLine ∧ k = ((y.length : Int) != 0)
  | .byt y => y.size ≤ sizeLine ∧ k = ((y.size : Int) != 0)
  | .ref p => (∃ xs, SqL K H p xs ∧ k = !xs.isEmpty) ∨ (∃ xs, SqT K H p xs ∧ k = !xs.isEmpty) ∨ ∃ kvs, H p = some (.dK kvs) ∧ k = !kvs.isEmpty
  | _ => False
theorem isEmpty_kv {κ : Type} {kvs : List (κ × V)} {vs : List (κ × Value)} (r : KV kvs vs) : (!vs.isEmpty) = !kvs.isEmpty := by
  cases r <;> rfl
theorem isEmpty_of {xs : List V} {its : List Value} (r : Vals xs its) : (!its.toArray.isEmpty) = !xs.isEmpty := by
  cases r <;> simp
theorem line63 : (sizeLine : Nat) < 2 ^ 63 := by rw [sizeLine_eq]; decide
theorem tru_ok : TruR X (fun x H Q => ∃ k, TruV X.K x H k ∧ Q k H) := by
  intro pins s σ H x v Q I rx h
  obtain ⟨k, e, q⟩ := h
  have hl := line63
  have hs : sizeLine = 16777216 := sizeLine_eq
  cases x with
  | non =>
    cases rx
    have e' : k = false := e
    subst e'
    exact truthy_none ⟨H, I, q⟩
  | bl b =>
    cases rx
    have e' : k = b := e
    subst e'
    exact wpAny_truthy_bool ⟨H, I, q⟩
  | int i =>
    obtain ⟨t, rfl⟩ := rx
    have e' : k = (i != 0) := e
    subst e'
    exact PySem.P.truthy_int ⟨H, I, q⟩
  | str y =>
    obtain ⟨t, rfl⟩ := rx
    obtain ⟨hy, e'⟩ : y.length ≤ sizeLine ∧ k = ((y.length : Int) != 0) := e
    subst e'
    exact PySem.P.truthy_str (by omega) ⟨H, I.tok _, q⟩
  | byt y =>
    obtain ⟨t, rfl⟩ := rx
    obtain ⟨hy, e'⟩ : y.size ≤ sizeLine ∧ k = ((y.size : Int) != 0) := e
    subst e'
    exact PySem.W.truthy_bytes (by omega) ⟨H, I.tok _, q⟩
  | ref p =>
    cases rx
    have e' : (∃ xs, SqL X.K H p xs ∧ k = !xs.isEmpty) ∨ (∃ xs, SqT X.K H p xs ∧ k = !xs.isEmpty) ∨ ∃ kvs, H p = some (.dK kvs) ∧ k = !kvs.isEmpty := e
    rcases e' with ⟨xs, hx, e'⟩ | ⟨xs, hx, e'⟩ | ⟨kvs, hx, e'⟩
    · subst e'
      obtain ⟨its, r, pl, hz⟩ := I.list hx
      have hlen := r.length
      exact wpAny_truthy_list pl.isList (by simp only [List.size_toArray]; omega) ⟨H, I.tok _, by rw [isEmpty_of r]; exact q⟩
    · subst e'
      obtain ⟨its, r, pl, hz⟩ := I.tuple hx
      have hlen := r.length
      exact truthy_tuple pl (by simp only [List.size_toArray]; omega) ⟨H, I.tok _, by rw [isEmpty_of r]; exact q⟩
    · subst e'
      obtain ⟨hz, hS, vs, r, m⟩ : kvs.length ≤ sizeLine ∧ (p == sysModules) = false ∧ ∃ vs, KV kvs vs ∧ s.heap.DictOf (mixKind X.prog X.w) p vs := I.hok p _ hx
      have hlen : kvs.length = vs.length := Paired.length r
      exact wpAny_truthy_dict hS m (by omega) ⟨H, I.tok _, by rw [isEmpty_kv r]; exact q⟩
  | _ => exact (show False from e).elim
/-- any expression whose test is its value's truth (a name, a call, a subscript, a field ..: he by fun _ => rfl) -/
theorem pt_truth (ha : PE X a ta) (he : ∀ whole, isTrue a X.env whole = (do let v ← whole; standAt a.pos; holding [v] (truthy v))) :
    PT X a (fun σ H Q => ta σ H fun x H' => ∃ k, TruV X.K x H' k ∧ Q k H') := by
  intro pins s σ H Q I h
  exact isTrue_plain (thn (ha pins s σ H _ I h) fun v s1 ⟨x, H1, I1, r1, q1⟩ => tru_ok pins s1 σ H1 x v Q I1 r1 q1) (he _)

/-! ### strs and bytes -/
theorem op_add_str : OpR X (binaryOp .Add) (fun x y H Q => ∃ i j, x = .str i ∧ y = .str j ∧ i.length + j.length ≤ sizeLine ∧ Q (.str (i ++ j)) H) := by
  intro pins s σ H x y v u Q I rx ry h
  obtain ⟨i, j, rfl, rfl, hz, q⟩ := h
  obtain ⟨t, rfl⟩ := rx
  obtain ⟨t', rfl⟩ := ry
  exact add_str (fun t' tk => ⟨.str (i ++ j), H, I.tok _, ⟨_, rfl⟩, q⟩) hz
/-! ### scalar builtins, by CallR -/
theorem vals1 {x : V} {us : List Value} (r : Vals [x] us) : ∃ u, us = [u] ∧ RelV x u := by
  cases r with
  | cons r1 r2 => cases r2; exact ⟨_, rfl, r1⟩
theorem vals2 {x y : V} {us : List Value} (r : Vals [x, y] us) : ∃ u w', us = [u, w'] ∧ RelV x u ∧ RelV y w' := by
  cases r with
  | cons r1 r2 =>
    cases r2 with
    | cons r3 r4 => cases r4; exact ⟨_, _, rfl, r1, r3⟩
theorem call_abs : CallR X (.builtin "abs") (fun xs H Q => ∃ i, xs = [.int i] ∧ Q (.int (if i < 0 then -i else i)) H) := by
  intro pins s σ H xs us Q I r h
  obtain ⟨i, rfl, q⟩ := h
  obtain ⟨u, rfl, t, rfl⟩ := vals1 r
  exact call_abs_int fun u tk => ⟨.int (if i < 0 then -i else i), H, I.tok _, ⟨_, rfl⟩, q⟩
theorem call_min2 (hc : X.calm = true) : CallR X (.builtin "min") (fun xs H Q => ∃ i j, xs = [.int i, .int j] ∧ Q (.int (if j < i then j else i)) H) := by
  intro pins s σ H xs us Q I r h
  obtain ⟨i, j, rfl, q⟩ := h
  obtain ⟨u, w', rfl, ⟨t, rfl⟩, ⟨t', rfl⟩⟩ := vals2 r
  refine min_two_ints (I.ok.hd hc) fun h' tk k => ⟨_, H, I.kept k, ?_, q⟩
  by_cases hj : j < i
  · rw [if_pos hj, if_pos hj]; exact ⟨_, rfl⟩
  · rw [if_neg hj, if_neg hj]; exact ⟨_, rfl⟩
theorem call_int1 : CallR X (.type "int") (fun xs H Q => (∃ i, xs = [.int i] ∧ Q (.int i) H) ∨ ∃ k, xs = [.bl k] ∧ Q (.int (if k then 1 else 0)) H) := by
  intro pins s σ H xs us Q I r h
  rcases h with ⟨i, rfl, q⟩ | ⟨k, rfl, q⟩
  · obtain ⟨u, rfl, t, rfl⟩ := vals1 r
    exact call_int_int ⟨.int i, H, I, ⟨_, rfl⟩, q⟩
  · obtain ⟨u, rfl, r1⟩ := vals1 r
    cases r1
    exact call_int_bool ⟨.int (if k then 1 else 0), H, I.tok _, ⟨_, rfl⟩, q⟩
/-- len of a str, a bytes, a list, a tuple -/
def LenV (K : PySem.W.Frag) (x : V) (H : Hp) (n : Nat) : Prop :=
  match x with
  | .str y => y.length ≤ sizeLine ∧ n = y.length
  | .byt y => y.size ≤ sizeLine ∧ n = y.size
  | .ref p => (∃ xs, SqL K H p xs ∧ n = xs.length) ∨ ∃ xs, SqT K H p xs ∧ n = xs.length
  | _ => False
theorem call_len : CallR X (.builtin "len") (fun xs H Q => ∃ x n, xs = [x] ∧ LenV X.K x H n ∧ Q (.int n) H) := by
  intro pins s σ H xs us Q I r h
  obtain ⟨x, n, rfl, e, q⟩ := h
  obtain ⟨u, rfl, rx⟩ := vals1 r
  have hl := line63
  have hs : sizeLine = 16777216 := sizeLine_eq
  cases x with
  | str y =>
    obtain ⟨t, rfl⟩ := rx
    obtain ⟨hy, e'⟩ : y.length ≤ sizeLine ∧ n = y.length := e
    subst e'
    exact len_str (by omega) ⟨.int _, H, I.tok _, ⟨_, rfl⟩, q⟩
  | byt y =>
    obtain ⟨t, rfl⟩ := rx
    obtain ⟨hy, e'⟩ : y.size ≤ sizeLine ∧ n = y.size := e
    subst e'
    exact PySem.W.len_bytes (by omega) ⟨.int _, H, I.tok _, ⟨_, rfl⟩, q⟩
  | ref p =>
    cases rx
    have e' : (∃ xs, SqL X.K H p xs ∧ n = xs.length) ∨ ∃ xs, SqT X.K H p xs ∧ n = xs.length := e
    rcases e' with ⟨xs, hx, e'⟩ | ⟨xs, hx, e'⟩
    · subst e'
      obtain ⟨its, r', pl, hz⟩ := I.list hx
      have hlen := r'.length
      exact Calls.call_len_list pl.isList (by simp only [List.size_toArray]; omega) ⟨.int xs.length, H, I.tok _, ⟨_, by simp only [List.size_toArray]; rw [hlen]⟩, q⟩
    · subst e'
      obtain ⟨its, r', pl, hz⟩ := I.tuple hx
      have hlen := r'.length
      exact len_tuple pl (by simp only [List.size_toArray]; omega) ⟨.int xs.length, H, I.tok _, ⟨_, by simp only [List.size_toArray]; rw [hlen]⟩, q⟩
  | _ => exact (show False from e).elim
end
end L2

namespace L2
open PySem PySem.Spec PyProof.Rows

/-! ### an instance, its attributes a map -/
structure ObjM (h : Heap) (x dx C : Addr) (mA : Str → Option Value) : Prop where
  obj : h.get? x = some (PySem.W.instObj C dx)
  ns : h.Ns1 dx mA
  ne : dx ≠ x

theorem lookIn_ns {h : Heap} {dx : Addr} {mA : Str → Option Value} (n : h.Ns1 dx mA) : ∃ od, h.get? dx = some od ∧ ∀ name, PySem.W.lookIn name od = some (mA name) := by
  obtain ⟨o, es, ep, ho, hd, hk, _, hm⟩ := n
  refine ⟨o, ho, fun name => ?_⟩
  have e := hm name
  unfold nsFind findBy at e
  rw [← Array.find?_toList] at e
  unfold PySem.W.lookIn
  rw [hd]
  dsimp only
  split
  · rename_i y q
    rw [q] at e
    exact congrArg some e
  · rename_i q
    rw [q] at e
    have a : es.toList.any (·.refKey) = false := by
      rw [List.any_eq_false]
      intro y hy
      obtain ⟨z, t, hkey⟩ := hk y (Array.mem_toList_iff.mp hy)
      simp [DictEntry.refKey, hkey]
    have a' : ¬ es.toList.any (·.refKey) = true := by rw [a]; exact Bool.false_ne_true
    rw [if_neg a']
    exact congrArg some e

theorem ObjM.look {h : Heap} {x dx C : Addr} {mA : Str → Option Value} (I : ObjM h x dx C mA) : ∃ od, PySem.W.InstAt h x (PySem.W.instObj C dx) C (some od) ∧ ∀ name, PySem.W.lookIn name od = some (mA name) :=
  let ⟨od, ho, hl⟩ := lookIn_ns I.ns
  ⟨od, ⟨I.obj, rfl, rfl, ho⟩, hl⟩

section
variable {prog : Program} {w : World} {A : Around} {E : Value → Shared → Prop} {s : Shared} {K : PySem.W.Frag} {x dx C f : Addr} {mA : Str → Option Value} {name : Str} {v : Value}

theorem get_map {expr : Bool} {Q : Value → Shared → Prop} (X : K.In s.heap) (I : ObjM s.heap x dx C mA) (hg : PySem.W.plainGet K C name = true) (hh : PySem.W.hasDictIn K C = true)
    (ha : PySem.W.findIn K (.ref C) name = some none) (hv : mA name = some v) (hv' : PySem.W.handedIn v = true) (h : Q v { s with toks := s.toks + 1 }) :
    wpAny (model prog w) A (getAttr (.ref x) name expr) Q E s := by
  obtain ⟨od, J, hl⟩ := I.look
  exact PySem.W.get_value X J (PySem.W.plainGet_of hg).1 (PySem.W.findObj_own hh ha rfl (by rw [hl, hv])) hv' h

theorem get_meth {pl : Sem Bool} {Q : Value × List Value → Shared → Prop} (X : K.In s.heap) (I : ObjM s.heap x dx C mA) (hg : PySem.W.plainGet K C name = true)
    (hf : PySem.W.findIn K (.ref C) name = some (some (.ref f))) (ht : PySem.W.isFn K (.ref f) = true) (hv : mA name = none) (h : Q (.ref f, [.ref x]) s) :
    wpAny (model prog w) A (getMethod (.ref x) name pl) Q E s := by
  obtain ⟨od, J, hl⟩ := I.look
  exact PySem.W.method_fn X J (PySem.W.plainGet_of hg).1 (PySem.W.plainGet_of hg).2 hf (beq_iff_eq.mp ht) (by show (PySem.W.lookIn name od).map (·.isSome) = some false; rw [hl, hv]; rfl) h

theorem set_map {ns : List Str} {Q : Unit → Shared → Prop} (X : K.In s.heap) (I : ObjM s.heap x dx C mA)
    (hs : PySem.W.findIn K (.ref C) "__setattr__" = some (some (.builtin "object.__setattr__"))) (hp : PySem.W.plainOver K C = true) (ht : PySem.W.takerIn K C name = some none) (hh : PySem.W.hasDictIn K C = true)
    (hw : PySem.Within mA ns) (hsz : ns.length ≤ sizeLine)
    (h : ∀ h', ObjM h' x dx C (fun y => if y = name then some v else mA y) → Heap.SameBut dx s.heap h' → Q () { s with heap := h', toks := s.toks + 2 }) :
    wpAny (model prog w) A (setAttr (.ref x) name v) Q E s := by
  obtain ⟨od, J, hl⟩ := I.look
  refine PySem.W.set_plain X J hs (PySem.W.osa_open (s := { s with toks := s.toks + 1 }) (r := none) X J hp ht fun b => ?_)
  obtain ⟨cd, hc, hd'⟩ := PySem.W.any_some hh
  have hx : s.heap.get? x = some ⟨.ref C, some dx, .plain, #[]⟩ := I.obj
  refine wpAny_bind (wpAny_pure (wpAny_bind (wpAny_bind (wpAny_loadPart hx (wpAny_bind (PySem.W.Looks.here (s := { s with toks := s.toks + 1 }) (PySem.W.looks_clsIn X hc) ?_))))))
  rw [hd']
  refine wpAny_pure (a := some dx) (wpAny_bind (wpAny_pure (wpAny_bind ?_)))
  refine wpAny_nsSet1 (s := { s with toks := s.toks + 1 }) I.ns fun h' hn2 hs2 => ?_
  obtain ⟨oD, esD, epD, hoD, hdD, hcD⟩ := hn2.count (PySem.Within.cons name v hw)
  refine wpAny_bind (wpAny_lookBehind hoD (by rw [hdD]; exact pastItsLine_dict (Nat.le_trans hcD (by rw [List.length_cons]; omega))) ?_)
  exact wpAny_pure (h _ ⟨(hs2.2 _ (Ne.symm I.ne)).trans I.obj, hn2, I.ne⟩ hs2)

/-- C(..): the dict at the heap's end, the instance behind it; then its __init__ -/
theorem make_map {R : Result → Shared → Prop} {vs : List Value} {kw : List (Str × Value)} (X : K.In s.heap) (hm : PySem.W.makesIn K C = true)
    (hi : PySem.W.findIn K (.ref C) "__init__" = some (some (.ref f))) (hf : PySem.W.typeIn K (.ref f) = some (.type "function"))
    (h : codeAny (model prog w) (A.under (.builtin "type.__call__" ⟨.ref C :: vs, kw⟩)) (.call (.ref f) ⟨.ref (s.heap.objs.size + 1) :: vs, kw⟩) (PySem.W.InitBack (s.heap.objs.size + 1) R)
      { s with heap := (s.heap.push PySem.W.emptyDict).push (PySem.W.instObj C s.heap.objs.size) }) :
    codeAny (model prog w) A (.call (.ref C) ⟨vs, kw⟩) R s := by
  obtain ⟨hh, g, d, t, os⟩ := s
  exact PySem.W.make_core (PySem.W.makes_of X hm) (PySem.W.looks_findIn X hi) (fun self => PySem.W.bind_fn X self hf) (.inl rfl) h
/-- C() where there is no __init__ but object's -/
theorem make_map0 {R : Result → Shared → Prop} (X : K.In s.heap) (hm : PySem.W.makesIn K C = true)
    (hi : PySem.W.findIn K (.ref C) "__init__" = some (some (.builtin "object.__init__")))
    (hb : ∀ self, PySem.W.Looks (model prog w) s.heap (bindSpecial (.builtin "object.__init__") self) (.builtin "object.__init__", [self]))
    (h : codeAny (model prog w) (A.under (.builtin "type.__call__" ⟨[.ref C], []⟩)) (.call (.builtin "object.__init__") ⟨[.ref (s.heap.objs.size + 1)], []⟩) (PySem.W.InitBack (s.heap.objs.size + 1) R)
      { s with heap := (s.heap.push PySem.W.emptyDict).push (PySem.W.instObj C s.heap.objs.size) }) :
    codeAny (model prog w) A (.call (.ref C) ⟨[], []⟩) R s := by
  obtain ⟨hh, g, d, t, os⟩ := s
  exact PySem.W.make_core (PySem.W.makes_of X hm) (PySem.W.looks_findIn X hi) hb (.inr ⟨rfl, rfl⟩) h
end

/-! ### the attributes as a list of pairs -/
def putF (f : Str) (v : V) : List (Str × V) → List (Str × V)
  | [] => [(f, v)]
  | (g, x) :: r => if g = f then (g, v) :: r else (g, x) :: putF f v r
theorem lookup_putF (f g : Str) (v : V) : ∀ fs : List (Str × V), (putF f v fs).lookup g = if g = f then some v else fs.lookup g
  | [] => by
    show List.lookup g [(f, v)] = _
    by_cases h : g = f
    · have hb : (g == f) = true := beq_iff_eq.mpr h
      simp only [List.lookup, hb, if_pos h]
    · have hb : (g == f) = false := beq_eq_false_iff_ne.mpr h
      simp only [List.lookup, hb, if_neg h]
  | (k, x) :: r => by
    have ih := lookup_putF f g v r
    rw [show putF f v ((k, x) :: r) = (if k = f then (k, v) :: r else (k, x) :: putF f v r) from rfl]
    by_cases hk : k = f
    · rw [if_pos hk]
      by_cases h : g = k
      · have hb : (g == k) = true := beq_iff_eq.mpr h
        simp only [List.lookup, hb, if_pos (h.trans hk)]
      · have hb : (g == k) = false := beq_eq_false_iff_ne.mpr h
        simp only [List.lookup, hb, if_neg (fun e : g = f => h (e.trans hk.symm))]
    · rw [if_neg hk]
      by_cases h : g = k
      · have hb : (g == k) = true := beq_iff_eq.mpr h
        simp only [List.lookup, hb, if_neg (fun e : g = f => hk (h.symm.trans e))]
      · have hb : (g == k) = false := beq_eq_false_iff_ne.mpr h
        simp only [List.lookup, hb]
        exact ih
theorem keys_putF (f : Str) (v : V) : ∀ fs : List (Str × V), f ∈ (putF f v fs).map (·.1) ∧ ∀ g, g ∈ fs.map (·.1) → g ∈ (putF f v fs).map (·.1)
  | [] => ⟨by simp [putF], fun g h => by simp at h⟩
  | (k, x) :: r => by
    obtain ⟨i1, i2⟩ := keys_putF f v r
    rw [show putF f v ((k, x) :: r) = (if k = f then (k, v) :: r else (k, x) :: putF f v r) from rfl]
    by_cases hk : k = f
    · rw [if_pos hk]
      subst hk
      exact ⟨by simp, fun g h => by simpa using h⟩
    · rw [if_neg hk]
      refine ⟨?_, fun g h => ?_⟩
      · rw [List.map_cons]
        exact List.mem_cons_of_mem _ i1
      · rw [List.map_cons] at h ⊢
        rcases List.mem_cons.mp h with e | e
        · exact List.mem_cons.mpr (.inl e)
        · exact List.mem_cons_of_mem _ (i2 g e)
theorem length_putF (f : Str) (v : V) : ∀ fs : List (Str × V), (putF f v fs).length ≤ fs.length + 1
  | [] => by simp [putF]
  | (k, x) :: r => by
    have ih := length_putF f v r
    rw [show putF f v ((k, x) :: r) = (if k = f then (k, v) :: r else (k, x) :: putF f v r) from rfl]
    by_cases hk : k = f
    · rw [if_pos hk, List.length_cons, List.length_cons]; omega
    · rw [if_neg hk, List.length_cons, List.length_cons]; omega

theorem RelO.some_of {v : V} {o : Option Value} (r : RelO (some v) o) : ∃ u, o = some u ∧ RelV v u := by
  cases o with
  | none => exact (show False from r).elim
  | some u => exact ⟨u, rfl, r⟩
theorem RelO.none_of {o : Option Value} (r : RelO none o) : o = none := by
  cases o with
  | none => rfl
  | some u => exact (show False from r).elim
theorem handed_of {v : V} {u : Value} (r : RelV v u) : PySem.W.handedIn u = true := by
  cases v with
  | non => cases (show u = Value.none from r); rfl
  | bl b => cases (show u = Value.bool b from r); rfl
  | int i => obtain ⟨t, e⟩ := (show ∃ t, u = Value.int i t from r); cases e; rfl
  | str x => obtain ⟨t, e⟩ := (show ∃ t, u = Value.str x t from r); cases e; rfl
  | byt b => obtain ⟨t, e⟩ := (show ∃ t, u = Value.bytes b t from r); cases e; rfl
  | flt b => obtain ⟨t, e⟩ := (show ∃ t, u = Value.float b t from r); cases e; rfl
  | ref a => cases (show u = Value.ref a from r); rfl
  | ty n => cases (show u = Value.type n from r); rfl

section
variable {P : Program} {w : World} {H H' : Hp} {h h' : Heap} {a C dx : Addr} {fs fs' : List (Str × V)}
theorem ins_get (hok : HOk P w H h) (e : H a = some (.ins C dx fs)) : ∃ mA, ObjM h a dx C mA ∧ (∀ f, RelO (fs.lookup f) (mA f)) ∧ PySem.Within mA (fs.map (·.1)) ∧ fs.length ≤ 1000 ∧ H dx = some (.own a) := by
  obtain ⟨d, z, ne, ob, mA, n, r, q⟩ := (show ObjOk P w H h a (.ins C dx fs) from hok a _ e)
  exact ⟨mA, ⟨ob, n, ne⟩, r, q, z, d⟩
end

/-! ### what of the text a class must have -/
structure Cls (K : PySem.W.Frag) (C : Addr) : Prop where
  pg : PySem.W.plainGet K C Str.empty = true
  hd : PySem.W.hasDictIn K C = true
  po : PySem.W.plainOver K C = true
  sa : PySem.W.findIn K (.ref C) "__setattr__" = some (some (.builtin "object.__setattr__"))
theorem Cls.get {K : PySem.W.Frag} {C : Addr} (c : Cls K C) (f : Str) : PySem.W.plainGet K C f = true := c.pg
/-- no class of it has the name -/
def NoAttr (K : PySem.W.Frag) (C : Addr) (f : Str) : Prop := PySem.W.findIn K (.ref C) f = some none
theorem NoAttr.taker {K : PySem.W.Frag} {C : Addr} {f : Str} (n : NoAttr K C f) : PySem.W.takerIn K C f = some none := by
  unfold PySem.W.takerIn
  rw [show PySem.W.findIn K (.ref C) f = some none from n]
  rfl
/-- a constant of the class -/
structure Con (K : PySem.W.Frag) (C : Addr) (f : Str) (v : V) (u : Value) : Prop where
  at_ : PySem.W.findIn K (.ref C) f = some (some u)
  rel : RelV v u
  get : PySem.W.specialIn K u "__get__" = some none
  cp : PySem.W.copiedNames.contains f = false
/-- a method: a plain def of the class or of one above it -/
structure Meth (K : PySem.W.Frag) (C : Addr) (m : Str) (f : Addr) : Prop where
  at_ : PySem.W.findIn K (.ref C) m = some (some (.ref f))
  fn : PySem.W.isFn K (.ref f) = true
  kp : PySem.W.keepIn K (.ref f) = true

section
variable {X : Cx} {pins : List (Addr × Obj)} {σ : St} {H : Hp} {s : Shared} {a C dx : Addr} {fs : List (Str × V)} {f : Str} {v : V} {A : Around} {E : Value → Shared → Prop}

theorem getattr_ok {b : Bool} {Q : Value → Shared → Prop} (I : Inv X pins σ H s) (e : H a = some (.ins C dx fs)) (c : Cls X.K C) (n : NoAttr X.K C f) (l : fs.lookup f = some v)
    (h : ∀ u s', Inv X pins σ H s' → RelV v u → Q u s') : wpAny (model X.prog X.w) A (getAttr (.ref a) f b) Q E s := by
  obtain ⟨mA, O, r, _, _, _⟩ := ins_get I.hok e
  obtain ⟨u, hu, ru⟩ := RelO.some_of (v := v) (o := mA f) (by rw [← l]; exact r f)
  exact get_map I.kIn O (c.get f) c.hd n hu (handed_of ru) (h u _ (I.tok _) ru)

theorem getmeth_ok {m : Str} {g : Addr} {pl : Sem Bool} {Q : Value × List Value → Shared → Prop} (I : Inv X pins σ H s) (e : H a = some (.ins C dx fs)) (c : Cls X.K C) (k : Meth X.K C m g) (l : fs.lookup m = none)
    (h : Q (.ref g, [.ref a]) s) : wpAny (model X.prog X.w) A (getMethod (.ref a) m pl) Q E s := by
  obtain ⟨mA, O, r, _, _, _⟩ := ins_get I.hok e
  have hn : mA m = none := RelO.none_of (by rw [← l]; exact r m)
  exact get_meth I.kIn O (c.get m) k.at_ k.fn hn h

theorem setattr_ok {y : V} {u : Value} {Q : Unit → Shared → Prop} (I : Inv X pins σ H s) (e : H a = some (.ins C dx fs)) (c : Cls X.K C) (n : NoAttr X.K C f) (hl : fs.length < 1000) (ry : RelV y u)
    (h : ∀ s', Inv X pins σ (upd H a (.ins C dx (putF f y fs))) s' → Q () s') : wpAny (model X.prog X.w) A (setAttr (.ref a) f u) Q E s := by
  obtain ⟨mA, O, r, wi, _, ho⟩ := ins_get I.hok e
  have hz : (fs.map (·.1)).length ≤ sizeLine := by rw [List.length_map, sizeLine_eq]; omega
  refine set_map I.kIn O c.sa c.po n.taker c.hd wi hz fun h' O' sb => h _ ?_
  have hd : ∃ o, h'.get? dx = some o := let ⟨o, _, _, e', _⟩ := O'.ns; ⟨o, e'⟩
  refine I.write (x := a) (e := dx) (by rw [e]; exact True.intro) (.inr ho) (fun b q hb z => (sb.2 b hb).trans z) hd ?_
  refine ⟨by rw [upd_ne O.ne]; exact ho, ?_, O.ne, O'.obj, _, O'.ns, fun g => ?_, fun g hg => ?_⟩
  · have := length_putF f y fs; omega
  · show RelO ((putF f y fs).lookup g) (if g = f then some u else mA g)
    rw [lookup_putF]
    by_cases q : g = f
    · rw [if_pos q, if_pos q]; exact ry
    · rw [if_neg q, if_neg q]; exact r g
  · by_cases q : g = f
    · rw [q]; exact (keys_putF f y fs).1
    · refine (keys_putF f y fs).2 g (wi g fun z => hg ?_)
      show (if g = f then some u else mA g) = none
      rw [if_neg q]; exact z

/-- a new instance, tracked, without attributes -/
theorem Inv.made (I : Inv X pins σ H s) : Inv X pins σ (upd (upd H s.heap.objs.size (.own (s.heap.objs.size + 1))) (s.heap.objs.size + 1) (.ins C s.heap.objs.size []))
    { s with heap := (s.heap.push PySem.W.emptyDict).push (PySem.W.instObj C s.heap.objs.size) } := by
  have e1 : (s.heap.push PySem.W.emptyDict).get? s.heap.objs.size = some PySem.W.emptyDict := Heap.get?_push_size s.heap rfl
  have e2 : ((s.heap.push PySem.W.emptyDict).push (PySem.W.instObj C s.heap.objs.size)).get? (s.heap.objs.size + 1) = some (PySem.W.instObj C s.heap.objs.size) := by
    have := Heap.get?_push_size (s.heap.push PySem.W.emptyDict) (o := PySem.W.instObj C s.heap.objs.size) rfl
    rwa [Heap.size_push] at this
  have e3 : (s.heap.push PySem.W.emptyDict).Ns s.heap.objs.size (fun _ => none) := ⟨PySem.W.emptyDict, #[], _, e1, rfl, (fun e he => absurd he (by simp)), fun _ => rfl⟩
  have I1 := I.laid (a := s.heap.objs.size) (o := .own (s.heap.objs.size + 1)) (h' := s.heap.push PySem.W.emptyDict) (t' := s.toks) (fun b u q => Heap.get?_push_of_some _ q) (Nat.le_refl _) ⟨_, e1⟩
  refine I1.laid (a := s.heap.objs.size + 1) (o := .ins C s.heap.objs.size []) (t' := s.toks) (fun b u q => Heap.get?_push_of_some _ q) (Nat.le_of_eq (Heap.size_push _ _)) ?_
  have ne : s.heap.objs.size ≠ s.heap.objs.size + 1 := Nat.ne_of_lt (Nat.lt_succ_self _)
  refine ⟨by rw [upd_ne ne, upd_same], Nat.zero_le _, ne, e2, fun _ => none, (Heap.Ns1.of_empty e3).at fun o q => Heap.get?_push_of_some _ q, fun _ => True.intro, fun y hy => absurd rfl hy⟩

/-- e.f where nothing but the object is asked: through attributeBase (super) and the last hold -/
theorem attr_of {prog : Program} {w : World} {env : Env} {e : Expr} {f : Str} {pos : Pos} {s : Shared} {Q : Value → Shared → Prop} (hb : attributeBase e f env (eval e env) = eval e env)
    (h : wpAny (model prog w) A (eval e env) (fun o s₁ => wpAny (model prog w) A (getAttr o f true) Q E s₁) E s) : wpAny (model prog w) A (eval (.Attribute e f pos) env) Q E s :=
  Attribute_any_ h (by rw [arm_eval_Attribute, hb])
end

/-! ### readings and rules -/
/-- e.f, an attribute of the instance -/
def tFld (K : PySem.W.Frag) (ta : TE) (f : Str) : TE := fun σ H Q => ta σ H fun x H1 => ∃ a C dx fs v, x = .ref a ∧ H1 a = some (.ins C dx fs) ∧ Cls K C ∧ NoAttr K C f ∧ fs.lookup f = some v ∧ Q v H1
/-- e.f = value -/
def sFld (K : PySem.W.Frag) (ta tv : TE) (f : Str) : TS := fun D σ H => tv σ H fun y H1 => ta σ H1 fun x H2 => ∃ a C dx fs, x = .ref a ∧ H2 a = some (.ins C dx fs) ∧ Cls K C ∧ NoAttr K C f ∧ fs.length < 1000 ∧
  D.nx σ (upd H2 a (.ins C dx (putF f y fs)))
section
variable {X : Cx} {o e value : Expr} {f : Str} {pos pos' tpos : Pos} {ta tv : TE}
theorem pe_fld (he : PE X e ta) (hb : attributeBase e f X.env (eval e X.env) = eval e X.env) : PE X (.Attribute e f pos) (tFld X.K ta f) := by
  intro pins s σ H Q I h
  refine attr_of hb (thn (he pins s σ H _ I h) fun u s1 ⟨x, H1, I1, rx, a, C, dx, fs, v, ex, ea, c, n, l, q⟩ => ?_)
  subst ex
  obtain rfl : u = Value.ref a := rx
  exact getattr_ok I1 ea c n l fun u' s2 I2 ru => ⟨v, H1, I2, ru, q⟩
theorem ps_fld (ha : PE X o ta) (hv : PE X value tv) (hs : swapsWith value (some (.Attribute o f pos')) pos.line X.env = pure false) : PS X (.Assign [.Attribute o f pos'] value pos) (sFld X.K ta tv f) := by
  intro pins s σ H D I h
  refine plainObj_wpAny_Assign_Attribute (thn (hv pins s σ H _ I h) fun u s1 ⟨y, H1, I1, ry, q⟩ => thn (ha pins s1 σ H1 _ I1 q) fun ov s2 ⟨x, H2, I2, rx, a, C, dx, fs, ex, ea, c, n, l, q2⟩ => ?_) hs
  subst ex
  obtain rfl : ov = Value.ref a := rx
  exact setattr_ok I2 ea c n l ry fun s3 I3 => ⟨σ, _, I3, q2⟩
end

/-! ### isinstance -/
section
variable {X : Cx} {pins : List (Addr × Obj)} {σ : St} {H : Hp} {s : Shared} {A : Around} {E : Value → Shared → Prop} {Q : Value → Shared → Prop} {c : Value} {b : Bool}
/-- the type of a value, as the fragment's deciders take it; for an instance its class -/
inductive TyOf (K : PySem.W.Frag) (H : Hp) : V → Value → Prop where
  | non : TyOf K H .non (.type "NoneType")
  | bl (x : Bool) : TyOf K H (.bl x) (.type "bool")
  | int (i : Int) : TyOf K H (.int i) (.type "int")
  | str (x : Str) : TyOf K H (.str x) (.type "str")
  | flt (x : UInt64) : TyOf K H (.flt x) (.type "float")
  | lst {a : Addr} {xs : List V} (e : H a = some (.lst xs)) : TyOf K H (.ref a) (.type "list")
  | frz {a : Addr} {o : Obj} {xs : List V} (e : H a = some (.frz o (.lst xs))) : TyOf K H (.ref a) (.type "list")
  | tup {a : Addr} {xs : List V} (e : H a = some (.tup xs)) : TyOf K H (.ref a) (.type "tuple")
  | dK {a : Addr} {kvs : List (Key × V)} (e : H a = some (.dK kvs)) : TyOf K H (.ref a) (.type "dict")
  | dT {a : Addr} {kvs : List (List Key × V)} (e : H a = some (.dT kvs)) : TyOf K H (.ref a) (.type "dict")
  | ins {a C dx : Addr} {fs : List (Str × V)} (e : H a = some (.ins C dx fs)) (cl : Cls K C) (ha : PySem.W.findIn K (.ref C) "__class__" = some (some (.builtin "object.__class__")))
      (hn : PySem.W.specialIn K (.builtin "object.__class__") "__get__" = some (some (.builtin "getset_descriptor.__get__"))) (htk : PySem.W.takesIn K (.builtin "object.__class__") = some true)
      (hm : PySem.W.mroIn K C (.type "object") = some true) : TyOf K H (.ref a) (.ref C)
/-- isinstance(x, c) for one class c, a built-in or an own one: kitOne's answer -/
theorem isinst_ok {x : V} {u t : Value} (I : Inv X pins σ H s) (rx : RelV x u) (ty : TyOf X.K H x t) (e : PySem.W.kitOne X.K t c = some b) (h : ∀ tk, Q (.bool b) { s with toks := tk }) :
    wpAny (model X.prog X.w) A (call (.builtin "isinstance") [u, c]) Q E s := by
  cases ty with
  | non => cases (show u = Value.none from rx); exact PySem.W.kia_one PySem.W.kitx_none I.kIn True.intro e (fun z => nomatch z) h
  | bl y => cases (show u = Value.bool y from rx); exact PySem.W.kia_one PySem.W.kitx_bool I.kIn True.intro e (fun z => nomatch z) h
  | int i => obtain ⟨t, q⟩ := (show ∃ t, u = Value.int i t from rx); cases q; exact PySem.W.kia_one PySem.W.kitx_int I.kIn True.intro e (fun z => nomatch z) h
  | str y => obtain ⟨t, q⟩ := (show ∃ t, u = Value.str y t from rx); cases q; exact PySem.W.kia_one PySem.W.kitx_str I.kIn True.intro e (fun z => nomatch z) h
  | flt y => obtain ⟨t, q⟩ := (show ∃ t, u = Value.float y t from rx); cases q; exact PySem.W.kia_one PySem.W.kitx_float I.kIn True.intro e (fun z => nomatch z) h
  | @lst a xs ea =>
    cases (show u = Value.ref a from rx)
    obtain ⟨_, _, n, _, h1⟩ := (show ObjOk X.prog X.w H s.heap a (.lst xs) from I.hok a _ ea)
    exact PySem.W.kia_one PySem.W.kitx_list I.kIn ⟨_, h1, rfl⟩ e (fun z => nomatch z) h
  | @frz a ob xs ea =>
    cases (show u = Value.ref a from rx)
    obtain ⟨_, _, _, n, _, h1⟩ := (show ObjOk X.prog X.w H s.heap a (.frz ob (.lst xs)) from I.hok a _ ea)
    exact PySem.W.kia_one PySem.W.kitx_list I.kIn ⟨_, h1, rfl⟩ e (fun z => nomatch z) h
  | @tup a xs ea =>
    cases (show u = Value.ref a from rx)
    obtain ⟨_, _, _, p⟩ := (show ObjOk X.prog X.w H s.heap a (.tup xs) from I.hok a _ ea)
    obtain ⟨o, h1, h2, _⟩ := p
    exact PySem.W.kia_one PySem.W.kitx_tuple I.kIn ⟨o, h1, h2⟩ e (fun z => nomatch z) h
  | @dK a kvs ea =>
    cases (show u = Value.ref a from rx)
    obtain ⟨_, _, vs, _, p⟩ := (show ObjOk X.prog X.w H s.heap a (.dK kvs) from I.hok a _ ea)
    obtain ⟨o, es, ep, h1, h2, _⟩ := p
    exact PySem.W.kia_one PySem.W.kitx_dict I.kIn ⟨o, h1, h2.1⟩ e (fun z => nomatch z) h
  | @dT a kvs ea => exact (show False from I.hok a _ ea).elim
  | @ins a C dx fs ea cl ha hn htk hm =>
    cases (show u = Value.ref a from rx)
    obtain ⟨mA, O, _⟩ := ins_get I.hok ea
    obtain ⟨od, J, _⟩ := O.look
    exact PySem.W.kia_one (PySem.W.kitx_own (cl.get _) cl.hd ha hn htk hm) I.kIn J e (fun z => nomatch z) h
end
end L2

namespace L2
open PySem PySem.Spec PyProof.Rows

/-! ### room -/
structure Room (k : Nat) (A : Around) : Prop where
  hd : A.handled = none
  dp : A.depth + 3 * k + 5 < recursionLimit
  un : A.units + 16 * k + 200 < cLine
theorem Room.mono {j k : Nat} {A : Around} (r : Room k A) (h : j ≤ k) : Room j A := ⟨r.hd, by have := r.dp; omega, by have := r.un; omega⟩
theorem Room.deeper {k : Nat} {A : Around} (r : Room (k + 1) A) (env : Env) : Room k (A.deeper env) :=
  ⟨r.hd, by have := r.dp; show A.depth + 1 + 3 * k + 5 < _; omega, by have := r.un; show A.units + 3 + 16 * k + 200 < _; omega⟩
theorem make_depth {A : Around} {C : Addr} {us : List Value} {kw : List (Str × Value)} : (A.under (.builtin "type.__call__" ⟨.ref C :: us, kw⟩)).depth = A.depth + 1 := by
  first | rfl | simp [Around.under, Code.weight, Code.isCreation, Code.isGuard, Code.isCaller, Code.frames, Code.isFrame, guardIds]
theorem make_units {A : Around} {C : Addr} {us : List Value} {kw : List (Str × Value)} : (A.under (.builtin "type.__call__" ⟨.ref C :: us, kw⟩)).units = A.units + 1 := by
  first | rfl | simp [Around.under, Code.cUnits, Code.frames, Code.isFrame]
theorem Room.make {k : Nat} {A : Around} (r : Room (k + 1) A) (C : Addr) (us : List Value) (kw : List (Str × Value)) : Room k (A.under (.builtin "type.__call__" ⟨.ref C :: us, kw⟩)) :=
  ⟨r.hd, by have := r.dp; rw [make_depth]; omega, by have := r.un; rw [make_units]; omega⟩
theorem Room.depth {k : Nat} {A : Around} (r : Room k A) : A.depth < recursionLimit := by have := r.dp; omega
/-! ### argument lists and displays -/
def tNil : TA := fun _ H Q => Q [] H
def tCons (ta : TE) (tr : TA) : TA := fun σ H Q => ta σ H fun x H1 => tr σ H1 fun xs H2 => Q (x :: xs) H2
section
variable {X : Cx} {e : Expr} {es : List Expr} {te : TE} {t : TA} {pos : Pos}
theorem pa_nil : PA X [] tNil := fun _ _ _ _ H Q I h => Calls.spliced_nil ⟨[], H, I, .nil, h⟩
theorem pa_cons (ha : PE X e te) (hr : PA X es t) (hs : starEach (e :: es) X.env = (false, eval e X.env) :: starEach es X.env := by rfl) : PA X (e :: es) (tCons te t) := by
  intro pos pins s σ H Q I h
  rw [hs]
  show wpAny _ _ (spliced ((false, eval e X.env) :: backTo pos (starEach es X.env))) _ _ s
  refine Calls.spliced_cons (thn (ha pins s σ H _ I h) fun u s1 ⟨x, H1, I1, r1, q1⟩ => ?_)
  exact thn (hr pos pins s1 σ H1 _ I1 q1) fun us s2 ⟨xs, H2, I2, r2, q2⟩ => ⟨x :: xs, H2, I2, .cons r1 r2, q2⟩

/-- a tuple, a list of written items -/
def tTup (t : TA) : TE := fun σ H Q => t σ H fun xs H1 => xs.length ≤ sizeLine ∧ ∀ p, H1 p = none → Q (.ref p) (upd H1 p (.tup xs))
def tLst (t : TA) : TE := fun σ H Q => t σ H fun xs H1 => xs.length ≤ sizeLine ∧ ∀ p, H1 p = none → Q (.ref p) (upd H1 p (.lst xs))
theorem pe_tup {x1} (h : PA X es t) : PE X (.Tuple es x1 pos) (tTup t) := by
  intro pins s σ H Q I hq
  refine wpAny_Tuple_spliced (thn (h pos pins s σ H _ I hq) fun us s1 ⟨xs, H1, I1, r, z, q⟩ => ⟨by rw [← r.length]; exact z, ?_⟩)
  have hf : H1 s1.heap.objs.size = none := I1.hok.fresh (Nat.le_refl _)
  refine ⟨.ref s1.heap.objs.size, upd H1 s1.heap.objs.size (.tup xs), I1.laid (t' := s1.toks) (fun b u e => Heap.get?_push_of_some _ e) (Nat.le_refl _) ?_, rfl, q _ hf⟩
  exact ⟨z, us, r, ⟨_, Heap.get?_push_size _ rfl, rfl, _, rfl⟩⟩
theorem pe_lst (h : PA X es t) : PE X (.List es pos) (tLst t) := by
  intro pins s σ H Q I hq
  refine wpAny_List_spliced (thn (h pos pins s σ H _ I hq) fun us s1 ⟨xs, H1, I1, r, z, q⟩ => ⟨by rw [← r.length]; exact z, ?_⟩)
  have hf : H1 s1.heap.objs.size = none := I1.hok.fresh (Nat.le_refl _)
  refine ⟨.ref s1.heap.objs.size, upd H1 s1.heap.objs.size (.lst xs), I1.laid (t' := s1.toks) (fun b u e => Heap.get?_push_of_some _ e) (Nat.le_refl _) ?_, rfl, q _ hf⟩
  exact ⟨z, us, 0, r, Heap.get?_push_size _ rfl⟩
end

/-! ### what a def promises -/
/-- a def's promise: the bound arguments in the parameters' order, the heap, the wanted end, the wanted exception -/
abbrev Sp := List V → Hp → VK → XK → Prop
/-- how an exception lies behind a call (file 08 gives it): the callers' frames, abstract heap and state ahead of the call, the wish, the exception, the state -/
abbrev CXT := List Env → Hp → Shared → XK → Value → Shared → Prop

/-- the state at a call -/
structure Env0 (P : Program) (w : World) (K : PySem.W.Frag) (mg : Str → Option Value) (base : Heap) (A : Around) (outer : List Env) (s : Shared) (H : Hp) : Prop where
  frames : A.frames = some outer
  mod : Mod K mg base
  bs : ∀ b o, base.get? b = some o → s.heap.get? b = some o ∧ H b = none
  bsz : base.objs.size ≤ s.heap.objs.size
  funs : s.heap.FunFrames base outer
  frf : ∀ b ∈ frs outer, H b = none
  hok : HOk P w H s.heap
  bare : AllBare s.gens
/-- a call's end -/
def CE (outer : List Env) (P : Program) (w : World) (H : Hp) (s : Shared) (Q : VK) (u : Value) (s' : Shared) : Prop :=
  ∃ v H', s'.os = s.os ∧ AllBare s'.gens ∧ Un (frs outer) [] H H' s.heap s'.heap ∧ HOk P w H' s'.heap ∧ RelV v u ∧ Q v H'
def CR (CX : CXT) (outer : List Env) (P : Program) (w : World) (H : Hp) (s : Shared) (Q : VK) (E : XK) (r : Result) (s' : Shared) : Prop :=
  match r with
  | .ok (.ret u) => CE outer P w H s Q u s'
  | .ok _ => False
  | .error e => CX outer H s E e s'
structure FnOk (P : Program) (w : World) (K : PySem.W.Frag) (mg : Str → Option Value) (base : Heap) (CX : CXT) (k : Nat) (f : Addr) (fd : FuncData) (ps : List Str) (sp : Sp) : Prop where
  len : ∀ vs H Q E, sp vs H Q E → vs.length = ps.length
  run : ∀ (A : Around) (outer : List Env) (s : Shared) (H : Hp) (args : Args) (us : List Value) (vs : List V) (Q : VK) (E : XK), Room k A → Env0 P w K mg base A outer s H → BindsTo s fd args (ps.zip us) → Vals vs us → sp vs H Q E →
    codeAny (model P w) A (.call (.ref f) args) (CR CX outer P w H s Q E) s
theorem FnOk.mono {P : Program} {w : World} {K : PySem.W.Frag} {mg : Str → Option Value} {base : Heap} {CX : CXT} {j k : Nat} {f : Addr} {fd : FuncData} {ps : List Str} {sp : Sp} (F : FnOk P w K mg base CX j f fd ps sp) (h : j ≤ k) :
    FnOk P w K mg base CX k f fd ps sp := ⟨F.len, fun A outer s H args us vs Q E hr => F.run A outer s H args us vs Q E (hr.mono h)⟩
theorem Env0.make {P : Program} {w : World} {K : PySem.W.Frag} {mg : Str → Option Value} {base : Heap} {A : Around} {outer : List Env} {s : Shared} {H : Hp} (e : Env0 P w K mg base A outer s H) (C : Addr) (us : List Value) (kw : List (Str × Value)) :
    Env0 P w K mg base (A.under (.builtin "type.__call__" ⟨.ref C :: us, kw⟩)) outer s H := ⟨by first | exact e.frames | (simpa [Around.under, Code.envs, Code.isFrame, pushEnvs] using e.frames), e.mod, e.bs, e.bsz, e.funs, e.frf, e.hok, e.bare⟩
section
variable {X : Cx} {pins : List (Addr × Obj)} {σ : St} {H : Hp} {s s' : Shared}
/-- from a body: what a callee wants -/
theorem Inv.env0 (I : Inv X pins σ H s) : Env0 X.prog X.w X.K X.mg X.base X.A X.stack s H :=
  ⟨I.ok.frames, I.ok.mod, I.bs, Nat.le_trans I.ok.bsz I.sz, I.stack, I.stkFree, I.hok, I.bare⟩
/-- behind a call -/
theorem Inv.after {Q : VK} {u : Value} (I : Inv X pins σ H s) (h : CE X.stack X.prog X.w H s Q u s') : EP X pins σ Q u s' := by
  obtain ⟨v, H', os, bare, un, hok, r, q⟩ := h
  obtain ⟨hh, g, d, t, os'⟩ := s'
  obtain rfl : os' = s.os := os
  exact ⟨v, H', I.call (h' := hh) (g' := g) (d' := d) (t' := t) (ch := []) un hok bare (fun b z => absurd z (by simp)), r, q⟩
end

/-! ### calls -/
/-- f(..): the written arguments, then the defaults dvs; E: what is wanted of an exception -/
def tCall (sp : Sp) (dvs : List V) (E : XK) (t : TA) : TE := fun σ H Q => t σ H fun vs H1 => sp (vs ++ dvs) H1 Q E
/-- o.m(..) of an instance of the class at C -/
def tMeth (C : Addr) (m : Str) (sp : Sp) (dvs : List V) (E : XK) (ta : TE) (t : TA) : TE := fun σ H Q => ta σ H fun x H1 => ∃ a dx fs, x = .ref a ∧ H1 a = some (.ins C dx fs) ∧ fs.lookup m = none ∧
  t σ H1 fun vs H2 => sp (x :: (vs ++ dvs)) H2 Q E
/-- C(..): a new instance and its dict, then __init__ -/
def tMake (C : Addr) (sp : Sp) (dvs : List V) (E : XK) (t : TA) : TE := fun σ H Q => t σ H fun vs H1 => ∀ x dx, H1 x = none → H1 dx = none → dx ≠ x →
  sp (.ref x :: (vs ++ dvs)) (upd (upd H1 dx (.own x)) x (.ins C dx [])) (fun v H2 => v = .non ∧ Q (.ref x) H2) E

/-- how the parameters are bound: us the positional arguments, kw the keywords' values by name, ds the defaults that fill up -/
def Binds (K : PySem.W.Frag) (fd : FuncData) (ps : List Str) (ds : List Value) : Prop :=
  ∀ (s : Shared) (us : List Value), K.In s.heap → (us ++ ds).length = ps.length → BindsTo s fd ⟨us, []⟩ (ps.zip (us ++ ds))
/-- every parameter is given -/
theorem Binds.all {K : PySem.W.Frag} {fd : FuncData} {ps : List Str} (h : ∀ us : List Value, us.length = ps.length → bindArgs fd ⟨us, []⟩ = pure (ps.zip us)) : Binds K fd ps [] := fun s us _ hl => by
  rw [List.append_nil] at hl ⊢
  exact .of_eq (h us hl)

/-- an exception of a callee reaches what this body wants of exceptions -/
def Passes (CX : CXT) (X : Cx) (E : XK) : Prop := ∀ (pins : List (Addr × Obj)) (σ : St) (H : Hp) (s : Shared) (e : Value) (s' : Shared), Inv X pins σ H s → CX X.stack H s E e s' → X.xe e s'

section
variable {X : Cx} {CX : CXT} {k : Nat} {f C : Addr} {fd : FuncData} {ps : List Str} {sp : Sp} {dvs : List V} {ds : List Value} {E : XK} {x m : Str} {p pos apos : Pos} {e o : Expr} {es : List Expr} {ta : TE} {t : TA}

/-- the callee runs -/
theorem run_fn {pins : List (Addr × Obj)} {σ : St} {H : Hp} {s : Shared} {Q : VK} {us : List Value} {vs : List V} (F : FnOk X.prog X.w X.K X.mg X.base CX k f fd ps sp) (hr : Room k X.A) (hb : Binds X.K fd ps ds) (hd : Vals dvs ds) (hx : Passes CX X E)
    (I : Inv X pins σ H s) (r : Vals vs us) (h : sp (vs ++ dvs) H Q E) : wpAny (model X.prog X.w) X.A (call (.ref f) us) (EP X pins σ Q) X.xe s := by
  have r2 : Vals (vs ++ dvs) (us ++ ds) := r.append hd
  have hl : (us ++ ds).length = ps.length := by rw [← r2.length]; exact F.len _ _ _ _ h
  refine wpAny_call (codeAny_mono (F.run X.A X.stack s H ⟨us, []⟩ (us ++ ds) (vs ++ dvs) Q E hr I.env0 (hb s us I.kIn hl) r2 h) fun r s' hq => ?_)
  cases r with
  | error e => exact hx pins σ H s e s' I hq
  | ok fl =>
    cases fl with
    | ret u => exact I.after hq
    | next => exact False.elim hq
    | brk => exact False.elim hq
    | cont => exact False.elim hq

theorem pe_call (F : FnOk X.prog X.w X.K X.mg X.base CX k f fd ps sp) (hr : Room k X.A) (hg : Gl X x) (hm : X.mg x = some (.ref f)) (hk : PySem.W.keepIn X.K (.ref f) = true) (hb : Binds X.K fd ps ds) (hd : Vals dvs ds) (hx : Passes CX X E)
    (ha : PA X (e :: es) t) (hdb : (x == ("__debug__" : Str)) = false := by decide) (he : starEach (e :: es) X.env = (false, eval e X.env) :: starEach es X.env := by rfl) (hpl : (backTo pos (starEach es X.env)).any (·.1) = false := by rfl) :
    PE X (.Call (.Name x p) (e :: es) [] pos) (tCall sp dvs E t) := by
  intro pins s σ H Q I h
  refine wpAny_Call_Name_kw (ld_glob I hg hm ?_ hdb)
  refine PySem.W.callWith_K (h₀ := X.base) I.ok.mod.kin hk (thn (ha pos pins s σ H _ I h) fun us s1 ⟨vs, H1, I1, r, q⟩ => ⟨I1.kIn, ?_⟩) he hpl
  exact run_fn F hr hb hd hx I1 r q
/-- o.m(e, ..) -/
theorem pe_meth {pl : Sem Bool} (he : PE X o ta) (c : Cls X.K C) (hm : Meth X.K C m f) (F : FnOk X.prog X.w X.K X.mg X.base CX k f fd ps sp) (hr : Room k X.A) (hb : Binds X.K fd ps ds) (hd : Vals dvs ds) (hx : Passes CX X E) (ha : PA X (e :: es) t)
    (hst : starEach (e :: es) X.env = (false, eval e X.env) :: starEach es X.env := by rfl) (hpl : (backTo pos (starEach es X.env)).any (·.1) = false := by rfl)
    (ht : eval (.Call (.Attribute o m apos) (e :: es) [] pos) X.env = (do
      let ov ← eval o X.env
      standAt apos.atName
      let (f, first) ← holding [ov] (getMethod ov m pl)
      callWith pos f first (backTo pos (starEach (e :: es) X.env)) (backToKw pos (keywordEach [] X.env))) := by rfl) :
    PE X (.Call (.Attribute o m apos) (e :: es) [] pos) (tMeth C m sp dvs E ta t) := by
  intro pins s σ H Q I h
  refine PySem.W.methodCall_KW (pl := pl) (thn (he pins s σ H _ I h) fun u s1 ⟨x, H1, I1, rx, a, dx, fs, ex, ea, l, q⟩ => ?_) ht
  subst ex
  obtain rfl : u = Value.ref a := rx
  refine getmeth_ok I1 ea c hm l ?_
  refine PySem.W.callWith_K (first := [.ref a]) (h₀ := X.base) I.ok.mod.kin hm.kp (thn (ha pos pins s1 σ H1 _ I1 q) fun us s2 ⟨vs, H2, I2, r, q2⟩ => ⟨I2.kIn, ?_⟩) hst hpl
  exact run_fn (us := .ref a :: us) (vs := .ref a :: vs) F hr hb hd hx I2 (.cons rfl r) q2
/-- what a class must have to be made -/
structure Mk (K : PySem.W.Frag) (C f : Addr) : Prop where
  makes : PySem.W.makesIn K C = true
  init : PySem.W.findIn K (.ref C) "__init__" = some (some (.ref f))
  fn : PySem.W.isFn K (.ref f) = true
  kp : PySem.W.keepIn K (.ref C) = true

theorem run_make {pins : List (Addr × Obj)} {σ : St} {H : Hp} {s : Shared} {Q : VK} {us : List Value} {vs : List V} (M : Mk X.K C f) (F : FnOk X.prog X.w X.K X.mg X.base CX k f fd ps sp) (hr : Room (k + 1) X.A) (hb : Binds X.K fd ps ds) (hd : Vals dvs ds)
    (hx : Passes CX X E) (I : Inv X pins σ H s) (r : Vals vs us)
    (h : ∀ x dx, H x = none → H dx = none → dx ≠ x → sp (.ref x :: (vs ++ dvs)) (upd (upd H dx (.own x)) x (.ins C dx [])) (fun v H2 => v = .non ∧ Q (.ref x) H2) E) :
    wpAny (model X.prog X.w) X.A (call (.ref C) us) (EP X pins σ Q) X.xe s := by
  have hq := h (s.heap.objs.size + 1) s.heap.objs.size (I.hok.fresh (Nat.le_succ _)) (I.hok.fresh (Nat.le_refl _)) (Nat.ne_of_lt (Nat.lt_succ_self _))
  have I2 := Inv.made (C := C) I
  have r2 : Vals (V.ref (s.heap.objs.size + 1) :: (vs ++ dvs)) (Value.ref (s.heap.objs.size + 1) :: (us ++ ds)) := .cons rfl (r.append hd)
  have hl : (Value.ref (s.heap.objs.size + 1) :: us ++ ds).length = ps.length := by
    have e := r2.length
    rw [F.len _ _ _ _ hq] at e
    exact e.symm
  refine wpAny_call (make_map (f := f) I.kIn M.makes M.init (beq_iff_eq.mp M.fn) (codeAny_mono (F.run _ X.stack _ _ ⟨Value.ref (s.heap.objs.size + 1) :: us, []⟩ (Value.ref (s.heap.objs.size + 1) :: (us ++ ds)) _ _ E (hr.make C us [])
    (I2.env0.make C us []) (hb _ (Value.ref (s.heap.objs.size + 1) :: us) I2.kIn hl) r2 hq) fun r s' hq' => ?_))
  cases r with
  | error e => exact hx pins σ _ _ e s' I2 hq'
  | ok fl =>
    cases fl with
    | ret u =>
      obtain ⟨v, H', I3, rv, ev, q3⟩ := I2.after hq'
      subst ev
      exact ⟨rv, ⟨V.ref (s.heap.objs.size + 1), H', I3, rfl, q3⟩⟩
    | next => exact False.elim hq'
    | brk => exact False.elim hq'
    | cont => exact False.elim hq'
theorem pe_make (M : Mk X.K C f) (F : FnOk X.prog X.w X.K X.mg X.base CX k f fd ps sp) (hr : Room (k + 1) X.A) (hg : Gl X x) (hm : X.mg x = some (.ref C)) (hb : Binds X.K fd ps ds) (hd : Vals dvs ds) (hx : Passes CX X E)
    (ha : PA X (e :: es) t) (hdb : (x == ("__debug__" : Str)) = false := by decide) (he : starEach (e :: es) X.env = (false, eval e X.env) :: starEach es X.env := by rfl) (hpl : (backTo pos (starEach es X.env)).any (·.1) = false := by rfl) :
    PE X (.Call (.Name x p) (e :: es) [] pos) (tMake C sp dvs E t) := by
  intro pins s σ H Q I h
  refine wpAny_Call_Name_kw (ld_glob I hg hm ?_ hdb)
  refine PySem.W.callWith_K (h₀ := X.base) I.ok.mod.kin M.kp (thn (ha pos pins s σ H _ I h) fun us s1 ⟨vs, H1, I1, r, q⟩ => ⟨I1.kIn, ?_⟩) he hpl
  exact run_make M F hr hb hd hx I1 r q
end

/-! ### keywords -/
section
variable {X : Cx} {CX : CXT} {k : Nat} {f C : Addr} {fd : FuncData} {ps ks : List Str} {sp : Sp} {E : XK} {x m : Str} {p pos apos kpos : Pos} {e o : Expr} {es : List Expr} {kws : List Keyword} {te ta : TE} {t tk : TA} {nm : Option Str}
/-- how a call with keywords binds: g puts the positional values us and the keywords' values ws (names ks) in the parameters' order, defaults among them -/
structure KBinds (K : PySem.W.Frag) (fd : FuncData) (ps ks : List Str) (g : List Value → List Value → List Value) (gV : List V → List V → List V) : Prop where
  to : ∀ (s : Shared) (us ws : List Value), K.In s.heap → (g us ws).length = ps.length → BindsTo s fd ⟨us, ks.zip ws⟩ (ps.zip (g us ws))
  rel : ∀ {vs : List V} {us : List Value} {zs : List V} {ws : List Value}, Vals vs us → Vals zs ws → Vals (gV vs zs) (g us ws)
variable {g : List Value → List Value → List Value} {gV : List V → List V → List V}
end

/-! ### a def's body keeps its promise -/
/-- names: the parameters first -/
structure FnScope (N P : List Str) (sc : Scope) : Prop where
  kind : sc.kind = .function
  co : sc.isCoroutine = false
  gen : sc.isGenerator = false
  nd : N.Nodup
  pre : N.take P.length = P
  par : ∀ x ∈ P, sc.names.lookup x = some .local ∨ sc.names.lookup x = some .cell
  nofree : ∀ y ∈ sc.names, y.2 ≠ .free

theorem bindL_out {kindOf : Str → Option NameKind} {x : Str} : ∀ {binds : List (Str × Value)} {m : Str → Option Value}, (∀ v, (x, v) ∉ binds) → bindL kindOf binds m x = m x
  | [], _, _ => rfl
  | (n, v) :: r, m, h => by
    unfold bindL
    rw [bindL_out fun w hw => h w (List.mem_cons_of_mem _ hw)]
    split
    · have : x ≠ n := by rintro rfl; exact h v List.mem_cons_self
      simp [this]
    · rfl
theorem bindC_out {kindOf : Str → Option NameKind} {x : Str} : ∀ {binds : List (Str × Value)} {m : Str → Option Value}, (∀ v, (x, v) ∉ binds) → bindC kindOf binds m x = m x
  | [], _, _ => rfl
  | (n, v) :: r, m, h => by
    unfold bindC
    rw [bindC_out fun w hw => h w (List.mem_cons_of_mem _ hw)]
    split
    · rfl
    · have : x ≠ n := by rintro rfl; exact h v List.mem_cons_self
      simp [this]
theorem bindL_get {kindOf : Str → Option NameKind} {x : Str} {v : Value} : ∀ {P : List Str} {vs : List Value} {i : Nat} {m : Str → Option Value}, P.Nodup → P[i]? = some x → vs[i]? = some v → kindOf x = some .local →
    bindL kindOf (P.zip vs) m x = some v
  | [], _, _, _, _, h, _, _ => by simp at h
  | _ :: _, [], _, _, _, _, h, _ => by simp at h
  | p :: P, w :: vs, 0, m, nd, h1, h2, hk => by
    simp at h1 h2; subst h1; subst h2
    show bindL kindOf ((p, w) :: P.zip vs) m p = _
    unfold bindL
    rw [bindL_out fun v hv => (List.nodup_cons.mp nd).1 (List.of_mem_zip hv).1, if_pos hk]
    simp
  | p :: P, w :: vs, i + 1, m, nd, h1, h2, hk => by
    show bindL kindOf ((p, w) :: P.zip vs) m x = _
    unfold bindL
    exact bindL_get (i := i) (List.nodup_cons.mp nd).2 (by simpa using h1) (by simpa using h2) hk
theorem bindC_get {kindOf : Str → Option NameKind} {x : Str} {v : Value} : ∀ {P : List Str} {vs : List Value} {i : Nat} {m : Str → Option Value}, P.Nodup → P[i]? = some x → vs[i]? = some v → kindOf x ≠ some .local →
    bindC kindOf (P.zip vs) m x = some v
  | [], _, _, _, _, h, _, _ => by simp at h
  | _ :: _, [], _, _, _, _, h, _ => by simp at h
  | p :: P, w :: vs, 0, m, nd, h1, h2, hk => by
    simp at h1 h2; subst h1; subst h2
    show bindC kindOf ((p, w) :: P.zip vs) m p = _
    unfold bindC
    rw [bindC_out fun v hv => (List.nodup_cons.mp nd).1 (List.of_mem_zip hv).1, if_neg hk]
    simp
  | p :: P, w :: vs, i + 1, m, nd, h1, h2, hk => by
    show bindC kindOf ((p, w) :: P.zip vs) m x = _
    unfold bindC
    exact bindC_get (i := i) (List.nodup_cons.mp nd).2 (by simpa using h1) (by simpa using h2) hk

/-- the names' values at the entry -/
def start (N : List Str) (vs : List V) : St := vs.map some ++ List.replicate (N.length - vs.length) none

/-- the context of a def's body, at its entry; an exception leaves the frame, then lies as CX says -/
def cxOf (CX : CXT) (P : Program) (w : World) (K : PySem.W.Frag) (mg : Str → Option Value) (base : Heap) (N : List Str) (qual : Str) (scope : Scope) (f : Addr) (cd : Value) (A : Around) (outer : List Env) (s : Shared) (H : Hp) (E : XK) : Cx where
  prog := P
  w := w
  K := K
  mg := mg
  base := base
  A := A.deeper (envOfC qual scope s.heap.objs.size f cd)
  N := N
  s₀ := s
  H₀ := H
  env := envOfC qual scope s.heap.objs.size f cd
  outer := outer
  stack := envOfC qual scope s.heap.objs.size f cd :: outer
  ex := []
  calm := true
  fn := fun _ => true
  pn := []
  xe := fun e s' => wpAny (model P w) (A.deeper (envOfC qual scope s.heap.objs.size f cd)) (leaving (envOfC qual scope s.heap.objs.size f cd) e) (fun _ s'' => CX outer H s E e s'') (fun e' s'' => CX outer H s E e' s'') s'

theorem cell_has {sc : Scope} {n : Nat} {x : Str} (h : sc.names.lookup x = some .cell) : ∃ c, (cellsFrom n sc.names []).lookup x = some c := by
  have q := PySem.W.cellsFrom_some sc.names n [] (.inl h)
  exact Option.isSome_iff_exists.mp q

theorem inv_start {CX : CXT} {P : Program} {w : World} {K : PySem.W.Frag} {mg : Str → Option Value} {base : Heap} {N ps : List Str} {qual : Str} {scope : Scope} {f : Addr} {cd : Value} {A : Around} {outer : List Env} {s s1 : Shared} {H : Hp} {E : XK} {us : List Value} {vs : List V}
    (S : FnScope N ps scope) (hd : A.handled = none) (e0 : Env0 P w K mg base A outer s H) (hl : vs.length = ps.length) (r : Vals vs us)
    (x : InCallC s s.heap.objs.size (bindL (envOfC qual scope s.heap.objs.size f cd).kindOf (ps.zip us) fun _ => none) (cellsFrom (s.heap.objs.size + 1) scope.names []) (bindC (envOfC qual scope s.heap.objs.size f cd).kindOf (ps.zip us) fun _ => none) s1) :
    Inv (cxOf CX P w K mg base N qual scope f cd A outer s H E) [] (start N vs) H s1 := by
  have hpl : ps.length ≤ N.length := by have := congrArg List.length S.pre; rw [List.length_take] at this; omega
  obtain ⟨h1, tk, rfl, hk⟩ := x.done
  have noA : ∀ b : Addr, b ∉ (cxOf CX P w K mg base N qual scope f cd A outer s H E).ex := fun b z => absurd (show b ∈ ([] : List Addr) from z) (by simp)
  refine ⟨⟨e0.mod, S.kind, rfl, rfl, Nat.le_refl _, fun y z c h1 h2 => ?_, fun y hy => ?_, fun y c _ h => ?_, fun _ => hd, Around.frames_deeper e0.frames, .inr ⟨rfl, rfl⟩, fun b z => absurd z (noA b), e0.bs, e0.bsz, fun b _ _ => noA b, fun b z => absurd z (noA b), e0.funs, e0.frf⟩,
    rfl, e0.bare, Un.kept hk, ⟨_, x.toInCall.ns, fun i y v h1 h2 h3 => ?_⟩, fun y c h => ⟨_, x.cell y c h⟩, e0.hok.fresh (Nat.le_refl _), fun y c h => ?_, fun p hp => absurd (show p ∈ ([] : List (Addr × Obj)) from hp) (by simp), e0.hok.kept hk, ?_⟩
  · exact name_of_addr x.apart (PySem.mem_of_lookup h1) (PySem.mem_of_lookup h2)
  · have hy : scope.names.lookup y = some .cell ∨ scope.names.lookup y = some .free := hy
    rcases hy with hy | hy
    · exact cell_has hy
    · exact absurd rfl (S.nofree _ (PySem.mem_of_lookup hy))
  · exact Nat.le_of_lt (x.above y c (PySem.mem_of_lookup h))
  · have hi : i < vs.length := by
      unfold start at h2
      by_cases hi : i < vs.length
      · exact hi
      · rw [List.getElem?_append_right (by simpa using hi)] at h2
        rw [List.getElem?_replicate] at h2
        split at h2 <;> cases h2
    have ha : vs[i]? = some v := by
      unfold start at h2
      rw [List.getElem?_append_left (by simpa using hi), List.getElem?_map] at h2
      cases e : vs[i]? with
      | none => rw [e] at h2; cases h2
      | some a => rw [e] at h2; cases h2; rfl
    obtain ⟨u, hu, rv⟩ := r.get ha
    have hp : ps[i]? = some y := by
      rw [← S.pre, List.getElem?_take_of_lt (by omega)]; exact h1
    have ndP : ps.Nodup := by rw [← S.pre]; exact S.nd.sublist (List.take_sublist _ _)
    refine ⟨u, rv, ?_⟩
    rcases S.par y (List.mem_of_getElem? hp) with k | k
    · exact .inl ⟨k, bindL_get ndP hp hu k⟩
    · obtain ⟨c, e⟩ := cell_has (n := s.heap.objs.size + 1) k
      refine .inr ⟨.inl k, c, e, ?_⟩
      have q := x.cell y c e
      rw [bindC_get ndP hp hu (by show scope.names.lookup y ≠ _; rw [k]; decide)] at q
      exact q
  · exact e0.hok.fresh (Nat.le_of_lt (x.above y c (PySem.mem_of_lookup h)))
  · unfold start
    show _ = N.length
    rw [List.length_append, List.length_map, List.length_replicate]
    omega

/-- THE RULE: a def (or a method) of the text, by its body. The body's reading t is chosen for each entry; it is run at the parameters' values -/
theorem fn_of {CX : CXT} {P : Program} {w : World} {K : PySem.W.Frag} {mg : Str → Option Value} {base : Heap} {k : Nat} {f : Addr} {name qual : Str} {params : Arguments} {body : List Stmt} {scope : Scope} {dV kV doc pm cdv ct oc : Value} {an od : Option Addr}
    {osl : Array (Option Value)} {N ps : List Str} {sp : Sp} (lk : K.lookup f = some ⟨oc, od, .func (PySem.W.fnOf name qual params body scope dV kV doc pm an cdv ct), osl⟩) (hcd : PySem.W.codeIn K cdv qual = true) (S : FnScope N ps scope)
    (len : ∀ vs H Q E, sp vs H Q E → vs.length = ps.length)
    (hbody : ∀ (A : Around) (outer : List Env) (s : Shared) (H : Hp) (vs : List V) (Q : VK) (E : XK), Room k (A.deeper (envOfC qual scope s.heap.objs.size f cdv)) → sp vs H Q E →
      ∃ t, PSs (cxOf CX P w K mg base N qual scope f cdv A outer s H E) body t ∧ t { nx := fun _ H' => Q .non H', rt := Q } (start N vs) H) :
    FnOk P w K mg base CX (k + 1) f (PySem.W.fnOf name qual params body scope dV kV doc pm an cdv ct) ps sp := by
  refine ⟨len, fun A outer s H args us vs Q E hr e0 hb r hsp => ?_⟩
  have hl := len _ _ _ _ hsp
  have KX : K.In s.heap := e0.mod.kin.keeps fun b o e => (e0.bs b o e).1
  have lim : s.heap.NoLimit := e0.mod.nolimit.keeps fun b o e => (e0.bs b o e).1
  have hkind : ∀ y ∈ ps.zip us, scope.names.lookup y.1 = some .local ∨ (scope.names.lookup y.1 = some .cell ∧ ((cellsFrom (s.heap.objs.size + 1) scope.names []).lookup y.1).isSome = true) := fun ⟨n, v⟩ hy => by
    rcases S.par n (List.of_mem_zip hy).1 with q | q
    · exact .inl q
    · exact .inr ⟨q, PySem.W.cellsFrom_some _ _ _ (.inl q)⟩
  refine codeAny_call_function hr.depth (KX _ _ lk) rfl S.co S.gen rfl (PySem.W.codeRec_of KX hcd) (hb _ _ _ _ ?_)
  refine wpAny_newFunctionEnv_cells S.kind hkind fun env he s1 x => ?_
  subst he
  refine ⟨lim.keeps x.toInCall.keep, codeAny_func ?_⟩
  obtain ⟨t, ht, hq⟩ := hbody A outer s H vs Q E (hr.deeper _) hsp
  have I : Inv (cxOf CX P w K mg base N qual scope f cdv A outer s H E) [] (start N vs) H s1 := inv_start S hr.hd e0 hl r x
  refine wpAny_mono (ht [] s1 (start N vs) H _ I hq) (fun fl s' hs => ?_) fun e s' hs => hs
  have fin : ∀ {σ' : St} {H' : Hp} {v : V} {u : Value}, Inv (cxOf CX P w K mg base N qual scope f cdv A outer s H E) [] σ' H' s' → RelV v u → Q v H' → CE outer P w H s Q u s' :=
    fun {σ' H' v u} J rv q => ⟨v, H', J.os, J.bare, J.base, J.hok, rv, q⟩
  cases fl with
  | ret u =>
    obtain ⟨v, σ', H', J, rv, q⟩ := hs
    exact fin J rv q
  | next =>
    obtain ⟨σ', H', J, q⟩ := hs
    exact fin (v := V.non) (u := Value.none) J rfl q
  | brk =>
    obtain ⟨_, _, _, q⟩ := hs
    exact False.elim q
  | cont =>
    obtain ⟨_, _, _, q⟩ := hs
    exact False.elim q
end L2

namespace L2
open PySem PySem.Spec PyProof.Rows
section
variable {X : Cx} {x : Str} {p pos : Pos} {e : Expr} {es : List Expr} {t : TA} {id T : String} {r : List V → Hp → VK → Prop}

def tCB (r : List V → Hp → VK → Prop) (t : TA) : TE := fun σ H Q => t σ H fun vs H1 => r vs H1 Q
/-- f(e, ..), f a built-in function -/
theorem pe_callB (hc : CallR X (.builtin id) r) (hg : Gl X x) (hm : X.mg x = none) (hv : bootBuiltins x = some (.builtin id)) (ha : PA X (e :: es) t) (hn : x ≠ "__name__" := by decide) (hdb : (x == ("__debug__" : Str)) = false := by decide)
    (he : starEach (e :: es) X.env = (false, eval e X.env) :: starEach es X.env := by rfl) (hpl : (backTo pos (starEach es X.env)).any (·.1) = false := by rfl) : PE X (.Call (.Name x p) (e :: es) [] pos) (tCB r t) := by
  intro pins s σ H Q I h
  refine wpAny_Call_Name_kw (ld_blt I hg hm hv ?_ hn hdb)
  exact PyProof.Rows.callWith_builtin1 (thn (ha pos pins s σ H _ I h) fun us s1 ⟨vs, H1, I1, r1, q1⟩ => hc pins s1 σ H1 vs us Q I1 r1 q1) he hpl
/-- T(e, ..), T a built-in type -/
theorem pe_callTy (hc : CallR X (.type T) r) (hg : Gl X x) (hm : X.mg x = none) (hv : bootBuiltins x = some (.type T)) (ha : PA X (e :: es) t) (hn : x ≠ "__name__" := by decide) (hdb : (x == ("__debug__" : Str)) = false := by decide)
    (he : starEach (e :: es) X.env = (false, eval e X.env) :: starEach es X.env := by rfl) (hpl : (backTo pos (starEach es X.env)).any (·.1) = false := by rfl) : PE X (.Call (.Name x p) (e :: es) [] pos) (tCB r t) := by
  intro pins s σ H Q I h
  refine wpAny_Call_Name_kw (ld_blt I hg hm hv ?_ hn hdb)
  exact PyProof.Rows.callWith_type1 (thn (ha pos pins s σ H _ I h) fun us s1 ⟨vs, H1, I1, r1, q1⟩ => hc pins s1 σ H1 vs us Q I1 r1 q1) he hpl
end
end L2

namespace HT
open PySem PyProof.Rows

/-- t < u of tuples of ints -/
def lexLt : List Int → List Int → Bool
  | [], [] => false
  | [], _ :: _ => true
  | _ :: _, [] => false
  | x :: xs, y :: ys => if x = y then lexLt xs ys else decide (x < y)
theorem lexLt_cons (x y : Int) (xs ys : List Int) : lexLt (x :: xs) (y :: ys) = if x = y then lexLt xs ys else decide (x < y) := rfl
theorem lexLt_nil_cons (y : Int) (ys : List Int) : lexLt [] (y :: ys) = true := rfl
theorem lexLt_cons_nil (x : Int) (xs : List Int) : lexLt (x :: xs) [] = false := rfl

theorem rcLt_int (A : Around) (s : Shared) (a : Int) (t : Tok) (c : Int) (u : Tok) (prog : Program) (w : World) (E : Value → Shared → Prop) (Q : Value → Shared → Prop) (h : Q (.bool (decide (a < c))) s) :
    wpAny (model prog w) A (richCompare .Lt (.int a t) (.int c u)) Q E s :=
  (PyProof.Rows.lt_int h : wpAny (model prog w) A (compareOp .Lt (.int a t) (.int c u)) Q E s)

section
open PySem.SeqAt
open PySem.AutoSeq1 (wpAny_loadPart')
open PySem.MeetsSeq PySem.MeetsSeq2 PySem.MeetsSeq3

end

section
variable {prog : Program} {w : World} {A : Around} {E : Value → Shared → Prop} {s : Shared}

/-! ### t[a:b], not the whole -/
/-- a slice's bound as a place among n (d where it is left out) -/
def sIx (n d : Nat) : Option Int → Nat
  | none => d
  | some v => if v < 0 then (v + (n : Int)).toNat else min v.toNat n
theorem sIx_none (n d : Nat) : sIx n d none = d := rfl
theorem sIx_nat (n d k : Nat) : sIx n d (some (k : Int)) = min k n := by
  show (if (k : Int) < 0 then ((k : Int) + (n : Int)).toNat else min (k : Int).toNat n) = min k n
  rw [if_neg (by omega), Int.toNat_natCast]
theorem sIx_le (n d : Nat) (hd : d ≤ n) (o : Option Int) : sIx n d o ≤ n := by
  cases o with
  | none => exact hd
  | some v =>
    show (if v < 0 then (v + (n : Int)).toNat else min v.toNat n) ≤ n
    by_cases hv : v < 0
    · rw [if_pos hv]; omega
    · rw [if_neg hv]; exact Nat.min_le_right _ _
end
end HT

namespace L2
open PySem PySem.Spec PyProof.Rows

/-! ### the parts of a slice -/
abbrev TO := St → Hp → (Option Int → Hp → Prop) → Prop
/-- a slice's part (left out, or an int) -/
def PO (X : Cx) (e : Option Expr) (t : TO) : Prop :=
  ∀ (pins : List (Addr × Obj)) (s : Shared) (σ : St) (H : Hp) (Q : Option Int → Hp → Prop), Inv X pins σ H s → t σ H Q →
    wpAny (model X.prog X.w) X.A (evalPart e X.env) (fun u s' => ∃ o H', Inv X pins σ H' s' ∧ IsPart u o ∧ Q o H') X.xe s
def tNoPart : TO := fun _ H Q => Q none H
def tPart (t : TE) : TO := fun σ H Q => t σ H fun x H1 => ∃ i, x = .int i ∧ Q (some i) H1

theorem intsAre_of {ns : List Int} : ∀ {us : List Value}, Vals (ns.map V.int) us → IntsAre us ns := by
  induction ns with
  | nil => intro us r; rw [List.map_nil] at r; cases r; exact .nil
  | cons n ns ih =>
    intro us r
    rw [List.map_cons] at r
    cases r with
    | cons r1 r2 =>
      obtain ⟨t, e⟩ := r1
      subst e
      exact .cons n t (ih r2)

section
variable {X : Cx} {e : Expr} {te : TE} {lo hi : Option Expr} {tl th : TO} {pos p2 : Pos}

theorem po_none : PO X none tNoPart := by
  intro pins s σ H Q I h
  rw [evalPart_none]
  exact wpAny_pure ⟨none, H, I, .none, h⟩
theorem po_some (h : PE X e te) : PO X (some e) (tPart te) := by
  intro pins s σ H Q I hw
  rw [evalPart_some]
  refine thn (h pins s σ H _ I hw) fun u s1 ⟨x, H1, I1, r1, q1⟩ => ?_
  obtain ⟨i, rfl, q⟩ := q1
  obtain ⟨t, rfl⟩ := r1
  exact ⟨some i, H1, I1, .int i t, q⟩

/-- what a slice of a value is, by values: the slice object stands at sl -/
def SlR (X : Cx) (r : V → Option Int → Option Int → Hp → VK → Prop) : Prop :=
  ∀ (pins : List (Addr × Obj)) (s : Shared) (σ : St) (H : Hp) (x : V) (v vl vu : Value) (lo hi : Option Int) (sl : Addr) (Q : VK), Inv X pins σ H s → RelV x v → s.heap.IsSliceOf sl vl vu .none → IsPart vl lo → IsPart vu hi → r x lo hi H Q →
    ∃ T id, typeLookup (.type T) "__getitem__" = pure (some (.builtin id)) ∧ s.TypeIs v T ∧ wpAny (model X.prog X.w) X.A (getItem v (.ref sl)) (EP X pins σ Q) X.xe s
theorem SlR.or {r r' : V → Option Int → Option Int → Hp → VK → Prop} (h : SlR X r) (h' : SlR X r') : SlR X (fun x lo hi H Q => r x lo hi H Q ∨ r' x lo hi H Q) := by
  intro pins s σ H x v vl vu lo hi sl Q I rx hs pl pu q
  rcases q with q | q
  · exact h pins s σ H x v vl vu lo hi sl Q I rx hs pl pu q
  · exact h' pins s σ H x v vl vu lo hi sl Q I rx hs pl pu q
def tSl (r : V → Option Int → Option Int → Hp → VK → Prop) (te : TE) (tl th : TO) : TE := fun σ H Q => te σ H fun x H1 => tl σ H1 fun l H2 => th σ H2 fun u H3 => r x l u H3 Q
/-- a[lo:hi], any a -/
theorem pe_slice {r : V → Option Int → Option Int → Hp → VK → Prop} (hr : SlR X r) (he : PE X e te) (hl : PO X lo tl) (hu : PO X hi th) : PE X (.Subscript e (.Slice lo hi none p2) pos) (tSl r te tl th) := by
  intro pins s σ H Q I h
  refine Subscript_ (thn (he pins s σ H _ I h) fun v s1 ⟨x, H1, I1, r1, q1⟩ => ?_)
  refine wpAny_Slice (thn (hl pins s1 σ H1 _ I1 q1) fun vl s2 ⟨l, H2, I2, pl, q2⟩ => thn (hu pins s2 σ H2 _ I2 q2) fun vu s3 ⟨u, H3, I3, pu, q3⟩ => ?_)
  rw [evalPart_none]
  refine wpAny_pure ?_
  have I4 : Inv X pins σ H3 { s3 with heap := s3.heap.push { cls := .type "slice", data := .fields #[vl, vu, .none] } } := I3.kept (t' := s3.toks) fun b ob q => Heap.get?_push_of_some _ q
  obtain ⟨T, id, hT, ht, hg⟩ := hr pins { s3 with heap := s3.heap.push { cls := .type "slice", data := .fields #[vl, vu, .none] } } σ H3 x v vl vu l u s3.heap.objs.size Q I4 r1 (Heap.IsSliceOf.new ..) pl pu q3
  show wpAny (model X.prog X.w) X.A (subscriptTail e (.Slice lo hi none p2) v (.ref s3.heap.objs.size)) (EP X pins σ Q) X.xe { s3 with heap := s3.heap.push { cls := .type "slice", data := .fields #[vl, vu, .none] } }
  exact tail_any (ops := [.ref s3.heap.objs.size, v]) ht hT hg (by with_unfolding_all rfl)

/-- the items of xs[lo:hi] -/
def cutV (xs : List V) (lo hi : Option Int) : List V := (xs.drop (HT.sIx xs.length 0 lo)).take (HT.sIx xs.length xs.length hi - HT.sIx xs.length 0 lo)
theorem cutV_length (xs : List V) (lo hi : Option Int) : (cutV xs lo hi).length ≤ xs.length := by
  unfold cutV
  rw [List.length_take, List.length_drop]
  omega
/-! ### t < u, t + u -/
end
end L2

namespace L2
open PySem PySem.Spec PyProof.Rows

/-! ### places -/
/-- the place that an index of any sign means -/
def ixN (n : Nat) (i : Int) : Option Nat := if 0 ≤ i then (if i < n then some i.toNat else none) else if -(n : Int) ≤ i then some (i + n).toNat else none
def atI {α : Type} (xs : List α) (i : Int) : Option α := (ixN xs.length i).bind fun j => xs[j]?
theorem ixN_seq {n : Nat} {i : Int} {j : Nat} (h : ixN n i = some j) : seqIndex? i n = some j ∧ j < n ∧ -(n : Int) ≤ i ∧ i < n := by
  unfold ixN at h
  by_cases h0 : 0 ≤ i
  · rw [if_pos h0] at h
    by_cases h1 : i < n
    · rw [if_pos h1] at h
      have e : i.toNat = j := Option.some.inj h
      exact ⟨by rw [seqIndex_of h0 h1, e], by omega, by omega, h1⟩
    · rw [if_neg h1] at h; cases h
  · rw [if_neg h0] at h
    by_cases h1 : -(n : Int) ≤ i
    · rw [if_pos h1] at h
      have e : (i + n).toNat = j := Option.some.inj h
      exact ⟨by rw [seqIndex_neg (by omega) h1, e], by omega, h1, by omega⟩
    · rw [if_neg h1] at h; cases h
theorem atI_get {α : Type} {xs : List α} {i : Int} {v : α} (h : atI xs i = some v) : ∃ j, seqIndex? i xs.length = some j ∧ xs[j]? = some v ∧ j < xs.length ∧ -(xs.length : Int) ≤ i ∧ i < xs.length := by
  unfold atI at h
  cases e : ixN xs.length i with
  | none => rw [e] at h; cases h
  | some j =>
    rw [e] at h
    obtain ⟨h1, h2, h3, h4⟩ := ixN_seq e
    exact ⟨j, h1, h, h2, h3, h4⟩
theorem atI_nat {α : Type} {xs : List α} {j : Nat} {v : α} (h : xs[j]? = some v) : atI xs (j : Int) = some v := by
  have hj : j < xs.length := (List.getElem?_eq_some_iff.mp h).1
  have e : ixN xs.length (j : Int) = some j := by
    unfold ixN
    rw [if_pos (by omega), if_pos (by omega)]; simp
  unfold atI; rw [e]; exact h
/-! ### what may be subscripted -/
/-- what stands as an index of a plain subscript -/
def PlainIx (b : Expr) : Prop := ∀ o i, subscripted b false o i = operate [o, i] (getItem o i)
/-- a subscript by values -/
def IxR (X : Cx) (r : R2) : Prop :=
  ∀ (value slice : Expr) (pins : List (Addr × Obj)) (s : Shared) (σ : St) (H : Hp) (x y : V) (v u : Value) (Q : VK), Inv X pins σ H s → RelV x v → RelV y u → r x y H Q →
    subscripted slice false v u = operate [v, u] (getItem v u) → wpAny (model X.prog X.w) X.A (subscriptTail value slice v u) (EP X pins σ Q) X.xe s
/-- a call of a builtin's method by values: the receiver, the arguments -/
def MtR (X : Cx) (id : String) (r : V → List V → Hp → VK → Prop) : Prop :=
  ∀ (pins : List (Addr × Obj)) (s : Shared) (σ : St) (H : Hp) (x : V) (xs : List V) (v : Value) (us : List Value) (Q : VK), Inv X pins σ H s → RelV x v → Vals xs us → r x xs H Q →
    wpAny (model X.prog X.w) X.A (call (.builtin id) (v :: us)) (EP X pins σ Q) X.xe s
section
variable {X : Cx} {a b : Expr} {ta tb : TE} {pos : Pos}
theorem IxR.or {r r' : R2} (h : IxR X r) (h' : IxR X r') : IxR X (fun x y H Q => r x y H Q ∨ r' x y H Q) := by
  intro value slice pins s σ H x y v u Q I rx ry q hs
  rcases q with q | q
  · exact h value slice pins s σ H x y v u Q I rx ry q hs
  · exact h' value slice pins s σ H x y v u Q I rx ry q hs
/-- a[b] -/
theorem pe_ix {r : R2} (hr : IxR X r) (ha : PE X a ta) (hb : PE X b tb) (hs : PlainIx b) : PE X (.Subscript a b pos) (tOp r ta tb) := by
  intro pins s σ H Q I h
  exact Subscript_ (binT ha hb I h fun v u s2 x y H2 I2 rx ry q => hr a b pins s2 σ H2 x y v u Q I2 rx ry q (hs _ _))

def rIxL (K : PySem.W.Frag) : R2 := fun x y H Q => ∃ p xs i v, x = .ref p ∧ y = .int i ∧ SqL K H p xs ∧ atI xs i = some v ∧ Q v H
def rIxT (K : PySem.W.Frag) : R2 := fun x y H Q => ∃ p xs i v, x = .ref p ∧ y = .int i ∧ SqT K H p xs ∧ atI xs i = some v ∧ Q v H
def rIxS : R2 := fun x y H Q => ∃ z i c, x = .str z ∧ y = .int i ∧ z.length ≤ sizeLine ∧ atI z.cps.toList i = some c ∧ Q (.str ⟨#[c]⟩) H
theorem ix_list : IxR X (rIxL X.K) := by
  intro value slice pins s σ H x y v u Q I rx ry h hs
  obtain ⟨p, xs, i, z, rfl, rfl, hq, he, q⟩ := h
  cases rx
  obtain ⟨t, rfl⟩ := ry
  obtain ⟨its, r, pl, hz⟩ := I.list hq
  obtain ⟨j, h1, h2, h3, h4, h5⟩ := atI_get he
  obtain ⟨w, ew, rw'⟩ := r.get h2
  have hl := r.length
  have hn := line63
  have fin : EP X pins σ Q w s := ⟨z, H, I, rw', q⟩
  by_cases h0 : 0 ≤ i
  · have hj : i.toNat = j := by
      rw [seqIndex_of h0 h5] at h1
      exact Option.some.inj h1
    exact item_listR pl.isList h0 (by omega) (by rw [hj]; simpa using ew) fin hs
  · have hj : (i + (its.toArray.size : Int)).toNat = j := by
      rw [seqIndex_neg (by omega) h4] at h1
      rw [List.size_toArray, ← hl]
      exact Option.some.inj h1
    exact subscriptTail_builtinR (x := w) pl.isList.typeIs slot_list_getitem.lookup
      (wpAny_getItem_list_neg (Q := fun r s' => r = w ∧ EP X pins σ Q r s') pl.isList (by omega) (by rw [List.size_toArray] <;> omega) (by omega) (by rw [hj]; simpa using ew) ⟨rfl, fin⟩) hs
theorem ix_tup : IxR X (rIxT X.K) := by
  intro value slice pins s σ H x y v u Q I rx ry h hs
  obtain ⟨p, xs, i, z, rfl, rfl, hq, he, q⟩ := h
  cases rx
  obtain ⟨t, rfl⟩ := ry
  obtain ⟨its, r, pl, hz⟩ := I.tuple hq
  obtain ⟨j, h1, h2, h3, h4, h5⟩ := atI_get he
  obtain ⟨w, ew, rw'⟩ := r.get h2
  have hl := r.length
  have hn := line63
  have fin : EP X pins σ Q w s := ⟨z, H, I, rw', q⟩
  exact subscriptTail_builtinR (x := w) pl.typeIs slot_tuple_getitem.lookup
    (getItem_tuple (j := j) (Q := fun r s' => r = w ∧ EP X pins σ Q r s') pl (by omega) (by omega) (by rw [List.size_toArray, ← hl]; exact h1) (by simpa using ew) ⟨rfl, fin⟩) hs
theorem ix_str : IxR X rIxS := by
  intro value slice pins s σ H x y v u Q I rx ry h hs
  obtain ⟨z, i, c, rfl, rfl, hz, he, q⟩ := h
  obtain ⟨t, rfl⟩ := rx
  obtain ⟨t', rfl⟩ := ry
  obtain ⟨j, h1, h2, h3, h4, h5⟩ := atI_get he
  have hl : z.cps.toList.length = z.length := by simp [Str.length]
  rw [hl] at h1 h4 h5
  have hn := line63
  exact tail_any (typeIs_str s z t) slot_str_getitem.lookup (getItem_str (c := c) (by
    have e1 : decide (i < -(2 ^ 63 : Int)) = false := decide_eq_false (by omega)
    have e2 : decide (i ≥ 2 ^ 63) = false := decide_eq_false (by omega)
    rw [e1, e2, Bool.or_false]) (by rw [h1]; simpa using h2) ⟨.str ⟨#[c]⟩, H, I.tok _, ⟨_, rfl⟩, q⟩) hs
/-! ### xs[i] = v, any sign -/
/-! ### slices -/
theorem slice_bounds (lo hi : Option Int) (n : Nat) : (sliceBounds lo hi none n).1 = ((HT.sIx n 0 lo : Nat) : Int) ∧ (sliceBounds lo hi none n).2.1 = ((HT.sIx n n hi : Nat) : Int) ∧ (sliceBounds lo hi none n).2.2 = 1 := by
  refine ⟨?_, ?_, rfl⟩
  · cases lo with
    | none => simp [sliceBounds, HT.sIx]
    | some i =>
      simp only [sliceBounds, HT.sIx, Option.getD_none, show (1 : Int) > 0 by decide, if_true]
      by_cases h : i < 0
      · simp only [h, if_true] <;> omega
      · simp only [h, if_false] <;> omega
  · cases hi with
    | none => simp [sliceBounds, HT.sIx]
    | some i =>
      simp only [sliceBounds, HT.sIx, Option.getD_none, show (1 : Int) > 0 by decide, if_true]
      by_cases h : i < 0
      · simp only [h, if_true] <;> omega
      · simp only [h, if_false] <;> omega
theorem slicePick_cut (its : List Value) (lo hi : Option Int) : slicePick its.toArray lo hi none = ((its.drop (HT.sIx its.length 0 lo)).take (HT.sIx its.length its.length hi - HT.sIx its.length 0 lo)).toArray := by
  obtain ⟨h1, h2, h3⟩ := slice_bounds lo hi its.toArray.size
  unfold slicePick
  rw [h1, h2, h3]
  simp only [sliceRange_one, pick_run, List.size_toArray] <;> rfl
/-- xs[lo:hi] of a list: a new list -/
def rSlL (K : PySem.W.Frag) : V → Option Int → Option Int → Hp → VK → Prop := fun x lo hi H Q => ∃ a xs, x = .ref a ∧ SqL K H a xs ∧ ∀ p, H p = none → Q (.ref p) (upd H p (.lst (cutV xs lo hi)))
theorem sl_list : SlR X (rSlL X.K) := by
  intro pins s σ H x v vl vu lo hi sl Q I rx hs pl pu h
  obtain ⟨a, xs, rfl, hx, q⟩ := h
  cases rx
  obtain ⟨its, r, ht, hz⟩ := I.list hx
  have hlen := r.length
  refine ⟨"list", _, slot_list_getitem.lookup, ht.isList.typeIs, ?_⟩
  refine wpAny_getItem_list_slice ht.isList hs pl pu .none (by simp) ?_ (by rw [List.size_toArray] <;> omega)
  rw [slicePick_cut, ← hlen]
  refine ⟨.ref s.heap.objs.size, _, I.laid (t' := s.toks) (o := .lst (cutV xs lo hi)) (fun b ob q => Heap.get?_push_of_some _ q) (Nat.le_refl _) ?_, rfl, q _ (I.hok.fresh (Nat.le_refl _))⟩
  exact ⟨Nat.le_trans (cutV_length xs lo hi) hz, _, 0, (r.drop (HT.sIx xs.length 0 lo)).take (HT.sIx xs.length xs.length hi - HT.sIx xs.length 0 lo), Heap.get?_push_size _ rfl⟩

/-! ### in, not in: flat items -/
def flatV : V → Bool
  | .non => true
  | .bl _ => true
  | .int _ => true
  | .str _ => true
  | _ => false
/-- == of flat values -/
def eqV : V → V → Bool
  | .non, .non => true
  | .bl a, .bl b => a == b
  | .bl a, .int b => (if a then 1 else 0) == b
  | .int a, .bl b => a == (if b then 1 else 0)
  | .int a, .int b => a == b
  | .str a, .str b => a == b
  | _, _ => false
theorem eqAt_V {A : Around} {s : Shared} {y x : V} {u v : Value} (ry : RelV y u) (rx : RelV x v) (fy : flatV y = true) (fx : flatV x = true) : SeqAt.EqAt A s u v (eqV y x) := by
  cases y with
  | non =>
    cases ry
    cases x with
    | non => cases rx; exact SeqAt.EqAt.same _
    | bl b => cases rx; exact SeqAt.EqAt.none_bool b
    | int b => obtain ⟨t, rfl⟩ := rx; exact SeqAt.EqAt.none_int b t
    | str b => obtain ⟨t, rfl⟩ := rx; exact SeqAt.EqAt.none_str b t
    | _ => exact absurd (show false = true from fx) Bool.false_ne_true
  | bl a =>
    cases ry
    cases x with
    | non => cases rx; exact SeqAt.EqAt.bool_none a
    | bl b => cases rx; exact SeqAt.EqAt.bool_bool a b
    | int b => obtain ⟨t, rfl⟩ := rx; exact SeqAt.EqAt.bool_int a b t
    | str b => obtain ⟨t, rfl⟩ := rx; exact SeqAt.EqAt.bool_str a b t
    | _ => exact absurd (show false = true from fx) Bool.false_ne_true
  | int a =>
    obtain ⟨t', rfl⟩ := ry
    cases x with
    | non => cases rx; exact SeqAt.EqAt.int_none a t'
    | bl b => cases rx; exact SeqAt.EqAt.int_bool a t' b
    | int b => obtain ⟨t, rfl⟩ := rx; exact SeqAt.EqAt.int_int a t' b t
    | str b => obtain ⟨t, rfl⟩ := rx; exact SeqAt.EqAt.int_str a t' b t
    | _ => exact absurd (show false = true from fx) Bool.false_ne_true
  | str a =>
    obtain ⟨t', rfl⟩ := ry
    cases x with
    | non => cases rx; exact SeqAt.EqAt.str_none a t'
    | bl b => cases rx; exact SeqAt.EqAt.str_bool a t' b
    | int b => obtain ⟨t, rfl⟩ := rx; exact SeqAt.EqAt.str_int a t' b t
    | str b => obtain ⟨t, rfl⟩ := rx; exact SeqAt.EqAt.str_str a t' b t
    | _ => exact absurd (show false = true from fx) Bool.false_ne_true
  | _ => exact absurd (show false = true from fy) Bool.false_ne_true
/-- the items' answers, read off the values (a value's own answer does not lean on its token) -/
def eqU (x : V) (u : Value) : Bool := match u with
  | .none => eqV .non x
  | .bool b => eqV (.bl b) x
  | .int i _ => eqV (.int i) x
  | .str z _ => eqV (.str z) x
  | _ => false
theorem eqU_of {x y : V} {u : Value} (r : RelV y u) (f : flatV y = true) : eqU x u = eqV y x := by
  cases y with
  | non => cases r; rfl
  | bl b => cases r; rfl
  | int i => obtain ⟨t, rfl⟩ := r; rfl
  | str z => obtain ⟨t, rfl⟩ := r; rfl
  | _ => exact absurd (show false = true from f) Bool.false_ne_true
theorem any_eqU {x : V} : ∀ {xs : List V} {us : List Value}, Vals xs us → xs.all flatV = true → us.any (eqU x) = xs.any fun y => eqV y x
  | _, _, .nil, _ => rfl
  | y :: xs, u :: us, .cons r t, f => by
    rw [List.all_cons, Bool.and_eq_true] at f
    rw [List.any_cons, List.any_cons, eqU_of r f.1, any_eqU t f.2]
theorem mem_eqAt {A : Around} {s : Shared} {x : V} {v : Value} (rx : RelV x v) (fx : flatV x = true) : ∀ {xs : List V} {us : List Value}, Vals xs us → xs.all flatV = true → ∀ u ∈ us, SeqAt.EqAt A s u v (eqU x u)
  | _, _, .nil, _ => fun u hu => by cases hu
  | y :: xs, u :: us, .cons r t, f => fun u' hu => by
    rw [List.all_cons, Bool.and_eq_true] at f
    rcases List.mem_cons.mp hu with rfl | hu
    · rw [eqU_of r f.1]; exact eqAt_V r rx f.1 fx
    · exact mem_eqAt rx fx t f.2 u' hu
def inV (x : V) (xs : List V) : Bool := xs.any fun y => eqV y x
/-- x in a list or tuple of flat items -/
def rIn (K : PySem.W.Frag) (neg : Bool) : R2 := fun x y H Q => ∃ p xs, y = .ref p ∧ (SqL K H p xs ∨ SqT K H p xs) ∧ flatV x = true ∧ xs.all flatV = true ∧ Q (.bl (if neg then !inV x xs else inV x xs)) H
theorem op_in_seq : OpR X (compareOp .In) (rIn X.K false) := by
  intro pins s σ H x y v u Q I rx ry h
  obtain ⟨p, xs, rfl, hq, fx, fs, q⟩ := h
  cases ry
  rcases hq with hq | hq
  · obtain ⟨its, r, pl, hz⟩ := I.list hq
    refine SeqAt.in_listAt (eqU x) pl.isList (fun w hw => mem_eqAt rx fx r fs w (by simpa using hw)) ⟨.bl _, H, I, rfl, ?_⟩
    rw [show its.toArray.any (eqU x) = its.any (eqU x) by simp, any_eqU r fs]
    exact q
  · obtain ⟨its, r, pl, hz⟩ := I.tuple hq
    refine SeqAt.in_tupleAt (eqU x) pl (fun w hw => mem_eqAt rx fx r fs w (by simpa using hw)) ⟨.bl _, H, I, rfl, ?_⟩
    rw [show its.toArray.any (eqU x) = its.any (eqU x) by simp, any_eqU r fs]
    exact q
/-! ### len, list(x), tuple(x) of any list or tuple that is read -/
theorem call_tuple_of : CallR X (.type "tuple") (fun xs H Q => ∃ p ys, xs = [.ref p] ∧ ((SqL X.K H p ys ∧ ∀ l, H l = none → Q (.ref l) (upd H l (.tup ys))) ∨ (SqT X.K H p ys ∧ Q (.ref p) H))) := by
  intro pins s σ H xs us Q I r h
  obtain ⟨p, ys, rfl, h⟩ := h
  obtain ⟨u, rfl, rx⟩ := vals1 r
  cases rx
  rcases h with ⟨hq, q⟩ | ⟨hq, q⟩
  · obtain ⟨its, r', pl, hz⟩ := I.list hq
    have hlen := r'.length
    refine call_tuple_list pl.isList (fun h' kp => ?_) (by simp only [List.size_toArray] <;> omega)
    have I1 : Inv X pins σ H { s with heap := h' } := I.kept (t' := s.toks) kp
    have I2 : Inv X pins σ (upd H h'.objs.size (.tup ys)) { s with heap := h'.push { cls := .type "tuple", data := .seq its.toArray } } :=
      I1.laid (t' := s.toks) (fun b o e => Heap.get?_push_of_some _ e) (Nat.le_refl _) (show ObjOk X.prog X.w _ _ _ (.tup ys) from ⟨hz, its, r', IsTup.new _ _⟩)
    exact ⟨.ref h'.objs.size, _, I2, rfl, q _ (I1.hok.fresh (Nat.le_refl _))⟩
  · obtain ⟨its, r', pl, hz⟩ := I.tuple hq
    exact call_tuple_same pl ⟨.ref p, H, I, rfl, q⟩

/-! ### the call of a builtin's method: o.m(..) -/
/-- the value is of that builtin type -/
def tyV (K : PySem.W.Frag) (T : String) (x : V) (H : Hp) : Prop := match x with
  | .str _ => T = "str"
  | .int _ => T = "int"
  | .ref p => (T = "list" ∧ ∃ xs, SqL K H p xs) ∨ (T = "tuple" ∧ ∃ o, K.lookup p = some o ∧ o.cls = .type "tuple" ∧ o.dict = none) ∨
      (T = "dict" ∧ ((∃ kvs, H p = some (.dK kvs)) ∨ ∃ kvs, H p = some (.dT kvs))) ∨ (T = "set" ∧ ∃ S n, H p = some (.set S n))
  | _ => False
theorem tyV_is {pins : List (Addr × Obj)} {σ : St} {H : Hp} {s : Shared} {T : String} {x : V} {v : Value} (I : Inv X pins σ H s) (r : RelV x v) (ty : tyV X.K T x H) :
    s.TypeIs v T ∧ ∀ a, v = .ref a → ∃ ob, s.heap.get? a = some ob ∧ ob.dict = none := by
  cases x with
  | str z =>
    obtain ⟨t, rfl⟩ := r
    cases (show T = "str" from ty)
    exact ⟨typeIs_str s z t, fun _ e => nomatch e⟩
  | int i =>
    obtain ⟨t, rfl⟩ := r
    cases (show T = "int" from ty)
    exact ⟨typeIs_int s i t, fun _ e => nomatch e⟩
  | ref p =>
    cases r
    rcases ty with ⟨rfl, xs, hq⟩ | ⟨rfl, o, hk, hc, hd⟩ | ⟨rfl, hk⟩ | ⟨rfl, S, n, hk⟩
    · obtain ⟨its, _, pl, _⟩ := I.list hq
      refine ⟨pl.isList.typeIs, fun a e => ?_⟩
      cases e
      obtain ⟨o, n, e, c, hd, _⟩ := pl
      exact ⟨o, e, hd⟩
    · refine ⟨⟨o, I.kIn p o hk, hc⟩, fun a e => ?_⟩
      cases e
      exact ⟨o, I.kIn _ o hk, hd⟩
    · have z : ∃ o, s.heap.get? p = some o ∧ o.ExactDict := by
        rcases hk with ⟨kvs, hk⟩ | ⟨kvs, hk⟩
        · obtain ⟨_, _, _, _, o, _, _, e, ex, _⟩ := I.hok p _ hk
          exact ⟨o, e, ex⟩
        · exact (show False from I.hok p _ hk).elim
      obtain ⟨o, e, ex⟩ := z
      refine ⟨⟨o, e, ex.1⟩, fun a e2 => ?_⟩
      cases e2
      exact ⟨o, e, ex.2.1⟩
    · obtain ⟨o, _, _, _, e, ex, _⟩ := I.hok p _ hk
      refine ⟨⟨o, e, ex.1⟩, fun a e2 => ?_⟩
      cases e2
      exact ⟨o, e, ex.2.1⟩
  | _ => exact False.elim ty
def tBM (K : PySem.W.Frag) (T : String) (r : V → List V → Hp → VK → Prop) (to : TE) (t : TA) : TE := fun σ H Q => to σ H fun x H1 => tyV K T x H1 ∧ t σ H1 fun xs H2 => r x xs H2 Q
variable {o e : Expr} {es : List Expr} {to : TE} {t : TA} {name : Str} {apos cpos : Pos} {T id : String} {r : V → List V → Hp → VK → Prop}
theorem pe_bm (pa : PlainAttrs T) (slot : Slot T name id) (hty : typeOf (.builtin id) = pure (.type "method_descriptor")) (hm : MtR X id r) (ho : PE X o to) (ha : PA X (e :: es) t)
    (hbase : attributeBase o name X.env (eval o X.env) = eval o X.env := by rfl)
    (hfew : ((backTo cpos (starEach (e :: es) X.env)).all (fun x => !x.1) && (backToKw cpos (keywordEach [] X.env)).all (fun x => x.1.isSome)
      && decide ((e :: es).length + ([] : List Keyword).length + (if ([] : List Keyword).isEmpty then 0 else 1) < 30)) = true := by rfl)
    (hline : (apos.endLine == cpos.line) = true := by rfl) (hs : starEach (e :: es) X.env = (false, eval e X.env) :: starEach es X.env := by rfl) (hplain : (backTo cpos (starEach es X.env)).any (·.1) = false := by rfl) :
    PE X (.Call (.Attribute o name apos) (e :: es) [] cpos) (tBM X.K T r to t) := by
  intro pins s σ H Q I h
  refine wpAny_Call_method_late hbase hfew hline rfl (thn (ho pins s σ H _ I h) fun v s1 ⟨x, H1, I1, r1, ty, q1⟩ => ?_)
  obtain ⟨h1, h2⟩ := tyV_is I1 r1 ty
  refine ⟨T, id, pa, slot, hty, h1, h2, ?_⟩
  have hA := ha cpos pins s1 σ H1 _ I1 q1
  rw [hs] at hA ⊢
  refine Calls.callWith_builtin (by show (false || (backTo cpos (starEach es X.env)).any (·.1)) = false; rw [hplain] <;> rfl) (Calls.evalArgs_plain ?_)
  exact thn hA fun us s2 ⟨vs, H2, I2, r2, q2⟩ => hm pins s2 σ H2 x vs v us Q I2 r1 r2 q2
/- xs.append(e), list.index on a module's tuple .. are MtR facts of 06m -/
end
end L2

namespace L2
open PySem PySem.Spec PyProof.Rows

def MtM (X : Cx) (id : String) (r : V → List V → Hp → VK → Prop) : Prop :=
  ∀ (pins : List (Addr × Obj)) (s : Shared) (σ : St) (H : Hp) (x : V) (xs : List V) (v : Value) (us : List Value) (Q : VK), Inv X pins σ H s → RelV x v → Vals xs us → r x xs H Q →
    wpAny (model X.prog X.w) X.A (call (.builtin id) (v :: us)) (EP X pins σ Q) X.xe s

/-! ### lists of values -/
theorem Vals.one : ∀ {x : V} {us : List Value}, Vals [x] us → ∃ u, us = [u] ∧ RelV x u
  | _, _, .cons r .nil => ⟨_, rfl, r⟩
theorem Vals.eraseIdx : ∀ {xs : List V} {us : List Value} (i : Nat), Vals xs us → Vals (xs.eraseIdx i) (us.eraseIdx i)
  | _, _, _, .nil => .nil
  | _, _, 0, .cons _ t => t
  | _, _, i + 1, .cons r t => .cons r (Vals.eraseIdx i t)
theorem len_erase {α : Type} : ∀ (l : List α) (i : Nat), (l.eraseIdx i).length ≤ l.length
  | [], _ => Nat.le_refl _
  | _ :: _, 0 => Nat.le_succ _
  | _ :: r, i + 1 => Nat.succ_le_succ (len_erase r i)
section
variable {X : Cx} {pins : List (Addr × Obj)} {σ : St} {H : Hp} {s : Shared} {l b : Addr} {xs ys zs : List V}

/-! ### the two steps: a tracked list is rewritten, a new list is laid -/
theorem Inv.lset {its its' : List Value} {n : Nat} {f : Array Value → Array Value} {t' : Nat} (I : Inv X pins σ H s) (hH : H l = some (.lst xs))
    (e : s.heap.get? l = some { cls := .type "list", data := .seq its.toArray n }) (hf : f its.toArray = its'.toArray) (hv : Vals ys its') (hz : ys.length ≤ sizeLine) :
    Inv X pins σ (upd H l (.lst ys)) { s with heap := s.heap.update l (Obj.mapSeq f), toks := t' } := by
  have q := PySem.IsL.update e f
  rw [hf] at q
  refine I.write (x := l) (e := l) (by rw [hH]; exact trivial) (.inl rfl) (fun b' u hb hu => (Heap.get?_update_other s.heap (Obj.mapSeq f) (Ne.symm hb)).trans hu) ⟨_, q⟩ ?_
  exact ⟨hz, its', _, hv, q⟩
theorem Inv.fresh (I : Inv X pins σ H s) : H s.heap.objs.size = none := I.hok.fresh (Nat.le_refl _)
theorem Inv.lstM (I : Inv X pins σ H s) (hH : H l = some (.lst xs)) : xs.length ≤ sizeLine ∧ ∃ (its : List Value) (n : Nat), Vals xs its ∧ xs.length = its.length ∧ s.heap.get? l = some { cls := .type "list", data := .seq its.toArray n } := by
  obtain ⟨z, its, n, r, e⟩ := I.hok l _ hH
  exact ⟨z, its, n, r, r.length, e⟩

end

section
variable {X : Cx}

/-! ### methods -/
def rAppend : V → List V → Hp → VK → Prop := fun x vs H Q => ∃ l xs y, x = .ref l ∧ vs = [y] ∧ H l = some (.lst xs) ∧ xs.length < sizeLine ∧ Q .non (upd H l (.lst (xs ++ [y])))
theorem mt_append : MtM X "list.append" rAppend := by
  intro pins s σ H x vs v us Q I rx rv h
  obtain ⟨l, xs, y, rfl, rfl, hH, hz, q⟩ := h
  cases rx
  obtain ⟨u, rfl, ru⟩ := rv.one
  obtain ⟨z, its, n, r, hl, e⟩ := I.lstM hH
  refine call_meets F.slot_list_append ⟨_, e, rfl⟩ F.entry_list_append (F.args_list_append_2 _ _) (PySem.list_append l its.toArray n u (by rw [List.size_toArray]; omega)) ⟨e, ?_⟩
  refine ⟨.non, _, I.lset (its' := its ++ [u]) hH e (by simp) (r.append (.cons ru .nil)) ?_, rfl, q⟩
  rw [List.length_append, List.length_singleton]
  omega

def rPopAt : V → List V → Hp → VK → Prop := fun x vs H Q => ∃ l xs i k y, x = .ref l ∧ vs = [.int i] ∧ H l = some (.lst xs) ∧ -(2 ^ 63) ≤ i ∧ i < 2 ^ 63 ∧ seqIndex? i xs.length = some k ∧ xs[k]? = some y ∧ Q y (upd H l (.lst (xs.eraseIdx k)))
theorem mt_popAt : MtM X "list.pop" rPopAt := by
  intro pins s σ H x vs v us Q I rx rv h
  obtain ⟨l, xs, i, k, y, rfl, rfl, hH, h1, h2, hk, hy, q⟩ := h
  cases rx
  obtain ⟨u, rfl, ru⟩ := rv.one
  obtain ⟨t, rfl⟩ := ru
  obtain ⟨z, its, n, r, hl, e⟩ := I.lstM hH
  obtain ⟨w, hw, rw'⟩ := r.get hy
  refine call_meets F.slot_list_pop ⟨_, e, rfl⟩ F.entry_list_pop (F.args_list_pop_2 _ _)
    (MeetsSeq.list_pop_at l its.toArray n i t k w (fitsIndex_both h1 h2) (by rw [List.size_toArray, ← hl]; exact hk) (by rw [← Array.getElem?_toList]; exact hw) (by rw [List.size_toArray]; omega)) ⟨e, ?_⟩
  refine ⟨y, _, I.lset (its' := its.eraseIdx k) hH e ?_ (r.eraseIdx k) ?_, rw', q⟩
  · show its.toArray.eraseIdxIfInBounds k = (its.eraseIdx k).toArray
    rw [List.eraseIdxIfInBounds_toArray]
  · have := len_erase xs k
    omega

/-! ### list + list, list += list, list * int -/
/-! ### del xs[i] -/
end

/-! ### xs[a:b] = ys -/
section
variable {prog : Program} {w : World} {A : Around} {E : Value → Shared → Prop} {s : Shared}
set_option maxRecDepth 100000 in
end

section
variable {X : Cx}
end
end L2

namespace Att
open PySem PySem.W PySem.Calls PyProof.Rows

/-! ### the script -/
theorem ints_of_wellAll {P : Params} {h : Heap} : ∀ (ns : List Int) (vs : List Value), WellAll P h vs (ns.map WData.int) → IntsAre vs ns := by
  intro ns
  induction ns with
  | nil =>
    intro vs w
    rw [List.map_nil] at w
    cases w
    exact .nil
  | cons n ns ih =>
    intro vs w
    rw [List.map_cons] at w
    cases w with
    | cons a b =>
      cases a
      exact .cons _ _ (ih _ b)

theorem script_of {l : OpenLaw} {n : Nat} (hn : l.most = some n) {P : Params} {h : Heap} {args : List WData} {vals : List Value}
    (hpre : l.row.toRowW.claim.pre args = true) (hwl : WellAll P h vals args) :
    ∃ a vs ns, vals = [Value.ref a] ∧ args = [WData.list (ns.map WData.int)] ∧ h.get? a = some { cls := .type "list", data := .seq vs.toArray } ∧ IntsAre vs ns ∧ ns.length ≤ n := by
  have hsh : WShape.hasAll [] args [.list .int] = true := (pre_splitW hpre).1
  have hc : l.pre.holds [] { args := args } = true := (pre_splitW hpre).2
  obtain ⟨d, r, rfl, h1, h2⟩ := hasAllW_cons hsh
  obtain rfl := hasAllW_nil h2
  obtain ⟨xs, rfl, h3⟩ := hasW_list h1
  obtain ⟨ns, rfl⟩ := items_int h3
  have hlen : ns.length ≤ n := by
    unfold OpenLaw.pre at hc
    have h4 : (WTm.not (.lt (.lit (.int (n : Int))) (.len (.arg 0)))).holds [] { args := [.list (ns.map .int)] } = true := by
      have h4 := (holds_andW hc).1
      rw [hn] at h4
      exact h4
    have h5 := condW_of h4 (w_not (w_lt w_lit (w_len_list (w_arg rfl))))
    rw [List.length_map] at h5
    refine Nat.le_of_not_lt fun q => ?_
    have q' : (n : Int) < ((ns.length : Nat) : Int) := by omega
    first
      | (rw [decide_eq_true q'] at h5; exact absurd h5 (by decide))
      | (simp at h5; omega)
  cases hwl with
  | cons w1 w2 =>
    cases w2
    cases w1 with
    | list ho hall => exact ⟨_, _, ns, rfl, rfl, ho, ints_of_wellAll ns _ hall, hlen⟩

theorem post_true (l : OpenLaw) (args : List WData) : l.row.toRowW.claim.post args (.bool true) args = true :=
  postW_of (r := l.row.toRowW) (X := (true == true))
    (show WShape.has [] (.bool true) .bool = true by first | rfl | decide | simp [WShape.has, WShape.arms, WShape.armsAll])
    (show (WTm.eq .res (.lit (.bool true))).value [] { args := args, res := some (.bool true), after := args } = some (.bool (true == true)) from w_eq_bool (w_res rfl) w_lit) rfl

/-! ### the attachment: holds_open's last premise (the goal 'hc' behind k_head) from a wpAny of the law's body -/
/-- the same from a codeAny of the CALL (for a layer whose function contracts speak of calls) -/
theorem attach_call {l : OpenLaw} {n : Nat} {q : Program} {loose : List Str} {XP : (Str → Option Value) → Heap → Prop} {YP : World → Heap → Prop} {d : DefRec}
    (hn : l.most = some n) (hdf : d.params.defaults = [])
    (call : ∀ (w : World) (s₀ s₁ : Shared) (mg mb : Str → Option Value) (fa : Addr) (o : Obj) (pm cd doc : Value) (a : Addr) (vs : List Value) (ns : List Int),
      Ground q loose [] XP w s₀ mg mb s₁.heap → YP w s₁.heap →
      s₁.heap.get? fa = some o → o.data = .func (docDef d.name d.params d.body d.scope pm cd doc) → s₁.heap.CodeRec cd d.name → mg d.name = some (.ref fa) →
      s₁.heap.get? a = some { cls := .type "list", data := .seq vs.toArray } → IntsAre vs ns → ns.length ≤ n → s₁.gens = #[] →
      codeAny (model l.prog w) callerA (.call (.ref fa) ⟨[.ref a], []⟩) (fun r s' => r = .ok (.ret (.bool true)) ∧ OldK s₁.heap s'.heap ∧ s'.os = s₁.os ∧ AllBare s'.gens) s₁) :
    WalkO q loose XP YP l.row.toRowW d [] (fun f vs => PySem.call f vs) := by
  intro w s₀ s₁ mg mb G Y fa o pm cd doc dV kV ho hd hcd hD hmg hg args vals as hpre hlay hrd hwl hlo
  obtain rfl : dV = .none := Dflts.none hD hdf
  obtain rfl : kV = .none := Dflts.noKw hD
  obtain ⟨a, vs, ns, rfl, rfl, hobj, hints, hlen⟩ := script_of hn hpre hwl
  refine enter_call (codeAny_mono (call w s₀ s₁ mg mb fa o pm cd doc a vs ns G Y ho (fd_plain hd) hcd hmg hobj hints hlen hg) fun r s' hq => ?_)
  obtain ⟨rfl, h2, h3, h4⟩ := hq
  exact ⟨.inl ⟨.bool true, .bool true, [], rfl, fun _ => rfl, .bool true, post_true l _, fun _ => ⟨List.Pairwise.nil, fun _ hm => (nomatch hm)⟩⟩, h2, h3, h4⟩

/-! ### rules over ANY heap (no ledger) from facts about the written part K: the library's own take a ledger (News) for what they write -/
section
variable {prog : Program} {w : World} {A : Around} {E : Value → Shared → Prop} {s : Shared} {K : Frag}

/-! the whole heap as the ledger: makes every rule that writes through a ledger a rule over any heap -/
def ledger (h : Heap) (L d : Addr) : List (Addr × Obj) := (List.range h.objs.size).filterMap fun a => if a = L ∨ a = d then none else (h.get? a).map fun o => (a, o)
end
end Att

namespace L2
open PySem PySem.Spec PyProof.Rows

theorem vals_ints : ∀ {vs : List Value} {ns : List Int}, IntsAre vs ns → Vals (ns.map V.int) vs
  | _, _, .nil => .nil
  | _, _, .cons n t h => .cons ⟨t, rfl⟩ (vals_ints h)

/-- nothing is tracked but the script, known to the object (or it is an object of the module) -/
def Only (H : Hp) : Prop := ∀ b, H b = none ∨ ∃ o xs, H b = some (.frz o (.lst xs))

/-- THE HEAD: the law's promise, at the heap behind the top. F, the promise of the law's def, may use that base is part of the heap (so K.In base, base.Ns mainGlobals mg stand in Mod) -/
theorem law_call {P : Program} {w : World} {K : PySem.W.Frag} {mg mb : Str → Option Value} {CX : CXT} {k : Nat} {fa a : Addr} {fd : FuncData} {x : Str} {sp : Sp} {s₁ : Shared} {vs : List Value} {ns : List Int}
    (KX : K.In s₁.heap) (hns : s₁.heap.Ns mainGlobals mg) (hb : s₁.heap.Ns builtinsNs mb) (hbb : ∀ x : Str, x ≠ "__name__" → mb x = bootBuiltins x) (hlim : s₁.heap.NoLimit) (hg : s₁.gens = #[])
    (ha : s₁.heap.get? a = some { cls := .type "list", data := .seq vs.toArray }) (hi : IntsAre vs ns) (hl : ns.length ≤ sizeLine) (hr : Room k callerA)
    (F : ∀ base : Heap, K.In base → base.Ns mainGlobals mg → FnOk P w K mg base CX k fa fd [x] sp) (hbind : ∀ (s : Shared) (u : Value), BindsTo s fd ⟨[u], []⟩ [(x, u)])
    (hsp : ∀ H : Hp, Only H → SqL K H a (ns.map V.int) → sp [.ref a] H (fun v _ => v = .bl true) fun _ _ _ => False)
    (hCX : ∀ H e s', CX [] H s₁ (fun _ _ _ => False) e s' → False) :
    codeAny (model P w) callerA (.call (.ref fa) ⟨[.ref a], []⟩) (fun r s' => r = .ok (.ret (.bool true)) ∧ OldK s₁.heap s'.heap ∧ s'.os = s₁.os ∧ AllBare s'.gens) s₁ := by
  have rv := vals_ints hi
  have lenV := hi.length
  -- from an abstract heap in which nothing but the script may be tracked
  have core : ∀ H : Hp, Only H → SqL K H a (ns.map V.int) → HOk P w H s₁.heap → (∀ b, H b ≠ none → b = a) → (H a ≠ none → K.lookup a = none) →
      codeAny (model P w) callerA (.call (.ref fa) ⟨[.ref a], []⟩) (fun r s' => r = .ok (.ret (.bool true)) ∧ OldK s₁.heap s'.heap ∧ s'.os = s₁.os ∧ AllBare s'.gens) s₁ := by
    intro H hO hS hok hA hK
    have base_of : ∀ {b : Addr} {o : Obj}, s₁.heap.get? b = some o → H b = none → (hidT s₁.heap H).get? b = some o := fun e n => hidT_get e n
    have noA : ∀ {b : Addr} {o : Obj} {es : Array DictEntry} {ep : Nat}, s₁.heap.get? b = some o → o.data = .dict es ep → H b = none := fun {b o es ep} e d => by
      cases q : H b with
      | none => rfl
      | some u =>
        have e' : b = a := hA b (by rw [q]; simp)
        subst e'
        rw [ha] at e; cases e
        have d' : Data.seq vs.toArray _ = Data.dict es ep := d
        cases d'
    have nsK : ∀ {b : Addr} {m : Str → Option Value}, s₁.heap.Ns b m → (hidT s₁.heap H).Ns b m := fun {b m} ⟨o, es, ep, e, d, r⟩ => ⟨o, es, ep, base_of e (noA e d), d, r⟩
    have hKb : K.In (hidT s₁.heap H) := fun b o e => base_of (KX b o e) (by
      cases q : H b with
      | none => rfl
      | some u =>
        have e' : b = a := hA b (by rw [q]; simp)
        subst e'
        rw [hK (by rw [q]; simp)] at e; cases e)
    have hM : Mod K mg (hidT s₁.heap H) := ⟨hKb, nsK hns, ⟨mb, nsK hb, hbb⟩, let ⟨mc, h1, h2⟩ := hlim; ⟨mc, nsK h1, h2⟩⟩
    have e0 : Env0 P w K mg (hidT s₁.heap H) callerA [] s₁ H := ⟨rfl, hM, fun b o e => of_hidT e, Nat.le_of_eq (hidT_size _ _), trivial, fun b hb => absurd (show b ∈ ([] : List Addr) from hb) (by simp), hok, .of_eq hg⟩
    refine codeAny_mono ((F _ hKb (nsK hns)).run callerA [] s₁ H ⟨[.ref a], []⟩ [.ref a] [.ref a] _ _ hr e0 (hbind s₁ (.ref a)) (.cons rfl .nil) (hsp H hO hS)) fun r s' h => ?_
    cases r with
    | error e => exact (hCX H e s' h).elim
    | ok fl =>
      cases fl with
      | next => exact False.elim h
      | brk => exact False.elim h
      | cont => exact False.elim h
      | ret u =>
        obtain ⟨v, H', os, bare, un, hok', r', q⟩ := h
        have q' : v = .bl true := q
        subst q'
        obtain rfl : u = Value.bool true := r'
        refine ⟨rfl, OldK.of_keep fun b o e => ?_, os, bare⟩
        cases q : H b with
        | none => exact un.keep b o e q (by intro z; exact absurd (show b ∈ ([] : List Addr) from z) (by simp)) (by simp)
        | some u =>
          rcases hO b with z | ⟨ob, xs, z⟩
          · rw [q] at z; cases z
          · have z2 := un.frzs b ob _ z
            obtain ⟨e1, _⟩ := hok b _ z
            obtain ⟨e2, _⟩ := hok' b _ z2
            rw [e] at e1; cases e1
            exact e2
  cases hk : K.lookup a with
  | some o =>
    -- the script is one of the module's own objects
    have e := KX a o hk
    rw [ha] at e
    cases e
    refine core (fun _ => none) (fun _ => .inl rfl) (.inr ⟨_, vs.toArray, _, hk, rfl, rfl, rfl, by rw [List.size_toArray, lenV]; exact hl, by simpa using rv⟩) (fun b u z => by have z' : (none : Option HO) = some u := z; cases z') (fun b z => absurd rfl z) fun z => absurd rfl z
  | none =>
    refine core (fun b => if b = a then some (.frz { cls := .type "list", data := .seq vs.toArray } (.lst (ns.map V.int))) else none) (fun b => ?_) (.inl (.inr ⟨{ cls := .type "list", data := .seq vs.toArray }, if_pos rfl⟩)) (fun b u z => ?_) (fun b z => ?_) fun _ => hk
    · by_cases hb : b = a
      · exact .inr ⟨_, _, if_pos hb⟩
      · exact .inl (if_neg hb)
    · by_cases hb : b = a
      · have z' := (if_pos hb).symm.trans z
        cases z'
        subst hb
        exact ⟨ha, by rw [List.length_map]; exact hl, vs, _, rv, ha⟩
      · have z' := (if_neg hb).symm.trans z
        cases z'
    · by_cases hb : b = a
      · exact hb
      · exact absurd (if_neg hb) z
end L2

namespace L2
open PySem PySem.Spec PyProof.Rows

/-- the goal that k_head leaves (case hc), from the law's promise. F gives the function object fd (K's own) once, then the promise over every base -/
theorem walk_of {l : PySem.W.OpenLaw} {n k : Nat} {q : Program} {loose : List Str} {XP : (Str → Option Value) → Heap → Prop} {YP : World → Heap → Prop} {d : DefRec} {K : Params → PySem.W.Frag} {CX : World → CXT} {sp : World → Sp} {x : Str}
    (hn : l.most = some n) (hn2 : n ≤ sizeLine) (hdf : d.params.defaults = []) (hr : Room k callerA)
    (hY : ∀ (w : World) (h : Heap), YP w h → (K w.params).In h)
    (F : ∀ (w : World) (mg : Str → Option Value) (fa : Addr) (h : Heap), (K w.params).In h → h.Ns mainGlobals mg → mg d.name = some (.ref fa) →
      ∃ fd : FuncData, (∀ (s : Shared) (u : Value), BindsTo s fd ⟨[u], []⟩ [(x, u)]) ∧
        ∀ base : Heap, (K w.params).In base → base.Ns mainGlobals mg → FnOk l.prog w (K w.params) mg base (CX w) k fa fd [x] (sp w))
    (hsp : ∀ (w : World) (H : Hp) (a : Addr) (ns : List Int), ns.length ≤ n → Only H → SqL (K w.params) H a (ns.map V.int) → sp w [.ref a] H (fun v _ => v = .bl true) fun _ _ _ => False)
    (hCX : ∀ (w : World) (H : Hp) (s : Shared) (e : Value) (s' : Shared), CX w [] H s (fun _ _ _ => False) e s' → False) :
    PySem.W.WalkO q loose XP YP l.row.toRowW d [] (fun f vs => PySem.call f vs) := by
  refine Att.attach_call hn hdf fun w s₀ s₁ mg mb fa o pm cd doc a vs ns G Y ho hd hcd hmg hobj hints hlen hg => ?_
  have KX := hY w _ Y
  obtain ⟨fd, hb, hF⟩ := F w mg fa _ KX G.T.g hmg
  exact law_call KX G.T.g G.T.b G.T.builtins G.T.nolimit hg hobj hints (Nat.le_trans hlen hn2) hr hF hb (fun H hO hS => hsp w H a ns hlen hO hS) fun H e s' => hCX w H s₁ e s'
end L2


/-! SHORT WORDS over the layer: a def of the text, its body, what a loop and a test want. -/
namespace L2
open PySem PySem.Spec PyProof.Rows

/-! ### the text by places -/
/-- the j-th statement of a class's body -/
def inClass (s : Stmt) (j : Nat) : Stmt := match s with
  | .ClassDef _ _ _ body _ _ _ _ _ _ _ => body.getD j (.Pass ⟨0, 0, 0, 0⟩)
  | _ => .Pass ⟨0, 0, 0, 0⟩
def defArgs (s : Stmt) : Arguments := match s with
  | .FunctionDef _ a _ _ _ _ _ _ _ _ => a
  | _ => { posonlyargs := [], args := [], vararg := none, kwonlyargs := [], kw_defaults := [], kwarg := none, defaults := [] }
def defBody (s : Stmt) : List Stmt := match s with
  | .FunctionDef _ _ b _ _ _ _ _ _ _ => b
  | _ => []
def defScope (s : Stmt) : Scope := match s with
  | .FunctionDef _ _ _ _ _ _ sc _ _ _ => sc
  | _ => { kind := .function, names := [], isGenerator := false, isCoroutine := false }

/-! ### no exception leaves a def -/
abbrev CX0 : CXT := fun _ _ _ _ _ _ => False
abbrev E0 : XK := fun _ _ _ => False
theorem pass0 {X : Cx} : Passes CX0 X E0 := fun _ _ _ _ _ _ _ h => h.elim

/-! ### a def (or method) of the text as it stands behind the top -/
structure Fun (K : PySem.W.Frag) (x qual : Str) (st : Stmt) (f : Addr) (fd : FuncData) : Prop where
  ex : ∃ (oc : Value) (od : Option Addr) (kV doc pm : Value) (an : Option Addr) (cdv ct : Value) (osl : Array (Option Value)),
    fd = PySem.W.fnOf x qual (defArgs st) (defBody st) (defScope st) .none kV doc pm an cdv ct ∧ K.lookup f = some ⟨oc, od, .func fd, osl⟩ ∧ PySem.W.codeIn K cdv qual = true
  kp : PySem.W.keepIn K (.ref f) = true
section
variable {P : Program} {w : World} {K : PySem.W.Frag} {mg : Str → Option Value} {base : Heap}
/-- THE RULE for a def: its body as a term of rules, and the reading of that term -/
theorem Fun.ok {x qual : Str} {st : Stmt} {f : Addr} {fd : FuncData} {N ps : List Str} {k : Nat} {sp : Sp} (F : Fun K x qual st f fd) (S : FnScope N ps (defScope st)) (len : ∀ vs H Q E, sp vs H Q E → vs.length = ps.length)
    (hbody : ∀ (cdv : Value) (A : Around) (outer : List Env) (s : Shared) (H : Hp) (vs : List V) (Q : VK) (E : XK), Room k (A.deeper (envOfC qual (defScope st) s.heap.objs.size f cdv)) → sp vs H Q E →
      ∃ t, PSs (cxOf CX0 P w K mg base N qual (defScope st) f cdv A outer s H E).nox (defBody st) t ∧ t { nx := fun _ H' => Q .non H', rt := Q } (start N vs) H) : FnOk P w K mg base CX0 (k + 1) f fd ps sp := by
  obtain ⟨oc, od, kV, doc, pm, an, cdv, ct, osl, rfl, lk, hcd⟩ := F.ex
  refine fn_of lk hcd S len fun A outer s H vs Q E hr hsp => ?_
  obtain ⟨t, h, q⟩ := hbody cdv A outer s H vs Q E hr hsp
  exact ⟨t, h.nox, q⟩
/-- how its arguments bind (no defaults): h is «fun _ _ _ _ _ _ us hl => match us, hl with | [_, _], _ => rfl», one _ a parameter -/
theorem Fun.binds {x qual : Str} {st : Stmt} {f : Addr} {fd : FuncData} {ps : List Str} (F : Fun K x qual st f fd)
    (h : ∀ (kV doc pm : Value) (an : Option Addr) (cdv ct : Value) (us : List Value), us.length = ps.length → bindArgs (PySem.W.fnOf x qual (defArgs st) (defBody st) (defScope st) .none kV doc pm an cdv ct) ⟨us, []⟩ = pure (ps.zip us)) : Binds K fd ps [] := by
  obtain ⟨oc, od, kV, doc, pm, an, cdv, ct, osl, rfl, lk, hcd⟩ := F.ex
  exact .all (h kV doc pm an cdv ct)
theorem fun_mk {x qual : Str} {st : Stmt} {f : Addr} {oc : Value} {od an : Option Addr} {osl : Array (Option Value)} {kV doc pm cdv ct : Value} (l : K.lookup f = some ⟨oc, od, .func (PySem.W.fnOf x qual (defArgs st) (defBody st) (defScope st) .none kV doc pm an cdv ct), osl⟩)
    (c : PySem.W.codeIn K cdv qual = true) (k : PySem.W.keepIn K (.ref f) = true) : Fun K x qual st f (PySem.W.fnOf x qual (defArgs st) (defBody st) (defScope st) .none kV doc pm an cdv ct) := ⟨⟨oc, od, kV, doc, pm, an, cdv, ct, osl, rfl, l, c⟩, k⟩
end
/-! ### expressions in short: the name that stands in the i-th slot -/
section
variable {X : Cx}
theorem pv (i : Nat) {x : Str} {pos : Pos} (hN : X.N[i]? = some x := by rfl) (hv : Vis X.env.scope x := by first | exact Or.inl rfl | exact Or.inr (Or.inl rfl) | exact Or.inr (Or.inr rfl)) (hd : (x == ("__debug__" : Str)) = false := by decide)
    (hcd : (x == ("__classdict__" : Str)) = false := by decide) : PE X (.Name x pos) (tVar i) := pe_var hN hv hd hcd
end

/-! ### tests -/
theorem iteF {A B : Prop} (h : B) : if false = true then A else B := by
  rw [if_neg Bool.false_ne_true]
  exact h
theorem iteT {A B : Prop} (h : A) : if true = true then A else B := by
  rw [if_pos rfl]
  exact h
/-! ### heaps -/
/-- all that was tracked is as it was -/
def Same (H H' : Hp) : Prop := ∀ b o, H b = some o → H' b = some o
theorem Same.refl (H : Hp) : Same H H := fun _ _ h => h
theorem Same.trans {H H1 H2 : Hp} (a : Same H H1) (b : Same H1 H2) : Same H H2 := fun c o h => b c o (a c o h)
theorem Same.free {H H' : Hp} (e : Same H H') {l : Addr} (h : H' l = Option.none) : H l = Option.none := by
  cases q : H l with
  | none => rfl
  | some o =>
    rw [e l o q] at h
    cases h
theorem Same.seq {K : PySem.W.Frag} {H H' : Hp} {a : Addr} {xs : List V} (e : Same H H') (h : SqL K H a xs) : SqL K H' a xs := by
  rcases h with (h | ⟨o, h⟩) | h
  · exact .inl (.inl (e _ _ h))
  · exact .inl (.inr ⟨o, e _ _ h⟩)
  · exact .inr h

end L2

section
namespace L2
open PySem PySem.Spec PyProof.Rows
/-! ### more rules: texts, ranges down, comprehensions -/
section
variable {X : Cx}
theorem op_mul_str : OpR X (binaryOp .Mult) (fun x y H Q => ∃ z i, x = .str z ∧ y = .int i ∧ i < 2 ^ 40 ∧ -(2 ^ 40) < i ∧ z.length * i.toNat ≤ sizeLine ∧ Q (.str (Txt.mul z i)) H) := by
  intro pins s σ H x y v u Q I rx ry h
  obtain ⟨z, i, rfl, rfl, h1, h2, h3, q⟩ := h
  obtain ⟨t, rfl⟩ := rx
  obtain ⟨t', rfl⟩ := ry
  refine SB.mul ⟨?_, fun h4 _ => ?_, fun h4 _ => ?_⟩ fun t' k => ⟨.str _, H, I.tok _, ⟨_, rfl⟩, q⟩
  · simp only [Bool.or_eq_false_iff, decide_eq_false_iff_not]; omega
  · intro c
    have hn : (0 : Int) < i := by omega
    have h63 := line63
    have e : (z.length : Int) * i ≤ 2 ^ 63 - 1 := by
      have : ((z.length * i.toNat : Nat) : Int) = (z.length : Int) * i := by rw [Int.natCast_mul]; congr 1; omega
      omega
    have := (Int.le_ediv_iff_mul_le hn).mpr e
    omega
  · unfold Builtin.Str.tooLong; simpa using h3
theorem call_int_text : CallR X (.type "int") (fun xs H Q => ∃ x n, xs = [.str x] ∧ PySem.intText? x = some n ∧ x.length ≤ 640 ∧ Q (.int n) H) := by
  intro pins s σ H xs us Q I r h
  obtain ⟨x, n, rfl, hn, hl, q⟩ := h
  obtain ⟨u, rfl, t, rfl⟩ := vals1 r
  exact PySem.W.KIN.call_text hn hl ⟨.int n, H, I.tok _, ⟨_, rfl⟩, q⟩
theorem sl_str : SlR X (fun x lo hi H Q => ∃ z, x = .str z ∧ z.length ≤ sizeLine ∧ Q (.str (Txt.slice z lo hi)) H) := by
  intro pins s σ H x v vl vu lo hi sl Q I rx hs pl pu h
  obtain ⟨z, rfl, hz, q⟩ := h
  obtain ⟨t, rfl⟩ := rx
  refine ⟨"str", _, F.slot_str_getitem.lookup, typeIs_str s z t, ?_⟩
  have fin : ∀ (t' : Tok) (k : Nat), EP X pins σ Q (.str (Txt.slice z lo hi) t') { s with toks := k } := fun t' k => ⟨.str _, H, I.tok _, ⟨_, rfl⟩, q⟩
  obtain ⟨o, ho, hc, hd⟩ := hs
  cases pl with
  | none =>
    cases pu with
    | none => exact wpAny_getItem_str_slice (l := none) (u := none) (st := none) ⟨o, ho, hc, hd⟩ rfl (post_val_or_str ⟨Nat.le_trans (Txt.slice_le z _ _) hz, fin⟩)
    | int j uj => exact wpAny_getItem_str_slice (l := none) (u := some (j, uj)) (st := none) ⟨o, ho, hc, hd⟩ rfl (post_val_or_str ⟨Nat.le_trans (Txt.slice_le z _ _) hz, fin⟩)
  | int i ui =>
    cases pu with
    | none => exact wpAny_getItem_str_slice (l := some (i, ui)) (u := none) (st := none) ⟨o, ho, hc, hd⟩ rfl (post_val_or_str ⟨Nat.le_trans (Txt.slice_le z _ _) hz, fin⟩)
    | int j uj => exact wpAny_getItem_str_slice (l := some (i, ui)) (u := some (j, uj)) (st := none) ⟨o, ho, hc, hd⟩ rfl (post_val_or_str ⟨Nat.le_trans (Txt.slice_le z _ _) hz, fin⟩)
/-- isinstance(x, T), T a built-in type -/
theorem call_isinst : CallR X (.builtin "isinstance") (fun xs H Q => ∃ x T t b, xs = [x, .ty T] ∧ TyOf X.K H x t ∧ PySem.W.kitOne X.K t (.type T) = some b ∧ Q (.bl b) H) := by
  intro pins s σ H xs us Q I r h
  obtain ⟨x, T, t, b, rfl, ty, e, q⟩ := h
  obtain ⟨u, w', rfl, r1, r2⟩ := vals2 r
  cases (show w' = Value.type T from r2)
  exact isinst_ok I r1 ty e fun tk => ⟨.bl b, H, I.tok _, rfl, q⟩
/-- isinstance(x, C), C a class of the text -/
theorem call_isinstC : CallR X (.builtin "isinstance") (fun xs H Q => ∃ x C t b, xs = [x, .ref C] ∧ TyOf X.K H x t ∧ PySem.W.kitOne X.K t (.ref C) = some b ∧ Q (.bl b) H) := by
  intro pins s σ H xs us Q I r h
  obtain ⟨x, C, t, b, rfl, ty, e, q⟩ := h
  obtain ⟨u, w', rfl, r1, r2⟩ := vals2 r
  cases (show w' = Value.ref C from r2)
  exact isinst_ok I r1 ty e fun tk => ⟨.bl b, H, I.tok _, rfl, q⟩
end
/-! ### a range with a step -/
section
variable {X : Cx} {tg : Expr}
end
end L2

end

section
namespace L2
open PySem PySem.Spec PyProof.Rows
/-! ### range(a, b, -1) -/
section
variable {X : Cx} {tg : Expr}
end
/-! ### a text's signs -/
def Its (x : Str) : It := ⟨fun i _ => i < x.cps.size, fun i H v H' => H' = H ∧ ∃ c, x.cps[i]? = some c ∧ v = .str ⟨#[c]⟩, fun i _ => x.cps.size ≤ i⟩
section
variable {X : Cx} {tg : Expr}
theorem turn_str {P : Program} {w : World} {K : PySem.W.Frag} {tg : Expr} (x : Str) (it : Addr) (n : String) (t : Tok) (W : ∀ A' : Around, A'.handled = none → Walks P w A' it [it] [it] x.cps.size (SignAt x) (fun i h => h.IsStrIter it n x t i))
    (hn : ["enumerate", "zip", "dict_itemiterator", "dict_reverseitemiterator", "odict_iterator", "itertools.zip_longest", "itertools.pairwise"].contains n = false)
    (hdone : ∀ (A : Around) (i : Nat) (s : Shared) (Q : Option Value → Shared → Prop) (E : Value → Shared → Prop), A.handled = none → s.heap.IsStrIter it n x t i → x.cps.size ≤ i → (∀ h', (∀ b o, b ≠ it → s.heap.get? b = some o → h'.get? b = some o) → Q none { s with heap := h' }) → wpAny (model P w) A (pyNext (.ref it)) Q E s)
    (hself : ∀ (A : Around) (i : Nat) (s : Shared) (Q : Value → Shared → Prop) (E : Value → Shared → Prop), s.heap.IsStrIter it n x t i → Q (.ref it) s → wpAny (model P w) A (pyIter (.ref it)) Q E s) :
    Turn P w K tg (Its x) [it] it (fun i h => h.IsStrIter it n x t i) where
  mem := by simp
  obj := fun i h st b hb => by
    have e : b = it := by simpa using hb
    subst e
    obtain ⟨o, ho, hc, hd⟩ := st
    exact ⟨o, ho, fun v z => by rw [hd] at z; cases z⟩
  keep := fun i h h' st k => by
    obtain ⟨o, ho, r⟩ := st
    exact ⟨o, k it (by simp) o ho, r⟩
  item := by
    intro X hP hw hK hc i pins s σ H E I hf st hg
    subst hP hw hK
    obtain ⟨f0, f1, f2, f3, f4, f5⟩ := hf it (by simp)
    refine (W X.A (I.ok.hd hc)).item i s _ _ hg st fun v h' tk hv st' kk => ?_
    obtain ⟨c, u, hc', rfl⟩ := hv
    have I1 : Inv X pins σ H { s with heap := h', toks := tk } := I.turned (fun b o hb e => kk b o (by simpa using hb) e) f0 f1 f3 f4 f5
    obtain ⟨o, ho, hcl, hd⟩ := id st'
    exact ⟨_, rfl, go_of (s := { s with heap := h', toks := tk }) (n := n) ho hcl hd hn ⟨.str ⟨#[c]⟩, H, I1, ⟨u, rfl⟩, ⟨rfl, c, hc', rfl⟩, st', fun b hb => (hf b hb).1⟩⟩
  done := by
    intro X hP hw hK hc i pins s σ H E I hf st hg
    subst hP hw hK
    obtain ⟨f0, f1, f2, f3, f4, f5⟩ := hf it (by simp)
    exact hdone X.A i s _ _ (I.ok.hd hc) st hg fun h' eb => ⟨rfl, I.turned (t' := s.toks) (fun b o hb e => eb b o hb e) f0 f1 f3 f4 f5⟩
  self := fun A i s Q E st h => hself A i s Q E st h
def iStr (tl : TE) : TI := fun σ H R => tl σ H fun x H1 => ∃ y, x = .str y ∧ R (Its y) H1
theorem pi_str {l : Expr} {tl : TE} (hl : PE X l tl) : PI X tg l (iStr tl) := by
  intro pins s σ H R I h
  refine thn (hl pins s σ H _ I h) fun v s1 ⟨x, H1, I1, r1, q1⟩ => ?_
  obtain ⟨y, e, q⟩ := q1
  subst e
  obtain ⟨t, rfl⟩ := r1
  have fin : ∀ (o : Obj) (tn : Nat → Heap → Prop), Turn X.prog X.w X.K tg (Its y) [s1.heap.objs.size] s1.heap.objs.size tn → tn 0 (s1.heap.push o) → PIE X pins σ tg R (.ref s1.heap.objs.size) { s1 with heap := s1.heap.push o } := fun o tn T h0 => by
    refine ⟨s1.heap.objs.size, [s1.heap.objs.size], tn, Its y, H1, rfl, I1.kept (t' := s1.toks) fun b o e => Heap.get?_push_of_some _ e, T, h0, fun b hb => ?_, q⟩
    have e := List.mem_singleton.mp hb
    subst e
    exact I1.fpOk (Nat.le_refl _) (I1.hok.fresh (Nat.le_refl _))
  cases ha : y.cps.all (· < 128)
  · refine wpAny_pyIter_wide ha (fin _ _ (turn_str y _ "str_iterator" t (fun A' hA => Walks.strWide hA _ y t) (by decide) (fun A i s Q E hh st hi hQ => ?_) fun A i s Q E st hq => wpAny_pyIter_striter_wide st hq) ⟨_, Heap.get?_push_size _ rfl, rfl, rfl⟩)
    exact wpAny_pyNext_wide_end hh st (by simpa using hi) fun h' he' => hQ h' fun b o hb e => he' b o hb e
  · refine wpAny_pyIter_ascii ha (fin _ _ (turn_str y _ "str_ascii_iterator" t (fun A' hA => Walks.strAscii hA _ y t) (by decide) (fun A i s Q E hh st hi hQ => ?_) fun A i s Q E st hq => wpAny_pyIter_striter_ascii st hq) ⟨_, Heap.get?_push_size _ rfl, rfl, rfl⟩)
    exact wpAny_pyNext_ascii_end hh st (by simpa using hi) fun h' he' => hQ h' fun b o hb e => he' b o hb e
end
/-! ### list comprehensions -/
/-- what is asked of a comprehension's scope: cs the names that it takes from around -/
def compScopeOk (sc : Scope) (cs : List Str) : Bool :=
  sc.kind == .function && sc.names.all (fun y => y.2 != .cell) && sc.names.all (fun y => y.2 != .local || sc.names.lookup y.1 == some .local) &&
    sc.names.all (fun y => y.2 != .free || cs.contains y.1) && cs.all (fun x => sc.names.lookup x == some .free)
/-- the captured names: place in the frame around, name -/
def CapsOk (X : Cx) : List (Nat × Str) → Prop
  | [] => True
  | (j, x) :: r => X.N[j]? = some x ∧ (X.env.kindOf x = some .cell ∨ X.env.kindOf x = some .free) ∧ CapsOk X r
theorem CapsOk.at {X : Cx} : ∀ {cs : List (Nat × Str)}, CapsOk X cs → ∀ p ∈ cs, X.N[p.1]? = some p.2 ∧ (X.env.kindOf p.2 = some .cell ∨ X.env.kindOf p.2 = some .free)
  | [], _, _, h => nomatch h
  | (j, x) :: r, ⟨h1, h2, h3⟩, p, h => by
    rcases List.mem_cons.mp h with e | e
    · subst e; exact ⟨h1, h2⟩
    · exact CapsOk.at h3 p e
def cxComp (X : Cx) (scope : Scope) (cl : List (Str × Addr)) (C : Addr) (N : List Str) (s2 : Shared) (H2 : Hp) (fp : List Addr) : Cx where
  prog := X.prog
  w := X.w
  K := X.K
  mg := X.mg
  base := X.base
  A := X.A
  N := N
  s₀ := s2
  H₀ := H2
  env := compEnvC scope cl C X.env
  outer := X.stack
  stack := X.stack
  ex := fp
  calm := X.calm
  fn := fun _ => false
  pn := []
  xe := fun _ _ => False
theorem closure_of {env : Env} : ∀ (names : List (Str × NameKind)), (∀ y ∈ names, y.2 = .free → ∃ c, env.cells.lookup y.1 = some c) →
    ∀ acc : List (Str × Addr), (∀ x c, acc.lookup x = some c → env.cells.lookup x = some c) → ∃ cl,
    (forIn names acc fun (x : Str × NameKind) r => do
      if x.2 == .free then pure (ForInStep.yield ((x.1, ← cellOf env x.1) :: r)) else pure (ForInStep.yield r) : Sem (List (Str × Addr))) = pure cl ∧
    (∀ x c, cl.lookup x = some c → env.cells.lookup x = some c) ∧ (∀ y ∈ names, y.2 = .free → ∃ c, cl.lookup y.1 = some c) ∧ ∀ x c, acc.lookup x = some c → ∃ c', cl.lookup x = some c'
  | [], _, acc, ha => ⟨acc, rfl, ha, (fun _ h => nomatch h), fun _ c h => ⟨c, h⟩⟩
  | (n, k) :: r, hn, acc, ha => by
    by_cases hk : k = .free
    · subst hk
      obtain ⟨c, hc⟩ := hn _ List.mem_cons_self rfl
      have ha' : ∀ x c', ((n, c) :: acc).lookup x = some c' → env.cells.lookup x = some c' := fun x c' e => by
        rw [List.lookup_cons] at e
        by_cases hx : x = n
        · subst hx
          rw [beq_self_eq_true] at e
          cases e
          exact hc
        · rw [beq_false_of_ne hx] at e
          exact ha x c' e
      obtain ⟨cl, e, h1, h2, h3⟩ := closure_of r (fun y hy => hn y (List.mem_cons_of_mem _ hy)) ((n, c) :: acc) ha'
      refine ⟨cl, ?_, h1, fun y hy hf => ?_, fun x c' hx => ?_⟩
      · rw [List.forIn_cons]
        simp only [cellOf, hc, beq_self_eq_true, if_true]
        exact e
      · rcases List.mem_cons.mp hy with e' | e'
        · subst e'
          exact h3 n c (by rw [List.lookup_cons, beq_self_eq_true])
        · exact h2 y e' hf
      · by_cases hxn : x = n
        · subst hxn
          exact h3 x c (by rw [List.lookup_cons, beq_self_eq_true])
        · exact h3 x c' (by rw [List.lookup_cons, beq_false_of_ne hxn]; exact hx)
    · obtain ⟨cl, e, h1, h2, h3⟩ := closure_of r (fun y hy => hn y (List.mem_cons_of_mem _ hy)) acc ha
      refine ⟨cl, ?_, h1, fun y hy hf => ?_, h3⟩
      · rw [List.forIn_cons]
        have hb : (k == NameKind.free) = false := by simpa using hk
        simp only [hb, Bool.false_eq_true, if_false]
        exact e
      · rcases List.mem_cons.mp hy with e' | e'
        · subst e'
          exact absurd hf hk
        · exact h2 y e' hf
end L2

end

section
namespace L2
open PySem PySem.Spec PyProof.Rows
/-- the turns of a comprehension over J from the block's frame σ0 on, its list at D -/
def CompGo (J : It) (g : TG) (tc : TT) (te : TE) (Q : VK) (σ0 : St) (H1 : Hp) (D : Addr) : Prop :=
  ∃ W : Nat → Nat → St → Hp → Prop, (∃ m, W 0 m σ0 (upd H1 D (.lst []))) ∧ ∀ i m σ1 H2, W i m σ1 H2 →
    (J.stop i H2 ∧ Q (.ref D) H2) ∨
    (J.go i H2 ∧ ∀ x H3, J.yld i H2 x H3 → g x σ1 H3 fun σ2 H4 => tc σ2 H4 fun b H5 =>
      if b = true then te σ2 H5 fun y H6 => ∃ xs m', H6 D = some (.lst xs) ∧ xs.length < sizeLine ∧ m' < m ∧ W (i + 1) m' σ2 (upd H6 D (.lst (xs ++ [y])))
      else ∃ m', m' < m ∧ W (i + 1) m' σ2 H5)
def tComp (wi : TI) (g : TG) (tc : TT) (te : TE) (σ0 : St → St) : TE := fun σ H Q => wi σ H fun J H1 => ∀ D, H1 D = none → CompGo J g tc te Q (σ0 σ) H1 D
def tYes : TT := fun _ H Q => Q true H
/-- the tests of a comprehension -/
def PTs (X : Cx) (ifs : List Expr) (t : TT) : Prop :=
  ∀ (pins : List (Addr × Obj)) (s : Shared) (σ : St) (H : Hp) (Q : Bool → Hp → Prop), Inv X pins σ H s → t σ H Q →
    wpAny (model X.prog X.w) X.A (forIn ifs true fun c r => if r = true then do let ok ← isTrue c X.env (eval c X.env); pure (ForInStep.yield ok) else pure (ForInStep.yield r)) (TP X pins σ Q) X.xe s
theorem pts_nil {X : Cx} : PTs X [] tYes := fun _ _ _ H _ I h => wpAny_tests_nil ⟨H, I, h⟩
section
variable {prog : Program} {w : World} {A : Around} {E : Value → Shared → Prop} {R : Result → Shared → Prop} {s : Shared}
theorem compLoop_gen {elt target iter : Expr} {ifs : List Expr} {scope : Scope} {pos : Pos} {it acc : Value} {env : Env} (I : Nat → Shared → Prop)
    (turn : ∀ n s, I n s → wpAny (model prog w) A (pyNext it) (fun r s₁ => match r with
      | none => R (.ok .next) s₁
      | some v => wpAny (model prog w) A (letOwnedTupleGo target it v) (fun _ s₁' => wpAny (model prog w) A (assign target env v) (fun _ s₂ =>
          wpAny (model prog w) A (forIn ifs true fun c r => if r = true then do let ok ← isTrue c env (eval c env); pure (ForInStep.yield ok) else pure (ForInStep.yield r)) (fun ok s₃ =>
            if ok = true then wpAny (model prog w) A (eval elt env) (fun x s₄ =>
              wpAny (model prog w) A (call (.builtin "list.append") [acc, x]) (fun _ s₅ => ∃ m, m < n ∧ I m s₅) (notedBy (model prog w) A env fun e s' => R (.error e) s') s₄) (notedBy (model prog w) A env fun e s' => R (.error e) s') s₃
            else ∃ m, m < n ∧ I m s₃) (notedBy (model prog w) A env fun e s' => R (.error e) s') s₂) (notedBy (model prog w) A env fun e s' => R (.error e) s') s₁') (notedBy (model prog w) A env fun e s' => R (.error e) s') s₁) (notedBy (model prog w) A env fun e s' => R (.error e) s') s)
    (n : Nat) (h : I n s) :
    codeAny (model prog w) A (.compLoop (.ListComp elt [⟨target, iter, ifs, 0⟩] scope pos) 0 it acc env) R s := by
  refine codeAny_loop rfl I (fun n s hI => ?_) n h
  show wpAny _ A ((compTurn (.ListComp elt [⟨target, iter, ifs, 0⟩] scope pos) 0 it acc env).onRaise (fun x => do noteFrame x env; theTreesLotGoes x)) _ _ s
  refine wpAny_noted ?_
  rw [compTurn_list]
  refine wpAny_bind (wpAny_standAt (wpAny_bind (wpAny_mono (turn n s hI) (fun r s₁ h₁ => ?_) fun _ _ h' => h')))
  cases r with
  | none => exact wpAny_pure h₁
  | some v =>
    refine wpAny_bind (wpAny_mono h₁ (fun _ s₁' h₁' => ?_) fun _ _ h' => h')
    refine wpAny_bind (wpAny_mono h₁' (fun _ s₂ h₂ => wpAny_bind (wpAny_mono h₂ (fun ok s₃ h₃ => ?_) fun _ _ h' => h')) fun _ _ h' => h')
    cases ok with
    | false => exact wpAny_pure ⟨rfl, h₃⟩
    | true =>
      exact wpAny_bind (wpAny_bind (wpAny_mono h₃ (fun x s₄ h₄ => wpAny_bind (wpAny_mono h₄ (fun _ s₅ h₅ => wpAny_pure (wpAny_pure ⟨rfl, h₅⟩)) fun _ _ h' => h')) fun _ _ h' => h'))
end
section
variable {X : Cx} {elt target iter : Expr} {ifs : List Expr} {scope : Scope} {pos p : Pos} {caps : List (Nat × Str)} {tgs : List Str} {wi : TI} {g : TG} {tc : TT} {te : TE}
/-- the block's frame at its start -/
def compSt (tgs : List Str) (caps : List (Nat × Str)) : St → St := fun σ => List.replicate tgs.length none ++ caps.map fun p => (σ[p.1]?).join
theorem relabel_free {env : Env} : ∀ {names : List (Str × NameKind)} {x : Str}, names.lookup x = some .free →
    ((names.map fun (n, k) => if (k == NameKind.free && env.scope.kind == .function && env.kindOf n == some .cell) then (n, NameKind.cell) else (n, k)).lookup x = some .cell ∨
     (names.map fun (n, k) => if (k == NameKind.free && env.scope.kind == .function && env.kindOf n == some .cell) then (n, NameKind.cell) else (n, k)).lookup x = some .free)
  | [], _, h => by cases h
  | (n, k) :: r, x, h => by
    rw [List.lookup_cons] at h
    rw [List.map_cons]
    by_cases hx : x = n
    · subst hx
      rw [beq_self_eq_true] at h
      cases h
      dsimp only
      split
      · exact .inl (by rw [List.lookup_cons, beq_self_eq_true])
      · exact .inr (by rw [List.lookup_cons, beq_self_eq_true])
    · rw [beq_false_of_ne hx] at h
      have ih := relabel_free (env := env) h
      dsimp only
      split <;> (rw [List.lookup_cons, beq_false_of_ne hx]; exact ih)
theorem relabel_back {env : Env} : ∀ {names : List (Str × NameKind)} {x : Str}, ((names.map fun (n, k) => if (k == NameKind.free && env.scope.kind == .function && env.kindOf n == some .cell) then (n, NameKind.cell) else (n, k)).lookup x = some .cell ∨
     (names.map fun (n, k) => if (k == NameKind.free && env.scope.kind == .function && env.kindOf n == some .cell) then (n, NameKind.cell) else (n, k)).lookup x = some .free) → (∀ y ∈ names, y.2 ≠ .cell) → names.lookup x = some .free
  | [], _, h, _ => by rcases h with h | h <;> cases h
  | (n, k) :: r, x, h, hn => by
    rw [List.lookup_cons]
    by_cases hx : x = n
    · subst hx
      rw [beq_self_eq_true]
      have hk := hn _ List.mem_cons_self
      rw [List.map_cons] at h
      dsimp only at h
      split at h
      · rename_i c
        simp only [Bool.and_eq_true, beq_iff_eq] at c
        exact congrArg some c.1.1
      · rw [List.lookup_cons, beq_self_eq_true] at h
        rcases h with h | h
        · cases h; exact absurd rfl hk
        · exact h
    · rw [beq_false_of_ne hx]
      refine relabel_back (env := env) ?_ fun y hy => hn y (List.mem_cons_of_mem _ hy)
      rw [List.map_cons] at h
      dsimp only at h
      split at h <;> (rw [List.lookup_cons, beq_false_of_ne hx] at h; exact h)
theorem mem_lookup_free : ∀ {names : List (Str × NameKind)} {x : Str} {k : NameKind}, names.lookup x = some k → (x, k) ∈ names
  | [], _, _, h => by cases h
  | (n, k') :: r, x, k, h => by
    rw [List.lookup_cons] at h
    by_cases hx : x = n
    · subst hx
      rw [beq_self_eq_true] at h
      cases h
      exact List.mem_cons_self
    · rw [beq_false_of_ne hx] at h
      exact List.mem_cons_of_mem _ (mem_lookup_free h)
set_option maxHeartbeats 1000000
theorem comp_core {use : Option (Value → Sem Unit)} {Qf : Value → Shared → Prop} {pins : List (Addr × Obj)} {σ : St} {H : Hp} {s : Shared} {Q : VK}
    (hc : X.calm = true) (hsc : compScopeOk scope (caps.map (·.2)) = true) (hcap : CapsOk X caps) (hi : PI X target iter wi)
    (hg : ∀ cl C s2 H2 fp, PG (cxComp X scope cl C (tgs ++ caps.map (·.2)) s2 H2 fp) target g)
    (ht : ∀ cl C s2 H2 fp, PTs (cxComp X scope cl C (tgs ++ caps.map (·.2)) s2 H2 fp) ifs tc)
    (he : ∀ cl C s2 H2 fp, PE (cxComp X scope cl C (tgs ++ caps.map (·.2)) s2 H2 fp) elt te)
    (I : Inv X pins σ H s) (h : tComp wi g tc te (compSt tgs caps) σ H Q)
    (fin : ∀ D C H' s', Inv X pins σ H' s' → Q (.ref D) H' → H' C = none → C ≠ X.env.locals → X.s₀.heap.objs.size ≤ C → (∀ x c, X.env.cells.lookup x = some c → c ≠ C) → (∀ p ∈ X.pn ++ pins, p.1 ≠ C) → (∃ m, s'.heap.Ns C m) →
      compPost (model X.prog X.w) X.A X.xe use Qf (.ref D) C (.ok .next) s')
    (hs : ∀ x, foldedSetIterable iter X.env x = pure x := by intro _; rfl) :
    wpAny (model X.prog X.w) X.A (comprehension (.ListComp elt [⟨target, iter, ifs, 0⟩] scope pos) scope X.env p (newList []) false (eval iter X.env) use) Qf X.xe s := by
  simp only [compScopeOk, Bool.and_eq_true, List.all_eq_true, beq_iff_eq, bne_iff_ne, Bool.or_eq_true, List.contains_iff_mem] at hsc
  obtain ⟨⟨⟨⟨k1, k2⟩, k3⟩, k4⟩, k5⟩ := hsc
  have hnames : ∀ y ∈ scope.names, y.2 = .local → scope.names.lookup y.1 = some .local := fun y hy hl => (k3 y hy).resolve_left fun z => z hl
  have capAt := hcap.at
  have hfr : ∀ y ∈ scope.names, y.2 = .free → ∃ c, X.env.cells.lookup y.1 = some c := fun y hy hf => by
    have hm := (k4 y hy).resolve_left fun z => z hf
    obtain ⟨q, hq, e⟩ := List.mem_map.mp hm
    have := (capAt q hq).2
    rw [e] at this
    exact I.ok.has _ this
  obtain ⟨cl, hcl, hin, hall, _⟩ := closure_of scope.names hfr [] (fun x c e => by cases e)
  have hclos : closureFor scope X.env = pure cl := by
    refine (show closureFor scope X.env = (_ >>= pure) from rfl).trans ((congrArg (· >>= pure) hcl).trans ?_)
    rfl
  refine wpAny_comprehension_free (use := use) rfl hs hclos k1 hnames (thn (hi pins s σ H _ I h) fun v s1 h1 => thn h1 fun itv s2 h2 => ?_)
  obtain ⟨it, fp, tn, J, H2, e, I2, T, st2, f2, hW⟩ := h2
  subst e
  have fD : H2 s2.heap.objs.size = none := I2.fresh
  obtain ⟨W, ⟨m0, w0⟩, turn⟩ := hW _ fD
  refine wpAny_newObj_type (wpAny_newFunctionEnv k2 (by intro y hy; simp at hy) (fun h₁ hns₁ hsb₁ => ?_) k1)
  dsimp only at hns₁ hsb₁ ⊢
  generalize hH3 : s2.heap.push { cls := .type "list", dict := none, data := .seq ([] : List Value).toArray } = H3 at hns₁ hsb₁ ⊢
  have hC : H3.objs.size = s2.heap.objs.size + 1 := by rw [← hH3, Heap.size_push]
  have hDC : s2.heap.objs.size ≠ H3.objs.size := by rw [hC]; exact Nat.ne_of_lt (Nat.lt_succ_self _)
  have hCle : s2.heap.objs.size ≤ H3.objs.size := by rw [hC]; exact Nat.le_succ _
  have below : ∀ b, b < s2.heap.objs.size → b ≠ H3.objs.size := fun b hb => by rw [hC]; exact Nat.ne_of_lt (Nat.lt_succ_of_lt hb)
  have old : ∀ b o, s2.heap.get? b = some o → h₁.get? b = some o := fun b o e => hsb₁.extBut b o (below b (Heap.lt_size e)) (Heap.get?_push_of_some _ (hH3 ▸ Heap.get?_push_of_some _ e))
  have hacc : h₁.get? s2.heap.objs.size = some { cls := .type "list", dict := none, data := .seq ([] : List Value).toArray } := hsb₁.extBut _ _ hDC (Heap.get?_push_of_some _ (hH3 ▸ Heap.get?_push_size _ rfl))
  have fC : H2 H3.objs.size = none := I2.hok.fresh hCle
  have fpl : ∀ b ∈ fp, b < s2.heap.objs.size := fun b hb => by
    obtain ⟨o, ho, _⟩ := T.obj _ _ st2 b hb
    exact Heap.lt_size ho
  -- the block's context
  let X' := cxComp X scope cl H3.objs.size (tgs ++ caps.map (·.2)) s2 H2 fp
  have ok' : X'.Ok := by
    refine ⟨I2.ok.mod, k1, I2.ok.glob, I2.ok.blt, hCle, fun x y c hx hy => I2.ok.inj x y c (hin _ _ hx) (hin _ _ hy), fun x hx => ?_, (fun x c hf => nomatch hf), I2.ok.hd, I2.ok.frames, .inl rfl, fun b hb => ⟨below b (fpl b hb), fun x c hx => (f2 b hb).2.2.2.2.1 x c (hin _ _ hx)⟩, I2.bs,
      Nat.le_trans I2.ok.bsz I2.sz, fun b o e hb => ?_, fun b hb z => ?_, I2.stack, I2.stkFree⟩
    · exact hall (x, .free) (mem_lookup_free (relabel_back hx k2)) rfl
    · rcases (f2 b hb).2.2.2.1 with z | z
      · exact I2.ok.noex b o e z
      · exact absurd (Nat.lt_of_lt_of_le (Heap.lt_size e) I2.ok.bsz) (Nat.not_lt.mpr z)
    · rcases List.mem_cons.mp (I2.stkSub b z) with q | q
      · exact (f2 b hb).2.1 q
      · exact (f2 b hb).2.2.1 q
  have un4 : Un (frs X.stack) fp H2 (upd H2 s2.heap.objs.size (.lst [])) s2.heap h₁ := Un.laid old (Nat.le_refl _) fD
  have hok4 : HOk X.prog X.w (upd H2 s2.heap.objs.size (.lst [])) h₁ := I2.hok.laid old (Nat.le_refl _) ⟨Nat.zero_le _, [], 0, .nil, hacc⟩
  have I4 : ∀ tk, Inv X' [] (compSt tgs caps σ) (upd H2 s2.heap.objs.size (.lst [])) { s2 with heap := h₁, toks := tk } := fun tk => by
    refine ⟨ok', rfl, I2.bare, un4, ⟨_, hns₁, fun i x v e1 e2 e3 => ?_⟩, fun x c hx => ?_, ?_, fun x c hx => ?_, fun q hq => ?_, hok4, ?_⟩
    · -- a captured name
      obtain ⟨m2, _, hl2⟩ := I2.loc
      have hlt : tgs.length ≤ i := by
        rcases Nat.lt_or_ge i tgs.length with z | z
        · have : (compSt tgs caps σ)[i]? = some none := by
            unfold compSt
            rw [List.getElem?_append_left (by simpa using z), List.getElem?_replicate, if_pos z]
          rw [this] at e2
          cases e2
        · exact z
      have e1' : (tgs ++ caps.map (·.2))[i]? = some x := e1
      rw [List.getElem?_append_right hlt, List.getElem?_map] at e1'
      have e2' : (caps.map fun p => (σ[p.1]?).join)[i - tgs.length]? = some (some v) := by
        have : (compSt tgs caps σ)[i]? = (caps.map fun p => (σ[p.1]?).join)[i - tgs.length]? := by
          unfold compSt
          rw [List.getElem?_append_right (by simpa using hlt), List.length_replicate]
        rw [← this]
        exact e2
      rw [List.getElem?_map] at e2'
      cases hq : caps[i - tgs.length]? with
      | none => rw [hq] at e1'; cases e1'
      | some q =>
        rw [hq] at e1' e2'
        obtain rfl : q.2 = x := Option.some.inj e1'
        have e2'' : (σ[q.1]?).join = some v := Option.some.inj e2'
        have hσ : σ[q.1]? = some (some v) := by
          cases z : σ[q.1]? with
          | none => rw [z] at e2''; cases e2''
          | some y => rw [z] at e2''; exact congrArg some e2''
        have hqm : q ∈ caps := List.mem_of_getElem? hq
        obtain ⟨n1, n2⟩ := capAt q hqm
        have hvis : Vis X.env.scope q.2 := by
          rcases n2 with z | z
          · exact .inr (.inl z)
          · exact .inr (.inr z)
        obtain ⟨u, ru, lk⟩ := hl2 q.1 q.2 v n1 hσ hvis
        have hfree : scope.names.lookup q.2 = some .free := k5 q.2 (List.mem_map_of_mem hqm)
        refine ⟨u, ru, .inr ⟨relabel_free hfree, ?_⟩⟩
        rcases lk with ⟨z, _⟩ | ⟨_, c, hcc, oc, hoc, hocd⟩
        · rcases n2 with y | y <;> (rw [y] at z; cases z)
        · obtain ⟨c', hc'⟩ := hall (q.2, .free) (mem_lookup_free hfree) rfl
          have := hin _ _ hc'
          rw [hcc] at this
          cases this
          exact ⟨c, hc', oc, old _ _ hoc, hocd⟩
    · obtain ⟨v, o, ho, hd⟩ := I2.cell x c (hin _ _ hx)
      exact ⟨v, o, old _ _ ho, hd⟩
    · show upd H2 s2.heap.objs.size (.lst []) H3.objs.size = none
      rw [upd_ne (Ne.symm hDC)]
      exact fC
    · have hcf := I2.freeC x c (hin _ _ hx)
      obtain ⟨v, o, ho, hd⟩ := I2.cell x c (hin _ _ hx)
      rw [upd_ne (Nat.ne_of_lt (Heap.lt_size ho))]
      exact hcf
    · have : q ∈ ([] : List (Addr × Obj)) := hq
      cases this
    · show (compSt tgs caps σ).length = (tgs ++ caps.map (·.2)).length
      simp [compSt]
  have stat : ∀ {pins' : List (Addr × Obj)} {H' : Hp}, (∀ b ∈ fp, H' b = none) → (∀ q ∈ pins', q.1 ∉ fp) → ∀ b ∈ fp, FpOk X' pins' H' b := fun hn hp b hb =>
    ⟨hn b hb, below b (fpl b hb), fun z => by
      rcases List.mem_cons.mp (I2.stkSub b z) with q | q
      · exact (f2 b hb).2.1 q
      · exact (f2 b hb).2.2.1 q, .inl hb, fun x c hx => (f2 b hb).2.2.2.2.1 x c (hin _ _ hx), fun q hq z => hp q hq (z ▸ hb)⟩
  have noPin : ∀ q ∈ ([] : List (Addr × Obj)), q.1 ∉ fp := fun _ z => nomatch z
  have tn0 : tn 0 h₁ := T.keep _ _ _ st2 fun b hb o e => old b o e
  have fr0 : ∀ b ∈ fp, (upd H2 s2.heap.objs.size (.lst [])) b = none := fun b hb => by
    rw [upd_ne (Nat.ne_of_lt (fpl b hb))]
    exact (f2 b hb).1
  have loop : ∀ s₃ : Shared, s₃ = { s2 with heap := h₁, toks := s2.toks + ([] : List (Str × Value)).length } →
      codeAny (model X.prog X.w) X.A (.compLoop (.ListComp elt [⟨target, iter, ifs, 0⟩] scope pos) 0 (.ref it) (.ref s2.heap.objs.size) (compEnvC scope cl H3.objs.size X.env))
        (compPost (model X.prog X.w) X.A X.xe use Qf (.ref s2.heap.objs.size) H3.objs.size) s₃ := by
    rintro s₃ rfl
    refine compLoop_gen (fun n s' => ∃ i σ' H', Inv X' [] σ' H' s' ∧ tn i s'.heap ∧ (∀ b ∈ fp, H' b = none) ∧ W i n σ' H') ?_ m0 ⟨0, _, _, I4 _, tn0, fr0, w0⟩
    rintro n s3 ⟨i, σ3, H3', I3, st3, fr3, w3⟩
    rcases turn i n σ3 H3' w3 with ⟨stop, qn⟩ | ⟨go, step⟩
    · refine thn (T.done X' rfl rfl rfl hc i [] s3 σ3 H3' _ I3 (stat fr3 noPin) st3 stop) fun r s4 ⟨hr, I4'⟩ => ?_
      subst hr
      have un := I4'.base
      refine fin _ _ H3' s4 (I2.call' I4'.os un I4'.hok I4'.bare fun b hb => ?_) qn I4'.free ?_ (Nat.le_trans I2.sz hCle) ?_ ?_ ?_
      · exact ⟨(f2 b hb).2.2.2.1, (f2 b hb).2.1, (f2 b hb).2.2.2.2.1, (f2 b hb).2.2.2.2.2⟩
      · exact Ne.symm (below _ I2.lt)
      · intro x c hx
        obtain ⟨v, o, ho, hd⟩ := I2.cell x c hx
        exact below c (Heap.lt_size ho)
      · intro q hq
        obtain ⟨e, _⟩ := I2.pin q hq
        exact below _ (Heap.lt_size e)
      · obtain ⟨m, hm, _⟩ := I4'.loc
        exact ⟨m, hm⟩
    · refine thn (T.item X' rfl rfl rfl hc i [] s3 σ3 H3' _ I3 (stat fr3 noPin) st3 go) fun r s4 ⟨u, hr, h4⟩ => ?_
      subst hr
      refine thn h4 fun _ s5 ⟨x, H5, I5, r5, y5, st5, fr5⟩ => ?_
      have I5' := I5.pinned (stat fr5 noPin) (T.obj _ _ st5)
      refine wpAny_mono (hg _ _ _ _ _ _ s5 σ3 H5 x u _ I5' r5 (step x H5 y5)) (fun _ s6 ⟨σ6, H6, I6, q6⟩ => ?_) fun _ _ z => z.elim
      have again : ∀ {σ7 : St} {H7 : Hp} {s7 : Shared} {m' : Nat}, Inv X' ([] ++ pinsAt fp s5.heap) σ7 H7 s7 → m' < n → W (i + 1) m' σ7 H7 → ∃ m, m < n ∧ ∃ i σ' H', Inv X' [] σ' H' s7 ∧ tn i s7.heap ∧ (∀ b ∈ fp, H' b = none) ∧ W i m σ' H' := fun {σ7 H7 s7 m'} I7 hm w7 => by
        refine ⟨m', hm, i + 1, σ7, H7, I7.unpinned, T.keep _ _ _ st5 fun b hb o e => (I7.pin (b, o) (List.mem_append_right _ (List.mem_append_right _ (mem_pinsAt hb e)))).1, fun b hb => ?_, w7⟩
        obtain ⟨o, e, d⟩ := T.obj _ _ st5 b hb
        exact (I7.pin (b, o) (List.mem_append_right _ (List.mem_append_right _ (mem_pinsAt hb e)))).2.1
      refine wpAny_mono (ht _ _ _ _ _ _ s6 σ6 H6 _ I6 q6) (fun ok s7 ⟨H7, I7, q7⟩ => ?_) fun _ _ z => z.elim
      cases ok with
      | false =>
        obtain ⟨m', hm, w7⟩ := q7
        exact again I7 hm w7
      | true =>
        refine wpAny_mono (he _ _ _ _ _ _ s7 σ6 H7 _ I7 q7) (fun yv s8 ⟨y, H8, I8, r8, q8⟩ => ?_) fun _ _ z => z.elim
        obtain ⟨xs, m', hD, hz, hm, w8⟩ := q8
        refine wpAny_mono (mt_append (X := X') _ s8 σ6 H8 (.ref s2.heap.objs.size) [y] (.ref s2.heap.objs.size) [yv] (fun _ H9 => W (i + 1) m' σ6 H9) I8 rfl (.cons r8 .nil) ⟨_, xs, y, rfl, rfl, hD, hz, w8⟩) (fun _ s9 ⟨_, H9, I9, _, q9⟩ => ?_) fun _ _ z => z.elim
        exact again I9 hm q9
  exact codeAny_compStart_list (loop _ rfl) (T.self _ 0 _ _ _ tn0 (loop _ rfl))
/-- what a block's rule may hang on -/
abbrev BK (α : Type) := List (Str × Addr) → Addr → Shared → Hp → List Addr → α
/-- [elt for target in iter if test] -/
theorem pe_comp {g : BK TG} {tc : BK TT} {te : BK TE} (tgs : List Str) (caps : List (Nat × Str)) (hc : X.calm = true) (hsc : compScopeOk scope (caps.map (·.2)) = true) (hcap : CapsOk X caps) (hi : PI X target iter wi)
    (hg : ∀ cl C s2 H2 fp, PG (cxComp X scope cl C (tgs ++ caps.map (·.2)) s2 H2 fp) target (g cl C s2 H2 fp))
    (ht : ∀ cl C s2 H2 fp, PTs (cxComp X scope cl C (tgs ++ caps.map (·.2)) s2 H2 fp) ifs (tc cl C s2 H2 fp))
    (he : ∀ cl C s2 H2 fp, PE (cxComp X scope cl C (tgs ++ caps.map (·.2)) s2 H2 fp) elt (te cl C s2 H2 fp))
    (eg : ∀ cl C s2 H2 fp, g cl C s2 H2 fp = g [] 0 X.s₀ X.H₀ [] := by intros; rfl) (et : ∀ cl C s2 H2 fp, tc cl C s2 H2 fp = tc [] 0 X.s₀ X.H₀ [] := by intros; rfl) (ee : ∀ cl C s2 H2 fp, te cl C s2 H2 fp = te [] 0 X.s₀ X.H₀ [] := by intros; rfl)
    (hs : ∀ x, foldedSetIterable iter X.env x = pure x := by intro _; rfl) :
    PE X (.ListComp elt [⟨target, iter, ifs, 0⟩] scope pos) (tComp wi (g [] 0 X.s₀ X.H₀ []) (tc [] 0 X.s₀ X.H₀ []) (te [] 0 X.s₀ X.H₀ []) (compSt tgs caps)) := by
  intro pins s σ H Q I h
  rw [eval_ListComp]
  refine comp_core (use := none) hc hsc hcap hi (fun cl C s2 H2 fp => eg cl C s2 H2 fp ▸ hg cl C s2 H2 fp) (fun cl C s2 H2 fp => et cl C s2 H2 fp ▸ ht cl C s2 H2 fp) (fun cl C s2 H2 fp => ee cl C s2 H2 fp ▸ he cl C s2 H2 fp) I h (fun D C H' s' I' q hC h1 h2 h3 h4 ⟨m, hm⟩ => ?_) hs
  refine ⟨m, hm, fun h' hsb => ?_⟩
  exact ⟨.ref D, H', I'.turned (t' := s'.toks) (fun b o hb e => hsb.extBut b o hb e) hC h1 (.inr h2) h3 h4, rfl, q⟩
/-- name = [elt for target in iter if test] -/
theorem ps_setComp {g : BK TG} {tc : BK TT} {te : BK TE} {i : Nat} {y : Str} {py spos : Pos} (tgs : List Str) (caps : List (Nat × Str)) (hN : X.N.Nodup) (hiN : X.N[i]? = some y) (hy : X.env.scope.names.lookup y = some .local) (hc : X.calm = true) (hsc : compScopeOk scope (caps.map (·.2)) = true) (hcap : CapsOk X caps) (hi : PI X target iter wi)
    (hg : ∀ cl C s2 H2 fp, PG (cxComp X scope cl C (tgs ++ caps.map (·.2)) s2 H2 fp) target (g cl C s2 H2 fp))
    (ht : ∀ cl C s2 H2 fp, PTs (cxComp X scope cl C (tgs ++ caps.map (·.2)) s2 H2 fp) ifs (tc cl C s2 H2 fp))
    (he : ∀ cl C s2 H2 fp, PE (cxComp X scope cl C (tgs ++ caps.map (·.2)) s2 H2 fp) elt (te cl C s2 H2 fp))
    (eg : ∀ cl C s2 H2 fp, g cl C s2 H2 fp = g [] 0 X.s₀ X.H₀ [] := by intros; rfl) (et : ∀ cl C s2 H2 fp, tc cl C s2 H2 fp = tc [] 0 X.s₀ X.H₀ [] := by intros; rfl) (ee : ∀ cl C s2 H2 fp, te cl C s2 H2 fp = te [] 0 X.s₀ X.H₀ [] := by intros; rfl)
    (hsw : swapsWith (.ListComp elt [⟨target, iter, ifs, 0⟩] scope pos) (some (.Name y py)) spos.line X.env = pure true := by rfl)
    (hs : ∀ x, foldedSetIterable iter X.env x = pure x := by intro _; rfl) :
    PS X (.Assign [.Name y py] (.ListComp elt [⟨target, iter, ifs, 0⟩] scope pos) spos) (tAsg (tComp wi (g [] 0 X.s₀ X.H₀ []) (tc [] 0 X.s₀ X.H₀ []) (te [] 0 X.s₀ X.H₀ []) (compSt tgs caps)) (gName i)) := by
  intro pins s σ H D I h
  rw [exec_Assign_Name_used _ _ _ _ hsw]
  refine wpAny_bind (wpAny_standAt (wpAny_bind ?_))
  show wpAny _ X.A (do let _ ← comprehension (.ListComp elt [⟨target, iter, ifs, 0⟩] scope pos) scope X.env _ (newList []) false (eval iter X.env) (some (assign (.Name y py) X.env))) _ _ s
  refine wpAny_bind (thn (comp_core (use := some (assign (.Name y py) X.env)) (Qf := fun _ s' => SP X pins D .next s') hc hsc hcap hi (fun cl C s2 H2 fp => eg cl C s2 H2 fp ▸ hg cl C s2 H2 fp) (fun cl C s2 H2 fp => et cl C s2 H2 fp ▸ ht cl C s2 H2 fp) (fun cl C s2 H2 fp => ee cl C s2 H2 fp ▸ he cl C s2 H2 fp) I h (fun Dd C H' s' I' q hC h1 h2 h3 h4 ⟨m, hm⟩ => ?_) hs) fun _ s' hq => wpAny_pure (wpAny_pure hq))
  show wpAny _ X.A (assign (.Name y py) X.env (.ref Dd)) _ _ _
  refine wpAny_assign_Name (store_ok2 I' hN hiN (.inl hy) (v := .ref Dd) rfl (fun s'' I'' ⟨a, hsb, ha⟩ => ?_) (.inr hy))
  have hCa : C ≠ a := by
    rcases ha with z | z
    · rw [z]; exact h1
    · exact Ne.symm (h3 _ _ z)
  refine ⟨m, hm.sameBut hsb hCa, fun h' hsb' => ?_⟩
  exact ⟨_, H', I''.turned (t' := s''.toks) (fun b o hb e => hsb'.extBut b o hb e) hC h1 (.inr h2) h3 h4, q⟩
end
end L2

end

section
namespace L2
open PySem PySem.Spec PyProof.Rows
/-! ### what is no longer asked may be forgotten -/
def OwnIn (H : Hp) (a : Addr) : HO → Prop
  | .ins _ dx _ => H dx = some (.own a)
  | .frz _ u => OwnIn H a u
  | _ => True
def Closed (H : Hp) : Prop := ∀ a o, H a = some o → OwnIn H a o
theorem OwnIn.of {P : Program} {w : World} {H : Hp} {h : Heap} {a : Addr} {o : HO} (x : ObjOk P w H h a o) : OwnIn H a o := by
  induction o with
  | ins C dx fs => exact x.1
  | frz ob u ih => exact ih x.2
  | _ => trivial
theorem HOk.closed {P : Program} {w : World} {H : Hp} {h : Heap} (x : HOk P w H h) : Closed H := fun a o e => OwnIn.of (x a o e)
theorem OwnIn.mono {H H' : Hp} {a : Addr} {o : HO} (s : ∀ b u, H b = some u → H' b = some u) (x : OwnIn H a o) : OwnIn H' a o := by
  induction o with
  | ins C dx fs => exact s _ _ x
  | frz ob u ih => exact ih x
  | _ => trivial
theorem ObjOk.sub {P : Program} {w : World} {H H' : Hp} {h : Heap} {a : Addr} {o : HO} (x : ObjOk P w H' h a o) (ow : OwnIn H a o) : ObjOk P w H h a o := by
  induction o with
  | ins C dx fs => exact ⟨ow, x.2⟩
  | frz ob u ih => exact ⟨x.1, ih x.2 ow⟩
  | lst _ => exact x
  | tup _ => exact x
  | dK _ => exact x
  | dT _ => exact x
  | set _ _ => exact x
  | own _ => exact x
  | xd _ => exact x
  | met _ _ => exact x
  | rng _ _ => exact x
  | tbl _ => exact x
  | ext _ => exact x
/-- from H on, H' was reached; of it H'' is still asked -/
structure Sub (H H'' H' : Hp) : Prop where
  le : Same H'' H'
  ge : ∀ b o, H b = some o → ∃ u, H'' b = some u
  cl : Closed H → Closed H''
theorem Sub.refl {H H' : Hp} (h : Same H H') : Sub H H H' := ⟨h, fun _ o e => ⟨o, e⟩, id⟩
theorem Sub.all {H H' : Hp} (h : ∀ b o, H b = some o → ∃ u, H' b = some u) (c : Closed H → Closed H') : Sub H H' H' := ⟨Same.refl _, h, c⟩
theorem same_new {H : Hp} {p : Addr} {o : HO} (h : H p = none) : Same H (upd H p o) := fun b u q => by rw [upd_ne (ne_of_none q h)]; exact q
theorem closed_new {H : Hp} {p : Addr} {o : HO} (c : Closed H) (h : H p = none) (ho : OwnIn (upd H p o) p o) : Closed (upd H p o) := fun a u e => by
  by_cases z : a = p
  · subst z; rw [upd_same] at e; cases e; exact ho
  · rw [upd_ne z] at e
    exact (c a u e).mono (same_new h)
theorem Sub.new {H H' : Hp} {p : Addr} {o : HO} (h : H p = none) (hs : Same H H') (e : H' p = some o) (ho : OwnIn (upd H p o) p o) : Sub H (upd H p o) H' :=
  ⟨fun b u q => by
    by_cases z : b = p
    · subst z; rw [upd_same] at q; cases q; exact e
    · rw [upd_ne z] at q; exact hs b u q, fun b u q => ⟨u, same_new h b u q⟩, fun c => closed_new c h ho⟩
section
variable {X : Cx} {pins : List (Addr × Obj)} {σ : St} {H H' H'' : Hp} {s s0 : Shared}
theorem Un.sub {fs ex : List Addr} {H0 : Hp} {h h1 h2 : Heap} (u0 : Un fs ex H0 H h h1) (u : Un fs ex H0 H' h h2) (d : Sub H H'' H') : Un fs ex H0 H'' h h2 := by
  refine ⟨u.keep, u.slot, fun b o e n hx => ?_, u.there, fun b xs e => ?_, fun b o v e => ?_, fun b ps e => ?_⟩
  · cases q : H'' b with
    | none => rfl
    | some v => have := d.le b v q; rw [u.free b o e n hx] at this; cases this
  · obtain ⟨v, hv⟩ := d.ge b _ (u0.tups b xs e)
    have := d.le b v hv; rw [u.tups b xs e] at this; cases this; exact hv
  · obtain ⟨z, hv⟩ := d.ge b _ (u0.frzs b o v e)
    have := d.le b z hv; rw [u.frzs b o v e] at this; cases this; exact hv
  · obtain ⟨m0, e0⟩ := u0.tbls b ps e
    obtain ⟨z, hv⟩ := d.ge b _ e0
    obtain ⟨m, e1⟩ := u.tbls b ps e
    have := d.le b z hv; rw [e1] at this; cases this; exact ⟨m, hv⟩
theorem HOk.sub {P : Program} {w : World} {h : Heap} (x : HOk P w H' h) (c : Closed H'') (d : Same H'' H') : HOk P w H'' h := fun a o e => (x a o (d a o e)).sub (c a o e)
end
/-- a def's promise, less asked behind it -/
theorem FnOk.keep {P : Program} {w : World} {K : PySem.W.Frag} {mg : Str → Option Value} {base : Heap} {k : Nat} {f : Addr} {fd : FuncData} {ps : List Str} {sp sp' : Sp} (F : FnOk P w K mg base CX0 k f fd ps sp)
    (h : ∀ vs H Q E, sp' vs H Q E → sp vs H (fun v H' => ∃ H'', Sub H H'' H' ∧ Q v H'') E) : FnOk P w K mg base CX0 k f fd ps sp' := by
  refine ⟨fun vs H Q E q => F.len vs H _ E (h vs H Q E q), fun A outer s H args us vs Q E hr e0 hb r q => codeAny_mono (F.run A outer s H args us vs _ E hr e0 hb r (h vs H Q E q)) fun rs s' c => ?_⟩
  cases rs with
  | error e => exact c
  | ok fl =>
    cases fl with
    | ret u =>
      obtain ⟨v, H', os, bare, un, hok, rv, H'', d, q'⟩ := c
      exact ⟨v, H'', os, bare, Un.sub (Un.refl (h := s.heap)) un d, hok.sub (d.cl e0.hok.closed) d.le, rv, q'⟩
    | next => exact c
    | brk => exact c
    | cont => exact c
/-- THE RULE for a def without refusals: its body as a term of rules, the reading of that term, less asked behind it -/
theorem Fun.okK {P : Program} {w : World} {K : PySem.W.Frag} {mg : Str → Option Value} {base : Heap} {x qual : Str} {st : Stmt} {f : Addr} {fd : FuncData} {N ps : List Str} {k : Nat} {sp : Sp} (F : Fun K x qual st f fd) (S : FnScope N ps (defScope st)) (len : ∀ vs H Q E, sp vs H Q E → vs.length = ps.length)
    (hbody : ∀ (cdv : Value) (A : Around) (outer : List Env) (s : Shared) (H : Hp) (vs : List V) (Q : VK) (E : XK), Room k (A.deeper (envOfC qual (defScope st) s.heap.objs.size f cdv)) → sp vs H Q E →
      ∃ t, PSs (cxOf CX0 P w K mg base N qual (defScope st) f cdv A outer s H E).nox (defBody st) t ∧ t { nx := fun _ H' => ∃ H'', Sub H H'' H' ∧ Q .non H'', rt := fun v H' => ∃ H'', Sub H H'' H' ∧ Q v H'' } (start N vs) H) : FnOk P w K mg base CX0 (k + 1) f fd ps sp :=
  (F.ok (sp := fun vs H Q E => ∃ Q', Q = (fun v H' => ∃ H'', Sub H H'' H' ∧ Q' v H'') ∧ sp vs H Q' E) S (fun vs H Q E ⟨Q', _, h⟩ => len vs H Q' E h) (fun cdv A outer s H vs Q E hr ⟨Q', e, h⟩ => by
    subst e
    exact hbody cdv A outer s H vs Q' E hr h)).keep fun vs H Q E h => ⟨Q, rfl, h⟩
end L2

end

section
namespace KM
/-! bits, the higher ones first -/
def bitsW (n : Nat) : Nat → List Bool
  | 0 => []
  | w + 1 => n.testBit w :: bitsW n w
def blen (n : Nat) : Nat := if n = 0 then 0 else n.log2 + 1
theorem blen_le {n w : Nat} (h : n < 2 ^ w) : blen n ≤ w := by
  unfold blen
  split
  · omega
  · rename_i h0
    exact (Nat.log2_lt h0).mpr h
/-- reading: from a on -/
def rd (a : Nat) (l : List Bool) : Nat := l.foldl (fun x b => 2 * x + b.toNat) a
theorem rd_nil (a : Nat) : rd a [] = a := rfl
/-! order: at the first place where they part the one has 0, the other 1 -/
/-! the row of a count -/
def cend (e : Nat) : List Bool := if e = 8 then [] else [false]
def cnt (n : Nat) : List Bool :=
  List.replicate (blen (blen (n + 1)) - 1) true ++ (cend (blen (blen (n + 1))) ++ (bitsW (blen (n + 1)) (blen (blen (n + 1)) - 1) ++ bitsW (n + 1) (blen (n + 1) - 1)))
/-! the row of a whole number -/
end KM
namespace KM
/-- where the parts of a count's row lie -/
structure CntAt (L : List Bool) (p n : Nat) : Prop where
  ones : ∀ j, j < blen (blen (n + 1)) - 1 → L.getD (p + j) false = true
  zero : blen (blen (n + 1)) < 8 → L.getD (p + (blen (blen (n + 1)) - 1)) false = false
  size : (L.drop (p + (blen (blen (n + 1)) - 1) + (cend (blen (blen (n + 1)))).length)).take (blen (blen (n + 1)) - 1) = bitsW (blen (n + 1)) (blen (blen (n + 1)) - 1)
  more : (L.drop (p + (blen (blen (n + 1)) - 1) + (cend (blen (blen (n + 1)))).length + (blen (blen (n + 1)) - 1))).take (blen (n + 1) - 1) = bitsW (n + 1) (blen (n + 1) - 1)
  fits : p + (cnt n).length ≤ L.length
end KM

end

section
namespace KM
open PySem L2
/-! ### rows as texts -/
def bc (b : Bool) : Nat := if b then 49 else 48
def rowS (l : List Bool) : Str := ⟨(l.map bc).toArray⟩
/-! joined, cut -/
theorem sliceIx (lo hi : Option Int) (n : Nat) : Builtin.Str.strSliceIndices lo hi 1 n = (List.range (HT.sIx n n hi - HT.sIx n 0 lo)).map (HT.sIx n 0 lo + ·) := by
  unfold Builtin.Str.strSliceIndices
  rw [← sliceRange_one]
  simp only [show ((1 : Int) > 0) = True from eq_true (by decide), if_true]
  congr 1
  · cases lo with
    | none => rfl
    | some i =>
      simp only [HT.sIx]
      by_cases h : i < 0
      · simp only [h, if_true]; omega
      · simp only [h, if_false]; omega
  · cases hi with
    | none => rfl
    | some i =>
      simp only [HT.sIx]
      by_cases h : i < 0
      · simp only [h, if_true]; omega
      · simp only [h, if_false]; omega
theorem slice_cps (x : Str) (lo hi : Option Int) : (Txt.slice x lo hi).cps.toList = (x.cps.toList.drop (HT.sIx x.length 0 lo)).take (HT.sIx x.length x.length hi - HT.sIx x.length 0 lo) := by
  have hl : x.cps.toList.length = x.length := by simp [Str.length]
  have h1 := HT.sIx_le x.length x.length (Nat.le_refl _) hi
  have h2 := HT.sIx_le x.length 0 (Nat.zero_le _) lo
  unfold Txt.slice
  rw [sliceIx]
  split
  · rename_i c
    simp only [List.length_map, List.length_range, Bool.and_eq_true, beq_iff_eq] at c
    have a0 : HT.sIx x.length 0 lo = 0 ∨ x.length = 0 := by omega
    rcases a0 with a0 | a0
    · rw [a0, List.drop_zero, List.take_of_length_le (by omega)]
    · have : x.cps.toList = [] := List.length_eq_zero_iff.mp (by omega)
      rw [this]; simp
  · rw [pick_run]
/-! order -/
/-! one sign -/
theorem bits_eq (n : Nat) : Builtin.Int.intBits ((n : Nat) : Int) = blen n := by
  unfold Builtin.Int.intBits blen
  by_cases h : n = 0
  · subst h; rfl
  · have : (((n : Nat) : Int) == 0) = false := by simpa using h
    rw [this, if_neg (by decide), if_neg h]
    simp
end KM
namespace KM
open PySem L2
end KM

end

section
namespace L2
open PySem PySem.Spec PyProof.Rows
/-! ### one rule for each operation, whatever it is given -/
section
variable {X : Cx}
def oAdd := OpR.or (op_add (X := X)) op_add_str
theorem oSub : OpR X (binaryOp .Sub) (rI0 fun i j => .int (i - j)) := op_sub
def oMul := OpR.or (op_mul (X := X)) op_mul_str
def oLt := OpR.or (op_lt (X := X)) op_lt_str
def iAll := IxR.or (IxR.or (ix_list (X := X)) ix_tup) ix_str
def slAll := SlR.or (sl_list (X := X)) sl_str
theorem PI.or {tg it : Expr} {wi wi' : TI} (h : PI X tg it wi) (h' : PI X tg it wi') : PI X tg it (fun σ H R => wi σ H R ∨ wi' σ H R) := fun pins s σ H R I q => q.elim (h pins s σ H R I) (h' pins s σ H R I)
theorem piAll {tg l : Expr} {tl : TE} (hl : PE X l tl) : PI X tg l (fun σ H R => iList X.K tl σ H R ∨ iStr tl σ H R) := (pi_list hl).or (pi_str hl)
end
/-! ### defs by name -/
/-- a def of the text stands at the top -/
def FunAt (K : PySem.W.Frag) (mg : Str → Option Value) (x : Str) (st : Stmt) (ps : List Str) (f : Addr) (fd : FuncData) : Prop := Fun K x x st f fd ∧ Binds K fd ps [] ∧ mg x = some (.ref f)
/-- a def keeps its promise -/
def DefOk (P : Program) (w : World) (K : PySem.W.Frag) (mg : Str → Option Value) (base : Heap) (k : Nat) (x : Str) (ps : List Str) (sp : Sp) : Prop :=
  ∃ f fd, FnOk P w K mg base CX0 k f fd ps sp ∧ Binds K fd ps [] ∧ PySem.W.keepIn K (.ref f) = true ∧ mg x = some (.ref f)
def MethOk (P : Program) (w : World) (K : PySem.W.Frag) (mg : Str → Option Value) (base : Heap) (k : Nat) (C : Addr) (m : Str) (ps : List Str) (sp : Sp) : Prop :=
  ∃ f fd, FnOk P w K mg base CX0 k f fd ps sp ∧ Binds K fd ps [] ∧ Meth K C m f
def MakeOk (P : Program) (w : World) (K : PySem.W.Frag) (mg : Str → Option Value) (base : Heap) (k : Nat) (x : Str) (C : Addr) (ps : List Str) (sp : Sp) : Prop :=
  ∃ f fd, Mk K C f ∧ FnOk P w K mg base CX0 k f fd ps sp ∧ Binds K fd ps [] ∧ mg x = some (.ref C)
def GlobV (mg : Str → Option Value) (x : Str) (v : V) : Prop := ∃ u, mg x = some u ∧ RelV v u
section
variable {X : Cx} {k k' : Nat} {x m : Str} {C : Addr} {ps : List Str} {sp : Sp} {e o : Expr} {es : List Expr} {t : TA} {ta : TE} {p pos apos : Pos} {v : V}
theorem pe_globV (h : GlobV X.mg x v) (hg : Gl X x := by rfl) (hd : (x == ("__debug__" : Str)) = false := by decide +kernel) : PE X (.Name x p) (tC v) := by
  obtain ⟨u, h1, h2⟩ := h
  exact pe_glob hg h1 h2 hd
theorem pe_callD (h : DefOk X.prog X.w X.K X.mg X.base k x ps sp) (hr : Room k' X.A) (ha : PA X (e :: es) t) (hk : k ≤ k' := by decide) (hg : Gl X x := by rfl) (hdb : (x == ("__debug__" : Str)) = false := by decide +kernel)
    (he : starEach (e :: es) X.env = (false, eval e X.env) :: starEach es X.env := by rfl) (hpl : (backTo pos (starEach es X.env)).any (·.1) = false := by rfl) : PE X (.Call (.Name x p) (e :: es) [] pos) (tCall sp [] E0 t) := by
  obtain ⟨f, fd, F, hb, kp, hm⟩ := h
  exact pe_call F (hr.mono hk) hg hm kp hb .nil pass0 ha hdb he hpl
theorem pe_methD {pl : Sem Bool} (h : MethOk X.prog X.w X.K X.mg X.base k C m ps sp) (c : Cls X.K C) (hr : Room k' X.A) (he : PE X o ta) (ha : PA X (e :: es) t) (hk : k ≤ k' := by decide)
    (hst : starEach (e :: es) X.env = (false, eval e X.env) :: starEach es X.env := by rfl) (hpl : (backTo pos (starEach es X.env)).any (·.1) = false := by rfl)
    (ht : eval (.Call (.Attribute o m apos) (e :: es) [] pos) X.env = (do
      let ov ← eval o X.env
      standAt apos.atName
      let (f, first) ← holding [ov] (getMethod ov m pl)
      callWith pos f first (backTo pos (starEach (e :: es) X.env)) (backToKw pos (keywordEach [] X.env))) := by rfl) :
    PE X (.Call (.Attribute o m apos) (e :: es) [] pos) (tMeth C m sp [] E0 ta t) := by
  obtain ⟨f, fd, F, hb, hm⟩ := h
  exact pe_meth he c hm F (hr.mono hk) hb .nil pass0 ha hst hpl ht
theorem pe_makeD (h : MakeOk X.prog X.w X.K X.mg X.base k x C ps sp) (hr : Room k' X.A) (ha : PA X (e :: es) t) (hk : k + 1 ≤ k' := by decide) (hg : Gl X x := by rfl) (hdb : (x == ("__debug__" : Str)) = false := by decide +kernel)
    (he : starEach (e :: es) X.env = (false, eval e X.env) :: starEach es X.env := by rfl) (hpl : (backTo pos (starEach es X.env)).any (·.1) = false := by rfl) : PE X (.Call (.Name x p) (e :: es) [] pos) (tMake C sp [] E0 t) := by
  obtain ⟨f, fd, M, F, hb, hm⟩ := h
  exact pe_make M F (hr.mono hk) hg hm hb .nil pass0 ha hdb he hpl
end
/-- THE RULE for a def without refusals, by name -/
theorem FunAt.ok {P : Program} {w : World} {K : PySem.W.Frag} {mg : Str → Option Value} {base : Heap} {x : Str} {st : Stmt} {f : Addr} {fd : FuncData} {N ps : List Str} {k : Nat} {sp : Sp} (F : FunAt K mg x st ps f fd) (S : FnScope N ps (defScope st)) (len : ∀ vs H Q E, sp vs H Q E → vs.length = ps.length)
    (hbody : ∀ (cdv : Value) (A : Around) (outer : List Env) (s : Shared) (H : Hp) (vs : List V) (Q : VK) (E : XK), Room k (A.deeper (envOfC x (defScope st) s.heap.objs.size f cdv)) → sp vs H Q E →
      ∃ t, PSs (cxOf CX0 P w K mg base N x (defScope st) f cdv A outer s H E).nox (defBody st) t ∧ t { nx := fun _ H' => ∃ H'', Sub H H'' H' ∧ Q .non H'', rt := fun v H' => ∃ H'', Sub H H'' H' ∧ Q v H'' } (start N vs) H) : DefOk P w K mg base (k + 1) x ps sp :=
  ⟨f, fd, F.1.okK S len hbody, F.2.1, F.1.kp, F.2.2⟩
end L2
namespace L2
open PySem PySem.Spec PyProof.Rows
section
variable {X : Cx} {e : Expr} {pos : Pos}
theorem oEq : OpR X (compareOp .Eq) rEq := op_eq
theorem oNe : OpR X (compareOp .NotEq) rNe := op_ne
theorem oLe : OpR X (compareOp .LtE) (rI0 fun i j => .bl (decide (i ≤ j))) := op_le
theorem oGt : OpR X (compareOp .Gt) (rI0 fun i j => .bl (decide (j < i))) := op_gt
theorem CallR.or' {f : Value} {r r' : List V → Hp → VK → Prop} (h : CallR X f r) (h' : CallR X f r') : CallR X f (fun xs H Q => r xs H Q ∨ r' xs H Q) := fun pins s σ H xs us Q I rv q => q.elim (h pins s σ H xs us Q I rv) (h' pins s σ H xs us Q I rv)
def call_intA := CallR.or' (call_int1 (X := X)) call_int_text
def call_isinstA := CallR.or' (call_isinst (X := X)) call_isinstC
/-- not e, as a value -/
theorem pe_notA {ta : TE} (ha : PE X e ta) : PE X (.UnaryOp .Not e pos) (fun σ H Q => ta σ H fun x H' => ∃ k, TruV X.K x H' k ∧ Q (.bl (!k)) H') := by
  intro pins s σ H Q I h
  refine UnaryOp_ (thn (ha pins s σ H _ I h) fun v s1 ⟨x, H1, I1, r1, k, tv, q1⟩ => ?_)
  exact not_of (thn (tru_ok pins s1 σ H1 x v (fun b H' => b = k ∧ Q (.bl (!k)) H') I1 r1 ⟨k, tv, rfl, q1⟩) fun b s2 ⟨H2, I2, e, q2⟩ => by subst e; exact ⟨.bl (!b), H2, I2, rfl, q2⟩)
end
end L2
namespace L2
open PySem
theorem bo_int : bootBuiltins "int" = some (.type "int") := by decide +kernel
theorem bo_bool : bootBuiltins "bool" = some (.type "bool") := by decide +kernel
theorem bo_tuple : bootBuiltins "tuple" = some (.type "tuple") := by decide +kernel
theorem bo_len : bootBuiltins "len" = some (.builtin "len") := by decide +kernel
theorem bo_isinstance : bootBuiltins "isinstance" = some (.builtin "isinstance") := by decide +kernel
theorem bo_min : bootBuiltins "min" = some (.builtin "min") := by decide +kernel
theorem bo_abs : bootBuiltins "abs" = some (.builtin "abs") := by decide +kernel
theorem bo_all : bootBuiltins "all" = some (.builtin "all") := by decide +kernel
end L2

end

section
namespace L2
open PySem PySem.Spec PyProof.Rows KM
theorem upd_upd' {H : Hp} {a : Addr} {o u : HO} : upd (upd H a o) a u = upd H a u := by
  funext b
  unfold upd
  split <;> rfl
/-- a comprehension without tests whose element leaves the heap as it was -/
theorem comp_all {J : It} {g : TG} {te : TE} {Q : VK} {H : Hp} {D : Addr} {σ0 : St} (n : Nat) (xs fe : Nat → V) (S : St → Prop) (hn : n ≤ sizeLine) (h0 : S σ0)
    (hgo : ∀ i H, i < n → J.go i H) (hstop : ∀ H, J.stop n H) (hy : ∀ i H x H', i < n → J.yld i H x H' → H' = H ∧ x = xs i)
    (ht : ∀ i σ1 H1, i < n → S σ1 → ∀ R : St → V → Hp → Prop, (∀ σ2, S σ2 → R σ2 (fe i) H1) → g (xs i) σ1 H1 fun σ2 H2 => te σ2 H2 fun y H3 => R σ2 y H3)
    (hq : Q (.ref D) (upd H D (.lst ((List.range n).map fe)))) :
    CompGo J g tYes te Q σ0 H D := by
  refine ⟨fun i m σ1 H2 => i ≤ n ∧ m = n - i ∧ S σ1 ∧ H2 = upd H D (.lst ((List.range i).map fe)), ⟨n, Nat.zero_le _, rfl, h0, rfl⟩, ?_⟩
  rintro i m σ1 H2 ⟨h1, rfl, h2, rfl⟩
  rcases Nat.lt_or_ge i n with z | z
  · refine .inr ⟨hgo i _ z, fun x H3 y => ?_⟩
    obtain ⟨rfl, rfl⟩ := hy i _ x H3 z y
    refine ht i σ1 _ z h2 (fun σ2 y H6 => ∃ xs m', H6 D = some (.lst xs) ∧ xs.length < sizeLine ∧ m' < n - i ∧ (i + 1 ≤ n ∧ m' = n - (i + 1) ∧ S σ2 ∧ upd H6 D (.lst (xs ++ [y])) = upd H D (.lst ((List.range (i + 1)).map fe)))) fun σ2 q3 => ?_
    refine ⟨_, n - (i + 1), upd_same, ?_, by omega, by omega, rfl, q3, ?_⟩
    · rw [List.length_map, List.length_range]; omega
    · rw [upd_upd', List.range_succ, List.map_append]; rfl
  · have e : i = n := by omega
    subst e
    exact .inl ⟨hstop _, hq⟩
end L2
namespace L2
open PySem
theorem upd_self' {H : Hp} {a : Addr} {o : HO} (h : H a = some o) : upd H a o = H := by
  funext b
  unfold upd
  split
  · rename_i e; rw [e, h]
  · rfl
end L2
namespace KM
end KM
namespace L2
open PySem
theorem kit_same (K : PySem.W.Frag) (t : Value) : PySem.W.kitOne K t t = some true := by
  unfold PySem.W.kitOne; rw [beq_self_eq_true, if_pos rfl]
end L2
namespace KM
open PySem L2
end KM
namespace KM
end KM

end

section
namespace L2
open PySem PySem.Spec PyProof.Rows
/-! ### an exception in flight: its class, its own dict, its record T; fl: the frame that it is noted at -/
/-- behind a station: all but e, T and the frames is kept, the frames up to their slots -/
structure Stn (fs : List Addr) (e : Addr) (T : Option Addr) (h h' : Heap) : Prop where
  keep : ∀ b o, b ≠ e → some b ≠ T → b ∉ fs → h.get? b = some o → h'.get? b = some o
  slot : ∀ b o, b ≠ e → some b ≠ T → h.get? b = some o → ∃ sl, h'.get? b = some { o with slots := sl }
section
variable {M : Model} {A : Around} {E : Value → Shared → Prop} {s : Shared} {base : Heap} {env : Env} {outer : List Env} {L e T : Addr} {oe : Obj} {vs : Array Value} {head : Value} {hadNext : Bool} {Q : Unit → Shared → Prop} {cls : Value} {d : Option Addr} {fl : Value}
end
end L2

end

section
namespace L2
open PySem PySem.Spec PyProof.Rows
/-! ### how an exception of a class of the text lies behind a call -/
section
variable {P : Program} {w : World} {K : PySem.W.Frag} {mg : Str → Option Value} {base : Heap} {N : List Str} {qual : Str} {scope : Scope} {f : Addr} {cdv : Value} {A : Around} {outer : List Env} {s : Shared} {H : Hp} {E : XK}
end
section
variable {P : Program} {w : World} {K : PySem.W.Frag} {mg : Str → Option Value} {base : Heap} {N : List Str} {qual : Str} {scope : Scope} {f : Addr} {cdv : Value} {A : Around} {outer : List Env} {s : Shared} {H : Hp} {E : XK}
end
end L2

end

section
namespace L2
open PySem PySem.W PySem.Spec PyProof.Rows
/-! ### a class of exceptions of the text, as the fragment's deciders have it -/
structure ExcC (K : Frag) (C : Addr) : Prop where
  ga : findIn K (.ref C) "__getattribute__" = some (some (.builtin "BaseException.__getattribute__"))
  gt : findIn K (.ref C) "__getattr__" = some none
  cl : findIn K (.ref C) "__class__" = some (some (.builtin "object.__class__"))
  ob : mroIn K C (.type "object") = some true
  be : mroIn K C (.type "BaseException") = some true
  is : isClsIn K C = true
  hn : specialIn K (.builtin "object.__class__") "__get__" = some (some (.builtin "getset_descriptor.__get__"))
  tk : takesIn K (.builtin "object.__class__") = some true
section
variable {K : Frag} {prog : Program} {w : World} {A : Around} {E : Value → Shared → Prop} {h : Heap} {g : Array GenState} {d : Drawn} {t : Nat} {os : OsState} {x C : Addr} {ox : Obj} {odo : Option Obj} {name : Str}
end
end L2

end

section
namespace L2
open PySem PySem.W PySem.Spec PyProof.Rows
/-! ### defs that refuse -/
section
variable {P : Program} {w : World} {K : PySem.W.Frag} {mg : Str → Option Value} {base : Heap}
end
/-! ### calls whose exceptions may depend on the names' values -/
section
variable {X : Cx} {k k' : Nat} {x : Str} {ps : List Str} {sp : Sp} {e : Expr} {es : List Expr} {t : TA} {p pos : Pos} {E : St → XK}
end
/-! ### raise C(..), C an own class without __init__ -/
abbrev bmV : List Value := [.type "ValueError", .type "Exception", .type "BaseException", .type "object"]
structure ClsAt (K : Frag) (h : Heap) (C : Addr) : Prop where
  ex : ∃ (bm : List Value) (N : Addr) (nm q : Str) (bs : List Value) (hdct : Bool) (sn : List Str) (sub : List Value) (ab : Bool) (col : Option Bool) (dd : Option Addr) (k0 k1 k2 k3 k5 : Option Value) (mN : Str → Option Value),
    h.get? C = some (excClassObj nm q C N bs bm hdct sn sub ab col dd k0 k1 k2 k3 k5 "ValueError.__new__") ∧ h.Ns N mN ∧ mN "__init__" = none ∧ OwnTail h bmV bm
end L2

end

section
namespace L2
open PySem PySem.W PySem.Spec PyProof.Rows
section
variable {X : Cx} {pins : List (Addr × Obj)} {σ : St} {H1 H2 : Hp} {s1 s2 : Shared} {h' : Heap} {a C T T' : Addr} {d : Option Addr}
end
/-! ### try -/
end L2

end

section
namespace L2
open PySem PySem.W PySem.Spec PyProof.Rows
section
variable {X : Cx}
/-! ### lists of bools -/
/-- * of numbers of up to a million bits -/
theorem op_mulB : OpR X (binaryOp .Mult) (rI (fun i j => Builtin.Int.intBits i ≤ 2 ^ 20 ∧ Builtin.Int.intBits j ≤ 2 ^ 20) fun i j => .int (i * j)) := opI fun _ _ _ _ _ _ _ hc q => mul_int q (IntMulOk.of_bits hc.1 hc.2)
theorem room64 {k : Nat} {A : Around} (hr : Room k A) : A.units + 64 < cLine := by have := hr.un; omega
end
/-! ### a def that answers or refuses -/
section
variable {X : Cx} {k1 k2 k' : Nat} {x : Str} {ps : List Str} {sp1 sp2 : Sp} {e : Expr} {es : List Expr} {t : TA} {p pos : Pos} {E : St → XK}
end
end L2
namespace L2
open PySem
end L2

end

section
namespace L2
open PySem PySem.W PySem.Spec PyProof.Rows PySem.Builtin.ObjectAttr
/-! ### an attribute laid on a new exception -/
def overV : List Value → Bool
  | .ref _ :: r => overV r
  | l => l == bmV
structure ExcS (K : Frag) (C : Addr) : Prop extends ExcC K C where
  sa : findIn K (.ref C) "__setattr__" = some (some (.builtin "object.__setattr__"))
  ov : (clsIn K C).any (fun cd => overV cd.mro) = true
  hd : hasDictIn K C = true
section
variable {K : Frag} {prog : Program} {w : World} {A : Around} {E : Value → Shared → Prop} {s : Shared} {x C : Addr} {ox : Obj} {od : Option Obj} {name : Str} {v : Value}
end
end L2

end

section
namespace L2
open PySem PySem.W PySem.Spec PyProof.Rows
/-! ### a class of exceptions with an __init__ of the text -/
def excInI (K : Frag) (C f : Addr) : Bool := match K.lookup C with
  | some ⟨.type "type", _, .cls cd, sl⟩ => (match cd.mro, sl.toList with
    | .ref C' :: bm, [_, _, _, _, some (.builtin n), _] => C' == C && n == "ValueError.__new__" && !cd.hasDel && tailIn K bmV bm && nsOkIn K cd.ns && nsIn K cd.ns "__init__" == some (some (.ref f))
    | _, _ => false)
  | _ => false
structure ClsAtI (h : Heap) (C f : Addr) : Prop where
  ex : ∃ (bm : List Value) (N : Addr) (nm q : Str) (bs : List Value) (hdct : Bool) (sn : List Str) (sub : List Value) (ab : Bool) (col : Option Bool) (dd : Option Addr) (k0 k1 k2 k3 k5 : Option Value) (mN : Str → Option Value),
    h.get? C = some (excClassObj nm q C N bs bm hdct sn sub ab col dd k0 k1 k2 k3 k5 "ValueError.__new__") ∧ h.Ns N mN ∧ mN "__init__" = some (.ref f) ∧ OwnTail h bmV bm
section
variable {prog : Program} {w : World} {A : Around} {E : Value → Shared → Prop} {h : Heap} {g : Array GenState} {d : Drawn} {t : Nat} {os : OsState}
variable {nm q : Str} {C N : Addr} {bs bm bmB : List Value} {hdct : Bool} {sn : List Str} {sub : List Value} {ab : Bool} {col : Option Bool} {dd : Option Addr} {k0 k1 k2 k3 k5 : Option Value} {B Bn newId nid initId inN : String} {bmN : List Value}
end
structure XMk (K : Frag) (mg : Str → Option Value) (x : Str) (C f : Addr) : Prop where
  xi : excInI K C f = true
  fn : typeIn K (.ref f) = some (.type "function")
  kp : keepIn K (.ref C) = true
  be : mroIn K C (.type "BaseException") = some true
  ty : typeIn K (.ref C) = some (.type "type")
  gm : mg x = some (.ref C)
end L2

end

section
namespace L2
open PySem PySem.W PySem.Spec PyProof.Rows
/-! ### f-strings of texts and small ints -/
abbrev TJ := Str → St → Hp → VK → Prop
section
variable {X : Cx} {e o : Expr} {es : List Expr} {te ta tv : TE} {t : TJ} {pos : Pos}
end
/-! ### B.__init__(self, ..), B an own base without __init__ -/
section
variable {X : Cx} {x : Str} {C D f : Addr} {np apos pos : Pos} {e : Expr} {es : List Expr} {t : TA}
end
/-! ### self.place = .. in __init__ -/
end L2

end

section
namespace L2
open PySem PySem.W PySem.Spec PyProof.Rows
/-! ### methods that answer or refuse -/
section
variable {X : Cx} {k1 k2 k' : Nat} {C : Addr} {m : Str} {ps : List Str} {sp1 sp2 : Sp} {e o : Expr} {es : List Expr} {t : TA} {ta : TE} {p pos apos : Pos} {E : St → XK}
end
end L2
namespace L2
open PySem PySem.Spec PyProof.Rows
end L2

end

section
namespace KM
open PySem L2
end KM

end

section
namespace L2
open PySem PySem.W PySem.Spec PyProof.Rows
section
variable {X : Cx}
end
end L2
namespace KM
open PySem L2
end KM

end

section
namespace L2
open PySem PySem.W PySem.Spec PyProof.Rows
/-! ### great numbers -/
section
variable {X : Cx}
def CDivB (i j : Int) : Prop := 0 < j ∧ (Builtin.Int.intBits j ≤ 9000 ∨ Builtin.Int.intBits i ≤ Builtin.Int.intBits j + 4000)
theorem log2_bits {j : Int} (h : j ≠ 0) : j.natAbs.log2 + 1 = Builtin.Int.intBits j := by
  unfold Builtin.Int.intBits
  rw [if_neg (by simpa using h)]
theorem CDivB.ok {i j : Int} (h : CDivB i j) : Builtin.divisionGoesByPylong i j = false := by
  unfold Builtin.divisionGoesByPylong
  have hj := log2_bits (Int.ne_of_gt h.1)
  have h2 := h.2
  have ej : (j == 0) = false := by have := h.1; simp; omega
  simp only [Bool.and_eq_false_iff, decide_eq_false_iff_not, ej, if_neg (show ¬ (false = true) from by decide)]
  rcases h2 with h2 | h2
  · left; omega
  · right
    by_cases hi : i = 0
    · subst hi; rw [if_pos (by decide)]; omega
    · have hi2 := log2_bits hi
      rw [if_neg (by simpa using hi)]
      omega
theorem op_fdivB : OpR X (binaryOp .FloorDiv) (rI CDivB fun i j => .int (i / j)) := opI fun i j _ _ _ _ _ hc q => by
  have e : i.fdiv j = i / j := Int.fdiv_eq_ediv_of_nonneg _ (Int.le_of_lt hc.1)
  exact floordiv_int (by have := hc.1; omega) (by rw [e]; exact q) (.inl hc.ok)
end
/-! ### reversed(a list) -/
section
variable {X : Cx} {tg : Expr}
/-- all(a list of bools) -/
theorem call_all (hc : X.calm = true) : CallR X (.builtin "all") (fun xs H Q => ∃ a, ∃ bs : List Bool, xs = [.ref a] ∧ SqL X.K H a (bs.map .bl) ∧ Q (.bl (bs.all id)) H) := by
  intro pins s σ H xs us Q I r h
  obtain ⟨a, bs, rfl, hq, q⟩ := h
  obtain ⟨u, rfl, ru⟩ := vals1 r
  obtain rfl : u = Value.ref a := ru
  obtain ⟨its, rv, pl, hz⟩ := I.list hq
  have hlen := rv.length
  have hlt : a < s.heap.objs.size := by obtain ⟨o, ho, _⟩ := pl.isList; exact Heap.lt_size ho
  refine call_all_walkS (wpAny_pyIter_list pl.isList ?_)
  refine ⟨s.heap.objs.size, [s.heap.objs.size, a], [s.heap.objs.size], _, its.toArray.size, _, _, fun i => bs.getD i false, rfl, (Walks.list (A := X.A.in1) (I.ok.hd hc) s.heap.objs.size a (Nat.ne_of_lt hlt) its.toArray).toS, ⟨⟨_, Heap.get?_push_size _ rfl, rfl, rfl⟩, ?_⟩, ?_, fun s' mv => ?_⟩
  · obtain ⟨o, ho, r⟩ := pl.isList; exact ⟨o, Heap.get?_push_of_some _ ho, r⟩
  · intro i v s2 Q2 E2 hv q2
    have hv' : its[i]? = some v := by simpa using hv
    have hi : i < bs.length := by
      have := (List.getElem?_eq_some_iff.mp hv').1
      rw [List.length_map] at hlen; omega
    have hb : (bs.map V.bl)[i]? = some (.bl (bs.getD i false)) := by rw [List.getElem?_map, List.getElem?_eq_getElem hi, List.getD_eq_getElem?_getD, List.getElem?_eq_getElem hi]; rfl
    obtain ⟨u, hu, ru⟩ := rv.get hb
    rw [hv'] at hu; cases hu
    obtain rfl : v = Value.bool (bs.getD i false) := ru
    exact wpAny_truthy_bool q2
  · have hall : (List.range its.toArray.size).all (fun i => bs.getD i false) = bs.all id := by
      rw [List.size_toArray, ← hlen, List.length_map]
      apply Bool.eq_iff_iff.mpr
      rw [List.all_eq_true, List.all_eq_true]
      constructor
      · intro h x hx
        obtain ⟨i, hi, rfl⟩ := List.mem_iff_getElem.mp hx
        have := h i (List.mem_range.mpr hi)
        rw [List.getD_eq_getElem?_getD, List.getElem?_eq_getElem hi] at this
        exact this
      · intro h i hi
        have hi' := List.mem_range.mp hi
        rw [List.getD_eq_getElem?_getD, List.getElem?_eq_getElem hi']
        exact h _ (List.getElem_mem hi')
    rw [hall]
    refine ⟨.bl _, H, ?_, rfl, q⟩
    have I2 : Inv X pins σ H { s with heap := s.heap.push { cls := .type "list_iterator", data := .fields #[.ref a, .int 0 0] } } := I.kept (t' := s.toks) fun b o e => Heap.get?_push_of_some _ e
    obtain ⟨f0, f1, f2, f3, f4, f5⟩ := I.fpOk (b := s.heap.objs.size) (Nat.le_refl _) (I.hok.fresh (Nat.le_refl _))
    have e : s' = { s with heap := s'.heap, toks := s'.toks } := by
      obtain ⟨h1, g1, d1, t1, o1⟩ := s'
      have := mv.gens; have := mv.drawn; have := mv.os
      dsimp only at *
      subst_vars; rfl
    have I3 := I2.turned (t' := s'.toks) (it := s.heap.objs.size) (h' := s'.heap) (fun b o hb e => mv.heap b o (by simpa using hb) e) f0 f1 f3 f4 f5
    rw [e]
    exact I3
end
end L2
namespace L2
open PySem PySem.W PySem.Spec PyProof.Rows
/-! ### lists of ints, == and != -/
section
variable {X : Cx}
end
end L2
namespace L2
open PySem PySem.W PySem.Spec PyProof.Rows
/-! ### comprehensions over a list -/
theorem comp_list {K : PySem.W.Frag} {a : Addr} {xs : List V} {g : TG} {te : TE} {Q : VK} {H : Hp} {D : Addr} {σ0 : St} (f : V → V) (S : St → Prop) (hz : xs.length ≤ sizeLine) (h0 : S σ0) (hD : H D = none) (hl : SqL K H a xs)
    (ht : ∀ x, x ∈ xs → ∀ σ1 H1, S σ1 → Same H H1 → ∀ R : St → V → Hp → Prop, (∀ σ2, S σ2 → R σ2 (f x) H1) → g x σ1 H1 fun σ2 H2 => te σ2 H2 fun y H3 => R σ2 y H3)
    (hq : Q (.ref D) (upd H D (.lst (xs.map f)))) :
    CompGo (Itl K a) g tYes te Q σ0 H D := by
  refine ⟨fun i m σ1 H2 => i ≤ xs.length ∧ m = xs.length - i ∧ S σ1 ∧ H2 = upd H D (.lst ((xs.take i).map f)), ⟨xs.length, Nat.zero_le _, rfl, h0, rfl⟩, ?_⟩
  rintro i m σ1 H2 ⟨h1, rfl, h2, rfl⟩
  have hl2 := (same_new (o := .lst ((xs.take i).map f)) hD).seq hl
  rcases Nat.lt_or_ge i xs.length with z | z
  · refine .inr ⟨⟨xs, xs[i], hl2, List.getElem?_eq_getElem z⟩, ?_⟩
    rintro x H3 ⟨rfl, hx⟩
    have hx := hx xs hl2
    refine ht x (List.mem_of_getElem? hx) σ1 _ h2 (same_new hD) (fun σ2 y H6 => ∃ ys m', H6 D = some (.lst ys) ∧ ys.length < sizeLine ∧ m' < xs.length - i ∧ (i + 1 ≤ xs.length ∧ m' = xs.length - (i + 1) ∧ S σ2 ∧ upd H6 D (.lst (ys ++ [y])) = upd H D (.lst ((xs.take (i + 1)).map f)))) fun σ2 q3 => ?_
    refine ⟨_, xs.length - (i + 1), upd_same, ?_, by omega, by omega, rfl, q3, ?_⟩
    · rw [List.length_map, List.length_take]; omega
    · rw [upd_upd', List.take_add_one, hx, List.map_append]; rfl
  · have e : i = xs.length := by omega
    subst e
    rw [List.take_length]
    rw [List.take_length] at hl2
    exact .inl ⟨⟨xs, hl2, Nat.le_refl _⟩, hq⟩
end L2

end

section
namespace KM
open PySem L2
/-! ### fractions and their steps -/
/-- steps behind the first -/
def Tail (r : List Int) : Prop := (∀ x ∈ r, 1 ≤ x) ∧ ∀ h : r ≠ [], 2 ≤ r.getLast h
def Good : List Int → Prop
  | [] => False
  | _ :: r => Tail r
/-! sizes -/
theorem bits_abs (i : Int) : Builtin.Int.intBits i = blen i.natAbs := by
  unfold Builtin.Int.intBits blen
  by_cases h : i = 0
  · subst h; rfl
  · rw [if_neg (by simpa using h), if_neg (by omega)]
theorem bits_lt {i : Int} {k : Nat} (h : i.natAbs < 2 ^ k) : Builtin.Int.intBits i ≤ k := by rw [bits_abs]; exact blen_le h
/-! whether a list has a fraction -/
end KM

end

section
namespace L2
open PySem PySem.W PySem.Spec PyProof.Rows
section
variable {X : Cx} {pins : List (Addr × Obj)} {σ : St} {H : Hp} {s : Shared} {h' : Heap}
end
/-! ### for k, x in enumerate(a list) -/
section
variable {X : Cx}
end
end L2

end

section
namespace KM
open PySem L2
/-! ### rows of fractions -/
def more : List Int → List Bool
  | [] => [false]
  | b :: r => true :: (cnt (b - 1).toNat ++ more r).map (!·)
/-! ### the common divisor -/
def cd (p q : Int) : Int := if h : 0 < q then cd q (p % q) else p
termination_by q.toNat
decreasing_by
  have := Int.emod_lt_of_pos p h
  have := Int.emod_nonneg p (Int.ne_of_gt h)
  omega
end KM
namespace L2
open PySem PySem.Spec PyProof.Rows
end L2

end

section
namespace KM
open PySem L2
/-! ### the order of fractions and of their rows -/
end KM

end

section
namespace L2
open PySem PySem.W PySem.Spec PyProof.Rows
section
variable {X : Cx}
end
/-- .. whose element is a value by its place -/
theorem comp_listI {K : PySem.W.Frag} {a : Addr} {xs : List V} {g : TG} {te : TE} {Q : VK} {H : Hp} {D : Addr} {σ0 : St} (fe : Nat → V) (S : St → Prop) (hz : xs.length ≤ sizeLine) (h0 : S σ0) (hD : H D = none) (hl : SqL K H a xs)
    (ht : ∀ i x, xs[i]? = some x → ∀ σ1 H1, S σ1 → Same H H1 → ∀ R : St → V → Hp → Prop, (∀ σ2, S σ2 → R σ2 (fe i) H1) → g x σ1 H1 fun σ2 H2 => te σ2 H2 fun y H3 => R σ2 y H3)
    (hq : Q (.ref D) (upd H D (.lst ((List.range xs.length).map fe)))) :
    CompGo (Itl K a) g tYes te Q σ0 H D := by
  refine ⟨fun i m σ1 H2 => i ≤ xs.length ∧ m = xs.length - i ∧ S σ1 ∧ H2 = upd H D (.lst ((List.range i).map fe)), ⟨xs.length, Nat.zero_le _, rfl, h0, rfl⟩, ?_⟩
  rintro i m σ1 H2 ⟨h1, rfl, h2, rfl⟩
  have hl2 := (same_new (o := .lst ((List.range i).map fe)) hD).seq hl
  rcases Nat.lt_or_ge i xs.length with z | z
  · refine .inr ⟨⟨xs, xs[i], hl2, List.getElem?_eq_getElem z⟩, ?_⟩
    rintro x H3 ⟨rfl, hx⟩
    have hx := hx xs hl2
    refine ht i x hx σ1 _ h2 (same_new hD) (fun σ2 y H6 => ∃ ys m', H6 D = some (.lst ys) ∧ ys.length < sizeLine ∧ m' < xs.length - i ∧ (i + 1 ≤ xs.length ∧ m' = xs.length - (i + 1) ∧ S σ2 ∧ upd H6 D (.lst (ys ++ [y])) = upd H D (.lst ((List.range (i + 1)).map fe)))) fun σ2 q3 => ?_
    refine ⟨_, xs.length - (i + 1), upd_same, by rw [List.length_map, List.length_range]; omega, by omega, by omega, rfl, q3, ?_⟩
    rw [upd_upd', List.range_succ, List.map_append]; rfl
  · have e : i = xs.length := by omega
    subst e
    exact .inl ⟨⟨xs, hl2, Nat.le_refl _⟩, hq⟩
end L2

end

section
namespace L2
open PySem PySem.W PySem.Spec PyProof.Rows
/-! ### try with two handlers of one name -/
end L2

end

section
namespace KM
open PySem L2
/-! ### rows of fractions, without their last sign -/
def mp : List Int → List Bool
  | [] => []
  | b :: r => true :: (cnt (b - 1).toNat ++ mp r).map (!·)
end KM

end

section
namespace L2
open PySem PySem.W PySem.Spec PyProof.Rows
section
variable {X : Cx}
end
end L2
namespace KM
open PySem L2
/-! ### rows without the ones at their end -/
/-! ### the order of rows -/
def Lt (a b : List Bool) : Prop := (rowS a).cps.toList < (rowS b).cps.toList
instance (a b : List Bool) : Decidable (Lt a b) := inferInstanceAs (Decidable (_ < _))
/-- how many signs two rows begin with in common -/
def com : List Bool → List Bool → Nat
  | x :: a, y :: b => if x = y then com a b + 1 else 0
  | _, _ => 0
end KM
namespace KM
open PySem L2
end KM

end

section
namespace L2
open PySem PySem.W PySem.Spec PyProof.Rows
/-! ### the lesser and the greater of two texts -/
section
variable {prog : Program} {w : World} {A : Around} {E : Value → Shared → Prop} {s : Shared}
end
section
variable {X : Cx}
/-! ### list.insert -/
end
/-! ### for x, y in zip(a list, a list) -/
section
variable {X : Cx}
end
end L2
namespace L2
open PySem PySem.W PySem.Spec PyProof.Rows
end L2
namespace L2
open PySem PySem.W PySem.Spec PyProof.Rows
section
variable {X : Cx} {pos : Pos}
end
end L2

end

section
namespace KM
open PySem L2
/-! ### pages -/
def ent (a r : List Bool) : List Bool := cnt (com a r) ++ cnt (r.length - com a r) ++ r.drop (com a r)
def ents : List Bool → List (List Bool) → List Bool
  | _, [] => []
  | a, r :: rs => ent a r ++ ents r rs
def page (rs : List (List Bool)) : List Bool := cnt rs.length ++ ents [] rs
end KM
namespace KM
open PySem L2
end KM
namespace KM
open PySem L2
end KM

end

section
namespace L2
open PySem PySem.W PySem.Spec PyProof.Rows
/-! ### lists of texts, == and != -/
section
variable {X : Cx}
end
/-! ### a try whose body raises nothing -/
end L2

end

section
namespace L2
open PySem PySem.W PySem.Spec PyProof.Rows
section
variable {M : Model} {A : Around} {E : Value → Shared → Prop} {s : Shared} {base : Heap} {env : Env} {outer : List Env} {L e T : Addr} {Q : Unit → Shared → Prop} {cls : Value} {d : Option Addr} {fl : Value}
end
section
variable {P : Program} {w : World} {K : PySem.W.Frag} {mg : Str → Option Value} {base : Heap} {N : List Str} {qual : Str} {scope : Scope} {f : Addr} {cdv : Value} {A : Around} {outer : List Env} {s : Shared} {H : Hp} {E : XK}
end
end L2

end

section
namespace L2
open PySem PySem.W PySem.Spec PyProof.Rows
section
variable {X : Cx}
/-! ### tuples of a number and a truth, == -/
end
end L2

namespace L2
open PySem PySem.W PySem.Spec PyProof.Rows
end L2

end

section
namespace L2
open PySem PySem.W PySem.Spec PyProof.Rows
end L2

end

section
namespace KM
open PySem L2
/-! ### rows that ascend, by their order alone -/
end KM
namespace L2
open PySem PySem.W PySem.Spec PyProof.Rows
section
variable {X : Cx}
/-! ### sorted(rows) -/
/-! ### tuples of a word and a row or None, == -/
inductive RowN : V → PyData → Prop
  | non : RowN .non .none
  | row (l : List Bool) : RowN (.str (KM.rowS l)) (.str (KM.rowS l))
end
end L2

end

section
namespace L2
open PySem PySem.W PySem.Spec PyProof.Rows
section
variable {prog : Program} {w : World} {A : Around} {E : Value → Shared → Prop} {s : Shared}
end
section
variable {prog : Program} {w : World} {A : Around} {E : Value → Shared → Prop} {s : Shared} {env : Env}
variable {nm q : Str} {C N a : Addr} {bs bm bmB : List Value} {hdct : Bool} {sn : List Str} {sub : List Value} {ab : Bool} {col : Option Bool} {dd : Option Addr} {k0 k1 k2 k3 k5 : Option Value} {B Bn newId nid initId inN : String} {bmN : List Value} {K : Frag}
end
section
variable {X : Cx}
end
end L2

end

section
namespace KM
open PySem L2
/-! ### any signs read as a page -/
def padL (l : List Bool) : List Bool := l ++ List.replicate 3000 false
open Classical in
/-- the count that stands at i, the signs behind the end being 0 -/
noncomputable def cnv (l : List Bool) (i : Nat) : Nat := if h : ∃ n, n + 1 < 2 ^ 255 ∧ cnt n <+: (padL l).drop i then h.choose else 0
/-- an entry behind la, s signs of which it shares, its m others at i; fst: it is the first -/
def entAt (l la : List Bool) (fst : Bool) (s m i : Nat) : Option (List Bool × Nat) :=
  if i + m ≤ l.length ∧ s ≤ la.length ∧ com la (la.take s ++ (l.drop i).take m) = s ∧ (fst = true ∨ Lt la (la.take s ++ (l.drop i).take m)) then some (la.take s ++ (l.drop i).take m, i + m) else none
noncomputable def entR (l la : List Bool) (fst : Bool) (i : Nat) : Option (List Bool × Nat) :=
  entAt l la fst (cnv l i) (cnv l (i + (cnt (cnv l i)).length)) (i + (cnt (cnv l i)).length + (cnt (cnv l (i + (cnt (cnv l i)).length))).length)
noncomputable def goR (l : List Bool) : Nat → List (List Bool) → Nat → Option (List (List Bool))
  | 0, rs, i => if i = l.length then some rs else none
  | k + 1, rs, i => match entR l (rs.getLastD []) rs.isEmpty i with
    | none => none
    | some (r, j) => goR l k (rs ++ [r]) j
/-- how a page's reading stands: rs read, the next entry at i -/
structure RdAt (l : List Bool) (out : Option (List (List Bool))) (rs : List (List Bool)) (i : Nat) : Prop where
  le : rs.length ≤ cnv l 0
  at_ : i ≤ l.length
  few : rs.length ≤ i
  sm : ∀ x ∈ rs, x.length ≤ i
  go : goR l (cnv l 0 - rs.length) rs i = out
end KM

end

section
namespace L2
open PySem PySem.W PySem.Spec PyProof.Rows
/-! ### xs[::-1] -/
section
variable {X : Cx} {e : Expr} {te : TE} {p2 pos : Pos}
end
end L2

end

section
namespace KM
open PySem
/-! ### 5 x + 1 goes through all slots of a table -/
/-! ### a free slot is met -/
/-! ### the table laid anew -/
end KM

end

section
namespace L2
open PySem PySem.Spec
/-! ### sets of texts, as they lie -/
structure SetIn (w : World) (es : Array (Int × Value)) (t : SetTable) (ks : List Str) : Prop where
  fit : t.fits es.size = true
  led : w.params.followText "set-order" = false → t.led = true
  pl : es.size ≠ 0 → t.plain = false
  els : ∀ e ∈ es.toList, ∃ k u, e = (hashStr w k, Value.str k u)
  keys : (es.toList.map fun e => PyProof.Rows.strOf e.2).Perm ks
section
variable {w : World} {es es' : Array (Int × Value)} {t t' : SetTable} {ks : List Str}
/-! ### flags of a table laid anew -/
end
section
variable {prog : Program} {w : World} {A : Around} {E : Value → Shared → Prop} {s : Shared} {a : Addr} {es : Array (Int × Value)} {ep : Nat} {t : SetTable} {ks : List Str}
set_option maxHeartbeats 1000000 in
/-! ### a table laid anew, and the merging of two -/
set_option maxHeartbeats 1000000 in
/-! ### the order of a walk -/
/-! ### a merge into an empty set, and into one that is not -/
set_option maxHeartbeats 1000000 in
set_option maxHeartbeats 1000000 in
end
end L2

end

section
namespace L2
open PySem PySem.Spec
section
variable {prog : Program} {w : World} {A : Around} {E : Value → Shared → Prop} {s : Shared} {a : Addr} {es : Array (Int × Value)} {ep : Nat} {t : SetTable} {ks : List Str}
set_option maxHeartbeats 1000000 in
set_option maxHeartbeats 1000000 in
/-! ### a | b -/
set_option maxHeartbeats 1000000 in
/-! ### what is in the union -/
end
end L2

end

section
namespace L2
open PySem PySem.Spec
/-! ### set(a list of texts) -/
section
variable {prog : Program} {w : World} {A : Around} {R : Result → Shared → Prop} {I : Addr} {fp wr : List Addr} {G : Array GenState → Array GenState → Prop} {n : Nat} {Pv : Nat → Value → Prop} {St : Nat → Shared → Prop}
end
section
variable {prog : Program} {w : World} {A : Around} {E : Value → Shared → Prop} {s : Shared}
set_option maxHeartbeats 3200000 in
set_option maxHeartbeats 3200000 in
end
end L2

end

section
namespace L2
open PySem PySem.Spec
/-! ### a walk through a set of texts -/
section
variable {prog : Program} {w : World} {A : Around} {E : Value → Shared → Prop} {s : Shared} {a I : Addr} {es : Array (Int × Value)} {ep : Nat} {t : SetTable} {ks : List Str}
set_option maxHeartbeats 1000000 in
set_option maxHeartbeats 1000000 in
end
end L2

end

section
namespace L2
open PySem PySem.Spec
section
variable {prog : Program} {w : World} {A : Around} {E : Value → Shared → Prop} {s : Shared} {a I p : Addr} {es : Array (Int × Value)} {ep : Nat} {t : SetTable} {ks : List Str}
set_option maxHeartbeats 1000000 in
set_option maxHeartbeats 1000000 in
/-! ### what comes next -/
end
end L2

end

section
namespace L2
open PySem PySem.Spec
section
variable {prog : Program} {w : World} {A : Around} {E : Value → Shared → Prop} {s : Shared} {a I p : Addr} {es : Array (Int × Value)} {ep : Nat} {t : SetTable} {ks : List Str}
set_option maxHeartbeats 1000000 in
end
end L2

end

section
namespace L2
open PySem PySem.Spec PyProof.Rows
section
variable {prog : Program} {w : World} {A : Around} {E : Value → Shared → Prop} {s : Shared} {a : Addr} {es : Array (Int × Value)} {ep : Nat} {t : SetTable} {ks : List Str}
set_option maxHeartbeats 1000000 in
/-! ### sorted(a set of texts) -/
set_option maxHeartbeats 1000000 in
end
end L2

end

section
namespace L2
open PySem PySem.W PySem.Spec PyProof.Rows
section
variable {X : Cx} {pos p p2 p3 q q2 q3 : Pos} {e1 e2 : Expr} {te1 te2 : TE}
set_option maxHeartbeats 1000000 in
end
end L2

end

section
namespace L2
open PySem PySem.W PySem.Spec PyProof.Rows
/-! ### try with two handlers without a name -/
/-! ### xs[lo:hi:step], a step ahead -/
section
variable {X : Cx} {e el eh es : Expr} {te tl th ts : TE} {p2 pos : Pos}
/-! ### sum(ints) -/
/-! ### (int, bool) != (int, bool) -/
end
end L2

end

section
namespace L2
open PySem PySem.W PySem.Spec PyProof.Rows
/-! ### C() where C has no __init__ of its own -/
structure Mk0 (K : PySem.W.Frag) (C : Addr) : Prop where
  makes : PySem.W.makesIn K C = true
  init : PySem.W.findIn K (.ref C) "__init__" = some (some (.builtin "object.__init__"))
  kp : PySem.W.keepIn K (.ref C) = true
section
variable {X : Cx} {C : Addr} {x : Str} {p pos : Pos}
theorem run_make0 {pins : List (Addr × Obj)} {σ : St} {H : Hp} {s : Shared} {Q : VK} (M : Mk0 X.K C) (I : Inv X pins σ H s) (h : ∀ x dx, H x = none → H dx = none → dx ≠ x → Q (.ref x) (upd (upd H dx (.own x)) x (.ins C dx []))) :
    wpAny (model X.prog X.w) X.A (call (.ref C) []) (EP X pins σ Q) X.xe s := by
  have hq := h (s.heap.objs.size + 1) s.heap.objs.size (I.hok.fresh (Nat.le_succ _)) (I.hok.fresh (Nat.le_refl _)) (Nat.ne_of_lt (Nat.lt_succ_self _))
  have I2 := Inv.made (C := C) I
  have Y := makes_of (M := model X.prog X.w) I.kIn M.makes
  refine wpAny_call (make_map0 I.kIn M.makes M.init (fun self => Looks.of_pure (oi_bind self)) ?_)
  have e2 : ((s.heap.push PySem.W.emptyDict).push (PySem.W.instObj C s.heap.objs.size)).get? (s.heap.objs.size + 1) = some (PySem.W.instObj C s.heap.objs.size) := by
    have := Heap.get?_push_size (s.heap.push PySem.W.emptyDict) (o := PySem.W.instObj C s.heap.objs.size) rfl
    rwa [Heap.size_push] at this
  have t1 : Looks (model X.prog X.w) ((s.heap.push PySem.W.emptyDict).push (PySem.W.instObj C s.heap.objs.size)) (typeOf (.ref (s.heap.objs.size + 1))) (.ref C) := (Looks.ld e2).andThen .now
  have t2 : Looks (model X.prog X.w) ((s.heap.push PySem.W.emptyDict).push (PySem.W.instObj C s.heap.objs.size)) (isInstance (.ref (s.heap.objs.size + 1)) (.type "object")) true := t1.andThen (Y.top.keeps fun b o e => Heap.get?_push_of_some _ (Heap.get?_push_of_some _ e))
  obtain ⟨hh, g, d, t, os⟩ := s
  refine codeAny_call_builtin oi_plain entry_oi (@check_slot (model X.prog X.w) _ _ _ "object.__init__" "object" "__init__" (.ref (hh.objs.size + 1)) [] [] _ oi_kind oi_split t2 (oi_args (.ref (hh.objs.size + 1))) ?_)
  rw [oi_run]
  exact wpAny_pure (And.intro rfl ⟨V.ref (hh.objs.size + 1), _, I2, rfl, hq⟩)
def tMake0 (C : Addr) : TE := fun _ H Q => ∀ x dx, H x = none → H dx = none → dx ≠ x → Q (.ref x) (upd (upd H dx (.own x)) x (.ins C dx []))
theorem pe_makeN0 (M : Mk0 X.K C) (hg : Gl X x) (hm : X.mg x = some (.ref C)) (hdb : (x == ("__debug__" : Str)) = false := by decide) : PE X (.Call (.Name x p) [] [] pos) (tMake0 C) := by
  intro pins s σ H Q I h
  refine wpAny_Call_Name_kw (ld_glob I hg hm ?_ hdb)
  exact PySem.W.callWith_K0 I.kIn M.kp (run_make0 M I h)
/-! ### list.remove(row) -/
theorem eqG_str (a b : Str) (t u : Tok) : MeetsSeq.EqGives (.str a t) (.str b u) (decide (a = b)) := by
  intro prog w A Q E s h
  exact wpAny_eqBool_str h
/-! ### range(a, b, c), ahead -/
end
/-! ### lists of two lists of texts, == -/
section
variable {X : Cx}
end
end L2

end

section
namespace L2
open PySem PySem.W PySem.Spec PyProof.Rows
end L2

end

section
namespace L2
open PySem PySem.Spec PyProof.Rows
/-! ### signs in texts, kinds of signs -/
end L2

end

section
namespace L2
open PySem PySem.Spec
/-! ### how many unlike texts -/
def metT (val : Nat → Str) : Nat → List Str
  | 0 => []
  | i + 1 => if val i ∈ metT val i then metT val i else metT val i ++ [val i]
theorem metT_le (val : Nat → Str) : ∀ i, (metT val i).length ≤ i
  | 0 => Nat.le_refl _
  | i + 1 => by
    have ih := metT_le val i
    unfold metT
    split
    · omega
    · rw [List.length_append, List.length_singleton]; omega
theorem metT_mem (val : Nat → Str) (i : Nat) (k : Str) : (decide (k ∈ metT val i) || decide (k = val i)) = decide (k ∈ metT val (i + 1)) := by
  conv => rhs; unfold metT
  by_cases h : val i ∈ metT val i
  · rw [if_pos h]
    by_cases e : k = val i
    · subst e; simp [h]
    · simp [e]
  · rw [if_neg h]
    by_cases e : k = val i <;> simp [e]
theorem metT_len (val : Nat → Str) (i : Nat) : (if decide (val i ∈ metT val i) = true then (metT val i).length else (metT val i).length + 1) = (metT val (i + 1)).length := by
  conv => rhs; unfold metT
  by_cases h : val i ∈ metT val i
  · rw [if_pos h, if_pos (decide_eq_true h)]
  · rw [if_neg h, if_neg (by simpa using h), List.length_append]; rfl
section
variable {prog : Program} {w : World} {A : Around} {R : Result → Shared → Prop} {I : Addr} {fp wr : List Addr} {G : Array GenState → Array GenState → Prop} {n : Nat} {Pv : Nat → Value → Prop} {St : Nat → Shared → Prop}
abbrev TxtSet (prog : Program) (w : World) (h : Heap) (S : Addr) (val : Nat → Str) (i : Nat) : Prop := h.SetOf (PySem.strKind prog w) S (fun k => decide (k ∈ metT val i)) (metT val i).length
theorem TxtSet.keep {h h' : Heap} {S : Addr} {val : Nat → Str} {i : Nat} (t : TxtSet prog w h S val i) (k : ∀ o, h.get? S = some o → h'.get? S = some o) : TxtSet prog w h' S val i := by
  obtain ⟨o, es, ep, tb, ho, rest⟩ := t
  exact ⟨o, es, ep, tb, k o ho, rest⟩
theorem set_loopT (W : WalksS prog w A.in1 I fp wr G n Pv St) (S : Addr) (hSf : S ∉ fp) (val : Nat → Str) (hval : ∀ i v, Pv i v → ∃ t, v = .str (val i) t) (hb : n + 1 < scanBound) :
    ∀ (m i : Nat) (s : Shared), n - i = m → i ≤ n → St i s → TxtSet prog w s.heap S val i → (∀ s', Moved (S :: wr) G s s' → TxtSet prog w s'.heap S val n → R (.ok (.ret .none)) s') →
      codeAny (model prog w) A (.builtin "set.update.loop" ⟨[.ref S, .ref I], []⟩) R s := by
  have hSw : S ∉ wr := fun h => hSf (W.sub _ h)
  have up : ∀ b ∈ wr, b ∈ S :: wr := fun b h => List.mem_cons_of_mem _ h
  intro m
  induction m with
  | zero =>
    intro i s hm hi st hT hR
    obtain rfl : i = n := by omega
    refine codeAny_builtin PyProof.Rows.F.entry_set_update_loop ?_
    rw [Around.under_plainId PyProof.Rows.F.plain_set_update_loop _]
    refine wpAny_bind (m := pyNext (.ref I)) (W.done s _ _ st fun s' mv => ?_)
    exact wpAny_pure (hR s' (mv.mono up) (hT.keep fun o e => mv.heap S _ hSw e))
  | succ m ih =>
    intro i s hm hi st hT hR
    have hlt : i < n := by omega
    refine codeAny_builtin PyProof.Rows.F.entry_set_update_loop ?_
    rw [Around.under_plainId PyProof.Rows.F.plain_set_update_loop _]
    refine wpAny_bind (m := pyNext (.ref I)) (W.item i s _ _ hlt st fun v s' hP st' mv => ?_)
    obtain ⟨t, rfl⟩ := hval i v hP
    have hT' : TxtSet prog w s'.heap S val i := hT.keep fun o e => mv.heap S _ hSw e
    have his : (PySem.strKind prog w).is (val i) (.str (val i) t) = true := by simp [PySem.strKind, Value.isStrOf]
    refine wpAny_bind (m := holding [Value.str (val i) t] (setAdd S (.str (val i) t))) (wpAny_holding ?_)
    unfold setAdd
    refine wpAny_holding (wpAny_bind ((PySem.strKind prog w).pyHash (k := val i) his ?_))
    have room : (metT val i).length + 1 < scanBound := by have := metT_le val i; omega
    refine wpAny_setAddHashed_of (knd := PySem.strKind prog w) (s := { s' with toks := s'.toks + 1 }) his rfl hT' room fun h' sb hS2 => ?_
    have hT2 : TxtSet prog w h' S val (i + 1) := PyProof.Rows.SetOf_congr hS2 (fun k => metT_mem val i k) (metT_len val i)
    refine wpAny_pure ⟨plainId_quiet PyProof.Rows.F.plain_set_update_loop _, ih (i + 1) _ (by omega) hlt (W.frame _ s' _ _ st' (Nat.le_succ _) fun b hbf o e => ?_) hT2 fun s'' mv' hT3 => ?_⟩
    · rw [sb.2 b fun z : b = S => hSf (z ▸ hbf)]; exact e
    · refine hR s'' (Moved.trans W.gtrans ((mv.mono up).then_heap (Nat.le_succ _) fun b o hbn e => ?_) mv') hT3
      rw [sb.2 b fun z : b = S => hbn (by rw [z]; exact List.mem_cons_self)]; exact e
end
end L2

end

section
namespace L2
open PySem PySem.Spec
section
variable {prog : Program} {w : World} {A : Around} {E : Value → Shared → Prop} {s : Shared}
/-- the set as it is made -/
abbrev noSet (led : Bool) : Obj := { cls := .type "set", dict := none, data := .set #[] 0 (.fresh 0 0 led) }
abbrev setDone (prog : Program) (w : World) (s : Shared) (val : Nat → Str) (n : Nat) (r : Value) (s₂ : Shared) : Prop := r = .none ∧ ∃ h' tk, s₂ = { s with heap := h', toks := tk } ∧ TxtSet prog w h' s.heap.objs.size val n ∧ ∀ b o, b < s.heap.objs.size → s.heap.get? b = some o → h'.get? b = some o
def InitDone (prog : Program) (w : World) (A : Around) (E : Value → Shared → Prop) (s : Shared) (x : Value) (val : Nat → Str) (n : Nat) (led : Bool) : Prop :=
  wpAny (model prog w) A.in1.in1 (Builtin.«set.__init__» ⟨[.ref s.heap.objs.size, x], []⟩) (fun fin s' => match fin with
      | Fin.done f => wants (setDone prog w s val n) E (Except.ok f) s'
      | Fin.again c' => c'.quiet = true ∧ codeAny (model prog w) A.in1 c' (wants (setDone prog w s val n) E) s')
    (fun e s' => wants (setDone prog w s val n) E (Except.error e) s') { s with heap := s.heap.push (noSet led) }
set_option maxHeartbeats 3200000 in
/-- set(x), once its own init has been seen -/
theorem call_set_by {x : Value} {val : Nat → Str} {n : Nat} {Q : Value → Shared → Prop}
    (hin : ∀ led : Bool, InitDone prog w A E s x val n led)
    (h : ∀ h' tk, TxtSet prog w h' s.heap.objs.size val n → (∀ b o, b < s.heap.objs.size → s.heap.get? b = some o → h'.get? b = some o) → Q (.ref s.heap.objs.size) { s with heap := h', toks := tk }) :
    wpAny (model prog w) A (call (.type "set") [x]) Q E s := by
  obtain ⟨c, tl, hmro⟩ := F.called_set.mro
  have hmade := F.called_set.made
  have hsub := F.called_set.sub
  refine wpAny_call (codeAny_of_tree ?_)
  show wpAny _ _ (callAny (.type "set") _) _ _ _
  refine wpAny_pure ⟨Code.quiet_builtin _ (by decide +kernel), codeAny_builtin F.entry_type_call ?_⟩
  rw [Around.under_plain (weight_type_call_type "set" [x] []) rfl]
  have h1 := F.called_set.notType
  have h2 := F.called_set.canCreate
  have hct := F.typeCall_set_1 x
  repeat (any_goals (first | assumption | wp_step))
  refine codeAny_mono (PySem.code_set_new_1 x (E := E) (Q₁ := fun obj s₁ => ∃ led : Bool, obj = .ref s.heap.objs.size ∧ s₁ = { s with heap := s.heap.push (noSet led) }) fun led => ⟨led, rfl, rfl⟩) fun r s₁ hr => ?_
  cases r with
  | error e => exact hr
  | ok fl =>
    cases fl with
    | ret obj =>
      obtain ⟨led, rfl, rfl⟩ := hr
      have hS : (s.heap.push (noSet led)).get? s.heap.objs.size = some (noSet led) := Heap.get?_push_size _ rfl
      have hT : Shared.TypeIs { s with heap := s.heap.push (noSet led) } (.ref s.heap.objs.size) "set" := ⟨_, hS, rfl⟩
      have hli := F.called_set.init.lookup
      have hbi := F.called_set.init.bind (.ref s.heap.objs.size)
      repeat (any_goals (first | assumption | wp_step))
      refine codeAny_mono (codeAny_call_builtin (R := wants (setDone prog w s val n) E) F.called_set.init.plain F.entry_set_init (PySem.check_set_init_1 hT ?_)) fun r₂ s₂ hr₂ => ?_
      · exact hin led
      · cases r₂ with
        | error e => exact hr₂
        | ok fl₂ =>
          cases fl₂ with
          | ret r =>
            obtain ⟨rfl, h', tk, rfl, hS', hk'⟩ := hr₂
            repeat (any_goals (first | assumption | wp_step))
            exact h _ _ hS' hk'
          | _ => exact hr₂.elim
    | _ => exact hr.elim
set_option maxHeartbeats 3200000 in
theorem init_list {l : Addr} {items : Array Value} {val : Nat → Str} (hh : A.handled = none) (hl : s.heap.IsList l items) (hv : ∀ (i : Nat) (v : Value), items[i]? = some v → ∃ t, v = .str (val i) t) (hb : items.size + 1 < scanBound) (led : Bool) : InitDone prog w A E s (.ref l) val items.size led := by
  unfold InitDone
  obtain ⟨ol, hol, hcl, nl, hdl⟩ := hl
  obtain ⟨ocls, odict, odata, oslots⟩ := ol
  simp only at hcl hdl
  subst hcl; subst hdl
  have hS : (s.heap.push (noSet led)).get? s.heap.objs.size = some (noSet led) := Heap.get?_push_size _ rfl
  have hol' : (s.heap.push (noSet led)).get? l = some { cls := .type "list", dict := odict, data := .seq items nl, slots := oslots } := Heap.get?_push_of_some _ hol
  have hsls := F.sub_list_set
  have hslf := F.sub_list_frozenset
  have hne : (Value.type "list" == Value.type "dict") = false := by decide
  have hl1 : (s.heap.push (noSet led)).IsList l items := ⟨_, hol', rfl, nl, rfl⟩
  unfold Builtin.«set.__init__» noKeywords Builtin.Frozenset.updateFrom
  generalize hPI : pyIter = PI
  wp_walk
  subst hPI
  refine wpAny_pyIter_list hl1 ?_
  refine wpAny_bind (wpAny_runValue ?_)
  have hlS : l < s.heap.objs.size := Heap.lt_size hol
  have hh3 : A.in1.in1.in1.handled = none := by simp [hh]
  have hsz : (s.heap.push (noSet led)).objs.size = s.heap.objs.size + 1 := Heap.size_push ..
  have hne2 : l ≠ (s.heap.push (noSet led)).objs.size := by rw [hsz]; exact Nat.ne_of_lt (Nat.lt_succ_of_lt hlS)
  have hSf : s.heap.objs.size ∉ [(s.heap.push (noSet led)).objs.size, l] := fun z => by
    rw [hsz] at z
    rcases List.mem_cons.mp z with y | y
    · exact absurd y (Nat.ne_of_lt (Nat.lt_succ_self _))
    · exact absurd (List.mem_singleton.mp y) (Nat.ne_of_gt hlS)
  refine set_loopT ((Walks.list hh3 _ l hne2 items).toS) s.heap.objs.size hSf val hv hb items.size 0 _ (by omega) (Nat.zero_le _) ⟨⟨_, Heap.get?_push_size _ rfl, rfl, rfl⟩, hl1.push _⟩ ?_ ?_
  · exact PyProof.Rows.SetOf_congr ((PyProof.Rows.setObjOf_fresh (knd := PySem.strKind prog w) led).setOf (Heap.get?_push_of_some _ hS) (by unfold scanBound; omega)) (fun _ => rfl) rfl
  · intro s' hm hS'
    obtain ⟨h', g', d', tk', os'⟩ := s'
    have eg : g' = s.gens := hm.gens
    have ed : d' = s.drawn := hm.drawn
    have eo : os' = s.os := hm.os
    subst eg; subst ed; subst eo
    refine wpAny_pure ?_
    refine wpAny_pure (a := Fin.done (Flow.ret Value.none)) ⟨rfl, h', tk', rfl, hS', fun b o hbl e => ?_⟩
    refine hm.heap b o (fun z => ?_) (Heap.get?_push_of_some _ (Heap.get?_push_of_some _ e))
    rcases List.mem_cons.mp z with y | y
    · exact absurd y (Nat.ne_of_lt hbl)
    · rcases List.mem_cons.mp y with y | y
      · rw [hsz] at y; exact absurd y (Nat.ne_of_lt (Nat.lt_succ_of_lt hbl))
      · cases y
end
end L2

end

section
namespace L2
open PySem PySem.Spec
section
variable {prog : Program} {w : World} {A : Around} {E : Value → Shared → Prop} {s : Shared}
def signsOf (x : Str) (i : Nat) : Str := ⟨#[x.cps.getD i 0]⟩
set_option maxHeartbeats 3200000 in
theorem init_text {x : Str} {t : Tok} (hh : A.handled = none) (hb : x.cps.size + 1 < scanBound) (led : Bool) : InitDone prog w A E s (.str x t) (signsOf x) x.cps.size led := by
  unfold InitDone
  have hS : (s.heap.push (noSet led)).get? s.heap.objs.size = some (noSet led) := Heap.get?_push_size _ rfl
  have hsls := F.sub_str_set
  have hslf := F.sub_str_frozenset
  have hne : (Value.type "str" == Value.type "dict") = false := by decide
  unfold Builtin.«set.__init__» noKeywords Builtin.Frozenset.updateFrom
  generalize hPI : pyIter = PI
  wp_walk
  subst hPI
  have hsz : (s.heap.push (noSet led)).objs.size = s.heap.objs.size + 1 := Heap.size_push ..
  refine wpAny_pyIter_str (s := { s with heap := s.heap.push (noSet led) }) fun o St W st0 => ?_
  refine wpAny_bind (wpAny_runValue ?_)
  have hh3 : A.in1.in1.in1.handled = none := by simp [hh]
  have hSf : s.heap.objs.size ∉ [(s.heap.push (noSet led)).objs.size] := fun z => by
    rw [hsz] at z
    exact absurd (List.mem_singleton.mp z) (Nat.ne_of_lt (Nat.lt_succ_self _))
  refine set_loopT ((W _ hh3).toS) s.heap.objs.size hSf (signsOf x) (fun i v hv => ?_) hb x.cps.size 0 _ (by omega) (Nat.zero_le _) st0 ?_ ?_
  · obtain ⟨c, u, hc, rfl⟩ := hv
    refine ⟨u, ?_⟩
    unfold signsOf
    rw [Array.getD_eq_getD_getElem?, hc]; rfl
  · exact PyProof.Rows.SetOf_congr ((PyProof.Rows.setObjOf_fresh (knd := PySem.strKind prog w) led).setOf (Heap.get?_push_of_some _ hS) (by unfold scanBound; omega)) (fun _ => rfl) rfl
  · intro s' hm hS'
    obtain ⟨h', g', d', tk', os'⟩ := s'
    have eg : g' = s.gens := hm.gens
    have ed : d' = s.drawn := hm.drawn
    have eo : os' = s.os := hm.os
    subst eg; subst ed; subst eo
    refine wpAny_pure ?_
    refine wpAny_pure (a := Fin.done (Flow.ret Value.none)) ⟨rfl, h', tk', rfl, hS', fun b o' hbl e => ?_⟩
    refine hm.heap b o' (fun z => ?_) (Heap.get?_push_of_some _ (Heap.get?_push_of_some _ e))
    rcases List.mem_cons.mp z with y | y
    · exact absurd y (Nat.ne_of_lt hbl)
    · have y := List.mem_singleton.mp y
      rw [hsz] at y; exact absurd y (Nat.ne_of_lt (Nat.lt_succ_of_lt hbl))
theorem len_TxtSet {S : Addr} {val : Nat → Str} {i : Nat} {Q : Value → Shared → Prop} (hT : TxtSet prog w s.heap S val i) (h : Q (.int ((metT val i).length : Nat) (s.toks + 1)) { s with toks := s.toks + 1 + 1 }) : wpAny (model prog w) A (call (.builtin "len") [.ref S]) Q E s := by
  obtain ⟨o, es, ep, t, ho, hex, hd, _, _, hb, hf, hn⟩ := hT
  refine call_len_set ho hex hd hf (by unfold scanBound at hb; omega) ?_
  rw [hn]; exact h
end
section
variable {X : Cx} {pos p p2 pos2 : Pos} {e : Expr} {te : TE}
/-- a list of texts or a text, as the texts in it -/
def TextsOf (K : PySem.W.Frag) (H : Hp) (x : V) (val : Nat → Str) (n : Nat) : Prop := (∃ a, x = .ref a ∧ SqL K H a ((List.range n).map fun i => V.str (val i))) ∨ (∃ z, x = .str z ∧ n = z.cps.size ∧ val = signsOf z)
def tLenSet (K : PySem.W.Frag) (te : TE) : TE := fun σ H Q => te σ H fun x H1 => ∃ val n, TextsOf K H1 x val n ∧ n + 1 < scanBound ∧ Q (.int ((metT val n).length : Nat)) H1
theorem pe_lenset (hcm : X.calm = true) (hgl : Gl X "len") (hml : X.mg "len" = none) (hgs : Gl X "set") (hms : X.mg "set" = none) (he : PE X e te)
    (hs1 : starEach [.Call (.Name "set" p2) [e] [] pos2] X.env = [(false, eval (.Call (.Name "set" p2) [e] [] pos2) X.env)] := by rfl) (hs2 : starEach [e] X.env = [(false, eval e X.env)] := by rfl) :
    PE X (.Call (.Name "len" p) [.Call (.Name "set" p2) [e] [] pos2] [] pos) (tLenSet X.K te) := by
  intro pins s σ H Q I h
  refine wpAny_Call_Name_kw (ld_blt I hgl hml bo_len ?_ (by decide) (by decide))
  refine PyProof.Rows.callWith_builtin1 ?_ (hs1.trans rfl) rfl
  rw [hs1]
  show wpAny _ _ (spliced ((false, eval (.Call (.Name "set" p2) [e] [] pos2) X.env) :: [])) _ _ s
  refine Calls.spliced_cons (wpAny_Call_Name_kw (ld_blt I hgs hms (by decide +kernel : bootBuiltins "set" = some (.type "set")) ?_ (by decide) (by decide)))
  refine PyProof.Rows.callWith_type1 ?_ (hs2.trans rfl) rfl
  rw [hs2]
  show wpAny _ _ (spliced ((false, eval e X.env) :: [])) _ _ s
  refine Calls.spliced_cons (thn (he pins s σ H _ I h) fun u s1 ⟨x, H1, I1, r1, val, n, hx, hb, q⟩ => Calls.spliced_nil ?_)
  have fin : ∀ (h' : Heap) (tk : Nat), TxtSet X.prog X.w h' s1.heap.objs.size val n → (∀ b o, b < s1.heap.objs.size → s1.heap.get? b = some o → h'.get? b = some o) → wpAny (model X.prog X.w) X.A (spliced []) (fun vs s₁ => wpAny (model X.prog X.w) X.A (call (.builtin "len") (.ref s1.heap.objs.size :: vs)) (EP X pins σ Q) X.xe s₁) X.xe { s1 with heap := h', toks := tk } := fun h' tk hT hk => by
    refine Calls.spliced_nil (len_TxtSet (s := { s1 with heap := h', toks := tk }) hT ?_)
    exact ⟨.int _, H1, I1.kept (h' := h') (t' := tk + 1 + 1) fun b o eb => hk b o (Heap.lt_size eb) eb, ⟨_, rfl⟩, q⟩
  rcases hx with ⟨a, rfl, hq⟩ | ⟨z, rfl, rfl, rfl⟩
  · obtain rfl : u = Value.ref a := r1
    obtain ⟨its, rv, pl, hz⟩ := I1.list hq
    have hlen := rv.length
    rw [List.length_map, List.length_range] at hlen
    have hsz : its.toArray.size = n := by rw [List.size_toArray]; omega
    refine call_set_by (fun led => ?_) fin
    have hi := init_list (prog := X.prog) (w := X.w) (E := X.xe) (val := val) (I1.ok.hd hcm) pl.isList (fun i v hv => ?_) (by rw [hsz]; exact hb) led
    · rw [hsz] at hi; exact hi
    · have hv' : its[i]? = some v := by simpa using hv
      have hil : i < n := by rw [hlen]; exact (List.getElem?_eq_some_iff.mp hv').1
      obtain ⟨u, hu, ru⟩ := rv.get (i := i) (x := .str (val i)) (by rw [List.getElem?_map, List.getElem?_range hil]; rfl)
      rw [hv'] at hu; cases hu
      exact ru
  · obtain ⟨t, rfl⟩ := r1
    exact call_set_by (fun led => init_text (I1.ok.hd hcm) hb led) fin
end
end L2

end

section
namespace L2
open PySem PySem.W PySem.Spec PyProof.Rows
/-! ### C(..) that makes or refuses -/
section
variable {X : Cx} {CX : CXT} {k k1 k2 k' : Nat} {f C : Addr} {fd : FuncData} {x : Str} {ps : List Str} {sp sp1 sp2 : Sp} {e : Expr} {es : List Expr} {t : TA} {p pos : Pos} {E : St → XK}
end
/-! ### comprehensions over a text -/
theorem comp_strF {x : Str} {g : TG} {tc : TT} {te : TE} {Q : VK} {H : Hp} {D : Addr} {σ0 : St} (keep : Nat → Bool) (f : Nat → V) (S : St → Prop) (hz : x.cps.size ≤ sizeLine) (h0 : S σ0) (hD : H D = none)
    (ht : ∀ c, c ∈ x.cps.toList → ∀ σ1 H1, S σ1 → Same H H1 → ∀ (R : St → V → Hp → Prop) (R' : St → Hp → Prop), (∀ σ2, S σ2 → if keep c = true then R σ2 (f c) H1 else R' σ2 H1) → g (.str ⟨#[c]⟩) σ1 H1 fun σ2 H2 => tc σ2 H2 fun b H3 => if b = true then te σ2 H3 fun y H4 => R σ2 y H4 else R' σ2 H3)
    (hq : Q (.ref D) (upd H D (.lst ((x.cps.toList.filter keep).map f)))) :
    CompGo (Its x) g tc te Q σ0 H D := by
  have hn : x.cps.toList.length = x.cps.size := Array.length_toList
  refine ⟨fun i m σ1 H2 => i ≤ x.cps.size ∧ m = x.cps.size - i ∧ S σ1 ∧ H2 = upd H D (.lst (((x.cps.toList.take i).filter keep).map f)), ⟨x.cps.size, Nat.zero_le _, rfl, h0, rfl⟩, ?_⟩
  rintro i m σ1 H2 ⟨h1, rfl, h2, rfl⟩
  rcases Nat.lt_or_ge i x.cps.size with z | z
  · refine .inr ⟨z, ?_⟩
    rintro y H3 ⟨rfl, c, hc, rfl⟩
    have hc' : x.cps.toList[i]? = some c := by rw [Array.getElem?_toList]; exact hc
    refine ht c (List.mem_of_getElem? hc') σ1 _ h2 (same_new hD) (fun σ2 y H6 => ∃ ys m', H6 D = some (.lst ys) ∧ ys.length < sizeLine ∧ m' < x.cps.size - i ∧ (i + 1 ≤ x.cps.size ∧ m' = x.cps.size - (i + 1) ∧ S σ2 ∧ upd H6 D (.lst (ys ++ [y])) = upd H D (.lst (((x.cps.toList.take (i + 1)).filter keep).map f))))
      (fun σ2 H5 => ∃ m', m' < x.cps.size - i ∧ (i + 1 ≤ x.cps.size ∧ m' = x.cps.size - (i + 1) ∧ S σ2 ∧ H5 = upd H D (.lst (((x.cps.toList.take (i + 1)).filter keep).map f)))) fun σ2 q3 => ?_
    have et : x.cps.toList.take (i + 1) = x.cps.toList.take i ++ [c] := by rw [List.take_add_one, hc']; rfl
    by_cases hk : keep c = true
    · rw [if_pos hk]
      refine ⟨_, x.cps.size - (i + 1), upd_same, ?_, by omega, by omega, rfl, q3, ?_⟩
      · rw [List.length_map]
        have := List.length_filter_le keep (x.cps.toList.take i)
        rw [List.length_take] at this; omega
      · rw [upd_upd', et, List.filter_append, List.map_append, List.filter_cons_of_pos hk]; rfl
    · rw [if_neg hk]
      refine ⟨x.cps.size - (i + 1), by omega, by omega, rfl, q3, ?_⟩
      rw [et, List.filter_append, List.map_append, List.filter_cons_of_neg hk]; simp
  · have e : i = x.cps.size := by omega
    subst e
    rw [List.take_of_length_le (by omega)]
    exact .inl ⟨Nat.le_refl _, hq⟩
theorem comp_str {x : Str} {g : TG} {te : TE} {Q : VK} {H : Hp} {D : Addr} {σ0 : St} (f : Nat → V) (S : St → Prop) (hz : x.cps.size ≤ sizeLine) (h0 : S σ0) (hD : H D = none)
    (ht : ∀ c, c ∈ x.cps.toList → ∀ σ1 H1, S σ1 → Same H H1 → ∀ R : St → V → Hp → Prop, (∀ σ2, S σ2 → R σ2 (f c) H1) → g (.str ⟨#[c]⟩) σ1 H1 fun σ2 H2 => te σ2 H2 fun y H4 => R σ2 y H4)
    (hq : Q (.ref D) (upd H D (.lst (x.cps.toList.map f)))) :
    CompGo (Its x) g tYes te Q σ0 H D := by
  refine comp_strF (fun _ => true) f S hz h0 hD (fun c hc σ1 H1 hS hs R R' hR => ?_) (by rw [List.filter_eq_self.mpr fun _ _ => rfl]; exact hq)
  exact ht c hc σ1 H1 hS hs R fun σ2 h2 => by have := hR σ2 h2; rwa [if_pos rfl] at this
/-! ### a comprehension over a list whose elements may be anything new -/
/-! ### what was reached: all is kept, and it is closed -/
structure Ext (H H' : Hp) : Prop where
  s : Same H H'
  c : Closed H → Closed H'
theorem Ext.trans {A B C : Hp} (a : Ext A B) (b : Ext B C) : Ext A C := ⟨a.s.trans b.s, fun z => b.c (a.c z)⟩
theorem Ext.new {H : Hp} {p : Addr} {o : HO} (h : H p = none) (ho : OwnIn (upd H p o) p o) : Ext H (upd H p o) := ⟨same_new h, fun c => closed_new c h ho⟩
theorem Ext.lst {H : Hp} {p : Addr} {xs : List V} (h : H p = none) : Ext H (upd H p (.lst xs)) := .new h trivial
theorem Ext.tup {H : Hp} {p : Addr} {xs : List V} (h : H p = none) : Ext H (upd H p (.tup xs)) := .new h trivial
theorem Ext.made {H : Hp} {x dx C : Addr} {fs : List (Str × V)} (h1 : H x = none) (h2 : H dx = none) (h3 : dx ≠ x) : Ext H (upd (upd H dx (.own x)) x (.ins C dx fs)) := by
  have hx : upd H dx (.own x) x = none := by rw [upd_ne (Ne.symm h3)]; exact h1
  refine ⟨(same_new h2).trans (same_new hx), fun c => closed_new (closed_new c h2 trivial) hx ?_⟩
  show upd (upd H dx (.own x)) x (.ins C dx fs) dx = some (.own x)
  rw [upd_ne h3]; exact upd_same
theorem Ext.sub {H H' : Hp} (e : Ext H H') : Sub H H' H' := .all (fun b o h => ⟨o, e.s b o h⟩) e.c
/-! ### texts -/
theorem app_cps (x y : Str) : (x ++ y).cps.toList = x.cps.toList ++ y.cps.toList := Array.toList_append
theorem app_len (x y : Str) : (x ++ y).length = x.length + y.length := Array.size_append
/-- a text of at most n signs, all out of S -/
structure Tx (n : Nat) (S : List Nat) (x : Str) : Prop where
  n : x.length ≤ n
  s : ∀ c, c ∈ x.cps.toList → c ∈ S
theorem Tx.app {n m : Nat} {S : List Nat} {x y : Str} (h : Tx n S x) (h' : Tx m S y) : Tx (n + m) S (x ++ y) := ⟨by rw [app_len]; have := h.n; have := h'.n; omega, fun c hc => by
  rw [app_cps] at hc
  exact (List.mem_append.mp hc).elim (h.s c) (h'.s c)⟩
theorem Tx.one {S : List Nat} {c : Nat} (h : c ∈ S) : Tx 1 S ⟨#[c]⟩ := ⟨Nat.le_refl _, fun d hd => by rw [List.mem_singleton.mp hd]; exact h⟩
theorem Tx.slice {n : Nat} {S : List Nat} {x : Str} (h : Tx n S x) (lo hi : Option Int) : Tx n S (Txt.slice x lo hi) := by
  have e := KM.slice_cps x lo hi
  refine ⟨?_, fun c hc => h.s c ?_⟩
  · have e2 := congrArg List.length e
    rw [List.length_take, List.length_drop] at e2
    have e3 : (Txt.slice x lo hi).cps.toList.length = (Txt.slice x lo hi).length := Array.length_toList
    have e4 : x.cps.toList.length = x.length := Array.length_toList
    have := h.n
    omega
  · rw [e] at hc
    exact List.mem_of_mem_drop (List.mem_of_mem_take hc)
theorem slice_len_to (x : Str) (k : Nat) (h : k ≤ x.length) : (Txt.slice x none (some (k : Int))).length = k := by
  have e2 := congrArg List.length (KM.slice_cps x none (some (k : Int)))
  rw [HT.sIx_nat, HT.sIx_none, List.drop_zero, List.length_take] at e2
  have e3 : (Txt.slice x none (some (k : Int))).cps.toList.length = (Txt.slice x none (some (k : Int))).length := Array.length_toList
  have e4 : x.cps.toList.length = x.length := Array.length_toList
  omega
theorem slice_len_from (x : Str) (k : Nat) (h : k ≤ x.length) : (Txt.slice x (some (k : Int)) none).length = x.length - k := by
  have e2 := congrArg List.length (KM.slice_cps x (some (k : Int)) none)
  rw [HT.sIx_nat, HT.sIx_none, List.length_take, List.length_drop] at e2
  have e3 : (Txt.slice x (some (k : Int)) none).cps.toList.length = (Txt.slice x (some (k : Int)) none).length := Array.length_toList
  have e4 : x.cps.toList.length = x.length := Array.length_toList
  omega
theorem at_text {x : Str} {k : Nat} (h : k < x.length) : ∃ c, c ∈ x.cps.toList ∧ atI x.cps.toList ((k : Nat) : Int) = some c := by
  have h' : k < x.cps.toList.length := by rw [Array.length_toList]; exact h
  exact ⟨x.cps.toList[k], List.getElem_mem h', atI_nat (List.getElem?_eq_getElem h')⟩
/-- how many unlike texts -/
def dsN (ns : List Str) : Nat := (metT (fun i => ns.getD i Str.empty) ns.length).length
def dsT (s : Str) : Nat := (metT (signsOf s) s.cps.size).length
theorem dsN_le (ns : List Str) : dsN ns ≤ ns.length := metT_le ..
theorem dsT_le (s : Str) : dsT s ≤ s.length := metT_le ..
theorem names_range (ns : List Str) : ((List.range ns.length).map fun i => V.str (ns.getD i Str.empty)) = ns.map V.str := by
  apply List.ext_getElem
  · rw [List.length_map, List.length_range, List.length_map]
  · intro i h1 h2
    rw [List.length_map] at h2
    rw [List.getElem_map, List.getElem_map, List.getElem_range, List.getD_eq_getElem?_getD, List.getElem?_eq_getElem h2]; rfl
theorem texts_names {K : PySem.W.Frag} {H : Hp} {a : Addr} {ns : List Str} (h : SqL K H a (ns.map V.str)) : TextsOf K H (.ref a) (fun i => ns.getD i Str.empty) ns.length := .inl ⟨a, rfl, by rw [names_range]; exact h⟩
theorem texts_text {K : PySem.W.Frag} {H : Hp} (s : Str) : TextsOf K H (.str s) (signsOf s) s.cps.size := .inr ⟨s, rfl, rfl, rfl⟩
/-! ### what the forms ask of texts -/
def L26 : Str := "abcdefghijklmnopqrstuvwxyz"
def L62 : Str := "abcdefghijklmnopqrstuvwxyzABCDEFGHIJKLMNOPQRSTUVWXYZ0123456789"
def madeOf (t s : Str) : Bool := t.cps.toList.all fun c => decide (c ∈ s.cps.toList)
theorem L62_len : L62.length = 62 := by decide +kernel
theorem L26_len : L26.length = 26 := by decide +kernel
def goodText (s : Str) : Bool := decide (s.length ≠ 0 ∧ s.length ≤ 60 ∧ dsT s = s.length) && madeOf s L62
def isName (n : Str) : Bool := decide (0 < n.length ∧ n.length ≤ 12) && madeOf n L26
def goodNames (ns : List Str) : Bool := decide (ns.length ≠ 0 ∧ ns.length ≤ 20 ∧ dsN ns = ns.length) && ns.all isName
theorem str_nil (s : Str) : s = Str.ofString "" ↔ s.length = 0 := by
  have e : Str.ofString "" = ⟨#[]⟩ := by decide +kernel
  rw [e]
  constructor
  · rintro rfl; rfl
  · intro h
    obtain ⟨c⟩ := s
    have : c = #[] := Array.eq_empty_of_size_eq_zero h
    rw [this]
theorem upd_swap {H : Hp} {a b : Addr} {x y : HO} (h : a ≠ b) : upd (upd H a x) b y = upd (upd H b y) a x := by
  funext c
  by_cases h1 : c = b
  · subst h1
    rw [upd_same, upd_ne (Ne.symm h), upd_same]
  · rw [upd_ne h1]
    by_cases h2 : c = a
    · subst h2
      rw [upd_same, upd_same]
    · rw [upd_ne h2, upd_ne h2, upd_ne h1]
theorem closed_lst {H : Hp} {D : Addr} {l l' : List V} (h : H D = some (.lst l)) (c : Closed H) : Closed (upd H D (.lst l')) := fun b u e => by
  by_cases z : b = D
  · subst z; rw [upd_same] at e; cases e; trivial
  · rw [upd_ne z] at e
    have ow := c b u e
    clear e
    induction u with
    | ins C dx fs =>
      have x' : H dx = some (.own b) := ow
      show upd H D (.lst l') dx = some (.own b)
      rw [upd_ne fun z => by rw [z, h] at x'; cases x']
      exact x'
    | frz ob u ih => exact ih ow
    | _ => trivial
end L2

end

section
namespace L2
open PySem PySem.W PySem.Spec PyProof.Rows
/-! ### unlike texts -/
theorem metT_sub (val : Nat → Str) : ∀ n k, k ∈ metT val n → ∃ i, i < n ∧ k = val i
  | 0, k, h => by cases h
  | n + 1, k, h => by
    unfold metT at h
    by_cases z : val n ∈ metT val n
    · rw [if_pos z] at h
      obtain ⟨i, hi, e⟩ := metT_sub val n k h
      exact ⟨i, by omega, e⟩
    · rw [if_neg z] at h
      rcases List.mem_append.mp h with y | y
      · obtain ⟨i, hi, e⟩ := metT_sub val n k y
        exact ⟨i, by omega, e⟩
      · exact ⟨n, Nat.lt_succ_self _, List.mem_singleton.mp y⟩
theorem metT_inj (val : Nat → Str) : ∀ n, (∀ i j, i < n → j < n → val i = val j → i = j) → (metT val n).length = n
  | 0, _ => rfl
  | n + 1, h => by
    unfold metT
    have z : val n ∉ metT val n := fun z => by
      obtain ⟨i, hi, e⟩ := metT_sub val n _ z
      have := h n i (Nat.lt_succ_self _) (by omega) e
      omega
    rw [if_neg z, List.length_append, metT_inj val n fun i j hi hj e => h i j (by omega) (by omega) e]
    rfl
theorem dsT_nodup {s : Str} (h : s.cps.toList.Nodup) : dsT s = s.length := by
  refine metT_inj _ _ fun i j hi hj e => ?_
  unfold signsOf at e
  injection e with e
  have e := congrArg (fun a => a[0]?) e
  simp only [List.getElem?_toArray, List.getElem?_cons_zero, Option.some.injEq] at e
  have hi' : i < s.cps.toList.length := by rw [Array.length_toList]; exact hi
  have hj' : j < s.cps.toList.length := by rw [Array.length_toList]; exact hj
  have g : ∀ k (hk : k < s.cps.toList.length), s.cps.getD k 0 = s.cps.toList[k] := fun k hk => by
    rw [Array.getD_eq_getD_getElem?, ← Array.getElem?_toList, List.getElem?_eq_getElem hk]; rfl
  rw [g i hi', g j hj'] at e
  exact (List.getElem_inj h).mp e
theorem dsN_nodup {ns : List Str} (h : ns.Nodup) : dsN ns = ns.length := by
  refine metT_inj _ _ fun i j hi hj e => ?_
  have g : ∀ k (hk : k < ns.length), ns.getD k Str.empty = ns[k] := fun k hk => by
    rw [List.getD_eq_getElem?_getD, List.getElem?_eq_getElem hk]; rfl
  rw [g i hi, g j hj] at e
  exact (List.getElem_inj h).mp e
theorem L62_nodup : L62.cps.toList.Nodup := by decide +kernel
theorem L26_nodup : L26.cps.toList.Nodup := by decide +kernel
/-- found and rest are the 62 signs in some order -/
theorem good_found {f r : Str} (h : (f.cps.toList ++ r.cps.toList).Perm L62.cps.toList) (h0 : f.length ≠ 0) (h1 : f.length ≤ 60) : goodText f = true := by
  have nd : (f.cps.toList ++ r.cps.toList).Nodup := h.nodup_iff.mpr L62_nodup
  have nf : f.cps.toList.Nodup := (List.nodup_append.mp nd).1
  unfold goodText
  rw [decide_eq_true ⟨h0, h1, dsT_nodup nf⟩, Bool.true_and]
  unfold madeOf
  rw [List.all_eq_true]
  exact fun c hc => decide_eq_true (h.mem_iff.mp (List.mem_append_left _ hc))
theorem perm_move {f r a b : List Nat} {x : Nat} (e : r = a ++ x :: b) : ((f ++ [x]) ++ (a ++ b)).Perm (f ++ r) := by
  subst e
  rw [List.append_assoc]
  exact List.Perm.append_left f (List.perm_middle (a := x) (l₁ := a) (l₂ := b)).symm
theorem slice_cut {x : Str} {k : Nat} (h : k < x.length) : ∃ c, atI x.cps.toList ((k : Nat) : Int) = some c ∧ x.cps.toList = (Txt.slice x none (some (k : Int))).cps.toList ++ c :: (Txt.slice x (some ((k + 1 : Nat) : Int)) none).cps.toList := by
  have e4 : x.cps.toList.length = x.length := Array.length_toList
  have h' : k < x.cps.toList.length := by omega
  refine ⟨x.cps.toList[k], atI_nat (List.getElem?_eq_getElem h'), ?_⟩
  rw [KM.slice_cps, KM.slice_cps, HT.sIx_nat, HT.sIx_none, HT.sIx_none, HT.sIx_nat, List.drop_zero, Nat.sub_zero, Nat.min_eq_left (by omega), Nat.min_eq_left (by omega), List.take_of_length_le (l := List.drop (k + 1) _) (by rw [List.length_drop]; omega)]
  rw [← List.drop_eq_getElem_cons h', List.take_append_drop]
/-! ### names -/
theorem name_eq {s : Str} {a : Int} {c d : Nat} (e : (Txt.slice s none (some a) ++ ⟨#[c]⟩) ++ Txt.slice s (some a) none = (Txt.slice s none (some a) ++ ⟨#[d]⟩) ++ Txt.slice s (some a) none) : c = d := by
  have e := congrArg (fun x => x.cps.toList) e
  simp only [app_cps] at e
  have e := List.append_cancel_right e
  have e := List.append_cancel_left e
  have : [c] = [d] := e
  exact List.head_eq_of_cons_eq this
theorem step_inj {f x : Int} {i j : Nat} (hx : x ∈ ([1, 3, 5, 7, 9, 11] : List Int)) (hi : i < 26) (hj : j < 26) (e : (f + (0 + ((i : Nat) : Int)) * x) % 26 = (f + (0 + ((j : Nat) : Int)) * x) % 26) : i = j := by
  have hx' : x = 1 ∨ x = 3 ∨ x = 5 ∨ x = 7 ∨ x = 9 ∨ x = 11 := by simpa using hx
  rcases hx' with rfl | rfl | rfl | rfl | rfl | rfl <;> omega
theorem isName_of {n : Str} (h : Tx 12 L26.cps.toList n) (h0 : 0 < n.length) : isName n = true := by
  unfold isName
  rw [decide_eq_true ⟨h0, h.n⟩, Bool.true_and]
  unfold madeOf
  rw [List.all_eq_true]
  exact fun c hc => decide_eq_true (h.s c hc)
theorem goodNames_of {ns : List Str} (h0 : ns.length ≠ 0) (h1 : ns.length ≤ 20) (hn : ns.Nodup) (hs : ∀ n, n ∈ ns → isName n = true) : goodNames ns = true := by
  unfold goodNames
  rw [decide_eq_true ⟨h0, h1, dsN_nodup hn⟩, Bool.true_and, List.all_eq_true]
  exact hs
theorem isName_len {n : Str} (h : isName n = true) : n.length ≤ 12 := by
  unfold isName at h
  simp only [Bool.and_eq_true, decide_eq_true_eq] at h
  exact h.1.2
theorem goodNames_mem {ns : List Str} (h : goodNames ns = true) : ns.length ≤ 20 ∧ ∀ n, n ∈ ns → n.length ≤ 12 := by
  unfold goodNames at h
  simp only [Bool.and_eq_true, decide_eq_true_eq, List.all_eq_true] at h
  exact ⟨h.1.2.1, fun n hn => isName_len (h.2 n hn)⟩
/-! ### all but one list is kept -/
structure Grow (p : Addr) (H H' : Hp) : Prop where
  k : ∀ b u, b ≠ p → H b = some u → H' b = some u
  l : ∃ ns : List Int, H' p = some (.lst (ns.map V.int)) ∧ ns.length ≤ 90
  c : Closed H → Closed H'
def Pool (p : Addr) (H : Hp) : Prop := ∃ ns : List Int, H p = some (.lst (ns.map V.int)) ∧ ns.length ≤ 90
theorem Grow.refl {p : Addr} {H : Hp} (h : Pool p H) : Grow p H H := ⟨fun _ _ _ e => e, h, id⟩
theorem Grow.trans {p : Addr} {A B C : Hp} (a : Grow p A B) (b : Grow p B C) : Grow p A C := ⟨fun x u n e => b.k x u n (a.k x u n e), b.l, fun c => b.c (a.c c)⟩
theorem Grow.ext {p : Addr} {A B C : Hp} (a : Grow p A B) (b : Ext B C) : Grow p A C := by
  obtain ⟨ns, h, hn⟩ := a.l
  exact ⟨fun x u n e => b.s x u (a.k x u n e), ⟨ns, b.s _ _ h, hn⟩, fun c => b.c (a.c c)⟩
theorem Grow.pop {p : Addr} {H : Hp} {ns : List Int} (h : Pool p H) (hn : ns.length ≤ 90) : Grow p H (upd H p (.lst (ns.map V.int))) := by
  obtain ⟨ms, e, _⟩ := h
  exact ⟨fun b u nb q => by rw [upd_ne nb]; exact q, ⟨ns, upd_same, hn⟩, fun c => closed_lst e c⟩
theorem Grow.sub {p : Addr} {H H' : Hp} (h : Grow p H H') : Sub H H' H' := .all (fun b o e => by
  by_cases z : b = p
  · subst z
    obtain ⟨ns, e, _⟩ := h.l
    exact ⟨_, e⟩
  · exact ⟨o, h.k b o z e⟩) h.c
theorem Grow.free {p b : Addr} {H H' : Hp} (h : Grow p H H') (e : H' b = none) : H b = none := by
  cases z : H b with
  | none => rfl
  | some u =>
    by_cases y : b = p
    · subst y
      obtain ⟨ns, q, _⟩ := h.l
      rw [e] at q; cases q
    · rw [h.k b u y z] at e; cases e
/-- a def of which nothing is asked -/
theorem DefOk.none {P : Program} {w : World} {K : PySem.W.Frag} {mg : Str → Option Value} {base : Heap} {x : Str} {st : Stmt} {f : Addr} {fd : FuncData} {ps : List Str} {k : Nat} {sp : Sp} (F : FunAt K mg x st ps f fd) (h : ∀ vs H Q E, ¬ sp vs H Q E) : DefOk P w K mg base k x ps sp :=
  ⟨f, fd, ⟨fun vs H Q E q => absurd q (h _ _ _ _), fun A outer s H args us vs Q E _ _ _ _ q => absurd q (h _ _ _ _)⟩, F.2.1, F.1.kp, F.2.2⟩
theorem Grow.set {p l : Addr} {H H' : Hp} {xs ys : List V} (g : Grow p H H') (h0 : H l = none) (h : H' l = some (.lst xs)) (hl : l ≠ p) : Grow p H (upd H' l (.lst ys)) := by
  obtain ⟨ns, e, hn⟩ := g.l
  exact ⟨fun b u nb q => by rw [upd_ne (ne_of_none q h0)]; exact g.k b u nb q, ⟨ns, by rw [upd_ne (Ne.symm hl)]; exact e, hn⟩, fun c => closed_lst h (g.c c)⟩
theorem Grow.ne {p l : Addr} {H H' : Hp} (g : Grow p H H') (h : H' l = none) : l ≠ p := fun z => by
  obtain ⟨ns, e, _⟩ := g.l
  rw [z, e] at h; cases h
end L2

end

section
namespace L2
open PySem PySem.W PySem.Spec PyProof.Rows
section
variable {X : Cx}
/-! ### further calls -/
/-- a list of texts, where the text stands first -/
def rLIndex : V → List V → Hp → VK → Prop := fun x vs H Q => ∃ (l : Addr) (ws : List Str) (w : Str) (k : Nat), x = .ref l ∧ vs = [.str w] ∧ H l = some (.lst (ws.map V.str)) ∧ ws[k]? = some w ∧ (∀ j, j < k → ws[j]? ≠ some w) ∧ ws.length < 100000 ∧ Q (.int ((k : Nat) : Int)) H
theorem mt_lindex : MtR X "list.index" rLIndex := by
  intro pins s σ H x vs v us Q I rx rv h
  obtain ⟨l, ws, w, k, rfl, rfl, hH, hk, hno, hz, q⟩ := h
  cases rx
  obtain ⟨u1, rfl, ⟨t, rfl⟩⟩ := vals1 rv
  obtain ⟨z, its, n, rr, hl, e⟩ := I.lstM hH
  have hlen := rr.length
  rw [List.length_map] at hlen
  have hkl : k < ws.length := (List.getElem?_eq_some_iff.mp hk).1
  have hat : ∀ (j : Nat) (hj : j < its.length), ∃ t', its[j] = .str (ws[j]'(by omega)) t' := fun j hj => by
    obtain ⟨u, hu, ru⟩ := rr.get (i := j) (x := .str (ws[j]'(by omega))) (by rw [List.getElem?_map, List.getElem?_eq_getElem (by omega)]; rfl)
    rw [List.getElem?_eq_getElem hj] at hu
    obtain ⟨t', ht'⟩ := (show ∃ t, u = Value.str _ t from ru)
    exact ⟨t', by rw [← ht']; exact Option.some.inj hu⟩
  let ee : Value → Bool := fun y => match y with | .str a _ => decide (a = w) | _ => false
  have he : ∀ y, y ∈ its.toArray → MeetsSeq.EqGives y (.str w t) (ee y) := fun y hy => by
    obtain ⟨j, hj, rfl⟩ := List.mem_iff_getElem.mp (List.mem_toArray.mp hy)
    obtain ⟨t', e'⟩ := hat j hj
    rw [e']
    exact eqG_str _ _ _ _
  have hit : ee (its.toArray[k]'(by rw [List.size_toArray]; omega)) = true := by
    obtain ⟨t', e'⟩ := hat k (by omega)
    rw [List.getElem_toArray, e']
    have := (List.getElem?_eq_some_iff.mp hk).2
    show decide (_ = _) = true
    rw [this]; exact decide_eq_true rfl
  have hno' : ∀ m (hm : m < its.toArray.size), m < k → ee its.toArray[m] = false := fun m hm hmk => by
    rw [List.size_toArray] at hm
    obtain ⟨t', e'⟩ := hat m hm
    rw [List.getElem_toArray, e']
    show decide (_ = _) = false
    refine decide_eq_false fun z => hno m hmk ?_
    rw [List.getElem?_eq_getElem (by omega), z]
  refine call_meets F.slot_list_index ⟨_, e, rfl⟩ F.entry_list_index (F.args_list_index_2 _ _) (MeetsSeq.list_index l its.toArray n (.str w t) ee he k (by rw [List.size_toArray]; omega) (by omega) hit hno') ⟨e, ?_⟩
  exact ⟨.int _, H, I.tok _, ⟨_, rfl⟩, q⟩
end
/-! ### forms, and how they are written -/
inductive Fm where
  | bare (k : Fin 4)
  | sp (a b : Int)
  | le (s : Str)
  | one (k : Fin 3) (f : Fm)
  | two (k : Fin 2) (ns : List Str) (fs : List Fm)
def cp (s : String) : List Nat := (Str.ofString s).cps.toList
def num (a : Int) : List Nat := (Str.ofString (toString a)).cps.toList
def bw (k : Fin 4) : Str := [Str.ofString "nothing", Str.ofString "truth", Str.ofString "whole", Str.ofString "fraction"][k]
def ow (k : Fin 3) : Str := [Str.ofString "maybe", Str.ofString "many", Str.ofString "turned"][k]
def tw (k : Fin 2) : Str := [Str.ofString "record", Str.ofString "choice"][k]
mutual
def sh : Fm → List Nat
  | .bare k => (bw k).cps.toList
  | .sp a b => cp "span" ++ (cp "(" ++ ((num a ++ (cp ", " ++ num b)) ++ cp ")"))
  | .le s => cp "letters" ++ (cp "(" ++ (s.cps.toList ++ cp ")"))
  | .one k f => (ow k).cps.toList ++ (cp "(" ++ (sh f ++ cp ")"))
  | .two k ns fs => (tw k).cps.toList ++ (cp "(" ++ (shs fs ns ++ cp ")"))
def shs : List Fm → List Str → List Nat
  | [], _ => []
  | f :: fs, ns => (ns.headD Str.empty).cps.toList ++ (cp " " ++ (sh f ++ (match fs with | [] => [] | _ :: _ => cp ", " ++ shs fs ns.tail)))
end
mutual
def ht : Fm → Nat
  | .bare _ => 1
  | .sp _ _ => 1
  | .le _ => 1
  | .one _ f => ht f + 1
  | .two _ _ fs => hts fs + 1
def hts : List Fm → Nat
  | [] => 0
  | f :: fs => max (ht f) (hts fs)
end
/-- the classes of forms -/
structure FC where
  b : Fin 4 → Addr
  s : Addr
  l : Addr
  o : Fin 3 → Addr
  t : Fin 2 → Addr
mutual
/-- the object o stands for the form; its objects are none of X -/
def FAt (c : FC) (X : List Addr) (H : Hp) : Fm → Addr → Prop
  | .bare k, o => o ∉ X ∧ ∃ dx, H o = some (.ins (c.b k) dx [])
  | .sp a b, o => o ∉ X ∧ ∃ dx, H o = some (.ins c.s dx [("low", .int a), ("high", .int b)])
  | .le s, o => o ∉ X ∧ ∃ dx, H o = some (.ins c.l dx [("signs", .str s)])
  | .one k f, o => o ∉ X ∧ ∃ dx i, H o = some (.ins (c.o k) dx [("inner", .ref i)]) ∧ FAt c X H f i
  | .two k ns fs, o => o ∉ X ∧ ∃ dx l1 l2 os, H o = some (.ins (c.t k) dx [("names", .ref l1), ("forms", .ref l2)]) ∧ l1 ∉ X ∧ l2 ∉ X ∧ H l1 = some (.lst (ns.map V.str)) ∧ H l2 = some (.lst (os.map V.ref)) ∧ FsAt c X H fs os
def FsAt (c : FC) (X : List Addr) (H : Hp) : List Fm → List Addr → Prop
  | [], os => os = []
  | f :: fs, os => ∃ o r, os = o :: r ∧ FAt c X H f o ∧ FsAt c X H fs r
end
/-! ### o.m(..) of an object of one of some classes -/
def AnyM (P : Program) (w : World) (K : PySem.W.Frag) (mg : Str → Option Value) (base : Heap) (k : Nat) (m : Str) (ps : List Str) {ι : Type} (cl : ι → Addr) (sp : ι → Sp) : Prop := ∀ i, MethOk P w K mg base k (cl i) m ps (sp i) ∧ Cls K (cl i)
section
variable {X : Cx} {k k' : Nat} {m : Str} {ps : List Str} {ι : Type} {cl : ι → Addr} {sp : ι → Sp} {e o : Expr} {es : List Expr} {t : TA} {ta : TE} {pos apos : Pos}
theorem pe_methAny {pl : Sem Bool} (h : AnyM X.prog X.w X.K X.mg X.base k m ps cl sp) (hr : Room k' X.A) (he : PE X o ta) (ha : PA X (e :: es) t) (hk : k ≤ k' := by decide)
    (hst : starEach (e :: es) X.env = (false, eval e X.env) :: starEach es X.env := by rfl) (hpl : (backTo pos (starEach es X.env)).any (·.1) = false := by rfl)
    (ht : eval (.Call (.Attribute o m apos) (e :: es) [] pos) X.env = (do
      let ov ← eval o X.env
      standAt apos.atName
      let (f, first) ← holding [ov] (getMethod ov m pl)
      callWith pos f first (backTo pos (starEach (e :: es) X.env)) (backToKw pos (keywordEach [] X.env))) := by rfl) :
    PE X (.Call (.Attribute o m apos) (e :: es) [] pos) (fun σ H Q => ta σ H fun x H1 => ∃ a i dx fs, x = .ref a ∧ H1 a = some (.ins (cl i) dx fs) ∧ fs.lookup m = none ∧ t σ H1 fun vs H2 => sp i (x :: vs) H2 Q E0) := by
  intro pins s σ H Q I hq
  refine PySem.W.methodCall_KW (pl := pl) (thn (he pins s σ H _ I hq) fun u s1 ⟨x, H1, I1, rx, a, i, dx, fs, ex, ea, l, q⟩ => ?_) ht
  subst ex
  obtain rfl : u = Value.ref a := rx
  obtain ⟨⟨f, fd, F, hb, hm⟩, c⟩ := h i
  refine getmeth_ok I1 ea c hm l ?_
  refine PySem.W.callWith_K (first := [.ref a]) (h₀ := X.base) I.ok.mod.kin hm.kp (thn (ha pos pins s1 σ H1 _ I1 q) fun us s2 ⟨vs, H2, I2, r, q2⟩ => ⟨I2.kIn, ?_⟩) hst hpl
  exact run_fn (us := .ref a :: us) (vs := .ref a :: vs) (dvs := []) (ds := []) F (hr.mono hk) hb .nil pass0 I2 (.cons rfl r) (by rw [List.append_nil]; exact q2)
end
/-! ### numbers as texts -/
/-! ### all but one object is kept -/
structure Mv (cu : Addr) (H H' : Hp) : Prop where
  k : ∀ b u, b ≠ cu → H b = some u → H' b = some u
  c : Closed H → Closed H'
theorem Mv.refl (cu : Addr) (H : Hp) : Mv cu H H := ⟨fun _ _ _ e => e, id⟩
theorem Mv.ext {cu : Addr} {A B C : Hp} (a : Mv cu A B) (b : Ext B C) : Mv cu A C := ⟨fun x u n e => b.s x u (a.k x u n e), fun c => b.c (a.c c)⟩
theorem Mv.sub {cu : Addr} {H H' : Hp} {o : HO} (h : Mv cu H H') (e : H' cu = some o) : Sub H H' H' := .all (fun b u q => by
  by_cases z : b = cu
  · subst z; exact ⟨_, e⟩
  · exact ⟨u, h.k b u z q⟩) h.c
mutual
theorem FAt.keep {c : FC} {X : List Addr} {H H' : Hp} (k : ∀ b u, b ∉ X → H b = some u → H' b = some u) : ∀ (f : Fm) {o : Addr}, FAt c X H f o → FAt c X H' f o
  | .bare i, o, h => by
    obtain ⟨n, dx, e⟩ := h
    exact ⟨n, dx, k _ _ n e⟩
  | .sp a b, o, h => by
    obtain ⟨n, dx, e⟩ := h
    exact ⟨n, dx, k _ _ n e⟩
  | .le s, o, h => by
    obtain ⟨n, dx, e⟩ := h
    exact ⟨n, dx, k _ _ n e⟩
  | .one i f, o, h => by
    obtain ⟨n, dx, j, e, q⟩ := h
    exact ⟨n, dx, j, k _ _ n e, FAt.keep k f q⟩
  | .two i ns fs, o, h => by
    obtain ⟨n, dx, l1, l2, os, e, n1, n2, e1, e2, q⟩ := h
    exact ⟨n, dx, l1, l2, os, k _ _ n e, n1, n2, k _ _ n1 e1, k _ _ n2 e2, FsAt.keep k fs q⟩
theorem FsAt.keep {c : FC} {X : List Addr} {H H' : Hp} (k : ∀ b u, b ∉ X → H b = some u → H' b = some u) : ∀ (fs : List Fm) {os : List Addr}, FsAt c X H fs os → FsAt c X H' fs os
  | [], os, h => h
  | f :: fs, os, h => by
    obtain ⟨o, r, e, q, q2⟩ := h
    exact ⟨o, r, e, FAt.keep k f q, FsAt.keep k fs q2⟩
end
mutual
theorem FAt.weak {c : FC} {X Y : List Addr} {H : Hp} (hs : ∀ x, x ∈ X → x ∈ Y) : ∀ (f : Fm) {o : Addr}, FAt c Y H f o → FAt c X H f o
  | .bare i, o, h => ⟨fun z => h.1 (hs _ z), h.2⟩
  | .sp a b, o, h => ⟨fun z => h.1 (hs _ z), h.2⟩
  | .le s, o, h => ⟨fun z => h.1 (hs _ z), h.2⟩
  | .one i f, o, h => by
    obtain ⟨n, dx, j, e, q⟩ := h
    exact ⟨fun z => n (hs _ z), dx, j, e, FAt.weak hs f q⟩
  | .two i ns fs, o, h => by
    obtain ⟨n, dx, l1, l2, os, e, n1, n2, e1, e2, q⟩ := h
    exact ⟨fun z => n (hs _ z), dx, l1, l2, os, e, fun z => n1 (hs _ z), fun z => n2 (hs _ z), e1, e2, FsAt.weak hs fs q⟩
theorem FsAt.weak {c : FC} {X Y : List Addr} {H : Hp} (hs : ∀ x, x ∈ X → x ∈ Y) : ∀ (fs : List Fm) {os : List Addr}, FsAt c Y H fs os → FsAt c X H fs os
  | [], os, h => h
  | f :: fs, os, h => by
    obtain ⟨o, r, e, q, q2⟩ := h
    exact ⟨o, r, e, FAt.weak hs f q, FsAt.weak hs fs q2⟩
end
theorem FsAt.len {c : FC} {X : List Addr} {H : Hp} : ∀ (fs : List Fm) {os : List Addr}, FsAt c X H fs os → os.length = fs.length
  | [], os, h => by
    obtain rfl : os = [] := h
    rfl
  | g :: fs, os, h => by
    obtain ⟨o', r, rfl, q, q2⟩ := h
    rw [List.length_cons, FsAt.len fs q2]; rfl
def bd : Fm → List Nat
  | .bare _ => []
  | .sp a b => num a ++ (cp ", " ++ num b)
  | .le s => s.cps.toList
  | .one _ f => sh f
  | .two _ ns fs => shs fs ns
theorem ht_pos : ∀ f : Fm, 1 ≤ ht f
  | .bare _ => by rw [ht]; exact Nat.le_refl _
  | .sp _ _ => by rw [ht]; exact Nat.le_refl _
  | .le _ => by rw [ht]; exact Nat.le_refl _
  | .one _ f => by rw [ht]; omega
  | .two _ _ fs => by rw [ht]; omega
mutual
theorem FAt.add {c : FC} {X : List Addr} {H : Hp} {l : Addr} (hl : H l = none) : ∀ (f : Fm) {o : Addr}, FAt c X H f o → FAt c (l :: X) H f o
  | .bare i, o, h => by
    obtain ⟨n, dx, e⟩ := h
    exact ⟨fun z => (List.mem_cons.mp z).elim (fun y => by rw [y, hl] at e; cases e) n, dx, e⟩
  | .sp a b, o, h => by
    obtain ⟨n, dx, e⟩ := h
    exact ⟨fun z => (List.mem_cons.mp z).elim (fun y => by rw [y, hl] at e; cases e) n, dx, e⟩
  | .le s, o, h => by
    obtain ⟨n, dx, e⟩ := h
    exact ⟨fun z => (List.mem_cons.mp z).elim (fun y => by rw [y, hl] at e; cases e) n, dx, e⟩
  | .one i f, o, h => by
    obtain ⟨n, dx, j, e, q⟩ := h
    exact ⟨fun z => (List.mem_cons.mp z).elim (fun y => by rw [y, hl] at e; cases e) n, dx, j, e, FAt.add hl f q⟩
  | .two i ns fs, o, h => by
    obtain ⟨n, dx, l1, l2, os, e, n1, n2, e1, e2, q⟩ := h
    exact ⟨fun z => (List.mem_cons.mp z).elim (fun y => by rw [y, hl] at e; cases e) n, dx, l1, l2, os, e, fun z => (List.mem_cons.mp z).elim (fun y => by rw [y, hl] at e1; cases e1) n1, fun z => (List.mem_cons.mp z).elim (fun y => by rw [y, hl] at e2; cases e2) n2, e1, e2, FsAt.add hl fs q⟩
theorem FsAt.add {c : FC} {X : List Addr} {H : Hp} {l : Addr} (hl : H l = none) : ∀ (fs : List Fm) {os : List Addr}, FsAt c X H fs os → FsAt c (l :: X) H fs os
  | [], os, h => h
  | f :: fs, os, h => by
    obtain ⟨o, r, e, q, q2⟩ := h
    exact ⟨o, r, e, FAt.add hl f q, FsAt.add hl fs q2⟩
end
inductive Sl where
  | b (k : Fin 4) | s | l | o (k : Fin 3) | t (k : Fin 2)
def clS (c : FC) : Sl → Addr
  | .b k => c.b k
  | .s => c.s
  | .l => c.l
  | .o k => c.o k
  | .t k => c.t k
def slot : Fm → Sl
  | .bare k => .b k
  | .sp _ _ => .s
  | .le _ => .l
  | .one k _ => .o k
  | .two k _ _ => .t k
theorem FAt.ins {c : FC} {X : List Addr} {H : Hp} {m : Str} (h1 : (m == ("low" : Str)) = false) (h2 : (m == ("high" : Str)) = false) (h3 : (m == ("signs" : Str)) = false) (h4 : (m == ("inner" : Str)) = false) (h5 : (m == ("names" : Str)) = false) (h6 : (m == ("forms" : Str)) = false) :
    ∀ (f : Fm) {o : Addr}, FAt c X H f o → ∃ dx fs, H o = some (.ins (clS c (slot f)) dx fs) ∧ fs.lookup m = none
  | .bare i, o, h => by
    obtain ⟨n, dx, e⟩ := h
    exact ⟨dx, _, e, rfl⟩
  | .sp a b, o, h => by
    obtain ⟨n, dx, e⟩ := h
    exact ⟨dx, _, e, by simp [List.lookup, h1, h2]⟩
  | .le s, o, h => by
    obtain ⟨n, dx, e⟩ := h
    exact ⟨dx, _, e, by simp [List.lookup, h3]⟩
  | .one i f, o, h => by
    obtain ⟨n, dx, j, e, q⟩ := h
    exact ⟨dx, _, e, by simp [List.lookup, h4]⟩
  | .two i ns fs, o, h => by
    obtain ⟨n, dx, l1, l2, os, e, _⟩ := h
    exact ⟨dx, _, e, by simp [List.lookup, h5, h6]⟩
end L2

end

section
namespace L2
open PySem PySem.W PySem.Spec PyProof.Rows
/-! ### values -/
inductive D where
  | non
  | bl (b : Bool)
  | int (i : Int)
  | str (s : Str)
  | tup (ds : List D)
  | lst (ds : List D)
mutual
def DAt (H : Hp) : D → V → Prop
  | .non, v => v = .non
  | .bl b, v => v = .bl b
  | .int i, v => v = .int i
  | .str s, v => v = .str s ∧ s.length ≤ 100000
  | .tup ds, v => ∃ a vs, v = .ref a ∧ H a = some (.tup vs) ∧ DsAt H ds vs ∧ vs.length ≤ 1000
  | .lst ds, v => ∃ a vs, v = .ref a ∧ H a = some (.lst vs) ∧ DsAt H ds vs ∧ vs.length ≤ 1000
def DsAt (H : Hp) : List D → List V → Prop
  | [], vs => vs = []
  | d :: ds, vs => ∃ v r, vs = v :: r ∧ DAt H d v ∧ DsAt H ds r
end
mutual
theorem DAt.same {H H' : Hp} (s : Same H H') : ∀ (d : D) {v : V}, DAt H d v → DAt H' d v
  | .non, v, h => h
  | .bl b, v, h => h
  | .int i, v, h => h
  | .str t, v, h => h
  | .tup ds, v, h => by
    obtain ⟨a, vs, e, eT, q, z⟩ := h
    exact ⟨a, vs, e, s _ _ eT, DsAt.same s ds q, z⟩
  | .lst ds, v, h => by
    obtain ⟨a, vs, e, eT, q, z⟩ := h
    exact ⟨a, vs, e, s _ _ eT, DsAt.same s ds q, z⟩
theorem DsAt.same {H H' : Hp} (s : Same H H') : ∀ (ds : List D) {vs : List V}, DsAt H ds vs → DsAt H' ds vs
  | [], vs, h => h
  | d :: ds, vs, h => by
    obtain ⟨v, r, e, q, q2⟩ := h
    exact ⟨v, r, e, DAt.same s d q, DsAt.same s ds q2⟩
end
theorem DsAt.len {H : Hp} : ∀ (ds : List D) {vs : List V}, DsAt H ds vs → vs.length = ds.length
  | [], vs, h => by
    obtain rfl : vs = [] := h
    rfl
  | g :: fs, vs, h => by
    obtain ⟨o', r, rfl, q, q2⟩ := h
    rw [List.length_cons, DsAt.len fs q2]; rfl
theorem DsAt.get {H : Hp} : ∀ (ds : List D) {vs : List V} {i : Nat} {v : V}, DsAt H ds vs → vs[i]? = some v → ∃ d, ds[i]? = some d ∧ DAt H d v
  | [], vs, i, v, h, e => by
    obtain rfl : vs = [] := h
    cases e
  | d :: ds, vs, 0, v, h, e => by
    obtain ⟨o', r, rfl, q, q2⟩ := h
    cases e
    exact ⟨d, rfl, q⟩
  | d :: ds, vs, i + 1, v, h, e => by
    obtain ⟨o', r, rfl, q, q2⟩ := h
    exact DsAt.get ds q2 e
section
variable {X : Cx}
end
end L2

end

section
namespace L2
open PySem PySem.W PySem.Spec PyProof.Rows
section
variable {prog : Program} {w : World} {A : Around} {E : Value → Shared → Prop} {s : Shared}
/-! ### the next of a tuple's walk, as a source of a zip -/
end
/-! ### the next of a zip of two sources -/
/-- the objects of a zip lie apart from what its sources read -/
structure ZAp (z TI TO i1 i2 : Addr) (fp1 fp2 : List Addr) : Prop where
  TIz : TI ≠ z
  TOz : TO ≠ z
  i1z : i1 ≠ z
  i2z : i2 ≠ z
  TITO : TI ≠ TO
  TIi1 : TI ≠ i1
  TIi2 : TI ≠ i2
  TOi1 : TO ≠ i1
  TOi2 : TO ≠ i2
  z1 : z ∉ fp1
  o1 : TO ∉ fp1
  j1 : i2 ∉ fp1
  z2 : z ∉ fp2
  o2 : TO ∉ fp2
  j2 : i1 ∉ fp2
section
variable {prog : Program} {w : World} {A : Around} {E : Value → Shared → Prop} {s : Shared}
variable {z TI TO i1 i2 : Addr} {fp1 fp2 : List Addr} {n1 n2 i : Nat} {P1 P2 : Nat → Value → Prop} {S1 S2 : Nat → Heap → Prop}
end
/-! ### for x, y in zip(a list, a tuple) -/
section
variable {prog : Program} {w : World} {A : Around} {E : Value → Shared → Prop} {s : Shared}
end
theorem isTuple_of {h : Heap} {a : Addr} {xs : Array Value} (x : IsTup h a xs) : h.IsTuple a xs := x
section
variable {X : Cx}
end
/-! ### a value in a list of texts -/
section
variable {X : Cx}
end
/-! ### forms, further -/
theorem slot_bare {f : Fm} {k : Fin 4} (h : slot f = .b k) : f = .bare k := by
  cases f with
  | bare j => injection h with h; rw [h]
  | sp a b => cases h
  | le s => cases h
  | one j f => cases h
  | two j ns fs => cases h
theorem slot_sp {f : Fm} (h : slot f = .s) : ∃ a b, f = .sp a b := by
  cases f with
  | sp a b => exact ⟨a, b, rfl⟩
  | bare j => cases h
  | le s => cases h
  | one j f => cases h
  | two j ns fs => cases h
theorem slot_le {f : Fm} (h : slot f = .l) : ∃ s, f = .le s := by
  cases f with
  | le s => exact ⟨s, rfl⟩
  | sp a b => cases h
  | bare j => cases h
  | one j f => cases h
  | two j ns fs => cases h
theorem slot_one {f : Fm} {k : Fin 3} (h : slot f = .o k) : ∃ g, f = .one k g := by
  cases f with
  | one j g => injection h with h; rw [h]; exact ⟨g, rfl⟩
  | sp a b => cases h
  | bare j => cases h
  | le s => cases h
  | two j ns fs => cases h
theorem slot_two {f : Fm} {k : Fin 2} (h : slot f = .t k) : ∃ ns fs, f = .two k ns fs := by
  cases f with
  | two j ns fs => injection h with h; rw [h]; exact ⟨ns, fs, rfl⟩
  | sp a b => cases h
  | bare j => cases h
  | le s => cases h
  | one j f => cases h
theorem fin4 : ∀ k : Fin 4, k = 0 ∨ k = 1 ∨ k = 2 ∨ k = 3 := by decide
theorem fin3 : ∀ k : Fin 3, k = 0 ∨ k = 1 ∨ k = 2 := by decide
theorem fin2 : ∀ k : Fin 2, k = 0 ∨ k = 1 := by decide
section
variable {P : Program} {w : World} {K : PySem.W.Frag} {mg : Str → Option Value} {base : Heap}
structure MethAt (K : PySem.W.Frag) (C : Addr) (m qual : Str) (st : Stmt) (ps : List Str) : Prop where
  ex : ∃ f fd, Fun K m qual st f fd ∧ Binds K fd ps [] ∧ Meth K C m f
  cl : Cls K C
theorem meth_none {C : Addr} {m qual : Str} {st : Stmt} {ps : List Str} {k : Nat} {sp : Sp} (M : MethAt K C m qual st ps) (h : ∀ vs H Q E, ¬ sp vs H Q E) : MethOk P w K mg base k C m ps sp := by
  obtain ⟨f, fd, F, hb, hm⟩ := M.ex
  exact ⟨f, fd, ⟨fun vs H Q E q => absurd q (h _ _ _ _), fun A outer s H args us vs Q E _ _ _ _ q => absurd q (h _ _ _ _)⟩, hb, hm⟩
end
/-! ### forms of some kinds only -/
end L2

end

section
namespace L2
open PySem PySem.W PySem.Spec PyProof.Rows
theorem first_is {l : List Nat} {c i : Nat} (h : l[i]? = some c) (hk : ∀ k, k < i → l[k]? ≠ some c) : l.idxOf c = i := by
  induction l generalizing i with
  | nil => cases h
  | cons a r ih =>
    cases i with
    | zero => cases h; rw [List.idxOf_cons_self]
    | succ i =>
      have ha : a ≠ c := fun e => hk 0 (by omega) (by rw [e]; rfl)
      have hb : (a == c) = false := by simpa using ha
      rw [List.idxOf_cons, hb]
      show r.idxOf c + 1 = i + 1
      rw [ih h fun k hk' e => hk (k + 1) (by omega) e]
section
variable {X : Cx}
/-- where a sign of a text stands first -/
theorem mt_sindexE : MtR X "str.index" (fun x xs H Q => ∃ (y : Str) (c : Nat), x = .str y ∧ xs = [.str ⟨#[c]⟩] ∧ c ∈ y.cps.toList ∧ Q (.int ((y.cps.toList.idxOf c : Nat) : Int)) H) := by
  intro pins s σ H x xs v us Q I rx rv h
  obtain ⟨y, c, rfl, rfl, hc, q⟩ := h
  obtain ⟨t, rfl⟩ := rx
  obtain ⟨u, rfl, t', rfl⟩ := rv.one
  rcases StrLaws.occ_head y ⟨#[c]⟩ 1 (Nat.le_refl _) with ⟨_, no⟩ | ⟨i, r, ho, hat, hno⟩
  · obtain ⟨i, hi⟩ := List.getElem?_of_mem hc
    exact absurd ((StrLaws.subAt_one y c i).mpr hi) (no i)
  · have e := first_is ((StrLaws.subAt_one y c i).mp hat) fun k hk z => hno k hk ((StrLaws.subAt_one y c k).mpr z)
    rw [e] at q
    exact call_gives F.slot_str_index (typeIs_str s y t) F.entry_str_index (F.args_str_index_2 _ _) (gives_str_index y ⟨#[c]⟩ t t' i r ho) ⟨.int _, H, I.tok _, ⟨_, rfl⟩, q⟩
end
end L2

end

section
namespace L2
open PySem PySem.W PySem.Spec PyProof.Rows
/-! ### an error that leaves a comprehension -/
section
variable {M : Model} {A : Around} {E : Value → Shared → Prop} {s : Shared} {base : Heap} {env : Env} {outer : List Env} {L e T : Addr} {Q : Unit → Shared → Prop} {cls : Value} {d : Option Addr} {fl : Value}
end
structure StnZ (fs Z : List Addr) (h h' : Heap) : Prop where
  keep : ∀ b o, b ∉ Z → b ∉ fs → h.get? b = some o → h'.get? b = some o
  slot : ∀ b o, b ∉ Z → h.get? b = some o → ∃ sl, h'.get? b = some { o with slots := sl }
section
variable {X : Cx} {elt target iter : Expr} {ifs : List Expr} {scope : Scope} {pos p : Pos} {caps : List (Nat × Str)} {tgs : List Str} {wi : TI} {g : TG} {tc : TT} {te : TE}
set_option maxHeartbeats 1000000
end
/-! ### o.m(..) of an object of one of some classes, which answers or refuses -/
section
variable {X : Cx} {k1 k2 k' : Nat} {m : Str} {ps : List Str} {ι : Type} {cl : ι → Addr} {sp1 sp2 : ι → Sp} {e o : Expr} {es : List Expr} {t : TA} {ta : TE} {pos apos : Pos} {E : St → XK}
end
end L2

end

section
namespace L2
open PySem PySem.W PySem.Spec PyProof.Rows PySem.SeqAt
/-! ### == and != of values -/
def isNonD : D → Bool
  | .non => true
  | _ => false
def eqBl (a : Bool) : D → Bool
  | .bl b => a == b
  | .int b => (if a then 1 else 0) == b
  | _ => false
def eqIn (a : Int) : D → Bool
  | .bl b => a == (if b then 1 else 0)
  | .int b => a == b
  | _ => false
def eqSt (a : Str) : D → Bool
  | .str b => a == b
  | _ => false
def eqTu (g : List D → Bool) : D → Bool
  | .tup ds => g ds
  | _ => false
def eqLi (g : List D → Bool) : D → Bool
  | .lst ds => g ds
  | _ => false
mutual
def eqDD : D → D → Bool
  | .non, d => isNonD d
  | .bl a, d => eqBl a d
  | .int a, d => eqIn a d
  | .str a, d => eqSt a d
  | .tup as, d => eqTu (eqDs as) d
  | .lst as, d => eqLi (eqDs as) d
def eqDs : List D → List D → Bool
  | [], ds => ds.isEmpty
  | a :: as, ds => match ds with | [] => false | d :: ds => eqDD a d && eqDs as ds
end
mutual
def dht : D → Nat
  | .non => 1
  | .bl _ => 1
  | .int _ => 1
  | .str _ => 1
  | .tup ds => dhts ds + 1
  | .lst ds => dhts ds + 1
def dhts : List D → Nat
  | [] => 0
  | d :: ds => max (dht d) (dhts ds)
end
theorem dht_pos (d : D) : 1 ≤ dht d := by cases d <;> rw [dht] <;> omega
theorem dhts_mem {d : D} {n : Nat} : ∀ {ds : List D}, d ∈ ds → dhts ds ≤ n → dht d ≤ n
  | [], h, _ => by cases h
  | e :: ds, h, hn => by
    rw [dhts] at hn
    rcases List.mem_cons.mp h with rfl | h
    · omega
    · exact dhts_mem h (by omega)
mutual
theorem eqDD_refl : ∀ d : D, eqDD d d = true
  | .non => by rw [eqDD]; rfl
  | .bl b => by rw [eqDD]; show (b == b) = true; exact beq_self_eq_true b
  | .int b => by rw [eqDD]; show (b == b) = true; exact beq_self_eq_true b
  | .str b => by rw [eqDD]; show (b == b) = true; exact beq_self_eq_true b
  | .tup ds => by rw [eqDD]; exact eqDs_refl ds
  | .lst ds => by rw [eqDD]; exact eqDs_refl ds
theorem eqDs_refl : ∀ ds : List D, eqDs ds ds = true
  | [] => by rw [eqDs]; rfl
  | d :: ds => by
    rw [eqDs]
    show (eqDD d d && eqDs ds ds) = true
    rw [eqDD_refl d, eqDs_refl ds]; rfl
end
theorem eqDs_gen : ∀ (ds es : List D), eqDs ds es = ((List.range (min ds.length es.length)).all (fun j => eqDD (ds.getD j .non) (es.getD j .non)) && ds.length == es.length)
  | [], es => by
    rw [eqDs]
    cases es <;> simp
  | d :: ds, [] => by rw [eqDs]; simp
  | d :: ds, e :: es => by
    rw [eqDs]
    show (eqDD d e && eqDs ds es) = _
    rw [eqDs_gen ds es, List.length_cons, List.length_cons, Nat.succ_min_succ, List.range_succ_eq_map, List.all_cons, List.all_map]
    have e1 : (ds.length + 1 == es.length + 1) = (ds.length == es.length) := by rw [Bool.eq_iff_iff]; simp
    rw [e1, Bool.and_assoc]
    rfl
mutual
theorem DAt.inj {H : Hp} : ∀ (d d' : D) {v : V}, DAt H d v → DAt H d' v → d = d'
  | .non, d', v, h, h' => by
    obtain rfl : v = .non := h
    cases d' with
    | non => rfl
    | bl b => cases (show V.non = V.bl b from h')
    | int b => cases (show V.non = V.int b from h')
    | str b => cases h'.1
    | tup ds => obtain ⟨a, vs, z, _⟩ := h'; cases z
    | lst ds => obtain ⟨a, vs, z, _⟩ := h'; cases z
  | .bl b, d', v, h, h' => by
    obtain rfl : v = .bl b := h
    cases d' with
    | non => cases (show V.bl b = V.non from h')
    | bl c => have z : V.bl b = V.bl c := h'; injection z with z; rw [z]
    | int c => cases (show V.bl b = V.int c from h')
    | str c => cases h'.1
    | tup ds => obtain ⟨a, vs, z, _⟩ := h'; cases z
    | lst ds => obtain ⟨a, vs, z, _⟩ := h'; cases z
  | .int b, d', v, h, h' => by
    obtain rfl : v = .int b := h
    cases d' with
    | non => cases (show V.int b = V.non from h')
    | int c => have z : V.int b = V.int c := h'; injection z with z; rw [z]
    | bl c => cases (show V.int b = V.bl c from h')
    | str c => cases h'.1
    | tup ds => obtain ⟨a, vs, z, _⟩ := h'; cases z
    | lst ds => obtain ⟨a, vs, z, _⟩ := h'; cases z
  | .str b, d', v, h, h' => by
    obtain ⟨rfl, _⟩ := h
    cases d' with
    | non => cases (show V.str b = V.non from h')
    | int c => cases (show V.str b = V.int c from h')
    | bl c => cases (show V.str b = V.bl c from h')
    | str c => have z := h'.1; injection z with z; rw [z]
    | tup ds => obtain ⟨a, vs, z, _⟩ := h'; cases z
    | lst ds => obtain ⟨a, vs, z, _⟩ := h'; cases z
  | .tup ds, d', v, h, h' => by
    obtain ⟨a, vs, rfl, ea, hs, _⟩ := h
    cases d' with
    | non => cases (show V.ref a = V.non from h')
    | int c => cases (show V.ref a = V.int c from h')
    | bl c => cases (show V.ref a = V.bl c from h')
    | str c => cases h'.1
    | tup es => obtain ⟨b, ws, z, eb, hs', _⟩ := h'; cases z; rw [ea] at eb; cases eb; rw [DsAt.inj ds es hs hs']
    | lst es => obtain ⟨b, ws, z, eb, hs', _⟩ := h'; cases z; rw [ea] at eb; cases eb
  | .lst ds, d', v, h, h' => by
    obtain ⟨a, vs, rfl, ea, hs, _⟩ := h
    cases d' with
    | non => cases (show V.ref a = V.non from h')
    | int c => cases (show V.ref a = V.int c from h')
    | bl c => cases (show V.ref a = V.bl c from h')
    | str c => cases h'.1
    | tup es => obtain ⟨b, ws, z, eb, hs', _⟩ := h'; cases z; rw [ea] at eb; cases eb
    | lst es => obtain ⟨b, ws, z, eb, hs', _⟩ := h'; cases z; rw [ea] at eb; cases eb; rw [DsAt.inj ds es hs hs']
theorem DsAt.inj {H : Hp} : ∀ (ds es : List D) {vs : List V}, DsAt H ds vs → DsAt H es vs → ds = es
  | [], es, vs, h, h' => by
    obtain rfl : vs = [] := h
    cases es with
    | nil => rfl
    | cons e es => obtain ⟨v, r, z, _⟩ := h'; cases z
  | d :: ds, es, vs, h, h' => by
    obtain ⟨v, r, rfl, q, q2⟩ := h
    cases es with
    | nil => cases (show v :: r = [] from h')
    | cons e es =>
      obtain ⟨v', r', z, q', q2'⟩ := h'
      cases z
      rw [DAt.inj d e q q', DsAt.inj ds es q2 q2']
end
section
variable {X : Cx} {pins : List (Addr × Obj)} {σ : St} {H : Hp} {s : Shared} {A : Around} {a1 a2 : Addr} {ds1 ds2 : List D} {vs1 vs2 : List V}
theorem rc_items {its1 its2 : List Value} (r1 : Vals vs1 its1) (r2 : Vals vs2 its2) (h1 : DsAt H ds1 vs1) (h2 : DsAt H ds2 vs2)
    (he : ∀ (e e2 : D) (w w2 : V) (x x2 : Value), e ∈ ds1 → DAt H e w → DAt H e2 w2 → RelV w x → RelV w2 x2 → EqAt A s x x2 (eqDD e e2)) :
    ∀ j (h1 : j < its1.toArray.size) (h2 : j < its2.toArray.size), EqAt A s its1.toArray[j] its2.toArray[j] (eqDD (ds1.getD j .non) (ds2.getD j .non)) := by
  intro j l1 l2
  rw [List.size_toArray] at l1 l2
  have e1 := r1.length
  have e2 := r2.length
  have g1 : vs1[j]? = some (vs1[j]'(by omega)) := List.getElem?_eq_getElem (by omega)
  have g2 : vs2[j]? = some (vs2[j]'(by omega)) := List.getElem?_eq_getElem (by omega)
  obtain ⟨u1, hu1, ru1⟩ := r1.get g1
  obtain ⟨u2, hu2, ru2⟩ := r2.get g2
  obtain ⟨d1, hd1, hv1⟩ := DsAt.get ds1 h1 g1
  obtain ⟨d2, hd2, hv2⟩ := DsAt.get ds2 h2 g2
  have i1 : its1.toArray[j]'(by rw [List.size_toArray]; exact l1) = u1 := by
    rw [List.getElem_toArray]
    rw [List.getElem?_eq_getElem l1] at hu1
    exact Option.some.inj hu1
  have i2 : its2.toArray[j]'(by rw [List.size_toArray]; exact l2) = u2 := by
    rw [List.getElem_toArray]
    rw [List.getElem?_eq_getElem l2] at hu2
    exact Option.some.inj hu2
  rw [i1, i2, List.getD_eq_getElem?_getD, List.getD_eq_getElem?_getD, hd1, hd2]
  exact he d1 d2 _ _ u1 u2 (List.mem_of_getElem? hd1) hv1 hv2 ru1 ru2
theorem rcT (I : Inv X pins σ H s) (hu : A.units < cLine) (e1 : H a1 = some (.tup vs1)) (e2 : H a2 = some (.tup vs2)) (h1 : DsAt H ds1 vs1) (h2 : DsAt H ds2 vs2)
    (he : ∀ (e e2 : D) (w w2 : V) (x x2 : Value), e ∈ ds1 → DAt H e w → DAt H e2 w2 → RelV w x → RelV w2 x2 → EqAt A.in1 s x x2 (eqDD e e2)) :
    RcAt A s (.ref a1) (.ref a2) (eqDs ds1 ds2) ∧ RcNeAt A s (.ref a1) (.ref a2) (!eqDs ds1 ds2) := by
  obtain ⟨its1, r1, p1, _⟩ := I.tuple (SqT.of e1)
  obtain ⟨its2, r2, p2, _⟩ := I.tuple (SqT.of e2)
  have l1 : its1.toArray.size = ds1.length := by rw [List.size_toArray, ← r1.length]; exact DsAt.len ds1 h1
  have l2 : its2.toArray.size = ds2.length := by rw [List.size_toArray, ← r2.length]; exact DsAt.len ds2 h2
  have E := rc_items r1 r2 h1 h2 he
  have A1 := RcAt.tuples (isTuple_of p1) (isTuple_of p2) hu E
  have A2 := RcNeAt.tuples (isTuple_of p1) (isTuple_of p2) hu E
  rw [l1, l2, ← eqDs_gen] at A1 A2
  exact ⟨A1, A2⟩
theorem rcL (I : Inv X pins σ H s) (hu : A.units < cLine) (e1 : H a1 = some (.lst vs1)) (e2 : H a2 = some (.lst vs2)) (h1 : DsAt H ds1 vs1) (h2 : DsAt H ds2 vs2)
    (he : ∀ (e e2 : D) (w w2 : V) (x x2 : Value), e ∈ ds1 → DAt H e w → DAt H e2 w2 → RelV w x → RelV w2 x2 → EqAt A.in1 s x x2 (eqDD e e2)) :
    RcAt A s (.ref a1) (.ref a2) (eqDs ds1 ds2) ∧ RcNeAt A s (.ref a1) (.ref a2) (!eqDs ds1 ds2) := by
  obtain ⟨its1, r1, p1, _⟩ := I.list (SqL.of e1)
  obtain ⟨its2, r2, p2, _⟩ := I.list (SqL.of e2)
  have l1 : its1.toArray.size = ds1.length := by rw [List.size_toArray, ← r1.length]; exact DsAt.len ds1 h1
  have l2 : its2.toArray.size = ds2.length := by rw [List.size_toArray, ← r2.length]; exact DsAt.len ds2 h2
  have E := rc_items r1 r2 h1 h2 he
  by_cases z : ds1.length = ds2.length
  · have A1 := RcAt.lists p1.isList p2.isList (by rw [l1, l2, z]) hu E
    have A2 := RcNeAt.lists p1.isList p2.isList (by rw [l1, l2, z]) hu E
    have G := eqDs_gen ds1 ds2
    rw [z, Nat.min_self, beq_self_eq_true, Bool.and_true] at G
    rw [l1, z, ← G] at A1 A2
    exact ⟨A1, A2⟩
  · have G := eqDs_gen ds1 ds2
    rw [beq_false_of_ne z, Bool.and_false] at G
    rw [G]
    have hne : (its1.toArray.size != its2.toArray.size) = true := by rw [l1, l2]; simpa using z
    exact ⟨RcAt.lists_lengths p1.isList p2.isList hne hu, RcNeAt.lists_lengths p1.isList p2.isList hne hu⟩
set_option maxHeartbeats 1000000 in
theorem eqD_all (I : Inv X pins σ H s) : ∀ (n : Nat) {d1 d2 : D} {v1 v2 : V} {u1 u2 : Value} {A : Around}, dht d1 ≤ n → DAt H d1 v1 → DAt H d2 v2 → RelV v1 u1 → RelV v2 u2 → A.units + n < cLine → EqAt A s u1 u2 (eqDD d1 d2) ∧ RcAt A s u1 u2 (eqDD d1 d2) ∧ RcNeAt A s u1 u2 (!eqDD d1 d2) := by
  intro n
  induction n with
  | zero =>
    intro d1 d2 v1 v2 u1 u2 A hn
    have := dht_pos d1
    omega
  | succ n ih =>
    intro d1 d2 v1 v2 u1 u2 A hn hd hd2 ru ru2 hu
    have h1 : A.units < cLine := by omega
    have h2 : A.in1.units + n < cLine := by show A.units + 1 + n < cLine; omega
    cases d1 with
    | non =>
      obtain rfl : v1 = .non := hd; obtain rfl : u1 = .none := ru
      rw [eqDD]
      cases d2 with
      | non =>
        obtain rfl : v2 = .non := hd2; obtain rfl : u2 = .none := ru2
        exact ⟨.same _, .none_none, .none_none⟩
      | bl b2 =>
        obtain rfl : v2 = .bl b2 := hd2; obtain rfl : u2 = .bool b2 := ru2
        exact ⟨.none_bool _, .none_bool _, .none_bool _⟩
      | int i2 =>
        obtain rfl : v2 = .int i2 := hd2; obtain ⟨t2, rfl⟩ : ∃ t, u2 = .int i2 t := ru2
        exact ⟨.none_int _ _, .none_int _ _, .none_int _ _⟩
      | str x2 =>
        obtain ⟨rfl, _⟩ : v2 = .str x2 ∧ _ := hd2; obtain ⟨t2, rfl⟩ : ∃ t, u2 = .str x2 t := ru2
        exact ⟨.none_str _ _, .none_str _ _, .none_str _ _⟩
      | tup ds2 =>
        obtain ⟨a2, vs2, rfl, ea2, hs2, _⟩ := hd2; obtain rfl : u2 = .ref a2 := ru2; obtain ⟨its2, q2, p2, _⟩ := I.tuple (SqT.of ea2)
        exact ⟨.none_tuple (isTuple_of p2) h1, .none_tuple (isTuple_of p2) h1, .none_tuple (isTuple_of p2) h1⟩
      | lst ds2 =>
        obtain ⟨a2, vs2, rfl, ea2, hs2, _⟩ := hd2; obtain rfl : u2 = .ref a2 := ru2; obtain ⟨its2, q2, p2, _⟩ := I.list (SqL.of ea2)
        exact ⟨.none_list p2.isList h1, .none_list p2.isList h1, .none_list p2.isList h1⟩
    | bl b1 =>
      obtain rfl : v1 = .bl b1 := hd; obtain rfl : u1 = .bool b1 := ru
      rw [eqDD]
      cases d2 with
      | non =>
        obtain rfl : v2 = .non := hd2; obtain rfl : u2 = .none := ru2
        exact ⟨.bool_none _, .bool_none _, .bool_none _⟩
      | bl b2 =>
        obtain rfl : v2 = .bl b2 := hd2; obtain rfl : u2 = .bool b2 := ru2
        exact ⟨.bool_bool _ _, .bool_bool _ _, .bool_bool _ _⟩
      | int i2 =>
        obtain rfl : v2 = .int i2 := hd2; obtain ⟨t2, rfl⟩ : ∃ t, u2 = .int i2 t := ru2
        exact ⟨.bool_int _ _ _, .bool_int _ _ _, .bool_int _ _ _⟩
      | str x2 =>
        obtain ⟨rfl, _⟩ : v2 = .str x2 ∧ _ := hd2; obtain ⟨t2, rfl⟩ : ∃ t, u2 = .str x2 t := ru2
        exact ⟨.bool_str _ _ _, .bool_str _ _ _, .bool_str _ _ _⟩
      | tup ds2 =>
        obtain ⟨a2, vs2, rfl, ea2, hs2, _⟩ := hd2; obtain rfl : u2 = .ref a2 := ru2; obtain ⟨its2, q2, p2, _⟩ := I.tuple (SqT.of ea2)
        exact ⟨.bool_tuple _ (isTuple_of p2) h1, .bool_tuple _ (isTuple_of p2) h1, .bool_tuple _ (isTuple_of p2) h1⟩
      | lst ds2 =>
        obtain ⟨a2, vs2, rfl, ea2, hs2, _⟩ := hd2; obtain rfl : u2 = .ref a2 := ru2; obtain ⟨its2, q2, p2, _⟩ := I.list (SqL.of ea2)
        exact ⟨.bool_list _ p2.isList h1, .bool_list _ p2.isList h1, .bool_list _ p2.isList h1⟩
    | int i1 =>
      obtain rfl : v1 = .int i1 := hd; obtain ⟨t1, rfl⟩ : ∃ t, u1 = .int i1 t := ru
      rw [eqDD]
      cases d2 with
      | non =>
        obtain rfl : v2 = .non := hd2; obtain rfl : u2 = .none := ru2
        exact ⟨.int_none _ _, .int_none _ _, .int_none _ _⟩
      | bl b2 =>
        obtain rfl : v2 = .bl b2 := hd2; obtain rfl : u2 = .bool b2 := ru2
        exact ⟨.int_bool _ _ _, .int_bool _ _ _, .int_bool _ _ _⟩
      | int i2 =>
        obtain rfl : v2 = .int i2 := hd2; obtain ⟨t2, rfl⟩ : ∃ t, u2 = .int i2 t := ru2
        exact ⟨.int_int _ _ _ _, .int_int _ _ _ _, .int_int _ _ _ _⟩
      | str x2 =>
        obtain ⟨rfl, _⟩ : v2 = .str x2 ∧ _ := hd2; obtain ⟨t2, rfl⟩ : ∃ t, u2 = .str x2 t := ru2
        exact ⟨.int_str _ _ _ _, .int_str _ _ _ _, .int_str _ _ _ _⟩
      | tup ds2 =>
        obtain ⟨a2, vs2, rfl, ea2, hs2, _⟩ := hd2; obtain rfl : u2 = .ref a2 := ru2; obtain ⟨its2, q2, p2, _⟩ := I.tuple (SqT.of ea2)
        exact ⟨.int_tuple _ _ (isTuple_of p2) h1, .int_tuple _ _ (isTuple_of p2) h1, .int_tuple _ _ (isTuple_of p2) h1⟩
      | lst ds2 =>
        obtain ⟨a2, vs2, rfl, ea2, hs2, _⟩ := hd2; obtain rfl : u2 = .ref a2 := ru2; obtain ⟨its2, q2, p2, _⟩ := I.list (SqL.of ea2)
        exact ⟨.int_list _ _ p2.isList h1, .int_list _ _ p2.isList h1, .int_list _ _ p2.isList h1⟩
    | str x1 =>
      obtain ⟨rfl, _⟩ : v1 = .str x1 ∧ _ := hd; obtain ⟨t1, rfl⟩ : ∃ t, u1 = .str x1 t := ru
      rw [eqDD]
      cases d2 with
      | non =>
        obtain rfl : v2 = .non := hd2; obtain rfl : u2 = .none := ru2
        exact ⟨.str_none _ _, .str_none _ _, .str_none _ _⟩
      | bl b2 =>
        obtain rfl : v2 = .bl b2 := hd2; obtain rfl : u2 = .bool b2 := ru2
        exact ⟨.str_bool _ _ _, .str_bool _ _ _, .str_bool _ _ _⟩
      | int i2 =>
        obtain rfl : v2 = .int i2 := hd2; obtain ⟨t2, rfl⟩ : ∃ t, u2 = .int i2 t := ru2
        exact ⟨.str_int _ _ _ _, .str_int _ _ _ _, .str_int _ _ _ _⟩
      | str x2 =>
        obtain ⟨rfl, _⟩ : v2 = .str x2 ∧ _ := hd2; obtain ⟨t2, rfl⟩ : ∃ t, u2 = .str x2 t := ru2
        exact ⟨.str_str _ _ _ _, .str_str _ _ _ _, .str_str _ _ _ _⟩
      | tup ds2 =>
        obtain ⟨a2, vs2, rfl, ea2, hs2, _⟩ := hd2; obtain rfl : u2 = .ref a2 := ru2; obtain ⟨its2, q2, p2, _⟩ := I.tuple (SqT.of ea2)
        exact ⟨.str_tuple _ _ (isTuple_of p2) h1, .str_tuple _ _ (isTuple_of p2) h1, .str_tuple _ _ (isTuple_of p2) h1⟩
      | lst ds2 =>
        obtain ⟨a2, vs2, rfl, ea2, hs2, _⟩ := hd2; obtain rfl : u2 = .ref a2 := ru2; obtain ⟨its2, q2, p2, _⟩ := I.list (SqL.of ea2)
        exact ⟨.str_list _ _ p2.isList h1, .str_list _ _ p2.isList h1, .str_list _ _ p2.isList h1⟩
    | tup ds1 =>
      obtain ⟨a1, vs1, rfl, ea1, hs1, _⟩ := hd; obtain rfl : u1 = .ref a1 := ru; obtain ⟨its1, q1, p1, _⟩ := I.tuple (SqT.of ea1)
      rw [eqDD]
      cases d2 with
      | non =>
        obtain rfl : v2 = .non := hd2; obtain rfl : u2 = .none := ru2
        exact ⟨.tuple_none (isTuple_of p1) h1, .tuple_none (isTuple_of p1) h1, .tuple_none (isTuple_of p1) h1⟩
      | bl b2 =>
        obtain rfl : v2 = .bl b2 := hd2; obtain rfl : u2 = .bool b2 := ru2
        exact ⟨.tuple_bool _ (isTuple_of p1) h1, .tuple_bool _ (isTuple_of p1) h1, .tuple_bool _ (isTuple_of p1) h1⟩
      | int i2 =>
        obtain rfl : v2 = .int i2 := hd2; obtain ⟨t2, rfl⟩ : ∃ t, u2 = .int i2 t := ru2
        exact ⟨.tuple_int _ _ (isTuple_of p1) h1, .tuple_int _ _ (isTuple_of p1) h1, .tuple_int _ _ (isTuple_of p1) h1⟩
      | str x2 =>
        obtain ⟨rfl, _⟩ : v2 = .str x2 ∧ _ := hd2; obtain ⟨t2, rfl⟩ : ∃ t, u2 = .str x2 t := ru2
        exact ⟨.tuple_str _ _ (isTuple_of p1) h1, .tuple_str _ _ (isTuple_of p1) h1, .tuple_str _ _ (isTuple_of p1) h1⟩
      | tup ds2 =>
        obtain ⟨a2, vs2, rfl, ea2, hs2, _⟩ := hd2; obtain rfl : u2 = .ref a2 := ru2; obtain ⟨its2, q2, p2, _⟩ := I.tuple (SqT.of ea2)
        have R := rcT I h1 ea1 ea2 hs1 hs2 fun e e2 w w2 x x2 hm g g2 r r2 => (ih (dhts_mem hm (by rw [dht] at hn; omega)) g g2 r r2 h2).1
        refine ⟨?_, R⟩
        by_cases z : a1 = a2
        · subst z
          obtain rfl : ds1 = ds2 := by have hh := DAt.inj (.tup ds1) (.tup ds2) (v := .ref a1) ⟨a1, vs1, rfl, ea1, hs1, ‹_›⟩ ⟨a1, vs2, rfl, ea2, hs2, ‹_›⟩; injection hh
          show EqAt A s _ _ (eqDs ds1 ds1)
          rw [eqDs_refl]; exact .same _
        · exact .of_refs z R.1
      | lst ds2 =>
        obtain ⟨a2, vs2, rfl, ea2, hs2, _⟩ := hd2; obtain rfl : u2 = .ref a2 := ru2; obtain ⟨its2, q2, p2, _⟩ := I.list (SqL.of ea2)
        exact ⟨.tuple_list (isTuple_of p1) p2.isList h1, .tuple_list (isTuple_of p1) p2.isList h1, .tuple_list (isTuple_of p1) p2.isList h1⟩
    | lst ds1 =>
      obtain ⟨a1, vs1, rfl, ea1, hs1, _⟩ := hd; obtain rfl : u1 = .ref a1 := ru; obtain ⟨its1, q1, p1, _⟩ := I.list (SqL.of ea1)
      rw [eqDD]
      cases d2 with
      | non =>
        obtain rfl : v2 = .non := hd2; obtain rfl : u2 = .none := ru2
        exact ⟨.list_none p1.isList h1, .list_none p1.isList h1, .list_none p1.isList h1⟩
      | bl b2 =>
        obtain rfl : v2 = .bl b2 := hd2; obtain rfl : u2 = .bool b2 := ru2
        exact ⟨.list_bool _ p1.isList h1, .list_bool _ p1.isList h1, .list_bool _ p1.isList h1⟩
      | int i2 =>
        obtain rfl : v2 = .int i2 := hd2; obtain ⟨t2, rfl⟩ : ∃ t, u2 = .int i2 t := ru2
        exact ⟨.list_int _ _ p1.isList h1, .list_int _ _ p1.isList h1, .list_int _ _ p1.isList h1⟩
      | str x2 =>
        obtain ⟨rfl, _⟩ : v2 = .str x2 ∧ _ := hd2; obtain ⟨t2, rfl⟩ : ∃ t, u2 = .str x2 t := ru2
        exact ⟨.list_str _ _ p1.isList h1, .list_str _ _ p1.isList h1, .list_str _ _ p1.isList h1⟩
      | tup ds2 =>
        obtain ⟨a2, vs2, rfl, ea2, hs2, _⟩ := hd2; obtain rfl : u2 = .ref a2 := ru2; obtain ⟨its2, q2, p2, _⟩ := I.tuple (SqT.of ea2)
        exact ⟨.list_tuple p1.isList (isTuple_of p2) h1, .list_tuple p1.isList (isTuple_of p2) h1, .list_tuple p1.isList (isTuple_of p2) h1⟩
      | lst ds2 =>
        obtain ⟨a2, vs2, rfl, ea2, hs2, _⟩ := hd2; obtain rfl : u2 = .ref a2 := ru2; obtain ⟨its2, q2, p2, _⟩ := I.list (SqL.of ea2)
        have R := rcL I h1 ea1 ea2 hs1 hs2 fun e e2 w w2 x x2 hm g g2 r r2 => (ih (dhts_mem hm (by rw [dht] at hn; omega)) g g2 r r2 h2).1
        refine ⟨?_, R⟩
        by_cases z : a1 = a2
        · subst z
          obtain rfl : ds1 = ds2 := by have hh := DAt.inj (.lst ds1) (.lst ds2) (v := .ref a1) ⟨a1, vs1, rfl, ea1, hs1, ‹_›⟩ ⟨a1, vs2, rfl, ea2, hs2, ‹_›⟩; injection hh
          show EqAt A s _ _ (eqDs ds1 ds1)
          rw [eqDs_refl]; exact .same _
        · exact .of_refs z R.1
theorem op_eqD (hu : X.A.units + 64 < cLine) : OpR X (compareOp .Eq) (fun x y H Q => ∃ d d', DAt H d x ∧ DAt H d' y ∧ dht d ≤ 60 ∧ Q (.bl (eqDD d d')) H) := by
  intro pins s σ H x y v u Q I rx ry h
  obtain ⟨d, d', hd, hd', hn, q⟩ := h
  exact (eqD_all I 60 hn hd hd' rx ry (by omega)).2.1 _ _ _ _ ⟨.bl _, H, I, rfl, q⟩
theorem op_neD (hu : X.A.units + 64 < cLine) : OpR X (compareOp .NotEq) (fun x y H Q => ∃ d d', DAt H d x ∧ DAt H d' y ∧ dht d ≤ 60 ∧ Q (.bl (!eqDD d d')) H) := by
  intro pins s σ H x y v u Q I rx ry h
  obtain ⟨d, d', hd, hd', hn, q⟩ := h
  exact (eqD_all I 60 hn hd hd' rx ry (by omega)).2.2 _ _ _ _ ⟨.bl _, H, I, rfl, q⟩
/-! ### tuples, further -/
end
section
open HT
variable {prog : Program} {w : World} {A : Around} {E : Value → Shared → Prop} {s : Shared}
end
section
variable {X : Cx}
def oEqD (hu : X.A.units + 64 < cLine) := OpR.or (oEq (X := X)) (op_eqD hu)
def oNeD (hu : X.A.units + 64 < cLine) := OpR.or (oNe (X := X)) (op_neD hu)
end
end L2

end

section
namespace L2
open PySem PySem.W PySem.Spec PyProof.Rows
/-! ### a place where ways meet -/
def tCut (t u : TS) : TS := fun D σ H => ∃ J : St → Hp → Prop, t { D with nx := J } σ H ∧ ∀ σ' H', J σ' H' → u D σ' H'
theorem pss_cut {X : Cx} {st : Stmt} {rest : List Stmt} {t u : TS} (h1 : PS X st t) (h2 : PSs X rest u) : PSs X (st :: rest) (tCut t u) := by
  intro pins s σ H D I h
  obtain ⟨J, h, hJ⟩ := h
  refine wpAny_execs_cons (thn (h1 pins s σ H { D with nx := J } I h) fun f s1 q => ?_)
  cases f with
  | next =>
    obtain ⟨σ', H', I', q⟩ := q
    exact h2 pins s1 σ' H' D I' (hJ _ _ q)
  | ret v => exact q
  | brk => exact q
  | cont => exact q
/-! ### values whose objects are none of X -/
mutual
def DX (X : List Addr) (H : Hp) : D → V → Prop
  | .non, v => v = .non
  | .bl b, v => v = .bl b
  | .int i, v => v = .int i
  | .str s, v => v = .str s ∧ s.length ≤ 100000
  | .tup ds, v => ∃ a vs, v = .ref a ∧ a ∉ X ∧ H a = some (.tup vs) ∧ DsX X H ds vs ∧ vs.length ≤ 1000
  | .lst ds, v => ∃ a vs, v = .ref a ∧ a ∉ X ∧ H a = some (.lst vs) ∧ DsX X H ds vs ∧ vs.length ≤ 1000
def DsX (X : List Addr) (H : Hp) : List D → List V → Prop
  | [], vs => vs = []
  | d :: ds, vs => ∃ v r, vs = v :: r ∧ DX X H d v ∧ DsX X H ds r
end
mutual
theorem DX.at {X : List Addr} {H : Hp} : ∀ (d : D) {v : V}, DX X H d v → DAt H d v
  | .non, v, h => h
  | .bl b, v, h => h
  | .int i, v, h => h
  | .str t, v, h => h
  | .tup ds, v, h => by
    obtain ⟨a, vs, e, n, eT, q, z⟩ := h
    exact ⟨a, vs, e, eT, DsX.at ds q, z⟩
  | .lst ds, v, h => by
    obtain ⟨a, vs, e, n, eT, q, z⟩ := h
    exact ⟨a, vs, e, eT, DsX.at ds q, z⟩
theorem DsX.at {X : List Addr} {H : Hp} : ∀ (ds : List D) {vs : List V}, DsX X H ds vs → DsAt H ds vs
  | [], vs, h => h
  | d :: ds, vs, h => by
    obtain ⟨v, r, e, q, q2⟩ := h
    exact ⟨v, r, e, DX.at d q, DsX.at ds q2⟩
end
mutual
theorem DX.keep {X : List Addr} {H H' : Hp} (s : ∀ b u, b ∉ X → H b = some u → H' b = some u) : ∀ (d : D) {v : V}, DX X H d v → DX X H' d v
  | .non, v, h => h
  | .bl b, v, h => h
  | .int i, v, h => h
  | .str t, v, h => h
  | .tup ds, v, h => by
    obtain ⟨a, vs, e, n, eT, q, z⟩ := h
    exact ⟨a, vs, e, n, s _ _ n eT, DsX.keep s ds q, z⟩
  | .lst ds, v, h => by
    obtain ⟨a, vs, e, n, eT, q, z⟩ := h
    exact ⟨a, vs, e, n, s _ _ n eT, DsX.keep s ds q, z⟩
theorem DsX.keep {X : List Addr} {H H' : Hp} (s : ∀ b u, b ∉ X → H b = some u → H' b = some u) : ∀ (ds : List D) {vs : List V}, DsX X H ds vs → DsX X H' ds vs
  | [], vs, h => h
  | d :: ds, vs, h => by
    obtain ⟨v, r, e, q, q2⟩ := h
    exact ⟨v, r, e, DX.keep s d q, DsX.keep s ds q2⟩
end
mutual
theorem DAt.dx {H : Hp} : ∀ (d : D) {v : V}, DAt H d v → DX [] H d v
  | .non, v, h => h
  | .bl b, v, h => h
  | .int i, v, h => h
  | .str t, v, h => h
  | .tup ds, v, h => by
    obtain ⟨a, vs, e, eT, q, z⟩ := h
    exact ⟨a, vs, e, (fun z => nomatch z), eT, DsAt.dx ds q, z⟩
  | .lst ds, v, h => by
    obtain ⟨a, vs, e, eT, q, z⟩ := h
    exact ⟨a, vs, e, (fun z => nomatch z), eT, DsAt.dx ds q, z⟩
theorem DsAt.dx {H : Hp} : ∀ (ds : List D) {vs : List V}, DsAt H ds vs → DsX [] H ds vs
  | [], vs, h => h
  | d :: ds, vs, h => by
    obtain ⟨v, r, e, q, q2⟩ := h
    exact ⟨v, r, e, DAt.dx d q, DsAt.dx ds q2⟩
end
mutual
theorem DX.add {X : List Addr} {H : Hp} {l : Addr} (hl : H l = none) : ∀ (d : D) {v : V}, DX X H d v → DX (l :: X) H d v
  | .non, v, h => h
  | .bl b, v, h => h
  | .int i, v, h => h
  | .str t, v, h => h
  | .tup ds, v, h => by
    obtain ⟨a, vs, e, n, eT, q, z⟩ := h
    exact ⟨a, vs, e, fun y => (List.mem_cons.mp y).elim (fun y => by rw [y, hl] at eT; cases eT) n, eT, DsX.add hl ds q, z⟩
  | .lst ds, v, h => by
    obtain ⟨a, vs, e, n, eT, q, z⟩ := h
    exact ⟨a, vs, e, fun y => (List.mem_cons.mp y).elim (fun y => by rw [y, hl] at eT; cases eT) n, eT, DsX.add hl ds q, z⟩
theorem DsX.add {X : List Addr} {H : Hp} {l : Addr} (hl : H l = none) : ∀ (ds : List D) {vs : List V}, DsX X H ds vs → DsX (l :: X) H ds vs
  | [], vs, h => h
  | d :: ds, vs, h => by
    obtain ⟨v, r, e, q, q2⟩ := h
    exact ⟨v, r, e, DX.add hl d q, DsX.add hl ds q2⟩
end
mutual
theorem DX.weak {X Y : List Addr} {H : Hp} (hs : ∀ x, x ∈ X → x ∈ Y) : ∀ (d : D) {v : V}, DX Y H d v → DX X H d v
  | .non, v, h => h
  | .bl b, v, h => h
  | .int i, v, h => h
  | .str t, v, h => h
  | .tup ds, v, h => by
    obtain ⟨a, vs, e, n, eT, q, z⟩ := h
    exact ⟨a, vs, e, fun y => n (hs _ y), eT, DsX.weak hs ds q, z⟩
  | .lst ds, v, h => by
    obtain ⟨a, vs, e, n, eT, q, z⟩ := h
    exact ⟨a, vs, e, fun y => n (hs _ y), eT, DsX.weak hs ds q, z⟩
theorem DsX.weak {X Y : List Addr} {H : Hp} (hs : ∀ x, x ∈ X → x ∈ Y) : ∀ (ds : List D) {vs : List V}, DsX Y H ds vs → DsX X H ds vs
  | [], vs, h => h
  | d :: ds, vs, h => by
    obtain ⟨v, r, e, q, q2⟩ := h
    exact ⟨v, r, e, DX.weak hs d q, DsX.weak hs ds q2⟩
end
theorem DX.same {X : List Addr} {H H' : Hp} (s : Same H H') {d : D} {v : V} (h : DX X H d v) : DX X H' d v := DX.keep (fun b u _ e => s b u e) d h
theorem DsX.same {X : List Addr} {H H' : Hp} (s : Same H H') {ds : List D} {vs : List V} (h : DsX X H ds vs) : DsX X H' ds vs := DsX.keep (fun b u _ e => s b u e) ds h
theorem DsX.snoc {X : List Addr} {H : Hp} {d : D} {v : V} (hd : DX X H d v) : ∀ (ds : List D) {vs : List V}, DsX X H ds vs → DsX X H (ds ++ [d]) (vs ++ [v])
  | [], vs, h => by
    obtain rfl : vs = [] := h
    exact ⟨v, [], rfl, hd, rfl⟩
  | e :: ds, vs, h => by
    obtain ⟨w, r, rfl, q, q2⟩ := h
    exact ⟨w, r ++ [v], rfl, q, DsX.snoc hd ds q2⟩
end L2

end

section
namespace HT
open PySem PyProof.Rows
/-! ### < of lists of ints -/
section
open PySem.SeqAt
open PySem.AutoSeq1 (wpAny_loadPart')
open PySem.MeetsSeq PySem.MeetsSeq2 PySem.MeetsSeq3 PySem.SeqRoads2
theorem ints_at : ∀ {vs : List Value} {ns : List Int}, IntsAre vs ns → ∀ i (h : i < vs.length), ∃ x t, vs[i]? = some (.int x t) ∧ ns.drop i = x :: ns.drop (i + 1)
  | _, _, .nil, i, h => absurd h (Nat.not_lt_zero _)
  | _, _, .cons x t r, 0, h => ⟨x, t, rfl, rfl⟩
  | _, _, .cons x t r, i + 1, h => ints_at r i (Nat.lt_of_succ_lt_succ h)
theorem lt_loop (l b : Addr) (items items2 : Array Value) (n n2 : Nat) (dd dd2 : Option Addr) (sl sl2 : Array (Option Value)) (ns ms : List Int) (hi : IntsAre items.toList ns) (hj : IntsAre items2.toList ms) (k : Nat) :
    ∀ i : Nat, items.size - i = k → i ≤ items.size → i ≤ items2.size → Meets (Builtin.«list.__eq__.loop» ⟨[.ref l, .ref b, rawInt i, rawInt 0], []⟩)
      (fun A R s => s.heap.get? l = some { cls := .type "list", dict := dd, data := .seq items n, slots := sl } ∧ s.heap.get? b = some { cls := .type "list", dict := dd2, data := .seq items2 n2, slots := sl2 } ∧ R (.ok (.ret (.bool (lexLt (ns.drop i) (ms.drop i))))) s) := by
  have z1 : items.size = ns.length := by rw [← hi.length]; simp
  have z2 : items2.size = ms.length := by rw [← hj.length]; simp
  induction k with
  | zero =>
    intro i hk h1 h2 prog w A R s h
    obtain ⟨hp, g, d, tk, os⟩ := s; obtain ⟨hl, hb, h⟩ := h
    wp_walk using wpAny_loadPart' hl, wpAny_loadPart' hb
    have hi1 : items[((i : Nat) : Int).toNat]? = none := by simp; omega
    rw [hi1]
    wp_walk using wpAny_loadPart' hl, wpAny_loadPart' hb
    have e1 : ns.drop i = [] := List.drop_eq_nil_of_le (by omega)
    have e : lexLt (ns.drop i) (ms.drop i) = decide (items.size < items2.size) := by
      rw [e1]
      cases hd : ms.drop i with
      | nil =>
        have := congrArg List.length hd
        rw [List.length_drop, List.length_nil] at this
        exact (decide_eq_false (by omega)).symm
      | cons y r =>
        have := congrArg List.length hd
        rw [List.length_drop, List.length_cons] at this
        exact (decide_eq_true (by omega)).symm
    rw [e] at h
    exact h
  | succ k ih =>
    intro i hk h1 h2 prog w A R s h
    obtain ⟨hp, g, d, tk, os⟩ := s; obtain ⟨hl, hb, h⟩ := h
    have hlt : i < items.size := by omega
    obtain ⟨x, t, hx, ex⟩ := ints_at hi i (by simpa using hlt)
    have hx : items[i]? = some (.int x t) := by simpa using hx
    wp_walk using wpAny_loadPart' hl, wpAny_loadPart' hb
    have hi1 : items[((i : Nat) : Int).toNat]? = some (.int x t) := by simpa using hx
    rw [hi1]
    by_cases h3 : i < items2.size
    · obtain ⟨y, u, hy, ey⟩ := ints_at hj i (by simpa using h3)
      have hy : items2[i]? = some (.int y u) := by simpa using hy
      have hi2 : items2[((i : Nat) : Int).toNat]? = some (.int y u) := by simpa using hy
      have hc : ((i : Int) + 1) = ((i + 1 : Nat) : Int) := by omega
      rw [hi2]
      rw [ex, ey, lexLt_cons] at h
      refine wpAny_bind (EqAt.int_int x t y u prog w _ _ ?_)
      cases hb' : (x == y) with
      | true =>
        have hxy : x = y := by simpa using hb'
        rw [if_pos hxy] at h
        wp_walk
        rw [hc]
        exact ⟨plainId_quiet plain_eq_loop _, codeAny_builtin entry_eq_loop (by
          rw [Around.under_plainId plain_eq_loop _]
          exact ih (i + 1) (by omega) (by omega) (by omega) prog w A R _ ⟨hl, hb, h⟩)⟩
      | false =>
        have hxy : ¬ x = y := by simpa using hb'
        rw [if_neg hxy] at h
        wp_walk using wpAny_loadPart' hl, wpAny_loadPart' hb
        rw [hi1, hi2]
        refine wpAny_bind (rcLt_int _ _ x t y u prog w _ _ ?_)
        wp_walk
        exact h
    · have hi2 : items2[((i : Nat) : Int).toNat]? = none := by simp; omega
      rw [hi2]
      wp_walk using wpAny_loadPart' hl, wpAny_loadPart' hb
      have e2 : ms.drop i = [] := List.drop_eq_nil_of_le (by omega)
      have e : lexLt (ns.drop i) (ms.drop i) = decide (items.size < items2.size) := by
        rw [e2, ex, lexLt_cons_nil]
        exact (decide_eq_false (by omega)).symm
      rw [e] at h
      exact h
theorem list_lt_ints (l b : Addr) (items items2 : Array Value) (n n2 : Nat) (dd dd2 : Option Addr) (sl sl2 : Array (Option Value)) (ns ms : List Int) (hi : IntsAre items.toList ns) (hj : IntsAre items2.toList ms) :
    Meets (Builtin.«list.__lt__» ⟨[.ref l, .ref b], []⟩)
      (fun A R s => s.heap.get? l = some { cls := .type "list", dict := dd, data := .seq items n, slots := sl } ∧ s.heap.get? b = some { cls := .type "list", dict := dd2, data := .seq items2 n2, slots := sl2 } ∧ R (.ok (.ret (.bool (lexLt ns ms)))) s) := by
  intro prog w A R s h
  obtain ⟨hp, g, d, tk, os⟩ := s; obtain ⟨hl, hb, h⟩ := h
  have f3 := AutoSeq1.sub_list_list
  wp_walk using wpAny_loadPart' hl, wpAny_loadPart' hb
  exact ⟨plainId_quiet plain_eq_loop _, codeAny_builtin entry_eq_loop (by
    rw [Around.under_plainId plain_eq_loop _]
    exact lt_loop l b items items2 n n2 dd dd2 sl sl2 ns ms hi hj _ 0 rfl (Nat.zero_le _) (Nat.zero_le _) prog w A R _ ⟨hl, hb, h⟩)⟩
end
end HT
namespace L2
open PySem PySem.W PySem.Spec PyProof.Rows
section
variable {X : Cx}
def rLtLI (K : PySem.W.Frag) : R2 := fun x y H Q => ∃ a b ns ms, x = .ref a ∧ y = .ref b ∧ SqL K H a (ns.map V.int) ∧ SqL K H b (ms.map V.int) ∧ Q (.bl (HT.lexLt ns ms)) H
theorem op_ltLI (hu : X.A.units + 64 < cLine) : OpR X (compareOp .Lt) (rLtLI X.K) := by
  intro pins s σ H x y v u Q I rx ry h
  obtain ⟨a, b, ns, ms, rfl, rfl, ha, hb, q⟩ := h
  cases rx
  cases ry
  obtain ⟨its, r1, p1, _⟩ := I.list ha
  obtain ⟨its2, r2, p2, _⟩ := I.list hb
  have i1 : IntsAre its.toArray.toList ns := intsAre_of r1
  have i2 : IntsAre its2.toArray.toList ms := intsAre_of r2
  obtain ⟨⟨cls, dd, data, sl⟩, ho, hc, n, hd⟩ := id p1.isList
  obtain ⟨⟨cls2, dd2, data2, sl2⟩, ho2, hc2, n2, hd2⟩ := id p2.isList
  simp only at hc hd hc2 hd2
  subst hc hd hc2 hd2
  exact richCompare_meets_room (op := .Lt) ⟨_, ho, rfl⟩ ⟨_, ho2, rfl⟩ PySem.F.slot_list_lt PySem.F.entry_list_lt (PySem.F.args_list_lt_2 _ _) (HT.list_lt_ints a b its.toArray its2.toArray n n2 dd dd2 sl sl2 ns ms i1 i2)
    ⟨ho, ho2, show Value.bool (HT.lexLt ns ms) ≠ Value.notImplemented ∧ _ from ⟨(fun x => nomatch x), ⟨.bl (HT.lexLt ns ms), H, I, rfl, q⟩⟩⟩ (by omega)
def oLtLI (hu : X.A.units + 64 < cLine) := OpR.or (oLt (X := X)) (op_ltLI hu)
end
end L2

end

section
namespace KM
open PySem L2
/-! ### spans of rows -/
/-! ### keys -/
end KM

end

section
namespace HT
open PySem PyProof.Rows
/-! ### > of lists of ints, < and > of truths -/
section
open PySem.SeqAt
open PySem.AutoSeq1 (wpAny_loadPart')
open PySem.MeetsSeq PySem.MeetsSeq2 PySem.MeetsSeq3 PySem.SeqRoads2
theorem ite_eq_sym {α : Type} [DecidableEq α] {β : Type} (x y : α) {a b : β} : (if y = x then a else b) = if x = y then a else b := by
  by_cases h : x = y
  · rw [if_pos h, if_pos h.symm]
  · rw [if_neg h, if_neg (Ne.symm h)]
theorem rcGt_int (A : Around) (s : Shared) (a : Int) (t : Tok) (c : Int) (u : Tok) (prog : Program) (w : World) (E : Value → Shared → Prop) (Q : Value → Shared → Prop) (h : Q (.bool (decide (c < a))) s) :
    wpAny (model prog w) A (richCompare .Gt (.int a t) (.int c u)) Q E s :=
  (PyProof.Rows.gt_int h : wpAny (model prog w) A (compareOp .Gt (.int a t) (.int c u)) Q E s)
theorem gt_loop (l b : Addr) (items items2 : Array Value) (n n2 : Nat) (dd dd2 : Option Addr) (sl sl2 : Array (Option Value)) (ns ms : List Int) (hi : IntsAre items.toList ns) (hj : IntsAre items2.toList ms) (k : Nat) :
    ∀ i : Nat, items.size - i = k → i ≤ items.size → i ≤ items2.size → Meets (Builtin.«list.__eq__.loop» ⟨[.ref l, .ref b, rawInt i, rawInt 4], []⟩)
      (fun A R s => s.heap.get? l = some { cls := .type "list", dict := dd, data := .seq items n, slots := sl } ∧ s.heap.get? b = some { cls := .type "list", dict := dd2, data := .seq items2 n2, slots := sl2 } ∧ R (.ok (.ret (.bool (lexLt (ms.drop i) (ns.drop i))))) s) := by
  have z1 : items.size = ns.length := by rw [← hi.length]; simp
  have z2 : items2.size = ms.length := by rw [← hj.length]; simp
  induction k with
  | zero =>
    intro i hk h1 h2 prog w A R s h
    obtain ⟨hp, g, d, tk, os⟩ := s; obtain ⟨hl, hb, h⟩ := h
    wp_walk using wpAny_loadPart' hl, wpAny_loadPart' hb
    have hi1 : items[((i : Nat) : Int).toNat]? = none := by simp; omega
    rw [hi1]
    wp_walk using wpAny_loadPart' hl, wpAny_loadPart' hb
    have e1 : ns.drop i = [] := List.drop_eq_nil_of_le (by omega)
    have e : lexLt (ms.drop i) (ns.drop i) = decide (items2.size < items.size) := by
      rw [e1]
      cases hd : ms.drop i with
      | nil => exact (decide_eq_false (by omega)).symm
      | cons y r => exact (decide_eq_false (by omega)).symm
    rw [e] at h
    exact h
  | succ k ih =>
    intro i hk h1 h2 prog w A R s h
    obtain ⟨hp, g, d, tk, os⟩ := s; obtain ⟨hl, hb, h⟩ := h
    have hlt : i < items.size := by omega
    obtain ⟨x, t, hx, ex⟩ := ints_at hi i (by simpa using hlt)
    have hx : items[i]? = some (.int x t) := by simpa using hx
    wp_walk using wpAny_loadPart' hl, wpAny_loadPart' hb
    have hi1 : items[((i : Nat) : Int).toNat]? = some (.int x t) := by simpa using hx
    rw [hi1]
    by_cases h3 : i < items2.size
    · obtain ⟨y, u, hy, ey⟩ := ints_at hj i (by simpa using h3)
      have hy : items2[i]? = some (.int y u) := by simpa using hy
      have hi2 : items2[((i : Nat) : Int).toNat]? = some (.int y u) := by simpa using hy
      have hc : ((i : Int) + 1) = ((i + 1 : Nat) : Int) := by omega
      rw [hi2]
      rw [ex, ey, lexLt_cons, ite_eq_sym x y] at h
      refine wpAny_bind (EqAt.int_int x t y u prog w _ _ ?_)
      cases hb' : (x == y) with
      | true =>
        have hxy : x = y := by simpa using hb'
        rw [if_pos hxy] at h
        wp_walk
        rw [hc]
        exact ⟨plainId_quiet plain_eq_loop _, codeAny_builtin entry_eq_loop (by
          rw [Around.under_plainId plain_eq_loop _]
          exact ih (i + 1) (by omega) (by omega) (by omega) prog w A R _ ⟨hl, hb, h⟩)⟩
      | false =>
        have hxy : ¬ x = y := by simpa using hb'
        rw [if_neg hxy] at h
        wp_walk using wpAny_loadPart' hl, wpAny_loadPart' hb
        rw [hi1, hi2]
        refine wpAny_bind (rcGt_int _ _ x t y u prog w _ _ ?_)
        wp_walk
        exact h
    · have hi2 : items2[((i : Nat) : Int).toNat]? = none := by simp; omega
      rw [hi2]
      wp_walk using wpAny_loadPart' hl, wpAny_loadPart' hb
      have e2 : ms.drop i = [] := List.drop_eq_nil_of_le (by omega)
      have e : lexLt (ms.drop i) (ns.drop i) = decide (items2.size < items.size) := by
        rw [e2, ex, lexLt_nil_cons]
        exact (decide_eq_true (by omega)).symm
      rw [e] at h
      exact h
theorem list_gt_ints (l b : Addr) (items items2 : Array Value) (n n2 : Nat) (dd dd2 : Option Addr) (sl sl2 : Array (Option Value)) (ns ms : List Int) (hi : IntsAre items.toList ns) (hj : IntsAre items2.toList ms) :
    Meets (Builtin.«list.__gt__» ⟨[.ref l, .ref b], []⟩)
      (fun A R s => s.heap.get? l = some { cls := .type "list", dict := dd, data := .seq items n, slots := sl } ∧ s.heap.get? b = some { cls := .type "list", dict := dd2, data := .seq items2 n2, slots := sl2 } ∧ R (.ok (.ret (.bool (lexLt ms ns)))) s) := by
  intro prog w A R s h
  obtain ⟨hp, g, d, tk, os⟩ := s; obtain ⟨hl, hb, h⟩ := h
  have f3 := AutoSeq1.sub_list_list
  wp_walk using wpAny_loadPart' hl, wpAny_loadPart' hb
  exact ⟨plainId_quiet plain_eq_loop _, codeAny_builtin entry_eq_loop (by
    rw [Around.under_plainId plain_eq_loop _]
    exact gt_loop l b items items2 n n2 dd dd2 sl sl2 ns ms hi hj _ 0 rfl (Nat.zero_le _) (Nat.zero_le _) prog w A R _ ⟨hl, hb, h⟩)⟩
end
end HT
namespace L2
open PySem PySem.W PySem.Spec PyProof.Rows
section
variable {X : Cx}
def rGtLI (K : PySem.W.Frag) : R2 := fun x y H Q => ∃ a b ns ms, x = .ref a ∧ y = .ref b ∧ SqL K H a (ns.map V.int) ∧ SqL K H b (ms.map V.int) ∧ Q (.bl (HT.lexLt ms ns)) H
theorem op_gtLI (hu : X.A.units + 64 < cLine) : OpR X (compareOp .Gt) (rGtLI X.K) := by
  intro pins s σ H x y v u Q I rx ry h
  obtain ⟨a, b, ns, ms, rfl, rfl, ha, hb, q⟩ := h
  cases rx
  cases ry
  obtain ⟨its, r1, p1, _⟩ := I.list ha
  obtain ⟨its2, r2, p2, _⟩ := I.list hb
  have i1 : IntsAre its.toArray.toList ns := intsAre_of r1
  have i2 : IntsAre its2.toArray.toList ms := intsAre_of r2
  obtain ⟨⟨cls, dd, data, sl⟩, ho, hc, n, hd⟩ := id p1.isList
  obtain ⟨⟨cls2, dd2, data2, sl2⟩, ho2, hc2, n2, hd2⟩ := id p2.isList
  simp only at hc hd hc2 hd2
  subst hc hd hc2 hd2
  exact richCompare_meets_room (op := .Gt) ⟨_, ho, rfl⟩ ⟨_, ho2, rfl⟩ PySem.F.slot_list_gt PySem.F.entry_list_gt (PySem.F.args_list_gt_2 _ _) (HT.list_gt_ints a b its.toArray its2.toArray n n2 dd dd2 sl sl2 ns ms i1 i2)
    ⟨ho, ho2, show Value.bool (HT.lexLt ms ns) ≠ Value.notImplemented ∧ _ from ⟨(fun x => nomatch x), ⟨.bl (HT.lexLt ms ns), H, I, rfl, q⟩⟩⟩ (by omega)
def oGtLI (hu : X.A.units + 64 < cLine) := OpR.or (oGt (X := X)) (op_gtLI hu)
def rBl (f : Int → Int → Bool) : R2 := fun x y H Q => ∃ a b, x = .bl a ∧ y = .bl b ∧ Q (.bl (f (b2i a) (b2i b))) H
theorem op_ltBl : OpR X (compareOp .Lt) (rBl fun i j => decide (i < j)) := by
  intro pins s σ H x y v u Q I rx ry h
  obtain ⟨a, b, rfl, rfl, q⟩ := h
  cases rx
  cases ry
  exact lt_bool (fin_bl I q rfl)
theorem op_gtBl : OpR X (compareOp .Gt) (rBl fun i j => decide (j < i)) := by
  intro pins s σ H x y v u Q I rx ry h
  obtain ⟨a, b, rfl, rfl, q⟩ := h
  cases rx
  cases ry
  exact gt_bool (fin_bl I q rfl)
def oLtA (hu : X.A.units + 64 < cLine) := OpR.or (oLtLI (X := X) hu) op_ltBl
def oGtA (hu : X.A.units + 64 < cLine) := OpR.or (oGtLI (X := X) hu) op_gtBl
end
end L2

end
namespace KR
open PySem L2 KM
def top (i : Nat) : Stmt := PySem.Challenge.pw_keyrise_k23_ahead.main.body.getD i (.Pass ⟨0, 0, 0, 0⟩)
abbrev s_made_of : Stmt := top 38
abbrev s_is_name : Stmt := top 51
abbrev s_names_of : Stmt := top 52
abbrev s_Span_init : Stmt := inClass (top 43) 0
abbrev s_Letters_init : Stmt := inClass (top 45) 0
abbrev s_Record_init : Stmt := inClass (top 55) 0
abbrev s_Choice_init : Stmt := inClass (top 56) 0
abbrev s_Maybe_init : Stmt := inClass (top 53) 0
abbrev s_Many_init : Stmt := inClass (top 54) 0
abbrev s_Turned_init : Stmt := inClass (top 57) 0
abbrev s_law_object : Stmt := top 65
abbrev s_law_new : Stmt := top 66
abbrev s_law_made : Stmt := top 67
abbrev s_law_near : Stmt := top 68
abbrev s_law_signed : Stmt := top 69
abbrev s_law_fraction : Stmt := top 70
abbrev s_law_size : Stmt := top 71
abbrev s_law_value : Stmt := top 72
abbrev s_law_drawn : Stmt := top 73
abbrev s_law_listed : Stmt := top 74
abbrev s_law_order : Stmt := top 75
abbrev s_law : Stmt := top 76
abbrev s_first_unlike : Stmt := top 50
abbrev s_Nothing_ahead : Stmt := inClass (top 40) 2
abbrev s_Truth_ahead : Stmt := inClass (top 41) 2
abbrev s_Whole_ahead : Stmt := inClass (top 42) 2
abbrev s_Span_ahead : Stmt := inClass (top 43) 3
abbrev s_Fraction_ahead : Stmt := inClass (top 44) 2
abbrev s_Letters_ahead : Stmt := inClass (top 45) 4
abbrev s_Letters_places : Stmt := inClass (top 45) 2
abbrev s_Maybe_ahead : Stmt := inClass (top 53) 3
abbrev s_Many_ahead : Stmt := inClass (top 54) 3
abbrev s_Record_ahead : Stmt := inClass (top 55) 3
abbrev s_Choice_ahead : Stmt := inClass (top 56) 3
abbrev s_Turned_ahead : Stmt := inClass (top 57) 3
abbrev s_law_pool : Stmt := top 59
abbrev s_law_next : Stmt := top 60
abbrev s_law_signs : Stmt := top 61
abbrev s_law_names : Stmt := top 62
abbrev s_law_simple : Stmt := top 63
abbrev s_law_form : Stmt := top 64
theorem sc_made_of : FnScope ["text", "signs"] ["text", "signs"] (defScope s_made_of) := ⟨rfl, rfl, rfl, by decide +kernel, rfl, by decide +kernel, by decide +kernel⟩
theorem sc_is_name : FnScope ["name"] ["name"] (defScope s_is_name) := ⟨rfl, rfl, rfl, by decide +kernel, rfl, by decide +kernel, by decide +kernel⟩
theorem sc_names_of : FnScope ["parts", "names"] ["parts"] (defScope s_names_of) := ⟨rfl, rfl, rfl, by decide +kernel, rfl, by decide +kernel, by decide +kernel⟩
theorem sc_Span_init : FnScope ["self", "low", "high"] ["self", "low", "high"] (defScope s_Span_init) := ⟨rfl, rfl, rfl, by decide +kernel, rfl, by decide +kernel, by decide +kernel⟩
theorem sc_Letters_init : FnScope ["self", "signs"] ["self", "signs"] (defScope s_Letters_init) := ⟨rfl, rfl, rfl, by decide +kernel, rfl, by decide +kernel, by decide +kernel⟩
theorem sc_Record_init : FnScope ["self", "parts"] ["self", "parts"] (defScope s_Record_init) := ⟨rfl, rfl, rfl, by decide +kernel, rfl, by decide +kernel, by decide +kernel⟩
theorem sc_Choice_init : FnScope ["self", "cases"] ["self", "cases"] (defScope s_Choice_init) := ⟨rfl, rfl, rfl, by decide +kernel, rfl, by decide +kernel, by decide +kernel⟩
theorem sc_Maybe_init : FnScope ["self", "inner"] ["self", "inner"] (defScope s_Maybe_init) := ⟨rfl, rfl, rfl, by decide +kernel, rfl, by decide +kernel, by decide +kernel⟩
theorem sc_Many_init : FnScope ["self", "inner"] ["self", "inner"] (defScope s_Many_init) := ⟨rfl, rfl, rfl, by decide +kernel, rfl, by decide +kernel, by decide +kernel⟩
theorem sc_Turned_init : FnScope ["self", "inner"] ["self", "inner"] (defScope s_Turned_init) := ⟨rfl, rfl, rfl, by decide +kernel, rfl, by decide +kernel, by decide +kernel⟩
theorem sc_law_object : FnScope ["_law_form_here", "_law_kept", "_law_old", "_law_made_here"] ["_law_form_here", "_law_kept"] (defScope s_law_object) := ⟨rfl, rfl, rfl, by decide +kernel, rfl, by decide +kernel, by decide +kernel⟩
theorem sc_law_new : FnScope ["_law_form_here", "_law_kept", "_law_word"] ["_law_form_here", "_law_kept"] (defScope s_law_new) := ⟨rfl, rfl, rfl, by decide +kernel, rfl, by decide +kernel, by decide +kernel⟩
theorem sc_law_made : FnScope ["_law_form_here"] ["_law_form_here"] (defScope s_law_made) := ⟨rfl, rfl, rfl, by decide +kernel, rfl, by decide +kernel, by decide +kernel⟩
theorem sc_law_near : FnScope ["_law_cell", "_law_number"] ["_law_cell"] (defScope s_law_near) := ⟨rfl, rfl, rfl, by decide +kernel, rfl, by decide +kernel, by decide +kernel⟩
theorem sc_law_signed : FnScope ["_law_cell"] ["_law_cell"] (defScope s_law_signed) := ⟨rfl, rfl, rfl, by decide +kernel, rfl, by decide +kernel, by decide +kernel⟩
theorem sc_law_fraction : FnScope ["_law_one", "_law_other", "_law_top", "_law_bottom", "_law_low", "_law_by", "_law_rest"] ["_law_one", "_law_other"] (defScope s_law_fraction) := ⟨rfl, rfl, rfl, by decide +kernel, rfl, by decide +kernel, by decide +kernel⟩
theorem sc_law_size : FnScope ["_law_form_here", "_law_cell", "_law_pool_here"] ["_law_form_here", "_law_cell", "_law_pool_here"] (defScope s_law_size) := ⟨rfl, rfl, rfl, by decide +kernel, rfl, by decide +kernel, by decide +kernel⟩
theorem sc_law_value : FnScope ["_law_pool_here", "_law_form_here", "_law_word", "_law_cell", "_law_text", "_law_k", "_law_name", "_law_inner"] ["_law_pool_here", "_law_form_here"] (defScope s_law_value) := ⟨rfl, rfl, rfl, by decide +kernel, rfl, by decide +kernel, by decide +kernel⟩
theorem sc_law_drawn : FnScope ["_law_pool_here", "_law_cell"] ["_law_pool_here"] (defScope s_law_drawn) := ⟨rfl, rfl, rfl, by decide +kernel, rfl, by decide +kernel, by decide +kernel⟩
theorem sc_law_listed : FnScope ["_law_forms", "_law_one", "_law_other", "_law_k", "_law_way"] ["_law_forms", "_law_one", "_law_other"] (defScope s_law_listed) := ⟨rfl, rfl, rfl, by decide +kernel, rfl, by decide +kernel, by decide +kernel⟩
theorem sc_law_order : FnScope ["_law_form_here", "_law_one", "_law_other", "_law_word", "_law_names_here", "_law_bottom"] ["_law_form_here", "_law_one", "_law_other"] (defScope s_law_order) := ⟨rfl, rfl, rfl, by decide +kernel, rfl, by decide +kernel, by decide +kernel⟩
theorem sc_law : FnScope ["_law_script", "_law_pool_here", "_law_form_here", "_law_made_here", "_law_turn", "_law_some", "_law_one", "_law_other", "_law_due", "_law_found"] ["_law_script"] (defScope s_law) := ⟨rfl, rfl, rfl, by decide +kernel, rfl, by decide +kernel, by decide +kernel⟩
theorem sc_first_unlike : FnScope ["one", "other", "place"] ["one", "other"] (defScope s_first_unlike) := ⟨rfl, rfl, rfl, by decide +kernel, rfl, by decide +kernel, by decide +kernel⟩
theorem sc_Nothing_ahead : FnScope ["self", "one", "other"] ["self", "one", "other"] (defScope s_Nothing_ahead) := ⟨rfl, rfl, rfl, by decide +kernel, rfl, by decide +kernel, by decide +kernel⟩
theorem sc_Truth_ahead : FnScope ["self", "one", "other"] ["self", "one", "other"] (defScope s_Truth_ahead) := ⟨rfl, rfl, rfl, by decide +kernel, rfl, by decide +kernel, by decide +kernel⟩
theorem sc_Whole_ahead : FnScope ["self", "one", "other"] ["self", "one", "other"] (defScope s_Whole_ahead) := ⟨rfl, rfl, rfl, by decide +kernel, rfl, by decide +kernel, by decide +kernel⟩
theorem sc_Span_ahead : FnScope ["self", "one", "other"] ["self", "one", "other"] (defScope s_Span_ahead) := ⟨rfl, rfl, rfl, by decide +kernel, rfl, by decide +kernel, by decide +kernel⟩
theorem sc_Fraction_ahead : FnScope ["self", "one", "other"] ["self", "one", "other"] (defScope s_Fraction_ahead) := ⟨rfl, rfl, rfl, by decide +kernel, rfl, by decide +kernel, by decide +kernel⟩
theorem sc_Letters_ahead : FnScope ["self", "one", "other"] ["self", "one", "other"] (defScope s_Letters_ahead) := ⟨rfl, rfl, rfl, by decide +kernel, rfl, by decide +kernel, by decide +kernel⟩
theorem sc_Letters_places : FnScope ["self", "text"] ["self", "text"] (defScope s_Letters_places) := ⟨rfl, rfl, rfl, by decide +kernel, rfl, by decide +kernel, by decide +kernel⟩
theorem sc_Maybe_ahead : FnScope ["self", "one", "other"] ["self", "one", "other"] (defScope s_Maybe_ahead) := ⟨rfl, rfl, rfl, by decide +kernel, rfl, by decide +kernel, by decide +kernel⟩
theorem sc_Many_ahead : FnScope ["self", "one", "other", "place"] ["self", "one", "other"] (defScope s_Many_ahead) := ⟨rfl, rfl, rfl, by decide +kernel, rfl, by decide +kernel, by decide +kernel⟩
theorem sc_Record_ahead : FnScope ["self", "one", "other", "place"] ["self", "one", "other"] (defScope s_Record_ahead) := ⟨rfl, rfl, rfl, by decide +kernel, rfl, by decide +kernel, by decide +kernel⟩
theorem sc_Choice_ahead : FnScope ["self", "one", "other", "place"] ["self", "one", "other"] (defScope s_Choice_ahead) := ⟨rfl, rfl, rfl, by decide +kernel, rfl, by decide +kernel, by decide +kernel⟩
theorem sc_Turned_ahead : FnScope ["self", "one", "other"] ["self", "one", "other"] (defScope s_Turned_ahead) := ⟨rfl, rfl, rfl, by decide +kernel, rfl, by decide +kernel, by decide +kernel⟩
theorem sc_law_pool : FnScope ["_law_script", "_law_pool_here", "_law_k", "_law_number"] ["_law_script"] (defScope s_law_pool) := ⟨rfl, rfl, rfl, by decide +kernel, rfl, by decide +kernel, by decide +kernel⟩
theorem sc_law_next : FnScope ["_law_pool_here"] ["_law_pool_here"] (defScope s_law_next) := ⟨rfl, rfl, rfl, by decide +kernel, rfl, by decide +kernel, by decide +kernel⟩
theorem sc_law_signs : FnScope ["_law_cell", "_law_rest", "_law_size_here", "_law_number", "_law_found", "_law_k", "_law_at"] ["_law_cell"] (defScope s_law_signs) := ⟨rfl, rfl, rfl, by decide +kernel, rfl, by decide +kernel, by decide +kernel⟩
theorem sc_law_names : FnScope ["_law_cell", "_law_many", "_law_some", "_law_size_here", "_law_at", "_law_step", "_law_number", "_law_first", "_law_stem", "_law_k"] ["_law_cell", "_law_many"] (defScope s_law_names) := ⟨rfl, rfl, rfl, by decide +kernel, rfl, by decide +kernel, by decide +kernel⟩
theorem sc_law_simple : FnScope ["_law_pool_here", "_law_way", "_law_low", "_law_cell"] ["_law_pool_here", "_law_way"] (defScope s_law_simple) := ⟨rfl, rfl, rfl, by decide +kernel, rfl, by decide +kernel, by decide +kernel⟩
theorem sc_law_form : FnScope ["_law_pool_here", "_law_deep", "_law_cell", "_law_way", "_law_many", "_law_names_here", "_law_inner", "_law_alike", "_law_base", "_law_k", "_law_depth", "_law_part"] ["_law_pool_here", "_law_deep"] (defScope s_law_form) := ⟨rfl, rfl, rfl, by decide +kernel, rfl, by decide +kernel, by decide +kernel⟩
/-- Python's own names are not given another meaning -/
structure NB (mg : Str → Option Value) : Prop where
  len_ : mg "len" = none
  range_ : mg "range" = none
  int_ : mg "int" = none
  str_ : mg "str" = none
  bool_ : mg "bool" = none
  tuple_ : mg "tuple" = none
  isinstance_ : mg "isinstance" = none
  min_ : mg "min" = none
  list_ : mg "list" = none
  all_ : mg "all" = none
  reversed_ : mg "reversed" = none
  enumerate_ : mg "enumerate" = none
  zip_ : mg "zip" = none
  set_ : mg "set" = none
  abs_ : mg "abs" = none
section
open PySem L2 KM
variable {P : Program} {w : World} {K : PySem.W.Frag} {mg : Str → Option Value} {base : Heap}
seal PE PT PW PA PS PSs PG PGs PI PTs PC PO

local macro_rules | `(tactic| walk_at "g1") => `(tactic| first
  | with_reducible exact True.intro
  | refine ⟨_, rfl, ?_⟩
  | refine ⟨_, _, rfl, rfl, ?_⟩
  | refine Or.inl ⟨_, _, rfl, rfl, ?_⟩
  | refine Or.inr ⟨_, _, rfl, rfl, ?_⟩
  | refine ⟨rfl, ?_⟩
  | refine ⟨(by first | omega | decide), ?_⟩)
local macro_rules | `(tactic| walk_at "g") => `(tactic| repeat walk_at "g1")
theorem iteD {p A B : Prop} [Decidable p] (h1 : p → A) (h2 : ¬ p → B) : if decide p = true then A else B := by
  by_cases h : p
  · rw [if_pos (decide_eq_true h)]; exact h1 h
  · rw [if_neg (by simpa using h)]; exact h2 h
theorem iteN {p A B : Prop} [Decidable p] (h : ¬ p) (h2 : B) : if decide p = true then A else B := by rw [if_neg (by simpa using h)]; exact h2
theorem iteY {p A B : Prop} [Decidable p] (h : p) (h2 : A) : if decide p = true then A else B := by rw [if_pos (decide_eq_true h)]; exact h2

/-! ### rows of signs -/
theorem small5 {n : Nat} (h : n ≤ 100000) : n ≤ sizeLine := Nat.le_trans h (by decide)
/-! ### the law's own helpers -/
/-! ### texts and names, as the forms ask them -/
theorem one_ok : 1 ≤ sizeLine := by decide
def spMadeOf : Sp := fun vs H Q _ => ∃ t s : Str, vs = [.str t, .str s] ∧ t.length ≤ 1000 ∧ Q (.bl (madeOf t s)) H
theorem ok_made_of {f : Addr} {fd : FuncData} (nb : NB mg) (F : FunAt K mg "made_of" s_made_of ["text", "signs"] f fd) : DefOk P w K mg base 1 "made_of" ["text", "signs"] spMadeOf := by
  refine F.ok sc_made_of (fun vs H Q E h => ?_) (fun cdv A outer s H vs Q E hr h => ?_)
  · obtain ⟨_, _, rfl, _⟩ := h; rfl
  obtain ⟨t, sg, rfl, ht, q⟩ := h
  refine ⟨_, (pss_one (ps_ret (pe_callB (call_all rfl) rfl nb.all_ bo_all (pa_cons (pe_comp ["sign"] [(1, "signs")] rfl (by decide +kernel) ⟨rfl, .inl rfl, trivial⟩ (piAll (pv 0)) (fun _ _ _ _ _ => (pg_name (i := 0) (show (["sign", "signs"] : List Str).Nodup by decide +kernel) rfl (by first | exact Or.inl rfl | exact Or.inr rfl))) (fun _ _ _ _ _ => pts_nil) (fun _ _ _ _ _ => (pe_cmpR op_in_str (pv 0) (pv 1) (by with_unfolding_all rfl)))) pa_nil)))), ?_⟩
  refine .inr ⟨_, rfl, t, rfl, fun D hD => ?_⟩
  refine comp_str (fun c => .bl (decide (c ∈ sg.cps.toList))) (fun σ => ∃ z, σ = [z, some (.str sg)]) (small5 (by show t.length ≤ _; omega)) ⟨_, rfl⟩ hD ?_ ?_
  · rintro c hc σ1 H1 ⟨z, rfl⟩ hs R hR
    refine ⟨_, rfl, _, rfl, _, _, rfl, rfl, ?_⟩
    rw [StrLaws.found_one]
    exact hR _ ⟨_, rfl⟩
  · refine ⟨D, t.cps.toList.map fun c => decide (c ∈ sg.cps.toList), rfl, ?_, H, .refl (same_new hD), ?_⟩
    · rw [List.map_map]; exact SqL.of upd_same
    · rw [List.all_map]; exact q
def spIsName : Sp := fun vs H Q _ => ∃ n : Str, vs = [.str n] ∧ n.length ≤ 1000 ∧ Q (.bl (isName n)) H
theorem ok_is_name {f : Addr} {fd : FuncData} (nb : NB mg) (g_LONGEST_NAME : GlobV mg "LONGEST_NAME" (.int 12)) (g_SMALL_LETTERS : GlobV mg "SMALL_LETTERS" (.str L26)) (F : FunAt K mg "is_name" s_is_name ["name"] f fd) (D_made_of : DefOk P w K mg base 1 "made_of" ["text", "signs"] spMadeOf) : DefOk P w K mg base 2 "is_name" ["name"] spIsName := by
  refine F.ok sc_is_name (fun vs H Q E h => ?_) (fun cdv A outer s H vs Q E hr h => ?_)
  · obtain ⟨_, rfl, _⟩ := h; rfl
  obtain ⟨n, rfl, hn, q⟩ := h
  refine ⟨_, (pss_one (ps_ret (pe_and (pe_cmpR oLt pe_int (pe_callB call_len rfl nb.len_ bo_len (pa_cons (pv 0) pa_nil)) (nomark _)) (pe_and (pe_cmpR oLe (pe_callB call_len rfl nb.len_ bo_len (pa_cons (pv 0) pa_nil)) (pe_globV g_LONGEST_NAME) (nomark _)) (pe_one (pe_callD D_made_of hr (pa_cons (pv 0) (pa_cons (pe_globV g_SMALL_LETTERS) pa_nil)))))))), ?_⟩
  have ln : n.length ≤ sizeLine := small5 (by omega)
  unfold isName at q
  refine ⟨_, rfl, _, _, rfl, ⟨ln, rfl⟩, .inl ⟨_, _, rfl, rfl, _, rfl, ?_⟩⟩
  refine iteD (fun c1 => ?_) (fun c1 => ?_)
  · refine ⟨_, rfl, _, _, rfl, ⟨ln, rfl⟩, _, _, rfl, rfl, _, rfl, ?_⟩
    refine iteD (fun c2 => ?_) (fun c2 => ?_)
    · refine ⟨_, rfl, n, L26, rfl, hn, H, .refl (Same.refl _), ?_⟩
      rw [decide_eq_true ⟨by omega, by omega⟩, Bool.true_and] at q
      exact q
    · rw [decide_eq_false (fun z => c2 (by omega)), Bool.false_and] at q
      exact ⟨H, .refl (Same.refl _), q⟩
  · rw [decide_eq_false (fun z => c1 (by omega)), Bool.false_and] at q
    exact ⟨H, .refl (Same.refl _), q⟩
/-- a list of parts: tuples of a name and a form -/
structure Parts (H : Hp) (p : Addr) (ps : List (Addr × Str × Addr)) : Prop where
  l : H p = some (.lst (ps.map fun x => V.ref x.1))
  t : ∀ x, x ∈ ps → H x.1 = some (.tup [.str x.2.1, .ref x.2.2])
  n : ps.length ≤ 30
  b : ∀ x, x ∈ ps → x.2.1.length ≤ 100
def nms (ps : List (Addr × Str × Addr)) : List Str := ps.map fun x => x.2.1
def fms (ps : List (Addr × Str × Addr)) : List Addr := ps.map fun x => x.2.2
theorem Parts.same {H H' : Hp} {p : Addr} {ps : List (Addr × Str × Addr)} (h : Parts H p ps) (s : Same H H') : Parts H' p ps := ⟨s _ _ h.l, fun x hx => s _ _ (h.t x hx), h.n, h.b⟩
def spNamesOf : Sp := fun vs H Q _ => ∃ p ps, vs = [.ref p] ∧ Parts H p ps ∧ goodNames (nms ps) = true ∧ ∀ D, H D = none → Q (.ref D) (upd H D (.lst ((nms ps).map V.str)))
theorem ok_names_of {f : Addr} {fd : FuncData} (nb : NB mg) (g_MOST_PARTS : GlobV mg "MOST_PARTS" (.int 20)) (F : FunAt K mg "names_of" s_names_of ["parts"] f fd) (D_is_name : DefOk P w K mg base 2 "is_name" ["name"] spIsName) : DefOk P w K mg base 3 "names_of" ["parts"] spNamesOf := by
  refine F.ok sc_names_of (fun vs H Q E h => ?_) (fun cdv A outer s H vs Q E hr h => ?_)
  · obtain ⟨_, _, rfl, _⟩ := h; rfl
  obtain ⟨p, ps, rfl, hP, hg, q⟩ := h
  refine ⟨_, (pss_cons (ps_setComp (i := 1)  ["part"] [] sc_names_of.nd rfl rfl rfl (by decide +kernel) trivial (piAll (pv 0)) (fun _ _ _ _ _ => (pg_name (i := 0) (show (["part"] : List Str).Nodup by decide +kernel) rfl (by first | exact Or.inl rfl | exact Or.inr rfl))) (fun _ _ _ _ _ => pts_nil) (fun _ _ _ _ _ => (pe_ix iAll (pv 0) pe_int (fun _ _ => rfl))))
    (pss_cons (ps_if (PW.pt (pw_or (pt_cmpR oEq (pe_callB call_len rfl nb.len_ bo_len (pa_cons (pv 1) pa_nil)) pe_int (nomark _)) (pw_or1 (pt_cmpR oGt (pe_callB call_len rfl nb.len_ bo_len (pa_cons (pv 1) pa_nil)) (pe_globV g_MOST_PARTS) (nomark _))))) (pss_one ps_never) pss_nil)
    (pss_cons (ps_if (pt_cmpR oLt (pe_lenset rfl rfl nb.len_ rfl nb.set_ (pv 1)) (pe_callB call_len rfl nb.len_ bo_len (pa_cons (pv 1) pa_nil)) (nomark _)) (pss_one ps_never) pss_nil)
    (pss_cons (ps_if (pt_not (pt_truth (pe_callB (call_all rfl) rfl nb.all_ bo_all (pa_cons (pe_comp ["name"] [] rfl (by decide +kernel) trivial (piAll (pv 1)) (fun _ _ _ _ _ => (pg_name (i := 0) (show (["name"] : List Str).Nodup by decide +kernel) rfl (by first | exact Or.inl rfl | exact Or.inr rfl))) (fun _ _ _ _ _ => pts_nil) (fun _ _ _ _ _ => (pe_callD D_is_name hr (pa_cons (pv 0) pa_nil)))) pa_nil)) (fun _ => rfl))) (pss_one ps_never) pss_nil)
    (pss_one (ps_ret (pv 1))))))), ?_⟩
  refine .inl ⟨_, rfl, p, rfl, ⟨_, SqL.of hP.l⟩, fun D hD => ?_⟩
  refine comp_listI (K := K) (a := p) (xs := ps.map fun x => V.ref x.1) (fun i => V.str ((nms ps).getD i Str.empty)) (fun σ => ∃ z, σ = [z]) (by rw [List.length_map]; exact small5 (by have := hP.n; omega)) ⟨_, rfl⟩ hD (SqL.of hP.l) ?_ ?_
  · rintro i x hx σ1 H1 ⟨z, rfl⟩ hs1 R hR
    rw [List.getElem?_map] at hx
    obtain ⟨y, hy, rfl⟩ := Option.map_eq_some_iff.mp hx
    have hm := List.mem_of_getElem? hy
    have e : (nms ps).getD i Str.empty = y.2.1 := by unfold nms; rw [List.getD_eq_getElem?_getD, List.getElem?_map, hy]; rfl
    rw [e] at hR
    exact ⟨_, rfl, .inl (.inr ⟨_, _, _, _, rfl, rfl, SqT.of (hs1 _ _ (hP.t y hm)), atI_nat (j := 0) rfl, hR _ ⟨_, rfl⟩⟩)⟩
  have en : (List.range (ps.map fun x => V.ref x.1).length).map (fun i => V.str ((nms ps).getD i Str.empty)) = (nms ps).map V.str := by
    have h0 := names_range (nms ps)
    rw [show (ps.map fun x => V.ref x.1).length = (nms ps).length by unfold nms; rw [List.length_map, List.length_map]]
    exact h0
  rw [en]
  have hlN : (nms ps).length ≤ 30 := by unfold nms; rw [List.length_map]; exact hP.n
  have hSq : SqL K (upd H D (.lst ((nms ps).map V.str))) D ((nms ps).map V.str) := SqL.of upd_same
  have hds := dsN_le (nms ps)
  unfold goodNames at hg
  refine ⟨_, rfl, _, _, rfl, .inl ⟨_, hSq, rfl⟩, rfl, _, rfl, ?_⟩
  rw [List.length_map]
  simp only [Bool.and_eq_true, decide_eq_true_eq] at hg
  obtain ⟨⟨h0, h20, hd⟩, hall⟩ := hg
  refine iteN (fun z => h0 (by have := V.int.inj z; omega)) ⟨_, rfl, _, _, rfl, .inl ⟨_, hSq, rfl⟩, _, _, rfl, rfl, _, rfl, iteN (by rw [List.length_map]; omega) ?_⟩
  refine ⟨_, rfl, _, _, texts_names hSq, (by unfold scanBound; omega), _, rfl, _, _, rfl, .inl ⟨_, hSq, rfl⟩, .inl ⟨_, _, rfl, rfl, _, rfl, iteN (by rw [List.length_map]; show ¬ (((dsN (nms ps) : Nat) : Int) < _); omega) ?_⟩⟩
  refine .inl ⟨_, rfl, D, rfl, ⟨_, hSq⟩, fun D2 hD2 => ?_⟩
  have hD3 : upd H D (.lst ((nms ps).map V.str)) D = some (.lst ((nms ps).map V.str)) := upd_same
  refine comp_list (K := K) (a := D) (xs := (nms ps).map V.str) (fun x => match x with | .str n => .bl (isName n) | _ => .non) (fun σ => ∃ z, σ = [z]) (by rw [List.length_map]; exact small5 (by omega)) ⟨_, rfl⟩ hD2 hSq ?_ ?_
  · rintro x hx σ1 H1 ⟨z, rfl⟩ hs1 R hR
    obtain ⟨n, hn, rfl⟩ := List.mem_map.mp hx
    obtain ⟨y, hy, rfl⟩ := List.mem_map.mp hn
    have := hP.b y hy
    exact ⟨_, rfl, _, rfl, by omega, hR _ ⟨_, rfl⟩⟩
  · rw [List.map_map]
    refine ⟨D2, (nms ps).map isName, rfl, ?_, _, rfl, ?_⟩
    · rw [List.map_map]; exact SqL.of upd_same
    rw [List.all_map, show (id ∘ isName) = isName from rfl, hall]
    exact iteF ⟨_, rfl, _, .new (o := HO.lst ((nms ps).map V.str)) hD ((same_new hD).trans (same_new hD2)) (by rw [upd_ne (fun z => by rw [← z, hD3] at hD2; cases hD2)]; exact upd_same) trivial, q D hD⟩
/-! ### the classes Span, Letters, Record, Choice -/
structure SpanCls (K : PySem.W.Frag) (C : Addr) : Prop where
  cl : Cls K C
  nL : NoAttr K C "low"
  nH : NoAttr K C "high"
structure LetCls (K : PySem.W.Frag) (C : Addr) : Prop where
  cl : Cls K C
  nS : NoAttr K C "signs"
structure TwoCls (K : PySem.W.Frag) (C : Addr) : Prop where
  cl : Cls K C
  nN : NoAttr K C "names"
  nF : NoAttr K C "forms"
theorem lowhigh : ¬ (("low" : Str) = "high") := by decide +kernel
theorem namesforms : ¬ (("names" : Str) = "forms") := by decide +kernel
theorem put_low (v : V) : putF "low" v [] = ([("low", v)] : List (Str × V)) := rfl
theorem put_high (v w : V) : putF "high" w ([("low", v)] : List (Str × V)) = ([("low", v), ("high", w)] : List (Str × V)) := by simp only [putF, lowhigh, if_false]
theorem put_lsigns (v : V) : putF "signs" v [] = ([("signs", v)] : List (Str × V)) := rfl
theorem put_names (v : V) : putF "names" v [] = ([("names", v)] : List (Str × V)) := rfl
theorem put_forms (v w : V) : putF "forms" w ([("names", v)] : List (Str × V)) = ([("names", v), ("forms", w)] : List (Str × V)) := by simp only [putF, namesforms, if_false]
theorem look1 (k : Str) (v : V) (r : List (Str × V)) : ((k, v) :: r).lookup k = some v := by simp [List.lookup]
theorem look2 (k k2 : Str) (v w : V) (h : (k2 == k) = false) : ([(k, v), (k2, w)] : List (Str × V)).lookup k2 = some w := by simp [List.lookup, h]
theorem formsnames : (("forms" : Str) == "names") = false := by decide +kernel
def spanF (a b : Int) : List (Str × V) := [("low", .int a), ("high", .int b)]
def letF (s : Str) : List (Str × V) := [("signs", .str s)]
def twoF (l1 l2 : Addr) : List (Str × V) := [("names", .ref l1), ("forms", .ref l2)]
def spSpanInit (C : Addr) : Sp := fun vs H Q _ => ∃ (p dx : Addr) (a b : Int), vs = [.ref p, .int a, .int b] ∧ H p = some (.ins C dx []) ∧ a ≤ b ∧ Q .non (upd H p (.ins C dx (spanF a b)))
theorem ok_span_init {f C : Addr} {fd : FuncData} (T : SpanCls K C) (F : Fun K "__init__" "Span.__init__" s_Span_init f fd) : FnOk P w K mg base CX0 1 f fd ["self", "low", "high"] (spSpanInit C) := by
  refine F.ok sc_Span_init (fun vs H Q E h => ?_) (fun cdv A outer s H vs Q E hr h => ?_)
  · obtain ⟨_, _, _, _, rfl, _⟩ := h; rfl
  obtain ⟨p, dx, a, b, rfl, hp, hab, q⟩ := h
  refine ⟨_, (pss_cons (ps_if (pt_cmpR oGt (pv 1) (pv 2) (nomark _)) (pss_one ps_never) pss_nil)
    (pss_cons (ps_fld (pv 0) (pv 1) rfl)
    (pss_one (ps_fld (pv 0) (pv 2) rfl)))), ?_⟩
  refine ⟨_, rfl, _, rfl, _, _, rfl, rfl, _, rfl, iteN (by omega) ?_⟩
  refine ⟨_, rfl, _, rfl, p, C, dx, _, rfl, hp, T.cl, T.nL, (by show 0 < 1000; decide), ?_⟩
  rw [put_low]
  refine ⟨_, rfl, _, rfl, p, C, dx, _, rfl, upd_same, T.cl, T.nH, (by show 1 < 1000; decide), ?_⟩
  rw [put_high, upd_upd']
  exact q
def spLetInit (C : Addr) : Sp := fun vs H Q _ => ∃ (p dx : Addr) (s : Str), vs = [.ref p, .str s] ∧ H p = some (.ins C dx []) ∧ s.length ≤ 1000 ∧ goodText s = true ∧ Q .non (upd H p (.ins C dx (letF s)))
theorem ok_let_init {f C : Addr} {fd : FuncData} (nb : NB mg) (g_MOST_SIGNS : GlobV mg "MOST_SIGNS" (.int 60)) (g_LETTERS_AND_FIGURES : GlobV mg "LETTERS_AND_FIGURES" (.str L62)) (T : LetCls K C) (F : Fun K "__init__" "Letters.__init__" s_Letters_init f fd) (D_made_of : DefOk P w K mg base 1 "made_of" ["text", "signs"] spMadeOf) : FnOk P w K mg base CX0 2 f fd ["self", "signs"] (spLetInit C) := by
  refine F.ok sc_Letters_init (fun vs H Q E h => ?_) (fun cdv A outer s H vs Q E hr h => ?_)
  · obtain ⟨_, _, _, rfl, _⟩ := h; rfl
  obtain ⟨p, dx, t, rfl, hp, ht, hg, q⟩ := h
  refine ⟨_, (pss_cons (ps_if (PW.pt (pw_or (pt_cmpR oEq (pv 1) pe_str (nomark _)) (pw_or1 (pt_cmpR oGt (pe_callB call_len rfl nb.len_ bo_len (pa_cons (pv 1) pa_nil)) (pe_globV g_MOST_SIGNS) (nomark _))))) (pss_one ps_never) pss_nil)
    (pss_cons (ps_if (pt_cmpR oLt (pe_lenset rfl rfl nb.len_ rfl nb.set_ (pv 1)) (pe_callB call_len rfl nb.len_ bo_len (pa_cons (pv 1) pa_nil)) (nomark _)) (pss_one ps_never) pss_nil)
    (pss_cons (ps_if (pt_not (pt_truth (pe_callD D_made_of hr (pa_cons (pv 1) (pa_cons (pe_globV g_LETTERS_AND_FIGURES) pa_nil))) (fun _ => rfl))) (pss_one ps_never) pss_nil)
    (pss_one (ps_fld (pv 0) (pv 1) rfl))))), ?_⟩
  have ln : t.length ≤ sizeLine := small5 (by omega)
  have hds := dsT_le t
  unfold goodText at hg
  simp only [Bool.and_eq_true, decide_eq_true_eq] at hg
  obtain ⟨⟨h0, h60, hd⟩, hall⟩ := hg
  refine ⟨_, rfl, rfl, _, rfl, iteN (fun z => h0 ((str_nil t).mp (V.str.inj z))) ⟨_, rfl, _, _, rfl, ⟨ln, rfl⟩, _, _, rfl, rfl, _, rfl, iteN (by omega) ?_⟩⟩
  refine ⟨_, rfl, _, _, texts_text t, (by unfold scanBound; show t.length + 1 < _; omega), _, rfl, _, _, rfl, ⟨ln, rfl⟩, .inl ⟨_, _, rfl, rfl, _, rfl, iteN (by show ¬ (((dsT t : Nat) : Int) < _); omega) ?_⟩⟩
  refine ⟨_, rfl, t, L62, rfl, by omega, _, rfl, ?_⟩
  rw [hall]
  refine iteF ⟨_, rfl, _, rfl, p, C, dx, _, rfl, hp, T.cl, T.nS, (by show 0 < 1000; decide), ?_⟩
  rw [put_lsigns]
  exact q
theorem Parts.keep {H H' : Hp} {p o C dx : Addr} {fs : List (Str × V)} {ps : List (Addr × Str × Addr)} (h : Parts H p ps) (ho : H o = some (.ins C dx fs)) (s : ∀ b u, b ≠ o → H b = some u → H' b = some u) : Parts H' p ps :=
  ⟨s _ _ (fun z => by have := h.l; rw [z, ho] at this; cases this) h.l, fun x hx => s _ _ (fun z => by have := h.t x hx; rw [z, ho] at this; cases this) (h.t x hx), h.n, h.b⟩
def spTwoInit (C : Addr) : Sp := fun vs H Q _ => ∃ (o dx p : Addr) (ps : List (Addr × Str × Addr)), vs = [.ref o, .ref p] ∧ H o = some (.ins C dx []) ∧ Parts H p ps ∧ goodNames (nms ps) = true ∧
  ∀ l1 l2, H l1 = none → H l2 = none → l1 ≠ l2 → Q .non (upd (upd (upd H l1 (.lst ((nms ps).map V.str))) l2 (.lst ((fms ps).map V.ref))) o (.ins C dx (twoF l1 l2)))
theorem ok_rec_init {f C : Addr} {fd : FuncData} (nb : NB mg) (T : TwoCls K C) (F : Fun K "__init__" "Record.__init__" s_Record_init f fd) (D_names_of : DefOk P w K mg base 3 "names_of" ["parts"] spNamesOf) : FnOk P w K mg base CX0 4 f fd ["self", "parts"] (spTwoInit C) := by
  refine F.ok sc_Record_init (fun vs H Q E h => ?_) (fun cdv A outer s H vs Q E hr h => ?_)
  · obtain ⟨_, _, _, _, rfl, _⟩ := h; rfl
  obtain ⟨o, dx, p, ps, rfl, ho, hP, hg, q⟩ := h
  refine ⟨_, (pss_cons (ps_fld (pv 0) (pe_callD D_names_of hr (pa_cons (pv 1) pa_nil)) rfl)
    (pss_one (ps_fld (pv 0) (pe_comp ["part"] [] rfl (by decide +kernel) trivial (piAll (pv 1)) (fun _ _ _ _ _ => (pg_name (i := 0) (show (["part"] : List Str).Nodup by decide +kernel) rfl (by first | exact Or.inl rfl | exact Or.inr rfl))) (fun _ _ _ _ _ => pts_nil) (fun _ _ _ _ _ => (pe_ix iAll (pv 0) pe_int (fun _ _ => rfl)))) rfl))), ?_⟩
  refine ⟨_, rfl, p, ps, rfl, hP, hg, fun l1 h1 => ?_⟩
  have n1 : l1 ≠ o := (ne_of_none ho h1).symm
  refine ⟨_, rfl, o, C, dx, _, rfl, (by rw [upd_ne (Ne.symm n1)]; exact ho), T.cl, T.nN, (by show 0 < 1000; decide), ?_⟩
  rw [put_names]
  have k1 : ∀ b u, b ≠ o → H b = some u → upd (upd H l1 (.lst ((nms ps).map V.str))) o (.ins C dx [("names", .ref l1)]) b = some u := fun b u nb e => by rw [upd_ne nb, upd_ne (ne_of_none e h1)]; exact e
  have hP1 := hP.keep ho k1
  refine .inl ⟨_, rfl, p, rfl, ⟨_, SqL.of hP1.l⟩, fun l2 h2 => ?_⟩
  have n2 : l2 ≠ o := fun z => by rw [z, upd_same] at h2; cases h2
  have n12 : l1 ≠ l2 := fun z => by rw [upd_ne n2, ← z, upd_same] at h2; cases h2
  have h20 : H l2 = none := by rw [upd_ne n2, upd_ne (Ne.symm n12)] at h2; exact h2
  refine comp_listI (K := K) (a := p) (xs := ps.map fun x => V.ref x.1) (fun i => V.ref ((fms ps).getD i 0)) (fun σ => ∃ z, σ = [z]) (by rw [List.length_map]; exact small5 (by have := hP.n; omega)) ⟨_, rfl⟩ h2 (SqL.of hP1.l) ?_ ?_
  · rintro i x hx σ1 H1 ⟨z, rfl⟩ hs1 R hR
    rw [List.getElem?_map] at hx
    obtain ⟨y, hy, rfl⟩ := Option.map_eq_some_iff.mp hx
    have hm := List.mem_of_getElem? hy
    have e : (fms ps).getD i 0 = y.2.2 := by unfold fms; rw [List.getD_eq_getElem?_getD, List.getElem?_map, hy]; rfl
    rw [e] at hR
    exact ⟨_, rfl, .inl (.inr ⟨_, _, _, _, rfl, rfl, SqT.of (hs1 _ _ (hP1.t y hm)), atI_nat (j := 1) rfl, hR _ ⟨_, rfl⟩⟩)⟩
  have en : (List.range (ps.map fun x => V.ref x.1).length).map (fun i => V.ref ((fms ps).getD i 0)) = (fms ps).map V.ref := by
    apply List.ext_getElem
    · unfold fms; simp
    · intro i g1 g2
      have g3 : i < ps.length := by simpa [fms] using g2
      have g4 : i < (fms ps).length := by simpa using g2
      rw [List.getElem_map, List.getElem_map, List.getElem_range, List.getD_eq_getElem?_getD, List.getElem?_eq_getElem g4]; rfl
  rw [en]
  refine ⟨_, rfl, o, C, dx, _, rfl, (by rw [upd_ne (Ne.symm n2)]; exact upd_same), T.cl, T.nF, (by show 1 < 1000; decide), ?_⟩
  rw [put_forms, upd_swap (Ne.symm n2), upd_upd']
  exact q l1 l2 h1 h20 n12
theorem ok_cho_init {f C : Addr} {fd : FuncData} (nb : NB mg) (T : TwoCls K C) (F : Fun K "__init__" "Choice.__init__" s_Choice_init f fd) (D_names_of : DefOk P w K mg base 3 "names_of" ["parts"] spNamesOf) : FnOk P w K mg base CX0 4 f fd ["self", "cases"] (spTwoInit C) := by
  refine F.ok sc_Choice_init (fun vs H Q E h => ?_) (fun cdv A outer s H vs Q E hr h => ?_)
  · obtain ⟨_, _, _, _, rfl, _⟩ := h; rfl
  obtain ⟨o, dx, p, ps, rfl, ho, hP, hg, q⟩ := h
  refine ⟨_, (pss_cons (ps_fld (pv 0) (pe_callD D_names_of hr (pa_cons (pv 1) pa_nil)) rfl)
    (pss_one (ps_fld (pv 0) (pe_comp ["case"] [] rfl (by decide +kernel) trivial (piAll (pv 1)) (fun _ _ _ _ _ => (pg_name (i := 0) (show (["case"] : List Str).Nodup by decide +kernel) rfl (by first | exact Or.inl rfl | exact Or.inr rfl))) (fun _ _ _ _ _ => pts_nil) (fun _ _ _ _ _ => (pe_ix iAll (pv 0) pe_int (fun _ _ => rfl)))) rfl))), ?_⟩
  refine ⟨_, rfl, p, ps, rfl, hP, hg, fun l1 h1 => ?_⟩
  have n1 : l1 ≠ o := (ne_of_none ho h1).symm
  refine ⟨_, rfl, o, C, dx, _, rfl, (by rw [upd_ne (Ne.symm n1)]; exact ho), T.cl, T.nN, (by show 0 < 1000; decide), ?_⟩
  rw [put_names]
  have k1 : ∀ b u, b ≠ o → H b = some u → upd (upd H l1 (.lst ((nms ps).map V.str))) o (.ins C dx [("names", .ref l1)]) b = some u := fun b u nb e => by rw [upd_ne nb, upd_ne (ne_of_none e h1)]; exact e
  have hP1 := hP.keep ho k1
  refine .inl ⟨_, rfl, p, rfl, ⟨_, SqL.of hP1.l⟩, fun l2 h2 => ?_⟩
  have n2 : l2 ≠ o := fun z => by rw [z, upd_same] at h2; cases h2
  have n12 : l1 ≠ l2 := fun z => by rw [upd_ne n2, ← z, upd_same] at h2; cases h2
  have h20 : H l2 = none := by rw [upd_ne n2, upd_ne (Ne.symm n12)] at h2; exact h2
  refine comp_listI (K := K) (a := p) (xs := ps.map fun x => V.ref x.1) (fun i => V.ref ((fms ps).getD i 0)) (fun σ => ∃ z, σ = [z]) (by rw [List.length_map]; exact small5 (by have := hP.n; omega)) ⟨_, rfl⟩ h2 (SqL.of hP1.l) ?_ ?_
  · rintro i x hx σ1 H1 ⟨z, rfl⟩ hs1 R hR
    rw [List.getElem?_map] at hx
    obtain ⟨y, hy, rfl⟩ := Option.map_eq_some_iff.mp hx
    have hm := List.mem_of_getElem? hy
    have e : (fms ps).getD i 0 = y.2.2 := by unfold fms; rw [List.getD_eq_getElem?_getD, List.getElem?_map, hy]; rfl
    rw [e] at hR
    exact ⟨_, rfl, .inl (.inr ⟨_, _, _, _, rfl, rfl, SqT.of (hs1 _ _ (hP1.t y hm)), atI_nat (j := 1) rfl, hR _ ⟨_, rfl⟩⟩)⟩
  have en : (List.range (ps.map fun x => V.ref x.1).length).map (fun i => V.ref ((fms ps).getD i 0)) = (fms ps).map V.ref := by
    apply List.ext_getElem
    · unfold fms; simp
    · intro i g1 g2
      have g3 : i < ps.length := by simpa [fms] using g2
      have g4 : i < (fms ps).length := by simpa using g2
      rw [List.getElem_map, List.getElem_map, List.getElem_range, List.getD_eq_getElem?_getD, List.getElem?_eq_getElem g4]; rfl
  rw [en]
  refine ⟨_, rfl, o, C, dx, _, rfl, (by rw [upd_ne (Ne.symm n2)]; exact upd_same), T.cl, T.nF, (by show 1 < 1000; decide), ?_⟩
  rw [put_forms, upd_swap (Ne.symm n2), upd_upd']
  exact q l1 l2 h1 h20 n12
/-! ### the forms that hold one form -/
structure OneCls (K : PySem.W.Frag) (C : Addr) : Prop where
  cl : Cls K C
  nI : NoAttr K C "inner"
def spOneInit (C : Addr) : Sp := fun vs H Q _ => ∃ p dx w, vs = [.ref p, .ref w] ∧ H p = some (.ins C dx []) ∧ Q .non (upd H p (.ins C dx [("inner", .ref w)]))
theorem ok_maybe_init {f C : Addr} {fd : FuncData} (T : OneCls K C) (F : Fun K "__init__" "Maybe.__init__" s_Maybe_init f fd) : FnOk P w K mg base CX0 1 f fd ["self", "inner"] (spOneInit C) := by
  refine F.ok sc_Maybe_init (fun vs H Q E h => ?_) (fun cdv A outer s H vs Q E hr h => ?_)
  · obtain ⟨_, _, _, rfl, _⟩ := h; rfl
  obtain ⟨p, dx, w, rfl, hp, q⟩ := h
  exact ⟨_, (pss_one (ps_fld (pv 0) (pv 1) rfl)), _, rfl, _, rfl, p, C, dx, _, rfl, hp, T.cl, T.nI, (by show 0 < 1000; decide), q⟩
theorem ok_many_init {f C : Addr} {fd : FuncData} (T : OneCls K C) (F : Fun K "__init__" "Many.__init__" s_Many_init f fd) : FnOk P w K mg base CX0 1 f fd ["self", "inner"] (spOneInit C) := by
  refine F.ok sc_Many_init (fun vs H Q E h => ?_) (fun cdv A outer s H vs Q E hr h => ?_)
  · obtain ⟨_, _, _, rfl, _⟩ := h; rfl
  obtain ⟨p, dx, w, rfl, hp, q⟩ := h
  exact ⟨_, (pss_one (ps_fld (pv 0) (pv 1) rfl)), _, rfl, _, rfl, p, C, dx, _, rfl, hp, T.cl, T.nI, (by show 0 < 1000; decide), q⟩
theorem ok_turned_init {f C : Addr} {fd : FuncData} (T : OneCls K C) (F : Fun K "__init__" "Turned.__init__" s_Turned_init f fd) : FnOk P w K mg base CX0 1 f fd ["self", "inner"] (spOneInit C) := by
  refine F.ok sc_Turned_init (fun vs H Q E h => ?_) (fun cdv A outer s H vs Q E hr h => ?_)
  · obtain ⟨_, _, _, rfl, _⟩ := h; rfl
  obtain ⟨p, dx, w, rfl, hp, q⟩ := h
  exact ⟨_, (pss_one (ps_fld (pv 0) (pv 1) rfl)), _, rfl, _, rfl, p, C, dx, _, rfl, hp, T.cl, T.nI, (by show 0 < 1000; decide), q⟩
structure Ins (K : PySem.W.Frag) (C : Addr) : Prop where
  cl : Cls K C
  ha : PySem.W.findIn K (.ref C) "__class__" = some (some (.builtin "object.__class__"))
  hn : PySem.W.specialIn K (.builtin "object.__class__") "__get__" = some (some (.builtin "getset_descriptor.__get__"))
  htk : PySem.W.takesIn K (.builtin "object.__class__") = some true
  hm : PySem.W.mroIn K C (.type "object") = some true
theorem useT {p : TS → Prop} {D : Ends} {σ : St} {H : Hp} (T : TS) (h : p T) (g : ∀ (G : Prop) (σ' : St), σ' = σ → (T D σ' H → G) → G) : ∃ T, p T ∧ T D σ H := g _ σ rfl fun k => ⟨T, h, k⟩
theorem setW {K' : PySem.W.Frag} {i j : Nat} {R : TS} {D : Ends} {σ : St} {H : Hp} {T : Addr} {w : V} {r : List V} (hx : σ[i]? = some (some (.ref T))) (e : H T = some (.tup (w :: r))) (h : R D (σ.set j (some w)) H) : tSeq (tAsg (tOp (fun x y H Q => (rIxL K' x y H Q ∨ rIxT K' x y H Q) ∨ rIxS x y H Q) (tVar i) (tC (.int 0))) (gName j)) R D σ H := ⟨_, hx, .inl (.inr ⟨_, _, _, _, rfl, rfl, SqT.of e, atI_nat (j := 0) rfl, h⟩)⟩
theorem skipW {i : Nat} {w x : Str} {S R : TS} {D : Ends} {σ : St} {H : Hp} (hx : σ[i]? = some (some (.str x))) (hn : ¬ V.str x = V.str w) (h : R D σ H) : tSeq (tIfS (tTest (tOp rEq (tVar i) (tC (.str w)))) S tNext) R D σ H := ⟨_, hx, rfl, _, rfl, iteN hn h⟩
theorem takeW {i : Nat} {w : Str} {S R : TS} {D : Ends} {σ : St} {H : Hp} (hx : σ[i]? = some (some (.str w))) (h : ∀ N : St → Hp → Prop, S { D with nx := N } σ H) : tSeq (tIfS (tTest (tOp rEq (tVar i) (tC (.str w)))) S tNext) R D σ H := ⟨_, hx, rfl, _, rfl, iteY rfl (h _)⟩
theorem takeN {i : Nat} {w : Str} {S R : TS} {D : Ends} {σ : St} {H : Hp} (hx : σ[i]? = some (some (.str w))) (h : ∀ N : St → Hp → Prop, (∀ σ H, R D σ H → N σ H) → S { D with nx := N } σ H) : tSeq (tIfS (tTest (tOp rEq (tVar i) (tC (.str w)))) S tNext) R D σ H := ⟨_, hx, rfl, _, rfl, iteY rfl (h _ fun _ _ z => z)⟩
theorem takeO {i : Nat} {w w' x : Str} {S R : TS} {D : Ends} {σ : St} {H : Hp} (hx : σ[i]? = some (some (.str x))) (hw : x = w ∨ x = w') (h : ∀ N : St → Hp → Prop, S { D with nx := N } σ H) : tSeq (tIfS (tOr (tTest (tOp rEq (tVar i) (tC (.str w)))) (tTest (tOp rEq (tVar i) (tC (.str w'))))) S tNext) R D σ H := by
  by_cases z : x = w
  · subst z; exact ⟨_, hx, rfl, _, rfl, iteY rfl (h _)⟩
  · obtain rfl := hw.resolve_left z
    exact ⟨_, hx, rfl, _, rfl, iteN (fun e => z (V.str.inj e)) ⟨_, hx, rfl, _, rfl, iteY rfl (h _)⟩⟩
theorem skipW2 {i : Nat} {w w' x : Str} {S R : TS} {D : Ends} {σ : St} {H : Hp} (hx : σ[i]? = some (some (.str x))) (hn : ¬ V.str x = V.str w) (hn' : ¬ V.str x = V.str w') (h : R D σ H) : tSeq (tIfS (tOr (tTest (tOp rEq (tVar i) (tC (.str w)))) (tTest (tOp rEq (tVar i) (tC (.str w'))))) S tNext) R D σ H := ⟨_, hx, rfl, _, rfl, iteN hn ⟨_, hx, rfl, _, rfl, iteN hn' h⟩⟩
theorem seqN {S R : TS} {D : Ends} {σ : St} {H : Hp} (h : ∀ N : St → Hp → Prop, (∀ σ H, R D σ H → N σ H) → S { D with nx := N } σ H) : tSeq S R D σ H := h _ fun _ _ z => z
theorem comp_listM {K : PySem.W.Frag} {a : Addr} {xs : List V} {g : TG} {te : TE} {Q : VK} {H : Hp} {D : Addr} {σ0 : St} (Inv : Nat → List V → Hp → Prop) (S : St → Prop) (hz : xs.length ≤ 100000) (h0 : S σ0)
    (hl : ∀ i ys H2, Inv i ys H2 → SqL K H2 a xs) (h1 : Inv 0 [] (upd H D (.lst [])))
    (ht : ∀ i x, xs[i]? = some x → ∀ ys σ1 H1, S σ1 → Inv i ys H1 → H1 D = some (.lst ys) → ys.length = i → ∀ R : St → V → Hp → Prop, (∀ σ2 y H3, S σ2 → H3 D = some (.lst ys) → Inv (i + 1) (ys ++ [y]) (upd H3 D (.lst (ys ++ [y]))) → R σ2 y H3) → g x σ1 H1 fun σ2 H2 => te σ2 H2 fun y H3 => R σ2 y H3)
    (hq : ∀ (ys : List V) (H' : Hp), ys.length = xs.length → H' D = some (.lst ys) → Inv xs.length ys H' → Q (.ref D) H') :
    CompGo (Itl K a) g tYes te Q σ0 H D := by
  refine ⟨fun i m σ1 H2 => i ≤ xs.length ∧ m = xs.length - i ∧ S σ1 ∧ ∃ ys : List V, ys.length = i ∧ H2 D = some (.lst ys) ∧ Inv i ys H2, ⟨xs.length, Nat.zero_le _, rfl, h0, [], rfl, upd_same, h1⟩, ?_⟩
  rintro i m σ1 H2 ⟨hi, rfl, h2, ys, hy, hDv, hP⟩
  have hl2 := hl i ys H2 hP
  rcases Nat.lt_or_ge i xs.length with z | z
  · refine .inr ⟨⟨xs, xs[i], hl2, List.getElem?_eq_getElem z⟩, ?_⟩
    rintro x H3 ⟨rfl, hx⟩
    have hx := hx xs hl2
    refine ht i x hx ys σ1 _ h2 hP hDv hy (fun σ2 y H6 => ∃ zs m', H6 D = some (.lst zs) ∧ zs.length < sizeLine ∧ m' < xs.length - i ∧ (i + 1 ≤ xs.length ∧ m' = xs.length - (i + 1) ∧ S σ2 ∧ ∃ ws : List V, ws.length = i + 1 ∧ upd H6 D (.lst (zs ++ [y])) D = some (.lst ws) ∧ Inv (i + 1) ws (upd H6 D (.lst (zs ++ [y]))))) fun σ2 y H6 q3 hD6 hI6 => ?_
    exact ⟨ys, xs.length - (i + 1), hD6, Nat.lt_of_lt_of_le (show ys.length < 100000 by omega) (by decide), by omega, by omega, rfl, q3, ys ++ [y], by rw [List.length_append, hy]; rfl, upd_same, hI6⟩
  · have e : i = xs.length := by omega
    subst e
    exact .inl ⟨⟨xs, hl2, Nat.le_refl _⟩, hq ys H2 hy hDv hP⟩

def WholeIn (n : Int) : Prop := -(2 ^ 255) < n ∧ n < 2 ^ 255 - 1
/-! ### what fits a form -/
instance decWholeV (n : Int) : Decidable (WholeIn n) := inferInstanceAs (Decidable (_ ∧ _))
def bareFit (ff : D → Bool) : Fin 4 → D → Bool
  | 0, .non => true
  | 1, .bl _ => true
  | 2, .int i => decide (WholeIn i)
  | 3, d => ff d
  | _, _ => false
def maybeFit (g : D → Bool) : D → Bool
  | .tup [] => true
  | .tup [x] => g x
  | _ => false
def manyFit (g : D → Bool) : D → Bool
  | .lst ds => decide (ds.length ≤ 60) && ds.all g
  | _ => false
def oneFit (k : Fin 3) (g : D → Bool) (d : D) : Bool := if k = 0 then maybeFit g d else if k = 1 then manyFit g d else g d
def spanFit (a b : Int) : D → Bool
  | .int i => decide (a ≤ i ∧ i ≤ b)
  | _ => false
def letFit (s : Str) : D → Bool
  | .str t => decide (t.length ≤ 200) && madeOf t s
  | _ => false
def tupFit (g : List D → Bool) : D → Bool
  | .tup ds => g ds
  | _ => false
def choFit (g : Str → D → Bool) : D → Bool
  | .tup [.str n, x] => g n x
  | _ => false
mutual
def fitB (ff : D → Bool) : Fm → D → Bool
  | .bare k, d => bareFit ff k d
  | .sp a b, d => spanFit a b d
  | .le s, d => letFit s d
  | .one k f, d => oneFit k (fitB ff f) d
  | .two k ns fs, d => if k = 0 then tupFit (fitL ff fs) d else choFit (fitC ff fs ns) d
def fitL (ff : D → Bool) : List Fm → List D → Bool
  | [], ds => ds.isEmpty
  | f :: fs, ds => match ds with | [] => false | d :: ds => fitB ff f d && fitL ff fs ds
def fitC (ff : D → Bool) : List Fm → List Str → Str → D → Bool
  | [], _, _, _ => false
  | f :: fs, ns, n, x => if ns.head? = some n then fitB ff f x else fitC ff fs ns.tail n x
end

def spNear : Sp := fun vs H Q _ => ∃ c : Int, vs = [.int c] ∧ ∀ n : Nat, n + 1 < 2 ^ 255 → Q (.int n) H
theorem three_at (c : Int) (h0 : c % 5 ≠ 0) (h1 : c % 5 ≠ 1) : ∃ M : Int, atI [V.int 5, V.int 40, V.int 1000] (c % 5 - 2) = some (.int M) ∧ 0 < M ∧ M ≤ 1000 := by
  have h : c % 5 - 2 = ((0 : Nat) : Int) ∨ c % 5 - 2 = ((1 : Nat) : Int) ∨ c % 5 - 2 = ((2 : Nat) : Int) := by omega
  rcases h with h | h | h <;> rw [h]
  · exact ⟨_, atI_nat rfl, by decide, by decide⟩
  · exact ⟨_, atI_nat rfl, by decide, by decide⟩
  · exact ⟨_, atI_nat rfl, by decide, by decide⟩
theorem nat_of {x : Int} (h : 0 ≤ x) : ∃ n : Nat, x = n := ⟨x.toNat, by omega⟩
theorem pow_ge (r : Int) (h : 0 ≤ r) : (2 : Int) ≤ 1 * 2 ^ (1 + r).toNat := by
  have e : (1 + r).toNat = r.toNat + 1 := by omega
  rw [e, Int.one_mul, Int.pow_succ]
  have : (0 : Int) < 2 ^ r.toNat := Int.pow_pos (by decide)
  omega
theorem e255 : (1 : Int) * 2 ^ (255 : Int).toNat = 2 ^ 255 := by decide
theorem ok_law_near {f : Addr} {fd : FuncData} (nb : NB mg) (F : FunAt K mg "_law_near" s_law_near ["_law_cell"] f fd) : DefOk P w K mg base 1 "_law_near" ["_law_cell"] spNear := by
  refine F.ok sc_law_near (fun vs H Q E h => ?_) (fun cdv A outer s H vs Q E hr h => ?_)
  · obtain ⟨c, rfl, _⟩ := h; rfl
  obtain ⟨c, rfl, q⟩ := h
  refine ⟨_, (pss_cons (ps_set (i := 1) sc_law_near.nd rfl (by first | exact Or.inl rfl | exact Or.inr rfl) (pe_op op_fdiv (pv 0) pe_int))
    (pss_cons (ps_if (pt_cmpR oEq (pe_op op_mod (pv 0) pe_int) pe_int (nomark _)) (pss_one (ps_ret (pe_op op_mod (pv 1) (pe_op oSub (pe_op op_shl pe_int pe_int) pe_int)))) pss_nil)
    (pss_cons (ps_if (pt_cmpR oEq (pe_op op_mod (pv 0) pe_int) pe_int (nomark _)) (pss_one (ps_ret (pe_callB (call_min2 rfl) rfl nb.min_ bo_min (pa_cons (pe_op oAdd (pe_op oSub (pe_op op_shl pe_int (pe_op oAdd pe_int (pe_op op_mod (pv 1) pe_int))) pe_int) (pe_op op_mod (pe_op op_fdiv (pv 1) pe_int) pe_int)) (pa_cons (pe_op oSub (pe_op op_shl pe_int pe_int) pe_int) pa_nil))))) pss_nil)
    (pss_one (ps_ret (pe_op op_mod (pv 1) (pe_ix iAll (pe_lst (pa_cons pe_int (pa_cons pe_int (pa_cons pe_int pa_nil)))) (pe_op oSub (pe_op op_mod (pv 0) pe_int) pe_int) (fun _ _ => rfl)))))))), ?_⟩
  have fin : ∀ (x : Int) (H' : Hp), 0 ≤ x → x + 1 < 2 ^ 255 → Same H H' → ∃ H'', L2.Sub H H'' H' ∧ Q (.int x) H'' := fun x H' h0 h1 hs => by
    obtain ⟨n, rfl⟩ := nat_of h0
    exact ⟨H, .refl hs, q n (by omega)⟩
  refine ⟨_, rfl, _, _, rfl, rfl, ⟨by decide, by decide⟩, ?_⟩
  refine ⟨_, rfl, _, _, rfl, rfl, (by show (0 : Int) < 5; decide), rfl, _, rfl, ?_⟩
  refine iteD (fun a => ?_) (fun a => ?_)
  · refine ⟨_, rfl, _, _, rfl, rfl, ⟨by decide, by decide, by decide⟩, _, _, rfl, rfl, _, _, rfl, rfl, ?_⟩
    rw [e255]
    have p : (0 : Int) < 2 ^ 255 - 1 := by decide
    refine ⟨p, fin _ _ (Int.emod_nonneg _ (by decide)) ?_ (Same.refl _)⟩
    have := Int.emod_lt_of_pos (c / 5) p
    omega
  · refine ⟨_, rfl, _, _, rfl, rfl, (by show (0 : Int) < 5; decide), rfl, _, rfl, ?_⟩
    refine iteD (fun b => ?_) (fun b => ?_)
    · refine ⟨_, rfl, _, _, rfl, rfl, (by show (0 : Int) < 255; decide), .inl ⟨_, _, rfl, rfl, ?_⟩⟩
      have r0 := Int.emod_nonneg (c / 5) (show (255 : Int) ≠ 0 by decide)
      have r1 := Int.emod_lt_of_pos (c / 5) (show (0 : Int) < 255 by decide)
      refine ⟨_, _, rfl, rfl, ⟨by omega, by omega, by decide⟩, _, _, rfl, rfl, ?_⟩
      refine ⟨_, rfl, _, _, rfl, rfl, ⟨by decide, by decide⟩, _, _, rfl, rfl, (by show (0 : Int) < 3; decide), .inl ⟨_, _, rfl, rfl, ?_⟩⟩
      refine ⟨_, _, rfl, rfl, ⟨by decide, by decide, by decide⟩, _, _, rfl, rfl, _, _, rfl, ?_⟩
      have g := pow_ge (c / 5 % 255) r0
      have s0 := Int.emod_nonneg (c / 5 / 255) (show (3 : Int) ≠ 0 by decide)
      dsimp only
      rw [e255]
      have big : (2 : Int) ≤ 2 ^ 255 := by decide
      refine fin _ _ ?_ ?_ (Same.refl _)
      · split <;> omega
      · split <;> omega
    · obtain ⟨M, hM, M0, M1⟩ := three_at c (fun z => a (congrArg V.int z)) (fun z => b (congrArg V.int z))
      refine ⟨_, rfl, (by show 3 ≤ sizeLine; decide), fun r hr' => ⟨_, rfl, _, _, rfl, rfl, (by show (0 : Int) < 5; decide), _, _, rfl, rfl, .inl (.inl ⟨_, _, _, _, rfl, rfl, SqL.of upd_same, hM, _, _, rfl, rfl, M0, ?_⟩)⟩⟩
      have m0 := Int.emod_nonneg (c / 5) (Int.ne_of_gt M0)
      have m1 := Int.emod_lt_of_pos (c / 5) M0
      have big : (2 : Int) + 1000 ≤ 2 ^ 255 := by decide
      exact fin _ _ m0 (by omega) (same_new hr')

def spSigned : Sp := fun vs H Q _ => ∃ c : Int, vs = [.int c] ∧ ∀ n : Int, WholeIn n → Q (.int n) H
theorem ok_law_signed {f : Addr} {fd : FuncData} (F : FunAt K mg "_law_signed" s_law_signed ["_law_cell"] f fd) (D_law_near : DefOk P w K mg base 1 "_law_near" ["_law_cell"] spNear) : DefOk P w K mg base 2 "_law_signed" ["_law_cell"] spSigned := by
  refine F.ok sc_law_signed (fun vs H Q E h => ?_) (fun cdv A outer s H vs Q E hr h => ?_)
  · obtain ⟨c, rfl, _⟩ := h; rfl
  obtain ⟨c, rfl, q⟩ := h
  refine ⟨_, (pss_cons (ps_if (pt_cmpR oEq (pe_op op_mod (pv 0) pe_int) pe_int (nomark _)) (pss_one (ps_ret (pe_op oSub (pe_un un_neg pe_int) (pe_callD D_law_near hr (pa_cons (pe_op op_fdiv (pv 0) pe_int) pa_nil))))) pss_nil)
    (pss_one (ps_ret (pe_callD D_law_near hr (pa_cons (pe_op op_fdiv (pv 0) pe_int) pa_nil))))), ?_⟩
  refine ⟨_, rfl, _, _, rfl, rfl, (by show (0 : Int) < 2; decide), rfl, _, rfl, ?_⟩
  refine iteD (fun a => ?_) (fun a => ?_)
  · refine ⟨_, rfl, _, rfl, _, _, rfl, rfl, ⟨by decide, by decide⟩, _, rfl, fun n hn => ⟨_, _, rfl, rfl, H, .refl (Same.refl _), q _ ⟨?_, ?_⟩⟩⟩ <;> omega
  · refine ⟨_, rfl, _, _, rfl, rfl, ⟨by decide, by decide⟩, _, rfl, fun n hn => ⟨H, .refl (Same.refl _), q _ ⟨?_, ?_⟩⟩⟩ <;> omega

/-! ### the pool of numbers -/
theorem atI_modG {α : Type} (f : α → V) (xs : List α) (c m : Int) (hm : m = xs.length) (h : 0 < xs.length) : ∃ n, n ∈ xs ∧ atI (xs.map f) (c % m) = some (f n) := by
  subst hm
  have h1 := Int.emod_nonneg c (b := (xs.length : Int)) (by omega)
  have h2 := Int.emod_lt_of_pos c (b := (xs.length : Int)) (by omega)
  obtain ⟨k, hk⟩ := Int.eq_ofNat_of_zero_le h1
  rw [hk]
  have hk2 : k < xs.length := by omega
  exact ⟨xs[k], List.getElem_mem hk2, atI_nat (by rw [List.getElem?_map, List.getElem?_eq_getElem hk2]; rfl)⟩
theorem mod_nat (c : Int) (n : Nat) (h : 0 < n) : ∃ k : Nat, k < n ∧ c % ((n : Nat) : Int) = ((k : Nat) : Int) := by
  have h1 := Int.emod_nonneg c (b := (n : Int)) (by omega)
  have h2 := Int.emod_lt_of_pos c (b := (n : Int)) (by omega)
  obtain ⟨k, hk⟩ := Int.eq_ofNat_of_zero_le h1
  exact ⟨k, by omega, hk⟩
theorem two_ok : 2 ≤ sizeLine := by decide
def spPool (K : PySem.W.Frag) : Sp := fun vs H Q _ => ∃ (a : Addr) (ns : List Int), vs = [.ref a] ∧ SqL K H a (ns.map V.int) ∧ ns.length ≤ 63 ∧ ∀ (p : Addr) (ms : List Int), H p = none → ms.length ≤ 90 → Q (.ref p) (upd H p (.lst (ms.map V.int)))
theorem ok_law_pool {f : Addr} {fd : FuncData} (nb : NB mg) (F : FunAt K mg "_law_pool" s_law_pool ["_law_script"] f fd) : DefOk P w K mg base 1 "_law_pool" ["_law_script"] (spPool K) := by
  refine F.ok sc_law_pool (fun vs H Q E h => ?_) (fun cdv A outer s H vs Q E hr h => ?_)
  · obtain ⟨_, _, rfl, _⟩ := h; rfl
  obtain ⟨a, ns, rfl, hS, hl, q⟩ := h
  refine ⟨_, (pss_cons (ps_set (i := 1) sc_law_pool.nd rfl (by first | exact Or.inl rfl | exact Or.inr rfl) (pe_lst pa_nil))
    (pss_cons (ps_for PassesOwn.never rfl (pi_range1 rfl nb.range_ (pa_cons (pe_op oMul pe_int (pe_callB (call_min2 rfl) rfl nb.min_ bo_min (pa_cons pe_int (pa_cons (pe_callB call_len rfl nb.len_ bo_len (pa_cons (pv 0) pa_nil)) pa_nil)))) pa_nil)) (pg_name (i := 2) sc_law_pool.nd rfl (by first | exact Or.inl rfl | exact Or.inr rfl))
      (pss_cons (ps_set (i := 3) sc_law_pool.nd rfl (by first | exact Or.inl rfl | exact Or.inr rfl) (pe_op oAdd (pe_ix iAll (pv 0) (pe_op op_mod (pv 2) (pe_callB (call_min2 rfl) rfl nb.min_ bo_min (pa_cons pe_int (pa_cons (pe_callB call_len rfl nb.len_ bo_len (pa_cons (pv 0) pa_nil)) pa_nil)))) (fun _ _ => rfl)) (pe_op oMul (pe_op op_fdiv (pv 2) (pe_callB call_len rfl nb.len_ bo_len (pa_cons (pv 0) pa_nil))) (pe_op oAdd (pe_op oMul (pe_op oMul (pv 2) (pv 2)) pe_int) pe_int))))
      (pss_cons (ps_if (pt_cmpR oEq (pe_op op_mod (pe_op op_fdiv (pe_ix iAll (pv 0) pe_int (fun _ _ => rfl)) pe_int) pe_int) pe_int (nomark _)) (pss_cons (ps_set (i := 3) sc_law_pool.nd rfl (by first | exact Or.inl rfl | exact Or.inr rfl) (pe_op op_mod (pe_op oAdd (pe_op oAdd (pe_op oMul (pv 3) pe_int) (pe_op oMul (pv 2) pe_int)) pe_int) pe_int))
        (pss_cons (ps_set (i := 3) sc_law_pool.nd rfl (by first | exact Or.inl rfl | exact Or.inr rfl) (pe_op op_mod (pe_op oMul (pv 3) (pv 3)) pe_int))
        (pss_one (ps_set (i := 3) sc_law_pool.nd rfl (by first | exact Or.inl rfl | exact Or.inr rfl) (pe_op oAdd (pe_op oMul (pv 3) pe_int) (pe_op op_mod (pe_op oMul (pv 3) (pv 3)) pe_int)))))) pss_nil)
      (pss_one (ps_expr (pe_bm PySem.F.plainAttrs_list PySem.F.slot_list_append PySem.F.type_list_append mt_append (pv 1) (pa_cons (pv 3) pa_nil)))))))
    (pss_one (ps_ret (pv 1))))), ?_⟩
  refine ⟨Nat.zero_le _, fun p hp => ?_⟩
  have s0 := same_new (o := HO.lst []) hp
  refine ⟨_, rfl, _, _, rfl, .inl ⟨_, s0.seq hS, rfl⟩, _, _, rfl, .inl ⟨_, _, rfl, rfl, .inl ⟨by decide, by decide⟩, ?_⟩⟩
  rw [List.length_map]
  refine ⟨_, rfl, ?_, ?_, ?_⟩
  · split <;> omega
  · split <;> omega
  have en : (90 * (if ((ns.length : Nat) : Int) < 1 then ((ns.length : Nat) : Int) else 1)).toNat = if ns.length = 0 then 0 else 90 := by split <;> split <;> omega
  rw [en]
  refine for_range (fun i σ H2 => ∃ (ms : List Int) (z1 z2 : Option V), σ = [some (.ref a), some (.ref p), z1, z2] ∧ ms.length = i ∧ H2 = upd H p (.lst (ms.map V.int))) ?_ ?_ ?_
  · exact ⟨[], none, none, rfl, rfl, rfl⟩
  · rintro i σ H2 hi ⟨ms, z1, z2, rfl, hm, rfl⟩
    have hn0 : ns.length ≠ 0 := fun z => by rw [if_pos z] at hi; omega
    rw [if_neg hn0] at hi
    have hs := (same_new (o := HO.lst (ms.map V.int)) hp).seq hS
    obtain ⟨k, hk, ek⟩ := mod_nat (0 + ((i : Nat) : Int)) (min 63 ns.length) (by omega)
    have hk2 : k < ns.length := by omega
    have hat : atI (ns.map V.int) ((k : Nat) : Int) = some (.int ns[k]) := atI_nat (by rw [List.getElem?_map, List.getElem?_eq_getElem hk2]; rfl)
    have hat0 : atI (ns.map V.int) 0 = some (.int ns[0]) := atI_nat (j := 0) (by rw [List.getElem?_map, List.getElem?_eq_getElem (by omega)]; rfl)
    have em : (if (((ns.map V.int).length : Nat) : Int) < 63 then (((ns.map V.int).length : Nat) : Int) else 63) = ((min 63 ns.length : Nat) : Int) := by rw [List.length_map]; split <;> omega
    have d1 := Int.ediv_nonneg (a := 0 + ((i : Nat) : Int)) (b := (((ns.map V.int).length : Nat) : Int)) (by omega) (by omega)
    have d2 := Int.ediv_le_self (a := 0 + ((i : Nat) : Int)) (((ns.map V.int).length : Nat) : Int) (by omega)
    have lm : (((ns.map V.int).length : Nat) : Int) = ((ns.length : Nat) : Int) := by rw [List.length_map]
    refine ⟨_, rfl, _, rfl, _, rfl, _, _, rfl, .inl ⟨_, hs, rfl⟩, _, _, rfl, _, _, rfl, rfl, (by rw [em]; omega), .inl (.inl ⟨_, _, _, _, rfl, rfl, hs, (by rw [em, ek]; exact hat), ?_⟩)⟩
    refine ⟨_, rfl, _, rfl, _, _, rfl, .inl ⟨_, hs, rfl⟩, _, _, rfl, rfl, ⟨by omega, by omega⟩, ?_⟩
    refine ⟨_, rfl, _, rfl, .inl ⟨_, _, rfl, rfl, .inl ⟨by omega, by omega⟩, .inl ⟨_, _, rfl, rfl, .inr ⟨by decide, by decide⟩, .inl ⟨_, _, rfl, rfl, .inl ⟨_, _, rfl, rfl, .inl ⟨by omega, by omega⟩, .inl ⟨_, _, rfl, rfl, ?_⟩⟩⟩⟩⟩⟩
    have fin : ∀ (n : Int) (z1 : Option V), ∃ (ms' : List Int) (z1 z2 : Option V), [some (V.ref a), some (V.ref p), some (V.int (0 + ((i : Nat) : Int))), some (V.int n)] = [some (.ref a), some (.ref p), z1, z2] ∧ ms'.length = i + 1 ∧ upd (upd H p (.lst (ms.map V.int))) p (.lst (ms.map V.int ++ [V.int n])) = upd H p (.lst (ms'.map V.int)) := fun n z1 =>
      ⟨ms ++ [n], _, _, rfl, by rw [List.length_append, hm]; rfl, by rw [upd_upd', List.map_append]; rfl⟩
    have hlen : (ms.map V.int).length < sizeLine := by rw [List.length_map]; exact Nat.lt_of_lt_of_le (show ms.length < 100000 by omega) (by decide)
    refine ⟨_, rfl, .inl (.inl ⟨_, _, _, _, rfl, rfl, hs, hat0, _, _, rfl, rfl, ⟨by decide, by decide⟩, _, _, rfl, rfl, (by show (0 : Int) < 2; decide), rfl, _, rfl, iteD (fun c1 => ?_) (fun c1 => ?_)⟩)⟩
    · refine ⟨_, rfl, .inl ⟨_, _, rfl, rfl, .inr ⟨by decide, by decide⟩, _, rfl, .inl ⟨_, _, rfl, rfl, .inr ⟨by decide, by decide⟩, .inl ⟨_, _, rfl, rfl, .inl ⟨_, _, rfl, rfl, _, _, rfl, rfl, (by show (0 : Int) < 2147483629; decide), ?_⟩⟩⟩⟩⟩
      dsimp only
      generalize hX : ((ns[k] + (0 + ((i : Nat) : Int)) / _ * _) * 48271 + (0 + ((i : Nat) : Int)) * 69621 + 11) = X
      have m1 := Int.emod_nonneg X (show (2147483629 : Int) ≠ 0 by decide)
      have m2 := Int.emod_lt_of_pos X (show (0 : Int) < 2147483629 by decide)
      generalize X % 2147483629 = m at m1 m2 ⊢
      refine ⟨_, rfl, _, rfl, .inl ⟨_, _, rfl, rfl, .inl ⟨by omega, by omega⟩, _, _, rfl, rfl, (by show (0 : Int) < 2147483587; decide), ?_⟩⟩
      dsimp only
      have m3 := Int.emod_nonneg (m * m) (show (2147483587 : Int) ≠ 0 by decide)
      have m4 := Int.emod_lt_of_pos (m * m) (show (0 : Int) < 2147483587 by decide)
      generalize m * m % 2147483587 = v at m3 m4 ⊢
      refine ⟨_, rfl, .inl ⟨_, _, rfl, rfl, .inl ⟨by omega, by omega⟩, _, rfl, _, rfl, .inl ⟨_, _, rfl, rfl, .inl ⟨by omega, by omega⟩, _, _, rfl, rfl, (by show (0 : Int) < 2147483563; decide), .inl ⟨_, _, rfl, rfl, ?_⟩⟩⟩⟩
      refine ⟨_, rfl, .inl ⟨rfl, _, SqL.of upd_same⟩, _, rfl, p, _, _, rfl, rfl, upd_same, hlen, ?_⟩
      exact fin _ none
    · refine ⟨_, rfl, .inl ⟨rfl, _, SqL.of upd_same⟩, _, rfl, p, _, _, rfl, rfl, upd_same, hlen, ?_⟩
      exact fin _ none
  · rintro σ H2 ⟨ms, z1, z2, rfl, hm, rfl⟩
    refine ⟨_, rfl, _, .new hp (same_new hp) upd_same trivial, q p ms hp ?_⟩
    split at hm <;> omega
theorem seq0 {n : Nat} (h : 0 < n) : seqIndex? 0 n = some 0 := by
  obtain ⟨j, h1, h2, _⟩ := atI_get (xs := List.range n) (i := 0) (v := 0) (atI_nat (j := 0) (by rw [List.getElem?_range h]))
  rw [List.length_range] at h1
  rw [List.getElem?_eq_some_iff] at h2
  obtain ⟨_, z⟩ := h2
  rw [List.getElem_range] at z
  rw [h1, z]
def spNext : Sp := fun vs H Q _ => ∃ p, vs = [.ref p] ∧ Pool p H ∧ ∀ (c : Int) (ns : List Int), ns.length ≤ 90 → Q (.int c) (upd H p (.lst (ns.map V.int)))
theorem ok_law_next {f : Addr} {fd : FuncData} (nb : NB mg) (F : FunAt K mg "_law_next" s_law_next ["_law_pool_here"] f fd) : DefOk P w K mg base 1 "_law_next" ["_law_pool_here"] spNext := by
  refine F.ok sc_law_next (fun vs H Q E h => ?_) (fun cdv A outer s H vs Q E hr h => ?_)
  · obtain ⟨_, rfl, _⟩ := h; rfl
  obtain ⟨p, rfl, ⟨ns, hp, hl⟩, q⟩ := h
  refine ⟨_, (pss_cons (ps_if (pt_cmpR oEq (pe_callB call_len rfl nb.len_ bo_len (pa_cons (pv 0) pa_nil)) pe_int (nomark _)) (pss_one (ps_ret pe_int)) pss_nil)
    (pss_one (ps_ret (pe_bm PySem.F.plainAttrs_list PySem.F.slot_list_pop PySem.F.type_list_pop mt_popAt (pv 0) (pa_cons pe_int pa_nil))))), ?_⟩
  refine ⟨_, rfl, _, _, rfl, .inl ⟨_, SqL.of hp, rfl⟩, rfl, _, rfl, ?_⟩
  rw [List.length_map]
  refine iteD (fun c0 => ?_) (fun c0 => ?_)
  · have h0 := q 0 ns hl
    rw [upd_self' hp] at h0
    exact ⟨H, .refl (Same.refl _), h0⟩
  · cases ns with
    | nil => exact absurd rfl c0
    | cons c r =>
      refine ⟨_, rfl, .inl ⟨rfl, _, SqL.of hp⟩, p, _, 0, 0, .int c, rfl, rfl, hp, by decide, by decide, seq0 (by rw [List.length_map]; exact Nat.succ_pos _), rfl, ?_⟩
      have hl' : r.length ≤ 90 := Nat.le_trans (Nat.le_succ _) hl
      exact ⟨_, (Grow.pop ⟨_, hp, hl⟩ hl').sub, q c r hl'⟩
def spSigns : Sp := fun vs H Q _ => ∃ c : Int, vs = [.int c] ∧ ∀ s : Str, goodText s = true → s.length ≤ 60 → Q (.str s) H
theorem ok_law_signs {f : Addr} {fd : FuncData} (nb : NB mg) (F : FunAt K mg "_law_signs" s_law_signs ["_law_cell"] f fd) : DefOk P w K mg base 1 "_law_signs" ["_law_cell"] spSigns := by
  refine F.ok sc_law_signs (fun vs H Q E h => ?_) (fun cdv A outer s H vs Q E hr h => ?_)
  · obtain ⟨_, rfl, _⟩ := h; rfl
  obtain ⟨c, rfl, q⟩ := h
  refine ⟨_, (pss_cons (ps_set (i := 1) sc_law_signs.nd rfl (by first | exact Or.inl rfl | exact Or.inr rfl) pe_str)
    (pss_cons (ps_set (i := 2) sc_law_signs.nd rfl (by first | exact Or.inl rfl | exact Or.inr rfl) (pe_op oAdd pe_int (pe_op op_mod (pv 0) (pe_ix iAll (pe_lst (pa_cons pe_int (pa_cons pe_int (pa_cons pe_int (pa_cons pe_int pa_nil))))) (pe_op op_mod (pe_op op_fdiv (pv 0) pe_int) pe_int) (fun _ _ => rfl)))))
    (pss_cons (ps_set (i := 3) sc_law_signs.nd rfl (by first | exact Or.inl rfl | exact Or.inr rfl) (pe_op op_fdiv (pv 0) pe_int))
    (pss_cons (ps_set (i := 4) sc_law_signs.nd rfl (by first | exact Or.inl rfl | exact Or.inr rfl) pe_str)
    (pss_cons (ps_for PassesOwn.never rfl (pi_range1 rfl nb.range_ (pa_cons (pv 2) pa_nil)) (pg_name (i := 5) sc_law_signs.nd rfl (by first | exact Or.inl rfl | exact Or.inr rfl))
      (pss_cons (ps_set (i := 6) sc_law_signs.nd rfl (by first | exact Or.inl rfl | exact Or.inr rfl) (pe_op op_mod (pv 3) (pe_callB call_len rfl nb.len_ bo_len (pa_cons (pv 1) pa_nil))))
      (pss_cons (ps_set (i := 3) sc_law_signs.nd rfl (by first | exact Or.inl rfl | exact Or.inr rfl) (pe_op op_fdiv (pv 3) (pe_callB call_len rfl nb.len_ bo_len (pa_cons (pv 1) pa_nil))))
      (pss_cons (ps_set (i := 4) sc_law_signs.nd rfl (by first | exact Or.inl rfl | exact Or.inr rfl) (pe_op oAdd (pv 4) (pe_ix iAll (pv 1) (pv 6) (fun _ _ => rfl))))
      (pss_one (ps_set (i := 1) sc_law_signs.nd rfl (by first | exact Or.inl rfl | exact Or.inr rfl) (pe_op oAdd (pe_slice slAll (pv 1) po_none (po_some (pv 6))) (pe_slice slAll (pv 1) (po_some (pe_op oAdd (pv 6) pe_int)) po_none))))))))
    (pss_one (ps_ret (pv 4)))))))), ?_⟩
  refine ⟨_, rfl, (by show 4 ≤ sizeLine; decide), fun g hg => ?_⟩
  obtain ⟨x, hx, hx1⟩ := atI_modG V.int [2, 3, 7, 60] (c / 60) 4 rfl (by show 0 < 4; decide)
  have hxb : 0 < x ∧ x ≤ 60 := by
    have : ∀ y ∈ ([2, 3, 7, 60] : List Int), 0 < y ∧ y ≤ 60 := by decide
    exact this x hx
  refine ⟨_, rfl, _, _, rfl, rfl, ⟨by decide, by decide⟩, _, _, rfl, rfl, (by show (0 : Int) < 4; decide), .inl (.inl ⟨_, _, _, _, rfl, rfl, SqL.of upd_same, hx1, _, _, rfl, rfl, hxb.1, .inl ⟨_, _, rfl, rfl, ?_⟩⟩)⟩
  have v0 := Int.emod_nonneg c (show x ≠ 0 by omega)
  have v1 := Int.emod_lt_of_pos c hxb.1
  generalize c % x = m at v0 v1 ⊢
  obtain ⟨n, rfl⟩ := Int.eq_ofNat_of_zero_le v0
  refine ⟨_, rfl, _, _, rfl, rfl, ⟨by decide, by decide⟩, ?_⟩
  refine ⟨_, rfl, _, rfl, by omega, by omega, ?_⟩
  have en : (1 + ((n : Nat) : Int)).toNat = n + 1 := by omega
  rw [en]
  refine for_range (fun i σ H2 => Same H H2 ∧ ∃ (rest found : Str) (num : Int) (z1 z2 z3 : Option V), σ = [some (.int c), some (.str rest), z3, some (.int num), some (.str found), z1, z2] ∧ rest.length = 62 - i ∧ found.length = i ∧ (found.cps.toList ++ rest.cps.toList).Perm L62.cps.toList) ?_ ?_ ?_
  · refine ⟨same_new hg, L62, Str.ofString "", c / 240, none, none, _, rfl, L62_len, by decide +kernel, ?_⟩
    rw [show (Str.ofString "").cps.toList = [] by decide +kernel]
    exact List.Perm.refl _
  · rintro i σ H2 hi ⟨hs, rest, found, num, z1, z2, z3, rfl, hl, hf, hp⟩
    have lr : rest.length ≤ sizeLine := small5 (by omega)
    obtain ⟨k, hk, ek⟩ := mod_nat num rest.length (by omega)
    obtain ⟨sg, hat, ecut⟩ := slice_cut hk
    have b1 := slice_len_to rest k (by omega)
    have b2 := slice_len_from rest (k + 1) (by omega)
    refine ⟨_, rfl, _, rfl, _, _, rfl, ⟨lr, rfl⟩, _, _, rfl, rfl, (by omega), ?_⟩
    dsimp only
    rw [ek]
    refine ⟨_, rfl, _, rfl, _, _, rfl, ⟨lr, rfl⟩, _, _, rfl, rfl, ⟨by omega, by omega⟩, ?_⟩
    refine ⟨_, rfl, _, rfl, _, rfl, .inr ⟨_, _, _, rfl, rfl, lr, hat, .inr ⟨_, _, rfl, rfl, small5 (by show _ + 1 ≤ _; omega), ?_⟩⟩⟩
    have e1 : ((k : Nat) : Int) + 1 = ((k + 1 : Nat) : Int) := by omega
    refine ⟨_, rfl, _, rfl, _, rfl, .inr ⟨_, rfl, lr, _, rfl, _, rfl, .inl ⟨_, _, rfl, rfl, _, rfl, .inr ⟨_, rfl, lr, .inr ⟨_, _, rfl, rfl, ?_, ?_⟩⟩⟩⟩⟩
    · rw [b1, e1, b2]; exact small5 (by omega)
    · rw [e1]
      refine ⟨hs, _, _, _, _, _, _, rfl, ?_, ?_, ?_⟩
      · rw [app_len, b1, b2]; omega
      · rw [app_len, hf]; rfl
      · rw [app_cps, app_cps]
        exact (perm_move ecut).trans hp
  · rintro σ H2 ⟨hs, rest, found, num, z1, z2, z3, rfl, hl, hf, hp⟩
    exact ⟨_, rfl, H, .refl hs, q _ (good_found hp (by omega) (by omega)) (by omega)⟩
def spNames : Sp := fun vs H Q _ => ∃ (c : Int) (m : Nat), vs = [.int c, .int ((m : Nat) : Int)] ∧ 0 < m ∧ m ≤ 20 ∧ ∀ (D : Addr) (ns : List Str), H D = none → ns.length = m → goodNames ns = true → Q (.ref D) (upd H D (.lst (ns.map V.str)))
theorem ok_law_names {f : Addr} {fd : FuncData} (nb : NB mg) (F : FunAt K mg "_law_names" s_law_names ["_law_cell", "_law_many"] f fd) : DefOk P w K mg base 1 "_law_names" ["_law_cell", "_law_many"] spNames := by
  refine F.ok sc_law_names (fun vs H Q E h => ?_) (fun cdv A outer s H vs Q E hr h => ?_)
  · obtain ⟨_, _, rfl, _⟩ := h; rfl
  obtain ⟨c, m, rfl, hm0, hm, q⟩ := h
  refine ⟨_, (pss_cons (ps_set (i := 2) sc_law_names.nd rfl (by first | exact Or.inl rfl | exact Or.inr rfl) pe_str)
    (pss_cons (ps_set (i := 3) sc_law_names.nd rfl (by first | exact Or.inl rfl | exact Or.inr rfl) (pe_op op_mod (pv 0) pe_int))
    (pss_cons (ps_set (i := 4) sc_law_names.nd rfl (by first | exact Or.inl rfl | exact Or.inr rfl) (pe_op op_mod (pe_op op_fdiv (pv 0) pe_int) (pe_op oAdd (pv 3) pe_int)))
    (pss_cons (ps_set (i := 5) sc_law_names.nd rfl (by first | exact Or.inl rfl | exact Or.inr rfl) (pe_ix iAll (pe_lst (pa_cons pe_int (pa_cons pe_int (pa_cons pe_int (pa_cons pe_int (pa_cons pe_int (pa_cons pe_int pa_nil))))))) (pe_op op_mod (pe_op op_fdiv (pe_op op_fdiv (pv 0) pe_int) (pe_op oAdd (pv 3) pe_int)) pe_int) (fun _ _ => rfl)))
    (pss_cons (ps_set (i := 6) sc_law_names.nd rfl (by first | exact Or.inl rfl | exact Or.inr rfl) (pe_op op_fdiv (pe_op op_fdiv (pv 0) pe_int) (pe_op oAdd (pv 3) pe_int)))
    (pss_cons (ps_set (i := 7) sc_law_names.nd rfl (by first | exact Or.inl rfl | exact Or.inr rfl) (pe_op op_mod (pv 6) pe_int))
    (pss_cons (ps_set (i := 8) sc_law_names.nd rfl (by first | exact Or.inl rfl | exact Or.inr rfl) pe_str)
    (pss_cons (ps_for PassesOwn.never rfl (pi_range1 rfl nb.range_ (pa_cons (pv 3) pa_nil)) (pg_name (i := 9) sc_law_names.nd rfl (by first | exact Or.inl rfl | exact Or.inr rfl))
      (pss_cons (ps_set (i := 6) sc_law_names.nd rfl (by first | exact Or.inl rfl | exact Or.inr rfl) (pe_op op_fdiv (pv 6) pe_int))
      (pss_one (ps_set (i := 8) sc_law_names.nd rfl (by first | exact Or.inl rfl | exact Or.inr rfl) (pe_op oAdd (pv 8) (pe_ix iAll (pv 2) (pe_op op_mod (pv 6) pe_int) (fun _ _ => rfl)))))))
    (pss_one (ps_ret (pe_comp ["_law_k"] [(8, "_law_stem"), (4, "_law_at"), (2, "_law_some"), (7, "_law_first"), (5, "_law_step")] rfl (by decide +kernel) ⟨rfl, .inl rfl, rfl, .inl rfl, rfl, .inl rfl, rfl, .inl rfl, rfl, .inl rfl, trivial⟩ (pi_range1 rfl nb.range_ (pa_cons (pv 1) pa_nil)) (fun _ _ _ _ _ => (pg_name (i := 0) (show (["_law_k", "_law_stem", "_law_at", "_law_some", "_law_first", "_law_step"] : List Str).Nodup by decide +kernel) rfl (by first | exact Or.inl rfl | exact Or.inr rfl))) (fun _ _ _ _ _ => pts_nil) (fun _ _ _ _ _ => (pe_op oAdd (pe_op oAdd (pe_slice slAll (pv 1) po_none (po_some (pv 2))) (pe_ix iAll (pv 3) (pe_op op_mod (pe_op oAdd (pv 4) (pe_op oMul (pv 0) (pv 5))) pe_int) (fun _ _ => rfl))) (pe_slice slAll (pv 1) (po_some (pv 2)) po_none)))))))))))))), ?_⟩
  obtain ⟨sz, hsz, esz'⟩ := mod_nat c 12 (by decide)
  have esz : c % 12 = ((sz : Nat) : Int) := esz'
  obtain ⟨a, ha, ea'⟩ := mod_nat (c / 12) (sz + 1) (by omega)
  have ea : c / 12 % (((sz : Nat) : Int) + 1) = ((a : Nat) : Int) := ea'
  refine ⟨_, rfl, _, _, rfl, rfl, (by show (0 : Int) < 12; decide), ?_⟩
  dsimp only
  rw [esz]
  refine ⟨_, rfl, _, _, rfl, rfl, ⟨by decide, by decide⟩, _, rfl, .inl ⟨_, _, rfl, rfl, _, _, rfl, rfl, (by omega), ?_⟩⟩
  dsimp only
  rw [ea]
  refine ⟨(by show 6 ≤ sizeLine; decide), fun g hg => ?_⟩
  obtain ⟨x, hx, hx1⟩ := atI_modG V.int [1, 3, 5, 7, 9, 11] (c / 12 / (((sz : Nat) : Int) + 1)) 6 rfl (by show 0 < 6; decide)
  have hxb : 0 < x ∧ x ≤ 11 := by
    have : ∀ y ∈ ([1, 3, 5, 7, 9, 11] : List Int), 0 < y ∧ y ≤ 11 := by decide
    exact this x hx
  refine ⟨_, rfl, _, _, rfl, rfl, ⟨by decide, by decide⟩, _, rfl, .inl ⟨_, _, rfl, rfl, _, _, rfl, rfl, ⟨by omega, by omega⟩, _, _, rfl, rfl, (by show (0 : Int) < 6; decide), .inl (.inl ⟨_, _, _, _, rfl, rfl, SqL.of upd_same, hx1, ?_⟩)⟩⟩
  refine ⟨_, rfl, _, _, rfl, rfl, ⟨by decide, by decide⟩, _, rfl, .inl ⟨_, _, rfl, rfl, _, _, rfl, rfl, ⟨by omega, by omega⟩, ?_⟩⟩
  refine ⟨_, rfl, _, _, rfl, rfl, (by show (0 : Int) < 26; decide), ?_⟩
  refine ⟨_, rfl, _, rfl, by omega, by omega, ?_⟩
  have en : (((sz : Nat) : Int)).toNat = sz := by omega
  rw [en]
  have l26 : L26.length ≤ sizeLine := by rw [L26_len]; exact small5 (by decide)
  refine for_range (fun i σ H2 => Same H H2 ∧ ∃ (stem : Str) (num fst : Int) (z1 z2 : Option V), σ = [some (.int c), some (.int ((m : Nat) : Int)), some (.str L26), z2, some (.int ((a : Nat) : Int)), some (.int x), some (.int num), some (.int fst), some (.str stem), z1] ∧ stem.length = i ∧ Tx i L26.cps.toList stem) ?_ ?_ ?_
  · refine ⟨same_new hg, Str.ofString "", _, _, none, _, rfl, by decide +kernel, by decide +kernel, fun c h => ?_⟩
    rw [show (Str.ofString "").cps.toList = [] by decide +kernel] at h
    cases h
  · rintro i σ H2 hi ⟨hs, stem, num, fst, z1, z2, rfl, hl, ht⟩
    obtain ⟨k, hk, ek'⟩ := mod_nat (num / 26) 26 (by decide)
    have ek : num / 26 % 26 = ((k : Nat) : Int) := ek'
    obtain ⟨sg, hsg, hat⟩ := at_text (x := L26) (k := k) (by rw [L26_len]; exact hk)
    refine ⟨_, rfl, _, _, rfl, rfl, ⟨by decide, by decide⟩, ?_⟩
    refine ⟨_, rfl, _, rfl, _, rfl, _, _, rfl, rfl, (by show (0 : Int) < 26; decide), .inr ⟨_, _, _, rfl, rfl, l26, (by rw [ek]; exact hat), .inr ⟨_, _, rfl, rfl, small5 (by show _ + 1 ≤ _; omega), ?_⟩⟩⟩
    exact ⟨hs, _, _, _, _, _, rfl, by rw [app_len, hl]; rfl, ht.app (Tx.one hsg)⟩
  · rintro σ H2 ⟨hs, stem, num, fst, z1, z2, rfl, hl, ht⟩
    have ls : stem.length ≤ sizeLine := small5 (by omega)
    refine ⟨_, rfl, _, rfl, by omega, by omega, fun D hD => ?_⟩
    have em : (((m : Nat) : Int)).toNat = m := by omega
    rw [em]
    have l26' : L26.cps.toList.length = 26 := by rw [Array.length_toList]; exact L26_len
    have b1 := slice_len_to stem a (by omega)
    have b2 := slice_len_from stem a (by omega)
    let ix : Nat → Nat := fun i => ((fst + (0 + ((i : Nat) : Int)) * x) % 26).toNat
    have hix : ∀ i, ix i < 26 ∧ (fst + (0 + ((i : Nat) : Int)) * x) % 26 = ((ix i : Nat) : Int) := fun i => by
      have h1 := Int.emod_nonneg (fst + (0 + ((i : Nat) : Int)) * x) (show (26 : Int) ≠ 0 by decide)
      have h2 := Int.emod_lt_of_pos (fst + (0 + ((i : Nat) : Int)) * x) (show (0 : Int) < 26 by decide)
      constructor
      · show Int.toNat _ < 26
        omega
      · show _ = ((Int.toNat _ : Nat) : Int)
        omega
    let nmf : Nat → Str := fun i => (Txt.slice stem none (some ((a : Nat) : Int)) ++ ⟨#[L26.cps.toList.getD (ix i) 0]⟩) ++ Txt.slice stem (some ((a : Nat) : Int)) none
    refine comp_all m (fun i => .int (0 + ((i : Nat) : Int))) (fun i => V.str (nmf i)) (fun σ => ∃ z, σ = [z, some (.str stem), some (.int ((a : Nat) : Int)), some (.str L26), some (.int fst), some (.int x)]) (small5 (by omega)) ⟨_, rfl⟩ ?_ ?_ ?_ ?_ ?_
    · intro i H1 hi; exact hi
    · intro H1; exact Nat.le_refl _
    · rintro i H1 y H3 hi ⟨rfl, rfl⟩; exact ⟨rfl, rfl⟩
    · rintro i σ1 H1 hi ⟨z, rfl⟩ R hR
      obtain ⟨hk, ek⟩ := hix i
      have hat : atI L26.cps.toList ((ix i : Nat) : Int) = some (L26.cps.toList.getD (ix i) 0) := atI_nat (by rw [List.getD_eq_getElem?_getD, List.getElem?_eq_getElem (by omega)]; rfl)
      have e1 : (⟨#[L26.cps.toList.getD (ix i) 0]⟩ : Str).length = 1 := rfl
      refine ⟨_, rfl, _, rfl, _, rfl, .inr ⟨_, rfl, ls, ?_⟩⟩
      refine ⟨_, rfl, _, rfl, _, rfl, _, rfl, .inl ⟨_, _, rfl, rfl, .inr ⟨by omega, by omega⟩, .inl ⟨_, _, rfl, rfl, _, _, rfl, rfl, (by show (0 : Int) < 26; decide), .inr ⟨_, _, _, rfl, rfl, l26, (by rw [ek]; exact hat), .inr ⟨_, _, rfl, rfl, small5 (by omega), ?_⟩⟩⟩⟩⟩
      refine ⟨_, rfl, _, rfl, _, rfl, .inr ⟨_, rfl, ls, .inr ⟨_, _, rfl, rfl, small5 (by rw [app_len]; omega), ?_⟩⟩⟩
      exact hR _ ⟨_, rfl⟩
    · have e : (List.range m).map (fun i => V.str (nmf i)) = ((List.range m).map nmf).map V.str := by rw [List.map_map]; rfl
      rw [e]
      have hD0 := hs.free hD
      refine ⟨_, .new hD0 (hs.trans (same_new hD)) upd_same trivial, q D ((List.range m).map nmf) hD0 (by rw [List.length_map, List.length_range]) ?_⟩
      refine goodNames_of (by rw [List.length_map, List.length_range]; omega) (by rw [List.length_map, List.length_range]; omega) ?_ ?_
      · unfold List.Nodup
        rw [List.pairwise_iff_getElem]
        intro i j hi hj hij
        rw [List.length_map, List.length_range] at hi hj
        rw [List.getElem_map, List.getElem_map, List.getElem_range, List.getElem_range]
        intro z2
        have z3 := name_eq z2
        obtain ⟨hk1, ek1⟩ := hix i
        obtain ⟨hk2, ek2⟩ := hix j
        rw [List.getD_eq_getElem?_getD, List.getD_eq_getElem?_getD, List.getElem?_eq_getElem (by omega), List.getElem?_eq_getElem (by omega)] at z3
        have z4 := (List.getElem_inj L26_nodup).mp z3
        have := step_inj (f := fst) hx (show i < 26 by omega) (show j < 26 by omega) (by rw [ek1, ek2, z4])
        omega
      · intro n hn
        obtain ⟨i, _, rfl⟩ := List.mem_map.mp hn
        obtain ⟨hk, ek⟩ := hix i
        refine isName_of ⟨?_, ?_⟩ ?_
        · show (_ ++ _ : Str).length ≤ 12
          rw [app_len, app_len, b1, b2]
          show a + 1 + _ ≤ 12
          omega
        · refine (((ht.slice none (some ((a : Nat) : Int))).app (Tx.one ?_)).app (ht.slice (some ((a : Nat) : Int)) none)).s
          rw [List.getD_eq_getElem?_getD, List.getElem?_eq_getElem (by omega)]
          exact List.getElem_mem _
        · show 0 < (_ ++ _ : Str).length
          rw [app_len, app_len]
          show 0 < _ + 1 + _
          omega

/-! ### descriptions of forms -/
def wNo : Str := Str.ofString "nothing"
def wTr : Str := Str.ofString "truth"
def wWh : Str := Str.ofString "whole"
def wSp : Str := Str.ofString "span"
def wFr : Str := Str.ofString "fraction"
def wLe : Str := Str.ofString "letters"
def wMa : Str := Str.ofString "maybe"
def wMy : Str := Str.ofString "many"
def wRe : Str := Str.ofString "record"
def wCh : Str := Str.ofString "choice"
def wTu : Str := Str.ofString "turned"
/-- a simple form, told -/
def Simp (H : Hp) (v : V) : Prop := ∃ T, v = .ref T ∧ ((∃ w, w ∈ [wNo, wTr, wWh, wFr] ∧ H T = some (.tup [.str w])) ∨ (∃ a b : Int, H T = some (.tup [.str wSp, .int a, .int b]) ∧ a ≤ b) ∨ (∃ s : Str, H T = some (.tup [.str wLe, .str s]) ∧ goodText s = true ∧ s.length ≤ 60))
def Lists (X : List Addr) (H : Hp) : Prop := ∀ x, x ∈ X → ∃ l, H x = some (.lst l)
theorem Lists.grow {X : List Addr} {p : Addr} {H H' : Hp} (h : Lists X H) (g : Grow p H H') : Lists X H' := fun x hx => by
  by_cases z : x = p
  · subst z
    obtain ⟨ns, e, _⟩ := g.l
    exact ⟨_, e⟩
  · obtain ⟨l, e⟩ := h x hx
    exact ⟨l, g.k _ _ z e⟩
def spSimple : Sp := fun vs H Q _ => ∃ (p : Addr) (way : Nat), vs = [.ref p, .int ((way : Nat) : Int)] ∧ way < 6 ∧ Pool p H ∧ ∀ v H', Grow p H H' → Simp H' v → Q v H'
theorem ok_law_simple {f : Addr} {fd : FuncData} (F : FunAt K mg "_law_simple" s_law_simple ["_law_pool_here", "_law_way"] f fd) (D_law_next : DefOk P w K mg base 1 "_law_next" ["_law_pool_here"] spNext) (D_law_signs : DefOk P w K mg base 1 "_law_signs" ["_law_cell"] spSigns) : DefOk P w K mg base 2 "_law_simple" ["_law_pool_here", "_law_way"] spSimple := by
  refine F.ok sc_law_simple (fun vs H Q E h => ?_) (fun cdv A outer s H vs Q E hr h => ?_)
  · obtain ⟨_, _, rfl, _⟩ := h; rfl
  obtain ⟨p, way, rfl, hw, hP, q⟩ := h
  refine ⟨_, (pss_cons (ps_if (pt_cmpR oEq (pv 1) pe_int (nomark _)) (pss_cons (ps_set (i := 2) sc_law_simple.nd rfl (by first | exact Or.inl rfl | exact Or.inr rfl) (pe_op oSub (pe_op op_mod (pe_callD D_law_next hr (pa_cons (pv 0) pa_nil)) (pe_op op_pow pe_int pe_int)) (pe_op op_pow pe_int pe_int)))
      (pss_cons (ps_set (i := 3) sc_law_simple.nd rfl (by first | exact Or.inl rfl | exact Or.inr rfl) (pe_callD D_law_next hr (pa_cons (pv 0) pa_nil)))
      (pss_one (ps_ret (pe_tup (pa_cons pe_str (pa_cons (pv 2) (pa_cons (pe_op oAdd (pv 2) (pe_op op_mod (pe_op op_fdiv (pv 3) pe_int) (pe_ix iAll (pe_lst (pa_cons pe_int (pa_cons pe_int (pa_cons pe_int (pa_cons (pe_op op_pow pe_int pe_int) pa_nil))))) (pe_op op_mod (pv 3) pe_int) (fun _ _ => rfl)))) pa_nil)))))))) pss_nil)
    (pss_cons (ps_if (pt_cmpR oEq (pv 1) pe_int (nomark _)) (pss_one (ps_ret (pe_tup (pa_cons pe_str (pa_cons (pe_callD D_law_signs hr (pa_cons (pe_callD D_law_next hr (pa_cons (pv 0) pa_nil)) pa_nil)) pa_nil))))) pss_nil)
    (pss_one (ps_ret (pe_tup (pa_cons (pe_ix iAll (pe_lst (pa_cons pe_str (pa_cons pe_str (pa_cons pe_str (pa_cons pe_str (pa_cons pe_str pa_nil)))))) (pv 1) (fun _ _ => rfl)) pa_nil)))))), ?_⟩
  refine ⟨_, rfl, rfl, _, rfl, iteD (fun c3 => ?_) (fun c3 => ?_)⟩
  · refine ⟨_, rfl, p, rfl, hP, fun c0 n1 hn1 => ?_⟩
    have G1 := Grow.pop hP hn1
    have pw : ∀ n : Int, n = 57 ∨ n = 56 → CPow 10 n := fun n hn => by rcases hn with rfl | rfl <;> (refine ⟨?_, ?_, ?_⟩ <;> decide)
    have p57 : (0 : Int) < 10 ^ Int.toNat 57 := by decide +kernel
    refine ⟨_, _, rfl, rfl, pw _ (.inl rfl), _, _, rfl, rfl, p57, _, _, rfl, rfl, pw _ (.inr rfl), _, _, rfl, rfl, ?_⟩
    dsimp only
    generalize c0 % 10 ^ Int.toNat 57 - 10 ^ Int.toNat 56 = low
    refine ⟨_, rfl, p, rfl, G1.l, fun c n2 hn2 => ?_⟩
    have G2 := G1.trans (Grow.pop G1.l hn2)
    generalize upd (upd H p (.lst (n1.map V.int))) p (.lst (n2.map V.int)) = H2 at G2 ⊢
    refine ⟨_, rfl, _, rfl, _, rfl, _, _, rfl, rfl, ⟨by decide, by decide⟩, _, _, rfl, rfl, pw _ (.inl rfl), (by show 4 ≤ sizeLine; decide), fun g hg => ?_⟩
    obtain ⟨x, hx, hx1⟩ := atI_modG V.int [1, 5, 300, 10 ^ Int.toNat 57] c 4 rfl (by show 0 < 4; decide)
    have hxb : 0 < x := by
      have : ∀ y ∈ ([1, 5, 300, 10 ^ Int.toNat 57] : List Int), 0 < y := by decide +kernel
      exact this x hx
    refine ⟨_, rfl, _, _, rfl, rfl, (by show (0 : Int) < 4; decide), .inl (.inl ⟨_, _, _, _, rfl, rfl, SqL.of upd_same, hx1, _, _, rfl, rfl, hxb, .inl ⟨_, _, rfl, rfl, (by show 3 ≤ sizeLine; decide), fun T hT => ?_⟩⟩)⟩
    have b1 := Int.emod_nonneg (c / 4) (show x ≠ 0 by omega)
    have G3 := (G2.ext (Ext.lst hg)).ext (Ext.tup (xs := [V.str wSp, .int low, .int (low + c / 4 % x)]) hT)
    exact ⟨_, G3.sub, q _ _ G3 ⟨T, rfl, .inr (.inl ⟨low, _, upd_same, by omega⟩)⟩⟩
  · refine ⟨_, rfl, rfl, _, rfl, iteD (fun c5 => ?_) (fun c5 => ?_)⟩
    · refine ⟨_, rfl, p, rfl, hP, fun c0 n1 hn1 => ?_⟩
      have G1 := Grow.pop hP hn1
      refine ⟨c0, rfl, fun sg hg hl => ⟨two_ok, fun T hT => ?_⟩⟩
      have G3 := G1.ext (Ext.tup (xs := [V.str wLe, .str sg]) hT)
      exact ⟨_, G3.sub, q _ _ G3 ⟨T, rfl, .inr (.inr ⟨sg, upd_same, hg, hl⟩)⟩⟩
    · have hw' : way ≠ 3 ∧ way ≠ 5 := ⟨fun z => c3 (by rw [z]; rfl), fun z => c5 (by rw [z]; rfl)⟩
      obtain ⟨w', hw1, hw2⟩ : ∃ w', w' ∈ [wNo, wTr, wWh, wFr] ∧ atI ([wNo, wTr, wWh, wSp, wFr].map V.str) ((way : Nat) : Int) = some (.str w') := by
        have : way = 0 ∨ way = 1 ∨ way = 2 ∨ way = 4 := by omega
        rcases this with rfl | rfl | rfl | rfl
        · exact ⟨wNo, by simp, atI_nat (j := 0) rfl⟩
        · exact ⟨wTr, by simp, atI_nat (j := 1) rfl⟩
        · exact ⟨wWh, by simp, atI_nat (j := 2) rfl⟩
        · exact ⟨wFr, by simp, atI_nat (j := 4) rfl⟩
      refine ⟨(by show 5 ≤ sizeLine; decide), fun g hg => ⟨_, rfl, .inl (.inl ⟨_, _, _, _, rfl, rfl, SqL.of upd_same, hw2, (by show 1 ≤ sizeLine; decide), fun T hT => ?_⟩)⟩⟩
      have G3 := ((Grow.refl hP).ext (Ext.lst hg)).ext (Ext.tup (xs := [V.str w']) hT)
      exact ⟨_, G3.sub, q _ _ G3 ⟨T, rfl, .inl ⟨w', hw1, upd_same⟩⟩⟩

/-! ### k23: forms told as values -/
def wdB (k : Fin 4) : Str := [wNo, wTr, wWh, wFr].getD k.val wNo
def wdO (k : Fin 3) : Str := [wMa, wMy, wTu].getD k.val wMa
def wdT (k : Fin 2) : Str := [wRe, wCh].getD k.val wRe
mutual
def dsc : Fm → D
  | .bare k => .tup [.str (wdB k)]
  | .sp a b => .tup [.str wSp, .int a, .int b]
  | .le s => .tup [.str wLe, .str s]
  | .one k f => .tup [.str (wdO k), dsc f]
  | .two k ns fs => .tup [.str (wdT k), .lst (dscs fs ns)]
def dscs : List Fm → List Str → List D
  | [], _ => []
  | f :: fs, ns => .tup [.str (ns.headD Str.empty), dsc f] :: dscs fs ns.tail
end
mutual
def okG : Fm → Prop
  | .bare _ => True
  | .sp a b => a ≤ b
  | .le s => goodText s = true ∧ s.length ≤ 60
  | .one _ f => okG f
  | .two _ ns fs => goodNames ns = true ∧ ns.length = fs.length ∧ okGs fs
def okGs : List Fm → Prop
  | [] => True
  | f :: fs => okG f ∧ okGs fs
end
mutual
def sz : Fm → Nat
  | .bare _ => 1
  | .sp _ _ => 1
  | .le _ => 1
  | .one _ f => sz f + 1
  | .two _ _ fs => szs fs + 1
def szs : List Fm → Nat
  | [] => 0
  | f :: fs => sz f + szs fs
end
theorem dscs_len : ∀ (fs : List Fm) (ns : List Str), (dscs fs ns).length = fs.length
  | [], ns => by rw [dscs]; rfl
  | f :: fs, ns => by rw [dscs, List.length_cons, dscs_len fs ns.tail, List.length_cons]
theorem dscs_snoc (n : Str) (f : Fm) : ∀ (fs : List Fm) (ns : List Str), ns.length = fs.length → dscs (fs ++ [f]) (ns ++ [n]) = dscs fs ns ++ [.tup [.str n, dsc f]]
  | [], ns, h => by
    obtain rfl := List.eq_nil_of_length_eq_zero (by simpa using h)
    show dscs [f] [n] = dscs [] [] ++ _
    rw [dscs, dscs, dscs]; rfl
  | g :: fs, [], h => by cases h
  | g :: fs, m :: ns, h => by
    show dscs (g :: (fs ++ [f])) (m :: (ns ++ [n])) = dscs (g :: fs) (m :: ns) ++ _
    rw [dscs, dscs]
    show _ :: dscs (fs ++ [f]) (ns ++ [n]) = _ :: dscs fs ns ++ _
    rw [dscs_snoc n f fs ns (by simpa using h)]; rfl
theorem okGs_snoc {f : Fm} (h : okG f) : ∀ {fs : List Fm}, okGs fs → okGs (fs ++ [f])
  | [], _ => by show okGs [f]; rw [okGs, okGs]; exact ⟨h, trivial⟩
  | g :: fs, hs => by
    rw [okGs] at hs
    show okGs (g :: (fs ++ [f]))
    rw [okGs]
    exact ⟨hs.1, okGs_snoc h hs.2⟩
theorem hts_snoc {f : Fm} {n : Nat} (h : ht f ≤ n) : ∀ {fs : List Fm}, hts fs ≤ n → hts (fs ++ [f]) ≤ n
  | [], _ => by show hts [f] ≤ n; rw [hts, hts]; omega
  | g :: fs, hs => by
    rw [hts] at hs
    show hts (g :: (fs ++ [f])) ≤ n
    rw [hts]
    have := hts_snoc h (fs := fs) (by omega)
    omega
theorem szs_snoc (f : Fm) : ∀ fs : List Fm, szs (fs ++ [f]) = szs fs + sz f
  | [] => by show szs [f] = szs [] + _; simp only [szs]; omega
  | g :: fs => by
    show szs (g :: (fs ++ [f])) = szs (g :: fs) + _
    rw [szs, szs, szs_snoc f fs]; omega
theorem Lists.no {X : List Addr} {H : Hp} (hX : Lists X H) {T : Addr} {xs : List V} (e : H T = some (.tup xs)) : T ∉ X := fun z => by obtain ⟨l, h⟩ := hX T z; rw [h] at e; cases e
theorem wdB_len : ∀ k : Fin 4, (wdB k).length ≤ 100000 := by decide +kernel
theorem wdO_len : ∀ k : Fin 3, (wdO k).length ≤ 100000 := by decide +kernel
theorem wdT_len : ∀ k : Fin 2, (wdT k).length ≤ 100000 := by decide +kernel
theorem wdB_ex : ∀ w, w ∈ [wNo, wTr, wWh, wFr] → ∃ k, w = wdB k := fun w h => by
  rcases (show w = wNo ∨ w = wTr ∨ w = wWh ∨ w = wFr by simpa using h) with rfl | rfl | rfl | rfl
  · exact ⟨0, rfl⟩
  · exact ⟨1, rfl⟩
  · exact ⟨2, rfl⟩
  · exact ⟨3, rfl⟩
theorem Simp.dx {X : List Addr} {H : Hp} {v : V} (hX : Lists X H) (h : Simp H v) : ∃ f, DX X H (dsc f) v ∧ okG f ∧ ht f = 1 ∧ sz f = 1 := by
  obtain ⟨T, rfl, ⟨w, hw, e⟩ | ⟨a, b, e, h⟩ | ⟨s, e, h1, h2⟩⟩ := h
  · obtain ⟨k, rfl⟩ := wdB_ex w hw
    exact ⟨.bare k, by rw [dsc]; exact ⟨T, _, rfl, hX.no e, e, ⟨_, _, rfl, ⟨rfl, wdB_len k⟩, rfl⟩, by simp⟩, by rw [okG]; trivial, by rw [ht], by rw [sz]⟩
  · exact ⟨.sp a b, by rw [dsc]; exact ⟨T, _, rfl, hX.no e, e, ⟨_, _, rfl, ⟨rfl, by decide +kernel⟩, _, _, rfl, rfl, _, _, rfl, rfl, rfl⟩, by simp⟩, by rw [okG]; exact h, by rw [ht], by rw [sz]⟩
  · exact ⟨.le s, by rw [dsc]; exact ⟨T, _, rfl, hX.no e, e, ⟨_, _, rfl, ⟨rfl, by decide +kernel⟩, _, _, rfl, ⟨rfl, by omega⟩, rfl⟩, by simp⟩, by rw [okG]; exact ⟨h1, h2⟩, by rw [ht], by rw [sz]⟩
theorem DX.grow {X : List Addr} {p : Addr} {H H' : Hp} (hp : p ∈ X) (g : Grow p H H') {d : D} {v : V} (h : DX X H d v) : DX X H' d v :=
  DX.keep (fun b u nb e => g.k b u (fun z => nb (by rw [z]; exact hp)) e) d h
/-- a form, told, its bounds -/
structure Tld (X : List Addr) (H : Hp) (f : Fm) (v : V) (n m : Nat) : Prop where
  d : DX X H (dsc f) v
  o : okG f
  h : ht f ≤ n
  s : sz f ≤ m
def spForm (d : Nat) : Sp := fun vs H Q _ => ∃ (p : Addr) (deep : Nat) (X : List Addr), vs = [.ref p, .int ((deep : Nat) : Int)] ∧ deep < d ∧ Pool p H ∧ p ∈ X ∧ Lists X H ∧ ∀ v H' f, Grow p H H' → Tld X H' f v (deep + 1) (20 * deep + 1) → Q v H'
/-- the parts told so far -/
structure Inn (X : List Addr) (l : Addr) (d m : Nat) (H : Hp) (ns : List Str) (i : Nat) (fs : List Fm) (vs : List V) : Prop where
  ls : H l = some (.lst vs)
  ds : DsX (l :: X) H (dscs fs (ns.take i)) vs
  ln : fs.length = i
  ok : okGs fs
  ht : hts fs ≤ d
  sz : szs fs ≤ m
theorem Inn.step {X : List Addr} {p l T : Addr} {d m e k i : Nat} {H2 H' : Hp} {ns : List Str} {n : Str} {f : Fm} {v : V} {fs : List Fm} {vs : List V} (I : Inn X l d m H2 ns i fs vs) (hX : Lists (l :: X) H2) (hp : p ∈ X) (hlp : l ≠ p) (g : Grow p H2 H') (hv : Tld (l :: X) H' f v e k) (he : e ≤ d) (hT : H' T = none) (hn : ns[i]? = some n) (hn2 : n.length ≤ 100) :
    Inn X l d (m + k) (upd (upd H' T (.tup [.str n, v])) l (.lst (vs ++ [V.ref T]))) ns (i + 1) (fs ++ [f]) (vs ++ [V.ref T]) ∧ Lists (l :: X) (upd (upd H' T (.tup [.str n, v])) l (.lst (vs ++ [V.ref T]))) ∧
    (∀ b u, b ∉ l :: X → H' b = some u → upd (upd H' T (.tup [.str n, v])) l (.lst (vs ++ [V.ref T])) b = some u) := by
  have hX' := hX.grow g
  have k2 : ∀ b u, b ∉ l :: X → H' b = some u → upd (upd H' T (.tup [.str n, v])) l (.lst (vs ++ [V.ref T])) b = some u := fun b u nb e => by
    rw [upd_ne (fun z => nb (by rw [z]; exact List.mem_cons_self ..)), upd_ne (ne_of_none e hT)]; exact e
  have nTX : T ∉ l :: X := fun z => by
    obtain ⟨y, hy⟩ := hX' T z
    rw [hT] at hy; cases hy
  have nTl : T ≠ l := fun z => nTX (by rw [z]; exact List.mem_cons_self ..)
  have hi : i < ns.length := by
    rcases Nat.lt_or_ge i ns.length with z | z
    · exact z
    · rw [List.getElem?_eq_none z] at hn; cases hn
  refine ⟨⟨upd_same, ?_, by rw [List.length_append, I.ln]; rfl, okGs_snoc hv.o I.ok, hts_snoc (by have := hv.h; omega) I.ht, ?_⟩, ?_, k2⟩
  · rw [List.take_add_one, hn]
    show DsX _ _ (dscs (fs ++ [f]) (ns.take i ++ [n])) _
    rw [dscs_snoc n f fs _ (by rw [List.length_take, I.ln]; omega)]
    have eT : upd (upd H' T (.tup [.str n, v])) l (.lst (vs ++ [V.ref T])) T = some (.tup [.str n, v]) := by rw [upd_ne nTl, upd_same]
    have hd : DX (l :: X) (upd (upd H' T (.tup [.str n, v])) l (.lst (vs ++ [V.ref T]))) (.tup [.str n, dsc f]) (.ref T) := ⟨T, _, rfl, nTX, eT, ⟨_, _, rfl, ⟨rfl, by omega⟩, _, _, rfl, DX.keep k2 _ hv.d, rfl⟩, by simp⟩
    exact DsX.snoc hd _ (DsX.keep k2 _ (DsX.keep (fun b u nb e => g.k b u (fun z => nb (by rw [z]; exact List.mem_cons_of_mem _ hp)) e) _ I.ds))
  · rw [szs_snoc]; have := hv.s; have := I.sz; omega
  · intro x hx
    by_cases z : x = l
    · subst z; exact ⟨_, upd_same⟩
    · obtain ⟨y, hy⟩ := hX' x hx
      exact ⟨y, by rw [upd_ne z, upd_ne (ne_of_none hy hT)]; exact hy⟩
set_option maxHeartbeats 4000000 in
theorem step_law_form23 {f : Addr} {fd : FuncData} {d : Nat} (nb : NB mg) (F : FunAt K mg "_law_form" s_law_form ["_law_pool_here", "_law_deep"] f fd) (D_law_next : DefOk P w K mg base 1 "_law_next" ["_law_pool_here"] spNext) (D_law_names : DefOk P w K mg base 1 "_law_names" ["_law_cell", "_law_many"] spNames) (D_law_simple : DefOk P w K mg base 2 "_law_simple" ["_law_pool_here", "_law_way"] spSimple)
    (D_law_form : DefOk P w K mg base (d + 3) "_law_form" ["_law_pool_here", "_law_deep"] (spForm d)) : DefOk P w K mg base (d + 3 + 1) "_law_form" ["_law_pool_here", "_law_deep"] (spForm (d + 1)) := by
  refine F.ok sc_law_form (fun vs H Q E h => ?_) (fun cdv A outer s H vs Q E hr h => ?_)
  · obtain ⟨_, _, _, rfl, _⟩ := h; rfl
  obtain ⟨p, deep, X, rfl, hd, hP, hpX, hX, q⟩ := h
  refine ⟨_, (pss_cons (ps_set (i := 2) sc_law_form.nd rfl (by first | exact Or.inl rfl | exact Or.inr rfl) (pe_callD D_law_next hr (pa_cons (pv 0) pa_nil) (hk := by omega)))
    (pss_cons (ps_set (i := 3) sc_law_form.nd rfl (by first | exact Or.inl rfl | exact Or.inr rfl) (pe_op op_mod (pv 2) pe_int))
    (pss_cons (ps_if (pt_cmpR oEq (pv 1) pe_int (nomark _)) (pss_one (ps_set (i := 3) sc_law_form.nd rfl (by first | exact Or.inl rfl | exact Or.inr rfl) (pe_op op_mod (pv 2) pe_int))) pss_nil)
    (pss_cons (ps_if (pt_cmpR oLt (pv 3) pe_int (nomark _)) (pss_one (ps_ret (pe_callD D_law_simple hr (pa_cons (pv 0) (pa_cons (pv 3) pa_nil)) (hk := by omega)))) pss_nil)
    (pss_cons (ps_if (PW.pt (pw_or (pt_cmpR oEq (pv 3) pe_int (nomark _)) (pw_or1 (pt_cmpR oEq (pv 3) pe_int (nomark _))))) (pss_cons (ps_set (i := 4) sc_law_form.nd rfl (by first | exact Or.inl rfl | exact Or.inr rfl) (pe_op oAdd pe_int (pe_op op_mod (pe_op op_fdiv (pv 2) pe_int) pe_int)))
      (pss_cut (ps_if (PW.pt (pw_and (pt_cmpR oEq (pv 1) pe_int (nomark _)) (pw_and1 (pt_cmpR oEq (pe_op op_mod (pe_op op_fdiv (pv 2) pe_int) pe_int) pe_int (nomark _))))) (pss_one (ps_set (i := 4) sc_law_form.nd rfl (by first | exact Or.inl rfl | exact Or.inr rfl) (pe_op oAdd pe_int (pe_op op_mod (pe_op op_fdiv (pv 2) pe_int) pe_int)))) pss_nil)
      (pss_cons (ps_set (i := 5) sc_law_form.nd rfl (by first | exact Or.inl rfl | exact Or.inr rfl) (pe_callD D_law_names hr (pa_cons (pe_callD D_law_next hr (pa_cons (pv 0) pa_nil) (hk := by omega)) (pa_cons (pv 4) pa_nil)) (hk := by omega)))
      (pss_cons (ps_set (i := 6) sc_law_form.nd rfl (by first | exact Or.inl rfl | exact Or.inr rfl) (pe_lst pa_nil))
      (pss_cut (ps_set (i := 7) sc_law_form.nd rfl (by first | exact Or.inl rfl | exact Or.inr rfl) (pe_and (pe_cmpR oLt (pv 4) pe_int (nomark _)) (pe_one (pe_cmpR oEq (pe_op op_mod (pe_op op_fdiv (pv 2) pe_int) pe_int) pe_int (nomark _)))))
      (pss_cons (ps_set (i := 8) sc_law_form.nd rfl (by first | exact Or.inl rfl | exact Or.inr rfl) pe_non)
      (pss_cons (ps_for PassesOwn.never rfl (pi_range1 rfl nb.range_ (pa_cons (pv 4) pa_nil)) (pg_name (i := 9) sc_law_form.nd rfl (by first | exact Or.inl rfl | exact Or.inr rfl))
        (pss_cons (ps_set (i := 10) sc_law_form.nd rfl (by first | exact Or.inl rfl | exact Or.inr rfl) (pe_op oMul (pe_op oSub (pv 1) pe_int) (pe_callTy call_intA rfl nb.int_ bo_int (pa_cons (pe_cmpR oEq (pv 9) (pe_op op_mod (pe_op op_fdiv (pv 2) pe_int) (pv 4)) (nomark _)) pa_nil))))
        (pss_cons (ps_set (i := 11) sc_law_form.nd rfl (by first | exact Or.inl rfl | exact Or.inr rfl) (pv 8))
        (pss_cut (ps_if (PW.pt (pw_or (pt_cmpR oGt (pv 10) pe_int (nomark _)) (pw_or (pt_cmpR op_isN (pv 8) pe_non (nomark _)) (pw_or1 (pt_not (pt_truth (pv 7) (fun _ => rfl))))))) (pss_one (ps_set (i := 11) sc_law_form.nd rfl (by first | exact Or.inl rfl | exact Or.inr rfl) (pe_callD D_law_form hr (pa_cons (pv 0) (pa_cons (pv 10) pa_nil)) (hk := by omega)))) pss_nil)
        (pss_cut (ps_if (pt_cmpR oEq (pv 10) pe_int (nomark _)) (pss_one (ps_set (i := 8) sc_law_form.nd rfl (by first | exact Or.inl rfl | exact Or.inr rfl) (pv 11))) pss_nil)
        (pss_one (ps_expr (pe_bm PySem.F.plainAttrs_list PySem.F.slot_list_append PySem.F.type_list_append mt_append (pv 6) (pa_cons (pe_tup (pa_cons (pe_ix iAll (pv 5) (pv 9) (fun _ _ => rfl)) (pa_cons (pv 11) pa_nil))) pa_nil)))))))))
      (pss_one (ps_ret (pe_tup (pa_cons (pe_ix iAll (pe_lst (pa_cons pe_str (pa_cons pe_str pa_nil))) (pe_op oSub (pv 3) pe_int) (fun _ _ => rfl)) (pa_cons (pv 6) pa_nil)))))))))))) pss_nil)
    (pss_one (ps_ret (pe_tup (pa_cons (pe_ix iAll (pe_lst (pa_cons pe_str (pa_cons pe_str (pa_cons pe_str (pa_cons pe_str (pa_cons pe_str pa_nil)))))) (pe_op oSub (pv 3) pe_int) (fun _ _ => rfl)) (pa_cons (pe_callD D_law_form hr (pa_cons (pv 0) (pa_cons (pe_op oSub (pv 1) pe_int) pa_nil)) (hk := by omega)) pa_nil)))))))))), ?_⟩
  refine ⟨_, rfl, p, rfl, hP, fun c n1 hn1 => ?_⟩
  have G1 := Grow.pop hP hn1
  generalize upd H p (.lst (n1.map V.int)) = H1 at G1 ⊢
  have sim : ∀ way : Nat, way < 6 → spSimple [.ref p, .int ((way : Nat) : Int)] H1 (fun v H' => ∃ H'', L2.Sub H H'' H' ∧ Q v H'') E0 := fun way hw => ⟨p, way, rfl, hw, G1.l, fun v H' g hs => by
    obtain ⟨f, h1, h2, h3, h4⟩ := Simp.dx (hX.grow (G1.trans g)) hs
    exact ⟨_, (G1.trans g).sub, q v H' f (G1.trans g) ⟨h1, h2, by omega, by omega⟩⟩⟩
  obtain ⟨w0, hw0, ew0'⟩ := mod_nat c 11 (by decide)
  have ew0 : c % 11 = ((w0 : Nat) : Int) := ew0'
  refine ⟨_, rfl, _, _, rfl, rfl, (by show (0 : Int) < 11; decide), ?_⟩
  dsimp only
  rw [ew0]
  refine ⟨_, rfl, rfl, _, rfl, iteD (fun c0 => ?_) (fun c0 => ?_)⟩
  · obtain ⟨w6, hw6, ew6'⟩ := mod_nat c 6 (by decide)
    have ew6 : c % 6 = ((w6 : Nat) : Int) := ew6'
    refine ⟨_, rfl, _, _, rfl, rfl, (by show (0 : Int) < 6; decide), ?_⟩
    dsimp only
    rw [ew6]
    exact ⟨_, rfl, .inl ⟨_, _, rfl, rfl, _, rfl, iteY (by omega) ⟨_, rfl, _, rfl, sim w6 hw6⟩⟩⟩
  have hd0 : deep ≠ 0 := fun z => c0 (by rw [z]; rfl)
  refine ⟨_, rfl, .inl ⟨_, _, rfl, rfl, _, rfl, iteD (fun c6 => ?_) (fun c6 => ?_)⟩⟩
  · exact ⟨_, rfl, _, rfl, sim w0 (by omega)⟩
  refine ⟨_, rfl, rfl, _, rfl, (fun (hA : (w0 = 8 ∨ w0 = 9) → _) => iteD (fun c8 => hA (.inl (by have := V.int.inj c8; omega))) (fun c8 => ⟨_, rfl, rfl, _, rfl, iteD (fun c9 => hA (.inr (by have := V.int.inj c9; omega))) (fun c9 => ?_)⟩)) (fun hw89 => ?_)⟩
  · obtain ⟨m4, hm4, em4'⟩ := mod_nat (c / 11) 4 (by decide)
    have em4 : c / 11 % 4 = ((m4 : Nat) : Int) := em4'
    have e1 : (1 : Int) + ((m4 : Nat) : Int) = ((m4 + 1 : Nat) : Int) := by omega
    refine ⟨_, rfl, _, _, rfl, rfl, ⟨by decide, by decide⟩, _, _, rfl, rfl, (by show (0 : Int) < 4; decide), .inl ⟨_, _, rfl, rfl, ?_⟩⟩
    dsimp only
    rw [em4, e1]
    refine ⟨fun σ' H' => H1 = H' ∧ ∃ mN : Nat, 0 < mN ∧ mN ≤ 20 ∧ σ' = [some (.ref p), some (.int ((deep : Nat) : Int)), some (.int c), some (.int ((w0 : Nat) : Int)), some (.int ((mN : Nat) : Int)), none, none, none, none, none, none, none], ?_, ?_⟩
    · refine ⟨_, rfl, rfl, _, rfl, iteD (fun k1 => ?_) (fun k1 => ⟨rfl, m4 + 1, by omega, by omega, rfl⟩)⟩
      refine ⟨_, rfl, _, _, rfl, rfl, ⟨by decide, by decide⟩, _, _, rfl, rfl, (by show (0 : Int) < 6; decide), rfl, _, rfl, iteD (fun k2 => ?_) (fun k2 => ⟨rfl, m4 + 1, by omega, by omega, rfl⟩)⟩
      obtain ⟨m20, h20, em20'⟩ := mod_nat (c / 264) 20 (by decide)
      have em20 : c / 264 % 20 = ((m20 : Nat) : Int) := em20'
      refine ⟨_, rfl, _, _, rfl, rfl, ⟨by decide, by decide⟩, _, _, rfl, rfl, (by show (0 : Int) < 20; decide), .inl ⟨_, _, rfl, rfl, rfl, m20 + 1, by omega, by omega, ?_⟩⟩
      dsimp only
      rw [em20, show (1 : Int) + ((m20 : Nat) : Int) = ((m20 + 1 : Nat) : Int) by omega]
      rfl
    rintro σ1 H1' ⟨rfl, mN, hm0, hm20, rfl⟩
    refine ⟨_, rfl, p, rfl, G1.l, fun c2 n2 hn2 => ⟨_, rfl, c2, mN, rfl, hm0, hm20, fun D ns hD hnl hgn => ?_⟩⟩
    have G2 := G1.trans (Grow.pop G1.l hn2)
    have G3 := G2.ext (Ext.lst (xs := ns.map V.str) hD)
    refine ⟨Nat.zero_le _, fun l hl => ?_⟩
    have E4 := Ext.lst (xs := []) hl
    have G4 := G3.ext E4
    have hl0 : H l = none := G3.free hl
    have hD0 : H D = none := G2.free hD
    have hlp : l ≠ p := G3.ne hl
    have hDl : D ≠ l := fun z => by rw [← z, upd_same] at hl; cases hl
    have hlX : l ∉ X := fun z => by obtain ⟨y, hy⟩ := hX l z; rw [hl0] at hy; cases hy
    have hDX : D ∉ l :: X := fun z => by
      rcases List.mem_cons.mp z with z | z
      · exact hDl z
      · obtain ⟨y, hy⟩ := hX D z; rw [hD0] at hy; cases hy
    have hDv : upd (upd (upd H1 p (.lst (n2.map V.int))) D (.lst (ns.map V.str))) l (.lst []) D = some (.lst (ns.map V.str)) := E4.s _ _ upd_same
    have hLv := upd_same (H := upd (upd H1 p (.lst (n2.map V.int))) D (.lst (ns.map V.str))) (a := l) (o := HO.lst [])
    generalize upd (upd (upd H1 p (.lst (n2.map V.int))) D (.lst (ns.map V.str))) l (.lst []) = H4 at G4 hDv hLv ⊢
    refine ⟨fun σ' H' => H4 = H' ∧ ∃ al : Bool, σ' = [some (.ref p), some (.int ((deep : Nat) : Int)), some (.int c), some (.int ((w0 : Nat) : Int)), some (.int ((mN : Nat) : Int)), some (.ref D), some (.ref l), some (.bl al), none, none, none, none], ?_, ?_⟩
    · refine ⟨_, rfl, .inl ⟨_, _, rfl, rfl, _, rfl, iteD (fun k1 => ?_) (fun k1 => ⟨rfl, _, rfl⟩)⟩⟩
      exact ⟨_, rfl, _, _, rfl, rfl, ⟨by decide, by decide⟩, _, _, rfl, rfl, (by show (0 : Int) < 3; decide), rfl, rfl, _, rfl⟩
    rintro σ2 H4' ⟨rfl, al, rfl⟩
    obtain ⟨kk, hkk, ekk⟩ := mod_nat (c / 264) mN hm0
    refine ⟨_, rfl, _, rfl, by omega, by omega, ?_⟩
    have en : (((mN : Nat) : Int)).toNat = mN := by omega
    rw [en]
    refine for_range (fun i σ H2 => Grow p H H2 ∧ Lists (l :: X) H2 ∧ H2 D = some (.lst (ns.map V.str)) ∧ ∃ fs vs vb z9 z10 z11, σ = [some (.ref p), some (.int ((deep : Nat) : Int)), some (.int c), some (.int ((w0 : Nat) : Int)), some (.int ((mN : Nat) : Int)), some (.ref D), some (.ref l), some (.bl al), some vb, z9, z10, z11] ∧ Inn X l deep (i + if kk < i then 20 * (deep - 1) else 0) H2 ns i fs vs ∧ (vb = .non ∨ ∃ g, Tld (l :: X) H2 g vb 1 1)) ?_ ?_ ?_
    · refine ⟨G4, ?_, hDv, [], [], .non, none, none, none, rfl, ⟨hLv, by rw [List.take_zero, dscs]; rfl, rfl, by rw [okGs]; trivial, by rw [hts]; omega, by rw [szs]; omega⟩, .inl rfl⟩
      intro x hx
      rcases List.mem_cons.mp hx with z | z
      · subst z; exact ⟨_, hLv⟩
      · exact (hX.grow G4) x z
    · rintro i σ H2 hi ⟨g2, hX2, hD2, fs, vs, vb, z9, z10, z11, rfl, I, hvb⟩
      have hin : i < ns.length := by omega
      have hni : ns[i]? = some ns[i] := List.getElem?_eq_getElem hin
      have hat : atI (ns.map V.str) (0 + ((i : Nat) : Int)) = some (.str ns[i]) := by rw [Int.zero_add]; exact atI_nat (by rw [List.getElem?_map, hni]; rfl)
      refine ⟨_, rfl, _, _, rfl, rfl, _, rfl, _, rfl, _, _, rfl, rfl, ⟨by decide, by decide⟩, _, rfl, _, _, rfl, rfl, (by omega), rfl, .inl (.inr ⟨_, rfl, ?_⟩)⟩
      have ebb : decide (V.int (0 + ((i : Nat) : Int)) = V.int (c / 264 % ((mN : Nat) : Int))) = decide (i = kk) := by
        rw [ekk]; exact decide_eq_decide.mpr ⟨fun h => by have := V.int.inj h; omega, fun h => by rw [h, Int.zero_add]⟩
      rw [ebb]
      refine .inl ⟨_, _, rfl, rfl, .inr (by split <;> exact ⟨by decide, by decide⟩), ?_⟩
      obtain ⟨dp, hdp1, hdp2, ev, hdp3⟩ : ∃ dp : Nat, dp < d ∧ dp + 1 ≤ deep ∧ (((deep : Nat) : Int) - 1) * (if decide (i = kk) = true then 1 else 0) = ((dp : Nat) : Int) ∧ (dp = if i = kk then deep - 1 else 0) := ⟨if i = kk then deep - 1 else 0, by split <;> omega, by split <;> omega, by by_cases z : i = kk <;> simp only [z, decide_true, decide_false, if_true, if_false] <;> simp <;> omega, rfl⟩
      dsimp only
      rw [ev]
      refine ⟨_, rfl, ?_⟩
      refine ⟨fun σ' H' => ∃ part g, Grow p H2 H' ∧ Tld (l :: X) H' g part (dp + 1) (20 * dp + 1) ∧ σ' = [some (.ref p), some (.int ((deep : Nat) : Int)), some (.int c), some (.int ((w0 : Nat) : Int)), some (.int ((mN : Nat) : Int)), some (.ref D), some (.ref l), some (.bl al), some vb, some (.int (0 + ((i : Nat) : Int))), some (.int ((dp : Nat) : Int)), some part], ?_, ?_⟩
      · refine ⟨_, rfl, _, _, rfl, rfl, _, rfl, (fun (hA : _) => iteD (fun _ => hA) (fun k1 => ⟨_, rfl, rfl, _, rfl, iteD (fun _ => hA) (fun k2 => ⟨_, rfl, al, rfl, ?_⟩)⟩)) ?_⟩
        · exact ⟨_, rfl, _, rfl, p, dp, l :: X, rfl, hdp1, g2.l, List.mem_cons_of_mem _ hpX, hX2, fun v H' f g hv => ⟨v, f, g, hv, rfl⟩⟩
        cases al
        · exact iteT hA
        · obtain ⟨g, hg⟩ := hvb.resolve_left k2
          exact iteF ⟨vb, g, Grow.refl g2.l, ⟨hg.d, hg.o, by have := hg.h; omega, by have := hg.s; omega⟩, rfl⟩
      rintro σ3 H3 ⟨part, gf, g3, hpart, rfl⟩
      refine ⟨fun σ' H' => H3 = H' ∧ ∃ vb', (vb' = .non ∨ ∃ g, Tld (l :: X) H3 g vb' 1 1) ∧ σ' = [some (.ref p), some (.int ((deep : Nat) : Int)), some (.int c), some (.int ((w0 : Nat) : Int)), some (.int ((mN : Nat) : Int)), some (.ref D), some (.ref l), some (.bl al), some vb', some (.int (0 + ((i : Nat) : Int))), some (.int ((dp : Nat) : Int)), some part], ?_, ?_⟩
      · refine ⟨_, rfl, rfl, _, rfl, iteD (fun k1 => ⟨_, rfl, rfl, part, .inr ?_, rfl⟩) (fun k1 => ⟨rfl, vb, ?_, rfl⟩)⟩
        · have z0 : dp = 0 := by have := V.int.inj k1; omega
          rw [z0] at hpart
          exact ⟨gf, hpart⟩
        · exact hvb.imp id fun ⟨g, hg⟩ => ⟨g, DX.grow (List.mem_cons_of_mem _ hpX) g3 hg.d, hg.o, hg.h, hg.s⟩
      rintro σ4 H3' ⟨rfl, vb', hvb', rfl⟩
      have hl3 : H3 l = some (.lst vs) := g3.k _ _ hlp I.ls
      refine ⟨_, rfl, .inl ⟨rfl, _, SqL.of hl3⟩, _, rfl, _, rfl, .inl (.inl ⟨_, _, _, _, rfl, rfl, SqL.of (g3.k _ _ (fun z => hDX (by rw [z]; exact List.mem_cons_of_mem _ hpX)) hD2), hat, _, rfl, two_ok, fun T hT => ?_⟩)⟩
      have E5 := Ext.tup (xs := [V.str ns[i], part]) hT
      have hlen : vs.length = i := by
        rw [DsAt.len _ (DsX.at _ I.ds), dscs_len, I.ln]
      refine ⟨l, _, _, rfl, rfl, E5.s _ _ hl3, (by rw [hlen]; exact Nat.lt_of_lt_of_le (show i < 100000 by omega) (by decide)), ?_⟩
      obtain ⟨I', L', k'⟩ := I.step hX2 hpX hlp g3 hpart hdp2 hT hni (by have := (goodNames_mem hgn).2 _ (List.getElem_mem hin); omega)
      refine ⟨((g2.trans g3).ext E5).set hl0 (E5.s _ _ hl3) hlp, L', k' _ _ hDX (g3.k _ _ (fun z => hDX (by rw [z]; exact List.mem_cons_of_mem _ hpX)) hD2), _, _, vb', _, _, _, rfl, ⟨I'.ls, I'.ds, I'.ln, I'.ok, I'.ht, ?_⟩, hvb'.imp id fun ⟨g, hg⟩ => ⟨g, DX.keep k' _ hg.d, hg.o, hg.h, hg.s⟩⟩
      refine Nat.le_trans I'.sz ?_
      rw [hdp3]
      by_cases z : i = kk
      · rw [if_pos z, if_neg (by omega), if_pos (by omega)]; omega
      · rw [if_neg z]
        by_cases z2 : kk < i
        · rw [if_pos z2, if_pos (by omega)]; omega
        · rw [if_neg z2]; omega
    · rintro σ H2 ⟨g2, hX2, hD2, fs, vs, vb, z9, z10, z11, rfl, I, _⟩
      obtain ⟨ww, hw2⟩ : ∃ ww : Fin 2, atI ([wRe, wCh].map V.str) (((w0 : Nat) : Int) - 8) = some (.str (wdT ww)) := by
        rcases hw89 with rfl | rfl
        · exact ⟨0, atI_nat (j := 0) rfl⟩
        · exact ⟨1, atI_nat (j := 1) rfl⟩
      refine ⟨two_ok, fun g hg => ⟨_, rfl, _, _, rfl, rfl, .inl (.inl ⟨_, _, _, _, rfl, rfl, SqL.of upd_same, hw2, _, rfl, two_ok, fun T hT => ?_⟩)⟩⟩
      have E6 := (Ext.lst hg).trans (Ext.tup (xs := [V.str (wdT ww), V.ref l]) hT)
      have g6 := g2.ext E6
      have ns_all : ns.take mN = ns := List.take_of_length_le (by omega)
      have hds := I.ds
      rw [ns_all] at hds
      have hvl : vs.length = mN := by rw [DsAt.len _ (DsX.at _ I.ds), dscs_len, I.ln]
      have hTX : T ∉ X := (hX.grow g6).no upd_same
      refine ⟨_, g6.sub, q _ _ (.two ww ns fs) g6 ⟨?_, ?_, ?_, ?_⟩⟩
      · rw [dsc]
        exact ⟨T, _, rfl, hTX, upd_same, ⟨_, _, rfl, ⟨rfl, wdT_len ww⟩, _, _, rfl, ⟨l, vs, rfl, hlX, E6.s _ _ I.ls, DsX.weak (fun y hy => List.mem_cons_of_mem _ hy) _ (DsX.same E6.s hds), by omega⟩, rfl⟩, by simp⟩
      · rw [okG]; exact ⟨hgn, by rw [I.ln, hnl], I.ok⟩
      · rw [ht]; have := I.ht; omega
      · rw [sz]
        have := I.sz
        rw [if_pos hkk] at this
        omega
  have hw : w0 = 6 ∨ w0 = 7 ∨ w0 = 10 := by
    have h8 : w0 ≠ 8 := fun z => c8 (by rw [z]; rfl)
    have h9 : w0 ≠ 9 := fun z => c9 (by rw [z]; rfl)
    omega
  obtain ⟨ww, hw2⟩ : ∃ ww : Fin 3, atI ([wMa, wMy, Str.ofString "", Str.ofString "", wTu].map V.str) (((w0 : Nat) : Int) - 6) = some (.str (wdO ww)) := by
    rcases hw with rfl | rfl | rfl
    · exact ⟨0, atI_nat (j := 0) rfl⟩
    · exact ⟨1, atI_nat (j := 1) rfl⟩
    · exact ⟨2, atI_nat (j := 4) rfl⟩
  refine ⟨(by show 5 ≤ sizeLine; decide), fun g hg => ⟨_, rfl, _, _, rfl, rfl, .inl (.inl ⟨_, _, _, _, rfl, rfl, SqL.of upd_same, hw2, ?_⟩)⟩⟩
  have Gg := G1.ext (Ext.lst (xs := [wMa, wMy, Str.ofString "", Str.ofString "", wTu].map V.str) hg)
  have ev : ((deep : Nat) : Int) - 1 = ((deep - 1 : Nat) : Int) := by omega
  refine ⟨_, rfl, _, rfl, _, _, rfl, rfl, p, deep - 1, X, (by rw [← ev]; rfl), by omega, Gg.l, hpX, hX.grow Gg, fun v H' f g' hv => ⟨two_ok, fun T hT => ?_⟩⟩
  have E5 := Ext.tup (xs := [V.str (wdO ww), v]) hT
  have g6 := (Gg.trans g').ext E5
  have hTX : T ∉ X := (hX.grow g6).no upd_same
  refine ⟨_, g6.sub, q _ _ (.one ww f) g6 ⟨?_, ?_, ?_, ?_⟩⟩
  · rw [dsc]; exact ⟨T, _, rfl, hTX, upd_same, ⟨_, _, rfl, ⟨rfl, wdO_len ww⟩, _, _, rfl, hv.d.same E5.s, rfl⟩, by simp⟩
  · rw [okG]; exact hv.o
  · rw [ht]; have := hv.h; omega
  · rw [sz]; have := hv.s; omega
theorem all_law_form23 {f : Addr} {fd : FuncData} (nb : NB mg) (F : FunAt K mg "_law_form" s_law_form ["_law_pool_here", "_law_deep"] f fd) (D_law_next : DefOk P w K mg base 1 "_law_next" ["_law_pool_here"] spNext) (D_law_names : DefOk P w K mg base 1 "_law_names" ["_law_cell", "_law_many"] spNames) (D_law_simple : DefOk P w K mg base 2 "_law_simple" ["_law_pool_here", "_law_way"] spSimple) : ∀ d : Nat, DefOk P w K mg base (d + 3) "_law_form" ["_law_pool_here", "_law_deep"] (spForm d)
  | 0 => DefOk.none F fun vs H Q E h => by obtain ⟨_, _, _, _, h, _⟩ := h; omega
  | d + 1 => step_law_form23 nb F D_law_next D_law_names D_law_simple (all_law_form23 nb F D_law_next D_law_names D_law_simple d)

/-! ### k23: like forms are one object -/
theorem wdB_inj : ∀ k j : Fin 4, wdB k = wdB j → k = j := by decide +kernel
theorem wdO_inj : ∀ k j : Fin 3, wdO k = wdO j → k = j := by decide +kernel
theorem wdT_inj : ∀ k j : Fin 2, wdT k = wdT j → k = j := by decide +kernel
theorem wd_apart : (∀ k : Fin 3, wdO k ≠ wLe) ∧ (∀ k : Fin 2, wdT k ≠ wLe) ∧ ∀ (k : Fin 3) (j : Fin 2), wdO k ≠ wdT j := by decide +kernel
mutual
theorem dsc_eq : ∀ (f g : Fm), okG f → okG g → eqDD (dsc f) (dsc g) = true → f = g
  | .bare k, g, _, _, h => by
    cases g with
    | bare j =>
      simp [dsc, eqDD, eqTu, eqDs, eqSt] at h
      rw [wdB_inj k j h]
    | _ => simp [dsc, eqDD, eqTu, eqDs, eqSt] at h
  | .sp a b, g, _, _, h => by
    cases g with
    | sp i j =>
      simp [dsc, eqDD, eqTu, eqDs, eqSt, eqIn] at h
      rw [h.1, h.2]
    | _ => simp [dsc, eqDD, eqTu, eqDs, eqSt] at h
  | .le s, g, _, _, h => by
    cases g with
    | le t =>
      simp [dsc, eqDD, eqTu, eqDs, eqSt] at h
      rw [h]
    | one k f =>
      simp [dsc, eqDD, eqTu, eqDs, eqSt] at h
      exact absurd h.1.symm (wd_apart.1 k)
    | two k ns fs =>
      simp [dsc, eqDD, eqTu, eqDs, eqSt] at h
    | _ => simp [dsc, eqDD, eqTu, eqDs, eqSt] at h
  | .one k f, g, hf, hg, h => by
    cases g with
    | le t =>
      simp [dsc, eqDD, eqTu, eqDs, eqSt] at h
      exact absurd h.1 (wd_apart.1 k)
    | one j g =>
      simp [dsc, eqDD, eqTu, eqDs, eqSt] at h
      rw [okG] at hf hg
      rw [wdO_inj k j h.1, dsc_eq f g hf hg h.2]
    | two j ns fs =>
      simp [dsc, eqDD, eqTu, eqDs, eqSt] at h
      exact absurd h.1 (wd_apart.2.2 k j)
    | _ => simp [dsc, eqDD, eqTu, eqDs, eqSt] at h
  | .two k ns fs, g, hf, hg, h => by
    cases g with
    | le t => simp [dsc, eqDD, eqTu, eqDs, eqSt, eqLi] at h
    | one j g =>
      simp [dsc, eqDD, eqTu, eqDs, eqSt] at h
      exact absurd h.1.symm (wd_apart.2.2 j k)
    | two j ms gs =>
      simp [dsc, eqDD, eqTu, eqDs, eqSt, eqLi] at h
      rw [okG] at hf hg
      obtain ⟨e1, e2⟩ := dscs_eq fs gs ns ms hf.2.1 hg.2.1 hf.2.2 hg.2.2 h.2
      rw [wdT_inj k j h.1, e1, e2]
    | _ => simp [dsc, eqDD, eqTu, eqDs, eqSt] at h
theorem dscs_eq : ∀ (fs gs : List Fm) (ns ms : List Str), ns.length = fs.length → ms.length = gs.length → okGs fs → okGs gs → eqDs (dscs fs ns) (dscs gs ms) = true → ns = ms ∧ fs = gs
  | [], [], ns, ms, h1, h2, _, _, _ => by
    rw [List.eq_nil_of_length_eq_zero h1, List.eq_nil_of_length_eq_zero h2]; exact ⟨rfl, rfl⟩
  | [], g :: gs, _, _, _, _, _, _, h => by simp [dscs, eqDs] at h
  | f :: fs, [], _, _, _, _, _, _, h => by simp [dscs, eqDs] at h
  | f :: fs, g :: gs, [], ms, h1, _, _, _, _ => by cases h1
  | f :: fs, g :: gs, n :: ns, [], _, h2, _, _, _ => by cases h2
  | f :: fs, g :: gs, n :: ns, m :: ms, h1, h2, h3, h4, h => by
    rw [okGs] at h3 h4
    simp [dscs, eqDD, eqTu, eqDs, eqSt] at h
    obtain ⟨e1, e2⟩ := dscs_eq fs gs ns ms (by simpa using h1) (by simpa using h2) h3.2 h4.2 h.2
    rw [h.1.1, e1, e2, dsc_eq f g h3.1 h4.1 h.1.2]; exact ⟨rfl, rfl⟩
end
mutual
theorem dsc_ht : ∀ f : Fm, dht (dsc f) ≤ 3 * ht f
  | .bare k => by simp only [dsc, dht, dhts, ht]; omega
  | .sp a b => by simp only [dsc, dht, dhts, ht]; omega
  | .le s => by simp only [dsc, dht, dhts, ht]; omega
  | .one k f => by
    have := dsc_ht f
    simp only [dsc, dht, dhts, ht]; omega
  | .two k ns fs => by
    have := dscs_ht fs ns
    simp only [dsc, dht, dhts, ht]; omega
theorem dscs_ht : ∀ (fs : List Fm) (ns : List Str), dhts (dscs fs ns) ≤ 3 * hts fs + 1
  | [], ns => by simp only [dscs, dhts]; omega
  | f :: fs, ns => by
    have := dsc_ht f
    have := dscs_ht fs ns.tail
    have := ht_pos f
    simp only [dscs, dhts, dht, hts]; omega
end
theorem dscs_get {X : List Addr} {H : Hp} : ∀ (fs : List Fm) (ns : List Str) {vs : List V} {i : Nat} {y : V}, ns.length = fs.length → DsX X H (dscs fs ns) vs → vs[i]? = some y → ∃ f n T v, fs[i]? = some f ∧ ns[i]? = some n ∧ y = .ref T ∧ T ∉ X ∧ H T = some (.tup [.str n, v]) ∧ DX X H (dsc f) v
  | [], ns, vs, i, y, h0, h, e => by
    rw [dscs] at h
    obtain rfl : vs = [] := h
    cases e
  | f :: fs, [], vs, i, y, h0, h, e => by cases h0
  | f :: fs, n :: ns, vs, 0, y, h0, h, e => by
    rw [dscs] at h
    obtain ⟨v, r, rfl, ⟨T, ws, rfl, hT, eT, ⟨_, _, rfl, ⟨rfl, _⟩, v', _, rfl, hv, rfl⟩, _⟩, q2⟩ := h
    cases e
    exact ⟨f, n, T, v', rfl, rfl, rfl, hT, eT, hv⟩
  | f :: fs, n :: ns, vs, i + 1, y, h0, h, e => by
    rw [dscs] at h
    obtain ⟨v, r, rfl, q, q2⟩ := h
    exact dscs_get fs ns (by simpa using h0) q2 e
theorem okGs_get : ∀ {fs : List Fm} {i : Nat} {f : Fm}, okGs fs → fs[i]? = some f → okG f ∧ ht f ≤ hts fs
  | g :: fs, 0, f, h, e => by
    cases e
    rw [okGs] at h
    rw [hts]
    exact ⟨h.1, by omega⟩
  | g :: fs, i + 1, f, h, e => by
    rw [okGs] at h
    obtain ⟨a, b⟩ := okGs_get h.2 (show fs[i]? = some f from e)
    rw [hts]
    exact ⟨a, by omega⟩
theorem sz_pos (f : Fm) : 1 ≤ sz f := by cases f <;> simp only [sz] <;> omega
/-- what is kept of the forms that are made -/
structure Kpt (c : FC) (X : List Addr) (kp : Addr) (H : Hp) (n : Nat) : Prop where
  e : ∃ es : List (Addr × V × Fm × Addr), H kp = some (.lst (es.map fun e => V.ref e.1)) ∧ es.length ≤ n ∧ ∀ e, e ∈ es → e.1 ∉ X ∧ H e.1 = some (.tup [e.2.1, .ref e.2.2.2]) ∧ DX X H (dsc e.2.2.1) e.2.1 ∧ (okG e.2.2.1 ∧ ht e.2.2.1 ≤ 15) ∧ FAt c X H e.2.2.1 e.2.2.2
theorem Kpt.le {c : FC} {X : List Addr} {kp : Addr} {H : Hp} {n m : Nat} (k : Kpt c X kp H n) (h : n ≤ m) : Kpt c X kp H m := by
  obtain ⟨es, h1, h2, h3⟩ := k.e
  exact ⟨es, h1, by omega, h3⟩
theorem Kpt.keep {c : FC} {X : List Addr} {kp : Addr} {H H' : Hp} {n : Nat} (k : Kpt c X kp H n) (s : ∀ b u, b ∉ X → H b = some u → H' b = some u) (h : H' kp = H kp) : Kpt c X kp H' n := by
  obtain ⟨es, h1, h2, h3⟩ := k.e
  refine ⟨es, by rw [h]; exact h1, h2, fun e he => ?_⟩
  obtain ⟨a1, a2, a3, a4, a5⟩ := h3 e he
  exact ⟨a1, s _ _ a1 a2, DX.keep s _ a3, a4, FAt.keep s _ a5⟩
theorem Kpt.add {c : FC} {X : List Addr} {kp D : Addr} {H : Hp} {n : Nat} (k : Kpt c X kp H n) (hD : H D = none) : Kpt c (D :: X) kp H n := by
  obtain ⟨es, h1, h2, h3⟩ := k.e
  refine ⟨es, h1, h2, fun e he => ?_⟩
  obtain ⟨a1, a2, a3, a4, a5⟩ := h3 e he
  exact ⟨fun z => (List.mem_cons.mp z).elim (fun z => by rw [z, hD] at a2; cases a2) a1, a2, DX.add hD _ a3, a4, FAt.add hD _ a5⟩
theorem Kpt.weak {c : FC} {X : List Addr} {kp D : Addr} {H : Hp} {n : Nat} (k : Kpt c (D :: X) kp H n) : Kpt c X kp H n := by
  obtain ⟨es, h1, h2, h3⟩ := k.e
  refine ⟨es, h1, h2, fun e he => ?_⟩
  obtain ⟨a1, a2, a3, a4, a5⟩ := h3 e he
  exact ⟨fun z => a1 (List.mem_cons_of_mem _ z), a2, DX.weak (fun x hx => List.mem_cons_of_mem _ hx) _ a3, a4, FAt.weak (fun x hx => List.mem_cons_of_mem _ hx) _ a5⟩
def Has (X : List Addr) (H : Hp) : Prop := ∀ x, x ∈ X → ∃ o, H x = some o
theorem Has.no {X : List Addr} {H : Hp} (h : Has X H) {t : Addr} (e : H t = none) : t ∉ X := fun z => by
  obtain ⟨o, q⟩ := h t z
  rw [e] at q; cases q
theorem Has.mv {X : List Addr} {p : Addr} {o : HO} {H H' : Hp} (h : Has X H) (m : Mv p H H') (e : H' p = some o) : Has X H' := fun x hx => by
  by_cases z : x = p
  · subst z; exact ⟨_, e⟩
  · obtain ⟨u, q⟩ := h x hx
    exact ⟨u, m.k _ _ z q⟩
theorem Has.ext {X : List Addr} {H H' : Hp} (h : Has X H) (m : Same H H') : Has X H' := fun x hx => by
  obtain ⟨u, q⟩ := h x hx
  exact ⟨u, m _ _ q⟩
theorem Has.add {X : List Addr} {D : Addr} {o : HO} {H : Hp} (h : Has X H) (e : H D = some o) : Has (D :: X) H := fun x hx => by
  rcases List.mem_cons.mp hx with rfl | z
  · exact ⟨o, e⟩
  · exact h x z
theorem DX.mv {X : List Addr} {p : Addr} {H H' : Hp} (hp : p ∈ X) (m : Mv p H H') {d : D} {v : V} (h : DX X H d v) : DX X H' d v :=
  DX.keep (fun b u nb e => m.k b u (fun z => nb (by rw [z]; exact hp)) e) d h
def spObj (c : FC) (d : Nat) : Sp := fun vs H Q _ => ∃ (vf : V) (kp : Addr) (f : Fm) (n : Nat) (X : List Addr), vs = [vf, .ref kp] ∧ kp ∈ X ∧ Has X H ∧ DX X H (dsc f) vf ∧ okG f ∧ ht f ≤ d ∧ ht f ≤ 15 ∧ Kpt c X kp H n ∧ n + sz f ≤ 1000 ∧ ∀ o H', Mv kp H H' → Kpt c X kp H' (n + sz f) → FAt c X H' f o → Q (.ref o) H'
def spNew (c : FC) (d : Nat) : Sp := fun vs H Q _ => ∃ (vf : V) (kp : Addr) (f : Fm) (n : Nat) (X : List Addr), vs = [vf, .ref kp] ∧ kp ∈ X ∧ Has X H ∧ DX X H (dsc f) vf ∧ okG f ∧ ht f ≤ d ∧ ht f ≤ 15 ∧ Kpt c X kp H n ∧ n + sz f ≤ 1000 ∧ ∀ o H', Mv kp H H' → Kpt c X kp H' (n + sz f - 1) → FAt c X H' f o → Q (.ref o) H'
theorem step_law_object {f : Addr} {fd : FuncData} {d : Nat} {c : FC} (F : FunAt K mg "_law_object" s_law_object ["_law_form_here", "_law_kept"] f fd) (D_law_new : DefOk P w K mg base (2 * d + 7) "_law_new" ["_law_form_here", "_law_kept"] (spNew c d)) : DefOk P w K mg base (2 * d + 8) "_law_object" ["_law_form_here", "_law_kept"] (spObj c d) := by
  refine F.ok sc_law_object (fun vs H Q E h => ?_) (fun cdv A outer s H vs Q E hr h => ?_)
  · obtain ⟨_, _, _, _, _, rfl, _⟩ := h; rfl
  obtain ⟨vf, kp, g, n, X, rfl, hkX, hX, hv, hok, hht, h15, hK, hn, q⟩ := h
  refine ⟨_, (pss_cons (ps_for PassesOwn.never rfl (piAll (pv 1)) (pg_tup rfl (pgs_cons (pg_name (i := 2) sc_law_object.nd rfl (by first | exact Or.inl rfl | exact Or.inr rfl)) (pgs_cons (pg_name (i := 3) sc_law_object.nd rfl (by first | exact Or.inl rfl | exact Or.inr rfl)) pgs_nil)))
      (pss_one (ps_if (pt_cmpR (oEqD (room64 hr)) (pv 2) (pv 0) (nomark _)) (pss_one (ps_ret (pv 3))) pss_nil)))
    (pss_cons (ps_set (i := 3) sc_law_object.nd rfl (by first | exact Or.inl rfl | exact Or.inr rfl) (pe_callD D_law_new hr (pa_cons (pv 0) (pa_cons (pv 1) pa_nil)) (hk := by omega)))
    (pss_cons (ps_expr (pe_bm PySem.F.plainAttrs_list PySem.F.slot_list_append PySem.F.type_list_append mt_append (pv 1) (pa_cons (pe_tup (pa_cons (pv 0) (pa_cons (pv 3) pa_nil))) pa_nil)))
    (pss_one (ps_ret (pv 3)))))), ?_⟩
  obtain ⟨es, he1, he2, he3⟩ := hK.e
  have h3 := dsc_ht g
  have hsz := sz_pos g
  refine .inl ⟨_, rfl, kp, rfl, ⟨_, SqL.of he1⟩, ?_⟩
  refine for_list (xs := es.map fun e => V.ref e.1) (fun i σ H2 => H = H2 ∧ ∃ z2 z3, σ = [some vf, some (.ref kp), z2, z3]) ⟨rfl, _, _, rfl⟩ (fun i σ H2 _ h => by obtain ⟨rfl, _⟩ := h; exact SqL.of he1) ?_ ?_
  · rintro i x σ H2 hx ⟨rfl, z2, z3, rfl⟩
    rw [List.getElem?_map] at hx
    obtain ⟨e, hee, rfl⟩ := Option.map_eq_some_iff.mp hx
    obtain ⟨a1, a2, a3, a4, a5⟩ := he3 e (List.mem_of_getElem? hee)
    refine ⟨_, _, rfl, SqT.of a2, rfl, _, _, rfl, _, _, rfl, rfl, ?_⟩
    refine ⟨_, rfl, _, rfl, .inr ⟨dsc e.2.2.1, dsc g, DX.at _ a3, DX.at _ hv, ?_, _, rfl, ?_⟩⟩
    · have := dsc_ht e.2.2.1
      have := a4.2
      omega
    cases hq : eqDD (dsc e.2.2.1) (dsc g) with
    | true =>
      have := dsc_eq _ _ a4.1 hok hq
      subst this
      exact iteT ⟨_, rfl, _, (Mv.refl kp H).sub he1, q _ _ (Mv.refl kp H) (hK.le (by omega)) a5⟩
    | false => exact iteF ⟨rfl, _, _, rfl⟩
  rintro σ H2 ⟨rfl, z2, z3, rfl⟩
  refine ⟨_, rfl, _, rfl, vf, kp, g, n, X, rfl, hkX, hX, hv, hok, hht, h15, hK, hn, fun o H1 M1 hK1 hF1 => ?_⟩
  obtain ⟨es1, hf1, hf2, hf3⟩ := hK1.e
  refine ⟨_, rfl, .inl ⟨rfl, _, SqL.of hf1⟩, _, rfl, _, rfl, two_ok, fun T hT => ?_⟩
  have E2 := Ext.tup (xs := [vf, .ref o]) hT
  have hkT : kp ≠ T := fun z => by rw [← z, hf1] at hT; cases hT
  have hf1' := E2.s _ _ hf1
  refine ⟨kp, _, _, rfl, rfl, hf1', Nat.lt_of_lt_of_le (show _ < 100000 by rw [List.length_map]; omega) (by decide), ?_⟩
  have kk : ∀ b u, b ∉ X → H1 b = some u → upd (upd H1 T (.tup [vf, .ref o])) kp (.lst ((es1.map fun e => V.ref e.1) ++ [V.ref T])) b = some u := fun b u nb e => by
    rw [upd_ne (fun z => nb (by rw [z]; exact hkX))]; exact E2.s _ _ e
  have M2 : Mv kp H (upd (upd H1 T (.tup [vf, .ref o])) kp (.lst ((es1.map fun e => V.ref e.1) ++ [V.ref T]))) := ⟨fun b u nb e => by rw [upd_ne nb]; exact E2.s _ _ (M1.k b u nb e), fun cl => closed_lst hf1' (E2.c (M1.c cl))⟩
  have hTX : T ∉ X := (hX.mv M1 hf1).no hT
  refine ⟨_, rfl, _, M2.sub upd_same, q _ _ M2 ⟨es1 ++ [(T, vf, g, o)], by rw [upd_same, List.map_append]; rfl, by rw [List.length_append, List.length_singleton]; omega, fun e he => ?_⟩ (FAt.keep kk _ hF1)⟩
  rcases List.mem_append.mp he with z | z
  · obtain ⟨a1, a2, a3, a4, a5⟩ := hf3 e z
    exact ⟨a1, kk _ _ a1 a2, DX.keep kk _ a3, a4, FAt.keep kk _ a5⟩
  · rw [List.mem_singleton.mp z]
    exact ⟨hTX, by show upd _ kp _ T = _; rw [upd_ne (Ne.symm hkT), upd_same], DX.keep kk _ (DX.mv hkX M1 hv), ⟨hok, h15⟩, FAt.keep kk _ hF1⟩

theorem szs_take : ∀ (fs : List Fm) (i : Nat), szs (fs.take i) ≤ szs fs
  | [], i => by rw [List.take_nil]; exact Nat.le_refl _
  | f :: fs, 0 => by show szs [] ≤ _; rw [szs]; exact Nat.zero_le _
  | f :: fs, i + 1 => by
    show szs (f :: fs.take i) ≤ _
    have := szs_take fs i
    rw [szs, szs]; omega
theorem FsAt.snoc {c : FC} {X : List Addr} {H : Hp} {f : Fm} {o : Addr} (hf : FAt c X H f o) : ∀ (fs : List Fm) {os : List Addr}, FsAt c X H fs os → FsAt c X H (fs ++ [f]) (os ++ [o])
  | [], os, h => by
    obtain rfl : os = [] := h
    exact ⟨o, [], rfl, hf, rfl⟩
  | g :: fs, os, h => by
    obtain ⟨a, r, rfl, q, q2⟩ := h
    exact ⟨a, r ++ [o], rfl, q, FsAt.snoc hf fs q2⟩
set_option maxHeartbeats 4000000 in
theorem step_law_new {f : Addr} {fd : FuncData} {d : Nat} {c : FC} (nb : NB mg) (F : FunAt K mg "_law_new" s_law_new ["_law_form_here", "_law_kept"] f fd)
    (M0_Nothing : Mk0 K (c.b 0)) (m_Nothing : mg "Nothing" = some (.ref (c.b 0))) (M0_Truth : Mk0 K (c.b 1)) (m_Truth : mg "Truth" = some (.ref (c.b 1))) (M0_Whole : Mk0 K (c.b 2)) (m_Whole : mg "Whole" = some (.ref (c.b 2))) (M0_Fraction : Mk0 K (c.b 3)) (m_Fraction : mg "Fraction" = some (.ref (c.b 3)))
    (M_Span : MakeOk P w K mg base 1 "Span" c.s ["self", "low", "high"] (spSpanInit c.s)) (M_Letters : MakeOk P w K mg base 2 "Letters" c.l ["self", "signs"] (spLetInit c.l)) (M_Record : MakeOk P w K mg base 4 "Record" (c.t 0) ["self", "parts"] (spTwoInit (c.t 0))) (M_Choice : MakeOk P w K mg base 4 "Choice" (c.t 1) ["self", "cases"] (spTwoInit (c.t 1)))
    (M_Maybe : MakeOk P w K mg base 1 "Maybe" (c.o 0) ["self", "inner"] (spOneInit (c.o 0))) (M_Many : MakeOk P w K mg base 1 "Many" (c.o 1) ["self", "inner"] (spOneInit (c.o 1))) (M_Turned : MakeOk P w K mg base 1 "Turned" (c.o 2) ["self", "inner"] (spOneInit (c.o 2)))
    (D_law_object : DefOk P w K mg base (2 * d + 8) "_law_object" ["_law_form_here", "_law_kept"] (spObj c d)) : DefOk P w K mg base (2 * d + 9) "_law_new" ["_law_form_here", "_law_kept"] (spNew c (d + 1)) := by
  refine F.ok sc_law_new (fun vs H Q E h => ?_) (fun cdv A outer s H vs Q E hr h => ?_)
  · obtain ⟨_, _, _, _, _, rfl, _⟩ := h; rfl
  obtain ⟨vf, kp, g, n, X, rfl, hkX, hX, hv, hok, hht, h15, hK, hn, q⟩ := h
  refine useT _ (pss_cons (ps_set (i := 2) sc_law_new.nd rfl (by first | exact Or.inl rfl | exact Or.inr rfl) (pe_ix iAll (pv 0) pe_int (fun _ _ => rfl)))
    (pss_cons (ps_if (pt_cmpR oEq (pv 2) pe_str (nomark _)) (pss_one (ps_ret (pe_makeN0 M0_Nothing rfl m_Nothing))) pss_nil)
    (pss_cons (ps_if (pt_cmpR oEq (pv 2) pe_str (nomark _)) (pss_one (ps_ret (pe_makeN0 M0_Truth rfl m_Truth))) pss_nil)
    (pss_cons (ps_if (pt_cmpR oEq (pv 2) pe_str (nomark _)) (pss_one (ps_ret (pe_makeN0 M0_Whole rfl m_Whole))) pss_nil)
    (pss_cons (ps_if (pt_cmpR oEq (pv 2) pe_str (nomark _)) (pss_one (ps_ret (pe_makeN0 M0_Fraction rfl m_Fraction))) pss_nil)
    (pss_cons (ps_if (pt_cmpR oEq (pv 2) pe_str (nomark _)) (pss_one (ps_ret (pe_makeD M_Span hr (pa_cons (pe_ix iAll (pv 0) pe_int (fun _ _ => rfl)) (pa_cons (pe_ix iAll (pv 0) pe_int (fun _ _ => rfl)) pa_nil)) (hk := by omega)))) pss_nil)
    (pss_cons (ps_if (pt_cmpR oEq (pv 2) pe_str (nomark _)) (pss_one (ps_ret (pe_makeD M_Letters hr (pa_cons (pe_ix iAll (pv 0) pe_int (fun _ _ => rfl)) pa_nil) (hk := by omega)))) pss_nil)
    (pss_cons (ps_if (pt_cmpR oEq (pv 2) pe_str (nomark _)) (pss_one (ps_ret (pe_makeD M_Record hr (pa_cons (pe_comp ["_law_name", "_law_inner"] [(1, "_law_kept")] rfl (by decide +kernel) ⟨rfl, .inl rfl, trivial⟩ (piAll (pe_ix iAll (pv 0) pe_int (fun _ _ => rfl))) (fun _ _ _ _ _ => (pg_tup rfl (pgs_cons (pg_name (i := 0) (show (["_law_name", "_law_inner", "_law_kept"] : List Str).Nodup by decide +kernel) rfl (by first | exact Or.inl rfl | exact Or.inr rfl)) (pgs_cons (pg_name (i := 1) (show (["_law_name", "_law_inner", "_law_kept"] : List Str).Nodup by decide +kernel) rfl (by first | exact Or.inl rfl | exact Or.inr rfl)) pgs_nil)))) (fun _ _ _ _ _ => pts_nil) (fun _ _ _ _ _ => (pe_tup (pa_cons (pv 0) (pa_cons (pe_callD D_law_object hr (pa_cons (pv 1) (pa_cons (pv 2) pa_nil)) (hk := by omega)) pa_nil))))) pa_nil) (hk := by omega)))) pss_nil)
    (pss_cons (ps_if (pt_cmpR oEq (pv 2) pe_str (nomark _)) (pss_one (ps_ret (pe_makeD M_Choice hr (pa_cons (pe_comp ["_law_name", "_law_inner"] [(1, "_law_kept")] rfl (by decide +kernel) ⟨rfl, .inl rfl, trivial⟩ (piAll (pe_ix iAll (pv 0) pe_int (fun _ _ => rfl))) (fun _ _ _ _ _ => (pg_tup rfl (pgs_cons (pg_name (i := 0) (show (["_law_name", "_law_inner", "_law_kept"] : List Str).Nodup by decide +kernel) rfl (by first | exact Or.inl rfl | exact Or.inr rfl)) (pgs_cons (pg_name (i := 1) (show (["_law_name", "_law_inner", "_law_kept"] : List Str).Nodup by decide +kernel) rfl (by first | exact Or.inl rfl | exact Or.inr rfl)) pgs_nil)))) (fun _ _ _ _ _ => pts_nil) (fun _ _ _ _ _ => (pe_tup (pa_cons (pv 0) (pa_cons (pe_callD D_law_object hr (pa_cons (pv 1) (pa_cons (pv 2) pa_nil)) (hk := by omega)) pa_nil))))) pa_nil) (hk := by omega)))) pss_nil)
    (pss_cons (ps_if (pt_cmpR oEq (pv 2) pe_str (nomark _)) (pss_one (ps_ret (pe_makeD M_Maybe hr (pa_cons (pe_callD D_law_object hr (pa_cons (pe_ix iAll (pv 0) pe_int (fun _ _ => rfl)) (pa_cons (pv 1) pa_nil)) (hk := by omega)) pa_nil) (hk := by omega)))) pss_nil)
    (pss_cons (ps_if (pt_cmpR oEq (pv 2) pe_str (nomark _)) (pss_one (ps_ret (pe_makeD M_Many hr (pa_cons (pe_callD D_law_object hr (pa_cons (pe_ix iAll (pv 0) pe_int (fun _ _ => rfl)) (pa_cons (pv 1) pa_nil)) (hk := by omega)) pa_nil) (hk := by omega)))) pss_nil)
    (pss_one (ps_ret (pe_makeD M_Turned hr (pa_cons (pe_callD D_law_object hr (pa_cons (pe_ix iAll (pv 0) pe_int (fun _ _ => rfl)) (pa_cons (pv 1) pa_nil)) (hk := by omega)) pa_nil) (hk := by omega))))))))))))))) fun G σ0 hσ go => ?_
  obtain ⟨es, ek, _⟩ := hK.e
  have a0 : ∀ (x : V) (r : List V), atI (x :: r) 0 = some x := fun x r => atI_nat (j := 0) rfl
  have a1 : ∀ (x y : V) (r : List V), atI (x :: y :: r) 1 = some y := fun x y r => atI_nat (j := 1) rfl
  cases g with
  | bare k =>
    rw [dsc] at hv
    obtain ⟨T, _, rfl, hTX, e, ⟨_, _, rfl, ⟨rfl, _⟩, rfl⟩, _⟩ := hv
    obtain ⟨CC, hCC⟩ : ∃ CC, CC = c.b k := ⟨_, rfl⟩
    rcases fin4 k with rfl | rfl | rfl | rfl
    · skip
      subst hσ
      refine go (setW rfl e ?_)
      refine takeW rfl fun N => ?_
      rw [← hCC]
      intro x dx h1 h2 h12
      have E := Ext.made (C := CC) (fs := []) h1 h2 h12
      have M : Mv kp H _ := ⟨fun b u _ e => E.s b u e, E.c⟩
      exact ⟨_, E.sub, q _ _ M ((hK.keep (fun b u _ e => E.s b u e) (by rw [E.s _ _ ek, ek])).le (by rw [sz]; omega)) ⟨hX.no h1, dx, by rw [← hCC]; exact upd_same⟩⟩
    · skip
      subst hσ
      refine go (setW rfl e ?_)
      refine skipW rfl (by decide +kernel) ?_
      refine takeW rfl fun N => ?_
      rw [← hCC]
      intro x dx h1 h2 h12
      have E := Ext.made (C := CC) (fs := []) h1 h2 h12
      have M : Mv kp H _ := ⟨fun b u _ e => E.s b u e, E.c⟩
      exact ⟨_, E.sub, q _ _ M ((hK.keep (fun b u _ e => E.s b u e) (by rw [E.s _ _ ek, ek])).le (by rw [sz]; omega)) ⟨hX.no h1, dx, by rw [← hCC]; exact upd_same⟩⟩
    · skip
      subst hσ
      refine go (setW rfl e ?_)
      refine skipW rfl (by decide +kernel) ?_
      refine skipW rfl (by decide +kernel) ?_
      refine takeW rfl fun N => ?_
      rw [← hCC]
      intro x dx h1 h2 h12
      have E := Ext.made (C := CC) (fs := []) h1 h2 h12
      have M : Mv kp H _ := ⟨fun b u _ e => E.s b u e, E.c⟩
      exact ⟨_, E.sub, q _ _ M ((hK.keep (fun b u _ e => E.s b u e) (by rw [E.s _ _ ek, ek])).le (by rw [sz]; omega)) ⟨hX.no h1, dx, by rw [← hCC]; exact upd_same⟩⟩
    · skip
      subst hσ
      refine go (setW rfl e ?_)
      refine skipW rfl (by decide +kernel) ?_
      refine skipW rfl (by decide +kernel) ?_
      refine skipW rfl (by decide +kernel) ?_
      refine takeW rfl fun N => ?_
      rw [← hCC]
      intro x dx h1 h2 h12
      have E := Ext.made (C := CC) (fs := []) h1 h2 h12
      have M : Mv kp H _ := ⟨fun b u _ e => E.s b u e, E.c⟩
      exact ⟨_, E.sub, q _ _ M ((hK.keep (fun b u _ e => E.s b u e) (by rw [E.s _ _ ek, ek])).le (by rw [sz]; omega)) ⟨hX.no h1, dx, by rw [← hCC]; exact upd_same⟩⟩
  | sp lo hi =>
    rw [dsc] at hv
    rw [okG] at hok
    obtain ⟨T, _, rfl, hTX, e, ⟨_, _, rfl, ⟨rfl, _⟩, _, _, rfl, rfl, _, _, rfl, rfl, rfl⟩, _⟩ := hv
    subst hσ
    refine go (setW rfl e ?_)
    iterate 4 refine skipW rfl (by decide +kernel) ?_
    have a2 : atI [V.str wSp, V.int lo, V.int hi] 2 = some (.int hi) := atI_nat (j := 2) rfl
    refine takeW rfl fun N => ⟨_, rfl, .inl (.inr ⟨_, _, _, _, rfl, rfl, SqT.of e, a1 _ _ _, _, rfl, .inl (.inr ⟨_, _, _, _, rfl, rfl, SqT.of e, a2, ?_⟩)⟩)⟩
    intro x dx h1 h2 h12
    refine ⟨x, dx, lo, hi, rfl, upd_same, hok, rfl, ?_⟩
    rw [upd_upd']
    have E := Ext.made (C := c.s) (fs := spanF lo hi) h1 h2 h12
    have M : Mv kp H _ := ⟨fun b u _ e => E.s b u e, E.c⟩
    exact ⟨_, E.sub, q _ _ M ((hK.keep (fun b u _ e => E.s b u e) (by rw [E.s _ _ ek, ek])).le (by rw [sz]; omega)) ⟨hX.no h1, dx, upd_same⟩⟩
  | le sg =>
    rw [dsc] at hv
    rw [okG] at hok
    obtain ⟨T, _, rfl, hTX, e, ⟨_, _, rfl, ⟨rfl, _⟩, _, _, rfl, ⟨rfl, _⟩, rfl⟩, _⟩ := hv
    subst hσ
    refine go (setW rfl e ?_)
    iterate 5 refine skipW rfl (by decide +kernel) ?_
    refine takeW rfl fun N => ⟨_, rfl, .inl (.inr ⟨_, _, _, _, rfl, rfl, SqT.of e, a1 _ _ _, ?_⟩)⟩
    intro x dx h1 h2 h12
    refine ⟨x, dx, sg, rfl, upd_same, by omega, hok.1, rfl, ?_⟩
    rw [upd_upd']
    have E := Ext.made (C := c.l) (fs := letF sg) h1 h2 h12
    have M : Mv kp H _ := ⟨fun b u _ e => E.s b u e, E.c⟩
    exact ⟨_, E.sub, q _ _ M ((hK.keep (fun b u _ e => E.s b u e) (by rw [E.s _ _ ek, ek])).le (by rw [sz]; omega)) ⟨hX.no h1, dx, upd_same⟩⟩
  | one k g =>
    rw [dsc] at hv
    rw [okG] at hok
    rw [ht] at hht h15
    rw [sz] at hn
    rw [sz] at q
    obtain ⟨T, _, rfl, hTX, e, ⟨_, _, rfl, ⟨rfl, _⟩, v', _, rfl, hd, rfl⟩, _⟩ := hv
    have a1 := a1 (.str (wdO k)) v' []
    obtain ⟨CC, hCC⟩ : ∃ CC, CC = c.o k := ⟨_, rfl⟩
    rcases fin3 k with rfl | rfl | rfl
    · skip
      subst hσ
      refine go (setW rfl e ?_)
      iterate 8 refine skipW rfl (by decide +kernel) ?_
      refine takeW rfl fun N => ?_
      rw [← hCC]
      refine ⟨_, rfl, .inl (.inr ⟨_, _, _, _, rfl, rfl, SqT.of e, a1, _, rfl, v', kp, g, n, X, rfl, hkX, hX, hd, hok, by omega, by omega, hK, by omega, fun o H' M1 hK1 hF1 => ?_⟩)⟩
      intro x dx h1 h2 h12
      refine ⟨x, dx, o, rfl, upd_same, rfl, ?_⟩
      rw [upd_upd']
      have E := Ext.made (C := CC) (fs := [("inner", V.ref o)]) h1 h2 h12
      have M := M1.ext E
      obtain ⟨es1, ek1, _⟩ := hK1.e
      exact ⟨_, M.sub (E.s _ _ ek1), q _ _ M ((hK1.keep (fun b u _ e => E.s b u e) (by rw [E.s _ _ ek1, ek1])).le (by omega)) ⟨(hX.mv M1 ek1).no h1, dx, o, by rw [← hCC]; exact upd_same, FAt.keep (fun b u _ e => E.s b u e) g hF1⟩⟩
    · skip
      subst hσ
      refine go (setW rfl e ?_)
      iterate 9 refine skipW rfl (by decide +kernel) ?_
      refine takeW rfl fun N => ?_
      rw [← hCC]
      refine ⟨_, rfl, .inl (.inr ⟨_, _, _, _, rfl, rfl, SqT.of e, a1, _, rfl, v', kp, g, n, X, rfl, hkX, hX, hd, hok, by omega, by omega, hK, by omega, fun o H' M1 hK1 hF1 => ?_⟩)⟩
      intro x dx h1 h2 h12
      refine ⟨x, dx, o, rfl, upd_same, rfl, ?_⟩
      rw [upd_upd']
      have E := Ext.made (C := CC) (fs := [("inner", V.ref o)]) h1 h2 h12
      have M := M1.ext E
      obtain ⟨es1, ek1, _⟩ := hK1.e
      exact ⟨_, M.sub (E.s _ _ ek1), q _ _ M ((hK1.keep (fun b u _ e => E.s b u e) (by rw [E.s _ _ ek1, ek1])).le (by omega)) ⟨(hX.mv M1 ek1).no h1, dx, o, by rw [← hCC]; exact upd_same, FAt.keep (fun b u _ e => E.s b u e) g hF1⟩⟩
    · skip
      subst hσ
      refine go (setW rfl e ?_)
      iterate 10 refine skipW rfl (by decide +kernel) ?_
      rw [← hCC]
      refine ⟨_, rfl, .inl (.inr ⟨_, _, _, _, rfl, rfl, SqT.of e, a1, _, rfl, v', kp, g, n, X, rfl, hkX, hX, hd, hok, by omega, by omega, hK, by omega, fun o H' M1 hK1 hF1 => ?_⟩)⟩
      intro x dx h1 h2 h12
      refine ⟨x, dx, o, rfl, upd_same, rfl, ?_⟩
      rw [upd_upd']
      have E := Ext.made (C := CC) (fs := [("inner", V.ref o)]) h1 h2 h12
      have M := M1.ext E
      obtain ⟨es1, ek1, _⟩ := hK1.e
      exact ⟨_, M.sub (E.s _ _ ek1), q _ _ M ((hK1.keep (fun b u _ e => E.s b u e) (by rw [E.s _ _ ek1, ek1])).le (by omega)) ⟨(hX.mv M1 ek1).no h1, dx, o, by rw [← hCC]; exact upd_same, FAt.keep (fun b u _ e => E.s b u e) g hF1⟩⟩
  | two k ns fs =>
    rw [dsc] at hv
    rw [okG] at hok
    rw [ht] at hht h15
    rw [sz] at hn
    obtain ⟨hgn, hlen, hoks⟩ := hok
    obtain ⟨T, _, rfl, hTX, e, ⟨_, _, rfl, ⟨rfl, _⟩, _, _, rfl, ⟨l, lvs, rfl, hlX, el, hds, hl1000⟩, rfl⟩, _⟩ := hv
    have hvl : lvs.length = fs.length := by rw [DsAt.len _ (DsX.at _ hds), dscs_len]
    have a1 := a1 (.str (wdT k)) (.ref l) []
    obtain ⟨CC, hCC⟩ : ∃ CC, CC = c.t k := ⟨_, rfl⟩
    rcases fin2 k with rfl | rfl
    · skip
      subst hσ
      refine go (setW rfl e ?_)
      iterate 6 refine skipW rfl (by decide +kernel) ?_
      refine takeW rfl fun N => ?_
      rw [← hCC]
      have hgm := goodNames_mem hgn
      refine .inl ⟨_, rfl, .inl (.inr ⟨_, _, _, _, rfl, rfl, SqT.of e, a1, l, rfl, ⟨_, SqL.of el⟩, fun D hD => ?_⟩)⟩
      have hDX : D ∉ X := hX.no hD
      have hkD : kp ≠ D := fun z => by rw [← z, ek] at hD; cases hD
      refine comp_listM (K := K) (a := l) (xs := lvs) (fun i ys H2 => Mv kp H H2 ∧ ∃ ps : List (Addr × Str × Addr), ys = ps.map (fun x => V.ref x.1) ∧ nms ps = ns.take i ∧ (∀ x, x ∈ ps → x.1 ∉ D :: X ∧ H2 x.1 = some (.tup [.str x.2.1, .ref x.2.2])) ∧ FsAt c (D :: X) H2 (fs.take i) (fms ps) ∧ Kpt c (D :: X) kp H2 (n + szs (fs.take i))) (fun σ => ∃ z1 z2, σ = [z1, z2, some (.ref kp)]) (by omega) ⟨_, _, rfl⟩ ?_ ?_ ?_ ?_
      · rintro i ys H2 ⟨M2, _⟩
        exact SqL.of (M2.k _ _ (fun z => hlX (by rw [z]; exact hkX)) el)
      · have E0 := Ext.lst (xs := []) hD
        refine ⟨⟨fun b u _ e => E0.s b u e, E0.c⟩, [], rfl, rfl, (fun x hx => nomatch hx), rfl, ?_⟩
        show Kpt c (D :: X) kp _ (n + szs [])
        exact ((hK.add hD).keep (fun b u _ e => E0.s b u e) (by rw [E0.s _ _ ek, ek])).le (Nat.le_add_right _ _)
      · rintro i x hx ys σ1 H1 ⟨z1, z2, rfl⟩ ⟨M1, ps, rfl, hnm, hps, hFs, hK1⟩ hD1 hyl R hR
        obtain ⟨g, nm, T', v', hg, hn', rfl, hT'X, eT', hd⟩ := dscs_get fs ns hlen hds hx
        obtain ⟨og, hg2⟩ := okGs_get hoks hg
        have hT'k : T' ≠ kp := fun z => hT'X (by rw [z]; exact hkX)
        obtain ⟨es1, ek1, _⟩ := hK1.e
        have hX1 : Has (D :: X) H1 := (hX.mv M1 ek1).add hD1
        have hil : i < fs.length := by
          rcases Nat.lt_or_ge i fs.length with z | z
          · exact z
          · rw [List.getElem?_eq_none z] at hg; cases hg
        have etk : fs.take (i + 1) = fs.take i ++ [g] := by rw [List.take_add_one, hg]; rfl
        have esz : szs (fs.take (i + 1)) = szs (fs.take i) + sz g := by rw [etk, szs_snoc]
        have hle : szs (fs.take (i + 1)) ≤ szs fs := szs_take fs (i + 1)
        refine ⟨_, _, rfl, SqT.of (M1.k _ _ hT'k eT'), rfl, _, _, rfl, _, _, rfl, rfl, ?_⟩
        refine ⟨_, rfl, _, rfl, _, rfl, v', kp, g, n + szs (fs.take i), D :: X, rfl, List.mem_cons_of_mem _ hkX, hX1, DX.mv (List.mem_cons_of_mem _ hkX) M1 (DX.add hD _ hd), og, by omega, by omega, hK1, by omega, fun o H3 M3 hK3 hF3 => ⟨two_ok, fun T2 hT2 => ?_⟩⟩
        have E3 := Ext.tup (xs := [V.str nm, .ref o]) hT2
        obtain ⟨es3, ek3, _⟩ := hK3.e
        have hX3 := hX1.mv M3 ek3
        have hT2X : T2 ∉ D :: X := hX3.no hT2
        have hD3 : H3 D = some (.lst (ps.map fun x => V.ref x.1)) := M3.k _ _ (Ne.symm hkD) hD1
        have hD4 := E3.s _ _ hD3
        have hT2D : T2 ≠ D := fun z => hT2X (by rw [z]; exact List.mem_cons_self ..)
        have kk : ∀ b u, b ∉ D :: X → H3 b = some u → upd (upd H3 T2 (.tup [.str nm, .ref o])) D (.lst ((ps.map fun x => V.ref x.1) ++ [V.ref T2])) b = some u := fun b u nb e => by
          rw [upd_ne (fun z => nb (by rw [z]; exact List.mem_cons_self ..))]; exact E3.s _ _ e
        have k3 : ∀ b u, b ∉ D :: X → H1 b = some u → H3 b = some u := fun b u nb e => M3.k b u (fun z => nb (by rw [z]; exact List.mem_cons_of_mem _ hkX)) e
        refine hR _ _ _ ⟨_, _, rfl⟩ hD4 ⟨⟨fun b u nb e => ?_, fun cl => closed_lst hD4 (E3.c (M3.c (M1.c cl)))⟩, ps ++ [(T2, nm, o)], by rw [List.map_append]; rfl, ?_, fun y hy => ?_, ?_, ?_⟩
        · rw [upd_ne (ne_of_none e hD)]
          exact E3.s _ _ (M3.k b u nb (M1.k b u nb e))
        · unfold nms at hnm ⊢
          rw [List.map_append, hnm, List.take_add_one, hn']; rfl
        · rcases List.mem_append.mp hy with z | z
          · obtain ⟨b1, b2⟩ := hps y z
            exact ⟨b1, kk _ _ b1 (k3 _ _ b1 b2)⟩
          · rw [List.mem_singleton.mp z]
            exact ⟨hT2X, by show upd _ D _ T2 = _; rw [upd_ne hT2D, upd_same]⟩
        · rw [etk, show fms (ps ++ [(T2, nm, o)]) = fms ps ++ [o] by unfold fms; rw [List.map_append]; rfl]
          exact FsAt.snoc (FAt.keep kk _ hF3) _ (FsAt.keep kk _ (FsAt.keep k3 _ hFs))
        · rw [esz, ← Nat.add_assoc]
          exact hK3.keep kk (by rw [upd_ne hkD]; exact E3.s _ _ ek3 ▸ ek3.symm)
      · rintro ys H' hyl hD' ⟨M', ps, rfl, hnm, hps, hFs, hK'⟩
        rw [hvl, List.take_of_length_le (by omega)] at hnm
        rw [hvl, List.take_of_length_le (Nat.le_refl _)] at hFs hK'
        rw [List.length_map] at hyl
        obtain ⟨es', ek', _⟩ := hK'.e
        have hP : Parts H' D ps := ⟨hD', fun x hx => (hps x hx).2, by omega, fun x hx => Nat.le_trans (hgm.2 _ (by rw [← hnm]; exact List.mem_map.mpr ⟨x, hx, rfl⟩)) (by decide)⟩
        intro y dx hy hdx hne
        have E1 := Ext.made (C := CC) (fs := []) hy hdx hne
        refine ⟨y, dx, D, ps, rfl, upd_same, hP.same E1.s, by rw [hnm]; exact hgn, fun l1 l2 h1 h2 h12 => ⟨rfl, ?_⟩⟩
        have n1 : l1 ≠ y := fun z => by rw [z, upd_same] at h1; cases h1
        have n2 : l2 ≠ y := fun z => by rw [z, upd_same] at h2; cases h2
        rw [upd_swap n2, upd_swap n1, upd_upd']
        have F1 := Ext.made (C := CC) (fs := twoF l1 l2) hy hdx hne
        have g1 : upd (upd H' dx (.own y)) y (.ins CC dx (twoF l1 l2)) l1 = none := by rw [upd_ne n1] at h1 ⊢; exact h1
        have F2 := Ext.lst (xs := (nms ps).map V.str) g1
        have g2 : upd (upd (upd H' dx (.own y)) y (.ins CC dx (twoF l1 l2))) l1 (.lst ((nms ps).map V.str)) l2 = none := by rw [upd_ne (Ne.symm h12)]; rw [upd_ne n2] at h2 ⊢; exact h2
        have F3 := Ext.lst (xs := (fms ps).map V.ref) g2
        have E := (F1.trans F2).trans F3
        have M := M'.ext E
        have hX' := hX.mv M' ek'
        refine ⟨_, M.sub (E.s _ _ ek'), q _ _ M ((hK'.weak.keep (fun b u _ e => E.s b u e) (by rw [E.s _ _ ek', ek'])).le (by rw [sz]; omega)) ⟨hX'.no hy, dx, l1, l2, fms ps, by rw [← hCC]; exact (F2.trans F3).s _ _ upd_same, hX'.no (F1.s.free g1), hX'.no ((F1.trans F2).s.free g2), by rw [← hnm]; exact F3.s _ _ upd_same, upd_same, FsAt.keep (fun b u _ e => E.s b u e) _ (FsAt.weak (fun x hx => List.mem_cons_of_mem _ hx) _ hFs)⟩⟩
    · skip
      subst hσ
      refine go (setW rfl e ?_)
      iterate 7 refine skipW rfl (by decide +kernel) ?_
      refine takeW rfl fun N => ?_
      rw [← hCC]
      have hgm := goodNames_mem hgn
      refine .inl ⟨_, rfl, .inl (.inr ⟨_, _, _, _, rfl, rfl, SqT.of e, a1, l, rfl, ⟨_, SqL.of el⟩, fun D hD => ?_⟩)⟩
      have hDX : D ∉ X := hX.no hD
      have hkD : kp ≠ D := fun z => by rw [← z, ek] at hD; cases hD
      refine comp_listM (K := K) (a := l) (xs := lvs) (fun i ys H2 => Mv kp H H2 ∧ ∃ ps : List (Addr × Str × Addr), ys = ps.map (fun x => V.ref x.1) ∧ nms ps = ns.take i ∧ (∀ x, x ∈ ps → x.1 ∉ D :: X ∧ H2 x.1 = some (.tup [.str x.2.1, .ref x.2.2])) ∧ FsAt c (D :: X) H2 (fs.take i) (fms ps) ∧ Kpt c (D :: X) kp H2 (n + szs (fs.take i))) (fun σ => ∃ z1 z2, σ = [z1, z2, some (.ref kp)]) (by omega) ⟨_, _, rfl⟩ ?_ ?_ ?_ ?_
      · rintro i ys H2 ⟨M2, _⟩
        exact SqL.of (M2.k _ _ (fun z => hlX (by rw [z]; exact hkX)) el)
      · have E0 := Ext.lst (xs := []) hD
        refine ⟨⟨fun b u _ e => E0.s b u e, E0.c⟩, [], rfl, rfl, (fun x hx => nomatch hx), rfl, ?_⟩
        show Kpt c (D :: X) kp _ (n + szs [])
        exact ((hK.add hD).keep (fun b u _ e => E0.s b u e) (by rw [E0.s _ _ ek, ek])).le (Nat.le_add_right _ _)
      · rintro i x hx ys σ1 H1 ⟨z1, z2, rfl⟩ ⟨M1, ps, rfl, hnm, hps, hFs, hK1⟩ hD1 hyl R hR
        obtain ⟨g, nm, T', v', hg, hn', rfl, hT'X, eT', hd⟩ := dscs_get fs ns hlen hds hx
        obtain ⟨og, hg2⟩ := okGs_get hoks hg
        have hT'k : T' ≠ kp := fun z => hT'X (by rw [z]; exact hkX)
        obtain ⟨es1, ek1, _⟩ := hK1.e
        have hX1 : Has (D :: X) H1 := (hX.mv M1 ek1).add hD1
        have hil : i < fs.length := by
          rcases Nat.lt_or_ge i fs.length with z | z
          · exact z
          · rw [List.getElem?_eq_none z] at hg; cases hg
        have etk : fs.take (i + 1) = fs.take i ++ [g] := by rw [List.take_add_one, hg]; rfl
        have esz : szs (fs.take (i + 1)) = szs (fs.take i) + sz g := by rw [etk, szs_snoc]
        have hle : szs (fs.take (i + 1)) ≤ szs fs := szs_take fs (i + 1)
        refine ⟨_, _, rfl, SqT.of (M1.k _ _ hT'k eT'), rfl, _, _, rfl, _, _, rfl, rfl, ?_⟩
        refine ⟨_, rfl, _, rfl, _, rfl, v', kp, g, n + szs (fs.take i), D :: X, rfl, List.mem_cons_of_mem _ hkX, hX1, DX.mv (List.mem_cons_of_mem _ hkX) M1 (DX.add hD _ hd), og, by omega, by omega, hK1, by omega, fun o H3 M3 hK3 hF3 => ⟨two_ok, fun T2 hT2 => ?_⟩⟩
        have E3 := Ext.tup (xs := [V.str nm, .ref o]) hT2
        obtain ⟨es3, ek3, _⟩ := hK3.e
        have hX3 := hX1.mv M3 ek3
        have hT2X : T2 ∉ D :: X := hX3.no hT2
        have hD3 : H3 D = some (.lst (ps.map fun x => V.ref x.1)) := M3.k _ _ (Ne.symm hkD) hD1
        have hD4 := E3.s _ _ hD3
        have hT2D : T2 ≠ D := fun z => hT2X (by rw [z]; exact List.mem_cons_self ..)
        have kk : ∀ b u, b ∉ D :: X → H3 b = some u → upd (upd H3 T2 (.tup [.str nm, .ref o])) D (.lst ((ps.map fun x => V.ref x.1) ++ [V.ref T2])) b = some u := fun b u nb e => by
          rw [upd_ne (fun z => nb (by rw [z]; exact List.mem_cons_self ..))]; exact E3.s _ _ e
        have k3 : ∀ b u, b ∉ D :: X → H1 b = some u → H3 b = some u := fun b u nb e => M3.k b u (fun z => nb (by rw [z]; exact List.mem_cons_of_mem _ hkX)) e
        refine hR _ _ _ ⟨_, _, rfl⟩ hD4 ⟨⟨fun b u nb e => ?_, fun cl => closed_lst hD4 (E3.c (M3.c (M1.c cl)))⟩, ps ++ [(T2, nm, o)], by rw [List.map_append]; rfl, ?_, fun y hy => ?_, ?_, ?_⟩
        · rw [upd_ne (ne_of_none e hD)]
          exact E3.s _ _ (M3.k b u nb (M1.k b u nb e))
        · unfold nms at hnm ⊢
          rw [List.map_append, hnm, List.take_add_one, hn']; rfl
        · rcases List.mem_append.mp hy with z | z
          · obtain ⟨b1, b2⟩ := hps y z
            exact ⟨b1, kk _ _ b1 (k3 _ _ b1 b2)⟩
          · rw [List.mem_singleton.mp z]
            exact ⟨hT2X, by show upd _ D _ T2 = _; rw [upd_ne hT2D, upd_same]⟩
        · rw [etk, show fms (ps ++ [(T2, nm, o)]) = fms ps ++ [o] by unfold fms; rw [List.map_append]; rfl]
          exact FsAt.snoc (FAt.keep kk _ hF3) _ (FsAt.keep kk _ (FsAt.keep k3 _ hFs))
        · rw [esz, ← Nat.add_assoc]
          exact hK3.keep kk (by rw [upd_ne hkD]; exact E3.s _ _ ek3 ▸ ek3.symm)
      · rintro ys H' hyl hD' ⟨M', ps, rfl, hnm, hps, hFs, hK'⟩
        rw [hvl, List.take_of_length_le (by omega)] at hnm
        rw [hvl, List.take_of_length_le (Nat.le_refl _)] at hFs hK'
        rw [List.length_map] at hyl
        obtain ⟨es', ek', _⟩ := hK'.e
        have hP : Parts H' D ps := ⟨hD', fun x hx => (hps x hx).2, by omega, fun x hx => Nat.le_trans (hgm.2 _ (by rw [← hnm]; exact List.mem_map.mpr ⟨x, hx, rfl⟩)) (by decide)⟩
        intro y dx hy hdx hne
        have E1 := Ext.made (C := CC) (fs := []) hy hdx hne
        refine ⟨y, dx, D, ps, rfl, upd_same, hP.same E1.s, by rw [hnm]; exact hgn, fun l1 l2 h1 h2 h12 => ⟨rfl, ?_⟩⟩
        have n1 : l1 ≠ y := fun z => by rw [z, upd_same] at h1; cases h1
        have n2 : l2 ≠ y := fun z => by rw [z, upd_same] at h2; cases h2
        rw [upd_swap n2, upd_swap n1, upd_upd']
        have F1 := Ext.made (C := CC) (fs := twoF l1 l2) hy hdx hne
        have g1 : upd (upd H' dx (.own y)) y (.ins CC dx (twoF l1 l2)) l1 = none := by rw [upd_ne n1] at h1 ⊢; exact h1
        have F2 := Ext.lst (xs := (nms ps).map V.str) g1
        have g2 : upd (upd (upd H' dx (.own y)) y (.ins CC dx (twoF l1 l2))) l1 (.lst ((nms ps).map V.str)) l2 = none := by rw [upd_ne (Ne.symm h12)]; rw [upd_ne n2] at h2 ⊢; exact h2
        have F3 := Ext.lst (xs := (fms ps).map V.ref) g2
        have E := (F1.trans F2).trans F3
        have M := M'.ext E
        have hX' := hX.mv M' ek'
        refine ⟨_, M.sub (E.s _ _ ek'), q _ _ M ((hK'.weak.keep (fun b u _ e => E.s b u e) (by rw [E.s _ _ ek', ek'])).le (by rw [sz]; omega)) ⟨hX'.no hy, dx, l1, l2, fms ps, by rw [← hCC]; exact (F2.trans F3).s _ _ upd_same, hX'.no (F1.s.free g1), hX'.no ((F1.trans F2).s.free g2), by rw [← hnm]; exact F3.s _ _ upd_same, upd_same, FsAt.keep (fun b u _ e => E.s b u e) _ (FsAt.weak (fun x hx => List.mem_cons_of_mem _ hx) _ hFs)⟩⟩
theorem all_law_object {f f' : Addr} {fd fd' : FuncData} {c : FC} (nb : NB mg) (F : FunAt K mg "_law_new" s_law_new ["_law_form_here", "_law_kept"] f fd) (F' : FunAt K mg "_law_object" s_law_object ["_law_form_here", "_law_kept"] f' fd')
    (M0_Nothing : Mk0 K (c.b 0)) (m_Nothing : mg "Nothing" = some (.ref (c.b 0))) (M0_Truth : Mk0 K (c.b 1)) (m_Truth : mg "Truth" = some (.ref (c.b 1))) (M0_Whole : Mk0 K (c.b 2)) (m_Whole : mg "Whole" = some (.ref (c.b 2))) (M0_Fraction : Mk0 K (c.b 3)) (m_Fraction : mg "Fraction" = some (.ref (c.b 3)))
    (M_Span : MakeOk P w K mg base 1 "Span" c.s ["self", "low", "high"] (spSpanInit c.s)) (M_Letters : MakeOk P w K mg base 2 "Letters" c.l ["self", "signs"] (spLetInit c.l)) (M_Record : MakeOk P w K mg base 4 "Record" (c.t 0) ["self", "parts"] (spTwoInit (c.t 0))) (M_Choice : MakeOk P w K mg base 4 "Choice" (c.t 1) ["self", "cases"] (spTwoInit (c.t 1)))
    (M_Maybe : MakeOk P w K mg base 1 "Maybe" (c.o 0) ["self", "inner"] (spOneInit (c.o 0))) (M_Many : MakeOk P w K mg base 1 "Many" (c.o 1) ["self", "inner"] (spOneInit (c.o 1))) (M_Turned : MakeOk P w K mg base 1 "Turned" (c.o 2) ["self", "inner"] (spOneInit (c.o 2))) : ∀ d, DefOk P w K mg base (2 * d + 8) "_law_object" ["_law_form_here", "_law_kept"] (spObj c d)
  | 0 => DefOk.none F' fun vs H Q E ⟨_, _, g, _, _, _, _, _, _, _, h, _⟩ => by have := ht_pos g; omega
  | d + 1 => step_law_object F' (step_law_new nb F M0_Nothing m_Nothing M0_Truth m_Truth M0_Whole m_Whole M0_Fraction m_Fraction M_Span M_Letters M_Record M_Choice M_Maybe M_Many M_Turned (all_law_object nb F F' M0_Nothing m_Nothing M0_Truth m_Truth M0_Whole m_Whole M0_Fraction m_Fraction M_Span M_Letters M_Record M_Choice M_Maybe M_Many M_Turned d))
def spMade (c : FC) (d : Nat) : Sp := fun vs H Q _ => ∃ (vf : V) (f : Fm) (X : List Addr), vs = [vf] ∧ Has X H ∧ DX X H (dsc f) vf ∧ okG f ∧ ht f ≤ d ∧ ht f ≤ 15 ∧ sz f ≤ 1000 ∧ ∀ o H', Ext H H' → FAt c X H' f o → Q (.ref o) H'
theorem ok_law_made23 {f : Addr} {fd : FuncData} {d : Nat} {c : FC} (F : FunAt K mg "_law_made" s_law_made ["_law_form_here"] f fd) (D_law_object : DefOk P w K mg base (2 * d + 8) "_law_object" ["_law_form_here", "_law_kept"] (spObj c d)) : DefOk P w K mg base (2 * d + 9) "_law_made" ["_law_form_here"] (spMade c d) := by
  refine F.ok sc_law_made (fun vs H Q E h => ?_) (fun cdv A outer s H vs Q E hr h => ?_)
  · obtain ⟨_, _, _, rfl, _⟩ := h; rfl
  obtain ⟨vf, g, X, rfl, hX, hv, hok, hht, h15, hsz, q⟩ := h
  refine ⟨_, (pss_one (ps_ret (pe_callD D_law_object hr (pa_cons (pv 0) (pa_cons (pe_lst pa_nil) pa_nil)) (hk := by omega)))), ?_⟩
  refine ⟨_, rfl, Nat.zero_le _, fun kp hkp => ?_⟩
  have E0 := Ext.lst (xs := []) hkp
  refine ⟨vf, kp, g, 0, kp :: X, rfl, List.mem_cons_self .., (hX.ext E0.s).add upd_same, (DX.add hkp _ hv).same E0.s, hok, hht, h15, ⟨[], upd_same, Nat.le_refl _, fun e he => nomatch he⟩, by omega, fun o H' M hK hF => ?_⟩
  have E1 : Ext H H' := ⟨fun b u e => M.k b u (ne_of_none e hkp) (E0.s _ _ e), fun cl => M.c (E0.c cl)⟩
  exact ⟨_, E1.sub, q o H' E1 (FAt.weak (fun x hx => List.mem_cons_of_mem _ hx) _ hF)⟩

/-! ### k23: values drawn -/
def fracOk : D → Bool
  | .tup [.int p, .int q] => decide (0 < q ∧ Int.gcd p q = 1 ∧ p.natAbs ≤ 10 ^ 38 ∧ q ≤ 10 ^ 38)
  | _ => false
def spFrac : Sp := fun vs H Q _ => ∃ a b : Int, vs = [.int a, .int b] ∧ ∀ (p q : Int) (t : Addr) (H' : Hp), Ext H H' → H t = none → H' t = some (.tup [.int p, .int q]) → fracOk (.tup [.int p, .int q]) = true → Q (.ref t) H'
theorem three_ok : 3 ≤ sizeLine := by decide
theorem ok_law_fraction {f : Addr} {fd : FuncData} (nb : NB mg) (F : FunAt K mg "_law_fraction" s_law_fraction ["_law_one", "_law_other"] f fd) : DefOk P w K mg base 1 "_law_fraction" ["_law_one", "_law_other"] spFrac := by
  refine F.ok sc_law_fraction (fun vs H Q E h => ?_) (fun cdv A outer s H vs Q E hr h => ?_)
  · obtain ⟨_, _, rfl, _⟩ := h; rfl
  obtain ⟨a, b, rfl, q⟩ := h
  refine ⟨_, (pss_cons (ps_set (i := 2) sc_law_fraction.nd rfl (by first | exact Or.inl rfl | exact Or.inr rfl) (pe_op oMul (pe_op op_mod (pe_op op_fdivB (pv 0) pe_int) (pe_ix iAll (pe_lst (pa_cons pe_int (pa_cons pe_int (pa_cons (pe_op op_pow pe_int pe_int) pa_nil)))) (pe_op op_mod (pv 0) pe_int) (fun _ _ => rfl))) (pe_ix iAll (pe_lst (pa_cons pe_int (pa_cons (pe_un un_neg pe_int) pa_nil))) (pe_op op_mod (pv 1) pe_int) (fun _ _ => rfl))))
    (pss_cons (ps_set (i := 3) sc_law_fraction.nd rfl (by first | exact Or.inl rfl | exact Or.inr rfl) (pe_op oAdd pe_int (pe_op op_mod (pe_op op_fdivB (pv 1) pe_int) (pe_ix iAll (pe_lst (pa_cons pe_int (pa_cons pe_int (pa_cons (pe_op op_pow pe_int pe_int) pa_nil)))) (pe_op op_mod (pe_op op_fdivB (pv 1) pe_int) pe_int) (fun _ _ => rfl)))))
    (pss_cons (ps_set (i := 4) sc_law_fraction.nd rfl (by first | exact Or.inl rfl | exact Or.inr rfl) (pe_callB call_abs rfl nb.abs_ bo_abs (pa_cons (pv 2) pa_nil)))
    (pss_cons (ps_set (i := 5) sc_law_fraction.nd rfl (by first | exact Or.inl rfl | exact Or.inr rfl) (pv 3))
    (pss_cons (ps_while PassesOwn.never (pt_cmpR oGt (pv 4) pe_int (nomark _))
      (pss_cons (ps_set (i := 6) sc_law_fraction.nd rfl (by first | exact Or.inl rfl | exact Or.inr rfl) (pe_op op_mod (pv 5) (pv 4)))
      (pss_cons (ps_set (i := 5) sc_law_fraction.nd rfl (by first | exact Or.inl rfl | exact Or.inr rfl) (pv 4))
      (pss_one (ps_set (i := 4) sc_law_fraction.nd rfl (by first | exact Or.inl rfl | exact Or.inr rfl) (pv 6))))))
    (pss_one (ps_ret (pe_tup (pa_cons (pe_op op_fdivB (pv 2) (pv 5)) (pa_cons (pe_op op_fdivB (pv 3) (pv 5)) pa_nil)))))))))), ?_⟩
  have pw : CPow 10 38 := by refine ⟨?_, ?_, ?_⟩ <;> decide
  obtain ⟨M, hM, hM1⟩ := atI_modG V.int [10, 1000, 10 ^ Int.toNat 38] a 3 rfl (by show 0 < 3; decide)
  have hMb : 0 < M ∧ M ≤ 10 ^ 38 := by
    have : ∀ y ∈ ([10, 1000, 10 ^ Int.toNat 38] : List Int), 0 < y ∧ y ≤ 10 ^ 38 := by decide +kernel
    exact this M hM
  obtain ⟨S, hS, hS1⟩ := atI_modG V.int [1, -1] b 2 rfl (by show 0 < 2; decide)
  have hSb : S = 1 ∨ S = -1 := by simpa using hS
  obtain ⟨N, hN, hN1⟩ := atI_modG V.int [6, 1000, 10 ^ Int.toNat 38] (b / 2) 3 rfl (by show 0 < 3; decide)
  have hNb : 0 < N ∧ N ≤ 10 ^ 38 := by
    have : ∀ y ∈ ([6, 1000, 10 ^ Int.toNat 38] : List Int), 0 < y ∧ y ≤ 10 ^ 38 := by decide +kernel
    exact this N hN
  have hcm : CMul (a / 3 % M) S := by rcases hSb with rfl | rfl <;> exact .inr ⟨by decide, by decide⟩
  have m0 := Int.emod_nonneg (a / 3) (show M ≠ 0 by omega)
  have m1 := Int.emod_lt_of_pos (a / 3) hMb.1
  have n0 := Int.emod_nonneg (b / 6) (show N ≠ 0 by omega)
  have n1 := Int.emod_lt_of_pos (b / 6) hNb.1
  refine ⟨_, rfl, _, _, rfl, rfl, ⟨by decide, .inl (by decide)⟩, _, _, rfl, rfl, pw, three_ok, fun g1 hg1 => ⟨_, rfl, _, _, rfl, rfl, (by show (0 : Int) < 3; decide), .inl (.inl ⟨_, _, _, _, rfl, rfl, SqL.of upd_same, hM1, _, _, rfl, rfl, hMb.1, _, rfl, two_ok, fun g2 hg2 => ⟨_, rfl, _, _, rfl, rfl, (by show (0 : Int) < 2; decide), .inl (.inl ⟨_, _, _, _, rfl, rfl, SqL.of upd_same, hS1, .inl ⟨_, _, rfl, rfl, hcm, ?_⟩⟩)⟩⟩)⟩⟩
  have X2 := (Ext.lst (xs := [V.int 10, .int 1000, .int (10 ^ Int.toNat 38)]) hg1).trans (Ext.lst (xs := [V.int 1, .int (-1)]) hg2)
  have hT : (a / 3 % M * S).natAbs ≤ 10 ^ 38 := by rcases hSb with rfl | rfl <;> omega
  dsimp only
  generalize a / 3 % M * S = T at hT ⊢
  refine ⟨_, rfl, _, _, rfl, rfl, ⟨by decide, .inl (by decide)⟩, _, _, rfl, rfl, pw, three_ok, fun g3 hg3 => ⟨_, rfl, _, _, rfl, rfl, ⟨by decide, .inl (by decide)⟩, _, _, rfl, rfl, (by show (0 : Int) < 3; decide), .inl (.inl ⟨_, _, _, _, rfl, rfl, SqL.of upd_same, hN1, _, _, rfl, rfl, hNb.1, .inl ⟨_, _, rfl, rfl, ?_⟩⟩)⟩⟩
  have X3 := X2.trans (Ext.lst (xs := [V.int 6, .int 1000, .int (10 ^ Int.toNat 38)]) hg3)
  have hB : 0 < 1 + b / 6 % N ∧ 1 + b / 6 % N ≤ 10 ^ 38 := by omega
  dsimp only
  generalize 1 + b / 6 % N = B at hB ⊢
  generalize upd (upd (upd H g1 _) g2 _) g3 _ = H3 at X3 ⊢
  refine ⟨_, rfl, _, rfl, _, rfl, ?_⟩
  obtain ⟨B, rfl⟩ : ∃ n : Nat, B = n := ⟨B.toNat, by omega⟩
  refine ⟨fun m σ H2 => H3 = H2 ∧ ∃ (y : Nat) (z6 : Option V), σ = [some (.int a), some (.int b), some (.int T), some (.int (B : Int)), some (.int (m : Nat)), some (.int (y : Nat)), z6] ∧ Nat.gcd y m = Nat.gcd B T.natAbs ∧ 0 < y, ⟨T.natAbs, rfl, B, none, ?_, rfl, by omega⟩, ?_⟩
  · rw [show (if T < 0 then -T else T) = ((T.natAbs : Nat) : Int) by split <;> omega]; rfl
  rintro m σ H2 ⟨rfl, y, z6, rfl, hg, hy⟩
  refine ⟨_, rfl, _, _, rfl, rfl, _, rfl, ?_⟩
  refine iteD (fun c => ?_) (fun c => ?_)
  · have hm : 0 < m := by omega
    refine ⟨fun σ' H' => ∃ m', m' < m ∧ (H3 = H' ∧ ∃ (y : Nat) (z6 : Option V), σ' = [some (.int a), some (.int b), some (.int T), some (.int (B : Int)), some (.int (m' : Nat)), some (.int (y : Nat)), z6] ∧ Nat.gcd y m' = Nat.gcd B T.natAbs ∧ 0 < y), fun _ _ h => h, ?_⟩
    refine ⟨_, rfl, _, rfl, _, _, rfl, rfl, (by omega), _, rfl, _, rfl, y % m, Nat.mod_lt _ hm, rfl, m, some (.int ((y % m : Nat) : Int)), ?_, ?_, hm⟩
    · dsimp only
      rw [← Int.natCast_emod]; rfl
    · rw [Nat.gcd_comm, ← Nat.gcd_rec, Nat.gcd_comm]; exact hg
  · have hm : m = 0 := by omega
    subst hm
    rw [Nat.gcd_zero_right] at hg
    have hyB : y ≤ B := by rw [hg]; exact Nat.gcd_le_left _ (by omega)
    have dvT : (y : Int) ∣ T := by rw [hg]; exact Int.ofNat_dvd_left.mpr (Nat.gcd_dvd_right _ _)
    have dvB : (y : Int) ∣ (B : Int) := by rw [hg]; exact Int.natCast_dvd_natCast.mpr (Nat.gcd_dvd_left _ _)
    have hbl : Builtin.Int.intBits (y : Int) ≤ 9000 := by
      rw [bits_eq]
      have h38 : (10 : Nat) ^ 38 < 2 ^ 200 := by decide +kernel
      exact Nat.le_trans (blen_le (show y < 2 ^ 200 by omega)) (by decide)
    refine ⟨_, rfl, _, rfl, _, _, rfl, rfl, ⟨by omega, .inl hbl⟩, _, rfl, _, rfl, _, _, rfl, rfl, ⟨by omega, .inl hbl⟩, two_ok, fun t ht => ?_⟩
    have X4 := X3.trans (Ext.tup (xs := [V.int (T / (y : Int)), .int ((B : Int) / (y : Int))]) ht)
    refine ⟨_, X4.sub, q _ _ t _ X4 (X3.s.free ht) upd_same (decide_eq_true ⟨?_, ?_, ?_, ?_⟩)⟩
    · exact Int.ediv_pos_of_pos_of_dvd (by omega) (by omega) dvB
    · have : Int.gcd T (B : Int) = y := by rw [hg, Nat.gcd_comm]; rfl
      rw [← this]
      exact Int.gcd_ediv_gcd_ediv_gcd (by rw [this]; exact hy)
    · have := Int.natAbs_ediv_le_natAbs T (y : Int)
      omega
    · have := Int.ediv_le_self (a := (B : Int)) (y : Int) (by omega)
      omega
def spSize : Sp := fun vs H Q _ => ∃ (vf : V) (c : Int) (p : Addr) (f : Fm) (X : List Addr), vs = [vf, .int c, .ref p] ∧ DX X H (dsc f) vf ∧ Pool p H ∧ okG f ∧ ((∃ s, f = .le s ∧ ∀ n : Nat, n ≤ 200 → Q (.int ((n : Nat) : Int)) H) ∨ (∃ g, f = .one 1 g ∧ ∀ n : Nat, n ≤ 60 → Q (.int ((n : Nat) : Int)) H))
theorem ite2 {b : Bool} {A B : Prop} (h1 : A) (h2 : B) : if b = true then A else B := by
  cases b
  · exact iteF h2
  · exact iteT h1
theorem dsc_tup : ∀ f : Fm, ∃ w r, dsc f = .tup (.str w :: r)
  | .bare k => ⟨_, _, by rw [dsc]⟩
  | .sp a b => ⟨_, _, by rw [dsc]⟩
  | .le s => ⟨_, _, by rw [dsc]⟩
  | .one k f => ⟨_, _, by rw [dsc]⟩
  | .two k ns fs => ⟨_, _, by rw [dsc]⟩
theorem ok_law_size {f : Addr} {fd : FuncData} (nb : NB mg) (F : FunAt K mg "_law_size" s_law_size ["_law_form_here", "_law_cell", "_law_pool_here"] f fd) : DefOk P w K mg base 1 "_law_size" ["_law_form_here", "_law_cell", "_law_pool_here"] spSize := by
  refine F.ok sc_law_size (fun vs H Q E h => ?_) (fun cdv A outer s H vs Q E hr h => ?_)
  · obtain ⟨_, _, _, _, _, rfl, _⟩ := h; rfl
  obtain ⟨vf, c, p, g, X, rfl, hv, ⟨ms, hp, hpl⟩, hok, hc⟩ := h
  refine useT _ (pss_cons (ps_if (PW.pt (pw_and (pt_cmpR oEq (pe_ix iAll (pv 0) pe_int (fun _ _ => rfl)) pe_str (nomark _)) (pw_and1 (pt_cmpR oEq (pe_op op_mod (pe_op op_fdiv (pv 1) pe_int) pe_int) pe_int (nomark _))))) (pss_one (ps_ret (pe_op op_mod (pe_op op_fdiv (pv 1) pe_int) pe_int))) pss_nil)
    (pss_cons (ps_if (pt_cmpR oEq (pe_ix iAll (pv 0) pe_int (fun _ _ => rfl)) pe_str (nomark _)) (pss_one (ps_ret (pe_ix iAll (pe_lst (pa_cons (pe_op op_mod (pv 1) pe_int) (pa_cons pe_int pa_nil))) (pe_callTy call_intA rfl nb.int_ bo_int (pa_cons (pe_and (pe_cmpR oEq (pe_op op_mod (pv 1) pe_int) pe_int (nomark _)) (pe_and (pe_cmpR oLt (pe_callB call_len rfl nb.len_ bo_len (pa_cons (pe_ix iAll (pv 0) pe_int (fun _ _ => rfl)) pa_nil)) pe_int (nomark _)) (pe_one (pe_cmpR oGt (pe_callB call_len rfl nb.len_ bo_len (pa_cons (pv 2) pa_nil)) pe_int (nomark _))))) pa_nil)) (fun _ _ => rfl)))) pss_nil)
    (pss_cons (ps_if (pt_cmpR op_in_seq (pe_ix iAll (pe_ix iAll (pv 0) pe_int (fun _ _ => rfl)) pe_int (fun _ _ => rfl)) (pe_lst (pa_cons pe_str (pa_cons pe_str pa_nil))) (by with_unfolding_all rfl)) (pss_one (ps_ret (pe_op op_mod (pe_op op_fdiv (pv 1) pe_int) pe_int))) pss_nil)
    (pss_cons (ps_if (PW.pt (pw_and (pt_cmpR oEq (pe_callB call_len rfl nb.len_ bo_len (pa_cons (pe_ix iAll (pv 0) pe_int (fun _ _ => rfl)) pa_nil)) pe_int (nomark _)) (pw_and1 (pt_cmpR oEq (pe_op op_mod (pe_op op_fdiv (pv 1) pe_int) pe_int) pe_int (nomark _))))) (pss_one (ps_ret (pe_op op_mod (pe_op op_fdiv (pv 1) pe_int) pe_int))) pss_nil)
    (pss_one (ps_ret (pe_op op_mod (pv 1) (pe_ix iAll (pe_lst (pa_cons pe_int (pa_cons pe_int pa_nil))) (pe_callTy call_intA rfl nb.int_ bo_int (pa_cons (pe_cmpR oGt (pe_callB call_len rfl nb.len_ bo_len (pa_cons (pv 2) pa_nil)) pe_int (nomark _)) pa_nil)) (fun _ _ => rfl))))))))) fun G σ0 hσ go => ?_
  have a0 : ∀ (x : V) (r : List V), atI (x :: r) 0 = some x := fun x r => atI_nat (j := 0) rfl
  have a1 : ∀ (x y : V) (r : List V), atI (x :: y :: r) 1 = some y := fun x y r => atI_nat (j := 1) rfl
  rcases hc with ⟨sg, rfl, q⟩ | ⟨g, rfl, q⟩
  · rw [dsc] at hv
    rw [okG] at hok
    obtain ⟨T, _, rfl, hTX, e, ⟨_, _, rfl, ⟨rfl, _⟩, _, _, rfl, ⟨rfl, hsl⟩, rfl⟩, _⟩ := hv
    obtain ⟨n, hn, en⟩ := mod_nat c 7 (by decide)
    have en : c % 7 = ((n : Nat) : Int) := en
    obtain ⟨n', hn', en'⟩ := mod_nat (c / 56) 41 (by decide)
    subst hσ
    refine go ?_
    refine ⟨_, rfl, .inl (.inr ⟨_, _, _, _, rfl, rfl, SqT.of e, a0 _ _, rfl, _, rfl, iteY rfl ?_⟩)⟩
    refine ⟨_, rfl, _, _, rfl, rfl, ⟨by decide, by decide⟩, _, _, rfl, rfl, (by show (0 : Int) < 8; decide), rfl, _, rfl, iteD (fun c1 => ?_) (fun c1 => ?_)⟩
    · have en : c / 56 % 41 = ((n' : Nat) : Int) := en'
      refine ⟨_, rfl, _, _, rfl, rfl, ⟨by decide, by decide⟩, _, _, rfl, rfl, (by show (0 : Int) < 41; decide), H, .refl (Same.refl _), ?_⟩
      dsimp only
      rw [en]; exact q n' (by omega)
    refine ⟨_, rfl, .inl (.inr ⟨_, _, _, _, rfl, rfl, SqT.of e, a0 _ _, rfl, _, rfl, iteY rfl ?_⟩)⟩
    refine ⟨_, rfl, _, _, rfl, rfl, (by show (0 : Int) < 7; decide), two_ok, fun g1 hg1 => ?_⟩
    have X1 := Ext.lst (xs := [V.int (c % 7), .int 200]) hg1
    have fin : ∀ b : Bool, ∃ v : Nat, v ≤ 200 ∧ atI [V.int (c % 7), .int 200] (if b = true then 1 else 0) = some (.int ((v : Nat) : Int)) := fun b => by
      cases b
      · exact ⟨n, by omega, by rw [en]; exact atI_nat (j := 0) rfl⟩
      · exact ⟨200, by omega, atI_nat (j := 1) rfl⟩
    have hsl60 : sg.length ≤ sizeLine := small5 (by omega)
    refine ⟨_, rfl, _, _, rfl, rfl, (by show (0 : Int) < 41; decide), rfl, _, rfl, iteD (fun c2 => ?_) (fun c2 => ?_)⟩
    · refine ⟨_, rfl, .inl (.inr ⟨_, _, _, _, rfl, rfl, SqT.of (X1.s _ _ e), a1 _ _ _, _, _, rfl, ⟨hsl60, rfl⟩, .inl ⟨_, _, rfl, rfl, _, rfl, iteD (fun c3 => ?_) (fun c3 => ?_)⟩⟩)⟩
      · refine ⟨_, rfl, _, _, rfl, .inl ⟨_, SqL.of (X1.s _ _ hp), rfl⟩, _, _, rfl, rfl, ?_⟩
        obtain ⟨v, hv1, hv2⟩ := fin (decide (70 < (((ms.map V.int).length : Nat) : Int)))
        exact .inl (.inr ⟨_, rfl, .inl (.inl ⟨_, _, _, _, rfl, rfl, SqL.of upd_same, hv2, H, .refl X1.s, q v hv1⟩)⟩)
      · obtain ⟨v, hv1, hv2⟩ := fin false
        exact .inl (.inr ⟨_, rfl, .inl (.inl ⟨_, _, _, _, rfl, rfl, SqL.of upd_same, hv2, H, .refl X1.s, q v hv1⟩)⟩)
    · obtain ⟨v, hv1, hv2⟩ := fin false
      exact .inl (.inr ⟨_, rfl, .inl (.inl ⟨_, _, _, _, rfl, rfl, SqL.of upd_same, hv2, H, .refl X1.s, q v hv1⟩)⟩)
  · rw [dsc] at hv
    rw [okG] at hok
    obtain ⟨T, _, rfl, hTX, e, ⟨_, _, rfl, ⟨rfl, _⟩, v', _, rfl, hd, rfl⟩, _⟩ := hv
    obtain ⟨w', r', er⟩ := dsc_tup g
    rw [er] at hd
    obtain ⟨T', ws, rfl, hT'X, e', ⟨_, ws', rfl, ⟨rfl, hw'⟩, hr'⟩, hwl⟩ := hd
    subst hσ
    refine go ?_
    refine ⟨_, rfl, .inl (.inr ⟨_, _, _, _, rfl, rfl, SqT.of e, a0 _ _, rfl, _, rfl, iteN (by decide +kernel) ?_⟩)⟩
    refine ⟨_, rfl, .inl (.inr ⟨_, _, _, _, rfl, rfl, SqT.of e, a0 _ _, rfl, _, rfl, iteN (by decide +kernel) ?_⟩)⟩
    refine ⟨_, rfl, .inl (.inr ⟨_, _, _, _, rfl, rfl, SqT.of e, a1 _ _ _, .inl (.inr ⟨_, _, _, _, rfl, rfl, SqT.of e', a0 _ _, two_ok, fun g1 hg1 => ?_⟩)⟩)⟩
    have X1 := Ext.lst (xs := [V.str (Str.ofString "truth"), .str (Str.ofString "nothing")]) hg1
    have cl : ∀ (m : Nat) (x : Int), 0 < m → m ≤ 61 → ∀ H', Same H H' → ∃ H'', L2.Sub H H'' H' ∧ Q (.int (x % ((m : Nat) : Int))) H'' := fun m x h1 h2 H' hs => by
      obtain ⟨n, hn, en⟩ := mod_nat x m h1
      rw [en]
      exact ⟨H, .refl hs, q n (by omega)⟩
    refine ⟨_, _, rfl, .inl (SqL.of upd_same), rfl, rfl, _, rfl, ite2 ?_ ?_⟩
    · exact ⟨_, rfl, _, _, rfl, rfl, ⟨by decide, by decide⟩, _, _, rfl, rfl, (by show (0 : Int) < 61; decide), cl 61 _ (by decide) (by decide) _ X1.s⟩
    have fin : ∀ H', Same H H' → ∀ b : Bool, ∃ v : Nat, (0 < v ∧ v ≤ 61) ∧ atI [V.int 2, .int 4] (if b = true then 1 else 0) = some (.int ((v : Nat) : Int)) := fun _ _ b => by
      cases b
      · exact ⟨2, by omega, atI_nat (j := 0) rfl⟩
      · exact ⟨4, by omega, atI_nat (j := 1) rfl⟩
    refine ⟨_, rfl, .inl (.inr ⟨_, _, _, _, rfl, rfl, SqT.of (X1.s _ _ e), a1 _ _ _, _, _, rfl, .inr ⟨_, SqT.of (X1.s _ _ e'), rfl⟩, rfl, _, rfl, (fun (hA : _) => iteD (fun c2 => ⟨_, rfl, _, _, rfl, rfl, ⟨by decide, by decide⟩, _, _, rfl, rfl, (by show (0 : Int) < 8; decide), rfl, _, rfl, iteD (fun c3 => ?_) (fun c3 => hA)⟩) (fun c2 => hA)) ?_⟩)⟩
    · refine ⟨_, rfl, two_ok, fun g2 hg2 => ?_⟩
      have X2 := X1.trans (Ext.lst (xs := [V.int 2, .int 4]) hg2)
      obtain ⟨v, ⟨hv0, hv1⟩, hv2⟩ := fin _ X2.s (decide (50 < (((ms.map V.int).length : Nat) : Int)))
      exact ⟨_, rfl, _, _, rfl, .inl ⟨_, SqL.of (X2.s _ _ hp), rfl⟩, _, _, rfl, rfl, .inl (.inr ⟨_, rfl, .inl (.inl ⟨_, _, _, _, rfl, rfl, SqL.of upd_same, hv2, _, _, rfl, rfl, (by omega), cl v _ hv0 hv1 _ X2.s⟩)⟩)⟩
    · exact ⟨_, rfl, _, _, rfl, rfl, ⟨by decide, by decide⟩, _, _, rfl, rfl, (by show (0 : Int) < 13; decide), cl 13 _ (by decide) (by decide) _ X1.s⟩

theorem comp_itM {J : It} {g : TG} {te : TE} {Q : VK} {H : Hp} {D : Addr} {σ0 : St} (n : Nat) (xs : Nat → V) (Inv : Nat → List V → Hp → Prop) (S : St → Prop) (hz : n ≤ 100000) (h0 : S σ0)
    (hgo : ∀ i H, i < n → J.go i H) (hstop : ∀ H, J.stop n H) (hy : ∀ i H x H', i < n → J.yld i H x H' → H' = H ∧ x = xs i) (h1 : Inv 0 [] (upd H D (.lst [])))
    (ht : ∀ i, i < n → ∀ ys σ1 H1, S σ1 → Inv i ys H1 → H1 D = some (.lst ys) → ys.length = i → ∀ R : St → V → Hp → Prop, (∀ σ2 y H3, S σ2 → H3 D = some (.lst ys) → Inv (i + 1) (ys ++ [y]) (upd H3 D (.lst (ys ++ [y]))) → R σ2 y H3) → g (xs i) σ1 H1 fun σ2 H2 => te σ2 H2 fun y H3 => R σ2 y H3)
    (hq : ∀ (ys : List V) (H' : Hp), ys.length = n → H' D = some (.lst ys) → Inv n ys H' → Q (.ref D) H') :
    CompGo J g tYes te Q σ0 H D := by
  refine ⟨fun i m σ1 H2 => i ≤ n ∧ m = n - i ∧ S σ1 ∧ ∃ ys : List V, ys.length = i ∧ H2 D = some (.lst ys) ∧ Inv i ys H2, ⟨n, Nat.zero_le _, rfl, h0, [], rfl, upd_same, h1⟩, ?_⟩
  rintro i m σ1 H2 ⟨hi, rfl, h2, ys, hyl, hDv, hP⟩
  rcases Nat.lt_or_ge i n with z | z
  · refine .inr ⟨hgo i _ z, fun x H3 y => ?_⟩
    obtain ⟨rfl, rfl⟩ := hy i _ x H3 z y
    refine ht i z ys σ1 _ h2 hP hDv hyl (fun σ2 y H6 => ∃ zs m', H6 D = some (.lst zs) ∧ zs.length < sizeLine ∧ m' < n - i ∧ (i + 1 ≤ n ∧ m' = n - (i + 1) ∧ S σ2 ∧ ∃ ws : List V, ws.length = i + 1 ∧ upd H6 D (.lst (zs ++ [y])) D = some (.lst ws) ∧ Inv (i + 1) ws (upd H6 D (.lst (zs ++ [y]))))) fun σ2 y H6 q3 hD6 hI6 => ?_
    exact ⟨ys, n - (i + 1), hD6, Nat.lt_of_lt_of_le (show ys.length < 100000 by omega) (by decide), by omega, by omega, rfl, q3, ys ++ [y], by rw [List.length_append, hyl]; rfl, upd_same, hI6⟩
  · have e : i = n := by omega
    subst e
    exact .inl ⟨hstop _, hq ys H2 hyl hDv hP⟩
theorem Has.grow {X : List Addr} {p : Addr} {H H' : Hp} (h : Has X H) (g : Grow p H H') : Has X H' := fun x hx => by
  by_cases z : x = p
  · subst z
    obtain ⟨ns, e, _⟩ := g.l
    exact ⟨_, e⟩
  · obtain ⟨l, e⟩ := h x hx
    exact ⟨l, g.k _ _ z e⟩
theorem fitL_snoc {ff : D → Bool} {f : Fm} {d : D} (h : fitB ff f d = true) : ∀ (fs : List Fm) (ds : List D), fitL ff fs ds = true → fitL ff (fs ++ [f]) (ds ++ [d]) = true
  | [], [], _ => by show fitL ff [f] [d] = true; rw [fitL, fitL]; simp [h]
  | [], e :: ds, h => by rw [fitL] at h; cases h
  | g :: fs, [], h => by rw [fitL] at h; cases h
  | g :: fs, e :: ds, hs => by
    rw [fitL] at hs
    show fitL ff (g :: (fs ++ [f])) (e :: (ds ++ [d])) = true
    rw [fitL]
    have hs : (fitB ff g e && fitL ff fs ds) = true := hs
    show (fitB ff g e && fitL ff (fs ++ [f]) (ds ++ [d])) = true
    rw [Bool.and_eq_true] at hs ⊢
    exact ⟨hs.1, fitL_snoc h fs ds hs.2⟩
theorem dhts_snoc {d : D} {n : Nat} (h : dht d ≤ n) : ∀ {ds : List D}, dhts ds ≤ n → dhts (ds ++ [d]) ≤ n
  | [], _ => by show dhts [d] ≤ n; rw [dhts, dhts]; omega
  | g :: fs, hs => by
    rw [dhts] at hs
    show dhts (g :: (fs ++ [d])) ≤ n
    rw [dhts]
    have := dhts_snoc h (ds := fs) (by omega)
    omega
theorem metT_le (val : Nat → Str) : ∀ n, (metT val n).length ≤ n
  | 0 => Nat.le_refl _
  | n + 1 => by
    unfold metT
    have := metT_le val n
    split
    · omega
    · rw [List.length_append, List.length_singleton]; omega
theorem metT_mem (val : Nat → Str) : ∀ n i, i < n → val i ∈ metT val n
  | 0, i, h => by omega
  | n + 1, i, h => by
    unfold metT
    by_cases z : i = n
    · subst z
      split
      · assumption
      · exact List.mem_append_right _ (List.mem_singleton.mpr rfl)
    · have := metT_mem val n i (by omega)
      split
      · exact this
      · exact List.mem_append_left _ this
theorem metT_full (val : Nat → Str) : ∀ n, (metT val n).length = n → ∀ i j, i < j → j < n → val i ≠ val j
  | 0, _, i, j, _, h => by omega
  | n + 1, h, i, j, hij, hj => by
    unfold metT at h
    have hle := metT_le val n
    by_cases z : val n ∈ metT val n
    · rw [if_pos z] at h; omega
    · rw [if_neg z, List.length_append, List.length_singleton] at h
      by_cases zj : j = n
      · subst zj
        exact fun e => z (by rw [← e]; exact metT_mem val j i hij)
      · exact metT_full val n (by omega) i j hij (by omega)
theorem goodNames_idx {ns : List Str} {i : Nat} {n : Str} (h : goodNames ns = true) (e : ns[i]? = some n) : ns.idxOf n = i := by
  unfold goodNames at h
  simp only [Bool.and_eq_true, decide_eq_true_eq] at h
  have hd := h.1.2.2
  have hi : i < ns.length := by
    rcases Nat.lt_or_ge i ns.length with z | z
    · exact z
    · rw [List.getElem?_eq_none z] at e; cases e
  have hn : ns[i] = n := by rw [List.getElem?_eq_getElem hi] at e; exact Option.some.inj e
  have hm : n ∈ ns := by rw [← hn]; exact List.getElem_mem hi
  have hk := List.idxOf_lt_length_of_mem hm
  have hke : ns[ns.idxOf n] = n := List.getElem_idxOf hk
  have g : ∀ k (hk : k < ns.length), ns.getD k Str.empty = ns[k] := fun k hk => by rw [List.getD_eq_getElem?_getD, List.getElem?_eq_getElem hk]; rfl
  rcases Nat.lt_trichotomy (ns.idxOf n) i with z | z | z
  · exact absurd (by rw [g _ hk, g _ hi, hke, hn]) (metT_full _ _ hd _ _ z hi)
  · exact z
  · exact absurd (by rw [g _ hk, g _ hi, hke, hn]) (metT_full _ _ hd _ _ z hk)
theorem fitC_get {ff : D → Bool} {x : D} : ∀ (fs : List Fm) (ns : List Str) (n : Str), n ∈ ns → ns.length = fs.length → fitC ff fs ns n x = fitB ff (fs.getD (ns.idxOf n) (.bare 0)) x
  | [], [], n, h, _ => by cases h
  | f :: fs, [], n, h, _ => by cases h
  | [], m :: ns, n, _, h => by cases h
  | f :: fs, m :: ns, n, h, hl => by
    rw [fitC]
    show (if some m = some n then _ else fitC ff fs ns n x) = _
    by_cases z : m = n
    · subst z
      rw [if_pos rfl, List.idxOf_cons_self]; rfl
    · rw [if_neg (fun e => z (Option.some.inj e)), fitC_get fs ns n ((List.mem_cons.mp h).resolve_left (Ne.symm z)) (by simpa using hl), List.idxOf_cons, beq_false_of_ne z]; rfl
def spVal23 (d : Nat) : Sp := fun vs H Q _ => ∃ (p : Addr) (vf : V) (f : Fm) (X : List Addr), vs = [.ref p, vf] ∧ p ∈ X ∧ Pool p H ∧ Has X H ∧ DX X H (dsc f) vf ∧ okG f ∧ ht f ≤ d ∧ ∀ v dv H', Grow p H H' → DX X H' dv v → fitB fracOk f dv = true → dht dv ≤ ht f + 1 → Q v H'

theorem dhts_rep {n : Nat} : ∀ (ds : List D), (∀ d, d ∈ ds → dht d ≤ n) → dhts ds ≤ n
  | [], _ => by rw [dhts]; omega
  | d :: ds, h => by
    rw [dhts]
    have := h d (List.mem_cons_self ..)
    have := dhts_rep ds fun e he => h e (List.mem_cons_of_mem _ he)
    omega
theorem app_cps1 (t : Str) (c : Nat) : (t ++ (⟨#[c]⟩ : Str)).cps.toList = t.cps.toList ++ [c] := by rw [app_cps]
theorem nextW {i j : Nat} {R : TS} {D : Ends} {σ : St} {H : Hp} {p : Addr} (hx : σ[i]? = some (some (.ref p))) (hP : Pool p H) (h : ∀ c H1, Grow p H H1 → R D (σ.set j (some (.int c))) H1) : tSeq (tAsg (tCall spNext [] E0 (tCons (tVar i) tNil)) (gName j)) R D σ H := ⟨_, hx, p, rfl, hP, fun c _ hn1 => h c _ (Grow.pop hP hn1)⟩
set_option maxHeartbeats 4000000 in
theorem step_law_value {f : Addr} {fd : FuncData} {d : Nat} (nb : NB mg) (F : FunAt K mg "_law_value" s_law_value ["_law_pool_here", "_law_form_here"] f fd) (D_law_next : DefOk P w K mg base 1 "_law_next" ["_law_pool_here"] spNext) (D_law_signed : DefOk P w K mg base 2 "_law_signed" ["_law_cell"] spSigned) (D_law_fraction : DefOk P w K mg base 1 "_law_fraction" ["_law_one", "_law_other"] spFrac) (D_law_size : DefOk P w K mg base 1 "_law_size" ["_law_form_here", "_law_cell", "_law_pool_here"] spSize)
    (D_law_value : DefOk P w K mg base (d + 3) "_law_value" ["_law_pool_here", "_law_form_here"] (spVal23 d)) : DefOk P w K mg base (d + 3 + 1) "_law_value" ["_law_pool_here", "_law_form_here"] (spVal23 (d + 1)) := by
  refine F.ok sc_law_value (fun vs H Q E h => ?_) (fun cdv A outer s H vs Q E hr h => ?_)
  · obtain ⟨_, _, _, _, rfl, _⟩ := h; rfl
  obtain ⟨p, vf, g, X, rfl, hpX, hP, hX, hv, hok, hht, q⟩ := h
  refine useT _ (pss_cons (ps_set (i := 2) sc_law_value.nd rfl (by first | exact Or.inl rfl | exact Or.inr rfl) (pe_ix iAll (pv 1) pe_int (fun _ _ => rfl)))
    (pss_cons (ps_if (pt_cmpR oEq (pv 2) pe_str (nomark _)) (pss_one (ps_ret pe_non)) pss_nil)
    (pss_cons (ps_set (i := 3) sc_law_value.nd rfl (by first | exact Or.inl rfl | exact Or.inr rfl) (pe_callD D_law_next hr (pa_cons (pv 0) pa_nil) (hk := by omega)))
    (pss_cons (ps_if (pt_cmpR oEq (pv 2) pe_str (nomark _)) (pss_one (ps_ret (pe_cmpR oEq (pe_op op_mod (pv 3) pe_int) pe_int (nomark _)))) pss_nil)
    (pss_cons (ps_if (PW.pt (pw_and (pt_cmpR oEq (pv 2) pe_str (nomark _)) (pw_and1 (pt_cmpR oGt (pe_callB call_len rfl nb.len_ bo_len (pa_cons (pv 0) pa_nil)) pe_int (nomark _))))) (pss_one (ps_ret (pe_callD D_law_signed hr (pa_cons (pv 3) pa_nil) (hk := by omega)))) pss_nil)
    (pss_cons (ps_if (pt_cmpR oEq (pv 2) pe_str (nomark _)) (pss_one (ps_ret (pe_callD D_law_signed hr (pa_cons (pe_op op_mod (pv 3) pe_int) pa_nil) (hk := by omega)))) pss_nil)
    (pss_cons (ps_if (pt_cmpR oEq (pv 2) pe_str (nomark _)) (pss_one (ps_ret (pe_op oAdd (pe_ix iAll (pv 1) pe_int (fun _ _ => rfl)) (pe_op op_mod (pv 3) (pe_op oAdd (pe_op oSub (pe_ix iAll (pv 1) pe_int (fun _ _ => rfl)) (pe_ix iAll (pv 1) pe_int (fun _ _ => rfl))) pe_int))))) pss_nil)
    (pss_cons (ps_if (pt_cmpR oEq (pv 2) pe_str (nomark _)) (pss_one (ps_ret (pe_callD D_law_fraction hr (pa_cons (pv 3) (pa_cons (pe_callD D_law_next hr (pa_cons (pv 0) pa_nil) (hk := by omega)) pa_nil)) (hk := by omega)))) pss_nil)
    (pss_cons (ps_if (pt_cmpR oEq (pv 2) pe_str (nomark _)) (pss_cons (ps_set (i := 4) sc_law_value.nd rfl (by first | exact Or.inl rfl | exact Or.inr rfl) pe_str)
      (pss_cons (ps_for PassesOwn.never rfl (pi_range1 rfl nb.range_ (pa_cons (pe_callD D_law_size hr (pa_cons (pv 1) (pa_cons (pv 3) (pa_cons (pv 0) pa_nil))) (hk := by omega)) pa_nil)) (pg_name (i := 5) sc_law_value.nd rfl (by first | exact Or.inl rfl | exact Or.inr rfl))
        (pss_cons (ps_set (i := 4) sc_law_value.nd rfl (by first | exact Or.inl rfl | exact Or.inr rfl) (pe_op oAdd (pv 4) (pe_ix iAll (pe_ix iAll (pv 1) pe_int (fun _ _ => rfl)) (pe_op op_mod (pe_op op_fdiv (pv 3) pe_int) (pe_callB call_len rfl nb.len_ bo_len (pa_cons (pe_ix iAll (pv 1) pe_int (fun _ _ => rfl)) pa_nil))) (fun _ _ => rfl))))
        (pss_one (ps_set (i := 3) sc_law_value.nd rfl (by first | exact Or.inl rfl | exact Or.inr rfl) (pe_op op_fdiv (pv 3) (pe_callB call_len rfl nb.len_ bo_len (pa_cons (pe_ix iAll (pv 1) pe_int (fun _ _ => rfl)) pa_nil)))))))
      (pss_one (ps_ret (pv 4))))) pss_nil)
    (pss_cons (ps_if (PW.pt (pw_and (pt_cmpR oEq (pv 2) pe_str (nomark _)) (pw_and1 (pt_cmpR oEq (pe_op op_mod (pv 3) pe_int) pe_int (nomark _))))) (pss_one (ps_ret (pe_tup pa_nil))) pss_nil)
    (pss_cons (ps_if (pt_cmpR oEq (pv 2) pe_str (nomark _)) (pss_one (ps_ret (pe_tup (pa_cons (pe_callD D_law_value hr (pa_cons (pv 0) (pa_cons (pe_ix iAll (pv 1) pe_int (fun _ _ => rfl)) pa_nil)) (hk := by omega)) pa_nil)))) pss_nil)
    (pss_cons (ps_if (pt_cmpR oEq (pv 2) pe_str (nomark _)) (pss_one (ps_ret (pe_comp ["_law_k"] [(0, "_law_pool_here"), (1, "_law_form_here")] rfl (by decide +kernel) ⟨rfl, .inl rfl, rfl, .inl rfl, trivial⟩ (pi_range1 rfl nb.range_ (pa_cons (pe_callD D_law_size hr (pa_cons (pv 1) (pa_cons (pv 3) (pa_cons (pv 0) pa_nil))) (hk := by omega)) pa_nil)) (fun _ _ _ _ _ => (pg_name (i := 0) (show (["_law_k", "_law_pool_here", "_law_form_here"] : List Str).Nodup by decide +kernel) rfl (by first | exact Or.inl rfl | exact Or.inr rfl))) (fun _ _ _ _ _ => pts_nil) (fun _ _ _ _ _ => (pe_callD D_law_value hr (pa_cons (pv 1) (pa_cons (pe_ix iAll (pv 2) pe_int (fun _ _ => rfl)) pa_nil)) (hk := by omega)))))) pss_nil)
    (pss_cons (ps_if (pt_cmpR oEq (pv 2) pe_str (nomark _)) (pss_one (ps_ret (pe_callTy call_tuple_of rfl nb.tuple_ bo_tuple (pa_cons (pe_comp ["_law_name", "_law_inner"] [(0, "_law_pool_here")] rfl (by decide +kernel) ⟨rfl, .inl rfl, trivial⟩ (piAll (pe_ix iAll (pv 1) pe_int (fun _ _ => rfl))) (fun _ _ _ _ _ => (pg_tup rfl (pgs_cons (pg_name (i := 0) (show (["_law_name", "_law_inner", "_law_pool_here"] : List Str).Nodup by decide +kernel) rfl (by first | exact Or.inl rfl | exact Or.inr rfl)) (pgs_cons (pg_name (i := 1) (show (["_law_name", "_law_inner", "_law_pool_here"] : List Str).Nodup by decide +kernel) rfl (by first | exact Or.inl rfl | exact Or.inr rfl)) pgs_nil)))) (fun _ _ _ _ _ => pts_nil) (fun _ _ _ _ _ => (pe_callD D_law_value hr (pa_cons (pv 2) (pa_cons (pv 1) pa_nil)) (hk := by omega)))) pa_nil)))) pss_nil)
    (pss_cons (ps_if (pt_cmpR oEq (pv 2) pe_str (nomark _)) (pss_cons (ps_asg (pe_ix iAll (pe_ix iAll (pv 1) pe_int (fun _ _ => rfl)) (pe_op op_mod (pv 3) (pe_callB call_len rfl nb.len_ bo_len (pa_cons (pe_ix iAll (pv 1) pe_int (fun _ _ => rfl)) pa_nil))) (fun _ _ => rfl)) (pg_tup rfl (pgs_cons (pg_name (i := 6) sc_law_value.nd rfl (by first | exact Or.inl rfl | exact Or.inr rfl)) (pgs_cons (pg_name (i := 7) sc_law_value.nd rfl (by first | exact Or.inl rfl | exact Or.inr rfl)) pgs_nil))))
      (pss_one (ps_ret (pe_tup (pa_cons (pv 6) (pa_cons (pe_callD D_law_value hr (pa_cons (pv 0) (pa_cons (pv 7) pa_nil)) (hk := by omega)) pa_nil)))))) pss_nil)
    (pss_one (ps_ret (pe_callD D_law_value hr (pa_cons (pv 0) (pa_cons (pe_ix iAll (pv 1) pe_int (fun _ _ => rfl)) pa_nil)) (hk := by omega)))))))))))))))))) fun G σ0 hσ go => ?_
  have a0 : ∀ (x : V) (r : List V), atI (x :: r) 0 = some x := fun x r => atI_nat (j := 0) rfl
  have a1 : ∀ (x y : V) (r : List V), atI (x :: y :: r) 1 = some y := fun x y r => atI_nat (j := 1) rfl
  have hTp : ∀ {T : Addr}, T ∉ X → T ≠ p := fun h z => h (by rw [z]; exact hpX)
  cases g with
  | bare k =>
    rw [dsc] at hv
    rw [ht] at q
    obtain ⟨T, _, rfl, hTX, e, ⟨_, _, rfl, ⟨rfl, _⟩, rfl⟩, _⟩ := hv
    rcases fin4 k with rfl | rfl | rfl | rfl
    · skip
      subst hσ
      refine go (setW rfl e ?_)
      refine takeW rfl fun N => ⟨_, (Grow.refl hP).sub, q _ .non _ (Grow.refl hP) rfl (by rw [fitB]; rfl) (by rw [dht]; omega)⟩
    · skip
      subst hσ
      refine go (setW rfl e ?_)
      refine skipW rfl (by decide +kernel) ?_
      refine nextW rfl hP fun cl H1 G1 => ?_
      refine takeW rfl fun N => ⟨_, rfl, _, _, rfl, rfl, (by show (0 : Int) < 2; decide), rfl, _, G1.sub, q _ (.bl _) _ G1 rfl (by rw [fitB]; rfl) (by rw [dht]; omega)⟩
    · skip
      subst hσ
      refine go (setW rfl e ?_)
      refine skipW rfl (by decide +kernel) ?_
      refine nextW rfl hP fun cl H1 G1 => ?_
      refine skipW rfl (by decide +kernel) ?_
      obtain ⟨m1, hp1, hm1⟩ := G1.l
      have fin : ∀ n : Int, WholeIn n → ∃ H'', L2.Sub H H'' H1 ∧ Q (.int n) H'' := fun n hn => ⟨_, G1.sub, q _ (.int n) _ G1 rfl (by rw [fitB]; exact decide_eq_true hn) (by rw [dht]; omega)⟩
      refine ⟨_, rfl, rfl, _, rfl, iteY rfl ⟨_, rfl, _, _, rfl, .inl ⟨_, SqL.of hp1, rfl⟩, _, _, rfl, rfl, _, rfl, iteD (fun c1 => ⟨_, rfl, cl, rfl, fin⟩) (fun c1 => ?_)⟩⟩
      exact takeW rfl fun N => ⟨_, rfl, _, _, rfl, rfl, (by show (0 : Int) < 1000; decide), _, rfl, fin⟩
    · skip
      subst hσ
      refine go (setW rfl e ?_)
      refine skipW rfl (by decide +kernel) ?_
      refine nextW rfl hP fun cl H1 G1 => ?_
      iterate 4 (first | refine skipW rfl (by decide +kernel) ?_ | refine skipA rfl (by decide +kernel) ?_)
      refine takeW rfl fun N => ⟨_, rfl, _, rfl, p, rfl, G1.l, fun c2 n2 hn2 => ⟨cl, c2, rfl, fun pp qq t H' X' ht0 ht1 hf => ?_⟩⟩
      have G2 := (G1.trans (Grow.pop G1.l hn2)).ext X'
      have htX : t ∉ X := (hX.grow (G1.trans (Grow.pop G1.l hn2))).no ht0
      exact ⟨_, G2.sub, q _ (.tup [.int pp, .int qq]) _ G2 ⟨t, _, rfl, htX, ht1, ⟨_, _, rfl, rfl, _, _, rfl, rfl, rfl⟩, by simp⟩ (by rw [fitB]; exact hf) (by rw [dht, dhts, dhts, dhts, dht, dht]; omega)⟩
  | sp lo hi =>
    rw [dsc] at hv
    rw [okG] at hok
    rw [ht] at q
    obtain ⟨T, _, rfl, hTX, e, ⟨_, _, rfl, ⟨rfl, _⟩, _, _, rfl, rfl, _, _, rfl, rfl, rfl⟩, _⟩ := hv
    subst hσ
    refine go (setW rfl e ?_)
    refine skipW rfl (by decide +kernel) ?_
    refine nextW rfl hP fun cl H1 G1 => ?_
    iterate 3 (first | refine skipW rfl (by decide +kernel) ?_ | refine skipA rfl (by decide +kernel) ?_)
    have e1 := G1.k _ _ (hTp hTX) e
    have a2 : atI [V.str wSp, V.int lo, V.int hi] 2 = some (.int hi) := atI_nat (j := 2) rfl
    have m0 := Int.emod_nonneg cl (show hi - lo + 1 ≠ 0 by omega)
    have m1 := Int.emod_lt_of_pos cl (show 0 < hi - lo + 1 by omega)
    refine takeW rfl fun N => ⟨_, rfl, .inl (.inr ⟨_, _, _, _, rfl, rfl, SqT.of e1, a1 _ _ _, _, rfl, _, rfl, .inl (.inr ⟨_, _, _, _, rfl, rfl, SqT.of e1, a2, _, rfl, .inl (.inr ⟨_, _, _, _, rfl, rfl, SqT.of e1, a1 _ _ _, _, _, rfl, rfl, .inl ⟨_, _, rfl, rfl, _, _, rfl, rfl, (by omega), .inl ⟨_, _, rfl, rfl, ?_⟩⟩⟩)⟩)⟩)⟩
    exact ⟨_, G1.sub, q _ (.int _) _ G1 rfl (by rw [fitB]; exact decide_eq_true ⟨by omega, by omega⟩) (by rw [dht]; omega)⟩
  | le sg =>
    have hv0 := hv
    rw [dsc] at hv
    rw [ht] at q
    have hgt := hok
    rw [okG] at hgt
    obtain ⟨T, _, rfl, hTX, e, ⟨_, _, rfl, ⟨rfl, _⟩, _, _, rfl, ⟨rfl, hsl⟩, rfl⟩, _⟩ := hv
    have hs0 : 0 < sg.length := by
      have := hgt.1
      unfold goodText at this
      simp only [Bool.and_eq_true, decide_eq_true_eq] at this
      omega
    subst hσ
    refine go (setW rfl e ?_)
    refine skipW rfl (by decide +kernel) ?_
    refine nextW rfl hP fun cl H1 G1 => ?_
    iterate 5 (first | refine skipW rfl (by decide +kernel) ?_ | refine skipA rfl (by decide +kernel) ?_)
    have e1 := G1.k _ _ (hTp hTX) e
    have lsg : sg.length ≤ sizeLine := small5 (by omega)
    refine takeW rfl fun N => ⟨_, rfl, _, rfl, _, rfl, .ref T, cl, p, .le sg, X, rfl, DX.grow hpX G1 hv0, G1.l, hok, .inl ⟨sg, rfl, fun n hn => ⟨_, rfl, by omega, by omega, ?_⟩⟩⟩
    rw [show (((n : Nat) : Int)).toNat = n by omega]
    refine for_range (fun i σ H2 => H1 = H2 ∧ ∃ (t : Str) (c : Int) (z5 : Option V), σ = [some (.ref p), some (.ref T), some (.str wLe), some (.int c), some (.str t), z5, none, none] ∧ t.length = i ∧ madeOf t sg = true) ⟨rfl, Str.ofString "", cl, none, rfl, by decide +kernel, rfl⟩ ?_ ?_
    · rintro i σ H2 hi ⟨rfl, t, c, z5, rfl, htl, hmd⟩
      obtain ⟨k, hk, ek⟩ := mod_nat (c / 287) sg.length hs0
      have hk' : k < sg.cps.toList.length := by rw [Array.length_toList]; exact hk
      have hat : atI sg.cps.toList (c / 287 % ((sg.length : Nat) : Int)) = some sg.cps.toList[k] := by rw [ek]; exact atI_nat (List.getElem?_eq_getElem hk')
      refine ⟨_, rfl, _, rfl, .inl (.inr ⟨_, _, _, _, rfl, rfl, SqT.of e1, a1 _ _ _, _, rfl, _, _, rfl, rfl, ⟨by decide, by decide⟩, _, rfl, .inl (.inr ⟨_, _, _, _, rfl, rfl, SqT.of e1, a1 _ _ _, _, _, rfl, ⟨lsg, rfl⟩, _, _, rfl, rfl, (by omega), .inr ⟨_, _, _, rfl, rfl, lsg, hat, .inr ⟨_, _, rfl, rfl, ?_, ?_⟩⟩⟩)⟩)⟩
      · show t.length + 1 ≤ sizeLine
        exact small5 (by omega)
      refine ⟨_, rfl, _, rfl, .inl (.inr ⟨_, _, _, _, rfl, rfl, SqT.of e1, a1 _ _ _, _, _, rfl, ⟨lsg, rfl⟩, _, _, rfl, rfl, ⟨by omega, by omega⟩, rfl, _, _, _, rfl, ?_, ?_⟩)⟩
      · rw [app_len, htl]; rfl
      · unfold madeOf at hmd ⊢
        rw [app_cps1, List.all_append, hmd]
        simp
    · rintro σ H2 ⟨rfl, t, c, z5, rfl, htl, hmd⟩
      exact ⟨_, rfl, _, G1.sub, q _ (.str t) _ G1 ⟨rfl, by omega⟩ (by rw [fitB]; exact Bool.and_eq_true_iff.mpr ⟨decide_eq_true (by omega), hmd⟩) (by rw [dht]; omega)⟩
  | one k g =>
    have hv0 := hv
    have hok0 := hok
    rw [dsc] at hv
    rw [okG] at hok
    rw [ht] at hht
    rw [ht] at q
    obtain ⟨T, _, rfl, hTX, e, ⟨_, _, rfl, ⟨rfl, _⟩, v', _, rfl, hd, rfl⟩, _⟩ := hv
    rcases fin3 k with rfl | rfl | rfl
    · skip
      subst hσ
      refine go (setW rfl e ?_)
      refine skipW rfl (by decide +kernel) ?_
      refine nextW rfl hP fun cl H1 G1 => ?_
      iterate 6 (first | refine skipW rfl (by decide +kernel) ?_ | refine skipA rfl (by decide +kernel) ?_)
      have e1 := G1.k _ _ (hTp hTX) e
      refine ⟨_, rfl, rfl, _, rfl, iteY rfl ⟨_, rfl, _, _, rfl, rfl, (by show (0 : Int) < 2; decide), rfl, _, rfl, iteD (fun c1 => ?_) (fun c1 => ?_)⟩⟩
      · refine ⟨Nat.zero_le _, fun t ht0 => ?_⟩
        have G2 := G1.ext (Ext.tup (xs := []) ht0)
        exact ⟨_, G2.sub, q _ (.tup []) _ G2 ⟨t, [], rfl, (hX.grow G1).no ht0, upd_same, rfl, by simp⟩ (by rw [fitB]; rfl) (by rw [dht, dhts]; omega)⟩
      refine takeW rfl fun N => ⟨_, rfl, _, rfl, .inl (.inr ⟨_, _, _, _, rfl, rfl, SqT.of e1, a1 _ _ _, p, v', g, X, rfl, hpX, G1.l, hX.grow G1, DX.grow hpX G1 hd, hok, by omega, fun v dv H' G hdv hfit hdh => ⟨one_ok, fun t ht0 => ?_⟩⟩)⟩
      have E2 := Ext.tup (xs := [v]) ht0
      have G2 := (G1.trans G).ext E2
      refine ⟨_, G2.sub, q _ (.tup [dv]) _ G2 ⟨t, _, rfl, (hX.grow (G1.trans G)).no ht0, upd_same, ⟨_, _, rfl, hdv.same E2.s, rfl⟩, by simp⟩ ?_ (by rw [dht, dhts, dhts]; omega)⟩
      rw [fitB]; exact hfit
    · skip
      subst hσ
      refine go (setW rfl e ?_)
      refine skipW rfl (by decide +kernel) ?_
      refine nextW rfl hP fun cl H1 G1 => ?_
      iterate 8 (first | refine skipW rfl (by decide +kernel) ?_ | refine skipA rfl (by decide +kernel) ?_)
      have e1 := G1.k _ _ (hTp hTX) e
      refine takeW rfl fun N => ⟨_, rfl, _, rfl, _, rfl, .ref T, cl, p, .one 1 g, X, rfl, DX.grow hpX G1 hv0, G1.l, hok0, .inr ⟨g, rfl, fun n hn => ⟨_, rfl, by omega, by omega, fun D1 hD1 => ?_⟩⟩⟩
      rw [show (((n : Nat) : Int)).toNat = n by omega]
      have hX1 := hX.grow G1
      have hD1X : D1 ∉ X := hX1.no hD1
      have hDp : D1 ≠ p := fun z => hD1X (by rw [z]; exact hpX)
      have E0 := Ext.lst (xs := []) hD1
      have hT1 : ∀ {H2 : Hp}, Grow p H1 H2 → H2 T = some (.tup [.str (wdO 1), v']) := fun G => G.k _ _ (hTp hTX) e1
      refine comp_itM n (fun i => .int (0 + ((i : Nat) : Int))) (fun i ys H2 => Grow p H1 H2 ∧ ∃ ds, ds.length = i ∧ DsX (D1 :: X) H2 ds ys ∧ (∀ x, x ∈ ds → fitB fracOk g x = true ∧ dht x ≤ ht g + 1)) (fun σ => ∃ z, σ = [z, some (.ref p), some (.ref T)]) (by omega) ⟨_, rfl⟩ (fun i H hi => hi) (fun H => Nat.le_refl _) (fun i H x H' hi h => ⟨h.1, h.2⟩) ⟨(Grow.refl G1.l).ext E0, [], rfl, rfl, fun x hx => nomatch hx⟩ ?_ ?_
      · rintro i hi ys σ1 H2 ⟨z, rfl⟩ ⟨G2, ds, hdl, hds, hall⟩ hDy hyl R hR
        have hX2 : Has (D1 :: X) H2 := (hX1.grow G2).add hDy
        refine ⟨_, rfl, _, rfl, .inl (.inr ⟨_, _, _, _, rfl, rfl, SqT.of (hT1 G2), a1 _ _ _, p, v', g, D1 :: X, rfl, List.mem_cons_of_mem _ hpX, G2.l, hX2, DX.grow (List.mem_cons_of_mem _ hpX) G2 (DX.add hD1 _ (DX.grow hpX G1 hd)), hok, by omega, fun v dv H3 G3 hdv hfit hdh => ?_⟩)⟩
        have hD3 : H3 D1 = some (.lst ys) := G3.k _ _ hDp hDy
        have kk : ∀ b u, b ∉ D1 :: X → H3 b = some u → upd H3 D1 (.lst (ys ++ [v])) b = some u := fun b u nb e => by rw [upd_ne (fun z => nb (by rw [z]; exact List.mem_cons_self ..))]; exact e
        have k3 : ∀ b u, b ∉ D1 :: X → H2 b = some u → H3 b = some u := fun b u nb e => G3.k b u (fun z => nb (by rw [z]; exact List.mem_cons_of_mem _ hpX)) e
        refine hR _ _ _ ⟨_, rfl⟩ hD3 ⟨(G2.trans G3).set hD1 hD3 hDp, ds ++ [dv], by rw [List.length_append, hdl]; rfl, DsX.snoc (DX.keep kk _ hdv) _ (DsX.keep kk _ (DsX.keep k3 _ hds)), fun x hx => ?_⟩
        rcases List.mem_append.mp hx with z | z
        · exact hall x z
        · rw [List.mem_singleton.mp z]; exact ⟨hfit, hdh⟩
      · rintro ys H' hyl hD' ⟨G2, ds, hdl, hds, hall⟩
        have G3 := G1.trans G2
        refine ⟨_, G3.sub, q _ (.lst ds) _ G3 ⟨D1, ys, rfl, hD1X, hD', DsX.weak (fun x hx => List.mem_cons_of_mem _ hx) _ hds, by omega⟩ ?_ ?_⟩
        · rw [fitB]
          exact Bool.and_eq_true_iff.mpr ⟨decide_eq_true (by omega), List.all_eq_true.mpr fun x hx => (hall x hx).1⟩
        · have := dhts_rep ds fun x hx => (hall x hx).2
          rw [dht]; omega
    · skip
      subst hσ
      refine go (setW rfl e ?_)
      refine skipW rfl (by decide +kernel) ?_
      refine nextW rfl hP fun cl H1 G1 => ?_
      iterate 11 (first | refine skipW rfl (by decide +kernel) ?_ | refine skipA rfl (by decide +kernel) ?_)
      have e1 := G1.k _ _ (hTp hTX) e
      refine ⟨_, rfl, _, rfl, .inl (.inr ⟨_, _, _, _, rfl, rfl, SqT.of e1, a1 _ _ _, p, v', g, X, rfl, hpX, G1.l, hX.grow G1, DX.grow hpX G1 hd, hok, by omega, fun v dv H' G hdv hfit hdh => ?_⟩)⟩
      exact ⟨_, (G1.trans G).sub, q _ dv _ (G1.trans G) hdv (by rw [fitB]; exact hfit) (by omega)⟩
  | two k ns fs =>
    rw [dsc] at hv
    rw [okG] at hok
    rw [ht] at hht
    rw [ht] at q
    obtain ⟨hgn, hlen, hoks⟩ := hok
    obtain ⟨T, _, rfl, hTX, e, ⟨_, _, rfl, ⟨rfl, _⟩, _, _, rfl, ⟨l, lvs, rfl, hlX, el, hds, hl1000⟩, rfl⟩, _⟩ := hv
    have hvl : lvs.length = fs.length := by rw [DsAt.len _ (DsX.at _ hds), dscs_len]
    have hfl : 0 < fs.length ∧ fs.length ≤ 20 := by
      have h := hgn
      unfold goodNames at h
      simp only [Bool.and_eq_true, decide_eq_true_eq] at h
      omega
    rcases fin2 k with rfl | rfl
    · skip
      subst hσ
      refine go (setW rfl e ?_)
      refine skipW rfl (by decide +kernel) ?_
      refine nextW rfl hP fun cl H1 G1 => ?_
      iterate 9 (first | refine skipW rfl (by decide +kernel) ?_ | refine skipA rfl (by decide +kernel) ?_)
      have e1 := G1.k _ _ (hTp hTX) e
      have el1 := G1.k _ _ (hTp hlX) el
      have hX1 := hX.grow G1
      refine takeW rfl fun N => ?_
      refine .inl ⟨_, rfl, .inl (.inr ⟨_, _, _, _, rfl, rfl, SqT.of e1, a1 _ _ _, l, rfl, ⟨_, SqL.of el1⟩, fun D1 hD1 => ?_⟩)⟩
      have hD1X : D1 ∉ X := hX1.no hD1
      have hDp : D1 ≠ p := fun z => hD1X (by rw [z]; exact hpX)
      have E0 := Ext.lst (xs := []) hD1
      refine comp_listM (K := K) (a := l) (xs := lvs) (fun i ys H2 => Grow p H1 H2 ∧ ∃ ds, ds.length = i ∧ DsX (D1 :: X) H2 ds ys ∧ fitL fracOk (fs.take i) ds = true ∧ dhts ds ≤ hts fs + 1) (fun σ => ∃ z1 z2, σ = [z1, z2, some (.ref p)]) (by omega) ⟨_, _, rfl⟩ ?_ ⟨(Grow.refl G1.l).ext E0, [], rfl, rfl, by rw [List.take_zero, fitL]; rfl, by rw [dhts]; omega⟩ ?_ ?_
      · rintro i ys H2 ⟨G2, _⟩
        exact SqL.of (G2.k _ _ (hTp hlX) el1)
      · rintro i x hx ys σ1 H2 ⟨z1, z2, rfl⟩ ⟨G2, ds, hdl, hds2, hfs, hdd⟩ hDy hyl R hR
        obtain ⟨g, nm, T', v', hg, hn', rfl, hT'X, eT', hd⟩ := dscs_get fs ns hlen hds hx
        obtain ⟨og, hg2⟩ := okGs_get hoks hg
        have hX2 : Has (D1 :: X) H2 := (hX1.grow G2).add hDy
        refine ⟨_, _, rfl, SqT.of (G2.k _ _ (hTp hT'X) (G1.k _ _ (hTp hT'X) eT')), rfl, _, _, rfl, _, _, rfl, rfl, ?_⟩
        refine ⟨_, rfl, _, rfl, p, v', g, D1 :: X, rfl, List.mem_cons_of_mem _ hpX, G2.l, hX2, DX.grow (List.mem_cons_of_mem _ hpX) G2 (DX.add hD1 _ (DX.grow hpX G1 hd)), og, by omega, fun v dv H3 G3 hdv hfit hdh => ?_⟩
        have hD3 : H3 D1 = some (.lst ys) := G3.k _ _ hDp hDy
        have kk : ∀ b u, b ∉ D1 :: X → H3 b = some u → upd H3 D1 (.lst (ys ++ [v])) b = some u := fun b u nb e => by rw [upd_ne (fun z => nb (by rw [z]; exact List.mem_cons_self ..))]; exact e
        have k3 : ∀ b u, b ∉ D1 :: X → H2 b = some u → H3 b = some u := fun b u nb e => G3.k b u (fun z => nb (by rw [z]; exact List.mem_cons_of_mem _ hpX)) e
        refine hR _ _ _ ⟨_, _, rfl⟩ hD3 ⟨(G2.trans G3).set hD1 hD3 hDp, ds ++ [dv], by rw [List.length_append, hdl]; rfl, DsX.snoc (DX.keep kk _ hdv) _ (DsX.keep kk _ (DsX.keep k3 _ hds2)), ?_, dhts_snoc (by omega) hdd⟩
        rw [List.take_add_one, hg]
        exact fitL_snoc hfit _ _ hfs
      · rintro ys H' hyl hD' ⟨G2, ds, hdl, hds2, hfs, hdd⟩
        rw [hvl, List.take_of_length_le (Nat.le_refl _)] at hfs
        refine ⟨_, _, rfl, .inl ⟨SqL.of hD', fun t ht0 => ?_⟩⟩
        have E3 := Ext.tup (xs := ys) ht0
        have G3 := (G1.trans G2).ext E3
        refine ⟨_, G3.sub, q _ (.tup ds) _ G3 ⟨t, ys, rfl, (hX.grow (G1.trans G2)).no ht0, upd_same, (DsX.weak (fun x hx => List.mem_cons_of_mem _ hx) _ hds2).same E3.s, by omega⟩ ?_ ?_⟩
        · rw [fitB, if_pos rfl]; exact hfs
        · rw [dht]; omega
    · skip
      subst hσ
      refine go (setW rfl e ?_)
      refine skipW rfl (by decide +kernel) ?_
      refine nextW rfl hP fun cl H1 G1 => ?_
      iterate 10 (first | refine skipW rfl (by decide +kernel) ?_ | refine skipA rfl (by decide +kernel) ?_)
      have e1 := G1.k _ _ (hTp hTX) e
      have el1 := G1.k _ _ (hTp hlX) el
      refine takeW rfl fun N => ?_
      obtain ⟨j, hj, ej⟩ := mod_nat cl lvs.length (by omega)
      obtain ⟨y, hy⟩ : ∃ y, lvs[j]? = some y := ⟨_, List.getElem?_eq_getElem hj⟩
      obtain ⟨g, nm, T', v', hg, hn', rfl, hT'X, eT', hd⟩ := dscs_get fs ns hlen hds hy
      obtain ⟨og, hg2⟩ := okGs_get hoks hg
      refine ⟨_, rfl, .inl (.inr ⟨_, _, _, _, rfl, rfl, SqT.of e1, a1 _ _ _, _, rfl, _, rfl, .inl (.inr ⟨_, _, _, _, rfl, rfl, SqT.of e1, a1 _ _ _, _, _, rfl, .inl ⟨_, SqL.of el1, rfl⟩, _, _, rfl, rfl, (by omega), .inl (.inl ⟨_, _, _, _, rfl, rfl, SqL.of el1, (by rw [ej]; exact atI_nat hy), ?_⟩)⟩)⟩)⟩
      refine ⟨_, _, rfl, SqT.of (G1.k _ _ (hTp hT'X) eT'), rfl, _, _, rfl, _, _, rfl, rfl, ?_⟩
      refine ⟨_, rfl, _, rfl, _, rfl, p, v', g, X, rfl, hpX, G1.l, hX.grow G1, DX.grow hpX G1 hd, og, by omega, fun v dv H' G hdv hfit hdh => ⟨two_ok, fun t ht0 => ?_⟩⟩
      have E2 := Ext.tup (xs := [V.str nm, v]) ht0
      have G2 := (G1.trans G).ext E2
      have hnl : nm.length ≤ 12 := (goodNames_mem hgn).2 nm (List.mem_of_getElem? hn')
      refine ⟨_, G2.sub, q _ (.tup [.str nm, dv]) _ G2 ⟨t, _, rfl, (hX.grow (G1.trans G)).no ht0, upd_same, ⟨_, _, rfl, ⟨rfl, by omega⟩, _, _, rfl, hdv.same E2.s, rfl⟩, by simp⟩ ?_ (by rw [dht, dhts, dhts, dhts, dht]; omega)⟩
      rw [fitB, if_neg (by decide)]
      show fitC fracOk fs ns nm dv = true
      rw [fitC_get fs ns nm (List.mem_of_getElem? hn') hlen, goodNames_idx hgn hn', List.getD_eq_getElem?_getD, hg]
      exact hfit
theorem all_law_value {f : Addr} {fd : FuncData} (nb : NB mg) (F : FunAt K mg "_law_value" s_law_value ["_law_pool_here", "_law_form_here"] f fd) (D_law_next : DefOk P w K mg base 1 "_law_next" ["_law_pool_here"] spNext) (D_law_signed : DefOk P w K mg base 2 "_law_signed" ["_law_cell"] spSigned) (D_law_fraction : DefOk P w K mg base 1 "_law_fraction" ["_law_one", "_law_other"] spFrac) (D_law_size : DefOk P w K mg base 1 "_law_size" ["_law_form_here", "_law_cell", "_law_pool_here"] spSize) : ∀ d : Nat, DefOk P w K mg base (d + 3) "_law_value" ["_law_pool_here", "_law_form_here"] (spVal23 d)
  | 0 => DefOk.none F fun vs H Q E ⟨_, _, g, _, _, _, _, _, _, _, h, _⟩ => by have := ht_pos g; omega
  | d + 1 => step_law_value nb F D_law_next D_law_signed D_law_fraction D_law_size (all_law_value nb F D_law_next D_law_signed D_law_fraction D_law_size d)

/-! ### k23: the order of values -/
def sgn (a b : Int) : Int := (if b < a then 1 else 0) - (if a < b then 1 else 0)
def items : D → List D
  | .tup ds => ds
  | .lst ds => ds
  | _ => []
def numD : D → Int
  | .int i => i
  | .bl b => PyProof.Rows.b2i b
  | _ => 0
def topD : D → Int
  | .tup (.int p :: _) => p
  | _ => 0
def botD : D → Int
  | .tup [_, .int q] => q
  | _ => 0
def txtD : D → Str
  | .str t => t
  | _ => Str.empty
def nameD : D → Str
  | .tup (.str n :: _) => n
  | _ => Str.empty
def partD : D → D
  | .tup [_, x] => x
  | _ => .non
def idxI (s t : Str) : List Int := t.cps.toList.map fun c => ((s.cps.toList.idxOf c : Nat) : Int)
def sgnL (a b : List Int) : Int := (if HT.lexLt b a = true then 1 else 0) - (if HT.lexLt a b = true then 1 else 0)
def bareOrd (k : Fin 4) (a b : D) : Int := if k = 0 then 0 else if k = 3 then sgn (topD a * botD b) (topD b * botD a) else sgn (numD a) (numD b)
def lsd (g : Nat → D → D → Int) : List D → List D → Nat → Int
  | x :: xs, y :: ys, k => if g k x y = 0 then lsd g xs ys (k + 1) else g k x y
  | xs, ys, _ => sgn xs.length ys.length
mutual
def ordI : Fm → D → D → Int
  | .bare k, a, b => bareOrd k a b
  | .sp _ _, a, b => sgn (numD a) (numD b)
  | .le s, a, b => sgnL (idxI s (txtD a)) (idxI s (txtD b))
  | .one k f, a, b => if k = 2 then 0 - ordI f a b else lsd (fun _ => ordI f) (items a) (items b) 0
  | .two k ns fs, a, b => if k = 0 then lsd (fun i => (ordIs fs).getD (i % fs.length) fun _ _ => 0) (items a) (items b) 0 else if nameD a = nameD b then (ordIs fs).getD (ns.idxOf (nameD a)) (fun _ _ => 0) (partD a) (partD b) else sgn (ns.idxOf (nameD a)) (ns.idxOf (nameD b))
def ordIs : List Fm → List (D → D → Int)
  | [] => []
  | f :: fs => ordI f :: ordIs fs
end
theorem ordIs_get : ∀ (fs : List Fm) (i : Nat) (f : Fm), fs[i]? = some f → (ordIs fs).getD i (fun _ _ => 0) = ordI f
  | [], i, f, h => by cases h
  | g :: fs, 0, f, h => by cases h; rw [ordIs]; rfl
  | g :: fs, i + 1, f, h => by rw [ordIs]; exact ordIs_get fs i f h
theorem sgn_anti (a b : Int) : sgn b a = -sgn a b := by unfold sgn; omega
theorem sgn_zero {a b : Int} : sgn a b = 0 ↔ a = b := by
  unfold sgn
  constructor
  · intro h
    rcases Int.lt_trichotomy a b with z | z | z
    · rw [if_neg (by omega), if_pos z] at h; omega
    · exact z
    · rw [if_pos z, if_neg (by omega)] at h; omega
  · rintro rfl
    rw [if_neg (by omega)]; rfl
theorem sgn_neg {a b : Int} : sgn a b < 0 ↔ a < b := by
  unfold sgn
  constructor
  · intro h
    rcases Int.lt_trichotomy a b with z | z | z
    · exact z
    · subst z; rw [if_neg (by omega)] at h; omega
    · rw [if_pos z, if_neg (by omega)] at h; omega
  · intro z
    rw [if_neg (by omega), if_pos z]; omega
theorem lex_irr : ∀ a : List Int, HT.lexLt a a = false
  | [] => rfl
  | x :: a => by rw [HT.lexLt_cons, if_pos rfl]; exact lex_irr a
theorem lex_tri : ∀ a b : List Int, a ≠ b → (HT.lexLt a b = true ∧ HT.lexLt b a = false) ∨ (HT.lexLt b a = true ∧ HT.lexLt a b = false)
  | [], [], h => absurd rfl h
  | [], y :: b, _ => .inl ⟨rfl, rfl⟩
  | x :: a, [], _ => .inr ⟨rfl, rfl⟩
  | x :: a, y :: b, h => by
    rw [HT.lexLt_cons, HT.lexLt_cons]
    by_cases z : x = y
    · subst z
      rw [if_pos rfl, if_pos rfl]
      exact lex_tri a b fun e => h (by rw [e])
    · rw [if_neg z, if_neg (Ne.symm z)]
      rcases Int.lt_or_gt_of_ne z with q | q
      · exact .inl ⟨decide_eq_true q, decide_eq_false (by omega)⟩
      · exact .inr ⟨decide_eq_true q, decide_eq_false (by omega)⟩
theorem sgnL_anti (a b : List Int) : sgnL b a = -sgnL a b := by unfold sgnL; omega
theorem sgnL_zero {a b : List Int} : sgnL a b = 0 ↔ a = b := by
  unfold sgnL
  constructor
  · intro h
    by_cases z : a = b
    · exact z
    · rcases lex_tri a b z with ⟨q1, q2⟩ | ⟨q1, q2⟩ <;> (rw [q1, q2] at h; simp at h)
  · rintro rfl
    rw [lex_irr]; rfl
theorem sgnL_neg {a b : List Int} : sgnL a b < 0 ↔ HT.lexLt a b = true := by
  unfold sgnL
  by_cases z : a = b
  · subst z; rw [lex_irr]; simp
  · rcases lex_tri a b z with ⟨q1, q2⟩ | ⟨q1, q2⟩ <;> (rw [q1, q2]; simp)
theorem lsd_anti (g : Nat → D → D → Int) (h : ∀ k x y, g k y x = -g k x y) : ∀ (xs ys : List D) (k : Nat), lsd g ys xs k = -lsd g xs ys k
  | [], [], k => by show sgn _ _ = -sgn _ _; exact sgn_anti _ _
  | [], y :: ys, k => by show sgn _ _ = -sgn _ _; exact sgn_anti _ _
  | x :: xs, [], k => by show sgn _ _ = -sgn _ _; exact sgn_anti _ _
  | x :: xs, y :: ys, k => by
    show (if g k y x = 0 then _ else _) = -(if g k x y = 0 then _ else _)
    have e := h k x y
    by_cases z : g k x y = 0
    · rw [if_pos z, if_pos (by omega)]; exact lsd_anti g h xs ys (k + 1)
    · rw [if_neg z, if_neg (by omega)]; exact e
mutual
theorem ord_anti : ∀ (f : Fm) (a b : D), ordI f b a = -ordI f a b
  | .bare k, a, b => by
    rw [ordI, ordI]
    unfold bareOrd
    split
    · rfl
    · split
      · exact sgn_anti _ _
      · exact sgn_anti _ _
  | .sp _ _, a, b => by rw [ordI, ordI]; exact sgn_anti _ _
  | .le s, a, b => by rw [ordI, ordI]; exact sgnL_anti _ _
  | .one k f, a, b => by
    rw [ordI, ordI]
    split
    · have := ord_anti f a b; omega
    · exact lsd_anti _ (fun _ x y => ord_anti f x y) _ _ 0
  | .two k ns fs, a, b => by
    rw [ordI, ordI]
    split
    · exact lsd_anti (fun i => (ordIs fs).getD (i % fs.length) fun _ _ => 0) (fun i x y => ords_anti fs (i % fs.length) x y) _ _ 0
    · by_cases z : nameD a = nameD b
      · rw [if_pos z, if_pos z.symm, z]; exact ords_anti fs _ _ _
      · rw [if_neg z, if_neg (Ne.symm z)]; exact sgn_anti _ _
theorem ords_anti : ∀ (fs : List Fm) (i : Nat) (x y : D), (ordIs fs).getD i (fun _ _ => 0) y x = -(ordIs fs).getD i (fun _ _ => 0) x y
  | [], i, x, y => by rw [ordIs]; rfl
  | f :: fs, 0, x, y => by rw [ordIs]; exact ord_anti f x y
  | f :: fs, i + 1, x, y => by rw [ordIs]; exact ords_anti fs i x y
end
/-- how far two lists are alike -/
def fU : List D → List D → Nat
  | x :: xs, y :: ys => if eqDD x y = true then fU xs ys + 1 else 0
  | _, _ => 0
theorem fU_le : ∀ xs ys : List D, fU xs ys ≤ xs.length ∧ fU xs ys ≤ ys.length
  | [], ys => ⟨Nat.zero_le _, Nat.zero_le _⟩
  | x :: xs, [] => ⟨Nat.zero_le _, Nat.zero_le _⟩
  | x :: xs, y :: ys => by
    rw [fU]
    split
    · have := fU_le xs ys
      exact ⟨Nat.succ_le_succ this.1, Nat.succ_le_succ this.2⟩
    · exact ⟨Nat.zero_le _, Nat.zero_le _⟩
/-- what is asked of the parts -/
structure Good (g : D → D → Int) (x y : D) : Prop where
  z : g x y = 0 ↔ x = y
  e : eqDD x y = true ↔ x = y
theorem lsd_fU (g : Nat → D → D → Int) : ∀ (xs ys : List D) (k : Nat), (∀ (i : Nat) (x y : D), xs[i]? = some x → ys[i]? = some y → Good (g (k + i)) x y) →
    (fU xs ys = xs.length ∨ fU xs ys = ys.length) ∧ lsd g xs ys k = sgn xs.length ys.length ∨ ∃ x y, xs[fU xs ys]? = some x ∧ ys[fU xs ys]? = some y ∧ lsd g xs ys k = g (k + fU xs ys) x y
  | [], [], k, _ => .inl ⟨.inl rfl, rfl⟩
  | [], y :: ys, k, _ => .inl ⟨.inl rfl, rfl⟩
  | x :: xs, [], k, _ => .inl ⟨.inr rfl, rfl⟩
  | x :: xs, y :: ys, k, h => by
    have h0 := h 0 x y rfl rfl
    rw [Nat.add_zero] at h0
    by_cases z : x = y
    · have e1 : fU (x :: xs) (y :: ys) = fU xs ys + 1 := by rw [fU, if_pos (h0.e.mpr z)]
      have e2 : lsd g (x :: xs) (y :: ys) k = lsd g xs ys (k + 1) := by rw [lsd, if_pos (h0.z.mpr z)]
      have ih := lsd_fU g xs ys (k + 1) fun i a b ha hb => by
        have := h (i + 1) a b ha hb
        rwa [show k + 1 + i = k + (i + 1) by omega]
      rw [e1, e2]
      rcases ih with ⟨q1, q2⟩ | ⟨a, b, q1, q2, q3⟩
      · refine .inl ⟨q1.imp (by rw [List.length_cons]; omega) (by rw [List.length_cons]; omega), ?_⟩
        rw [q2]
        unfold sgn
        simp only [List.length_cons]
        omega
      · exact .inr ⟨a, b, q1, q2, by rw [q3, show k + 1 + fU xs ys = k + (fU xs ys + 1) by omega]⟩
    · have e1 : fU (x :: xs) (y :: ys) = 0 := by rw [fU, if_neg (fun q => z (h0.e.mp q))]
      have e2 : lsd g (x :: xs) (y :: ys) k = g k x y := by rw [lsd, if_neg (fun q => z (h0.z.mp q))]
      rw [e1, e2]
      exact .inr ⟨x, y, rfl, rfl, rfl⟩
theorem lsd_zero (g : Nat → D → D → Int) : ∀ (xs ys : List D) (k : Nat), (∀ (i : Nat) (x y : D), xs[i]? = some x → ys[i]? = some y → Good (g (k + i)) x y) → (lsd g xs ys k = 0 ↔ xs = ys)
  | [], [], k, _ => ⟨fun _ => rfl, fun _ => rfl⟩
  | [], y :: ys, k, _ => by
    show sgn _ _ = 0 ↔ _
    rw [sgn_zero]
    constructor
    · intro h; simp at h; omega
    · intro h; cases h
  | x :: xs, [], k, _ => by
    show sgn _ _ = 0 ↔ _
    rw [sgn_zero]
    constructor
    · intro h; simp at h; omega
    · intro h; cases h
  | x :: xs, y :: ys, k, h => by
    have h0 := h 0 x y rfl rfl
    rw [Nat.add_zero] at h0
    rw [lsd]
    by_cases z : x = y
    · rw [if_pos (h0.z.mpr z), lsd_zero g xs ys (k + 1) fun i a b ha hb => by
        have := h (i + 1) a b ha hb
        rwa [show k + 1 + i = k + (i + 1) by omega], z]
      simp
    · have zg : g k x y ≠ 0 := fun q => z (h0.z.mp q)
      rw [if_neg zg]
      exact ⟨fun q => absurd q zg, fun q => absurd (List.head_eq_of_cons_eq q) z⟩
theorem eqDs_iff : ∀ (xs ys : List D), (∀ (i : Nat) (x y : D), xs[i]? = some x → ys[i]? = some y → (eqDD x y = true ↔ x = y)) → (eqDs xs ys = true ↔ xs = ys)
  | [], [], _ => by rw [eqDs]; simp
  | [], y :: ys, _ => by rw [eqDs]; simp
  | x :: xs, [], _ => by rw [eqDs]; simp
  | x :: xs, y :: ys, h => by
    rw [eqDs]
    show (eqDD x y && eqDs xs ys) = true ↔ _
    rw [Bool.and_eq_true, h 0 x y rfl rfl, eqDs_iff xs ys fun i a b ha hb => h (i + 1) a b ha hb]
    simp

theorem fitL_at {ff : D → Bool} : ∀ {fs : List Fm} {ds : List D}, fitL ff fs ds = true → ds.length = fs.length ∧ ∀ (i : Nat) (f : Fm) (d : D), fs[i]? = some f → ds[i]? = some d → fitB ff f d = true
  | [], [], _ => ⟨rfl, fun i f d h => by cases h⟩
  | [], e :: ds, h => by rw [fitL] at h; cases h
  | g :: fs, [], h => by rw [fitL] at h; cases h
  | g :: fs, e :: ds, h => by
    rw [fitL] at h
    have h : (fitB ff g e && fitL ff fs ds) = true := h
    rw [Bool.and_eq_true] at h
    obtain ⟨a, b⟩ := fitL_at h.2
    refine ⟨by rw [List.length_cons, List.length_cons, a], fun i f d hf hd => ?_⟩
    cases i with
    | zero => cases hf; cases hd; exact h.1
    | succ i => exact b i f d hf hd
theorem fitC_mem {ff : D → Bool} : ∀ (fs : List Fm) (ns : List Str) (n : Str) (x : D), ns.length = fs.length → fitC ff fs ns n x = true → n ∈ ns
  | [], ns, n, x, _, h => by rw [fitC] at h; cases h
  | f :: fs, [], n, x, hl, h => by cases hl
  | f :: fs, m :: ns, n, x, hl, h => by
    rw [fitC] at h
    by_cases z : m = n
    · subst z; exact List.mem_cons_self ..
    · have h : (if some m = some n then _ else fitC ff fs ns n x) = true := h
      rw [if_neg (fun e => z (Option.some.inj e))] at h
      exact List.mem_cons_of_mem _ (fitC_mem fs ns n x (by simpa using hl) h)
theorem idxI_inj {s : Str} : ∀ (a b : List Nat), (∀ c, c ∈ a → c ∈ s.cps.toList) → (∀ c, c ∈ b → c ∈ s.cps.toList) → (a.map fun c => ((s.cps.toList.idxOf c : Nat) : Int)) = (b.map fun c => ((s.cps.toList.idxOf c : Nat) : Int)) → a = b
  | [], [], _, _, _ => rfl
  | [], y :: b, _, _, h => by cases h
  | x :: a, [], _, _, h => by cases h
  | x :: a, y :: b, h1, h2, h => by
    rw [List.map_cons, List.map_cons] at h
    have e1 := List.head_eq_of_cons_eq h
    have e2 := List.tail_eq_of_cons_eq h
    have e1 : s.cps.toList.idxOf x = s.cps.toList.idxOf y := by omega
    have hx := List.idxOf_lt_length_of_mem (h1 x (List.mem_cons_self ..))
    have hy := List.idxOf_lt_length_of_mem (h2 y (List.mem_cons_self ..))
    have gx : s.cps.toList[s.cps.toList.idxOf x] = x := List.getElem_idxOf hx
    have gy : s.cps.toList[s.cps.toList.idxOf y] = y := List.getElem_idxOf hy
    have exy : x = y := by rw [← gx, ← gy]; congr 1
    rw [exy, idxI_inj a b (fun c hc => h1 c (List.mem_cons_of_mem _ hc)) (fun c hc => h2 c (List.mem_cons_of_mem _ hc)) e2]
theorem dvd_cop {q p t : Int} (h : q ∣ p * t) (hc : Int.gcd p q = 1) : q ∣ t := by
  have h' := Int.natAbs_dvd_natAbs.mpr h
  rw [Int.natAbs_mul] at h'
  have : Nat.Coprime q.natAbs p.natAbs := by unfold Nat.Coprime; rw [Nat.gcd_comm]; exact hc
  exact Int.natAbs_dvd_natAbs.mp (this.dvd_of_dvd_mul_left h')
theorem frac_eq {p q r t : Int} (h1 : 0 < q) (h2 : Int.gcd p q = 1) (h3 : 0 < t) (h4 : Int.gcd r t = 1) (h : p * t = r * q) : p = r ∧ q = t := by
  have d1 : q ∣ t := dvd_cop (by rw [h]; exact Int.dvd_mul_left r q) h2
  have d2 : t ∣ q := dvd_cop (by rw [← h]; exact Int.dvd_mul_left p t) h4
  have e : q = t := Int.dvd_antisymm (by omega) (by omega) d1 d2
  subst e
  exact ⟨Int.eq_of_mul_eq_mul_right (by omega) h, rfl⟩
mutual
theorem good_ord : ∀ (f : Fm) (a b : D), okG f → fitB fracOk f a = true → fitB fracOk f b = true → Good (ordI f) a b
  | .bare k, a, b, _, h1, h2 => by
    rw [fitB] at h1 h2
    rcases fin4 k with rfl | rfl | rfl | rfl
    · cases a <;> first | cases h1 | skip
      cases b <;> first | cases h2 | skip
      exact ⟨⟨fun _ => rfl, fun _ => by rw [ordI]; rfl⟩, ⟨fun _ => rfl, fun _ => by rw [eqDD]; rfl⟩⟩
    · cases a <;> first | cases h1 | skip
      rename_i x
      cases b <;> first | cases h2 | skip
      rename_i y
      refine ⟨?_, ?_⟩
      · rw [ordI]
        show sgn (PyProof.Rows.b2i x) (PyProof.Rows.b2i y) = 0 ↔ _
        rw [sgn_zero]
        cases x <;> cases y <;> simp [PyProof.Rows.b2i]
      · rw [eqDD]; cases x <;> cases y <;> simp [eqBl]
    · cases a <;> first | cases h1 | skip
      rename_i x
      cases b <;> first | cases h2 | skip
      rename_i y
      refine ⟨?_, ?_⟩
      · rw [ordI]
        show sgn x y = 0 ↔ _
        rw [sgn_zero]; simp
      · rw [eqDD]; simp [eqIn]
    · replace h1 : fracOk a = true := h1
      replace h2 : fracOk b = true := h2
      unfold fracOk at h1 h2
      split at h1
      · rename_i p q
        split at h2
        · rename_i r t
          have h1 := of_decide_eq_true h1
          have h2 := of_decide_eq_true h2
          refine ⟨?_, ?_⟩
          · rw [ordI]
            show sgn (p * t) (r * q) = 0 ↔ _
            rw [sgn_zero]
            constructor
            · intro h
              obtain ⟨e1, e2⟩ := frac_eq h1.1 h1.2.1 h2.1 h2.2.1 h
              rw [e1, e2]
            · intro h
              simp at h
              rw [h.1, h.2]
          · rw [eqDD]
            show eqDs _ _ = true ↔ _
            simp [eqDs, eqDD, eqIn]
        · cases h2
      · cases h1
  | .sp lo hi, a, b, _, h1, h2 => by
    rw [fitB] at h1 h2
    cases a <;> first | cases h1 | skip
    rename_i x
    cases b <;> first | cases h2 | skip
    rename_i y
    refine ⟨?_, ?_⟩
    · rw [ordI]
      show sgn x y = 0 ↔ _
      rw [sgn_zero]; simp
    · rw [eqDD]; simp [eqIn]
  | .le s, a, b, _, h1, h2 => by
    rw [fitB] at h1 h2
    cases a <;> first | cases h1 | skip
    rename_i x
    cases b <;> first | cases h2 | skip
    rename_i y
    have h1 : (decide (x.length ≤ 200) && madeOf x s) = true := h1
    have h2 : (decide (y.length ≤ 200) && madeOf y s) = true := h2
    rw [Bool.and_eq_true] at h1 h2
    have g1 := h1.2
    have g2 := h2.2
    unfold madeOf at g1 g2
    rw [List.all_eq_true] at g1 g2
    refine ⟨?_, ?_⟩
    · rw [ordI]
      show sgnL (idxI s x) (idxI s y) = 0 ↔ _
      rw [sgnL_zero]
      constructor
      · intro h
        have := idxI_inj x.cps.toList y.cps.toList (fun c hc => of_decide_eq_true (g1 c hc)) (fun c hc => of_decide_eq_true (g2 c hc)) h
        have : x = y := by
          cases x; cases y
          congr 1
          exact Array.toList_inj.mp this
        rw [this]
      · intro h
        simp at h
        rw [h]
    · rw [eqDD]; simp [eqSt]
  | .one k f, a, b, hok, h1, h2 => by
    rw [okG] at hok
    rw [fitB] at h1 h2
    rcases fin3 k with rfl | rfl | rfl
    · have ha : ∃ xs, a = .tup xs ∧ ∀ x, x ∈ xs → fitB fracOk f x = true := by
        have h1 : maybeFit (fitB fracOk f) a = true := h1
        unfold maybeFit at h1
        split at h1
        · exact ⟨[], rfl, fun x hx => nomatch hx⟩
        · exact ⟨[_], rfl, fun y hy => by rw [List.mem_singleton.mp hy]; exact h1⟩
        · cases h1
      have hb : ∃ xs, b = .tup xs ∧ ∀ x, x ∈ xs → fitB fracOk f x = true := by
        have h2 : maybeFit (fitB fracOk f) b = true := h2
        unfold maybeFit at h2
        split at h2
        · exact ⟨[], rfl, fun x hx => nomatch hx⟩
        · exact ⟨[_], rfl, fun y hy => by rw [List.mem_singleton.mp hy]; exact h2⟩
        · cases h2
      obtain ⟨xs, rfl, hx⟩ := ha
      obtain ⟨ys, rfl, hy⟩ := hb
      have all : ∀ (i : Nat) (x y : D), xs[i]? = some x → ys[i]? = some y → Good (ordI f) x y := fun i x y e1 e2 => good_ord f x y hok (hx x (List.mem_of_getElem? e1)) (hy y (List.mem_of_getElem? e2))
      refine ⟨?_, ?_⟩
      · rw [ordI, if_neg (by decide)]
        show lsd _ xs ys 0 = 0 ↔ _
        rw [lsd_zero _ xs ys 0 all]; simp
      · rw [eqDD]
        show eqDs xs ys = true ↔ _
        rw [eqDs_iff xs ys fun i x y e1 e2 => (all i x y e1 e2).e]; simp
    · replace h1 : manyFit (fitB fracOk f) a = true := h1
      replace h2 : manyFit (fitB fracOk f) b = true := h2
      cases a <;> first | cases h1 | skip
      rename_i xs
      cases b <;> first | cases h2 | skip
      rename_i ys
      have h1 : (decide (xs.length ≤ 60) && xs.all (fitB fracOk f)) = true := h1
      have h2 : (decide (ys.length ≤ 60) && ys.all (fitB fracOk f)) = true := h2
      rw [Bool.and_eq_true, List.all_eq_true] at h1 h2
      have all : ∀ (i : Nat) (x y : D), xs[i]? = some x → ys[i]? = some y → Good (ordI f) x y := fun i x y e1 e2 => good_ord f x y hok (h1.2 x (List.mem_of_getElem? e1)) (h2.2 y (List.mem_of_getElem? e2))
      refine ⟨?_, ?_⟩
      · rw [ordI, if_neg (by decide)]
        show lsd _ xs ys 0 = 0 ↔ _
        rw [lsd_zero _ xs ys 0 all]; simp
      · rw [eqDD]
        show eqDs xs ys = true ↔ _
        rw [eqDs_iff xs ys fun i x y e1 e2 => (all i x y e1 e2).e]; simp
    · have g := good_ord f a b hok h1 h2
      refine ⟨?_, g.e⟩
      rw [ordI, if_pos rfl, ← g.z]
      omega
  | .two k ns fs, a, b, hok, h1, h2 => by
    rw [okG] at hok
    rw [fitB] at h1 h2
    rcases fin2 k with rfl | rfl
    · rw [if_pos rfl] at h1 h2
      cases a <;> first | cases h1 | skip
      rename_i xs
      cases b <;> first | cases h2 | skip
      rename_i ys
      obtain ⟨l1, g1⟩ := fitL_at (show fitL fracOk fs xs = true from h1)
      obtain ⟨l2, g2⟩ := fitL_at (show fitL fracOk fs ys = true from h2)
      have all : ∀ (i : Nat) (x y : D), xs[i]? = some x → ys[i]? = some y → Good ((ordIs fs).getD ((0 + i) % fs.length) fun _ _ => 0) x y := fun i x y e1 e2 => by
        have hi : i < fs.length := by
          rcases Nat.lt_or_ge i xs.length with z | z
          · omega
          · rw [List.getElem?_eq_none z] at e1; cases e1
        rw [Nat.zero_add, Nat.mod_eq_of_lt hi]
        have hf := List.getElem?_eq_getElem hi
        exact goods_ord fs i x y _ hf hok.2.2 (g1 i _ x hf e1) (g2 i _ y hf e2)
      refine ⟨?_, ?_⟩
      · rw [ordI, if_pos rfl]
        show lsd _ xs ys 0 = 0 ↔ _
        rw [lsd_zero _ xs ys 0 all]; simp
      · rw [eqDD]
        show eqDs xs ys = true ↔ _
        rw [eqDs_iff xs ys fun i x y e1 e2 => (all i x y e1 e2).e]; simp
    · rw [if_neg (by decide)] at h1 h2
      unfold choFit at h1 h2
      split at h1
      · rename_i n x
        split at h2
        · rename_i m y
          have mem : ∀ {n : Str} {x : D}, fitC fracOk fs ns n x = true → n ∈ ns := fun {n x} h => fitC_mem fs ns n x hok.2.1 h
          have hn := mem h1
          have hm := mem h2
          rw [fitC_get fs ns n hn hok.2.1] at h1
          rw [fitC_get fs ns m hm hok.2.1] at h2
          have hin := List.idxOf_lt_length_of_mem hn
          have him := List.idxOf_lt_length_of_mem hm
          have gn : ns[ns.idxOf n] = n := List.getElem_idxOf hin
          have gm : ns[ns.idxOf m] = m := List.getElem_idxOf him
          rw [hok.2.1] at hin
          have hf := List.getElem?_eq_getElem hin
          have hnm : ns.idxOf n = ns.idxOf m ↔ n = m := ⟨fun h => by rw [← gn, ← gm]; congr 1, fun h => by rw [h]⟩
          by_cases z : n = m
          · subst z
            rw [List.getD_eq_getElem?_getD, hf] at h1 h2
            have g := goods_ord fs _ x y _ hf hok.2.2 h1 h2
            refine ⟨?_, ?_⟩
            · rw [ordI, if_neg (by decide)]
              show (if n = n then _ else _) = 0 ↔ _
              rw [if_pos rfl]
              show (ordIs fs).getD (ns.idxOf n) _ x y = 0 ↔ _
              rw [g.z]; simp
            · rw [eqDD]
              show eqDs _ _ = true ↔ _
              simp [eqDs, eqDD, eqSt, g.e]
          · refine ⟨?_, ?_⟩
            · rw [ordI, if_neg (by decide)]
              show (if n = m then _ else _) = 0 ↔ _
              rw [if_neg z]
              show sgn (ns.idxOf n) (ns.idxOf m) = 0 ↔ _
              rw [sgn_zero]
              constructor
              · intro h
                exact absurd (hnm.mp (by omega)) z
              · intro h
                simp at h
                exact absurd h.1 z
            · rw [eqDD]
              show eqDs _ _ = true ↔ _
              simp [eqDs, eqDD, eqSt, z]
        · cases h2
      · cases h1
theorem goods_ord : ∀ (fs : List Fm) (i : Nat) (x y : D) (f : Fm), fs[i]? = some f → okGs fs → fitB fracOk f x = true → fitB fracOk f y = true → Good ((ordIs fs).getD i fun _ _ => 0) x y
  | [], i, x, y, f, e, _, _, _ => by cases e
  | g :: fs, 0, x, y, f, e, ok, h1, h2 => by
    cases e
    rw [okGs] at ok
    rw [ordIs]
    exact good_ord g x y ok.1 h1 h2
  | g :: fs, i + 1, x, y, f, e, ok, h1, h2 => by
    rw [okGs] at ok
    rw [ordIs]
    exact goods_ord fs i x y f e ok.2 h1 h2
end

/-! ### k23: ahead -/
def idxs (s t : Str) : List Nat := t.cps.toList.map fun c => s.cps.toList.idxOf c
def spPlaces (C : Addr) : Sp := fun vs H Q _ => ∃ (o dx : Addr) (s t : Str), vs = [.ref o, .str t] ∧ H o = some (.ins C dx [("signs", .str s)]) ∧ madeOf t s = true ∧ t.length ≤ 200 ∧ ∀ r, H r = none → Q (.ref r) (upd H r (.lst ((idxs s t).map fun k => V.int ((k : Nat) : Int))))
theorem ok_Letters_places {f C : Addr} {fd : FuncData} (T : LetCls K C) (F : Fun K "places" "Letters.places" s_Letters_places f fd) : FnOk P w K mg base CX0 1 f fd ["self", "text"] (spPlaces C) := by
  refine F.okK sc_Letters_places (fun vs H Q E h => ?_) (fun cdv A outer s H vs Q E hr h => ?_)
  · obtain ⟨_, _, _, _, rfl, _⟩ := h; rfl
  obtain ⟨o, dx, sg, t, rfl, ho, hm, hl, q⟩ := h
  refine ⟨_, (pss_one (ps_ret (pe_comp ["sign"] [(0, "self")] rfl (by decide +kernel) ⟨rfl, .inl rfl, trivial⟩ (piAll (pv 1)) (fun _ _ _ _ _ => (pg_name (i := 0) (show (["sign", "self"] : List Str).Nodup by decide +kernel) rfl (by first | exact Or.inl rfl | exact Or.inr rfl))) (fun _ _ _ _ _ => pts_nil) (fun _ _ _ _ _ => (pe_bm PySem.F.plainAttrs_str PySem.F.slot_str_index PySem.F.type_str_index mt_sindexE (pe_fld (pv 1) rfl) (pa_cons (pv 0) pa_nil)))))), ?_⟩
  refine .inr ⟨_, rfl, _, rfl, fun D hD => ?_⟩
  refine comp_str (fun c => V.int ((sg.cps.toList.idxOf c : Nat) : Int)) (fun σ => ∃ z, σ = [z, some (.ref o)]) (small5 (by show t.length ≤ _; omega)) ⟨_, rfl⟩ hD ?_ ?_
  · rintro ch hc σ1 H1 ⟨z, rfl⟩ hs1 R hR
    refine ⟨_, rfl, o, C, dx, _, _, rfl, hs1 _ _ ho, T.cl, T.nS, look1 .., ?_⟩
    exact ⟨rfl, _, rfl, sg, ch, rfl, rfl, of_decide_eq_true (List.all_eq_true.mp hm ch hc), hR _ ⟨_, rfl⟩⟩
  · refine ⟨_, .new hD (same_new hD) upd_same trivial, ?_⟩
    have q := q D hD
    unfold idxs at q
    rw [List.map_map] at q
    exact q

theorem FAt.ahead {c : FC} {X : List Addr} {H : Hp} (f : Fm) {o : Addr} (h : FAt c X H f o) : ∃ dx fs, H o = some (.ins (clS c (slot f)) dx fs) ∧ fs.lookup (Str.ofString "ahead") = none :=
  FAt.ins (m := Str.ofString "ahead") (by decide +kernel) (by decide +kernel) (by decide +kernel) (by decide +kernel) (by decide +kernel) (by decide +kernel) f h
structure Ab (c : FC) (n : Nat) (H : Hp) (f : Fm) (o : Addr) (a b : D) (va vb : V) : Prop where
  hf : FAt c [] H f o
  ok : okG f
  hh : ht f ≤ n
  da : DAt H a va
  db : DAt H b vb
  fa : fitB fracOk f a = true
  fb : fitB fracOk f b = true
  ha : dht a ≤ 50
  hb : dht b ≤ 50
def spAh (c : FC) (n : Nat) (i : Sl) : Sp := fun vs H Q _ => ∃ (o : Addr) (f : Fm) (a b : D) (va vb : V), vs = [.ref o, va, vb] ∧ slot f = i ∧ Ab c n H f o a b va vb ∧ Q (.bl (decide (ordI f a b < 0))) H
theorem ah_Nothing {f : Addr} {c : FC} {fd : FuncData} {n : Nat} (F : Fun K "ahead" "Nothing.ahead" s_Nothing_ahead f fd) : FnOk P w K mg base CX0 1 f fd ["self", "one", "other"] (spAh c n (.b 0)) := by
  refine F.okK sc_Nothing_ahead (fun vs H Q E h => ?_) (fun cdv A outer s H vs Q E hr h => ?_)
  · obtain ⟨_, _, _, _, _, _, rfl, _⟩ := h; rfl
  obtain ⟨o, g, a, b, va, vb, rfl, hs, B, q⟩ := h
  obtain rfl := slot_bare hs
  refine ⟨_, (pss_one (ps_ret pe_bl)), H, .refl (Same.refl _), ?_⟩
  rw [ordI] at q
  exact q
theorem ah_Truth {f : Addr} {c : FC} {fd : FuncData} {n : Nat} (F : Fun K "ahead" "Truth.ahead" s_Truth_ahead f fd) : FnOk P w K mg base CX0 1 f fd ["self", "one", "other"] (spAh c n (.b 1)) := by
  refine F.okK sc_Truth_ahead (fun vs H Q E h => ?_) (fun cdv A outer s H vs Q E hr h => ?_)
  · obtain ⟨_, _, _, _, _, _, rfl, _⟩ := h; rfl
  obtain ⟨o, g, a, b, va, vb, rfl, hs, B, q⟩ := h
  obtain rfl := slot_bare hs
  obtain ⟨hF, _, _, ha, hb, fa, fb, d1, d2⟩ := B
  clear d1 d2
  rw [fitB] at fa fb
  cases a <;> first | cases fa | skip
  rename_i x
  cases b <;> first | cases fb | skip
  rename_i y
  obtain rfl : va = .bl x := ha
  obtain rfl : vb = .bl y := hb
  rw [ordI] at q
  refine ⟨_, (pss_one (ps_ret (pe_and (pv 2) (pe_one (pe_notA (pv 1)))))), _, rfl, y, rfl, ?_⟩
  cases y
  · rw [show decide (bareOrd 1 (.bl x) (.bl false) < 0) = false by cases x <;> decide] at q
    exact iteF ⟨H, .refl (Same.refl _), q⟩
  · rw [show decide (bareOrd 1 (.bl x) (.bl true) < 0) = !x by cases x <;> decide] at q
    exact iteT ⟨_, rfl, x, rfl, H, .refl (Same.refl _), q⟩
theorem ah_Whole {f : Addr} {c : FC} {fd : FuncData} {n : Nat} (F : Fun K "ahead" "Whole.ahead" s_Whole_ahead f fd) : FnOk P w K mg base CX0 1 f fd ["self", "one", "other"] (spAh c n (.b 2)) := by
  refine F.okK sc_Whole_ahead (fun vs H Q E h => ?_) (fun cdv A outer s H vs Q E hr h => ?_)
  · obtain ⟨_, _, _, _, _, _, rfl, _⟩ := h; rfl
  obtain ⟨o, g, a, b, va, vb, rfl, hs, B, q⟩ := h
  obtain rfl := slot_bare hs
  obtain ⟨hF, _, _, ha, hb, fa, fb, d1, d2⟩ := B
  clear d1 d2
  rw [fitB] at fa fb
  cases a <;> first | cases fa | skip
  rename_i x
  cases b <;> first | cases fb | skip
  rename_i y
  obtain rfl : va = .int x := ha
  obtain rfl : vb = .int y := hb
  rw [ordI] at q
  refine ⟨_, (pss_one (ps_ret (pe_cmpR oLt (pv 1) (pv 2) (nomark _)))), _, rfl, _, rfl, .inl ⟨_, _, rfl, rfl, H, .refl (Same.refl _), ?_⟩⟩
  have e : decide (x < y) = decide (bareOrd 2 (.int x) (.int y) < 0) := decide_eq_decide.mpr (show x < y ↔ sgn x y < 0 from sgn_neg.symm)
  rw [← e] at q
  exact q
theorem ah_Span {f : Addr} {c : FC} {fd : FuncData} {n : Nat} (F : Fun K "ahead" "Span.ahead" s_Span_ahead f fd) : FnOk P w K mg base CX0 1 f fd ["self", "one", "other"] (spAh c n .s) := by
  refine F.okK sc_Span_ahead (fun vs H Q E h => ?_) (fun cdv A outer s H vs Q E hr h => ?_)
  · obtain ⟨_, _, _, _, _, _, rfl, _⟩ := h; rfl
  obtain ⟨o, g, a, b, va, vb, rfl, hs, B, q⟩ := h
  obtain ⟨lo, hi, rfl⟩ := slot_sp hs
  obtain ⟨hF, _, _, ha, hb, fa, fb, d1, d2⟩ := B
  clear d1 d2
  rw [fitB] at fa fb
  cases a <;> first | cases fa | skip
  rename_i x
  cases b <;> first | cases fb | skip
  rename_i y
  obtain rfl : va = .int x := ha
  obtain rfl : vb = .int y := hb
  rw [ordI] at q
  refine ⟨_, (pss_one (ps_ret (pe_cmpR oLt (pv 1) (pv 2) (nomark _)))), _, rfl, _, rfl, .inl ⟨_, _, rfl, rfl, H, .refl (Same.refl _), ?_⟩⟩
  have e : decide (x < y) = decide (sgn (numD (.int x)) (numD (.int y)) < 0) := decide_eq_decide.mpr (show x < y ↔ sgn x y < 0 from sgn_neg.symm)
  rw [← e] at q
  exact q
theorem ah_Fraction {f : Addr} {c : FC} {fd : FuncData} {n : Nat} (F : Fun K "ahead" "Fraction.ahead" s_Fraction_ahead f fd) : FnOk P w K mg base CX0 1 f fd ["self", "one", "other"] (spAh c n (.b 3)) := by
  refine F.okK sc_Fraction_ahead (fun vs H Q E h => ?_) (fun cdv A outer s H vs Q E hr h => ?_)
  · obtain ⟨_, _, _, _, _, _, rfl, _⟩ := h; rfl
  obtain ⟨o, g, a, b, va, vb, rfl, hs, B, q⟩ := h
  obtain rfl := slot_bare hs
  obtain ⟨hF, _, _, ha, hb, fa, fb, d1, d2⟩ := B
  clear d1 d2
  rw [fitB] at fa fb
  replace fa : fracOk a = true := fa
  replace fb : fracOk b = true := fb
  unfold fracOk at fa fb
  split at fa
  · rename_i p1 q1
    split at fb
    · rename_i p2 q2
      obtain ⟨t1, _, rfl, e1, ⟨_, _, rfl, rfl, _, _, rfl, rfl, rfl⟩, _⟩ := ha
      obtain ⟨t2, _, rfl, e2, ⟨_, _, rfl, rfl, _, _, rfl, rfl, rfl⟩, _⟩ := hb
      rw [ordI] at q
      have a0 : ∀ (x : V) (r : List V), atI (x :: r) 0 = some x := fun x r => atI_nat (j := 0) rfl
      have a1 : ∀ (x y : V) (r : List V), atI (x :: y :: r) 1 = some y := fun x y r => atI_nat (j := 1) rfl
      refine ⟨_, (pss_one (ps_ret (pe_cmpR oLt (pe_op op_mulB (pe_ix iAll (pv 1) pe_int (fun _ _ => rfl)) (pe_ix iAll (pv 2) pe_int (fun _ _ => rfl))) (pe_op op_mulB (pe_ix iAll (pv 2) pe_int (fun _ _ => rfl)) (pe_ix iAll (pv 1) pe_int (fun _ _ => rfl))) (nomark _)))), ?_⟩
      have fa := of_decide_eq_true fa
      have fb := of_decide_eq_true fb
      have h38 : (10 : Nat) ^ 38 < 2 ^ 200 := by decide +kernel
      have bb : ∀ {x : Int}, x.natAbs ≤ 10 ^ 38 → Builtin.Int.intBits x ≤ 2 ^ 20 := fun {x} h => Nat.le_trans (bits_lt (k := 200) (show x.natAbs < 2 ^ 200 by omega)) (by decide)
      refine ⟨_, rfl, .inl (.inr ⟨_, _, _, _, rfl, rfl, SqT.of e1, a0 _ _, _, rfl, .inl (.inr ⟨_, _, _, _, rfl, rfl, SqT.of e2, a1 _ _ _, _, _, rfl, rfl, ⟨bb fa.2.2.1, bb (by omega)⟩, _, rfl, .inl (.inr ⟨_, _, _, _, rfl, rfl, SqT.of e2, a0 _ _, _, rfl, .inl (.inr ⟨_, _, _, _, rfl, rfl, SqT.of e1, a1 _ _ _, _, _, rfl, rfl, ⟨bb fb.2.2.1, bb (by omega)⟩, .inl ⟨_, _, rfl, rfl, H, .refl (Same.refl _), ?_⟩⟩)⟩)⟩)⟩)⟩
      have e : decide (p1 * q2 < p2 * q1) = decide (bareOrd 3 (.tup [.int p1, .int q1]) (.tup [.int p2, .int q2]) < 0) := decide_eq_decide.mpr (show p1 * q2 < p2 * q1 ↔ sgn (p1 * q2) (p2 * q1) < 0 from sgn_neg.symm)
      rw [← e] at q
      exact q
    · cases fb
  · cases fa
theorem ah_Letters {f : Addr} {c : FC} {fd : FuncData} {n : Nat} (c_C : Cls K c.l) (F : Fun K "ahead" "Letters.ahead" s_Letters_ahead f fd) (M_places : MethOk P w K mg base 1 c.l "places" ["self", "text"] (spPlaces c.l)) : FnOk P w K mg base CX0 2 f fd ["self", "one", "other"] (spAh c n .l) := by
  refine F.okK sc_Letters_ahead (fun vs H Q E h => ?_) (fun cdv A outer s H vs Q E hr h => ?_)
  · obtain ⟨_, _, _, _, _, _, rfl, _⟩ := h; rfl
  obtain ⟨o, g, a, b, va, vb, rfl, hs, B, q⟩ := h
  obtain ⟨sg, rfl⟩ := slot_le hs
  obtain ⟨⟨_, dx, ho⟩, hok, _, ha, hb, fa, fb, d1, d2⟩ := B
  clear d1 d2
  rw [fitB] at fa fb
  cases a <;> first | cases fa | skip
  rename_i x
  cases b <;> first | cases fb | skip
  rename_i y
  replace fa : (decide (x.length ≤ 200) && madeOf x sg) = true := fa
  replace fb : (decide (y.length ≤ 200) && madeOf y sg) = true := fb
  rw [Bool.and_eq_true, decide_eq_true_eq] at fa fb
  obtain ⟨rfl, _⟩ := ha
  obtain ⟨rfl, _⟩ := hb
  rw [ordI] at q
  have nlk : List.lookup (Str.ofString "places") [(Str.ofString "signs", V.str sg)] = none := by
    unfold List.lookup
    rw [show (Str.ofString "places" == Str.ofString "signs") = false by decide +kernel]
    rfl
  refine ⟨_, (pss_one (ps_ret (pe_cmpR (oLtLI (room64 hr)) (pe_methD M_places c_C hr (pv 0) (pa_cons (pv 1) pa_nil)) (pe_methD M_places c_C hr (pv 0) (pa_cons (pv 2) pa_nil)) (nomark _)))), ?_⟩
  refine ⟨_, rfl, o, dx, _, rfl, ho, nlk, _, rfl, o, dx, sg, x, rfl, ho, fa.2, fa.1, fun r1 g1 => ?_⟩
  have s1' := same_new (o := HO.lst ((idxs sg x).map fun k => V.int ((k : Nat) : Int))) g1
  refine ⟨_, rfl, o, dx, _, rfl, s1' _ _ ho, nlk, _, rfl, o, dx, sg, y, rfl, s1' _ _ ho, fb.2, fb.1, fun r2 g2 => ?_⟩
  have s2' := same_new (o := HO.lst ((idxs sg y).map fun k => V.int ((k : Nat) : Int))) g2
  have ei : ∀ t : Str, ((idxs sg t).map fun k => V.int ((k : Nat) : Int)) = (idxI sg t).map V.int := fun t => by unfold idxs idxI; rw [List.map_map, List.map_map]; rfl
  refine .inr ⟨r1, r2, idxI sg x, idxI sg y, rfl, rfl, SqL.of (by rw [s2' _ _ upd_same, ei]), SqL.of (by rw [upd_same, ei]), H, .refl (s1'.trans s2'), ?_⟩
  have e : HT.lexLt (idxI sg x) (idxI sg y) = decide (sgnL (idxI sg (txtD (.str x))) (idxI sg (txtD (.str y))) < 0) := by
    rw [Bool.eq_iff_iff, decide_eq_true_eq]
    exact sgnL_neg.symm
  rw [← e] at q
  exact q
theorem ah_Turned {f : Addr} {c : FC} {fd : FuncData} {n : Nat} (T : OneCls K (c.o 2)) (F : Fun K "ahead" "Turned.ahead" s_Turned_ahead f fd) (AM_ahead : AnyM P w K mg base (2 * n + 4) "ahead" ["self", "one", "other"] (clS c) (spAh c n)) : FnOk P w K mg base CX0 (2 * n + 4 + 1) f fd ["self", "one", "other"] (spAh c (n + 1) (.o 2)) := by
  refine F.okK sc_Turned_ahead (fun vs H Q E h => ?_) (fun cdv A outer s H vs Q E hr h => ?_)
  · obtain ⟨_, _, _, _, _, _, rfl, _⟩ := h; rfl
  obtain ⟨o, fm, a, b, va, vb, rfl, hs, B, q⟩ := h
  obtain ⟨g, rfl⟩ := slot_one hs
  obtain ⟨⟨_, dx, i, ho, hI⟩, hok, hht, ha, hb, fa, fb, h1, h2⟩ := B
  rw [okG] at hok
  rw [ht] at hht
  rw [fitB] at fa fb
  rw [ordI, if_pos rfl] at q
  obtain ⟨dxi, fsi, ei, li⟩ := FAt.ahead g hI
  refine ⟨_, (pss_one (ps_ret (pe_methAny AM_ahead hr (pe_fld (pv 0) rfl) (pa_cons (pv 2) (pa_cons (pv 1) pa_nil)) (hk := by omega)))), _, rfl, o, c.o 2, dx, _, _, rfl, ho, T.cl, T.nI, look1 .., i, slot g, dxi, fsi, rfl, ei, li, ?_⟩
  refine ⟨_, rfl, _, rfl, i, g, b, a, vb, va, rfl, rfl, ⟨hI, hok, by omega, hb, ha, fb, fa, h2, h1⟩, H, .refl (Same.refl _), ?_⟩
  have e : decide (ordI g b a < 0) = decide (0 - ordI g a b < 0) := decide_eq_decide.mpr (by rw [ord_anti g a b]; omega)
  rw [e]; exact q
theorem ah_Maybe {f : Addr} {c : FC} {fd : FuncData} {n : Nat} (nb : NB mg) (T : OneCls K (c.o 0)) (F : Fun K "ahead" "Maybe.ahead" s_Maybe_ahead f fd) (AM_ahead : AnyM P w K mg base (2 * n + 4) "ahead" ["self", "one", "other"] (clS c) (spAh c n)) : FnOk P w K mg base CX0 (2 * n + 4 + 1) f fd ["self", "one", "other"] (spAh c (n + 1) (.o 0)) := by
  refine F.okK sc_Maybe_ahead (fun vs H Q E h => ?_) (fun cdv A outer s H vs Q E hr h => ?_)
  · obtain ⟨_, _, _, _, _, _, rfl, _⟩ := h; rfl
  obtain ⟨o, fm, a, b, va, vb, rfl, hs, B, q⟩ := h
  obtain ⟨g, rfl⟩ := slot_one hs
  obtain ⟨⟨_, dx, i, ho, hI⟩, hok, hht, ha, hb, fa, fb, h1, h2⟩ := B
  rw [okG] at hok
  rw [ht] at hht
  rw [fitB] at fa fb
  rw [ordI, if_neg (by decide)] at q
  obtain ⟨dxi, fsi, ei, li⟩ := FAt.ahead g hI
  have ex : ∀ {d : D} {v : V}, maybeFit (fitB fracOk g) d = true → DAt H d v → ∃ t, v = .ref t ∧ ((d = .tup [] ∧ H t = some (.tup [])) ∨ ∃ x vx, d = .tup [x] ∧ H t = some (.tup [vx]) ∧ DAt H x vx ∧ fitB fracOk g x = true) := fun {d v} h1 h2 => by
    unfold maybeFit at h1
    split at h1
    · obtain ⟨t, _, rfl, e, rfl, _⟩ := h2
      exact ⟨t, rfl, .inl ⟨rfl, e⟩⟩
    · obtain ⟨t, _, rfl, e, ⟨vx, _, rfl, hx, rfl⟩, _⟩ := h2
      exact ⟨t, rfl, .inr ⟨_, vx, rfl, e, hx, h1⟩⟩
    · cases h1
  obtain ⟨t1, rfl, ca⟩ := ex fa ha
  obtain ⟨t2, rfl, cb⟩ := ex fb hb
  refine ⟨_, (pss_cons (ps_if (PW.pt (pw_or (pt_cmpR oEq (pe_callB call_len rfl nb.len_ bo_len (pa_cons (pv 1) pa_nil)) pe_int (nomark _)) (pw_or1 (pt_cmpR oEq (pe_callB call_len rfl nb.len_ bo_len (pa_cons (pv 2) pa_nil)) pe_int (nomark _))))) (pss_one (ps_ret (pe_cmpR oLt (pe_callB call_len rfl nb.len_ bo_len (pa_cons (pv 1) pa_nil)) (pe_callB call_len rfl nb.len_ bo_len (pa_cons (pv 2) pa_nil)) (nomark _)))) pss_nil)
    (pss_one (ps_ret (pe_methAny AM_ahead hr (pe_fld (pv 0) rfl) (pa_cons (pe_ix iAll (pv 1) pe_int (fun _ _ => rfl)) (pa_cons (pe_ix iAll (pv 2) pe_int (fun _ _ => rfl)) pa_nil)) (hk := by omega))))), ?_⟩
  rcases ca with ⟨rfl, e1⟩ | ⟨x, vx, rfl, e1, hx, fx⟩
  · have q : Q (.bl (decide (sgn (([] : List D).length) ((items b).length) < 0))) H := q
    have fin : ∀ vs : List V, H t2 = some (.tup vs) → vs.length = (items b).length → ∃ H'', L2.Sub H H'' H ∧ Q (.bl (decide ((([] : List V).length : Int) < (vs.length : Int)))) H'' := fun vs e el => by
      refine ⟨H, .refl (Same.refl _), ?_⟩
      rw [decide_eq_decide.mpr sgn_neg] at q
      rw [el]; exact q
    rcases cb with ⟨rfl, e2⟩ | ⟨y, vy, rfl, e2, hy, fy⟩
    · exact ⟨_, rfl, _, _, rfl, .inr ⟨_, SqT.of e1, rfl⟩, rfl, _, rfl, iteY rfl ⟨_, rfl, _, _, rfl, .inr ⟨_, SqT.of e1, rfl⟩, _, rfl, _, _, rfl, .inr ⟨_, SqT.of e2, rfl⟩, .inl ⟨_, _, rfl, rfl, fin [] e2 rfl⟩⟩⟩
    · exact ⟨_, rfl, _, _, rfl, .inr ⟨_, SqT.of e1, rfl⟩, rfl, _, rfl, iteY rfl ⟨_, rfl, _, _, rfl, .inr ⟨_, SqT.of e1, rfl⟩, _, rfl, _, _, rfl, .inr ⟨_, SqT.of e2, rfl⟩, .inl ⟨_, _, rfl, rfl, fin [vy] e2 rfl⟩⟩⟩
  · rcases cb with ⟨rfl, e2⟩ | ⟨y, vy, rfl, e2, hy, fy⟩
    · refine ⟨_, rfl, _, _, rfl, .inr ⟨_, SqT.of e1, rfl⟩, rfl, _, rfl, iteN (by simp) ⟨_, rfl, _, _, rfl, .inr ⟨_, SqT.of e2, rfl⟩, rfl, _, rfl, iteY rfl ⟨_, rfl, _, _, rfl, .inr ⟨_, SqT.of e1, rfl⟩, _, rfl, _, _, rfl, .inr ⟨_, SqT.of e2, rfl⟩, .inl ⟨_, _, rfl, rfl, H, .refl (Same.refl _), q⟩⟩⟩⟩
    · refine ⟨_, rfl, _, _, rfl, .inr ⟨_, SqT.of e1, rfl⟩, rfl, _, rfl, iteN (by simp) ⟨_, rfl, _, _, rfl, .inr ⟨_, SqT.of e2, rfl⟩, rfl, _, rfl, iteN (by simp) ?_⟩⟩
      have a0 : ∀ (x : V) (r : List V), atI (x :: r) 0 = some x := fun x r => atI_nat (j := 0) rfl
      rw [dht, dhts, dhts] at h1 h2
      refine ⟨_, rfl, o, c.o 0, dx, _, _, rfl, ho, T.cl, T.nI, look1 .., i, slot g, dxi, fsi, rfl, ei, li, _, rfl, .inl (.inr ⟨_, _, _, _, rfl, rfl, SqT.of e1, a0 _ _, _, rfl, .inl (.inr ⟨_, _, _, _, rfl, rfl, SqT.of e2, a0 _ _, i, g, x, y, vx, vy, rfl, rfl, ⟨hI, hok, by omega, hx, hy, fx, fy, by omega, by omega⟩, H, .refl (Same.refl _), ?_⟩)⟩)⟩
      have e : lsd (fun _ => ordI g) (items (.tup [x])) (items (.tup [y])) 0 = ordI g x y := by
        show (if ordI g x y = 0 then lsd (fun _ => ordI g) [] [] 1 else ordI g x y) = _
        by_cases z : ordI g x y = 0
        · rw [if_pos z, z]; rfl
        · rw [if_neg z]
      rw [e] at q
      exact q

def spFU : Sp := fun vs H Q _ => ∃ (va vb : V) (xs ys : List D) (l1 l2 : List V), vs = [va, vb] ∧ (∃ a, va = .ref a ∧ (H a = some (.lst l1) ∨ H a = some (.tup l1))) ∧ (∃ a, vb = .ref a ∧ (H a = some (.lst l2) ∨ H a = some (.tup l2))) ∧ DsAt H xs l1 ∧ DsAt H ys l2 ∧ xs.length ≤ 1000 ∧ ys.length ≤ 1000 ∧ dhts xs ≤ 50 ∧ Q (.int ((fU xs ys : Nat) : Int)) H
theorem fU_drop : ∀ (xs ys : List D) (i : Nat), i ≤ fU xs ys → fU (xs.drop i) (ys.drop i) = fU xs ys - i
  | xs, ys, 0, _ => rfl
  | [], ys, i + 1, h => by
    have : fU [] ys = 0 := by cases ys <;> rfl
    omega
  | x :: xs, [], i + 1, h => by
    have : fU (x :: xs) [] = 0 := rfl
    omega
  | x :: xs, y :: ys, i + 1, h => by
    rw [fU] at h ⊢
    split at h
    · rename_i z
      rw [if_pos z]
      have := fU_drop xs ys i (by omega)
      show fU (xs.drop i) (ys.drop i) = _
      omega
    · omega
theorem fU_at {xs ys : List D} {i : Nat} (h : i ≤ fU xs ys) : i < fU xs ys ↔ ∃ x y, xs[i]? = some x ∧ ys[i]? = some y ∧ eqDD x y = true := by
  have e := fU_drop xs ys i h
  constructor
  · intro hi
    have hl := fU_le xs ys
    have h1 : i < xs.length := by omega
    have h2 : i < ys.length := by omega
    rw [List.drop_eq_getElem_cons h1, List.drop_eq_getElem_cons h2, fU] at e
    refine ⟨_, _, List.getElem?_eq_getElem h1, List.getElem?_eq_getElem h2, ?_⟩
    split at e
    · assumption
    · omega
  · rintro ⟨x, y, e1, e2, e3⟩
    obtain ⟨h1, q1⟩ := List.getElem?_eq_some_iff.mp e1
    obtain ⟨h2, q2⟩ := List.getElem?_eq_some_iff.mp e2
    rw [List.drop_eq_getElem_cons h1, List.drop_eq_getElem_cons h2, fU, q1, q2, if_pos e3] at e
    omega
theorem DsAt.ge {H : Hp} : ∀ (ds : List D) {vs : List V} {i : Nat} {d : D}, DsAt H ds vs → ds[i]? = some d → ∃ v, vs[i]? = some v ∧ DAt H d v
  | [], vs, i, d, h, e => by cases e
  | d :: ds, vs, 0, x, h, e => by
    obtain ⟨o', r, rfl, q, q2⟩ := h
    cases e
    exact ⟨_, rfl, q⟩
  | d :: ds, vs, i + 1, x, h, e => by
    obtain ⟨o', r, rfl, q, q2⟩ := h
    obtain ⟨v, h1, h2⟩ := DsAt.ge (vs := r) ds q2 (show ds[i]? = some x from e)
    exact ⟨v, h1, h2⟩
theorem lenLT {K : PySem.W.Frag} {H : Hp} {p : Addr} {l : List V} (h : H p = some (.lst l) ∨ H p = some (.tup l)) : LenV K (.ref p) H l.length := h.elim (fun e => .inl ⟨_, SqL.of e, rfl⟩) (fun e => .inr ⟨_, SqT.of e, rfl⟩)
theorem ixLT {K : PySem.W.Frag} {H : Hp} {p : Addr} {l : List V} {j : Nat} {x : V} {Q : VK} (h : H p = some (.lst l) ∨ H p = some (.tup l)) (e : l[j]? = some x) (q : Q x H) : (rIxL K (.ref p) (.int ((j : Nat) : Int)) H Q ∨ rIxT K (.ref p) (.int ((j : Nat) : Int)) H Q) ∨ rIxS (.ref p) (.int ((j : Nat) : Int)) H Q :=
  h.elim (fun eL => .inl (.inl ⟨_, _, _, _, rfl, rfl, SqL.of eL, atI_nat e, q⟩)) (fun eT => .inl (.inr ⟨_, _, _, _, rfl, rfl, SqT.of eT, atI_nat e, q⟩))
theorem FsAt.ge {c : FC} {X : List Addr} {H : Hp} : ∀ (fs : List Fm) {os : List Addr} {i : Nat} {f : Fm}, FsAt c X H fs os → fs[i]? = some f → ∃ o, os[i]? = some o ∧ FAt c X H f o
  | [], os, i, f, h, e => by cases e
  | g :: fs, os, 0, f, h, e => by
    obtain ⟨o', r, rfl, q, q2⟩ := h
    cases e
    exact ⟨_, rfl, q⟩
  | g :: fs, os, i + 1, f, h, e => by
    obtain ⟨o', r, rfl, q, q2⟩ := h
    obtain ⟨v, h1, h2⟩ := FsAt.ge (os := r) fs q2 (show fs[i]? = some f from e)
    exact ⟨v, h1, h2⟩
theorem dhts_ge {n i : Nat} {d : D} {ds : List D} (h : dhts ds ≤ n) (e : ds[i]? = some d) : dht d ≤ n := dhts_mem (List.mem_of_getElem? e) h
theorem ok_first_unlike {f : Addr} {fd : FuncData} (nb : NB mg) (F : FunAt K mg "first_unlike" s_first_unlike ["one", "other"] f fd) : DefOk P w K mg base 1 "first_unlike" ["one", "other"] spFU := by
  refine F.ok sc_first_unlike (fun vs H Q E h => ?_) (fun cdv A outer s H vs Q E hr h => ?_)
  · obtain ⟨_, _, _, _, _, _, rfl, _⟩ := h; rfl
  obtain ⟨va, vb, xs, ys, l1, l2, rfl, ⟨p1, rfl, hp1⟩, ⟨p2, rfl, hp2⟩, hxs, hys, hn1, hn2, hdx, q⟩ := h
  have len1 := DsAt.len xs hxs
  have len2 := DsAt.len ys hys
  refine ⟨_, (pss_cons (ps_set (i := 2) sc_first_unlike.nd rfl (by first | exact Or.inl rfl | exact Or.inr rfl) pe_int)
    (pss_cons (ps_while PassesOwn.never (PW.pt (pw_and (pt_cmpR oLt (pv 2) (pe_callB call_len rfl nb.len_ bo_len (pa_cons (pv 0) pa_nil)) (nomark _)) (pw_and (pt_cmpR oLt (pv 2) (pe_callB call_len rfl nb.len_ bo_len (pa_cons (pv 1) pa_nil)) (nomark _)) (pw_and1 (pt_cmpR (oEqD (room64 hr)) (pe_ix iAll (pv 0) (pv 2) (fun _ _ => rfl)) (pe_ix iAll (pv 1) (pv 2) (fun _ _ => rfl)) (nomark _))))))
      (pss_one (ps_set (i := 2) sc_first_unlike.nd rfl (by first | exact Or.inl rfl | exact Or.inr rfl) (pe_op oAdd (pv 2) pe_int))))
    (pss_one (ps_ret (pv 2))))), ?_⟩
  refine ⟨fun m σ H2 => H = H2 ∧ ∃ i : Nat, i ≤ fU xs ys ∧ m = fU xs ys - i ∧ σ = [some (.ref p1), some (.ref p2), some (.int ((i : Nat) : Int))], ⟨_, rfl, 0, Nat.zero_le _, rfl, rfl⟩, ?_⟩
  rintro m σ H2 ⟨rfl, i, hi, rfl, rfl⟩
  have hl := fU_le xs ys
  have fin : ¬ i < fU xs ys → ∃ H'', L2.Sub H H'' H ∧ Q (.int ((i : Nat) : Int)) H'' := fun h => by
    rw [show i = fU xs ys by omega]
    exact ⟨H, .refl (Same.refl _), q⟩
  refine ⟨_, rfl, _, rfl, .ref p1, l1.length, rfl, lenLT hp1, .inl ⟨_, _, rfl, rfl, _, rfl, iteD (fun c1 => ?_) (fun c1 => ⟨_, rfl, fin (by omega)⟩)⟩⟩
  refine ⟨_, rfl, _, rfl, .ref p2, l2.length, rfl, lenLT hp2, .inl ⟨_, _, rfl, rfl, _, rfl, iteD (fun c2 => ?_) (fun c2 => ⟨_, rfl, fin (by omega)⟩)⟩⟩
  have b1 : i < xs.length := by omega
  have b2 : i < ys.length := by omega
  obtain ⟨vx, ex, dx'⟩ := DsAt.ge xs hxs (List.getElem?_eq_getElem b1)
  obtain ⟨vy, ey, dy'⟩ := DsAt.ge ys hys (List.getElem?_eq_getElem b2)
  have hfin : eqDD xs[i] ys[i] = true ↔ i < fU xs ys := by
    rw [fU_at hi]
    constructor
    · intro h; exact ⟨_, _, List.getElem?_eq_getElem b1, List.getElem?_eq_getElem b2, h⟩
    · rintro ⟨x, y, e1, e2, e3⟩
      rw [List.getElem?_eq_getElem b1] at e1
      rw [List.getElem?_eq_getElem b2] at e2
      cases e1; cases e2
      exact e3
  have hd50 := dhts_ge hdx (List.getElem?_eq_getElem b1)
  refine ⟨_, rfl, _, rfl, ixLT hp1 ex ⟨_, rfl, _, rfl, ixLT hp2 ey (.inr ⟨xs[i], ys[i], dx', dy', by omega, _, rfl, ?_⟩)⟩⟩
  cases hq : eqDD xs[i] ys[i] with
  | true =>
    have hlt := hfin.mp hq
    refine iteT ⟨fun σ' H' => ∃ m', m' < fU xs ys - i ∧ (H = H' ∧ ∃ i : Nat, i ≤ fU xs ys ∧ m' = fU xs ys - i ∧ σ' = [some (.ref p1), some (.ref p2), some (.int ((i : Nat) : Int))]), fun _ _ h => h, _, rfl, .inl ⟨_, _, rfl, rfl, fU xs ys - (i + 1), by omega, rfl, i + 1, by omega, rfl, ?_⟩⟩
    show [_, _, some (V.int (((i : Nat) : Int) + 1))] = _
    rw [show ((i : Nat) : Int) + 1 = ((i + 1 : Nat) : Int) by omega]
  | false => exact iteF ⟨_, rfl, fin (fun h => by rw [hfin.mpr h] at hq; cases hq)⟩
theorem ah_Many {f : Addr} {c : FC} {fd : FuncData} {n : Nat} (nb : NB mg) (T : OneCls K (c.o 1)) (F : Fun K "ahead" "Many.ahead" s_Many_ahead f fd) (D_first_unlike : DefOk P w K mg base 1 "first_unlike" ["one", "other"] spFU) (AM_ahead : AnyM P w K mg base (2 * n + 4) "ahead" ["self", "one", "other"] (clS c) (spAh c n)) : FnOk P w K mg base CX0 (2 * n + 4 + 1) f fd ["self", "one", "other"] (spAh c (n + 1) (.o 1)) := by
  refine F.okK sc_Many_ahead (fun vs H Q E h => ?_) (fun cdv A outer s H vs Q E hr h => ?_)
  · obtain ⟨_, _, _, _, _, _, rfl, _⟩ := h; rfl
  obtain ⟨o, fm, a, b, va, vb, rfl, hs, B, q⟩ := h
  obtain ⟨g, rfl⟩ := slot_one hs
  obtain ⟨⟨_, dx, i, ho, hI⟩, hok, hht, ha, hb, fa, fb, h1, h2⟩ := B
  rw [okG] at hok
  rw [ht] at hht
  rw [fitB] at fa fb
  replace fa : manyFit (fitB fracOk g) a = true := fa
  replace fb : manyFit (fitB fracOk g) b = true := fb
  obtain ⟨xs, rfl⟩ : ∃ xs, a = .lst xs := by cases a <;> first | cases fa | exact ⟨_, rfl⟩
  obtain ⟨ys, rfl⟩ : ∃ ys, b = .lst ys := by cases b <;> first | cases fb | exact ⟨_, rfl⟩
  replace fa : (decide (xs.length ≤ 60) && xs.all (fitB fracOk g)) = true := fa
  replace fb : (decide (ys.length ≤ 60) && ys.all (fitB fracOk g)) = true := fb
  rw [Bool.and_eq_true, decide_eq_true_eq, List.all_eq_true] at fa fb
  obtain ⟨t1, l1, rfl, e1, hxs, _⟩ := ha
  obtain ⟨t2, l2, rfl, e2, hys, _⟩ := hb
  rw [dht] at h1 h2
  rw [ordI, if_neg (by decide)] at q
  replace q : Q (.bl (decide (lsd (fun _ => ordI g) xs ys 0 < 0))) H := q
  have len1 := DsAt.len xs hxs
  have len2 := DsAt.len ys hys
  obtain ⟨dxi, fsi, ei, li⟩ := FAt.ahead g hI
  have all : ∀ (i : Nat) (x y : D), xs[i]? = some x → ys[i]? = some y → Good (ordI g) x y := fun i x y e1 e2 => good_ord g x y hok (fa.2 x (List.mem_of_getElem? e1)) (fb.2 y (List.mem_of_getElem? e2))
  have hle := fU_le xs ys
  refine ⟨_, (pss_cons (ps_set (i := 3) sc_Many_ahead.nd rfl (by first | exact Or.inl rfl | exact Or.inr rfl) (pe_callD D_first_unlike hr (pa_cons (pv 1) (pa_cons (pv 2) pa_nil)) (hk := by omega)))
    (pss_cons (ps_if (PW.pt (pw_or (pt_cmpR oEq (pv 3) (pe_callB call_len rfl nb.len_ bo_len (pa_cons (pv 1) pa_nil)) (nomark _)) (pw_or1 (pt_cmpR oEq (pv 3) (pe_callB call_len rfl nb.len_ bo_len (pa_cons (pv 2) pa_nil)) (nomark _))))) (pss_one (ps_ret (pe_cmpR oLt (pe_callB call_len rfl nb.len_ bo_len (pa_cons (pv 1) pa_nil)) (pe_callB call_len rfl nb.len_ bo_len (pa_cons (pv 2) pa_nil)) (nomark _)))) pss_nil)
    (pss_one (ps_ret (pe_methAny AM_ahead hr (pe_fld (pv 0) rfl) (pa_cons (pe_ix iAll (pv 1) (pv 3) (fun _ _ => rfl)) (pa_cons (pe_ix iAll (pv 2) (pv 3) (fun _ _ => rfl)) pa_nil)) (hk := by omega)))))), ?_⟩
  refine ⟨_, rfl, _, rfl, .ref t1, .ref t2, xs, ys, l1, l2, rfl, ⟨t1, rfl, .inl e1⟩, ⟨t2, rfl, .inl e2⟩, hxs, hys, by omega, by omega, by omega, ?_⟩
  have lenfin : lsd (fun _ => ordI g) xs ys 0 = sgn xs.length ys.length → ∃ H'', L2.Sub H H'' H ∧ Q (.bl (decide ((l1.length : Int) < (l2.length : Int)))) H'' := fun h => by
    refine ⟨H, .refl (Same.refl _), ?_⟩
    rw [h, decide_eq_decide.mpr sgn_neg] at q
    rw [len1, len2]; exact q
  have dis := lsd_fU (fun _ => ordI g) xs ys 0 all
  have bound : ∀ {ds : List D} {i : Nat} {x : D}, ds[i]? = some x → i < ds.length := fun {ds i x} h => by
    rcases Nat.lt_or_ge i ds.length with z | z
    · exact z
    · rw [List.getElem?_eq_none z] at h; cases h
  have hend : fU xs ys = l1.length ∨ fU xs ys = l2.length → lsd (fun _ => ordI g) xs ys 0 = sgn xs.length ys.length := fun h => by
    rcases dis with ⟨_, z⟩ | ⟨x, y, z1, z2, _⟩
    · exact z
    · have := bound z1; have := bound z2; omega
  have ret : (fU xs ys = l1.length ∨ fU xs ys = l2.length) → ∃ H'', L2.Sub H H'' H ∧ Q (.bl (decide ((l1.length : Int) < (l2.length : Int)))) H'' := fun h => lenfin (hend h)
  refine ⟨_, rfl, _, rfl, .ref t1, l1.length, rfl, lenLT (.inl e1), rfl, _, rfl, iteD (fun k1 => ⟨_, rfl, .ref t1, l1.length, rfl, lenLT (.inl e1), _, rfl, .ref t2, l2.length, rfl, lenLT (.inl e2), .inl ⟨_, _, rfl, rfl, ret (.inl (by have := V.int.inj k1; omega))⟩⟩) (fun k1 => ⟨_, rfl, _, rfl, .ref t2, l2.length, rfl, lenLT (.inl e2), rfl, _, rfl, iteD (fun k2 => ⟨_, rfl, .ref t1, l1.length, rfl, lenLT (.inl e1), _, rfl, .ref t2, l2.length, rfl, lenLT (.inl e2), .inl ⟨_, _, rfl, rfl, ret (.inr (by have := V.int.inj k2; omega))⟩⟩) (fun k2 => ?_)⟩)⟩
  have n1 : fU xs ys ≠ l1.length := fun z => k1 (by rw [z])
  have n2 : fU xs ys ≠ l2.length := fun z => k2 (by rw [z])
  rcases dis with ⟨z, _⟩ | ⟨x, y, z1, z2, z3⟩
  · omega
  obtain ⟨vx, ex, dx'⟩ := DsAt.ge xs hxs z1
  obtain ⟨vy, ey, dy'⟩ := DsAt.ge ys hys z2
  have hx50 := dhts_ge (n := 49) (by omega) z1
  have hy50 := dhts_ge (n := 49) (by omega) z2
  rw [z3] at q
  exact ⟨_, rfl, o, c.o 1, dx, _, _, rfl, ho, T.cl, T.nI, look1 .., i, slot g, dxi, fsi, rfl, ei, li, _, rfl, _, rfl, ixLT (.inl e1) ex ⟨_, rfl, _, rfl, ixLT (.inl e2) ey ⟨i, g, x, y, vx, vy, rfl, rfl, ⟨hI, hok, by omega, dx', dy', fa.2 x (List.mem_of_getElem? z1), fb.2 y (List.mem_of_getElem? z2), by omega, by omega⟩, H, .refl (Same.refl _), q⟩⟩⟩
theorem ah_Record {f : Addr} {c : FC} {fd : FuncData} {n : Nat} (nb : NB mg) (T : TwoCls K (c.t 0)) (F : Fun K "ahead" "Record.ahead" s_Record_ahead f fd) (D_first_unlike : DefOk P w K mg base 1 "first_unlike" ["one", "other"] spFU) (AM_ahead : AnyM P w K mg base (2 * n + 4) "ahead" ["self", "one", "other"] (clS c) (spAh c n)) : FnOk P w K mg base CX0 (2 * n + 4 + 1) f fd ["self", "one", "other"] (spAh c (n + 1) (.t 0)) := by
  refine F.okK sc_Record_ahead (fun vs H Q E h => ?_) (fun cdv A outer s H vs Q E hr h => ?_)
  · obtain ⟨_, _, _, _, _, _, rfl, _⟩ := h; rfl
  obtain ⟨o, fm, a, b, va, vb, rfl, hs, B, q⟩ := h
  obtain ⟨ns, fs, rfl⟩ := slot_two hs
  obtain ⟨⟨_, dx, a1, a2, os, ho, _, _, g1, g2, hI⟩, hok, hht, ha, hb, fa, fb, h1, h2⟩ := B
  rw [okG] at hok
  rw [ht] at hht
  rw [fitB, if_pos rfl] at fa fb
  obtain ⟨xs, rfl⟩ : ∃ xs, a = .tup xs := by cases a <;> first | cases fa | exact ⟨_, rfl⟩
  obtain ⟨ys, rfl⟩ : ∃ ys, b = .tup ys := by cases b <;> first | cases fb | exact ⟨_, rfl⟩
  obtain ⟨ln1, fx⟩ := fitL_at (show fitL fracOk fs xs = true from fa)
  obtain ⟨ln2, fy⟩ := fitL_at (show fitL fracOk fs ys = true from fb)
  obtain ⟨t1, l1, rfl, e1, hxs, _⟩ := ha
  obtain ⟨t2, l2, rfl, e2, hys, _⟩ := hb
  rw [dht] at h1 h2
  rw [ordI, if_pos rfl] at q
  replace q : Q (.bl (decide (lsd (fun i => (ordIs fs).getD (i % fs.length) fun _ _ => 0) xs ys 0 < 0))) H := q
  have hfl : fs.length ≤ 20 := by have := (goodNames_mem hok.1).1; omega
  have bound : ∀ {α : Type} {ds : List α} {i : Nat} {x : α}, ds[i]? = some x → i < ds.length := fun {α ds i x} h => by
    rcases Nat.lt_or_ge i ds.length with z | z
    · exact z
    · rw [List.getElem?_eq_none z] at h; cases h
  have all : ∀ (i : Nat) (x y : D), xs[i]? = some x → ys[i]? = some y → Good ((ordIs fs).getD ((0 + i) % fs.length) fun _ _ => 0) x y := fun i x y e1 e2 => by
    have hi : i < fs.length := by have := bound e1; omega
    rw [Nat.zero_add, Nat.mod_eq_of_lt hi]
    have hf := List.getElem?_eq_getElem hi
    exact goods_ord fs i x y _ hf hok.2.2 (fx i _ x hf e1) (fy i _ y hf e2)
  have dis := lsd_fU (fun i => (ordIs fs).getD (i % fs.length) fun _ _ => 0) xs ys 0 all
  have hle := fU_le xs ys
  have osl : os.length = fs.length := FsAt.len fs hI
  refine ⟨_, (pss_cons (ps_set (i := 3) sc_Record_ahead.nd rfl (by first | exact Or.inl rfl | exact Or.inr rfl) (pe_callD D_first_unlike hr (pa_cons (pv 1) (pa_cons (pv 2) pa_nil)) (hk := by omega)))
    (pss_one (ps_ret (pe_and (pe_cmpR oLt (pv 3) (pe_callB call_len rfl nb.len_ bo_len (pa_cons (pe_fld (pv 0) rfl) pa_nil)) (nomark _)) (pe_one (pe_methAny AM_ahead hr (pe_ix iAll (pe_fld (pv 0) rfl) (pv 3) (fun _ _ => rfl)) (pa_cons (pe_ix iAll (pv 1) (pv 3) (fun _ _ => rfl)) (pa_cons (pe_ix iAll (pv 2) (pv 3) (fun _ _ => rfl)) pa_nil)) (hk := by omega))))))), ?_⟩
  refine ⟨_, rfl, _, rfl, .ref t1, .ref t2, xs, ys, l1, l2, rfl, ⟨t1, rfl, .inr e1⟩, ⟨t2, rfl, .inr e2⟩, hxs, hys, by omega, by omega, by omega, ?_⟩
  refine ⟨_, rfl, _, rfl, o, c.t 0, dx, _, _, rfl, ho, T.cl, T.nF, look2 _ _ _ _ formsnames, .ref a2, (os.map V.ref).length, rfl, lenLT (.inl g2), .inl ⟨_, _, rfl, rfl, _, rfl, iteD (fun k1 => ?_) (fun k1 => ?_)⟩⟩
  · have k1 : fU xs ys < fs.length := by rw [List.length_map, osl] at k1; omega
    rcases dis with ⟨z, _⟩ | ⟨x, y, z1, z2, z3⟩
    · omega
    obtain ⟨vx, ex, dx'⟩ := DsAt.ge xs hxs z1
    obtain ⟨vy, ey, dy'⟩ := DsAt.ge ys hys z2
    have hx50 := dhts_ge (n := 49) (by omega) z1
    have hy50 := dhts_ge (n := 49) (by omega) z2
    have hf := List.getElem?_eq_getElem k1
    obtain ⟨og, hg2⟩ := okGs_get hok.2.2 hf
    obtain ⟨og', ho', hI'⟩ := FsAt.ge fs hI hf
    obtain ⟨dxi, fsi, ei, li⟩ := FAt.ahead _ hI'
    rw [z3, Nat.zero_add, Nat.mod_eq_of_lt k1, ordIs_get fs _ _ hf] at q
    exact ⟨_, rfl, o, c.t 0, dx, _, _, rfl, ho, T.cl, T.nF, look2 _ _ _ _ formsnames, _, rfl, ixLT (.inl g2) (show (os.map V.ref)[fU xs ys]? = some (V.ref og') by rw [List.getElem?_map, ho']; rfl) ⟨og', slot _, dxi, fsi, rfl, ei, li, _, rfl, _, rfl, ixLT (.inr e1) ex ⟨_, rfl, _, rfl, ixLT (.inr e2) ey ⟨og', _, x, y, vx, vy, rfl, rfl, ⟨hI', og, by omega, dx', dy', fx _ _ x hf z1, fy _ _ y hf z2, by omega, by omega⟩, H, .refl (Same.refl _), q⟩⟩⟩⟩
  · have k1 : ¬ fU xs ys < fs.length := by rw [List.length_map, osl] at k1; omega
    rcases dis with ⟨_, z⟩ | ⟨x, y, z1, _, _⟩
    · rw [z, decide_eq_decide.mpr sgn_neg, decide_eq_false (by omega)] at q
      exact ⟨H, .refl (Same.refl _), q⟩
    · have := bound z1; omega
theorem ah_Choice {f : Addr} {c : FC} {fd : FuncData} {n : Nat} (nb : NB mg) (T : TwoCls K (c.t 1)) (F : Fun K "ahead" "Choice.ahead" s_Choice_ahead f fd) (AM_ahead : AnyM P w K mg base (2 * n + 4) "ahead" ["self", "one", "other"] (clS c) (spAh c n)) : FnOk P w K mg base CX0 (2 * n + 4 + 1) f fd ["self", "one", "other"] (spAh c (n + 1) (.t 1)) := by
  refine F.okK sc_Choice_ahead (fun vs H Q E h => ?_) (fun cdv A outer s H vs Q E hr h => ?_)
  · obtain ⟨_, _, _, _, _, _, rfl, _⟩ := h; rfl
  obtain ⟨o, fm, a, b, va, vb, rfl, hs, B, q⟩ := h
  obtain ⟨ns, fs, rfl⟩ := slot_two hs
  obtain ⟨⟨_, dx, p1, p2, os, ho, _, _, g1, g2, hI⟩, hok, hht, ha, hb, fa, fb, h1, h2⟩ := B
  rw [okG] at hok
  rw [ht] at hht
  rw [fitB, if_neg (by decide)] at fa fb
  have ex : ∀ {d : D} {v : V}, choFit (fitC fracOk fs ns) d = true → DAt H d v → ∃ t m x vx, v = .ref t ∧ d = .tup [.str m, x] ∧ H t = some (.tup [.str m, vx]) ∧ DAt H x vx ∧ m ∈ ns ∧ fitB fracOk (fs.getD (ns.idxOf m) (.bare 0)) x = true := fun {d v} h1 h2 => by
    unfold choFit at h1
    split at h1
    · obtain ⟨t, _, rfl, e, ⟨_, _, rfl, ⟨rfl, _⟩, vx, _, rfl, hx, rfl⟩, _⟩ := h2
      have hm := fitC_mem fs ns _ _ hok.2.1 h1
      rw [fitC_get fs ns _ hm hok.2.1] at h1
      exact ⟨t, _, _, vx, rfl, rfl, e, hx, hm, h1⟩
    · cases h1
  obtain ⟨t1, m1, x, vx, rfl, rfl, e1, hx, hm1, fx⟩ := ex fa ha
  obtain ⟨t2, m2, y, vy, rfl, rfl, e2, hy, hm2, fy⟩ := ex fb hb
  rw [dht, dhts, dhts, dhts, dht] at h1 h2
  have a0 : ∀ (x : V) (r : List V), atI (x :: r) 0 = some x := fun x r => atI_nat (j := 0) rfl
  have a1 : ∀ (x y : V) (r : List V), atI (x :: y :: r) 1 = some y := fun x y r => atI_nat (j := 1) rfl
  have hnl := (goodNames_mem hok.1)
  have ix : ∀ {m : Str}, m ∈ ns → ns[ns.idxOf m]? = some m ∧ (∀ j w, j < ns.idxOf m → ns[j]? = some w → w ≠ m) ∧ ns.idxOf m < fs.length := fun {m} hm => by
    have hk := List.idxOf_lt_length_of_mem hm
    refine ⟨?_, fun j w hj hw e => ?_, by rw [← hok.2.1]; exact hk⟩
    · rw [List.getElem?_eq_getElem hk, List.getElem_idxOf hk]
    · subst e
      have := goodNames_idx hok.1 hw
      omega
  rw [ordI, if_neg (by decide)] at q
  replace q : Q (.bl (decide ((if m1 = m2 then (ordIs fs).getD (ns.idxOf m1) (fun _ _ => 0) x y else sgn (ns.idxOf m1) (ns.idxOf m2)) < 0))) H := q
  refine ⟨_, (pss_cons (ps_set (i := 3) sc_Choice_ahead.nd rfl (by first | exact Or.inl rfl | exact Or.inr rfl) (pe_bm PySem.F.plainAttrs_list PySem.F.slot_list_index PySem.F.type_list_index mt_lindex (pe_fld (pv 0) rfl) (pa_cons (pe_ix iAll (pv 1) pe_int (fun _ _ => rfl)) pa_nil)))
    (pss_cons (ps_if (pt_cmpR oNe (pe_ix iAll (pv 1) pe_int (fun _ _ => rfl)) (pe_ix iAll (pv 2) pe_int (fun _ _ => rfl)) (nomark _)) (pss_one (ps_ret (pe_cmpR oLt (pv 3) (pe_bm PySem.F.plainAttrs_list PySem.F.slot_list_index PySem.F.type_list_index mt_lindex (pe_fld (pv 0) rfl) (pa_cons (pe_ix iAll (pv 2) pe_int (fun _ _ => rfl)) pa_nil)) (nomark _)))) pss_nil)
    (pss_one (ps_ret (pe_methAny AM_ahead hr (pe_ix iAll (pe_fld (pv 0) rfl) (pv 3) (fun _ _ => rfl)) (pa_cons (pe_ix iAll (pv 1) pe_int (fun _ _ => rfl)) (pa_cons (pe_ix iAll (pv 2) pe_int (fun _ _ => rfl)) pa_nil)) (hk := by omega)))))), ?_⟩
  obtain ⟨i1, i2, i3⟩ := ix hm1
  obtain ⟨j1, j2, j3⟩ := ix hm2
  refine ⟨_, rfl, o, c.t 1, dx, _, _, rfl, ho, T.cl, T.nN, look1 .., .inl ⟨rfl, _, SqL.of g1⟩, _, rfl, .inl (.inr ⟨_, _, _, _, rfl, rfl, SqT.of e1, a0 _ _, p1, ns, m1, ns.idxOf m1, rfl, rfl, g1, i1, fun j hj e => i2 j m1 hj e rfl, by omega, ?_⟩)⟩
  refine ⟨_, rfl, .inl (.inr ⟨_, _, _, _, rfl, rfl, SqT.of e1, a0 _ _, _, rfl, .inl (.inr ⟨_, _, _, _, rfl, rfl, SqT.of e2, a0 _ _, rfl, _, rfl, ?_⟩)⟩)⟩
  by_cases z : m1 = m2
  · subst z
    rw [if_pos rfl] at q
    have hf := List.getElem?_eq_getElem i3
    rw [List.getD_eq_getElem?_getD, hf] at fx fy
    obtain ⟨og, hg2⟩ := okGs_get hok.2.2 hf
    obtain ⟨og', ho', hI'⟩ := FsAt.ge fs hI hf
    obtain ⟨dxi, fsi, ei, li⟩ := FAt.ahead _ hI'
    rw [ordIs_get fs _ _ hf] at q
    rw [decide_eq_true rfl]
    refine iteF ?_
    exact ⟨_, rfl, o, c.t 1, dx, _, _, rfl, ho, T.cl, T.nF, look2 _ _ _ _ formsnames, _, rfl, ixLT (.inl g2) (show (os.map V.ref)[ns.idxOf m1]? = some (V.ref og') by rw [List.getElem?_map, ho']; rfl) ⟨og', slot _, dxi, fsi, rfl, ei, li, _, rfl, .inl (.inr ⟨_, _, _, _, rfl, rfl, SqT.of e1, a1 _ _ _, _, rfl, .inl (.inr ⟨_, _, _, _, rfl, rfl, SqT.of e2, a1 _ _ _, og', _, x, y, vx, vy, rfl, rfl, ⟨hI', og, by omega, hx, hy, fx, fy, by omega, by omega⟩, H, .refl (Same.refl _), q⟩)⟩)⟩⟩
  · rw [if_neg z, decide_eq_decide.mpr sgn_neg] at q
    rw [decide_eq_false (fun e => z (V.str.inj e))]
    refine iteT ?_
    exact ⟨_, rfl, _, rfl, o, c.t 1, dx, _, _, rfl, ho, T.cl, T.nN, look1 .., .inl ⟨rfl, _, SqL.of g1⟩, _, rfl, .inl (.inr ⟨_, _, _, _, rfl, rfl, SqT.of e2, a0 _ _, p1, ns, m2, ns.idxOf m2, rfl, rfl, g1, j1, fun j hj e => j2 j m2 hj e rfl, by omega, .inl ⟨_, _, rfl, rfl, H, .refl (Same.refl _), q⟩⟩)⟩

structure Ahs (K : PySem.W.Frag) (c : FC) : Prop where
  m0 : MethAt K (c.b 0) "ahead" "Nothing.ahead" s_Nothing_ahead ["self", "one", "other"]
  m1 : MethAt K (c.b 1) "ahead" "Truth.ahead" s_Truth_ahead ["self", "one", "other"]
  m2 : MethAt K (c.b 2) "ahead" "Whole.ahead" s_Whole_ahead ["self", "one", "other"]
  m3 : MethAt K (c.b 3) "ahead" "Fraction.ahead" s_Fraction_ahead ["self", "one", "other"]
  m4 : MethAt K c.s "ahead" "Span.ahead" s_Span_ahead ["self", "one", "other"]
  m5 : MethAt K c.l "ahead" "Letters.ahead" s_Letters_ahead ["self", "one", "other"]
  m6 : MethAt K (c.o 0) "ahead" "Maybe.ahead" s_Maybe_ahead ["self", "one", "other"]
  m7 : MethAt K (c.o 1) "ahead" "Many.ahead" s_Many_ahead ["self", "one", "other"]
  m8 : MethAt K (c.o 2) "ahead" "Turned.ahead" s_Turned_ahead ["self", "one", "other"]
  m9 : MethAt K (c.t 0) "ahead" "Record.ahead" s_Record_ahead ["self", "one", "other"]
  ma : MethAt K (c.t 1) "ahead" "Choice.ahead" s_Choice_ahead ["self", "one", "other"]
  tO : ∀ k, OneCls K (c.o k)
  tT : ∀ k, TwoCls K (c.t k)
theorem all_ahead {c : FC} (nb : NB mg) (S : Ahs K c) (M_places : MethOk P w K mg base 1 c.l "places" ["self", "text"] (spPlaces c.l)) (D_first_unlike : DefOk P w K mg base 1 "first_unlike" ["one", "other"] spFU) : ∀ n, AnyM P w K mg base (2 * n + 4) "ahead" ["self", "one", "other"] (clS c) (spAh c n)
  | 0 => by
    have no : ∀ i vs H Q E, ¬ spAh c 0 i vs H Q E := fun i vs H Q E ⟨o, f, _, _, _, _, _, _, h, _⟩ => by have := h.hh; have := ht_pos f; omega
    intro i
    cases i with
    | b k =>
      rcases fin4 k with rfl | rfl | rfl | rfl
      · exact ⟨meth_none S.m0 (no _), S.m0.cl⟩
      · exact ⟨meth_none S.m1 (no _), S.m1.cl⟩
      · exact ⟨meth_none S.m2 (no _), S.m2.cl⟩
      · exact ⟨meth_none S.m3 (no _), S.m3.cl⟩
    | s => exact ⟨meth_none S.m4 (no _), S.m4.cl⟩
    | l => exact ⟨meth_none S.m5 (no _), S.m5.cl⟩
    | o k =>
      rcases fin3 k with rfl | rfl | rfl
      · exact ⟨meth_none S.m6 (no _), S.m6.cl⟩
      · exact ⟨meth_none S.m7 (no _), S.m7.cl⟩
      · exact ⟨meth_none S.m8 (no _), S.m8.cl⟩
    | t k =>
      rcases fin2 k with rfl | rfl
      · exact ⟨meth_none S.m9 (no _), S.m9.cl⟩
      · exact ⟨meth_none S.ma (no _), S.ma.cl⟩
  | n + 1 => by
    have ih := all_ahead nb S M_places D_first_unlike n
    intro i
    cases i with
    | b k =>
      rcases fin4 k with rfl | rfl | rfl | rfl
      · obtain ⟨f, fd, G, hb, hm⟩ := S.m0.ex
        exact ⟨⟨f, fd, (ah_Nothing G).mono (by omega), hb, hm⟩, S.m0.cl⟩
      · obtain ⟨f, fd, G, hb, hm⟩ := S.m1.ex
        exact ⟨⟨f, fd, (ah_Truth G).mono (by omega), hb, hm⟩, S.m1.cl⟩
      · obtain ⟨f, fd, G, hb, hm⟩ := S.m2.ex
        exact ⟨⟨f, fd, (ah_Whole G).mono (by omega), hb, hm⟩, S.m2.cl⟩
      · obtain ⟨f, fd, G, hb, hm⟩ := S.m3.ex
        exact ⟨⟨f, fd, (ah_Fraction G).mono (by omega), hb, hm⟩, S.m3.cl⟩
    | s =>
      obtain ⟨f, fd, G, hb, hm⟩ := S.m4.ex
      exact ⟨⟨f, fd, (ah_Span G).mono (by omega), hb, hm⟩, S.m4.cl⟩
    | l =>
      obtain ⟨f, fd, G, hb, hm⟩ := S.m5.ex
      exact ⟨⟨f, fd, (ah_Letters S.m5.cl G M_places).mono (by omega), hb, hm⟩, S.m5.cl⟩
    | o k =>
      rcases fin3 k with rfl | rfl | rfl
      · obtain ⟨f, fd, G, hb, hm⟩ := S.m6.ex
        exact ⟨⟨f, fd, (ah_Maybe nb (S.tO 0) G ih).mono (by omega), hb, hm⟩, S.m6.cl⟩
      · obtain ⟨f, fd, G, hb, hm⟩ := S.m7.ex
        exact ⟨⟨f, fd, (ah_Many nb (S.tO 1) G D_first_unlike ih).mono (by omega), hb, hm⟩, S.m7.cl⟩
      · obtain ⟨f, fd, G, hb, hm⟩ := S.m8.ex
        exact ⟨⟨f, fd, (ah_Turned (S.tO 2) G ih).mono (by omega), hb, hm⟩, S.m8.cl⟩
    | t k =>
      rcases fin2 k with rfl | rfl
      · obtain ⟨f, fd, G, hb, hm⟩ := S.m9.ex
        exact ⟨⟨f, fd, (ah_Record nb (S.tT 0) G D_first_unlike ih).mono (by omega), hb, hm⟩, S.m9.cl⟩
      · obtain ⟨f, fd, G, hb, hm⟩ := S.ma.ex
        exact ⟨⟨f, fd, (ah_Choice nb (S.tT 1) G ih).mono (by omega), hb, hm⟩, S.ma.cl⟩

/-! ### k23: the law's own order -/
def spOrd (d : Nat) : Sp := fun vs H Q _ => ∃ (vf va vb : V) (f : Fm) (a b : D), vs = [vf, va, vb] ∧ DAt H (dsc f) vf ∧ okG f ∧ ht f ≤ d ∧ DAt H a va ∧ DAt H b vb ∧ fitB fracOk f a = true ∧ fitB fracOk f b = true ∧ dht a ≤ 50 ∧ Q (.int (ordI f a b)) H
def lsF (fs : List Fm) : Nat → D → D → Int := fun i => (ordIs fs).getD (i % fs.length) fun _ _ => 0
def spLsd (d : Nat) : Sp := fun vs H Q _ => ∃ (lf : Addr) (va vb : V) (fs : List Fm) (fvs l1 l2 : List V) (xs ys : List D), vs = [.ref lf, va, vb] ∧ H lf = some (.lst fvs) ∧ DsAt H (fs.map dsc) fvs ∧ 0 < fs.length ∧ fs.length ≤ 20 ∧ okGs fs ∧ hts fs ≤ d ∧ (∃ a, va = .ref a ∧ (H a = some (.lst l1) ∨ H a = some (.tup l1))) ∧ (∃ a, vb = .ref a ∧ (H a = some (.lst l2) ∨ H a = some (.tup l2))) ∧ DsAt H xs l1 ∧ DsAt H ys l2 ∧ xs.length ≤ 1000 ∧ ys.length ≤ 1000 ∧ dhts xs ≤ 50 ∧
  (∀ (i : Nat) (f : Fm) (x : D), fs[i % fs.length]? = some f → xs[i]? = some x → fitB fracOk f x = true) ∧ (∀ (i : Nat) (f : Fm) (y : D), fs[i % fs.length]? = some f → ys[i]? = some y → fitB fracOk f y = true) ∧ Q (.int (lsd (lsF fs) xs ys 0)) H
theorem lsd_end (g : Nat → D → D → Int) : ∀ (xs ys : List D) (k : Nat), xs = [] ∨ ys = [] → lsd g xs ys k = sgn xs.length ys.length
  | [], ys, k, _ => by cases ys <;> rfl
  | x :: xs, [], k, _ => rfl
  | x :: xs, y :: ys, k, h => by rcases h with h | h <;> cases h
theorem sgn_int (m n : Nat) : (if decide ((n : Int) < (m : Int)) = true then (1 : Int) else 0) - (if decide ((m : Int) < (n : Int)) = true then 1 else 0) = sgn m n := by unfold sgn; simp only [decide_eq_true_eq]
theorem ok_law_listed {f : Addr} {fd : FuncData} {d : Nat} (nb : NB mg) (F : FunAt K mg "_law_listed" s_law_listed ["_law_forms", "_law_one", "_law_other"] f fd) (D_law_order : DefOk P w K mg base (2 * d + 4) "_law_order" ["_law_form_here", "_law_one", "_law_other"] (spOrd d)) : DefOk P w K mg base (2 * d + 5) "_law_listed" ["_law_forms", "_law_one", "_law_other"] (spLsd d) := by
  refine F.ok sc_law_listed (fun vs H Q E h => ?_) (fun cdv A outer s H vs Q E hr h => ?_)
  · obtain ⟨_, _, _, _, _, _, _, _, _, rfl, _⟩ := h; rfl
  obtain ⟨lf, va, vb, fs, fvs, l1, l2, xs, ys, rfl, hlf, hfs, hf0, hf20, hoks, hhts, ⟨p1, rfl, hp1⟩, ⟨p2, rfl, hp2⟩, hxs, hys, hn1, hn2, hdx, fx, fy, q⟩ := h
  have len1 := DsAt.len xs hxs
  have len2 := DsAt.len ys hys
  have lenf : fvs.length = fs.length := by rw [DsAt.len _ hfs, List.length_map]
  refine ⟨_, (pss_cons (ps_for PassesOwn.never rfl (pi_range1 rfl nb.range_ (pa_cons (pe_callB (call_min2 rfl) rfl nb.min_ bo_min (pa_cons (pe_callB call_len rfl nb.len_ bo_len (pa_cons (pv 1) pa_nil)) (pa_cons (pe_callB call_len rfl nb.len_ bo_len (pa_cons (pv 2) pa_nil)) pa_nil))) pa_nil)) (pg_name (i := 3) sc_law_listed.nd rfl (by first | exact Or.inl rfl | exact Or.inr rfl))
      (pss_cons (ps_set (i := 4) sc_law_listed.nd rfl (by first | exact Or.inl rfl | exact Or.inr rfl) (pe_callD D_law_order hr (pa_cons (pe_ix iAll (pv 0) (pe_op op_mod (pv 3) (pe_callB call_len rfl nb.len_ bo_len (pa_cons (pv 0) pa_nil))) (fun _ _ => rfl)) (pa_cons (pe_ix iAll (pv 1) (pv 3) (fun _ _ => rfl)) (pa_cons (pe_ix iAll (pv 2) (pv 3) (fun _ _ => rfl)) pa_nil))) (hk := by omega)))
      (pss_one (ps_if (pt_cmpR oNe (pv 4) pe_int (nomark _)) (pss_one (ps_ret (pv 4))) pss_nil))))
    (pss_one (ps_ret (pe_op oSub (pe_callTy call_intA rfl nb.int_ bo_int (pa_cons (pe_cmpR oGt (pe_callB call_len rfl nb.len_ bo_len (pa_cons (pv 1) pa_nil)) (pe_callB call_len rfl nb.len_ bo_len (pa_cons (pv 2) pa_nil)) (nomark _)) pa_nil)) (pe_callTy call_intA rfl nb.int_ bo_int (pa_cons (pe_cmpR oLt (pe_callB call_len rfl nb.len_ bo_len (pa_cons (pv 1) pa_nil)) (pe_callB call_len rfl nb.len_ bo_len (pa_cons (pv 2) pa_nil)) (nomark _)) pa_nil)))))), ?_⟩
  refine ⟨_, rfl, .ref p1, l1.length, rfl, lenLT hp1, _, rfl, .ref p2, l2.length, rfl, lenLT hp2, _, _, rfl, ?_⟩
  obtain ⟨mn, hmn, emn⟩ : ∃ mn : Nat, mn = min l1.length l2.length ∧ (if ((l2.length : Nat) : Int) < ((l1.length : Nat) : Int) then ((l2.length : Nat) : Int) else ((l1.length : Nat) : Int)) = ((mn : Nat) : Int) := ⟨_, rfl, by split <;> omega⟩
  refine ⟨((mn : Nat) : Int), by rw [emn], by omega, by omega, ?_⟩
  rw [show (((mn : Nat) : Int)).toNat = mn by omega]
  refine for_range (fun i σ H2 => H = H2 ∧ lsd (lsF fs) xs ys 0 = lsd (lsF fs) (xs.drop i) (ys.drop i) i ∧ ∃ z3 z4, σ = [some (.ref lf), some (.ref p1), some (.ref p2), z3, z4]) ?_ ?_ ?_
  · exact ⟨rfl, rfl, _, _, rfl⟩
  · rintro i σ H2 hi ⟨rfl, he, z3, z4, rfl⟩
    rw [Int.zero_add]
    have b1 : i < xs.length := by omega
    have b2 : i < ys.length := by omega
    obtain ⟨vx, ex, dx'⟩ := DsAt.ge xs hxs (List.getElem?_eq_getElem b1)
    obtain ⟨vy, ey, dy'⟩ := DsAt.ge ys hys (List.getElem?_eq_getElem b2)
    have hm : i % fs.length < fs.length := Nat.mod_lt _ hf0
    have hf := List.getElem?_eq_getElem hm
    obtain ⟨vf, ef, df⟩ := DsAt.ge (fs.map dsc) hfs (show (fs.map dsc)[i % fs.length]? = some (dsc fs[i % fs.length]) by rw [List.getElem?_map, hf]; rfl)
    obtain ⟨og, hg2⟩ := okGs_get hoks hf
    have h50 := dhts_ge hdx (List.getElem?_eq_getElem b1)
    have em : ((i : Nat) : Int) % ((fvs.length : Nat) : Int) = ((i % fs.length : Nat) : Int) := by rw [lenf]; exact (Int.natCast_emod ..).symm
    have ef' : atI fvs (((i : Nat) : Int) % ((fvs.length : Nat) : Int)) = some vf := by rw [em]; exact atI_nat ef
    have eg : lsF fs i = ordI fs[i % fs.length] := ordIs_get fs _ _ hf
    rw [List.drop_eq_getElem_cons b1, List.drop_eq_getElem_cons b2, lsd, eg] at he
    refine ⟨_, rfl, _, rfl, _, rfl, .ref lf, fvs.length, rfl, lenLT (.inl hlf), _, _, rfl, rfl, (by omega), .inl (.inl ⟨_, _, _, _, rfl, rfl, SqL.of hlf, ef', _, rfl, _, rfl, ixLT hp1 ex ⟨_, rfl, _, rfl, ixLT hp2 ey ⟨vf, vx, vy, fs[i % fs.length], xs[i], ys[i], rfl, df, og, by omega, dx', dy', fx i _ _ hf (List.getElem?_eq_getElem b1), fy i _ _ hf (List.getElem?_eq_getElem b2), h50, ?_⟩⟩⟩)⟩
    refine ⟨_, rfl, rfl, _, rfl, ?_⟩
    by_cases z : ordI fs[i % fs.length] xs[i] ys[i] = 0
    · rw [if_pos z] at he
      rw [decide_eq_true (by rw [z])]
      exact iteF ⟨rfl, he, _, _, rfl⟩
    · rw [if_neg z] at he
      rw [decide_eq_false (fun e => z (V.int.inj e))]
      refine iteT ⟨_, rfl, H, .refl (Same.refl _), ?_⟩
      rw [← he]; exact q
  · rintro σ H2 ⟨rfl, he, z3, z4, rfl⟩
    refine ⟨_, rfl, .ref p1, l1.length, rfl, lenLT hp1, _, rfl, .ref p2, l2.length, rfl, lenLT hp2, _, _, rfl, rfl, .inl (.inr ⟨_, rfl, _, rfl, .ref p1, l1.length, rfl, lenLT hp1, _, rfl, .ref p2, l2.length, rfl, lenLT hp2, .inl ⟨_, _, rfl, rfl, .inl (.inr ⟨_, rfl, _, _, rfl, rfl, H, .refl (Same.refl _), ?_⟩)⟩⟩)⟩
    have e0 : xs.drop mn = [] ∨ ys.drop mn = [] := by
      rcases Nat.le_total xs.length ys.length with z | z
      · exact .inl (List.drop_eq_nil_of_le (by omega))
      · exact .inr (List.drop_eq_nil_of_le (by omega))
    rw [he, lsd_end _ _ _ _ e0, List.length_drop, List.length_drop] at q
    have es : sgn ((xs.length - mn : Nat) : Int) ((ys.length - mn : Nat) : Int) = sgn xs.length ys.length := by unfold sgn; omega
    rw [es] at q
    dsimp only
    rw [len1, len2, sgn_int]
    exact q

/-! ### k23: the form drawn -/
def spDrawn23 : Sp := fun vs H Q _ => ∃ (p : Addr) (X : List Addr), vs = [.ref p] ∧ Pool p H ∧ p ∈ X ∧ Lists X H ∧ ∀ v H' f, Grow p H H' → Tld X H' f v 7 121 → Q v H'
theorem ok_law_drawn23 {f : Addr} {fd : FuncData} (F : FunAt K mg "_law_drawn" s_law_drawn ["_law_pool_here"] f fd) (D_law_next : DefOk P w K mg base 1 "_law_next" ["_law_pool_here"] spNext) (D_law_form : DefOk P w K mg base 10 "_law_form" ["_law_pool_here", "_law_deep"] (spForm 7)) : DefOk P w K mg base 11 "_law_drawn" ["_law_pool_here"] spDrawn23 := by
  refine F.ok sc_law_drawn (fun vs H Q E h => ?_) (fun cdv A outer s H vs Q E hr h => ?_)
  · obtain ⟨_, _, rfl, _⟩ := h; rfl
  obtain ⟨p, X, rfl, hP, hpX, hX, q⟩ := h
  refine ⟨_, (pss_cons (ps_set (i := 1) sc_law_drawn.nd rfl (by first | exact Or.inl rfl | exact Or.inr rfl) (pe_callD D_law_next hr (pa_cons (pv 0) pa_nil)))
    (pss_one (ps_ret (pe_callD D_law_form hr (pa_cons (pv 0) (pa_cons (pe_ix iAll (pe_lst (pa_cons pe_int (pa_cons pe_int (pa_cons pe_int (pa_cons pe_int (pa_cons pe_int (pa_cons pe_int (pa_cons pe_int (pa_cons pe_int pa_nil))))))))) (pe_op op_mod (pv 1) pe_int) (fun _ _ => rfl)) pa_nil)))))), ?_⟩
  refine ⟨_, rfl, p, rfl, hP, fun c n1 hn1 => ?_⟩
  have G1 := Grow.pop hP hn1
  generalize upd H p (.lst (n1.map V.int)) = H1 at G1 ⊢
  obtain ⟨m, hm, hm1⟩ := atI_modG V.int [1, 2, 3, 2, 1, 3, 2, 6] c 8 rfl (by show 0 < 8; decide)
  have hmb : 0 ≤ m ∧ m ≤ 6 := by
    have : ∀ y ∈ ([1, 2, 3, 2, 1, 3, 2, 6] : List Int), 0 ≤ y ∧ y ≤ 6 := by decide
    exact this m hm
  obtain ⟨k, rfl⟩ : ∃ k : Nat, m = k := ⟨m.toNat, by omega⟩
  refine ⟨_, rfl, (by show 8 ≤ sizeLine; decide), fun g hg => ⟨_, rfl, _, _, rfl, rfl, (by show (0 : Int) < 8; decide), .inl (.inl ⟨_, _, _, _, rfl, rfl, SqL.of upd_same, hm1, ?_⟩)⟩⟩
  have G2 := G1.ext (Ext.lst (xs := [1, 2, 3, 2, 1, 3, 2, 6].map V.int) hg)
  refine ⟨p, k, X, rfl, by omega, G2.l, hpX, hX.grow G2, fun v H' g3 G3 hT => ?_⟩
  exact ⟨_, (G2.trans G3).sub, q v H' g3 (G2.trans G3) ⟨hT.d, hT.o, by have := hT.h; omega, by have := hT.s; omega⟩⟩

theorem lsF_one (g : Fm) : lsF [g] = fun _ => ordI g := by
  funext i
  show (ordIs [g]).getD (i % 1) (fun _ _ => 0) = ordI g
  rw [Nat.mod_one]
  exact ordIs_get [g] 0 g rfl
theorem one_items {H : Hp} {k : Fin 3} {g : Fm} {a : D} {v : V} (hk : k ≠ 2) (h : DAt H a v) (fa : fitB fracOk (.one k g) a = true) : ∃ l1 xs, (∃ p, v = .ref p ∧ (H p = some (.lst l1) ∨ H p = some (.tup l1))) ∧ DsAt H xs l1 ∧ items a = xs ∧ xs.length ≤ 1000 ∧ (∀ n, dht a ≤ n → dhts xs ≤ n) ∧ ∀ x, x ∈ xs → fitB fracOk g x = true := by
  rw [fitB] at fa
  rcases fin3 k with rfl | rfl | rfl
  · replace fa : maybeFit (fitB fracOk g) a = true := fa
    unfold maybeFit at fa
    split at fa
    · obtain ⟨t, vs, rfl, e, hd, hl⟩ := h
      exact ⟨vs, [], ⟨t, rfl, .inr e⟩, hd, rfl, Nat.zero_le _, fun n _ => by rw [dhts]; omega, fun x hx => nomatch hx⟩
    · obtain ⟨t, vs, rfl, e, hd, hl⟩ := h
      exact ⟨vs, _, ⟨t, rfl, .inr e⟩, hd, rfl, by simp, fun n h => by rw [dht] at h; omega, fun y hy => by rw [List.mem_singleton.mp hy]; exact fa⟩
    · cases fa
  · replace fa : manyFit (fitB fracOk g) a = true := fa
    cases a <;> first | cases fa | skip
    rename_i xs
    replace fa : (decide (xs.length ≤ 60) && xs.all (fitB fracOk g)) = true := fa
    rw [Bool.and_eq_true, List.all_eq_true, decide_eq_true_eq] at fa
    obtain ⟨t, vs, rfl, e, hd, hl⟩ := h
    exact ⟨vs, xs, ⟨t, rfl, .inl e⟩, hd, rfl, by omega, fun n h => by rw [dht] at h; omega, fa.2⟩
  · exact absurd rfl hk
theorem sgn_intI (m n : Int) : (if decide (n < m) = true then (1 : Int) else 0) - (if decide (m < n) = true then 1 else 0) = sgn m n := by unfold sgn; simp only [decide_eq_true_eq]
set_option maxHeartbeats 4000000 in
theorem step_law_order {f : Addr} {fd : FuncData} {d : Nat} (nb : NB mg) (F : FunAt K mg "_law_order" s_law_order ["_law_form_here", "_law_one", "_law_other"] f fd) (D_law_listed : DefOk P w K mg base (2 * d + 5) "_law_listed" ["_law_forms", "_law_one", "_law_other"] (spLsd d))
    (D_law_order : DefOk P w K mg base (2 * d + 4) "_law_order" ["_law_form_here", "_law_one", "_law_other"] (spOrd d)) : DefOk P w K mg base (2 * d + 6) "_law_order" ["_law_form_here", "_law_one", "_law_other"] (spOrd (d + 1)) := by
  refine F.ok sc_law_order (fun vs H Q E h => ?_) (fun cdv A outer s H vs Q E hr h => ?_)
  · obtain ⟨_, _, _, _, _, _, rfl, _⟩ := h; rfl
  obtain ⟨vf, va, vb, g, a, b, rfl, hv, hok, hht, ha, hb, fa, fb, h50, q⟩ := h
  refine useT _ (pss_cons (ps_set (i := 3) sc_law_order.nd rfl (by first | exact Or.inl rfl | exact Or.inr rfl) (pe_ix iAll (pv 0) pe_int (fun _ _ => rfl)))
    (pss_cons (ps_if (pt_cmpR oEq (pv 3) pe_str (nomark _)) (pss_one (ps_ret pe_int)) pss_nil)
    (pss_cons (ps_if (pt_cmpR oEq (pv 3) pe_str (nomark _)) (pss_one (ps_ret (pe_op oSub pe_int (pe_callD D_law_order hr (pa_cons (pe_ix iAll (pv 0) pe_int (fun _ _ => rfl)) (pa_cons (pv 1) (pa_cons (pv 2) pa_nil))) (hk := by omega))))) pss_nil)
    (pss_cons (ps_if (PW.pt (pw_or (pt_cmpR oEq (pv 3) pe_str (nomark _)) (pw_or1 (pt_cmpR oEq (pv 3) pe_str (nomark _))))) (pss_one (ps_ret (pe_callD D_law_listed hr (pa_cons (pe_lst (pa_cons (pe_ix iAll (pv 0) pe_int (fun _ _ => rfl)) pa_nil)) (pa_cons (pv 1) (pa_cons (pv 2) pa_nil))) (hk := by omega)))) pss_nil)
    (pss_cons (ps_if (pt_cmpR oEq (pv 3) pe_str (nomark _)) (pss_one (ps_ret (pe_callD D_law_listed hr (pa_cons (pe_comp ["_law_name", "_law_inner"] [] rfl (by decide +kernel) trivial (piAll (pe_ix iAll (pv 0) pe_int (fun _ _ => rfl))) (fun _ _ _ _ _ => (pg_tup rfl (pgs_cons (pg_name (i := 0) (show (["_law_name", "_law_inner"] : List Str).Nodup by decide +kernel) rfl (by first | exact Or.inl rfl | exact Or.inr rfl)) (pgs_cons (pg_name (i := 1) (show (["_law_name", "_law_inner"] : List Str).Nodup by decide +kernel) rfl (by first | exact Or.inl rfl | exact Or.inr rfl)) pgs_nil)))) (fun _ _ _ _ _ => pts_nil) (fun _ _ _ _ _ => (pv 1))) (pa_cons (pv 1) (pa_cons (pv 2) pa_nil))) (hk := by omega)))) pss_nil)
    (pss_cons (ps_if (pt_cmpR oEq (pv 3) pe_str (nomark _)) (pss_cons (ps_setComp (i := 4)  ["_law_name", "_law_inner"] [] sc_law_order.nd rfl rfl rfl (by decide +kernel) trivial (piAll (pe_ix iAll (pv 0) pe_int (fun _ _ => rfl))) (fun _ _ _ _ _ => (pg_tup rfl (pgs_cons (pg_name (i := 0) (show (["_law_name", "_law_inner"] : List Str).Nodup by decide +kernel) rfl (by first | exact Or.inl rfl | exact Or.inr rfl)) (pgs_cons (pg_name (i := 1) (show (["_law_name", "_law_inner"] : List Str).Nodup by decide +kernel) rfl (by first | exact Or.inl rfl | exact Or.inr rfl)) pgs_nil)))) (fun _ _ _ _ _ => pts_nil) (fun _ _ _ _ _ => (pv 0)))
      (pss_cons (ps_if (pt_cmpR oEq (pe_ix iAll (pv 1) pe_int (fun _ _ => rfl)) (pe_ix iAll (pv 2) pe_int (fun _ _ => rfl)) (nomark _)) (pss_one (ps_ret (pe_callD D_law_order hr (pa_cons (pe_ix iAll (pe_ix iAll (pe_ix iAll (pv 0) pe_int (fun _ _ => rfl)) (pe_bm PySem.F.plainAttrs_list PySem.F.slot_list_index PySem.F.type_list_index mt_lindex (pv 4) (pa_cons (pe_ix iAll (pv 1) pe_int (fun _ _ => rfl)) pa_nil)) (fun _ _ => rfl)) pe_int (fun _ _ => rfl)) (pa_cons (pe_ix iAll (pv 1) pe_int (fun _ _ => rfl)) (pa_cons (pe_ix iAll (pv 2) pe_int (fun _ _ => rfl)) pa_nil))) (hk := by omega)))) pss_nil)
      (pss_cons (ps_set (i := 1) sc_law_order.nd rfl (by first | exact Or.inl rfl | exact Or.inr rfl) (pe_bm PySem.F.plainAttrs_list PySem.F.slot_list_index PySem.F.type_list_index mt_lindex (pv 4) (pa_cons (pe_ix iAll (pv 1) pe_int (fun _ _ => rfl)) pa_nil)))
      (pss_one (ps_set (i := 2) sc_law_order.nd rfl (by first | exact Or.inl rfl | exact Or.inr rfl) (pe_bm PySem.F.plainAttrs_list PySem.F.slot_list_index PySem.F.type_list_index mt_lindex (pv 4) (pa_cons (pe_ix iAll (pv 2) pe_int (fun _ _ => rfl)) pa_nil))))))) pss_nil)
    (pss_cons (ps_if (pt_cmpR oEq (pv 3) pe_str (nomark _)) (pss_cons (ps_set (i := 5) sc_law_order.nd rfl (by first | exact Or.inl rfl | exact Or.inr rfl) (pe_ix iAll (pv 1) pe_int (fun _ _ => rfl)))
      (pss_cons (ps_set (i := 1) sc_law_order.nd rfl (by first | exact Or.inl rfl | exact Or.inr rfl) (pe_op op_mulB (pe_ix iAll (pv 1) pe_int (fun _ _ => rfl)) (pe_ix iAll (pv 2) pe_int (fun _ _ => rfl))))
      (pss_one (ps_set (i := 2) sc_law_order.nd rfl (by first | exact Or.inl rfl | exact Or.inr rfl) (pe_op op_mulB (pe_ix iAll (pv 2) pe_int (fun _ _ => rfl)) (pv 5)))))) pss_nil)
    (pss_cons (ps_if (pt_cmpR oEq (pv 3) pe_str (nomark _)) (pss_cons (ps_setComp (i := 1)  ["_law_sign"] [(0, "_law_form_here")] sc_law_order.nd rfl rfl rfl (by decide +kernel) ⟨rfl, .inl rfl, trivial⟩ (piAll (pv 1)) (fun _ _ _ _ _ => (pg_name (i := 0) (show (["_law_sign", "_law_form_here"] : List Str).Nodup by decide +kernel) rfl (by first | exact Or.inl rfl | exact Or.inr rfl))) (fun _ _ _ _ _ => pts_nil) (fun _ _ _ _ _ => (pe_bm PySem.F.plainAttrs_str PySem.F.slot_str_index PySem.F.type_str_index mt_sindexE (pe_ix iAll (pv 1) pe_int (fun _ _ => rfl)) (pa_cons (pv 0) pa_nil))))
      (pss_one (ps_setComp (i := 2)  ["_law_sign"] [(0, "_law_form_here")] sc_law_order.nd rfl rfl rfl (by decide +kernel) ⟨rfl, .inl rfl, trivial⟩ (piAll (pv 2)) (fun _ _ _ _ _ => (pg_name (i := 0) (show (["_law_sign", "_law_form_here"] : List Str).Nodup by decide +kernel) rfl (by first | exact Or.inl rfl | exact Or.inr rfl))) (fun _ _ _ _ _ => pts_nil) (fun _ _ _ _ _ => (pe_bm PySem.F.plainAttrs_str PySem.F.slot_str_index PySem.F.type_str_index mt_sindexE (pe_ix iAll (pv 1) pe_int (fun _ _ => rfl)) (pa_cons (pv 0) pa_nil)))))) pss_nil)
    (pss_one (ps_ret (pe_op oSub (pe_callTy call_intA rfl nb.int_ bo_int (pa_cons (pe_cmpR (oGtA (room64 hr)) (pv 1) (pv 2) (nomark _)) pa_nil)) (pe_callTy call_intA rfl nb.int_ bo_int (pa_cons (pe_cmpR (oLtA (room64 hr)) (pv 1) (pv 2) (nomark _)) pa_nil))))))))))))) fun G σ0 hσ go => ?_
  have a0 : ∀ (x : V) (r : List V), atI (x :: r) 0 = some x := fun x r => atI_nat (j := 0) rfl
  have a1 : ∀ (x y : V) (r : List V), atI (x :: y :: r) 1 = some y := fun x y r => atI_nat (j := 1) rfl
  cases g with
  | bare k =>
    rw [dsc] at hv
    rw [fitB] at fa fb
    rw [ordI] at q
    obtain ⟨T, _, rfl, e, ⟨_, _, rfl, ⟨rfl, _⟩, rfl⟩, _⟩ := hv
    clear h50
    rcases fin4 k with rfl | rfl | rfl | rfl
    · skip
      subst hσ
      refine go (setW rfl e ?_)
      exact takeW rfl fun N => ⟨H, .refl (Same.refl _), q⟩
    · cases a <;> first | cases fa | skip
      rename_i x
      cases b <;> first | cases fb | skip
      rename_i y
      obtain rfl : va = .bl x := ha
      obtain rfl : vb = .bl y := hb
      subst hσ
      refine go (setW rfl e ?_)
      iterate 2 refine skipW rfl (by decide +kernel) ?_
      refine skipW2 rfl (by decide +kernel) (by decide +kernel) ?_
      iterate 4 refine skipW rfl (by decide +kernel) ?_
      refine ⟨_, rfl, _, rfl, .inr ⟨_, _, rfl, rfl, .inl (.inr ⟨_, rfl, _, rfl, _, rfl, .inr ⟨_, _, rfl, rfl, .inl (.inr ⟨_, rfl, _, _, rfl, rfl, H, .refl (Same.refl _), ?_⟩)⟩⟩)⟩⟩
      dsimp only
      rw [sgn_intI]
      exact q
    · cases a <;> first | cases fa | skip
      rename_i x
      cases b <;> first | cases fb | skip
      rename_i y
      obtain rfl : va = .int x := ha
      obtain rfl : vb = .int y := hb
      subst hσ
      refine go (setW rfl e ?_)
      iterate 2 refine skipW rfl (by decide +kernel) ?_
      refine skipW2 rfl (by decide +kernel) (by decide +kernel) ?_
      iterate 4 refine skipW rfl (by decide +kernel) ?_
      refine ⟨_, rfl, _, rfl, .inl (.inl ⟨_, _, rfl, rfl, .inl (.inr ⟨_, rfl, _, rfl, _, rfl, .inl (.inl (.inl ⟨_, _, rfl, rfl, .inl (.inr ⟨_, rfl, _, _, rfl, rfl, H, .refl (Same.refl _), ?_⟩)⟩))⟩)⟩)⟩
      dsimp only
      rw [sgn_intI]
      exact q
    · replace fa : fracOk a = true := fa
      replace fb : fracOk b = true := fb
      unfold fracOk at fa fb
      split at fa
      · rename_i p1 q1
        split at fb
        · rename_i p2 q2
          obtain ⟨t1, _, rfl, e1, ⟨_, _, rfl, rfl, _, _, rfl, rfl, rfl⟩, _⟩ := ha
          obtain ⟨t2, _, rfl, e2, ⟨_, _, rfl, rfl, _, _, rfl, rfl, rfl⟩, _⟩ := hb
          have fa := of_decide_eq_true fa
          have fb := of_decide_eq_true fb
          have h38 : (10 : Nat) ^ 38 < 2 ^ 200 := by decide +kernel
          have bb : ∀ {x : Int}, x.natAbs ≤ 10 ^ 38 → Builtin.Int.intBits x ≤ 2 ^ 20 := fun {x} h => Nat.le_trans (bits_lt (k := 200) (show x.natAbs < 2 ^ 200 by omega)) (by decide)
          subst hσ
          refine go (setW rfl e ?_)
          iterate 2 refine skipW rfl (by decide +kernel) ?_
          refine skipW2 rfl (by decide +kernel) (by decide +kernel) ?_
          iterate 2 refine skipW rfl (by decide +kernel) ?_
          refine takeN rfl fun N hN => ⟨_, rfl, .inl (.inr ⟨_, _, _, _, rfl, rfl, SqT.of e1, a1 _ _ _, _, rfl, .inl (.inr ⟨_, _, _, _, rfl, rfl, SqT.of e1, a0 _ _, _, rfl, .inl (.inr ⟨_, _, _, _, rfl, rfl, SqT.of e2, a1 _ _ _, _, _, rfl, rfl, ⟨bb fa.2.2.1, bb (by omega)⟩, ?_⟩)⟩)⟩)⟩
          refine ⟨_, rfl, .inl (.inr ⟨_, _, _, _, rfl, rfl, SqT.of e2, a0 _ _, _, rfl, _, _, rfl, rfl, ⟨bb fb.2.2.1, bb (by omega)⟩, hN _ _ ?_⟩)⟩
          refine skipW rfl (by decide +kernel) ?_
          refine ⟨_, rfl, _, rfl, .inl (.inl ⟨_, _, rfl, rfl, .inl (.inr ⟨_, rfl, _, rfl, _, rfl, .inl (.inl (.inl ⟨_, _, rfl, rfl, .inl (.inr ⟨_, rfl, _, _, rfl, rfl, H, .refl (Same.refl _), ?_⟩)⟩))⟩)⟩)⟩
          dsimp only
          rw [sgn_intI]
          exact q
        · cases fb
      · cases fa
  | sp lo hi =>
    rw [dsc] at hv
    rw [fitB] at fa fb
    rw [ordI] at q
    obtain ⟨T, _, rfl, e, ⟨_, _, rfl, ⟨rfl, _⟩, _, _, rfl, rfl, _, _, rfl, rfl, rfl⟩, _⟩ := hv
    clear h50
    cases a <;> first | cases fa | skip
    rename_i x
    cases b <;> first | cases fb | skip
    rename_i y
    obtain rfl : va = .int x := ha
    obtain rfl : vb = .int y := hb
    subst hσ
    refine go (setW rfl e ?_)
    iterate 2 refine skipW rfl (by decide +kernel) ?_
    refine skipW2 rfl (by decide +kernel) (by decide +kernel) ?_
    iterate 4 refine skipW rfl (by decide +kernel) ?_
    refine ⟨_, rfl, _, rfl, .inl (.inl ⟨_, _, rfl, rfl, .inl (.inr ⟨_, rfl, _, rfl, _, rfl, .inl (.inl (.inl ⟨_, _, rfl, rfl, .inl (.inr ⟨_, rfl, _, _, rfl, rfl, H, .refl (Same.refl _), ?_⟩)⟩))⟩)⟩)⟩
    dsimp only
    rw [sgn_intI]
    exact q
  | le sg =>
    rw [dsc] at hv
    rw [fitB] at fa fb
    rw [ordI] at q
    obtain ⟨T, _, rfl, e, ⟨_, _, rfl, ⟨rfl, _⟩, _, _, rfl, ⟨rfl, hsl⟩, rfl⟩, _⟩ := hv
    clear h50
    cases a <;> first | cases fa | skip
    rename_i x
    cases b <;> first | cases fb | skip
    rename_i y
    replace fa : (decide (x.length ≤ 200) && madeOf x sg) = true := fa
    replace fb : (decide (y.length ≤ 200) && madeOf y sg) = true := fb
    rw [Bool.and_eq_true, decide_eq_true_eq] at fa fb
    obtain ⟨rfl, _⟩ := ha
    obtain ⟨rfl, _⟩ := hb
    subst hσ
    refine go (setW rfl e ?_)
    iterate 2 refine skipW rfl (by decide +kernel) ?_
    refine skipW2 rfl (by decide +kernel) (by decide +kernel) ?_
    iterate 3 refine skipW rfl (by decide +kernel) ?_
    refine takeN rfl fun N hN => ?_
    refine .inr ⟨_, rfl, _, rfl, fun D1 hD1 => ?_⟩
    refine comp_str (fun c => V.int ((sg.cps.toList.idxOf c : Nat) : Int)) (fun σ => ∃ z, σ = [z, some (.ref T)]) (small5 (by show x.length ≤ _; omega)) ⟨_, rfl⟩ hD1 ?_ ?_
    · rintro ch hc σ1 H1 ⟨z, rfl⟩ hs1 R hR
      refine ⟨_, rfl, .inl (.inr ⟨_, _, _, _, rfl, rfl, SqT.of (hs1 _ _ e), a1 _ _ _, rfl, _, rfl, sg, ch, rfl, rfl, of_decide_eq_true (List.all_eq_true.mp fa.2 ch hc), hR _ ⟨_, rfl⟩⟩)⟩
    have S1 := same_new (o := HO.lst (x.cps.toList.map fun c => V.int ((sg.cps.toList.idxOf c : Nat) : Int))) hD1
    have g1 : upd H D1 (.lst (x.cps.toList.map fun c => V.int ((sg.cps.toList.idxOf c : Nat) : Int))) D1 = _ := upd_same
    generalize upd H D1 (.lst (x.cps.toList.map fun c => V.int ((sg.cps.toList.idxOf c : Nat) : Int))) = H1 at S1 g1 ⊢
    refine .inr ⟨_, rfl, _, rfl, fun D2 hD2 => ?_⟩
    refine comp_str (fun c => V.int ((sg.cps.toList.idxOf c : Nat) : Int)) (fun σ => ∃ z, σ = [z, some (.ref T)]) (small5 (by show y.length ≤ _; omega)) ⟨_, rfl⟩ hD2 ?_ ?_
    · rintro ch hc σ1 H2 ⟨z, rfl⟩ hs1 R hR
      refine ⟨_, rfl, .inl (.inr ⟨_, _, _, _, rfl, rfl, SqT.of (hs1 _ _ (S1 _ _ e)), a1 _ _ _, rfl, _, rfl, sg, ch, rfl, rfl, of_decide_eq_true (List.all_eq_true.mp fb.2 ch hc), hR _ ⟨_, rfl⟩⟩)⟩
    have S2 := same_new (o := HO.lst (y.cps.toList.map fun c => V.int ((sg.cps.toList.idxOf c : Nat) : Int))) hD2
    have g2 : upd H1 D2 (.lst (y.cps.toList.map fun c => V.int ((sg.cps.toList.idxOf c : Nat) : Int))) D2 = _ := upd_same
    have g1 := S2 _ _ g1
    generalize upd H1 D2 (.lst (y.cps.toList.map fun c => V.int ((sg.cps.toList.idxOf c : Nat) : Int))) = H2 at S2 g1 g2 ⊢
    have ei : ∀ t : Str, (t.cps.toList.map fun c => V.int ((sg.cps.toList.idxOf c : Nat) : Int)) = (idxI sg t).map V.int := fun t => by unfold idxI; rw [List.map_map]; rfl
    rw [ei] at g1 g2
    refine hN _ _ ?_
    exact ⟨_, rfl, _, rfl, .inl (.inr ⟨_, _, _, _, rfl, rfl, SqL.of g1, SqL.of g2, .inl (.inr ⟨_, rfl, _, rfl, _, rfl, .inl (.inr ⟨_, _, _, _, rfl, rfl, SqL.of g1, SqL.of g2, .inl (.inr ⟨_, rfl, _, _, rfl, rfl, H, .refl (S1.trans S2), q⟩)⟩)⟩)⟩)⟩
  | one k g =>
    rw [dsc] at hv
    rw [okG] at hok
    rw [ht] at hht
    obtain ⟨T, _, rfl, e, ⟨_, _, rfl, ⟨rfl, _⟩, v', _, rfl, hd, rfl⟩, _⟩ := hv
    by_cases hk : k = 2
    · subst hk
      rw [ordI, if_pos rfl] at q
      rw [fitB] at fa fb
      subst hσ
      refine go (setW rfl e ?_)
      refine skipW rfl (by decide +kernel) ?_
      exact takeW rfl fun N => ⟨_, rfl, .inl (.inr ⟨_, _, _, _, rfl, rfl, SqT.of e, a1 _ _ _, _, rfl, _, rfl, v', va, vb, g, a, b, rfl, hd, hok, by omega, ha, hb, fa, fb, h50, _, _, rfl, rfl, H, .refl (Same.refl _), q⟩)⟩
    · obtain ⟨l1, xs, hp1, d1, x1, n1, k1, f1⟩ := one_items hk ha fa
      obtain ⟨l2, ys, hp2, d2, x2, n2, k2, f2⟩ := one_items hk hb fb
      rw [ordI, if_neg hk, ← lsF_one g, x1, x2] at q
      have g0 : ∀ {i : Nat} {f : Fm}, [g][i % 1]? = some f → f = g := fun {i f} h => by rw [Nat.mod_one] at h; exact (Option.some.inj h).symm
      have fin : ∀ D1, H D1 = none → spLsd d [.ref D1, va, vb] (upd H D1 (.lst [v'])) (fun v H' => ∃ H'', L2.Sub H H'' H' ∧ Q v H'') E0 := fun D1 hD1 => by
        have S1 := same_new (o := HO.lst [v']) hD1
        obtain ⟨p1, rfl, e1⟩ := hp1
        obtain ⟨p2, rfl, e2⟩ := hp2
        exact ⟨D1, .ref p1, .ref p2, [g], [v'], l1, l2, xs, ys, rfl, upd_same, ⟨v', [], rfl, DAt.same S1 _ hd, rfl⟩, Nat.one_pos, (by show 1 ≤ 20; decide), (by rw [okGs, okGs]; exact ⟨hok, trivial⟩), (by rw [hts, hts]; omega), ⟨p1, rfl, e1.imp (S1 _ _) (S1 _ _)⟩, ⟨p2, rfl, e2.imp (S1 _ _) (S1 _ _)⟩, DsAt.same S1 _ d1, DsAt.same S1 _ d2, n1, n2, k1 _ h50, (fun i f x hf hx => by rw [g0 hf]; exact f1 x (List.mem_of_getElem? hx)), (fun i f x hf hx => by rw [g0 hf]; exact f2 x (List.mem_of_getElem? hx)), H, .refl S1, q⟩
      rcases fin3 k with rfl | rfl | rfl
      · skip
        subst hσ
        refine go (setW rfl e ?_)
        iterate 2 refine skipW rfl (by decide +kernel) ?_
        exact takeO rfl (.inl rfl) fun N => ⟨_, rfl, .inl (.inr ⟨_, _, _, _, rfl, rfl, SqT.of e, a1 _ _ _, one_ok, fun D1 hD1 => ⟨_, rfl, _, rfl, fin D1 hD1⟩⟩)⟩
      · skip
        subst hσ
        refine go (setW rfl e ?_)
        iterate 2 refine skipW rfl (by decide +kernel) ?_
        exact takeO rfl (.inr rfl) fun N => ⟨_, rfl, .inl (.inr ⟨_, _, _, _, rfl, rfl, SqT.of e, a1 _ _ _, one_ok, fun D1 hD1 => ⟨_, rfl, _, rfl, fin D1 hD1⟩⟩)⟩
      · exact absurd rfl hk
  | two k ns fs =>
    have hv := DAt.dx _ hv
    rw [dsc] at hv
    rw [okG] at hok
    rw [ht] at hht
    obtain ⟨hgn, hlen, hoks⟩ := hok
    obtain ⟨T, _, rfl, _, e, ⟨_, _, rfl, ⟨rfl, _⟩, _, _, rfl, ⟨l, lvs, rfl, _, el, hds, hl1000⟩, rfl⟩, _⟩ := hv
    have hvl : lvs.length = fs.length := by rw [DsAt.len _ (DsX.at _ hds), dscs_len]
    have hfl : 0 < fs.length ∧ fs.length ≤ 20 := by
      have h := hgn
      unfold goodNames at h
      simp only [Bool.and_eq_true, decide_eq_true_eq] at h
      omega
    rcases fin2 k with rfl | rfl
    · rw [fitB, if_pos rfl] at fa fb
      rw [ordI, if_pos rfl] at q
      obtain ⟨xs, rfl⟩ : ∃ xs, a = .tup xs := by cases a <;> first | cases fa | exact ⟨_, rfl⟩
      obtain ⟨ys, rfl⟩ : ∃ ys, b = .tup ys := by cases b <;> first | cases fb | exact ⟨_, rfl⟩
      obtain ⟨ln1, fx⟩ := fitL_at (show fitL fracOk fs xs = true from fa)
      obtain ⟨ln2, fy⟩ := fitL_at (show fitL fracOk fs ys = true from fb)
      obtain ⟨t1, l1, rfl, e1, hxs, _⟩ := ha
      obtain ⟨t2, l2, rfl, e2, hys, _⟩ := hb
      rw [dht] at h50
      subst hσ
      refine go (setW rfl e ?_)
      iterate 2 refine skipW rfl (by decide +kernel) ?_
      refine skipW2 rfl (by decide +kernel) (by decide +kernel) ?_
      refine takeW rfl fun N => ?_
      refine .inl ⟨_, rfl, .inl (.inr ⟨_, _, _, _, rfl, rfl, SqT.of e, a1 _ _ _, l, rfl, ⟨_, SqL.of el⟩, fun D1 hD1 => ?_⟩)⟩
      have S0 := same_new (o := HO.lst []) hD1
      refine comp_listM (K := K) (a := l) (xs := lvs) (fun i ys H2 => Same H H2 ∧ DsX [] H ((fs.take i).map dsc) ys) (fun σ => ∃ z1 z2, σ = [z1, z2]) (by omega) ⟨_, _, rfl⟩ ?_ ⟨S0, rfl⟩ ?_ ?_
      · rintro i ys H2 ⟨S2, _⟩
        exact SqL.of (S2 _ _ el)
      · rintro i x hx vs σ1 H2 ⟨z1, z2, rfl⟩ ⟨S2, hds2⟩ hDy hyl R hR
        obtain ⟨g, nm, T', v', hg, hn', rfl, _, eT', hd⟩ := dscs_get fs ns hlen hds hx
        refine ⟨_, _, rfl, SqT.of (S2 _ _ eT'), rfl, _, _, rfl, _, _, rfl, rfl, ?_⟩
        refine ⟨_, rfl, hR _ _ _ ⟨_, _, rfl⟩ hDy ⟨fun b u eb => by rw [upd_ne (ne_of_none eb hD1)]; exact S2 _ _ eb, ?_⟩⟩
        rw [List.take_add_one, hg, List.map_append]
        exact DsX.snoc hd _ hds2
      · rintro vs H2 hyl hD2 ⟨S2, hds2⟩
        rw [hvl, List.take_of_length_le (Nat.le_refl _)] at hds2
        have md : ∀ {i : Nat}, i < fs.length → i % fs.length = i := fun h => Nat.mod_eq_of_lt h
        have bd : ∀ {α : Type} {ds : List α} {i : Nat} {x : α}, ds[i]? = some x → i < ds.length := fun h => (List.getElem?_eq_some_iff.mp h).1
        exact ⟨_, rfl, _, rfl, D1, .ref t1, .ref t2, fs, vs, l1, l2, xs, ys, rfl, hD2, DsAt.same S2 _ (DsX.at _ hds2), hfl.1, hfl.2, hoks, by omega, ⟨t1, rfl, .inr (S2 _ _ e1)⟩, ⟨t2, rfl, .inr (S2 _ _ e2)⟩, DsAt.same S2 _ hxs, DsAt.same S2 _ hys, by omega, by omega, by omega, (fun i f x hf hx => fx i f x (by rw [md (by have := bd hx; omega)] at hf; exact hf) hx), (fun i f x hf hx => fy i f x (by rw [md (by have := bd hx; omega)] at hf; exact hf) hx), H, .refl S2, q⟩
    · rw [fitB, if_neg (by decide)] at fa fb
      have ex : ∀ {d : D} {v : V}, choFit (fitC fracOk fs ns) d = true → DAt H d v → ∃ t m x vx, v = .ref t ∧ d = .tup [.str m, x] ∧ H t = some (.tup [.str m, vx]) ∧ DAt H x vx ∧ m ∈ ns ∧ fitB fracOk (fs.getD (ns.idxOf m) (.bare 0)) x = true := fun {d v} h1 h2 => by
        unfold choFit at h1
        split at h1
        · obtain ⟨t, _, rfl, e, ⟨_, _, rfl, ⟨rfl, _⟩, vx, _, rfl, hx, rfl⟩, _⟩ := h2
          have hm := fitC_mem fs ns _ _ hlen h1
          rw [fitC_get fs ns _ hm hlen] at h1
          exact ⟨t, _, _, vx, rfl, rfl, e, hx, hm, h1⟩
        · cases h1
      obtain ⟨t1, m1, x, vx, rfl, rfl, e1, hx, hm1, fx⟩ := ex fa ha
      obtain ⟨t2, m2, y, vy, rfl, rfl, e2, hy, hm2, fy⟩ := ex fb hb
      rw [dht, dhts, dhts, dhts, dht] at h50
      have ix : ∀ {m : Str}, m ∈ ns → ns[ns.idxOf m]? = some m ∧ (∀ j, j < ns.idxOf m → ns[j]? ≠ some m) ∧ ns.idxOf m < fs.length := fun {m} hm => by
        have hk := List.idxOf_lt_length_of_mem hm
        refine ⟨?_, fun j hj hw => ?_, by rw [← hlen]; exact hk⟩
        · rw [List.getElem?_eq_getElem hk, List.getElem_idxOf hk]
        · have := goodNames_idx hgn hw
          omega
      obtain ⟨i1, i2, i3⟩ := ix hm1
      obtain ⟨j1, j2, j3⟩ := ix hm2
      rw [ordI, if_neg (by decide)] at q
      replace q : Q (.int (if m1 = m2 then (ordIs fs).getD (ns.idxOf m1) (fun _ _ => 0) x y else sgn (ns.idxOf m1) (ns.idxOf m2))) H := q
      subst hσ
      refine go (setW rfl e ?_)
      iterate 2 refine skipW rfl (by decide +kernel) ?_
      refine skipW2 rfl (by decide +kernel) (by decide +kernel) ?_
      refine skipW rfl (by decide +kernel) ?_
      refine takeN rfl fun N hN => ?_
      refine .inl ⟨_, rfl, .inl (.inr ⟨_, _, _, _, rfl, rfl, SqT.of e, a1 _ _ _, l, rfl, ⟨_, SqL.of el⟩, fun D1 hD1 => ?_⟩)⟩
      have S0 := same_new (o := HO.lst []) hD1
      refine comp_listM (K := K) (a := l) (xs := lvs) (fun i ys H2 => Same H H2 ∧ ys = (ns.take i).map V.str) (fun σ => ∃ z1 z2, σ = [z1, z2]) (by omega) ⟨_, _, rfl⟩ ?_ ⟨S0, rfl⟩ ?_ ?_
      · rintro i ys H2 ⟨S2, _⟩
        exact SqL.of (S2 _ _ el)
      · rintro i x hx vs σ1 H2 ⟨z1, z2, rfl⟩ ⟨S2, hvs⟩ hDy hyl R hR
        obtain ⟨g, nm, T', v', hg, hn', rfl, _, eT', hd⟩ := dscs_get fs ns hlen hds hx
        refine ⟨_, _, rfl, SqT.of (S2 _ _ eT'), rfl, _, _, rfl, _, _, rfl, rfl, ?_⟩
        refine ⟨_, rfl, hR _ _ _ ⟨_, _, rfl⟩ hDy ⟨fun b u eb => by rw [upd_ne (ne_of_none eb hD1)]; exact S2 _ _ eb, ?_⟩⟩
        rw [List.take_add_one, hn', List.map_append, hvs]; rfl
      · rintro vs H2 hyl hD2 ⟨S2, hvs⟩
        rw [hvl, ← hlen, List.take_of_length_le (Nat.le_refl _)] at hvs
        subst hvs
        refine ⟨_, rfl, .inl (.inr ⟨_, _, _, _, rfl, rfl, SqT.of (S2 _ _ e1), a0 _ _, _, rfl, .inl (.inr ⟨_, _, _, _, rfl, rfl, SqT.of (S2 _ _ e2), a0 _ _, rfl, _, rfl, ?_⟩)⟩)⟩
        by_cases z : m1 = m2
        · subst z
          rw [if_pos rfl] at q
          have hf := List.getElem?_eq_getElem i3
          rw [List.getD_eq_getElem?_getD, hf] at fx fy
          obtain ⟨og, hg2⟩ := okGs_get hoks hf
          rw [ordIs_get fs _ _ hf] at q
          rw [decide_eq_true rfl]
          refine iteT ?_
          obtain ⟨yv, hyv⟩ : ∃ yv, lvs[ns.idxOf m1]? = some yv := ⟨_, List.getElem?_eq_getElem (by omega)⟩
          obtain ⟨g, nm, T', v', hg, hn', rfl, _, eT', hd⟩ := dscs_get fs ns hlen hds hyv
          rw [hf] at hg
          obtain rfl := Option.some.inj hg
          exact ⟨_, rfl, .inl (.inr ⟨_, _, _, _, rfl, rfl, SqT.of (S2 _ _ e), a1 _ _ _, _, rfl, .inl ⟨rfl, _, SqL.of hD2⟩, _, rfl, .inl (.inr ⟨_, _, _, _, rfl, rfl, SqT.of (S2 _ _ e1), a0 _ _, D1, ns, m1, ns.idxOf m1, rfl, rfl, hD2, i1, i2, by omega, .inl (.inl ⟨_, _, _, _, rfl, rfl, SqL.of (S2 _ _ el), atI_nat hyv, .inl (.inr ⟨_, _, _, _, rfl, rfl, SqT.of (S2 _ _ eT'), a1 _ _ _, _, rfl, .inl (.inr ⟨_, _, _, _, rfl, rfl, SqT.of (S2 _ _ e1), a1 _ _ _, _, rfl, .inl (.inr ⟨_, _, _, _, rfl, rfl, SqT.of (S2 _ _ e2), a1 _ _ _, v', vx, vy, _, x, y, rfl, DAt.same S2 _ (DX.at _ hd), og, by omega, DAt.same S2 _ hx, DAt.same S2 _ hy, fx, fy, by omega, H, .refl S2, q⟩)⟩)⟩)⟩)⟩)⟩)⟩
        · rw [if_neg z] at q
          rw [decide_eq_false (fun e => z (V.str.inj e))]
          refine iteF ⟨_, rfl, .inl ⟨rfl, _, SqL.of hD2⟩, _, rfl, .inl (.inr ⟨_, _, _, _, rfl, rfl, SqT.of (S2 _ _ e1), a0 _ _, D1, ns, m1, ns.idxOf m1, rfl, rfl, hD2, i1, i2, by omega, _, rfl, .inl ⟨rfl, _, SqL.of hD2⟩, _, rfl, .inl (.inr ⟨_, _, _, _, rfl, rfl, SqT.of (S2 _ _ e2), a0 _ _, D1, ns, m2, ns.idxOf m2, rfl, rfl, hD2, j1, j2, by omega, hN _ _ ?_⟩)⟩)⟩
          iterate 2 refine skipW rfl (by decide +kernel) ?_
          refine ⟨_, rfl, _, rfl, .inl (.inl ⟨_, _, rfl, rfl, .inl (.inr ⟨_, rfl, _, rfl, _, rfl, .inl (.inl (.inl ⟨_, _, rfl, rfl, .inl (.inr ⟨_, rfl, _, _, rfl, rfl, H, .refl S2, ?_⟩)⟩))⟩)⟩)⟩
          dsimp only
          rw [sgn_intI]
          exact q

def spLaw (K : PySem.W.Frag) : Sp := fun vs H Q _ => ∃ (a : Addr) (ns : List Int), vs = [.ref a] ∧ SqL K H a (ns.map V.int) ∧ ns.length ≤ 63 ∧ ∀ H', Q (.bl true) H'
theorem all_law_order {f f' : Addr} {fd fd' : FuncData} (nb : NB mg) (F : FunAt K mg "_law_order" s_law_order ["_law_form_here", "_law_one", "_law_other"] f fd) (F' : FunAt K mg "_law_listed" s_law_listed ["_law_forms", "_law_one", "_law_other"] f' fd') : ∀ d : Nat, DefOk P w K mg base (2 * d + 4) "_law_order" ["_law_form_here", "_law_one", "_law_other"] (spOrd d)
  | 0 => DefOk.none F fun vs H Q E ⟨_, _, _, g, _, _, _, _, _, h, _⟩ => by have := ht_pos g; omega
  | d + 1 => step_law_order nb F (ok_law_listed nb F' (all_law_order nb F F' d)) (all_law_order nb F F' d)
set_option maxHeartbeats 4000000 in
theorem ok_law23 {f : Addr} {fd : FuncData} {c : FC} (nb : NB mg) (F : Fun K "law" "law" s_law f fd) (D_law_pool : DefOk P w K mg base 1 "_law_pool" ["_law_script"] (spPool K)) (D_law_drawn : DefOk P w K mg base 11 "_law_drawn" ["_law_pool_here"] spDrawn23) (D_law_made : DefOk P w K mg base 23 "_law_made" ["_law_form_here"] (spMade c 7)) (M_Turned : MakeOk P w K mg base 1 "Turned" (c.o 2) ["self", "inner"] (spOneInit (c.o 2))) (D_law_value : DefOk P w K mg base 10 "_law_value" ["_law_pool_here", "_law_form_here"] (spVal23 7)) (D_law_order : DefOk P w K mg base 18 "_law_order" ["_law_form_here", "_law_one", "_law_other"] (spOrd 7)) (AM_ahead : AnyM P w K mg base 20 "ahead" ["self", "one", "other"] (clS c) (spAh c 8)) : FnOk P w K mg base CX0 24 f fd ["_law_script"] (spLaw K) := by
  refine F.okK sc_law (fun vs H Q E h => ?_) (fun cdv A outer s H vs Q E hr h => ?_)
  · obtain ⟨_, _, rfl, _⟩ := h; rfl
  obtain ⟨a, ns, rfl, hS, hl, q⟩ := h
  refine ⟨_, (pss_cons (ps_set (i := 1) sc_law.nd rfl (by first | exact Or.inl rfl | exact Or.inr rfl) (pe_callD D_law_pool hr (pa_cons (pv 0) pa_nil)))
    (pss_cons (ps_set (i := 2) sc_law.nd rfl (by first | exact Or.inl rfl | exact Or.inr rfl) (pe_callD D_law_drawn hr (pa_cons (pv 1) pa_nil)))
    (pss_cons (ps_set (i := 3) sc_law.nd rfl (by first | exact Or.inl rfl | exact Or.inr rfl) (pe_callD D_law_made hr (pa_cons (pv 2) pa_nil)))
    (pss_cons (ps_set (i := 4) sc_law.nd rfl (by first | exact Or.inl rfl | exact Or.inr rfl) (pe_makeD M_Turned hr (pa_cons (pv 3) pa_nil)))
    (pss_cons (ps_setComp (i := 5)  ["_law_k"] [(1, "_law_pool_here"), (2, "_law_form_here")] sc_law.nd rfl rfl rfl (by decide +kernel) ⟨rfl, .inl rfl, rfl, .inl rfl, trivial⟩ (pi_range1 rfl nb.range_ (pa_cons pe_int pa_nil)) (fun _ _ _ _ _ => (pg_name (i := 0) (show (["_law_k", "_law_pool_here", "_law_form_here"] : List Str).Nodup by decide +kernel) rfl (by first | exact Or.inl rfl | exact Or.inr rfl))) (fun _ _ _ _ _ => pts_nil) (fun _ _ _ _ _ => (pe_callD D_law_value hr (pa_cons (pv 1) (pa_cons (pv 2) pa_nil)))))
    (pss_cons (ps_for PassesOwn.never rfl (piAll (pv 5)) (pg_name (i := 6) sc_law.nd rfl (by first | exact Or.inl rfl | exact Or.inr rfl))
      (pss_one (ps_for PassesOwn.never rfl (piAll (pv 5)) (pg_name (i := 7) sc_law.nd rfl (by first | exact Or.inl rfl | exact Or.inr rfl))
        (pss_cons (ps_set (i := 8) sc_law.nd rfl (by first | exact Or.inl rfl | exact Or.inr rfl) (pe_callD D_law_order hr (pa_cons (pv 2) (pa_cons (pv 6) (pa_cons (pv 7) pa_nil)))))
        (pss_cons (ps_set (i := 9) sc_law.nd rfl (by first | exact Or.inl rfl | exact Or.inr rfl) (pe_methAny AM_ahead hr (pv 3) (pa_cons (pv 6) (pa_cons (pv 7) pa_nil))))
        (pss_cons (ps_if (PW.pt (pw_or (pt_not (pt_truth (pe_callB call_isinstA rfl nb.isinstance_ bo_isinstance (pa_cons (pv 9) (pa_cons (pe_bltn (v := .ty "bool") rfl nb.bool_ bo_bool rfl) pa_nil))) (fun _ => rfl))) (pw_or1 (pt_cmpR (oNeD (room64 hr)) (pv 9) (pe_cmpR oLt (pv 8) pe_int (nomark _)) (nomark _))))) (pss_one (ps_ret pe_bl)) pss_nil)
        (pss_cons (ps_set (i := 9) sc_law.nd rfl (by first | exact Or.inl rfl | exact Or.inr rfl) (pe_methAny AM_ahead hr (pv 4) (pa_cons (pv 6) (pa_cons (pv 7) pa_nil))))
        (pss_one (ps_if (PW.pt (pw_or (pt_not (pt_truth (pe_callB call_isinstA rfl nb.isinstance_ bo_isinstance (pa_cons (pv 9) (pa_cons (pe_bltn (v := .ty "bool") rfl nb.bool_ bo_bool rfl) pa_nil))) (fun _ => rfl))) (pw_or1 (pt_cmpR (oNeD (room64 hr)) (pv 9) (pe_cmpR oGt (pv 8) pe_int (nomark _)) (nomark _))))) (pss_one (ps_ret pe_bl)) pss_nil)))))))))
    (pss_one (ps_ret pe_bl)))))))), ?_⟩
  refine seqN fun N hN => ⟨_, rfl, a, ns, rfl, hS, hl, fun p ms hp hm => hN _ _ ?_⟩
  have S0 := same_new (o := HO.lst (ms.map V.int)) hp
  have hpl : upd H p (.lst (ms.map V.int)) p = some (.lst (ms.map V.int)) := upd_same
  have hP0 : Pool p (upd H p (.lst (ms.map V.int))) := ⟨ms, upd_same, hm⟩
  generalize upd H p (.lst (ms.map V.int)) = H1 at S0 hpl hP0 ⊢
  have hX1 : Lists [p] H1 := fun x hx => by rw [List.mem_singleton.mp hx]; exact ⟨_, hpl⟩
  refine seqN fun N hN => ⟨_, rfl, p, [p], rfl, hP0, List.mem_singleton.mpr rfl, hX1, fun v H2 g G2 hT => hN _ _ ?_⟩
  have hh := hT.h
  have hs := hT.s
  have hX2 : Has [p] H2 := fun x hx => by rw [List.mem_singleton.mp hx]; obtain ⟨n, e, _⟩ := G2.l; exact ⟨_, e⟩
  refine seqN fun N hN => ⟨_, rfl, v, g, [p], rfl, hX2, hT.d, hT.o, by omega, by omega, by omega, fun o H3 E3 hF3 => hN _ _ ?_⟩
  refine seqN fun N hN => ⟨_, rfl, ?_⟩
  intro y dx h1 h2 h12
  refine ⟨y, dx, o, rfl, upd_same, rfl, ?_⟩
  rw [upd_upd']
  have E4 := Ext.made (C := c.o 2) (fs := [("inner", V.ref o)]) h1 h2 h12
  have hy4 : upd (upd H3 dx (.own y)) y (.ins (c.o 2) dx [("inner", V.ref o)]) y = _ := upd_same
  generalize upd (upd H3 dx (.own y)) y (.ins (c.o 2) dx [("inner", V.ref o)]) = H4 at E4 hy4 ⊢
  have hyX : y ∉ [p] := (hX2.ext E3.s).no h1
  have E24 := E3.trans E4
  have hT4 : FAt c [p] H4 (.one 2 g) y := ⟨hyX, dx, o, hy4, FAt.keep (fun b u _ e => E4.s b u e) g hF3⟩
  have hD4 : DX [p] H4 (dsc g) v := hT.d.same E24.s
  have G4 := G2.ext E24
  have hX4 : Has [p] H4 := hX2.ext E24.s
  refine hN _ _ ?_
  refine seqN fun N hN => ?_
  refine ⟨3, rfl, by decide, by decide, fun D1 hD1 => ?_⟩
  rw [show ((3 : Int)).toNat = 3 by decide]
  have hD1X : D1 ∉ [p] := hX4.no hD1
  have hDp : D1 ≠ p := fun z => hD1X (by rw [z]; exact List.mem_singleton.mpr rfl)
  have pD : p ∈ D1 :: [p] := List.mem_cons_of_mem _ (List.mem_singleton.mpr rfl)
  refine comp_itM 3 (fun i => .int (0 + ((i : Nat) : Int))) (fun i ys H5 => Grow p H4 H5 ∧ ∃ ds, ds.length = i ∧ DsX (D1 :: [p]) H5 ds ys ∧ (∀ x, x ∈ ds → fitB fracOk g x = true ∧ dht x ≤ ht g + 1)) (fun σ => ∃ z, σ = [z, some (.ref p), some v]) (by decide) ⟨_, rfl⟩ (fun i H hi => hi) (fun H => Nat.le_refl _) (fun i H x H' hi h => ⟨h.1, h.2⟩) ⟨(Grow.refl G4.l).ext (Ext.lst (xs := []) hD1), [], rfl, rfl, fun x hx => nomatch hx⟩ ?_ ?_
  · rintro i hi ys σ1 H5 ⟨z, rfl⟩ ⟨G5, ds, hdl, hds, hall⟩ hDy hyl R hR
    refine ⟨_, rfl, _, rfl, p, v, g, D1 :: [p], rfl, pD, G5.l, (hX4.grow G5).add hDy, DX.grow pD G5 (DX.add hD1 _ hD4), hT.o, by omega, fun w dv H6 G6 hdv hfit hdh => ?_⟩
    have hD6 : H6 D1 = some (.lst ys) := G6.k _ _ hDp hDy
    have kk : ∀ b u, b ∉ D1 :: [p] → H6 b = some u → upd H6 D1 (.lst (ys ++ [w])) b = some u := fun b u nb e => by rw [upd_ne (fun z => nb (by rw [z]; exact List.mem_cons_self ..))]; exact e
    have k3 : ∀ b u, b ∉ D1 :: [p] → H5 b = some u → H6 b = some u := fun b u nb e => G6.k b u (fun z => nb (by rw [z]; exact pD)) e
    refine hR _ _ _ ⟨_, rfl⟩ hD6 ⟨(G5.trans G6).set hD1 hD6 hDp, ds ++ [dv], by rw [List.length_append, hdl]; rfl, DsX.snoc (DX.keep kk _ hdv) _ (DsX.keep kk _ (DsX.keep k3 _ hds)), fun x hx => ?_⟩
    rcases List.mem_append.mp hx with z | z
    · exact hall x z
    · rw [List.mem_singleton.mp z]; exact ⟨hfit, hdh⟩
  rintro ys H5 hyl hD5 ⟨G5, ds, hdl, hds, hall⟩
  have hFt : FAt c [] H5 (.one 2 g) y := FAt.weak (fun x (hx : x ∈ ([] : List Addr)) => nomatch hx) _ (FAt.keep (fun b u nb e => G5.k b u (fun z => nb (by rw [z]; exact List.mem_singleton.mpr rfl)) e) _ hT4)
  have hFo : FAt c [] H5 g o := FAt.weak (fun x (hx : x ∈ ([] : List Addr)) => nomatch hx) _ (FAt.keep (fun b u nb e => G5.k b u (fun z => nb (by rw [z]; exact List.mem_singleton.mpr rfl)) e) _ (FAt.keep (fun b u _ e => E4.s b u e) g hF3))
  have hDv : DAt H5 (dsc g) v := DX.at _ (DX.grow (List.mem_singleton.mpr rfl) G5 hD4)
  have S5 : Same H H5 := fun b u e => by
    have nb : b ≠ p := ne_of_none e hp
    exact G5.k _ _ nb (G4.k _ _ nb (S0 _ _ e))
  have val : ∀ {i : Nat} {w : V}, ys[i]? = some w → ∃ x, DAt H5 x w ∧ fitB fracOk g x = true ∧ dht x ≤ 50 := fun {i w} h => by
    have hi : i < ds.length := by have := (List.getElem?_eq_some_iff.mp h).1; omega
    obtain ⟨w', e', hw⟩ := DsAt.ge ds (DsX.at _ hds) (List.getElem?_eq_getElem hi)
    rw [h] at e'
    obtain rfl := Option.some.inj e'
    obtain ⟨q1, q2⟩ := hall _ (List.getElem_mem hi)
    exact ⟨_, hw, q1, by omega⟩
  have ok := hT.o
  clear hall hds G5 G4 E24 E4 hT4 hX4 hX2 hX1 hT hD4 hF3 E3 G2 S0 hpl hP0
  refine hN _ _ ?_
  have eB : ∀ b : Bool, eqDD (.bl b) (.bl b) = true := fun b => by rw [eqDD]; cases b <;> rfl
  refine .inl ⟨_, rfl, D1, rfl, ⟨_, SqL.of hD5⟩, for_list (K := K) (a := D1) (xs := ys) (fun i σ H2 => H5 = H2 ∧ ∃ z6 z7 z8 z9, σ = [some (.ref a), some (.ref p), some v, some (.ref o), some (.ref y), some (.ref D1), z6, z7, z8, z9]) ⟨rfl, _, _, _, _, rfl⟩ ?_ ?_ ?_⟩
  · rintro i σ H2 hi ⟨rfl, _⟩
    exact SqL.of hD5
  · rintro i x σ H2 hx ⟨rfl, z6, z7, z8, z9, rfl⟩
    obtain ⟨xd, dx1, fx, kx⟩ := val hx
    refine .inl ⟨_, rfl, D1, rfl, ⟨_, SqL.of hD5⟩, for_list (K := K) (a := D1) (xs := ys) (fun i σ H2 => H5 = H2 ∧ ∃ z7 z8 z9, σ = [some (.ref a), some (.ref p), some v, some (.ref o), some (.ref y), some (.ref D1), some x, z7, z8, z9]) ⟨rfl, _, _, _, rfl⟩ ?_ ?_ ?_⟩
    · rintro i σ H2 hi ⟨rfl, _⟩
      exact SqL.of hD5
    · rintro j x2 σ H2 hx2 ⟨rfl, z7, z8, z9, rfl⟩
      obtain ⟨yd, dy1, fy, ky⟩ := val hx2
      obtain ⟨dxi, fsi, ei, li⟩ := FAt.ahead g hFo
      obtain ⟨dxt, fst, et, lt⟩ := FAt.ahead (.one 2 g) hFt
      refine ⟨_, rfl, _, rfl, _, rfl, v, x, x2, g, xd, yd, rfl, hDv, ok, by omega, dx1, dy1, fx, fy, kx, ?_⟩
      refine ⟨_, rfl, o, slot g, dxi, fsi, rfl, ei, li, _, rfl, _, rfl, o, g, xd, yd, x, x2, rfl, rfl, ⟨hFo, ok, by omega, dx1, dy1, fx, fy, kx, ky⟩, ?_⟩
      refine ⟨_, rfl, .inl ⟨_, _, _, true, rfl, .bl _, kit_same .., true, rfl, iteF ⟨_, rfl, _, rfl, .inl ⟨_, _, rfl, rfl, .inr ⟨.bl _, .bl _, rfl, rfl, by rw [dht]; decide, _, rfl, ?_⟩⟩⟩⟩⟩
      rw [eB]
      refine iteF ?_
      refine ⟨_, rfl, y, slot (.one 2 g), dxt, fst, rfl, et, lt, _, rfl, _, rfl, y, .one 2 g, xd, yd, x, x2, rfl, rfl, ⟨hFt, by rw [okG]; exact ok, by rw [ht]; omega, dx1, dy1, by rw [fitB]; exact fx, by rw [fitB]; exact fy, kx, ky⟩, ?_⟩
      have eo : decide (ordI (.one 2 g) xd yd < 0) = decide (0 < ordI g xd yd) := decide_eq_decide.mpr (by rw [ordI, if_pos rfl]; omega)
      rw [eo]
      refine ⟨_, rfl, .inl ⟨_, _, _, true, rfl, .bl _, kit_same .., true, rfl, iteF ⟨_, rfl, _, rfl, _, _, rfl, rfl, .inr ⟨.bl _, .bl _, rfl, rfl, by rw [dht]; decide, _, rfl, ?_⟩⟩⟩⟩
      rw [eB]
      exact iteF ⟨rfl, _, _, _, rfl⟩
    · rintro σ H2 ⟨rfl, z7, z8, z9, rfl⟩
      exact ⟨rfl, _, _, _, _, rfl⟩
  · rintro σ H2 ⟨rfl, z6, z7, z8, z9, rfl⟩
    exact ⟨H, .refl S5, q _⟩
theorem ex1 (us : List Value) (hl : us.length = 1) : ∃ a : Value, us = [a] := match us, hl with | [a], _ => ⟨a, rfl⟩
theorem ex2 (us : List Value) (hl : us.length = 2) : ∃ a b : Value, us = [a, b] := match us, hl with | [a, b], _ => ⟨a, b, rfl⟩
theorem ex3 (us : List Value) (hl : us.length = 3) : ∃ a b c : Value, us = [a, b, c] := match us, hl with | [a, b, c], _ => ⟨a, b, c, rfl⟩
set_option maxHeartbeats 16000000 in
theorem all_mk {l : PySem.W.OpenLaw} {w : World} {K : PySem.W.Frag} {h : Heap} {mg : Str → Option Value} {fa : Addr} (X : K.In h) (G : h.Ns mainGlobals mg) (hfa : mg "law" = some (.ref fa))
    {C_Nothing : Addr} {f_Nothing_ahead : Addr} {od_x0 an_x0 : Option Addr} {sl_x0 : Array (Option Value)} {oc_x0 kV_x0 dc_x0 pm_x0 cd_x0 ct_x0 : Value} {C_Truth : Addr} {f_Truth_ahead : Addr} {od_x1 an_x1 : Option Addr} {sl_x1 : Array (Option Value)} {oc_x1 kV_x1 dc_x1 pm_x1 cd_x1 ct_x1 : Value} {C_Whole : Addr} {f_Whole_ahead : Addr} {od_x2 an_x2 : Option Addr} {sl_x2 : Array (Option Value)} {oc_x2 kV_x2 dc_x2 pm_x2 cd_x2 ct_x2 : Value} {C_Fraction : Addr} {f_Fraction_ahead : Addr} {od_x3 an_x3 : Option Addr} {sl_x3 : Array (Option Value)} {oc_x3 kV_x3 dc_x3 pm_x3 cd_x3 ct_x3 : Value} {C_Span : Addr} {f_Span_init : Addr} {od_x4 an_x4 : Option Addr} {sl_x4 : Array (Option Value)} {oc_x4 kV_x4 dc_x4 pm_x4 cd_x4 ct_x4 : Value} {f_Span_ahead : Addr} {od_x5 an_x5 : Option Addr} {sl_x5 : Array (Option Value)} {oc_x5 kV_x5 dc_x5 pm_x5 cd_x5 ct_x5 : Value} {C_Letters : Addr} {f_Letters_init : Addr} {od_x6 an_x6 : Option Addr} {sl_x6 : Array (Option Value)} {oc_x6 kV_x6 dc_x6 pm_x6 cd_x6 ct_x6 : Value} {f_Letters_ahead : Addr} {od_x7 an_x7 : Option Addr} {sl_x7 : Array (Option Value)} {oc_x7 kV_x7 dc_x7 pm_x7 cd_x7 ct_x7 : Value} {f_Letters_places : Addr} {od_x8 an_x8 : Option Addr} {sl_x8 : Array (Option Value)} {oc_x8 kV_x8 dc_x8 pm_x8 cd_x8 ct_x8 : Value} {C_Maybe : Addr} {f_Maybe_init : Addr} {od_x9 an_x9 : Option Addr} {sl_x9 : Array (Option Value)} {oc_x9 kV_x9 dc_x9 pm_x9 cd_x9 ct_x9 : Value} {f_Maybe_ahead : Addr} {od_x10 an_x10 : Option Addr} {sl_x10 : Array (Option Value)} {oc_x10 kV_x10 dc_x10 pm_x10 cd_x10 ct_x10 : Value} {C_Many : Addr} {f_Many_init : Addr} {od_x11 an_x11 : Option Addr} {sl_x11 : Array (Option Value)} {oc_x11 kV_x11 dc_x11 pm_x11 cd_x11 ct_x11 : Value} {f_Many_ahead : Addr} {od_x12 an_x12 : Option Addr} {sl_x12 : Array (Option Value)} {oc_x12 kV_x12 dc_x12 pm_x12 cd_x12 ct_x12 : Value} {C_Turned : Addr} {f_Turned_init : Addr} {od_x13 an_x13 : Option Addr} {sl_x13 : Array (Option Value)} {oc_x13 kV_x13 dc_x13 pm_x13 cd_x13 ct_x13 : Value} {f_Turned_ahead : Addr} {od_x14 an_x14 : Option Addr} {sl_x14 : Array (Option Value)} {oc_x14 kV_x14 dc_x14 pm_x14 cd_x14 ct_x14 : Value} {C_Record : Addr} {f_Record_init : Addr} {od_x15 an_x15 : Option Addr} {sl_x15 : Array (Option Value)} {oc_x15 kV_x15 dc_x15 pm_x15 cd_x15 ct_x15 : Value} {f_Record_ahead : Addr} {od_x16 an_x16 : Option Addr} {sl_x16 : Array (Option Value)} {oc_x16 kV_x16 dc_x16 pm_x16 cd_x16 ct_x16 : Value} {C_Choice : Addr} {f_Choice_init : Addr} {od_x17 an_x17 : Option Addr} {sl_x17 : Array (Option Value)} {oc_x17 kV_x17 dc_x17 pm_x17 cd_x17 ct_x17 : Value} {f_Choice_ahead : Addr} {od_x18 an_x18 : Option Addr} {sl_x18 : Array (Option Value)} {oc_x18 kV_x18 dc_x18 pm_x18 cd_x18 ct_x18 : Value} {f_made_of : Addr} {od_x19 an_x19 : Option Addr} {sl_x19 : Array (Option Value)} {oc_x19 kV_x19 dc_x19 pm_x19 cd_x19 ct_x19 : Value} {f_is_name : Addr} {od_x20 an_x20 : Option Addr} {sl_x20 : Array (Option Value)} {oc_x20 kV_x20 dc_x20 pm_x20 cd_x20 ct_x20 : Value} {f_names_of : Addr} {od_x21 an_x21 : Option Addr} {sl_x21 : Array (Option Value)} {oc_x21 kV_x21 dc_x21 pm_x21 cd_x21 ct_x21 : Value} {f_first_unlike : Addr} {od_x22 an_x22 : Option Addr} {sl_x22 : Array (Option Value)} {oc_x22 kV_x22 dc_x22 pm_x22 cd_x22 ct_x22 : Value} {f_law_pool : Addr} {od_x23 an_x23 : Option Addr} {sl_x23 : Array (Option Value)} {oc_x23 kV_x23 dc_x23 pm_x23 cd_x23 ct_x23 : Value} {f_law_next : Addr} {od_x24 an_x24 : Option Addr} {sl_x24 : Array (Option Value)} {oc_x24 kV_x24 dc_x24 pm_x24 cd_x24 ct_x24 : Value} {f_law_signs : Addr} {od_x25 an_x25 : Option Addr} {sl_x25 : Array (Option Value)} {oc_x25 kV_x25 dc_x25 pm_x25 cd_x25 ct_x25 : Value} {f_law_names : Addr} {od_x26 an_x26 : Option Addr} {sl_x26 : Array (Option Value)} {oc_x26 kV_x26 dc_x26 pm_x26 cd_x26 ct_x26 : Value} {f_law_simple : Addr} {od_x27 an_x27 : Option Addr} {sl_x27 : Array (Option Value)} {oc_x27 kV_x27 dc_x27 pm_x27 cd_x27 ct_x27 : Value} {f_law_form : Addr} {od_x28 an_x28 : Option Addr} {sl_x28 : Array (Option Value)} {oc_x28 kV_x28 dc_x28 pm_x28 cd_x28 ct_x28 : Value} {f_law_object : Addr} {od_x29 an_x29 : Option Addr} {sl_x29 : Array (Option Value)} {oc_x29 kV_x29 dc_x29 pm_x29 cd_x29 ct_x29 : Value} {f_law_new : Addr} {od_x30 an_x30 : Option Addr} {sl_x30 : Array (Option Value)} {oc_x30 kV_x30 dc_x30 pm_x30 cd_x30 ct_x30 : Value} {f_law_made : Addr} {od_x31 an_x31 : Option Addr} {sl_x31 : Array (Option Value)} {oc_x31 kV_x31 dc_x31 pm_x31 cd_x31 ct_x31 : Value} {f_law_near : Addr} {od_x32 an_x32 : Option Addr} {sl_x32 : Array (Option Value)} {oc_x32 kV_x32 dc_x32 pm_x32 cd_x32 ct_x32 : Value} {f_law_signed : Addr} {od_x33 an_x33 : Option Addr} {sl_x33 : Array (Option Value)} {oc_x33 kV_x33 dc_x33 pm_x33 cd_x33 ct_x33 : Value} {f_law_fraction : Addr} {od_x34 an_x34 : Option Addr} {sl_x34 : Array (Option Value)} {oc_x34 kV_x34 dc_x34 pm_x34 cd_x34 ct_x34 : Value} {f_law_size : Addr} {od_x35 an_x35 : Option Addr} {sl_x35 : Array (Option Value)} {oc_x35 kV_x35 dc_x35 pm_x35 cd_x35 ct_x35 : Value} {f_law_value : Addr} {od_x36 an_x36 : Option Addr} {sl_x36 : Array (Option Value)} {oc_x36 kV_x36 dc_x36 pm_x36 cd_x36 ct_x36 : Value} {f_law_drawn : Addr} {od_x37 an_x37 : Option Addr} {sl_x37 : Array (Option Value)} {oc_x37 kV_x37 dc_x37 pm_x37 cd_x37 ct_x37 : Value} {f_law_listed : Addr} {od_x38 an_x38 : Option Addr} {sl_x38 : Array (Option Value)} {oc_x38 kV_x38 dc_x38 pm_x38 cd_x38 ct_x38 : Value} {f_law_order : Addr} {od_x39 an_x39 : Option Addr} {sl_x39 : Array (Option Value)} {oc_x39 kV_x39 dc_x39 pm_x39 cd_x39 ct_x39 : Value} {f_law : Addr} {od_x40 an_x40 : Option Addr} {sl_x40 : Array (Option Value)} {oc_x40 kV_x40 dc_x40 pm_x40 cd_x40 ct_x40 : Value} {tk_MOST_SIGNS : Tok} {tk_MOST_PARTS : Tok} {tk_LONGEST_NAME : Tok} {tk_SMALL_LETTERS : Tok} {tk_LETTERS_AND_FIGURES : Tok}
    (aC_Nothing : PySem.W.nsIn K mainGlobals "Nothing" = some (some (.ref C_Nothing)))
    (pg_Nothing : PySem.W.plainGet K C_Nothing Str.empty = true)
    (hd_Nothing : PySem.W.hasDictIn K C_Nothing = true)
    (po_Nothing : PySem.W.plainOver K C_Nothing = true)
    (sa_Nothing : PySem.W.findIn K (.ref C_Nothing) "__setattr__" = some (some (.builtin "object.__setattr__")))
    (mk_Nothing : PySem.W.makesIn K C_Nothing = true)
    (kc_Nothing : PySem.W.keepIn K (.ref C_Nothing) = true)
    (i0_Nothing : PySem.W.findIn K (.ref C_Nothing) "__init__" = some (some (.builtin "object.__init__")))
    (a_Nothing_ahead : PySem.W.findIn K (.ref C_Nothing) "ahead" = some (some (.ref f_Nothing_ahead)))
    (i_Nothing_ahead : PySem.W.isFn K (.ref f_Nothing_ahead) = true)
    (l_Nothing_ahead : K.lookup f_Nothing_ahead = some ⟨oc_x0, od_x0, .func (PySem.W.fnOf "ahead" "Nothing.ahead" (defArgs s_Nothing_ahead) (defBody s_Nothing_ahead) (defScope s_Nothing_ahead) .none kV_x0 dc_x0 pm_x0 an_x0 cd_x0 ct_x0), sl_x0⟩)
    (c_Nothing_ahead : PySem.W.codeIn K cd_x0 "Nothing.ahead" = true)
    (k_Nothing_ahead : PySem.W.keepIn K (.ref f_Nothing_ahead) = true)
    (aC_Truth : PySem.W.nsIn K mainGlobals "Truth" = some (some (.ref C_Truth)))
    (pg_Truth : PySem.W.plainGet K C_Truth Str.empty = true)
    (hd_Truth : PySem.W.hasDictIn K C_Truth = true)
    (po_Truth : PySem.W.plainOver K C_Truth = true)
    (sa_Truth : PySem.W.findIn K (.ref C_Truth) "__setattr__" = some (some (.builtin "object.__setattr__")))
    (mk_Truth : PySem.W.makesIn K C_Truth = true)
    (kc_Truth : PySem.W.keepIn K (.ref C_Truth) = true)
    (i0_Truth : PySem.W.findIn K (.ref C_Truth) "__init__" = some (some (.builtin "object.__init__")))
    (a_Truth_ahead : PySem.W.findIn K (.ref C_Truth) "ahead" = some (some (.ref f_Truth_ahead)))
    (i_Truth_ahead : PySem.W.isFn K (.ref f_Truth_ahead) = true)
    (l_Truth_ahead : K.lookup f_Truth_ahead = some ⟨oc_x1, od_x1, .func (PySem.W.fnOf "ahead" "Truth.ahead" (defArgs s_Truth_ahead) (defBody s_Truth_ahead) (defScope s_Truth_ahead) .none kV_x1 dc_x1 pm_x1 an_x1 cd_x1 ct_x1), sl_x1⟩)
    (c_Truth_ahead : PySem.W.codeIn K cd_x1 "Truth.ahead" = true)
    (k_Truth_ahead : PySem.W.keepIn K (.ref f_Truth_ahead) = true)
    (aC_Whole : PySem.W.nsIn K mainGlobals "Whole" = some (some (.ref C_Whole)))
    (pg_Whole : PySem.W.plainGet K C_Whole Str.empty = true)
    (hd_Whole : PySem.W.hasDictIn K C_Whole = true)
    (po_Whole : PySem.W.plainOver K C_Whole = true)
    (sa_Whole : PySem.W.findIn K (.ref C_Whole) "__setattr__" = some (some (.builtin "object.__setattr__")))
    (mk_Whole : PySem.W.makesIn K C_Whole = true)
    (kc_Whole : PySem.W.keepIn K (.ref C_Whole) = true)
    (i0_Whole : PySem.W.findIn K (.ref C_Whole) "__init__" = some (some (.builtin "object.__init__")))
    (a_Whole_ahead : PySem.W.findIn K (.ref C_Whole) "ahead" = some (some (.ref f_Whole_ahead)))
    (i_Whole_ahead : PySem.W.isFn K (.ref f_Whole_ahead) = true)
    (l_Whole_ahead : K.lookup f_Whole_ahead = some ⟨oc_x2, od_x2, .func (PySem.W.fnOf "ahead" "Whole.ahead" (defArgs s_Whole_ahead) (defBody s_Whole_ahead) (defScope s_Whole_ahead) .none kV_x2 dc_x2 pm_x2 an_x2 cd_x2 ct_x2), sl_x2⟩)
    (c_Whole_ahead : PySem.W.codeIn K cd_x2 "Whole.ahead" = true)
    (k_Whole_ahead : PySem.W.keepIn K (.ref f_Whole_ahead) = true)
    (aC_Fraction : PySem.W.nsIn K mainGlobals "Fraction" = some (some (.ref C_Fraction)))
    (pg_Fraction : PySem.W.plainGet K C_Fraction Str.empty = true)
    (hd_Fraction : PySem.W.hasDictIn K C_Fraction = true)
    (po_Fraction : PySem.W.plainOver K C_Fraction = true)
    (sa_Fraction : PySem.W.findIn K (.ref C_Fraction) "__setattr__" = some (some (.builtin "object.__setattr__")))
    (mk_Fraction : PySem.W.makesIn K C_Fraction = true)
    (kc_Fraction : PySem.W.keepIn K (.ref C_Fraction) = true)
    (i0_Fraction : PySem.W.findIn K (.ref C_Fraction) "__init__" = some (some (.builtin "object.__init__")))
    (a_Fraction_ahead : PySem.W.findIn K (.ref C_Fraction) "ahead" = some (some (.ref f_Fraction_ahead)))
    (i_Fraction_ahead : PySem.W.isFn K (.ref f_Fraction_ahead) = true)
    (l_Fraction_ahead : K.lookup f_Fraction_ahead = some ⟨oc_x3, od_x3, .func (PySem.W.fnOf "ahead" "Fraction.ahead" (defArgs s_Fraction_ahead) (defBody s_Fraction_ahead) (defScope s_Fraction_ahead) .none kV_x3 dc_x3 pm_x3 an_x3 cd_x3 ct_x3), sl_x3⟩)
    (c_Fraction_ahead : PySem.W.codeIn K cd_x3 "Fraction.ahead" = true)
    (k_Fraction_ahead : PySem.W.keepIn K (.ref f_Fraction_ahead) = true)
    (aC_Span : PySem.W.nsIn K mainGlobals "Span" = some (some (.ref C_Span)))
    (pg_Span : PySem.W.plainGet K C_Span Str.empty = true)
    (hd_Span : PySem.W.hasDictIn K C_Span = true)
    (po_Span : PySem.W.plainOver K C_Span = true)
    (sa_Span : PySem.W.findIn K (.ref C_Span) "__setattr__" = some (some (.builtin "object.__setattr__")))
    (mk_Span : PySem.W.makesIn K C_Span = true)
    (kc_Span : PySem.W.keepIn K (.ref C_Span) = true)
    (n_Span_low : PySem.W.findIn K (.ref C_Span) "low" = some none)
    (n_Span_high : PySem.W.findIn K (.ref C_Span) "high" = some none)
    (a_Span_init : PySem.W.findIn K (.ref C_Span) "__init__" = some (some (.ref f_Span_init)))
    (i_Span_init : PySem.W.isFn K (.ref f_Span_init) = true)
    (l_Span_init : K.lookup f_Span_init = some ⟨oc_x4, od_x4, .func (PySem.W.fnOf "__init__" "Span.__init__" (defArgs s_Span_init) (defBody s_Span_init) (defScope s_Span_init) .none kV_x4 dc_x4 pm_x4 an_x4 cd_x4 ct_x4), sl_x4⟩)
    (c_Span_init : PySem.W.codeIn K cd_x4 "Span.__init__" = true)
    (k_Span_init : PySem.W.keepIn K (.ref f_Span_init) = true)
    (a_Span_ahead : PySem.W.findIn K (.ref C_Span) "ahead" = some (some (.ref f_Span_ahead)))
    (i_Span_ahead : PySem.W.isFn K (.ref f_Span_ahead) = true)
    (l_Span_ahead : K.lookup f_Span_ahead = some ⟨oc_x5, od_x5, .func (PySem.W.fnOf "ahead" "Span.ahead" (defArgs s_Span_ahead) (defBody s_Span_ahead) (defScope s_Span_ahead) .none kV_x5 dc_x5 pm_x5 an_x5 cd_x5 ct_x5), sl_x5⟩)
    (c_Span_ahead : PySem.W.codeIn K cd_x5 "Span.ahead" = true)
    (k_Span_ahead : PySem.W.keepIn K (.ref f_Span_ahead) = true)
    (aC_Letters : PySem.W.nsIn K mainGlobals "Letters" = some (some (.ref C_Letters)))
    (pg_Letters : PySem.W.plainGet K C_Letters Str.empty = true)
    (hd_Letters : PySem.W.hasDictIn K C_Letters = true)
    (po_Letters : PySem.W.plainOver K C_Letters = true)
    (sa_Letters : PySem.W.findIn K (.ref C_Letters) "__setattr__" = some (some (.builtin "object.__setattr__")))
    (mk_Letters : PySem.W.makesIn K C_Letters = true)
    (kc_Letters : PySem.W.keepIn K (.ref C_Letters) = true)
    (n_Letters_signs : PySem.W.findIn K (.ref C_Letters) "signs" = some none)
    (a_Letters_init : PySem.W.findIn K (.ref C_Letters) "__init__" = some (some (.ref f_Letters_init)))
    (i_Letters_init : PySem.W.isFn K (.ref f_Letters_init) = true)
    (l_Letters_init : K.lookup f_Letters_init = some ⟨oc_x6, od_x6, .func (PySem.W.fnOf "__init__" "Letters.__init__" (defArgs s_Letters_init) (defBody s_Letters_init) (defScope s_Letters_init) .none kV_x6 dc_x6 pm_x6 an_x6 cd_x6 ct_x6), sl_x6⟩)
    (c_Letters_init : PySem.W.codeIn K cd_x6 "Letters.__init__" = true)
    (k_Letters_init : PySem.W.keepIn K (.ref f_Letters_init) = true)
    (a_Letters_ahead : PySem.W.findIn K (.ref C_Letters) "ahead" = some (some (.ref f_Letters_ahead)))
    (i_Letters_ahead : PySem.W.isFn K (.ref f_Letters_ahead) = true)
    (l_Letters_ahead : K.lookup f_Letters_ahead = some ⟨oc_x7, od_x7, .func (PySem.W.fnOf "ahead" "Letters.ahead" (defArgs s_Letters_ahead) (defBody s_Letters_ahead) (defScope s_Letters_ahead) .none kV_x7 dc_x7 pm_x7 an_x7 cd_x7 ct_x7), sl_x7⟩)
    (c_Letters_ahead : PySem.W.codeIn K cd_x7 "Letters.ahead" = true)
    (k_Letters_ahead : PySem.W.keepIn K (.ref f_Letters_ahead) = true)
    (a_Letters_places : PySem.W.findIn K (.ref C_Letters) "places" = some (some (.ref f_Letters_places)))
    (i_Letters_places : PySem.W.isFn K (.ref f_Letters_places) = true)
    (l_Letters_places : K.lookup f_Letters_places = some ⟨oc_x8, od_x8, .func (PySem.W.fnOf "places" "Letters.places" (defArgs s_Letters_places) (defBody s_Letters_places) (defScope s_Letters_places) .none kV_x8 dc_x8 pm_x8 an_x8 cd_x8 ct_x8), sl_x8⟩)
    (c_Letters_places : PySem.W.codeIn K cd_x8 "Letters.places" = true)
    (k_Letters_places : PySem.W.keepIn K (.ref f_Letters_places) = true)
    (aC_Maybe : PySem.W.nsIn K mainGlobals "Maybe" = some (some (.ref C_Maybe)))
    (pg_Maybe : PySem.W.plainGet K C_Maybe Str.empty = true)
    (hd_Maybe : PySem.W.hasDictIn K C_Maybe = true)
    (po_Maybe : PySem.W.plainOver K C_Maybe = true)
    (sa_Maybe : PySem.W.findIn K (.ref C_Maybe) "__setattr__" = some (some (.builtin "object.__setattr__")))
    (mk_Maybe : PySem.W.makesIn K C_Maybe = true)
    (kc_Maybe : PySem.W.keepIn K (.ref C_Maybe) = true)
    (n_Maybe_inner : PySem.W.findIn K (.ref C_Maybe) "inner" = some none)
    (a_Maybe_init : PySem.W.findIn K (.ref C_Maybe) "__init__" = some (some (.ref f_Maybe_init)))
    (i_Maybe_init : PySem.W.isFn K (.ref f_Maybe_init) = true)
    (l_Maybe_init : K.lookup f_Maybe_init = some ⟨oc_x9, od_x9, .func (PySem.W.fnOf "__init__" "Maybe.__init__" (defArgs s_Maybe_init) (defBody s_Maybe_init) (defScope s_Maybe_init) .none kV_x9 dc_x9 pm_x9 an_x9 cd_x9 ct_x9), sl_x9⟩)
    (c_Maybe_init : PySem.W.codeIn K cd_x9 "Maybe.__init__" = true)
    (k_Maybe_init : PySem.W.keepIn K (.ref f_Maybe_init) = true)
    (a_Maybe_ahead : PySem.W.findIn K (.ref C_Maybe) "ahead" = some (some (.ref f_Maybe_ahead)))
    (i_Maybe_ahead : PySem.W.isFn K (.ref f_Maybe_ahead) = true)
    (l_Maybe_ahead : K.lookup f_Maybe_ahead = some ⟨oc_x10, od_x10, .func (PySem.W.fnOf "ahead" "Maybe.ahead" (defArgs s_Maybe_ahead) (defBody s_Maybe_ahead) (defScope s_Maybe_ahead) .none kV_x10 dc_x10 pm_x10 an_x10 cd_x10 ct_x10), sl_x10⟩)
    (c_Maybe_ahead : PySem.W.codeIn K cd_x10 "Maybe.ahead" = true)
    (k_Maybe_ahead : PySem.W.keepIn K (.ref f_Maybe_ahead) = true)
    (aC_Many : PySem.W.nsIn K mainGlobals "Many" = some (some (.ref C_Many)))
    (pg_Many : PySem.W.plainGet K C_Many Str.empty = true)
    (hd_Many : PySem.W.hasDictIn K C_Many = true)
    (po_Many : PySem.W.plainOver K C_Many = true)
    (sa_Many : PySem.W.findIn K (.ref C_Many) "__setattr__" = some (some (.builtin "object.__setattr__")))
    (mk_Many : PySem.W.makesIn K C_Many = true)
    (kc_Many : PySem.W.keepIn K (.ref C_Many) = true)
    (n_Many_inner : PySem.W.findIn K (.ref C_Many) "inner" = some none)
    (a_Many_init : PySem.W.findIn K (.ref C_Many) "__init__" = some (some (.ref f_Many_init)))
    (i_Many_init : PySem.W.isFn K (.ref f_Many_init) = true)
    (l_Many_init : K.lookup f_Many_init = some ⟨oc_x11, od_x11, .func (PySem.W.fnOf "__init__" "Many.__init__" (defArgs s_Many_init) (defBody s_Many_init) (defScope s_Many_init) .none kV_x11 dc_x11 pm_x11 an_x11 cd_x11 ct_x11), sl_x11⟩)
    (c_Many_init : PySem.W.codeIn K cd_x11 "Many.__init__" = true)
    (k_Many_init : PySem.W.keepIn K (.ref f_Many_init) = true)
    (a_Many_ahead : PySem.W.findIn K (.ref C_Many) "ahead" = some (some (.ref f_Many_ahead)))
    (i_Many_ahead : PySem.W.isFn K (.ref f_Many_ahead) = true)
    (l_Many_ahead : K.lookup f_Many_ahead = some ⟨oc_x12, od_x12, .func (PySem.W.fnOf "ahead" "Many.ahead" (defArgs s_Many_ahead) (defBody s_Many_ahead) (defScope s_Many_ahead) .none kV_x12 dc_x12 pm_x12 an_x12 cd_x12 ct_x12), sl_x12⟩)
    (c_Many_ahead : PySem.W.codeIn K cd_x12 "Many.ahead" = true)
    (k_Many_ahead : PySem.W.keepIn K (.ref f_Many_ahead) = true)
    (aC_Turned : PySem.W.nsIn K mainGlobals "Turned" = some (some (.ref C_Turned)))
    (pg_Turned : PySem.W.plainGet K C_Turned Str.empty = true)
    (hd_Turned : PySem.W.hasDictIn K C_Turned = true)
    (po_Turned : PySem.W.plainOver K C_Turned = true)
    (sa_Turned : PySem.W.findIn K (.ref C_Turned) "__setattr__" = some (some (.builtin "object.__setattr__")))
    (mk_Turned : PySem.W.makesIn K C_Turned = true)
    (kc_Turned : PySem.W.keepIn K (.ref C_Turned) = true)
    (n_Turned_inner : PySem.W.findIn K (.ref C_Turned) "inner" = some none)
    (a_Turned_init : PySem.W.findIn K (.ref C_Turned) "__init__" = some (some (.ref f_Turned_init)))
    (i_Turned_init : PySem.W.isFn K (.ref f_Turned_init) = true)
    (l_Turned_init : K.lookup f_Turned_init = some ⟨oc_x13, od_x13, .func (PySem.W.fnOf "__init__" "Turned.__init__" (defArgs s_Turned_init) (defBody s_Turned_init) (defScope s_Turned_init) .none kV_x13 dc_x13 pm_x13 an_x13 cd_x13 ct_x13), sl_x13⟩)
    (c_Turned_init : PySem.W.codeIn K cd_x13 "Turned.__init__" = true)
    (k_Turned_init : PySem.W.keepIn K (.ref f_Turned_init) = true)
    (a_Turned_ahead : PySem.W.findIn K (.ref C_Turned) "ahead" = some (some (.ref f_Turned_ahead)))
    (i_Turned_ahead : PySem.W.isFn K (.ref f_Turned_ahead) = true)
    (l_Turned_ahead : K.lookup f_Turned_ahead = some ⟨oc_x14, od_x14, .func (PySem.W.fnOf "ahead" "Turned.ahead" (defArgs s_Turned_ahead) (defBody s_Turned_ahead) (defScope s_Turned_ahead) .none kV_x14 dc_x14 pm_x14 an_x14 cd_x14 ct_x14), sl_x14⟩)
    (c_Turned_ahead : PySem.W.codeIn K cd_x14 "Turned.ahead" = true)
    (k_Turned_ahead : PySem.W.keepIn K (.ref f_Turned_ahead) = true)
    (aC_Record : PySem.W.nsIn K mainGlobals "Record" = some (some (.ref C_Record)))
    (pg_Record : PySem.W.plainGet K C_Record Str.empty = true)
    (hd_Record : PySem.W.hasDictIn K C_Record = true)
    (po_Record : PySem.W.plainOver K C_Record = true)
    (sa_Record : PySem.W.findIn K (.ref C_Record) "__setattr__" = some (some (.builtin "object.__setattr__")))
    (mk_Record : PySem.W.makesIn K C_Record = true)
    (kc_Record : PySem.W.keepIn K (.ref C_Record) = true)
    (n_Record_names : PySem.W.findIn K (.ref C_Record) "names" = some none)
    (n_Record_forms : PySem.W.findIn K (.ref C_Record) "forms" = some none)
    (a_Record_init : PySem.W.findIn K (.ref C_Record) "__init__" = some (some (.ref f_Record_init)))
    (i_Record_init : PySem.W.isFn K (.ref f_Record_init) = true)
    (l_Record_init : K.lookup f_Record_init = some ⟨oc_x15, od_x15, .func (PySem.W.fnOf "__init__" "Record.__init__" (defArgs s_Record_init) (defBody s_Record_init) (defScope s_Record_init) .none kV_x15 dc_x15 pm_x15 an_x15 cd_x15 ct_x15), sl_x15⟩)
    (c_Record_init : PySem.W.codeIn K cd_x15 "Record.__init__" = true)
    (k_Record_init : PySem.W.keepIn K (.ref f_Record_init) = true)
    (a_Record_ahead : PySem.W.findIn K (.ref C_Record) "ahead" = some (some (.ref f_Record_ahead)))
    (i_Record_ahead : PySem.W.isFn K (.ref f_Record_ahead) = true)
    (l_Record_ahead : K.lookup f_Record_ahead = some ⟨oc_x16, od_x16, .func (PySem.W.fnOf "ahead" "Record.ahead" (defArgs s_Record_ahead) (defBody s_Record_ahead) (defScope s_Record_ahead) .none kV_x16 dc_x16 pm_x16 an_x16 cd_x16 ct_x16), sl_x16⟩)
    (c_Record_ahead : PySem.W.codeIn K cd_x16 "Record.ahead" = true)
    (k_Record_ahead : PySem.W.keepIn K (.ref f_Record_ahead) = true)
    (aC_Choice : PySem.W.nsIn K mainGlobals "Choice" = some (some (.ref C_Choice)))
    (pg_Choice : PySem.W.plainGet K C_Choice Str.empty = true)
    (hd_Choice : PySem.W.hasDictIn K C_Choice = true)
    (po_Choice : PySem.W.plainOver K C_Choice = true)
    (sa_Choice : PySem.W.findIn K (.ref C_Choice) "__setattr__" = some (some (.builtin "object.__setattr__")))
    (mk_Choice : PySem.W.makesIn K C_Choice = true)
    (kc_Choice : PySem.W.keepIn K (.ref C_Choice) = true)
    (n_Choice_names : PySem.W.findIn K (.ref C_Choice) "names" = some none)
    (n_Choice_forms : PySem.W.findIn K (.ref C_Choice) "forms" = some none)
    (a_Choice_init : PySem.W.findIn K (.ref C_Choice) "__init__" = some (some (.ref f_Choice_init)))
    (i_Choice_init : PySem.W.isFn K (.ref f_Choice_init) = true)
    (l_Choice_init : K.lookup f_Choice_init = some ⟨oc_x17, od_x17, .func (PySem.W.fnOf "__init__" "Choice.__init__" (defArgs s_Choice_init) (defBody s_Choice_init) (defScope s_Choice_init) .none kV_x17 dc_x17 pm_x17 an_x17 cd_x17 ct_x17), sl_x17⟩)
    (c_Choice_init : PySem.W.codeIn K cd_x17 "Choice.__init__" = true)
    (k_Choice_init : PySem.W.keepIn K (.ref f_Choice_init) = true)
    (a_Choice_ahead : PySem.W.findIn K (.ref C_Choice) "ahead" = some (some (.ref f_Choice_ahead)))
    (i_Choice_ahead : PySem.W.isFn K (.ref f_Choice_ahead) = true)
    (l_Choice_ahead : K.lookup f_Choice_ahead = some ⟨oc_x18, od_x18, .func (PySem.W.fnOf "ahead" "Choice.ahead" (defArgs s_Choice_ahead) (defBody s_Choice_ahead) (defScope s_Choice_ahead) .none kV_x18 dc_x18 pm_x18 an_x18 cd_x18 ct_x18), sl_x18⟩)
    (c_Choice_ahead : PySem.W.codeIn K cd_x18 "Choice.ahead" = true)
    (k_Choice_ahead : PySem.W.keepIn K (.ref f_Choice_ahead) = true)
    (a_made_of : PySem.W.nsIn K mainGlobals "made_of" = some (some (.ref f_made_of)))
    (l_made_of : K.lookup f_made_of = some ⟨oc_x19, od_x19, .func (PySem.W.fnOf "made_of" "made_of" (defArgs s_made_of) (defBody s_made_of) (defScope s_made_of) .none kV_x19 dc_x19 pm_x19 an_x19 cd_x19 ct_x19), sl_x19⟩)
    (c_made_of : PySem.W.codeIn K cd_x19 "made_of" = true)
    (k_made_of : PySem.W.keepIn K (.ref f_made_of) = true)
    (a_is_name : PySem.W.nsIn K mainGlobals "is_name" = some (some (.ref f_is_name)))
    (l_is_name : K.lookup f_is_name = some ⟨oc_x20, od_x20, .func (PySem.W.fnOf "is_name" "is_name" (defArgs s_is_name) (defBody s_is_name) (defScope s_is_name) .none kV_x20 dc_x20 pm_x20 an_x20 cd_x20 ct_x20), sl_x20⟩)
    (c_is_name : PySem.W.codeIn K cd_x20 "is_name" = true)
    (k_is_name : PySem.W.keepIn K (.ref f_is_name) = true)
    (a_names_of : PySem.W.nsIn K mainGlobals "names_of" = some (some (.ref f_names_of)))
    (l_names_of : K.lookup f_names_of = some ⟨oc_x21, od_x21, .func (PySem.W.fnOf "names_of" "names_of" (defArgs s_names_of) (defBody s_names_of) (defScope s_names_of) .none kV_x21 dc_x21 pm_x21 an_x21 cd_x21 ct_x21), sl_x21⟩)
    (c_names_of : PySem.W.codeIn K cd_x21 "names_of" = true)
    (k_names_of : PySem.W.keepIn K (.ref f_names_of) = true)
    (a_first_unlike : PySem.W.nsIn K mainGlobals "first_unlike" = some (some (.ref f_first_unlike)))
    (l_first_unlike : K.lookup f_first_unlike = some ⟨oc_x22, od_x22, .func (PySem.W.fnOf "first_unlike" "first_unlike" (defArgs s_first_unlike) (defBody s_first_unlike) (defScope s_first_unlike) .none kV_x22 dc_x22 pm_x22 an_x22 cd_x22 ct_x22), sl_x22⟩)
    (c_first_unlike : PySem.W.codeIn K cd_x22 "first_unlike" = true)
    (k_first_unlike : PySem.W.keepIn K (.ref f_first_unlike) = true)
    (a_law_pool : PySem.W.nsIn K mainGlobals "_law_pool" = some (some (.ref f_law_pool)))
    (l_law_pool : K.lookup f_law_pool = some ⟨oc_x23, od_x23, .func (PySem.W.fnOf "_law_pool" "_law_pool" (defArgs s_law_pool) (defBody s_law_pool) (defScope s_law_pool) .none kV_x23 dc_x23 pm_x23 an_x23 cd_x23 ct_x23), sl_x23⟩)
    (c_law_pool : PySem.W.codeIn K cd_x23 "_law_pool" = true)
    (k_law_pool : PySem.W.keepIn K (.ref f_law_pool) = true)
    (a_law_next : PySem.W.nsIn K mainGlobals "_law_next" = some (some (.ref f_law_next)))
    (l_law_next : K.lookup f_law_next = some ⟨oc_x24, od_x24, .func (PySem.W.fnOf "_law_next" "_law_next" (defArgs s_law_next) (defBody s_law_next) (defScope s_law_next) .none kV_x24 dc_x24 pm_x24 an_x24 cd_x24 ct_x24), sl_x24⟩)
    (c_law_next : PySem.W.codeIn K cd_x24 "_law_next" = true)
    (k_law_next : PySem.W.keepIn K (.ref f_law_next) = true)
    (a_law_signs : PySem.W.nsIn K mainGlobals "_law_signs" = some (some (.ref f_law_signs)))
    (l_law_signs : K.lookup f_law_signs = some ⟨oc_x25, od_x25, .func (PySem.W.fnOf "_law_signs" "_law_signs" (defArgs s_law_signs) (defBody s_law_signs) (defScope s_law_signs) .none kV_x25 dc_x25 pm_x25 an_x25 cd_x25 ct_x25), sl_x25⟩)
    (c_law_signs : PySem.W.codeIn K cd_x25 "_law_signs" = true)
    (k_law_signs : PySem.W.keepIn K (.ref f_law_signs) = true)
    (a_law_names : PySem.W.nsIn K mainGlobals "_law_names" = some (some (.ref f_law_names)))
    (l_law_names : K.lookup f_law_names = some ⟨oc_x26, od_x26, .func (PySem.W.fnOf "_law_names" "_law_names" (defArgs s_law_names) (defBody s_law_names) (defScope s_law_names) .none kV_x26 dc_x26 pm_x26 an_x26 cd_x26 ct_x26), sl_x26⟩)
    (c_law_names : PySem.W.codeIn K cd_x26 "_law_names" = true)
    (k_law_names : PySem.W.keepIn K (.ref f_law_names) = true)
    (a_law_simple : PySem.W.nsIn K mainGlobals "_law_simple" = some (some (.ref f_law_simple)))
    (l_law_simple : K.lookup f_law_simple = some ⟨oc_x27, od_x27, .func (PySem.W.fnOf "_law_simple" "_law_simple" (defArgs s_law_simple) (defBody s_law_simple) (defScope s_law_simple) .none kV_x27 dc_x27 pm_x27 an_x27 cd_x27 ct_x27), sl_x27⟩)
    (c_law_simple : PySem.W.codeIn K cd_x27 "_law_simple" = true)
    (k_law_simple : PySem.W.keepIn K (.ref f_law_simple) = true)
    (a_law_form : PySem.W.nsIn K mainGlobals "_law_form" = some (some (.ref f_law_form)))
    (l_law_form : K.lookup f_law_form = some ⟨oc_x28, od_x28, .func (PySem.W.fnOf "_law_form" "_law_form" (defArgs s_law_form) (defBody s_law_form) (defScope s_law_form) .none kV_x28 dc_x28 pm_x28 an_x28 cd_x28 ct_x28), sl_x28⟩)
    (c_law_form : PySem.W.codeIn K cd_x28 "_law_form" = true)
    (k_law_form : PySem.W.keepIn K (.ref f_law_form) = true)
    (a_law_object : PySem.W.nsIn K mainGlobals "_law_object" = some (some (.ref f_law_object)))
    (l_law_object : K.lookup f_law_object = some ⟨oc_x29, od_x29, .func (PySem.W.fnOf "_law_object" "_law_object" (defArgs s_law_object) (defBody s_law_object) (defScope s_law_object) .none kV_x29 dc_x29 pm_x29 an_x29 cd_x29 ct_x29), sl_x29⟩)
    (c_law_object : PySem.W.codeIn K cd_x29 "_law_object" = true)
    (k_law_object : PySem.W.keepIn K (.ref f_law_object) = true)
    (a_law_new : PySem.W.nsIn K mainGlobals "_law_new" = some (some (.ref f_law_new)))
    (l_law_new : K.lookup f_law_new = some ⟨oc_x30, od_x30, .func (PySem.W.fnOf "_law_new" "_law_new" (defArgs s_law_new) (defBody s_law_new) (defScope s_law_new) .none kV_x30 dc_x30 pm_x30 an_x30 cd_x30 ct_x30), sl_x30⟩)
    (c_law_new : PySem.W.codeIn K cd_x30 "_law_new" = true)
    (k_law_new : PySem.W.keepIn K (.ref f_law_new) = true)
    (a_law_made : PySem.W.nsIn K mainGlobals "_law_made" = some (some (.ref f_law_made)))
    (l_law_made : K.lookup f_law_made = some ⟨oc_x31, od_x31, .func (PySem.W.fnOf "_law_made" "_law_made" (defArgs s_law_made) (defBody s_law_made) (defScope s_law_made) .none kV_x31 dc_x31 pm_x31 an_x31 cd_x31 ct_x31), sl_x31⟩)
    (c_law_made : PySem.W.codeIn K cd_x31 "_law_made" = true)
    (k_law_made : PySem.W.keepIn K (.ref f_law_made) = true)
    (a_law_near : PySem.W.nsIn K mainGlobals "_law_near" = some (some (.ref f_law_near)))
    (l_law_near : K.lookup f_law_near = some ⟨oc_x32, od_x32, .func (PySem.W.fnOf "_law_near" "_law_near" (defArgs s_law_near) (defBody s_law_near) (defScope s_law_near) .none kV_x32 dc_x32 pm_x32 an_x32 cd_x32 ct_x32), sl_x32⟩)
    (c_law_near : PySem.W.codeIn K cd_x32 "_law_near" = true)
    (k_law_near : PySem.W.keepIn K (.ref f_law_near) = true)
    (a_law_signed : PySem.W.nsIn K mainGlobals "_law_signed" = some (some (.ref f_law_signed)))
    (l_law_signed : K.lookup f_law_signed = some ⟨oc_x33, od_x33, .func (PySem.W.fnOf "_law_signed" "_law_signed" (defArgs s_law_signed) (defBody s_law_signed) (defScope s_law_signed) .none kV_x33 dc_x33 pm_x33 an_x33 cd_x33 ct_x33), sl_x33⟩)
    (c_law_signed : PySem.W.codeIn K cd_x33 "_law_signed" = true)
    (k_law_signed : PySem.W.keepIn K (.ref f_law_signed) = true)
    (a_law_fraction : PySem.W.nsIn K mainGlobals "_law_fraction" = some (some (.ref f_law_fraction)))
    (l_law_fraction : K.lookup f_law_fraction = some ⟨oc_x34, od_x34, .func (PySem.W.fnOf "_law_fraction" "_law_fraction" (defArgs s_law_fraction) (defBody s_law_fraction) (defScope s_law_fraction) .none kV_x34 dc_x34 pm_x34 an_x34 cd_x34 ct_x34), sl_x34⟩)
    (c_law_fraction : PySem.W.codeIn K cd_x34 "_law_fraction" = true)
    (k_law_fraction : PySem.W.keepIn K (.ref f_law_fraction) = true)
    (a_law_size : PySem.W.nsIn K mainGlobals "_law_size" = some (some (.ref f_law_size)))
    (l_law_size : K.lookup f_law_size = some ⟨oc_x35, od_x35, .func (PySem.W.fnOf "_law_size" "_law_size" (defArgs s_law_size) (defBody s_law_size) (defScope s_law_size) .none kV_x35 dc_x35 pm_x35 an_x35 cd_x35 ct_x35), sl_x35⟩)
    (c_law_size : PySem.W.codeIn K cd_x35 "_law_size" = true)
    (k_law_size : PySem.W.keepIn K (.ref f_law_size) = true)
    (a_law_value : PySem.W.nsIn K mainGlobals "_law_value" = some (some (.ref f_law_value)))
    (l_law_value : K.lookup f_law_value = some ⟨oc_x36, od_x36, .func (PySem.W.fnOf "_law_value" "_law_value" (defArgs s_law_value) (defBody s_law_value) (defScope s_law_value) .none kV_x36 dc_x36 pm_x36 an_x36 cd_x36 ct_x36), sl_x36⟩)
    (c_law_value : PySem.W.codeIn K cd_x36 "_law_value" = true)
    (k_law_value : PySem.W.keepIn K (.ref f_law_value) = true)
    (a_law_drawn : PySem.W.nsIn K mainGlobals "_law_drawn" = some (some (.ref f_law_drawn)))
    (l_law_drawn : K.lookup f_law_drawn = some ⟨oc_x37, od_x37, .func (PySem.W.fnOf "_law_drawn" "_law_drawn" (defArgs s_law_drawn) (defBody s_law_drawn) (defScope s_law_drawn) .none kV_x37 dc_x37 pm_x37 an_x37 cd_x37 ct_x37), sl_x37⟩)
    (c_law_drawn : PySem.W.codeIn K cd_x37 "_law_drawn" = true)
    (k_law_drawn : PySem.W.keepIn K (.ref f_law_drawn) = true)
    (a_law_listed : PySem.W.nsIn K mainGlobals "_law_listed" = some (some (.ref f_law_listed)))
    (l_law_listed : K.lookup f_law_listed = some ⟨oc_x38, od_x38, .func (PySem.W.fnOf "_law_listed" "_law_listed" (defArgs s_law_listed) (defBody s_law_listed) (defScope s_law_listed) .none kV_x38 dc_x38 pm_x38 an_x38 cd_x38 ct_x38), sl_x38⟩)
    (c_law_listed : PySem.W.codeIn K cd_x38 "_law_listed" = true)
    (k_law_listed : PySem.W.keepIn K (.ref f_law_listed) = true)
    (a_law_order : PySem.W.nsIn K mainGlobals "_law_order" = some (some (.ref f_law_order)))
    (l_law_order : K.lookup f_law_order = some ⟨oc_x39, od_x39, .func (PySem.W.fnOf "_law_order" "_law_order" (defArgs s_law_order) (defBody s_law_order) (defScope s_law_order) .none kV_x39 dc_x39 pm_x39 an_x39 cd_x39 ct_x39), sl_x39⟩)
    (c_law_order : PySem.W.codeIn K cd_x39 "_law_order" = true)
    (k_law_order : PySem.W.keepIn K (.ref f_law_order) = true)
    (a_law : PySem.W.nsIn K mainGlobals "law" = some (some (.ref f_law)))
    (l_law : K.lookup f_law = some ⟨oc_x40, od_x40, .func (PySem.W.fnOf "law" "law" (defArgs s_law) (defBody s_law) (defScope s_law) .none kV_x40 dc_x40 pm_x40 an_x40 cd_x40 ct_x40), sl_x40⟩)
    (c_law : PySem.W.codeIn K cd_x40 "law" = true)
    (k_law : PySem.W.keepIn K (.ref f_law) = true)
    (z_len : PySem.W.nsIn K mainGlobals "len" = some none)
    (z_range : PySem.W.nsIn K mainGlobals "range" = some none)
    (z_int : PySem.W.nsIn K mainGlobals "int" = some none)
    (z_str : PySem.W.nsIn K mainGlobals "str" = some none)
    (z_bool : PySem.W.nsIn K mainGlobals "bool" = some none)
    (z_tuple : PySem.W.nsIn K mainGlobals "tuple" = some none)
    (z_isinstance : PySem.W.nsIn K mainGlobals "isinstance" = some none)
    (z_min : PySem.W.nsIn K mainGlobals "min" = some none)
    (z_list : PySem.W.nsIn K mainGlobals "list" = some none)
    (z_all : PySem.W.nsIn K mainGlobals "all" = some none)
    (z_reversed : PySem.W.nsIn K mainGlobals "reversed" = some none)
    (z_enumerate : PySem.W.nsIn K mainGlobals "enumerate" = some none)
    (z_zip : PySem.W.nsIn K mainGlobals "zip" = some none)
    (z_set : PySem.W.nsIn K mainGlobals "set" = some none)
    (z_abs : PySem.W.nsIn K mainGlobals "abs" = some none)
    (g0_MOST_SIGNS : PySem.W.nsIn K mainGlobals "MOST_SIGNS" = some (some (.int 60 tk_MOST_SIGNS)))
    (g0_MOST_PARTS : PySem.W.nsIn K mainGlobals "MOST_PARTS" = some (some (.int 20 tk_MOST_PARTS)))
    (g0_LONGEST_NAME : PySem.W.nsIn K mainGlobals "LONGEST_NAME" = some (some (.int 12 tk_LONGEST_NAME)))
    (g0_SMALL_LETTERS : PySem.W.nsIn K mainGlobals "SMALL_LETTERS" = some (some (.str "abcdefghijklmnopqrstuvwxyz" tk_SMALL_LETTERS)))
    (g0_LETTERS_AND_FIGURES : PySem.W.nsIn K mainGlobals "LETTERS_AND_FIGURES" = some (some (.str "abcdefghijklmnopqrstuvwxyzABCDEFGHIJKLMNOPQRSTUVWXYZ0123456789" tk_LETTERS_AND_FIGURES)))
    : ∃ fd : FuncData, (∀ (s : Shared) (v : Value), BindsTo s fd ⟨[v], []⟩ [("_law_script", v)]) ∧ ∀ base : Heap, K.In base → base.Ns mainGlobals mg → FnOk l.prog w K mg base CX0 24 fa fd ["_law_script"] (spLaw K) := by
  have e := hfa.symm.trans (PySem.W.mg_of X G a_law)
  cases e
  have cl_Nothing : Cls K C_Nothing := ⟨pg_Nothing, hd_Nothing, po_Nothing, sa_Nothing⟩
  have m_Nothing : mg "Nothing" = some (.ref C_Nothing) := PySem.W.mg_of X G aC_Nothing
  have M0_Nothing : Mk0 K C_Nothing := ⟨mk_Nothing, i0_Nothing, kc_Nothing⟩
  have F_Nothing_ahead := fun_mk (st := s_Nothing_ahead) l_Nothing_ahead c_Nothing_ahead k_Nothing_ahead
  have b_Nothing_ahead := F_Nothing_ahead.binds (ps := ["self", "one", "other"]) fun _ _ _ _ _ _ us hl => by obtain ⟨_, _, _, rfl⟩ := ex3 us hl; rfl
  have t_Nothing_ahead : Meth K C_Nothing "ahead" f_Nothing_ahead := ⟨a_Nothing_ahead, i_Nothing_ahead, k_Nothing_ahead⟩
  have cl_Truth : Cls K C_Truth := ⟨pg_Truth, hd_Truth, po_Truth, sa_Truth⟩
  have m_Truth : mg "Truth" = some (.ref C_Truth) := PySem.W.mg_of X G aC_Truth
  have M0_Truth : Mk0 K C_Truth := ⟨mk_Truth, i0_Truth, kc_Truth⟩
  have F_Truth_ahead := fun_mk (st := s_Truth_ahead) l_Truth_ahead c_Truth_ahead k_Truth_ahead
  have b_Truth_ahead := F_Truth_ahead.binds (ps := ["self", "one", "other"]) fun _ _ _ _ _ _ us hl => by obtain ⟨_, _, _, rfl⟩ := ex3 us hl; rfl
  have t_Truth_ahead : Meth K C_Truth "ahead" f_Truth_ahead := ⟨a_Truth_ahead, i_Truth_ahead, k_Truth_ahead⟩
  have cl_Whole : Cls K C_Whole := ⟨pg_Whole, hd_Whole, po_Whole, sa_Whole⟩
  have m_Whole : mg "Whole" = some (.ref C_Whole) := PySem.W.mg_of X G aC_Whole
  have M0_Whole : Mk0 K C_Whole := ⟨mk_Whole, i0_Whole, kc_Whole⟩
  have F_Whole_ahead := fun_mk (st := s_Whole_ahead) l_Whole_ahead c_Whole_ahead k_Whole_ahead
  have b_Whole_ahead := F_Whole_ahead.binds (ps := ["self", "one", "other"]) fun _ _ _ _ _ _ us hl => by obtain ⟨_, _, _, rfl⟩ := ex3 us hl; rfl
  have t_Whole_ahead : Meth K C_Whole "ahead" f_Whole_ahead := ⟨a_Whole_ahead, i_Whole_ahead, k_Whole_ahead⟩
  have cl_Fraction : Cls K C_Fraction := ⟨pg_Fraction, hd_Fraction, po_Fraction, sa_Fraction⟩
  have m_Fraction : mg "Fraction" = some (.ref C_Fraction) := PySem.W.mg_of X G aC_Fraction
  have M0_Fraction : Mk0 K C_Fraction := ⟨mk_Fraction, i0_Fraction, kc_Fraction⟩
  have F_Fraction_ahead := fun_mk (st := s_Fraction_ahead) l_Fraction_ahead c_Fraction_ahead k_Fraction_ahead
  have b_Fraction_ahead := F_Fraction_ahead.binds (ps := ["self", "one", "other"]) fun _ _ _ _ _ _ us hl => by obtain ⟨_, _, _, rfl⟩ := ex3 us hl; rfl
  have t_Fraction_ahead : Meth K C_Fraction "ahead" f_Fraction_ahead := ⟨a_Fraction_ahead, i_Fraction_ahead, k_Fraction_ahead⟩
  have cl_Span : Cls K C_Span := ⟨pg_Span, hd_Span, po_Span, sa_Span⟩
  have m_Span : mg "Span" = some (.ref C_Span) := PySem.W.mg_of X G aC_Span
  have F_Span_init := fun_mk (st := s_Span_init) l_Span_init c_Span_init k_Span_init
  have b_Span_init := F_Span_init.binds (ps := ["self", "low", "high"]) fun _ _ _ _ _ _ us hl => by obtain ⟨_, _, _, rfl⟩ := ex3 us hl; rfl
  have K_Span : Mk K C_Span f_Span_init := ⟨mk_Span, a_Span_init, i_Span_init, kc_Span⟩
  have F_Span_ahead := fun_mk (st := s_Span_ahead) l_Span_ahead c_Span_ahead k_Span_ahead
  have b_Span_ahead := F_Span_ahead.binds (ps := ["self", "one", "other"]) fun _ _ _ _ _ _ us hl => by obtain ⟨_, _, _, rfl⟩ := ex3 us hl; rfl
  have t_Span_ahead : Meth K C_Span "ahead" f_Span_ahead := ⟨a_Span_ahead, i_Span_ahead, k_Span_ahead⟩
  have cl_Letters : Cls K C_Letters := ⟨pg_Letters, hd_Letters, po_Letters, sa_Letters⟩
  have m_Letters : mg "Letters" = some (.ref C_Letters) := PySem.W.mg_of X G aC_Letters
  have F_Letters_init := fun_mk (st := s_Letters_init) l_Letters_init c_Letters_init k_Letters_init
  have b_Letters_init := F_Letters_init.binds (ps := ["self", "signs"]) fun _ _ _ _ _ _ us hl => by obtain ⟨_, _, rfl⟩ := ex2 us hl; rfl
  have K_Letters : Mk K C_Letters f_Letters_init := ⟨mk_Letters, a_Letters_init, i_Letters_init, kc_Letters⟩
  have F_Letters_ahead := fun_mk (st := s_Letters_ahead) l_Letters_ahead c_Letters_ahead k_Letters_ahead
  have b_Letters_ahead := F_Letters_ahead.binds (ps := ["self", "one", "other"]) fun _ _ _ _ _ _ us hl => by obtain ⟨_, _, _, rfl⟩ := ex3 us hl; rfl
  have t_Letters_ahead : Meth K C_Letters "ahead" f_Letters_ahead := ⟨a_Letters_ahead, i_Letters_ahead, k_Letters_ahead⟩
  have F_Letters_places := fun_mk (st := s_Letters_places) l_Letters_places c_Letters_places k_Letters_places
  have b_Letters_places := F_Letters_places.binds (ps := ["self", "text"]) fun _ _ _ _ _ _ us hl => by obtain ⟨_, _, rfl⟩ := ex2 us hl; rfl
  have t_Letters_places : Meth K C_Letters "places" f_Letters_places := ⟨a_Letters_places, i_Letters_places, k_Letters_places⟩
  have cl_Maybe : Cls K C_Maybe := ⟨pg_Maybe, hd_Maybe, po_Maybe, sa_Maybe⟩
  have m_Maybe : mg "Maybe" = some (.ref C_Maybe) := PySem.W.mg_of X G aC_Maybe
  have F_Maybe_init := fun_mk (st := s_Maybe_init) l_Maybe_init c_Maybe_init k_Maybe_init
  have b_Maybe_init := F_Maybe_init.binds (ps := ["self", "inner"]) fun _ _ _ _ _ _ us hl => by obtain ⟨_, _, rfl⟩ := ex2 us hl; rfl
  have K_Maybe : Mk K C_Maybe f_Maybe_init := ⟨mk_Maybe, a_Maybe_init, i_Maybe_init, kc_Maybe⟩
  have F_Maybe_ahead := fun_mk (st := s_Maybe_ahead) l_Maybe_ahead c_Maybe_ahead k_Maybe_ahead
  have b_Maybe_ahead := F_Maybe_ahead.binds (ps := ["self", "one", "other"]) fun _ _ _ _ _ _ us hl => by obtain ⟨_, _, _, rfl⟩ := ex3 us hl; rfl
  have t_Maybe_ahead : Meth K C_Maybe "ahead" f_Maybe_ahead := ⟨a_Maybe_ahead, i_Maybe_ahead, k_Maybe_ahead⟩
  have cl_Many : Cls K C_Many := ⟨pg_Many, hd_Many, po_Many, sa_Many⟩
  have m_Many : mg "Many" = some (.ref C_Many) := PySem.W.mg_of X G aC_Many
  have F_Many_init := fun_mk (st := s_Many_init) l_Many_init c_Many_init k_Many_init
  have b_Many_init := F_Many_init.binds (ps := ["self", "inner"]) fun _ _ _ _ _ _ us hl => by obtain ⟨_, _, rfl⟩ := ex2 us hl; rfl
  have K_Many : Mk K C_Many f_Many_init := ⟨mk_Many, a_Many_init, i_Many_init, kc_Many⟩
  have F_Many_ahead := fun_mk (st := s_Many_ahead) l_Many_ahead c_Many_ahead k_Many_ahead
  have b_Many_ahead := F_Many_ahead.binds (ps := ["self", "one", "other"]) fun _ _ _ _ _ _ us hl => by obtain ⟨_, _, _, rfl⟩ := ex3 us hl; rfl
  have t_Many_ahead : Meth K C_Many "ahead" f_Many_ahead := ⟨a_Many_ahead, i_Many_ahead, k_Many_ahead⟩
  have cl_Turned : Cls K C_Turned := ⟨pg_Turned, hd_Turned, po_Turned, sa_Turned⟩
  have m_Turned : mg "Turned" = some (.ref C_Turned) := PySem.W.mg_of X G aC_Turned
  have F_Turned_init := fun_mk (st := s_Turned_init) l_Turned_init c_Turned_init k_Turned_init
  have b_Turned_init := F_Turned_init.binds (ps := ["self", "inner"]) fun _ _ _ _ _ _ us hl => by obtain ⟨_, _, rfl⟩ := ex2 us hl; rfl
  have K_Turned : Mk K C_Turned f_Turned_init := ⟨mk_Turned, a_Turned_init, i_Turned_init, kc_Turned⟩
  have F_Turned_ahead := fun_mk (st := s_Turned_ahead) l_Turned_ahead c_Turned_ahead k_Turned_ahead
  have b_Turned_ahead := F_Turned_ahead.binds (ps := ["self", "one", "other"]) fun _ _ _ _ _ _ us hl => by obtain ⟨_, _, _, rfl⟩ := ex3 us hl; rfl
  have t_Turned_ahead : Meth K C_Turned "ahead" f_Turned_ahead := ⟨a_Turned_ahead, i_Turned_ahead, k_Turned_ahead⟩
  have cl_Record : Cls K C_Record := ⟨pg_Record, hd_Record, po_Record, sa_Record⟩
  have m_Record : mg "Record" = some (.ref C_Record) := PySem.W.mg_of X G aC_Record
  have F_Record_init := fun_mk (st := s_Record_init) l_Record_init c_Record_init k_Record_init
  have b_Record_init := F_Record_init.binds (ps := ["self", "parts"]) fun _ _ _ _ _ _ us hl => by obtain ⟨_, _, rfl⟩ := ex2 us hl; rfl
  have K_Record : Mk K C_Record f_Record_init := ⟨mk_Record, a_Record_init, i_Record_init, kc_Record⟩
  have F_Record_ahead := fun_mk (st := s_Record_ahead) l_Record_ahead c_Record_ahead k_Record_ahead
  have b_Record_ahead := F_Record_ahead.binds (ps := ["self", "one", "other"]) fun _ _ _ _ _ _ us hl => by obtain ⟨_, _, _, rfl⟩ := ex3 us hl; rfl
  have t_Record_ahead : Meth K C_Record "ahead" f_Record_ahead := ⟨a_Record_ahead, i_Record_ahead, k_Record_ahead⟩
  have cl_Choice : Cls K C_Choice := ⟨pg_Choice, hd_Choice, po_Choice, sa_Choice⟩
  have m_Choice : mg "Choice" = some (.ref C_Choice) := PySem.W.mg_of X G aC_Choice
  have F_Choice_init := fun_mk (st := s_Choice_init) l_Choice_init c_Choice_init k_Choice_init
  have b_Choice_init := F_Choice_init.binds (ps := ["self", "cases"]) fun _ _ _ _ _ _ us hl => by obtain ⟨_, _, rfl⟩ := ex2 us hl; rfl
  have K_Choice : Mk K C_Choice f_Choice_init := ⟨mk_Choice, a_Choice_init, i_Choice_init, kc_Choice⟩
  have F_Choice_ahead := fun_mk (st := s_Choice_ahead) l_Choice_ahead c_Choice_ahead k_Choice_ahead
  have b_Choice_ahead := F_Choice_ahead.binds (ps := ["self", "one", "other"]) fun _ _ _ _ _ _ us hl => by obtain ⟨_, _, _, rfl⟩ := ex3 us hl; rfl
  have t_Choice_ahead : Meth K C_Choice "ahead" f_Choice_ahead := ⟨a_Choice_ahead, i_Choice_ahead, k_Choice_ahead⟩
  have F_made_of : FunAt K mg "made_of" s_made_of ["text", "signs"] f_made_of _ := ⟨fun_mk (st := s_made_of) l_made_of c_made_of k_made_of, (fun_mk (st := s_made_of) l_made_of c_made_of k_made_of).binds (ps := ["text", "signs"]) fun _ _ _ _ _ _ us hl => by obtain ⟨_, _, rfl⟩ := ex2 us hl; rfl, PySem.W.mg_of X G a_made_of⟩
  have F_is_name : FunAt K mg "is_name" s_is_name ["name"] f_is_name _ := ⟨fun_mk (st := s_is_name) l_is_name c_is_name k_is_name, (fun_mk (st := s_is_name) l_is_name c_is_name k_is_name).binds (ps := ["name"]) fun _ _ _ _ _ _ us hl => by obtain ⟨_, rfl⟩ := ex1 us hl; rfl, PySem.W.mg_of X G a_is_name⟩
  have F_names_of : FunAt K mg "names_of" s_names_of ["parts"] f_names_of _ := ⟨fun_mk (st := s_names_of) l_names_of c_names_of k_names_of, (fun_mk (st := s_names_of) l_names_of c_names_of k_names_of).binds (ps := ["parts"]) fun _ _ _ _ _ _ us hl => by obtain ⟨_, rfl⟩ := ex1 us hl; rfl, PySem.W.mg_of X G a_names_of⟩
  have F_first_unlike : FunAt K mg "first_unlike" s_first_unlike ["one", "other"] f_first_unlike _ := ⟨fun_mk (st := s_first_unlike) l_first_unlike c_first_unlike k_first_unlike, (fun_mk (st := s_first_unlike) l_first_unlike c_first_unlike k_first_unlike).binds (ps := ["one", "other"]) fun _ _ _ _ _ _ us hl => by obtain ⟨_, _, rfl⟩ := ex2 us hl; rfl, PySem.W.mg_of X G a_first_unlike⟩
  have F_law_pool : FunAt K mg "_law_pool" s_law_pool ["_law_script"] f_law_pool _ := ⟨fun_mk (st := s_law_pool) l_law_pool c_law_pool k_law_pool, (fun_mk (st := s_law_pool) l_law_pool c_law_pool k_law_pool).binds (ps := ["_law_script"]) fun _ _ _ _ _ _ us hl => by obtain ⟨_, rfl⟩ := ex1 us hl; rfl, PySem.W.mg_of X G a_law_pool⟩
  have F_law_next : FunAt K mg "_law_next" s_law_next ["_law_pool_here"] f_law_next _ := ⟨fun_mk (st := s_law_next) l_law_next c_law_next k_law_next, (fun_mk (st := s_law_next) l_law_next c_law_next k_law_next).binds (ps := ["_law_pool_here"]) fun _ _ _ _ _ _ us hl => by obtain ⟨_, rfl⟩ := ex1 us hl; rfl, PySem.W.mg_of X G a_law_next⟩
  have F_law_signs : FunAt K mg "_law_signs" s_law_signs ["_law_cell"] f_law_signs _ := ⟨fun_mk (st := s_law_signs) l_law_signs c_law_signs k_law_signs, (fun_mk (st := s_law_signs) l_law_signs c_law_signs k_law_signs).binds (ps := ["_law_cell"]) fun _ _ _ _ _ _ us hl => by obtain ⟨_, rfl⟩ := ex1 us hl; rfl, PySem.W.mg_of X G a_law_signs⟩
  have F_law_names : FunAt K mg "_law_names" s_law_names ["_law_cell", "_law_many"] f_law_names _ := ⟨fun_mk (st := s_law_names) l_law_names c_law_names k_law_names, (fun_mk (st := s_law_names) l_law_names c_law_names k_law_names).binds (ps := ["_law_cell", "_law_many"]) fun _ _ _ _ _ _ us hl => by obtain ⟨_, _, rfl⟩ := ex2 us hl; rfl, PySem.W.mg_of X G a_law_names⟩
  have F_law_simple : FunAt K mg "_law_simple" s_law_simple ["_law_pool_here", "_law_way"] f_law_simple _ := ⟨fun_mk (st := s_law_simple) l_law_simple c_law_simple k_law_simple, (fun_mk (st := s_law_simple) l_law_simple c_law_simple k_law_simple).binds (ps := ["_law_pool_here", "_law_way"]) fun _ _ _ _ _ _ us hl => by obtain ⟨_, _, rfl⟩ := ex2 us hl; rfl, PySem.W.mg_of X G a_law_simple⟩
  have F_law_form : FunAt K mg "_law_form" s_law_form ["_law_pool_here", "_law_deep"] f_law_form _ := ⟨fun_mk (st := s_law_form) l_law_form c_law_form k_law_form, (fun_mk (st := s_law_form) l_law_form c_law_form k_law_form).binds (ps := ["_law_pool_here", "_law_deep"]) fun _ _ _ _ _ _ us hl => by obtain ⟨_, _, rfl⟩ := ex2 us hl; rfl, PySem.W.mg_of X G a_law_form⟩
  have F_law_object : FunAt K mg "_law_object" s_law_object ["_law_form_here", "_law_kept"] f_law_object _ := ⟨fun_mk (st := s_law_object) l_law_object c_law_object k_law_object, (fun_mk (st := s_law_object) l_law_object c_law_object k_law_object).binds (ps := ["_law_form_here", "_law_kept"]) fun _ _ _ _ _ _ us hl => by obtain ⟨_, _, rfl⟩ := ex2 us hl; rfl, PySem.W.mg_of X G a_law_object⟩
  have F_law_new : FunAt K mg "_law_new" s_law_new ["_law_form_here", "_law_kept"] f_law_new _ := ⟨fun_mk (st := s_law_new) l_law_new c_law_new k_law_new, (fun_mk (st := s_law_new) l_law_new c_law_new k_law_new).binds (ps := ["_law_form_here", "_law_kept"]) fun _ _ _ _ _ _ us hl => by obtain ⟨_, _, rfl⟩ := ex2 us hl; rfl, PySem.W.mg_of X G a_law_new⟩
  have F_law_made : FunAt K mg "_law_made" s_law_made ["_law_form_here"] f_law_made _ := ⟨fun_mk (st := s_law_made) l_law_made c_law_made k_law_made, (fun_mk (st := s_law_made) l_law_made c_law_made k_law_made).binds (ps := ["_law_form_here"]) fun _ _ _ _ _ _ us hl => by obtain ⟨_, rfl⟩ := ex1 us hl; rfl, PySem.W.mg_of X G a_law_made⟩
  have F_law_near : FunAt K mg "_law_near" s_law_near ["_law_cell"] f_law_near _ := ⟨fun_mk (st := s_law_near) l_law_near c_law_near k_law_near, (fun_mk (st := s_law_near) l_law_near c_law_near k_law_near).binds (ps := ["_law_cell"]) fun _ _ _ _ _ _ us hl => by obtain ⟨_, rfl⟩ := ex1 us hl; rfl, PySem.W.mg_of X G a_law_near⟩
  have F_law_signed : FunAt K mg "_law_signed" s_law_signed ["_law_cell"] f_law_signed _ := ⟨fun_mk (st := s_law_signed) l_law_signed c_law_signed k_law_signed, (fun_mk (st := s_law_signed) l_law_signed c_law_signed k_law_signed).binds (ps := ["_law_cell"]) fun _ _ _ _ _ _ us hl => by obtain ⟨_, rfl⟩ := ex1 us hl; rfl, PySem.W.mg_of X G a_law_signed⟩
  have F_law_fraction : FunAt K mg "_law_fraction" s_law_fraction ["_law_one", "_law_other"] f_law_fraction _ := ⟨fun_mk (st := s_law_fraction) l_law_fraction c_law_fraction k_law_fraction, (fun_mk (st := s_law_fraction) l_law_fraction c_law_fraction k_law_fraction).binds (ps := ["_law_one", "_law_other"]) fun _ _ _ _ _ _ us hl => by obtain ⟨_, _, rfl⟩ := ex2 us hl; rfl, PySem.W.mg_of X G a_law_fraction⟩
  have F_law_size : FunAt K mg "_law_size" s_law_size ["_law_form_here", "_law_cell", "_law_pool_here"] f_law_size _ := ⟨fun_mk (st := s_law_size) l_law_size c_law_size k_law_size, (fun_mk (st := s_law_size) l_law_size c_law_size k_law_size).binds (ps := ["_law_form_here", "_law_cell", "_law_pool_here"]) fun _ _ _ _ _ _ us hl => by obtain ⟨_, _, _, rfl⟩ := ex3 us hl; rfl, PySem.W.mg_of X G a_law_size⟩
  have F_law_value : FunAt K mg "_law_value" s_law_value ["_law_pool_here", "_law_form_here"] f_law_value _ := ⟨fun_mk (st := s_law_value) l_law_value c_law_value k_law_value, (fun_mk (st := s_law_value) l_law_value c_law_value k_law_value).binds (ps := ["_law_pool_here", "_law_form_here"]) fun _ _ _ _ _ _ us hl => by obtain ⟨_, _, rfl⟩ := ex2 us hl; rfl, PySem.W.mg_of X G a_law_value⟩
  have F_law_drawn : FunAt K mg "_law_drawn" s_law_drawn ["_law_pool_here"] f_law_drawn _ := ⟨fun_mk (st := s_law_drawn) l_law_drawn c_law_drawn k_law_drawn, (fun_mk (st := s_law_drawn) l_law_drawn c_law_drawn k_law_drawn).binds (ps := ["_law_pool_here"]) fun _ _ _ _ _ _ us hl => by obtain ⟨_, rfl⟩ := ex1 us hl; rfl, PySem.W.mg_of X G a_law_drawn⟩
  have F_law_listed : FunAt K mg "_law_listed" s_law_listed ["_law_forms", "_law_one", "_law_other"] f_law_listed _ := ⟨fun_mk (st := s_law_listed) l_law_listed c_law_listed k_law_listed, (fun_mk (st := s_law_listed) l_law_listed c_law_listed k_law_listed).binds (ps := ["_law_forms", "_law_one", "_law_other"]) fun _ _ _ _ _ _ us hl => by obtain ⟨_, _, _, rfl⟩ := ex3 us hl; rfl, PySem.W.mg_of X G a_law_listed⟩
  have F_law_order : FunAt K mg "_law_order" s_law_order ["_law_form_here", "_law_one", "_law_other"] f_law_order _ := ⟨fun_mk (st := s_law_order) l_law_order c_law_order k_law_order, (fun_mk (st := s_law_order) l_law_order c_law_order k_law_order).binds (ps := ["_law_form_here", "_law_one", "_law_other"]) fun _ _ _ _ _ _ us hl => by obtain ⟨_, _, _, rfl⟩ := ex3 us hl; rfl, PySem.W.mg_of X G a_law_order⟩
  have F_law := fun_mk (st := s_law) l_law c_law k_law
  have nb : NB mg := ⟨PySem.W.mg_none_of X G z_len, PySem.W.mg_none_of X G z_range, PySem.W.mg_none_of X G z_int, PySem.W.mg_none_of X G z_str, PySem.W.mg_none_of X G z_bool, PySem.W.mg_none_of X G z_tuple, PySem.W.mg_none_of X G z_isinstance, PySem.W.mg_none_of X G z_min, PySem.W.mg_none_of X G z_list, PySem.W.mg_none_of X G z_all, PySem.W.mg_none_of X G z_reversed, PySem.W.mg_none_of X G z_enumerate, PySem.W.mg_none_of X G z_zip, PySem.W.mg_none_of X G z_set, PySem.W.mg_none_of X G z_abs⟩
  have g_MOST_SIGNS : GlobV mg "MOST_SIGNS" (.int 60) := ⟨_, PySem.W.mg_of X G g0_MOST_SIGNS, ⟨_, rfl⟩⟩
  have g_MOST_PARTS : GlobV mg "MOST_PARTS" (.int 20) := ⟨_, PySem.W.mg_of X G g0_MOST_PARTS, ⟨_, rfl⟩⟩
  have g_LONGEST_NAME : GlobV mg "LONGEST_NAME" (.int 12) := ⟨_, PySem.W.mg_of X G g0_LONGEST_NAME, ⟨_, rfl⟩⟩
  have g_SMALL_LETTERS : GlobV mg "SMALL_LETTERS" (.str L26) := ⟨_, PySem.W.mg_of X G g0_SMALL_LETTERS, ⟨_, rfl⟩⟩
  have g_LETTERS_AND_FIGURES : GlobV mg "LETTERS_AND_FIGURES" (.str L62) := ⟨_, PySem.W.mg_of X G g0_LETTERS_AND_FIGURES, ⟨_, rfl⟩⟩
  refine ⟨PySem.W.fnOf "law" "law" (defArgs s_law) (defBody s_law) (defScope s_law) .none kV_x40 dc_x40 pm_x40 an_x40 cd_x40 ct_x40, fun s v => .of_eq rfl, fun base _ _ => ?_⟩
  have D_made_of := ok_made_of (P := l.prog) (w := w) (base := base) nb F_made_of
  have D_is_name := ok_is_name nb g_LONGEST_NAME g_SMALL_LETTERS F_is_name D_made_of
  have D_names_of := ok_names_of nb g_MOST_PARTS F_names_of D_is_name
  have TS : SpanCls K C_Span := ⟨cl_Span, n_Span_low, n_Span_high⟩
  have TL : LetCls K C_Letters := ⟨cl_Letters, n_Letters_signs⟩
  have TR : TwoCls K C_Record := ⟨cl_Record, n_Record_names, n_Record_forms⟩
  have TC : TwoCls K C_Choice := ⟨cl_Choice, n_Choice_names, n_Choice_forms⟩
  have TM : OneCls K C_Maybe := ⟨cl_Maybe, n_Maybe_inner⟩
  have TY : OneCls K C_Many := ⟨cl_Many, n_Many_inner⟩
  have TT : OneCls K C_Turned := ⟨cl_Turned, n_Turned_inner⟩
  have M_Span : MakeOk l.prog w K mg base 1 "Span" C_Span ["self", "low", "high"] (spSpanInit C_Span) := ⟨_, _, K_Span, ok_span_init TS F_Span_init, b_Span_init, m_Span⟩
  have M_Letters : MakeOk l.prog w K mg base 2 "Letters" C_Letters ["self", "signs"] (spLetInit C_Letters) := ⟨_, _, K_Letters, ok_let_init nb g_MOST_SIGNS g_LETTERS_AND_FIGURES TL F_Letters_init D_made_of, b_Letters_init, m_Letters⟩
  have M_Record : MakeOk l.prog w K mg base 4 "Record" C_Record ["self", "parts"] (spTwoInit C_Record) := ⟨_, _, K_Record, ok_rec_init nb TR F_Record_init D_names_of, b_Record_init, m_Record⟩
  have M_Choice : MakeOk l.prog w K mg base 4 "Choice" C_Choice ["self", "cases"] (spTwoInit C_Choice) := ⟨_, _, K_Choice, ok_cho_init nb TC F_Choice_init D_names_of, b_Choice_init, m_Choice⟩
  have M_Maybe : MakeOk l.prog w K mg base 1 "Maybe" C_Maybe ["self", "inner"] (spOneInit C_Maybe) := ⟨_, _, K_Maybe, ok_maybe_init TM F_Maybe_init, b_Maybe_init, m_Maybe⟩
  have M_Many : MakeOk l.prog w K mg base 1 "Many" C_Many ["self", "inner"] (spOneInit C_Many) := ⟨_, _, K_Many, ok_many_init TY F_Many_init, b_Many_init, m_Many⟩
  have M_Turned : MakeOk l.prog w K mg base 1 "Turned" C_Turned ["self", "inner"] (spOneInit C_Turned) := ⟨_, _, K_Turned, ok_turned_init TT F_Turned_init, b_Turned_init, m_Turned⟩
  have M_places : MethOk l.prog w K mg base 1 C_Letters "places" ["self", "text"] (spPlaces C_Letters) := ⟨_, _, ok_Letters_places TL F_Letters_places, b_Letters_places, t_Letters_places⟩
  obtain ⟨c, hc⟩ : ∃ c : FC, c = ⟨fun k => [C_Nothing, C_Truth, C_Whole, C_Fraction][k], C_Span, C_Letters, fun k => [C_Maybe, C_Many, C_Turned][k], fun k => [C_Record, C_Choice][k]⟩ := ⟨_, rfl⟩
  have ec_Nothing : c.b 0 = C_Nothing := by rw [hc]; rfl
  have ec_Truth : c.b 1 = C_Truth := by rw [hc]; rfl
  have ec_Whole : c.b 2 = C_Whole := by rw [hc]; rfl
  have ec_Fraction : c.b 3 = C_Fraction := by rw [hc]; rfl
  have ec_Span : c.s = C_Span := by rw [hc]
  have ec_Letters : c.l = C_Letters := by rw [hc]
  have ec_Maybe : c.o 0 = C_Maybe := by rw [hc]; rfl
  have ec_Many : c.o 1 = C_Many := by rw [hc]; rfl
  have ec_Turned : c.o 2 = C_Turned := by rw [hc]; rfl
  have ec_Record : c.t 0 = C_Record := by rw [hc]; rfl
  have ec_Choice : c.t 1 = C_Choice := by rw [hc]; rfl
  clear hc
  subst ec_Nothing
  subst ec_Truth
  subst ec_Whole
  subst ec_Fraction
  subst ec_Span
  subst ec_Letters
  subst ec_Maybe
  subst ec_Many
  subst ec_Turned
  subst ec_Record
  subst ec_Choice
  have SA : Ahs K c := ⟨⟨⟨_, _, F_Nothing_ahead, b_Nothing_ahead, t_Nothing_ahead⟩, cl_Nothing⟩, ⟨⟨_, _, F_Truth_ahead, b_Truth_ahead, t_Truth_ahead⟩, cl_Truth⟩, ⟨⟨_, _, F_Whole_ahead, b_Whole_ahead, t_Whole_ahead⟩, cl_Whole⟩, ⟨⟨_, _, F_Fraction_ahead, b_Fraction_ahead, t_Fraction_ahead⟩, cl_Fraction⟩, ⟨⟨_, _, F_Span_ahead, b_Span_ahead, t_Span_ahead⟩, cl_Span⟩, ⟨⟨_, _, F_Letters_ahead, b_Letters_ahead, t_Letters_ahead⟩, cl_Letters⟩, ⟨⟨_, _, F_Maybe_ahead, b_Maybe_ahead, t_Maybe_ahead⟩, cl_Maybe⟩, ⟨⟨_, _, F_Many_ahead, b_Many_ahead, t_Many_ahead⟩, cl_Many⟩, ⟨⟨_, _, F_Turned_ahead, b_Turned_ahead, t_Turned_ahead⟩, cl_Turned⟩, ⟨⟨_, _, F_Record_ahead, b_Record_ahead, t_Record_ahead⟩, cl_Record⟩, ⟨⟨_, _, F_Choice_ahead, b_Choice_ahead, t_Choice_ahead⟩, cl_Choice⟩, (fun k => by rcases fin3 k with rfl | rfl | rfl <;> first | exact TM | exact TY | exact TT), (fun k => by rcases fin2 k with rfl | rfl <;> first | exact TR | exact TC)⟩
  have D_first_unlike := ok_first_unlike (P := l.prog) (w := w) (base := base) nb F_first_unlike
  have AM_ahead := all_ahead nb SA M_places D_first_unlike 8
  have D_law_pool := ok_law_pool (P := l.prog) (w := w) (base := base) nb F_law_pool
  have D_law_next := ok_law_next (P := l.prog) (w := w) (base := base) nb F_law_next
  have D_law_signs := ok_law_signs (P := l.prog) (w := w) (base := base) nb F_law_signs
  have D_law_names := ok_law_names (P := l.prog) (w := w) (base := base) nb F_law_names
  have D_law_simple := ok_law_simple F_law_simple D_law_next D_law_signs
  have D_law_form := all_law_form23 nb F_law_form D_law_next D_law_names D_law_simple 7
  have D_law_drawn := ok_law_drawn23 F_law_drawn D_law_next D_law_form
  have D_law_object := all_law_object nb F_law_new F_law_object M0_Nothing m_Nothing M0_Truth m_Truth M0_Whole m_Whole M0_Fraction m_Fraction M_Span M_Letters M_Record M_Choice M_Maybe M_Many M_Turned 7
  have D_law_made := ok_law_made23 F_law_made D_law_object
  have D_law_near := ok_law_near (P := l.prog) (w := w) (base := base) nb F_law_near
  have D_law_signed := ok_law_signed F_law_signed D_law_near
  have D_law_fraction := ok_law_fraction (P := l.prog) (w := w) (base := base) nb F_law_fraction
  have D_law_size := ok_law_size (P := l.prog) (w := w) (base := base) nb F_law_size
  have D_law_value := all_law_value nb F_law_value D_law_next D_law_signed D_law_fraction D_law_size 7
  have D_law_order := all_law_order (P := l.prog) (w := w) (base := base) nb F_law_order F_law_listed 7
  exact ok_law23 nb F_law D_law_pool D_law_drawn D_law_made M_Turned D_law_value D_law_order AM_ahead

theorem walk {l : PySem.W.OpenLaw} {q : Program} {loose : List Str} {XP : (Str → Option Value) → Heap → Prop} {YP : World → Heap → Prop} {d : DefRec} {K : Params → PySem.W.Frag} (hn : l.most = some 63) (hdf : d.params.defaults = [])
    (hY : ∀ (w : World) (h : Heap), YP w h → (K w.params).In h)
    (F : ∀ (w : World) (mg : Str → Option Value) (fa : Addr) (h : Heap), (K w.params).In h → h.Ns mainGlobals mg → mg d.name = some (.ref fa) →
      ∃ fd : FuncData, (∀ (s : Shared) (u : Value), BindsTo s fd ⟨[u], []⟩ [("_law_script", u)]) ∧ ∀ base : Heap, (K w.params).In base → base.Ns mainGlobals mg → FnOk l.prog w (K w.params) mg base CX0 24 fa fd ["_law_script"] (spLaw (K w.params))) :
    PySem.W.WalkO q loose XP YP l.row.toRowW d [] (fun f vs => PySem.call f vs) :=
  L2.walk_of (n := 63) (k := 24) (x := "_law_script") (CX := fun _ => CX0) (sp := fun w => spLaw (K w.params)) hn (by decide) hdf ⟨rfl, by decide, by decide⟩ hY F (fun _ _ a ns hl _ hS => ⟨a, ns, rfl, hS, hl, fun _ => rfl⟩) fun _ _ _ _ _ z => z
end
end KR
/-! the great twins of the walk are not laid: these names are taken -/
def PySem.W.Fast.tw15894122168620417679 : Nat := 0
def PySem.W.Fast.tw16797847044232677649 : Nat := 0
def PySem.W.Fast.tw15919684231034982881 : Nat := 0
def PySem.W.Fast.tw13583098714736442246 : Nat := 0
def PySem.W.Fast.tw16001317487905227459 : Nat := 0
def PySem.W.Fast.tw7805718812958984525 : Nat := 0
def PySem.W.Fast.tw8147066481272944458 : Nat := 0
def PySem.W.Fast.tw6666250522086368959 : Nat := 0
def PySem.W.Fast.tw526118582088977908 : Nat := 0
def PySem.W.Fast.tw5597951497915734969 : Nat := 0
def PySem.W.Fast.tw5561982772565847545 : Nat := 0
def PySem.W.Fast.tw2351352618184758811 : Nat := 0
def PySem.W.Fast.tw6265545198458533594 : Nat := 0
def PySem.W.Fast.tw4701938280268173387 : Nat := 0
def PySem.W.Fast.tw4163260146415856398 : Nat := 0
def PySem.W.Fast.tw6163347671201772895 : Nat := 0
def PySem.W.Fast.tw5289319393038058801 : Nat := 0
def PySem.W.Fast.tw10409591244778141881 : Nat := 0
def PySem.W.Fast.tw9955123700722355123 : Nat := 0
def PySem.W.Fast.tw8469017145618637910 : Nat := 0
def PySem.W.Fast.tw6689270869648923649 : Nat := 0
def PySem.W.Fast.tw4031751077068123312 : Nat := 0
def PySem.W.Fast.tw10893948087405087514 : Nat := 0
def PySem.W.Fast.tw2988823459030301964 : Nat := 0
def PySem.W.Fast.tw15127568150896718089 : Nat := 0
def PySem.W.Fast.tw11431735157807390925 : Nat := 0
def PySem.W.Fast.tw15657920167639925244 : Nat := 0
def PySem.W.Fast.tw5342260763449669768 : Nat := 0
def PySem.W.Fast.tw2383472379157473370 : Nat := 0
def PySem.W.Fast.tw12203944204767150240 : Nat := 0
def PySem.W.Fast.tw17136997837640708091 : Nat := 0
def PySem.W.Fast.tw4415755566526331965 : Nat := 0
def PySem.W.Fast.tw3057254818221187378 : Nat := 0
def PySem.W.Fast.tw10567912516243879231 : Nat := 0
def PySem.W.Fast.tw17663204505670509177 : Nat := 0
def PySem.W.Fast.tw11112646794436548968 : Nat := 0
def PySem.W.Fast.tw11778190733270694080 : Nat := 0
def PySem.W.Fast.tw12949707465682034401 : Nat := 0
def PySem.W.Fast.tw14348848790955594402 : Nat := 0
def PySem.W.Fast.tw12383293824409990546 : Nat := 0
def PySem.W.Fast.tw17716700795249623682 : Nat := 0
def PySem.W.Fast.tw9718025963859919898 : Nat := 0
def PySem.W.Fast.tw484075798080746430 : Nat := 0
def PySem.W.Fast.tw10046648160522547068 : Nat := 0
def PySem.W.Fast.tw17693910260661477617 : Nat := 0
def PySem.W.Fast.tw13608396122210304898 : Nat := 0
def PySem.W.Fast.tw16883460094505673006 : Nat := 0
def PySem.W.Fast.tw17440361286928260813 : Nat := 0
def PySem.W.Fast.tw14009037224329923308 : Nat := 0
def PySem.W.Fast.tw5413666999843407022 : Nat := 0
def PySem.W.Fast.tw12483863040185466137 : Nat := 0
def PySem.W.Fast.tw10439199393830002712 : Nat := 0
def PySem.W.Fast.tw12875676119215493410 : Nat := 0
def PySem.W.Fast.tw8659589126118170861 : Nat := 0
def PySem.W.Fast.tw6655679354618858856 : Nat := 0
def PySem.W.Fast.tw8486808835002604540 : Nat := 0
def PySem.W.Fast.tw15515785878636168417 : Nat := 0
def PySem.W.Fast.tw8671173132908195180 : Nat := 0
def PySem.W.Fast.tw10785067967613737882 : Nat := 0
def PySem.W.Fast.tw15523555493687844455 : Nat := 0
def PySem.W.Fast.tw932639269339166917 : Nat := 0
def PySem.W.Fast.tw5570445578425825164 : Nat := 0
def PySem.W.Fast.tw9428840810076996911 : Nat := 0
def PySem.W.Fast.tw11289280563792841067 : Nat := 0
def PySem.W.Fast.tw9537630148010011811 : Nat := 0
def PySem.W.Fast.tw14248350614940040737 : Nat := 0
def PySem.W.Fast.tw7041933824257084137 : Nat := 0
def PySem.W.Fast.tw1075947875192028782 : Nat := 0
def PySem.W.Fast.tw5742212206890571810 : Nat := 0
def PySem.W.Fast.tw769991241035406295 : Nat := 0
def PySem.W.Fast.tw9323651642987877149 : Nat := 0
def PySem.W.Fast.tw1257866813598186451 : Nat := 0
def PySem.W.Fast.tw683240142061413667 : Nat := 0
def PySem.W.Fast.tw9332937664264753726 : Nat := 0
def PySem.W.Fast.tw10192546671093134012 : Nat := 0
def PySem.W.Fast.tw4901860330479843186 : Nat := 0
def PySem.W.Fast.tw18421531633424058594 : Nat := 0
def PySem.W.Fast.tw10355659059626679778 : Nat := 0
open PySem PySem.W PyProof.Rows
set_option maxRecDepth 100000 in
set_option maxHeartbeats 0 in
theorem PySem.Challenge.cw_keyrise_k23_ahead_holds : PySem.Challenge.rw_keyrise_k23_ahead.Holds := by
  w_on; o_law; k_head; (case hw => w_witness2)
  k_fill
  refine KR.walk (l := PySem.Challenge.rw_keyrise_k23_ahead) rfl rfl (fun w h Y => PySem.W.kIn_of Y) ?F
  case F =>
    intro w mg fa h KX G hmg
    refine' KR.all_mk KX G hmg ?a0 ?a1 ?a2 ?a3 ?a4 ?a5 ?a6 ?a7 ?a8 ?a9 ?a10 ?a11 ?a12 ?a13 ?a14 ?a15 ?a16 ?a17 ?a18 ?a19 ?a20 ?a21 ?a22 ?a23 ?a24 ?a25 ?a26 ?a27 ?a28 ?a29 ?a30 ?a31 ?a32 ?a33 ?a34 ?a35 ?a36 ?a37 ?a38 ?a39 ?a40 ?a41 ?a42 ?a43 ?a44 ?a45 ?a46 ?a47 ?a48 ?a49 ?a50 ?a51 ?a52 ?a53 ?a54 ?a55 ?a56 ?a57 ?a58 ?a59 ?a60 ?a61 ?a62 ?a63 ?a64 ?a65 ?a66 ?a67 ?a68 ?a69 ?a70 ?a71 ?a72 ?a73 ?a74 ?a75 ?a76 ?a77 ?a78 ?a79 ?a80 ?a81 ?a82 ?a83 ?a84 ?a85 ?a86 ?a87 ?a88 ?a89 ?a90 ?a91 ?a92 ?a93 ?a94 ?a95 ?a96 ?a97 ?a98 ?a99 ?a100 ?a101 ?a102 ?a103 ?a104 ?a105 ?a106 ?a107 ?a108 ?a109 ?a110 ?a111 ?a112 ?a113 ?a114 ?a115 ?a116 ?a117 ?a118 ?a119 ?a120 ?a121 ?a122 ?a123 ?a124 ?a125 ?a126 ?a127 ?a128 ?a129 ?a130 ?a131 ?a132 ?a133 ?a134 ?a135 ?a136 ?a137 ?a138 ?a139 ?a140 ?a141 ?a142 ?a143 ?a144 ?a145 ?a146 ?a147 ?a148 ?a149 ?a150 ?a151 ?a152 ?a153 ?a154 ?a155 ?a156 ?a157 ?a158 ?a159 ?a160 ?a161 ?a162 ?a163 ?a164 ?a165 ?a166 ?a167 ?a168 ?a169 ?a170 ?a171 ?a172 ?a173 ?a174 ?a175 ?a176 ?a177 ?a178 ?a179 ?a180 ?a181 ?a182 ?a183 ?a184 ?a185 ?a186 ?a187 ?a188 ?a189 ?a190 ?a191 ?a192 ?a193 ?a194 ?a195 ?a196 ?a197 ?a198 ?a199 ?a200 ?a201 ?a202 ?a203 ?a204 ?a205 ?a206 ?a207 ?a208 ?a209 ?a210 ?a211 ?a212 ?a213 ?a214 ?a215 ?a216 ?a217 ?a218 ?a219 ?a220 ?a221 ?a222 ?a223 ?a224 ?a225 ?a226 ?a227 ?a228 ?a229 ?a230 ?a231 ?a232 ?a233 ?a234 ?a235 ?a236 ?a237 ?a238 ?a239 ?a240 ?a241 ?a242 ?a243 ?a244 ?a245 ?a246 ?a247 ?a248 ?a249 ?a250 ?a251 ?a252 ?a253 ?a254 ?a255 ?a256 ?a257 ?a258 ?a259 ?a260 ?a261 ?a262 ?a263 ?a264 ?a265 ?a266 ?a267 ?a268 ?a269 ?a270 ?a271 ?a272 ?a273 ?a274 ?a275 ?a276 ?a277 ?a278 ?a279 ?a280 ?a281 ?a282 ?a283 ?a284 ?a285 ?a286 ?a287 ?a288 ?a289 ?a290 ?a291 ?a292 ?a293
    (case a0 => k_is)
    (case a1 => k_is)
    (case a2 => k_is)
    (case a3 => k_is)
    (case a4 => k_is)
    (case a5 => k_is)
    (case a6 => k_is)
    (case a7 => k_is)
    (case a8 => k_is)
    (case a9 => k_is)
    (case a10 => k_is)
    (case a11 => k_is)
    (case a12 => k_is)
    (case a13 => k_is)
    (case a14 => k_is)
    (case a15 => k_is)
    (case a16 => k_is)
    (case a17 => k_is)
    (case a18 => k_is)
    (case a19 => k_is)
    (case a20 => k_is)
    (case a21 => k_is)
    (case a22 => k_is)
    (case a23 => k_is)
    (case a24 => k_is)
    (case a25 => k_is)
    (case a26 => k_is)
    (case a27 => k_is)
    (case a28 => k_is)
    (case a29 => k_is)
    (case a30 => k_is)
    (case a31 => k_is)
    (case a32 => k_is)
    (case a33 => k_is)
    (case a34 => k_is)
    (case a35 => k_is)
    (case a36 => k_is)
    (case a37 => k_is)
    (case a38 => k_is)
    (case a39 => k_is)
    (case a40 => k_is)
    (case a41 => k_is)
    (case a42 => k_is)
    (case a43 => k_is)
    (case a44 => k_is)
    (case a45 => k_is)
    (case a46 => k_is)
    (case a47 => k_is)
    (case a48 => k_is)
    (case a49 => k_is)
    (case a50 => k_is)
    (case a51 => k_is)
    (case a52 => k_is)
    (case a53 => k_is)
    (case a54 => k_is)
    (case a55 => k_is)
    (case a56 => k_is)
    (case a57 => k_is)
    (case a58 => k_is)
    (case a59 => k_is)
    (case a60 => k_is)
    (case a61 => k_is)
    (case a62 => k_is)
    (case a63 => k_is)
    (case a64 => k_is)
    (case a65 => k_is)
    (case a66 => k_is)
    (case a67 => k_is)
    (case a68 => k_is)
    (case a69 => k_is)
    (case a70 => k_is)
    (case a71 => k_is)
    (case a72 => k_is)
    (case a73 => k_is)
    (case a74 => k_is)
    (case a75 => k_is)
    (case a76 => k_is)
    (case a77 => k_is)
    (case a78 => k_is)
    (case a79 => k_is)
    (case a80 => k_is)
    (case a81 => k_is)
    (case a82 => k_is)
    (case a83 => k_is)
    (case a84 => k_is)
    (case a85 => k_is)
    (case a86 => k_is)
    (case a87 => k_is)
    (case a88 => k_is)
    (case a89 => k_is)
    (case a90 => k_is)
    (case a91 => k_is)
    (case a92 => k_is)
    (case a93 => k_is)
    (case a94 => k_is)
    (case a95 => k_is)
    (case a96 => k_is)
    (case a97 => k_is)
    (case a98 => k_is)
    (case a99 => k_is)
    (case a100 => k_is)
    (case a101 => k_is)
    (case a102 => k_is)
    (case a103 => k_is)
    (case a104 => k_is)
    (case a105 => k_is)
    (case a106 => k_is)
    (case a107 => k_is)
    (case a108 => k_is)
    (case a109 => k_is)
    (case a110 => k_is)
    (case a111 => k_is)
    (case a112 => k_is)
    (case a113 => k_is)
    (case a114 => k_is)
    (case a115 => k_is)
    (case a116 => k_is)
    (case a117 => k_is)
    (case a118 => k_is)
    (case a119 => k_is)
    (case a120 => k_is)
    (case a121 => k_is)
    (case a122 => k_is)
    (case a123 => k_is)
    (case a124 => k_is)
    (case a125 => k_is)
    (case a126 => k_is)
    (case a127 => k_is)
    (case a128 => k_is)
    (case a129 => k_is)
    (case a130 => k_is)
    (case a131 => k_is)
    (case a132 => k_is)
    (case a133 => k_is)
    (case a134 => k_is)
    (case a135 => k_is)
    (case a136 => k_is)
    (case a137 => k_is)
    (case a138 => k_is)
    (case a139 => k_is)
    (case a140 => k_is)
    (case a141 => k_is)
    (case a142 => k_is)
    (case a143 => k_is)
    (case a144 => k_is)
    (case a145 => k_is)
    (case a146 => k_is)
    (case a147 => k_is)
    (case a148 => k_is)
    (case a149 => k_is)
    (case a150 => k_is)
    (case a151 => k_is)
    (case a152 => k_is)
    (case a153 => k_is)
    (case a154 => k_is)
    (case a155 => k_is)
    (case a156 => k_is)
    (case a157 => k_is)
    (case a158 => k_is)
    (case a159 => k_is)
    (case a160 => k_is)
    (case a161 => k_is)
    (case a162 => k_is)
    (case a163 => k_is)
    (case a164 => k_is)
    (case a165 => k_is)
    (case a166 => k_is)
    (case a167 => k_is)
    (case a168 => k_is)
    (case a169 => k_is)
    (case a170 => k_is)
    (case a171 => k_is)
    (case a172 => k_is)
    (case a173 => k_is)
    (case a174 => k_is)
    (case a175 => k_is)
    (case a176 => k_is)
    (case a177 => k_is)
    (case a178 => k_is)
    (case a179 => k_is)
    (case a180 => k_is)
    (case a181 => k_is)
    (case a182 => k_is)
    (case a183 => k_is)
    (case a184 => k_is)
    (case a185 => k_is)
    (case a186 => k_is)
    (case a187 => k_is)
    (case a188 => k_is)
    (case a189 => k_is)
    (case a190 => k_is)
    (case a191 => k_is)
    (case a192 => k_is)
    (case a193 => k_is)
    (case a194 => k_is)
    (case a195 => k_is)
    (case a196 => k_is)
    (case a197 => k_is)
    (case a198 => k_is)
    (case a199 => k_is)
    (case a200 => k_is)
    (case a201 => k_is)
    (case a202 => k_is)
    (case a203 => k_is)
    (case a204 => k_is)
    (case a205 => k_is)
    (case a206 => k_is)
    (case a207 => k_is)
    (case a208 => k_is)
    (case a209 => k_is)
    (case a210 => k_is)
    (case a211 => k_is)
    (case a212 => k_is)
    (case a213 => k_is)
    (case a214 => k_is)
    (case a215 => k_is)
    (case a216 => k_is)
    (case a217 => k_is)
    (case a218 => k_is)
    (case a219 => k_is)
    (case a220 => k_is)
    (case a221 => k_is)
    (case a222 => k_is)
    (case a223 => k_is)
    (case a224 => k_is)
    (case a225 => k_is)
    (case a226 => k_is)
    (case a227 => k_is)
    (case a228 => k_is)
    (case a229 => k_is)
    (case a230 => k_is)
    (case a231 => k_is)
    (case a232 => k_is)
    (case a233 => k_is)
    (case a234 => k_is)
    (case a235 => k_is)
    (case a236 => k_is)
    (case a237 => k_is)
    (case a238 => k_is)
    (case a239 => k_is)
    (case a240 => k_is)
    (case a241 => k_is)
    (case a242 => k_is)
    (case a243 => k_is)
    (case a244 => k_is)
    (case a245 => k_is)
    (case a246 => k_is)
    (case a247 => k_is)
    (case a248 => k_is)
    (case a249 => k_is)
    (case a250 => k_is)
    (case a251 => k_is)
    (case a252 => k_is)
    (case a253 => k_is)
    (case a254 => k_is)
    (case a255 => k_is)
    (case a256 => k_is)
    (case a257 => k_is)
    (case a258 => k_is)
    (case a259 => k_is)
    (case a260 => k_is)
    (case a261 => k_is)
    (case a262 => k_is)
    (case a263 => k_is)
    (case a264 => k_is)
    (case a265 => k_is)
    (case a266 => k_is)
    (case a267 => k_is)
    (case a268 => k_is)
    (case a269 => k_is)
    (case a270 => k_is)
    (case a271 => k_is)
    (case a272 => k_is)
    (case a273 => k_is)
    (case a274 => k_is)
    (case a275 => k_is)
    (case a276 => k_is)
    (case a277 => k_is)
    (case a278 => k_is)
    (case a279 => k_is)
    (case a280 => k_is)
    (case a281 => k_is)
    (case a282 => k_is)
    (case a283 => k_is)
    (case a284 => k_is)
    (case a285 => k_is)
    (case a286 => k_is)
    (case a287 => k_is)
    (case a288 => k_is)
    (case a289 => k_is)
    (case a290 => k_is)
    (case a291 => k_is)
    (case a292 => k_is)
    (case a293 => k_is)


