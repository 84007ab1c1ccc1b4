import PyProof.Rows.All
import Wide.All
import OpenK.AllK
import Wide.FinOn
import Lean
import PyProof.EqAt
import PyProof.EqKinds
import PyProof.TupleCall
import PySem.Challenge.RW_keyrise_k54_whole_spans_of_parts
set_option Elab.async false
set_option linter.all false
set_option maxRecDepth 100000
/-! THE HAND LAYER, for ints, bools, texts, own classes, LISTS and tuples (index, slices, in, append, pop ..), calls, loops. Paste it whole ahead of your own text; what your proof does not reach may be deleted. -/
namespace L2
open PySem PySem.Spec PyProof.Rows

/-- a key: an int or a str -/
abbrev Key := Sum Int Str
def keyIs : Key → Value → Bool
  | .inl k, v => Value.isInt k v
  | .inr x, v => Value.isStrOf x v
def keyH (w : World) : Key → Int
  | .inl k => hashInt k
  | .inr x => hashStr w x
theorem keyIs_shape : ∀ {k : Key} {v : Value}, keyIs k v = true → (∃ i t, k = Sum.inl i ∧ v = Value.int i t) ∨ (∃ x t, k = Sum.inr x ∧ v = Value.str x t)
  | .inl i, v, h => by
    obtain ⟨t, e⟩ := Value.isInt_shape (k := i) (v := v) h
    exact .inl ⟨i, t, rfl, e⟩
  | .inr x, v, h => by
    obtain ⟨t, e⟩ := Value.isStrOf_shape (x := x) (v := v) h
    exact .inr ⟨x, t, rfl, e⟩
theorem key_ll (a b : Int) : decide ((Sum.inl a : Key) = Sum.inl b) = (a == b) := by
  by_cases e : a = b
  · subst e; simp
  · have h : ¬ (Sum.inl a : Key) = Sum.inl b := fun q => e (Sum.inl.inj q)
    rw [decide_eq_false h]
    exact (beq_eq_false_iff_ne.mpr e).symm
theorem key_rr (a b : Str) : decide ((Sum.inr a : Key) = Sum.inr b) = decide (a = b) := by
  by_cases e : a = b
  · subst e; simp
  · have h : ¬ (Sum.inr a : Key) = Sum.inr b := fun q => e (Sum.inr.inj q)
    rw [decide_eq_false h, decide_eq_false e]
theorem key_lr (a : Int) (b : Str) : decide ((Sum.inl a : Key) = Sum.inr b) = false := decide_eq_false (fun q => nomatch q)
theorem key_rl (a : Str) (b : Int) : decide ((Sum.inr a : Key) = Sum.inl b) = false := decide_eq_false (fun q => nomatch q)

def mixKind (prog : Program) (w : World) : PySem.KeyKind prog w Key where
  is := keyIs
  hash := keyH w
  inj := fun v a b ha hb => by
    rcases keyIs_shape ha with ⟨i, t, rfl, rfl⟩ | ⟨x, t, rfl, rfl⟩
    · rcases keyIs_shape hb with ⟨j, u, rfl, e⟩ | ⟨y, u, rfl, e⟩
      · injection e with e1 _; rw [e1]
      · exact nomatch e
    · rcases keyIs_shape hb with ⟨j, u, rfl, e⟩ | ⟨y, u, rfl, e⟩
      · exact nomatch e
      · injection e with e1 _; rw [e1]
  byValue := fun k v h => by
    rcases keyIs_shape h with ⟨i, t, rfl, rfl⟩ | ⟨x, t, rfl, rfl⟩ <;> rfl
  pyHash := fun hv h => by
    rcases keyIs_shape hv with ⟨i, t, rfl, rfl⟩ | ⟨x, t, rfl, rfl⟩
    · exact wpAny_pyHash_int h
    · exact wpAny_pyHash_str h
  eqBool := fun hu hv h => by
    rcases keyIs_shape hu with ⟨i, t, rfl, rfl⟩ | ⟨x, t, rfl, rfl⟩
    · rcases keyIs_shape hv with ⟨j, u, rfl, rfl⟩ | ⟨y, u, rfl, rfl⟩
      · rw [key_ll] at h; exact wpAny_eqBool_int h
      · rw [key_lr] at h; exact SeqAt.EqAt.int_str i t y u _ _ _ _ h
    · rcases keyIs_shape hv with ⟨j, u, rfl, rfl⟩ | ⟨y, u, rfl, rfl⟩
      · rw [key_rl] at h; exact SeqAt.EqAt.str_int x t j u _ _ _ _ h
      · rw [key_rr] at h; exact wpAny_eqBool_str h
  «strs» := fun k x t v h => by
    rcases keyIs_shape h with ⟨i, u, rfl, e⟩ | ⟨y, u, rfl, e⟩
    · exact nomatch e
    · injection e with e1 _
      subst e1
      cases v <;> rfl

end L2

namespace L2
open PySem PySem.Spec PyProof.Rows

/-- a value, without the heap -/
inductive V where
  | non | bl (b : Bool) | int (i : Int) | str (x : Str) | byt (b : Array UInt8) | flt (b : UInt64) | ref (a : Addr) | ty (n : String)
  deriving DecidableEq

def RelV : V → Value → Prop
  | .non, u => u = Value.none
  | .bl b, u => u = Value.bool b
  | .int i, u => ∃ t, u = Value.int i t
  | .str x, u => ∃ t, u = Value.str x t
  | .byt b, u => ∃ t, u = Value.bytes b t
  | .flt b, u => ∃ t, u = Value.float b t
  | .ref a, u => u = Value.ref a
  | .ty n, u => u = Value.type n

abbrev Vals : List V → List Value → Prop := Paired RelV
theorem Vals.length {xs : List V} {us : List Value} (r : Vals xs us) : xs.length = us.length := Paired.length r
theorem Vals.get : ∀ {xs : List V} {us : List Value} {i : Nat} {x : V}, Vals xs us → xs[i]? = some x → ∃ u, us[i]? = some u ∧ RelV x u
  | _, _, _, _, .nil, e => by simp at e
  | _, _, 0, _, .cons r _, e => by simp at e; subst e; exact ⟨_, rfl, r⟩
  | _, _, i + 1, x, .cons _ t, e => by
    obtain ⟨u, h1, h2⟩ := Vals.get (i := i) (x := x) t (by simpa using e)
    exact ⟨u, by simpa using h1, h2⟩
theorem Vals.append : ∀ {xs ys : List V} {us ws : List Value}, Vals xs us → Vals ys ws → Vals (xs ++ ys) (us ++ ws)
  | _, _, _, _, .nil, s => s
  | _, _, _, _, .cons r t, s => .cons r (Vals.append t s)
theorem Vals.take : ∀ {xs : List V} {us : List Value} (n : Nat), Vals xs us → Vals (xs.take n) (us.take n)
  | _, _, 0, _ => .nil
  | _, _, _ + 1, .nil => .nil
  | _, _, n + 1, .cons r t => .cons r (Vals.take n t)
theorem Vals.drop : ∀ {xs : List V} {us : List Value} (n : Nat), Vals xs us → Vals (xs.drop n) (us.drop n)
  | _, _, 0, r => r
  | _, _, _ + 1, .nil => .nil
  | _, _, n + 1, .cons _ t => Vals.drop n t
def RelO : Option V → Option Value → Prop
  | some v, some u => RelV v u
  | none, none => True
  | _, _ => False
def KV {κ : Type} : List (κ × V) → List (κ × Value) → Prop := Paired fun (p : κ × V) (q : κ × Value) => p.1 = q.1 ∧ RelV p.2 q.2

/-- a key of a dict (00_mix): an int or a text -/
def kV : Key → V
  | .inl i => .int i
  | .inr x => .str x

/-- what stands at a tracked address -/
inductive HO where
  /-- a list -/
  | lst (xs : List V)
  /-- a tuple (never changes) -/
  | tup (xs : List V)
  /-- a dict whose keys are ints and texts; one whose keys are tuples of ints and texts (the empty one is both) -/
  | dK (kvs : List (Key × V)) | dT (kvs : List (List Key × V))
  /-- a set of ints: its members, its size -/
  | set (S : Int → Bool) (n : Nat)
  /-- an instance of the class at C, its dict at dx, its attributes -/
  | ins (C dx : Addr) (fs : List (Str × V))
  /-- the dict of the instance at x -/
  | own (x : Addr)
  /-- the dict of an exception -/
  | xd (fs : List (Str × V))
  /-- a bound method, f of x -/
  | met (f x : Addr)
  /-- a range object lo, lo + 1, .. below hi -/
  | rng (lo hi : Int)
  /-- a thing that is known to the object (the script; a dict while a loop walks it): read, never written while it is so -/
  | frz (o : Obj) (u : HO)
  /-- a code object's table -/
  | tbl (ps : Array Value)
  /-- any other thing, by what is true of its one object (a def of one's own: SetO a S n := HO.ext fun h => ..) -/
  | ext (φ : Heap → Prop)

abbrev Hp := Addr → Option HO
def upd (H : Hp) (a : Addr) (o : HO) : Hp := fun b => if b = a then some o else H b
theorem upd_same {H : Hp} {a : Addr} {o : HO} : upd H a o a = some o := by unfold upd; rw [if_pos rfl]
theorem upd_ne {H : Hp} {a b : Addr} {o : HO} (h : b ≠ a) : upd H a o b = H b := by unfold upd; rw [if_neg h]
theorem ne_of_none {H : Hp} {a b : Addr} {o : HO} (h : H a = some o) (h' : H b = none) : a ≠ b := by
  intro e; subst e; rw [h] at h'; cases h'

section
variable (P : Program) (w : World)
def ObjOk (H : Hp) (h : Heap) (a : Addr) : HO → Prop
  | .lst xs => xs.length ≤ sizeLine ∧ ∃ (its : List Value) (n : Nat), Vals xs its ∧ h.get? a = some { cls := .type "list", data := .seq its.toArray n }
  | .tup xs => xs.length ≤ sizeLine ∧ ∃ its : List Value, Vals xs its ∧ IsTup h a its.toArray
  | .dK kvs => kvs.length ≤ sizeLine ∧ (a == sysModules) = false ∧ ∃ vs, KV kvs vs ∧ h.DictOf (mixKind P w) a vs
  | .dT _ => False
  | .set S n => h.SetOf (intKind P w) a S n
  | .ins C dx fs => H dx = some (.own a) ∧ fs.length ≤ 1000 ∧ dx ≠ a ∧ h.get? a = some (PySem.W.instObj C dx) ∧
      ∃ mA, h.Ns1 dx mA ∧ (∀ f, RelO (fs.lookup f) (mA f)) ∧ PySem.Within mA (fs.map (·.1))
  | .own _ => ∃ o, h.get? a = some o
  | .xd fs => ∃ mA, h.Ns1 a mA ∧ ∀ f, RelO (fs.lookup f) (mA f)
  | .rng lo hi => ∃ t u v, h.get? a = some { cls := .type "range", data := .fields #[.int lo t, .int hi u, .int 1 v] }
  | .frz o u => h.get? a = some o ∧ ObjOk H h a u
  | .tbl ps => h.get? a = some { cls := .none, data := .fields ps }
  | .met f x => h.get? a = some (PySem.W.methodObj (.ref f) (.ref x))
  | .ext φ => φ h ∧ (∃ o, h.get? a = some o) ∧ ∀ h1 h2 : Heap, φ h1 → (∀ o, h1.get? a = some o → h2.get? a = some o) → φ h2
/-- the abstract heap is held -/
def HOk (H : Hp) (h : Heap) : Prop := ∀ a o, H a = some o → ObjOk P w H h a o
end

section
variable {P : Program} {w : World} {H H' : Hp} {h h' : Heap} {a : Addr} {o : HO}
theorem ObjOk.lt (x : ObjOk P w H h a o) : a < h.objs.size := by
  cases o with
  | lst xs => obtain ⟨_, _, _, _, e⟩ := x; exact Heap.lt_size e
  | tup xs => obtain ⟨_, _, _, p⟩ := x; exact p.lt
  | dK kvs => obtain ⟨_, _, _, _, o, _, _, e, _⟩ := x; exact Heap.lt_size e
  | dT kvs => exact (show False from x).elim
  | set S n => obtain ⟨o, _, _, _, e, _⟩ := x; exact Heap.lt_size e
  | ins C dx fs => obtain ⟨_, _, _, e, _⟩ := x; exact Heap.lt_size e
  | own y => obtain ⟨_, e⟩ := x; exact Heap.lt_size e
  | xd fs => obtain ⟨_, ⟨_, _, _, e, _⟩, _⟩ := x; exact Heap.lt_size e
  | rng lo hi => obtain ⟨_, _, _, e⟩ := x; exact Heap.lt_size e
  | frz ob u => obtain ⟨e, _⟩ := x; exact Heap.lt_size e
  | tbl ps => exact Heap.lt_size (show h.get? a = some _ from x)
  | met f y => exact Heap.lt_size (show h.get? a = some _ from x)
  | ext φ => obtain ⟨_, ⟨_, e⟩, _⟩ := x; exact Heap.lt_size e
/-- what an object's description leans on: its own object, its own dict, the tuples -/
theorem ObjOk.stay (x : ObjOk P w H h a o) (k : ∀ b u, (b = a ∨ H b = some (.own a)) → h.get? b = some u → h'.get? b = some u)
    (ho : ∀ b, H b = some (.own a) → H' b = some (.own a)) (ht : ∀ b xs, H b = some (.tup xs) → H' b = some (.tup xs)) : ObjOk P w H' h' a o := by
  induction o with
  | lst xs => obtain ⟨z, its, n, r, e⟩ := x; exact ⟨z, its, n, r, k _ _ (.inl rfl) e⟩
  | tup xs => obtain ⟨z, its, r, ob, e, c⟩ := x; exact ⟨z, its, r, ob, k _ _ (.inl rfl) e, c⟩
  | dK kvs => obtain ⟨z, y, vs, r, ob, es, ep, e, c⟩ := x; exact ⟨z, y, vs, r, ob, es, ep, k _ _ (.inl rfl) e, c⟩
  | dT kvs => exact (show False from x).elim
  | set S n => obtain ⟨ob, es, ep, t, e, c⟩ := x; exact ⟨ob, es, ep, t, k _ _ (.inl rfl) e, c⟩
  | ins C dx fs =>
    obtain ⟨d, z, ne, e, mA, ⟨od, es, ep, e2, c⟩, r⟩ := x
    exact ⟨ho _ d, z, ne, k _ _ (.inl rfl) e, mA, ⟨od, es, ep, k _ _ (.inr d) e2, c⟩, r⟩
  | own y => obtain ⟨ob, e⟩ := x; exact ⟨ob, k _ _ (.inl rfl) e⟩
  | xd fs => obtain ⟨mA, ⟨od, es, ep, e, c⟩, r⟩ := x; exact ⟨mA, ⟨od, es, ep, k _ _ (.inl rfl) e, c⟩, r⟩
  | rng lo hi => obtain ⟨t, u, v, e⟩ := x; exact ⟨t, u, v, k _ _ (.inl rfl) e⟩
  | frz ob u ih => obtain ⟨e, q⟩ := x; exact ⟨k _ _ (.inl rfl) e, ih q⟩
  | tbl ps =>
    have e : h.get? a = some { cls := .none, data := .fields ps } := x
    show h'.get? a = some { cls := .none, data := .fields ps }
    exact k a _ (.inl rfl) e
  | met f y =>
    have e : h.get? a = some (PySem.W.methodObj (.ref f) (.ref y)) := x
    show h'.get? a = some (PySem.W.methodObj (.ref f) (.ref y))
    exact k a _ (.inl rfl) e
  | ext φ => obtain ⟨p, ⟨o, e⟩, st⟩ := x; exact ⟨st _ _ p fun o q => k _ _ (.inl rfl) q, ⟨o, k _ _ (.inl rfl) e⟩, st⟩
theorem HOk.lt (x : HOk P w H h) (e : H a = some o) : a < h.objs.size := (x a o e).lt
theorem HOk.fresh (x : HOk P w H h) (e : h.objs.size ≤ a) : H a = none := by
  cases q : H a with
  | none => rfl
  | some u => exact absurd (Nat.lt_of_lt_of_le (x.lt q) e) (Nat.lt_irrefl _)
/-- every object of the heap is kept -/
theorem HOk.kept (x : HOk P w H h) (k : ∀ b u, h.get? b = some u → h'.get? b = some u) : HOk P w H h' := fun a o e =>
  (x a o e).stay (fun b u _ q => k b u q) (fun _ q => q) fun _ _ q => q
/-- a new object is laid and tracked -/
theorem HOk.laid (x : HOk P w H h) (k : ∀ b u, h.get? b = some u → h'.get? b = some u) (hp : h.objs.size ≤ a) (new : ObjOk P w (upd H a o) h' a o) : HOk P w (upd H a o) h' := fun b u e => by
  have hn := x.fresh hp
  by_cases hb : b = a
  · subst hb; rw [upd_same] at e; cases e; exact new
  · rw [upd_ne hb] at e
    exact (x b u e).stay (fun c v _ q => k c v q) (fun c q => by rw [upd_ne (ne_of_none q hn)]; exact q) fun c xs q => by rw [upd_ne (ne_of_none q hn)]; exact q
end

/-- what may be read as u: it is u, or a known u -/
def Rd (H : Hp) (a : Addr) (u : HO) : Prop := H a = some u ∨ ∃ o, H a = some (.frz o u)
theorem Rd.ok {P : Program} {w : World} {H : Hp} {h : Heap} {a : Addr} {u : HO} (r : Rd H a u) (x : HOk P w H h) : ObjOk P w H h a u := by
  rcases r with r | ⟨o, r⟩
  · exact x a u r
  · obtain ⟨_, q⟩ := x a _ r
    exact q
/-- what may be written -/
def Mut : Option HO → Prop
  | some (.lst _) => True
  | some (.dK _) => True
  | some (.dT _) => True
  | some (.set _ _) => True
  | some (.ins _ _ _) => True
  | some (.ext _) => True
  | _ => False
section
variable {P : Program} {w : World} {H : Hp} {h h' : Heap} {x e : Addr} {o' : HO}
/-- the object at e is changed: x itself, or the dict of the instance x -/
theorem HOk.write (ok : HOk P w H h) (mu : Mut (H x)) (he : e = x ∨ H e = some (.own x)) (k : ∀ b u, b ≠ e → h.get? b = some u → h'.get? b = some u) (heo : ∃ u, h'.get? e = some u)
    (new : ObjOk P w (upd H x o') h' x o') : HOk P w (upd H x o') h' := fun b u q => by
  have nown : ∀ c y, H c = some (.own y) → c ≠ x := fun c y r z => by subst z; rw [r] at mu; exact mu
  have ntup : ∀ c xs, H c = some (.tup xs) → c ≠ x := fun c xs r z => by subst z; rw [r] at mu; exact mu
  by_cases hb : b = x
  · subst hb; rw [upd_same] at q; cases q; exact new
  · rw [upd_ne hb] at q
    by_cases hbe : b = e
    · have q' : H b = some (.own x) := by
        rcases he with z | z
        · exact absurd (hbe.trans z) hb
        · rw [hbe]; exact z
      rw [q] at q'; cases q'
      obtain ⟨v, hv⟩ := heo
      exact ⟨v, by rw [hbe]; exact hv⟩
    · refine (ok b u q).stay (fun c v hc r => k c v ?_ r) (fun c r => by rw [upd_ne (nown c b r)]; exact r) fun c xs r => by rw [upd_ne (ntup c xs r)]; exact r
      rcases hc with rfl | hc
      · exact hbe
      · rintro rfl
        rcases he with z | z
        · exact nown c b hc z
        · rw [hc] at z; cases z; exact hb rfl
end

/-! ### kept unless tracked; of the frames at fs (the callers') the slots may change (an exception that passes writes there); of the records at ex (iterators) nothing is said -/
structure Un (fs ex : List Addr) (H H' : Hp) (h h' : Heap) : Prop where
  keep : ∀ b o, h.get? b = some o → H b = none → b ∉ fs → b ∉ ex → h'.get? b = some o
  slot : ∀ b o, h.get? b = some o → H b = none → b ∈ fs → b ∉ ex → ∃ sl, h'.get? b = some { o with slots := sl }
  free : ∀ b o, h.get? b = some o → H b = none → b ∉ ex → H' b = none
  there : ∀ b o, h.get? b = some o → b ∉ ex → ∃ o', h'.get? b = some o'
  tups : ∀ b xs, H b = some (.tup xs) → H' b = some (.tup xs)
  frzs : ∀ b o u, H b = some (.frz o u) → H' b = some (.frz o u)
  tbls : ∀ b ps, H b = some (.tbl ps) → ∃ more, H' b = some (.tbl (ps ++ more))
section
variable {fs fs' ex ex' : List Addr} {H H1 H2 : Hp} {h h1 h2 h' : Heap} {a x e : Addr} {o : HO}
theorem Un.any (u : Un fs ex H H1 h h1) {b : Addr} {ob : Obj} (q : h.get? b = some ob) (n : H b = none) (hx : b ∉ ex) : ∃ sl, h1.get? b = some { ob with slots := sl } := by
  by_cases hb : b ∈ fs
  · exact u.slot b ob q n hb hx
  · exact ⟨ob.slots, u.keep b ob q n hb hx⟩
theorem Un.kept (k : ∀ b u, h.get? b = some u → h'.get? b = some u) : Un fs ex H H h h' :=
  ⟨fun b ob q _ _ _ => k b ob q, fun b ob q _ _ _ => ⟨ob.slots, k b ob q⟩, fun _ _ _ n _ => n, fun b ob q _ => ⟨ob, k b ob q⟩, fun _ _ q => q, fun _ _ _ q => q, fun _ ps q => ⟨#[], by rw [q]; simp⟩⟩
theorem Un.refl : Un fs ex H H h h := Un.kept fun _ _ q => q
theorem Un.laid (k : ∀ b u, h.get? b = some u → h'.get? b = some u) (hp : h.objs.size ≤ a) (hn : H a = none) : Un fs ex H (upd H a o) h h' where
  keep := fun b u q _ _ _ => k b u q
  slot := fun b u q _ _ _ => ⟨u.slots, k b u q⟩
  free := fun b u q n _ => by rw [upd_ne (Nat.ne_of_lt (Nat.lt_of_lt_of_le (Heap.lt_size q) hp))]; exact n
  there := fun b u q _ => ⟨u, k b u q⟩
  tups := fun b xs q => by rw [upd_ne (ne_of_none q hn)]; exact q
  frzs := fun b u xs q => by rw [upd_ne (ne_of_none q hn)]; exact q
  tbls := fun b ps q => ⟨#[], by rw [upd_ne (ne_of_none q hn), q]; simp⟩
theorem Un.write (mu : Mut (H x)) (he : e = x ∨ H e = some (.own x)) (k : ∀ b u, b ≠ e → h.get? b = some u → h'.get? b = some u) (heo : ∃ u, h'.get? e = some u) : Un fs ex H (upd H x o) h h' := by
  have hx : ∀ b, H b = none → b ≠ x := fun b n z => by subst z; rw [n] at mu; exact mu
  have hb : ∀ b, H b = none → b ≠ e := fun b n z => by
    subst z
    rcases he with r | r
    · exact hx b n r
    · rw [n] at r; cases r
  have hm : ∀ b u, H b = some u → ¬ Mut (some u) → b ≠ x := fun b u q nm z => by subst z; rw [q] at mu; exact nm mu
  refine ⟨fun b u q n _ _ => k b u (hb b n) q, fun b u q n _ _ => ⟨u.slots, k b u (hb b n) q⟩, fun b u q n _ => by rw [upd_ne (hx b n)]; exact n, fun b u q _ => ?_,
    fun b xs q => by rw [upd_ne (hm b _ q fun z => z)]; exact q, fun b u xs q => by rw [upd_ne (hm b _ q fun z => z)]; exact q, fun b ps q => ⟨#[], by rw [upd_ne (hm b _ q fun z => z), q]; simp⟩⟩
  by_cases hbe : b = e
  · subst hbe; exact heo
  · exact ⟨u, k b u hbe q⟩
end

/-! ### the heap without what is tracked -/
def trk (h : Heap) (H : Hp) : List Addr := (List.range h.objs.size).filter fun a => (H a).isSome
def hidT (h : Heap) (H : Hp) : Heap := PySem.W.hideAll h (trk h H)
theorem hidT_size (h : Heap) (H : Hp) : (hidT h H).objs.size = h.objs.size := PySem.W.hideAll_size _ _
theorem hidT_get {h : Heap} {H : Hp} {b : Addr} {o : Obj} (e : h.get? b = some o) (n : H b = none) : (hidT h H).get? b = some o :=
  PySem.W.hideAll_get _ e fun hm => by
    have q : (H b).isSome = true := (List.mem_filter.mp hm).2
    rw [n] at q; simp at q
theorem of_hidT {h : Heap} {H : Hp} {b : Addr} {o : Obj} (e : (hidT h H).get? b = some o) : h.get? b = some o ∧ H b = none := by
  have e' : h.get? b = some o := PySem.W.of_hideAll (trk h H) e
  refine ⟨e', ?_⟩
  cases q : H b with
  | none => rfl
  | some x =>
    have hm : b ∈ trk h H := List.mem_filter.mpr ⟨List.mem_range.mpr (Heap.lt_size e'), by simp [q]⟩
    have z : (hidT h H).get? b = none := PySem.W.hideAll_none (trk h H) hm
    rw [z] at e; cases e

/-! ### OpenK's ledger, filled with every new object but one -/
def allNews (g h : Heap) (L : Addr) : List (Addr × Obj) := (List.range h.objs.size).filterMap fun a => if a = L ∨ (g.get? a).isSome = true then none else (h.get? a).map fun o => (a, o)
def rest (g h : Heap) (L d : Addr) : List (Addr × Obj) := (allNews g h L).filter fun p => decide (p.1 ≠ d)
end L2

namespace L2
open PySem PySem.Spec PyProof.Rows

/-- the module's facts, over the base: the heap at the law's entry without what is tracked there -/
structure Mod (K : PySem.W.Frag) (mg : Str → Option Value) (base : Heap) : Prop where
  kin : K.In base
  glob : base.Ns mainGlobals mg
  blt : ∃ mb, base.Ns builtinsNs mb ∧ ∀ x : Str, x ≠ "__name__" → mb x = bootBuiltins x
  nolimit : base.NoLimit

/-- the context: a def's body (or a comprehension's block) running. base: fixed through the whole law; s₀, H₀: the entry; outer: the frames whose slots others may change (a def's callers); stack: all frames that run;
   ex: iterators that were made ahead of the entry and are walked here (a comprehension's); fn: the names whose cells were made at the entry (a def: all; a comprehension's block: its own); calm: not within an except suite; pn: pins that every state bears; xe: what is wanted of an exception that leaves the code -/
structure Cx where
  prog : Program
  w : World
  K : PySem.W.Frag
  mg : Str → Option Value
  base : Heap
  A : Around
  N : List Str
  s₀ : Shared
  H₀ : Hp
  env : Env
  outer : List Env
  stack : List Env
  ex : List Addr
  fn : Str → Bool
  calm : Bool
  pn : List (Addr × Obj)
  xe : Value → Shared → Prop
/-- the callers' frames -/
def frs (l : List Env) : List Addr := l.filterMap (·.frame)
abbrev Cx.fs (X : Cx) : List Addr := frs X.outer

def Vis (sc : Scope) (x : Str) : Prop := sc.names.lookup x = some .local ∨ sc.names.lookup x = some .cell ∨ sc.names.lookup x = some .free
def Loc (sc : Scope) (x : Str) : Prop := sc.names.lookup x = some .local ∨ sc.names.lookup x = some .cell
def Look (env : Env) (h : Heap) (m : Str → Option Value) (x : Str) (u : Value) : Prop :=
  (env.kindOf x = some .local ∧ m x = some u) ∨ ((env.kindOf x = some .cell ∨ env.kindOf x = some .free) ∧ ∃ c, env.cells.lookup x = some c ∧ h.IsCell c (some u))

structure Cx.Ok (X : Cx) : Prop where
  mod : Mod X.K X.mg X.base
  kind : X.env.scope.kind = .function
  glob : X.env.globals = mainGlobals
  blt : X.env.builtins = builtinsNs
  above : X.s₀.heap.objs.size ≤ X.env.locals
  inj : ∀ x y c, X.env.cells.lookup x = some c → X.env.cells.lookup y = some c → x = y
  has : ∀ x, (X.env.kindOf x = some .cell ∨ X.env.kindOf x = some .free) → ∃ c, X.env.cells.lookup x = some c
  cab : ∀ x c, X.fn x = true → X.env.cells.lookup x = some c → X.s₀.heap.objs.size ≤ c
  hd : X.calm = true → X.A.handled = none
  frames : X.A.frames = some X.stack
  stk : X.stack = X.outer ∨ (X.stack = X.env :: X.outer ∧ X.env.frame = some X.env.locals)
  exf : ∀ b ∈ X.ex, b ≠ X.env.locals ∧ ∀ x c, X.env.cells.lookup x = some c → c ≠ b
  bs : ∀ b o, X.base.get? b = some o → X.s₀.heap.get? b = some o ∧ X.H₀ b = none
  bsz : X.base.objs.size ≤ X.s₀.heap.objs.size
  noex : ∀ b o, X.base.get? b = some o → b ∉ X.ex
  exfs : ∀ b ∈ X.ex, b ∉ X.fs
  funs : X.s₀.heap.FunFrames X.base X.outer
  frf : ∀ b ∈ X.fs, X.H₀ b = none

structure Inv (X : Cx) (pins : List (Addr × Obj)) (σ : List (Option V)) (H : Hp) (s : Shared) : Prop where
  ok : X.Ok
  os : s.os = X.s₀.os
  bare : AllBare s.gens
  base : Un X.fs X.ex X.H₀ H X.s₀.heap s.heap
  loc : ∃ m, s.heap.Ns X.env.locals m ∧ ∀ (i : Nat) (x : Str) (v : V), X.N[i]? = some x → σ[i]? = some (some v) → Vis X.env.scope x → ∃ u, RelV v u ∧ Look X.env s.heap m x u
  cell : ∀ x c, X.env.cells.lookup x = some c → ∃ v, s.heap.IsCell c v
  free : H X.env.locals = none
  freeC : ∀ x c, X.env.cells.lookup x = some c → H c = none
  pin : ∀ p ∈ X.pn ++ pins, s.heap.get? p.1 = some p.2 ∧ H p.1 = none ∧ p.1 ≠ X.env.locals ∧ p.1 ∉ X.fs ∧ ∀ v, p.2.data ≠ .cell v
  hok : HOk X.prog X.w H s.heap
  len : σ.length = X.N.length

section
variable {X : Cx} {pins : List (Addr × Obj)} {σ : List (Option V)} {H H' : Hp} {s : Shared} {h' : Heap}

theorem Cx.Ok.nofr (ok : X.Ok) {b : Addr} {o : Obj} (e : X.base.get? b = some o) : b ∉ X.fs := fun hb => by
  have := (ok.funs.mem hb).1
  rw [e] at this; cases this
theorem Inv.bs (I : Inv X pins σ H s) : ∀ b o, X.base.get? b = some o → s.heap.get? b = some o ∧ H b = none := fun b o e =>
  ⟨I.base.keep b o (I.ok.bs b o e).1 (I.ok.bs b o e).2 (I.ok.nofr e) (I.ok.noex b o e), I.base.free b o (I.ok.bs b o e).1 (I.ok.bs b o e).2 (I.ok.noex b o e)⟩
theorem Inv.bk (I : Inv X pins σ H s) : ∀ b o, X.base.get? b = some o → s.heap.get? b = some o := fun b o e => (I.bs b o e).1
theorem Inv.mod (I : Inv X pins σ H s) : Mod X.K X.mg X.base := I.ok.mod
theorem Inv.kIn (I : Inv X pins σ H s) : X.K.In s.heap := I.ok.mod.kin.keeps I.bk
theorem Inv.lt (I : Inv X pins σ H s) : X.env.locals < s.heap.objs.size := let ⟨_, hn, _⟩ := I.loc; hn.lt
theorem Inv.sz (I : Inv X pins σ H s) : X.s₀.heap.objs.size ≤ s.heap.objs.size := Nat.le_trans I.ok.above (Nat.le_of_lt I.lt)
theorem Inv.nofs (I : Inv X pins σ H s) {a : Addr} (h : s.heap.objs.size ≤ a) : a ∉ X.fs := fun hb => by
  obtain ⟨_, o, ho, _⟩ := I.ok.funs.mem hb
  exact absurd (Nat.lt_of_lt_of_le (Heap.lt_size ho) (Nat.le_trans I.sz h)) (Nat.lt_irrefl _)
theorem Inv.cne (I : Inv X pins σ H s) : ∀ x c, X.env.cells.lookup x = some c → c ≠ X.env.locals := fun x c e z => by
  obtain ⟨v, o, ho, hd⟩ := I.cell x c e
  obtain ⟨m, ⟨o', es, ep, ho', hd', _⟩, _⟩ := I.loc
  rw [z, ho'] at ho; cases ho; rw [hd'] at hd; cases hd
theorem Inv.funs (I : Inv X pins σ H s) : s.heap.FunFrames X.base X.outer := by
  have all : ∀ (l : List Env), (∀ b ∈ frs l, b ∈ X.fs) → X.s₀.heap.FunFrames X.base l → s.heap.FunFrames X.base l := by
    intro l
    induction l with
    | nil => intro _ _; trivial
    | cons env r ih =>
      intro hs hl
      obtain ⟨hk, ⟨L, o, hf, hn, ho, hd⟩, hr⟩ := hl
      have hL : L ∈ X.fs := hs L (by unfold frs; rw [List.filterMap_cons, hf]; exact List.mem_cons_self)
      obtain ⟨sl, e⟩ := I.base.slot L o ho (I.ok.frf L hL) hL fun z => I.ok.exfs L z hL
      exact ⟨hk, ⟨L, _, hf, hn, e, hd⟩, ih (fun b hb => hs b (by unfold frs; rw [List.filterMap_cons, hf]; exact List.mem_cons_of_mem _ hb)) hr⟩
  exact all X.outer (fun _ hb => hb) I.ok.funs

/-- the frames that run, for a call -/
theorem Inv.stack (I : Inv X pins σ H s) : s.heap.FunFrames X.base X.stack := by
  rcases I.ok.stk with e | ⟨e, hf⟩
  · rw [e]; exact I.funs
  · rw [e]
    obtain ⟨m, hn, _⟩ := I.loc
    refine .cons (by rw [I.ok.kind]; decide) hf hn ?_ I.funs
    exact Heap.get?_none_of_le (Nat.le_trans I.ok.bsz I.ok.above)
theorem Inv.stkSub (I : Inv X pins σ H s) : ∀ b ∈ frs X.stack, b ∈ X.env.locals :: X.fs := fun b hb => by
  rcases I.ok.stk with e | ⟨e, hf⟩
  · rw [e] at hb; exact List.mem_cons_of_mem _ hb
  · rw [e] at hb
    unfold frs at hb
    rw [List.filterMap_cons, hf] at hb
    exact hb
theorem Inv.stkFree (I : Inv X pins σ H s) : ∀ b ∈ frs X.stack, H b = none := fun b hb => by
  rcases List.mem_cons.mp (I.stkSub b hb) with e | hb
  · rw [e]; exact I.free
  · obtain ⟨_, o, ho, _⟩ := I.ok.funs.mem hb
    exact I.base.free b o ho (I.ok.frf b hb) fun z => I.ok.exfs b z hb

/-- THE STEP: the untracked objects but the frame and the records at ch are kept (the callers' frames up to slots), the frame's map is kept, the new abstract heap is held -/
theorem Inv.step {g' : Array GenState} {t' : Nat} {d' : Drawn} {ch : List Addr} (I : Inv X pins σ H s)
    (hch : ∀ b ∈ ch, (b ∈ X.ex ∨ X.s₀.heap.objs.size ≤ b) ∧ b ≠ X.env.locals ∧ (∀ x c, X.env.cells.lookup x = some c → c ≠ b) ∧ ∀ p ∈ X.pn ++ pins, p.1 ≠ b)
    (keep : ∀ b o, b ≠ X.env.locals → b ∉ X.fs → b ∉ ch → s.heap.get? b = some o → H b = none → h'.get? b = some o)
    (slot : ∀ b o, b ≠ X.env.locals → b ∈ X.fs → b ∉ ch → s.heap.get? b = some o → H b = none → ∃ sl, h'.get? b = some { o with slots := sl }) (free : ∀ b o, b ∉ ch → s.heap.get? b = some o → H b = none → H' b = none)
    (there : ∀ b o, b ∉ ch → s.heap.get? b = some o → ∃ o', h'.get? b = some o')
    (tups : ∀ b xs, H b = some (.tup xs) → H' b = some (.tup xs)) (frzs : ∀ b o u, H b = some (.frz o u) → H' b = some (.frz o u)) (tbls : ∀ b ps, H b = some (.tbl ps) → ∃ more, H' b = some (.tbl (ps ++ more)))
    (ns : ∀ m, s.heap.Ns X.env.locals m → h'.Ns X.env.locals m) (hok : HOk X.prog X.w H' h') (hg : AllBare g') :
    Inv X pins σ H' { s with heap := h', gens := g', drawn := d', toks := t' } := by
  have neL : ∀ b o, X.s₀.heap.get? b = some o → b ≠ X.env.locals := fun b o e => Nat.ne_of_lt (Nat.lt_of_lt_of_le (Heap.lt_size e) I.ok.above)
  have neC : ∀ b o, X.s₀.heap.get? b = some o → b ∉ X.ex → b ∉ ch := fun b o e hx hb => by
    rcases (hch b hb).1 with z | z
    · exact hx z
    · exact absurd (Nat.lt_of_lt_of_le (Heap.lt_size e) z) (Nat.lt_irrefl _)
  have cellK : ∀ x c, X.env.cells.lookup x = some c → ∀ v, s.heap.IsCell c v → h'.IsCell c v := fun x c e v ⟨o, ho, hd⟩ => by
    have nch : c ∉ ch := fun z => (hch c z).2.2.1 x c e rfl
    by_cases hc : c ∈ X.fs
    · obtain ⟨sl, q⟩ := slot c o (I.cne x c e) hc nch ho (I.freeC x c e)
      exact ⟨_, q, hd⟩
    · exact ⟨o, keep c o (I.cne x c e) hc nch ho (I.freeC x c e), hd⟩
  refine ⟨I.ok, I.os, hg, ⟨fun b o e n hb hx => ?_, fun b o e n hb hx => ?_, fun b o e n hx => ?_, fun b o e hx => ?_, fun b xs e => tups b xs (I.base.tups b xs e), fun b o xs e => frzs b o xs (I.base.frzs b o xs e), fun b ps e => ?_⟩, ?_, fun x c e => ?_, ?_, fun x c e => ?_, fun p hp => ?_, hok, I.len⟩
  · exact keep b o (neL b o e) hb (neC b o e hx) (I.base.keep b o e n hb hx) (I.base.free b o e n hx)
  · obtain ⟨sl, e1⟩ := I.base.slot b o e n hb hx
    obtain ⟨sl', e2⟩ := slot b _ (neL b o e) hb (neC b o e hx) e1 (I.base.free b o e n hx)
    exact ⟨sl', e2⟩
  · obtain ⟨o', e1⟩ := I.base.there b o e hx
    exact free b o' (neC b o e hx) e1 (I.base.free b o e n hx)
  · obtain ⟨o', e1⟩ := I.base.there b o e hx
    exact there b o' (neC b o e hx) e1
  · obtain ⟨m1, e1⟩ := I.base.tbls b ps e
    obtain ⟨m2, e2⟩ := tbls b _ e1
    exact ⟨m1 ++ m2, by rw [e2, Array.append_assoc]⟩
  · obtain ⟨m, hn, hl⟩ := I.loc
    refine ⟨m, ns m hn, fun i x v e1 e2 e3 => ?_⟩
    obtain ⟨u, r, l⟩ := hl i x v e1 e2 e3
    refine ⟨u, r, ?_⟩
    rcases l with l | ⟨k, c, e, z⟩
    · exact .inl l
    · exact .inr ⟨k, c, e, cellK x c e _ z⟩
  · obtain ⟨v, z⟩ := I.cell x c e
    exact ⟨v, cellK x c e v z⟩
  · obtain ⟨m, ⟨o, _, _, ho, _⟩, _⟩ := I.loc
    exact free _ o (fun z => (hch _ z).2.1 rfl) ho I.free
  · obtain ⟨v, o, ho, hd⟩ := I.cell x c e
    exact free c o (fun z => (hch c z).2.2.1 x c e rfl) ho (I.freeC x c e)
  · obtain ⟨e, n, ne, nf, d⟩ := I.pin p hp
    have nch : p.1 ∉ ch := fun z => (hch p.1 z).2.2.2 p hp rfl
    exact ⟨keep p.1 p.2 ne nf nch e n, free p.1 p.2 nch e n, ne, nf, d⟩
/-- .. where the frame's own object is kept too -/
theorem Inv.un {t' : Nat} (I : Inv X pins σ H s) (u : Un X.fs [] H H' s.heap h') (hok : HOk X.prog X.w H' h') : Inv X pins σ H' { s with heap := h', toks := t' } := by
  obtain ⟨m, ⟨o, es, ep, ho, r⟩, _⟩ := id I.loc
  obtain ⟨sl, hL⟩ := u.any ho I.free (by simp)
  exact I.step (g' := s.gens) (d' := s.drawn) (ch := []) (fun _ z => nomatch z) (fun b o _ hb _ e n => u.keep b o e n hb (by simp)) (fun b o _ hb _ e n => u.slot b o e n hb (by simp)) (fun b o _ e n => u.free b o e n (by simp)) (fun b o _ e => u.there b o e (by simp)) u.tups u.frzs u.tbls (fun m' hm => by
    obtain ⟨o', es', ep', ho', r'⟩ := hm
    rw [ho] at ho'; cases ho'
    exact ⟨_, es', ep', hL, r'⟩) hok I.bare
/-- behind a call (or a comprehension's block): the slots of this frame may have changed too, the records at ch may have turned -/
theorem Inv.call {g' : Array GenState} {t' : Nat} {d' : Drawn} {ch : List Addr} (I : Inv X pins σ H s) (u : Un (frs X.stack) ch H H' s.heap h') (hok : HOk X.prog X.w H' h') (hg : AllBare g')
    (hch : ∀ b ∈ ch, (b ∈ X.ex ∨ X.s₀.heap.objs.size ≤ b) ∧ b ≠ X.env.locals ∧ (∀ x c, X.env.cells.lookup x = some c → c ≠ b) ∧ ∀ p ∈ X.pn ++ pins, p.1 ≠ b) :
    Inv X pins σ H' { s with heap := h', gens := g', drawn := d', toks := t' } := by
  obtain ⟨m, ⟨o, es, ep, ho, r⟩, _⟩ := id I.loc
  obtain ⟨sl, hL⟩ := u.any ho I.free fun z => (hch _ z).2.1 rfl
  exact I.step (ch := ch) hch (fun b o hL hb hc e n => u.keep b o e n (fun z => (List.mem_cons.mp (I.stkSub b z)).elim hL hb) hc) (fun b o _ _ hc e n => u.any e n hc) (fun b o hc e n => u.free b o e n hc) (fun b o hc e => u.there b o e hc) u.tups u.frzs u.tbls (fun m' hm => by
    obtain ⟨o', es', ep', ho', r'⟩ := hm
    rw [ho] at ho'; cases ho'
    exact ⟨_, es', ep', hL, r'⟩) hok hg
/-- an untracked record of ours (an iterator) has turned -/
theorem Inv.turned {t' : Nat} {it : Addr} (I : Inv X pins σ H s) (k : ∀ b o, b ≠ it → s.heap.get? b = some o → h'.get? b = some o) (hn : H it = none) (hL : it ≠ X.env.locals)
    (h1 : it ∈ X.ex ∨ X.s₀.heap.objs.size ≤ it) (h2 : ∀ x c, X.env.cells.lookup x = some c → c ≠ it) (h3 : ∀ p ∈ X.pn ++ pins, p.1 ≠ it) : Inv X pins σ H { s with heap := h', toks := t' } := by
  have nit : ∀ b u, H b = some u → b ≠ it := fun b u e z => by rw [z, hn] at e; cases e
  refine I.step (g' := s.gens) (d' := s.drawn) (ch := [it]) (fun b hb => ?_) (fun b o _ _ hc e _ => k b o (fun z => hc (by simp [z])) e) (fun b o _ _ hc e _ => ⟨o.slots, k b o (fun z => hc (by simp [z])) e⟩) (fun _ _ _ _ n => n)
    (fun b o hc e => ⟨o, k b o (fun z => hc (by simp [z])) e⟩) (fun _ _ e => e) (fun _ _ _ e => e) (fun b ps e => ⟨#[], by rw [e]; simp⟩) (fun m hm => ?_) (fun b u e => ?_) I.bare
  · have e : b = it := by simpa using hb
    subst e
    exact ⟨h1, hL, h2, h3⟩
  · obtain ⟨o, es, ep, ho, r⟩ := hm
    exact ⟨o, es, ep, k _ o (Ne.symm hL) ho, r⟩
  · refine (I.hok b u e).stay (fun c v hc q => k c v ?_ q) (fun _ q => q) fun _ _ q => q
    rcases hc with z | z
    · rw [z]; exact nit b u e
    · exact nit c _ z
theorem Inv.tok (I : Inv X pins σ H s) (t : Nat) : Inv X pins σ H { s with toks := t } := I.un (h' := s.heap) (t' := t) Un.refl I.hok
/-- all objects kept -/
theorem Inv.kept {t' : Nat} (I : Inv X pins σ H s) (k : ∀ b u, s.heap.get? b = some u → h'.get? b = some u) : Inv X pins σ H { s with heap := h', toks := t' } := I.un (Un.kept k) (I.hok.kept k)
/-- a new object laid and tracked -/
theorem Inv.laid {a : Addr} {o : HO} {t' : Nat} (I : Inv X pins σ H s) (k : ∀ b u, s.heap.get? b = some u → h'.get? b = some u) (hp : s.heap.objs.size ≤ a) (new : ObjOk X.prog X.w (upd H a o) h' a o) :
    Inv X pins σ (upd H a o) { s with heap := h', toks := t' } := I.un (Un.laid k hp (I.hok.fresh hp)) (I.hok.laid k hp new)
/-- an object written -/
theorem Inv.write {x e : Addr} {o : HO} {t' : Nat} (I : Inv X pins σ H s) (mu : Mut (H x)) (he : e = x ∨ H e = some (.own x)) (k : ∀ b u, b ≠ e → s.heap.get? b = some u → h'.get? b = some u) (heo : ∃ u, h'.get? e = some u)
    (new : ObjOk X.prog X.w (upd H x o) h' x o) : Inv X pins σ (upd H x o) { s with heap := h', toks := t' } := I.un (Un.write mu he k heo) (I.hok.write mu he k heo new)
theorem Inv.pins_of {pins' : List (Addr × Obj)} (I : Inv X pins σ H s) (h : ∀ p ∈ pins', s.heap.get? p.1 = some p.2 ∧ H p.1 = none ∧ p.1 ≠ X.env.locals ∧ p.1 ∉ X.fs ∧ ∀ v, p.2.data ≠ .cell v) : Inv X pins' σ H s :=
  ⟨I.ok, I.os, I.bare, I.base, I.loc, I.cell, I.free, I.freeC, fun p hp => (List.mem_append.mp hp).elim (fun z => I.pin p (List.mem_append_left _ z)) (h p), I.hok, I.len⟩

theorem nodup_ix {N : List Str} (hN : N.Nodup) {i j : Nat} {x : Str} (a : N[i]? = some x) (b : N[j]? = some x) : i = j := by
  obtain ⟨h1, e1⟩ := List.getElem?_eq_some_iff.mp a
  obtain ⟨h2, e2⟩ := List.getElem?_eq_some_iff.mp b
  exact (List.getElem_inj hN).mp (e1.trans e2.symm)

/-- a name is stored; what changed -/
theorem store_ok2 {M : Model} {A : Around} {E : Value → Shared → Prop} {i : Nat} {x : Str} {v : V} {u : Value} {Q : Unit → Shared → Prop} (I : Inv X pins σ H s) (hN : X.N.Nodup) (hi : X.N[i]? = some x) (hx : Loc X.env.scope x) (r : RelV v u)
    (h : ∀ s', Inv X pins (σ.set i (some v)) H s' → (∃ a, Heap.SameBut a s.heap s'.heap ∧ (a = X.env.locals ∨ X.env.cells.lookup x = some a)) → Q () s') (hf : X.fn x = true ∨ X.env.scope.names.lookup x = some .local := by first | exact .inl rfl | exact .inr rfl | assumption) : wpAny M A (storeName X.env x u) Q E s := by
  obtain ⟨m, hn, hl⟩ := id I.loc
  have hcls : (X.env.scope.kind == .class || (X.env.scope.kind == .module && X.env.locals != X.env.globals)) = false := by rw [I.ok.kind]; rfl
  have hiσ : i < σ.length := by rw [I.len]; exact (List.getElem?_eq_some_iff.mp hi).1
  have cne := I.cne
  have tracked : ∀ {a : Addr} {h' : Heap}, (∃ o, s.heap.get? a = some o ∧ H a = none) → Heap.SameBut a s.heap h' → HOk X.prog X.w H h' := fun {a h'} ha hs b ob e => by
    obtain ⟨_, _, hfree⟩ := ha
    refine (I.hok b ob e).stay (fun c w' hc q => (hs.2 c ?_).trans q) (fun _ q => q) fun _ _ q => q
    rintro rfl
    rcases hc with rfl | hc
    · rw [hfree] at e; cases e
    · rw [hfree] at hc; cases hc
  rcases hx with hk | hk
  · refine wpAny_storeName_local hk hn (fun h' hn' hs => ?_) hcls
    obtain ⟨oL, _, _, hoL, _⟩ := id hn
    refine h _ ⟨I.ok, I.os, I.bare, ⟨fun b o e n hb hx => ?_, fun b o e n hb hx => ?_, I.base.free, fun b o e hx => ?_, I.base.tups, I.base.frzs, I.base.tbls⟩, ⟨_, hn', fun j y v' e1 e2 e3 => ?_⟩, fun y c e => ?_, I.free, I.freeC, fun p hp => ?_, tracked ⟨oL, hoL, I.free⟩ hs, by simpa using I.len⟩ ⟨_, hs, .inl rfl⟩
    · exact (hs.2 b (Nat.ne_of_lt (Nat.lt_of_lt_of_le (Heap.lt_size e) I.ok.above))).trans (I.base.keep b o e n hb hx)
    · obtain ⟨sl, e1⟩ := I.base.slot b o e n hb hx
      exact ⟨sl, (hs.2 b (Nat.ne_of_lt (Nat.lt_of_lt_of_le (Heap.lt_size e) I.ok.above))).trans e1⟩
    · obtain ⟨o', e1⟩ := I.base.there b o e hx
      exact ⟨o', (hs.2 b (Nat.ne_of_lt (Nat.lt_of_lt_of_le (Heap.lt_size e) I.ok.above))).trans e1⟩
    · by_cases hj : j = i
      · subst hj
        rw [hi] at e1; cases e1
        rw [List.getElem?_set_self hiσ] at e2
        cases e2
        exact ⟨u, r, .inl ⟨hk, by simp⟩⟩
      · rw [List.getElem?_set_ne (Ne.symm hj)] at e2
        obtain ⟨u', r', q⟩ := hl j y v' e1 e2 e3
        refine ⟨u', r', ?_⟩
        rcases q with ⟨k, e⟩ | ⟨k, c, e, z⟩
        · refine .inl ⟨k, ?_⟩
          have : y ≠ x := fun e => hj (nodup_ix hN e1 (e ▸ hi))
          simp [this, e]
        · exact .inr ⟨k, c, e, z.sameBut hs (cne y c e)⟩
    · obtain ⟨w', z⟩ := I.cell y c e
      exact ⟨w', z.sameBut hs (cne y c e)⟩
    · obtain ⟨e, n, ne, nf, d⟩ := I.pin p hp
      exact ⟨(hs.2 p.1 ne).trans e, n, ne, nf, d⟩
  · have hfn : X.fn x = true := by
      rcases hf with z | z
      · exact z
      · rw [z] at hk; cases hk
    obtain ⟨c, hc⟩ := I.ok.has x (.inl hk)
    obtain ⟨w', z⟩ := I.cell x c hc
    refine wpAny_storeName_cell I.ok.kind hk hc z (fun h' hc' hs => ?_)
    obtain ⟨oc, hoc, hocd⟩ := id z
    refine h { s with heap := h' } ⟨I.ok, I.os, I.bare, ⟨fun b o e n hb hx => ?_, fun b o e n hb hx => ?_, I.base.free, fun b o e hx => ?_, I.base.tups, I.base.frzs, I.base.tbls⟩, ⟨m, hn.sameBut hs (Ne.symm (cne x c hc)), fun j y v' e1 e2 e3 => ?_⟩, fun y c' e => ?_, I.free, I.freeC, fun p hp => ?_, tracked ⟨oc, hoc, I.freeC x c hc⟩ hs, by simpa using I.len⟩ ⟨c, hs, .inr hc⟩
    · exact (hs.2 b (Nat.ne_of_lt (Nat.lt_of_lt_of_le (Heap.lt_size e) (I.ok.cab x c hfn hc)))).trans (I.base.keep b o e n hb hx)
    · obtain ⟨sl, e1⟩ := I.base.slot b o e n hb hx
      exact ⟨sl, (hs.2 b (Nat.ne_of_lt (Nat.lt_of_lt_of_le (Heap.lt_size e) (I.ok.cab x c hfn hc)))).trans e1⟩
    · obtain ⟨o', e1⟩ := I.base.there b o e hx
      exact ⟨o', (hs.2 b (Nat.ne_of_lt (Nat.lt_of_lt_of_le (Heap.lt_size e) (I.ok.cab x c hfn hc)))).trans e1⟩
    · by_cases hj : j = i
      · subst hj
        rw [hi] at e1; cases e1
        rw [List.getElem?_set_self hiσ] at e2
        cases e2
        exact ⟨u, r, .inr ⟨.inl hk, c, hc, hc'⟩⟩
      · rw [List.getElem?_set_ne (Ne.symm hj)] at e2
        obtain ⟨u', r', q⟩ := hl j y v' e1 e2 e3
        refine ⟨u', r', ?_⟩
        rcases q with q | ⟨k, c', e, z'⟩
        · exact .inl q
        · refine .inr ⟨k, c', e, z'.sameBut hs ?_⟩
          rintro rfl
          exact hj (nodup_ix hN e1 (I.ok.inj _ _ _ e hc ▸ hi))
    · by_cases hcc : c' = c
      · subst hcc; exact ⟨_, hc'⟩
      · obtain ⟨w2, z2⟩ := I.cell y c' e
        exact ⟨w2, z2.sameBut hs hcc⟩
    · obtain ⟨e, n, ne, nf, d⟩ := I.pin p hp
      refine ⟨(hs.2 p.1 ?_).trans e, n, ne, nf, d⟩
      intro q
      rw [q, hoc] at e
      have q' : oc = p.2 := Option.some.inj e
      exact d w' (by rw [← q']; exact hocd)
theorem store_ok {M : Model} {A : Around} {E : Value → Shared → Prop} {i : Nat} {x : Str} {v : V} {u : Value} {Q : Unit → Shared → Prop} (I : Inv X pins σ H s) (hN : X.N.Nodup) (hi : X.N[i]? = some x) (hx : Loc X.env.scope x) (r : RelV v u)
    (h : ∀ s', Inv X pins (σ.set i (some v)) H s' → Q () s') (hf : X.fn x = true ∨ X.env.scope.names.lookup x = some .local := by first | exact .inl rfl | exact .inr rfl | assumption) : wpAny M A (storeName X.env x u) Q E s :=
  store_ok2 I hN hi hx r (fun s' I' _ => h s' I') hf
/-- behind a call or a block, the state as it is -/
theorem Inv.call' {s' : Shared} {ch : List Addr} (I : Inv X pins σ H s) (ho : s'.os = s.os) (u : Un (frs X.stack) ch H H' s.heap s'.heap) (hok : HOk X.prog X.w H' s'.heap) (hg : AllBare s'.gens)
    (hch : ∀ b ∈ ch, (b ∈ X.ex ∨ X.s₀.heap.objs.size ≤ b) ∧ b ≠ X.env.locals ∧ (∀ x c, X.env.cells.lookup x = some c → c ≠ b) ∧ ∀ p ∈ X.pn ++ pins, p.1 ≠ b) : Inv X pins σ H' s' := by
  obtain ⟨h', g', d', t', o'⟩ := s'
  have e : o' = s.os := ho
  subst e
  exact I.call (g' := g') (t' := t') (d' := d') u hok hg hch
end

/-! ### the judgements -/
/-- an exception: its class, its own dict's address (where it has one), the abstract heap behind it -/
abbrev XK := Value → Option Addr → Hp → Prop
abbrev St := List (Option V)
abbrev VK := V → Hp → Prop
/-- an expression's reading; a test's; an argument list's -/
abbrev TE := St → Hp → VK → Prop
abbrev TT := St → Hp → (Bool → Hp → Prop) → Prop
abbrev TA := St → Hp → (List V → Hp → Prop) → Prop
/-- what is wanted behind a statement -/
structure Ends where
  nx : St → Hp → Prop
  rt : VK
  bk : St → Hp → Prop := fun _ _ => False
  ct : St → Hp → Prop := fun _ _ => False
abbrev TS := Ends → St → Hp → Prop

def EP (X : Cx) (pins : List (Addr × Obj)) (σ : St) (Q : VK) (u : Value) (s' : Shared) : Prop := ∃ v H', Inv X pins σ H' s' ∧ RelV v u ∧ Q v H'
def TP (X : Cx) (pins : List (Addr × Obj)) (σ : St) (Q : Bool → Hp → Prop) (b : Bool) (s' : Shared) : Prop := ∃ H', Inv X pins σ H' s' ∧ Q b H'
def AP (X : Cx) (pins : List (Addr × Obj)) (σ : St) (Q : List V → Hp → Prop) (us : List Value) (s' : Shared) : Prop := ∃ vs H', Inv X pins σ H' s' ∧ Vals vs us ∧ Q vs H'
def SP (X : Cx) (pins : List (Addr × Obj)) (D : Ends) (f : Flow) (s' : Shared) : Prop :=
  match f with
  | .next => ∃ σ' H', Inv X pins σ' H' s' ∧ D.nx σ' H'
  | .brk => ∃ σ' H', Inv X pins σ' H' s' ∧ D.bk σ' H'
  | .cont => ∃ σ' H', Inv X pins σ' H' s' ∧ D.ct σ' H'
  | .ret u => ∃ v σ' H', Inv X pins σ' H' s' ∧ RelV v u ∧ D.rt v H'

def PE (X : Cx) (e : Expr) (t : TE) : Prop :=
  ∀ (pins : List (Addr × Obj)) (s : Shared) (σ : St) (H : Hp) (Q : VK), Inv X pins σ H s → t σ H Q → wpAny (model X.prog X.w) X.A (eval e X.env) (EP X pins σ Q) X.xe s
def PT (X : Cx) (e : Expr) (t : TT) : Prop :=
  ∀ (pins : List (Addr × Obj)) (s : Shared) (σ : St) (H : Hp) (Q : Bool → Hp → Prop), Inv X pins σ H s → t σ H Q → wpAny (model X.prog X.w) X.A (isTrue e X.env (eval e X.env)) (TP X pins σ Q) X.xe s
/-- a test whatever its 'whole' is (and, or) -/
def PW (X : Cx) (e : Expr) (t : TT) : Prop :=
  ∀ (whole : Sem Value) (pins : List (Addr × Obj)) (s : Shared) (σ : St) (H : Hp) (Q : Bool → Hp → Prop), Inv X pins σ H s → t σ H Q → wpAny (model X.prog X.w) X.A (isTrue e X.env whole) (TP X pins σ Q) X.xe s
theorem PW.pt {X : Cx} {e : Expr} {t : TT} (h : PW X e t) : PT X e t := h _
/-- an argument list (no star), from the left -/
def PA (X : Cx) (es : List Expr) (t : TA) : Prop :=
  ∀ (pos : Pos) (pins : List (Addr × Obj)) (s : Shared) (σ : St) (H : Hp) (Q : List V → Hp → Prop), Inv X pins σ H s → t σ H Q → wpAny (model X.prog X.w) X.A (spliced (backTo pos (starEach es X.env))) (AP X pins σ Q) X.xe s
def PS (X : Cx) (st : Stmt) (t : TS) : Prop :=
  ∀ (pins : List (Addr × Obj)) (s : Shared) (σ : St) (H : Hp) (D : Ends), Inv X pins σ H s → t D σ H → wpAny (model X.prog X.w) X.A (exec st X.env) (SP X pins D) X.xe s
def PSs (X : Cx) (st : List Stmt) (t : TS) : Prop :=
  ∀ (pins : List (Addr × Obj)) (s : Shared) (σ : St) (H : Hp) (D : Ends), Inv X pins σ H s → t D σ H → wpAny (model X.prog X.w) X.A (execs st X.env) (SP X pins D) X.xe s
/-- weaken the end -/
theorem thn {α : Type} {t : Sem α} {Q Q' : α → Shared → Prop} {M : Model} {A : Around} {E : Value → Shared → Prop} {s : Shared} (h : wpAny M A t Q E s) (hQ : ∀ a s, Q a s → Q' a s) : wpAny M A t Q' E s := wpAny_mono h hQ fun _ _ x => x
end L2

namespace L2
open PySem PySem.Spec PyProof.Rows
section
variable {X : Cx}

/-! ### names and constants -/
def tVar (i : Nat) : TE := fun σ H Q => ∃ v, σ[i]? = some (some v) ∧ Q v H
def tC (v : V) : TE := fun _ H Q => Q v H
theorem pe_var {i : Nat} {x : Str} {pos : Pos} (hN : X.N[i]? = some x) (hv : Vis X.env.scope x) (hd : (x == ("__debug__" : Str)) = false := by decide) (hcd : (x == ("__classdict__" : Str)) = false := by decide) : PE X (.Name x pos) (tVar i) := by
  intro pins s σ H Q I h
  obtain ⟨v, e, h⟩ := h
  obtain ⟨m, hn, hl⟩ := I.loc
  obtain ⟨u, r, l⟩ := hl i x v hN e hv
  have fin : EP X pins σ Q u s := ⟨v, H, I, r, h⟩
  rcases l with ⟨hk, hm⟩ | ⟨hk, c, hc, hcell⟩
  · exact wpAny_Name (wpAny_loadName_local I.ok.kind hk hn hm fin) hd
  · rcases hk with hk | hk
    · exact wpAny_Name (wpAny_loadName_cell I.ok.kind hk hc hcell fin) hd
    · exact wpAny_Name (wpAny_loadName_free I.ok.kind hk hc hcell fin hcd) hd
theorem pe_int {i j pos} : PE X (.Constant (.int i) j pos) (tC (.int i)) := fun _ _ _ H _ I h => wpAny_Constant_int ⟨.int i, H, I.tok _, ⟨_, rfl⟩, h⟩
theorem pe_bl {b j pos} : PE X (.Constant (.bool b) j pos) (tC (.bl b)) := fun _ _ _ H _ I h => Constant_bool ⟨.bl b, H, I, rfl, h⟩
theorem pe_non {j pos} : PE X (.Constant .none j pos) (tC .non) := fun _ _ _ H _ I h => Constant_none ⟨.non, H, I, rfl, h⟩
theorem pe_str {x j pos} : PE X (.Constant (.str x) j pos) (tC (.str x)) := fun _ _ _ H _ I h => Calls.Constant_str ⟨.str x, H, I.tok _, ⟨_, rfl⟩, h⟩

/-- a global name of the def -/
def Gl (X : Cx) (x : Str) : Prop := X.env.kindOf x = some .globalImplicit
theorem ld_glob {E : Value → Shared → Prop} {pins : List (Addr × Obj)} {s : Shared} {σ : St} {H : Hp} {x : Str} {u : Value} {pos : Pos} {Q : Value → Shared → Prop} (I : Inv X pins σ H s) (hg : Gl X x) (hm : X.mg x = some u) (h : Q u s)
    (hd : (x == ("__debug__" : Str)) = false := by decide) : wpAny (model X.prog X.w) X.A (eval (.Name x pos) X.env) Q E s :=
  Calls.Name_function_global I.ok.kind hg (Calls.loadGlobal_global (by rw [I.ok.glob]; exact I.mod.glob.keeps I.bk) hm h) hd
theorem ld_blt {E : Value → Shared → Prop} {pins : List (Addr × Obj)} {s : Shared} {σ : St} {H : Hp} {x : Str} {u : Value} {pos : Pos} {Q : Value → Shared → Prop} (I : Inv X pins σ H s) (hg : Gl X x) (hm : X.mg x = none) (hv : bootBuiltins x = some u) (h : Q u s)
    (hn : x ≠ "__name__" := by decide) (hd : (x == ("__debug__" : Str)) = false := by decide) : wpAny (model X.prog X.w) X.A (eval (.Name x pos) X.env) Q E s := by
  obtain ⟨mb, h1, h2⟩ := I.mod.blt
  exact Calls.Name_function_global I.ok.kind hg (Calls.loadGlobal_builtin (by rw [I.ok.glob]; exact I.mod.glob.keeps I.bk) hm (by rw [I.ok.blt]; exact h1.keeps I.bk) ((h2 x hn).trans hv) h) hd
/-- a module's constant, a class, a function, as a value -/
theorem pe_glob {x : Str} {v : V} {u : Value} {pos : Pos} (hg : Gl X x) (hm : X.mg x = some u) (r : RelV v u) (hd : (x == ("__debug__" : Str)) = false := by decide) : PE X (.Name x pos) (tC v) :=
  fun _ _ _ H _ I h => ld_glob I hg hm ⟨v, H, I, r, h⟩ hd
theorem pe_bltn {x : Str} {v : V} {u : Value} {pos : Pos} (hg : Gl X x) (hm : X.mg x = none) (hv : bootBuiltins x = some u) (r : RelV v u) (hn : x ≠ "__name__" := by decide) (hd : (x == ("__debug__" : Str)) = false := by decide) : PE X (.Name x pos) (tC v) :=
  fun _ _ _ H _ I h => ld_blt I hg hm hv ⟨v, H, I, r, h⟩ hn hd

/-! ### arithmetic -/
variable {a b : Expr} {ta tb : TE} {pos : Pos}
/-! ### comparisons -/
def PC (X : Cx) (op : CmpOp) (a b : Expr) (t : TE) : Prop :=
  ∀ (pins : List (Addr × Obj)) (s : Shared) (σ : St) (H : Hp) (Q : VK), Inv X pins σ H s → t σ H Q →
    wpAny (model X.prog X.w) X.A (eval a X.env) (fun v s₁ => wpAny (model X.prog X.w) X.A (eval b X.env) (fun u s₂ => wpAny (model X.prog X.w) X.A (compareOp op v u) (EP X pins σ Q) X.xe s₂) X.xe s₁) X.xe s
/-! ### and, or, not -/
variable {tA tB' : TT} {rest : List Expr}
def tAnd (t u : TT) : TT := fun σ H Q => t σ H fun c H1 => if c = true then u σ H1 Q else Q false H1
def tOr (t u : TT) : TT := fun σ H Q => t σ H fun c H1 => if c = true then Q true H1 else u σ H1 Q
def tNot (t : TT) : TT := fun σ H Q => t σ H fun c H1 => Q (!c) H1
theorem pw_and1 (ha : PT X a tA) : PW X (.BoolOp .And [a] pos) tA := by
  intro wh pins s σ H Q I h
  refine isTrue_and (thn (ha pins s σ H Q I h) fun c s1 e => ?_)
  cases c with
  | true => exact isTrue_and_nil e
  | false => exact e
theorem pw_or1 (ha : PT X a tA) : PW X (.BoolOp .Or [a] pos) tA := by
  intro wh pins s σ H Q I h
  refine isTrue_or (thn (ha pins s σ H Q I h) fun c s1 e => ?_)
  cases c with
  | false => exact isTrue_or_nil e
  | true => exact e
theorem pw_and (ha : PT X a tA) (hb : PW X (.BoolOp .And (b :: rest) pos) tB') : PW X (.BoolOp .And (a :: b :: rest) pos) (tAnd tA tB') := by
  intro wh pins s σ H Q I h
  refine isTrue_and (thn (ha pins s σ H _ I h) fun c s1 ⟨H1, I1, q1⟩ => ?_)
  cases c with
  | true => exact hb wh pins s1 σ H1 Q I1 q1
  | false => exact ⟨H1, I1, q1⟩
theorem pw_or (ha : PT X a tA) (hb : PW X (.BoolOp .Or (b :: rest) pos) tB') : PW X (.BoolOp .Or (a :: b :: rest) pos) (tOr tA tB') := by
  intro wh pins s σ H Q I h
  refine isTrue_or (thn (ha pins s σ H _ I h) fun c s1 ⟨H1, I1, q1⟩ => ?_)
  cases c with
  | true => exact ⟨H1, I1, q1⟩
  | false => exact hb wh pins s1 σ H1 Q I1 q1
theorem pt_not (ha : PT X a tA) : PT X (.UnaryOp .Not a pos) (tNot tA) := by
  intro pins s σ H Q I h
  exact isTrue_not (ha pins s σ H (fun c H1 => Q (!c) H1) I h)
/-- .. as values (bools) -/
def tAndV (ta tb : TE) : TE := fun σ H Q => ta σ H fun x H1 => ∃ c, x = .bl c ∧ if c = true then tb σ H1 Q else Q (.bl false) H1
def tOrV (ta tb : TE) : TE := fun σ H Q => ta σ H fun x H1 => ∃ c, x = .bl c ∧ if c = true then Q (.bl true) H1 else tb σ H1 Q
theorem pe_one {op} {t : TE} (h : PE X a t) : PE X (.BoolOp op [a] pos) t := fun pins s σ H Q I hw => BoolOp_one (h pins s σ H Q I hw)
theorem pe_and (ha : PE X a ta) (hb : PE X (.BoolOp .And (b :: rest) pos) tb) : PE X (.BoolOp .And (a :: b :: rest) pos) (tAndV ta tb) := by
  intro pins s σ H Q I h
  refine BoolOp_and (thn (ha pins s σ H _ I h) fun v s1 ⟨x, H1, I1, r1, q1⟩ => ?_)
  obtain ⟨c, rfl, q1⟩ := q1
  cases r1
  refine wpAny_truthy_bool ?_
  cases c with
  | true => exact hb pins s1 σ H1 Q I1 q1
  | false => exact ⟨.bl false, H1, I1, rfl, q1⟩
theorem pe_or (ha : PE X a ta) (hb : PE X (.BoolOp .Or (b :: rest) pos) tb) : PE X (.BoolOp .Or (a :: b :: rest) pos) (tOrV ta tb) := by
  intro pins s σ H Q I h
  refine BoolOp_or (thn (ha pins s σ H _ I h) fun v s1 ⟨x, H1, I1, r1, q1⟩ => ?_)
  obtain ⟨c, rfl, q1⟩ := q1
  cases r1
  refine wpAny_truthy_bool ?_
  cases c with
  | false => exact hb pins s1 σ H1 Q I1 q1
  | true => exact ⟨.bl true, H1, I1, rfl, q1⟩
/-- a if t else b -/
def tIf (t : TT) (ta tb : TE) : TE := fun σ H Q => t σ H fun c H1 => if c = true then ta σ H1 Q else tb σ H1 Q
theorem pe_ifExp {c : Expr} (hc : PT X c tA) (ha : PE X a ta) (hb : PE X b tb) : PE X (.IfExp c a b pos) (tIf tA ta tb) := by
  intro pins s σ H Q I h
  refine wpAny_IfExp (thn (hc pins s σ H _ I h) fun d s1 ⟨H1, I1, q1⟩ => ?_)
  cases d with
  | true => exact ha pins s1 σ H1 Q I1 q1
  | false => exact hb pins s1 σ H1 Q I1 q1
end
end L2

namespace L2
open PySem PySem.Spec PyProof.Rows

/-! ### a list, a tuple that is read: tracked, frozen, or an object of the module -/
def SqL (K : PySem.W.Frag) (H : Hp) (a : Addr) (xs : List V) : Prop :=
  Rd H a (.lst xs) ∨
    ∃ (o : Obj) (its : Array Value) (n : Nat), K.lookup a = some o ∧ o.cls = .type "list" ∧ o.dict = none ∧ o.data = .seq its n ∧ its.size ≤ sizeLine ∧ Vals xs its.toList
def SqT (K : PySem.W.Frag) (H : Hp) (a : Addr) (xs : List V) : Prop :=
  Rd H a (.tup xs) ∨
    ∃ (o : Obj) (its : Array Value) (n : Nat), K.lookup a = some o ∧ o.cls = .type "tuple" ∧ o.data = .seq its n ∧ its.size ≤ sizeLine ∧ Vals xs its.toList
def absV : Value → Option V
  | .none => some .non
  | .bool b => some (.bl b)
  | .int i _ => some (.int i)
  | .str x _ => some (.str x)
  | .bytes b _ => some (.byt b)
  | .float b _ => some (.flt b)
  | .ref a => some (.ref a)
  | .type n => some (.ty n)
  | _ => none
theorem RelV.abs {x : V} {u : Value} (r : RelV x u) : absV u = some x := by
  cases x with
  | non => cases r; rfl
  | bl _ => cases r; rfl
  | int _ => obtain ⟨t, rfl⟩ := r; rfl
  | str _ => obtain ⟨t, rfl⟩ := r; rfl
  | byt _ => obtain ⟨t, rfl⟩ := r; rfl
  | flt _ => obtain ⟨t, rfl⟩ := r; rfl
  | ref _ => cases r; rfl
  | ty _ => cases r; rfl
theorem RelV.inj {x y : V} {u : Value} (r : RelV x u) (q : RelV y u) : x = y := Option.some.inj (r.abs.symm.trans q.abs)
theorem Vals.inj : ∀ {xs ys : List V} {us : List Value}, Vals xs us → Vals ys us → xs = ys
  | _, _, _, .nil, .nil => rfl
  | _, _, _, .cons r t, .cons r' t' => by rw [r.inj r', Vals.inj t t']
section
variable {X : Cx} {pins : List (Addr × Obj)} {σ : St} {H : Hp} {s : Shared} {a : Addr} {xs ys : List V}
theorem SqL.of {K : PySem.W.Frag} (h : H a = some (.lst xs)) : SqL K H a xs := .inl (.inl h)
theorem SqT.of {K : PySem.W.Frag} (h : H a = some (.tup xs)) : SqT K H a xs := .inl (.inl h)
theorem Inv.list (I : Inv X pins σ H s) (h : SqL X.K H a xs) : ∃ its : List Value, Vals xs its ∧ PlainL s.heap a its.toArray ∧ xs.length ≤ sizeLine := by
  rcases h with h | ⟨o, its, n, hk, hc, hd, hs, hz, r⟩
  · obtain ⟨z, its, n, r, e⟩ := h.ok I.hok
    exact ⟨its, r, ⟨_, n, e, rfl, rfl, rfl⟩, z⟩
  · refine ⟨its.toList, r, ⟨o, n, I.kIn a o hk, hc, hd, by simpa using hs⟩, ?_⟩
    have e := r.length
    simp only [Array.length_toList] at e
    omega
theorem Inv.tuple (I : Inv X pins σ H s) (h : SqT X.K H a xs) : ∃ its : List Value, Vals xs its ∧ IsTup s.heap a its.toArray ∧ xs.length ≤ sizeLine := by
  rcases h with h | ⟨o, its, n, hk, hc, hs, hz, r⟩
  · obtain ⟨z, its, r, p⟩ := h.ok I.hok
    exact ⟨its, r, p, z⟩
  · refine ⟨its.toList, r, ⟨o, I.kIn a o hk, hc, n, by simpa using hs⟩, ?_⟩
    have e := r.length
    simp only [Array.length_toList] at e
    omega
theorem Inv.list_inj (I : Inv X pins σ H s) (h : SqL X.K H a xs) (h' : SqL X.K H a ys) : xs = ys := by
  obtain ⟨its, r, ⟨o, n, e, _, _, d⟩, _⟩ := I.list h
  obtain ⟨its', r', ⟨o', n', e', _, _, d'⟩, _⟩ := I.list h'
  rw [e] at e'; cases e'
  rw [d] at d'
  injection d' with d1 _
  have : its = its' := by simpa using congrArg Array.toList d1
  subst this
  exact r.inj r'
theorem Inv.tuple_inj (I : Inv X pins σ H s) (h : SqT X.K H a xs) (h' : SqT X.K H a ys) : xs = ys := by
  obtain ⟨its, r, ⟨o, e, _, n, d⟩, _⟩ := I.tuple h
  obtain ⟨its', r', ⟨o', e', _, n', d'⟩, _⟩ := I.tuple h'
  rw [e] at e'; cases e'
  rw [d] at d'
  injection d' with d1 _
  have : its = its' := by simpa using congrArg Array.toList d1
  subst this
  exact r.inj r'
end

/-! ### another wish about exceptions -/
abbrev Cx.wish (X : Cx) (E : Value → Shared → Prop) : Cx := { X with xe := E }
/-- no exception leaves -/
abbrev Cx.nox (X : Cx) : Cx := X.wish fun _ _ => False
theorem Cx.Ok.wish {X : Cx} (ok : X.Ok) (E : Value → Shared → Prop) : (X.wish E).Ok :=
  ⟨ok.mod, ok.kind, ok.glob, ok.blt, ok.above, ok.inj, ok.has, ok.cab, ok.hd, ok.frames, ok.stk, ok.exf, ok.bs, ok.bsz, ok.noex, ok.exfs, ok.funs, ok.frf⟩
theorem Cx.Ok.unwish {X : Cx} {E : Value → Shared → Prop} (ok : (X.wish E).Ok) : X.Ok :=
  ⟨ok.mod, ok.kind, ok.glob, ok.blt, ok.above, ok.inj, ok.has, ok.cab, ok.hd, ok.frames, ok.stk, ok.exf, ok.bs, ok.bsz, ok.noex, ok.exfs, ok.funs, ok.frf⟩
section
variable {X : Cx} {pins : List (Addr × Obj)} {σ : St} {H : Hp} {s : Shared} {E : Value → Shared → Prop}
theorem Inv.wish (I : Inv X pins σ H s) (E : Value → Shared → Prop) : Inv (X.wish E) pins σ H s := ⟨I.ok.wish E, I.os, I.bare, I.base, I.loc, I.cell, I.free, I.freeC, I.pin, I.hok, I.len⟩
theorem Inv.unwish (I : Inv (X.wish E) pins σ H s) : Inv X pins σ H s := ⟨I.ok.unwish, I.os, I.bare, I.base, I.loc, I.cell, I.free, I.freeC, I.pin, I.hok, I.len⟩
theorem SP.unwish {D : Ends} {f : Flow} {s' : Shared} (h : SP (X.wish E) pins D f s') : SP X pins D f s' := by
  cases f with
  | next => obtain ⟨σ', H', I, q⟩ := h; exact ⟨σ', H', I.unwish, q⟩
  | brk => obtain ⟨σ', H', I, q⟩ := h; exact ⟨σ', H', I.unwish, q⟩
  | cont => obtain ⟨σ', H', I, q⟩ := h; exact ⟨σ', H', I.unwish, q⟩
  | ret u => obtain ⟨v, σ', H', I, r, q⟩ := h; exact ⟨v, σ', H', I.unwish, r, q⟩
theorem PSs.nox {st : List Stmt} {t : TS} (h : PSs X.nox st t) : PSs X st t := fun pins s σ H D I hw =>
  wpAny_mono (h pins s σ H D (I.wish _) hw) (fun _ _ q => q.unwish) fun _ _ z => False.elim z
end

/-! ### blocks and small statements -/
section
variable {X : Cx} {st : Stmt} {rest : List Stmt} {t u : TS} {e : Expr} {te : TE} {pos : Pos}
def tNext : TS := fun D σ H => D.nx σ H
def tSeq (t u : TS) : TS := fun D σ H => t { D with nx := u D } σ H
theorem pss_nil : PSs X [] tNext := fun _ _ σ H _ I h => wpAny_execs_nil ⟨σ, H, I, h⟩
theorem pss_cons (h1 : PS X st t) (h2 : PSs X rest u) : PSs X (st :: rest) (tSeq t u) := by
  intro pins s σ H D I h
  refine wpAny_execs_cons (thn (h1 pins s σ H { D with nx := u D } I h) fun f s1 q => ?_)
  cases f with
  | next =>
    obtain ⟨σ', H', I', q⟩ := q
    exact h2 pins s1 σ' H' D I' q
  | ret v => exact q
  | brk => exact q
  | cont => exact q
theorem pss_one (h1 : PS X st t) : PSs X [st] t := by
  intro pins s σ H D I h
  refine wpAny_execs_cons (thn (h1 pins s σ H D I h) fun f s1 q => ?_)
  cases f with
  | next => exact wpAny_execs_nil q
  | ret v => exact q
  | brk => exact q
  | cont => exact q
/-- in a def's body nothing is shown -/
theorem Inv.quiet {pins : List (Addr × Obj)} {σ : St} {H : Hp} {s : Shared} (I : Inv X pins σ H s) : interactive X.env = false := by simp [interactive, I.ok.kind]
/-- an expression whose value is dropped -/
def tDrop (te : TE) : TS := fun D σ H => te σ H fun _ H1 => D.nx σ H1
theorem ps_expr (he : PE X e te) (hs : swapsWith e none pos.line X.env = pure false := by rfl) : PS X (.Expr e pos) (tDrop te) := by
  intro pins s σ H D I h
  exact wpAny_Expr_any (thn (he pins s σ H _ I h) fun v s1 ⟨x, H1, I1, r1, q1⟩ => ⟨σ, H1, I1, q1⟩) I.quiet hs
def tRet (te : TE) : TS := fun D σ H => te σ H D.rt
theorem ps_ret (he : PE X e te) : PS X (.Return (some e) pos) (tRet te) := by
  intro pins s σ H D I h
  exact wpAny_Return_some (thn (he pins s σ H _ I h) fun v s1 ⟨x, H1, I1, r1, q1⟩ => ⟨x, σ, H1, I1, r1, q1⟩)
def tIfS (c : TT) (t u : TS) : TS := fun D σ H => c σ H fun b H1 => if b = true then t D σ H1 else u D σ H1
theorem ps_if {c : Expr} {a b : List Stmt} {tc : TT} (hc : PT X c tc) (ha : PSs X a t) (hb : PSs X b u) : PS X (.If c a b pos) (tIfS tc t u) := by
  intro pins s σ H D I h
  refine wpAny_If (thn (hc pins s σ H _ I h) fun d s1 ⟨H1, I1, q1⟩ => ?_)
  cases d with
  | true => exact ha pins s1 σ H1 D I1 q1
  | false => exact hb pins s1 σ H1 D I1 q1
/-- code that the proof never comes to -/
def tNever : TS := fun _ _ _ => False
theorem ps_never : PS X st tNever := fun _ _ _ _ _ _ h => h.elim
end

/-! ### targets -/
abbrev TG := V → St → Hp → (St → Hp → Prop) → Prop
abbrev TGs := List V → St → Hp → (St → Hp → Prop) → Prop
def PG (X : Cx) (target : Expr) (t : TG) : Prop :=
  ∀ (pins : List (Addr × Obj)) (s : Shared) (σ : St) (H : Hp) (v : V) (u : Value) (Q : St → Hp → Prop), Inv X pins σ H s → RelV v u → t v σ H Q →
    wpAny (model X.prog X.w) X.A (assign target X.env u) (fun _ s' => ∃ σ' H', Inv X pins σ' H' s' ∧ Q σ' H') X.xe s
/-- several targets, one after another -/
def PGs (X : Cx) (ts : List Expr) (t : TGs) : Prop :=
  ∀ (pins : List (Addr × Obj)) (s : Shared) (σ : St) (H : Hp) (vs : List V) (us : List Value) (Q : St → Hp → Prop), Inv X pins σ H s → Vals vs us → t vs σ H Q →
    wpAny (model X.prog X.w) X.A (assignInOrder ((assignEach ts X.env).map (·.2)) us) (fun _ s' => ∃ σ' H', Inv X pins σ' H' s' ∧ Q σ' H') X.xe s
section
variable {X : Cx} {pos : Pos}
def gName (i : Nat) : TG := fun v σ H Q => Q (σ.set i (some v)) H
theorem pg_name {i : Nat} {x : Str} (hN : X.N.Nodup) (hi : X.N[i]? = some x) (hx : Loc X.env.scope x) (hf : X.fn x = true ∨ X.env.scope.names.lookup x = some .local := by first | exact .inl rfl | exact .inr rfl | assumption) : PG X (.Name x pos) (gName i) := by
  intro pins s σ H v u Q I r h
  exact wpAny_assign_Name (store_ok I hN hi hx r (fun s' I' => ⟨_, H, I', h⟩) hf)
def gNil : TGs := fun vs σ H Q => vs = [] ∧ Q σ H
def gCons (t : TG) (u : TGs) : TGs := fun vs σ H Q => ∃ v r, vs = v :: r ∧ t v σ H fun σ' H' => u r σ' H' Q
theorem pgs_nil : PGs X [] gNil := by
  intro pins s σ H vs us Q I r h
  obtain ⟨e, h⟩ := h
  subst e
  cases r
  exact assignInOrder_nil ⟨σ, H, I, h⟩
theorem pgs_cons {e : Expr} {es : List Expr} {t : TG} {u : TGs} (h1 : PG X e t) (h2 : PGs X es u)
    (hs : (assignEach (e :: es) X.env).map (·.2) = assign e X.env :: (assignEach es X.env).map (·.2) := by rfl) : PGs X (e :: es) (gCons t u) := by
  intro pins s σ H vs us Q I r h
  obtain ⟨v, vr, e1, h⟩ := h
  subst e1
  cases r with
  | cons r rr =>
    rw [hs]
    refine assignInOrder_cons (thn (h1 pins s σ H _ _ _ I r h) fun _ s1 ⟨σ1, H1, I1, q1⟩ => ?_)
    exact h2 pins s1 σ1 H1 _ _ Q I1 rr q1
/-- (a, b, ..) = a tuple of that length -/
def gTup (K : PySem.W.Frag) (n : Nat) (t : TGs) : TG := fun v σ H Q => ∃ a xs, v = .ref a ∧ SqT K H a xs ∧ xs.length = n ∧ t xs σ H Q
theorem pg_tup {es : List Expr} {k : Nat} {t : TGs} {n : Nat} (hc : X.calm = true) (h : PGs X es t)
    (hn : (assignEach es X.env).length = n := by rfl) (hst : (assignEach es X.env).findIdx? (·.1) = none := by rfl) : PG X (.Tuple es k pos) (gTup X.K n t) := by
  intro pins s σ H v u Q I r hw
  obtain ⟨a, xs, e1, hq, hl, hw⟩ := hw
  subst e1
  cases r
  obtain ⟨its, rv, ht, hz⟩ := I.tuple hq
  refine assign_Tuple_tuple (I.ok.hd hc) ht (by simp [hn, ← hl, rv.length]) hst fun h' hx => ?_
  have I1 : Inv X pins σ H { s with heap := h' } := I.kept (t' := s.toks) fun b o e => hx b o (Nat.ne_of_lt (Heap.lt_size e)) e
  exact h pins _ σ H xs _ Q I1 (by simpa using rv) hw
/-- target = value -/
def tAsg (te : TE) (g : TG) : TS := fun D σ H => te σ H fun x H1 => g x σ H1 D.nx
theorem ps_asg {tg e : Expr} {te : TE} {g : TG} (he : PE X e te) (hg : PG X tg g) (hs : swapsWithSole [tg] e pos.line X.env = pure false := by rfl) (hw : swappedStores [tg] e X.env = pure none := by rfl)
    (h1 : (assignEach [tg] X.env).map (·.2) = [assign tg X.env] := by rfl) : PS X (.Assign [tg] e pos) (tAsg te g) := by
  intro pins s σ H D I h
  refine wpAny_Assign_stores (thn (he pins s σ H _ I h) fun v s1 ⟨x, H1, I1, r1, q1⟩ => ?_) hs hw
  rw [h1]
  exact thn (hg pins s1 σ H1 x v _ I1 r1 q1) fun _ s2 q => q
/-- name = value -/
theorem ps_set {i : Nat} {x : Str} {e : Expr} {te : TE} {pos' : Pos} (hN : X.N.Nodup) (hi : X.N[i]? = some x) (hx : Loc X.env.scope x) (he : PE X e te) (hs : swapsWith e (some (.Name x pos')) pos.line X.env = pure false := by rfl) (hf : X.fn x = true ∨ X.env.scope.names.lookup x = some .local := by first | exact .inl rfl | exact .inr rfl | assumption) :
    PS X (.Assign [.Name x pos'] e pos) (tAsg te (gName i)) := by
  intro pins s σ H D I h
  refine wpAny_Assign_Name (thn (he pins s σ H _ I h) fun v s1 ⟨y, H1, I1, r1, q1⟩ => ?_) hs
  exact store_ok I1 hN hi hx r1 (fun s2 I2 => ⟨_, H1, I2, q1⟩) hf
end

/-! ### while -/
section
variable {X : Cx} {pos : Pos}
end

/-! ### what a loop or a comprehension walks -/
/-- at turn i: it yields x (the heap may grow), or it stops -/
structure It where
  go : Nat → Hp → Prop
  yld : Nat → Hp → V → Hp → Prop
  stop : Nat → Hp → Prop
/-- the iterator's own objects may turn: they are not the frame's, not pinned, younger than the entry (or a comprehension's own) -/
def FpOk (X : Cx) (pins : List (Addr × Obj)) (H : Hp) (b : Addr) : Prop :=
  H b = none ∧ b ≠ X.env.locals ∧ b ∉ X.fs ∧ (b ∈ X.ex ∨ X.s₀.heap.objs.size ≤ b) ∧ (∀ x c, X.env.cells.lookup x = some c → c ≠ b) ∧ ∀ p ∈ X.pn ++ pins, p.1 ≠ b
theorem Inv.fpOk {X : Cx} {pins : List (Addr × Obj)} {σ : St} {H H' : Hp} {s : Shared} {b : Addr} (I : Inv X pins σ H s) (hb : s.heap.objs.size ≤ b) (hn : H' b = none) : FpOk X pins H' b := by
  refine ⟨hn, Nat.ne_of_gt (Nat.lt_of_lt_of_le I.lt hb), I.nofs hb, .inr (Nat.le_trans I.sz hb), fun x c e z => ?_, fun p hp z => ?_⟩
  · obtain ⟨v, q⟩ := I.cell x c e
    exact absurd (Nat.lt_of_lt_of_le q.lt (by rw [z]; exact hb)) (Nat.lt_irrefl _)
  · exact absurd (Nat.lt_of_lt_of_le (Heap.lt_size (I.pin p hp).1) (by rw [z]; exact hb)) (Nat.lt_irrefl _)
structure Turn (P : Program) (w : World) (K : PySem.W.Frag) (tg : Expr) (J : It) (fp : List Addr) (it : Addr) (tn : Nat → Heap → Prop) : Prop where
  mem : it ∈ fp
  obj : ∀ i h, tn i h → ∀ b ∈ fp, ∃ o, h.get? b = some o ∧ ∀ v, o.data ≠ .cell v
  keep : ∀ i h h', tn i h → (∀ b ∈ fp, ∀ o, h.get? b = some o → h'.get? b = some o) → tn i h'
  item : ∀ (X : Cx), X.prog = P → X.w = w → X.K = K → X.calm = true → ∀ (i : Nat) (pins : List (Addr × Obj)) (s : Shared) (σ : St) (H : Hp) (E : Value → Shared → Prop), Inv X pins σ H s → (∀ b ∈ fp, FpOk X pins H b) → tn i s.heap → J.go i H →
    wpAny (model P w) X.A (pyNext (.ref it)) (fun r s1 => ∃ u, r = some u ∧
      wpAny (model P w) X.A (letOwnedTupleGo tg (.ref it) u) (fun _ s2 => ∃ x H', Inv X pins σ H' s2 ∧ RelV x u ∧ J.yld i H x H' ∧ tn (i + 1) s2.heap ∧ ∀ b ∈ fp, H' b = none) E s1) E s
  done : ∀ (X : Cx), X.prog = P → X.w = w → X.K = K → X.calm = true → ∀ (i : Nat) (pins : List (Addr × Obj)) (s : Shared) (σ : St) (H : Hp) (E : Value → Shared → Prop), Inv X pins σ H s → (∀ b ∈ fp, FpOk X pins H b) → tn i s.heap → J.stop i H →
    wpAny (model P w) X.A (pyNext (.ref it)) (fun r s1 => r = none ∧ Inv X pins σ H s1) E s
  self : ∀ (A : Around) (i : Nat) (s : Shared) (Q : Value → Shared → Prop) (E : Value → Shared → Prop), tn i s.heap → Q (.ref it) s → wpAny (model P w) A (pyIter (.ref it)) Q E s
abbrev TI := St → Hp → (It → Hp → Prop) → Prop
/-- an iterator has come -/
def PIE (X : Cx) (pins : List (Addr × Obj)) (σ : St) (tg : Expr) (R : It → Hp → Prop) (itv : Value) (s2 : Shared) : Prop :=
  ∃ (it : Addr) (fp : List Addr) (tn : Nat → Heap → Prop) (J : It) (H' : Hp), itv = .ref it ∧ Inv X pins σ H' s2 ∧ Turn X.prog X.w X.K tg J fp it tn ∧ tn 0 s2.heap ∧ (∀ b ∈ fp, FpOk X pins H' b) ∧ R J H'
def PI (X : Cx) (tg iter : Expr) (wi : TI) : Prop :=
  ∀ (pins : List (Addr × Obj)) (s : Shared) (σ : St) (H : Hp) (R : It → Hp → Prop), Inv X pins σ H s → wi σ H R →
    wpAny (model X.prog X.w) X.A (eval iter X.env) (fun v s1 => wpAny (model X.prog X.w) X.A (pyIter v) (PIE X pins σ tg R) X.xe s1) X.xe s

/-- the step ahead of the store is nothing for an iterator that keeps no tuple -/
theorem go_of {M : Model} {A : Around} {E : Value → Shared → Prop} {s : Shared} {tg : Expr} {it : Addr} {u : Value} {o : Obj} {n : String} {vs : Array Value} {Q : Unit → Shared → Prop} (ho : s.heap.get? it = some o) (hc : o.cls = .type n) (hd : o.data = .fields vs)
    (hn : ["enumerate", "zip", "dict_itemiterator", "dict_reverseitemiterator", "odict_iterator", "itertools.zip_longest", "itertools.pairwise"].contains n = false) (hQ : Q () s) : wpAny M A (letOwnedTupleGo tg (.ref it) u) Q E s := by
  unfold letOwnedTupleGo
  cases tg <;> first
    | exact wpAny_pure hQ
    | (cases u <;> first
        | exact wpAny_pure hQ
        | (refine wpAny_bind (wpAny_load ho ?_)
           rw [hc, hd]
           show wpAny M A (if (["enumerate", "zip", "dict_itemiterator", "dict_reverseitemiterator", "odict_iterator", "itertools.zip_longest", "itertools.pairwise"].contains n && vs[0]? == some (rawInt _)) = true then _ else _) Q E s
           rw [if_neg (by intro h; rw [hn, Bool.false_and] at h; cases h)]
           exact wpAny_pure hQ))

/-- the list at a, as it stands at each turn (a loop may append to it) -/
def Itl (K : PySem.W.Frag) (a : Addr) : It :=
  ⟨fun i H => ∃ xs x, SqL K H a xs ∧ xs[i]? = some x, fun i H x H' => H' = H ∧ ∀ xs, SqL K H a xs → xs[i]? = some x, fun i H => ∃ xs, SqL K H a xs ∧ xs.length ≤ i⟩
def Itt (K : PySem.W.Frag) (a : Addr) : It :=
  ⟨fun i H => ∃ xs x, SqT K H a xs ∧ xs[i]? = some x, fun i H x H' => H' = H ∧ ∀ xs, SqT K H a xs → xs[i]? = some x, fun i H => ∃ xs, SqT K H a xs ∧ xs.length ≤ i⟩
/-- lo, lo + 1, .. (n of them) -/
def Itr (lo : Int) (n : Nat) : It := ⟨fun i _ => i < n, fun i H x H' => H' = H ∧ x = .int (lo + i), fun i _ => n ≤ i⟩
theorem turn_list {P : Program} {w : World} {K : PySem.W.Frag} {tg : Expr} (a it : Addr) : Turn P w K tg (Itl K a) [it] it (fun i h => h.IsListIter it a i) where
  mem := by simp
  obj := fun i h st b hb => by
    have e : b = it := by simpa using hb
    subst e
    obtain ⟨o, e, c, d⟩ := st
    exact ⟨o, e, fun v z => by rw [d] at z; cases z⟩
  keep := fun i h h' st k => st.at fun o e => k it (by simp) o e
  item := by
    intro X hP hw hK hc i pins s σ H E I hf st hg
    subst hP hw hK
    obtain ⟨xs, x, hq, hx⟩ := hg
    obtain ⟨its, rv, p, hz⟩ := I.list hq
    obtain ⟨u, hu, ru⟩ := rv.get hx
    obtain ⟨f0, f1, f2, f3, f4, f5⟩ := hf it (by simp)
    refine wpAny_pyNext_list_item st p.isList (x := u) (by simpa using hu) fun h' st' sb => ?_
    have I1 : Inv X pins σ H { s with heap := h' } := I.turned (t' := s.toks) (fun b o hb e => (sb.2 b hb).trans e) f0 f1 f3 f4 f5
    obtain ⟨o, e, c, d⟩ := id st'
    exact ⟨u, rfl, go_of (s := { s with heap := h' }) e c d (by decide) ⟨x, H, I1, ru, ⟨rfl, fun ys hy => by rw [I.list_inj hy hq]; exact hx⟩, st', fun b hb => (hf b hb).1⟩⟩
  done := by
    intro X hP hw hK hc i pins s σ H E I hf st hg
    subst hP hw hK
    obtain ⟨xs, hq, hx⟩ := hg
    obtain ⟨its, rv, p, hz⟩ := I.list hq
    obtain ⟨f0, f1, f2, f3, f4, f5⟩ := hf it (by simp)
    have hl := rv.length
    exact wpAny_pyNext_list_end (I.ok.hd hc) st p.isList (by simp; omega) fun h' eb => ⟨rfl, I.turned (t' := s.toks) (fun b o hb e => eb b o hb e) f0 f1 f3 f4 f5⟩
  self := fun _ _ _ _ _ st h => wpAny_pyIter_listiter st h
theorem turn_tuple {P : Program} {w : World} {K : PySem.W.Frag} {tg : Expr} (a it : Addr) : Turn P w K tg (Itt K a) [it] it (fun i h => h.IsTupleIter it a i) where
  mem := by simp
  obj := fun i h st b hb => by
    have e : b = it := by simpa using hb
    subst e
    obtain ⟨o, e, c, d⟩ := st
    exact ⟨o, e, fun v z => by rw [d] at z; cases z⟩
  keep := fun i h h' st k => st.at fun o e => k it (by simp) o e
  item := by
    intro X hP hw hK hc i pins s σ H E I hf st hg
    subst hP hw hK
    obtain ⟨xs, x, hq, hx⟩ := hg
    obtain ⟨its, rv, p, hz⟩ := I.tuple hq
    obtain ⟨u, hu, ru⟩ := rv.get hx
    obtain ⟨f0, f1, f2, f3, f4, f5⟩ := hf it (by simp)
    refine wpAny_pyNext_tuple_item st (show s.heap.IsTuple a its.toArray from p) (x := u) (by simpa using hu) fun h' st' sb => ?_
    have I1 : Inv X pins σ H { s with heap := h' } := I.turned (t' := s.toks) (fun b o hb e => (sb.2 b hb).trans e) f0 f1 f3 f4 f5
    obtain ⟨o, e, c, d⟩ := id st'
    exact ⟨u, rfl, go_of (s := { s with heap := h' }) e c d (by decide) ⟨x, H, I1, ru, ⟨rfl, fun ys hy => by rw [I.tuple_inj hy hq]; exact hx⟩, st', fun b hb => (hf b hb).1⟩⟩
  done := by
    intro X hP hw hK hc i pins s σ H E I hf st hg
    subst hP hw hK
    obtain ⟨xs, hq, hx⟩ := hg
    obtain ⟨its, rv, p, hz⟩ := I.tuple hq
    obtain ⟨f0, f1, f2, f3, f4, f5⟩ := hf it (by simp)
    have hl := rv.length
    exact wpAny_pyNext_tuple_end (I.ok.hd hc) st (show s.heap.IsTuple a its.toArray from p) (by simp; omega) fun h' eb => ⟨rfl, I.turned (t' := s.toks) (fun b o hb e => eb b o hb e) f0 f1 f3 f4 f5⟩
  self := fun _ _ _ _ _ st h => wpAny_pyIter_tupleiter st h
theorem turn_range {P : Program} {w : World} {K : PySem.W.Frag} {tg : Expr} (it : Addr) (lo : Int) (n : Nat) : Turn P w K tg (Itr lo n) [it] it (fun i h => IsRangeIter h it (lo + (i : Nat) * 1) ((n : Int) - (i : Nat)) 1) where
  mem := by simp
  obj := fun i h st b hb => by
    have e : b = it := by simpa using hb
    subst e
    exact ⟨_, st, fun v z => by
      have z' : Data.fields _ = Data.cell v := z
      cases z'⟩
  keep := fun i h h' st k => k it (by simp) _ st
  item := by
    intro X hP hw hK hc i pins s σ H E I hf st hg
    subst hP hw hK
    obtain ⟨f0, f1, f2, f3, f4, f5⟩ := hf it (by simp)
    have W := Walks.range (prog := X.prog) (w := X.w) (I.ok.hd hc) it lo 1 n
    refine W.item i s _ _ hg st fun v h' tk hv st' kk => ?_
    obtain ⟨t, rfl⟩ := hv
    have I1 : Inv X pins σ H { s with heap := h', toks := tk } := I.turned (fun b o hb e => kk b o (by simpa using hb) e) f0 f1 f3 f4 f5
    refine ⟨_, rfl, go_of (s := { s with heap := h', toks := tk }) (n := "range_iterator") st' rfl rfl (by decide) ⟨.int (lo + i), H, I1, ⟨t, ?_⟩, ⟨rfl, rfl⟩, st', fun b hb => (hf b hb).1⟩⟩
    rw [Int.mul_one]
  done := by
    intro X hP hw hK hc i pins s σ H E I hf st hg
    subst hP hw hK
    obtain ⟨f0, f1, f2, f3, f4, f5⟩ := hf it (by simp)
    exact wpAny_pyNext_range_end (I.ok.hd hc) st (by have : n ≤ i := hg; omega) fun h' eb => ⟨rfl, I.turned (t' := s.toks) (fun b o hb e => eb b o hb e) f0 f1 f3 f4 f5⟩
  self := fun _ _ _ _ _ st h => wpAny_pyIter_rangeiter st h
end L2

namespace L2
open PySem PySem.Spec PyProof.Rows
section
variable {X : Cx} {tg : Expr}
def iList (K : PySem.W.Frag) (tl : TE) : TI := fun σ H R => tl σ H fun x H1 => ∃ a, x = .ref a ∧ (∃ xs, SqL K H1 a xs) ∧ R (Itl K a) H1
def iTup (K : PySem.W.Frag) (tl : TE) : TI := fun σ H R => tl σ H fun x H1 => ∃ a, x = .ref a ∧ (∃ xs, SqT K H1 a xs) ∧ R (Itt K a) H1
theorem pi_list {l : Expr} {tl : TE} (hl : PE X l tl) : PI X tg l (iList X.K tl) := by
  intro pins s σ H R I h
  refine thn (hl pins s σ H _ I h) fun v s1 ⟨x, H1, I1, r1, q1⟩ => ?_
  obtain ⟨a, e, ⟨xs, hq⟩, q⟩ := q1
  subst e
  cases r1
  obtain ⟨its, rv, p, hz⟩ := I1.list hq
  refine wpAny_pyIter_list p.isList ?_
  refine ⟨s1.heap.objs.size, [s1.heap.objs.size], _, _, H1, rfl, I1.kept (t' := s1.toks) fun b o e => Heap.get?_push_of_some _ e, turn_list a _, ⟨_, Heap.get?_push_size _ rfl, rfl, rfl⟩, fun b hb => ?_, q⟩
  have e : b = s1.heap.objs.size := by simpa using hb
  subst e
  exact I1.fpOk (Nat.le_refl _) (I1.hok.fresh (Nat.le_refl _))
theorem pi_tup {l : Expr} {tl : TE} (hl : PE X l tl) : PI X tg l (iTup X.K tl) := by
  intro pins s σ H R I h
  refine thn (hl pins s σ H _ I h) fun v s1 ⟨x, H1, I1, r1, q1⟩ => ?_
  obtain ⟨a, e, ⟨xs, hq⟩, q⟩ := q1
  subst e
  cases r1
  obtain ⟨its, rv, p, hz⟩ := I1.tuple hq
  refine wpAny_pyIter_tuple (show s1.heap.IsTuple a its.toArray from p) ?_
  refine ⟨s1.heap.objs.size, [s1.heap.objs.size], _, _, H1, rfl, I1.kept (t' := s1.toks) fun b o e => Heap.get?_push_of_some _ e, turn_tuple a _, ⟨_, Heap.get?_push_size _ rfl, rfl, rfl⟩, fun b hb => ?_, q⟩
  have e : b = s1.heap.objs.size := by simpa using hb
  subst e
  exact I1.fpOk (Nat.le_refl _) (I1.hok.fresh (Nat.le_refl _))
/-- a range object just made, walked -/
theorem range_it {pins : List (Addr × Obj)} {σ : St} {H : Hp} {s : Shared} {R : It → Hp → Prop} {E : Value → Shared → Prop} {lo hi : Int} {t u v : Tok} {tk : Nat} (I : Inv X pins σ H s) (h1 : -(2 ^ 62) ≤ lo) (h2 : lo < 2 ^ 62) (h3 : -(2 ^ 62) ≤ hi) (h4 : hi < 2 ^ 62)
    (q : R (Itr lo (hi - lo).toNat) H) : wpAny (model X.prog X.w) X.A (pyIter (.ref s.heap.objs.size)) (PIE X pins σ tg R) E { s with heap := s.heap.push { cls := .type "range", data := .fields #[.int lo t, .int hi u, .int 1 v] }, toks := tk } := by
  refine wpAny_pyIter_range (IsRange.new ..) (small_one h1 h2 h3 h4) ?_
  have I1 : Inv X pins σ H { s with heap := s.heap.push { cls := .type "range", data := .fields #[.int lo t, .int hi u, .int 1 v] }, toks := tk } := I.kept fun b o e => Heap.get?_push_of_some _ e
  refine ⟨(s.heap.push { cls := .type "range", data := .fields #[.int lo t, .int hi u, .int 1 v] }).objs.size, [(s.heap.push { cls := .type "range", data := .fields #[.int lo t, .int hi u, .int 1 v] }).objs.size], _, _, H, rfl,
    I1.kept (t' := tk) fun b o e => Heap.get?_push_of_some _ e, turn_range _ lo (hi - lo).toNat, ?_, fun b hb => ?_, q⟩
  · have e1 : lo + ((0 : Nat) : Int) * 1 = lo := by simp
    have e2 : (((hi - lo).toNat : Nat) : Int) - ((0 : Nat) : Int) = Builtin.Range.rangeSize lo hi 1 := by rw [rangeSize_one]; split <;> omega
    show IsRangeIter _ _ (lo + ((0 : Nat) : Int) * 1) ((((hi - lo).toNat : Nat) : Int) - ((0 : Nat) : Int)) 1
    rw [e1, e2]
    exact Heap.get?_push_size _ rfl
  · have e : b = (s.heap.push { cls := .type "range", data := .fields #[.int lo t, .int hi u, .int 1 v] }).objs.size := by simpa using hb
    subst e
    exact I1.fpOk (Nat.le_refl _) (I1.hok.fresh (Nat.le_refl _))
def iRng1 (ta : TA) : TI := fun σ H R => ta σ H fun vs H1 => ∃ j : Int, vs = [.int j] ∧ -(2 ^ 62) ≤ j ∧ j < 2 ^ 62 ∧ R (Itr 0 j.toNat) H1
theorem pi_range1 {a : Expr} {ta : TA} {p pos : Pos} (hg : Gl X "range") (hm : X.mg "range" = none) (ha : PA X [a] ta) (hs : starEach [a] X.env = [(false, eval a X.env)] := by rfl) : PI X tg (.Call (.Name "range" p) [a] [] pos) (iRng1 ta) := by
  intro pins s σ H R I h
  refine Call_ (ld_blt I hg hm boot_range (PyProof.Rows.callWith_type1 (thn (ha pos pins s σ H _ I h) fun us s1 ⟨vs, H1, I1, r1, q1⟩ => ?_) hs rfl))
  obtain ⟨j, e, q1, q2, q⟩ := q1
  subst e
  cases r1 with
  | cons r rr =>
    cases rr
    obtain ⟨t, rfl⟩ := r
    exact call_range_1 (range_it I1 (by omega) (by omega) q1 q2 (by simpa using q))
/-! ### for -/
/-- W: the invariant by the turn and a measure; N: what the body is to reach -/
def tFor (wi : TI) (g : TG) (tb : TS) : TS := fun D σ H => wi σ H fun J H1 => ∃ W : Nat → Nat → St → Hp → Prop, (∃ m, W 0 m σ H1) ∧ ∀ i m σ H, W i m σ H →
  (J.stop i H ∧ D.nx σ H) ∨ (J.go i H ∧ ∃ N : St → Hp → Prop, (∀ σ' H', N σ' H' → ∃ m', m' < m ∧ W (i + 1) m' σ' H') ∧ ∀ x H', J.yld i H x H' → g x σ H' fun σ2 H2 => tb { D with nx := N, ct := N, bk := D.nx } σ2 H2)
/-- the records at fp as they stand -/
def pinsAt (fp : List Addr) (h : Heap) : List (Addr × Obj) := fp.filterMap fun b => (h.get? b).map fun o => (b, o)
theorem mem_pinsAt {fp : List Addr} {h : Heap} {b : Addr} {o : Obj} (hb : b ∈ fp) (e : h.get? b = some o) : (b, o) ∈ pinsAt fp h := List.mem_filterMap.mpr ⟨b, hb, by rw [e]; rfl⟩
theorem of_pinsAt {fp : List Addr} {h : Heap} {p : Addr × Obj} (hp : p ∈ pinsAt fp h) : p.1 ∈ fp ∧ h.get? p.1 = some p.2 := by
  obtain ⟨b, hb, e⟩ := List.mem_filterMap.mp hp
  cases q : h.get? b with
  | none => rw [q] at e; cases e
  | some o =>
    rw [q] at e
    have e' : (b, o) = p := Option.some.inj e
    subst e'
    exact ⟨hb, q⟩
theorem Inv.pinned {pins : List (Addr × Obj)} {σ : St} {H : Hp} {s : Shared} {fp : List Addr} (I : Inv X pins σ H s) (hf : ∀ b ∈ fp, FpOk X pins H b) (ho : ∀ b ∈ fp, ∃ o, s.heap.get? b = some o ∧ ∀ v, o.data ≠ .cell v) : Inv X (pins ++ pinsAt fp s.heap) σ H s :=
  I.pins_of fun p hp => (List.mem_append.mp hp).elim (fun z => I.pin p (List.mem_append_right _ z)) fun z => by
    obtain ⟨hb, e⟩ := of_pinsAt z
    obtain ⟨f0, f1, f2, _⟩ := hf p.1 hb
    obtain ⟨o, e', d⟩ := ho p.1 hb
    rw [e] at e'; cases e'
    exact ⟨e, f0, f1, f2, d⟩
theorem Inv.unpinned {pins pl : List (Addr × Obj)} {σ : St} {H : Hp} {s : Shared} (I : Inv X (pins ++ pl) σ H s) : Inv X pins σ H s := I.pins_of fun p hp => I.pin p (List.mem_append_right _ (List.mem_append_left _ hp))
theorem ps_for {iter : Expr} {body : List Stmt} {wi : TI} {g : TG} {tb : TS} {pos : Pos} (hp : PassesOwn (model X.prog X.w) X.A X.env X.xe) (hc : X.calm = true) (hi : PI X tg iter wi) (hg : PG X tg g) (hb : PSs X body tb)
    (hs : ∀ x, foldedSetIterable iter X.env x = pure x := by intro _; rfl) : PS X (.For tg iter body [] pos) (tFor wi g tb) := by
  intro pins s σ H D I h
  refine wpAny_For (thn (hi pins s σ H _ I h) fun v s1 h1 => thn h1 fun itv s2 h2 => ?_) hs
  obtain ⟨it, fp, tn, J, H2, e, I2, T, st2, f2, W, ⟨m0, w0⟩, turn⟩ := h2
  subst e
  -- what stays true of the iterator's objects through the loop
  have stat : ∀ {H' : Hp}, (∀ b ∈ fp, H' b = none) → ∀ b ∈ fp, FpOk X pins H' b := fun hn b hb => ⟨hn b hb, (f2 b hb).2⟩
  refine codeAny_forLoop_any (fun n s' => ∃ i σ' H', Inv X pins σ' H' s' ∧ tn i s'.heap ∧ (∀ b ∈ fp, H' b = none) ∧ W i n σ' H') ?_ m0 ⟨0, σ, H2, I2, st2, fun b hb => (f2 b hb).1, w0⟩
  rintro n s3 ⟨i, σ3, H3, I3, st3, fr3, w3⟩
  rcases turn i n σ3 H3 w3 with ⟨stop, qn⟩ | ⟨go, N, hN, step⟩
  · refine wpAny_passesOwn hp (thn (T.done X rfl rfl rfl hc i pins s3 σ3 H3 X.xe I3 (stat fr3) st3 stop) fun r s4 ⟨hr, I4⟩ => ?_)
    subst hr
    exact wpAny_execs_nil ⟨σ3, H3, I4, qn⟩
  · refine wpAny_passesOwn hp (thn (T.item X rfl rfl rfl hc i pins s3 σ3 H3 X.xe I3 (stat fr3) st3 go) fun r s4 ⟨u, hr, h4⟩ => ?_)
    subst hr
    refine wpAny_passesOwn hp (thn h4 fun _ s5 ⟨x, H5, I5, r5, y5, st5, fr5⟩ => ?_)
    have I5' := I5.pinned (stat fr5) (T.obj _ _ st5)
    refine wpAny_passesOwn hp (thn (hg _ s5 σ3 H5 x u _ I5' r5 (step x H5 y5)) fun _ s6 ⟨σ6, H6, I6, q6⟩ => ?_)
    refine wpAny_passesOwn hp (thn (hb _ s6 σ6 H6 _ I6 q6) fun f s7 q7 => ?_)
    have again : ∀ {σ7 : St} {H7 : Hp}, Inv X (pins ++ pinsAt fp s5.heap) σ7 H7 s7 → N σ7 H7 → ∃ m, m < n ∧ ∃ i σ' H', Inv X pins σ' H' s7 ∧ tn i s7.heap ∧ (∀ b ∈ fp, H' b = none) ∧ W i m σ' H' := fun {σ7 H7} I7 n7 => by
      obtain ⟨m', hm, w7⟩ := hN σ7 H7 n7
      refine ⟨m', hm, i + 1, σ7, H7, I7.unpinned, T.keep _ _ _ st5 fun b hb o e => (I7.pin (b, o) (List.mem_append_right _ (List.mem_append_right _ (mem_pinsAt hb e)))).1, fun b hb => ?_, w7⟩
      obtain ⟨o, e, d⟩ := T.obj _ _ st5 b hb
      exact (I7.pin (b, o) (List.mem_append_right _ (List.mem_append_right _ (mem_pinsAt hb e)))).2.1
    cases f with
    | next => obtain ⟨σ7, H7, I7, n7⟩ := q7; exact again I7 n7
    | cont => obtain ⟨σ7, H7, I7, n7⟩ := q7; exact again I7 n7
    | brk => obtain ⟨σ7, H7, I7, q7⟩ := q7; exact ⟨σ7, H7, I7.unpinned, q7⟩
    | ret v => obtain ⟨x7, σ7, H7, I7, r7, q7⟩ := q7; exact ⟨x7, σ7, H7, I7.unpinned, r7, q7⟩
end

/-! ### the forms one uses -/
theorem for_range {lo : Int} {n : Nat} {g : TG} {tb : TS} {D : Ends} {σ : St} {H : Hp} (Pv : Nat → St → Hp → Prop) (h0 : Pv 0 σ H)
    (hs : ∀ i σ H, i < n → Pv i σ H → g (.int (lo + i)) σ H fun σ2 H2 => tb { D with nx := Pv (i + 1), ct := Pv (i + 1), bk := D.nx } σ2 H2) (hd : ∀ σ H, Pv n σ H → D.nx σ H) :
    ∃ W : Nat → Nat → St → Hp → Prop, (∃ m, W 0 m σ H) ∧ ∀ i m σ H, W i m σ H →
      ((Itr lo n).stop i H ∧ D.nx σ H) ∨ ((Itr lo n).go i H ∧ ∃ N : St → Hp → Prop, (∀ σ' H', N σ' H' → ∃ m', m' < m ∧ W (i + 1) m' σ' H') ∧ ∀ x H', (Itr lo n).yld i H x H' → g x σ H' fun σ2 H2 => tb { D with nx := N, ct := N, bk := D.nx } σ2 H2) := by
  refine ⟨fun i m σ H => m = n - i ∧ i ≤ n ∧ Pv i σ H, ⟨n, by simp, Nat.zero_le _, h0⟩, ?_⟩
  rintro i m σ H ⟨rfl, hi, p⟩
  by_cases hlt : i < n
  · refine .inr ⟨hlt, Pv (i + 1), fun σ' H' p' => ⟨n - (i + 1), by omega, rfl, hlt, p'⟩, fun x H' y => ?_⟩
    obtain ⟨e, y⟩ := y
    subst e y
    exact hs i σ _ hlt p
  · have e : i = n := by omega
    subst e
    exact .inl ⟨Nat.le_refl _, hd σ H p⟩
end L2

namespace L2
open PySem PySem.Spec PyProof.Rows

abbrev R2 := V → V → Hp → VK → Prop
/-- a two-place operation on values: f is binaryOp op, inplaceOp op or compareOp op -/
def OpR (X : Cx) (f : Value → Value → Sem Value) (r : R2) : Prop :=
  ∀ (pins : List (Addr × Obj)) (s : Shared) (σ : St) (H : Hp) (x y : V) (v u : Value) (Q : VK), Inv X pins σ H s → RelV x v → RelV y u → r x y H Q →
    wpAny (model X.prog X.w) X.A (f v u) (EP X pins σ Q) X.xe s
/-- a one-place operation -/
def UnR (X : Cx) (f : Value → Sem Value) (r : V → Hp → VK → Prop) : Prop :=
  ∀ (pins : List (Addr × Obj)) (s : Shared) (σ : St) (H : Hp) (x : V) (v : Value) (Q : VK), Inv X pins σ H s → RelV x v → r x H Q →
    wpAny (model X.prog X.w) X.A (f v) (EP X pins σ Q) X.xe s
/-- a call of a value that is known (a builtin, a type) with values -/
def CallR (X : Cx) (f : Value) (r : List V → Hp → VK → Prop) : Prop :=
  ∀ (pins : List (Addr × Obj)) (s : Shared) (σ : St) (H : Hp) (xs : List V) (us : List Value) (Q : VK), Inv X pins σ H s → Vals xs us → r xs H Q →
    wpAny (model X.prog X.w) X.A (call f us) (EP X pins σ Q) X.xe s
/-- a value's truth -/
def TruR (X : Cx) (r : V → Hp → (Bool → Hp → Prop) → Prop) : Prop :=
  ∀ (pins : List (Addr × Obj)) (s : Shared) (σ : St) (H : Hp) (x : V) (v : Value) (Q : Bool → Hp → Prop), Inv X pins σ H s → RelV x v → r x H Q →
    wpAny (model X.prog X.w) X.A (truthy v) (TP X pins σ Q) X.xe s

def tOp (r : R2) (ta tb : TE) : TE := fun σ H Q => ta σ H fun x H1 => tb σ H1 fun y H2 => r x y H2 Q
def tUn (r : V → Hp → VK → Prop) (ta : TE) : TE := fun σ H Q => ta σ H fun x H1 => r x H1 Q
/-- ints in, under C, and a value out -/
def rI (C : Int → Int → Prop) (g : Int → Int → V) : R2 := fun x y H Q => ∃ i j, x = .int i ∧ y = .int j ∧ C i j ∧ Q (g i j) H
def rI0 (g : Int → Int → V) : R2 := fun x y H Q => ∃ i j, x = .int i ∧ y = .int j ∧ Q (g i j) H
def rU (g : Int → V) : V → Hp → VK → Prop := fun x H Q => ∃ i, x = .int i ∧ Q (g i) H

section
variable {X : Cx} {a b c : Expr} {ta tb tc : TE} {pos : Pos}

theorem binT (ha : PE X a ta) (hb : PE X b tb) {pins : List (Addr × Obj)} {s : Shared} {σ : St} {H : Hp} {R : V → V → Hp → Prop} (I : Inv X pins σ H s)
    (h : ta σ H fun x H1 => tb σ H1 fun y H2 => R x y H2) {Q : Value → Shared → Prop} {f : Value → Value → Sem Value}
    (hf : ∀ v u s2 x y H2, Inv X pins σ H2 s2 → RelV x v → RelV y u → R x y H2 → wpAny (model X.prog X.w) X.A (f v u) Q X.xe s2) :
    wpAny (model X.prog X.w) X.A (eval a X.env) (fun v s₁ => wpAny (model X.prog X.w) X.A (eval b X.env) (fun u s₂ => wpAny (model X.prog X.w) X.A (f v u) Q X.xe s₂) X.xe s₁) X.xe s := by
  refine thn (ha pins s σ H _ I h) fun v s1 ⟨x, H1, I1, r1, q1⟩ => ?_
  refine thn (hb pins s1 σ H1 _ I1 q1) fun u s2 ⟨y, H2, I2, r2, q2⟩ => ?_
  exact hf v u s2 x y H2 I2 r1 r2 q2

theorem pe_op {op : Operator} {r : R2} (ho : OpR X (binaryOp op) r) (ha : PE X a ta) (hb : PE X b tb) : PE X (.BinOp a op b pos) (tOp r ta tb) := by
  intro pins s σ H Q I h
  exact wpAny_BinOp (binT ha hb I h fun v u s2 x y H2 I2 rx ry q => ho pins s2 σ H2 x y v u Q I2 rx ry q)
theorem pe_un {op : UnaryOp} {r : V → Hp → VK → Prop} (ho : UnR X (unaryOp op) r) (ha : PE X a ta) : PE X (.UnaryOp op a pos) (tUn r ta) := by
  intro pins s σ H Q I h
  exact UnaryOp_ (thn (ha pins s σ H _ I h) fun v s1 ⟨x, H1, I1, r1, q1⟩ => ho pins s1 σ H1 x v Q I1 r1 q1)
/-! ### ints -/
theorem opI {f : Value → Value → Sem Value} {C : Int → Int → Prop} {g : Int → Int → Int}
    (rule : ∀ (i j : Int) (t u : Tok) (s : Shared) (Q : Value → Shared → Prop) (E : Value → Shared → Prop), C i j → Q (.int (g i j) s.toks) { s with toks := s.toks + 1 } → wpAny (model X.prog X.w) X.A (f (.int i t) (.int j u)) Q E s) :
    OpR X f (rI C fun i j => .int (g i j)) := by
  intro pins s σ H x y v u Q I rx ry h
  obtain ⟨i, j, rfl, rfl, hc, q⟩ := h
  obtain ⟨t, rfl⟩ := rx
  obtain ⟨t', rfl⟩ := ry
  exact rule i j t t' s _ _ hc ⟨.int (g i j), H, I.tok _, ⟨_, rfl⟩, q⟩
theorem opI0 {f : Value → Value → Sem Value} {g : Int → Int → Int}
    (rule : ∀ (i j : Int) (t u : Tok) (s : Shared) (Q : Value → Shared → Prop) (E : Value → Shared → Prop), Q (.int (g i j) s.toks) { s with toks := s.toks + 1 } → wpAny (model X.prog X.w) X.A (f (.int i t) (.int j u)) Q E s) :
    OpR X f (rI0 fun i j => .int (g i j)) := by
  intro pins s σ H x y v u Q I rx ry h
  obtain ⟨i, j, rfl, rfl, q⟩ := h
  obtain ⟨t, rfl⟩ := rx
  obtain ⟨t', rfl⟩ := ry
  exact rule i j t t' s _ _ ⟨.int (g i j), H, I.tok _, ⟨_, rfl⟩, q⟩
theorem opB0 {f : Value → Value → Sem Value} {g : Int → Int → Bool}
    (rule : ∀ (i j : Int) (t u : Tok) (s : Shared) (Q : Value → Shared → Prop) (E : Value → Shared → Prop), Q (.bool (g i j)) s → wpAny (model X.prog X.w) X.A (f (.int i t) (.int j u)) Q E s) :
    OpR X f (rI0 fun i j => .bl (g i j)) := by
  intro pins s σ H x y v u Q I rx ry h
  obtain ⟨i, j, rfl, rfl, q⟩ := h
  obtain ⟨t, rfl⟩ := rx
  obtain ⟨t', rfl⟩ := ry
  exact rule i j t t' s _ _ ⟨.bl (g i j), H, I, rfl, q⟩

def CDiv (i j : Int) : Prop := 0 < j ∧ j < 1073741824
def CPow (i j : Int) : Prop := 0 ≤ j ∧ j ≤ 1000000 ∧ i.natAbs < 2 ^ 64
def CMul (i j : Int) : Prop := (-(2 ^ 64) < i ∧ i < 2 ^ 64) ∨ (-(2 ^ 64) < j ∧ j < 2 ^ 64)
theorem CMul.ok {i j : Int} (h : CMul i j) : IntMulOk i j := by
  rcases h with ⟨h1, h2⟩ | ⟨h1, h2⟩
  · exact .of_left (intBits_le_64 h1 h2)
  · exact .of_right (intBits_le_64 h1 h2)
theorem two_pow_nn (k : Nat) : (0 : Int) ≤ 2 ^ k := by
  rw [two_pow_cast]
  exact Int.natCast_nonneg _

theorem op_add : OpR X (binaryOp .Add) (rI0 fun i j => .int (i + j)) := opI0 fun _ _ _ _ _ _ _ q => add_int q
theorem op_sub : OpR X (binaryOp .Sub) (rI0 fun i j => .int (i - j)) := opI0 fun _ _ _ _ _ _ _ q => sub_int q
theorem op_mul : OpR X (binaryOp .Mult) (rI CMul fun i j => .int (i * j)) := opI fun _ _ _ _ _ _ _ hc q => mul_int q hc.ok
/-- // by a positive divisor -/
theorem op_fdiv : OpR X (binaryOp .FloorDiv) (rI CDiv fun i j => .int (i / j)) := opI fun i j _ _ _ _ _ hc q => by
  have h1 : (0 : Int) < j := hc.1
  have h2 : j < 1073741824 := hc.2
  exact floordiv_int (by omega) (by rw [Int.fdiv_eq_ediv_of_nonneg i (by omega)]; exact q) (.inl (PyProof.noPylong_small (by omega)))
/-- % by a positive divisor of any size -/
theorem op_mod : OpR X (binaryOp .Mod) (rI (fun _ j => 0 < j) fun i j => .int (i % j)) := opI fun i j _ _ _ _ _ hc q => by
  have h1 : (0 : Int) < j := hc
  exact mod_int' (by omega) (by rw [Int.fmod_eq_emod_of_nonneg i (by omega)]; exact q)
theorem op_pow : OpR X (binaryOp .Pow) (rI CPow fun i j => .int (i ^ j.toNat)) := opI fun _ _ _ _ _ _ _ hc q => pow_int_small hc.1 hc.2.1 hc.2.2 q
theorem op_shr : OpR X (binaryOp .RShift) (rI (fun _ j => 0 ≤ j) fun i j => .int (i / 2 ^ j.toNat)) := opI fun i j _ _ _ _ _ hc q =>
  rshift_int hc (by rw [Int.fdiv_eq_ediv_of_nonneg i (two_pow_nn _)]; exact q)
theorem op_and : OpR X (binaryOp .BitAnd) (rI0 fun i j => .int (Builtin.bitAnd i j)) := opI0 fun _ _ _ _ _ _ _ q => and_int q
theorem unI {f : Value → Sem Value} {g : Int → Int}
    (rule : ∀ (i : Int) (t : Tok) (s : Shared) (Q : Value → Shared → Prop) (E : Value → Shared → Prop), Q (.int (g i) s.toks) { s with toks := s.toks + 1 } → wpAny (model X.prog X.w) X.A (f (.int i t)) Q E s) :
    UnR X f (rU fun i => .int (g i)) := by
  intro pins s σ H x v Q I rx h
  obtain ⟨i, rfl, q⟩ := h
  obtain ⟨t, rfl⟩ := rx
  exact rule i t s _ _ ⟨.int (g i), H, I.tok _, ⟨_, rfl⟩, q⟩
theorem un_neg : UnR X (unaryOp .USub) (rU fun i => .int (-i)) := unI fun _ _ _ _ _ q => neg_int q
/-! ### bools among ints: n += (a < b) -/
end

/-! ### comparisons -/
/-- the scalars that == tells apart as data does -/
def scal : V → V → Bool
  | .non, .non => true | .non, .int _ => true | .int _, .non => true | .non, .bl _ => true | .bl _, .non => true | .non, .str _ => true | .str _, .non => true
  | .int _, .int _ => true | .bl _, .bl _ => true | .str _, .str _ => true | .byt _, .byt _ => true
  | .int _, .str _ => true | .str _, .int _ => true | .bl _, .str _ => true | .str _, .bl _ => true
  | _, _ => false
def rEq : R2 := fun x y H Q => scal x y = true ∧ Q (.bl (decide (x = y))) H
def rNe : R2 := fun x y H Q => scal x y = true ∧ Q (.bl (!decide (x = y))) H

theorem dec_int {i j : Int} : decide (V.int i = V.int j) = (i == j) := by
  rw [Bool.eq_iff_iff]
  simp
theorem dec_bl {i j : Bool} : decide (V.bl i = V.bl j) = (i == j) := by
  rw [Bool.eq_iff_iff]
  simp
theorem dec_str {i j : Str} : decide (V.str i = V.str j) = (i == j) := by
  rw [Bool.eq_iff_iff]
  simp
theorem dec_byt {i j : Array UInt8} : decide (V.byt i = V.byt j) = (i.toList == j.toList) := by
  rw [Bool.eq_iff_iff]
  cases i
  cases j
  simp

section
variable {X : Cx} {a b c : Expr} {ta tb tc : TE} {pos : Pos}
theorem fin_bl {pins : List (Addr × Obj)} {σ : St} {H : Hp} {s : Shared} {Q : VK} {k k' : Bool} (I : Inv X pins σ H s) (q : Q (.bl k) H) (e : k = k') : EP X pins σ Q (.bool k') s := by
  subst e
  exact ⟨.bl k, H, I, rfl, q⟩
theorem op_eq : OpR X (compareOp .Eq) rEq := by
  intro pins s σ H x y v u Q I rx ry h
  obtain ⟨hs, q⟩ := h
  cases x with
  | non =>
    cases rx
    cases y with
    | non => cases ry; exact PySem.EqNone.eq_none_none (fin_bl I q (by simp))
    | bl j => cases ry; exact PySem.EqNone.eq_none_bool (fin_bl I q (by simp))
    | int j => obtain ⟨t', rfl⟩ := ry; exact PySem.EqNone.eq_none_int (fin_bl I q (by simp))
    | str j => obtain ⟨t', rfl⟩ := ry; exact PySem.EqNone.eq_none_str (fin_bl I q (by simp))
    | _ => exact absurd (show false = true from hs) Bool.false_ne_true
  | bl i =>
    cases rx
    cases y with
    | non => cases ry; exact PySem.EqNone.eq_bool_none (fin_bl I q (by simp))
    | bl j => cases ry; exact eq_bool (fin_bl I q dec_bl)
    | str j => obtain ⟨t', rfl⟩ := ry; exact PySem.EqMixed.eq_bool_str (fin_bl I q (by simp))
    | _ => exact absurd (show false = true from hs) Bool.false_ne_true
  | int i =>
    obtain ⟨t, rfl⟩ := rx
    cases y with
    | non => cases ry; exact PySem.EqNone.eq_int_none (fin_bl I q (by simp))
    | int j => obtain ⟨t', rfl⟩ := ry; exact eq_int (fin_bl I q dec_int)
    | str j => obtain ⟨t', rfl⟩ := ry; exact PySem.EqMixed.eq_int_str (fin_bl I q (by simp))
    | _ => exact absurd (show false = true from hs) Bool.false_ne_true
  | str i =>
    obtain ⟨t, rfl⟩ := rx
    cases y with
    | non => cases ry; exact PySem.EqNone.eq_str_none (fin_bl I q (by simp))
    | bl j => cases ry; exact PySem.EqMixed.eq_str_bool (fin_bl I q (by simp))
    | int j => obtain ⟨t', rfl⟩ := ry; exact PySem.EqMixed.eq_str_int (fin_bl I q (by simp))
    | str j => obtain ⟨t', rfl⟩ := ry; exact eq_str (fin_bl I q dec_str)
    | _ => exact absurd (show false = true from hs) Bool.false_ne_true
  | byt i =>
    obtain ⟨t, rfl⟩ := rx
    cases y with
    | byt j => obtain ⟨t', rfl⟩ := ry; exact PySem.W.eq_bytes (fin_bl I q dec_byt)
    | _ => exact absurd (show false = true from hs) Bool.false_ne_true
  | _ => cases y <;> exact absurd (show false = true from hs) Bool.false_ne_true
theorem op_ne : OpR X (compareOp .NotEq) rNe := by
  intro pins s σ H x y v u Q I rx ry h
  obtain ⟨hs, q⟩ := h
  cases x with
  | non =>
    cases rx
    cases y with
    | non => cases ry; exact PySem.EqNone.ne_none_none (fin_bl I q (by simp))
    | bl j => cases ry; exact PySem.EqNone.ne_none_bool (fin_bl I q (by simp))
    | int j => obtain ⟨t', rfl⟩ := ry; exact PySem.EqNone.ne_none_int (fin_bl I q (by simp))
    | str j => obtain ⟨t', rfl⟩ := ry; exact PySem.EqNone.ne_none_str (fin_bl I q (by simp))
    | _ => exact absurd (show false = true from hs) Bool.false_ne_true
  | bl i =>
    cases rx
    cases y with
    | non => cases ry; exact PySem.EqNone.ne_bool_none (fin_bl I q (by simp))
    | bl j => cases ry; exact ne_bool (fin_bl I q (congrArg not dec_bl))
    | str j => obtain ⟨t', rfl⟩ := ry; exact PySem.EqMixed.ne_bool_str (fin_bl I q (by simp))
    | _ => exact absurd (show false = true from hs) Bool.false_ne_true
  | int i =>
    obtain ⟨t, rfl⟩ := rx
    cases y with
    | non => cases ry; exact PySem.EqNone.ne_int_none (fin_bl I q (by simp))
    | int j => obtain ⟨t', rfl⟩ := ry; exact ne_int (fin_bl I q (congrArg not dec_int))
    | str j => obtain ⟨t', rfl⟩ := ry; exact PySem.EqMixed.ne_int_str (fin_bl I q (by simp))
    | _ => exact absurd (show false = true from hs) Bool.false_ne_true
  | str i =>
    obtain ⟨t, rfl⟩ := rx
    cases y with
    | non => cases ry; exact PySem.EqNone.ne_str_none (fin_bl I q (by simp))
    | bl j => cases ry; exact PySem.EqMixed.ne_str_bool (fin_bl I q (by simp))
    | int j => obtain ⟨t', rfl⟩ := ry; exact PySem.EqMixed.ne_str_int (fin_bl I q (by simp))
    | str j => obtain ⟨t', rfl⟩ := ry; exact ne_str (fin_bl I q (congrArg not dec_str))
    | _ => exact absurd (show false = true from hs) Bool.false_ne_true
  | byt i =>
    obtain ⟨t, rfl⟩ := rx
    cases y with
    | byt j => obtain ⟨t', rfl⟩ := ry; exact PySem.W.ne_bytes (fin_bl I q (congrArg not dec_byt))
    | _ => exact absurd (show false = true from hs) Bool.false_ne_true
  | _ => cases y <;> exact absurd (show false = true from hs) Bool.false_ne_true

theorem op_lt : OpR X (compareOp .Lt) (rI0 fun i j => .bl (decide (i < j))) := opB0 fun _ _ _ _ _ _ _ q => lt_int q
theorem op_le : OpR X (compareOp .LtE) (rI0 fun i j => .bl (decide (i ≤ j))) := opB0 fun _ _ _ _ _ _ _ q => le_int q
theorem op_gt : OpR X (compareOp .Gt) (rI0 fun i j => .bl (decide (j < i))) := opB0 fun _ _ _ _ _ _ _ q => gt_int q
theorem op_ge : OpR X (compareOp .GtE) (rI0 fun i j => .bl (decide (j ≤ i))) := opB0 fun _ _ _ _ _ _ _ q => ge_int q
theorem op_lt_str : OpR X (compareOp .Lt) (fun x y H Q => ∃ i j, x = .str i ∧ y = .str j ∧ Q (.bl (decide (i.cps.toList < j.cps.toList))) H) := by
  intro pins s σ H x y v u Q I rx ry h
  obtain ⟨i, j, rfl, rfl, q⟩ := h
  obtain ⟨t, rfl⟩ := rx
  obtain ⟨t', rfl⟩ := ry
  exact lt_str (fin_bl I q rfl)
/-- the one string within the other -/
theorem op_in_str : OpR X (compareOp .In) (fun x y H Q => ∃ i j, x = .str i ∧ y = .str j ∧ Q (.bl (!(Builtin.Str.occurrences j i 0 j.length 1).isEmpty)) H) := by
  intro pins s σ H x y v u Q I rx ry h
  obtain ⟨i, j, rfl, rfl, q⟩ := h
  obtain ⟨t, rfl⟩ := rx
  obtain ⟨t', rfl⟩ := ry
  exact in_str (fin_bl I q rfl)

/-- is None, is not None: the right side a value none -/
theorem op_isN : OpR X (compareOp .Is) (fun x y H Q => y = .non ∧ Q (.bl (decide (x = .non))) H) := by
  intro pins s σ H x y v u Q I rx ry h
  obtain ⟨rfl, q⟩ := h
  cases ry
  refine is_none_gen (fin_bl I q ?_)
  cases x <;> first
    | (cases rx; rfl)
    | (obtain ⟨t, rfl⟩ := rx; rfl)
/-- two rules for one operation: by cases -/
theorem OpR.or {f : Value → Value → Sem Value} {r r' : R2} (h : OpR X f r) (h' : OpR X f r') : OpR X f (fun x y H Q => r x y H Q ∨ r' x y H Q) := by
  intro pins s σ H x y v u Q I rx ry q
  rcases q with q | q
  · exact h pins s σ H x y v u Q I rx ry q
  · exact h' pins s σ H x y v u Q I rx ry q

theorem nomark (b : Expr) {op : CmpOp} (h : op ≠ .In := by decide) (h2 : op ≠ .NotIn := by decide) : behindInMarks op b = false := by
  have e1 : (op == CmpOp.In) = false := by cases op <;> first | rfl | exact absurd rfl h
  have e2 : (op == CmpOp.NotIn) = false := by cases op <;> first | rfl | exact absurd rfl h2
  cases b <;> simp [behindInMarks, e1, e2]
/-- a comparison as a value; hm: nomark b, or (for in, not in) by with_unfolding_all rfl -/
theorem pe_cmpR {op : CmpOp} {r : R2} (ho : OpR X (compareOp op) r) (ha : PE X a ta) (hb : PE X b tb) (hm : behindInMarks op b = false) : PE X (.Compare a [op] [b] pos) (tOp r ta tb) := by
  intro pins s σ H Q I h
  exact wpAny_Compare1 (binT ha hb I h fun v u s2 x y H2 I2 rx ry q => ho pins s2 σ H2 x y v u Q I2 rx ry q) hm
/-- a reading of a value as a test -/
def tTest (t : TE) : TT := fun σ H Q => t σ H fun x H' => ∃ k, x = .bl k ∧ Q k H'
theorem pt_cmpR {op : CmpOp} {r : R2} (ho : OpR X (compareOp op) r) (ha : PE X a ta) (hb : PE X b tb) (hm : behindInMarks op b = false) : PT X (.Compare a [op] [b] pos) (tTest (tOp r ta tb)) := by
  intro pins s σ H Q I h
  refine wpAny_isTrue_Compare1 (thn (ha pins s σ H _ I h) fun v s1 ⟨x, H1, I1, r1, q1⟩ => thn (hb pins s1 σ H1 _ I1 q1) fun u s2 ⟨y, H2, I2, r2, q2⟩ =>
    thn (ho pins s2 σ H2 x y v u _ I2 r1 r2 q2) fun c s3 ⟨z, H3, I3, r3, k, e, q3⟩ => ?_) hm
  subst e
  cases r3
  exact wpAny_truthy_bool ⟨H3, I3, q3⟩
/-! ### truth -/
/-- a value's truth by the abstract heap -/
def TruV (K : PySem.W.Frag) (x : V) (H : Hp) (k : Bool) : Prop :=
  match x with
  | .non => k = false
  | .bl b => k = b
  | .int i => k = (i != 0)
  | .str y => y.length ≤ sizeLine ∧ k = ((y.length : Int) != 0)
  | .byt y => y.size ≤ sizeLine ∧ k = ((y.size : Int) != 0)
  | .ref p => (∃ xs, SqL K H p xs ∧ k = !xs.isEmpty) ∨ (∃ xs, SqT K H p xs ∧ k = !xs.isEmpty) ∨ ∃ kvs, H p = some (.dK kvs) ∧ k = !kvs.isEmpty
  | _ => False
theorem isEmpty_kv {κ : Type} {kvs : List (κ × V)} {vs : List (κ × Value)} (r : KV kvs vs) : (!vs.isEmpty) = !kvs.isEmpty := by
  cases r <;> rfl
theorem isEmpty_of {xs : List V} {its : List Value} (r : Vals xs its) : (!its.toArray.isEmpty) = !xs.isEmpty := by
  cases r <;> simp
theorem line63 : (sizeLine : Nat) < 2 ^ 63 := by rw [sizeLine_eq]; decide
theorem tru_ok : TruR X (fun x H Q => ∃ k, TruV X.K x H k ∧ Q k H) := by
  intro pins s σ H x v Q I rx h
  obtain ⟨k, e, q⟩ := h
  have hl := line63
  have hs : sizeLine = 16777216 := sizeLine_eq
  cases x with
  | non =>
    cases rx
    have e' : k = false := e
    subst e'
    exact truthy_none ⟨H, I, q⟩
  | bl b =>
    cases rx
    have e' : k = b := e
    subst e'
    exact wpAny_truthy_bool ⟨H, I, q⟩
  | int i =>
    obtain ⟨t, rfl⟩ := rx
    have e' : k = (i != 0) := e
    subst e'
    exact PySem.P.truthy_int ⟨H, I, q⟩
  | str y =>
    obtain ⟨t, rfl⟩ := rx
    obtain ⟨hy, e'⟩ : y.length ≤ sizeLine ∧ k = ((y.length : Int) != 0) := e
    subst e'
    exact PySem.P.truthy_str (by omega) ⟨H, I.tok _, q⟩
  | byt y =>
    obtain ⟨t, rfl⟩ := rx
    obtain ⟨hy, e'⟩ : y.size ≤ sizeLine ∧ k = ((y.size : Int) != 0) := e
    subst e'
    exact PySem.W.truthy_bytes (by omega) ⟨H, I.tok _, q⟩
  | ref p =>
    cases rx
    have e' : (∃ xs, SqL X.K H p xs ∧ k = !xs.isEmpty) ∨ (∃ xs, SqT X.K H p xs ∧ k = !xs.isEmpty) ∨ ∃ kvs, H p = some (.dK kvs) ∧ k = !kvs.isEmpty := e
    rcases e' with ⟨xs, hx, e'⟩ | ⟨xs, hx, e'⟩ | ⟨kvs, hx, e'⟩
    · subst e'
      obtain ⟨its, r, pl, hz⟩ := I.list hx
      have hlen := r.length
      exact wpAny_truthy_list pl.isList (by simp only [List.size_toArray]; omega) ⟨H, I.tok _, by rw [isEmpty_of r]; exact q⟩
    · subst e'
      obtain ⟨its, r, pl, hz⟩ := I.tuple hx
      have hlen := r.length
      exact truthy_tuple pl (by simp only [List.size_toArray]; omega) ⟨H, I.tok _, by rw [isEmpty_of r]; exact q⟩
    · subst e'
      obtain ⟨hz, hS, vs, r, m⟩ : kvs.length ≤ sizeLine ∧ (p == sysModules) = false ∧ ∃ vs, KV kvs vs ∧ s.heap.DictOf (mixKind X.prog X.w) p vs := I.hok p _ hx
      have hlen : kvs.length = vs.length := Paired.length r
      exact wpAny_truthy_dict hS m (by omega) ⟨H, I.tok _, by rw [isEmpty_kv r]; exact q⟩
  | _ => exact (show False from e).elim
/-- any expression whose test is its value's truth (a name, a call, a subscript, a field ..: he by fun _ => rfl) -/
theorem pt_truth (ha : PE X a ta) (he : ∀ whole, isTrue a X.env whole = (do let v ← whole; standAt a.pos; holding [v] (truthy v))) :
    PT X a (fun σ H Q => ta σ H fun x H' => ∃ k, TruV X.K x H' k ∧ Q k H') := by
  intro pins s σ H Q I h
  exact isTrue_plain (thn (ha pins s σ H _ I h) fun v s1 ⟨x, H1, I1, r1, q1⟩ => tru_ok pins s1 σ H1 x v Q I1 r1 q1) (he _)

/-! ### strs and bytes -/
theorem op_add_str : OpR X (binaryOp .Add) (fun x y H Q => ∃ i j, x = .str i ∧ y = .str j ∧ i.length + j.length ≤ sizeLine ∧ Q (.str (i ++ j)) H) := by
  intro pins s σ H x y v u Q I rx ry h
  obtain ⟨i, j, rfl, rfl, hz, q⟩ := h
  obtain ⟨t, rfl⟩ := rx
  obtain ⟨t', rfl⟩ := ry
  exact add_str (fun t' tk => ⟨.str (i ++ j), H, I.tok _, ⟨_, rfl⟩, q⟩) hz
/-! ### scalar builtins, by CallR -/
theorem vals1 {x : V} {us : List Value} (r : Vals [x] us) : ∃ u, us = [u] ∧ RelV x u := by
  cases r with
  | cons r1 r2 => cases r2; exact ⟨_, rfl, r1⟩
theorem vals2 {x y : V} {us : List Value} (r : Vals [x, y] us) : ∃ u w', us = [u, w'] ∧ RelV x u ∧ RelV y w' := by
  cases r with
  | cons r1 r2 =>
    cases r2 with
    | cons r3 r4 => cases r4; exact ⟨_, _, rfl, r1, r3⟩
theorem call_int1 : CallR X (.type "int") (fun xs H Q => (∃ i, xs = [.int i] ∧ Q (.int i) H) ∨ ∃ k, xs = [.bl k] ∧ Q (.int (if k then 1 else 0)) H) := by
  intro pins s σ H xs us Q I r h
  rcases h with ⟨i, rfl, q⟩ | ⟨k, rfl, q⟩
  · obtain ⟨u, rfl, t, rfl⟩ := vals1 r
    exact call_int_int ⟨.int i, H, I, ⟨_, rfl⟩, q⟩
  · obtain ⟨u, rfl, r1⟩ := vals1 r
    cases r1
    exact call_int_bool ⟨.int (if k then 1 else 0), H, I.tok _, ⟨_, rfl⟩, q⟩
/-- len of a str, a bytes, a list, a tuple -/
def LenV (K : PySem.W.Frag) (x : V) (H : Hp) (n : Nat) : Prop :=
  match x with
  | .str y => y.length ≤ sizeLine ∧ n = y.length
  | .byt y => y.size ≤ sizeLine ∧ n = y.size
  | .ref p => (∃ xs, SqL K H p xs ∧ n = xs.length) ∨ ∃ xs, SqT K H p xs ∧ n = xs.length
  | _ => False
theorem call_len : CallR X (.builtin "len") (fun xs H Q => ∃ x n, xs = [x] ∧ LenV X.K x H n ∧ Q (.int n) H) := by
  intro pins s σ H xs us Q I r h
  obtain ⟨x, n, rfl, e, q⟩ := h
  obtain ⟨u, rfl, rx⟩ := vals1 r
  have hl := line63
  have hs : sizeLine = 16777216 := sizeLine_eq
  cases x with
  | str y =>
    obtain ⟨t, rfl⟩ := rx
    obtain ⟨hy, e'⟩ : y.length ≤ sizeLine ∧ n = y.length := e
    subst e'
    exact len_str (by omega) ⟨.int _, H, I.tok _, ⟨_, rfl⟩, q⟩
  | byt y =>
    obtain ⟨t, rfl⟩ := rx
    obtain ⟨hy, e'⟩ : y.size ≤ sizeLine ∧ n = y.size := e
    subst e'
    exact PySem.W.len_bytes (by omega) ⟨.int _, H, I.tok _, ⟨_, rfl⟩, q⟩
  | ref p =>
    cases rx
    have e' : (∃ xs, SqL X.K H p xs ∧ n = xs.length) ∨ ∃ xs, SqT X.K H p xs ∧ n = xs.length := e
    rcases e' with ⟨xs, hx, e'⟩ | ⟨xs, hx, e'⟩
    · subst e'
      obtain ⟨its, r', pl, hz⟩ := I.list hx
      have hlen := r'.length
      exact Calls.call_len_list pl.isList (by simp only [List.size_toArray]; omega) ⟨.int xs.length, H, I.tok _, ⟨_, by simp only [List.size_toArray]; rw [hlen]⟩, q⟩
    · subst e'
      obtain ⟨its, r', pl, hz⟩ := I.tuple hx
      have hlen := r'.length
      exact len_tuple pl (by simp only [List.size_toArray]; omega) ⟨.int xs.length, H, I.tok _, ⟨_, by simp only [List.size_toArray]; rw [hlen]⟩, q⟩
  | _ => exact (show False from e).elim
end
end L2

namespace L2
open PySem PySem.Spec PyProof.Rows

/-! ### an instance, its attributes a map -/
structure ObjM (h : Heap) (x dx C : Addr) (mA : Str → Option Value) : Prop where
  obj : h.get? x = some (PySem.W.instObj C dx)
  ns : h.Ns1 dx mA
  ne : dx ≠ x

theorem lookIn_ns {h : Heap} {dx : Addr} {mA : Str → Option Value} (n : h.Ns1 dx mA) : ∃ od, h.get? dx = some od ∧ ∀ name, PySem.W.lookIn name od = some (mA name) := by
  obtain ⟨o, es, ep, ho, hd, hk, _, hm⟩ := n
  refine ⟨o, ho, fun name => ?_⟩
  have e := hm name
  unfold nsFind findBy at e
  rw [← Array.find?_toList] at e
  unfold PySem.W.lookIn
  rw [hd]
  dsimp only
  split
  · rename_i y q
    rw [q] at e
    exact congrArg some e
  · rename_i q
    rw [q] at e
    have a : es.toList.any (·.refKey) = false := by
      rw [List.any_eq_false]
      intro y hy
      obtain ⟨z, t, hkey⟩ := hk y (Array.mem_toList_iff.mp hy)
      simp [DictEntry.refKey, hkey]
    have a' : ¬ es.toList.any (·.refKey) = true := by rw [a]; exact Bool.false_ne_true
    rw [if_neg a']
    exact congrArg some e

theorem ObjM.look {h : Heap} {x dx C : Addr} {mA : Str → Option Value} (I : ObjM h x dx C mA) : ∃ od, PySem.W.InstAt h x (PySem.W.instObj C dx) C (some od) ∧ ∀ name, PySem.W.lookIn name od = some (mA name) :=
  let ⟨od, ho, hl⟩ := lookIn_ns I.ns
  ⟨od, ⟨I.obj, rfl, rfl, ho⟩, hl⟩

section
variable {prog : Program} {w : World} {A : Around} {E : Value → Shared → Prop} {s : Shared} {K : PySem.W.Frag} {x dx C f : Addr} {mA : Str → Option Value} {name : Str} {v : Value}

theorem get_map {expr : Bool} {Q : Value → Shared → Prop} (X : K.In s.heap) (I : ObjM s.heap x dx C mA) (hg : PySem.W.plainGet K C name = true) (hh : PySem.W.hasDictIn K C = true)
    (ha : PySem.W.findIn K (.ref C) name = some none) (hv : mA name = some v) (hv' : PySem.W.handedIn v = true) (h : Q v { s with toks := s.toks + 1 }) :
    wpAny (model prog w) A (getAttr (.ref x) name expr) Q E s := by
  obtain ⟨od, J, hl⟩ := I.look
  exact PySem.W.get_value X J (PySem.W.plainGet_of hg).1 (PySem.W.findObj_own hh ha rfl (by rw [hl, hv])) hv' h

theorem get_meth {pl : Sem Bool} {Q : Value × List Value → Shared → Prop} (X : K.In s.heap) (I : ObjM s.heap x dx C mA) (hg : PySem.W.plainGet K C name = true)
    (hf : PySem.W.findIn K (.ref C) name = some (some (.ref f))) (ht : PySem.W.isFn K (.ref f) = true) (hv : mA name = none) (h : Q (.ref f, [.ref x]) s) :
    wpAny (model prog w) A (getMethod (.ref x) name pl) Q E s := by
  obtain ⟨od, J, hl⟩ := I.look
  exact PySem.W.method_fn X J (PySem.W.plainGet_of hg).1 (PySem.W.plainGet_of hg).2 hf (beq_iff_eq.mp ht) (by show (PySem.W.lookIn name od).map (·.isSome) = some false; rw [hl, hv]; rfl) h

theorem set_map {ns : List Str} {Q : Unit → Shared → Prop} (X : K.In s.heap) (I : ObjM s.heap x dx C mA)
    (hs : PySem.W.findIn K (.ref C) "__setattr__" = some (some (.builtin "object.__setattr__"))) (hp : PySem.W.plainOver K C = true) (ht : PySem.W.takerIn K C name = some none) (hh : PySem.W.hasDictIn K C = true)
    (hw : PySem.Within mA ns) (hsz : ns.length ≤ sizeLine)
    (h : ∀ h', ObjM h' x dx C (fun y => if y = name then some v else mA y) → Heap.SameBut dx s.heap h' → Q () { s with heap := h', toks := s.toks + 2 }) :
    wpAny (model prog w) A (setAttr (.ref x) name v) Q E s := by
  obtain ⟨od, J, hl⟩ := I.look
  refine PySem.W.set_plain X J hs (PySem.W.osa_open (s := { s with toks := s.toks + 1 }) (r := none) X J hp ht fun b => ?_)
  obtain ⟨cd, hc, hd'⟩ := PySem.W.any_some hh
  have hx : s.heap.get? x = some ⟨.ref C, some dx, .plain, #[]⟩ := I.obj
  refine wpAny_bind (wpAny_pure (wpAny_bind (wpAny_bind (wpAny_loadPart hx (wpAny_bind (PySem.W.Looks.here (s := { s with toks := s.toks + 1 }) (PySem.W.looks_clsIn X hc) ?_))))))
  rw [hd']
  refine wpAny_pure (a := some dx) (wpAny_bind (wpAny_pure (wpAny_bind ?_)))
  refine wpAny_nsSet1 (s := { s with toks := s.toks + 1 }) I.ns fun h' hn2 hs2 => ?_
  obtain ⟨oD, esD, epD, hoD, hdD, hcD⟩ := hn2.count (PySem.Within.cons name v hw)
  refine wpAny_bind (wpAny_lookBehind hoD (by rw [hdD]; exact pastItsLine_dict (Nat.le_trans hcD (by rw [List.length_cons]; omega))) ?_)
  exact wpAny_pure (h _ ⟨(hs2.2 _ (Ne.symm I.ne)).trans I.obj, hn2, I.ne⟩ hs2)

/-- C(..): the dict at the heap's end, the instance behind it; then its __init__ -/
theorem make_map {R : Result → Shared → Prop} {vs : List Value} {kw : List (Str × Value)} (X : K.In s.heap) (hm : PySem.W.makesIn K C = true)
    (hi : PySem.W.findIn K (.ref C) "__init__" = some (some (.ref f))) (hf : PySem.W.typeIn K (.ref f) = some (.type "function"))
    (h : codeAny (model prog w) (A.under (.builtin "type.__call__" ⟨.ref C :: vs, kw⟩)) (.call (.ref f) ⟨.ref (s.heap.objs.size + 1) :: vs, kw⟩) (PySem.W.InitBack (s.heap.objs.size + 1) R)
      { s with heap := (s.heap.push PySem.W.emptyDict).push (PySem.W.instObj C s.heap.objs.size) }) :
    codeAny (model prog w) A (.call (.ref C) ⟨vs, kw⟩) R s := by
  obtain ⟨hh, g, d, t, os⟩ := s
  exact PySem.W.make_core (PySem.W.makes_of X hm) (PySem.W.looks_findIn X hi) (fun self => PySem.W.bind_fn X self hf) (.inl rfl) h
/-- C() where there is no __init__ but object's -/
theorem make_map0 {R : Result → Shared → Prop} (X : K.In s.heap) (hm : PySem.W.makesIn K C = true)
    (hi : PySem.W.findIn K (.ref C) "__init__" = some (some (.builtin "object.__init__")))
    (hb : ∀ self, PySem.W.Looks (model prog w) s.heap (bindSpecial (.builtin "object.__init__") self) (.builtin "object.__init__", [self]))
    (h : codeAny (model prog w) (A.under (.builtin "type.__call__" ⟨[.ref C], []⟩)) (.call (.builtin "object.__init__") ⟨[.ref (s.heap.objs.size + 1)], []⟩) (PySem.W.InitBack (s.heap.objs.size + 1) R)
      { s with heap := (s.heap.push PySem.W.emptyDict).push (PySem.W.instObj C s.heap.objs.size) }) :
    codeAny (model prog w) A (.call (.ref C) ⟨[], []⟩) R s := by
  obtain ⟨hh, g, d, t, os⟩ := s
  exact PySem.W.make_core (PySem.W.makes_of X hm) (PySem.W.looks_findIn X hi) hb (.inr ⟨rfl, rfl⟩) h
end

/-! ### the attributes as a list of pairs -/
def putF (f : Str) (v : V) : List (Str × V) → List (Str × V)
  | [] => [(f, v)]
  | (g, x) :: r => if g = f then (g, v) :: r else (g, x) :: putF f v r
theorem lookup_putF (f g : Str) (v : V) : ∀ fs : List (Str × V), (putF f v fs).lookup g = if g = f then some v else fs.lookup g
  | [] => by
    show List.lookup g [(f, v)] = _
    by_cases h : g = f
    · have hb : (g == f) = true := beq_iff_eq.mpr h
      simp only [List.lookup, hb, if_pos h]
    · have hb : (g == f) = false := beq_eq_false_iff_ne.mpr h
      simp only [List.lookup, hb, if_neg h]
  | (k, x) :: r => by
    have ih := lookup_putF f g v r
    rw [show putF f v ((k, x) :: r) = (if k = f then (k, v) :: r else (k, x) :: putF f v r) from rfl]
    by_cases hk : k = f
    · rw [if_pos hk]
      by_cases h : g = k
      · have hb : (g == k) = true := beq_iff_eq.mpr h
        simp only [List.lookup, hb, if_pos (h.trans hk)]
      · have hb : (g == k) = false := beq_eq_false_iff_ne.mpr h
        simp only [List.lookup, hb, if_neg (fun e : g = f => h (e.trans hk.symm))]
    · rw [if_neg hk]
      by_cases h : g = k
      · have hb : (g == k) = true := beq_iff_eq.mpr h
        simp only [List.lookup, hb, if_neg (fun e : g = f => hk (h.symm.trans e))]
      · have hb : (g == k) = false := beq_eq_false_iff_ne.mpr h
        simp only [List.lookup, hb]
        exact ih
theorem keys_putF (f : Str) (v : V) : ∀ fs : List (Str × V), f ∈ (putF f v fs).map (·.1) ∧ ∀ g, g ∈ fs.map (·.1) → g ∈ (putF f v fs).map (·.1)
  | [] => ⟨by simp [putF], fun g h => by simp at h⟩
  | (k, x) :: r => by
    obtain ⟨i1, i2⟩ := keys_putF f v r
    rw [show putF f v ((k, x) :: r) = (if k = f then (k, v) :: r else (k, x) :: putF f v r) from rfl]
    by_cases hk : k = f
    · rw [if_pos hk]
      subst hk
      exact ⟨by simp, fun g h => by simpa using h⟩
    · rw [if_neg hk]
      refine ⟨?_, fun g h => ?_⟩
      · rw [List.map_cons]
        exact List.mem_cons_of_mem _ i1
      · rw [List.map_cons] at h ⊢
        rcases List.mem_cons.mp h with e | e
        · exact List.mem_cons.mpr (.inl e)
        · exact List.mem_cons_of_mem _ (i2 g e)
theorem length_putF (f : Str) (v : V) : ∀ fs : List (Str × V), (putF f v fs).length ≤ fs.length + 1
  | [] => by simp [putF]
  | (k, x) :: r => by
    have ih := length_putF f v r
    rw [show putF f v ((k, x) :: r) = (if k = f then (k, v) :: r else (k, x) :: putF f v r) from rfl]
    by_cases hk : k = f
    · rw [if_pos hk, List.length_cons, List.length_cons]; omega
    · rw [if_neg hk, List.length_cons, List.length_cons]; omega

theorem RelO.some_of {v : V} {o : Option Value} (r : RelO (some v) o) : ∃ u, o = some u ∧ RelV v u := by
  cases o with
  | none => exact (show False from r).elim
  | some u => exact ⟨u, rfl, r⟩
theorem RelO.none_of {o : Option Value} (r : RelO none o) : o = none := by
  cases o with
  | none => rfl
  | some u => exact (show False from r).elim
theorem handed_of {v : V} {u : Value} (r : RelV v u) : PySem.W.handedIn u = true := by
  cases v with
  | non => cases (show u = Value.none from r); rfl
  | bl b => cases (show u = Value.bool b from r); rfl
  | int i => obtain ⟨t, e⟩ := (show ∃ t, u = Value.int i t from r); cases e; rfl
  | str x => obtain ⟨t, e⟩ := (show ∃ t, u = Value.str x t from r); cases e; rfl
  | byt b => obtain ⟨t, e⟩ := (show ∃ t, u = Value.bytes b t from r); cases e; rfl
  | flt b => obtain ⟨t, e⟩ := (show ∃ t, u = Value.float b t from r); cases e; rfl
  | ref a => cases (show u = Value.ref a from r); rfl
  | ty n => cases (show u = Value.type n from r); rfl

section
variable {P : Program} {w : World} {H H' : Hp} {h h' : Heap} {a C dx : Addr} {fs fs' : List (Str × V)}
theorem ins_get (hok : HOk P w H h) (e : H a = some (.ins C dx fs)) : ∃ mA, ObjM h a dx C mA ∧ (∀ f, RelO (fs.lookup f) (mA f)) ∧ PySem.Within mA (fs.map (·.1)) ∧ fs.length ≤ 1000 ∧ H dx = some (.own a) := by
  obtain ⟨d, z, ne, ob, mA, n, r, q⟩ := (show ObjOk P w H h a (.ins C dx fs) from hok a _ e)
  exact ⟨mA, ⟨ob, n, ne⟩, r, q, z, d⟩
end

/-! ### what of the text a class must have -/
structure Cls (K : PySem.W.Frag) (C : Addr) : Prop where
  pg : PySem.W.plainGet K C Str.empty = true
  hd : PySem.W.hasDictIn K C = true
  po : PySem.W.plainOver K C = true
  sa : PySem.W.findIn K (.ref C) "__setattr__" = some (some (.builtin "object.__setattr__"))
theorem Cls.get {K : PySem.W.Frag} {C : Addr} (c : Cls K C) (f : Str) : PySem.W.plainGet K C f = true := c.pg
/-- no class of it has the name -/
def NoAttr (K : PySem.W.Frag) (C : Addr) (f : Str) : Prop := PySem.W.findIn K (.ref C) f = some none
theorem NoAttr.taker {K : PySem.W.Frag} {C : Addr} {f : Str} (n : NoAttr K C f) : PySem.W.takerIn K C f = some none := by
  unfold PySem.W.takerIn
  rw [show PySem.W.findIn K (.ref C) f = some none from n]
  rfl
/-- a constant of the class -/
structure Con (K : PySem.W.Frag) (C : Addr) (f : Str) (v : V) (u : Value) : Prop where
  at_ : PySem.W.findIn K (.ref C) f = some (some u)
  rel : RelV v u
  get : PySem.W.specialIn K u "__get__" = some none
  cp : PySem.W.copiedNames.contains f = false
/-- a method: a plain def of the class or of one above it -/
structure Meth (K : PySem.W.Frag) (C : Addr) (m : Str) (f : Addr) : Prop where
  at_ : PySem.W.findIn K (.ref C) m = some (some (.ref f))
  fn : PySem.W.isFn K (.ref f) = true
  kp : PySem.W.keepIn K (.ref f) = true

section
variable {X : Cx} {pins : List (Addr × Obj)} {σ : St} {H : Hp} {s : Shared} {a C dx : Addr} {fs : List (Str × V)} {f : Str} {v : V} {A : Around} {E : Value → Shared → Prop}

theorem getattr_ok {b : Bool} {Q : Value → Shared → Prop} (I : Inv X pins σ H s) (e : H a = some (.ins C dx fs)) (c : Cls X.K C) (n : NoAttr X.K C f) (l : fs.lookup f = some v)
    (h : ∀ u s', Inv X pins σ H s' → RelV v u → Q u s') : wpAny (model X.prog X.w) A (getAttr (.ref a) f b) Q E s := by
  obtain ⟨mA, O, r, _, _, _⟩ := ins_get I.hok e
  obtain ⟨u, hu, ru⟩ := RelO.some_of (v := v) (o := mA f) (by rw [← l]; exact r f)
  exact get_map I.kIn O (c.get f) c.hd n hu (handed_of ru) (h u _ (I.tok _) ru)

theorem getmeth_ok {m : Str} {g : Addr} {pl : Sem Bool} {Q : Value × List Value → Shared → Prop} (I : Inv X pins σ H s) (e : H a = some (.ins C dx fs)) (c : Cls X.K C) (k : Meth X.K C m g) (l : fs.lookup m = none)
    (h : Q (.ref g, [.ref a]) s) : wpAny (model X.prog X.w) A (getMethod (.ref a) m pl) Q E s := by
  obtain ⟨mA, O, r, _, _, _⟩ := ins_get I.hok e
  have hn : mA m = none := RelO.none_of (by rw [← l]; exact r m)
  exact get_meth I.kIn O (c.get m) k.at_ k.fn hn h

theorem setattr_ok {y : V} {u : Value} {Q : Unit → Shared → Prop} (I : Inv X pins σ H s) (e : H a = some (.ins C dx fs)) (c : Cls X.K C) (n : NoAttr X.K C f) (hl : fs.length < 1000) (ry : RelV y u)
    (h : ∀ s', Inv X pins σ (upd H a (.ins C dx (putF f y fs))) s' → Q () s') : wpAny (model X.prog X.w) A (setAttr (.ref a) f u) Q E s := by
  obtain ⟨mA, O, r, wi, _, ho⟩ := ins_get I.hok e
  have hz : (fs.map (·.1)).length ≤ sizeLine := by rw [List.length_map, sizeLine_eq]; omega
  refine set_map I.kIn O c.sa c.po n.taker c.hd wi hz fun h' O' sb => h _ ?_
  have hd : ∃ o, h'.get? dx = some o := let ⟨o, _, _, e', _⟩ := O'.ns; ⟨o, e'⟩
  refine I.write (x := a) (e := dx) (by rw [e]; exact True.intro) (.inr ho) (fun b q hb z => (sb.2 b hb).trans z) hd ?_
  refine ⟨by rw [upd_ne O.ne]; exact ho, ?_, O.ne, O'.obj, _, O'.ns, fun g => ?_, fun g hg => ?_⟩
  · have := length_putF f y fs; omega
  · show RelO ((putF f y fs).lookup g) (if g = f then some u else mA g)
    rw [lookup_putF]
    by_cases q : g = f
    · rw [if_pos q, if_pos q]; exact ry
    · rw [if_neg q, if_neg q]; exact r g
  · by_cases q : g = f
    · rw [q]; exact (keys_putF f y fs).1
    · refine (keys_putF f y fs).2 g (wi g fun z => hg ?_)
      show (if g = f then some u else mA g) = none
      rw [if_neg q]; exact z

/-- a new instance, tracked, without attributes -/
theorem Inv.made (I : Inv X pins σ H s) : Inv X pins σ (upd (upd H s.heap.objs.size (.own (s.heap.objs.size + 1))) (s.heap.objs.size + 1) (.ins C s.heap.objs.size []))
    { s with heap := (s.heap.push PySem.W.emptyDict).push (PySem.W.instObj C s.heap.objs.size) } := by
  have e1 : (s.heap.push PySem.W.emptyDict).get? s.heap.objs.size = some PySem.W.emptyDict := Heap.get?_push_size s.heap rfl
  have e2 : ((s.heap.push PySem.W.emptyDict).push (PySem.W.instObj C s.heap.objs.size)).get? (s.heap.objs.size + 1) = some (PySem.W.instObj C s.heap.objs.size) := by
    have := Heap.get?_push_size (s.heap.push PySem.W.emptyDict) (o := PySem.W.instObj C s.heap.objs.size) rfl
    rwa [Heap.size_push] at this
  have e3 : (s.heap.push PySem.W.emptyDict).Ns s.heap.objs.size (fun _ => none) := ⟨PySem.W.emptyDict, #[], _, e1, rfl, (fun e he => absurd he (by simp)), fun _ => rfl⟩
  have I1 := I.laid (a := s.heap.objs.size) (o := .own (s.heap.objs.size + 1)) (h' := s.heap.push PySem.W.emptyDict) (t' := s.toks) (fun b u q => Heap.get?_push_of_some _ q) (Nat.le_refl _) ⟨_, e1⟩
  refine I1.laid (a := s.heap.objs.size + 1) (o := .ins C s.heap.objs.size []) (t' := s.toks) (fun b u q => Heap.get?_push_of_some _ q) (Nat.le_of_eq (Heap.size_push _ _)) ?_
  have ne : s.heap.objs.size ≠ s.heap.objs.size + 1 := Nat.ne_of_lt (Nat.lt_succ_self _)
  refine ⟨by rw [upd_ne ne, upd_same], Nat.zero_le _, ne, e2, fun _ => none, (Heap.Ns1.of_empty e3).at fun o q => Heap.get?_push_of_some _ q, fun _ => True.intro, fun y hy => absurd rfl hy⟩

/-- e.f where nothing but the object is asked: through attributeBase (super) and the last hold -/
theorem attr_of {prog : Program} {w : World} {env : Env} {e : Expr} {f : Str} {pos : Pos} {s : Shared} {Q : Value → Shared → Prop} (hb : attributeBase e f env (eval e env) = eval e env)
    (h : wpAny (model prog w) A (eval e env) (fun o s₁ => wpAny (model prog w) A (getAttr o f true) Q E s₁) E s) : wpAny (model prog w) A (eval (.Attribute e f pos) env) Q E s :=
  Attribute_any_ h (by rw [arm_eval_Attribute, hb])
end

/-! ### readings and rules -/
/-- e.f, an attribute of the instance -/
def tFld (K : PySem.W.Frag) (ta : TE) (f : Str) : TE := fun σ H Q => ta σ H fun x H1 => ∃ a C dx fs v, x = .ref a ∧ H1 a = some (.ins C dx fs) ∧ Cls K C ∧ NoAttr K C f ∧ fs.lookup f = some v ∧ Q v H1
/-- e.f = value -/
def sFld (K : PySem.W.Frag) (ta tv : TE) (f : Str) : TS := fun D σ H => tv σ H fun y H1 => ta σ H1 fun x H2 => ∃ a C dx fs, x = .ref a ∧ H2 a = some (.ins C dx fs) ∧ Cls K C ∧ NoAttr K C f ∧ fs.length < 1000 ∧
  D.nx σ (upd H2 a (.ins C dx (putF f y fs)))
section
variable {X : Cx} {o e value : Expr} {f : Str} {pos pos' tpos : Pos} {ta tv : TE}
theorem pe_fld (he : PE X e ta) (hb : attributeBase e f X.env (eval e X.env) = eval e X.env) : PE X (.Attribute e f pos) (tFld X.K ta f) := by
  intro pins s σ H Q I h
  refine attr_of hb (thn (he pins s σ H _ I h) fun u s1 ⟨x, H1, I1, rx, a, C, dx, fs, v, ex, ea, c, n, l, q⟩ => ?_)
  subst ex
  obtain rfl : u = Value.ref a := rx
  exact getattr_ok I1 ea c n l fun u' s2 I2 ru => ⟨v, H1, I2, ru, q⟩
theorem ps_fld (ha : PE X o ta) (hv : PE X value tv) (hs : swapsWith value (some (.Attribute o f pos')) pos.line X.env = pure false) : PS X (.Assign [.Attribute o f pos'] value pos) (sFld X.K ta tv f) := by
  intro pins s σ H D I h
  refine plainObj_wpAny_Assign_Attribute (thn (hv pins s σ H _ I h) fun u s1 ⟨y, H1, I1, ry, q⟩ => thn (ha pins s1 σ H1 _ I1 q) fun ov s2 ⟨x, H2, I2, rx, a, C, dx, fs, ex, ea, c, n, l, q2⟩ => ?_) hs
  subst ex
  obtain rfl : ov = Value.ref a := rx
  exact setattr_ok I2 ea c n l ry fun s3 I3 => ⟨σ, _, I3, q2⟩
end

/-! ### isinstance -/
section
variable {X : Cx} {pins : List (Addr × Obj)} {σ : St} {H : Hp} {s : Shared} {A : Around} {E : Value → Shared → Prop} {Q : Value → Shared → Prop} {c : Value} {b : Bool}
/-- the type of a value, as the fragment's deciders take it; for an instance its class -/
inductive TyOf (K : PySem.W.Frag) (H : Hp) : V → Value → Prop where
  | non : TyOf K H .non (.type "NoneType")
  | bl (x : Bool) : TyOf K H (.bl x) (.type "bool")
  | int (i : Int) : TyOf K H (.int i) (.type "int")
  | str (x : Str) : TyOf K H (.str x) (.type "str")
  | flt (x : UInt64) : TyOf K H (.flt x) (.type "float")
  | lst {a : Addr} {xs : List V} (e : H a = some (.lst xs)) : TyOf K H (.ref a) (.type "list")
  | frz {a : Addr} {o : Obj} {xs : List V} (e : H a = some (.frz o (.lst xs))) : TyOf K H (.ref a) (.type "list")
  | tup {a : Addr} {xs : List V} (e : H a = some (.tup xs)) : TyOf K H (.ref a) (.type "tuple")
  | dK {a : Addr} {kvs : List (Key × V)} (e : H a = some (.dK kvs)) : TyOf K H (.ref a) (.type "dict")
  | dT {a : Addr} {kvs : List (List Key × V)} (e : H a = some (.dT kvs)) : TyOf K H (.ref a) (.type "dict")
  | ins {a C dx : Addr} {fs : List (Str × V)} (e : H a = some (.ins C dx fs)) (cl : Cls K C) (ha : PySem.W.findIn K (.ref C) "__class__" = some (some (.builtin "object.__class__")))
      (hn : PySem.W.specialIn K (.builtin "object.__class__") "__get__" = some (some (.builtin "getset_descriptor.__get__"))) (htk : PySem.W.takesIn K (.builtin "object.__class__") = some true)
      (hm : PySem.W.mroIn K C (.type "object") = some true) : TyOf K H (.ref a) (.ref C)
/-- isinstance(x, c) for one class c, a built-in or an own one: kitOne's answer -/
theorem isinst_ok {x : V} {u t : Value} (I : Inv X pins σ H s) (rx : RelV x u) (ty : TyOf X.K H x t) (e : PySem.W.kitOne X.K t c = some b) (h : ∀ tk, Q (.bool b) { s with toks := tk }) :
    wpAny (model X.prog X.w) A (call (.builtin "isinstance") [u, c]) Q E s := by
  cases ty with
  | non => cases (show u = Value.none from rx); exact PySem.W.kia_one PySem.W.kitx_none I.kIn True.intro e (fun z => nomatch z) h
  | bl y => cases (show u = Value.bool y from rx); exact PySem.W.kia_one PySem.W.kitx_bool I.kIn True.intro e (fun z => nomatch z) h
  | int i => obtain ⟨t, q⟩ := (show ∃ t, u = Value.int i t from rx); cases q; exact PySem.W.kia_one PySem.W.kitx_int I.kIn True.intro e (fun z => nomatch z) h
  | str y => obtain ⟨t, q⟩ := (show ∃ t, u = Value.str y t from rx); cases q; exact PySem.W.kia_one PySem.W.kitx_str I.kIn True.intro e (fun z => nomatch z) h
  | flt y => obtain ⟨t, q⟩ := (show ∃ t, u = Value.float y t from rx); cases q; exact PySem.W.kia_one PySem.W.kitx_float I.kIn True.intro e (fun z => nomatch z) h
  | @lst a xs ea =>
    cases (show u = Value.ref a from rx)
    obtain ⟨_, _, n, _, h1⟩ := (show ObjOk X.prog X.w H s.heap a (.lst xs) from I.hok a _ ea)
    exact PySem.W.kia_one PySem.W.kitx_list I.kIn ⟨_, h1, rfl⟩ e (fun z => nomatch z) h
  | @frz a ob xs ea =>
    cases (show u = Value.ref a from rx)
    obtain ⟨_, _, _, n, _, h1⟩ := (show ObjOk X.prog X.w H s.heap a (.frz ob (.lst xs)) from I.hok a _ ea)
    exact PySem.W.kia_one PySem.W.kitx_list I.kIn ⟨_, h1, rfl⟩ e (fun z => nomatch z) h
  | @tup a xs ea =>
    cases (show u = Value.ref a from rx)
    obtain ⟨_, _, _, p⟩ := (show ObjOk X.prog X.w H s.heap a (.tup xs) from I.hok a _ ea)
    obtain ⟨o, h1, h2, _⟩ := p
    exact PySem.W.kia_one PySem.W.kitx_tuple I.kIn ⟨o, h1, h2⟩ e (fun z => nomatch z) h
  | @dK a kvs ea =>
    cases (show u = Value.ref a from rx)
    obtain ⟨_, _, vs, _, p⟩ := (show ObjOk X.prog X.w H s.heap a (.dK kvs) from I.hok a _ ea)
    obtain ⟨o, es, ep, h1, h2, _⟩ := p
    exact PySem.W.kia_one PySem.W.kitx_dict I.kIn ⟨o, h1, h2.1⟩ e (fun z => nomatch z) h
  | @dT a kvs ea => exact (show False from I.hok a _ ea).elim
  | @ins a C dx fs ea cl ha hn htk hm =>
    cases (show u = Value.ref a from rx)
    obtain ⟨mA, O, _⟩ := ins_get I.hok ea
    obtain ⟨od, J, _⟩ := O.look
    exact PySem.W.kia_one (PySem.W.kitx_own (cl.get _) cl.hd ha hn htk hm) I.kIn J e (fun z => nomatch z) h
end
end L2

namespace L2
open PySem PySem.Spec PyProof.Rows

/-! ### room -/
structure Room (k : Nat) (A : Around) : Prop where
  hd : A.handled = none
  dp : A.depth + 3 * k + 5 < recursionLimit
  un : A.units + 16 * k + 200 < cLine
theorem Room.mono {j k : Nat} {A : Around} (r : Room k A) (h : j ≤ k) : Room j A := ⟨r.hd, by have := r.dp; omega, by have := r.un; omega⟩
theorem Room.deeper {k : Nat} {A : Around} (r : Room (k + 1) A) (env : Env) : Room k (A.deeper env) :=
  ⟨r.hd, by have := r.dp; show A.depth + 1 + 3 * k + 5 < _; omega, by have := r.un; show A.units + 3 + 16 * k + 200 < _; omega⟩
theorem make_depth {A : Around} {C : Addr} {us : List Value} {kw : List (Str × Value)} : (A.under (.builtin "type.__call__" ⟨.ref C :: us, kw⟩)).depth = A.depth + 1 := by
  first | rfl | simp [Around.under, Code.weight, Code.isCreation, Code.isGuard, Code.isCaller, Code.frames, Code.isFrame, guardIds]
theorem make_units {A : Around} {C : Addr} {us : List Value} {kw : List (Str × Value)} : (A.under (.builtin "type.__call__" ⟨.ref C :: us, kw⟩)).units = A.units + 1 := by
  first | rfl | simp [Around.under, Code.cUnits, Code.frames, Code.isFrame]
theorem Room.make {k : Nat} {A : Around} (r : Room (k + 1) A) (C : Addr) (us : List Value) (kw : List (Str × Value)) : Room k (A.under (.builtin "type.__call__" ⟨.ref C :: us, kw⟩)) :=
  ⟨r.hd, by have := r.dp; rw [make_depth]; omega, by have := r.un; rw [make_units]; omega⟩
theorem Room.depth {k : Nat} {A : Around} (r : Room k A) : A.depth < recursionLimit := by have := r.dp; omega
/-! ### argument lists and displays -/
def tNil : TA := fun _ H Q => Q [] H
def tCons (ta : TE) (tr : TA) : TA := fun σ H Q => ta σ H fun x H1 => tr σ H1 fun xs H2 => Q (x :: xs) H2
section
variable {X : Cx} {e : Expr} {es : List Expr} {te : TE} {t : TA} {pos : Pos}
theorem pa_nil : PA X [] tNil := fun _ _ _ _ H Q I h => Calls.spliced_nil ⟨[], H, I, .nil, h⟩
theorem pa_cons (ha : PE X e te) (hr : PA X es t) (hs : starEach (e :: es) X.env = (false, eval e X.env) :: starEach es X.env := by rfl) : PA X (e :: es) (tCons te t) := by
  intro pos pins s σ H Q I h
  rw [hs]
  show wpAny _ _ (spliced ((false, eval e X.env) :: backTo pos (starEach es X.env))) _ _ s
  refine Calls.spliced_cons (thn (ha pins s σ H _ I h) fun u s1 ⟨x, H1, I1, r1, q1⟩ => ?_)
  exact thn (hr pos pins s1 σ H1 _ I1 q1) fun us s2 ⟨xs, H2, I2, r2, q2⟩ => ⟨x :: xs, H2, I2, .cons r1 r2, q2⟩

/-- a tuple, a list of written items -/
def tTup (t : TA) : TE := fun σ H Q => t σ H fun xs H1 => xs.length ≤ sizeLine ∧ ∀ p, H1 p = none → Q (.ref p) (upd H1 p (.tup xs))
def tLst (t : TA) : TE := fun σ H Q => t σ H fun xs H1 => xs.length ≤ sizeLine ∧ ∀ p, H1 p = none → Q (.ref p) (upd H1 p (.lst xs))
theorem pe_tup {x1} (h : PA X es t) : PE X (.Tuple es x1 pos) (tTup t) := by
  intro pins s σ H Q I hq
  refine wpAny_Tuple_spliced (thn (h pos pins s σ H _ I hq) fun us s1 ⟨xs, H1, I1, r, z, q⟩ => ⟨by rw [← r.length]; exact z, ?_⟩)
  have hf : H1 s1.heap.objs.size = none := I1.hok.fresh (Nat.le_refl _)
  refine ⟨.ref s1.heap.objs.size, upd H1 s1.heap.objs.size (.tup xs), I1.laid (t' := s1.toks) (fun b u e => Heap.get?_push_of_some _ e) (Nat.le_refl _) ?_, rfl, q _ hf⟩
  exact ⟨z, us, r, ⟨_, Heap.get?_push_size _ rfl, rfl, _, rfl⟩⟩
theorem pe_lst (h : PA X es t) : PE X (.List es pos) (tLst t) := by
  intro pins s σ H Q I hq
  refine wpAny_List_spliced (thn (h pos pins s σ H _ I hq) fun us s1 ⟨xs, H1, I1, r, z, q⟩ => ⟨by rw [← r.length]; exact z, ?_⟩)
  have hf : H1 s1.heap.objs.size = none := I1.hok.fresh (Nat.le_refl _)
  refine ⟨.ref s1.heap.objs.size, upd H1 s1.heap.objs.size (.lst xs), I1.laid (t' := s1.toks) (fun b u e => Heap.get?_push_of_some _ e) (Nat.le_refl _) ?_, rfl, q _ hf⟩
  exact ⟨z, us, 0, r, Heap.get?_push_size _ rfl⟩
end

/-! ### what a def promises -/
/-- a def's promise: the bound arguments in the parameters' order, the heap, the wanted end, the wanted exception -/
abbrev Sp := List V → Hp → VK → XK → Prop
/-- how an exception lies behind a call (file 08 gives it): the callers' frames, abstract heap and state ahead of the call, the wish, the exception, the state -/
abbrev CXT := List Env → Hp → Shared → XK → Value → Shared → Prop

/-- the state at a call -/
structure Env0 (P : Program) (w : World) (K : PySem.W.Frag) (mg : Str → Option Value) (base : Heap) (A : Around) (outer : List Env) (s : Shared) (H : Hp) : Prop where
  frames : A.frames = some outer
  mod : Mod K mg base
  bs : ∀ b o, base.get? b = some o → s.heap.get? b = some o ∧ H b = none
  bsz : base.objs.size ≤ s.heap.objs.size
  funs : s.heap.FunFrames base outer
  frf : ∀ b ∈ frs outer, H b = none
  hok : HOk P w H s.heap
  bare : AllBare s.gens
/-- a call's end -/
def CE (outer : List Env) (P : Program) (w : World) (H : Hp) (s : Shared) (Q : VK) (u : Value) (s' : Shared) : Prop :=
  ∃ v H', s'.os = s.os ∧ AllBare s'.gens ∧ Un (frs outer) [] H H' s.heap s'.heap ∧ HOk P w H' s'.heap ∧ RelV v u ∧ Q v H'
def CR (CX : CXT) (outer : List Env) (P : Program) (w : World) (H : Hp) (s : Shared) (Q : VK) (E : XK) (r : Result) (s' : Shared) : Prop :=
  match r with
  | .ok (.ret u) => CE outer P w H s Q u s'
  | .ok _ => False
  | .error e => CX outer H s E e s'
structure FnOk (P : Program) (w : World) (K : PySem.W.Frag) (mg : Str → Option Value) (base : Heap) (CX : CXT) (k : Nat) (f : Addr) (fd : FuncData) (ps : List Str) (sp : Sp) : Prop where
  len : ∀ vs H Q E, sp vs H Q E → vs.length = ps.length
  run : ∀ (A : Around) (outer : List Env) (s : Shared) (H : Hp) (args : Args) (us : List Value) (vs : List V) (Q : VK) (E : XK), Room k A → Env0 P w K mg base A outer s H → BindsTo s fd args (ps.zip us) → Vals vs us → sp vs H Q E →
    codeAny (model P w) A (.call (.ref f) args) (CR CX outer P w H s Q E) s
theorem FnOk.mono {P : Program} {w : World} {K : PySem.W.Frag} {mg : Str → Option Value} {base : Heap} {CX : CXT} {j k : Nat} {f : Addr} {fd : FuncData} {ps : List Str} {sp : Sp} (F : FnOk P w K mg base CX j f fd ps sp) (h : j ≤ k) :
    FnOk P w K mg base CX k f fd ps sp := ⟨F.len, fun A outer s H args us vs Q E hr => F.run A outer s H args us vs Q E (hr.mono h)⟩
theorem Env0.make {P : Program} {w : World} {K : PySem.W.Frag} {mg : Str → Option Value} {base : Heap} {A : Around} {outer : List Env} {s : Shared} {H : Hp} (e : Env0 P w K mg base A outer s H) (C : Addr) (us : List Value) (kw : List (Str × Value)) :
    Env0 P w K mg base (A.under (.builtin "type.__call__" ⟨.ref C :: us, kw⟩)) outer s H := ⟨by first | exact e.frames | (simpa [Around.under, Code.envs, Code.isFrame, pushEnvs] using e.frames), e.mod, e.bs, e.bsz, e.funs, e.frf, e.hok, e.bare⟩
section
variable {X : Cx} {pins : List (Addr × Obj)} {σ : St} {H : Hp} {s s' : Shared}
/-- from a body: what a callee wants -/
theorem Inv.env0 (I : Inv X pins σ H s) : Env0 X.prog X.w X.K X.mg X.base X.A X.stack s H :=
  ⟨I.ok.frames, I.ok.mod, I.bs, Nat.le_trans I.ok.bsz I.sz, I.stack, I.stkFree, I.hok, I.bare⟩
/-- behind a call -/
theorem Inv.after {Q : VK} {u : Value} (I : Inv X pins σ H s) (h : CE X.stack X.prog X.w H s Q u s') : EP X pins σ Q u s' := by
  obtain ⟨v, H', os, bare, un, hok, r, q⟩ := h
  obtain ⟨hh, g, d, t, os'⟩ := s'
  obtain rfl : os' = s.os := os
  exact ⟨v, H', I.call (h' := hh) (g' := g) (d' := d) (t' := t) (ch := []) un hok bare (fun b z => absurd z (by simp)), r, q⟩
end

/-! ### calls -/
/-- f(..): the written arguments, then the defaults dvs; E: what is wanted of an exception -/
def tCall (sp : Sp) (dvs : List V) (E : XK) (t : TA) : TE := fun σ H Q => t σ H fun vs H1 => sp (vs ++ dvs) H1 Q E
/-- o.m(..) of an instance of the class at C -/
def tMeth (C : Addr) (m : Str) (sp : Sp) (dvs : List V) (E : XK) (ta : TE) (t : TA) : TE := fun σ H Q => ta σ H fun x H1 => ∃ a dx fs, x = .ref a ∧ H1 a = some (.ins C dx fs) ∧ fs.lookup m = none ∧
  t σ H1 fun vs H2 => sp (x :: (vs ++ dvs)) H2 Q E
/-- C(..): a new instance and its dict, then __init__ -/
def tMake (C : Addr) (sp : Sp) (dvs : List V) (E : XK) (t : TA) : TE := fun σ H Q => t σ H fun vs H1 => ∀ x dx, H1 x = none → H1 dx = none → dx ≠ x →
  sp (.ref x :: (vs ++ dvs)) (upd (upd H1 dx (.own x)) x (.ins C dx [])) (fun v H2 => v = .non ∧ Q (.ref x) H2) E

/-- how the parameters are bound: us the positional arguments, kw the keywords' values by name, ds the defaults that fill up -/
def Binds (K : PySem.W.Frag) (fd : FuncData) (ps : List Str) (ds : List Value) : Prop :=
  ∀ (s : Shared) (us : List Value), K.In s.heap → (us ++ ds).length = ps.length → BindsTo s fd ⟨us, []⟩ (ps.zip (us ++ ds))
/-- every parameter is given -/
theorem Binds.all {K : PySem.W.Frag} {fd : FuncData} {ps : List Str} (h : ∀ us : List Value, us.length = ps.length → bindArgs fd ⟨us, []⟩ = pure (ps.zip us)) : Binds K fd ps [] := fun s us _ hl => by
  rw [List.append_nil] at hl ⊢
  exact .of_eq (h us hl)

/-- an exception of a callee reaches what this body wants of exceptions -/
def Passes (CX : CXT) (X : Cx) (E : XK) : Prop := ∀ (pins : List (Addr × Obj)) (σ : St) (H : Hp) (s : Shared) (e : Value) (s' : Shared), Inv X pins σ H s → CX X.stack H s E e s' → X.xe e s'

section
variable {X : Cx} {CX : CXT} {k : Nat} {f C : Addr} {fd : FuncData} {ps : List Str} {sp : Sp} {dvs : List V} {ds : List Value} {E : XK} {x m : Str} {p pos apos : Pos} {e o : Expr} {es : List Expr} {ta : TE} {t : TA}

/-- the callee runs -/
theorem run_fn {pins : List (Addr × Obj)} {σ : St} {H : Hp} {s : Shared} {Q : VK} {us : List Value} {vs : List V} (F : FnOk X.prog X.w X.K X.mg X.base CX k f fd ps sp) (hr : Room k X.A) (hb : Binds X.K fd ps ds) (hd : Vals dvs ds) (hx : Passes CX X E)
    (I : Inv X pins σ H s) (r : Vals vs us) (h : sp (vs ++ dvs) H Q E) : wpAny (model X.prog X.w) X.A (call (.ref f) us) (EP X pins σ Q) X.xe s := by
  have r2 : Vals (vs ++ dvs) (us ++ ds) := r.append hd
  have hl : (us ++ ds).length = ps.length := by rw [← r2.length]; exact F.len _ _ _ _ h
  refine wpAny_call (codeAny_mono (F.run X.A X.stack s H ⟨us, []⟩ (us ++ ds) (vs ++ dvs) Q E hr I.env0 (hb s us I.kIn hl) r2 h) fun r s' hq => ?_)
  cases r with
  | error e => exact hx pins σ H s e s' I hq
  | ok fl =>
    cases fl with
    | ret u => exact I.after hq
    | next => exact False.elim hq
    | brk => exact False.elim hq
    | cont => exact False.elim hq

theorem pe_call (F : FnOk X.prog X.w X.K X.mg X.base CX k f fd ps sp) (hr : Room k X.A) (hg : Gl X x) (hm : X.mg x = some (.ref f)) (hk : PySem.W.keepIn X.K (.ref f) = true) (hb : Binds X.K fd ps ds) (hd : Vals dvs ds) (hx : Passes CX X E)
    (ha : PA X (e :: es) t) (hdb : (x == ("__debug__" : Str)) = false := by decide) (he : starEach (e :: es) X.env = (false, eval e X.env) :: starEach es X.env := by rfl) (hpl : (backTo pos (starEach es X.env)).any (·.1) = false := by rfl) :
    PE X (.Call (.Name x p) (e :: es) [] pos) (tCall sp dvs E t) := by
  intro pins s σ H Q I h
  refine wpAny_Call_Name_kw (ld_glob I hg hm ?_ hdb)
  refine PySem.W.callWith_K (h₀ := X.base) I.ok.mod.kin hk (thn (ha pos pins s σ H _ I h) fun us s1 ⟨vs, H1, I1, r, q⟩ => ⟨I1.kIn, ?_⟩) he hpl
  exact run_fn F hr hb hd hx I1 r q
/-- o.m(e, ..) -/
theorem pe_meth {pl : Sem Bool} (he : PE X o ta) (c : Cls X.K C) (hm : Meth X.K C m f) (F : FnOk X.prog X.w X.K X.mg X.base CX k f fd ps sp) (hr : Room k X.A) (hb : Binds X.K fd ps ds) (hd : Vals dvs ds) (hx : Passes CX X E) (ha : PA X (e :: es) t)
    (hst : starEach (e :: es) X.env = (false, eval e X.env) :: starEach es X.env := by rfl) (hpl : (backTo pos (starEach es X.env)).any (·.1) = false := by rfl)
    (ht : eval (.Call (.Attribute o m apos) (e :: es) [] pos) X.env = (do
      let ov ← eval o X.env
      standAt apos.atName
      let (f, first) ← holding [ov] (getMethod ov m pl)
      callWith pos f first (backTo pos (starEach (e :: es) X.env)) (backToKw pos (keywordEach [] X.env))) := by rfl) :
    PE X (.Call (.Attribute o m apos) (e :: es) [] pos) (tMeth C m sp dvs E ta t) := by
  intro pins s σ H Q I h
  refine PySem.W.methodCall_KW (pl := pl) (thn (he pins s σ H _ I h) fun u s1 ⟨x, H1, I1, rx, a, dx, fs, ex, ea, l, q⟩ => ?_) ht
  subst ex
  obtain rfl : u = Value.ref a := rx
  refine getmeth_ok I1 ea c hm l ?_
  refine PySem.W.callWith_K (first := [.ref a]) (h₀ := X.base) I.ok.mod.kin hm.kp (thn (ha pos pins s1 σ H1 _ I1 q) fun us s2 ⟨vs, H2, I2, r, q2⟩ => ⟨I2.kIn, ?_⟩) hst hpl
  exact run_fn (us := .ref a :: us) (vs := .ref a :: vs) F hr hb hd hx I2 (.cons rfl r) q2
/-- what a class must have to be made -/
structure Mk (K : PySem.W.Frag) (C f : Addr) : Prop where
  makes : PySem.W.makesIn K C = true
  init : PySem.W.findIn K (.ref C) "__init__" = some (some (.ref f))
  fn : PySem.W.isFn K (.ref f) = true
  kp : PySem.W.keepIn K (.ref C) = true

theorem run_make {pins : List (Addr × Obj)} {σ : St} {H : Hp} {s : Shared} {Q : VK} {us : List Value} {vs : List V} (M : Mk X.K C f) (F : FnOk X.prog X.w X.K X.mg X.base CX k f fd ps sp) (hr : Room (k + 1) X.A) (hb : Binds X.K fd ps ds) (hd : Vals dvs ds)
    (hx : Passes CX X E) (I : Inv X pins σ H s) (r : Vals vs us)
    (h : ∀ x dx, H x = none → H dx = none → dx ≠ x → sp (.ref x :: (vs ++ dvs)) (upd (upd H dx (.own x)) x (.ins C dx [])) (fun v H2 => v = .non ∧ Q (.ref x) H2) E) :
    wpAny (model X.prog X.w) X.A (call (.ref C) us) (EP X pins σ Q) X.xe s := by
  have hq := h (s.heap.objs.size + 1) s.heap.objs.size (I.hok.fresh (Nat.le_succ _)) (I.hok.fresh (Nat.le_refl _)) (Nat.ne_of_lt (Nat.lt_succ_self _))
  have I2 := Inv.made (C := C) I
  have r2 : Vals (V.ref (s.heap.objs.size + 1) :: (vs ++ dvs)) (Value.ref (s.heap.objs.size + 1) :: (us ++ ds)) := .cons rfl (r.append hd)
  have hl : (Value.ref (s.heap.objs.size + 1) :: us ++ ds).length = ps.length := by
    have e := r2.length
    rw [F.len _ _ _ _ hq] at e
    exact e.symm
  refine wpAny_call (make_map (f := f) I.kIn M.makes M.init (beq_iff_eq.mp M.fn) (codeAny_mono (F.run _ X.stack _ _ ⟨Value.ref (s.heap.objs.size + 1) :: us, []⟩ (Value.ref (s.heap.objs.size + 1) :: (us ++ ds)) _ _ E (hr.make C us [])
    (I2.env0.make C us []) (hb _ (Value.ref (s.heap.objs.size + 1) :: us) I2.kIn hl) r2 hq) fun r s' hq' => ?_))
  cases r with
  | error e => exact hx pins σ _ _ e s' I2 hq'
  | ok fl =>
    cases fl with
    | ret u =>
      obtain ⟨v, H', I3, rv, ev, q3⟩ := I2.after hq'
      subst ev
      exact ⟨rv, ⟨V.ref (s.heap.objs.size + 1), H', I3, rfl, q3⟩⟩
    | next => exact False.elim hq'
    | brk => exact False.elim hq'
    | cont => exact False.elim hq'
theorem pe_make (M : Mk X.K C f) (F : FnOk X.prog X.w X.K X.mg X.base CX k f fd ps sp) (hr : Room (k + 1) X.A) (hg : Gl X x) (hm : X.mg x = some (.ref C)) (hb : Binds X.K fd ps ds) (hd : Vals dvs ds) (hx : Passes CX X E)
    (ha : PA X (e :: es) t) (hdb : (x == ("__debug__" : Str)) = false := by decide) (he : starEach (e :: es) X.env = (false, eval e X.env) :: starEach es X.env := by rfl) (hpl : (backTo pos (starEach es X.env)).any (·.1) = false := by rfl) :
    PE X (.Call (.Name x p) (e :: es) [] pos) (tMake C sp dvs E t) := by
  intro pins s σ H Q I h
  refine wpAny_Call_Name_kw (ld_glob I hg hm ?_ hdb)
  refine PySem.W.callWith_K (h₀ := X.base) I.ok.mod.kin M.kp (thn (ha pos pins s σ H _ I h) fun us s1 ⟨vs, H1, I1, r, q⟩ => ⟨I1.kIn, ?_⟩) he hpl
  exact run_make M F hr hb hd hx I1 r q
end

/-! ### keywords -/
section
variable {X : Cx} {CX : CXT} {k : Nat} {f C : Addr} {fd : FuncData} {ps ks : List Str} {sp : Sp} {E : XK} {x m : Str} {p pos apos kpos : Pos} {e o : Expr} {es : List Expr} {kws : List Keyword} {te ta : TE} {t tk : TA} {nm : Option Str}
/-- how a call with keywords binds: g puts the positional values us and the keywords' values ws (names ks) in the parameters' order, defaults among them -/
structure KBinds (K : PySem.W.Frag) (fd : FuncData) (ps ks : List Str) (g : List Value → List Value → List Value) (gV : List V → List V → List V) : Prop where
  to : ∀ (s : Shared) (us ws : List Value), K.In s.heap → (g us ws).length = ps.length → BindsTo s fd ⟨us, ks.zip ws⟩ (ps.zip (g us ws))
  rel : ∀ {vs : List V} {us : List Value} {zs : List V} {ws : List Value}, Vals vs us → Vals zs ws → Vals (gV vs zs) (g us ws)
variable {g : List Value → List Value → List Value} {gV : List V → List V → List V}
end

/-! ### a def's body keeps its promise -/
/-- names: the parameters first -/
structure FnScope (N P : List Str) (sc : Scope) : Prop where
  kind : sc.kind = .function
  co : sc.isCoroutine = false
  gen : sc.isGenerator = false
  nd : N.Nodup
  pre : N.take P.length = P
  par : ∀ x ∈ P, sc.names.lookup x = some .local ∨ sc.names.lookup x = some .cell
  nofree : ∀ y ∈ sc.names, y.2 ≠ .free

theorem bindL_out {kindOf : Str → Option NameKind} {x : Str} : ∀ {binds : List (Str × Value)} {m : Str → Option Value}, (∀ v, (x, v) ∉ binds) → bindL kindOf binds m x = m x
  | [], _, _ => rfl
  | (n, v) :: r, m, h => by
    unfold bindL
    rw [bindL_out fun w hw => h w (List.mem_cons_of_mem _ hw)]
    split
    · have : x ≠ n := by rintro rfl; exact h v List.mem_cons_self
      simp [this]
    · rfl
theorem bindC_out {kindOf : Str → Option NameKind} {x : Str} : ∀ {binds : List (Str × Value)} {m : Str → Option Value}, (∀ v, (x, v) ∉ binds) → bindC kindOf binds m x = m x
  | [], _, _ => rfl
  | (n, v) :: r, m, h => by
    unfold bindC
    rw [bindC_out fun w hw => h w (List.mem_cons_of_mem _ hw)]
    split
    · rfl
    · have : x ≠ n := by rintro rfl; exact h v List.mem_cons_self
      simp [this]
theorem bindL_get {kindOf : Str → Option NameKind} {x : Str} {v : Value} : ∀ {P : List Str} {vs : List Value} {i : Nat} {m : Str → Option Value}, P.Nodup → P[i]? = some x → vs[i]? = some v → kindOf x = some .local →
    bindL kindOf (P.zip vs) m x = some v
  | [], _, _, _, _, h, _, _ => by simp at h
  | _ :: _, [], _, _, _, _, h, _ => by simp at h
  | p :: P, w :: vs, 0, m, nd, h1, h2, hk => by
    simp at h1 h2; subst h1; subst h2
    show bindL kindOf ((p, w) :: P.zip vs) m p = _
    unfold bindL
    rw [bindL_out fun v hv => (List.nodup_cons.mp nd).1 (List.of_mem_zip hv).1, if_pos hk]
    simp
  | p :: P, w :: vs, i + 1, m, nd, h1, h2, hk => by
    show bindL kindOf ((p, w) :: P.zip vs) m x = _
    unfold bindL
    exact bindL_get (i := i) (List.nodup_cons.mp nd).2 (by simpa using h1) (by simpa using h2) hk
theorem bindC_get {kindOf : Str → Option NameKind} {x : Str} {v : Value} : ∀ {P : List Str} {vs : List Value} {i : Nat} {m : Str → Option Value}, P.Nodup → P[i]? = some x → vs[i]? = some v → kindOf x ≠ some .local →
    bindC kindOf (P.zip vs) m x = some v
  | [], _, _, _, _, h, _, _ => by simp at h
  | _ :: _, [], _, _, _, _, h, _ => by simp at h
  | p :: P, w :: vs, 0, m, nd, h1, h2, hk => by
    simp at h1 h2; subst h1; subst h2
    show bindC kindOf ((p, w) :: P.zip vs) m p = _
    unfold bindC
    rw [bindC_out fun v hv => (List.nodup_cons.mp nd).1 (List.of_mem_zip hv).1, if_neg hk]
    simp
  | p :: P, w :: vs, i + 1, m, nd, h1, h2, hk => by
    show bindC kindOf ((p, w) :: P.zip vs) m x = _
    unfold bindC
    exact bindC_get (i := i) (List.nodup_cons.mp nd).2 (by simpa using h1) (by simpa using h2) hk

/-- the names' values at the entry -/
def start (N : List Str) (vs : List V) : St := vs.map some ++ List.replicate (N.length - vs.length) none

/-- the context of a def's body, at its entry; an exception leaves the frame, then lies as CX says -/
def cxOf (CX : CXT) (P : Program) (w : World) (K : PySem.W.Frag) (mg : Str → Option Value) (base : Heap) (N : List Str) (qual : Str) (scope : Scope) (f : Addr) (cd : Value) (A : Around) (outer : List Env) (s : Shared) (H : Hp) (E : XK) : Cx where
  prog := P
  w := w
  K := K
  mg := mg
  base := base
  A := A.deeper (envOfC qual scope s.heap.objs.size f cd)
  N := N
  s₀ := s
  H₀ := H
  env := envOfC qual scope s.heap.objs.size f cd
  outer := outer
  stack := envOfC qual scope s.heap.objs.size f cd :: outer
  ex := []
  calm := true
  fn := fun _ => true
  pn := []
  xe := fun e s' => wpAny (model P w) (A.deeper (envOfC qual scope s.heap.objs.size f cd)) (leaving (envOfC qual scope s.heap.objs.size f cd) e) (fun _ s'' => CX outer H s E e s'') (fun e' s'' => CX outer H s E e' s'') s'

theorem cell_has {sc : Scope} {n : Nat} {x : Str} (h : sc.names.lookup x = some .cell) : ∃ c, (cellsFrom n sc.names []).lookup x = some c := by
  have q := PySem.W.cellsFrom_some sc.names n [] (.inl h)
  exact Option.isSome_iff_exists.mp q

theorem inv_start {CX : CXT} {P : Program} {w : World} {K : PySem.W.Frag} {mg : Str → Option Value} {base : Heap} {N ps : List Str} {qual : Str} {scope : Scope} {f : Addr} {cd : Value} {A : Around} {outer : List Env} {s s1 : Shared} {H : Hp} {E : XK} {us : List Value} {vs : List V}
    (S : FnScope N ps scope) (hd : A.handled = none) (e0 : Env0 P w K mg base A outer s H) (hl : vs.length = ps.length) (r : Vals vs us)
    (x : InCallC s s.heap.objs.size (bindL (envOfC qual scope s.heap.objs.size f cd).kindOf (ps.zip us) fun _ => none) (cellsFrom (s.heap.objs.size + 1) scope.names []) (bindC (envOfC qual scope s.heap.objs.size f cd).kindOf (ps.zip us) fun _ => none) s1) :
    Inv (cxOf CX P w K mg base N qual scope f cd A outer s H E) [] (start N vs) H s1 := by
  have hpl : ps.length ≤ N.length := by have := congrArg List.length S.pre; rw [List.length_take] at this; omega
  obtain ⟨h1, tk, rfl, hk⟩ := x.done
  have noA : ∀ b : Addr, b ∉ (cxOf CX P w K mg base N qual scope f cd A outer s H E).ex := fun b z => absurd (show b ∈ ([] : List Addr) from z) (by simp)
  refine ⟨⟨e0.mod, S.kind, rfl, rfl, Nat.le_refl _, fun y z c h1 h2 => ?_, fun y hy => ?_, fun y c _ h => ?_, fun _ => hd, Around.frames_deeper e0.frames, .inr ⟨rfl, rfl⟩, fun b z => absurd z (noA b), e0.bs, e0.bsz, fun b _ _ => noA b, fun b z => absurd z (noA b), e0.funs, e0.frf⟩,
    rfl, e0.bare, Un.kept hk, ⟨_, x.toInCall.ns, fun i y v h1 h2 h3 => ?_⟩, fun y c h => ⟨_, x.cell y c h⟩, e0.hok.fresh (Nat.le_refl _), fun y c h => ?_, fun p hp => absurd (show p ∈ ([] : List (Addr × Obj)) from hp) (by simp), e0.hok.kept hk, ?_⟩
  · exact name_of_addr x.apart (PySem.mem_of_lookup h1) (PySem.mem_of_lookup h2)
  · have hy : scope.names.lookup y = some .cell ∨ scope.names.lookup y = some .free := hy
    rcases hy with hy | hy
    · exact cell_has hy
    · exact absurd rfl (S.nofree _ (PySem.mem_of_lookup hy))
  · exact Nat.le_of_lt (x.above y c (PySem.mem_of_lookup h))
  · have hi : i < vs.length := by
      unfold start at h2
      by_cases hi : i < vs.length
      · exact hi
      · rw [List.getElem?_append_right (by simpa using hi)] at h2
        rw [List.getElem?_replicate] at h2
        split at h2 <;> cases h2
    have ha : vs[i]? = some v := by
      unfold start at h2
      rw [List.getElem?_append_left (by simpa using hi), List.getElem?_map] at h2
      cases e : vs[i]? with
      | none => rw [e] at h2; cases h2
      | some a => rw [e] at h2; cases h2; rfl
    obtain ⟨u, hu, rv⟩ := r.get ha
    have hp : ps[i]? = some y := by
      rw [← S.pre, List.getElem?_take_of_lt (by omega)]; exact h1
    have ndP : ps.Nodup := by rw [← S.pre]; exact S.nd.sublist (List.take_sublist _ _)
    refine ⟨u, rv, ?_⟩
    rcases S.par y (List.mem_of_getElem? hp) with k | k
    · exact .inl ⟨k, bindL_get ndP hp hu k⟩
    · obtain ⟨c, e⟩ := cell_has (n := s.heap.objs.size + 1) k
      refine .inr ⟨.inl k, c, e, ?_⟩
      have q := x.cell y c e
      rw [bindC_get ndP hp hu (by show scope.names.lookup y ≠ _; rw [k]; decide)] at q
      exact q
  · exact e0.hok.fresh (Nat.le_of_lt (x.above y c (PySem.mem_of_lookup h)))
  · unfold start
    show _ = N.length
    rw [List.length_append, List.length_map, List.length_replicate]
    omega

/-- THE RULE: a def (or a method) of the text, by its body. The body's reading t is chosen for each entry; it is run at the parameters' values -/
theorem fn_of {CX : CXT} {P : Program} {w : World} {K : PySem.W.Frag} {mg : Str → Option Value} {base : Heap} {k : Nat} {f : Addr} {name qual : Str} {params : Arguments} {body : List Stmt} {scope : Scope} {dV kV doc pm cdv ct oc : Value} {an od : Option Addr}
    {osl : Array (Option Value)} {N ps : List Str} {sp : Sp} (lk : K.lookup f = some ⟨oc, od, .func (PySem.W.fnOf name qual params body scope dV kV doc pm an cdv ct), osl⟩) (hcd : PySem.W.codeIn K cdv qual = true) (S : FnScope N ps scope)
    (len : ∀ vs H Q E, sp vs H Q E → vs.length = ps.length)
    (hbody : ∀ (A : Around) (outer : List Env) (s : Shared) (H : Hp) (vs : List V) (Q : VK) (E : XK), Room k (A.deeper (envOfC qual scope s.heap.objs.size f cdv)) → sp vs H Q E →
      ∃ t, PSs (cxOf CX P w K mg base N qual scope f cdv A outer s H E) body t ∧ t { nx := fun _ H' => Q .non H', rt := Q } (start N vs) H) :
    FnOk P w K mg base CX (k + 1) f (PySem.W.fnOf name qual params body scope dV kV doc pm an cdv ct) ps sp := by
  refine ⟨len, fun A outer s H args us vs Q E hr e0 hb r hsp => ?_⟩
  have hl := len _ _ _ _ hsp
  have KX : K.In s.heap := e0.mod.kin.keeps fun b o e => (e0.bs b o e).1
  have lim : s.heap.NoLimit := e0.mod.nolimit.keeps fun b o e => (e0.bs b o e).1
  have hkind : ∀ y ∈ ps.zip us, scope.names.lookup y.1 = some .local ∨ (scope.names.lookup y.1 = some .cell ∧ ((cellsFrom (s.heap.objs.size + 1) scope.names []).lookup y.1).isSome = true) := fun ⟨n, v⟩ hy => by
    rcases S.par n (List.of_mem_zip hy).1 with q | q
    · exact .inl q
    · exact .inr ⟨q, PySem.W.cellsFrom_some _ _ _ (.inl q)⟩
  refine codeAny_call_function hr.depth (KX _ _ lk) rfl S.co S.gen rfl (PySem.W.codeRec_of KX hcd) (hb _ _ _ _ ?_)
  refine wpAny_newFunctionEnv_cells S.kind hkind fun env he s1 x => ?_
  subst he
  refine ⟨lim.keeps x.toInCall.keep, codeAny_func ?_⟩
  obtain ⟨t, ht, hq⟩ := hbody A outer s H vs Q E (hr.deeper _) hsp
  have I : Inv (cxOf CX P w K mg base N qual scope f cdv A outer s H E) [] (start N vs) H s1 := inv_start S hr.hd e0 hl r x
  refine wpAny_mono (ht [] s1 (start N vs) H _ I hq) (fun fl s' hs => ?_) fun e s' hs => hs
  have fin : ∀ {σ' : St} {H' : Hp} {v : V} {u : Value}, Inv (cxOf CX P w K mg base N qual scope f cdv A outer s H E) [] σ' H' s' → RelV v u → Q v H' → CE outer P w H s Q u s' :=
    fun {σ' H' v u} J rv q => ⟨v, H', J.os, J.bare, J.base, J.hok, rv, q⟩
  cases fl with
  | ret u =>
    obtain ⟨v, σ', H', J, rv, q⟩ := hs
    exact fin J rv q
  | next =>
    obtain ⟨σ', H', J, q⟩ := hs
    exact fin (v := V.non) (u := Value.none) J rfl q
  | brk =>
    obtain ⟨_, _, _, q⟩ := hs
    exact False.elim q
  | cont =>
    obtain ⟨_, _, _, q⟩ := hs
    exact False.elim q
end L2

namespace L2
open PySem PySem.Spec PyProof.Rows
section
variable {X : Cx} {x : Str} {p pos : Pos} {e : Expr} {es : List Expr} {t : TA} {id T : String} {r : List V → Hp → VK → Prop}

def tCB (r : List V → Hp → VK → Prop) (t : TA) : TE := fun σ H Q => t σ H fun vs H1 => r vs H1 Q
/-- f(e, ..), f a built-in function -/
theorem pe_callB (hc : CallR X (.builtin id) r) (hg : Gl X x) (hm : X.mg x = none) (hv : bootBuiltins x = some (.builtin id)) (ha : PA X (e :: es) t) (hn : x ≠ "__name__" := by decide) (hdb : (x == ("__debug__" : Str)) = false := by decide)
    (he : starEach (e :: es) X.env = (false, eval e X.env) :: starEach es X.env := by rfl) (hpl : (backTo pos (starEach es X.env)).any (·.1) = false := by rfl) : PE X (.Call (.Name x p) (e :: es) [] pos) (tCB r t) := by
  intro pins s σ H Q I h
  refine wpAny_Call_Name_kw (ld_blt I hg hm hv ?_ hn hdb)
  exact PyProof.Rows.callWith_builtin1 (thn (ha pos pins s σ H _ I h) fun us s1 ⟨vs, H1, I1, r1, q1⟩ => hc pins s1 σ H1 vs us Q I1 r1 q1) he hpl
/-- T(e, ..), T a built-in type -/
theorem pe_callTy (hc : CallR X (.type T) r) (hg : Gl X x) (hm : X.mg x = none) (hv : bootBuiltins x = some (.type T)) (ha : PA X (e :: es) t) (hn : x ≠ "__name__" := by decide) (hdb : (x == ("__debug__" : Str)) = false := by decide)
    (he : starEach (e :: es) X.env = (false, eval e X.env) :: starEach es X.env := by rfl) (hpl : (backTo pos (starEach es X.env)).any (·.1) = false := by rfl) : PE X (.Call (.Name x p) (e :: es) [] pos) (tCB r t) := by
  intro pins s σ H Q I h
  refine wpAny_Call_Name_kw (ld_blt I hg hm hv ?_ hn hdb)
  exact PyProof.Rows.callWith_type1 (thn (ha pos pins s σ H _ I h) fun us s1 ⟨vs, H1, I1, r1, q1⟩ => hc pins s1 σ H1 vs us Q I1 r1 q1) he hpl
end
end L2

namespace HT
open PySem PyProof.Rows

/-- t < u of tuples of ints -/
def lexLt : List Int → List Int → Bool
  | [], [] => false
  | [], _ :: _ => true
  | _ :: _, [] => false
  | x :: xs, y :: ys => if x = y then lexLt xs ys else decide (x < y)
theorem lexLt_cons (x y : Int) (xs ys : List Int) : lexLt (x :: xs) (y :: ys) = if x = y then lexLt xs ys else decide (x < y) := rfl
theorem lexLt_cons_nil (x : Int) (xs : List Int) : lexLt (x :: xs) [] = false := rfl

theorem rcLt_int (A : Around) (s : Shared) (a : Int) (t : Tok) (c : Int) (u : Tok) (prog : Program) (w : World) (E : Value → Shared → Prop) (Q : Value → Shared → Prop) (h : Q (.bool (decide (a < c))) s) :
    wpAny (model prog w) A (richCompare .Lt (.int a t) (.int c u)) Q E s :=
  (PyProof.Rows.lt_int h : wpAny (model prog w) A (compareOp .Lt (.int a t) (.int c u)) Q E s)

section
open PySem.SeqAt
open PySem.AutoSeq1 (wpAny_loadPart')
open PySem.MeetsSeq PySem.MeetsSeq2 PySem.MeetsSeq3

end

section
variable {prog : Program} {w : World} {A : Around} {E : Value → Shared → Prop} {s : Shared}

/-! ### t[a:b], not the whole -/
/-- a slice's bound as a place among n (d where it is left out) -/
def sIx (n d : Nat) : Option Int → Nat
  | none => d
  | some v => if v < 0 then (v + (n : Int)).toNat else min v.toNat n
theorem sIx_none (n d : Nat) : sIx n d none = d := rfl
theorem sIx_nat (n d k : Nat) : sIx n d (some (k : Int)) = min k n := by
  show (if (k : Int) < 0 then ((k : Int) + (n : Int)).toNat else min (k : Int).toNat n) = min k n
  rw [if_neg (by omega), Int.toNat_natCast]
theorem sIx_le (n d : Nat) (hd : d ≤ n) (o : Option Int) : sIx n d o ≤ n := by
  cases o with
  | none => exact hd
  | some v =>
    show (if v < 0 then (v + (n : Int)).toNat else min v.toNat n) ≤ n
    by_cases hv : v < 0
    · rw [if_pos hv]; omega
    · rw [if_neg hv]; exact Nat.min_le_right _ _
end
end HT

namespace L2
open PySem PySem.Spec PyProof.Rows

/-! ### the parts of a slice -/
abbrev TO := St → Hp → (Option Int → Hp → Prop) → Prop
/-- a slice's part (left out, or an int) -/
def PO (X : Cx) (e : Option Expr) (t : TO) : Prop :=
  ∀ (pins : List (Addr × Obj)) (s : Shared) (σ : St) (H : Hp) (Q : Option Int → Hp → Prop), Inv X pins σ H s → t σ H Q →
    wpAny (model X.prog X.w) X.A (evalPart e X.env) (fun u s' => ∃ o H', Inv X pins σ H' s' ∧ IsPart u o ∧ Q o H') X.xe s
def tNoPart : TO := fun _ H Q => Q none H
def tPart (t : TE) : TO := fun σ H Q => t σ H fun x H1 => ∃ i, x = .int i ∧ Q (some i) H1

theorem intsAre_of {ns : List Int} : ∀ {us : List Value}, Vals (ns.map V.int) us → IntsAre us ns := by
  induction ns with
  | nil => intro us r; rw [List.map_nil] at r; cases r; exact .nil
  | cons n ns ih =>
    intro us r
    rw [List.map_cons] at r
    cases r with
    | cons r1 r2 =>
      obtain ⟨t, e⟩ := r1
      subst e
      exact .cons n t (ih r2)

section
variable {X : Cx} {e : Expr} {te : TE} {lo hi : Option Expr} {tl th : TO} {pos p2 : Pos}

theorem po_none : PO X none tNoPart := by
  intro pins s σ H Q I h
  rw [evalPart_none]
  exact wpAny_pure ⟨none, H, I, .none, h⟩
theorem po_some (h : PE X e te) : PO X (some e) (tPart te) := by
  intro pins s σ H Q I hw
  rw [evalPart_some]
  refine thn (h pins s σ H _ I hw) fun u s1 ⟨x, H1, I1, r1, q1⟩ => ?_
  obtain ⟨i, rfl, q⟩ := q1
  obtain ⟨t, rfl⟩ := r1
  exact ⟨some i, H1, I1, .int i t, q⟩

/-- what a slice of a value is, by values: the slice object stands at sl -/
def SlR (X : Cx) (r : V → Option Int → Option Int → Hp → VK → Prop) : Prop :=
  ∀ (pins : List (Addr × Obj)) (s : Shared) (σ : St) (H : Hp) (x : V) (v vl vu : Value) (lo hi : Option Int) (sl : Addr) (Q : VK), Inv X pins σ H s → RelV x v → s.heap.IsSliceOf sl vl vu .none → IsPart vl lo → IsPart vu hi → r x lo hi H Q →
    ∃ T id, typeLookup (.type T) "__getitem__" = pure (some (.builtin id)) ∧ s.TypeIs v T ∧ wpAny (model X.prog X.w) X.A (getItem v (.ref sl)) (EP X pins σ Q) X.xe s
theorem SlR.or {r r' : V → Option Int → Option Int → Hp → VK → Prop} (h : SlR X r) (h' : SlR X r') : SlR X (fun x lo hi H Q => r x lo hi H Q ∨ r' x lo hi H Q) := by
  intro pins s σ H x v vl vu lo hi sl Q I rx hs pl pu q
  rcases q with q | q
  · exact h pins s σ H x v vl vu lo hi sl Q I rx hs pl pu q
  · exact h' pins s σ H x v vl vu lo hi sl Q I rx hs pl pu q
def tSl (r : V → Option Int → Option Int → Hp → VK → Prop) (te : TE) (tl th : TO) : TE := fun σ H Q => te σ H fun x H1 => tl σ H1 fun l H2 => th σ H2 fun u H3 => r x l u H3 Q
/-- a[lo:hi], any a -/
theorem pe_slice {r : V → Option Int → Option Int → Hp → VK → Prop} (hr : SlR X r) (he : PE X e te) (hl : PO X lo tl) (hu : PO X hi th) : PE X (.Subscript e (.Slice lo hi none p2) pos) (tSl r te tl th) := by
  intro pins s σ H Q I h
  refine Subscript_ (thn (he pins s σ H _ I h) fun v s1 ⟨x, H1, I1, r1, q1⟩ => ?_)
  refine wpAny_Slice (thn (hl pins s1 σ H1 _ I1 q1) fun vl s2 ⟨l, H2, I2, pl, q2⟩ => thn (hu pins s2 σ H2 _ I2 q2) fun vu s3 ⟨u, H3, I3, pu, q3⟩ => ?_)
  rw [evalPart_none]
  refine wpAny_pure ?_
  have I4 : Inv X pins σ H3 { s3 with heap := s3.heap.push { cls := .type "slice", data := .fields #[vl, vu, .none] } } := I3.kept (t' := s3.toks) fun b ob q => Heap.get?_push_of_some _ q
  obtain ⟨T, id, hT, ht, hg⟩ := hr pins { s3 with heap := s3.heap.push { cls := .type "slice", data := .fields #[vl, vu, .none] } } σ H3 x v vl vu l u s3.heap.objs.size Q I4 r1 (Heap.IsSliceOf.new ..) pl pu q3
  show wpAny (model X.prog X.w) X.A (subscriptTail e (.Slice lo hi none p2) v (.ref s3.heap.objs.size)) (EP X pins σ Q) X.xe { s3 with heap := s3.heap.push { cls := .type "slice", data := .fields #[vl, vu, .none] } }
  exact tail_any (ops := [.ref s3.heap.objs.size, v]) ht hT hg (by with_unfolding_all rfl)

/-- the items of xs[lo:hi] -/
def cutV (xs : List V) (lo hi : Option Int) : List V := (xs.drop (HT.sIx xs.length 0 lo)).take (HT.sIx xs.length xs.length hi - HT.sIx xs.length 0 lo)
theorem cutV_length (xs : List V) (lo hi : Option Int) : (cutV xs lo hi).length ≤ xs.length := by
  unfold cutV
  rw [List.length_take, List.length_drop]
  omega
/-! ### t < u, t + u -/
end
end L2

namespace L2
open PySem PySem.Spec PyProof.Rows

/-! ### places -/
/-- the place that an index of any sign means -/
def ixN (n : Nat) (i : Int) : Option Nat := if 0 ≤ i then (if i < n then some i.toNat else none) else if -(n : Int) ≤ i then some (i + n).toNat else none
def atI {α : Type} (xs : List α) (i : Int) : Option α := (ixN xs.length i).bind fun j => xs[j]?
theorem ixN_seq {n : Nat} {i : Int} {j : Nat} (h : ixN n i = some j) : seqIndex? i n = some j ∧ j < n ∧ -(n : Int) ≤ i ∧ i < n := by
  unfold ixN at h
  by_cases h0 : 0 ≤ i
  · rw [if_pos h0] at h
    by_cases h1 : i < n
    · rw [if_pos h1] at h
      have e : i.toNat = j := Option.some.inj h
      exact ⟨by rw [seqIndex_of h0 h1, e], by omega, by omega, h1⟩
    · rw [if_neg h1] at h; cases h
  · rw [if_neg h0] at h
    by_cases h1 : -(n : Int) ≤ i
    · rw [if_pos h1] at h
      have e : (i + n).toNat = j := Option.some.inj h
      exact ⟨by rw [seqIndex_neg (by omega) h1, e], by omega, h1, by omega⟩
    · rw [if_neg h1] at h; cases h
theorem atI_get {α : Type} {xs : List α} {i : Int} {v : α} (h : atI xs i = some v) : ∃ j, seqIndex? i xs.length = some j ∧ xs[j]? = some v ∧ j < xs.length ∧ -(xs.length : Int) ≤ i ∧ i < xs.length := by
  unfold atI at h
  cases e : ixN xs.length i with
  | none => rw [e] at h; cases h
  | some j =>
    rw [e] at h
    obtain ⟨h1, h2, h3, h4⟩ := ixN_seq e
    exact ⟨j, h1, h, h2, h3, h4⟩
theorem atI_nat {α : Type} {xs : List α} {j : Nat} {v : α} (h : xs[j]? = some v) : atI xs (j : Int) = some v := by
  have hj : j < xs.length := (List.getElem?_eq_some_iff.mp h).1
  have e : ixN xs.length (j : Int) = some j := by
    unfold ixN
    rw [if_pos (by omega), if_pos (by omega)]; simp
  unfold atI; rw [e]; exact h
/-! ### what may be subscripted -/
/-- what stands as an index of a plain subscript -/
def PlainIx (b : Expr) : Prop := ∀ o i, subscripted b false o i = operate [o, i] (getItem o i)
/-- a subscript by values -/
def IxR (X : Cx) (r : R2) : Prop :=
  ∀ (value slice : Expr) (pins : List (Addr × Obj)) (s : Shared) (σ : St) (H : Hp) (x y : V) (v u : Value) (Q : VK), Inv X pins σ H s → RelV x v → RelV y u → r x y H Q →
    subscripted slice false v u = operate [v, u] (getItem v u) → wpAny (model X.prog X.w) X.A (subscriptTail value slice v u) (EP X pins σ Q) X.xe s
/-- a call of a builtin's method by values: the receiver, the arguments -/
def MtR (X : Cx) (id : String) (r : V → List V → Hp → VK → Prop) : Prop :=
  ∀ (pins : List (Addr × Obj)) (s : Shared) (σ : St) (H : Hp) (x : V) (xs : List V) (v : Value) (us : List Value) (Q : VK), Inv X pins σ H s → RelV x v → Vals xs us → r x xs H Q →
    wpAny (model X.prog X.w) X.A (call (.builtin id) (v :: us)) (EP X pins σ Q) X.xe s
section
variable {X : Cx} {a b : Expr} {ta tb : TE} {pos : Pos}
theorem IxR.or {r r' : R2} (h : IxR X r) (h' : IxR X r') : IxR X (fun x y H Q => r x y H Q ∨ r' x y H Q) := by
  intro value slice pins s σ H x y v u Q I rx ry q hs
  rcases q with q | q
  · exact h value slice pins s σ H x y v u Q I rx ry q hs
  · exact h' value slice pins s σ H x y v u Q I rx ry q hs
/-- a[b] -/
theorem pe_ix {r : R2} (hr : IxR X r) (ha : PE X a ta) (hb : PE X b tb) (hs : PlainIx b) : PE X (.Subscript a b pos) (tOp r ta tb) := by
  intro pins s σ H Q I h
  exact Subscript_ (binT ha hb I h fun v u s2 x y H2 I2 rx ry q => hr a b pins s2 σ H2 x y v u Q I2 rx ry q (hs _ _))

def rIxL (K : PySem.W.Frag) : R2 := fun x y H Q => ∃ p xs i v, x = .ref p ∧ y = .int i ∧ SqL K H p xs ∧ atI xs i = some v ∧ Q v H
def rIxT (K : PySem.W.Frag) : R2 := fun x y H Q => ∃ p xs i v, x = .ref p ∧ y = .int i ∧ SqT K H p xs ∧ atI xs i = some v ∧ Q v H
def rIxS : R2 := fun x y H Q => ∃ z i c, x = .str z ∧ y = .int i ∧ z.length ≤ sizeLine ∧ atI z.cps.toList i = some c ∧ Q (.str ⟨#[c]⟩) H
theorem ix_list : IxR X (rIxL X.K) := by
  intro value slice pins s σ H x y v u Q I rx ry h hs
  obtain ⟨p, xs, i, z, rfl, rfl, hq, he, q⟩ := h
  cases rx
  obtain ⟨t, rfl⟩ := ry
  obtain ⟨its, r, pl, hz⟩ := I.list hq
  obtain ⟨j, h1, h2, h3, h4, h5⟩ := atI_get he
  obtain ⟨w, ew, rw'⟩ := r.get h2
  have hl := r.length
  have hn := line63
  have fin : EP X pins σ Q w s := ⟨z, H, I, rw', q⟩
  by_cases h0 : 0 ≤ i
  · have hj : i.toNat = j := by
      rw [seqIndex_of h0 h5] at h1
      exact Option.some.inj h1
    exact item_listR pl.isList h0 (by omega) (by rw [hj]; simpa using ew) fin hs
  · have hj : (i + (its.toArray.size : Int)).toNat = j := by
      rw [seqIndex_neg (by omega) h4] at h1
      rw [List.size_toArray, ← hl]
      exact Option.some.inj h1
    exact subscriptTail_builtinR (x := w) pl.isList.typeIs slot_list_getitem.lookup
      (wpAny_getItem_list_neg (Q := fun r s' => r = w ∧ EP X pins σ Q r s') pl.isList (by omega) (by rw [List.size_toArray] <;> omega) (by omega) (by rw [hj]; simpa using ew) ⟨rfl, fin⟩) hs
theorem ix_tup : IxR X (rIxT X.K) := by
  intro value slice pins s σ H x y v u Q I rx ry h hs
  obtain ⟨p, xs, i, z, rfl, rfl, hq, he, q⟩ := h
  cases rx
  obtain ⟨t, rfl⟩ := ry
  obtain ⟨its, r, pl, hz⟩ := I.tuple hq
  obtain ⟨j, h1, h2, h3, h4, h5⟩ := atI_get he
  obtain ⟨w, ew, rw'⟩ := r.get h2
  have hl := r.length
  have hn := line63
  have fin : EP X pins σ Q w s := ⟨z, H, I, rw', q⟩
  exact subscriptTail_builtinR (x := w) pl.typeIs slot_tuple_getitem.lookup
    (getItem_tuple (j := j) (Q := fun r s' => r = w ∧ EP X pins σ Q r s') pl (by omega) (by omega) (by rw [List.size_toArray, ← hl]; exact h1) (by simpa using ew) ⟨rfl, fin⟩) hs
theorem ix_str : IxR X rIxS := by
  intro value slice pins s σ H x y v u Q I rx ry h hs
  obtain ⟨z, i, c, rfl, rfl, hz, he, q⟩ := h
  obtain ⟨t, rfl⟩ := rx
  obtain ⟨t', rfl⟩ := ry
  obtain ⟨j, h1, h2, h3, h4, h5⟩ := atI_get he
  have hl : z.cps.toList.length = z.length := by simp [Str.length]
  rw [hl] at h1 h4 h5
  have hn := line63
  exact tail_any (typeIs_str s z t) slot_str_getitem.lookup (getItem_str (c := c) (by
    have e1 : decide (i < -(2 ^ 63 : Int)) = false := decide_eq_false (by omega)
    have e2 : decide (i ≥ 2 ^ 63) = false := decide_eq_false (by omega)
    rw [e1, e2, Bool.or_false]) (by rw [h1]; simpa using h2) ⟨.str ⟨#[c]⟩, H, I.tok _, ⟨_, rfl⟩, q⟩) hs
/-! ### xs[i] = v, any sign -/
/-! ### slices -/
theorem slice_bounds (lo hi : Option Int) (n : Nat) : (sliceBounds lo hi none n).1 = ((HT.sIx n 0 lo : Nat) : Int) ∧ (sliceBounds lo hi none n).2.1 = ((HT.sIx n n hi : Nat) : Int) ∧ (sliceBounds lo hi none n).2.2 = 1 := by
  refine ⟨?_, ?_, rfl⟩
  · cases lo with
    | none => simp [sliceBounds, HT.sIx]
    | some i =>
      simp only [sliceBounds, HT.sIx, Option.getD_none, show (1 : Int) > 0 by decide, if_true]
      by_cases h : i < 0
      · simp only [h, if_true] <;> omega
      · simp only [h, if_false] <;> omega
  · cases hi with
    | none => simp [sliceBounds, HT.sIx]
    | some i =>
      simp only [sliceBounds, HT.sIx, Option.getD_none, show (1 : Int) > 0 by decide, if_true]
      by_cases h : i < 0
      · simp only [h, if_true] <;> omega
      · simp only [h, if_false] <;> omega
theorem slicePick_cut (its : List Value) (lo hi : Option Int) : slicePick its.toArray lo hi none = ((its.drop (HT.sIx its.length 0 lo)).take (HT.sIx its.length its.length hi - HT.sIx its.length 0 lo)).toArray := by
  obtain ⟨h1, h2, h3⟩ := slice_bounds lo hi its.toArray.size
  unfold slicePick
  rw [h1, h2, h3]
  simp only [sliceRange_one, pick_run, List.size_toArray] <;> rfl
/-- xs[lo:hi] of a list: a new list -/
def rSlL (K : PySem.W.Frag) : V → Option Int → Option Int → Hp → VK → Prop := fun x lo hi H Q => ∃ a xs, x = .ref a ∧ SqL K H a xs ∧ ∀ p, H p = none → Q (.ref p) (upd H p (.lst (cutV xs lo hi)))
theorem sl_list : SlR X (rSlL X.K) := by
  intro pins s σ H x v vl vu lo hi sl Q I rx hs pl pu h
  obtain ⟨a, xs, rfl, hx, q⟩ := h
  cases rx
  obtain ⟨its, r, ht, hz⟩ := I.list hx
  have hlen := r.length
  refine ⟨"list", _, slot_list_getitem.lookup, ht.isList.typeIs, ?_⟩
  refine wpAny_getItem_list_slice ht.isList hs pl pu .none (by simp) ?_ (by rw [List.size_toArray] <;> omega)
  rw [slicePick_cut, ← hlen]
  refine ⟨.ref s.heap.objs.size, _, I.laid (t' := s.toks) (o := .lst (cutV xs lo hi)) (fun b ob q => Heap.get?_push_of_some _ q) (Nat.le_refl _) ?_, rfl, q _ (I.hok.fresh (Nat.le_refl _))⟩
  exact ⟨Nat.le_trans (cutV_length xs lo hi) hz, _, 0, (r.drop (HT.sIx xs.length 0 lo)).take (HT.sIx xs.length xs.length hi - HT.sIx xs.length 0 lo), Heap.get?_push_size _ rfl⟩

/-! ### in, not in: flat items -/
/-! ### len, list(x), tuple(x) of any list or tuple that is read -/
theorem call_list_of : CallR X (.type "list") (fun xs H Q => ∃ p ys, xs = [.ref p] ∧ (SqL X.K H p ys ∨ SqT X.K H p ys) ∧ ∀ l, H l = none → Q (.ref l) (upd H l (.lst ys))) := by
  intro pins s σ H xs us Q I r h
  obtain ⟨p, ys, rfl, hq, q⟩ := h
  obtain ⟨u, rfl, rx⟩ := vals1 r
  cases rx
  have fin : ∀ (its : List Value), Vals ys its → ys.length ≤ sizeLine → ∀ (h' : Heap) (c' : Nat), (∀ b o', s.heap.get? b = some o' → h'.get? b = some o') →
      h'.get? s.heap.objs.size = some { cls := .type "list", dict := none, data := .seq its.toArray c', slots := #[] } → EP X pins σ Q (.ref s.heap.objs.size) { s with heap := h' } := fun its r' hz h' c' kp e =>
    ⟨.ref s.heap.objs.size, _, I.laid (t' := s.toks) kp (Nat.le_refl _) (show ObjOk X.prog X.w _ h' _ (.lst ys) from ⟨hz, its, c', r', e⟩), rfl, q _ (I.hok.fresh (Nat.le_refl _))⟩
  rcases hq with hq | hq
  · obtain ⟨its, r', pl, hz⟩ := I.list hq
    have hlen := r'.length
    obtain ⟨o, ho, hc, n, hd⟩ := pl.isList
    exact call_list_seq p (.inl rfl) ho hc hd (fun h' c' kp e => fin its r' hz h' c' kp e) (by simp only [List.size_toArray] <;> omega)
  · obtain ⟨its, r', pl, hz⟩ := I.tuple hq
    have hlen := r'.length
    obtain ⟨o, ho, hc, n, hd⟩ := pl
    exact call_list_seq p (.inr rfl) ho hc hd (fun h' c' kp e => fin its r' hz h' c' kp e) (by simp only [List.size_toArray] <;> omega)
theorem call_tuple_of : CallR X (.type "tuple") (fun xs H Q => ∃ p ys, xs = [.ref p] ∧ ((SqL X.K H p ys ∧ ∀ l, H l = none → Q (.ref l) (upd H l (.tup ys))) ∨ (SqT X.K H p ys ∧ Q (.ref p) H))) := by
  intro pins s σ H xs us Q I r h
  obtain ⟨p, ys, rfl, h⟩ := h
  obtain ⟨u, rfl, rx⟩ := vals1 r
  cases rx
  rcases h with ⟨hq, q⟩ | ⟨hq, q⟩
  · obtain ⟨its, r', pl, hz⟩ := I.list hq
    have hlen := r'.length
    refine call_tuple_list pl.isList (fun h' kp => ?_) (by simp only [List.size_toArray] <;> omega)
    have I1 : Inv X pins σ H { s with heap := h' } := I.kept (t' := s.toks) kp
    have I2 : Inv X pins σ (upd H h'.objs.size (.tup ys)) { s with heap := h'.push { cls := .type "tuple", data := .seq its.toArray } } :=
      I1.laid (t' := s.toks) (fun b o e => Heap.get?_push_of_some _ e) (Nat.le_refl _) (show ObjOk X.prog X.w _ _ _ (.tup ys) from ⟨hz, its, r', IsTup.new _ _⟩)
    exact ⟨.ref h'.objs.size, _, I2, rfl, q _ (I1.hok.fresh (Nat.le_refl _))⟩
  · obtain ⟨its, r', pl, hz⟩ := I.tuple hq
    exact call_tuple_same pl ⟨.ref p, H, I, rfl, q⟩

/-! ### the call of a builtin's method: o.m(..) -/
/-- the value is of that builtin type -/
def tyV (K : PySem.W.Frag) (T : String) (x : V) (H : Hp) : Prop := match x with
  | .str _ => T = "str"
  | .int _ => T = "int"
  | .ref p => (T = "list" ∧ ∃ xs, SqL K H p xs) ∨ (T = "tuple" ∧ ∃ o, K.lookup p = some o ∧ o.cls = .type "tuple" ∧ o.dict = none) ∨
      (T = "dict" ∧ ((∃ kvs, H p = some (.dK kvs)) ∨ ∃ kvs, H p = some (.dT kvs))) ∨ (T = "set" ∧ ∃ S n, H p = some (.set S n))
  | _ => False
theorem tyV_is {pins : List (Addr × Obj)} {σ : St} {H : Hp} {s : Shared} {T : String} {x : V} {v : Value} (I : Inv X pins σ H s) (r : RelV x v) (ty : tyV X.K T x H) :
    s.TypeIs v T ∧ ∀ a, v = .ref a → ∃ ob, s.heap.get? a = some ob ∧ ob.dict = none := by
  cases x with
  | str z =>
    obtain ⟨t, rfl⟩ := r
    cases (show T = "str" from ty)
    exact ⟨typeIs_str s z t, fun _ e => nomatch e⟩
  | int i =>
    obtain ⟨t, rfl⟩ := r
    cases (show T = "int" from ty)
    exact ⟨typeIs_int s i t, fun _ e => nomatch e⟩
  | ref p =>
    cases r
    rcases ty with ⟨rfl, xs, hq⟩ | ⟨rfl, o, hk, hc, hd⟩ | ⟨rfl, hk⟩ | ⟨rfl, S, n, hk⟩
    · obtain ⟨its, _, pl, _⟩ := I.list hq
      refine ⟨pl.isList.typeIs, fun a e => ?_⟩
      cases e
      obtain ⟨o, n, e, c, hd, _⟩ := pl
      exact ⟨o, e, hd⟩
    · refine ⟨⟨o, I.kIn p o hk, hc⟩, fun a e => ?_⟩
      cases e
      exact ⟨o, I.kIn _ o hk, hd⟩
    · have z : ∃ o, s.heap.get? p = some o ∧ o.ExactDict := by
        rcases hk with ⟨kvs, hk⟩ | ⟨kvs, hk⟩
        · obtain ⟨_, _, _, _, o, _, _, e, ex, _⟩ := I.hok p _ hk
          exact ⟨o, e, ex⟩
        · exact (show False from I.hok p _ hk).elim
      obtain ⟨o, e, ex⟩ := z
      refine ⟨⟨o, e, ex.1⟩, fun a e2 => ?_⟩
      cases e2
      exact ⟨o, e, ex.2.1⟩
    · obtain ⟨o, _, _, _, e, ex, _⟩ := I.hok p _ hk
      refine ⟨⟨o, e, ex.1⟩, fun a e2 => ?_⟩
      cases e2
      exact ⟨o, e, ex.2.1⟩
  | _ => exact False.elim ty
def tBM0 (K : PySem.W.Frag) (T : String) (r : V → List V → Hp → VK → Prop) (to : TE) : TE := fun σ H Q => to σ H fun x H1 => tyV K T x H1 ∧ r x [] H1 Q
def tBM (K : PySem.W.Frag) (T : String) (r : V → List V → Hp → VK → Prop) (to : TE) (t : TA) : TE := fun σ H Q => to σ H fun x H1 => tyV K T x H1 ∧ t σ H1 fun xs H2 => r x xs H2 Q
variable {o e : Expr} {es : List Expr} {to : TE} {t : TA} {name : Str} {apos cpos : Pos} {T id : String} {r : V → List V → Hp → VK → Prop}
theorem pe_bm0 (pa : PlainAttrs T) (slot : Slot T name id) (hty : typeOf (.builtin id) = pure (.type "method_descriptor")) (hm : MtR X id r) (ho : PE X o to)
    (hbase : attributeBase o name X.env (eval o X.env) = eval o X.env := by rfl) (hline : (apos.endLine == cpos.line) = true := by rfl) : PE X (.Call (.Attribute o name apos) [] [] cpos) (tBM0 X.K T r to) := by
  intro pins s σ H Q I h
  refine wpAny_Call_method0_late hbase hline (thn (ho pins s σ H _ I h) fun v s1 ⟨x, H1, I1, r1, ty, q1⟩ => ?_)
  obtain ⟨h1, h2⟩ := tyV_is I1 r1 ty
  exact ⟨T, id, pa, slot, hty, h1, h2, Calls.callWith_builtin rfl (PySem.evalArgs_none (hm pins s1 σ H1 x [] v [] Q I1 r1 .nil q1))⟩
theorem pe_bm (pa : PlainAttrs T) (slot : Slot T name id) (hty : typeOf (.builtin id) = pure (.type "method_descriptor")) (hm : MtR X id r) (ho : PE X o to) (ha : PA X (e :: es) t)
    (hbase : attributeBase o name X.env (eval o X.env) = eval o X.env := by rfl)
    (hfew : ((backTo cpos (starEach (e :: es) X.env)).all (fun x => !x.1) && (backToKw cpos (keywordEach [] X.env)).all (fun x => x.1.isSome)
      && decide ((e :: es).length + ([] : List Keyword).length + (if ([] : List Keyword).isEmpty then 0 else 1) < 30)) = true := by rfl)
    (hline : (apos.endLine == cpos.line) = true := by rfl) (hs : starEach (e :: es) X.env = (false, eval e X.env) :: starEach es X.env := by rfl) (hplain : (backTo cpos (starEach es X.env)).any (·.1) = false := by rfl) :
    PE X (.Call (.Attribute o name apos) (e :: es) [] cpos) (tBM X.K T r to t) := by
  intro pins s σ H Q I h
  refine wpAny_Call_method_late hbase hfew hline rfl (thn (ho pins s σ H _ I h) fun v s1 ⟨x, H1, I1, r1, ty, q1⟩ => ?_)
  obtain ⟨h1, h2⟩ := tyV_is I1 r1 ty
  refine ⟨T, id, pa, slot, hty, h1, h2, ?_⟩
  have hA := ha cpos pins s1 σ H1 _ I1 q1
  rw [hs] at hA ⊢
  refine Calls.callWith_builtin (by show (false || (backTo cpos (starEach es X.env)).any (·.1)) = false; rw [hplain] <;> rfl) (Calls.evalArgs_plain ?_)
  exact thn hA fun us s2 ⟨vs, H2, I2, r2, q2⟩ => hm pins s2 σ H2 x vs v us Q I2 r1 r2 q2
/- xs.append(e), list.index on a module's tuple .. are MtR facts of 06m -/
end
end L2

namespace L2
open PySem PySem.Spec PyProof.Rows

def MtM (X : Cx) (id : String) (r : V → List V → Hp → VK → Prop) : Prop :=
  ∀ (pins : List (Addr × Obj)) (s : Shared) (σ : St) (H : Hp) (x : V) (xs : List V) (v : Value) (us : List Value) (Q : VK), Inv X pins σ H s → RelV x v → Vals xs us → r x xs H Q →
    wpAny (model X.prog X.w) X.A (call (.builtin id) (v :: us)) (EP X pins σ Q) X.xe s

/-! ### lists of values -/
theorem Vals.one : ∀ {x : V} {us : List Value}, Vals [x] us → ∃ u, us = [u] ∧ RelV x u
  | _, _, .cons r .nil => ⟨_, rfl, r⟩
section
variable {X : Cx} {pins : List (Addr × Obj)} {σ : St} {H : Hp} {s : Shared} {l b : Addr} {xs ys zs : List V}

/-! ### the two steps: a tracked list is rewritten, a new list is laid -/
theorem Inv.lset {its its' : List Value} {n : Nat} {f : Array Value → Array Value} {t' : Nat} (I : Inv X pins σ H s) (hH : H l = some (.lst xs))
    (e : s.heap.get? l = some { cls := .type "list", data := .seq its.toArray n }) (hf : f its.toArray = its'.toArray) (hv : Vals ys its') (hz : ys.length ≤ sizeLine) :
    Inv X pins σ (upd H l (.lst ys)) { s with heap := s.heap.update l (Obj.mapSeq f), toks := t' } := by
  have q := PySem.IsL.update e f
  rw [hf] at q
  refine I.write (x := l) (e := l) (by rw [hH]; exact trivial) (.inl rfl) (fun b' u hb hu => (Heap.get?_update_other s.heap (Obj.mapSeq f) (Ne.symm hb)).trans hu) ⟨_, q⟩ ?_
  exact ⟨hz, its', _, hv, q⟩
theorem Inv.lnew {its : List Value} {t' : Nat} (I : Inv X pins σ H s) (hv : Vals ys its) (hz : ys.length ≤ sizeLine) :
    Inv X pins σ (upd H s.heap.objs.size (.lst ys)) { s with heap := s.heap.push { cls := .type "list", data := .seq its.toArray }, toks := t' } :=
  I.laid (fun _ _ q => Heap.get?_push_of_some _ q) (Nat.le_refl _) ⟨hz, its, 0, hv, Heap.get?_push_size _ rfl⟩
theorem Inv.fresh (I : Inv X pins σ H s) : H s.heap.objs.size = none := I.hok.fresh (Nat.le_refl _)
theorem Inv.lstM (I : Inv X pins σ H s) (hH : H l = some (.lst xs)) : xs.length ≤ sizeLine ∧ ∃ (its : List Value) (n : Nat), Vals xs its ∧ xs.length = its.length ∧ s.heap.get? l = some { cls := .type "list", data := .seq its.toArray n } := by
  obtain ⟨z, its, n, r, e⟩ := I.hok l _ hH
  exact ⟨z, its, n, r, r.length, e⟩

end

section
variable {X : Cx}

/-! ### methods -/
def rAppend : V → List V → Hp → VK → Prop := fun x vs H Q => ∃ l xs y, x = .ref l ∧ vs = [y] ∧ H l = some (.lst xs) ∧ xs.length < sizeLine ∧ Q .non (upd H l (.lst (xs ++ [y])))
theorem mt_append : MtM X "list.append" rAppend := by
  intro pins s σ H x vs v us Q I rx rv h
  obtain ⟨l, xs, y, rfl, rfl, hH, hz, q⟩ := h
  cases rx
  obtain ⟨u, rfl, ru⟩ := rv.one
  obtain ⟨z, its, n, r, hl, e⟩ := I.lstM hH
  refine call_meets F.slot_list_append ⟨_, e, rfl⟩ F.entry_list_append (F.args_list_append_2 _ _) (PySem.list_append l its.toArray n u (by rw [List.size_toArray]; omega)) ⟨e, ?_⟩
  refine ⟨.non, _, I.lset (its' := its ++ [u]) hH e (by simp) (r.append (.cons ru .nil)) ?_, rfl, q⟩
  rw [List.length_append, List.length_singleton]
  omega

/-! ### list + list, list += list, list * int -/
def rCat : R2 := fun x y H Q => ∃ l b xs zs, x = .ref l ∧ y = .ref b ∧ H l = some (.lst xs) ∧ H b = some (.lst zs) ∧ xs.length + zs.length ≤ sizeLine ∧ ∀ p, H p = none → Q (.ref p) (upd H p (.lst (xs ++ zs)))
theorem op_cat : OpR X (binaryOp .Add) rCat := by
  intro pins s σ H x y v u Q I rx ry h
  obtain ⟨l, b, xs, zs, rfl, rfl, hH, hB, hz, q⟩ := h
  cases rx
  cases ry
  obtain ⟨z, its, n, r, hl, e⟩ := I.lstM hH
  obtain ⟨z2, its2, n2, r2, hl2, e2⟩ := I.lstM hB
  refine PySem.P.add_list e e2 ?_ (by rw [List.size_toArray, List.size_toArray]; omega)
  have ea : its.toArray ++ its2.toArray = (its ++ its2).toArray := by simp
  rw [ea]
  exact ⟨.ref _, _, I.lnew (t' := s.toks) (r.append r2) (by rw [List.length_append]; omega), rfl, q _ I.fresh⟩
/-! ### del xs[i] -/
end

/-! ### xs[a:b] = ys -/
section
variable {prog : Program} {w : World} {A : Around} {E : Value → Shared → Prop} {s : Shared}
set_option maxRecDepth 100000 in
end

section
variable {X : Cx}
end
end L2

namespace Att
open PySem PySem.W PySem.Calls PyProof.Rows

/-! ### the script -/
theorem ints_of_wellAll {P : Params} {h : Heap} : ∀ (ns : List Int) (vs : List Value), WellAll P h vs (ns.map WData.int) → IntsAre vs ns := by
  intro ns
  induction ns with
  | nil =>
    intro vs w
    rw [List.map_nil] at w
    cases w
    exact .nil
  | cons n ns ih =>
    intro vs w
    rw [List.map_cons] at w
    cases w with
    | cons a b =>
      cases a
      exact .cons _ _ (ih _ b)

theorem script_of {l : OpenLaw} {n : Nat} (hn : l.most = some n) {P : Params} {h : Heap} {args : List WData} {vals : List Value}
    (hpre : l.row.toRowW.claim.pre args = true) (hwl : WellAll P h vals args) :
    ∃ a vs ns, vals = [Value.ref a] ∧ args = [WData.list (ns.map WData.int)] ∧ h.get? a = some { cls := .type "list", data := .seq vs.toArray } ∧ IntsAre vs ns ∧ ns.length ≤ n := by
  have hsh : WShape.hasAll [] args [.list .int] = true := (pre_splitW hpre).1
  have hc : l.pre.holds [] { args := args } = true := (pre_splitW hpre).2
  obtain ⟨d, r, rfl, h1, h2⟩ := hasAllW_cons hsh
  obtain rfl := hasAllW_nil h2
  obtain ⟨xs, rfl, h3⟩ := hasW_list h1
  obtain ⟨ns, rfl⟩ := items_int h3
  have hlen : ns.length ≤ n := by
    unfold OpenLaw.pre at hc
    have h4 : (WTm.not (.lt (.lit (.int (n : Int))) (.len (.arg 0)))).holds [] { args := [.list (ns.map .int)] } = true := by
      have h4 := (holds_andW hc).1
      rw [hn] at h4
      exact h4
    have h5 := condW_of h4 (w_not (w_lt w_lit (w_len_list (w_arg rfl))))
    rw [List.length_map] at h5
    refine Nat.le_of_not_lt fun q => ?_
    have q' : (n : Int) < ((ns.length : Nat) : Int) := by omega
    first
      | (rw [decide_eq_true q'] at h5; exact absurd h5 (by decide))
      | (simp at h5; omega)
  cases hwl with
  | cons w1 w2 =>
    cases w2
    cases w1 with
    | list ho hall => exact ⟨_, _, ns, rfl, rfl, ho, ints_of_wellAll ns _ hall, hlen⟩

theorem post_true (l : OpenLaw) (args : List WData) : l.row.toRowW.claim.post args (.bool true) args = true :=
  postW_of (r := l.row.toRowW) (X := (true == true))
    (show WShape.has [] (.bool true) .bool = true by first | rfl | decide | simp [WShape.has, WShape.arms, WShape.armsAll])
    (show (WTm.eq .res (.lit (.bool true))).value [] { args := args, res := some (.bool true), after := args } = some (.bool (true == true)) from w_eq_bool (w_res rfl) w_lit) rfl

/-! ### the attachment: holds_open's last premise (the goal 'hc' behind k_head) from a wpAny of the law's body -/
/-- the same from a codeAny of the CALL (for a layer whose function contracts speak of calls) -/
theorem attach_call {l : OpenLaw} {n : Nat} {q : Program} {loose : List Str} {XP : (Str → Option Value) → Heap → Prop} {YP : World → Heap → Prop} {d : DefRec}
    (hn : l.most = some n) (hdf : d.params.defaults = [])
    (call : ∀ (w : World) (s₀ s₁ : Shared) (mg mb : Str → Option Value) (fa : Addr) (o : Obj) (pm cd doc : Value) (a : Addr) (vs : List Value) (ns : List Int),
      Ground q loose [] XP w s₀ mg mb s₁.heap → YP w s₁.heap →
      s₁.heap.get? fa = some o → o.data = .func (docDef d.name d.params d.body d.scope pm cd doc) → s₁.heap.CodeRec cd d.name → mg d.name = some (.ref fa) →
      s₁.heap.get? a = some { cls := .type "list", data := .seq vs.toArray } → IntsAre vs ns → ns.length ≤ n → s₁.gens = #[] →
      codeAny (model l.prog w) callerA (.call (.ref fa) ⟨[.ref a], []⟩) (fun r s' => r = .ok (.ret (.bool true)) ∧ OldK s₁.heap s'.heap ∧ s'.os = s₁.os ∧ AllBare s'.gens) s₁) :
    WalkO q loose XP YP l.row.toRowW d [] (fun f vs => PySem.call f vs) := by
  intro w s₀ s₁ mg mb G Y fa o pm cd doc dV kV ho hd hcd hD hmg hg args vals as hpre hlay hrd hwl hlo
  obtain rfl : dV = .none := Dflts.none hD hdf
  obtain rfl : kV = .none := Dflts.noKw hD
  obtain ⟨a, vs, ns, rfl, rfl, hobj, hints, hlen⟩ := script_of hn hpre hwl
  refine enter_call (codeAny_mono (call w s₀ s₁ mg mb fa o pm cd doc a vs ns G Y ho (fd_plain hd) hcd hmg hobj hints hlen hg) fun r s' hq => ?_)
  obtain ⟨rfl, h2, h3, h4⟩ := hq
  exact ⟨.inl ⟨.bool true, .bool true, [], rfl, fun _ => rfl, .bool true, post_true l _, fun _ => ⟨List.Pairwise.nil, fun _ hm => (nomatch hm)⟩⟩, h2, h3, h4⟩

/-! ### rules over ANY heap (no ledger) from facts about the written part K: the library's own take a ledger (News) for what they write -/
section
variable {prog : Program} {w : World} {A : Around} {E : Value → Shared → Prop} {s : Shared} {K : Frag}

/-! the whole heap as the ledger: makes every rule that writes through a ledger a rule over any heap -/
def ledger (h : Heap) (L d : Addr) : List (Addr × Obj) := (List.range h.objs.size).filterMap fun a => if a = L ∨ a = d then none else (h.get? a).map fun o => (a, o)
end
end Att

namespace L2
open PySem PySem.Spec PyProof.Rows

theorem vals_ints : ∀ {vs : List Value} {ns : List Int}, IntsAre vs ns → Vals (ns.map V.int) vs
  | _, _, .nil => .nil
  | _, _, .cons n t h => .cons ⟨t, rfl⟩ (vals_ints h)

/-- nothing is tracked but the script, known to the object (or it is an object of the module) -/
def Only (H : Hp) : Prop := ∀ b, H b = none ∨ ∃ o xs, H b = some (.frz o (.lst xs))

/-- THE HEAD: the law's promise, at the heap behind the top. F, the promise of the law's def, may use that base is part of the heap (so K.In base, base.Ns mainGlobals mg stand in Mod) -/
theorem law_call {P : Program} {w : World} {K : PySem.W.Frag} {mg mb : Str → Option Value} {CX : CXT} {k : Nat} {fa a : Addr} {fd : FuncData} {x : Str} {sp : Sp} {s₁ : Shared} {vs : List Value} {ns : List Int}
    (KX : K.In s₁.heap) (hns : s₁.heap.Ns mainGlobals mg) (hb : s₁.heap.Ns builtinsNs mb) (hbb : ∀ x : Str, x ≠ "__name__" → mb x = bootBuiltins x) (hlim : s₁.heap.NoLimit) (hg : s₁.gens = #[])
    (ha : s₁.heap.get? a = some { cls := .type "list", data := .seq vs.toArray }) (hi : IntsAre vs ns) (hl : ns.length ≤ sizeLine) (hr : Room k callerA)
    (F : ∀ base : Heap, K.In base → base.Ns mainGlobals mg → FnOk P w K mg base CX k fa fd [x] sp) (hbind : ∀ (s : Shared) (u : Value), BindsTo s fd ⟨[u], []⟩ [(x, u)])
    (hsp : ∀ H : Hp, Only H → SqL K H a (ns.map V.int) → sp [.ref a] H (fun v _ => v = .bl true) fun _ _ _ => False)
    (hCX : ∀ H e s', CX [] H s₁ (fun _ _ _ => False) e s' → False) :
    codeAny (model P w) callerA (.call (.ref fa) ⟨[.ref a], []⟩) (fun r s' => r = .ok (.ret (.bool true)) ∧ OldK s₁.heap s'.heap ∧ s'.os = s₁.os ∧ AllBare s'.gens) s₁ := by
  have rv := vals_ints hi
  have lenV := hi.length
  -- from an abstract heap in which nothing but the script may be tracked
  have core : ∀ H : Hp, Only H → SqL K H a (ns.map V.int) → HOk P w H s₁.heap → (∀ b, H b ≠ none → b = a) → (H a ≠ none → K.lookup a = none) →
      codeAny (model P w) callerA (.call (.ref fa) ⟨[.ref a], []⟩) (fun r s' => r = .ok (.ret (.bool true)) ∧ OldK s₁.heap s'.heap ∧ s'.os = s₁.os ∧ AllBare s'.gens) s₁ := by
    intro H hO hS hok hA hK
    have base_of : ∀ {b : Addr} {o : Obj}, s₁.heap.get? b = some o → H b = none → (hidT s₁.heap H).get? b = some o := fun e n => hidT_get e n
    have noA : ∀ {b : Addr} {o : Obj} {es : Array DictEntry} {ep : Nat}, s₁.heap.get? b = some o → o.data = .dict es ep → H b = none := fun {b o es ep} e d => by
      cases q : H b with
      | none => rfl
      | some u =>
        have e' : b = a := hA b (by rw [q]; simp)
        subst e'
        rw [ha] at e; cases e
        have d' : Data.seq vs.toArray _ = Data.dict es ep := d
        cases d'
    have nsK : ∀ {b : Addr} {m : Str → Option Value}, s₁.heap.Ns b m → (hidT s₁.heap H).Ns b m := fun {b m} ⟨o, es, ep, e, d, r⟩ => ⟨o, es, ep, base_of e (noA e d), d, r⟩
    have hKb : K.In (hidT s₁.heap H) := fun b o e => base_of (KX b o e) (by
      cases q : H b with
      | none => rfl
      | some u =>
        have e' : b = a := hA b (by rw [q]; simp)
        subst e'
        rw [hK (by rw [q]; simp)] at e; cases e)
    have hM : Mod K mg (hidT s₁.heap H) := ⟨hKb, nsK hns, ⟨mb, nsK hb, hbb⟩, let ⟨mc, h1, h2⟩ := hlim; ⟨mc, nsK h1, h2⟩⟩
    have e0 : Env0 P w K mg (hidT s₁.heap H) callerA [] s₁ H := ⟨rfl, hM, fun b o e => of_hidT e, Nat.le_of_eq (hidT_size _ _), trivial, fun b hb => absurd (show b ∈ ([] : List Addr) from hb) (by simp), hok, .of_eq hg⟩
    refine codeAny_mono ((F _ hKb (nsK hns)).run callerA [] s₁ H ⟨[.ref a], []⟩ [.ref a] [.ref a] _ _ hr e0 (hbind s₁ (.ref a)) (.cons rfl .nil) (hsp H hO hS)) fun r s' h => ?_
    cases r with
    | error e => exact (hCX H e s' h).elim
    | ok fl =>
      cases fl with
      | next => exact False.elim h
      | brk => exact False.elim h
      | cont => exact False.elim h
      | ret u =>
        obtain ⟨v, H', os, bare, un, hok', r', q⟩ := h
        have q' : v = .bl true := q
        subst q'
        obtain rfl : u = Value.bool true := r'
        refine ⟨rfl, OldK.of_keep fun b o e => ?_, os, bare⟩
        cases q : H b with
        | none => exact un.keep b o e q (by intro z; exact absurd (show b ∈ ([] : List Addr) from z) (by simp)) (by simp)
        | some u =>
          rcases hO b with z | ⟨ob, xs, z⟩
          · rw [q] at z; cases z
          · have z2 := un.frzs b ob _ z
            obtain ⟨e1, _⟩ := hok b _ z
            obtain ⟨e2, _⟩ := hok' b _ z2
            rw [e] at e1; cases e1
            exact e2
  cases hk : K.lookup a with
  | some o =>
    -- the script is one of the module's own objects
    have e := KX a o hk
    rw [ha] at e
    cases e
    refine core (fun _ => none) (fun _ => .inl rfl) (.inr ⟨_, vs.toArray, _, hk, rfl, rfl, rfl, by rw [List.size_toArray, lenV]; exact hl, by simpa using rv⟩) (fun b u z => by have z' : (none : Option HO) = some u := z; cases z') (fun b z => absurd rfl z) fun z => absurd rfl z
  | none =>
    refine core (fun b => if b = a then some (.frz { cls := .type "list", data := .seq vs.toArray } (.lst (ns.map V.int))) else none) (fun b => ?_) (.inl (.inr ⟨{ cls := .type "list", data := .seq vs.toArray }, if_pos rfl⟩)) (fun b u z => ?_) (fun b z => ?_) fun _ => hk
    · by_cases hb : b = a
      · exact .inr ⟨_, _, if_pos hb⟩
      · exact .inl (if_neg hb)
    · by_cases hb : b = a
      · have z' := (if_pos hb).symm.trans z
        cases z'
        subst hb
        exact ⟨ha, by rw [List.length_map]; exact hl, vs, _, rv, ha⟩
      · have z' := (if_neg hb).symm.trans z
        cases z'
    · by_cases hb : b = a
      · exact hb
      · exact absurd (if_neg hb) z
end L2

namespace L2
open PySem PySem.Spec PyProof.Rows

/-- the goal that k_head leaves (case hc), from the law's promise. F gives the function object fd (K's own) once, then the promise over every base -/
theorem walk_of {l : PySem.W.OpenLaw} {n k : Nat} {q : Program} {loose : List Str} {XP : (Str → Option Value) → Heap → Prop} {YP : World → Heap → Prop} {d : DefRec} {K : Params → PySem.W.Frag} {CX : World → CXT} {sp : World → Sp} {x : Str}
    (hn : l.most = some n) (hn2 : n ≤ sizeLine) (hdf : d.params.defaults = []) (hr : Room k callerA)
    (hY : ∀ (w : World) (h : Heap), YP w h → (K w.params).In h)
    (F : ∀ (w : World) (mg : Str → Option Value) (fa : Addr) (h : Heap), (K w.params).In h → h.Ns mainGlobals mg → mg d.name = some (.ref fa) →
      ∃ fd : FuncData, (∀ (s : Shared) (u : Value), BindsTo s fd ⟨[u], []⟩ [(x, u)]) ∧
        ∀ base : Heap, (K w.params).In base → base.Ns mainGlobals mg → FnOk l.prog w (K w.params) mg base (CX w) k fa fd [x] (sp w))
    (hsp : ∀ (w : World) (H : Hp) (a : Addr) (ns : List Int), ns.length ≤ n → Only H → SqL (K w.params) H a (ns.map V.int) → sp w [.ref a] H (fun v _ => v = .bl true) fun _ _ _ => False)
    (hCX : ∀ (w : World) (H : Hp) (s : Shared) (e : Value) (s' : Shared), CX w [] H s (fun _ _ _ => False) e s' → False) :
    PySem.W.WalkO q loose XP YP l.row.toRowW d [] (fun f vs => PySem.call f vs) := by
  refine Att.attach_call hn hdf fun w s₀ s₁ mg mb fa o pm cd doc a vs ns G Y ho hd hcd hmg hobj hints hlen hg => ?_
  have KX := hY w _ Y
  obtain ⟨fd, hb, hF⟩ := F w mg fa _ KX G.T.g hmg
  exact law_call KX G.T.g G.T.b G.T.builtins G.T.nolimit hg hobj hints (Nat.le_trans hlen hn2) hr hF hb (fun H hO hS => hsp w H a ns hlen hO hS) fun H e s' => hCX w H s₁ e s'
end L2


/-! SHORT WORDS over the layer: a def of the text, its body, what a loop and a test want. -/
namespace L2
open PySem PySem.Spec PyProof.Rows

/-! ### the text by places -/
/-- the j-th statement of a class's body -/
def inClass (s : Stmt) (j : Nat) : Stmt := match s with
  | .ClassDef _ _ _ body _ _ _ _ _ _ _ => body.getD j (.Pass ⟨0, 0, 0, 0⟩)
  | _ => .Pass ⟨0, 0, 0, 0⟩
def defArgs (s : Stmt) : Arguments := match s with
  | .FunctionDef _ a _ _ _ _ _ _ _ _ => a
  | _ => { posonlyargs := [], args := [], vararg := none, kwonlyargs := [], kw_defaults := [], kwarg := none, defaults := [] }
def defBody (s : Stmt) : List Stmt := match s with
  | .FunctionDef _ _ b _ _ _ _ _ _ _ => b
  | _ => []
def defScope (s : Stmt) : Scope := match s with
  | .FunctionDef _ _ _ _ _ _ sc _ _ _ => sc
  | _ => { kind := .function, names := [], isGenerator := false, isCoroutine := false }

/-! ### no exception leaves a def -/
abbrev CX0 : CXT := fun _ _ _ _ _ _ => False
abbrev E0 : XK := fun _ _ _ => False
theorem pass0 {X : Cx} : Passes CX0 X E0 := fun _ _ _ _ _ _ _ h => h.elim

/-! ### a def (or method) of the text as it stands behind the top -/
structure Fun (K : PySem.W.Frag) (x qual : Str) (st : Stmt) (f : Addr) (fd : FuncData) : Prop where
  ex : ∃ (oc : Value) (od : Option Addr) (kV doc pm : Value) (an : Option Addr) (cdv ct : Value) (osl : Array (Option Value)),
    fd = PySem.W.fnOf x qual (defArgs st) (defBody st) (defScope st) .none kV doc pm an cdv ct ∧ K.lookup f = some ⟨oc, od, .func fd, osl⟩ ∧ PySem.W.codeIn K cdv qual = true
  kp : PySem.W.keepIn K (.ref f) = true
section
variable {P : Program} {w : World} {K : PySem.W.Frag} {mg : Str → Option Value} {base : Heap}
/-- THE RULE for a def: its body as a term of rules, and the reading of that term -/
theorem Fun.ok {x qual : Str} {st : Stmt} {f : Addr} {fd : FuncData} {N ps : List Str} {k : Nat} {sp : Sp} (F : Fun K x qual st f fd) (S : FnScope N ps (defScope st)) (len : ∀ vs H Q E, sp vs H Q E → vs.length = ps.length)
    (hbody : ∀ (cdv : Value) (A : Around) (outer : List Env) (s : Shared) (H : Hp) (vs : List V) (Q : VK) (E : XK), Room k (A.deeper (envOfC qual (defScope st) s.heap.objs.size f cdv)) → sp vs H Q E →
      ∃ t, PSs (cxOf CX0 P w K mg base N qual (defScope st) f cdv A outer s H E).nox (defBody st) t ∧ t { nx := fun _ H' => Q .non H', rt := Q } (start N vs) H) : FnOk P w K mg base CX0 (k + 1) f fd ps sp := by
  obtain ⟨oc, od, kV, doc, pm, an, cdv, ct, osl, rfl, lk, hcd⟩ := F.ex
  refine fn_of lk hcd S len fun A outer s H vs Q E hr hsp => ?_
  obtain ⟨t, h, q⟩ := hbody cdv A outer s H vs Q E hr hsp
  exact ⟨t, h.nox, q⟩
/-- how its arguments bind (no defaults): h is «fun _ _ _ _ _ _ us hl => match us, hl with | [_, _], _ => rfl», one _ a parameter -/
theorem Fun.binds {x qual : Str} {st : Stmt} {f : Addr} {fd : FuncData} {ps : List Str} (F : Fun K x qual st f fd)
    (h : ∀ (kV doc pm : Value) (an : Option Addr) (cdv ct : Value) (us : List Value), us.length = ps.length → bindArgs (PySem.W.fnOf x qual (defArgs st) (defBody st) (defScope st) .none kV doc pm an cdv ct) ⟨us, []⟩ = pure (ps.zip us)) : Binds K fd ps [] := by
  obtain ⟨oc, od, kV, doc, pm, an, cdv, ct, osl, rfl, lk, hcd⟩ := F.ex
  exact .all (h kV doc pm an cdv ct)
theorem fun_mk {x qual : Str} {st : Stmt} {f : Addr} {oc : Value} {od an : Option Addr} {osl : Array (Option Value)} {kV doc pm cdv ct : Value} (l : K.lookup f = some ⟨oc, od, .func (PySem.W.fnOf x qual (defArgs st) (defBody st) (defScope st) .none kV doc pm an cdv ct), osl⟩)
    (c : PySem.W.codeIn K cdv qual = true) (k : PySem.W.keepIn K (.ref f) = true) : Fun K x qual st f (PySem.W.fnOf x qual (defArgs st) (defBody st) (defScope st) .none kV doc pm an cdv ct) := ⟨⟨oc, od, kV, doc, pm, an, cdv, ct, osl, rfl, l, c⟩, k⟩
end
/-! ### expressions in short: the name that stands in the i-th slot -/
section
variable {X : Cx}
theorem pv (i : Nat) {x : Str} {pos : Pos} (hN : X.N[i]? = some x := by rfl) (hv : Vis X.env.scope x := by first | exact Or.inl rfl | exact Or.inr (Or.inl rfl) | exact Or.inr (Or.inr rfl)) (hd : (x == ("__debug__" : Str)) = false := by decide)
    (hcd : (x == ("__classdict__" : Str)) = false := by decide) : PE X (.Name x pos) (tVar i) := pe_var hN hv hd hcd
end

/-! ### tests -/
theorem iteF {A B : Prop} (h : B) : if false = true then A else B := by
  rw [if_neg Bool.false_ne_true]
  exact h
theorem iteT {A B : Prop} (h : A) : if true = true then A else B := by
  rw [if_pos rfl]
  exact h
theorem iteNS {c A B : Prop} [Decidable c] (hc : c) (h : B) : if (!decide c) = true then A else B := by
  rw [decide_eq_true hc]
  exact iteF h

/-! ### heaps -/
/-- all that was tracked is as it was -/
def Same (H H' : Hp) : Prop := ∀ b o, H b = some o → H' b = some o
theorem Same.refl (H : Hp) : Same H H := fun _ _ h => h
theorem Same.trans {H H1 H2 : Hp} (a : Same H H1) (b : Same H1 H2) : Same H H2 := fun c o h => b c o (a c o h)
theorem Same.free {H H' : Hp} (e : Same H H') {l : Addr} (h : H' l = Option.none) : H l = Option.none := by
  cases q : H l with
  | none => rfl
  | some o =>
    rw [e l o q] at h
    cases h
theorem Same.seq {K : PySem.W.Frag} {H H' : Hp} {a : Addr} {xs : List V} (e : Same H H') (h : SqL K H a xs) : SqL K H' a xs := by
  rcases h with (h | ⟨o, h⟩) | h
  · exact .inl (.inl (e _ _ h))
  · exact .inl (.inr ⟨o, e _ _ h⟩)
  · exact .inr h

end L2

section
namespace L2
open PySem PySem.Spec PyProof.Rows
/-! ### more rules: texts, ranges down, comprehensions -/
section
variable {X : Cx}
theorem mt_bitlen : MtR X "int.bit_length" (fun x xs H Q => ∃ i, x = .int i ∧ xs = [] ∧ Q (.int ((Builtin.Int.intBits i : Nat) : Int)) H) := by
  intro pins s σ H x xs v us Q I rx rv h
  obtain ⟨i, rfl, rfl, q⟩ := h
  obtain ⟨t, rfl⟩ := rx
  cases rv
  exact call_gives F.slot_int_bit_length (typeIs_int s i t) F.entry_int_bit_length (F.args_int_bit_length_1 _) (AutoIntG2.int_bit_length_int_0 i t) ⟨.int _, H, I.tok _, ⟨_, rfl⟩, q⟩
theorem strs_of : ∀ {ys : List Str} {its : List Value}, Vals (ys.map V.str) its → StrsAre its ys
  | [], _, .nil => .nil
  | _ :: _, _, .cons ⟨_, e⟩ r => by subst e; exact .cons _ _ (strs_of r)
/-- sep.join(a list of texts) -/
theorem mt_join : MtR X "str.join" (fun x xs H Q => ∃ y a ys, x = .str y ∧ xs = [.ref a] ∧ SqL X.K H a (ys.map V.str) ∧ (ys.map (·.length)).sum + ys.length * y.length ≤ 16777216 ∧ Q (.str (Txt.join y ys)) H) := by
  intro pins s σ H x xs v us Q I rx rv h
  obtain ⟨y, a, ys, rfl, rfl, hq, hz, q⟩ := h
  obtain ⟨t, rfl⟩ := rx
  obtain ⟨u, rfl, ru⟩ := rv.one
  cases ru
  obtain ⟨its, r, pl, _⟩ := I.list hq
  exact join_list pl.isList (by simpa using strs_of r) hz fun t' k => ⟨.str _, H, I.tok _, ⟨_, rfl⟩, q⟩
theorem op_mul_str : OpR X (binaryOp .Mult) (fun x y H Q => ∃ z i, x = .str z ∧ y = .int i ∧ i < 2 ^ 40 ∧ -(2 ^ 40) < i ∧ z.length * i.toNat ≤ sizeLine ∧ Q (.str (Txt.mul z i)) H) := by
  intro pins s σ H x y v u Q I rx ry h
  obtain ⟨z, i, rfl, rfl, h1, h2, h3, q⟩ := h
  obtain ⟨t, rfl⟩ := rx
  obtain ⟨t', rfl⟩ := ry
  refine SB.mul ⟨?_, fun h4 _ => ?_, fun h4 _ => ?_⟩ fun t' k => ⟨.str _, H, I.tok _, ⟨_, rfl⟩, q⟩
  · simp only [Bool.or_eq_false_iff, decide_eq_false_iff_not]; omega
  · intro c
    have hn : (0 : Int) < i := by omega
    have h63 := line63
    have e : (z.length : Int) * i ≤ 2 ^ 63 - 1 := by
      have : ((z.length * i.toNat : Nat) : Int) = (z.length : Int) * i := by rw [Int.natCast_mul]; congr 1; omega
      omega
    have := (Int.le_ediv_iff_mul_le hn).mpr e
    omega
  · unfold Builtin.Str.tooLong; simpa using h3
theorem call_int_text : CallR X (.type "int") (fun xs H Q => ∃ x n, xs = [.str x] ∧ PySem.intText? x = some n ∧ x.length ≤ 640 ∧ Q (.int n) H) := by
  intro pins s σ H xs us Q I r h
  obtain ⟨x, n, rfl, hn, hl, q⟩ := h
  obtain ⟨u, rfl, t, rfl⟩ := vals1 r
  exact PySem.W.KIN.call_text hn hl ⟨.int n, H, I.tok _, ⟨_, rfl⟩, q⟩
theorem sl_str : SlR X (fun x lo hi H Q => ∃ z, x = .str z ∧ z.length ≤ sizeLine ∧ Q (.str (Txt.slice z lo hi)) H) := by
  intro pins s σ H x v vl vu lo hi sl Q I rx hs pl pu h
  obtain ⟨z, rfl, hz, q⟩ := h
  obtain ⟨t, rfl⟩ := rx
  refine ⟨"str", _, F.slot_str_getitem.lookup, typeIs_str s z t, ?_⟩
  have fin : ∀ (t' : Tok) (k : Nat), EP X pins σ Q (.str (Txt.slice z lo hi) t') { s with toks := k } := fun t' k => ⟨.str _, H, I.tok _, ⟨_, rfl⟩, q⟩
  obtain ⟨o, ho, hc, hd⟩ := hs
  cases pl with
  | none =>
    cases pu with
    | none => exact wpAny_getItem_str_slice (l := none) (u := none) (st := none) ⟨o, ho, hc, hd⟩ rfl (post_val_or_str ⟨Nat.le_trans (Txt.slice_le z _ _) hz, fin⟩)
    | int j uj => exact wpAny_getItem_str_slice (l := none) (u := some (j, uj)) (st := none) ⟨o, ho, hc, hd⟩ rfl (post_val_or_str ⟨Nat.le_trans (Txt.slice_le z _ _) hz, fin⟩)
  | int i ui =>
    cases pu with
    | none => exact wpAny_getItem_str_slice (l := some (i, ui)) (u := none) (st := none) ⟨o, ho, hc, hd⟩ rfl (post_val_or_str ⟨Nat.le_trans (Txt.slice_le z _ _) hz, fin⟩)
    | int j uj => exact wpAny_getItem_str_slice (l := some (i, ui)) (u := some (j, uj)) (st := none) ⟨o, ho, hc, hd⟩ rfl (post_val_or_str ⟨Nat.le_trans (Txt.slice_le z _ _) hz, fin⟩)
/-- isinstance(x, T), T a built-in type -/
theorem call_isinst : CallR X (.builtin "isinstance") (fun xs H Q => ∃ x T t b, xs = [x, .ty T] ∧ TyOf X.K H x t ∧ PySem.W.kitOne X.K t (.type T) = some b ∧ Q (.bl b) H) := by
  intro pins s σ H xs us Q I r h
  obtain ⟨x, T, t, b, rfl, ty, e, q⟩ := h
  obtain ⟨u, w', rfl, r1, r2⟩ := vals2 r
  cases (show w' = Value.type T from r2)
  exact isinst_ok I r1 ty e fun tk => ⟨.bl b, H, I.tok _, rfl, q⟩
/-- isinstance(x, C), C a class of the text -/
theorem call_isinstC : CallR X (.builtin "isinstance") (fun xs H Q => ∃ x C t b, xs = [x, .ref C] ∧ TyOf X.K H x t ∧ PySem.W.kitOne X.K t (.ref C) = some b ∧ Q (.bl b) H) := by
  intro pins s σ H xs us Q I r h
  obtain ⟨x, C, t, b, rfl, ty, e, q⟩ := h
  obtain ⟨u, w', rfl, r1, r2⟩ := vals2 r
  cases (show w' = Value.ref C from r2)
  exact isinst_ok I r1 ty e fun tk => ⟨.bl b, H, I.tok _, rfl, q⟩
end
/-! ### a range with a step -/
/-- lo, lo + c, .. (n of them) -/
def Itc (lo c : Int) (n : Nat) : It := ⟨fun i _ => i < n, fun i H x H' => H' = H ∧ x = .int (lo + i * c), fun i _ => n ≤ i⟩
theorem turn_rangeC {P : Program} {w : World} {K : PySem.W.Frag} {tg : Expr} (it : Addr) (lo c : Int) (n : Nat) : Turn P w K tg (Itc lo c n) [it] it (fun i h => IsRangeIter h it (lo + (i : Nat) * c) ((n : Int) - (i : Nat)) c) where
  mem := by simp
  obj := fun i h st b hb => by
    have e : b = it := by simpa using hb
    subst e
    exact ⟨_, st, fun v z => by
      have z' : Data.fields _ = Data.cell v := z
      cases z'⟩
  keep := fun i h h' st k => k it (by simp) _ st
  item := by
    intro X hP hw hK hc i pins s σ H E I hf st hg
    subst hP hw hK
    obtain ⟨f0, f1, f2, f3, f4, f5⟩ := hf it (by simp)
    have W := Walks.range (prog := X.prog) (w := X.w) (I.ok.hd hc) it lo c n
    refine W.item i s _ _ hg st fun v h' tk hv st' kk => ?_
    obtain ⟨t, rfl⟩ := hv
    have I1 : Inv X pins σ H { s with heap := h', toks := tk } := I.turned (fun b o hb e => kk b o (by simpa using hb) e) f0 f1 f3 f4 f5
    exact ⟨_, rfl, go_of (s := { s with heap := h', toks := tk }) (n := "range_iterator") st' rfl rfl (by decide) ⟨.int (lo + i * c), H, I1, ⟨t, rfl⟩, ⟨rfl, rfl⟩, st', fun b hb => (hf b hb).1⟩⟩
  done := by
    intro X hP hw hK hc i pins s σ H E I hf st hg
    subst hP hw hK
    obtain ⟨f0, f1, f2, f3, f4, f5⟩ := hf it (by simp)
    exact wpAny_pyNext_range_end (I.ok.hd hc) st (by have : n ≤ i := hg; omega) fun h' eb => ⟨rfl, I.turned (t' := s.toks) (fun b o hb e => eb b o hb e) f0 f1 f3 f4 f5⟩
  self := fun _ _ _ _ _ st h => wpAny_pyIter_rangeiter st h
section
variable {X : Cx} {tg : Expr}
/-- range(a, b, -1) -/
def iRngD (ta : TA) : TI := fun σ H R => ta σ H fun vs H1 => ∃ i j : Int, vs = [.int i, .int j, .int (-1)] ∧ (-(2 ^ 61) ≤ i ∧ i < 2 ^ 61 ∧ -(2 ^ 61) ≤ j ∧ j < 2 ^ 61) ∧ R (Itc i (-1) (i - j).toNat) H1
end
end L2

end

section
namespace L2
open PySem PySem.Spec PyProof.Rows
/-! ### range(a, b, -1) -/
section
variable {X : Cx} {tg : Expr}
theorem small_down {a b : Int} (ha : -(2 ^ 61) ≤ a) (ha' : a < 2 ^ 61) (hb : -(2 ^ 61) ≤ b) (hb' : b < 2 ^ 61) : Builtin.Range.small a b (-1) = true := by
  unfold Builtin.Range.small Builtin.Range.rangeSize
  simp only [Builtin.Range.rangeFitsLong, Bool.and_eq_true, Bool.or_eq_true, decide_eq_true_eq, beq_iff_eq, show ¬ ((-1 : Int) > 0) by decide, if_false, Int.neg_neg, Int.ediv_one]
  split <;> omega
theorem rangeSize_down (a b : Int) : Builtin.Range.rangeSize a b (-1) = (((a - b).toNat : Nat) : Int) := by
  unfold Builtin.Range.rangeSize
  rw [if_neg (by decide)]
  simp only [Int.neg_neg, Int.ediv_one]
  split <;> omega
theorem pi_rangeD {a b c : Expr} {ta : TA} {p pos : Pos} (hg : Gl X "range") (hm : X.mg "range" = none) (ha : PA X [a, b, c] ta)
    (hs : starEach [a, b, c] X.env = [(false, eval a X.env), (false, eval b X.env), (false, eval c X.env)] := by rfl) (hs2 : starEach [b, c] X.env = [(false, eval b X.env), (false, eval c X.env)] := by rfl) :
    PI X tg (.Call (.Name "range" p) [a, b, c] [] pos) (iRngD ta) := by
  intro pins s σ H R I h
  refine Call_ (ld_blt I hg hm boot_range (PyProof.Rows.callWith_type1 (thn (ha pos pins s σ H _ I h) fun us s1 ⟨vs, H1, I1, r1, q1⟩ => ?_) (by rw [hs, hs2]) (by rw [hs2]; rfl)))
  obtain ⟨i, j, e, ⟨q1, q2, q3, q4⟩, q⟩ := q1
  subst e
  cases r1 with
  | cons r rr =>
    cases rr with
    | cons r' rr =>
      cases rr with
      | cons r'' rr =>
        cases rr
        obtain ⟨t, rfl⟩ := r
        obtain ⟨t', rfl⟩ := r'
        obtain ⟨t'', rfl⟩ := r''
        refine call_range_3 (by decide) ?_ (.inl (PyProof.noPylong_small (by decide)))
        refine wpAny_pyIter_range (IsRange.new ..) (small_down q1 q2 q3 q4) ?_
        have I2 : Inv X pins σ H1 { s1 with heap := s1.heap.push { cls := .type "range", data := .fields #[.int i t, .int j t', .int (-1) t''] } } := I1.kept (t' := s1.toks) fun b o e => Heap.get?_push_of_some _ e
        refine ⟨_, [_], _, _, H1, rfl, I2.kept (t' := s1.toks) fun b o e => Heap.get?_push_of_some _ e, turn_rangeC _ i (-1) (i - j).toNat, ?_, fun b hb => ?_, q⟩
        · have e1 : i + ((0 : Nat) : Int) * (-1) = i := by simp
          have e2 : (((i - j).toNat : Nat) : Int) - ((0 : Nat) : Int) = Builtin.Range.rangeSize i j (-1) := by rw [rangeSize_down]; simp
          show IsRangeIter _ _ (i + ((0 : Nat) : Int) * (-1)) ((((i - j).toNat : Nat) : Int) - ((0 : Nat) : Int)) (-1)
          rw [e1, e2]
          exact Heap.get?_push_size _ rfl
        · have e := List.mem_singleton.mp hb
          subst e
          exact I2.fpOk (Nat.le_refl _) (I2.hok.fresh (Nat.le_refl _))
end
/-! ### a text's signs -/
def Its (x : Str) : It := ⟨fun i _ => i < x.cps.size, fun i H v H' => H' = H ∧ ∃ c, x.cps[i]? = some c ∧ v = .str ⟨#[c]⟩, fun i _ => x.cps.size ≤ i⟩
section
variable {X : Cx} {tg : Expr}
theorem turn_str {P : Program} {w : World} {K : PySem.W.Frag} {tg : Expr} (x : Str) (it : Addr) (n : String) (t : Tok) (W : ∀ A' : Around, A'.handled = none → Walks P w A' it [it] [it] x.cps.size (SignAt x) (fun i h => h.IsStrIter it n x t i))
    (hn : ["enumerate", "zip", "dict_itemiterator", "dict_reverseitemiterator", "odict_iterator", "itertools.zip_longest", "itertools.pairwise"].contains n = false)
    (hdone : ∀ (A : Around) (i : Nat) (s : Shared) (Q : Option Value → Shared → Prop) (E : Value → Shared → Prop), A.handled = none → s.heap.IsStrIter it n x t i → x.cps.size ≤ i → (∀ h', (∀ b o, b ≠ it → s.heap.get? b = some o → h'.get? b = some o) → Q none { s with heap := h' }) → wpAny (model P w) A (pyNext (.ref it)) Q E s)
    (hself : ∀ (A : Around) (i : Nat) (s : Shared) (Q : Value → Shared → Prop) (E : Value → Shared → Prop), s.heap.IsStrIter it n x t i → Q (.ref it) s → wpAny (model P w) A (pyIter (.ref it)) Q E s) :
    Turn P w K tg (Its x) [it] it (fun i h => h.IsStrIter it n x t i) where
  mem := by simp
  obj := fun i h st b hb => by
    have e : b = it := by simpa using hb
    subst e
    obtain ⟨o, ho, hc, hd⟩ := st
    exact ⟨o, ho, fun v z => by rw [hd] at z; cases z⟩
  keep := fun i h h' st k => by
    obtain ⟨o, ho, r⟩ := st
    exact ⟨o, k it (by simp) o ho, r⟩
  item := by
    intro X hP hw hK hc i pins s σ H E I hf st hg
    subst hP hw hK
    obtain ⟨f0, f1, f2, f3, f4, f5⟩ := hf it (by simp)
    refine (W X.A (I.ok.hd hc)).item i s _ _ hg st fun v h' tk hv st' kk => ?_
    obtain ⟨c, u, hc', rfl⟩ := hv
    have I1 : Inv X pins σ H { s with heap := h', toks := tk } := I.turned (fun b o hb e => kk b o (by simpa using hb) e) f0 f1 f3 f4 f5
    obtain ⟨o, ho, hcl, hd⟩ := id st'
    exact ⟨_, rfl, go_of (s := { s with heap := h', toks := tk }) (n := n) ho hcl hd hn ⟨.str ⟨#[c]⟩, H, I1, ⟨u, rfl⟩, ⟨rfl, c, hc', rfl⟩, st', fun b hb => (hf b hb).1⟩⟩
  done := by
    intro X hP hw hK hc i pins s σ H E I hf st hg
    subst hP hw hK
    obtain ⟨f0, f1, f2, f3, f4, f5⟩ := hf it (by simp)
    exact hdone X.A i s _ _ (I.ok.hd hc) st hg fun h' eb => ⟨rfl, I.turned (t' := s.toks) (fun b o hb e => eb b o hb e) f0 f1 f3 f4 f5⟩
  self := fun A i s Q E st h => hself A i s Q E st h
def iStr (tl : TE) : TI := fun σ H R => tl σ H fun x H1 => ∃ y, x = .str y ∧ R (Its y) H1
theorem pi_str {l : Expr} {tl : TE} (hl : PE X l tl) : PI X tg l (iStr tl) := by
  intro pins s σ H R I h
  refine thn (hl pins s σ H _ I h) fun v s1 ⟨x, H1, I1, r1, q1⟩ => ?_
  obtain ⟨y, e, q⟩ := q1
  subst e
  obtain ⟨t, rfl⟩ := r1
  have fin : ∀ (o : Obj) (tn : Nat → Heap → Prop), Turn X.prog X.w X.K tg (Its y) [s1.heap.objs.size] s1.heap.objs.size tn → tn 0 (s1.heap.push o) → PIE X pins σ tg R (.ref s1.heap.objs.size) { s1 with heap := s1.heap.push o } := fun o tn T h0 => by
    refine ⟨s1.heap.objs.size, [s1.heap.objs.size], tn, Its y, H1, rfl, I1.kept (t' := s1.toks) fun b o e => Heap.get?_push_of_some _ e, T, h0, fun b hb => ?_, q⟩
    have e := List.mem_singleton.mp hb
    subst e
    exact I1.fpOk (Nat.le_refl _) (I1.hok.fresh (Nat.le_refl _))
  cases ha : y.cps.all (· < 128)
  · refine wpAny_pyIter_wide ha (fin _ _ (turn_str y _ "str_iterator" t (fun A' hA => Walks.strWide hA _ y t) (by decide) (fun A i s Q E hh st hi hQ => ?_) fun A i s Q E st hq => wpAny_pyIter_striter_wide st hq) ⟨_, Heap.get?_push_size _ rfl, rfl, rfl⟩)
    exact wpAny_pyNext_wide_end hh st (by simpa using hi) fun h' he' => hQ h' fun b o hb e => he' b o hb e
  · refine wpAny_pyIter_ascii ha (fin _ _ (turn_str y _ "str_ascii_iterator" t (fun A' hA => Walks.strAscii hA _ y t) (by decide) (fun A i s Q E hh st hi hQ => ?_) fun A i s Q E st hq => wpAny_pyIter_striter_ascii st hq) ⟨_, Heap.get?_push_size _ rfl, rfl, rfl⟩)
    exact wpAny_pyNext_ascii_end hh st (by simpa using hi) fun h' he' => hQ h' fun b o hb e => he' b o hb e
end
/-! ### list comprehensions -/
/-- what is asked of a comprehension's scope: cs the names that it takes from around -/
def compScopeOk (sc : Scope) (cs : List Str) : Bool :=
  sc.kind == .function && sc.names.all (fun y => y.2 != .cell) && sc.names.all (fun y => y.2 != .local || sc.names.lookup y.1 == some .local) &&
    sc.names.all (fun y => y.2 != .free || cs.contains y.1) && cs.all (fun x => sc.names.lookup x == some .free)
/-- the captured names: place in the frame around, name -/
def CapsOk (X : Cx) : List (Nat × Str) → Prop
  | [] => True
  | (j, x) :: r => X.N[j]? = some x ∧ (X.env.kindOf x = some .cell ∨ X.env.kindOf x = some .free) ∧ CapsOk X r
theorem CapsOk.at {X : Cx} : ∀ {cs : List (Nat × Str)}, CapsOk X cs → ∀ p ∈ cs, X.N[p.1]? = some p.2 ∧ (X.env.kindOf p.2 = some .cell ∨ X.env.kindOf p.2 = some .free)
  | [], _, _, h => nomatch h
  | (j, x) :: r, ⟨h1, h2, h3⟩, p, h => by
    rcases List.mem_cons.mp h with e | e
    · subst e; exact ⟨h1, h2⟩
    · exact CapsOk.at h3 p e
def cxComp (X : Cx) (scope : Scope) (cl : List (Str × Addr)) (C : Addr) (N : List Str) (s2 : Shared) (H2 : Hp) (fp : List Addr) : Cx where
  prog := X.prog
  w := X.w
  K := X.K
  mg := X.mg
  base := X.base
  A := X.A
  N := N
  s₀ := s2
  H₀ := H2
  env := compEnvC scope cl C X.env
  outer := X.stack
  stack := X.stack
  ex := fp
  calm := X.calm
  fn := fun _ => false
  pn := []
  xe := fun _ _ => False
theorem closure_of {env : Env} : ∀ (names : List (Str × NameKind)), (∀ y ∈ names, y.2 = .free → ∃ c, env.cells.lookup y.1 = some c) →
    ∀ acc : List (Str × Addr), (∀ x c, acc.lookup x = some c → env.cells.lookup x = some c) → ∃ cl,
    (forIn names acc fun (x : Str × NameKind) r => do
      if x.2 == .free then pure (ForInStep.yield ((x.1, ← cellOf env x.1) :: r)) else pure (ForInStep.yield r) : Sem (List (Str × Addr))) = pure cl ∧
    (∀ x c, cl.lookup x = some c → env.cells.lookup x = some c) ∧ (∀ y ∈ names, y.2 = .free → ∃ c, cl.lookup y.1 = some c) ∧ ∀ x c, acc.lookup x = some c → ∃ c', cl.lookup x = some c'
  | [], _, acc, ha => ⟨acc, rfl, ha, (fun _ h => nomatch h), fun _ c h => ⟨c, h⟩⟩
  | (n, k) :: r, hn, acc, ha => by
    by_cases hk : k = .free
    · subst hk
      obtain ⟨c, hc⟩ := hn _ List.mem_cons_self rfl
      have ha' : ∀ x c', ((n, c) :: acc).lookup x = some c' → env.cells.lookup x = some c' := fun x c' e => by
        rw [List.lookup_cons] at e
        by_cases hx : x = n
        · subst hx
          rw [beq_self_eq_true] at e
          cases e
          exact hc
        · rw [beq_false_of_ne hx] at e
          exact ha x c' e
      obtain ⟨cl, e, h1, h2, h3⟩ := closure_of r (fun y hy => hn y (List.mem_cons_of_mem _ hy)) ((n, c) :: acc) ha'
      refine ⟨cl, ?_, h1, fun y hy hf => ?_, fun x c' hx => ?_⟩
      · rw [List.forIn_cons]
        simp only [cellOf, hc, beq_self_eq_true, if_true]
        exact e
      · rcases List.mem_cons.mp hy with e' | e'
        · subst e'
          exact h3 n c (by rw [List.lookup_cons, beq_self_eq_true])
        · exact h2 y e' hf
      · by_cases hxn : x = n
        · subst hxn
          exact h3 x c (by rw [List.lookup_cons, beq_self_eq_true])
        · exact h3 x c' (by rw [List.lookup_cons, beq_false_of_ne hxn]; exact hx)
    · obtain ⟨cl, e, h1, h2, h3⟩ := closure_of r (fun y hy => hn y (List.mem_cons_of_mem _ hy)) acc ha
      refine ⟨cl, ?_, h1, fun y hy hf => ?_, h3⟩
      · rw [List.forIn_cons]
        have hb : (k == NameKind.free) = false := by simpa using hk
        simp only [hb, Bool.false_eq_true, if_false]
        exact e
      · rcases List.mem_cons.mp hy with e' | e'
        · subst e'
          exact absurd hf hk
        · exact h2 y e' hf
end L2

end

section
namespace L2
open PySem PySem.Spec PyProof.Rows
/-- the turns of a comprehension over J from the block's frame σ0 on, its list at D -/
def CompGo (J : It) (g : TG) (tc : TT) (te : TE) (Q : VK) (σ0 : St) (H1 : Hp) (D : Addr) : Prop :=
  ∃ W : Nat → Nat → St → Hp → Prop, (∃ m, W 0 m σ0 (upd H1 D (.lst []))) ∧ ∀ i m σ1 H2, W i m σ1 H2 →
    (J.stop i H2 ∧ Q (.ref D) H2) ∨
    (J.go i H2 ∧ ∀ x H3, J.yld i H2 x H3 → g x σ1 H3 fun σ2 H4 => tc σ2 H4 fun b H5 =>
      if b = true then te σ2 H5 fun y H6 => ∃ xs m', H6 D = some (.lst xs) ∧ xs.length < sizeLine ∧ m' < m ∧ W (i + 1) m' σ2 (upd H6 D (.lst (xs ++ [y])))
      else ∃ m', m' < m ∧ W (i + 1) m' σ2 H5)
def tComp (wi : TI) (g : TG) (tc : TT) (te : TE) (σ0 : St → St) : TE := fun σ H Q => wi σ H fun J H1 => ∀ D, H1 D = none → CompGo J g tc te Q (σ0 σ) H1 D
def tYes : TT := fun _ H Q => Q true H
/-- the tests of a comprehension -/
def PTs (X : Cx) (ifs : List Expr) (t : TT) : Prop :=
  ∀ (pins : List (Addr × Obj)) (s : Shared) (σ : St) (H : Hp) (Q : Bool → Hp → Prop), Inv X pins σ H s → t σ H Q →
    wpAny (model X.prog X.w) X.A (forIn ifs true fun c r => if r = true then do let ok ← isTrue c X.env (eval c X.env); pure (ForInStep.yield ok) else pure (ForInStep.yield r)) (TP X pins σ Q) X.xe s
theorem pts_nil {X : Cx} : PTs X [] tYes := fun _ _ _ H _ I h => wpAny_tests_nil ⟨H, I, h⟩
section
variable {prog : Program} {w : World} {A : Around} {E : Value → Shared → Prop} {R : Result → Shared → Prop} {s : Shared}
theorem compLoop_gen {elt target iter : Expr} {ifs : List Expr} {scope : Scope} {pos : Pos} {it acc : Value} {env : Env} (I : Nat → Shared → Prop)
    (turn : ∀ n s, I n s → wpAny (model prog w) A (pyNext it) (fun r s₁ => match r with
      | none => R (.ok .next) s₁
      | some v => wpAny (model prog w) A (letOwnedTupleGo target it v) (fun _ s₁' => wpAny (model prog w) A (assign target env v) (fun _ s₂ =>
          wpAny (model prog w) A (forIn ifs true fun c r => if r = true then do let ok ← isTrue c env (eval c env); pure (ForInStep.yield ok) else pure (ForInStep.yield r)) (fun ok s₃ =>
            if ok = true then wpAny (model prog w) A (eval elt env) (fun x s₄ =>
              wpAny (model prog w) A (call (.builtin "list.append") [acc, x]) (fun _ s₅ => ∃ m, m < n ∧ I m s₅) (notedBy (model prog w) A env fun e s' => R (.error e) s') s₄) (notedBy (model prog w) A env fun e s' => R (.error e) s') s₃
            else ∃ m, m < n ∧ I m s₃) (notedBy (model prog w) A env fun e s' => R (.error e) s') s₂) (notedBy (model prog w) A env fun e s' => R (.error e) s') s₁') (notedBy (model prog w) A env fun e s' => R (.error e) s') s₁) (notedBy (model prog w) A env fun e s' => R (.error e) s') s)
    (n : Nat) (h : I n s) :
    codeAny (model prog w) A (.compLoop (.ListComp elt [⟨target, iter, ifs, 0⟩] scope pos) 0 it acc env) R s := by
  refine codeAny_loop rfl I (fun n s hI => ?_) n h
  show wpAny _ A ((compTurn (.ListComp elt [⟨target, iter, ifs, 0⟩] scope pos) 0 it acc env).onRaise (fun x => do noteFrame x env; theTreesLotGoes x)) _ _ s
  refine wpAny_noted ?_
  rw [compTurn_list]
  refine wpAny_bind (wpAny_standAt (wpAny_bind (wpAny_mono (turn n s hI) (fun r s₁ h₁ => ?_) fun _ _ h' => h')))
  cases r with
  | none => exact wpAny_pure h₁
  | some v =>
    refine wpAny_bind (wpAny_mono h₁ (fun _ s₁' h₁' => ?_) fun _ _ h' => h')
    refine wpAny_bind (wpAny_mono h₁' (fun _ s₂ h₂ => wpAny_bind (wpAny_mono h₂ (fun ok s₃ h₃ => ?_) fun _ _ h' => h')) fun _ _ h' => h')
    cases ok with
    | false => exact wpAny_pure ⟨rfl, h₃⟩
    | true =>
      exact wpAny_bind (wpAny_bind (wpAny_mono h₃ (fun x s₄ h₄ => wpAny_bind (wpAny_mono h₄ (fun _ s₅ h₅ => wpAny_pure (wpAny_pure ⟨rfl, h₅⟩)) fun _ _ h' => h')) fun _ _ h' => h'))
end
section
variable {X : Cx} {elt target iter : Expr} {ifs : List Expr} {scope : Scope} {pos p : Pos} {caps : List (Nat × Str)} {tgs : List Str} {wi : TI} {g : TG} {tc : TT} {te : TE}
/-- the block's frame at its start -/
def compSt (tgs : List Str) (caps : List (Nat × Str)) : St → St := fun σ => List.replicate tgs.length none ++ caps.map fun p => (σ[p.1]?).join
theorem relabel_free {env : Env} : ∀ {names : List (Str × NameKind)} {x : Str}, names.lookup x = some .free →
    ((names.map fun (n, k) => if (k == NameKind.free && env.scope.kind == .function && env.kindOf n == some .cell) then (n, NameKind.cell) else (n, k)).lookup x = some .cell ∨
     (names.map fun (n, k) => if (k == NameKind.free && env.scope.kind == .function && env.kindOf n == some .cell) then (n, NameKind.cell) else (n, k)).lookup x = some .free)
  | [], _, h => by cases h
  | (n, k) :: r, x, h => by
    rw [List.lookup_cons] at h
    rw [List.map_cons]
    by_cases hx : x = n
    · subst hx
      rw [beq_self_eq_true] at h
      cases h
      dsimp only
      split
      · exact .inl (by rw [List.lookup_cons, beq_self_eq_true])
      · exact .inr (by rw [List.lookup_cons, beq_self_eq_true])
    · rw [beq_false_of_ne hx] at h
      have ih := relabel_free (env := env) h
      dsimp only
      split <;> (rw [List.lookup_cons, beq_false_of_ne hx]; exact ih)
theorem relabel_back {env : Env} : ∀ {names : List (Str × NameKind)} {x : Str}, ((names.map fun (n, k) => if (k == NameKind.free && env.scope.kind == .function && env.kindOf n == some .cell) then (n, NameKind.cell) else (n, k)).lookup x = some .cell ∨
     (names.map fun (n, k) => if (k == NameKind.free && env.scope.kind == .function && env.kindOf n == some .cell) then (n, NameKind.cell) else (n, k)).lookup x = some .free) → (∀ y ∈ names, y.2 ≠ .cell) → names.lookup x = some .free
  | [], _, h, _ => by rcases h with h | h <;> cases h
  | (n, k) :: r, x, h, hn => by
    rw [List.lookup_cons]
    by_cases hx : x = n
    · subst hx
      rw [beq_self_eq_true]
      have hk := hn _ List.mem_cons_self
      rw [List.map_cons] at h
      dsimp only at h
      split at h
      · rename_i c
        simp only [Bool.and_eq_true, beq_iff_eq] at c
        exact congrArg some c.1.1
      · rw [List.lookup_cons, beq_self_eq_true] at h
        rcases h with h | h
        · cases h; exact absurd rfl hk
        · exact h
    · rw [beq_false_of_ne hx]
      refine relabel_back (env := env) ?_ fun y hy => hn y (List.mem_cons_of_mem _ hy)
      rw [List.map_cons] at h
      dsimp only at h
      split at h <;> (rw [List.lookup_cons, beq_false_of_ne hx] at h; exact h)
theorem mem_lookup_free : ∀ {names : List (Str × NameKind)} {x : Str} {k : NameKind}, names.lookup x = some k → (x, k) ∈ names
  | [], _, _, h => by cases h
  | (n, k') :: r, x, k, h => by
    rw [List.lookup_cons] at h
    by_cases hx : x = n
    · subst hx
      rw [beq_self_eq_true] at h
      cases h
      exact List.mem_cons_self
    · rw [beq_false_of_ne hx] at h
      exact List.mem_cons_of_mem _ (mem_lookup_free h)
set_option maxHeartbeats 1000000
theorem comp_core {use : Option (Value → Sem Unit)} {Qf : Value → Shared → Prop} {pins : List (Addr × Obj)} {σ : St} {H : Hp} {s : Shared} {Q : VK}
    (hc : X.calm = true) (hsc : compScopeOk scope (caps.map (·.2)) = true) (hcap : CapsOk X caps) (hi : PI X target iter wi)
    (hg : ∀ cl C s2 H2 fp, PG (cxComp X scope cl C (tgs ++ caps.map (·.2)) s2 H2 fp) target g)
    (ht : ∀ cl C s2 H2 fp, PTs (cxComp X scope cl C (tgs ++ caps.map (·.2)) s2 H2 fp) ifs tc)
    (he : ∀ cl C s2 H2 fp, PE (cxComp X scope cl C (tgs ++ caps.map (·.2)) s2 H2 fp) elt te)
    (I : Inv X pins σ H s) (h : tComp wi g tc te (compSt tgs caps) σ H Q)
    (fin : ∀ D C H' s', Inv X pins σ H' s' → Q (.ref D) H' → H' C = none → C ≠ X.env.locals → X.s₀.heap.objs.size ≤ C → (∀ x c, X.env.cells.lookup x = some c → c ≠ C) → (∀ p ∈ X.pn ++ pins, p.1 ≠ C) → (∃ m, s'.heap.Ns C m) →
      compPost (model X.prog X.w) X.A X.xe use Qf (.ref D) C (.ok .next) s')
    (hs : ∀ x, foldedSetIterable iter X.env x = pure x := by intro _; rfl) :
    wpAny (model X.prog X.w) X.A (comprehension (.ListComp elt [⟨target, iter, ifs, 0⟩] scope pos) scope X.env p (newList []) false (eval iter X.env) use) Qf X.xe s := by
  simp only [compScopeOk, Bool.and_eq_true, List.all_eq_true, beq_iff_eq, bne_iff_ne, Bool.or_eq_true, List.contains_iff_mem] at hsc
  obtain ⟨⟨⟨⟨k1, k2⟩, k3⟩, k4⟩, k5⟩ := hsc
  have hnames : ∀ y ∈ scope.names, y.2 = .local → scope.names.lookup y.1 = some .local := fun y hy hl => (k3 y hy).resolve_left fun z => z hl
  have capAt := hcap.at
  have hfr : ∀ y ∈ scope.names, y.2 = .free → ∃ c, X.env.cells.lookup y.1 = some c := fun y hy hf => by
    have hm := (k4 y hy).resolve_left fun z => z hf
    obtain ⟨q, hq, e⟩ := List.mem_map.mp hm
    have := (capAt q hq).2
    rw [e] at this
    exact I.ok.has _ this
  obtain ⟨cl, hcl, hin, hall, _⟩ := closure_of scope.names hfr [] (fun x c e => by cases e)
  have hclos : closureFor scope X.env = pure cl := by
    refine (show closureFor scope X.env = (_ >>= pure) from rfl).trans ((congrArg (· >>= pure) hcl).trans ?_)
    rfl
  refine wpAny_comprehension_free (use := use) rfl hs hclos k1 hnames (thn (hi pins s σ H _ I h) fun v s1 h1 => thn h1 fun itv s2 h2 => ?_)
  obtain ⟨it, fp, tn, J, H2, e, I2, T, st2, f2, hW⟩ := h2
  subst e
  have fD : H2 s2.heap.objs.size = none := I2.fresh
  obtain ⟨W, ⟨m0, w0⟩, turn⟩ := hW _ fD
  refine wpAny_newObj_type (wpAny_newFunctionEnv k2 (by intro y hy; simp at hy) (fun h₁ hns₁ hsb₁ => ?_) k1)
  dsimp only at hns₁ hsb₁ ⊢
  generalize hH3 : s2.heap.push { cls := .type "list", dict := none, data := .seq ([] : List Value).toArray } = H3 at hns₁ hsb₁ ⊢
  have hC : H3.objs.size = s2.heap.objs.size + 1 := by rw [← hH3, Heap.size_push]
  have hDC : s2.heap.objs.size ≠ H3.objs.size := by rw [hC]; exact Nat.ne_of_lt (Nat.lt_succ_self _)
  have hCle : s2.heap.objs.size ≤ H3.objs.size := by rw [hC]; exact Nat.le_succ _
  have below : ∀ b, b < s2.heap.objs.size → b ≠ H3.objs.size := fun b hb => by rw [hC]; exact Nat.ne_of_lt (Nat.lt_succ_of_lt hb)
  have old : ∀ b o, s2.heap.get? b = some o → h₁.get? b = some o := fun b o e => hsb₁.extBut b o (below b (Heap.lt_size e)) (Heap.get?_push_of_some _ (hH3 ▸ Heap.get?_push_of_some _ e))
  have hacc : h₁.get? s2.heap.objs.size = some { cls := .type "list", dict := none, data := .seq ([] : List Value).toArray } := hsb₁.extBut _ _ hDC (Heap.get?_push_of_some _ (hH3 ▸ Heap.get?_push_size _ rfl))
  have fC : H2 H3.objs.size = none := I2.hok.fresh hCle
  have fpl : ∀ b ∈ fp, b < s2.heap.objs.size := fun b hb => by
    obtain ⟨o, ho, _⟩ := T.obj _ _ st2 b hb
    exact Heap.lt_size ho
  -- the block's context
  let X' := cxComp X scope cl H3.objs.size (tgs ++ caps.map (·.2)) s2 H2 fp
  have ok' : X'.Ok := by
    refine ⟨I2.ok.mod, k1, I2.ok.glob, I2.ok.blt, hCle, fun x y c hx hy => I2.ok.inj x y c (hin _ _ hx) (hin _ _ hy), fun x hx => ?_, (fun x c hf => nomatch hf), I2.ok.hd, I2.ok.frames, .inl rfl, fun b hb => ⟨below b (fpl b hb), fun x c hx => (f2 b hb).2.2.2.2.1 x c (hin _ _ hx)⟩, I2.bs,
      Nat.le_trans I2.ok.bsz I2.sz, fun b o e hb => ?_, fun b hb z => ?_, I2.stack, I2.stkFree⟩
    · exact hall (x, .free) (mem_lookup_free (relabel_back hx k2)) rfl
    · rcases (f2 b hb).2.2.2.1 with z | z
      · exact I2.ok.noex b o e z
      · exact absurd (Nat.lt_of_lt_of_le (Heap.lt_size e) I2.ok.bsz) (Nat.not_lt.mpr z)
    · rcases List.mem_cons.mp (I2.stkSub b z) with q | q
      · exact (f2 b hb).2.1 q
      · exact (f2 b hb).2.2.1 q
  have un4 : Un (frs X.stack) fp H2 (upd H2 s2.heap.objs.size (.lst [])) s2.heap h₁ := Un.laid old (Nat.le_refl _) fD
  have hok4 : HOk X.prog X.w (upd H2 s2.heap.objs.size (.lst [])) h₁ := I2.hok.laid old (Nat.le_refl _) ⟨Nat.zero_le _, [], 0, .nil, hacc⟩
  have I4 : ∀ tk, Inv X' [] (compSt tgs caps σ) (upd H2 s2.heap.objs.size (.lst [])) { s2 with heap := h₁, toks := tk } := fun tk => by
    refine ⟨ok', rfl, I2.bare, un4, ⟨_, hns₁, fun i x v e1 e2 e3 => ?_⟩, fun x c hx => ?_, ?_, fun x c hx => ?_, fun q hq => ?_, hok4, ?_⟩
    · -- a captured name
      obtain ⟨m2, _, hl2⟩ := I2.loc
      have hlt : tgs.length ≤ i := by
        rcases Nat.lt_or_ge i tgs.length with z | z
        · have : (compSt tgs caps σ)[i]? = some none := by
            unfold compSt
            rw [List.getElem?_append_left (by simpa using z), List.getElem?_replicate, if_pos z]
          rw [this] at e2
          cases e2
        · exact z
      have e1' : (tgs ++ caps.map (·.2))[i]? = some x := e1
      rw [List.getElem?_append_right hlt, List.getElem?_map] at e1'
      have e2' : (caps.map fun p => (σ[p.1]?).join)[i - tgs.length]? = some (some v) := by
        have : (compSt tgs caps σ)[i]? = (caps.map fun p => (σ[p.1]?).join)[i - tgs.length]? := by
          unfold compSt
          rw [List.getElem?_append_right (by simpa using hlt), List.length_replicate]
        rw [← this]
        exact e2
      rw [List.getElem?_map] at e2'
      cases hq : caps[i - tgs.length]? with
      | none => rw [hq] at e1'; cases e1'
      | some q =>
        rw [hq] at e1' e2'
        obtain rfl : q.2 = x := Option.some.inj e1'
        have e2'' : (σ[q.1]?).join = some v := Option.some.inj e2'
        have hσ : σ[q.1]? = some (some v) := by
          cases z : σ[q.1]? with
          | none => rw [z] at e2''; cases e2''
          | some y => rw [z] at e2''; exact congrArg some e2''
        have hqm : q ∈ caps := List.mem_of_getElem? hq
        obtain ⟨n1, n2⟩ := capAt q hqm
        have hvis : Vis X.env.scope q.2 := by
          rcases n2 with z | z
          · exact .inr (.inl z)
          · exact .inr (.inr z)
        obtain ⟨u, ru, lk⟩ := hl2 q.1 q.2 v n1 hσ hvis
        have hfree : scope.names.lookup q.2 = some .free := k5 q.2 (List.mem_map_of_mem hqm)
        refine ⟨u, ru, .inr ⟨relabel_free hfree, ?_⟩⟩
        rcases lk with ⟨z, _⟩ | ⟨_, c, hcc, oc, hoc, hocd⟩
        · rcases n2 with y | y <;> (rw [y] at z; cases z)
        · obtain ⟨c', hc'⟩ := hall (q.2, .free) (mem_lookup_free hfree) rfl
          have := hin _ _ hc'
          rw [hcc] at this
          cases this
          exact ⟨c, hc', oc, old _ _ hoc, hocd⟩
    · obtain ⟨v, o, ho, hd⟩ := I2.cell x c (hin _ _ hx)
      exact ⟨v, o, old _ _ ho, hd⟩
    · show upd H2 s2.heap.objs.size (.lst []) H3.objs.size = none
      rw [upd_ne (Ne.symm hDC)]
      exact fC
    · have hcf := I2.freeC x c (hin _ _ hx)
      obtain ⟨v, o, ho, hd⟩ := I2.cell x c (hin _ _ hx)
      rw [upd_ne (Nat.ne_of_lt (Heap.lt_size ho))]
      exact hcf
    · have : q ∈ ([] : List (Addr × Obj)) := hq
      cases this
    · show (compSt tgs caps σ).length = (tgs ++ caps.map (·.2)).length
      simp [compSt]
  have stat : ∀ {pins' : List (Addr × Obj)} {H' : Hp}, (∀ b ∈ fp, H' b = none) → (∀ q ∈ pins', q.1 ∉ fp) → ∀ b ∈ fp, FpOk X' pins' H' b := fun hn hp b hb =>
    ⟨hn b hb, below b (fpl b hb), fun z => by
      rcases List.mem_cons.mp (I2.stkSub b z) with q | q
      · exact (f2 b hb).2.1 q
      · exact (f2 b hb).2.2.1 q, .inl hb, fun x c hx => (f2 b hb).2.2.2.2.1 x c (hin _ _ hx), fun q hq z => hp q hq (z ▸ hb)⟩
  have noPin : ∀ q ∈ ([] : List (Addr × Obj)), q.1 ∉ fp := fun _ z => nomatch z
  have tn0 : tn 0 h₁ := T.keep _ _ _ st2 fun b hb o e => old b o e
  have fr0 : ∀ b ∈ fp, (upd H2 s2.heap.objs.size (.lst [])) b = none := fun b hb => by
    rw [upd_ne (Nat.ne_of_lt (fpl b hb))]
    exact (f2 b hb).1
  have loop : ∀ s₃ : Shared, s₃ = { s2 with heap := h₁, toks := s2.toks + ([] : List (Str × Value)).length } →
      codeAny (model X.prog X.w) X.A (.compLoop (.ListComp elt [⟨target, iter, ifs, 0⟩] scope pos) 0 (.ref it) (.ref s2.heap.objs.size) (compEnvC scope cl H3.objs.size X.env))
        (compPost (model X.prog X.w) X.A X.xe use Qf (.ref s2.heap.objs.size) H3.objs.size) s₃ := by
    rintro s₃ rfl
    refine compLoop_gen (fun n s' => ∃ i σ' H', Inv X' [] σ' H' s' ∧ tn i s'.heap ∧ (∀ b ∈ fp, H' b = none) ∧ W i n σ' H') ?_ m0 ⟨0, _, _, I4 _, tn0, fr0, w0⟩
    rintro n s3 ⟨i, σ3, H3', I3, st3, fr3, w3⟩
    rcases turn i n σ3 H3' w3 with ⟨stop, qn⟩ | ⟨go, step⟩
    · refine thn (T.done X' rfl rfl rfl hc i [] s3 σ3 H3' _ I3 (stat fr3 noPin) st3 stop) fun r s4 ⟨hr, I4'⟩ => ?_
      subst hr
      have un := I4'.base
      refine fin _ _ H3' s4 (I2.call' I4'.os un I4'.hok I4'.bare fun b hb => ?_) qn I4'.free ?_ (Nat.le_trans I2.sz hCle) ?_ ?_ ?_
      · exact ⟨(f2 b hb).2.2.2.1, (f2 b hb).2.1, (f2 b hb).2.2.2.2.1, (f2 b hb).2.2.2.2.2⟩
      · exact Ne.symm (below _ I2.lt)
      · intro x c hx
        obtain ⟨v, o, ho, hd⟩ := I2.cell x c hx
        exact below c (Heap.lt_size ho)
      · intro q hq
        obtain ⟨e, _⟩ := I2.pin q hq
        exact below _ (Heap.lt_size e)
      · obtain ⟨m, hm, _⟩ := I4'.loc
        exact ⟨m, hm⟩
    · refine thn (T.item X' rfl rfl rfl hc i [] s3 σ3 H3' _ I3 (stat fr3 noPin) st3 go) fun r s4 ⟨u, hr, h4⟩ => ?_
      subst hr
      refine thn h4 fun _ s5 ⟨x, H5, I5, r5, y5, st5, fr5⟩ => ?_
      have I5' := I5.pinned (stat fr5 noPin) (T.obj _ _ st5)
      refine wpAny_mono (hg _ _ _ _ _ _ s5 σ3 H5 x u _ I5' r5 (step x H5 y5)) (fun _ s6 ⟨σ6, H6, I6, q6⟩ => ?_) fun _ _ z => z.elim
      have again : ∀ {σ7 : St} {H7 : Hp} {s7 : Shared} {m' : Nat}, Inv X' ([] ++ pinsAt fp s5.heap) σ7 H7 s7 → m' < n → W (i + 1) m' σ7 H7 → ∃ m, m < n ∧ ∃ i σ' H', Inv X' [] σ' H' s7 ∧ tn i s7.heap ∧ (∀ b ∈ fp, H' b = none) ∧ W i m σ' H' := fun {σ7 H7 s7 m'} I7 hm w7 => by
        refine ⟨m', hm, i + 1, σ7, H7, I7.unpinned, T.keep _ _ _ st5 fun b hb o e => (I7.pin (b, o) (List.mem_append_right _ (List.mem_append_right _ (mem_pinsAt hb e)))).1, fun b hb => ?_, w7⟩
        obtain ⟨o, e, d⟩ := T.obj _ _ st5 b hb
        exact (I7.pin (b, o) (List.mem_append_right _ (List.mem_append_right _ (mem_pinsAt hb e)))).2.1
      refine wpAny_mono (ht _ _ _ _ _ _ s6 σ6 H6 _ I6 q6) (fun ok s7 ⟨H7, I7, q7⟩ => ?_) fun _ _ z => z.elim
      cases ok with
      | false =>
        obtain ⟨m', hm, w7⟩ := q7
        exact again I7 hm w7
      | true =>
        refine wpAny_mono (he _ _ _ _ _ _ s7 σ6 H7 _ I7 q7) (fun yv s8 ⟨y, H8, I8, r8, q8⟩ => ?_) fun _ _ z => z.elim
        obtain ⟨xs, m', hD, hz, hm, w8⟩ := q8
        refine wpAny_mono (mt_append (X := X') _ s8 σ6 H8 (.ref s2.heap.objs.size) [y] (.ref s2.heap.objs.size) [yv] (fun _ H9 => W (i + 1) m' σ6 H9) I8 rfl (.cons r8 .nil) ⟨_, xs, y, rfl, rfl, hD, hz, w8⟩) (fun _ s9 ⟨_, H9, I9, _, q9⟩ => ?_) fun _ _ z => z.elim
        exact again I9 hm q9
  exact codeAny_compStart_list (loop _ rfl) (T.self _ 0 _ _ _ tn0 (loop _ rfl))
/-- what a block's rule may hang on -/
abbrev BK (α : Type) := List (Str × Addr) → Addr → Shared → Hp → List Addr → α
/-- [elt for target in iter if test] -/
theorem pe_comp {g : BK TG} {tc : BK TT} {te : BK TE} (tgs : List Str) (caps : List (Nat × Str)) (hc : X.calm = true) (hsc : compScopeOk scope (caps.map (·.2)) = true) (hcap : CapsOk X caps) (hi : PI X target iter wi)
    (hg : ∀ cl C s2 H2 fp, PG (cxComp X scope cl C (tgs ++ caps.map (·.2)) s2 H2 fp) target (g cl C s2 H2 fp))
    (ht : ∀ cl C s2 H2 fp, PTs (cxComp X scope cl C (tgs ++ caps.map (·.2)) s2 H2 fp) ifs (tc cl C s2 H2 fp))
    (he : ∀ cl C s2 H2 fp, PE (cxComp X scope cl C (tgs ++ caps.map (·.2)) s2 H2 fp) elt (te cl C s2 H2 fp))
    (eg : ∀ cl C s2 H2 fp, g cl C s2 H2 fp = g [] 0 X.s₀ X.H₀ [] := by intros; rfl) (et : ∀ cl C s2 H2 fp, tc cl C s2 H2 fp = tc [] 0 X.s₀ X.H₀ [] := by intros; rfl) (ee : ∀ cl C s2 H2 fp, te cl C s2 H2 fp = te [] 0 X.s₀ X.H₀ [] := by intros; rfl)
    (hs : ∀ x, foldedSetIterable iter X.env x = pure x := by intro _; rfl) :
    PE X (.ListComp elt [⟨target, iter, ifs, 0⟩] scope pos) (tComp wi (g [] 0 X.s₀ X.H₀ []) (tc [] 0 X.s₀ X.H₀ []) (te [] 0 X.s₀ X.H₀ []) (compSt tgs caps)) := by
  intro pins s σ H Q I h
  rw [eval_ListComp]
  refine comp_core (use := none) hc hsc hcap hi (fun cl C s2 H2 fp => eg cl C s2 H2 fp ▸ hg cl C s2 H2 fp) (fun cl C s2 H2 fp => et cl C s2 H2 fp ▸ ht cl C s2 H2 fp) (fun cl C s2 H2 fp => ee cl C s2 H2 fp ▸ he cl C s2 H2 fp) I h (fun D C H' s' I' q hC h1 h2 h3 h4 ⟨m, hm⟩ => ?_) hs
  refine ⟨m, hm, fun h' hsb => ?_⟩
  exact ⟨.ref D, H', I'.turned (t' := s'.toks) (fun b o hb e => hsb.extBut b o hb e) hC h1 (.inr h2) h3 h4, rfl, q⟩
/-- name = [elt for target in iter if test] -/
theorem ps_setComp {g : BK TG} {tc : BK TT} {te : BK TE} {i : Nat} {y : Str} {py spos : Pos} (tgs : List Str) (caps : List (Nat × Str)) (hN : X.N.Nodup) (hiN : X.N[i]? = some y) (hy : X.env.scope.names.lookup y = some .local) (hc : X.calm = true) (hsc : compScopeOk scope (caps.map (·.2)) = true) (hcap : CapsOk X caps) (hi : PI X target iter wi)
    (hg : ∀ cl C s2 H2 fp, PG (cxComp X scope cl C (tgs ++ caps.map (·.2)) s2 H2 fp) target (g cl C s2 H2 fp))
    (ht : ∀ cl C s2 H2 fp, PTs (cxComp X scope cl C (tgs ++ caps.map (·.2)) s2 H2 fp) ifs (tc cl C s2 H2 fp))
    (he : ∀ cl C s2 H2 fp, PE (cxComp X scope cl C (tgs ++ caps.map (·.2)) s2 H2 fp) elt (te cl C s2 H2 fp))
    (eg : ∀ cl C s2 H2 fp, g cl C s2 H2 fp = g [] 0 X.s₀ X.H₀ [] := by intros; rfl) (et : ∀ cl C s2 H2 fp, tc cl C s2 H2 fp = tc [] 0 X.s₀ X.H₀ [] := by intros; rfl) (ee : ∀ cl C s2 H2 fp, te cl C s2 H2 fp = te [] 0 X.s₀ X.H₀ [] := by intros; rfl)
    (hsw : swapsWith (.ListComp elt [⟨target, iter, ifs, 0⟩] scope pos) (some (.Name y py)) spos.line X.env = pure true := by rfl)
    (hs : ∀ x, foldedSetIterable iter X.env x = pure x := by intro _; rfl) :
    PS X (.Assign [.Name y py] (.ListComp elt [⟨target, iter, ifs, 0⟩] scope pos) spos) (tAsg (tComp wi (g [] 0 X.s₀ X.H₀ []) (tc [] 0 X.s₀ X.H₀ []) (te [] 0 X.s₀ X.H₀ []) (compSt tgs caps)) (gName i)) := by
  intro pins s σ H D I h
  rw [exec_Assign_Name_used _ _ _ _ hsw]
  refine wpAny_bind (wpAny_standAt (wpAny_bind ?_))
  show wpAny _ X.A (do let _ ← comprehension (.ListComp elt [⟨target, iter, ifs, 0⟩] scope pos) scope X.env _ (newList []) false (eval iter X.env) (some (assign (.Name y py) X.env))) _ _ s
  refine wpAny_bind (thn (comp_core (use := some (assign (.Name y py) X.env)) (Qf := fun _ s' => SP X pins D .next s') hc hsc hcap hi (fun cl C s2 H2 fp => eg cl C s2 H2 fp ▸ hg cl C s2 H2 fp) (fun cl C s2 H2 fp => et cl C s2 H2 fp ▸ ht cl C s2 H2 fp) (fun cl C s2 H2 fp => ee cl C s2 H2 fp ▸ he cl C s2 H2 fp) I h (fun Dd C H' s' I' q hC h1 h2 h3 h4 ⟨m, hm⟩ => ?_) hs) fun _ s' hq => wpAny_pure (wpAny_pure hq))
  show wpAny _ X.A (assign (.Name y py) X.env (.ref Dd)) _ _ _
  refine wpAny_assign_Name (store_ok2 I' hN hiN (.inl hy) (v := .ref Dd) rfl (fun s'' I'' ⟨a, hsb, ha⟩ => ?_) (.inr hy))
  have hCa : C ≠ a := by
    rcases ha with z | z
    · rw [z]; exact h1
    · exact Ne.symm (h3 _ _ z)
  refine ⟨m, hm.sameBut hsb hCa, fun h' hsb' => ?_⟩
  exact ⟨_, H', I''.turned (t' := s''.toks) (fun b o hb e => hsb'.extBut b o hb e) hC h1 (.inr h2) h3 h4, q⟩
end
end L2

end

section
namespace L2
open PySem PySem.Spec PyProof.Rows
/-! ### what is no longer asked may be forgotten -/
def OwnIn (H : Hp) (a : Addr) : HO → Prop
  | .ins _ dx _ => H dx = some (.own a)
  | .frz _ u => OwnIn H a u
  | _ => True
def Closed (H : Hp) : Prop := ∀ a o, H a = some o → OwnIn H a o
theorem OwnIn.of {P : Program} {w : World} {H : Hp} {h : Heap} {a : Addr} {o : HO} (x : ObjOk P w H h a o) : OwnIn H a o := by
  induction o with
  | ins C dx fs => exact x.1
  | frz ob u ih => exact ih x.2
  | _ => trivial
theorem HOk.closed {P : Program} {w : World} {H : Hp} {h : Heap} (x : HOk P w H h) : Closed H := fun a o e => OwnIn.of (x a o e)
theorem OwnIn.mono {H H' : Hp} {a : Addr} {o : HO} (s : ∀ b u, H b = some u → H' b = some u) (x : OwnIn H a o) : OwnIn H' a o := by
  induction o with
  | ins C dx fs => exact s _ _ x
  | frz ob u ih => exact ih x
  | _ => trivial
theorem ObjOk.sub {P : Program} {w : World} {H H' : Hp} {h : Heap} {a : Addr} {o : HO} (x : ObjOk P w H' h a o) (ow : OwnIn H a o) : ObjOk P w H h a o := by
  induction o with
  | ins C dx fs => exact ⟨ow, x.2⟩
  | frz ob u ih => exact ⟨x.1, ih x.2 ow⟩
  | lst _ => exact x
  | tup _ => exact x
  | dK _ => exact x
  | dT _ => exact x
  | set _ _ => exact x
  | own _ => exact x
  | xd _ => exact x
  | met _ _ => exact x
  | rng _ _ => exact x
  | tbl _ => exact x
  | ext _ => exact x
/-- from H on, H' was reached; of it H'' is still asked -/
structure Sub (H H'' H' : Hp) : Prop where
  le : Same H'' H'
  ge : ∀ b o, H b = some o → ∃ u, H'' b = some u
  cl : Closed H → Closed H''
theorem Sub.refl {H H' : Hp} (h : Same H H') : Sub H H H' := ⟨h, fun _ o e => ⟨o, e⟩, id⟩
theorem Sub.all {H H' : Hp} (h : ∀ b o, H b = some o → ∃ u, H' b = some u) (c : Closed H → Closed H') : Sub H H' H' := ⟨Same.refl _, h, c⟩
theorem same_new {H : Hp} {p : Addr} {o : HO} (h : H p = none) : Same H (upd H p o) := fun b u q => by rw [upd_ne (ne_of_none q h)]; exact q
theorem closed_new {H : Hp} {p : Addr} {o : HO} (c : Closed H) (h : H p = none) (ho : OwnIn (upd H p o) p o) : Closed (upd H p o) := fun a u e => by
  by_cases z : a = p
  · subst z; rw [upd_same] at e; cases e; exact ho
  · rw [upd_ne z] at e
    exact (c a u e).mono (same_new h)
theorem Sub.new {H H' : Hp} {p : Addr} {o : HO} (h : H p = none) (hs : Same H H') (e : H' p = some o) (ho : OwnIn (upd H p o) p o) : Sub H (upd H p o) H' :=
  ⟨fun b u q => by
    by_cases z : b = p
    · subst z; rw [upd_same] at q; cases q; exact e
    · rw [upd_ne z] at q; exact hs b u q, fun b u q => ⟨u, same_new h b u q⟩, fun c => closed_new c h ho⟩
section
variable {X : Cx} {pins : List (Addr × Obj)} {σ : St} {H H' H'' : Hp} {s s0 : Shared}
theorem Un.sub {fs ex : List Addr} {H0 : Hp} {h h1 h2 : Heap} (u0 : Un fs ex H0 H h h1) (u : Un fs ex H0 H' h h2) (d : Sub H H'' H') : Un fs ex H0 H'' h h2 := by
  refine ⟨u.keep, u.slot, fun b o e n hx => ?_, u.there, fun b xs e => ?_, fun b o v e => ?_, fun b ps e => ?_⟩
  · cases q : H'' b with
    | none => rfl
    | some v => have := d.le b v q; rw [u.free b o e n hx] at this; cases this
  · obtain ⟨v, hv⟩ := d.ge b _ (u0.tups b xs e)
    have := d.le b v hv; rw [u.tups b xs e] at this; cases this; exact hv
  · obtain ⟨z, hv⟩ := d.ge b _ (u0.frzs b o v e)
    have := d.le b z hv; rw [u.frzs b o v e] at this; cases this; exact hv
  · obtain ⟨m0, e0⟩ := u0.tbls b ps e
    obtain ⟨z, hv⟩ := d.ge b _ e0
    obtain ⟨m, e1⟩ := u.tbls b ps e
    have := d.le b z hv; rw [e1] at this; cases this; exact ⟨m, hv⟩
theorem HOk.sub {P : Program} {w : World} {h : Heap} (x : HOk P w H' h) (c : Closed H'') (d : Same H'' H') : HOk P w H'' h := fun a o e => (x a o (d a o e)).sub (c a o e)
end
/-- a def's promise, less asked behind it -/
theorem FnOk.keep {P : Program} {w : World} {K : PySem.W.Frag} {mg : Str → Option Value} {base : Heap} {k : Nat} {f : Addr} {fd : FuncData} {ps : List Str} {sp sp' : Sp} (F : FnOk P w K mg base CX0 k f fd ps sp)
    (h : ∀ vs H Q E, sp' vs H Q E → sp vs H (fun v H' => ∃ H'', Sub H H'' H' ∧ Q v H'') E) : FnOk P w K mg base CX0 k f fd ps sp' := by
  refine ⟨fun vs H Q E q => F.len vs H _ E (h vs H Q E q), fun A outer s H args us vs Q E hr e0 hb r q => codeAny_mono (F.run A outer s H args us vs _ E hr e0 hb r (h vs H Q E q)) fun rs s' c => ?_⟩
  cases rs with
  | error e => exact c
  | ok fl =>
    cases fl with
    | ret u =>
      obtain ⟨v, H', os, bare, un, hok, rv, H'', d, q'⟩ := c
      exact ⟨v, H'', os, bare, Un.sub (Un.refl (h := s.heap)) un d, hok.sub (d.cl e0.hok.closed) d.le, rv, q'⟩
    | next => exact c
    | brk => exact c
    | cont => exact c
/-- THE RULE for a def without refusals: its body as a term of rules, the reading of that term, less asked behind it -/
theorem Fun.okK {P : Program} {w : World} {K : PySem.W.Frag} {mg : Str → Option Value} {base : Heap} {x qual : Str} {st : Stmt} {f : Addr} {fd : FuncData} {N ps : List Str} {k : Nat} {sp : Sp} (F : Fun K x qual st f fd) (S : FnScope N ps (defScope st)) (len : ∀ vs H Q E, sp vs H Q E → vs.length = ps.length)
    (hbody : ∀ (cdv : Value) (A : Around) (outer : List Env) (s : Shared) (H : Hp) (vs : List V) (Q : VK) (E : XK), Room k (A.deeper (envOfC qual (defScope st) s.heap.objs.size f cdv)) → sp vs H Q E →
      ∃ t, PSs (cxOf CX0 P w K mg base N qual (defScope st) f cdv A outer s H E).nox (defBody st) t ∧ t { nx := fun _ H' => ∃ H'', Sub H H'' H' ∧ Q .non H'', rt := fun v H' => ∃ H'', Sub H H'' H' ∧ Q v H'' } (start N vs) H) : FnOk P w K mg base CX0 (k + 1) f fd ps sp :=
  (F.ok (sp := fun vs H Q E => ∃ Q', Q = (fun v H' => ∃ H'', Sub H H'' H' ∧ Q' v H'') ∧ sp vs H Q' E) S (fun vs H Q E ⟨Q', _, h⟩ => len vs H Q' E h) (fun cdv A outer s H vs Q E hr ⟨Q', e, h⟩ => by
    subst e
    exact hbody cdv A outer s H vs Q' E hr h)).keep fun vs H Q E h => ⟨Q, rfl, h⟩
end L2

end

section
namespace KM
/-! bits, the higher ones first -/
def bitsW (n : Nat) : Nat → List Bool
  | 0 => []
  | w + 1 => n.testBit w :: bitsW n w
def blen (n : Nat) : Nat := if n = 0 then 0 else n.log2 + 1
theorem bitsW_length (n w : Nat) : (bitsW n w).length = w := by
  induction w with
  | zero => rfl
  | succ w ih => simp [bitsW, ih]
theorem blen_lt (n : Nat) : n < 2 ^ blen n := by
  unfold blen
  split
  · omega
  · exact Nat.lt_log2_self
theorem blen_le {n w : Nat} (h : n < 2 ^ w) : blen n ≤ w := by
  unfold blen
  split
  · omega
  · rename_i h0
    exact (Nat.log2_lt h0).mpr h
theorem blen_pos {n : Nat} (h : n ≠ 0) : 0 < blen n := by unfold blen; rw [if_neg h]; omega
theorem blen_ge {n : Nat} (h : n ≠ 0) : 2 ^ (blen n - 1) ≤ n := by
  unfold blen; rw [if_neg h]; exact Nat.log2_self_le h
theorem blen_mono {m n : Nat} (h : m ≤ n) : blen m ≤ blen n := blen_le (Nat.lt_of_le_of_lt h (blen_lt n))
theorem testBit_last (n : Nat) (b : Bool) : (2 * n + b.toNat).testBit 0 = b := by
  cases b <;> simp [Nat.testBit_zero] <;> omega
theorem testBit_up (n k : Nat) (b : Bool) : (2 * n + b.toNat).testBit (k + 1) = n.testBit k := by
  rw [Nat.testBit_succ]
  congr 1
  cases b <;> simp <;> omega
theorem bitsW_snoc (n w : Nat) (b : Bool) : bitsW (2 * n + b.toNat) (w + 1) = bitsW n w ++ [b] := by
  induction w with
  | zero => simp only [bitsW, List.nil_append, testBit_last]
  | succ w ih =>
    rw [bitsW, ih, testBit_up]
    rfl
/-- reading: from a on -/
def rd (a : Nat) (l : List Bool) : Nat := l.foldl (fun x b => 2 * x + b.toNat) a
theorem rd_nil (a : Nat) : rd a [] = a := rfl
/-! order: at the first place where they part the one has 0, the other 1 -/
def Sep (a b : List Bool) : Prop := ∃ c x y, a = c ++ false :: x ∧ b = c ++ true :: y
theorem Sep.pre (p : List Bool) {a b : List Bool} (h : Sep a b) : Sep (p ++ a) (p ++ b) := by
  obtain ⟨c, x, y, rfl, rfl⟩ := h
  exact ⟨p ++ c, x, y, by simp, by simp⟩
theorem Sep.post {a b : List Bool} (h : Sep a b) (u v : List Bool) : Sep (a ++ u) (b ++ v) := by
  obtain ⟨c, x, y, rfl, rfl⟩ := h
  exact ⟨c, x ++ u, y ++ v, by simp, by simp⟩
theorem Sep.turn {a b : List Bool} (h : Sep a b) : Sep (b.map (!·)) (a.map (!·)) := by
  obtain ⟨c, x, y, rfl, rfl⟩ := h
  exact ⟨c.map (!·), y.map (!·), x.map (!·), by simp, by simp⟩
theorem Sep.np {a b : List Bool} (h : Sep a b) : ¬ a <+: b := by
  obtain ⟨c, x, y, rfl, rfl⟩ := h
  rintro ⟨t, e⟩
  simp only [List.append_assoc] at e
  have := List.append_cancel_left e
  simp at this
theorem sep_bits {n n' w : Nat} (h : n < n') (h' : n' < 2 ^ w) : Sep (bitsW n w) (bitsW n' w) := by
  induction w generalizing n n' with
  | zero => omega
  | succ w ih =>
    have e : n = 2 * (n / 2) + (decide (n % 2 = 1)).toNat := by
      by_cases q : n % 2 = 1
      · simp [q]; omega
      · simp [q]; omega
    have e' : n' = 2 * (n' / 2) + (decide (n' % 2 = 1)).toNat := by
      by_cases q : n' % 2 = 1
      · simp [q]; omega
      · simp [q]; omega
    rw [e, e', bitsW_snoc, bitsW_snoc]
    rw [Nat.pow_succ] at h'
    by_cases q : n / 2 < n' / 2
    · exact (ih q (by omega)).post _ _
    · have : n / 2 = n' / 2 := by omega
      rw [this]
      have a : n % 2 = 0 := by omega
      have b : n' % 2 = 1 := by omega
      simp only [a, b]
      exact ⟨_, [], [], rfl, rfl⟩
theorem sep_rep {i j : Nat} (h : i < j) (x y : List Bool) : Sep (List.replicate i true ++ false :: x) (List.replicate j true ++ y) := by
  refine ⟨List.replicate i true, x, List.replicate (j - i - 1) true ++ y, rfl, ?_⟩
  have : j = i + (1 + (j - i - 1)) := by omega
  conv => lhs; rw [this]
  rw [← List.replicate_append_replicate, ← List.replicate_append_replicate]
  simp

/-! the row of a count -/
def cend (e : Nat) : List Bool := if e = 8 then [] else [false]
def cnt (n : Nat) : List Bool :=
  List.replicate (blen (blen (n + 1)) - 1) true ++ (cend (blen (blen (n + 1))) ++ (bitsW (blen (n + 1)) (blen (blen (n + 1)) - 1) ++ bitsW (n + 1) (blen (n + 1) - 1)))
theorem mod_top {n : Nat} (h : n ≠ 0) : n % 2 ^ (blen n - 1) = n - 2 ^ (blen n - 1) := by
  have h1 := blen_ge h
  have h2 := blen_lt n
  have h3 := blen_pos h
  have e : 2 ^ blen n = 2 ^ (blen n - 1) * 2 := by rw [← Nat.pow_succ]; congr 1; omega
  rw [Nat.mod_eq_sub_mod h1, Nat.mod_eq_of_lt (by omega)]
theorem bitsW_mod (n w : Nat) : bitsW n w = bitsW (n % 2 ^ w) w := by
  have : ∀ j, j ≤ w → bitsW n j = bitsW (n % 2 ^ w) j := by
    intro j hj
    induction j with
    | zero => rfl
    | succ j ih =>
      rw [bitsW, bitsW, ih (by omega), Nat.testBit_mod_two_pow]
      simp [show j < w by omega]
  exact this w (Nat.le_refl _)
theorem sep_low {n n' : Nat} (h0 : n ≠ 0) (h : n < n') (e : blen n = blen n') : Sep (bitsW n (blen n - 1)) (bitsW n' (blen n' - 1)) := by
  have h0' : n' ≠ 0 := by omega
  rw [bitsW_mod n, bitsW_mod n', mod_top h0, mod_top h0', ← e]
  have h1 := blen_ge h0
  have h2 := blen_lt n'
  rw [← e] at h2
  have h3 := blen_pos h0
  have e2 : 2 ^ blen n = 2 ^ (blen n - 1) * 2 := by rw [← Nat.pow_succ]; congr 1; omega
  exact sep_bits (by omega) (by omega)
theorem cnt_sep {n n' : Nat} (h : n < n') (h' : n' + 1 < 2 ^ 255) : Sep (cnt n) (cnt n') := by
  unfold cnt
  have hd : blen (n' + 1) ≤ 255 := blen_le h'
  have hp : 0 < blen (n + 1) := blen_pos (by omega)
  have hp' : 0 < blen (n' + 1) := blen_pos (by omega)
  have he : blen (blen (n' + 1)) ≤ 8 := blen_le (by omega)
  have m1 : blen (n + 1) ≤ blen (n' + 1) := blen_mono (by omega)
  have m2 : blen (blen (n + 1)) ≤ blen (blen (n' + 1)) := blen_mono m1
  have hq : 0 < blen (blen (n + 1)) := blen_pos (by omega)
  by_cases q : blen (blen (n + 1)) < blen (blen (n' + 1))
  · have c : cend (blen (blen (n + 1))) = [false] := by unfold cend; rw [if_neg (by omega)]
    rw [c]
    exact sep_rep (by omega) _ _
  · have q' : blen (blen (n + 1)) = blen (blen (n' + 1)) := by omega
    by_cases r : blen (n + 1) < blen (n' + 1)
    · have s := sep_low (by omega) r q'
      rw [← q'] at s ⊢
      exact ((s.post _ _).pre _).pre _
    · have r' : blen (n + 1) = blen (n' + 1) := by omega
      have s := sep_low (n := n + 1) (n' := n' + 1) (by omega) (by omega) r'
      rw [← r'] at s ⊢
      exact ((s.pre _).pre _).pre _
theorem cnt_length {n : Nat} (h : n + 1 < 2 ^ 255) : (cnt n).length ≤ blen (n + 1) + 14 := by
  unfold cnt
  have hd : blen (n + 1) ≤ 255 := blen_le h
  have he : blen (blen (n + 1)) ≤ 8 := blen_le (by omega)
  have hq : 0 < blen (n + 1) := blen_pos (by omega)
  simp only [List.length_append, List.length_replicate, bitsW_length]
  have : (cend (blen (blen (n + 1)))).length ≤ if blen (blen (n + 1)) = 8 then 0 else 1 := by
    unfold cend; split <;> simp
  split at this <;> omega

/-! the row of a whole number -/
def whl (n : Int) : List Bool := if n < 0 then false :: (cnt (-1 - n).toNat).map (!·) else true :: cnt n.toNat
theorem whl_sep {n n' : Int} (h : n < n') (h1 : -(2 ^ 255) < n) (h2 : n' < 2 ^ 255 - 1) : Sep (whl n) (whl n') := by
  unfold whl
  by_cases a : n < 0
  · by_cases b : n' < 0
    · rw [if_pos a, if_pos b]
      have s := cnt_sep (n := (-1 - n').toNat) (n' := (-1 - n).toNat) (by omega) (by omega)
      exact s.turn.pre [false]
    · rw [if_pos a, if_neg b]
      exact ⟨[], _, _, rfl, rfl⟩
  · rw [if_neg a, if_neg (by omega)]
    have s := cnt_sep (n := n.toNat) (n' := n'.toNat) (by omega) (by omega)
    exact s.pre [true]
end KM
namespace KM
/-- where the parts of a count's row lie -/
structure CntAt (L : List Bool) (p n : Nat) : Prop where
  ones : ∀ j, j < blen (blen (n + 1)) - 1 → L.getD (p + j) false = true
  zero : blen (blen (n + 1)) < 8 → L.getD (p + (blen (blen (n + 1)) - 1)) false = false
  size : (L.drop (p + (blen (blen (n + 1)) - 1) + (cend (blen (blen (n + 1)))).length)).take (blen (blen (n + 1)) - 1) = bitsW (blen (n + 1)) (blen (blen (n + 1)) - 1)
  more : (L.drop (p + (blen (blen (n + 1)) - 1) + (cend (blen (blen (n + 1)))).length + (blen (blen (n + 1)) - 1))).take (blen (n + 1) - 1) = bitsW (n + 1) (blen (n + 1) - 1)
  fits : p + (cnt n).length ≤ L.length
end KM

end

section
namespace KM
open PySem L2
/-! ### rows as texts -/
def bc (b : Bool) : Nat := if b then 49 else 48
def rowS (l : List Bool) : Str := ⟨(l.map bc).toArray⟩
theorem str_ext {a b : Str} (h : a.cps.toList = b.cps.toList) : a = b := by
  obtain ⟨x⟩ := a; obtain ⟨y⟩ := b
  exact congrArg Str.mk (Array.ext' h)
theorem rowS_cps (l : List Bool) : (rowS l).cps.toList = l.map bc := by simp [rowS]
theorem rowS_length (l : List Bool) : (rowS l).length = l.length := by simp [rowS, Str.length]
theorem bc_inj {a b : Bool} (h : bc a = bc b) : a = b := by cases a <;> cases b <;> first | rfl | (revert h; decide)
theorem rowS_inj {a b : List Bool} (h : rowS a = rowS b) : a = b := by
  have := congrArg (fun x : Str => x.cps.toList) h
  simp only [rowS_cps] at this
  exact List.map_inj_right (fun _ _ => bc_inj) |>.mp this
theorem rowS_append (a b : List Bool) : rowS a ++ rowS b = rowS (a ++ b) := by
  apply str_ext
  show ((rowS a).cps ++ (rowS b).cps).toList = _
  rw [Array.toList_append, rowS_cps, rowS_cps, rowS_cps, List.map_append]
theorem s1 : (Str.ofString "1") = rowS [true] := by decide +kernel
theorem s0 : (Str.ofString "0") = rowS [false] := by decide +kernel
theorem sE : (Str.ofString "") = rowS [] := by decide +kernel
theorem rowS_dec (a b : List Bool) : decide (V.str (rowS a) = V.str (rowS b)) = decide (a = b) := by
  by_cases h : a = b
  · subst h; simp
  · have : ¬ V.str (rowS a) = V.str (rowS b) := fun q => h (rowS_inj (V.str.inj q))
    rw [decide_eq_false h, decide_eq_false this]
/-! joined, cut -/
theorem join_nil_cps : ∀ ys : List Str, (Txt.join (Str.ofString "") ys).cps.toList = (ys.map (·.cps.toList)).flatten := by
  have e : (Str.ofString "").cps = #[] := by decide +kernel
  have key : ∀ (ys : List Str) (acc : Array Nat), (ys.foldl (fun acc p => acc ++ (Str.ofString "").cps ++ p.cps) acc).toList = acc.toList ++ (ys.map (·.cps.toList)).flatten := by
    intro ys
    induction ys with
    | nil => intro acc; simp
    | cons y r ih => intro acc; rw [List.foldl_cons, ih, e]; simp
  intro ys
  cases ys with
  | nil => rfl
  | cons y r =>
    show ((r.foldl (fun acc p => acc ++ (Str.ofString "").cps ++ p.cps) y.cps)).toList = _
    rw [key]; simp
theorem join_rows (ls : List (List Bool)) : Txt.join (Str.ofString "") (ls.map rowS) = rowS ls.flatten := by
  apply str_ext
  rw [join_nil_cps, rowS_cps, List.map_map, List.map_flatten]
  exact congrArg List.flatten (List.map_congr_left fun l _ => rowS_cps l)
theorem flat_ones (l : List Bool) : (l.map fun b => [b]).flatten = l := by
  induction l with
  | nil => rfl
  | cons b r ih => rw [List.map_cons, List.flatten_cons, ih]; rfl
theorem join_bits (l : List Bool) : Txt.join (Str.ofString "") (l.map fun b => rowS [b]) = rowS l := by
  have := join_rows (l.map fun b => [b])
  rw [List.map_map] at this
  rw [show (fun b => rowS [b]) = rowS ∘ (fun b => [b]) from rfl, this]
  exact congrArg rowS (flat_ones l)
theorem mul_row (b : Bool) (n : Int) : Txt.mul (rowS [b]) n = rowS (List.replicate n.toNat b) := by
  unfold Txt.mul
  by_cases h : n < 1
  · rw [if_pos h, show n.toNat = 0 by omega]; rfl
  · rw [if_neg h]
    by_cases h1 : n = 1
    · subst h1; rfl
    · have : (n == 1 || (rowS [b]).length == 0) = false := by simp [rowS_length, h1]
      rw [this, if_neg (by decide)]
      apply str_ext
      have key : ∀ (k : Nat) (acc : Array Nat), ((List.replicate k (rowS [b]).cps).foldl (· ++ ·) acc).toList = acc.toList ++ (List.replicate k b).map bc := by
        intro k
        induction k with
        | zero => intro acc; simp
        | succ k ih => intro acc; rw [List.replicate_succ, List.foldl_cons, ih, List.replicate_succ]; simp [rowS]
      rw [rowS_cps]
      simpa using key n.toNat #[]
theorem sliceIx (lo hi : Option Int) (n : Nat) : Builtin.Str.strSliceIndices lo hi 1 n = (List.range (HT.sIx n n hi - HT.sIx n 0 lo)).map (HT.sIx n 0 lo + ·) := by
  unfold Builtin.Str.strSliceIndices
  rw [← sliceRange_one]
  simp only [show ((1 : Int) > 0) = True from eq_true (by decide), if_true]
  congr 1
  · cases lo with
    | none => rfl
    | some i =>
      simp only [HT.sIx]
      by_cases h : i < 0
      · simp only [h, if_true]; omega
      · simp only [h, if_false]; omega
  · cases hi with
    | none => rfl
    | some i =>
      simp only [HT.sIx]
      by_cases h : i < 0
      · simp only [h, if_true]; omega
      · simp only [h, if_false]; omega
theorem slice_cps (x : Str) (lo hi : Option Int) : (Txt.slice x lo hi).cps.toList = (x.cps.toList.drop (HT.sIx x.length 0 lo)).take (HT.sIx x.length x.length hi - HT.sIx x.length 0 lo) := by
  have hl : x.cps.toList.length = x.length := by simp [Str.length]
  have h1 := HT.sIx_le x.length x.length (Nat.le_refl _) hi
  have h2 := HT.sIx_le x.length 0 (Nat.zero_le _) lo
  unfold Txt.slice
  rw [sliceIx]
  split
  · rename_i c
    simp only [List.length_map, List.length_range, Bool.and_eq_true, beq_iff_eq] at c
    have a0 : HT.sIx x.length 0 lo = 0 ∨ x.length = 0 := by omega
    rcases a0 with a0 | a0
    · rw [a0, List.drop_zero, List.take_of_length_le (by omega)]
    · have : x.cps.toList = [] := List.length_eq_zero_iff.mp (by omega)
      rw [this]; simp
  · rw [pick_run]
theorem slice_row (l : List Bool) (lo hi : Option Int) : Txt.slice (rowS l) lo hi = rowS ((l.drop (HT.sIx l.length 0 lo)).take (HT.sIx l.length l.length hi - HT.sIx l.length 0 lo)) := by
  apply str_ext
  rw [slice_cps, rowS_cps, rowS_cps, rowS_length, List.map_take, List.map_drop]
/-! order -/
theorem sep_lt {a b : List Bool} (h : Sep a b) : (rowS a).cps.toList < (rowS b).cps.toList := by
  obtain ⟨c, x, y, rfl, rfl⟩ := h
  simp only [rowS_cps, List.map_append, List.map_cons]
  refine List.append_left_lt ?_
  exact List.Lex.rel (by decide)
theorem sep_nlt {a b : List Bool} (h : Sep a b) : ¬ (rowS b).cps.toList < (rowS a).cps.toList := fun q => List.lt_asymm q (sep_lt h)
/-! one sign -/
theorem bits_eq (n : Nat) : Builtin.Int.intBits ((n : Nat) : Int) = blen n := by
  unfold Builtin.Int.intBits blen
  by_cases h : n = 0
  · subst h; rfl
  · have : (((n : Nat) : Int) == 0) = false := by simpa using h
    rw [this, if_neg (by decide), if_neg h]
    simp
end KM
namespace KM
open PySem L2
theorem row_sign {l : List Bool} {i c : Nat} (h : (rowS l).cps[i]? = some c) : V.str ⟨#[c]⟩ = V.str (rowS [l.getD i false]) := by
  have h' : (rowS l).cps.toList[i]? = some c := by simpa using h
  rw [rowS_cps, List.getElem?_map] at h'
  rw [List.getD_eq_getElem?_getD]
  cases e : l[i]? with
  | none => rw [e] at h'; cases h'
  | some b =>
    rw [e] at h'
    have : bc b = c := Option.some.inj h'
    rw [← this]; rfl
end KM

end

section
namespace L2
open PySem PySem.Spec PyProof.Rows
/-! ### one rule for each operation, whatever it is given -/
section
variable {X : Cx}
def oAdd := OpR.or (op_add (X := X)) op_add_str
theorem oSub : OpR X (binaryOp .Sub) (rI0 fun i j => .int (i - j)) := op_sub
def oMul := OpR.or (op_mul (X := X)) op_mul_str
def oLt := OpR.or (op_lt (X := X)) op_lt_str
def iAll := IxR.or (IxR.or (ix_list (X := X)) ix_tup) ix_str
def slAll := SlR.or (sl_list (X := X)) sl_str
theorem PI.or {tg it : Expr} {wi wi' : TI} (h : PI X tg it wi) (h' : PI X tg it wi') : PI X tg it (fun σ H R => wi σ H R ∨ wi' σ H R) := fun pins s σ H R I q => q.elim (h pins s σ H R I) (h' pins s σ H R I)
theorem piAll {tg l : Expr} {tl : TE} (hl : PE X l tl) : PI X tg l (fun σ H R => iList X.K tl σ H R ∨ iStr tl σ H R) := (pi_list hl).or (pi_str hl)
end
/-! ### defs by name -/
/-- a def of the text stands at the top -/
def FunAt (K : PySem.W.Frag) (mg : Str → Option Value) (x : Str) (st : Stmt) (ps : List Str) (f : Addr) (fd : FuncData) : Prop := Fun K x x st f fd ∧ Binds K fd ps [] ∧ mg x = some (.ref f)
/-- a def keeps its promise -/
def DefOk (P : Program) (w : World) (K : PySem.W.Frag) (mg : Str → Option Value) (base : Heap) (k : Nat) (x : Str) (ps : List Str) (sp : Sp) : Prop :=
  ∃ f fd, FnOk P w K mg base CX0 k f fd ps sp ∧ Binds K fd ps [] ∧ PySem.W.keepIn K (.ref f) = true ∧ mg x = some (.ref f)
def MethOk (P : Program) (w : World) (K : PySem.W.Frag) (mg : Str → Option Value) (base : Heap) (k : Nat) (C : Addr) (m : Str) (ps : List Str) (sp : Sp) : Prop :=
  ∃ f fd, FnOk P w K mg base CX0 k f fd ps sp ∧ Binds K fd ps [] ∧ Meth K C m f
def MakeOk (P : Program) (w : World) (K : PySem.W.Frag) (mg : Str → Option Value) (base : Heap) (k : Nat) (x : Str) (C : Addr) (ps : List Str) (sp : Sp) : Prop :=
  ∃ f fd, Mk K C f ∧ FnOk P w K mg base CX0 k f fd ps sp ∧ Binds K fd ps [] ∧ mg x = some (.ref C)
def GlobV (mg : Str → Option Value) (x : Str) (v : V) : Prop := ∃ u, mg x = some u ∧ RelV v u
section
variable {X : Cx} {k k' : Nat} {x m : Str} {C : Addr} {ps : List Str} {sp : Sp} {e o : Expr} {es : List Expr} {t : TA} {ta : TE} {p pos apos : Pos} {v : V}
theorem pe_globV (h : GlobV X.mg x v) (hg : Gl X x := by rfl) (hd : (x == ("__debug__" : Str)) = false := by decide +kernel) : PE X (.Name x p) (tC v) := by
  obtain ⟨u, h1, h2⟩ := h
  exact pe_glob hg h1 h2 hd
theorem pe_callD (h : DefOk X.prog X.w X.K X.mg X.base k x ps sp) (hr : Room k' X.A) (ha : PA X (e :: es) t) (hk : k ≤ k' := by decide) (hg : Gl X x := by rfl) (hdb : (x == ("__debug__" : Str)) = false := by decide +kernel)
    (he : starEach (e :: es) X.env = (false, eval e X.env) :: starEach es X.env := by rfl) (hpl : (backTo pos (starEach es X.env)).any (·.1) = false := by rfl) : PE X (.Call (.Name x p) (e :: es) [] pos) (tCall sp [] E0 t) := by
  obtain ⟨f, fd, F, hb, kp, hm⟩ := h
  exact pe_call F (hr.mono hk) hg hm kp hb .nil pass0 ha hdb he hpl
theorem pe_methD {pl : Sem Bool} (h : MethOk X.prog X.w X.K X.mg X.base k C m ps sp) (c : Cls X.K C) (hr : Room k' X.A) (he : PE X o ta) (ha : PA X (e :: es) t) (hk : k ≤ k' := by decide)
    (hst : starEach (e :: es) X.env = (false, eval e X.env) :: starEach es X.env := by rfl) (hpl : (backTo pos (starEach es X.env)).any (·.1) = false := by rfl)
    (ht : eval (.Call (.Attribute o m apos) (e :: es) [] pos) X.env = (do
      let ov ← eval o X.env
      standAt apos.atName
      let (f, first) ← holding [ov] (getMethod ov m pl)
      callWith pos f first (backTo pos (starEach (e :: es) X.env)) (backToKw pos (keywordEach [] X.env))) := by rfl) :
    PE X (.Call (.Attribute o m apos) (e :: es) [] pos) (tMeth C m sp [] E0 ta t) := by
  obtain ⟨f, fd, F, hb, hm⟩ := h
  exact pe_meth he c hm F (hr.mono hk) hb .nil pass0 ha hst hpl ht
theorem pe_makeD (h : MakeOk X.prog X.w X.K X.mg X.base k x C ps sp) (hr : Room k' X.A) (ha : PA X (e :: es) t) (hk : k + 1 ≤ k' := by decide) (hg : Gl X x := by rfl) (hdb : (x == ("__debug__" : Str)) = false := by decide +kernel)
    (he : starEach (e :: es) X.env = (false, eval e X.env) :: starEach es X.env := by rfl) (hpl : (backTo pos (starEach es X.env)).any (·.1) = false := by rfl) : PE X (.Call (.Name x p) (e :: es) [] pos) (tMake C sp [] E0 t) := by
  obtain ⟨f, fd, M, F, hb, hm⟩ := h
  exact pe_make M F (hr.mono hk) hg hm hb .nil pass0 ha hdb he hpl
end
/-- THE RULE for a def without refusals, by name -/
theorem FunAt.ok {P : Program} {w : World} {K : PySem.W.Frag} {mg : Str → Option Value} {base : Heap} {x : Str} {st : Stmt} {f : Addr} {fd : FuncData} {N ps : List Str} {k : Nat} {sp : Sp} (F : FunAt K mg x st ps f fd) (S : FnScope N ps (defScope st)) (len : ∀ vs H Q E, sp vs H Q E → vs.length = ps.length)
    (hbody : ∀ (cdv : Value) (A : Around) (outer : List Env) (s : Shared) (H : Hp) (vs : List V) (Q : VK) (E : XK), Room k (A.deeper (envOfC x (defScope st) s.heap.objs.size f cdv)) → sp vs H Q E →
      ∃ t, PSs (cxOf CX0 P w K mg base N x (defScope st) f cdv A outer s H E).nox (defBody st) t ∧ t { nx := fun _ H' => ∃ H'', Sub H H'' H' ∧ Q .non H'', rt := fun v H' => ∃ H'', Sub H H'' H' ∧ Q v H'' } (start N vs) H) : DefOk P w K mg base (k + 1) x ps sp :=
  ⟨f, fd, F.1.okK S len hbody, F.2.1, F.1.kp, F.2.2⟩
end L2
namespace L2
open PySem PySem.Spec PyProof.Rows
section
variable {X : Cx} {e : Expr} {pos : Pos}
theorem oEq : OpR X (compareOp .Eq) rEq := op_eq
theorem oNe : OpR X (compareOp .NotEq) rNe := op_ne
theorem oLe : OpR X (compareOp .LtE) (rI0 fun i j => .bl (decide (i ≤ j))) := op_le
theorem oGt : OpR X (compareOp .Gt) (rI0 fun i j => .bl (decide (j < i))) := op_gt
theorem oGe : OpR X (compareOp .GtE) (rI0 fun i j => .bl (decide (j ≤ i))) := op_ge
theorem CallR.or' {f : Value} {r r' : List V → Hp → VK → Prop} (h : CallR X f r) (h' : CallR X f r') : CallR X f (fun xs H Q => r xs H Q ∨ r' xs H Q) := fun pins s σ H xs us Q I rv q => q.elim (h pins s σ H xs us Q I rv) (h' pins s σ H xs us Q I rv)
def call_intA := CallR.or' (call_int1 (X := X)) call_int_text
def call_isinstA := CallR.or' (call_isinst (X := X)) call_isinstC
/-- not e, as a value -/
theorem pe_notA {ta : TE} (ha : PE X e ta) : PE X (.UnaryOp .Not e pos) (fun σ H Q => ta σ H fun x H' => ∃ k, TruV X.K x H' k ∧ Q (.bl (!k)) H') := by
  intro pins s σ H Q I h
  refine UnaryOp_ (thn (ha pins s σ H _ I h) fun v s1 ⟨x, H1, I1, r1, k, tv, q1⟩ => ?_)
  exact not_of (thn (tru_ok pins s1 σ H1 x v (fun b H' => b = k ∧ Q (.bl (!k)) H') I1 r1 ⟨k, tv, rfl, q1⟩) fun b s2 ⟨H2, I2, e, q2⟩ => by subst e; exact ⟨.bl (!b), H2, I2, rfl, q2⟩)
end
end L2
namespace L2
open PySem
theorem bo_int : bootBuiltins "int" = some (.type "int") := by decide +kernel
theorem bo_str : bootBuiltins "str" = some (.type "str") := by decide +kernel
theorem bo_bool : bootBuiltins "bool" = some (.type "bool") := by decide +kernel
theorem bo_tuple : bootBuiltins "tuple" = some (.type "tuple") := by decide +kernel
theorem bo_list : bootBuiltins "list" = some (.type "list") := by decide +kernel
theorem bo_len : bootBuiltins "len" = some (.builtin "len") := by decide +kernel
theorem bo_isinstance : bootBuiltins "isinstance" = some (.builtin "isinstance") := by decide +kernel
theorem bo_all : bootBuiltins "all" = some (.builtin "all") := by decide +kernel
end L2

end

section
namespace L2
open PySem PySem.Spec PyProof.Rows KM
theorem upd_upd' {H : Hp} {a : Addr} {o u : HO} : upd (upd H a o) a u = upd H a u := by
  funext b
  unfold upd
  split <;> rfl
/-- a comprehension without tests whose element leaves the heap as it was -/
theorem comp_all {J : It} {g : TG} {te : TE} {Q : VK} {H : Hp} {D : Addr} {σ0 : St} (n : Nat) (xs fe : Nat → V) (S : St → Prop) (hn : n ≤ sizeLine) (h0 : S σ0)
    (hgo : ∀ i H, i < n → J.go i H) (hstop : ∀ H, J.stop n H) (hy : ∀ i H x H', i < n → J.yld i H x H' → H' = H ∧ x = xs i)
    (ht : ∀ i σ1 H1, i < n → S σ1 → ∀ R : St → V → Hp → Prop, (∀ σ2, S σ2 → R σ2 (fe i) H1) → g (xs i) σ1 H1 fun σ2 H2 => te σ2 H2 fun y H3 => R σ2 y H3)
    (hq : Q (.ref D) (upd H D (.lst ((List.range n).map fe)))) :
    CompGo J g tYes te Q σ0 H D := by
  refine ⟨fun i m σ1 H2 => i ≤ n ∧ m = n - i ∧ S σ1 ∧ H2 = upd H D (.lst ((List.range i).map fe)), ⟨n, Nat.zero_le _, rfl, h0, rfl⟩, ?_⟩
  rintro i m σ1 H2 ⟨h1, rfl, h2, rfl⟩
  rcases Nat.lt_or_ge i n with z | z
  · refine .inr ⟨hgo i _ z, fun x H3 y => ?_⟩
    obtain ⟨rfl, rfl⟩ := hy i _ x H3 z y
    refine ht i σ1 _ z h2 (fun σ2 y H6 => ∃ xs m', H6 D = some (.lst xs) ∧ xs.length < sizeLine ∧ m' < n - i ∧ (i + 1 ≤ n ∧ m' = n - (i + 1) ∧ S σ2 ∧ upd H6 D (.lst (xs ++ [y])) = upd H D (.lst ((List.range (i + 1)).map fe)))) fun σ2 q3 => ?_
    refine ⟨_, n - (i + 1), upd_same, ?_, by omega, by omega, rfl, q3, ?_⟩
    · rw [List.length_map, List.length_range]; omega
    · rw [upd_upd', List.range_succ, List.map_append]; rfl
  · have e : i = n := by omega
    subst e
    exact .inl ⟨hstop _, hq⟩
end L2
namespace L2
open PySem
end L2
namespace KM
end KM
namespace L2
open PySem
theorem kit_same (K : PySem.W.Frag) (t : Value) : PySem.W.kitOne K t t = some true := by
  unfold PySem.W.kitOne; rw [beq_self_eq_true, if_pos rfl]
end L2
namespace KM
open PySem L2
end KM
namespace KM
theorem whl_length {n : Int} (h1 : -(2 ^ 255) < n) (h2 : n < 2 ^ 255 - 1) : (whl n).length ≤ 270 := by
  have c : ∀ m : Nat, m + 1 < 2 ^ 255 → (cnt m).length ≤ 269 := fun m h => by
    have := cnt_length h
    have := blen_le h
    omega
  unfold whl
  split
  · rw [List.length_cons, List.length_map]; have := c (-1 - n).toNat (by omega); omega
  · rw [List.length_cons]; have := c n.toNat (by omega); omega
end KM

end

section
namespace L2
open PySem PySem.Spec PyProof.Rows
/-! ### an exception in flight: its class, its own dict, its record T; fl: the frame that it is noted at -/
/-- behind a station: all but e, T and the frames is kept, the frames up to their slots -/
structure Stn (fs : List Addr) (e : Addr) (T : Option Addr) (h h' : Heap) : Prop where
  keep : ∀ b o, b ≠ e → some b ≠ T → b ∉ fs → h.get? b = some o → h'.get? b = some o
  slot : ∀ b o, b ≠ e → some b ≠ T → h.get? b = some o → ∃ sl, h'.get? b = some { o with slots := sl }
section
variable {M : Model} {A : Around} {E : Value → Shared → Prop} {s : Shared} {base : Heap} {env : Env} {outer : List Env} {L e T : Addr} {oe : Obj} {vs : Array Value} {head : Value} {hadNext : Bool} {Q : Unit → Shared → Prop} {cls : Value} {d : Option Addr} {fl : Value}
end
end L2

end

section
namespace L2
open PySem PySem.Spec PyProof.Rows
/-! ### how an exception of a class of the text lies behind a call -/
section
variable {P : Program} {w : World} {K : PySem.W.Frag} {mg : Str → Option Value} {base : Heap} {N : List Str} {qual : Str} {scope : Scope} {f : Addr} {cdv : Value} {A : Around} {outer : List Env} {s : Shared} {H : Hp} {E : XK}
end
section
variable {P : Program} {w : World} {K : PySem.W.Frag} {mg : Str → Option Value} {base : Heap} {N : List Str} {qual : Str} {scope : Scope} {f : Addr} {cdv : Value} {A : Around} {outer : List Env} {s : Shared} {H : Hp} {E : XK}
end
end L2

end

section
namespace L2
open PySem PySem.W PySem.Spec PyProof.Rows
/-! ### a class of exceptions of the text, as the fragment's deciders have it -/
structure ExcC (K : Frag) (C : Addr) : Prop where
  ga : findIn K (.ref C) "__getattribute__" = some (some (.builtin "BaseException.__getattribute__"))
  gt : findIn K (.ref C) "__getattr__" = some none
  cl : findIn K (.ref C) "__class__" = some (some (.builtin "object.__class__"))
  ob : mroIn K C (.type "object") = some true
  be : mroIn K C (.type "BaseException") = some true
  is : isClsIn K C = true
  hn : specialIn K (.builtin "object.__class__") "__get__" = some (some (.builtin "getset_descriptor.__get__"))
  tk : takesIn K (.builtin "object.__class__") = some true
section
variable {K : Frag} {prog : Program} {w : World} {A : Around} {E : Value → Shared → Prop} {h : Heap} {g : Array GenState} {d : Drawn} {t : Nat} {os : OsState} {x C : Addr} {ox : Obj} {odo : Option Obj} {name : Str}
end
end L2

end

section
namespace L2
open PySem PySem.W PySem.Spec PyProof.Rows
/-! ### defs that refuse -/
section
variable {P : Program} {w : World} {K : PySem.W.Frag} {mg : Str → Option Value} {base : Heap}
end
/-! ### calls whose exceptions may depend on the names' values -/
section
variable {X : Cx} {k k' : Nat} {x : Str} {ps : List Str} {sp : Sp} {e : Expr} {es : List Expr} {t : TA} {p pos : Pos} {E : St → XK}
end
/-! ### raise C(..), C an own class without __init__ -/
abbrev bmV : List Value := [.type "ValueError", .type "Exception", .type "BaseException", .type "object"]
structure ClsAt (K : Frag) (h : Heap) (C : Addr) : Prop where
  ex : ∃ (bm : List Value) (N : Addr) (nm q : Str) (bs : List Value) (hdct : Bool) (sn : List Str) (sub : List Value) (ab : Bool) (col : Option Bool) (dd : Option Addr) (k0 k1 k2 k3 k5 : Option Value) (mN : Str → Option Value),
    h.get? C = some (excClassObj nm q C N bs bm hdct sn sub ab col dd k0 k1 k2 k3 k5 "ValueError.__new__") ∧ h.Ns N mN ∧ mN "__init__" = none ∧ OwnTail h bmV bm
end L2

end

section
namespace L2
open PySem PySem.W PySem.Spec PyProof.Rows
section
variable {X : Cx} {pins : List (Addr × Obj)} {σ : St} {H1 H2 : Hp} {s1 s2 : Shared} {h' : Heap} {a C T T' : Addr} {d : Option Addr}
end
/-! ### try -/
end L2

end

section
namespace L2
open PySem PySem.W PySem.Spec PyProof.Rows
section
variable {X : Cx}
/-! ### lists of bools -/
theorem room64 {k : Nat} {A : Around} (hr : Room k A) : A.units + 64 < cLine := by have := hr.un; omega
end
/-! ### a def that answers or refuses -/
section
variable {X : Cx} {k1 k2 k' : Nat} {x : Str} {ps : List Str} {sp1 sp2 : Sp} {e : Expr} {es : List Expr} {t : TA} {p pos : Pos} {E : St → XK}
end
end L2
namespace L2
open PySem
end L2

end

section
namespace L2
open PySem PySem.W PySem.Spec PyProof.Rows PySem.Builtin.ObjectAttr
/-! ### an attribute laid on a new exception -/
def overV : List Value → Bool
  | .ref _ :: r => overV r
  | l => l == bmV
structure ExcS (K : Frag) (C : Addr) : Prop extends ExcC K C where
  sa : findIn K (.ref C) "__setattr__" = some (some (.builtin "object.__setattr__"))
  ov : (clsIn K C).any (fun cd => overV cd.mro) = true
  hd : hasDictIn K C = true
section
variable {K : Frag} {prog : Program} {w : World} {A : Around} {E : Value → Shared → Prop} {s : Shared} {x C : Addr} {ox : Obj} {od : Option Obj} {name : Str} {v : Value}
end
end L2

end

section
namespace L2
open PySem PySem.W PySem.Spec PyProof.Rows
/-! ### a class of exceptions with an __init__ of the text -/
def excInI (K : Frag) (C f : Addr) : Bool := match K.lookup C with
  | some ⟨.type "type", _, .cls cd, sl⟩ => (match cd.mro, sl.toList with
    | .ref C' :: bm, [_, _, _, _, some (.builtin n), _] => C' == C && n == "ValueError.__new__" && !cd.hasDel && tailIn K bmV bm && nsOkIn K cd.ns && nsIn K cd.ns "__init__" == some (some (.ref f))
    | _, _ => false)
  | _ => false
structure ClsAtI (h : Heap) (C f : Addr) : Prop where
  ex : ∃ (bm : List Value) (N : Addr) (nm q : Str) (bs : List Value) (hdct : Bool) (sn : List Str) (sub : List Value) (ab : Bool) (col : Option Bool) (dd : Option Addr) (k0 k1 k2 k3 k5 : Option Value) (mN : Str → Option Value),
    h.get? C = some (excClassObj nm q C N bs bm hdct sn sub ab col dd k0 k1 k2 k3 k5 "ValueError.__new__") ∧ h.Ns N mN ∧ mN "__init__" = some (.ref f) ∧ OwnTail h bmV bm
section
variable {prog : Program} {w : World} {A : Around} {E : Value → Shared → Prop} {h : Heap} {g : Array GenState} {d : Drawn} {t : Nat} {os : OsState}
variable {nm q : Str} {C N : Addr} {bs bm bmB : List Value} {hdct : Bool} {sn : List Str} {sub : List Value} {ab : Bool} {col : Option Bool} {dd : Option Addr} {k0 k1 k2 k3 k5 : Option Value} {B Bn newId nid initId inN : String} {bmN : List Value}
end
structure XMk (K : Frag) (mg : Str → Option Value) (x : Str) (C f : Addr) : Prop where
  xi : excInI K C f = true
  fn : typeIn K (.ref f) = some (.type "function")
  kp : keepIn K (.ref C) = true
  be : mroIn K C (.type "BaseException") = some true
  ty : typeIn K (.ref C) = some (.type "type")
  gm : mg x = some (.ref C)
end L2

end

section
namespace L2
open PySem PySem.W PySem.Spec PyProof.Rows
/-! ### f-strings of texts and small ints -/
abbrev TJ := Str → St → Hp → VK → Prop
section
variable {X : Cx} {e o : Expr} {es : List Expr} {te ta tv : TE} {t : TJ} {pos : Pos}
end
/-! ### B.__init__(self, ..), B an own base without __init__ -/
section
variable {X : Cx} {x : Str} {C D f : Addr} {np apos pos : Pos} {e : Expr} {es : List Expr} {t : TA}
end
/-! ### self.place = .. in __init__ -/
end L2

end

section
namespace L2
open PySem PySem.W PySem.Spec PyProof.Rows
/-! ### methods that answer or refuse -/
section
variable {X : Cx} {k1 k2 k' : Nat} {C : Addr} {m : Str} {ps : List Str} {sp1 sp2 : Sp} {e o : Expr} {es : List Expr} {t : TA} {ta : TE} {p pos apos : Pos} {E : St → XK}
end
end L2
namespace L2
open PySem PySem.Spec PyProof.Rows
end L2

end

section
namespace KM
open PySem L2
theorem slice_to (l : List Bool) (k : Nat) (h : k ≤ l.length) : Txt.slice (rowS l) none (some (k : Int)) = rowS (l.take k) := by
  rw [slice_row, HT.sIx_nat, HT.sIx_none, Nat.min_eq_left (by omega), List.drop_zero, Nat.sub_zero]
end KM

end

section
namespace L2
open PySem PySem.W PySem.Spec PyProof.Rows
section
variable {X : Cx}
def oAdd3 := OpR.or (oAdd (X := X)) op_cat
end
end L2
namespace KM
open PySem L2
end KM

end

section
namespace L2
open PySem PySem.W PySem.Spec PyProof.Rows
/-! ### great numbers -/
section
variable {X : Cx}
end
/-! ### reversed(a list) -/
section
variable {X : Cx} {tg : Expr}
/-- all(a list of bools) -/
theorem call_all (hc : X.calm = true) : CallR X (.builtin "all") (fun xs H Q => ∃ a, ∃ bs : List Bool, xs = [.ref a] ∧ SqL X.K H a (bs.map .bl) ∧ Q (.bl (bs.all id)) H) := by
  intro pins s σ H xs us Q I r h
  obtain ⟨a, bs, rfl, hq, q⟩ := h
  obtain ⟨u, rfl, ru⟩ := vals1 r
  obtain rfl : u = Value.ref a := ru
  obtain ⟨its, rv, pl, hz⟩ := I.list hq
  have hlen := rv.length
  have hlt : a < s.heap.objs.size := by obtain ⟨o, ho, _⟩ := pl.isList; exact Heap.lt_size ho
  refine call_all_walkS (wpAny_pyIter_list pl.isList ?_)
  refine ⟨s.heap.objs.size, [s.heap.objs.size, a], [s.heap.objs.size], _, its.toArray.size, _, _, fun i => bs.getD i false, rfl, (Walks.list (A := X.A.in1) (I.ok.hd hc) s.heap.objs.size a (Nat.ne_of_lt hlt) its.toArray).toS, ⟨⟨_, Heap.get?_push_size _ rfl, rfl, rfl⟩, ?_⟩, ?_, fun s' mv => ?_⟩
  · obtain ⟨o, ho, r⟩ := pl.isList; exact ⟨o, Heap.get?_push_of_some _ ho, r⟩
  · intro i v s2 Q2 E2 hv q2
    have hv' : its[i]? = some v := by simpa using hv
    have hi : i < bs.length := by
      have := (List.getElem?_eq_some_iff.mp hv').1
      rw [List.length_map] at hlen; omega
    have hb : (bs.map V.bl)[i]? = some (.bl (bs.getD i false)) := by rw [List.getElem?_map, List.getElem?_eq_getElem hi, List.getD_eq_getElem?_getD, List.getElem?_eq_getElem hi]; rfl
    obtain ⟨u, hu, ru⟩ := rv.get hb
    rw [hv'] at hu; cases hu
    obtain rfl : v = Value.bool (bs.getD i false) := ru
    exact wpAny_truthy_bool q2
  · have hall : (List.range its.toArray.size).all (fun i => bs.getD i false) = bs.all id := by
      rw [List.size_toArray, ← hlen, List.length_map]
      apply Bool.eq_iff_iff.mpr
      rw [List.all_eq_true, List.all_eq_true]
      constructor
      · intro h x hx
        obtain ⟨i, hi, rfl⟩ := List.mem_iff_getElem.mp hx
        have := h i (List.mem_range.mpr hi)
        rw [List.getD_eq_getElem?_getD, List.getElem?_eq_getElem hi] at this
        exact this
      · intro h i hi
        have hi' := List.mem_range.mp hi
        rw [List.getD_eq_getElem?_getD, List.getElem?_eq_getElem hi']
        exact h _ (List.getElem_mem hi')
    rw [hall]
    refine ⟨.bl _, H, ?_, rfl, q⟩
    have I2 : Inv X pins σ H { s with heap := s.heap.push { cls := .type "list_iterator", data := .fields #[.ref a, .int 0 0] } } := I.kept (t' := s.toks) fun b o e => Heap.get?_push_of_some _ e
    obtain ⟨f0, f1, f2, f3, f4, f5⟩ := I.fpOk (b := s.heap.objs.size) (Nat.le_refl _) (I.hok.fresh (Nat.le_refl _))
    have e : s' = { s with heap := s'.heap, toks := s'.toks } := by
      obtain ⟨h1, g1, d1, t1, o1⟩ := s'
      have := mv.gens; have := mv.drawn; have := mv.os
      dsimp only at *
      subst_vars; rfl
    have I3 := I2.turned (t' := s'.toks) (it := s.heap.objs.size) (h' := s'.heap) (fun b o hb e => mv.heap b o (by simpa using hb) e) f0 f1 f3 f4 f5
    rw [e]
    exact I3
end
end L2
namespace L2
open PySem PySem.W PySem.Spec PyProof.Rows
/-! ### lists of ints, == and != -/
section
variable {X : Cx}
end
end L2
namespace L2
open PySem PySem.W PySem.Spec PyProof.Rows
/-! ### comprehensions over a list -/
theorem comp_list {K : PySem.W.Frag} {a : Addr} {xs : List V} {g : TG} {te : TE} {Q : VK} {H : Hp} {D : Addr} {σ0 : St} (f : V → V) (S : St → Prop) (hz : xs.length ≤ sizeLine) (h0 : S σ0) (hD : H D = none) (hl : SqL K H a xs)
    (ht : ∀ x, x ∈ xs → ∀ σ1 H1, S σ1 → Same H H1 → ∀ R : St → V → Hp → Prop, (∀ σ2, S σ2 → R σ2 (f x) H1) → g x σ1 H1 fun σ2 H2 => te σ2 H2 fun y H3 => R σ2 y H3)
    (hq : Q (.ref D) (upd H D (.lst (xs.map f)))) :
    CompGo (Itl K a) g tYes te Q σ0 H D := by
  refine ⟨fun i m σ1 H2 => i ≤ xs.length ∧ m = xs.length - i ∧ S σ1 ∧ H2 = upd H D (.lst ((xs.take i).map f)), ⟨xs.length, Nat.zero_le _, rfl, h0, rfl⟩, ?_⟩
  rintro i m σ1 H2 ⟨h1, rfl, h2, rfl⟩
  have hl2 := (same_new (o := .lst ((xs.take i).map f)) hD).seq hl
  rcases Nat.lt_or_ge i xs.length with z | z
  · refine .inr ⟨⟨xs, xs[i], hl2, List.getElem?_eq_getElem z⟩, ?_⟩
    rintro x H3 ⟨rfl, hx⟩
    have hx := hx xs hl2
    refine ht x (List.mem_of_getElem? hx) σ1 _ h2 (same_new hD) (fun σ2 y H6 => ∃ ys m', H6 D = some (.lst ys) ∧ ys.length < sizeLine ∧ m' < xs.length - i ∧ (i + 1 ≤ xs.length ∧ m' = xs.length - (i + 1) ∧ S σ2 ∧ upd H6 D (.lst (ys ++ [y])) = upd H D (.lst ((xs.take (i + 1)).map f)))) fun σ2 q3 => ?_
    refine ⟨_, xs.length - (i + 1), upd_same, ?_, by omega, by omega, rfl, q3, ?_⟩
    · rw [List.length_map, List.length_take]; omega
    · rw [upd_upd', List.take_add_one, hx, List.map_append]; rfl
  · have e : i = xs.length := by omega
    subst e
    rw [List.take_length]
    rw [List.take_length] at hl2
    exact .inl ⟨⟨xs, hl2, Nat.le_refl _⟩, hq⟩
end L2

end

section
namespace KM
open PySem L2
/-! ### fractions and their steps -/
/-! sizes -/
/-! whether a list has a fraction -/
end KM

end

section
namespace L2
open PySem PySem.W PySem.Spec PyProof.Rows
section
variable {X : Cx} {pins : List (Addr × Obj)} {σ : St} {H : Hp} {s : Shared} {h' : Heap}
/-- untracked records of ours have turned, and a new object is laid and tracked -/
theorem Inv.turnedNew {t' : Nat} {ch : List Addr} {a : Addr} {o : HO} (I : Inv X pins σ H s) (k : ∀ b u, b ∉ ch → s.heap.get? b = some u → h'.get? b = some u) (hf : ∀ b ∈ ch, FpOk X pins H b) (ha : s.heap.objs.size ≤ a) (new : ObjOk X.prog X.w (upd H a o) h' a o) :
    Inv X pins σ (upd H a o) { s with heap := h', toks := t' } := by
  have hn := I.hok.fresh ha
  have nch : ∀ b u, H b = some u → b ∉ ch := fun b u e z => by have := (hf b z).1; rw [this] at e; cases e
  have ne : ∀ b u, s.heap.get? b = some u → b ≠ a := fun b u e z => by subst z; exact absurd (Nat.lt_of_lt_of_le (Heap.lt_size e) ha) (Nat.lt_irrefl _)
  refine I.step (g' := s.gens) (d' := s.drawn) (ch := ch) (fun b hb => ?_) (fun b o _ _ hc e _ => k b o hc e) (fun b o _ _ hc e _ => ⟨o.slots, k b o hc e⟩) (fun b u _ e n => by rw [upd_ne (ne b u e)]; exact n)
    (fun b o hc e => ⟨o, k b o hc e⟩) (fun b xs e => by rw [upd_ne (ne_of_none e hn)]; exact e) (fun b u v e => by rw [upd_ne (ne_of_none e hn)]; exact e) (fun b ps e => ⟨#[], by rw [upd_ne (ne_of_none e hn), e]; simp⟩) (fun m hm => ?_) (fun b u e => ?_) I.bare
  · obtain ⟨f0, f1, f2, f3, f4, f5⟩ := hf b hb
    exact ⟨f3, f1, f4, f5⟩
  · obtain ⟨ob, es, ep, ho, r⟩ := hm
    exact ⟨ob, es, ep, k _ ob (fun z => (hf _ z).2.1 rfl) ho, r⟩
  · by_cases hb : b = a
    · subst hb; rw [upd_same] at e; cases e; exact new
    · rw [upd_ne hb] at e
      refine (I.hok b u e).stay (fun c v hc q => k c v ?_ q) (fun c q => by rw [upd_ne (ne_of_none q hn)]; exact q) fun c xs q => by rw [upd_ne (ne_of_none q hn)]; exact q
      rcases hc with z | z
      · rw [z]; exact nch b u e
      · exact nch c _ z
theorem Inv.turnedL {t' : Nat} {ch : List Addr} (I : Inv X pins σ H s) (k : ∀ b u, b ∉ ch → s.heap.get? b = some u → h'.get? b = some u) (hf : ∀ b ∈ ch, FpOk X pins H b) : Inv X pins σ H { s with heap := h', toks := t' } := by
  have nch : ∀ b u, H b = some u → b ∉ ch := fun b u e z => by have := (hf b z).1; rw [this] at e; cases e
  refine I.step (g' := s.gens) (d' := s.drawn) (ch := ch) (fun b hb => ?_) (fun b o _ _ hc e _ => k b o hc e) (fun b o _ _ hc e _ => ⟨o.slots, k b o hc e⟩) (fun _ _ _ _ n => n)
    (fun b o hc e => ⟨o, k b o hc e⟩) (fun _ _ e => e) (fun _ _ _ e => e) (fun b ps e => ⟨#[], by rw [e]; simp⟩) (fun m hm => ?_) (fun b u e => ?_) I.bare
  · obtain ⟨f0, f1, f2, f3, f4, f5⟩ := hf b hb
    exact ⟨f3, f1, f4, f5⟩
  · obtain ⟨ob, es, ep, ho, r⟩ := hm
    exact ⟨ob, es, ep, k _ ob (fun z => (hf _ z).2.1 rfl) ho, r⟩
  · refine (I.hok b u e).stay (fun c v hc q => k c v ?_ q) (fun _ q => q) fun _ _ q => q
    rcases hc with z | z
    · rw [z]; exact nch b u e
    · exact nch c _ z
end
/-! ### for k, x in enumerate(a list) -/
section
variable {X : Cx}
end
end L2

end

section
namespace KM
open PySem L2
/-! ### rows of fractions -/
def more : List Int → List Bool
  | [] => [false]
  | b :: r => true :: (cnt (b - 1).toNat ++ more r).map (!·)
/-! ### the common divisor -/
def cd (p q : Int) : Int := if h : 0 < q then cd q (p % q) else p
termination_by q.toNat
decreasing_by
  have := Int.emod_lt_of_pos p h
  have := Int.emod_nonneg p (Int.ne_of_gt h)
  omega
end KM
namespace L2
open PySem PySem.Spec PyProof.Rows
end L2

end

section
namespace KM
open PySem L2
/-! ### the order of fractions and of their rows -/
end KM

end

section
namespace L2
open PySem PySem.W PySem.Spec PyProof.Rows
section
variable {X : Cx}
end
/-- .. whose element is a value by its place -/
theorem comp_listI {K : PySem.W.Frag} {a : Addr} {xs : List V} {g : TG} {te : TE} {Q : VK} {H : Hp} {D : Addr} {σ0 : St} (fe : Nat → V) (S : St → Prop) (hz : xs.length ≤ sizeLine) (h0 : S σ0) (hD : H D = none) (hl : SqL K H a xs)
    (ht : ∀ i x, xs[i]? = some x → ∀ σ1 H1, S σ1 → Same H H1 → ∀ R : St → V → Hp → Prop, (∀ σ2, S σ2 → R σ2 (fe i) H1) → g x σ1 H1 fun σ2 H2 => te σ2 H2 fun y H3 => R σ2 y H3)
    (hq : Q (.ref D) (upd H D (.lst ((List.range xs.length).map fe)))) :
    CompGo (Itl K a) g tYes te Q σ0 H D := by
  refine ⟨fun i m σ1 H2 => i ≤ xs.length ∧ m = xs.length - i ∧ S σ1 ∧ H2 = upd H D (.lst ((List.range i).map fe)), ⟨xs.length, Nat.zero_le _, rfl, h0, rfl⟩, ?_⟩
  rintro i m σ1 H2 ⟨h1, rfl, h2, rfl⟩
  have hl2 := (same_new (o := .lst ((List.range i).map fe)) hD).seq hl
  rcases Nat.lt_or_ge i xs.length with z | z
  · refine .inr ⟨⟨xs, xs[i], hl2, List.getElem?_eq_getElem z⟩, ?_⟩
    rintro x H3 ⟨rfl, hx⟩
    have hx := hx xs hl2
    refine ht i x hx σ1 _ h2 (same_new hD) (fun σ2 y H6 => ∃ ys m', H6 D = some (.lst ys) ∧ ys.length < sizeLine ∧ m' < xs.length - i ∧ (i + 1 ≤ xs.length ∧ m' = xs.length - (i + 1) ∧ S σ2 ∧ upd H6 D (.lst (ys ++ [y])) = upd H D (.lst ((List.range (i + 1)).map fe)))) fun σ2 q3 => ?_
    refine ⟨_, xs.length - (i + 1), upd_same, by rw [List.length_map, List.length_range]; omega, by omega, by omega, rfl, q3, ?_⟩
    rw [upd_upd', List.range_succ, List.map_append]; rfl
  · have e : i = xs.length := by omega
    subst e
    exact .inl ⟨⟨xs, hl2, Nat.le_refl _⟩, hq⟩
end L2

end

section
namespace L2
open PySem PySem.W PySem.Spec PyProof.Rows
/-! ### try with two handlers of one name -/
end L2

end

section
namespace KM
open PySem L2
/-! ### rows of fractions, without their last sign -/
def mp : List Int → List Bool
  | [] => []
  | b :: r => true :: (cnt (b - 1).toNat ++ mp r).map (!·)
end KM

end

section
namespace L2
open PySem PySem.W PySem.Spec PyProof.Rows
section
variable {X : Cx}
theorem mt_rstrip : MtR X "str.rstrip" (fun x xs H Q => ∃ y z, x = .str y ∧ xs = [.str z] ∧ y.length ≤ sizeLine ∧ Q (.str (Txt.rstripChars y z)) H) := by
  intro pins s σ H x xs v us Q I rx rv h
  obtain ⟨y, z, rfl, rfl, hz, q⟩ := h
  obtain ⟨t, rfl⟩ := rx
  obtain ⟨u, rfl, t', rfl⟩ := rv.one
  exact SC.rstripChars (fun t' k => ⟨.str _, H, I.tok _, ⟨_, rfl⟩, q⟩) hz
end
end L2
namespace KM
open PySem L2
/-! ### rows without the ones at their end -/
theorem takeWhile_rep {p : Nat → Bool} {c : Nat} (h : p c = true) (n : Nat) (r : List Nat) : (List.replicate n c ++ r).takeWhile p = List.replicate n c ++ r.takeWhile p := by
  induction n with
  | zero => rfl
  | succ n ih => rw [List.replicate_succ, List.cons_append, List.takeWhile_cons, if_pos h, ih]; rfl
theorem rstrip_row (a : List Bool) (n : Nat) (h : a = [] ∨ ∃ b, a = b ++ [false]) : Txt.rstripChars (rowS (a ++ List.replicate n true)) (Str.ofString "1") = rowS a := by
  have hg1 : (Str.ofString "1").cps.contains (bc true) = true := by decide +kernel
  have hg0 : (Str.ofString "1").cps.contains (bc false) = false := by decide +kernel
  have hlo : stripLo (Str.ofString "1").cps.contains false (rowS (a ++ List.replicate n true)) = 0 := rfl
  have hz : ((a.map bc).reverse).takeWhile (Str.ofString "1").cps.contains = [] := by
    rcases h with rfl | ⟨b, rfl⟩
    · rfl
    · rw [List.map_append, List.reverse_append]
      show ([bc false] ++ _).takeWhile _ = []
      rw [List.cons_append, List.takeWhile_cons, if_neg (by rw [hg0]; decide)]
  have hhi : stripHi (Str.ofString "1").cps.contains true (rowS (a ++ List.replicate n true)) 0 = a.length := by
    unfold stripHi
    rw [if_pos rfl, rowS_cps, List.drop_zero, List.map_append, List.map_replicate, List.reverse_append, List.reverse_replicate, takeWhile_rep hg1, hz, List.append_nil, List.length_replicate, rowS_length, List.length_append, List.length_replicate]
    omega
  unfold Txt.rstripChars Txt.stripBy
  by_cases hs : stripSame (Str.ofString "1").cps.contains false true (rowS (a ++ List.replicate n true)) = true
  · rw [if_pos hs]
    unfold stripSame at hs
    rw [hlo, hhi, rowS_length, List.length_append, List.length_replicate] at hs
    have : n = 0 := by
      have := beq_iff_eq.mp (Bool.and_eq_true_iff.mp hs).2
      omega
    subst this
    rw [List.replicate_zero, List.append_nil]
  · rw [if_neg hs]
    unfold stripped
    rw [hlo, hhi]
    apply str_ext
    show ((rowS (a ++ List.replicate n true)).cps.extract 0 a.length).toList = _
    rw [Array.toList_extract, rowS_cps, rowS_cps]
    simp [List.extract]
/-- each row is ones alone, or has a last nought -/
theorem last_zero (l : List Bool) : (∃ n, l = List.replicate n true) ∨ ∃ b n, l = b ++ false :: List.replicate n true := by
  induction l with
  | nil => exact .inl ⟨0, rfl⟩
  | cons x r ih =>
    rcases ih with ⟨n, rfl⟩ | ⟨b, n, rfl⟩
    · cases x with
      | true => exact .inl ⟨n + 1, rfl⟩
      | false => exact .inr ⟨[], n, rfl⟩
    · exact .inr ⟨x :: b, n, rfl⟩
theorem slice_init (b : List Bool) (x : Bool) : Txt.slice (rowS (b ++ [x])) none (some (-1)) = rowS b := by
  rw [slice_row]
  congr 1
  have e1 : HT.sIx (b ++ [x]).length 0 none = 0 := rfl
  have e2 : HT.sIx (b ++ [x]).length (b ++ [x]).length (some (-1)) = b.length := by
    rw [List.length_append, List.length_singleton]
    unfold HT.sIx
    simp
    omega
  rw [e1, e2]
  simp
/-! ### the order of rows -/
def Lt (a b : List Bool) : Prop := (rowS a).cps.toList < (rowS b).cps.toList
instance (a b : List Bool) : Decidable (Lt a b) := inferInstanceAs (Decidable (_ < _))
/-- how many signs two rows begin with in common -/
def com : List Bool → List Bool → Nat
  | x :: a, y :: b => if x = y then com a b + 1 else 0
  | _, _ => 0
end KM
namespace KM
open PySem L2
end KM

end

section
namespace L2
open PySem PySem.W PySem.Spec PyProof.Rows
/-! ### the lesser and the greater of two texts -/
section
variable {prog : Program} {w : World} {A : Around} {E : Value → Shared → Prop} {s : Shared}
end
section
variable {X : Cx}
theorem op_le_str : OpR X (compareOp .LtE) (fun x y H Q => ∃ i j, x = .str i ∧ y = .str j ∧ Q (.bl (!decide (j.cps.toList < i.cps.toList))) H) := by
  intro pins s σ H x y u v Q I ru rv h
  obtain ⟨i, j, rfl, rfl, q⟩ := h
  obtain ⟨t, rfl⟩ := ru
  obtain ⟨t', rfl⟩ := rv
  exact PySem.P.le_str (fin_bl I q rfl)
/-! ### list.insert -/
end
/-! ### for x, y in zip(a list, a list) -/
def Itz (K : PySem.W.Frag) (a b : Addr) (xs ys : List V) : It :=
  ⟨fun i H => SqL K H a xs ∧ SqL K H b ys ∧ i < min xs.length ys.length, fun i H x H' => ∃ (T : Addr) (u v : V), H T = none ∧ xs[i]? = some u ∧ ys[i]? = some v ∧ x = .ref T ∧ H' = upd H T (.tup [u, v]), fun i H => SqL K H a xs ∧ SqL K H b ys ∧ min xs.length ys.length ≤ i⟩
theorem turn_zip {P : Program} {w : World} {K : PySem.W.Frag} {elts : List Expr} {k : Nat} {pos : Pos} (a b z TI TO i1 i2 : Addr) (xs ys : List V) (D : ZipApart z TI TO i1 i2 a b) :
    Turn P w K (.Tuple elts k pos) (Itz K a b xs ys) [z, TI, TO, i1, i2] z (fun i h => i ≤ min xs.length ys.length ∧ IsZip h z TI TO .none ∧ IsPair h TI (.ref i1) (.ref i2) ∧ (∃ a b, IsPair h TO a b) ∧ h.IsListIter i1 a i ∧ h.IsListIter i2 b i) where
  mem := by simp
  obj := fun i h st c hc => by
    obtain ⟨_, st1, st2, ⟨p, q, st3⟩, st4, st5⟩ := st
    rcases List.mem_cons.mp hc with e | hc
    · subst e; exact ⟨_, st1, fun v z => by cases z⟩
    rcases List.mem_cons.mp hc with e | hc
    · subst e; exact ⟨_, st2, fun v z => by cases z⟩
    rcases List.mem_cons.mp hc with e | hc
    · subst e; exact ⟨_, st3, fun v z => by cases z⟩
    rcases List.mem_cons.mp hc with e | hc
    · subst e
      obtain ⟨o, e, c, d⟩ := st4
      exact ⟨o, e, fun v z => by rw [d] at z; cases z⟩
    · obtain rfl := List.mem_singleton.mp hc
      obtain ⟨o, e, c, d⟩ := st5
      exact ⟨o, e, fun v z => by rw [d] at z; cases z⟩
  keep := fun i h h' st k => by
    obtain ⟨hi, st1, st2, ⟨p, q, st3⟩, st4, st5⟩ := st
    exact ⟨hi, k z (by simp) _ st1, k TI (by simp) _ st2, ⟨p, q, k TO (by simp) _ st3⟩, st4.at fun o e => k i1 (by simp) o e, st5.at fun o e => k i2 (by simp) o e⟩
  item := by
    intro X hP hw hK hc i pins s σ H E I hf st hg
    subst hP hw hK
    obtain ⟨hq1, hq2, hi⟩ := hg
    obtain ⟨its1, rv1, p1, hz1⟩ := I.list hq1
    obtain ⟨its2, rv2, p2, hz2⟩ := I.list hq2
    have hlen1 := rv1.length
    have hlen2 := rv2.length
    have W := WalksT.zip2 (prog := X.prog) (w := X.w) (I.ok.hd hc) z TI TO i1 i2 a b D its1.toArray its2.toArray
    refine W.item i s _ _ (by rw [List.size_toArray, List.size_toArray]; omega) ⟨st.2.1, st.2.2.1, st.2.2.2.1, st.2.2.2.2.1, st.2.2.2.2.2, p1.isList, p2.isList⟩ fun T vals h' tk hv hT htup mid kk => ?_
    refine ⟨_, rfl, W.go elts k pos i T _ _ _ mid fun h'' st' kk' => ?_⟩
    obtain ⟨u1, u2, hu1, hu2, rfl⟩ := hv
    have hu1' : its1[i]? = some u1 := by simpa using hu1
    have hu2' : its2[i]? = some u2 := by simpa using hu2
    have hy1 : xs[i]? = some (xs[i]'(by omega)) := List.getElem?_eq_getElem _
    have hy2 : ys[i]? = some (ys[i]'(by omega)) := List.getElem?_eq_getElem _
    obtain ⟨v1, hv1, ru1⟩ := rv1.get hy1
    obtain ⟨v2, hv2, ru2⟩ := rv2.get hy2
    rw [hu1'] at hv1; cases hv1
    rw [hu2'] at hv2; cases hv2
    have hTf := I.hok.fresh hT
    have nT : T ∉ [z, TO, i1, i2] := W.apart i T h' mid
    have nT2 : ∀ c ∈ [z, TI, TO, i1, i2], c ≠ T := fun c hcm e => by
      subst e
      rcases List.mem_cons.mp hcm with e | hcm
      · exact nT (by rw [e]; simp)
      rcases List.mem_cons.mp hcm with e | hcm
      · have h0 := Heap.lt_size st.2.2.1
        rw [← e] at h0
        exact absurd (Nat.lt_of_lt_of_le h0 hT) (Nat.lt_irrefl _)
      · exact nT (List.mem_cons_of_mem _ hcm)
    refine ⟨.ref T, upd H T (.tup [xs[i]'(by omega), ys[i]'(by omega)]), ?_, rfl, ⟨T, _, _, hTf, hy1, hy2, rfl, rfl⟩, ⟨by omega, st'.1, st'.2.1, st'.2.2.1, st'.2.2.2.1, st'.2.2.2.2.1⟩, fun c hcm => ?_⟩
    · refine I.turnedNew (ch := [z, TO, i1, i2]) (t' := tk) (fun c o hcn ec => kk' c o hcn (kk c o hcn ec)) (fun c hcm => hf c ?_) hT ?_
      · rcases List.mem_cons.mp hcm with e | hcm
        · rw [e]; simp
        · exact List.mem_cons_of_mem _ (List.mem_cons_of_mem _ hcm)
      refine ⟨by show 2 ≤ sizeLine; decide, [u1, u2], .cons ru1 (.cons ru2 .nil), ?_⟩
      obtain ⟨o, ho, r⟩ := htup
      exact ⟨o, kk' T o nT ho, r⟩
    · rw [upd_ne (nT2 c hcm)]
      exact (hf c hcm).1
  done := by
    intro X hP hw hK hc i pins s σ H E I hf st hg
    subst hP hw hK
    obtain ⟨hq1, hq2, hi⟩ := hg
    obtain ⟨its1, rv1, p1, hz1⟩ := I.list hq1
    obtain ⟨its2, rv2, p2, hz2⟩ := I.list hq2
    have hlen1 := rv1.length
    have hlen2 := rv2.length
    have W := WalksT.zip2 (prog := X.prog) (w := X.w) (I.ok.hd hc) z TI TO i1 i2 a b D its1.toArray its2.toArray
    have ei : i = min its1.toArray.size its2.toArray.size := by rw [List.size_toArray, List.size_toArray]; have := st.1; omega
    subst ei
    refine W.done s _ _ ⟨st.2.1, st.2.2.1, st.2.2.2.1, st.2.2.2.2.1, st.2.2.2.2.2, p1.isList, p2.isList⟩ fun h' tk kk => ⟨rfl, I.turnedL (t' := tk) kk fun c hcm => hf c ?_⟩
    rcases List.mem_cons.mp hcm with e | hcm
    · rw [e]; simp
    · exact List.mem_cons_of_mem _ (List.mem_cons_of_mem _ hcm)
  self := fun A i s Q E st h => wpAny_pyIter_zip st.2.1 h
section
variable {X : Cx}
def iZip (K : PySem.W.Frag) (ta : TA) : TI := fun σ H R => ta σ H fun vs H1 => ∃ a b xs ys, vs = [.ref a, .ref b] ∧ SqL K H1 a xs ∧ SqL K H1 b ys ∧ R (Itz K a b xs ys) H1
theorem pi_zip {l m : Expr} {ta : TA} {p pos : Pos} {elts : List Expr} {k : Nat} {tpos : Pos} (hg : Gl X "zip") (hm : X.mg "zip" = none) (ha : PA X [l, m] ta) (hs : starEach [l, m] X.env = [(false, eval l X.env), (false, eval m X.env)] := by rfl) (hs2 : starEach [m] X.env = [(false, eval m X.env)] := by rfl) :
    PI X (.Tuple elts k tpos) (.Call (.Name "zip" p) [l, m] [] pos) (iZip X.K ta) := by
  intro pins s σ H R I h
  refine Call_ (ld_blt I hg hm boot_zip (PyProof.Rows.callWith_type1 (thn (ha pos pins s σ H (fun vs H1 => ∃ a b xs ys, vs = [.ref a, .ref b] ∧ SqL X.K H1 a xs ∧ SqL X.K H1 b ys ∧ R (Itz X.K a b xs ys) H1) I h) fun us s1 ⟨vs, H1, I1, r1, q1⟩ => ?_) (by rw [hs, hs2]) (by rw [hs2]; rfl)))
  obtain ⟨a, b, xs, ys, rfl, hq1, hq2, q⟩ := q1
  obtain ⟨u1, u2, rfl, ru1, ru2⟩ := vals2 r1
  obtain rfl : u1 = Value.ref a := ru1
  obtain rfl : u2 = Value.ref b := ru2
  obtain ⟨its1, rv1, p1, hz1⟩ := I1.list hq1
  obtain ⟨its2, rv2, p2, hz2⟩ := I1.list hq2
  have l1 : a < s1.heap.objs.size := by obtain ⟨o, ho, _⟩ := p1.isList; exact Heap.lt_size ho
  have l2 : b < s1.heap.objs.size := by obtain ⟨o, ho, _⟩ := p2.isList; exact Heap.lt_size ho
  refine call_zip_2 p1.isList p2.isList fun h' z1 z2 z3 z4 z5 hsz kk => ?_
  have I2 : Inv X pins σ H1 { s1 with heap := h' } := I1.kept (t' := s1.toks) kk
  refine wpAny_pyIter_zip z1 ?_
  refine ⟨_, _, _, _, H1, rfl, I2, turn_zip a b _ _ _ _ _ xs ys (zipApart_new l1 l2), ⟨Nat.zero_le _, z1, z2, ⟨_, _, z3⟩, z4, z5⟩, fun c hc => ?_, q⟩
  have hcl : s1.heap.objs.size ≤ c := by
    rcases List.mem_cons.mp hc with e | hc
    · rw [e]; exact Nat.le_add_right ..
    rcases List.mem_cons.mp hc with e | hc
    · rw [e]; exact Nat.le_add_right ..
    rcases List.mem_cons.mp hc with e | hc
    · rw [e]; exact Nat.le_add_right ..
    rcases List.mem_cons.mp hc with e | hc
    · rw [e]; exact Nat.le_refl _
    · rw [List.mem_singleton.mp hc]; exact Nat.le_add_right ..
  exact I1.fpOk hcl (I1.hok.fresh hcl)
end
end L2
namespace L2
open PySem PySem.W PySem.Spec PyProof.Rows
/-- a comprehension over pairs of two lists -/
theorem comp_zip {K : PySem.W.Frag} {a b : Addr} {xs ys : List V} {g : TG} {te : TE} {Q : VK} {H : Hp} {D : Addr} {σ0 : St} (fe : Nat → V) (S : St → Prop) (hz : min xs.length ys.length ≤ 100000) (h0 : S σ0) (hD : H D = none) (hl1 : SqL K H a xs) (hl2 : SqL K H b ys)
    (ht : ∀ i x y, xs[i]? = some x → ys[i]? = some y → ∀ σ1 H1 T, S σ1 → Same H H1 → H1 T = none → ∀ R : St → V → Hp → Prop, (∀ σ2 H3, S σ2 → Same (upd H1 T (.tup [x, y])) H3 → R σ2 (fe i) H3) → g (.ref T) σ1 (upd H1 T (.tup [x, y])) fun σ2 H2 => te σ2 H2 fun z H3 => R σ2 z H3)
    (hq : ∀ H' : Hp, Same H H' → H' D = some (.lst ((List.range (min xs.length ys.length)).map fe)) → Q (.ref D) H') :
    CompGo (Itz K a b xs ys) g tYes te Q σ0 H D := by
  refine ⟨fun i m σ1 H2 => i ≤ min xs.length ys.length ∧ m = min xs.length ys.length - i ∧ S σ1 ∧ Same H H2 ∧ H2 D = some (.lst ((List.range i).map fe)), ⟨min xs.length ys.length, Nat.zero_le _, rfl, h0, same_new hD, upd_same⟩, ?_⟩
  rintro i m σ1 H2 ⟨h1, rfl, h2, hs, hDv⟩
  have q1 := hs.seq hl1
  have q2 := hs.seq hl2
  rcases Nat.lt_or_ge i (min xs.length ys.length) with z | z
  · refine .inr ⟨⟨q1, q2, z⟩, ?_⟩
    rintro x H3 ⟨T, u, v, hT, hu, hv, rfl, rfl⟩
    refine ht i u v hu hv σ1 H2 T h2 hs hT (fun σ2 y H6 => ∃ zs m', H6 D = some (.lst zs) ∧ zs.length < sizeLine ∧ m' < min xs.length ys.length - i ∧ (i + 1 ≤ min xs.length ys.length ∧ m' = min xs.length ys.length - (i + 1) ∧ S σ2 ∧ Same H (upd H6 D (.lst (zs ++ [y]))) ∧ upd H6 D (.lst (zs ++ [y])) D = some (.lst ((List.range (i + 1)).map fe)))) fun σ2 H6 q3 hs6 => ?_
    have nDT : D ≠ T := fun e => by rw [e, hT] at hDv; cases hDv
    refine ⟨(List.range i).map fe, min xs.length ys.length - (i + 1), hs6 _ _ (by rw [upd_ne nDT]; exact hDv), ?_, by omega, by omega, rfl, q3, ?_, ?_⟩
    · rw [List.length_map, List.length_range]
      exact Nat.lt_of_lt_of_le (show i < 100000 by omega) (by decide)
    · intro c o e
      rw [upd_ne (ne_of_none e hD)]
      refine hs6 c o ?_
      rw [upd_ne (fun e' => by rw [e', hs.free hT] at e; cases e)]
      exact hs c o e
    · rw [upd_same, List.range_succ, List.map_append]; rfl
  · have e : i = min xs.length ys.length := by omega
    subst e
    exact .inl ⟨⟨q1, q2, Nat.le_refl _⟩, hq H2 hs hDv⟩
end L2
namespace L2
open PySem PySem.W PySem.Spec PyProof.Rows
section
variable {X : Cx} {pos : Pos}
/-- (a, b, ..) = a list of that length -/
def gTupL (K : PySem.W.Frag) (n : Nat) (t : TGs) : TG := fun v σ H Q => ∃ a xs, v = .ref a ∧ SqL K H a xs ∧ xs.length = n ∧ t xs σ H Q
theorem pg_tupL {es : List Expr} {k : Nat} {t : TGs} {n : Nat} (hc : X.calm = true) (h : PGs X es t)
    (hn : (assignEach es X.env).length = n := by rfl) (hst : (assignEach es X.env).findIdx? (·.1) = none := by rfl) : PG X (.Tuple es k pos) (gTupL X.K n t) := by
  intro pins s σ H v u Q I r hw
  obtain ⟨a, xs, e1, hq, hl, hw⟩ := hw
  subst e1
  cases r
  obtain ⟨its, rv, pl, hz⟩ := I.list hq
  rw [assign_Tuple]
  refine wpAny_bind (wpAny_standAt ?_)
  unfold unpack
  rw [hst, show (assignEach es X.env).length = its.toArray.size from by simp [hn, ← hl, rv.length]]
  refine wpAny_bind (wpAny_holding (kun_itemsOf (I.ok.hd hc) pl.isList fun h' hx => ?_))
  have I1 : Inv X pins σ H { s with heap := h' } := I.kept (t' := s.toks) fun b o e => hx b o (Nat.ne_of_lt (Heap.lt_size e)) e
  exact h pins _ σ H xs _ Q I1 (by simpa using rv) hw
end
end L2

end

section
namespace KM
open PySem L2
/-! ### pages -/
def ent (a r : List Bool) : List Bool := cnt (com a r) ++ cnt (r.length - com a r) ++ r.drop (com a r)
def ents : List Bool → List (List Bool) → List Bool
  | _, [] => []
  | a, r :: rs => ent a r ++ ents r rs
def page (rs : List (List Bool)) : List Bool := cnt rs.length ++ ents [] rs
end KM
namespace KM
open PySem L2
end KM
namespace KM
open PySem L2
end KM

end

section
namespace L2
open PySem PySem.W PySem.Spec PyProof.Rows
/-! ### lists of texts, == and != -/
section
variable {X : Cx}
end
/-! ### a try whose body raises nothing -/
end L2

end

section
namespace L2
open PySem PySem.W PySem.Spec PyProof.Rows
section
variable {M : Model} {A : Around} {E : Value → Shared → Prop} {s : Shared} {base : Heap} {env : Env} {outer : List Env} {L e T : Addr} {Q : Unit → Shared → Prop} {cls : Value} {d : Option Addr} {fl : Value}
end
section
variable {P : Program} {w : World} {K : PySem.W.Frag} {mg : Str → Option Value} {base : Heap} {N : List Str} {qual : Str} {scope : Scope} {f : Addr} {cdv : Value} {A : Around} {outer : List Env} {s : Shared} {H : Hp} {E : XK}
end
end L2

end

section
namespace L2
open PySem PySem.W PySem.Spec PyProof.Rows
section
variable {X : Cx}
/-! ### tuples of a number and a truth, == -/
end
end L2

namespace L2
open PySem PySem.W PySem.Spec PyProof.Rows
end L2

end

section
namespace L2
open PySem PySem.W PySem.Spec PyProof.Rows
end L2

end

section
namespace KM
open PySem L2
/-! ### rows that ascend, by their order alone -/
end KM
namespace L2
open PySem PySem.W PySem.Spec PyProof.Rows
section
variable {X : Cx}
/-! ### sorted(rows) -/
/-! ### tuples of a word and a row or None, == -/
inductive RowN : V → PyData → Prop
  | non : RowN .non .none
  | row (l : List Bool) : RowN (.str (KM.rowS l)) (.str (KM.rowS l))
end
end L2

end

section
namespace L2
open PySem PySem.W PySem.Spec PyProof.Rows
section
variable {prog : Program} {w : World} {A : Around} {E : Value → Shared → Prop} {s : Shared}
end
section
variable {prog : Program} {w : World} {A : Around} {E : Value → Shared → Prop} {s : Shared} {env : Env}
variable {nm q : Str} {C N a : Addr} {bs bm bmB : List Value} {hdct : Bool} {sn : List Str} {sub : List Value} {ab : Bool} {col : Option Bool} {dd : Option Addr} {k0 k1 k2 k3 k5 : Option Value} {B Bn newId nid initId inN : String} {bmN : List Value} {K : Frag}
end
section
variable {X : Cx}
end
end L2

end

section
namespace KM
open PySem L2
/-! ### any signs read as a page -/
def padL (l : List Bool) : List Bool := l ++ List.replicate 3000 false
open Classical in
/-- the count that stands at i, the signs behind the end being 0 -/
noncomputable def cnv (l : List Bool) (i : Nat) : Nat := if h : ∃ n, n + 1 < 2 ^ 255 ∧ cnt n <+: (padL l).drop i then h.choose else 0
/-- an entry behind la, s signs of which it shares, its m others at i; fst: it is the first -/
def entAt (l la : List Bool) (fst : Bool) (s m i : Nat) : Option (List Bool × Nat) :=
  if i + m ≤ l.length ∧ s ≤ la.length ∧ com la (la.take s ++ (l.drop i).take m) = s ∧ (fst = true ∨ Lt la (la.take s ++ (l.drop i).take m)) then some (la.take s ++ (l.drop i).take m, i + m) else none
noncomputable def entR (l la : List Bool) (fst : Bool) (i : Nat) : Option (List Bool × Nat) :=
  entAt l la fst (cnv l i) (cnv l (i + (cnt (cnv l i)).length)) (i + (cnt (cnv l i)).length + (cnt (cnv l (i + (cnt (cnv l i)).length))).length)
noncomputable def goR (l : List Bool) : Nat → List (List Bool) → Nat → Option (List (List Bool))
  | 0, rs, i => if i = l.length then some rs else none
  | k + 1, rs, i => match entR l (rs.getLastD []) rs.isEmpty i with
    | none => none
    | some (r, j) => goR l k (rs ++ [r]) j
/-- how a page's reading stands: rs read, the next entry at i -/
structure RdAt (l : List Bool) (out : Option (List (List Bool))) (rs : List (List Bool)) (i : Nat) : Prop where
  le : rs.length ≤ cnv l 0
  at_ : i ≤ l.length
  few : rs.length ≤ i
  sm : ∀ x ∈ rs, x.length ≤ i
  go : goR l (cnv l 0 - rs.length) rs i = out
end KM

end

section
namespace L2
open PySem PySem.W PySem.Spec PyProof.Rows
/-! ### xs[::-1] -/
section
variable {X : Cx} {e : Expr} {te : TE} {p2 pos : Pos}
end
end L2

end

section
namespace KM
open PySem
/-! ### 5 x + 1 goes through all slots of a table -/
/-! ### a free slot is met -/
/-! ### the table laid anew -/
end KM

end

section
namespace L2
open PySem PySem.Spec
/-! ### sets of texts, as they lie -/
structure SetIn (w : World) (es : Array (Int × Value)) (t : SetTable) (ks : List Str) : Prop where
  fit : t.fits es.size = true
  led : w.params.followText "set-order" = false → t.led = true
  pl : es.size ≠ 0 → t.plain = false
  els : ∀ e ∈ es.toList, ∃ k u, e = (hashStr w k, Value.str k u)
  keys : (es.toList.map fun e => PyProof.Rows.strOf e.2).Perm ks
section
variable {w : World} {es es' : Array (Int × Value)} {t t' : SetTable} {ks : List Str}
/-! ### flags of a table laid anew -/
end
section
variable {prog : Program} {w : World} {A : Around} {E : Value → Shared → Prop} {s : Shared} {a : Addr} {es : Array (Int × Value)} {ep : Nat} {t : SetTable} {ks : List Str}
set_option maxHeartbeats 1000000 in
/-! ### a table laid anew, and the merging of two -/
set_option maxHeartbeats 1000000 in
/-! ### the order of a walk -/
/-! ### a merge into an empty set, and into one that is not -/
set_option maxHeartbeats 1000000 in
set_option maxHeartbeats 1000000 in
end
end L2

end

section
namespace L2
open PySem PySem.Spec
section
variable {prog : Program} {w : World} {A : Around} {E : Value → Shared → Prop} {s : Shared} {a : Addr} {es : Array (Int × Value)} {ep : Nat} {t : SetTable} {ks : List Str}
set_option maxHeartbeats 1000000 in
set_option maxHeartbeats 1000000 in
/-! ### a | b -/
set_option maxHeartbeats 1000000 in
/-! ### what is in the union -/
end
end L2

end

section
namespace L2
open PySem PySem.Spec
/-! ### set(a list of texts) -/
section
variable {prog : Program} {w : World} {A : Around} {R : Result → Shared → Prop} {I : Addr} {fp wr : List Addr} {G : Array GenState → Array GenState → Prop} {n : Nat} {Pv : Nat → Value → Prop} {St : Nat → Shared → Prop}
end
section
variable {prog : Program} {w : World} {A : Around} {E : Value → Shared → Prop} {s : Shared}
set_option maxHeartbeats 3200000 in
set_option maxHeartbeats 3200000 in
end
end L2

end

section
namespace L2
open PySem PySem.Spec
/-! ### a walk through a set of texts -/
section
variable {prog : Program} {w : World} {A : Around} {E : Value → Shared → Prop} {s : Shared} {a I : Addr} {es : Array (Int × Value)} {ep : Nat} {t : SetTable} {ks : List Str}
set_option maxHeartbeats 1000000 in
set_option maxHeartbeats 1000000 in
end
end L2

end

section
namespace L2
open PySem PySem.Spec
section
variable {prog : Program} {w : World} {A : Around} {E : Value → Shared → Prop} {s : Shared} {a I p : Addr} {es : Array (Int × Value)} {ep : Nat} {t : SetTable} {ks : List Str}
set_option maxHeartbeats 1000000 in
set_option maxHeartbeats 1000000 in
/-! ### what comes next -/
end
end L2

end

section
namespace L2
open PySem PySem.Spec
section
variable {prog : Program} {w : World} {A : Around} {E : Value → Shared → Prop} {s : Shared} {a I p : Addr} {es : Array (Int × Value)} {ep : Nat} {t : SetTable} {ks : List Str}
set_option maxHeartbeats 1000000 in
end
end L2

end

section
namespace L2
open PySem PySem.Spec PyProof.Rows
section
variable {prog : Program} {w : World} {A : Around} {E : Value → Shared → Prop} {s : Shared} {a : Addr} {es : Array (Int × Value)} {ep : Nat} {t : SetTable} {ks : List Str}
set_option maxHeartbeats 1000000 in
/-! ### sorted(a set of texts) -/
set_option maxHeartbeats 1000000 in
end
end L2

end

section
namespace L2
open PySem PySem.W PySem.Spec PyProof.Rows
section
variable {X : Cx} {pos p p2 p3 q q2 q3 : Pos} {e1 e2 : Expr} {te1 te2 : TE}
set_option maxHeartbeats 1000000 in
end
/-- a comprehension over a range with an if -/
theorem comp_rangeF {lo : Int} {n : Nat} {g : TG} {tc : TT} {te : TE} {Q : VK} {H : Hp} {D : Addr} {σ0 : St} (keep : Nat → Bool) (f : Nat → V) (S : St → Prop) (hn : n ≤ 100000) (h0 : S σ0) (hD : H D = none)
    (ht : ∀ i : Nat, i < n → ∀ σ1 H1, S σ1 → Same H H1 → ∀ (R : St → V → Hp → Prop) (R' : St → Hp → Prop), (∀ σ2, S σ2 → if keep i = true then R σ2 (f i) H1 else R' σ2 H1) → g (.int (lo + (i : Int))) σ1 H1 fun σ2 H2 => tc σ2 H2 fun b H3 => if b = true then te σ2 H3 fun y H4 => R σ2 y H4 else R' σ2 H3)
    (hq : Q (.ref D) (upd H D (.lst (((List.range n).filter keep).map f)))) :
    CompGo (Itr lo n) g tc te Q σ0 H D := by
  refine ⟨fun i m σ1 H2 => i ≤ n ∧ m = n - i ∧ S σ1 ∧ H2 = upd H D (.lst (((List.range i).filter keep).map f)), ⟨n, Nat.zero_le _, rfl, h0, rfl⟩, ?_⟩
  rintro i m σ1 H2 ⟨h1, rfl, h2, rfl⟩
  rcases Nat.lt_or_ge i n with z | z
  · refine .inr ⟨z, ?_⟩
    rintro x H3 ⟨rfl, rfl⟩
    refine ht i z σ1 _ h2 (same_new hD) (fun σ2 y H6 => ∃ ys m', H6 D = some (.lst ys) ∧ ys.length < sizeLine ∧ m' < n - i ∧ (i + 1 ≤ n ∧ m' = n - (i + 1) ∧ S σ2 ∧ upd H6 D (.lst (ys ++ [y])) = upd H D (.lst (((List.range (i + 1)).filter keep).map f))))
      (fun σ2 H5 => ∃ m', m' < n - i ∧ (i + 1 ≤ n ∧ m' = n - (i + 1) ∧ S σ2 ∧ H5 = upd H D (.lst (((List.range (i + 1)).filter keep).map f)))) fun σ2 q3 => ?_
    by_cases hk : keep i = true
    · rw [if_pos hk]
      refine ⟨_, n - (i + 1), upd_same, ?_, by omega, by omega, rfl, q3, ?_⟩
      · rw [List.length_map]
        have := List.length_filter_le keep (List.range i)
        rw [List.length_range] at this
        exact Nat.lt_of_le_of_lt this (Nat.lt_of_lt_of_le (show i < 100000 by omega) (by decide))
      · rw [upd_upd', List.range_succ, List.filter_append, List.map_append, List.filter_cons_of_pos hk]; rfl
    · rw [if_neg hk]
      refine ⟨n - (i + 1), by omega, by omega, rfl, q3, ?_⟩
      rw [List.range_succ, List.filter_append, List.map_append, List.filter_cons_of_neg hk]; simp
  · have e : i = n := by omega
    subst e
    exact .inl ⟨Nat.le_refl _, hq⟩
end L2

end

section
namespace L2
open PySem PySem.W PySem.Spec PyProof.Rows
/-! ### try with two handlers without a name -/
/-! ### xs[lo:hi:step], a step ahead -/
section
variable {X : Cx} {e el eh es : Expr} {te tl th ts : TE} {p2 pos : Pos}
/-! ### sum(ints) -/
/-! ### (int, bool) != (int, bool) -/
end
end L2

end

section
namespace L2
open PySem PySem.W PySem.Spec PyProof.Rows
/-! ### C() where C has no __init__ of its own -/
structure Mk0 (K : PySem.W.Frag) (C : Addr) : Prop where
  makes : PySem.W.makesIn K C = true
  init : PySem.W.findIn K (.ref C) "__init__" = some (some (.builtin "object.__init__"))
  kp : PySem.W.keepIn K (.ref C) = true
section
variable {X : Cx} {C : Addr} {x : Str} {p pos : Pos}
theorem run_make0 {pins : List (Addr × Obj)} {σ : St} {H : Hp} {s : Shared} {Q : VK} (M : Mk0 X.K C) (I : Inv X pins σ H s) (h : ∀ x dx, H x = none → H dx = none → dx ≠ x → Q (.ref x) (upd (upd H dx (.own x)) x (.ins C dx []))) :
    wpAny (model X.prog X.w) X.A (call (.ref C) []) (EP X pins σ Q) X.xe s := by
  have hq := h (s.heap.objs.size + 1) s.heap.objs.size (I.hok.fresh (Nat.le_succ _)) (I.hok.fresh (Nat.le_refl _)) (Nat.ne_of_lt (Nat.lt_succ_self _))
  have I2 := Inv.made (C := C) I
  have Y := makes_of (M := model X.prog X.w) I.kIn M.makes
  refine wpAny_call (make_map0 I.kIn M.makes M.init (fun self => Looks.of_pure (oi_bind self)) ?_)
  have e2 : ((s.heap.push PySem.W.emptyDict).push (PySem.W.instObj C s.heap.objs.size)).get? (s.heap.objs.size + 1) = some (PySem.W.instObj C s.heap.objs.size) := by
    have := Heap.get?_push_size (s.heap.push PySem.W.emptyDict) (o := PySem.W.instObj C s.heap.objs.size) rfl
    rwa [Heap.size_push] at this
  have t1 : Looks (model X.prog X.w) ((s.heap.push PySem.W.emptyDict).push (PySem.W.instObj C s.heap.objs.size)) (typeOf (.ref (s.heap.objs.size + 1))) (.ref C) := (Looks.ld e2).andThen .now
  have t2 : Looks (model X.prog X.w) ((s.heap.push PySem.W.emptyDict).push (PySem.W.instObj C s.heap.objs.size)) (isInstance (.ref (s.heap.objs.size + 1)) (.type "object")) true := t1.andThen (Y.top.keeps fun b o e => Heap.get?_push_of_some _ (Heap.get?_push_of_some _ e))
  obtain ⟨hh, g, d, t, os⟩ := s
  refine codeAny_call_builtin oi_plain entry_oi (@check_slot (model X.prog X.w) _ _ _ "object.__init__" "object" "__init__" (.ref (hh.objs.size + 1)) [] [] _ oi_kind oi_split t2 (oi_args (.ref (hh.objs.size + 1))) ?_)
  rw [oi_run]
  exact wpAny_pure (And.intro rfl ⟨V.ref (hh.objs.size + 1), _, I2, rfl, hq⟩)
def tMake0 (C : Addr) : TE := fun _ H Q => ∀ x dx, H x = none → H dx = none → dx ≠ x → Q (.ref x) (upd (upd H dx (.own x)) x (.ins C dx []))
theorem pe_makeN0 (M : Mk0 X.K C) (hg : Gl X x) (hm : X.mg x = some (.ref C)) (hdb : (x == ("__debug__" : Str)) = false := by decide) : PE X (.Call (.Name x p) [] [] pos) (tMake0 C) := by
  intro pins s σ H Q I h
  refine wpAny_Call_Name_kw (ld_glob I hg hm ?_ hdb)
  exact PySem.W.callWith_K0 I.kIn M.kp (run_make0 M I h)
/-! ### list.remove(row) -/
/-! ### range(a, b, c), ahead -/
end
/-! ### lists of two lists of texts, == -/
section
variable {X : Cx}
end
end L2

end

section
namespace L2
open PySem PySem.W PySem.Spec PyProof.Rows
end L2

end

section
namespace L2
open PySem PySem.Spec PyProof.Rows
/-! ### signs in texts, kinds of signs -/
end L2

end

section
namespace L2
open PySem PySem.Spec
/-! ### how many unlike texts -/
def metT (val : Nat → Str) : Nat → List Str
  | 0 => []
  | i + 1 => if val i ∈ metT val i then metT val i else metT val i ++ [val i]
theorem metT_le (val : Nat → Str) : ∀ i, (metT val i).length ≤ i
  | 0 => Nat.le_refl _
  | i + 1 => by
    have ih := metT_le val i
    unfold metT
    split
    · omega
    · rw [List.length_append, List.length_singleton]; omega
theorem metT_mem (val : Nat → Str) (i : Nat) (k : Str) : (decide (k ∈ metT val i) || decide (k = val i)) = decide (k ∈ metT val (i + 1)) := by
  conv => rhs; unfold metT
  by_cases h : val i ∈ metT val i
  · rw [if_pos h]
    by_cases e : k = val i
    · subst e; simp [h]
    · simp [e]
  · rw [if_neg h]
    by_cases e : k = val i <;> simp [e]
theorem metT_len (val : Nat → Str) (i : Nat) : (if decide (val i ∈ metT val i) = true then (metT val i).length else (metT val i).length + 1) = (metT val (i + 1)).length := by
  conv => rhs; unfold metT
  by_cases h : val i ∈ metT val i
  · rw [if_pos h, if_pos (decide_eq_true h)]
  · rw [if_neg h, if_neg (by simpa using h), List.length_append]; rfl
section
variable {prog : Program} {w : World} {A : Around} {R : Result → Shared → Prop} {I : Addr} {fp wr : List Addr} {G : Array GenState → Array GenState → Prop} {n : Nat} {Pv : Nat → Value → Prop} {St : Nat → Shared → Prop}
abbrev TxtSet (prog : Program) (w : World) (h : Heap) (S : Addr) (val : Nat → Str) (i : Nat) : Prop := h.SetOf (PySem.strKind prog w) S (fun k => decide (k ∈ metT val i)) (metT val i).length
theorem TxtSet.keep {h h' : Heap} {S : Addr} {val : Nat → Str} {i : Nat} (t : TxtSet prog w h S val i) (k : ∀ o, h.get? S = some o → h'.get? S = some o) : TxtSet prog w h' S val i := by
  obtain ⟨o, es, ep, tb, ho, rest⟩ := t
  exact ⟨o, es, ep, tb, k o ho, rest⟩
theorem set_loopT (W : WalksS prog w A.in1 I fp wr G n Pv St) (S : Addr) (hSf : S ∉ fp) (val : Nat → Str) (hval : ∀ i v, Pv i v → ∃ t, v = .str (val i) t) (hb : n + 1 < scanBound) :
    ∀ (m i : Nat) (s : Shared), n - i = m → i ≤ n → St i s → TxtSet prog w s.heap S val i → (∀ s', Moved (S :: wr) G s s' → TxtSet prog w s'.heap S val n → R (.ok (.ret .none)) s') →
      codeAny (model prog w) A (.builtin "set.update.loop" ⟨[.ref S, .ref I], []⟩) R s := by
  have hSw : S ∉ wr := fun h => hSf (W.sub _ h)
  have up : ∀ b ∈ wr, b ∈ S :: wr := fun b h => List.mem_cons_of_mem _ h
  intro m
  induction m with
  | zero =>
    intro i s hm hi st hT hR
    obtain rfl : i = n := by omega
    refine codeAny_builtin PyProof.Rows.F.entry_set_update_loop ?_
    rw [Around.under_plainId PyProof.Rows.F.plain_set_update_loop _]
    refine wpAny_bind (m := pyNext (.ref I)) (W.done s _ _ st fun s' mv => ?_)
    exact wpAny_pure (hR s' (mv.mono up) (hT.keep fun o e => mv.heap S _ hSw e))
  | succ m ih =>
    intro i s hm hi st hT hR
    have hlt : i < n := by omega
    refine codeAny_builtin PyProof.Rows.F.entry_set_update_loop ?_
    rw [Around.under_plainId PyProof.Rows.F.plain_set_update_loop _]
    refine wpAny_bind (m := pyNext (.ref I)) (W.item i s _ _ hlt st fun v s' hP st' mv => ?_)
    obtain ⟨t, rfl⟩ := hval i v hP
    have hT' : TxtSet prog w s'.heap S val i := hT.keep fun o e => mv.heap S _ hSw e
    have his : (PySem.strKind prog w).is (val i) (.str (val i) t) = true := by simp [PySem.strKind, Value.isStrOf]
    refine wpAny_bind (m := holding [Value.str (val i) t] (setAdd S (.str (val i) t))) (wpAny_holding ?_)
    unfold setAdd
    refine wpAny_holding (wpAny_bind ((PySem.strKind prog w).pyHash (k := val i) his ?_))
    have room : (metT val i).length + 1 < scanBound := by have := metT_le val i; omega
    refine wpAny_setAddHashed_of (knd := PySem.strKind prog w) (s := { s' with toks := s'.toks + 1 }) his rfl hT' room fun h' sb hS2 => ?_
    have hT2 : TxtSet prog w h' S val (i + 1) := PyProof.Rows.SetOf_congr hS2 (fun k => metT_mem val i k) (metT_len val i)
    refine wpAny_pure ⟨plainId_quiet PyProof.Rows.F.plain_set_update_loop _, ih (i + 1) _ (by omega) hlt (W.frame _ s' _ _ st' (Nat.le_succ _) fun b hbf o e => ?_) hT2 fun s'' mv' hT3 => ?_⟩
    · rw [sb.2 b fun z : b = S => hSf (z ▸ hbf)]; exact e
    · refine hR s'' (Moved.trans W.gtrans ((mv.mono up).then_heap (Nat.le_succ _) fun b o hbn e => ?_) mv') hT3
      rw [sb.2 b fun z : b = S => hbn (by rw [z]; exact List.mem_cons_self)]; exact e
end
end L2

end

section
namespace L2
open PySem PySem.Spec
section
variable {prog : Program} {w : World} {A : Around} {E : Value → Shared → Prop} {s : Shared}
/-- the set as it is made -/
abbrev noSet (led : Bool) : Obj := { cls := .type "set", dict := none, data := .set #[] 0 (.fresh 0 0 led) }
abbrev setDone (prog : Program) (w : World) (s : Shared) (val : Nat → Str) (n : Nat) (r : Value) (s₂ : Shared) : Prop := r = .none ∧ ∃ h' tk, s₂ = { s with heap := h', toks := tk } ∧ TxtSet prog w h' s.heap.objs.size val n ∧ ∀ b o, b < s.heap.objs.size → s.heap.get? b = some o → h'.get? b = some o
def InitDone (prog : Program) (w : World) (A : Around) (E : Value → Shared → Prop) (s : Shared) (x : Value) (val : Nat → Str) (n : Nat) (led : Bool) : Prop :=
  wpAny (model prog w) A.in1.in1 (Builtin.«set.__init__» ⟨[.ref s.heap.objs.size, x], []⟩) (fun fin s' => match fin with
      | Fin.done f => wants (setDone prog w s val n) E (Except.ok f) s'
      | Fin.again c' => c'.quiet = true ∧ codeAny (model prog w) A.in1 c' (wants (setDone prog w s val n) E) s')
    (fun e s' => wants (setDone prog w s val n) E (Except.error e) s') { s with heap := s.heap.push (noSet led) }
set_option maxHeartbeats 3200000 in
/-- set(x), once its own init has been seen -/
theorem call_set_by {x : Value} {val : Nat → Str} {n : Nat} {Q : Value → Shared → Prop}
    (hin : ∀ led : Bool, InitDone prog w A E s x val n led)
    (h : ∀ h' tk, TxtSet prog w h' s.heap.objs.size val n → (∀ b o, b < s.heap.objs.size → s.heap.get? b = some o → h'.get? b = some o) → Q (.ref s.heap.objs.size) { s with heap := h', toks := tk }) :
    wpAny (model prog w) A (call (.type "set") [x]) Q E s := by
  obtain ⟨c, tl, hmro⟩ := F.called_set.mro
  have hmade := F.called_set.made
  have hsub := F.called_set.sub
  refine wpAny_call (codeAny_of_tree ?_)
  show wpAny _ _ (callAny (.type "set") _) _ _ _
  refine wpAny_pure ⟨Code.quiet_builtin _ (by decide +kernel), codeAny_builtin F.entry_type_call ?_⟩
  rw [Around.under_plain (weight_type_call_type "set" [x] []) rfl]
  have h1 := F.called_set.notType
  have h2 := F.called_set.canCreate
  have hct := F.typeCall_set_1 x
  repeat (any_goals (first | assumption | wp_step))
  refine codeAny_mono (PySem.code_set_new_1 x (E := E) (Q₁ := fun obj s₁ => ∃ led : Bool, obj = .ref s.heap.objs.size ∧ s₁ = { s with heap := s.heap.push (noSet led) }) fun led => ⟨led, rfl, rfl⟩) fun r s₁ hr => ?_
  cases r with
  | error e => exact hr
  | ok fl =>
    cases fl with
    | ret obj =>
      obtain ⟨led, rfl, rfl⟩ := hr
      have hS : (s.heap.push (noSet led)).get? s.heap.objs.size = some (noSet led) := Heap.get?_push_size _ rfl
      have hT : Shared.TypeIs { s with heap := s.heap.push (noSet led) } (.ref s.heap.objs.size) "set" := ⟨_, hS, rfl⟩
      have hli := F.called_set.init.lookup
      have hbi := F.called_set.init.bind (.ref s.heap.objs.size)
      repeat (any_goals (first | assumption | wp_step))
      refine codeAny_mono (codeAny_call_builtin (R := wants (setDone prog w s val n) E) F.called_set.init.plain F.entry_set_init (PySem.check_set_init_1 hT ?_)) fun r₂ s₂ hr₂ => ?_
      · exact hin led
      · cases r₂ with
        | error e => exact hr₂
        | ok fl₂ =>
          cases fl₂ with
          | ret r =>
            obtain ⟨rfl, h', tk, rfl, hS', hk'⟩ := hr₂
            repeat (any_goals (first | assumption | wp_step))
            exact h _ _ hS' hk'
          | _ => exact hr₂.elim
    | _ => exact hr.elim
set_option maxHeartbeats 3200000 in
theorem init_list {l : Addr} {items : Array Value} {val : Nat → Str} (hh : A.handled = none) (hl : s.heap.IsList l items) (hv : ∀ (i : Nat) (v : Value), items[i]? = some v → ∃ t, v = .str (val i) t) (hb : items.size + 1 < scanBound) (led : Bool) : InitDone prog w A E s (.ref l) val items.size led := by
  unfold InitDone
  obtain ⟨ol, hol, hcl, nl, hdl⟩ := hl
  obtain ⟨ocls, odict, odata, oslots⟩ := ol
  simp only at hcl hdl
  subst hcl; subst hdl
  have hS : (s.heap.push (noSet led)).get? s.heap.objs.size = some (noSet led) := Heap.get?_push_size _ rfl
  have hol' : (s.heap.push (noSet led)).get? l = some { cls := .type "list", dict := odict, data := .seq items nl, slots := oslots } := Heap.get?_push_of_some _ hol
  have hsls := F.sub_list_set
  have hslf := F.sub_list_frozenset
  have hne : (Value.type "list" == Value.type "dict") = false := by decide
  have hl1 : (s.heap.push (noSet led)).IsList l items := ⟨_, hol', rfl, nl, rfl⟩
  unfold Builtin.«set.__init__» noKeywords Builtin.Frozenset.updateFrom
  generalize hPI : pyIter = PI
  wp_walk
  subst hPI
  refine wpAny_pyIter_list hl1 ?_
  refine wpAny_bind (wpAny_runValue ?_)
  have hlS : l < s.heap.objs.size := Heap.lt_size hol
  have hh3 : A.in1.in1.in1.handled = none := by simp [hh]
  have hsz : (s.heap.push (noSet led)).objs.size = s.heap.objs.size + 1 := Heap.size_push ..
  have hne2 : l ≠ (s.heap.push (noSet led)).objs.size := by rw [hsz]; exact Nat.ne_of_lt (Nat.lt_succ_of_lt hlS)
  have hSf : s.heap.objs.size ∉ [(s.heap.push (noSet led)).objs.size, l] := fun z => by
    rw [hsz] at z
    rcases List.mem_cons.mp z with y | y
    · exact absurd y (Nat.ne_of_lt (Nat.lt_succ_self _))
    · exact absurd (List.mem_singleton.mp y) (Nat.ne_of_gt hlS)
  refine set_loopT ((Walks.list hh3 _ l hne2 items).toS) s.heap.objs.size hSf val hv hb items.size 0 _ (by omega) (Nat.zero_le _) ⟨⟨_, Heap.get?_push_size _ rfl, rfl, rfl⟩, hl1.push _⟩ ?_ ?_
  · exact PyProof.Rows.SetOf_congr ((PyProof.Rows.setObjOf_fresh (knd := PySem.strKind prog w) led).setOf (Heap.get?_push_of_some _ hS) (by unfold scanBound; omega)) (fun _ => rfl) rfl
  · intro s' hm hS'
    obtain ⟨h', g', d', tk', os'⟩ := s'
    have eg : g' = s.gens := hm.gens
    have ed : d' = s.drawn := hm.drawn
    have eo : os' = s.os := hm.os
    subst eg; subst ed; subst eo
    refine wpAny_pure ?_
    refine wpAny_pure (a := Fin.done (Flow.ret Value.none)) ⟨rfl, h', tk', rfl, hS', fun b o hbl e => ?_⟩
    refine hm.heap b o (fun z => ?_) (Heap.get?_push_of_some _ (Heap.get?_push_of_some _ e))
    rcases List.mem_cons.mp z with y | y
    · exact absurd y (Nat.ne_of_lt hbl)
    · rcases List.mem_cons.mp y with y | y
      · rw [hsz] at y; exact absurd y (Nat.ne_of_lt (Nat.lt_succ_of_lt hbl))
      · cases y
end
end L2

end

section
namespace L2
open PySem PySem.Spec
section
variable {prog : Program} {w : World} {A : Around} {E : Value → Shared → Prop} {s : Shared}
def signsOf (x : Str) (i : Nat) : Str := ⟨#[x.cps.getD i 0]⟩
set_option maxHeartbeats 3200000 in
theorem init_text {x : Str} {t : Tok} (hh : A.handled = none) (hb : x.cps.size + 1 < scanBound) (led : Bool) : InitDone prog w A E s (.str x t) (signsOf x) x.cps.size led := by
  unfold InitDone
  have hS : (s.heap.push (noSet led)).get? s.heap.objs.size = some (noSet led) := Heap.get?_push_size _ rfl
  have hsls := F.sub_str_set
  have hslf := F.sub_str_frozenset
  have hne : (Value.type "str" == Value.type "dict") = false := by decide
  unfold Builtin.«set.__init__» noKeywords Builtin.Frozenset.updateFrom
  generalize hPI : pyIter = PI
  wp_walk
  subst hPI
  have hsz : (s.heap.push (noSet led)).objs.size = s.heap.objs.size + 1 := Heap.size_push ..
  refine wpAny_pyIter_str (s := { s with heap := s.heap.push (noSet led) }) fun o St W st0 => ?_
  refine wpAny_bind (wpAny_runValue ?_)
  have hh3 : A.in1.in1.in1.handled = none := by simp [hh]
  have hSf : s.heap.objs.size ∉ [(s.heap.push (noSet led)).objs.size] := fun z => by
    rw [hsz] at z
    exact absurd (List.mem_singleton.mp z) (Nat.ne_of_lt (Nat.lt_succ_self _))
  refine set_loopT ((W _ hh3).toS) s.heap.objs.size hSf (signsOf x) (fun i v hv => ?_) hb x.cps.size 0 _ (by omega) (Nat.zero_le _) st0 ?_ ?_
  · obtain ⟨c, u, hc, rfl⟩ := hv
    refine ⟨u, ?_⟩
    unfold signsOf
    rw [Array.getD_eq_getD_getElem?, hc]; rfl
  · exact PyProof.Rows.SetOf_congr ((PyProof.Rows.setObjOf_fresh (knd := PySem.strKind prog w) led).setOf (Heap.get?_push_of_some _ hS) (by unfold scanBound; omega)) (fun _ => rfl) rfl
  · intro s' hm hS'
    obtain ⟨h', g', d', tk', os'⟩ := s'
    have eg : g' = s.gens := hm.gens
    have ed : d' = s.drawn := hm.drawn
    have eo : os' = s.os := hm.os
    subst eg; subst ed; subst eo
    refine wpAny_pure ?_
    refine wpAny_pure (a := Fin.done (Flow.ret Value.none)) ⟨rfl, h', tk', rfl, hS', fun b o' hbl e => ?_⟩
    refine hm.heap b o' (fun z => ?_) (Heap.get?_push_of_some _ (Heap.get?_push_of_some _ e))
    rcases List.mem_cons.mp z with y | y
    · exact absurd y (Nat.ne_of_lt hbl)
    · have y := List.mem_singleton.mp y
      rw [hsz] at y; exact absurd y (Nat.ne_of_lt (Nat.lt_succ_of_lt hbl))
theorem len_TxtSet {S : Addr} {val : Nat → Str} {i : Nat} {Q : Value → Shared → Prop} (hT : TxtSet prog w s.heap S val i) (h : Q (.int ((metT val i).length : Nat) (s.toks + 1)) { s with toks := s.toks + 1 + 1 }) : wpAny (model prog w) A (call (.builtin "len") [.ref S]) Q E s := by
  obtain ⟨o, es, ep, t, ho, hex, hd, _, _, hb, hf, hn⟩ := hT
  refine call_len_set ho hex hd hf (by unfold scanBound at hb; omega) ?_
  rw [hn]; exact h
end
section
variable {X : Cx} {pos p p2 pos2 : Pos} {e : Expr} {te : TE}
/-- a list of texts or a text, as the texts in it -/
def TextsOf (K : PySem.W.Frag) (H : Hp) (x : V) (val : Nat → Str) (n : Nat) : Prop := (∃ a, x = .ref a ∧ SqL K H a ((List.range n).map fun i => V.str (val i))) ∨ (∃ z, x = .str z ∧ n = z.cps.size ∧ val = signsOf z)
def tLenSet (K : PySem.W.Frag) (te : TE) : TE := fun σ H Q => te σ H fun x H1 => ∃ val n, TextsOf K H1 x val n ∧ n + 1 < scanBound ∧ Q (.int ((metT val n).length : Nat)) H1
theorem pe_lenset (hcm : X.calm = true) (hgl : Gl X "len") (hml : X.mg "len" = none) (hgs : Gl X "set") (hms : X.mg "set" = none) (he : PE X e te)
    (hs1 : starEach [.Call (.Name "set" p2) [e] [] pos2] X.env = [(false, eval (.Call (.Name "set" p2) [e] [] pos2) X.env)] := by rfl) (hs2 : starEach [e] X.env = [(false, eval e X.env)] := by rfl) :
    PE X (.Call (.Name "len" p) [.Call (.Name "set" p2) [e] [] pos2] [] pos) (tLenSet X.K te) := by
  intro pins s σ H Q I h
  refine wpAny_Call_Name_kw (ld_blt I hgl hml bo_len ?_ (by decide) (by decide))
  refine PyProof.Rows.callWith_builtin1 ?_ (hs1.trans rfl) rfl
  rw [hs1]
  show wpAny _ _ (spliced ((false, eval (.Call (.Name "set" p2) [e] [] pos2) X.env) :: [])) _ _ s
  refine Calls.spliced_cons (wpAny_Call_Name_kw (ld_blt I hgs hms (by decide +kernel : bootBuiltins "set" = some (.type "set")) ?_ (by decide) (by decide)))
  refine PyProof.Rows.callWith_type1 ?_ (hs2.trans rfl) rfl
  rw [hs2]
  show wpAny _ _ (spliced ((false, eval e X.env) :: [])) _ _ s
  refine Calls.spliced_cons (thn (he pins s σ H _ I h) fun u s1 ⟨x, H1, I1, r1, val, n, hx, hb, q⟩ => Calls.spliced_nil ?_)
  have fin : ∀ (h' : Heap) (tk : Nat), TxtSet X.prog X.w h' s1.heap.objs.size val n → (∀ b o, b < s1.heap.objs.size → s1.heap.get? b = some o → h'.get? b = some o) → wpAny (model X.prog X.w) X.A (spliced []) (fun vs s₁ => wpAny (model X.prog X.w) X.A (call (.builtin "len") (.ref s1.heap.objs.size :: vs)) (EP X pins σ Q) X.xe s₁) X.xe { s1 with heap := h', toks := tk } := fun h' tk hT hk => by
    refine Calls.spliced_nil (len_TxtSet (s := { s1 with heap := h', toks := tk }) hT ?_)
    exact ⟨.int _, H1, I1.kept (h' := h') (t' := tk + 1 + 1) fun b o eb => hk b o (Heap.lt_size eb) eb, ⟨_, rfl⟩, q⟩
  rcases hx with ⟨a, rfl, hq⟩ | ⟨z, rfl, rfl, rfl⟩
  · obtain rfl : u = Value.ref a := r1
    obtain ⟨its, rv, pl, hz⟩ := I1.list hq
    have hlen := rv.length
    rw [List.length_map, List.length_range] at hlen
    have hsz : its.toArray.size = n := by rw [List.size_toArray]; omega
    refine call_set_by (fun led => ?_) fin
    have hi := init_list (prog := X.prog) (w := X.w) (E := X.xe) (val := val) (I1.ok.hd hcm) pl.isList (fun i v hv => ?_) (by rw [hsz]; exact hb) led
    · rw [hsz] at hi; exact hi
    · have hv' : its[i]? = some v := by simpa using hv
      have hil : i < n := by rw [hlen]; exact (List.getElem?_eq_some_iff.mp hv').1
      obtain ⟨u, hu, ru⟩ := rv.get (i := i) (x := .str (val i)) (by rw [List.getElem?_map, List.getElem?_range hil]; rfl)
      rw [hv'] at hu; cases hu
      exact ru
  · obtain ⟨t, rfl⟩ := r1
    exact call_set_by (fun led => init_text (I1.ok.hd hcm) hb led) fin
end
end L2

end

section
namespace L2
open PySem PySem.W PySem.Spec PyProof.Rows
/-! ### C(..) that makes or refuses -/
section
variable {X : Cx} {CX : CXT} {k k1 k2 k' : Nat} {f C : Addr} {fd : FuncData} {x : Str} {ps : List Str} {sp sp1 sp2 : Sp} {e : Expr} {es : List Expr} {t : TA} {p pos : Pos} {E : St → XK}
end
/-! ### comprehensions over a text -/
theorem comp_strF {x : Str} {g : TG} {tc : TT} {te : TE} {Q : VK} {H : Hp} {D : Addr} {σ0 : St} (keep : Nat → Bool) (f : Nat → V) (S : St → Prop) (hz : x.cps.size ≤ sizeLine) (h0 : S σ0) (hD : H D = none)
    (ht : ∀ c, c ∈ x.cps.toList → ∀ σ1 H1, S σ1 → Same H H1 → ∀ (R : St → V → Hp → Prop) (R' : St → Hp → Prop), (∀ σ2, S σ2 → if keep c = true then R σ2 (f c) H1 else R' σ2 H1) → g (.str ⟨#[c]⟩) σ1 H1 fun σ2 H2 => tc σ2 H2 fun b H3 => if b = true then te σ2 H3 fun y H4 => R σ2 y H4 else R' σ2 H3)
    (hq : Q (.ref D) (upd H D (.lst ((x.cps.toList.filter keep).map f)))) :
    CompGo (Its x) g tc te Q σ0 H D := by
  have hn : x.cps.toList.length = x.cps.size := Array.length_toList
  refine ⟨fun i m σ1 H2 => i ≤ x.cps.size ∧ m = x.cps.size - i ∧ S σ1 ∧ H2 = upd H D (.lst (((x.cps.toList.take i).filter keep).map f)), ⟨x.cps.size, Nat.zero_le _, rfl, h0, rfl⟩, ?_⟩
  rintro i m σ1 H2 ⟨h1, rfl, h2, rfl⟩
  rcases Nat.lt_or_ge i x.cps.size with z | z
  · refine .inr ⟨z, ?_⟩
    rintro y H3 ⟨rfl, c, hc, rfl⟩
    have hc' : x.cps.toList[i]? = some c := by rw [Array.getElem?_toList]; exact hc
    refine ht c (List.mem_of_getElem? hc') σ1 _ h2 (same_new hD) (fun σ2 y H6 => ∃ ys m', H6 D = some (.lst ys) ∧ ys.length < sizeLine ∧ m' < x.cps.size - i ∧ (i + 1 ≤ x.cps.size ∧ m' = x.cps.size - (i + 1) ∧ S σ2 ∧ upd H6 D (.lst (ys ++ [y])) = upd H D (.lst (((x.cps.toList.take (i + 1)).filter keep).map f))))
      (fun σ2 H5 => ∃ m', m' < x.cps.size - i ∧ (i + 1 ≤ x.cps.size ∧ m' = x.cps.size - (i + 1) ∧ S σ2 ∧ H5 = upd H D (.lst (((x.cps.toList.take (i + 1)).filter keep).map f)))) fun σ2 q3 => ?_
    have et : x.cps.toList.take (i + 1) = x.cps.toList.take i ++ [c] := by rw [List.take_add_one, hc']; rfl
    by_cases hk : keep c = true
    · rw [if_pos hk]
      refine ⟨_, x.cps.size - (i + 1), upd_same, ?_, by omega, by omega, rfl, q3, ?_⟩
      · rw [List.length_map]
        have := List.length_filter_le keep (x.cps.toList.take i)
        rw [List.length_take] at this; omega
      · rw [upd_upd', et, List.filter_append, List.map_append, List.filter_cons_of_pos hk]; rfl
    · rw [if_neg hk]
      refine ⟨x.cps.size - (i + 1), by omega, by omega, rfl, q3, ?_⟩
      rw [et, List.filter_append, List.map_append, List.filter_cons_of_neg hk]; simp
  · have e : i = x.cps.size := by omega
    subst e
    rw [List.take_of_length_le (by omega)]
    exact .inl ⟨Nat.le_refl _, hq⟩
theorem comp_str {x : Str} {g : TG} {te : TE} {Q : VK} {H : Hp} {D : Addr} {σ0 : St} (f : Nat → V) (S : St → Prop) (hz : x.cps.size ≤ sizeLine) (h0 : S σ0) (hD : H D = none)
    (ht : ∀ c, c ∈ x.cps.toList → ∀ σ1 H1, S σ1 → Same H H1 → ∀ R : St → V → Hp → Prop, (∀ σ2, S σ2 → R σ2 (f c) H1) → g (.str ⟨#[c]⟩) σ1 H1 fun σ2 H2 => te σ2 H2 fun y H4 => R σ2 y H4)
    (hq : Q (.ref D) (upd H D (.lst (x.cps.toList.map f)))) :
    CompGo (Its x) g tYes te Q σ0 H D := by
  refine comp_strF (fun _ => true) f S hz h0 hD (fun c hc σ1 H1 hS hs R R' hR => ?_) (by rw [List.filter_eq_self.mpr fun _ _ => rfl]; exact hq)
  exact ht c hc σ1 H1 hS hs R fun σ2 h2 => by have := hR σ2 h2; rwa [if_pos rfl] at this
/-! ### a comprehension over a list whose elements may be anything new -/
theorem comp_listP {K : PySem.W.Frag} {a : Addr} {xs : List V} {g : TG} {te : TE} {Q : VK} {H : Hp} {D : Addr} {σ0 : St} (Pr : Nat → V → Hp → Prop) (S : St → Prop) (hm : ∀ i y H1 H2, (∀ b u, b ≠ D → H1 b = some u → H2 b = some u) → Pr i y H1 → Pr i y H2) (hz : xs.length ≤ 100000) (h0 : S σ0) (hD : H D = none) (hl : SqL K H a xs)
    (ht : ∀ i x, xs[i]? = some x → ∀ σ1 H1, S σ1 → Same H H1 → (∃ l, H1 D = some (.lst l)) → ∀ R : St → V → Hp → Prop, (∀ σ2 y H3, S σ2 → Same H1 H3 → (Closed H1 → Closed H3) → Pr i y H3 → R σ2 y H3) → g x σ1 H1 fun σ2 H2 => te σ2 H2 fun y H3 => R σ2 y H3)
    (hq : ∀ (ys : List V) (H' : Hp), ys.length = xs.length → Same H H' → (Closed H → Closed H') → H' D = some (.lst ys) → (∀ k y, ys[k]? = some y → Pr k y H') → Q (.ref D) H') :
    CompGo (Itl K a) g tYes te Q σ0 H D := by
  have clD : ∀ (H1 : Hp) (l l' : List V), H1 D = some (.lst l) → Closed H1 → Closed (upd H1 D (.lst l')) := fun H1 l l' h c b u e => by
    by_cases z : b = D
    · subst z; rw [upd_same] at e; cases e; trivial
    · rw [upd_ne z] at e
      have ow := c b u e
      clear e
      induction u with
      | ins C dx fs =>
        have x' : H1 dx = some (.own b) := ow
        show upd H1 D (.lst l') dx = some (.own b)
        rw [upd_ne fun z => by rw [z, h] at x'; cases x']
        exact x'
      | frz ob u ih => exact ih ow
      | _ => trivial
  refine ⟨fun i m σ1 H2 => i ≤ xs.length ∧ m = xs.length - i ∧ S σ1 ∧ Same H H2 ∧ (Closed H → Closed H2) ∧ ∃ ys : List V, ys.length = i ∧ H2 D = some (.lst ys) ∧ ∀ k y, ys[k]? = some y → Pr k y H2, ⟨xs.length, Nat.zero_le _, rfl, h0, same_new hD, fun c => closed_new c hD trivial, [], rfl, upd_same, fun k y h => nomatch h⟩, ?_⟩
  rintro i m σ1 H2 ⟨h1, rfl, h2, hs, hcl, ys, hy, hDv, hP⟩
  have hl2 := hs.seq hl
  rcases Nat.lt_or_ge i xs.length with z | z
  · refine .inr ⟨⟨xs, xs[i], hl2, List.getElem?_eq_getElem z⟩, ?_⟩
    rintro x H3 ⟨rfl, hx⟩
    have hx := hx xs hl2
    refine ht i x hx σ1 _ h2 hs ⟨_, hDv⟩ (fun σ2 y H6 => ∃ zs m', H6 D = some (.lst zs) ∧ zs.length < sizeLine ∧ m' < xs.length - i ∧ (i + 1 ≤ xs.length ∧ m' = xs.length - (i + 1) ∧ S σ2 ∧ Same H (upd H6 D (.lst (zs ++ [y]))) ∧ (Closed H → Closed (upd H6 D (.lst (zs ++ [y])))) ∧ ∃ ys : List V, ys.length = i + 1 ∧ upd H6 D (.lst (zs ++ [y])) D = some (.lst ys) ∧ ∀ k y', ys[k]? = some y' → Pr k y' (upd H6 D (.lst (zs ++ [y]))))) fun σ2 y H6 q3 hs6 hc6 hp6 => ?_
    have hD6 := hs6 _ _ hDv
    have up : ∀ b u, b ≠ D → H6 b = some u → upd H6 D (.lst (ys ++ [y])) b = some u := fun b u nb e => by rw [upd_ne nb]; exact e
    refine ⟨ys, xs.length - (i + 1), hD6, Nat.lt_of_lt_of_le (show ys.length < 100000 by omega) (by decide), by omega, by omega, rfl, q3, ?_, fun c => clD _ _ _ hD6 (hc6 (hcl c)), ys ++ [y], by rw [List.length_append, hy]; rfl, upd_same, ?_⟩
    · intro b u e
      rw [upd_ne (ne_of_none e hD)]
      exact hs6 b u (hs b u e)
    · intro k y' hk
      rcases Nat.lt_or_ge k ys.length with zk | zk
      · rw [List.getElem?_append_left zk] at hk
        exact hm k y' _ _ (fun b u nb e => up b u nb (hs6 b u e)) (hP k y' hk)
      · rw [List.getElem?_append_right zk] at hk
        have ek : k = ys.length := by
          rcases Nat.lt_or_ge (k - ys.length) 1 with w | w
          · omega
          · rw [List.getElem?_eq_none (by simpa using w)] at hk; cases hk
        subst ek
        rw [Nat.sub_self] at hk
        cases hk
        rw [hy]
        exact hm _ _ _ _ up hp6
  · have e : i = xs.length := by omega
    subst e
    exact .inl ⟨⟨xs, hl2, Nat.le_refl _⟩, hq ys H2 hy hs hcl hDv hP⟩
/-! ### what was reached: all is kept, and it is closed -/
structure Ext (H H' : Hp) : Prop where
  s : Same H H'
  c : Closed H → Closed H'
theorem Ext.refl (H : Hp) : Ext H H := ⟨Same.refl _, id⟩
theorem Ext.trans {A B C : Hp} (a : Ext A B) (b : Ext B C) : Ext A C := ⟨a.s.trans b.s, fun z => b.c (a.c z)⟩
theorem Ext.new {H : Hp} {p : Addr} {o : HO} (h : H p = none) (ho : OwnIn (upd H p o) p o) : Ext H (upd H p o) := ⟨same_new h, fun c => closed_new c h ho⟩
theorem Ext.lst {H : Hp} {p : Addr} {xs : List V} (h : H p = none) : Ext H (upd H p (.lst xs)) := .new h trivial
theorem Ext.tup {H : Hp} {p : Addr} {xs : List V} (h : H p = none) : Ext H (upd H p (.tup xs)) := .new h trivial
theorem Ext.made {H : Hp} {x dx C : Addr} {fs : List (Str × V)} (h1 : H x = none) (h2 : H dx = none) (h3 : dx ≠ x) : Ext H (upd (upd H dx (.own x)) x (.ins C dx fs)) := by
  have hx : upd H dx (.own x) x = none := by rw [upd_ne (Ne.symm h3)]; exact h1
  refine ⟨(same_new h2).trans (same_new hx), fun c => closed_new (closed_new c h2 trivial) hx ?_⟩
  show upd (upd H dx (.own x)) x (.ins C dx fs) dx = some (.own x)
  rw [upd_ne h3]; exact upd_same
theorem Ext.sub {H H' : Hp} (e : Ext H H') : Sub H H' H' := .all (fun b o h => ⟨o, e.s b o h⟩) e.c
/-! ### texts -/
theorem app_len (x y : Str) : (x ++ y).length = x.length + y.length := Array.size_append
/-- a text of at most n signs, all out of S -/
structure Tx (n : Nat) (S : List Nat) (x : Str) : Prop where
  n : x.length ≤ n
  s : ∀ c, c ∈ x.cps.toList → c ∈ S
/-- how many unlike texts -/
def dsN (ns : List Str) : Nat := (metT (fun i => ns.getD i Str.empty) ns.length).length
def dsT (s : Str) : Nat := (metT (signsOf s) s.cps.size).length
theorem dsN_le (ns : List Str) : dsN ns ≤ ns.length := metT_le ..
theorem dsT_le (s : Str) : dsT s ≤ s.length := metT_le ..
theorem names_range (ns : List Str) : ((List.range ns.length).map fun i => V.str (ns.getD i Str.empty)) = ns.map V.str := by
  apply List.ext_getElem
  · rw [List.length_map, List.length_range, List.length_map]
  · intro i h1 h2
    rw [List.length_map] at h2
    rw [List.getElem_map, List.getElem_map, List.getElem_range, List.getD_eq_getElem?_getD, List.getElem?_eq_getElem h2]; rfl
theorem texts_names {K : PySem.W.Frag} {H : Hp} {a : Addr} {ns : List Str} (h : SqL K H a (ns.map V.str)) : TextsOf K H (.ref a) (fun i => ns.getD i Str.empty) ns.length := .inl ⟨a, rfl, by rw [names_range]; exact h⟩
theorem texts_text {K : PySem.W.Frag} {H : Hp} (s : Str) : TextsOf K H (.str s) (signsOf s) s.cps.size := .inr ⟨s, rfl, rfl, rfl⟩
/-! ### what the forms ask of texts -/
def L26 : Str := "abcdefghijklmnopqrstuvwxyz"
def L62 : Str := "abcdefghijklmnopqrstuvwxyzABCDEFGHIJKLMNOPQRSTUVWXYZ0123456789"
def madeOf (t s : Str) : Bool := t.cps.toList.all fun c => decide (c ∈ s.cps.toList)
def goodText (s : Str) : Bool := decide (s.length ≠ 0 ∧ s.length ≤ 60 ∧ dsT s = s.length) && madeOf s L62
def isName (n : Str) : Bool := decide (0 < n.length ∧ n.length ≤ 12) && madeOf n L26
def goodNames (ns : List Str) : Bool := decide (ns.length ≠ 0 ∧ ns.length ≤ 20 ∧ dsN ns = ns.length) && ns.all isName
theorem join_len_le (sep : Str) (ys : List Str) (B : Nat) (h : ∀ y ∈ ys, y.length ≤ B) : (Txt.join sep ys).length ≤ ys.length * (B + sep.length) := by
  have key : ∀ (ys : List Str) (acc : Array Nat), (∀ y ∈ ys, y.length ≤ B) → (ys.foldl (fun acc p => acc ++ sep.cps ++ p.cps) acc).size ≤ acc.size + ys.length * (B + sep.length) := by
    intro ys
    induction ys with
    | nil => intro acc _; simp
    | cons y r ih =>
      intro acc h
      rw [List.foldl_cons]
      have h1 := ih (acc ++ sep.cps ++ y.cps) fun z hz => h z (List.mem_cons_of_mem _ hz)
      have h2 : y.cps.size ≤ B := h y (List.mem_cons_self ..)
      rw [Array.size_append, Array.size_append] at h1
      rw [List.length_cons, Nat.succ_mul]
      have h3 : sep.length = sep.cps.size := rfl
      omega
  cases ys with
  | nil => exact Nat.zero_le _
  | cons y r =>
    show (r.foldl (fun acc p => acc ++ sep.cps ++ p.cps) y.cps).size ≤ _
    have h1 := key r y.cps fun z hz => h z (List.mem_cons_of_mem _ hz)
    have h2 : y.cps.size ≤ B := h y (List.mem_cons_self ..)
    rw [List.length_cons, Nat.succ_mul]
    omega
theorem str_nil (s : Str) : s = Str.ofString "" ↔ s.length = 0 := by
  have e : Str.ofString "" = ⟨#[]⟩ := by decide +kernel
  rw [e]
  constructor
  · rintro rfl; rfl
  · intro h
    obtain ⟨c⟩ := s
    have : c = #[] := Array.eq_empty_of_size_eq_zero h
    rw [this]
theorem upd_swap {H : Hp} {a b : Addr} {x y : HO} (h : a ≠ b) : upd (upd H a x) b y = upd (upd H b y) a x := by
  funext c
  by_cases h1 : c = b
  · subst h1
    rw [upd_same, upd_ne (Ne.symm h), upd_same]
  · rw [upd_ne h1]
    by_cases h2 : c = a
    · subst h2
      rw [upd_same, upd_same]
    · rw [upd_ne h2, upd_ne h2, upd_ne h1]
theorem closed_lst {H : Hp} {D : Addr} {l l' : List V} (h : H D = some (.lst l)) (c : Closed H) : Closed (upd H D (.lst l')) := fun b u e => by
  by_cases z : b = D
  · subst z; rw [upd_same] at e; cases e; trivial
  · rw [upd_ne z] at e
    have ow := c b u e
    clear e
    induction u with
    | ins C dx fs =>
      have x' : H dx = some (.own b) := ow
      show upd H D (.lst l') dx = some (.own b)
      rw [upd_ne fun z => by rw [z, h] at x'; cases x']
      exact x'
    | frz ob u ih => exact ih ow
    | _ => trivial
theorem Ext.set {H H' : Hp} {D : Addr} {l l' : List V} (h0 : H D = none) (e : Ext H H') (h : H' D = some (.lst l)) : Ext H (upd H' D (.lst l')) :=
  ⟨fun b u q => by rw [upd_ne (ne_of_none q h0)]; exact e.s b u q, fun c => closed_lst h (e.c c)⟩
end L2

end

section
namespace L2
open PySem PySem.W PySem.Spec PyProof.Rows
/-! ### unlike texts -/
/-! ### names -/
theorem isName_len {n : Str} (h : isName n = true) : n.length ≤ 12 := by
  unfold isName at h
  simp only [Bool.and_eq_true, decide_eq_true_eq] at h
  exact h.1.2
theorem goodNames_mem {ns : List Str} (h : goodNames ns = true) : ns.length ≤ 20 ∧ ∀ n, n ∈ ns → n.length ≤ 12 := by
  unfold goodNames at h
  simp only [Bool.and_eq_true, decide_eq_true_eq, List.all_eq_true] at h
  exact ⟨h.1.2.1, fun n hn => isName_len (h.2 n hn)⟩
/-! ### all but one list is kept -/
structure Grow (p : Addr) (H H' : Hp) : Prop where
  k : ∀ b u, b ≠ p → H b = some u → H' b = some u
  l : ∃ ns : List Int, H' p = some (.lst (ns.map V.int)) ∧ ns.length ≤ 90
  c : Closed H → Closed H'
end L2

end

section
namespace L2
open PySem PySem.W PySem.Spec PyProof.Rows
section
variable {X : Cx}
/-! ### further calls -/
end
/-! ### forms, and how they are written -/
inductive Fm where
  | bare (k : Fin 4)
  | sp (a b : Int)
  | le (s : Str)
  | one (k : Fin 3) (f : Fm)
  | two (k : Fin 2) (ns : List Str) (fs : List Fm)
def cp (s : String) : List Nat := (Str.ofString s).cps.toList
def num (a : Int) : List Nat := (Str.ofString (toString a)).cps.toList
def bw (k : Fin 4) : Str := [Str.ofString "nothing", Str.ofString "truth", Str.ofString "whole", Str.ofString "fraction"][k]
def ow (k : Fin 3) : Str := [Str.ofString "maybe", Str.ofString "many", Str.ofString "turned"][k]
def tw (k : Fin 2) : Str := [Str.ofString "record", Str.ofString "choice"][k]
mutual
def sh : Fm → List Nat
  | .bare k => (bw k).cps.toList
  | .sp a b => cp "span" ++ (cp "(" ++ ((num a ++ (cp ", " ++ num b)) ++ cp ")"))
  | .le s => cp "letters" ++ (cp "(" ++ (s.cps.toList ++ cp ")"))
  | .one k f => (ow k).cps.toList ++ (cp "(" ++ (sh f ++ cp ")"))
  | .two k ns fs => (tw k).cps.toList ++ (cp "(" ++ (shs fs ns ++ cp ")"))
def shs : List Fm → List Str → List Nat
  | [], _ => []
  | f :: fs, ns => (ns.headD Str.empty).cps.toList ++ (cp " " ++ (sh f ++ (match fs with | [] => [] | _ :: _ => cp ", " ++ shs fs ns.tail)))
end
mutual
def ht : Fm → Nat
  | .bare _ => 1
  | .sp _ _ => 1
  | .le _ => 1
  | .one _ f => ht f + 1
  | .two _ _ fs => hts fs + 1
def hts : List Fm → Nat
  | [] => 0
  | f :: fs => max (ht f) (hts fs)
end
mutual
def okF : Fm → Prop
  | .bare _ => True
  | .sp a b => a ≤ b ∧ a.natAbs < 10 ^ 58 ∧ b.natAbs < 10 ^ 58
  | .le s => goodText s = true ∧ s.length ≤ 60
  | .one _ f => okF f
  | .two _ ns fs => goodNames ns = true ∧ ns.length = fs.length ∧ okFs fs
def okFs : List Fm → Prop
  | [] => True
  | f :: fs => okF f ∧ okFs fs
end
/-- the classes of forms -/
structure FC where
  b : Fin 4 → Addr
  s : Addr
  l : Addr
  o : Fin 3 → Addr
  t : Fin 2 → Addr
mutual
/-- the object o stands for the form; its objects are none of X -/
def FAt (c : FC) (X : List Addr) (H : Hp) : Fm → Addr → Prop
  | .bare k, o => o ∉ X ∧ ∃ dx, H o = some (.ins (c.b k) dx [])
  | .sp a b, o => o ∉ X ∧ ∃ dx, H o = some (.ins c.s dx [("low", .int a), ("high", .int b)])
  | .le s, o => o ∉ X ∧ ∃ dx, H o = some (.ins c.l dx [("signs", .str s)])
  | .one k f, o => o ∉ X ∧ ∃ dx i, H o = some (.ins (c.o k) dx [("inner", .ref i)]) ∧ FAt c X H f i
  | .two k ns fs, o => o ∉ X ∧ ∃ dx l1 l2 os, H o = some (.ins (c.t k) dx [("names", .ref l1), ("forms", .ref l2)]) ∧ l1 ∉ X ∧ l2 ∉ X ∧ H l1 = some (.lst (ns.map V.str)) ∧ H l2 = some (.lst (os.map V.ref)) ∧ FsAt c X H fs os
def FsAt (c : FC) (X : List Addr) (H : Hp) : List Fm → List Addr → Prop
  | [], os => os = []
  | f :: fs, os => ∃ o r, os = o :: r ∧ FAt c X H f o ∧ FsAt c X H fs r
end
/-! ### o.m(..) of an object of one of some classes -/
def AnyM (P : Program) (w : World) (K : PySem.W.Frag) (mg : Str → Option Value) (base : Heap) (k : Nat) (m : Str) (ps : List Str) {ι : Type} (cl : ι → Addr) (sp : ι → Sp) : Prop := ∀ i, MethOk P w K mg base k (cl i) m ps (sp i) ∧ Cls K (cl i)
section
variable {X : Cx} {k k' : Nat} {m : Str} {ps : List Str} {ι : Type} {cl : ι → Addr} {sp : ι → Sp} {e o : Expr} {es : List Expr} {t : TA} {ta : TE} {pos apos : Pos}
theorem pe_methAny {pl : Sem Bool} (h : AnyM X.prog X.w X.K X.mg X.base k m ps cl sp) (hr : Room k' X.A) (he : PE X o ta) (ha : PA X (e :: es) t) (hk : k ≤ k' := by decide)
    (hst : starEach (e :: es) X.env = (false, eval e X.env) :: starEach es X.env := by rfl) (hpl : (backTo pos (starEach es X.env)).any (·.1) = false := by rfl)
    (ht : eval (.Call (.Attribute o m apos) (e :: es) [] pos) X.env = (do
      let ov ← eval o X.env
      standAt apos.atName
      let (f, first) ← holding [ov] (getMethod ov m pl)
      callWith pos f first (backTo pos (starEach (e :: es) X.env)) (backToKw pos (keywordEach [] X.env))) := by rfl) :
    PE X (.Call (.Attribute o m apos) (e :: es) [] pos) (fun σ H Q => ta σ H fun x H1 => ∃ a i dx fs, x = .ref a ∧ H1 a = some (.ins (cl i) dx fs) ∧ fs.lookup m = none ∧ t σ H1 fun vs H2 => sp i (x :: vs) H2 Q E0) := by
  intro pins s σ H Q I hq
  refine PySem.W.methodCall_KW (pl := pl) (thn (he pins s σ H _ I hq) fun u s1 ⟨x, H1, I1, rx, a, i, dx, fs, ex, ea, l, q⟩ => ?_) ht
  subst ex
  obtain rfl : u = Value.ref a := rx
  obtain ⟨⟨f, fd, F, hb, hm⟩, c⟩ := h i
  refine getmeth_ok I1 ea c hm l ?_
  refine PySem.W.callWith_K (first := [.ref a]) (h₀ := X.base) I.ok.mod.kin hm.kp (thn (ha pos pins s1 σ H1 _ I1 q) fun us s2 ⟨vs, H2, I2, r, q2⟩ => ⟨I2.kIn, ?_⟩) hst hpl
  exact run_fn (us := .ref a :: us) (vs := .ref a :: vs) (dvs := []) (ds := []) F (hr.mono hk) hb .nil pass0 I2 (.cons rfl r) (by rw [List.append_nil]; exact q2)
end
/-! ### numbers as texts -/
/-! ### all but one object is kept -/
structure Mv (cu : Addr) (H H' : Hp) : Prop where
  k : ∀ b u, b ≠ cu → H b = some u → H' b = some u
  c : Closed H → Closed H'
mutual
theorem FAt.keep {c : FC} {X : List Addr} {H H' : Hp} (k : ∀ b u, b ∉ X → H b = some u → H' b = some u) : ∀ (f : Fm) {o : Addr}, FAt c X H f o → FAt c X H' f o
  | .bare i, o, h => by
    obtain ⟨n, dx, e⟩ := h
    exact ⟨n, dx, k _ _ n e⟩
  | .sp a b, o, h => by
    obtain ⟨n, dx, e⟩ := h
    exact ⟨n, dx, k _ _ n e⟩
  | .le s, o, h => by
    obtain ⟨n, dx, e⟩ := h
    exact ⟨n, dx, k _ _ n e⟩
  | .one i f, o, h => by
    obtain ⟨n, dx, j, e, q⟩ := h
    exact ⟨n, dx, j, k _ _ n e, FAt.keep k f q⟩
  | .two i ns fs, o, h => by
    obtain ⟨n, dx, l1, l2, os, e, n1, n2, e1, e2, q⟩ := h
    exact ⟨n, dx, l1, l2, os, k _ _ n e, n1, n2, k _ _ n1 e1, k _ _ n2 e2, FsAt.keep k fs q⟩
theorem FsAt.keep {c : FC} {X : List Addr} {H H' : Hp} (k : ∀ b u, b ∉ X → H b = some u → H' b = some u) : ∀ (fs : List Fm) {os : List Addr}, FsAt c X H fs os → FsAt c X H' fs os
  | [], os, h => h
  | f :: fs, os, h => by
    obtain ⟨o, r, e, q, q2⟩ := h
    exact ⟨o, r, e, FAt.keep k f q, FsAt.keep k fs q2⟩
end
mutual
theorem FAt.weak {c : FC} {X Y : List Addr} {H : Hp} (hs : ∀ x, x ∈ X → x ∈ Y) : ∀ (f : Fm) {o : Addr}, FAt c Y H f o → FAt c X H f o
  | .bare i, o, h => ⟨fun z => h.1 (hs _ z), h.2⟩
  | .sp a b, o, h => ⟨fun z => h.1 (hs _ z), h.2⟩
  | .le s, o, h => ⟨fun z => h.1 (hs _ z), h.2⟩
  | .one i f, o, h => by
    obtain ⟨n, dx, j, e, q⟩ := h
    exact ⟨fun z => n (hs _ z), dx, j, e, FAt.weak hs f q⟩
  | .two i ns fs, o, h => by
    obtain ⟨n, dx, l1, l2, os, e, n1, n2, e1, e2, q⟩ := h
    exact ⟨fun z => n (hs _ z), dx, l1, l2, os, e, fun z => n1 (hs _ z), fun z => n2 (hs _ z), e1, e2, FsAt.weak hs fs q⟩
theorem FsAt.weak {c : FC} {X Y : List Addr} {H : Hp} (hs : ∀ x, x ∈ X → x ∈ Y) : ∀ (fs : List Fm) {os : List Addr}, FsAt c Y H fs os → FsAt c X H fs os
  | [], os, h => h
  | f :: fs, os, h => by
    obtain ⟨o, r, e, q, q2⟩ := h
    exact ⟨o, r, e, FAt.weak hs f q, FsAt.weak hs fs q2⟩
end
theorem FsAt.len {c : FC} {X : List Addr} {H : Hp} : ∀ (fs : List Fm) {os : List Addr}, FsAt c X H fs os → os.length = fs.length
  | [], os, h => by
    obtain rfl : os = [] := h
    rfl
  | g :: fs, os, h => by
    obtain ⟨o', r, rfl, q, q2⟩ := h
    rw [List.length_cons, FsAt.len fs q2]; rfl
theorem ht_pos : ∀ f : Fm, 1 ≤ ht f
  | .bare _ => by rw [ht]; exact Nat.le_refl _
  | .sp _ _ => by rw [ht]; exact Nat.le_refl _
  | .le _ => by rw [ht]; exact Nat.le_refl _
  | .one _ f => by rw [ht]; omega
  | .two _ _ fs => by rw [ht]; omega
inductive Sl where
  | b (k : Fin 4) | s | l | o (k : Fin 3) | t (k : Fin 2)
def clS (c : FC) : Sl → Addr
  | .b k => c.b k
  | .s => c.s
  | .l => c.l
  | .o k => c.o k
  | .t k => c.t k
def slot : Fm → Sl
  | .bare k => .b k
  | .sp _ _ => .s
  | .le _ => .l
  | .one k _ => .o k
  | .two k _ _ => .t k
theorem FAt.ins {c : FC} {X : List Addr} {H : Hp} {m : Str} (h1 : (m == ("low" : Str)) = false) (h2 : (m == ("high" : Str)) = false) (h3 : (m == ("signs" : Str)) = false) (h4 : (m == ("inner" : Str)) = false) (h5 : (m == ("names" : Str)) = false) (h6 : (m == ("forms" : Str)) = false) :
    ∀ (f : Fm) {o : Addr}, FAt c X H f o → ∃ dx fs, H o = some (.ins (clS c (slot f)) dx fs) ∧ fs.lookup m = none
  | .bare i, o, h => by
    obtain ⟨n, dx, e⟩ := h
    exact ⟨dx, _, e, rfl⟩
  | .sp a b, o, h => by
    obtain ⟨n, dx, e⟩ := h
    exact ⟨dx, _, e, by simp [List.lookup, h1, h2]⟩
  | .le s, o, h => by
    obtain ⟨n, dx, e⟩ := h
    exact ⟨dx, _, e, by simp [List.lookup, h3]⟩
  | .one i f, o, h => by
    obtain ⟨n, dx, j, e, q⟩ := h
    exact ⟨dx, _, e, by simp [List.lookup, h4]⟩
  | .two i ns fs, o, h => by
    obtain ⟨n, dx, l1, l2, os, e, _⟩ := h
    exact ⟨dx, _, e, by simp [List.lookup, h5, h6]⟩
theorem comp_rangeI {lo : Int} {n : Nat} {g : TG} {te : TE} {Q : VK} {H : Hp} {D : Addr} {σ0 : St} (f : Nat → V) (S : St → Prop) (hn : n ≤ 100000) (h0 : S σ0) (hD : H D = none)
    (ht : ∀ i : Nat, i < n → ∀ σ1 H1, S σ1 → Same H H1 → ∀ R : St → V → Hp → Prop, (∀ σ2, S σ2 → R σ2 (f i) H1) → g (.int (lo + (i : Int))) σ1 H1 fun σ2 H2 => te σ2 H2 fun y H4 => R σ2 y H4)
    (hq : Q (.ref D) (upd H D (.lst ((List.range n).map f)))) : CompGo (Itr lo n) g tYes te Q σ0 H D := by
  refine comp_rangeF (fun _ => true) f S hn h0 hD (fun i hi σ1 H1 hS hs R R' hR => ?_) (by rw [List.filter_eq_self.mpr fun _ _ => rfl]; exact hq)
  exact ht i hi σ1 H1 hS hs R fun σ2 h2 => by have := hR σ2 h2; rwa [if_pos rfl] at this
end L2

end

section
namespace L2
open PySem PySem.W PySem.Spec PyProof.Rows
/-! ### values -/
inductive D where
  | non
  | bl (b : Bool)
  | int (i : Int)
  | str (s : Str)
  | tup (ds : List D)
  | lst (ds : List D)
mutual
def DAt (H : Hp) : D → V → Prop
  | .non, v => v = .non
  | .bl b, v => v = .bl b
  | .int i, v => v = .int i
  | .str s, v => v = .str s ∧ s.length ≤ 100000
  | .tup ds, v => ∃ a vs, v = .ref a ∧ H a = some (.tup vs) ∧ DsAt H ds vs ∧ vs.length ≤ 1000
  | .lst ds, v => ∃ a vs, v = .ref a ∧ H a = some (.lst vs) ∧ DsAt H ds vs ∧ vs.length ≤ 1000
def DsAt (H : Hp) : List D → List V → Prop
  | [], vs => vs = []
  | d :: ds, vs => ∃ v r, vs = v :: r ∧ DAt H d v ∧ DsAt H ds r
end
mutual
theorem DAt.same {H H' : Hp} (s : Same H H') : ∀ (d : D) {v : V}, DAt H d v → DAt H' d v
  | .non, v, h => h
  | .bl b, v, h => h
  | .int i, v, h => h
  | .str t, v, h => h
  | .tup ds, v, h => by
    obtain ⟨a, vs, e, eT, q, z⟩ := h
    exact ⟨a, vs, e, s _ _ eT, DsAt.same s ds q, z⟩
  | .lst ds, v, h => by
    obtain ⟨a, vs, e, eT, q, z⟩ := h
    exact ⟨a, vs, e, s _ _ eT, DsAt.same s ds q, z⟩
theorem DsAt.same {H H' : Hp} (s : Same H H') : ∀ (ds : List D) {vs : List V}, DsAt H ds vs → DsAt H' ds vs
  | [], vs, h => h
  | d :: ds, vs, h => by
    obtain ⟨v, r, e, q, q2⟩ := h
    exact ⟨v, r, e, DAt.same s d q, DsAt.same s ds q2⟩
end
theorem DsAt.len {H : Hp} : ∀ (ds : List D) {vs : List V}, DsAt H ds vs → vs.length = ds.length
  | [], vs, h => by
    obtain rfl : vs = [] := h
    rfl
  | g :: fs, vs, h => by
    obtain ⟨o', r, rfl, q, q2⟩ := h
    rw [List.length_cons, DsAt.len fs q2]; rfl
theorem DsAt.get {H : Hp} : ∀ (ds : List D) {vs : List V} {i : Nat} {v : V}, DsAt H ds vs → vs[i]? = some v → ∃ d, ds[i]? = some d ∧ DAt H d v
  | [], vs, i, v, h, e => by
    obtain rfl : vs = [] := h
    cases e
  | d :: ds, vs, 0, v, h, e => by
    obtain ⟨o', r, rfl, q, q2⟩ := h
    cases e
    exact ⟨d, rfl, q⟩
  | d :: ds, vs, i + 1, v, h, e => by
    obtain ⟨o', r, rfl, q, q2⟩ := h
    exact DsAt.get ds q2 e
def tyD : D → String
  | .non => "NoneType"
  | .bl _ => "bool"
  | .int _ => "int"
  | .str _ => "str"
  | .tup _ => "tuple"
  | .lst _ => "list"
theorem DAt.ty {K : PySem.W.Frag} {H : Hp} {d : D} {v : V} (h : DAt H d v) : TyOf K H v (.type (tyD d)) := by
  cases d with
  | non => obtain rfl : v = .non := h; exact .non
  | bl b => obtain rfl : v = .bl b := h; exact .bl b
  | int i => obtain rfl : v = .int i := h; exact .int i
  | str s => obtain ⟨rfl, _⟩ := h; exact .str s
  | tup ds => obtain ⟨a, vs, rfl, e, _⟩ := h; exact .tup e
  | lst ds => obtain ⟨a, vs, rfl, e, _⟩ := h; exact .lst e
/-- isinstance of a value, by its kind -/
def isK (d : D) (T : String) : Bool := tyD d == T || (tyD d == "bool" && T == "int")
theorem kit_tab (K : PySem.W.Frag) : ∀ a ∈ ["NoneType", "bool", "int", "str", "tuple", "list"], ∀ T ∈ ["int", "bool", "str", "tuple", "list"], PySem.W.kitOne K (.type a) (.type T) = some (a == T || (a == "bool" && T == "int")) := by
  intro a ha T hT
  have ha' : a = "NoneType" ∨ a = "bool" ∨ a = "int" ∨ a = "str" ∨ a = "tuple" ∨ a = "list" := by simpa using ha
  have hT' : T = "int" ∨ T = "bool" ∨ T = "str" ∨ T = "tuple" ∨ T = "list" := by simpa using hT
  rcases ha' with rfl | rfl | rfl | rfl | rfl | rfl <;> rcases hT' with rfl | rfl | rfl | rfl | rfl <;>
    first
    | exact kit_same ..
    | (unfold PySem.W.kitOne; rw [if_neg (by decide)]; unfold PySem.W.kitCls; kernel_rfl)
theorem kitD (K : PySem.W.Frag) (d : D) {T : String} (hT : T ∈ ["int", "bool", "str", "tuple", "list"]) : PySem.W.kitOne K (.type (tyD d)) (.type T) = some (isK d T) := by
  refine kit_tab K _ ?_ T hT
  cases d <;> simp [tyD]
section
variable {X : Cx}
def plainV : V → Bool
  | .non => true
  | .bl _ => true
  | .int _ => true
  | .str _ => true
  | .ref _ => true
  | _ => false
/-- x is False, x is True -/
theorem op_isB : OpR X (compareOp .Is) (fun x y H Q => ∃ b, y = .bl b ∧ plainV x = true ∧ Q (.bl (decide (x = .bl b))) H) := by
  intro pins s σ H x y v u Q I rx ry h
  obtain ⟨b, rfl, hx, q⟩ := h
  cases ry
  cases x with
  | non => cases rx; exact wpAny_pure (fin_bl I q (by cases b <;> rfl))
  | bl c => cases rx; cases b <;> cases c <;> exact wpAny_pure (fin_bl I q rfl)
  | int i => obtain ⟨t, rfl⟩ := rx; exact wpAny_pure (fin_bl I q (by cases b <;> rfl))
  | str i => obtain ⟨t, rfl⟩ := rx; exact wpAny_pure (fin_bl I q (by cases b <;> rfl))
  | ref a => cases rx; exact wpAny_pure (fin_bl I q (by cases b <;> rfl))
  | _ => cases hx
end
theorem DAt.plain {H : Hp} {d : D} {v : V} (h : DAt H d v) : plainV v = true := by
  cases d with
  | non => obtain rfl : v = .non := h; rfl
  | bl b => obtain rfl : v = .bl b := h; rfl
  | int i => obtain rfl : v = .int i := h; rfl
  | str s => obtain ⟨rfl, _⟩ := h; rfl
  | tup ds => obtain ⟨a, vs, rfl, e, _⟩ := h; rfl
  | lst ds => obtain ⟨a, vs, rfl, e, _⟩ := h; rfl
end L2

end

section
namespace L2
open PySem PySem.W PySem.Spec PyProof.Rows
section
variable {prog : Program} {w : World} {A : Around} {E : Value → Shared → Prop} {s : Shared}
/-! ### the next of a tuple's walk, as a source of a zip -/
theorem tupNext_item {it t : Addr} {i : Nat} {items : Array Value} {x : Value} {Q : Value → Shared → Prop} (hit : s.heap.IsTupleIter it t i) (ht : s.heap.IsTuple t items) (hx : items[i]? = some x) (hQ : ∀ h', h'.IsTupleIter it t (i + 1) → Heap.SameBut it s.heap h' → Q x { s with heap := h' }) :
    wpAny (model prog w) A (Builtin.SmallTypes.nextOf (.ref it)) Q E s := by
  have ty := hit.typeIs
  have hit' := hit
  obtain ⟨o, ho, hc, hd⟩ := hit
  obtain ⟨ot, hot, _, nt, hdt⟩ := ht
  unfold Builtin.SmallTypes.nextOf
  refine wpAny_bind (wpAny_callSpecial?_slot (name := Str.ofString "__next__") ty F.slot_tuple_iterator_next (wpAny_call_entry F.slot_tuple_iterator_next ty F.entry_tuple_iterator_next ?_ (F.args_tuple_iterator_next_1 _)))
  show wpAny _ _ (field (.ref it) 0 >>= _) _ _ s
  refine wpAny_bind (wpAny_field ho hd (x := .ref t) rfl ?_)
  have nn : ¬ ((Value.ref t == Value.none) = true) := Bool.false_ne_true
  show wpAny _ _ (if (Value.ref t == Value.none) = true then _ else _) _ _ s
  rw [if_neg nn]
  show wpAny _ _ (field (.ref it) 1 >>= _) _ _ s
  refine wpAny_bind (wpAny_field ho hd (x := .int i 0) rfl ?_)
  show wpAny _ _ (seqItems? (.ref t) >>= _) _ _ s
  refine wpAny_bind (wpAny_seqItems hot hdt ?_)
  simp only [Int.toNat_natCast, hx]
  refine wpAny_bind (wpAny_setField ho hd (by simp) (wpAny_pure ⟨x, rfl, wpAny_pure (hQ _ ⟨_, Heap.get?_update_self _ ho (Obj.isFreed_of_fields (Obj.data_mapFields hd _)), (Obj.cls_mapFields ..).trans hc, ?_⟩ (Heap.SameBut.update ..))⟩))
  rw [Obj.data_mapFields hd]; simp [rawInt]
theorem tupNext_end {it t : Addr} {i : Nat} {items : Array Value} {Q : Value → Shared → Prop} (hh : A.handled = none) (hit : s.heap.IsTupleIter it t i) (ht : s.heap.IsTuple t items) (hx : items[i]? = none) (hE : ∀ h' e, Heap.ExtBut it s.heap h' → (∃ o, h'.get? e = some o ∧ o.cls = .type "StopIteration") → E (.ref e) { s with heap := h' }) :
    wpAny (model prog w) A (Builtin.SmallTypes.nextOf (.ref it)) Q E s := by
  have ty := hit.typeIs
  obtain ⟨o, ho, hc, hd⟩ := hit
  obtain ⟨ot, hot, _, nt, hdt⟩ := ht
  unfold Builtin.SmallTypes.nextOf
  refine wpAny_bind (wpAny_callSpecial?_slot (name := Str.ofString "__next__") ty F.slot_tuple_iterator_next (wpAny_call_entry F.slot_tuple_iterator_next ty F.entry_tuple_iterator_next ?_ (F.args_tuple_iterator_next_1 _)))
  show wpAny _ _ (field (.ref it) 0 >>= _) _ _ s
  refine wpAny_bind (wpAny_field ho hd (x := .ref t) rfl ?_)
  have nn : ¬ ((Value.ref t == Value.none) = true) := Bool.false_ne_true
  show wpAny _ _ (if (Value.ref t == Value.none) = true then _ else _) _ _ s
  rw [if_neg nn]
  show wpAny _ _ (field (.ref it) 1 >>= _) _ _ s
  refine wpAny_bind (wpAny_field ho hd (x := .int i 0) rfl ?_)
  show wpAny _ _ (seqItems? (.ref t) >>= _) _ _ s
  refine wpAny_bind (wpAny_seqItems hot hdt ?_)
  simp only [Int.toNat_natCast, hx]
  refine wpAny_bind (wpAny_rule (wpAny_bind (wpAny_setField ho hd (by simp) ?_)))
  show wpAny _ _ (newExc (.type "StopIteration") [] >>= _) _ _ _
  refine wpAny_bind ?_
  simp only [newExc, newTuple]
  refine wpAny_bind (wpAny_newObj_type ?_ (by size_fits))
  refine wpAny_bind (m := firstArgMember _ _) (wpAny_of_eq (a := Value.none) (by first | rfl | (simp only [firstArgMember]; rfl)) ?_)
  refine wpAny_newObj_type ?_ (by size_fits)
  simp only [raiseNew]
  refine wpAny_bind (wpAny_handled ?_)
  first | rw [show A.in1.handled = none from hh] | rw [hh]
  exact wpAny_bind (wpAny_pure (wpAny_throw (hE _ _ (((Heap.SameBut.update ..).extBut.push _).push _) ⟨_, Heap.get?_push_size _ rfl, rfl⟩)))
end
theorem tupAt {h h' : Heap} {a : Addr} {items : Array Value} (x : h.IsTuple a items) (k : ∀ o, h.get? a = some o → h'.get? a = some o) : h'.IsTuple a items :=
  let ⟨o, ho, r⟩ := x; ⟨o, k o ho, r⟩
theorem tupIterAt {h h' : Heap} {a t : Addr} {i : Nat} (x : h.IsTupleIter a t i) (k : ∀ o, h.get? a = some o → h'.get? a = some o) : h'.IsTupleIter a t i :=
  let ⟨o, ho, r⟩ := x; ⟨o, k o ho, r⟩
theorem Draws.tup {prog : Program} {w : World} {A : Around} (hh : A.handled = none) (it t : Addr) (hne : t ≠ it) (items : Array Value) :
    Draws prog w A it [it, t] items.size (fun i v => items[i]? = some v) (fun i h => h.IsTupleIter it t i ∧ h.IsTuple t items) where
  live := fun _ _ st => let ⟨o, ho, _⟩ := st.1; ⟨o, ho⟩
  frame := fun _ _ _ st hk => ⟨tupIterAt st.1 fun o e => hk it (by simp) o e, tupAt st.2 fun o e => hk t (by simp) o e⟩
  item := fun i s Q E hi st hQ => tupNext_item st.1 st.2 (x := items[i]) (by simp [hi]) fun h' hit' hs' => hQ _ h' s.toks (by simp [hi]) ⟨hit', st.2.extBut hs'.extBut hne⟩ hs'
  done := fun s Q E st hE => tupNext_end hh st.1 st.2 (by simp) hE
/-! ### the next of a zip of two sources -/
/-- the objects of a zip lie apart from what its sources read -/
structure ZAp (z TI TO i1 i2 : Addr) (fp1 fp2 : List Addr) : Prop where
  TIz : TI ≠ z
  TOz : TO ≠ z
  i1z : i1 ≠ z
  i2z : i2 ≠ z
  TITO : TI ≠ TO
  TIi1 : TI ≠ i1
  TIi2 : TI ≠ i2
  TOi1 : TO ≠ i1
  TOi2 : TO ≠ i2
  z1 : z ∉ fp1
  o1 : TO ∉ fp1
  j1 : i2 ∉ fp1
  z2 : z ∉ fp2
  o2 : TO ∉ fp2
  j2 : i1 ∉ fp2
section
variable {prog : Program} {w : World} {A : Around} {E : Value → Shared → Prop} {s : Shared}
variable {z TI TO i1 i2 : Addr} {fp1 fp2 : List Addr} {n1 n2 i : Nat} {P1 P2 : Nat → Value → Prop} {S1 S2 : Nat → Heap → Prop}
theorem Draws.but {A : Around} {it b : Addr} {fp : List Addr} {n i : Nat} {P : Nat → Value → Prop} {St : Nat → Heap → Prop} (D : Draws prog w A it fp n P St) {h h' : Heap} (x : Heap.ExtBut b h h') (hb : b ∉ fp) (st : St i h) : St i h' :=
  D.frame i h h' st fun c hc o e => x c o (fun z => hb (z ▸ hc)) e
theorem zn_item {a b : Value} {Q : Value → Shared → Prop} (D1 : Draws prog w A i1 fp1 n1 P1 S1) (D2 : Draws prog w A i2 fp2 n2 P2 S2) (Z : ZAp z TI TO i1 i2 fp1 fp2) (hz : IsZip s.heap z TI TO .none) (hTI : IsPair s.heap TI (.ref i1) (.ref i2)) (hTO : IsPair s.heap TO a b) (l1 : i < n1) (l2 : i < n2) (t1 : S1 i s.heap) (t2 : S2 i s.heap)
    (hQ : ∀ x y h' tk, P1 i x → P2 i y → IsZip h' z TI TO (rawInt s.heap.objs.size) → IsPair h' TO x y → S1 (i + 1) h' → S2 (i + 1) h' → IsPair h' s.heap.objs.size x y → (∀ c o, c ≠ z → c ≠ TO → c ≠ i1 → c ≠ i2 → s.heap.get? c = some o → h'.get? c = some o) → Q (.ref s.heap.objs.size) { s with heap := h', toks := tk }) :
    wpAny (model prog w) A (Builtin.«zip.__next__» ⟨[.ref z], []⟩) (fun fin s' => ∃ v, fin = .done (.ret v) ∧ Q v s') E s := by
  show wpAny _ _ (field (.ref z) 2 >>= _) _ _ _
  refine wpAny_bind (wpAny_field hz rfl (x := .bool false) rfl ?_)
  show wpAny _ _ (field (.ref z) 3 >>= _) _ _ _
  refine wpAny_bind (wpAny_field hz rfl (x := .ref TI) rfl (wpAny_bind (wpAny_seqItems hTI rfl ?_)))
  show wpAny _ _ (Builtin.SmallTypes.ownedTupleIsFree (.ref z) >>= _) _ _ _
  refine wpAny_bind ?_
  unfold Builtin.SmallTypes.ownedTupleIsFree
  refine wpAny_bind (wpAny_field hz rfl (x := .none) rfl (wpAny_pure ?_))
  simp only [if_true]
  refine wpAny_bind (wpAny_rule (wpAny_bind (wpAny_field hz rfl (x := .ref TO) rfl (wpAny_bind (wpAny_setField_rec hz (by simp) fun ha za xa => ?_)))))
  replace za : IsZip ha z TI TO .ellipsis := za
  refine wpAny_bind ?_
  simp only [List.zipIdx_cons, List.zipIdx_nil, List.forIn_cons, List.forIn_nil]
  refine wpAny_bind (wpAny_bind (wpAny_onRaise ?_))
  show wpAny _ _ (Builtin.SmallTypes.nextOf (.ref i1) >>= _) _ _ _
  refine wpAny_bind (D1.item i _ _ _ l1 (Draws.but D1 xa.extBut Z.z1 t1) fun x hb tk1 p1 tb xb => wpAny_pure ?_)
  have ob : IsPair hb TO a b := xb.extBut _ _ Z.TOi1 (xa.extBut _ _ Z.TOz hTO)
  refine wpAny_bind (wpAny_seqItems ob rfl (wpAny_bind (wpAny_updateSeq_pair ob fun hc oc xc => ?_)))
  replace oc : IsPair hc TO x b := oc
  refine wpAny_bind (wpAny_letGo (wpAny_pure ?_))
  refine wpAny_bind (wpAny_bind (wpAny_onRaise ?_))
  show wpAny _ _ (Builtin.SmallTypes.nextOf (.ref i2) >>= _) _ _ _
  refine wpAny_bind (D2.item i _ _ _ l2 (Draws.but D2 xc.extBut Z.o2 (Draws.but D2 xb.extBut Z.j2 (Draws.but D2 xa.extBut Z.z2 t2))) fun y hd tk2 p2 td xd => wpAny_pure ?_)
  have od : IsPair hd TO x b := xd.extBut _ _ Z.TOi2 oc
  refine wpAny_bind (wpAny_seqItems od rfl (wpAny_bind (wpAny_updateSeq_pair od fun he oe xe => ?_)))
  replace oe : IsPair he TO x y := oe
  refine wpAny_bind (wpAny_letGo (wpAny_pure (wpAny_pure ?_)))
  refine wpAny_bind (wpAny_seqItems oe rfl (wpAny_bind (wpAny_newTuple ?_)))
  have sz : he.objs.size = s.heap.objs.size := by rw [xe.1, xd.1, xc.1, xb.1, xa.1]
  have ze : IsZip he z TI TO .ellipsis := xe.extBut _ _ Z.TOz.symm (xd.extBut _ _ Z.i2z.symm (xc.extBut _ _ Z.TOz.symm (xb.extBut _ _ Z.i1z.symm za)))
  have lz : z < he.objs.size := Heap.lt_size ze
  show wpAny _ _ (Builtin.SmallTypes.ownedTupleHandOut (.ref z) (.ref he.objs.size) >>= _) _ _ _
  refine wpAny_bind ?_
  unfold Builtin.SmallTypes.ownedTupleHandOut
  refine wpAny_bind (wpAny_setField_rec (show IsZip (he.push { cls := .type "tuple", data := .seq #[x, y] }) z TI TO .ellipsis from Heap.get?_push_of_some _ ze) (by simp) fun hf zf xf => ?_)
  replace zf : IsZip hf z TI TO (rawInt he.objs.size) := zf
  refine wpAny_setField_rec zf (by simp) fun hg zg xg => wpAny_pure ⟨_, rfl, ?_⟩
  replace zg : IsZip hg z TI TO (rawInt he.objs.size) := zg
  have up : Heap.ExtBut z he hg := fun c o c1 e => xg.extBut _ _ c1 (xf.extBut _ _ c1 (Heap.get?_push_of_some _ e))
  have pn : IsPair hg he.objs.size x y := xg.extBut _ _ (Nat.ne_of_gt lz) (xf.extBut _ _ (Nat.ne_of_gt lz) (Heap.get?_push_size _ rfl))
  have tf1 : S1 (i + 1) hg := Draws.but D1 up Z.z1 (Draws.but D1 xe.extBut Z.o1 (Draws.but D1 xd.extBut Z.j1 (Draws.but D1 xc.extBut Z.o1 tb)))
  have tf2 : S2 (i + 1) hg := Draws.but D2 up Z.z2 (Draws.but D2 xe.extBut Z.o2 td)
  show Q (.ref he.objs.size) _
  rw [sz] at zg pn ⊢
  exact hQ x y hg tk2 p1 p2 zg (up _ _ Z.TOz oe) tf1 tf2 pn fun c o c1 c2 c3 c4 e => up c o c1 (xe.extBut _ _ c2 (xd.extBut _ _ c4 (xc.extBut _ _ c2 (xb.extBut _ _ c3 (xa.extBut _ _ c1 e)))))
/-- one source is at its end: the first, or the second after the first gave -/
theorem zn_end {a b : Value} {Q : Fin → Shared → Prop} (D1 : Draws prog w A i1 fp1 n1 P1 S1) (D2 : Draws prog w A i2 fp2 n2 P2 S2) (Z : ZAp z TI TO i1 i2 fp1 fp2) (hz : IsZip s.heap z TI TO .none) (hTI : IsPair s.heap TI (.ref i1) (.ref i2)) (hTO : IsPair s.heap TO a b) (l : i = n1 ∨ (i < n1 ∧ i = n2)) (t1 : S1 i s.heap) (t2 : S2 i s.heap)
    (hE : ∀ h' e tk, (∀ c o, c ≠ z → c ≠ TO → c ≠ i1 → c ≠ i2 → s.heap.get? c = some o → h'.get? c = some o) → (∃ o, h'.get? e = some o ∧ o.cls = .type "StopIteration") → E (.ref e) { s with heap := h', toks := tk }) :
    wpAny (model prog w) A (Builtin.«zip.__next__» ⟨[.ref z], []⟩) Q E s := by
  show wpAny _ _ (field (.ref z) 2 >>= _) _ _ _
  refine wpAny_bind (wpAny_field hz rfl (x := .bool false) rfl ?_)
  show wpAny _ _ (field (.ref z) 3 >>= _) _ _ _
  refine wpAny_bind (wpAny_field hz rfl (x := .ref TI) rfl (wpAny_bind (wpAny_seqItems hTI rfl ?_)))
  show wpAny _ _ (Builtin.SmallTypes.ownedTupleIsFree (.ref z) >>= _) _ _ _
  refine wpAny_bind ?_
  unfold Builtin.SmallTypes.ownedTupleIsFree
  refine wpAny_bind (wpAny_field hz rfl (x := .none) rfl (wpAny_pure ?_))
  simp only [if_true]
  refine wpAny_bind (wpAny_rule (wpAny_bind (wpAny_field hz rfl (x := .ref TO) rfl (wpAny_bind (wpAny_setField_rec hz (by simp) fun ha za xa => ?_)))))
  replace za : IsZip ha z TI TO .ellipsis := za
  refine wpAny_bind ?_
  simp only [List.zipIdx_cons, List.zipIdx_nil, List.forIn_cons, List.forIn_nil]
  refine wpAny_bind (wpAny_bind (wpAny_onRaise ?_))
  show wpAny _ _ (Builtin.SmallTypes.nextOf (.ref i1) >>= _) _ _ _
  rcases l with rfl | ⟨l1, rfl⟩
  · refine wpAny_bind (D1.done _ _ _ (Draws.but D1 xa.extBut Z.z1 t1) fun hb e xb he => ?_)
    obtain ⟨oe, ge, ce⟩ := he
    have zb : IsZip hb z TI TO .ellipsis := xb _ _ Z.i1z.symm za
    have ez : e ≠ z := fun x => by subst x; rw [zb] at ge; cases ge; simp at ce
    exact wpAny_setField_rec zb (by simp) fun hc _ xc => hE hc e s.toks (fun c o c1 _ c3 _ g => xc.extBut _ _ c1 (xb _ _ c3 (xa.extBut _ _ c1 g))) ⟨oe, xc.extBut _ _ ez ge, ce⟩
  · refine wpAny_bind (D1.item i _ _ _ l1 (Draws.but D1 xa.extBut Z.z1 t1) fun x hb tk1 p1 tb xb => wpAny_pure ?_)
    have ob : IsPair hb TO a b := xb.extBut _ _ Z.TOi1 (xa.extBut _ _ Z.TOz hTO)
    refine wpAny_bind (wpAny_seqItems ob rfl (wpAny_bind (wpAny_updateSeq_pair ob fun hc oc xc => ?_)))
    refine wpAny_bind (wpAny_letGo (wpAny_pure ?_))
    refine wpAny_bind (wpAny_bind (wpAny_onRaise ?_))
    show wpAny _ _ (Builtin.SmallTypes.nextOf (.ref i2) >>= _) _ _ _
    refine wpAny_bind (D2.done _ _ _ (Draws.but D2 xc.extBut Z.o2 (Draws.but D2 xb.extBut Z.j2 (Draws.but D2 xa.extBut Z.z2 t2))) fun hd e xd he => ?_)
    obtain ⟨oe, ge, ce⟩ := he
    have zd : IsZip hd z TI TO .ellipsis := xd _ _ Z.i2z.symm (xc.extBut _ _ Z.TOz.symm (xb.extBut _ _ Z.i1z.symm za))
    have ez : e ≠ z := fun x => by subst x; rw [zd] at ge; cases ge; simp at ce
    exact wpAny_setField_rec zd (by simp) fun hf _ xf => hE hf e tk1 (fun c o c1 c2 c3 c4 g => xf.extBut _ _ c1 (xd _ _ c4 (xc.extBut _ _ c2 (xb.extBut _ _ c3 (xa.extBut _ _ c1 g))))) ⟨oe, xf.extBut _ _ ez ge, ce⟩
theorem zipNext_item {a b : Value} {Q : Option Value → Shared → Prop} (D1 : Draws prog w A.in1 i1 fp1 n1 P1 S1) (D2 : Draws prog w A.in1 i2 fp2 n2 P2 S2) (Z : ZAp z TI TO i1 i2 fp1 fp2) (hz : IsZip s.heap z TI TO .none) (hTI : IsPair s.heap TI (.ref i1) (.ref i2)) (hTO : IsPair s.heap TO a b) (l1 : i < n1) (l2 : i < n2) (t1 : S1 i s.heap) (t2 : S2 i s.heap)
    (hQ : ∀ x y h' tk, P1 i x → P2 i y → IsZip h' z TI TO (rawInt s.heap.objs.size) → IsPair h' TO x y → S1 (i + 1) h' → S2 (i + 1) h' → IsPair h' s.heap.objs.size x y → (∀ c o, c ≠ z → c ≠ TO → c ≠ i1 → c ≠ i2 → s.heap.get? c = some o → h'.get? c = some o) → Q (some (.ref s.heap.objs.size)) { s with heap := h', toks := tk }) :
    wpAny (model prog w) A (pyNext (.ref z)) Q E s := by
  have hT : s.TypeIs (.ref z) "zip" := ⟨_, hz, rfl⟩
  unfold pyNext
  exact wpAny_bind (wpAny_attempt (wpAny_callSpecial?_slot (name := Str.ofString "__next__") hT F.slot_zip_next (wpAny_call_entry F.slot_zip_next hT F.entry_zip_next (zn_item D1 D2 Z hz hTI hTO l1 l2 t1 t2 fun x y h' tk a1 a2 a3 a4 a5 a6 a7 a8 => wpAny_pure (hQ x y h' tk a1 a2 a3 a4 a5 a6 a7 a8)) (F.args_zip_next_1 _))))
theorem zipNext_end {a b : Value} {Q : Option Value → Shared → Prop} (D1 : Draws prog w A.in1 i1 fp1 n1 P1 S1) (D2 : Draws prog w A.in1 i2 fp2 n2 P2 S2) (Z : ZAp z TI TO i1 i2 fp1 fp2) (hz : IsZip s.heap z TI TO .none) (hTI : IsPair s.heap TI (.ref i1) (.ref i2)) (hTO : IsPair s.heap TO a b) (l : i = n1 ∨ (i < n1 ∧ i = n2)) (t1 : S1 i s.heap) (t2 : S2 i s.heap)
    (hQ : ∀ h' tk, (∀ c o, c ≠ z → c ≠ TO → c ≠ i1 → c ≠ i2 → s.heap.get? c = some o → h'.get? c = some o) → Q none { s with heap := h', toks := tk }) :
    wpAny (model prog w) A (pyNext (.ref z)) Q E s := by
  have hT : s.TypeIs (.ref z) "zip" := ⟨_, hz, rfl⟩
  unfold pyNext
  refine wpAny_bind (wpAny_attempt (wpAny_callSpecial?_slot (name := Str.ofString "__next__") hT F.slot_zip_next (wpAny_call_entry F.slot_zip_next hT F.entry_zip_next (zn_end D1 D2 Z hz hTI hTO l t1 t2 fun h' e tk hk he => ?_) (F.args_zip_next_1 _))))
  obtain ⟨o, ho, hc⟩ := he
  exact wpAny_bind (wpAny_isInstance (T := "StopIteration") (b := true) ⟨o, ho, hc⟩ isSubtype_stop (wpAny_pure (hQ _ _ hk)))
end
/-! ### for x, y in zip(a list, a tuple) -/
theorem zapLT {n a b : Nat} (h1 : a < n) (h2 : b < n) : ZAp (n + 4) (n + 2) (n + 3) n (n + 1) [n, a] [n + 1, b] := by
  have nm : ∀ {x y z : Nat}, x ≠ y → x ≠ z → x ∉ [y, z] := fun e1 e2 h => by
    rcases List.mem_cons.mp h with h | h
    · exact e1 h
    · exact e2 (List.mem_singleton.mp h)
  refine ⟨?_, ?_, ?_, ?_, ?_, ?_, ?_, ?_, ?_, nm ?_ ?_, nm ?_ ?_, nm ?_ ?_, nm ?_ ?_, nm ?_ ?_, nm ?_ ?_⟩ <;> (show (_ : Nat) ≠ _; omega)
section
variable {prog : Program} {w : World} {A : Around} {E : Value → Shared → Prop} {s : Shared}
abbrev zlt1 (h : Heap) (a : Addr) : Heap := h.push { cls := .type "list_iterator", data := .fields #[.ref a, .int 0 0] }
abbrev zlt2 (h : Heap) (a b : Addr) : Heap := (zlt1 h a).push { cls := .type "tuple_iterator", data := .fields #[.ref b, .int 0 0] }
abbrev zlt3 (h : Heap) (a b : Addr) : Heap := (zlt2 h a b).push { cls := .type "tuple", data := .seq #[.ref h.objs.size, .ref (zlt1 h a).objs.size] }
abbrev zlt4 (h : Heap) (a b : Addr) : Heap := (zlt3 h a b).push { cls := .type "tuple", data := .seq #[.none, .none] }
abbrev zlt5 (h : Heap) (a b : Addr) : Heap := (zlt4 h a b).push { cls := .type "zip", data := .fields #[.none, .bool false, .bool false, .ref (zlt2 h a b).objs.size, .ref (zlt3 h a b).objs.size] }
theorem zlt_new (a b : Addr) (xs ys : Array Value) :
    Meets (Builtin.«zip.__new__» ⟨[.type "zip", .ref a, .ref b], []⟩) (fun _ R s => s.heap.IsList a xs ∧ s.heap.IsTuple b ys ∧ R (.ok (.ret (.ref (zlt4 s.heap a b).objs.size))) { s with heap := zlt5 s.heap a b }) :=
  .of_wp fun prog w A R s h => by
    obtain ⟨hp, g, d, tk, os⟩ := s
    obtain ⟨e1, e2, h⟩ := h
    have hsub := sub_zip
    have m1 : Heap.IsList (Shared.heap ⟨hp, g, d, tk, os⟩) a xs := e1
    have m2 : Heap.IsTuple (Shared.heap ⟨hp.push { cls := .type "list_iterator", data := .fields #[.ref a, .int 0 0] }, g, d, tk, os⟩) b ys := Heap.IsTuple.push e2 _
    wp_walk using wpAny_pyIter_list m1, wpAny_pyIter_tuple m2
    exact ⟨_, rfl, h⟩
theorem call_zlt {a b : Addr} {xs ys : Array Value} {Q : Value → Shared → Prop} (e1 : s.heap.IsList a xs) (e2 : s.heap.IsTuple b ys)
    (h : ∀ h', IsZip h' (s.heap.objs.size + 4) (s.heap.objs.size + 2) (s.heap.objs.size + 3) .none → IsPair h' (s.heap.objs.size + 2) (.ref s.heap.objs.size) (.ref (s.heap.objs.size + 1)) → IsPair h' (s.heap.objs.size + 3) .none .none → h'.IsListIter s.heap.objs.size a 0 → h'.IsTupleIter (s.heap.objs.size + 1) b 0 → (∀ c o, s.heap.get? c = some o → h'.get? c = some o) → Q (.ref (s.heap.objs.size + 4)) { s with heap := h' }) :
    wpAny (model prog w) A (call (.type "zip") [.ref a, .ref b]) Q E s := by
  refine callType_new F.called_zip (by decide) (F.typeCall_zip_2 _ _) (F.newCall_zip_2 _ _) (fun obj => F.args_object_init_3 obj _ _) F.entry_zip_new (zlt_new a b xs ys) ⟨e1, e2, ?_⟩
  have up : ∀ {h : Heap} {c o o'}, h.get? c = some o → (h.push o').get? c = some o := fun e => Heap.get?_push_of_some _ e
  have s1 : (zlt1 s.heap a).objs.size = s.heap.objs.size + 1 := Heap.size_push ..
  have s2 : (zlt2 s.heap a b).objs.size = s.heap.objs.size + 2 := by rw [Heap.size_push, s1]
  have s3 : (zlt3 s.heap a b).objs.size = s.heap.objs.size + 3 := by rw [Heap.size_push, s2]
  have s4 : (zlt4 s.heap a b).objs.size = s.heap.objs.size + 4 := by rw [Heap.size_push, s3]
  have g5 : (zlt5 s.heap a b).get? (zlt4 s.heap a b).objs.size = some _ := Heap.get?_push_size _ rfl
  have g4 : (zlt5 s.heap a b).get? (zlt3 s.heap a b).objs.size = some _ := up (Heap.get?_push_size _ rfl)
  have g3 : (zlt5 s.heap a b).get? (zlt2 s.heap a b).objs.size = some _ := up (up (Heap.get?_push_size _ rfl))
  have g2 : (zlt5 s.heap a b).get? (zlt1 s.heap a).objs.size = some _ := up (up (up (Heap.get?_push_size _ rfl)))
  have g1 : (zlt5 s.heap a b).get? s.heap.objs.size = some _ := up (up (up (up (Heap.get?_push_size _ rfl))))
  show _ ∧ _
  rw [s2, s3, s4] at g5
  rw [s3] at g4
  rw [s1, s2] at g3
  rw [s1] at g2
  rw [s4]
  exact ⟨⟨_, g5, rfl⟩, h _ g5 g3 g4 ⟨_, g1, rfl, rfl⟩ ⟨_, g2, rfl, rfl⟩ fun c o e => up (up (up (up (up e))))⟩
end
def ItzT (K : PySem.W.Frag) (a b : Addr) (xs ys : List V) : It :=
  ⟨fun i H => SqL K H a xs ∧ SqT K H b ys ∧ i < min xs.length ys.length, fun i H x H' => ∃ (T : Addr) (u v : V), H T = none ∧ xs[i]? = some u ∧ ys[i]? = some v ∧ x = .ref T ∧ H' = upd H T (.tup [u, v]), fun i H => SqL K H a xs ∧ SqT K H b ys ∧ min xs.length ys.length ≤ i⟩
theorem isTuple_of {h : Heap} {a : Addr} {xs : Array Value} (x : IsTup h a xs) : h.IsTuple a xs := x
theorem turn_zipT {P : Program} {w : World} {K : PySem.W.Frag} {elts : List Expr} {k : Nat} {pos : Pos} (a b z TI TO i1 i2 : Addr) (xs ys : List V) (n1 : a ≠ i1) (n2 : b ≠ i2) (D : ZAp z TI TO i1 i2 [i1, a] [i2, b]) :
    Turn P w K (.Tuple elts k pos) (ItzT K a b xs ys) [z, TI, TO, i1, i2] z (fun i h => i ≤ min xs.length ys.length ∧ IsZip h z TI TO .none ∧ IsPair h TI (.ref i1) (.ref i2) ∧ (∃ a b, IsPair h TO a b) ∧ h.IsListIter i1 a i ∧ h.IsTupleIter i2 b i) where
  mem := by simp
  obj := fun i h st c hc => by
    obtain ⟨_, st1, st2, ⟨p, q, st3⟩, st4, st5⟩ := st
    rcases List.mem_cons.mp hc with e | hc
    · subst e; exact ⟨_, st1, fun v z => by cases z⟩
    rcases List.mem_cons.mp hc with e | hc
    · subst e; exact ⟨_, st2, fun v z => by cases z⟩
    rcases List.mem_cons.mp hc with e | hc
    · subst e; exact ⟨_, st3, fun v z => by cases z⟩
    rcases List.mem_cons.mp hc with e | hc
    · subst e
      obtain ⟨o, e, c, d⟩ := st4
      exact ⟨o, e, fun v z => by rw [d] at z; cases z⟩
    · obtain rfl := List.mem_singleton.mp hc
      obtain ⟨o, e, c, d⟩ := st5
      exact ⟨o, e, fun v z => by rw [d] at z; cases z⟩
  keep := fun i h h' st k => by
    obtain ⟨hi, st1, st2, ⟨p, q, st3⟩, st4, st5⟩ := st
    exact ⟨hi, k z (by simp) _ st1, k TI (by simp) _ st2, ⟨p, q, k TO (by simp) _ st3⟩, st4.at fun o e => k i1 (by simp) o e, tupIterAt st5 fun o e => k i2 (by simp) o e⟩
  item := by
    intro X hP hw hK hc i pins s σ H E I hf st hg
    subst hP hw hK
    obtain ⟨hq1, hq2, hi⟩ := hg
    obtain ⟨its1, rv1, p1, hz1⟩ := I.list hq1
    obtain ⟨its2, rv2, p2, hz2⟩ := I.tuple hq2
    have hlen1 := rv1.length
    have hlen2 := rv2.length
    obtain ⟨_, st1, st2, ⟨pa, pb, st3⟩, st4, st5⟩ := st
    have hh := I.ok.hd hc
    refine zipNext_item (i := i) (Draws.list (A := X.A.in1) hh i1 a n1 its1.toArray) (Draws.tup (A := X.A.in1) hh i2 b n2 its2.toArray) D st1 st2 st3 (by rw [List.size_toArray]; omega) (by rw [List.size_toArray]; omega) ⟨st4, p1.isList⟩ ⟨st5, isTuple_of p2⟩ fun u1 u2 h' tk hu1 hu2 c1 c2 c3 c4 c5 kk => ?_
    refine ⟨_, rfl, wpAny_letOwnedTupleGo_zip c1 fun h'' c1' xs' => ?_⟩
    have hu1' : its1[i]? = some u1 := by simpa using hu1
    have hu2' : its2[i]? = some u2 := by simpa using hu2
    have hy1 : xs[i]? = some (xs[i]'(by omega)) := List.getElem?_eq_getElem _
    have hy2 : ys[i]? = some (ys[i]'(by omega)) := List.getElem?_eq_getElem _
    obtain ⟨v1, hv1, ru1⟩ := rv1.get hy1
    obtain ⟨v2, hv2, ru2⟩ := rv2.get hy2
    rw [hu1'] at hv1; cases hv1
    rw [hu2'] at hv2; cases hv2
    have hT : s.heap.objs.size ≤ s.heap.objs.size := Nat.le_refl _
    have hTf := I.hok.fresh hT
    have lt : ∀ {c o}, s.heap.get? c = some o → c ≠ s.heap.objs.size := fun e => Nat.ne_of_lt (Heap.lt_size e)
    have nT2 : ∀ c ∈ [z, TI, TO, i1, i2], c ≠ s.heap.objs.size := fun c hcm => by
      rcases List.mem_cons.mp hcm with e | hcm
      · rw [e]; exact lt st1
      rcases List.mem_cons.mp hcm with e | hcm
      · rw [e]; exact lt st2
      rcases List.mem_cons.mp hcm with e | hcm
      · rw [e]; exact lt st3
      rcases List.mem_cons.mp hcm with e | hcm
      · rw [e]; obtain ⟨o, e, _⟩ := st4; exact lt e
      · rw [List.mem_singleton.mp hcm]; obtain ⟨o, e, _⟩ := st5; exact lt e
    have kz : Heap.ExtBut z h' h'' := xs'.extBut
    refine ⟨.ref s.heap.objs.size, upd H s.heap.objs.size (.tup [xs[i]'(by omega), ys[i]'(by omega)]), ?_, rfl, ⟨_, _, _, hTf, hy1, hy2, rfl, rfl⟩, ⟨by omega, c1', kz _ _ D.TIz (kk _ _ D.TIz D.TITO D.TIi1 D.TIi2 st2), ⟨_, _, kz _ _ D.TOz c2⟩, c3.1.extBut kz D.i1z, c4.1.extBut kz D.i2z⟩, fun c hcm => ?_⟩
    · refine I.turnedNew (ch := [z, TO, i1, i2]) (t' := tk) (fun c o hcn ec => ?_) (fun c hcm => hf c ?_) hT ?_
      · have nn : ∀ {d : Addr}, d ∈ [z, TO, i1, i2] → c ≠ d := fun hd e => hcn (e ▸ hd)
        exact kz c o (nn (by simp)) (kk c o (nn (by simp)) (nn (by simp)) (nn (by simp)) (nn (by simp)) ec)
      · rcases List.mem_cons.mp hcm with e | hcm
        · rw [e]; simp
        · exact List.mem_cons_of_mem _ (List.mem_cons_of_mem _ hcm)
      · refine ⟨by show 2 ≤ sizeLine; decide, [u1, u2], .cons ru1 (.cons ru2 .nil), ?_⟩
        exact ⟨_, kz _ _ (nT2 z (by simp)).symm c5, rfl, _, rfl⟩
    · rw [upd_ne (nT2 c hcm)]
      exact (hf c hcm).1
  done := by
    intro X hP hw hK hc i pins s σ H E I hf st hg
    subst hP hw hK
    obtain ⟨hq1, hq2, hi⟩ := hg
    obtain ⟨its1, rv1, p1, hz1⟩ := I.list hq1
    obtain ⟨its2, rv2, p2, hz2⟩ := I.tuple hq2
    have hlen1 := rv1.length
    have hlen2 := rv2.length
    obtain ⟨hle, st1, st2, ⟨pa, pb, st3⟩, st4, st5⟩ := st
    have hh := I.ok.hd hc
    refine zipNext_end (i := i) (Draws.list (A := X.A.in1) hh i1 a n1 its1.toArray) (Draws.tup (A := X.A.in1) hh i2 b n2 its2.toArray) D st1 st2 st3 (by rw [List.size_toArray, List.size_toArray]; omega) ⟨st4, p1.isList⟩ ⟨st5, isTuple_of p2⟩ fun h' tk kk => ⟨rfl, I.turnedL (ch := [z, TO, i1, i2]) (t' := tk) (fun c o hcn ec => ?_) fun c hcm => hf c ?_⟩
    · have nn : ∀ {d : Addr}, d ∈ [z, TO, i1, i2] → c ≠ d := fun hd e => hcn (e ▸ hd)
      exact kk c o (nn (by simp)) (nn (by simp)) (nn (by simp)) (nn (by simp)) ec
    · rcases List.mem_cons.mp hcm with e | hcm
      · rw [e]; simp
      · exact List.mem_cons_of_mem _ (List.mem_cons_of_mem _ hcm)
  self := fun A i s Q E st h => wpAny_pyIter_zip st.2.1 h
section
variable {X : Cx}
def iZipT (K : PySem.W.Frag) (ta : TA) : TI := fun σ H R => ta σ H fun vs H1 => ∃ a b xs ys, vs = [.ref a, .ref b] ∧ SqL K H1 a xs ∧ SqT K H1 b ys ∧ R (ItzT K a b xs ys) H1
theorem pi_zipT {l m : Expr} {ta : TA} {p pos : Pos} {elts : List Expr} {k : Nat} {tpos : Pos} (hg : Gl X "zip") (hm : X.mg "zip" = none) (ha : PA X [l, m] ta) (hs : starEach [l, m] X.env = [(false, eval l X.env), (false, eval m X.env)] := by rfl) (hs2 : starEach [m] X.env = [(false, eval m X.env)] := by rfl) :
    PI X (.Tuple elts k tpos) (.Call (.Name "zip" p) [l, m] [] pos) (iZipT X.K ta) := by
  intro pins s σ H R I h
  refine Call_ (ld_blt I hg hm boot_zip (PyProof.Rows.callWith_type1 (thn (ha pos pins s σ H (fun vs H1 => ∃ a b xs ys, vs = [.ref a, .ref b] ∧ SqL X.K H1 a xs ∧ SqT X.K H1 b ys ∧ R (ItzT X.K a b xs ys) H1) I h) fun us s1 ⟨vs, H1, I1, r1, q1⟩ => ?_) (by rw [hs, hs2]) (by rw [hs2]; rfl)))
  obtain ⟨a, b, xs, ys, rfl, hq1, hq2, q⟩ := q1
  obtain ⟨u1, u2, rfl, ru1, ru2⟩ := vals2 r1
  obtain rfl : u1 = Value.ref a := ru1
  obtain rfl : u2 = Value.ref b := ru2
  obtain ⟨its1, rv1, p1, hz1⟩ := I1.list hq1
  obtain ⟨its2, rv2, p2, hz2⟩ := I1.tuple hq2
  have l1 : a < s1.heap.objs.size := by obtain ⟨o, ho, _⟩ := p1.isList; exact Heap.lt_size ho
  have l2 : b < s1.heap.objs.size := by obtain ⟨o, ho, _⟩ := isTuple_of p2; exact Heap.lt_size ho
  refine call_zlt p1.isList (isTuple_of p2) fun h' z1 z2 z3 z4 z5 kk => ?_
  have I2 : Inv X pins σ H1 { s1 with heap := h' } := I1.kept (t' := s1.toks) kk
  refine wpAny_pyIter_zip z1 ?_
  refine ⟨_, _, _, _, H1, rfl, I2, turn_zipT a b _ _ _ _ _ xs ys (Nat.ne_of_lt l1) (Nat.ne_of_lt (Nat.lt_succ_of_lt l2)) (zapLT l1 l2), ⟨Nat.zero_le _, z1, z2, ⟨_, _, z3⟩, z4, z5⟩, fun c hc => ?_, q⟩
  have hcl : s1.heap.objs.size ≤ c := by
    rcases List.mem_cons.mp hc with e | hc
    · rw [e]; exact Nat.le_add_right ..
    rcases List.mem_cons.mp hc with e | hc
    · rw [e]; exact Nat.le_add_right ..
    rcases List.mem_cons.mp hc with e | hc
    · rw [e]; exact Nat.le_add_right ..
    rcases List.mem_cons.mp hc with e | hc
    · rw [e]; exact Nat.le_refl _
    · rw [List.mem_singleton.mp hc]; exact Nat.le_succ _
  exact I1.fpOk hcl (I1.hok.fresh hcl)
end
/-- a comprehension over pairs of a list and a tuple -/
theorem comp_zipT {K : PySem.W.Frag} {a b : Addr} {xs ys : List V} {g : TG} {te : TE} {Q : VK} {H : Hp} {D : Addr} {σ0 : St} (fe : Nat → V) (S : St → Prop) (hz : min xs.length ys.length ≤ 100000) (h0 : S σ0) (hD : H D = none) (hl1 : SqL K H a xs) (hl2 : SqT K H b ys)
    (ht : ∀ i x y, xs[i]? = some x → ys[i]? = some y → ∀ σ1 H1 T, S σ1 → Same H H1 → H1 T = none → ∀ R : St → V → Hp → Prop, (∀ σ2 H3, S σ2 → Same (upd H1 T (.tup [x, y])) H3 → R σ2 (fe i) H3) → g (.ref T) σ1 (upd H1 T (.tup [x, y])) fun σ2 H2 => te σ2 H2 fun z H3 => R σ2 z H3)
    (hq : ∀ H' : Hp, Same H H' → H' D = some (.lst ((List.range (min xs.length ys.length)).map fe)) → Q (.ref D) H') :
    CompGo (ItzT K a b xs ys) g tYes te Q σ0 H D := by
  refine ⟨fun i m σ1 H2 => i ≤ min xs.length ys.length ∧ m = min xs.length ys.length - i ∧ S σ1 ∧ Same H H2 ∧ H2 D = some (.lst ((List.range i).map fe)), ⟨min xs.length ys.length, Nat.zero_le _, rfl, h0, same_new hD, upd_same⟩, ?_⟩
  rintro i m σ1 H2 ⟨h1, rfl, h2, hs, hDv⟩
  have q1 := hs.seq hl1
  have q2 : SqT K H2 b ys := hl2.elim (fun e => .inl (e.elim (fun e => .inl (hs _ _ e)) fun ⟨o, e⟩ => .inr ⟨o, hs _ _ e⟩)) .inr
  rcases Nat.lt_or_ge i (min xs.length ys.length) with z | z
  · refine .inr ⟨⟨q1, q2, z⟩, ?_⟩
    rintro x H3 ⟨T, u, v, hT, hu, hv, rfl, rfl⟩
    refine ht i u v hu hv σ1 H2 T h2 hs hT (fun σ2 y H6 => ∃ zs m', H6 D = some (.lst zs) ∧ zs.length < sizeLine ∧ m' < min xs.length ys.length - i ∧ (i + 1 ≤ min xs.length ys.length ∧ m' = min xs.length ys.length - (i + 1) ∧ S σ2 ∧ Same H (upd H6 D (.lst (zs ++ [y]))) ∧ upd H6 D (.lst (zs ++ [y])) D = some (.lst ((List.range (i + 1)).map fe)))) fun σ2 H6 q3 hs6 => ?_
    have nDT : D ≠ T := fun e => by rw [e, hT] at hDv; cases hDv
    refine ⟨(List.range i).map fe, min xs.length ys.length - (i + 1), hs6 _ _ (by rw [upd_ne nDT]; exact hDv), ?_, by omega, by omega, rfl, q3, ?_, ?_⟩
    · rw [List.length_map, List.length_range]
      exact Nat.lt_of_lt_of_le (show i < 100000 by omega) (by decide)
    · intro c o e
      rw [upd_ne (ne_of_none e hD)]
      refine hs6 c o ?_
      rw [upd_ne (fun e' => by rw [e', hs.free hT] at e; cases e)]
      exact hs c o e
    · rw [upd_same, List.range_succ, List.map_append]; rfl
  · have e : i = min xs.length ys.length := by omega
    subst e
    exact .inl ⟨⟨q1, q2, Nat.le_refl _⟩, hq H2 hs hDv⟩
/-! ### a value in a list of texts -/
section
variable {X : Cx}
end
/-! ### forms, further -/
theorem slot_bare {f : Fm} {k : Fin 4} (h : slot f = .b k) : f = .bare k := by
  cases f with
  | bare j => injection h with h; rw [h]
  | sp a b => cases h
  | le s => cases h
  | one j f => cases h
  | two j ns fs => cases h
theorem slot_sp {f : Fm} (h : slot f = .s) : ∃ a b, f = .sp a b := by
  cases f with
  | sp a b => exact ⟨a, b, rfl⟩
  | bare j => cases h
  | le s => cases h
  | one j f => cases h
  | two j ns fs => cases h
theorem slot_le {f : Fm} (h : slot f = .l) : ∃ s, f = .le s := by
  cases f with
  | le s => exact ⟨s, rfl⟩
  | sp a b => cases h
  | bare j => cases h
  | one j f => cases h
  | two j ns fs => cases h
theorem slot_one {f : Fm} {k : Fin 3} (h : slot f = .o k) : ∃ g, f = .one k g := by
  cases f with
  | one j g => injection h with h; rw [h]; exact ⟨g, rfl⟩
  | sp a b => cases h
  | bare j => cases h
  | le s => cases h
  | two j ns fs => cases h
theorem slot_two {f : Fm} {k : Fin 2} (h : slot f = .t k) : ∃ ns fs, f = .two k ns fs := by
  cases f with
  | two j ns fs => injection h with h; rw [h]; exact ⟨ns, fs, rfl⟩
  | sp a b => cases h
  | bare j => cases h
  | le s => cases h
  | one j f => cases h
theorem FsAt.get {c : FC} {X : List Addr} {H : Hp} : ∀ (fs : List Fm) {os : List Addr} {i : Nat} {o : Addr}, FsAt c X H fs os → os[i]? = some o → ∃ f, fs[i]? = some f ∧ FAt c X H f o
  | [], os, i, o, h, e => by
    obtain rfl : os = [] := h
    cases e
  | f :: fs, os, 0, o, h, e => by
    obtain ⟨o', r, rfl, q, q2⟩ := h
    cases e
    exact ⟨f, rfl, q⟩
  | f :: fs, os, i + 1, o, h, e => by
    obtain ⟨o', r, rfl, q, q2⟩ := h
    exact FsAt.get fs q2 e
theorem okFs_get : ∀ {fs : List Fm} {i : Nat} {f : Fm}, okFs fs → fs[i]? = some f → okF f ∧ ht f ≤ hts fs
  | [], i, f, h, e => by cases e
  | g :: fs, 0, f, h, e => by
    cases e
    rw [okFs] at h
    rw [hts]
    exact ⟨h.1, Nat.le_max_left ..⟩
  | g :: fs, i + 1, f, h, e => by
    rw [okFs] at h
    have := okFs_get h.2 e
    rw [hts]
    exact ⟨this.1, Nat.le_trans this.2 (Nat.le_max_right ..)⟩
theorem fin4 : ∀ k : Fin 4, k = 0 ∨ k = 1 ∨ k = 2 ∨ k = 3 := by decide
theorem fin3 : ∀ k : Fin 3, k = 0 ∨ k = 1 ∨ k = 2 := by decide
theorem fin2 : ∀ k : Fin 2, k = 0 ∨ k = 1 := by decide
section
variable {P : Program} {w : World} {K : PySem.W.Frag} {mg : Str → Option Value} {base : Heap}
structure MethAt (K : PySem.W.Frag) (C : Addr) (m qual : Str) (st : Stmt) (ps : List Str) : Prop where
  ex : ∃ f fd, Fun K m qual st f fd ∧ Binds K fd ps [] ∧ Meth K C m f
  cl : Cls K C
theorem meth_none {C : Addr} {m qual : Str} {st : Stmt} {ps : List Str} {k : Nat} {sp : Sp} (M : MethAt K C m qual st ps) (h : ∀ vs H Q E, ¬ sp vs H Q E) : MethOk P w K mg base k C m ps sp := by
  obtain ⟨f, fd, F, hb, hm⟩ := M.ex
  exact ⟨f, fd, ⟨fun vs H Q E q => absurd q (h _ _ _ _), fun A outer s H args us vs Q E _ _ _ _ q => absurd q (h _ _ _ _)⟩, hb, hm⟩
end
/-! ### forms of some kinds only -/
mutual
def inS (has : Sl → Bool) : Fm → Prop
  | .bare k => has (.b k) = true
  | .sp _ _ => has .s = true
  | .le _ => has .l = true
  | .one k f => has (.o k) = true ∧ inS has f
  | .two k _ fs => has (.t k) = true ∧ inSs has fs
def inSs (has : Sl → Bool) : List Fm → Prop
  | [] => True
  | f :: fs => inS has f ∧ inSs has fs
end
theorem inS.slot {has : Sl → Bool} {f : Fm} (h : inS has f) : has (slot f) = true := by
  cases f with
  | bare k => rw [inS] at h; exact h
  | sp a b => rw [inS] at h; exact h
  | le s => rw [inS] at h; exact h
  | one k f => rw [inS] at h; exact h.1
  | two k ns fs => rw [inS] at h; exact h.1
def okH (has : Sl → Bool) (f : Fm) : Prop := okF f ∧ inS has f
def okHs (has : Sl → Bool) (fs : List Fm) : Prop := okFs fs ∧ inSs has fs
theorem okH.one {has : Sl → Bool} {k : Fin 3} {f : Fm} (h : okH has (.one k f)) : okH has f := by
  obtain ⟨a, b⟩ := h
  rw [okF] at a
  rw [inS] at b
  exact ⟨a, b.2⟩
theorem okH.two {has : Sl → Bool} {k : Fin 2} {ns : List Str} {fs : List Fm} (h : okH has (.two k ns fs)) : goodNames ns = true ∧ ns.length = fs.length ∧ okHs has fs := by
  obtain ⟨a, b⟩ := h
  rw [okF] at a
  rw [inS] at b
  exact ⟨a.1, a.2.1, a.2.2, b.2⟩
theorem inSs_get {has : Sl → Bool} : ∀ {fs : List Fm} {i : Nat} {f : Fm}, inSs has fs → fs[i]? = some f → inS has f
  | [], i, f, h, e => by cases e
  | g :: fs, 0, f, h, e => by
    cases e
    rw [inSs] at h
    exact h.1
  | g :: fs, i + 1, f, h, e => by
    rw [inSs] at h
    exact inSs_get h.2 e
theorem okHs.get {has : Sl → Bool} {fs : List Fm} {i : Nat} {f : Fm} (h : okHs has fs) (e : fs[i]? = some f) : okH has f ∧ ht f ≤ hts fs :=
  ⟨⟨(okFs_get h.1 e).1, inSs_get h.2 e⟩, (okFs_get h.1 e).2⟩
end L2

end

section
namespace L2
open PySem PySem.W PySem.Spec PyProof.Rows
theorem first_is {l : List Nat} {c i : Nat} (h : l[i]? = some c) (hk : ∀ k, k < i → l[k]? ≠ some c) : l.idxOf c = i := by
  induction l generalizing i with
  | nil => cases h
  | cons a r ih =>
    cases i with
    | zero => cases h; rw [List.idxOf_cons_self]
    | succ i =>
      have ha : a ≠ c := fun e => hk 0 (by omega) (by rw [e]; rfl)
      have hb : (a == c) = false := by simpa using ha
      rw [List.idxOf_cons, hb]
      show r.idxOf c + 1 = i + 1
      rw [ih h fun k hk' e => hk (k + 1) (by omega) e]
section
variable {X : Cx}
/-- where a sign of a text stands first -/
theorem mt_sindexE : MtR X "str.index" (fun x xs H Q => ∃ (y : Str) (c : Nat), x = .str y ∧ xs = [.str ⟨#[c]⟩] ∧ c ∈ y.cps.toList ∧ Q (.int ((y.cps.toList.idxOf c : Nat) : Int)) H) := by
  intro pins s σ H x xs v us Q I rx rv h
  obtain ⟨y, c, rfl, rfl, hc, q⟩ := h
  obtain ⟨t, rfl⟩ := rx
  obtain ⟨u, rfl, t', rfl⟩ := rv.one
  rcases StrLaws.occ_head y ⟨#[c]⟩ 1 (Nat.le_refl _) with ⟨_, no⟩ | ⟨i, r, ho, hat, hno⟩
  · obtain ⟨i, hi⟩ := List.getElem?_of_mem hc
    exact absurd ((StrLaws.subAt_one y c i).mpr hi) (no i)
  · have e := first_is ((StrLaws.subAt_one y c i).mp hat) fun k hk z => hno k hk ((StrLaws.subAt_one y c k).mpr z)
    rw [e] at q
    exact call_gives F.slot_str_index (typeIs_str s y t) F.entry_str_index (F.args_str_index_2 _ _) (gives_str_index y ⟨#[c]⟩ t t' i r ho) ⟨.int _, H, I.tok _, ⟨_, rfl⟩, q⟩
end
end L2

end

section
namespace L2
open PySem PySem.W PySem.Spec PyProof.Rows
/-! ### an error that leaves a comprehension -/
section
variable {M : Model} {A : Around} {E : Value → Shared → Prop} {s : Shared} {base : Heap} {env : Env} {outer : List Env} {L e T : Addr} {Q : Unit → Shared → Prop} {cls : Value} {d : Option Addr} {fl : Value}
end
structure StnZ (fs Z : List Addr) (h h' : Heap) : Prop where
  keep : ∀ b o, b ∉ Z → b ∉ fs → h.get? b = some o → h'.get? b = some o
  slot : ∀ b o, b ∉ Z → h.get? b = some o → ∃ sl, h'.get? b = some { o with slots := sl }
section
variable {X : Cx} {elt target iter : Expr} {ifs : List Expr} {scope : Scope} {pos p : Pos} {caps : List (Nat × Str)} {tgs : List Str} {wi : TI} {g : TG} {tc : TT} {te : TE}
set_option maxHeartbeats 1000000
end
/-! ### o.m(..) of an object of one of some classes, which answers or refuses -/
section
variable {X : Cx} {k1 k2 k' : Nat} {m : Str} {ps : List Str} {ι : Type} {cl : ι → Addr} {sp1 sp2 : ι → Sp} {e o : Expr} {es : List Expr} {t : TA} {ta : TE} {pos apos : Pos} {E : St → XK}
end
end L2

end

section
namespace L2
open PySem PySem.W PySem.Spec PyProof.Rows PySem.SeqAt
/-! ### == and != of values -/
def isNonD : D → Bool
  | .non => true
  | _ => false
def eqBl (a : Bool) : D → Bool
  | .bl b => a == b
  | .int b => (if a then 1 else 0) == b
  | _ => false
def eqIn (a : Int) : D → Bool
  | .bl b => a == (if b then 1 else 0)
  | .int b => a == b
  | _ => false
def eqSt (a : Str) : D → Bool
  | .str b => a == b
  | _ => false
def eqTu (g : List D → Bool) : D → Bool
  | .tup ds => g ds
  | _ => false
def eqLi (g : List D → Bool) : D → Bool
  | .lst ds => g ds
  | _ => false
mutual
def eqDD : D → D → Bool
  | .non, d => isNonD d
  | .bl a, d => eqBl a d
  | .int a, d => eqIn a d
  | .str a, d => eqSt a d
  | .tup as, d => eqTu (eqDs as) d
  | .lst as, d => eqLi (eqDs as) d
def eqDs : List D → List D → Bool
  | [], ds => ds.isEmpty
  | a :: as, ds => match ds with | [] => false | d :: ds => eqDD a d && eqDs as ds
end
mutual
def dht : D → Nat
  | .non => 1
  | .bl _ => 1
  | .int _ => 1
  | .str _ => 1
  | .tup ds => dhts ds + 1
  | .lst ds => dhts ds + 1
def dhts : List D → Nat
  | [] => 0
  | d :: ds => max (dht d) (dhts ds)
end
theorem dht_pos (d : D) : 1 ≤ dht d := by cases d <;> rw [dht] <;> omega
theorem dhts_mem {d : D} {n : Nat} : ∀ {ds : List D}, d ∈ ds → dhts ds ≤ n → dht d ≤ n
  | [], h, _ => by cases h
  | e :: ds, h, hn => by
    rw [dhts] at hn
    rcases List.mem_cons.mp h with rfl | h
    · omega
    · exact dhts_mem h (by omega)
mutual
theorem eqDD_refl : ∀ d : D, eqDD d d = true
  | .non => by rw [eqDD]; rfl
  | .bl b => by rw [eqDD]; show (b == b) = true; exact beq_self_eq_true b
  | .int b => by rw [eqDD]; show (b == b) = true; exact beq_self_eq_true b
  | .str b => by rw [eqDD]; show (b == b) = true; exact beq_self_eq_true b
  | .tup ds => by rw [eqDD]; exact eqDs_refl ds
  | .lst ds => by rw [eqDD]; exact eqDs_refl ds
theorem eqDs_refl : ∀ ds : List D, eqDs ds ds = true
  | [] => by rw [eqDs]; rfl
  | d :: ds => by
    rw [eqDs]
    show (eqDD d d && eqDs ds ds) = true
    rw [eqDD_refl d, eqDs_refl ds]; rfl
end
theorem eqDs_gen : ∀ (ds es : List D), eqDs ds es = ((List.range (min ds.length es.length)).all (fun j => eqDD (ds.getD j .non) (es.getD j .non)) && ds.length == es.length)
  | [], es => by
    rw [eqDs]
    cases es <;> simp
  | d :: ds, [] => by rw [eqDs]; simp
  | d :: ds, e :: es => by
    rw [eqDs]
    show (eqDD d e && eqDs ds es) = _
    rw [eqDs_gen ds es, List.length_cons, List.length_cons, Nat.succ_min_succ, List.range_succ_eq_map, List.all_cons, List.all_map]
    have e1 : (ds.length + 1 == es.length + 1) = (ds.length == es.length) := by rw [Bool.eq_iff_iff]; simp
    rw [e1, Bool.and_assoc]
    rfl
mutual
theorem DAt.inj {H : Hp} : ∀ (d d' : D) {v : V}, DAt H d v → DAt H d' v → d = d'
  | .non, d', v, h, h' => by
    obtain rfl : v = .non := h
    cases d' with
    | non => rfl
    | bl b => cases (show V.non = V.bl b from h')
    | int b => cases (show V.non = V.int b from h')
    | str b => cases h'.1
    | tup ds => obtain ⟨a, vs, z, _⟩ := h'; cases z
    | lst ds => obtain ⟨a, vs, z, _⟩ := h'; cases z
  | .bl b, d', v, h, h' => by
    obtain rfl : v = .bl b := h
    cases d' with
    | non => cases (show V.bl b = V.non from h')
    | bl c => have z : V.bl b = V.bl c := h'; injection z with z; rw [z]
    | int c => cases (show V.bl b = V.int c from h')
    | str c => cases h'.1
    | tup ds => obtain ⟨a, vs, z, _⟩ := h'; cases z
    | lst ds => obtain ⟨a, vs, z, _⟩ := h'; cases z
  | .int b, d', v, h, h' => by
    obtain rfl : v = .int b := h
    cases d' with
    | non => cases (show V.int b = V.non from h')
    | int c => have z : V.int b = V.int c := h'; injection z with z; rw [z]
    | bl c => cases (show V.int b = V.bl c from h')
    | str c => cases h'.1
    | tup ds => obtain ⟨a, vs, z, _⟩ := h'; cases z
    | lst ds => obtain ⟨a, vs, z, _⟩ := h'; cases z
  | .str b, d', v, h, h' => by
    obtain ⟨rfl, _⟩ := h
    cases d' with
    | non => cases (show V.str b = V.non from h')
    | int c => cases (show V.str b = V.int c from h')
    | bl c => cases (show V.str b = V.bl c from h')
    | str c => have z := h'.1; injection z with z; rw [z]
    | tup ds => obtain ⟨a, vs, z, _⟩ := h'; cases z
    | lst ds => obtain ⟨a, vs, z, _⟩ := h'; cases z
  | .tup ds, d', v, h, h' => by
    obtain ⟨a, vs, rfl, ea, hs, _⟩ := h
    cases d' with
    | non => cases (show V.ref a = V.non from h')
    | int c => cases (show V.ref a = V.int c from h')
    | bl c => cases (show V.ref a = V.bl c from h')
    | str c => cases h'.1
    | tup es => obtain ⟨b, ws, z, eb, hs', _⟩ := h'; cases z; rw [ea] at eb; cases eb; rw [DsAt.inj ds es hs hs']
    | lst es => obtain ⟨b, ws, z, eb, hs', _⟩ := h'; cases z; rw [ea] at eb; cases eb
  | .lst ds, d', v, h, h' => by
    obtain ⟨a, vs, rfl, ea, hs, _⟩ := h
    cases d' with
    | non => cases (show V.ref a = V.non from h')
    | int c => cases (show V.ref a = V.int c from h')
    | bl c => cases (show V.ref a = V.bl c from h')
    | str c => cases h'.1
    | tup es => obtain ⟨b, ws, z, eb, hs', _⟩ := h'; cases z; rw [ea] at eb; cases eb
    | lst es => obtain ⟨b, ws, z, eb, hs', _⟩ := h'; cases z; rw [ea] at eb; cases eb; rw [DsAt.inj ds es hs hs']
theorem DsAt.inj {H : Hp} : ∀ (ds es : List D) {vs : List V}, DsAt H ds vs → DsAt H es vs → ds = es
  | [], es, vs, h, h' => by
    obtain rfl : vs = [] := h
    cases es with
    | nil => rfl
    | cons e es => obtain ⟨v, r, z, _⟩ := h'; cases z
  | d :: ds, es, vs, h, h' => by
    obtain ⟨v, r, rfl, q, q2⟩ := h
    cases es with
    | nil => cases (show v :: r = [] from h')
    | cons e es =>
      obtain ⟨v', r', z, q', q2'⟩ := h'
      cases z
      rw [DAt.inj d e q q', DsAt.inj ds es q2 q2']
end
section
variable {X : Cx} {pins : List (Addr × Obj)} {σ : St} {H : Hp} {s : Shared} {A : Around} {a1 a2 : Addr} {ds1 ds2 : List D} {vs1 vs2 : List V}
theorem rc_items {its1 its2 : List Value} (r1 : Vals vs1 its1) (r2 : Vals vs2 its2) (h1 : DsAt H ds1 vs1) (h2 : DsAt H ds2 vs2)
    (he : ∀ (e e2 : D) (w w2 : V) (x x2 : Value), e ∈ ds1 → DAt H e w → DAt H e2 w2 → RelV w x → RelV w2 x2 → EqAt A s x x2 (eqDD e e2)) :
    ∀ j (h1 : j < its1.toArray.size) (h2 : j < its2.toArray.size), EqAt A s its1.toArray[j] its2.toArray[j] (eqDD (ds1.getD j .non) (ds2.getD j .non)) := by
  intro j l1 l2
  rw [List.size_toArray] at l1 l2
  have e1 := r1.length
  have e2 := r2.length
  have g1 : vs1[j]? = some (vs1[j]'(by omega)) := List.getElem?_eq_getElem (by omega)
  have g2 : vs2[j]? = some (vs2[j]'(by omega)) := List.getElem?_eq_getElem (by omega)
  obtain ⟨u1, hu1, ru1⟩ := r1.get g1
  obtain ⟨u2, hu2, ru2⟩ := r2.get g2
  obtain ⟨d1, hd1, hv1⟩ := DsAt.get ds1 h1 g1
  obtain ⟨d2, hd2, hv2⟩ := DsAt.get ds2 h2 g2
  have i1 : its1.toArray[j]'(by rw [List.size_toArray]; exact l1) = u1 := by
    rw [List.getElem_toArray]
    rw [List.getElem?_eq_getElem l1] at hu1
    exact Option.some.inj hu1
  have i2 : its2.toArray[j]'(by rw [List.size_toArray]; exact l2) = u2 := by
    rw [List.getElem_toArray]
    rw [List.getElem?_eq_getElem l2] at hu2
    exact Option.some.inj hu2
  rw [i1, i2, List.getD_eq_getElem?_getD, List.getD_eq_getElem?_getD, hd1, hd2]
  exact he d1 d2 _ _ u1 u2 (List.mem_of_getElem? hd1) hv1 hv2 ru1 ru2
theorem rcT (I : Inv X pins σ H s) (hu : A.units < cLine) (e1 : H a1 = some (.tup vs1)) (e2 : H a2 = some (.tup vs2)) (h1 : DsAt H ds1 vs1) (h2 : DsAt H ds2 vs2)
    (he : ∀ (e e2 : D) (w w2 : V) (x x2 : Value), e ∈ ds1 → DAt H e w → DAt H e2 w2 → RelV w x → RelV w2 x2 → EqAt A.in1 s x x2 (eqDD e e2)) :
    RcAt A s (.ref a1) (.ref a2) (eqDs ds1 ds2) ∧ RcNeAt A s (.ref a1) (.ref a2) (!eqDs ds1 ds2) := by
  obtain ⟨its1, r1, p1, _⟩ := I.tuple (SqT.of e1)
  obtain ⟨its2, r2, p2, _⟩ := I.tuple (SqT.of e2)
  have l1 : its1.toArray.size = ds1.length := by rw [List.size_toArray, ← r1.length]; exact DsAt.len ds1 h1
  have l2 : its2.toArray.size = ds2.length := by rw [List.size_toArray, ← r2.length]; exact DsAt.len ds2 h2
  have E := rc_items r1 r2 h1 h2 he
  have A1 := RcAt.tuples (isTuple_of p1) (isTuple_of p2) hu E
  have A2 := RcNeAt.tuples (isTuple_of p1) (isTuple_of p2) hu E
  rw [l1, l2, ← eqDs_gen] at A1 A2
  exact ⟨A1, A2⟩
theorem rcL (I : Inv X pins σ H s) (hu : A.units < cLine) (e1 : H a1 = some (.lst vs1)) (e2 : H a2 = some (.lst vs2)) (h1 : DsAt H ds1 vs1) (h2 : DsAt H ds2 vs2)
    (he : ∀ (e e2 : D) (w w2 : V) (x x2 : Value), e ∈ ds1 → DAt H e w → DAt H e2 w2 → RelV w x → RelV w2 x2 → EqAt A.in1 s x x2 (eqDD e e2)) :
    RcAt A s (.ref a1) (.ref a2) (eqDs ds1 ds2) ∧ RcNeAt A s (.ref a1) (.ref a2) (!eqDs ds1 ds2) := by
  obtain ⟨its1, r1, p1, _⟩ := I.list (SqL.of e1)
  obtain ⟨its2, r2, p2, _⟩ := I.list (SqL.of e2)
  have l1 : its1.toArray.size = ds1.length := by rw [List.size_toArray, ← r1.length]; exact DsAt.len ds1 h1
  have l2 : its2.toArray.size = ds2.length := by rw [List.size_toArray, ← r2.length]; exact DsAt.len ds2 h2
  have E := rc_items r1 r2 h1 h2 he
  by_cases z : ds1.length = ds2.length
  · have A1 := RcAt.lists p1.isList p2.isList (by rw [l1, l2, z]) hu E
    have A2 := RcNeAt.lists p1.isList p2.isList (by rw [l1, l2, z]) hu E
    have G := eqDs_gen ds1 ds2
    rw [z, Nat.min_self, beq_self_eq_true, Bool.and_true] at G
    rw [l1, z, ← G] at A1 A2
    exact ⟨A1, A2⟩
  · have G := eqDs_gen ds1 ds2
    rw [beq_false_of_ne z, Bool.and_false] at G
    rw [G]
    have hne : (its1.toArray.size != its2.toArray.size) = true := by rw [l1, l2]; simpa using z
    exact ⟨RcAt.lists_lengths p1.isList p2.isList hne hu, RcNeAt.lists_lengths p1.isList p2.isList hne hu⟩
set_option maxHeartbeats 1000000 in
theorem eqD_all (I : Inv X pins σ H s) : ∀ (n : Nat) {d1 d2 : D} {v1 v2 : V} {u1 u2 : Value} {A : Around}, dht d1 ≤ n → DAt H d1 v1 → DAt H d2 v2 → RelV v1 u1 → RelV v2 u2 → A.units + n < cLine → EqAt A s u1 u2 (eqDD d1 d2) ∧ RcAt A s u1 u2 (eqDD d1 d2) ∧ RcNeAt A s u1 u2 (!eqDD d1 d2) := by
  intro n
  induction n with
  | zero =>
    intro d1 d2 v1 v2 u1 u2 A hn
    have := dht_pos d1
    omega
  | succ n ih =>
    intro d1 d2 v1 v2 u1 u2 A hn hd hd2 ru ru2 hu
    have h1 : A.units < cLine := by omega
    have h2 : A.in1.units + n < cLine := by show A.units + 1 + n < cLine; omega
    cases d1 with
    | non =>
      obtain rfl : v1 = .non := hd; obtain rfl : u1 = .none := ru
      rw [eqDD]
      cases d2 with
      | non =>
        obtain rfl : v2 = .non := hd2; obtain rfl : u2 = .none := ru2
        exact ⟨.same _, .none_none, .none_none⟩
      | bl b2 =>
        obtain rfl : v2 = .bl b2 := hd2; obtain rfl : u2 = .bool b2 := ru2
        exact ⟨.none_bool _, .none_bool _, .none_bool _⟩
      | int i2 =>
        obtain rfl : v2 = .int i2 := hd2; obtain ⟨t2, rfl⟩ : ∃ t, u2 = .int i2 t := ru2
        exact ⟨.none_int _ _, .none_int _ _, .none_int _ _⟩
      | str x2 =>
        obtain ⟨rfl, _⟩ : v2 = .str x2 ∧ _ := hd2; obtain ⟨t2, rfl⟩ : ∃ t, u2 = .str x2 t := ru2
        exact ⟨.none_str _ _, .none_str _ _, .none_str _ _⟩
      | tup ds2 =>
        obtain ⟨a2, vs2, rfl, ea2, hs2, _⟩ := hd2; obtain rfl : u2 = .ref a2 := ru2; obtain ⟨its2, q2, p2, _⟩ := I.tuple (SqT.of ea2)
        exact ⟨.none_tuple (isTuple_of p2) h1, .none_tuple (isTuple_of p2) h1, .none_tuple (isTuple_of p2) h1⟩
      | lst ds2 =>
        obtain ⟨a2, vs2, rfl, ea2, hs2, _⟩ := hd2; obtain rfl : u2 = .ref a2 := ru2; obtain ⟨its2, q2, p2, _⟩ := I.list (SqL.of ea2)
        exact ⟨.none_list p2.isList h1, .none_list p2.isList h1, .none_list p2.isList h1⟩
    | bl b1 =>
      obtain rfl : v1 = .bl b1 := hd; obtain rfl : u1 = .bool b1 := ru
      rw [eqDD]
      cases d2 with
      | non =>
        obtain rfl : v2 = .non := hd2; obtain rfl : u2 = .none := ru2
        exact ⟨.bool_none _, .bool_none _, .bool_none _⟩
      | bl b2 =>
        obtain rfl : v2 = .bl b2 := hd2; obtain rfl : u2 = .bool b2 := ru2
        exact ⟨.bool_bool _ _, .bool_bool _ _, .bool_bool _ _⟩
      | int i2 =>
        obtain rfl : v2 = .int i2 := hd2; obtain ⟨t2, rfl⟩ : ∃ t, u2 = .int i2 t := ru2
        exact ⟨.bool_int _ _ _, .bool_int _ _ _, .bool_int _ _ _⟩
      | str x2 =>
        obtain ⟨rfl, _⟩ : v2 = .str x2 ∧ _ := hd2; obtain ⟨t2, rfl⟩ : ∃ t, u2 = .str x2 t := ru2
        exact ⟨.bool_str _ _ _, .bool_str _ _ _, .bool_str _ _ _⟩
      | tup ds2 =>
        obtain ⟨a2, vs2, rfl, ea2, hs2, _⟩ := hd2; obtain rfl : u2 = .ref a2 := ru2; obtain ⟨its2, q2, p2, _⟩ := I.tuple (SqT.of ea2)
        exact ⟨.bool_tuple _ (isTuple_of p2) h1, .bool_tuple _ (isTuple_of p2) h1, .bool_tuple _ (isTuple_of p2) h1⟩
      | lst ds2 =>
        obtain ⟨a2, vs2, rfl, ea2, hs2, _⟩ := hd2; obtain rfl : u2 = .ref a2 := ru2; obtain ⟨its2, q2, p2, _⟩ := I.list (SqL.of ea2)
        exact ⟨.bool_list _ p2.isList h1, .bool_list _ p2.isList h1, .bool_list _ p2.isList h1⟩
    | int i1 =>
      obtain rfl : v1 = .int i1 := hd; obtain ⟨t1, rfl⟩ : ∃ t, u1 = .int i1 t := ru
      rw [eqDD]
      cases d2 with
      | non =>
        obtain rfl : v2 = .non := hd2; obtain rfl : u2 = .none := ru2
        exact ⟨.int_none _ _, .int_none _ _, .int_none _ _⟩
      | bl b2 =>
        obtain rfl : v2 = .bl b2 := hd2; obtain rfl : u2 = .bool b2 := ru2
        exact ⟨.int_bool _ _ _, .int_bool _ _ _, .int_bool _ _ _⟩
      | int i2 =>
        obtain rfl : v2 = .int i2 := hd2; obtain ⟨t2, rfl⟩ : ∃ t, u2 = .int i2 t := ru2
        exact ⟨.int_int _ _ _ _, .int_int _ _ _ _, .int_int _ _ _ _⟩
      | str x2 =>
        obtain ⟨rfl, _⟩ : v2 = .str x2 ∧ _ := hd2; obtain ⟨t2, rfl⟩ : ∃ t, u2 = .str x2 t := ru2
        exact ⟨.int_str _ _ _ _, .int_str _ _ _ _, .int_str _ _ _ _⟩
      | tup ds2 =>
        obtain ⟨a2, vs2, rfl, ea2, hs2, _⟩ := hd2; obtain rfl : u2 = .ref a2 := ru2; obtain ⟨its2, q2, p2, _⟩ := I.tuple (SqT.of ea2)
        exact ⟨.int_tuple _ _ (isTuple_of p2) h1, .int_tuple _ _ (isTuple_of p2) h1, .int_tuple _ _ (isTuple_of p2) h1⟩
      | lst ds2 =>
        obtain ⟨a2, vs2, rfl, ea2, hs2, _⟩ := hd2; obtain rfl : u2 = .ref a2 := ru2; obtain ⟨its2, q2, p2, _⟩ := I.list (SqL.of ea2)
        exact ⟨.int_list _ _ p2.isList h1, .int_list _ _ p2.isList h1, .int_list _ _ p2.isList h1⟩
    | str x1 =>
      obtain ⟨rfl, _⟩ : v1 = .str x1 ∧ _ := hd; obtain ⟨t1, rfl⟩ : ∃ t, u1 = .str x1 t := ru
      rw [eqDD]
      cases d2 with
      | non =>
        obtain rfl : v2 = .non := hd2; obtain rfl : u2 = .none := ru2
        exact ⟨.str_none _ _, .str_none _ _, .str_none _ _⟩
      | bl b2 =>
        obtain rfl : v2 = .bl b2 := hd2; obtain rfl : u2 = .bool b2 := ru2
        exact ⟨.str_bool _ _ _, .str_bool _ _ _, .str_bool _ _ _⟩
      | int i2 =>
        obtain rfl : v2 = .int i2 := hd2; obtain ⟨t2, rfl⟩ : ∃ t, u2 = .int i2 t := ru2
        exact ⟨.str_int _ _ _ _, .str_int _ _ _ _, .str_int _ _ _ _⟩
      | str x2 =>
        obtain ⟨rfl, _⟩ : v2 = .str x2 ∧ _ := hd2; obtain ⟨t2, rfl⟩ : ∃ t, u2 = .str x2 t := ru2
        exact ⟨.str_str _ _ _ _, .str_str _ _ _ _, .str_str _ _ _ _⟩
      | tup ds2 =>
        obtain ⟨a2, vs2, rfl, ea2, hs2, _⟩ := hd2; obtain rfl : u2 = .ref a2 := ru2; obtain ⟨its2, q2, p2, _⟩ := I.tuple (SqT.of ea2)
        exact ⟨.str_tuple _ _ (isTuple_of p2) h1, .str_tuple _ _ (isTuple_of p2) h1, .str_tuple _ _ (isTuple_of p2) h1⟩
      | lst ds2 =>
        obtain ⟨a2, vs2, rfl, ea2, hs2, _⟩ := hd2; obtain rfl : u2 = .ref a2 := ru2; obtain ⟨its2, q2, p2, _⟩ := I.list (SqL.of ea2)
        exact ⟨.str_list _ _ p2.isList h1, .str_list _ _ p2.isList h1, .str_list _ _ p2.isList h1⟩
    | tup ds1 =>
      obtain ⟨a1, vs1, rfl, ea1, hs1, _⟩ := hd; obtain rfl : u1 = .ref a1 := ru; obtain ⟨its1, q1, p1, _⟩ := I.tuple (SqT.of ea1)
      rw [eqDD]
      cases d2 with
      | non =>
        obtain rfl : v2 = .non := hd2; obtain rfl : u2 = .none := ru2
        exact ⟨.tuple_none (isTuple_of p1) h1, .tuple_none (isTuple_of p1) h1, .tuple_none (isTuple_of p1) h1⟩
      | bl b2 =>
        obtain rfl : v2 = .bl b2 := hd2; obtain rfl : u2 = .bool b2 := ru2
        exact ⟨.tuple_bool _ (isTuple_of p1) h1, .tuple_bool _ (isTuple_of p1) h1, .tuple_bool _ (isTuple_of p1) h1⟩
      | int i2 =>
        obtain rfl : v2 = .int i2 := hd2; obtain ⟨t2, rfl⟩ : ∃ t, u2 = .int i2 t := ru2
        exact ⟨.tuple_int _ _ (isTuple_of p1) h1, .tuple_int _ _ (isTuple_of p1) h1, .tuple_int _ _ (isTuple_of p1) h1⟩
      | str x2 =>
        obtain ⟨rfl, _⟩ : v2 = .str x2 ∧ _ := hd2; obtain ⟨t2, rfl⟩ : ∃ t, u2 = .str x2 t := ru2
        exact ⟨.tuple_str _ _ (isTuple_of p1) h1, .tuple_str _ _ (isTuple_of p1) h1, .tuple_str _ _ (isTuple_of p1) h1⟩
      | tup ds2 =>
        obtain ⟨a2, vs2, rfl, ea2, hs2, _⟩ := hd2; obtain rfl : u2 = .ref a2 := ru2; obtain ⟨its2, q2, p2, _⟩ := I.tuple (SqT.of ea2)
        have R := rcT I h1 ea1 ea2 hs1 hs2 fun e e2 w w2 x x2 hm g g2 r r2 => (ih (dhts_mem hm (by rw [dht] at hn; omega)) g g2 r r2 h2).1
        refine ⟨?_, R⟩
        by_cases z : a1 = a2
        · subst z
          obtain rfl : ds1 = ds2 := by have hh := DAt.inj (.tup ds1) (.tup ds2) (v := .ref a1) ⟨a1, vs1, rfl, ea1, hs1, ‹_›⟩ ⟨a1, vs2, rfl, ea2, hs2, ‹_›⟩; injection hh
          show EqAt A s _ _ (eqDs ds1 ds1)
          rw [eqDs_refl]; exact .same _
        · exact .of_refs z R.1
      | lst ds2 =>
        obtain ⟨a2, vs2, rfl, ea2, hs2, _⟩ := hd2; obtain rfl : u2 = .ref a2 := ru2; obtain ⟨its2, q2, p2, _⟩ := I.list (SqL.of ea2)
        exact ⟨.tuple_list (isTuple_of p1) p2.isList h1, .tuple_list (isTuple_of p1) p2.isList h1, .tuple_list (isTuple_of p1) p2.isList h1⟩
    | lst ds1 =>
      obtain ⟨a1, vs1, rfl, ea1, hs1, _⟩ := hd; obtain rfl : u1 = .ref a1 := ru; obtain ⟨its1, q1, p1, _⟩ := I.list (SqL.of ea1)
      rw [eqDD]
      cases d2 with
      | non =>
        obtain rfl : v2 = .non := hd2; obtain rfl : u2 = .none := ru2
        exact ⟨.list_none p1.isList h1, .list_none p1.isList h1, .list_none p1.isList h1⟩
      | bl b2 =>
        obtain rfl : v2 = .bl b2 := hd2; obtain rfl : u2 = .bool b2 := ru2
        exact ⟨.list_bool _ p1.isList h1, .list_bool _ p1.isList h1, .list_bool _ p1.isList h1⟩
      | int i2 =>
        obtain rfl : v2 = .int i2 := hd2; obtain ⟨t2, rfl⟩ : ∃ t, u2 = .int i2 t := ru2
        exact ⟨.list_int _ _ p1.isList h1, .list_int _ _ p1.isList h1, .list_int _ _ p1.isList h1⟩
      | str x2 =>
        obtain ⟨rfl, _⟩ : v2 = .str x2 ∧ _ := hd2; obtain ⟨t2, rfl⟩ : ∃ t, u2 = .str x2 t := ru2
        exact ⟨.list_str _ _ p1.isList h1, .list_str _ _ p1.isList h1, .list_str _ _ p1.isList h1⟩
      | tup ds2 =>
        obtain ⟨a2, vs2, rfl, ea2, hs2, _⟩ := hd2; obtain rfl : u2 = .ref a2 := ru2; obtain ⟨its2, q2, p2, _⟩ := I.tuple (SqT.of ea2)
        exact ⟨.list_tuple p1.isList (isTuple_of p2) h1, .list_tuple p1.isList (isTuple_of p2) h1, .list_tuple p1.isList (isTuple_of p2) h1⟩
      | lst ds2 =>
        obtain ⟨a2, vs2, rfl, ea2, hs2, _⟩ := hd2; obtain rfl : u2 = .ref a2 := ru2; obtain ⟨its2, q2, p2, _⟩ := I.list (SqL.of ea2)
        have R := rcL I h1 ea1 ea2 hs1 hs2 fun e e2 w w2 x x2 hm g g2 r r2 => (ih (dhts_mem hm (by rw [dht] at hn; omega)) g g2 r r2 h2).1
        refine ⟨?_, R⟩
        by_cases z : a1 = a2
        · subst z
          obtain rfl : ds1 = ds2 := by have hh := DAt.inj (.lst ds1) (.lst ds2) (v := .ref a1) ⟨a1, vs1, rfl, ea1, hs1, ‹_›⟩ ⟨a1, vs2, rfl, ea2, hs2, ‹_›⟩; injection hh
          show EqAt A s _ _ (eqDs ds1 ds1)
          rw [eqDs_refl]; exact .same _
        · exact .of_refs z R.1
theorem op_eqD (hu : X.A.units + 64 < cLine) : OpR X (compareOp .Eq) (fun x y H Q => ∃ d d', DAt H d x ∧ DAt H d' y ∧ dht d ≤ 60 ∧ Q (.bl (eqDD d d')) H) := by
  intro pins s σ H x y v u Q I rx ry h
  obtain ⟨d, d', hd, hd', hn, q⟩ := h
  exact (eqD_all I 60 hn hd hd' rx ry (by omega)).2.1 _ _ _ _ ⟨.bl _, H, I, rfl, q⟩
theorem op_neD (hu : X.A.units + 64 < cLine) : OpR X (compareOp .NotEq) (fun x y H Q => ∃ d d', DAt H d x ∧ DAt H d' y ∧ dht d ≤ 60 ∧ Q (.bl (!eqDD d d')) H) := by
  intro pins s σ H x y v u Q I rx ry h
  obtain ⟨d, d', hd, hd', hn, q⟩ := h
  exact (eqD_all I 60 hn hd hd' rx ry (by omega)).2.2 _ _ _ _ ⟨.bl _, H, I, rfl, q⟩
/-! ### tuples, further -/
end
section
open HT
variable {prog : Program} {w : World} {A : Around} {E : Value → Shared → Prop} {s : Shared}
end
section
variable {X : Cx}
theorem piAllT {tg l : Expr} {tl : TE} (hl : PE X l tl) : PI X tg l (fun σ H R => (iList X.K tl σ H R ∨ iStr tl σ H R) ∨ iTup X.K tl σ H R) := (piAll hl).or (pi_tup hl)
def oEqD (hu : X.A.units + 64 < cLine) := OpR.or (oEq (X := X)) (op_eqD hu)
def oNeD (hu : X.A.units + 64 < cLine) := OpR.or (oNe (X := X)) (op_neD hu)
end
end L2

end

section
namespace L2
open PySem PySem.W PySem.Spec PyProof.Rows
/-! ### a place where ways meet -/
def tCut (t u : TS) : TS := fun D σ H => ∃ J : St → Hp → Prop, t { D with nx := J } σ H ∧ ∀ σ' H', J σ' H' → u D σ' H'
theorem pss_cut {X : Cx} {st : Stmt} {rest : List Stmt} {t u : TS} (h1 : PS X st t) (h2 : PSs X rest u) : PSs X (st :: rest) (tCut t u) := by
  intro pins s σ H D I h
  obtain ⟨J, h, hJ⟩ := h
  refine wpAny_execs_cons (thn (h1 pins s σ H { D with nx := J } I h) fun f s1 q => ?_)
  cases f with
  | next =>
    obtain ⟨σ', H', I', q⟩ := q
    exact h2 pins s1 σ' H' D I' (hJ _ _ q)
  | ret v => exact q
  | brk => exact q
  | cont => exact q
/-! ### values whose objects are none of X -/
mutual
def DX (X : List Addr) (H : Hp) : D → V → Prop
  | .non, v => v = .non
  | .bl b, v => v = .bl b
  | .int i, v => v = .int i
  | .str s, v => v = .str s ∧ s.length ≤ 100000
  | .tup ds, v => ∃ a vs, v = .ref a ∧ a ∉ X ∧ H a = some (.tup vs) ∧ DsX X H ds vs ∧ vs.length ≤ 1000
  | .lst ds, v => ∃ a vs, v = .ref a ∧ a ∉ X ∧ H a = some (.lst vs) ∧ DsX X H ds vs ∧ vs.length ≤ 1000
def DsX (X : List Addr) (H : Hp) : List D → List V → Prop
  | [], vs => vs = []
  | d :: ds, vs => ∃ v r, vs = v :: r ∧ DX X H d v ∧ DsX X H ds r
end
mutual
theorem DX.at {X : List Addr} {H : Hp} : ∀ (d : D) {v : V}, DX X H d v → DAt H d v
  | .non, v, h => h
  | .bl b, v, h => h
  | .int i, v, h => h
  | .str t, v, h => h
  | .tup ds, v, h => by
    obtain ⟨a, vs, e, n, eT, q, z⟩ := h
    exact ⟨a, vs, e, eT, DsX.at ds q, z⟩
  | .lst ds, v, h => by
    obtain ⟨a, vs, e, n, eT, q, z⟩ := h
    exact ⟨a, vs, e, eT, DsX.at ds q, z⟩
theorem DsX.at {X : List Addr} {H : Hp} : ∀ (ds : List D) {vs : List V}, DsX X H ds vs → DsAt H ds vs
  | [], vs, h => h
  | d :: ds, vs, h => by
    obtain ⟨v, r, e, q, q2⟩ := h
    exact ⟨v, r, e, DX.at d q, DsX.at ds q2⟩
end
mutual
theorem DX.keep {X : List Addr} {H H' : Hp} (s : ∀ b u, b ∉ X → H b = some u → H' b = some u) : ∀ (d : D) {v : V}, DX X H d v → DX X H' d v
  | .non, v, h => h
  | .bl b, v, h => h
  | .int i, v, h => h
  | .str t, v, h => h
  | .tup ds, v, h => by
    obtain ⟨a, vs, e, n, eT, q, z⟩ := h
    exact ⟨a, vs, e, n, s _ _ n eT, DsX.keep s ds q, z⟩
  | .lst ds, v, h => by
    obtain ⟨a, vs, e, n, eT, q, z⟩ := h
    exact ⟨a, vs, e, n, s _ _ n eT, DsX.keep s ds q, z⟩
theorem DsX.keep {X : List Addr} {H H' : Hp} (s : ∀ b u, b ∉ X → H b = some u → H' b = some u) : ∀ (ds : List D) {vs : List V}, DsX X H ds vs → DsX X H' ds vs
  | [], vs, h => h
  | d :: ds, vs, h => by
    obtain ⟨v, r, e, q, q2⟩ := h
    exact ⟨v, r, e, DX.keep s d q, DsX.keep s ds q2⟩
end
theorem DX.same {X : List Addr} {H H' : Hp} (s : Same H H') {d : D} {v : V} (h : DX X H d v) : DX X H' d v := DX.keep (fun b u _ e => s b u e) d h
theorem DsX.same {X : List Addr} {H H' : Hp} (s : Same H H') {ds : List D} {vs : List V} (h : DsX X H ds vs) : DsX X H' ds vs := DsX.keep (fun b u _ e => s b u e) ds h
theorem DsX.snoc {X : List Addr} {H : Hp} {d : D} {v : V} (hd : DX X H d v) : ∀ (ds : List D) {vs : List V}, DsX X H ds vs → DsX X H (ds ++ [d]) (vs ++ [v])
  | [], vs, h => by
    obtain rfl : vs = [] := h
    exact ⟨v, [], rfl, hd, rfl⟩
  | e :: ds, vs, h => by
    obtain ⟨w, r, rfl, q, q2⟩ := h
    exact ⟨w, r ++ [v], rfl, q, DsX.snoc hd ds q2⟩
end L2

end

section
namespace HT
open PySem PyProof.Rows
/-! ### < of lists of ints -/
section
open PySem.SeqAt
open PySem.AutoSeq1 (wpAny_loadPart')
open PySem.MeetsSeq PySem.MeetsSeq2 PySem.MeetsSeq3 PySem.SeqRoads2
theorem ints_at : ∀ {vs : List Value} {ns : List Int}, IntsAre vs ns → ∀ i (h : i < vs.length), ∃ x t, vs[i]? = some (.int x t) ∧ ns.drop i = x :: ns.drop (i + 1)
  | _, _, .nil, i, h => absurd h (Nat.not_lt_zero _)
  | _, _, .cons x t r, 0, h => ⟨x, t, rfl, rfl⟩
  | _, _, .cons x t r, i + 1, h => ints_at r i (Nat.lt_of_succ_lt_succ h)
theorem lt_loop (l b : Addr) (items items2 : Array Value) (n n2 : Nat) (dd dd2 : Option Addr) (sl sl2 : Array (Option Value)) (ns ms : List Int) (hi : IntsAre items.toList ns) (hj : IntsAre items2.toList ms) (k : Nat) :
    ∀ i : Nat, items.size - i = k → i ≤ items.size → i ≤ items2.size → Meets (Builtin.«list.__eq__.loop» ⟨[.ref l, .ref b, rawInt i, rawInt 0], []⟩)
      (fun A R s => s.heap.get? l = some { cls := .type "list", dict := dd, data := .seq items n, slots := sl } ∧ s.heap.get? b = some { cls := .type "list", dict := dd2, data := .seq items2 n2, slots := sl2 } ∧ R (.ok (.ret (.bool (lexLt (ns.drop i) (ms.drop i))))) s) := by
  have z1 : items.size = ns.length := by rw [← hi.length]; simp
  have z2 : items2.size = ms.length := by rw [← hj.length]; simp
  induction k with
  | zero =>
    intro i hk h1 h2 prog w A R s h
    obtain ⟨hp, g, d, tk, os⟩ := s; obtain ⟨hl, hb, h⟩ := h
    wp_walk using wpAny_loadPart' hl, wpAny_loadPart' hb
    have hi1 : items[((i : Nat) : Int).toNat]? = none := by simp; omega
    rw [hi1]
    wp_walk using wpAny_loadPart' hl, wpAny_loadPart' hb
    have e1 : ns.drop i = [] := List.drop_eq_nil_of_le (by omega)
    have e : lexLt (ns.drop i) (ms.drop i) = decide (items.size < items2.size) := by
      rw [e1]
      cases hd : ms.drop i with
      | nil =>
        have := congrArg List.length hd
        rw [List.length_drop, List.length_nil] at this
        exact (decide_eq_false (by omega)).symm
      | cons y r =>
        have := congrArg List.length hd
        rw [List.length_drop, List.length_cons] at this
        exact (decide_eq_true (by omega)).symm
    rw [e] at h
    exact h
  | succ k ih =>
    intro i hk h1 h2 prog w A R s h
    obtain ⟨hp, g, d, tk, os⟩ := s; obtain ⟨hl, hb, h⟩ := h
    have hlt : i < items.size := by omega
    obtain ⟨x, t, hx, ex⟩ := ints_at hi i (by simpa using hlt)
    have hx : items[i]? = some (.int x t) := by simpa using hx
    wp_walk using wpAny_loadPart' hl, wpAny_loadPart' hb
    have hi1 : items[((i : Nat) : Int).toNat]? = some (.int x t) := by simpa using hx
    rw [hi1]
    by_cases h3 : i < items2.size
    · obtain ⟨y, u, hy, ey⟩ := ints_at hj i (by simpa using h3)
      have hy : items2[i]? = some (.int y u) := by simpa using hy
      have hi2 : items2[((i : Nat) : Int).toNat]? = some (.int y u) := by simpa using hy
      have hc : ((i : Int) + 1) = ((i + 1 : Nat) : Int) := by omega
      rw [hi2]
      rw [ex, ey, lexLt_cons] at h
      refine wpAny_bind (EqAt.int_int x t y u prog w _ _ ?_)
      cases hb' : (x == y) with
      | true =>
        have hxy : x = y := by simpa using hb'
        rw [if_pos hxy] at h
        wp_walk
        rw [hc]
        exact ⟨plainId_quiet plain_eq_loop _, codeAny_builtin entry_eq_loop (by
          rw [Around.under_plainId plain_eq_loop _]
          exact ih (i + 1) (by omega) (by omega) (by omega) prog w A R _ ⟨hl, hb, h⟩)⟩
      | false =>
        have hxy : ¬ x = y := by simpa using hb'
        rw [if_neg hxy] at h
        wp_walk using wpAny_loadPart' hl, wpAny_loadPart' hb
        rw [hi1, hi2]
        refine wpAny_bind (rcLt_int _ _ x t y u prog w _ _ ?_)
        wp_walk
        exact h
    · have hi2 : items2[((i : Nat) : Int).toNat]? = none := by simp; omega
      rw [hi2]
      wp_walk using wpAny_loadPart' hl, wpAny_loadPart' hb
      have e2 : ms.drop i = [] := List.drop_eq_nil_of_le (by omega)
      have e : lexLt (ns.drop i) (ms.drop i) = decide (items.size < items2.size) := by
        rw [e2, ex, lexLt_cons_nil]
        exact (decide_eq_false (by omega)).symm
      rw [e] at h
      exact h
theorem list_lt_ints (l b : Addr) (items items2 : Array Value) (n n2 : Nat) (dd dd2 : Option Addr) (sl sl2 : Array (Option Value)) (ns ms : List Int) (hi : IntsAre items.toList ns) (hj : IntsAre items2.toList ms) :
    Meets (Builtin.«list.__lt__» ⟨[.ref l, .ref b], []⟩)
      (fun A R s => s.heap.get? l = some { cls := .type "list", dict := dd, data := .seq items n, slots := sl } ∧ s.heap.get? b = some { cls := .type "list", dict := dd2, data := .seq items2 n2, slots := sl2 } ∧ R (.ok (.ret (.bool (lexLt ns ms)))) s) := by
  intro prog w A R s h
  obtain ⟨hp, g, d, tk, os⟩ := s; obtain ⟨hl, hb, h⟩ := h
  have f3 := AutoSeq1.sub_list_list
  wp_walk using wpAny_loadPart' hl, wpAny_loadPart' hb
  exact ⟨plainId_quiet plain_eq_loop _, codeAny_builtin entry_eq_loop (by
    rw [Around.under_plainId plain_eq_loop _]
    exact lt_loop l b items items2 n n2 dd dd2 sl sl2 ns ms hi hj _ 0 rfl (Nat.zero_le _) (Nat.zero_le _) prog w A R _ ⟨hl, hb, h⟩)⟩
end
end HT
namespace L2
open PySem PySem.W PySem.Spec PyProof.Rows
section
variable {X : Cx}
def rLtLI (K : PySem.W.Frag) : R2 := fun x y H Q => ∃ a b ns ms, x = .ref a ∧ y = .ref b ∧ SqL K H a (ns.map V.int) ∧ SqL K H b (ms.map V.int) ∧ Q (.bl (HT.lexLt ns ms)) H
theorem op_ltLI (hu : X.A.units + 64 < cLine) : OpR X (compareOp .Lt) (rLtLI X.K) := by
  intro pins s σ H x y v u Q I rx ry h
  obtain ⟨a, b, ns, ms, rfl, rfl, ha, hb, q⟩ := h
  cases rx
  cases ry
  obtain ⟨its, r1, p1, _⟩ := I.list ha
  obtain ⟨its2, r2, p2, _⟩ := I.list hb
  have i1 : IntsAre its.toArray.toList ns := intsAre_of r1
  have i2 : IntsAre its2.toArray.toList ms := intsAre_of r2
  obtain ⟨⟨cls, dd, data, sl⟩, ho, hc, n, hd⟩ := id p1.isList
  obtain ⟨⟨cls2, dd2, data2, sl2⟩, ho2, hc2, n2, hd2⟩ := id p2.isList
  simp only at hc hd hc2 hd2
  subst hc hd hc2 hd2
  exact richCompare_meets_room (op := .Lt) ⟨_, ho, rfl⟩ ⟨_, ho2, rfl⟩ PySem.F.slot_list_lt PySem.F.entry_list_lt (PySem.F.args_list_lt_2 _ _) (HT.list_lt_ints a b its.toArray its2.toArray n n2 dd dd2 sl sl2 ns ms i1 i2)
    ⟨ho, ho2, show Value.bool (HT.lexLt ns ms) ≠ Value.notImplemented ∧ _ from ⟨(fun x => nomatch x), ⟨.bl (HT.lexLt ns ms), H, I, rfl, q⟩⟩⟩ (by omega)
def oLtLI (hu : X.A.units + 64 < cLine) := OpR.or (oLt (X := X)) (op_ltLI hu)
theorem mt_rfind : MtR X "str.rfind" (fun x xs H Q => ∃ y z, x = .str y ∧ xs = [.str z] ∧ Q (.int (Txt.rfind y z)) H) := by
  intro pins s σ H x xs v us Q I rx rv h
  obtain ⟨y, z, rfl, rfl, q⟩ := h
  obtain ⟨t, rfl⟩ := rx
  obtain ⟨u, rfl, t', rfl⟩ := rv.one
  exact SC.rfind ⟨.int _, H, I.tok _, ⟨_, rfl⟩, q⟩
end
end L2

end

section
namespace KM
open PySem L2
/-! ### spans of rows -/
theorem pre_nltN : ∀ (a x : List Nat), ¬ a ++ x < a
  | [], x => by rw [List.nil_append]; exact List.not_lt_nil x
  | c :: a, x => fun h => by
    rw [List.cons_append] at h
    rcases List.cons_lt_cons_iff.mp h with h | ⟨_, h⟩
    · exact absurd h (Nat.lt_irrefl _)
    · exact pre_nltN a x h
theorem row_pre_nlt {a b : List Bool} (h : a <+: b) : ¬ (rowS b).cps.toList < (rowS a).cps.toList := by
  obtain ⟨x, rfl⟩ := h
  rw [rowS_cps, rowS_cps, List.map_append]
  exact pre_nltN _ _
/-- two rows: alike, or parting -/
def Tri (a b : List Bool) : Prop := a = b ∨ Sep a b ∨ Sep b a
/-- rows part by part -/
theorem parts_tri : ∀ {F R : List (List Bool)}, F.length ≤ R.length → (∀ (j : Nat) (a b : List Bool), F[j]? = some a → R[j]? = some b → Tri b a) → (∃ R', R = F ++ R') ∨ (¬ (∃ R', R = F ++ R') ∧ (Sep R.flatten F.flatten ∨ Sep F.flatten R.flatten))
  | [], R, _, _ => .inl ⟨R, rfl⟩
  | a :: F, [], h, _ => absurd h (by simp)
  | a :: F, b :: R, h, ht => by
    have h0 := ht 0 a b rfl rfl
    have no : b ≠ a → ¬ ∃ R', b :: R = (a :: F) ++ R' := fun hn ⟨R', e⟩ => by
      rw [List.cons_append] at e
      injection e with e1 _
      exact hn e1
    have nsep : ∀ {x y : List Bool}, Sep x y → x ≠ y := fun s e => s.np (e ▸ List.prefix_refl _)
    rw [List.flatten_cons, List.flatten_cons]
    rcases h0 with rfl | s | s
    · rcases parts_tri (F := F) (R := R) (by simpa using h) (fun j x y hx hy => ht (j + 1) x y hx hy) with ⟨R', e⟩ | ⟨hn, s⟩
      · exact .inl ⟨R', by rw [e]; rfl⟩
      · refine .inr ⟨fun ⟨R', e⟩ => hn ⟨R', ?_⟩, s.imp (·.pre _) (·.pre _)⟩
        rw [List.cons_append] at e
        injection e
    · exact .inr ⟨no (nsep s), .inl (s.post _ _)⟩
    · exact .inr ⟨no (nsep s).symm, .inr (s.post _ _)⟩
/-- the row of a value lies between the ends: rows of its parts R, first rows F, the next part's bounds lo, hi -/
theorem span_low {F R' : List (List Bool)} {r : List Bool} {lo : List Bool} (h : Tri r lo) : ¬ ((rowS (F ++ r :: R').flatten).cps.toList < (rowS (F.flatten ++ lo)).cps.toList) ↔ ¬ Sep r lo := by
  rw [List.flatten_append, List.flatten_cons]
  constructor
  · intro hn s
    exact hn (sep_lt (by have := (s.post R'.flatten []).pre F.flatten; rwa [List.append_nil] at this))
  · intro hn
    rcases h with rfl | s | s
    · exact row_pre_nlt ⟨R'.flatten, by rw [List.append_assoc]⟩
    · exact absurd s hn
    · exact sep_nlt (by have := (s.post [] R'.flatten).pre F.flatten; rwa [List.append_nil] at this)
theorem span_high {F R' : List (List Bool)} {r : List Bool} {hi : List Bool} (h : Tri r hi) : ((rowS (F ++ r :: R').flatten).cps.toList < (rowS (F.flatten ++ hi)).cps.toList) ↔ Sep r hi := by
  rw [List.flatten_append, List.flatten_cons]
  constructor
  · intro hn
    rcases h with rfl | s | s
    · exact absurd hn (row_pre_nlt ⟨R'.flatten, by rw [List.append_assoc]⟩)
    · exact s
    · exact absurd hn (sep_nlt (by have := (s.post [] R'.flatten).pre F.flatten; rwa [List.append_nil] at this))
  · intro s
    exact sep_lt (by have := (s.post R'.flatten []).pre F.flatten; rwa [List.append_nil] at this)
theorem span_behind {b x : List Bool} {n : Nat} : (rowS ((b ++ false :: List.replicate n true) ++ x)).cps.toList < (rowS (b ++ [true])).cps.toList :=
  sep_lt ⟨b, List.replicate n true ++ x, [], by rw [List.append_assoc]; rfl, rfl⟩
theorem span_over {b g : List Bool} {n : Nat} (h : Sep (b ++ false :: List.replicate n true) g) : ¬ (rowS g).cps.toList < (rowS (b ++ [true])).cps.toList := by
  obtain ⟨c, x, y, e, rfl⟩ := h
  rcases Nat.lt_trichotomy c.length b.length with hl | hl | hl
  · have hp : c ++ [false] <+: b := by
      have h1 : c ++ [false] <+: b ++ false :: List.replicate n true := ⟨x, by rw [e, List.append_assoc]; rfl⟩
      exact List.prefix_of_prefix_length_le h1 (List.prefix_append ..) (by rw [List.length_append, List.length_singleton]; omega)
    obtain ⟨z, rfl⟩ := hp
    exact sep_nlt ⟨c, z ++ [true], y, by simp, rfl⟩
  · have e2 := List.append_inj e hl.symm
    rw [e2.1]
    exact row_pre_nlt ⟨y, by simp⟩
  · exfalso
    have h1 : (b ++ false :: List.replicate n true)[c.length]? = some false := by rw [e, List.getElem?_append_right (Nat.le_refl _), Nat.sub_self]; rfl
    rw [List.getElem?_append_right (by omega)] at h1
    obtain ⟨k, hk⟩ : ∃ k, c.length - b.length = k + 1 := ⟨c.length - b.length - 1, by omega⟩
    rw [hk, List.getElem?_cons_succ, List.getElem?_replicate] at h1
    split at h1 <;> cases h1
theorem no_over {n : Nat} {g : List Bool} : ¬ Sep (List.replicate n true) g := by
  rintro ⟨c, x, y, e, _⟩
  have h1 : (List.replicate n true)[c.length]? = some false := by rw [e, List.getElem?_append_right (Nat.le_refl _), Nat.sub_self]; rfl
  rw [List.getElem?_replicate] at h1
  split at h1 <;> cases h1
/-! ### keys -/
theorem lex_tri : ∀ (a b : List Int), a = b ∨ (a ≠ b ∧ HT.lexLt a b = true ∧ HT.lexLt b a = false) ∨ (a ≠ b ∧ HT.lexLt a b = false ∧ HT.lexLt b a = true)
  | [], [] => .inl rfl
  | [], y :: b => .inr (.inl ⟨by simp, rfl, rfl⟩)
  | x :: a, [] => .inr (.inr ⟨by simp, rfl, rfl⟩)
  | x :: a, y :: b => by
    rw [HT.lexLt_cons, HT.lexLt_cons]
    by_cases h : x = y
    · subst h
      rw [if_pos rfl, if_pos rfl]
      rcases lex_tri a b with rfl | ⟨h1, h2⟩ | ⟨h1, h2⟩
      · exact .inl rfl
      · exact .inr (.inl ⟨fun e => h1 (by injection e), h2⟩)
      · exact .inr (.inr ⟨fun e => h1 (by injection e), h2⟩)
    · rw [if_neg h, if_neg (fun e => h e.symm)]
      have hne : x :: a ≠ y :: b := fun e => h (by injection e)
      rcases Int.lt_or_gt_of_ne h with hl | hl
      · exact .inr (.inl ⟨hne, decide_eq_true hl, decide_eq_false (by omega)⟩)
      · exact .inr (.inr ⟨hne, decide_eq_false (by omega), decide_eq_true hl⟩)
theorem lex_irr (a : List Int) : HT.lexLt a a = false := by
  induction a with
  | nil => rfl
  | cons x a ih => rw [HT.lexLt_cons, if_pos rfl]; exact ih
/-- rows of lists of items -/
def itemsRow (e : Int → List Bool) (ks : List Int) : List Bool := (ks.map fun x => true :: e x).flatten ++ [false]
theorem items_sep {e : Int → List Bool} {P : Int → Prop} (he : ∀ x y, P x → P y → x < y → Sep (e x) (e y)) : ∀ {a b : List Int}, (∀ x, x ∈ a → P x) → (∀ x, x ∈ b → P x) → HT.lexLt a b = true → Sep (itemsRow e a) (itemsRow e b)
  | [], [], _, _, h => by cases h
  | [], y :: b, _, _, _ => ⟨[], [], e y ++ ((b.map fun x => true :: e x).flatten ++ [false]), rfl, by unfold itemsRow; simp⟩
  | x :: a, [], _, _, h => by cases h
  | x :: a, y :: b, ha, hb, h => by
    have ea : ∀ z l, itemsRow e (z :: l) = (true :: e z) ++ itemsRow e l := fun z l => by unfold itemsRow; rw [List.map_cons, List.flatten_cons, List.append_assoc]
    rw [ea, ea]
    rw [HT.lexLt_cons] at h
    by_cases hx : x = y
    · subst hx
      rw [if_pos rfl] at h
      exact (items_sep he (fun z hz => ha z (List.mem_cons_of_mem _ hz)) (fun z hz => hb z (List.mem_cons_of_mem _ hz)) h).pre _
    · rw [if_neg hx] at h
      exact (((he x y (ha x (List.mem_cons_self ..)) (hb y (List.mem_cons_self ..)) (of_decide_eq_true h)).pre [true]).post _ _)
end KM

end
namespace KR
open PySem L2 KM
def top (i : Nat) : Stmt := PySem.Challenge.pw_keyrise_k54_whole_spans_of_parts.main.body.getD i (.Pass ⟨0, 0, 0, 0⟩)
abbrev s_turned_row : Stmt := top 12
abbrev s_lower_digits : Stmt := top 13
abbrev s_fixed_row : Stmt := top 18
abbrev s_is_count : Stmt := top 14
abbrev s_count_row : Stmt := top 16
abbrev s_whole_row : Stmt := top 17
abbrev s_law_mixed : Stmt := top 52
abbrev s_law_cell_at : Stmt := top 51
abbrev s_behind_all : Stmt := top 48
abbrev s_made_of : Stmt := top 29
abbrev s_is_name : Stmt := top 41
abbrev s_names_of : Stmt := top 42
abbrev s_Span_init : Stmt := inClass (top 34) 0
abbrev s_Letters_init : Stmt := inClass (top 35) 0
abbrev s_Record_init : Stmt := inClass (top 45) 0
abbrev s_Maybe_init : Stmt := inClass (top 43) 0
abbrev s_Many_init : Stmt := inClass (top 44) 0
abbrev s_Turned_init : Stmt := inClass (top 46) 0
abbrev s_has_whole_row : Stmt := top 15
abbrev s_is_number : Stmt := top 28
abbrev s_Nothing_fits : Stmt := inClass (top 31) 0
abbrev s_Truth_fits : Stmt := inClass (top 32) 0
abbrev s_Whole_fits : Stmt := inClass (top 33) 0
abbrev s_Span_fits : Stmt := inClass (top 34) 1
abbrev s_Letters_fits : Stmt := inClass (top 35) 1
abbrev s_Maybe_fits : Stmt := inClass (top 43) 1
abbrev s_Turned_fits : Stmt := inClass (top 46) 1
abbrev s_Many_fits : Stmt := inClass (top 44) 1
abbrev s_Record_fits : Stmt := inClass (top 45) 1
abbrev s_Nothing_written : Stmt := inClass (top 31) 1
abbrev s_Truth_written : Stmt := inClass (top 32) 1
abbrev s_Whole_written : Stmt := inClass (top 33) 1
abbrev s_Span_written : Stmt := inClass (top 34) 2
abbrev s_Maybe_written : Stmt := inClass (top 43) 2
abbrev s_Turned_written : Stmt := inClass (top 46) 2
abbrev s_Many_written : Stmt := inClass (top 44) 2
abbrev s_Record_written : Stmt := inClass (top 45) 2
abbrev s_Letters_places : Stmt := inClass (top 35) 2
abbrev s_Letters_written : Stmt := inClass (top 35) 3
abbrev s_Form_row : Stmt := inClass (top 30) 0
abbrev s_span_of : Stmt := top 49
abbrev s_law_words : Stmt := top 56
abbrev s_law_form : Stmt := top 53
abbrev s_law_value : Stmt := top 54
abbrev s_law_inside : Stmt := top 59
abbrev s_law_ends : Stmt := top 60
abbrev s_law_drawn : Stmt := top 58
abbrev s_law_start : Stmt := top 57
abbrev s_law_key : Stmt := top 55
abbrev s_law : Stmt := top 61
theorem sc_turned_row : FnScope ["row"] ["row"] (defScope s_turned_row) := ⟨rfl, rfl, rfl, by decide +kernel, rfl, by decide +kernel, by decide +kernel⟩
theorem sc_lower_digits : FnScope ["n", "width"] ["n", "width"] (defScope s_lower_digits) := ⟨rfl, rfl, rfl, by decide +kernel, rfl, by decide +kernel, by decide +kernel⟩
theorem sc_fixed_row : FnScope ["n", "most"] ["n", "most"] (defScope s_fixed_row) := ⟨rfl, rfl, rfl, by decide +kernel, rfl, by decide +kernel, by decide +kernel⟩
theorem sc_is_count : FnScope ["n"] ["n"] (defScope s_is_count) := ⟨rfl, rfl, rfl, by decide +kernel, rfl, by decide +kernel, by decide +kernel⟩
theorem sc_count_row : FnScope ["n", "m", "digits", "ahead", "end"] ["n"] (defScope s_count_row) := ⟨rfl, rfl, rfl, by decide +kernel, rfl, by decide +kernel, by decide +kernel⟩
theorem sc_whole_row : FnScope ["n"] ["n"] (defScope s_whole_row) := ⟨rfl, rfl, rfl, by decide +kernel, rfl, by decide +kernel, by decide +kernel⟩
theorem sc_law_mixed : FnScope ["_law_cell", "_law_k", "_law_number"] ["_law_cell", "_law_k"] (defScope s_law_mixed) := ⟨rfl, rfl, rfl, by decide +kernel, rfl, by decide +kernel, by decide +kernel⟩
theorem sc_law_cell_at : FnScope ["_law_script", "_law_k"] ["_law_script", "_law_k"] (defScope s_law_cell_at) := ⟨rfl, rfl, rfl, by decide +kernel, rfl, by decide +kernel, by decide +kernel⟩
theorem sc_behind_all : FnScope ["row", "begun"] ["row"] (defScope s_behind_all) := ⟨rfl, rfl, rfl, by decide +kernel, rfl, by decide +kernel, by decide +kernel⟩
theorem sc_made_of : FnScope ["text", "signs"] ["text", "signs"] (defScope s_made_of) := ⟨rfl, rfl, rfl, by decide +kernel, rfl, by decide +kernel, by decide +kernel⟩
theorem sc_is_name : FnScope ["name"] ["name"] (defScope s_is_name) := ⟨rfl, rfl, rfl, by decide +kernel, rfl, by decide +kernel, by decide +kernel⟩
theorem sc_names_of : FnScope ["parts", "names"] ["parts"] (defScope s_names_of) := ⟨rfl, rfl, rfl, by decide +kernel, rfl, by decide +kernel, by decide +kernel⟩
theorem sc_Span_init : FnScope ["self", "low", "high"] ["self", "low", "high"] (defScope s_Span_init) := ⟨rfl, rfl, rfl, by decide +kernel, rfl, by decide +kernel, by decide +kernel⟩
theorem sc_Letters_init : FnScope ["self", "signs"] ["self", "signs"] (defScope s_Letters_init) := ⟨rfl, rfl, rfl, by decide +kernel, rfl, by decide +kernel, by decide +kernel⟩
theorem sc_Record_init : FnScope ["self", "parts"] ["self", "parts"] (defScope s_Record_init) := ⟨rfl, rfl, rfl, by decide +kernel, rfl, by decide +kernel, by decide +kernel⟩
theorem sc_Maybe_init : FnScope ["self", "inner"] ["self", "inner"] (defScope s_Maybe_init) := ⟨rfl, rfl, rfl, by decide +kernel, rfl, by decide +kernel, by decide +kernel⟩
theorem sc_Many_init : FnScope ["self", "inner"] ["self", "inner"] (defScope s_Many_init) := ⟨rfl, rfl, rfl, by decide +kernel, rfl, by decide +kernel, by decide +kernel⟩
theorem sc_Turned_init : FnScope ["self", "inner"] ["self", "inner"] (defScope s_Turned_init) := ⟨rfl, rfl, rfl, by decide +kernel, rfl, by decide +kernel, by decide +kernel⟩
theorem sc_has_whole_row : FnScope ["n"] ["n"] (defScope s_has_whole_row) := ⟨rfl, rfl, rfl, by decide +kernel, rfl, by decide +kernel, by decide +kernel⟩
theorem sc_is_number : FnScope ["value"] ["value"] (defScope s_is_number) := ⟨rfl, rfl, rfl, by decide +kernel, rfl, by decide +kernel, by decide +kernel⟩
theorem sc_Nothing_fits : FnScope ["self", "value"] ["self", "value"] (defScope s_Nothing_fits) := ⟨rfl, rfl, rfl, by decide +kernel, rfl, by decide +kernel, by decide +kernel⟩
theorem sc_Truth_fits : FnScope ["self", "value"] ["self", "value"] (defScope s_Truth_fits) := ⟨rfl, rfl, rfl, by decide +kernel, rfl, by decide +kernel, by decide +kernel⟩
theorem sc_Whole_fits : FnScope ["self", "value"] ["self", "value"] (defScope s_Whole_fits) := ⟨rfl, rfl, rfl, by decide +kernel, rfl, by decide +kernel, by decide +kernel⟩
theorem sc_Span_fits : FnScope ["self", "value"] ["self", "value"] (defScope s_Span_fits) := ⟨rfl, rfl, rfl, by decide +kernel, rfl, by decide +kernel, by decide +kernel⟩
theorem sc_Letters_fits : FnScope ["self", "value"] ["self", "value"] (defScope s_Letters_fits) := ⟨rfl, rfl, rfl, by decide +kernel, rfl, by decide +kernel, by decide +kernel⟩
theorem sc_Maybe_fits : FnScope ["self", "value"] ["self", "value"] (defScope s_Maybe_fits) := ⟨rfl, rfl, rfl, by decide +kernel, rfl, by decide +kernel, by decide +kernel⟩
theorem sc_Turned_fits : FnScope ["self", "value"] ["self", "value"] (defScope s_Turned_fits) := ⟨rfl, rfl, rfl, by decide +kernel, rfl, by decide +kernel, by decide +kernel⟩
theorem sc_Many_fits : FnScope ["self", "value"] ["self", "value"] (defScope s_Many_fits) := ⟨rfl, rfl, rfl, by decide +kernel, rfl, by decide +kernel, by decide +kernel⟩
theorem sc_Record_fits : FnScope ["self", "value"] ["self", "value"] (defScope s_Record_fits) := ⟨rfl, rfl, rfl, by decide +kernel, rfl, by decide +kernel, by decide +kernel⟩
theorem sc_Nothing_written : FnScope ["self", "value"] ["self", "value"] (defScope s_Nothing_written) := ⟨rfl, rfl, rfl, by decide +kernel, rfl, by decide +kernel, by decide +kernel⟩
theorem sc_Truth_written : FnScope ["self", "value"] ["self", "value"] (defScope s_Truth_written) := ⟨rfl, rfl, rfl, by decide +kernel, rfl, by decide +kernel, by decide +kernel⟩
theorem sc_Whole_written : FnScope ["self", "value"] ["self", "value"] (defScope s_Whole_written) := ⟨rfl, rfl, rfl, by decide +kernel, rfl, by decide +kernel, by decide +kernel⟩
theorem sc_Span_written : FnScope ["self", "value"] ["self", "value"] (defScope s_Span_written) := ⟨rfl, rfl, rfl, by decide +kernel, rfl, by decide +kernel, by decide +kernel⟩
theorem sc_Maybe_written : FnScope ["self", "value"] ["self", "value"] (defScope s_Maybe_written) := ⟨rfl, rfl, rfl, by decide +kernel, rfl, by decide +kernel, by decide +kernel⟩
theorem sc_Turned_written : FnScope ["self", "value"] ["self", "value"] (defScope s_Turned_written) := ⟨rfl, rfl, rfl, by decide +kernel, rfl, by decide +kernel, by decide +kernel⟩
theorem sc_Many_written : FnScope ["self", "value"] ["self", "value"] (defScope s_Many_written) := ⟨rfl, rfl, rfl, by decide +kernel, rfl, by decide +kernel, by decide +kernel⟩
theorem sc_Record_written : FnScope ["self", "value"] ["self", "value"] (defScope s_Record_written) := ⟨rfl, rfl, rfl, by decide +kernel, rfl, by decide +kernel, by decide +kernel⟩
theorem sc_Letters_places : FnScope ["self", "text"] ["self", "text"] (defScope s_Letters_places) := ⟨rfl, rfl, rfl, by decide +kernel, rfl, by decide +kernel, by decide +kernel⟩
theorem sc_Letters_written : FnScope ["self", "value", "most"] ["self", "value"] (defScope s_Letters_written) := ⟨rfl, rfl, rfl, by decide +kernel, rfl, by decide +kernel, by decide +kernel⟩
theorem sc_Form_row : FnScope ["self", "value"] ["self", "value"] (defScope s_Form_row) := ⟨rfl, rfl, rfl, by decide +kernel, rfl, by decide +kernel, by decide +kernel⟩
theorem sc_span_of : FnScope ["form", "first", "low", "high", "begun", "further", "start", "end"] ["form", "first", "low", "high"] (defScope s_span_of) := ⟨rfl, rfl, rfl, by decide +kernel, rfl, by decide +kernel, by decide +kernel⟩
theorem sc_law_words : FnScope ["_law_script", "_law_free", "_law_number", "_law_some", "_law_found", "_law_many", "_law_k", "_law_other"] ["_law_script"] (defScope s_law_words) := ⟨rfl, rfl, rfl, by decide +kernel, rfl, by decide +kernel, by decide +kernel⟩
theorem sc_law_form : FnScope ["_law_word"] ["_law_word"] (defScope s_law_form) := ⟨rfl, rfl, rfl, by decide +kernel, rfl, by decide +kernel, by decide +kernel⟩
theorem sc_law_value : FnScope ["_law_word", "_law_number"] ["_law_word", "_law_number"] (defScope s_law_value) := ⟨rfl, rfl, rfl, by decide +kernel, rfl, by decide +kernel, by decide +kernel⟩
theorem sc_law_inside : FnScope ["_law_words_here", "_law_value_here", "_law_first", "_law_low", "_law_high", "_law_k", "_law_word", "_law_key_here"] ["_law_words_here", "_law_value_here", "_law_first", "_law_low", "_law_high"] (defScope s_law_inside) := ⟨rfl, rfl, rfl, by decide +kernel, rfl, by decide +kernel, by decide +kernel⟩
theorem sc_law_ends : FnScope ["_law_forms", "_law_first", "_law_low", "_law_high", "_law_start_here", "_law_end"] ["_law_forms", "_law_first", "_law_low", "_law_high"] (defScope s_law_ends) := ⟨rfl, rfl, rfl, by decide +kernel, rfl, by decide +kernel, by decide +kernel⟩
theorem sc_law_drawn : FnScope ["_law_script", "_law_words_here", "_law_first", "_law_k", "_law_free", "_law_share", "_law_value_here", "_law_j", "_law_number"] ["_law_script", "_law_words_here", "_law_first", "_law_k"] (defScope s_law_drawn) := ⟨rfl, rfl, rfl, by decide +kernel, rfl, by decide +kernel, by decide +kernel⟩
theorem sc_law_start : FnScope ["_law_script", "_law_words_here", "_law_number", "_law_first", "_law_k", "_law_other", "_law_word", "_law_low", "_law_high"] ["_law_script", "_law_words_here"] (defScope s_law_start) := ⟨rfl, rfl, rfl, by decide +kernel, rfl, by decide +kernel, by decide +kernel⟩
theorem sc_law_key : FnScope ["_law_word", "_law_value_here"] ["_law_word", "_law_value_here"] (defScope s_law_key) := ⟨rfl, rfl, rfl, by decide +kernel, rfl, by decide +kernel, by decide +kernel⟩
theorem sc_law : FnScope ["_law_script", "_law_words_here", "_law_forms", "_law_form_here", "_law_first", "_law_low", "_law_high", "_law_handed", "_law_found", "_law_k", "_law_value_here", "_law_row", "_law_inside_here"] ["_law_script"] (defScope s_law) := ⟨rfl, rfl, rfl, by decide +kernel, rfl, by decide +kernel, by decide +kernel⟩
/-- Python's own names are not given another meaning -/
structure NB (mg : Str → Option Value) : Prop where
  len_ : mg "len" = none
  range_ : mg "range" = none
  int_ : mg "int" = none
  str_ : mg "str" = none
  bool_ : mg "bool" = none
  tuple_ : mg "tuple" = none
  isinstance_ : mg "isinstance" = none
  list_ : mg "list" = none
  all_ : mg "all" = none
  zip_ : mg "zip" = none
  set_ : mg "set" = none
section
open PySem L2 KM
variable {P : Program} {w : World} {K : PySem.W.Frag} {mg : Str → Option Value} {base : Heap}
seal PE PT PW PA PS PSs PG PGs PI PTs PC PO

local macro_rules | `(tactic| walk_at "g1") => `(tactic| first
  | with_reducible exact True.intro
  | refine ⟨_, rfl, ?_⟩
  | refine ⟨_, _, rfl, rfl, ?_⟩
  | refine Or.inl ⟨_, _, rfl, rfl, ?_⟩
  | refine Or.inr ⟨_, _, rfl, rfl, ?_⟩
  | refine ⟨rfl, ?_⟩
  | refine ⟨(by first | omega | decide), ?_⟩)
local macro_rules | `(tactic| walk_at "g") => `(tactic| repeat walk_at "g1")
theorem iteD {p A B : Prop} [Decidable p] (h1 : p → A) (h2 : ¬ p → B) : if decide p = true then A else B := by
  by_cases h : p
  · rw [if_pos (decide_eq_true h)]; exact h1 h
  · rw [if_neg (by simpa using h)]; exact h2 h
theorem iteN {p A B : Prop} [Decidable p] (h : ¬ p) (h2 : B) : if decide p = true then A else B := by rw [if_neg (by simpa using h)]; exact h2
theorem iteY {p A B : Prop} [Decidable p] (h : p) (h2 : A) : if decide p = true then A else B := by rw [if_pos (decide_eq_true h)]; exact h2

/-! ### rows of signs -/
def spTurnedRow : Sp := fun vs H Q _ => ∃ l : List Bool, vs = [.str (rowS l)] ∧ l.length ≤ 100000 ∧ Q (.str (rowS (l.map (!·)))) H
theorem small5 {n : Nat} (h : n ≤ 100000) : n ≤ sizeLine := Nat.le_trans h (by decide)
theorem map_ones (l : List Bool) {fe : Nat → V} (g : Bool → Bool) (h : ∀ i, i < l.length → fe i = .str (rowS [g (l.getD i false)])) : (List.range l.length).map fe = ((l.map g).map fun b => rowS [b]).map V.str := by
  apply List.ext_getElem?
  intro i
  rw [List.getElem?_map, List.getElem?_map, List.getElem?_map, List.getElem?_map]
  rcases Nat.lt_or_ge i l.length with z | z
  · rw [List.getElem?_range z, List.getElem?_eq_getElem z]
    have := h i z
    rw [List.getD_eq_getElem?_getD, List.getElem?_eq_getElem z] at this
    exact congrArg some this
  · rw [List.getElem?_eq_none (by simpa using z), List.getElem?_eq_none z]; rfl
theorem join_len (l : List Bool) : ((l.map fun b => rowS [b]).map (·.length)).sum + (l.map fun b => rowS [b]).length * (Str.ofString "").length = l.length := by
  have e : (Str.ofString "").length = 0 := by decide +kernel
  rw [e, Nat.mul_zero, Nat.add_zero]
  induction l with
  | nil => rfl
  | cons b r ih => simp only [List.map_cons, List.sum_cons, ih, rowS_length, List.length_cons, List.length_nil]; omega
theorem one_slot {σ : St} (h : σ.length = 1) : ∃ z, σ = [z] := by
  match σ, h with
  | [z], _ => exact ⟨z, rfl⟩
theorem ok_turned_row {f : Addr} {fd : FuncData} (F : FunAt K mg "turned_row" s_turned_row ["row"] f fd) : DefOk P w K mg base 1 "turned_row" ["row"] spTurnedRow := by
  refine F.ok sc_turned_row (fun vs H Q E h => ?_) (fun cdv A outer s H vs Q E hr h => ?_)
  · obtain ⟨l, rfl, _⟩ := h; rfl
  obtain ⟨l, rfl, hl, q⟩ := h
  refine ⟨_, (pss_one (ps_ret (pe_bm PySem.F.plainAttrs_str PySem.F.slot_str_join PySem.F.type_str_join mt_join pe_str (pa_cons (pe_comp ["sign"] [] rfl (by decide +kernel) trivial (piAll (pv 0)) (fun _ _ _ _ _ => (pg_name (i := 0) (show (["sign"] : List Str).Nodup by decide +kernel) rfl (by first | exact Or.inl rfl | exact Or.inr rfl))) (fun _ _ _ _ _ => pts_nil) (fun _ _ _ _ _ => (pe_ifExp (pt_cmpR oEq (pv 0) pe_str (nomark _)) pe_str pe_str))) pa_nil)))), ?_⟩
  refine ⟨rfl, .inr ⟨_, rfl, _, rfl, fun D hD => ?_⟩⟩
  refine comp_all l.length (fun i => .str (rowS [l.getD i false])) (fun i => .str (rowS [!l.getD i false])) (fun σ => σ.length = 1) (small5 hl) ?_ ?_ ?_ ?_ ?_ ?_
  · rfl
  · intro i H1 hi; show i < (rowS l).cps.size; simpa [rowS] using hi
  · intro H1; show (rowS l).cps.size ≤ l.length; simp [rowS]
  · rintro i H1 x H2 hi ⟨rfl, c, hc, rfl⟩
    exact ⟨rfl, row_sign hc⟩
  · intro i σ1 H1 hi hS R hR
    obtain ⟨z, rfl⟩ := one_slot hS
    refine ⟨_, rfl, rfl, _, rfl, ?_⟩
    revert hR
    rw [s0, s1, rowS_dec]
    cases l.getD i false
    · intro hR; exact iteT (hR _ (by rfl))
    · intro hR; exact iteF (hR _ (by rfl))
  · refine ⟨_, D, (l.map (!·)).map fun b => rowS [b], rfl, rfl, SqL.of ?_, ?_, H, .refl ?_, ?_⟩
    · rw [upd_same]; exact congrArg (fun x => some (HO.lst x)) (map_ones l (!·) fun i _ => rfl)
    · rw [join_len, List.length_map]; omega
    · exact same_new hD
    · rw [join_bits]; exact q
def spLowerDigits : Sp := fun vs H Q _ => ∃ n d : Nat, vs = [.int n, .int d] ∧ d ≤ 100000 ∧ Q (.str (rowS (bitsW n d))) H
theorem bitsW_range (n d : Nat) : bitsW n d = (List.range d).map fun i => n.testBit (d - 1 - i) := by
  induction d with
  | zero => rfl
  | succ d ih =>
    rw [bitsW, ih, List.range_succ_eq_map, List.map_cons, List.map_map]
    congr 1
    apply List.map_congr_left
    intro i hi
    show n.testBit (d - 1 - i) = n.testBit (d + 1 - 1 - (i + 1))
    congr 1
    omega
theorem bit_and (n k : Nat) : Builtin.bitAnd ((n : Int) / 2 ^ k) 1 = ((n.testBit k).toNat : Int) := by
  rw [PyProof.Rows.bitAnd_m1]
  have e : ((n : Int) / 2 ^ k) % 2 = ((n / 2 ^ k % 2 : Nat) : Int) := by
    rw [Int.natCast_emod, Int.natCast_ediv, Int.natCast_pow]; rfl
  rw [e, Nat.testBit_eq_decide_div_mod_eq]
  have : n / 2 ^ k % 2 < 2 := Nat.mod_lt _ (by decide)
  by_cases q : n / 2 ^ k % 2 = 1
  · simp [q]
  · have : n / 2 ^ k % 2 = 0 := by omega
    simp [this]
theorem ok_lower_digits {f : Addr} {fd : FuncData} (nb : NB mg) (F : FunAt K mg "lower_digits" s_lower_digits ["n", "width"] f fd) : DefOk P w K mg base 1 "lower_digits" ["n", "width"] spLowerDigits := by
  refine F.ok sc_lower_digits (fun vs H Q E h => ?_) (fun cdv A outer s H vs Q E hr h => ?_)
  · obtain ⟨n, d, rfl, _⟩ := h; rfl
  obtain ⟨n, d, rfl, hl, q⟩ := h
  refine ⟨_, (pss_one (ps_ret (pe_bm PySem.F.plainAttrs_str PySem.F.slot_str_join PySem.F.type_str_join mt_join pe_str (pa_cons (pe_comp ["k"] [(0, "n")] rfl (by decide +kernel) ⟨rfl, .inl rfl, trivial⟩ (pi_rangeD rfl nb.range_ (pa_cons (pe_op oSub (pv 1) pe_int) (pa_cons (pe_un un_neg pe_int) (pa_cons (pe_un un_neg pe_int) pa_nil)))) (fun _ _ _ _ _ => (pg_name (i := 0) (show (["k", "n"] : List Str).Nodup by decide +kernel) rfl (by first | exact Or.inl rfl | exact Or.inr rfl))) (fun _ _ _ _ _ => pts_nil) (fun _ _ _ _ _ => (pe_ifExp (pt_cmpR oEq (pe_op op_and (pe_op op_shr (pv 1) (pv 0)) pe_int) pe_int (nomark _)) pe_str pe_str))) pa_nil)))), ?_⟩
  refine ⟨rfl, _, rfl, _, _, rfl, rfl, _, rfl, _, rfl, _, _, rfl, ⟨by omega, by omega, by decide, by decide⟩, fun D hD => ?_⟩
  have hn : (((d : Int) - 1) - (-1)).toNat = d := by omega
  refine comp_all (((d : Int) - 1) - (-1)).toNat (fun i => .int ((d : Int) - 1 + i * (-1))) (fun i => .str (rowS [n.testBit (d - 1 - i)])) (fun σ => ∃ z, σ = [z, some (.int n)]) (by rw [hn]; exact small5 hl) ?_ ?_ ?_ ?_ ?_ ?_
  · exact ⟨_, rfl⟩
  · intro i H1 hi; exact hi
  · intro H1; exact Nat.le_refl _
  · rintro i H1 x H2 hi ⟨rfl, rfl⟩
    exact ⟨rfl, rfl⟩
  · rintro i σ1 H1 hi ⟨z, rfl⟩ R hR
    rw [hn] at hi
    have ej : ((d : Int) - 1 + (i : Int) * (-1)).toNat = d - 1 - i := by omega
    refine ⟨_, rfl, _, rfl, _, _, rfl, rfl, (by omega), _, _, rfl, rfl, rfl, _, rfl, ?_⟩
    have hb : Builtin.bitAnd ((n : Int) / 2 ^ ((d : Int) - 1 + (i : Int) * (-1)).toNat) 1 = ((n.testBit (d - 1 - i)).toNat : Int) := by rw [ej]; exact bit_and _ _
    revert hR
    rw [s0, s1]
    cases e : n.testBit (d - 1 - i)
    · rw [e] at hb
      intro hR; exact iteN (fun c => absurd (hb.symm.trans (V.int.inj c)) (by decide)) (hR _ ⟨_, rfl⟩)
    · rw [e] at hb
      intro hR; exact iteY (congrArg V.int hb) (hR _ ⟨_, rfl⟩)
  · refine ⟨_, D, (bitsW n d).map fun b => rowS [b], rfl, rfl, SqL.of ?_, ?_, H, .refl ?_, ?_⟩
    · rw [upd_same, hn, bitsW_range, List.map_map, List.map_map]; rfl
    · rw [join_len, bitsW_length]; omega
    · exact same_new hD
    · rw [join_bits]; exact q
def spFixedRow : Sp := fun vs H Q _ => ∃ n m : Nat, vs = [.int n, .int m] ∧ n ≤ m ∧ blen m ≤ 100000 ∧ Q (.str (rowS (bitsW n (blen m)))) H
theorem ok_fixed_row {f : Addr} {fd : FuncData} (F : FunAt K mg "fixed_row" s_fixed_row ["n", "most"] f fd) (D_lower_digits : DefOk P w K mg base 1 "lower_digits" ["n", "width"] spLowerDigits) : DefOk P w K mg base 2 "fixed_row" ["n", "most"] spFixedRow := by
  refine F.ok sc_fixed_row (fun vs H Q E h => ?_) (fun cdv A outer s H vs Q E hr h => ?_)
  · obtain ⟨n, m, rfl, _⟩ := h; rfl
  obtain ⟨n, m, rfl, hl, hb, q⟩ := h
  refine ⟨_, (pss_cons (ps_if (PW.pt (pw_or (pt_cmpR oLt (pv 0) pe_int (nomark _)) (pw_or1 (pt_cmpR oGt (pv 0) (pv 1) (nomark _))))) (pss_one ps_never) pss_nil)
    (pss_one (ps_ret (pe_callD D_lower_digits hr (pa_cons (pv 0) (pa_cons (pe_bm0 PySem.F.plainAttrs_int PySem.F.slot_int_bit_length PySem.F.type_int_bit_length mt_bitlen (pv 1)) pa_nil)))))), ?_⟩
  refine ⟨_, rfl, .inl ⟨_, _, rfl, rfl, _, rfl, ?_⟩⟩
  refine iteN (by omega) ⟨_, rfl, _, rfl, _, _, rfl, rfl, _, rfl, ?_⟩
  refine iteN (by omega) ⟨_, rfl, _, rfl, rfl, _, rfl, rfl, ?_⟩
  rw [bits_eq]
  exact ⟨n, blen m, rfl, hb, H, .refl (Same.refl _), q⟩

/-! ### the source of signs -/
/-- what the top has made of the class -/
structure SrcCls (K : PySem.W.Frag) (C : Addr) : Prop where
  cl : Cls K C
  nS : NoAttr K C "signs"
  nP : NoAttr K C "place"
  nT : NoAttr K C "turned"
  nE : NoAttr K C "endless"
  nW : NoAttr K C "wished"
/-! ### bounded numbers read -/
/-! ### counts -/
def spCountRow : Sp := fun vs H Q _ => ∃ n : Nat, vs = [.int n] ∧ n + 1 < 2 ^ 255 ∧ Q (.str (rowS (cnt n))) H
theorem cend_len (e : Nat) : (cend e).length ≤ 1 := by unfold cend; split <;> simp
theorem blen_big {n k : Nat} (h : 2 ^ k ≤ n) : k < blen n := by
  rcases Nat.lt_or_ge k (blen n) with z | z
  · exact z
  · have := blen_lt n
    have := Nat.pow_le_pow_right (show 0 < 2 by decide) z
    omega
def CountIn (n : Int) : Prop := 0 ≤ n ∧ n < 2 ^ 255 - 1
instance (n : Int) : Decidable (CountIn n) := inferInstanceAs (Decidable (_ ∧ _))
def spIsCount : Sp := fun vs H Q _ => ∃ n : Int, vs = [.int n] ∧ Q (.bl (decide (CountIn n))) H
theorem countIn_blen {m : Nat} : CountIn (m : Int) ↔ blen (m + 1) ≤ 255 := by
  unfold CountIn
  constructor
  · intro ⟨_, h⟩; exact blen_le (by omega)
  · intro h
    rcases Nat.lt_or_ge (m + 1) (2 ^ 255) with z | z
    · omega
    · have := blen_big z; omega
theorem ok_is_count {f : Addr} {fd : FuncData} (g_MOST_DIGITS : GlobV mg "MOST_DIGITS" (.int 255)) (F : FunAt K mg "is_count" s_is_count ["n"] f fd) : DefOk P w K mg base 1 "is_count" ["n"] spIsCount := by
  refine F.ok sc_is_count (fun vs H Q E h => ?_) (fun cdv A outer s H vs Q E hr h => ?_)
  · obtain ⟨n, rfl, _⟩ := h; rfl
  obtain ⟨n, rfl, q⟩ := h
  refine ⟨_, (pss_one (ps_ret (pe_and (pe_cmpR oGe (pv 0) pe_int (nomark _)) (pe_one (pe_cmpR oLe (pe_bm0 PySem.F.plainAttrs_int PySem.F.slot_int_bit_length PySem.F.type_int_bit_length mt_bitlen (pe_op oAdd (pv 0) pe_int)) (pe_globV g_MOST_DIGITS) (nomark _)))))), ?_⟩
  refine ⟨_, rfl, _, _, rfl, rfl, _, rfl, ?_⟩
  refine iteD (fun c => ?_) (fun c => ?_)
  · refine ⟨_, rfl, .inl ⟨_, _, rfl, rfl, rfl, _, rfl, rfl, _, _, rfl, rfl, H, .refl (Same.refl _), ?_⟩⟩
    obtain ⟨m, rfl⟩ : ∃ m : Nat, n = m := ⟨n.toNat, by omega⟩
    rw [show ((m : Int) + 1) = ((m + 1 : Nat) : Int) from rfl, bits_eq (m + 1)]
    have e : decide (((blen (m + 1) : Nat) : Int) ≤ 255) = decide (CountIn (m : Int)) := by
      rw [decide_eq_decide, countIn_blen]; omega
    dsimp only
    rw [e]
    exact q
  · refine ⟨H, .refl (Same.refl _), ?_⟩
    have e : decide (CountIn n) = false := decide_eq_false fun z => c z.1
    rw [← e]; exact q
theorem ok_count_row {f : Addr} {fd : FuncData} (g_MOST_AHEAD : GlobV mg "MOST_AHEAD" (.int 7)) (F : FunAt K mg "count_row" s_count_row ["n"] f fd) (D_is_count : DefOk P w K mg base 1 "is_count" ["n"] spIsCount) (D_lower_digits : DefOk P w K mg base 1 "lower_digits" ["n", "width"] spLowerDigits) : DefOk P w K mg base 2 "count_row" ["n"] spCountRow := by
  refine F.ok sc_count_row (fun vs H Q E h => ?_) (fun cdv A outer s H vs Q E hr h => ?_)
  · obtain ⟨n, rfl, _⟩ := h; rfl
  obtain ⟨n, rfl, hn, q⟩ := h
  refine ⟨_, (pss_cons (ps_if (pt_not (pt_truth (pe_callD D_is_count hr (pa_cons (pv 0) pa_nil)) (fun _ => rfl))) (pss_one ps_never) pss_nil)
    (pss_cons (ps_set (i := 1) sc_count_row.nd rfl (by first | exact Or.inl rfl | exact Or.inr rfl) (pe_op oAdd (pv 0) pe_int))
    (pss_cons (ps_set (i := 2) sc_count_row.nd rfl (by first | exact Or.inl rfl | exact Or.inr rfl) (pe_bm0 PySem.F.plainAttrs_int PySem.F.slot_int_bit_length PySem.F.type_int_bit_length mt_bitlen (pv 1)))
    (pss_cons (ps_set (i := 3) sc_count_row.nd rfl (by first | exact Or.inl rfl | exact Or.inr rfl) (pe_op oSub (pe_bm0 PySem.F.plainAttrs_int PySem.F.slot_int_bit_length PySem.F.type_int_bit_length mt_bitlen (pv 2)) pe_int))
    (pss_cons (ps_set (i := 4) sc_count_row.nd rfl (by first | exact Or.inl rfl | exact Or.inr rfl) (pe_ifExp (pt_cmpR oEq (pv 3) (pe_globV g_MOST_AHEAD) (nomark _)) pe_str pe_str))
    (pss_one (ps_ret (pe_op oAdd (pe_op oAdd (pe_op oAdd (pe_op oMul pe_str (pv 3)) (pv 4)) (pe_callD D_lower_digits hr (pa_cons (pv 2) (pa_cons (pv 3) pa_nil)))) (pe_callD D_lower_digits hr (pa_cons (pv 1) (pa_cons (pe_op oSub (pv 2) pe_int) pa_nil))))))))))), ?_⟩
  have hd : blen (n + 1) ≤ 255 := blen_le hn
  have hp : 0 < blen (n + 1) := blen_pos (by omega)
  have he : blen (blen (n + 1)) ≤ 8 := blen_le (by omega)
  have hq : 0 < blen (blen (n + 1)) := blen_pos (by omega)
  have b1 := bits_eq (n + 1)
  have b2 := bits_eq (blen (n + 1))
  refine ⟨_, rfl, _, rfl, _, rfl, ?_⟩
  rw [decide_eq_true (countIn_blen.mpr hd)]
  refine iteF ⟨_, rfl, .inl ⟨_, _, rfl, rfl, _, rfl, rfl, _, rfl, rfl, ?_⟩⟩
  rw [show ((n : Int) + 1) = ((n + 1 : Nat) : Int) from rfl, b1]
  refine ⟨_, rfl, rfl, _, rfl, rfl, _, _, rfl, rfl, ?_⟩
  rw [b2]
  obtain ⟨k, hk⟩ : ∃ k : Nat, ((blen (blen (n + 1)) : Nat) : Int) - 1 = k := ⟨blen (blen (n + 1)) - 1, by omega⟩
  have hk' : k = blen (blen (n + 1)) - 1 := by omega
  dsimp only
  rw [hk]
  have a1 : (k : Int) < 2 ^ 40 := by omega
  have a2 : -(2 ^ 40) < (k : Int) := by omega
  have a3 : (Str.ofString "1").length * ((k : Nat) : Int).toNat ≤ sizeLine := by rw [s1, rowS_length]; exact small5 (by show 1 * _ ≤ _; omega)
  have a4 : (Txt.mul (Str.ofString "1") (k : Int)).length + (rowS (cend (blen (blen (n + 1))))).length ≤ sizeLine := by
    rw [s1, mul_row, rowS_length, rowS_length, List.length_replicate]
    have := cend_len (blen (blen (n + 1)))
    exact small5 (by omega)
  have a5 : (Txt.mul (Str.ofString "1") (k : Int) ++ rowS (cend (blen (blen (n + 1))))).length + (rowS (bitsW (blen (n + 1)) k)).length ≤ sizeLine := by
    rw [s1, mul_row, rowS_append, rowS_length, rowS_length, List.length_append, List.length_replicate, bitsW_length]
    have := cend_len (blen (blen (n + 1)))
    exact small5 (by omega)
  have a6 : (Txt.mul (Str.ofString "1") (k : Int) ++ rowS (cend (blen (blen (n + 1)))) ++ rowS (bitsW (blen (n + 1)) k)).length + (rowS (bitsW (n + 1) (blen (n + 1) - 1))).length ≤ sizeLine := by
    rw [s1, mul_row, rowS_append, rowS_append, rowS_length, rowS_length, List.length_append, List.length_append, List.length_replicate, bitsW_length, bitsW_length]
    have := cend_len (blen (blen (n + 1)))
    exact small5 (by omega)
  have ar : Txt.mul (Str.ofString "1") (k : Int) ++ rowS (cend (blen (blen (n + 1)))) ++ rowS (bitsW (blen (n + 1)) k) ++ rowS (bitsW (n + 1) (blen (n + 1) - 1)) = rowS (cnt n) := by
    rw [s1, mul_row, rowS_append, rowS_append, rowS_append]
    unfold cnt
    rw [hk', List.append_assoc, List.append_assoc]
    rfl
  have ad : [V.int ((n : Int) + 1), V.int (((blen (n + 1) : Nat) : Int) - 1)] = [.int ((n + 1 : Nat) : Int), .int ((blen (n + 1) - 1 : Nat) : Int)] := by
    have : ((blen (n + 1) : Nat) : Int) - 1 = ((blen (n + 1) - 1 : Nat) : Int) := by omega
    rw [this]; rfl
  refine ⟨_, rfl, rfl, _, rfl, ?_⟩
  refine iteD (fun c => ?_) (fun c => ?_)
  · have hend : (Str.ofString "") = rowS (cend (blen (blen (n + 1)))) := by
      have := V.int.inj c
      rw [sE]; unfold cend; rw [if_pos (by omega)]
    rw [hend]
    refine ⟨_, rfl, .inr ⟨_, _, rfl, rfl, a1, a2, a3, _, rfl, .inr ⟨_, _, rfl, rfl, a4, _, rfl, _, rfl, _, _, rfl, (by omega), .inr ⟨_, _, rfl, rfl, a5, ?_⟩⟩⟩⟩
    refine ⟨_, rfl, _, rfl, _, _, rfl, rfl, n + 1, blen (n + 1) - 1, ad, (by omega), .inr ⟨_, _, rfl, rfl, a6, H, .refl (Same.refl _), ?_⟩⟩
    rw [ar]
    exact q
  · have hend : (Str.ofString "0") = rowS (cend (blen (blen (n + 1)))) := by
      have : ¬ k = 7 := fun z => c (by rw [z]; rfl)
      rw [s0]; unfold cend; rw [if_neg (by omega)]
    rw [hend]
    refine ⟨_, rfl, .inr ⟨_, _, rfl, rfl, a1, a2, a3, _, rfl, .inr ⟨_, _, rfl, rfl, a4, _, rfl, _, rfl, _, _, rfl, (by omega), .inr ⟨_, _, rfl, rfl, a5, ?_⟩⟩⟩⟩
    refine ⟨_, rfl, _, rfl, _, _, rfl, rfl, n + 1, blen (n + 1) - 1, ad, (by omega), .inr ⟨_, _, rfl, rfl, a6, H, .refl (Same.refl _), ?_⟩⟩
    rw [ar]
    exact q
/-! ### whole numbers -/
def WholeIn (n : Int) : Prop := -(2 ^ 255) < n ∧ n < 2 ^ 255 - 1
def spWholeRow : Sp := fun vs H Q _ => ∃ n : Int, vs = [.int n] ∧ WholeIn n ∧ Q (.str (rowS (whl n))) H
theorem neg_nat {n : Int} (h : n < 0) (b : -(2 ^ 255) < n) : ∃ m : Nat, -1 - n = m ∧ m + 1 < 2 ^ 255 ∧ whl n = false :: (cnt m).map (!·) := by
  refine ⟨(-1 - n).toNat, by omega, by omega, ?_⟩
  unfold whl; rw [if_pos h]
theorem pos_nat {n : Int} (h : ¬ n < 0) (b : n < 2 ^ 255 - 1) : ∃ m : Nat, n = m ∧ m + 1 < 2 ^ 255 ∧ whl n = true :: cnt m := by
  refine ⟨n.toNat, by omega, by omega, ?_⟩
  unfold whl; rw [if_neg h]
theorem cnt_len5 {n : Nat} (h : n + 1 < 2 ^ 255) : (cnt n).length ≤ 269 := by
  have := cnt_length h
  have := blen_le h
  omega
theorem cons_row (b : Bool) (l : List Bool) : rowS [b] ++ rowS l = rowS (b :: l) := by rw [rowS_append]; rfl
theorem ok_whole_row {f : Addr} {fd : FuncData} (F : FunAt K mg "whole_row" s_whole_row ["n"] f fd) (D_count_row : DefOk P w K mg base 2 "count_row" ["n"] spCountRow) (D_turned_row : DefOk P w K mg base 1 "turned_row" ["row"] spTurnedRow) : DefOk P w K mg base 3 "whole_row" ["n"] spWholeRow := by
  refine F.ok sc_whole_row (fun vs H Q E h => ?_) (fun cdv A outer s H vs Q E hr h => ?_)
  · obtain ⟨n, rfl, _⟩ := h; rfl
  obtain ⟨n, rfl, hn, q⟩ := h
  refine ⟨_, (pss_cons (ps_if (pt_cmpR oLt (pv 0) pe_int (nomark _)) (pss_one (ps_ret (pe_op oAdd pe_str (pe_callD D_turned_row hr (pa_cons (pe_callD D_count_row hr (pa_cons (pe_op oSub (pe_un un_neg pe_int) (pv 0)) pa_nil)) pa_nil))))) pss_nil)
    (pss_one (ps_ret (pe_op oAdd pe_str (pe_callD D_count_row hr (pa_cons (pv 0) pa_nil)))))), ?_⟩
  refine ⟨_, rfl, .inl ⟨_, _, rfl, rfl, _, rfl, ?_⟩⟩
  refine iteD (fun c => ?_) (fun c => ?_)
  · obtain ⟨m, e, hm, ew⟩ := neg_nat c hn.1
    have lm := cnt_len5 hm
    refine ⟨_, rfl, _, rfl, _, _, rfl, rfl, m, (congrArg (fun x => [V.int x]) e), hm, cnt m, rfl, (by omega), .inr ⟨_, _, rfl, rfl, (by rw [s0, rowS_length, rowS_length, List.length_map]; exact small5 (by simp only [List.length_cons, List.length_nil]; omega)), H, .refl (Same.refl _), ?_⟩⟩
    rw [s0, cons_row, ← ew]
    exact q
  · obtain ⟨m, rfl, hm, ew⟩ := pos_nat c hn.2
    have lm := cnt_len5 hm
    refine ⟨_, rfl, m, rfl, hm, .inr ⟨_, _, rfl, rfl, (by rw [s1, rowS_length, rowS_length]; exact small5 (by simp only [List.length_cons, List.length_nil]; omega)), H, .refl (Same.refl _), ?_⟩⟩
    rw [s1, cons_row, ← ew]
    exact q
def spMixed : Sp := fun vs H Q _ => ∃ c k : Int, vs = [.int c, .int k] ∧ ∀ v : Int, 0 ≤ v → v < 2147483587 → Q (.int v) H
theorem modb {a b : Int} (h : 0 < b) : 0 ≤ a % b ∧ a % b < b := ⟨Int.emod_nonneg _ (Int.ne_of_gt h), Int.emod_lt_of_pos _ h⟩
theorem ok_law_mixed {f : Addr} {fd : FuncData} (F : FunAt K mg "_law_mixed" s_law_mixed ["_law_cell", "_law_k"] f fd) : DefOk P w K mg base 1 "_law_mixed" ["_law_cell", "_law_k"] spMixed := by
  refine F.ok sc_law_mixed (fun vs H Q E h => ?_) (fun cdv A outer s H vs Q E hr h => ?_)
  · obtain ⟨c, k, rfl, _⟩ := h; rfl
  obtain ⟨c, k, rfl, q⟩ := h
  refine ⟨_, (pss_cons (ps_set (i := 2) sc_law_mixed.nd rfl (by first | exact Or.inl rfl | exact Or.inr rfl) (pe_op op_mod (pe_op oAdd (pe_op oAdd (pe_op oMul (pe_op op_mod (pv 0) pe_int) pe_int) (pe_op oMul (pv 1) pe_int)) pe_int) pe_int))
    (pss_cons (ps_set (i := 2) sc_law_mixed.nd rfl (by first | exact Or.inl rfl | exact Or.inr rfl) (pe_op op_mod (pe_op oMul (pv 2) (pv 2)) pe_int))
    (pss_one (ps_ret (pe_op op_mod (pe_op oMul (pv 2) (pv 2)) pe_int))))), ?_⟩
  refine ⟨_, rfl, _, _, rfl, rfl, (by show (0 : Int) < _; decide), .inl ⟨_, _, rfl, rfl, .inr ⟨by decide, by decide⟩, ?_⟩⟩
  refine ⟨_, rfl, .inl ⟨_, _, rfl, rfl, .inr ⟨by decide, by decide⟩, .inl ⟨_, _, rfl, rfl, .inl ⟨_, _, rfl, rfl, _, _, rfl, rfl, (by show (0 : Int) < _; decide), ?_⟩⟩⟩⟩
  obtain ⟨b1, b2⟩ := modb (a := (c % 2147483647 * 48271 + k * 69621 + 11)) (b := 2147483647) (by decide)
  generalize (c % 2147483647 * 48271 + k * 69621 + 11) % 2147483647 = n1 at b1 b2 ⊢
  refine ⟨_, rfl, _, rfl, .inl ⟨_, _, rfl, rfl, .inr ⟨by omega, by omega⟩, _, _, rfl, rfl, (by show (0 : Int) < _; decide), ?_⟩⟩
  obtain ⟨b3, b4⟩ := modb (a := n1 * n1) (b := 2147483629) (by decide)
  generalize n1 * n1 % 2147483629 = n2 at b3 b4 ⊢
  refine ⟨_, rfl, _, rfl, .inl ⟨_, _, rfl, rfl, .inr ⟨by omega, by omega⟩, _, _, rfl, rfl, (by show (0 : Int) < _; decide), H, .refl (Same.refl _), ?_⟩⟩
  exact q _ (modb (by decide)).1 (modb (by decide)).2
def spLaw (K : PySem.W.Frag) : Sp := fun vs H Q _ => ∃ (a : Addr) (ns : List Int), vs = [.ref a] ∧ SqL K H a (ns.map V.int) ∧ ns.length ≤ 63 ∧ ∀ H', Q (.bl true) H'
/-! ### the law's own helpers -/
def spCellAt (K : PySem.W.Frag) : Sp := fun vs H Q _ => ∃ (a : Addr) (ns : List Int) (k : Nat), vs = [.ref a, .int k] ∧ SqL K H a (ns.map V.int) ∧ ns.length ≤ 63 ∧ Q (.int (ns.getD k 0)) H
theorem ok_law_cell_at {f : Addr} {fd : FuncData} (nb : NB mg) (F : FunAt K mg "_law_cell_at" s_law_cell_at ["_law_script", "_law_k"] f fd) : DefOk P w K mg base 1 "_law_cell_at" ["_law_script", "_law_k"] (spCellAt K) := by
  refine F.ok sc_law_cell_at (fun vs H Q E h => ?_) (fun cdv A outer s H vs Q E hr h => ?_)
  · obtain ⟨a, ns, k, rfl, _⟩ := h; rfl
  obtain ⟨a, ns, k, rfl, hS, hl, q⟩ := h
  refine ⟨_, (pss_cons (ps_if (pt_cmpR oLt (pv 1) (pe_callB call_len rfl nb.len_ bo_len (pa_cons (pv 0) pa_nil)) (nomark _)) (pss_one (ps_ret (pe_ix iAll (pv 0) (pv 1) (fun _ _ => rfl)))) pss_nil)
    (pss_one (ps_ret pe_int))), ?_⟩
  refine ⟨_, rfl, _, rfl, _, _, rfl, .inl ⟨_, hS, rfl⟩, .inl ⟨_, _, rfl, rfl, _, rfl, ?_⟩⟩
  rw [List.length_map]
  refine iteD (fun c => ?_) (fun c => ?_)
  · have hk : k < ns.length := by omega
    refine ⟨_, rfl, _, rfl, .inl (.inl ⟨_, _, _, _, rfl, rfl, hS, atI_nat (by rw [List.getElem?_map, List.getElem?_eq_getElem hk]; rfl), H, .refl (Same.refl _), ?_⟩)⟩
    have e : ns.getD k 0 = ns[k] := by rw [List.getD_eq_getElem?_getD, List.getElem?_eq_getElem hk]; rfl
    rw [← e]
    exact q
  · have e : ns.getD k 0 = 0 := by rw [List.getD_eq_getElem?_getD, List.getElem?_eq_none (by omega)]; rfl
    rw [e] at q
    exact ⟨H, .refl (Same.refl _), q⟩
/-! ### what an error is -/
structure Cs where
  (n s w l f t a b tw k : Addr)
structure Nms (mg : Str → Option Value) (c : Cs) : Prop where
  gn : GlobV mg "NoFit" (.ref c.n)
  gs : GlobV mg "Short" (.ref c.s)
  gw : GlobV mg "Wrong" (.ref c.w)
  gl : GlobV mg "Left" (.ref c.l)
  gf : GlobV mg "NoForm" (.ref c.f)
  gt : GlobV mg "NoText" (.ref c.t)
  ga : GlobV mg "NotAhead" (.ref c.a)
  gb : GlobV mg "BadPage" (.ref c.b)
  g2 : GlobV mg "Twice" (.ref c.tw)
  gk : GlobV mg "Lacking" (.ref c.k)
structure Kits (K : PySem.W.Frag) (c : Cs) (C : Addr) (bs : List Bool) : Prop where
  xc : ExcC K C
  ks : ∃ b1 b2 b3 b4 b5 b6 b7 b8 b9 b10 : Bool, bs = [b1, b2, b3, b4, b5, b6, b7, b8, b9, b10, true] ∧ PySem.W.kitOne K (.ref C) (.ref c.n) = some b1 ∧ PySem.W.kitOne K (.ref C) (.ref c.s) = some b2 ∧ PySem.W.kitOne K (.ref C) (.ref c.w) = some b3 ∧ PySem.W.kitOne K (.ref C) (.ref c.l) = some b4 ∧
    PySem.W.kitOne K (.ref C) (.ref c.f) = some b5 ∧ PySem.W.kitOne K (.ref C) (.ref c.t) = some b6 ∧ PySem.W.kitOne K (.ref C) (.ref c.a) = some b7 ∧ PySem.W.kitOne K (.ref C) (.ref c.b) = some b8 ∧ PySem.W.kitOne K (.ref C) (.ref c.tw) = some b9 ∧ PySem.W.kitOne K (.ref C) (.ref c.k) = some b10 ∧ PySem.W.kitOne K (.ref C) (.type "ValueError") = some true
def alone : List Bool → Bool
  | [b1, b2, b3, b4, b5, b6, b7, b8, b9, b10, _] => ([b1, b5, b6, b7, b8, b9, b10, b2, b3, b4].filter id).length == 1
  | _ => false
/-! ### the row behind all rows that begin so -/
def spBehind : Sp := fun vs H Q _ => ∃ l : List Bool, vs = [.str (rowS l)] ∧ l.length ≤ 90000 ∧ ((∃ n, l = List.replicate n true ∧ Q .non H) ∨ ∃ b n, l = b ++ false :: List.replicate n true ∧ Q (.str (rowS (b ++ [true]))) H)
theorem ok_behind_all {f : Addr} {fd : FuncData} (F : FunAt K mg "behind_all" s_behind_all ["row"] f fd) : DefOk P w K mg base 1 "behind_all" ["row"] spBehind := by
  refine F.ok sc_behind_all (fun vs H Q E h => ?_) (fun cdv A outer s H vs Q E hr h => ?_)
  · obtain ⟨l, rfl, _⟩ := h; rfl
  obtain ⟨l, rfl, hl, h⟩ := h
  refine ⟨_, (pss_cons (ps_set (i := 1) sc_behind_all.nd rfl (by first | exact Or.inl rfl | exact Or.inr rfl) (pe_bm PySem.F.plainAttrs_str PySem.F.slot_str_rstrip PySem.F.type_str_rstrip mt_rstrip (pv 0) (pa_cons pe_str pa_nil)))
    (pss_one (ps_ret (pe_ifExp (pt_cmpR oEq (pv 1) pe_str (nomark _)) pe_non (pe_op oAdd (pe_slice slAll (pv 1) po_none (po_some (pe_un un_neg pe_int))) pe_str))))), ?_⟩
  refine ⟨_, rfl, rfl, _, _, rfl, rfl, (by rw [rowS_length]; exact small5 (by omega)), ?_⟩
  rcases h with ⟨n, rfl, q⟩ | ⟨b, n, rfl, q⟩
  · have e := rstrip_row [] n (.inl rfl)
    rw [List.nil_append] at e
    rw [e]
    refine ⟨_, rfl, rfl, _, rfl, ?_⟩
    refine iteY (by rw [sE]) ?_
    exact ⟨H, .refl (Same.refl _), q⟩
  · have e := rstrip_row (b ++ [false]) n (.inr ⟨b, rfl⟩)
    rw [List.append_assoc] at e
    have e' : b ++ false :: List.replicate n true = b ++ ([false] ++ List.replicate n true) := rfl
    rw [e', e]
    rw [List.length_append] at hl
    refine ⟨_, rfl, rfl, _, rfl, ?_⟩
    refine iteN (by rw [sE]; intro z; have := rowS_inj (V.str.inj z); simp at this) ?_
    refine ⟨_, rfl, _, rfl, _, rfl, .inr ⟨_, rfl, (by rw [rowS_length, List.length_append]; exact small5 (by simp only [List.length_cons, List.length_nil]; omega)), ?_⟩⟩
    rw [slice_init]
    refine .inr ⟨_, _, rfl, rfl, (by rw [s1, rowS_length, rowS_length]; exact small5 (by simp only [List.length_cons, List.length_nil]; omega)), ?_⟩
    rw [s1, rowS_append]
    exact ⟨H, .refl (Same.refl _), q⟩

/-! ### texts and names, as the forms ask them -/
theorem one_ok : 1 ≤ sizeLine := by decide
def spMadeOf : Sp := fun vs H Q _ => ∃ t s : Str, vs = [.str t, .str s] ∧ t.length ≤ 1000 ∧ Q (.bl (madeOf t s)) H
theorem ok_made_of {f : Addr} {fd : FuncData} (nb : NB mg) (F : FunAt K mg "made_of" s_made_of ["text", "signs"] f fd) : DefOk P w K mg base 1 "made_of" ["text", "signs"] spMadeOf := by
  refine F.ok sc_made_of (fun vs H Q E h => ?_) (fun cdv A outer s H vs Q E hr h => ?_)
  · obtain ⟨_, _, rfl, _⟩ := h; rfl
  obtain ⟨t, sg, rfl, ht, q⟩ := h
  refine ⟨_, (pss_one (ps_ret (pe_callB (call_all rfl) rfl nb.all_ bo_all (pa_cons (pe_comp ["sign"] [(1, "signs")] rfl (by decide +kernel) ⟨rfl, .inl rfl, trivial⟩ (piAll (pv 0)) (fun _ _ _ _ _ => (pg_name (i := 0) (show (["sign", "signs"] : List Str).Nodup by decide +kernel) rfl (by first | exact Or.inl rfl | exact Or.inr rfl))) (fun _ _ _ _ _ => pts_nil) (fun _ _ _ _ _ => (pe_cmpR op_in_str (pv 0) (pv 1) (by with_unfolding_all rfl)))) pa_nil)))), ?_⟩
  refine .inr ⟨_, rfl, t, rfl, fun D hD => ?_⟩
  refine comp_str (fun c => .bl (decide (c ∈ sg.cps.toList))) (fun σ => ∃ z, σ = [z, some (.str sg)]) (small5 (by show t.length ≤ _; omega)) ⟨_, rfl⟩ hD ?_ ?_
  · rintro c hc σ1 H1 ⟨z, rfl⟩ hs R hR
    refine ⟨_, rfl, _, rfl, _, _, rfl, rfl, ?_⟩
    rw [StrLaws.found_one]
    exact hR _ ⟨_, rfl⟩
  · refine ⟨D, t.cps.toList.map fun c => decide (c ∈ sg.cps.toList), rfl, ?_, H, .refl (same_new hD), ?_⟩
    · rw [List.map_map]; exact SqL.of upd_same
    · rw [List.all_map]; exact q
def spIsName : Sp := fun vs H Q _ => ∃ n : Str, vs = [.str n] ∧ n.length ≤ 1000 ∧ Q (.bl (isName n)) H
theorem ok_is_name {f : Addr} {fd : FuncData} (nb : NB mg) (g_LONGEST_NAME : GlobV mg "LONGEST_NAME" (.int 12)) (g_SMALL_LETTERS : GlobV mg "SMALL_LETTERS" (.str L26)) (F : FunAt K mg "is_name" s_is_name ["name"] f fd) (D_made_of : DefOk P w K mg base 1 "made_of" ["text", "signs"] spMadeOf) : DefOk P w K mg base 2 "is_name" ["name"] spIsName := by
  refine F.ok sc_is_name (fun vs H Q E h => ?_) (fun cdv A outer s H vs Q E hr h => ?_)
  · obtain ⟨_, rfl, _⟩ := h; rfl
  obtain ⟨n, rfl, hn, q⟩ := h
  refine ⟨_, (pss_one (ps_ret (pe_and (pe_cmpR oLt pe_int (pe_callB call_len rfl nb.len_ bo_len (pa_cons (pv 0) pa_nil)) (nomark _)) (pe_and (pe_cmpR oLe (pe_callB call_len rfl nb.len_ bo_len (pa_cons (pv 0) pa_nil)) (pe_globV g_LONGEST_NAME) (nomark _)) (pe_one (pe_callD D_made_of hr (pa_cons (pv 0) (pa_cons (pe_globV g_SMALL_LETTERS) pa_nil)))))))), ?_⟩
  have ln : n.length ≤ sizeLine := small5 (by omega)
  unfold isName at q
  refine ⟨_, rfl, _, _, rfl, ⟨ln, rfl⟩, .inl ⟨_, _, rfl, rfl, _, rfl, ?_⟩⟩
  refine iteD (fun c1 => ?_) (fun c1 => ?_)
  · refine ⟨_, rfl, _, _, rfl, ⟨ln, rfl⟩, _, _, rfl, rfl, _, rfl, ?_⟩
    refine iteD (fun c2 => ?_) (fun c2 => ?_)
    · refine ⟨_, rfl, n, L26, rfl, hn, H, .refl (Same.refl _), ?_⟩
      rw [decide_eq_true ⟨by omega, by omega⟩, Bool.true_and] at q
      exact q
    · rw [decide_eq_false (fun z => c2 (by omega)), Bool.false_and] at q
      exact ⟨H, .refl (Same.refl _), q⟩
  · rw [decide_eq_false (fun z => c1 (by omega)), Bool.false_and] at q
    exact ⟨H, .refl (Same.refl _), q⟩
/-- a list of parts: tuples of a name and a form -/
structure Parts (H : Hp) (p : Addr) (ps : List (Addr × Str × Addr)) : Prop where
  l : H p = some (.lst (ps.map fun x => V.ref x.1))
  t : ∀ x, x ∈ ps → H x.1 = some (.tup [.str x.2.1, .ref x.2.2])
  n : ps.length ≤ 30
  b : ∀ x, x ∈ ps → x.2.1.length ≤ 100
def nms (ps : List (Addr × Str × Addr)) : List Str := ps.map fun x => x.2.1
def fms (ps : List (Addr × Str × Addr)) : List Addr := ps.map fun x => x.2.2
def spNamesOf : Sp := fun vs H Q _ => ∃ p ps, vs = [.ref p] ∧ Parts H p ps ∧ goodNames (nms ps) = true ∧ ∀ D, H D = none → Q (.ref D) (upd H D (.lst ((nms ps).map V.str)))
theorem ok_names_of {f : Addr} {fd : FuncData} (nb : NB mg) (g_MOST_PARTS : GlobV mg "MOST_PARTS" (.int 20)) (F : FunAt K mg "names_of" s_names_of ["parts"] f fd) (D_is_name : DefOk P w K mg base 2 "is_name" ["name"] spIsName) : DefOk P w K mg base 3 "names_of" ["parts"] spNamesOf := by
  refine F.ok sc_names_of (fun vs H Q E h => ?_) (fun cdv A outer s H vs Q E hr h => ?_)
  · obtain ⟨_, _, rfl, _⟩ := h; rfl
  obtain ⟨p, ps, rfl, hP, hg, q⟩ := h
  refine ⟨_, (pss_cons (ps_setComp (i := 1)  ["part"] [] sc_names_of.nd rfl rfl rfl (by decide +kernel) trivial (piAll (pv 0)) (fun _ _ _ _ _ => (pg_name (i := 0) (show (["part"] : List Str).Nodup by decide +kernel) rfl (by first | exact Or.inl rfl | exact Or.inr rfl))) (fun _ _ _ _ _ => pts_nil) (fun _ _ _ _ _ => (pe_ix iAll (pv 0) pe_int (fun _ _ => rfl))))
    (pss_cons (ps_if (PW.pt (pw_or (pt_cmpR oEq (pe_callB call_len rfl nb.len_ bo_len (pa_cons (pv 1) pa_nil)) pe_int (nomark _)) (pw_or1 (pt_cmpR oGt (pe_callB call_len rfl nb.len_ bo_len (pa_cons (pv 1) pa_nil)) (pe_globV g_MOST_PARTS) (nomark _))))) (pss_one ps_never) pss_nil)
    (pss_cons (ps_if (pt_cmpR oLt (pe_lenset rfl rfl nb.len_ rfl nb.set_ (pv 1)) (pe_callB call_len rfl nb.len_ bo_len (pa_cons (pv 1) pa_nil)) (nomark _)) (pss_one ps_never) pss_nil)
    (pss_cons (ps_if (pt_not (pt_truth (pe_callB (call_all rfl) rfl nb.all_ bo_all (pa_cons (pe_comp ["name"] [] rfl (by decide +kernel) trivial (piAll (pv 1)) (fun _ _ _ _ _ => (pg_name (i := 0) (show (["name"] : List Str).Nodup by decide +kernel) rfl (by first | exact Or.inl rfl | exact Or.inr rfl))) (fun _ _ _ _ _ => pts_nil) (fun _ _ _ _ _ => (pe_callD D_is_name hr (pa_cons (pv 0) pa_nil)))) pa_nil)) (fun _ => rfl))) (pss_one ps_never) pss_nil)
    (pss_one (ps_ret (pv 1))))))), ?_⟩
  refine .inl ⟨_, rfl, p, rfl, ⟨_, SqL.of hP.l⟩, fun D hD => ?_⟩
  refine comp_listI (K := K) (a := p) (xs := ps.map fun x => V.ref x.1) (fun i => V.str ((nms ps).getD i Str.empty)) (fun σ => ∃ z, σ = [z]) (by rw [List.length_map]; exact small5 (by have := hP.n; omega)) ⟨_, rfl⟩ hD (SqL.of hP.l) ?_ ?_
  · rintro i x hx σ1 H1 ⟨z, rfl⟩ hs1 R hR
    rw [List.getElem?_map] at hx
    obtain ⟨y, hy, rfl⟩ := Option.map_eq_some_iff.mp hx
    have hm := List.mem_of_getElem? hy
    have e : (nms ps).getD i Str.empty = y.2.1 := by unfold nms; rw [List.getD_eq_getElem?_getD, List.getElem?_map, hy]; rfl
    rw [e] at hR
    exact ⟨_, rfl, .inl (.inr ⟨_, _, _, _, rfl, rfl, SqT.of (hs1 _ _ (hP.t y hm)), atI_nat (j := 0) rfl, hR _ ⟨_, rfl⟩⟩)⟩
  have en : (List.range (ps.map fun x => V.ref x.1).length).map (fun i => V.str ((nms ps).getD i Str.empty)) = (nms ps).map V.str := by
    have h0 := names_range (nms ps)
    rw [show (ps.map fun x => V.ref x.1).length = (nms ps).length by unfold nms; rw [List.length_map, List.length_map]]
    exact h0
  rw [en]
  have hlN : (nms ps).length ≤ 30 := by unfold nms; rw [List.length_map]; exact hP.n
  have hSq : SqL K (upd H D (.lst ((nms ps).map V.str))) D ((nms ps).map V.str) := SqL.of upd_same
  have hds := dsN_le (nms ps)
  unfold goodNames at hg
  refine ⟨_, rfl, _, _, rfl, .inl ⟨_, hSq, rfl⟩, rfl, _, rfl, ?_⟩
  rw [List.length_map]
  simp only [Bool.and_eq_true, decide_eq_true_eq] at hg
  obtain ⟨⟨h0, h20, hd⟩, hall⟩ := hg
  refine iteN (fun z => h0 (by have := V.int.inj z; omega)) ⟨_, rfl, _, _, rfl, .inl ⟨_, hSq, rfl⟩, _, _, rfl, rfl, _, rfl, iteN (by rw [List.length_map]; omega) ?_⟩
  refine ⟨_, rfl, _, _, texts_names hSq, (by unfold scanBound; omega), _, rfl, _, _, rfl, .inl ⟨_, hSq, rfl⟩, .inl ⟨_, _, rfl, rfl, _, rfl, iteN (by rw [List.length_map]; show ¬ (((dsN (nms ps) : Nat) : Int) < _); omega) ?_⟩⟩
  refine .inl ⟨_, rfl, D, rfl, ⟨_, hSq⟩, fun D2 hD2 => ?_⟩
  have hD3 : upd H D (.lst ((nms ps).map V.str)) D = some (.lst ((nms ps).map V.str)) := upd_same
  refine comp_list (K := K) (a := D) (xs := (nms ps).map V.str) (fun x => match x with | .str n => .bl (isName n) | _ => .non) (fun σ => ∃ z, σ = [z]) (by rw [List.length_map]; exact small5 (by omega)) ⟨_, rfl⟩ hD2 hSq ?_ ?_
  · rintro x hx σ1 H1 ⟨z, rfl⟩ hs1 R hR
    obtain ⟨n, hn, rfl⟩ := List.mem_map.mp hx
    obtain ⟨y, hy, rfl⟩ := List.mem_map.mp hn
    have := hP.b y hy
    exact ⟨_, rfl, _, rfl, by omega, hR _ ⟨_, rfl⟩⟩
  · rw [List.map_map]
    refine ⟨D2, (nms ps).map isName, rfl, ?_, _, rfl, ?_⟩
    · rw [List.map_map]; exact SqL.of upd_same
    rw [List.all_map, show (id ∘ isName) = isName from rfl, hall]
    exact iteF ⟨_, rfl, _, .new (o := HO.lst ((nms ps).map V.str)) hD ((same_new hD).trans (same_new hD2)) (by rw [upd_ne (fun z => by rw [← z, hD3] at hD2; cases hD2)]; exact upd_same) trivial, q D hD⟩
/-! ### the classes Span, Letters, Record, Choice -/
structure SpanCls (K : PySem.W.Frag) (C : Addr) : Prop where
  cl : Cls K C
  nL : NoAttr K C "low"
  nH : NoAttr K C "high"
structure LetCls (K : PySem.W.Frag) (C : Addr) : Prop where
  cl : Cls K C
  nS : NoAttr K C "signs"
structure TwoCls (K : PySem.W.Frag) (C : Addr) : Prop where
  cl : Cls K C
  nN : NoAttr K C "names"
  nF : NoAttr K C "forms"
theorem lowhigh : ¬ (("low" : Str) = "high") := by decide +kernel
theorem namesforms : ¬ (("names" : Str) = "forms") := by decide +kernel
theorem put_low (v : V) : putF "low" v [] = ([("low", v)] : List (Str × V)) := rfl
theorem put_high (v w : V) : putF "high" w ([("low", v)] : List (Str × V)) = ([("low", v), ("high", w)] : List (Str × V)) := by simp only [putF, lowhigh, if_false]
theorem put_lsigns (v : V) : putF "signs" v [] = ([("signs", v)] : List (Str × V)) := rfl
theorem put_names (v : V) : putF "names" v [] = ([("names", v)] : List (Str × V)) := rfl
theorem put_forms (v w : V) : putF "forms" w ([("names", v)] : List (Str × V)) = ([("names", v), ("forms", w)] : List (Str × V)) := by simp only [putF, namesforms, if_false]
theorem look1 (k : Str) (v : V) (r : List (Str × V)) : ((k, v) :: r).lookup k = some v := by simp [List.lookup]
theorem look2 (k k2 : Str) (v w : V) (h : (k2 == k) = false) : ([(k, v), (k2, w)] : List (Str × V)).lookup k2 = some w := by simp [List.lookup, h]
theorem highlow : (("high" : Str) == "low") = false := by decide +kernel
theorem formsnames : (("forms" : Str) == "names") = false := by decide +kernel
def spanF (a b : Int) : List (Str × V) := [("low", .int a), ("high", .int b)]
def letF (s : Str) : List (Str × V) := [("signs", .str s)]
def twoF (l1 l2 : Addr) : List (Str × V) := [("names", .ref l1), ("forms", .ref l2)]
def spSpanInit (C : Addr) : Sp := fun vs H Q _ => ∃ (p dx : Addr) (a b : Int), vs = [.ref p, .int a, .int b] ∧ H p = some (.ins C dx []) ∧ a ≤ b ∧ Q .non (upd H p (.ins C dx (spanF a b)))
theorem ok_span_init {f C : Addr} {fd : FuncData} (T : SpanCls K C) (F : Fun K "__init__" "Span.__init__" s_Span_init f fd) : FnOk P w K mg base CX0 1 f fd ["self", "low", "high"] (spSpanInit C) := by
  refine F.ok sc_Span_init (fun vs H Q E h => ?_) (fun cdv A outer s H vs Q E hr h => ?_)
  · obtain ⟨_, _, _, _, rfl, _⟩ := h; rfl
  obtain ⟨p, dx, a, b, rfl, hp, hab, q⟩ := h
  refine ⟨_, (pss_cons (ps_if (pt_cmpR oGt (pv 1) (pv 2) (nomark _)) (pss_one ps_never) pss_nil)
    (pss_cons (ps_fld (pv 0) (pv 1) rfl)
    (pss_one (ps_fld (pv 0) (pv 2) rfl)))), ?_⟩
  refine ⟨_, rfl, _, rfl, _, _, rfl, rfl, _, rfl, iteN (by omega) ?_⟩
  refine ⟨_, rfl, _, rfl, p, C, dx, _, rfl, hp, T.cl, T.nL, (by show 0 < 1000; decide), ?_⟩
  rw [put_low]
  refine ⟨_, rfl, _, rfl, p, C, dx, _, rfl, upd_same, T.cl, T.nH, (by show 1 < 1000; decide), ?_⟩
  rw [put_high, upd_upd']
  exact q
def spLetInit (C : Addr) : Sp := fun vs H Q _ => ∃ (p dx : Addr) (s : Str), vs = [.ref p, .str s] ∧ H p = some (.ins C dx []) ∧ s.length ≤ 1000 ∧ goodText s = true ∧ Q .non (upd H p (.ins C dx (letF s)))
theorem ok_let_init {f C : Addr} {fd : FuncData} (nb : NB mg) (g_MOST_SIGNS : GlobV mg "MOST_SIGNS" (.int 60)) (g_LETTERS_AND_FIGURES : GlobV mg "LETTERS_AND_FIGURES" (.str L62)) (T : LetCls K C) (F : Fun K "__init__" "Letters.__init__" s_Letters_init f fd) (D_made_of : DefOk P w K mg base 1 "made_of" ["text", "signs"] spMadeOf) : FnOk P w K mg base CX0 2 f fd ["self", "signs"] (spLetInit C) := by
  refine F.ok sc_Letters_init (fun vs H Q E h => ?_) (fun cdv A outer s H vs Q E hr h => ?_)
  · obtain ⟨_, _, _, rfl, _⟩ := h; rfl
  obtain ⟨p, dx, t, rfl, hp, ht, hg, q⟩ := h
  refine ⟨_, (pss_cons (ps_if (PW.pt (pw_or (pt_cmpR oEq (pv 1) pe_str (nomark _)) (pw_or1 (pt_cmpR oGt (pe_callB call_len rfl nb.len_ bo_len (pa_cons (pv 1) pa_nil)) (pe_globV g_MOST_SIGNS) (nomark _))))) (pss_one ps_never) pss_nil)
    (pss_cons (ps_if (pt_cmpR oLt (pe_lenset rfl rfl nb.len_ rfl nb.set_ (pv 1)) (pe_callB call_len rfl nb.len_ bo_len (pa_cons (pv 1) pa_nil)) (nomark _)) (pss_one ps_never) pss_nil)
    (pss_cons (ps_if (pt_not (pt_truth (pe_callD D_made_of hr (pa_cons (pv 1) (pa_cons (pe_globV g_LETTERS_AND_FIGURES) pa_nil))) (fun _ => rfl))) (pss_one ps_never) pss_nil)
    (pss_one (ps_fld (pv 0) (pv 1) rfl))))), ?_⟩
  have ln : t.length ≤ sizeLine := small5 (by omega)
  have hds := dsT_le t
  unfold goodText at hg
  simp only [Bool.and_eq_true, decide_eq_true_eq] at hg
  obtain ⟨⟨h0, h60, hd⟩, hall⟩ := hg
  refine ⟨_, rfl, rfl, _, rfl, iteN (fun z => h0 ((str_nil t).mp (V.str.inj z))) ⟨_, rfl, _, _, rfl, ⟨ln, rfl⟩, _, _, rfl, rfl, _, rfl, iteN (by omega) ?_⟩⟩
  refine ⟨_, rfl, _, _, texts_text t, (by unfold scanBound; show t.length + 1 < _; omega), _, rfl, _, _, rfl, ⟨ln, rfl⟩, .inl ⟨_, _, rfl, rfl, _, rfl, iteN (by show ¬ (((dsT t : Nat) : Int) < _); omega) ?_⟩⟩
  refine ⟨_, rfl, t, L62, rfl, by omega, _, rfl, ?_⟩
  rw [hall]
  refine iteF ⟨_, rfl, _, rfl, p, C, dx, _, rfl, hp, T.cl, T.nS, (by show 0 < 1000; decide), ?_⟩
  rw [put_lsigns]
  exact q
theorem Parts.keep {H H' : Hp} {p o C dx : Addr} {fs : List (Str × V)} {ps : List (Addr × Str × Addr)} (h : Parts H p ps) (ho : H o = some (.ins C dx fs)) (s : ∀ b u, b ≠ o → H b = some u → H' b = some u) : Parts H' p ps :=
  ⟨s _ _ (fun z => by have := h.l; rw [z, ho] at this; cases this) h.l, fun x hx => s _ _ (fun z => by have := h.t x hx; rw [z, ho] at this; cases this) (h.t x hx), h.n, h.b⟩
def spTwoInit (C : Addr) : Sp := fun vs H Q _ => ∃ (o dx p : Addr) (ps : List (Addr × Str × Addr)), vs = [.ref o, .ref p] ∧ H o = some (.ins C dx []) ∧ Parts H p ps ∧ goodNames (nms ps) = true ∧
  ∀ l1 l2, H l1 = none → H l2 = none → l1 ≠ l2 → Q .non (upd (upd (upd H l1 (.lst ((nms ps).map V.str))) l2 (.lst ((fms ps).map V.ref))) o (.ins C dx (twoF l1 l2)))
theorem ok_rec_init {f C : Addr} {fd : FuncData} (nb : NB mg) (T : TwoCls K C) (F : Fun K "__init__" "Record.__init__" s_Record_init f fd) (D_names_of : DefOk P w K mg base 3 "names_of" ["parts"] spNamesOf) : FnOk P w K mg base CX0 4 f fd ["self", "parts"] (spTwoInit C) := by
  refine F.ok sc_Record_init (fun vs H Q E h => ?_) (fun cdv A outer s H vs Q E hr h => ?_)
  · obtain ⟨_, _, _, _, rfl, _⟩ := h; rfl
  obtain ⟨o, dx, p, ps, rfl, ho, hP, hg, q⟩ := h
  refine ⟨_, (pss_cons (ps_fld (pv 0) (pe_callD D_names_of hr (pa_cons (pv 1) pa_nil)) rfl)
    (pss_one (ps_fld (pv 0) (pe_comp ["part"] [] rfl (by decide +kernel) trivial (piAll (pv 1)) (fun _ _ _ _ _ => (pg_name (i := 0) (show (["part"] : List Str).Nodup by decide +kernel) rfl (by first | exact Or.inl rfl | exact Or.inr rfl))) (fun _ _ _ _ _ => pts_nil) (fun _ _ _ _ _ => (pe_ix iAll (pv 0) pe_int (fun _ _ => rfl)))) rfl))), ?_⟩
  refine ⟨_, rfl, p, ps, rfl, hP, hg, fun l1 h1 => ?_⟩
  have n1 : l1 ≠ o := (ne_of_none ho h1).symm
  refine ⟨_, rfl, o, C, dx, _, rfl, (by rw [upd_ne (Ne.symm n1)]; exact ho), T.cl, T.nN, (by show 0 < 1000; decide), ?_⟩
  rw [put_names]
  have k1 : ∀ b u, b ≠ o → H b = some u → upd (upd H l1 (.lst ((nms ps).map V.str))) o (.ins C dx [("names", .ref l1)]) b = some u := fun b u nb e => by rw [upd_ne nb, upd_ne (ne_of_none e h1)]; exact e
  have hP1 := hP.keep ho k1
  refine .inl ⟨_, rfl, p, rfl, ⟨_, SqL.of hP1.l⟩, fun l2 h2 => ?_⟩
  have n2 : l2 ≠ o := fun z => by rw [z, upd_same] at h2; cases h2
  have n12 : l1 ≠ l2 := fun z => by rw [upd_ne n2, ← z, upd_same] at h2; cases h2
  have h20 : H l2 = none := by rw [upd_ne n2, upd_ne (Ne.symm n12)] at h2; exact h2
  refine comp_listI (K := K) (a := p) (xs := ps.map fun x => V.ref x.1) (fun i => V.ref ((fms ps).getD i 0)) (fun σ => ∃ z, σ = [z]) (by rw [List.length_map]; exact small5 (by have := hP.n; omega)) ⟨_, rfl⟩ h2 (SqL.of hP1.l) ?_ ?_
  · rintro i x hx σ1 H1 ⟨z, rfl⟩ hs1 R hR
    rw [List.getElem?_map] at hx
    obtain ⟨y, hy, rfl⟩ := Option.map_eq_some_iff.mp hx
    have hm := List.mem_of_getElem? hy
    have e : (fms ps).getD i 0 = y.2.2 := by unfold fms; rw [List.getD_eq_getElem?_getD, List.getElem?_map, hy]; rfl
    rw [e] at hR
    exact ⟨_, rfl, .inl (.inr ⟨_, _, _, _, rfl, rfl, SqT.of (hs1 _ _ (hP1.t y hm)), atI_nat (j := 1) rfl, hR _ ⟨_, rfl⟩⟩)⟩
  have en : (List.range (ps.map fun x => V.ref x.1).length).map (fun i => V.ref ((fms ps).getD i 0)) = (fms ps).map V.ref := by
    apply List.ext_getElem
    · unfold fms; simp
    · intro i g1 g2
      have g3 : i < ps.length := by simpa [fms] using g2
      have g4 : i < (fms ps).length := by simpa using g2
      rw [List.getElem_map, List.getElem_map, List.getElem_range, List.getD_eq_getElem?_getD, List.getElem?_eq_getElem g4]; rfl
  rw [en]
  refine ⟨_, rfl, o, C, dx, _, rfl, (by rw [upd_ne (Ne.symm n2)]; exact upd_same), T.cl, T.nF, (by show 1 < 1000; decide), ?_⟩
  rw [put_forms, upd_swap (Ne.symm n2), upd_upd']
  exact q l1 l2 h1 h20 n12
/-! ### the forms that hold one form -/
structure OneCls (K : PySem.W.Frag) (C : Addr) : Prop where
  cl : Cls K C
  nI : NoAttr K C "inner"
def spOneInit (C : Addr) : Sp := fun vs H Q _ => ∃ p dx w, vs = [.ref p, .ref w] ∧ H p = some (.ins C dx []) ∧ Q .non (upd H p (.ins C dx [("inner", .ref w)]))
theorem ok_maybe_init {f C : Addr} {fd : FuncData} (T : OneCls K C) (F : Fun K "__init__" "Maybe.__init__" s_Maybe_init f fd) : FnOk P w K mg base CX0 1 f fd ["self", "inner"] (spOneInit C) := by
  refine F.ok sc_Maybe_init (fun vs H Q E h => ?_) (fun cdv A outer s H vs Q E hr h => ?_)
  · obtain ⟨_, _, _, rfl, _⟩ := h; rfl
  obtain ⟨p, dx, w, rfl, hp, q⟩ := h
  exact ⟨_, (pss_one (ps_fld (pv 0) (pv 1) rfl)), _, rfl, _, rfl, p, C, dx, _, rfl, hp, T.cl, T.nI, (by show 0 < 1000; decide), q⟩
theorem ok_many_init {f C : Addr} {fd : FuncData} (T : OneCls K C) (F : Fun K "__init__" "Many.__init__" s_Many_init f fd) : FnOk P w K mg base CX0 1 f fd ["self", "inner"] (spOneInit C) := by
  refine F.ok sc_Many_init (fun vs H Q E h => ?_) (fun cdv A outer s H vs Q E hr h => ?_)
  · obtain ⟨_, _, _, rfl, _⟩ := h; rfl
  obtain ⟨p, dx, w, rfl, hp, q⟩ := h
  exact ⟨_, (pss_one (ps_fld (pv 0) (pv 1) rfl)), _, rfl, _, rfl, p, C, dx, _, rfl, hp, T.cl, T.nI, (by show 0 < 1000; decide), q⟩
theorem ok_turned_init {f C : Addr} {fd : FuncData} (T : OneCls K C) (F : Fun K "__init__" "Turned.__init__" s_Turned_init f fd) : FnOk P w K mg base CX0 1 f fd ["self", "inner"] (spOneInit C) := by
  refine F.ok sc_Turned_init (fun vs H Q E h => ?_) (fun cdv A outer s H vs Q E hr h => ?_)
  · obtain ⟨_, _, _, rfl, _⟩ := h; rfl
  obtain ⟨p, dx, w, rfl, hp, q⟩ := h
  exact ⟨_, (pss_one (ps_fld (pv 0) (pv 1) rfl)), _, rfl, _, rfl, p, C, dx, _, rfl, hp, T.cl, T.nI, (by show 0 < 1000; decide), q⟩
structure Ins (K : PySem.W.Frag) (C : Addr) : Prop where
  cl : Cls K C
  ha : PySem.W.findIn K (.ref C) "__class__" = some (some (.builtin "object.__class__"))
  hn : PySem.W.specialIn K (.builtin "object.__class__") "__get__" = some (some (.builtin "getset_descriptor.__get__"))
  htk : PySem.W.takesIn K (.builtin "object.__class__") = some true
  hm : PySem.W.mroIn K C (.type "object") = some true
/-! ### what fits a form -/
def isNum : D → Bool
  | .int _ => true
  | _ => false
instance decWholeV (n : Int) : Decidable (WholeIn n) := inferInstanceAs (Decidable (_ ∧ _))
def bareFit (ff : D → Bool) : Fin 4 → D → Bool
  | 0, .non => true
  | 1, .bl _ => true
  | 2, .int i => decide (WholeIn i)
  | 3, d => ff d
  | _, _ => false
def maybeFit (g : D → Bool) : D → Bool
  | .tup [] => true
  | .tup [x] => g x
  | _ => false
def manyFit (g : D → Bool) : D → Bool
  | .lst ds => decide (ds.length ≤ 60) && ds.all g
  | _ => false
def oneFit (k : Fin 3) (g : D → Bool) (d : D) : Bool := if k = 0 then maybeFit g d else if k = 1 then manyFit g d else g d
def spanFit (a b : Int) : D → Bool
  | .int i => decide (a ≤ i ∧ i ≤ b)
  | _ => false
def letFit (s : Str) : D → Bool
  | .str t => decide (t.length ≤ 200) && madeOf t s
  | _ => false
def tupFit (g : List D → Bool) : D → Bool
  | .tup ds => g ds
  | _ => false
def choFit (g : Str → D → Bool) : D → Bool
  | .tup [.str n, x] => g n x
  | _ => false
mutual
def fitB (ff : D → Bool) : Fm → D → Bool
  | .bare k, d => bareFit ff k d
  | .sp a b, d => spanFit a b d
  | .le s, d => letFit s d
  | .one k f, d => oneFit k (fitB ff f) d
  | .two k ns fs, d => if k = 0 then tupFit (fitL ff fs) d else choFit (fitC ff fs ns) d
def fitL (ff : D → Bool) : List Fm → List D → Bool
  | [], ds => ds.isEmpty
  | f :: fs, ds => match ds with | [] => false | d :: ds => fitB ff f d && fitL ff fs ds
def fitC (ff : D → Bool) : List Fm → List Str → Str → D → Bool
  | [], _, _, _ => false
  | f :: fs, ns, n, x => if ns.head? = some n then fitB ff f x else fitC ff fs ns.tail n x
end
def spIsNum : Sp := fun vs H Q _ => ∃ (v : V) (d : D), vs = [v] ∧ DAt H d v ∧ Q (.bl (isNum d)) H
def spHasWholeD : Sp := fun vs H Q _ => ∃ n : Int, vs = [.int n] ∧ Q (.bl (decide (WholeIn n))) H
theorem ok_has_whole_rowD {f : Addr} {fd : FuncData} (F : FunAt K mg "has_whole_row" s_has_whole_row ["n"] f fd) (D_is_count : DefOk P w K mg base 1 "is_count" ["n"] spIsCount) : DefOk P w K mg base 2 "has_whole_row" ["n"] spHasWholeD := by
  refine F.ok sc_has_whole_row (fun vs H Q E h => ?_) (fun cdv A outer s H vs Q E hr h => ?_)
  · obtain ⟨n, rfl, _⟩ := h; rfl
  obtain ⟨n, rfl, q⟩ := h
  refine ⟨_, (pss_one (ps_ret (pe_callD D_is_count hr (pa_cons (pe_ifExp (pt_cmpR oGe (pv 0) pe_int (nomark _)) (pv 0) (pe_op oSub (pe_un un_neg pe_int) (pv 0))) pa_nil)))), ?_⟩
  refine ⟨_, rfl, _, _, rfl, rfl, _, rfl, ?_⟩
  refine iteD (fun c => ?_) (fun c => ?_)
  · refine ⟨_, rfl, _, rfl, H, .refl (Same.refl _), ?_⟩
    have e : decide (CountIn n) = decide (WholeIn n) := decide_eq_decide.mpr (by unfold CountIn WholeIn; omega)
    rw [e]; exact q
  · refine ⟨_, rfl, _, rfl, _, _, rfl, rfl, _, rfl, H, .refl (Same.refl _), ?_⟩
    have e : decide (CountIn (-1 - n)) = decide (WholeIn n) := decide_eq_decide.mpr (by unfold CountIn WholeIn; omega)
    rw [e]; exact q
theorem ok_is_numberD {f : Addr} {fd : FuncData} (nb : NB mg) (F : FunAt K mg "is_number" s_is_number ["value"] f fd) : DefOk P w K mg base 1 "is_number" ["value"] spIsNum := by
  refine F.ok sc_is_number (fun vs H Q E h => ?_) (fun cdv A outer s H vs Q E hr h => ?_)
  · obtain ⟨_, _, rfl, _⟩ := h; rfl
  obtain ⟨v, d, rfl, hd, q⟩ := h
  refine ⟨_, (pss_one (ps_ret (pe_and (pe_callB call_isinstA rfl nb.isinstance_ bo_isinstance (pa_cons (pv 0) (pa_cons (pe_bltn (v := .ty "int") rfl nb.int_ bo_int rfl) pa_nil))) (pe_one (pe_notA (pe_callB call_isinstA rfl nb.isinstance_ bo_isinstance (pa_cons (pv 0) (pa_cons (pe_bltn (v := .ty "bool") rfl nb.bool_ bo_bool rfl) pa_nil)))))))), ?_⟩
  refine ⟨_, rfl, .inl ⟨_, _, _, _, rfl, hd.ty, kitD K d (by decide), _, rfl, ?_⟩⟩
  cases d with
  | int i => exact iteT ⟨_, rfl, .inl ⟨_, _, _, _, rfl, hd.ty, kitD K _ (by decide), _, rfl, H, .refl (Same.refl _), q⟩⟩
  | bl b => exact iteT ⟨_, rfl, .inl ⟨_, _, _, _, rfl, hd.ty, kitD K _ (by decide), _, rfl, H, .refl (Same.refl _), q⟩⟩
  | _ => exact iteF ⟨H, .refl (Same.refl _), q⟩
def spFit (has : Sl → Bool) (ff : D → Bool) (c : FC) (n : Nat) (i : Sl) : Sp := fun vs H Q _ => ∃ (o : Addr) (f : Fm) (v : V) (d : D), vs = [.ref o, v] ∧ slot f = i ∧ FAt c [] H f o ∧ okH has f ∧ ht f ≤ n ∧ DAt H d v ∧ Q (.bl (fitB ff f d)) H
theorem fit_bare (ff : D → Bool) (k : Fin 4) (d : D) : fitB ff (.bare k) d = bareFit ff k d := by rw [fitB]
theorem isN_dec {H : Hp} {d : D} {v : V} (h : DAt H d v) : decide (v = .non) = bareFit (fun _ => false) 0 d := by
  cases d with
  | non => obtain rfl : v = .non := h; rfl
  | bl b => obtain rfl : v = .bl b := h; rfl
  | int i => obtain rfl : v = .int i := h; rfl
  | str s => obtain ⟨rfl, _⟩ := h; rfl
  | tup ds => obtain ⟨a, vs, rfl, e, _⟩ := h; rfl
  | lst ds => obtain ⟨a, vs, rfl, e, _⟩ := h; rfl
theorem ok_Nothing_fits {f : Addr} {c : FC} {fd : FuncData} {n : Nat} {has : Sl → Bool} {ff : D → Bool} (F : Fun K "fits" "Nothing.fits" s_Nothing_fits f fd) : FnOk P w K mg base CX0 1 f fd ["self", "value"] (spFit has ff c n (.b 0)) := by
  refine F.okK sc_Nothing_fits (fun vs H Q E h => ?_) (fun cdv A outer s H vs Q E hr h => ?_)
  · obtain ⟨_, _, _, _, rfl, _⟩ := h; rfl
  obtain ⟨o, fm, v, d, rfl, hs, hF, hok, hht, hd, q⟩ := h
  have := slot_bare hs
  subst this
  refine ⟨_, (pss_one (ps_ret (pe_cmpR op_isN (pv 1) pe_non (nomark _)))), _, rfl, rfl, H, .refl (Same.refl _), ?_⟩
  rw [isN_dec hd]
  rw [fit_bare] at q
  cases d <;> exact q
theorem ok_Truth_fits {f : Addr} {c : FC} {fd : FuncData} {n : Nat} {has : Sl → Bool} {ff : D → Bool} (F : Fun K "fits" "Truth.fits" s_Truth_fits f fd) : FnOk P w K mg base CX0 1 f fd ["self", "value"] (spFit has ff c n (.b 1)) := by
  refine F.okK sc_Truth_fits (fun vs H Q E h => ?_) (fun cdv A outer s H vs Q E hr h => ?_)
  · obtain ⟨_, _, _, _, rfl, _⟩ := h; rfl
  obtain ⟨o, fm, v, d, rfl, hs, hF, hok, hht, hd, q⟩ := h
  have := slot_bare hs
  subst this
  rw [fit_bare] at q
  refine ⟨_, (pss_one (ps_ret (pe_or (pe_cmpR op_isB (pv 1) pe_bl (nomark _)) (pe_one (pe_cmpR op_isB (pv 1) pe_bl (nomark _)))))), _, rfl, false, rfl, hd.plain, ?_⟩
  have no : ∀ d', d = d' → (∀ b, d' ≠ .bl b) → ∀ b, decide (v = .bl b) = false := fun d' e hn b => decide_eq_false fun z => by
    subst e
    cases d with
    | bl b' => exact hn b' rfl
    | non => obtain rfl : v = .non := hd; cases z
    | int i => obtain rfl : v = .int i := hd; cases z
    | str s => obtain ⟨rfl, _⟩ := hd; cases z
    | tup ds => obtain ⟨a, vs, rfl, e, _⟩ := hd; cases z
    | lst ds => obtain ⟨a, vs, rfl, e, _⟩ := hd; cases z
  cases d with
  | bl b =>
    obtain rfl : v = .bl b := hd
    cases b with
    | false => exact ⟨true, rfl, iteT ⟨H, .refl (Same.refl _), q⟩⟩
    | true => exact ⟨false, rfl, iteF ⟨_, rfl, true, rfl, rfl, H, .refl (Same.refl _), q⟩⟩
  | _ =>
    have n1 := no _ rfl (fun b z => by cases z)
    refine ⟨false, by rw [n1], iteF ⟨_, rfl, true, rfl, hd.plain, H, .refl (Same.refl _), ?_⟩⟩
    rw [n1]; exact q
theorem ok_Whole_fitsD {f : Addr} {c : FC} {fd : FuncData} {n : Nat} {has : Sl → Bool} {ff : D → Bool} (F : Fun K "fits" "Whole.fits" s_Whole_fits f fd) (D_is_number : DefOk P w K mg base 1 "is_number" ["value"] spIsNum) (D_has_whole_row : DefOk P w K mg base 2 "has_whole_row" ["n"] spHasWholeD) : FnOk P w K mg base CX0 3 f fd ["self", "value"] (spFit has ff c n (.b 2)) := by
  refine F.okK sc_Whole_fits (fun vs H Q E h => ?_) (fun cdv A outer s H vs Q E hr h => ?_)
  · obtain ⟨_, _, _, _, rfl, _⟩ := h; rfl
  obtain ⟨o, fm, v, d, rfl, hs, hF, hok, hht, hd, q⟩ := h
  have := slot_bare hs
  subst this
  rw [fit_bare] at q
  refine ⟨_, (pss_one (ps_ret (pe_and (pe_callD D_is_number hr (pa_cons (pv 1) pa_nil)) (pe_one (pe_callD D_has_whole_row hr (pa_cons (pv 1) pa_nil)))))), _, rfl, v, d, rfl, hd, _, rfl, ?_⟩
  cases d with
  | int i =>
    obtain rfl : v = .int i := hd
    exact iteT ⟨_, rfl, i, rfl, H, .refl (Same.refl _), q⟩
  | _ => exact iteF ⟨H, .refl (Same.refl _), q⟩
theorem ok_Span_fits {f : Addr} {c : FC} {fd : FuncData} {n : Nat} {has : Sl → Bool} {ff : D → Bool} (T : SpanCls K c.s) (F : Fun K "fits" "Span.fits" s_Span_fits f fd) (D_is_number : DefOk P w K mg base 1 "is_number" ["value"] spIsNum) : FnOk P w K mg base CX0 2 f fd ["self", "value"] (spFit has ff c n .s) := by
  refine F.okK sc_Span_fits (fun vs H Q E h => ?_) (fun cdv A outer s H vs Q E hr h => ?_)
  · obtain ⟨_, _, _, _, rfl, _⟩ := h; rfl
  obtain ⟨o, fm, v, d, rfl, hs, hF, hok, hht, hd, q⟩ := h
  obtain ⟨a, b, rfl⟩ := slot_sp hs
  obtain ⟨_, dx, ho⟩ := hF
  rw [fitB] at q
  refine ⟨_, (pss_one (ps_ret (pe_and (pe_callD D_is_number hr (pa_cons (pv 1) pa_nil)) (pe_and (pe_cmpR oLe (pe_fld (pv 0) rfl) (pv 1) (nomark _)) (pe_one (pe_cmpR oLe (pv 1) (pe_fld (pv 0) rfl) (nomark _))))))), _, rfl, v, d, rfl, hd, _, rfl, ?_⟩
  cases d with
  | int i =>
    obtain rfl : v = .int i := hd
    refine iteT ⟨_, rfl, o, c.s, dx, _, _, rfl, ho, T.cl, T.nL, look1 .., _, rfl, _, _, rfl, rfl, _, rfl, iteD (fun c1 => ?_) (fun c1 => ?_)⟩
    · refine ⟨_, rfl, _, rfl, o, c.s, dx, _, _, rfl, ho, T.cl, T.nH, look2 _ _ _ _ highlow, _, _, rfl, rfl, H, .refl (Same.refl _), ?_⟩
      have e : decide (i ≤ b) = decide (a ≤ i ∧ i ≤ b) := decide_eq_decide.mpr ⟨fun z => ⟨c1, z⟩, fun z => z.2⟩
      dsimp only
      rw [e]; exact q
    · have e : decide (a ≤ i ∧ i ≤ b) = false := decide_eq_false fun z => c1 z.1
      have q : Q (.bl (decide (a ≤ i ∧ i ≤ b))) H := q
      rw [e] at q
      exact ⟨H, .refl (Same.refl _), q⟩
  | _ => exact iteF ⟨H, .refl (Same.refl _), q⟩
theorem ok_Letters_fits {f : Addr} {c : FC} {fd : FuncData} {n : Nat} {has : Sl → Bool} {ff : D → Bool} (nb : NB mg) (g_LONGEST_TEXT : GlobV mg "LONGEST_TEXT" (.int 200)) (T : LetCls K c.l) (F : Fun K "fits" "Letters.fits" s_Letters_fits f fd) (D_made_of : DefOk P w K mg base 1 "made_of" ["text", "signs"] spMadeOf) : FnOk P w K mg base CX0 2 f fd ["self", "value"] (spFit has ff c n .l) := by
  refine F.okK sc_Letters_fits (fun vs H Q E h => ?_) (fun cdv A outer s H vs Q E hr h => ?_)
  · obtain ⟨_, _, _, _, rfl, _⟩ := h; rfl
  obtain ⟨o, fm, v, d, rfl, hs, hF, hok, hht, hd, q⟩ := h
  obtain ⟨sg, rfl⟩ := slot_le hs
  obtain ⟨_, dx, ho⟩ := hF
  rw [fitB] at q
  refine ⟨_, (pss_one (ps_ret (pe_and (pe_callB call_isinstA rfl nb.isinstance_ bo_isinstance (pa_cons (pv 1) (pa_cons (pe_bltn (v := .ty "str") rfl nb.str_ bo_str rfl) pa_nil))) (pe_and (pe_cmpR oLe (pe_callB call_len rfl nb.len_ bo_len (pa_cons (pv 1) pa_nil)) (pe_globV g_LONGEST_TEXT) (nomark _)) (pe_one (pe_callD D_made_of hr (pa_cons (pv 1) (pa_cons (pe_fld (pv 0) rfl) pa_nil)))))))), _, rfl, .inl ⟨_, _, _, _, rfl, hd.ty, kitD K d (by decide), _, rfl, ?_⟩⟩
  cases d with
  | str t =>
    obtain ⟨rfl, htl⟩ := hd
    refine iteT ⟨_, rfl, _, _, rfl, ⟨small5 htl, rfl⟩, _, _, rfl, rfl, _, rfl, iteD (fun c1 => ?_) (fun c1 => ?_)⟩
    · refine ⟨_, rfl, _, rfl, o, c.l, dx, _, _, rfl, ho, T.cl, T.nS, look1 .., t, sg, rfl, by omega, H, .refl (Same.refl _), ?_⟩
      have q : Q (.bl (decide (t.length ≤ 200) && madeOf t sg)) H := q
      rw [decide_eq_true (by omega), Bool.true_and] at q
      exact q
    · have q : Q (.bl (decide (t.length ≤ 200) && madeOf t sg)) H := q
      rw [decide_eq_false (by omega), Bool.false_and] at q
      exact ⟨H, .refl (Same.refl _), q⟩
  | _ => exact iteF ⟨H, .refl (Same.refl _), q⟩
theorem FAt.fits {c : FC} {X : List Addr} {H : Hp} (f : Fm) {o : Addr} (h : FAt c X H f o) : ∃ dx fs, H o = some (.ins (clS c (slot f)) dx fs) ∧ fs.lookup (Str.ofString "fits") = none :=
  FAt.ins (m := Str.ofString "fits") (by decide +kernel) (by decide +kernel) (by decide +kernel) (by decide +kernel) (by decide +kernel) (by decide +kernel) f h
theorem ok_Maybe_fits {f : Addr} {c : FC} {fd : FuncData} {n : Nat} {has : Sl → Bool} {ff : D → Bool} (nb : NB mg) (T : OneCls K (c.o 0)) (F : Fun K "fits" "Maybe.fits" s_Maybe_fits f fd) (AM_fits : AnyM P w K mg base (2 * n + 4) "fits" ["self", "value"] (clS c) (spFit has ff c n)) : FnOk P w K mg base CX0 (2 * n + 4 + 1) f fd ["self", "value"] (spFit has ff c (n + 1) (.o 0)) := by
  refine F.okK sc_Maybe_fits (fun vs H Q E h => ?_) (fun cdv A outer s H vs Q E hr h => ?_)
  · obtain ⟨_, _, _, _, rfl, _⟩ := h; rfl
  obtain ⟨o, fm, v, d, rfl, hs, hF, hok, hht, hd, q⟩ := h
  obtain ⟨g, rfl⟩ := slot_one hs
  obtain ⟨_, dx, i, ho, hI⟩ := hF
  have hok2 := hok.one
  have hht2 : ht g ≤ n := by rw [ht] at hht; omega
  rw [fitB] at q
  have q : Q (.bl (maybeFit (fitB ff g) d)) H := q
  obtain ⟨dxi, fsi, ei, li⟩ := FAt.fits g hI
  refine ⟨_, (pss_cons (ps_if (PW.pt (pw_or (pt_not (pt_truth (pe_callB call_isinstA rfl nb.isinstance_ bo_isinstance (pa_cons (pv 1) (pa_cons (pe_bltn (v := .ty "tuple") rfl nb.tuple_ bo_tuple rfl) pa_nil))) (fun _ => rfl))) (pw_or1 (pt_cmpR oGt (pe_callB call_len rfl nb.len_ bo_len (pa_cons (pv 1) pa_nil)) pe_int (nomark _))))) (pss_one (ps_ret pe_bl)) pss_nil)
    (pss_one (ps_ret (pe_or (pe_cmpR oEq (pe_callB call_len rfl nb.len_ bo_len (pa_cons (pv 1) pa_nil)) pe_int (nomark _)) (pe_one (pe_methAny AM_fits hr (pe_fld (pv 0) rfl) (pa_cons (pe_ix iAll (pv 1) pe_int (fun _ _ => rfl)) pa_nil) (hk := by omega))))))), _, rfl, .inl ⟨_, _, _, _, rfl, hd.ty, kitD K d (by decide), _, rfl, ?_⟩⟩
  cases d with
  | tup ds =>
    obtain ⟨a, vs, rfl, ea, hds, hvl⟩ := hd
    have hlen := DsAt.len ds hds
    refine iteF ⟨_, rfl, _, _, rfl, .inr ⟨_, SqT.of ea, rfl⟩, _, _, rfl, rfl, _, rfl, iteD (fun c1 => ?_) (fun c1 => ?_)⟩
    · have e : maybeFit (fitB ff g) (.tup ds) = false := by
        cases ds with
        | nil => rw [hlen, List.length_nil] at c1; omega
        | cons x r =>
          cases r with
          | nil => rw [hlen, List.length_singleton] at c1; omega
          | cons y r => rfl
      rw [e] at q
      exact ⟨H, .refl (Same.refl _), q⟩
    · refine ⟨_, rfl, _, _, rfl, .inr ⟨_, SqT.of ea, rfl⟩, rfl, _, rfl, iteD (fun c2 => ?_) (fun c2 => ?_)⟩
      · have h0 : ds = [] := List.length_eq_zero_iff.mp (by have := V.int.inj c2; omega)
        subst h0
        exact ⟨H, .refl (Same.refl _), q⟩
      · have h1 : ds.length = 1 := by
          rcases Nat.eq_zero_or_pos ds.length with z | z
          · exact absurd (by rw [hlen, z]; rfl) c2
          · omega
        obtain ⟨x, rfl⟩ := List.length_eq_one_iff.mp h1
        obtain ⟨y, r, rfl, hx, hr'⟩ := hds
        obtain rfl : r = [] := hr'
        refine ⟨_, rfl, o, c.o 0, dx, _, _, rfl, ho, T.cl, T.nI, look1 .., i, slot g, dxi, fsi, rfl, ei, li, ?_⟩
        exact ⟨_, rfl, .inl (.inr ⟨_, _, _, _, rfl, rfl, SqT.of ea, atI_nat (j := 0) rfl, i, g, y, x, rfl, rfl, hI, hok2, hht2, hx, H, .refl (Same.refl _), q⟩)⟩
  | _ => exact iteT ⟨H, .refl (Same.refl _), q⟩
theorem ok_Turned_fitsD {f : Addr} {c : FC} {fd : FuncData} {n : Nat} {has : Sl → Bool} {ff : D → Bool} (T : OneCls K (c.o 2)) (F : Fun K "fits" "Turned.fits" s_Turned_fits f fd) (AM_fits : AnyM P w K mg base (2 * n + 4) "fits" ["self", "value"] (clS c) (spFit has ff c n)) : FnOk P w K mg base CX0 (2 * n + 4 + 1) f fd ["self", "value"] (spFit has ff c (n + 1) (.o 2)) := by
  refine F.okK sc_Turned_fits (fun vs H Q E h => ?_) (fun cdv A outer s H vs Q E hr h => ?_)
  · obtain ⟨_, _, _, _, rfl, _⟩ := h; rfl
  obtain ⟨o, fm, v, d, rfl, hs, hF, hok, hht, hd, q⟩ := h
  obtain ⟨g, rfl⟩ := slot_one hs
  obtain ⟨_, dx, i, ho, hI⟩ := hF
  have hok2 := hok.one
  have hht2 : ht g ≤ n := by rw [ht] at hht; omega
  rw [fitB] at q
  have q : Q (.bl (fitB ff g d)) H := q
  obtain ⟨dxi, fsi, ei, li⟩ := FAt.fits g hI
  refine ⟨_, (pss_one (ps_ret (pe_methAny AM_fits hr (pe_fld (pv 0) rfl) (pa_cons (pv 1) pa_nil) (hk := by omega)))), _, rfl, o, c.o 2, dx, _, _, rfl, ho, T.cl, T.nI, look1 .., i, slot g, dxi, fsi, rfl, ei, li, ?_⟩
  exact ⟨_, rfl, i, g, v, d, rfl, rfl, hI, hok2, hht2, hd, H, .refl (Same.refl _), q⟩
theorem ok_Many_fits {f : Addr} {c : FC} {fd : FuncData} {n : Nat} {has : Sl → Bool} {ff : D → Bool} (nb : NB mg) (g_MOST_VALUES : GlobV mg "MOST_VALUES" (.int 60)) (T : OneCls K (c.o 1)) (F : Fun K "fits" "Many.fits" s_Many_fits f fd) (AM_fits : AnyM P w K mg base (2 * n + 4) "fits" ["self", "value"] (clS c) (spFit has ff c n)) : FnOk P w K mg base CX0 (2 * n + 4 + 1) f fd ["self", "value"] (spFit has ff c (n + 1) (.o 1)) := by
  refine F.okK sc_Many_fits (fun vs H Q E h => ?_) (fun cdv A outer s H vs Q E hr h => ?_)
  · obtain ⟨_, _, _, _, rfl, _⟩ := h; rfl
  obtain ⟨o, fm, v, d, rfl, hs, hF, hok, hht, hd, q⟩ := h
  obtain ⟨g, rfl⟩ := slot_one hs
  obtain ⟨_, dx, i, ho, hI⟩ := hF
  have hok2 := hok.one
  have hht2 : ht g ≤ n := by rw [ht] at hht; omega
  rw [fitB] at q
  have q : Q (.bl (manyFit (fitB ff g) d)) H := q
  obtain ⟨dxi, fsi, ei, li⟩ := FAt.fits g hI
  refine ⟨_, (pss_cons (ps_if (PW.pt (pw_or (pt_not (pt_truth (pe_callB call_isinstA rfl nb.isinstance_ bo_isinstance (pa_cons (pv 1) (pa_cons (pe_bltn (v := .ty "list") rfl nb.list_ bo_list rfl) pa_nil))) (fun _ => rfl))) (pw_or1 (pt_cmpR oGt (pe_callB call_len rfl nb.len_ bo_len (pa_cons (pv 1) pa_nil)) (pe_globV g_MOST_VALUES) (nomark _))))) (pss_one (ps_ret pe_bl)) pss_nil)
    (pss_one (ps_ret (pe_callB (call_all rfl) rfl nb.all_ bo_all (pa_cons (pe_comp ["part"] [(0, "self")] rfl (by decide +kernel) ⟨rfl, .inl rfl, trivial⟩ (piAll (pv 1)) (fun _ _ _ _ _ => (pg_name (i := 0) (show (["part", "self"] : List Str).Nodup by decide +kernel) rfl (by first | exact Or.inl rfl | exact Or.inr rfl))) (fun _ _ _ _ _ => pts_nil) (fun _ _ _ _ _ => (pe_methAny AM_fits hr (pe_fld (pv 1) rfl) (pa_cons (pv 0) pa_nil) (hk := by omega)))) pa_nil))))), _, rfl, .inl ⟨_, _, _, _, rfl, hd.ty, kitD K d (by decide), _, rfl, ?_⟩⟩
  cases d with
  | lst ds =>
    obtain ⟨a, vs, rfl, ea, hds, hvl⟩ := hd
    have hlen := DsAt.len ds hds
    have q : Q (.bl (decide (ds.length ≤ 60) && ds.all (fitB ff g))) H := q
    refine iteF ⟨_, rfl, _, _, rfl, .inl ⟨_, SqL.of ea, rfl⟩, _, _, rfl, rfl, _, rfl, iteD (fun c1 => ?_) (fun c1 => ?_)⟩
    · rw [decide_eq_false (by omega), Bool.false_and] at q
      exact ⟨H, .refl (Same.refl _), q⟩
    · rw [decide_eq_true (by omega), Bool.true_and] at q
      refine .inl ⟨_, rfl, a, rfl, ⟨_, SqL.of ea⟩, fun D1 hD1 => ?_⟩
      refine comp_listI (K := K) (a := a) (xs := vs) (fun k => V.bl (fitB ff g (ds.getD k .non))) (fun σ => ∃ z, σ = [z, some (.ref o)]) (small5 (by omega)) ⟨_, rfl⟩ hD1 (SqL.of ea) ?_ ?_
      · rintro k x hx σ1 H1 ⟨z, rfl⟩ hs1 R hR
        obtain ⟨dk, hdk, hxk⟩ := DsAt.get ds hds hx
        have e : ds.getD k .non = dk := by rw [List.getD_eq_getElem?_getD, hdk]; rfl
        rw [e] at hR
        refine ⟨_, rfl, o, c.o 1, dx, _, _, rfl, hs1 _ _ ho, T.cl, T.nI, look1 .., i, slot g, dxi, fsi, rfl, hs1 _ _ ei, li, ?_⟩
        exact ⟨_, rfl, i, g, x, dk, rfl, rfl, FAt.keep (fun b u _ e => hs1 b u e) g hI, hok2, hht2, DAt.same hs1 dk hxk, hR _ ⟨_, rfl⟩⟩
      · have e : (List.range vs.length).map (fun k => V.bl (fitB ff g (ds.getD k .non))) = (ds.map (fitB ff g)).map V.bl := by
          rw [hlen]
          apply List.ext_getElem
          · simp
          · intro k h1 h2
            have h3 : k < ds.length := by simpa using h2
            rw [List.getElem_map, List.getElem_map, List.getElem_map, List.getElem_range, List.getD_eq_getElem?_getD, List.getElem?_eq_getElem h3]; rfl
        rw [e]
        refine ⟨D1, ds.map (fitB ff g), rfl, SqL.of upd_same, H, .refl (same_new hD1), ?_⟩
        rw [List.all_map]
        exact q
  | _ => exact iteT ⟨H, .refl (Same.refl _), q⟩

theorem fitL_len (ff : D → Bool) : ∀ (fs : List Fm) (ds : List D), ds.length ≠ fs.length → fitL ff fs ds = false
  | [], ds, h => by
    cases ds with
    | nil => exact absurd rfl h
    | cons d ds => rw [fitL]; rfl
  | f :: fs, [], h => by rw [fitL]
  | f :: fs, d :: ds, h => by
    rw [fitL]
    show (fitB ff f d && fitL ff fs ds) = false
    rw [fitL_len ff fs ds (fun e => h (by rw [List.length_cons, List.length_cons, e])), Bool.and_false]
theorem fitL_all (ff : D → Bool) : ∀ (fs : List Fm) (ds : List D), ds.length = fs.length → fitL ff fs ds = (List.range fs.length).all fun i => fitB ff (fs.getD i (.bare 0)) (ds.getD i .non)
  | [], ds, h => by
    obtain rfl : ds = [] := List.length_eq_zero_iff.mp h
    rw [fitL]; rfl
  | f :: fs, [], h => by cases h
  | f :: fs, d :: ds, h => by
    rw [fitL]
    show (fitB ff f d && fitL ff fs ds) = _
    rw [fitL_all ff fs ds (by simpa using h), List.length_cons, List.range_succ_eq_map, List.all_cons, List.all_map]
    rfl
theorem ok_Record_fits {f : Addr} {c : FC} {fd : FuncData} {n : Nat} {has : Sl → Bool} {ff : D → Bool} (nb : NB mg) (T : TwoCls K (c.t 0)) (F : Fun K "fits" "Record.fits" s_Record_fits f fd) (AM_fits : AnyM P w K mg base (2 * n + 4) "fits" ["self", "value"] (clS c) (spFit has ff c n)) : FnOk P w K mg base CX0 (2 * n + 4 + 1) f fd ["self", "value"] (spFit has ff c (n + 1) (.t 0)) := by
  refine F.okK sc_Record_fits (fun vs H Q E h => ?_) (fun cdv A outer s H vs Q E hr h => ?_)
  · obtain ⟨_, _, _, _, rfl, _⟩ := h; rfl
  obtain ⟨o, fm, v, d, rfl, hs, hF, hok, hht, hd, q⟩ := h
  obtain ⟨ns, fs, rfl⟩ := slot_two hs
  obtain ⟨_, dx, a1, a2, os, ho, _, _, h1, h2, hI⟩ := hF
  obtain ⟨hgn, hnl, hok2⟩ := hok.two
  have hht2 : hts fs ≤ n := by rw [ht] at hht; omega
  have hol := FsAt.len fs hI
  have hn20 := (goodNames_mem hgn).1
  rw [fitB] at q
  have q : Q (.bl (tupFit (fitL ff fs) d)) H := q
  refine ⟨_, (pss_cons (ps_if (PW.pt (pw_or (pt_not (pt_truth (pe_callB call_isinstA rfl nb.isinstance_ bo_isinstance (pa_cons (pv 1) (pa_cons (pe_bltn (v := .ty "tuple") rfl nb.tuple_ bo_tuple rfl) pa_nil))) (fun _ => rfl))) (pw_or1 (pt_cmpR oNe (pe_callB call_len rfl nb.len_ bo_len (pa_cons (pv 1) pa_nil)) (pe_callB call_len rfl nb.len_ bo_len (pa_cons (pe_fld (pv 0) rfl) pa_nil)) (nomark _))))) (pss_one (ps_ret pe_bl)) pss_nil)
    (pss_one (ps_ret (pe_callB (call_all rfl) rfl nb.all_ bo_all (pa_cons (pe_comp ["form", "part"] [] rfl (by decide +kernel) trivial (pi_zipT rfl nb.zip_ (pa_cons (pe_fld (pv 0) rfl) (pa_cons (pv 1) pa_nil))) (fun _ _ _ _ _ => (pg_tup rfl (pgs_cons (pg_name (i := 0) (show (["form", "part"] : List Str).Nodup by decide +kernel) rfl (by first | exact Or.inl rfl | exact Or.inr rfl)) (pgs_cons (pg_name (i := 1) (show (["form", "part"] : List Str).Nodup by decide +kernel) rfl (by first | exact Or.inl rfl | exact Or.inr rfl)) pgs_nil)))) (fun _ _ _ _ _ => pts_nil) (fun _ _ _ _ _ => (pe_methAny AM_fits hr (pv 0) (pa_cons (pv 1) pa_nil) (hk := by omega)))) pa_nil))))), _, rfl, .inl ⟨_, _, _, _, rfl, hd.ty, kitD K d (by decide), _, rfl, ?_⟩⟩
  cases d with
  | tup ds =>
    obtain ⟨a, vs, rfl, ea, hds, hvl⟩ := hd
    have hlen := DsAt.len ds hds
    have q : Q (.bl (fitL ff fs ds)) H := q
    have hvs : vs.length = ds.length := hlen
    have hT : ∀ {H1 : Hp}, Same H H1 → SqT K H1 a vs := fun s1 => SqT.of (s1 _ _ ea)
    refine iteF ⟨_, rfl, _, _, rfl, .inr ⟨_, SqT.of ea, rfl⟩, _, rfl, o, c.t 0, dx, _, _, rfl, ho, T.cl, T.nF, look2 _ _ _ _ formsnames, _, _, rfl, .inl ⟨_, SqL.of h2, rfl⟩, rfl, _, rfl, ?_⟩
    by_cases c1 : ds.length = fs.length
    · refine iteNS (by rw [List.length_map, hvs, hol, c1]) ?_
      rw [fitL_all ff fs ds c1] at q
      refine ⟨_, rfl, o, c.t 0, dx, _, _, rfl, ho, T.cl, T.nF, look2 _ _ _ _ formsnames, _, rfl, a2, a, _, _, rfl, SqL.of h2, SqT.of ea, fun D1 hD1 => ?_⟩
      refine comp_zipT (fun k => V.bl (fitB ff (fs.getD k (.bare 0)) (ds.getD k .non))) (fun σ => ∃ z1 z2, σ = [z1, z2]) (by rw [List.length_map]; omega) ⟨_, _, rfl⟩ hD1 (SqL.of h2) (SqT.of ea) ?_ ?_
      · rintro k x y hx hy σ1 H1 T1 ⟨z1, z2, rfl⟩ hs1 hT1 R hR
        rw [List.getElem?_map] at hx
        obtain ⟨om, hom, rfl⟩ := Option.map_eq_some_iff.mp hx
        obtain ⟨fm, hfm, hFm⟩ := FsAt.get fs hI hom
        obtain ⟨dk, hdk, hyk⟩ := DsAt.get ds hds hy
        obtain ⟨hok3, hht3⟩ := hok2.get hfm
        have e1 : fs.getD k (.bare 0) = fm := by rw [List.getD_eq_getElem?_getD, hfm]; rfl
        have e2 : ds.getD k .non = dk := by rw [List.getD_eq_getElem?_getD, hdk]; rfl
        rw [e1, e2] at hR
        have sT := hs1.trans (same_new (o := HO.tup [V.ref om, y]) hT1)
        obtain ⟨dxi, fsi, ei, li⟩ := FAt.fits fm (FAt.keep (fun b u _ e => sT b u e) fm hFm)
        refine ⟨T1, _, rfl, SqT.of upd_same, rfl, _, _, rfl, _, _, rfl, rfl, ?_⟩
        refine ⟨_, rfl, om, slot fm, dxi, fsi, rfl, ei, li, ?_⟩
        exact ⟨_, rfl, om, fm, y, dk, rfl, rfl, FAt.keep (fun b u _ e => sT b u e) fm hFm, hok3, by omega, DAt.same sT dk hyk, hR _ _ ⟨_, _, rfl⟩ (Same.refl _)⟩
      · intro H' hs' hD'
        have e : (List.range (min (os.map V.ref).length vs.length)).map (fun k => V.bl (fitB ff (fs.getD k (.bare 0)) (ds.getD k .non))) = ((List.range fs.length).map fun k => fitB ff (fs.getD k (.bare 0)) (ds.getD k .non)).map V.bl := by
          rw [List.length_map, hvs, hol, c1, Nat.min_self, List.map_map]; rfl
        rw [e] at hD'
        refine ⟨D1, _, rfl, SqL.of hD', H, .refl hs', ?_⟩
        rw [List.all_map]
        exact q
    · rw [fitL_len ff fs ds c1] at q
      have hne : ¬ (V.int ((vs.length : Nat) : Int) = V.int (((os.map V.ref).length : Nat) : Int)) := fun e => c1 (by have e := V.int.inj e; rw [List.length_map] at e; omega)
      rw [decide_eq_false hne]
      exact iteT ⟨H, .refl (Same.refl _), q⟩
  | _ => exact iteT ⟨H, .refl (Same.refl _), q⟩
def has55 : Sl → Bool
  | .b 3 => false
  | .t 1 => false
  | _ => true
/-- the forms' methods fits, as this text has them -/
structure Fts (K : PySem.W.Frag) (c : FC) : Prop where
  m0 : MethAt K (c.b 0) "fits" "Nothing.fits" s_Nothing_fits ["self", "value"]
  m1 : MethAt K (c.b 1) "fits" "Truth.fits" s_Truth_fits ["self", "value"]
  m2 : MethAt K (c.b 2) "fits" "Whole.fits" s_Whole_fits ["self", "value"]
  m4 : MethAt K c.s "fits" "Span.fits" s_Span_fits ["self", "value"]
  m5 : MethAt K c.l "fits" "Letters.fits" s_Letters_fits ["self", "value"]
  m6 : MethAt K (c.o 0) "fits" "Maybe.fits" s_Maybe_fits ["self", "value"]
  m7 : MethAt K (c.o 1) "fits" "Many.fits" s_Many_fits ["self", "value"]
  m8 : MethAt K (c.o 2) "fits" "Turned.fits" s_Turned_fits ["self", "value"]
  m9 : MethAt K (c.t 0) "fits" "Record.fits" s_Record_fits ["self", "value"]
  b3 : c.b 3 = c.b 0
  t1 : c.t 1 = c.t 0
  tS : SpanCls K c.s
  tL : LetCls K c.l
  tO : ∀ k, OneCls K (c.o k)
  tT : ∀ k, TwoCls K (c.t k)
theorem all_fits {c : FC} {ff : D → Bool} (nb : NB mg) (S : Fts K c) (g_MOST_VALUES : GlobV mg "MOST_VALUES" (.int 60)) (g_LONGEST_TEXT : GlobV mg "LONGEST_TEXT" (.int 200)) (D_is_number : DefOk P w K mg base 1 "is_number" ["value"] spIsNum) (D_has_whole_row : DefOk P w K mg base 2 "has_whole_row" ["n"] spHasWholeD) (D_made_of : DefOk P w K mg base 1 "made_of" ["text", "signs"] spMadeOf) : ∀ n, AnyM P w K mg base (2 * n + 4) "fits" ["self", "value"] (clS c) (spFit has55 ff c n)
  | 0 => by
    have no : ∀ i vs H Q E, ¬ spFit has55 ff c 0 i vs H Q E := fun i vs H Q E ⟨o, f, _, _, _, _, _, _, h, _⟩ => by have := ht_pos f; omega
    intro i
    cases i with
    | b k =>
      rcases fin4 k with rfl | rfl | rfl | rfl
      · exact ⟨meth_none S.m0 (no _), S.m0.cl⟩
      · exact ⟨meth_none S.m1 (no _), S.m1.cl⟩
      · exact ⟨meth_none S.m2 (no _), S.m2.cl⟩
      · show MethOk P w K mg base _ (c.b 3) _ _ _ ∧ Cls K (c.b 3)
        rw [S.b3]; exact ⟨meth_none S.m0 (no _), S.m0.cl⟩
    | s => exact ⟨meth_none S.m4 (no _), S.m4.cl⟩
    | l => exact ⟨meth_none S.m5 (no _), S.m5.cl⟩
    | o k =>
      rcases fin3 k with rfl | rfl | rfl
      · exact ⟨meth_none S.m6 (no _), S.m6.cl⟩
      · exact ⟨meth_none S.m7 (no _), S.m7.cl⟩
      · exact ⟨meth_none S.m8 (no _), S.m8.cl⟩
    | t k =>
      rcases fin2 k with rfl | rfl
      · exact ⟨meth_none S.m9 (no _), S.m9.cl⟩
      · show MethOk P w K mg base _ (c.t 1) _ _ _ ∧ Cls K (c.t 1)
        rw [S.t1]; exact ⟨meth_none S.m9 (no _), S.m9.cl⟩
  | n + 1 => by
    have ih := all_fits (ff := ff) nb S g_MOST_VALUES g_LONGEST_TEXT D_is_number D_has_whole_row D_made_of n
    have no : ∀ i, has55 i = false → ∀ vs H Q E, ¬ spFit has55 ff c (n + 1) i vs H Q E := fun i hi vs H Q E ⟨o, f, _, _, _, hs, _, hok, _⟩ => by
      have := hok.2.slot
      rw [hs, hi] at this
      cases this
    intro i
    cases i with
    | b k =>
      rcases fin4 k with rfl | rfl | rfl | rfl
      · obtain ⟨f, fd, G, hb, hm⟩ := S.m0.ex
        exact ⟨⟨f, fd, (ok_Nothing_fits G).mono (by omega), hb, hm⟩, S.m0.cl⟩
      · obtain ⟨f, fd, G, hb, hm⟩ := S.m1.ex
        exact ⟨⟨f, fd, (ok_Truth_fits G).mono (by omega), hb, hm⟩, S.m1.cl⟩
      · obtain ⟨f, fd, G, hb, hm⟩ := S.m2.ex
        exact ⟨⟨f, fd, (ok_Whole_fitsD G D_is_number D_has_whole_row).mono (by omega), hb, hm⟩, S.m2.cl⟩
      · show MethOk P w K mg base _ (c.b 3) _ _ _ ∧ Cls K (c.b 3)
        rw [S.b3]; exact ⟨meth_none S.m0 (no _ rfl), S.m0.cl⟩
    | s =>
      obtain ⟨f, fd, G, hb, hm⟩ := S.m4.ex
      exact ⟨⟨f, fd, (ok_Span_fits S.tS G D_is_number).mono (by omega), hb, hm⟩, S.m4.cl⟩
    | l =>
      obtain ⟨f, fd, G, hb, hm⟩ := S.m5.ex
      exact ⟨⟨f, fd, (ok_Letters_fits nb g_LONGEST_TEXT S.tL G D_made_of).mono (by omega), hb, hm⟩, S.m5.cl⟩
    | o k =>
      rcases fin3 k with rfl | rfl | rfl
      · obtain ⟨f, fd, G, hb, hm⟩ := S.m6.ex
        exact ⟨⟨f, fd, (ok_Maybe_fits nb (S.tO 0) G ih).mono (by omega), hb, hm⟩, S.m6.cl⟩
      · obtain ⟨f, fd, G, hb, hm⟩ := S.m7.ex
        exact ⟨⟨f, fd, (ok_Many_fits nb g_MOST_VALUES (S.tO 1) G ih).mono (by omega), hb, hm⟩, S.m7.cl⟩
      · obtain ⟨f, fd, G, hb, hm⟩ := S.m8.ex
        exact ⟨⟨f, fd, (ok_Turned_fitsD (S.tO 2) G ih).mono (by omega), hb, hm⟩, S.m8.cl⟩
    | t k =>
      rcases fin2 k with rfl | rfl
      · obtain ⟨f, fd, G, hb, hm⟩ := S.m9.ex
        exact ⟨⟨f, fd, (ok_Record_fits nb (S.tT 0) G ih).mono (by omega), hb, hm⟩, S.m9.cl⟩
      · show MethOk P w K mg base _ (c.t 1) _ _ _ ∧ Cls K (c.t 1)
        rw [S.t1]; exact ⟨meth_none S.m9 (no _ rfl), S.m9.cl⟩

/-! ### what a form writes -/
def bareRow (fw : D → List Bool) : Fin 4 → D → List Bool
  | 1, .bl b => [b]
  | 2, .int i => whl i
  | 3, d => fw d
  | _, _ => []
def maybeRow (g : D → List Bool) : D → List Bool
  | .tup [x] => true :: g x
  | _ => [false]
def manyRow (g : D → List Bool) : D → List Bool
  | .lst ds => (ds.map fun d => true :: g d).flatten ++ [false]
  | _ => []
def oneRow (k : Fin 3) (g : D → List Bool) (d : D) : List Bool := if k = 0 then maybeRow g d else if k = 1 then manyRow g d else (g d).map (!·)
def spanRow (a b : Int) : D → List Bool
  | .int i => bitsW (i - a).toNat (blen (b - a).toNat)
  | _ => []
def letRow (s : Str) : D → List Bool
  | .str t => (t.cps.toList.map fun c => true :: bitsW (s.cps.toList.idxOf c) (blen (s.length - 1))).flatten ++ [false]
  | _ => []
def tupRow (g : List D → List Bool) : D → List Bool
  | .tup ds => g ds
  | _ => []
def choRow (g : Str → D → List Bool) : D → List Bool
  | .tup [.str n, x] => g n x
  | _ => []
mutual
def rowB (fw : D → List Bool) : Fm → D → List Bool
  | .bare k, d => bareRow fw k d
  | .sp a b, d => spanRow a b d
  | .le s, d => letRow s d
  | .one k f, d => oneRow k (rowB fw f) d
  | .two k ns fs, d => if k = 0 then tupRow (rowL fw fs) d else choRow (rowC fw fs ns 0 (fs.length - 1)) d
def rowL (fw : D → List Bool) : List Fm → List D → List Bool
  | [], _ => []
  | f :: fs, ds => match ds with | [] => [] | d :: ds => rowB fw f d ++ rowL fw fs ds
def rowC (fw : D → List Bool) : List Fm → List Str → Nat → Nat → Str → D → List Bool
  | [], _, _, _, _, _ => []
  | f :: fs, ns, k, m, n, x => if ns.head? = some n then bitsW k (blen m) ++ rowB fw f x else rowC fw fs ns.tail (k + 1) m n x
end
def spWr (has : Sl → Bool) (ff : D → Bool) (fw : D → List Bool) (c : FC) (n : Nat) (i : Sl) : Sp := fun vs H Q _ => ∃ (o : Addr) (f : Fm) (v : V) (d : D), vs = [.ref o, v] ∧ slot f = i ∧ FAt c [] H f o ∧ okH has f ∧ ht f ≤ n ∧ DAt H d v ∧ fitB ff f d = true ∧ (rowB fw f d).length ≤ 90000 ∧ Q (.str (rowS (rowB fw f d))) H
theorem FAt.written {c : FC} {X : List Addr} {H : Hp} (f : Fm) {o : Addr} (h : FAt c X H f o) : ∃ dx fs, H o = some (.ins (clS c (slot f)) dx fs) ∧ fs.lookup (Str.ofString "written") = none :=
  FAt.ins (m := Str.ofString "written") (by decide +kernel) (by decide +kernel) (by decide +kernel) (by decide +kernel) (by decide +kernel) (by decide +kernel) f h
theorem row_one : Str.ofString "1" = rowS [true] := by decide +kernel
theorem row_nil : Str.ofString "0" = rowS [false] := by decide +kernel
theorem ok_Nothing_written {f : Addr} {c : FC} {fd : FuncData} {n : Nat} {has : Sl → Bool} {ff : D → Bool} {fw : D → List Bool} (F : Fun K "written" "Nothing.written" s_Nothing_written f fd) : FnOk P w K mg base CX0 1 f fd ["self", "value"] (spWr has ff fw c n (.b 0)) := by
  refine F.okK sc_Nothing_written (fun vs H Q E h => ?_) (fun cdv A outer s H vs Q E hr h => ?_)
  · obtain ⟨_, _, _, _, rfl, _⟩ := h; rfl
  obtain ⟨o, fm, v, d, rfl, hs, hF, hok, hht, hd, hf, hl, q⟩ := h
  have := slot_bare hs
  subst this
  rw [rowB] at q
  refine ⟨_, (pss_one (ps_ret pe_str)), H, .refl (Same.refl _), ?_⟩
  cases d <;> exact q
theorem ok_Truth_written {f : Addr} {c : FC} {fd : FuncData} {n : Nat} {has : Sl → Bool} {ff : D → Bool} {fw : D → List Bool} (F : Fun K "written" "Truth.written" s_Truth_written f fd) : FnOk P w K mg base CX0 1 f fd ["self", "value"] (spWr has ff fw c n (.b 1)) := by
  refine F.okK sc_Truth_written (fun vs H Q E h => ?_) (fun cdv A outer s H vs Q E hr h => ?_)
  · obtain ⟨_, _, _, _, rfl, _⟩ := h; rfl
  obtain ⟨o, fm, v, d, rfl, hs, hF, hok, hht, hd, hf, hl, q⟩ := h
  have := slot_bare hs
  subst this
  rw [rowB] at q
  rw [fitB] at hf
  cases d with
  | bl b =>
    obtain rfl : v = .bl b := hd
    refine ⟨_, (pss_one (ps_ret (pe_ifExp (pt_truth (pv 1) (fun _ => rfl)) pe_str pe_str))), _, rfl, ?_⟩
    refine ⟨b, rfl, ?_⟩
    cases b with
    | true => exact iteT ⟨H, .refl (Same.refl _), q⟩
    | false => exact iteF ⟨H, .refl (Same.refl _), q⟩
  | _ => cases hf
theorem ok_Whole_writtenD {f : Addr} {c : FC} {fd : FuncData} {n : Nat} {has : Sl → Bool} {ff : D → Bool} {fw : D → List Bool} (F : Fun K "written" "Whole.written" s_Whole_written f fd) (D_whole_row : DefOk P w K mg base 3 "whole_row" ["n"] spWholeRow) : FnOk P w K mg base CX0 4 f fd ["self", "value"] (spWr has ff fw c n (.b 2)) := by
  refine F.okK sc_Whole_written (fun vs H Q E h => ?_) (fun cdv A outer s H vs Q E hr h => ?_)
  · obtain ⟨_, _, _, _, rfl, _⟩ := h; rfl
  obtain ⟨o, fm, v, d, rfl, hs, hF, hok, hht, hd, hf, hl, q⟩ := h
  have := slot_bare hs
  subst this
  rw [rowB] at q
  rw [fitB] at hf
  cases d with
  | int i =>
    obtain rfl : v = .int i := hd
    exact ⟨_, (pss_one (ps_ret (pe_callD D_whole_row hr (pa_cons (pv 1) pa_nil)))), _, rfl, i, rfl, of_decide_eq_true hf, H, .refl (Same.refl _), q⟩
  | _ => cases hf
theorem ok_Span_writtenD {f : Addr} {c : FC} {fd : FuncData} {n : Nat} {has : Sl → Bool} {ff : D → Bool} {fw : D → List Bool} (T : SpanCls K c.s) (F : Fun K "written" "Span.written" s_Span_written f fd) (D_fixed_row : DefOk P w K mg base 2 "fixed_row" ["n", "most"] spFixedRow) : FnOk P w K mg base CX0 3 f fd ["self", "value"] (spWr has ff fw c n .s) := by
  refine F.okK sc_Span_written (fun vs H Q E h => ?_) (fun cdv A outer s H vs Q E hr h => ?_)
  · obtain ⟨_, _, _, _, rfl, _⟩ := h; rfl
  obtain ⟨o, fm, v, d, rfl, hs, hF, hok, hht, hd, hf, hl, q⟩ := h
  obtain ⟨a, b, rfl⟩ := slot_sp hs
  obtain ⟨_, dx, ho⟩ := hF
  rw [rowB] at q hl
  rw [fitB] at hf
  cases d with
  | int i =>
    obtain rfl : v = .int i := hd
    have hf : a ≤ i ∧ i ≤ b := of_decide_eq_true hf
    have hl : (bitsW (i - a).toNat (blen (b - a).toNat)).length ≤ 90000 := hl
    rw [bitsW_length] at hl
    have e1 : ((i - a).toNat : Int) = i - a := Int.toNat_of_nonneg (by omega)
    have e2 : ((b - a).toNat : Int) = b - a := Int.toNat_of_nonneg (by omega)
    refine ⟨_, (pss_one (ps_ret (pe_callD D_fixed_row hr (pa_cons (pe_op oSub (pv 1) (pe_fld (pv 0) rfl)) (pa_cons (pe_op oSub (pe_fld (pv 0) rfl) (pe_fld (pv 0) rfl)) pa_nil))))), ?_⟩
    refine ⟨_, rfl, _, rfl, o, c.s, dx, _, _, rfl, ho, T.cl, T.nL, look1 .., _, _, rfl, rfl, _, rfl, o, c.s, dx, _, _, rfl, ho, T.cl, T.nH, look2 _ _ _ _ highlow, _, rfl, o, c.s, dx, _, _, rfl, ho, T.cl, T.nL, look1 .., _, _, rfl, rfl, (i - a).toNat, (b - a).toNat, by rw [e1, e2]; rfl, by omega, by omega, H, .refl (Same.refl _), q⟩
  | _ => cases hf
theorem ok_Maybe_written {f : Addr} {c : FC} {fd : FuncData} {n : Nat} {has : Sl → Bool} {ff : D → Bool} {fw : D → List Bool} (nb : NB mg) (T : OneCls K (c.o 0)) (F : Fun K "written" "Maybe.written" s_Maybe_written f fd) (AM_written : AnyM P w K mg base (2 * n + 4) "written" ["self", "value"] (clS c) (spWr has ff fw c n)) : FnOk P w K mg base CX0 (2 * n + 4 + 1) f fd ["self", "value"] (spWr has ff fw c (n + 1) (.o 0)) := by
  refine F.okK sc_Maybe_written (fun vs H Q E h => ?_) (fun cdv A outer s H vs Q E hr h => ?_)
  · obtain ⟨_, _, _, _, rfl, _⟩ := h; rfl
  obtain ⟨o, fm, v, d, rfl, hs, hF, hok, hht, hd, hf, hl, q⟩ := h
  obtain ⟨g, rfl⟩ := slot_one hs
  obtain ⟨_, dx, i, ho, hI⟩ := hF
  have hok2 := hok.one
  have hht2 : ht g ≤ n := by rw [ht] at hht; omega
  rw [fitB] at hf
  rw [rowB] at q hl
  have hf : maybeFit (fitB ff g) d = true := hf
  have q : Q (.str (rowS (maybeRow (rowB fw g) d))) H := q
  have hl : (maybeRow (rowB fw g) d).length ≤ 90000 := hl
  obtain ⟨dxi, fsi, ei, li⟩ := FAt.written g hI
  cases d with
  | tup ds =>
    obtain ⟨a, vs, rfl, ea, hds, hvl⟩ := hd
    have hlen := DsAt.len ds hds
    refine ⟨_, (pss_one (ps_ret (pe_ifExp (pt_cmpR oEq (pe_callB call_len rfl nb.len_ bo_len (pa_cons (pv 1) pa_nil)) pe_int (nomark _)) pe_str (pe_op oAdd pe_str (pe_methAny AM_written hr (pe_fld (pv 0) rfl) (pa_cons (pe_ix iAll (pv 1) pe_int (fun _ _ => rfl)) pa_nil) (hk := by omega)))))), ?_⟩
    refine ⟨_, rfl, _, _, rfl, .inr ⟨_, SqT.of ea, rfl⟩, rfl, _, rfl, ?_⟩
    cases ds with
    | nil =>
      obtain rfl : vs = [] := hds
      exact iteT ⟨H, .refl (Same.refl _), q⟩
    | cons x r =>
      cases r with
      | cons y r => cases hf
      | nil =>
        obtain ⟨y, r, rfl, hx, hr'⟩ := hds
        obtain rfl : r = [] := hr'
        have hl : (true :: rowB fw g x).length ≤ 90000 := hl
        rw [List.length_cons] at hl
        refine iteF ⟨_, rfl, o, c.o 0, dx, _, _, rfl, ho, T.cl, T.nI, look1 .., i, slot g, dxi, fsi, rfl, ei, li, ?_⟩
        refine ⟨_, rfl, .inl (.inr ⟨_, _, _, _, rfl, rfl, SqT.of ea, atI_nat (j := 0) rfl, i, g, y, x, rfl, rfl, hI, hok2, hht2, hx, hf, by omega, .inr ⟨_, _, rfl, rfl, small5 ?_, H, .refl (Same.refl _), ?_⟩⟩)⟩
        · rw [row_one, rowS_length, rowS_length]; simp only [List.length_cons, List.length_nil]; omega
        · rw [row_one, rowS_append]; exact q
  | _ => cases hf
theorem ok_Turned_written {f : Addr} {c : FC} {fd : FuncData} {n : Nat} {has : Sl → Bool} {ff : D → Bool} {fw : D → List Bool} (T : OneCls K (c.o 2)) (F : Fun K "written" "Turned.written" s_Turned_written f fd) (D_turned_row : DefOk P w K mg base 1 "turned_row" ["row"] spTurnedRow) (AM_written : AnyM P w K mg base (2 * n + 4) "written" ["self", "value"] (clS c) (spWr has ff fw c n)) : FnOk P w K mg base CX0 (2 * n + 4 + 1) f fd ["self", "value"] (spWr has ff fw c (n + 1) (.o 2)) := by
  refine F.okK sc_Turned_written (fun vs H Q E h => ?_) (fun cdv A outer s H vs Q E hr h => ?_)
  · obtain ⟨_, _, _, _, rfl, _⟩ := h; rfl
  obtain ⟨o, fm, v, d, rfl, hs, hF, hok, hht, hd, hf, hl, q⟩ := h
  obtain ⟨g, rfl⟩ := slot_one hs
  obtain ⟨_, dx, i, ho, hI⟩ := hF
  have hok2 := hok.one
  have hht2 : ht g ≤ n := by rw [ht] at hht; omega
  rw [fitB] at hf
  rw [rowB] at q hl
  have hf : fitB ff g d = true := hf
  have q : Q (.str (rowS ((rowB fw g d).map (!·)))) H := q
  have hl : ((rowB fw g d).map (!·)).length ≤ 90000 := hl
  rw [List.length_map] at hl
  obtain ⟨dxi, fsi, ei, li⟩ := FAt.written g hI
  refine ⟨_, (pss_one (ps_ret (pe_callD D_turned_row hr (pa_cons (pe_methAny AM_written hr (pe_fld (pv 0) rfl) (pa_cons (pv 1) pa_nil) (hk := by omega)) pa_nil) (hk := by omega)))), ?_⟩
  refine ⟨_, rfl, o, c.o 2, dx, _, _, rfl, ho, T.cl, T.nI, look1 .., i, slot g, dxi, fsi, rfl, ei, li, ?_⟩
  exact ⟨_, rfl, i, g, v, d, rfl, rfl, hI, hok2, hht2, hd, hf, hl, _, rfl, by omega, H, .refl (Same.refl _), q⟩
theorem part_len {ls : List (List Bool)} {l : List Bool} (h : l ∈ ls) : l.length ≤ ls.flatten.length := by
  induction ls with
  | nil => cases h
  | cons a r ih =>
    rw [List.flatten_cons, List.length_append]
    rcases List.mem_cons.mp h with rfl | h
    · omega
    · have := ih h; omega
theorem rows_sum (ls : List (List Bool)) : ((ls.map rowS).map (·.length)).sum + (ls.map rowS).length * (Str.ofString "").length = ls.flatten.length := by
  have e : (Str.ofString "").length = 0 := by decide +kernel
  rw [e, Nat.mul_zero, Nat.add_zero, List.map_map, List.length_flatten]
  congr 1
  exact List.map_congr_left fun l _ => rowS_length l
theorem rowL_flat (fw : D → List Bool) : ∀ (fs : List Fm) (ds : List D), ds.length = fs.length → rowL fw fs ds = ((List.range fs.length).map fun i => rowB fw (fs.getD i (.bare 0)) (ds.getD i .non)).flatten
  | [], ds, h => by rw [rowL]; rfl
  | f :: fs, [], h => by cases h
  | f :: fs, d :: ds, h => by
    rw [rowL]
    show rowB fw f d ++ rowL fw fs ds = _
    rw [rowL_flat fw fs ds (by simpa using h), List.length_cons, List.range_succ_eq_map, List.map_cons, List.flatten_cons, List.map_map]
    rfl
theorem ok_Many_written {f : Addr} {c : FC} {fd : FuncData} {n : Nat} {has : Sl → Bool} {ff : D → Bool} {fw : D → List Bool} (nb : NB mg) (T : OneCls K (c.o 1)) (F : Fun K "written" "Many.written" s_Many_written f fd) (AM_written : AnyM P w K mg base (2 * n + 4) "written" ["self", "value"] (clS c) (spWr has ff fw c n)) : FnOk P w K mg base CX0 (2 * n + 4 + 1) f fd ["self", "value"] (spWr has ff fw c (n + 1) (.o 1)) := by
  refine F.okK sc_Many_written (fun vs H Q E h => ?_) (fun cdv A outer s H vs Q E hr h => ?_)
  · obtain ⟨_, _, _, _, rfl, _⟩ := h; rfl
  obtain ⟨o, fm, v, d, rfl, hs, hF, hok, hht, hd, hf, hl, q⟩ := h
  obtain ⟨g, rfl⟩ := slot_one hs
  obtain ⟨_, dx, i, ho, hI⟩ := hF
  have hok2 := hok.one
  have hht2 : ht g ≤ n := by rw [ht] at hht; omega
  rw [fitB] at hf
  rw [rowB] at q hl
  have hf : manyFit (fitB ff g) d = true := hf
  obtain ⟨dxi, fsi, ei, li⟩ := FAt.written g hI
  cases d with
  | lst ds =>
    obtain ⟨a, vs, rfl, ea, hds, hvl⟩ := hd
    have hlen := DsAt.len ds hds
    have hf : (decide (ds.length ≤ 60) && ds.all (fitB ff g)) = true := hf
    obtain ⟨h60, hall⟩ := Bool.and_eq_true_iff.mp hf
    have hall := List.all_eq_true.mp hall
    have q : Q (.str (rowS ((ds.map fun d => true :: rowB fw g d).flatten ++ [false]))) H := q
    have hl : ((ds.map fun d => true :: rowB fw g d).flatten ++ [false]).length ≤ 90000 := hl
    rw [List.length_append] at hl
    refine ⟨_, (pss_one (ps_ret (pe_op oAdd (pe_bm PySem.F.plainAttrs_str PySem.F.slot_str_join PySem.F.type_str_join mt_join pe_str (pa_cons (pe_comp ["part"] [(0, "self")] rfl (by decide +kernel) ⟨rfl, .inl rfl, trivial⟩ (piAll (pv 1)) (fun _ _ _ _ _ => (pg_name (i := 0) (show (["part", "self"] : List Str).Nodup by decide +kernel) rfl (by first | exact Or.inl rfl | exact Or.inr rfl))) (fun _ _ _ _ _ => pts_nil) (fun _ _ _ _ _ => (pe_op oAdd pe_str (pe_methAny AM_written hr (pe_fld (pv 1) rfl) (pa_cons (pv 0) pa_nil) (hk := by omega))))) pa_nil)) pe_str))), ?_⟩
    refine ⟨rfl, .inl ⟨_, rfl, a, rfl, ⟨_, SqL.of ea⟩, fun D1 hD1 => ?_⟩⟩
    refine comp_listI (K := K) (a := a) (xs := vs) (fun k => V.str (rowS (true :: rowB fw g (ds.getD k .non)))) (fun σ => ∃ z, σ = [z, some (.ref o)]) (small5 (by omega)) ⟨_, rfl⟩ hD1 (SqL.of ea) ?_ ?_
    · rintro k x hx σ1 H1 ⟨z, rfl⟩ hs1 R hR
      obtain ⟨dk, hdk, hxk⟩ := DsAt.get ds hds hx
      have e : ds.getD k .non = dk := by rw [List.getD_eq_getElem?_getD, hdk]; rfl
      rw [e] at hR
      have hm : dk ∈ ds := List.mem_of_getElem? hdk
      have hp := part_len (List.mem_map_of_mem (f := fun d => true :: rowB fw g d) hm)
      rw [List.length_cons] at hp
      refine ⟨_, rfl, o, c.o 1, dx, _, _, rfl, hs1 _ _ ho, T.cl, T.nI, look1 .., i, slot g, dxi, fsi, rfl, hs1 _ _ ei, li, ?_⟩
      refine ⟨_, rfl, i, g, x, dk, rfl, rfl, FAt.keep (fun b u _ e => hs1 b u e) g hI, hok2, hht2, DAt.same hs1 dk hxk, hall _ hm, by omega, .inr ⟨_, _, rfl, rfl, small5 ?_, ?_⟩⟩
      · rw [row_one, rowS_length, rowS_length]; simp only [List.length_cons, List.length_nil]; omega
      · rw [row_one, rowS_append]; exact hR _ ⟨_, rfl⟩
    · have e : (List.range vs.length).map (fun k => V.str (rowS (true :: rowB fw g (ds.getD k .non)))) = ((ds.map fun d => true :: rowB fw g d).map rowS).map V.str := by
        rw [hlen]
        apply List.ext_getElem
        · simp
        · intro k h1 h2
          have h3 : k < ds.length := by simpa using h2
          rw [List.getElem_map, List.getElem_map, List.getElem_map, List.getElem_map, List.getElem_range, List.getD_eq_getElem?_getD, List.getElem?_eq_getElem h3]; rfl
      rw [e]
      refine ⟨_, D1, _, rfl, rfl, SqL.of upd_same, by rw [rows_sum]; omega, .inr ⟨_, _, rfl, rfl, small5 ?_, H, .refl (same_new hD1), ?_⟩⟩
      · rw [join_rows, row_nil, rowS_length, rowS_length]; omega
      · rw [join_rows, row_nil, rowS_append]; exact q
  | _ => cases hf
theorem ok_Record_written {f : Addr} {c : FC} {fd : FuncData} {n : Nat} {has : Sl → Bool} {ff : D → Bool} {fw : D → List Bool} (nb : NB mg) (T : TwoCls K (c.t 0)) (F : Fun K "written" "Record.written" s_Record_written f fd) (AM_written : AnyM P w K mg base (2 * n + 4) "written" ["self", "value"] (clS c) (spWr has ff fw c n)) : FnOk P w K mg base CX0 (2 * n + 4 + 1) f fd ["self", "value"] (spWr has ff fw c (n + 1) (.t 0)) := by
  refine F.okK sc_Record_written (fun vs H Q E h => ?_) (fun cdv A outer s H vs Q E hr h => ?_)
  · obtain ⟨_, _, _, _, rfl, _⟩ := h; rfl
  obtain ⟨o, fm, v, d, rfl, hs, hF, hok, hht, hd, hf, hl, q⟩ := h
  obtain ⟨ns, fs, rfl⟩ := slot_two hs
  obtain ⟨_, dx, a1, a2, os, ho, _, _, h1, h2, hI⟩ := hF
  obtain ⟨hgn, hnl, hok2⟩ := hok.two
  have hht2 : hts fs ≤ n := by rw [ht] at hht; omega
  have hol := FsAt.len fs hI
  have hn20 := (goodNames_mem hgn).1
  rw [fitB] at hf
  rw [rowB] at q hl
  have hf : tupFit (fitL ff fs) d = true := hf
  cases d with
  | tup ds =>
    obtain ⟨a, vs, rfl, ea, hds, hvl⟩ := hd
    have hvs := DsAt.len ds hds
    have hf : fitL ff fs ds = true := hf
    have c1 : ds.length = fs.length := Classical.byContradiction fun hn => by rw [fitL_len ff fs ds hn] at hf; cases hf
    rw [fitL_all ff fs ds c1] at hf
    have hall := List.all_eq_true.mp hf
    have q : Q (.str (rowS (rowL fw fs ds))) H := q
    have hl : (rowL fw fs ds).length ≤ 90000 := hl
    rw [rowL_flat fw fs ds c1] at q hl
    refine ⟨_, (pss_one (ps_ret (pe_bm PySem.F.plainAttrs_str PySem.F.slot_str_join PySem.F.type_str_join mt_join pe_str (pa_cons (pe_comp ["form", "part"] [] rfl (by decide +kernel) trivial (pi_zipT rfl nb.zip_ (pa_cons (pe_fld (pv 0) rfl) (pa_cons (pv 1) pa_nil))) (fun _ _ _ _ _ => (pg_tup rfl (pgs_cons (pg_name (i := 0) (show (["form", "part"] : List Str).Nodup by decide +kernel) rfl (by first | exact Or.inl rfl | exact Or.inr rfl)) (pgs_cons (pg_name (i := 1) (show (["form", "part"] : List Str).Nodup by decide +kernel) rfl (by first | exact Or.inl rfl | exact Or.inr rfl)) pgs_nil)))) (fun _ _ _ _ _ => pts_nil) (fun _ _ _ _ _ => (pe_methAny AM_written hr (pv 0) (pa_cons (pv 1) pa_nil) (hk := by omega)))) pa_nil)))), ?_⟩
    refine ⟨rfl, _, rfl, o, c.t 0, dx, _, _, rfl, ho, T.cl, T.nF, look2 _ _ _ _ formsnames, _, rfl, a2, a, _, _, rfl, SqL.of h2, SqT.of ea, fun D1 hD1 => ?_⟩
    refine comp_zipT (fun k => V.str (rowS (rowB fw (fs.getD k (.bare 0)) (ds.getD k .non)))) (fun σ => ∃ z1 z2, σ = [z1, z2]) (by rw [List.length_map]; omega) ⟨_, _, rfl⟩ hD1 (SqL.of h2) (SqT.of ea) ?_ ?_
    · rintro k x y hx hy σ1 H1 T1 ⟨z1, z2, rfl⟩ hs1 hT1 R hR
      rw [List.getElem?_map] at hx
      obtain ⟨om, hom, rfl⟩ := Option.map_eq_some_iff.mp hx
      obtain ⟨fm, hfm, hFm⟩ := FsAt.get fs hI hom
      obtain ⟨dk, hdk, hyk⟩ := DsAt.get ds hds hy
      obtain ⟨hok3, hht3⟩ := hok2.get hfm
      have e1 : fs.getD k (.bare 0) = fm := by rw [List.getD_eq_getElem?_getD, hfm]; rfl
      have e2 : ds.getD k .non = dk := by rw [List.getD_eq_getElem?_getD, hdk]; rfl
      have hk : k ∈ List.range fs.length := List.mem_range.mpr (List.getElem?_eq_some_iff.mp hfm).1
      have hfk := hall k hk
      have hp := part_len (List.mem_map_of_mem (f := fun i => rowB fw (fs.getD i (.bare 0)) (ds.getD i .non)) hk)
      rw [e1, e2] at hR hfk hp
      have sT := hs1.trans (same_new (o := HO.tup [V.ref om, y]) hT1)
      obtain ⟨dxi, fsi, ei, li⟩ := FAt.written fm (FAt.keep (fun b u _ e => sT b u e) fm hFm)
      refine ⟨T1, _, rfl, SqT.of upd_same, rfl, _, _, rfl, _, _, rfl, rfl, ?_⟩
      refine ⟨_, rfl, om, slot fm, dxi, fsi, rfl, ei, li, ?_⟩
      exact ⟨_, rfl, om, fm, y, dk, rfl, rfl, FAt.keep (fun b u _ e => sT b u e) fm hFm, hok3, by omega, DAt.same sT dk hyk, hfk, by omega, hR _ _ ⟨_, _, rfl⟩ (Same.refl _)⟩
    · intro H' hs' hD'
      have e : (List.range (min (os.map V.ref).length vs.length)).map (fun k => V.str (rowS (rowB fw (fs.getD k (.bare 0)) (ds.getD k .non)))) = (((List.range fs.length).map fun k => rowB fw (fs.getD k (.bare 0)) (ds.getD k .non)).map rowS).map V.str := by
        rw [List.length_map, hvs, hol, c1, Nat.min_self, List.map_map, List.map_map]; rfl
      rw [e] at hD'
      refine ⟨_, D1, _, rfl, rfl, SqL.of hD', by rw [rows_sum]; omega, H, .refl hs', ?_⟩
      rw [join_rows]; exact q
  | _ => cases hf

def idxs (s t : Str) : List Nat := t.cps.toList.map fun c => s.cps.toList.idxOf c
def spPlaces (C : Addr) : Sp := fun vs H Q _ => ∃ (o dx : Addr) (s t : Str), vs = [.ref o, .str t] ∧ H o = some (.ins C dx [("signs", .str s)]) ∧ madeOf t s = true ∧ t.length ≤ 200 ∧ ∀ r, H r = none → Q (.ref r) (upd H r (.lst ((idxs s t).map fun k => V.int ((k : Nat) : Int))))
theorem ok_Letters_places {f C : Addr} {fd : FuncData} (T : LetCls K C) (F : Fun K "places" "Letters.places" s_Letters_places f fd) : FnOk P w K mg base CX0 1 f fd ["self", "text"] (spPlaces C) := by
  refine F.okK sc_Letters_places (fun vs H Q E h => ?_) (fun cdv A outer s H vs Q E hr h => ?_)
  · obtain ⟨_, _, _, _, rfl, _⟩ := h; rfl
  obtain ⟨o, dx, sg, t, rfl, ho, hm, hl, q⟩ := h
  refine ⟨_, (pss_one (ps_ret (pe_comp ["sign"] [(0, "self")] rfl (by decide +kernel) ⟨rfl, .inl rfl, trivial⟩ (piAll (pv 1)) (fun _ _ _ _ _ => (pg_name (i := 0) (show (["sign", "self"] : List Str).Nodup by decide +kernel) rfl (by first | exact Or.inl rfl | exact Or.inr rfl))) (fun _ _ _ _ _ => pts_nil) (fun _ _ _ _ _ => (pe_bm PySem.F.plainAttrs_str PySem.F.slot_str_index PySem.F.type_str_index mt_sindexE (pe_fld (pv 1) rfl) (pa_cons (pv 0) pa_nil)))))), ?_⟩
  refine .inr ⟨_, rfl, _, rfl, fun D hD => ?_⟩
  refine comp_str (fun c => V.int ((sg.cps.toList.idxOf c : Nat) : Int)) (fun σ => ∃ z, σ = [z, some (.ref o)]) (small5 (by show t.length ≤ _; omega)) ⟨_, rfl⟩ hD ?_ ?_
  · rintro ch hc σ1 H1 ⟨z, rfl⟩ hs1 R hR
    refine ⟨_, rfl, o, C, dx, _, _, rfl, hs1 _ _ ho, T.cl, T.nS, look1 .., ?_⟩
    exact ⟨rfl, _, rfl, sg, ch, rfl, rfl, of_decide_eq_true (List.all_eq_true.mp hm ch hc), hR _ ⟨_, rfl⟩⟩
  · refine ⟨_, .new hD (same_new hD) upd_same trivial, ?_⟩
    have q := q D hD
    unfold idxs at q
    rw [List.map_map] at q
    exact q
theorem ok_Letters_written {f : Addr} {c : FC} {fd : FuncData} {n : Nat} {has : Sl → Bool} {ff : D → Bool} {fw : D → List Bool} (nb : NB mg) (T : LetCls K c.l) (F : Fun K "written" "Letters.written" s_Letters_written f fd) (c_C : Cls K c.l) (M_places : MethOk P w K mg base 1 c.l "places" ["self", "text"] (spPlaces c.l)) (D_fixed_row : DefOk P w K mg base 2 "fixed_row" ["n", "most"] spFixedRow) : FnOk P w K mg base CX0 3 f fd ["self", "value"] (spWr has ff fw c n .l) := by
  refine F.okK sc_Letters_written (fun vs H Q E h => ?_) (fun cdv A outer s H vs Q E hr h => ?_)
  · obtain ⟨_, _, _, _, rfl, _⟩ := h; rfl
  obtain ⟨o, fm, v, d, rfl, hs, hF, hok, hht, hd, hf, hl, q⟩ := h
  obtain ⟨sg, rfl⟩ := slot_le hs
  obtain ⟨_, dx, ho⟩ := hF
  rw [fitB] at hf
  rw [rowB] at q hl
  cases d with
  | str t =>
    obtain ⟨rfl, _⟩ := hd
    have hf : (decide (t.length ≤ 200) && madeOf t sg) = true := hf
    obtain ⟨h200, hm⟩ := Bool.and_eq_true_iff.mp hf
    have h200 := of_decide_eq_true h200
    have hsg : goodText sg = true ∧ sg.length ≤ 60 := by have := hok.1; rw [okF] at this; exact this
    refine ⟨_, (pss_cons (ps_set (i := 2) sc_Letters_written.nd rfl (by first | exact Or.inl rfl | exact Or.inr rfl) (pe_op oSub (pe_callB call_len rfl nb.len_ bo_len (pa_cons (pe_fld (pv 0) rfl) pa_nil)) pe_int))
    (pss_one (ps_ret (pe_op oAdd (pe_bm PySem.F.plainAttrs_str PySem.F.slot_str_join PySem.F.type_str_join mt_join pe_str (pa_cons (pe_comp ["place"] [(2, "most")] rfl (by decide +kernel) ⟨rfl, .inl rfl, trivial⟩ (piAll (pe_methD M_places c_C hr (pv 0) (pa_cons (pv 1) pa_nil))) (fun _ _ _ _ _ => (pg_name (i := 0) (show (["place", "most"] : List Str).Nodup by decide +kernel) rfl (by first | exact Or.inl rfl | exact Or.inr rfl))) (fun _ _ _ _ _ => pts_nil) (fun _ _ _ _ _ => (pe_op oAdd pe_str (pe_callD D_fixed_row hr (pa_cons (pv 0) (pa_cons (pv 1) pa_nil)))))) pa_nil)) pe_str)))), ?_⟩
    have q : Q (.str (rowS ((t.cps.toList.map fun c => true :: bitsW (sg.cps.toList.idxOf c) (blen (sg.length - 1))).flatten ++ [false]))) H := q
    have hl : ((t.cps.toList.map fun c => true :: bitsW (sg.cps.toList.idxOf c) (blen (sg.length - 1))).flatten ++ [false]).length ≤ 90000 := hl
    rw [List.length_append] at hl
    refine ⟨_, rfl, o, c.l, dx, _, _, rfl, ho, T.cl, T.nS, look1 .., _, _, rfl, ⟨small5 (by omega), rfl⟩, _, _, rfl, rfl, ?_⟩
    have nlk : List.lookup (Str.ofString "places") [(Str.ofString "signs", V.str sg)] = none := by
      unfold List.lookup
      rw [show (Str.ofString "places" == Str.ofString "signs") = false by decide +kernel]
      rfl
    refine ⟨rfl, .inl ⟨_, rfl, o, dx, _, rfl, ho, nlk, _, rfl, o, dx, sg, t, rfl, ho, hm, h200, fun r hr2 => ?_⟩⟩
    have il : (idxs sg t).length = t.length := by unfold idxs; rw [List.length_map]; exact Array.length_toList
    refine ⟨r, rfl, ⟨_, SqL.of upd_same⟩, fun D1 hD1 => ?_⟩
    refine comp_listI (K := K) (a := r) (xs := (idxs sg t).map fun k => V.int ((k : Nat) : Int)) (fun k => V.str (rowS (true :: bitsW ((idxs sg t).getD k 0) (blen (sg.length - 1))))) (fun σ => ∃ z, σ = [z, some (V.int ((sg.length : Int) - 1))]) (small5 (by rw [List.length_map]; omega)) ⟨_, rfl⟩ hD1 (SqL.of upd_same) ?_ ?_
    · rintro k x hx σ1 H1 ⟨z, rfl⟩ hs1 R hR
      rw [List.getElem?_map] at hx
      obtain ⟨ix, hix, rfl⟩ := Option.map_eq_some_iff.mp hx
      have e : (idxs sg t).getD k 0 = ix := by rw [List.getD_eq_getElem?_getD, hix]; rfl
      rw [e] at hR
      have hix' := hix
      unfold idxs at hix'
      rw [List.getElem?_map] at hix'
      obtain ⟨ch, hch, rfl⟩ := Option.map_eq_some_iff.mp hix'
      have hcm : ch ∈ t.cps.toList := List.mem_of_getElem? hch
      have hcs : ch ∈ sg.cps.toList := of_decide_eq_true (List.all_eq_true.mp hm ch hcm)
      have hlt : sg.cps.toList.idxOf ch < sg.length := by
        have := List.idxOf_lt_length_iff.mpr hcs
        rwa [Array.length_toList] at this
      have hp := part_len (List.mem_map_of_mem (f := fun c => true :: bitsW (sg.cps.toList.idxOf c) (blen (sg.length - 1))) hcm)
      rw [List.length_cons, bitsW_length] at hp
      have e2 : (sg.length : Int) - 1 = ((sg.length - 1 : Nat) : Int) := by omega
      refine ⟨_, rfl, _, rfl, sg.cps.toList.idxOf ch, sg.length - 1, by rw [← e2]; rfl, by omega, by omega, .inr ⟨_, _, rfl, rfl, small5 ?_, ?_⟩⟩
      · rw [row_one, rowS_length, rowS_length, bitsW_length]; simp only [List.length_cons, List.length_nil]; omega
      · rw [row_one, rowS_append]; exact hR _ ⟨_, rfl⟩
    · have e : (List.range ((idxs sg t).map fun k => V.int ((k : Nat) : Int)).length).map (fun k => V.str (rowS (true :: bitsW ((idxs sg t).getD k 0) (blen (sg.length - 1))))) = ((t.cps.toList.map fun c => true :: bitsW (sg.cps.toList.idxOf c) (blen (sg.length - 1))).map rowS).map V.str := by
        rw [List.length_map]
        apply List.ext_getElem
        · unfold idxs; simp
        · intro k h1 h2
          have h3 : k < t.cps.toList.length := by simpa using h2
          have e3 : (idxs sg t)[k]? = some (sg.cps.toList.idxOf t.cps.toList[k]) := by unfold idxs; rw [List.getElem?_map, List.getElem?_eq_getElem h3]; rfl
          rw [List.getElem_map, List.getElem_map, List.getElem_map, List.getElem_map, List.getElem_range, List.getD_eq_getElem?_getD, e3]; rfl
      rw [e]
      have sm := (same_new (o := HO.lst ((idxs sg t).map fun k => V.int ((k : Nat) : Int))) hr2).trans (same_new (o := HO.lst (((t.cps.toList.map fun c => true :: bitsW (sg.cps.toList.idxOf c) (blen (sg.length - 1))).map rowS).map V.str)) hD1)
      refine ⟨_, D1, _, rfl, rfl, SqL.of upd_same, by rw [rows_sum]; omega, .inr ⟨_, _, rfl, rfl, small5 ?_, H, .refl sm, ?_⟩⟩
      · rw [join_rows, row_nil, rowS_length, rowS_length]; omega
      · rw [join_rows, row_nil, rowS_append]; exact q
  | _ => cases hf

/-- the forms' methods written, as this text has them -/
structure Wts (K : PySem.W.Frag) (c : FC) : Prop where
  m0 : MethAt K (c.b 0) "written" "Nothing.written" s_Nothing_written ["self", "value"]
  m1 : MethAt K (c.b 1) "written" "Truth.written" s_Truth_written ["self", "value"]
  m2 : MethAt K (c.b 2) "written" "Whole.written" s_Whole_written ["self", "value"]
  m4 : MethAt K c.s "written" "Span.written" s_Span_written ["self", "value"]
  m5 : MethAt K c.l "written" "Letters.written" s_Letters_written ["self", "value"]
  m6 : MethAt K (c.o 0) "written" "Maybe.written" s_Maybe_written ["self", "value"]
  m7 : MethAt K (c.o 1) "written" "Many.written" s_Many_written ["self", "value"]
  m8 : MethAt K (c.o 2) "written" "Turned.written" s_Turned_written ["self", "value"]
  m9 : MethAt K (c.t 0) "written" "Record.written" s_Record_written ["self", "value"]
  b3 : c.b 3 = c.b 0
  t1 : c.t 1 = c.t 0
  tS : SpanCls K c.s
  tL : LetCls K c.l
  tO : ∀ k, OneCls K (c.o k)
  tT : ∀ k, TwoCls K (c.t k)
theorem all_written {c : FC} {ff : D → Bool} {fw : D → List Bool} (nb : NB mg) (S : Wts K c) (M_places : MethOk P w K mg base 1 c.l "places" ["self", "text"] (spPlaces c.l)) (D_whole_row : DefOk P w K mg base 3 "whole_row" ["n"] spWholeRow) (D_fixed_row : DefOk P w K mg base 2 "fixed_row" ["n", "most"] spFixedRow) (D_turned_row : DefOk P w K mg base 1 "turned_row" ["row"] spTurnedRow) : ∀ n, AnyM P w K mg base (2 * n + 4) "written" ["self", "value"] (clS c) (spWr has55 ff fw c n)
  | 0 => by
    have no : ∀ i vs H Q E, ¬ spWr has55 ff fw c 0 i vs H Q E := fun i vs H Q E ⟨o, f, _, _, _, _, _, _, h, _⟩ => by have := ht_pos f; omega
    intro i
    cases i with
    | b k =>
      rcases fin4 k with rfl | rfl | rfl | rfl
      · exact ⟨meth_none S.m0 (no _), S.m0.cl⟩
      · exact ⟨meth_none S.m1 (no _), S.m1.cl⟩
      · exact ⟨meth_none S.m2 (no _), S.m2.cl⟩
      · show MethOk P w K mg base _ (c.b 3) _ _ _ ∧ Cls K (c.b 3)
        rw [S.b3]; exact ⟨meth_none S.m0 (no _), S.m0.cl⟩
    | s => exact ⟨meth_none S.m4 (no _), S.m4.cl⟩
    | l => exact ⟨meth_none S.m5 (no _), S.m5.cl⟩
    | o k =>
      rcases fin3 k with rfl | rfl | rfl
      · exact ⟨meth_none S.m6 (no _), S.m6.cl⟩
      · exact ⟨meth_none S.m7 (no _), S.m7.cl⟩
      · exact ⟨meth_none S.m8 (no _), S.m8.cl⟩
    | t k =>
      rcases fin2 k with rfl | rfl
      · exact ⟨meth_none S.m9 (no _), S.m9.cl⟩
      · show MethOk P w K mg base _ (c.t 1) _ _ _ ∧ Cls K (c.t 1)
        rw [S.t1]; exact ⟨meth_none S.m9 (no _), S.m9.cl⟩
  | n + 1 => by
    have ih := all_written (ff := ff) (fw := fw) nb S M_places D_whole_row D_fixed_row D_turned_row n
    have no : ∀ i, has55 i = false → ∀ vs H Q E, ¬ spWr has55 ff fw c (n + 1) i vs H Q E := fun i hi vs H Q E ⟨o, f, _, _, _, hs, _, hok, _⟩ => by
      have := hok.2.slot
      rw [hs, hi] at this
      cases this
    intro i
    cases i with
    | b k =>
      rcases fin4 k with rfl | rfl | rfl | rfl
      · obtain ⟨f, fd, G, hb, hm⟩ := S.m0.ex
        exact ⟨⟨f, fd, (ok_Nothing_written G).mono (by omega), hb, hm⟩, S.m0.cl⟩
      · obtain ⟨f, fd, G, hb, hm⟩ := S.m1.ex
        exact ⟨⟨f, fd, (ok_Truth_written G).mono (by omega), hb, hm⟩, S.m1.cl⟩
      · obtain ⟨f, fd, G, hb, hm⟩ := S.m2.ex
        exact ⟨⟨f, fd, (ok_Whole_writtenD G D_whole_row).mono (by omega), hb, hm⟩, S.m2.cl⟩
      · show MethOk P w K mg base _ (c.b 3) _ _ _ ∧ Cls K (c.b 3)
        rw [S.b3]; exact ⟨meth_none S.m0 (no _ rfl), S.m0.cl⟩
    | s =>
      obtain ⟨f, fd, G, hb, hm⟩ := S.m4.ex
      exact ⟨⟨f, fd, (ok_Span_writtenD S.tS G D_fixed_row).mono (by omega), hb, hm⟩, S.m4.cl⟩
    | l =>
      obtain ⟨f, fd, G, hb, hm⟩ := S.m5.ex
      exact ⟨⟨f, fd, (ok_Letters_written nb S.tL G S.m5.cl M_places D_fixed_row).mono (by omega), hb, hm⟩, S.m5.cl⟩
    | o k =>
      rcases fin3 k with rfl | rfl | rfl
      · obtain ⟨f, fd, G, hb, hm⟩ := S.m6.ex
        exact ⟨⟨f, fd, (ok_Maybe_written nb (S.tO 0) G ih).mono (by omega), hb, hm⟩, S.m6.cl⟩
      · obtain ⟨f, fd, G, hb, hm⟩ := S.m7.ex
        exact ⟨⟨f, fd, (ok_Many_written nb (S.tO 1) G ih).mono (by omega), hb, hm⟩, S.m7.cl⟩
      · obtain ⟨f, fd, G, hb, hm⟩ := S.m8.ex
        exact ⟨⟨f, fd, (ok_Turned_written (S.tO 2) G D_turned_row ih).mono (by omega), hb, hm⟩, S.m8.cl⟩
    | t k =>
      rcases fin2 k with rfl | rfl
      · obtain ⟨f, fd, G, hb, hm⟩ := S.m9.ex
        exact ⟨⟨f, fd, (ok_Record_written nb (S.tT 0) G ih).mono (by omega), hb, hm⟩, S.m9.cl⟩
      · show MethOk P w K mg base _ (c.t 1) _ _ _ ∧ Cls K (c.t 1)
        rw [S.t1]; exact ⟨meth_none S.m9 (no _ rfl), S.m9.cl⟩

def spRowA (has : Sl → Bool) (ff : D → Bool) (fw : D → List Bool) (c : FC) (n : Nat) : Sp := fun vs H Q E => ∃ i, spWr has ff fw c n i vs H Q E
theorem ok_Form_rowA {f : Addr} {c : FC} {fd : FuncData} {n : Nat} {has : Sl → Bool} {ff : D → Bool} {fw : D → List Bool} (F : Fun K "row" "Form.row" s_Form_row f fd) (AM_fits : AnyM P w K mg base (2 * n + 4) "fits" ["self", "value"] (clS c) (spFit has ff c n)) (AM_written : AnyM P w K mg base (2 * n + 4) "written" ["self", "value"] (clS c) (spWr has ff fw c n)) : FnOk P w K mg base CX0 (2 * n + 4 + 1) f fd ["self", "value"] (spRowA has ff fw c n) := by
  refine F.okK sc_Form_row (fun vs H Q E h => ?_) (fun cdv A outer s H vs Q E hr h => ?_)
  · obtain ⟨_, _, _, _, _, rfl, _⟩ := h; rfl
  obtain ⟨sl, o, fm, v, d, rfl, hs, hF, hok, hht, hd, hf, hl, q⟩ := h
  obtain ⟨dxi, fsi, ei, li⟩ := FAt.fits fm hF
  obtain ⟨dxj, fsj, ej, lj⟩ := FAt.written fm hF
  refine ⟨_, (pss_cons (ps_if (pt_not (pt_truth (pe_methAny AM_fits hr (pv 0) (pa_cons (pv 1) pa_nil) (hk := by omega)) (fun _ => rfl))) (pss_one ps_never) pss_nil)
    (pss_one (ps_ret (pe_methAny AM_written hr (pv 0) (pa_cons (pv 1) pa_nil) (hk := by omega))))), ?_⟩
  refine ⟨_, rfl, o, slot fm, dxi, fsi, rfl, ei, li, _, rfl, o, fm, v, d, rfl, rfl, hF, hok, hht, hd, fitB ff fm d, rfl, ?_⟩
  rw [hf]
  refine iteF ⟨_, rfl, o, slot fm, dxj, fsj, rfl, ej, lj, _, rfl, o, fm, v, d, rfl, rfl, hF, hok, hht, hd, hf, hl, H, .refl (Same.refl _), q⟩
theorem FAt.row {c : FC} {X : List Addr} {H : Hp} (f : Fm) {o : Addr} (h : FAt c X H f o) : ∃ dx fs, H o = some (.ins (clS c (slot f)) dx fs) ∧ fs.lookup (Str.ofString "row") = none :=
  FAt.ins (m := Str.ofString "row") (by decide +kernel) (by decide +kernel) (by decide +kernel) (by decide +kernel) (by decide +kernel) (by decide +kernel) f h
structure Rws (K : PySem.W.Frag) (c : FC) : Prop where
  m : ∀ i, MethAt K (clS c i) "row" "Form.row" s_Form_row ["self", "value"]
theorem all_row {c : FC} {n : Nat} {has : Sl → Bool} {ff : D → Bool} {fw : D → List Bool} (S : Rws K c) (AM_fits : AnyM P w K mg base (2 * n + 4) "fits" ["self", "value"] (clS c) (spFit has ff c n)) (AM_written : AnyM P w K mg base (2 * n + 4) "written" ["self", "value"] (clS c) (spWr has ff fw c n)) : AnyM P w K mg base (2 * n + 5) "row" ["self", "value"] (clS c) (fun _ => spRowA has ff fw c n) := fun i => by
  obtain ⟨f, fd, G, hb, hm⟩ := (S.m i).ex
  exact ⟨⟨f, fd, ok_Form_rowA G AM_fits AM_written, hb, hm⟩, (S.m i).cl⟩
/-! ### spans -/
/-- what is handed to span_of -/
structure SpIn (has : Sl → Bool) (c : FC) (n : Nat) (H : Hp) (vs : List V) (ns : List Str) (fs : List Fm) (ds dl dh : List D) : Prop where
  ex : ∃ (o lf tl th : Addr) (wf wl wh : List V), vs = [.ref o, .ref lf, .ref tl, .ref th] ∧ FAt c [] H (.two 0 ns fs) o ∧ H lf = some (.lst wf) ∧ DsAt H ds wf ∧ H tl = some (.tup wl) ∧ DsAt H dl wl ∧ H th = some (.tup wh) ∧ DsAt H dh wh
  ok : okH has (.two 0 ns fs)
  hn : ht (.two 0 ns fs) ≤ n + 1
  l1 : ds.length ≤ 1000
  l2 : dl.length ≤ 1
  l3 : dh.length ≤ 1
def spBeg (fw : D → List Bool) (fs : List Fm) (ds : List D) : List Bool := ((List.range ds.length).map fun i => rowB fw (fs.getD i (.bare 0)) (ds.getD i .non)).flatten
def spAdd (fw : D → List Bool) (fs : List Fm) (ds dl : List D) : List Bool := (dl.map fun d => rowB fw (fs.getD ds.length (.bare 0)) d).flatten
def fitOne (ff : D → Bool) (fs : List Fm) (ds : List D) (d : D) : Bool := fitB ff (fs.getD ds.length (.bare 0)) d
def fitFst (ff : D → Bool) (fs : List Fm) (ds : List D) : Bool := (List.range ds.length).all fun i => fitB ff (fs.getD i (.bare 0)) (ds.getD i .non)
def dueS (ff : D → Bool) (fs : List Fm) (ds dl dh : List D) : Bool := decide (ds.length < fs.length) && fitFst ff fs ds && (dl.all (fitOne ff fs ds) && dh.all (fitOne ff fs ds))
theorem two_ok7 : 2 ≤ sizeLine := by decide
def EndIs (l : List Bool) (v : V) : Prop := (∃ n, l = List.replicate n true ∧ v = .non) ∨ ∃ b n, l = b ++ false :: List.replicate n true ∧ v = .str (rowS (b ++ [true]))
def spSpanOf (has : Sl → Bool) (ff : D → Bool) (fw : D → List Bool) (c : FC) (n : Nat) : Sp := fun vs H Q _ => ∃ (ns : List Str) (fs : List Fm) (ds dl dh : List D), SpIn has c n H vs ns fs ds dl dh ∧ dueS ff fs ds dl dh = true ∧
  (spBeg fw fs ds).length ≤ 40000 ∧ (spAdd fw fs ds dl).length ≤ 40000 ∧ (spAdd fw fs ds dh).length ≤ 40000 ∧
  ∀ t v, H t = none → ((dh = [] ∧ EndIs (spBeg fw fs ds) v) ∨ (dh ≠ [] ∧ v = .str (rowS (spBeg fw fs ds ++ spAdd fw fs ds dh)))) → Q (.ref t) (upd H t (.tup [.str (rowS (spBeg fw fs ds ++ spAdd fw fs ds dl)), v]))
theorem add_none (fw : D → List Bool) (fs : List Fm) (ds : List D) : spAdd fw fs ds [] = [] := rfl
theorem add_one (fw : D → List Bool) (fs : List Fm) (ds : List D) (d : D) : spAdd fw fs ds [d] = rowB fw (fs.getD ds.length (.bare 0)) d := by
  unfold spAdd
  rw [List.map_cons, List.map_nil, List.flatten_cons, List.flatten_nil, List.append_nil]
theorem one_or {α : Type} {l : List α} (h : l.length ≤ 1) : l = [] ∨ ∃ x, l = [x] := by
  cases l with
  | nil => exact .inl rfl
  | cons x r =>
    cases r with
    | nil => exact .inr ⟨x, rfl⟩
    | cons y r => simp at h
theorem ok_span_of {f : Addr} {c : FC} {fd : FuncData} {n : Nat} {has : Sl → Bool} {ff : D → Bool} {fw : D → List Bool} (nb : NB mg) (T : TwoCls K (c.t 0)) (F : FunAt K mg "span_of" s_span_of ["form", "first", "low", "high"] f fd) (D_behind_all : DefOk P w K mg base 1 "behind_all" ["row"] spBehind) (AM_row : AnyM P w K mg base (2 * n + 5) "row" ["self", "value"] (clS c) (fun _ => spRowA has ff fw c n)) : DefOk P w K mg base (2 * n + 6) "span_of" ["form", "first", "low", "high"] (spSpanOf has ff fw c n) := by
  refine F.ok sc_span_of (fun vs H Q E h => ?_) (fun cdv A outer s H vs Q E hr h => ?_)
  · obtain ⟨_, _, _, _, _, ⟨⟨_, _, _, _, _, _, _, rfl, _⟩, _⟩, _⟩ := h; rfl
  obtain ⟨ns, fs, ds, dl, dh, hI, hdue, hb1, hb2, hb3, q⟩ := h
  obtain ⟨⟨o, lf, tl, th, wf, wl, wh, rfl, hF, hlf, hds, htl, hdl, hth, hdh⟩, hok, hht, hl1, hl2, hl3⟩ := hI
  obtain ⟨_, dx, a1, a2, os, ho, _, _, h1, h2, hFs⟩ := hF
  obtain ⟨hgn, hnl, hok2⟩ := hok.two
  have hht2 : hts fs ≤ n := by rw [ht] at hht; omega
  have hol := FsAt.len fs hFs
  have hn20 := (goodNames_mem hgn).1
  have hwf := DsAt.len ds hds
  have hwl := DsAt.len dl hdl
  have hwh := DsAt.len dh hdh
  unfold dueS at hdue
  simp only [Bool.and_eq_true, decide_eq_true_eq] at hdue
  obtain ⟨⟨hlt, hfst⟩, hfl, hfh⟩ := hdue
  have hall := List.all_eq_true.mp hfst
  refine ⟨_, (pss_cons (ps_if (pt_cmpR oGe (pe_callB call_len rfl nb.len_ bo_len (pa_cons (pv 1) pa_nil)) (pe_callB call_len rfl nb.len_ bo_len (pa_cons (pe_fld (pv 0) rfl) pa_nil)) (nomark _)) (pss_one ps_never) pss_nil)
    (pss_cons (ps_set (i := 4) sc_span_of.nd rfl (by first | exact Or.inl rfl | exact Or.inr rfl) (pe_bm PySem.F.plainAttrs_str PySem.F.slot_str_join PySem.F.type_str_join mt_join pe_str (pa_cons (pe_comp ["part", "value"] [] rfl (by decide +kernel) trivial (pi_zip rfl nb.zip_ (pa_cons (pe_fld (pv 0) rfl) (pa_cons (pv 1) pa_nil))) (fun _ _ _ _ _ => (pg_tup rfl (pgs_cons (pg_name (i := 0) (show (["part", "value"] : List Str).Nodup by decide +kernel) rfl (by first | exact Or.inl rfl | exact Or.inr rfl)) (pgs_cons (pg_name (i := 1) (show (["part", "value"] : List Str).Nodup by decide +kernel) rfl (by first | exact Or.inl rfl | exact Or.inr rfl)) pgs_nil)))) (fun _ _ _ _ _ => pts_nil) (fun _ _ _ _ _ => (pe_methAny AM_row hr (pv 0) (pa_cons (pv 1) pa_nil) (hk := by omega)))) pa_nil)))
    (pss_cons (ps_set (i := 5) sc_span_of.nd rfl (by first | exact Or.inl rfl | exact Or.inr rfl) (pe_ix iAll (pe_fld (pv 0) rfl) (pe_callB call_len rfl nb.len_ bo_len (pa_cons (pv 1) pa_nil)) (fun _ _ => rfl)))
    (pss_cons (ps_set (i := 6) sc_span_of.nd rfl (by first | exact Or.inl rfl | exact Or.inr rfl) (pe_ifExp (pt_truth (pv 2) (fun _ => rfl)) (pe_op oAdd (pv 4) (pe_methAny AM_row hr (pv 5) (pa_cons (pe_ix iAll (pv 2) pe_int (fun _ _ => rfl)) pa_nil) (hk := by omega))) (pv 4)))
    (pss_cons (ps_set (i := 7) sc_span_of.nd rfl (by first | exact Or.inl rfl | exact Or.inr rfl) (pe_ifExp (pt_truth (pv 3) (fun _ => rfl)) (pe_op oAdd (pv 4) (pe_methAny AM_row hr (pv 5) (pa_cons (pe_ix iAll (pv 3) pe_int (fun _ _ => rfl)) pa_nil) (hk := by omega))) (pe_callD D_behind_all hr (pa_cons (pv 4) pa_nil) (hk := by omega))))
    (pss_one (ps_ret (pe_tup (pa_cons (pv 6) (pa_cons (pv 7) pa_nil)))))))))), ?_⟩
  refine ⟨_, rfl, _, _, rfl, .inl ⟨_, SqL.of hlf, rfl⟩, _, rfl, o, c.t 0, dx, _, _, rfl, ho, T.cl, T.nF, look2 _ _ _ _ formsnames, _, _, rfl, .inl ⟨_, SqL.of h2, rfl⟩, _, _, rfl, rfl, _, rfl, iteN (by rw [List.length_map, hol, hwf]; omega) ?_⟩
  refine ⟨rfl, _, rfl, o, c.t 0, dx, _, _, rfl, ho, T.cl, T.nF, look2 _ _ _ _ formsnames, _, rfl, a2, lf, _, _, rfl, SqL.of h2, SqL.of hlf, fun D1 hD1 => ?_⟩
  refine comp_zip (fun k => V.str (rowS (rowB fw (fs.getD k (.bare 0)) (ds.getD k .non)))) (fun σ => ∃ z1 z2, σ = [z1, z2]) (by rw [List.length_map]; omega) ⟨_, _, rfl⟩ hD1 (SqL.of h2) (SqL.of hlf) ?_ ?_
  · rintro k x y hx hy σ1 H1 T1 ⟨z1, z2, rfl⟩ hs1 hT1 R hR
    rw [List.getElem?_map] at hx
    obtain ⟨om, hom, rfl⟩ := Option.map_eq_some_iff.mp hx
    obtain ⟨fm, hfm, hFm⟩ := FsAt.get fs hFs hom
    obtain ⟨dk, hdk, hyk⟩ := DsAt.get ds hds hy
    obtain ⟨hok3, hht3⟩ := hok2.get hfm
    have e1 : fs.getD k (.bare 0) = fm := by rw [List.getD_eq_getElem?_getD, hfm]; rfl
    have e2 : ds.getD k .non = dk := by rw [List.getD_eq_getElem?_getD, hdk]; rfl
    have hk : k ∈ List.range ds.length := List.mem_range.mpr (List.getElem?_eq_some_iff.mp hdk).1
    have hfk := hall k hk
    have hp := part_len (List.mem_map_of_mem (f := fun i => rowB fw (fs.getD i (.bare 0)) (ds.getD i .non)) hk)
    have hp2 : (rowB fw (fs.getD k (.bare 0)) (ds.getD k .non)).length ≤ (spBeg fw fs ds).length := hp
    rw [e1, e2] at hR hfk hp2
    have sT := hs1.trans (same_new (o := HO.tup [V.ref om, y]) hT1)
    obtain ⟨dxi, fsi, ei, li⟩ := FAt.row fm (FAt.keep (fun b u _ e => sT b u e) fm hFm)
    refine ⟨T1, _, rfl, SqT.of upd_same, rfl, _, _, rfl, _, _, rfl, rfl, ?_⟩
    refine ⟨_, rfl, om, slot fm, dxi, fsi, rfl, ei, li, ?_⟩
    exact ⟨_, rfl, slot fm, om, fm, y, dk, rfl, rfl, FAt.keep (fun b u _ e => sT b u e) fm hFm, hok3, by omega, DAt.same sT dk hyk, hfk, by omega, hR _ _ ⟨_, _, rfl⟩ (Same.refl _)⟩
  intro H2 hs2 hD2
  have e : (List.range (min (os.map V.ref).length wf.length)).map (fun k => V.str (rowS (rowB fw (fs.getD k (.bare 0)) (ds.getD k .non)))) = (((List.range ds.length).map fun k => rowB fw (fs.getD k (.bare 0)) (ds.getD k .non)).map rowS).map V.str := by
    rw [List.length_map, hwf, hol, Nat.min_eq_right (by omega), List.map_map, List.map_map]; rfl
  rw [e] at hD2
  refine ⟨_, D1, _, rfl, rfl, SqL.of hD2, by rw [rows_sum]; exact Nat.le_trans hb1 (by decide), ?_⟩
  rw [join_rows]
  have eB : ((List.range ds.length).map fun k => rowB fw (fs.getD k (.bare 0)) (ds.getD k .non)).flatten = spBeg fw fs ds := rfl
  rw [eB]
  obtain ⟨og, hog⟩ : ∃ og, os[ds.length]? = some og := ⟨_, List.getElem?_eq_getElem (by omega)⟩
  obtain ⟨g, hg, hGo⟩ := FsAt.get fs hFs hog
  obtain ⟨hokg, hhtg⟩ := hok2.get hg
  have eg : fs.getD ds.length (.bare 0) = g := by rw [List.getD_eq_getElem?_getD, hg]; rfl
  have hG2 := FAt.keep (fun b u _ e => hs2 b u e) g hGo
  obtain ⟨dxi, fsi, ei, li⟩ := FAt.row g hG2
  refine ⟨_, rfl, o, c.t 0, dx, _, _, rfl, hs2 _ _ ho, T.cl, T.nF, look2 _ _ _ _ formsnames, _, rfl, _, _, rfl, .inl ⟨_, SqL.of (hs2 _ _ hlf), rfl⟩, .inl (.inl ⟨_, _, _, _, rfl, rfl, SqL.of (hs2 _ _ h2), (by rw [hwf]; exact atI_nat (by rw [List.getElem?_map, hog]; rfl)), ?_⟩)⟩
  have sm : ∀ {a b : List Bool}, a.length ≤ 40000 → b.length ≤ 40000 → (rowS a).length + (rowS b).length ≤ sizeLine := fun h h' => by rw [rowS_length, rowS_length]; exact small5 (by omega)
  have hBl : (spBeg fw fs ds).length ≤ 90000 := by omega
  rcases one_or hl2 with rfl | ⟨x, rfl⟩
  · obtain rfl : wl = [] := hdl
    refine ⟨_, rfl, false, .inr (.inl ⟨_, SqT.of (hs2 _ _ htl), rfl⟩), iteF ⟨_, rfl, ?_⟩⟩
    have eL : spBeg fw fs ds ++ spAdd fw fs ds [] = spBeg fw fs ds := by rw [add_none, List.append_nil]
    rw [eL] at q
    rcases one_or hl3 with rfl | ⟨y, rfl⟩
    · obtain rfl : wh = [] := hdh
      refine ⟨_, rfl, false, .inr (.inl ⟨_, SqT.of (hs2 _ _ hth), rfl⟩), iteF ?_⟩
      rcases last_zero (spBeg fw fs ds) with ⟨m, hm⟩ | ⟨b, m, hm⟩
      · exact ⟨_, rfl, _, rfl, hBl, .inl ⟨m, hm, _, rfl, _, rfl, two_ok7, fun t ht => ⟨_, .new (hs2.free ht) (hs2.trans (same_new ht)) upd_same trivial, q t _ (hs2.free ht) (.inl ⟨rfl, .inl ⟨m, hm, rfl⟩⟩)⟩⟩⟩
      · exact ⟨_, rfl, _, rfl, hBl, .inr ⟨b, m, hm, _, rfl, _, rfl, two_ok7, fun t ht => ⟨_, .new (hs2.free ht) (hs2.trans (same_new ht)) upd_same trivial, q t _ (hs2.free ht) (.inl ⟨rfl, .inr ⟨b, m, hm, rfl⟩⟩)⟩⟩⟩
    · obtain ⟨w0, r, rfl, hy, hr'⟩ := hdh
      obtain rfl : r = [] := hr'
      have hfy : fitB ff g y = true := by
        have := List.all_eq_true.mp hfh y (List.mem_singleton.mpr rfl)
        unfold fitOne at this
        rwa [eg] at this
      rw [add_one, eg] at hb3
      refine ⟨_, rfl, true, .inr (.inl ⟨_, SqT.of (hs2 _ _ hth), rfl⟩), iteT ?_⟩
      refine ⟨_, rfl, _, rfl, og, slot g, dxi, fsi, rfl, ei, li, _, rfl, .inl (.inr ⟨_, _, _, _, rfl, rfl, SqT.of (hs2 _ _ hth), atI_nat (j := 0) rfl, slot g, og, g, w0, y, rfl, rfl, hG2, hokg, by omega, DAt.same hs2 y hy, hfy, by omega, .inr ⟨_, _, rfl, rfl, sm hb1 hb3, ?_⟩⟩)⟩
      rw [rowS_append]
      refine ⟨_, rfl, _, rfl, two_ok7, fun t ht => ⟨_, .new (hs2.free ht) (hs2.trans (same_new ht)) upd_same trivial, q t _ (hs2.free ht) (.inr ⟨by simp, by rw [add_one, eg]⟩)⟩⟩
  · obtain ⟨w0, r, rfl, hx, hr'⟩ := hdl
    obtain rfl : r = [] := hr'
    have hfx : fitB ff g x = true := by
      have := List.all_eq_true.mp hfl x (List.mem_singleton.mpr rfl)
      unfold fitOne at this
      rwa [eg] at this
    have hb2' : (rowB fw g x).length ≤ 40000 := by rw [add_one, eg] at hb2; exact hb2
    have eL : spBeg fw fs ds ++ spAdd fw fs ds [x] = spBeg fw fs ds ++ rowB fw g x := by rw [add_one, eg]
    rw [eL] at q
    refine ⟨_, rfl, true, .inr (.inl ⟨_, SqT.of (hs2 _ _ htl), rfl⟩), iteT ?_⟩
    refine ⟨_, rfl, _, rfl, og, slot g, dxi, fsi, rfl, ei, li, _, rfl, .inl (.inr ⟨_, _, _, _, rfl, rfl, SqT.of (hs2 _ _ htl), atI_nat (j := 0) rfl, slot g, og, g, w0, x, rfl, rfl, hG2, hokg, by omega, DAt.same hs2 x hx, hfx, by omega, .inr ⟨_, _, rfl, rfl, sm hb1 hb2', ?_⟩⟩)⟩
    rw [rowS_append]
    rcases one_or hl3 with rfl | ⟨y, rfl⟩
    · obtain rfl : wh = [] := hdh
      refine ⟨_, rfl, false, .inr (.inl ⟨_, SqT.of (hs2 _ _ hth), rfl⟩), iteF ?_⟩
      rcases last_zero (spBeg fw fs ds) with ⟨m, hm⟩ | ⟨b, m, hm⟩
      · exact ⟨_, rfl, _, rfl, hBl, .inl ⟨m, hm, _, rfl, _, rfl, two_ok7, fun t ht => ⟨_, .new (hs2.free ht) (hs2.trans (same_new ht)) upd_same trivial, q t _ (hs2.free ht) (.inl ⟨rfl, .inl ⟨m, hm, rfl⟩⟩)⟩⟩⟩
      · exact ⟨_, rfl, _, rfl, hBl, .inr ⟨b, m, hm, _, rfl, _, rfl, two_ok7, fun t ht => ⟨_, .new (hs2.free ht) (hs2.trans (same_new ht)) upd_same trivial, q t _ (hs2.free ht) (.inl ⟨rfl, .inr ⟨b, m, hm, rfl⟩⟩)⟩⟩⟩
    · obtain ⟨w0, r, rfl, hy, hr'⟩ := hdh
      obtain rfl : r = [] := hr'
      have hfy : fitB ff g y = true := by
        have := List.all_eq_true.mp hfh y (List.mem_singleton.mpr rfl)
        unfold fitOne at this
        rwa [eg] at this
      rw [add_one, eg] at hb3
      refine ⟨_, rfl, true, .inr (.inl ⟨_, SqT.of (hs2 _ _ hth), rfl⟩), iteT ?_⟩
      refine ⟨_, rfl, _, rfl, og, slot g, dxi, fsi, rfl, ei, li, _, rfl, .inl (.inr ⟨_, _, _, _, rfl, rfl, SqT.of (hs2 _ _ hth), atI_nat (j := 0) rfl, slot g, og, g, w0, y, rfl, rfl, hG2, hokg, by omega, DAt.same hs2 y hy, hfy, by omega, .inr ⟨_, _, rfl, rfl, sm hb1 hb3, ?_⟩⟩)⟩
      rw [rowS_append]
      refine ⟨_, rfl, _, rfl, two_ok7, fun t ht => ⟨_, .new (hs2.free ht) (hs2.trans (same_new ht)) upd_same trivial, q t _ (hs2.free ht) (.inr ⟨by simp, by rw [add_one, eg]⟩)⟩⟩
/-! ### k55: words, forms, values -/
def W8 : List Str := [Str.ofString "truth", Str.ofString "span", Str.ofString "letters", Str.ofString "maybe", Str.ofString "whole", Str.ofString "turned", Str.ofString "many", Str.ofString "nothing"]
def wordK (k : Fin 8) : Str := W8.getD k.val Str.empty
def formK (k : Fin 8) : Fm := [Fm.bare 1, .sp (-2) 2, .le (Str.ofString "ba"), .one 0 (.bare 1), .bare 2, .one 2 (.sp 0 3), .one 1 (.bare 1), .bare 0].getD k.val (.bare 0)
theorem fin8 : ∀ k : Fin 8, k = 0 ∨ k = 1 ∨ k = 2 ∨ k = 3 ∨ k = 4 ∨ k = 5 ∨ k = 6 ∨ k = 7 := by decide
theorem mod_nat5 (c : Int) (n : Nat) (h : 0 < n) : ∃ k : Nat, k < n ∧ c % ((n : Nat) : Int) = ((k : Nat) : Int) := by
  have h1 := Int.emod_nonneg c (b := (n : Int)) (by omega)
  have h2 := Int.emod_lt_of_pos c (b := (n : Int)) (by omega)
  obtain ⟨k, hk⟩ := Int.eq_ofNat_of_zero_le h1
  exact ⟨k, by omega, hk⟩
theorem W8_at (c : Int) : ∃ k : Fin 8, atI (W8.map V.str) (c % 8) = some (.str (wordK k)) := by
  obtain ⟨k, hk, ek⟩ := mod_nat5 c 8 (by decide)
  have ek : c % 8 = ((k : Nat) : Int) := ek
  refine ⟨⟨k, hk⟩, ?_⟩
  rw [ek]
  refine atI_nat ?_
  have hk2 : k < W8.length := hk
  rw [List.getElem?_map, List.getElem?_eq_getElem hk2]
  show some (V.str W8[k]) = some (V.str (W8.getD k Str.empty))
  rw [List.getD_eq_getElem?_getD, List.getElem?_eq_getElem hk2]; rfl
theorem pick2 (x y : Int) (b : Bool) : ∃ n : Int, atI [V.int x, V.int y] (if b = true then 1 else 0) = some (.int n) := by
  cases b
  · exact ⟨x, atI_nat (j := 0) rfl⟩
  · exact ⟨y, atI_nat (j := 1) rfl⟩
def spWords (K : PySem.W.Frag) : Sp := fun vs H Q _ => ∃ (a : Addr) (ns : List Int), vs = [.ref a] ∧ SqL K H a (ns.map V.int) ∧ ns.length ≤ 63 ∧ ∀ (r : Addr) (ks : List (Fin 8)), H r = none → 0 < ks.length → ks.length ≤ 20 → Q (.ref r) (upd H r (.lst (ks.map fun k => V.str (wordK k))))
theorem ok_law_words {f : Addr} {fd : FuncData} (nb : NB mg) (F : FunAt K mg "_law_words" s_law_words ["_law_script"] f fd) (D_law_cell_at : DefOk P w K mg base 1 "_law_cell_at" ["_law_script", "_law_k"] (spCellAt K)) (D_law_mixed : DefOk P w K mg base 1 "_law_mixed" ["_law_cell", "_law_k"] spMixed) : DefOk P w K mg base 2 "_law_words" ["_law_script"] (spWords K) := by
  refine F.ok sc_law_words (fun vs H Q E h => ?_) (fun cdv A outer s H vs Q E hr h => ?_)
  · obtain ⟨_, _, rfl, _⟩ := h; rfl
  obtain ⟨a, ns, rfl, hS, hl, q⟩ := h
  refine ⟨_, (pss_cons (ps_set (i := 1) sc_law_words.nd rfl (by first | exact Or.inl rfl | exact Or.inr rfl) (pe_cmpR oEq (pe_op op_mod (pe_callD D_law_cell_at hr (pa_cons (pv 0) (pa_cons pe_int pa_nil))) pe_int) pe_int (nomark _)))
    (pss_cons (ps_set (i := 2) sc_law_words.nd rfl (by first | exact Or.inl rfl | exact Or.inr rfl) (pe_ix iAll (pe_lst (pa_cons (pe_callD D_law_mixed hr (pa_cons (pe_callD D_law_cell_at hr (pa_cons (pv 0) (pa_cons pe_int pa_nil))) (pa_cons pe_int pa_nil))) (pa_cons (pe_op op_fdiv (pe_callD D_law_cell_at hr (pa_cons (pv 0) (pa_cons pe_int pa_nil))) pe_int) pa_nil))) (pe_callTy call_intA rfl nb.int_ bo_int (pa_cons (pv 1) pa_nil)) (fun _ _ => rfl)))
    (pss_cons (ps_set (i := 3) sc_law_words.nd rfl (by first | exact Or.inl rfl | exact Or.inr rfl) (pe_lst (pa_cons pe_str (pa_cons pe_str (pa_cons pe_str (pa_cons pe_str (pa_cons pe_str (pa_cons pe_str (pa_cons pe_str (pa_cons pe_str pa_nil))))))))))
    (pss_cons (ps_set (i := 4) sc_law_words.nd rfl (by first | exact Or.inl rfl | exact Or.inr rfl) (pe_lst pa_nil))
    (pss_cons (ps_set (i := 5) sc_law_words.nd rfl (by first | exact Or.inl rfl | exact Or.inr rfl) (pe_op oAdd pe_int (pe_op op_mod (pv 2) pe_int)))
    (pss_cons (ps_if (pt_cmpR oEq (pe_op op_mod (pe_op op_fdiv (pv 2) pe_int) pe_int) pe_int (nomark _)) (pss_one (ps_set (i := 5) sc_law_words.nd rfl (by first | exact Or.inl rfl | exact Or.inr rfl) (pe_op oAdd pe_int (pe_op op_mod (pe_op op_fdiv (pv 2) pe_int) pe_int)))) pss_nil)
    (pss_cons (ps_for PassesOwn.never rfl (pi_range1 rfl nb.range_ (pa_cons (pv 5) pa_nil)) (pg_name (i := 6) sc_law_words.nd rfl (by first | exact Or.inl rfl | exact Or.inr rfl))
      (pss_cons (ps_set (i := 7) sc_law_words.nd rfl (by first | exact Or.inl rfl | exact Or.inr rfl) (pe_ix iAll (pe_lst (pa_cons (pe_callD D_law_mixed hr (pa_cons (pe_callD D_law_cell_at hr (pa_cons (pv 0) (pa_cons (pv 6) pa_nil))) (pa_cons (pe_op oAdd pe_int (pv 6)) pa_nil))) (pa_cons (pe_op op_shr (pe_op op_fdiv (pv 2) pe_int) (pe_op oMul pe_int (pv 6))) pa_nil))) (pe_callTy call_intA rfl nb.int_ bo_int (pa_cons (pv 1) pa_nil)) (fun _ _ => rfl)))
      (pss_one (ps_expr (pe_bm PySem.F.plainAttrs_list PySem.F.slot_list_append PySem.F.type_list_append mt_append (pv 4) (pa_cons (pe_ix iAll (pv 3) (pe_op op_mod (pv 7) pe_int) (fun _ _ => rfl)) pa_nil))))))
    (pss_one (ps_ret (pv 4)))))))))), ?_⟩
  refine ⟨_, rfl, a, ns, 0, rfl, hS, hl, _, _, rfl, rfl, (by show (0 : Int) < 2; decide), rfl, ?_⟩
  dsimp only
  generalize decide (V.int (ns.getD 0 0 % 2) = V.int 1) = b
  refine ⟨_, rfl, a, ns, 0, rfl, hS, hl, _, _, rfl, fun v hv0 hv1 => ⟨_, rfl, a, ns, 0, rfl, hS, hl, _, _, rfl, rfl, ⟨by decide, by decide⟩, two_ok7, fun g hg => ?_⟩⟩
  obtain ⟨num, hnum⟩ := pick2 v (ns.getD 0 0 / 2) b
  refine ⟨_, rfl, .inl (.inr ⟨_, rfl, .inl (.inl ⟨_, _, _, _, rfl, rfl, SqL.of upd_same, hnum, ?_⟩)⟩)⟩
  have s1 := same_new (o := HO.lst [V.int v, V.int (ns.getD 0 0 / 2)]) hg
  refine ⟨(by show 8 ≤ sizeLine; decide), fun g2 hg2 => ⟨Nat.zero_le _, fun r hr' => ?_⟩⟩
  have s2 := s1.trans (same_new (o := HO.lst (W8.map V.str)) hg2)
  have s3 := s2.trans (same_new (o := HO.lst []) hr')
  have hr0 : H r = none := s2.free hr'
  have ngr : g2 ≠ r := fun z => by rw [← z, upd_same] at hr'; cases hr'
  obtain ⟨m0, hm0, em0⟩ := mod_nat5 num 4 (by decide)
  obtain ⟨m1, hm1, em1⟩ := mod_nat5 (num / 24) 16 (by decide)
  have em0 : num % 4 = ((m0 : Nat) : Int) := em0
  have em1 : num / 24 % 16 = ((m1 : Nat) : Int) := em1
  refine ⟨_, rfl, _, _, rfl, rfl, (by show (0 : Int) < 4; decide), .inl ⟨_, _, rfl, rfl, ?_⟩⟩
  refine ⟨_, rfl, _, _, rfl, rfl, ⟨by decide, by decide⟩, _, _, rfl, rfl, (by show (0 : Int) < 6; decide), rfl, _, rfl, iteD (fun c1 => ?_) (fun c1 => ?_)⟩
  · refine ⟨_, rfl, _, _, rfl, rfl, ⟨by decide, by decide⟩, _, _, rfl, rfl, (by show (0 : Int) < 16; decide), .inl ⟨_, _, rfl, rfl, ?_⟩⟩
    dsimp only
    obtain ⟨m, hm⟩ : ∃ m : Nat, m = 5 + m1 := ⟨_, rfl⟩
    rw [em1, show (5 : Int) + ((m1 : Nat) : Int) = ((m : Nat) : Int) by omega]
    refine ⟨_, rfl, _, rfl, by omega, by omega, ?_⟩
    have em : (((m : Nat) : Int)).toNat = m := by omega
    rw [em]
    refine for_range (fun i σ H2 => Same H H2 ∧ H2 g2 = some (.lst (W8.map V.str)) ∧ ∃ (ks : List (Fin 8)) (z1 z2 : Option V), σ = [some (.ref a), some (.bl b), some (.int num), some (.ref g2), some (.ref r), some (.int ((m : Nat) : Int)), z1, z2] ∧ ks.length = i ∧ H2 r = some (.lst (ks.map fun k => V.str (wordK k)))) ?_ ?_ ?_
    · exact ⟨s3, by rw [upd_ne ngr]; exact upd_same, [], _, _, rfl, rfl, upd_same⟩
    · rintro i σ H2 hi ⟨hs, hg2', ks, z1, z2, rfl, hk, hr2⟩
      rw [Int.zero_add]
      refine ⟨_, rfl, _, rfl, a, ns, i, rfl, hs.seq hS, hl, _, rfl, .inl ⟨_, _, rfl, rfl, _, _, rfl, fun v hv0 hv1 => ?_⟩⟩
      refine ⟨_, rfl, _, _, rfl, rfl, ⟨by decide, by decide⟩, _, rfl, .inl ⟨_, _, rfl, rfl, .inl ⟨by decide, by decide⟩, _, _, rfl, rfl, (by show (0 : Int) ≤ _; omega), two_ok7, fun g3 hg3 => ?_⟩⟩
      obtain ⟨ot, hot⟩ := pick2 v (num / 384 / 2 ^ (3 * (i : Int)).toNat) b
      refine ⟨_, rfl, .inl (.inr ⟨_, rfl, .inl (.inl ⟨_, _, _, _, rfl, rfl, SqL.of upd_same, hot, ?_⟩)⟩)⟩
      obtain ⟨kw, hkw⟩ := W8_at ot
      have s4 := same_new (o := HO.lst [V.int v, V.int (num / 384 / 2 ^ (3 * (i : Int)).toNat)]) hg3
      refine ⟨_, rfl, .inl ⟨rfl, _, SqL.of (s4 _ _ hr2)⟩, _, rfl, _, rfl, _, _, rfl, rfl, (by show (0 : Int) < 8; decide), .inl (.inl ⟨_, _, _, _, rfl, rfl, SqL.of (s4 _ _ hg2'), hkw, r, _, _, rfl, rfl, s4 _ _ hr2, (by rw [List.length_map]; exact Nat.lt_of_lt_of_le (show ks.length < 100000 by omega) (by decide)), ?_⟩)⟩
      refine ⟨fun c o e => ?_, ?_, ks ++ [kw], _, _, rfl, by rw [List.length_append, hk]; rfl, ?_⟩
      · rw [upd_ne (ne_of_none e hr0)]
        exact s4 _ _ (hs _ _ e)
      · rw [upd_ne ngr]
        exact s4 _ _ hg2'
      · rw [upd_same, List.map_append]; rfl
    · rintro σ H2 ⟨hs, hg2', ks, z1, z2, rfl, hk, hr2⟩
      exact ⟨_, rfl, _, .new hr0 hs hr2 trivial, q r ks hr0 (by omega) (by omega)⟩
  · dsimp only
    obtain ⟨m, hm⟩ : ∃ m : Nat, m = 1 + m0 := ⟨_, rfl⟩
    rw [em0, show (1 : Int) + ((m0 : Nat) : Int) = ((m : Nat) : Int) by omega]
    refine ⟨_, rfl, _, rfl, by omega, by omega, ?_⟩
    have em : (((m : Nat) : Int)).toNat = m := by omega
    rw [em]
    refine for_range (fun i σ H2 => Same H H2 ∧ H2 g2 = some (.lst (W8.map V.str)) ∧ ∃ (ks : List (Fin 8)) (z1 z2 : Option V), σ = [some (.ref a), some (.bl b), some (.int num), some (.ref g2), some (.ref r), some (.int ((m : Nat) : Int)), z1, z2] ∧ ks.length = i ∧ H2 r = some (.lst (ks.map fun k => V.str (wordK k)))) ?_ ?_ ?_
    · exact ⟨s3, by rw [upd_ne ngr]; exact upd_same, [], _, _, rfl, rfl, upd_same⟩
    · rintro i σ H2 hi ⟨hs, hg2', ks, z1, z2, rfl, hk, hr2⟩
      rw [Int.zero_add]
      refine ⟨_, rfl, _, rfl, a, ns, i, rfl, hs.seq hS, hl, _, rfl, .inl ⟨_, _, rfl, rfl, _, _, rfl, fun v hv0 hv1 => ?_⟩⟩
      refine ⟨_, rfl, _, _, rfl, rfl, ⟨by decide, by decide⟩, _, rfl, .inl ⟨_, _, rfl, rfl, .inl ⟨by decide, by decide⟩, _, _, rfl, rfl, (by show (0 : Int) ≤ _; omega), two_ok7, fun g3 hg3 => ?_⟩⟩
      obtain ⟨ot, hot⟩ := pick2 v (num / 384 / 2 ^ (3 * (i : Int)).toNat) b
      refine ⟨_, rfl, .inl (.inr ⟨_, rfl, .inl (.inl ⟨_, _, _, _, rfl, rfl, SqL.of upd_same, hot, ?_⟩)⟩)⟩
      obtain ⟨kw, hkw⟩ := W8_at ot
      have s4 := same_new (o := HO.lst [V.int v, V.int (num / 384 / 2 ^ (3 * (i : Int)).toNat)]) hg3
      refine ⟨_, rfl, .inl ⟨rfl, _, SqL.of (s4 _ _ hr2)⟩, _, rfl, _, rfl, _, _, rfl, rfl, (by show (0 : Int) < 8; decide), .inl (.inl ⟨_, _, _, _, rfl, rfl, SqL.of (s4 _ _ hg2'), hkw, r, _, _, rfl, rfl, s4 _ _ hr2, (by rw [List.length_map]; exact Nat.lt_of_lt_of_le (show ks.length < 100000 by omega) (by decide)), ?_⟩)⟩
      refine ⟨fun c o e => ?_, ?_, ks ++ [kw], _, _, rfl, by rw [List.length_append, hk]; rfl, ?_⟩
      · rw [upd_ne (ne_of_none e hr0)]
        exact s4 _ _ (hs _ _ e)
      · rw [upd_ne ngr]
        exact s4 _ _ hg2'
      · rw [upd_same, List.map_append]; rfl
    · rintro σ H2 ⟨hs, hg2', ks, z1, z2, rfl, hk, hr2⟩
      exact ⟨_, rfl, _, .new hr0 hs hr2 trivial, q r ks hr0 (by omega) (by omega)⟩
def spFormK (c : FC) : Sp := fun vs H Q _ => ∃ (k : Fin 8) (X : List Addr), vs = [.str (wordK k)] ∧ (∀ x, x ∈ X → ∃ o, H x = some o) ∧ ∀ r H', Ext H H' → FAt c X H' (formK k) r → Q (.ref r) H'
theorem ok_law_form {f : Addr} {c : FC} {fd : FuncData} (F : FunAt K mg "_law_form" s_law_form ["_law_word"] f fd) (M0_Truth : Mk0 K (c.b 1)) (m_Truth : mg "Truth" = some (.ref (c.b 1))) (M0_Whole : Mk0 K (c.b 2)) (m_Whole : mg "Whole" = some (.ref (c.b 2))) (M0_Nothing : Mk0 K (c.b 0)) (m_Nothing : mg "Nothing" = some (.ref (c.b 0)))
    (M_Span : MakeOk P w K mg base 1 "Span" c.s ["self", "low", "high"] (spSpanInit c.s)) (M_Letters : MakeOk P w K mg base 2 "Letters" c.l ["self", "signs"] (spLetInit c.l)) (M_Maybe : MakeOk P w K mg base 1 "Maybe" (c.o 0) ["self", "inner"] (spOneInit (c.o 0))) (M_Many : MakeOk P w K mg base 1 "Many" (c.o 1) ["self", "inner"] (spOneInit (c.o 1))) (M_Turned : MakeOk P w K mg base 1 "Turned" (c.o 2) ["self", "inner"] (spOneInit (c.o 2))) : DefOk P w K mg base 4 "_law_form" ["_law_word"] (spFormK c) := by
  refine F.ok sc_law_form (fun vs H Q E h => ?_) (fun cdv A outer s H vs Q E hr h => ?_)
  · obtain ⟨_, _, rfl, _⟩ := h; rfl
  obtain ⟨k, X, rfl, hX, q⟩ := h
  refine ⟨_, (pss_cons (ps_if (pt_cmpR oEq (pv 0) pe_str (nomark _)) (pss_one (ps_ret (pe_makeN0 M0_Truth rfl m_Truth))) pss_nil)
    (pss_cons (ps_if (pt_cmpR oEq (pv 0) pe_str (nomark _)) (pss_one (ps_ret (pe_makeD M_Span hr (pa_cons (pe_un un_neg pe_int) (pa_cons pe_int pa_nil))))) pss_nil)
    (pss_cons (ps_if (pt_cmpR oEq (pv 0) pe_str (nomark _)) (pss_one (ps_ret (pe_makeD M_Letters hr (pa_cons pe_str pa_nil)))) pss_nil)
    (pss_cons (ps_if (pt_cmpR oEq (pv 0) pe_str (nomark _)) (pss_one (ps_ret (pe_makeD M_Maybe hr (pa_cons (pe_makeN0 M0_Truth rfl m_Truth) pa_nil)))) pss_nil)
    (pss_cons (ps_if (pt_cmpR oEq (pv 0) pe_str (nomark _)) (pss_one (ps_ret (pe_makeN0 M0_Whole rfl m_Whole))) pss_nil)
    (pss_cons (ps_if (pt_cmpR oEq (pv 0) pe_str (nomark _)) (pss_one (ps_ret (pe_makeD M_Turned hr (pa_cons (pe_makeD M_Span hr (pa_cons pe_int (pa_cons pe_int pa_nil))) pa_nil)))) pss_nil)
    (pss_cons (ps_if (pt_cmpR oEq (pv 0) pe_str (nomark _)) (pss_one (ps_ret (pe_makeD M_Many hr (pa_cons (pe_makeN0 M0_Truth rfl m_Truth) pa_nil)))) pss_nil)
    (pss_one (ps_ret (pe_makeN0 M0_Nothing rfl m_Nothing)))))))))), ?_⟩
  have nn : ∀ {t : Addr}, H t = none → t ∉ X := fun h z => by
    obtain ⟨o, e⟩ := hX _ z
    rw [h] at e; cases e
  rcases fin8 k with rfl | rfl | rfl | rfl | rfl | rfl | rfl | rfl
  · refine ⟨_, rfl, rfl, _, rfl, iteY (by decide +kernel) ?_⟩
    exact fun x dx h1 h2 h3 => ⟨_, (Ext.made h1 h2 h3).sub, q x _ (Ext.made h1 h2 h3) ⟨nn h1, dx, upd_same⟩⟩
  · refine ⟨_, rfl, rfl, _, rfl, iteN (by decide +kernel) ⟨_, rfl, rfl, _, rfl, iteY (by decide +kernel) ?_⟩⟩
    refine ⟨_, rfl, fun x dx h1 h2 h3 => ⟨x, dx, -2, 2, rfl, upd_same, by decide, rfl, ?_⟩⟩
    rw [upd_upd']
    exact ⟨_, (Ext.made h1 h2 h3).sub, q x _ (Ext.made h1 h2 h3) ⟨nn h1, dx, upd_same⟩⟩
  · refine ⟨_, rfl, rfl, _, rfl, iteN (by decide +kernel) ⟨_, rfl, rfl, _, rfl, iteN (by decide +kernel) ⟨_, rfl, rfl, _, rfl, iteY (by decide +kernel) ?_⟩⟩⟩
    refine fun x dx h1 h2 h3 => ⟨x, dx, Str.ofString "ba", rfl, upd_same, by decide +kernel, by decide +kernel, rfl, ?_⟩
    rw [upd_upd']
    exact ⟨_, (Ext.made h1 h2 h3).sub, q x _ (Ext.made h1 h2 h3) ⟨nn h1, dx, upd_same⟩⟩
  · refine ⟨_, rfl, rfl, _, rfl, iteN (by decide +kernel) ⟨_, rfl, rfl, _, rfl, iteN (by decide +kernel) ⟨_, rfl, rfl, _, rfl, iteN (by decide +kernel) ⟨_, rfl, rfl, _, rfl, iteY (by decide +kernel) ?_⟩⟩⟩⟩
    refine fun i di g1 g2 g3 x dx h1 h2 h3 => ⟨x, dx, i, rfl, upd_same, rfl, ?_⟩
    rw [upd_upd']
    have E1 := Ext.made (C := c.b 1) (fs := []) g1 g2 g3
    have E2 := E1.trans (Ext.made (C := c.o 0) (fs := [("inner", V.ref i)]) h1 h2 h3)
    exact ⟨_, E2.sub, q x _ E2 ⟨nn (E1.s.free h1), dx, i, upd_same, nn g1, di, (Ext.made h1 h2 h3).s _ _ upd_same⟩⟩
  · refine ⟨_, rfl, rfl, _, rfl, iteN (by decide +kernel) ⟨_, rfl, rfl, _, rfl, iteN (by decide +kernel) ⟨_, rfl, rfl, _, rfl, iteN (by decide +kernel) ⟨_, rfl, rfl, _, rfl, iteN (by decide +kernel) ⟨_, rfl, rfl, _, rfl, iteY (by decide +kernel) ?_⟩⟩⟩⟩⟩
    exact fun x dx h1 h2 h3 => ⟨_, (Ext.made h1 h2 h3).sub, q x _ (Ext.made h1 h2 h3) ⟨nn h1, dx, upd_same⟩⟩
  · refine ⟨_, rfl, rfl, _, rfl, iteN (by decide +kernel) ⟨_, rfl, rfl, _, rfl, iteN (by decide +kernel) ⟨_, rfl, rfl, _, rfl, iteN (by decide +kernel) ⟨_, rfl, rfl, _, rfl, iteN (by decide +kernel) ⟨_, rfl, rfl, _, rfl, iteN (by decide +kernel) ⟨_, rfl, rfl, _, rfl, iteY (by decide +kernel) ?_⟩⟩⟩⟩⟩⟩
    refine fun i di g1 g2 g3 => ⟨i, di, 0, 3, rfl, upd_same, by decide, rfl, ?_⟩
    rw [upd_upd']
    refine fun x dx h1 h2 h3 => ⟨x, dx, i, rfl, upd_same, rfl, ?_⟩
    rw [upd_upd']
    have E1 := Ext.made (C := c.s) (fs := spanF 0 3) g1 g2 g3
    have E2 := E1.trans (Ext.made (C := c.o 2) (fs := [("inner", V.ref i)]) h1 h2 h3)
    exact ⟨_, E2.sub, q x _ E2 ⟨nn (E1.s.free h1), dx, i, upd_same, nn g1, di, (Ext.made h1 h2 h3).s _ _ upd_same⟩⟩
  · refine ⟨_, rfl, rfl, _, rfl, iteN (by decide +kernel) ⟨_, rfl, rfl, _, rfl, iteN (by decide +kernel) ⟨_, rfl, rfl, _, rfl, iteN (by decide +kernel) ⟨_, rfl, rfl, _, rfl, iteN (by decide +kernel) ⟨_, rfl, rfl, _, rfl, iteN (by decide +kernel) ⟨_, rfl, rfl, _, rfl, iteN (by decide +kernel) ⟨_, rfl, rfl, _, rfl, iteY (by decide +kernel) ?_⟩⟩⟩⟩⟩⟩⟩
    refine fun i di g1 g2 g3 x dx h1 h2 h3 => ⟨x, dx, i, rfl, upd_same, rfl, ?_⟩
    rw [upd_upd']
    have E1 := Ext.made (C := c.b 1) (fs := []) g1 g2 g3
    have E2 := E1.trans (Ext.made (C := c.o 1) (fs := [("inner", V.ref i)]) h1 h2 h3)
    exact ⟨_, E2.sub, q x _ E2 ⟨nn (E1.s.free h1), dx, i, upd_same, nn g1, di, (Ext.made h1 h2 h3).s _ _ upd_same⟩⟩
  · refine ⟨_, rfl, rfl, _, rfl, iteN (by decide +kernel) ⟨_, rfl, rfl, _, rfl, iteN (by decide +kernel) ⟨_, rfl, rfl, _, rfl, iteN (by decide +kernel) ⟨_, rfl, rfl, _, rfl, iteN (by decide +kernel) ⟨_, rfl, rfl, _, rfl, iteN (by decide +kernel) ⟨_, rfl, rfl, _, rfl, iteN (by decide +kernel) ⟨_, rfl, rfl, _, rfl, iteN (by decide +kernel) ?_⟩⟩⟩⟩⟩⟩⟩
    exact fun x dx h1 h2 h3 => ⟨_, (Ext.made h1 h2 h3).sub, q x _ (Ext.made h1 h2 h3) ⟨nn h1, dx, upd_same⟩⟩

def tameB : D → Bool
  | .int i => decide (WholeIn i)
  | .str t => decide (t.length ≤ 200)
  | .lst ds => decide (ds.length ≤ 60)
  | _ => true
def spValK (ff : D → Bool) : Sp := fun vs H Q _ => ∃ (k : Fin 8) (n : Int) (X : List Addr), vs = [.str (wordK k), .int n] ∧ (∀ x, x ∈ X → ∃ o, H x = some o) ∧ ∀ v d H', Ext H H' → DX X H' d v → tameB d = true → fitB ff (formK k) d = true → dht d ≤ 4 → Q v H'
theorem ab_at (x : Int) : ∃ c, atI (Str.ofString "ab").cps.toList (Builtin.bitAnd x 1) = some c := by
  rw [PyProof.Rows.bitAnd_m1]
  have h : x % 2 = 0 ∨ x % 2 = 1 := by omega
  have e : (Str.ofString "ab").cps.toList = [97, 98] := by decide +kernel
  rw [e]
  rcases h with h | h
  · rw [h]; exact ⟨97, atI_nat (j := 0) rfl⟩
  · rw [h]; exact ⟨98, atI_nat (j := 1) rfl⟩
theorem atI_mem {α : Type} {l : List α} {i : Int} {c : α} (h : atI l i = some c) : c ∈ l := by
  unfold atI at h
  obtain ⟨j, _, hj⟩ := Option.bind_eq_some_iff.mp h
  exact List.mem_of_getElem? hj
theorem ab_ba : ∀ c, c ∈ (Str.ofString "ab").cps.toList → c ∈ (Str.ofString "ba").cps.toList := by decide +kernel
theorem DsX_bl (X : List Addr) (H : Hp) : ∀ bs : List Bool, DsX X H (bs.map D.bl) (bs.map V.bl)
  | [] => rfl
  | b :: bs => ⟨_, _, rfl, rfl, DsX_bl X H bs⟩
theorem dhts_bl : ∀ bs : List Bool, dhts (bs.map D.bl) ≤ 1
  | [] => by rw [List.map_nil, dhts]; omega
  | b :: bs => by
    rw [List.map_cons, dhts, dht]
    have := dhts_bl bs
    omega
theorem ok_law_value {f : Addr} {fd : FuncData} {ff : D → Bool} (nb : NB mg) (F : FunAt K mg "_law_value" s_law_value ["_law_word", "_law_number"] f fd) : DefOk P w K mg base 1 "_law_value" ["_law_word", "_law_number"] (spValK ff) := by
  refine F.ok sc_law_value (fun vs H Q E h => ?_) (fun cdv A outer s H vs Q E hr h => ?_)
  · obtain ⟨_, _, _, rfl, _⟩ := h; rfl
  obtain ⟨k, n, X, rfl, hX, q⟩ := h
  have nX : ∀ {t : Addr}, H t = none → t ∉ X := fun h z => by
    obtain ⟨o, e⟩ := hX _ z
    rw [h] at e; cases e
  refine ⟨_, (pss_cons (ps_if (pt_cmpR oEq (pv 0) pe_str (nomark _)) (pss_one (ps_ret (pe_cmpR oEq (pe_op op_mod (pv 1) pe_int) pe_int (nomark _)))) pss_nil)
    (pss_cons (ps_if (pt_cmpR oEq (pv 0) pe_str (nomark _)) (pss_one (ps_ret (pe_op oSub (pe_op op_mod (pv 1) pe_int) pe_int))) pss_nil)
    (pss_cons (ps_if (pt_cmpR oEq (pv 0) pe_str (nomark _)) (pss_one (ps_ret (pe_bm PySem.F.plainAttrs_str PySem.F.slot_str_join PySem.F.type_str_join mt_join pe_str (pa_cons (pe_comp ["_law_j"] [(1, "_law_number")] rfl (by decide +kernel) ⟨rfl, .inl rfl, trivial⟩ (pi_range1 rfl nb.range_ (pa_cons (pe_op op_mod (pv 1) pe_int) pa_nil)) (fun _ _ _ _ _ => (pg_name (i := 0) (show (["_law_j", "_law_number"] : List Str).Nodup by decide +kernel) rfl (by first | exact Or.inl rfl | exact Or.inr rfl))) (fun _ _ _ _ _ => pts_nil) (fun _ _ _ _ _ => (pe_ix iAll pe_str (pe_op op_and (pe_op op_shr (pe_op op_fdiv (pv 1) pe_int) (pv 0)) pe_int) (fun _ _ => rfl)))) pa_nil)))) pss_nil)
    (pss_cons (ps_if (pt_cmpR oEq (pv 0) pe_str (nomark _)) (pss_one (ps_ret (pe_ix iAll (pe_lst (pa_cons (pe_tup pa_nil) (pa_cons (pe_tup (pa_cons pe_bl pa_nil)) (pa_cons (pe_tup (pa_cons pe_bl pa_nil)) pa_nil)))) (pe_op op_mod (pv 1) pe_int) (fun _ _ => rfl)))) pss_nil)
    (pss_cons (ps_if (pt_cmpR oEq (pv 0) pe_str (nomark _)) (pss_one (ps_ret (pe_ix iAll (pe_lst (pa_cons (pe_op oSub (pe_op op_mod (pv 1) pe_int) pe_int) (pa_cons (pe_op oSub (pe_op op_mod (pv 1) (pe_op op_pow pe_int pe_int)) (pe_op oMul pe_int (pe_op op_pow pe_int pe_int))) pa_nil))) (pe_op op_mod (pe_op op_fdiv (pv 1) pe_int) pe_int) (fun _ _ => rfl)))) pss_nil)
    (pss_cons (ps_if (pt_cmpR oEq (pv 0) pe_str (nomark _)) (pss_one (ps_ret (pe_op op_mod (pv 1) pe_int))) pss_nil)
    (pss_cons (ps_if (pt_cmpR oEq (pv 0) pe_str (nomark _)) (pss_one (ps_ret (pe_comp ["_law_j"] [(1, "_law_number")] rfl (by decide +kernel) ⟨rfl, .inl rfl, trivial⟩ (pi_range1 rfl nb.range_ (pa_cons (pe_op op_mod (pv 1) pe_int) pa_nil)) (fun _ _ _ _ _ => (pg_name (i := 0) (show (["_law_j", "_law_number"] : List Str).Nodup by decide +kernel) rfl (by first | exact Or.inl rfl | exact Or.inr rfl))) (fun _ _ _ _ _ => pts_nil) (fun _ _ _ _ _ => (pe_cmpR oEq (pe_op op_and (pe_op op_shr (pe_op op_fdiv (pv 1) pe_int) (pv 0)) pe_int) pe_int (nomark _)))))) pss_nil)
    (pss_one (ps_ret pe_non))))))))), ?_⟩
  have nk : ∀ i : Int, -(10 ^ 12) ≤ i → i ≤ 10 ^ 12 → decide (WholeIn i) = true := fun i h1 h2 => decide_eq_true ⟨by omega, by omega⟩
  rcases fin8 k with rfl | rfl | rfl | rfl | rfl | rfl | rfl | rfl
  · refine ⟨_, rfl, rfl, _, rfl, iteY (by decide +kernel) ?_⟩
    exact ⟨_, rfl, _, _, rfl, rfl, (by show (0 : Int) < 2; decide), rfl, H, .refl (Same.refl _), q _ (.bl _) H (Ext.refl H) rfl rfl (by show fitB ff (.bare 1) _ = true; rw [fitB]; rfl) (by rw [dht]; omega)⟩
  · iterate 1 refine ⟨_, rfl, rfl, _, rfl, iteN (by decide +kernel) ?_⟩
    refine ⟨_, rfl, rfl, _, rfl, iteY (by decide +kernel) ?_⟩
    exact ⟨_, rfl, _, _, rfl, rfl, (by show (0 : Int) < 5; decide), _, _, rfl, rfl, H, .refl (Same.refl _), q _ (.int _) H (Ext.refl H) rfl (nk _ (by omega) (by omega)) (by show fitB ff (.sp (-2) 2) _ = true; rw [fitB]; exact decide_eq_true ⟨by omega, by omega⟩) (by rw [dht]; omega)⟩
  · iterate 2 refine ⟨_, rfl, rfl, _, rfl, iteN (by decide +kernel) ?_⟩
    refine ⟨_, rfl, rfl, _, rfl, iteY (by decide +kernel) ?_⟩
    obtain ⟨m, hm, em⟩ := mod_nat5 n 4 (by decide)
    have em : n % 4 = ((m : Nat) : Int) := em
    refine ⟨rfl, _, rfl, _, _, rfl, rfl, (by show (0 : Int) < 4; decide), _, rfl, by omega, by omega, fun D1 hD1 => ?_⟩
    dsimp only
    rw [em, show (((m : Nat) : Int)).toNat = m by omega]
    refine comp_rangeI (fun j => V.str ⟨#[(ab_at (n / 4 / 2 ^ (0 + (j : Int)).toNat)).choose]⟩) (fun σ => ∃ z, σ = [z, some (.int n)]) (by omega) ⟨_, rfl⟩ hD1 ?_ ?_
    · rintro j hj σ1 H1 ⟨z, rfl⟩ hs1 R hR
      exact ⟨_, rfl, _, _, rfl, rfl, ⟨by decide, by decide⟩, _, rfl, _, _, rfl, rfl, (by show (0 : Int) ≤ _; omega), _, _, rfl, rfl, .inr ⟨_, _, _, rfl, rfl, small5 (by decide +kernel), (ab_at (n / 4 / 2 ^ (0 + (j : Int)).toNat)).choose_spec, hR _ ⟨_, rfl⟩⟩⟩
    · have e : (List.range m).map (fun (j : Nat) => V.str ⟨#[(ab_at (n / 4 / 2 ^ (0 + (j : Int)).toNat)).choose]⟩) = ((List.range m).map fun (j : Nat) => (⟨#[(ab_at (n / 4 / 2 ^ (0 + (j : Int)).toNat)).choose]⟩ : Str)).map V.str := by rw [List.map_map]; rfl
      rw [e]
      have hle : ∀ y ∈ ((List.range m).map fun (j : Nat) => (⟨#[(ab_at (n / 4 / 2 ^ (0 + (j : Int)).toNat)).choose]⟩ : Str)), y.length ≤ 1 := fun y hy => by
        obtain ⟨j, _, rfl⟩ := List.mem_map.mp hy
        exact Nat.le_refl _
      have hj := join_len_le (Str.ofString "") _ 1 hle
      rw [List.length_map, List.length_range, show (Str.ofString "").length = 0 by decide +kernel] at hj
      refine ⟨_, D1, _, rfl, rfl, SqL.of upd_same, ?_, ?_⟩
      · rw [List.map_map, List.length_map, List.length_range, show (Str.ofString "").length = 0 by decide +kernel]
        have hs : ∀ l : List Nat, (l.map ((fun x : Str => x.length) ∘ fun (j : Nat) => (⟨#[(ab_at (n / 4 / 2 ^ (0 + (j : Int)).toNat)).choose]⟩ : Str))).sum = l.length := fun l => by
          induction l with
          | nil => rfl
          | cons x l ih => rw [List.map_cons, List.sum_cons, ih, List.length_cons]; exact Nat.add_comm 1 _
        rw [hs, List.length_range]
        exact small5 (by omega)
      · refine ⟨H, .refl (same_new hD1), q _ (.str _) H (Ext.refl H) ⟨rfl, by omega⟩ (decide_eq_true (by omega)) ?_ (by rw [dht]; omega)⟩
        show fitB ff (.le (Str.ofString "ba")) _ = true
        rw [fitB]
        refine Bool.and_eq_true_iff.mpr ⟨decide_eq_true (by omega), List.all_eq_true.mpr fun ch hch => ?_⟩
        rw [join_nil_cps] at hch
        obtain ⟨l1, hl1, hc1⟩ := List.mem_flatten.mp hch
        obtain ⟨y, hy, rfl⟩ := List.mem_map.mp hl1
        obtain ⟨j, _, rfl⟩ := List.mem_map.mp hy
        have hcm := atI_mem (ab_at (n / 4 / 2 ^ (0 + (j : Int)).toNat)).choose_spec
        rw [List.mem_singleton.mp hc1]
        exact decide_eq_true (ab_ba _ hcm)
  · iterate 3 refine ⟨_, rfl, rfl, _, rfl, iteN (by decide +kernel) ?_⟩
    refine ⟨_, rfl, rfl, _, rfl, iteY (by decide +kernel) ?_⟩
    obtain ⟨m, hm, em⟩ := mod_nat5 n 3 (by decide)
    have em : n % 3 = ((m : Nat) : Int) := em
    refine ⟨Nat.zero_le _, fun t0 h0 => ⟨one_ok, fun t1 h1 => ⟨one_ok, fun t2 h2 => ⟨(by show 3 ≤ sizeLine; decide), fun l hl => ?_⟩⟩⟩⟩
    have X3 := Ext.lst (xs := [V.ref t0, .ref t1, .ref t2]) hl
    have X2 := (Ext.tup (xs := [V.bl true]) h2).trans X3
    have X1 := (Ext.tup (xs := [V.bl false]) h1).trans X2
    have X0 := (Ext.tup (xs := []) h0).trans X1
    have hm3 : m = 0 ∨ m = 1 ∨ m = 2 := by omega
    rcases hm3 with rfl | rfl | rfl
    · refine ⟨_, rfl, _, _, rfl, rfl, (by show (0 : Int) < 3; decide), .inl (.inl ⟨_, _, _, _, rfl, rfl, SqL.of upd_same, (by rw [em]; exact atI_nat (j := 0) rfl), _, X0.sub, q _ (.tup []) _ X0 ⟨t0, [], rfl, nX h0, X1.s _ _ upd_same, rfl, by simp⟩ rfl (by show fitB ff (.one 0 (.bare 1)) _ = true; rw [fitB]; rfl) (by rw [dht, dhts]; omega)⟩)⟩
    · refine ⟨_, rfl, _, _, rfl, rfl, (by show (0 : Int) < 3; decide), .inl (.inl ⟨_, _, _, _, rfl, rfl, SqL.of upd_same, (by rw [em]; exact atI_nat (j := 1) rfl), _, X0.sub, q _ (.tup [.bl false]) _ X0 ⟨t1, [.bl false], rfl, nX ((same_new h0).free h1), X2.s _ _ upd_same, ⟨_, _, rfl, rfl, rfl⟩, by simp⟩ rfl (by show fitB ff (.one 0 (.bare 1)) _ = true; rw [fitB]; show fitB ff (.bare 1) (.bl false) = true; rw [fitB]; rfl) (by rw [dht, dhts, dhts, dht]; omega)⟩)⟩
    · refine ⟨_, rfl, _, _, rfl, rfl, (by show (0 : Int) < 3; decide), .inl (.inl ⟨_, _, _, _, rfl, rfl, SqL.of upd_same, (by rw [em]; exact atI_nat (j := 2) rfl), _, X0.sub, q _ (.tup [.bl true]) _ X0 ⟨t2, [.bl true], rfl, nX (((same_new h0).trans (same_new h1)).free h2), X3.s _ _ upd_same, ⟨_, _, rfl, rfl, rfl⟩, by simp⟩ rfl (by show fitB ff (.one 0 (.bare 1)) _ = true; rw [fitB]; show fitB ff (.bare 1) (.bl true) = true; rw [fitB]; rfl) (by rw [dht, dhts, dhts, dht]; omega)⟩)⟩
  · iterate 4 refine ⟨_, rfl, rfl, _, rfl, iteN (by decide +kernel) ?_⟩
    refine ⟨_, rfl, rfl, _, rfl, iteY (by decide +kernel) ?_⟩
    have pw : ∀ j : Int, j = 9 ∨ j = 8 → CPow 10 j := fun j hj => by rcases hj with rfl | rfl <;> (refine ⟨?_, ?_, ?_⟩ <;> decide)
    have p9 : (0 : Int) < 10 ^ Int.toNat 9 := by decide
    refine ⟨_, rfl, _, _, rfl, rfl, (by show (0 : Int) < 5; decide), _, _, rfl, rfl, _, rfl, _, _, rfl, rfl, pw _ (.inl rfl), _, _, rfl, rfl, p9, _, _, rfl, rfl, pw _ (.inr rfl), .inl ⟨_, _, rfl, rfl, .inl ⟨by decide, by decide⟩, _, _, rfl, rfl, two_ok7, fun l hl => ?_⟩⟩
    have h9 : (10 : Int) ^ Int.toNat 9 = 1000000000 := by decide
    have h8 : (10 : Int) ^ Int.toNat 8 = 100000000 := by decide
    have hq : ∀ i : Int, -(10 ^ 12) ≤ i → i ≤ 10 ^ 12 → ∃ H'', Sub H H'' (upd H l (.lst [V.int (n % 5 - 2), V.int (n % 10 ^ Int.toNat 9 - 5 * 10 ^ Int.toNat 8)])) ∧ Q (.int i) H'' := fun i h1 h2 => ⟨H, .refl (same_new hl), q _ (.int i) H (Ext.refl H) rfl (nk i h1 h2) (by show fitB ff (.bare 2) _ = true; rw [fitB]; exact nk i h1 h2) (by rw [dht]; omega)⟩
    obtain ⟨m, hm, em⟩ := mod_nat5 (n / 5) 2 (by decide)
    have em : n / 5 % 2 = ((m : Nat) : Int) := em
    have hm2 : m = 0 ∨ m = 1 := by omega
    rcases hm2 with rfl | rfl
    · exact ⟨_, rfl, _, _, rfl, rfl, ⟨by decide, by decide⟩, _, _, rfl, rfl, (by show (0 : Int) < 2; decide), .inl (.inl ⟨_, _, _, _, rfl, rfl, SqL.of upd_same, (by rw [em]; exact atI_nat (j := 0) rfl), hq _ (by omega) (by omega)⟩)⟩
    · exact ⟨_, rfl, _, _, rfl, rfl, ⟨by decide, by decide⟩, _, _, rfl, rfl, (by show (0 : Int) < 2; decide), .inl (.inl ⟨_, _, _, _, rfl, rfl, SqL.of upd_same, (by rw [em]; exact atI_nat (j := 1) rfl), hq _ (by rw [h9, h8]; omega) (by rw [h9, h8]; omega)⟩)⟩
  · iterate 5 refine ⟨_, rfl, rfl, _, rfl, iteN (by decide +kernel) ?_⟩
    refine ⟨_, rfl, rfl, _, rfl, iteY (by decide +kernel) ?_⟩
    exact ⟨_, rfl, _, _, rfl, rfl, (by show (0 : Int) < 4; decide), H, .refl (Same.refl _), q _ (.int _) H (Ext.refl H) rfl (nk _ (by omega) (by omega)) (by show fitB ff (.one 2 (.sp 0 3)) _ = true; rw [fitB]; show fitB ff (.sp 0 3) (.int (n % 4)) = true; rw [fitB]; exact decide_eq_true ⟨by omega, by omega⟩) (by rw [dht]; omega)⟩
  · iterate 6 refine ⟨_, rfl, rfl, _, rfl, iteN (by decide +kernel) ?_⟩
    refine ⟨_, rfl, rfl, _, rfl, iteY (by decide +kernel) ?_⟩
    obtain ⟨m, hm, em⟩ := mod_nat5 n 4 (by decide)
    have em : n % 4 = ((m : Nat) : Int) := em
    refine ⟨_, rfl, _, _, rfl, rfl, (by show (0 : Int) < 4; decide), _, rfl, by omega, by omega, fun D1 hD1 => ?_⟩
    dsimp only
    rw [em, show (((m : Nat) : Int)).toNat = m by omega]
    refine comp_rangeI (fun j => V.bl (decide (V.int (Builtin.bitAnd (n / 4 / 2 ^ (0 + (j : Int)).toNat) 1) = V.int 1))) (fun σ => ∃ z, σ = [z, some (.int n)]) (by omega) ⟨_, rfl⟩ hD1 ?_ ?_
    · rintro j hj σ1 H1 ⟨z, rfl⟩ hs1 R hR
      exact ⟨_, rfl, _, _, rfl, rfl, ⟨by decide, by decide⟩, _, rfl, _, _, rfl, rfl, (by show (0 : Int) ≤ _; omega), _, _, rfl, rfl, rfl, hR _ ⟨_, rfl⟩⟩
    · have e : (List.range m).map (fun (j : Nat) => V.bl (decide (V.int (Builtin.bitAnd (n / 4 / 2 ^ (0 + (j : Int)).toNat) 1) = V.int 1))) = ((List.range m).map fun (j : Nat) => decide (V.int (Builtin.bitAnd (n / 4 / 2 ^ (0 + (j : Int)).toNat) 1) = V.int 1)).map V.bl := by rw [List.map_map]; rfl
      rw [e]
      have X0 := Ext.lst (xs := ((List.range m).map fun (j : Nat) => decide (V.int (Builtin.bitAnd (n / 4 / 2 ^ (0 + (j : Int)).toNat) 1) = V.int 1)).map V.bl) hD1
      refine ⟨_, X0.sub, q _ (.lst (((List.range m).map fun (j : Nat) => decide (V.int (Builtin.bitAnd (n / 4 / 2 ^ (0 + (j : Int)).toNat) 1) = V.int 1)).map D.bl)) _ X0 ⟨D1, _, rfl, nX hD1, upd_same, DsX_bl _ _ _, by rw [List.length_map, List.length_map, List.length_range]; omega⟩ (decide_eq_true (by rw [List.length_map, List.length_map, List.length_range]; omega)) ?_ ?_⟩
      · show fitB ff (.one 1 (.bare 1)) _ = true
        rw [fitB]
        refine Bool.and_eq_true_iff.mpr ⟨decide_eq_true (by rw [List.length_map, List.length_map, List.length_range]; omega), List.all_eq_true.mpr fun x hx => ?_⟩
        obtain ⟨b, _, rfl⟩ := List.mem_map.mp hx
        show fitB ff (.bare 1) _ = true
        rw [fitB]; rfl
      rw [dht]
      have := dhts_bl ((List.range m).map fun (j : Nat) => decide (V.int (Builtin.bitAnd (n / 4 / 2 ^ (0 + (j : Int)).toNat) 1) = V.int 1))
      omega
  · iterate 7 refine ⟨_, rfl, rfl, _, rfl, iteN (by decide +kernel) ?_⟩
    exact ⟨H, .refl (Same.refl _), q _ .non H (Ext.refl H) rfl rfl (by show fitB ff (.bare 0) _ = true; rw [fitB]; rfl) (by rw [dht]; omega)⟩
def isBlD : D → Bool
  | .bl _ => true
  | _ => false
theorem fit_truth (ff : D → Bool) (d : D) : fitB ff (.bare 1) d = isBlD d := by
  rw [fitB]
  cases d <;> rfl
/-! ### k55: the law -/
def formsK (ks : List (Fin 8)) : List Fm := ks.map formK
theorem formsK_get {ks : List (Fin 8)} {i : Nat} {k : Fin 8} (h : ks[i]? = some k) : (formsK ks).getD i (.bare 0) = formK k := by
  unfold formsK
  rw [List.getD_eq_getElem?_getD, List.getElem?_map, h]; rfl
theorem DsAt.app {H : Hp} {es : List D} {ws : List V} (he : DsAt H es ws) : ∀ (ds : List D) {vs : List V}, DsAt H ds vs → DsAt H (ds ++ es) (vs ++ ws)
  | [], vs, h => by
    obtain rfl : vs = [] := h
    exact he
  | e :: ds, vs, h => by
    obtain ⟨w, r, rfl, q, q2⟩ := h
    exact ⟨w, r ++ ws, rfl, q, DsAt.app he ds q2⟩
theorem comp_rangeP {lo : Int} {n : Nat} {g : TG} {te : TE} {Q : VK} {H : Hp} {D : Addr} {σ0 : St} (Pr : Nat → V → Hp → Prop) (S : St → Prop) (hm : ∀ i y H1 H2, (∀ b u, b ≠ D → H1 b = some u → H2 b = some u) → Pr i y H1 → Pr i y H2) (hz : n ≤ 100000) (h0 : S σ0) (hD : H D = none)
    (ht : ∀ i, i < n → ∀ σ1 H1, S σ1 → Same H H1 → (∃ l, H1 D = some (.lst l)) → ∀ R : St → V → Hp → Prop, (∀ σ2 y H3, S σ2 → Same H1 H3 → (Closed H1 → Closed H3) → Pr i y H3 → R σ2 y H3) → g (.int (lo + (i : Int))) σ1 H1 fun σ2 H2 => te σ2 H2 fun y H3 => R σ2 y H3)
    (hq : ∀ (ys : List V) (H' : Hp), ys.length = n → Same H H' → (Closed H → Closed H') → H' D = some (.lst ys) → (∀ k y, ys[k]? = some y → Pr k y H') → Q (.ref D) H') :
    CompGo (Itr lo n) g tYes te Q σ0 H D := by
  refine ⟨fun i m σ1 H2 => i ≤ n ∧ m = n - i ∧ S σ1 ∧ Same H H2 ∧ (Closed H → Closed H2) ∧ ∃ ys : List V, ys.length = i ∧ H2 D = some (.lst ys) ∧ ∀ k y, ys[k]? = some y → Pr k y H2, ⟨n, Nat.zero_le _, rfl, h0, same_new hD, fun c => closed_new c hD trivial, [], rfl, upd_same, fun k y h => nomatch h⟩, ?_⟩
  rintro i m σ1 H2 ⟨h1, rfl, h2, hs, hcl, ys, hy, hDv, hP⟩
  rcases Nat.lt_or_ge i n with z | z
  · refine .inr ⟨z, ?_⟩
    rintro x H3 ⟨rfl, rfl⟩
    refine ht i z σ1 _ h2 hs ⟨_, hDv⟩ (fun σ2 y H6 => ∃ zs m', H6 D = some (.lst zs) ∧ zs.length < sizeLine ∧ m' < n - i ∧ (i + 1 ≤ n ∧ m' = n - (i + 1) ∧ S σ2 ∧ Same H (upd H6 D (.lst (zs ++ [y]))) ∧ (Closed H → Closed (upd H6 D (.lst (zs ++ [y])))) ∧ ∃ ys : List V, ys.length = i + 1 ∧ upd H6 D (.lst (zs ++ [y])) D = some (.lst ys) ∧ ∀ k y', ys[k]? = some y' → Pr k y' (upd H6 D (.lst (zs ++ [y]))))) fun σ2 y H6 q3 hs6 hc6 hp6 => ?_
    have hD6 := hs6 _ _ hDv
    have up : ∀ b u, b ≠ D → H6 b = some u → upd H6 D (.lst (ys ++ [y])) b = some u := fun b u nb e => by rw [upd_ne nb]; exact e
    refine ⟨ys, n - (i + 1), hD6, Nat.lt_of_lt_of_le (show ys.length < 100000 by omega) (by decide), by omega, by omega, rfl, q3, ?_, fun c => closed_lst hD6 (hc6 (hcl c)), ys ++ [y], by rw [List.length_append, hy]; rfl, upd_same, ?_⟩
    · intro b u e
      rw [upd_ne (ne_of_none e hD)]
      exact hs6 b u (hs b u e)
    · intro k y' hk
      rcases Nat.lt_or_ge k ys.length with zk | zk
      · rw [List.getElem?_append_left zk] at hk
        exact hm k y' _ _ (fun b u nb e => up b u nb (hs6 b u e)) (hP k y' hk)
      · rw [List.getElem?_append_right zk] at hk
        have ek : k = ys.length := by
          rcases Nat.lt_or_ge (k - ys.length) 1 with w | w
          · omega
          · rw [List.getElem?_eq_none (by simpa using w)] at hk; cases hk
        subst ek
        rw [Nat.sub_self] at hk
        cases hk
        rw [hy]
        exact hm _ _ _ _ up hp6
  · have e : i = n := by omega
    subst e
    exact .inl ⟨Nat.le_refl _, hq ys H2 hy hs hcl hDv hP⟩
theorem parts_of {c : FC} {X : List Addr} {H : Hp} {fk : Nat → Fm} {nm : Nat → Str} : ∀ (ys : List V) (i : Nat), (∀ k y, ys[k]? = some y → ∃ T o, y = .ref T ∧ H T = some (.tup [.str (nm (i + k)), .ref o]) ∧ FAt c X H (fk (i + k)) o) →
    ∃ ps : List (Addr × Str × Addr), ys = ps.map (fun x => V.ref x.1) ∧ nms ps = (List.range ys.length).map (fun k => nm (i + k)) ∧ (∀ x, x ∈ ps → H x.1 = some (.tup [.str x.2.1, .ref x.2.2])) ∧ FsAt c X H ((List.range ys.length).map fun k => fk (i + k)) (fms ps)
  | [], i, _ => ⟨[], rfl, rfl, (fun x hx => nomatch hx), rfl⟩
  | y :: ys, i, h => by
    obtain ⟨T, o, rfl, hT, hF⟩ := h 0 y rfl
    obtain ⟨ps, e1, e2, e3, e4⟩ := parts_of (fk := fk) (nm := nm) ys (i + 1) fun k y hk => by
      have := h (k + 1) y hk
      rw [show i + (k + 1) = i + 1 + k by omega] at this
      exact this
    have ef : ∀ {α : Type} (f : Nat → α), (List.range (V.ref T :: ys).length).map (fun k => f (i + k)) = f (i + 0) :: (List.range ys.length).map fun k => f (i + 1 + k) := fun f => by
      rw [List.length_cons, List.range_succ_eq_map, List.map_cons, List.map_map]
      congr 1
      refine List.map_congr_left fun k _ => ?_
      show f (i + (k + 1)) = _
      rw [show i + (k + 1) = i + 1 + k by omega]
    refine ⟨(T, nm (i + 0), o) :: ps, by rw [e1]; rfl, ?_, fun x hx => ?_, ?_⟩
    · rw [ef nm, ← e2]; rfl
    · rcases List.mem_cons.mp hx with rfl | hx
      · exact hT
      · exact e3 x hx
    · rw [ef fk]
      exact ⟨o, _, rfl, hF, e4⟩
theorem flat_le {α : Type} {f : α → List Bool} {B : Nat} : ∀ {l : List α}, (∀ x, x ∈ l → (f x).length ≤ B) → ((l.map f).flatten).length ≤ l.length * B
  | [], _ => Nat.zero_le _
  | x :: l, h => by
    rw [List.map_cons, List.flatten_cons, List.length_append, List.length_cons, Nat.succ_mul]
    have h1 := h x (List.mem_cons_self ..)
    have h2 := flat_le (l := l) fun y hy => h y (List.mem_cons_of_mem _ hy)
    omega
theorem bl1 : blen 1 = 1 := by decide +kernel
theorem bl4 : blen 4 = 3 := by decide +kernel
theorem bl3 : blen 3 = 2 := by decide +kernel
theorem row_truth (fw : D → List Bool) (d : D) : (rowB fw (.bare 1) d).length ≤ 1 := by
  rw [rowB]
  cases d <;> first | exact Nat.le_refl _ | exact Nat.zero_le _
theorem rowK_len (ff : D → Bool) (fw : D → List Bool) (k : Fin 8) (d : D) (h : fitB ff (formK k) d = true) : (rowB fw (formK k) d).length ≤ 700 := by
  rcases fin8 k with rfl | rfl | rfl | rfl | rfl | rfl | rfl | rfl
  · exact Nat.le_trans (row_truth fw d) (by decide)
  · show (rowB fw (.sp (-2) 2) d).length ≤ 700
    rw [rowB]
    cases d with
    | int i =>
      show (bitsW _ (blen 4)).length ≤ 700
      rw [bitsW_length, bl4]; decide
    | _ => exact Nat.zero_le _
  · have h : fitB ff (.le (Str.ofString "ba")) d = true := h
    rw [fitB] at h
    show (rowB fw (.le (Str.ofString "ba")) d).length ≤ 700
    rw [rowB]
    cases d with
    | str t =>
      have h : (decide (t.length ≤ 200) && madeOf t (Str.ofString "ba")) = true := h
      have h2 := of_decide_eq_true (Bool.and_eq_true_iff.mp h).1
      show ((t.cps.toList.map fun c => true :: bitsW ((Str.ofString "ba").cps.toList.idxOf c) (blen 1)).flatten ++ [false]).length ≤ 700
      have := flat_le (l := t.cps.toList) (f := fun c => true :: bitsW ((Str.ofString "ba").cps.toList.idxOf c) (blen 1)) (B := 2) fun x _ => by rw [List.length_cons, bitsW_length, bl1]; decide
      have hlt : t.cps.toList.length = t.length := Array.length_toList
      rw [List.length_append, List.length_singleton]
      omega
    | _ => exact Nat.zero_le _
  · show (rowB fw (.one 0 (.bare 1)) d).length ≤ 700
    rw [rowB]
    show (maybeRow (rowB fw (.bare 1)) d).length ≤ 700
    unfold maybeRow
    split
    · rw [List.length_cons]
      have := row_truth fw ‹_›
      omega
    · decide
  · have h : fitB ff (.bare 2) d = true := h
    rw [fitB] at h
    show (rowB fw (.bare 2) d).length ≤ 700
    rw [rowB]
    cases d with
    | int i =>
      have h : WholeIn i := of_decide_eq_true h
      show (whl i).length ≤ 700
      have := whl_length h.1 h.2
      omega
    | _ => exact Nat.zero_le _
  · show (rowB fw (.one 2 (.sp 0 3)) d).length ≤ 700
    rw [rowB]
    show ((rowB fw (.sp 0 3) d).map (!·)).length ≤ 700
    rw [List.length_map, rowB]
    cases d with
    | int i =>
      show (bitsW _ (blen 3)).length ≤ 700
      rw [bitsW_length, bl3]; decide
    | _ => exact Nat.zero_le _
  · have h : fitB ff (.one 1 (.bare 1)) d = true := h
    rw [fitB] at h
    have h : manyFit (fitB ff (.bare 1)) d = true := h
    show (rowB fw (.one 1 (.bare 1)) d).length ≤ 700
    rw [rowB]
    show (manyRow (rowB fw (.bare 1)) d).length ≤ 700
    cases d with
    | lst ds =>
      have h : (decide (ds.length ≤ 60) && ds.all (fitB ff (.bare 1))) = true := h
      have h2 := of_decide_eq_true (Bool.and_eq_true_iff.mp h).1
      show ((ds.map fun d => true :: rowB fw (.bare 1) d).flatten ++ [false]).length ≤ 700
      have := flat_le (l := ds) (f := fun d => true :: rowB fw (.bare 1) d) (B := 2) fun x _ => by rw [List.length_cons]; have := row_truth fw x; omega
      rw [List.length_append, List.length_singleton]
      omega
    | _ => exact Nat.zero_le _
  · show (rowB fw (.bare 0) d).length ≤ 700
    rw [rowB]
    cases d <;> exact Nat.zero_le _
def T20 : Str := Str.ofString "tsrqponmlkjihgfedcba"
def nmK (k : Nat) : Str := Str.ofString "p" ++ ⟨#[T20.cps.toList.getD k 97]⟩
theorem names20 : ∀ n : Fin 21, 0 < n.val → goodNames ((List.range n.val).map nmK) = true := by decide +kernel
theorem t20_at {k : Nat} (h : k < 20) : atI T20.cps.toList ((k : Nat) : Int) = some (T20.cps.toList.getD k 97) := by
  have hl : T20.cps.toList.length = 20 := by decide +kernel
  refine atI_nat ?_
  rw [List.getD_eq_getElem?_getD, List.getElem?_eq_getElem (by omega)]; rfl
theorem okK : ∀ k : Fin 8, okH has55 (formK k) ∧ ht (formK k) ≤ 2 := by
  intro k
  have hba : goodText (Str.ofString "ba") = true ∧ (Str.ofString "ba").length ≤ 60 := by decide +kernel
  rcases fin8 k with rfl | rfl | rfl | rfl | rfl | rfl | rfl | rfl
  · exact ⟨⟨by show okF (.bare 1); rw [okF]; trivial, by show inS has55 (.bare 1); rw [inS]; rfl⟩, by show ht (.bare 1) ≤ 2; rw [ht]; decide⟩
  · exact ⟨⟨by show okF (.sp (-2) 2); rw [okF]; decide, by show inS has55 (.sp (-2) 2); rw [inS]; rfl⟩, by show ht (.sp (-2) 2) ≤ 2; rw [ht]; decide⟩
  · exact ⟨⟨by show okF (.le _); rw [okF]; exact hba, by show inS has55 (.le _); rw [inS]; rfl⟩, by show ht (.le _) ≤ 2; rw [ht]; decide⟩
  · exact ⟨⟨by show okF (.one 0 (.bare 1)); rw [okF, okF]; trivial, by show inS has55 (.one 0 (.bare 1)); rw [inS, inS]; exact ⟨rfl, rfl⟩⟩, by show ht (.one 0 (.bare 1)) ≤ 2; rw [ht, ht]; decide⟩
  · exact ⟨⟨by show okF (.bare 2); rw [okF]; trivial, by show inS has55 (.bare 2); rw [inS]; rfl⟩, by show ht (.bare 2) ≤ 2; rw [ht]; decide⟩
  · exact ⟨⟨by show okF (.one 2 (.sp 0 3)); rw [okF, okF]; decide, by show inS has55 (.one 2 (.sp 0 3)); rw [inS, inS]; exact ⟨rfl, rfl⟩⟩, by show ht (.one 2 (.sp 0 3)) ≤ 2; rw [ht, ht]; decide⟩
  · exact ⟨⟨by show okF (.one 1 (.bare 1)); rw [okF, okF]; trivial, by show inS has55 (.one 1 (.bare 1)); rw [inS, inS]; exact ⟨rfl, rfl⟩⟩, by show ht (.one 1 (.bare 1)) ≤ 2; rw [ht, ht]; decide⟩
  · exact ⟨⟨by show okF (.bare 0); rw [okF]; trivial, by show inS has55 (.bare 0); rw [inS]; rfl⟩, by show ht (.bare 0) ≤ 2; rw [ht]; decide⟩
theorem okKs : ∀ ks : List (Fin 8), okHs has55 (formsK ks) ∧ hts (formsK ks) ≤ 2
  | [] => by
    refine ⟨⟨?_, ?_⟩, ?_⟩
    · show okFs []; rw [okFs]; trivial
    · show inSs has55 []; rw [inSs]; trivial
    · show hts [] ≤ 2; rw [hts]; decide
  | k :: ks => by
    obtain ⟨⟨h1, h2⟩, h3⟩ := okK k
    obtain ⟨⟨g1, g2⟩, g3⟩ := okKs ks
    refine ⟨⟨?_, ?_⟩, ?_⟩
    · show okFs (formK k :: formsK ks); rw [okFs]; exact ⟨h1, g1⟩
    · show inSs has55 (formK k :: formsK ks); rw [inSs]; exact ⟨h2, g2⟩
    · show hts (formK k :: formsK ks) ≤ 2; rw [hts]; omega
theorem in_one {H : Hp} {l : Addr} {o : HO} (h : H l = some o) : ∀ x, x ∈ [l] → ∃ o, H x = some o := fun x hx => ⟨o, by rw [List.mem_singleton.mp hx]; exact h⟩
theorem dhts_app {ds es : List D} {n : Nat} (h1 : dhts ds ≤ n) (h2 : dhts es ≤ n) : dhts (ds ++ es) ≤ n := by
  induction ds with
  | nil => exact h2
  | cons d ds ih =>
    rw [dhts] at h1
    rw [List.cons_append, dhts]
    have := ih (by omega)
    omega
theorem dhts_one {d : D} {n : Nat} (h : dht d ≤ n) : dhts [d] ≤ n := by rw [dhts, dhts]; omega
theorem formsK_any (ks : List (Fin 8)) (i : Nat) : ∃ k : Fin 8, (formsK ks).getD i (.bare 0) = formK k := by
  cases h : ks[i]? with
  | some k => exact ⟨k, formsK_get h⟩
  | none =>
    refine ⟨7, ?_⟩
    unfold formsK
    rw [List.getD_eq_getElem?_getD, List.getElem?_map, h]; rfl
theorem S5.b1 {ff : D → Bool} {fw : D → List Bool} {ks : List (Fin 8)} {ds : List D} (hl : ds.length ≤ 30) (h : fitFst ff (formsK ks) ds = true) : (spBeg fw (formsK ks) ds).length ≤ 40000 := by
  have := flat_le (l := List.range ds.length) (f := fun i => rowB fw ((formsK ks).getD i (.bare 0)) (ds.getD i .non)) (B := 700) fun i hi => by
    have h2 := List.all_eq_true.mp h i hi
    obtain ⟨k, hk⟩ := formsK_any ks i
    rw [hk] at h2 ⊢
    exact rowK_len ff fw k _ h2
  rw [List.length_range] at this
  show (((List.range ds.length).map fun i => rowB fw ((formsK ks).getD i (.bare 0)) (ds.getD i .non)).flatten).length ≤ 40000
  omega
theorem S5.b2 {ff : D → Bool} {fw : D → List Bool} {ks : List (Fin 8)} {ds dl : List D} (hl : dl.length ≤ 1) (h : dl.all (fitOne ff (formsK ks) ds) = true) : (spAdd fw (formsK ks) ds dl).length ≤ 40000 := by
  have := flat_le (l := dl) (f := fun d => rowB fw ((formsK ks).getD ds.length (.bare 0)) d) (B := 700) fun d hd => by
    have h2 := List.all_eq_true.mp h d hd
    unfold fitOne at h2
    obtain ⟨k, hk⟩ := formsK_any ks ds.length
    rw [hk] at h2 ⊢
    exact rowK_len ff fw k _ h2
  show ((dl.map fun d => rowB fw ((formsK ks).getD ds.length (.bare 0)) d).flatten).length ≤ 40000
  omega

/-! ### k54: keys of values; s_law_inside s_law_ends s_law_drawn s_law_start s_law_key s_law -/
def blI : D → Int
  | .bl b => if b = true then 1 else 0
  | _ => 0
def idxI (c : Nat) : Int := (((Str.ofString "ba").cps.toList.idxOf c : Nat) : Int)
def keyF : Nat → D → List Int
  | 0, d => [blI d]
  | 1, .int i => [i]
  | 2, .str t => t.cps.toList.map idxI
  | 3, .tup ds => ds.map blI
  | 4, .int i => [i]
  | 5, .int i => [0 - i]
  | 6, .lst ds => ds.map blI
  | _, _ => []
def keyK (k : Fin 8) (d : D) : List Int := keyF k.val d
theorem fit_bl {ff : D → Bool} {d : D} (h : fitB ff (.bare 1) d = true) : ∃ b, d = .bl b := by
  rw [fit_truth] at h
  cases d with
  | bl b => exact ⟨b, rfl⟩
  | _ => cases h
theorem fit_sp {ff : D → Bool} {a b : Int} {d : D} (h : fitB ff (.sp a b) d = true) : ∃ i, d = .int i ∧ a ≤ i ∧ i ≤ b := by
  rw [fitB] at h
  cases d with
  | int i => exact ⟨i, rfl, of_decide_eq_true h⟩
  | _ => cases h
theorem fit_wh {ff : D → Bool} {d : D} (h : fitB ff (.bare 2) d = true) : ∃ i, d = .int i ∧ WholeIn i := by
  rw [fitB] at h
  cases d with
  | int i => exact ⟨i, rfl, of_decide_eq_true h⟩
  | _ => cases h
theorem fit_le {ff : D → Bool} {s : Str} {d : D} (h : fitB ff (.le s) d = true) : ∃ t, d = .str t ∧ t.length ≤ 200 ∧ madeOf t s = true := by
  rw [fitB] at h
  cases d with
  | str t =>
    have h : (decide (t.length ≤ 200) && madeOf t s) = true := h
    exact ⟨t, rfl, of_decide_eq_true (Bool.and_eq_true_iff.mp h).1, (Bool.and_eq_true_iff.mp h).2⟩
  | _ => cases h
theorem fit_mb {ff : D → Bool} {d : D} (h : fitB ff (.one 0 (.bare 1)) d = true) : d = .tup [] ∨ ∃ b, d = .tup [.bl b] := by
  rw [fitB] at h
  have h : maybeFit (fitB ff (.bare 1)) d = true := h
  cases d with
  | tup ds =>
    cases ds with
    | nil => exact .inl rfl
    | cons x r =>
      cases r with
      | cons y r => cases h
      | nil =>
        obtain ⟨b, rfl⟩ := fit_bl (d := x) h
        exact .inr ⟨b, rfl⟩
  | _ => cases h
theorem fit_my {ff : D → Bool} {d : D} (h : fitB ff (.one 1 (.bare 1)) d = true) : ∃ bs : List Bool, d = .lst (bs.map D.bl) ∧ bs.length ≤ 60 := by
  rw [fitB] at h
  have h : manyFit (fitB ff (.bare 1)) d = true := h
  cases d with
  | lst ds =>
    have h : (decide (ds.length ≤ 60) && ds.all (fitB ff (.bare 1))) = true := h
    obtain ⟨h1, h2⟩ := Bool.and_eq_true_iff.mp h
    have h2 := List.all_eq_true.mp h2
    have key : ∀ ds : List D, (∀ d, d ∈ ds → fitB ff (.bare 1) d = true) → ∃ bs : List Bool, ds = bs.map D.bl := fun ds => by
      induction ds with
      | nil => exact fun _ => ⟨[], rfl⟩
      | cons d ds ih =>
        intro hd
        obtain ⟨b, rfl⟩ := fit_bl (hd d (List.mem_cons_self ..))
        obtain ⟨bs, rfl⟩ := ih fun e he => hd e (List.mem_cons_of_mem _ he)
        exact ⟨b :: bs, rfl⟩
    obtain ⟨bs, rfl⟩ := key ds h2
    exact ⟨bs, rfl, by have := of_decide_eq_true h1; rwa [List.length_map] at this⟩
  | _ => cases h
theorem fit_tu {ff : D → Bool} {d : D} (h : fitB ff (.one 2 (.sp 0 3)) d = true) : ∃ i, d = .int i ∧ 0 ≤ i ∧ i ≤ 3 := by
  rw [fitB] at h
  exact fit_sp (ff := ff) (a := 0) (b := 3) (d := d) h
theorem fit_no {ff : D → Bool} {d : D} (h : fitB ff (.bare 0) d = true) : d = .non := by
  rw [fitB] at h
  cases d with
  | non => rfl
  | _ => cases h
theorem lex_one {x y : Int} (h : HT.lexLt [x] [y] = true) : x < y := by
  rw [HT.lexLt_cons] at h
  split at h
  · cases h
  · exact of_decide_eq_true h
def eBl (x : Int) : List Bool := [decide (x = 1)]
theorem many_row (fw : D → List Bool) (bs : List Bool) : rowB fw (.one 1 (.bare 1)) (.lst (bs.map D.bl)) = itemsRow eBl ((bs.map D.bl).map blI) := by
  rw [rowB]
  show (((bs.map D.bl).map fun d => true :: rowB fw (.bare 1) d).flatten ++ [false]) = _
  unfold itemsRow
  rw [List.map_map, List.map_map, List.map_map]
  congr 2
  refine List.map_congr_left fun b _ => ?_
  show true :: rowB fw (.bare 1) (.bl b) = true :: eBl (if b = true then 1 else 0)
  rw [rowB]
  cases b <;> rfl
def eLe (x : Int) : List Bool := bitsW x.toNat 1
theorem let_row (fw : D → List Bool) (t : Str) : rowB fw (.le (Str.ofString "ba")) (.str t) = itemsRow eLe (t.cps.toList.map idxI) := by
  rw [rowB]
  show ((t.cps.toList.map fun c => true :: bitsW ((Str.ofString "ba").cps.toList.idxOf c) (blen 1)).flatten ++ [false]) = _
  unfold itemsRow
  rw [List.map_map, bl1]
  rfl
theorem eBl_sep : ∀ x y : Int, (x = 0 ∨ x = 1) → (y = 0 ∨ y = 1) → x < y → Sep (eBl x) (eBl y) := by
  rintro x y (rfl | rfl) (rfl | rfl) h
  · omega
  · exact ⟨[], [], [], rfl, rfl⟩
  · omega
  · omega
theorem eLe_sep : ∀ x y : Int, (0 ≤ x ∧ x < 2) → (0 ≤ y ∧ y < 2) → x < y → Sep (eLe x) (eLe y) := fun x y hx hy h => sep_bits (by omega) (by omega)
theorem blI_01 (d : D) : blI d = 0 ∨ blI d = 1 := by
  cases d with
  | bl b => cases b <;> simp [blI]
  | _ => exact .inl rfl
theorem idx_01 {t : Str} (h : madeOf t (Str.ofString "ba") = true) : ∀ x, x ∈ t.cps.toList.map idxI → 0 ≤ x ∧ x < 2 := fun x hx => by
  obtain ⟨c, hc, rfl⟩ := List.mem_map.mp hx
  have hm : c ∈ (Str.ofString "ba").cps.toList := of_decide_eq_true (List.all_eq_true.mp h c hc)
  have hl := List.idxOf_lt_length_iff.mpr hm
  have e : (Str.ofString "ba").cps.toList.length = 2 := by decide +kernel
  unfold idxI
  omega
theorem key_eq (ff : D → Bool) (fw : D → List Bool) (k : Fin 8) {d d' : D} (h : fitB ff (formK k) d = true) (h' : fitB ff (formK k) d' = true) (e : keyK k d = keyK k d') : rowB fw (formK k) d = rowB fw (formK k) d' := by
  rcases fin8 k with rfl | rfl | rfl | rfl | rfl | rfl | rfl | rfl
  · obtain ⟨b, rfl⟩ := fit_bl (d := d) h
    obtain ⟨b', rfl⟩ := fit_bl (d := d') h'
    have e : [if b = true then (1 : Int) else 0] = [if b' = true then (1 : Int) else 0] := e
    cases b <;> cases b' <;> first | rfl | (simp at e)
  · obtain ⟨i, rfl, _⟩ := fit_sp (d := d) h
    obtain ⟨i', rfl, _⟩ := fit_sp (d := d') h'
    have e : [i] = [i'] := e
    injection e with e
    rw [e]
  · obtain ⟨t, rfl, _, hm⟩ := fit_le (d := d) h
    obtain ⟨t', rfl, _, hm'⟩ := fit_le (d := d') h'
    show rowB fw (.le (Str.ofString "ba")) (.str t) = rowB fw (.le (Str.ofString "ba")) (.str t')
    rw [let_row, let_row]
    exact congrArg (itemsRow eLe) e
  · rcases fit_mb (d := d) h with rfl | ⟨b, rfl⟩ <;> rcases fit_mb (d := d') h' with rfl | ⟨b', rfl⟩
    · rfl
    · cases e
    · cases e
    · have e : [if b = true then (1 : Int) else 0] = [if b' = true then (1 : Int) else 0] := e
      cases b <;> cases b' <;> first | rfl | (simp at e)
  · obtain ⟨i, rfl, _⟩ := fit_wh (d := d) h
    obtain ⟨i', rfl, _⟩ := fit_wh (d := d') h'
    have e : [i] = [i'] := e
    injection e with e
    rw [e]
  · obtain ⟨i, rfl, _⟩ := fit_tu (d := d) h
    obtain ⟨i', rfl, _⟩ := fit_tu (d := d') h'
    have e : [0 - i] = [0 - i'] := e
    injection e with e
    rw [show i = i' by omega]
  · obtain ⟨bs, rfl, _⟩ := fit_my (d := d) h
    obtain ⟨bs', rfl, _⟩ := fit_my (d := d') h'
    show rowB fw (.one 1 (.bare 1)) _ = rowB fw (.one 1 (.bare 1)) _
    rw [many_row, many_row]
    exact congrArg (itemsRow eBl) e
  · rw [fit_no (d := d) h, fit_no (d := d') h']
theorem key_sep (ff : D → Bool) (fw : D → List Bool) (k : Fin 8) {d d' : D} (h : fitB ff (formK k) d = true) (h' : fitB ff (formK k) d' = true) (e : HT.lexLt (keyK k d) (keyK k d') = true) : Sep (rowB fw (formK k) d) (rowB fw (formK k) d') := by
  rcases fin8 k with rfl | rfl | rfl | rfl | rfl | rfl | rfl | rfl
  · obtain ⟨b, rfl⟩ := fit_bl (d := d) h
    obtain ⟨b', rfl⟩ := fit_bl (d := d') h'
    have e := lex_one (x := if b = true then (1 : Int) else 0) (y := if b' = true then (1 : Int) else 0) e
    show Sep (rowB fw (.bare 1) _) (rowB fw (.bare 1) _)
    rw [rowB, rowB]
    cases b <;> cases b'
    · simp at e
    · exact ⟨[], [], [], rfl, rfl⟩
    · simp at e
    · simp at e
  · obtain ⟨i, rfl, h1, h2⟩ := fit_sp (a := -2) (b := 2) (d := d) h
    obtain ⟨i', rfl, h3, h4⟩ := fit_sp (a := -2) (b := 2) (d := d') h'
    have e := lex_one (x := i) (y := i') e
    show Sep (rowB fw (.sp (-2) 2) _) (rowB fw (.sp (-2) 2) _)
    rw [rowB, rowB]
    show Sep (bitsW (i - -2).toNat (blen 4)) (bitsW (i' - -2).toNat (blen 4))
    rw [bl4]
    exact sep_bits (by omega) (by omega)
  · obtain ⟨t, rfl, _, hm⟩ := fit_le (d := d) h
    obtain ⟨t', rfl, _, hm'⟩ := fit_le (d := d') h'
    show Sep (rowB fw (.le (Str.ofString "ba")) (.str t)) (rowB fw (.le (Str.ofString "ba")) (.str t'))
    rw [let_row, let_row]
    exact items_sep eLe_sep (idx_01 hm) (idx_01 hm') e
  · rcases fit_mb (d := d) h with rfl | ⟨b, rfl⟩ <;> rcases fit_mb (d := d') h' with rfl | ⟨b', rfl⟩
    · cases e
    · exact ⟨[], [], rowB fw (.bare 1) (.bl b'), by show rowB fw (.one 0 (.bare 1)) _ = _; rw [rowB]; rfl, by show rowB fw (.one 0 (.bare 1)) _ = _; rw [rowB]; rfl⟩
    · cases e
    · have e := lex_one (x := if b = true then (1 : Int) else 0) (y := if b' = true then (1 : Int) else 0) e
      show Sep (rowB fw (.one 0 (.bare 1)) _) (rowB fw (.one 0 (.bare 1)) _)
      rw [rowB, rowB]
      show Sep (true :: rowB fw (.bare 1) (.bl b)) (true :: rowB fw (.bare 1) (.bl b'))
      rw [rowB, rowB]
      cases b <;> cases b'
      · simp at e
      · exact ⟨[true], [], [], rfl, rfl⟩
      · simp at e
      · simp at e
  · obtain ⟨i, rfl, h1⟩ := fit_wh (d := d) h
    obtain ⟨i', rfl, h2⟩ := fit_wh (d := d') h'
    have e := lex_one (x := i) (y := i') e
    show Sep (rowB fw (.bare 2) _) (rowB fw (.bare 2) _)
    rw [rowB, rowB]
    exact whl_sep e h1.1 h2.2
  · obtain ⟨i, rfl, h1, h2⟩ := fit_tu (d := d) h
    obtain ⟨i', rfl, h3, h4⟩ := fit_tu (d := d') h'
    have e := lex_one (x := 0 - i) (y := 0 - i') e
    show Sep (rowB fw (.one 2 (.sp 0 3)) _) (rowB fw (.one 2 (.sp 0 3)) _)
    rw [rowB, rowB]
    show Sep ((rowB fw (.sp 0 3) (.int i)).map (!·)) ((rowB fw (.sp 0 3) (.int i')).map (!·))
    rw [rowB, rowB]
    refine Sep.turn ?_
    show Sep (bitsW (i' - 0).toNat (blen 3)) (bitsW (i - 0).toNat (blen 3))
    rw [bl3]
    exact sep_bits (by omega) (by omega)
  · obtain ⟨bs, rfl, _⟩ := fit_my (d := d) h
    obtain ⟨bs', rfl, _⟩ := fit_my (d := d') h'
    show Sep (rowB fw (.one 1 (.bare 1)) _) (rowB fw (.one 1 (.bare 1)) _)
    rw [many_row, many_row]
    exact items_sep (P := fun x => x = 0 ∨ x = 1) eBl_sep (fun x hx => by obtain ⟨y, _, rfl⟩ := List.mem_map.mp hx; exact blI_01 y) (fun x hx => by obtain ⟨y, _, rfl⟩ := List.mem_map.mp hx; exact blI_01 y) e
  · rw [fit_no (d := d) h, fit_no (d := d') h'] at e
    cases e
/-- keys and rows stand alike -/
theorem key_tri (ff : D → Bool) (fw : D → List Bool) (k : Fin 8) {d d' : D} (h : fitB ff (formK k) d = true) (h' : fitB ff (formK k) d' = true) :
    Tri (rowB fw (formK k) d) (rowB fw (formK k) d') ∧ (keyK k d = keyK k d' ↔ rowB fw (formK k) d = rowB fw (formK k) d') ∧ (HT.lexLt (keyK k d) (keyK k d') = true ↔ Sep (rowB fw (formK k) d) (rowB fw (formK k) d')) := by
  have nsep : ∀ {x y : List Bool}, Sep x y → x ≠ y := fun s e => s.np (e ▸ List.prefix_refl _)
  have asy : ∀ {x y : List Bool}, Sep x y → ¬ Sep y x := fun s s' => by have a := sep_lt s; have b := sep_lt s'; exact List.lt_asymm a b
  rcases lex_tri (keyK k d) (keyK k d') with e | ⟨hn, h1, h2⟩ | ⟨hn, h1, h2⟩
  · have er := key_eq ff fw k h h' e
    refine ⟨.inl er, ⟨fun _ => er, fun _ => e⟩, ⟨fun z => ?_, fun s => absurd er (nsep s)⟩⟩
    rw [e, lex_irr] at z; cases z
  · have s := key_sep ff fw k h h' h1
    exact ⟨.inr (.inl s), ⟨fun z => absurd z hn, fun z => absurd z (nsep s)⟩, ⟨fun _ => s, fun _ => h1⟩⟩
  · have s := key_sep ff fw k h' h h2
    refine ⟨.inr (.inr s), ⟨fun z => absurd z hn, fun z => absurd z.symm (nsep s)⟩, ⟨fun z => ?_, fun z => absurd z (asy s)⟩⟩
    rw [h1] at z; cases z

/-- a comprehension over a tuple, place by place -/
theorem comp_tupI {K : PySem.W.Frag} {a : Addr} {xs : List V} {g : TG} {te : TE} {Q : VK} {H : Hp} {D : Addr} {σ0 : St} (fe : Nat → V) (S : St → Prop) (hz : xs.length ≤ sizeLine) (h0 : S σ0) (hD : H D = none) (hl : SqT K H a xs)
    (ht : ∀ i x, xs[i]? = some x → ∀ σ1 H1, S σ1 → Same H H1 → ∀ R : St → V → Hp → Prop, (∀ σ2, S σ2 → R σ2 (fe i) H1) → g x σ1 H1 fun σ2 H2 => te σ2 H2 fun y H3 => R σ2 y H3)
    (hq : Q (.ref D) (upd H D (.lst ((List.range xs.length).map fe)))) :
    CompGo (Itt K a) g tYes te Q σ0 H D := by
  have sq : ∀ l : List V, SqT K (upd H D (.lst l)) a xs := fun l => hl.elim (fun e => .inl (e.elim (fun e => .inl (same_new hD _ _ e)) fun ⟨o, e⟩ => .inr ⟨o, same_new hD _ _ e⟩)) .inr
  refine ⟨fun i m σ1 H2 => i ≤ xs.length ∧ m = xs.length - i ∧ S σ1 ∧ H2 = upd H D (.lst ((List.range i).map fe)), ⟨xs.length, Nat.zero_le _, rfl, h0, rfl⟩, ?_⟩
  rintro i m σ1 H2 ⟨h1, rfl, h2, rfl⟩
  have hl2 := sq ((List.range i).map fe)
  rcases Nat.lt_or_ge i xs.length with z | z
  · refine .inr ⟨⟨xs, xs[i], hl2, List.getElem?_eq_getElem z⟩, ?_⟩
    rintro x H3 ⟨rfl, hx⟩
    have hx := hx xs hl2
    refine ht i x hx σ1 _ h2 (same_new hD) (fun σ2 y H6 => ∃ ys m', H6 D = some (.lst ys) ∧ ys.length < sizeLine ∧ m' < xs.length - i ∧ (i + 1 ≤ xs.length ∧ m' = xs.length - (i + 1) ∧ S σ2 ∧ upd H6 D (.lst (ys ++ [y])) = upd H D (.lst ((List.range (i + 1)).map fe)))) fun σ2 q3 => ?_
    refine ⟨_, xs.length - (i + 1), upd_same, by rw [List.length_map, List.length_range]; omega, by omega, by omega, rfl, q3, ?_⟩
    rw [upd_upd', List.range_succ, List.map_append]; rfl
  · have e : i = xs.length := by omega
    subst e
    exact .inl ⟨⟨xs, hl2, Nat.le_refl _⟩, hq⟩
def spKey (ff : D → Bool) : Sp := fun vs H Q _ => ∃ (k : Fin 8) (v : V) (d : D), vs = [.str (wordK k), v] ∧ DAt H d v ∧ fitB ff (formK k) d = true ∧ ∀ r, H r = none → Q (.ref r) (upd H r (.lst ((keyK k d).map V.int)))
theorem range_map {α β : Type} (f : Nat → β) (l : List α) (g : α → β) (h : ∀ i x, l[i]? = some x → f i = g x) : (List.range l.length).map f = l.map g := by
  apply List.ext_getElem
  · simp
  · intro i h1 h2
    have h3 : i < l.length := by simpa using h2
    rw [List.getElem_map, List.getElem_map, List.getElem_range]
    exact h i _ (List.getElem?_eq_getElem h3)
theorem ok_law_key {f : Addr} {fd : FuncData} {ff : D → Bool} (nb : NB mg) (F : FunAt K mg "_law_key" s_law_key ["_law_word", "_law_value_here"] f fd) : DefOk P w K mg base 1 "_law_key" ["_law_word", "_law_value_here"] (spKey ff) := by
  refine F.ok sc_law_key (fun vs H Q E h => ?_) (fun cdv A outer s H vs Q E hr h => ?_)
  · obtain ⟨_, _, _, rfl, _⟩ := h; rfl
  obtain ⟨k, v, d, rfl, hd, hf, q⟩ := h
  refine ⟨_, (pss_cons (ps_if (pt_cmpR oEq (pv 0) pe_str (nomark _)) (pss_one (ps_ret (pe_comp ["_law_sign"] [] rfl (by decide +kernel) trivial (piAllT (pv 1)) (fun _ _ _ _ _ => (pg_name (i := 0) (show (["_law_sign"] : List Str).Nodup by decide +kernel) rfl (by first | exact Or.inl rfl | exact Or.inr rfl))) (fun _ _ _ _ _ => pts_nil) (fun _ _ _ _ _ => (pe_bm PySem.F.plainAttrs_str PySem.F.slot_str_index PySem.F.type_str_index mt_sindexE pe_str (pa_cons (pv 0) pa_nil)))))) pss_nil)
    (pss_cons (ps_if (PW.pt (pw_or (pt_cmpR oEq (pv 0) pe_str (nomark _)) (pw_or1 (pt_cmpR oEq (pv 0) pe_str (nomark _))))) (pss_one (ps_ret (pe_comp ["_law_one"] [] rfl (by decide +kernel) trivial (piAllT (pv 1)) (fun _ _ _ _ _ => (pg_name (i := 0) (show (["_law_one"] : List Str).Nodup by decide +kernel) rfl (by first | exact Or.inl rfl | exact Or.inr rfl))) (fun _ _ _ _ _ => pts_nil) (fun _ _ _ _ _ => (pe_callTy call_intA rfl nb.int_ bo_int (pa_cons (pv 0) pa_nil)))))) pss_nil)
    (pss_cons (ps_if (pt_cmpR oEq (pv 0) pe_str (nomark _)) (pss_one (ps_ret (pe_lst (pa_cons (pe_op oSub pe_int (pv 1)) pa_nil)))) pss_nil)
    (pss_cons (ps_if (pt_cmpR oEq (pv 0) pe_str (nomark _)) (pss_one (ps_ret (pe_lst pa_nil))) pss_nil)
    (pss_one (ps_ret (pe_lst (pa_cons (pe_callTy call_intA rfl nb.int_ bo_int (pa_cons (pv 1) pa_nil)) pa_nil)))))))), ?_⟩
  have fin : ∀ (l : List Int), l = keyK k d → ∀ r, H r = none → ∃ H'', Sub H H'' (upd H r (.lst (l.map V.int))) ∧ Q (.ref r) H'' := fun l hl r hr => by
    rw [hl]
    exact ⟨_, .new hr (same_new hr) upd_same trivial, q r hr⟩
  rcases fin8 k with rfl | rfl | rfl | rfl | rfl | rfl | rfl | rfl
  · iterate 5 refine ⟨_, rfl, rfl, _, rfl, iteN (by decide +kernel) ?_⟩
    obtain ⟨b, rfl⟩ := fit_bl (d := d) hf
    obtain rfl : v = .bl b := hd
    exact ⟨_, rfl, .inl (.inr ⟨b, rfl, one_ok, fun r hr => fin [if b = true then 1 else 0] rfl r hr⟩)⟩
  · iterate 5 refine ⟨_, rfl, rfl, _, rfl, iteN (by decide +kernel) ?_⟩
    obtain ⟨i, rfl, _⟩ := fit_sp (a := -2) (b := 2) (d := d) hf
    obtain rfl : v = .int i := hd
    exact ⟨_, rfl, .inl (.inl ⟨i, rfl, one_ok, fun r hr => fin [i] rfl r hr⟩)⟩
  · refine ⟨_, rfl, rfl, _, rfl, iteY (by decide +kernel) ?_⟩
    obtain ⟨t, rfl, ht, hm⟩ := fit_le (d := d) hf
    obtain ⟨rfl, htl⟩ := hd
    refine .inl (.inr ⟨_, rfl, t, rfl, fun D1 hD1 => ?_⟩)
    refine comp_str (fun c => V.int (idxI c)) (fun σ => ∃ z, σ = [z]) (small5 htl) ⟨_, rfl⟩ hD1 ?_ ?_
    · rintro ch hc σ1 H1 ⟨z, rfl⟩ hs1 R hR
      exact ⟨rfl, _, rfl, _, ch, rfl, rfl, of_decide_eq_true (List.all_eq_true.mp hm ch hc), hR _ ⟨_, rfl⟩⟩
    · have e : t.cps.toList.map (fun c => V.int (idxI c)) = (t.cps.toList.map idxI).map V.int := by rw [List.map_map]; rfl
      rw [e]
      exact fin _ rfl D1 hD1
  · refine ⟨_, rfl, rfl, _, rfl, iteN (by decide +kernel) ⟨_, rfl, rfl, _, rfl, iteY (by decide +kernel) ?_⟩⟩
    obtain ⟨ds, rfl, hb⟩ : ∃ ds, d = .tup ds ∧ ∀ x, x ∈ ds → ∃ b, x = .bl b := by
      rcases fit_mb (d := d) hf with rfl | ⟨b, rfl⟩
      · exact ⟨[], rfl, fun x hx => nomatch hx⟩
      · exact ⟨_, rfl, fun x hx => ⟨b, List.mem_singleton.mp hx⟩⟩
    obtain ⟨a, vs, rfl, ea, hds, hvl⟩ := hd
    have hlen := DsAt.len ds hds
    refine .inr ⟨_, rfl, a, rfl, ⟨_, SqT.of ea⟩, fun D1 hD1 => ?_⟩
    refine comp_tupI (xs := vs) (fun i => V.int (blI (ds.getD i .non))) (fun σ => ∃ z, σ = [z]) (small5 (by omega)) ⟨_, rfl⟩ hD1 (SqT.of ea) ?_ ?_
    · rintro i x hx σ1 H1 ⟨z, rfl⟩ hs1 R hR
      obtain ⟨dk, hdk, hxk⟩ := DsAt.get ds hds hx
      obtain ⟨b, rfl⟩ := hb dk (List.mem_of_getElem? hdk)
      have e : ds.getD i .non = .bl b := by rw [List.getD_eq_getElem?_getD, hdk]; rfl
      rw [e] at hR
      obtain rfl : x = .bl b := hxk
      exact ⟨_, rfl, .inl (.inr ⟨b, rfl, hR _ ⟨_, rfl⟩⟩)⟩
    · have e : (List.range vs.length).map (fun i => V.int (blI (ds.getD i .non))) = (ds.map blI).map V.int := by
        rw [hlen, List.map_map]
        exact range_map _ ds _ fun i x hx => by rw [List.getD_eq_getElem?_getD, hx]; rfl
      rw [e]
      exact fin _ rfl D1 hD1
  · iterate 5 refine ⟨_, rfl, rfl, _, rfl, iteN (by decide +kernel) ?_⟩
    obtain ⟨i, rfl, _⟩ := fit_wh (d := d) hf
    obtain rfl : v = .int i := hd
    exact ⟨_, rfl, .inl (.inl ⟨i, rfl, one_ok, fun r hr => fin [i] rfl r hr⟩)⟩
  · iterate 3 refine ⟨_, rfl, rfl, _, rfl, iteN (by decide +kernel) ?_⟩
    refine ⟨_, rfl, rfl, _, rfl, iteY (by decide +kernel) ?_⟩
    obtain ⟨i, rfl, _⟩ := fit_tu (d := d) hf
    obtain rfl : v = .int i := hd
    exact ⟨_, rfl, _, _, rfl, rfl, one_ok, fun r hr => fin [0 - i] rfl r hr⟩
  · iterate 2 refine ⟨_, rfl, rfl, _, rfl, iteN (by decide +kernel) ?_⟩
    refine ⟨_, rfl, rfl, _, rfl, iteY (by decide +kernel) ?_⟩
    obtain ⟨bs, rfl, _⟩ := fit_my (d := d) hf
    obtain ⟨a, vs, rfl, ea, hds, hvl⟩ := hd
    have hlen := DsAt.len _ hds
    refine .inl (.inl ⟨_, rfl, a, rfl, ⟨_, SqL.of ea⟩, fun D1 hD1 => ?_⟩)
    refine comp_listI (K := K) (a := a) (xs := vs) (fun i => V.int (blI ((bs.map D.bl).getD i .non))) (fun σ => ∃ z, σ = [z]) (small5 (by omega)) ⟨_, rfl⟩ hD1 (SqL.of ea) ?_ ?_
    · rintro i x hx σ1 H1 ⟨z, rfl⟩ hs1 R hR
      obtain ⟨dk, hdk, hxk⟩ := DsAt.get _ hds hx
      have e : (bs.map D.bl).getD i .non = dk := by rw [List.getD_eq_getElem?_getD, hdk]; rfl
      rw [e] at hR
      obtain ⟨b, _, rfl⟩ := List.mem_map.mp (List.mem_of_getElem? hdk)
      obtain rfl : x = .bl b := hxk
      exact ⟨_, rfl, .inl (.inr ⟨b, rfl, hR _ ⟨_, rfl⟩⟩)⟩
    · have e : (List.range vs.length).map (fun i => V.int (blI ((bs.map D.bl).getD i .non))) = ((bs.map D.bl).map blI).map V.int := by
        rw [hlen]
        generalize bs.map D.bl = es
        rw [List.map_map]
        exact range_map _ es _ fun i x hx => by rw [List.getD_eq_getElem?_getD, hx]; rfl
      rw [e]
      exact fin _ rfl D1 hD1
  · iterate 4 refine ⟨_, rfl, rfl, _, rfl, iteN (by decide +kernel) ?_⟩
    refine ⟨_, rfl, rfl, _, rfl, iteY (by decide +kernel) ?_⟩
    exact ⟨Nat.zero_le _, fun r hr => fin [] rfl r hr⟩
/-- what the law starts from -/
structure S4 (ff : D → Bool) (ks : List (Fin 8)) (H : Hp) (lf tl th : Addr) (wf wl wh : List V) (ds dl dh : List D) : Prop where
  f : H lf = some (.lst wf)
  d : DsAt H ds wf
  l : ds.length < ks.length
  t : fitFst ff (formsK ks) ds = true
  p : dhts ds ≤ 4
  pel : H tl = some (.tup wl)
  pdl : DsAt H dl wl
  pll : dl.length ≤ 1
  ptl : dl.all (fitOne ff (formsK ks) ds) = true
  peh : H th = some (.tup wh)
  pdh : DsAt H dh wh
  plh : dh.length ≤ 1
  pth : dh.all (fitOne ff (formsK ks) ds) = true
theorem S4.same {ff : D → Bool} {ks : List (Fin 8)} {H H' : Hp} {lf tl th : Addr} {wf wl wh : List V} {ds dl dh : List D} (b : S4 ff ks H lf tl th wf wl wh ds dl dh) (s : Same H H') : S4 ff ks H' lf tl th wf wl wh ds dl dh :=
  ⟨s _ _ b.f, DsAt.same s _ b.d, b.l, b.t, b.p, s _ _ b.pel, DsAt.same s _ b.pdl, b.pll, b.ptl, s _ _ b.peh, DsAt.same s _ b.pdh, b.plh, b.pth⟩
def wordsV (ks : List (Fin 8)) : List V := ks.map fun k => V.str (wordK k)
def spStart (K : PySem.W.Frag) (ff : D → Bool) : Sp := fun vs H Q _ => ∃ (a rw : Addr) (ns : List Int) (ks : List (Fin 8)), vs = [.ref a, .ref rw] ∧ SqL K H a (ns.map V.int) ∧ ns.length ≤ 63 ∧ H rw = some (.lst (wordsV ks)) ∧ 0 < ks.length ∧ ks.length ≤ 20 ∧
  ∀ r lf tl th wf wl wh ds dl dh H', Ext H H' → H' r = some (.lst [.ref lf, .ref tl, .ref th]) → S4 ff ks H' lf tl th wf wl wh ds dl dh → Q (.ref r) H'
/-- the first values so far -/
structure B4 (ff : D → Bool) (H0 : Hp) (ks : List (Fin 8)) (rw lf : Addr) (H : Hp) (wf : List V) (ds : List D) : Prop where
  x : Ext H0 H
  w : H rw = some (.lst (wordsV ks))
  f : H lf = some (.lst wf)
  d : DsX [lf] H ds wf
  t : ∀ i, i < ds.length → fitB ff ((formsK ks).getD i (.bare 0)) (ds.getD i .non) = true
  p : dhts ds ≤ 4
theorem B4.ext {ff : D → Bool} {H0 H H' : Hp} {ks : List (Fin 8)} {rw lf : Addr} {wf : List V} {ds : List D} (b : B4 ff H0 ks rw lf H wf ds) (s : Ext H H') : B4 ff H0 ks rw lf H' wf ds :=
  ⟨b.x.trans s, s.s _ _ b.w, s.s _ _ b.f, b.d.same s.s, b.t, b.p⟩
theorem B4.snoc {ff : D → Bool} {H0 H : Hp} {ks : List (Fin 8)} {rw lf : Addr} {wf : List V} {ds : List D} {kw : Fin 8} {v : V} {d : D} (b : B4 ff H0 ks rw lf H wf ds) (h0 : H0 lf = none) (hr : rw ≠ lf) (hk : ks[ds.length]? = some kw) (hd : DX [lf] H d v) (hf : fitB ff (formK kw) d = true) (hp : dht d ≤ 4) : B4 ff H0 ks rw lf (upd H lf (.lst (wf ++ [v]))) (wf ++ [v]) (ds ++ [d]) := by
  have kk : ∀ b u, b ≠ lf → H b = some u → upd H lf (.lst (wf ++ [v])) b = some u := fun b u nb e => by rw [upd_ne nb]; exact e
  have kx : ∀ b u, b ∉ [lf] → H b = some u → upd H lf (.lst (wf ++ [v])) b = some u := fun b u nb e => kk b u (fun z => nb (List.mem_singleton.mpr z)) e
  have hwl := DsAt.len ds (DsX.at ds b.d)
  refine ⟨Ext.set h0 b.x b.f, ?_, upd_same, DsX.keep kx _ (DsX.snoc hd ds b.d), fun i hi => ?_, dhts_app b.p (dhts_one hp)⟩
  · exact kk _ _ hr b.w
  · rcases Nat.lt_or_ge i ds.length with y | y
    · have e : (ds ++ [d]).getD i .non = ds.getD i .non := by rw [List.getD_eq_getElem?_getD, List.getElem?_append_left y, ← List.getD_eq_getElem?_getD]
      rw [e]; exact b.t i y
    · rw [List.length_append, List.length_singleton] at hi
      have : i = ds.length := by omega
      subst this
      have e : (ds ++ [d]).getD ds.length .non = d := by rw [List.getD_eq_getElem?_getD, List.getElem?_append_right (Nat.le_refl _), Nat.sub_self]; rfl
      rw [e, formsK_get hk]; exact hf
set_option maxHeartbeats 1000000 in
theorem ok_law_start {f : Addr} {fd : FuncData} {ff : D → Bool} (nb : NB mg) (F : FunAt K mg "_law_start" s_law_start ["_law_script", "_law_words_here"] f fd) (D_law_cell_at : DefOk P w K mg base 1 "_law_cell_at" ["_law_script", "_law_k"] (spCellAt K)) (D_law_mixed : DefOk P w K mg base 1 "_law_mixed" ["_law_cell", "_law_k"] spMixed) (D_law_value : DefOk P w K mg base 1 "_law_value" ["_law_word", "_law_number"] (spValK ff)) : DefOk P w K mg base 2 "_law_start" ["_law_script", "_law_words_here"] (spStart K ff) := by
  refine F.ok sc_law_start (fun vs H Q E h => ?_) (fun cdv A outer s H vs Q E hr h => ?_)
  · obtain ⟨_, _, _, _, rfl, _⟩ := h; rfl
  obtain ⟨a, rw, ns, ks, rfl, hS, hl, hw, hk0, hk20, q⟩ := h
  have lk : ((wordsV ks).length : Int) = ((ks.length : Nat) : Int) := by unfold wordsV; rw [List.length_map]
  have wat : ∀ {i : Nat} {kw : Fin 8}, ks[i]? = some kw → atI (wordsV ks) ((i : Nat) : Int) = some (.str (wordK kw)) := fun h => atI_nat (by unfold wordsV; rw [List.getElem?_map, h]; rfl)
  refine ⟨_, (pss_cons (ps_set (i := 2) sc_law_start.nd rfl (by first | exact Or.inl rfl | exact Or.inr rfl) (pe_callD D_law_mixed hr (pa_cons (pe_callD D_law_cell_at hr (pa_cons (pv 0) (pa_cons pe_int pa_nil))) (pa_cons pe_int pa_nil))))
    (pss_cons (ps_set (i := 3) sc_law_start.nd rfl (by first | exact Or.inl rfl | exact Or.inr rfl) (pe_lst pa_nil))
    (pss_cons (ps_for PassesOwn.never rfl (pi_range1 rfl nb.range_ (pa_cons (pe_op op_mod (pv 2) (pe_callB call_len rfl nb.len_ bo_len (pa_cons (pv 1) pa_nil))) pa_nil)) (pg_name (i := 4) sc_law_start.nd rfl (by first | exact Or.inl rfl | exact Or.inr rfl))
      (pss_cons (ps_set (i := 5) sc_law_start.nd rfl (by first | exact Or.inl rfl | exact Or.inr rfl) (pe_callD D_law_mixed hr (pa_cons (pe_callD D_law_cell_at hr (pa_cons (pv 0) (pa_cons (pe_op oAdd pe_int (pv 4)) pa_nil))) (pa_cons pe_int pa_nil))))
      (pss_cut (ps_if (pt_cmpR oEq (pe_op op_mod (pe_callD D_law_cell_at hr (pa_cons (pv 0) (pa_cons pe_int pa_nil))) pe_int) pe_int (nomark _)) (pss_one (ps_set (i := 5) sc_law_start.nd rfl (by first | exact Or.inl rfl | exact Or.inr rfl) (pe_op op_shr (pe_callD D_law_cell_at hr (pa_cons (pv 0) (pa_cons pe_int pa_nil))) (pe_op oMul pe_int (pv 4))))) pss_nil)
      (pss_one (ps_expr (pe_bm PySem.F.plainAttrs_list PySem.F.slot_list_append PySem.F.type_list_append mt_append (pv 3) (pa_cons (pe_callD D_law_value hr (pa_cons (pe_ix iAll (pv 1) (pv 4) (fun _ _ => rfl)) (pa_cons (pv 5) pa_nil))) pa_nil)))))))
    (pss_cons (ps_set (i := 6) sc_law_start.nd rfl (by first | exact Or.inl rfl | exact Or.inr rfl) (pe_ix iAll (pv 1) (pe_callB call_len rfl nb.len_ bo_len (pa_cons (pv 3) pa_nil)) (fun _ _ => rfl)))
    (pss_cons (ps_set (i := 7) sc_law_start.nd rfl (by first | exact Or.inl rfl | exact Or.inr rfl) (pe_tup pa_nil))
    (pss_cons (ps_set (i := 8) sc_law_start.nd rfl (by first | exact Or.inl rfl | exact Or.inr rfl) (pe_tup pa_nil))
    (pss_cut (ps_if (pt_cmpR oEq (pe_op op_mod (pe_op op_fdiv (pv 2) pe_int) pe_int) pe_int (nomark _)) (pss_one (ps_set (i := 7) sc_law_start.nd rfl (by first | exact Or.inl rfl | exact Or.inr rfl) (pe_tup (pa_cons (pe_callD D_law_value hr (pa_cons (pv 6) (pa_cons (pe_callD D_law_mixed hr (pa_cons (pe_callD D_law_cell_at hr (pa_cons (pv 0) (pa_cons pe_int pa_nil))) (pa_cons pe_int pa_nil))) pa_nil))) pa_nil)))) pss_nil)
    (pss_cut (ps_if (pt_cmpR oEq (pe_op op_mod (pe_op op_fdiv (pv 2) pe_int) pe_int) pe_int (nomark _)) (pss_one (ps_set (i := 8) sc_law_start.nd rfl (by first | exact Or.inl rfl | exact Or.inr rfl) (pe_tup (pa_cons (pe_callD D_law_value hr (pa_cons (pv 6) (pa_cons (pe_callD D_law_mixed hr (pa_cons (pe_callD D_law_cell_at hr (pa_cons (pv 0) (pa_cons pe_int pa_nil))) (pa_cons pe_int pa_nil))) pa_nil))) pa_nil)))) pss_nil)
    (pss_one (ps_ret (pe_lst (pa_cons (pv 3) (pa_cons (pv 7) (pa_cons (pv 8) pa_nil)))))))))))))), ?_⟩
  refine ⟨_, rfl, a, ns, 1, rfl, hS, hl, _, _, rfl, fun num hn0 hn1 => ?_⟩
  refine ⟨Nat.zero_le _, fun lf hlf => ?_⟩
  obtain ⟨m, hm, em⟩ := mod_nat5 num ks.length hk0
  have s1 := same_new (o := HO.lst []) hlf
  have nl : rw ≠ lf := fun z => by rw [← z, hw] at hlf; cases hlf
  refine ⟨_, rfl, _, rfl, _, _, rfl, .inl ⟨_, SqL.of (s1 _ _ hw), rfl⟩, _, _, rfl, rfl, (by rw [lk]; omega), _, rfl, (by rw [lk, em]; omega), (by rw [lk, em]; omega), ?_⟩
  rw [lk, em, show (((m : Nat) : Int)).toNat = m by omega]
  refine for_range (fun i σ H4 => ∃ (ds : List D) (wf : List V) (z5 z6 : Option V), σ = [some (.ref a), some (.ref rw), some (.int num), some (.ref lf), z5, z6, none, none, none] ∧ ds.length = i ∧ B4 ff H ks rw lf H4 wf ds) ?_ ?_ ?_
  · exact ⟨[], [], _, _, rfl, rfl, Ext.lst hlf, s1 _ _ hw, upd_same, rfl, (fun i hi => absurd hi (Nat.not_lt_zero _)), by rw [dhts]; decide⟩
  · rintro i σ H4 hi ⟨ds, wf, z5, z6, rfl, hdl, B⟩
    rw [Int.zero_add]
    obtain ⟨kw, hkw⟩ : ∃ kw, ks[i]? = some kw := ⟨_, List.getElem?_eq_getElem (by omega)⟩
    have hS4 := B.x.s.seq hS
    refine ⟨_, rfl, _, rfl, .inl ⟨_, _, rfl, rfl, a, ns, 2 + i, (by rw [show ((2 + i : Nat) : Int) = 2 + (i : Int) by omega]; rfl), hS4, hl, _, _, rfl, fun v _ _ => ?_⟩⟩
    refine ⟨fun σ' H' => H' = H4 ∧ ∃ ot : Int, σ' = [some (.ref a), some (.ref rw), some (.int num), some (.ref lf), some (.int ((i : Nat) : Int)), some (.int ot), none, none, none], ?_, ?_⟩
    · refine ⟨_, rfl, a, ns, 0, rfl, hS4, hl, _, _, rfl, rfl, (by show (0 : Int) < 2; decide), rfl, _, rfl, iteD (fun c1 => ?_) (fun c1 => ⟨rfl, _, rfl⟩)⟩
      exact ⟨_, rfl, a, ns, 1, rfl, hS4, hl, _, rfl, .inl ⟨_, _, rfl, rfl, .inl ⟨by decide, by decide⟩, _, _, rfl, rfl, (by show (0 : Int) ≤ _; omega), rfl, _, rfl⟩⟩
    · rintro σ' H' ⟨rfl, ot, rfl⟩
      refine ⟨_, rfl, .inl ⟨rfl, _, SqL.of B.f⟩, _, rfl, _, rfl, .inl (.inl ⟨_, _, _, _, rfl, rfl, SqL.of B.w, wat hkw, _, rfl, kw, ot, [lf], rfl, in_one B.f, fun vv d H5 X5 hd _ hft hdp => ?_⟩)⟩
      have B' := B.ext X5
      have hwl := DsAt.len ds (DsX.at ds B.d)
      refine ⟨lf, _, _, rfl, rfl, B'.f, Nat.lt_of_lt_of_le (show wf.length < 100000 by omega) (by decide), ?_⟩
      exact ⟨ds ++ [d], wf ++ [vv], _, _, rfl, by rw [List.length_append, hdl]; rfl, B'.snoc hlf nl (by rw [hdl]; exact hkw) hd hft hdp⟩
  rintro σ H4 ⟨ds, wf, z5, z6, rfl, hdl, B⟩
  have hwl := DsAt.len ds (DsX.at ds B.d)
  obtain ⟨kw, hkw⟩ : ∃ kw, ks[ds.length]? = some kw := ⟨_, List.getElem?_eq_getElem (by omega)⟩
  have hfk := formsK_get hkw
  refine ⟨_, rfl, _, rfl, _, _, rfl, .inl ⟨_, SqL.of B.f, rfl⟩, .inl (.inl ⟨_, _, _, _, rfl, rfl, SqL.of B.w, (by rw [hwl]; exact wat hkw), ?_⟩)⟩
  refine ⟨Nat.zero_le _, fun t0 ht0 => ⟨Nat.zero_le _, fun t1 ht1 => ?_⟩⟩
  have Y1 := Ext.tup (xs := []) ht0
  have Y2 := Y1.trans (Ext.tup (xs := []) ht1)
  have B2 := B.ext Y2
  refine ⟨fun σ' H' => B4 ff H ks rw lf H' wf ds ∧ H' t1 = some (.tup []) ∧ ∃ (tl : Addr) (wl : List V) (dl : List D), σ' = [some (.ref a), some (.ref rw), some (.int num), some (.ref lf), z5, z6, some (.str (wordK kw)), some (.ref tl), some (.ref t1)] ∧ H' tl = some (.tup wl) ∧ DsX [lf] H' dl wl ∧ dl.length ≤ 1 ∧ dl.all (fitOne ff (formsK ks) ds) = true, ?_, ?_⟩
  · refine ⟨_, rfl, _, _, rfl, rfl, ⟨by decide, by decide⟩, _, _, rfl, rfl, (by show (0 : Int) < 2; decide), rfl, _, rfl, iteD (fun c1 => ?_) (fun c1 => ⟨B2, upd_same, t0, [], [], rfl, (Ext.tup ht1).s _ _ upd_same, rfl, Nat.zero_le _, rfl⟩)⟩
    refine ⟨_, rfl, _, rfl, a, ns, 7, rfl, B2.x.s.seq hS, hl, _, _, rfl, fun v _ _ => ⟨kw, v, [lf], rfl, in_one B2.f, fun vv d H5 X5 hd _ hft hdp => ⟨one_ok, fun t ht => ?_⟩⟩⟩
    have X6 := X5.trans (Ext.tup (xs := [vv]) ht)
    refine ⟨B2.ext X6, X6.s _ _ upd_same, t, [vv], [d], rfl, upd_same, ⟨vv, [], rfl, hd.same (same_new ht), rfl⟩, Nat.le_refl _, ?_⟩
    rw [List.all_cons, List.all_nil, Bool.and_true]
    unfold fitOne
    rw [hfk]; exact hft
  rintro σ5 H5 ⟨B5, h51, tl, wl, dl, rfl, etl, hdl5, hll, hfl⟩
  refine ⟨fun σ' H' => B4 ff H ks rw lf H' wf ds ∧ ∃ (th : Addr) (wh : List V) (dh : List D), σ' = [some (.ref a), some (.ref rw), some (.int num), some (.ref lf), z5, z6, some (.str (wordK kw)), some (.ref tl), some (.ref th)] ∧ H' tl = some (.tup wl) ∧ DsX [lf] H' dl wl ∧ H' th = some (.tup wh) ∧ DsX [lf] H' dh wh ∧ dh.length ≤ 1 ∧ dh.all (fitOne ff (formsK ks) ds) = true, ?_, ?_⟩
  · refine ⟨_, rfl, _, _, rfl, rfl, ⟨by decide, by decide⟩, _, _, rfl, rfl, (by show (0 : Int) < 2; decide), rfl, _, rfl, iteD (fun c1 => ?_) (fun c1 => ⟨B5, t1, [], [], rfl, etl, hdl5, h51, rfl, Nat.zero_le _, rfl⟩)⟩
    refine ⟨_, rfl, _, rfl, a, ns, 8, rfl, B5.x.s.seq hS, hl, _, _, rfl, fun v _ _ => ⟨kw, v, [lf], rfl, in_one B5.f, fun vv d H6 X5 hd _ hft hdp => ⟨one_ok, fun t ht => ?_⟩⟩⟩
    have X6 := X5.trans (Ext.tup (xs := [vv]) ht)
    refine ⟨B5.ext X6, t, [vv], [d], rfl, X6.s _ _ etl, hdl5.same X6.s, upd_same, ⟨vv, [], rfl, hd.same (same_new ht), rfl⟩, Nat.le_refl _, ?_⟩
    rw [List.all_cons, List.all_nil, Bool.and_true]
    unfold fitOne
    rw [hfk]; exact hft
  rintro σ6 H6 ⟨B6, th, wh, dh, rfl, etl6, hdl6, eth, hdh, hlh, hfh⟩
  refine ⟨_, rfl, _, rfl, _, rfl, (by show 3 ≤ sizeLine; decide), fun r hr => ?_⟩
  have X7 := B6.x.trans (Ext.lst (xs := [V.ref lf, .ref tl, .ref th]) hr)
  have s7 := same_new (o := HO.lst [V.ref lf, .ref tl, .ref th]) hr
  refine ⟨_, X7.sub, q r lf tl th wf wl wh ds dl dh _ X7 upd_same ?_⟩
  exact S4.same ⟨B6.f, DsX.at ds B6.d, by omega, List.all_eq_true.mpr fun i hi => B6.t i (List.mem_range.mp hi), B6.p, etl6, DsX.at dl hdl6, hll, hfl, eth, DsX.at dh hdh, hlh, hfh⟩ s7

theorem cut_from (xs : List V) (k : Nat) (h : k ≤ xs.length) : cutV xs (some ((k : Nat) : Int)) none = xs.drop k := by
  unfold cutV
  rw [HT.sIx_nat, HT.sIx_none, Nat.min_eq_left h]
  exact List.take_of_length_le (by rw [List.length_drop]; exact Nat.le_refl _)
theorem DsAt.drop {H : Hp} : ∀ (n : Nat) (ds : List D) {vs : List V}, DsAt H ds vs → DsAt H (ds.drop n) (vs.drop n)
  | 0, ds, vs, h => h
  | n + 1, [], vs, h => by
    obtain rfl : vs = [] := h
    exact rfl
  | n + 1, d :: ds, vs, h => by
    obtain ⟨v, r, rfl, _, q⟩ := h
    exact DsAt.drop n ds q
theorem dhts_drop {n : Nat} : ∀ (k : Nat) (ds : List D), dhts ds ≤ n → dhts (ds.drop k) ≤ n
  | 0, _, h => h
  | k + 1, [], h => h
  | k + 1, d :: ds, h => by
    rw [dhts] at h
    exact dhts_drop k ds (by omega)
def FitV (ff : D → Bool) (ks : List (Fin 8)) (es : List D) : Prop := es.length = ks.length ∧ ∀ i, i < es.length → fitB ff ((formsK ks).getD i (.bare 0)) (es.getD i .non) = true
theorem FitV.mix {ff : D → Bool} {ks : List (Fin 8)} {es ds : List D} (h : FitV ff ks es) (hl : ds.length < ks.length) (ht : fitFst ff (formsK ks) ds = true) : FitV ff ks (ds ++ es.drop ds.length) := by
  obtain ⟨h1, h2⟩ := h
  have hle : (ds ++ es.drop ds.length).length = ks.length := by rw [List.length_append, List.length_drop]; omega
  refine ⟨hle, fun i hi => ?_⟩
  rcases Nat.lt_or_ge i ds.length with y | y
  · have e : (ds ++ es.drop ds.length).getD i .non = ds.getD i .non := by rw [List.getD_eq_getElem?_getD, List.getElem?_append_left y, ← List.getD_eq_getElem?_getD]
    rw [e]
    exact List.all_eq_true.mp ht i (List.mem_range.mpr y)
  · have e : (ds ++ es.drop ds.length).getD i .non = es.getD i .non := by
      rw [List.getD_eq_getElem?_getD, List.getElem?_append_right y, List.getElem?_drop, show ds.length + (i - ds.length) = i by omega, ← List.getD_eq_getElem?_getD]
    rw [e]
    exact h2 i (by omega)
def spDrawn (K : PySem.W.Frag) (ff : D → Bool) : Sp := fun vs H Q _ => ∃ (a rw lf : Addr) (ns : List Int) (ks : List (Fin 8)) (wf : List V) (ds : List D) (k : Nat), vs = [.ref a, .ref rw, .ref lf, .int ((k : Nat) : Int)] ∧ SqL K H a (ns.map V.int) ∧ ns.length ≤ 63 ∧ k < ns.length ∧ H rw = some (.lst (wordsV ks)) ∧ 0 < ks.length ∧ ks.length ≤ 20 ∧ H lf = some (.lst wf) ∧ DsAt H ds wf ∧ ds.length < ks.length ∧ fitFst ff (formsK ks) ds = true ∧ dhts ds ≤ 4 ∧
  ∀ T es ws H', Ext H H' → H' T = some (.tup ws) → DsAt H' es ws → FitV ff ks es → dhts es ≤ 4 → Q (.ref T) H'
set_option maxHeartbeats 1000000 in
theorem ok_law_drawn {f : Addr} {fd : FuncData} {ff : D → Bool} (nb : NB mg) (F : FunAt K mg "_law_drawn" s_law_drawn ["_law_script", "_law_words_here", "_law_first", "_law_k"] f fd) (D_law_cell_at : DefOk P w K mg base 1 "_law_cell_at" ["_law_script", "_law_k"] (spCellAt K)) (D_law_mixed : DefOk P w K mg base 1 "_law_mixed" ["_law_cell", "_law_k"] spMixed) (D_law_value : DefOk P w K mg base 1 "_law_value" ["_law_word", "_law_number"] (spValK ff)) : DefOk P w K mg base 2 "_law_drawn" ["_law_script", "_law_words_here", "_law_first", "_law_k"] (spDrawn K ff) := by
  refine F.ok sc_law_drawn (fun vs H Q E h => ?_) (fun cdv A outer s H vs Q E hr h => ?_)
  · obtain ⟨_, _, _, _, _, _, _, _, rfl, _⟩ := h; rfl
  obtain ⟨a, rw, lf, ns, ks, wf, ds, k, rfl, hS, hl, hk, hw, hk0, hk20, hlf, hds, hdl, hft, hdp, q⟩ := h
  have lk : ((wordsV ks).length : Int) = ((ks.length : Nat) : Int) := by unfold wordsV; rw [List.length_map]
  have wat : ∀ {i : Nat} {kw : Fin 8}, ks[i]? = some kw → atI (wordsV ks) ((i : Nat) : Int) = some (.str (wordK kw)) := fun h => atI_nat (by unfold wordsV; rw [List.getElem?_map, h]; rfl)
  have sat : atI (ns.map V.int) ((k : Nat) : Int) = some (.int ns[k]) := atI_nat (by rw [List.getElem?_map, List.getElem?_eq_getElem hk]; rfl)
  refine ⟨_, (pss_cons (ps_set (i := 4) sc_law_drawn.nd rfl (by first | exact Or.inl rfl | exact Or.inr rfl) (pe_cmpR oEq (pe_op op_mod (pe_callD D_law_cell_at hr (pa_cons (pv 0) (pa_cons pe_int pa_nil))) pe_int) pe_int (nomark _)))
    (pss_cons (ps_set (i := 5) sc_law_drawn.nd rfl (by first | exact Or.inl rfl | exact Or.inr rfl) (pe_ix iAll (pe_lst (pa_cons (pe_callD D_law_mixed hr (pa_cons (pe_ix iAll (pv 0) (pv 3) (fun _ _ => rfl)) (pa_cons (pe_op oAdd3 pe_int (pv 3)) pa_nil))) (pa_cons (pe_ix iAll (pv 0) (pv 3) (fun _ _ => rfl)) pa_nil))) (pe_callTy call_intA rfl nb.int_ bo_int (pa_cons (pv 4) pa_nil)) (fun _ _ => rfl)))
    (pss_cons (ps_set (i := 6) sc_law_drawn.nd rfl (by first | exact Or.inl rfl | exact Or.inr rfl) (pe_lst pa_nil))
    (pss_cons (ps_for PassesOwn.never rfl (pi_range1 rfl nb.range_ (pa_cons (pe_callB call_len rfl nb.len_ bo_len (pa_cons (pv 1) pa_nil)) pa_nil)) (pg_name (i := 7) sc_law_drawn.nd rfl (by first | exact Or.inl rfl | exact Or.inr rfl))
      (pss_cons (ps_set (i := 8) sc_law_drawn.nd rfl (by first | exact Or.inl rfl | exact Or.inr rfl) (pe_ix iAll (pe_lst (pa_cons (pe_callD D_law_mixed hr (pa_cons (pe_ix iAll (pv 0) (pv 3) (fun _ _ => rfl)) (pa_cons (pe_op oAdd3 (pe_op oAdd3 pe_int (pe_op oMul pe_int (pv 7))) (pv 3)) pa_nil))) (pa_cons (pe_op op_mod (pe_op op_shr (pe_ix iAll (pv 0) (pv 3) (fun _ _ => rfl)) (pe_op oAdd3 pe_int (pe_op oMul pe_int (pv 7)))) pe_int) pa_nil))) (pe_callTy call_intA rfl nb.int_ bo_int (pa_cons (pv 4) pa_nil)) (fun _ _ => rfl)))
      (pss_one (ps_expr (pe_bm PySem.F.plainAttrs_list PySem.F.slot_list_append PySem.F.type_list_append mt_append (pv 6) (pa_cons (pe_callD D_law_value hr (pa_cons (pe_ix iAll (pv 1) (pv 7) (fun _ _ => rfl)) (pa_cons (pv 8) pa_nil))) pa_nil))))))
    (pss_cut (ps_if (pt_cmpR oEq (pe_op op_mod (pv 5) pe_int) pe_int (nomark _)) (pss_one (ps_set (i := 6) sc_law_drawn.nd rfl (by first | exact Or.inl rfl | exact Or.inr rfl) (pe_op oAdd3 (pv 2) (pe_slice slAll (pv 6) (po_some (pe_callB call_len rfl nb.len_ bo_len (pa_cons (pv 2) pa_nil))) po_none)))) pss_nil)
    (pss_one (ps_ret (pe_callTy call_tuple_of rfl nb.tuple_ bo_tuple (pa_cons (pv 6) pa_nil))))))))), ?_⟩
  refine ⟨_, rfl, a, ns, 0, rfl, hS, hl, _, _, rfl, rfl, (by show (0 : Int) < 2; decide), rfl, ?_⟩
  dsimp only
  generalize decide (V.int (ns.getD 0 0 % 2) = V.int 1) = b
  refine ⟨_, rfl, _, rfl, .inl (.inl ⟨_, _, _, _, rfl, rfl, hS, sat, _, rfl, .inl (.inl ⟨_, _, rfl, rfl, _, _, rfl, fun v _ _ => ⟨_, rfl, _, rfl, .inl (.inl ⟨_, _, _, _, rfl, rfl, hS, sat, two_ok7, fun g hg => ?_⟩)⟩⟩)⟩)⟩
  obtain ⟨sh, hsh⟩ := pick2 v ns[k] b
  refine ⟨_, rfl, .inl (.inr ⟨_, rfl, .inl (.inl ⟨_, _, _, _, rfl, rfl, SqL.of upd_same, hsh, ?_⟩)⟩)⟩
  have X1 := Ext.lst (xs := [V.int v, V.int ns[k]]) hg
  refine ⟨Nat.zero_le _, fun lv hlv => ?_⟩
  have X2 := X1.trans (Ext.lst (xs := []) hlv)
  have hv0 : H lv = none := X1.s.free hlv
  have nl : rw ≠ lv := fun z => by rw [← z, hw] at hv0; cases hv0
  refine ⟨_, rfl, _, _, rfl, .inl ⟨_, SqL.of (X2.s _ _ hw), rfl⟩, _, rfl, (by rw [lk]; omega), (by rw [lk]; omega), ?_⟩
  rw [lk, show (((ks.length : Nat) : Int)).toNat = ks.length by omega]
  refine for_range (fun i σ H4 => ∃ (es : List D) (ws : List V) (z7 z8 : Option V), σ = [some (.ref a), some (.ref rw), some (.ref lf), some (.int ((k : Nat) : Int)), some (.bl b), some (.int sh), some (.ref lv), z7, z8] ∧ es.length = i ∧ B4 ff H ks rw lv H4 ws es) ?_ ?_ ?_
  · exact ⟨[], [], _, _, rfl, rfl, X2, X2.s _ _ hw, upd_same, rfl, (fun i hi => absurd hi (Nat.not_lt_zero _)), by rw [dhts]; decide⟩
  · rintro i σ H4 hi ⟨es, ws, z7, z8, rfl, hel, B⟩
    rw [Int.zero_add]
    obtain ⟨kw, hkw⟩ : ∃ kw, ks[i]? = some kw := ⟨_, List.getElem?_eq_getElem (by omega)⟩
    have hS4 := B.x.s.seq hS
    refine ⟨_, rfl, _, rfl, .inl (.inl ⟨_, _, _, _, rfl, rfl, hS4, sat, _, rfl, .inl ⟨_, _, rfl, rfl, .inl ⟨by decide, by decide⟩, .inl (.inl ⟨_, _, rfl, rfl, _, rfl, .inl (.inl ⟨_, _, rfl, rfl, _, _, rfl, fun v _ _ => ?_⟩)⟩)⟩⟩)⟩
    refine ⟨_, rfl, _, rfl, .inl (.inl ⟨_, _, _, _, rfl, rfl, hS4, sat, _, rfl, .inl ⟨_, _, rfl, rfl, .inl ⟨by decide, by decide⟩, .inl (.inl ⟨_, _, rfl, rfl, _, _, rfl, rfl, (by show (0 : Int) ≤ _; omega), _, _, rfl, rfl, (by show (0 : Int) < 64; decide), two_ok7, fun g3 hg3 => ?_⟩)⟩⟩)⟩
    dsimp only
    obtain ⟨ot, hot⟩ := pick2 v (ns[k] / 2 ^ (1 + 6 * (i : Int)).toNat % 64) b
    refine ⟨_, rfl, .inl (.inr ⟨_, rfl, .inl (.inl ⟨_, _, _, _, rfl, rfl, SqL.of upd_same, hot, ?_⟩)⟩)⟩
    have X3 := Ext.lst (xs := [V.int v, V.int (ns[k] / 2 ^ (1 + 6 * (i : Int)).toNat % 64)]) hg3
    have B3 := B.ext X3
    refine ⟨_, rfl, .inl ⟨rfl, _, SqL.of B3.f⟩, _, rfl, _, rfl, .inl (.inl ⟨_, _, _, _, rfl, rfl, SqL.of B3.w, wat hkw, _, rfl, kw, ot, [lv], rfl, in_one B3.f, fun vv d H5 X5 hd _ hft hdp => ?_⟩)⟩
    have B' := B3.ext X5
    have hwl := DsAt.len es (DsX.at es B.d)
    refine ⟨lv, _, _, rfl, rfl, B'.f, Nat.lt_of_lt_of_le (show ws.length < 100000 by omega) (by decide), ?_⟩
    exact ⟨es ++ [d], ws ++ [vv], _, _, rfl, by rw [List.length_append, hel]; rfl, B'.snoc hv0 nl (by rw [hel]; exact hkw) hd hft hdp⟩
  rintro σ H4 ⟨es, ws, z7, z8, rfl, hel, B⟩
  have hwl := DsAt.len es (DsX.at es B.d)
  have hwf := DsAt.len ds hds
  have hfv : FitV ff ks es := ⟨by omega, B.t⟩
  refine ⟨fun σ' H' => Ext H H' ∧ ∃ (lr : Addr) (ws : List V) (es : List D), σ' = [some (.ref a), some (.ref rw), some (.ref lf), some (.int ((k : Nat) : Int)), some (.bl b), some (.int sh), some (.ref lr), z7, z8] ∧ H' lr = some (.lst ws) ∧ DsAt H' es ws ∧ FitV ff ks es ∧ dhts es ≤ 4, ?_, ?_⟩
  · refine ⟨_, rfl, _, _, rfl, rfl, (by show (0 : Int) < 2; decide), rfl, _, rfl, iteD (fun c1 => ?_) (fun c1 => ⟨B.x, lv, ws, es, rfl, B.f, DsX.at es B.d, hfv, B.p⟩)⟩
    have hlf4 := B.x.s _ _ hlf
    refine ⟨_, rfl, _, rfl, _, rfl, _, _, rfl, .inl ⟨_, SqL.of hlf4, rfl⟩, _, rfl, .inl ⟨lv, _, rfl, SqL.of B.f, fun p hp => ?_⟩⟩
    have ec : cutV ws (some ((wf.length : Nat) : Int)) none = ws.drop ds.length := by rw [hwf]; exact cut_from ws ds.length (by omega)
    have s5 := same_new (o := HO.lst (cutV ws (some ((wf.length : Nat) : Int)) none)) hp
    refine .inr ⟨lf, p, _, _, rfl, rfl, s5 _ _ hlf4, upd_same, ?_, fun r hr => ?_⟩
    · rw [ec, List.length_drop]; exact small5 (by omega)
    · have s6 := s5.trans (same_new (o := HO.lst (wf ++ cutV ws (some ((wf.length : Nat) : Int)) none)) hr)
      refine ⟨(B.x.trans (Ext.lst hp)).trans (Ext.lst hr), r, _, ds ++ es.drop ds.length, rfl, upd_same, ?_, hfv.mix hdl hft, dhts_app hdp (dhts_drop _ _ B.p)⟩
      rw [ec]
      exact DsAt.app (DsAt.same (by rw [ec] at s6; exact s6) _ (DsAt.drop ds.length es (DsX.at es B.d))) ds (DsAt.same (by rw [ec] at s6; exact B.x.s.trans s6) ds hds)
  rintro σ5 H5 ⟨X5, lr, ws5, es5, rfl, hlr, hds5, hfv5, hdp5⟩
  have hl5 := DsAt.len es5 hds5
  refine ⟨_, rfl, lr, _, rfl, .inl ⟨SqL.of hlr, fun T hT => ?_⟩⟩
  have X6 := X5.trans (Ext.tup (xs := ws5) hT)
  exact ⟨_, X6.sub, q T es5 ws5 _ X6 upd_same (DsAt.same (same_new hT) _ hds5) hfv5 hdp5⟩
theorem DsAt_int (H : Hp) : ∀ l : List Int, DsAt H (l.map D.int) (l.map V.int)
  | [] => rfl
  | x :: l => ⟨_, _, rfl, rfl, DsAt_int H l⟩
theorem dhts_int : ∀ l : List Int, dhts (l.map D.int) ≤ 1
  | [] => by rw [List.map_nil, dhts]; omega
  | b :: bs => by
    rw [List.map_cons, dhts, dht]
    have := dhts_int bs
    omega
theorem eqDs_int : ∀ a b : List Int, eqDs (a.map D.int) (b.map D.int) = decide (a = b)
  | [], [] => by rw [List.map_nil, eqDs]; rfl
  | [], y :: b => by rw [List.map_nil, List.map_cons, eqDs]; rfl
  | x :: a, [] => by rw [List.map_nil, List.map_cons, eqDs]; rfl
  | x :: a, y :: b => by
    rw [List.map_cons, List.map_cons, eqDs]
    show (eqDD (.int x) (.int y) && eqDs (a.map D.int) (b.map D.int)) = _
    rw [eqDD, eqDs_int a b]
    show ((x == y) && decide (a = b)) = _
    rw [Bool.eq_iff_iff]
    simp
theorem fit_dep (ff : D → Bool) (k : Fin 8) (d : D) (h : fitB ff (formK k) d = true) : dht d ≤ 2 ∧ (keyK k d).length ≤ 1000 := by
  have one : ∀ {i : Int}, ([i] : List Int).length ≤ 1000 := by intro i; simp
  rcases fin8 k with rfl | rfl | rfl | rfl | rfl | rfl | rfl | rfl
  · obtain ⟨b, rfl⟩ := fit_bl (d := d) h
    exact ⟨by rw [dht]; omega, one⟩
  · obtain ⟨i, rfl, _⟩ := fit_sp (a := -2) (b := 2) (d := d) h
    exact ⟨by rw [dht]; omega, one⟩
  · obtain ⟨t, rfl, ht, _⟩ := fit_le (d := d) h
    refine ⟨by rw [dht]; omega, ?_⟩
    show (t.cps.toList.map idxI).length ≤ 1000
    rw [List.length_map]
    have : t.cps.toList.length = t.length := Array.length_toList
    omega
  · rcases fit_mb (d := d) h with rfl | ⟨b, rfl⟩
    · exact ⟨by rw [dht, dhts]; omega, by decide⟩
    · exact ⟨by rw [dht, dhts, dhts, dht]; omega, one⟩
  · obtain ⟨i, rfl, _⟩ := fit_wh (d := d) h
    exact ⟨by rw [dht]; omega, one⟩
  · obtain ⟨i, rfl, _⟩ := fit_tu (d := d) h
    exact ⟨by rw [dht]; omega, one⟩
  · obtain ⟨bs, rfl, hb⟩ := fit_my (d := d) h
    refine ⟨?_, ?_⟩
    · rw [dht]; have := dhts_bl bs; omega
    · show ((bs.map D.bl).map blI).length ≤ 1000
      rw [List.length_map, List.length_map]; omega
  · rw [fit_no (d := d) h]
    exact ⟨by rw [dht]; omega, by decide⟩
theorem key_len (ff : D → Bool) (k : Fin 8) (d : D) (h : fitB ff (formK k) d = true) : (keyK k d).length ≤ 1000 := (fit_dep ff k d h).2
theorem key_dep (ff : D → Bool) (ks : List (Fin 8)) (ds dl : List D) (h : dl.all (fitOne ff (formsK ks) ds) = true) : dhts dl ≤ 2 := by
  induction dl with
  | nil => rw [dhts]; omega
  | cons d dl ih =>
    rw [List.all_cons] at h
    obtain ⟨h1, h2⟩ := Bool.and_eq_true_iff.mp h
    rw [dhts]
    have := ih h2
    unfold fitOne at h1
    obtain ⟨k, hk⟩ := formsK_any ks ds.length
    rw [hk] at h1
    have := (fit_dep ff k d h1).1
    omega
def insB (ks : List (Fin 8)) (es ds dl dh : List D) : Bool := (List.range ds.length).all (fun i => decide (keyK (ks.getD i 0) (es.getD i .non) = keyK (ks.getD i 0) (ds.getD i .non))) && (dl.all (fun d => !HT.lexLt (keyK (ks.getD ds.length 0) (es.getD ds.length .non)) (keyK (ks.getD ds.length 0) d)) && dh.all (fun d => HT.lexLt (keyK (ks.getD ds.length 0) (es.getD ds.length .non)) (keyK (ks.getD ds.length 0) d)))
def spInside (ff : D → Bool) : Sp := fun vs H Q _ => ∃ (rw T lf tl th : Addr) (ks : List (Fin 8)) (ws wf wl wh : List V) (es ds dl dh : List D), vs = [.ref rw, .ref T, .ref lf, .ref tl, .ref th] ∧ H rw = some (.lst (wordsV ks)) ∧ ks.length ≤ 20 ∧ H T = some (.tup ws) ∧ DsAt H es ws ∧ FitV ff ks es ∧ S4 ff ks H lf tl th wf wl wh ds dl dh ∧ Q (.bl (insB ks es ds dl dh)) H
set_option maxHeartbeats 1000000 in
theorem ok_law_inside {f : Addr} {fd : FuncData} {ff : D → Bool} (nb : NB mg) (F : FunAt K mg "_law_inside" s_law_inside ["_law_words_here", "_law_value_here", "_law_first", "_law_low", "_law_high"] f fd) (D_law_key : DefOk P w K mg base 1 "_law_key" ["_law_word", "_law_value_here"] (spKey ff)) : DefOk P w K mg base 2 "_law_inside" ["_law_words_here", "_law_value_here", "_law_first", "_law_low", "_law_high"] (spInside ff) := by
  refine F.ok sc_law_inside (fun vs H Q E h => ?_) (fun cdv A outer s H vs Q E hr h => ?_)
  · obtain ⟨_, _, _, _, _, _, _, _, _, _, _, _, _, _, rfl, _⟩ := h; rfl
  obtain ⟨rw, T, lf, tl, th, ks, ws, wf, wl, wh, es, ds, dl, dh, rfl, hw, hk20, hT, hes, ⟨hel, hef⟩, S, q⟩ := h
  have wat : ∀ {i : Nat} {kw : Fin 8}, ks[i]? = some kw → atI (wordsV ks) ((i : Nat) : Int) = some (.str (wordK kw)) := fun h => atI_nat (by unfold wordsV; rw [List.getElem?_map, h]; rfl)
  have hwl := DsAt.len es hes
  have hwf := DsAt.len ds S.d
  have hll := S.l
  have kD : ∀ {i : Nat} {kw : Fin 8}, ks[i]? = some kw → ks.getD i 0 = kw := fun h => by rw [List.getD_eq_getElem?_getD, h]; rfl
  have eD : ∀ {i : Nat} {d : D}, es[i]? = some d → es.getD i .non = d := fun h => by rw [List.getD_eq_getElem?_getD, h]; rfl
  have dD : ∀ {i : Nat} {d : D}, ds[i]? = some d → ds.getD i .non = d := fun h => by rw [List.getD_eq_getElem?_getD, h]; rfl
  refine ⟨_, (pss_cons (ps_for PassesOwn.never rfl (pi_range1 rfl nb.range_ (pa_cons (pe_callB call_len rfl nb.len_ bo_len (pa_cons (pv 2) pa_nil)) pa_nil)) (pg_name (i := 5) sc_law_inside.nd rfl (by first | exact Or.inl rfl | exact Or.inr rfl))
      (pss_one (ps_if (pt_cmpR (oNeD (room64 hr)) (pe_callD D_law_key hr (pa_cons (pe_ix iAll (pv 0) (pv 5) (fun _ _ => rfl)) (pa_cons (pe_ix iAll (pv 1) (pv 5) (fun _ _ => rfl)) pa_nil))) (pe_callD D_law_key hr (pa_cons (pe_ix iAll (pv 0) (pv 5) (fun _ _ => rfl)) (pa_cons (pe_ix iAll (pv 2) (pv 5) (fun _ _ => rfl)) pa_nil))) (nomark _)) (pss_one (ps_ret pe_bl)) pss_nil)))
    (pss_cons (ps_set (i := 6) sc_law_inside.nd rfl (by first | exact Or.inl rfl | exact Or.inr rfl) (pe_ix iAll (pv 0) (pe_callB call_len rfl nb.len_ bo_len (pa_cons (pv 2) pa_nil)) (fun _ _ => rfl)))
    (pss_cons (ps_set (i := 7) sc_law_inside.nd rfl (by first | exact Or.inl rfl | exact Or.inr rfl) (pe_callD D_law_key hr (pa_cons (pv 6) (pa_cons (pe_ix iAll (pv 1) (pe_callB call_len rfl nb.len_ bo_len (pa_cons (pv 2) pa_nil)) (fun _ _ => rfl)) pa_nil))))
    (pss_cons (ps_if (PW.pt (pw_and (pt_cmpR (oNeD (room64 hr)) (pv 3) (pe_tup pa_nil) (nomark _)) (pw_and1 (pt_cmpR (oLtLI (room64 hr)) (pv 7) (pe_callD D_law_key hr (pa_cons (pv 6) (pa_cons (pe_ix iAll (pv 3) pe_int (fun _ _ => rfl)) pa_nil))) (nomark _))))) (pss_one (ps_ret pe_bl)) pss_nil)
    (pss_one (ps_ret (pe_or (pe_cmpR (oEqD (room64 hr)) (pv 4) (pe_tup pa_nil) (nomark _)) (pe_one (pe_cmpR (oLtLI (room64 hr)) (pv 7) (pe_callD D_law_key hr (pa_cons (pv 6) (pa_cons (pe_ix iAll (pv 4) pe_int (fun _ _ => rfl)) pa_nil))) (nomark _)))))))))), ?_⟩
  refine ⟨_, rfl, _, _, rfl, .inl ⟨_, SqL.of S.f, rfl⟩, _, rfl, by omega, by omega, ?_⟩
  rw [hwf, show (((ds.length : Nat) : Int)).toNat = ds.length by omega]
  refine for_range (fun i σ H2 => Same H H2 ∧ (∃ z5, σ = [some (.ref rw), some (.ref T), some (.ref lf), some (.ref tl), some (.ref th), z5, none, none]) ∧ ∀ j, j < i → keyK (ks.getD j 0) (es.getD j .non) = keyK (ks.getD j 0) (ds.getD j .non)) ⟨Same.refl _, ⟨_, rfl⟩, fun j hj => absurd hj (Nat.not_lt_zero _)⟩ ?_ ?_
  · rintro i σ H2 hi ⟨s2, ⟨z5, rfl⟩, hj⟩
    rw [Int.zero_add]
    obtain ⟨kw, hkw⟩ : ∃ kw, ks[i]? = some kw := ⟨_, List.getElem?_eq_getElem (by omega)⟩
    obtain ⟨v, hv⟩ : ∃ v, ws[i]? = some v := ⟨_, List.getElem?_eq_getElem (by omega)⟩
    obtain ⟨u, hu⟩ : ∃ u, wf[i]? = some u := ⟨_, List.getElem?_eq_getElem (by omega)⟩
    obtain ⟨d, hd, hdv⟩ := DsAt.get es hes hv
    obtain ⟨d', hd', hdu⟩ := DsAt.get ds S.d hu
    have f1 := hef i (by omega)
    have f2 := List.all_eq_true.mp S.t i (List.mem_range.mpr hi)
    rw [formsK_get hkw, eD hd] at f1
    rw [formsK_get hkw, dD hd'] at f2
    refine ⟨_, rfl, _, rfl, .inl (.inl ⟨_, _, _, _, rfl, rfl, SqL.of (s2 _ _ hw), wat hkw, _, rfl, _, rfl, .inl (.inr ⟨_, _, _, _, rfl, rfl, SqT.of (s2 _ _ hT), atI_nat hv, kw, v, d, rfl, DAt.same s2 d hdv, f1, fun r1 hr1 => ?_⟩)⟩)⟩
    have s3 := s2.trans (same_new (o := HO.lst ((keyK kw d).map V.int)) hr1)
    refine ⟨_, rfl, _, rfl, .inl (.inl ⟨_, _, _, _, rfl, rfl, SqL.of (s3 _ _ hw), wat hkw, _, rfl, _, rfl, .inl (.inl ⟨_, _, _, _, rfl, rfl, SqL.of (s3 _ _ S.f), atI_nat hu, kw, u, d', rfl, DAt.same s3 d' hdu, f2, fun r2 hr2 => ?_⟩)⟩)⟩
    have s4 := same_new (o := HO.lst ((keyK kw d').map V.int)) hr2
    have lens : ∀ k d, fitB ff (formK k) d = true → (keyK k d).length ≤ 1000 := key_len ff
    refine .inr ⟨.lst ((keyK kw d).map D.int), .lst ((keyK kw d').map D.int), ⟨r1, _, rfl, s4 _ _ upd_same, DsAt_int _ _, by rw [List.length_map]; exact lens kw d f1⟩, ⟨r2, _, rfl, upd_same, DsAt_int _ _, by rw [List.length_map]; exact lens kw d' f2⟩, (by rw [dht]; have := dhts_int (keyK kw d); omega), _, rfl, ?_⟩
    rw [show eqDD (.lst ((keyK kw d).map D.int)) (.lst ((keyK kw d').map D.int)) = decide (keyK kw d = keyK kw d') by rw [eqDD]; exact eqDs_int _ _]
    by_cases e : keyK kw d = keyK kw d'
    · rw [decide_eq_true e]
      refine iteF ⟨s3.trans s4, ⟨_, rfl⟩, fun j hj' => ?_⟩
      rcases Nat.lt_or_ge j i with y | y
      · exact hj j y
      · have : j = i := by omega
        subst this
        rw [kD hkw, eD hd, dD hd']; exact e
    · rw [decide_eq_false e]
      have e3 : insB ks es ds dl dh = false := by
        unfold insB
        rw [show (List.range ds.length).all (fun i => decide (keyK (ks.getD i 0) (es.getD i .non) = keyK (ks.getD i 0) (ds.getD i .non))) = false from ?_, Bool.false_and]
        rw [← Bool.not_eq_true]
        intro z
        have := of_decide_eq_true (List.all_eq_true.mp z i (List.mem_range.mpr hi))
        rw [kD hkw, eD hd, dD hd'] at this
        exact e this
      rw [e3] at q
      exact iteT ⟨H, .refl (s3.trans s4), q⟩
  rintro σ H2 ⟨s2, ⟨z5, rfl⟩, hj⟩
  have hall : (List.range ds.length).all (fun i => decide (keyK (ks.getD i 0) (es.getD i .non) = keyK (ks.getD i 0) (ds.getD i .non))) = true := List.all_eq_true.mpr fun i hi => decide_eq_true (hj i (List.mem_range.mp hi))
  unfold insB at q
  rw [hall, Bool.true_and] at q
  obtain ⟨kw, hkw⟩ : ∃ kw, ks[ds.length]? = some kw := ⟨_, List.getElem?_eq_getElem (by omega)⟩
  obtain ⟨v, hv⟩ : ∃ v, ws[ds.length]? = some v := ⟨_, List.getElem?_eq_getElem (by omega)⟩
  obtain ⟨d, hd, hdv⟩ := DsAt.get es hes hv
  have f1 := hef ds.length (by omega)
  rw [formsK_get hkw, eD hd] at f1
  rw [kD hkw, eD hd] at q
  have fO : ∀ {x : D}, fitOne ff (formsK ks) ds x = fitB ff (formK kw) x := fun {x} => by unfold fitOne; rw [formsK_get hkw]
  refine ⟨_, rfl, _, rfl, _, _, rfl, .inl ⟨_, SqL.of (s2 _ _ S.f), rfl⟩, .inl (.inl ⟨_, _, _, _, rfl, rfl, SqL.of (s2 _ _ hw), (by rw [hwf]; exact wat hkw), ?_⟩)⟩
  refine ⟨_, rfl, _, rfl, _, rfl, _, _, rfl, .inl ⟨_, SqL.of (s2 _ _ S.f), rfl⟩, .inl (.inr ⟨_, _, _, _, rfl, rfl, SqT.of (s2 _ _ hT), (by rw [hwf]; exact atI_nat hv), kw, v, d, rfl, DAt.same s2 d hdv, f1, fun r hr0 => ?_⟩)⟩
  have s3 := s2.trans (same_new (o := HO.lst ((keyK kw d).map V.int)) hr0)
  have hrk : upd H2 r (.lst ((keyK kw d).map V.int)) r = some (.lst ((keyK kw d).map V.int)) := upd_same
  generalize upd H2 r (.lst ((keyK kw d).map V.int)) = H3 at s3 hrk ⊢
  refine ⟨_, rfl, Nat.zero_le _, fun t ht => ?_⟩
  have s4 := s3.trans (same_new (o := HO.tup []) ht)
  have hwl2 := DsAt.len dl S.pdl
  have hwh2 := DsAt.len dh S.pdh
  have emp : ∀ {H' : Hp} {t : Addr}, H' t = some (.tup []) → DAt H' (.tup []) (.ref t) := fun h => ⟨_, [], rfl, h, rfl, by decide⟩
  refine .inr ⟨.tup dl, .tup [], ⟨tl, wl, rfl, s4 _ _ S.pel, DsAt.same s4 _ S.pdl, by have := S.pll; omega⟩, emp upd_same, (by rw [dht]; have := key_dep ff ks ds dl S.ptl; omega), _, rfl, ?_⟩
  have lowF : dl.all (fun d_1 => !HT.lexLt (keyK kw d) (keyK kw d_1)) = false → Q (.bl false) H := fun h => by rw [h, Bool.false_and] at q; exact q
  have lowT : dl.all (fun d_1 => !HT.lexLt (keyK kw d) (keyK kw d_1)) = true → Q (.bl (dh.all (fun d_1 => HT.lexLt (keyK kw d) (keyK kw d_1)))) H := fun h => by rw [h, Bool.true_and] at q; exact q
  rcases one_or S.pll with rfl | ⟨x, rfl⟩
  · rw [show eqDD (.tup []) (.tup []) = true from eqDD_refl _]
    have qh := lowT rfl
    have s5 := s4
    have hr5 := same_new (o := HO.tup []) ht _ _ hrk
    refine iteF ?_
    refine ⟨_, rfl, Nat.zero_le _, fun t2 ht2 => ?_⟩
    have s6 := s5.trans (same_new (o := HO.tup []) ht2)
    have hr6 := same_new (o := HO.tup []) ht2 _ _ hr5
    refine .inr ⟨.tup dh, .tup [], ⟨th, wh, rfl, s6 _ _ S.peh, DsAt.same s6 _ S.pdh, by have := S.plh; omega⟩, emp upd_same, (by rw [dht]; have := key_dep ff ks ds dh S.pth; omega), _, rfl, ?_⟩
    rcases one_or S.plh with rfl | ⟨y, rfl⟩
    · rw [show eqDD (.tup []) (.tup []) = true from eqDD_refl _]
      exact iteT ⟨H, .refl s6, qh⟩
    · obtain ⟨u0, r0, rfl, hy, hr'⟩ := S.pdh
      obtain rfl : r0 = [] := hr'
      have fy : fitB ff (formK kw) y = true := by have := List.all_eq_true.mp S.pth y (List.mem_singleton.mpr rfl); rwa [fO] at this
      rw [show eqDD (.tup [y]) (.tup []) = false by rw [eqDD]; show eqDs [y] [] = false; rw [eqDs]]
      refine iteF ⟨_, rfl, _, rfl, _, rfl, .inl (.inr ⟨_, _, _, _, rfl, rfl, SqT.of (s6 _ _ S.peh), atI_nat (j := 0) rfl, kw, u0, y, rfl, DAt.same s6 y hy, fy, fun r3 hr3 => ?_⟩)⟩
      refine .inr ⟨r, r3, _, _, rfl, rfl, SqL.of (same_new hr3 _ _ hr6), SqL.of upd_same, H, .refl (s6.trans (same_new hr3)), ?_⟩
      rw [List.all_cons, List.all_nil, Bool.and_true] at qh
      exact qh
  · obtain ⟨w0, r0, rfl, hx, hr'⟩ := S.pdl
    obtain rfl : r0 = [] := hr'
    have fx : fitB ff (formK kw) x = true := by have := List.all_eq_true.mp S.ptl x (List.mem_singleton.mpr rfl); rwa [fO] at this
    rw [show eqDD (.tup [x]) (.tup []) = false by rw [eqDD]; show eqDs [x] [] = false; rw [eqDs]]
    refine iteT ⟨_, rfl, _, rfl, _, rfl, .inl (.inr ⟨_, _, _, _, rfl, rfl, SqT.of (s4 _ _ S.pel), atI_nat (j := 0) rfl, kw, w0, x, rfl, DAt.same s4 x hx, fx, fun r2 hr2 => ?_⟩)⟩
    have s5 := s4.trans (same_new (o := HO.lst ((keyK kw x).map V.int)) hr2)
    have hr5 := same_new (o := HO.lst ((keyK kw x).map V.int)) hr2 _ _ (same_new (o := HO.tup []) ht _ _ hrk)
    refine .inr ⟨r, r2, _, _, rfl, rfl, SqL.of hr5, SqL.of upd_same, _, rfl, ?_⟩
    cases hb : HT.lexLt (keyK kw d) (keyK kw x) with
    | true => exact iteT ⟨H, .refl s5, lowF (by rw [List.all_cons, hb]; rfl)⟩
    | false =>
      have qh := lowT (by rw [List.all_cons, hb]; rfl)
      refine iteF ?_
      refine ⟨_, rfl, Nat.zero_le _, fun t2 ht2 => ?_⟩
      have s6 := s5.trans (same_new (o := HO.tup []) ht2)
      have hr6 := same_new (o := HO.tup []) ht2 _ _ hr5
      refine .inr ⟨.tup dh, .tup [], ⟨th, wh, rfl, s6 _ _ S.peh, DsAt.same s6 _ S.pdh, by have := S.plh; omega⟩, emp upd_same, (by rw [dht]; have := key_dep ff ks ds dh S.pth; omega), _, rfl, ?_⟩
      rcases one_or S.plh with rfl | ⟨y, rfl⟩
      · rw [show eqDD (.tup []) (.tup []) = true from eqDD_refl _]
        exact iteT ⟨H, .refl s6, qh⟩
      · obtain ⟨u0, r0, rfl, hy, hr'⟩ := S.pdh
        obtain rfl : r0 = [] := hr'
        have fy : fitB ff (formK kw) y = true := by have := List.all_eq_true.mp S.pth y (List.mem_singleton.mpr rfl); rwa [fO] at this
        rw [show eqDD (.tup [y]) (.tup []) = false by rw [eqDD]; show eqDs [y] [] = false; rw [eqDs]]
        refine iteF ⟨_, rfl, _, rfl, _, rfl, .inl (.inr ⟨_, _, _, _, rfl, rfl, SqT.of (s6 _ _ S.peh), atI_nat (j := 0) rfl, kw, u0, y, rfl, DAt.same s6 y hy, fy, fun r3 hr3 => ?_⟩)⟩
        refine .inr ⟨r, r3, _, _, rfl, rfl, SqL.of (same_new hr3 _ _ hr6), SqL.of upd_same, H, .refl (s6.trans (same_new hr3)), ?_⟩
        rw [List.all_cons, List.all_nil, Bool.and_true] at qh
        exact qh

/-! ### k54: where a row lies -/
def endB (row : List Bool) : V → Bool
  | .str e => decide ((rowS row).cps.toList < e.cps.toList)
  | _ => true
def rowsOf (fw : D → List Bool) (fs : List Fm) (ds : List D) : List (List Bool) := (List.range ds.length).map fun i => rowB fw (fs.getD i (.bare 0)) (ds.getD i .non)
theorem rowsOf_get {fw : D → List Bool} {fs : List Fm} {ds : List D} {i : Nat} (h : i < ds.length) : (rowsOf fw fs ds)[i]? = some (rowB fw (fs.getD i (.bare 0)) (ds.getD i .non)) := by
  unfold rowsOf
  rw [List.getElem?_map, List.getElem?_range h]; rfl
theorem rowsOf_len (fw : D → List Bool) (fs : List Fm) (ds : List D) : (rowsOf fw fs ds).length = ds.length := by unfold rowsOf; rw [List.length_map, List.length_range]
theorem ins_math {ff : D → Bool} {fw : D → List Bool} {ks : List (Fin 8)} {es ds dl dh : List D} {v : V} (he : FitV ff ks es) (hl : ds.length < ks.length) (ht : fitFst ff (formsK ks) ds = true) (hll : dl.length ≤ 1) (hlh : dh.length ≤ 1) (hfl : dl.all (fitOne ff (formsK ks) ds) = true) (hfh : dh.all (fitOne ff (formsK ks) ds) = true)
    (hv : (dh = [] ∧ EndIs (spBeg fw (formsK ks) ds) v) ∨ (dh ≠ [] ∧ v = .str (rowS (spBeg fw (formsK ks) ds ++ spAdd fw (formsK ks) ds dh)))) :
    (!decide ((rowS (rowsOf fw (formsK ks) es).flatten).cps.toList < (rowS (spBeg fw (formsK ks) ds ++ spAdd fw (formsK ks) ds dl)).cps.toList) && endB (rowsOf fw (formsK ks) es).flatten v) = insB ks es ds dl dh := by
  obtain ⟨hel, hef⟩ := he
  have eb : spBeg fw (formsK ks) ds = (rowsOf fw (formsK ks) ds).flatten := rfl
  rw [eb] at hv ⊢
  have tri : ∀ i, i < ds.length → ∃ k, ks.getD i 0 = k ∧ (formsK ks).getD i (.bare 0) = formK k ∧ fitB ff (formK k) (es.getD i .non) = true ∧ fitB ff (formK k) (ds.getD i .non) = true := fun i hi => by
    obtain ⟨k, hk⟩ : ∃ k, ks[i]? = some k := ⟨_, List.getElem?_eq_getElem (by omega)⟩
    have e1 := formsK_get hk
    have h1 := hef i (by omega)
    have h2 := List.all_eq_true.mp ht i (List.mem_range.mpr hi)
    rw [e1] at h1 h2
    exact ⟨k, by rw [List.getD_eq_getElem?_getD, hk]; rfl, e1, h1, h2⟩
  have keys : (∃ R', rowsOf fw (formsK ks) es = rowsOf fw (formsK ks) ds ++ R') ↔ (List.range ds.length).all (fun i => decide (keyK (ks.getD i 0) (es.getD i .non) = keyK (ks.getD i 0) (ds.getD i .non))) = true := by
    constructor
    · rintro ⟨R', e⟩
      refine List.all_eq_true.mpr fun i hi => decide_eq_true ?_
      have hi := List.mem_range.mp hi
      obtain ⟨k, hk, e1, h1, h2⟩ := tri i hi
      have g1 := rowsOf_get (fw := fw) (fs := formsK ks) (ds := es) (i := i) (by omega)
      rw [e, List.getElem?_append_left (by rw [rowsOf_len]; exact hi), rowsOf_get hi, e1] at g1
      rw [hk]
      exact (key_tri ff fw k h1 h2).2.1.mpr (Option.some.inj g1).symm
    · intro h
      refine ⟨(rowsOf fw (formsK ks) es).drop ds.length, ?_⟩
      apply List.ext_getElem?
      intro i
      rcases Nat.lt_or_ge i ds.length with y | y
      · rw [List.getElem?_append_left (by rw [rowsOf_len]; exact y), rowsOf_get y, rowsOf_get (by omega)]
        obtain ⟨k, hk, e1, h1, h2⟩ := tri i y
        have := of_decide_eq_true (List.all_eq_true.mp h i (List.mem_range.mpr y))
        rw [hk] at this
        rw [e1]
        exact congrArg some ((key_tri ff fw k h1 h2).2.1.mp this)
      · rw [List.getElem?_append_right (by rw [rowsOf_len]; exact y), List.getElem?_drop, rowsOf_len, show ds.length + (i - ds.length) = i by omega]
  obtain ⟨kw, hkw⟩ : ∃ kw, ks[ds.length]? = some kw := ⟨_, List.getElem?_eq_getElem hl⟩
  have ekw : ks.getD ds.length 0 = kw := by rw [List.getD_eq_getElem?_getD, hkw]; rfl
  have efk := formsK_get hkw
  have hem := hef ds.length (by omega)
  rw [efk] at hem
  have fO : ∀ {x : D}, fitOne ff (formsK ks) ds x = fitB ff (formK kw) x := fun {x} => by unfold fitOne; rw [efk]
  have aO : ∀ {x : D}, spAdd fw (formsK ks) ds [x] = rowB fw (formK kw) x := fun {x} => by rw [add_one, efk]
  unfold insB
  rw [ekw]
  rcases parts_tri (F := rowsOf fw (formsK ks) ds) (R := rowsOf fw (formsK ks) es) (by rw [rowsOf_len, rowsOf_len]; omega) (fun j a b ha hb => by
      have hj : j < ds.length := by have := (List.getElem?_eq_some_iff.mp ha).1; rwa [rowsOf_len] at this
      obtain ⟨k, hk, e1, h1, h2⟩ := tri j hj
      rw [rowsOf_get hj, e1] at ha
      rw [rowsOf_get (by omega), e1] at hb
      rw [← Option.some.inj ha, ← Option.some.inj hb]
      exact (key_tri ff fw k h1 h2).1) with ⟨R', eR⟩ | ⟨hn, s⟩
  · rw [keys.mp ⟨R', eR⟩, Bool.true_and]
    have gm := rowsOf_get (fw := fw) (fs := formsK ks) (ds := es) (i := ds.length) (by omega)
    rw [eR, List.getElem?_append_right (by rw [rowsOf_len]; exact Nat.le_refl _), rowsOf_len, Nat.sub_self, efk] at gm
    cases R' with
    | nil => cases gm
    | cons r R'' =>
      have er : r = rowB fw (formK kw) (es.getD ds.length .non) := Option.some.inj gm
      rw [eR]
      congr 1
      · rcases one_or hll with rfl | ⟨x, rfl⟩
        · rw [add_none, List.append_nil]
          have : ¬ ((rowS (rowsOf fw (formsK ks) ds ++ r :: R'').flatten).cps.toList < (rowS (rowsOf fw (formsK ks) ds).flatten).cps.toList) := row_pre_nlt ⟨(r :: R'').flatten, by rw [List.flatten_append]⟩
          rw [decide_eq_false this]; rfl
        · have fx : fitB ff (formK kw) x = true := by have := List.all_eq_true.mp hfl x (List.mem_singleton.mpr rfl); rwa [fO] at this
          have T := key_tri ff fw kw hem fx
          rw [← er] at T
          rw [aO, List.all_cons, List.all_nil, Bool.and_true]
          congr 1
          rw [Bool.eq_iff_iff, decide_eq_true_eq, T.2.2]
          have L := span_low (F := rowsOf fw (formsK ks) ds) (R' := R'') T.1
          exact ⟨fun a => Classical.byContradiction fun b => L.mpr b a, fun b => Classical.byContradiction fun a => L.mp a b⟩
      · rcases hv with ⟨rfl, hE⟩ | ⟨hne, rfl⟩
        · rw [List.all_nil]
          rcases hE with ⟨n, _, rfl⟩ | ⟨b, n, hb, rfl⟩
          · rfl
          · show decide _ = true
            refine decide_eq_true ?_
            rw [List.flatten_append, hb]
            exact span_behind
        · rcases one_or hlh with rfl | ⟨y, rfl⟩
          · exact absurd rfl hne
          · have fy : fitB ff (formK kw) y = true := by have := List.all_eq_true.mp hfh y (List.mem_singleton.mpr rfl); rwa [fO] at this
            have T := key_tri ff fw kw hem fy
            rw [← er] at T
            rw [aO, List.all_cons, List.all_nil, Bool.and_true]
            show decide _ = _
            rw [Bool.eq_iff_iff, decide_eq_true_eq, T.2.2]
            exact span_high T.1
  · have hk : (List.range ds.length).all (fun i => decide (keyK (ks.getD i 0) (es.getD i .non) = keyK (ks.getD i 0) (ds.getD i .non))) = false := by
      rw [← Bool.not_eq_true]
      exact fun z => hn (keys.mpr z)
    rw [hk, Bool.false_and]
    rcases s with s | s
    · have := sep_lt (s.post [] (spAdd fw (formsK ks) ds dl))
      rw [List.append_nil] at this
      rw [decide_eq_true this]; rfl
    · have : endB (rowsOf fw (formsK ks) es).flatten v = false := by
        rcases hv with ⟨rfl, hE⟩ | ⟨hne, rfl⟩
        · rcases hE with ⟨n, hb, rfl⟩ | ⟨b, n, hb, rfl⟩
          · rw [hb] at s
            exact absurd s no_over
          · rw [hb] at s
            exact decide_eq_false (span_over s)
        · have h2 := sep_nlt (s.post (spAdd fw (formsK ks) ds dh) [])
          rw [List.append_nil] at h2
          exact decide_eq_false h2
      rw [this, Bool.and_false]

/-! ### k54: the ends -/
theorem EndIs.inj {l : List Bool} {v w : V} (h : EndIs l v) (g : EndIs l w) : v = w := by
  have one : ∀ (m m' : Nat) (b b' : List Bool), List.replicate m true ++ false :: b = List.replicate m' true ++ false :: b' → b = b' := by
    intro m
    induction m with
    | zero =>
      intro m' b b' e
      cases m' with
      | zero => exact (List.cons.inj e).2
      | succ m' => cases (List.cons.inj e).1
    | succ m ih =>
      intro m' b b' e
      cases m' with
      | zero => cases (List.cons.inj e).1
      | succ m' => exact ih m' b b' (List.cons.inj e).2
  have no : ∀ (n m : Nat) (b : List Bool), List.replicate n true = b ++ false :: List.replicate m true → False := fun n m b e => by
    have : false ∈ List.replicate n true := by rw [e]; simp
    cases (List.mem_replicate.mp this).2
  rcases h with ⟨n, e, rfl⟩ | ⟨b, n, e, rfl⟩ <;> rcases g with ⟨m, e', rfl⟩ | ⟨b', m, e', rfl⟩
  · rfl
  · exact (no _ _ _ (e.symm.trans e')).elim
  · exact (no _ _ _ (e'.symm.trans e)).elim
  · have := congrArg List.reverse (e.symm.trans e')
    rw [List.reverse_append, List.reverse_append, List.reverse_cons, List.reverse_cons, List.reverse_replicate, List.reverse_replicate, List.append_assoc, List.append_assoc] at this
    have := one _ _ _ _ this
    rw [List.reverse_inj.mp this]
theorem zero1 : Str.ofString "0" = ⟨#[48]⟩ := by decide +kernel
theorem in_row (l : List Bool) : (!(Builtin.Str.occurrences (rowS l) (Str.ofString "0") 0 (rowS l).length 1).isEmpty) = decide (false ∈ l) := by
  rw [zero1, StrLaws.found_one, rowS_cps]
  congr 1
  rw [eq_iff_iff, List.mem_map]
  constructor
  · rintro ⟨b, hb, e⟩
    cases b with
    | false => exact hb
    | true => cases e
  · exact fun h => ⟨false, h, rfl⟩
theorem rfind_row (b : List Bool) (m : Nat) : Txt.rfind (rowS (b ++ false :: List.replicate m true)) (Str.ofString "0") = ((b.length : Nat) : Int) := by
  rw [zero1]
  have at_ : ∀ k, StrLaws.At (rowS (b ++ false :: List.replicate m true)) ⟨#[48]⟩ (rowS (b ++ false :: List.replicate m true)).length k ↔ (b ++ false :: List.replicate m true)[k]? = some false := fun k => by
    refine (StrLaws.subAt_one _ 48 k).trans ?_
    rw [rowS_cps, List.getElem?_map]
    cases (b ++ false :: List.replicate m true)[k]? with
    | none => exact ⟨fun h => (by cases h), fun h => (by cases h)⟩
    | some x => cases x <;> exact ⟨fun h => (by first | rfl | cases h), fun h => (by first | rfl | cases h)⟩
  have hb : (b ++ false :: List.replicate m true)[b.length]? = some false := by rw [List.getElem?_append_right (Nat.le_refl _), Nat.sub_self]; rfl
  have hn : ∀ k, b.length < k → (b ++ false :: List.replicate m true)[k]? ≠ some false := fun k hk h => by
    rw [List.getElem?_append_right (by omega), show k - b.length = (k - b.length - 1) + 1 by omega, List.getElem?_cons_succ] at h
    have := List.mem_of_getElem? h
    cases (List.mem_replicate.mp this).2
  rcases PyProof.Rows.rfind_whole (rowS (b ++ false :: List.replicate m true)) ⟨#[48]⟩ with ⟨_, h⟩ | ⟨i, e, h1, h2⟩
  · exact absurd ((at_ _).mpr hb) (h _)
  · rw [e]
    rcases Nat.lt_trichotomy i b.length with z | z | z
    · exact absurd ((at_ _).mpr hb) (h2 _ z)
    · rw [z]
    · exact absurd ((at_ _).mp h1) (hn _ z)
theorem len_spBeg (fw : D → List Bool) {fs : List Fm} {ds : List D} {i : Nat} (h : i < ds.length) : (rowB fw (fs.getD i (.bare 0)) (ds.getD i .non)).length ≤ (spBeg fw fs ds).length :=
  part_len (List.mem_map_of_mem (f := fun i => rowB fw (fs.getD i (.bare 0)) (ds.getD i .non)) (List.mem_range.mpr h))
def EndOf (fw : D → List Bool) (fs : List Fm) (ds dh : List D) (v : V) : Prop := (dh = [] ∧ EndIs (spBeg fw fs ds) v) ∨ (dh ≠ [] ∧ v = .str (rowS (spBeg fw fs ds ++ spAdd fw fs ds dh)))
theorem EndOf.inj {fw : D → List Bool} {fs : List Fm} {ds dh : List D} {v w : V} (h : EndOf fw fs ds dh v) (g : EndOf fw fs ds dh w) : v = w := by
  rcases h with ⟨e, h⟩ | ⟨e, h⟩ <;> rcases g with ⟨e', g⟩ | ⟨e', g⟩
  · exact h.inj g
  · exact absurd e e'
  · exact absurd e' e
  · rw [h, g]
def spEnds (ff : D → Bool) (fw : D → List Bool) (c : FC) : Sp := fun vs H Q _ => ∃ (ls lf tl th : Addr) (os : List Addr) (ks : List (Fin 8)) (wf wl wh : List V) (ds dl dh : List D), vs = [.ref ls, .ref lf, .ref tl, .ref th] ∧ H ls = some (.lst (os.map V.ref)) ∧ FsAt c [] H (formsK ks) os ∧ ks.length ≤ 20 ∧ S4 ff ks H lf tl th wf wl wh ds dl dh ∧
  ∀ t v, H t = none → EndOf fw (formsK ks) ds dh v → Q (.ref t) (upd H t (.tup [.str (rowS (spBeg fw (formsK ks) ds ++ spAdd fw (formsK ks) ds dl)), v]))
set_option maxHeartbeats 1000000 in
theorem ok_law_ends {f : Addr} {c : FC} {fd : FuncData} {n : Nat} {ff : D → Bool} {fw : D → List Bool} (nb : NB mg) (F : FunAt K mg "_law_ends" s_law_ends ["_law_forms", "_law_first", "_law_low", "_law_high"] f fd) (AM_row : AnyM P w K mg base (2 * (n + 2) + 5) "row" ["self", "value"] (clS c) (fun _ => spRowA has55 ff fw c (n + 2))) : DefOk P w K mg base (2 * (n + 2) + 6) "_law_ends" ["_law_forms", "_law_first", "_law_low", "_law_high"] (spEnds ff fw c) := by
  refine F.ok sc_law_ends (fun vs H Q E h => ?_) (fun cdv A outer s H vs Q E hr h => ?_)
  · obtain ⟨_, _, _, _, _, _, _, _, _, _, _, _, rfl, _⟩ := h; rfl
  obtain ⟨ls, lf, tl, th, os, ks, wf, wl, wh, ds, dl, dh, rfl, hls, hFs, hk20, S, q⟩ := h
  have hwf := DsAt.len ds S.d
  have hll := S.l
  have hol := FsAt.len _ hFs
  have hkl : (formsK ks).length = ks.length := by unfold formsK; rw [List.length_map]
  obtain ⟨hok2, hht2⟩ := okKs ks
  have hall := List.all_eq_true.mp S.t
  have sm : ∀ {a b : List Bool}, a.length ≤ 40000 → b.length ≤ 40000 → (rowS a).length + (rowS b).length ≤ sizeLine := fun h h' => by rw [rowS_length, rowS_length]; exact small5 (by omega)
  refine ⟨_, (pss_cons (ps_set (i := 4) sc_law_ends.nd rfl (by first | exact Or.inl rfl | exact Or.inr rfl) (pe_bm PySem.F.plainAttrs_str PySem.F.slot_str_join PySem.F.type_str_join mt_join pe_str (pa_cons (pe_comp ["_law_k"] [(0, "_law_forms"), (1, "_law_first")] rfl (by decide +kernel) ⟨rfl, .inl rfl, rfl, .inl rfl, trivial⟩ (pi_range1 rfl nb.range_ (pa_cons (pe_callB call_len rfl nb.len_ bo_len (pa_cons (pv 1) pa_nil)) pa_nil)) (fun _ _ _ _ _ => (pg_name (i := 0) (show (["_law_k", "_law_forms", "_law_first"] : List Str).Nodup by decide +kernel) rfl (by first | exact Or.inl rfl | exact Or.inr rfl))) (fun _ _ _ _ _ => pts_nil) (fun _ _ _ _ _ => (pe_methAny AM_row hr (pe_ix iAll (pv 1) (pv 0) (fun _ _ => rfl)) (pa_cons (pe_ix iAll (pv 2) (pv 0) (fun _ _ => rfl)) pa_nil) (hk := by omega)))) pa_nil)))
    (pss_cons (ps_set (i := 5) sc_law_ends.nd rfl (by first | exact Or.inl rfl | exact Or.inr rfl) pe_non)
    (pss_cut (ps_if (pt_cmpR op_in_str pe_str (pv 4) (by with_unfolding_all rfl)) (pss_one (ps_set (i := 5) sc_law_ends.nd rfl (by first | exact Or.inl rfl | exact Or.inr rfl) (pe_op oAdd (pe_slice slAll (pv 4) po_none (po_some (pe_bm PySem.F.plainAttrs_str PySem.F.slot_str_rfind PySem.F.type_str_rfind mt_rfind (pv 4) (pa_cons pe_str pa_nil)))) pe_str))) pss_nil)
    (pss_cut (ps_if (pt_cmpR (oNeD (room64 hr)) (pv 3) (pe_tup pa_nil) (nomark _)) (pss_one (ps_set (i := 5) sc_law_ends.nd rfl (by first | exact Or.inl rfl | exact Or.inr rfl) (pe_op oAdd (pv 4) (pe_methAny AM_row hr (pe_ix iAll (pv 0) (pe_callB call_len rfl nb.len_ bo_len (pa_cons (pv 1) pa_nil)) (fun _ _ => rfl)) (pa_cons (pe_ix iAll (pv 3) pe_int (fun _ _ => rfl)) pa_nil) (hk := by omega))))) pss_nil)
    (pss_cut (ps_if (pt_cmpR (oNeD (room64 hr)) (pv 2) (pe_tup pa_nil) (nomark _)) (pss_one (ps_set (i := 4) sc_law_ends.nd rfl (by first | exact Or.inl rfl | exact Or.inr rfl) (pe_op oAdd (pv 4) (pe_methAny AM_row hr (pe_ix iAll (pv 0) (pe_callB call_len rfl nb.len_ bo_len (pa_cons (pv 1) pa_nil)) (fun _ _ => rfl)) (pa_cons (pe_ix iAll (pv 2) pe_int (fun _ _ => rfl)) pa_nil) (hk := by omega))))) pss_nil)
    (pss_one (ps_ret (pe_tup (pa_cons (pv 4) (pa_cons (pv 5) pa_nil)))))))))), ?_⟩
  have eT : ∀ {i : Nat} {g : Fm}, (formsK ks)[i]? = some g → (formsK ks).getD i (.bare 0) = g := fun h => by rw [List.getD_eq_getElem?_getD, h]; rfl
  refine ⟨rfl, _, rfl, _, _, rfl, .inl ⟨_, SqL.of S.f, rfl⟩, _, rfl, by omega, by omega, fun D1 hD1 => ?_⟩
  rw [hwf, show (((ds.length : Nat) : Int)).toNat = ds.length by omega]
  have hb1 : (spBeg fw (formsK ks) ds).length ≤ 40000 := S5.b1 (by omega) S.t
  have hb2 : (spAdd fw (formsK ks) ds dl).length ≤ 40000 := S5.b2 S.pll S.ptl
  have hb3 : (spAdd fw (formsK ks) ds dh).length ≤ 40000 := S5.b2 S.plh S.pth
  refine comp_rangeI (fun i => V.str (rowS (rowB fw ((formsK ks).getD i (.bare 0)) (ds.getD i .non)))) (fun σ => ∃ z, σ = [z, some (.ref ls), some (.ref lf)]) (by omega) ⟨_, rfl⟩ hD1 ?_ ?_
  · rintro i hi σ1 H1 ⟨z, rfl⟩ hs1 R hR
    rw [Int.zero_add]
    obtain ⟨o, ho⟩ : ∃ o, os[i]? = some o := ⟨_, List.getElem?_eq_getElem (by omega)⟩
    obtain ⟨u, hu⟩ : ∃ u, wf[i]? = some u := ⟨_, List.getElem?_eq_getElem (by omega)⟩
    obtain ⟨g, hg, hG⟩ := FsAt.get _ hFs ho
    obtain ⟨d, hd, hdu⟩ := DsAt.get ds S.d hu
    obtain ⟨hok3, hht3⟩ := hok2.get hg
    have e2 : ds.getD i .non = d := by rw [List.getD_eq_getElem?_getD, hd]; rfl
    have hf := hall i (List.mem_range.mpr hi)
    have hp := len_spBeg fw (fs := formsK ks) hi
    rw [eT hg, e2] at hR hf hp
    have hG1 := FAt.keep (fun b u _ e => hs1 b u e) g hG
    obtain ⟨dxi, fsi, ei, li⟩ := FAt.row g hG1
    refine ⟨_, rfl, _, rfl, .inl (.inl ⟨_, _, _, _, rfl, rfl, SqL.of (hs1 _ _ hls), atI_nat (by rw [List.getElem?_map, ho]; rfl), o, slot g, dxi, fsi, rfl, ei, li, ?_⟩)⟩
    exact ⟨_, rfl, _, rfl, .inl (.inl ⟨_, _, _, _, rfl, rfl, SqL.of (hs1 _ _ S.f), atI_nat hu, slot g, o, g, u, d, rfl, rfl, hG1, hok3, by omega, DAt.same hs1 d hdu, hf, by omega, hR _ ⟨_, rfl⟩⟩)⟩
  have e : (List.range ds.length).map (fun k => V.str (rowS (rowB fw ((formsK ks).getD k (.bare 0)) (ds.getD k .non)))) = (((List.range ds.length).map fun k => rowB fw ((formsK ks).getD k (.bare 0)) (ds.getD k .non)).map rowS).map V.str := by
    rw [List.map_map, List.map_map]; rfl
  rw [e]
  have s2 := same_new (o := HO.lst ((((List.range ds.length).map fun k => rowB fw ((formsK ks).getD k (.bare 0)) (ds.getD k .non)).map rowS).map V.str)) hD1
  refine ⟨_, D1, _, rfl, rfl, SqL.of upd_same, by rw [rows_sum]; exact Nat.le_trans hb1 (by decide), ?_⟩
  rw [join_rows]
  have eB : ((List.range ds.length).map fun k => rowB fw ((formsK ks).getD k (.bare 0)) (ds.getD k .non)).flatten = spBeg fw (formsK ks) ds := rfl
  rw [eB]
  generalize upd H D1 _ = H2 at s2 ⊢
  obtain ⟨og, hog⟩ : ∃ og, os[ds.length]? = some og := ⟨_, List.getElem?_eq_getElem (by omega)⟩
  obtain ⟨g, hg, hGo⟩ := FsAt.get _ hFs hog
  obtain ⟨hokg, hhtg⟩ := hok2.get hg
  have eg := eT hg
  have empT : ∀ {H' : Hp} {t : Addr}, H' t = some (.tup []) → DAt H' (.tup []) (.ref t) := fun h => ⟨_, [], rfl, h, rfl, by decide⟩
  refine ⟨fun σ' H' => H' = H2 ∧ ∃ v, EndIs (spBeg fw (formsK ks) ds) v ∧ σ' = [some (.ref ls), some (.ref lf), some (.ref tl), some (.ref th), some (.str (rowS (spBeg fw (formsK ks) ds))), some v], ?_, ?_⟩
  · refine ⟨_, rfl, _, _, rfl, rfl, _, rfl, ?_⟩
    rw [in_row]
    rcases last_zero (spBeg fw (formsK ks) ds) with ⟨m, hm⟩ | ⟨b, m, hm⟩
    · rw [decide_eq_false (by rw [hm]; intro z; cases (List.mem_replicate.mp z).2)]
      exact iteF ⟨rfl, _, .inl ⟨m, hm, rfl⟩, rfl⟩
    · rw [decide_eq_true (by rw [hm]; simp)]
      refine iteT ⟨_, rfl, _, rfl, rfl, _, _, rfl, rfl, ?_⟩
      have lb : b.length < (spBeg fw (formsK ks) ds).length := by rw [hm, List.length_append, List.length_cons]; omega
      rw [hm, rfind_row, ← hm]
      refine ⟨_, rfl, .inr ⟨_, rfl, (by rw [rowS_length]; exact small5 (by omega)), ?_⟩⟩
      rw [slice_to _ _ (by omega)]
      have et : (spBeg fw (formsK ks) ds).take b.length = b := by rw [hm, List.take_append_of_le_length (Nat.le_refl _), List.take_length]
      rw [et]
      refine .inr ⟨_, _, rfl, rfl, (by rw [s1]; exact sm (by omega) (by decide)), ?_⟩
      rw [s1, rowS_append]
      exact ⟨rfl, _, .inr ⟨b, m, hm, rfl⟩, rfl⟩
  rintro σ3 H3 ⟨rfl, v, hv, rfl⟩
  refine ⟨fun σ' H' => Same H H' ∧ ∃ v, EndOf fw (formsK ks) ds dh v ∧ σ' = [some (.ref ls), some (.ref lf), some (.ref tl), some (.ref th), some (.str (rowS (spBeg fw (formsK ks) ds))), some v], ?_, ?_⟩
  · refine ⟨_, rfl, Nat.zero_le _, fun t ht => ?_⟩
    have s4 := s2.trans (same_new (o := HO.tup []) ht)
    refine .inr ⟨.tup dh, .tup [], ⟨th, wh, rfl, s4 _ _ S.peh, DsAt.same s4 _ S.pdh, by have := S.plh; have := DsAt.len dh S.pdh; omega⟩, empT upd_same, (by rw [dht]; have := key_dep ff ks ds dh S.pth; omega), _, rfl, ?_⟩
    rcases one_or S.plh with rfl | ⟨y, rfl⟩
    · rw [show eqDD (.tup []) (.tup []) = true from eqDD_refl _]
      exact iteF ⟨s4, v, .inl ⟨rfl, hv⟩, rfl⟩
    · obtain ⟨u0, r0, rfl, hy, hr'⟩ := S.pdh
      obtain rfl : r0 = [] := hr'
      have fy : fitB ff g y = true := by have := List.all_eq_true.mp S.pth y (List.mem_singleton.mpr rfl); unfold fitOne at this; rwa [eg] at this
      rw [show eqDD (.tup [y]) (.tup []) = false by rw [eqDD]; show eqDs [y] [] = false; rw [eqDs]]
      have hG1 := FAt.keep (fun b u _ e => s4 b u e) g hGo
      obtain ⟨dxi, fsi, ei, li⟩ := FAt.row g hG1
      rw [add_one, eg] at hb3
      refine iteT ⟨_, rfl, _, rfl, _, rfl, _, _, rfl, .inl ⟨_, SqL.of (s4 _ _ S.f), rfl⟩, .inl (.inl ⟨_, _, _, _, rfl, rfl, SqL.of (s4 _ _ hls), (by rw [hwf]; exact atI_nat (by rw [List.getElem?_map, hog]; rfl)), og, slot g, dxi, fsi, rfl, ei, li, ?_⟩)⟩
      refine ⟨_, rfl, .inl (.inr ⟨_, _, _, _, rfl, rfl, SqT.of (s4 _ _ S.peh), atI_nat (j := 0) rfl, slot g, og, g, u0, y, rfl, rfl, hG1, hokg, by omega, DAt.same s4 y hy, fy, by omega, .inr ⟨_, _, rfl, rfl, sm hb1 hb3, ?_⟩⟩)⟩
      rw [rowS_append]
      exact ⟨s4, _, .inr ⟨by simp, by rw [add_one, eg]⟩, rfl⟩
  rintro σ4 H4 ⟨s4, v, hv, rfl⟩
  refine ⟨fun σ' H' => Same H H' ∧ σ' = [some (.ref ls), some (.ref lf), some (.ref tl), some (.ref th), some (.str (rowS (spBeg fw (formsK ks) ds ++ spAdd fw (formsK ks) ds dl))), some v], ?_, ?_⟩
  · refine ⟨_, rfl, Nat.zero_le _, fun t ht => ?_⟩
    have s5 := s4.trans (same_new (o := HO.tup []) ht)
    refine .inr ⟨.tup dl, .tup [], ⟨tl, wl, rfl, s5 _ _ S.pel, DsAt.same s5 _ S.pdl, by have := S.pll; have := DsAt.len dl S.pdl; omega⟩, empT upd_same, (by rw [dht]; have := key_dep ff ks ds dl S.ptl; omega), _, rfl, ?_⟩
    rcases one_or S.pll with rfl | ⟨y, rfl⟩
    · rw [show eqDD (.tup []) (.tup []) = true from eqDD_refl _]
      refine iteF ⟨s5, ?_⟩
      rw [add_none, List.append_nil]
    · obtain ⟨u0, r0, rfl, hy, hr'⟩ := S.pdl
      obtain rfl : r0 = [] := hr'
      have fy : fitB ff g y = true := by have := List.all_eq_true.mp S.ptl y (List.mem_singleton.mpr rfl); unfold fitOne at this; rwa [eg] at this
      rw [show eqDD (.tup [y]) (.tup []) = false by rw [eqDD]; show eqDs [y] [] = false; rw [eqDs]]
      have hG1 := FAt.keep (fun b u _ e => s5 b u e) g hGo
      obtain ⟨dxi, fsi, ei, li⟩ := FAt.row g hG1
      rw [add_one, eg] at hb2
      refine iteT ⟨_, rfl, _, rfl, _, rfl, _, _, rfl, .inl ⟨_, SqL.of (s5 _ _ S.f), rfl⟩, .inl (.inl ⟨_, _, _, _, rfl, rfl, SqL.of (s5 _ _ hls), (by rw [hwf]; exact atI_nat (by rw [List.getElem?_map, hog]; rfl)), og, slot g, dxi, fsi, rfl, ei, li, ?_⟩)⟩
      refine ⟨_, rfl, .inl (.inr ⟨_, _, _, _, rfl, rfl, SqT.of (s5 _ _ S.pel), atI_nat (j := 0) rfl, slot g, og, g, u0, y, rfl, rfl, hG1, hokg, by omega, DAt.same s5 y hy, fy, by omega, .inr ⟨_, _, rfl, rfl, sm hb1 hb2, ?_⟩⟩)⟩
      rw [rowS_append]
      exact ⟨s5, by rw [add_one, eg]; rfl⟩
  rintro σ5 H5 ⟨s5, rfl⟩
  exact ⟨_, rfl, _, rfl, two_ok7, fun t ht => ⟨_, .new (s5.free ht) (s5.trans (same_new ht)) upd_same trivial, q t v (s5.free ht) hv⟩⟩

/-! ### k54: the law -/
theorem fsAt_of {c : FC} {X : List Addr} {H : Hp} {fk : Nat → Fm} : ∀ (ys : List V) (i : Nat), (∀ k y, ys[k]? = some y → ∃ o, y = .ref o ∧ FAt c X H (fk (i + k)) o) → ∃ os : List Addr, ys = os.map V.ref ∧ FsAt c X H ((List.range ys.length).map fun k => fk (i + k)) os
  | [], i, _ => ⟨[], rfl, rfl⟩
  | y :: ys, i, h => by
    obtain ⟨o, rfl, hF⟩ := h 0 y rfl
    obtain ⟨os, e1, e4⟩ := fsAt_of (fk := fk) ys (i + 1) fun k y hk => by
      have := h (k + 1) y hk
      rw [show i + (k + 1) = i + 1 + k by omega] at this
      exact this
    refine ⟨o :: os, by rw [e1]; rfl, ?_⟩
    rw [List.length_cons, List.range_succ_eq_map, List.map_cons, List.map_map]
    refine ⟨o, _, rfl, hF, ?_⟩
    have e : (fun k => fk (i + k)) ∘ Nat.succ = fun k => fk (i + 1 + k) := by
      funext k
      show fk (i + (k + 1)) = _
      rw [show i + (k + 1) = i + 1 + k by omega]
    rw [e]
    exact e4
theorem formsK_range (ks : List (Fin 8)) : (List.range ks.length).map (fun i => (formsK ks).getD i (.bare 0)) = formsK ks := by
  apply List.ext_getElem
  · unfold formsK; simp
  · intro i h1 h2
    rw [List.getElem_map, List.getElem_range, List.getD_eq_getElem?_getD, List.getElem?_eq_getElem h2]; rfl
theorem EndOf.d {fw : D → List Bool} {fs : List Fm} {ds dh : List D} {v : V} (h : EndOf fw fs ds dh v) (h1 : (spBeg fw fs ds).length ≤ 40000) (h2 : (spAdd fw fs ds dh).length ≤ 40000) : ∃ dv, dht dv ≤ 1 ∧ ∀ H : Hp, DAt H dv v := by
  rcases h with ⟨_, ⟨n, _, rfl⟩ | ⟨b, n, e, rfl⟩⟩ | ⟨_, rfl⟩
  · exact ⟨.non, by rw [dht]; omega, fun H => rfl⟩
  · refine ⟨.str (rowS (b ++ [true])), by rw [dht]; omega, fun H => ⟨rfl, ?_⟩⟩
    rw [e, List.length_append, List.length_cons] at h1
    rw [rowS_length, List.length_append, List.length_singleton]
    omega
  · refine ⟨.str (rowS (spBeg fw fs ds ++ spAdd fw fs ds dh)), by rw [dht]; omega, fun H => ⟨rfl, ?_⟩⟩
    rw [rowS_length, List.length_append]
    omega
set_option maxHeartbeats 2000000 in
theorem ok_law54 {f : Addr} {c : FC} {fd : FuncData} {ff : D → Bool} {fw : D → List Bool} (nb : NB mg) (F : Fun K "law" "law" s_law f fd) (D_law_words : DefOk P w K mg base 2 "_law_words" ["_law_script"] (spWords K)) (D_law_form : DefOk P w K mg base 4 "_law_form" ["_law_word"] (spFormK c)) (M_Record : MakeOk P w K mg base 4 "Record" (c.t 0) ["self", "parts"] (spTwoInit (c.t 0)))
    (D_law_start : DefOk P w K mg base 2 "_law_start" ["_law_script", "_law_words_here"] (spStart K ff)) (D_span_of : DefOk P w K mg base 10 "span_of" ["form", "first", "low", "high"] (spSpanOf has55 ff fw c 2)) (D_law_ends : DefOk P w K mg base 10 "_law_ends" ["_law_forms", "_law_first", "_law_low", "_law_high"] (spEnds ff fw c)) (D_law_drawn : DefOk P w K mg base 2 "_law_drawn" ["_law_script", "_law_words_here", "_law_first", "_law_k"] (spDrawn K ff)) (AM_row : AnyM P w K mg base 11 "row" ["self", "value"] (clS c) (fun _ => spRowA has55 ff fw c 3))
    (D_law_inside : DefOk P w K mg base 2 "_law_inside" ["_law_words_here", "_law_value_here", "_law_first", "_law_low", "_law_high"] (spInside ff)) : FnOk P w K mg base CX0 13 f fd ["_law_script"] (spLaw K) := by
  refine F.okK sc_law (fun vs H Q E h => ?_) (fun cdv A outer s H vs Q E hr h => ?_)
  · obtain ⟨a, ns, rfl, _⟩ := h; rfl
  obtain ⟨a, ns, rfl, hS, hl, q⟩ := h
  refine ⟨_, (pss_cons (ps_set (i := 1) sc_law.nd rfl (by first | exact Or.inl rfl | exact Or.inr rfl) (pe_callD D_law_words hr (pa_cons (pv 0) pa_nil) (hk := by omega)))
    (pss_cons (ps_set (i := 2) sc_law.nd rfl (by first | exact Or.inl rfl | exact Or.inr rfl) (pe_comp ["_law_word"] [] rfl (by decide +kernel) trivial (piAll (pv 1)) (fun _ _ _ _ _ => (pg_name (i := 0) (show (["_law_word"] : List Str).Nodup by decide +kernel) rfl (by first | exact Or.inl rfl | exact Or.inr rfl))) (fun _ _ _ _ _ => pts_nil) (fun _ _ _ _ _ => (pe_callD D_law_form hr (pa_cons (pv 0) pa_nil) (hk := by omega)))))
    (pss_cons (ps_set (i := 3) sc_law.nd rfl (by first | exact Or.inl rfl | exact Or.inr rfl) (pe_makeD M_Record hr (pa_cons (pe_comp ["_law_k"] [(2, "_law_forms")] rfl (by decide +kernel) ⟨rfl, .inl rfl, trivial⟩ (pi_range1 rfl nb.range_ (pa_cons (pe_callB call_len rfl nb.len_ bo_len (pa_cons (pv 1) pa_nil)) pa_nil)) (fun _ _ _ _ _ => (pg_name (i := 0) (show (["_law_k", "_law_forms"] : List Str).Nodup by decide +kernel) rfl (by first | exact Or.inl rfl | exact Or.inr rfl))) (fun _ _ _ _ _ => pts_nil) (fun _ _ _ _ _ => (pe_tup (pa_cons (pe_op oAdd pe_str (pe_ix iAll pe_str (pv 0) (fun _ _ => rfl))) (pa_cons (pe_ix iAll (pv 1) (pv 0) (fun _ _ => rfl)) pa_nil))))) pa_nil) (hk := by omega)))
    (pss_cons (ps_asg (pe_callD D_law_start hr (pa_cons (pv 0) (pa_cons (pv 1) pa_nil)) (hk := by omega)) (pg_tupL rfl (pgs_cons (pg_name (i := 4) sc_law.nd rfl (by first | exact Or.inl rfl | exact Or.inr rfl)) (pgs_cons (pg_name (i := 5) sc_law.nd rfl (by first | exact Or.inl rfl | exact Or.inr rfl)) (pgs_cons (pg_name (i := 6) sc_law.nd rfl (by first | exact Or.inl rfl | exact Or.inr rfl)) pgs_nil)))))
    (pss_cons (ps_set (i := 7) sc_law.nd rfl (by first | exact Or.inl rfl | exact Or.inr rfl) (pe_callTy call_list_of rfl nb.list_ bo_list (pa_cons (pv 4) pa_nil)))
    (pss_cons (ps_set (i := 8) sc_law.nd rfl (by first | exact Or.inl rfl | exact Or.inr rfl) (pe_callD D_span_of hr (pa_cons (pv 3) (pa_cons (pv 7) (pa_cons (pv 5) (pa_cons (pv 6) pa_nil)))) (hk := by omega)))
    (pss_cons (ps_if (PW.pt (pw_or (pt_not (pt_truth (pe_callB call_isinstA rfl nb.isinstance_ bo_isinstance (pa_cons (pv 8) (pa_cons (pe_bltn (v := .ty "tuple") rfl nb.tuple_ bo_tuple rfl) pa_nil))) (fun _ => rfl))) (pw_or (pt_cmpR (oNeD (room64 hr)) (pe_callB call_len rfl nb.len_ bo_len (pa_cons (pv 8) pa_nil)) pe_int (nomark _)) (pw_or1 (pt_cmpR (oNeD (room64 hr)) (pv 7) (pv 4) (nomark _)))))) (pss_one (ps_ret pe_bl)) pss_nil)
    (pss_cons (ps_if (pt_cmpR (oNeD (room64 hr)) (pv 8) (pe_callD D_law_ends hr (pa_cons (pv 2) (pa_cons (pv 4) (pa_cons (pv 5) (pa_cons (pv 6) pa_nil)))) (hk := by omega)) (nomark _)) (pss_one (ps_ret pe_bl)) pss_nil)
    (pss_cons (ps_for PassesOwn.never rfl (pi_range1 rfl nb.range_ (pa_cons (pe_callB call_len rfl nb.len_ bo_len (pa_cons (pe_slice slAll (pv 0) po_none (po_some pe_int)) pa_nil)) pa_nil)) (pg_name (i := 9) sc_law.nd rfl (by first | exact Or.inl rfl | exact Or.inr rfl))
      (pss_cons (ps_set (i := 10) sc_law.nd rfl (by first | exact Or.inl rfl | exact Or.inr rfl) (pe_callD D_law_drawn hr (pa_cons (pv 0) (pa_cons (pv 1) (pa_cons (pv 4) (pa_cons (pv 9) pa_nil)))) (hk := by omega)))
      (pss_cons (ps_set (i := 11) sc_law.nd rfl (by first | exact Or.inl rfl | exact Or.inr rfl) (pe_methAny AM_row hr (pv 3) (pa_cons (pv 10) pa_nil) (hk := by omega)))
      (pss_cons (ps_set (i := 12) sc_law.nd rfl (by first | exact Or.inl rfl | exact Or.inr rfl) (pe_and (pe_cmpR op_le_str (pe_ix iAll (pv 8) pe_int (fun _ _ => rfl)) (pv 11) (nomark _)) (pe_one (pe_or (pe_cmpR op_isN (pe_ix iAll (pv 8) pe_int (fun _ _ => rfl)) pe_non (nomark _)) (pe_one (pe_cmpR oLt (pv 11) (pe_ix iAll (pv 8) pe_int (fun _ _ => rfl)) (nomark _)))))))
      (pss_one (ps_if (pt_cmpR (oNeD (room64 hr)) (pv 12) (pe_callD D_law_inside hr (pa_cons (pv 1) (pa_cons (pv 10) (pa_cons (pv 4) (pa_cons (pv 5) (pa_cons (pv 6) pa_nil))))) (hk := by omega)) (nomark _)) (pss_one (ps_ret pe_bl)) pss_nil))))))
    (pss_one (ps_ret pe_bl))))))))))), ?_⟩
  refine ⟨_, rfl, a, ns, rfl, hS, hl, fun rw ks hrw hk0 hk20 => ?_⟩
  have X1 := Ext.lst (xs := ks.map fun k => V.str (wordK k)) hrw
  have hw1 : upd H rw (.lst (ks.map fun k => V.str (wordK k))) rw = _ := upd_same
  generalize upd H rw (.lst (ks.map fun k => V.str (wordK k))) = H1 at X1 hw1 ⊢
  have lk : ((ks.map fun k => V.str (wordK k)).length : Int) = ((ks.length : Nat) : Int) := by rw [List.length_map]
  refine .inl ⟨_, rfl, rw, rfl, ⟨_, SqL.of hw1⟩, fun Df hDf => ?_⟩
  refine comp_listP (K := K) (a := rw) (xs := ks.map fun k => V.str (wordK k)) (fun i y H' => ∃ o, y = .ref o ∧ FAt c [Df] H' ((formsK ks).getD i (.bare 0)) o) (fun σ => ∃ z, σ = [z]) ?_ (by rw [List.length_map]; omega) ⟨_, rfl⟩ hDf (SqL.of hw1) ?_ ?_
  · rintro i y H2 H3 hk ⟨o, e, hF⟩
    exact ⟨o, e, FAt.keep (fun b u n e => hk b u (fun z => n (List.mem_singleton.mpr z)) e) _ hF⟩
  · rintro i x hx σ1 H2 ⟨z, rfl⟩ hs1 ⟨l, hDl⟩ R hR
    rw [List.getElem?_map] at hx
    obtain ⟨kw, hkw, rfl⟩ := Option.map_eq_some_iff.mp hx
    refine ⟨_, rfl, kw, [Df], rfl, (in_one hDl), fun r H' X' hF => hR _ _ _ ⟨_, rfl⟩ X'.s X'.c ⟨r, rfl, ?_⟩⟩
    rw [formsK_get hkw]; exact hF
  intro ys H2 hyl hs2 hc2 hD2 hPr
  obtain ⟨os, rfl, hFs⟩ := fsAt_of (c := c) (X := [Df]) (H := H2) (fk := fun i => (formsK ks).getD i (.bare 0)) ys 0 fun k y hk => by rw [Nat.zero_add]; exact hPr k y hk
  rw [List.length_map] at hyl
  simp only [Nat.zero_add, hyl, List.length_map, formsK_range] at hFs
  have hol : os.length = ks.length := by rw [hyl, List.length_map]
  have hw2 := hs2 _ _ hw1
  refine ⟨_, rfl, _, _, rfl, .inl ⟨_, SqL.of hw2, rfl⟩, _, rfl, by rw [lk]; omega, by rw [lk]; omega, fun Dc hD => ?_⟩
  rw [lk, show (((ks.length : Nat) : Int)).toNat = ks.length by omega]
  have hFs0 : FsAt c [] H2 (formsK ks) os := FsAt.weak (fun z hz => absurd hz List.not_mem_nil) _ hFs
  refine comp_rangeP (fun i y H' => ∃ T o, y = .ref T ∧ T ≠ Dc ∧ H' T = some (.tup [.str (nmK i), .ref o]) ∧ os[i]? = some o) (fun σ => ∃ z, σ = [z, some (.ref Df)]) ?_ (by omega) ⟨_, rfl⟩ hD ?_ ?_
  · rintro i y H1 H2' hk ⟨T, o, e, nT, hT, ho⟩
    exact ⟨T, o, e, nT, hk _ _ nT hT, ho⟩
  · rintro i hi σ1 H3 ⟨z, rfl⟩ hs1 ⟨l, hDl⟩ R hR
    rw [Int.zero_add]
    obtain ⟨o, ho⟩ : ∃ o, os[i]? = some o := ⟨_, List.getElem?_eq_getElem (by omega)⟩
    have hf1 := hs1 _ _ hD2
    refine ⟨_, rfl, .inr ⟨_, _, _, rfl, rfl, small5 (by decide +kernel), t20_at (by omega), .inr ⟨_, _, rfl, rfl, small5 (Nat.le_trans (Nat.add_le_add (show (Str.ofString "p").length ≤ 1 by decide +kernel) (Nat.le_refl 1)) (by decide)), ?_⟩⟩⟩
    refine ⟨_, rfl, _, rfl, .inl (.inl ⟨_, _, _, _, rfl, rfl, SqL.of hf1, atI_nat (by rw [List.getElem?_map, ho]; rfl), two_ok7, fun T hT => ?_⟩)⟩
    have nT : T ≠ Dc := fun z => by rw [z, hDl] at hT; cases hT
    exact hR _ _ _ ⟨_, rfl⟩ (same_new hT) (fun cl => closed_new cl hT trivial) ⟨T, o, rfl, nT, upd_same, ho⟩
  intro ys H' hyl2 hs' hc' hD' hPr2
  have hFs' : FsAt c [] H' (formsK ks) os := FsAt.keep (fun b u _ e => hs' b u e) _ hFs0
  have eT : ∀ {i : Nat} {g : Fm}, (formsK ks)[i]? = some g → (formsK ks).getD i (.bare 0) = g := fun h => by rw [List.getD_eq_getElem?_getD, h]; rfl
  obtain ⟨ps, e1, e2, e3, e4⟩ := parts_of (c := c) (X := []) (H := H') (fk := fun i => (formsK ks).getD i (.bare 0)) (nm := nmK) ys 0 fun k y hk => by
    obtain ⟨T, o, e, nT, hT, ho⟩ := hPr2 k y hk
    obtain ⟨g, hg, hG⟩ := FsAt.get _ hFs' ho
    rw [Nat.zero_add]
    exact ⟨T, o, e, hT, by rw [eT hg]; exact hG⟩
  simp only [Nat.zero_add, hyl2, formsK_range] at e2 e4
  have hpl : ps.length = ks.length := by have := congrArg List.length e1; rw [List.length_map] at this; omega
  refine fun x dx h1 h2 h3 => ⟨x, dx, Dc, ps, rfl, upd_same, ⟨?_, fun y hy => (Ext.made h1 h2 h3).s _ _ (e3 y hy), by omega, fun y hy => ?_⟩, by rw [e2]; exact names20 ⟨ks.length, by omega⟩ hk0, fun l1 l2 hl1 hl2 hne => ⟨rfl, ?_⟩⟩
  · rw [← e1]; exact (Ext.made h1 h2 h3).s _ _ hD'
  · have hy2 : y.2.1 ∈ nms ps := List.mem_map_of_mem (f := fun x => x.2.1) hy
    rw [e2] at hy2
    obtain ⟨k, _, ek⟩ := List.mem_map.mp hy2
    rw [← ek]
    show (Str.ofString "p" ++ (⟨#[T20.cps.toList.getD k 97]⟩ : Str)).length ≤ 100
    rw [app_len]
    exact Nat.le_trans (Nat.add_le_add (show (Str.ofString "p").length ≤ 1 by decide +kernel) (Nat.le_refl 1)) (by decide)
  have M := Ext.made (C := c.t 0) (fs := []) h1 h2 h3
  have hx1 : x ≠ l1 := fun z => by rw [← z, upd_same] at hl1; cases hl1
  have hx2 : x ≠ l2 := fun z => by rw [← z, upd_same] at hl2; cases hl2
  have sN : Same H' (upd (upd (upd (upd (upd H' dx (.own x)) x (.ins (c.t 0) dx [])) l1 (.lst ((nms ps).map V.str))) l2 (.lst ((fms ps).map V.ref))) x (.ins (c.t 0) dx (twoF l1 l2))) := fun b u e => by
    have e' := M.s b u e
    rw [upd_ne (ne_of_none e h1), upd_ne (ne_of_none e' hl2), upd_ne (ne_of_none e' hl1)]
    exact e'
  have FO : FAt c [] (upd (upd (upd (upd (upd H' dx (.own x)) x (.ins (c.t 0) dx [])) l1 (.lst ((nms ps).map V.str))) l2 (.lst ((fms ps).map V.ref))) x (.ins (c.t 0) dx (twoF l1 l2))) (.two 0 ((List.range ks.length).map nmK) (formsK ks)) x := by
    refine ⟨(fun z => nomatch z), dx, l1, l2, fms ps, upd_same, (fun z => nomatch z), (fun z => nomatch z), ?_, ?_, FsAt.keep (fun b u _ e => sN b u e) _ e4⟩
    · rw [upd_ne (Ne.symm hx1), upd_ne hne, upd_same, e2]
    · rw [upd_ne (Ne.symm hx2), upd_same]
  generalize upd (upd (upd (upd (upd H' dx (.own x)) x (.ins (c.t 0) dx [])) l1 (.lst ((nms ps).map V.str))) l2 (.lst ((fms ps).map V.ref))) x (.ins (c.t 0) dx (twoF l1 l2)) = H3 at FO sN ⊢
  have s3 : Same H H3 := ((X1.s.trans hs2).trans hs').trans sN
  have hw3 := sN _ _ (hs' _ _ hw2)
  have hls3 := sN _ _ (hs' _ _ hD2)
  have hFs3 : FsAt c [] H3 (formsK ks) os := FsAt.keep (fun b u _ e => sN b u e) _ hFs'
  clear sN M hPr hPr2
  refine ⟨_, rfl, _, rfl, a, rw, ns, ks, rfl, s3.seq hS, hl, hw3, hk0, hk20, fun r lf tl th wf wl wh ds dl dh H4 X4 hr4 S => ?_⟩
  refine ⟨r, _, rfl, SqL.of hr4, rfl, _, _, rfl, _, _, rfl, _, _, rfl, rfl, ?_⟩
  refine ⟨_, rfl, lf, _, rfl, .inl (SqL.of S.f), fun lh hlh => ?_⟩
  have s5 := X4.s.trans (same_new (o := HO.lst wf) hlh)
  have S5' := S.same (same_new (o := HO.lst wf) hlh)
  have FO5 := FAt.keep (fun b u _ e => s5 b u e) _ FO
  have hlh5 : upd H4 lh (.lst wf) lh = some (.lst wf) := upd_same
  have hFs5 : FsAt c [] (upd H4 lh (.lst wf)) (formsK ks) os := FsAt.keep (fun b u _ e => s5 b u e) _ hFs3
  generalize upd H4 lh (.lst wf) = H5 at s5 S5' FO5 hlh5 hFs5 ⊢
  have hkl : (formsK ks).length = ks.length := by unfold formsK; rw [List.length_map]
  have hl1 := S.l
  have hokF : okH has55 (.two 0 ((List.range ks.length).map nmK) (formsK ks)) := by
    obtain ⟨⟨h1, h2⟩, h3⟩ := okKs ks
    constructor
    · rw [okF]
      exact ⟨names20 ⟨ks.length, by omega⟩ hk0, by rw [hkl, List.length_map, List.length_range], h1⟩
    · rw [inS]
      exact ⟨rfl, h2⟩
  have hht : ht (.two 0 ((List.range ks.length).map nmK) (formsK ks)) ≤ 3 := by rw [ht]; have := (okKs ks).2; omega
  have hdue : dueS ff (formsK ks) ds dl dh = true := by
    unfold dueS
    simp only [Bool.and_eq_true, decide_eq_true_eq]
    exact ⟨⟨by omega, S.t⟩, S.ptl, S.pth⟩
  have hb1 : (spBeg fw (formsK ks) ds).length ≤ 40000 := S5.b1 (by omega) S.t
  have hb2 : (spAdd fw (formsK ks) ds dl).length ≤ 40000 := S5.b2 S.pll S.ptl
  have hb3 : (spAdd fw (formsK ks) ds dh).length ≤ 40000 := S5.b2 S.plh S.pth
  refine ⟨_, rfl, _, rfl, _, rfl, _, rfl, _, _, ds, dl, dh, ⟨⟨x, lh, tl, th, wf, wl, wh, rfl, FO5, hlh5, S5'.d, S5'.pel, S5'.pdl, S5'.peh, S5'.pdh⟩, hokF, hht, by omega, S.pll, S.plh⟩, hdue, hb1, hb2, hb3, fun tf v htf hv => ?_⟩
  have hv : EndOf fw (formsK ks) ds dh v := hv
  have s6 := same_new (o := HO.tup [.str (rowS (spBeg fw (formsK ks) ds ++ spAdd fw (formsK ks) ds dl)), v]) htf
  have S6 := S5'.same s6
  have FO6 := FAt.keep (fun b u _ e => s6 b u e) _ FO5
  have hFs6 : FsAt c [] _ (formsK ks) os := FsAt.keep (fun b u _ e => s6 b u e) _ hFs5
  have hlh6 := s6 _ _ hlh5
  have s56 := s5.trans s6
  have htf6 : upd H5 tf (.tup [.str (rowS (spBeg fw (formsK ks) ds ++ spAdd fw (formsK ks) ds dl)), v]) tf = _ := upd_same
  generalize upd H5 tf (.tup [.str (rowS (spBeg fw (formsK ks) ds ++ spAdd fw (formsK ks) ds dl)), v]) = H6 at s6 s56 S6 FO6 hFs6 hlh6 htf6 ⊢
  have hw6 := s56 _ _ hw3
  have hls6 := s56 _ _ hls3
  have hwf := DsAt.len ds S.d
  have hp4 := S.p
  have hL : ∀ l, H6 l = some (.lst wf) → DAt H6 (.lst ds) (.ref l) := fun l e => ⟨l, wf, rfl, e, S6.d, by omega⟩
  refine ⟨_, rfl, .inl ⟨_, _, _, true, rfl, .tup htf6, kit_same .., _, rfl, iteF ?_⟩⟩
  refine ⟨_, rfl, _, _, rfl, .inr ⟨_, SqT.of htf6, rfl⟩, .inl ⟨rfl, _, rfl, ?_⟩⟩
  refine iteNS rfl ?_
  refine ⟨_, rfl, _, rfl, .inr ⟨.lst ds, .lst ds, hL _ hlh6, hL _ S6.f, by rw [dht]; omega, _, rfl, ?_⟩⟩
  rw [eqDD_refl]
  refine iteF ?_
  obtain ⟨dv, hdv1, hdv⟩ := hv.d hb1 hb3
  refine ⟨_, rfl, _, rfl, _, rfl, _, rfl, _, rfl, Df, lf, tl, th, os, ks, wf, wl, wh, ds, dl, dh, rfl, hls6, hFs6, hk20, S6, fun te v' hte hv' => ?_⟩
  obtain rfl := hv.inj hv'
  have s7 := same_new (o := HO.tup [.str (rowS (spBeg fw (formsK ks) ds ++ spAdd fw (formsK ks) ds dl)), v]) hte
  have hdt : ∀ {H : Hp} {t : Addr}, H t = some (.tup [.str (rowS (spBeg fw (formsK ks) ds ++ spAdd fw (formsK ks) ds dl)), v]) → DAt H (.tup [.str (rowS (spBeg fw (formsK ks) ds ++ spAdd fw (formsK ks) ds dl)), dv]) (.ref t) := fun e => ⟨_, _, rfl, e, ⟨_, _, rfl, ⟨rfl, by rw [rowS_length, List.length_append]; omega⟩, _, _, rfl, hdv _, rfl⟩, (show 2 ≤ 1000 by decide)⟩
  refine .inr ⟨_, _, hdt (s7 _ _ htf6), hdt upd_same, by rw [dht, dhts, dhts, dhts, dht]; omega, _, rfl, ?_⟩
  rw [eqDD_refl]
  refine iteF ?_
  have S7 := S6.same s7
  have FO7 := FAt.keep (fun b u _ e => s7 b u e) _ FO6
  have htf7 := s7 _ _ htf6
  have hw7 := s7 _ _ hw6
  have sH7 : Same H _ := (s3.trans s56).trans s7
  generalize upd H6 te _ = H7 at s7 S7 FO7 htf7 hw7 sH7 ⊢
  refine ⟨_, rfl, _, rfl, .inl ⟨a, _, rfl, sH7.seq hS, fun p hp => ⟨_, _, rfl, .inl ⟨_, SqL.of upd_same, rfl⟩, _, rfl, ?_⟩⟩⟩
  have hcut := cutV_length (ns.map V.int) none (some 63)
  rw [List.length_map] at hcut
  have s8 := same_new (o := HO.lst (cutV (ns.map V.int) none (some 63))) hp
  refine ⟨by omega, by omega, ?_⟩
  generalize hm : ((cutV (ns.map V.int) none (some 63)).length : Int).toNat = m
  have hm2 : m ≤ ns.length := by omega
  refine for_range (fun i σ H8 => Same H7 H8 ∧ ∃ z9 z10 z11 z12, σ = [some (.ref a), some (.ref rw), some (.ref Df), some (.ref x), some (.ref lf), some (.ref tl), some (.ref th), some (.ref lh), some (.ref tf), z9, z10, z11, z12]) ⟨s8, _, _, _, _, rfl⟩ ?_ ?_
  · rintro i σ H8 hi ⟨s78, z9, z10, z11, z12, rfl⟩
    rw [Int.zero_add]
    have S8 := S7.same s78
    refine ⟨_, rfl, _, rfl, _, rfl, _, rfl, a, rw, lf, ns, ks, wf, ds, i, rfl, (sH7.trans s78).seq hS, hl, by omega, s78 _ _ hw7, hk0, hk20, S8.f, S8.d, S8.l, S8.t, S8.p, fun T es ws H9 X9 hT hes hfv hdp => ?_⟩
    have s79 := s78.trans X9.s
    have S9 := S7.same s79
    have FO9 := FAt.keep (fun b u _ e => s79 b u e) _ FO7
    have htf9 := s79 _ _ htf7
    obtain ⟨dxi, fsi, ei, li⟩ := FAt.row _ FO9
    have hel : es.length = (formsK ks).length := by have := hfv.1; omega
    have hwsl := DsAt.len es hes
    have hfit : fitB ff (.two 0 ((List.range ks.length).map nmK) (formsK ks)) (.tup es) = true := by
      rw [fitB]
      show fitL ff (formsK ks) es = true
      rw [fitL_all ff _ _ hel]
      exact List.all_eq_true.mpr fun j hj => hfv.2 j (by have := List.mem_range.mp hj; omega)
    have hrow : rowB fw (.two 0 ((List.range ks.length).map nmK) (formsK ks)) (.tup es) = (rowsOf fw (formsK ks) es).flatten := by
      rw [rowB]
      show rowL fw (formsK ks) es = _
      rw [rowL_flat fw _ _ hel]
      unfold rowsOf
      rw [hel]
    have hrl : (rowsOf fw (formsK ks) es).flatten.length ≤ 40000 := by
      have := flat_le (l := List.range es.length) (f := fun i => rowB fw ((formsK ks).getD i (.bare 0)) (es.getD i .non)) (B := 700) fun j hj => by
        have h2 := hfv.2 j (by have := List.mem_range.mp hj; omega)
        obtain ⟨k, hk⟩ := formsK_any ks j
        rw [hk] at h2 ⊢
        exact rowK_len ff fw k _ h2
      rw [List.length_range] at this
      unfold rowsOf
      omega
    refine ⟨_, rfl, x, _, dxi, fsi, rfl, ei, li, _, rfl, _, x, _, .ref T, .tup es, rfl, rfl, FO9, hokF, hht, ⟨T, ws, rfl, hT, hes, by omega⟩, hfit, by rw [hrow]; omega, ?_⟩
    rw [hrow]
    have IM := ins_math (fw := fw) hfv (by omega) S.t S.pll S.plh S.ptl S.pth hv
    generalize hR : (rowsOf fw (formsK ks) es).flatten = row at IM hrl ⊢
    generalize hlo : rowS (spBeg fw (formsK ks) ds ++ spAdd fw (formsK ks) ds dl) = lo at IM htf9 ⊢
    refine ⟨_, rfl, .inl (.inr ⟨_, _, _, _, rfl, rfl, SqT.of htf9, atI_nat (j := 0) rfl, _, rfl, _, _, rfl, rfl, _, rfl, ?_⟩)⟩
    cases hA : decide ((rowS row).cps.toList < lo.cps.toList) with
    | true =>
      have hI : insB ks es ds dl dh = false := by rw [← IM, hA]; rfl
      show if false = true then _ else _
      refine iteF ?_
      refine ⟨_, rfl, _, rfl, _, rfl, _, rfl, _, rfl, _, rfl, rw, T, lf, tl, th, ks, ws, wf, wl, wh, es, ds, dl, dh, rfl, s79 _ _ hw7, hk20, hT, hes, hfv, S9, .inl ⟨rfl, _, rfl, ?_⟩⟩
      rw [hI]
      exact iteNS rfl ⟨s79, _, _, _, _, rfl⟩
    | false =>
      show if true = true then _ else _
      refine iteT ⟨_, rfl, .inl (.inr ⟨_, _, _, _, rfl, rfl, SqT.of htf9, atI_nat (j := 1) rfl, rfl, _, rfl, ?_⟩)⟩
      have hve : v = .non ∨ ∃ e, v = .str e := by
        rcases hv with ⟨_, ⟨n, _, rfl⟩ | ⟨b, n, e, rfl⟩⟩ | ⟨_, rfl⟩
        · exact .inl rfl
        · exact .inr ⟨_, rfl⟩
        · exact .inr ⟨_, rfl⟩
      rcases hve with rfl | ⟨e, rfl⟩
      · have hI : insB ks es ds dl dh = true := by rw [← IM, hA]; rfl
        refine iteY rfl ?_
        refine ⟨_, rfl, _, rfl, _, rfl, _, rfl, _, rfl, _, rfl, rw, T, lf, tl, th, ks, ws, wf, wl, wh, es, ds, dl, dh, rfl, s79 _ _ hw7, hk20, hT, hes, hfv, S9, .inl ⟨rfl, _, rfl, ?_⟩⟩
        rw [hI]
        exact iteNS rfl ⟨s79, _, _, _, _, rfl⟩
      · refine iteN (fun z => nomatch z) ?_
        have hI : insB ks es ds dl dh = decide ((rowS row).cps.toList < e.cps.toList) := by rw [← IM, hA]; rfl
        refine ⟨_, rfl, _, rfl, .inl (.inr ⟨_, _, _, _, rfl, rfl, SqT.of htf9, atI_nat (j := 1) rfl, .inr ⟨_, _, rfl, rfl, ?_⟩⟩)⟩
        refine ⟨_, rfl, _, rfl, _, rfl, _, rfl, _, rfl, _, rfl, rw, T, lf, tl, th, ks, ws, wf, wl, wh, es, ds, dl, dh, rfl, s79 _ _ hw7, hk20, hT, hes, hfv, S9, .inl ⟨rfl, _, rfl, ?_⟩⟩
        rw [hI]
        exact iteNS rfl ⟨s79, _, _, _, _, rfl⟩
  rintro σ H8 ⟨s78, z9, z10, z11, z12, rfl⟩
  exact ⟨H, .refl (sH7.trans s78), q _⟩
theorem ex1 (us : List Value) (hl : us.length = 1) : ∃ a : Value, us = [a] := match us, hl with | [a], _ => ⟨a, rfl⟩
theorem ex2 (us : List Value) (hl : us.length = 2) : ∃ a b : Value, us = [a, b] := match us, hl with | [a, b], _ => ⟨a, b, rfl⟩
theorem ex3 (us : List Value) (hl : us.length = 3) : ∃ a b c : Value, us = [a, b, c] := match us, hl with | [a, b, c], _ => ⟨a, b, c, rfl⟩
theorem ex4 (us : List Value) (hl : us.length = 4) : ∃ a b c d : Value, us = [a, b, c, d] := match us, hl with | [a, b, c, d], _ => ⟨a, b, c, d, rfl⟩
theorem ex5 (us : List Value) (hl : us.length = 5) : ∃ a b c d e : Value, us = [a, b, c, d, e] := match us, hl with | [a, b, c, d, e], _ => ⟨a, b, c, d, e, rfl⟩

set_option maxHeartbeats 16000000 in
theorem all_mk {l : PySem.W.OpenLaw} {w : World} {K : PySem.W.Frag} {h : Heap} {mg : Str → Option Value} {fa : Addr} (X : K.In h) (G : h.Ns mainGlobals mg) (hfa : mg "law" = some (.ref fa))
    {C_Nothing : Addr} {f_Nothing_fits : Addr} {od_x0 an_x0 : Option Addr} {sl_x0 : Array (Option Value)} {oc_x0 kV_x0 dc_x0 pm_x0 cd_x0 ct_x0 : Value} {f_Nothing_written : Addr} {od_x1 an_x1 : Option Addr} {sl_x1 : Array (Option Value)} {oc_x1 kV_x1 dc_x1 pm_x1 cd_x1 ct_x1 : Value} {f_Nothing_row : Addr} {od_x2 an_x2 : Option Addr} {sl_x2 : Array (Option Value)} {oc_x2 kV_x2 dc_x2 pm_x2 cd_x2 ct_x2 : Value} {C_Truth : Addr} {f_Truth_fits : Addr} {od_x3 an_x3 : Option Addr} {sl_x3 : Array (Option Value)} {oc_x3 kV_x3 dc_x3 pm_x3 cd_x3 ct_x3 : Value} {f_Truth_written : Addr} {od_x4 an_x4 : Option Addr} {sl_x4 : Array (Option Value)} {oc_x4 kV_x4 dc_x4 pm_x4 cd_x4 ct_x4 : Value} {f_Truth_row : Addr} {od_x5 an_x5 : Option Addr} {sl_x5 : Array (Option Value)} {oc_x5 kV_x5 dc_x5 pm_x5 cd_x5 ct_x5 : Value} {C_Whole : Addr} {f_Whole_fits : Addr} {od_x6 an_x6 : Option Addr} {sl_x6 : Array (Option Value)} {oc_x6 kV_x6 dc_x6 pm_x6 cd_x6 ct_x6 : Value} {f_Whole_written : Addr} {od_x7 an_x7 : Option Addr} {sl_x7 : Array (Option Value)} {oc_x7 kV_x7 dc_x7 pm_x7 cd_x7 ct_x7 : Value} {f_Whole_row : Addr} {od_x8 an_x8 : Option Addr} {sl_x8 : Array (Option Value)} {oc_x8 kV_x8 dc_x8 pm_x8 cd_x8 ct_x8 : Value} {C_Span : Addr} {f_Span_init : Addr} {od_x9 an_x9 : Option Addr} {sl_x9 : Array (Option Value)} {oc_x9 kV_x9 dc_x9 pm_x9 cd_x9 ct_x9 : Value} {f_Span_fits : Addr} {od_x10 an_x10 : Option Addr} {sl_x10 : Array (Option Value)} {oc_x10 kV_x10 dc_x10 pm_x10 cd_x10 ct_x10 : Value} {f_Span_written : Addr} {od_x11 an_x11 : Option Addr} {sl_x11 : Array (Option Value)} {oc_x11 kV_x11 dc_x11 pm_x11 cd_x11 ct_x11 : Value} {f_Span_row : Addr} {od_x12 an_x12 : Option Addr} {sl_x12 : Array (Option Value)} {oc_x12 kV_x12 dc_x12 pm_x12 cd_x12 ct_x12 : Value} {C_Letters : Addr} {f_Letters_init : Addr} {od_x13 an_x13 : Option Addr} {sl_x13 : Array (Option Value)} {oc_x13 kV_x13 dc_x13 pm_x13 cd_x13 ct_x13 : Value} {f_Letters_fits : Addr} {od_x14 an_x14 : Option Addr} {sl_x14 : Array (Option Value)} {oc_x14 kV_x14 dc_x14 pm_x14 cd_x14 ct_x14 : Value} {f_Letters_places : Addr} {od_x15 an_x15 : Option Addr} {sl_x15 : Array (Option Value)} {oc_x15 kV_x15 dc_x15 pm_x15 cd_x15 ct_x15 : Value} {f_Letters_written : Addr} {od_x16 an_x16 : Option Addr} {sl_x16 : Array (Option Value)} {oc_x16 kV_x16 dc_x16 pm_x16 cd_x16 ct_x16 : Value} {f_Letters_row : Addr} {od_x17 an_x17 : Option Addr} {sl_x17 : Array (Option Value)} {oc_x17 kV_x17 dc_x17 pm_x17 cd_x17 ct_x17 : Value} {C_Maybe : Addr} {f_Maybe_init : Addr} {od_x18 an_x18 : Option Addr} {sl_x18 : Array (Option Value)} {oc_x18 kV_x18 dc_x18 pm_x18 cd_x18 ct_x18 : Value} {f_Maybe_fits : Addr} {od_x19 an_x19 : Option Addr} {sl_x19 : Array (Option Value)} {oc_x19 kV_x19 dc_x19 pm_x19 cd_x19 ct_x19 : Value} {f_Maybe_written : Addr} {od_x20 an_x20 : Option Addr} {sl_x20 : Array (Option Value)} {oc_x20 kV_x20 dc_x20 pm_x20 cd_x20 ct_x20 : Value} {f_Maybe_row : Addr} {od_x21 an_x21 : Option Addr} {sl_x21 : Array (Option Value)} {oc_x21 kV_x21 dc_x21 pm_x21 cd_x21 ct_x21 : Value} {C_Many : Addr} {f_Many_init : Addr} {od_x22 an_x22 : Option Addr} {sl_x22 : Array (Option Value)} {oc_x22 kV_x22 dc_x22 pm_x22 cd_x22 ct_x22 : Value} {f_Many_fits : Addr} {od_x23 an_x23 : Option Addr} {sl_x23 : Array (Option Value)} {oc_x23 kV_x23 dc_x23 pm_x23 cd_x23 ct_x23 : Value} {f_Many_written : Addr} {od_x24 an_x24 : Option Addr} {sl_x24 : Array (Option Value)} {oc_x24 kV_x24 dc_x24 pm_x24 cd_x24 ct_x24 : Value} {f_Many_row : Addr} {od_x25 an_x25 : Option Addr} {sl_x25 : Array (Option Value)} {oc_x25 kV_x25 dc_x25 pm_x25 cd_x25 ct_x25 : Value} {C_Turned : Addr} {f_Turned_init : Addr} {od_x26 an_x26 : Option Addr} {sl_x26 : Array (Option Value)} {oc_x26 kV_x26 dc_x26 pm_x26 cd_x26 ct_x26 : Value} {f_Turned_fits : Addr} {od_x27 an_x27 : Option Addr} {sl_x27 : Array (Option Value)} {oc_x27 kV_x27 dc_x27 pm_x27 cd_x27 ct_x27 : Value} {f_Turned_written : Addr} {od_x28 an_x28 : Option Addr} {sl_x28 : Array (Option Value)} {oc_x28 kV_x28 dc_x28 pm_x28 cd_x28 ct_x28 : Value} {f_Turned_row : Addr} {od_x29 an_x29 : Option Addr} {sl_x29 : Array (Option Value)} {oc_x29 kV_x29 dc_x29 pm_x29 cd_x29 ct_x29 : Value} {C_Record : Addr} {f_Record_init : Addr} {od_x30 an_x30 : Option Addr} {sl_x30 : Array (Option Value)} {oc_x30 kV_x30 dc_x30 pm_x30 cd_x30 ct_x30 : Value} {f_Record_fits : Addr} {od_x31 an_x31 : Option Addr} {sl_x31 : Array (Option Value)} {oc_x31 kV_x31 dc_x31 pm_x31 cd_x31 ct_x31 : Value} {f_Record_written : Addr} {od_x32 an_x32 : Option Addr} {sl_x32 : Array (Option Value)} {oc_x32 kV_x32 dc_x32 pm_x32 cd_x32 ct_x32 : Value} {f_Record_row : Addr} {od_x33 an_x33 : Option Addr} {sl_x33 : Array (Option Value)} {oc_x33 kV_x33 dc_x33 pm_x33 cd_x33 ct_x33 : Value} {f_turned_row : Addr} {od_x34 an_x34 : Option Addr} {sl_x34 : Array (Option Value)} {oc_x34 kV_x34 dc_x34 pm_x34 cd_x34 ct_x34 : Value} {f_lower_digits : Addr} {od_x35 an_x35 : Option Addr} {sl_x35 : Array (Option Value)} {oc_x35 kV_x35 dc_x35 pm_x35 cd_x35 ct_x35 : Value} {f_is_count : Addr} {od_x36 an_x36 : Option Addr} {sl_x36 : Array (Option Value)} {oc_x36 kV_x36 dc_x36 pm_x36 cd_x36 ct_x36 : Value} {f_has_whole_row : Addr} {od_x37 an_x37 : Option Addr} {sl_x37 : Array (Option Value)} {oc_x37 kV_x37 dc_x37 pm_x37 cd_x37 ct_x37 : Value} {f_count_row : Addr} {od_x38 an_x38 : Option Addr} {sl_x38 : Array (Option Value)} {oc_x38 kV_x38 dc_x38 pm_x38 cd_x38 ct_x38 : Value} {f_whole_row : Addr} {od_x39 an_x39 : Option Addr} {sl_x39 : Array (Option Value)} {oc_x39 kV_x39 dc_x39 pm_x39 cd_x39 ct_x39 : Value} {f_fixed_row : Addr} {od_x40 an_x40 : Option Addr} {sl_x40 : Array (Option Value)} {oc_x40 kV_x40 dc_x40 pm_x40 cd_x40 ct_x40 : Value} {f_is_number : Addr} {od_x41 an_x41 : Option Addr} {sl_x41 : Array (Option Value)} {oc_x41 kV_x41 dc_x41 pm_x41 cd_x41 ct_x41 : Value} {f_made_of : Addr} {od_x42 an_x42 : Option Addr} {sl_x42 : Array (Option Value)} {oc_x42 kV_x42 dc_x42 pm_x42 cd_x42 ct_x42 : Value} {f_is_name : Addr} {od_x43 an_x43 : Option Addr} {sl_x43 : Array (Option Value)} {oc_x43 kV_x43 dc_x43 pm_x43 cd_x43 ct_x43 : Value} {f_names_of : Addr} {od_x44 an_x44 : Option Addr} {sl_x44 : Array (Option Value)} {oc_x44 kV_x44 dc_x44 pm_x44 cd_x44 ct_x44 : Value} {f_behind_all : Addr} {od_x45 an_x45 : Option Addr} {sl_x45 : Array (Option Value)} {oc_x45 kV_x45 dc_x45 pm_x45 cd_x45 ct_x45 : Value} {f_span_of : Addr} {od_x46 an_x46 : Option Addr} {sl_x46 : Array (Option Value)} {oc_x46 kV_x46 dc_x46 pm_x46 cd_x46 ct_x46 : Value} {f_law_cell_at : Addr} {od_x47 an_x47 : Option Addr} {sl_x47 : Array (Option Value)} {oc_x47 kV_x47 dc_x47 pm_x47 cd_x47 ct_x47 : Value} {f_law_mixed : Addr} {od_x48 an_x48 : Option Addr} {sl_x48 : Array (Option Value)} {oc_x48 kV_x48 dc_x48 pm_x48 cd_x48 ct_x48 : Value} {f_law_form : Addr} {od_x49 an_x49 : Option Addr} {sl_x49 : Array (Option Value)} {oc_x49 kV_x49 dc_x49 pm_x49 cd_x49 ct_x49 : Value} {f_law_value : Addr} {od_x50 an_x50 : Option Addr} {sl_x50 : Array (Option Value)} {oc_x50 kV_x50 dc_x50 pm_x50 cd_x50 ct_x50 : Value} {f_law_key : Addr} {od_x51 an_x51 : Option Addr} {sl_x51 : Array (Option Value)} {oc_x51 kV_x51 dc_x51 pm_x51 cd_x51 ct_x51 : Value} {f_law_words : Addr} {od_x52 an_x52 : Option Addr} {sl_x52 : Array (Option Value)} {oc_x52 kV_x52 dc_x52 pm_x52 cd_x52 ct_x52 : Value} {f_law_start : Addr} {od_x53 an_x53 : Option Addr} {sl_x53 : Array (Option Value)} {oc_x53 kV_x53 dc_x53 pm_x53 cd_x53 ct_x53 : Value} {f_law_drawn : Addr} {od_x54 an_x54 : Option Addr} {sl_x54 : Array (Option Value)} {oc_x54 kV_x54 dc_x54 pm_x54 cd_x54 ct_x54 : Value} {f_law_inside : Addr} {od_x55 an_x55 : Option Addr} {sl_x55 : Array (Option Value)} {oc_x55 kV_x55 dc_x55 pm_x55 cd_x55 ct_x55 : Value} {f_law_ends : Addr} {od_x56 an_x56 : Option Addr} {sl_x56 : Array (Option Value)} {oc_x56 kV_x56 dc_x56 pm_x56 cd_x56 ct_x56 : Value} {f_law : Addr} {od_x57 an_x57 : Option Addr} {sl_x57 : Array (Option Value)} {oc_x57 kV_x57 dc_x57 pm_x57 cd_x57 ct_x57 : Value} {tk_MOST_DIGITS : Tok} {tk_MOST_AHEAD : Tok} {tk_MOST_SIGNS : Tok} {tk_LONGEST_TEXT : Tok} {tk_MOST_VALUES : Tok} {tk_MOST_PARTS : Tok} {tk_LONGEST_NAME : Tok} {tk_SMALL_LETTERS : Tok} {tk_LETTERS_AND_FIGURES : Tok}
    (aC_Nothing : PySem.W.nsIn K mainGlobals "Nothing" = some (some (.ref C_Nothing)))
    (pg_Nothing : PySem.W.plainGet K C_Nothing Str.empty = true)
    (hd_Nothing : PySem.W.hasDictIn K C_Nothing = true)
    (po_Nothing : PySem.W.plainOver K C_Nothing = true)
    (sa_Nothing : PySem.W.findIn K (.ref C_Nothing) "__setattr__" = some (some (.builtin "object.__setattr__")))
    (mk_Nothing : PySem.W.makesIn K C_Nothing = true)
    (kc_Nothing : PySem.W.keepIn K (.ref C_Nothing) = true)
    (i0_Nothing : PySem.W.findIn K (.ref C_Nothing) "__init__" = some (some (.builtin "object.__init__")))
    (a_Nothing_fits : PySem.W.findIn K (.ref C_Nothing) "fits" = some (some (.ref f_Nothing_fits)))
    (i_Nothing_fits : PySem.W.isFn K (.ref f_Nothing_fits) = true)
    (l_Nothing_fits : K.lookup f_Nothing_fits = some ⟨oc_x0, od_x0, .func (PySem.W.fnOf "fits" "Nothing.fits" (defArgs s_Nothing_fits) (defBody s_Nothing_fits) (defScope s_Nothing_fits) .none kV_x0 dc_x0 pm_x0 an_x0 cd_x0 ct_x0), sl_x0⟩)
    (c_Nothing_fits : PySem.W.codeIn K cd_x0 "Nothing.fits" = true)
    (k_Nothing_fits : PySem.W.keepIn K (.ref f_Nothing_fits) = true)
    (a_Nothing_written : PySem.W.findIn K (.ref C_Nothing) "written" = some (some (.ref f_Nothing_written)))
    (i_Nothing_written : PySem.W.isFn K (.ref f_Nothing_written) = true)
    (l_Nothing_written : K.lookup f_Nothing_written = some ⟨oc_x1, od_x1, .func (PySem.W.fnOf "written" "Nothing.written" (defArgs s_Nothing_written) (defBody s_Nothing_written) (defScope s_Nothing_written) .none kV_x1 dc_x1 pm_x1 an_x1 cd_x1 ct_x1), sl_x1⟩)
    (c_Nothing_written : PySem.W.codeIn K cd_x1 "Nothing.written" = true)
    (k_Nothing_written : PySem.W.keepIn K (.ref f_Nothing_written) = true)
    (a_Nothing_row : PySem.W.findIn K (.ref C_Nothing) "row" = some (some (.ref f_Nothing_row)))
    (i_Nothing_row : PySem.W.isFn K (.ref f_Nothing_row) = true)
    (l_Nothing_row : K.lookup f_Nothing_row = some ⟨oc_x2, od_x2, .func (PySem.W.fnOf "row" "Form.row" (defArgs s_Form_row) (defBody s_Form_row) (defScope s_Form_row) .none kV_x2 dc_x2 pm_x2 an_x2 cd_x2 ct_x2), sl_x2⟩)
    (c_Nothing_row : PySem.W.codeIn K cd_x2 "Form.row" = true)
    (k_Nothing_row : PySem.W.keepIn K (.ref f_Nothing_row) = true)
    (aC_Truth : PySem.W.nsIn K mainGlobals "Truth" = some (some (.ref C_Truth)))
    (pg_Truth : PySem.W.plainGet K C_Truth Str.empty = true)
    (hd_Truth : PySem.W.hasDictIn K C_Truth = true)
    (po_Truth : PySem.W.plainOver K C_Truth = true)
    (sa_Truth : PySem.W.findIn K (.ref C_Truth) "__setattr__" = some (some (.builtin "object.__setattr__")))
    (mk_Truth : PySem.W.makesIn K C_Truth = true)
    (kc_Truth : PySem.W.keepIn K (.ref C_Truth) = true)
    (i0_Truth : PySem.W.findIn K (.ref C_Truth) "__init__" = some (some (.builtin "object.__init__")))
    (a_Truth_fits : PySem.W.findIn K (.ref C_Truth) "fits" = some (some (.ref f_Truth_fits)))
    (i_Truth_fits : PySem.W.isFn K (.ref f_Truth_fits) = true)
    (l_Truth_fits : K.lookup f_Truth_fits = some ⟨oc_x3, od_x3, .func (PySem.W.fnOf "fits" "Truth.fits" (defArgs s_Truth_fits) (defBody s_Truth_fits) (defScope s_Truth_fits) .none kV_x3 dc_x3 pm_x3 an_x3 cd_x3 ct_x3), sl_x3⟩)
    (c_Truth_fits : PySem.W.codeIn K cd_x3 "Truth.fits" = true)
    (k_Truth_fits : PySem.W.keepIn K (.ref f_Truth_fits) = true)
    (a_Truth_written : PySem.W.findIn K (.ref C_Truth) "written" = some (some (.ref f_Truth_written)))
    (i_Truth_written : PySem.W.isFn K (.ref f_Truth_written) = true)
    (l_Truth_written : K.lookup f_Truth_written = some ⟨oc_x4, od_x4, .func (PySem.W.fnOf "written" "Truth.written" (defArgs s_Truth_written) (defBody s_Truth_written) (defScope s_Truth_written) .none kV_x4 dc_x4 pm_x4 an_x4 cd_x4 ct_x4), sl_x4⟩)
    (c_Truth_written : PySem.W.codeIn K cd_x4 "Truth.written" = true)
    (k_Truth_written : PySem.W.keepIn K (.ref f_Truth_written) = true)
    (a_Truth_row : PySem.W.findIn K (.ref C_Truth) "row" = some (some (.ref f_Truth_row)))
    (i_Truth_row : PySem.W.isFn K (.ref f_Truth_row) = true)
    (l_Truth_row : K.lookup f_Truth_row = some ⟨oc_x5, od_x5, .func (PySem.W.fnOf "row" "Form.row" (defArgs s_Form_row) (defBody s_Form_row) (defScope s_Form_row) .none kV_x5 dc_x5 pm_x5 an_x5 cd_x5 ct_x5), sl_x5⟩)
    (c_Truth_row : PySem.W.codeIn K cd_x5 "Form.row" = true)
    (k_Truth_row : PySem.W.keepIn K (.ref f_Truth_row) = true)
    (aC_Whole : PySem.W.nsIn K mainGlobals "Whole" = some (some (.ref C_Whole)))
    (pg_Whole : PySem.W.plainGet K C_Whole Str.empty = true)
    (hd_Whole : PySem.W.hasDictIn K C_Whole = true)
    (po_Whole : PySem.W.plainOver K C_Whole = true)
    (sa_Whole : PySem.W.findIn K (.ref C_Whole) "__setattr__" = some (some (.builtin "object.__setattr__")))
    (mk_Whole : PySem.W.makesIn K C_Whole = true)
    (kc_Whole : PySem.W.keepIn K (.ref C_Whole) = true)
    (i0_Whole : PySem.W.findIn K (.ref C_Whole) "__init__" = some (some (.builtin "object.__init__")))
    (a_Whole_fits : PySem.W.findIn K (.ref C_Whole) "fits" = some (some (.ref f_Whole_fits)))
    (i_Whole_fits : PySem.W.isFn K (.ref f_Whole_fits) = true)
    (l_Whole_fits : K.lookup f_Whole_fits = some ⟨oc_x6, od_x6, .func (PySem.W.fnOf "fits" "Whole.fits" (defArgs s_Whole_fits) (defBody s_Whole_fits) (defScope s_Whole_fits) .none kV_x6 dc_x6 pm_x6 an_x6 cd_x6 ct_x6), sl_x6⟩)
    (c_Whole_fits : PySem.W.codeIn K cd_x6 "Whole.fits" = true)
    (k_Whole_fits : PySem.W.keepIn K (.ref f_Whole_fits) = true)
    (a_Whole_written : PySem.W.findIn K (.ref C_Whole) "written" = some (some (.ref f_Whole_written)))
    (i_Whole_written : PySem.W.isFn K (.ref f_Whole_written) = true)
    (l_Whole_written : K.lookup f_Whole_written = some ⟨oc_x7, od_x7, .func (PySem.W.fnOf "written" "Whole.written" (defArgs s_Whole_written) (defBody s_Whole_written) (defScope s_Whole_written) .none kV_x7 dc_x7 pm_x7 an_x7 cd_x7 ct_x7), sl_x7⟩)
    (c_Whole_written : PySem.W.codeIn K cd_x7 "Whole.written" = true)
    (k_Whole_written : PySem.W.keepIn K (.ref f_Whole_written) = true)
    (a_Whole_row : PySem.W.findIn K (.ref C_Whole) "row" = some (some (.ref f_Whole_row)))
    (i_Whole_row : PySem.W.isFn K (.ref f_Whole_row) = true)
    (l_Whole_row : K.lookup f_Whole_row = some ⟨oc_x8, od_x8, .func (PySem.W.fnOf "row" "Form.row" (defArgs s_Form_row) (defBody s_Form_row) (defScope s_Form_row) .none kV_x8 dc_x8 pm_x8 an_x8 cd_x8 ct_x8), sl_x8⟩)
    (c_Whole_row : PySem.W.codeIn K cd_x8 "Form.row" = true)
    (k_Whole_row : PySem.W.keepIn K (.ref f_Whole_row) = true)
    (aC_Span : PySem.W.nsIn K mainGlobals "Span" = some (some (.ref C_Span)))
    (pg_Span : PySem.W.plainGet K C_Span Str.empty = true)
    (hd_Span : PySem.W.hasDictIn K C_Span = true)
    (po_Span : PySem.W.plainOver K C_Span = true)
    (sa_Span : PySem.W.findIn K (.ref C_Span) "__setattr__" = some (some (.builtin "object.__setattr__")))
    (mk_Span : PySem.W.makesIn K C_Span = true)
    (kc_Span : PySem.W.keepIn K (.ref C_Span) = true)
    (n_Span_low : PySem.W.findIn K (.ref C_Span) "low" = some none)
    (n_Span_high : PySem.W.findIn K (.ref C_Span) "high" = some none)
    (a_Span_init : PySem.W.findIn K (.ref C_Span) "__init__" = some (some (.ref f_Span_init)))
    (i_Span_init : PySem.W.isFn K (.ref f_Span_init) = true)
    (l_Span_init : K.lookup f_Span_init = some ⟨oc_x9, od_x9, .func (PySem.W.fnOf "__init__" "Span.__init__" (defArgs s_Span_init) (defBody s_Span_init) (defScope s_Span_init) .none kV_x9 dc_x9 pm_x9 an_x9 cd_x9 ct_x9), sl_x9⟩)
    (c_Span_init : PySem.W.codeIn K cd_x9 "Span.__init__" = true)
    (k_Span_init : PySem.W.keepIn K (.ref f_Span_init) = true)
    (a_Span_fits : PySem.W.findIn K (.ref C_Span) "fits" = some (some (.ref f_Span_fits)))
    (i_Span_fits : PySem.W.isFn K (.ref f_Span_fits) = true)
    (l_Span_fits : K.lookup f_Span_fits = some ⟨oc_x10, od_x10, .func (PySem.W.fnOf "fits" "Span.fits" (defArgs s_Span_fits) (defBody s_Span_fits) (defScope s_Span_fits) .none kV_x10 dc_x10 pm_x10 an_x10 cd_x10 ct_x10), sl_x10⟩)
    (c_Span_fits : PySem.W.codeIn K cd_x10 "Span.fits" = true)
    (k_Span_fits : PySem.W.keepIn K (.ref f_Span_fits) = true)
    (a_Span_written : PySem.W.findIn K (.ref C_Span) "written" = some (some (.ref f_Span_written)))
    (i_Span_written : PySem.W.isFn K (.ref f_Span_written) = true)
    (l_Span_written : K.lookup f_Span_written = some ⟨oc_x11, od_x11, .func (PySem.W.fnOf "written" "Span.written" (defArgs s_Span_written) (defBody s_Span_written) (defScope s_Span_written) .none kV_x11 dc_x11 pm_x11 an_x11 cd_x11 ct_x11), sl_x11⟩)
    (c_Span_written : PySem.W.codeIn K cd_x11 "Span.written" = true)
    (k_Span_written : PySem.W.keepIn K (.ref f_Span_written) = true)
    (a_Span_row : PySem.W.findIn K (.ref C_Span) "row" = some (some (.ref f_Span_row)))
    (i_Span_row : PySem.W.isFn K (.ref f_Span_row) = true)
    (l_Span_row : K.lookup f_Span_row = some ⟨oc_x12, od_x12, .func (PySem.W.fnOf "row" "Form.row" (defArgs s_Form_row) (defBody s_Form_row) (defScope s_Form_row) .none kV_x12 dc_x12 pm_x12 an_x12 cd_x12 ct_x12), sl_x12⟩)
    (c_Span_row : PySem.W.codeIn K cd_x12 "Form.row" = true)
    (k_Span_row : PySem.W.keepIn K (.ref f_Span_row) = true)
    (aC_Letters : PySem.W.nsIn K mainGlobals "Letters" = some (some (.ref C_Letters)))
    (pg_Letters : PySem.W.plainGet K C_Letters Str.empty = true)
    (hd_Letters : PySem.W.hasDictIn K C_Letters = true)
    (po_Letters : PySem.W.plainOver K C_Letters = true)
    (sa_Letters : PySem.W.findIn K (.ref C_Letters) "__setattr__" = some (some (.builtin "object.__setattr__")))
    (mk_Letters : PySem.W.makesIn K C_Letters = true)
    (kc_Letters : PySem.W.keepIn K (.ref C_Letters) = true)
    (n_Letters_signs : PySem.W.findIn K (.ref C_Letters) "signs" = some none)
    (a_Letters_init : PySem.W.findIn K (.ref C_Letters) "__init__" = some (some (.ref f_Letters_init)))
    (i_Letters_init : PySem.W.isFn K (.ref f_Letters_init) = true)
    (l_Letters_init : K.lookup f_Letters_init = some ⟨oc_x13, od_x13, .func (PySem.W.fnOf "__init__" "Letters.__init__" (defArgs s_Letters_init) (defBody s_Letters_init) (defScope s_Letters_init) .none kV_x13 dc_x13 pm_x13 an_x13 cd_x13 ct_x13), sl_x13⟩)
    (c_Letters_init : PySem.W.codeIn K cd_x13 "Letters.__init__" = true)
    (k_Letters_init : PySem.W.keepIn K (.ref f_Letters_init) = true)
    (a_Letters_fits : PySem.W.findIn K (.ref C_Letters) "fits" = some (some (.ref f_Letters_fits)))
    (i_Letters_fits : PySem.W.isFn K (.ref f_Letters_fits) = true)
    (l_Letters_fits : K.lookup f_Letters_fits = some ⟨oc_x14, od_x14, .func (PySem.W.fnOf "fits" "Letters.fits" (defArgs s_Letters_fits) (defBody s_Letters_fits) (defScope s_Letters_fits) .none kV_x14 dc_x14 pm_x14 an_x14 cd_x14 ct_x14), sl_x14⟩)
    (c_Letters_fits : PySem.W.codeIn K cd_x14 "Letters.fits" = true)
    (k_Letters_fits : PySem.W.keepIn K (.ref f_Letters_fits) = true)
    (a_Letters_places : PySem.W.findIn K (.ref C_Letters) "places" = some (some (.ref f_Letters_places)))
    (i_Letters_places : PySem.W.isFn K (.ref f_Letters_places) = true)
    (l_Letters_places : K.lookup f_Letters_places = some ⟨oc_x15, od_x15, .func (PySem.W.fnOf "places" "Letters.places" (defArgs s_Letters_places) (defBody s_Letters_places) (defScope s_Letters_places) .none kV_x15 dc_x15 pm_x15 an_x15 cd_x15 ct_x15), sl_x15⟩)
    (c_Letters_places : PySem.W.codeIn K cd_x15 "Letters.places" = true)
    (k_Letters_places : PySem.W.keepIn K (.ref f_Letters_places) = true)
    (a_Letters_written : PySem.W.findIn K (.ref C_Letters) "written" = some (some (.ref f_Letters_written)))
    (i_Letters_written : PySem.W.isFn K (.ref f_Letters_written) = true)
    (l_Letters_written : K.lookup f_Letters_written = some ⟨oc_x16, od_x16, .func (PySem.W.fnOf "written" "Letters.written" (defArgs s_Letters_written) (defBody s_Letters_written) (defScope s_Letters_written) .none kV_x16 dc_x16 pm_x16 an_x16 cd_x16 ct_x16), sl_x16⟩)
    (c_Letters_written : PySem.W.codeIn K cd_x16 "Letters.written" = true)
    (k_Letters_written : PySem.W.keepIn K (.ref f_Letters_written) = true)
    (a_Letters_row : PySem.W.findIn K (.ref C_Letters) "row" = some (some (.ref f_Letters_row)))
    (i_Letters_row : PySem.W.isFn K (.ref f_Letters_row) = true)
    (l_Letters_row : K.lookup f_Letters_row = some ⟨oc_x17, od_x17, .func (PySem.W.fnOf "row" "Form.row" (defArgs s_Form_row) (defBody s_Form_row) (defScope s_Form_row) .none kV_x17 dc_x17 pm_x17 an_x17 cd_x17 ct_x17), sl_x17⟩)
    (c_Letters_row : PySem.W.codeIn K cd_x17 "Form.row" = true)
    (k_Letters_row : PySem.W.keepIn K (.ref f_Letters_row) = true)
    (aC_Maybe : PySem.W.nsIn K mainGlobals "Maybe" = some (some (.ref C_Maybe)))
    (pg_Maybe : PySem.W.plainGet K C_Maybe Str.empty = true)
    (hd_Maybe : PySem.W.hasDictIn K C_Maybe = true)
    (po_Maybe : PySem.W.plainOver K C_Maybe = true)
    (sa_Maybe : PySem.W.findIn K (.ref C_Maybe) "__setattr__" = some (some (.builtin "object.__setattr__")))
    (mk_Maybe : PySem.W.makesIn K C_Maybe = true)
    (kc_Maybe : PySem.W.keepIn K (.ref C_Maybe) = true)
    (n_Maybe_inner : PySem.W.findIn K (.ref C_Maybe) "inner" = some none)
    (a_Maybe_init : PySem.W.findIn K (.ref C_Maybe) "__init__" = some (some (.ref f_Maybe_init)))
    (i_Maybe_init : PySem.W.isFn K (.ref f_Maybe_init) = true)
    (l_Maybe_init : K.lookup f_Maybe_init = some ⟨oc_x18, od_x18, .func (PySem.W.fnOf "__init__" "Maybe.__init__" (defArgs s_Maybe_init) (defBody s_Maybe_init) (defScope s_Maybe_init) .none kV_x18 dc_x18 pm_x18 an_x18 cd_x18 ct_x18), sl_x18⟩)
    (c_Maybe_init : PySem.W.codeIn K cd_x18 "Maybe.__init__" = true)
    (k_Maybe_init : PySem.W.keepIn K (.ref f_Maybe_init) = true)
    (a_Maybe_fits : PySem.W.findIn K (.ref C_Maybe) "fits" = some (some (.ref f_Maybe_fits)))
    (i_Maybe_fits : PySem.W.isFn K (.ref f_Maybe_fits) = true)
    (l_Maybe_fits : K.lookup f_Maybe_fits = some ⟨oc_x19, od_x19, .func (PySem.W.fnOf "fits" "Maybe.fits" (defArgs s_Maybe_fits) (defBody s_Maybe_fits) (defScope s_Maybe_fits) .none kV_x19 dc_x19 pm_x19 an_x19 cd_x19 ct_x19), sl_x19⟩)
    (c_Maybe_fits : PySem.W.codeIn K cd_x19 "Maybe.fits" = true)
    (k_Maybe_fits : PySem.W.keepIn K (.ref f_Maybe_fits) = true)
    (a_Maybe_written : PySem.W.findIn K (.ref C_Maybe) "written" = some (some (.ref f_Maybe_written)))
    (i_Maybe_written : PySem.W.isFn K (.ref f_Maybe_written) = true)
    (l_Maybe_written : K.lookup f_Maybe_written = some ⟨oc_x20, od_x20, .func (PySem.W.fnOf "written" "Maybe.written" (defArgs s_Maybe_written) (defBody s_Maybe_written) (defScope s_Maybe_written) .none kV_x20 dc_x20 pm_x20 an_x20 cd_x20 ct_x20), sl_x20⟩)
    (c_Maybe_written : PySem.W.codeIn K cd_x20 "Maybe.written" = true)
    (k_Maybe_written : PySem.W.keepIn K (.ref f_Maybe_written) = true)
    (a_Maybe_row : PySem.W.findIn K (.ref C_Maybe) "row" = some (some (.ref f_Maybe_row)))
    (i_Maybe_row : PySem.W.isFn K (.ref f_Maybe_row) = true)
    (l_Maybe_row : K.lookup f_Maybe_row = some ⟨oc_x21, od_x21, .func (PySem.W.fnOf "row" "Form.row" (defArgs s_Form_row) (defBody s_Form_row) (defScope s_Form_row) .none kV_x21 dc_x21 pm_x21 an_x21 cd_x21 ct_x21), sl_x21⟩)
    (c_Maybe_row : PySem.W.codeIn K cd_x21 "Form.row" = true)
    (k_Maybe_row : PySem.W.keepIn K (.ref f_Maybe_row) = true)
    (aC_Many : PySem.W.nsIn K mainGlobals "Many" = some (some (.ref C_Many)))
    (pg_Many : PySem.W.plainGet K C_Many Str.empty = true)
    (hd_Many : PySem.W.hasDictIn K C_Many = true)
    (po_Many : PySem.W.plainOver K C_Many = true)
    (sa_Many : PySem.W.findIn K (.ref C_Many) "__setattr__" = some (some (.builtin "object.__setattr__")))
    (mk_Many : PySem.W.makesIn K C_Many = true)
    (kc_Many : PySem.W.keepIn K (.ref C_Many) = true)
    (n_Many_inner : PySem.W.findIn K (.ref C_Many) "inner" = some none)
    (a_Many_init : PySem.W.findIn K (.ref C_Many) "__init__" = some (some (.ref f_Many_init)))
    (i_Many_init : PySem.W.isFn K (.ref f_Many_init) = true)
    (l_Many_init : K.lookup f_Many_init = some ⟨oc_x22, od_x22, .func (PySem.W.fnOf "__init__" "Many.__init__" (defArgs s_Many_init) (defBody s_Many_init) (defScope s_Many_init) .none kV_x22 dc_x22 pm_x22 an_x22 cd_x22 ct_x22), sl_x22⟩)
    (c_Many_init : PySem.W.codeIn K cd_x22 "Many.__init__" = true)
    (k_Many_init : PySem.W.keepIn K (.ref f_Many_init) = true)
    (a_Many_fits : PySem.W.findIn K (.ref C_Many) "fits" = some (some (.ref f_Many_fits)))
    (i_Many_fits : PySem.W.isFn K (.ref f_Many_fits) = true)
    (l_Many_fits : K.lookup f_Many_fits = some ⟨oc_x23, od_x23, .func (PySem.W.fnOf "fits" "Many.fits" (defArgs s_Many_fits) (defBody s_Many_fits) (defScope s_Many_fits) .none kV_x23 dc_x23 pm_x23 an_x23 cd_x23 ct_x23), sl_x23⟩)
    (c_Many_fits : PySem.W.codeIn K cd_x23 "Many.fits" = true)
    (k_Many_fits : PySem.W.keepIn K (.ref f_Many_fits) = true)
    (a_Many_written : PySem.W.findIn K (.ref C_Many) "written" = some (some (.ref f_Many_written)))
    (i_Many_written : PySem.W.isFn K (.ref f_Many_written) = true)
    (l_Many_written : K.lookup f_Many_written = some ⟨oc_x24, od_x24, .func (PySem.W.fnOf "written" "Many.written" (defArgs s_Many_written) (defBody s_Many_written) (defScope s_Many_written) .none kV_x24 dc_x24 pm_x24 an_x24 cd_x24 ct_x24), sl_x24⟩)
    (c_Many_written : PySem.W.codeIn K cd_x24 "Many.written" = true)
    (k_Many_written : PySem.W.keepIn K (.ref f_Many_written) = true)
    (a_Many_row : PySem.W.findIn K (.ref C_Many) "row" = some (some (.ref f_Many_row)))
    (i_Many_row : PySem.W.isFn K (.ref f_Many_row) = true)
    (l_Many_row : K.lookup f_Many_row = some ⟨oc_x25, od_x25, .func (PySem.W.fnOf "row" "Form.row" (defArgs s_Form_row) (defBody s_Form_row) (defScope s_Form_row) .none kV_x25 dc_x25 pm_x25 an_x25 cd_x25 ct_x25), sl_x25⟩)
    (c_Many_row : PySem.W.codeIn K cd_x25 "Form.row" = true)
    (k_Many_row : PySem.W.keepIn K (.ref f_Many_row) = true)
    (aC_Turned : PySem.W.nsIn K mainGlobals "Turned" = some (some (.ref C_Turned)))
    (pg_Turned : PySem.W.plainGet K C_Turned Str.empty = true)
    (hd_Turned : PySem.W.hasDictIn K C_Turned = true)
    (po_Turned : PySem.W.plainOver K C_Turned = true)
    (sa_Turned : PySem.W.findIn K (.ref C_Turned) "__setattr__" = some (some (.builtin "object.__setattr__")))
    (mk_Turned : PySem.W.makesIn K C_Turned = true)
    (kc_Turned : PySem.W.keepIn K (.ref C_Turned) = true)
    (n_Turned_inner : PySem.W.findIn K (.ref C_Turned) "inner" = some none)
    (a_Turned_init : PySem.W.findIn K (.ref C_Turned) "__init__" = some (some (.ref f_Turned_init)))
    (i_Turned_init : PySem.W.isFn K (.ref f_Turned_init) = true)
    (l_Turned_init : K.lookup f_Turned_init = some ⟨oc_x26, od_x26, .func (PySem.W.fnOf "__init__" "Turned.__init__" (defArgs s_Turned_init) (defBody s_Turned_init) (defScope s_Turned_init) .none kV_x26 dc_x26 pm_x26 an_x26 cd_x26 ct_x26), sl_x26⟩)
    (c_Turned_init : PySem.W.codeIn K cd_x26 "Turned.__init__" = true)
    (k_Turned_init : PySem.W.keepIn K (.ref f_Turned_init) = true)
    (a_Turned_fits : PySem.W.findIn K (.ref C_Turned) "fits" = some (some (.ref f_Turned_fits)))
    (i_Turned_fits : PySem.W.isFn K (.ref f_Turned_fits) = true)
    (l_Turned_fits : K.lookup f_Turned_fits = some ⟨oc_x27, od_x27, .func (PySem.W.fnOf "fits" "Turned.fits" (defArgs s_Turned_fits) (defBody s_Turned_fits) (defScope s_Turned_fits) .none kV_x27 dc_x27 pm_x27 an_x27 cd_x27 ct_x27), sl_x27⟩)
    (c_Turned_fits : PySem.W.codeIn K cd_x27 "Turned.fits" = true)
    (k_Turned_fits : PySem.W.keepIn K (.ref f_Turned_fits) = true)
    (a_Turned_written : PySem.W.findIn K (.ref C_Turned) "written" = some (some (.ref f_Turned_written)))
    (i_Turned_written : PySem.W.isFn K (.ref f_Turned_written) = true)
    (l_Turned_written : K.lookup f_Turned_written = some ⟨oc_x28, od_x28, .func (PySem.W.fnOf "written" "Turned.written" (defArgs s_Turned_written) (defBody s_Turned_written) (defScope s_Turned_written) .none kV_x28 dc_x28 pm_x28 an_x28 cd_x28 ct_x28), sl_x28⟩)
    (c_Turned_written : PySem.W.codeIn K cd_x28 "Turned.written" = true)
    (k_Turned_written : PySem.W.keepIn K (.ref f_Turned_written) = true)
    (a_Turned_row : PySem.W.findIn K (.ref C_Turned) "row" = some (some (.ref f_Turned_row)))
    (i_Turned_row : PySem.W.isFn K (.ref f_Turned_row) = true)
    (l_Turned_row : K.lookup f_Turned_row = some ⟨oc_x29, od_x29, .func (PySem.W.fnOf "row" "Form.row" (defArgs s_Form_row) (defBody s_Form_row) (defScope s_Form_row) .none kV_x29 dc_x29 pm_x29 an_x29 cd_x29 ct_x29), sl_x29⟩)
    (c_Turned_row : PySem.W.codeIn K cd_x29 "Form.row" = true)
    (k_Turned_row : PySem.W.keepIn K (.ref f_Turned_row) = true)
    (aC_Record : PySem.W.nsIn K mainGlobals "Record" = some (some (.ref C_Record)))
    (pg_Record : PySem.W.plainGet K C_Record Str.empty = true)
    (hd_Record : PySem.W.hasDictIn K C_Record = true)
    (po_Record : PySem.W.plainOver K C_Record = true)
    (sa_Record : PySem.W.findIn K (.ref C_Record) "__setattr__" = some (some (.builtin "object.__setattr__")))
    (mk_Record : PySem.W.makesIn K C_Record = true)
    (kc_Record : PySem.W.keepIn K (.ref C_Record) = true)
    (n_Record_names : PySem.W.findIn K (.ref C_Record) "names" = some none)
    (n_Record_forms : PySem.W.findIn K (.ref C_Record) "forms" = some none)
    (a_Record_init : PySem.W.findIn K (.ref C_Record) "__init__" = some (some (.ref f_Record_init)))
    (i_Record_init : PySem.W.isFn K (.ref f_Record_init) = true)
    (l_Record_init : K.lookup f_Record_init = some ⟨oc_x30, od_x30, .func (PySem.W.fnOf "__init__" "Record.__init__" (defArgs s_Record_init) (defBody s_Record_init) (defScope s_Record_init) .none kV_x30 dc_x30 pm_x30 an_x30 cd_x30 ct_x30), sl_x30⟩)
    (c_Record_init : PySem.W.codeIn K cd_x30 "Record.__init__" = true)
    (k_Record_init : PySem.W.keepIn K (.ref f_Record_init) = true)
    (a_Record_fits : PySem.W.findIn K (.ref C_Record) "fits" = some (some (.ref f_Record_fits)))
    (i_Record_fits : PySem.W.isFn K (.ref f_Record_fits) = true)
    (l_Record_fits : K.lookup f_Record_fits = some ⟨oc_x31, od_x31, .func (PySem.W.fnOf "fits" "Record.fits" (defArgs s_Record_fits) (defBody s_Record_fits) (defScope s_Record_fits) .none kV_x31 dc_x31 pm_x31 an_x31 cd_x31 ct_x31), sl_x31⟩)
    (c_Record_fits : PySem.W.codeIn K cd_x31 "Record.fits" = true)
    (k_Record_fits : PySem.W.keepIn K (.ref f_Record_fits) = true)
    (a_Record_written : PySem.W.findIn K (.ref C_Record) "written" = some (some (.ref f_Record_written)))
    (i_Record_written : PySem.W.isFn K (.ref f_Record_written) = true)
    (l_Record_written : K.lookup f_Record_written = some ⟨oc_x32, od_x32, .func (PySem.W.fnOf "written" "Record.written" (defArgs s_Record_written) (defBody s_Record_written) (defScope s_Record_written) .none kV_x32 dc_x32 pm_x32 an_x32 cd_x32 ct_x32), sl_x32⟩)
    (c_Record_written : PySem.W.codeIn K cd_x32 "Record.written" = true)
    (k_Record_written : PySem.W.keepIn K (.ref f_Record_written) = true)
    (a_Record_row : PySem.W.findIn K (.ref C_Record) "row" = some (some (.ref f_Record_row)))
    (i_Record_row : PySem.W.isFn K (.ref f_Record_row) = true)
    (l_Record_row : K.lookup f_Record_row = some ⟨oc_x33, od_x33, .func (PySem.W.fnOf "row" "Form.row" (defArgs s_Form_row) (defBody s_Form_row) (defScope s_Form_row) .none kV_x33 dc_x33 pm_x33 an_x33 cd_x33 ct_x33), sl_x33⟩)
    (c_Record_row : PySem.W.codeIn K cd_x33 "Form.row" = true)
    (k_Record_row : PySem.W.keepIn K (.ref f_Record_row) = true)
    (a_turned_row : PySem.W.nsIn K mainGlobals "turned_row" = some (some (.ref f_turned_row)))
    (l_turned_row : K.lookup f_turned_row = some ⟨oc_x34, od_x34, .func (PySem.W.fnOf "turned_row" "turned_row" (defArgs s_turned_row) (defBody s_turned_row) (defScope s_turned_row) .none kV_x34 dc_x34 pm_x34 an_x34 cd_x34 ct_x34), sl_x34⟩)
    (c_turned_row : PySem.W.codeIn K cd_x34 "turned_row" = true)
    (k_turned_row : PySem.W.keepIn K (.ref f_turned_row) = true)
    (a_lower_digits : PySem.W.nsIn K mainGlobals "lower_digits" = some (some (.ref f_lower_digits)))
    (l_lower_digits : K.lookup f_lower_digits = some ⟨oc_x35, od_x35, .func (PySem.W.fnOf "lower_digits" "lower_digits" (defArgs s_lower_digits) (defBody s_lower_digits) (defScope s_lower_digits) .none kV_x35 dc_x35 pm_x35 an_x35 cd_x35 ct_x35), sl_x35⟩)
    (c_lower_digits : PySem.W.codeIn K cd_x35 "lower_digits" = true)
    (k_lower_digits : PySem.W.keepIn K (.ref f_lower_digits) = true)
    (a_is_count : PySem.W.nsIn K mainGlobals "is_count" = some (some (.ref f_is_count)))
    (l_is_count : K.lookup f_is_count = some ⟨oc_x36, od_x36, .func (PySem.W.fnOf "is_count" "is_count" (defArgs s_is_count) (defBody s_is_count) (defScope s_is_count) .none kV_x36 dc_x36 pm_x36 an_x36 cd_x36 ct_x36), sl_x36⟩)
    (c_is_count : PySem.W.codeIn K cd_x36 "is_count" = true)
    (k_is_count : PySem.W.keepIn K (.ref f_is_count) = true)
    (a_has_whole_row : PySem.W.nsIn K mainGlobals "has_whole_row" = some (some (.ref f_has_whole_row)))
    (l_has_whole_row : K.lookup f_has_whole_row = some ⟨oc_x37, od_x37, .func (PySem.W.fnOf "has_whole_row" "has_whole_row" (defArgs s_has_whole_row) (defBody s_has_whole_row) (defScope s_has_whole_row) .none kV_x37 dc_x37 pm_x37 an_x37 cd_x37 ct_x37), sl_x37⟩)
    (c_has_whole_row : PySem.W.codeIn K cd_x37 "has_whole_row" = true)
    (k_has_whole_row : PySem.W.keepIn K (.ref f_has_whole_row) = true)
    (a_count_row : PySem.W.nsIn K mainGlobals "count_row" = some (some (.ref f_count_row)))
    (l_count_row : K.lookup f_count_row = some ⟨oc_x38, od_x38, .func (PySem.W.fnOf "count_row" "count_row" (defArgs s_count_row) (defBody s_count_row) (defScope s_count_row) .none kV_x38 dc_x38 pm_x38 an_x38 cd_x38 ct_x38), sl_x38⟩)
    (c_count_row : PySem.W.codeIn K cd_x38 "count_row" = true)
    (k_count_row : PySem.W.keepIn K (.ref f_count_row) = true)
    (a_whole_row : PySem.W.nsIn K mainGlobals "whole_row" = some (some (.ref f_whole_row)))
    (l_whole_row : K.lookup f_whole_row = some ⟨oc_x39, od_x39, .func (PySem.W.fnOf "whole_row" "whole_row" (defArgs s_whole_row) (defBody s_whole_row) (defScope s_whole_row) .none kV_x39 dc_x39 pm_x39 an_x39 cd_x39 ct_x39), sl_x39⟩)
    (c_whole_row : PySem.W.codeIn K cd_x39 "whole_row" = true)
    (k_whole_row : PySem.W.keepIn K (.ref f_whole_row) = true)
    (a_fixed_row : PySem.W.nsIn K mainGlobals "fixed_row" = some (some (.ref f_fixed_row)))
    (l_fixed_row : K.lookup f_fixed_row = some ⟨oc_x40, od_x40, .func (PySem.W.fnOf "fixed_row" "fixed_row" (defArgs s_fixed_row) (defBody s_fixed_row) (defScope s_fixed_row) .none kV_x40 dc_x40 pm_x40 an_x40 cd_x40 ct_x40), sl_x40⟩)
    (c_fixed_row : PySem.W.codeIn K cd_x40 "fixed_row" = true)
    (k_fixed_row : PySem.W.keepIn K (.ref f_fixed_row) = true)
    (a_is_number : PySem.W.nsIn K mainGlobals "is_number" = some (some (.ref f_is_number)))
    (l_is_number : K.lookup f_is_number = some ⟨oc_x41, od_x41, .func (PySem.W.fnOf "is_number" "is_number" (defArgs s_is_number) (defBody s_is_number) (defScope s_is_number) .none kV_x41 dc_x41 pm_x41 an_x41 cd_x41 ct_x41), sl_x41⟩)
    (c_is_number : PySem.W.codeIn K cd_x41 "is_number" = true)
    (k_is_number : PySem.W.keepIn K (.ref f_is_number) = true)
    (a_made_of : PySem.W.nsIn K mainGlobals "made_of" = some (some (.ref f_made_of)))
    (l_made_of : K.lookup f_made_of = some ⟨oc_x42, od_x42, .func (PySem.W.fnOf "made_of" "made_of" (defArgs s_made_of) (defBody s_made_of) (defScope s_made_of) .none kV_x42 dc_x42 pm_x42 an_x42 cd_x42 ct_x42), sl_x42⟩)
    (c_made_of : PySem.W.codeIn K cd_x42 "made_of" = true)
    (k_made_of : PySem.W.keepIn K (.ref f_made_of) = true)
    (a_is_name : PySem.W.nsIn K mainGlobals "is_name" = some (some (.ref f_is_name)))
    (l_is_name : K.lookup f_is_name = some ⟨oc_x43, od_x43, .func (PySem.W.fnOf "is_name" "is_name" (defArgs s_is_name) (defBody s_is_name) (defScope s_is_name) .none kV_x43 dc_x43 pm_x43 an_x43 cd_x43 ct_x43), sl_x43⟩)
    (c_is_name : PySem.W.codeIn K cd_x43 "is_name" = true)
    (k_is_name : PySem.W.keepIn K (.ref f_is_name) = true)
    (a_names_of : PySem.W.nsIn K mainGlobals "names_of" = some (some (.ref f_names_of)))
    (l_names_of : K.lookup f_names_of = some ⟨oc_x44, od_x44, .func (PySem.W.fnOf "names_of" "names_of" (defArgs s_names_of) (defBody s_names_of) (defScope s_names_of) .none kV_x44 dc_x44 pm_x44 an_x44 cd_x44 ct_x44), sl_x44⟩)
    (c_names_of : PySem.W.codeIn K cd_x44 "names_of" = true)
    (k_names_of : PySem.W.keepIn K (.ref f_names_of) = true)
    (a_behind_all : PySem.W.nsIn K mainGlobals "behind_all" = some (some (.ref f_behind_all)))
    (l_behind_all : K.lookup f_behind_all = some ⟨oc_x45, od_x45, .func (PySem.W.fnOf "behind_all" "behind_all" (defArgs s_behind_all) (defBody s_behind_all) (defScope s_behind_all) .none kV_x45 dc_x45 pm_x45 an_x45 cd_x45 ct_x45), sl_x45⟩)
    (c_behind_all : PySem.W.codeIn K cd_x45 "behind_all" = true)
    (k_behind_all : PySem.W.keepIn K (.ref f_behind_all) = true)
    (a_span_of : PySem.W.nsIn K mainGlobals "span_of" = some (some (.ref f_span_of)))
    (l_span_of : K.lookup f_span_of = some ⟨oc_x46, od_x46, .func (PySem.W.fnOf "span_of" "span_of" (defArgs s_span_of) (defBody s_span_of) (defScope s_span_of) .none kV_x46 dc_x46 pm_x46 an_x46 cd_x46 ct_x46), sl_x46⟩)
    (c_span_of : PySem.W.codeIn K cd_x46 "span_of" = true)
    (k_span_of : PySem.W.keepIn K (.ref f_span_of) = true)
    (a_law_cell_at : PySem.W.nsIn K mainGlobals "_law_cell_at" = some (some (.ref f_law_cell_at)))
    (l_law_cell_at : K.lookup f_law_cell_at = some ⟨oc_x47, od_x47, .func (PySem.W.fnOf "_law_cell_at" "_law_cell_at" (defArgs s_law_cell_at) (defBody s_law_cell_at) (defScope s_law_cell_at) .none kV_x47 dc_x47 pm_x47 an_x47 cd_x47 ct_x47), sl_x47⟩)
    (c_law_cell_at : PySem.W.codeIn K cd_x47 "_law_cell_at" = true)
    (k_law_cell_at : PySem.W.keepIn K (.ref f_law_cell_at) = true)
    (a_law_mixed : PySem.W.nsIn K mainGlobals "_law_mixed" = some (some (.ref f_law_mixed)))
    (l_law_mixed : K.lookup f_law_mixed = some ⟨oc_x48, od_x48, .func (PySem.W.fnOf "_law_mixed" "_law_mixed" (defArgs s_law_mixed) (defBody s_law_mixed) (defScope s_law_mixed) .none kV_x48 dc_x48 pm_x48 an_x48 cd_x48 ct_x48), sl_x48⟩)
    (c_law_mixed : PySem.W.codeIn K cd_x48 "_law_mixed" = true)
    (k_law_mixed : PySem.W.keepIn K (.ref f_law_mixed) = true)
    (a_law_form : PySem.W.nsIn K mainGlobals "_law_form" = some (some (.ref f_law_form)))
    (l_law_form : K.lookup f_law_form = some ⟨oc_x49, od_x49, .func (PySem.W.fnOf "_law_form" "_law_form" (defArgs s_law_form) (defBody s_law_form) (defScope s_law_form) .none kV_x49 dc_x49 pm_x49 an_x49 cd_x49 ct_x49), sl_x49⟩)
    (c_law_form : PySem.W.codeIn K cd_x49 "_law_form" = true)
    (k_law_form : PySem.W.keepIn K (.ref f_law_form) = true)
    (a_law_value : PySem.W.nsIn K mainGlobals "_law_value" = some (some (.ref f_law_value)))
    (l_law_value : K.lookup f_law_value = some ⟨oc_x50, od_x50, .func (PySem.W.fnOf "_law_value" "_law_value" (defArgs s_law_value) (defBody s_law_value) (defScope s_law_value) .none kV_x50 dc_x50 pm_x50 an_x50 cd_x50 ct_x50), sl_x50⟩)
    (c_law_value : PySem.W.codeIn K cd_x50 "_law_value" = true)
    (k_law_value : PySem.W.keepIn K (.ref f_law_value) = true)
    (a_law_key : PySem.W.nsIn K mainGlobals "_law_key" = some (some (.ref f_law_key)))
    (l_law_key : K.lookup f_law_key = some ⟨oc_x51, od_x51, .func (PySem.W.fnOf "_law_key" "_law_key" (defArgs s_law_key) (defBody s_law_key) (defScope s_law_key) .none kV_x51 dc_x51 pm_x51 an_x51 cd_x51 ct_x51), sl_x51⟩)
    (c_law_key : PySem.W.codeIn K cd_x51 "_law_key" = true)
    (k_law_key : PySem.W.keepIn K (.ref f_law_key) = true)
    (a_law_words : PySem.W.nsIn K mainGlobals "_law_words" = some (some (.ref f_law_words)))
    (l_law_words : K.lookup f_law_words = some ⟨oc_x52, od_x52, .func (PySem.W.fnOf "_law_words" "_law_words" (defArgs s_law_words) (defBody s_law_words) (defScope s_law_words) .none kV_x52 dc_x52 pm_x52 an_x52 cd_x52 ct_x52), sl_x52⟩)
    (c_law_words : PySem.W.codeIn K cd_x52 "_law_words" = true)
    (k_law_words : PySem.W.keepIn K (.ref f_law_words) = true)
    (a_law_start : PySem.W.nsIn K mainGlobals "_law_start" = some (some (.ref f_law_start)))
    (l_law_start : K.lookup f_law_start = some ⟨oc_x53, od_x53, .func (PySem.W.fnOf "_law_start" "_law_start" (defArgs s_law_start) (defBody s_law_start) (defScope s_law_start) .none kV_x53 dc_x53 pm_x53 an_x53 cd_x53 ct_x53), sl_x53⟩)
    (c_law_start : PySem.W.codeIn K cd_x53 "_law_start" = true)
    (k_law_start : PySem.W.keepIn K (.ref f_law_start) = true)
    (a_law_drawn : PySem.W.nsIn K mainGlobals "_law_drawn" = some (some (.ref f_law_drawn)))
    (l_law_drawn : K.lookup f_law_drawn = some ⟨oc_x54, od_x54, .func (PySem.W.fnOf "_law_drawn" "_law_drawn" (defArgs s_law_drawn) (defBody s_law_drawn) (defScope s_law_drawn) .none kV_x54 dc_x54 pm_x54 an_x54 cd_x54 ct_x54), sl_x54⟩)
    (c_law_drawn : PySem.W.codeIn K cd_x54 "_law_drawn" = true)
    (k_law_drawn : PySem.W.keepIn K (.ref f_law_drawn) = true)
    (a_law_inside : PySem.W.nsIn K mainGlobals "_law_inside" = some (some (.ref f_law_inside)))
    (l_law_inside : K.lookup f_law_inside = some ⟨oc_x55, od_x55, .func (PySem.W.fnOf "_law_inside" "_law_inside" (defArgs s_law_inside) (defBody s_law_inside) (defScope s_law_inside) .none kV_x55 dc_x55 pm_x55 an_x55 cd_x55 ct_x55), sl_x55⟩)
    (c_law_inside : PySem.W.codeIn K cd_x55 "_law_inside" = true)
    (k_law_inside : PySem.W.keepIn K (.ref f_law_inside) = true)
    (a_law_ends : PySem.W.nsIn K mainGlobals "_law_ends" = some (some (.ref f_law_ends)))
    (l_law_ends : K.lookup f_law_ends = some ⟨oc_x56, od_x56, .func (PySem.W.fnOf "_law_ends" "_law_ends" (defArgs s_law_ends) (defBody s_law_ends) (defScope s_law_ends) .none kV_x56 dc_x56 pm_x56 an_x56 cd_x56 ct_x56), sl_x56⟩)
    (c_law_ends : PySem.W.codeIn K cd_x56 "_law_ends" = true)
    (k_law_ends : PySem.W.keepIn K (.ref f_law_ends) = true)
    (a_law : PySem.W.nsIn K mainGlobals "law" = some (some (.ref f_law)))
    (l_law : K.lookup f_law = some ⟨oc_x57, od_x57, .func (PySem.W.fnOf "law" "law" (defArgs s_law) (defBody s_law) (defScope s_law) .none kV_x57 dc_x57 pm_x57 an_x57 cd_x57 ct_x57), sl_x57⟩)
    (c_law : PySem.W.codeIn K cd_x57 "law" = true)
    (k_law : PySem.W.keepIn K (.ref f_law) = true)
    (z_len : PySem.W.nsIn K mainGlobals "len" = some none)
    (z_range : PySem.W.nsIn K mainGlobals "range" = some none)
    (z_int : PySem.W.nsIn K mainGlobals "int" = some none)
    (z_str : PySem.W.nsIn K mainGlobals "str" = some none)
    (z_bool : PySem.W.nsIn K mainGlobals "bool" = some none)
    (z_tuple : PySem.W.nsIn K mainGlobals "tuple" = some none)
    (z_isinstance : PySem.W.nsIn K mainGlobals "isinstance" = some none)
    (z_list : PySem.W.nsIn K mainGlobals "list" = some none)
    (z_all : PySem.W.nsIn K mainGlobals "all" = some none)
    (z_zip : PySem.W.nsIn K mainGlobals "zip" = some none)
    (z_set : PySem.W.nsIn K mainGlobals "set" = some none)
    (g0_MOST_DIGITS : PySem.W.nsIn K mainGlobals "MOST_DIGITS" = some (some (.int 255 tk_MOST_DIGITS)))
    (g0_MOST_AHEAD : PySem.W.nsIn K mainGlobals "MOST_AHEAD" = some (some (.int 7 tk_MOST_AHEAD)))
    (g0_MOST_SIGNS : PySem.W.nsIn K mainGlobals "MOST_SIGNS" = some (some (.int 60 tk_MOST_SIGNS)))
    (g0_LONGEST_TEXT : PySem.W.nsIn K mainGlobals "LONGEST_TEXT" = some (some (.int 200 tk_LONGEST_TEXT)))
    (g0_MOST_VALUES : PySem.W.nsIn K mainGlobals "MOST_VALUES" = some (some (.int 60 tk_MOST_VALUES)))
    (g0_MOST_PARTS : PySem.W.nsIn K mainGlobals "MOST_PARTS" = some (some (.int 20 tk_MOST_PARTS)))
    (g0_LONGEST_NAME : PySem.W.nsIn K mainGlobals "LONGEST_NAME" = some (some (.int 12 tk_LONGEST_NAME)))
    (g0_SMALL_LETTERS : PySem.W.nsIn K mainGlobals "SMALL_LETTERS" = some (some (.str "abcdefghijklmnopqrstuvwxyz" tk_SMALL_LETTERS)))
    (g0_LETTERS_AND_FIGURES : PySem.W.nsIn K mainGlobals "LETTERS_AND_FIGURES" = some (some (.str "abcdefghijklmnopqrstuvwxyzABCDEFGHIJKLMNOPQRSTUVWXYZ0123456789" tk_LETTERS_AND_FIGURES)))
    : ∃ fd : FuncData, (∀ (s : Shared) (v : Value), BindsTo s fd ⟨[v], []⟩ [("_law_script", v)]) ∧ ∀ base : Heap, K.In base → base.Ns mainGlobals mg → FnOk l.prog w K mg base CX0 13 fa fd ["_law_script"] (spLaw K) := by
  have e := hfa.symm.trans (PySem.W.mg_of X G a_law)
  cases e
  have cl_Nothing : Cls K C_Nothing := ⟨pg_Nothing, hd_Nothing, po_Nothing, sa_Nothing⟩
  have m_Nothing : mg "Nothing" = some (.ref C_Nothing) := PySem.W.mg_of X G aC_Nothing
  have M0_Nothing : Mk0 K C_Nothing := ⟨mk_Nothing, i0_Nothing, kc_Nothing⟩
  have F_Nothing_fits := fun_mk (st := s_Nothing_fits) l_Nothing_fits c_Nothing_fits k_Nothing_fits
  have b_Nothing_fits := F_Nothing_fits.binds (ps := ["self", "value"]) fun _ _ _ _ _ _ us hl => by obtain ⟨_, _, rfl⟩ := ex2 us hl; rfl
  have t_Nothing_fits : Meth K C_Nothing "fits" f_Nothing_fits := ⟨a_Nothing_fits, i_Nothing_fits, k_Nothing_fits⟩
  have F_Nothing_written := fun_mk (st := s_Nothing_written) l_Nothing_written c_Nothing_written k_Nothing_written
  have b_Nothing_written := F_Nothing_written.binds (ps := ["self", "value"]) fun _ _ _ _ _ _ us hl => by obtain ⟨_, _, rfl⟩ := ex2 us hl; rfl
  have t_Nothing_written : Meth K C_Nothing "written" f_Nothing_written := ⟨a_Nothing_written, i_Nothing_written, k_Nothing_written⟩
  have F_Nothing_row := fun_mk (st := s_Form_row) l_Nothing_row c_Nothing_row k_Nothing_row
  have b_Nothing_row := F_Nothing_row.binds (ps := ["self", "value"]) fun _ _ _ _ _ _ us hl => by obtain ⟨_, _, rfl⟩ := ex2 us hl; rfl
  have t_Nothing_row : Meth K C_Nothing "row" f_Nothing_row := ⟨a_Nothing_row, i_Nothing_row, k_Nothing_row⟩
  have cl_Truth : Cls K C_Truth := ⟨pg_Truth, hd_Truth, po_Truth, sa_Truth⟩
  have m_Truth : mg "Truth" = some (.ref C_Truth) := PySem.W.mg_of X G aC_Truth
  have M0_Truth : Mk0 K C_Truth := ⟨mk_Truth, i0_Truth, kc_Truth⟩
  have F_Truth_fits := fun_mk (st := s_Truth_fits) l_Truth_fits c_Truth_fits k_Truth_fits
  have b_Truth_fits := F_Truth_fits.binds (ps := ["self", "value"]) fun _ _ _ _ _ _ us hl => by obtain ⟨_, _, rfl⟩ := ex2 us hl; rfl
  have t_Truth_fits : Meth K C_Truth "fits" f_Truth_fits := ⟨a_Truth_fits, i_Truth_fits, k_Truth_fits⟩
  have F_Truth_written := fun_mk (st := s_Truth_written) l_Truth_written c_Truth_written k_Truth_written
  have b_Truth_written := F_Truth_written.binds (ps := ["self", "value"]) fun _ _ _ _ _ _ us hl => by obtain ⟨_, _, rfl⟩ := ex2 us hl; rfl
  have t_Truth_written : Meth K C_Truth "written" f_Truth_written := ⟨a_Truth_written, i_Truth_written, k_Truth_written⟩
  have F_Truth_row := fun_mk (st := s_Form_row) l_Truth_row c_Truth_row k_Truth_row
  have b_Truth_row := F_Truth_row.binds (ps := ["self", "value"]) fun _ _ _ _ _ _ us hl => by obtain ⟨_, _, rfl⟩ := ex2 us hl; rfl
  have t_Truth_row : Meth K C_Truth "row" f_Truth_row := ⟨a_Truth_row, i_Truth_row, k_Truth_row⟩
  have cl_Whole : Cls K C_Whole := ⟨pg_Whole, hd_Whole, po_Whole, sa_Whole⟩
  have m_Whole : mg "Whole" = some (.ref C_Whole) := PySem.W.mg_of X G aC_Whole
  have M0_Whole : Mk0 K C_Whole := ⟨mk_Whole, i0_Whole, kc_Whole⟩
  have F_Whole_fits := fun_mk (st := s_Whole_fits) l_Whole_fits c_Whole_fits k_Whole_fits
  have b_Whole_fits := F_Whole_fits.binds (ps := ["self", "value"]) fun _ _ _ _ _ _ us hl => by obtain ⟨_, _, rfl⟩ := ex2 us hl; rfl
  have t_Whole_fits : Meth K C_Whole "fits" f_Whole_fits := ⟨a_Whole_fits, i_Whole_fits, k_Whole_fits⟩
  have F_Whole_written := fun_mk (st := s_Whole_written) l_Whole_written c_Whole_written k_Whole_written
  have b_Whole_written := F_Whole_written.binds (ps := ["self", "value"]) fun _ _ _ _ _ _ us hl => by obtain ⟨_, _, rfl⟩ := ex2 us hl; rfl
  have t_Whole_written : Meth K C_Whole "written" f_Whole_written := ⟨a_Whole_written, i_Whole_written, k_Whole_written⟩
  have F_Whole_row := fun_mk (st := s_Form_row) l_Whole_row c_Whole_row k_Whole_row
  have b_Whole_row := F_Whole_row.binds (ps := ["self", "value"]) fun _ _ _ _ _ _ us hl => by obtain ⟨_, _, rfl⟩ := ex2 us hl; rfl
  have t_Whole_row : Meth K C_Whole "row" f_Whole_row := ⟨a_Whole_row, i_Whole_row, k_Whole_row⟩
  have cl_Span : Cls K C_Span := ⟨pg_Span, hd_Span, po_Span, sa_Span⟩
  have m_Span : mg "Span" = some (.ref C_Span) := PySem.W.mg_of X G aC_Span
  have F_Span_init := fun_mk (st := s_Span_init) l_Span_init c_Span_init k_Span_init
  have b_Span_init := F_Span_init.binds (ps := ["self", "low", "high"]) fun _ _ _ _ _ _ us hl => by obtain ⟨_, _, _, rfl⟩ := ex3 us hl; rfl
  have K_Span : Mk K C_Span f_Span_init := ⟨mk_Span, a_Span_init, i_Span_init, kc_Span⟩
  have F_Span_fits := fun_mk (st := s_Span_fits) l_Span_fits c_Span_fits k_Span_fits
  have b_Span_fits := F_Span_fits.binds (ps := ["self", "value"]) fun _ _ _ _ _ _ us hl => by obtain ⟨_, _, rfl⟩ := ex2 us hl; rfl
  have t_Span_fits : Meth K C_Span "fits" f_Span_fits := ⟨a_Span_fits, i_Span_fits, k_Span_fits⟩
  have F_Span_written := fun_mk (st := s_Span_written) l_Span_written c_Span_written k_Span_written
  have b_Span_written := F_Span_written.binds (ps := ["self", "value"]) fun _ _ _ _ _ _ us hl => by obtain ⟨_, _, rfl⟩ := ex2 us hl; rfl
  have t_Span_written : Meth K C_Span "written" f_Span_written := ⟨a_Span_written, i_Span_written, k_Span_written⟩
  have F_Span_row := fun_mk (st := s_Form_row) l_Span_row c_Span_row k_Span_row
  have b_Span_row := F_Span_row.binds (ps := ["self", "value"]) fun _ _ _ _ _ _ us hl => by obtain ⟨_, _, rfl⟩ := ex2 us hl; rfl
  have t_Span_row : Meth K C_Span "row" f_Span_row := ⟨a_Span_row, i_Span_row, k_Span_row⟩
  have cl_Letters : Cls K C_Letters := ⟨pg_Letters, hd_Letters, po_Letters, sa_Letters⟩
  have m_Letters : mg "Letters" = some (.ref C_Letters) := PySem.W.mg_of X G aC_Letters
  have F_Letters_init := fun_mk (st := s_Letters_init) l_Letters_init c_Letters_init k_Letters_init
  have b_Letters_init := F_Letters_init.binds (ps := ["self", "signs"]) fun _ _ _ _ _ _ us hl => by obtain ⟨_, _, rfl⟩ := ex2 us hl; rfl
  have K_Letters : Mk K C_Letters f_Letters_init := ⟨mk_Letters, a_Letters_init, i_Letters_init, kc_Letters⟩
  have F_Letters_fits := fun_mk (st := s_Letters_fits) l_Letters_fits c_Letters_fits k_Letters_fits
  have b_Letters_fits := F_Letters_fits.binds (ps := ["self", "value"]) fun _ _ _ _ _ _ us hl => by obtain ⟨_, _, rfl⟩ := ex2 us hl; rfl
  have t_Letters_fits : Meth K C_Letters "fits" f_Letters_fits := ⟨a_Letters_fits, i_Letters_fits, k_Letters_fits⟩
  have F_Letters_places := fun_mk (st := s_Letters_places) l_Letters_places c_Letters_places k_Letters_places
  have b_Letters_places := F_Letters_places.binds (ps := ["self", "text"]) fun _ _ _ _ _ _ us hl => by obtain ⟨_, _, rfl⟩ := ex2 us hl; rfl
  have t_Letters_places : Meth K C_Letters "places" f_Letters_places := ⟨a_Letters_places, i_Letters_places, k_Letters_places⟩
  have F_Letters_written := fun_mk (st := s_Letters_written) l_Letters_written c_Letters_written k_Letters_written
  have b_Letters_written := F_Letters_written.binds (ps := ["self", "value"]) fun _ _ _ _ _ _ us hl => by obtain ⟨_, _, rfl⟩ := ex2 us hl; rfl
  have t_Letters_written : Meth K C_Letters "written" f_Letters_written := ⟨a_Letters_written, i_Letters_written, k_Letters_written⟩
  have F_Letters_row := fun_mk (st := s_Form_row) l_Letters_row c_Letters_row k_Letters_row
  have b_Letters_row := F_Letters_row.binds (ps := ["self", "value"]) fun _ _ _ _ _ _ us hl => by obtain ⟨_, _, rfl⟩ := ex2 us hl; rfl
  have t_Letters_row : Meth K C_Letters "row" f_Letters_row := ⟨a_Letters_row, i_Letters_row, k_Letters_row⟩
  have cl_Maybe : Cls K C_Maybe := ⟨pg_Maybe, hd_Maybe, po_Maybe, sa_Maybe⟩
  have m_Maybe : mg "Maybe" = some (.ref C_Maybe) := PySem.W.mg_of X G aC_Maybe
  have F_Maybe_init := fun_mk (st := s_Maybe_init) l_Maybe_init c_Maybe_init k_Maybe_init
  have b_Maybe_init := F_Maybe_init.binds (ps := ["self", "inner"]) fun _ _ _ _ _ _ us hl => by obtain ⟨_, _, rfl⟩ := ex2 us hl; rfl
  have K_Maybe : Mk K C_Maybe f_Maybe_init := ⟨mk_Maybe, a_Maybe_init, i_Maybe_init, kc_Maybe⟩
  have F_Maybe_fits := fun_mk (st := s_Maybe_fits) l_Maybe_fits c_Maybe_fits k_Maybe_fits
  have b_Maybe_fits := F_Maybe_fits.binds (ps := ["self", "value"]) fun _ _ _ _ _ _ us hl => by obtain ⟨_, _, rfl⟩ := ex2 us hl; rfl
  have t_Maybe_fits : Meth K C_Maybe "fits" f_Maybe_fits := ⟨a_Maybe_fits, i_Maybe_fits, k_Maybe_fits⟩
  have F_Maybe_written := fun_mk (st := s_Maybe_written) l_Maybe_written c_Maybe_written k_Maybe_written
  have b_Maybe_written := F_Maybe_written.binds (ps := ["self", "value"]) fun _ _ _ _ _ _ us hl => by obtain ⟨_, _, rfl⟩ := ex2 us hl; rfl
  have t_Maybe_written : Meth K C_Maybe "written" f_Maybe_written := ⟨a_Maybe_written, i_Maybe_written, k_Maybe_written⟩
  have F_Maybe_row := fun_mk (st := s_Form_row) l_Maybe_row c_Maybe_row k_Maybe_row
  have b_Maybe_row := F_Maybe_row.binds (ps := ["self", "value"]) fun _ _ _ _ _ _ us hl => by obtain ⟨_, _, rfl⟩ := ex2 us hl; rfl
  have t_Maybe_row : Meth K C_Maybe "row" f_Maybe_row := ⟨a_Maybe_row, i_Maybe_row, k_Maybe_row⟩
  have cl_Many : Cls K C_Many := ⟨pg_Many, hd_Many, po_Many, sa_Many⟩
  have m_Many : mg "Many" = some (.ref C_Many) := PySem.W.mg_of X G aC_Many
  have F_Many_init := fun_mk (st := s_Many_init) l_Many_init c_Many_init k_Many_init
  have b_Many_init := F_Many_init.binds (ps := ["self", "inner"]) fun _ _ _ _ _ _ us hl => by obtain ⟨_, _, rfl⟩ := ex2 us hl; rfl
  have K_Many : Mk K C_Many f_Many_init := ⟨mk_Many, a_Many_init, i_Many_init, kc_Many⟩
  have F_Many_fits := fun_mk (st := s_Many_fits) l_Many_fits c_Many_fits k_Many_fits
  have b_Many_fits := F_Many_fits.binds (ps := ["self", "value"]) fun _ _ _ _ _ _ us hl => by obtain ⟨_, _, rfl⟩ := ex2 us hl; rfl
  have t_Many_fits : Meth K C_Many "fits" f_Many_fits := ⟨a_Many_fits, i_Many_fits, k_Many_fits⟩
  have F_Many_written := fun_mk (st := s_Many_written) l_Many_written c_Many_written k_Many_written
  have b_Many_written := F_Many_written.binds (ps := ["self", "value"]) fun _ _ _ _ _ _ us hl => by obtain ⟨_, _, rfl⟩ := ex2 us hl; rfl
  have t_Many_written : Meth K C_Many "written" f_Many_written := ⟨a_Many_written, i_Many_written, k_Many_written⟩
  have F_Many_row := fun_mk (st := s_Form_row) l_Many_row c_Many_row k_Many_row
  have b_Many_row := F_Many_row.binds (ps := ["self", "value"]) fun _ _ _ _ _ _ us hl => by obtain ⟨_, _, rfl⟩ := ex2 us hl; rfl
  have t_Many_row : Meth K C_Many "row" f_Many_row := ⟨a_Many_row, i_Many_row, k_Many_row⟩
  have cl_Turned : Cls K C_Turned := ⟨pg_Turned, hd_Turned, po_Turned, sa_Turned⟩
  have m_Turned : mg "Turned" = some (.ref C_Turned) := PySem.W.mg_of X G aC_Turned
  have F_Turned_init := fun_mk (st := s_Turned_init) l_Turned_init c_Turned_init k_Turned_init
  have b_Turned_init := F_Turned_init.binds (ps := ["self", "inner"]) fun _ _ _ _ _ _ us hl => by obtain ⟨_, _, rfl⟩ := ex2 us hl; rfl
  have K_Turned : Mk K C_Turned f_Turned_init := ⟨mk_Turned, a_Turned_init, i_Turned_init, kc_Turned⟩
  have F_Turned_fits := fun_mk (st := s_Turned_fits) l_Turned_fits c_Turned_fits k_Turned_fits
  have b_Turned_fits := F_Turned_fits.binds (ps := ["self", "value"]) fun _ _ _ _ _ _ us hl => by obtain ⟨_, _, rfl⟩ := ex2 us hl; rfl
  have t_Turned_fits : Meth K C_Turned "fits" f_Turned_fits := ⟨a_Turned_fits, i_Turned_fits, k_Turned_fits⟩
  have F_Turned_written := fun_mk (st := s_Turned_written) l_Turned_written c_Turned_written k_Turned_written
  have b_Turned_written := F_Turned_written.binds (ps := ["self", "value"]) fun _ _ _ _ _ _ us hl => by obtain ⟨_, _, rfl⟩ := ex2 us hl; rfl
  have t_Turned_written : Meth K C_Turned "written" f_Turned_written := ⟨a_Turned_written, i_Turned_written, k_Turned_written⟩
  have F_Turned_row := fun_mk (st := s_Form_row) l_Turned_row c_Turned_row k_Turned_row
  have b_Turned_row := F_Turned_row.binds (ps := ["self", "value"]) fun _ _ _ _ _ _ us hl => by obtain ⟨_, _, rfl⟩ := ex2 us hl; rfl
  have t_Turned_row : Meth K C_Turned "row" f_Turned_row := ⟨a_Turned_row, i_Turned_row, k_Turned_row⟩
  have cl_Record : Cls K C_Record := ⟨pg_Record, hd_Record, po_Record, sa_Record⟩
  have m_Record : mg "Record" = some (.ref C_Record) := PySem.W.mg_of X G aC_Record
  have F_Record_init := fun_mk (st := s_Record_init) l_Record_init c_Record_init k_Record_init
  have b_Record_init := F_Record_init.binds (ps := ["self", "parts"]) fun _ _ _ _ _ _ us hl => by obtain ⟨_, _, rfl⟩ := ex2 us hl; rfl
  have K_Record : Mk K C_Record f_Record_init := ⟨mk_Record, a_Record_init, i_Record_init, kc_Record⟩
  have F_Record_fits := fun_mk (st := s_Record_fits) l_Record_fits c_Record_fits k_Record_fits
  have b_Record_fits := F_Record_fits.binds (ps := ["self", "value"]) fun _ _ _ _ _ _ us hl => by obtain ⟨_, _, rfl⟩ := ex2 us hl; rfl
  have t_Record_fits : Meth K C_Record "fits" f_Record_fits := ⟨a_Record_fits, i_Record_fits, k_Record_fits⟩
  have F_Record_written := fun_mk (st := s_Record_written) l_Record_written c_Record_written k_Record_written
  have b_Record_written := F_Record_written.binds (ps := ["self", "value"]) fun _ _ _ _ _ _ us hl => by obtain ⟨_, _, rfl⟩ := ex2 us hl; rfl
  have t_Record_written : Meth K C_Record "written" f_Record_written := ⟨a_Record_written, i_Record_written, k_Record_written⟩
  have F_Record_row := fun_mk (st := s_Form_row) l_Record_row c_Record_row k_Record_row
  have b_Record_row := F_Record_row.binds (ps := ["self", "value"]) fun _ _ _ _ _ _ us hl => by obtain ⟨_, _, rfl⟩ := ex2 us hl; rfl
  have t_Record_row : Meth K C_Record "row" f_Record_row := ⟨a_Record_row, i_Record_row, k_Record_row⟩
  have F_turned_row : FunAt K mg "turned_row" s_turned_row ["row"] f_turned_row _ := ⟨fun_mk (st := s_turned_row) l_turned_row c_turned_row k_turned_row, (fun_mk (st := s_turned_row) l_turned_row c_turned_row k_turned_row).binds (ps := ["row"]) fun _ _ _ _ _ _ us hl => by obtain ⟨_, rfl⟩ := ex1 us hl; rfl, PySem.W.mg_of X G a_turned_row⟩
  have F_lower_digits : FunAt K mg "lower_digits" s_lower_digits ["n", "width"] f_lower_digits _ := ⟨fun_mk (st := s_lower_digits) l_lower_digits c_lower_digits k_lower_digits, (fun_mk (st := s_lower_digits) l_lower_digits c_lower_digits k_lower_digits).binds (ps := ["n", "width"]) fun _ _ _ _ _ _ us hl => by obtain ⟨_, _, rfl⟩ := ex2 us hl; rfl, PySem.W.mg_of X G a_lower_digits⟩
  have F_is_count : FunAt K mg "is_count" s_is_count ["n"] f_is_count _ := ⟨fun_mk (st := s_is_count) l_is_count c_is_count k_is_count, (fun_mk (st := s_is_count) l_is_count c_is_count k_is_count).binds (ps := ["n"]) fun _ _ _ _ _ _ us hl => by obtain ⟨_, rfl⟩ := ex1 us hl; rfl, PySem.W.mg_of X G a_is_count⟩
  have F_has_whole_row : FunAt K mg "has_whole_row" s_has_whole_row ["n"] f_has_whole_row _ := ⟨fun_mk (st := s_has_whole_row) l_has_whole_row c_has_whole_row k_has_whole_row, (fun_mk (st := s_has_whole_row) l_has_whole_row c_has_whole_row k_has_whole_row).binds (ps := ["n"]) fun _ _ _ _ _ _ us hl => by obtain ⟨_, rfl⟩ := ex1 us hl; rfl, PySem.W.mg_of X G a_has_whole_row⟩
  have F_count_row : FunAt K mg "count_row" s_count_row ["n"] f_count_row _ := ⟨fun_mk (st := s_count_row) l_count_row c_count_row k_count_row, (fun_mk (st := s_count_row) l_count_row c_count_row k_count_row).binds (ps := ["n"]) fun _ _ _ _ _ _ us hl => by obtain ⟨_, rfl⟩ := ex1 us hl; rfl, PySem.W.mg_of X G a_count_row⟩
  have F_whole_row : FunAt K mg "whole_row" s_whole_row ["n"] f_whole_row _ := ⟨fun_mk (st := s_whole_row) l_whole_row c_whole_row k_whole_row, (fun_mk (st := s_whole_row) l_whole_row c_whole_row k_whole_row).binds (ps := ["n"]) fun _ _ _ _ _ _ us hl => by obtain ⟨_, rfl⟩ := ex1 us hl; rfl, PySem.W.mg_of X G a_whole_row⟩
  have F_fixed_row : FunAt K mg "fixed_row" s_fixed_row ["n", "most"] f_fixed_row _ := ⟨fun_mk (st := s_fixed_row) l_fixed_row c_fixed_row k_fixed_row, (fun_mk (st := s_fixed_row) l_fixed_row c_fixed_row k_fixed_row).binds (ps := ["n", "most"]) fun _ _ _ _ _ _ us hl => by obtain ⟨_, _, rfl⟩ := ex2 us hl; rfl, PySem.W.mg_of X G a_fixed_row⟩
  have F_is_number : FunAt K mg "is_number" s_is_number ["value"] f_is_number _ := ⟨fun_mk (st := s_is_number) l_is_number c_is_number k_is_number, (fun_mk (st := s_is_number) l_is_number c_is_number k_is_number).binds (ps := ["value"]) fun _ _ _ _ _ _ us hl => by obtain ⟨_, rfl⟩ := ex1 us hl; rfl, PySem.W.mg_of X G a_is_number⟩
  have F_made_of : FunAt K mg "made_of" s_made_of ["text", "signs"] f_made_of _ := ⟨fun_mk (st := s_made_of) l_made_of c_made_of k_made_of, (fun_mk (st := s_made_of) l_made_of c_made_of k_made_of).binds (ps := ["text", "signs"]) fun _ _ _ _ _ _ us hl => by obtain ⟨_, _, rfl⟩ := ex2 us hl; rfl, PySem.W.mg_of X G a_made_of⟩
  have F_is_name : FunAt K mg "is_name" s_is_name ["name"] f_is_name _ := ⟨fun_mk (st := s_is_name) l_is_name c_is_name k_is_name, (fun_mk (st := s_is_name) l_is_name c_is_name k_is_name).binds (ps := ["name"]) fun _ _ _ _ _ _ us hl => by obtain ⟨_, rfl⟩ := ex1 us hl; rfl, PySem.W.mg_of X G a_is_name⟩
  have F_names_of : FunAt K mg "names_of" s_names_of ["parts"] f_names_of _ := ⟨fun_mk (st := s_names_of) l_names_of c_names_of k_names_of, (fun_mk (st := s_names_of) l_names_of c_names_of k_names_of).binds (ps := ["parts"]) fun _ _ _ _ _ _ us hl => by obtain ⟨_, rfl⟩ := ex1 us hl; rfl, PySem.W.mg_of X G a_names_of⟩
  have F_behind_all : FunAt K mg "behind_all" s_behind_all ["row"] f_behind_all _ := ⟨fun_mk (st := s_behind_all) l_behind_all c_behind_all k_behind_all, (fun_mk (st := s_behind_all) l_behind_all c_behind_all k_behind_all).binds (ps := ["row"]) fun _ _ _ _ _ _ us hl => by obtain ⟨_, rfl⟩ := ex1 us hl; rfl, PySem.W.mg_of X G a_behind_all⟩
  have F_span_of : FunAt K mg "span_of" s_span_of ["form", "first", "low", "high"] f_span_of _ := ⟨fun_mk (st := s_span_of) l_span_of c_span_of k_span_of, (fun_mk (st := s_span_of) l_span_of c_span_of k_span_of).binds (ps := ["form", "first", "low", "high"]) fun _ _ _ _ _ _ us hl => by obtain ⟨_, _, _, _, rfl⟩ := ex4 us hl; rfl, PySem.W.mg_of X G a_span_of⟩
  have F_law_cell_at : FunAt K mg "_law_cell_at" s_law_cell_at ["_law_script", "_law_k"] f_law_cell_at _ := ⟨fun_mk (st := s_law_cell_at) l_law_cell_at c_law_cell_at k_law_cell_at, (fun_mk (st := s_law_cell_at) l_law_cell_at c_law_cell_at k_law_cell_at).binds (ps := ["_law_script", "_law_k"]) fun _ _ _ _ _ _ us hl => by obtain ⟨_, _, rfl⟩ := ex2 us hl; rfl, PySem.W.mg_of X G a_law_cell_at⟩
  have F_law_mixed : FunAt K mg "_law_mixed" s_law_mixed ["_law_cell", "_law_k"] f_law_mixed _ := ⟨fun_mk (st := s_law_mixed) l_law_mixed c_law_mixed k_law_mixed, (fun_mk (st := s_law_mixed) l_law_mixed c_law_mixed k_law_mixed).binds (ps := ["_law_cell", "_law_k"]) fun _ _ _ _ _ _ us hl => by obtain ⟨_, _, rfl⟩ := ex2 us hl; rfl, PySem.W.mg_of X G a_law_mixed⟩
  have F_law_form : FunAt K mg "_law_form" s_law_form ["_law_word"] f_law_form _ := ⟨fun_mk (st := s_law_form) l_law_form c_law_form k_law_form, (fun_mk (st := s_law_form) l_law_form c_law_form k_law_form).binds (ps := ["_law_word"]) fun _ _ _ _ _ _ us hl => by obtain ⟨_, rfl⟩ := ex1 us hl; rfl, PySem.W.mg_of X G a_law_form⟩
  have F_law_value : FunAt K mg "_law_value" s_law_value ["_law_word", "_law_number"] f_law_value _ := ⟨fun_mk (st := s_law_value) l_law_value c_law_value k_law_value, (fun_mk (st := s_law_value) l_law_value c_law_value k_law_value).binds (ps := ["_law_word", "_law_number"]) fun _ _ _ _ _ _ us hl => by obtain ⟨_, _, rfl⟩ := ex2 us hl; rfl, PySem.W.mg_of X G a_law_value⟩
  have F_law_key : FunAt K mg "_law_key" s_law_key ["_law_word", "_law_value_here"] f_law_key _ := ⟨fun_mk (st := s_law_key) l_law_key c_law_key k_law_key, (fun_mk (st := s_law_key) l_law_key c_law_key k_law_key).binds (ps := ["_law_word", "_law_value_here"]) fun _ _ _ _ _ _ us hl => by obtain ⟨_, _, rfl⟩ := ex2 us hl; rfl, PySem.W.mg_of X G a_law_key⟩
  have F_law_words : FunAt K mg "_law_words" s_law_words ["_law_script"] f_law_words _ := ⟨fun_mk (st := s_law_words) l_law_words c_law_words k_law_words, (fun_mk (st := s_law_words) l_law_words c_law_words k_law_words).binds (ps := ["_law_script"]) fun _ _ _ _ _ _ us hl => by obtain ⟨_, rfl⟩ := ex1 us hl; rfl, PySem.W.mg_of X G a_law_words⟩
  have F_law_start : FunAt K mg "_law_start" s_law_start ["_law_script", "_law_words_here"] f_law_start _ := ⟨fun_mk (st := s_law_start) l_law_start c_law_start k_law_start, (fun_mk (st := s_law_start) l_law_start c_law_start k_law_start).binds (ps := ["_law_script", "_law_words_here"]) fun _ _ _ _ _ _ us hl => by obtain ⟨_, _, rfl⟩ := ex2 us hl; rfl, PySem.W.mg_of X G a_law_start⟩
  have F_law_drawn : FunAt K mg "_law_drawn" s_law_drawn ["_law_script", "_law_words_here", "_law_first", "_law_k"] f_law_drawn _ := ⟨fun_mk (st := s_law_drawn) l_law_drawn c_law_drawn k_law_drawn, (fun_mk (st := s_law_drawn) l_law_drawn c_law_drawn k_law_drawn).binds (ps := ["_law_script", "_law_words_here", "_law_first", "_law_k"]) fun _ _ _ _ _ _ us hl => by obtain ⟨_, _, _, _, rfl⟩ := ex4 us hl; rfl, PySem.W.mg_of X G a_law_drawn⟩
  have F_law_inside : FunAt K mg "_law_inside" s_law_inside ["_law_words_here", "_law_value_here", "_law_first", "_law_low", "_law_high"] f_law_inside _ := ⟨fun_mk (st := s_law_inside) l_law_inside c_law_inside k_law_inside, (fun_mk (st := s_law_inside) l_law_inside c_law_inside k_law_inside).binds (ps := ["_law_words_here", "_law_value_here", "_law_first", "_law_low", "_law_high"]) fun _ _ _ _ _ _ us hl => by obtain ⟨_, _, _, _, _, rfl⟩ := ex5 us hl; rfl, PySem.W.mg_of X G a_law_inside⟩
  have F_law_ends : FunAt K mg "_law_ends" s_law_ends ["_law_forms", "_law_first", "_law_low", "_law_high"] f_law_ends _ := ⟨fun_mk (st := s_law_ends) l_law_ends c_law_ends k_law_ends, (fun_mk (st := s_law_ends) l_law_ends c_law_ends k_law_ends).binds (ps := ["_law_forms", "_law_first", "_law_low", "_law_high"]) fun _ _ _ _ _ _ us hl => by obtain ⟨_, _, _, _, rfl⟩ := ex4 us hl; rfl, PySem.W.mg_of X G a_law_ends⟩
  have F_law := fun_mk (st := s_law) l_law c_law k_law
  have nb : NB mg := ⟨PySem.W.mg_none_of X G z_len, PySem.W.mg_none_of X G z_range, PySem.W.mg_none_of X G z_int, PySem.W.mg_none_of X G z_str, PySem.W.mg_none_of X G z_bool, PySem.W.mg_none_of X G z_tuple, PySem.W.mg_none_of X G z_isinstance, PySem.W.mg_none_of X G z_list, PySem.W.mg_none_of X G z_all, PySem.W.mg_none_of X G z_zip, PySem.W.mg_none_of X G z_set⟩
  have g_MOST_DIGITS : GlobV mg "MOST_DIGITS" (.int 255) := ⟨_, PySem.W.mg_of X G g0_MOST_DIGITS, ⟨_, rfl⟩⟩
  have g_MOST_AHEAD : GlobV mg "MOST_AHEAD" (.int 7) := ⟨_, PySem.W.mg_of X G g0_MOST_AHEAD, ⟨_, rfl⟩⟩
  have g_MOST_SIGNS : GlobV mg "MOST_SIGNS" (.int 60) := ⟨_, PySem.W.mg_of X G g0_MOST_SIGNS, ⟨_, rfl⟩⟩
  have g_LONGEST_TEXT : GlobV mg "LONGEST_TEXT" (.int 200) := ⟨_, PySem.W.mg_of X G g0_LONGEST_TEXT, ⟨_, rfl⟩⟩
  have g_MOST_VALUES : GlobV mg "MOST_VALUES" (.int 60) := ⟨_, PySem.W.mg_of X G g0_MOST_VALUES, ⟨_, rfl⟩⟩
  have g_MOST_PARTS : GlobV mg "MOST_PARTS" (.int 20) := ⟨_, PySem.W.mg_of X G g0_MOST_PARTS, ⟨_, rfl⟩⟩
  have g_LONGEST_NAME : GlobV mg "LONGEST_NAME" (.int 12) := ⟨_, PySem.W.mg_of X G g0_LONGEST_NAME, ⟨_, rfl⟩⟩
  have g_SMALL_LETTERS : GlobV mg "SMALL_LETTERS" (.str L26) := ⟨_, PySem.W.mg_of X G g0_SMALL_LETTERS, ⟨_, rfl⟩⟩
  have g_LETTERS_AND_FIGURES : GlobV mg "LETTERS_AND_FIGURES" (.str L62) := ⟨_, PySem.W.mg_of X G g0_LETTERS_AND_FIGURES, ⟨_, rfl⟩⟩
  refine ⟨PySem.W.fnOf "law" "law" (defArgs s_law) (defBody s_law) (defScope s_law) .none kV_x57 dc_x57 pm_x57 an_x57 cd_x57 ct_x57, fun s v => .of_eq rfl, fun base _ _ => ?_⟩
  have D_turned_row := ok_turned_row (P := l.prog) (w := w) (base := base) F_turned_row
  have D_lower_digits := ok_lower_digits (P := l.prog) (w := w) (base := base) nb F_lower_digits
  have D_is_count := ok_is_count (P := l.prog) (w := w) (base := base) g_MOST_DIGITS F_is_count
  have D_has_whole_row := ok_has_whole_rowD F_has_whole_row D_is_count
  have D_count_row := ok_count_row g_MOST_AHEAD F_count_row D_is_count D_lower_digits
  have D_whole_row := ok_whole_row F_whole_row D_count_row D_turned_row
  have D_fixed_row := ok_fixed_row F_fixed_row D_lower_digits
  have D_is_number := ok_is_numberD (P := l.prog) (w := w) (base := base) nb F_is_number
  have D_made_of := ok_made_of (P := l.prog) (w := w) (base := base) nb F_made_of
  have D_is_name := ok_is_name nb g_LONGEST_NAME g_SMALL_LETTERS F_is_name D_made_of
  have D_names_of := ok_names_of nb g_MOST_PARTS F_names_of D_is_name
  have D_behind_all := ok_behind_all (P := l.prog) (w := w) (base := base) F_behind_all
  have TS : SpanCls K C_Span := ⟨cl_Span, n_Span_low, n_Span_high⟩
  have TL : LetCls K C_Letters := ⟨cl_Letters, n_Letters_signs⟩
  have TR : TwoCls K C_Record := ⟨cl_Record, n_Record_names, n_Record_forms⟩
  have TM : OneCls K C_Maybe := ⟨cl_Maybe, n_Maybe_inner⟩
  have TY : OneCls K C_Many := ⟨cl_Many, n_Many_inner⟩
  have TT : OneCls K C_Turned := ⟨cl_Turned, n_Turned_inner⟩
  have M_Span : MakeOk l.prog w K mg base 1 "Span" C_Span ["self", "low", "high"] (spSpanInit C_Span) := ⟨_, _, K_Span, ok_span_init TS F_Span_init, b_Span_init, m_Span⟩
  have M_Letters : MakeOk l.prog w K mg base 2 "Letters" C_Letters ["self", "signs"] (spLetInit C_Letters) := ⟨_, _, K_Letters, ok_let_init nb g_MOST_SIGNS g_LETTERS_AND_FIGURES TL F_Letters_init D_made_of, b_Letters_init, m_Letters⟩
  have M_Record : MakeOk l.prog w K mg base 4 "Record" C_Record ["self", "parts"] (spTwoInit C_Record) := ⟨_, _, K_Record, ok_rec_init nb TR F_Record_init D_names_of, b_Record_init, m_Record⟩
  have M_Maybe : MakeOk l.prog w K mg base 1 "Maybe" C_Maybe ["self", "inner"] (spOneInit C_Maybe) := ⟨_, _, K_Maybe, ok_maybe_init TM F_Maybe_init, b_Maybe_init, m_Maybe⟩
  have M_Many : MakeOk l.prog w K mg base 1 "Many" C_Many ["self", "inner"] (spOneInit C_Many) := ⟨_, _, K_Many, ok_many_init TY F_Many_init, b_Many_init, m_Many⟩
  have M_Turned : MakeOk l.prog w K mg base 1 "Turned" C_Turned ["self", "inner"] (spOneInit C_Turned) := ⟨_, _, K_Turned, ok_turned_init TT F_Turned_init, b_Turned_init, m_Turned⟩
  obtain ⟨c, hc⟩ : ∃ c : FC, c = ⟨fun k => [C_Nothing, C_Truth, C_Whole, C_Nothing][k], C_Span, C_Letters, fun k => [C_Maybe, C_Many, C_Turned][k], fun k => [C_Record, C_Record][k]⟩ := ⟨_, rfl⟩
  have ec_Nothing : c.b 0 = C_Nothing := by rw [hc]; rfl
  have ec_Truth : c.b 1 = C_Truth := by rw [hc]; rfl
  have ec_Whole : c.b 2 = C_Whole := by rw [hc]; rfl
  have ec_b3 : c.b 3 = c.b 0 := by rw [hc]; rfl
  have ec_Span : c.s = C_Span := by rw [hc]
  have ec_Letters : c.l = C_Letters := by rw [hc]
  have ec_Maybe : c.o 0 = C_Maybe := by rw [hc]; rfl
  have ec_Many : c.o 1 = C_Many := by rw [hc]; rfl
  have ec_Turned : c.o 2 = C_Turned := by rw [hc]; rfl
  have ec_Record : c.t 0 = C_Record := by rw [hc]; rfl
  have ec_t1 : c.t 1 = c.t 0 := by rw [hc]; rfl
  clear hc
  subst ec_Nothing
  subst ec_Truth
  subst ec_Whole
  subst ec_Span
  subst ec_Letters
  subst ec_Maybe
  subst ec_Many
  subst ec_Turned
  subst ec_Record
  have tO : ∀ k, OneCls K (c.o k) := fun k => by rcases fin3 k with rfl | rfl | rfl <;> assumption
  have tT : ∀ k, TwoCls K (c.t k) := fun k => by
    rcases fin2 k with rfl | rfl
    · exact TR
    · rw [ec_t1]; exact TR
  have SF : Fts K c := ⟨⟨⟨_, _, F_Nothing_fits, b_Nothing_fits, t_Nothing_fits⟩, cl_Nothing⟩, ⟨⟨_, _, F_Truth_fits, b_Truth_fits, t_Truth_fits⟩, cl_Truth⟩, ⟨⟨_, _, F_Whole_fits, b_Whole_fits, t_Whole_fits⟩, cl_Whole⟩, ⟨⟨_, _, F_Span_fits, b_Span_fits, t_Span_fits⟩, cl_Span⟩, ⟨⟨_, _, F_Letters_fits, b_Letters_fits, t_Letters_fits⟩, cl_Letters⟩, ⟨⟨_, _, F_Maybe_fits, b_Maybe_fits, t_Maybe_fits⟩, cl_Maybe⟩, ⟨⟨_, _, F_Many_fits, b_Many_fits, t_Many_fits⟩, cl_Many⟩, ⟨⟨_, _, F_Turned_fits, b_Turned_fits, t_Turned_fits⟩, cl_Turned⟩, ⟨⟨_, _, F_Record_fits, b_Record_fits, t_Record_fits⟩, cl_Record⟩, ec_b3, ec_t1, TS, TL, tO, tT⟩
  have SW : Wts K c := ⟨⟨⟨_, _, F_Nothing_written, b_Nothing_written, t_Nothing_written⟩, cl_Nothing⟩, ⟨⟨_, _, F_Truth_written, b_Truth_written, t_Truth_written⟩, cl_Truth⟩, ⟨⟨_, _, F_Whole_written, b_Whole_written, t_Whole_written⟩, cl_Whole⟩, ⟨⟨_, _, F_Span_written, b_Span_written, t_Span_written⟩, cl_Span⟩, ⟨⟨_, _, F_Letters_written, b_Letters_written, t_Letters_written⟩, cl_Letters⟩, ⟨⟨_, _, F_Maybe_written, b_Maybe_written, t_Maybe_written⟩, cl_Maybe⟩, ⟨⟨_, _, F_Many_written, b_Many_written, t_Many_written⟩, cl_Many⟩, ⟨⟨_, _, F_Turned_written, b_Turned_written, t_Turned_written⟩, cl_Turned⟩, ⟨⟨_, _, F_Record_written, b_Record_written, t_Record_written⟩, cl_Record⟩, ec_b3, ec_t1, TS, TL, tO, tT⟩
  have SR : Rws K c := ⟨fun i => by
    cases i with
    | b k =>
      rcases fin4 k with rfl | rfl | rfl | rfl
      · exact ⟨⟨_, _, F_Nothing_row, b_Nothing_row, t_Nothing_row⟩, cl_Nothing⟩
      · exact ⟨⟨_, _, F_Truth_row, b_Truth_row, t_Truth_row⟩, cl_Truth⟩
      · exact ⟨⟨_, _, F_Whole_row, b_Whole_row, t_Whole_row⟩, cl_Whole⟩
      · show MethAt K (c.b 3) _ _ _ _
        rw [ec_b3]; exact ⟨⟨_, _, F_Nothing_row, b_Nothing_row, t_Nothing_row⟩, cl_Nothing⟩
    | s => exact ⟨⟨_, _, F_Span_row, b_Span_row, t_Span_row⟩, cl_Span⟩
    | l => exact ⟨⟨_, _, F_Letters_row, b_Letters_row, t_Letters_row⟩, cl_Letters⟩
    | o k =>
      rcases fin3 k with rfl | rfl | rfl
      · exact ⟨⟨_, _, F_Maybe_row, b_Maybe_row, t_Maybe_row⟩, cl_Maybe⟩
      · exact ⟨⟨_, _, F_Many_row, b_Many_row, t_Many_row⟩, cl_Many⟩
      · exact ⟨⟨_, _, F_Turned_row, b_Turned_row, t_Turned_row⟩, cl_Turned⟩
    | t k =>
      rcases fin2 k with rfl | rfl
      · exact ⟨⟨_, _, F_Record_row, b_Record_row, t_Record_row⟩, cl_Record⟩
      · show MethAt K (c.t 1) _ _ _ _
        rw [ec_t1]; exact ⟨⟨_, _, F_Record_row, b_Record_row, t_Record_row⟩, cl_Record⟩⟩
  have M_places : MethOk l.prog w K mg base 1 c.l "places" ["self", "text"] (spPlaces c.l) := ⟨_, _, ok_Letters_places TL F_Letters_places, b_Letters_places, t_Letters_places⟩
  have AM_fits := all_fits (ff := fun _ => false) (P := l.prog) (w := w) (base := base) nb SF g_MOST_VALUES g_LONGEST_TEXT D_is_number D_has_whole_row D_made_of 2
  have AM_written := all_written (ff := fun _ => false) (fw := fun _ => []) nb SW M_places D_whole_row D_fixed_row D_turned_row 2
  have AM_row := all_row SR AM_fits AM_written
  have D_span_of := ok_span_of nb TR F_span_of D_behind_all AM_row
  have AM_fits3 := all_fits (ff := fun _ => false) (P := l.prog) (w := w) (base := base) nb SF g_MOST_VALUES g_LONGEST_TEXT D_is_number D_has_whole_row D_made_of 3
  have AM_written3 := all_written (ff := fun _ => false) (fw := fun _ => []) nb SW M_places D_whole_row D_fixed_row D_turned_row 3
  have AM_row3 := all_row SR AM_fits3 AM_written3
  have D_law_cell_at := ok_law_cell_at (P := l.prog) (w := w) (base := base) nb F_law_cell_at
  have D_law_mixed := ok_law_mixed (P := l.prog) (w := w) (base := base) F_law_mixed
  have D_law_words := ok_law_words nb F_law_words D_law_cell_at D_law_mixed
  have D_law_value := ok_law_value (ff := fun _ => false) (P := l.prog) (w := w) (base := base) nb F_law_value
  have D_law_form := ok_law_form F_law_form M0_Truth m_Truth M0_Whole m_Whole M0_Nothing m_Nothing M_Span M_Letters M_Maybe M_Many M_Turned
  have D_law_key := ok_law_key (ff := fun _ => false) (P := l.prog) (w := w) (base := base) nb F_law_key
  have D_law_start := ok_law_start nb F_law_start D_law_cell_at D_law_mixed D_law_value
  have D_law_drawn := ok_law_drawn nb F_law_drawn D_law_cell_at D_law_mixed D_law_value
  have D_law_inside := ok_law_inside nb F_law_inside D_law_key
  have D_law_ends := ok_law_ends (n := 0) nb F_law_ends AM_row
  exact ok_law54 nb F_law D_law_words D_law_form M_Record D_law_start D_span_of D_law_ends D_law_drawn AM_row3 D_law_inside

theorem walk {l : PySem.W.OpenLaw} {q : Program} {loose : List Str} {XP : (Str → Option Value) → Heap → Prop} {YP : World → Heap → Prop} {d : DefRec} {K : Params → PySem.W.Frag} (hn : l.most = some 63) (hdf : d.params.defaults = [])
    (hY : ∀ (w : World) (h : Heap), YP w h → (K w.params).In h)
    (F : ∀ (w : World) (mg : Str → Option Value) (fa : Addr) (h : Heap), (K w.params).In h → h.Ns mainGlobals mg → mg d.name = some (.ref fa) →
      ∃ fd : FuncData, (∀ (s : Shared) (u : Value), BindsTo s fd ⟨[u], []⟩ [("_law_script", u)]) ∧ ∀ base : Heap, (K w.params).In base → base.Ns mainGlobals mg → FnOk l.prog w (K w.params) mg base CX0 13 fa fd ["_law_script"] (spLaw (K w.params))) :
    PySem.W.WalkO q loose XP YP l.row.toRowW d [] (fun f vs => PySem.call f vs) :=
  L2.walk_of (n := 63) (k := 13) (x := "_law_script") (CX := fun _ => CX0) (sp := fun w => spLaw (K w.params)) hn (by decide) hdf ⟨rfl, by decide, by decide⟩ hY F (fun _ _ a ns hl _ hS => ⟨a, ns, rfl, hS, hl, fun _ => rfl⟩) fun _ _ _ _ _ z => z
end
end KR
/-! the great twins of the walk are not laid: these names are taken -/
def PySem.W.Fast.tw13581971230975185648 : Nat := 0
def PySem.W.Fast.tw16169811475336773287 : Nat := 0
def PySem.W.Fast.tw5000580643835985945 : Nat := 0
def PySem.W.Fast.tw6530847065203299591 : Nat := 0
def PySem.W.Fast.tw14954334835009082406 : Nat := 0
def PySem.W.Fast.tw14744537717331391825 : Nat := 0
def PySem.W.Fast.tw15162568853915893381 : Nat := 0
def PySem.W.Fast.tw14000701240098800511 : Nat := 0
def PySem.W.Fast.tw1770631716821764787 : Nat := 0
def PySem.W.Fast.tw13546090261687352614 : Nat := 0
def PySem.W.Fast.tw10467369754030526042 : Nat := 0
def PySem.W.Fast.tw11744087012441025852 : Nat := 0
def PySem.W.Fast.tw1469600125469857511 : Nat := 0
def PySem.W.Fast.tw8382926649988461381 : Nat := 0
def PySem.W.Fast.tw16634985980126163227 : Nat := 0
def PySem.W.Fast.tw8569770870395587118 : Nat := 0
def PySem.W.Fast.tw17228459907692338156 : Nat := 0
def PySem.W.Fast.tw15920634215967506567 : Nat := 0
def PySem.W.Fast.tw8940350787344385218 : Nat := 0
def PySem.W.Fast.tw4836178130347194374 : Nat := 0
def PySem.W.Fast.tw5060445732599930883 : Nat := 0
def PySem.W.Fast.tw13600918411447233959 : Nat := 0
def PySem.W.Fast.tw4199626555391354587 : Nat := 0
def PySem.W.Fast.tw11963715346617135974 : Nat := 0
def PySem.W.Fast.tw6793691947866294902 : Nat := 0
def PySem.W.Fast.tw16512751295959912643 : Nat := 0
def PySem.W.Fast.tw11954664061072684654 : Nat := 0
def PySem.W.Fast.tw7975246464177873066 : Nat := 0
def PySem.W.Fast.tw3068574998153419823 : Nat := 0
def PySem.W.Fast.tw4803510939155308281 : Nat := 0
def PySem.W.Fast.tw10237991628181954911 : Nat := 0
def PySem.W.Fast.tw7588638068747873452 : Nat := 0
def PySem.W.Fast.tw9330124296781561649 : Nat := 0
def PySem.W.Fast.tw16219630737583378351 : Nat := 0
def PySem.W.Fast.tw15995631859246445301 : Nat := 0
def PySem.W.Fast.tw770171120035993005 : Nat := 0
def PySem.W.Fast.tw3411565104992027030 : Nat := 0
def PySem.W.Fast.tw14046084040223676764 : Nat := 0
def PySem.W.Fast.tw8084440528788417115 : Nat := 0
def PySem.W.Fast.tw5878823944616891048 : Nat := 0
def PySem.W.Fast.tw11697056320786743435 : Nat := 0
def PySem.W.Fast.tw4506454352325361613 : Nat := 0
def PySem.W.Fast.tw10318379792322150824 : Nat := 0
def PySem.W.Fast.tw12814305010074930442 : Nat := 0
def PySem.W.Fast.tw14426640753169613826 : Nat := 0
def PySem.W.Fast.tw10944472139302551121 : Nat := 0
def PySem.W.Fast.tw9162172264355449804 : Nat := 0
def PySem.W.Fast.tw9223223545839135437 : Nat := 0
def PySem.W.Fast.tw13586981743646815639 : Nat := 0
def PySem.W.Fast.tw13962001021956896608 : Nat := 0
def PySem.W.Fast.tw10829770788305985283 : Nat := 0
def PySem.W.Fast.tw878346229677846817 : Nat := 0
def PySem.W.Fast.tw5867434044087490267 : Nat := 0
def PySem.W.Fast.tw6992021505453877432 : Nat := 0
def PySem.W.Fast.tw2004902960282064655 : Nat := 0
def PySem.W.Fast.tw7768710208207117245 : Nat := 0
def PySem.W.Fast.tw3861206130476398855 : Nat := 0
def PySem.W.Fast.tw7148820572536563271 : Nat := 0
def PySem.W.Fast.tw8599125893536808965 : Nat := 0
def PySem.W.Fast.tw5489366394352918794 : Nat := 0
def PySem.W.Fast.tw8161861192315713856 : Nat := 0
def PySem.W.Fast.tw7784032485828642340 : Nat := 0
def PySem.W.Fast.tw12245408236161774551 : Nat := 0
def PySem.W.Fast.tw2702539592423557362 : Nat := 0
def PySem.W.Fast.tw13703758277862678704 : Nat := 0
def PySem.W.Fast.tw2418848513831058452 : Nat := 0
def PySem.W.Fast.tw10676509339886528932 : Nat := 0
def PySem.W.Fast.tw3021643662631098081 : Nat := 0
def PySem.W.Fast.tw17076812038961751464 : Nat := 0
def PySem.W.Fast.tw792154897453379350 : Nat := 0
def PySem.W.Fast.tw14849061811735628230 : Nat := 0
def PySem.W.Fast.tw5558230042869755930 : Nat := 0
def PySem.W.Fast.tw10599241463711596857 : Nat := 0
def PySem.W.Fast.tw7118666794225105528 : Nat := 0
def PySem.W.Fast.tw13392536869863548286 : Nat := 0
def PySem.W.Fast.tw6120295968063801379 : Nat := 0
def PySem.W.Fast.tw7927716943462415771 : Nat := 0
def PySem.W.Fast.tw15110423790355822125 : Nat := 0
def PySem.W.Fast.tw9683732349982710525 : Nat := 0
def PySem.W.Fast.tw7247017333644343616 : Nat := 0
def PySem.W.Fast.tw17970563620913126509 : Nat := 0
def PySem.W.Fast.tw17110631821013924548 : Nat := 0
def PySem.W.Fast.tw12884681641613033100 : Nat := 0
def PySem.W.Fast.tw6499132977422538499 : Nat := 0
def PySem.W.Fast.tw1331869997569152061 : Nat := 0
def PySem.W.Fast.tw15623979707741549857 : Nat := 0
def PySem.W.Fast.tw8422067887101975030 : Nat := 0
def PySem.W.Fast.tw12797549593581601981 : Nat := 0
def PySem.W.Fast.tw15858221014246885117 : Nat := 0
def PySem.W.Fast.tw18305144630945803165 : Nat := 0
def PySem.W.Fast.tw8730237219996218247 : Nat := 0
def PySem.W.Fast.tw6683779142316391724 : Nat := 0
def PySem.W.Fast.tw15181685922846118297 : Nat := 0
def PySem.W.Fast.tw5480680284732595567 : Nat := 0
def PySem.W.Fast.tw12912634207487234487 : Nat := 0
def PySem.W.Fast.tw17686538308899972524 : Nat := 0
def PySem.W.Fast.tw8506790714925539990 : Nat := 0
def PySem.W.Fast.tw15815522501731912004 : Nat := 0
def PySem.W.Fast.tw5805127828526993504 : Nat := 0
def PySem.W.Fast.tw16357822170432389081 : Nat := 0
def PySem.W.Fast.tw4953495137670684962 : Nat := 0
def PySem.W.Fast.tw7188711198483673573 : Nat := 0
def PySem.W.Fast.tw4057882908561139118 : Nat := 0
def PySem.W.Fast.tw12327690427037753723 : Nat := 0
def PySem.W.Fast.tw11146278751644030998 : Nat := 0
def PySem.W.Fast.tw16493201804060297409 : Nat := 0
def PySem.W.Fast.tw10646057869500893672 : Nat := 0
def PySem.W.Fast.tw17520702716232824830 : Nat := 0
def PySem.W.Fast.tw15158883648726673880 : Nat := 0
def PySem.W.Fast.tw1304329525822652263 : Nat := 0
def PySem.W.Fast.tw12767836430483836518 : Nat := 0
def PySem.W.Fast.tw6295892997613326702 : Nat := 0
def PySem.W.Fast.tw2951169314361313544 : Nat := 0
def PySem.W.Fast.tw3065565887777212030 : Nat := 0
def PySem.W.Fast.tw17662786970472834872 : Nat := 0
def PySem.W.Fast.tw8929634773460942020 : Nat := 0
def PySem.W.Fast.tw9408762368118747202 : Nat := 0
def PySem.W.Fast.tw1521910939373410460 : Nat := 0
def PySem.W.Fast.tw9774881140109165866 : Nat := 0
def PySem.W.Fast.tw917368644682130036 : Nat := 0
def PySem.W.Fast.tw13435698452935025909 : Nat := 0
def PySem.W.Fast.tw12673175107013642640 : Nat := 0
def PySem.W.Fast.tw7721020443154522395 : Nat := 0
def PySem.W.Fast.tw6350597875551083849 : Nat := 0
def PySem.W.Fast.tw16915631372987444583 : Nat := 0
def PySem.W.Fast.tw10100588855682116401 : Nat := 0
def PySem.W.Fast.tw7551793134474471209 : Nat := 0
def PySem.W.Fast.tw6515777708078477438 : Nat := 0
def PySem.W.Fast.tw13282092545317163145 : Nat := 0
def PySem.W.Fast.tw15606632468121943203 : Nat := 0
def PySem.W.Fast.tw16596453850142519235 : Nat := 0
def PySem.W.Fast.tw16296172421248954751 : Nat := 0
def PySem.W.Fast.tw8430615700341437900 : Nat := 0
def PySem.W.Fast.tw10471813414550487156 : Nat := 0
open PySem PySem.W PyProof.Rows
set_option maxRecDepth 100000 in
set_option maxHeartbeats 0 in
theorem PySem.Challenge.cw_keyrise_k54_whole_spans_of_parts_holds : PySem.Challenge.rw_keyrise_k54_whole_spans_of_parts.Holds := by
  w_on; o_law; k_head; (case hw => w_witness2)
  k_fill
  refine KR.walk (l := PySem.Challenge.rw_keyrise_k54_whole_spans_of_parts) rfl rfl (fun w h Y => PySem.W.kIn_of Y) ?F
  case F =>
    intro w mg fa h KX G hmg
    refine' KR.all_mk KX G hmg ?a0 ?a1 ?a2 ?a3 ?a4 ?a5 ?a6 ?a7 ?a8 ?a9 ?a10 ?a11 ?a12 ?a13 ?a14 ?a15 ?a16 ?a17 ?a18 ?a19 ?a20 ?a21 ?a22 ?a23 ?a24 ?a25 ?a26 ?a27 ?a28 ?a29 ?a30 ?a31 ?a32 ?a33 ?a34 ?a35 ?a36 ?a37 ?a38 ?a39 ?a40 ?a41 ?a42 ?a43 ?a44 ?a45 ?a46 ?a47 ?a48 ?a49 ?a50 ?a51 ?a52 ?a53 ?a54 ?a55 ?a56 ?a57 ?a58 ?a59 ?a60 ?a61 ?a62 ?a63 ?a64 ?a65 ?a66 ?a67 ?a68 ?a69 ?a70 ?a71 ?a72 ?a73 ?a74 ?a75 ?a76 ?a77 ?a78 ?a79 ?a80 ?a81 ?a82 ?a83 ?a84 ?a85 ?a86 ?a87 ?a88 ?a89 ?a90 ?a91 ?a92 ?a93 ?a94 ?a95 ?a96 ?a97 ?a98 ?a99 ?a100 ?a101 ?a102 ?a103 ?a104 ?a105 ?a106 ?a107 ?a108 ?a109 ?a110 ?a111 ?a112 ?a113 ?a114 ?a115 ?a116 ?a117 ?a118 ?a119 ?a120 ?a121 ?a122 ?a123 ?a124 ?a125 ?a126 ?a127 ?a128 ?a129 ?a130 ?a131 ?a132 ?a133 ?a134 ?a135 ?a136 ?a137 ?a138 ?a139 ?a140 ?a141 ?a142 ?a143 ?a144 ?a145 ?a146 ?a147 ?a148 ?a149 ?a150 ?a151 ?a152 ?a153 ?a154 ?a155 ?a156 ?a157 ?a158 ?a159 ?a160 ?a161 ?a162 ?a163 ?a164 ?a165 ?a166 ?a167 ?a168 ?a169 ?a170 ?a171 ?a172 ?a173 ?a174 ?a175 ?a176 ?a177 ?a178 ?a179 ?a180 ?a181 ?a182 ?a183 ?a184 ?a185 ?a186 ?a187 ?a188 ?a189 ?a190 ?a191 ?a192 ?a193 ?a194 ?a195 ?a196 ?a197 ?a198 ?a199 ?a200 ?a201 ?a202 ?a203 ?a204 ?a205 ?a206 ?a207 ?a208 ?a209 ?a210 ?a211 ?a212 ?a213 ?a214 ?a215 ?a216 ?a217 ?a218 ?a219 ?a220 ?a221 ?a222 ?a223 ?a224 ?a225 ?a226 ?a227 ?a228 ?a229 ?a230 ?a231 ?a232 ?a233 ?a234 ?a235 ?a236 ?a237 ?a238 ?a239 ?a240 ?a241 ?a242 ?a243 ?a244 ?a245 ?a246 ?a247 ?a248 ?a249 ?a250 ?a251 ?a252 ?a253 ?a254 ?a255 ?a256 ?a257 ?a258 ?a259 ?a260 ?a261 ?a262 ?a263 ?a264 ?a265 ?a266 ?a267 ?a268 ?a269 ?a270 ?a271 ?a272 ?a273 ?a274 ?a275 ?a276 ?a277 ?a278 ?a279 ?a280 ?a281 ?a282 ?a283 ?a284 ?a285 ?a286 ?a287 ?a288 ?a289 ?a290 ?a291 ?a292 ?a293 ?a294 ?a295 ?a296 ?a297 ?a298 ?a299 ?a300 ?a301 ?a302 ?a303 ?a304 ?a305 ?a306 ?a307 ?a308 ?a309 ?a310 ?a311 ?a312 ?a313 ?a314 ?a315 ?a316 ?a317 ?a318 ?a319 ?a320 ?a321 ?a322 ?a323 ?a324 ?a325 ?a326 ?a327 ?a328 ?a329 ?a330 ?a331 ?a332 ?a333 ?a334 ?a335 ?a336 ?a337 ?a338 ?a339 ?a340 ?a341 ?a342 ?a343 ?a344 ?a345 ?a346 ?a347 ?a348 ?a349 ?a350 ?a351 ?a352 ?a353 ?a354 ?a355 ?a356 ?a357 ?a358 ?a359
    (case a0 => k_is)
    (case a1 => k_is)
    (case a2 => k_is)
    (case a3 => k_is)
    (case a4 => k_is)
    (case a5 => k_is)
    (case a6 => k_is)
    (case a7 => k_is)
    (case a8 => k_is)
    (case a9 => k_is)
    (case a10 => k_is)
    (case a11 => k_is)
    (case a12 => k_is)
    (case a13 => k_is)
    (case a14 => k_is)
    (case a15 => k_is)
    (case a16 => k_is)
    (case a17 => k_is)
    (case a18 => k_is)
    (case a19 => k_is)
    (case a20 => k_is)
    (case a21 => k_is)
    (case a22 => k_is)
    (case a23 => k_is)
    (case a24 => k_is)
    (case a25 => k_is)
    (case a26 => k_is)
    (case a27 => k_is)
    (case a28 => k_is)
    (case a29 => k_is)
    (case a30 => k_is)
    (case a31 => k_is)
    (case a32 => k_is)
    (case a33 => k_is)
    (case a34 => k_is)
    (case a35 => k_is)
    (case a36 => k_is)
    (case a37 => k_is)
    (case a38 => k_is)
    (case a39 => k_is)
    (case a40 => k_is)
    (case a41 => k_is)
    (case a42 => k_is)
    (case a43 => k_is)
    (case a44 => k_is)
    (case a45 => k_is)
    (case a46 => k_is)
    (case a47 => k_is)
    (case a48 => k_is)
    (case a49 => k_is)
    (case a50 => k_is)
    (case a51 => k_is)
    (case a52 => k_is)
    (case a53 => k_is)
    (case a54 => k_is)
    (case a55 => k_is)
    (case a56 => k_is)
    (case a57 => k_is)
    (case a58 => k_is)
    (case a59 => k_is)
    (case a60 => k_is)
    (case a61 => k_is)
    (case a62 => k_is)
    (case a63 => k_is)
    (case a64 => k_is)
    (case a65 => k_is)
    (case a66 => k_is)
    (case a67 => k_is)
    (case a68 => k_is)
    (case a69 => k_is)
    (case a70 => k_is)
    (case a71 => k_is)
    (case a72 => k_is)
    (case a73 => k_is)
    (case a74 => k_is)
    (case a75 => k_is)
    (case a76 => k_is)
    (case a77 => k_is)
    (case a78 => k_is)
    (case a79 => k_is)
    (case a80 => k_is)
    (case a81 => k_is)
    (case a82 => k_is)
    (case a83 => k_is)
    (case a84 => k_is)
    (case a85 => k_is)
    (case a86 => k_is)
    (case a87 => k_is)
    (case a88 => k_is)
    (case a89 => k_is)
    (case a90 => k_is)
    (case a91 => k_is)
    (case a92 => k_is)
    (case a93 => k_is)
    (case a94 => k_is)
    (case a95 => k_is)
    (case a96 => k_is)
    (case a97 => k_is)
    (case a98 => k_is)
    (case a99 => k_is)
    (case a100 => k_is)
    (case a101 => k_is)
    (case a102 => k_is)
    (case a103 => k_is)
    (case a104 => k_is)
    (case a105 => k_is)
    (case a106 => k_is)
    (case a107 => k_is)
    (case a108 => k_is)
    (case a109 => k_is)
    (case a110 => k_is)
    (case a111 => k_is)
    (case a112 => k_is)
    (case a113 => k_is)
    (case a114 => k_is)
    (case a115 => k_is)
    (case a116 => k_is)
    (case a117 => k_is)
    (case a118 => k_is)
    (case a119 => k_is)
    (case a120 => k_is)
    (case a121 => k_is)
    (case a122 => k_is)
    (case a123 => k_is)
    (case a124 => k_is)
    (case a125 => k_is)
    (case a126 => k_is)
    (case a127 => k_is)
    (case a128 => k_is)
    (case a129 => k_is)
    (case a130 => k_is)
    (case a131 => k_is)
    (case a132 => k_is)
    (case a133 => k_is)
    (case a134 => k_is)
    (case a135 => k_is)
    (case a136 => k_is)
    (case a137 => k_is)
    (case a138 => k_is)
    (case a139 => k_is)
    (case a140 => k_is)
    (case a141 => k_is)
    (case a142 => k_is)
    (case a143 => k_is)
    (case a144 => k_is)
    (case a145 => k_is)
    (case a146 => k_is)
    (case a147 => k_is)
    (case a148 => k_is)
    (case a149 => k_is)
    (case a150 => k_is)
    (case a151 => k_is)
    (case a152 => k_is)
    (case a153 => k_is)
    (case a154 => k_is)
    (case a155 => k_is)
    (case a156 => k_is)
    (case a157 => k_is)
    (case a158 => k_is)
    (case a159 => k_is)
    (case a160 => k_is)
    (case a161 => k_is)
    (case a162 => k_is)
    (case a163 => k_is)
    (case a164 => k_is)
    (case a165 => k_is)
    (case a166 => k_is)
    (case a167 => k_is)
    (case a168 => k_is)
    (case a169 => k_is)
    (case a170 => k_is)
    (case a171 => k_is)
    (case a172 => k_is)
    (case a173 => k_is)
    (case a174 => k_is)
    (case a175 => k_is)
    (case a176 => k_is)
    (case a177 => k_is)
    (case a178 => k_is)
    (case a179 => k_is)
    (case a180 => k_is)
    (case a181 => k_is)
    (case a182 => k_is)
    (case a183 => k_is)
    (case a184 => k_is)
    (case a185 => k_is)
    (case a186 => k_is)
    (case a187 => k_is)
    (case a188 => k_is)
    (case a189 => k_is)
    (case a190 => k_is)
    (case a191 => k_is)
    (case a192 => k_is)
    (case a193 => k_is)
    (case a194 => k_is)
    (case a195 => k_is)
    (case a196 => k_is)
    (case a197 => k_is)
    (case a198 => k_is)
    (case a199 => k_is)
    (case a200 => k_is)
    (case a201 => k_is)
    (case a202 => k_is)
    (case a203 => k_is)
    (case a204 => k_is)
    (case a205 => k_is)
    (case a206 => k_is)
    (case a207 => k_is)
    (case a208 => k_is)
    (case a209 => k_is)
    (case a210 => k_is)
    (case a211 => k_is)
    (case a212 => k_is)
    (case a213 => k_is)
    (case a214 => k_is)
    (case a215 => k_is)
    (case a216 => k_is)
    (case a217 => k_is)
    (case a218 => k_is)
    (case a219 => k_is)
    (case a220 => k_is)
    (case a221 => k_is)
    (case a222 => k_is)
    (case a223 => k_is)
    (case a224 => k_is)
    (case a225 => k_is)
    (case a226 => k_is)
    (case a227 => k_is)
    (case a228 => k_is)
    (case a229 => k_is)
    (case a230 => k_is)
    (case a231 => k_is)
    (case a232 => k_is)
    (case a233 => k_is)
    (case a234 => k_is)
    (case a235 => k_is)
    (case a236 => k_is)
    (case a237 => k_is)
    (case a238 => k_is)
    (case a239 => k_is)
    (case a240 => k_is)
    (case a241 => k_is)
    (case a242 => k_is)
    (case a243 => k_is)
    (case a244 => k_is)
    (case a245 => k_is)
    (case a246 => k_is)
    (case a247 => k_is)
    (case a248 => k_is)
    (case a249 => k_is)
    (case a250 => k_is)
    (case a251 => k_is)
    (case a252 => k_is)
    (case a253 => k_is)
    (case a254 => k_is)
    (case a255 => k_is)
    (case a256 => k_is)
    (case a257 => k_is)
    (case a258 => k_is)
    (case a259 => k_is)
    (case a260 => k_is)
    (case a261 => k_is)
    (case a262 => k_is)
    (case a263 => k_is)
    (case a264 => k_is)
    (case a265 => k_is)
    (case a266 => k_is)
    (case a267 => k_is)
    (case a268 => k_is)
    (case a269 => k_is)
    (case a270 => k_is)
    (case a271 => k_is)
    (case a272 => k_is)
    (case a273 => k_is)
    (case a274 => k_is)
    (case a275 => k_is)
    (case a276 => k_is)
    (case a277 => k_is)
    (case a278 => k_is)
    (case a279 => k_is)
    (case a280 => k_is)
    (case a281 => k_is)
    (case a282 => k_is)
    (case a283 => k_is)
    (case a284 => k_is)
    (case a285 => k_is)
    (case a286 => k_is)
    (case a287 => k_is)
    (case a288 => k_is)
    (case a289 => k_is)
    (case a290 => k_is)
    (case a291 => k_is)
    (case a292 => k_is)
    (case a293 => k_is)
    (case a294 => k_is)
    (case a295 => k_is)
    (case a296 => k_is)
    (case a297 => k_is)
    (case a298 => k_is)
    (case a299 => k_is)
    (case a300 => k_is)
    (case a301 => k_is)
    (case a302 => k_is)
    (case a303 => k_is)
    (case a304 => k_is)
    (case a305 => k_is)
    (case a306 => k_is)
    (case a307 => k_is)
    (case a308 => k_is)
    (case a309 => k_is)
    (case a310 => k_is)
    (case a311 => k_is)
    (case a312 => k_is)
    (case a313 => k_is)
    (case a314 => k_is)
    (case a315 => k_is)
    (case a316 => k_is)
    (case a317 => k_is)
    (case a318 => k_is)
    (case a319 => k_is)
    (case a320 => k_is)
    (case a321 => k_is)
    (case a322 => k_is)
    (case a323 => k_is)
    (case a324 => k_is)
    (case a325 => k_is)
    (case a326 => k_is)
    (case a327 => k_is)
    (case a328 => k_is)
    (case a329 => k_is)
    (case a330 => k_is)
    (case a331 => k_is)
    (case a332 => k_is)
    (case a333 => k_is)
    (case a334 => k_is)
    (case a335 => k_is)
    (case a336 => k_is)
    (case a337 => k_is)
    (case a338 => k_is)
    (case a339 => k_is)
    (case a340 => k_is)
    (case a341 => k_is)
    (case a342 => k_is)
    (case a343 => k_is)
    (case a344 => k_is)
    (case a345 => k_is)
    (case a346 => k_is)
    (case a347 => k_is)
    (case a348 => k_is)
    (case a349 => k_is)
    (case a350 => k_is)
    (case a351 => k_is)
    (case a352 => k_is)
    (case a353 => k_is)
    (case a354 => k_is)
    (case a355 => k_is)
    (case a356 => k_is)
    (case a357 => k_is)
    (case a358 => k_is)
    (case a359 => k_is)


