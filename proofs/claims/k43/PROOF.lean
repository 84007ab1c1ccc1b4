import PyProof.Rows.All
import Wide.All
import OpenK.AllK
import Wide.FinOn
import Lean
import PyProof.EqAt
import PyProof.EqKinds
import PyProof.TupleCall
import PySem.Challenge.RW_keyrise_k43_full_lists
set_option Elab.async false
set_option linter.all false
set_option maxRecDepth 100000
namespace L2
open PySem PySem.Spec PyProof.Rows

abbrev Key := Sum Int Str
def keyIs : Key → Value → Bool
  | .inl k, v => Value.isInt k v
  | .inr x, v => Value.isStrOf x v
def keyH (w : World) : Key → Int
  | .inl k => hashInt k
  | .inr x => hashStr w x
theorem keyIs_shape : ∀ {k : Key} {v : Value}, keyIs k v = true → (∃ i t, k = Sum.inl i ∧ v = Value.int i t) ∨ (∃ x t, k = Sum.inr x ∧ v = Value.str x t)
  | .inl i, v, h => by
    obtain ⟨t, e⟩ := Value.isInt_shape (k := i) (v := v) h
    exact .inl ⟨i, t, rfl, e⟩
  | .inr x, v, h => by
    obtain ⟨t, e⟩ := Value.isStrOf_shape (x := x) (v := v) h
    exact .inr ⟨x, t, rfl, e⟩
theorem key_ll (a b : Int) : decide ((Sum.inl a : Key) = Sum.inl b) = (a == b) := by
  by_cases e : a = b
  · subst e; simp
  · have h : ¬ (Sum.inl a : Key) = Sum.inl b := fun q => e (Sum.inl.inj q)
    rw [decide_eq_false h]
    exact (beq_eq_false_iff_ne.mpr e).symm
theorem key_rr (a b : Str) : decide ((Sum.inr a : Key) = Sum.inr b) = decide (a = b) := by
  by_cases e : a = b
  · subst e; simp
  · have h : ¬ (Sum.inr a : Key) = Sum.inr b := fun q => e (Sum.inr.inj q)
    rw [decide_eq_false h, decide_eq_false e]
theorem key_lr (a : Int) (b : Str) : decide ((Sum.inl a : Key) = Sum.inr b) = false := decide_eq_false (fun q => nomatch q)
theorem key_rl (a : Str) (b : Int) : decide ((Sum.inr a : Key) = Sum.inl b) = false := decide_eq_false (fun q => nomatch q)

def mixKind (prog : Program) (w : World) : PySem.KeyKind prog w Key where
  is := keyIs
  hash := keyH w
  inj := fun v a b ha hb => by
    rcases keyIs_shape ha with ⟨i, t, rfl, rfl⟩ | ⟨x, t, rfl, rfl⟩
    · rcases keyIs_shape hb with ⟨j, u, rfl, e⟩ | ⟨y, u, rfl, e⟩
      · injection e with e1 _; rw [e1]
      · exact nomatch e
    · rcases keyIs_shape hb with ⟨j, u, rfl, e⟩ | ⟨y, u, rfl, e⟩
      · exact nomatch e
      · injection e with e1 _; rw [e1]
  byValue := fun k v h => by
    rcases keyIs_shape h with ⟨i, t, rfl, rfl⟩ | ⟨x, t, rfl, rfl⟩ <;> rfl
  pyHash := fun hv h => by
    rcases keyIs_shape hv with ⟨i, t, rfl, rfl⟩ | ⟨x, t, rfl, rfl⟩
    · exact wpAny_pyHash_int h
    · exact wpAny_pyHash_str h
  eqBool := fun hu hv h => by
    rcases keyIs_shape hu with ⟨i, t, rfl, rfl⟩ | ⟨x, t, rfl, rfl⟩
    · rcases keyIs_shape hv with ⟨j, u, rfl, rfl⟩ | ⟨y, u, rfl, rfl⟩
      · rw [key_ll] at h; exact wpAny_eqBool_int h
      · rw [key_lr] at h; exact SeqAt.EqAt.int_str i t y u _ _ _ _ h
    · rcases keyIs_shape hv with ⟨j, u, rfl, rfl⟩ | ⟨y, u, rfl, rfl⟩
      · rw [key_rl] at h; exact SeqAt.EqAt.str_int x t j u _ _ _ _ h
      · rw [key_rr] at h; exact wpAny_eqBool_str h
  «strs» := fun k x t v h => by
    rcases keyIs_shape h with ⟨i, u, rfl, e⟩ | ⟨y, u, rfl, e⟩
    · exact nomatch e
    · injection e with e1 _
      subst e1
      cases v <;> rfl

end L2

namespace L2
open PySem PySem.Spec PyProof.Rows

inductive V where
  | non | bl (b : Bool) | int (i : Int) | str (x : Str) | byt (b : Array UInt8) | flt (b : UInt64) | ref (a : Addr) | ty (n : String)
  deriving DecidableEq

def RelV : V → Value → Prop
  | .non, u => u = Value.none
  | .bl b, u => u = Value.bool b
  | .int i, u => ∃ t, u = Value.int i t
  | .str x, u => ∃ t, u = Value.str x t
  | .byt b, u => ∃ t, u = Value.bytes b t
  | .flt b, u => ∃ t, u = Value.float b t
  | .ref a, u => u = Value.ref a
  | .ty n, u => u = Value.type n

abbrev Vals : List V → List Value → Prop := Paired RelV
theorem Vals.length {xs : List V} {us : List Value} (r : Vals xs us) : xs.length = us.length := Paired.length r
theorem Vals.get : ∀ {xs : List V} {us : List Value} {i : Nat} {x : V}, Vals xs us → xs[i]? = some x → ∃ u, us[i]? = some u ∧ RelV x u
  | _, _, _, _, .nil, e => by simp at e
  | _, _, 0, _, .cons r _, e => by simp at e; subst e; exact ⟨_, rfl, r⟩
  | _, _, i + 1, x, .cons _ t, e => by
    obtain ⟨u, h1, h2⟩ := Vals.get (i := i) (x := x) t (by simpa using e)
    exact ⟨u, by simpa using h1, h2⟩
theorem Vals.append : ∀ {xs ys : List V} {us ws : List Value}, Vals xs us → Vals ys ws → Vals (xs ++ ys) (us ++ ws)
  | _, _, _, _, .nil, s => s
  | _, _, _, _, .cons r t, s => .cons r (Vals.append t s)
theorem Vals.take : ∀ {xs : List V} {us : List Value} (n : Nat), Vals xs us → Vals (xs.take n) (us.take n)
  | _, _, 0, _ => .nil
  | _, _, _ + 1, .nil => .nil
  | _, _, n + 1, .cons r t => .cons r (Vals.take n t)
theorem Vals.drop : ∀ {xs : List V} {us : List Value} (n : Nat), Vals xs us → Vals (xs.drop n) (us.drop n)
  | _, _, 0, r => r
  | _, _, _ + 1, .nil => .nil
  | _, _, n + 1, .cons _ t => Vals.drop n t
def RelO : Option V → Option Value → Prop
  | some v, some u => RelV v u
  | none, none => True
  | _, _ => False
def KV {κ : Type} : List (κ × V) → List (κ × Value) → Prop := Paired fun (p : κ × V) (q : κ × Value) => p.1 = q.1 ∧ RelV p.2 q.2

def kV : Key → V
  | .inl i => .int i
  | .inr x => .str x

inductive HO where
    | lst (xs : List V)
    | tup (xs : List V)
    | dK (kvs : List (Key × V)) | dT (kvs : List (List Key × V))
    | set (S : Int → Bool) (n : Nat)
    | ins (C dx : Addr) (fs : List (Str × V))
    | own (x : Addr)
    | xd (fs : List (Str × V))
    | met (f x : Addr)
    | rng (lo hi : Int)
    | frz (o : Obj) (u : HO)
    | tbl (ps : Array Value)
    | ext (φ : Heap → Prop)

abbrev Hp := Addr → Option HO
def upd (H : Hp) (a : Addr) (o : HO) : Hp := fun b => if b = a then some o else H b
theorem upd_same {H : Hp} {a : Addr} {o : HO} : upd H a o a = some o := by unfold upd; rw [if_pos rfl]
theorem upd_ne {H : Hp} {a b : Addr} {o : HO} (h : b ≠ a) : upd H a o b = H b := by unfold upd; rw [if_neg h]
theorem ne_of_none {H : Hp} {a b : Addr} {o : HO} (h : H a = some o) (h' : H b = none) : a ≠ b := by
  intro e; subst e; rw [h] at h'; cases h'

section
variable (P : Program) (w : World)
def ObjOk (H : Hp) (h : Heap) (a : Addr) : HO → Prop
  | .lst xs => xs.length ≤ sizeLine ∧ ∃ (its : List Value) (n : Nat), Vals xs its ∧ h.get? a = some { cls := .type "list", data := .seq its.toArray n }
  | .tup xs => xs.length ≤ sizeLine ∧ ∃ its : List Value, Vals xs its ∧ IsTup h a its.toArray
  | .dK kvs => kvs.length ≤ sizeLine ∧ (a == sysModules) = false ∧ ∃ vs, KV kvs vs ∧ h.DictOf (mixKind P w) a vs
  | .dT _ => False
  | .set S n => h.SetOf (intKind P w) a S n
  | .ins C dx fs => H dx = some (.own a) ∧ fs.length ≤ 1000 ∧ dx ≠ a ∧ h.get? a = some (PySem.W.instObj C dx) ∧
      ∃ mA, h.Ns1 dx mA ∧ (∀ f, RelO (fs.lookup f) (mA f)) ∧ PySem.Within mA (fs.map (·.1))
  | .own _ => ∃ o, h.get? a = some o
  | .xd fs => ∃ mA, h.Ns1 a mA ∧ ∀ f, RelO (fs.lookup f) (mA f)
  | .rng lo hi => ∃ t u v, h.get? a = some { cls := .type "range", data := .fields #[.int lo t, .int hi u, .int 1 v] }
  | .frz o u => h.get? a = some o ∧ ObjOk H h a u
  | .tbl ps => h.get? a = some { cls := .none, data := .fields ps }
  | .met f x => h.get? a = some (PySem.W.methodObj (.ref f) (.ref x))
  | .ext φ => φ h ∧ (∃ o, h.get? a = some o) ∧ ∀ h1 h2 : Heap, φ h1 → (∀ o, h1.get? a = some o → h2.get? a = some o) → φ h2
def HOk (H : Hp) (h : Heap) : Prop := ∀ a o, H a = some o → ObjOk P w H h a o
end

section
variable {P : Program} {w : World} {H H' : Hp} {h h' : Heap} {a : Addr} {o : HO}
theorem ObjOk.lt (x : ObjOk P w H h a o) : a < h.objs.size := by
  cases o with
  | lst xs => obtain ⟨_, _, _, _, e⟩ := x; exact Heap.lt_size e
  | tup xs => obtain ⟨_, _, _, p⟩ := x; exact p.lt
  | dK kvs => obtain ⟨_, _, _, _, o, _, _, e, _⟩ := x; exact Heap.lt_size e
  | dT kvs => exact (show False from x).elim
  | set S n => obtain ⟨o, _, _, _, e, _⟩ := x; exact Heap.lt_size e
  | ins C dx fs => obtain ⟨_, _, _, e, _⟩ := x; exact Heap.lt_size e
  | own y => obtain ⟨_, e⟩ := x; exact Heap.lt_size e
  | xd fs => obtain ⟨_, ⟨_, _, _, e, _⟩, _⟩ := x; exact Heap.lt_size e
  | rng lo hi => obtain ⟨_, _, _, e⟩ := x; exact Heap.lt_size e
  | frz ob u => obtain ⟨e, _⟩ := x; exact Heap.lt_size e
  | tbl ps => exact Heap.lt_size (show h.get? a = some _ from x)
  | met f y => exact Heap.lt_size (show h.get? a = some _ from x)
  | ext φ => obtain ⟨_, ⟨_, e⟩, _⟩ := x; exact Heap.lt_size e
theorem ObjOk.stay (x : ObjOk P w H h a o) (k : ∀ b u, (b = a ∨ H b = some (.own a)) → h.get? b = some u → h'.get? b = some u)
    (ho : ∀ b, H b = some (.own a) → H' b = some (.own a)) (ht : ∀ b xs, H b = some (.tup xs) → H' b = some (.tup xs)) : ObjOk P w H' h' a o := by
  induction o with
  | lst xs => obtain ⟨z, its, n, r, e⟩ := x; exact ⟨z, its, n, r, k _ _ (.inl rfl) e⟩
  | tup xs => obtain ⟨z, its, r, ob, e, c⟩ := x; exact ⟨z, its, r, ob, k _ _ (.inl rfl) e, c⟩
  | dK kvs => obtain ⟨z, y, vs, r, ob, es, ep, e, c⟩ := x; exact ⟨z, y, vs, r, ob, es, ep, k _ _ (.inl rfl) e, c⟩
  | dT kvs => exact (show False from x).elim
  | set S n => obtain ⟨ob, es, ep, t, e, c⟩ := x; exact ⟨ob, es, ep, t, k _ _ (.inl rfl) e, c⟩
  | ins C dx fs =>
    obtain ⟨d, z, ne, e, mA, ⟨od, es, ep, e2, c⟩, r⟩ := x
    exact ⟨ho _ d, z, ne, k _ _ (.inl rfl) e, mA, ⟨od, es, ep, k _ _ (.inr d) e2, c⟩, r⟩
  | own y => obtain ⟨ob, e⟩ := x; exact ⟨ob, k _ _ (.inl rfl) e⟩
  | xd fs => obtain ⟨mA, ⟨od, es, ep, e, c⟩, r⟩ := x; exact ⟨mA, ⟨od, es, ep, k _ _ (.inl rfl) e, c⟩, r⟩
  | rng lo hi => obtain ⟨t, u, v, e⟩ := x; exact ⟨t, u, v, k _ _ (.inl rfl) e⟩
  | frz ob u ih => obtain ⟨e, q⟩ := x; exact ⟨k _ _ (.inl rfl) e, ih q⟩
  | tbl ps =>
    have e : h.get? a = some { cls := .none, data := .fields ps } := x
    show h'.get? a = some { cls := .none, data := .fields ps }
    exact k a _ (.inl rfl) e
  | met f y =>
    have e : h.get? a = some (PySem.W.methodObj (.ref f) (.ref y)) := x
    show h'.get? a = some (PySem.W.methodObj (.ref f) (.ref y))
    exact k a _ (.inl rfl) e
  | ext φ => obtain ⟨p, ⟨o, e⟩, st⟩ := x; exact ⟨st _ _ p fun o q => k _ _ (.inl rfl) q, ⟨o, k _ _ (.inl rfl) e⟩, st⟩
theorem HOk.lt (x : HOk P w H h) (e : H a = some o) : a < h.objs.size := (x a o e).lt
theorem HOk.fresh (x : HOk P w H h) (e : h.objs.size ≤ a) : H a = none := by
  cases q : H a with
  | none => rfl
  | some u => exact absurd (Nat.lt_of_lt_of_le (x.lt q) e) (Nat.lt_irrefl _)
theorem HOk.kept (x : HOk P w H h) (k : ∀ b u, h.get? b = some u → h'.get? b = some u) : HOk P w H h' := fun a o e =>
  (x a o e).stay (fun b u _ q => k b u q) (fun _ q => q) fun _ _ q => q
theorem HOk.laid (x : HOk P w H h) (k : ∀ b u, h.get? b = some u → h'.get? b = some u) (hp : h.objs.size ≤ a) (new : ObjOk P w (upd H a o) h' a o) : HOk P w (upd H a o) h' := fun b u e => by
  have hn := x.fresh hp
  by_cases hb : b = a
  · subst hb; rw [upd_same] at e; cases e; exact new
  · rw [upd_ne hb] at e
    exact (x b u e).stay (fun c v _ q => k c v q) (fun c q => by rw [upd_ne (ne_of_none q hn)]; exact q) fun c xs q => by rw [upd_ne (ne_of_none q hn)]; exact q
end

def Rd (H : Hp) (a : Addr) (u : HO) : Prop := H a = some u ∨ ∃ o, H a = some (.frz o u)
theorem Rd.ok {P : Program} {w : World} {H : Hp} {h : Heap} {a : Addr} {u : HO} (r : Rd H a u) (x : HOk P w H h) : ObjOk P w H h a u := by
  rcases r with r | ⟨o, r⟩
  · exact x a u r
  · obtain ⟨_, q⟩ := x a _ r
    exact q
def Mut : Option HO → Prop
  | some (.lst _) => True
  | some (.dK _) => True
  | some (.dT _) => True
  | some (.set _ _) => True
  | some (.ins _ _ _) => True
  | some (.ext _) => True
  | _ => False
section
variable {P : Program} {w : World} {H : Hp} {h h' : Heap} {x e : Addr} {o' : HO}
theorem HOk.write (ok : HOk P w H h) (mu : Mut (H x)) (he : e = x ∨ H e = some (.own x)) (k : ∀ b u, b ≠ e → h.get? b = some u → h'.get? b = some u) (heo : ∃ u, h'.get? e = some u)
    (new : ObjOk P w (upd H x o') h' x o') : HOk P w (upd H x o') h' := fun b u q => by
  have nown : ∀ c y, H c = some (.own y) → c ≠ x := fun c y r z => by subst z; rw [r] at mu; exact mu
  have ntup : ∀ c xs, H c = some (.tup xs) → c ≠ x := fun c xs r z => by subst z; rw [r] at mu; exact mu
  by_cases hb : b = x
  · subst hb; rw [upd_same] at q; cases q; exact new
  · rw [upd_ne hb] at q
    by_cases hbe : b = e
    · have q' : H b = some (.own x) := by
        rcases he with z | z
        · exact absurd (hbe.trans z) hb
        · rw [hbe]; exact z
      rw [q] at q'; cases q'
      obtain ⟨v, hv⟩ := heo
      exact ⟨v, by rw [hbe]; exact hv⟩
    · refine (ok b u q).stay (fun c v hc r => k c v ?_ r) (fun c r => by rw [upd_ne (nown c b r)]; exact r) fun c xs r => by rw [upd_ne (ntup c xs r)]; exact r
      rcases hc with rfl | hc
      · exact hbe
      · rintro rfl
        rcases he with z | z
        · exact nown c b hc z
        · rw [hc] at z; cases z; exact hb rfl
end

structure Un (fs ex : List Addr) (H H' : Hp) (h h' : Heap) : Prop where
  keep : ∀ b o, h.get? b = some o → H b = none → b ∉ fs → b ∉ ex → h'.get? b = some o
  slot : ∀ b o, h.get? b = some o → H b = none → b ∈ fs → b ∉ ex → ∃ sl, h'.get? b = some { o with slots := sl }
  free : ∀ b o, h.get? b = some o → H b = none → b ∉ ex → H' b = none
  there : ∀ b o, h.get? b = some o → b ∉ ex → ∃ o', h'.get? b = some o'
  tups : ∀ b xs, H b = some (.tup xs) → H' b = some (.tup xs)
  frzs : ∀ b o u, H b = some (.frz o u) → H' b = some (.frz o u)
  tbls : ∀ b ps, H b = some (.tbl ps) → ∃ more, H' b = some (.tbl (ps ++ more))
section
variable {fs fs' ex ex' : List Addr} {H H1 H2 : Hp} {h h1 h2 h' : Heap} {a x e : Addr} {o : HO}
theorem Un.any (u : Un fs ex H H1 h h1) {b : Addr} {ob : Obj} (q : h.get? b = some ob) (n : H b = none) (hx : b ∉ ex) : ∃ sl, h1.get? b = some { ob with slots := sl } := by
  by_cases hb : b ∈ fs
  · exact u.slot b ob q n hb hx
  · exact ⟨ob.slots, u.keep b ob q n hb hx⟩
theorem Un.kept (k : ∀ b u, h.get? b = some u → h'.get? b = some u) : Un fs ex H H h h' :=
  ⟨fun b ob q _ _ _ => k b ob q, fun b ob q _ _ _ => ⟨ob.slots, k b ob q⟩, fun _ _ _ n _ => n, fun b ob q _ => ⟨ob, k b ob q⟩, fun _ _ q => q, fun _ _ _ q => q, fun _ ps q => ⟨#[], by rw [q]; simp⟩⟩
theorem Un.refl : Un fs ex H H h h := Un.kept fun _ _ q => q
theorem Un.laid (k : ∀ b u, h.get? b = some u → h'.get? b = some u) (hp : h.objs.size ≤ a) (hn : H a = none) : Un fs ex H (upd H a o) h h' where
  keep := fun b u q _ _ _ => k b u q
  slot := fun b u q _ _ _ => ⟨u.slots, k b u q⟩
  free := fun b u q n _ => by rw [upd_ne (Nat.ne_of_lt (Nat.lt_of_lt_of_le (Heap.lt_size q) hp))]; exact n
  there := fun b u q _ => ⟨u, k b u q⟩
  tups := fun b xs q => by rw [upd_ne (ne_of_none q hn)]; exact q
  frzs := fun b u xs q => by rw [upd_ne (ne_of_none q hn)]; exact q
  tbls := fun b ps q => ⟨#[], by rw [upd_ne (ne_of_none q hn), q]; simp⟩
theorem Un.write (mu : Mut (H x)) (he : e = x ∨ H e = some (.own x)) (k : ∀ b u, b ≠ e → h.get? b = some u → h'.get? b = some u) (heo : ∃ u, h'.get? e = some u) : Un fs ex H (upd H x o) h h' := by
  have hx : ∀ b, H b = none → b ≠ x := fun b n z => by subst z; rw [n] at mu; exact mu
  have hb : ∀ b, H b = none → b ≠ e := fun b n z => by
    subst z
    rcases he with r | r
    · exact hx b n r
    · rw [n] at r; cases r
  have hm : ∀ b u, H b = some u → ¬ Mut (some u) → b ≠ x := fun b u q nm z => by subst z; rw [q] at mu; exact nm mu
  refine ⟨fun b u q n _ _ => k b u (hb b n) q, fun b u q n _ _ => ⟨u.slots, k b u (hb b n) q⟩, fun b u q n _ => by rw [upd_ne (hx b n)]; exact n, fun b u q _ => ?_,
    fun b xs q => by rw [upd_ne (hm b _ q fun z => z)]; exact q, fun b u xs q => by rw [upd_ne (hm b _ q fun z => z)]; exact q, fun b ps q => ⟨#[], by rw [upd_ne (hm b _ q fun z => z), q]; simp⟩⟩
  by_cases hbe : b = e
  · subst hbe; exact heo
  · exact ⟨u, k b u hbe q⟩
end

def trk (h : Heap) (H : Hp) : List Addr := (List.range h.objs.size).filter fun a => (H a).isSome
def hidT (h : Heap) (H : Hp) : Heap := PySem.W.hideAll h (trk h H)
theorem hidT_size (h : Heap) (H : Hp) : (hidT h H).objs.size = h.objs.size := PySem.W.hideAll_size _ _
theorem hidT_get {h : Heap} {H : Hp} {b : Addr} {o : Obj} (e : h.get? b = some o) (n : H b = none) : (hidT h H).get? b = some o :=
  PySem.W.hideAll_get _ e fun hm => by
    have q : (H b).isSome = true := (List.mem_filter.mp hm).2
    rw [n] at q; simp at q
theorem of_hidT {h : Heap} {H : Hp} {b : Addr} {o : Obj} (e : (hidT h H).get? b = some o) : h.get? b = some o ∧ H b = none := by
  have e' : h.get? b = some o := PySem.W.of_hideAll (trk h H) e
  refine ⟨e', ?_⟩
  cases q : H b with
  | none => rfl
  | some x =>
    have hm : b ∈ trk h H := List.mem_filter.mpr ⟨List.mem_range.mpr (Heap.lt_size e'), by simp [q]⟩
    have z : (hidT h H).get? b = none := PySem.W.hideAll_none (trk h H) hm
    rw [z] at e; cases e

def allNews (g h : Heap) (L : Addr) : List (Addr × Obj) := (List.range h.objs.size).filterMap fun a => if a = L ∨ (g.get? a).isSome = true then none else (h.get? a).map fun o => (a, o)
def rest (g h : Heap) (L d : Addr) : List (Addr × Obj) := (allNews g h L).filter fun p => decide (p.1 ≠ d)
end L2

namespace L2
open PySem PySem.Spec PyProof.Rows

structure Mod (K : PySem.W.Frag) (mg : Str → Option Value) (base : Heap) : Prop where
  kin : K.In base
  glob : base.Ns mainGlobals mg
  blt : ∃ mb, base.Ns builtinsNs mb ∧ ∀ x : Str, x ≠ "__name__" → mb x = bootBuiltins x
  nolimit : base.NoLimit

structure Cx where
  prog : Program
  w : World
  K : PySem.W.Frag
  mg : Str → Option Value
  base : Heap
  A : Around
  N : List Str
  s₀ : Shared
  H₀ : Hp
  env : Env
  outer : List Env
  stack : List Env
  ex : List Addr
  fn : Str → Bool
  calm : Bool
  pn : List (Addr × Obj)
  xe : Value → Shared → Prop
def frs (l : List Env) : List Addr := l.filterMap (·.frame)
abbrev Cx.fs (X : Cx) : List Addr := frs X.outer

def Vis (sc : Scope) (x : Str) : Prop := sc.names.lookup x = some .local ∨ sc.names.lookup x = some .cell ∨ sc.names.lookup x = some .free
def Loc (sc : Scope) (x : Str) : Prop := sc.names.lookup x = some .local ∨ sc.names.lookup x = some .cell
def Look (env : Env) (h : Heap) (m : Str → Option Value) (x : Str) (u : Value) : Prop :=
  (env.kindOf x = some .local ∧ m x = some u) ∨ ((env.kindOf x = some .cell ∨ env.kindOf x = some .free) ∧ ∃ c, env.cells.lookup x = some c ∧ h.IsCell c (some u))

structure Cx.Ok (X : Cx) : Prop where
  mod : Mod X.K X.mg X.base
  kind : X.env.scope.kind = .function
  glob : X.env.globals = mainGlobals
  blt : X.env.builtins = builtinsNs
  above : X.s₀.heap.objs.size ≤ X.env.locals
  inj : ∀ x y c, X.env.cells.lookup x = some c → X.env.cells.lookup y = some c → x = y
  has : ∀ x, (X.env.kindOf x = some .cell ∨ X.env.kindOf x = some .free) → ∃ c, X.env.cells.lookup x = some c
  cab : ∀ x c, X.fn x = true → X.env.cells.lookup x = some c → X.s₀.heap.objs.size ≤ c
  hd : X.calm = true → X.A.handled = none
  frames : X.A.frames = some X.stack
  stk : X.stack = X.outer ∨ (X.stack = X.env :: X.outer ∧ X.env.frame = some X.env.locals)
  exf : ∀ b ∈ X.ex, b ≠ X.env.locals ∧ ∀ x c, X.env.cells.lookup x = some c → c ≠ b
  bs : ∀ b o, X.base.get? b = some o → X.s₀.heap.get? b = some o ∧ X.H₀ b = none
  bsz : X.base.objs.size ≤ X.s₀.heap.objs.size
  noex : ∀ b o, X.base.get? b = some o → b ∉ X.ex
  exfs : ∀ b ∈ X.ex, b ∉ X.fs
  funs : X.s₀.heap.FunFrames X.base X.outer
  frf : ∀ b ∈ X.fs, X.H₀ b = none

structure Inv (X : Cx) (pins : List (Addr × Obj)) (σ : List (Option V)) (H : Hp) (s : Shared) : Prop where
  ok : X.Ok
  os : s.os = X.s₀.os
  bare : AllBare s.gens
  base : Un X.fs X.ex X.H₀ H X.s₀.heap s.heap
  loc : ∃ m, s.heap.Ns X.env.locals m ∧ ∀ (i : Nat) (x : Str) (v : V), X.N[i]? = some x → σ[i]? = some (some v) → Vis X.env.scope x → ∃ u, RelV v u ∧ Look X.env s.heap m x u
  cell : ∀ x c, X.env.cells.lookup x = some c → ∃ v, s.heap.IsCell c v
  free : H X.env.locals = none
  freeC : ∀ x c, X.env.cells.lookup x = some c → H c = none
  pin : ∀ p ∈ X.pn ++ pins, s.heap.get? p.1 = some p.2 ∧ H p.1 = none ∧ p.1 ≠ X.env.locals ∧ p.1 ∉ X.fs ∧ ∀ v, p.2.data ≠ .cell v
  hok : HOk X.prog X.w H s.heap
  len : σ.length = X.N.length

section
variable {X : Cx} {pins : List (Addr × Obj)} {σ : List (Option V)} {H H' : Hp} {s : Shared} {h' : Heap}

theorem Cx.Ok.nofr (ok : X.Ok) {b : Addr} {o : Obj} (e : X.base.get? b = some o) : b ∉ X.fs := fun hb => by
  have := (ok.funs.mem hb).1
  rw [e] at this; cases this
theorem Inv.bs (I : Inv X pins σ H s) : ∀ b o, X.base.get? b = some o → s.heap.get? b = some o ∧ H b = none := fun b o e =>
  ⟨I.base.keep b o (I.ok.bs b o e).1 (I.ok.bs b o e).2 (I.ok.nofr e) (I.ok.noex b o e), I.base.free b o (I.ok.bs b o e).1 (I.ok.bs b o e).2 (I.ok.noex b o e)⟩
theorem Inv.bk (I : Inv X pins σ H s) : ∀ b o, X.base.get? b = some o → s.heap.get? b = some o := fun b o e => (I.bs b o e).1
theorem Inv.mod (I : Inv X pins σ H s) : Mod X.K X.mg X.base := I.ok.mod
theorem Inv.kIn (I : Inv X pins σ H s) : X.K.In s.heap := I.ok.mod.kin.keeps I.bk
theorem Inv.lt (I : Inv X pins σ H s) : X.env.locals < s.heap.objs.size := let ⟨_, hn, _⟩ := I.loc; hn.lt
theorem Inv.sz (I : Inv X pins σ H s) : X.s₀.heap.objs.size ≤ s.heap.objs.size := Nat.le_trans I.ok.above (Nat.le_of_lt I.lt)
theorem Inv.nofs (I : Inv X pins σ H s) {a : Addr} (h : s.heap.objs.size ≤ a) : a ∉ X.fs := fun hb => by
  obtain ⟨_, o, ho, _⟩ := I.ok.funs.mem hb
  exact absurd (Nat.lt_of_lt_of_le (Heap.lt_size ho) (Nat.le_trans I.sz h)) (Nat.lt_irrefl _)
theorem Inv.cne (I : Inv X pins σ H s) : ∀ x c, X.env.cells.lookup x = some c → c ≠ X.env.locals := fun x c e z => by
  obtain ⟨v, o, ho, hd⟩ := I.cell x c e
  obtain ⟨m, ⟨o', es, ep, ho', hd', _⟩, _⟩ := I.loc
  rw [z, ho'] at ho; cases ho; rw [hd'] at hd; cases hd
theorem Inv.funs (I : Inv X pins σ H s) : s.heap.FunFrames X.base X.outer := by
  have all : ∀ (l : List Env), (∀ b ∈ frs l, b ∈ X.fs) → X.s₀.heap.FunFrames X.base l → s.heap.FunFrames X.base l := by
    intro l
    induction l with
    | nil => intro _ _; trivial
    | cons env r ih =>
      intro hs hl
      obtain ⟨hk, ⟨L, o, hf, hn, ho, hd⟩, hr⟩ := hl
      have hL : L ∈ X.fs := hs L (by unfold frs; rw [List.filterMap_cons, hf]; exact List.mem_cons_self)
      obtain ⟨sl, e⟩ := I.base.slot L o ho (I.ok.frf L hL) hL fun z => I.ok.exfs L z hL
      exact ⟨hk, ⟨L, _, hf, hn, e, hd⟩, ih (fun b hb => hs b (by unfold frs; rw [List.filterMap_cons, hf]; exact List.mem_cons_of_mem _ hb)) hr⟩
  exact all X.outer (fun _ hb => hb) I.ok.funs

theorem Inv.stack (I : Inv X pins σ H s) : s.heap.FunFrames X.base X.stack := by
  rcases I.ok.stk with e | ⟨e, hf⟩
  · rw [e]; exact I.funs
  · rw [e]
    obtain ⟨m, hn, _⟩ := I.loc
    refine .cons (by rw [I.ok.kind]; decide) hf hn ?_ I.funs
    exact Heap.get?_none_of_le (Nat.le_trans I.ok.bsz I.ok.above)
theorem Inv.stkSub (I : Inv X pins σ H s) : ∀ b ∈ frs X.stack, b ∈ X.env.locals :: X.fs := fun b hb => by
  rcases I.ok.stk with e | ⟨e, hf⟩
  · rw [e] at hb; exact List.mem_cons_of_mem _ hb
  · rw [e] at hb
    unfold frs at hb
    rw [List.filterMap_cons, hf] at hb
    exact hb
theorem Inv.stkFree (I : Inv X pins σ H s) : ∀ b ∈ frs X.stack, H b = none := fun b hb => by
  rcases List.mem_cons.mp (I.stkSub b hb) with e | hb
  · rw [e]; exact I.free
  · obtain ⟨_, o, ho, _⟩ := I.ok.funs.mem hb
    exact I.base.free b o ho (I.ok.frf b hb) fun z => I.ok.exfs b z hb

theorem Inv.step {g' : Array GenState} {t' : Nat} {d' : Drawn} {ch : List Addr} (I : Inv X pins σ H s)
    (hch : ∀ b ∈ ch, (b ∈ X.ex ∨ X.s₀.heap.objs.size ≤ b) ∧ b ≠ X.env.locals ∧ (∀ x c, X.env.cells.lookup x = some c → c ≠ b) ∧ ∀ p ∈ X.pn ++ pins, p.1 ≠ b)
    (keep : ∀ b o, b ≠ X.env.locals → b ∉ X.fs → b ∉ ch → s.heap.get? b = some o → H b = none → h'.get? b = some o)
    (slot : ∀ b o, b ≠ X.env.locals → b ∈ X.fs → b ∉ ch → s.heap.get? b = some o → H b = none → ∃ sl, h'.get? b = some { o with slots := sl }) (free : ∀ b o, b ∉ ch → s.heap.get? b = some o → H b = none → H' b = none)
    (there : ∀ b o, b ∉ ch → s.heap.get? b = some o → ∃ o', h'.get? b = some o')
    (tups : ∀ b xs, H b = some (.tup xs) → H' b = some (.tup xs)) (frzs : ∀ b o u, H b = some (.frz o u) → H' b = some (.frz o u)) (tbls : ∀ b ps, H b = some (.tbl ps) → ∃ more, H' b = some (.tbl (ps ++ more)))
    (ns : ∀ m, s.heap.Ns X.env.locals m → h'.Ns X.env.locals m) (hok : HOk X.prog X.w H' h') (hg : AllBare g') :
    Inv X pins σ H' { s with heap := h', gens := g', drawn := d', toks := t' } := by
  have neL : ∀ b o, X.s₀.heap.get? b = some o → b ≠ X.env.locals := fun b o e => Nat.ne_of_lt (Nat.lt_of_lt_of_le (Heap.lt_size e) I.ok.above)
  have neC : ∀ b o, X.s₀.heap.get? b = some o → b ∉ X.ex → b ∉ ch := fun b o e hx hb => by
    rcases (hch b hb).1 with z | z
    · exact hx z
    · exact absurd (Nat.lt_of_lt_of_le (Heap.lt_size e) z) (Nat.lt_irrefl _)
  have cellK : ∀ x c, X.env.cells.lookup x = some c → ∀ v, s.heap.IsCell c v → h'.IsCell c v := fun x c e v ⟨o, ho, hd⟩ => by
    have nch : c ∉ ch := fun z => (hch c z).2.2.1 x c e rfl
    by_cases hc : c ∈ X.fs
    · obtain ⟨sl, q⟩ := slot c o (I.cne x c e) hc nch ho (I.freeC x c e)
      exact ⟨_, q, hd⟩
    · exact ⟨o, keep c o (I.cne x c e) hc nch ho (I.freeC x c e), hd⟩
  refine ⟨I.ok, I.os, hg, ⟨fun b o e n hb hx => ?_, fun b o e n hb hx => ?_, fun b o e n hx => ?_, fun b o e hx => ?_, fun b xs e => tups b xs (I.base.tups b xs e), fun b o xs e => frzs b o xs (I.base.frzs b o xs e), fun b ps e => ?_⟩, ?_, fun x c e => ?_, ?_, fun x c e => ?_, fun p hp => ?_, hok, I.len⟩
  · exact keep b o (neL b o e) hb (neC b o e hx) (I.base.keep b o e n hb hx) (I.base.free b o e n hx)
  · obtain ⟨sl, e1⟩ := I.base.slot b o e n hb hx
    obtain ⟨sl', e2⟩ := slot b _ (neL b o e) hb (neC b o e hx) e1 (I.base.free b o e n hx)
    exact ⟨sl', e2⟩
  · obtain ⟨o', e1⟩ := I.base.there b o e hx
    exact free b o' (neC b o e hx) e1 (I.base.free b o e n hx)
  · obtain ⟨o', e1⟩ := I.base.there b o e hx
    exact there b o' (neC b o e hx) e1
  · obtain ⟨m1, e1⟩ := I.base.tbls b ps e
    obtain ⟨m2, e2⟩ := tbls b _ e1
    exact ⟨m1 ++ m2, by rw [e2, Array.append_assoc]⟩
  · obtain ⟨m, hn, hl⟩ := I.loc
    refine ⟨m, ns m hn, fun i x v e1 e2 e3 => ?_⟩
    obtain ⟨u, r, l⟩ := hl i x v e1 e2 e3
    refine ⟨u, r, ?_⟩
    rcases l with l | ⟨k, c, e, z⟩
    · exact .inl l
    · exact .inr ⟨k, c, e, cellK x c e _ z⟩
  · obtain ⟨v, z⟩ := I.cell x c e
    exact ⟨v, cellK x c e v z⟩
  · obtain ⟨m, ⟨o, _, _, ho, _⟩, _⟩ := I.loc
    exact free _ o (fun z => (hch _ z).2.1 rfl) ho I.free
  · obtain ⟨v, o, ho, hd⟩ := I.cell x c e
    exact free c o (fun z => (hch c z).2.2.1 x c e rfl) ho (I.freeC x c e)
  · obtain ⟨e, n, ne, nf, d⟩ := I.pin p hp
    have nch : p.1 ∉ ch := fun z => (hch p.1 z).2.2.2 p hp rfl
    exact ⟨keep p.1 p.2 ne nf nch e n, free p.1 p.2 nch e n, ne, nf, d⟩
theorem Inv.un {t' : Nat} (I : Inv X pins σ H s) (u : Un X.fs [] H H' s.heap h') (hok : HOk X.prog X.w H' h') : Inv X pins σ H' { s with heap := h', toks := t' } := by
  obtain ⟨m, ⟨o, es, ep, ho, r⟩, _⟩ := id I.loc
  obtain ⟨sl, hL⟩ := u.any ho I.free (by simp)
  exact I.step (g' := s.gens) (d' := s.drawn) (ch := []) (fun _ z => nomatch z) (fun b o _ hb _ e n => u.keep b o e n hb (by simp)) (fun b o _ hb _ e n => u.slot b o e n hb (by simp)) (fun b o _ e n => u.free b o e n (by simp)) (fun b o _ e => u.there b o e (by simp)) u.tups u.frzs u.tbls (fun m' hm => by
    obtain ⟨o', es', ep', ho', r'⟩ := hm
    rw [ho] at ho'; cases ho'
    exact ⟨_, es', ep', hL, r'⟩) hok I.bare
theorem Inv.call {g' : Array GenState} {t' : Nat} {d' : Drawn} {ch : List Addr} (I : Inv X pins σ H s) (u : Un (frs X.stack) ch H H' s.heap h') (hok : HOk X.prog X.w H' h') (hg : AllBare g')
    (hch : ∀ b ∈ ch, (b ∈ X.ex ∨ X.s₀.heap.objs.size ≤ b) ∧ b ≠ X.env.locals ∧ (∀ x c, X.env.cells.lookup x = some c → c ≠ b) ∧ ∀ p ∈ X.pn ++ pins, p.1 ≠ b) :
    Inv X pins σ H' { s with heap := h', gens := g', drawn := d', toks := t' } := by
  obtain ⟨m, ⟨o, es, ep, ho, r⟩, _⟩ := id I.loc
  obtain ⟨sl, hL⟩ := u.any ho I.free fun z => (hch _ z).2.1 rfl
  exact I.step (ch := ch) hch (fun b o hL hb hc e n => u.keep b o e n (fun z => (List.mem_cons.mp (I.stkSub b z)).elim hL hb) hc) (fun b o _ _ hc e n => u.any e n hc) (fun b o hc e n => u.free b o e n hc) (fun b o hc e => u.there b o e hc) u.tups u.frzs u.tbls (fun m' hm => by
    obtain ⟨o', es', ep', ho', r'⟩ := hm
    rw [ho] at ho'; cases ho'
    exact ⟨_, es', ep', hL, r'⟩) hok hg
theorem Inv.turned {t' : Nat} {it : Addr} (I : Inv X pins σ H s) (k : ∀ b o, b ≠ it → s.heap.get? b = some o → h'.get? b = some o) (hn : H it = none) (hL : it ≠ X.env.locals)
    (h1 : it ∈ X.ex ∨ X.s₀.heap.objs.size ≤ it) (h2 : ∀ x c, X.env.cells.lookup x = some c → c ≠ it) (h3 : ∀ p ∈ X.pn ++ pins, p.1 ≠ it) : Inv X pins σ H { s with heap := h', toks := t' } := by
  have nit : ∀ b u, H b = some u → b ≠ it := fun b u e z => by rw [z, hn] at e; cases e
  refine I.step (g' := s.gens) (d' := s.drawn) (ch := [it]) (fun b hb => ?_) (fun b o _ _ hc e _ => k b o (fun z => hc (by simp [z])) e) (fun b o _ _ hc e _ => ⟨o.slots, k b o (fun z => hc (by simp [z])) e⟩) (fun _ _ _ _ n => n)
    (fun b o hc e => ⟨o, k b o (fun z => hc (by simp [z])) e⟩) (fun _ _ e => e) (fun _ _ _ e => e) (fun b ps e => ⟨#[], by rw [e]; simp⟩) (fun m hm => ?_) (fun b u e => ?_) I.bare
  · have e : b = it := by simpa using hb
    subst e
    exact ⟨h1, hL, h2, h3⟩
  · obtain ⟨o, es, ep, ho, r⟩ := hm
    exact ⟨o, es, ep, k _ o (Ne.symm hL) ho, r⟩
  · refine (I.hok b u e).stay (fun c v hc q => k c v ?_ q) (fun _ q => q) fun _ _ q => q
    rcases hc with z | z
    · rw [z]; exact nit b u e
    · exact nit c _ z
theorem Inv.tok (I : Inv X pins σ H s) (t : Nat) : Inv X pins σ H { s with toks := t } := I.un (h' := s.heap) (t' := t) Un.refl I.hok
theorem Inv.kept {t' : Nat} (I : Inv X pins σ H s) (k : ∀ b u, s.heap.get? b = some u → h'.get? b = some u) : Inv X pins σ H { s with heap := h', toks := t' } := I.un (Un.kept k) (I.hok.kept k)
theorem Inv.laid {a : Addr} {o : HO} {t' : Nat} (I : Inv X pins σ H s) (k : ∀ b u, s.heap.get? b = some u → h'.get? b = some u) (hp : s.heap.objs.size ≤ a) (new : ObjOk X.prog X.w (upd H a o) h' a o) :
    Inv X pins σ (upd H a o) { s with heap := h', toks := t' } := I.un (Un.laid k hp (I.hok.fresh hp)) (I.hok.laid k hp new)
theorem Inv.write {x e : Addr} {o : HO} {t' : Nat} (I : Inv X pins σ H s) (mu : Mut (H x)) (he : e = x ∨ H e = some (.own x)) (k : ∀ b u, b ≠ e → s.heap.get? b = some u → h'.get? b = some u) (heo : ∃ u, h'.get? e = some u)
    (new : ObjOk X.prog X.w (upd H x o) h' x o) : Inv X pins σ (upd H x o) { s with heap := h', toks := t' } := I.un (Un.write mu he k heo) (I.hok.write mu he k heo new)
theorem Inv.pins_of {pins' : List (Addr × Obj)} (I : Inv X pins σ H s) (h : ∀ p ∈ pins', s.heap.get? p.1 = some p.2 ∧ H p.1 = none ∧ p.1 ≠ X.env.locals ∧ p.1 ∉ X.fs ∧ ∀ v, p.2.data ≠ .cell v) : Inv X pins' σ H s :=
  ⟨I.ok, I.os, I.bare, I.base, I.loc, I.cell, I.free, I.freeC, fun p hp => (List.mem_append.mp hp).elim (fun z => I.pin p (List.mem_append_left _ z)) (h p), I.hok, I.len⟩

theorem nodup_ix {N : List Str} (hN : N.Nodup) {i j : Nat} {x : Str} (a : N[i]? = some x) (b : N[j]? = some x) : i = j := by
  obtain ⟨h1, e1⟩ := List.getElem?_eq_some_iff.mp a
  obtain ⟨h2, e2⟩ := List.getElem?_eq_some_iff.mp b
  exact (List.getElem_inj hN).mp (e1.trans e2.symm)

theorem store_ok2 {M : Model} {A : Around} {E : Value → Shared → Prop} {i : Nat} {x : Str} {v : V} {u : Value} {Q : Unit → Shared → Prop} (I : Inv X pins σ H s) (hN : X.N.Nodup) (hi : X.N[i]? = some x) (hx : Loc X.env.scope x) (r : RelV v u)
    (h : ∀ s', Inv X pins (σ.set i (some v)) H s' → (∃ a, Heap.SameBut a s.heap s'.heap ∧ (a = X.env.locals ∨ X.env.cells.lookup x = some a)) → Q () s') (hf : X.fn x = true ∨ X.env.scope.names.lookup x = some .local := by first | exact .inl rfl | exact .inr rfl | assumption) : wpAny M A (storeName X.env x u) Q E s := by
  obtain ⟨m, hn, hl⟩ := id I.loc
  have hcls : (X.env.scope.kind == .class || (X.env.scope.kind == .module && X.env.locals != X.env.globals)) = false := by rw [I.ok.kind]; rfl
  have hiσ : i < σ.length := by rw [I.len]; exact (List.getElem?_eq_some_iff.mp hi).1
  have cne := I.cne
  have tracked : ∀ {a : Addr} {h' : Heap}, (∃ o, s.heap.get? a = some o ∧ H a = none) → Heap.SameBut a s.heap h' → HOk X.prog X.w H h' := fun {a h'} ha hs b ob e => by
    obtain ⟨_, _, hfree⟩ := ha
    refine (I.hok b ob e).stay (fun c w' hc q => (hs.2 c ?_).trans q) (fun _ q => q) fun _ _ q => q
    rintro rfl
    rcases hc with rfl | hc
    · rw [hfree] at e; cases e
    · rw [hfree] at hc; cases hc
  rcases hx with hk | hk
  · refine wpAny_storeName_local hk hn (fun h' hn' hs => ?_) hcls
    obtain ⟨oL, _, _, hoL, _⟩ := id hn
    refine h _ ⟨I.ok, I.os, I.bare, ⟨fun b o e n hb hx => ?_, fun b o e n hb hx => ?_, I.base.free, fun b o e hx => ?_, I.base.tups, I.base.frzs, I.base.tbls⟩, ⟨_, hn', fun j y v' e1 e2 e3 => ?_⟩, fun y c e => ?_, I.free, I.freeC, fun p hp => ?_, tracked ⟨oL, hoL, I.free⟩ hs, by simpa using I.len⟩ ⟨_, hs, .inl rfl⟩
    · exact (hs.2 b (Nat.ne_of_lt (Nat.lt_of_lt_of_le (Heap.lt_size e) I.ok.above))).trans (I.base.keep b o e n hb hx)
    · obtain ⟨sl, e1⟩ := I.base.slot b o e n hb hx
      exact ⟨sl, (hs.2 b (Nat.ne_of_lt (Nat.lt_of_lt_of_le (Heap.lt_size e) I.ok.above))).trans e1⟩
    · obtain ⟨o', e1⟩ := I.base.there b o e hx
      exact ⟨o', (hs.2 b (Nat.ne_of_lt (Nat.lt_of_lt_of_le (Heap.lt_size e) I.ok.above))).trans e1⟩
    · by_cases hj : j = i
      · subst hj
        rw [hi] at e1; cases e1
        rw [List.getElem?_set_self hiσ] at e2
        cases e2
        exact ⟨u, r, .inl ⟨hk, by simp⟩⟩
      · rw [List.getElem?_set_ne (Ne.symm hj)] at e2
        obtain ⟨u', r', q⟩ := hl j y v' e1 e2 e3
        refine ⟨u', r', ?_⟩
        rcases q with ⟨k, e⟩ | ⟨k, c, e, z⟩
        · refine .inl ⟨k, ?_⟩
          have : y ≠ x := fun e => hj (nodup_ix hN e1 (e ▸ hi))
          simp [this, e]
        · exact .inr ⟨k, c, e, z.sameBut hs (cne y c e)⟩
    · obtain ⟨w', z⟩ := I.cell y c e
      exact ⟨w', z.sameBut hs (cne y c e)⟩
    · obtain ⟨e, n, ne, nf, d⟩ := I.pin p hp
      exact ⟨(hs.2 p.1 ne).trans e, n, ne, nf, d⟩
  · have hfn : X.fn x = true := by
      rcases hf with z | z
      · exact z
      · rw [z] at hk; cases hk
    obtain ⟨c, hc⟩ := I.ok.has x (.inl hk)
    obtain ⟨w', z⟩ := I.cell x c hc
    refine wpAny_storeName_cell I.ok.kind hk hc z (fun h' hc' hs => ?_)
    obtain ⟨oc, hoc, hocd⟩ := id z
    refine h { s with heap := h' } ⟨I.ok, I.os, I.bare, ⟨fun b o e n hb hx => ?_, fun b o e n hb hx => ?_, I.base.free, fun b o e hx => ?_, I.base.tups, I.base.frzs, I.base.tbls⟩, ⟨m, hn.sameBut hs (Ne.symm (cne x c hc)), fun j y v' e1 e2 e3 => ?_⟩, fun y c' e => ?_, I.free, I.freeC, fun p hp => ?_, tracked ⟨oc, hoc, I.freeC x c hc⟩ hs, by simpa using I.len⟩ ⟨c, hs, .inr hc⟩
    · exact (hs.2 b (Nat.ne_of_lt (Nat.lt_of_lt_of_le (Heap.lt_size e) (I.ok.cab x c hfn hc)))).trans (I.base.keep b o e n hb hx)
    · obtain ⟨sl, e1⟩ := I.base.slot b o e n hb hx
      exact ⟨sl, (hs.2 b (Nat.ne_of_lt (Nat.lt_of_lt_of_le (Heap.lt_size e) (I.ok.cab x c hfn hc)))).trans e1⟩
    · obtain ⟨o', e1⟩ := I.base.there b o e hx
      exact ⟨o', (hs.2 b (Nat.ne_of_lt (Nat.lt_of_lt_of_le (Heap.lt_size e) (I.ok.cab x c hfn hc)))).trans e1⟩
    · by_cases hj : j = i
      · subst hj
        rw [hi] at e1; cases e1
        rw [List.getElem?_set_self hiσ] at e2
        cases e2
        exact ⟨u, r, .inr ⟨.inl hk, c, hc, hc'⟩⟩
      · rw [List.getElem?_set_ne (Ne.symm hj)] at e2
        obtain ⟨u', r', q⟩ := hl j y v' e1 e2 e3
        refine ⟨u', r', ?_⟩
        rcases q with q | ⟨k, c', e, z'⟩
        · exact .inl q
        · refine .inr ⟨k, c', e, z'.sameBut hs ?_⟩
          rintro rfl
          exact hj (nodup_ix hN e1 (I.ok.inj _ _ _ e hc ▸ hi))
    · by_cases hcc : c' = c
      · subst hcc; exact ⟨_, hc'⟩
      · obtain ⟨w2, z2⟩ := I.cell y c' e
        exact ⟨w2, z2.sameBut hs hcc⟩
    · obtain ⟨e, n, ne, nf, d⟩ := I.pin p hp
      refine ⟨(hs.2 p.1 ?_).trans e, n, ne, nf, d⟩
      intro q
      rw [q, hoc] at e
      have q' : oc = p.2 := Option.some.inj e
      exact d w' (by rw [← q']; exact hocd)
theorem store_ok {M : Model} {A : Around} {E : Value → Shared → Prop} {i : Nat} {x : Str} {v : V} {u : Value} {Q : Unit → Shared → Prop} (I : Inv X pins σ H s) (hN : X.N.Nodup) (hi : X.N[i]? = some x) (hx : Loc X.env.scope x) (r : RelV v u)
    (h : ∀ s', Inv X pins (σ.set i (some v)) H s' → Q () s') (hf : X.fn x = true ∨ X.env.scope.names.lookup x = some .local := by first | exact .inl rfl | exact .inr rfl | assumption) : wpAny M A (storeName X.env x u) Q E s :=
  store_ok2 I hN hi hx r (fun s' I' _ => h s' I') hf
theorem Inv.call' {s' : Shared} {ch : List Addr} (I : Inv X pins σ H s) (ho : s'.os = s.os) (u : Un (frs X.stack) ch H H' s.heap s'.heap) (hok : HOk X.prog X.w H' s'.heap) (hg : AllBare s'.gens)
    (hch : ∀ b ∈ ch, (b ∈ X.ex ∨ X.s₀.heap.objs.size ≤ b) ∧ b ≠ X.env.locals ∧ (∀ x c, X.env.cells.lookup x = some c → c ≠ b) ∧ ∀ p ∈ X.pn ++ pins, p.1 ≠ b) : Inv X pins σ H' s' := by
  obtain ⟨h', g', d', t', o'⟩ := s'
  have e : o' = s.os := ho
  subst e
  exact I.call (g' := g') (t' := t') (d' := d') u hok hg hch
end

abbrev XK := Value → Option Addr → Hp → Prop
abbrev St := List (Option V)
abbrev VK := V → Hp → Prop
abbrev TE := St → Hp → VK → Prop
abbrev TT := St → Hp → (Bool → Hp → Prop) → Prop
abbrev TA := St → Hp → (List V → Hp → Prop) → Prop
structure Ends where
  nx : St → Hp → Prop
  rt : VK
  bk : St → Hp → Prop := fun _ _ => False
  ct : St → Hp → Prop := fun _ _ => False
abbrev TS := Ends → St → Hp → Prop

def EP (X : Cx) (pins : List (Addr × Obj)) (σ : St) (Q : VK) (u : Value) (s' : Shared) : Prop := ∃ v H', Inv X pins σ H' s' ∧ RelV v u ∧ Q v H'
def TP (X : Cx) (pins : List (Addr × Obj)) (σ : St) (Q : Bool → Hp → Prop) (b : Bool) (s' : Shared) : Prop := ∃ H', Inv X pins σ H' s' ∧ Q b H'
def AP (X : Cx) (pins : List (Addr × Obj)) (σ : St) (Q : List V → Hp → Prop) (us : List Value) (s' : Shared) : Prop := ∃ vs H', Inv X pins σ H' s' ∧ Vals vs us ∧ Q vs H'
def SP (X : Cx) (pins : List (Addr × Obj)) (D : Ends) (f : Flow) (s' : Shared) : Prop :=
  match f with
  | .next => ∃ σ' H', Inv X pins σ' H' s' ∧ D.nx σ' H'
  | .brk => ∃ σ' H', Inv X pins σ' H' s' ∧ D.bk σ' H'
  | .cont => ∃ σ' H', Inv X pins σ' H' s' ∧ D.ct σ' H'
  | .ret u => ∃ v σ' H', Inv X pins σ' H' s' ∧ RelV v u ∧ D.rt v H'

def PE (X : Cx) (e : Expr) (t : TE) : Prop :=
  ∀ (pins : List (Addr × Obj)) (s : Shared) (σ : St) (H : Hp) (Q : VK), Inv X pins σ H s → t σ H Q → wpAny (model X.prog X.w) X.A (eval e X.env) (EP X pins σ Q) X.xe s
def PT (X : Cx) (e : Expr) (t : TT) : Prop :=
  ∀ (pins : List (Addr × Obj)) (s : Shared) (σ : St) (H : Hp) (Q : Bool → Hp → Prop), Inv X pins σ H s → t σ H Q → wpAny (model X.prog X.w) X.A (isTrue e X.env (eval e X.env)) (TP X pins σ Q) X.xe s
def PW (X : Cx) (e : Expr) (t : TT) : Prop :=
  ∀ (whole : Sem Value) (pins : List (Addr × Obj)) (s : Shared) (σ : St) (H : Hp) (Q : Bool → Hp → Prop), Inv X pins σ H s → t σ H Q → wpAny (model X.prog X.w) X.A (isTrue e X.env whole) (TP X pins σ Q) X.xe s
theorem PW.pt {X : Cx} {e : Expr} {t : TT} (h : PW X e t) : PT X e t := h _
def PA (X : Cx) (es : List Expr) (t : TA) : Prop :=
  ∀ (pos : Pos) (pins : List (Addr × Obj)) (s : Shared) (σ : St) (H : Hp) (Q : List V → Hp → Prop), Inv X pins σ H s → t σ H Q → wpAny (model X.prog X.w) X.A (spliced (backTo pos (starEach es X.env))) (AP X pins σ Q) X.xe s
def PS (X : Cx) (st : Stmt) (t : TS) : Prop :=
  ∀ (pins : List (Addr × Obj)) (s : Shared) (σ : St) (H : Hp) (D : Ends), Inv X pins σ H s → t D σ H → wpAny (model X.prog X.w) X.A (exec st X.env) (SP X pins D) X.xe s
def PSs (X : Cx) (st : List Stmt) (t : TS) : Prop :=
  ∀ (pins : List (Addr × Obj)) (s : Shared) (σ : St) (H : Hp) (D : Ends), Inv X pins σ H s → t D σ H → wpAny (model X.prog X.w) X.A (execs st X.env) (SP X pins D) X.xe s
theorem thn {α : Type} {t : Sem α} {Q Q' : α → Shared → Prop} {M : Model} {A : Around} {E : Value → Shared → Prop} {s : Shared} (h : wpAny M A t Q E s) (hQ : ∀ a s, Q a s → Q' a s) : wpAny M A t Q' E s := wpAny_mono h hQ fun _ _ x => x
end L2

namespace L2
open PySem PySem.Spec PyProof.Rows
section
variable {X : Cx}

def tVar (i : Nat) : TE := fun σ H Q => ∃ v, σ[i]? = some (some v) ∧ Q v H
def tC (v : V) : TE := fun _ H Q => Q v H
theorem pe_var {i : Nat} {x : Str} {pos : Pos} (hN : X.N[i]? = some x) (hv : Vis X.env.scope x) (hd : (x == ("__debug__" : Str)) = false := by decide) (hcd : (x == ("__classdict__" : Str)) = false := by decide) : PE X (.Name x pos) (tVar i) := by
  intro pins s σ H Q I h
  obtain ⟨v, e, h⟩ := h
  obtain ⟨m, hn, hl⟩ := I.loc
  obtain ⟨u, r, l⟩ := hl i x v hN e hv
  have fin : EP X pins σ Q u s := ⟨v, H, I, r, h⟩
  rcases l with ⟨hk, hm⟩ | ⟨hk, c, hc, hcell⟩
  · exact wpAny_Name (wpAny_loadName_local I.ok.kind hk hn hm fin) hd
  · rcases hk with hk | hk
    · exact wpAny_Name (wpAny_loadName_cell I.ok.kind hk hc hcell fin) hd
    · exact wpAny_Name (wpAny_loadName_free I.ok.kind hk hc hcell fin hcd) hd
theorem pe_int {i j pos} : PE X (.Constant (.int i) j pos) (tC (.int i)) := fun _ _ _ H _ I h => wpAny_Constant_int ⟨.int i, H, I.tok _, ⟨_, rfl⟩, h⟩
theorem pe_bl {b j pos} : PE X (.Constant (.bool b) j pos) (tC (.bl b)) := fun _ _ _ H _ I h => Constant_bool ⟨.bl b, H, I, rfl, h⟩
theorem pe_non {j pos} : PE X (.Constant .none j pos) (tC .non) := fun _ _ _ H _ I h => Constant_none ⟨.non, H, I, rfl, h⟩
theorem pe_str {x j pos} : PE X (.Constant (.str x) j pos) (tC (.str x)) := fun _ _ _ H _ I h => Calls.Constant_str ⟨.str x, H, I.tok _, ⟨_, rfl⟩, h⟩

def Gl (X : Cx) (x : Str) : Prop := X.env.kindOf x = some .globalImplicit
theorem ld_glob {E : Value → Shared → Prop} {pins : List (Addr × Obj)} {s : Shared} {σ : St} {H : Hp} {x : Str} {u : Value} {pos : Pos} {Q : Value → Shared → Prop} (I : Inv X pins σ H s) (hg : Gl X x) (hm : X.mg x = some u) (h : Q u s)
    (hd : (x == ("__debug__" : Str)) = false := by decide) : wpAny (model X.prog X.w) X.A (eval (.Name x pos) X.env) Q E s :=
  Calls.Name_function_global I.ok.kind hg (Calls.loadGlobal_global (by rw [I.ok.glob]; exact I.mod.glob.keeps I.bk) hm h) hd
theorem ld_blt {E : Value → Shared → Prop} {pins : List (Addr × Obj)} {s : Shared} {σ : St} {H : Hp} {x : Str} {u : Value} {pos : Pos} {Q : Value → Shared → Prop} (I : Inv X pins σ H s) (hg : Gl X x) (hm : X.mg x = none) (hv : bootBuiltins x = some u) (h : Q u s)
    (hn : x ≠ "__name__" := by decide) (hd : (x == ("__debug__" : Str)) = false := by decide) : wpAny (model X.prog X.w) X.A (eval (.Name x pos) X.env) Q E s := by
  obtain ⟨mb, h1, h2⟩ := I.mod.blt
  exact Calls.Name_function_global I.ok.kind hg (Calls.loadGlobal_builtin (by rw [I.ok.glob]; exact I.mod.glob.keeps I.bk) hm (by rw [I.ok.blt]; exact h1.keeps I.bk) ((h2 x hn).trans hv) h) hd
theorem pe_glob {x : Str} {v : V} {u : Value} {pos : Pos} (hg : Gl X x) (hm : X.mg x = some u) (r : RelV v u) (hd : (x == ("__debug__" : Str)) = false := by decide) : PE X (.Name x pos) (tC v) :=
  fun _ _ _ H _ I h => ld_glob I hg hm ⟨v, H, I, r, h⟩ hd
theorem pe_bltn {x : Str} {v : V} {u : Value} {pos : Pos} (hg : Gl X x) (hm : X.mg x = none) (hv : bootBuiltins x = some u) (r : RelV v u) (hn : x ≠ "__name__" := by decide) (hd : (x == ("__debug__" : Str)) = false := by decide) : PE X (.Name x pos) (tC v) :=
  fun _ _ _ H _ I h => ld_blt I hg hm hv ⟨v, H, I, r, h⟩ hn hd

variable {a b : Expr} {ta tb : TE} {pos : Pos}
def PC (X : Cx) (op : CmpOp) (a b : Expr) (t : TE) : Prop :=
  ∀ (pins : List (Addr × Obj)) (s : Shared) (σ : St) (H : Hp) (Q : VK), Inv X pins σ H s → t σ H Q →
    wpAny (model X.prog X.w) X.A (eval a X.env) (fun v s₁ => wpAny (model X.prog X.w) X.A (eval b X.env) (fun u s₂ => wpAny (model X.prog X.w) X.A (compareOp op v u) (EP X pins σ Q) X.xe s₂) X.xe s₁) X.xe s
variable {tA tB' : TT} {rest : List Expr}
def tOr (t u : TT) : TT := fun σ H Q => t σ H fun c H1 => if c = true then Q true H1 else u σ H1 Q
def tNot (t : TT) : TT := fun σ H Q => t σ H fun c H1 => Q (!c) H1
theorem pw_or1 (ha : PT X a tA) : PW X (.BoolOp .Or [a] pos) tA := by
  intro wh pins s σ H Q I h
  refine isTrue_or (thn (ha pins s σ H Q I h) fun c s1 e => ?_)
  cases c with
  | false => exact isTrue_or_nil e
  | true => exact e
theorem pw_or (ha : PT X a tA) (hb : PW X (.BoolOp .Or (b :: rest) pos) tB') : PW X (.BoolOp .Or (a :: b :: rest) pos) (tOr tA tB') := by
  intro wh pins s σ H Q I h
  refine isTrue_or (thn (ha pins s σ H _ I h) fun c s1 ⟨H1, I1, q1⟩ => ?_)
  cases c with
  | true => exact ⟨H1, I1, q1⟩
  | false => exact hb wh pins s1 σ H1 Q I1 q1
theorem pt_not (ha : PT X a tA) : PT X (.UnaryOp .Not a pos) (tNot tA) := by
  intro pins s σ H Q I h
  exact isTrue_not (ha pins s σ H (fun c H1 => Q (!c) H1) I h)
def tAndV (ta tb : TE) : TE := fun σ H Q => ta σ H fun x H1 => ∃ c, x = .bl c ∧ if c = true then tb σ H1 Q else Q (.bl false) H1
def tOrV (ta tb : TE) : TE := fun σ H Q => ta σ H fun x H1 => ∃ c, x = .bl c ∧ if c = true then Q (.bl true) H1 else tb σ H1 Q
theorem pe_one {op} {t : TE} (h : PE X a t) : PE X (.BoolOp op [a] pos) t := fun pins s σ H Q I hw => BoolOp_one (h pins s σ H Q I hw)
theorem pe_and (ha : PE X a ta) (hb : PE X (.BoolOp .And (b :: rest) pos) tb) : PE X (.BoolOp .And (a :: b :: rest) pos) (tAndV ta tb) := by
  intro pins s σ H Q I h
  refine BoolOp_and (thn (ha pins s σ H _ I h) fun v s1 ⟨x, H1, I1, r1, q1⟩ => ?_)
  obtain ⟨c, rfl, q1⟩ := q1
  cases r1
  refine wpAny_truthy_bool ?_
  cases c with
  | true => exact hb pins s1 σ H1 Q I1 q1
  | false => exact ⟨.bl false, H1, I1, rfl, q1⟩
theorem pe_or (ha : PE X a ta) (hb : PE X (.BoolOp .Or (b :: rest) pos) tb) : PE X (.BoolOp .Or (a :: b :: rest) pos) (tOrV ta tb) := by
  intro pins s σ H Q I h
  refine BoolOp_or (thn (ha pins s σ H _ I h) fun v s1 ⟨x, H1, I1, r1, q1⟩ => ?_)
  obtain ⟨c, rfl, q1⟩ := q1
  cases r1
  refine wpAny_truthy_bool ?_
  cases c with
  | false => exact hb pins s1 σ H1 Q I1 q1
  | true => exact ⟨.bl true, H1, I1, rfl, q1⟩
def tIf (t : TT) (ta tb : TE) : TE := fun σ H Q => t σ H fun c H1 => if c = true then ta σ H1 Q else tb σ H1 Q
theorem pe_ifExp {c : Expr} (hc : PT X c tA) (ha : PE X a ta) (hb : PE X b tb) : PE X (.IfExp c a b pos) (tIf tA ta tb) := by
  intro pins s σ H Q I h
  refine wpAny_IfExp (thn (hc pins s σ H _ I h) fun d s1 ⟨H1, I1, q1⟩ => ?_)
  cases d with
  | true => exact ha pins s1 σ H1 Q I1 q1
  | false => exact hb pins s1 σ H1 Q I1 q1
end
end L2

namespace L2
open PySem PySem.Spec PyProof.Rows

def SqL (K : PySem.W.Frag) (H : Hp) (a : Addr) (xs : List V) : Prop :=
  Rd H a (.lst xs) ∨
    ∃ (o : Obj) (its : Array Value) (n : Nat), K.lookup a = some o ∧ o.cls = .type "list" ∧ o.dict = none ∧ o.data = .seq its n ∧ its.size ≤ sizeLine ∧ Vals xs its.toList
def SqT (K : PySem.W.Frag) (H : Hp) (a : Addr) (xs : List V) : Prop :=
  Rd H a (.tup xs) ∨
    ∃ (o : Obj) (its : Array Value) (n : Nat), K.lookup a = some o ∧ o.cls = .type "tuple" ∧ o.data = .seq its n ∧ its.size ≤ sizeLine ∧ Vals xs its.toList
def absV : Value → Option V
  | .none => some .non
  | .bool b => some (.bl b)
  | .int i _ => some (.int i)
  | .str x _ => some (.str x)
  | .bytes b _ => some (.byt b)
  | .float b _ => some (.flt b)
  | .ref a => some (.ref a)
  | .type n => some (.ty n)
  | _ => none
theorem RelV.abs {x : V} {u : Value} (r : RelV x u) : absV u = some x := by
  cases x with
  | non => cases r; rfl
  | bl _ => cases r; rfl
  | int _ => obtain ⟨t, rfl⟩ := r; rfl
  | str _ => obtain ⟨t, rfl⟩ := r; rfl
  | byt _ => obtain ⟨t, rfl⟩ := r; rfl
  | flt _ => obtain ⟨t, rfl⟩ := r; rfl
  | ref _ => cases r; rfl
  | ty _ => cases r; rfl
theorem RelV.inj {x y : V} {u : Value} (r : RelV x u) (q : RelV y u) : x = y := Option.some.inj (r.abs.symm.trans q.abs)
theorem Vals.inj : ∀ {xs ys : List V} {us : List Value}, Vals xs us → Vals ys us → xs = ys
  | _, _, _, .nil, .nil => rfl
  | _, _, _, .cons r t, .cons r' t' => by rw [r.inj r', Vals.inj t t']
section
variable {X : Cx} {pins : List (Addr × Obj)} {σ : St} {H : Hp} {s : Shared} {a : Addr} {xs ys : List V}
theorem SqL.of {K : PySem.W.Frag} (h : H a = some (.lst xs)) : SqL K H a xs := .inl (.inl h)
theorem SqT.of {K : PySem.W.Frag} (h : H a = some (.tup xs)) : SqT K H a xs := .inl (.inl h)
theorem Inv.list (I : Inv X pins σ H s) (h : SqL X.K H a xs) : ∃ its : List Value, Vals xs its ∧ PlainL s.heap a its.toArray ∧ xs.length ≤ sizeLine := by
  rcases h with h | ⟨o, its, n, hk, hc, hd, hs, hz, r⟩
  · obtain ⟨z, its, n, r, e⟩ := h.ok I.hok
    exact ⟨its, r, ⟨_, n, e, rfl, rfl, rfl⟩, z⟩
  · refine ⟨its.toList, r, ⟨o, n, I.kIn a o hk, hc, hd, by simpa using hs⟩, ?_⟩
    have e := r.length
    simp only [Array.length_toList] at e
    omega
theorem Inv.tuple (I : Inv X pins σ H s) (h : SqT X.K H a xs) : ∃ its : List Value, Vals xs its ∧ IsTup s.heap a its.toArray ∧ xs.length ≤ sizeLine := by
  rcases h with h | ⟨o, its, n, hk, hc, hs, hz, r⟩
  · obtain ⟨z, its, r, p⟩ := h.ok I.hok
    exact ⟨its, r, p, z⟩
  · refine ⟨its.toList, r, ⟨o, I.kIn a o hk, hc, n, by simpa using hs⟩, ?_⟩
    have e := r.length
    simp only [Array.length_toList] at e
    omega
theorem Inv.list_inj (I : Inv X pins σ H s) (h : SqL X.K H a xs) (h' : SqL X.K H a ys) : xs = ys := by
  obtain ⟨its, r, ⟨o, n, e, _, _, d⟩, _⟩ := I.list h
  obtain ⟨its', r', ⟨o', n', e', _, _, d'⟩, _⟩ := I.list h'
  rw [e] at e'; cases e'
  rw [d] at d'
  injection d' with d1 _
  have : its = its' := by simpa using congrArg Array.toList d1
  subst this
  exact r.inj r'
end

abbrev Cx.wish (X : Cx) (E : Value → Shared → Prop) : Cx := { X with xe := E }
abbrev Cx.nox (X : Cx) : Cx := X.wish fun _ _ => False
theorem Cx.Ok.wish {X : Cx} (ok : X.Ok) (E : Value → Shared → Prop) : (X.wish E).Ok :=
  ⟨ok.mod, ok.kind, ok.glob, ok.blt, ok.above, ok.inj, ok.has, ok.cab, ok.hd, ok.frames, ok.stk, ok.exf, ok.bs, ok.bsz, ok.noex, ok.exfs, ok.funs, ok.frf⟩
theorem Cx.Ok.unwish {X : Cx} {E : Value → Shared → Prop} (ok : (X.wish E).Ok) : X.Ok :=
  ⟨ok.mod, ok.kind, ok.glob, ok.blt, ok.above, ok.inj, ok.has, ok.cab, ok.hd, ok.frames, ok.stk, ok.exf, ok.bs, ok.bsz, ok.noex, ok.exfs, ok.funs, ok.frf⟩
section
variable {X : Cx} {pins : List (Addr × Obj)} {σ : St} {H : Hp} {s : Shared} {E : Value → Shared → Prop}
theorem Inv.wish (I : Inv X pins σ H s) (E : Value → Shared → Prop) : Inv (X.wish E) pins σ H s := ⟨I.ok.wish E, I.os, I.bare, I.base, I.loc, I.cell, I.free, I.freeC, I.pin, I.hok, I.len⟩
theorem Inv.unwish (I : Inv (X.wish E) pins σ H s) : Inv X pins σ H s := ⟨I.ok.unwish, I.os, I.bare, I.base, I.loc, I.cell, I.free, I.freeC, I.pin, I.hok, I.len⟩
theorem SP.unwish {D : Ends} {f : Flow} {s' : Shared} (h : SP (X.wish E) pins D f s') : SP X pins D f s' := by
  cases f with
  | next => obtain ⟨σ', H', I, q⟩ := h; exact ⟨σ', H', I.unwish, q⟩
  | brk => obtain ⟨σ', H', I, q⟩ := h; exact ⟨σ', H', I.unwish, q⟩
  | cont => obtain ⟨σ', H', I, q⟩ := h; exact ⟨σ', H', I.unwish, q⟩
  | ret u => obtain ⟨v, σ', H', I, r, q⟩ := h; exact ⟨v, σ', H', I.unwish, r, q⟩
theorem PSs.nox {st : List Stmt} {t : TS} (h : PSs X.nox st t) : PSs X st t := fun pins s σ H D I hw =>
  wpAny_mono (h pins s σ H D (I.wish _) hw) (fun _ _ q => q.unwish) fun _ _ z => False.elim z
end

section
variable {X : Cx} {st : Stmt} {rest : List Stmt} {t u : TS} {e : Expr} {te : TE} {pos : Pos}
def tNext : TS := fun D σ H => D.nx σ H
def tSeq (t u : TS) : TS := fun D σ H => t { D with nx := u D } σ H
theorem pss_nil : PSs X [] tNext := fun _ _ σ H _ I h => wpAny_execs_nil ⟨σ, H, I, h⟩
theorem pss_cons (h1 : PS X st t) (h2 : PSs X rest u) : PSs X (st :: rest) (tSeq t u) := by
  intro pins s σ H D I h
  refine wpAny_execs_cons (thn (h1 pins s σ H { D with nx := u D } I h) fun f s1 q => ?_)
  cases f with
  | next =>
    obtain ⟨σ', H', I', q⟩ := q
    exact h2 pins s1 σ' H' D I' q
  | ret v => exact q
  | brk => exact q
  | cont => exact q
theorem pss_one (h1 : PS X st t) : PSs X [st] t := by
  intro pins s σ H D I h
  refine wpAny_execs_cons (thn (h1 pins s σ H D I h) fun f s1 q => ?_)
  cases f with
  | next => exact wpAny_execs_nil q
  | ret v => exact q
  | brk => exact q
  | cont => exact q
theorem Inv.quiet {pins : List (Addr × Obj)} {σ : St} {H : Hp} {s : Shared} (I : Inv X pins σ H s) : interactive X.env = false := by simp [interactive, I.ok.kind]
def tDrop (te : TE) : TS := fun D σ H => te σ H fun _ H1 => D.nx σ H1
theorem ps_expr (he : PE X e te) (hs : swapsWith e none pos.line X.env = pure false := by rfl) : PS X (.Expr e pos) (tDrop te) := by
  intro pins s σ H D I h
  exact wpAny_Expr_any (thn (he pins s σ H _ I h) fun v s1 ⟨x, H1, I1, r1, q1⟩ => ⟨σ, H1, I1, q1⟩) I.quiet hs
def tRet (te : TE) : TS := fun D σ H => te σ H D.rt
theorem ps_ret (he : PE X e te) : PS X (.Return (some e) pos) (tRet te) := by
  intro pins s σ H D I h
  exact wpAny_Return_some (thn (he pins s σ H _ I h) fun v s1 ⟨x, H1, I1, r1, q1⟩ => ⟨x, σ, H1, I1, r1, q1⟩)
def tIfS (c : TT) (t u : TS) : TS := fun D σ H => c σ H fun b H1 => if b = true then t D σ H1 else u D σ H1
theorem ps_if {c : Expr} {a b : List Stmt} {tc : TT} (hc : PT X c tc) (ha : PSs X a t) (hb : PSs X b u) : PS X (.If c a b pos) (tIfS tc t u) := by
  intro pins s σ H D I h
  refine wpAny_If (thn (hc pins s σ H _ I h) fun d s1 ⟨H1, I1, q1⟩ => ?_)
  cases d with
  | true => exact ha pins s1 σ H1 D I1 q1
  | false => exact hb pins s1 σ H1 D I1 q1
def tNever : TS := fun _ _ _ => False
theorem ps_never : PS X st tNever := fun _ _ _ _ _ _ h => h.elim
end

abbrev TG := V → St → Hp → (St → Hp → Prop) → Prop
abbrev TGs := List V → St → Hp → (St → Hp → Prop) → Prop
def PG (X : Cx) (target : Expr) (t : TG) : Prop :=
  ∀ (pins : List (Addr × Obj)) (s : Shared) (σ : St) (H : Hp) (v : V) (u : Value) (Q : St → Hp → Prop), Inv X pins σ H s → RelV v u → t v σ H Q →
    wpAny (model X.prog X.w) X.A (assign target X.env u) (fun _ s' => ∃ σ' H', Inv X pins σ' H' s' ∧ Q σ' H') X.xe s
def PGs (X : Cx) (ts : List Expr) (t : TGs) : Prop :=
  ∀ (pins : List (Addr × Obj)) (s : Shared) (σ : St) (H : Hp) (vs : List V) (us : List Value) (Q : St → Hp → Prop), Inv X pins σ H s → Vals vs us → t vs σ H Q →
    wpAny (model X.prog X.w) X.A (assignInOrder ((assignEach ts X.env).map (·.2)) us) (fun _ s' => ∃ σ' H', Inv X pins σ' H' s' ∧ Q σ' H') X.xe s
section
variable {X : Cx} {pos : Pos}
def gName (i : Nat) : TG := fun v σ H Q => Q (σ.set i (some v)) H
theorem pg_name {i : Nat} {x : Str} (hN : X.N.Nodup) (hi : X.N[i]? = some x) (hx : Loc X.env.scope x) (hf : X.fn x = true ∨ X.env.scope.names.lookup x = some .local := by first | exact .inl rfl | exact .inr rfl | assumption) : PG X (.Name x pos) (gName i) := by
  intro pins s σ H v u Q I r h
  exact wpAny_assign_Name (store_ok I hN hi hx r (fun s' I' => ⟨_, H, I', h⟩) hf)
def gNil : TGs := fun vs σ H Q => vs = [] ∧ Q σ H
def gCons (t : TG) (u : TGs) : TGs := fun vs σ H Q => ∃ v r, vs = v :: r ∧ t v σ H fun σ' H' => u r σ' H' Q
theorem pgs_nil : PGs X [] gNil := by
  intro pins s σ H vs us Q I r h
  obtain ⟨e, h⟩ := h
  subst e
  cases r
  exact assignInOrder_nil ⟨σ, H, I, h⟩
theorem pgs_cons {e : Expr} {es : List Expr} {t : TG} {u : TGs} (h1 : PG X e t) (h2 : PGs X es u)
    (hs : (assignEach (e :: es) X.env).map (·.2) = assign e X.env :: (assignEach es X.env).map (·.2) := by rfl) : PGs X (e :: es) (gCons t u) := by
  intro pins s σ H vs us Q I r h
  obtain ⟨v, vr, e1, h⟩ := h
  subst e1
  cases r with
  | cons r rr =>
    rw [hs]
    refine assignInOrder_cons (thn (h1 pins s σ H _ _ _ I r h) fun _ s1 ⟨σ1, H1, I1, q1⟩ => ?_)
    exact h2 pins s1 σ1 H1 _ _ Q I1 rr q1
def gTup (K : PySem.W.Frag) (n : Nat) (t : TGs) : TG := fun v σ H Q => ∃ a xs, v = .ref a ∧ SqT K H a xs ∧ xs.length = n ∧ t xs σ H Q
theorem pg_tup {es : List Expr} {k : Nat} {t : TGs} {n : Nat} (hc : X.calm = true) (h : PGs X es t)
    (hn : (assignEach es X.env).length = n := by rfl) (hst : (assignEach es X.env).findIdx? (·.1) = none := by rfl) : PG X (.Tuple es k pos) (gTup X.K n t) := by
  intro pins s σ H v u Q I r hw
  obtain ⟨a, xs, e1, hq, hl, hw⟩ := hw
  subst e1
  cases r
  obtain ⟨its, rv, ht, hz⟩ := I.tuple hq
  refine assign_Tuple_tuple (I.ok.hd hc) ht (by simp [hn, ← hl, rv.length]) hst fun h' hx => ?_
  have I1 : Inv X pins σ H { s with heap := h' } := I.kept (t' := s.toks) fun b o e => hx b o (Nat.ne_of_lt (Heap.lt_size e)) e
  exact h pins _ σ H xs _ Q I1 (by simpa using rv) hw
def tAsg (te : TE) (g : TG) : TS := fun D σ H => te σ H fun x H1 => g x σ H1 D.nx
theorem ps_asg {tg e : Expr} {te : TE} {g : TG} (he : PE X e te) (hg : PG X tg g) (hs : swapsWithSole [tg] e pos.line X.env = pure false := by rfl) (hw : swappedStores [tg] e X.env = pure none := by rfl)
    (h1 : (assignEach [tg] X.env).map (·.2) = [assign tg X.env] := by rfl) : PS X (.Assign [tg] e pos) (tAsg te g) := by
  intro pins s σ H D I h
  refine wpAny_Assign_stores (thn (he pins s σ H _ I h) fun v s1 ⟨x, H1, I1, r1, q1⟩ => ?_) hs hw
  rw [h1]
  exact thn (hg pins s1 σ H1 x v _ I1 r1 q1) fun _ s2 q => q
theorem ps_set {i : Nat} {x : Str} {e : Expr} {te : TE} {pos' : Pos} (hN : X.N.Nodup) (hi : X.N[i]? = some x) (hx : Loc X.env.scope x) (he : PE X e te) (hs : swapsWith e (some (.Name x pos')) pos.line X.env = pure false := by rfl) (hf : X.fn x = true ∨ X.env.scope.names.lookup x = some .local := by first | exact .inl rfl | exact .inr rfl | assumption) :
    PS X (.Assign [.Name x pos'] e pos) (tAsg te (gName i)) := by
  intro pins s σ H D I h
  refine wpAny_Assign_Name (thn (he pins s σ H _ I h) fun v s1 ⟨y, H1, I1, r1, q1⟩ => ?_) hs
  exact store_ok I1 hN hi hx r1 (fun s2 I2 => ⟨_, H1, I2, q1⟩) hf
end

section
variable {X : Cx} {pos : Pos}
def tWhile (c : TT) (tb : TS) : TS := fun D σ H => ∃ W : Nat → St → Hp → Prop, (∃ m, W m σ H) ∧ ∀ m σ H, W m σ H →
  c σ H fun b H1 => if b = true then ∃ N : St → Hp → Prop, (∀ σ' H', N σ' H' → ∃ m', m' < m ∧ W m' σ' H') ∧ tb { D with nx := N, ct := N, bk := D.nx } σ H1 else D.nx σ H1
theorem ps_while {c : Expr} {body : List Stmt} {tc : TT} {tb : TS} (hp : PassesOwn (model X.prog X.w) X.A X.env X.xe) (hc : PT X c tc) (hb : PSs X body tb) : PS X (.While c body [] pos) (tWhile tc tb) := by
  intro pins s σ H D I h
  obtain ⟨W, ⟨m0, w0⟩, turn⟩ := h
  refine wpAny_While (codeAny_whileLoop (fun n s' => ∃ σ' H', Inv X pins σ' H' s' ∧ W n σ' H') ?_ m0 ⟨σ, H, I, w0⟩)
  rintro n s1 ⟨σ1, H1, I1, w1⟩
  refine wpAny_passesOwn hp (thn (hc pins s1 σ1 H1 _ I1 (turn n σ1 H1 w1)) fun b s2 ⟨H2, I2, q2⟩ => ?_)
  cases b with
  | true =>
    obtain ⟨N, hN, q2⟩ := q2
    rw [if_pos rfl]
    refine wpAny_passesOwn hp (thn (hb pins s2 σ1 H2 _ I2 q2) fun f s3 q3 => ?_)
    cases f with
    | next =>
      obtain ⟨σ3, H3, I3, n3⟩ := q3
      obtain ⟨m', hm, w3⟩ := hN σ3 H3 n3
      exact ⟨m', hm, σ3, H3, I3, w3⟩
    | cont =>
      obtain ⟨σ3, H3, I3, n3⟩ := q3
      obtain ⟨m', hm, w3⟩ := hN σ3 H3 n3
      exact ⟨m', hm, σ3, H3, I3, w3⟩
    | brk => exact q3
    | ret v => exact q3
  | false =>
    rw [if_neg Bool.false_ne_true]
    exact wpAny_execs_nil ⟨σ1, H2, I2, q2⟩
end

structure It where
  go : Nat → Hp → Prop
  yld : Nat → Hp → V → Hp → Prop
  stop : Nat → Hp → Prop
def FpOk (X : Cx) (pins : List (Addr × Obj)) (H : Hp) (b : Addr) : Prop :=
  H b = none ∧ b ≠ X.env.locals ∧ b ∉ X.fs ∧ (b ∈ X.ex ∨ X.s₀.heap.objs.size ≤ b) ∧ (∀ x c, X.env.cells.lookup x = some c → c ≠ b) ∧ ∀ p ∈ X.pn ++ pins, p.1 ≠ b
theorem Inv.fpOk {X : Cx} {pins : List (Addr × Obj)} {σ : St} {H H' : Hp} {s : Shared} {b : Addr} (I : Inv X pins σ H s) (hb : s.heap.objs.size ≤ b) (hn : H' b = none) : FpOk X pins H' b := by
  refine ⟨hn, Nat.ne_of_gt (Nat.lt_of_lt_of_le I.lt hb), I.nofs hb, .inr (Nat.le_trans I.sz hb), fun x c e z => ?_, fun p hp z => ?_⟩
  · obtain ⟨v, q⟩ := I.cell x c e
    exact absurd (Nat.lt_of_lt_of_le q.lt (by rw [z]; exact hb)) (Nat.lt_irrefl _)
  · exact absurd (Nat.lt_of_lt_of_le (Heap.lt_size (I.pin p hp).1) (by rw [z]; exact hb)) (Nat.lt_irrefl _)
structure Turn (P : Program) (w : World) (K : PySem.W.Frag) (tg : Expr) (J : It) (fp : List Addr) (it : Addr) (tn : Nat → Heap → Prop) : Prop where
  mem : it ∈ fp
  obj : ∀ i h, tn i h → ∀ b ∈ fp, ∃ o, h.get? b = some o ∧ ∀ v, o.data ≠ .cell v
  keep : ∀ i h h', tn i h → (∀ b ∈ fp, ∀ o, h.get? b = some o → h'.get? b = some o) → tn i h'
  item : ∀ (X : Cx), X.prog = P → X.w = w → X.K = K → X.calm = true → ∀ (i : Nat) (pins : List (Addr × Obj)) (s : Shared) (σ : St) (H : Hp) (E : Value → Shared → Prop), Inv X pins σ H s → (∀ b ∈ fp, FpOk X pins H b) → tn i s.heap → J.go i H →
    wpAny (model P w) X.A (pyNext (.ref it)) (fun r s1 => ∃ u, r = some u ∧
      wpAny (model P w) X.A (letOwnedTupleGo tg (.ref it) u) (fun _ s2 => ∃ x H', Inv X pins σ H' s2 ∧ RelV x u ∧ J.yld i H x H' ∧ tn (i + 1) s2.heap ∧ ∀ b ∈ fp, H' b = none) E s1) E s
  done : ∀ (X : Cx), X.prog = P → X.w = w → X.K = K → X.calm = true → ∀ (i : Nat) (pins : List (Addr × Obj)) (s : Shared) (σ : St) (H : Hp) (E : Value → Shared → Prop), Inv X pins σ H s → (∀ b ∈ fp, FpOk X pins H b) → tn i s.heap → J.stop i H →
    wpAny (model P w) X.A (pyNext (.ref it)) (fun r s1 => r = none ∧ Inv X pins σ H s1) E s
  self : ∀ (A : Around) (i : Nat) (s : Shared) (Q : Value → Shared → Prop) (E : Value → Shared → Prop), tn i s.heap → Q (.ref it) s → wpAny (model P w) A (pyIter (.ref it)) Q E s
abbrev TI := St → Hp → (It → Hp → Prop) → Prop
def PIE (X : Cx) (pins : List (Addr × Obj)) (σ : St) (tg : Expr) (R : It → Hp → Prop) (itv : Value) (s2 : Shared) : Prop :=
  ∃ (it : Addr) (fp : List Addr) (tn : Nat → Heap → Prop) (J : It) (H' : Hp), itv = .ref it ∧ Inv X pins σ H' s2 ∧ Turn X.prog X.w X.K tg J fp it tn ∧ tn 0 s2.heap ∧ (∀ b ∈ fp, FpOk X pins H' b) ∧ R J H'
def PI (X : Cx) (tg iter : Expr) (wi : TI) : Prop :=
  ∀ (pins : List (Addr × Obj)) (s : Shared) (σ : St) (H : Hp) (R : It → Hp → Prop), Inv X pins σ H s → wi σ H R →
    wpAny (model X.prog X.w) X.A (eval iter X.env) (fun v s1 => wpAny (model X.prog X.w) X.A (pyIter v) (PIE X pins σ tg R) X.xe s1) X.xe s

theorem go_of {M : Model} {A : Around} {E : Value → Shared → Prop} {s : Shared} {tg : Expr} {it : Addr} {u : Value} {o : Obj} {n : String} {vs : Array Value} {Q : Unit → Shared → Prop} (ho : s.heap.get? it = some o) (hc : o.cls = .type n) (hd : o.data = .fields vs)
    (hn : ["enumerate", "zip", "dict_itemiterator", "dict_reverseitemiterator", "odict_iterator", "itertools.zip_longest", "itertools.pairwise"].contains n = false) (hQ : Q () s) : wpAny M A (letOwnedTupleGo tg (.ref it) u) Q E s := by
  unfold letOwnedTupleGo
  cases tg <;> first
    | exact wpAny_pure hQ
    | (cases u <;> first
        | exact wpAny_pure hQ
        | (refine wpAny_bind (wpAny_load ho ?_)
           rw [hc, hd]
           show wpAny M A (if (["enumerate", "zip", "dict_itemiterator", "dict_reverseitemiterator", "odict_iterator", "itertools.zip_longest", "itertools.pairwise"].contains n && vs[0]? == some (rawInt _)) = true then _ else _) Q E s
           rw [if_neg (by intro h; rw [hn, Bool.false_and] at h; cases h)]
           exact wpAny_pure hQ))

def Itl (K : PySem.W.Frag) (a : Addr) : It :=
  ⟨fun i H => ∃ xs x, SqL K H a xs ∧ xs[i]? = some x, fun i H x H' => H' = H ∧ ∀ xs, SqL K H a xs → xs[i]? = some x, fun i H => ∃ xs, SqL K H a xs ∧ xs.length ≤ i⟩
def Itr (lo : Int) (n : Nat) : It := ⟨fun i _ => i < n, fun i H x H' => H' = H ∧ x = .int (lo + i), fun i _ => n ≤ i⟩
theorem turn_list {P : Program} {w : World} {K : PySem.W.Frag} {tg : Expr} (a it : Addr) : Turn P w K tg (Itl K a) [it] it (fun i h => h.IsListIter it a i) where
  mem := by simp
  obj := fun i h st b hb => by
    have e : b = it := by simpa using hb
    subst e
    obtain ⟨o, e, c, d⟩ := st
    exact ⟨o, e, fun v z => by rw [d] at z; cases z⟩
  keep := fun i h h' st k => st.at fun o e => k it (by simp) o e
  item := by
    intro X hP hw hK hc i pins s σ H E I hf st hg
    subst hP hw hK
    obtain ⟨xs, x, hq, hx⟩ := hg
    obtain ⟨its, rv, p, hz⟩ := I.list hq
    obtain ⟨u, hu, ru⟩ := rv.get hx
    obtain ⟨f0, f1, f2, f3, f4, f5⟩ := hf it (by simp)
    refine wpAny_pyNext_list_item st p.isList (x := u) (by simpa using hu) fun h' st' sb => ?_
    have I1 : Inv X pins σ H { s with heap := h' } := I.turned (t' := s.toks) (fun b o hb e => (sb.2 b hb).trans e) f0 f1 f3 f4 f5
    obtain ⟨o, e, c, d⟩ := id st'
    exact ⟨u, rfl, go_of (s := { s with heap := h' }) e c d (by decide) ⟨x, H, I1, ru, ⟨rfl, fun ys hy => by rw [I.list_inj hy hq]; exact hx⟩, st', fun b hb => (hf b hb).1⟩⟩
  done := by
    intro X hP hw hK hc i pins s σ H E I hf st hg
    subst hP hw hK
    obtain ⟨xs, hq, hx⟩ := hg
    obtain ⟨its, rv, p, hz⟩ := I.list hq
    obtain ⟨f0, f1, f2, f3, f4, f5⟩ := hf it (by simp)
    have hl := rv.length
    exact wpAny_pyNext_list_end (I.ok.hd hc) st p.isList (by simp; omega) fun h' eb => ⟨rfl, I.turned (t' := s.toks) (fun b o hb e => eb b o hb e) f0 f1 f3 f4 f5⟩
  self := fun _ _ _ _ _ st h => wpAny_pyIter_listiter st h
theorem turn_range {P : Program} {w : World} {K : PySem.W.Frag} {tg : Expr} (it : Addr) (lo : Int) (n : Nat) : Turn P w K tg (Itr lo n) [it] it (fun i h => IsRangeIter h it (lo + (i : Nat) * 1) ((n : Int) - (i : Nat)) 1) where
  mem := by simp
  obj := fun i h st b hb => by
    have e : b = it := by simpa using hb
    subst e
    exact ⟨_, st, fun v z => by
      have z' : Data.fields _ = Data.cell v := z
      cases z'⟩
  keep := fun i h h' st k => k it (by simp) _ st
  item := by
    intro X hP hw hK hc i pins s σ H E I hf st hg
    subst hP hw hK
    obtain ⟨f0, f1, f2, f3, f4, f5⟩ := hf it (by simp)
    have W := Walks.range (prog := X.prog) (w := X.w) (I.ok.hd hc) it lo 1 n
    refine W.item i s _ _ hg st fun v h' tk hv st' kk => ?_
    obtain ⟨t, rfl⟩ := hv
    have I1 : Inv X pins σ H { s with heap := h', toks := tk } := I.turned (fun b o hb e => kk b o (by simpa using hb) e) f0 f1 f3 f4 f5
    refine ⟨_, rfl, go_of (s := { s with heap := h', toks := tk }) (n := "range_iterator") st' rfl rfl (by decide) ⟨.int (lo + i), H, I1, ⟨t, ?_⟩, ⟨rfl, rfl⟩, st', fun b hb => (hf b hb).1⟩⟩
    rw [Int.mul_one]
  done := by
    intro X hP hw hK hc i pins s σ H E I hf st hg
    subst hP hw hK
    obtain ⟨f0, f1, f2, f3, f4, f5⟩ := hf it (by simp)
    exact wpAny_pyNext_range_end (I.ok.hd hc) st (by have : n ≤ i := hg; omega) fun h' eb => ⟨rfl, I.turned (t' := s.toks) (fun b o hb e => eb b o hb e) f0 f1 f3 f4 f5⟩
  self := fun _ _ _ _ _ st h => wpAny_pyIter_rangeiter st h
end L2

namespace L2
open PySem PySem.Spec PyProof.Rows
section
variable {X : Cx} {tg : Expr}
def iList (K : PySem.W.Frag) (tl : TE) : TI := fun σ H R => tl σ H fun x H1 => ∃ a, x = .ref a ∧ (∃ xs, SqL K H1 a xs) ∧ R (Itl K a) H1
theorem pi_list {l : Expr} {tl : TE} (hl : PE X l tl) : PI X tg l (iList X.K tl) := by
  intro pins s σ H R I h
  refine thn (hl pins s σ H _ I h) fun v s1 ⟨x, H1, I1, r1, q1⟩ => ?_
  obtain ⟨a, e, ⟨xs, hq⟩, q⟩ := q1
  subst e
  cases r1
  obtain ⟨its, rv, p, hz⟩ := I1.list hq
  refine wpAny_pyIter_list p.isList ?_
  refine ⟨s1.heap.objs.size, [s1.heap.objs.size], _, _, H1, rfl, I1.kept (t' := s1.toks) fun b o e => Heap.get?_push_of_some _ e, turn_list a _, ⟨_, Heap.get?_push_size _ rfl, rfl, rfl⟩, fun b hb => ?_, q⟩
  have e : b = s1.heap.objs.size := by simpa using hb
  subst e
  exact I1.fpOk (Nat.le_refl _) (I1.hok.fresh (Nat.le_refl _))
theorem range_it {pins : List (Addr × Obj)} {σ : St} {H : Hp} {s : Shared} {R : It → Hp → Prop} {E : Value → Shared → Prop} {lo hi : Int} {t u v : Tok} {tk : Nat} (I : Inv X pins σ H s) (h1 : -(2 ^ 62) ≤ lo) (h2 : lo < 2 ^ 62) (h3 : -(2 ^ 62) ≤ hi) (h4 : hi < 2 ^ 62)
    (q : R (Itr lo (hi - lo).toNat) H) : wpAny (model X.prog X.w) X.A (pyIter (.ref s.heap.objs.size)) (PIE X pins σ tg R) E { s with heap := s.heap.push { cls := .type "range", data := .fields #[.int lo t, .int hi u, .int 1 v] }, toks := tk } := by
  refine wpAny_pyIter_range (IsRange.new ..) (small_one h1 h2 h3 h4) ?_
  have I1 : Inv X pins σ H { s with heap := s.heap.push { cls := .type "range", data := .fields #[.int lo t, .int hi u, .int 1 v] }, toks := tk } := I.kept fun b o e => Heap.get?_push_of_some _ e
  refine ⟨(s.heap.push { cls := .type "range", data := .fields #[.int lo t, .int hi u, .int 1 v] }).objs.size, [(s.heap.push { cls := .type "range", data := .fields #[.int lo t, .int hi u, .int 1 v] }).objs.size], _, _, H, rfl,
    I1.kept (t' := tk) fun b o e => Heap.get?_push_of_some _ e, turn_range _ lo (hi - lo).toNat, ?_, fun b hb => ?_, q⟩
  · have e1 : lo + ((0 : Nat) : Int) * 1 = lo := by simp
    have e2 : (((hi - lo).toNat : Nat) : Int) - ((0 : Nat) : Int) = Builtin.Range.rangeSize lo hi 1 := by rw [rangeSize_one]; split <;> omega
    show IsRangeIter _ _ (lo + ((0 : Nat) : Int) * 1) ((((hi - lo).toNat : Nat) : Int) - ((0 : Nat) : Int)) 1
    rw [e1, e2]
    exact Heap.get?_push_size _ rfl
  · have e : b = (s.heap.push { cls := .type "range", data := .fields #[.int lo t, .int hi u, .int 1 v] }).objs.size := by simpa using hb
    subst e
    exact I1.fpOk (Nat.le_refl _) (I1.hok.fresh (Nat.le_refl _))
def iRng1 (ta : TA) : TI := fun σ H R => ta σ H fun vs H1 => ∃ j : Int, vs = [.int j] ∧ -(2 ^ 62) ≤ j ∧ j < 2 ^ 62 ∧ R (Itr 0 j.toNat) H1
theorem pi_range1 {a : Expr} {ta : TA} {p pos : Pos} (hg : Gl X "range") (hm : X.mg "range" = none) (ha : PA X [a] ta) (hs : starEach [a] X.env = [(false, eval a X.env)] := by rfl) : PI X tg (.Call (.Name "range" p) [a] [] pos) (iRng1 ta) := by
  intro pins s σ H R I h
  refine Call_ (ld_blt I hg hm boot_range (PyProof.Rows.callWith_type1 (thn (ha pos pins s σ H _ I h) fun us s1 ⟨vs, H1, I1, r1, q1⟩ => ?_) hs rfl))
  obtain ⟨j, e, q1, q2, q⟩ := q1
  subst e
  cases r1 with
  | cons r rr =>
    cases rr
    obtain ⟨t, rfl⟩ := r
    exact call_range_1 (range_it I1 (by omega) (by omega) q1 q2 (by simpa using q))
def tFor (wi : TI) (g : TG) (tb : TS) : TS := fun D σ H => wi σ H fun J H1 => ∃ W : Nat → Nat → St → Hp → Prop, (∃ m, W 0 m σ H1) ∧ ∀ i m σ H, W i m σ H →
  (J.stop i H ∧ D.nx σ H) ∨ (J.go i H ∧ ∃ N : St → Hp → Prop, (∀ σ' H', N σ' H' → ∃ m', m' < m ∧ W (i + 1) m' σ' H') ∧ ∀ x H', J.yld i H x H' → g x σ H' fun σ2 H2 => tb { D with nx := N, ct := N, bk := D.nx } σ2 H2)
def pinsAt (fp : List Addr) (h : Heap) : List (Addr × Obj) := fp.filterMap fun b => (h.get? b).map fun o => (b, o)
theorem mem_pinsAt {fp : List Addr} {h : Heap} {b : Addr} {o : Obj} (hb : b ∈ fp) (e : h.get? b = some o) : (b, o) ∈ pinsAt fp h := List.mem_filterMap.mpr ⟨b, hb, by rw [e]; rfl⟩
theorem of_pinsAt {fp : List Addr} {h : Heap} {p : Addr × Obj} (hp : p ∈ pinsAt fp h) : p.1 ∈ fp ∧ h.get? p.1 = some p.2 := by
  obtain ⟨b, hb, e⟩ := List.mem_filterMap.mp hp
  cases q : h.get? b with
  | none => rw [q] at e; cases e
  | some o =>
    rw [q] at e
    have e' : (b, o) = p := Option.some.inj e
    subst e'
    exact ⟨hb, q⟩
theorem Inv.pinned {pins : List (Addr × Obj)} {σ : St} {H : Hp} {s : Shared} {fp : List Addr} (I : Inv X pins σ H s) (hf : ∀ b ∈ fp, FpOk X pins H b) (ho : ∀ b ∈ fp, ∃ o, s.heap.get? b = some o ∧ ∀ v, o.data ≠ .cell v) : Inv X (pins ++ pinsAt fp s.heap) σ H s :=
  I.pins_of fun p hp => (List.mem_append.mp hp).elim (fun z => I.pin p (List.mem_append_right _ z)) fun z => by
    obtain ⟨hb, e⟩ := of_pinsAt z
    obtain ⟨f0, f1, f2, _⟩ := hf p.1 hb
    obtain ⟨o, e', d⟩ := ho p.1 hb
    rw [e] at e'; cases e'
    exact ⟨e, f0, f1, f2, d⟩
theorem Inv.unpinned {pins pl : List (Addr × Obj)} {σ : St} {H : Hp} {s : Shared} (I : Inv X (pins ++ pl) σ H s) : Inv X pins σ H s := I.pins_of fun p hp => I.pin p (List.mem_append_right _ (List.mem_append_left _ hp))
theorem ps_for {iter : Expr} {body : List Stmt} {wi : TI} {g : TG} {tb : TS} {pos : Pos} (hp : PassesOwn (model X.prog X.w) X.A X.env X.xe) (hc : X.calm = true) (hi : PI X tg iter wi) (hg : PG X tg g) (hb : PSs X body tb)
    (hs : ∀ x, foldedSetIterable iter X.env x = pure x := by intro _; rfl) : PS X (.For tg iter body [] pos) (tFor wi g tb) := by
  intro pins s σ H D I h
  refine wpAny_For (thn (hi pins s σ H _ I h) fun v s1 h1 => thn h1 fun itv s2 h2 => ?_) hs
  obtain ⟨it, fp, tn, J, H2, e, I2, T, st2, f2, W, ⟨m0, w0⟩, turn⟩ := h2
  subst e
  -- what stays true of the iterator's objects through the loop
  have stat : ∀ {H' : Hp}, (∀ b ∈ fp, H' b = none) → ∀ b ∈ fp, FpOk X pins H' b := fun hn b hb => ⟨hn b hb, (f2 b hb).2⟩
  refine codeAny_forLoop_any (fun n s' => ∃ i σ' H', Inv X pins σ' H' s' ∧ tn i s'.heap ∧ (∀ b ∈ fp, H' b = none) ∧ W i n σ' H') ?_ m0 ⟨0, σ, H2, I2, st2, fun b hb => (f2 b hb).1, w0⟩
  rintro n s3 ⟨i, σ3, H3, I3, st3, fr3, w3⟩
  rcases turn i n σ3 H3 w3 with ⟨stop, qn⟩ | ⟨go, N, hN, step⟩
  · refine wpAny_passesOwn hp (thn (T.done X rfl rfl rfl hc i pins s3 σ3 H3 X.xe I3 (stat fr3) st3 stop) fun r s4 ⟨hr, I4⟩ => ?_)
    subst hr
    exact wpAny_execs_nil ⟨σ3, H3, I4, qn⟩
  · refine wpAny_passesOwn hp (thn (T.item X rfl rfl rfl hc i pins s3 σ3 H3 X.xe I3 (stat fr3) st3 go) fun r s4 ⟨u, hr, h4⟩ => ?_)
    subst hr
    refine wpAny_passesOwn hp (thn h4 fun _ s5 ⟨x, H5, I5, r5, y5, st5, fr5⟩ => ?_)
    have I5' := I5.pinned (stat fr5) (T.obj _ _ st5)
    refine wpAny_passesOwn hp (thn (hg _ s5 σ3 H5 x u _ I5' r5 (step x H5 y5)) fun _ s6 ⟨σ6, H6, I6, q6⟩ => ?_)
    refine wpAny_passesOwn hp (thn (hb _ s6 σ6 H6 _ I6 q6) fun f s7 q7 => ?_)
    have again : ∀ {σ7 : St} {H7 : Hp}, Inv X (pins ++ pinsAt fp s5.heap) σ7 H7 s7 → N σ7 H7 → ∃ m, m < n ∧ ∃ i σ' H', Inv X pins σ' H' s7 ∧ tn i s7.heap ∧ (∀ b ∈ fp, H' b = none) ∧ W i m σ' H' := fun {σ7 H7} I7 n7 => by
      obtain ⟨m', hm, w7⟩ := hN σ7 H7 n7
      refine ⟨m', hm, i + 1, σ7, H7, I7.unpinned, T.keep _ _ _ st5 fun b hb o e => (I7.pin (b, o) (List.mem_append_right _ (List.mem_append_right _ (mem_pinsAt hb e)))).1, fun b hb => ?_, w7⟩
      obtain ⟨o, e, d⟩ := T.obj _ _ st5 b hb
      exact (I7.pin (b, o) (List.mem_append_right _ (List.mem_append_right _ (mem_pinsAt hb e)))).2.1
    cases f with
    | next => obtain ⟨σ7, H7, I7, n7⟩ := q7; exact again I7 n7
    | cont => obtain ⟨σ7, H7, I7, n7⟩ := q7; exact again I7 n7
    | brk => obtain ⟨σ7, H7, I7, q7⟩ := q7; exact ⟨σ7, H7, I7.unpinned, q7⟩
    | ret v => obtain ⟨x7, σ7, H7, I7, r7, q7⟩ := q7; exact ⟨x7, σ7, H7, I7.unpinned, r7, q7⟩
end

theorem for_list {K : PySem.W.Frag} {a : Addr} {xs : List V} {g : TG} {tb : TS} {D : Ends} {σ : St} {H : Hp} (Pv : Nat → St → Hp → Prop) (h0 : Pv 0 σ H) (hl : ∀ i σ H, i ≤ xs.length → Pv i σ H → SqL K H a xs)
    (hs : ∀ i x σ H, xs[i]? = some x → Pv i σ H → g x σ H fun σ2 H2 => tb { D with nx := Pv (i + 1), ct := Pv (i + 1), bk := D.nx } σ2 H2) (hd : ∀ σ H, Pv xs.length σ H → D.nx σ H) :
    ∃ W : Nat → Nat → St → Hp → Prop, (∃ m, W 0 m σ H) ∧ ∀ i m σ H, W i m σ H →
      ((Itl K a).stop i H ∧ D.nx σ H) ∨ ((Itl K a).go i H ∧ ∃ N : St → Hp → Prop, (∀ σ' H', N σ' H' → ∃ m', m' < m ∧ W (i + 1) m' σ' H') ∧ ∀ x H', (Itl K a).yld i H x H' → g x σ H' fun σ2 H2 => tb { D with nx := N, ct := N, bk := D.nx } σ2 H2) := by
  refine ⟨fun i m σ H => m = xs.length - i ∧ i ≤ xs.length ∧ Pv i σ H, ⟨xs.length, by simp, Nat.zero_le _, h0⟩, ?_⟩
  rintro i m σ H ⟨rfl, hi, p⟩
  have q := hl i σ H hi p
  by_cases hlt : i < xs.length
  · refine .inr ⟨⟨xs, xs[i], q, by simp [hlt]⟩, Pv (i + 1), fun σ' H' p' => ⟨xs.length - (i + 1), by omega, rfl, hlt, p'⟩, fun x H' y => ?_⟩
    obtain ⟨e, y⟩ := y
    subst e
    exact hs i x σ _ (y xs q) p
  · have e : i = xs.length := by omega
    subst e
    exact .inl ⟨⟨xs, q, Nat.le_refl _⟩, hd σ H p⟩
theorem for_range {lo : Int} {n : Nat} {g : TG} {tb : TS} {D : Ends} {σ : St} {H : Hp} (Pv : Nat → St → Hp → Prop) (h0 : Pv 0 σ H)
    (hs : ∀ i σ H, i < n → Pv i σ H → g (.int (lo + i)) σ H fun σ2 H2 => tb { D with nx := Pv (i + 1), ct := Pv (i + 1), bk := D.nx } σ2 H2) (hd : ∀ σ H, Pv n σ H → D.nx σ H) :
    ∃ W : Nat → Nat → St → Hp → Prop, (∃ m, W 0 m σ H) ∧ ∀ i m σ H, W i m σ H →
      ((Itr lo n).stop i H ∧ D.nx σ H) ∨ ((Itr lo n).go i H ∧ ∃ N : St → Hp → Prop, (∀ σ' H', N σ' H' → ∃ m', m' < m ∧ W (i + 1) m' σ' H') ∧ ∀ x H', (Itr lo n).yld i H x H' → g x σ H' fun σ2 H2 => tb { D with nx := N, ct := N, bk := D.nx } σ2 H2) := by
  refine ⟨fun i m σ H => m = n - i ∧ i ≤ n ∧ Pv i σ H, ⟨n, by simp, Nat.zero_le _, h0⟩, ?_⟩
  rintro i m σ H ⟨rfl, hi, p⟩
  by_cases hlt : i < n
  · refine .inr ⟨hlt, Pv (i + 1), fun σ' H' p' => ⟨n - (i + 1), by omega, rfl, hlt, p'⟩, fun x H' y => ?_⟩
    obtain ⟨e, y⟩ := y
    subst e y
    exact hs i σ _ hlt p
  · have e : i = n := by omega
    subst e
    exact .inl ⟨Nat.le_refl _, hd σ H p⟩
end L2

namespace L2
open PySem PySem.Spec PyProof.Rows

abbrev R2 := V → V → Hp → VK → Prop
def OpR (X : Cx) (f : Value → Value → Sem Value) (r : R2) : Prop :=
  ∀ (pins : List (Addr × Obj)) (s : Shared) (σ : St) (H : Hp) (x y : V) (v u : Value) (Q : VK), Inv X pins σ H s → RelV x v → RelV y u → r x y H Q →
    wpAny (model X.prog X.w) X.A (f v u) (EP X pins σ Q) X.xe s
def UnR (X : Cx) (f : Value → Sem Value) (r : V → Hp → VK → Prop) : Prop :=
  ∀ (pins : List (Addr × Obj)) (s : Shared) (σ : St) (H : Hp) (x : V) (v : Value) (Q : VK), Inv X pins σ H s → RelV x v → r x H Q →
    wpAny (model X.prog X.w) X.A (f v) (EP X pins σ Q) X.xe s
def CallR (X : Cx) (f : Value) (r : List V → Hp → VK → Prop) : Prop :=
  ∀ (pins : List (Addr × Obj)) (s : Shared) (σ : St) (H : Hp) (xs : List V) (us : List Value) (Q : VK), Inv X pins σ H s → Vals xs us → r xs H Q →
    wpAny (model X.prog X.w) X.A (call f us) (EP X pins σ Q) X.xe s
def TruR (X : Cx) (r : V → Hp → (Bool → Hp → Prop) → Prop) : Prop :=
  ∀ (pins : List (Addr × Obj)) (s : Shared) (σ : St) (H : Hp) (x : V) (v : Value) (Q : Bool → Hp → Prop), Inv X pins σ H s → RelV x v → r x H Q →
    wpAny (model X.prog X.w) X.A (truthy v) (TP X pins σ Q) X.xe s

def tOp (r : R2) (ta tb : TE) : TE := fun σ H Q => ta σ H fun x H1 => tb σ H1 fun y H2 => r x y H2 Q
def tUn (r : V → Hp → VK → Prop) (ta : TE) : TE := fun σ H Q => ta σ H fun x H1 => r x H1 Q
def rI (C : Int → Int → Prop) (g : Int → Int → V) : R2 := fun x y H Q => ∃ i j, x = .int i ∧ y = .int j ∧ C i j ∧ Q (g i j) H
def rI0 (g : Int → Int → V) : R2 := fun x y H Q => ∃ i j, x = .int i ∧ y = .int j ∧ Q (g i j) H
def rU (g : Int → V) : V → Hp → VK → Prop := fun x H Q => ∃ i, x = .int i ∧ Q (g i) H

section
variable {X : Cx} {a b c : Expr} {ta tb tc : TE} {pos : Pos}

theorem binT (ha : PE X a ta) (hb : PE X b tb) {pins : List (Addr × Obj)} {s : Shared} {σ : St} {H : Hp} {R : V → V → Hp → Prop} (I : Inv X pins σ H s)
    (h : ta σ H fun x H1 => tb σ H1 fun y H2 => R x y H2) {Q : Value → Shared → Prop} {f : Value → Value → Sem Value}
    (hf : ∀ v u s2 x y H2, Inv X pins σ H2 s2 → RelV x v → RelV y u → R x y H2 → wpAny (model X.prog X.w) X.A (f v u) Q X.xe s2) :
    wpAny (model X.prog X.w) X.A (eval a X.env) (fun v s₁ => wpAny (model X.prog X.w) X.A (eval b X.env) (fun u s₂ => wpAny (model X.prog X.w) X.A (f v u) Q X.xe s₂) X.xe s₁) X.xe s := by
  refine thn (ha pins s σ H _ I h) fun v s1 ⟨x, H1, I1, r1, q1⟩ => ?_
  refine thn (hb pins s1 σ H1 _ I1 q1) fun u s2 ⟨y, H2, I2, r2, q2⟩ => ?_
  exact hf v u s2 x y H2 I2 r1 r2 q2

theorem pe_op {op : Operator} {r : R2} (ho : OpR X (binaryOp op) r) (ha : PE X a ta) (hb : PE X b tb) : PE X (.BinOp a op b pos) (tOp r ta tb) := by
  intro pins s σ H Q I h
  exact wpAny_BinOp (binT ha hb I h fun v u s2 x y H2 I2 rx ry q => ho pins s2 σ H2 x y v u Q I2 rx ry q)
theorem pe_un {op : UnaryOp} {r : V → Hp → VK → Prop} (ho : UnR X (unaryOp op) r) (ha : PE X a ta) : PE X (.UnaryOp op a pos) (tUn r ta) := by
  intro pins s σ H Q I h
  exact UnaryOp_ (thn (ha pins s σ H _ I h) fun v s1 ⟨x, H1, I1, r1, q1⟩ => ho pins s1 σ H1 x v Q I1 r1 q1)
theorem opI {f : Value → Value → Sem Value} {C : Int → Int → Prop} {g : Int → Int → Int}
    (rule : ∀ (i j : Int) (t u : Tok) (s : Shared) (Q : Value → Shared → Prop) (E : Value → Shared → Prop), C i j → Q (.int (g i j) s.toks) { s with toks := s.toks + 1 } → wpAny (model X.prog X.w) X.A (f (.int i t) (.int j u)) Q E s) :
    OpR X f (rI C fun i j => .int (g i j)) := by
  intro pins s σ H x y v u Q I rx ry h
  obtain ⟨i, j, rfl, rfl, hc, q⟩ := h
  obtain ⟨t, rfl⟩ := rx
  obtain ⟨t', rfl⟩ := ry
  exact rule i j t t' s _ _ hc ⟨.int (g i j), H, I.tok _, ⟨_, rfl⟩, q⟩
theorem opI0 {f : Value → Value → Sem Value} {g : Int → Int → Int}
    (rule : ∀ (i j : Int) (t u : Tok) (s : Shared) (Q : Value → Shared → Prop) (E : Value → Shared → Prop), Q (.int (g i j) s.toks) { s with toks := s.toks + 1 } → wpAny (model X.prog X.w) X.A (f (.int i t) (.int j u)) Q E s) :
    OpR X f (rI0 fun i j => .int (g i j)) := by
  intro pins s σ H x y v u Q I rx ry h
  obtain ⟨i, j, rfl, rfl, q⟩ := h
  obtain ⟨t, rfl⟩ := rx
  obtain ⟨t', rfl⟩ := ry
  exact rule i j t t' s _ _ ⟨.int (g i j), H, I.tok _, ⟨_, rfl⟩, q⟩
theorem opB0 {f : Value → Value → Sem Value} {g : Int → Int → Bool}
    (rule : ∀ (i j : Int) (t u : Tok) (s : Shared) (Q : Value → Shared → Prop) (E : Value → Shared → Prop), Q (.bool (g i j)) s → wpAny (model X.prog X.w) X.A (f (.int i t) (.int j u)) Q E s) :
    OpR X f (rI0 fun i j => .bl (g i j)) := by
  intro pins s σ H x y v u Q I rx ry h
  obtain ⟨i, j, rfl, rfl, q⟩ := h
  obtain ⟨t, rfl⟩ := rx
  obtain ⟨t', rfl⟩ := ry
  exact rule i j t t' s _ _ ⟨.bl (g i j), H, I, rfl, q⟩

def CDiv (i j : Int) : Prop := 0 < j ∧ j < 1073741824
def CMul (i j : Int) : Prop := (-(2 ^ 64) < i ∧ i < 2 ^ 64) ∨ (-(2 ^ 64) < j ∧ j < 2 ^ 64)
theorem CMul.ok {i j : Int} (h : CMul i j) : IntMulOk i j := by
  rcases h with ⟨h1, h2⟩ | ⟨h1, h2⟩
  · exact .of_left (intBits_le_64 h1 h2)
  · exact .of_right (intBits_le_64 h1 h2)
theorem two_pow_nn (k : Nat) : (0 : Int) ≤ 2 ^ k := by
  rw [two_pow_cast]
  exact Int.natCast_nonneg _

theorem op_add : OpR X (binaryOp .Add) (rI0 fun i j => .int (i + j)) := opI0 fun _ _ _ _ _ _ _ q => add_int q
theorem op_sub : OpR X (binaryOp .Sub) (rI0 fun i j => .int (i - j)) := opI0 fun _ _ _ _ _ _ _ q => sub_int q
theorem op_mul : OpR X (binaryOp .Mult) (rI CMul fun i j => .int (i * j)) := opI fun _ _ _ _ _ _ _ hc q => mul_int q hc.ok
theorem op_fdiv : OpR X (binaryOp .FloorDiv) (rI CDiv fun i j => .int (i / j)) := opI fun i j _ _ _ _ _ hc q => by
  have h1 : (0 : Int) < j := hc.1
  have h2 : j < 1073741824 := hc.2
  exact floordiv_int (by omega) (by rw [Int.fdiv_eq_ediv_of_nonneg i (by omega)]; exact q) (.inl (PyProof.noPylong_small (by omega)))
theorem op_mod : OpR X (binaryOp .Mod) (rI (fun _ j => 0 < j) fun i j => .int (i % j)) := opI fun i j _ _ _ _ _ hc q => by
  have h1 : (0 : Int) < j := hc
  exact mod_int' (by omega) (by rw [Int.fmod_eq_emod_of_nonneg i (by omega)]; exact q)
theorem op_shr : OpR X (binaryOp .RShift) (rI (fun _ j => 0 ≤ j) fun i j => .int (i / 2 ^ j.toNat)) := opI fun i j _ _ _ _ _ hc q =>
  rshift_int hc (by rw [Int.fdiv_eq_ediv_of_nonneg i (two_pow_nn _)]; exact q)
theorem op_and : OpR X (binaryOp .BitAnd) (rI0 fun i j => .int (Builtin.bitAnd i j)) := opI0 fun _ _ _ _ _ _ _ q => and_int q
theorem unI {f : Value → Sem Value} {g : Int → Int}
    (rule : ∀ (i : Int) (t : Tok) (s : Shared) (Q : Value → Shared → Prop) (E : Value → Shared → Prop), Q (.int (g i) s.toks) { s with toks := s.toks + 1 } → wpAny (model X.prog X.w) X.A (f (.int i t)) Q E s) :
    UnR X f (rU fun i => .int (g i)) := by
  intro pins s σ H x v Q I rx h
  obtain ⟨i, rfl, q⟩ := h
  obtain ⟨t, rfl⟩ := rx
  exact rule i t s _ _ ⟨.int (g i), H, I.tok _, ⟨_, rfl⟩, q⟩
theorem un_neg : UnR X (unaryOp .USub) (rU fun i => .int (-i)) := unI fun _ _ _ _ _ q => neg_int q
end

def scal : V → V → Bool
  | .non, .non => true | .non, .int _ => true | .int _, .non => true | .non, .bl _ => true | .bl _, .non => true | .non, .str _ => true | .str _, .non => true
  | .int _, .int _ => true | .bl _, .bl _ => true | .str _, .str _ => true | .byt _, .byt _ => true
  | .int _, .str _ => true | .str _, .int _ => true | .bl _, .str _ => true | .str _, .bl _ => true
  | _, _ => false
def rEq : R2 := fun x y H Q => scal x y = true ∧ Q (.bl (decide (x = y))) H
def rNe : R2 := fun x y H Q => scal x y = true ∧ Q (.bl (!decide (x = y))) H

theorem dec_int {i j : Int} : decide (V.int i = V.int j) = (i == j) := by
  rw [Bool.eq_iff_iff]
  simp
theorem dec_bl {i j : Bool} : decide (V.bl i = V.bl j) = (i == j) := by
  rw [Bool.eq_iff_iff]
  simp
theorem dec_str {i j : Str} : decide (V.str i = V.str j) = (i == j) := by
  rw [Bool.eq_iff_iff]
  simp
theorem dec_byt {i j : Array UInt8} : decide (V.byt i = V.byt j) = (i.toList == j.toList) := by
  rw [Bool.eq_iff_iff]
  cases i
  cases j
  simp

section
variable {X : Cx} {a b c : Expr} {ta tb tc : TE} {pos : Pos}
theorem fin_bl {pins : List (Addr × Obj)} {σ : St} {H : Hp} {s : Shared} {Q : VK} {k k' : Bool} (I : Inv X pins σ H s) (q : Q (.bl k) H) (e : k = k') : EP X pins σ Q (.bool k') s := by
  subst e
  exact ⟨.bl k, H, I, rfl, q⟩
theorem op_eq : OpR X (compareOp .Eq) rEq := by
  intro pins s σ H x y v u Q I rx ry h
  obtain ⟨hs, q⟩ := h
  cases x with
  | non =>
    cases rx
    cases y with
    | non => cases ry; exact PySem.EqNone.eq_none_none (fin_bl I q (by simp))
    | bl j => cases ry; exact PySem.EqNone.eq_none_bool (fin_bl I q (by simp))
    | int j => obtain ⟨t', rfl⟩ := ry; exact PySem.EqNone.eq_none_int (fin_bl I q (by simp))
    | str j => obtain ⟨t', rfl⟩ := ry; exact PySem.EqNone.eq_none_str (fin_bl I q (by simp))
    | _ => exact absurd (show false = true from hs) Bool.false_ne_true
  | bl i =>
    cases rx
    cases y with
    | non => cases ry; exact PySem.EqNone.eq_bool_none (fin_bl I q (by simp))
    | bl j => cases ry; exact eq_bool (fin_bl I q dec_bl)
    | str j => obtain ⟨t', rfl⟩ := ry; exact PySem.EqMixed.eq_bool_str (fin_bl I q (by simp))
    | _ => exact absurd (show false = true from hs) Bool.false_ne_true
  | int i =>
    obtain ⟨t, rfl⟩ := rx
    cases y with
    | non => cases ry; exact PySem.EqNone.eq_int_none (fin_bl I q (by simp))
    | int j => obtain ⟨t', rfl⟩ := ry; exact eq_int (fin_bl I q dec_int)
    | str j => obtain ⟨t', rfl⟩ := ry; exact PySem.EqMixed.eq_int_str (fin_bl I q (by simp))
    | _ => exact absurd (show false = true from hs) Bool.false_ne_true
  | str i =>
    obtain ⟨t, rfl⟩ := rx
    cases y with
    | non => cases ry; exact PySem.EqNone.eq_str_none (fin_bl I q (by simp))
    | bl j => cases ry; exact PySem.EqMixed.eq_str_bool (fin_bl I q (by simp))
    | int j => obtain ⟨t', rfl⟩ := ry; exact PySem.EqMixed.eq_str_int (fin_bl I q (by simp))
    | str j => obtain ⟨t', rfl⟩ := ry; exact eq_str (fin_bl I q dec_str)
    | _ => exact absurd (show false = true from hs) Bool.false_ne_true
  | byt i =>
    obtain ⟨t, rfl⟩ := rx
    cases y with
    | byt j => obtain ⟨t', rfl⟩ := ry; exact PySem.W.eq_bytes (fin_bl I q dec_byt)
    | _ => exact absurd (show false = true from hs) Bool.false_ne_true
  | _ => cases y <;> exact absurd (show false = true from hs) Bool.false_ne_true
theorem op_ne : OpR X (compareOp .NotEq) rNe := by
  intro pins s σ H x y v u Q I rx ry h
  obtain ⟨hs, q⟩ := h
  cases x with
  | non =>
    cases rx
    cases y with
    | non => cases ry; exact PySem.EqNone.ne_none_none (fin_bl I q (by simp))
    | bl j => cases ry; exact PySem.EqNone.ne_none_bool (fin_bl I q (by simp))
    | int j => obtain ⟨t', rfl⟩ := ry; exact PySem.EqNone.ne_none_int (fin_bl I q (by simp))
    | str j => obtain ⟨t', rfl⟩ := ry; exact PySem.EqNone.ne_none_str (fin_bl I q (by simp))
    | _ => exact absurd (show false = true from hs) Bool.false_ne_true
  | bl i =>
    cases rx
    cases y with
    | non => cases ry; exact PySem.EqNone.ne_bool_none (fin_bl I q (by simp))
    | bl j => cases ry; exact ne_bool (fin_bl I q (congrArg not dec_bl))
    | str j => obtain ⟨t', rfl⟩ := ry; exact PySem.EqMixed.ne_bool_str (fin_bl I q (by simp))
    | _ => exact absurd (show false = true from hs) Bool.false_ne_true
  | int i =>
    obtain ⟨t, rfl⟩ := rx
    cases y with
    | non => cases ry; exact PySem.EqNone.ne_int_none (fin_bl I q (by simp))
    | int j => obtain ⟨t', rfl⟩ := ry; exact ne_int (fin_bl I q (congrArg not dec_int))
    | str j => obtain ⟨t', rfl⟩ := ry; exact PySem.EqMixed.ne_int_str (fin_bl I q (by simp))
    | _ => exact absurd (show false = true from hs) Bool.false_ne_true
  | str i =>
    obtain ⟨t, rfl⟩ := rx
    cases y with
    | non => cases ry; exact PySem.EqNone.ne_str_none (fin_bl I q (by simp))
    | bl j => cases ry; exact PySem.EqMixed.ne_str_bool (fin_bl I q (by simp))
    | int j => obtain ⟨t', rfl⟩ := ry; exact PySem.EqMixed.ne_str_int (fin_bl I q (by simp))
    | str j => obtain ⟨t', rfl⟩ := ry; exact ne_str (fin_bl I q (congrArg not dec_str))
    | _ => exact absurd (show false = true from hs) Bool.false_ne_true
  | byt i =>
    obtain ⟨t, rfl⟩ := rx
    cases y with
    | byt j => obtain ⟨t', rfl⟩ := ry; exact PySem.W.ne_bytes (fin_bl I q (congrArg not dec_byt))
    | _ => exact absurd (show false = true from hs) Bool.false_ne_true
  | _ => cases y <;> exact absurd (show false = true from hs) Bool.false_ne_true

theorem op_lt : OpR X (compareOp .Lt) (rI0 fun i j => .bl (decide (i < j))) := opB0 fun _ _ _ _ _ _ _ q => lt_int q
theorem op_le : OpR X (compareOp .LtE) (rI0 fun i j => .bl (decide (i ≤ j))) := opB0 fun _ _ _ _ _ _ _ q => le_int q
theorem op_gt : OpR X (compareOp .Gt) (rI0 fun i j => .bl (decide (j < i))) := opB0 fun _ _ _ _ _ _ _ q => gt_int q
theorem op_lt_str : OpR X (compareOp .Lt) (fun x y H Q => ∃ i j, x = .str i ∧ y = .str j ∧ Q (.bl (decide (i.cps.toList < j.cps.toList))) H) := by
  intro pins s σ H x y v u Q I rx ry h
  obtain ⟨i, j, rfl, rfl, q⟩ := h
  obtain ⟨t, rfl⟩ := rx
  obtain ⟨t', rfl⟩ := ry
  exact lt_str (fin_bl I q rfl)
theorem op_in_str : OpR X (compareOp .In) (fun x y H Q => ∃ i j, x = .str i ∧ y = .str j ∧ Q (.bl (!(Builtin.Str.occurrences j i 0 j.length 1).isEmpty)) H) := by
  intro pins s σ H x y v u Q I rx ry h
  obtain ⟨i, j, rfl, rfl, q⟩ := h
  obtain ⟨t, rfl⟩ := rx
  obtain ⟨t', rfl⟩ := ry
  exact in_str (fin_bl I q rfl)

theorem op_isN : OpR X (compareOp .Is) (fun x y H Q => y = .non ∧ Q (.bl (decide (x = .non))) H) := by
  intro pins s σ H x y v u Q I rx ry h
  obtain ⟨rfl, q⟩ := h
  cases ry
  refine is_none_gen (fin_bl I q ?_)
  cases x <;> first
    | (cases rx; rfl)
    | (obtain ⟨t, rfl⟩ := rx; rfl)
theorem OpR.or {f : Value → Value → Sem Value} {r r' : R2} (h : OpR X f r) (h' : OpR X f r') : OpR X f (fun x y H Q => r x y H Q ∨ r' x y H Q) := by
  intro pins s σ H x y v u Q I rx ry q
  rcases q with q | q
  · exact h pins s σ H x y v u Q I rx ry q
  · exact h' pins s σ H x y v u Q I rx ry q

theorem nomark (b : Expr) {op : CmpOp} (h : op ≠ .In := by decide) (h2 : op ≠ .NotIn := by decide) : behindInMarks op b = false := by
  have e1 : (op == CmpOp.In) = false := by cases op <;> first | rfl | exact absurd rfl h
  have e2 : (op == CmpOp.NotIn) = false := by cases op <;> first | rfl | exact absurd rfl h2
  cases b <;> simp [behindInMarks, e1, e2]
theorem pe_cmpR {op : CmpOp} {r : R2} (ho : OpR X (compareOp op) r) (ha : PE X a ta) (hb : PE X b tb) (hm : behindInMarks op b = false) : PE X (.Compare a [op] [b] pos) (tOp r ta tb) := by
  intro pins s σ H Q I h
  exact wpAny_Compare1 (binT ha hb I h fun v u s2 x y H2 I2 rx ry q => ho pins s2 σ H2 x y v u Q I2 rx ry q) hm
def tTest (t : TE) : TT := fun σ H Q => t σ H fun x H' => ∃ k, x = .bl k ∧ Q k H'
theorem pt_cmpR {op : CmpOp} {r : R2} (ho : OpR X (compareOp op) r) (ha : PE X a ta) (hb : PE X b tb) (hm : behindInMarks op b = false) : PT X (.Compare a [op] [b] pos) (tTest (tOp r ta tb)) := by
  intro pins s σ H Q I h
  refine wpAny_isTrue_Compare1 (thn (ha pins s σ H _ I h) fun v s1 ⟨x, H1, I1, r1, q1⟩ => thn (hb pins s1 σ H1 _ I1 q1) fun u s2 ⟨y, H2, I2, r2, q2⟩ =>
    thn (ho pins s2 σ H2 x y v u _ I2 r1 r2 q2) fun c s3 ⟨z, H3, I3, r3, k, e, q3⟩ => ?_) hm
  subst e
  cases r3
  exact wpAny_truthy_bool ⟨H3, I3, q3⟩
def TruV (K : PySem.W.Frag) (x : V) (H : Hp) (k : Bool) : Prop :=
  match x with
  | .non => k = false
  | .bl b => k = b
  | .int i => k = (i != 0)
  | .str y => y.length ≤ sizeLine ∧ k = ((y.length : Int) != 0)
  | .byt y => y.size ≤ sizeLine ∧ k = ((y.size : Int) != 0)
  | .ref p => (∃ xs, SqL K H p xs ∧ k = !xs.isEmpty) ∨ (∃ xs, SqT K H p xs ∧ k = !xs.isEmpty) ∨ ∃ kvs, H p = some (.dK kvs) ∧ k = !kvs.isEmpty
  | _ => False
theorem isEmpty_kv {κ : Type} {kvs : List (κ × V)} {vs : List (κ × Value)} (r : KV kvs vs) : (!vs.isEmpty) = !kvs.isEmpty := by
  cases r <;> rfl
theorem isEmpty_of {xs : List V} {its : List Value} (r : Vals xs its) : (!its.toArray.isEmpty) = !xs.isEmpty := by
  cases r <;> simp
theorem line63 : (sizeLine : Nat) < 2 ^ 63 := by rw [sizeLine_eq]; decide
theorem tru_ok : TruR X (fun x H Q => ∃ k, TruV X.K x H k ∧ Q k H) := by
  intro pins s σ H x v Q I rx h
  obtain ⟨k, e, q⟩ := h
  have hl := line63
  have hs : sizeLine = 16777216 := sizeLine_eq
  cases x with
  | non =>
    cases rx
    have e' : k = false := e
    subst e'
    exact truthy_none ⟨H, I, q⟩
  | bl b =>
    cases rx
    have e' : k = b := e
    subst e'
    exact wpAny_truthy_bool ⟨H, I, q⟩
  | int i =>
    obtain ⟨t, rfl⟩ := rx
    have e' : k = (i != 0) := e
    subst e'
    exact PySem.P.truthy_int ⟨H, I, q⟩
  | str y =>
    obtain ⟨t, rfl⟩ := rx
    obtain ⟨hy, e'⟩ : y.length ≤ sizeLine ∧ k = ((y.length : Int) != 0) := e
    subst e'
    exact PySem.P.truthy_str (by omega) ⟨H, I.tok _, q⟩
  | byt y =>
    obtain ⟨t, rfl⟩ := rx
    obtain ⟨hy, e'⟩ : y.size ≤ sizeLine ∧ k = ((y.size : Int) != 0) := e
    subst e'
    exact PySem.W.truthy_bytes (by omega) ⟨H, I.tok _, q⟩
  | ref p =>
    cases rx
    have e' : (∃ xs, SqL X.K H p xs ∧ k = !xs.isEmpty) ∨ (∃ xs, SqT X.K H p xs ∧ k = !xs.isEmpty) ∨ ∃ kvs, H p = some (.dK kvs) ∧ k = !kvs.isEmpty := e
    rcases e' with ⟨xs, hx, e'⟩ | ⟨xs, hx, e'⟩ | ⟨kvs, hx, e'⟩
    · subst e'
      obtain ⟨its, r, pl, hz⟩ := I.list hx
      have hlen := r.length
      exact wpAny_truthy_list pl.isList (by simp only [List.size_toArray]; omega) ⟨H, I.tok _, by rw [isEmpty_of r]; exact q⟩
    · subst e'
      obtain ⟨its, r, pl, hz⟩ := I.tuple hx
      have hlen := r.length
      exact truthy_tuple pl (by simp only [List.size_toArray]; omega) ⟨H, I.tok _, by rw [isEmpty_of r]; exact q⟩
    · subst e'
      obtain ⟨hz, hS, vs, r, m⟩ : kvs.length ≤ sizeLine ∧ (p == sysModules) = false ∧ ∃ vs, KV kvs vs ∧ s.heap.DictOf (mixKind X.prog X.w) p vs := I.hok p _ hx
      have hlen : kvs.length = vs.length := Paired.length r
      exact wpAny_truthy_dict hS m (by omega) ⟨H, I.tok _, by rw [isEmpty_kv r]; exact q⟩
  | _ => exact (show False from e).elim
theorem pt_truth (ha : PE X a ta) (he : ∀ whole, isTrue a X.env whole = (do let v ← whole; standAt a.pos; holding [v] (truthy v))) :
    PT X a (fun σ H Q => ta σ H fun x H' => ∃ k, TruV X.K x H' k ∧ Q k H') := by
  intro pins s σ H Q I h
  exact isTrue_plain (thn (ha pins s σ H _ I h) fun v s1 ⟨x, H1, I1, r1, q1⟩ => tru_ok pins s1 σ H1 x v Q I1 r1 q1) (he _)

theorem op_add_str : OpR X (binaryOp .Add) (fun x y H Q => ∃ i j, x = .str i ∧ y = .str j ∧ i.length + j.length ≤ sizeLine ∧ Q (.str (i ++ j)) H) := by
  intro pins s σ H x y v u Q I rx ry h
  obtain ⟨i, j, rfl, rfl, hz, q⟩ := h
  obtain ⟨t, rfl⟩ := rx
  obtain ⟨t', rfl⟩ := ry
  exact add_str (fun t' tk => ⟨.str (i ++ j), H, I.tok _, ⟨_, rfl⟩, q⟩) hz
theorem vals1 {x : V} {us : List Value} (r : Vals [x] us) : ∃ u, us = [u] ∧ RelV x u := by
  cases r with
  | cons r1 r2 => cases r2; exact ⟨_, rfl, r1⟩
theorem vals2 {x y : V} {us : List Value} (r : Vals [x, y] us) : ∃ u w', us = [u, w'] ∧ RelV x u ∧ RelV y w' := by
  cases r with
  | cons r1 r2 =>
    cases r2 with
    | cons r3 r4 => cases r4; exact ⟨_, _, rfl, r1, r3⟩
theorem call_int1 : CallR X (.type "int") (fun xs H Q => (∃ i, xs = [.int i] ∧ Q (.int i) H) ∨ ∃ k, xs = [.bl k] ∧ Q (.int (if k then 1 else 0)) H) := by
  intro pins s σ H xs us Q I r h
  rcases h with ⟨i, rfl, q⟩ | ⟨k, rfl, q⟩
  · obtain ⟨u, rfl, t, rfl⟩ := vals1 r
    exact call_int_int ⟨.int i, H, I, ⟨_, rfl⟩, q⟩
  · obtain ⟨u, rfl, r1⟩ := vals1 r
    cases r1
    exact call_int_bool ⟨.int (if k then 1 else 0), H, I.tok _, ⟨_, rfl⟩, q⟩
def LenV (K : PySem.W.Frag) (x : V) (H : Hp) (n : Nat) : Prop :=
  match x with
  | .str y => y.length ≤ sizeLine ∧ n = y.length
  | .byt y => y.size ≤ sizeLine ∧ n = y.size
  | .ref p => (∃ xs, SqL K H p xs ∧ n = xs.length) ∨ ∃ xs, SqT K H p xs ∧ n = xs.length
  | _ => False
theorem call_len : CallR X (.builtin "len") (fun xs H Q => ∃ x n, xs = [x] ∧ LenV X.K x H n ∧ Q (.int n) H) := by
  intro pins s σ H xs us Q I r h
  obtain ⟨x, n, rfl, e, q⟩ := h
  obtain ⟨u, rfl, rx⟩ := vals1 r
  have hl := line63
  have hs : sizeLine = 16777216 := sizeLine_eq
  cases x with
  | str y =>
    obtain ⟨t, rfl⟩ := rx
    obtain ⟨hy, e'⟩ : y.length ≤ sizeLine ∧ n = y.length := e
    subst e'
    exact len_str (by omega) ⟨.int _, H, I.tok _, ⟨_, rfl⟩, q⟩
  | byt y =>
    obtain ⟨t, rfl⟩ := rx
    obtain ⟨hy, e'⟩ : y.size ≤ sizeLine ∧ n = y.size := e
    subst e'
    exact PySem.W.len_bytes (by omega) ⟨.int _, H, I.tok _, ⟨_, rfl⟩, q⟩
  | ref p =>
    cases rx
    have e' : (∃ xs, SqL X.K H p xs ∧ n = xs.length) ∨ ∃ xs, SqT X.K H p xs ∧ n = xs.length := e
    rcases e' with ⟨xs, hx, e'⟩ | ⟨xs, hx, e'⟩
    · subst e'
      obtain ⟨its, r', pl, hz⟩ := I.list hx
      have hlen := r'.length
      exact Calls.call_len_list pl.isList (by simp only [List.size_toArray]; omega) ⟨.int xs.length, H, I.tok _, ⟨_, by simp only [List.size_toArray]; rw [hlen]⟩, q⟩
    · subst e'
      obtain ⟨its, r', pl, hz⟩ := I.tuple hx
      have hlen := r'.length
      exact len_tuple pl (by simp only [List.size_toArray]; omega) ⟨.int xs.length, H, I.tok _, ⟨_, by simp only [List.size_toArray]; rw [hlen]⟩, q⟩
  | _ => exact (show False from e).elim
end
end L2

namespace L2
open PySem PySem.Spec PyProof.Rows

structure ObjM (h : Heap) (x dx C : Addr) (mA : Str → Option Value) : Prop where
  obj : h.get? x = some (PySem.W.instObj C dx)
  ns : h.Ns1 dx mA
  ne : dx ≠ x

theorem lookIn_ns {h : Heap} {dx : Addr} {mA : Str → Option Value} (n : h.Ns1 dx mA) : ∃ od, h.get? dx = some od ∧ ∀ name, PySem.W.lookIn name od = some (mA name) := by
  obtain ⟨o, es, ep, ho, hd, hk, _, hm⟩ := n
  refine ⟨o, ho, fun name => ?_⟩
  have e := hm name
  unfold nsFind findBy at e
  rw [← Array.find?_toList] at e
  unfold PySem.W.lookIn
  rw [hd]
  dsimp only
  split
  · rename_i y q
    rw [q] at e
    exact congrArg some e
  · rename_i q
    rw [q] at e
    have a : es.toList.any (·.refKey) = false := by
      rw [List.any_eq_false]
      intro y hy
      obtain ⟨z, t, hkey⟩ := hk y (Array.mem_toList_iff.mp hy)
      simp [DictEntry.refKey, hkey]
    have a' : ¬ es.toList.any (·.refKey) = true := by rw [a]; exact Bool.false_ne_true
    rw [if_neg a']
    exact congrArg some e

theorem ObjM.look {h : Heap} {x dx C : Addr} {mA : Str → Option Value} (I : ObjM h x dx C mA) : ∃ od, PySem.W.InstAt h x (PySem.W.instObj C dx) C (some od) ∧ ∀ name, PySem.W.lookIn name od = some (mA name) :=
  let ⟨od, ho, hl⟩ := lookIn_ns I.ns
  ⟨od, ⟨I.obj, rfl, rfl, ho⟩, hl⟩

section
variable {prog : Program} {w : World} {A : Around} {E : Value → Shared → Prop} {s : Shared} {K : PySem.W.Frag} {x dx C f : Addr} {mA : Str → Option Value} {name : Str} {v : Value}

theorem get_map {expr : Bool} {Q : Value → Shared → Prop} (X : K.In s.heap) (I : ObjM s.heap x dx C mA) (hg : PySem.W.plainGet K C name = true) (hh : PySem.W.hasDictIn K C = true)
    (ha : PySem.W.findIn K (.ref C) name = some none) (hv : mA name = some v) (hv' : PySem.W.handedIn v = true) (h : Q v { s with toks := s.toks + 1 }) :
    wpAny (model prog w) A (getAttr (.ref x) name expr) Q E s := by
  obtain ⟨od, J, hl⟩ := I.look
  exact PySem.W.get_value X J (PySem.W.plainGet_of hg).1 (PySem.W.findObj_own hh ha rfl (by rw [hl, hv])) hv' h

theorem get_meth {pl : Sem Bool} {Q : Value × List Value → Shared → Prop} (X : K.In s.heap) (I : ObjM s.heap x dx C mA) (hg : PySem.W.plainGet K C name = true)
    (hf : PySem.W.findIn K (.ref C) name = some (some (.ref f))) (ht : PySem.W.isFn K (.ref f) = true) (hv : mA name = none) (h : Q (.ref f, [.ref x]) s) :
    wpAny (model prog w) A (getMethod (.ref x) name pl) Q E s := by
  obtain ⟨od, J, hl⟩ := I.look
  exact PySem.W.method_fn X J (PySem.W.plainGet_of hg).1 (PySem.W.plainGet_of hg).2 hf (beq_iff_eq.mp ht) (by show (PySem.W.lookIn name od).map (·.isSome) = some false; rw [hl, hv]; rfl) h

theorem set_map {ns : List Str} {Q : Unit → Shared → Prop} (X : K.In s.heap) (I : ObjM s.heap x dx C mA)
    (hs : PySem.W.findIn K (.ref C) "__setattr__" = some (some (.builtin "object.__setattr__"))) (hp : PySem.W.plainOver K C = true) (ht : PySem.W.takerIn K C name = some none) (hh : PySem.W.hasDictIn K C = true)
    (hw : PySem.Within mA ns) (hsz : ns.length ≤ sizeLine)
    (h : ∀ h', ObjM h' x dx C (fun y => if y = name then some v else mA y) → Heap.SameBut dx s.heap h' → Q () { s with heap := h', toks := s.toks + 2 }) :
    wpAny (model prog w) A (setAttr (.ref x) name v) Q E s := by
  obtain ⟨od, J, hl⟩ := I.look
  refine PySem.W.set_plain X J hs (PySem.W.osa_open (s := { s with toks := s.toks + 1 }) (r := none) X J hp ht fun b => ?_)
  obtain ⟨cd, hc, hd'⟩ := PySem.W.any_some hh
  have hx : s.heap.get? x = some ⟨.ref C, some dx, .plain, #[]⟩ := I.obj
  refine wpAny_bind (wpAny_pure (wpAny_bind (wpAny_bind (wpAny_loadPart hx (wpAny_bind (PySem.W.Looks.here (s := { s with toks := s.toks + 1 }) (PySem.W.looks_clsIn X hc) ?_))))))
  rw [hd']
  refine wpAny_pure (a := some dx) (wpAny_bind (wpAny_pure (wpAny_bind ?_)))
  refine wpAny_nsSet1 (s := { s with toks := s.toks + 1 }) I.ns fun h' hn2 hs2 => ?_
  obtain ⟨oD, esD, epD, hoD, hdD, hcD⟩ := hn2.count (PySem.Within.cons name v hw)
  refine wpAny_bind (wpAny_lookBehind hoD (by rw [hdD]; exact pastItsLine_dict (Nat.le_trans hcD (by rw [List.length_cons]; omega))) ?_)
  exact wpAny_pure (h _ ⟨(hs2.2 _ (Ne.symm I.ne)).trans I.obj, hn2, I.ne⟩ hs2)

theorem make_map {R : Result → Shared → Prop} {vs : List Value} {kw : List (Str × Value)} (X : K.In s.heap) (hm : PySem.W.makesIn K C = true)
    (hi : PySem.W.findIn K (.ref C) "__init__" = some (some (.ref f))) (hf : PySem.W.typeIn K (.ref f) = some (.type "function"))
    (h : codeAny (model prog w) (A.under (.builtin "type.__call__" ⟨.ref C :: vs, kw⟩)) (.call (.ref f) ⟨.ref (s.heap.objs.size + 1) :: vs, kw⟩) (PySem.W.InitBack (s.heap.objs.size + 1) R)
      { s with heap := (s.heap.push PySem.W.emptyDict).push (PySem.W.instObj C s.heap.objs.size) }) :
    codeAny (model prog w) A (.call (.ref C) ⟨vs, kw⟩) R s := by
  obtain ⟨hh, g, d, t, os⟩ := s
  exact PySem.W.make_core (PySem.W.makes_of X hm) (PySem.W.looks_findIn X hi) (fun self => PySem.W.bind_fn X self hf) (.inl rfl) h
theorem make_map0 {R : Result → Shared → Prop} (X : K.In s.heap) (hm : PySem.W.makesIn K C = true)
    (hi : PySem.W.findIn K (.ref C) "__init__" = some (some (.builtin "object.__init__")))
    (hb : ∀ self, PySem.W.Looks (model prog w) s.heap (bindSpecial (.builtin "object.__init__") self) (.builtin "object.__init__", [self]))
    (h : codeAny (model prog w) (A.under (.builtin "type.__call__" ⟨[.ref C], []⟩)) (.call (.builtin "object.__init__") ⟨[.ref (s.heap.objs.size + 1)], []⟩) (PySem.W.InitBack (s.heap.objs.size + 1) R)
      { s with heap := (s.heap.push PySem.W.emptyDict).push (PySem.W.instObj C s.heap.objs.size) }) :
    codeAny (model prog w) A (.call (.ref C) ⟨[], []⟩) R s := by
  obtain ⟨hh, g, d, t, os⟩ := s
  exact PySem.W.make_core (PySem.W.makes_of X hm) (PySem.W.looks_findIn X hi) hb (.inr ⟨rfl, rfl⟩) h
end

def putF (f : Str) (v : V) : List (Str × V) → List (Str × V)
  | [] => [(f, v)]
  | (g, x) :: r => if g = f then (g, v) :: r else (g, x) :: putF f v r
theorem lookup_putF (f g : Str) (v : V) : ∀ fs : List (Str × V), (putF f v fs).lookup g = if g = f then some v else fs.lookup g
  | [] => by
    show List.lookup g [(f, v)] = _
    by_cases h : g = f
    · have hb : (g == f) = true := beq_iff_eq.mpr h
      simp only [List.lookup, hb, if_pos h]
    · have hb : (g == f) = false := beq_eq_false_iff_ne.mpr h
      simp only [List.lookup, hb, if_neg h]
  | (k, x) :: r => by
    have ih := lookup_putF f g v r
    rw [show putF f v ((k, x) :: r) = (if k = f then (k, v) :: r else (k, x) :: putF f v r) from rfl]
    by_cases hk : k = f
    · rw [if_pos hk]
      by_cases h : g = k
      · have hb : (g == k) = true := beq_iff_eq.mpr h
        simp only [List.lookup, hb, if_pos (h.trans hk)]
      · have hb : (g == k) = false := beq_eq_false_iff_ne.mpr h
        simp only [List.lookup, hb, if_neg (fun e : g = f => h (e.trans hk.symm))]
    · rw [if_neg hk]
      by_cases h : g = k
      · have hb : (g == k) = true := beq_iff_eq.mpr h
        simp only [List.lookup, hb, if_neg (fun e : g = f => hk (h.symm.trans e))]
      · have hb : (g == k) = false := beq_eq_false_iff_ne.mpr h
        simp only [List.lookup, hb]
        exact ih
theorem keys_putF (f : Str) (v : V) : ∀ fs : List (Str × V), f ∈ (putF f v fs).map (·.1) ∧ ∀ g, g ∈ fs.map (·.1) → g ∈ (putF f v fs).map (·.1)
  | [] => ⟨by simp [putF], fun g h => by simp at h⟩
  | (k, x) :: r => by
    obtain ⟨i1, i2⟩ := keys_putF f v r
    rw [show putF f v ((k, x) :: r) = (if k = f then (k, v) :: r else (k, x) :: putF f v r) from rfl]
    by_cases hk : k = f
    · rw [if_pos hk]
      subst hk
      exact ⟨by simp, fun g h => by simpa using h⟩
    · rw [if_neg hk]
      refine ⟨?_, fun g h => ?_⟩
      · rw [List.map_cons]
        exact List.mem_cons_of_mem _ i1
      · rw [List.map_cons] at h ⊢
        rcases List.mem_cons.mp h with e | e
        · exact List.mem_cons.mpr (.inl e)
        · exact List.mem_cons_of_mem _ (i2 g e)
theorem length_putF (f : Str) (v : V) : ∀ fs : List (Str × V), (putF f v fs).length ≤ fs.length + 1
  | [] => by simp [putF]
  | (k, x) :: r => by
    have ih := length_putF f v r
    rw [show putF f v ((k, x) :: r) = (if k = f then (k, v) :: r else (k, x) :: putF f v r) from rfl]
    by_cases hk : k = f
    · rw [if_pos hk, List.length_cons, List.length_cons]; omega
    · rw [if_neg hk, List.length_cons, List.length_cons]; omega

theorem RelO.some_of {v : V} {o : Option Value} (r : RelO (some v) o) : ∃ u, o = some u ∧ RelV v u := by
  cases o with
  | none => exact (show False from r).elim
  | some u => exact ⟨u, rfl, r⟩
theorem RelO.none_of {o : Option Value} (r : RelO none o) : o = none := by
  cases o with
  | none => rfl
  | some u => exact (show False from r).elim
theorem handed_of {v : V} {u : Value} (r : RelV v u) : PySem.W.handedIn u = true := by
  cases v with
  | non => cases (show u = Value.none from r); rfl
  | bl b => cases (show u = Value.bool b from r); rfl
  | int i => obtain ⟨t, e⟩ := (show ∃ t, u = Value.int i t from r); cases e; rfl
  | str x => obtain ⟨t, e⟩ := (show ∃ t, u = Value.str x t from r); cases e; rfl
  | byt b => obtain ⟨t, e⟩ := (show ∃ t, u = Value.bytes b t from r); cases e; rfl
  | flt b => obtain ⟨t, e⟩ := (show ∃ t, u = Value.float b t from r); cases e; rfl
  | ref a => cases (show u = Value.ref a from r); rfl
  | ty n => cases (show u = Value.type n from r); rfl

section
variable {P : Program} {w : World} {H H' : Hp} {h h' : Heap} {a C dx : Addr} {fs fs' : List (Str × V)}
theorem ins_get (hok : HOk P w H h) (e : H a = some (.ins C dx fs)) : ∃ mA, ObjM h a dx C mA ∧ (∀ f, RelO (fs.lookup f) (mA f)) ∧ PySem.Within mA (fs.map (·.1)) ∧ fs.length ≤ 1000 ∧ H dx = some (.own a) := by
  obtain ⟨d, z, ne, ob, mA, n, r, q⟩ := (show ObjOk P w H h a (.ins C dx fs) from hok a _ e)
  exact ⟨mA, ⟨ob, n, ne⟩, r, q, z, d⟩
end

structure Cls (K : PySem.W.Frag) (C : Addr) : Prop where
  pg : PySem.W.plainGet K C Str.empty = true
  hd : PySem.W.hasDictIn K C = true
  po : PySem.W.plainOver K C = true
  sa : PySem.W.findIn K (.ref C) "__setattr__" = some (some (.builtin "object.__setattr__"))
theorem Cls.get {K : PySem.W.Frag} {C : Addr} (c : Cls K C) (f : Str) : PySem.W.plainGet K C f = true := c.pg
def NoAttr (K : PySem.W.Frag) (C : Addr) (f : Str) : Prop := PySem.W.findIn K (.ref C) f = some none
theorem NoAttr.taker {K : PySem.W.Frag} {C : Addr} {f : Str} (n : NoAttr K C f) : PySem.W.takerIn K C f = some none := by
  unfold PySem.W.takerIn
  rw [show PySem.W.findIn K (.ref C) f = some none from n]
  rfl
structure Con (K : PySem.W.Frag) (C : Addr) (f : Str) (v : V) (u : Value) : Prop where
  at_ : PySem.W.findIn K (.ref C) f = some (some u)
  rel : RelV v u
  get : PySem.W.specialIn K u "__get__" = some none
  cp : PySem.W.copiedNames.contains f = false
structure Meth (K : PySem.W.Frag) (C : Addr) (m : Str) (f : Addr) : Prop where
  at_ : PySem.W.findIn K (.ref C) m = some (some (.ref f))
  fn : PySem.W.isFn K (.ref f) = true
  kp : PySem.W.keepIn K (.ref f) = true

section
variable {X : Cx} {pins : List (Addr × Obj)} {σ : St} {H : Hp} {s : Shared} {a C dx : Addr} {fs : List (Str × V)} {f : Str} {v : V} {A : Around} {E : Value → Shared → Prop}

theorem getattr_ok {b : Bool} {Q : Value → Shared → Prop} (I : Inv X pins σ H s) (e : H a = some (.ins C dx fs)) (c : Cls X.K C) (n : NoAttr X.K C f) (l : fs.lookup f = some v)
    (h : ∀ u s', Inv X pins σ H s' → RelV v u → Q u s') : wpAny (model X.prog X.w) A (getAttr (.ref a) f b) Q E s := by
  obtain ⟨mA, O, r, _, _, _⟩ := ins_get I.hok e
  obtain ⟨u, hu, ru⟩ := RelO.some_of (v := v) (o := mA f) (by rw [← l]; exact r f)
  exact get_map I.kIn O (c.get f) c.hd n hu (handed_of ru) (h u _ (I.tok _) ru)

theorem getmeth_ok {m : Str} {g : Addr} {pl : Sem Bool} {Q : Value × List Value → Shared → Prop} (I : Inv X pins σ H s) (e : H a = some (.ins C dx fs)) (c : Cls X.K C) (k : Meth X.K C m g) (l : fs.lookup m = none)
    (h : Q (.ref g, [.ref a]) s) : wpAny (model X.prog X.w) A (getMethod (.ref a) m pl) Q E s := by
  obtain ⟨mA, O, r, _, _, _⟩ := ins_get I.hok e
  have hn : mA m = none := RelO.none_of (by rw [← l]; exact r m)
  exact get_meth I.kIn O (c.get m) k.at_ k.fn hn h

theorem setattr_ok {y : V} {u : Value} {Q : Unit → Shared → Prop} (I : Inv X pins σ H s) (e : H a = some (.ins C dx fs)) (c : Cls X.K C) (n : NoAttr X.K C f) (hl : fs.length < 1000) (ry : RelV y u)
    (h : ∀ s', Inv X pins σ (upd H a (.ins C dx (putF f y fs))) s' → Q () s') : wpAny (model X.prog X.w) A (setAttr (.ref a) f u) Q E s := by
  obtain ⟨mA, O, r, wi, _, ho⟩ := ins_get I.hok e
  have hz : (fs.map (·.1)).length ≤ sizeLine := by rw [List.length_map, sizeLine_eq]; omega
  refine set_map I.kIn O c.sa c.po n.taker c.hd wi hz fun h' O' sb => h _ ?_
  have hd : ∃ o, h'.get? dx = some o := let ⟨o, _, _, e', _⟩ := O'.ns; ⟨o, e'⟩
  refine I.write (x := a) (e := dx) (by rw [e]; exact True.intro) (.inr ho) (fun b q hb z => (sb.2 b hb).trans z) hd ?_
  refine ⟨by rw [upd_ne O.ne]; exact ho, ?_, O.ne, O'.obj, _, O'.ns, fun g => ?_, fun g hg => ?_⟩
  · have := length_putF f y fs; omega
  · show RelO ((putF f y fs).lookup g) (if g = f then some u else mA g)
    rw [lookup_putF]
    by_cases q : g = f
    · rw [if_pos q, if_pos q]; exact ry
    · rw [if_neg q, if_neg q]; exact r g
  · by_cases q : g = f
    · rw [q]; exact (keys_putF f y fs).1
    · refine (keys_putF f y fs).2 g (wi g fun z => hg ?_)
      show (if g = f then some u else mA g) = none
      rw [if_neg q]; exact z

theorem Inv.made (I : Inv X pins σ H s) : Inv X pins σ (upd (upd H s.heap.objs.size (.own (s.heap.objs.size + 1))) (s.heap.objs.size + 1) (.ins C s.heap.objs.size []))
    { s with heap := (s.heap.push PySem.W.emptyDict).push (PySem.W.instObj C s.heap.objs.size) } := by
  have e1 : (s.heap.push PySem.W.emptyDict).get? s.heap.objs.size = some PySem.W.emptyDict := Heap.get?_push_size s.heap rfl
  have e2 : ((s.heap.push PySem.W.emptyDict).push (PySem.W.instObj C s.heap.objs.size)).get? (s.heap.objs.size + 1) = some (PySem.W.instObj C s.heap.objs.size) := by
    have := Heap.get?_push_size (s.heap.push PySem.W.emptyDict) (o := PySem.W.instObj C s.heap.objs.size) rfl
    rwa [Heap.size_push] at this
  have e3 : (s.heap.push PySem.W.emptyDict).Ns s.heap.objs.size (fun _ => none) := ⟨PySem.W.emptyDict, #[], _, e1, rfl, (fun e he => absurd he (by simp)), fun _ => rfl⟩
  have I1 := I.laid (a := s.heap.objs.size) (o := .own (s.heap.objs.size + 1)) (h' := s.heap.push PySem.W.emptyDict) (t' := s.toks) (fun b u q => Heap.get?_push_of_some _ q) (Nat.le_refl _) ⟨_, e1⟩
  refine I1.laid (a := s.heap.objs.size + 1) (o := .ins C s.heap.objs.size []) (t' := s.toks) (fun b u q => Heap.get?_push_of_some _ q) (Nat.le_of_eq (Heap.size_push _ _)) ?_
  have ne : s.heap.objs.size ≠ s.heap.objs.size + 1 := Nat.ne_of_lt (Nat.lt_succ_self _)
  refine ⟨by rw [upd_ne ne, upd_same], Nat.zero_le _, ne, e2, fun _ => none, (Heap.Ns1.of_empty e3).at fun o q => Heap.get?_push_of_some _ q, fun _ => True.intro, fun y hy => absurd rfl hy⟩

theorem attr_of {prog : Program} {w : World} {env : Env} {e : Expr} {f : Str} {pos : Pos} {s : Shared} {Q : Value → Shared → Prop} (hb : attributeBase e f env (eval e env) = eval e env)
    (h : wpAny (model prog w) A (eval e env) (fun o s₁ => wpAny (model prog w) A (getAttr o f true) Q E s₁) E s) : wpAny (model prog w) A (eval (.Attribute e f pos) env) Q E s :=
  Attribute_any_ h (by rw [arm_eval_Attribute, hb])
end

def tFld (K : PySem.W.Frag) (ta : TE) (f : Str) : TE := fun σ H Q => ta σ H fun x H1 => ∃ a C dx fs v, x = .ref a ∧ H1 a = some (.ins C dx fs) ∧ Cls K C ∧ NoAttr K C f ∧ fs.lookup f = some v ∧ Q v H1
def sFld (K : PySem.W.Frag) (ta tv : TE) (f : Str) : TS := fun D σ H => tv σ H fun y H1 => ta σ H1 fun x H2 => ∃ a C dx fs, x = .ref a ∧ H2 a = some (.ins C dx fs) ∧ Cls K C ∧ NoAttr K C f ∧ fs.length < 1000 ∧
  D.nx σ (upd H2 a (.ins C dx (putF f y fs)))
section
variable {X : Cx} {o e value : Expr} {f : Str} {pos pos' tpos : Pos} {ta tv : TE}
theorem pe_fld (he : PE X e ta) (hb : attributeBase e f X.env (eval e X.env) = eval e X.env) : PE X (.Attribute e f pos) (tFld X.K ta f) := by
  intro pins s σ H Q I h
  refine attr_of hb (thn (he pins s σ H _ I h) fun u s1 ⟨x, H1, I1, rx, a, C, dx, fs, v, ex, ea, c, n, l, q⟩ => ?_)
  subst ex
  obtain rfl : u = Value.ref a := rx
  exact getattr_ok I1 ea c n l fun u' s2 I2 ru => ⟨v, H1, I2, ru, q⟩
theorem ps_fld (ha : PE X o ta) (hv : PE X value tv) (hs : swapsWith value (some (.Attribute o f pos')) pos.line X.env = pure false) : PS X (.Assign [.Attribute o f pos'] value pos) (sFld X.K ta tv f) := by
  intro pins s σ H D I h
  refine plainObj_wpAny_Assign_Attribute (thn (hv pins s σ H _ I h) fun u s1 ⟨y, H1, I1, ry, q⟩ => thn (ha pins s1 σ H1 _ I1 q) fun ov s2 ⟨x, H2, I2, rx, a, C, dx, fs, ex, ea, c, n, l, q2⟩ => ?_) hs
  subst ex
  obtain rfl : ov = Value.ref a := rx
  exact setattr_ok I2 ea c n l ry fun s3 I3 => ⟨σ, _, I3, q2⟩
end

section
variable {X : Cx} {pins : List (Addr × Obj)} {σ : St} {H : Hp} {s : Shared} {A : Around} {E : Value → Shared → Prop} {Q : Value → Shared → Prop} {c : Value} {b : Bool}
inductive TyOf (K : PySem.W.Frag) (H : Hp) : V → Value → Prop where
  | non : TyOf K H .non (.type "NoneType")
  | bl (x : Bool) : TyOf K H (.bl x) (.type "bool")
  | int (i : Int) : TyOf K H (.int i) (.type "int")
  | str (x : Str) : TyOf K H (.str x) (.type "str")
  | flt (x : UInt64) : TyOf K H (.flt x) (.type "float")
  | lst {a : Addr} {xs : List V} (e : H a = some (.lst xs)) : TyOf K H (.ref a) (.type "list")
  | frz {a : Addr} {o : Obj} {xs : List V} (e : H a = some (.frz o (.lst xs))) : TyOf K H (.ref a) (.type "list")
  | tup {a : Addr} {xs : List V} (e : H a = some (.tup xs)) : TyOf K H (.ref a) (.type "tuple")
  | dK {a : Addr} {kvs : List (Key × V)} (e : H a = some (.dK kvs)) : TyOf K H (.ref a) (.type "dict")
  | dT {a : Addr} {kvs : List (List Key × V)} (e : H a = some (.dT kvs)) : TyOf K H (.ref a) (.type "dict")
  | ins {a C dx : Addr} {fs : List (Str × V)} (e : H a = some (.ins C dx fs)) (cl : Cls K C) (ha : PySem.W.findIn K (.ref C) "__class__" = some (some (.builtin "object.__class__")))
      (hn : PySem.W.specialIn K (.builtin "object.__class__") "__get__" = some (some (.builtin "getset_descriptor.__get__"))) (htk : PySem.W.takesIn K (.builtin "object.__class__") = some true)
      (hm : PySem.W.mroIn K C (.type "object") = some true) : TyOf K H (.ref a) (.ref C)
theorem isinst_ok {x : V} {u t : Value} (I : Inv X pins σ H s) (rx : RelV x u) (ty : TyOf X.K H x t) (e : PySem.W.kitOne X.K t c = some b) (h : ∀ tk, Q (.bool b) { s with toks := tk }) :
    wpAny (model X.prog X.w) A (call (.builtin "isinstance") [u, c]) Q E s := by
  cases ty with
  | non => cases (show u = Value.none from rx); exact PySem.W.kia_one PySem.W.kitx_none I.kIn True.intro e (fun z => nomatch z) h
  | bl y => cases (show u = Value.bool y from rx); exact PySem.W.kia_one PySem.W.kitx_bool I.kIn True.intro e (fun z => nomatch z) h
  | int i => obtain ⟨t, q⟩ := (show ∃ t, u = Value.int i t from rx); cases q; exact PySem.W.kia_one PySem.W.kitx_int I.kIn True.intro e (fun z => nomatch z) h
  | str y => obtain ⟨t, q⟩ := (show ∃ t, u = Value.str y t from rx); cases q; exact PySem.W.kia_one PySem.W.kitx_str I.kIn True.intro e (fun z => nomatch z) h
  | flt y => obtain ⟨t, q⟩ := (show ∃ t, u = Value.float y t from rx); cases q; exact PySem.W.kia_one PySem.W.kitx_float I.kIn True.intro e (fun z => nomatch z) h
  | @lst a xs ea =>
    cases (show u = Value.ref a from rx)
    obtain ⟨_, _, n, _, h1⟩ := (show ObjOk X.prog X.w H s.heap a (.lst xs) from I.hok a _ ea)
    exact PySem.W.kia_one PySem.W.kitx_list I.kIn ⟨_, h1, rfl⟩ e (fun z => nomatch z) h
  | @frz a ob xs ea =>
    cases (show u = Value.ref a from rx)
    obtain ⟨_, _, _, n, _, h1⟩ := (show ObjOk X.prog X.w H s.heap a (.frz ob (.lst xs)) from I.hok a _ ea)
    exact PySem.W.kia_one PySem.W.kitx_list I.kIn ⟨_, h1, rfl⟩ e (fun z => nomatch z) h
  | @tup a xs ea =>
    cases (show u = Value.ref a from rx)
    obtain ⟨_, _, _, p⟩ := (show ObjOk X.prog X.w H s.heap a (.tup xs) from I.hok a _ ea)
    obtain ⟨o, h1, h2, _⟩ := p
    exact PySem.W.kia_one PySem.W.kitx_tuple I.kIn ⟨o, h1, h2⟩ e (fun z => nomatch z) h
  | @dK a kvs ea =>
    cases (show u = Value.ref a from rx)
    obtain ⟨_, _, vs, _, p⟩ := (show ObjOk X.prog X.w H s.heap a (.dK kvs) from I.hok a _ ea)
    obtain ⟨o, es, ep, h1, h2, _⟩ := p
    exact PySem.W.kia_one PySem.W.kitx_dict I.kIn ⟨o, h1, h2.1⟩ e (fun z => nomatch z) h
  | @dT a kvs ea => exact (show False from I.hok a _ ea).elim
  | @ins a C dx fs ea cl ha hn htk hm =>
    cases (show u = Value.ref a from rx)
    obtain ⟨mA, O, _⟩ := ins_get I.hok ea
    obtain ⟨od, J, _⟩ := O.look
    exact PySem.W.kia_one (PySem.W.kitx_own (cl.get _) cl.hd ha hn htk hm) I.kIn J e (fun z => nomatch z) h
end
end L2

namespace L2
open PySem PySem.Spec PyProof.Rows

structure Room (k : Nat) (A : Around) : Prop where
  hd : A.handled = none
  dp : A.depth + 3 * k + 5 < recursionLimit
  un : A.units + 16 * k + 200 < cLine
theorem Room.mono {j k : Nat} {A : Around} (r : Room k A) (h : j ≤ k) : Room j A := ⟨r.hd, by have := r.dp; omega, by have := r.un; omega⟩
theorem Room.deeper {k : Nat} {A : Around} (r : Room (k + 1) A) (env : Env) : Room k (A.deeper env) :=
  ⟨r.hd, by have := r.dp; show A.depth + 1 + 3 * k + 5 < _; omega, by have := r.un; show A.units + 3 + 16 * k + 200 < _; omega⟩
theorem make_depth {A : Around} {C : Addr} {us : List Value} {kw : List (Str × Value)} : (A.under (.builtin "type.__call__" ⟨.ref C :: us, kw⟩)).depth = A.depth + 1 := by
  first | rfl | simp [Around.under, Code.weight, Code.isCreation, Code.isGuard, Code.isCaller, Code.frames, Code.isFrame, guardIds]
theorem make_units {A : Around} {C : Addr} {us : List Value} {kw : List (Str × Value)} : (A.under (.builtin "type.__call__" ⟨.ref C :: us, kw⟩)).units = A.units + 1 := by
  first | rfl | simp [Around.under, Code.cUnits, Code.frames, Code.isFrame]
theorem Room.make {k : Nat} {A : Around} (r : Room (k + 1) A) (C : Addr) (us : List Value) (kw : List (Str × Value)) : Room k (A.under (.builtin "type.__call__" ⟨.ref C :: us, kw⟩)) :=
  ⟨r.hd, by have := r.dp; rw [make_depth]; omega, by have := r.un; rw [make_units]; omega⟩
theorem Room.depth {k : Nat} {A : Around} (r : Room k A) : A.depth < recursionLimit := by have := r.dp; omega
def tNil : TA := fun _ H Q => Q [] H
def tCons (ta : TE) (tr : TA) : TA := fun σ H Q => ta σ H fun x H1 => tr σ H1 fun xs H2 => Q (x :: xs) H2
section
variable {X : Cx} {e : Expr} {es : List Expr} {te : TE} {t : TA} {pos : Pos}
theorem pa_nil : PA X [] tNil := fun _ _ _ _ H Q I h => Calls.spliced_nil ⟨[], H, I, .nil, h⟩
theorem pa_cons (ha : PE X e te) (hr : PA X es t) (hs : starEach (e :: es) X.env = (false, eval e X.env) :: starEach es X.env := by rfl) : PA X (e :: es) (tCons te t) := by
  intro pos pins s σ H Q I h
  rw [hs]
  show wpAny _ _ (spliced ((false, eval e X.env) :: backTo pos (starEach es X.env))) _ _ s
  refine Calls.spliced_cons (thn (ha pins s σ H _ I h) fun u s1 ⟨x, H1, I1, r1, q1⟩ => ?_)
  exact thn (hr pos pins s1 σ H1 _ I1 q1) fun us s2 ⟨xs, H2, I2, r2, q2⟩ => ⟨x :: xs, H2, I2, .cons r1 r2, q2⟩

def tTup (t : TA) : TE := fun σ H Q => t σ H fun xs H1 => xs.length ≤ sizeLine ∧ ∀ p, H1 p = none → Q (.ref p) (upd H1 p (.tup xs))
def tLst (t : TA) : TE := fun σ H Q => t σ H fun xs H1 => xs.length ≤ sizeLine ∧ ∀ p, H1 p = none → Q (.ref p) (upd H1 p (.lst xs))
theorem pe_tup {x1} (h : PA X es t) : PE X (.Tuple es x1 pos) (tTup t) := by
  intro pins s σ H Q I hq
  refine wpAny_Tuple_spliced (thn (h pos pins s σ H _ I hq) fun us s1 ⟨xs, H1, I1, r, z, q⟩ => ⟨by rw [← r.length]; exact z, ?_⟩)
  have hf : H1 s1.heap.objs.size = none := I1.hok.fresh (Nat.le_refl _)
  refine ⟨.ref s1.heap.objs.size, upd H1 s1.heap.objs.size (.tup xs), I1.laid (t' := s1.toks) (fun b u e => Heap.get?_push_of_some _ e) (Nat.le_refl _) ?_, rfl, q _ hf⟩
  exact ⟨z, us, r, ⟨_, Heap.get?_push_size _ rfl, rfl, _, rfl⟩⟩
theorem pe_lst (h : PA X es t) : PE X (.List es pos) (tLst t) := by
  intro pins s σ H Q I hq
  refine wpAny_List_spliced (thn (h pos pins s σ H _ I hq) fun us s1 ⟨xs, H1, I1, r, z, q⟩ => ⟨by rw [← r.length]; exact z, ?_⟩)
  have hf : H1 s1.heap.objs.size = none := I1.hok.fresh (Nat.le_refl _)
  refine ⟨.ref s1.heap.objs.size, upd H1 s1.heap.objs.size (.lst xs), I1.laid (t' := s1.toks) (fun b u e => Heap.get?_push_of_some _ e) (Nat.le_refl _) ?_, rfl, q _ hf⟩
  exact ⟨z, us, 0, r, Heap.get?_push_size _ rfl⟩
end

abbrev Sp := List V → Hp → VK → XK → Prop
abbrev CXT := List Env → Hp → Shared → XK → Value → Shared → Prop

structure Env0 (P : Program) (w : World) (K : PySem.W.Frag) (mg : Str → Option Value) (base : Heap) (A : Around) (outer : List Env) (s : Shared) (H : Hp) : Prop where
  frames : A.frames = some outer
  mod : Mod K mg base
  bs : ∀ b o, base.get? b = some o → s.heap.get? b = some o ∧ H b = none
  bsz : base.objs.size ≤ s.heap.objs.size
  funs : s.heap.FunFrames base outer
  frf : ∀ b ∈ frs outer, H b = none
  hok : HOk P w H s.heap
  bare : AllBare s.gens
def CE (outer : List Env) (P : Program) (w : World) (H : Hp) (s : Shared) (Q : VK) (u : Value) (s' : Shared) : Prop :=
  ∃ v H', s'.os = s.os ∧ AllBare s'.gens ∧ Un (frs outer) [] H H' s.heap s'.heap ∧ HOk P w H' s'.heap ∧ RelV v u ∧ Q v H'
def CR (CX : CXT) (outer : List Env) (P : Program) (w : World) (H : Hp) (s : Shared) (Q : VK) (E : XK) (r : Result) (s' : Shared) : Prop :=
  match r with
  | .ok (.ret u) => CE outer P w H s Q u s'
  | .ok _ => False
  | .error e => CX outer H s E e s'
structure FnOk (P : Program) (w : World) (K : PySem.W.Frag) (mg : Str → Option Value) (base : Heap) (CX : CXT) (k : Nat) (f : Addr) (fd : FuncData) (ps : List Str) (sp : Sp) : Prop where
  len : ∀ vs H Q E, sp vs H Q E → vs.length = ps.length
  run : ∀ (A : Around) (outer : List Env) (s : Shared) (H : Hp) (args : Args) (us : List Value) (vs : List V) (Q : VK) (E : XK), Room k A → Env0 P w K mg base A outer s H → BindsTo s fd args (ps.zip us) → Vals vs us → sp vs H Q E →
    codeAny (model P w) A (.call (.ref f) args) (CR CX outer P w H s Q E) s
theorem FnOk.mono {P : Program} {w : World} {K : PySem.W.Frag} {mg : Str → Option Value} {base : Heap} {CX : CXT} {j k : Nat} {f : Addr} {fd : FuncData} {ps : List Str} {sp : Sp} (F : FnOk P w K mg base CX j f fd ps sp) (h : j ≤ k) :
    FnOk P w K mg base CX k f fd ps sp := ⟨F.len, fun A outer s H args us vs Q E hr => F.run A outer s H args us vs Q E (hr.mono h)⟩
theorem Env0.make {P : Program} {w : World} {K : PySem.W.Frag} {mg : Str → Option Value} {base : Heap} {A : Around} {outer : List Env} {s : Shared} {H : Hp} (e : Env0 P w K mg base A outer s H) (C : Addr) (us : List Value) (kw : List (Str × Value)) :
    Env0 P w K mg base (A.under (.builtin "type.__call__" ⟨.ref C :: us, kw⟩)) outer s H := ⟨by first | exact e.frames | (simpa [Around.under, Code.envs, Code.isFrame, pushEnvs] using e.frames), e.mod, e.bs, e.bsz, e.funs, e.frf, e.hok, e.bare⟩
section
variable {X : Cx} {pins : List (Addr × Obj)} {σ : St} {H : Hp} {s s' : Shared}
theorem Inv.env0 (I : Inv X pins σ H s) : Env0 X.prog X.w X.K X.mg X.base X.A X.stack s H :=
  ⟨I.ok.frames, I.ok.mod, I.bs, Nat.le_trans I.ok.bsz I.sz, I.stack, I.stkFree, I.hok, I.bare⟩
theorem Inv.after {Q : VK} {u : Value} (I : Inv X pins σ H s) (h : CE X.stack X.prog X.w H s Q u s') : EP X pins σ Q u s' := by
  obtain ⟨v, H', os, bare, un, hok, r, q⟩ := h
  obtain ⟨hh, g, d, t, os'⟩ := s'
  obtain rfl : os' = s.os := os
  exact ⟨v, H', I.call (h' := hh) (g' := g) (d' := d) (t' := t) (ch := []) un hok bare (fun b z => absurd z (by simp)), r, q⟩
end

def tCall (sp : Sp) (dvs : List V) (E : XK) (t : TA) : TE := fun σ H Q => t σ H fun vs H1 => sp (vs ++ dvs) H1 Q E
def tMeth (C : Addr) (m : Str) (sp : Sp) (dvs : List V) (E : XK) (ta : TE) (t : TA) : TE := fun σ H Q => ta σ H fun x H1 => ∃ a dx fs, x = .ref a ∧ H1 a = some (.ins C dx fs) ∧ fs.lookup m = none ∧
  t σ H1 fun vs H2 => sp (x :: (vs ++ dvs)) H2 Q E
def tMake (C : Addr) (sp : Sp) (dvs : List V) (E : XK) (t : TA) : TE := fun σ H Q => t σ H fun vs H1 => ∀ x dx, H1 x = none → H1 dx = none → dx ≠ x →
  sp (.ref x :: (vs ++ dvs)) (upd (upd H1 dx (.own x)) x (.ins C dx [])) (fun v H2 => v = .non ∧ Q (.ref x) H2) E

def Binds (K : PySem.W.Frag) (fd : FuncData) (ps : List Str) (ds : List Value) : Prop :=
  ∀ (s : Shared) (us : List Value), K.In s.heap → (us ++ ds).length = ps.length → BindsTo s fd ⟨us, []⟩ (ps.zip (us ++ ds))
theorem Binds.all {K : PySem.W.Frag} {fd : FuncData} {ps : List Str} (h : ∀ us : List Value, us.length = ps.length → bindArgs fd ⟨us, []⟩ = pure (ps.zip us)) : Binds K fd ps [] := fun s us _ hl => by
  rw [List.append_nil] at hl ⊢
  exact .of_eq (h us hl)

def Passes (CX : CXT) (X : Cx) (E : XK) : Prop := ∀ (pins : List (Addr × Obj)) (σ : St) (H : Hp) (s : Shared) (e : Value) (s' : Shared), Inv X pins σ H s → CX X.stack H s E e s' → X.xe e s'

section
variable {X : Cx} {CX : CXT} {k : Nat} {f C : Addr} {fd : FuncData} {ps : List Str} {sp : Sp} {dvs : List V} {ds : List Value} {E : XK} {x m : Str} {p pos apos : Pos} {e o : Expr} {es : List Expr} {ta : TE} {t : TA}

theorem run_fn {pins : List (Addr × Obj)} {σ : St} {H : Hp} {s : Shared} {Q : VK} {us : List Value} {vs : List V} (F : FnOk X.prog X.w X.K X.mg X.base CX k f fd ps sp) (hr : Room k X.A) (hb : Binds X.K fd ps ds) (hd : Vals dvs ds) (hx : Passes CX X E)
    (I : Inv X pins σ H s) (r : Vals vs us) (h : sp (vs ++ dvs) H Q E) : wpAny (model X.prog X.w) X.A (call (.ref f) us) (EP X pins σ Q) X.xe s := by
  have r2 : Vals (vs ++ dvs) (us ++ ds) := r.append hd
  have hl : (us ++ ds).length = ps.length := by rw [← r2.length]; exact F.len _ _ _ _ h
  refine wpAny_call (codeAny_mono (F.run X.A X.stack s H ⟨us, []⟩ (us ++ ds) (vs ++ dvs) Q E hr I.env0 (hb s us I.kIn hl) r2 h) fun r s' hq => ?_)
  cases r with
  | error e => exact hx pins σ H s e s' I hq
  | ok fl =>
    cases fl with
    | ret u => exact I.after hq
    | next => exact False.elim hq
    | brk => exact False.elim hq
    | cont => exact False.elim hq

theorem pe_call (F : FnOk X.prog X.w X.K X.mg X.base CX k f fd ps sp) (hr : Room k X.A) (hg : Gl X x) (hm : X.mg x = some (.ref f)) (hk : PySem.W.keepIn X.K (.ref f) = true) (hb : Binds X.K fd ps ds) (hd : Vals dvs ds) (hx : Passes CX X E)
    (ha : PA X (e :: es) t) (hdb : (x == ("__debug__" : Str)) = false := by decide) (he : starEach (e :: es) X.env = (false, eval e X.env) :: starEach es X.env := by rfl) (hpl : (backTo pos (starEach es X.env)).any (·.1) = false := by rfl) :
    PE X (.Call (.Name x p) (e :: es) [] pos) (tCall sp dvs E t) := by
  intro pins s σ H Q I h
  refine wpAny_Call_Name_kw (ld_glob I hg hm ?_ hdb)
  refine PySem.W.callWith_K (h₀ := X.base) I.ok.mod.kin hk (thn (ha pos pins s σ H _ I h) fun us s1 ⟨vs, H1, I1, r, q⟩ => ⟨I1.kIn, ?_⟩) he hpl
  exact run_fn F hr hb hd hx I1 r q
theorem pe_meth {pl : Sem Bool} (he : PE X o ta) (c : Cls X.K C) (hm : Meth X.K C m f) (F : FnOk X.prog X.w X.K X.mg X.base CX k f fd ps sp) (hr : Room k X.A) (hb : Binds X.K fd ps ds) (hd : Vals dvs ds) (hx : Passes CX X E) (ha : PA X (e :: es) t)
    (hst : starEach (e :: es) X.env = (false, eval e X.env) :: starEach es X.env := by rfl) (hpl : (backTo pos (starEach es X.env)).any (·.1) = false := by rfl)
    (ht : eval (.Call (.Attribute o m apos) (e :: es) [] pos) X.env = (do
      let ov ← eval o X.env
      standAt apos.atName
      let (f, first) ← holding [ov] (getMethod ov m pl)
      callWith pos f first (backTo pos (starEach (e :: es) X.env)) (backToKw pos (keywordEach [] X.env))) := by rfl) :
    PE X (.Call (.Attribute o m apos) (e :: es) [] pos) (tMeth C m sp dvs E ta t) := by
  intro pins s σ H Q I h
  refine PySem.W.methodCall_KW (pl := pl) (thn (he pins s σ H _ I h) fun u s1 ⟨x, H1, I1, rx, a, dx, fs, ex, ea, l, q⟩ => ?_) ht
  subst ex
  obtain rfl : u = Value.ref a := rx
  refine getmeth_ok I1 ea c hm l ?_
  refine PySem.W.callWith_K (first := [.ref a]) (h₀ := X.base) I.ok.mod.kin hm.kp (thn (ha pos pins s1 σ H1 _ I1 q) fun us s2 ⟨vs, H2, I2, r, q2⟩ => ⟨I2.kIn, ?_⟩) hst hpl
  exact run_fn (us := .ref a :: us) (vs := .ref a :: vs) F hr hb hd hx I2 (.cons rfl r) q2
theorem pe_meth0 {pl : Sem Bool} (he : PE X o ta) (c : Cls X.K C) (hm : Meth X.K C m f) (F : FnOk X.prog X.w X.K X.mg X.base CX k f fd ps sp) (hr : Room k X.A) (hb : Binds X.K fd ps ds) (hd : Vals dvs ds) (hx : Passes CX X E)
    (ht : eval (.Call (.Attribute o m apos) [] [] pos) X.env = (do
      let ov ← eval o X.env
      standAt apos.atName
      let (f, first) ← holding [ov] (getMethod ov m pl)
      callWith pos f first (backTo pos (starEach [] X.env)) (backToKw pos (keywordEach [] X.env))) := by rfl) :
    PE X (.Call (.Attribute o m apos) [] [] pos) (tMeth C m sp dvs E ta tNil) := by
  intro pins s σ H Q I h
  refine PySem.W.methodCall_KW (pl := pl) (thn (he pins s σ H _ I h) fun u s1 ⟨x, H1, I1, rx, a, dx, fs, ex, ea, l, q⟩ => ?_) ht
  subst ex
  obtain rfl : u = Value.ref a := rx
  refine getmeth_ok I1 ea c hm l ?_
  exact PySem.W.callWith_K0 (first := [.ref a]) I1.kIn hm.kp (run_fn (us := [.ref a]) (vs := [.ref a]) F hr hb hd hx I1 (.cons rfl .nil) q)

structure Mk (K : PySem.W.Frag) (C f : Addr) : Prop where
  makes : PySem.W.makesIn K C = true
  init : PySem.W.findIn K (.ref C) "__init__" = some (some (.ref f))
  fn : PySem.W.isFn K (.ref f) = true
  kp : PySem.W.keepIn K (.ref C) = true

theorem run_make {pins : List (Addr × Obj)} {σ : St} {H : Hp} {s : Shared} {Q : VK} {us : List Value} {vs : List V} (M : Mk X.K C f) (F : FnOk X.prog X.w X.K X.mg X.base CX k f fd ps sp) (hr : Room (k + 1) X.A) (hb : Binds X.K fd ps ds) (hd : Vals dvs ds)
    (hx : Passes CX X E) (I : Inv X pins σ H s) (r : Vals vs us)
    (h : ∀ x dx, H x = none → H dx = none → dx ≠ x → sp (.ref x :: (vs ++ dvs)) (upd (upd H dx (.own x)) x (.ins C dx [])) (fun v H2 => v = .non ∧ Q (.ref x) H2) E) :
    wpAny (model X.prog X.w) X.A (call (.ref C) us) (EP X pins σ Q) X.xe s := by
  have hq := h (s.heap.objs.size + 1) s.heap.objs.size (I.hok.fresh (Nat.le_succ _)) (I.hok.fresh (Nat.le_refl _)) (Nat.ne_of_lt (Nat.lt_succ_self _))
  have I2 := Inv.made (C := C) I
  have r2 : Vals (V.ref (s.heap.objs.size + 1) :: (vs ++ dvs)) (Value.ref (s.heap.objs.size + 1) :: (us ++ ds)) := .cons rfl (r.append hd)
  have hl : (Value.ref (s.heap.objs.size + 1) :: us ++ ds).length = ps.length := by
    have e := r2.length
    rw [F.len _ _ _ _ hq] at e
    exact e.symm
  refine wpAny_call (make_map (f := f) I.kIn M.makes M.init (beq_iff_eq.mp M.fn) (codeAny_mono (F.run _ X.stack _ _ ⟨Value.ref (s.heap.objs.size + 1) :: us, []⟩ (Value.ref (s.heap.objs.size + 1) :: (us ++ ds)) _ _ E (hr.make C us [])
    (I2.env0.make C us []) (hb _ (Value.ref (s.heap.objs.size + 1) :: us) I2.kIn hl) r2 hq) fun r s' hq' => ?_))
  cases r with
  | error e => exact hx pins σ _ _ e s' I2 hq'
  | ok fl =>
    cases fl with
    | ret u =>
      obtain ⟨v, H', I3, rv, ev, q3⟩ := I2.after hq'
      subst ev
      exact ⟨rv, ⟨V.ref (s.heap.objs.size + 1), H', I3, rfl, q3⟩⟩
    | next => exact False.elim hq'
    | brk => exact False.elim hq'
    | cont => exact False.elim hq'
theorem pe_make (M : Mk X.K C f) (F : FnOk X.prog X.w X.K X.mg X.base CX k f fd ps sp) (hr : Room (k + 1) X.A) (hg : Gl X x) (hm : X.mg x = some (.ref C)) (hb : Binds X.K fd ps ds) (hd : Vals dvs ds) (hx : Passes CX X E)
    (ha : PA X (e :: es) t) (hdb : (x == ("__debug__" : Str)) = false := by decide) (he : starEach (e :: es) X.env = (false, eval e X.env) :: starEach es X.env := by rfl) (hpl : (backTo pos (starEach es X.env)).any (·.1) = false := by rfl) :
    PE X (.Call (.Name x p) (e :: es) [] pos) (tMake C sp dvs E t) := by
  intro pins s σ H Q I h
  refine wpAny_Call_Name_kw (ld_glob I hg hm ?_ hdb)
  refine PySem.W.callWith_K (h₀ := X.base) I.ok.mod.kin M.kp (thn (ha pos pins s σ H _ I h) fun us s1 ⟨vs, H1, I1, r, q⟩ => ⟨I1.kIn, ?_⟩) he hpl
  exact run_make M F hr hb hd hx I1 r q
end

section
variable {X : Cx} {CX : CXT} {k : Nat} {f C : Addr} {fd : FuncData} {ps ks : List Str} {sp : Sp} {E : XK} {x m : Str} {p pos apos kpos : Pos} {e o : Expr} {es : List Expr} {kws : List Keyword} {te ta : TE} {t tk : TA} {nm : Option Str}
structure KBinds (K : PySem.W.Frag) (fd : FuncData) (ps ks : List Str) (g : List Value → List Value → List Value) (gV : List V → List V → List V) : Prop where
  to : ∀ (s : Shared) (us ws : List Value), K.In s.heap → (g us ws).length = ps.length → BindsTo s fd ⟨us, ks.zip ws⟩ (ps.zip (g us ws))
  rel : ∀ {vs : List V} {us : List Value} {zs : List V} {ws : List Value}, Vals vs us → Vals zs ws → Vals (gV vs zs) (g us ws)
variable {g : List Value → List Value → List Value} {gV : List V → List V → List V}
end

structure FnScope (N P : List Str) (sc : Scope) : Prop where
  kind : sc.kind = .function
  co : sc.isCoroutine = false
  gen : sc.isGenerator = false
  nd : N.Nodup
  pre : N.take P.length = P
  par : ∀ x ∈ P, sc.names.lookup x = some .local ∨ sc.names.lookup x = some .cell
  nofree : ∀ y ∈ sc.names, y.2 ≠ .free

theorem bindL_out {kindOf : Str → Option NameKind} {x : Str} : ∀ {binds : List (Str × Value)} {m : Str → Option Value}, (∀ v, (x, v) ∉ binds) → bindL kindOf binds m x = m x
  | [], _, _ => rfl
  | (n, v) :: r, m, h => by
    unfold bindL
    rw [bindL_out fun w hw => h w (List.mem_cons_of_mem _ hw)]
    split
    · have : x ≠ n := by rintro rfl; exact h v List.mem_cons_self
      simp [this]
    · rfl
theorem bindC_out {kindOf : Str → Option NameKind} {x : Str} : ∀ {binds : List (Str × Value)} {m : Str → Option Value}, (∀ v, (x, v) ∉ binds) → bindC kindOf binds m x = m x
  | [], _, _ => rfl
  | (n, v) :: r, m, h => by
    unfold bindC
    rw [bindC_out fun w hw => h w (List.mem_cons_of_mem _ hw)]
    split
    · rfl
    · have : x ≠ n := by rintro rfl; exact h v List.mem_cons_self
      simp [this]
theorem bindL_get {kindOf : Str → Option NameKind} {x : Str} {v : Value} : ∀ {P : List Str} {vs : List Value} {i : Nat} {m : Str → Option Value}, P.Nodup → P[i]? = some x → vs[i]? = some v → kindOf x = some .local →
    bindL kindOf (P.zip vs) m x = some v
  | [], _, _, _, _, h, _, _ => by simp at h
  | _ :: _, [], _, _, _, _, h, _ => by simp at h
  | p :: P, w :: vs, 0, m, nd, h1, h2, hk => by
    simp at h1 h2; subst h1; subst h2
    show bindL kindOf ((p, w) :: P.zip vs) m p = _
    unfold bindL
    rw [bindL_out fun v hv => (List.nodup_cons.mp nd).1 (List.of_mem_zip hv).1, if_pos hk]
    simp
  | p :: P, w :: vs, i + 1, m, nd, h1, h2, hk => by
    show bindL kindOf ((p, w) :: P.zip vs) m x = _
    unfold bindL
    exact bindL_get (i := i) (List.nodup_cons.mp nd).2 (by simpa using h1) (by simpa using h2) hk
theorem bindC_get {kindOf : Str → Option NameKind} {x : Str} {v : Value} : ∀ {P : List Str} {vs : List Value} {i : Nat} {m : Str → Option Value}, P.Nodup → P[i]? = some x → vs[i]? = some v → kindOf x ≠ some .local →
    bindC kindOf (P.zip vs) m x = some v
  | [], _, _, _, _, h, _, _ => by simp at h
  | _ :: _, [], _, _, _, _, h, _ => by simp at h
  | p :: P, w :: vs, 0, m, nd, h1, h2, hk => by
    simp at h1 h2; subst h1; subst h2
    show bindC kindOf ((p, w) :: P.zip vs) m p = _
    unfold bindC
    rw [bindC_out fun v hv => (List.nodup_cons.mp nd).1 (List.of_mem_zip hv).1, if_neg hk]
    simp
  | p :: P, w :: vs, i + 1, m, nd, h1, h2, hk => by
    show bindC kindOf ((p, w) :: P.zip vs) m x = _
    unfold bindC
    exact bindC_get (i := i) (List.nodup_cons.mp nd).2 (by simpa using h1) (by simpa using h2) hk

def start (N : List Str) (vs : List V) : St := vs.map some ++ List.replicate (N.length - vs.length) none

def cxOf (CX : CXT) (P : Program) (w : World) (K : PySem.W.Frag) (mg : Str → Option Value) (base : Heap) (N : List Str) (qual : Str) (scope : Scope) (f : Addr) (cd : Value) (A : Around) (outer : List Env) (s : Shared) (H : Hp) (E : XK) : Cx where
  prog := P
  w := w
  K := K
  mg := mg
  base := base
  A := A.deeper (envOfC qual scope s.heap.objs.size f cd)
  N := N
  s₀ := s
  H₀ := H
  env := envOfC qual scope s.heap.objs.size f cd
  outer := outer
  stack := envOfC qual scope s.heap.objs.size f cd :: outer
  ex := []
  calm := true
  fn := fun _ => true
  pn := []
  xe := fun e s' => wpAny (model P w) (A.deeper (envOfC qual scope s.heap.objs.size f cd)) (leaving (envOfC qual scope s.heap.objs.size f cd) e) (fun _ s'' => CX outer H s E e s'') (fun e' s'' => CX outer H s E e' s'') s'

theorem cell_has {sc : Scope} {n : Nat} {x : Str} (h : sc.names.lookup x = some .cell) : ∃ c, (cellsFrom n sc.names []).lookup x = some c := by
  have q := PySem.W.cellsFrom_some sc.names n [] (.inl h)
  exact Option.isSome_iff_exists.mp q

theorem inv_start {CX : CXT} {P : Program} {w : World} {K : PySem.W.Frag} {mg : Str → Option Value} {base : Heap} {N ps : List Str} {qual : Str} {scope : Scope} {f : Addr} {cd : Value} {A : Around} {outer : List Env} {s s1 : Shared} {H : Hp} {E : XK} {us : List Value} {vs : List V}
    (S : FnScope N ps scope) (hd : A.handled = none) (e0 : Env0 P w K mg base A outer s H) (hl : vs.length = ps.length) (r : Vals vs us)
    (x : InCallC s s.heap.objs.size (bindL (envOfC qual scope s.heap.objs.size f cd).kindOf (ps.zip us) fun _ => none) (cellsFrom (s.heap.objs.size + 1) scope.names []) (bindC (envOfC qual scope s.heap.objs.size f cd).kindOf (ps.zip us) fun _ => none) s1) :
    Inv (cxOf CX P w K mg base N qual scope f cd A outer s H E) [] (start N vs) H s1 := by
  have hpl : ps.length ≤ N.length := by have := congrArg List.length S.pre; rw [List.length_take] at this; omega
  obtain ⟨h1, tk, rfl, hk⟩ := x.done
  have noA : ∀ b : Addr, b ∉ (cxOf CX P w K mg base N qual scope f cd A outer s H E).ex := fun b z => absurd (show b ∈ ([] : List Addr) from z) (by simp)
  refine ⟨⟨e0.mod, S.kind, rfl, rfl, Nat.le_refl _, fun y z c h1 h2 => ?_, fun y hy => ?_, fun y c _ h => ?_, fun _ => hd, Around.frames_deeper e0.frames, .inr ⟨rfl, rfl⟩, fun b z => absurd z (noA b), e0.bs, e0.bsz, fun b _ _ => noA b, fun b z => absurd z (noA b), e0.funs, e0.frf⟩,
    rfl, e0.bare, Un.kept hk, ⟨_, x.toInCall.ns, fun i y v h1 h2 h3 => ?_⟩, fun y c h => ⟨_, x.cell y c h⟩, e0.hok.fresh (Nat.le_refl _), fun y c h => ?_, fun p hp => absurd (show p ∈ ([] : List (Addr × Obj)) from hp) (by simp), e0.hok.kept hk, ?_⟩
  · exact name_of_addr x.apart (PySem.mem_of_lookup h1) (PySem.mem_of_lookup h2)
  · have hy : scope.names.lookup y = some .cell ∨ scope.names.lookup y = some .free := hy
    rcases hy with hy | hy
    · exact cell_has hy
    · exact absurd rfl (S.nofree _ (PySem.mem_of_lookup hy))
  · exact Nat.le_of_lt (x.above y c (PySem.mem_of_lookup h))
  · have hi : i < vs.length := by
      unfold start at h2
      by_cases hi : i < vs.length
      · exact hi
      · rw [List.getElem?_append_right (by simpa using hi)] at h2
        rw [List.getElem?_replicate] at h2
        split at h2 <;> cases h2
    have ha : vs[i]? = some v := by
      unfold start at h2
      rw [List.getElem?_append_left (by simpa using hi), List.getElem?_map] at h2
      cases e : vs[i]? with
      | none => rw [e] at h2; cases h2
      | some a => rw [e] at h2; cases h2; rfl
    obtain ⟨u, hu, rv⟩ := r.get ha
    have hp : ps[i]? = some y := by
      rw [← S.pre, List.getElem?_take_of_lt (by omega)]; exact h1
    have ndP : ps.Nodup := by rw [← S.pre]; exact S.nd.sublist (List.take_sublist _ _)
    refine ⟨u, rv, ?_⟩
    rcases S.par y (List.mem_of_getElem? hp) with k | k
    · exact .inl ⟨k, bindL_get ndP hp hu k⟩
    · obtain ⟨c, e⟩ := cell_has (n := s.heap.objs.size + 1) k
      refine .inr ⟨.inl k, c, e, ?_⟩
      have q := x.cell y c e
      rw [bindC_get ndP hp hu (by show scope.names.lookup y ≠ _; rw [k]; decide)] at q
      exact q
  · exact e0.hok.fresh (Nat.le_of_lt (x.above y c (PySem.mem_of_lookup h)))
  · unfold start
    show _ = N.length
    rw [List.length_append, List.length_map, List.length_replicate]
    omega

theorem fn_of {CX : CXT} {P : Program} {w : World} {K : PySem.W.Frag} {mg : Str → Option Value} {base : Heap} {k : Nat} {f : Addr} {name qual : Str} {params : Arguments} {body : List Stmt} {scope : Scope} {dV kV doc pm cdv ct oc : Value} {an od : Option Addr}
    {osl : Array (Option Value)} {N ps : List Str} {sp : Sp} (lk : K.lookup f = some ⟨oc, od, .func (PySem.W.fnOf name qual params body scope dV kV doc pm an cdv ct), osl⟩) (hcd : PySem.W.codeIn K cdv qual = true) (S : FnScope N ps scope)
    (len : ∀ vs H Q E, sp vs H Q E → vs.length = ps.length)
    (hbody : ∀ (A : Around) (outer : List Env) (s : Shared) (H : Hp) (vs : List V) (Q : VK) (E : XK), Room k (A.deeper (envOfC qual scope s.heap.objs.size f cdv)) → sp vs H Q E →
      ∃ t, PSs (cxOf CX P w K mg base N qual scope f cdv A outer s H E) body t ∧ t { nx := fun _ H' => Q .non H', rt := Q } (start N vs) H) :
    FnOk P w K mg base CX (k + 1) f (PySem.W.fnOf name qual params body scope dV kV doc pm an cdv ct) ps sp := by
  refine ⟨len, fun A outer s H args us vs Q E hr e0 hb r hsp => ?_⟩
  have hl := len _ _ _ _ hsp
  have KX : K.In s.heap := e0.mod.kin.keeps fun b o e => (e0.bs b o e).1
  have lim : s.heap.NoLimit := e0.mod.nolimit.keeps fun b o e => (e0.bs b o e).1
  have hkind : ∀ y ∈ ps.zip us, scope.names.lookup y.1 = some .local ∨ (scope.names.lookup y.1 = some .cell ∧ ((cellsFrom (s.heap.objs.size + 1) scope.names []).lookup y.1).isSome = true) := fun ⟨n, v⟩ hy => by
    rcases S.par n (List.of_mem_zip hy).1 with q | q
    · exact .inl q
    · exact .inr ⟨q, PySem.W.cellsFrom_some _ _ _ (.inl q)⟩
  refine codeAny_call_function hr.depth (KX _ _ lk) rfl S.co S.gen rfl (PySem.W.codeRec_of KX hcd) (hb _ _ _ _ ?_)
  refine wpAny_newFunctionEnv_cells S.kind hkind fun env he s1 x => ?_
  subst he
  refine ⟨lim.keeps x.toInCall.keep, codeAny_func ?_⟩
  obtain ⟨t, ht, hq⟩ := hbody A outer s H vs Q E (hr.deeper _) hsp
  have I : Inv (cxOf CX P w K mg base N qual scope f cdv A outer s H E) [] (start N vs) H s1 := inv_start S hr.hd e0 hl r x
  refine wpAny_mono (ht [] s1 (start N vs) H _ I hq) (fun fl s' hs => ?_) fun e s' hs => hs
  have fin : ∀ {σ' : St} {H' : Hp} {v : V} {u : Value}, Inv (cxOf CX P w K mg base N qual scope f cdv A outer s H E) [] σ' H' s' → RelV v u → Q v H' → CE outer P w H s Q u s' :=
    fun {σ' H' v u} J rv q => ⟨v, H', J.os, J.bare, J.base, J.hok, rv, q⟩
  cases fl with
  | ret u =>
    obtain ⟨v, σ', H', J, rv, q⟩ := hs
    exact fin J rv q
  | next =>
    obtain ⟨σ', H', J, q⟩ := hs
    exact fin (v := V.non) (u := Value.none) J rfl q
  | brk =>
    obtain ⟨_, _, _, q⟩ := hs
    exact False.elim q
  | cont =>
    obtain ⟨_, _, _, q⟩ := hs
    exact False.elim q
end L2

namespace L2
open PySem PySem.Spec PyProof.Rows
section
variable {X : Cx} {x : Str} {p pos : Pos} {e : Expr} {es : List Expr} {t : TA} {id T : String} {r : List V → Hp → VK → Prop}

def tCB (r : List V → Hp → VK → Prop) (t : TA) : TE := fun σ H Q => t σ H fun vs H1 => r vs H1 Q
theorem pe_callB (hc : CallR X (.builtin id) r) (hg : Gl X x) (hm : X.mg x = none) (hv : bootBuiltins x = some (.builtin id)) (ha : PA X (e :: es) t) (hn : x ≠ "__name__" := by decide) (hdb : (x == ("__debug__" : Str)) = false := by decide)
    (he : starEach (e :: es) X.env = (false, eval e X.env) :: starEach es X.env := by rfl) (hpl : (backTo pos (starEach es X.env)).any (·.1) = false := by rfl) : PE X (.Call (.Name x p) (e :: es) [] pos) (tCB r t) := by
  intro pins s σ H Q I h
  refine wpAny_Call_Name_kw (ld_blt I hg hm hv ?_ hn hdb)
  exact PyProof.Rows.callWith_builtin1 (thn (ha pos pins s σ H _ I h) fun us s1 ⟨vs, H1, I1, r1, q1⟩ => hc pins s1 σ H1 vs us Q I1 r1 q1) he hpl
theorem pe_callTy (hc : CallR X (.type T) r) (hg : Gl X x) (hm : X.mg x = none) (hv : bootBuiltins x = some (.type T)) (ha : PA X (e :: es) t) (hn : x ≠ "__name__" := by decide) (hdb : (x == ("__debug__" : Str)) = false := by decide)
    (he : starEach (e :: es) X.env = (false, eval e X.env) :: starEach es X.env := by rfl) (hpl : (backTo pos (starEach es X.env)).any (·.1) = false := by rfl) : PE X (.Call (.Name x p) (e :: es) [] pos) (tCB r t) := by
  intro pins s σ H Q I h
  refine wpAny_Call_Name_kw (ld_blt I hg hm hv ?_ hn hdb)
  exact PyProof.Rows.callWith_type1 (thn (ha pos pins s σ H _ I h) fun us s1 ⟨vs, H1, I1, r1, q1⟩ => hc pins s1 σ H1 vs us Q I1 r1 q1) he hpl
end
end L2

namespace HT
open PySem PyProof.Rows

section
open PySem.SeqAt
open PySem.AutoSeq1 (wpAny_loadPart')
open PySem.MeetsSeq PySem.MeetsSeq2 PySem.MeetsSeq3

end

section
variable {prog : Program} {w : World} {A : Around} {E : Value → Shared → Prop} {s : Shared}

def sIx (n d : Nat) : Option Int → Nat
  | none => d
  | some v => if v < 0 then (v + (n : Int)).toNat else min v.toNat n
end
end HT

namespace L2
open PySem PySem.Spec PyProof.Rows

abbrev TO := St → Hp → (Option Int → Hp → Prop) → Prop
def PO (X : Cx) (e : Option Expr) (t : TO) : Prop :=
  ∀ (pins : List (Addr × Obj)) (s : Shared) (σ : St) (H : Hp) (Q : Option Int → Hp → Prop), Inv X pins σ H s → t σ H Q →
    wpAny (model X.prog X.w) X.A (evalPart e X.env) (fun u s' => ∃ o H', Inv X pins σ H' s' ∧ IsPart u o ∧ Q o H') X.xe s
def tNoPart : TO := fun _ H Q => Q none H
def tPart (t : TE) : TO := fun σ H Q => t σ H fun x H1 => ∃ i, x = .int i ∧ Q (some i) H1

section
variable {X : Cx} {e : Expr} {te : TE} {lo hi : Option Expr} {tl th : TO} {pos p2 : Pos}

theorem po_none : PO X none tNoPart := by
  intro pins s σ H Q I h
  rw [evalPart_none]
  exact wpAny_pure ⟨none, H, I, .none, h⟩
theorem po_some (h : PE X e te) : PO X (some e) (tPart te) := by
  intro pins s σ H Q I hw
  rw [evalPart_some]
  refine thn (h pins s σ H _ I hw) fun u s1 ⟨x, H1, I1, r1, q1⟩ => ?_
  obtain ⟨i, rfl, q⟩ := q1
  obtain ⟨t, rfl⟩ := r1
  exact ⟨some i, H1, I1, .int i t, q⟩

def SlR (X : Cx) (r : V → Option Int → Option Int → Hp → VK → Prop) : Prop :=
  ∀ (pins : List (Addr × Obj)) (s : Shared) (σ : St) (H : Hp) (x : V) (v vl vu : Value) (lo hi : Option Int) (sl : Addr) (Q : VK), Inv X pins σ H s → RelV x v → s.heap.IsSliceOf sl vl vu .none → IsPart vl lo → IsPart vu hi → r x lo hi H Q →
    ∃ T id, typeLookup (.type T) "__getitem__" = pure (some (.builtin id)) ∧ s.TypeIs v T ∧ wpAny (model X.prog X.w) X.A (getItem v (.ref sl)) (EP X pins σ Q) X.xe s
theorem SlR.or {r r' : V → Option Int → Option Int → Hp → VK → Prop} (h : SlR X r) (h' : SlR X r') : SlR X (fun x lo hi H Q => r x lo hi H Q ∨ r' x lo hi H Q) := by
  intro pins s σ H x v vl vu lo hi sl Q I rx hs pl pu q
  rcases q with q | q
  · exact h pins s σ H x v vl vu lo hi sl Q I rx hs pl pu q
  · exact h' pins s σ H x v vl vu lo hi sl Q I rx hs pl pu q
def tSl (r : V → Option Int → Option Int → Hp → VK → Prop) (te : TE) (tl th : TO) : TE := fun σ H Q => te σ H fun x H1 => tl σ H1 fun l H2 => th σ H2 fun u H3 => r x l u H3 Q
theorem pe_slice {r : V → Option Int → Option Int → Hp → VK → Prop} (hr : SlR X r) (he : PE X e te) (hl : PO X lo tl) (hu : PO X hi th) : PE X (.Subscript e (.Slice lo hi none p2) pos) (tSl r te tl th) := by
  intro pins s σ H Q I h
  refine Subscript_ (thn (he pins s σ H _ I h) fun v s1 ⟨x, H1, I1, r1, q1⟩ => ?_)
  refine wpAny_Slice (thn (hl pins s1 σ H1 _ I1 q1) fun vl s2 ⟨l, H2, I2, pl, q2⟩ => thn (hu pins s2 σ H2 _ I2 q2) fun vu s3 ⟨u, H3, I3, pu, q3⟩ => ?_)
  rw [evalPart_none]
  refine wpAny_pure ?_
  have I4 : Inv X pins σ H3 { s3 with heap := s3.heap.push { cls := .type "slice", data := .fields #[vl, vu, .none] } } := I3.kept (t' := s3.toks) fun b ob q => Heap.get?_push_of_some _ q
  obtain ⟨T, id, hT, ht, hg⟩ := hr pins { s3 with heap := s3.heap.push { cls := .type "slice", data := .fields #[vl, vu, .none] } } σ H3 x v vl vu l u s3.heap.objs.size Q I4 r1 (Heap.IsSliceOf.new ..) pl pu q3
  show wpAny (model X.prog X.w) X.A (subscriptTail e (.Slice lo hi none p2) v (.ref s3.heap.objs.size)) (EP X pins σ Q) X.xe { s3 with heap := s3.heap.push { cls := .type "slice", data := .fields #[vl, vu, .none] } }
  exact tail_any (ops := [.ref s3.heap.objs.size, v]) ht hT hg (by with_unfolding_all rfl)

def cutV (xs : List V) (lo hi : Option Int) : List V := (xs.drop (HT.sIx xs.length 0 lo)).take (HT.sIx xs.length xs.length hi - HT.sIx xs.length 0 lo)
theorem cutV_length (xs : List V) (lo hi : Option Int) : (cutV xs lo hi).length ≤ xs.length := by
  unfold cutV
  rw [List.length_take, List.length_drop]
  omega
end
end L2

namespace L2
open PySem PySem.Spec PyProof.Rows

def ixN (n : Nat) (i : Int) : Option Nat := if 0 ≤ i then (if i < n then some i.toNat else none) else if -(n : Int) ≤ i then some (i + n).toNat else none
def atI {α : Type} (xs : List α) (i : Int) : Option α := (ixN xs.length i).bind fun j => xs[j]?
theorem ixN_seq {n : Nat} {i : Int} {j : Nat} (h : ixN n i = some j) : seqIndex? i n = some j ∧ j < n ∧ -(n : Int) ≤ i ∧ i < n := by
  unfold ixN at h
  by_cases h0 : 0 ≤ i
  · rw [if_pos h0] at h
    by_cases h1 : i < n
    · rw [if_pos h1] at h
      have e : i.toNat = j := Option.some.inj h
      exact ⟨by rw [seqIndex_of h0 h1, e], by omega, by omega, h1⟩
    · rw [if_neg h1] at h; cases h
  · rw [if_neg h0] at h
    by_cases h1 : -(n : Int) ≤ i
    · rw [if_pos h1] at h
      have e : (i + n).toNat = j := Option.some.inj h
      exact ⟨by rw [seqIndex_neg (by omega) h1, e], by omega, h1, by omega⟩
    · rw [if_neg h1] at h; cases h
theorem atI_get {α : Type} {xs : List α} {i : Int} {v : α} (h : atI xs i = some v) : ∃ j, seqIndex? i xs.length = some j ∧ xs[j]? = some v ∧ j < xs.length ∧ -(xs.length : Int) ≤ i ∧ i < xs.length := by
  unfold atI at h
  cases e : ixN xs.length i with
  | none => rw [e] at h; cases h
  | some j =>
    rw [e] at h
    obtain ⟨h1, h2, h3, h4⟩ := ixN_seq e
    exact ⟨j, h1, h, h2, h3, h4⟩
theorem atI_nat {α : Type} {xs : List α} {j : Nat} {v : α} (h : xs[j]? = some v) : atI xs (j : Int) = some v := by
  have hj : j < xs.length := (List.getElem?_eq_some_iff.mp h).1
  have e : ixN xs.length (j : Int) = some j := by
    unfold ixN
    rw [if_pos (by omega), if_pos (by omega)]; simp
  unfold atI; rw [e]; exact h
def PlainIx (b : Expr) : Prop := ∀ o i, subscripted b false o i = operate [o, i] (getItem o i)
def IxR (X : Cx) (r : R2) : Prop :=
  ∀ (value slice : Expr) (pins : List (Addr × Obj)) (s : Shared) (σ : St) (H : Hp) (x y : V) (v u : Value) (Q : VK), Inv X pins σ H s → RelV x v → RelV y u → r x y H Q →
    subscripted slice false v u = operate [v, u] (getItem v u) → wpAny (model X.prog X.w) X.A (subscriptTail value slice v u) (EP X pins σ Q) X.xe s
def MtR (X : Cx) (id : String) (r : V → List V → Hp → VK → Prop) : Prop :=
  ∀ (pins : List (Addr × Obj)) (s : Shared) (σ : St) (H : Hp) (x : V) (xs : List V) (v : Value) (us : List Value) (Q : VK), Inv X pins σ H s → RelV x v → Vals xs us → r x xs H Q →
    wpAny (model X.prog X.w) X.A (call (.builtin id) (v :: us)) (EP X pins σ Q) X.xe s
section
variable {X : Cx} {a b : Expr} {ta tb : TE} {pos : Pos}
theorem IxR.or {r r' : R2} (h : IxR X r) (h' : IxR X r') : IxR X (fun x y H Q => r x y H Q ∨ r' x y H Q) := by
  intro value slice pins s σ H x y v u Q I rx ry q hs
  rcases q with q | q
  · exact h value slice pins s σ H x y v u Q I rx ry q hs
  · exact h' value slice pins s σ H x y v u Q I rx ry q hs
theorem pe_ix {r : R2} (hr : IxR X r) (ha : PE X a ta) (hb : PE X b tb) (hs : PlainIx b) : PE X (.Subscript a b pos) (tOp r ta tb) := by
  intro pins s σ H Q I h
  exact Subscript_ (binT ha hb I h fun v u s2 x y H2 I2 rx ry q => hr a b pins s2 σ H2 x y v u Q I2 rx ry q (hs _ _))

def rIxL (K : PySem.W.Frag) : R2 := fun x y H Q => ∃ p xs i v, x = .ref p ∧ y = .int i ∧ SqL K H p xs ∧ atI xs i = some v ∧ Q v H
def rIxT (K : PySem.W.Frag) : R2 := fun x y H Q => ∃ p xs i v, x = .ref p ∧ y = .int i ∧ SqT K H p xs ∧ atI xs i = some v ∧ Q v H
def rIxS : R2 := fun x y H Q => ∃ z i c, x = .str z ∧ y = .int i ∧ z.length ≤ sizeLine ∧ atI z.cps.toList i = some c ∧ Q (.str ⟨#[c]⟩) H
theorem ix_list : IxR X (rIxL X.K) := by
  intro value slice pins s σ H x y v u Q I rx ry h hs
  obtain ⟨p, xs, i, z, rfl, rfl, hq, he, q⟩ := h
  cases rx
  obtain ⟨t, rfl⟩ := ry
  obtain ⟨its, r, pl, hz⟩ := I.list hq
  obtain ⟨j, h1, h2, h3, h4, h5⟩ := atI_get he
  obtain ⟨w, ew, rw'⟩ := r.get h2
  have hl := r.length
  have hn := line63
  have fin : EP X pins σ Q w s := ⟨z, H, I, rw', q⟩
  by_cases h0 : 0 ≤ i
  · have hj : i.toNat = j := by
      rw [seqIndex_of h0 h5] at h1
      exact Option.some.inj h1
    exact item_listR pl.isList h0 (by omega) (by rw [hj]; simpa using ew) fin hs
  · have hj : (i + (its.toArray.size : Int)).toNat = j := by
      rw [seqIndex_neg (by omega) h4] at h1
      rw [List.size_toArray, ← hl]
      exact Option.some.inj h1
    exact subscriptTail_builtinR (x := w) pl.isList.typeIs slot_list_getitem.lookup
      (wpAny_getItem_list_neg (Q := fun r s' => r = w ∧ EP X pins σ Q r s') pl.isList (by omega) (by rw [List.size_toArray] <;> omega) (by omega) (by rw [hj]; simpa using ew) ⟨rfl, fin⟩) hs
theorem ix_tup : IxR X (rIxT X.K) := by
  intro value slice pins s σ H x y v u Q I rx ry h hs
  obtain ⟨p, xs, i, z, rfl, rfl, hq, he, q⟩ := h
  cases rx
  obtain ⟨t, rfl⟩ := ry
  obtain ⟨its, r, pl, hz⟩ := I.tuple hq
  obtain ⟨j, h1, h2, h3, h4, h5⟩ := atI_get he
  obtain ⟨w, ew, rw'⟩ := r.get h2
  have hl := r.length
  have hn := line63
  have fin : EP X pins σ Q w s := ⟨z, H, I, rw', q⟩
  exact subscriptTail_builtinR (x := w) pl.typeIs slot_tuple_getitem.lookup
    (getItem_tuple (j := j) (Q := fun r s' => r = w ∧ EP X pins σ Q r s') pl (by omega) (by omega) (by rw [List.size_toArray, ← hl]; exact h1) (by simpa using ew) ⟨rfl, fin⟩) hs
theorem ix_str : IxR X rIxS := by
  intro value slice pins s σ H x y v u Q I rx ry h hs
  obtain ⟨z, i, c, rfl, rfl, hz, he, q⟩ := h
  obtain ⟨t, rfl⟩ := rx
  obtain ⟨t', rfl⟩ := ry
  obtain ⟨j, h1, h2, h3, h4, h5⟩ := atI_get he
  have hl : z.cps.toList.length = z.length := by simp [Str.length]
  rw [hl] at h1 h4 h5
  have hn := line63
  exact tail_any (typeIs_str s z t) slot_str_getitem.lookup (getItem_str (c := c) (by
    have e1 : decide (i < -(2 ^ 63 : Int)) = false := decide_eq_false (by omega)
    have e2 : decide (i ≥ 2 ^ 63) = false := decide_eq_false (by omega)
    rw [e1, e2, Bool.or_false]) (by rw [h1]; simpa using h2) ⟨.str ⟨#[c]⟩, H, I.tok _, ⟨_, rfl⟩, q⟩) hs
theorem slice_bounds (lo hi : Option Int) (n : Nat) : (sliceBounds lo hi none n).1 = ((HT.sIx n 0 lo : Nat) : Int) ∧ (sliceBounds lo hi none n).2.1 = ((HT.sIx n n hi : Nat) : Int) ∧ (sliceBounds lo hi none n).2.2 = 1 := by
  refine ⟨?_, ?_, rfl⟩
  · cases lo with
    | none => simp [sliceBounds, HT.sIx]
    | some i =>
      simp only [sliceBounds, HT.sIx, Option.getD_none, show (1 : Int) > 0 by decide, if_true]
      by_cases h : i < 0
      · simp only [h, if_true] <;> omega
      · simp only [h, if_false] <;> omega
  · cases hi with
    | none => simp [sliceBounds, HT.sIx]
    | some i =>
      simp only [sliceBounds, HT.sIx, Option.getD_none, show (1 : Int) > 0 by decide, if_true]
      by_cases h : i < 0
      · simp only [h, if_true] <;> omega
      · simp only [h, if_false] <;> omega
theorem slicePick_cut (its : List Value) (lo hi : Option Int) : slicePick its.toArray lo hi none = ((its.drop (HT.sIx its.length 0 lo)).take (HT.sIx its.length its.length hi - HT.sIx its.length 0 lo)).toArray := by
  obtain ⟨h1, h2, h3⟩ := slice_bounds lo hi its.toArray.size
  unfold slicePick
  rw [h1, h2, h3]
  simp only [sliceRange_one, pick_run, List.size_toArray] <;> rfl
def rSlL (K : PySem.W.Frag) : V → Option Int → Option Int → Hp → VK → Prop := fun x lo hi H Q => ∃ a xs, x = .ref a ∧ SqL K H a xs ∧ ∀ p, H p = none → Q (.ref p) (upd H p (.lst (cutV xs lo hi)))
theorem sl_list : SlR X (rSlL X.K) := by
  intro pins s σ H x v vl vu lo hi sl Q I rx hs pl pu h
  obtain ⟨a, xs, rfl, hx, q⟩ := h
  cases rx
  obtain ⟨its, r, ht, hz⟩ := I.list hx
  have hlen := r.length
  refine ⟨"list", _, slot_list_getitem.lookup, ht.isList.typeIs, ?_⟩
  refine wpAny_getItem_list_slice ht.isList hs pl pu .none (by simp) ?_ (by rw [List.size_toArray] <;> omega)
  rw [slicePick_cut, ← hlen]
  refine ⟨.ref s.heap.objs.size, _, I.laid (t' := s.toks) (o := .lst (cutV xs lo hi)) (fun b ob q => Heap.get?_push_of_some _ q) (Nat.le_refl _) ?_, rfl, q _ (I.hok.fresh (Nat.le_refl _))⟩
  exact ⟨Nat.le_trans (cutV_length xs lo hi) hz, _, 0, (r.drop (HT.sIx xs.length 0 lo)).take (HT.sIx xs.length xs.length hi - HT.sIx xs.length 0 lo), Heap.get?_push_size _ rfl⟩

theorem call_tuple_of : CallR X (.type "tuple") (fun xs H Q => ∃ p ys, xs = [.ref p] ∧ ((SqL X.K H p ys ∧ ∀ l, H l = none → Q (.ref l) (upd H l (.tup ys))) ∨ (SqT X.K H p ys ∧ Q (.ref p) H))) := by
  intro pins s σ H xs us Q I r h
  obtain ⟨p, ys, rfl, h⟩ := h
  obtain ⟨u, rfl, rx⟩ := vals1 r
  cases rx
  rcases h with ⟨hq, q⟩ | ⟨hq, q⟩
  · obtain ⟨its, r', pl, hz⟩ := I.list hq
    have hlen := r'.length
    refine call_tuple_list pl.isList (fun h' kp => ?_) (by simp only [List.size_toArray] <;> omega)
    have I1 : Inv X pins σ H { s with heap := h' } := I.kept (t' := s.toks) kp
    have I2 : Inv X pins σ (upd H h'.objs.size (.tup ys)) { s with heap := h'.push { cls := .type "tuple", data := .seq its.toArray } } :=
      I1.laid (t' := s.toks) (fun b o e => Heap.get?_push_of_some _ e) (Nat.le_refl _) (show ObjOk X.prog X.w _ _ _ (.tup ys) from ⟨hz, its, r', IsTup.new _ _⟩)
    exact ⟨.ref h'.objs.size, _, I2, rfl, q _ (I1.hok.fresh (Nat.le_refl _))⟩
  · obtain ⟨its, r', pl, hz⟩ := I.tuple hq
    exact call_tuple_same pl ⟨.ref p, H, I, rfl, q⟩

def tyV (K : PySem.W.Frag) (T : String) (x : V) (H : Hp) : Prop := match x with
  | .str _ => T = "str"
  | .int _ => T = "int"
  | .ref p => (T = "list" ∧ ∃ xs, SqL K H p xs) ∨ (T = "tuple" ∧ ∃ o, K.lookup p = some o ∧ o.cls = .type "tuple" ∧ o.dict = none) ∨
      (T = "dict" ∧ ((∃ kvs, H p = some (.dK kvs)) ∨ ∃ kvs, H p = some (.dT kvs))) ∨ (T = "set" ∧ ∃ S n, H p = some (.set S n))
  | _ => False
theorem tyV_is {pins : List (Addr × Obj)} {σ : St} {H : Hp} {s : Shared} {T : String} {x : V} {v : Value} (I : Inv X pins σ H s) (r : RelV x v) (ty : tyV X.K T x H) :
    s.TypeIs v T ∧ ∀ a, v = .ref a → ∃ ob, s.heap.get? a = some ob ∧ ob.dict = none := by
  cases x with
  | str z =>
    obtain ⟨t, rfl⟩ := r
    cases (show T = "str" from ty)
    exact ⟨typeIs_str s z t, fun _ e => nomatch e⟩
  | int i =>
    obtain ⟨t, rfl⟩ := r
    cases (show T = "int" from ty)
    exact ⟨typeIs_int s i t, fun _ e => nomatch e⟩
  | ref p =>
    cases r
    rcases ty with ⟨rfl, xs, hq⟩ | ⟨rfl, o, hk, hc, hd⟩ | ⟨rfl, hk⟩ | ⟨rfl, S, n, hk⟩
    · obtain ⟨its, _, pl, _⟩ := I.list hq
      refine ⟨pl.isList.typeIs, fun a e => ?_⟩
      cases e
      obtain ⟨o, n, e, c, hd, _⟩ := pl
      exact ⟨o, e, hd⟩
    · refine ⟨⟨o, I.kIn p o hk, hc⟩, fun a e => ?_⟩
      cases e
      exact ⟨o, I.kIn _ o hk, hd⟩
    · have z : ∃ o, s.heap.get? p = some o ∧ o.ExactDict := by
        rcases hk with ⟨kvs, hk⟩ | ⟨kvs, hk⟩
        · obtain ⟨_, _, _, _, o, _, _, e, ex, _⟩ := I.hok p _ hk
          exact ⟨o, e, ex⟩
        · exact (show False from I.hok p _ hk).elim
      obtain ⟨o, e, ex⟩ := z
      refine ⟨⟨o, e, ex.1⟩, fun a e2 => ?_⟩
      cases e2
      exact ⟨o, e, ex.2.1⟩
    · obtain ⟨o, _, _, _, e, ex, _⟩ := I.hok p _ hk
      refine ⟨⟨o, e, ex.1⟩, fun a e2 => ?_⟩
      cases e2
      exact ⟨o, e, ex.2.1⟩
  | _ => exact False.elim ty
def tBM0 (K : PySem.W.Frag) (T : String) (r : V → List V → Hp → VK → Prop) (to : TE) : TE := fun σ H Q => to σ H fun x H1 => tyV K T x H1 ∧ r x [] H1 Q
def tBM (K : PySem.W.Frag) (T : String) (r : V → List V → Hp → VK → Prop) (to : TE) (t : TA) : TE := fun σ H Q => to σ H fun x H1 => tyV K T x H1 ∧ t σ H1 fun xs H2 => r x xs H2 Q
variable {o e : Expr} {es : List Expr} {to : TE} {t : TA} {name : Str} {apos cpos : Pos} {T id : String} {r : V → List V → Hp → VK → Prop}
theorem pe_bm0 (pa : PlainAttrs T) (slot : Slot T name id) (hty : typeOf (.builtin id) = pure (.type "method_descriptor")) (hm : MtR X id r) (ho : PE X o to)
    (hbase : attributeBase o name X.env (eval o X.env) = eval o X.env := by rfl) (hline : (apos.endLine == cpos.line) = true := by rfl) : PE X (.Call (.Attribute o name apos) [] [] cpos) (tBM0 X.K T r to) := by
  intro pins s σ H Q I h
  refine wpAny_Call_method0_late hbase hline (thn (ho pins s σ H _ I h) fun v s1 ⟨x, H1, I1, r1, ty, q1⟩ => ?_)
  obtain ⟨h1, h2⟩ := tyV_is I1 r1 ty
  exact ⟨T, id, pa, slot, hty, h1, h2, Calls.callWith_builtin rfl (PySem.evalArgs_none (hm pins s1 σ H1 x [] v [] Q I1 r1 .nil q1))⟩
theorem pe_bm (pa : PlainAttrs T) (slot : Slot T name id) (hty : typeOf (.builtin id) = pure (.type "method_descriptor")) (hm : MtR X id r) (ho : PE X o to) (ha : PA X (e :: es) t)
    (hbase : attributeBase o name X.env (eval o X.env) = eval o X.env := by rfl)
    (hfew : ((backTo cpos (starEach (e :: es) X.env)).all (fun x => !x.1) && (backToKw cpos (keywordEach [] X.env)).all (fun x => x.1.isSome)
      && decide ((e :: es).length + ([] : List Keyword).length + (if ([] : List Keyword).isEmpty then 0 else 1) < 30)) = true := by rfl)
    (hline : (apos.endLine == cpos.line) = true := by rfl) (hs : starEach (e :: es) X.env = (false, eval e X.env) :: starEach es X.env := by rfl) (hplain : (backTo cpos (starEach es X.env)).any (·.1) = false := by rfl) :
    PE X (.Call (.Attribute o name apos) (e :: es) [] cpos) (tBM X.K T r to t) := by
  intro pins s σ H Q I h
  refine wpAny_Call_method_late hbase hfew hline rfl (thn (ho pins s σ H _ I h) fun v s1 ⟨x, H1, I1, r1, ty, q1⟩ => ?_)
  obtain ⟨h1, h2⟩ := tyV_is I1 r1 ty
  refine ⟨T, id, pa, slot, hty, h1, h2, ?_⟩
  have hA := ha cpos pins s1 σ H1 _ I1 q1
  rw [hs] at hA ⊢
  refine Calls.callWith_builtin (by show (false || (backTo cpos (starEach es X.env)).any (·.1)) = false; rw [hplain] <;> rfl) (Calls.evalArgs_plain ?_)
  exact thn hA fun us s2 ⟨vs, H2, I2, r2, q2⟩ => hm pins s2 σ H2 x vs v us Q I2 r1 r2 q2
end
end L2

namespace L2
open PySem PySem.Spec PyProof.Rows

def MtM (X : Cx) (id : String) (r : V → List V → Hp → VK → Prop) : Prop :=
  ∀ (pins : List (Addr × Obj)) (s : Shared) (σ : St) (H : Hp) (x : V) (xs : List V) (v : Value) (us : List Value) (Q : VK), Inv X pins σ H s → RelV x v → Vals xs us → r x xs H Q →
    wpAny (model X.prog X.w) X.A (call (.builtin id) (v :: us)) (EP X pins σ Q) X.xe s

theorem Vals.one : ∀ {x : V} {us : List Value}, Vals [x] us → ∃ u, us = [u] ∧ RelV x u
  | _, _, .cons r .nil => ⟨_, rfl, r⟩
theorem Vals.rep {xs : List V} {us : List Value} (h : Vals xs us) : ∀ k : Nat, Vals (List.replicate k xs).flatten (List.replicate k us).flatten
  | 0 => .nil
  | k + 1 => by
    rw [List.replicate_succ, List.replicate_succ, List.flatten_cons, List.flatten_cons]
    exact Vals.append h (Vals.rep h k)
theorem foldl_rep (its : List Value) : ∀ (k : Nat) (acc : List Value),
    List.foldl (fun x1 x2 => x1 ++ x2) acc.toArray (List.replicate k its.toArray) = (acc ++ (List.replicate k its).flatten).toArray
  | 0, acc => by simp
  | k + 1, acc => by
    have e : acc.toArray ++ its.toArray = (acc ++ its).toArray := by simp
    have e2 : (acc ++ its) ++ (List.replicate k its).flatten = acc ++ (List.replicate (k + 1) its).flatten := by
      rw [List.replicate_succ, List.flatten_cons, List.append_assoc]
    rw [← e2, ← foldl_rep its k (acc ++ its), ← e, List.replicate_succ, List.foldl_cons]

section
variable {X : Cx} {pins : List (Addr × Obj)} {σ : St} {H : Hp} {s : Shared} {l b : Addr} {xs ys zs : List V}

theorem Inv.lset {its its' : List Value} {n : Nat} {f : Array Value → Array Value} {t' : Nat} (I : Inv X pins σ H s) (hH : H l = some (.lst xs))
    (e : s.heap.get? l = some { cls := .type "list", data := .seq its.toArray n }) (hf : f its.toArray = its'.toArray) (hv : Vals ys its') (hz : ys.length ≤ sizeLine) :
    Inv X pins σ (upd H l (.lst ys)) { s with heap := s.heap.update l (Obj.mapSeq f), toks := t' } := by
  have q := PySem.IsL.update e f
  rw [hf] at q
  refine I.write (x := l) (e := l) (by rw [hH]; exact trivial) (.inl rfl) (fun b' u hb hu => (Heap.get?_update_other s.heap (Obj.mapSeq f) (Ne.symm hb)).trans hu) ⟨_, q⟩ ?_
  exact ⟨hz, its', _, hv, q⟩
theorem Inv.lnew {its : List Value} {t' : Nat} (I : Inv X pins σ H s) (hv : Vals ys its) (hz : ys.length ≤ sizeLine) :
    Inv X pins σ (upd H s.heap.objs.size (.lst ys)) { s with heap := s.heap.push { cls := .type "list", data := .seq its.toArray }, toks := t' } :=
  I.laid (fun _ _ q => Heap.get?_push_of_some _ q) (Nat.le_refl _) ⟨hz, its, 0, hv, Heap.get?_push_size _ rfl⟩
theorem Inv.fresh (I : Inv X pins σ H s) : H s.heap.objs.size = none := I.hok.fresh (Nat.le_refl _)
theorem Inv.lstM (I : Inv X pins σ H s) (hH : H l = some (.lst xs)) : xs.length ≤ sizeLine ∧ ∃ (its : List Value) (n : Nat), Vals xs its ∧ xs.length = its.length ∧ s.heap.get? l = some { cls := .type "list", data := .seq its.toArray n } := by
  obtain ⟨z, its, n, r, e⟩ := I.hok l _ hH
  exact ⟨z, its, n, r, r.length, e⟩

theorem notLongL {n : Nat} (h : n ≤ sizeLine) : Builtin.List.listTooLong n = false := by
  unfold Builtin.List.listTooLong
  exact decide_eq_false (by omega)
end

section
variable {X : Cx}

def rAppend : V → List V → Hp → VK → Prop := fun x vs H Q => ∃ l xs y, x = .ref l ∧ vs = [y] ∧ H l = some (.lst xs) ∧ xs.length < sizeLine ∧ Q .non (upd H l (.lst (xs ++ [y])))
theorem mt_append : MtM X "list.append" rAppend := by
  intro pins s σ H x vs v us Q I rx rv h
  obtain ⟨l, xs, y, rfl, rfl, hH, hz, q⟩ := h
  cases rx
  obtain ⟨u, rfl, ru⟩ := rv.one
  obtain ⟨z, its, n, r, hl, e⟩ := I.lstM hH
  refine call_meets F.slot_list_append ⟨_, e, rfl⟩ F.entry_list_append (F.args_list_append_2 _ _) (PySem.list_append l its.toArray n u (by rw [List.size_toArray]; omega)) ⟨e, ?_⟩
  refine ⟨.non, _, I.lset (its' := its ++ [u]) hH e (by simp) (r.append (.cons ru .nil)) ?_, rfl, q⟩
  rw [List.length_append, List.length_singleton]
  omega

def rCat : R2 := fun x y H Q => ∃ l b xs zs, x = .ref l ∧ y = .ref b ∧ H l = some (.lst xs) ∧ H b = some (.lst zs) ∧ xs.length + zs.length ≤ sizeLine ∧ ∀ p, H p = none → Q (.ref p) (upd H p (.lst (xs ++ zs)))
theorem op_cat : OpR X (binaryOp .Add) rCat := by
  intro pins s σ H x y v u Q I rx ry h
  obtain ⟨l, b, xs, zs, rfl, rfl, hH, hB, hz, q⟩ := h
  cases rx
  cases ry
  obtain ⟨z, its, n, r, hl, e⟩ := I.lstM hH
  obtain ⟨z2, its2, n2, r2, hl2, e2⟩ := I.lstM hB
  refine PySem.P.add_list e e2 ?_ (by rw [List.size_toArray, List.size_toArray]; omega)
  have ea : its.toArray ++ its2.toArray = (its ++ its2).toArray := by simp
  rw [ea]
  exact ⟨.ref _, _, I.lnew (t' := s.toks) (r.append r2) (by rw [List.length_append]; omega), rfl, q _ I.fresh⟩
def rRep : R2 := fun x y H Q => ∃ l k xs, x = .ref l ∧ y = .int k ∧ H l = some (.lst xs) ∧ -(2 ^ 63) ≤ k ∧ k < 2 ^ 63 ∧ xs.length * k.toNat ≤ sizeLine ∧
  ∀ p, H p = none → Q (.ref p) (upd H p (.lst (List.replicate k.toNat xs).flatten))
theorem len_rep {α : Type} (xs : List α) (k : Nat) : (List.replicate k xs).flatten.length = k * xs.length := by
  induction k with
  | zero => simp
  | succ k ih => rw [List.replicate_succ, List.flatten_cons, List.length_append, ih, Nat.succ_mul, Nat.add_comm]
theorem op_rep : OpR X (binaryOp .Mult) rRep := by
  intro pins s σ H x y v u Q I rx ry h
  obtain ⟨l, k, xs, rfl, rfl, hH, h1, h2, hz, q⟩ := h
  cases rx
  obtain ⟨t, rfl⟩ := ry
  obtain ⟨z, its, n, r, hl, e⟩ := I.lstM hH
  have hlen : its.toArray.size * k.toNat ≤ sizeLine := by rw [List.size_toArray, ← hl]; exact hz
  have hcap : ¬ its.toArray.size * k.toNat > (2 ^ 63 - 1) / 8 := by
    have : (sizeLine : Nat) ≤ (2 ^ 63 - 1) / 8 := by decide
    omega
  have hfit : ¬ (!Builtin.List.listFitsIndex k) = true := by
    rw [fitsIndex_both h1 h2]
    exact Bool.false_ne_true
  have hlong : ¬ Builtin.List.listTooLong (its.toArray.size * k.toNat) = true := by
    rw [notLongL hlen]
    exact Bool.false_ne_true
  have hnew : List.foldl (fun x1 x2 => x1 ++ x2) #[] (List.replicate (if its.toArray.isEmpty = true then 0 else k.toNat) its.toArray) = (List.replicate k.toNat its).flatten.toArray := by
    have f0 : ∀ m : Nat, List.foldl (fun x1 x2 => x1 ++ x2) #[] (List.replicate m its.toArray) = (List.replicate m its).flatten.toArray := fun m => by
      have := foldl_rep its m []
      rw [List.nil_append] at this
      exact this
    rw [f0]
    cases its with
    | nil => simp
    | cons a r' => rw [if_neg (by simp)]
  refine wpAny_binaryOp_repeat_ref (T := "list") (U := "int") (by decide) ⟨_, e, rfl⟩ (fun s' => typeIs_int s' k t) noFill_list_mul F.fills_int_mul F.slot_int_rmul repeat_list F.slot_int_index.lookup
    (call_meets F.slot_int_rmul (typeIs_int s k t) F.entry_int_rmul (F.args_int_rmul_2 _ _) (int___rmul___int_list k t l its.toArray n)
      ⟨e, rfl, ⟨_, e, rfl⟩, call_meets F.slot_list_mul ⟨_, e, rfl⟩ F.entry_list_mul (F.args_list_mul_2 _ _) (AutoListH.list___mul___list_int_3 l its.toArray n k t hfit hcap hlong) ⟨e, ?_⟩⟩)
  rw [hnew]
  exact ⟨.ref _, _, I.lnew (t' := s.toks) (r.rep k.toNat) (by rw [len_rep, Nat.mul_comm]; exact hz), rfl, q _ I.fresh⟩

end

section
variable {prog : Program} {w : World} {A : Around} {E : Value → Shared → Prop} {s : Shared}
set_option maxRecDepth 100000 in
end

section
variable {X : Cx}
end
end L2

namespace Att
open PySem PySem.W PySem.Calls PyProof.Rows

theorem ints_of_wellAll {P : Params} {h : Heap} : ∀ (ns : List Int) (vs : List Value), WellAll P h vs (ns.map WData.int) → IntsAre vs ns := by
  intro ns
  induction ns with
  | nil =>
    intro vs w
    rw [List.map_nil] at w
    cases w
    exact .nil
  | cons n ns ih =>
    intro vs w
    rw [List.map_cons] at w
    cases w with
    | cons a b =>
      cases a
      exact .cons _ _ (ih _ b)

theorem script_of {l : OpenLaw} {n : Nat} (hn : l.most = some n) {P : Params} {h : Heap} {args : List WData} {vals : List Value}
    (hpre : l.row.toRowW.claim.pre args = true) (hwl : WellAll P h vals args) :
    ∃ a vs ns, vals = [Value.ref a] ∧ args = [WData.list (ns.map WData.int)] ∧ h.get? a = some { cls := .type "list", data := .seq vs.toArray } ∧ IntsAre vs ns ∧ ns.length ≤ n := by
  have hsh : WShape.hasAll [] args [.list .int] = true := (pre_splitW hpre).1
  have hc : l.pre.holds [] { args := args } = true := (pre_splitW hpre).2
  obtain ⟨d, r, rfl, h1, h2⟩ := hasAllW_cons hsh
  obtain rfl := hasAllW_nil h2
  obtain ⟨xs, rfl, h3⟩ := hasW_list h1
  obtain ⟨ns, rfl⟩ := items_int h3
  have hlen : ns.length ≤ n := by
    unfold OpenLaw.pre at hc
    have h4 : (WTm.not (.lt (.lit (.int (n : Int))) (.len (.arg 0)))).holds [] { args := [.list (ns.map .int)] } = true := by
      have h4 := (holds_andW hc).1
      rw [hn] at h4
      exact h4
    have h5 := condW_of h4 (w_not (w_lt w_lit (w_len_list (w_arg rfl))))
    rw [List.length_map] at h5
    refine Nat.le_of_not_lt fun q => ?_
    have q' : (n : Int) < ((ns.length : Nat) : Int) := by omega
    first
      | (rw [decide_eq_true q'] at h5; exact absurd h5 (by decide))
      | (simp at h5; omega)
  cases hwl with
  | cons w1 w2 =>
    cases w2
    cases w1 with
    | list ho hall => exact ⟨_, _, ns, rfl, rfl, ho, ints_of_wellAll ns _ hall, hlen⟩

theorem post_true (l : OpenLaw) (args : List WData) : l.row.toRowW.claim.post args (.bool true) args = true :=
  postW_of (r := l.row.toRowW) (X := (true == true))
    (show WShape.has [] (.bool true) .bool = true by first | rfl | decide | simp [WShape.has, WShape.arms, WShape.armsAll])
    (show (WTm.eq .res (.lit (.bool true))).value [] { args := args, res := some (.bool true), after := args } = some (.bool (true == true)) from w_eq_bool (w_res rfl) w_lit) rfl

theorem attach_call {l : OpenLaw} {n : Nat} {q : Program} {loose : List Str} {XP : (Str → Option Value) → Heap → Prop} {YP : World → Heap → Prop} {d : DefRec}
    (hn : l.most = some n) (hdf : d.params.defaults = [])
    (call : ∀ (w : World) (s₀ s₁ : Shared) (mg mb : Str → Option Value) (fa : Addr) (o : Obj) (pm cd doc : Value) (a : Addr) (vs : List Value) (ns : List Int),
      Ground q loose [] XP w s₀ mg mb s₁.heap → YP w s₁.heap →
      s₁.heap.get? fa = some o → o.data = .func (docDef d.name d.params d.body d.scope pm cd doc) → s₁.heap.CodeRec cd d.name → mg d.name = some (.ref fa) →
      s₁.heap.get? a = some { cls := .type "list", data := .seq vs.toArray } → IntsAre vs ns → ns.length ≤ n → s₁.gens = #[] →
      codeAny (model l.prog w) callerA (.call (.ref fa) ⟨[.ref a], []⟩) (fun r s' => r = .ok (.ret (.bool true)) ∧ OldK s₁.heap s'.heap ∧ s'.os = s₁.os ∧ AllBare s'.gens) s₁) :
    WalkO q loose XP YP l.row.toRowW d [] (fun f vs => PySem.call f vs) := by
  intro w s₀ s₁ mg mb G Y fa o pm cd doc dV kV ho hd hcd hD hmg hg args vals as hpre hlay hrd hwl hlo
  obtain rfl : dV = .none := Dflts.none hD hdf
  obtain rfl : kV = .none := Dflts.noKw hD
  obtain ⟨a, vs, ns, rfl, rfl, hobj, hints, hlen⟩ := script_of hn hpre hwl
  refine enter_call (codeAny_mono (call w s₀ s₁ mg mb fa o pm cd doc a vs ns G Y ho (fd_plain hd) hcd hmg hobj hints hlen hg) fun r s' hq => ?_)
  obtain ⟨rfl, h2, h3, h4⟩ := hq
  exact ⟨.inl ⟨.bool true, .bool true, [], rfl, fun _ => rfl, .bool true, post_true l _, fun _ => ⟨List.Pairwise.nil, fun _ hm => (nomatch hm)⟩⟩, h2, h3, h4⟩

section
variable {prog : Program} {w : World} {A : Around} {E : Value → Shared → Prop} {s : Shared} {K : Frag}

def ledger (h : Heap) (L d : Addr) : List (Addr × Obj) := (List.range h.objs.size).filterMap fun a => if a = L ∨ a = d then none else (h.get? a).map fun o => (a, o)
end
end Att

namespace L2
open PySem PySem.Spec PyProof.Rows

theorem vals_ints : ∀ {vs : List Value} {ns : List Int}, IntsAre vs ns → Vals (ns.map V.int) vs
  | _, _, .nil => .nil
  | _, _, .cons n t h => .cons ⟨t, rfl⟩ (vals_ints h)

def Only (H : Hp) : Prop := ∀ b, H b = none ∨ ∃ o xs, H b = some (.frz o (.lst xs))

theorem law_call {P : Program} {w : World} {K : PySem.W.Frag} {mg mb : Str → Option Value} {CX : CXT} {k : Nat} {fa a : Addr} {fd : FuncData} {x : Str} {sp : Sp} {s₁ : Shared} {vs : List Value} {ns : List Int}
    (KX : K.In s₁.heap) (hns : s₁.heap.Ns mainGlobals mg) (hb : s₁.heap.Ns builtinsNs mb) (hbb : ∀ x : Str, x ≠ "__name__" → mb x = bootBuiltins x) (hlim : s₁.heap.NoLimit) (hg : s₁.gens = #[])
    (ha : s₁.heap.get? a = some { cls := .type "list", data := .seq vs.toArray }) (hi : IntsAre vs ns) (hl : ns.length ≤ sizeLine) (hr : Room k callerA)
    (F : ∀ base : Heap, K.In base → base.Ns mainGlobals mg → FnOk P w K mg base CX k fa fd [x] sp) (hbind : ∀ (s : Shared) (u : Value), BindsTo s fd ⟨[u], []⟩ [(x, u)])
    (hsp : ∀ H : Hp, Only H → SqL K H a (ns.map V.int) → sp [.ref a] H (fun v _ => v = .bl true) fun _ _ _ => False)
    (hCX : ∀ H e s', CX [] H s₁ (fun _ _ _ => False) e s' → False) :
    codeAny (model P w) callerA (.call (.ref fa) ⟨[.ref a], []⟩) (fun r s' => r = .ok (.ret (.bool true)) ∧ OldK s₁.heap s'.heap ∧ s'.os = s₁.os ∧ AllBare s'.gens) s₁ := by
  have rv := vals_ints hi
  have lenV := hi.length
  -- from an abstract heap in which nothing but the script may be tracked
  have core : ∀ H : Hp, Only H → SqL K H a (ns.map V.int) → HOk P w H s₁.heap → (∀ b, H b ≠ none → b = a) → (H a ≠ none → K.lookup a = none) →
      codeAny (model P w) callerA (.call (.ref fa) ⟨[.ref a], []⟩) (fun r s' => r = .ok (.ret (.bool true)) ∧ OldK s₁.heap s'.heap ∧ s'.os = s₁.os ∧ AllBare s'.gens) s₁ := by
    intro H hO hS hok hA hK
    have base_of : ∀ {b : Addr} {o : Obj}, s₁.heap.get? b = some o → H b = none → (hidT s₁.heap H).get? b = some o := fun e n => hidT_get e n
    have noA : ∀ {b : Addr} {o : Obj} {es : Array DictEntry} {ep : Nat}, s₁.heap.get? b = some o → o.data = .dict es ep → H b = none := fun {b o es ep} e d => by
      cases q : H b with
      | none => rfl
      | some u =>
        have e' : b = a := hA b (by rw [q]; simp)
        subst e'
        rw [ha] at e; cases e
        have d' : Data.seq vs.toArray _ = Data.dict es ep := d
        cases d'
    have nsK : ∀ {b : Addr} {m : Str → Option Value}, s₁.heap.Ns b m → (hidT s₁.heap H).Ns b m := fun {b m} ⟨o, es, ep, e, d, r⟩ => ⟨o, es, ep, base_of e (noA e d), d, r⟩
    have hKb : K.In (hidT s₁.heap H) := fun b o e => base_of (KX b o e) (by
      cases q : H b with
      | none => rfl
      | some u =>
        have e' : b = a := hA b (by rw [q]; simp)
        subst e'
        rw [hK (by rw [q]; simp)] at e; cases e)
    have hM : Mod K mg (hidT s₁.heap H) := ⟨hKb, nsK hns, ⟨mb, nsK hb, hbb⟩, let ⟨mc, h1, h2⟩ := hlim; ⟨mc, nsK h1, h2⟩⟩
    have e0 : Env0 P w K mg (hidT s₁.heap H) callerA [] s₁ H := ⟨rfl, hM, fun b o e => of_hidT e, Nat.le_of_eq (hidT_size _ _), trivial, fun b hb => absurd (show b ∈ ([] : List Addr) from hb) (by simp), hok, .of_eq hg⟩
    refine codeAny_mono ((F _ hKb (nsK hns)).run callerA [] s₁ H ⟨[.ref a], []⟩ [.ref a] [.ref a] _ _ hr e0 (hbind s₁ (.ref a)) (.cons rfl .nil) (hsp H hO hS)) fun r s' h => ?_
    cases r with
    | error e => exact (hCX H e s' h).elim
    | ok fl =>
      cases fl with
      | next => exact False.elim h
      | brk => exact False.elim h
      | cont => exact False.elim h
      | ret u =>
        obtain ⟨v, H', os, bare, un, hok', r', q⟩ := h
        have q' : v = .bl true := q
        subst q'
        obtain rfl : u = Value.bool true := r'
        refine ⟨rfl, OldK.of_keep fun b o e => ?_, os, bare⟩
        cases q : H b with
        | none => exact un.keep b o e q (by intro z; exact absurd (show b ∈ ([] : List Addr) from z) (by simp)) (by simp)
        | some u =>
          rcases hO b with z | ⟨ob, xs, z⟩
          · rw [q] at z; cases z
          · have z2 := un.frzs b ob _ z
            obtain ⟨e1, _⟩ := hok b _ z
            obtain ⟨e2, _⟩ := hok' b _ z2
            rw [e] at e1; cases e1
            exact e2
  cases hk : K.lookup a with
  | some o =>
    -- the script is one of the module's own objects
    have e := KX a o hk
    rw [ha] at e
    cases e
    refine core (fun _ => none) (fun _ => .inl rfl) (.inr ⟨_, vs.toArray, _, hk, rfl, rfl, rfl, by rw [List.size_toArray, lenV]; exact hl, by simpa using rv⟩) (fun b u z => by have z' : (none : Option HO) = some u := z; cases z') (fun b z => absurd rfl z) fun z => absurd rfl z
  | none =>
    refine core (fun b => if b = a then some (.frz { cls := .type "list", data := .seq vs.toArray } (.lst (ns.map V.int))) else none) (fun b => ?_) (.inl (.inr ⟨{ cls := .type "list", data := .seq vs.toArray }, if_pos rfl⟩)) (fun b u z => ?_) (fun b z => ?_) fun _ => hk
    · by_cases hb : b = a
      · exact .inr ⟨_, _, if_pos hb⟩
      · exact .inl (if_neg hb)
    · by_cases hb : b = a
      · have z' := (if_pos hb).symm.trans z
        cases z'
        subst hb
        exact ⟨ha, by rw [List.length_map]; exact hl, vs, _, rv, ha⟩
      · have z' := (if_neg hb).symm.trans z
        cases z'
    · by_cases hb : b = a
      · exact hb
      · exact absurd (if_neg hb) z
end L2

namespace L2
open PySem PySem.Spec PyProof.Rows

theorem walk_of {l : PySem.W.OpenLaw} {n k : Nat} {q : Program} {loose : List Str} {XP : (Str → Option Value) → Heap → Prop} {YP : World → Heap → Prop} {d : DefRec} {K : Params → PySem.W.Frag} {CX : World → CXT} {sp : World → Sp} {x : Str}
    (hn : l.most = some n) (hn2 : n ≤ sizeLine) (hdf : d.params.defaults = []) (hr : Room k callerA)
    (hY : ∀ (w : World) (h : Heap), YP w h → (K w.params).In h)
    (F : ∀ (w : World) (mg : Str → Option Value) (fa : Addr) (h : Heap), (K w.params).In h → h.Ns mainGlobals mg → mg d.name = some (.ref fa) →
      ∃ fd : FuncData, (∀ (s : Shared) (u : Value), BindsTo s fd ⟨[u], []⟩ [(x, u)]) ∧
        ∀ base : Heap, (K w.params).In base → base.Ns mainGlobals mg → FnOk l.prog w (K w.params) mg base (CX w) k fa fd [x] (sp w))
    (hsp : ∀ (w : World) (H : Hp) (a : Addr) (ns : List Int), ns.length ≤ n → Only H → SqL (K w.params) H a (ns.map V.int) → sp w [.ref a] H (fun v _ => v = .bl true) fun _ _ _ => False)
    (hCX : ∀ (w : World) (H : Hp) (s : Shared) (e : Value) (s' : Shared), CX w [] H s (fun _ _ _ => False) e s' → False) :
    PySem.W.WalkO q loose XP YP l.row.toRowW d [] (fun f vs => PySem.call f vs) := by
  refine Att.attach_call hn hdf fun w s₀ s₁ mg mb fa o pm cd doc a vs ns G Y ho hd hcd hmg hobj hints hlen hg => ?_
  have KX := hY w _ Y
  obtain ⟨fd, hb, hF⟩ := F w mg fa _ KX G.T.g hmg
  exact law_call KX G.T.g G.T.b G.T.builtins G.T.nolimit hg hobj hints (Nat.le_trans hlen hn2) hr hF hb (fun H hO hS => hsp w H a ns hlen hO hS) fun H e s' => hCX w H s₁ e s'
end L2


namespace L2
open PySem PySem.Spec PyProof.Rows

def inClass (s : Stmt) (j : Nat) : Stmt := match s with
  | .ClassDef _ _ _ body _ _ _ _ _ _ _ => body.getD j (.Pass ⟨0, 0, 0, 0⟩)
  | _ => .Pass ⟨0, 0, 0, 0⟩
def defArgs (s : Stmt) : Arguments := match s with
  | .FunctionDef _ a _ _ _ _ _ _ _ _ => a
  | _ => { posonlyargs := [], args := [], vararg := none, kwonlyargs := [], kw_defaults := [], kwarg := none, defaults := [] }
def defBody (s : Stmt) : List Stmt := match s with
  | .FunctionDef _ _ b _ _ _ _ _ _ _ => b
  | _ => []
def defScope (s : Stmt) : Scope := match s with
  | .FunctionDef _ _ _ _ _ _ sc _ _ _ => sc
  | _ => { kind := .function, names := [], isGenerator := false, isCoroutine := false }

abbrev CX0 : CXT := fun _ _ _ _ _ _ => False
abbrev E0 : XK := fun _ _ _ => False
theorem pass0 {X : Cx} : Passes CX0 X E0 := fun _ _ _ _ _ _ _ h => h.elim

structure Fun (K : PySem.W.Frag) (x qual : Str) (st : Stmt) (f : Addr) (fd : FuncData) : Prop where
  ex : ∃ (oc : Value) (od : Option Addr) (kV doc pm : Value) (an : Option Addr) (cdv ct : Value) (osl : Array (Option Value)),
    fd = PySem.W.fnOf x qual (defArgs st) (defBody st) (defScope st) .none kV doc pm an cdv ct ∧ K.lookup f = some ⟨oc, od, .func fd, osl⟩ ∧ PySem.W.codeIn K cdv qual = true
  kp : PySem.W.keepIn K (.ref f) = true
section
variable {P : Program} {w : World} {K : PySem.W.Frag} {mg : Str → Option Value} {base : Heap}
theorem Fun.ok {x qual : Str} {st : Stmt} {f : Addr} {fd : FuncData} {N ps : List Str} {k : Nat} {sp : Sp} (F : Fun K x qual st f fd) (S : FnScope N ps (defScope st)) (len : ∀ vs H Q E, sp vs H Q E → vs.length = ps.length)
    (hbody : ∀ (cdv : Value) (A : Around) (outer : List Env) (s : Shared) (H : Hp) (vs : List V) (Q : VK) (E : XK), Room k (A.deeper (envOfC qual (defScope st) s.heap.objs.size f cdv)) → sp vs H Q E →
      ∃ t, PSs (cxOf CX0 P w K mg base N qual (defScope st) f cdv A outer s H E).nox (defBody st) t ∧ t { nx := fun _ H' => Q .non H', rt := Q } (start N vs) H) : FnOk P w K mg base CX0 (k + 1) f fd ps sp := by
  obtain ⟨oc, od, kV, doc, pm, an, cdv, ct, osl, rfl, lk, hcd⟩ := F.ex
  refine fn_of lk hcd S len fun A outer s H vs Q E hr hsp => ?_
  obtain ⟨t, h, q⟩ := hbody cdv A outer s H vs Q E hr hsp
  exact ⟨t, h.nox, q⟩
theorem Fun.binds {x qual : Str} {st : Stmt} {f : Addr} {fd : FuncData} {ps : List Str} (F : Fun K x qual st f fd)
    (h : ∀ (kV doc pm : Value) (an : Option Addr) (cdv ct : Value) (us : List Value), us.length = ps.length → bindArgs (PySem.W.fnOf x qual (defArgs st) (defBody st) (defScope st) .none kV doc pm an cdv ct) ⟨us, []⟩ = pure (ps.zip us)) : Binds K fd ps [] := by
  obtain ⟨oc, od, kV, doc, pm, an, cdv, ct, osl, rfl, lk, hcd⟩ := F.ex
  exact .all (h kV doc pm an cdv ct)
theorem fun_mk {x qual : Str} {st : Stmt} {f : Addr} {oc : Value} {od an : Option Addr} {osl : Array (Option Value)} {kV doc pm cdv ct : Value} (l : K.lookup f = some ⟨oc, od, .func (PySem.W.fnOf x qual (defArgs st) (defBody st) (defScope st) .none kV doc pm an cdv ct), osl⟩)
    (c : PySem.W.codeIn K cdv qual = true) (k : PySem.W.keepIn K (.ref f) = true) : Fun K x qual st f (PySem.W.fnOf x qual (defArgs st) (defBody st) (defScope st) .none kV doc pm an cdv ct) := ⟨⟨oc, od, kV, doc, pm, an, cdv, ct, osl, rfl, l, c⟩, k⟩
end
section
variable {X : Cx}
theorem pv (i : Nat) {x : Str} {pos : Pos} (hN : X.N[i]? = some x := by rfl) (hv : Vis X.env.scope x := by first | exact Or.inl rfl | exact Or.inr (Or.inl rfl) | exact Or.inr (Or.inr rfl)) (hd : (x == ("__debug__" : Str)) = false := by decide)
    (hcd : (x == ("__classdict__" : Str)) = false := by decide) : PE X (.Name x pos) (tVar i) := pe_var hN hv hd hcd
end

theorem iteF {A B : Prop} (h : B) : if false = true then A else B := by
  rw [if_neg Bool.false_ne_true]
  exact h
theorem iteT {A B : Prop} (h : A) : if true = true then A else B := by
  rw [if_pos rfl]
  exact h
theorem iteNS {c A B : Prop} [Decidable c] (hc : c) (h : B) : if (!decide c) = true then A else B := by
  rw [decide_eq_true hc]
  exact iteF h

def Same (H H' : Hp) : Prop := ∀ b o, H b = some o → H' b = some o
theorem Same.refl (H : Hp) : Same H H := fun _ _ h => h
theorem Same.trans {H H1 H2 : Hp} (a : Same H H1) (b : Same H1 H2) : Same H H2 := fun c o h => b c o (a c o h)
theorem Same.free {H H' : Hp} (e : Same H H') {l : Addr} (h : H' l = Option.none) : H l = Option.none := by
  cases q : H l with
  | none => rfl
  | some o =>
    rw [e l o q] at h
    cases h
theorem Same.seq {K : PySem.W.Frag} {H H' : Hp} {a : Addr} {xs : List V} (e : Same H H') (h : SqL K H a xs) : SqL K H' a xs := by
  rcases h with (h | ⟨o, h⟩) | h
  · exact .inl (.inl (e _ _ h))
  · exact .inl (.inr ⟨o, e _ _ h⟩)
  · exact .inr h

end L2

section
namespace L2
open PySem PySem.Spec PyProof.Rows
section
variable {X : Cx}
theorem mt_bitlen : MtR X "int.bit_length" (fun x xs H Q => ∃ i, x = .int i ∧ xs = [] ∧ Q (.int ((Builtin.Int.intBits i : Nat) : Int)) H) := by
  intro pins s σ H x xs v us Q I rx rv h
  obtain ⟨i, rfl, rfl, q⟩ := h
  obtain ⟨t, rfl⟩ := rx
  cases rv
  exact call_gives F.slot_int_bit_length (typeIs_int s i t) F.entry_int_bit_length (F.args_int_bit_length_1 _) (AutoIntG2.int_bit_length_int_0 i t) ⟨.int _, H, I.tok _, ⟨_, rfl⟩, q⟩
theorem strs_of : ∀ {ys : List Str} {its : List Value}, Vals (ys.map V.str) its → StrsAre its ys
  | [], _, .nil => .nil
  | _ :: _, _, .cons ⟨_, e⟩ r => by subst e; exact .cons _ _ (strs_of r)
theorem mt_join : MtR X "str.join" (fun x xs H Q => ∃ y a ys, x = .str y ∧ xs = [.ref a] ∧ SqL X.K H a (ys.map V.str) ∧ (ys.map (·.length)).sum + ys.length * y.length ≤ 16777216 ∧ Q (.str (Txt.join y ys)) H) := by
  intro pins s σ H x xs v us Q I rx rv h
  obtain ⟨y, a, ys, rfl, rfl, hq, hz, q⟩ := h
  obtain ⟨t, rfl⟩ := rx
  obtain ⟨u, rfl, ru⟩ := rv.one
  cases ru
  obtain ⟨its, r, pl, _⟩ := I.list hq
  exact join_list pl.isList (by simpa using strs_of r) hz fun t' k => ⟨.str _, H, I.tok _, ⟨_, rfl⟩, q⟩
theorem op_mul_str : OpR X (binaryOp .Mult) (fun x y H Q => ∃ z i, x = .str z ∧ y = .int i ∧ i < 2 ^ 40 ∧ -(2 ^ 40) < i ∧ z.length * i.toNat ≤ sizeLine ∧ Q (.str (Txt.mul z i)) H) := by
  intro pins s σ H x y v u Q I rx ry h
  obtain ⟨z, i, rfl, rfl, h1, h2, h3, q⟩ := h
  obtain ⟨t, rfl⟩ := rx
  obtain ⟨t', rfl⟩ := ry
  refine SB.mul ⟨?_, fun h4 _ => ?_, fun h4 _ => ?_⟩ fun t' k => ⟨.str _, H, I.tok _, ⟨_, rfl⟩, q⟩
  · simp only [Bool.or_eq_false_iff, decide_eq_false_iff_not]; omega
  · intro c
    have hn : (0 : Int) < i := by omega
    have h63 := line63
    have e : (z.length : Int) * i ≤ 2 ^ 63 - 1 := by
      have : ((z.length * i.toNat : Nat) : Int) = (z.length : Int) * i := by rw [Int.natCast_mul]; congr 1; omega
      omega
    have := (Int.le_ediv_iff_mul_le hn).mpr e
    omega
  · unfold Builtin.Str.tooLong; simpa using h3
theorem call_int_text : CallR X (.type "int") (fun xs H Q => ∃ x n, xs = [.str x] ∧ PySem.intText? x = some n ∧ x.length ≤ 640 ∧ Q (.int n) H) := by
  intro pins s σ H xs us Q I r h
  obtain ⟨x, n, rfl, hn, hl, q⟩ := h
  obtain ⟨u, rfl, t, rfl⟩ := vals1 r
  exact PySem.W.KIN.call_text hn hl ⟨.int n, H, I.tok _, ⟨_, rfl⟩, q⟩
theorem sl_str : SlR X (fun x lo hi H Q => ∃ z, x = .str z ∧ z.length ≤ sizeLine ∧ Q (.str (Txt.slice z lo hi)) H) := by
  intro pins s σ H x v vl vu lo hi sl Q I rx hs pl pu h
  obtain ⟨z, rfl, hz, q⟩ := h
  obtain ⟨t, rfl⟩ := rx
  refine ⟨"str", _, F.slot_str_getitem.lookup, typeIs_str s z t, ?_⟩
  have fin : ∀ (t' : Tok) (k : Nat), EP X pins σ Q (.str (Txt.slice z lo hi) t') { s with toks := k } := fun t' k => ⟨.str _, H, I.tok _, ⟨_, rfl⟩, q⟩
  obtain ⟨o, ho, hc, hd⟩ := hs
  cases pl with
  | none =>
    cases pu with
    | none => exact wpAny_getItem_str_slice (l := none) (u := none) (st := none) ⟨o, ho, hc, hd⟩ rfl (post_val_or_str ⟨Nat.le_trans (Txt.slice_le z _ _) hz, fin⟩)
    | int j uj => exact wpAny_getItem_str_slice (l := none) (u := some (j, uj)) (st := none) ⟨o, ho, hc, hd⟩ rfl (post_val_or_str ⟨Nat.le_trans (Txt.slice_le z _ _) hz, fin⟩)
  | int i ui =>
    cases pu with
    | none => exact wpAny_getItem_str_slice (l := some (i, ui)) (u := none) (st := none) ⟨o, ho, hc, hd⟩ rfl (post_val_or_str ⟨Nat.le_trans (Txt.slice_le z _ _) hz, fin⟩)
    | int j uj => exact wpAny_getItem_str_slice (l := some (i, ui)) (u := some (j, uj)) (st := none) ⟨o, ho, hc, hd⟩ rfl (post_val_or_str ⟨Nat.le_trans (Txt.slice_le z _ _) hz, fin⟩)
theorem call_isinst : CallR X (.builtin "isinstance") (fun xs H Q => ∃ x T t b, xs = [x, .ty T] ∧ TyOf X.K H x t ∧ PySem.W.kitOne X.K t (.type T) = some b ∧ Q (.bl b) H) := by
  intro pins s σ H xs us Q I r h
  obtain ⟨x, T, t, b, rfl, ty, e, q⟩ := h
  obtain ⟨u, w', rfl, r1, r2⟩ := vals2 r
  cases (show w' = Value.type T from r2)
  exact isinst_ok I r1 ty e fun tk => ⟨.bl b, H, I.tok _, rfl, q⟩
theorem call_isinstC : CallR X (.builtin "isinstance") (fun xs H Q => ∃ x C t b, xs = [x, .ref C] ∧ TyOf X.K H x t ∧ PySem.W.kitOne X.K t (.ref C) = some b ∧ Q (.bl b) H) := by
  intro pins s σ H xs us Q I r h
  obtain ⟨x, C, t, b, rfl, ty, e, q⟩ := h
  obtain ⟨u, w', rfl, r1, r2⟩ := vals2 r
  cases (show w' = Value.ref C from r2)
  exact isinst_ok I r1 ty e fun tk => ⟨.bl b, H, I.tok _, rfl, q⟩
end
def Itc (lo c : Int) (n : Nat) : It := ⟨fun i _ => i < n, fun i H x H' => H' = H ∧ x = .int (lo + i * c), fun i _ => n ≤ i⟩
theorem turn_rangeC {P : Program} {w : World} {K : PySem.W.Frag} {tg : Expr} (it : Addr) (lo c : Int) (n : Nat) : Turn P w K tg (Itc lo c n) [it] it (fun i h => IsRangeIter h it (lo + (i : Nat) * c) ((n : Int) - (i : Nat)) c) where
  mem := by simp
  obj := fun i h st b hb => by
    have e : b = it := by simpa using hb
    subst e
    exact ⟨_, st, fun v z => by
      have z' : Data.fields _ = Data.cell v := z
      cases z'⟩
  keep := fun i h h' st k => k it (by simp) _ st
  item := by
    intro X hP hw hK hc i pins s σ H E I hf st hg
    subst hP hw hK
    obtain ⟨f0, f1, f2, f3, f4, f5⟩ := hf it (by simp)
    have W := Walks.range (prog := X.prog) (w := X.w) (I.ok.hd hc) it lo c n
    refine W.item i s _ _ hg st fun v h' tk hv st' kk => ?_
    obtain ⟨t, rfl⟩ := hv
    have I1 : Inv X pins σ H { s with heap := h', toks := tk } := I.turned (fun b o hb e => kk b o (by simpa using hb) e) f0 f1 f3 f4 f5
    exact ⟨_, rfl, go_of (s := { s with heap := h', toks := tk }) (n := "range_iterator") st' rfl rfl (by decide) ⟨.int (lo + i * c), H, I1, ⟨t, rfl⟩, ⟨rfl, rfl⟩, st', fun b hb => (hf b hb).1⟩⟩
  done := by
    intro X hP hw hK hc i pins s σ H E I hf st hg
    subst hP hw hK
    obtain ⟨f0, f1, f2, f3, f4, f5⟩ := hf it (by simp)
    exact wpAny_pyNext_range_end (I.ok.hd hc) st (by have : n ≤ i := hg; omega) fun h' eb => ⟨rfl, I.turned (t' := s.toks) (fun b o hb e => eb b o hb e) f0 f1 f3 f4 f5⟩
  self := fun _ _ _ _ _ st h => wpAny_pyIter_rangeiter st h
section
variable {X : Cx} {tg : Expr}
def iRngD (ta : TA) : TI := fun σ H R => ta σ H fun vs H1 => ∃ i j : Int, vs = [.int i, .int j, .int (-1)] ∧ (-(2 ^ 61) ≤ i ∧ i < 2 ^ 61 ∧ -(2 ^ 61) ≤ j ∧ j < 2 ^ 61) ∧ R (Itc i (-1) (i - j).toNat) H1
end
end L2

end

section
namespace L2
open PySem PySem.Spec PyProof.Rows
section
variable {X : Cx} {tg : Expr}
theorem small_down {a b : Int} (ha : -(2 ^ 61) ≤ a) (ha' : a < 2 ^ 61) (hb : -(2 ^ 61) ≤ b) (hb' : b < 2 ^ 61) : Builtin.Range.small a b (-1) = true := by
  unfold Builtin.Range.small Builtin.Range.rangeSize
  simp only [Builtin.Range.rangeFitsLong, Bool.and_eq_true, Bool.or_eq_true, decide_eq_true_eq, beq_iff_eq, show ¬ ((-1 : Int) > 0) by decide, if_false, Int.neg_neg, Int.ediv_one]
  split <;> omega
theorem rangeSize_down (a b : Int) : Builtin.Range.rangeSize a b (-1) = (((a - b).toNat : Nat) : Int) := by
  unfold Builtin.Range.rangeSize
  rw [if_neg (by decide)]
  simp only [Int.neg_neg, Int.ediv_one]
  split <;> omega
theorem pi_rangeD {a b c : Expr} {ta : TA} {p pos : Pos} (hg : Gl X "range") (hm : X.mg "range" = none) (ha : PA X [a, b, c] ta)
    (hs : starEach [a, b, c] X.env = [(false, eval a X.env), (false, eval b X.env), (false, eval c X.env)] := by rfl) (hs2 : starEach [b, c] X.env = [(false, eval b X.env), (false, eval c X.env)] := by rfl) :
    PI X tg (.Call (.Name "range" p) [a, b, c] [] pos) (iRngD ta) := by
  intro pins s σ H R I h
  refine Call_ (ld_blt I hg hm boot_range (PyProof.Rows.callWith_type1 (thn (ha pos pins s σ H _ I h) fun us s1 ⟨vs, H1, I1, r1, q1⟩ => ?_) (by rw [hs, hs2]) (by rw [hs2]; rfl)))
  obtain ⟨i, j, e, ⟨q1, q2, q3, q4⟩, q⟩ := q1
  subst e
  cases r1 with
  | cons r rr =>
    cases rr with
    | cons r' rr =>
      cases rr with
      | cons r'' rr =>
        cases rr
        obtain ⟨t, rfl⟩ := r
        obtain ⟨t', rfl⟩ := r'
        obtain ⟨t'', rfl⟩ := r''
        refine call_range_3 (by decide) ?_ (.inl (PyProof.noPylong_small (by decide)))
        refine wpAny_pyIter_range (IsRange.new ..) (small_down q1 q2 q3 q4) ?_
        have I2 : Inv X pins σ H1 { s1 with heap := s1.heap.push { cls := .type "range", data := .fields #[.int i t, .int j t', .int (-1) t''] } } := I1.kept (t' := s1.toks) fun b o e => Heap.get?_push_of_some _ e
        refine ⟨_, [_], _, _, H1, rfl, I2.kept (t' := s1.toks) fun b o e => Heap.get?_push_of_some _ e, turn_rangeC _ i (-1) (i - j).toNat, ?_, fun b hb => ?_, q⟩
        · have e1 : i + ((0 : Nat) : Int) * (-1) = i := by simp
          have e2 : (((i - j).toNat : Nat) : Int) - ((0 : Nat) : Int) = Builtin.Range.rangeSize i j (-1) := by rw [rangeSize_down]; simp
          show IsRangeIter _ _ (i + ((0 : Nat) : Int) * (-1)) ((((i - j).toNat : Nat) : Int) - ((0 : Nat) : Int)) (-1)
          rw [e1, e2]
          exact Heap.get?_push_size _ rfl
        · have e := List.mem_singleton.mp hb
          subst e
          exact I2.fpOk (Nat.le_refl _) (I2.hok.fresh (Nat.le_refl _))
end
def Its (x : Str) : It := ⟨fun i _ => i < x.cps.size, fun i H v H' => H' = H ∧ ∃ c, x.cps[i]? = some c ∧ v = .str ⟨#[c]⟩, fun i _ => x.cps.size ≤ i⟩
section
variable {X : Cx} {tg : Expr}
theorem turn_str {P : Program} {w : World} {K : PySem.W.Frag} {tg : Expr} (x : Str) (it : Addr) (n : String) (t : Tok) (W : ∀ A' : Around, A'.handled = none → Walks P w A' it [it] [it] x.cps.size (SignAt x) (fun i h => h.IsStrIter it n x t i))
    (hn : ["enumerate", "zip", "dict_itemiterator", "dict_reverseitemiterator", "odict_iterator", "itertools.zip_longest", "itertools.pairwise"].contains n = false)
    (hdone : ∀ (A : Around) (i : Nat) (s : Shared) (Q : Option Value → Shared → Prop) (E : Value → Shared → Prop), A.handled = none → s.heap.IsStrIter it n x t i → x.cps.size ≤ i → (∀ h', (∀ b o, b ≠ it → s.heap.get? b = some o → h'.get? b = some o) → Q none { s with heap := h' }) → wpAny (model P w) A (pyNext (.ref it)) Q E s)
    (hself : ∀ (A : Around) (i : Nat) (s : Shared) (Q : Value → Shared → Prop) (E : Value → Shared → Prop), s.heap.IsStrIter it n x t i → Q (.ref it) s → wpAny (model P w) A (pyIter (.ref it)) Q E s) :
    Turn P w K tg (Its x) [it] it (fun i h => h.IsStrIter it n x t i) where
  mem := by simp
  obj := fun i h st b hb => by
    have e : b = it := by simpa using hb
    subst e
    obtain ⟨o, ho, hc, hd⟩ := st
    exact ⟨o, ho, fun v z => by rw [hd] at z; cases z⟩
  keep := fun i h h' st k => by
    obtain ⟨o, ho, r⟩ := st
    exact ⟨o, k it (by simp) o ho, r⟩
  item := by
    intro X hP hw hK hc i pins s σ H E I hf st hg
    subst hP hw hK
    obtain ⟨f0, f1, f2, f3, f4, f5⟩ := hf it (by simp)
    refine (W X.A (I.ok.hd hc)).item i s _ _ hg st fun v h' tk hv st' kk => ?_
    obtain ⟨c, u, hc', rfl⟩ := hv
    have I1 : Inv X pins σ H { s with heap := h', toks := tk } := I.turned (fun b o hb e => kk b o (by simpa using hb) e) f0 f1 f3 f4 f5
    obtain ⟨o, ho, hcl, hd⟩ := id st'
    exact ⟨_, rfl, go_of (s := { s with heap := h', toks := tk }) (n := n) ho hcl hd hn ⟨.str ⟨#[c]⟩, H, I1, ⟨u, rfl⟩, ⟨rfl, c, hc', rfl⟩, st', fun b hb => (hf b hb).1⟩⟩
  done := by
    intro X hP hw hK hc i pins s σ H E I hf st hg
    subst hP hw hK
    obtain ⟨f0, f1, f2, f3, f4, f5⟩ := hf it (by simp)
    exact hdone X.A i s _ _ (I.ok.hd hc) st hg fun h' eb => ⟨rfl, I.turned (t' := s.toks) (fun b o hb e => eb b o hb e) f0 f1 f3 f4 f5⟩
  self := fun A i s Q E st h => hself A i s Q E st h
def iStr (tl : TE) : TI := fun σ H R => tl σ H fun x H1 => ∃ y, x = .str y ∧ R (Its y) H1
theorem pi_str {l : Expr} {tl : TE} (hl : PE X l tl) : PI X tg l (iStr tl) := by
  intro pins s σ H R I h
  refine thn (hl pins s σ H _ I h) fun v s1 ⟨x, H1, I1, r1, q1⟩ => ?_
  obtain ⟨y, e, q⟩ := q1
  subst e
  obtain ⟨t, rfl⟩ := r1
  have fin : ∀ (o : Obj) (tn : Nat → Heap → Prop), Turn X.prog X.w X.K tg (Its y) [s1.heap.objs.size] s1.heap.objs.size tn → tn 0 (s1.heap.push o) → PIE X pins σ tg R (.ref s1.heap.objs.size) { s1 with heap := s1.heap.push o } := fun o tn T h0 => by
    refine ⟨s1.heap.objs.size, [s1.heap.objs.size], tn, Its y, H1, rfl, I1.kept (t' := s1.toks) fun b o e => Heap.get?_push_of_some _ e, T, h0, fun b hb => ?_, q⟩
    have e := List.mem_singleton.mp hb
    subst e
    exact I1.fpOk (Nat.le_refl _) (I1.hok.fresh (Nat.le_refl _))
  cases ha : y.cps.all (· < 128)
  · refine wpAny_pyIter_wide ha (fin _ _ (turn_str y _ "str_iterator" t (fun A' hA => Walks.strWide hA _ y t) (by decide) (fun A i s Q E hh st hi hQ => ?_) fun A i s Q E st hq => wpAny_pyIter_striter_wide st hq) ⟨_, Heap.get?_push_size _ rfl, rfl, rfl⟩)
    exact wpAny_pyNext_wide_end hh st (by simpa using hi) fun h' he' => hQ h' fun b o hb e => he' b o hb e
  · refine wpAny_pyIter_ascii ha (fin _ _ (turn_str y _ "str_ascii_iterator" t (fun A' hA => Walks.strAscii hA _ y t) (by decide) (fun A i s Q E hh st hi hQ => ?_) fun A i s Q E st hq => wpAny_pyIter_striter_ascii st hq) ⟨_, Heap.get?_push_size _ rfl, rfl, rfl⟩)
    exact wpAny_pyNext_ascii_end hh st (by simpa using hi) fun h' he' => hQ h' fun b o hb e => he' b o hb e
end
def compScopeOk (sc : Scope) (cs : List Str) : Bool :=
  sc.kind == .function && sc.names.all (fun y => y.2 != .cell) && sc.names.all (fun y => y.2 != .local || sc.names.lookup y.1 == some .local) &&
    sc.names.all (fun y => y.2 != .free || cs.contains y.1) && cs.all (fun x => sc.names.lookup x == some .free)
def CapsOk (X : Cx) : List (Nat × Str) → Prop
  | [] => True
  | (j, x) :: r => X.N[j]? = some x ∧ (X.env.kindOf x = some .cell ∨ X.env.kindOf x = some .free) ∧ CapsOk X r
theorem CapsOk.at {X : Cx} : ∀ {cs : List (Nat × Str)}, CapsOk X cs → ∀ p ∈ cs, X.N[p.1]? = some p.2 ∧ (X.env.kindOf p.2 = some .cell ∨ X.env.kindOf p.2 = some .free)
  | [], _, _, h => nomatch h
  | (j, x) :: r, ⟨h1, h2, h3⟩, p, h => by
    rcases List.mem_cons.mp h with e | e
    · subst e; exact ⟨h1, h2⟩
    · exact CapsOk.at h3 p e
def cxComp (X : Cx) (scope : Scope) (cl : List (Str × Addr)) (C : Addr) (N : List Str) (s2 : Shared) (H2 : Hp) (fp : List Addr) : Cx where
  prog := X.prog
  w := X.w
  K := X.K
  mg := X.mg
  base := X.base
  A := X.A
  N := N
  s₀ := s2
  H₀ := H2
  env := compEnvC scope cl C X.env
  outer := X.stack
  stack := X.stack
  ex := fp
  calm := X.calm
  fn := fun _ => false
  pn := []
  xe := fun _ _ => False
theorem closure_of {env : Env} : ∀ (names : List (Str × NameKind)), (∀ y ∈ names, y.2 = .free → ∃ c, env.cells.lookup y.1 = some c) →
    ∀ acc : List (Str × Addr), (∀ x c, acc.lookup x = some c → env.cells.lookup x = some c) → ∃ cl,
    (forIn names acc fun (x : Str × NameKind) r => do
      if x.2 == .free then pure (ForInStep.yield ((x.1, ← cellOf env x.1) :: r)) else pure (ForInStep.yield r) : Sem (List (Str × Addr))) = pure cl ∧
    (∀ x c, cl.lookup x = some c → env.cells.lookup x = some c) ∧ (∀ y ∈ names, y.2 = .free → ∃ c, cl.lookup y.1 = some c) ∧ ∀ x c, acc.lookup x = some c → ∃ c', cl.lookup x = some c'
  | [], _, acc, ha => ⟨acc, rfl, ha, (fun _ h => nomatch h), fun _ c h => ⟨c, h⟩⟩
  | (n, k) :: r, hn, acc, ha => by
    by_cases hk : k = .free
    · subst hk
      obtain ⟨c, hc⟩ := hn _ List.mem_cons_self rfl
      have ha' : ∀ x c', ((n, c) :: acc).lookup x = some c' → env.cells.lookup x = some c' := fun x c' e => by
        rw [List.lookup_cons] at e
        by_cases hx : x = n
        · subst hx
          rw [beq_self_eq_true] at e
          cases e
          exact hc
        · rw [beq_false_of_ne hx] at e
          exact ha x c' e
      obtain ⟨cl, e, h1, h2, h3⟩ := closure_of r (fun y hy => hn y (List.mem_cons_of_mem _ hy)) ((n, c) :: acc) ha'
      refine ⟨cl, ?_, h1, fun y hy hf => ?_, fun x c' hx => ?_⟩
      · rw [List.forIn_cons]
        simp only [cellOf, hc, beq_self_eq_true, if_true]
        exact e
      · rcases List.mem_cons.mp hy with e' | e'
        · subst e'
          exact h3 n c (by rw [List.lookup_cons, beq_self_eq_true])
        · exact h2 y e' hf
      · by_cases hxn : x = n
        · subst hxn
          exact h3 x c (by rw [List.lookup_cons, beq_self_eq_true])
        · exact h3 x c' (by rw [List.lookup_cons, beq_false_of_ne hxn]; exact hx)
    · obtain ⟨cl, e, h1, h2, h3⟩ := closure_of r (fun y hy => hn y (List.mem_cons_of_mem _ hy)) acc ha
      refine ⟨cl, ?_, h1, fun y hy hf => ?_, h3⟩
      · rw [List.forIn_cons]
        have hb : (k == NameKind.free) = false := by simpa using hk
        simp only [hb, Bool.false_eq_true, if_false]
        exact e
      · rcases List.mem_cons.mp hy with e' | e'
        · subst e'
          exact absurd hf hk
        · exact h2 y e' hf
end L2

end

section
namespace L2
open PySem PySem.Spec PyProof.Rows
def CompGo (J : It) (g : TG) (tc : TT) (te : TE) (Q : VK) (σ0 : St) (H1 : Hp) (D : Addr) : Prop :=
  ∃ W : Nat → Nat → St → Hp → Prop, (∃ m, W 0 m σ0 (upd H1 D (.lst []))) ∧ ∀ i m σ1 H2, W i m σ1 H2 →
    (J.stop i H2 ∧ Q (.ref D) H2) ∨
    (J.go i H2 ∧ ∀ x H3, J.yld i H2 x H3 → g x σ1 H3 fun σ2 H4 => tc σ2 H4 fun b H5 =>
      if b = true then te σ2 H5 fun y H6 => ∃ xs m', H6 D = some (.lst xs) ∧ xs.length < sizeLine ∧ m' < m ∧ W (i + 1) m' σ2 (upd H6 D (.lst (xs ++ [y])))
      else ∃ m', m' < m ∧ W (i + 1) m' σ2 H5)
def tComp (wi : TI) (g : TG) (tc : TT) (te : TE) (σ0 : St → St) : TE := fun σ H Q => wi σ H fun J H1 => ∀ D, H1 D = none → CompGo J g tc te Q (σ0 σ) H1 D
def tYes : TT := fun _ H Q => Q true H
def PTs (X : Cx) (ifs : List Expr) (t : TT) : Prop :=
  ∀ (pins : List (Addr × Obj)) (s : Shared) (σ : St) (H : Hp) (Q : Bool → Hp → Prop), Inv X pins σ H s → t σ H Q →
    wpAny (model X.prog X.w) X.A (forIn ifs true fun c r => if r = true then do let ok ← isTrue c X.env (eval c X.env); pure (ForInStep.yield ok) else pure (ForInStep.yield r)) (TP X pins σ Q) X.xe s
theorem pts_nil {X : Cx} : PTs X [] tYes := fun _ _ _ H _ I h => wpAny_tests_nil ⟨H, I, h⟩
section
variable {prog : Program} {w : World} {A : Around} {E : Value → Shared → Prop} {R : Result → Shared → Prop} {s : Shared}
theorem compLoop_gen {elt target iter : Expr} {ifs : List Expr} {scope : Scope} {pos : Pos} {it acc : Value} {env : Env} (I : Nat → Shared → Prop)
    (turn : ∀ n s, I n s → wpAny (model prog w) A (pyNext it) (fun r s₁ => match r with
      | none => R (.ok .next) s₁
      | some v => wpAny (model prog w) A (letOwnedTupleGo target it v) (fun _ s₁' => wpAny (model prog w) A (assign target env v) (fun _ s₂ =>
          wpAny (model prog w) A (forIn ifs true fun c r => if r = true then do let ok ← isTrue c env (eval c env); pure (ForInStep.yield ok) else pure (ForInStep.yield r)) (fun ok s₃ =>
            if ok = true then wpAny (model prog w) A (eval elt env) (fun x s₄ =>
              wpAny (model prog w) A (call (.builtin "list.append") [acc, x]) (fun _ s₅ => ∃ m, m < n ∧ I m s₅) (notedBy (model prog w) A env fun e s' => R (.error e) s') s₄) (notedBy (model prog w) A env fun e s' => R (.error e) s') s₃
            else ∃ m, m < n ∧ I m s₃) (notedBy (model prog w) A env fun e s' => R (.error e) s') s₂) (notedBy (model prog w) A env fun e s' => R (.error e) s') s₁') (notedBy (model prog w) A env fun e s' => R (.error e) s') s₁) (notedBy (model prog w) A env fun e s' => R (.error e) s') s)
    (n : Nat) (h : I n s) :
    codeAny (model prog w) A (.compLoop (.ListComp elt [⟨target, iter, ifs, 0⟩] scope pos) 0 it acc env) R s := by
  refine codeAny_loop rfl I (fun n s hI => ?_) n h
  show wpAny _ A ((compTurn (.ListComp elt [⟨target, iter, ifs, 0⟩] scope pos) 0 it acc env).onRaise (fun x => do noteFrame x env; theTreesLotGoes x)) _ _ s
  refine wpAny_noted ?_
  rw [compTurn_list]
  refine wpAny_bind (wpAny_standAt (wpAny_bind (wpAny_mono (turn n s hI) (fun r s₁ h₁ => ?_) fun _ _ h' => h')))
  cases r with
  | none => exact wpAny_pure h₁
  | some v =>
    refine wpAny_bind (wpAny_mono h₁ (fun _ s₁' h₁' => ?_) fun _ _ h' => h')
    refine wpAny_bind (wpAny_mono h₁' (fun _ s₂ h₂ => wpAny_bind (wpAny_mono h₂ (fun ok s₃ h₃ => ?_) fun _ _ h' => h')) fun _ _ h' => h')
    cases ok with
    | false => exact wpAny_pure ⟨rfl, h₃⟩
    | true =>
      exact wpAny_bind (wpAny_bind (wpAny_mono h₃ (fun x s₄ h₄ => wpAny_bind (wpAny_mono h₄ (fun _ s₅ h₅ => wpAny_pure (wpAny_pure ⟨rfl, h₅⟩)) fun _ _ h' => h')) fun _ _ h' => h'))
end
section
variable {X : Cx} {elt target iter : Expr} {ifs : List Expr} {scope : Scope} {pos p : Pos} {caps : List (Nat × Str)} {tgs : List Str} {wi : TI} {g : TG} {tc : TT} {te : TE}
def compSt (tgs : List Str) (caps : List (Nat × Str)) : St → St := fun σ => List.replicate tgs.length none ++ caps.map fun p => (σ[p.1]?).join
theorem relabel_free {env : Env} : ∀ {names : List (Str × NameKind)} {x : Str}, names.lookup x = some .free →
    ((names.map fun (n, k) => if (k == NameKind.free && env.scope.kind == .function && env.kindOf n == some .cell) then (n, NameKind.cell) else (n, k)).lookup x = some .cell ∨
     (names.map fun (n, k) => if (k == NameKind.free && env.scope.kind == .function && env.kindOf n == some .cell) then (n, NameKind.cell) else (n, k)).lookup x = some .free)
  | [], _, h => by cases h
  | (n, k) :: r, x, h => by
    rw [List.lookup_cons] at h
    rw [List.map_cons]
    by_cases hx : x = n
    · subst hx
      rw [beq_self_eq_true] at h
      cases h
      dsimp only
      split
      · exact .inl (by rw [List.lookup_cons, beq_self_eq_true])
      · exact .inr (by rw [List.lookup_cons, beq_self_eq_true])
    · rw [beq_false_of_ne hx] at h
      have ih := relabel_free (env := env) h
      dsimp only
      split <;> (rw [List.lookup_cons, beq_false_of_ne hx]; exact ih)
theorem relabel_back {env : Env} : ∀ {names : List (Str × NameKind)} {x : Str}, ((names.map fun (n, k) => if (k == NameKind.free && env.scope.kind == .function && env.kindOf n == some .cell) then (n, NameKind.cell) else (n, k)).lookup x = some .cell ∨
     (names.map fun (n, k) => if (k == NameKind.free && env.scope.kind == .function && env.kindOf n == some .cell) then (n, NameKind.cell) else (n, k)).lookup x = some .free) → (∀ y ∈ names, y.2 ≠ .cell) → names.lookup x = some .free
  | [], _, h, _ => by rcases h with h | h <;> cases h
  | (n, k) :: r, x, h, hn => by
    rw [List.lookup_cons]
    by_cases hx : x = n
    · subst hx
      rw [beq_self_eq_true]
      have hk := hn _ List.mem_cons_self
      rw [List.map_cons] at h
      dsimp only at h
      split at h
      · rename_i c
        simp only [Bool.and_eq_true, beq_iff_eq] at c
        exact congrArg some c.1.1
      · rw [List.lookup_cons, beq_self_eq_true] at h
        rcases h with h | h
        · cases h; exact absurd rfl hk
        · exact h
    · rw [beq_false_of_ne hx]
      refine relabel_back (env := env) ?_ fun y hy => hn y (List.mem_cons_of_mem _ hy)
      rw [List.map_cons] at h
      dsimp only at h
      split at h <;> (rw [List.lookup_cons, beq_false_of_ne hx] at h; exact h)
theorem mem_lookup_free : ∀ {names : List (Str × NameKind)} {x : Str} {k : NameKind}, names.lookup x = some k → (x, k) ∈ names
  | [], _, _, h => by cases h
  | (n, k') :: r, x, k, h => by
    rw [List.lookup_cons] at h
    by_cases hx : x = n
    · subst hx
      rw [beq_self_eq_true] at h
      cases h
      exact List.mem_cons_self
    · rw [beq_false_of_ne hx] at h
      exact List.mem_cons_of_mem _ (mem_lookup_free h)
set_option maxHeartbeats 1000000
theorem comp_core {use : Option (Value → Sem Unit)} {Qf : Value → Shared → Prop} {pins : List (Addr × Obj)} {σ : St} {H : Hp} {s : Shared} {Q : VK}
    (hc : X.calm = true) (hsc : compScopeOk scope (caps.map (·.2)) = true) (hcap : CapsOk X caps) (hi : PI X target iter wi)
    (hg : ∀ cl C s2 H2 fp, PG (cxComp X scope cl C (tgs ++ caps.map (·.2)) s2 H2 fp) target g)
    (ht : ∀ cl C s2 H2 fp, PTs (cxComp X scope cl C (tgs ++ caps.map (·.2)) s2 H2 fp) ifs tc)
    (he : ∀ cl C s2 H2 fp, PE (cxComp X scope cl C (tgs ++ caps.map (·.2)) s2 H2 fp) elt te)
    (I : Inv X pins σ H s) (h : tComp wi g tc te (compSt tgs caps) σ H Q)
    (fin : ∀ D C H' s', Inv X pins σ H' s' → Q (.ref D) H' → H' C = none → C ≠ X.env.locals → X.s₀.heap.objs.size ≤ C → (∀ x c, X.env.cells.lookup x = some c → c ≠ C) → (∀ p ∈ X.pn ++ pins, p.1 ≠ C) → (∃ m, s'.heap.Ns C m) →
      compPost (model X.prog X.w) X.A X.xe use Qf (.ref D) C (.ok .next) s')
    (hs : ∀ x, foldedSetIterable iter X.env x = pure x := by intro _; rfl) :
    wpAny (model X.prog X.w) X.A (comprehension (.ListComp elt [⟨target, iter, ifs, 0⟩] scope pos) scope X.env p (newList []) false (eval iter X.env) use) Qf X.xe s := by
  simp only [compScopeOk, Bool.and_eq_true, List.all_eq_true, beq_iff_eq, bne_iff_ne, Bool.or_eq_true, List.contains_iff_mem] at hsc
  obtain ⟨⟨⟨⟨k1, k2⟩, k3⟩, k4⟩, k5⟩ := hsc
  have hnames : ∀ y ∈ scope.names, y.2 = .local → scope.names.lookup y.1 = some .local := fun y hy hl => (k3 y hy).resolve_left fun z => z hl
  have capAt := hcap.at
  have hfr : ∀ y ∈ scope.names, y.2 = .free → ∃ c, X.env.cells.lookup y.1 = some c := fun y hy hf => by
    have hm := (k4 y hy).resolve_left fun z => z hf
    obtain ⟨q, hq, e⟩ := List.mem_map.mp hm
    have := (capAt q hq).2
    rw [e] at this
    exact I.ok.has _ this
  obtain ⟨cl, hcl, hin, hall, _⟩ := closure_of scope.names hfr [] (fun x c e => by cases e)
  have hclos : closureFor scope X.env = pure cl := by
    refine (show closureFor scope X.env = (_ >>= pure) from rfl).trans ((congrArg (· >>= pure) hcl).trans ?_)
    rfl
  refine wpAny_comprehension_free (use := use) rfl hs hclos k1 hnames (thn (hi pins s σ H _ I h) fun v s1 h1 => thn h1 fun itv s2 h2 => ?_)
  obtain ⟨it, fp, tn, J, H2, e, I2, T, st2, f2, hW⟩ := h2
  subst e
  have fD : H2 s2.heap.objs.size = none := I2.fresh
  obtain ⟨W, ⟨m0, w0⟩, turn⟩ := hW _ fD
  refine wpAny_newObj_type (wpAny_newFunctionEnv k2 (by intro y hy; simp at hy) (fun h₁ hns₁ hsb₁ => ?_) k1)
  dsimp only at hns₁ hsb₁ ⊢
  generalize hH3 : s2.heap.push { cls := .type "list", dict := none, data := .seq ([] : List Value).toArray } = H3 at hns₁ hsb₁ ⊢
  have hC : H3.objs.size = s2.heap.objs.size + 1 := by rw [← hH3, Heap.size_push]
  have hDC : s2.heap.objs.size ≠ H3.objs.size := by rw [hC]; exact Nat.ne_of_lt (Nat.lt_succ_self _)
  have hCle : s2.heap.objs.size ≤ H3.objs.size := by rw [hC]; exact Nat.le_succ _
  have below : ∀ b, b < s2.heap.objs.size → b ≠ H3.objs.size := fun b hb => by rw [hC]; exact Nat.ne_of_lt (Nat.lt_succ_of_lt hb)
  have old : ∀ b o, s2.heap.get? b = some o → h₁.get? b = some o := fun b o e => hsb₁.extBut b o (below b (Heap.lt_size e)) (Heap.get?_push_of_some _ (hH3 ▸ Heap.get?_push_of_some _ e))
  have hacc : h₁.get? s2.heap.objs.size = some { cls := .type "list", dict := none, data := .seq ([] : List Value).toArray } := hsb₁.extBut _ _ hDC (Heap.get?_push_of_some _ (hH3 ▸ Heap.get?_push_size _ rfl))
  have fC : H2 H3.objs.size = none := I2.hok.fresh hCle
  have fpl : ∀ b ∈ fp, b < s2.heap.objs.size := fun b hb => by
    obtain ⟨o, ho, _⟩ := T.obj _ _ st2 b hb
    exact Heap.lt_size ho
  -- the block's context
  let X' := cxComp X scope cl H3.objs.size (tgs ++ caps.map (·.2)) s2 H2 fp
  have ok' : X'.Ok := by
    refine ⟨I2.ok.mod, k1, I2.ok.glob, I2.ok.blt, hCle, fun x y c hx hy => I2.ok.inj x y c (hin _ _ hx) (hin _ _ hy), fun x hx => ?_, (fun x c hf => nomatch hf), I2.ok.hd, I2.ok.frames, .inl rfl, fun b hb => ⟨below b (fpl b hb), fun x c hx => (f2 b hb).2.2.2.2.1 x c (hin _ _ hx)⟩, I2.bs,
      Nat.le_trans I2.ok.bsz I2.sz, fun b o e hb => ?_, fun b hb z => ?_, I2.stack, I2.stkFree⟩
    · exact hall (x, .free) (mem_lookup_free (relabel_back hx k2)) rfl
    · rcases (f2 b hb).2.2.2.1 with z | z
      · exact I2.ok.noex b o e z
      · exact absurd (Nat.lt_of_lt_of_le (Heap.lt_size e) I2.ok.bsz) (Nat.not_lt.mpr z)
    · rcases List.mem_cons.mp (I2.stkSub b z) with q | q
      · exact (f2 b hb).2.1 q
      · exact (f2 b hb).2.2.1 q
  have un4 : Un (frs X.stack) fp H2 (upd H2 s2.heap.objs.size (.lst [])) s2.heap h₁ := Un.laid old (Nat.le_refl _) fD
  have hok4 : HOk X.prog X.w (upd H2 s2.heap.objs.size (.lst [])) h₁ := I2.hok.laid old (Nat.le_refl _) ⟨Nat.zero_le _, [], 0, .nil, hacc⟩
  have I4 : ∀ tk, Inv X' [] (compSt tgs caps σ) (upd H2 s2.heap.objs.size (.lst [])) { s2 with heap := h₁, toks := tk } := fun tk => by
    refine ⟨ok', rfl, I2.bare, un4, ⟨_, hns₁, fun i x v e1 e2 e3 => ?_⟩, fun x c hx => ?_, ?_, fun x c hx => ?_, fun q hq => ?_, hok4, ?_⟩
    · -- a captured name
      obtain ⟨m2, _, hl2⟩ := I2.loc
      have hlt : tgs.length ≤ i := by
        rcases Nat.lt_or_ge i tgs.length with z | z
        · have : (compSt tgs caps σ)[i]? = some none := by
            unfold compSt
            rw [List.getElem?_append_left (by simpa using z), List.getElem?_replicate, if_pos z]
          rw [this] at e2
          cases e2
        · exact z
      have e1' : (tgs ++ caps.map (·.2))[i]? = some x := e1
      rw [List.getElem?_append_right hlt, List.getElem?_map] at e1'
      have e2' : (caps.map fun p => (σ[p.1]?).join)[i - tgs.length]? = some (some v) := by
        have : (compSt tgs caps σ)[i]? = (caps.map fun p => (σ[p.1]?).join)[i - tgs.length]? := by
          unfold compSt
          rw [List.getElem?_append_right (by simpa using hlt), List.length_replicate]
        rw [← this]
        exact e2
      rw [List.getElem?_map] at e2'
      cases hq : caps[i - tgs.length]? with
      | none => rw [hq] at e1'; cases e1'
      | some q =>
        rw [hq] at e1' e2'
        obtain rfl : q.2 = x := Option.some.inj e1'
        have e2'' : (σ[q.1]?).join = some v := Option.some.inj e2'
        have hσ : σ[q.1]? = some (some v) := by
          cases z : σ[q.1]? with
          | none => rw [z] at e2''; cases e2''
          | some y => rw [z] at e2''; exact congrArg some e2''
        have hqm : q ∈ caps := List.mem_of_getElem? hq
        obtain ⟨n1, n2⟩ := capAt q hqm
        have hvis : Vis X.env.scope q.2 := by
          rcases n2 with z | z
          · exact .inr (.inl z)
          · exact .inr (.inr z)
        obtain ⟨u, ru, lk⟩ := hl2 q.1 q.2 v n1 hσ hvis
        have hfree : scope.names.lookup q.2 = some .free := k5 q.2 (List.mem_map_of_mem hqm)
        refine ⟨u, ru, .inr ⟨relabel_free hfree, ?_⟩⟩
        rcases lk with ⟨z, _⟩ | ⟨_, c, hcc, oc, hoc, hocd⟩
        · rcases n2 with y | y <;> (rw [y] at z; cases z)
        · obtain ⟨c', hc'⟩ := hall (q.2, .free) (mem_lookup_free hfree) rfl
          have := hin _ _ hc'
          rw [hcc] at this
          cases this
          exact ⟨c, hc', oc, old _ _ hoc, hocd⟩
    · obtain ⟨v, o, ho, hd⟩ := I2.cell x c (hin _ _ hx)
      exact ⟨v, o, old _ _ ho, hd⟩
    · show upd H2 s2.heap.objs.size (.lst []) H3.objs.size = none
      rw [upd_ne (Ne.symm hDC)]
      exact fC
    · have hcf := I2.freeC x c (hin _ _ hx)
      obtain ⟨v, o, ho, hd⟩ := I2.cell x c (hin _ _ hx)
      rw [upd_ne (Nat.ne_of_lt (Heap.lt_size ho))]
      exact hcf
    · have : q ∈ ([] : List (Addr × Obj)) := hq
      cases this
    · show (compSt tgs caps σ).length = (tgs ++ caps.map (·.2)).length
      simp [compSt]
  have stat : ∀ {pins' : List (Addr × Obj)} {H' : Hp}, (∀ b ∈ fp, H' b = none) → (∀ q ∈ pins', q.1 ∉ fp) → ∀ b ∈ fp, FpOk X' pins' H' b := fun hn hp b hb =>
    ⟨hn b hb, below b (fpl b hb), fun z => by
      rcases List.mem_cons.mp (I2.stkSub b z) with q | q
      · exact (f2 b hb).2.1 q
      · exact (f2 b hb).2.2.1 q, .inl hb, fun x c hx => (f2 b hb).2.2.2.2.1 x c (hin _ _ hx), fun q hq z => hp q hq (z ▸ hb)⟩
  have noPin : ∀ q ∈ ([] : List (Addr × Obj)), q.1 ∉ fp := fun _ z => nomatch z
  have tn0 : tn 0 h₁ := T.keep _ _ _ st2 fun b hb o e => old b o e
  have fr0 : ∀ b ∈ fp, (upd H2 s2.heap.objs.size (.lst [])) b = none := fun b hb => by
    rw [upd_ne (Nat.ne_of_lt (fpl b hb))]
    exact (f2 b hb).1
  have loop : ∀ s₃ : Shared, s₃ = { s2 with heap := h₁, toks := s2.toks + ([] : List (Str × Value)).length } →
      codeAny (model X.prog X.w) X.A (.compLoop (.ListComp elt [⟨target, iter, ifs, 0⟩] scope pos) 0 (.ref it) (.ref s2.heap.objs.size) (compEnvC scope cl H3.objs.size X.env))
        (compPost (model X.prog X.w) X.A X.xe use Qf (.ref s2.heap.objs.size) H3.objs.size) s₃ := by
    rintro s₃ rfl
    refine compLoop_gen (fun n s' => ∃ i σ' H', Inv X' [] σ' H' s' ∧ tn i s'.heap ∧ (∀ b ∈ fp, H' b = none) ∧ W i n σ' H') ?_ m0 ⟨0, _, _, I4 _, tn0, fr0, w0⟩
    rintro n s3 ⟨i, σ3, H3', I3, st3, fr3, w3⟩
    rcases turn i n σ3 H3' w3 with ⟨stop, qn⟩ | ⟨go, step⟩
    · refine thn (T.done X' rfl rfl rfl hc i [] s3 σ3 H3' _ I3 (stat fr3 noPin) st3 stop) fun r s4 ⟨hr, I4'⟩ => ?_
      subst hr
      have un := I4'.base
      refine fin _ _ H3' s4 (I2.call' I4'.os un I4'.hok I4'.bare fun b hb => ?_) qn I4'.free ?_ (Nat.le_trans I2.sz hCle) ?_ ?_ ?_
      · exact ⟨(f2 b hb).2.2.2.1, (f2 b hb).2.1, (f2 b hb).2.2.2.2.1, (f2 b hb).2.2.2.2.2⟩
      · exact Ne.symm (below _ I2.lt)
      · intro x c hx
        obtain ⟨v, o, ho, hd⟩ := I2.cell x c hx
        exact below c (Heap.lt_size ho)
      · intro q hq
        obtain ⟨e, _⟩ := I2.pin q hq
        exact below _ (Heap.lt_size e)
      · obtain ⟨m, hm, _⟩ := I4'.loc
        exact ⟨m, hm⟩
    · refine thn (T.item X' rfl rfl rfl hc i [] s3 σ3 H3' _ I3 (stat fr3 noPin) st3 go) fun r s4 ⟨u, hr, h4⟩ => ?_
      subst hr
      refine thn h4 fun _ s5 ⟨x, H5, I5, r5, y5, st5, fr5⟩ => ?_
      have I5' := I5.pinned (stat fr5 noPin) (T.obj _ _ st5)
      refine wpAny_mono (hg _ _ _ _ _ _ s5 σ3 H5 x u _ I5' r5 (step x H5 y5)) (fun _ s6 ⟨σ6, H6, I6, q6⟩ => ?_) fun _ _ z => z.elim
      have again : ∀ {σ7 : St} {H7 : Hp} {s7 : Shared} {m' : Nat}, Inv X' ([] ++ pinsAt fp s5.heap) σ7 H7 s7 → m' < n → W (i + 1) m' σ7 H7 → ∃ m, m < n ∧ ∃ i σ' H', Inv X' [] σ' H' s7 ∧ tn i s7.heap ∧ (∀ b ∈ fp, H' b = none) ∧ W i m σ' H' := fun {σ7 H7 s7 m'} I7 hm w7 => by
        refine ⟨m', hm, i + 1, σ7, H7, I7.unpinned, T.keep _ _ _ st5 fun b hb o e => (I7.pin (b, o) (List.mem_append_right _ (List.mem_append_right _ (mem_pinsAt hb e)))).1, fun b hb => ?_, w7⟩
        obtain ⟨o, e, d⟩ := T.obj _ _ st5 b hb
        exact (I7.pin (b, o) (List.mem_append_right _ (List.mem_append_right _ (mem_pinsAt hb e)))).2.1
      refine wpAny_mono (ht _ _ _ _ _ _ s6 σ6 H6 _ I6 q6) (fun ok s7 ⟨H7, I7, q7⟩ => ?_) fun _ _ z => z.elim
      cases ok with
      | false =>
        obtain ⟨m', hm, w7⟩ := q7
        exact again I7 hm w7
      | true =>
        refine wpAny_mono (he _ _ _ _ _ _ s7 σ6 H7 _ I7 q7) (fun yv s8 ⟨y, H8, I8, r8, q8⟩ => ?_) fun _ _ z => z.elim
        obtain ⟨xs, m', hD, hz, hm, w8⟩ := q8
        refine wpAny_mono (mt_append (X := X') _ s8 σ6 H8 (.ref s2.heap.objs.size) [y] (.ref s2.heap.objs.size) [yv] (fun _ H9 => W (i + 1) m' σ6 H9) I8 rfl (.cons r8 .nil) ⟨_, xs, y, rfl, rfl, hD, hz, w8⟩) (fun _ s9 ⟨_, H9, I9, _, q9⟩ => ?_) fun _ _ z => z.elim
        exact again I9 hm q9
  exact codeAny_compStart_list (loop _ rfl) (T.self _ 0 _ _ _ tn0 (loop _ rfl))
abbrev BK (α : Type) := List (Str × Addr) → Addr → Shared → Hp → List Addr → α
theorem pe_comp {g : BK TG} {tc : BK TT} {te : BK TE} (tgs : List Str) (caps : List (Nat × Str)) (hc : X.calm = true) (hsc : compScopeOk scope (caps.map (·.2)) = true) (hcap : CapsOk X caps) (hi : PI X target iter wi)
    (hg : ∀ cl C s2 H2 fp, PG (cxComp X scope cl C (tgs ++ caps.map (·.2)) s2 H2 fp) target (g cl C s2 H2 fp))
    (ht : ∀ cl C s2 H2 fp, PTs (cxComp X scope cl C (tgs ++ caps.map (·.2)) s2 H2 fp) ifs (tc cl C s2 H2 fp))
    (he : ∀ cl C s2 H2 fp, PE (cxComp X scope cl C (tgs ++ caps.map (·.2)) s2 H2 fp) elt (te cl C s2 H2 fp))
    (eg : ∀ cl C s2 H2 fp, g cl C s2 H2 fp = g [] 0 X.s₀ X.H₀ [] := by intros; rfl) (et : ∀ cl C s2 H2 fp, tc cl C s2 H2 fp = tc [] 0 X.s₀ X.H₀ [] := by intros; rfl) (ee : ∀ cl C s2 H2 fp, te cl C s2 H2 fp = te [] 0 X.s₀ X.H₀ [] := by intros; rfl)
    (hs : ∀ x, foldedSetIterable iter X.env x = pure x := by intro _; rfl) :
    PE X (.ListComp elt [⟨target, iter, ifs, 0⟩] scope pos) (tComp wi (g [] 0 X.s₀ X.H₀ []) (tc [] 0 X.s₀ X.H₀ []) (te [] 0 X.s₀ X.H₀ []) (compSt tgs caps)) := by
  intro pins s σ H Q I h
  rw [eval_ListComp]
  refine comp_core (use := none) hc hsc hcap hi (fun cl C s2 H2 fp => eg cl C s2 H2 fp ▸ hg cl C s2 H2 fp) (fun cl C s2 H2 fp => et cl C s2 H2 fp ▸ ht cl C s2 H2 fp) (fun cl C s2 H2 fp => ee cl C s2 H2 fp ▸ he cl C s2 H2 fp) I h (fun D C H' s' I' q hC h1 h2 h3 h4 ⟨m, hm⟩ => ?_) hs
  refine ⟨m, hm, fun h' hsb => ?_⟩
  exact ⟨.ref D, H', I'.turned (t' := s'.toks) (fun b o hb e => hsb.extBut b o hb e) hC h1 (.inr h2) h3 h4, rfl, q⟩
theorem ps_setComp {g : BK TG} {tc : BK TT} {te : BK TE} {i : Nat} {y : Str} {py spos : Pos} (tgs : List Str) (caps : List (Nat × Str)) (hN : X.N.Nodup) (hiN : X.N[i]? = some y) (hy : X.env.scope.names.lookup y = some .local) (hc : X.calm = true) (hsc : compScopeOk scope (caps.map (·.2)) = true) (hcap : CapsOk X caps) (hi : PI X target iter wi)
    (hg : ∀ cl C s2 H2 fp, PG (cxComp X scope cl C (tgs ++ caps.map (·.2)) s2 H2 fp) target (g cl C s2 H2 fp))
    (ht : ∀ cl C s2 H2 fp, PTs (cxComp X scope cl C (tgs ++ caps.map (·.2)) s2 H2 fp) ifs (tc cl C s2 H2 fp))
    (he : ∀ cl C s2 H2 fp, PE (cxComp X scope cl C (tgs ++ caps.map (·.2)) s2 H2 fp) elt (te cl C s2 H2 fp))
    (eg : ∀ cl C s2 H2 fp, g cl C s2 H2 fp = g [] 0 X.s₀ X.H₀ [] := by intros; rfl) (et : ∀ cl C s2 H2 fp, tc cl C s2 H2 fp = tc [] 0 X.s₀ X.H₀ [] := by intros; rfl) (ee : ∀ cl C s2 H2 fp, te cl C s2 H2 fp = te [] 0 X.s₀ X.H₀ [] := by intros; rfl)
    (hsw : swapsWith (.ListComp elt [⟨target, iter, ifs, 0⟩] scope pos) (some (.Name y py)) spos.line X.env = pure true := by rfl)
    (hs : ∀ x, foldedSetIterable iter X.env x = pure x := by intro _; rfl) :
    PS X (.Assign [.Name y py] (.ListComp elt [⟨target, iter, ifs, 0⟩] scope pos) spos) (tAsg (tComp wi (g [] 0 X.s₀ X.H₀ []) (tc [] 0 X.s₀ X.H₀ []) (te [] 0 X.s₀ X.H₀ []) (compSt tgs caps)) (gName i)) := by
  intro pins s σ H D I h
  rw [exec_Assign_Name_used _ _ _ _ hsw]
  refine wpAny_bind (wpAny_standAt (wpAny_bind ?_))
  show wpAny _ X.A (do let _ ← comprehension (.ListComp elt [⟨target, iter, ifs, 0⟩] scope pos) scope X.env _ (newList []) false (eval iter X.env) (some (assign (.Name y py) X.env))) _ _ s
  refine wpAny_bind (thn (comp_core (use := some (assign (.Name y py) X.env)) (Qf := fun _ s' => SP X pins D .next s') hc hsc hcap hi (fun cl C s2 H2 fp => eg cl C s2 H2 fp ▸ hg cl C s2 H2 fp) (fun cl C s2 H2 fp => et cl C s2 H2 fp ▸ ht cl C s2 H2 fp) (fun cl C s2 H2 fp => ee cl C s2 H2 fp ▸ he cl C s2 H2 fp) I h (fun Dd C H' s' I' q hC h1 h2 h3 h4 ⟨m, hm⟩ => ?_) hs) fun _ s' hq => wpAny_pure (wpAny_pure hq))
  show wpAny _ X.A (assign (.Name y py) X.env (.ref Dd)) _ _ _
  refine wpAny_assign_Name (store_ok2 I' hN hiN (.inl hy) (v := .ref Dd) rfl (fun s'' I'' ⟨a, hsb, ha⟩ => ?_) (.inr hy))
  have hCa : C ≠ a := by
    rcases ha with z | z
    · rw [z]; exact h1
    · exact Ne.symm (h3 _ _ z)
  refine ⟨m, hm.sameBut hsb hCa, fun h' hsb' => ?_⟩
  exact ⟨_, H', I''.turned (t' := s''.toks) (fun b o hb e => hsb'.extBut b o hb e) hC h1 (.inr h2) h3 h4, q⟩
end
end L2

end

section
namespace L2
open PySem PySem.Spec PyProof.Rows
def OwnIn (H : Hp) (a : Addr) : HO → Prop
  | .ins _ dx _ => H dx = some (.own a)
  | .frz _ u => OwnIn H a u
  | _ => True
def Closed (H : Hp) : Prop := ∀ a o, H a = some o → OwnIn H a o
theorem OwnIn.of {P : Program} {w : World} {H : Hp} {h : Heap} {a : Addr} {o : HO} (x : ObjOk P w H h a o) : OwnIn H a o := by
  induction o with
  | ins C dx fs => exact x.1
  | frz ob u ih => exact ih x.2
  | _ => trivial
theorem HOk.closed {P : Program} {w : World} {H : Hp} {h : Heap} (x : HOk P w H h) : Closed H := fun a o e => OwnIn.of (x a o e)
theorem OwnIn.mono {H H' : Hp} {a : Addr} {o : HO} (s : ∀ b u, H b = some u → H' b = some u) (x : OwnIn H a o) : OwnIn H' a o := by
  induction o with
  | ins C dx fs => exact s _ _ x
  | frz ob u ih => exact ih x
  | _ => trivial
theorem ObjOk.sub {P : Program} {w : World} {H H' : Hp} {h : Heap} {a : Addr} {o : HO} (x : ObjOk P w H' h a o) (ow : OwnIn H a o) : ObjOk P w H h a o := by
  induction o with
  | ins C dx fs => exact ⟨ow, x.2⟩
  | frz ob u ih => exact ⟨x.1, ih x.2 ow⟩
  | lst _ => exact x
  | tup _ => exact x
  | dK _ => exact x
  | dT _ => exact x
  | set _ _ => exact x
  | own _ => exact x
  | xd _ => exact x
  | met _ _ => exact x
  | rng _ _ => exact x
  | tbl _ => exact x
  | ext _ => exact x
structure Sub (H H'' H' : Hp) : Prop where
  le : Same H'' H'
  ge : ∀ b o, H b = some o → ∃ u, H'' b = some u
  cl : Closed H → Closed H''
theorem Sub.refl {H H' : Hp} (h : Same H H') : Sub H H H' := ⟨h, fun _ o e => ⟨o, e⟩, id⟩
theorem Sub.all {H H' : Hp} (h : ∀ b o, H b = some o → ∃ u, H' b = some u) (c : Closed H → Closed H') : Sub H H' H' := ⟨Same.refl _, h, c⟩
theorem same_new {H : Hp} {p : Addr} {o : HO} (h : H p = none) : Same H (upd H p o) := fun b u q => by rw [upd_ne (ne_of_none q h)]; exact q
theorem closed_new {H : Hp} {p : Addr} {o : HO} (c : Closed H) (h : H p = none) (ho : OwnIn (upd H p o) p o) : Closed (upd H p o) := fun a u e => by
  by_cases z : a = p
  · subst z; rw [upd_same] at e; cases e; exact ho
  · rw [upd_ne z] at e
    exact (c a u e).mono (same_new h)
theorem Sub.new {H H' : Hp} {p : Addr} {o : HO} (h : H p = none) (hs : Same H H') (e : H' p = some o) (ho : OwnIn (upd H p o) p o) : Sub H (upd H p o) H' :=
  ⟨fun b u q => by
    by_cases z : b = p
    · subst z; rw [upd_same] at q; cases q; exact e
    · rw [upd_ne z] at q; exact hs b u q, fun b u q => ⟨u, same_new h b u q⟩, fun c => closed_new c h ho⟩
theorem Sub.ins {H H' : Hp} {p C dx : Addr} {fs fs' : List (Str × V)} (h : H p = some (.ins C dx fs)) (hs : ∀ b u, b ≠ p → H b = some u → H' b = some u) (e : H' p = some (.ins C dx fs')) : Sub H (upd H p (.ins C dx fs')) H' :=
  ⟨fun b u q => by
    by_cases z : b = p
    · subst z; rw [upd_same] at q; cases q; exact e
    · rw [upd_ne z] at q; exact hs b u z q, fun b u q => by
    by_cases z : b = p
    · subst z; exact ⟨_, upd_same⟩
    · exact ⟨u, by rw [upd_ne z]; exact q⟩, fun c a u q => by
    have hd : H dx = some (.own p) := c p _ h
    have nd : dx ≠ p := fun z => by rw [z, h] at hd; cases hd
    by_cases z : a = p
    · subst z; rw [upd_same] at q; cases q
      show upd H a _ dx = _
      rw [upd_ne nd]; exact hd
    · rw [upd_ne z] at q
      have x := c a u q
      revert x
      generalize u = o
      clear q
      induction o with
      | ins C' d' f' =>
        intro (x : H d' = some (.own a))
        show upd H p _ d' = _
        rw [upd_ne (fun y => by rw [y, h] at x; cases x)]; exact x
      | frz ob u ih => intro x; exact ih x
      | _ => intro _; trivial⟩
section
variable {X : Cx} {pins : List (Addr × Obj)} {σ : St} {H H' H'' : Hp} {s s0 : Shared}
theorem Un.sub {fs ex : List Addr} {H0 : Hp} {h h1 h2 : Heap} (u0 : Un fs ex H0 H h h1) (u : Un fs ex H0 H' h h2) (d : Sub H H'' H') : Un fs ex H0 H'' h h2 := by
  refine ⟨u.keep, u.slot, fun b o e n hx => ?_, u.there, fun b xs e => ?_, fun b o v e => ?_, fun b ps e => ?_⟩
  · cases q : H'' b with
    | none => rfl
    | some v => have := d.le b v q; rw [u.free b o e n hx] at this; cases this
  · obtain ⟨v, hv⟩ := d.ge b _ (u0.tups b xs e)
    have := d.le b v hv; rw [u.tups b xs e] at this; cases this; exact hv
  · obtain ⟨z, hv⟩ := d.ge b _ (u0.frzs b o v e)
    have := d.le b z hv; rw [u.frzs b o v e] at this; cases this; exact hv
  · obtain ⟨m0, e0⟩ := u0.tbls b ps e
    obtain ⟨z, hv⟩ := d.ge b _ e0
    obtain ⟨m, e1⟩ := u.tbls b ps e
    have := d.le b z hv; rw [e1] at this; cases this; exact ⟨m, hv⟩
theorem HOk.sub {P : Program} {w : World} {h : Heap} (x : HOk P w H' h) (c : Closed H'') (d : Same H'' H') : HOk P w H'' h := fun a o e => (x a o (d a o e)).sub (c a o e)
theorem Inv.sub {σ0 : St} (I0 : Inv X pins σ0 H s0) (I : Inv X pins σ H' s) (d : Sub H H'' H') : Inv X pins σ H'' s :=
  ⟨I.ok, I.os, I.bare, I0.base.sub I.base d, I.loc, I.cell, d.le.free I.free, fun x c e => d.le.free (I.freeC x c e),
    fun p hp => let ⟨a, b, c⟩ := I.pin p hp; ⟨a, d.le.free b, c⟩, I.hok.sub (d.cl I0.hok.closed) d.le, I.len⟩
end
theorem FnOk.keep {P : Program} {w : World} {K : PySem.W.Frag} {mg : Str → Option Value} {base : Heap} {k : Nat} {f : Addr} {fd : FuncData} {ps : List Str} {sp sp' : Sp} (F : FnOk P w K mg base CX0 k f fd ps sp)
    (h : ∀ vs H Q E, sp' vs H Q E → sp vs H (fun v H' => ∃ H'', Sub H H'' H' ∧ Q v H'') E) : FnOk P w K mg base CX0 k f fd ps sp' := by
  refine ⟨fun vs H Q E q => F.len vs H _ E (h vs H Q E q), fun A outer s H args us vs Q E hr e0 hb r q => codeAny_mono (F.run A outer s H args us vs _ E hr e0 hb r (h vs H Q E q)) fun rs s' c => ?_⟩
  cases rs with
  | error e => exact c
  | ok fl =>
    cases fl with
    | ret u =>
      obtain ⟨v, H', os, bare, un, hok, rv, H'', d, q'⟩ := c
      exact ⟨v, H'', os, bare, Un.sub (Un.refl (h := s.heap)) un d, hok.sub (d.cl e0.hok.closed) d.le, rv, q'⟩
    | next => exact c
    | brk => exact c
    | cont => exact c
theorem Fun.okK {P : Program} {w : World} {K : PySem.W.Frag} {mg : Str → Option Value} {base : Heap} {x qual : Str} {st : Stmt} {f : Addr} {fd : FuncData} {N ps : List Str} {k : Nat} {sp : Sp} (F : Fun K x qual st f fd) (S : FnScope N ps (defScope st)) (len : ∀ vs H Q E, sp vs H Q E → vs.length = ps.length)
    (hbody : ∀ (cdv : Value) (A : Around) (outer : List Env) (s : Shared) (H : Hp) (vs : List V) (Q : VK) (E : XK), Room k (A.deeper (envOfC qual (defScope st) s.heap.objs.size f cdv)) → sp vs H Q E →
      ∃ t, PSs (cxOf CX0 P w K mg base N qual (defScope st) f cdv A outer s H E).nox (defBody st) t ∧ t { nx := fun _ H' => ∃ H'', Sub H H'' H' ∧ Q .non H'', rt := fun v H' => ∃ H'', Sub H H'' H' ∧ Q v H'' } (start N vs) H) : FnOk P w K mg base CX0 (k + 1) f fd ps sp :=
  (F.ok (sp := fun vs H Q E => ∃ Q', Q = (fun v H' => ∃ H'', Sub H H'' H' ∧ Q' v H'') ∧ sp vs H Q' E) S (fun vs H Q E ⟨Q', _, h⟩ => len vs H Q' E h) (fun cdv A outer s H vs Q E hr ⟨Q', e, h⟩ => by
    subst e
    exact hbody cdv A outer s H vs Q' E hr h)).keep fun vs H Q E h => ⟨Q, rfl, h⟩
end L2

end

section
namespace KM
def bitsW (n : Nat) : Nat → List Bool
  | 0 => []
  | w + 1 => n.testBit w :: bitsW n w
def blen (n : Nat) : Nat := if n = 0 then 0 else n.log2 + 1
theorem bitsW_length (n w : Nat) : (bitsW n w).length = w := by
  induction w with
  | zero => rfl
  | succ w ih => simp [bitsW, ih]
theorem blen_lt (n : Nat) : n < 2 ^ blen n := by
  unfold blen
  split
  · omega
  · exact Nat.lt_log2_self
def rd (a : Nat) (l : List Bool) : Nat := l.foldl (fun x b => 2 * x + b.toNat) a
theorem rd_nil (a : Nat) : rd a [] = a := rfl
def cend (e : Nat) : List Bool := if e = 8 then [] else [false]
def cnt (n : Nat) : List Bool :=
  List.replicate (blen (blen (n + 1)) - 1) true ++ (cend (blen (blen (n + 1))) ++ (bitsW (blen (n + 1)) (blen (blen (n + 1)) - 1) ++ bitsW (n + 1) (blen (n + 1) - 1)))
def whl (n : Int) : List Bool := if n < 0 then false :: (cnt (-1 - n).toNat).map (!·) else true :: cnt n.toNat
end KM
namespace KM
structure CntAt (L : List Bool) (p n : Nat) : Prop where
  ones : ∀ j, j < blen (blen (n + 1)) - 1 → L.getD (p + j) false = true
  zero : blen (blen (n + 1)) < 8 → L.getD (p + (blen (blen (n + 1)) - 1)) false = false
  size : (L.drop (p + (blen (blen (n + 1)) - 1) + (cend (blen (blen (n + 1)))).length)).take (blen (blen (n + 1)) - 1) = bitsW (blen (n + 1)) (blen (blen (n + 1)) - 1)
  more : (L.drop (p + (blen (blen (n + 1)) - 1) + (cend (blen (blen (n + 1)))).length + (blen (blen (n + 1)) - 1))).take (blen (n + 1) - 1) = bitsW (n + 1) (blen (n + 1) - 1)
  fits : p + (cnt n).length ≤ L.length
end KM

end

section
namespace KM
open PySem L2
def bc (b : Bool) : Nat := if b then 49 else 48
def rowS (l : List Bool) : Str := ⟨(l.map bc).toArray⟩
theorem str_ext {a b : Str} (h : a.cps.toList = b.cps.toList) : a = b := by
  obtain ⟨x⟩ := a; obtain ⟨y⟩ := b
  exact congrArg Str.mk (Array.ext' h)
theorem rowS_cps (l : List Bool) : (rowS l).cps.toList = l.map bc := by simp [rowS]
theorem rowS_length (l : List Bool) : (rowS l).length = l.length := by simp [rowS, Str.length]
theorem bc_inj {a b : Bool} (h : bc a = bc b) : a = b := by cases a <;> cases b <;> first | rfl | (revert h; decide)
theorem rowS_inj {a b : List Bool} (h : rowS a = rowS b) : a = b := by
  have := congrArg (fun x : Str => x.cps.toList) h
  simp only [rowS_cps] at this
  exact List.map_inj_right (fun _ _ => bc_inj) |>.mp this
theorem rowS_append (a b : List Bool) : rowS a ++ rowS b = rowS (a ++ b) := by
  apply str_ext
  show ((rowS a).cps ++ (rowS b).cps).toList = _
  rw [Array.toList_append, rowS_cps, rowS_cps, rowS_cps, List.map_append]
theorem s1 : (Str.ofString "1") = rowS [true] := by decide +kernel
theorem s0 : (Str.ofString "0") = rowS [false] := by decide +kernel
theorem sE : (Str.ofString "") = rowS [] := by decide +kernel
theorem rowS_dec (a b : List Bool) : decide (V.str (rowS a) = V.str (rowS b)) = decide (a = b) := by
  by_cases h : a = b
  · subst h; simp
  · have : ¬ V.str (rowS a) = V.str (rowS b) := fun q => h (rowS_inj (V.str.inj q))
    rw [decide_eq_false h, decide_eq_false this]
theorem join_nil_cps : ∀ ys : List Str, (Txt.join (Str.ofString "") ys).cps.toList = (ys.map (·.cps.toList)).flatten := by
  have e : (Str.ofString "").cps = #[] := by decide +kernel
  have key : ∀ (ys : List Str) (acc : Array Nat), (ys.foldl (fun acc p => acc ++ (Str.ofString "").cps ++ p.cps) acc).toList = acc.toList ++ (ys.map (·.cps.toList)).flatten := by
    intro ys
    induction ys with
    | nil => intro acc; simp
    | cons y r ih => intro acc; rw [List.foldl_cons, ih, e]; simp
  intro ys
  cases ys with
  | nil => rfl
  | cons y r =>
    show ((r.foldl (fun acc p => acc ++ (Str.ofString "").cps ++ p.cps) y.cps)).toList = _
    rw [key]; simp
theorem join_rows (ls : List (List Bool)) : Txt.join (Str.ofString "") (ls.map rowS) = rowS ls.flatten := by
  apply str_ext
  rw [join_nil_cps, rowS_cps, List.map_map, List.map_flatten]
  exact congrArg List.flatten (List.map_congr_left fun l _ => rowS_cps l)
theorem flat_ones (l : List Bool) : (l.map fun b => [b]).flatten = l := by
  induction l with
  | nil => rfl
  | cons b r ih => rw [List.map_cons, List.flatten_cons, ih]; rfl
theorem join_bits (l : List Bool) : Txt.join (Str.ofString "") (l.map fun b => rowS [b]) = rowS l := by
  have := join_rows (l.map fun b => [b])
  rw [List.map_map] at this
  rw [show (fun b => rowS [b]) = rowS ∘ (fun b => [b]) from rfl, this]
  exact congrArg rowS (flat_ones l)
theorem row_item {l : List Bool} {i : Nat} {b : Bool} (h : l[i]? = some b) : (rowS l).cps.toList[i]? = some (bc b) := by rw [rowS_cps, List.getElem?_map, h]; rfl
theorem sign_int (b : Bool) : PySem.intText? (rowS [b]) = some (b.toNat : Int) := by cases b <;> decide +kernel
theorem bits_eq (n : Nat) : Builtin.Int.intBits ((n : Nat) : Int) = blen n := by
  unfold Builtin.Int.intBits blen
  by_cases h : n = 0
  · subst h; rfl
  · have : (((n : Nat) : Int) == 0) = false := by simpa using h
    rw [this, if_neg (by decide), if_neg h]
    simp
end KM
namespace KM
open PySem L2
theorem row_sign {l : List Bool} {i c : Nat} (h : (rowS l).cps[i]? = some c) : V.str ⟨#[c]⟩ = V.str (rowS [l.getD i false]) := by
  have h' : (rowS l).cps.toList[i]? = some c := by simpa using h
  rw [rowS_cps, List.getElem?_map] at h'
  rw [List.getD_eq_getElem?_getD]
  cases e : l[i]? with
  | none => rw [e] at h'; cases h'
  | some b =>
    rw [e] at h'
    have : bc b = c := Option.some.inj h'
    rw [← this]; rfl
end KM

end

section
namespace L2
open PySem PySem.Spec PyProof.Rows
section
variable {X : Cx}
def oAdd := OpR.or (op_add (X := X)) op_add_str
theorem oSub : OpR X (binaryOp .Sub) (rI0 fun i j => .int (i - j)) := op_sub
def oMul := OpR.or (op_mul (X := X)) op_mul_str
def oLt := OpR.or (op_lt (X := X)) op_lt_str
def iAll := IxR.or (IxR.or (ix_list (X := X)) ix_tup) ix_str
def slAll := SlR.or (sl_list (X := X)) sl_str
theorem PI.or {tg it : Expr} {wi wi' : TI} (h : PI X tg it wi) (h' : PI X tg it wi') : PI X tg it (fun σ H R => wi σ H R ∨ wi' σ H R) := fun pins s σ H R I q => q.elim (h pins s σ H R I) (h' pins s σ H R I)
theorem piAll {tg l : Expr} {tl : TE} (hl : PE X l tl) : PI X tg l (fun σ H R => iList X.K tl σ H R ∨ iStr tl σ H R) := (pi_list hl).or (pi_str hl)
end
def FunAt (K : PySem.W.Frag) (mg : Str → Option Value) (x : Str) (st : Stmt) (ps : List Str) (f : Addr) (fd : FuncData) : Prop := Fun K x x st f fd ∧ Binds K fd ps [] ∧ mg x = some (.ref f)
def DefOk (P : Program) (w : World) (K : PySem.W.Frag) (mg : Str → Option Value) (base : Heap) (k : Nat) (x : Str) (ps : List Str) (sp : Sp) : Prop :=
  ∃ f fd, FnOk P w K mg base CX0 k f fd ps sp ∧ Binds K fd ps [] ∧ PySem.W.keepIn K (.ref f) = true ∧ mg x = some (.ref f)
def MethOk (P : Program) (w : World) (K : PySem.W.Frag) (mg : Str → Option Value) (base : Heap) (k : Nat) (C : Addr) (m : Str) (ps : List Str) (sp : Sp) : Prop :=
  ∃ f fd, FnOk P w K mg base CX0 k f fd ps sp ∧ Binds K fd ps [] ∧ Meth K C m f
def MakeOk (P : Program) (w : World) (K : PySem.W.Frag) (mg : Str → Option Value) (base : Heap) (k : Nat) (x : Str) (C : Addr) (ps : List Str) (sp : Sp) : Prop :=
  ∃ f fd, Mk K C f ∧ FnOk P w K mg base CX0 k f fd ps sp ∧ Binds K fd ps [] ∧ mg x = some (.ref C)
def GlobV (mg : Str → Option Value) (x : Str) (v : V) : Prop := ∃ u, mg x = some u ∧ RelV v u
section
variable {X : Cx} {k k' : Nat} {x m : Str} {C : Addr} {ps : List Str} {sp : Sp} {e o : Expr} {es : List Expr} {t : TA} {ta : TE} {p pos apos : Pos} {v : V}
theorem pe_globV (h : GlobV X.mg x v) (hg : Gl X x := by rfl) (hd : (x == ("__debug__" : Str)) = false := by decide +kernel) : PE X (.Name x p) (tC v) := by
  obtain ⟨u, h1, h2⟩ := h
  exact pe_glob hg h1 h2 hd
theorem pe_callD (h : DefOk X.prog X.w X.K X.mg X.base k x ps sp) (hr : Room k' X.A) (ha : PA X (e :: es) t) (hk : k ≤ k' := by decide) (hg : Gl X x := by rfl) (hdb : (x == ("__debug__" : Str)) = false := by decide +kernel)
    (he : starEach (e :: es) X.env = (false, eval e X.env) :: starEach es X.env := by rfl) (hpl : (backTo pos (starEach es X.env)).any (·.1) = false := by rfl) : PE X (.Call (.Name x p) (e :: es) [] pos) (tCall sp [] E0 t) := by
  obtain ⟨f, fd, F, hb, kp, hm⟩ := h
  exact pe_call F (hr.mono hk) hg hm kp hb .nil pass0 ha hdb he hpl
theorem pe_methD {pl : Sem Bool} (h : MethOk X.prog X.w X.K X.mg X.base k C m ps sp) (c : Cls X.K C) (hr : Room k' X.A) (he : PE X o ta) (ha : PA X (e :: es) t) (hk : k ≤ k' := by decide)
    (hst : starEach (e :: es) X.env = (false, eval e X.env) :: starEach es X.env := by rfl) (hpl : (backTo pos (starEach es X.env)).any (·.1) = false := by rfl)
    (ht : eval (.Call (.Attribute o m apos) (e :: es) [] pos) X.env = (do
      let ov ← eval o X.env
      standAt apos.atName
      let (f, first) ← holding [ov] (getMethod ov m pl)
      callWith pos f first (backTo pos (starEach (e :: es) X.env)) (backToKw pos (keywordEach [] X.env))) := by rfl) :
    PE X (.Call (.Attribute o m apos) (e :: es) [] pos) (tMeth C m sp [] E0 ta t) := by
  obtain ⟨f, fd, F, hb, hm⟩ := h
  exact pe_meth he c hm F (hr.mono hk) hb .nil pass0 ha hst hpl ht
theorem pe_methD0 {pl : Sem Bool} (h : MethOk X.prog X.w X.K X.mg X.base k C m ps sp) (c : Cls X.K C) (hr : Room k' X.A) (he : PE X o ta) (hk : k ≤ k' := by decide)
    (ht : eval (.Call (.Attribute o m apos) [] [] pos) X.env = (do
      let ov ← eval o X.env
      standAt apos.atName
      let (f, first) ← holding [ov] (getMethod ov m pl)
      callWith pos f first (backTo pos (starEach [] X.env)) (backToKw pos (keywordEach [] X.env))) := by rfl) :
    PE X (.Call (.Attribute o m apos) [] [] pos) (tMeth C m sp [] E0 ta tNil) := by
  obtain ⟨f, fd, F, hb, hm⟩ := h
  exact pe_meth0 he c hm F (hr.mono hk) hb .nil pass0 ht
theorem pe_makeD (h : MakeOk X.prog X.w X.K X.mg X.base k x C ps sp) (hr : Room k' X.A) (ha : PA X (e :: es) t) (hk : k + 1 ≤ k' := by decide) (hg : Gl X x := by rfl) (hdb : (x == ("__debug__" : Str)) = false := by decide +kernel)
    (he : starEach (e :: es) X.env = (false, eval e X.env) :: starEach es X.env := by rfl) (hpl : (backTo pos (starEach es X.env)).any (·.1) = false := by rfl) : PE X (.Call (.Name x p) (e :: es) [] pos) (tMake C sp [] E0 t) := by
  obtain ⟨f, fd, M, F, hb, hm⟩ := h
  exact pe_make M F (hr.mono hk) hg hm hb .nil pass0 ha hdb he hpl
end
theorem FunAt.ok {P : Program} {w : World} {K : PySem.W.Frag} {mg : Str → Option Value} {base : Heap} {x : Str} {st : Stmt} {f : Addr} {fd : FuncData} {N ps : List Str} {k : Nat} {sp : Sp} (F : FunAt K mg x st ps f fd) (S : FnScope N ps (defScope st)) (len : ∀ vs H Q E, sp vs H Q E → vs.length = ps.length)
    (hbody : ∀ (cdv : Value) (A : Around) (outer : List Env) (s : Shared) (H : Hp) (vs : List V) (Q : VK) (E : XK), Room k (A.deeper (envOfC x (defScope st) s.heap.objs.size f cdv)) → sp vs H Q E →
      ∃ t, PSs (cxOf CX0 P w K mg base N x (defScope st) f cdv A outer s H E).nox (defBody st) t ∧ t { nx := fun _ H' => ∃ H'', Sub H H'' H' ∧ Q .non H'', rt := fun v H' => ∃ H'', Sub H H'' H' ∧ Q v H'' } (start N vs) H) : DefOk P w K mg base (k + 1) x ps sp :=
  ⟨f, fd, F.1.okK S len hbody, F.2.1, F.1.kp, F.2.2⟩
end L2
namespace L2
open PySem PySem.Spec PyProof.Rows
section
variable {X : Cx} {e : Expr} {pos : Pos}
theorem oEq : OpR X (compareOp .Eq) rEq := op_eq
theorem oNe : OpR X (compareOp .NotEq) rNe := op_ne
theorem oLe : OpR X (compareOp .LtE) (rI0 fun i j => .bl (decide (i ≤ j))) := op_le
theorem oGt : OpR X (compareOp .Gt) (rI0 fun i j => .bl (decide (j < i))) := op_gt
theorem CallR.or' {f : Value} {r r' : List V → Hp → VK → Prop} (h : CallR X f r) (h' : CallR X f r') : CallR X f (fun xs H Q => r xs H Q ∨ r' xs H Q) := fun pins s σ H xs us Q I rv q => q.elim (h pins s σ H xs us Q I rv) (h' pins s σ H xs us Q I rv)
def call_intA := CallR.or' (call_int1 (X := X)) call_int_text
def call_isinstA := CallR.or' (call_isinst (X := X)) call_isinstC
theorem pe_notA {ta : TE} (ha : PE X e ta) : PE X (.UnaryOp .Not e pos) (fun σ H Q => ta σ H fun x H' => ∃ k, TruV X.K x H' k ∧ Q (.bl (!k)) H') := by
  intro pins s σ H Q I h
  refine UnaryOp_ (thn (ha pins s σ H _ I h) fun v s1 ⟨x, H1, I1, r1, k, tv, q1⟩ => ?_)
  exact not_of (thn (tru_ok pins s1 σ H1 x v (fun b H' => b = k ∧ Q (.bl (!k)) H') I1 r1 ⟨k, tv, rfl, q1⟩) fun b s2 ⟨H2, I2, e, q2⟩ => by subst e; exact ⟨.bl (!b), H2, I2, rfl, q2⟩)
end
end L2
namespace L2
open PySem
theorem bo_int : bootBuiltins "int" = some (.type "int") := by decide +kernel
theorem bo_str : bootBuiltins "str" = some (.type "str") := by decide +kernel
theorem bo_bool : bootBuiltins "bool" = some (.type "bool") := by decide +kernel
theorem bo_tuple : bootBuiltins "tuple" = some (.type "tuple") := by decide +kernel
theorem bo_list : bootBuiltins "list" = some (.type "list") := by decide +kernel
theorem bo_len : bootBuiltins "len" = some (.builtin "len") := by decide +kernel
theorem bo_isinstance : bootBuiltins "isinstance" = some (.builtin "isinstance") := by decide +kernel
theorem bo_all : bootBuiltins "all" = some (.builtin "all") := by decide +kernel
end L2

end

section
namespace L2
open PySem PySem.Spec PyProof.Rows KM
theorem upd_upd' {H : Hp} {a : Addr} {o u : HO} : upd (upd H a o) a u = upd H a u := by
  funext b
  unfold upd
  split <;> rfl
theorem comp_all {J : It} {g : TG} {te : TE} {Q : VK} {H : Hp} {D : Addr} {σ0 : St} (n : Nat) (xs fe : Nat → V) (S : St → Prop) (hn : n ≤ sizeLine) (h0 : S σ0)
    (hgo : ∀ i H, i < n → J.go i H) (hstop : ∀ H, J.stop n H) (hy : ∀ i H x H', i < n → J.yld i H x H' → H' = H ∧ x = xs i)
    (ht : ∀ i σ1 H1, i < n → S σ1 → ∀ R : St → V → Hp → Prop, (∀ σ2, S σ2 → R σ2 (fe i) H1) → g (xs i) σ1 H1 fun σ2 H2 => te σ2 H2 fun y H3 => R σ2 y H3)
    (hq : Q (.ref D) (upd H D (.lst ((List.range n).map fe)))) :
    CompGo J g tYes te Q σ0 H D := by
  refine ⟨fun i m σ1 H2 => i ≤ n ∧ m = n - i ∧ S σ1 ∧ H2 = upd H D (.lst ((List.range i).map fe)), ⟨n, Nat.zero_le _, rfl, h0, rfl⟩, ?_⟩
  rintro i m σ1 H2 ⟨h1, rfl, h2, rfl⟩
  rcases Nat.lt_or_ge i n with z | z
  · refine .inr ⟨hgo i _ z, fun x H3 y => ?_⟩
    obtain ⟨rfl, rfl⟩ := hy i _ x H3 z y
    refine ht i σ1 _ z h2 (fun σ2 y H6 => ∃ xs m', H6 D = some (.lst xs) ∧ xs.length < sizeLine ∧ m' < n - i ∧ (i + 1 ≤ n ∧ m' = n - (i + 1) ∧ S σ2 ∧ upd H6 D (.lst (xs ++ [y])) = upd H D (.lst ((List.range (i + 1)).map fe)))) fun σ2 q3 => ?_
    refine ⟨_, n - (i + 1), upd_same, ?_, by omega, by omega, rfl, q3, ?_⟩
    · rw [List.length_map, List.length_range]; omega
    · rw [upd_upd', List.range_succ, List.map_append]; rfl
  · have e : i = n := by omega
    subst e
    exact .inl ⟨hstop _, hq⟩
theorem for_rangeC {lo c : Int} {n : Nat} {g : TG} {tb : TS} {D : Ends} {σ : St} {H : Hp} (Pv : Nat → St → Hp → Prop) (h0 : Pv 0 σ H)
    (hs : ∀ i σ H, i < n → Pv i σ H → g (.int (lo + i * c)) σ H fun σ2 H2 => tb { D with nx := Pv (i + 1), ct := Pv (i + 1), bk := D.nx } σ2 H2) (hd : ∀ σ H, Pv n σ H → D.nx σ H) :
    ∃ W : Nat → Nat → St → Hp → Prop, (∃ m, W 0 m σ H) ∧ ∀ i m σ H, W i m σ H →
      ((Itc lo c n).stop i H ∧ D.nx σ H) ∨ ((Itc lo c n).go i H ∧ ∃ N : St → Hp → Prop, (∀ σ' H', N σ' H' → ∃ m', m' < m ∧ W (i + 1) m' σ' H') ∧ ∀ x H', (Itc lo c n).yld i H x H' → g x σ H' fun σ2 H2 => tb { D with nx := N, ct := N, bk := D.nx } σ2 H2) := by
  refine ⟨fun i m σ H => i ≤ n ∧ m = n - i ∧ Pv i σ H, ⟨n, Nat.zero_le _, rfl, h0⟩, ?_⟩
  rintro i m σ H ⟨h1, rfl, h2⟩
  rcases Nat.lt_or_ge i n with z | z
  · refine .inr ⟨z, Pv (i + 1), fun σ' H' q => ⟨n - (i + 1), by omega, by omega, rfl, q⟩, ?_⟩
    rintro x H' ⟨rfl, rfl⟩
    exact hs i σ _ z h2
  · have e : i = n := by omega
    subst e
    exact .inl ⟨Nat.le_refl _, hd σ H h2⟩
end L2
namespace L2
open PySem
theorem upd_self' {H : Hp} {a : Addr} {o : HO} (h : H a = some o) : upd H a o = H := by
  funext b
  unfold upd
  split
  · rename_i e; rw [e, h]
  · rfl
end L2
namespace KM
theorem div_step (n k : Nat) : n / 2 ^ k = 2 * (n / 2 ^ (k + 1)) + (n.testBit k).toNat := by
  rw [Nat.testBit_eq_decide_div_mod_eq, Nat.pow_succ, ← Nat.div_div_eq_div_mul]
  have : n / 2 ^ k % 2 < 2 := Nat.mod_lt _ (by decide)
  by_cases q : n / 2 ^ k % 2 = 1
  · simp [q]; omega
  · have : n / 2 ^ k % 2 = 0 := by omega
    simp [this]; omega
theorem bitsW_get {n d j : Nat} (h : j < d) : (bitsW n d)[j]? = some (n.testBit (d - 1 - j)) := by
  induction d generalizing j with
  | zero => omega
  | succ d ih =>
    cases j with
    | zero => simp [bitsW]
    | succ j =>
      rw [bitsW, List.getElem?_cons_succ, ih (by omega)]
      congr 2
      omega
theorem piece_get {l : List Bool} {i d n j : Nat} {t : Bool} (h : ((l.drop i).take d).map (xor t) = bitsW n d) (hj : j < d) (hl : i + d ≤ l.length) : ∃ b, l[i + j]? = some b ∧ xor t b = n.testBit (d - 1 - j) := by
  have e := bitsW_get (n := n) hj
  rw [← h, List.getElem?_map, List.getElem?_take_of_lt hj, List.getElem?_drop] at e
  cases q : l[i + j]? with
  | none => rw [q] at e; cases e
  | some b =>
    rw [q] at e
    exact ⟨b, rfl, Option.some.inj e⟩
end KM
namespace L2
open PySem
theorem kit_same (K : PySem.W.Frag) (t : Value) : PySem.W.kitOne K t t = some true := by
  unfold PySem.W.kitOne; rw [beq_self_eq_true, if_pos rfl]
end L2
namespace KM
open PySem L2
theorem two_at (m : Nat) : atI [V.str (Str.ofString "0"), V.str (Str.ofString "1")] ((m : Int) % 2) = some (.str (rowS [decide (m % 2 = 1)])) := by
  have h : m % 2 = 0 ∨ m % 2 = 1 := by omega
  rcases h with h | h
  · have e : ((m : Int) % 2) = ((0 : Nat) : Int) := by omega
    rw [e, h]
    exact atI_nat (by rw [s0]; rfl)
  · have e : ((m : Int) % 2) = ((1 : Nat) : Int) := by omega
    rw [e, h]
    exact atI_nat (by rw [s1]; rfl)
end KM
namespace KM
end KM

end

section
namespace L2
open PySem PySem.Spec PyProof.Rows
def Fly (h : Heap) (e : Addr) (cls : Value) (d : Option Addr) (T : Addr) (fl : Value) : Prop :=
  ∃ oe vs oT ts, h.get? e = some oe ∧ oe.cls = cls ∧ oe.dict = d ∧ oe.data = .fields vs ∧ vs[1]? = some (.ref T) ∧ T ≠ e ∧ h.get? T = some oT ∧ oT.data = .fields ts ∧ ts[3]? = some fl ∧ (d = none ∨ vs[2]? = some .none)
structure Stn (fs : List Addr) (e : Addr) (T : Option Addr) (h h' : Heap) : Prop where
  keep : ∀ b o, b ≠ e → some b ≠ T → b ∉ fs → h.get? b = some o → h'.get? b = some o
  slot : ∀ b o, b ≠ e → some b ≠ T → h.get? b = some o → ∃ sl, h'.get? b = some { o with slots := sl }
section
variable {M : Model} {A : Around} {E : Value → Shared → Prop} {s : Shared} {base : Heap} {env : Env} {outer : List Env} {L e T : Addr} {oe : Obj} {vs : Array Value} {head : Value} {hadNext : Bool} {Q : Unit → Shared → Prop} {cls : Value} {d : Option Addr} {fl : Value}
theorem dict_mapFields (o : Obj) (f) : (o.mapFields f).dict = o.dict := by
  obtain ⟨c, d, dt, sl⟩ := o; cases dt <;> rfl
theorem entryD (hfr : A.frames = some (env :: outer)) (hl : s.heap.FunFrames base (env :: outer)) (hf : env.frame = some L) (he : s.heap.get? e = some oe) (hd : oe.data = .fields vs) (hsz : 1 < vs.size) (hcx : oe.dict = none ∨ vs[2]? = some .none)
    (h : ∀ h' T', Fly h' e oe.cls oe.dict T' (rawInt L) → s.heap.get? T' = none → h'.FunFrames base (env :: outer) → Stn ((env :: outer).filterMap (·.frame)) e none s.heap h' → Q () { s with heap := h' }) :
    wpAny M A (do let a ← frameOf env; let pl ← entryPlaceOf L hadNext; let b ← EntryCells.newEntry head a .none (rawInt L) .none pl; setField (.ref e) 1 b) Q E s := by
  have hene : e ∉ (env :: outer).filterMap (·.frame) := fun hm => by
    obtain ⟨_, o, ho, hnf⟩ := hl.mem hm
    rw [he] at ho; injection ho with ho; subst ho; exact hnf vs hd
  refine wpAny_bind (wpAny_frameOf_fun hfr hl hf fun h₁ hs₁ => ?_)
  refine wpAny_bind (wpAny_entryPlaceOf fun pl hpl => ?_)
  unfold EntryCells.newEntry newFields
  refine wpAny_bind (wpAny_newObj_type ?_ (hpl.sizeOk5 _ _ _ _ _))
  have he1 : h₁.get? e = some oe := (hs₁.2.1 e hene).trans he
  generalize hoT : ({ cls := .type "traceback", dict := none, data := .fields ([head, .ref L, .none, rawInt L, .none] ++ (if pl.isEmpty then List.replicate 6 Value.none else pl)).toArray } : Obj) = oT
  have he2 := Heap.get?_push_of_some (h := h₁) oT he1
  refine wpAny_setField he2 hd hsz ?_
  have hTe : h₁.objs.size ≠ e := Nat.ne_of_gt (Heap.lt_size he1)
  have hd3 := Obj.data_mapFields hd (·.setIfInBounds 1 (Value.ref h₁.objs.size))
  have he3 := Heap.get?_update_self (Obj.mapFields (·.setIfInBounds 1 (Value.ref h₁.objs.size))) he2 (Obj.isFreed_of_fields hd3)
  have hT3 : ((h₁.push oT).update e (Obj.mapFields (·.setIfInBounds 1 (Value.ref h₁.objs.size)))).get? h₁.objs.size = some oT :=
    (Heap.get?_update_other _ _ (Ne.symm hTe)).trans (Heap.get?_push_size h₁ (by rw [← hoT]; rfl))
  have keep : ∀ b o, b ≠ e → h₁.get? b = some o → ((h₁.push oT).update e (Obj.mapFields (·.setIfInBounds 1 (Value.ref h₁.objs.size)))).get? b = some o := fun b o hbe hb => by
    rw [Heap.get?_update_other _ _ (Ne.symm hbe)]; exact Heap.get?_push_of_some _ hb
  have noRec : ∀ b o, s.heap.get? b = some o → (∀ vs, o.data ≠ .fields vs) → b ≠ e := fun b o hb hnf q => by
    rw [q, he] at hb; injection hb with hb; subst hb; exact hnf vs hd
  refine h _ h₁.objs.size ⟨_, _, oT, _, he3, Obj.cls_mapFields _ _, dict_mapFields _ _, hd3, by simp [hsz], hTe, hT3, by rw [← hoT], ?_, hcx.imp id fun z => by rw [Array.getElem?_setIfInBounds_ne (by decide)]; exact z⟩ ?_ (hl.of_keeps fun b o hb hnf => ?_) ⟨fun b o hbe _ hbf hb => keep b o hbe ((hs₁.2.1 b hbf).trans hb), fun b o hbe _ hb => ?_⟩
  · first | (simp; done) | (rcases hpl with rfl | ⟨_, _, _, _, _, _, _, rfl⟩ <;> simp)
  · exact Heap.get?_none_of_le (by rw [hs₁.1]; exact Nat.le_refl _)
  · obtain ⟨sl, hs⟩ := hs₁.2.2 b o hb
    exact ⟨_, keep b _ (noRec b o hb hnf) hs, rfl⟩
  · obtain ⟨sl, hs⟩ := hs₁.2.2 b o hb
    exact ⟨sl, keep b _ hbe hs⟩
theorem landD (hl : s.heap.FunFrames base outer) (ht : Fly s.heap e cls d T fl)
    (h : ∀ h', Fly h' e cls d T .none → h'.FunFrames base outer → (∀ b o, b ≠ T → s.heap.get? b = some o → h'.get? b = some o) → Q () { s with heap := h' }) : wpAny M A (setFlight (.ref e) none) Q E s := by
  obtain ⟨oe, vs, oT, ts, he, hc, hdd, hd, h1, hTe, hT, hdT, h3, hcx⟩ := ht
  have hsz3 : 3 < ts.size := (Array.getElem?_eq_some_iff.mp h3).1
  unfold setFlight
  refine wpAny_bind (wpAny_field he hd h1 ?_)
  rw [if_pos (show (Value.ref T != Value.none) = true from by simp)]
  have other : ∀ b, b ≠ T → (s.heap.update T (Obj.mapFields (·.setIfInBounds 3 ((none : Option Addr).elim Value.none fun f => rawInt f)))).get? b = s.heap.get? b := fun b hb => Heap.get?_update_other _ _ (Ne.symm hb)
  have noRec : ∀ b o, s.heap.get? b = some o → (∀ vs, o.data ≠ .fields vs) → b ≠ T := fun b o hb hnf q => by
    rw [q, hT] at hb; injection hb with hb; subst hb; exact hnf ts hdT
  refine wpAny_setField hT hdT hsz3 (h _ ⟨oe, vs, _, _, (other e (Ne.symm hTe)).trans he, hc, hdd, hd, h1, hTe, Heap.get?_update_self _ hT (Obj.isFreed_of_fields (Obj.data_mapFields hdT _)), Obj.data_mapFields hdT _, by simp [hsz3], hcx⟩
    (hl.of_keeps fun b o hb hnf => ⟨o, (other b (noRec b o hb hnf)).trans hb, rfl⟩) fun b o hb q => (other b hb).trans q)
theorem noteD (hfr : A.frames = some (env :: outer)) (hl : s.heap.FunFrames base (env :: outer)) (hf : env.frame = some L) (ht : Fly s.heap e cls d T .none)
    (h : ∀ h' T', Fly h' e cls d T' (rawInt L) → s.heap.get? T' = none → h'.FunFrames base (env :: outer) → Stn ((env :: outer).filterMap (·.frame)) e (some T) s.heap h' → Q () { s with heap := h' }) : wpAny M A (noteFrame (.ref e) env) Q E s := by
  obtain ⟨oe, vs, oT, ts, he, hc, hdd, hd, h1, hTe, hT, hdT, h3, hcx⟩ := ht
  unfold noteFrame
  simp only [hf]
  refine wpAny_bind (wpAny_field he hd h1 ?_)
  rw [if_pos (show (Value.ref T != Value.none) = true from by simp)]
  refine wpAny_bind (wpAny_field hT hdT h3 ?_)
  rw [if_neg (show ¬ ((Value.none == rawInt L) = true) from by simp [rawInt])]
  refine wpAny_bind (wpAny_setField hT hdT (Array.getElem?_eq_some_iff.mp h3).1 ?_)
  have other : ∀ b, b ≠ T → (s.heap.update T (Obj.mapFields (·.setIfInBounds 3 Value.none))).get? b = s.heap.get? b := fun b hb => Heap.get?_update_other _ _ (Ne.symm hb)
  have noRec : ∀ b o, s.heap.get? b = some o → (∀ vs, o.data ≠ .fields vs) → b ≠ T := fun b o hb hnf q => by
    rw [q, hT] at hb; injection hb with hb; subst hb; exact hnf ts hdT
  have back : ∀ b, (s.heap.update T (Obj.mapFields (·.setIfInBounds 3 Value.none))).get? b = none → s.heap.get? b = none := fun b hb => by
    by_cases z : b = T
    · subst z
      rw [Heap.get?_update_self _ hT (Obj.isFreed_of_fields (Obj.data_mapFields hdT _))] at hb; cases hb
    · rw [other b z] at hb; exact hb
  subst hc hdd
  refine entryD (s := { s with heap := s.heap.update T (Obj.mapFields (·.setIfInBounds 3 Value.none)) }) hfr (hl.of_keeps fun b o hb hnf => ⟨o, (other b (noRec b o hb hnf)).trans hb, rfl⟩) hf ((other e (Ne.symm hTe)).trans he) hd (Array.getElem?_eq_some_iff.mp h1).1 hcx fun h' T' x1 x2 x3 x4 => ?_
  exact h h' T' x1 (back _ x2) x3 ⟨fun b o h1 h2 h3 h4 => x4.keep b o h1 (by simp) h3 ((other b (fun z => h2 (by rw [z]))).trans h4), fun b o h1 h2 h4 => x4.slot b o h1 (by simp) ((other b (fun z => h2 (by rw [z]))).trans h4)⟩
theorem leaveD_next (hfr : A.frames = some (env :: outer)) (hl : s.heap.FunFrames base (env :: outer)) (hf : env.frame = some L) (ht : Fly s.heap e cls d T .none)
    (h : ∀ h' T', Fly h' e cls d T' .none → s.heap.get? T' = none → Stn ((env :: outer).filterMap (·.frame)) e (some T) s.heap h' → Q () { s with heap := h' }) : wpAny M A (leaving env (.ref e)) Q E s := by
  unfold leaving
  refine wpAny_bind (noteD hfr hl hf ht fun h1 T' x1 x2 x3 x4 => ?_)
  refine landD x3 x1 fun h2 y1 _ y3 => h h2 T' y1 x2 ⟨fun b o h1 h2 h3 h4 => y3 b o (fun z => by rw [z, x2] at h4; cases h4) (x4.keep b o h1 h2 h3 h4), fun b o h1 h2 h4 => ?_⟩
  obtain ⟨sl, e⟩ := x4.slot b o h1 h2 h4
  exact ⟨sl, y3 b _ (fun z => by rw [z, x2] at h4; cases h4) e⟩
theorem leaveD_first (hfr : A.frames = some (env :: outer)) (hl : s.heap.FunFrames base (env :: outer)) (hf : env.frame = some L) (he : s.heap.get? e = some oe) (hd : oe.data = .fields vs) (h1 : vs[1]? = some .none) (hcx : oe.dict = none ∨ vs[2]? = some .none)
    (h : ∀ h' T', Fly h' e oe.cls oe.dict T' .none → s.heap.get? T' = none → Stn ((env :: outer).filterMap (·.frame)) e none s.heap h' → Q () { s with heap := h' }) : wpAny M A (leaving env (.ref e)) Q E s := by
  unfold leaving noteFrame
  simp only [hf]
  refine wpAny_bind (wpAny_bind (wpAny_field he hd h1 ?_))
  rw [if_neg (by decide)]
  refine entryD hfr hl hf he hd (Array.getElem?_eq_some_iff.mp h1).1 hcx fun h1 T' x1 x2 x3 x4 => ?_
  refine landD x3 x1 fun h2 y1 _ y3 => h h2 T' y1 x2 ⟨fun b o h1 h2 h3 h4 => y3 b o (fun z => by rw [z, x2] at h4; cases h4) (x4.keep b o h1 h2 h3 h4), fun b o h1 h2 h4 => ?_⟩
  obtain ⟨sl, e⟩ := x4.slot b o h1 h2 h4
  exact ⟨sl, y3 b _ (fun z => by rw [z, x2] at h4; cases h4) e⟩
end
end L2

end

section
namespace L2
open PySem PySem.Spec PyProof.Rows
def CXe (P : Program) (w : World) : CXT := fun outer H s E e s' => ∃ a C d H' T, e = .ref a ∧ s'.os = s.os ∧ AllBare s'.gens ∧ Un (frs outer) [] H H' s.heap s'.heap ∧ HOk P w H' s'.heap ∧
  Fly s'.heap a (.ref C) d T .none ∧ H' a = none ∧ H' T = none ∧ s.heap.get? a = none ∧ s.heap.get? T = none ∧ E (.ref C) d H'
theorem HOk.there {P : Program} {w : World} {H : Hp} {h : Heap} (ok : HOk P w H h) {a : Addr} {o : HO} (e : H a = some o) : ∃ u, h.get? a = some u := by
  have x := ok a o e
  cases o with
  | lst xs => obtain ⟨_, _, _, _, e⟩ := x; exact ⟨_, e⟩
  | tup xs => obtain ⟨_, _, _, p⟩ := x; obtain ⟨o, e, _⟩ := p; exact ⟨_, e⟩
  | dK kvs => obtain ⟨_, _, _, _, o, _, _, e, _⟩ := x; exact ⟨_, e⟩
  | dT kvs => exact (show False from x).elim
  | set S n => obtain ⟨o, _, _, _, e, _⟩ := x; exact ⟨_, e⟩
  | ins C dx fs => obtain ⟨_, _, _, e, _⟩ := x; exact ⟨_, e⟩
  | own y => exact x
  | xd fs => obtain ⟨_, ⟨_, _, _, e, _⟩, _⟩ := x; exact ⟨_, e⟩
  | rng lo hi => obtain ⟨_, _, _, e⟩ := x; exact ⟨_, e⟩
  | frz ob u => obtain ⟨e, _⟩ := x; exact ⟨_, e⟩
  | tbl ps => exact ⟨_, x⟩
  | met f y => exact ⟨_, x⟩
  | ext φ => exact x.2.1
theorem HOk.none {P : Program} {w : World} {H : Hp} {h : Heap} (ok : HOk P w H h) {a : Addr} (e : h.get? a = none) : H a = none := by
  cases q : H a with
  | none => rfl
  | some o => obtain ⟨u, z⟩ := ok.there q; rw [e] at z; cases z
section
variable {P : Program} {w : World} {K : PySem.W.Frag} {mg : Str → Option Value} {base : Heap} {N : List Str} {qual : Str} {scope : Scope} {f : Addr} {cdv : Value} {A : Around} {outer : List Env} {s : Shared} {H : Hp} {E : XK}
theorem stn_un {X : Cx} {pins : List (Addr × Obj)} {σ : St} {H1 : Hp} {s1 : Shared} {h' : Heap} {a : Addr} {T : Option Addr} (I : Inv X pins σ H1 s1) (hx : X.ex = []) (hs : X.stack = X.env :: X.outer) (S : Stn (frs X.stack) a T s1.heap h')
    (na : X.s₀.heap.get? a = none) (nT : ∀ t, T = some t → X.s₀.heap.get? t = none) (fa : H1 a = none) (fT : ∀ t, T = some t → H1 t = none) : Un (frs X.outer) [] X.H₀ H1 X.s₀.heap h' ∧ HOk X.prog X.w H1 h' := by
  have B := I.base
  rw [hx] at B
  have nea : ∀ b o, X.s₀.heap.get? b = some o → b ≠ a := fun b o e z => by rw [z, na] at e; cases e
  have neT : ∀ b o, X.s₀.heap.get? b = some o → some b ≠ T := fun b o e z => by have := nT b z.symm; rw [e] at this; cases this
  have neL : ∀ b o, X.s₀.heap.get? b = some o → b ≠ X.env.locals := fun b o e => Nat.ne_of_lt (Nat.lt_of_lt_of_le (Heap.lt_size e) I.ok.above)
  refine ⟨⟨fun b o e n hb hx => ?_, fun b o e n hb hx => ?_, B.free, fun b o e hx => ?_, B.tups, B.frzs, B.tbls⟩, fun b u e => (I.hok b u e).stay (fun c v hc q => ?_) (fun _ q => q) fun _ _ q => q⟩
  · refine S.keep b o (nea b o e) (neT b o e) (fun z => ?_) (B.keep b o e n hb hx)
    exact (List.mem_cons.mp (I.stkSub b z)).elim (neL b o e) hb
  · obtain ⟨sl, e1⟩ := B.slot b o e n hb hx
    obtain ⟨sl', e2⟩ := S.slot b _ (nea b o e) (neT b o e) e1
    exact ⟨sl', e2⟩
  · obtain ⟨o', e1⟩ := B.there b o e hx
    obtain ⟨sl', e2⟩ := S.slot b _ (nea b o e) (neT b o e) e1
    exact ⟨_, e2⟩
  · have hcn : ∃ z, H1 c = some z := by
      rcases hc with rfl | hc
      · exact ⟨_, e⟩
      · exact ⟨_, hc⟩
    obtain ⟨z, hz⟩ := hcn
    refine S.keep c v (fun y => ?_) (fun y => ?_) (fun y => ?_) q
    · rw [y, fa] at hz; cases hz
    · rw [fT c y.symm] at hz; cases hz
    · rw [I.stkFree c y] at hz; cases hz
end
section
variable {P : Program} {w : World} {K : PySem.W.Frag} {mg : Str → Option Value} {base : Heap} {N : List Str} {qual : Str} {scope : Scope} {f : Addr} {cdv : Value} {A : Around} {outer : List Env} {s : Shared} {H : Hp} {E : XK}
def Throws (X : Cx) (E : XK) : Prop := ∀ (pins : List (Addr × Obj)) (σ : St) (H1 : Hp) (s1 : Shared) (a C : Addr) (oe : Obj) (vs : Array Value), Inv X pins σ H1 s1 → s1.heap.get? a = some oe → oe.cls = .ref C → oe.data = .fields vs → vs[1]? = some .none → (oe.dict = none ∨ vs[2]? = some .none) →
  H1 a = none → X.s₀.heap.get? a = none → E (.ref C) oe.dict H1 → X.xe (.ref a) s1
theorem throws_fn : Throws (cxOf (CXe P w) P w K mg base N qual scope f cdv A outer s H E) E := by
  intro pins σ H1 s1 a C oe vs I he hc hd h1 hcx fa na q
  refine leaveD_first (base := base) I.ok.frames I.stack rfl he hd h1 hcx fun h' T' x1 x2 x3 => ?_
  have fT := I.hok.none x2
  obtain ⟨u, hk⟩ := stn_un (T := none) I rfl rfl x3 na (fun t z => by cases z) fa (fun t z => by cases z)
  refine ⟨a, C, oe.dict, H1, T', rfl, I.os, I.bare, u, hk, hc ▸ x1, fa, fT, na, ?_, q⟩
  cases z : s.heap.get? T' with
  | none => rfl
  | some o =>
    obtain ⟨o', e⟩ := I.base.there T' o z (show T' ∉ ([] : List Addr) by simp)
    rw [x2] at e; cases e
theorem passes_fn : Passes (CXe P w) (cxOf (CXe P w) P w K mg base N qual scope f cdv A outer s H E) E := by
  intro pins σ H1 s1 e s2 I h
  obtain ⟨a, C, d, H2, T, rfl, os, bare, un, hok, fly, fa, fT, na, nT, q⟩ := h
  have I2 : Inv (cxOf (CXe P w) P w K mg base N qual scope f cdv A outer s H E) pins σ H2 s2 := I.call' (ch := []) os un hok bare (fun b z => absurd z (by simp))
  have old : ∀ b, s1.heap.get? b = none → s.heap.get? b = none := fun b hb => by
    cases z : s.heap.get? b with
    | none => rfl
    | some o =>
      obtain ⟨o', e⟩ := I.base.there b o z (show b ∉ ([] : List Addr) by simp)
      rw [hb] at e; cases e
  refine leaveD_next (base := base) I2.ok.frames I2.stack rfl fly fun h' T' x1 x2 x3 => ?_
  obtain ⟨u, hk⟩ := stn_un (T := some T) I2 rfl rfl x3 (old a na) (fun t z => by cases z; exact old T nT) fa (fun t z => by cases z; exact fT)
  refine ⟨a, C, d, H2, T', rfl, I2.os, I2.bare, u, hk, x1, fa, I2.hok.none x2, old a na, ?_, q⟩
  cases z : s.heap.get? T' with
  | none => rfl
  | some o =>
    obtain ⟨o', e⟩ := I2.base.there T' o z (show T' ∉ ([] : List Addr) by simp)
    rw [x2] at e; cases e
end
end L2

end

section
namespace L2
open PySem PySem.W PySem.Spec PyProof.Rows
structure ExcC (K : Frag) (C : Addr) : Prop where
  ga : findIn K (.ref C) "__getattribute__" = some (some (.builtin "BaseException.__getattribute__"))
  gt : findIn K (.ref C) "__getattr__" = some none
  cl : findIn K (.ref C) "__class__" = some (some (.builtin "object.__class__"))
  ob : mroIn K C (.type "object") = some true
  be : mroIn K C (.type "BaseException") = some true
  is : isClsIn K C = true
  hn : specialIn K (.builtin "object.__class__") "__get__" = some (some (.builtin "getset_descriptor.__get__"))
  tk : takesIn K (.builtin "object.__class__") = some true
section
variable {K : Frag} {prog : Program} {w : World} {A : Around} {E : Value → Shared → Prop} {h : Heap} {g : Array GenState} {d : Drawn} {t : Nat} {os : OsState} {x C : Addr} {ox : Obj} {odo : Option Obj} {name : Str}
theorem exc_call {tk : Tok} {R : Result → Shared → Prop} (X : K.In h) (I : InstAt h x ox C odo) (c : ExcC K C)
    (hq : wpAny (model prog w) A.in1 (Builtin.«object.__getattribute__» ⟨[.ref x, .str name tk], []⟩) (fun fin s' => match fin with | .done (.ret v) => R (.ok (.ret v)) s' | _ => False) (fun _ _ => False) ⟨h, g, d, t, os⟩) :
    codeAny (model prog w) A (.call (.builtin "BaseException.__getattribute__") ⟨[.ref x, .str name tk], []⟩) R ⟨h, g, d, t, os⟩ := by
  have L0 := I.type (M := model prog w)
  have L1 := looks_mroIn (M := model prog w) X c.be
  refine codeAny_call_builtin F.attr_ValueError.ga.plain F.entry_bexc_ga (check_slot (i := "BaseException.__getattribute__") (owner := "BaseException") (n := "__getattribute__") (by decide +kernel) (by decide +kernel) (L0.andThen L1) (F.args_bexc_ga _ _) ?_)
  refine wpAny_mono hq (fun fin s' z => ?_) fun _ _ z => False.elim z
  rcases fin with (_ | _ | _ | _) | _ <;> first | exact z | exact z.elim
theorem exc_by {tk : Tok} {fill expr : Bool} {Q : Value → Shared → Prop} (X : K.In h) (I : InstAt h x ox C odo) (c : ExcC K C)
    (hq : ∀ A : Around, wpAny (model prog w) A (Builtin.«object.__getattribute__» ⟨[.ref x, .str name tk], []⟩) (fun fin s' => match fin with | .done (.ret v) => Q v s' ∧ handedIn v = true | _ => False) (fun _ _ => False) ⟨h, g, d, t, os⟩) :
    wpAny (model prog w) A (getAttrBy (.ref x) (.str name tk) fill expr) Q E ⟨h, g, d, t, os⟩ := by
  have L0 := I.type (M := model prog w)
  have L1 := looks_findIn (M := model prog w) X c.ga
  have L2 := looks_findIn (M := model prog w) X c.gt
  have f3 := F.attr_ValueError.ga.bind (.ref x)
  have hx0 : (expr && onTheHeap (Value.builtin "BaseException.__getattribute__")) = false := by cases expr <;> rfl
  have hx2 : (Value.builtin "BaseException.__getattribute__" == Value.builtin "object.__getattribute__") = false := by decide +kernel
  have hx1 : (onTheHeap (Value.ref C) && Value.builtin "BaseException.__getattribute__" == Value.builtin "object.__getattribute__") = false := by rw [hx2]; rfl
  unfold getAttrBy
  refine wpAny_holding (wpAny_bind (L0.at (wpAny_bind (L1.at ?_))))
  dsimp only
  rw [if_neg (by rw [hx1]; decide)]
  have rest : ∀ A : Around, codeAny (model prog w) A (.call (.builtin "BaseException.__getattribute__") ⟨[.ref x, .str name tk], []⟩) (fun r s' => match r with | .ok (.ret v) => Q v s' ∧ handedIn v = true | _ => False) ⟨h, g, d, t, os⟩ := fun A => exc_call X I c (wpAny_mono (hq A.in1) (fun fin s' z => by rcases fin with (_ | _ | _ | _) | _ <;> first | exact z | exact z.elim) fun _ _ z => z.elim)
  repeat (any_goals (first | assumption | with_reducible refine L2.at ?_ | wp_step))
  refine codeAny_mono (rest A) fun r s' z => ?_
  cases r with
  | error e => exact z.elim
  | ok fl => cases fl with
    | ret v => exact handed_on z.2 z.1
    | next => exact z.elim
    | brk => exact z.elim
    | cont => exact z.elim
theorem exc_entry_class {tk : Tok} {Q : Fin → Shared → Prop} (X : K.In h) (I : InstAt h x ox C odo) (c : ExcC K C) (hq : Q (.done (.ret (.ref C))) ⟨h, g, d, t, os⟩) :
    wpAny (model prog w) A (Builtin.«object.__getattribute__» ⟨[.ref x, .str "__class__" tk], []⟩) Q E ⟨h, g, d, t, os⟩ := by
  have L0 := I.type (M := model prog w)
  obtain ⟨cd, hc⟩ := Option.isSome_iff_exists.mp (show (clsIn K C).isSome = true from c.is)
  have hf : findObj K C odo "__class__" = some (.bind (.builtin "getset_descriptor.__get__") (.builtin "object.__class__")) := by
    unfold findObj
    rw [hc, Option.bind_some, c.cl, Option.bind_some]
    simp [c.hn, c.tk]
  have L1 := looks_find (M := model prog w) X I hf
  repeat (any_goals (first | assumption | with_reducible refine L0.at ?_ | with_reducible refine L1.at ?_ | wp_step))
  refine class_get (s := ⟨h, g, d, t, os⟩) (ox := ox) (od := odo) X I c.ob ?_
  repeat (any_goals (first | assumption | wp_step))
theorem exc_entry_value {tk : Tok} {v : Value} {Q : Fin → Shared → Prop} (X : K.In h) (I : InstAt h x ox C odo) (hf : findObj K C odo name = some (.value v)) (hq : Q (.done (.ret v)) ⟨h, g, d, t, os⟩) :
    wpAny (model prog w) A (Builtin.«object.__getattribute__» ⟨[.ref x, .str name tk], []⟩) Q E ⟨h, g, d, t, os⟩ := by
  have L0 := I.type (M := model prog w)
  have L1 := looks_find (M := model prog w) X I hf
  repeat (any_goals (first | assumption | with_reducible refine L0.at ?_ | with_reducible refine L1.at ?_ | wp_step))
theorem exc_class {Q : Option Value → Shared → Prop} {s : Shared} (X : K.In s.heap) (I : InstAt s.heap x ox C odo) (c : ExcC K C) (hq : Q (some (.ref C)) { s with toks := s.toks + 1 }) : wpAny (model prog w) A (getAttr? (.ref x) "__class__") Q E s := by
  obtain ⟨h, g, d, t, os⟩ := s
  unfold getAttr? getAttrBy?
  refine wpAny_bind (wpAny_mkText (wpAny_bind (wpAny_attempt ?_)))
  exact exc_by X I c fun A => exc_entry_class X I c ⟨wpAny_pure hq, rfl⟩
theorem exc_value {Q : Value → Shared → Prop} {expr : Bool} {v : Value} {s : Shared} (X : K.In s.heap) (I : InstAt s.heap x ox C odo) (c : ExcC K C) (hf : findObj K C odo name = some (.value v)) (hv : handedIn v = true) (hq : Q v { s with toks := s.toks + 1 }) : wpAny (model prog w) A (getAttr (.ref x) name expr) Q E s := by
  obtain ⟨h, g, d, t, os⟩ := s
  unfold getAttr
  refine wpAny_bind (wpAny_mkText ?_)
  exact exc_by X I c fun A => exc_entry_value X I hf ⟨hq, hv⟩
theorem kitx_exc (c : ExcC K C) : KitX K (.ref x) (.ref C) (fun h => ∃ ox odo, InstAt h x ox C odo) where
  ty := fun _ _ _ ⟨_, _, I⟩ => I.type
  it := fun _ _ X _ => by
    obtain ⟨cdD, hcD⟩ := Option.isSome_iff_exists.mp (show (clsIn K C).isSome = true from c.is)
    unfold clsIn at hcD
    split at hcD
    · rename_i c' d' cd' sl' ho
      intro A' Q' E' s' k q
      unfold isType loadHead
      exact wpAny_bind (wpAny_loadPart (k _ _ (X _ _ ho)) (wpAny_pure q))
    · cases hcD
  ne := fun h tp dd its n sl X htp => by
    obtain ⟨cdD, hcD⟩ := Option.isSome_iff_exists.mp (show (clsIn K C).isSome = true from c.is)
    refine Bool.eq_false_iff.mpr fun q => ?_
    have e : C = tp := Value.ref.inj (beq_iff_eq.mp q)
    subst e
    unfold clsIn at hcD
    split at hcD
    · rename_i c' d' cd' sl' ho
      have z := (X _ _ ho).symm.trans htp
      cases z
    · cases hcD
  ca := fun X ⟨_, _, I⟩ k => exc_class X I c k
end
end L2

end

section
namespace L2
open PySem PySem.W PySem.Spec PyProof.Rows
section
variable {P : Program} {w : World} {K : PySem.W.Frag} {mg : Str → Option Value} {base : Heap}
def eSub (H : Hp) (E : XK) : XK := fun c d H' => ∃ H'', Sub H H'' H' ∧ E c d H''
theorem FnOk.keepE {k : Nat} {f : Addr} {fd : FuncData} {ps : List Str} {sp sp' : Sp} (F : FnOk P w K mg base (CXe P w) k f fd ps sp)
    (h : ∀ vs H Q E, sp' vs H Q E → sp vs H (fun v H' => ∃ H'', Sub H H'' H' ∧ Q v H'') (eSub H E)) : FnOk P w K mg base (CXe P w) k f fd ps sp' := by
  refine ⟨fun vs H Q E q => F.len vs H _ _ (h vs H Q E q), fun A outer s H args us vs Q E hr e0 hb r q => codeAny_mono (F.run A outer s H args us vs _ _ hr e0 hb r (h vs H Q E q)) fun rs s' c => ?_⟩
  cases rs with
  | error e =>
    obtain ⟨a, C, d, H', T, rfl, os, bare, un, hok, fly, fa, fT, na, nT, H'', dd, q'⟩ := c
    have nn : ∀ b, H' b = none → H'' b = none := fun b hb => by
      cases z : H'' b with
      | none => rfl
      | some o => have := dd.le b o z; rw [hb] at this; cases this
    exact ⟨a, C, d, H'', T, rfl, os, bare, Un.sub (Un.refl (h := s.heap)) un dd, hok.sub (dd.cl e0.hok.closed) dd.le, fly, nn a fa, nn T fT, na, nT, q'⟩
  | ok fl =>
    cases fl with
    | ret u =>
      obtain ⟨v, H', os, bare, un, hok, rv, H'', d, q'⟩ := c
      exact ⟨v, H'', os, bare, Un.sub (Un.refl (h := s.heap)) un d, hok.sub (d.cl e0.hok.closed) d.le, rv, q'⟩
    | next => exact c
    | brk => exact c
    | cont => exact c
theorem Fun.okE {x qual : Str} {st : Stmt} {f : Addr} {fd : FuncData} {N ps : List Str} {k : Nat} {sp : Sp} (F : Fun K x qual st f fd) (S : FnScope N ps (defScope st)) (len : ∀ vs H Q E, sp vs H Q E → vs.length = ps.length)
    (hbody : ∀ (cdv : Value) (A : Around) (outer : List Env) (s : Shared) (H : Hp) (vs : List V) (Q : VK) (E : XK), Room k (A.deeper (envOfC qual (defScope st) s.heap.objs.size f cdv)) → sp vs H Q E →
      ∃ t, PSs (cxOf (CXe P w) P w K mg base N qual (defScope st) f cdv A outer s H (eSub H E)) (defBody st) t ∧ t { nx := fun _ H' => ∃ H'', Sub H H'' H' ∧ Q .non H'', rt := fun v H' => ∃ H'', Sub H H'' H' ∧ Q v H'' } (start N vs) H) : FnOk P w K mg base (CXe P w) (k + 1) f fd ps sp := by
  refine FnOk.keepE (sp := fun vs H Q E => ∃ Q' E', Q = (fun v H' => ∃ H'', Sub H H'' H' ∧ Q' v H'') ∧ E = eSub H E' ∧ sp vs H Q' E') ?_ fun vs H Q E h => ⟨Q, E, rfl, rfl, h⟩
  obtain ⟨oc, od, kV, doc, pm, an, cdv, ct, osl, rfl, lk, hcd⟩ := F.ex
  refine fn_of lk hcd S (fun vs H Q E ⟨Q', E', _, _, h⟩ => len vs H Q' E' h) fun A outer s H vs Q E hr ⟨Q', E', e1, e2, hsp⟩ => ?_
  subst e1 e2
  exact hbody cdv A outer s H vs Q' E' hr hsp
def DefOkE (P : Program) (w : World) (K : PySem.W.Frag) (mg : Str → Option Value) (base : Heap) (k : Nat) (x : Str) (ps : List Str) (sp : Sp) : Prop :=
  ∃ f fd, FnOk P w K mg base (CXe P w) k f fd ps sp ∧ Binds K fd ps [] ∧ PySem.W.keepIn K (.ref f) = true ∧ mg x = some (.ref f)
theorem FunAt.okE {x : Str} {st : Stmt} {f : Addr} {fd : FuncData} {N ps : List Str} {k : Nat} {sp : Sp} (F : FunAt K mg x st ps f fd) (S : FnScope N ps (defScope st)) (len : ∀ vs H Q E, sp vs H Q E → vs.length = ps.length)
    (hbody : ∀ (cdv : Value) (A : Around) (outer : List Env) (s : Shared) (H : Hp) (vs : List V) (Q : VK) (E : XK), Room k (A.deeper (envOfC x (defScope st) s.heap.objs.size f cdv)) → sp vs H Q E →
      ∃ t, PSs (cxOf (CXe P w) P w K mg base N x (defScope st) f cdv A outer s H (eSub H E)) (defBody st) t ∧ t { nx := fun _ H' => ∃ H'', Sub H H'' H' ∧ Q .non H'', rt := fun v H' => ∃ H'', Sub H H'' H' ∧ Q v H'' } (start N vs) H) : DefOkE P w K mg base (k + 1) x ps sp :=
  ⟨f, fd, F.1.okE S len hbody, F.2.1, F.1.kp, F.2.2⟩
end
def PassesX (CX : CXT) (X : Cx) (E : St → XK) : Prop := ∀ (pins : List (Addr × Obj)) (σ : St) (H : Hp) (s : Shared) (e : Value) (s' : Shared), Inv X pins σ H s → CX X.stack H s (E σ) e s' → X.xe e s'
theorem Passes.x {CX : CXT} {X : Cx} {E : XK} (h : Passes CX X E) : PassesX CX X fun _ => E := h
def tCallX (sp : Sp) (E : St → XK) (t : TA) : TE := fun σ H Q => t σ H fun vs H1 => sp vs H1 Q (E σ)
section
variable {X : Cx} {k k' : Nat} {x : Str} {ps : List Str} {sp : Sp} {e : Expr} {es : List Expr} {t : TA} {p pos : Pos} {E : St → XK}
theorem pe_callE (h : DefOkE X.prog X.w X.K X.mg X.base k x ps sp) (hr : Room k' X.A) (hx : PassesX (CXe X.prog X.w) X E) (ha : PA X (e :: es) t) (hk : k ≤ k' := by decide) (hg : Gl X x := by rfl) (hdb : (x == ("__debug__" : Str)) = false := by decide +kernel)
    (he : starEach (e :: es) X.env = (false, eval e X.env) :: starEach es X.env := by rfl) (hpl : (backTo pos (starEach es X.env)).any (·.1) = false := by rfl) : PE X (.Call (.Name x p) (e :: es) [] pos) (tCallX sp E t) := by
  obtain ⟨f, fd, F, hb, kp, hm⟩ := h
  intro pins s σ H Q I h
  refine wpAny_Call_Name_kw (ld_glob I hg hm ?_ hdb)
  refine PySem.W.callWith_K (h₀ := X.base) I.ok.mod.kin kp (thn (ha pos pins s σ H _ I h) fun us s1 ⟨vs, H1, I1, r, q⟩ => ⟨I1.kIn, ?_⟩) he hpl
  have hl : us.length = ps.length := by rw [← r.length]; exact F.len _ _ _ _ q
  have hb' := hb s1 us I1.kIn (by rw [List.append_nil]; exact hl)
  rw [List.append_nil] at hb'
  refine wpAny_call (codeAny_mono (F.run X.A X.stack s1 H1 ⟨us, []⟩ us vs Q (E σ) (hr.mono hk) I1.env0 hb' r q) fun r s' hq => ?_)
  cases r with
  | error e => exact hx pins σ H1 s1 e s' I1 hq
  | ok fl =>
    cases fl with
    | ret u => exact I1.after hq
    | next => exact False.elim hq
    | brk => exact False.elim hq
    | cont => exact False.elim hq
end
abbrev bmV : List Value := [.type "ValueError", .type "Exception", .type "BaseException", .type "object"]
structure ClsAt (K : Frag) (h : Heap) (C : Addr) : Prop where
  ex : ∃ (bm : List Value) (N : Addr) (nm q : Str) (bs : List Value) (hdct : Bool) (sn : List Str) (sub : List Value) (ab : Bool) (col : Option Bool) (dd : Option Addr) (k0 k1 k2 k3 k5 : Option Value) (mN : Str → Option Value),
    h.get? C = some (excClassObj nm q C N bs bm hdct sn sub ab col dd k0 k1 k2 k3 k5 "ValueError.__new__") ∧ h.Ns N mN ∧ mN "__init__" = none ∧ OwnTail h bmV bm
theorem clsAt {K : Frag} {h : Heap} {C : Addr} (X : K.In h) (q : excIn K C bmV "ValueError.__new__" = true) : ClsAt K h C := by
  unfold excIn at q
  split at q
  · rename_i dd cd sl ho
    split at q
    · rename_i C' bm k0 k1 k2 k3 n k5 hm hs
      simp only [Bool.and_eq_true, beq_iff_eq, Bool.not_eq_true'] at q
      obtain ⟨⟨⟨⟨⟨rfl, rfl⟩, hdel⟩, ht⟩, hok⟩, hni⟩ := q
      obtain ⟨nm, bs, mro, ns, qn, hd, sn, sub, ab, col, del⟩ := cd
      dsimp only at hm hdel hok hni
      subst hm hdel
      have hsl : sl = #[k0, k1, k2, k3, some (.builtin "ValueError.__new__"), k5] := by
        obtain ⟨l⟩ := sl
        simp only at hs
        rw [hs]
      subst hsl
      exact ⟨bm, ns, nm, qn, bs, hd, sn, sub, ab, col, dd, k0, k1, k2, k3, k5, _, X _ _ ho, .of_isNs (isNs_of_in X hok), nsMap_none_of_in X hok hni, tail_of_in X ht⟩
    · cases q
  · cases q
def tRaise (C : Addr) (E : XK) (t : TA) : TS := fun _ σ H => t σ H fun vs H1 => vs.length ≤ sizeLine ∧ E (.ref C) none H1
theorem ps_raise {X : Cx} {x : Str} {C : Addr} {np cpos pos : Pos} {e : Expr} {es : List Expr} {t : TA} {E : XK} (T : Throws X E) (xc : excIn X.K C bmV "ValueError.__new__" = true) (hm : X.mg x = some (.ref C)) (hh : X.A.handled = none) (ha : PA X (e :: es) t)
    (hex : X.ex = [] := by rfl) (hg : Gl X x := by rfl) (hdb : (x == ("__debug__" : Str)) = false := by decide +kernel)
    (he : starEach (e :: es) X.env = (false, eval e X.env) :: starEach es X.env := by rfl) (hpl : (backTo cpos (starEach es X.env)).any (·.1) = false := by rfl) :
    PS X (.Raise (some (.Call (.Name x np) (e :: es) [] cpos)) none pos) (tRaise C E t) := by
  intro pins s σ H D I h
  obtain ⟨bm, N, nm, q, bs, hdct, sn, sub, ab, col, dd, k0, k1, k2, k3, k5, mN, h1, h2, h3, h4⟩ := (clsAt I.ok.mod.kin xc).ex
  refine wpAny_Raise_call_subU (nm := nm) (q := q) (N := N) (bs := bs) (hdct := hdct) (sn := sn) (sub := sub) (ab := ab) (col := col) (dd := dd) (k0 := k0) (k1 := k1) (k2 := k2) (k3 := k3) (k5 := k5) F.excBase_ValueError (bmB := bmV) (by decide +kernel) F.excBase_ValueError (mN := mN) (h4.hasType (by decide +kernel)) hh ?_ h3 (ld_glob I hg hm ⟨rfl, ?_⟩ hdb)
  · rw [he]; show (false || (backTo cpos (starEach es X.env)).any (·.1)) = false; rw [hpl]; rfl
  have hp := ha cpos pins s σ H _ I h
  rw [he] at hp ⊢
  refine Calls.evalArgs_plain (thn hp fun us s1 ⟨vs, H1, I1, r, hl, q1⟩ => ⟨rfl, by show us.length ≤ _; rw [← r.length]; exact hl, I1.bk _ _ h1, h2.keeps I1.bk, h4.keeps I1.bk, fun h' a hm => ?_⟩)
  obtain ⟨tt, ht, _, _⟩ := hm.there
  refine T pins σ H1 _ a C _ _ (I1.kept (h' := h') (t' := s1.toks) hm.keeps) ht rfl rfl rfl (.inl rfl) (I1.hok.none hm.new) ?_ q1
  cases z : X.s₀.heap.get? a with
  | none => rfl
  | some o =>
    obtain ⟨o', e⟩ := I1.base.there a o z (by rw [hex]; simp)
    rw [hm.new] at e; cases e
end L2

end

section
namespace L2
open PySem PySem.W PySem.Spec PyProof.Rows
def ExcO (a C : Addr) (d : Option Addr) : HO := .ext fun h => ∃ o vs, h.get? a = some o ∧ o.cls = .ref C ∧ o.dict = d ∧ o.data = .fields vs ∧ (d = none ∨ vs[2]? = some .none)
theorem excO_ok {P : Program} {w : World} {H : Hp} {h : Heap} {a C T : Addr} {d : Option Addr} {fl : Value} (f : Fly h a (.ref C) d T fl) : ObjOk P w H h a (ExcO a C d) := by
  obtain ⟨oe, vs, oT, ts, he, hc, hdd, hd, _, _, _, _, _, hcx⟩ := f
  exact ⟨⟨oe, vs, he, hc, hdd, hd, hcx⟩, ⟨oe, he⟩, fun h1 h2 ⟨o, vs, e1, e2, e3, e4, e5⟩ k => ⟨o, vs, k o e1, e2, e3, e4, e5⟩⟩
theorem exc_matches {M : Model} {A : Around} {E : Value → Shared → Prop} {K : Frag} {s : Shared} {a C D : Addr} {o : Obj} {b : Bool} {Q : Bool → Shared → Prop} (X : K.In s.heap) (he : s.heap.get? a = some o) (hc : o.cls = .ref C) (cD : ExcC K D) (tyD : typeIn K (.ref D) = some (.type "type"))
    (hm : mroIn K C (.ref D) = some b) (hq : Q b s) : wpAny M A (excMatches (.ref a) (.ref D)) Q E s := by
  obtain ⟨h, g, d, t, os⟩ := s
  have L1 := looks_typeIn (M := M) X tyD
  have L2 := looks_mroIn (M := M) X cD.be
  have L3 := looks_mroIn (M := M) X hm
  have L4 := (kitx_exc (x := a) cD).it M h X
  have L5 : Looks M h (isType (.ref D)) true := by
    obtain ⟨cdD, hcD⟩ := Option.isSome_iff_exists.mp (show (clsIn K D).isSome = true from cD.is)
    unfold clsIn at hcD
    split at hcD
    · rename_i c' d' cd' sl' ho
      intro A' Q' E' s' k q
      unfold isType loadHead
      exact wpAny_bind (wpAny_loadPart (k _ _ (X _ _ ho)) (wpAny_pure q))
    · cases hcD
  have f := tc_notTuple
  unfold excMatches isExcClass isInstance
  repeat (first | (with_reducible refine wpAny_loadPart_at he ?_; rw [hc]) | with_reducible refine L1.at ?_ | with_reducible refine L5.at ?_ | with_reducible refine L2.at ?_ | with_reducible refine L3.at ?_ | wp_step)
  cases b
  · repeat (first | exact hq | wp_step)
  · repeat (first | exact hq | wp_step)
section
variable {X : Cx} {pins : List (Addr × Obj)} {σ : St} {H1 H2 : Hp} {s1 s2 : Shared} {h' : Heap} {a C T T' : Addr} {d : Option Addr}
theorem Inv.caught {t' : Nat} (I1 : Inv X pins σ H1 s1) (I2 : Inv X pins σ H2 s2) (hex : X.ex = []) (na : s1.heap.get? a = none) (nT : s1.heap.get? T = none) (fa : H2 a = none) (fT : H2 T = none)
    (keep : ∀ b o, b ≠ a → b ≠ T → b ∉ frs X.stack → s2.heap.get? b = some o → h'.get? b = some o)
    (slot : ∀ b o, b ≠ a → b ≠ T → s2.heap.get? b = some o → ∃ sl, h'.get? b = some { o with slots := sl }) (fly : Fly h' a (.ref C) d T' .none) : Inv X pins σ (upd H2 a (ExcO a C d)) { s2 with heap := h', toks := t' } := by
  have ne : ∀ b o, s1.heap.get? b = some o → b ≠ a ∧ b ≠ T := fun b o e => ⟨fun z => (by rw [z, na] at e; cases e), fun z => (by rw [z, nT] at e; cases e)⟩
  have ne0 : ∀ b o, X.s₀.heap.get? b = some o → b ≠ a ∧ b ≠ T := fun b o e => by
    obtain ⟨o', e'⟩ := I1.base.there b o e (by rw [hex]; simp)
    exact ne b o' e'
  have neL : ∀ b o, X.s₀.heap.get? b = some o → b ≠ X.env.locals := fun b o e => Nat.ne_of_lt (Nat.lt_of_lt_of_le (Heap.lt_size e) I2.ok.above)
  have nL : X.env.locals ≠ a ∧ X.env.locals ≠ T := by
    obtain ⟨m, ⟨o, _, _, ho, _⟩, _⟩ := I1.loc
    exact ne _ o ho
  have nC : ∀ x c, X.env.cells.lookup x = some c → c ≠ a ∧ c ≠ T := fun x c e => by
    obtain ⟨v, o, ho, _⟩ := I1.cell x c e
    exact ne c o ho
  have cellK : ∀ x c, X.env.cells.lookup x = some c → ∀ v, s2.heap.IsCell c v → h'.IsCell c v := fun x c e v ⟨o, ho, hd⟩ => by
    obtain ⟨sl, q⟩ := slot c o (nC x c e).1 (nC x c e).2 ho
    exact ⟨_, q, hd⟩
  refine ⟨I2.ok, I2.os, I2.bare, ⟨fun b o e n hb hx => ?_, fun b o e n hb hx => ?_, fun b o e n hx => ?_, fun b o e hx => ?_, fun b xs e => ?_, fun b o u e => ?_, fun b ps e => ?_⟩, ?_, fun x c e => ?_, ?_, fun x c e => ?_, fun p hp => ?_, fun b u e => ?_, I2.len⟩
  · refine keep b o (ne0 b o e).1 (ne0 b o e).2 (fun z => ?_) (I2.base.keep b o e n hb hx)
    exact (List.mem_cons.mp (I2.stkSub b z)).elim (neL b o e) hb
  · obtain ⟨sl, e1⟩ := I2.base.slot b o e n hb hx
    obtain ⟨sl', e2⟩ := slot b _ (ne0 b o e).1 (ne0 b o e).2 e1
    exact ⟨sl', e2⟩
  · rw [upd_ne (ne0 b o e).1]; exact I2.base.free b o e n hx
  · obtain ⟨o', e1⟩ := I2.base.there b o e hx
    obtain ⟨sl', e2⟩ := slot b _ (ne0 b o e).1 (ne0 b o e).2 e1
    exact ⟨_, e2⟩
  · have := I2.base.tups b xs e
    rw [upd_ne (ne_of_none this fa)]; exact this
  · have := I2.base.frzs b o u e
    rw [upd_ne (ne_of_none this fa)]; exact this
  · obtain ⟨more, this⟩ := I2.base.tbls b ps e
    exact ⟨more, by rw [upd_ne (ne_of_none this fa)]; exact this⟩
  · obtain ⟨m, ⟨o, es, ep, ho, r⟩, hl⟩ := I2.loc
    obtain ⟨sl, q⟩ := slot _ o nL.1 nL.2 ho
    refine ⟨m, ⟨_, es, ep, q, r⟩, fun i x v e1 e2 e3 => ?_⟩
    obtain ⟨u, r, l⟩ := hl i x v e1 e2 e3
    refine ⟨u, r, ?_⟩
    rcases l with l | ⟨k, c, e, z⟩
    · exact .inl l
    · exact .inr ⟨k, c, e, cellK x c e _ z⟩
  · obtain ⟨v, z⟩ := I2.cell x c e
    exact ⟨v, cellK x c e v z⟩
  · rw [upd_ne nL.1]; exact I2.free
  · rw [upd_ne (nC x c e).1]; exact I2.freeC x c e
  · obtain ⟨e, n, ne', nf, dd⟩ := I2.pin p hp
    obtain ⟨e1, _⟩ := I1.pin p hp
    refine ⟨keep p.1 p.2 (ne _ _ e1).1 (ne _ _ e1).2 (fun z => (List.mem_cons.mp (I2.stkSub _ z)).elim ne' nf) e, ?_, ne', nf, dd⟩
    rw [upd_ne (ne _ _ e1).1]; exact n
  · by_cases hb : b = a
    · subst hb
      rw [upd_same] at e; cases e
      exact excO_ok fly
    · rw [upd_ne hb] at e
      refine (I2.hok b u e).stay (fun c v hc q => ?_) (fun c r => by rw [upd_ne (ne_of_none r fa)]; exact r) fun c xs r => by rw [upd_ne (ne_of_none r fa)]; exact r
      have hcn : ∃ z, H2 c = some z := by
        rcases hc with rfl | hc
        · exact ⟨_, e⟩
        · exact ⟨_, hc⟩
      obtain ⟨z, hz⟩ := hcn
      refine keep c v (ne_of_none hz fa) (ne_of_none hz fT) (fun y => ?_) q
      rw [I2.stkFree c y] at hz; cases hz
end
def tryXe (X : Cx) (pn : List (Addr × Obj)) (Eh : St → XK) (e : Value) (s' : Shared) : Prop := ∃ a C d T σ' H1 H' s1, e = .ref a ∧ Inv { X with pn := pn } [] σ' H1 s1 ∧ Inv { X with pn := pn } [] σ' H' s' ∧ Fly s'.heap a (.ref C) d T .none ∧
  H' a = none ∧ H' T = none ∧ s1.heap.get? a = none ∧ s1.heap.get? T = none ∧ Eh σ' (.ref C) d H'
def Cx.tryC (X : Cx) (pn : List (Addr × Obj)) (Eh : St → XK) : Cx := { X with pn := pn, xe := tryXe X pn Eh }
def Cx.handC (X : Cx) (pn : List (Addr × Obj)) (e : Addr) : Cx := { X with pn := pn, A := X.A.mark (some (.ref e)), calm := false, xe := fun _ _ => False }
theorem passes_try {X : Cx} {pn : List (Addr × Obj)} {Eh : St → XK} : PassesX (CXe X.prog X.w) (X.tryC pn Eh) Eh := by
  intro pins σ H1 s1 e s2 I h
  obtain ⟨a, C, d, H2, T, rfl, os, bare, un, hok, fly, fa, fT, na, nT, q⟩ := h
  have I1 : Inv { X with pn := pn } [] σ H1 s1 := Inv.unwish (X := { X with pn := pn }) (Inv.pins_of (pins' := []) I (by simp))
  exact ⟨a, C, d, T, σ, H1, H2, s1, rfl, I1, I1.call' (ch := []) os un hok bare (fun b z => absurd z (by simp)), fly, fa, fT, na, nT, q⟩
def tTry (K : Frag) (D : Addr) (i : Nat) (Eh : St → XK) (tb th : TS) : TS := fun Dn σ H => tb Dn σ H ∧ ∀ σ' C d H' a, Eh σ' (.ref C) d H' → H' a = none → mroIn K C (.ref D) = some true ∧
  th { nx := fun σ H => Dn.nx (σ.set i none) H, rt := Dn.rt, bk := fun σ H => Dn.bk (σ.set i none) H, ct := fun σ H => Dn.ct (σ.set i none) H } (σ'.set i (some (.ref a))) (upd H' a (ExcO a C d))
theorem Cx.Ok.pns {X : Cx} (ok : X.Ok) (pn : List (Addr × Obj)) : Cx.Ok { X with pn := pn } :=
  ⟨ok.mod, ok.kind, ok.glob, ok.blt, ok.above, ok.inj, ok.has, ok.cab, ok.hd, ok.frames, ok.stk, ok.exf, ok.bs, ok.bsz, ok.noex, ok.exfs, ok.funs, ok.frf⟩
theorem Cx.Ok.hand {X : Cx} {pn : List (Addr × Obj)} (ok : Cx.Ok { X with pn := pn }) (e : Addr) : Cx.Ok (X.handC pn e) :=
  ⟨ok.mod, ok.kind, ok.glob, ok.blt, ok.above, ok.inj, ok.has, ok.cab, fun z => Bool.noConfusion z, ok.frames, ok.stk, ok.exf, ok.bs, ok.bsz, ok.noex, ok.exfs, ok.funs, ok.frf⟩
theorem Inv.hand {X : Cx} {pn : List (Addr × Obj)} {σ : St} {H : Hp} {s : Shared} (I : Inv { X with pn := pn } [] σ H s) (e : Addr) : Inv (X.handC pn e) [] σ H s :=
  ⟨I.ok.hand e, I.os, I.bare, I.base, I.loc, I.cell, I.free, I.freeC, I.pin, I.hok, I.len⟩
theorem Inv.ins {X : Cx} {pins : List (Addr × Obj)} {σ : St} {H : Hp} {s : Shared} (I : Inv X pins σ H s) : Inv { X with pn := X.pn ++ pins } [] σ H s :=
  ⟨I.ok.pns _, I.os, I.bare, I.base, I.loc, I.cell, I.free, I.freeC, fun p hp => I.pin p (by simpa using hp), I.hok, I.len⟩
theorem Inv.outs {X Y : Cx} {pins : List (Addr × Obj)} {σ : St} {H : Hp} {s : Shared} (ok : X.Ok) (I : Inv { X with pn := X.pn ++ pins } [] σ H s) : Inv X pins σ H s :=
  ⟨ok, I.os, I.bare, I.base, I.loc, I.cell, I.free, I.freeC, fun p hp => I.pin p (by simpa using hp), I.hok, I.len⟩
theorem Inv.unhand {X : Cx} {pins : List (Addr × Obj)} {σ : St} {H : Hp} {s : Shared} {e : Addr} (ok : X.Ok) (I : Inv (X.handC (X.pn ++ pins) e) [] σ H s) : Inv X pins σ H s :=
  ⟨ok, I.os, I.bare, I.base, I.loc, I.cell, I.free, I.freeC, fun p hp => I.pin p (by simpa [Cx.handC] using hp), I.hok, I.len⟩
theorem Inv.gone {X : Cx} {M : Model} {A : Around} {E : Value → Shared → Prop} {pins : List (Addr × Obj)} {σ : St} {H : Hp} {s : Shared} {n : Str} {i : Nat} {pos : Pos} {Q : Unit → Shared → Prop} (I : Inv X pins σ H s) (hN : X.N.Nodup) (hi : X.N[i]? = some n) (hl : X.env.scope.names.lookup n = some .local)
    (h : ∀ s', Inv X pins (σ.set i none) H s' → Q () s') : wpAny M A (do bindName X.env n .none; unbindBehindTheSuite X.env n pos) Q E s := by
  obtain ⟨m, hn, hlk⟩ := id I.loc
  have hcls : (X.env.scope.kind == .class || (X.env.scope.kind == .module && X.env.locals != X.env.globals)) = false := by rw [I.ok.kind]; rfl
  have hiσ : i < σ.length := by rw [I.len]; exact (List.getElem?_eq_some_iff.mp hi).1
  refine wpAny_nameGoes_keeps hl hn hcls fun h' v hn' hs => ?_
  obtain ⟨oL, _, _, hoL, _⟩ := id hn
  have tracked : HOk X.prog X.w H h' := fun b ob e => by
    refine (I.hok b ob e).stay (fun c w' hc q => (hs.2 c ?_).trans q) (fun _ q => q) fun _ _ q => q
    rintro rfl
    rcases hc with rfl | hc
    · rw [I.free] at e; cases e
    · rw [I.free] at hc; cases hc
  refine h _ ⟨I.ok, I.os, I.bare, ⟨fun b o e n hb hx => ?_, fun b o e n hb hx => ?_, I.base.free, fun b o e hx => ?_, I.base.tups, I.base.frzs, I.base.tbls⟩, ⟨_, hn', fun j y v' e1 e2 e3 => ?_⟩, fun y c e => ?_, I.free, I.freeC, fun p hp => ?_, tracked, by simpa using I.len⟩
  · exact (hs.2 b (Nat.ne_of_lt (Nat.lt_of_lt_of_le (Heap.lt_size e) I.ok.above))).trans (I.base.keep b o e n hb hx)
  · obtain ⟨sl, e1⟩ := I.base.slot b o e n hb hx
    exact ⟨sl, (hs.2 b (Nat.ne_of_lt (Nat.lt_of_lt_of_le (Heap.lt_size e) I.ok.above))).trans e1⟩
  · obtain ⟨o', e1⟩ := I.base.there b o e hx
    exact ⟨o', (hs.2 b (Nat.ne_of_lt (Nat.lt_of_lt_of_le (Heap.lt_size e) I.ok.above))).trans e1⟩
  · by_cases hj : j = i
    · subst hj
      rw [List.getElem?_set_self hiσ] at e2
      cases e2
    · rw [List.getElem?_set_ne (Ne.symm hj)] at e2
      obtain ⟨u', r', q⟩ := hlk j y v' e1 e2 e3
      refine ⟨u', r', ?_⟩
      rcases q with ⟨k, e⟩ | ⟨k, c, e, z⟩
      · refine .inl ⟨k, ?_⟩
        have : y ≠ n := fun e => hj (nodup_ix hN e1 (e ▸ hi))
        simp [this, e]
      · exact .inr ⟨k, c, e, z.sameBut hs (I.cne y c e)⟩
  · obtain ⟨w', z⟩ := I.cell y c e
    exact ⟨w', z.sameBut hs (I.cne y c e)⟩
  · obtain ⟨e, n, ne, nf, d⟩ := I.pin p hp
    exact ⟨(hs.2 p.1 ne).trans e, n, ne, nf, d⟩
theorem ps_try {X : Cx} {body suite : List Stmt} {b₀ : Stmt} {x n : Str} {i : Nat} {D : Addr} {np pos tpos : Pos} {tb th : TS} {Eh : St → XK} (hb : ∀ pn, PSs (X.tryC pn Eh) body tb) (hh : ∀ pn e, PSs (X.handC pn e) (b₀ :: suite) th)
    (hm : X.mg x = some (.ref D)) (cD : ExcC X.K D) (tyD : typeIn X.K (.ref D) = some (.type "type")) (hN : X.N.Nodup) (hi : X.N[i]? = some n := by rfl) (hl : X.env.scope.names.lookup n = some .local := by rfl)
    (hs : X.stack = X.env :: X.outer := by rfl) (hf : X.env.frame = some X.env.locals := by rfl) (hex : X.ex = [] := by rfl) (hg : Gl X x := by rfl) (hdb : (x == ("__debug__" : Str)) = false := by decide +kernel) :
    PS X (.Try body [.ExceptHandler (some (.Name x np)) (some n) (b₀ :: suite) pos] [] [] tpos) (tTry X.K D i Eh tb th) := by
  intro pins s σ H Dn I ⟨h1, h2⟩
  have ok := I.ok
  refine wpAny_Try_except (wpAny_mono (hb (X.pn ++ pins) [] s σ H Dn (I.ins.wish _) h1) (fun f s1 z => ?_) (fun e s1 z => ?_))
  · cases f with
    | next =>
      obtain ⟨σ', H', I', q⟩ := z
      exact pss_nil (X := X) pins s1 σ' H' Dn (Inv.outs (Y := X) ok (Inv.unwish (X := { X with pn := X.pn ++ pins }) I')) q
    | brk => obtain ⟨σ', H', I', q⟩ := z; exact ⟨σ', H', Inv.outs (Y := X) ok (Inv.unwish (X := { X with pn := X.pn ++ pins }) I'), q⟩
    | cont => obtain ⟨σ', H', I', q⟩ := z; exact ⟨σ', H', Inv.outs (Y := X) ok (Inv.unwish (X := { X with pn := X.pn ++ pins }) I'), q⟩
    | ret u => obtain ⟨v, σ', H', I', r, q⟩ := z; exact ⟨v, σ', H', Inv.outs (Y := X) ok (Inv.unwish (X := { X with pn := X.pn ++ pins }) I'), r, q⟩
  obtain ⟨a, C, d, T, σ', H1, H', s0, rfl, I1, I2, fly, fa, fT, na, nT, q⟩ := z
  obtain ⟨hmm, ht⟩ := h2 σ' C d H' a q fa
  have fr : X.A.frames = some (X.env :: X.outer) := ok.frames.trans (congrArg some hs)
  have fst : s1.heap.FunFrames X.base (X.env :: X.outer) := hs ▸ I2.stack
  refine noteD fr fst hf fly fun h' T' x1 x2 x3 x4 => ?_
  refine landD (s := { s1 with heap := h' }) x3 x1 fun h2 y1 y2 y3 => ?_
  have nT' : ∀ b o, s1.heap.get? b = some o → b ≠ T' := fun b o e z => by rw [z, x2] at e; cases e
  have k2 : ∀ b o, b ≠ a → b ≠ T → b ∉ frs X.stack → s1.heap.get? b = some o → h2.get? b = some o := fun b o e1 e2 e3 e4 => y3 b o (nT' b o e4) (x4.keep b o e1 (fun z => e2 (Option.some.inj z)) (fun z => e3 (by rw [hs]; exact z)) e4)
  have l2 : ∀ b o, b ≠ a → b ≠ T → s1.heap.get? b = some o → ∃ sl, h2.get? b = some { o with slots := sl } := fun b o e1 e2 e4 => by
    obtain ⟨sl, e⟩ := x4.slot b o e1 (fun z => e2 (Option.some.inj z)) e4
    exact ⟨sl, y3 b _ (nT' b o e4) e⟩
  have J2 := (I1.caught (h' := h2) (t' := s1.toks) I2 hex na nT fa fT k2 l2 y1).hand a
  refine wpAny_handleBy_cons (codeAny_handlers_test (ld_glob J2 hg hm ?_ hdb)) (by intro q; cases q)
  obtain ⟨oe, vs, oT, ts, he, hc, hdd, hd, _⟩ := id y1
  refine exc_matches (K := X.K) J2.kIn he hc cD tyD hmm ?_
  refine codeAny_handlers_suite_as (landD (s := { s1 with heap := h2 }) y2 y1 fun h3 w1 w2 w3 => ?_)
  have n2 : ∀ b o, b ≠ T' → h2.get? b = some o → h3.get? b = some o := w3
  have J3 := (I1.caught (h' := h3) (t' := s1.toks) I2 hex na nT fa fT (fun b o e1 e2 e3 e4 => w3 b o (nT' b o e4) (k2 b o e1 e2 e3 e4)) (fun b o e1 e2 e4 => by
    obtain ⟨sl, e⟩ := l2 b o e1 e2 e4
    exact ⟨sl, w3 b _ (nT' b o e4) e⟩) w1).hand a
  refine store_ok (X := X.handC (X.pn ++ pins) a) (v := .ref a) J3 hN hi (.inl hl) rfl (fun s4 I4 => ?_) (.inr hl)
  refine wpAny_mono (hh (X.pn ++ pins) a [] s4 _ _ _ I4 ht) (fun f s5 z => ?_) fun _ _ z => False.elim z
  cases f with
  | next =>
    obtain ⟨σ5, H5, I5, q5⟩ := z
    exact Inv.gone (I5.unhand ok) hN hi hl fun s6 I6 => ⟨_, H5, I6, q5⟩
  | brk =>
    obtain ⟨σ5, H5, I5, q5⟩ := z
    exact Inv.gone (I5.unhand ok) hN hi hl fun s6 I6 => ⟨_, H5, I6, q5⟩
  | cont =>
    obtain ⟨σ5, H5, I5, q5⟩ := z
    exact Inv.gone (I5.unhand ok) hN hi hl fun s6 I6 => ⟨_, H5, I6, q5⟩
  | ret u =>
    obtain ⟨v, σ5, H5, I5, r5, q5⟩ := z
    exact Inv.gone (I5.unhand ok) hN hi hl fun s6 I6 => ⟨v, _, H5, I6, r5, q5⟩
end L2

end

section
namespace L2
open PySem PySem.W PySem.Spec PyProof.Rows
section
variable {X : Cx}
theorem call_isinstX : CallR X (.builtin "isinstance") (fun xs H Q => ∃ a C d c b, xs = [.ref a, c] ∧ H a = some (ExcO a C d) ∧ ExcC X.K C ∧ (d = none ∨ ∃ dx fs, d = some dx ∧ H dx = some (.xd fs)) ∧ (∀ cv, RelV c cv → PySem.W.kitOne X.K (.ref C) cv = some b) ∧ Q (.bl b) H) := by
  intro pins s σ H xs us Q I r h
  obtain ⟨a, C, d, c, b, rfl, ea, xc, hd, ek, q⟩ := h
  obtain ⟨u, w', rfl, r1, r2⟩ := vals2 r
  cases (show u = Value.ref a from r1)
  obtain ⟨⟨o, vs, e1, e2, e3, e4, _⟩, _⟩ := (show ObjOk X.prog X.w H s.heap a (ExcO a C d) from I.hok a _ ea)
  have J : ∃ ox odo, W.InstAt s.heap a ox C odo := by
    obtain ⟨cls, dict, data, sl⟩ := o
    subst e2 e3 e4
    rcases hd with rfl | ⟨dx, fs, rfl, hx⟩
    · exact ⟨_, none, e1, rfl, rfl, trivial⟩
    · obtain ⟨u, eu⟩ := I.hok.there hx
      exact ⟨_, some u, e1, rfl, rfl, eu⟩
  exact PySem.W.kia_one (kitx_exc xc) I.kIn J (ek w' r2) (fun z => nomatch z) fun tk => ⟨.bl b, H, I.tok _, rfl, q⟩
theorem room64 {k : Nat} {A : Around} (hr : Room k A) : A.units + 64 < cLine := by have := hr.un; omega
end
section
variable {X : Cx} {k1 k2 k' : Nat} {x : Str} {ps : List Str} {sp1 sp2 : Sp} {e : Expr} {es : List Expr} {t : TA} {p pos : Pos} {E : St → XK}
theorem pe_callE2 (h : DefOk X.prog X.w X.K X.mg X.base k1 x ps sp1) (h' : DefOkE X.prog X.w X.K X.mg X.base k2 x ps sp2) (hr : Room k' X.A) (hx : PassesX (CXe X.prog X.w) X E) (ha : PA X (e :: es) t) (hk : k1 ≤ k' := by decide) (hk' : k2 ≤ k' := by decide) (hg : Gl X x := by rfl) (hdb : (x == ("__debug__" : Str)) = false := by decide +kernel)
    (he : starEach (e :: es) X.env = (false, eval e X.env) :: starEach es X.env := by rfl) (hpl : (backTo pos (starEach es X.env)).any (·.1) = false := by rfl) : PE X (.Call (.Name x p) (e :: es) [] pos) (fun σ H Q => t σ H fun vs H1 => sp1 vs H1 Q E0 ∨ sp2 vs H1 Q (E σ)) := by
  obtain ⟨f, fd, F, hb, kp, hm⟩ := h
  obtain ⟨f2, fd2, F2, hb2, kp2, hm2⟩ := h'
  obtain rfl : f = f2 := by rw [hm] at hm2; injection hm2 with z; injection z
  intro pins s σ H Q I h
  refine wpAny_Call_Name_kw (ld_glob I hg hm ?_ hdb)
  refine PySem.W.callWith_K (h₀ := X.base) I.ok.mod.kin kp (thn (ha pos pins s σ H _ I h) fun us s1 ⟨vs, H1, I1, r, q⟩ => ⟨I1.kIn, ?_⟩) he hpl
  rcases q with q | q
  · exact run_fn (dvs := []) (ds := []) (us := us) F (hr.mono hk) hb .nil pass0 I1 r (by rw [List.append_nil]; exact q)
  · have hl : us.length = ps.length := by rw [← r.length]; exact F2.len _ _ _ _ q
    have hb' := hb2 s1 us I1.kIn (by rw [List.append_nil]; exact hl)
    rw [List.append_nil] at hb'
    refine wpAny_call (codeAny_mono (F2.run X.A X.stack s1 H1 ⟨us, []⟩ us vs Q (E σ) (hr.mono hk') I1.env0 hb' r q) fun r s' hq => ?_)
    cases r with
    | error e => exact hx pins σ H1 s1 e s' I1 hq
    | ok fl =>
      cases fl with
      | ret u => exact I1.after hq
      | next => exact False.elim hq
      | brk => exact False.elim hq
      | cont => exact False.elim hq
end
end L2
namespace L2
open PySem
theorem bo_ValueError : bootBuiltins "ValueError" = some (.type "ValueError") := by decide +kernel
end L2

end

section
namespace L2
open PySem PySem.W PySem.Spec PyProof.Rows PySem.Builtin.ObjectAttr
def overV : List Value → Bool
  | .ref _ :: r => overV r
  | l => l == bmV
theorem refuse_bmV (self : Value) : refuseLoop self "__setattr__" bmV = pure () := by kernel_rfl
theorem refuse_v (self : Value) : ∀ {l : List Value}, overV l = true → refuseLoop self "__setattr__" l = pure ()
  | .ref c :: r, e => by rw [refuseLoop_ref]; exact refuse_v self e
  | [], e => by cases e
  | .type n :: r, e => by
    have : (Value.type n :: r) = bmV := beq_iff_eq.mp e
    rw [this]; exact refuse_bmV self
  | .none :: r, e => by cases beq_iff_eq.mp (show ((Value.none :: r) == bmV) = true from e)
  | .bool _ :: r, e => by cases beq_iff_eq.mp (show ((Value.bool _ :: r) == bmV) = true from e)
  | .int _ _ :: r, e => by cases beq_iff_eq.mp (show ((Value.int _ _ :: r) == bmV) = true from e)
  | .float _ _ :: r, e => by cases beq_iff_eq.mp (show ((Value.float _ _ :: r) == bmV) = true from e)
  | .str _ _ :: r, e => by cases beq_iff_eq.mp (show ((Value.str _ _ :: r) == bmV) = true from e)
  | .bytes _ _ :: r, e => by cases beq_iff_eq.mp (show ((Value.bytes _ _ :: r) == bmV) = true from e)
  | .builtin _ :: r, e => by cases beq_iff_eq.mp (show ((Value.builtin _ :: r) == bmV) = true from e)
structure ExcS (K : Frag) (C : Addr) : Prop extends ExcC K C where
  sa : findIn K (.ref C) "__setattr__" = some (some (.builtin "object.__setattr__"))
  ov : (clsIn K C).any (fun cd => overV cd.mro) = true
  hd : hasDictIn K C = true
section
variable {K : Frag} {prog : Program} {w : World} {A : Around} {E : Value → Shared → Prop} {s : Shared} {x C : Addr} {ox : Obj} {od : Option Obj} {name : Str} {v : Value}
theorem osa_openV {R : Result → Shared → Prop} {tk : Tok} {r : Option Value} (X : K.In s.heap) (I : W.InstAt s.heap x ox C od) (S : ExcS K C) (ht : takerIn K C name = some r)
    (h : ∀ b, wpAny (model prog w) A.in1 (match r with | some a => setByDescriptor a (.ref x) v | none => storeInOwnDict (.ref x) (.ref C) (.str name tk) name v b)
      (fun fin s' => match fin with | .done f => R (.ok f) s' | .again c' => c'.quiet = true ∧ codeAny (model prog w) A c' R s') (fun e s' => R (.error e) s') s) :
    codeAny (model prog w) A (.call (.builtin "object.__setattr__") ⟨[.ref x, .str name tk, v], []⟩) R s := by
  have SF := PySem.F.store_object
  obtain ⟨cd, hc, ho⟩ := any_some S.ov
  have sub : Looks (model prog w) s.heap (isInstance (.ref x) (.type "object")) true := I.type.andThen (looks_mroIn X S.ob)
  refine codeAny_call_builtin SF.slot.plain SF.entry (@check_slot (model prog w) _ _ s "object.__setattr__" "object" "__setattr__" (.ref x) [.str name tk, v] [] _ SF.kind SF.split sub (SF.args (.ref x) (.str name tk) v) ?_)
  obtain ⟨attr, ha, hr⟩ := Option.bind_eq_some_iff.mp ht
  have hm : Looks (model prog w) s.heap (mroOf (.ref C)) cd.mro := (looks_clsIn X hc).andThen .now
  have L3 : Looks (model prog w) s.heap (storeTaker? attr) r := by
    cases attr with
    | none => cases hr; exact .now
    | some a =>
      obtain ⟨b, hb, rfl⟩ := Option.map_eq_some_iff.mp hr
      refine (looks_takesIn X hb).andThen ?_
      cases b <;> exact .now
  rw [osa_eq, refuse_eq]
  refine wpAny_bind (wpAny_bind (I.type.here (wpAny_bind (hm.here ?_))))
  rw [refuse_v _ ho]
  refine wpAny_pure (wpAny_bind (I.type.here (wpAny_bind ((looks_findIn X ha).here (wpAny_bind (L3.here ?_))))))
  exact h _
theorem exc_set {vs : Array Value} {Q : Unit → Shared → Prop} (X : K.In s.heap) (hx : s.heap.get? x = some ox) (hc : ox.cls = .ref C) (hdn : ox.dict = none) (hd : ox.data = .fields vs) (S : ExcS K C) (ht : takerIn K C name = some none)
    (h : ∀ h', h'.get? x = some { ox with dict := some s.heap.objs.size } → h'.Ns1 s.heap.objs.size (fun y => if y = name then some v else none) → (∀ b o, b ≠ x → s.heap.get? b = some o → h'.get? b = some o) → Q () { s with heap := h', toks := s.toks + 2 }) :
    wpAny (model prog w) A (setAttr (.ref x) name v) Q E s := by
  have J : W.InstAt s.heap x ox C none := by
    obtain ⟨cls, dict, data, sl⟩ := ox
    subst hc hdn hd
    exact ⟨hx, rfl, rfl, trivial⟩
  refine set_plain X J S.sa (osa_openV (s := { s with toks := s.toks + 1 }) (r := none) X J S ht fun b => ?_)
  obtain ⟨cd, hcd, hhd⟩ := any_some S.hd
  obtain ⟨cls, dict, data, sl⟩ := ox
  dsimp only at hc hdn hd
  subst hc hdn hd
  refine wpAny_bind (wpAny_pure (wpAny_bind (wpAny_bind (wpAny_loadPart hx (wpAny_bind (PySem.W.Looks.here (s := { s with toks := s.toks + 1 }) (PySem.W.looks_clsIn X hcd) ?_))))))
  rw [hhd]
  refine wpAny_bind (wpAny_alloc ?_)
  have hx1 := Heap.get?_push_of_some (h := s.heap) { cls := .type "dict", data := .dict #[] } hx
  refine wpAny_bind (wpAny_update hx1 ?_)
  generalize hoD : ({ cls := .type "dict", data := .dict #[] } : Obj) = oD at hx1 ⊢
  have hDx : s.heap.objs.size ≠ x := Nat.ne_of_gt (Heap.lt_size hx)
  have gD : ((s.heap.push oD).update x (fun o => { o with dict := some s.heap.objs.size })).get? s.heap.objs.size = some oD :=
    (Heap.get?_update_other _ _ (Ne.symm hDx)).trans (Heap.get?_push_size s.heap (by rw [← hoD]; rfl))
  have gx : ((s.heap.push oD).update x (fun o => { o with dict := some s.heap.objs.size })).get? x = some ⟨.ref C, some s.heap.objs.size, .fields vs, sl⟩ := Heap.get?_update_self _ hx1 rfl
  have hn0 : ((s.heap.push oD).update x (fun o => { o with dict := some s.heap.objs.size })).Ns1 s.heap.objs.size fun _ => none :=
    Heap.Ns1.of_empty ⟨_, #[], _, gD, by rw [← hoD], fun e he => absurd he (by simp), fun _ => rfl⟩
  refine wpAny_pure (a := some s.heap.objs.size) (wpAny_bind (wpAny_pure (wpAny_bind ?_)))
  refine wpAny_nsSet1 (s := { s with heap := (s.heap.push oD).update x (fun o => { o with dict := some s.heap.objs.size }), toks := s.toks + 1 }) hn0 fun h' hn2 hs2 => ?_
  obtain ⟨oD2, esD, epD, hoD2, hdD, hcD⟩ := hn2.count (PySem.Within.cons (ns := []) name v (fun y hy => absurd rfl hy))
  refine wpAny_bind (wpAny_lookBehind hoD2 (by rw [hdD]; exact pastItsLine_dict (Nat.le_trans hcD (by show 1 ≤ _; decide))) ?_)
  refine wpAny_pure (h h' ((hs2.2 _ (Ne.symm hDx)).trans gx) hn2 fun b o hb e => ?_)
  refine (hs2.2 b (Nat.ne_of_lt (Heap.lt_size e))).trans ?_
  rw [Heap.get?_update_other _ _ (Ne.symm hb)]
  exact Heap.get?_push_of_some _ e
end
end L2

end

section
namespace L2
open PySem PySem.W PySem.Spec PyProof.Rows
theorem ns_some_of {K : Frag} {h : Heap} {N : Addr} {mg : Str → Option Value} {n : Str} {v : Value} (X : K.In h) (G : h.Ns N mg) (e : nsIn K N n = some (some v)) : mg n = some v := by
  obtain ⟨o, es, ep, ho, hd, _, hf⟩ := G
  unfold nsIn at e
  split at e
  · rename_i c d es' n' sl q
    have := X _ _ q
    rw [ho] at this
    cases this
    cases hd
    split at e
    · rename_i en he
      cases e
      rw [← hf]
      unfold nsFind findBy
      rw [← Array.find?_toList, he]
      rfl
    · split at e <;> cases e
  · cases e
def excInI (K : Frag) (C f : Addr) : Bool := match K.lookup C with
  | some ⟨.type "type", _, .cls cd, sl⟩ => (match cd.mro, sl.toList with
    | .ref C' :: bm, [_, _, _, _, some (.builtin n), _] => C' == C && n == "ValueError.__new__" && !cd.hasDel && tailIn K bmV bm && nsOkIn K cd.ns && nsIn K cd.ns "__init__" == some (some (.ref f))
    | _, _ => false)
  | _ => false
structure ClsAtI (h : Heap) (C f : Addr) : Prop where
  ex : ∃ (bm : List Value) (N : Addr) (nm q : Str) (bs : List Value) (hdct : Bool) (sn : List Str) (sub : List Value) (ab : Bool) (col : Option Bool) (dd : Option Addr) (k0 k1 k2 k3 k5 : Option Value) (mN : Str → Option Value),
    h.get? C = some (excClassObj nm q C N bs bm hdct sn sub ab col dd k0 k1 k2 k3 k5 "ValueError.__new__") ∧ h.Ns N mN ∧ mN "__init__" = some (.ref f) ∧ OwnTail h bmV bm
theorem clsAtI {K : Frag} {h : Heap} {C f : Addr} (X : K.In h) (q : excInI K C f = true) : ClsAtI h C f := by
  unfold excInI at q
  split at q
  · rename_i dd cd sl ho
    split at q
    · rename_i C' bm k0 k1 k2 k3 n k5 hm hs
      simp only [Bool.and_eq_true, beq_iff_eq, Bool.not_eq_true'] at q
      obtain ⟨⟨⟨⟨⟨rfl, rfl⟩, hdel⟩, ht⟩, hok⟩, hni⟩ := q
      obtain ⟨nm, bs, mro, ns, qn, hd, sn, sub, ab, col, del⟩ := cd
      dsimp only at hm hdel hok hni
      subst hm hdel
      have hsl : sl = #[k0, k1, k2, k3, some (.builtin "ValueError.__new__"), k5] := by
        obtain ⟨l⟩ := sl
        simp only at hs
        rw [hs]
      subst hsl
      have G : h.Ns ns (h.nsMap ns) := .of_isNs (isNs_of_in X hok)
      exact ⟨bm, ns, nm, qn, bs, hd, sn, sub, ab, col, dd, k0, k1, k2, k3, k5, _, X _ _ ho, G, ns_some_of X G hni, tail_of_in X ht⟩
    · cases q
  · cases q
section
variable {prog : Program} {w : World} {A : Around} {E : Value → Shared → Prop} {h : Heap} {g : Array GenState} {d : Drawn} {t : Nat} {os : OsState}
variable {nm q : Str} {C N : Addr} {bs bm bmB : List Value} {hdct : Bool} {sn : List Str} {sub : List Value} {ab : Bool} {col : Option Bool} {dd : Option Addr} {k0 k1 k2 k3 k5 : Option Value} {B Bn newId nid initId inN : String} {bmN : List Value}
theorem type_call_initU (Fn : ExcBaseFacts Bn newId inN bmN) (hBn : bmB.contains (.type Bn) = true) (F : ExcBaseFacts B nid initId bmB) (T : OwnTail h bmB bm) {mN : Str → Option Value} {rest : List Value} {fI : Addr} {oI : Obj} {Q : Fin → Shared → Prop}
    (hC : h.get? C = some (excClassObj nm q C N bs bm hdct sn sub ab col dd k0 k1 k2 k3 k5 newId)) (hn : h.Ns N mN) (hi : mN "__init__" = some (.ref fI)) (hfI : h.get? fI = some oI) (hfc : oI.cls = .type "function")
    (hq : ∀ h' e, Heap.MadeExcOf h h' e (.ref C) rest → wpAny (model prog w) A (call (.ref fI) (.ref e :: rest)) (fun r s' => r = .none ∧ Q (.done (.ret (.ref e))) s') E ⟨h', g, d, t, os⟩) (hrest : rest.length ≤ sizeLine) :
    wpAny (model prog w) A (Builtin.«type.__call__» ⟨.ref C :: rest, []⟩) Q E ⟨h, g, d, t, os⟩ := by
  repeat (first | with_reducible refine wpAny_loadPart_at hC ?_ | with_reducible refine wpAny_madeBy_exc hC ?_ | wp_step)
  refine codeAny_call_builtin_code (Code.quiet_builtin _ Fn.quiet) (wpAny_check_new_subU Fn hBn T hC ?_)
  refine codeAny_exc_new_subU Fn hBn F T hC ?_ hrest
  show wpAny _ _ _ _ _ _
  have hC₁ := Heap.get?_push_of_some { cls := .ref C, data := .fields #[.ref h.objs.size, .none, .none, .none, .bool false, .none] }
    (Heap.get?_push_of_some { cls := .type "tuple", data := .seq rest.toArray } hC)
  have hfI₁ := Heap.get?_push_of_some { cls := .ref C, data := .fields #[.ref h.objs.size, .none, .none, .none, .bool false, .none] }
    (Heap.get?_push_of_some { cls := .type "tuple", data := .seq rest.toArray } hfI)
  have hn₁ : ((h.push { cls := .type "tuple", data := .seq rest.toArray }).push { cls := .ref C, data := .fields #[.ref h.objs.size, .none, .none, .none, .bool false, .none] }).Ns N mN :=
    let ⟨o, es, ep, e, r⟩ := hn; ⟨o, es, ep, Heap.get?_push_of_some _ (Heap.get?_push_of_some _ e), r⟩
  have hget : ((h.push { cls := .type "tuple", data := .seq rest.toArray }).push
      { cls := .ref C, data := .fields #[.ref h.objs.size, .none, .none, .none, .bool false, .none] }).get? (h.objs.size + 1) = some
      { cls := .ref C, data := .fields #[.ref h.objs.size, .none, .none, .none, .bool false, .none] } := by heap_get
  have hcC : (Value.ref C :: bm).contains (.ref C) = true := by simp
  have T₁ := T.keeps (h' := (h.push { cls := .type "tuple", data := .seq rest.toArray }).push { cls := .ref C, data := .fields #[.ref h.objs.size, .none, .none, .none, .bool false, .none] })
    fun b o e => Heap.get?_push_of_some _ (Heap.get?_push_of_some _ e)
  unfold isInstance
  repeat (first | with_reducible refine wpAny_loadPart_at hget ?_ | (with_reducible refine wpAny_isSubtype_exc hC₁ ?_; rw [hcC]) | wp_step)
  show wpAny _ _ (typeLookup (.ref C) _) _ _ _
  refine wpAny_typeLookup_tail hC₁ hn₁ T₁ F.mroIs F.init.lookup ?_
  rw [hi]
  refine wpAny_holding (wpAny_bind ?_)
  unfold bindSpecial
  refine wpAny_bind (wpAny_typeOf (T := "function") ⟨_, hfI₁, hfc⟩ ?_)
  rw [if_pos (by decide)]
  refine wpAny_pure (wpAny_bind (wpAny_mono (hq _ (h.objs.size + 1) ⟨fun b o hb => Heap.get?_push_of_some _ (Heap.get?_push_of_some _ hb), Heap.get?_none_of_le (Nat.le_succ _), h.objs.size, hget, Heap.get?_none_of_le (Nat.le_refl _), ?_⟩) (fun r s' hr => ?_) fun _ _ x => x))
  · exact Heap.get?_push_of_some _ (Heap.get?_push_at rfl rfl)
  · obtain ⟨rfl, hQ⟩ := hr
    wp_walk
    exact hQ
theorem call_initU (Fn : ExcBaseFacts Bn newId inN bmN) (hBn : bmB.contains (.type Bn) = true) (F : ExcBaseFacts B nid initId bmB) (T : OwnTail h bmB bm) {mN : Str → Option Value} {rest : List Value} {fI : Addr} {oI : Obj} {Q : Value → Shared → Prop}
    (hC : h.get? C = some (excClassObj nm q C N bs bm hdct sn sub ab col dd k0 k1 k2 k3 k5 newId)) (hn : h.Ns N mN) (hi : mN "__init__" = some (.ref fI)) (hfI : h.get? fI = some oI) (hfc : oI.cls = .type "function")
    (hq : ∀ h' e, Heap.MadeExcOf h h' e (.ref C) rest → wpAny (model prog w) (A.under (.builtin "type.__call__" ⟨.ref C :: rest, []⟩)) (call (.ref fI) (.ref e :: rest)) (fun r s' => r = .none ∧ Q (.ref e) s') E ⟨h', g, d, t, os⟩) (hrest : rest.length ≤ sizeLine) :
    wpAny (model prog w) A (call (.ref C) rest) Q E ⟨h, g, d, t, os⟩ := by
  have f1 := tc_lookup
  have f2 := tc_bind (.ref C)
  have hT : (⟨h, g, d, t, os⟩ : Shared).TypeIs (.ref C) "type" := ⟨_, hC, rfl⟩
  refine wpAny_call (codeAny_of_tree ?_)
  show wpAny _ _ (callAny (.ref C) _) _ _ _
  repeat (any_goals (first | assumption | with_reducible refine wpAny_loadPart_at hC ?_ | wp_step))
  refine ⟨rfl, ?_⟩
  refine codeAny_call_builtin_at (Code.quiet_builtin _ (by decide +kernel)) entry_typeCall (wpAny_check_type_call_sub hC (type_call_initU (hrest := hrest) Fn hBn F T hC hn hi hfI hfc fun h' e hm => ?_))
  exact hq h' e hm
end
theorem raise_made {M : Model} {A : Around} {env : Env} {E : Value → Shared → Prop} {K : Frag} {s : Shared} {x : Sem Value} {Q : Flow → Shared → Prop} (hh : A.handled = none)
    (h : wpAny M A x (fun v s₁ => ∃ e oe C vs, v = .ref e ∧ K.In s₁.heap ∧ s₁.heap.get? e = some oe ∧ oe.cls = .ref C ∧ oe.data = .fields vs ∧ vs[1]? = some .none ∧ mroIn K C (.type "BaseException") = some true ∧ typeIn K (.ref C) = some (.type "type") ∧ E (.ref e) s₁) E s) :
    wpAny M A (raiseStmt env (some x) none) Q E s := by
  unfold raiseStmt
  refine wpAny_bind (wpAny_mono h (fun v s₁ h₁ => ?_) fun _ _ x => x)
  obtain ⟨e, oe, C, vs, rfl, X, he, hc, hd, h1, hm, hty, hE⟩ := h₁
  obtain ⟨hp, g, d, tk, os⟩ := s₁
  have L1 := looks_mroIn (M := M) X hm
  obtain ⟨oC, hoC, hcC⟩ := Option.map_eq_some_iff.mp (show (K.lookup C).map (·.cls) = some (.type "type") from hty)
  have hC := X _ _ hoC
  have he0 := he
  obtain ⟨cls, dict, data, sl⟩ := oe
  dsimp only at hc hd
  subst hc hd
  repeat (first | with_reducible refine wpAny_loadPart_at he ?_ | with_reducible refine L1.at ?_ | (with_reducible refine wpAny_loadPart_at hC ?_; rw [hcC]) | wp_step)
  rw [h1]
  refine wpAny_pure ?_
  rw [if_neg (by decide)]
  exact wpAny_pure (wpAny_raiseNew_none hh hE)
def NewX (e C : Addr) (d : Option Addr) : HO := .ext fun h => ∃ o vs t0, h.get? e = some o ∧ o.cls = .ref C ∧ o.dict = d ∧ o.data = .fields vs ∧ vs[0]? = some (.ref t0) ∧ vs[1]? = some .none ∧ vs[2]? = some .none
theorem newX_ok {P : Program} {w : World} {H : Hp} {h : Heap} {e C t0 : Addr} {d : Option Addr} {o : Obj} {vs : Array Value} (h1 : h.get? e = some o) (h2 : o.cls = .ref C) (h3 : o.dict = d) (h4 : o.data = .fields vs) (h5 : vs[0]? = some (.ref t0)) (h6 : vs[1]? = some .none) (h7 : vs[2]? = some .none) : ObjOk P w H h e (NewX e C d) :=
  ⟨⟨o, vs, t0, h1, h2, h3, h4, h5, h6, h7⟩, ⟨o, h1⟩, fun _ _ ⟨o, vs, t0, e1, e2, e3, e4, e5, e6, e7⟩ k => ⟨o, vs, t0, k o e1, e2, e3, e4, e5, e6, e7⟩⟩
theorem Inv.laidN {X : Cx} {pins : List (Addr × Obj)} {σ : St} {H : Hp} {s : Shared} {h' : Heap} {a : Addr} {o : HO} {t' : Nat} (I : Inv X pins σ H s) (k : ∀ b u, s.heap.get? b = some u → h'.get? b = some u) (hn : s.heap.get? a = none) (new : ObjOk X.prog X.w (upd H a o) h' a o) :
    Inv X pins σ (upd H a o) { s with heap := h', toks := t' } := by
  have hf : H a = none := I.hok.none hn
  have ne : ∀ b u, s.heap.get? b = some u → b ≠ a := fun b u e z => by rw [z, hn] at e; cases e
  refine I.un ⟨fun b u q _ _ _ => k b u q, fun b u q _ _ _ => ⟨u.slots, k b u q⟩, fun b u q n _ => by rw [upd_ne (ne b u q)]; exact n, fun b u q _ => ⟨u, k b u q⟩, fun b xs q => by rw [upd_ne (ne_of_none q hf)]; exact q, fun b u xs q => by rw [upd_ne (ne_of_none q hf)]; exact q, fun b ps q => ⟨#[], by rw [upd_ne (ne_of_none q hf), q]; simp⟩⟩ fun b u e => ?_
  by_cases hb : b = a
  · subst hb
    rw [upd_same] at e; cases e
    exact new
  · rw [upd_ne hb] at e
    exact (I.hok b u e).stay (fun c v _ q => k c v q) (fun c r => by rw [upd_ne (ne_of_none r hf)]; exact r) fun c xs r => by rw [upd_ne (ne_of_none r hf)]; exact r
abbrev xdP (n : Int) : HO := .xd [("place", .int n)]
def spXInit (C : Addr) : Sp := fun vs H Q _ => ∃ e n, vs = [.ref e, .int n] ∧ H e = some (NewX e C none) ∧ n.natAbs.log2 < 1920 ∧ ∀ dx, H dx = none → Q .non (upd (upd H dx (xdP n)) e (NewX e C (some dx)))
structure XMk (K : Frag) (mg : Str → Option Value) (x : Str) (C f : Addr) : Prop where
  xi : excInI K C f = true
  fn : typeIn K (.ref f) = some (.type "function")
  kp : keepIn K (.ref C) = true
  be : mroIn K C (.type "BaseException") = some true
  ty : typeIn K (.ref C) = some (.type "type")
  gm : mg x = some (.ref C)
def tRaiseI (C : Addr) (E : XK) (t : TA) : TS := fun _ σ H => t σ H fun vs H1 => ∃ n, vs = [.int n] ∧ n.natAbs.log2 < 1920 ∧ ∀ dx, H1 dx = none → E (.ref C) (some dx) (upd H1 dx (xdP n))
theorem ps_raiseI {X : Cx} {x : Str} {C f : Addr} {fd : FuncData} {k k' : Nat} {np cpos pos : Pos} {e : Expr} {es : List Expr} {t : TA} {E : XK} (T : Throws X E) (M : XMk X.K X.mg x C f) (F : FnOk X.prog X.w X.K X.mg X.base CX0 k f fd ["self", "place"] (spXInit C)) (hb : Binds X.K fd ["self", "place"] []) (hr : Room k' X.A) (ha : PA X (e :: es) t) (hk : k + 1 ≤ k' := by decide)
    (hex : X.ex = [] := by rfl) (hg : Gl X x := by rfl) (hdb : (x == ("__debug__" : Str)) = false := by decide +kernel)
    (he : starEach (e :: es) X.env = (false, eval e X.env) :: starEach es X.env := by rfl) (hpl : (backTo cpos (starEach es X.env)).any (·.1) = false := by rfl) :
    PS X (.Raise (some (.Call (.Name x np) (e :: es) [] cpos)) none pos) (tRaiseI C E t) := by
  intro pins s σ H D I h
  rw [arm_exec_Raise]
  refine wpAny_bind (wpAny_standAt (raise_made (K := X.K) hr.hd (wpAny_bind (wpAny_mono (t := eval (.Call (.Name x np) (e :: es) [] cpos) X.env) ?_ (fun v s₃ h₃ => wpAny_bind (wpAny_standAt (wpAny_pure h₃))) fun _ _ x => x))))
  refine wpAny_Call_Name_kw (ld_glob I hg M.gm ?_ hdb)
  refine PySem.W.callWith_K (h₀ := X.base) I.ok.mod.kin M.kp (thn (ha cpos pins s σ H _ I h) fun us s1 ⟨vs, H1, I1, r, n, hvs, hsm, q⟩ => ⟨I1.kIn, ?_⟩) he hpl
  subst hvs
  obtain ⟨bm, N, nm, qn, bs, hdct, sn, sub, ab, col, dd, k0, k1, k2, k3, k5, mN, h1, h2, h3, h4⟩ := (clsAtI I1.kIn M.xi).ex
  obtain ⟨oI, hoI, hcI⟩ := Option.map_eq_some_iff.mp (show (X.K.lookup f).map (·.cls) = some (.type "function") from M.fn)
  have hl1 : us.length = 1 := r.length.symm
  obtain ⟨hh, g, d, tk, os⟩ := s1
  refine call_initU PySem.F.excBase_ValueError (bmB := bmV) (by decide +kernel) PySem.F.excBase_ValueError h4 h1 h2 h3 (I1.kIn _ _ hoI) hcI (fun h' a hm => ?_) (by show us.length ≤ _; rw [hl1]; decide)
  obtain ⟨tt, ht, _, _⟩ := hm.there
  have fa : H1 a = none := I1.hok.none hm.new
  have I2 := I1.laidN (a := a) (o := NewX a C none) (h' := h') (t' := tk) hm.keeps hm.new (newX_ok ht rfl rfl rfl rfl rfl rfl)
  have r2 : Vals [V.ref a, .int n] (Value.ref a :: us) := .cons rfl r
  have hq : spXInit C [V.ref a, .int n] (upd H1 a (NewX a C none)) (fun v H3 => v = .non ∧ ∃ dx, H1 dx = none ∧ dx ≠ a ∧ H3 = upd (upd (upd H1 a (NewX a C none)) dx (xdP n)) a (NewX a C (some dx))) E0 :=
    ⟨a, n, rfl, upd_same, hsm, fun dx hd => ⟨rfl, dx, (same_new fa).free hd, fun z => (by rw [z, upd_same] at hd; cases hd), rfl⟩⟩
  have hbs := hb ⟨h', g, d, tk, os⟩ (Value.ref a :: us) I2.kIn (by simp [hl1])
  rw [List.append_nil] at hbs
  refine wpAny_call (codeAny_mono (F.run _ X.stack ⟨h', g, d, tk, os⟩ _ ⟨Value.ref a :: us, []⟩ (Value.ref a :: us) _ _ E0 ((hr.mono hk).make C us []) (I2.env0.make C us []) hbs r2 hq) fun rr s' hq' => ?_)
  cases rr with
  | error e => exact False.elim hq'
  | ok fl =>
    cases fl with
    | ret u =>
      obtain ⟨v, H3, I3, rv, ev, dx, fdx, nd, eH⟩ := I2.after hq'
      subst ev
      have hS : Same H1 H3 := fun b o e => by
        rw [eH, upd_ne (ne_of_none e fa), upd_ne (ne_of_none e fdx), upd_ne (ne_of_none e fa)]; exact e
      have hdx : H3 dx = some (xdP n) := by rw [eH, upd_ne nd, upd_same]
      have h3a : H3 a = some (NewX a C (some dx)) := by rw [eH, upd_same]
      have I4 := Inv.sub I1 I3 (Sub.new fdx hS hdx trivial)
      obtain ⟨⟨o, vs, t0, e1, e2, e3, e4, e5, e6, e7⟩, _⟩ := (show ObjOk X.prog X.w H3 s'.heap a (NewX a C (some dx)) from I3.hok a _ h3a)
      refine ⟨rv, a, o, C, vs, rfl, I4.kIn, e1, e2, e4, e6, M.be, M.ty, ?_⟩
      refine T pins σ _ s' a C o vs I4 e1 e2 e4 e6 (.inr e7) (by rw [upd_ne (Ne.symm nd)]; exact fa) ?_ (by rw [e3]; exact q dx fdx)
      cases z : X.s₀.heap.get? a with
      | none => rfl
      | some o =>
        obtain ⟨o', e⟩ := I1.base.there a o z (by rw [hex]; simp)
        have := hm.new
        rw [show hh.get? a = some o' from e] at this; cases this
    | next => exact False.elim hq'
    | brk => exact False.elim hq'
    | cont => exact False.elim hq'
end L2

end

section
namespace L2
open PySem PySem.W PySem.Spec PyProof.Rows
abbrev TJ := Str → St → Hp → VK → Prop
def PJ (X : Cx) (es : List Expr) (t : TJ) : Prop :=
  ∀ (acc : Str) (pins : List (Addr × Obj)) (s : Shared) (σ : St) (H : Hp) (Q : VK), Inv X pins σ H s → t acc σ H Q → wpAny (model X.prog X.w) X.A (joinParts acc (evalEach es X.env)) (EP X pins σ Q) X.xe s
section
variable {X : Cx} {e o : Expr} {es : List Expr} {te ta tv : TE} {t : TJ} {pos : Pos}
theorem pj_nil : PJ X [] (fun acc _ H Q => acc.length ≤ sizeLine ∧ Q (.str acc) H) := fun acc pins s σ H Q I ⟨hz, q⟩ => joinParts_nil ⟨.str acc, H, I.tok _, ⟨_, rfl⟩, q⟩ hz
theorem pj_cons (he : PE X e te) (hr : PJ X es t) (hev : evalEach (e :: es) X.env = eval e X.env :: evalEach es X.env := by rfl) : PJ X (e :: es) (fun acc σ H Q => te σ H fun x H1 => ∃ y, x = .str y ∧ (acc ++ y).length ≤ sizeLine ∧ t (acc ++ y) σ H1 Q) := by
  intro acc pins s σ H Q I h
  rw [hev]
  refine joinParts_cons (thn (he pins s σ H _ I h) fun v s1 ⟨x, H1, I1, r, y, ex, hz, q⟩ => ?_)
  subst ex
  obtain ⟨tk, rfl⟩ := r
  exact ⟨hz, hr (acc ++ y) pins s1 σ H1 Q I1 q⟩
theorem pe_joined {v1 v2 : Expr} {rest : List Expr} (h : PJ X (v1 :: v2 :: rest) t) (hev : evalEach (v1 :: v2 :: rest) X.env = eval v1 X.env :: eval v2 X.env :: evalEach rest X.env := by rfl) : PE X (.JoinedStr (v1 :: v2 :: rest) pos) (t Str.empty) := by
  intro pins s σ H Q I hq
  refine JoinedStr_many ?_
  have := h Str.empty pins s σ H Q I hq
  rw [hev] at this
  exact this
theorem pe_fmtI (he : PE X e te) : PE X (.FormattedValue e (-1) none pos) (fun σ H Q => te σ H fun x H1 => ∃ i : Int, x = .int i ∧ i.natAbs.log2 < 1920 ∧ Q (.str (Str.ofString (toString i))) H1) := by
  intro pins s σ H Q I h
  refine FormattedValue_plain (thn (he pins s σ H _ I h) fun v s1 ⟨x, H1, I1, r, i, ex, hs, q⟩ => ?_)
  subst ex
  obtain ⟨tk, rfl⟩ := r
  exact formatField_int_small hs ⟨.str _, H1, I1.tok _, ⟨_, rfl⟩, q⟩
end
section
variable {X : Cx} {x : Str} {C D f : Addr} {np apos pos : Pos} {e : Expr} {es : List Expr} {t : TA}
theorem pe_baseInit {pl : Sem Bool} (xi : excInI X.K C f = true) (hm : X.mg x = some (.ref D)) (hga : specialIn X.K (.ref D) "__getattribute__" = some (some (.builtin "type.__getattribute__"))) (hrd : readsIn X.K D (.type "type") = true) (hfc : findCls X.K (.ref D) (.type "type") "__init__" = some (.val (.builtin "ValueError.__init__")))
    (ha : PA X (e :: es) t) (hg : Gl X x := by rfl) (hdb : (x == ("__debug__" : Str)) = false := by decide +kernel)
    (hst : starEach (e :: es) X.env = (false, eval e X.env) :: starEach es X.env := by rfl) (hpl : (backTo pos (starEach es X.env)).any (·.1) = false := by rfl)
    (ht : eval (.Call (.Attribute (.Name x np) "__init__" apos) (e :: es) [] pos) X.env = (do
      let ov ← eval (.Name x np) X.env
      standAt apos.atName
      let (f, first) ← holding [ov] (getMethod ov "__init__" pl)
      callWith pos f first (backTo pos (starEach (e :: es) X.env)) (backToKw pos (keywordEach [] X.env))) := by rfl) :
    PE X (.Call (.Attribute (.Name x np) "__init__" apos) (e :: es) [] pos) (fun σ H Q => t σ H fun vs H1 => ∃ a v, vs = [.ref a, v] ∧ H1 a = some (NewX a C none) ∧ Q .non H1) := by
  intro pins s σ H Q I h
  refine PySem.W.methodCall_KW (pl := pl) (ld_glob I hg hm ?_ hdb) ht
  refine method_cls I.kIn hga (cls_value I.kIn hrd hfc rfl ?_)
  refine PyProof.Rows.callWith_builtin1 (thn (ha pos pins _ σ H _ (I.tok _) h) fun us s1 ⟨vs, H1, I1, r, a, v, hvs, hx, q⟩ => ?_) hst hpl
  subst hvs
  obtain ⟨ua, ub, rfl, r1, r2⟩ := vals2 r
  obtain rfl : ua = Value.ref a := r1
  obtain ⟨⟨o, vs, t0, e1, e2, e3, e4, e5, e6, e7⟩, _⟩ := (show ObjOk X.prog X.w H1 s1.heap a (NewX a C none) from I1.hok a _ hx)
  obtain ⟨bm, N, nm, qn, bs, hdct, sn, sub, ab, col, dd, k0, k1, k2, k3, k5, mN, h1, h2, h3, h4⟩ := (clsAtI I1.kIn xi).ex
  have FB := PySem.F.excBase_ValueError
  refine wpAny_call (codeAny_call_builtin FB.init.plain FB.initEntry (wpAny_check_init_subU (B := "ValueError") FB h4 h1 e1 e2 ?_))
  unfold Builtin.«BaseException.__init__»
  dsimp only
  rw [if_neg (by simp)]
  unfold newTuple Builtin.BaseException.bexcPut
  have hsz : 0 < vs.size := (Array.getElem?_eq_some_iff.mp e5).1
  have he1 := Heap.get?_push_of_some (h := s1.heap) { cls := .type "tuple", data := .seq [ub].toArray } e1
  refine wpAny_bind (wpAny_newObj_type (wpAny_bind (wpAny_bind (wpAny_field he1 e4 e5 (wpAny_bind (wpAny_setField he1 e4 hsz ?_))))) (by show 1 ≤ sizeLine; decide))
  refine wpAny_letGo (wpAny_pure ?_)
  have hd3 := Obj.data_mapFields e4 (·.setIfInBounds 0 (Value.ref s1.heap.objs.size))
  have he3 := Heap.get?_update_self (Obj.mapFields (·.setIfInBounds 0 (Value.ref s1.heap.objs.size))) he1 (Obj.isFreed_of_fields hd3)
  have W := I1.write (o := NewX a C none) (t' := s1.toks) (by rw [hx]; trivial) (.inl rfl) (fun b u hb q => by rw [Heap.get?_update_other _ _ (Ne.symm hb)]; exact Heap.get?_push_of_some _ q) ⟨_, he3⟩
    (newX_ok (t0 := s1.heap.objs.size) he3 ((Obj.cls_mapFields _ _).trans e2) ((dict_mapFields _ _).trans e3) hd3 (by simp [hsz]) (by rw [Array.getElem?_setIfInBounds_ne (by decide)]; exact e6) (by rw [Array.getElem?_setIfInBounds_ne (by decide)]; exact e7))
  rw [upd_self' hx] at W
  exact ⟨.non, H1, W, rfl, q⟩
end
def sFldX (K : Frag) (ta tv : TE) (fl : Str) : TS := fun D σ H => tv σ H fun y H1 => ta σ H1 fun x H2 => ∃ a C, x = .ref a ∧ H2 a = some (NewX a C none) ∧ ExcS K C ∧ takerIn K C fl = some none ∧ ∀ dx, H2 dx = none → D.nx σ (upd (upd H2 dx (.xd [(fl, y)])) a (NewX a C (some dx)))
theorem ps_fldX {X : Cx} {o value : Expr} {ta tv : TE} {fl : Str} {pos pos' : Pos} (ha : PE X o ta) (hv : PE X value tv) (hs : swapsWith value (some (.Attribute o fl pos')) pos.line X.env = pure false) : PS X (.Assign [.Attribute o fl pos'] value pos) (sFldX X.K ta tv fl) := by
  intro pins s σ H D I h
  refine plainObj_wpAny_Assign_Attribute (thn (hv pins s σ H _ I h) fun u s1 ⟨y, H1, I1, ry, q⟩ => thn (ha pins s1 σ H1 _ I1 q) fun ov s2 ⟨x, H2, I2, rx, a, C, ex, hx, S, ht, q2⟩ => ?_) hs
  subst ex
  obtain rfl : ov = Value.ref a := rx
  obtain ⟨⟨o', vs, t0, e1, e2, e3, e4, e5, e6, e7⟩, _⟩ := (show ObjOk X.prog X.w H2 s2.heap a (NewX a C none) from I2.hok a _ hx)
  refine exc_set I2.kIn e1 e2 e3 e4 S ht fun h' g1 g2 g3 => ?_
  have fD : H2 s2.heap.objs.size = none := I2.hok.fresh (Nat.le_refl _)
  have nD : a ≠ s2.heap.objs.size := Nat.ne_of_lt (Heap.lt_size e1)
  refine ⟨σ, _, I2.un (h' := h') (t' := s2.toks + 2) ⟨fun b u q n _ _ => ?_, fun b u q n _ _ => ⟨u.slots, ?_⟩, fun b u q n _ => ?_, fun b u q _ => ?_, fun b xs q => ?_, fun b u xs q => ?_, fun b ps q => ⟨#[], ?_⟩⟩ fun b u q => ?_, q2 _ fD⟩
  · exact g3 b u (fun z => by rw [z, hx] at n; cases n) q
  · exact g3 b u (fun z => by rw [z, hx] at n; cases n) q
  · rw [upd_ne (fun z => by rw [z, hx] at n; cases n), upd_ne (Nat.ne_of_lt (Heap.lt_size q))]; exact n
  · by_cases hb : b = a
    · subst hb; exact ⟨_, g1⟩
    · exact ⟨u, g3 b u hb q⟩
  · rw [upd_ne (fun z => by rw [z, hx] at q; cases q), upd_ne (ne_of_none q fD)]; exact q
  · rw [upd_ne (fun z => by rw [z, hx] at q; cases q), upd_ne (ne_of_none q fD)]; exact q
  · rw [upd_ne (fun z => by rw [z, hx] at q; cases q), upd_ne (ne_of_none q fD), q]; simp
  · by_cases hb : b = a
    · subst hb
      rw [upd_same] at q; cases q
      exact newX_ok g1 e2 rfl e4 e5 e6 e7
    · rw [upd_ne hb] at q
      by_cases hbd : b = s2.heap.objs.size
      · subst hbd
        rw [upd_same] at q; cases q
        refine ⟨_, g2, fun f => ?_⟩
        show RelO (match f == fl with | true => some y | false => none) (if f = fl then some u else none)
        by_cases hf : f = fl
        · rw [hf, beq_self_eq_true, if_pos rfl]; exact ry
        · rw [beq_false_of_ne hf, if_neg hf]; trivial
      · rw [upd_ne hbd] at q
        refine (I2.hok b u q).stay (fun c v hc z => g3 c v ?_ z) (fun c r => ?_) fun c xs r => ?_
        · rcases hc with rfl | hc
          · exact hb
          · intro z; rw [z, hx] at hc; cases hc
        · rw [upd_ne (fun z => by rw [z, hx] at r; cases r), upd_ne (ne_of_none r fD)]; exact r
        · rw [upd_ne (fun z => by rw [z, hx] at r; cases r), upd_ne (ne_of_none r fD)]; exact r
end L2

end

section
namespace L2
open PySem PySem.W PySem.Spec PyProof.Rows
def MethOkE (P : Program) (w : World) (K : PySem.W.Frag) (mg : Str → Option Value) (base : Heap) (k : Nat) (C : Addr) (m : Str) (ps : List Str) (sp : Sp) : Prop :=
  ∃ f fd, FnOk P w K mg base (CXe P w) k f fd ps sp ∧ Binds K fd ps [] ∧ Meth K C m f
section
variable {X : Cx} {k1 k2 k' : Nat} {C : Addr} {m : Str} {ps : List Str} {sp1 sp2 : Sp} {e o : Expr} {es : List Expr} {t : TA} {ta : TE} {p pos apos : Pos} {E : St → XK}
theorem run_E2 {f : Addr} {fd fd2 : FuncData} {pins : List (Addr × Obj)} {σ : St} {H : Hp} {s : Shared} {Q : VK} {us : List Value} {vs : List V} (F : FnOk X.prog X.w X.K X.mg X.base CX0 k1 f fd ps sp1) (F2 : FnOk X.prog X.w X.K X.mg X.base (CXe X.prog X.w) k2 f fd2 ps sp2) (hb : Binds X.K fd ps []) (hb2 : Binds X.K fd2 ps [])
    (h1 : Room k1 X.A) (h2 : Room k2 X.A) (hx : PassesX (CXe X.prog X.w) X E) (I : Inv X pins σ H s) (r : Vals vs us) (q : sp1 vs H Q E0 ∨ sp2 vs H Q (E σ)) : wpAny (model X.prog X.w) X.A (call (.ref f) us) (EP X pins σ Q) X.xe s := by
  rcases q with q | q
  · exact run_fn (dvs := []) (ds := []) (us := us) F h1 hb .nil pass0 I r (by rw [List.append_nil]; exact q)
  · have hl : us.length = ps.length := by rw [← r.length]; exact F2.len _ _ _ _ q
    have hb' := hb2 s us I.kIn (by rw [List.append_nil]; exact hl)
    rw [List.append_nil] at hb'
    refine wpAny_call (codeAny_mono (F2.run X.A X.stack s H ⟨us, []⟩ us vs Q (E σ) h2 I.env0 hb' r q) fun r s' hq => ?_)
    cases r with
    | error e => exact hx pins σ H s e s' I hq
    | ok fl =>
      cases fl with
      | ret u => exact I.after hq
      | next => exact False.elim hq
      | brk => exact False.elim hq
      | cont => exact False.elim hq
theorem pe_methE20 {pl : Sem Bool} (h : MethOk X.prog X.w X.K X.mg X.base k1 C m ps sp1) (h' : MethOkE X.prog X.w X.K X.mg X.base k2 C m ps sp2) (c : Cls X.K C) (hr : Room k' X.A) (hx : PassesX (CXe X.prog X.w) X E) (he : PE X o ta) (hk : k1 ≤ k' := by decide) (hk' : k2 ≤ k' := by decide)
    (ht : eval (.Call (.Attribute o m apos) [] [] pos) X.env = (do
      let ov ← eval o X.env
      standAt apos.atName
      let (f, first) ← holding [ov] (getMethod ov m pl)
      callWith pos f first (backTo pos (starEach [] X.env)) (backToKw pos (keywordEach [] X.env))) := by rfl) :
    PE X (.Call (.Attribute o m apos) [] [] pos) (fun σ H Q => ta σ H fun x H1 => ∃ a dx fs, x = .ref a ∧ H1 a = some (.ins C dx fs) ∧ fs.lookup m = none ∧ (sp1 [x] H1 Q E0 ∨ sp2 [x] H1 Q (E σ))) := by
  obtain ⟨f, fd, F, hb, hm⟩ := h
  obtain ⟨f2, fd2, F2, hb2, hm2⟩ := h'
  obtain rfl : f = f2 := by
    have e1 := hm.at_
    rw [hm2.at_] at e1
    injection e1 with z; injection z with z; injection z with z; exact z.symm
  intro pins s σ H Q I h
  refine PySem.W.methodCall_KW (pl := pl) (thn (he pins s σ H _ I h) fun u s1 ⟨x, H1, I1, rx, a, dx, fs, ex, ea, l, q⟩ => ?_) ht
  subst ex
  obtain rfl : u = Value.ref a := rx
  refine getmeth_ok I1 ea c hm l ?_
  exact PySem.W.callWith_K0 (first := [.ref a]) I1.kIn hm.kp (run_E2 (us := [.ref a]) (vs := [.ref a]) F F2 hb hb2 (hr.mono hk) (hr.mono hk') hx I1 (.cons rfl .nil) q)
end
end L2
namespace L2
open PySem PySem.Spec PyProof.Rows
end L2

end

section
namespace KM
open PySem L2
end KM

end

section
namespace L2
open PySem PySem.W PySem.Spec PyProof.Rows
section
variable {X : Cx}
def oAdd3 := OpR.or (oAdd (X := X)) op_cat
def oMul3 := OpR.or (oMul (X := X)) op_rep
theorem pe_fldE {o : Expr} {ta : TE} {fl : Str} {pos : Pos} (ha : PE X o ta) (hb : attributeBase o fl X.env (eval o X.env) = eval o X.env) : PE X (.Attribute o fl pos) (fun σ H Q => ta σ H fun x H1 => ∃ a C dx fs v, x = .ref a ∧ H1 a = some (ExcO a C (some dx)) ∧ H1 dx = some (.xd fs) ∧ ExcC X.K C ∧ hasDictIn X.K C = true ∧ findIn X.K (.ref C) fl = some none ∧ fs.lookup fl = some (.int v) ∧ Q (.int v) H1) := by
  intro pins s σ H Q I h
  refine attr_of hb (thn (ha pins s σ H _ I h) fun u s1 ⟨x, H1, I1, rx, a, C, dx, fs, v, ex, hA, hD, xc, hdct, hf, hl, q⟩ => ?_)
  subst ex
  obtain rfl : u = Value.ref a := rx
  obtain ⟨⟨o', vs, e1, e2, e3, e4, _⟩, _⟩ := (show ObjOk X.prog X.w H1 s1.heap a (ExcO a C (some dx)) from I1.hok a _ hA)
  obtain ⟨mA, ns, rel⟩ := (show ObjOk X.prog X.w H1 s1.heap dx (.xd fs) from I1.hok dx _ hD)
  obtain ⟨od, ho, lk⟩ := lookIn_ns ns
  have J : W.InstAt s1.heap a o' C (some od) := by
    obtain ⟨cls, dict, data, sl⟩ := o'
    subst e2 e3 e4
    exact ⟨e1, rfl, rfl, ho⟩
  have r := rel fl
  rw [hl] at r
  cases hm : mA fl with
  | none => rw [hm] at r; exact r.elim
  | some u =>
    rw [hm] at r
    obtain ⟨tk, rfl⟩ := (show ∃ tk, u = Value.int v tk from r)
    obtain ⟨cd, hcd, hhd⟩ := any_some hdct
    have hfo : findObj X.K C (some od) fl = some (.value (Value.int v tk)) := by
      have hown : W.ownOf cd (some od) fl = some (some (Value.int v tk)) := by unfold W.ownOf; rw [if_pos hhd]; exact (lk fl).trans (by rw [hm])
      unfold findObj
      rw [hcd, Option.bind_some, hf, Option.bind_some]
      simp [hown]
    exact exc_value I1.kIn J xc hfo rfl ⟨.int v, H1, I1.tok _, ⟨_, rfl⟩, q⟩
end
end L2
namespace KM
open PySem L2
end KM

end

section
namespace L2
open PySem PySem.W PySem.Spec PyProof.Rows
section
variable {X : Cx}
end
section
variable {X : Cx} {tg : Expr}
theorem call_all (hc : X.calm = true) : CallR X (.builtin "all") (fun xs H Q => ∃ a, ∃ bs : List Bool, xs = [.ref a] ∧ SqL X.K H a (bs.map .bl) ∧ Q (.bl (bs.all id)) H) := by
  intro pins s σ H xs us Q I r h
  obtain ⟨a, bs, rfl, hq, q⟩ := h
  obtain ⟨u, rfl, ru⟩ := vals1 r
  obtain rfl : u = Value.ref a := ru
  obtain ⟨its, rv, pl, hz⟩ := I.list hq
  have hlen := rv.length
  have hlt : a < s.heap.objs.size := by obtain ⟨o, ho, _⟩ := pl.isList; exact Heap.lt_size ho
  refine call_all_walkS (wpAny_pyIter_list pl.isList ?_)
  refine ⟨s.heap.objs.size, [s.heap.objs.size, a], [s.heap.objs.size], _, its.toArray.size, _, _, fun i => bs.getD i false, rfl, (Walks.list (A := X.A.in1) (I.ok.hd hc) s.heap.objs.size a (Nat.ne_of_lt hlt) its.toArray).toS, ⟨⟨_, Heap.get?_push_size _ rfl, rfl, rfl⟩, ?_⟩, ?_, fun s' mv => ?_⟩
  · obtain ⟨o, ho, r⟩ := pl.isList; exact ⟨o, Heap.get?_push_of_some _ ho, r⟩
  · intro i v s2 Q2 E2 hv q2
    have hv' : its[i]? = some v := by simpa using hv
    have hi : i < bs.length := by
      have := (List.getElem?_eq_some_iff.mp hv').1
      rw [List.length_map] at hlen; omega
    have hb : (bs.map V.bl)[i]? = some (.bl (bs.getD i false)) := by rw [List.getElem?_map, List.getElem?_eq_getElem hi, List.getD_eq_getElem?_getD, List.getElem?_eq_getElem hi]; rfl
    obtain ⟨u, hu, ru⟩ := rv.get hb
    rw [hv'] at hu; cases hu
    obtain rfl : v = Value.bool (bs.getD i false) := ru
    exact wpAny_truthy_bool q2
  · have hall : (List.range its.toArray.size).all (fun i => bs.getD i false) = bs.all id := by
      rw [List.size_toArray, ← hlen, List.length_map]
      apply Bool.eq_iff_iff.mpr
      rw [List.all_eq_true, List.all_eq_true]
      constructor
      · intro h x hx
        obtain ⟨i, hi, rfl⟩ := List.mem_iff_getElem.mp hx
        have := h i (List.mem_range.mpr hi)
        rw [List.getD_eq_getElem?_getD, List.getElem?_eq_getElem hi] at this
        exact this
      · intro h i hi
        have hi' := List.mem_range.mp hi
        rw [List.getD_eq_getElem?_getD, List.getElem?_eq_getElem hi']
        exact h _ (List.getElem_mem hi')
    rw [hall]
    refine ⟨.bl _, H, ?_, rfl, q⟩
    have I2 : Inv X pins σ H { s with heap := s.heap.push { cls := .type "list_iterator", data := .fields #[.ref a, .int 0 0] } } := I.kept (t' := s.toks) fun b o e => Heap.get?_push_of_some _ e
    obtain ⟨f0, f1, f2, f3, f4, f5⟩ := I.fpOk (b := s.heap.objs.size) (Nat.le_refl _) (I.hok.fresh (Nat.le_refl _))
    have e : s' = { s with heap := s'.heap, toks := s'.toks } := by
      obtain ⟨h1, g1, d1, t1, o1⟩ := s'
      have := mv.gens; have := mv.drawn; have := mv.os
      dsimp only at *
      subst_vars; rfl
    have I3 := I2.turned (t' := s'.toks) (it := s.heap.objs.size) (h' := s'.heap) (fun b o hb e => mv.heap b o (by simpa using hb) e) f0 f1 f3 f4 f5
    rw [e]
    exact I3
end
end L2
namespace L2
open PySem PySem.W PySem.Spec PyProof.Rows
section
variable {X : Cx}
end
end L2
namespace L2
open PySem PySem.W PySem.Spec PyProof.Rows
theorem comp_list {K : PySem.W.Frag} {a : Addr} {xs : List V} {g : TG} {te : TE} {Q : VK} {H : Hp} {D : Addr} {σ0 : St} (f : V → V) (S : St → Prop) (hz : xs.length ≤ sizeLine) (h0 : S σ0) (hD : H D = none) (hl : SqL K H a xs)
    (ht : ∀ x, x ∈ xs → ∀ σ1 H1, S σ1 → Same H H1 → ∀ R : St → V → Hp → Prop, (∀ σ2, S σ2 → R σ2 (f x) H1) → g x σ1 H1 fun σ2 H2 => te σ2 H2 fun y H3 => R σ2 y H3)
    (hq : Q (.ref D) (upd H D (.lst (xs.map f)))) :
    CompGo (Itl K a) g tYes te Q σ0 H D := by
  refine ⟨fun i m σ1 H2 => i ≤ xs.length ∧ m = xs.length - i ∧ S σ1 ∧ H2 = upd H D (.lst ((xs.take i).map f)), ⟨xs.length, Nat.zero_le _, rfl, h0, rfl⟩, ?_⟩
  rintro i m σ1 H2 ⟨h1, rfl, h2, rfl⟩
  have hl2 := (same_new (o := .lst ((xs.take i).map f)) hD).seq hl
  rcases Nat.lt_or_ge i xs.length with z | z
  · refine .inr ⟨⟨xs, xs[i], hl2, List.getElem?_eq_getElem z⟩, ?_⟩
    rintro x H3 ⟨rfl, hx⟩
    have hx := hx xs hl2
    refine ht x (List.mem_of_getElem? hx) σ1 _ h2 (same_new hD) (fun σ2 y H6 => ∃ ys m', H6 D = some (.lst ys) ∧ ys.length < sizeLine ∧ m' < xs.length - i ∧ (i + 1 ≤ xs.length ∧ m' = xs.length - (i + 1) ∧ S σ2 ∧ upd H6 D (.lst (ys ++ [y])) = upd H D (.lst ((xs.take (i + 1)).map f)))) fun σ2 q3 => ?_
    refine ⟨_, xs.length - (i + 1), upd_same, ?_, by omega, by omega, rfl, q3, ?_⟩
    · rw [List.length_map, List.length_take]; omega
    · rw [upd_upd', List.take_add_one, hx, List.map_append]; rfl
  · have e : i = xs.length := by omega
    subst e
    rw [List.take_length]
    rw [List.take_length] at hl2
    exact .inl ⟨⟨xs, hl2, Nat.le_refl _⟩, hq⟩
end L2

end

section
namespace KM
open PySem L2
end KM

end

section
namespace L2
open PySem PySem.W PySem.Spec PyProof.Rows
section
variable {X : Cx} {pins : List (Addr × Obj)} {σ : St} {H : Hp} {s : Shared} {h' : Heap}
theorem Inv.turnedNew {t' : Nat} {ch : List Addr} {a : Addr} {o : HO} (I : Inv X pins σ H s) (k : ∀ b u, b ∉ ch → s.heap.get? b = some u → h'.get? b = some u) (hf : ∀ b ∈ ch, FpOk X pins H b) (ha : s.heap.objs.size ≤ a) (new : ObjOk X.prog X.w (upd H a o) h' a o) :
    Inv X pins σ (upd H a o) { s with heap := h', toks := t' } := by
  have hn := I.hok.fresh ha
  have nch : ∀ b u, H b = some u → b ∉ ch := fun b u e z => by have := (hf b z).1; rw [this] at e; cases e
  have ne : ∀ b u, s.heap.get? b = some u → b ≠ a := fun b u e z => by subst z; exact absurd (Nat.lt_of_lt_of_le (Heap.lt_size e) ha) (Nat.lt_irrefl _)
  refine I.step (g' := s.gens) (d' := s.drawn) (ch := ch) (fun b hb => ?_) (fun b o _ _ hc e _ => k b o hc e) (fun b o _ _ hc e _ => ⟨o.slots, k b o hc e⟩) (fun b u _ e n => by rw [upd_ne (ne b u e)]; exact n)
    (fun b o hc e => ⟨o, k b o hc e⟩) (fun b xs e => by rw [upd_ne (ne_of_none e hn)]; exact e) (fun b u v e => by rw [upd_ne (ne_of_none e hn)]; exact e) (fun b ps e => ⟨#[], by rw [upd_ne (ne_of_none e hn), e]; simp⟩) (fun m hm => ?_) (fun b u e => ?_) I.bare
  · obtain ⟨f0, f1, f2, f3, f4, f5⟩ := hf b hb
    exact ⟨f3, f1, f4, f5⟩
  · obtain ⟨ob, es, ep, ho, r⟩ := hm
    exact ⟨ob, es, ep, k _ ob (fun z => (hf _ z).2.1 rfl) ho, r⟩
  · by_cases hb : b = a
    · subst hb; rw [upd_same] at e; cases e; exact new
    · rw [upd_ne hb] at e
      refine (I.hok b u e).stay (fun c v hc q => k c v ?_ q) (fun c q => by rw [upd_ne (ne_of_none q hn)]; exact q) fun c xs q => by rw [upd_ne (ne_of_none q hn)]; exact q
      rcases hc with z | z
      · rw [z]; exact nch b u e
      · exact nch c _ z
theorem Inv.turnedL {t' : Nat} {ch : List Addr} (I : Inv X pins σ H s) (k : ∀ b u, b ∉ ch → s.heap.get? b = some u → h'.get? b = some u) (hf : ∀ b ∈ ch, FpOk X pins H b) : Inv X pins σ H { s with heap := h', toks := t' } := by
  have nch : ∀ b u, H b = some u → b ∉ ch := fun b u e z => by have := (hf b z).1; rw [this] at e; cases e
  refine I.step (g' := s.gens) (d' := s.drawn) (ch := ch) (fun b hb => ?_) (fun b o _ _ hc e _ => k b o hc e) (fun b o _ _ hc e _ => ⟨o.slots, k b o hc e⟩) (fun _ _ _ _ n => n)
    (fun b o hc e => ⟨o, k b o hc e⟩) (fun _ _ e => e) (fun _ _ _ e => e) (fun b ps e => ⟨#[], by rw [e]; simp⟩) (fun m hm => ?_) (fun b u e => ?_) I.bare
  · obtain ⟨f0, f1, f2, f3, f4, f5⟩ := hf b hb
    exact ⟨f3, f1, f4, f5⟩
  · obtain ⟨ob, es, ep, ho, r⟩ := hm
    exact ⟨ob, es, ep, k _ ob (fun z => (hf _ z).2.1 rfl) ho, r⟩
  · refine (I.hok b u e).stay (fun c v hc q => k c v ?_ q) (fun _ q => q) fun _ _ q => q
    rcases hc with z | z
    · rw [z]; exact nch b u e
    · exact nch c _ z
end
section
variable {X : Cx}
end
end L2

end

section
namespace KM
open PySem L2
def more : List Int → List Bool
  | [] => [false]
  | b :: r => true :: (cnt (b - 1).toNat ++ more r).map (!·)
def cd (p q : Int) : Int := if h : 0 < q then cd q (p % q) else p
termination_by q.toNat
decreasing_by
  have := Int.emod_lt_of_pos p h
  have := Int.emod_nonneg p (Int.ne_of_gt h)
  omega
end KM
namespace L2
open PySem PySem.Spec PyProof.Rows
end L2

end

section
namespace KM
open PySem L2
end KM

end

section
namespace L2
open PySem PySem.W PySem.Spec PyProof.Rows
section
variable {X : Cx}
end
theorem comp_listI {K : PySem.W.Frag} {a : Addr} {xs : List V} {g : TG} {te : TE} {Q : VK} {H : Hp} {D : Addr} {σ0 : St} (fe : Nat → V) (S : St → Prop) (hz : xs.length ≤ sizeLine) (h0 : S σ0) (hD : H D = none) (hl : SqL K H a xs)
    (ht : ∀ i x, xs[i]? = some x → ∀ σ1 H1, S σ1 → Same H H1 → ∀ R : St → V → Hp → Prop, (∀ σ2, S σ2 → R σ2 (fe i) H1) → g x σ1 H1 fun σ2 H2 => te σ2 H2 fun y H3 => R σ2 y H3)
    (hq : Q (.ref D) (upd H D (.lst ((List.range xs.length).map fe)))) :
    CompGo (Itl K a) g tYes te Q σ0 H D := by
  refine ⟨fun i m σ1 H2 => i ≤ xs.length ∧ m = xs.length - i ∧ S σ1 ∧ H2 = upd H D (.lst ((List.range i).map fe)), ⟨xs.length, Nat.zero_le _, rfl, h0, rfl⟩, ?_⟩
  rintro i m σ1 H2 ⟨h1, rfl, h2, rfl⟩
  have hl2 := (same_new (o := .lst ((List.range i).map fe)) hD).seq hl
  rcases Nat.lt_or_ge i xs.length with z | z
  · refine .inr ⟨⟨xs, xs[i], hl2, List.getElem?_eq_getElem z⟩, ?_⟩
    rintro x H3 ⟨rfl, hx⟩
    have hx := hx xs hl2
    refine ht i x hx σ1 _ h2 (same_new hD) (fun σ2 y H6 => ∃ ys m', H6 D = some (.lst ys) ∧ ys.length < sizeLine ∧ m' < xs.length - i ∧ (i + 1 ≤ xs.length ∧ m' = xs.length - (i + 1) ∧ S σ2 ∧ upd H6 D (.lst (ys ++ [y])) = upd H D (.lst ((List.range (i + 1)).map fe)))) fun σ2 q3 => ?_
    refine ⟨_, xs.length - (i + 1), upd_same, by rw [List.length_map, List.length_range]; omega, by omega, by omega, rfl, q3, ?_⟩
    rw [upd_upd', List.range_succ, List.map_append]; rfl
  · have e : i = xs.length := by omega
    subst e
    exact .inl ⟨⟨xs, hl2, Nat.le_refl _⟩, hq⟩
end L2

end

section
namespace L2
open PySem PySem.W PySem.Spec PyProof.Rows
end L2

end

section
namespace KM
open PySem L2
def mp : List Int → List Bool
  | [] => []
  | b :: r => true :: (cnt (b - 1).toNat ++ mp r).map (!·)
end KM

end

section
namespace L2
open PySem PySem.W PySem.Spec PyProof.Rows
section
variable {X : Cx}
end
end L2
namespace KM
open PySem L2
def Lt (a b : List Bool) : Prop := (rowS a).cps.toList < (rowS b).cps.toList
instance (a b : List Bool) : Decidable (Lt a b) := inferInstanceAs (Decidable (_ < _))
def com : List Bool → List Bool → Nat
  | x :: a, y :: b => if x = y then com a b + 1 else 0
  | _, _ => 0
end KM
namespace KM
open PySem L2
end KM

end

section
namespace L2
open PySem PySem.W PySem.Spec PyProof.Rows
section
variable {prog : Program} {w : World} {A : Around} {E : Value → Shared → Prop} {s : Shared}
end
section
variable {X : Cx}
end
section
variable {X : Cx}
end
end L2
namespace L2
open PySem PySem.W PySem.Spec PyProof.Rows
end L2
namespace L2
open PySem PySem.W PySem.Spec PyProof.Rows
section
variable {X : Cx} {pos : Pos}
end
end L2

end

section
namespace KM
open PySem L2
def ent (a r : List Bool) : List Bool := cnt (com a r) ++ cnt (r.length - com a r) ++ r.drop (com a r)
def ents : List Bool → List (List Bool) → List Bool
  | _, [] => []
  | a, r :: rs => ent a r ++ ents r rs
def page (rs : List (List Bool)) : List Bool := cnt rs.length ++ ents [] rs
end KM
namespace KM
open PySem L2
end KM
namespace KM
open PySem L2
end KM

end

section
namespace L2
open PySem PySem.W PySem.Spec PyProof.Rows
section
variable {X : Cx}
end
end L2

end

section
namespace L2
open PySem PySem.W PySem.Spec PyProof.Rows
section
variable {M : Model} {A : Around} {E : Value → Shared → Prop} {s : Shared} {base : Heap} {env : Env} {outer : List Env} {L e T : Addr} {Q : Unit → Shared → Prop} {cls : Value} {d : Option Addr} {fl : Value}
end
section
variable {P : Program} {w : World} {K : PySem.W.Frag} {mg : Str → Option Value} {base : Heap} {N : List Str} {qual : Str} {scope : Scope} {f : Addr} {cdv : Value} {A : Around} {outer : List Env} {s : Shared} {H : Hp} {E : XK}
end
end L2

end

section
namespace L2
open PySem PySem.W PySem.Spec PyProof.Rows
section
variable {X : Cx}
end
end L2

namespace L2
open PySem PySem.W PySem.Spec PyProof.Rows
end L2

end

section
namespace L2
open PySem PySem.W PySem.Spec PyProof.Rows
end L2

end

section
namespace KM
open PySem L2
end KM
namespace L2
open PySem PySem.W PySem.Spec PyProof.Rows
section
variable {X : Cx}
inductive RowN : V → PyData → Prop
  | non : RowN .non .none
  | row (l : List Bool) : RowN (.str (KM.rowS l)) (.str (KM.rowS l))
end
end L2

end

section
namespace L2
open PySem PySem.W PySem.Spec PyProof.Rows
section
variable {prog : Program} {w : World} {A : Around} {E : Value → Shared → Prop} {s : Shared}
end
section
variable {prog : Program} {w : World} {A : Around} {E : Value → Shared → Prop} {s : Shared} {env : Env}
variable {nm q : Str} {C N a : Addr} {bs bm bmB : List Value} {hdct : Bool} {sn : List Str} {sub : List Value} {ab : Bool} {col : Option Bool} {dd : Option Addr} {k0 k1 k2 k3 k5 : Option Value} {B Bn newId nid initId inN : String} {bmN : List Value} {K : Frag}
end
section
variable {X : Cx}
end
end L2

end

section
namespace KM
open PySem L2
def padL (l : List Bool) : List Bool := l ++ List.replicate 3000 false
open Classical in
noncomputable def cnv (l : List Bool) (i : Nat) : Nat := if h : ∃ n, n + 1 < 2 ^ 255 ∧ cnt n <+: (padL l).drop i then h.choose else 0
def entAt (l la : List Bool) (fst : Bool) (s m i : Nat) : Option (List Bool × Nat) :=
  if i + m ≤ l.length ∧ s ≤ la.length ∧ com la (la.take s ++ (l.drop i).take m) = s ∧ (fst = true ∨ Lt la (la.take s ++ (l.drop i).take m)) then some (la.take s ++ (l.drop i).take m, i + m) else none
noncomputable def entR (l la : List Bool) (fst : Bool) (i : Nat) : Option (List Bool × Nat) :=
  entAt l la fst (cnv l i) (cnv l (i + (cnt (cnv l i)).length)) (i + (cnt (cnv l i)).length + (cnt (cnv l (i + (cnt (cnv l i)).length))).length)
noncomputable def goR (l : List Bool) : Nat → List (List Bool) → Nat → Option (List (List Bool))
  | 0, rs, i => if i = l.length then some rs else none
  | k + 1, rs, i => match entR l (rs.getLastD []) rs.isEmpty i with
    | none => none
    | some (r, j) => goR l k (rs ++ [r]) j
structure RdAt (l : List Bool) (out : Option (List (List Bool))) (rs : List (List Bool)) (i : Nat) : Prop where
  le : rs.length ≤ cnv l 0
  at_ : i ≤ l.length
  few : rs.length ≤ i
  sm : ∀ x ∈ rs, x.length ≤ i
  go : goR l (cnv l 0 - rs.length) rs i = out
end KM

end

section
namespace L2
open PySem PySem.W PySem.Spec PyProof.Rows
section
variable {X : Cx} {e : Expr} {te : TE} {p2 pos : Pos}
end
end L2

end

section
namespace KM
open PySem
end KM

end

section
namespace L2
open PySem PySem.Spec
structure SetIn (w : World) (es : Array (Int × Value)) (t : SetTable) (ks : List Str) : Prop where
  fit : t.fits es.size = true
  led : w.params.followText "set-order" = false → t.led = true
  pl : es.size ≠ 0 → t.plain = false
  els : ∀ e ∈ es.toList, ∃ k u, e = (hashStr w k, Value.str k u)
  keys : (es.toList.map fun e => PyProof.Rows.strOf e.2).Perm ks
section
variable {w : World} {es es' : Array (Int × Value)} {t t' : SetTable} {ks : List Str}
end
section
variable {prog : Program} {w : World} {A : Around} {E : Value → Shared → Prop} {s : Shared} {a : Addr} {es : Array (Int × Value)} {ep : Nat} {t : SetTable} {ks : List Str}
set_option maxHeartbeats 1000000 in
set_option maxHeartbeats 1000000 in
set_option maxHeartbeats 1000000 in
set_option maxHeartbeats 1000000 in
end
end L2

end

section
namespace L2
open PySem PySem.Spec
section
variable {prog : Program} {w : World} {A : Around} {E : Value → Shared → Prop} {s : Shared} {a : Addr} {es : Array (Int × Value)} {ep : Nat} {t : SetTable} {ks : List Str}
set_option maxHeartbeats 1000000 in
set_option maxHeartbeats 1000000 in
set_option maxHeartbeats 1000000 in
end
end L2

end

section
namespace L2
open PySem PySem.Spec
section
variable {prog : Program} {w : World} {A : Around} {R : Result → Shared → Prop} {I : Addr} {fp wr : List Addr} {G : Array GenState → Array GenState → Prop} {n : Nat} {Pv : Nat → Value → Prop} {St : Nat → Shared → Prop}
end
section
variable {prog : Program} {w : World} {A : Around} {E : Value → Shared → Prop} {s : Shared}
set_option maxHeartbeats 3200000 in
set_option maxHeartbeats 3200000 in
end
end L2

end

section
namespace L2
open PySem PySem.Spec
section
variable {prog : Program} {w : World} {A : Around} {E : Value → Shared → Prop} {s : Shared} {a I : Addr} {es : Array (Int × Value)} {ep : Nat} {t : SetTable} {ks : List Str}
set_option maxHeartbeats 1000000 in
set_option maxHeartbeats 1000000 in
end
end L2

end

section
namespace L2
open PySem PySem.Spec
section
variable {prog : Program} {w : World} {A : Around} {E : Value → Shared → Prop} {s : Shared} {a I p : Addr} {es : Array (Int × Value)} {ep : Nat} {t : SetTable} {ks : List Str}
set_option maxHeartbeats 1000000 in
set_option maxHeartbeats 1000000 in
end
end L2

end

section
namespace L2
open PySem PySem.Spec
section
variable {prog : Program} {w : World} {A : Around} {E : Value → Shared → Prop} {s : Shared} {a I p : Addr} {es : Array (Int × Value)} {ep : Nat} {t : SetTable} {ks : List Str}
set_option maxHeartbeats 1000000 in
end
end L2

end

section
namespace L2
open PySem PySem.Spec PyProof.Rows
section
variable {prog : Program} {w : World} {A : Around} {E : Value → Shared → Prop} {s : Shared} {a : Addr} {es : Array (Int × Value)} {ep : Nat} {t : SetTable} {ks : List Str}
set_option maxHeartbeats 1000000 in
set_option maxHeartbeats 1000000 in
end
end L2

end

section
namespace L2
open PySem PySem.W PySem.Spec PyProof.Rows
section
variable {X : Cx} {pos p p2 p3 q q2 q3 : Pos} {e1 e2 : Expr} {te1 te2 : TE}
set_option maxHeartbeats 1000000 in
end
end L2

end

section
namespace L2
open PySem PySem.W PySem.Spec PyProof.Rows
section
variable {X : Cx} {e el eh es : Expr} {te tl th ts : TE} {p2 pos : Pos}
end
end L2

end

section
namespace L2
open PySem PySem.W PySem.Spec PyProof.Rows
structure Mk0 (K : PySem.W.Frag) (C : Addr) : Prop where
  makes : PySem.W.makesIn K C = true
  init : PySem.W.findIn K (.ref C) "__init__" = some (some (.builtin "object.__init__"))
  kp : PySem.W.keepIn K (.ref C) = true
section
variable {X : Cx} {C : Addr} {x : Str} {p pos : Pos}
theorem run_make0 {pins : List (Addr × Obj)} {σ : St} {H : Hp} {s : Shared} {Q : VK} (M : Mk0 X.K C) (I : Inv X pins σ H s) (h : ∀ x dx, H x = none → H dx = none → dx ≠ x → Q (.ref x) (upd (upd H dx (.own x)) x (.ins C dx []))) :
    wpAny (model X.prog X.w) X.A (call (.ref C) []) (EP X pins σ Q) X.xe s := by
  have hq := h (s.heap.objs.size + 1) s.heap.objs.size (I.hok.fresh (Nat.le_succ _)) (I.hok.fresh (Nat.le_refl _)) (Nat.ne_of_lt (Nat.lt_succ_self _))
  have I2 := Inv.made (C := C) I
  have Y := makes_of (M := model X.prog X.w) I.kIn M.makes
  refine wpAny_call (make_map0 I.kIn M.makes M.init (fun self => Looks.of_pure (oi_bind self)) ?_)
  have e2 : ((s.heap.push PySem.W.emptyDict).push (PySem.W.instObj C s.heap.objs.size)).get? (s.heap.objs.size + 1) = some (PySem.W.instObj C s.heap.objs.size) := by
    have := Heap.get?_push_size (s.heap.push PySem.W.emptyDict) (o := PySem.W.instObj C s.heap.objs.size) rfl
    rwa [Heap.size_push] at this
  have t1 : Looks (model X.prog X.w) ((s.heap.push PySem.W.emptyDict).push (PySem.W.instObj C s.heap.objs.size)) (typeOf (.ref (s.heap.objs.size + 1))) (.ref C) := (Looks.ld e2).andThen .now
  have t2 : Looks (model X.prog X.w) ((s.heap.push PySem.W.emptyDict).push (PySem.W.instObj C s.heap.objs.size)) (isInstance (.ref (s.heap.objs.size + 1)) (.type "object")) true := t1.andThen (Y.top.keeps fun b o e => Heap.get?_push_of_some _ (Heap.get?_push_of_some _ e))
  obtain ⟨hh, g, d, t, os⟩ := s
  refine codeAny_call_builtin oi_plain entry_oi (@check_slot (model X.prog X.w) _ _ _ "object.__init__" "object" "__init__" (.ref (hh.objs.size + 1)) [] [] _ oi_kind oi_split t2 (oi_args (.ref (hh.objs.size + 1))) ?_)
  rw [oi_run]
  exact wpAny_pure (And.intro rfl ⟨V.ref (hh.objs.size + 1), _, I2, rfl, hq⟩)
def tMake0 (C : Addr) : TE := fun _ H Q => ∀ x dx, H x = none → H dx = none → dx ≠ x → Q (.ref x) (upd (upd H dx (.own x)) x (.ins C dx []))
theorem pe_makeN0 (M : Mk0 X.K C) (hg : Gl X x) (hm : X.mg x = some (.ref C)) (hdb : (x == ("__debug__" : Str)) = false := by decide) : PE X (.Call (.Name x p) [] [] pos) (tMake0 C) := by
  intro pins s σ H Q I h
  refine wpAny_Call_Name_kw (ld_glob I hg hm ?_ hdb)
  exact PySem.W.callWith_K0 I.kIn M.kp (run_make0 M I h)
end
section
variable {X : Cx}
end
end L2

end

section
namespace L2
open PySem PySem.W PySem.Spec PyProof.Rows
end L2

end

section
namespace L2
open PySem PySem.Spec PyProof.Rows
end L2

end

section
namespace L2
open PySem PySem.Spec
def metT (val : Nat → Str) : Nat → List Str
  | 0 => []
  | i + 1 => if val i ∈ metT val i then metT val i else metT val i ++ [val i]
theorem metT_le (val : Nat → Str) : ∀ i, (metT val i).length ≤ i
  | 0 => Nat.le_refl _
  | i + 1 => by
    have ih := metT_le val i
    unfold metT
    split
    · omega
    · rw [List.length_append, List.length_singleton]; omega
theorem metT_mem (val : Nat → Str) (i : Nat) (k : Str) : (decide (k ∈ metT val i) || decide (k = val i)) = decide (k ∈ metT val (i + 1)) := by
  conv => rhs; unfold metT
  by_cases h : val i ∈ metT val i
  · rw [if_pos h]
    by_cases e : k = val i
    · subst e; simp [h]
    · simp [e]
  · rw [if_neg h]
    by_cases e : k = val i <;> simp [e]
theorem metT_len (val : Nat → Str) (i : Nat) : (if decide (val i ∈ metT val i) = true then (metT val i).length else (metT val i).length + 1) = (metT val (i + 1)).length := by
  conv => rhs; unfold metT
  by_cases h : val i ∈ metT val i
  · rw [if_pos h, if_pos (decide_eq_true h)]
  · rw [if_neg h, if_neg (by simpa using h), List.length_append]; rfl
section
variable {prog : Program} {w : World} {A : Around} {R : Result → Shared → Prop} {I : Addr} {fp wr : List Addr} {G : Array GenState → Array GenState → Prop} {n : Nat} {Pv : Nat → Value → Prop} {St : Nat → Shared → Prop}
abbrev TxtSet (prog : Program) (w : World) (h : Heap) (S : Addr) (val : Nat → Str) (i : Nat) : Prop := h.SetOf (PySem.strKind prog w) S (fun k => decide (k ∈ metT val i)) (metT val i).length
theorem TxtSet.keep {h h' : Heap} {S : Addr} {val : Nat → Str} {i : Nat} (t : TxtSet prog w h S val i) (k : ∀ o, h.get? S = some o → h'.get? S = some o) : TxtSet prog w h' S val i := by
  obtain ⟨o, es, ep, tb, ho, rest⟩ := t
  exact ⟨o, es, ep, tb, k o ho, rest⟩
theorem set_loopT (W : WalksS prog w A.in1 I fp wr G n Pv St) (S : Addr) (hSf : S ∉ fp) (val : Nat → Str) (hval : ∀ i v, Pv i v → ∃ t, v = .str (val i) t) (hb : n + 1 < scanBound) :
    ∀ (m i : Nat) (s : Shared), n - i = m → i ≤ n → St i s → TxtSet prog w s.heap S val i → (∀ s', Moved (S :: wr) G s s' → TxtSet prog w s'.heap S val n → R (.ok (.ret .none)) s') →
      codeAny (model prog w) A (.builtin "set.update.loop" ⟨[.ref S, .ref I], []⟩) R s := by
  have hSw : S ∉ wr := fun h => hSf (W.sub _ h)
  have up : ∀ b ∈ wr, b ∈ S :: wr := fun b h => List.mem_cons_of_mem _ h
  intro m
  induction m with
  | zero =>
    intro i s hm hi st hT hR
    obtain rfl : i = n := by omega
    refine codeAny_builtin PyProof.Rows.F.entry_set_update_loop ?_
    rw [Around.under_plainId PyProof.Rows.F.plain_set_update_loop _]
    refine wpAny_bind (m := pyNext (.ref I)) (W.done s _ _ st fun s' mv => ?_)
    exact wpAny_pure (hR s' (mv.mono up) (hT.keep fun o e => mv.heap S _ hSw e))
  | succ m ih =>
    intro i s hm hi st hT hR
    have hlt : i < n := by omega
    refine codeAny_builtin PyProof.Rows.F.entry_set_update_loop ?_
    rw [Around.under_plainId PyProof.Rows.F.plain_set_update_loop _]
    refine wpAny_bind (m := pyNext (.ref I)) (W.item i s _ _ hlt st fun v s' hP st' mv => ?_)
    obtain ⟨t, rfl⟩ := hval i v hP
    have hT' : TxtSet prog w s'.heap S val i := hT.keep fun o e => mv.heap S _ hSw e
    have his : (PySem.strKind prog w).is (val i) (.str (val i) t) = true := by simp [PySem.strKind, Value.isStrOf]
    refine wpAny_bind (m := holding [Value.str (val i) t] (setAdd S (.str (val i) t))) (wpAny_holding ?_)
    unfold setAdd
    refine wpAny_holding (wpAny_bind ((PySem.strKind prog w).pyHash (k := val i) his ?_))
    have room : (metT val i).length + 1 < scanBound := by have := metT_le val i; omega
    refine wpAny_setAddHashed_of (knd := PySem.strKind prog w) (s := { s' with toks := s'.toks + 1 }) his rfl hT' room fun h' sb hS2 => ?_
    have hT2 : TxtSet prog w h' S val (i + 1) := PyProof.Rows.SetOf_congr hS2 (fun k => metT_mem val i k) (metT_len val i)
    refine wpAny_pure ⟨plainId_quiet PyProof.Rows.F.plain_set_update_loop _, ih (i + 1) _ (by omega) hlt (W.frame _ s' _ _ st' (Nat.le_succ _) fun b hbf o e => ?_) hT2 fun s'' mv' hT3 => ?_⟩
    · rw [sb.2 b fun z : b = S => hSf (z ▸ hbf)]; exact e
    · refine hR s'' (Moved.trans W.gtrans ((mv.mono up).then_heap (Nat.le_succ _) fun b o hbn e => ?_) mv') hT3
      rw [sb.2 b fun z : b = S => hbn (by rw [z]; exact List.mem_cons_self)]; exact e
end
end L2

end

section
namespace L2
open PySem PySem.Spec
section
variable {prog : Program} {w : World} {A : Around} {E : Value → Shared → Prop} {s : Shared}
abbrev noSet (led : Bool) : Obj := { cls := .type "set", dict := none, data := .set #[] 0 (.fresh 0 0 led) }
abbrev setDone (prog : Program) (w : World) (s : Shared) (val : Nat → Str) (n : Nat) (r : Value) (s₂ : Shared) : Prop := r = .none ∧ ∃ h' tk, s₂ = { s with heap := h', toks := tk } ∧ TxtSet prog w h' s.heap.objs.size val n ∧ ∀ b o, b < s.heap.objs.size → s.heap.get? b = some o → h'.get? b = some o
def InitDone (prog : Program) (w : World) (A : Around) (E : Value → Shared → Prop) (s : Shared) (x : Value) (val : Nat → Str) (n : Nat) (led : Bool) : Prop :=
  wpAny (model prog w) A.in1.in1 (Builtin.«set.__init__» ⟨[.ref s.heap.objs.size, x], []⟩) (fun fin s' => match fin with
      | Fin.done f => wants (setDone prog w s val n) E (Except.ok f) s'
      | Fin.again c' => c'.quiet = true ∧ codeAny (model prog w) A.in1 c' (wants (setDone prog w s val n) E) s')
    (fun e s' => wants (setDone prog w s val n) E (Except.error e) s') { s with heap := s.heap.push (noSet led) }
set_option maxHeartbeats 3200000 in
theorem call_set_by {x : Value} {val : Nat → Str} {n : Nat} {Q : Value → Shared → Prop}
    (hin : ∀ led : Bool, InitDone prog w A E s x val n led)
    (h : ∀ h' tk, TxtSet prog w h' s.heap.objs.size val n → (∀ b o, b < s.heap.objs.size → s.heap.get? b = some o → h'.get? b = some o) → Q (.ref s.heap.objs.size) { s with heap := h', toks := tk }) :
    wpAny (model prog w) A (call (.type "set") [x]) Q E s := by
  obtain ⟨c, tl, hmro⟩ := F.called_set.mro
  have hmade := F.called_set.made
  have hsub := F.called_set.sub
  refine wpAny_call (codeAny_of_tree ?_)
  show wpAny _ _ (callAny (.type "set") _) _ _ _
  refine wpAny_pure ⟨Code.quiet_builtin _ (by decide +kernel), codeAny_builtin F.entry_type_call ?_⟩
  rw [Around.under_plain (weight_type_call_type "set" [x] []) rfl]
  have h1 := F.called_set.notType
  have h2 := F.called_set.canCreate
  have hct := F.typeCall_set_1 x
  repeat (any_goals (first | assumption | wp_step))
  refine codeAny_mono (PySem.code_set_new_1 x (E := E) (Q₁ := fun obj s₁ => ∃ led : Bool, obj = .ref s.heap.objs.size ∧ s₁ = { s with heap := s.heap.push (noSet led) }) fun led => ⟨led, rfl, rfl⟩) fun r s₁ hr => ?_
  cases r with
  | error e => exact hr
  | ok fl =>
    cases fl with
    | ret obj =>
      obtain ⟨led, rfl, rfl⟩ := hr
      have hS : (s.heap.push (noSet led)).get? s.heap.objs.size = some (noSet led) := Heap.get?_push_size _ rfl
      have hT : Shared.TypeIs { s with heap := s.heap.push (noSet led) } (.ref s.heap.objs.size) "set" := ⟨_, hS, rfl⟩
      have hli := F.called_set.init.lookup
      have hbi := F.called_set.init.bind (.ref s.heap.objs.size)
      repeat (any_goals (first | assumption | wp_step))
      refine codeAny_mono (codeAny_call_builtin (R := wants (setDone prog w s val n) E) F.called_set.init.plain F.entry_set_init (PySem.check_set_init_1 hT ?_)) fun r₂ s₂ hr₂ => ?_
      · exact hin led
      · cases r₂ with
        | error e => exact hr₂
        | ok fl₂ =>
          cases fl₂ with
          | ret r =>
            obtain ⟨rfl, h', tk, rfl, hS', hk'⟩ := hr₂
            repeat (any_goals (first | assumption | wp_step))
            exact h _ _ hS' hk'
          | _ => exact hr₂.elim
    | _ => exact hr.elim
set_option maxHeartbeats 3200000 in
theorem init_list {l : Addr} {items : Array Value} {val : Nat → Str} (hh : A.handled = none) (hl : s.heap.IsList l items) (hv : ∀ (i : Nat) (v : Value), items[i]? = some v → ∃ t, v = .str (val i) t) (hb : items.size + 1 < scanBound) (led : Bool) : InitDone prog w A E s (.ref l) val items.size led := by
  unfold InitDone
  obtain ⟨ol, hol, hcl, nl, hdl⟩ := hl
  obtain ⟨ocls, odict, odata, oslots⟩ := ol
  simp only at hcl hdl
  subst hcl; subst hdl
  have hS : (s.heap.push (noSet led)).get? s.heap.objs.size = some (noSet led) := Heap.get?_push_size _ rfl
  have hol' : (s.heap.push (noSet led)).get? l = some { cls := .type "list", dict := odict, data := .seq items nl, slots := oslots } := Heap.get?_push_of_some _ hol
  have hsls := F.sub_list_set
  have hslf := F.sub_list_frozenset
  have hne : (Value.type "list" == Value.type "dict") = false := by decide
  have hl1 : (s.heap.push (noSet led)).IsList l items := ⟨_, hol', rfl, nl, rfl⟩
  unfold Builtin.«set.__init__» noKeywords Builtin.Frozenset.updateFrom
  generalize hPI : pyIter = PI
  wp_walk
  subst hPI
  refine wpAny_pyIter_list hl1 ?_
  refine wpAny_bind (wpAny_runValue ?_)
  have hlS : l < s.heap.objs.size := Heap.lt_size hol
  have hh3 : A.in1.in1.in1.handled = none := by simp [hh]
  have hsz : (s.heap.push (noSet led)).objs.size = s.heap.objs.size + 1 := Heap.size_push ..
  have hne2 : l ≠ (s.heap.push (noSet led)).objs.size := by rw [hsz]; exact Nat.ne_of_lt (Nat.lt_succ_of_lt hlS)
  have hSf : s.heap.objs.size ∉ [(s.heap.push (noSet led)).objs.size, l] := fun z => by
    rw [hsz] at z
    rcases List.mem_cons.mp z with y | y
    · exact absurd y (Nat.ne_of_lt (Nat.lt_succ_self _))
    · exact absurd (List.mem_singleton.mp y) (Nat.ne_of_gt hlS)
  refine set_loopT ((Walks.list hh3 _ l hne2 items).toS) s.heap.objs.size hSf val hv hb items.size 0 _ (by omega) (Nat.zero_le _) ⟨⟨_, Heap.get?_push_size _ rfl, rfl, rfl⟩, hl1.push _⟩ ?_ ?_
  · exact PyProof.Rows.SetOf_congr ((PyProof.Rows.setObjOf_fresh (knd := PySem.strKind prog w) led).setOf (Heap.get?_push_of_some _ hS) (by unfold scanBound; omega)) (fun _ => rfl) rfl
  · intro s' hm hS'
    obtain ⟨h', g', d', tk', os'⟩ := s'
    have eg : g' = s.gens := hm.gens
    have ed : d' = s.drawn := hm.drawn
    have eo : os' = s.os := hm.os
    subst eg; subst ed; subst eo
    refine wpAny_pure ?_
    refine wpAny_pure (a := Fin.done (Flow.ret Value.none)) ⟨rfl, h', tk', rfl, hS', fun b o hbl e => ?_⟩
    refine hm.heap b o (fun z => ?_) (Heap.get?_push_of_some _ (Heap.get?_push_of_some _ e))
    rcases List.mem_cons.mp z with y | y
    · exact absurd y (Nat.ne_of_lt hbl)
    · rcases List.mem_cons.mp y with y | y
      · rw [hsz] at y; exact absurd y (Nat.ne_of_lt (Nat.lt_succ_of_lt hbl))
      · cases y
end
end L2

end

section
namespace L2
open PySem PySem.Spec
section
variable {prog : Program} {w : World} {A : Around} {E : Value → Shared → Prop} {s : Shared}
def signsOf (x : Str) (i : Nat) : Str := ⟨#[x.cps.getD i 0]⟩
set_option maxHeartbeats 3200000 in
theorem init_text {x : Str} {t : Tok} (hh : A.handled = none) (hb : x.cps.size + 1 < scanBound) (led : Bool) : InitDone prog w A E s (.str x t) (signsOf x) x.cps.size led := by
  unfold InitDone
  have hS : (s.heap.push (noSet led)).get? s.heap.objs.size = some (noSet led) := Heap.get?_push_size _ rfl
  have hsls := F.sub_str_set
  have hslf := F.sub_str_frozenset
  have hne : (Value.type "str" == Value.type "dict") = false := by decide
  unfold Builtin.«set.__init__» noKeywords Builtin.Frozenset.updateFrom
  generalize hPI : pyIter = PI
  wp_walk
  subst hPI
  have hsz : (s.heap.push (noSet led)).objs.size = s.heap.objs.size + 1 := Heap.size_push ..
  refine wpAny_pyIter_str (s := { s with heap := s.heap.push (noSet led) }) fun o St W st0 => ?_
  refine wpAny_bind (wpAny_runValue ?_)
  have hh3 : A.in1.in1.in1.handled = none := by simp [hh]
  have hSf : s.heap.objs.size ∉ [(s.heap.push (noSet led)).objs.size] := fun z => by
    rw [hsz] at z
    exact absurd (List.mem_singleton.mp z) (Nat.ne_of_lt (Nat.lt_succ_self _))
  refine set_loopT ((W _ hh3).toS) s.heap.objs.size hSf (signsOf x) (fun i v hv => ?_) hb x.cps.size 0 _ (by omega) (Nat.zero_le _) st0 ?_ ?_
  · obtain ⟨c, u, hc, rfl⟩ := hv
    refine ⟨u, ?_⟩
    unfold signsOf
    rw [Array.getD_eq_getD_getElem?, hc]; rfl
  · exact PyProof.Rows.SetOf_congr ((PyProof.Rows.setObjOf_fresh (knd := PySem.strKind prog w) led).setOf (Heap.get?_push_of_some _ hS) (by unfold scanBound; omega)) (fun _ => rfl) rfl
  · intro s' hm hS'
    obtain ⟨h', g', d', tk', os'⟩ := s'
    have eg : g' = s.gens := hm.gens
    have ed : d' = s.drawn := hm.drawn
    have eo : os' = s.os := hm.os
    subst eg; subst ed; subst eo
    refine wpAny_pure ?_
    refine wpAny_pure (a := Fin.done (Flow.ret Value.none)) ⟨rfl, h', tk', rfl, hS', fun b o' hbl e => ?_⟩
    refine hm.heap b o' (fun z => ?_) (Heap.get?_push_of_some _ (Heap.get?_push_of_some _ e))
    rcases List.mem_cons.mp z with y | y
    · exact absurd y (Nat.ne_of_lt hbl)
    · have y := List.mem_singleton.mp y
      rw [hsz] at y; exact absurd y (Nat.ne_of_lt (Nat.lt_succ_of_lt hbl))
theorem len_TxtSet {S : Addr} {val : Nat → Str} {i : Nat} {Q : Value → Shared → Prop} (hT : TxtSet prog w s.heap S val i) (h : Q (.int ((metT val i).length : Nat) (s.toks + 1)) { s with toks := s.toks + 1 + 1 }) : wpAny (model prog w) A (call (.builtin "len") [.ref S]) Q E s := by
  obtain ⟨o, es, ep, t, ho, hex, hd, _, _, hb, hf, hn⟩ := hT
  refine call_len_set ho hex hd hf (by unfold scanBound at hb; omega) ?_
  rw [hn]; exact h
end
section
variable {X : Cx} {pos p p2 pos2 : Pos} {e : Expr} {te : TE}
def TextsOf (K : PySem.W.Frag) (H : Hp) (x : V) (val : Nat → Str) (n : Nat) : Prop := (∃ a, x = .ref a ∧ SqL K H a ((List.range n).map fun i => V.str (val i))) ∨ (∃ z, x = .str z ∧ n = z.cps.size ∧ val = signsOf z)
def tLenSet (K : PySem.W.Frag) (te : TE) : TE := fun σ H Q => te σ H fun x H1 => ∃ val n, TextsOf K H1 x val n ∧ n + 1 < scanBound ∧ Q (.int ((metT val n).length : Nat)) H1
theorem pe_lenset (hcm : X.calm = true) (hgl : Gl X "len") (hml : X.mg "len" = none) (hgs : Gl X "set") (hms : X.mg "set" = none) (he : PE X e te)
    (hs1 : starEach [.Call (.Name "set" p2) [e] [] pos2] X.env = [(false, eval (.Call (.Name "set" p2) [e] [] pos2) X.env)] := by rfl) (hs2 : starEach [e] X.env = [(false, eval e X.env)] := by rfl) :
    PE X (.Call (.Name "len" p) [.Call (.Name "set" p2) [e] [] pos2] [] pos) (tLenSet X.K te) := by
  intro pins s σ H Q I h
  refine wpAny_Call_Name_kw (ld_blt I hgl hml bo_len ?_ (by decide) (by decide))
  refine PyProof.Rows.callWith_builtin1 ?_ (hs1.trans rfl) rfl
  rw [hs1]
  show wpAny _ _ (spliced ((false, eval (.Call (.Name "set" p2) [e] [] pos2) X.env) :: [])) _ _ s
  refine Calls.spliced_cons (wpAny_Call_Name_kw (ld_blt I hgs hms (by decide +kernel : bootBuiltins "set" = some (.type "set")) ?_ (by decide) (by decide)))
  refine PyProof.Rows.callWith_type1 ?_ (hs2.trans rfl) rfl
  rw [hs2]
  show wpAny _ _ (spliced ((false, eval e X.env) :: [])) _ _ s
  refine Calls.spliced_cons (thn (he pins s σ H _ I h) fun u s1 ⟨x, H1, I1, r1, val, n, hx, hb, q⟩ => Calls.spliced_nil ?_)
  have fin : ∀ (h' : Heap) (tk : Nat), TxtSet X.prog X.w h' s1.heap.objs.size val n → (∀ b o, b < s1.heap.objs.size → s1.heap.get? b = some o → h'.get? b = some o) → wpAny (model X.prog X.w) X.A (spliced []) (fun vs s₁ => wpAny (model X.prog X.w) X.A (call (.builtin "len") (.ref s1.heap.objs.size :: vs)) (EP X pins σ Q) X.xe s₁) X.xe { s1 with heap := h', toks := tk } := fun h' tk hT hk => by
    refine Calls.spliced_nil (len_TxtSet (s := { s1 with heap := h', toks := tk }) hT ?_)
    exact ⟨.int _, H1, I1.kept (h' := h') (t' := tk + 1 + 1) fun b o eb => hk b o (Heap.lt_size eb) eb, ⟨_, rfl⟩, q⟩
  rcases hx with ⟨a, rfl, hq⟩ | ⟨z, rfl, rfl, rfl⟩
  · obtain rfl : u = Value.ref a := r1
    obtain ⟨its, rv, pl, hz⟩ := I1.list hq
    have hlen := rv.length
    rw [List.length_map, List.length_range] at hlen
    have hsz : its.toArray.size = n := by rw [List.size_toArray]; omega
    refine call_set_by (fun led => ?_) fin
    have hi := init_list (prog := X.prog) (w := X.w) (E := X.xe) (val := val) (I1.ok.hd hcm) pl.isList (fun i v hv => ?_) (by rw [hsz]; exact hb) led
    · rw [hsz] at hi; exact hi
    · have hv' : its[i]? = some v := by simpa using hv
      have hil : i < n := by rw [hlen]; exact (List.getElem?_eq_some_iff.mp hv').1
      obtain ⟨u, hu, ru⟩ := rv.get (i := i) (x := .str (val i)) (by rw [List.getElem?_map, List.getElem?_range hil]; rfl)
      rw [hv'] at hu; cases hu
      exact ru
  · obtain ⟨t, rfl⟩ := r1
    exact call_set_by (fun led => init_text (I1.ok.hd hcm) hb led) fin
end
end L2

end

section
namespace L2
open PySem PySem.W PySem.Spec PyProof.Rows
section
variable {X : Cx} {CX : CXT} {k k1 k2 k' : Nat} {f C : Addr} {fd : FuncData} {x : Str} {ps : List Str} {sp sp1 sp2 : Sp} {e : Expr} {es : List Expr} {t : TA} {p pos : Pos} {E : St → XK}
end
theorem comp_strF {x : Str} {g : TG} {tc : TT} {te : TE} {Q : VK} {H : Hp} {D : Addr} {σ0 : St} (keep : Nat → Bool) (f : Nat → V) (S : St → Prop) (hz : x.cps.size ≤ sizeLine) (h0 : S σ0) (hD : H D = none)
    (ht : ∀ c, c ∈ x.cps.toList → ∀ σ1 H1, S σ1 → Same H H1 → ∀ (R : St → V → Hp → Prop) (R' : St → Hp → Prop), (∀ σ2, S σ2 → if keep c = true then R σ2 (f c) H1 else R' σ2 H1) → g (.str ⟨#[c]⟩) σ1 H1 fun σ2 H2 => tc σ2 H2 fun b H3 => if b = true then te σ2 H3 fun y H4 => R σ2 y H4 else R' σ2 H3)
    (hq : Q (.ref D) (upd H D (.lst ((x.cps.toList.filter keep).map f)))) :
    CompGo (Its x) g tc te Q σ0 H D := by
  have hn : x.cps.toList.length = x.cps.size := Array.length_toList
  refine ⟨fun i m σ1 H2 => i ≤ x.cps.size ∧ m = x.cps.size - i ∧ S σ1 ∧ H2 = upd H D (.lst (((x.cps.toList.take i).filter keep).map f)), ⟨x.cps.size, Nat.zero_le _, rfl, h0, rfl⟩, ?_⟩
  rintro i m σ1 H2 ⟨h1, rfl, h2, rfl⟩
  rcases Nat.lt_or_ge i x.cps.size with z | z
  · refine .inr ⟨z, ?_⟩
    rintro y H3 ⟨rfl, c, hc, rfl⟩
    have hc' : x.cps.toList[i]? = some c := by rw [Array.getElem?_toList]; exact hc
    refine ht c (List.mem_of_getElem? hc') σ1 _ h2 (same_new hD) (fun σ2 y H6 => ∃ ys m', H6 D = some (.lst ys) ∧ ys.length < sizeLine ∧ m' < x.cps.size - i ∧ (i + 1 ≤ x.cps.size ∧ m' = x.cps.size - (i + 1) ∧ S σ2 ∧ upd H6 D (.lst (ys ++ [y])) = upd H D (.lst (((x.cps.toList.take (i + 1)).filter keep).map f))))
      (fun σ2 H5 => ∃ m', m' < x.cps.size - i ∧ (i + 1 ≤ x.cps.size ∧ m' = x.cps.size - (i + 1) ∧ S σ2 ∧ H5 = upd H D (.lst (((x.cps.toList.take (i + 1)).filter keep).map f)))) fun σ2 q3 => ?_
    have et : x.cps.toList.take (i + 1) = x.cps.toList.take i ++ [c] := by rw [List.take_add_one, hc']; rfl
    by_cases hk : keep c = true
    · rw [if_pos hk]
      refine ⟨_, x.cps.size - (i + 1), upd_same, ?_, by omega, by omega, rfl, q3, ?_⟩
      · rw [List.length_map]
        have := List.length_filter_le keep (x.cps.toList.take i)
        rw [List.length_take] at this; omega
      · rw [upd_upd', et, List.filter_append, List.map_append, List.filter_cons_of_pos hk]; rfl
    · rw [if_neg hk]
      refine ⟨x.cps.size - (i + 1), by omega, by omega, rfl, q3, ?_⟩
      rw [et, List.filter_append, List.map_append, List.filter_cons_of_neg hk]; simp
  · have e : i = x.cps.size := by omega
    subst e
    rw [List.take_of_length_le (by omega)]
    exact .inl ⟨Nat.le_refl _, hq⟩
theorem comp_str {x : Str} {g : TG} {te : TE} {Q : VK} {H : Hp} {D : Addr} {σ0 : St} (f : Nat → V) (S : St → Prop) (hz : x.cps.size ≤ sizeLine) (h0 : S σ0) (hD : H D = none)
    (ht : ∀ c, c ∈ x.cps.toList → ∀ σ1 H1, S σ1 → Same H H1 → ∀ R : St → V → Hp → Prop, (∀ σ2, S σ2 → R σ2 (f c) H1) → g (.str ⟨#[c]⟩) σ1 H1 fun σ2 H2 => te σ2 H2 fun y H4 => R σ2 y H4)
    (hq : Q (.ref D) (upd H D (.lst (x.cps.toList.map f)))) :
    CompGo (Its x) g tYes te Q σ0 H D := by
  refine comp_strF (fun _ => true) f S hz h0 hD (fun c hc σ1 H1 hS hs R R' hR => ?_) (by rw [List.filter_eq_self.mpr fun _ _ => rfl]; exact hq)
  exact ht c hc σ1 H1 hS hs R fun σ2 h2 => by have := hR σ2 h2; rwa [if_pos rfl] at this
structure Ext (H H' : Hp) : Prop where
  s : Same H H'
  c : Closed H → Closed H'
theorem Ext.refl (H : Hp) : Ext H H := ⟨Same.refl _, id⟩
theorem Ext.trans {A B C : Hp} (a : Ext A B) (b : Ext B C) : Ext A C := ⟨a.s.trans b.s, fun z => b.c (a.c z)⟩
theorem Ext.new {H : Hp} {p : Addr} {o : HO} (h : H p = none) (ho : OwnIn (upd H p o) p o) : Ext H (upd H p o) := ⟨same_new h, fun c => closed_new c h ho⟩
theorem Ext.lst {H : Hp} {p : Addr} {xs : List V} (h : H p = none) : Ext H (upd H p (.lst xs)) := .new h trivial
theorem Ext.tup {H : Hp} {p : Addr} {xs : List V} (h : H p = none) : Ext H (upd H p (.tup xs)) := .new h trivial
theorem Ext.exc {H : Hp} {p C : Addr} {d : Option Addr} (h : H p = none) : Ext H (upd H p (ExcO p C d)) := .new h trivial
theorem Ext.made {H : Hp} {x dx C : Addr} {fs : List (Str × V)} (h1 : H x = none) (h2 : H dx = none) (h3 : dx ≠ x) : Ext H (upd (upd H dx (.own x)) x (.ins C dx fs)) := by
  have hx : upd H dx (.own x) x = none := by rw [upd_ne (Ne.symm h3)]; exact h1
  refine ⟨(same_new h2).trans (same_new hx), fun c => closed_new (closed_new c h2 trivial) hx ?_⟩
  show upd (upd H dx (.own x)) x (.ins C dx fs) dx = some (.own x)
  rw [upd_ne h3]; exact upd_same
theorem Ext.sub {H H' : Hp} (e : Ext H H') : Sub H H' H' := .all (fun b o h => ⟨o, e.s b o h⟩) e.c
theorem app_cps (x y : Str) : (x ++ y).cps.toList = x.cps.toList ++ y.cps.toList := Array.toList_append
structure Tx (n : Nat) (S : List Nat) (x : Str) : Prop where
  n : x.length ≤ n
  s : ∀ c, c ∈ x.cps.toList → c ∈ S
def dsN (ns : List Str) : Nat := (metT (fun i => ns.getD i Str.empty) ns.length).length
def dsT (s : Str) : Nat := (metT (signsOf s) s.cps.size).length
theorem dsN_le (ns : List Str) : dsN ns ≤ ns.length := metT_le ..
theorem dsT_le (s : Str) : dsT s ≤ s.length := metT_le ..
theorem names_range (ns : List Str) : ((List.range ns.length).map fun i => V.str (ns.getD i Str.empty)) = ns.map V.str := by
  apply List.ext_getElem
  · rw [List.length_map, List.length_range, List.length_map]
  · intro i h1 h2
    rw [List.length_map] at h2
    rw [List.getElem_map, List.getElem_map, List.getElem_range, List.getD_eq_getElem?_getD, List.getElem?_eq_getElem h2]; rfl
theorem texts_names {K : PySem.W.Frag} {H : Hp} {a : Addr} {ns : List Str} (h : SqL K H a (ns.map V.str)) : TextsOf K H (.ref a) (fun i => ns.getD i Str.empty) ns.length := .inl ⟨a, rfl, by rw [names_range]; exact h⟩
theorem texts_text {K : PySem.W.Frag} {H : Hp} (s : Str) : TextsOf K H (.str s) (signsOf s) s.cps.size := .inr ⟨s, rfl, rfl, rfl⟩
def L26 : Str := "abcdefghijklmnopqrstuvwxyz"
def L62 : Str := "abcdefghijklmnopqrstuvwxyzABCDEFGHIJKLMNOPQRSTUVWXYZ0123456789"
def madeOf (t s : Str) : Bool := t.cps.toList.all fun c => decide (c ∈ s.cps.toList)
def goodText (s : Str) : Bool := decide (s.length ≠ 0 ∧ s.length ≤ 60 ∧ dsT s = s.length) && madeOf s L62
def isName (n : Str) : Bool := decide (0 < n.length ∧ n.length ≤ 12) && madeOf n L26
def goodNames (ns : List Str) : Bool := decide (ns.length ≠ 0 ∧ ns.length ≤ 20 ∧ dsN ns = ns.length) && ns.all isName
theorem str_nil (s : Str) : s = Str.ofString "" ↔ s.length = 0 := by
  have e : Str.ofString "" = ⟨#[]⟩ := by decide +kernel
  rw [e]
  constructor
  · rintro rfl; rfl
  · intro h
    obtain ⟨c⟩ := s
    have : c = #[] := Array.eq_empty_of_size_eq_zero h
    rw [this]
theorem upd_swap {H : Hp} {a b : Addr} {x y : HO} (h : a ≠ b) : upd (upd H a x) b y = upd (upd H b y) a x := by
  funext c
  by_cases h1 : c = b
  · subst h1
    rw [upd_same, upd_ne (Ne.symm h), upd_same]
  · rw [upd_ne h1]
    by_cases h2 : c = a
    · subst h2
      rw [upd_same, upd_same]
    · rw [upd_ne h2, upd_ne h2, upd_ne h1]
theorem closed_lst {H : Hp} {D : Addr} {l l' : List V} (h : H D = some (.lst l)) (c : Closed H) : Closed (upd H D (.lst l')) := fun b u e => by
  by_cases z : b = D
  · subst z; rw [upd_same] at e; cases e; trivial
  · rw [upd_ne z] at e
    have ow := c b u e
    clear e
    induction u with
    | ins C dx fs =>
      have x' : H dx = some (.own b) := ow
      show upd H D (.lst l') dx = some (.own b)
      rw [upd_ne fun z => by rw [z, h] at x'; cases x']
      exact x'
    | frz ob u ih => exact ih ow
    | _ => trivial
theorem Ext.set {H H' : Hp} {D : Addr} {l l' : List V} (h0 : H D = none) (e : Ext H H') (h : H' D = some (.lst l)) : Ext H (upd H' D (.lst l')) :=
  ⟨fun b u q => by rw [upd_ne (ne_of_none q h0)]; exact e.s b u q, fun c => closed_lst h (e.c c)⟩
end L2

end

section
namespace L2
open PySem PySem.W PySem.Spec PyProof.Rows
theorem isName_len {n : Str} (h : isName n = true) : n.length ≤ 12 := by
  unfold isName at h
  simp only [Bool.and_eq_true, decide_eq_true_eq] at h
  exact h.1.2
theorem goodNames_mem {ns : List Str} (h : goodNames ns = true) : ns.length ≤ 20 ∧ ∀ n, n ∈ ns → n.length ≤ 12 := by
  unfold goodNames at h
  simp only [Bool.and_eq_true, decide_eq_true_eq, List.all_eq_true] at h
  exact ⟨h.1.2.1, fun n hn => isName_len (h.2 n hn)⟩
structure Grow (p : Addr) (H H' : Hp) : Prop where
  k : ∀ b u, b ≠ p → H b = some u → H' b = some u
  l : ∃ ns : List Int, H' p = some (.lst (ns.map V.int)) ∧ ns.length ≤ 90
  c : Closed H → Closed H'
end L2

end

section
namespace L2
open PySem PySem.W PySem.Spec PyProof.Rows
section
variable {X : Cx}
end
inductive Fm where
  | bare (k : Fin 4)
  | sp (a b : Int)
  | le (s : Str)
  | one (k : Fin 3) (f : Fm)
  | two (k : Fin 2) (ns : List Str) (fs : List Fm)
def cp (s : String) : List Nat := (Str.ofString s).cps.toList
def ow (k : Fin 3) : Str := [Str.ofString "maybe", Str.ofString "many", Str.ofString "turned"][k]
def tw (k : Fin 2) : Str := [Str.ofString "record", Str.ofString "choice"][k]
mutual
def ht : Fm → Nat
  | .bare _ => 1
  | .sp _ _ => 1
  | .le _ => 1
  | .one _ f => ht f + 1
  | .two _ _ fs => hts fs + 1
def hts : List Fm → Nat
  | [] => 0
  | f :: fs => max (ht f) (hts fs)
end
mutual
def okF : Fm → Prop
  | .bare _ => True
  | .sp a b => a ≤ b ∧ a.natAbs < 10 ^ 58 ∧ b.natAbs < 10 ^ 58
  | .le s => goodText s = true ∧ s.length ≤ 60
  | .one _ f => okF f
  | .two _ ns fs => goodNames ns = true ∧ ns.length = fs.length ∧ okFs fs
def okFs : List Fm → Prop
  | [] => True
  | f :: fs => okF f ∧ okFs fs
end
structure FC where
  b : Fin 4 → Addr
  s : Addr
  l : Addr
  o : Fin 3 → Addr
  t : Fin 2 → Addr
mutual
def FAt (c : FC) (X : List Addr) (H : Hp) : Fm → Addr → Prop
  | .bare k, o => o ∉ X ∧ ∃ dx, H o = some (.ins (c.b k) dx [])
  | .sp a b, o => o ∉ X ∧ ∃ dx, H o = some (.ins c.s dx [("low", .int a), ("high", .int b)])
  | .le s, o => o ∉ X ∧ ∃ dx, H o = some (.ins c.l dx [("signs", .str s)])
  | .one k f, o => o ∉ X ∧ ∃ dx i, H o = some (.ins (c.o k) dx [("inner", .ref i)]) ∧ FAt c X H f i
  | .two k ns fs, o => o ∉ X ∧ ∃ dx l1 l2 os, H o = some (.ins (c.t k) dx [("names", .ref l1), ("forms", .ref l2)]) ∧ l1 ∉ X ∧ l2 ∉ X ∧ H l1 = some (.lst (ns.map V.str)) ∧ H l2 = some (.lst (os.map V.ref)) ∧ FsAt c X H fs os
def FsAt (c : FC) (X : List Addr) (H : Hp) : List Fm → List Addr → Prop
  | [], os => os = []
  | f :: fs, os => ∃ o r, os = o :: r ∧ FAt c X H f o ∧ FsAt c X H fs r
end
def AnyM (P : Program) (w : World) (K : PySem.W.Frag) (mg : Str → Option Value) (base : Heap) (k : Nat) (m : Str) (ps : List Str) {ι : Type} (cl : ι → Addr) (sp : ι → Sp) : Prop := ∀ i, MethOk P w K mg base k (cl i) m ps (sp i) ∧ Cls K (cl i)
section
variable {X : Cx} {k k' : Nat} {m : Str} {ps : List Str} {ι : Type} {cl : ι → Addr} {sp : ι → Sp} {e o : Expr} {es : List Expr} {t : TA} {ta : TE} {pos apos : Pos}
theorem pe_methAny {pl : Sem Bool} (h : AnyM X.prog X.w X.K X.mg X.base k m ps cl sp) (hr : Room k' X.A) (he : PE X o ta) (ha : PA X (e :: es) t) (hk : k ≤ k' := by decide)
    (hst : starEach (e :: es) X.env = (false, eval e X.env) :: starEach es X.env := by rfl) (hpl : (backTo pos (starEach es X.env)).any (·.1) = false := by rfl)
    (ht : eval (.Call (.Attribute o m apos) (e :: es) [] pos) X.env = (do
      let ov ← eval o X.env
      standAt apos.atName
      let (f, first) ← holding [ov] (getMethod ov m pl)
      callWith pos f first (backTo pos (starEach (e :: es) X.env)) (backToKw pos (keywordEach [] X.env))) := by rfl) :
    PE X (.Call (.Attribute o m apos) (e :: es) [] pos) (fun σ H Q => ta σ H fun x H1 => ∃ a i dx fs, x = .ref a ∧ H1 a = some (.ins (cl i) dx fs) ∧ fs.lookup m = none ∧ t σ H1 fun vs H2 => sp i (x :: vs) H2 Q E0) := by
  intro pins s σ H Q I hq
  refine PySem.W.methodCall_KW (pl := pl) (thn (he pins s σ H _ I hq) fun u s1 ⟨x, H1, I1, rx, a, i, dx, fs, ex, ea, l, q⟩ => ?_) ht
  subst ex
  obtain rfl : u = Value.ref a := rx
  obtain ⟨⟨f, fd, F, hb, hm⟩, c⟩ := h i
  refine getmeth_ok I1 ea c hm l ?_
  refine PySem.W.callWith_K (first := [.ref a]) (h₀ := X.base) I.ok.mod.kin hm.kp (thn (ha pos pins s1 σ H1 _ I1 q) fun us s2 ⟨vs, H2, I2, r, q2⟩ => ⟨I2.kIn, ?_⟩) hst hpl
  exact run_fn (us := .ref a :: us) (vs := .ref a :: vs) (dvs := []) (ds := []) F (hr.mono hk) hb .nil pass0 I2 (.cons rfl r) (by rw [List.append_nil]; exact q2)
end
structure Mv (cu : Addr) (H H' : Hp) : Prop where
  k : ∀ b u, b ≠ cu → H b = some u → H' b = some u
  c : Closed H → Closed H'
theorem Mv.refl (cu : Addr) (H : Hp) : Mv cu H H := ⟨fun _ _ _ e => e, id⟩
theorem Mv.trans {cu : Addr} {A B C : Hp} (a : Mv cu A B) (b : Mv cu B C) : Mv cu A C := ⟨fun x u n e => b.k x u n (a.k x u n e), fun c => b.c (a.c c)⟩
theorem Mv.ext {cu : Addr} {A B C : Hp} (a : Mv cu A B) (b : Ext B C) : Mv cu A C := ⟨fun x u n e => b.s x u (a.k x u n e), fun c => b.c (a.c c)⟩
theorem Mv.move {cu C dx : Addr} {H : Hp} {fs fs' : List (Str × V)} (h : H cu = some (.ins C dx fs)) : Mv cu H (upd H cu (.ins C dx fs')) :=
  ⟨fun b u nb e => by rw [upd_ne nb]; exact e, (Sub.ins (H' := upd H cu (.ins C dx fs')) h (fun b u nb e => by rw [upd_ne nb]; exact e) upd_same).cl⟩
theorem Mv.sub {cu : Addr} {H H' : Hp} {o : HO} (h : Mv cu H H') (e : H' cu = some o) : Sub H H' H' := .all (fun b u q => by
  by_cases z : b = cu
  · subst z; exact ⟨_, e⟩
  · exact ⟨u, h.k b u z q⟩) h.c
mutual
theorem FAt.keep {c : FC} {X : List Addr} {H H' : Hp} (k : ∀ b u, b ∉ X → H b = some u → H' b = some u) : ∀ (f : Fm) {o : Addr}, FAt c X H f o → FAt c X H' f o
  | .bare i, o, h => by
    obtain ⟨n, dx, e⟩ := h
    exact ⟨n, dx, k _ _ n e⟩
  | .sp a b, o, h => by
    obtain ⟨n, dx, e⟩ := h
    exact ⟨n, dx, k _ _ n e⟩
  | .le s, o, h => by
    obtain ⟨n, dx, e⟩ := h
    exact ⟨n, dx, k _ _ n e⟩
  | .one i f, o, h => by
    obtain ⟨n, dx, j, e, q⟩ := h
    exact ⟨n, dx, j, k _ _ n e, FAt.keep k f q⟩
  | .two i ns fs, o, h => by
    obtain ⟨n, dx, l1, l2, os, e, n1, n2, e1, e2, q⟩ := h
    exact ⟨n, dx, l1, l2, os, k _ _ n e, n1, n2, k _ _ n1 e1, k _ _ n2 e2, FsAt.keep k fs q⟩
theorem FsAt.keep {c : FC} {X : List Addr} {H H' : Hp} (k : ∀ b u, b ∉ X → H b = some u → H' b = some u) : ∀ (fs : List Fm) {os : List Addr}, FsAt c X H fs os → FsAt c X H' fs os
  | [], os, h => h
  | f :: fs, os, h => by
    obtain ⟨o, r, e, q, q2⟩ := h
    exact ⟨o, r, e, FAt.keep k f q, FsAt.keep k fs q2⟩
end
theorem FsAt.len {c : FC} {X : List Addr} {H : Hp} : ∀ (fs : List Fm) {os : List Addr}, FsAt c X H fs os → os.length = fs.length
  | [], os, h => by
    obtain rfl : os = [] := h
    rfl
  | g :: fs, os, h => by
    obtain ⟨o', r, rfl, q, q2⟩ := h
    rw [List.length_cons, FsAt.len fs q2]; rfl
theorem ht_pos : ∀ f : Fm, 1 ≤ ht f
  | .bare _ => by rw [ht]; exact Nat.le_refl _
  | .sp _ _ => by rw [ht]; exact Nat.le_refl _
  | .le _ => by rw [ht]; exact Nat.le_refl _
  | .one _ f => by rw [ht]; omega
  | .two _ _ fs => by rw [ht]; omega
mutual
theorem FAt.add {c : FC} {X : List Addr} {H : Hp} {l : Addr} (hl : H l = none) : ∀ (f : Fm) {o : Addr}, FAt c X H f o → FAt c (l :: X) H f o
  | .bare i, o, h => by
    obtain ⟨n, dx, e⟩ := h
    exact ⟨fun z => (List.mem_cons.mp z).elim (fun y => by rw [y, hl] at e; cases e) n, dx, e⟩
  | .sp a b, o, h => by
    obtain ⟨n, dx, e⟩ := h
    exact ⟨fun z => (List.mem_cons.mp z).elim (fun y => by rw [y, hl] at e; cases e) n, dx, e⟩
  | .le s, o, h => by
    obtain ⟨n, dx, e⟩ := h
    exact ⟨fun z => (List.mem_cons.mp z).elim (fun y => by rw [y, hl] at e; cases e) n, dx, e⟩
  | .one i f, o, h => by
    obtain ⟨n, dx, j, e, q⟩ := h
    exact ⟨fun z => (List.mem_cons.mp z).elim (fun y => by rw [y, hl] at e; cases e) n, dx, j, e, FAt.add hl f q⟩
  | .two i ns fs, o, h => by
    obtain ⟨n, dx, l1, l2, os, e, n1, n2, e1, e2, q⟩ := h
    exact ⟨fun z => (List.mem_cons.mp z).elim (fun y => by rw [y, hl] at e; cases e) n, dx, l1, l2, os, e, fun z => (List.mem_cons.mp z).elim (fun y => by rw [y, hl] at e1; cases e1) n1, fun z => (List.mem_cons.mp z).elim (fun y => by rw [y, hl] at e2; cases e2) n2, e1, e2, FsAt.add hl fs q⟩
theorem FsAt.add {c : FC} {X : List Addr} {H : Hp} {l : Addr} (hl : H l = none) : ∀ (fs : List Fm) {os : List Addr}, FsAt c X H fs os → FsAt c (l :: X) H fs os
  | [], os, h => h
  | f :: fs, os, h => by
    obtain ⟨o, r, e, q, q2⟩ := h
    exact ⟨o, r, e, FAt.add hl f q, FsAt.add hl fs q2⟩
end
inductive Sl where
  | b (k : Fin 4) | s | l | o (k : Fin 3) | t (k : Fin 2)
def clS (c : FC) : Sl → Addr
  | .b k => c.b k
  | .s => c.s
  | .l => c.l
  | .o k => c.o k
  | .t k => c.t k
def slot : Fm → Sl
  | .bare k => .b k
  | .sp _ _ => .s
  | .le _ => .l
  | .one k _ => .o k
  | .two k _ _ => .t k
theorem FAt.ins {c : FC} {X : List Addr} {H : Hp} {m : Str} (h1 : (m == ("low" : Str)) = false) (h2 : (m == ("high" : Str)) = false) (h3 : (m == ("signs" : Str)) = false) (h4 : (m == ("inner" : Str)) = false) (h5 : (m == ("names" : Str)) = false) (h6 : (m == ("forms" : Str)) = false) :
    ∀ (f : Fm) {o : Addr}, FAt c X H f o → ∃ dx fs, H o = some (.ins (clS c (slot f)) dx fs) ∧ fs.lookup m = none
  | .bare i, o, h => by
    obtain ⟨n, dx, e⟩ := h
    exact ⟨dx, _, e, rfl⟩
  | .sp a b, o, h => by
    obtain ⟨n, dx, e⟩ := h
    exact ⟨dx, _, e, by simp [List.lookup, h1, h2]⟩
  | .le s, o, h => by
    obtain ⟨n, dx, e⟩ := h
    exact ⟨dx, _, e, by simp [List.lookup, h3]⟩
  | .one i f, o, h => by
    obtain ⟨n, dx, j, e, q⟩ := h
    exact ⟨dx, _, e, by simp [List.lookup, h4]⟩
  | .two i ns fs, o, h => by
    obtain ⟨n, dx, l1, l2, os, e, _⟩ := h
    exact ⟨dx, _, e, by simp [List.lookup, h5, h6]⟩
end L2

end

section
namespace L2
open PySem PySem.W PySem.Spec PyProof.Rows
inductive D where
  | non
  | bl (b : Bool)
  | int (i : Int)
  | str (s : Str)
  | tup (ds : List D)
  | lst (ds : List D)
mutual
def DAt (H : Hp) : D → V → Prop
  | .non, v => v = .non
  | .bl b, v => v = .bl b
  | .int i, v => v = .int i
  | .str s, v => v = .str s ∧ s.length ≤ 100000
  | .tup ds, v => ∃ a vs, v = .ref a ∧ H a = some (.tup vs) ∧ DsAt H ds vs ∧ vs.length ≤ 1000
  | .lst ds, v => ∃ a vs, v = .ref a ∧ H a = some (.lst vs) ∧ DsAt H ds vs ∧ vs.length ≤ 1000
def DsAt (H : Hp) : List D → List V → Prop
  | [], vs => vs = []
  | d :: ds, vs => ∃ v r, vs = v :: r ∧ DAt H d v ∧ DsAt H ds r
end
mutual
theorem DAt.same {H H' : Hp} (s : Same H H') : ∀ (d : D) {v : V}, DAt H d v → DAt H' d v
  | .non, v, h => h
  | .bl b, v, h => h
  | .int i, v, h => h
  | .str t, v, h => h
  | .tup ds, v, h => by
    obtain ⟨a, vs, e, eT, q, z⟩ := h
    exact ⟨a, vs, e, s _ _ eT, DsAt.same s ds q, z⟩
  | .lst ds, v, h => by
    obtain ⟨a, vs, e, eT, q, z⟩ := h
    exact ⟨a, vs, e, s _ _ eT, DsAt.same s ds q, z⟩
theorem DsAt.same {H H' : Hp} (s : Same H H') : ∀ (ds : List D) {vs : List V}, DsAt H ds vs → DsAt H' ds vs
  | [], vs, h => h
  | d :: ds, vs, h => by
    obtain ⟨v, r, e, q, q2⟩ := h
    exact ⟨v, r, e, DAt.same s d q, DsAt.same s ds q2⟩
end
theorem DsAt.len {H : Hp} : ∀ (ds : List D) {vs : List V}, DsAt H ds vs → vs.length = ds.length
  | [], vs, h => by
    obtain rfl : vs = [] := h
    rfl
  | g :: fs, vs, h => by
    obtain ⟨o', r, rfl, q, q2⟩ := h
    rw [List.length_cons, DsAt.len fs q2]; rfl
theorem DsAt.get {H : Hp} : ∀ (ds : List D) {vs : List V} {i : Nat} {v : V}, DsAt H ds vs → vs[i]? = some v → ∃ d, ds[i]? = some d ∧ DAt H d v
  | [], vs, i, v, h, e => by
    obtain rfl : vs = [] := h
    cases e
  | d :: ds, vs, 0, v, h, e => by
    obtain ⟨o', r, rfl, q, q2⟩ := h
    cases e
    exact ⟨d, rfl, q⟩
  | d :: ds, vs, i + 1, v, h, e => by
    obtain ⟨o', r, rfl, q, q2⟩ := h
    exact DsAt.get ds q2 e
def tyD : D → String
  | .non => "NoneType"
  | .bl _ => "bool"
  | .int _ => "int"
  | .str _ => "str"
  | .tup _ => "tuple"
  | .lst _ => "list"
theorem DAt.ty {K : PySem.W.Frag} {H : Hp} {d : D} {v : V} (h : DAt H d v) : TyOf K H v (.type (tyD d)) := by
  cases d with
  | non => obtain rfl : v = .non := h; exact .non
  | bl b => obtain rfl : v = .bl b := h; exact .bl b
  | int i => obtain rfl : v = .int i := h; exact .int i
  | str s => obtain ⟨rfl, _⟩ := h; exact .str s
  | tup ds => obtain ⟨a, vs, rfl, e, _⟩ := h; exact .tup e
  | lst ds => obtain ⟨a, vs, rfl, e, _⟩ := h; exact .lst e
def isK (d : D) (T : String) : Bool := tyD d == T || (tyD d == "bool" && T == "int")
theorem kit_tab (K : PySem.W.Frag) : ∀ a ∈ ["NoneType", "bool", "int", "str", "tuple", "list"], ∀ T ∈ ["int", "bool", "str", "tuple", "list"], PySem.W.kitOne K (.type a) (.type T) = some (a == T || (a == "bool" && T == "int")) := by
  intro a ha T hT
  have ha' : a = "NoneType" ∨ a = "bool" ∨ a = "int" ∨ a = "str" ∨ a = "tuple" ∨ a = "list" := by simpa using ha
  have hT' : T = "int" ∨ T = "bool" ∨ T = "str" ∨ T = "tuple" ∨ T = "list" := by simpa using hT
  rcases ha' with rfl | rfl | rfl | rfl | rfl | rfl <;> rcases hT' with rfl | rfl | rfl | rfl | rfl <;>
    first
    | exact kit_same ..
    | (unfold PySem.W.kitOne; rw [if_neg (by decide)]; unfold PySem.W.kitCls; kernel_rfl)
theorem kitD (K : PySem.W.Frag) (d : D) {T : String} (hT : T ∈ ["int", "bool", "str", "tuple", "list"]) : PySem.W.kitOne K (.type (tyD d)) (.type T) = some (isK d T) := by
  refine kit_tab K _ ?_ T hT
  cases d <;> simp [tyD]
section
variable {X : Cx}
def plainV : V → Bool
  | .non => true
  | .bl _ => true
  | .int _ => true
  | .str _ => true
  | .ref _ => true
  | _ => false
theorem op_isB : OpR X (compareOp .Is) (fun x y H Q => ∃ b, y = .bl b ∧ plainV x = true ∧ Q (.bl (decide (x = .bl b))) H) := by
  intro pins s σ H x y v u Q I rx ry h
  obtain ⟨b, rfl, hx, q⟩ := h
  cases ry
  cases x with
  | non => cases rx; exact wpAny_pure (fin_bl I q (by cases b <;> rfl))
  | bl c => cases rx; cases b <;> cases c <;> exact wpAny_pure (fin_bl I q rfl)
  | int i => obtain ⟨t, rfl⟩ := rx; exact wpAny_pure (fin_bl I q (by cases b <;> rfl))
  | str i => obtain ⟨t, rfl⟩ := rx; exact wpAny_pure (fin_bl I q (by cases b <;> rfl))
  | ref a => cases rx; exact wpAny_pure (fin_bl I q (by cases b <;> rfl))
  | _ => cases hx
end
theorem DAt.plain {H : Hp} {d : D} {v : V} (h : DAt H d v) : plainV v = true := by
  cases d with
  | non => obtain rfl : v = .non := h; rfl
  | bl b => obtain rfl : v = .bl b := h; rfl
  | int i => obtain rfl : v = .int i := h; rfl
  | str s => obtain ⟨rfl, _⟩ := h; rfl
  | tup ds => obtain ⟨a, vs, rfl, e, _⟩ := h; rfl
  | lst ds => obtain ⟨a, vs, rfl, e, _⟩ := h; rfl
end L2

end

section
namespace L2
open PySem PySem.W PySem.Spec PyProof.Rows
section
variable {prog : Program} {w : World} {A : Around} {E : Value → Shared → Prop} {s : Shared}
theorem tupNext_item {it t : Addr} {i : Nat} {items : Array Value} {x : Value} {Q : Value → Shared → Prop} (hit : s.heap.IsTupleIter it t i) (ht : s.heap.IsTuple t items) (hx : items[i]? = some x) (hQ : ∀ h', h'.IsTupleIter it t (i + 1) → Heap.SameBut it s.heap h' → Q x { s with heap := h' }) :
    wpAny (model prog w) A (Builtin.SmallTypes.nextOf (.ref it)) Q E s := by
  have ty := hit.typeIs
  have hit' := hit
  obtain ⟨o, ho, hc, hd⟩ := hit
  obtain ⟨ot, hot, _, nt, hdt⟩ := ht
  unfold Builtin.SmallTypes.nextOf
  refine wpAny_bind (wpAny_callSpecial?_slot (name := Str.ofString "__next__") ty F.slot_tuple_iterator_next (wpAny_call_entry F.slot_tuple_iterator_next ty F.entry_tuple_iterator_next ?_ (F.args_tuple_iterator_next_1 _)))
  show wpAny _ _ (field (.ref it) 0 >>= _) _ _ s
  refine wpAny_bind (wpAny_field ho hd (x := .ref t) rfl ?_)
  have nn : ¬ ((Value.ref t == Value.none) = true) := Bool.false_ne_true
  show wpAny _ _ (if (Value.ref t == Value.none) = true then _ else _) _ _ s
  rw [if_neg nn]
  show wpAny _ _ (field (.ref it) 1 >>= _) _ _ s
  refine wpAny_bind (wpAny_field ho hd (x := .int i 0) rfl ?_)
  show wpAny _ _ (seqItems? (.ref t) >>= _) _ _ s
  refine wpAny_bind (wpAny_seqItems hot hdt ?_)
  simp only [Int.toNat_natCast, hx]
  refine wpAny_bind (wpAny_setField ho hd (by simp) (wpAny_pure ⟨x, rfl, wpAny_pure (hQ _ ⟨_, Heap.get?_update_self _ ho (Obj.isFreed_of_fields (Obj.data_mapFields hd _)), (Obj.cls_mapFields ..).trans hc, ?_⟩ (Heap.SameBut.update ..))⟩))
  rw [Obj.data_mapFields hd]; simp [rawInt]
theorem tupNext_end {it t : Addr} {i : Nat} {items : Array Value} {Q : Value → Shared → Prop} (hh : A.handled = none) (hit : s.heap.IsTupleIter it t i) (ht : s.heap.IsTuple t items) (hx : items[i]? = none) (hE : ∀ h' e, Heap.ExtBut it s.heap h' → (∃ o, h'.get? e = some o ∧ o.cls = .type "StopIteration") → E (.ref e) { s with heap := h' }) :
    wpAny (model prog w) A (Builtin.SmallTypes.nextOf (.ref it)) Q E s := by
  have ty := hit.typeIs
  obtain ⟨o, ho, hc, hd⟩ := hit
  obtain ⟨ot, hot, _, nt, hdt⟩ := ht
  unfold Builtin.SmallTypes.nextOf
  refine wpAny_bind (wpAny_callSpecial?_slot (name := Str.ofString "__next__") ty F.slot_tuple_iterator_next (wpAny_call_entry F.slot_tuple_iterator_next ty F.entry_tuple_iterator_next ?_ (F.args_tuple_iterator_next_1 _)))
  show wpAny _ _ (field (.ref it) 0 >>= _) _ _ s
  refine wpAny_bind (wpAny_field ho hd (x := .ref t) rfl ?_)
  have nn : ¬ ((Value.ref t == Value.none) = true) := Bool.false_ne_true
  show wpAny _ _ (if (Value.ref t == Value.none) = true then _ else _) _ _ s
  rw [if_neg nn]
  show wpAny _ _ (field (.ref it) 1 >>= _) _ _ s
  refine wpAny_bind (wpAny_field ho hd (x := .int i 0) rfl ?_)
  show wpAny _ _ (seqItems? (.ref t) >>= _) _ _ s
  refine wpAny_bind (wpAny_seqItems hot hdt ?_)
  simp only [Int.toNat_natCast, hx]
  refine wpAny_bind (wpAny_rule (wpAny_bind (wpAny_setField ho hd (by simp) ?_)))
  show wpAny _ _ (newExc (.type "StopIteration") [] >>= _) _ _ _
  refine wpAny_bind ?_
  simp only [newExc, newTuple]
  refine wpAny_bind (wpAny_newObj_type ?_ (by size_fits))
  refine wpAny_bind (m := firstArgMember _ _) (wpAny_of_eq (a := Value.none) (by first | rfl | (simp only [firstArgMember]; rfl)) ?_)
  refine wpAny_newObj_type ?_ (by size_fits)
  simp only [raiseNew]
  refine wpAny_bind (wpAny_handled ?_)
  first | rw [show A.in1.handled = none from hh] | rw [hh]
  exact wpAny_bind (wpAny_pure (wpAny_throw (hE _ _ (((Heap.SameBut.update ..).extBut.push _).push _) ⟨_, Heap.get?_push_size _ rfl, rfl⟩)))
end
theorem tupAt {h h' : Heap} {a : Addr} {items : Array Value} (x : h.IsTuple a items) (k : ∀ o, h.get? a = some o → h'.get? a = some o) : h'.IsTuple a items :=
  let ⟨o, ho, r⟩ := x; ⟨o, k o ho, r⟩
theorem tupIterAt {h h' : Heap} {a t : Addr} {i : Nat} (x : h.IsTupleIter a t i) (k : ∀ o, h.get? a = some o → h'.get? a = some o) : h'.IsTupleIter a t i :=
  let ⟨o, ho, r⟩ := x; ⟨o, k o ho, r⟩
theorem Draws.tup {prog : Program} {w : World} {A : Around} (hh : A.handled = none) (it t : Addr) (hne : t ≠ it) (items : Array Value) :
    Draws prog w A it [it, t] items.size (fun i v => items[i]? = some v) (fun i h => h.IsTupleIter it t i ∧ h.IsTuple t items) where
  live := fun _ _ st => let ⟨o, ho, _⟩ := st.1; ⟨o, ho⟩
  frame := fun _ _ _ st hk => ⟨tupIterAt st.1 fun o e => hk it (by simp) o e, tupAt st.2 fun o e => hk t (by simp) o e⟩
  item := fun i s Q E hi st hQ => tupNext_item st.1 st.2 (x := items[i]) (by simp [hi]) fun h' hit' hs' => hQ _ h' s.toks (by simp [hi]) ⟨hit', st.2.extBut hs'.extBut hne⟩ hs'
  done := fun s Q E st hE => tupNext_end hh st.1 st.2 (by simp) hE
structure ZAp (z TI TO i1 i2 : Addr) (fp1 fp2 : List Addr) : Prop where
  TIz : TI ≠ z
  TOz : TO ≠ z
  i1z : i1 ≠ z
  i2z : i2 ≠ z
  TITO : TI ≠ TO
  TIi1 : TI ≠ i1
  TIi2 : TI ≠ i2
  TOi1 : TO ≠ i1
  TOi2 : TO ≠ i2
  z1 : z ∉ fp1
  o1 : TO ∉ fp1
  j1 : i2 ∉ fp1
  z2 : z ∉ fp2
  o2 : TO ∉ fp2
  j2 : i1 ∉ fp2
section
variable {prog : Program} {w : World} {A : Around} {E : Value → Shared → Prop} {s : Shared}
variable {z TI TO i1 i2 : Addr} {fp1 fp2 : List Addr} {n1 n2 i : Nat} {P1 P2 : Nat → Value → Prop} {S1 S2 : Nat → Heap → Prop}
theorem Draws.but {A : Around} {it b : Addr} {fp : List Addr} {n i : Nat} {P : Nat → Value → Prop} {St : Nat → Heap → Prop} (D : Draws prog w A it fp n P St) {h h' : Heap} (x : Heap.ExtBut b h h') (hb : b ∉ fp) (st : St i h) : St i h' :=
  D.frame i h h' st fun c hc o e => x c o (fun z => hb (z ▸ hc)) e
theorem zn_item {a b : Value} {Q : Value → Shared → Prop} (D1 : Draws prog w A i1 fp1 n1 P1 S1) (D2 : Draws prog w A i2 fp2 n2 P2 S2) (Z : ZAp z TI TO i1 i2 fp1 fp2) (hz : IsZip s.heap z TI TO .none) (hTI : IsPair s.heap TI (.ref i1) (.ref i2)) (hTO : IsPair s.heap TO a b) (l1 : i < n1) (l2 : i < n2) (t1 : S1 i s.heap) (t2 : S2 i s.heap)
    (hQ : ∀ x y h' tk, P1 i x → P2 i y → IsZip h' z TI TO (rawInt s.heap.objs.size) → IsPair h' TO x y → S1 (i + 1) h' → S2 (i + 1) h' → IsPair h' s.heap.objs.size x y → (∀ c o, c ≠ z → c ≠ TO → c ≠ i1 → c ≠ i2 → s.heap.get? c = some o → h'.get? c = some o) → Q (.ref s.heap.objs.size) { s with heap := h', toks := tk }) :
    wpAny (model prog w) A (Builtin.«zip.__next__» ⟨[.ref z], []⟩) (fun fin s' => ∃ v, fin = .done (.ret v) ∧ Q v s') E s := by
  show wpAny _ _ (field (.ref z) 2 >>= _) _ _ _
  refine wpAny_bind (wpAny_field hz rfl (x := .bool false) rfl ?_)
  show wpAny _ _ (field (.ref z) 3 >>= _) _ _ _
  refine wpAny_bind (wpAny_field hz rfl (x := .ref TI) rfl (wpAny_bind (wpAny_seqItems hTI rfl ?_)))
  show wpAny _ _ (Builtin.SmallTypes.ownedTupleIsFree (.ref z) >>= _) _ _ _
  refine wpAny_bind ?_
  unfold Builtin.SmallTypes.ownedTupleIsFree
  refine wpAny_bind (wpAny_field hz rfl (x := .none) rfl (wpAny_pure ?_))
  simp only [if_true]
  refine wpAny_bind (wpAny_rule (wpAny_bind (wpAny_field hz rfl (x := .ref TO) rfl (wpAny_bind (wpAny_setField_rec hz (by simp) fun ha za xa => ?_)))))
  replace za : IsZip ha z TI TO .ellipsis := za
  refine wpAny_bind ?_
  simp only [List.zipIdx_cons, List.zipIdx_nil, List.forIn_cons, List.forIn_nil]
  refine wpAny_bind (wpAny_bind (wpAny_onRaise ?_))
  show wpAny _ _ (Builtin.SmallTypes.nextOf (.ref i1) >>= _) _ _ _
  refine wpAny_bind (D1.item i _ _ _ l1 (Draws.but D1 xa.extBut Z.z1 t1) fun x hb tk1 p1 tb xb => wpAny_pure ?_)
  have ob : IsPair hb TO a b := xb.extBut _ _ Z.TOi1 (xa.extBut _ _ Z.TOz hTO)
  refine wpAny_bind (wpAny_seqItems ob rfl (wpAny_bind (wpAny_updateSeq_pair ob fun hc oc xc => ?_)))
  replace oc : IsPair hc TO x b := oc
  refine wpAny_bind (wpAny_letGo (wpAny_pure ?_))
  refine wpAny_bind (wpAny_bind (wpAny_onRaise ?_))
  show wpAny _ _ (Builtin.SmallTypes.nextOf (.ref i2) >>= _) _ _ _
  refine wpAny_bind (D2.item i _ _ _ l2 (Draws.but D2 xc.extBut Z.o2 (Draws.but D2 xb.extBut Z.j2 (Draws.but D2 xa.extBut Z.z2 t2))) fun y hd tk2 p2 td xd => wpAny_pure ?_)
  have od : IsPair hd TO x b := xd.extBut _ _ Z.TOi2 oc
  refine wpAny_bind (wpAny_seqItems od rfl (wpAny_bind (wpAny_updateSeq_pair od fun he oe xe => ?_)))
  replace oe : IsPair he TO x y := oe
  refine wpAny_bind (wpAny_letGo (wpAny_pure (wpAny_pure ?_)))
  refine wpAny_bind (wpAny_seqItems oe rfl (wpAny_bind (wpAny_newTuple ?_)))
  have sz : he.objs.size = s.heap.objs.size := by rw [xe.1, xd.1, xc.1, xb.1, xa.1]
  have ze : IsZip he z TI TO .ellipsis := xe.extBut _ _ Z.TOz.symm (xd.extBut _ _ Z.i2z.symm (xc.extBut _ _ Z.TOz.symm (xb.extBut _ _ Z.i1z.symm za)))
  have lz : z < he.objs.size := Heap.lt_size ze
  show wpAny _ _ (Builtin.SmallTypes.ownedTupleHandOut (.ref z) (.ref he.objs.size) >>= _) _ _ _
  refine wpAny_bind ?_
  unfold Builtin.SmallTypes.ownedTupleHandOut
  refine wpAny_bind (wpAny_setField_rec (show IsZip (he.push { cls := .type "tuple", data := .seq #[x, y] }) z TI TO .ellipsis from Heap.get?_push_of_some _ ze) (by simp) fun hf zf xf => ?_)
  replace zf : IsZip hf z TI TO (rawInt he.objs.size) := zf
  refine wpAny_setField_rec zf (by simp) fun hg zg xg => wpAny_pure ⟨_, rfl, ?_⟩
  replace zg : IsZip hg z TI TO (rawInt he.objs.size) := zg
  have up : Heap.ExtBut z he hg := fun c o c1 e => xg.extBut _ _ c1 (xf.extBut _ _ c1 (Heap.get?_push_of_some _ e))
  have pn : IsPair hg he.objs.size x y := xg.extBut _ _ (Nat.ne_of_gt lz) (xf.extBut _ _ (Nat.ne_of_gt lz) (Heap.get?_push_size _ rfl))
  have tf1 : S1 (i + 1) hg := Draws.but D1 up Z.z1 (Draws.but D1 xe.extBut Z.o1 (Draws.but D1 xd.extBut Z.j1 (Draws.but D1 xc.extBut Z.o1 tb)))
  have tf2 : S2 (i + 1) hg := Draws.but D2 up Z.z2 (Draws.but D2 xe.extBut Z.o2 td)
  show Q (.ref he.objs.size) _
  rw [sz] at zg pn ⊢
  exact hQ x y hg tk2 p1 p2 zg (up _ _ Z.TOz oe) tf1 tf2 pn fun c o c1 c2 c3 c4 e => up c o c1 (xe.extBut _ _ c2 (xd.extBut _ _ c4 (xc.extBut _ _ c2 (xb.extBut _ _ c3 (xa.extBut _ _ c1 e)))))
theorem zn_end {a b : Value} {Q : Fin → Shared → Prop} (D1 : Draws prog w A i1 fp1 n1 P1 S1) (D2 : Draws prog w A i2 fp2 n2 P2 S2) (Z : ZAp z TI TO i1 i2 fp1 fp2) (hz : IsZip s.heap z TI TO .none) (hTI : IsPair s.heap TI (.ref i1) (.ref i2)) (hTO : IsPair s.heap TO a b) (l : i = n1 ∨ (i < n1 ∧ i = n2)) (t1 : S1 i s.heap) (t2 : S2 i s.heap)
    (hE : ∀ h' e tk, (∀ c o, c ≠ z → c ≠ TO → c ≠ i1 → c ≠ i2 → s.heap.get? c = some o → h'.get? c = some o) → (∃ o, h'.get? e = some o ∧ o.cls = .type "StopIteration") → E (.ref e) { s with heap := h', toks := tk }) :
    wpAny (model prog w) A (Builtin.«zip.__next__» ⟨[.ref z], []⟩) Q E s := by
  show wpAny _ _ (field (.ref z) 2 >>= _) _ _ _
  refine wpAny_bind (wpAny_field hz rfl (x := .bool false) rfl ?_)
  show wpAny _ _ (field (.ref z) 3 >>= _) _ _ _
  refine wpAny_bind (wpAny_field hz rfl (x := .ref TI) rfl (wpAny_bind (wpAny_seqItems hTI rfl ?_)))
  show wpAny _ _ (Builtin.SmallTypes.ownedTupleIsFree (.ref z) >>= _) _ _ _
  refine wpAny_bind ?_
  unfold Builtin.SmallTypes.ownedTupleIsFree
  refine wpAny_bind (wpAny_field hz rfl (x := .none) rfl (wpAny_pure ?_))
  simp only [if_true]
  refine wpAny_bind (wpAny_rule (wpAny_bind (wpAny_field hz rfl (x := .ref TO) rfl (wpAny_bind (wpAny_setField_rec hz (by simp) fun ha za xa => ?_)))))
  replace za : IsZip ha z TI TO .ellipsis := za
  refine wpAny_bind ?_
  simp only [List.zipIdx_cons, List.zipIdx_nil, List.forIn_cons, List.forIn_nil]
  refine wpAny_bind (wpAny_bind (wpAny_onRaise ?_))
  show wpAny _ _ (Builtin.SmallTypes.nextOf (.ref i1) >>= _) _ _ _
  rcases l with rfl | ⟨l1, rfl⟩
  · refine wpAny_bind (D1.done _ _ _ (Draws.but D1 xa.extBut Z.z1 t1) fun hb e xb he => ?_)
    obtain ⟨oe, ge, ce⟩ := he
    have zb : IsZip hb z TI TO .ellipsis := xb _ _ Z.i1z.symm za
    have ez : e ≠ z := fun x => by subst x; rw [zb] at ge; cases ge; simp at ce
    exact wpAny_setField_rec zb (by simp) fun hc _ xc => hE hc e s.toks (fun c o c1 _ c3 _ g => xc.extBut _ _ c1 (xb _ _ c3 (xa.extBut _ _ c1 g))) ⟨oe, xc.extBut _ _ ez ge, ce⟩
  · refine wpAny_bind (D1.item i _ _ _ l1 (Draws.but D1 xa.extBut Z.z1 t1) fun x hb tk1 p1 tb xb => wpAny_pure ?_)
    have ob : IsPair hb TO a b := xb.extBut _ _ Z.TOi1 (xa.extBut _ _ Z.TOz hTO)
    refine wpAny_bind (wpAny_seqItems ob rfl (wpAny_bind (wpAny_updateSeq_pair ob fun hc oc xc => ?_)))
    refine wpAny_bind (wpAny_letGo (wpAny_pure ?_))
    refine wpAny_bind (wpAny_bind (wpAny_onRaise ?_))
    show wpAny _ _ (Builtin.SmallTypes.nextOf (.ref i2) >>= _) _ _ _
    refine wpAny_bind (D2.done _ _ _ (Draws.but D2 xc.extBut Z.o2 (Draws.but D2 xb.extBut Z.j2 (Draws.but D2 xa.extBut Z.z2 t2))) fun hd e xd he => ?_)
    obtain ⟨oe, ge, ce⟩ := he
    have zd : IsZip hd z TI TO .ellipsis := xd _ _ Z.i2z.symm (xc.extBut _ _ Z.TOz.symm (xb.extBut _ _ Z.i1z.symm za))
    have ez : e ≠ z := fun x => by subst x; rw [zd] at ge; cases ge; simp at ce
    exact wpAny_setField_rec zd (by simp) fun hf _ xf => hE hf e tk1 (fun c o c1 c2 c3 c4 g => xf.extBut _ _ c1 (xd _ _ c4 (xc.extBut _ _ c2 (xb.extBut _ _ c3 (xa.extBut _ _ c1 g))))) ⟨oe, xf.extBut _ _ ez ge, ce⟩
theorem zipNext_item {a b : Value} {Q : Option Value → Shared → Prop} (D1 : Draws prog w A.in1 i1 fp1 n1 P1 S1) (D2 : Draws prog w A.in1 i2 fp2 n2 P2 S2) (Z : ZAp z TI TO i1 i2 fp1 fp2) (hz : IsZip s.heap z TI TO .none) (hTI : IsPair s.heap TI (.ref i1) (.ref i2)) (hTO : IsPair s.heap TO a b) (l1 : i < n1) (l2 : i < n2) (t1 : S1 i s.heap) (t2 : S2 i s.heap)
    (hQ : ∀ x y h' tk, P1 i x → P2 i y → IsZip h' z TI TO (rawInt s.heap.objs.size) → IsPair h' TO x y → S1 (i + 1) h' → S2 (i + 1) h' → IsPair h' s.heap.objs.size x y → (∀ c o, c ≠ z → c ≠ TO → c ≠ i1 → c ≠ i2 → s.heap.get? c = some o → h'.get? c = some o) → Q (some (.ref s.heap.objs.size)) { s with heap := h', toks := tk }) :
    wpAny (model prog w) A (pyNext (.ref z)) Q E s := by
  have hT : s.TypeIs (.ref z) "zip" := ⟨_, hz, rfl⟩
  unfold pyNext
  exact wpAny_bind (wpAny_attempt (wpAny_callSpecial?_slot (name := Str.ofString "__next__") hT F.slot_zip_next (wpAny_call_entry F.slot_zip_next hT F.entry_zip_next (zn_item D1 D2 Z hz hTI hTO l1 l2 t1 t2 fun x y h' tk a1 a2 a3 a4 a5 a6 a7 a8 => wpAny_pure (hQ x y h' tk a1 a2 a3 a4 a5 a6 a7 a8)) (F.args_zip_next_1 _))))
theorem zipNext_end {a b : Value} {Q : Option Value → Shared → Prop} (D1 : Draws prog w A.in1 i1 fp1 n1 P1 S1) (D2 : Draws prog w A.in1 i2 fp2 n2 P2 S2) (Z : ZAp z TI TO i1 i2 fp1 fp2) (hz : IsZip s.heap z TI TO .none) (hTI : IsPair s.heap TI (.ref i1) (.ref i2)) (hTO : IsPair s.heap TO a b) (l : i = n1 ∨ (i < n1 ∧ i = n2)) (t1 : S1 i s.heap) (t2 : S2 i s.heap)
    (hQ : ∀ h' tk, (∀ c o, c ≠ z → c ≠ TO → c ≠ i1 → c ≠ i2 → s.heap.get? c = some o → h'.get? c = some o) → Q none { s with heap := h', toks := tk }) :
    wpAny (model prog w) A (pyNext (.ref z)) Q E s := by
  have hT : s.TypeIs (.ref z) "zip" := ⟨_, hz, rfl⟩
  unfold pyNext
  refine wpAny_bind (wpAny_attempt (wpAny_callSpecial?_slot (name := Str.ofString "__next__") hT F.slot_zip_next (wpAny_call_entry F.slot_zip_next hT F.entry_zip_next (zn_end D1 D2 Z hz hTI hTO l t1 t2 fun h' e tk hk he => ?_) (F.args_zip_next_1 _))))
  obtain ⟨o, ho, hc⟩ := he
  exact wpAny_bind (wpAny_isInstance (T := "StopIteration") (b := true) ⟨o, ho, hc⟩ isSubtype_stop (wpAny_pure (hQ _ _ hk)))
end
theorem zapLT {n a b : Nat} (h1 : a < n) (h2 : b < n) : ZAp (n + 4) (n + 2) (n + 3) n (n + 1) [n, a] [n + 1, b] := by
  have nm : ∀ {x y z : Nat}, x ≠ y → x ≠ z → x ∉ [y, z] := fun e1 e2 h => by
    rcases List.mem_cons.mp h with h | h
    · exact e1 h
    · exact e2 (List.mem_singleton.mp h)
  refine ⟨?_, ?_, ?_, ?_, ?_, ?_, ?_, ?_, ?_, nm ?_ ?_, nm ?_ ?_, nm ?_ ?_, nm ?_ ?_, nm ?_ ?_, nm ?_ ?_⟩ <;> (show (_ : Nat) ≠ _; omega)
section
variable {prog : Program} {w : World} {A : Around} {E : Value → Shared → Prop} {s : Shared}
abbrev zlt1 (h : Heap) (a : Addr) : Heap := h.push { cls := .type "list_iterator", data := .fields #[.ref a, .int 0 0] }
abbrev zlt2 (h : Heap) (a b : Addr) : Heap := (zlt1 h a).push { cls := .type "tuple_iterator", data := .fields #[.ref b, .int 0 0] }
abbrev zlt3 (h : Heap) (a b : Addr) : Heap := (zlt2 h a b).push { cls := .type "tuple", data := .seq #[.ref h.objs.size, .ref (zlt1 h a).objs.size] }
abbrev zlt4 (h : Heap) (a b : Addr) : Heap := (zlt3 h a b).push { cls := .type "tuple", data := .seq #[.none, .none] }
abbrev zlt5 (h : Heap) (a b : Addr) : Heap := (zlt4 h a b).push { cls := .type "zip", data := .fields #[.none, .bool false, .bool false, .ref (zlt2 h a b).objs.size, .ref (zlt3 h a b).objs.size] }
theorem zlt_new (a b : Addr) (xs ys : Array Value) :
    Meets (Builtin.«zip.__new__» ⟨[.type "zip", .ref a, .ref b], []⟩) (fun _ R s => s.heap.IsList a xs ∧ s.heap.IsTuple b ys ∧ R (.ok (.ret (.ref (zlt4 s.heap a b).objs.size))) { s with heap := zlt5 s.heap a b }) :=
  .of_wp fun prog w A R s h => by
    obtain ⟨hp, g, d, tk, os⟩ := s
    obtain ⟨e1, e2, h⟩ := h
    have hsub := sub_zip
    have m1 : Heap.IsList (Shared.heap ⟨hp, g, d, tk, os⟩) a xs := e1
    have m2 : Heap.IsTuple (Shared.heap ⟨hp.push { cls := .type "list_iterator", data := .fields #[.ref a, .int 0 0] }, g, d, tk, os⟩) b ys := Heap.IsTuple.push e2 _
    wp_walk using wpAny_pyIter_list m1, wpAny_pyIter_tuple m2
    exact ⟨_, rfl, h⟩
theorem call_zlt {a b : Addr} {xs ys : Array Value} {Q : Value → Shared → Prop} (e1 : s.heap.IsList a xs) (e2 : s.heap.IsTuple b ys)
    (h : ∀ h', IsZip h' (s.heap.objs.size + 4) (s.heap.objs.size + 2) (s.heap.objs.size + 3) .none → IsPair h' (s.heap.objs.size + 2) (.ref s.heap.objs.size) (.ref (s.heap.objs.size + 1)) → IsPair h' (s.heap.objs.size + 3) .none .none → h'.IsListIter s.heap.objs.size a 0 → h'.IsTupleIter (s.heap.objs.size + 1) b 0 → (∀ c o, s.heap.get? c = some o → h'.get? c = some o) → Q (.ref (s.heap.objs.size + 4)) { s with heap := h' }) :
    wpAny (model prog w) A (call (.type "zip") [.ref a, .ref b]) Q E s := by
  refine callType_new F.called_zip (by decide) (F.typeCall_zip_2 _ _) (F.newCall_zip_2 _ _) (fun obj => F.args_object_init_3 obj _ _) F.entry_zip_new (zlt_new a b xs ys) ⟨e1, e2, ?_⟩
  have up : ∀ {h : Heap} {c o o'}, h.get? c = some o → (h.push o').get? c = some o := fun e => Heap.get?_push_of_some _ e
  have s1 : (zlt1 s.heap a).objs.size = s.heap.objs.size + 1 := Heap.size_push ..
  have s2 : (zlt2 s.heap a b).objs.size = s.heap.objs.size + 2 := by rw [Heap.size_push, s1]
  have s3 : (zlt3 s.heap a b).objs.size = s.heap.objs.size + 3 := by rw [Heap.size_push, s2]
  have s4 : (zlt4 s.heap a b).objs.size = s.heap.objs.size + 4 := by rw [Heap.size_push, s3]
  have g5 : (zlt5 s.heap a b).get? (zlt4 s.heap a b).objs.size = some _ := Heap.get?_push_size _ rfl
  have g4 : (zlt5 s.heap a b).get? (zlt3 s.heap a b).objs.size = some _ := up (Heap.get?_push_size _ rfl)
  have g3 : (zlt5 s.heap a b).get? (zlt2 s.heap a b).objs.size = some _ := up (up (Heap.get?_push_size _ rfl))
  have g2 : (zlt5 s.heap a b).get? (zlt1 s.heap a).objs.size = some _ := up (up (up (Heap.get?_push_size _ rfl)))
  have g1 : (zlt5 s.heap a b).get? s.heap.objs.size = some _ := up (up (up (up (Heap.get?_push_size _ rfl))))
  show _ ∧ _
  rw [s2, s3, s4] at g5
  rw [s3] at g4
  rw [s1, s2] at g3
  rw [s1] at g2
  rw [s4]
  exact ⟨⟨_, g5, rfl⟩, h _ g5 g3 g4 ⟨_, g1, rfl, rfl⟩ ⟨_, g2, rfl, rfl⟩ fun c o e => up (up (up (up (up e))))⟩
end
def ItzT (K : PySem.W.Frag) (a b : Addr) (xs ys : List V) : It :=
  ⟨fun i H => SqL K H a xs ∧ SqT K H b ys ∧ i < min xs.length ys.length, fun i H x H' => ∃ (T : Addr) (u v : V), H T = none ∧ xs[i]? = some u ∧ ys[i]? = some v ∧ x = .ref T ∧ H' = upd H T (.tup [u, v]), fun i H => SqL K H a xs ∧ SqT K H b ys ∧ min xs.length ys.length ≤ i⟩
theorem isTuple_of {h : Heap} {a : Addr} {xs : Array Value} (x : IsTup h a xs) : h.IsTuple a xs := x
theorem turn_zipT {P : Program} {w : World} {K : PySem.W.Frag} {elts : List Expr} {k : Nat} {pos : Pos} (a b z TI TO i1 i2 : Addr) (xs ys : List V) (n1 : a ≠ i1) (n2 : b ≠ i2) (D : ZAp z TI TO i1 i2 [i1, a] [i2, b]) :
    Turn P w K (.Tuple elts k pos) (ItzT K a b xs ys) [z, TI, TO, i1, i2] z (fun i h => i ≤ min xs.length ys.length ∧ IsZip h z TI TO .none ∧ IsPair h TI (.ref i1) (.ref i2) ∧ (∃ a b, IsPair h TO a b) ∧ h.IsListIter i1 a i ∧ h.IsTupleIter i2 b i) where
  mem := by simp
  obj := fun i h st c hc => by
    obtain ⟨_, st1, st2, ⟨p, q, st3⟩, st4, st5⟩ := st
    rcases List.mem_cons.mp hc with e | hc
    · subst e; exact ⟨_, st1, fun v z => by cases z⟩
    rcases List.mem_cons.mp hc with e | hc
    · subst e; exact ⟨_, st2, fun v z => by cases z⟩
    rcases List.mem_cons.mp hc with e | hc
    · subst e; exact ⟨_, st3, fun v z => by cases z⟩
    rcases List.mem_cons.mp hc with e | hc
    · subst e
      obtain ⟨o, e, c, d⟩ := st4
      exact ⟨o, e, fun v z => by rw [d] at z; cases z⟩
    · obtain rfl := List.mem_singleton.mp hc
      obtain ⟨o, e, c, d⟩ := st5
      exact ⟨o, e, fun v z => by rw [d] at z; cases z⟩
  keep := fun i h h' st k => by
    obtain ⟨hi, st1, st2, ⟨p, q, st3⟩, st4, st5⟩ := st
    exact ⟨hi, k z (by simp) _ st1, k TI (by simp) _ st2, ⟨p, q, k TO (by simp) _ st3⟩, st4.at fun o e => k i1 (by simp) o e, tupIterAt st5 fun o e => k i2 (by simp) o e⟩
  item := by
    intro X hP hw hK hc i pins s σ H E I hf st hg
    subst hP hw hK
    obtain ⟨hq1, hq2, hi⟩ := hg
    obtain ⟨its1, rv1, p1, hz1⟩ := I.list hq1
    obtain ⟨its2, rv2, p2, hz2⟩ := I.tuple hq2
    have hlen1 := rv1.length
    have hlen2 := rv2.length
    obtain ⟨_, st1, st2, ⟨pa, pb, st3⟩, st4, st5⟩ := st
    have hh := I.ok.hd hc
    refine zipNext_item (i := i) (Draws.list (A := X.A.in1) hh i1 a n1 its1.toArray) (Draws.tup (A := X.A.in1) hh i2 b n2 its2.toArray) D st1 st2 st3 (by rw [List.size_toArray]; omega) (by rw [List.size_toArray]; omega) ⟨st4, p1.isList⟩ ⟨st5, isTuple_of p2⟩ fun u1 u2 h' tk hu1 hu2 c1 c2 c3 c4 c5 kk => ?_
    refine ⟨_, rfl, wpAny_letOwnedTupleGo_zip c1 fun h'' c1' xs' => ?_⟩
    have hu1' : its1[i]? = some u1 := by simpa using hu1
    have hu2' : its2[i]? = some u2 := by simpa using hu2
    have hy1 : xs[i]? = some (xs[i]'(by omega)) := List.getElem?_eq_getElem _
    have hy2 : ys[i]? = some (ys[i]'(by omega)) := List.getElem?_eq_getElem _
    obtain ⟨v1, hv1, ru1⟩ := rv1.get hy1
    obtain ⟨v2, hv2, ru2⟩ := rv2.get hy2
    rw [hu1'] at hv1; cases hv1
    rw [hu2'] at hv2; cases hv2
    have hT : s.heap.objs.size ≤ s.heap.objs.size := Nat.le_refl _
    have hTf := I.hok.fresh hT
    have lt : ∀ {c o}, s.heap.get? c = some o → c ≠ s.heap.objs.size := fun e => Nat.ne_of_lt (Heap.lt_size e)
    have nT2 : ∀ c ∈ [z, TI, TO, i1, i2], c ≠ s.heap.objs.size := fun c hcm => by
      rcases List.mem_cons.mp hcm with e | hcm
      · rw [e]; exact lt st1
      rcases List.mem_cons.mp hcm with e | hcm
      · rw [e]; exact lt st2
      rcases List.mem_cons.mp hcm with e | hcm
      · rw [e]; exact lt st3
      rcases List.mem_cons.mp hcm with e | hcm
      · rw [e]; obtain ⟨o, e, _⟩ := st4; exact lt e
      · rw [List.mem_singleton.mp hcm]; obtain ⟨o, e, _⟩ := st5; exact lt e
    have kz : Heap.ExtBut z h' h'' := xs'.extBut
    refine ⟨.ref s.heap.objs.size, upd H s.heap.objs.size (.tup [xs[i]'(by omega), ys[i]'(by omega)]), ?_, rfl, ⟨_, _, _, hTf, hy1, hy2, rfl, rfl⟩, ⟨by omega, c1', kz _ _ D.TIz (kk _ _ D.TIz D.TITO D.TIi1 D.TIi2 st2), ⟨_, _, kz _ _ D.TOz c2⟩, c3.1.extBut kz D.i1z, c4.1.extBut kz D.i2z⟩, fun c hcm => ?_⟩
    · refine I.turnedNew (ch := [z, TO, i1, i2]) (t' := tk) (fun c o hcn ec => ?_) (fun c hcm => hf c ?_) hT ?_
      · have nn : ∀ {d : Addr}, d ∈ [z, TO, i1, i2] → c ≠ d := fun hd e => hcn (e ▸ hd)
        exact kz c o (nn (by simp)) (kk c o (nn (by simp)) (nn (by simp)) (nn (by simp)) (nn (by simp)) ec)
      · rcases List.mem_cons.mp hcm with e | hcm
        · rw [e]; simp
        · exact List.mem_cons_of_mem _ (List.mem_cons_of_mem _ hcm)
      · refine ⟨by show 2 ≤ sizeLine; decide, [u1, u2], .cons ru1 (.cons ru2 .nil), ?_⟩
        exact ⟨_, kz _ _ (nT2 z (by simp)).symm c5, rfl, _, rfl⟩
    · rw [upd_ne (nT2 c hcm)]
      exact (hf c hcm).1
  done := by
    intro X hP hw hK hc i pins s σ H E I hf st hg
    subst hP hw hK
    obtain ⟨hq1, hq2, hi⟩ := hg
    obtain ⟨its1, rv1, p1, hz1⟩ := I.list hq1
    obtain ⟨its2, rv2, p2, hz2⟩ := I.tuple hq2
    have hlen1 := rv1.length
    have hlen2 := rv2.length
    obtain ⟨hle, st1, st2, ⟨pa, pb, st3⟩, st4, st5⟩ := st
    have hh := I.ok.hd hc
    refine zipNext_end (i := i) (Draws.list (A := X.A.in1) hh i1 a n1 its1.toArray) (Draws.tup (A := X.A.in1) hh i2 b n2 its2.toArray) D st1 st2 st3 (by rw [List.size_toArray, List.size_toArray]; omega) ⟨st4, p1.isList⟩ ⟨st5, isTuple_of p2⟩ fun h' tk kk => ⟨rfl, I.turnedL (ch := [z, TO, i1, i2]) (t' := tk) (fun c o hcn ec => ?_) fun c hcm => hf c ?_⟩
    · have nn : ∀ {d : Addr}, d ∈ [z, TO, i1, i2] → c ≠ d := fun hd e => hcn (e ▸ hd)
      exact kk c o (nn (by simp)) (nn (by simp)) (nn (by simp)) (nn (by simp)) ec
    · rcases List.mem_cons.mp hcm with e | hcm
      · rw [e]; simp
      · exact List.mem_cons_of_mem _ (List.mem_cons_of_mem _ hcm)
  self := fun A i s Q E st h => wpAny_pyIter_zip st.2.1 h
section
variable {X : Cx}
def iZipT (K : PySem.W.Frag) (ta : TA) : TI := fun σ H R => ta σ H fun vs H1 => ∃ a b xs ys, vs = [.ref a, .ref b] ∧ SqL K H1 a xs ∧ SqT K H1 b ys ∧ R (ItzT K a b xs ys) H1
theorem pi_zipT {l m : Expr} {ta : TA} {p pos : Pos} {elts : List Expr} {k : Nat} {tpos : Pos} (hg : Gl X "zip") (hm : X.mg "zip" = none) (ha : PA X [l, m] ta) (hs : starEach [l, m] X.env = [(false, eval l X.env), (false, eval m X.env)] := by rfl) (hs2 : starEach [m] X.env = [(false, eval m X.env)] := by rfl) :
    PI X (.Tuple elts k tpos) (.Call (.Name "zip" p) [l, m] [] pos) (iZipT X.K ta) := by
  intro pins s σ H R I h
  refine Call_ (ld_blt I hg hm boot_zip (PyProof.Rows.callWith_type1 (thn (ha pos pins s σ H (fun vs H1 => ∃ a b xs ys, vs = [.ref a, .ref b] ∧ SqL X.K H1 a xs ∧ SqT X.K H1 b ys ∧ R (ItzT X.K a b xs ys) H1) I h) fun us s1 ⟨vs, H1, I1, r1, q1⟩ => ?_) (by rw [hs, hs2]) (by rw [hs2]; rfl)))
  obtain ⟨a, b, xs, ys, rfl, hq1, hq2, q⟩ := q1
  obtain ⟨u1, u2, rfl, ru1, ru2⟩ := vals2 r1
  obtain rfl : u1 = Value.ref a := ru1
  obtain rfl : u2 = Value.ref b := ru2
  obtain ⟨its1, rv1, p1, hz1⟩ := I1.list hq1
  obtain ⟨its2, rv2, p2, hz2⟩ := I1.tuple hq2
  have l1 : a < s1.heap.objs.size := by obtain ⟨o, ho, _⟩ := p1.isList; exact Heap.lt_size ho
  have l2 : b < s1.heap.objs.size := by obtain ⟨o, ho, _⟩ := isTuple_of p2; exact Heap.lt_size ho
  refine call_zlt p1.isList (isTuple_of p2) fun h' z1 z2 z3 z4 z5 kk => ?_
  have I2 : Inv X pins σ H1 { s1 with heap := h' } := I1.kept (t' := s1.toks) kk
  refine wpAny_pyIter_zip z1 ?_
  refine ⟨_, _, _, _, H1, rfl, I2, turn_zipT a b _ _ _ _ _ xs ys (Nat.ne_of_lt l1) (Nat.ne_of_lt (Nat.lt_succ_of_lt l2)) (zapLT l1 l2), ⟨Nat.zero_le _, z1, z2, ⟨_, _, z3⟩, z4, z5⟩, fun c hc => ?_, q⟩
  have hcl : s1.heap.objs.size ≤ c := by
    rcases List.mem_cons.mp hc with e | hc
    · rw [e]; exact Nat.le_add_right ..
    rcases List.mem_cons.mp hc with e | hc
    · rw [e]; exact Nat.le_add_right ..
    rcases List.mem_cons.mp hc with e | hc
    · rw [e]; exact Nat.le_add_right ..
    rcases List.mem_cons.mp hc with e | hc
    · rw [e]; exact Nat.le_refl _
    · rw [List.mem_singleton.mp hc]; exact Nat.le_succ _
  exact I1.fpOk hcl (I1.hok.fresh hcl)
end
theorem comp_zipT {K : PySem.W.Frag} {a b : Addr} {xs ys : List V} {g : TG} {te : TE} {Q : VK} {H : Hp} {D : Addr} {σ0 : St} (fe : Nat → V) (S : St → Prop) (hz : min xs.length ys.length ≤ 100000) (h0 : S σ0) (hD : H D = none) (hl1 : SqL K H a xs) (hl2 : SqT K H b ys)
    (ht : ∀ i x y, xs[i]? = some x → ys[i]? = some y → ∀ σ1 H1 T, S σ1 → Same H H1 → H1 T = none → ∀ R : St → V → Hp → Prop, (∀ σ2 H3, S σ2 → Same (upd H1 T (.tup [x, y])) H3 → R σ2 (fe i) H3) → g (.ref T) σ1 (upd H1 T (.tup [x, y])) fun σ2 H2 => te σ2 H2 fun z H3 => R σ2 z H3)
    (hq : ∀ H' : Hp, Same H H' → H' D = some (.lst ((List.range (min xs.length ys.length)).map fe)) → Q (.ref D) H') :
    CompGo (ItzT K a b xs ys) g tYes te Q σ0 H D := by
  refine ⟨fun i m σ1 H2 => i ≤ min xs.length ys.length ∧ m = min xs.length ys.length - i ∧ S σ1 ∧ Same H H2 ∧ H2 D = some (.lst ((List.range i).map fe)), ⟨min xs.length ys.length, Nat.zero_le _, rfl, h0, same_new hD, upd_same⟩, ?_⟩
  rintro i m σ1 H2 ⟨h1, rfl, h2, hs, hDv⟩
  have q1 := hs.seq hl1
  have q2 : SqT K H2 b ys := hl2.elim (fun e => .inl (e.elim (fun e => .inl (hs _ _ e)) fun ⟨o, e⟩ => .inr ⟨o, hs _ _ e⟩)) .inr
  rcases Nat.lt_or_ge i (min xs.length ys.length) with z | z
  · refine .inr ⟨⟨q1, q2, z⟩, ?_⟩
    rintro x H3 ⟨T, u, v, hT, hu, hv, rfl, rfl⟩
    refine ht i u v hu hv σ1 H2 T h2 hs hT (fun σ2 y H6 => ∃ zs m', H6 D = some (.lst zs) ∧ zs.length < sizeLine ∧ m' < min xs.length ys.length - i ∧ (i + 1 ≤ min xs.length ys.length ∧ m' = min xs.length ys.length - (i + 1) ∧ S σ2 ∧ Same H (upd H6 D (.lst (zs ++ [y]))) ∧ upd H6 D (.lst (zs ++ [y])) D = some (.lst ((List.range (i + 1)).map fe)))) fun σ2 H6 q3 hs6 => ?_
    have nDT : D ≠ T := fun e => by rw [e, hT] at hDv; cases hDv
    refine ⟨(List.range i).map fe, min xs.length ys.length - (i + 1), hs6 _ _ (by rw [upd_ne nDT]; exact hDv), ?_, by omega, by omega, rfl, q3, ?_, ?_⟩
    · rw [List.length_map, List.length_range]
      exact Nat.lt_of_lt_of_le (show i < 100000 by omega) (by decide)
    · intro c o e
      rw [upd_ne (ne_of_none e hD)]
      refine hs6 c o ?_
      rw [upd_ne (fun e' => by rw [e', hs.free hT] at e; cases e)]
      exact hs c o e
    · rw [upd_same, List.range_succ, List.map_append]; rfl
  · have e : i = min xs.length ys.length := by omega
    subst e
    exact .inl ⟨⟨q1, q2, Nat.le_refl _⟩, hq H2 hs hDv⟩
section
variable {X : Cx}
end
theorem slot_bare {f : Fm} {k : Fin 4} (h : slot f = .b k) : f = .bare k := by
  cases f with
  | bare j => injection h with h; rw [h]
  | sp a b => cases h
  | le s => cases h
  | one j f => cases h
  | two j ns fs => cases h
theorem slot_sp {f : Fm} (h : slot f = .s) : ∃ a b, f = .sp a b := by
  cases f with
  | sp a b => exact ⟨a, b, rfl⟩
  | bare j => cases h
  | le s => cases h
  | one j f => cases h
  | two j ns fs => cases h
theorem slot_le {f : Fm} (h : slot f = .l) : ∃ s, f = .le s := by
  cases f with
  | le s => exact ⟨s, rfl⟩
  | sp a b => cases h
  | bare j => cases h
  | one j f => cases h
  | two j ns fs => cases h
theorem slot_one {f : Fm} {k : Fin 3} (h : slot f = .o k) : ∃ g, f = .one k g := by
  cases f with
  | one j g => injection h with h; rw [h]; exact ⟨g, rfl⟩
  | sp a b => cases h
  | bare j => cases h
  | le s => cases h
  | two j ns fs => cases h
theorem slot_two {f : Fm} {k : Fin 2} (h : slot f = .t k) : ∃ ns fs, f = .two k ns fs := by
  cases f with
  | two j ns fs => injection h with h; rw [h]; exact ⟨ns, fs, rfl⟩
  | sp a b => cases h
  | bare j => cases h
  | le s => cases h
  | one j f => cases h
theorem FsAt.get {c : FC} {X : List Addr} {H : Hp} : ∀ (fs : List Fm) {os : List Addr} {i : Nat} {o : Addr}, FsAt c X H fs os → os[i]? = some o → ∃ f, fs[i]? = some f ∧ FAt c X H f o
  | [], os, i, o, h, e => by
    obtain rfl : os = [] := h
    cases e
  | f :: fs, os, 0, o, h, e => by
    obtain ⟨o', r, rfl, q, q2⟩ := h
    cases e
    exact ⟨f, rfl, q⟩
  | f :: fs, os, i + 1, o, h, e => by
    obtain ⟨o', r, rfl, q, q2⟩ := h
    exact FsAt.get fs q2 e
theorem okFs_get : ∀ {fs : List Fm} {i : Nat} {f : Fm}, okFs fs → fs[i]? = some f → okF f ∧ ht f ≤ hts fs
  | [], i, f, h, e => by cases e
  | g :: fs, 0, f, h, e => by
    cases e
    rw [okFs] at h
    rw [hts]
    exact ⟨h.1, Nat.le_max_left ..⟩
  | g :: fs, i + 1, f, h, e => by
    rw [okFs] at h
    have := okFs_get h.2 e
    rw [hts]
    exact ⟨this.1, Nat.le_trans this.2 (Nat.le_max_right ..)⟩
theorem fin4 : ∀ k : Fin 4, k = 0 ∨ k = 1 ∨ k = 2 ∨ k = 3 := by decide
theorem fin3 : ∀ k : Fin 3, k = 0 ∨ k = 1 ∨ k = 2 := by decide
theorem fin2 : ∀ k : Fin 2, k = 0 ∨ k = 1 := by decide
section
variable {P : Program} {w : World} {K : PySem.W.Frag} {mg : Str → Option Value} {base : Heap}
structure MethAt (K : PySem.W.Frag) (C : Addr) (m qual : Str) (st : Stmt) (ps : List Str) : Prop where
  ex : ∃ f fd, Fun K m qual st f fd ∧ Binds K fd ps [] ∧ Meth K C m f
  cl : Cls K C
theorem meth_none {C : Addr} {m qual : Str} {st : Stmt} {ps : List Str} {k : Nat} {sp : Sp} (M : MethAt K C m qual st ps) (h : ∀ vs H Q E, ¬ sp vs H Q E) : MethOk P w K mg base k C m ps sp := by
  obtain ⟨f, fd, F, hb, hm⟩ := M.ex
  exact ⟨f, fd, ⟨fun vs H Q E q => absurd q (h _ _ _ _), fun A outer s H args us vs Q E _ _ _ _ q => absurd q (h _ _ _ _)⟩, hb, hm⟩
end
mutual
def inS (has : Sl → Bool) : Fm → Prop
  | .bare k => has (.b k) = true
  | .sp _ _ => has .s = true
  | .le _ => has .l = true
  | .one k f => has (.o k) = true ∧ inS has f
  | .two k _ fs => has (.t k) = true ∧ inSs has fs
def inSs (has : Sl → Bool) : List Fm → Prop
  | [] => True
  | f :: fs => inS has f ∧ inSs has fs
end
theorem inS.slot {has : Sl → Bool} {f : Fm} (h : inS has f) : has (slot f) = true := by
  cases f with
  | bare k => rw [inS] at h; exact h
  | sp a b => rw [inS] at h; exact h
  | le s => rw [inS] at h; exact h
  | one k f => rw [inS] at h; exact h.1
  | two k ns fs => rw [inS] at h; exact h.1
def okH (has : Sl → Bool) (f : Fm) : Prop := okF f ∧ inS has f
def okHs (has : Sl → Bool) (fs : List Fm) : Prop := okFs fs ∧ inSs has fs
theorem okH.one {has : Sl → Bool} {k : Fin 3} {f : Fm} (h : okH has (.one k f)) : okH has f := by
  obtain ⟨a, b⟩ := h
  rw [okF] at a
  rw [inS] at b
  exact ⟨a, b.2⟩
theorem okH.two {has : Sl → Bool} {k : Fin 2} {ns : List Str} {fs : List Fm} (h : okH has (.two k ns fs)) : goodNames ns = true ∧ ns.length = fs.length ∧ okHs has fs := by
  obtain ⟨a, b⟩ := h
  rw [okF] at a
  rw [inS] at b
  exact ⟨a.1, a.2.1, a.2.2, b.2⟩
theorem inSs_get {has : Sl → Bool} : ∀ {fs : List Fm} {i : Nat} {f : Fm}, inSs has fs → fs[i]? = some f → inS has f
  | [], i, f, h, e => by cases e
  | g :: fs, 0, f, h, e => by
    cases e
    rw [inSs] at h
    exact h.1
  | g :: fs, i + 1, f, h, e => by
    rw [inSs] at h
    exact inSs_get h.2 e
theorem okHs.get {has : Sl → Bool} {fs : List Fm} {i : Nat} {f : Fm} (h : okHs has fs) (e : fs[i]? = some f) : okH has f ∧ ht f ≤ hts fs :=
  ⟨⟨(okFs_get h.1 e).1, inSs_get h.2 e⟩, (okFs_get h.1 e).2⟩
end L2

end

section
namespace L2
open PySem PySem.W PySem.Spec PyProof.Rows
theorem first_is {l : List Nat} {c i : Nat} (h : l[i]? = some c) (hk : ∀ k, k < i → l[k]? ≠ some c) : l.idxOf c = i := by
  induction l generalizing i with
  | nil => cases h
  | cons a r ih =>
    cases i with
    | zero => cases h; rw [List.idxOf_cons_self]
    | succ i =>
      have ha : a ≠ c := fun e => hk 0 (by omega) (by rw [e]; rfl)
      have hb : (a == c) = false := by simpa using ha
      rw [List.idxOf_cons, hb]
      show r.idxOf c + 1 = i + 1
      rw [ih h fun k hk' e => hk (k + 1) (by omega) e]
section
variable {X : Cx}
theorem mt_sindexE : MtR X "str.index" (fun x xs H Q => ∃ (y : Str) (c : Nat), x = .str y ∧ xs = [.str ⟨#[c]⟩] ∧ c ∈ y.cps.toList ∧ Q (.int ((y.cps.toList.idxOf c : Nat) : Int)) H) := by
  intro pins s σ H x xs v us Q I rx rv h
  obtain ⟨y, c, rfl, rfl, hc, q⟩ := h
  obtain ⟨t, rfl⟩ := rx
  obtain ⟨u, rfl, t', rfl⟩ := rv.one
  rcases StrLaws.occ_head y ⟨#[c]⟩ 1 (Nat.le_refl _) with ⟨_, no⟩ | ⟨i, r, ho, hat, hno⟩
  · obtain ⟨i, hi⟩ := List.getElem?_of_mem hc
    exact absurd ((StrLaws.subAt_one y c i).mpr hi) (no i)
  · have e := first_is ((StrLaws.subAt_one y c i).mp hat) fun k hk z => hno k hk ((StrLaws.subAt_one y c k).mpr z)
    rw [e] at q
    exact call_gives F.slot_str_index (typeIs_str s y t) F.entry_str_index (F.args_str_index_2 _ _) (gives_str_index y ⟨#[c]⟩ t t' i r ho) ⟨.int _, H, I.tok _, ⟨_, rfl⟩, q⟩
end
end L2

end

section
namespace L2
open PySem PySem.W PySem.Spec PyProof.Rows
theorem note_same {e : Value} {env env' : Env} (h : env.frame = env'.frame) : noteFrame e env = noteFrame e env' := by
  unfold noteFrame PySem.frameOf
  rw [h]
theorem ff_keep {h h' base : Heap} : ∀ {l : List Env}, h.FunFrames base l → (∀ b o, b ∈ l.filterMap (·.frame) → h.get? b = some o → (∀ vs, o.data ≠ .fields vs) → h'.get? b = some o) → h'.FunFrames base l
  | [], _, _ => trivial
  | env :: rest, hl, k => by
    obtain ⟨hk, ⟨L, o, hf, hn, ho, hd⟩, hr⟩ := hl
    have hm : L ∈ (env :: rest).filterMap (·.frame) := by rw [List.filterMap_cons, hf]; exact List.mem_cons_self
    refine ⟨hk, ⟨L, o, hf, hn, k L o hm ho hd, hd⟩, ff_keep hr fun b o hb => k b o ?_⟩
    rw [List.filterMap_cons, hf]
    exact List.mem_cons_of_mem _ hb
section
variable {M : Model} {A : Around} {E : Value → Shared → Prop} {s : Shared} {base : Heap} {env : Env} {outer : List Env} {L e T : Addr} {Q : Unit → Shared → Prop} {cls : Value} {d : Option Addr} {fl : Value}
theorem noteAny (hfr : A.frames = some (env :: outer)) (hl : s.heap.FunFrames base (env :: outer)) (hf : env.frame = some L) (ht : Fly s.heap e cls d T fl)
    (h : ∀ h' T', Fly h' e cls d T' (rawInt L) → (T' = T ∨ s.heap.get? T' = none) → h'.FunFrames base (env :: outer) → Stn ((env :: outer).filterMap (·.frame)) e (some T) s.heap h' → Q () { s with heap := h' }) : wpAny M A (noteFrame (.ref e) env) Q E s := by
  by_cases z : fl = rawInt L
  · subst z
    obtain ⟨oe, vs, oT, ts, he, hc, hdd, hd, h1, hTe, hT, hdT, h3, hcx⟩ := id ht
    exact wpAny_noteFrame_inFlight hf he hd h1 hT hdT h3 (h s.heap T ht (.inl rfl) hl ⟨fun b o _ _ _ e => e, fun b o _ _ e => ⟨o.slots, e⟩⟩)
  obtain ⟨oe, vs, oT, ts, he, hc, hdd, hd, h1, hTe, hT, hdT, h3, hcx⟩ := ht
  unfold noteFrame
  simp only [hf]
  refine wpAny_bind (wpAny_field he hd h1 ?_)
  rw [if_pos (show (Value.ref T != Value.none) = true from by simp)]
  refine wpAny_bind (wpAny_field hT hdT h3 ?_)
  rw [if_neg (show ¬ ((fl == rawInt L) = true) from fun y => z (beq_iff_eq.mp y))]
  refine wpAny_bind (wpAny_setField hT hdT (Array.getElem?_eq_some_iff.mp h3).1 ?_)
  have other : ∀ b, b ≠ T → (s.heap.update T (Obj.mapFields (·.setIfInBounds 3 Value.none))).get? b = s.heap.get? b := fun b hb => Heap.get?_update_other _ _ (Ne.symm hb)
  have noRec : ∀ b o, s.heap.get? b = some o → (∀ vs, o.data ≠ .fields vs) → b ≠ T := fun b o hb hnf q => by
    rw [q, hT] at hb; injection hb with hb; subst hb; exact hnf ts hdT
  have back : ∀ b, (s.heap.update T (Obj.mapFields (·.setIfInBounds 3 Value.none))).get? b = none → s.heap.get? b = none := fun b hb => by
    by_cases zz : b = T
    · subst zz
      rw [Heap.get?_update_self _ hT (Obj.isFreed_of_fields (Obj.data_mapFields hdT _))] at hb; cases hb
    · rw [other b zz] at hb; exact hb
  subst hc hdd
  refine entryD (s := { s with heap := s.heap.update T (Obj.mapFields (·.setIfInBounds 3 Value.none)) }) hfr (hl.of_keeps fun b o hb hnf => ⟨o, (other b (noRec b o hb hnf)).trans hb, rfl⟩) hf ((other e (Ne.symm hTe)).trans he) hd (Array.getElem?_eq_some_iff.mp h1).1 hcx fun h' T' x1 x2 x3 x4 => ?_
  exact h h' T' x1 (.inr (back _ x2)) x3 ⟨fun b o h1 h2 h3 h4 => x4.keep b o h1 (by simp) h3 ((other b (fun z => h2 (by rw [z]))).trans h4), fun b o h1 h2 h4 => x4.slot b o h1 (by simp) ((other b (fun z => h2 (by rw [z]))).trans h4)⟩
end
structure StnZ (fs Z : List Addr) (h h' : Heap) : Prop where
  keep : ∀ b o, b ∉ Z → b ∉ fs → h.get? b = some o → h'.get? b = some o
  slot : ∀ b o, b ∉ Z → h.get? b = some o → ∃ sl, h'.get? b = some { o with slots := sl }
theorem stnZ_un {X : Cx} {pins : List (Addr × Obj)} {σ : St} {H1 : Hp} {s1 : Shared} {h' : Heap} {Z : List Addr} (I : Inv X pins σ H1 s1) (hx : X.ex = []) (S : StnZ (frs X.stack) Z s1.heap h')
    (nz : ∀ z, z ∈ Z → X.s₀.heap.get? z = none) (fz : ∀ z, z ∈ Z → H1 z = none) : Un (frs X.outer) [] X.H₀ H1 X.s₀.heap h' ∧ HOk X.prog X.w H1 h' := by
  have B := I.base
  rw [hx] at B
  have neZ : ∀ b o, X.s₀.heap.get? b = some o → b ∉ Z := fun b o e z => by rw [nz b z] at e; cases e
  have neL : ∀ b o, X.s₀.heap.get? b = some o → b ≠ X.env.locals := fun b o e => Nat.ne_of_lt (Nat.lt_of_lt_of_le (Heap.lt_size e) I.ok.above)
  refine ⟨⟨fun b o e n hb hx => ?_, fun b o e n hb hx => ?_, B.free, fun b o e hx => ?_, B.tups, B.frzs, B.tbls⟩, fun b u e => (I.hok b u e).stay (fun c v hc q => ?_) (fun _ q => q) fun _ _ q => q⟩
  · refine S.keep b o (neZ b o e) (fun z => ?_) (B.keep b o e n hb hx)
    exact (List.mem_cons.mp (I.stkSub b z)).elim (neL b o e) hb
  · obtain ⟨sl, e1⟩ := B.slot b o e n hb hx
    obtain ⟨sl', e2⟩ := S.slot b _ (neZ b o e) e1
    exact ⟨sl', e2⟩
  · obtain ⟨o', e1⟩ := B.there b o e hx
    obtain ⟨sl', e2⟩ := S.slot b _ (neZ b o e) e1
    exact ⟨_, e2⟩
  · have hcn : ∃ z, H1 c = some z := by
      rcases hc with rfl | hc
      · exact ⟨_, e⟩
      · exact ⟨_, hc⟩
    obtain ⟨z, hz⟩ := hcn
    refine S.keep c v (fun y => ?_) (fun y => ?_) q
    · rw [fz c y] at hz; cases hz
    · rw [I.stkFree c y] at hz; cases hz
def leavE (X : Cx) (E : XK) : Value → Shared → Prop := fun e s' => wpAny (model X.prog X.w) X.A (leaving X.env e) (fun _ s'' => CXe X.prog X.w X.outer X.H₀ X.s₀ E e s'') (fun e' s'' => CXe X.prog X.w X.outer X.H₀ X.s₀ E e' s'') s'
theorem comp_throw {X : Cx} {E : XK} {use : Option (Value → Sem Unit)} {Qf : Value → Shared → Prop} {acc : Value} {cenv : Env} {pins : List (Addr × Obj)} {σ : St} {H2 : Hp} {s8 : Shared} {a C T Cl : Addr} {d : Option Addr}
    (hxe : X.xe = leavE X E) (hs : X.stack = X.env :: X.outer) (hf : X.env.frame = some X.env.locals) (hex : X.ex = []) (I : Inv X pins σ H2 s8) (fly : Fly s8.heap a (.ref C) d T .none) (fa : H2 a = none) (fT : H2 T = none)
    (na : X.s₀.heap.get? a = none) (nT : X.s₀.heap.get? T = none) (q : E (.ref C) d H2) (hC : H2 Cl = none) (nC : X.s₀.heap.get? Cl = none) (hCf : Cl ∉ frs X.stack) (hNs : ∃ m, s8.heap.Ns Cl m) (hcf : cenv.frame = X.env.frame) :
    notedBy (model X.prog X.w) X.A cenv (fun e s' => compPost (model X.prog X.w) X.A X.xe use Qf acc Cl (.error e) s') (.ref a) s8 := by
  unfold notedBy
  rw [note_same hcf]
  have fr : X.A.frames = some (X.env :: X.outer) := I.ok.frames.trans (congrArg some hs)
  have fst : s8.heap.FunFrames X.base (X.env :: X.outer) := hs ▸ I.stack
  have efs : frs X.stack = (X.env :: X.outer).filterMap (·.frame) := by rw [hs]; rfl
  have hCf' : Cl ∉ (X.env :: X.outer).filterMap (·.frame) := by rw [← efs]; exact hCf
  refine noteD fr fst hf fly fun h9 T' x1 x2 x3 x4 => ?_
  suffices hgo : ∃ m, h9.Ns Cl m ∧ ∀ h', Heap.SameBut Cl h9 h' → ∀ cenv : Env, cenv.locals = Cl → wpAny (model X.prog X.w) X.A (PySem.passOn "comprehension.variables-let-go" (.ref a) cenv : Sem Value) (fun _ _ => False) X.xe { s8 with heap := h' } by
    cases use <;> exact hgo
  obtain ⟨m, oC, es, ep, hoC, hdC, rC⟩ := hNs
  have noF : ∀ {h : Heap} {b : Addr} {o : Obj} {vs : Array Value}, h.get? b = some o → o.data = .fields vs → h.get? Cl = some oC → b ≠ Cl := fun e1 e2 e3 z => by
    subst z
    rw [e1] at e3; cases e3
    rw [hdC] at e2; cases e2
  have hCa : Cl ≠ a := by
    obtain ⟨oe, vs, oT, ts, he, hc, hdd, hd, _⟩ := fly
    exact (noF he hd hoC).symm
  have hCT : Cl ≠ T := by
    obtain ⟨oe, vs, oT, ts, he, hc, hdd, hd, h1, hTe, hT, hdT, _⟩ := fly
    exact (noF hT hdT hoC).symm
  have nsK : h9.get? Cl = some oC := x4.keep Cl oC hCa (fun z => hCT (Option.some.inj z)) hCf' hoC
  refine ⟨m, ⟨oC, es, ep, nsK, hdC, rC⟩, fun h' sb cenv' _ => ?_⟩
  obtain ⟨oe, vs, oT, ts, he, hc, hdd, hd, h1, hTe, hT, hdT, h3, hcx⟩ := id x1
  have hCT' : T' ≠ Cl := noF hT hdT nsK
  have he' : h'.get? a = some oe := sb.extBut a oe (Ne.symm hCa) he
  have hT' : h'.get? T' = some oT := sb.extBut _ _ hCT' hT
  have hsz3 : 3 < ts.size := (Array.getElem?_eq_some_iff.mp h3).1
  have step : wpAny (model X.prog X.w) X.A (setFlight (.ref a) cenv'.frame) (fun _ s₂ => X.xe (.ref a) s₂) X.xe { s8 with heap := h' } := by
    unfold setFlight
    refine wpAny_bind (wpAny_field he' hd h1 ?_)
    rw [if_pos (show (Value.ref T' != Value.none) = true from by simp)]
    refine wpAny_setField hT' hdT hsz3 ?_
    generalize hfl : (cenv'.frame.elim Value.none fun f => rawInt f) = fl
    have other : ∀ b, b ≠ T' → (h'.update T' (Obj.mapFields (·.setIfInBounds 3 fl))).get? b = h'.get? b := fun b hb => Heap.get?_update_other _ _ (Ne.symm hb)
    have fly2 : Fly (h'.update T' (Obj.mapFields (·.setIfInBounds 3 fl))) a (.ref C) d T' fl := ⟨oe, vs, _, _, (other a (Ne.symm hTe)).trans he', hc, hdd, hd, h1, hTe, Heap.get?_update_self _ hT' (Obj.isFreed_of_fields (Obj.data_mapFields hdT _)), Obj.data_mapFields hdT _, by simp [hsz3], hcx⟩
    have k11 : ∀ b o, b ≠ Cl → b ≠ T' → h9.get? b = some o → (h'.update T' (Obj.mapFields (·.setIfInBounds 3 fl))).get? b = some o := fun b o b1 b2 e => (other b b2).trans (sb.extBut b o b1 e)
    have ff2 : (h'.update T' (Obj.mapFields (·.setIfInBounds 3 fl))).FunFrames X.base (X.env :: X.outer) := ff_keep x3 fun b o hb e hnf => k11 b o (fun z => hCf' (z ▸ hb)) (fun z => by
      rw [z, hT] at e; cases e; exact hnf ts hdT) e
    generalize (h'.update T' (Obj.mapFields (·.setIfInBounds 3 fl))) = h11 at fly2 ff2 k11 ⊢
    rw [hxe]
    unfold leavE leaving
    refine wpAny_bind (noteAny (s := { s8 with heap := h11 }) fr ff2 hf fly2 fun h12 T'' y1 y2 y3 y4 => ?_)
    refine landD (s := { s8 with heap := h12 }) y3 y1 fun h13 z1 z2 z3 => ?_
    have nT' : ∀ b o, s8.heap.get? b = some o → b ≠ T' := fun b o e z => by rw [z, x2] at e; cases e
    have to11 : ∀ b o, b ∉ [a, T, Cl] → s8.heap.get? b = some o → ∃ sl, h11.get? b = some { o with slots := sl } := fun b o hb e => by
      simp only [List.mem_cons, List.not_mem_nil, or_false, not_or] at hb
      obtain ⟨sl, e9⟩ := x4.slot b o hb.1 (fun z => hb.2.1 (Option.some.inj z)) e
      exact ⟨sl, k11 b _ hb.2.2 (nT' b o e) e9⟩
    have nT'' : ∀ b o, b ∉ [a, T, Cl] → s8.heap.get? b = some o → b ≠ T'' := fun b o hb e z => by
      rcases y2 with y | y
      · exact nT' b o e (z.trans y)
      · obtain ⟨sl, e11⟩ := to11 b o hb e
        have y' : h11.get? T'' = none := y
        rw [z, y'] at e11; cases e11
    have S : StnZ (frs X.stack) [a, T, Cl] s8.heap h13 := by
      refine ⟨fun b o hb hbf e => ?_, fun b o hb e => ?_⟩
      · have hb' := hb
        simp only [List.mem_cons, List.not_mem_nil, or_false, not_or] at hb'
        rw [efs] at hbf
        refine z3 b o (nT'' b o hb e) (y4.keep b o hb'.1 (fun z => nT' b o e (Option.some.inj z)) hbf ?_)
        exact k11 b o hb'.2.2 (nT' b o e) (x4.keep b o hb'.1 (fun z => hb'.2.1 (Option.some.inj z)) hbf e)
      · have hb' := hb
        simp only [List.mem_cons, List.not_mem_nil, or_false, not_or] at hb'
        obtain ⟨sl, e11⟩ := to11 b o hb e
        obtain ⟨sl', e12⟩ := y4.slot b _ hb'.1 (fun z => nT' b o e (Option.some.inj z)) e11
        exact ⟨sl', z3 b _ (nT'' b o hb e) e12⟩
    have nz : ∀ z, z ∈ [a, T, Cl] → X.s₀.heap.get? z = none := fun z hz => by
      simp only [List.mem_cons, List.not_mem_nil, or_false] at hz
      rcases hz with rfl | rfl | rfl
      · exact na
      · exact nT
      · exact nC
    have fz : ∀ z, z ∈ [a, T, Cl] → H2 z = none := fun z hz => by
      simp only [List.mem_cons, List.not_mem_nil, or_false] at hz
      rcases hz with rfl | rfl | rfl
      · exact fa
      · exact fT
      · exact hC
    obtain ⟨u, hk⟩ := stnZ_un I hex S nz fz
    have n8 : T'' ∉ [a, T, Cl] → s8.heap.get? T'' = none := fun hz => by
      cases e : s8.heap.get? T'' with
      | none => rfl
      | some o => exact absurd rfl (nT'' T'' o hz e)
    have f2 : H2 T'' = none := by
      by_cases hz : T'' ∈ [a, T, Cl]
      · exact fz _ hz
      · exact I.hok.none (n8 hz)
    have n2 : X.s₀.heap.get? T'' = none := by
      by_cases hz : T'' ∈ [a, T, Cl]
      · exact nz _ hz
      · cases e : X.s₀.heap.get? T'' with
        | none => rfl
        | some o =>
          obtain ⟨o', e'⟩ := I.base.there T'' o e (by rw [hex]; simp)
          rw [n8 hz] at e'; cases e'
    exact ⟨a, C, d, H2, T'', rfl, I.os, I.bare, u, hk, z1, fa, f2, na, n2, q⟩
  unfold PySem.passOn
  refine wpAny_bind (wpAny_field he' hd h1 ?_)
  rw [if_neg (show ¬ ((Value.ref T' == Value.none) = true) from by simp)]
  exact wpAny_bind (thn step fun _ s₂ h => wpAny_throw h)
def compXe (Y : Cx) (E : XK) : Value → Shared → Prop := fun e s' => ∃ (pins : List (Addr × Obj)) (σ1 : St) (H1 : Hp) (s1 : Shared), Inv Y pins σ1 H1 s1 ∧ CXe Y.prog Y.w Y.stack H1 s1 E e s'
def cxCompX (X : Cx) (E : XK) (scope : Scope) (cl : List (Str × Addr)) (C : Addr) (N : List Str) (s2 : Shared) (H2 : Hp) (fp : List Addr) : Cx := (cxComp X scope cl C N s2 H2 fp).wish (compXe (cxComp X scope cl C N s2 H2 fp) E)
theorem passes_comp {X : Cx} {E : XK} {scope : Scope} {cl : List (Str × Addr)} {C : Addr} {N : List Str} {s2 : Shared} {H2 : Hp} {fp : List Addr} : PassesX (CXe X.prog X.w) (cxCompX X E scope cl C N s2 H2 fp) fun _ => E :=
  fun pins σ H s e s' I h => ⟨pins, σ, H, s, I.unwish, h⟩
section
variable {X : Cx} {elt target iter : Expr} {ifs : List Expr} {scope : Scope} {pos p : Pos} {caps : List (Nat × Str)} {tgs : List Str} {wi : TI} {g : TG} {tc : TT} {te : TE}
set_option maxHeartbeats 1000000
theorem comp_coreE {E : XK} {use : Option (Value → Sem Unit)} {Qf : Value → Shared → Prop} {pins : List (Addr × Obj)} {σ : St} {H : Hp} {s : Shared} {Q : VK}
    (hxe : X.xe = leavE X E) (hst : X.stack = X.env :: X.outer) (hfrm : X.env.frame = some X.env.locals) (hex : X.ex = []) (hc : X.calm = true) (hsc : compScopeOk scope (caps.map (·.2)) = true) (hcap : CapsOk X caps) (hi : PI X target iter wi)
    (hg : ∀ cl C s2 H2 fp, PG (cxCompX X E scope cl C (tgs ++ caps.map (·.2)) s2 H2 fp) target g)
    (ht : ∀ cl C s2 H2 fp, PTs (cxCompX X E scope cl C (tgs ++ caps.map (·.2)) s2 H2 fp) ifs tc)
    (he : ∀ cl C s2 H2 fp, PE (cxCompX X E scope cl C (tgs ++ caps.map (·.2)) s2 H2 fp) elt te)
    (I : Inv X pins σ H s) (h : tComp wi g tc te (compSt tgs caps) σ H Q)
    (fin : ∀ D C H' s', Inv X pins σ H' s' → Q (.ref D) H' → H' C = none → C ≠ X.env.locals → X.s₀.heap.objs.size ≤ C → (∀ x c, X.env.cells.lookup x = some c → c ≠ C) → (∀ p ∈ X.pn ++ pins, p.1 ≠ C) → (∃ m, s'.heap.Ns C m) →
      compPost (model X.prog X.w) X.A X.xe use Qf (.ref D) C (.ok .next) s')
    (hs : ∀ x, foldedSetIterable iter X.env x = pure x := by intro _; rfl) :
    wpAny (model X.prog X.w) X.A (comprehension (.ListComp elt [⟨target, iter, ifs, 0⟩] scope pos) scope X.env p (newList []) false (eval iter X.env) use) Qf X.xe s := by
  simp only [compScopeOk, Bool.and_eq_true, List.all_eq_true, beq_iff_eq, bne_iff_ne, Bool.or_eq_true, List.contains_iff_mem] at hsc
  obtain ⟨⟨⟨⟨k1, k2⟩, k3⟩, k4⟩, k5⟩ := hsc
  have hnames : ∀ y ∈ scope.names, y.2 = .local → scope.names.lookup y.1 = some .local := fun y hy hl => (k3 y hy).resolve_left fun z => z hl
  have capAt := hcap.at
  have hfr : ∀ y ∈ scope.names, y.2 = .free → ∃ c, X.env.cells.lookup y.1 = some c := fun y hy hf => by
    have hm := (k4 y hy).resolve_left fun z => z hf
    obtain ⟨q, hq, e⟩ := List.mem_map.mp hm
    have := (capAt q hq).2
    rw [e] at this
    exact I.ok.has _ this
  obtain ⟨cl, hcl, hin, hall, _⟩ := closure_of scope.names hfr [] (fun x c e => by cases e)
  have hclos : closureFor scope X.env = pure cl := by
    refine (show closureFor scope X.env = (_ >>= pure) from rfl).trans ((congrArg (· >>= pure) hcl).trans ?_)
    rfl
  refine wpAny_comprehension_free (use := use) rfl hs hclos k1 hnames (thn (hi pins s σ H _ I h) fun v s1 h1 => thn h1 fun itv s2 h2 => ?_)
  obtain ⟨it, fp, tn, J, H2, e, I2, T, st2, f2, hW⟩ := h2
  subst e
  have fD : H2 s2.heap.objs.size = none := I2.fresh
  obtain ⟨W, ⟨m0, w0⟩, turn⟩ := hW _ fD
  refine wpAny_newObj_type (wpAny_newFunctionEnv k2 (by intro y hy; simp at hy) (fun h₁ hns₁ hsb₁ => ?_) k1)
  dsimp only at hns₁ hsb₁ ⊢
  generalize hH3 : s2.heap.push { cls := .type "list", dict := none, data := .seq ([] : List Value).toArray } = H3 at hns₁ hsb₁ ⊢
  have hC : H3.objs.size = s2.heap.objs.size + 1 := by rw [← hH3, Heap.size_push]
  have hDC : s2.heap.objs.size ≠ H3.objs.size := by rw [hC]; exact Nat.ne_of_lt (Nat.lt_succ_self _)
  have hCle : s2.heap.objs.size ≤ H3.objs.size := by rw [hC]; exact Nat.le_succ _
  have below : ∀ b, b < s2.heap.objs.size → b ≠ H3.objs.size := fun b hb => by rw [hC]; exact Nat.ne_of_lt (Nat.lt_succ_of_lt hb)
  have old : ∀ b o, s2.heap.get? b = some o → h₁.get? b = some o := fun b o e => hsb₁.extBut b o (below b (Heap.lt_size e)) (Heap.get?_push_of_some _ (hH3 ▸ Heap.get?_push_of_some _ e))
  have hacc : h₁.get? s2.heap.objs.size = some { cls := .type "list", dict := none, data := .seq ([] : List Value).toArray } := hsb₁.extBut _ _ hDC (Heap.get?_push_of_some _ (hH3 ▸ Heap.get?_push_size _ rfl))
  have fC : H2 H3.objs.size = none := I2.hok.fresh hCle
  have fpl : ∀ b ∈ fp, b < s2.heap.objs.size := fun b hb => by
    obtain ⟨o, ho, _⟩ := T.obj _ _ st2 b hb
    exact Heap.lt_size ho
  -- the block's context
  let X' := cxCompX X E scope cl H3.objs.size (tgs ++ caps.map (·.2)) s2 H2 fp
  have ok' : X'.Ok := by
    refine ⟨I2.ok.mod, k1, I2.ok.glob, I2.ok.blt, hCle, fun x y c hx hy => I2.ok.inj x y c (hin _ _ hx) (hin _ _ hy), fun x hx => ?_, (fun x c hf => nomatch hf), I2.ok.hd, I2.ok.frames, .inl rfl, fun b hb => ⟨below b (fpl b hb), fun x c hx => (f2 b hb).2.2.2.2.1 x c (hin _ _ hx)⟩, I2.bs,
      Nat.le_trans I2.ok.bsz I2.sz, fun b o e hb => ?_, fun b hb z => ?_, I2.stack, I2.stkFree⟩
    · exact hall (x, .free) (mem_lookup_free (relabel_back hx k2)) rfl
    · rcases (f2 b hb).2.2.2.1 with z | z
      · exact I2.ok.noex b o e z
      · exact absurd (Nat.lt_of_lt_of_le (Heap.lt_size e) I2.ok.bsz) (Nat.not_lt.mpr z)
    · rcases List.mem_cons.mp (I2.stkSub b z) with q | q
      · exact (f2 b hb).2.1 q
      · exact (f2 b hb).2.2.1 q
  have un4 : Un (frs X.stack) fp H2 (upd H2 s2.heap.objs.size (.lst [])) s2.heap h₁ := Un.laid old (Nat.le_refl _) fD
  have hok4 : HOk X.prog X.w (upd H2 s2.heap.objs.size (.lst [])) h₁ := I2.hok.laid old (Nat.le_refl _) ⟨Nat.zero_le _, [], 0, .nil, hacc⟩
  have I4 : ∀ tk, Inv X' [] (compSt tgs caps σ) (upd H2 s2.heap.objs.size (.lst [])) { s2 with heap := h₁, toks := tk } := fun tk => by
    refine ⟨ok', rfl, I2.bare, un4, ⟨_, hns₁, fun i x v e1 e2 e3 => ?_⟩, fun x c hx => ?_, ?_, fun x c hx => ?_, fun q hq => ?_, hok4, ?_⟩
    · -- a captured name
      obtain ⟨m2, _, hl2⟩ := I2.loc
      have hlt : tgs.length ≤ i := by
        rcases Nat.lt_or_ge i tgs.length with z | z
        · have : (compSt tgs caps σ)[i]? = some none := by
            unfold compSt
            rw [List.getElem?_append_left (by simpa using z), List.getElem?_replicate, if_pos z]
          rw [this] at e2
          cases e2
        · exact z
      have e1' : (tgs ++ caps.map (·.2))[i]? = some x := e1
      rw [List.getElem?_append_right hlt, List.getElem?_map] at e1'
      have e2' : (caps.map fun p => (σ[p.1]?).join)[i - tgs.length]? = some (some v) := by
        have : (compSt tgs caps σ)[i]? = (caps.map fun p => (σ[p.1]?).join)[i - tgs.length]? := by
          unfold compSt
          rw [List.getElem?_append_right (by simpa using hlt), List.length_replicate]
        rw [← this]
        exact e2
      rw [List.getElem?_map] at e2'
      cases hq : caps[i - tgs.length]? with
      | none => rw [hq] at e1'; cases e1'
      | some q =>
        rw [hq] at e1' e2'
        obtain rfl : q.2 = x := Option.some.inj e1'
        have e2'' : (σ[q.1]?).join = some v := Option.some.inj e2'
        have hσ : σ[q.1]? = some (some v) := by
          cases z : σ[q.1]? with
          | none => rw [z] at e2''; cases e2''
          | some y => rw [z] at e2''; exact congrArg some e2''
        have hqm : q ∈ caps := List.mem_of_getElem? hq
        obtain ⟨n1, n2⟩ := capAt q hqm
        have hvis : Vis X.env.scope q.2 := by
          rcases n2 with z | z
          · exact .inr (.inl z)
          · exact .inr (.inr z)
        obtain ⟨u, ru, lk⟩ := hl2 q.1 q.2 v n1 hσ hvis
        have hfree : scope.names.lookup q.2 = some .free := k5 q.2 (List.mem_map_of_mem hqm)
        refine ⟨u, ru, .inr ⟨relabel_free hfree, ?_⟩⟩
        rcases lk with ⟨z, _⟩ | ⟨_, c, hcc, oc, hoc, hocd⟩
        · rcases n2 with y | y <;> (rw [y] at z; cases z)
        · obtain ⟨c', hc'⟩ := hall (q.2, .free) (mem_lookup_free hfree) rfl
          have := hin _ _ hc'
          rw [hcc] at this
          cases this
          exact ⟨c, hc', oc, old _ _ hoc, hocd⟩
    · obtain ⟨v, o, ho, hd⟩ := I2.cell x c (hin _ _ hx)
      exact ⟨v, o, old _ _ ho, hd⟩
    · show upd H2 s2.heap.objs.size (.lst []) H3.objs.size = none
      rw [upd_ne (Ne.symm hDC)]
      exact fC
    · have hcf := I2.freeC x c (hin _ _ hx)
      obtain ⟨v, o, ho, hd⟩ := I2.cell x c (hin _ _ hx)
      rw [upd_ne (Nat.ne_of_lt (Heap.lt_size ho))]
      exact hcf
    · have : q ∈ ([] : List (Addr × Obj)) := hq
      cases this
    · show (compSt tgs caps σ).length = (tgs ++ caps.map (·.2)).length
      simp [compSt]
  have stat : ∀ {pins' : List (Addr × Obj)} {H' : Hp}, (∀ b ∈ fp, H' b = none) → (∀ q ∈ pins', q.1 ∉ fp) → ∀ b ∈ fp, FpOk X' pins' H' b := fun hn hp b hb =>
    ⟨hn b hb, below b (fpl b hb), fun z => by
      rcases List.mem_cons.mp (I2.stkSub b z) with q | q
      · exact (f2 b hb).2.1 q
      · exact (f2 b hb).2.2.1 q, .inl hb, fun x c hx => (f2 b hb).2.2.2.2.1 x c (hin _ _ hx), fun q hq z => hp q hq (z ▸ hb)⟩
  have noPin : ∀ q ∈ ([] : List (Addr × Obj)), q.1 ∉ fp := fun _ z => nomatch z
  have tn0 : tn 0 h₁ := T.keep _ _ _ st2 fun b hb o e => old b o e
  have fr0 : ∀ b ∈ fp, (upd H2 s2.heap.objs.size (.lst [])) b = none := fun b hb => by
    rw [upd_ne (Nat.ne_of_lt (fpl b hb))]
    exact (f2 b hb).1
  have err : ∀ e s8, X'.xe e s8 → notedBy (model X.prog X.w) X.A (compEnvC scope cl H3.objs.size X.env) (fun e s' => compPost (model X.prog X.w) X.A X.xe use Qf (.ref s2.heap.objs.size) H3.objs.size (.error e) s') e s8 := by
    rintro e s8 ⟨pins1, σ1, H1, s1, I1, a, C, d, H2', T', rfl, os, bare, un, hok, fly, fa, fT, na, nT, q⟩
    have I8 : Inv (cxComp X scope cl H3.objs.size (tgs ++ caps.map (·.2)) s2 H2 fp) pins1 σ1 H2' s8 := I1.call' (ch := []) os un hok bare (fun b z => absurd z (by simp))
    have J8 : Inv X pins σ H2' s8 := I2.call' I8.os I8.base I8.hok I8.bare fun b hb => ⟨(f2 b hb).2.2.2.1, (f2 b hb).2.1, (f2 b hb).2.2.2.2.1, (f2 b hb).2.2.2.2.2⟩
    have old0 : ∀ b, s1.heap.get? b = none → X.s₀.heap.get? b = none := fun b hb => by
      cases z : X.s₀.heap.get? b with
      | none => rfl
      | some o =>
        obtain ⟨o', e'⟩ := I2.base.there b o z (by rw [hex]; simp)
        have nfp : b ∉ fp := fun hm => by
          rcases (f2 b hm).2.2.2.1 with y | y
          · rw [hex] at y; cases y
          · exact absurd (Heap.lt_size z) (Nat.not_lt.mpr y)
        obtain ⟨o'', e''⟩ := I1.base.there b o' e' nfp
        rw [hb] at e''; cases e''
    refine comp_throw hxe hst hfrm hex J8 fly fa fT (old0 a na) (old0 T' nT) q I8.free ?_ ?_ ?_ rfl
    · exact Heap.get?_none_of_le (Nat.le_trans I2.sz hCle)
    · intro hm
      obtain ⟨_, o, ho, _⟩ := I2.stack.mem hm
      exact below _ (Heap.lt_size ho) rfl
    · obtain ⟨m, hm, _⟩ := I8.loc
      exact ⟨m, hm⟩
  have loop : ∀ s₃ : Shared, s₃ = { s2 with heap := h₁, toks := s2.toks + ([] : List (Str × Value)).length } →
      codeAny (model X.prog X.w) X.A (.compLoop (.ListComp elt [⟨target, iter, ifs, 0⟩] scope pos) 0 (.ref it) (.ref s2.heap.objs.size) (compEnvC scope cl H3.objs.size X.env))
        (compPost (model X.prog X.w) X.A X.xe use Qf (.ref s2.heap.objs.size) H3.objs.size) s₃ := by
    rintro s₃ rfl
    refine compLoop_gen (fun n s' => ∃ i σ' H', Inv X' [] σ' H' s' ∧ tn i s'.heap ∧ (∀ b ∈ fp, H' b = none) ∧ W i n σ' H') ?_ m0 ⟨0, _, _, I4 _, tn0, fr0, w0⟩
    rintro n s3 ⟨i, σ3, H3', I3, st3, fr3, w3⟩
    rcases turn i n σ3 H3' w3 with ⟨stop, qn⟩ | ⟨go, step⟩
    · refine thn (T.done X' rfl rfl rfl hc i [] s3 σ3 H3' _ I3 (stat fr3 noPin) st3 stop) fun r s4 ⟨hr, I4'⟩ => ?_
      subst hr
      have un := I4'.base
      refine fin _ _ H3' s4 (I2.call' I4'.os un I4'.hok I4'.bare fun b hb => ?_) qn I4'.free ?_ (Nat.le_trans I2.sz hCle) ?_ ?_ ?_
      · exact ⟨(f2 b hb).2.2.2.1, (f2 b hb).2.1, (f2 b hb).2.2.2.2.1, (f2 b hb).2.2.2.2.2⟩
      · exact Ne.symm (below _ I2.lt)
      · intro x c hx
        obtain ⟨v, o, ho, hd⟩ := I2.cell x c hx
        exact below c (Heap.lt_size ho)
      · intro q hq
        obtain ⟨e, _⟩ := I2.pin q hq
        exact below _ (Heap.lt_size e)
      · obtain ⟨m, hm, _⟩ := I4'.loc
        exact ⟨m, hm⟩
    · refine thn (T.item X' rfl rfl rfl hc i [] s3 σ3 H3' _ I3 (stat fr3 noPin) st3 go) fun r s4 ⟨u, hr, h4⟩ => ?_
      subst hr
      refine thn h4 fun _ s5 ⟨x, H5, I5, r5, y5, st5, fr5⟩ => ?_
      have I5' := I5.pinned (stat fr5 noPin) (T.obj _ _ st5)
      refine wpAny_mono (hg _ _ _ _ _ _ s5 σ3 H5 x u _ I5' r5 (step x H5 y5)) (fun _ s6 ⟨σ6, H6, I6, q6⟩ => ?_) fun e s8 z => err e s8 z
      have again : ∀ {σ7 : St} {H7 : Hp} {s7 : Shared} {m' : Nat}, Inv X' ([] ++ pinsAt fp s5.heap) σ7 H7 s7 → m' < n → W (i + 1) m' σ7 H7 → ∃ m, m < n ∧ ∃ i σ' H', Inv X' [] σ' H' s7 ∧ tn i s7.heap ∧ (∀ b ∈ fp, H' b = none) ∧ W i m σ' H' := fun {σ7 H7 s7 m'} I7 hm w7 => by
        refine ⟨m', hm, i + 1, σ7, H7, I7.unpinned, T.keep _ _ _ st5 fun b hb o e => (I7.pin (b, o) (List.mem_append_right _ (List.mem_append_right _ (mem_pinsAt hb e)))).1, fun b hb => ?_, w7⟩
        obtain ⟨o, e, d⟩ := T.obj _ _ st5 b hb
        exact (I7.pin (b, o) (List.mem_append_right _ (List.mem_append_right _ (mem_pinsAt hb e)))).2.1
      refine wpAny_mono (ht _ _ _ _ _ _ s6 σ6 H6 _ I6 q6) (fun ok s7 ⟨H7, I7, q7⟩ => ?_) fun e s8 z => err e s8 z
      cases ok with
      | false =>
        obtain ⟨m', hm, w7⟩ := q7
        exact again I7 hm w7
      | true =>
        refine wpAny_mono (he _ _ _ _ _ _ s7 σ6 H7 _ I7 q7) (fun yv s8 ⟨y, H8, I8, r8, q8⟩ => ?_) fun e s8 z => err e s8 z
        obtain ⟨xs, m', hD, hz, hm, w8⟩ := q8
        refine wpAny_mono (mt_append (X := X') _ s8 σ6 H8 (.ref s2.heap.objs.size) [y] (.ref s2.heap.objs.size) [yv] (fun _ H9 => W (i + 1) m' σ6 H9) I8 rfl (.cons r8 .nil) ⟨_, xs, y, rfl, rfl, hD, hz, w8⟩) (fun _ s9 ⟨_, H9, I9, _, q9⟩ => ?_) fun e s8 z => err e s8 z
        exact again I9 hm q9
  exact codeAny_compStart_list (loop _ rfl) (T.self _ 0 _ _ _ tn0 (loop _ rfl))
theorem pe_compE {E : XK} {g : BK TG} {tc : BK TT} {te : BK TE} (tgs : List Str) (caps : List (Nat × Str)) (hxe : X.xe = leavE X E) (hc : X.calm = true) (hsc : compScopeOk scope (caps.map (·.2)) = true) (hcap : CapsOk X caps) (hi : PI X target iter wi)
    (hg : ∀ cl C s2 H2 fp, PG (cxCompX X E scope cl C (tgs ++ caps.map (·.2)) s2 H2 fp) target (g cl C s2 H2 fp))
    (ht : ∀ cl C s2 H2 fp, PTs (cxCompX X E scope cl C (tgs ++ caps.map (·.2)) s2 H2 fp) ifs (tc cl C s2 H2 fp))
    (he : ∀ cl C s2 H2 fp, PE (cxCompX X E scope cl C (tgs ++ caps.map (·.2)) s2 H2 fp) elt (te cl C s2 H2 fp))
    (eg : ∀ cl C s2 H2 fp, g cl C s2 H2 fp = g [] 0 X.s₀ X.H₀ [] := by intros; rfl) (et : ∀ cl C s2 H2 fp, tc cl C s2 H2 fp = tc [] 0 X.s₀ X.H₀ [] := by intros; rfl) (ee : ∀ cl C s2 H2 fp, te cl C s2 H2 fp = te [] 0 X.s₀ X.H₀ [] := by intros; rfl)
    (hst : X.stack = X.env :: X.outer := by rfl) (hfr : X.env.frame = some X.env.locals := by rfl) (hex : X.ex = [] := by rfl)
    (hs : ∀ x, foldedSetIterable iter X.env x = pure x := by intro _; rfl) :
    PE X (.ListComp elt [⟨target, iter, ifs, 0⟩] scope pos) (tComp wi (g [] 0 X.s₀ X.H₀ []) (tc [] 0 X.s₀ X.H₀ []) (te [] 0 X.s₀ X.H₀ []) (compSt tgs caps)) := by
  intro pins s σ H Q I h
  rw [eval_ListComp]
  refine comp_coreE (use := none) hxe hst hfr hex hc hsc hcap hi (fun cl C s2 H2 fp => eg cl C s2 H2 fp ▸ hg cl C s2 H2 fp) (fun cl C s2 H2 fp => et cl C s2 H2 fp ▸ ht cl C s2 H2 fp) (fun cl C s2 H2 fp => ee cl C s2 H2 fp ▸ he cl C s2 H2 fp) I h (fun D C H' s' I' q hC h1 h2 h3 h4 ⟨m, hm⟩ => ?_) hs
  refine ⟨m, hm, fun h' hsb => ?_⟩
  exact ⟨.ref D, H', I'.turned (t' := s'.toks) (fun b o hb e => hsb.extBut b o hb e) hC h1 (.inr h2) h3 h4, rfl, q⟩
end
def AnyME (P : Program) (w : World) (K : PySem.W.Frag) (mg : Str → Option Value) (base : Heap) (k : Nat) (m : Str) (ps : List Str) {ι : Type} (cl : ι → Addr) (sp : ι → Sp) : Prop := ∀ i, MethOkE P w K mg base k (cl i) m ps (sp i)
section
variable {X : Cx} {k1 k2 k' : Nat} {m : Str} {ps : List Str} {ι : Type} {cl : ι → Addr} {sp1 sp2 : ι → Sp} {e o : Expr} {es : List Expr} {t : TA} {ta : TE} {pos apos : Pos} {E : St → XK}
theorem pe_methAnyE2 {pl : Sem Bool} (h : AnyM X.prog X.w X.K X.mg X.base k1 m ps cl sp1) (h' : AnyME X.prog X.w X.K X.mg X.base k2 m ps cl sp2) (hr : Room k' X.A) (hx : PassesX (CXe X.prog X.w) X E) (he : PE X o ta) (ha : PA X (e :: es) t) (hk : k1 ≤ k' := by decide) (hk' : k2 ≤ k' := by decide)
    (hst : starEach (e :: es) X.env = (false, eval e X.env) :: starEach es X.env := by rfl) (hpl : (backTo pos (starEach es X.env)).any (·.1) = false := by rfl)
    (ht : eval (.Call (.Attribute o m apos) (e :: es) [] pos) X.env = (do
      let ov ← eval o X.env
      standAt apos.atName
      let (f, first) ← holding [ov] (getMethod ov m pl)
      callWith pos f first (backTo pos (starEach (e :: es) X.env)) (backToKw pos (keywordEach [] X.env))) := by rfl) :
    PE X (.Call (.Attribute o m apos) (e :: es) [] pos) (fun σ H Q => ta σ H fun x H1 => ∃ a i dx fs, x = .ref a ∧ H1 a = some (.ins (cl i) dx fs) ∧ fs.lookup m = none ∧ t σ H1 fun vs H2 => (sp1 i (x :: vs) H2 Q E0 ∨ sp2 i (x :: vs) H2 Q (E σ))) := by
  intro pins s σ H Q I hq
  refine PySem.W.methodCall_KW (pl := pl) (thn (he pins s σ H _ I hq) fun u s1 ⟨x, H1, I1, rx, a, i, dx, fs, ex, ea, l, q⟩ => ?_) ht
  subst ex
  obtain rfl : u = Value.ref a := rx
  obtain ⟨⟨f, fd, F, hb, hm⟩, c⟩ := h i
  obtain ⟨f2, fd2, F2, hb2, hm2⟩ := h' i
  obtain rfl : f = f2 := by
    have e1 := hm.at_
    rw [hm2.at_] at e1
    injection e1 with z; injection z with z; injection z with z; exact z.symm
  refine getmeth_ok I1 ea c hm l ?_
  refine PySem.W.callWith_K (first := [.ref a]) (h₀ := X.base) I.ok.mod.kin hm.kp (thn (ha pos pins s1 σ H1 _ I1 q) fun us s2 ⟨vs, H2, I2, r, q2⟩ => ⟨I2.kIn, ?_⟩) hst hpl
  exact run_E2 (us := .ref a :: us) (vs := .ref a :: vs) F F2 hb hb2 (hr.mono hk) (hr.mono hk') hx I2 (.cons rfl r) q2
end
theorem methE_none {P : Program} {w : World} {K : PySem.W.Frag} {mg : Str → Option Value} {base : Heap} {C : Addr} {m qual : Str} {st : Stmt} {ps : List Str} {k : Nat} {sp : Sp} (M : MethAt K C m qual st ps) (h : ∀ vs H Q E, ¬ sp vs H Q E) : MethOkE P w K mg base k C m ps sp := by
  obtain ⟨f, fd, F, hb, hm⟩ := M.ex
  exact ⟨f, fd, ⟨fun vs H Q E q => absurd q (h _ _ _ _), fun A outer s H args us vs Q E _ _ _ _ q => absurd q (h _ _ _ _)⟩, hb, hm⟩
end L2

end

section
namespace L2
open PySem PySem.W PySem.Spec PyProof.Rows PySem.SeqAt
def isNonD : D → Bool
  | .non => true
  | _ => false
def eqBl (a : Bool) : D → Bool
  | .bl b => a == b
  | .int b => (if a then 1 else 0) == b
  | _ => false
def eqIn (a : Int) : D → Bool
  | .bl b => a == (if b then 1 else 0)
  | .int b => a == b
  | _ => false
def eqSt (a : Str) : D → Bool
  | .str b => a == b
  | _ => false
def eqTu (g : List D → Bool) : D → Bool
  | .tup ds => g ds
  | _ => false
def eqLi (g : List D → Bool) : D → Bool
  | .lst ds => g ds
  | _ => false
mutual
def eqDD : D → D → Bool
  | .non, d => isNonD d
  | .bl a, d => eqBl a d
  | .int a, d => eqIn a d
  | .str a, d => eqSt a d
  | .tup as, d => eqTu (eqDs as) d
  | .lst as, d => eqLi (eqDs as) d
def eqDs : List D → List D → Bool
  | [], ds => ds.isEmpty
  | a :: as, ds => match ds with | [] => false | d :: ds => eqDD a d && eqDs as ds
end
mutual
def dht : D → Nat
  | .non => 1
  | .bl _ => 1
  | .int _ => 1
  | .str _ => 1
  | .tup ds => dhts ds + 1
  | .lst ds => dhts ds + 1
def dhts : List D → Nat
  | [] => 0
  | d :: ds => max (dht d) (dhts ds)
end
theorem dht_pos (d : D) : 1 ≤ dht d := by cases d <;> rw [dht] <;> omega
theorem dhts_mem {d : D} {n : Nat} : ∀ {ds : List D}, d ∈ ds → dhts ds ≤ n → dht d ≤ n
  | [], h, _ => by cases h
  | e :: ds, h, hn => by
    rw [dhts] at hn
    rcases List.mem_cons.mp h with rfl | h
    · omega
    · exact dhts_mem h (by omega)
mutual
theorem eqDD_refl : ∀ d : D, eqDD d d = true
  | .non => by rw [eqDD]; rfl
  | .bl b => by rw [eqDD]; show (b == b) = true; exact beq_self_eq_true b
  | .int b => by rw [eqDD]; show (b == b) = true; exact beq_self_eq_true b
  | .str b => by rw [eqDD]; show (b == b) = true; exact beq_self_eq_true b
  | .tup ds => by rw [eqDD]; exact eqDs_refl ds
  | .lst ds => by rw [eqDD]; exact eqDs_refl ds
theorem eqDs_refl : ∀ ds : List D, eqDs ds ds = true
  | [] => by rw [eqDs]; rfl
  | d :: ds => by
    rw [eqDs]
    show (eqDD d d && eqDs ds ds) = true
    rw [eqDD_refl d, eqDs_refl ds]; rfl
end
theorem eqDs_gen : ∀ (ds es : List D), eqDs ds es = ((List.range (min ds.length es.length)).all (fun j => eqDD (ds.getD j .non) (es.getD j .non)) && ds.length == es.length)
  | [], es => by
    rw [eqDs]
    cases es <;> simp
  | d :: ds, [] => by rw [eqDs]; simp
  | d :: ds, e :: es => by
    rw [eqDs]
    show (eqDD d e && eqDs ds es) = _
    rw [eqDs_gen ds es, List.length_cons, List.length_cons, Nat.succ_min_succ, List.range_succ_eq_map, List.all_cons, List.all_map]
    have e1 : (ds.length + 1 == es.length + 1) = (ds.length == es.length) := by rw [Bool.eq_iff_iff]; simp
    rw [e1, Bool.and_assoc]
    rfl
mutual
theorem DAt.inj {H : Hp} : ∀ (d d' : D) {v : V}, DAt H d v → DAt H d' v → d = d'
  | .non, d', v, h, h' => by
    obtain rfl : v = .non := h
    cases d' with
    | non => rfl
    | bl b => cases (show V.non = V.bl b from h')
    | int b => cases (show V.non = V.int b from h')
    | str b => cases h'.1
    | tup ds => obtain ⟨a, vs, z, _⟩ := h'; cases z
    | lst ds => obtain ⟨a, vs, z, _⟩ := h'; cases z
  | .bl b, d', v, h, h' => by
    obtain rfl : v = .bl b := h
    cases d' with
    | non => cases (show V.bl b = V.non from h')
    | bl c => have z : V.bl b = V.bl c := h'; injection z with z; rw [z]
    | int c => cases (show V.bl b = V.int c from h')
    | str c => cases h'.1
    | tup ds => obtain ⟨a, vs, z, _⟩ := h'; cases z
    | lst ds => obtain ⟨a, vs, z, _⟩ := h'; cases z
  | .int b, d', v, h, h' => by
    obtain rfl : v = .int b := h
    cases d' with
    | non => cases (show V.int b = V.non from h')
    | int c => have z : V.int b = V.int c := h'; injection z with z; rw [z]
    | bl c => cases (show V.int b = V.bl c from h')
    | str c => cases h'.1
    | tup ds => obtain ⟨a, vs, z, _⟩ := h'; cases z
    | lst ds => obtain ⟨a, vs, z, _⟩ := h'; cases z
  | .str b, d', v, h, h' => by
    obtain ⟨rfl, _⟩ := h
    cases d' with
    | non => cases (show V.str b = V.non from h')
    | int c => cases (show V.str b = V.int c from h')
    | bl c => cases (show V.str b = V.bl c from h')
    | str c => have z := h'.1; injection z with z; rw [z]
    | tup ds => obtain ⟨a, vs, z, _⟩ := h'; cases z
    | lst ds => obtain ⟨a, vs, z, _⟩ := h'; cases z
  | .tup ds, d', v, h, h' => by
    obtain ⟨a, vs, rfl, ea, hs, _⟩ := h
    cases d' with
    | non => cases (show V.ref a = V.non from h')
    | int c => cases (show V.ref a = V.int c from h')
    | bl c => cases (show V.ref a = V.bl c from h')
    | str c => cases h'.1
    | tup es => obtain ⟨b, ws, z, eb, hs', _⟩ := h'; cases z; rw [ea] at eb; cases eb; rw [DsAt.inj ds es hs hs']
    | lst es => obtain ⟨b, ws, z, eb, hs', _⟩ := h'; cases z; rw [ea] at eb; cases eb
  | .lst ds, d', v, h, h' => by
    obtain ⟨a, vs, rfl, ea, hs, _⟩ := h
    cases d' with
    | non => cases (show V.ref a = V.non from h')
    | int c => cases (show V.ref a = V.int c from h')
    | bl c => cases (show V.ref a = V.bl c from h')
    | str c => cases h'.1
    | tup es => obtain ⟨b, ws, z, eb, hs', _⟩ := h'; cases z; rw [ea] at eb; cases eb
    | lst es => obtain ⟨b, ws, z, eb, hs', _⟩ := h'; cases z; rw [ea] at eb; cases eb; rw [DsAt.inj ds es hs hs']
theorem DsAt.inj {H : Hp} : ∀ (ds es : List D) {vs : List V}, DsAt H ds vs → DsAt H es vs → ds = es
  | [], es, vs, h, h' => by
    obtain rfl : vs = [] := h
    cases es with
    | nil => rfl
    | cons e es => obtain ⟨v, r, z, _⟩ := h'; cases z
  | d :: ds, es, vs, h, h' => by
    obtain ⟨v, r, rfl, q, q2⟩ := h
    cases es with
    | nil => cases (show v :: r = [] from h')
    | cons e es =>
      obtain ⟨v', r', z, q', q2'⟩ := h'
      cases z
      rw [DAt.inj d e q q', DsAt.inj ds es q2 q2']
end
section
variable {X : Cx} {pins : List (Addr × Obj)} {σ : St} {H : Hp} {s : Shared} {A : Around} {a1 a2 : Addr} {ds1 ds2 : List D} {vs1 vs2 : List V}
theorem rc_items {its1 its2 : List Value} (r1 : Vals vs1 its1) (r2 : Vals vs2 its2) (h1 : DsAt H ds1 vs1) (h2 : DsAt H ds2 vs2)
    (he : ∀ (e e2 : D) (w w2 : V) (x x2 : Value), e ∈ ds1 → DAt H e w → DAt H e2 w2 → RelV w x → RelV w2 x2 → EqAt A s x x2 (eqDD e e2)) :
    ∀ j (h1 : j < its1.toArray.size) (h2 : j < its2.toArray.size), EqAt A s its1.toArray[j] its2.toArray[j] (eqDD (ds1.getD j .non) (ds2.getD j .non)) := by
  intro j l1 l2
  rw [List.size_toArray] at l1 l2
  have e1 := r1.length
  have e2 := r2.length
  have g1 : vs1[j]? = some (vs1[j]'(by omega)) := List.getElem?_eq_getElem (by omega)
  have g2 : vs2[j]? = some (vs2[j]'(by omega)) := List.getElem?_eq_getElem (by omega)
  obtain ⟨u1, hu1, ru1⟩ := r1.get g1
  obtain ⟨u2, hu2, ru2⟩ := r2.get g2
  obtain ⟨d1, hd1, hv1⟩ := DsAt.get ds1 h1 g1
  obtain ⟨d2, hd2, hv2⟩ := DsAt.get ds2 h2 g2
  have i1 : its1.toArray[j]'(by rw [List.size_toArray]; exact l1) = u1 := by
    rw [List.getElem_toArray]
    rw [List.getElem?_eq_getElem l1] at hu1
    exact Option.some.inj hu1
  have i2 : its2.toArray[j]'(by rw [List.size_toArray]; exact l2) = u2 := by
    rw [List.getElem_toArray]
    rw [List.getElem?_eq_getElem l2] at hu2
    exact Option.some.inj hu2
  rw [i1, i2, List.getD_eq_getElem?_getD, List.getD_eq_getElem?_getD, hd1, hd2]
  exact he d1 d2 _ _ u1 u2 (List.mem_of_getElem? hd1) hv1 hv2 ru1 ru2
theorem rcT (I : Inv X pins σ H s) (hu : A.units < cLine) (e1 : H a1 = some (.tup vs1)) (e2 : H a2 = some (.tup vs2)) (h1 : DsAt H ds1 vs1) (h2 : DsAt H ds2 vs2)
    (he : ∀ (e e2 : D) (w w2 : V) (x x2 : Value), e ∈ ds1 → DAt H e w → DAt H e2 w2 → RelV w x → RelV w2 x2 → EqAt A.in1 s x x2 (eqDD e e2)) :
    RcAt A s (.ref a1) (.ref a2) (eqDs ds1 ds2) ∧ RcNeAt A s (.ref a1) (.ref a2) (!eqDs ds1 ds2) := by
  obtain ⟨its1, r1, p1, _⟩ := I.tuple (SqT.of e1)
  obtain ⟨its2, r2, p2, _⟩ := I.tuple (SqT.of e2)
  have l1 : its1.toArray.size = ds1.length := by rw [List.size_toArray, ← r1.length]; exact DsAt.len ds1 h1
  have l2 : its2.toArray.size = ds2.length := by rw [List.size_toArray, ← r2.length]; exact DsAt.len ds2 h2
  have E := rc_items r1 r2 h1 h2 he
  have A1 := RcAt.tuples (isTuple_of p1) (isTuple_of p2) hu E
  have A2 := RcNeAt.tuples (isTuple_of p1) (isTuple_of p2) hu E
  rw [l1, l2, ← eqDs_gen] at A1 A2
  exact ⟨A1, A2⟩
theorem rcL (I : Inv X pins σ H s) (hu : A.units < cLine) (e1 : H a1 = some (.lst vs1)) (e2 : H a2 = some (.lst vs2)) (h1 : DsAt H ds1 vs1) (h2 : DsAt H ds2 vs2)
    (he : ∀ (e e2 : D) (w w2 : V) (x x2 : Value), e ∈ ds1 → DAt H e w → DAt H e2 w2 → RelV w x → RelV w2 x2 → EqAt A.in1 s x x2 (eqDD e e2)) :
    RcAt A s (.ref a1) (.ref a2) (eqDs ds1 ds2) ∧ RcNeAt A s (.ref a1) (.ref a2) (!eqDs ds1 ds2) := by
  obtain ⟨its1, r1, p1, _⟩ := I.list (SqL.of e1)
  obtain ⟨its2, r2, p2, _⟩ := I.list (SqL.of e2)
  have l1 : its1.toArray.size = ds1.length := by rw [List.size_toArray, ← r1.length]; exact DsAt.len ds1 h1
  have l2 : its2.toArray.size = ds2.length := by rw [List.size_toArray, ← r2.length]; exact DsAt.len ds2 h2
  have E := rc_items r1 r2 h1 h2 he
  by_cases z : ds1.length = ds2.length
  · have A1 := RcAt.lists p1.isList p2.isList (by rw [l1, l2, z]) hu E
    have A2 := RcNeAt.lists p1.isList p2.isList (by rw [l1, l2, z]) hu E
    have G := eqDs_gen ds1 ds2
    rw [z, Nat.min_self, beq_self_eq_true, Bool.and_true] at G
    rw [l1, z, ← G] at A1 A2
    exact ⟨A1, A2⟩
  · have G := eqDs_gen ds1 ds2
    rw [beq_false_of_ne z, Bool.and_false] at G
    rw [G]
    have hne : (its1.toArray.size != its2.toArray.size) = true := by rw [l1, l2]; simpa using z
    exact ⟨RcAt.lists_lengths p1.isList p2.isList hne hu, RcNeAt.lists_lengths p1.isList p2.isList hne hu⟩
set_option maxHeartbeats 1000000 in
theorem eqD_all (I : Inv X pins σ H s) : ∀ (n : Nat) {d1 d2 : D} {v1 v2 : V} {u1 u2 : Value} {A : Around}, dht d1 ≤ n → DAt H d1 v1 → DAt H d2 v2 → RelV v1 u1 → RelV v2 u2 → A.units + n < cLine → EqAt A s u1 u2 (eqDD d1 d2) ∧ RcAt A s u1 u2 (eqDD d1 d2) ∧ RcNeAt A s u1 u2 (!eqDD d1 d2) := by
  intro n
  induction n with
  | zero =>
    intro d1 d2 v1 v2 u1 u2 A hn
    have := dht_pos d1
    omega
  | succ n ih =>
    intro d1 d2 v1 v2 u1 u2 A hn hd hd2 ru ru2 hu
    have h1 : A.units < cLine := by omega
    have h2 : A.in1.units + n < cLine := by show A.units + 1 + n < cLine; omega
    cases d1 with
    | non =>
      obtain rfl : v1 = .non := hd; obtain rfl : u1 = .none := ru
      rw [eqDD]
      cases d2 with
      | non =>
        obtain rfl : v2 = .non := hd2; obtain rfl : u2 = .none := ru2
        exact ⟨.same _, .none_none, .none_none⟩
      | bl b2 =>
        obtain rfl : v2 = .bl b2 := hd2; obtain rfl : u2 = .bool b2 := ru2
        exact ⟨.none_bool _, .none_bool _, .none_bool _⟩
      | int i2 =>
        obtain rfl : v2 = .int i2 := hd2; obtain ⟨t2, rfl⟩ : ∃ t, u2 = .int i2 t := ru2
        exact ⟨.none_int _ _, .none_int _ _, .none_int _ _⟩
      | str x2 =>
        obtain ⟨rfl, _⟩ : v2 = .str x2 ∧ _ := hd2; obtain ⟨t2, rfl⟩ : ∃ t, u2 = .str x2 t := ru2
        exact ⟨.none_str _ _, .none_str _ _, .none_str _ _⟩
      | tup ds2 =>
        obtain ⟨a2, vs2, rfl, ea2, hs2, _⟩ := hd2; obtain rfl : u2 = .ref a2 := ru2; obtain ⟨its2, q2, p2, _⟩ := I.tuple (SqT.of ea2)
        exact ⟨.none_tuple (isTuple_of p2) h1, .none_tuple (isTuple_of p2) h1, .none_tuple (isTuple_of p2) h1⟩
      | lst ds2 =>
        obtain ⟨a2, vs2, rfl, ea2, hs2, _⟩ := hd2; obtain rfl : u2 = .ref a2 := ru2; obtain ⟨its2, q2, p2, _⟩ := I.list (SqL.of ea2)
        exact ⟨.none_list p2.isList h1, .none_list p2.isList h1, .none_list p2.isList h1⟩
    | bl b1 =>
      obtain rfl : v1 = .bl b1 := hd; obtain rfl : u1 = .bool b1 := ru
      rw [eqDD]
      cases d2 with
      | non =>
        obtain rfl : v2 = .non := hd2; obtain rfl : u2 = .none := ru2
        exact ⟨.bool_none _, .bool_none _, .bool_none _⟩
      | bl b2 =>
        obtain rfl : v2 = .bl b2 := hd2; obtain rfl : u2 = .bool b2 := ru2
        exact ⟨.bool_bool _ _, .bool_bool _ _, .bool_bool _ _⟩
      | int i2 =>
        obtain rfl : v2 = .int i2 := hd2; obtain ⟨t2, rfl⟩ : ∃ t, u2 = .int i2 t := ru2
        exact ⟨.bool_int _ _ _, .bool_int _ _ _, .bool_int _ _ _⟩
      | str x2 =>
        obtain ⟨rfl, _⟩ : v2 = .str x2 ∧ _ := hd2; obtain ⟨t2, rfl⟩ : ∃ t, u2 = .str x2 t := ru2
        exact ⟨.bool_str _ _ _, .bool_str _ _ _, .bool_str _ _ _⟩
      | tup ds2 =>
        obtain ⟨a2, vs2, rfl, ea2, hs2, _⟩ := hd2; obtain rfl : u2 = .ref a2 := ru2; obtain ⟨its2, q2, p2, _⟩ := I.tuple (SqT.of ea2)
        exact ⟨.bool_tuple _ (isTuple_of p2) h1, .bool_tuple _ (isTuple_of p2) h1, .bool_tuple _ (isTuple_of p2) h1⟩
      | lst ds2 =>
        obtain ⟨a2, vs2, rfl, ea2, hs2, _⟩ := hd2; obtain rfl : u2 = .ref a2 := ru2; obtain ⟨its2, q2, p2, _⟩ := I.list (SqL.of ea2)
        exact ⟨.bool_list _ p2.isList h1, .bool_list _ p2.isList h1, .bool_list _ p2.isList h1⟩
    | int i1 =>
      obtain rfl : v1 = .int i1 := hd; obtain ⟨t1, rfl⟩ : ∃ t, u1 = .int i1 t := ru
      rw [eqDD]
      cases d2 with
      | non =>
        obtain rfl : v2 = .non := hd2; obtain rfl : u2 = .none := ru2
        exact ⟨.int_none _ _, .int_none _ _, .int_none _ _⟩
      | bl b2 =>
        obtain rfl : v2 = .bl b2 := hd2; obtain rfl : u2 = .bool b2 := ru2
        exact ⟨.int_bool _ _ _, .int_bool _ _ _, .int_bool _ _ _⟩
      | int i2 =>
        obtain rfl : v2 = .int i2 := hd2; obtain ⟨t2, rfl⟩ : ∃ t, u2 = .int i2 t := ru2
        exact ⟨.int_int _ _ _ _, .int_int _ _ _ _, .int_int _ _ _ _⟩
      | str x2 =>
        obtain ⟨rfl, _⟩ : v2 = .str x2 ∧ _ := hd2; obtain ⟨t2, rfl⟩ : ∃ t, u2 = .str x2 t := ru2
        exact ⟨.int_str _ _ _ _, .int_str _ _ _ _, .int_str _ _ _ _⟩
      | tup ds2 =>
        obtain ⟨a2, vs2, rfl, ea2, hs2, _⟩ := hd2; obtain rfl : u2 = .ref a2 := ru2; obtain ⟨its2, q2, p2, _⟩ := I.tuple (SqT.of ea2)
        exact ⟨.int_tuple _ _ (isTuple_of p2) h1, .int_tuple _ _ (isTuple_of p2) h1, .int_tuple _ _ (isTuple_of p2) h1⟩
      | lst ds2 =>
        obtain ⟨a2, vs2, rfl, ea2, hs2, _⟩ := hd2; obtain rfl : u2 = .ref a2 := ru2; obtain ⟨its2, q2, p2, _⟩ := I.list (SqL.of ea2)
        exact ⟨.int_list _ _ p2.isList h1, .int_list _ _ p2.isList h1, .int_list _ _ p2.isList h1⟩
    | str x1 =>
      obtain ⟨rfl, _⟩ : v1 = .str x1 ∧ _ := hd; obtain ⟨t1, rfl⟩ : ∃ t, u1 = .str x1 t := ru
      rw [eqDD]
      cases d2 with
      | non =>
        obtain rfl : v2 = .non := hd2; obtain rfl : u2 = .none := ru2
        exact ⟨.str_none _ _, .str_none _ _, .str_none _ _⟩
      | bl b2 =>
        obtain rfl : v2 = .bl b2 := hd2; obtain rfl : u2 = .bool b2 := ru2
        exact ⟨.str_bool _ _ _, .str_bool _ _ _, .str_bool _ _ _⟩
      | int i2 =>
        obtain rfl : v2 = .int i2 := hd2; obtain ⟨t2, rfl⟩ : ∃ t, u2 = .int i2 t := ru2
        exact ⟨.str_int _ _ _ _, .str_int _ _ _ _, .str_int _ _ _ _⟩
      | str x2 =>
        obtain ⟨rfl, _⟩ : v2 = .str x2 ∧ _ := hd2; obtain ⟨t2, rfl⟩ : ∃ t, u2 = .str x2 t := ru2
        exact ⟨.str_str _ _ _ _, .str_str _ _ _ _, .str_str _ _ _ _⟩
      | tup ds2 =>
        obtain ⟨a2, vs2, rfl, ea2, hs2, _⟩ := hd2; obtain rfl : u2 = .ref a2 := ru2; obtain ⟨its2, q2, p2, _⟩ := I.tuple (SqT.of ea2)
        exact ⟨.str_tuple _ _ (isTuple_of p2) h1, .str_tuple _ _ (isTuple_of p2) h1, .str_tuple _ _ (isTuple_of p2) h1⟩
      | lst ds2 =>
        obtain ⟨a2, vs2, rfl, ea2, hs2, _⟩ := hd2; obtain rfl : u2 = .ref a2 := ru2; obtain ⟨its2, q2, p2, _⟩ := I.list (SqL.of ea2)
        exact ⟨.str_list _ _ p2.isList h1, .str_list _ _ p2.isList h1, .str_list _ _ p2.isList h1⟩
    | tup ds1 =>
      obtain ⟨a1, vs1, rfl, ea1, hs1, _⟩ := hd; obtain rfl : u1 = .ref a1 := ru; obtain ⟨its1, q1, p1, _⟩ := I.tuple (SqT.of ea1)
      rw [eqDD]
      cases d2 with
      | non =>
        obtain rfl : v2 = .non := hd2; obtain rfl : u2 = .none := ru2
        exact ⟨.tuple_none (isTuple_of p1) h1, .tuple_none (isTuple_of p1) h1, .tuple_none (isTuple_of p1) h1⟩
      | bl b2 =>
        obtain rfl : v2 = .bl b2 := hd2; obtain rfl : u2 = .bool b2 := ru2
        exact ⟨.tuple_bool _ (isTuple_of p1) h1, .tuple_bool _ (isTuple_of p1) h1, .tuple_bool _ (isTuple_of p1) h1⟩
      | int i2 =>
        obtain rfl : v2 = .int i2 := hd2; obtain ⟨t2, rfl⟩ : ∃ t, u2 = .int i2 t := ru2
        exact ⟨.tuple_int _ _ (isTuple_of p1) h1, .tuple_int _ _ (isTuple_of p1) h1, .tuple_int _ _ (isTuple_of p1) h1⟩
      | str x2 =>
        obtain ⟨rfl, _⟩ : v2 = .str x2 ∧ _ := hd2; obtain ⟨t2, rfl⟩ : ∃ t, u2 = .str x2 t := ru2
        exact ⟨.tuple_str _ _ (isTuple_of p1) h1, .tuple_str _ _ (isTuple_of p1) h1, .tuple_str _ _ (isTuple_of p1) h1⟩
      | tup ds2 =>
        obtain ⟨a2, vs2, rfl, ea2, hs2, _⟩ := hd2; obtain rfl : u2 = .ref a2 := ru2; obtain ⟨its2, q2, p2, _⟩ := I.tuple (SqT.of ea2)
        have R := rcT I h1 ea1 ea2 hs1 hs2 fun e e2 w w2 x x2 hm g g2 r r2 => (ih (dhts_mem hm (by rw [dht] at hn; omega)) g g2 r r2 h2).1
        refine ⟨?_, R⟩
        by_cases z : a1 = a2
        · subst z
          obtain rfl : ds1 = ds2 := by have hh := DAt.inj (.tup ds1) (.tup ds2) (v := .ref a1) ⟨a1, vs1, rfl, ea1, hs1, ‹_›⟩ ⟨a1, vs2, rfl, ea2, hs2, ‹_›⟩; injection hh
          show EqAt A s _ _ (eqDs ds1 ds1)
          rw [eqDs_refl]; exact .same _
        · exact .of_refs z R.1
      | lst ds2 =>
        obtain ⟨a2, vs2, rfl, ea2, hs2, _⟩ := hd2; obtain rfl : u2 = .ref a2 := ru2; obtain ⟨its2, q2, p2, _⟩ := I.list (SqL.of ea2)
        exact ⟨.tuple_list (isTuple_of p1) p2.isList h1, .tuple_list (isTuple_of p1) p2.isList h1, .tuple_list (isTuple_of p1) p2.isList h1⟩
    | lst ds1 =>
      obtain ⟨a1, vs1, rfl, ea1, hs1, _⟩ := hd; obtain rfl : u1 = .ref a1 := ru; obtain ⟨its1, q1, p1, _⟩ := I.list (SqL.of ea1)
      rw [eqDD]
      cases d2 with
      | non =>
        obtain rfl : v2 = .non := hd2; obtain rfl : u2 = .none := ru2
        exact ⟨.list_none p1.isList h1, .list_none p1.isList h1, .list_none p1.isList h1⟩
      | bl b2 =>
        obtain rfl : v2 = .bl b2 := hd2; obtain rfl : u2 = .bool b2 := ru2
        exact ⟨.list_bool _ p1.isList h1, .list_bool _ p1.isList h1, .list_bool _ p1.isList h1⟩
      | int i2 =>
        obtain rfl : v2 = .int i2 := hd2; obtain ⟨t2, rfl⟩ : ∃ t, u2 = .int i2 t := ru2
        exact ⟨.list_int _ _ p1.isList h1, .list_int _ _ p1.isList h1, .list_int _ _ p1.isList h1⟩
      | str x2 =>
        obtain ⟨rfl, _⟩ : v2 = .str x2 ∧ _ := hd2; obtain ⟨t2, rfl⟩ : ∃ t, u2 = .str x2 t := ru2
        exact ⟨.list_str _ _ p1.isList h1, .list_str _ _ p1.isList h1, .list_str _ _ p1.isList h1⟩
      | tup ds2 =>
        obtain ⟨a2, vs2, rfl, ea2, hs2, _⟩ := hd2; obtain rfl : u2 = .ref a2 := ru2; obtain ⟨its2, q2, p2, _⟩ := I.tuple (SqT.of ea2)
        exact ⟨.list_tuple p1.isList (isTuple_of p2) h1, .list_tuple p1.isList (isTuple_of p2) h1, .list_tuple p1.isList (isTuple_of p2) h1⟩
      | lst ds2 =>
        obtain ⟨a2, vs2, rfl, ea2, hs2, _⟩ := hd2; obtain rfl : u2 = .ref a2 := ru2; obtain ⟨its2, q2, p2, _⟩ := I.list (SqL.of ea2)
        have R := rcL I h1 ea1 ea2 hs1 hs2 fun e e2 w w2 x x2 hm g g2 r r2 => (ih (dhts_mem hm (by rw [dht] at hn; omega)) g g2 r r2 h2).1
        refine ⟨?_, R⟩
        by_cases z : a1 = a2
        · subst z
          obtain rfl : ds1 = ds2 := by have hh := DAt.inj (.lst ds1) (.lst ds2) (v := .ref a1) ⟨a1, vs1, rfl, ea1, hs1, ‹_›⟩ ⟨a1, vs2, rfl, ea2, hs2, ‹_›⟩; injection hh
          show EqAt A s _ _ (eqDs ds1 ds1)
          rw [eqDs_refl]; exact .same _
        · exact .of_refs z R.1
theorem op_eqD (hu : X.A.units + 64 < cLine) : OpR X (compareOp .Eq) (fun x y H Q => ∃ d d', DAt H d x ∧ DAt H d' y ∧ dht d ≤ 60 ∧ Q (.bl (eqDD d d')) H) := by
  intro pins s σ H x y v u Q I rx ry h
  obtain ⟨d, d', hd, hd', hn, q⟩ := h
  exact (eqD_all I 60 hn hd hd' rx ry (by omega)).2.1 _ _ _ _ ⟨.bl _, H, I, rfl, q⟩
theorem op_neD (hu : X.A.units + 64 < cLine) : OpR X (compareOp .NotEq) (fun x y H Q => ∃ d d', DAt H d x ∧ DAt H d' y ∧ dht d ≤ 60 ∧ Q (.bl (!eqDD d d')) H) := by
  intro pins s σ H x y v u Q I rx ry h
  obtain ⟨d, d', hd, hd', hn, q⟩ := h
  exact (eqD_all I 60 hn hd hd' rx ry (by omega)).2.2 _ _ _ _ ⟨.bl _, H, I, rfl, q⟩
end
section
open HT
variable {prog : Program} {w : World} {A : Around} {E : Value → Shared → Prop} {s : Shared}
end
section
variable {X : Cx}
def oEqD (hu : X.A.units + 64 < cLine) := OpR.or (oEq (X := X)) (op_eqD hu)
def oNeD (hu : X.A.units + 64 < cLine) := OpR.or (oNe (X := X)) (op_neD hu)
end
end L2

end

section
namespace L2
open PySem PySem.W PySem.Spec PyProof.Rows
def tCut (t u : TS) : TS := fun D σ H => ∃ J : St → Hp → Prop, t { D with nx := J } σ H ∧ ∀ σ' H', J σ' H' → u D σ' H'
theorem pss_cut {X : Cx} {st : Stmt} {rest : List Stmt} {t u : TS} (h1 : PS X st t) (h2 : PSs X rest u) : PSs X (st :: rest) (tCut t u) := by
  intro pins s σ H D I h
  obtain ⟨J, h, hJ⟩ := h
  refine wpAny_execs_cons (thn (h1 pins s σ H { D with nx := J } I h) fun f s1 q => ?_)
  cases f with
  | next =>
    obtain ⟨σ', H', I', q⟩ := q
    exact h2 pins s1 σ' H' D I' (hJ _ _ q)
  | ret v => exact q
  | brk => exact q
  | cont => exact q
mutual
def DX (X : List Addr) (H : Hp) : D → V → Prop
  | .non, v => v = .non
  | .bl b, v => v = .bl b
  | .int i, v => v = .int i
  | .str s, v => v = .str s ∧ s.length ≤ 100000
  | .tup ds, v => ∃ a vs, v = .ref a ∧ a ∉ X ∧ H a = some (.tup vs) ∧ DsX X H ds vs ∧ vs.length ≤ 1000
  | .lst ds, v => ∃ a vs, v = .ref a ∧ a ∉ X ∧ H a = some (.lst vs) ∧ DsX X H ds vs ∧ vs.length ≤ 1000
def DsX (X : List Addr) (H : Hp) : List D → List V → Prop
  | [], vs => vs = []
  | d :: ds, vs => ∃ v r, vs = v :: r ∧ DX X H d v ∧ DsX X H ds r
end
mutual
theorem DX.at {X : List Addr} {H : Hp} : ∀ (d : D) {v : V}, DX X H d v → DAt H d v
  | .non, v, h => h
  | .bl b, v, h => h
  | .int i, v, h => h
  | .str t, v, h => h
  | .tup ds, v, h => by
    obtain ⟨a, vs, e, n, eT, q, z⟩ := h
    exact ⟨a, vs, e, eT, DsX.at ds q, z⟩
  | .lst ds, v, h => by
    obtain ⟨a, vs, e, n, eT, q, z⟩ := h
    exact ⟨a, vs, e, eT, DsX.at ds q, z⟩
theorem DsX.at {X : List Addr} {H : Hp} : ∀ (ds : List D) {vs : List V}, DsX X H ds vs → DsAt H ds vs
  | [], vs, h => h
  | d :: ds, vs, h => by
    obtain ⟨v, r, e, q, q2⟩ := h
    exact ⟨v, r, e, DX.at d q, DsX.at ds q2⟩
end
mutual
theorem DX.keep {X : List Addr} {H H' : Hp} (s : ∀ b u, b ∉ X → H b = some u → H' b = some u) : ∀ (d : D) {v : V}, DX X H d v → DX X H' d v
  | .non, v, h => h
  | .bl b, v, h => h
  | .int i, v, h => h
  | .str t, v, h => h
  | .tup ds, v, h => by
    obtain ⟨a, vs, e, n, eT, q, z⟩ := h
    exact ⟨a, vs, e, n, s _ _ n eT, DsX.keep s ds q, z⟩
  | .lst ds, v, h => by
    obtain ⟨a, vs, e, n, eT, q, z⟩ := h
    exact ⟨a, vs, e, n, s _ _ n eT, DsX.keep s ds q, z⟩
theorem DsX.keep {X : List Addr} {H H' : Hp} (s : ∀ b u, b ∉ X → H b = some u → H' b = some u) : ∀ (ds : List D) {vs : List V}, DsX X H ds vs → DsX X H' ds vs
  | [], vs, h => h
  | d :: ds, vs, h => by
    obtain ⟨v, r, e, q, q2⟩ := h
    exact ⟨v, r, e, DX.keep s d q, DsX.keep s ds q2⟩
end
mutual
theorem DX.weak {X Y : List Addr} {H : Hp} (hs : ∀ x, x ∈ X → x ∈ Y) : ∀ (d : D) {v : V}, DX Y H d v → DX X H d v
  | .non, v, h => h
  | .bl b, v, h => h
  | .int i, v, h => h
  | .str t, v, h => h
  | .tup ds, v, h => by
    obtain ⟨a, vs, e, n, eT, q, z⟩ := h
    exact ⟨a, vs, e, fun y => n (hs _ y), eT, DsX.weak hs ds q, z⟩
  | .lst ds, v, h => by
    obtain ⟨a, vs, e, n, eT, q, z⟩ := h
    exact ⟨a, vs, e, fun y => n (hs _ y), eT, DsX.weak hs ds q, z⟩
theorem DsX.weak {X Y : List Addr} {H : Hp} (hs : ∀ x, x ∈ X → x ∈ Y) : ∀ (ds : List D) {vs : List V}, DsX Y H ds vs → DsX X H ds vs
  | [], vs, h => h
  | d :: ds, vs, h => by
    obtain ⟨v, r, e, q, q2⟩ := h
    exact ⟨v, r, e, DX.weak hs d q, DsX.weak hs ds q2⟩
end
theorem DsX.same {X : List Addr} {H H' : Hp} (s : Same H H') {ds : List D} {vs : List V} (h : DsX X H ds vs) : DsX X H' ds vs := DsX.keep (fun b u _ e => s b u e) ds h
theorem DsX.snoc {X : List Addr} {H : Hp} {d : D} {v : V} (hd : DX X H d v) : ∀ (ds : List D) {vs : List V}, DsX X H ds vs → DsX X H (ds ++ [d]) (vs ++ [v])
  | [], vs, h => by
    obtain rfl : vs = [] := h
    exact ⟨v, [], rfl, hd, rfl⟩
  | e :: ds, vs, h => by
    obtain ⟨w, r, rfl, q, q2⟩ := h
    exact ⟨w, r ++ [v], rfl, q, DsX.snoc hd ds q2⟩
end L2

end

section
namespace HT
open PySem PyProof.Rows
section
open PySem.SeqAt
open PySem.AutoSeq1 (wpAny_loadPart')
open PySem.MeetsSeq PySem.MeetsSeq2 PySem.MeetsSeq3 PySem.SeqRoads2
end
end HT
namespace L2
open PySem PySem.W PySem.Spec PyProof.Rows
section
variable {X : Cx}
end
end L2

end

section
namespace KM
open PySem L2
end KM

end
namespace KR
open PySem L2 KM
def top (i : Nat) : Stmt := PySem.Challenge.pw_keyrise_k43_full_lists.main.body.getD i (.Pass ⟨0, 0, 0, 0⟩)
abbrev s_turned_row : Stmt := top 20
abbrev s_lower_digits : Stmt := top 21
abbrev s_fixed_row : Stmt := top 22
abbrev s_Source_init : Stmt := inClass (top 14) 0
abbrev s_Source_draw : Stmt := inClass (top 14) 1
abbrev s_Source_turn : Stmt := inClass (top 14) 2
abbrev s_Source_go_on : Stmt := inClass (top 14) 3
abbrev s_Nothing_draw : Stmt := inClass (top 32) 3
abbrev s_Truth_draw : Stmt := inClass (top 33) 3
abbrev s_Span_draw : Stmt := inClass (top 34) 4
abbrev s_Letters_draw : Stmt := inClass (top 35) 5
abbrev s_Many_draw : Stmt := inClass (top 43) 4
abbrev s_Record_draw : Stmt := inClass (top 44) 4
abbrev s_Turned_draw : Stmt := inClass (top 45) 4
abbrev s_Nothing_fits : Stmt := inClass (top 32) 0
abbrev s_Truth_fits : Stmt := inClass (top 33) 0
abbrev s_Span_fits : Stmt := inClass (top 34) 1
abbrev s_Letters_fits : Stmt := inClass (top 35) 1
abbrev s_Many_fits : Stmt := inClass (top 43) 1
abbrev s_Turned_fits : Stmt := inClass (top 45) 1
abbrev s_Record_fits : Stmt := inClass (top 44) 1
abbrev s_law : Stmt := top 52
abbrev s_law_asked : Stmt := top 51
abbrev s_law_form : Stmt := top 49
abbrev s_law_parts : Stmt := top 50
abbrev s_value_of : Stmt := top 16
abbrev s_read_all : Stmt := top 17
abbrev s_begun_by : Stmt := top 18
abbrev s_Short_init : Stmt := inClass (top 4) 0
abbrev s_Wrong_init : Stmt := inClass (top 5) 0
abbrev s_Left_init : Stmt := inClass (top 6) 0
abbrev s_Form_row : Stmt := inClass (top 31) 0
abbrev s_draw_fixed : Stmt := top 23
abbrev s_law_cell_at : Stmt := top 47
abbrev s_law_kinds : Stmt := top 48
abbrev s_made_of : Stmt := top 30
abbrev s_is_name : Stmt := top 41
abbrev s_names_of : Stmt := top 42
abbrev s_Span_init : Stmt := inClass (top 34) 0
abbrev s_Letters_init : Stmt := inClass (top 35) 0
abbrev s_Record_init : Stmt := inClass (top 44) 0
abbrev s_Many_init : Stmt := inClass (top 43) 0
abbrev s_Turned_init : Stmt := inClass (top 45) 0
abbrev s_is_number : Stmt := top 29
abbrev s_Nothing_written : Stmt := inClass (top 32) 1
abbrev s_Truth_written : Stmt := inClass (top 33) 1
abbrev s_Span_written : Stmt := inClass (top 34) 2
abbrev s_Turned_written : Stmt := inClass (top 45) 2
abbrev s_Many_written : Stmt := inClass (top 43) 2
abbrev s_Record_written : Stmt := inClass (top 44) 2
abbrev s_Letters_places : Stmt := inClass (top 35) 2
abbrev s_Letters_written : Stmt := inClass (top 35) 3
abbrev s_Source_refuse : Stmt := inClass (top 14) 5
theorem sc_turned_row : FnScope ["row"] ["row"] (defScope s_turned_row) := ⟨rfl, rfl, rfl, by decide +kernel, rfl, by decide +kernel, by decide +kernel⟩
theorem sc_lower_digits : FnScope ["n", "width"] ["n", "width"] (defScope s_lower_digits) := ⟨rfl, rfl, rfl, by decide +kernel, rfl, by decide +kernel, by decide +kernel⟩
theorem sc_fixed_row : FnScope ["n", "most"] ["n", "most"] (defScope s_fixed_row) := ⟨rfl, rfl, rfl, by decide +kernel, rfl, by decide +kernel, by decide +kernel⟩
theorem sc_Source_init : FnScope ["self", "signs", "at"] ["self", "signs", "at"] (defScope s_Source_init) := ⟨rfl, rfl, rfl, by decide +kernel, rfl, by decide +kernel, by decide +kernel⟩
theorem sc_Source_draw : FnScope ["self", "wished", "sign"] ["self"] (defScope s_Source_draw) := ⟨rfl, rfl, rfl, by decide +kernel, rfl, by decide +kernel, by decide +kernel⟩
theorem sc_Source_turn : FnScope ["self"] ["self"] (defScope s_Source_turn) := ⟨rfl, rfl, rfl, by decide +kernel, rfl, by decide +kernel, by decide +kernel⟩
theorem sc_Source_go_on : FnScope ["self"] ["self"] (defScope s_Source_go_on) := ⟨rfl, rfl, rfl, by decide +kernel, rfl, by decide +kernel, by decide +kernel⟩
theorem sc_Nothing_draw : FnScope ["self", "source"] ["self", "source"] (defScope s_Nothing_draw) := ⟨rfl, rfl, rfl, by decide +kernel, rfl, by decide +kernel, by decide +kernel⟩
theorem sc_Truth_draw : FnScope ["self", "source"] ["self", "source"] (defScope s_Truth_draw) := ⟨rfl, rfl, rfl, by decide +kernel, rfl, by decide +kernel, by decide +kernel⟩
theorem sc_Span_draw : FnScope ["self", "source"] ["self", "source"] (defScope s_Span_draw) := ⟨rfl, rfl, rfl, by decide +kernel, rfl, by decide +kernel, by decide +kernel⟩
theorem sc_Letters_draw : FnScope ["self", "source", "text"] ["self", "source"] (defScope s_Letters_draw) := ⟨rfl, rfl, rfl, by decide +kernel, rfl, by decide +kernel, by decide +kernel⟩
theorem sc_Many_draw : FnScope ["self", "source", "values"] ["self", "source"] (defScope s_Many_draw) := ⟨rfl, rfl, rfl, by decide +kernel, rfl, by decide +kernel, by decide +kernel⟩
theorem sc_Record_draw : FnScope ["self", "source"] ["self", "source"] (defScope s_Record_draw) := ⟨rfl, rfl, rfl, by decide +kernel, rfl, by decide +kernel, by decide +kernel⟩
theorem sc_Turned_draw : FnScope ["self", "source", "value"] ["self", "source"] (defScope s_Turned_draw) := ⟨rfl, rfl, rfl, by decide +kernel, rfl, by decide +kernel, by decide +kernel⟩
theorem sc_Nothing_fits : FnScope ["self", "value"] ["self", "value"] (defScope s_Nothing_fits) := ⟨rfl, rfl, rfl, by decide +kernel, rfl, by decide +kernel, by decide +kernel⟩
theorem sc_Truth_fits : FnScope ["self", "value"] ["self", "value"] (defScope s_Truth_fits) := ⟨rfl, rfl, rfl, by decide +kernel, rfl, by decide +kernel, by decide +kernel⟩
theorem sc_Span_fits : FnScope ["self", "value"] ["self", "value"] (defScope s_Span_fits) := ⟨rfl, rfl, rfl, by decide +kernel, rfl, by decide +kernel, by decide +kernel⟩
theorem sc_Letters_fits : FnScope ["self", "value"] ["self", "value"] (defScope s_Letters_fits) := ⟨rfl, rfl, rfl, by decide +kernel, rfl, by decide +kernel, by decide +kernel⟩
theorem sc_Many_fits : FnScope ["self", "value"] ["self", "value"] (defScope s_Many_fits) := ⟨rfl, rfl, rfl, by decide +kernel, rfl, by decide +kernel, by decide +kernel⟩
theorem sc_Turned_fits : FnScope ["self", "value"] ["self", "value"] (defScope s_Turned_fits) := ⟨rfl, rfl, rfl, by decide +kernel, rfl, by decide +kernel, by decide +kernel⟩
theorem sc_Record_fits : FnScope ["self", "value"] ["self", "value"] (defScope s_Record_fits) := ⟨rfl, rfl, rfl, by decide +kernel, rfl, by decide +kernel, by decide +kernel⟩
theorem sc_law : FnScope ["_law_script", "_law_first", "_law_way", "_law_few", "_law_values", "_law_marks", "_law_made", "_law_value", "_law_full", "_law_row", "_law_place", "_law_good", "_law_found", "_law_kept", "_law_fills"] ["_law_script"] (defScope s_law) := ⟨rfl, rfl, rfl, by decide +kernel, rfl, by decide +kernel, by decide +kernel⟩
theorem sc_law_asked : FnScope ["_law_way", "_law_made", "_law_one", "_law_kept", "_law_found", "e"] ["_law_way", "_law_made", "_law_one"] (defScope s_law_asked) := ⟨rfl, rfl, rfl, by decide +kernel, rfl, by decide +kernel, by decide +kernel⟩
theorem sc_law_form : FnScope ["_law_way", "_law_few"] ["_law_way", "_law_few"] (defScope s_law_form) := ⟨rfl, rfl, rfl, by decide +kernel, rfl, by decide +kernel, by decide +kernel⟩
theorem sc_law_parts : FnScope ["_law_script", "_law_way", "_law_few", "_law_wide", "_law_many", "_law_values", "_law_marks", "_law_k", "_law_n", "_law_digits"] ["_law_script", "_law_way", "_law_few"] (defScope s_law_parts) := ⟨rfl, rfl, rfl, by decide +kernel, rfl, by decide +kernel, by decide +kernel⟩
theorem sc_value_of : FnScope ["form", "source", "value"] ["form", "source"] (defScope s_value_of) := ⟨rfl, rfl, rfl, by decide +kernel, rfl, by decide +kernel, by decide +kernel⟩
theorem sc_read_all : FnScope ["form", "signs"] ["form", "signs"] (defScope s_read_all) := ⟨rfl, rfl, rfl, by decide +kernel, rfl, by decide +kernel, by decide +kernel⟩
theorem sc_begun_by : FnScope ["form", "signs", "source"] ["form", "signs"] (defScope s_begun_by) := ⟨rfl, rfl, rfl, by decide +kernel, rfl, by decide +kernel, by decide +kernel⟩
theorem sc_Wrong_init : FnScope ["self", "place"] ["self", "place"] (defScope s_Wrong_init) := ⟨rfl, rfl, rfl, by decide +kernel, rfl, by decide +kernel, by decide +kernel⟩
theorem sc_Left_init : FnScope ["self", "place"] ["self", "place"] (defScope s_Left_init) := ⟨rfl, rfl, rfl, by decide +kernel, rfl, by decide +kernel, by decide +kernel⟩
theorem sc_Form_row : FnScope ["self", "value"] ["self", "value"] (defScope s_Form_row) := ⟨rfl, rfl, rfl, by decide +kernel, rfl, by decide +kernel, by decide +kernel⟩
theorem sc_draw_fixed : FnScope ["source", "most", "n", "k"] ["source", "most"] (defScope s_draw_fixed) := ⟨rfl, rfl, rfl, by decide +kernel, rfl, by decide +kernel, by decide +kernel⟩
theorem sc_law_cell_at : FnScope ["_law_script", "_law_k"] ["_law_script", "_law_k"] (defScope s_law_cell_at) := ⟨rfl, rfl, rfl, by decide +kernel, rfl, by decide +kernel, by decide +kernel⟩
theorem sc_law_kinds : FnScope ["_law_kept", "_law_kinds_here"] ["_law_kept"] (defScope s_law_kinds) := ⟨rfl, rfl, rfl, by decide +kernel, rfl, by decide +kernel, by decide +kernel⟩
theorem sc_made_of : FnScope ["text", "signs"] ["text", "signs"] (defScope s_made_of) := ⟨rfl, rfl, rfl, by decide +kernel, rfl, by decide +kernel, by decide +kernel⟩
theorem sc_is_name : FnScope ["name"] ["name"] (defScope s_is_name) := ⟨rfl, rfl, rfl, by decide +kernel, rfl, by decide +kernel, by decide +kernel⟩
theorem sc_names_of : FnScope ["parts", "names"] ["parts"] (defScope s_names_of) := ⟨rfl, rfl, rfl, by decide +kernel, rfl, by decide +kernel, by decide +kernel⟩
theorem sc_Span_init : FnScope ["self", "low", "high"] ["self", "low", "high"] (defScope s_Span_init) := ⟨rfl, rfl, rfl, by decide +kernel, rfl, by decide +kernel, by decide +kernel⟩
theorem sc_Letters_init : FnScope ["self", "signs"] ["self", "signs"] (defScope s_Letters_init) := ⟨rfl, rfl, rfl, by decide +kernel, rfl, by decide +kernel, by decide +kernel⟩
theorem sc_Record_init : FnScope ["self", "parts"] ["self", "parts"] (defScope s_Record_init) := ⟨rfl, rfl, rfl, by decide +kernel, rfl, by decide +kernel, by decide +kernel⟩
theorem sc_Many_init : FnScope ["self", "inner"] ["self", "inner"] (defScope s_Many_init) := ⟨rfl, rfl, rfl, by decide +kernel, rfl, by decide +kernel, by decide +kernel⟩
theorem sc_Turned_init : FnScope ["self", "inner"] ["self", "inner"] (defScope s_Turned_init) := ⟨rfl, rfl, rfl, by decide +kernel, rfl, by decide +kernel, by decide +kernel⟩
theorem sc_is_number : FnScope ["value"] ["value"] (defScope s_is_number) := ⟨rfl, rfl, rfl, by decide +kernel, rfl, by decide +kernel, by decide +kernel⟩
theorem sc_Nothing_written : FnScope ["self", "value"] ["self", "value"] (defScope s_Nothing_written) := ⟨rfl, rfl, rfl, by decide +kernel, rfl, by decide +kernel, by decide +kernel⟩
theorem sc_Truth_written : FnScope ["self", "value"] ["self", "value"] (defScope s_Truth_written) := ⟨rfl, rfl, rfl, by decide +kernel, rfl, by decide +kernel, by decide +kernel⟩
theorem sc_Span_written : FnScope ["self", "value"] ["self", "value"] (defScope s_Span_written) := ⟨rfl, rfl, rfl, by decide +kernel, rfl, by decide +kernel, by decide +kernel⟩
theorem sc_Turned_written : FnScope ["self", "value"] ["self", "value"] (defScope s_Turned_written) := ⟨rfl, rfl, rfl, by decide +kernel, rfl, by decide +kernel, by decide +kernel⟩
theorem sc_Many_written : FnScope ["self", "value"] ["self", "value"] (defScope s_Many_written) := ⟨rfl, rfl, rfl, by decide +kernel, rfl, by decide +kernel, by decide +kernel⟩
theorem sc_Record_written : FnScope ["self", "value"] ["self", "value"] (defScope s_Record_written) := ⟨rfl, rfl, rfl, by decide +kernel, rfl, by decide +kernel, by decide +kernel⟩
theorem sc_Letters_places : FnScope ["self", "text"] ["self", "text"] (defScope s_Letters_places) := ⟨rfl, rfl, rfl, by decide +kernel, rfl, by decide +kernel, by decide +kernel⟩
theorem sc_Letters_written : FnScope ["self", "value", "most"] ["self", "value"] (defScope s_Letters_written) := ⟨rfl, rfl, rfl, by decide +kernel, rfl, by decide +kernel, by decide +kernel⟩
theorem sc_Source_refuse : FnScope ["self"] ["self"] (defScope s_Source_refuse) := ⟨rfl, rfl, rfl, by decide +kernel, rfl, by decide +kernel, by decide +kernel⟩
structure NB (mg : Str → Option Value) : Prop where
  len_ : mg "len" = none
  range_ : mg "range" = none
  int_ : mg "int" = none
  str_ : mg "str" = none
  bool_ : mg "bool" = none
  tuple_ : mg "tuple" = none
  isinstance_ : mg "isinstance" = none
  list_ : mg "list" = none
  all_ : mg "all" = none
  zip_ : mg "zip" = none
  set_ : mg "set" = none
section
open PySem L2 KM
variable {P : Program} {w : World} {K : PySem.W.Frag} {mg : Str → Option Value} {base : Heap}
seal PE PT PW PA PS PSs PG PGs PI PTs PC PO

local macro_rules | `(tactic| walk_at "g1") => `(tactic| first
  | with_reducible exact True.intro
  | refine ⟨_, rfl, ?_⟩
  | refine ⟨_, _, rfl, rfl, ?_⟩
  | refine Or.inl ⟨_, _, rfl, rfl, ?_⟩
  | refine Or.inr ⟨_, _, rfl, rfl, ?_⟩
  | refine ⟨rfl, ?_⟩
  | refine ⟨(by first | omega | decide), ?_⟩)
local macro_rules | `(tactic| walk_at "g") => `(tactic| repeat walk_at "g1")
theorem iteD {p A B : Prop} [Decidable p] (h1 : p → A) (h2 : ¬ p → B) : if decide p = true then A else B := by
  by_cases h : p
  · rw [if_pos (decide_eq_true h)]; exact h1 h
  · rw [if_neg (by simpa using h)]; exact h2 h
theorem iteN {p A B : Prop} [Decidable p] (h : ¬ p) (h2 : B) : if decide p = true then A else B := by rw [if_neg (by simpa using h)]; exact h2
theorem iteY {p A B : Prop} [Decidable p] (h : p) (h2 : A) : if decide p = true then A else B := by rw [if_pos (decide_eq_true h)]; exact h2

def spTurnedRow : Sp := fun vs H Q _ => ∃ l : List Bool, vs = [.str (rowS l)] ∧ l.length ≤ 100000 ∧ Q (.str (rowS (l.map (!·)))) H
theorem small5 {n : Nat} (h : n ≤ 100000) : n ≤ sizeLine := Nat.le_trans h (by decide)
theorem map_ones (l : List Bool) {fe : Nat → V} (g : Bool → Bool) (h : ∀ i, i < l.length → fe i = .str (rowS [g (l.getD i false)])) : (List.range l.length).map fe = ((l.map g).map fun b => rowS [b]).map V.str := by
  apply List.ext_getElem?
  intro i
  rw [List.getElem?_map, List.getElem?_map, List.getElem?_map, List.getElem?_map]
  rcases Nat.lt_or_ge i l.length with z | z
  · rw [List.getElem?_range z, List.getElem?_eq_getElem z]
    have := h i z
    rw [List.getD_eq_getElem?_getD, List.getElem?_eq_getElem z] at this
    exact congrArg some this
  · rw [List.getElem?_eq_none (by simpa using z), List.getElem?_eq_none z]; rfl
theorem join_len (l : List Bool) : ((l.map fun b => rowS [b]).map (·.length)).sum + (l.map fun b => rowS [b]).length * (Str.ofString "").length = l.length := by
  have e : (Str.ofString "").length = 0 := by decide +kernel
  rw [e, Nat.mul_zero, Nat.add_zero]
  induction l with
  | nil => rfl
  | cons b r ih => simp only [List.map_cons, List.sum_cons, ih, rowS_length, List.length_cons, List.length_nil]; omega
theorem one_slot {σ : St} (h : σ.length = 1) : ∃ z, σ = [z] := by
  match σ, h with
  | [z], _ => exact ⟨z, rfl⟩
theorem ok_turned_row {f : Addr} {fd : FuncData} (F : FunAt K mg "turned_row" s_turned_row ["row"] f fd) : DefOk P w K mg base 1 "turned_row" ["row"] spTurnedRow := by
  refine F.ok sc_turned_row (fun vs H Q E h => ?_) (fun cdv A outer s H vs Q E hr h => ?_)
  · obtain ⟨l, rfl, _⟩ := h; rfl
  obtain ⟨l, rfl, hl, q⟩ := h
  refine ⟨_, (pss_one (ps_ret (pe_bm PySem.F.plainAttrs_str PySem.F.slot_str_join PySem.F.type_str_join mt_join pe_str (pa_cons (pe_comp ["sign"] [] rfl (by decide +kernel) trivial (piAll (pv 0)) (fun _ _ _ _ _ => (pg_name (i := 0) (show (["sign"] : List Str).Nodup by decide +kernel) rfl (by first | exact Or.inl rfl | exact Or.inr rfl))) (fun _ _ _ _ _ => pts_nil) (fun _ _ _ _ _ => (pe_ifExp (pt_cmpR oEq (pv 0) pe_str (nomark _)) pe_str pe_str))) pa_nil)))), ?_⟩
  refine ⟨rfl, .inr ⟨_, rfl, _, rfl, fun D hD => ?_⟩⟩
  refine comp_all l.length (fun i => .str (rowS [l.getD i false])) (fun i => .str (rowS [!l.getD i false])) (fun σ => σ.length = 1) (small5 hl) ?_ ?_ ?_ ?_ ?_ ?_
  · rfl
  · intro i H1 hi; show i < (rowS l).cps.size; simpa [rowS] using hi
  · intro H1; show (rowS l).cps.size ≤ l.length; simp [rowS]
  · rintro i H1 x H2 hi ⟨rfl, c, hc, rfl⟩
    exact ⟨rfl, row_sign hc⟩
  · intro i σ1 H1 hi hS R hR
    obtain ⟨z, rfl⟩ := one_slot hS
    refine ⟨_, rfl, rfl, _, rfl, ?_⟩
    revert hR
    rw [s0, s1, rowS_dec]
    cases l.getD i false
    · intro hR; exact iteT (hR _ (by rfl))
    · intro hR; exact iteF (hR _ (by rfl))
  · refine ⟨_, D, (l.map (!·)).map fun b => rowS [b], rfl, rfl, SqL.of ?_, ?_, H, .refl ?_, ?_⟩
    · rw [upd_same]; exact congrArg (fun x => some (HO.lst x)) (map_ones l (!·) fun i _ => rfl)
    · rw [join_len, List.length_map]; omega
    · exact same_new hD
    · rw [join_bits]; exact q
def spLowerDigits : Sp := fun vs H Q _ => ∃ n d : Nat, vs = [.int n, .int d] ∧ d ≤ 100000 ∧ Q (.str (rowS (bitsW n d))) H
theorem bitsW_range (n d : Nat) : bitsW n d = (List.range d).map fun i => n.testBit (d - 1 - i) := by
  induction d with
  | zero => rfl
  | succ d ih =>
    rw [bitsW, ih, List.range_succ_eq_map, List.map_cons, List.map_map]
    congr 1
    apply List.map_congr_left
    intro i hi
    show n.testBit (d - 1 - i) = n.testBit (d + 1 - 1 - (i + 1))
    congr 1
    omega
theorem bit_and (n k : Nat) : Builtin.bitAnd ((n : Int) / 2 ^ k) 1 = ((n.testBit k).toNat : Int) := by
  rw [PyProof.Rows.bitAnd_m1]
  have e : ((n : Int) / 2 ^ k) % 2 = ((n / 2 ^ k % 2 : Nat) : Int) := by
    rw [Int.natCast_emod, Int.natCast_ediv, Int.natCast_pow]; rfl
  rw [e, Nat.testBit_eq_decide_div_mod_eq]
  have : n / 2 ^ k % 2 < 2 := Nat.mod_lt _ (by decide)
  by_cases q : n / 2 ^ k % 2 = 1
  · simp [q]
  · have : n / 2 ^ k % 2 = 0 := by omega
    simp [this]
theorem ok_lower_digits {f : Addr} {fd : FuncData} (nb : NB mg) (F : FunAt K mg "lower_digits" s_lower_digits ["n", "width"] f fd) : DefOk P w K mg base 1 "lower_digits" ["n", "width"] spLowerDigits := by
  refine F.ok sc_lower_digits (fun vs H Q E h => ?_) (fun cdv A outer s H vs Q E hr h => ?_)
  · obtain ⟨n, d, rfl, _⟩ := h; rfl
  obtain ⟨n, d, rfl, hl, q⟩ := h
  refine ⟨_, (pss_one (ps_ret (pe_bm PySem.F.plainAttrs_str PySem.F.slot_str_join PySem.F.type_str_join mt_join pe_str (pa_cons (pe_comp ["k"] [(0, "n")] rfl (by decide +kernel) ⟨rfl, .inl rfl, trivial⟩ (pi_rangeD rfl nb.range_ (pa_cons (pe_op oSub (pv 1) pe_int) (pa_cons (pe_un un_neg pe_int) (pa_cons (pe_un un_neg pe_int) pa_nil)))) (fun _ _ _ _ _ => (pg_name (i := 0) (show (["k", "n"] : List Str).Nodup by decide +kernel) rfl (by first | exact Or.inl rfl | exact Or.inr rfl))) (fun _ _ _ _ _ => pts_nil) (fun _ _ _ _ _ => (pe_ifExp (pt_cmpR oEq (pe_op op_and (pe_op op_shr (pv 1) (pv 0)) pe_int) pe_int (nomark _)) pe_str pe_str))) pa_nil)))), ?_⟩
  refine ⟨rfl, _, rfl, _, _, rfl, rfl, _, rfl, _, rfl, _, _, rfl, ⟨by omega, by omega, by decide, by decide⟩, fun D hD => ?_⟩
  have hn : (((d : Int) - 1) - (-1)).toNat = d := by omega
  refine comp_all (((d : Int) - 1) - (-1)).toNat (fun i => .int ((d : Int) - 1 + i * (-1))) (fun i => .str (rowS [n.testBit (d - 1 - i)])) (fun σ => ∃ z, σ = [z, some (.int n)]) (by rw [hn]; exact small5 hl) ?_ ?_ ?_ ?_ ?_ ?_
  · exact ⟨_, rfl⟩
  · intro i H1 hi; exact hi
  · intro H1; exact Nat.le_refl _
  · rintro i H1 x H2 hi ⟨rfl, rfl⟩
    exact ⟨rfl, rfl⟩
  · rintro i σ1 H1 hi ⟨z, rfl⟩ R hR
    rw [hn] at hi
    have ej : ((d : Int) - 1 + (i : Int) * (-1)).toNat = d - 1 - i := by omega
    refine ⟨_, rfl, _, rfl, _, _, rfl, rfl, (by omega), _, _, rfl, rfl, rfl, _, rfl, ?_⟩
    have hb : Builtin.bitAnd ((n : Int) / 2 ^ ((d : Int) - 1 + (i : Int) * (-1)).toNat) 1 = ((n.testBit (d - 1 - i)).toNat : Int) := by rw [ej]; exact bit_and _ _
    revert hR
    rw [s0, s1]
    cases e : n.testBit (d - 1 - i)
    · rw [e] at hb
      intro hR; exact iteN (fun c => absurd (hb.symm.trans (V.int.inj c)) (by decide)) (hR _ ⟨_, rfl⟩)
    · rw [e] at hb
      intro hR; exact iteY (congrArg V.int hb) (hR _ ⟨_, rfl⟩)
  · refine ⟨_, D, (bitsW n d).map fun b => rowS [b], rfl, rfl, SqL.of ?_, ?_, H, .refl ?_, ?_⟩
    · rw [upd_same, hn, bitsW_range, List.map_map, List.map_map]; rfl
    · rw [join_len, bitsW_length]; omega
    · exact same_new hD
    · rw [join_bits]; exact q
def spFixedRow : Sp := fun vs H Q _ => ∃ n m : Nat, vs = [.int n, .int m] ∧ n ≤ m ∧ blen m ≤ 100000 ∧ Q (.str (rowS (bitsW n (blen m)))) H
theorem ok_fixed_row {f : Addr} {fd : FuncData} (F : FunAt K mg "fixed_row" s_fixed_row ["n", "most"] f fd) (D_lower_digits : DefOk P w K mg base 1 "lower_digits" ["n", "width"] spLowerDigits) : DefOk P w K mg base 2 "fixed_row" ["n", "most"] spFixedRow := by
  refine F.ok sc_fixed_row (fun vs H Q E h => ?_) (fun cdv A outer s H vs Q E hr h => ?_)
  · obtain ⟨n, m, rfl, _⟩ := h; rfl
  obtain ⟨n, m, rfl, hl, hb, q⟩ := h
  refine ⟨_, (pss_cons (ps_if (PW.pt (pw_or (pt_cmpR oLt (pv 0) pe_int (nomark _)) (pw_or1 (pt_cmpR oGt (pv 0) (pv 1) (nomark _))))) (pss_one ps_never) pss_nil)
    (pss_one (ps_ret (pe_callD D_lower_digits hr (pa_cons (pv 0) (pa_cons (pe_bm0 PySem.F.plainAttrs_int PySem.F.slot_int_bit_length PySem.F.type_int_bit_length mt_bitlen (pv 1)) pa_nil)))))), ?_⟩
  refine ⟨_, rfl, .inl ⟨_, _, rfl, rfl, _, rfl, ?_⟩⟩
  refine iteN (by omega) ⟨_, rfl, _, rfl, _, _, rfl, rfl, _, rfl, ?_⟩
  refine iteN (by omega) ⟨_, rfl, _, rfl, rfl, _, rfl, rfl, ?_⟩
  rw [bits_eq]
  exact ⟨n, blen m, rfl, hb, H, .refl (Same.refl _), q⟩

def fldsW (z : Str) (i : Int) (t e : Bool) (u : Int) : List (Str × V) := [("signs", .str z), ("place", .int i), ("turned", .bl t), ("endless", .bl e), ("wished", .int u)]
abbrev flds (z : Str) (i : Int) (t e : Bool) : List (Str × V) := fldsW z i t e 0
structure SrcCls (K : PySem.W.Frag) (C : Addr) : Prop where
  cl : Cls K C
  nS : NoAttr K C "signs"
  nP : NoAttr K C "place"
  nT : NoAttr K C "turned"
  nE : NoAttr K C "endless"
  nW : NoAttr K C "wished"
theorem f01 : ¬ (("signs" : Str) = "place") := by decide +kernel
theorem f02 : ¬ (("signs" : Str) = "turned") := by decide +kernel
theorem f03 : ¬ (("signs" : Str) = "endless") := by decide +kernel
theorem f04 : ¬ (("signs" : Str) = "wished") := by decide +kernel
theorem f12 : ¬ (("place" : Str) = "turned") := by decide +kernel
theorem f13 : ¬ (("place" : Str) = "endless") := by decide +kernel
theorem f14 : ¬ (("place" : Str) = "wished") := by decide +kernel
theorem f23 : ¬ (("turned" : Str) = "endless") := by decide +kernel
theorem f24 : ¬ (("turned" : Str) = "wished") := by decide +kernel
theorem f34 : ¬ (("endless" : Str) = "wished") := by decide +kernel
theorem g10 : (("place" : Str) == "signs") = false := by decide +kernel
theorem g20 : (("turned" : Str) == "signs") = false := by decide +kernel
theorem g21 : (("turned" : Str) == "place") = false := by decide +kernel
theorem g40 : (("wished" : Str) == "signs") = false := by decide +kernel
theorem g41 : (("wished" : Str) == "place") = false := by decide +kernel
theorem g42 : (("wished" : Str) == "turned") = false := by decide +kernel
theorem g43 : (("wished" : Str) == "endless") = false := by decide +kernel
theorem put_signs (z : Str) : putF "signs" (.str z) [] = ([("signs", .str z)] : List (Str × V)) := rfl
theorem put_place0 (z : Str) (i : Int) : putF "place" (.int i) ([("signs", .str z)] : List (Str × V)) = ([("signs", .str z), ("place", .int i)] : List (Str × V)) := by
  simp only [putF, f01, if_false]
theorem put_turned0 (z : Str) (i : Int) (t : Bool) : putF "turned" (.bl t) ([("signs", .str z), ("place", .int i)] : List (Str × V)) = ([("signs", .str z), ("place", .int i), ("turned", .bl t)] : List (Str × V)) := by
  simp only [putF, f02, f12, if_false]
theorem put_endless0 (z : Str) (i : Int) (t e : Bool) : putF "endless" (.bl e) ([("signs", .str z), ("place", .int i), ("turned", .bl t)] : List (Str × V)) = ([("signs", .str z), ("place", .int i), ("turned", .bl t), ("endless", .bl e)] : List (Str × V)) := by
  simp only [putF, f03, f13, f23, if_false]
theorem put_wished0 (z : Str) (i : Int) (t e : Bool) (u : Int) : putF "wished" (.int u) ([("signs", .str z), ("place", .int i), ("turned", .bl t), ("endless", .bl e)] : List (Str × V)) = fldsW z i t e u := by
  simp only [putF, f04, f14, f24, f34, if_false]; rfl
theorem put_place (z : Str) (i j : Int) (t e : Bool) (u : Int) : putF "place" (.int j) (fldsW z i t e u) = fldsW z j t e u := by
  simp only [fldsW, putF, f01, if_false, if_true]
theorem put_turned (z : Str) (i : Int) (t t2 e : Bool) (u : Int) : putF "turned" (.bl t2) (fldsW z i t e u) = fldsW z i t2 e u := by
  simp only [fldsW, putF, f02, f12, if_false, if_true]
theorem put_endless (z : Str) (i : Int) (t e e2 : Bool) (u : Int) : putF "endless" (.bl e2) (fldsW z i t e u) = fldsW z i t e2 u := by
  simp only [fldsW, putF, f03, f13, f23, if_false, if_true]
theorem put_wished (z : Str) (i : Int) (t e : Bool) (u u2 : Int) : putF "wished" (.int u2) (fldsW z i t e u) = fldsW z i t e u2 := by
  simp only [fldsW, putF, f04, f14, f24, f34, if_false, if_true]
theorem look_signs (z : Str) (i : Int) (t e : Bool) {u : Int} : (fldsW z i t e u).lookup ("signs" : Str) = some (.str z) := by simp [fldsW]
theorem look_place (z : Str) (i : Int) (t e : Bool) {u : Int} : (fldsW z i t e u).lookup ("place" : Str) = some (.int i) := by
  simp [fldsW, List.lookup, g10]
theorem look_turned (z : Str) (i : Int) (t e : Bool) {u : Int} : (fldsW z i t e u).lookup ("turned" : Str) = some (.bl t) := by
  simp [fldsW, List.lookup, g20, g21]
theorem look_wished (z : Str) (i : Int) (t e : Bool) {u : Int} : (fldsW z i t e u).lookup ("wished" : Str) = some (.int u) := by
  simp [fldsW, List.lookup, g40, g41, g42, g43]
theorem look_meth (z : Str) (i : Int) (t e : Bool) {u : Int} {m : Str} (h : (m == ("signs" : Str)) = false) (h2 : (m == ("place" : Str)) = false) (h3 : (m == ("turned" : Str)) = false)
    (h4 : (m == ("endless" : Str)) = false := by decide +kernel) (h5 : (m == ("wished" : Str)) = false := by decide +kernel) : (fldsW z i t e u).lookup m = none := by
  simp [fldsW, List.lookup, h, h2, h3, h4, h5]
def SrcAt (H : Hp) (p C dx : Addr) (l : List Bool) (i : Nat) (t e : Bool) : Prop := ∃ u : Int, H p = some (.ins C dx (fldsW (rowS l) ((i : Nat) : Int) t e u))
def spSrcInit (C : Addr) : Sp := fun vs H Q _ => ∃ p dx z i, vs = [.ref p, .str z, .int i] ∧ H p = some (.ins C dx []) ∧ Q .non (upd H p (.ins C dx (flds z i false false)))
theorem ok_src_init {f C : Addr} {fd : FuncData} (T : SrcCls K C) (F : Fun K "__init__" "Source.__init__" s_Source_init f fd) : FnOk P w K mg base CX0 1 f fd ["self", "signs", "at"] (spSrcInit C) := by
  refine F.ok sc_Source_init (fun vs H Q E h => ?_) (fun cdv A outer s H vs Q E hr h => ?_)
  · obtain ⟨p, dx, z, i, rfl, _⟩ := h; rfl
  obtain ⟨p, dx, z, i, rfl, hp, q⟩ := h
  refine ⟨_, (pss_cons (ps_fld (pv 0) (pv 1) rfl)
    (pss_cons (ps_fld (pv 0) (pv 2) rfl)
    (pss_cons (ps_fld (pv 0) pe_bl rfl)
    (pss_cons (ps_fld (pv 0) pe_bl rfl)
    (pss_one (ps_fld (pv 0) pe_int rfl)))))), ?_⟩
  refine ⟨_, rfl, _, rfl, p, C, dx, _, rfl, hp, T.cl, T.nS, (by show 0 < 1000; decide), ?_⟩
  refine ⟨_, rfl, _, rfl, p, C, dx, _, rfl, upd_same, T.cl, T.nP, (by show 1 < 1000; decide), ?_⟩
  refine ⟨_, rfl, p, C, dx, _, rfl, upd_same, T.cl, T.nT, (by rw [put_signs, put_place0]; show 2 < 1000; decide), ?_⟩
  refine ⟨_, rfl, p, C, dx, _, rfl, upd_same, T.cl, T.nE, (by rw [put_signs, put_place0, put_turned0]; show 3 < 1000; decide), ?_⟩
  refine ⟨_, rfl, p, C, dx, _, rfl, upd_same, T.cl, T.nW, (by rw [put_signs, put_place0, put_turned0, put_endless0]; show 4 < 1000; decide), ?_⟩
  rw [upd_upd', upd_upd', upd_upd', upd_upd', put_signs, put_place0, put_turned0, put_endless0, put_wished0]
  exact q
def spDraw (C : Addr) : Sp := fun vs H Q _ => ∃ (p dx : Addr) (l : List Bool) (i : Nat) (t e b : Bool), vs = [.ref p] ∧ SrcAt H p C dx l i t e ∧ l.length ≤ 100000 ∧ l[i]? = some b ∧ Q (.int ((xor t b).toNat : Nat)) (upd H p (.ins C dx (flds (rowS l) ((i + 1 : Nat) : Int) t e)))
theorem ok_draw {f C : Addr} {fd : FuncData} (nb : NB mg) (T : SrcCls K C) (F : Fun K "draw" "Source.draw" s_Source_draw f fd) : FnOk P w K mg base CX0 1 f fd ["self"] (spDraw C) := by
  refine F.ok sc_Source_draw (fun vs H Q E h => ?_) (fun cdv A outer s H vs Q E hr h => ?_)
  · obtain ⟨p, dx, l, i, t, e, b, rfl, _⟩ := h; rfl
  obtain ⟨p, dx, l, i, t, e, b, rfl, ⟨u, hp⟩, hl, hb, q⟩ := h
  have hi : i < l.length := (List.getElem?_eq_some_iff.mp hb).1
  refine ⟨_, (pss_cons (ps_set (i := 1) sc_Source_draw.nd rfl (by first | exact Or.inl rfl | exact Or.inr rfl) (pe_fld (pv 0) rfl))
    (pss_cons (ps_fld (pv 0) pe_int rfl)
    (pss_cons (ps_if (pt_cmpR oLt (pe_fld (pv 0) rfl) (pe_callB call_len rfl nb.len_ bo_len (pa_cons (pe_fld (pv 0) rfl) pa_nil)) (nomark _)) (pss_cons (ps_set (i := 2) sc_Source_draw.nd rfl (by first | exact Or.inl rfl | exact Or.inr rfl) (pe_callTy call_intA rfl nb.int_ bo_int (pa_cons (pe_ix iAll (pe_fld (pv 0) rfl) (pe_fld (pv 0) rfl) (fun _ _ => rfl)) pa_nil)))
      (pss_cons (ps_fld (pv 0) (pe_op oAdd (pe_fld (pv 0) rfl) pe_int) rfl)
      (pss_one (ps_ret (pe_ifExp (pt_truth (pe_fld (pv 0) rfl) (fun _ => rfl)) (pe_op oSub pe_int (pv 2)) (pv 2)))))) pss_nil)
    (pss_cons (ps_if (pt_not (pt_truth (pe_fld (pv 0) rfl) (fun _ => rfl))) (pss_one ps_never) pss_nil)
    (pss_one (ps_ret (pv 1))))))), ?_⟩
  refine ⟨_, rfl, p, C, dx, _, _, rfl, hp, T.cl, T.nW, look_wished .., ?_⟩
  refine ⟨_, rfl, p, C, dx, _, rfl, hp, T.cl, T.nW, (by show 5 < 1000; decide), ?_⟩
  rw [put_wished]
  refine ⟨_, rfl, p, C, dx, _, _, rfl, upd_same, T.cl, T.nP, look_place .., _, rfl, p, C, dx, _, _, rfl, upd_same, T.cl, T.nS, look_signs .., _, _, rfl, ⟨by rw [rowS_length]; exact small5 hl, rfl⟩, .inl ⟨_, _, rfl, rfl, _, rfl, ?_⟩⟩
  refine iteY (by rw [rowS_length]; omega) ?_
  refine ⟨_, rfl, p, C, dx, _, _, rfl, upd_same, T.cl, T.nS, look_signs .., _, rfl, p, C, dx, _, _, rfl, upd_same, T.cl, T.nP, look_place .., .inr ⟨_, _, bc b, rfl, rfl, by rw [rowS_length]; exact small5 hl, atI_nat (row_item hb), .inr ⟨_, _, rfl, sign_int b, (by show 1 ≤ 640; decide), ?_⟩⟩⟩
  refine ⟨_, rfl, p, C, dx, _, _, rfl, upd_same, T.cl, T.nP, look_place .., .inl ⟨_, _, rfl, rfl, _, rfl, p, C, dx, _, rfl, upd_same, T.cl, T.nP, (by show 5 < 1000; decide), ?_⟩⟩
  rw [put_place, upd_upd']
  refine ⟨_, rfl, p, C, dx, _, _, rfl, upd_same, T.cl, T.nT, look_turned .., _, rfl, ?_⟩
  cases t with
  | false =>
    refine iteF ⟨_, rfl, ?_⟩
    have e : (false ^^ b) = b := by cases b <;> rfl
    rw [e] at q
    exact q
  | true =>
    refine iteT ⟨_, rfl, _, _, rfl, rfl, ?_⟩
    have e : ((true ^^ b).toNat : Int) = 1 - (b.toNat : Int) := by cases b <;> rfl
    rw [e] at q
    exact q
def spTurn (C : Addr) : Sp := fun vs H Q _ => ∃ (p dx : Addr) (l : List Bool) (i : Nat) (t e : Bool) (u : Int), vs = [.ref p] ∧ H p = some (.ins C dx (fldsW (rowS l) ((i : Nat) : Int) t e u)) ∧ Q .non (upd H p (.ins C dx (fldsW (rowS l) ((i : Nat) : Int) (!t) e u)))
theorem ok_turn {f C : Addr} {fd : FuncData} (T : SrcCls K C) (F : Fun K "turn" "Source.turn" s_Source_turn f fd) : FnOk P w K mg base CX0 1 f fd ["self"] (spTurn C) := by
  refine F.ok sc_Source_turn (fun vs H Q E h => ?_) (fun cdv A outer s H vs Q E hr h => ?_)
  · obtain ⟨p, dx, l, i, t, e, u, rfl, _⟩ := h; rfl
  obtain ⟨p, dx, l, i, t, e, u, rfl, hp, q⟩ := h
  refine ⟨_, (pss_one (ps_fld (pv 0) (pe_notA (pe_fld (pv 0) rfl)) rfl)), ?_⟩
  refine ⟨_, rfl, p, C, dx, _, _, rfl, hp, T.cl, T.nT, look_turned .., t, rfl, _, rfl, p, C, dx, _, rfl, hp, T.cl, T.nT, (by show 5 < 1000; decide), ?_⟩
  rw [put_turned]
  exact q
def spGoOn (C : Addr) : Sp := fun vs H Q _ => ∃ (p dx : Addr) (l : List Bool) (i : Nat) (t e : Bool) (u : Int), vs = [.ref p] ∧ H p = some (.ins C dx (fldsW (rowS l) ((i : Nat) : Int) t e u)) ∧ Q .non (upd H p (.ins C dx (fldsW (rowS l) ((i : Nat) : Int) t true u)))
theorem ok_go_on {f C : Addr} {fd : FuncData} (T : SrcCls K C) (F : Fun K "go_on" "Source.go_on" s_Source_go_on f fd) : FnOk P w K mg base CX0 1 f fd ["self"] (spGoOn C) := by
  refine F.ok sc_Source_go_on (fun vs H Q E h => ?_) (fun cdv A outer s H vs Q E hr h => ?_)
  · obtain ⟨p, dx, l, i, t, e, u, rfl, _⟩ := h; rfl
  obtain ⟨p, dx, l, i, t, e, u, rfl, hp, q⟩ := h
  refine ⟨_, (pss_one (ps_fld (pv 0) pe_bl rfl)), ?_⟩
  refine ⟨_, rfl, p, C, dx, _, rfl, hp, T.cl, T.nE, (by show 5 < 1000; decide), ?_⟩
  rw [put_endless]
  exact q

def spNo : Sp := fun _ _ _ _ => False

abbrev srcO (C dx : Addr) (l : List Bool) (i : Nat) (t e : Bool) : HO := .ins C dx (flds (rowS l) ((i : Nat) : Int) t e)
def spDrawFixed (C : Addr) : Sp := fun vs H Q _ => ∃ (p dx : Addr) (l : List Bool) (i n m : Nat) (t en : Bool), vs = [.ref p, .int m] ∧ H p = some (srcO C dx l i t en) ∧ l.length ≤ 100000 ∧ n ≤ m ∧ i + blen m ≤ l.length ∧
  ((l.drop i).take (blen m)).map (xor t) = bitsW n (blen m) ∧ Q (.int n) (upd H p (srcO C dx l (i + blen m) t en))
theorem ok_draw_fixed {f C : Addr} {fd : FuncData} (nb : NB mg) (c_C : Cls K C) (F : FunAt K mg "draw_fixed" s_draw_fixed ["source", "most"] f fd) (M_draw : MethOk P w K mg base 1 C "draw" ["self"] (spDraw C)) (M_refuse : MethOk P w K mg base 1 C "refuse" ["self"] spNo) : DefOk P w K mg base 2 "draw_fixed" ["source", "most"] (spDrawFixed C) := by
  refine F.ok sc_draw_fixed (fun vs H Q E h => ?_) (fun cdv A outer s H vs Q E hr h => ?_)
  · obtain ⟨p, dx, l, i, n, m, t, en, rfl, _⟩ := h; rfl
  obtain ⟨p, dx, l, i, n, m, t, en, rfl, hp, hl, hn, hi, hb, q⟩ := h
  refine ⟨_, (pss_cons (ps_set (i := 2) sc_draw_fixed.nd rfl (by first | exact Or.inl rfl | exact Or.inr rfl) pe_int)
    (pss_cons (ps_for PassesOwn.never rfl (pi_rangeD rfl nb.range_ (pa_cons (pe_op oSub (pe_bm0 PySem.F.plainAttrs_int PySem.F.slot_int_bit_length PySem.F.type_int_bit_length mt_bitlen (pv 1)) pe_int) (pa_cons (pe_un un_neg pe_int) (pa_cons (pe_un un_neg pe_int) pa_nil)))) (pg_name (i := 3) sc_draw_fixed.nd rfl (by first | exact Or.inl rfl | exact Or.inr rfl))
      (pss_cons (ps_set (i := 2) sc_draw_fixed.nd rfl (by first | exact Or.inl rfl | exact Or.inr rfl) (pe_op oAdd (pe_op oMul pe_int (pv 2)) (pe_methD0 M_draw c_C hr (pv 0))))
      (pss_one (ps_if (pt_cmpR oGt (pv 2) (pe_op op_shr (pv 1) (pv 3)) (nomark _)) (pss_one (ps_expr (pe_methD0 M_refuse c_C hr (pv 0)))) pss_nil))))
    (pss_one (ps_ret (pv 2))))), ?_⟩
  have hbits := bits_eq m
  refine ⟨_, rfl, rfl, _, rfl, rfl, _, _, rfl, rfl, _, rfl, _, rfl, _, _, rfl, ⟨by omega, by omega, by decide, by decide⟩, ?_⟩
  have hw : (((Builtin.Int.intBits ((m : Nat) : Int) : Nat) : Int) - 1 - (-1)).toNat = blen m := by omega
  refine for_rangeC (fun j σ H2 => ∃ z, σ = [some (.ref p), some (.int m), some (.int ((n / 2 ^ (blen m - j) : Nat) : Int)), z] ∧ H2 = upd H p (srcO C dx l (i + j) t en)) ?_ ?_ ?_
  · refine ⟨none, ?_, (upd_self' hp).symm⟩
    rw [Nat.sub_zero, Nat.div_eq_of_lt (Nat.lt_of_le_of_lt hn (blen_lt m))]; rfl
  · rintro j σ H2 hj ⟨z, rfl, rfl⟩
    rw [hw] at hj
    obtain ⟨b, hb1, hb2⟩ := piece_get hb hj hi
    have ek : (((Builtin.Int.intBits ((m : Nat) : Int) : Nat) : Int) - 1 + (j : Int) * (-1)).toNat = blen m - 1 - j := by omega
    have e1 : blen m - j = blen m - 1 - j + 1 := by omega
    have e2 : blen m - (j + 1) = blen m - 1 - j := by omega
    have es := div_step n (blen m - 1 - j)
    refine ⟨_, rfl, .inl ⟨_, _, rfl, rfl, .inl ⟨by decide, by decide⟩, _, rfl, p, dx, _, rfl, upd_same, look_meth _ _ _ _ (by decide +kernel) (by decide +kernel) (by decide +kernel), ?_⟩⟩
    refine ⟨p, dx, l, i + j, t, en, b, rfl, ⟨_, upd_same⟩, hl, hb1, .inl ⟨_, _, rfl, rfl, ?_⟩⟩
    refine ⟨_, rfl, _, rfl, _, rfl, _, _, rfl, rfl, (by omega), _, _, rfl, rfl, _, rfl, ?_⟩
    have ev : (2 : Int) * ((n / 2 ^ (blen m - j) : Nat) : Int) + (((t ^^ b).toNat : Nat) : Int) = ((n / 2 ^ (blen m - (j + 1)) : Nat) : Int) := by
      rw [hb2, e1, e2, es]; omega
    refine iteN ?_ ?_
    · rw [ev, ek, e2]
      have a1 : ((m : Nat) : Int) / 2 ^ (blen m - 1 - j) = ((m / 2 ^ (blen m - 1 - j) : Nat) : Int) := by
        rw [Int.natCast_ediv, Int.natCast_pow]; rfl
      have a2 := Nat.div_le_div_right (c := 2 ^ (blen m - 1 - j)) hn
      rw [a1]; omega
    · rw [← ev]
      exact ⟨_, rfl, by rw [upd_upd']; rfl⟩
  · rintro σ H2 ⟨z, rfl, rfl⟩
    rw [hw]
    refine ⟨_, rfl, _, .ins hp (fun b u hb e => by rw [upd_ne hb]; exact e) upd_same, ?_⟩
    have e : n / 2 ^ (blen m - blen m) = n := by rw [Nat.sub_self, Nat.pow_zero, Nat.div_one]
    rw [e]
    exact q

def CountIn (n : Int) : Prop := 0 ≤ n ∧ n < 2 ^ 255 - 1
instance (n : Int) : Decidable (CountIn n) := inferInstanceAs (Decidable (_ ∧ _))
def WholeIn (n : Int) : Prop := -(2 ^ 255) < n ∧ n < 2 ^ 255 - 1
def spCellAt (K : PySem.W.Frag) : Sp := fun vs H Q _ => ∃ (a : Addr) (ns : List Int) (k : Nat), vs = [.ref a, .int k] ∧ SqL K H a (ns.map V.int) ∧ ns.length ≤ 63 ∧ Q (.int (ns.getD k 0)) H
theorem ok_law_cell_at {f : Addr} {fd : FuncData} (nb : NB mg) (F : FunAt K mg "_law_cell_at" s_law_cell_at ["_law_script", "_law_k"] f fd) : DefOk P w K mg base 1 "_law_cell_at" ["_law_script", "_law_k"] (spCellAt K) := by
  refine F.ok sc_law_cell_at (fun vs H Q E h => ?_) (fun cdv A outer s H vs Q E hr h => ?_)
  · obtain ⟨a, ns, k, rfl, _⟩ := h; rfl
  obtain ⟨a, ns, k, rfl, hS, hl, q⟩ := h
  refine ⟨_, (pss_cons (ps_if (pt_cmpR oLt (pv 1) (pe_callB call_len rfl nb.len_ bo_len (pa_cons (pv 0) pa_nil)) (nomark _)) (pss_one (ps_ret (pe_ix iAll (pv 0) (pv 1) (fun _ _ => rfl)))) pss_nil)
    (pss_one (ps_ret pe_int))), ?_⟩
  refine ⟨_, rfl, _, rfl, _, _, rfl, .inl ⟨_, hS, rfl⟩, .inl ⟨_, _, rfl, rfl, _, rfl, ?_⟩⟩
  rw [List.length_map]
  refine iteD (fun c => ?_) (fun c => ?_)
  · have hk : k < ns.length := by omega
    refine ⟨_, rfl, _, rfl, .inl (.inl ⟨_, _, _, _, rfl, rfl, hS, atI_nat (by rw [List.getElem?_map, List.getElem?_eq_getElem hk]; rfl), H, .refl (Same.refl _), ?_⟩)⟩
    have e : ns.getD k 0 = ns[k] := by rw [List.getD_eq_getElem?_getD, List.getElem?_eq_getElem hk]; rfl
    rw [← e]
    exact q
  · have e : ns.getD k 0 = 0 := by rw [List.getD_eq_getElem?_getD, List.getElem?_eq_none (by omega)]; rfl
    rw [e] at q
    exact ⟨H, .refl (Same.refl _), q⟩
structure Base (K : PySem.W.Frag) (mg : Str → Option Value) (x : Str) (D : Addr) : Prop where
  gm : mg x = some (.ref D)
  bg : PySem.W.specialIn K (.ref D) "__getattribute__" = some (some (.builtin "type.__getattribute__"))
  br : PySem.W.readsIn K D (.type "type") = true
  bf : PySem.W.findCls K (.ref D) (.type "type") "__init__" = some (.val (.builtin "ValueError.__init__"))
theorem len_e (a : Str) (h : a.length ≤ 100) : (Str.empty ++ a).length ≤ 100 := by
  rw [strLen_append]
  have : Str.empty.length = 0 := rfl
  omega
theorem sz0 {n : Nat} (h : n ≤ 3000) : n ≤ sizeLine := Nat.le_trans h (by decide)
theorem sz1 (a : Str) (ha : a.length ≤ 100) : (Str.empty ++ a).length ≤ sizeLine := sz0 (Nat.le_trans (len_e a ha) (by decide))
theorem sz2 (a : Str) (i : Int) (ha : a.length ≤ 100) (h : i.natAbs.log2 < 1920) : (Str.empty ++ a ++ Str.ofString (toString i)).length ≤ sizeLine := by
  have h1 := len_e a ha
  have h2 := PyProof.Rows.int_text_len_1921 h
  rw [strLen_append]
  exact sz0 (by omega)
theorem sz3 (a c : Str) (i : Int) (ha : a.length ≤ 100) (hc : c.length ≤ 100) (h : i.natAbs.log2 < 1920) : (Str.empty ++ a ++ Str.ofString (toString i) ++ c).length ≤ sizeLine := by
  have h1 := len_e a ha
  have h2 := PyProof.Rows.int_text_len_1921 h
  rw [strLen_append, strLen_append]
  exact sz0 (by omega)
theorem ok_Wrong_init {f C D : Addr} {fd : FuncData} (xi : excInI K C f = true) (S : ExcS K C) (tk : PySem.W.takerIn K C "place" = some none) (B : Base K mg "RiseError" D) (F : Fun K "__init__" "Wrong.__init__" s_Wrong_init f fd) : FnOk P w K mg base CX0 1 f fd ["self", "place"] (spXInit C) := by
  obtain ⟨gm_RiseError, bg_RiseError, br_RiseError, bf_RiseError⟩ := B
  refine F.ok sc_Wrong_init (fun vs H Q E h => ?_) (fun cdv A outer s H vs Q E hr h => ?_)
  · obtain ⟨e, n, rfl, _⟩ := h; rfl
  obtain ⟨e, n, rfl, he, hs, q⟩ := h
  refine ⟨_, (pss_cons (ps_expr (pe_baseInit xi gm_RiseError bg_RiseError br_RiseError bf_RiseError (pa_cons (pv 0) (pa_cons (pe_joined (pj_cons pe_str (pj_cons (pe_fmtI (pv 1)) pj_nil))) pa_nil))))
    (pss_one (ps_fldX (pv 0) (pv 1) rfl))), ?_⟩
  have a1 : (Str.ofString "no row goes on with the sign at place ").length ≤ 100 := by decide +kernel
  refine ⟨_, rfl, _, rfl, sz1 _ a1, _, rfl, _, rfl, hs, _, rfl, sz2 _ _ a1 hs, sz2 _ _ a1 hs, e, _, rfl, he, ?_⟩
  exact ⟨_, rfl, _, rfl, e, C, rfl, he, S, tk, q⟩
theorem ok_Left_init {f C D : Addr} {fd : FuncData} (xi : excInI K C f = true) (S : ExcS K C) (tk : PySem.W.takerIn K C "place" = some none) (B : Base K mg "RiseError" D) (F : Fun K "__init__" "Left.__init__" s_Left_init f fd) : FnOk P w K mg base CX0 1 f fd ["self", "place"] (spXInit C) := by
  obtain ⟨gm_RiseError, bg_RiseError, br_RiseError, bf_RiseError⟩ := B
  refine F.ok sc_Left_init (fun vs H Q E h => ?_) (fun cdv A outer s H vs Q E hr h => ?_)
  · obtain ⟨e, n, rfl, _⟩ := h; rfl
  obtain ⟨e, n, rfl, he, hs, q⟩ := h
  refine ⟨_, (pss_cons (ps_expr (pe_baseInit xi gm_RiseError bg_RiseError br_RiseError bf_RiseError (pa_cons (pv 0) (pa_cons (pe_joined (pj_cons pe_str (pj_cons (pe_fmtI (pv 1)) (pj_cons pe_str pj_nil)))) pa_nil))))
    (pss_one (ps_fldX (pv 0) (pv 1) rfl))), ?_⟩
  have a1 : (Str.ofString "the signs go on at place ").length ≤ 100 := by decide +kernel
  have a2 : (Str.ofString ", behind the row's end").length ≤ 100 := by decide +kernel
  refine ⟨_, rfl, _, rfl, sz1 _ a1, _, rfl, _, rfl, hs, _, rfl, sz2 _ _ a1 hs, _, rfl, sz3 _ _ _ a1 a2 hs, sz3 _ _ _ a1 a2 hs, e, _, rfl, he, ?_⟩
  exact ⟨_, rfl, _, rfl, e, C, rfl, he, S, tk, q⟩

structure Cs where
  (n s w l f t a b tw k : Addr)
structure Nms (mg : Str → Option Value) (c : Cs) : Prop where
  gn : GlobV mg "NoFit" (.ref c.n)
  gs : GlobV mg "Short" (.ref c.s)
  gw : GlobV mg "Wrong" (.ref c.w)
  gl : GlobV mg "Left" (.ref c.l)
  gf : GlobV mg "NoForm" (.ref c.f)
  gt : GlobV mg "NoText" (.ref c.t)
  ga : GlobV mg "NotAhead" (.ref c.a)
  gb : GlobV mg "BadPage" (.ref c.b)
  g2 : GlobV mg "Twice" (.ref c.tw)
  gk : GlobV mg "Lacking" (.ref c.k)
structure Kits (K : PySem.W.Frag) (c : Cs) (C : Addr) (bs : List Bool) : Prop where
  xc : ExcC K C
  ks : ∃ b1 b2 b3 b4 b5 b6 b7 b8 b9 b10 : Bool, bs = [b1, b2, b3, b4, b5, b6, b7, b8, b9, b10, true] ∧ PySem.W.kitOne K (.ref C) (.ref c.n) = some b1 ∧ PySem.W.kitOne K (.ref C) (.ref c.s) = some b2 ∧ PySem.W.kitOne K (.ref C) (.ref c.w) = some b3 ∧ PySem.W.kitOne K (.ref C) (.ref c.l) = some b4 ∧
    PySem.W.kitOne K (.ref C) (.ref c.f) = some b5 ∧ PySem.W.kitOne K (.ref C) (.ref c.t) = some b6 ∧ PySem.W.kitOne K (.ref C) (.ref c.a) = some b7 ∧ PySem.W.kitOne K (.ref C) (.ref c.b) = some b8 ∧ PySem.W.kitOne K (.ref C) (.ref c.tw) = some b9 ∧ PySem.W.kitOne K (.ref C) (.ref c.k) = some b10 ∧ PySem.W.kitOne K (.ref C) (.type "ValueError") = some true
def spKindsG (K : PySem.W.Frag) (c : Cs) : Sp := fun vs H Q _ => ∃ v : V, vs = [v] ∧ ((v = .non ∧ ∀ p, H p = none → Q (.ref p) (upd H p (.lst ([] : List V)))) ∨
  (∃ a C d bs, v = .ref a ∧ H a = some (ExcO a C d) ∧ (d = none ∨ ∃ dx fs, d = some dx ∧ H dx = some (.xd fs)) ∧ Kits K c C bs ∧ ∀ p, H p = none → Q (.ref p) (upd H p (.lst (bs.map .bl)))))
theorem ok_law_kindsG {f : Addr} {c : Cs} {fd : FuncData} (nb : NB mg) (nbV : mg "ValueError" = none) (X : Nms mg c) (F : FunAt K mg "_law_kinds" s_law_kinds ["_law_kept"] f fd) : DefOk P w K mg base 1 "_law_kinds" ["_law_kept"] (spKindsG K c) := by
  obtain ⟨gc_NoFit, gc_Short, gc_Wrong, gc_Left, gc_NoForm, gc_NoText, gc_NotAhead, gc_BadPage, gc_Twice, gc_Lacking⟩ := X
  refine F.ok sc_law_kinds (fun vs H Q E h => ?_) (fun cdv A outer s H vs Q E hr h => ?_)
  · obtain ⟨v, rfl, _⟩ := h; rfl
  obtain ⟨v, rfl, hv⟩ := h
  refine ⟨_, (pss_cons (ps_if (pt_cmpR op_isN (pv 0) pe_non (nomark _)) (pss_one (ps_ret (pe_lst pa_nil))) pss_nil)
    (pss_cons (ps_set (i := 1) sc_law_kinds.nd rfl (by first | exact Or.inl rfl | exact Or.inr rfl) (pe_lst (pa_cons (pe_callB call_isinstX rfl nb.isinstance_ bo_isinstance (pa_cons (pv 0) (pa_cons (pe_globV gc_NoFit) pa_nil))) (pa_cons (pe_callB call_isinstX rfl nb.isinstance_ bo_isinstance (pa_cons (pv 0) (pa_cons (pe_globV gc_Short) pa_nil))) (pa_cons (pe_callB call_isinstX rfl nb.isinstance_ bo_isinstance (pa_cons (pv 0) (pa_cons (pe_globV gc_Wrong) pa_nil))) (pa_cons (pe_callB call_isinstX rfl nb.isinstance_ bo_isinstance (pa_cons (pv 0) (pa_cons (pe_globV gc_Left) pa_nil))) pa_nil))))))
    (pss_cons (ps_set (i := 1) sc_law_kinds.nd rfl (by first | exact Or.inl rfl | exact Or.inr rfl) (pe_op op_cat (pv 1) (pe_lst (pa_cons (pe_callB call_isinstX rfl nb.isinstance_ bo_isinstance (pa_cons (pv 0) (pa_cons (pe_globV gc_NoForm) pa_nil))) (pa_cons (pe_callB call_isinstX rfl nb.isinstance_ bo_isinstance (pa_cons (pv 0) (pa_cons (pe_globV gc_NoText) pa_nil))) (pa_cons (pe_callB call_isinstX rfl nb.isinstance_ bo_isinstance (pa_cons (pv 0) (pa_cons (pe_globV gc_NotAhead) pa_nil))) pa_nil))))))
    (pss_cons (ps_set (i := 1) sc_law_kinds.nd rfl (by first | exact Or.inl rfl | exact Or.inr rfl) (pe_op op_cat (pv 1) (pe_lst (pa_cons (pe_callB call_isinstX rfl nb.isinstance_ bo_isinstance (pa_cons (pv 0) (pa_cons (pe_globV gc_BadPage) pa_nil))) (pa_cons (pe_callB call_isinstX rfl nb.isinstance_ bo_isinstance (pa_cons (pv 0) (pa_cons (pe_globV gc_Twice) pa_nil))) (pa_cons (pe_callB call_isinstX rfl nb.isinstance_ bo_isinstance (pa_cons (pv 0) (pa_cons (pe_globV gc_Lacking) pa_nil))) pa_nil))))))
    (pss_one (ps_ret (pe_op op_cat (pv 1) (pe_lst (pa_cons (pe_callB call_isinstX rfl nb.isinstance_ bo_isinstance (pa_cons (pv 0) (pa_cons (pe_bltn (v := .ty "ValueError") rfl nbV bo_ValueError rfl) pa_nil))) pa_nil))))))))), ?_⟩
  rcases hv with ⟨rfl, q⟩ | ⟨a, C, d, bs, rfl, ha, hd, ⟨xc, b1, b2, b3, b4, b5, b6, b7, b8, b9, b10, rfl, k1, k2, k3, k4, k5, k6, k7, k8, k9, k10, kV⟩, q⟩
  · exact ⟨_, rfl, rfl, _, rfl, iteY rfl ⟨Nat.zero_le _, fun r hr2 => ⟨_, .new hr2 (same_new hr2) upd_same trivial, q r hr2⟩⟩⟩
  · have kr : ∀ {D : Addr} {b : Bool}, PySem.W.kitOne K (.ref C) (.ref D) = some b → ∀ cv, RelV (.ref D) cv → PySem.W.kitOne K (.ref C) cv = some b := fun {D b} h cv r => by
      obtain rfl : cv = .ref D := r
      exact h
    have kv : ∀ cv, RelV (.ty "ValueError") cv → PySem.W.kitOne K (.ref C) cv = some true := fun cv r => by
      obtain rfl : cv = .type "ValueError" := r
      exact kV
    have dS : ∀ {H' : Hp}, Same H H' → (d = none ∨ ∃ dx fs, d = some dx ∧ H' dx = some (.xd fs)) := fun {H'} hs => by
      rcases hd with z | ⟨dx, fs, z, e⟩
      · exact .inl z
      · exact .inr ⟨dx, fs, z, hs _ _ e⟩
    refine ⟨_, rfl, rfl, _, rfl, iteN (fun z => nomatch z) ?_⟩
    refine ⟨_, rfl, a, C, d, _, b1, rfl, ha, xc, hd, kr k1, ?_⟩
    refine ⟨_, rfl, a, C, d, _, b2, rfl, ha, xc, hd, kr k2, ?_⟩
    refine ⟨_, rfl, a, C, d, _, b3, rfl, ha, xc, hd, kr k3, ?_⟩
    refine ⟨_, rfl, a, C, d, _, b4, rfl, ha, xc, hd, kr k4, ?_⟩
    refine ⟨(by show 4 ≤ sizeLine; decide), fun r1 h1 => ?_⟩
    have s1' := same_new (o := HO.lst [V.bl b1, .bl b2, .bl b3, .bl b4]) h1
    have ha1 := s1' _ _ ha
    refine ⟨_, rfl, _, rfl, a, C, d, _, b5, rfl, ha1, xc, dS s1', kr k5, ?_⟩
    refine ⟨_, rfl, a, C, d, _, b6, rfl, ha1, xc, dS s1', kr k6, ?_⟩
    refine ⟨_, rfl, a, C, d, _, b7, rfl, ha1, xc, dS s1', kr k7, ?_⟩
    refine ⟨(by show 3 ≤ sizeLine; decide), fun r2 h2 => ?_⟩
    have s2' := same_new (o := HO.lst [V.bl b5, .bl b6, .bl b7]) h2
    refine ⟨r1, r2, _, _, rfl, rfl, s2' _ _ upd_same, upd_same, (by show 4 + 3 ≤ sizeLine; decide), fun r3 h3 => ?_⟩
    have s3' := same_new (o := HO.lst ([V.bl b1, .bl b2, .bl b3, .bl b4] ++ [V.bl b5, .bl b6, .bl b7])) h3
    have t3 := (s1'.trans s2').trans s3'
    have ha3 := t3 _ _ ha
    refine ⟨_, rfl, _, rfl, a, C, d, _, b8, rfl, ha3, xc, dS t3, kr k8, ?_⟩
    refine ⟨_, rfl, a, C, d, _, b9, rfl, ha3, xc, dS t3, kr k9, ?_⟩
    refine ⟨_, rfl, a, C, d, _, b10, rfl, ha3, xc, dS t3, kr k10, ?_⟩
    refine ⟨(by show 3 ≤ sizeLine; decide), fun r4 h4 => ?_⟩
    have s4' := same_new (o := HO.lst [V.bl b8, .bl b9, .bl b10]) h4
    refine ⟨r3, r4, _, _, rfl, rfl, s4' _ _ upd_same, upd_same, (by show 7 + 3 ≤ sizeLine; decide), fun r5 h5 => ?_⟩
    have s5' := same_new (o := HO.lst (([V.bl b1, .bl b2, .bl b3, .bl b4] ++ [V.bl b5, .bl b6, .bl b7]) ++ [V.bl b8, .bl b9, .bl b10])) h5
    have t5 := (t3.trans s4').trans s5'
    have ha5 := t5 _ _ ha
    refine ⟨_, rfl, _, rfl, a, C, d, _, true, rfl, ha5, xc, dS t5, kv, ?_⟩
    refine ⟨(by show 1 ≤ sizeLine; decide), fun r6 h6 => ?_⟩
    have s6' := same_new (o := HO.lst [V.bl true]) h6
    refine ⟨r5, r6, _, _, rfl, rfl, s6' _ _ upd_same, upd_same, (by show 10 + 1 ≤ sizeLine; decide), fun p hp => ?_⟩
    have sa := t5.trans s6'
    exact ⟨_, .new (sa.free hp) (sa.trans (same_new hp)) upd_same trivial, q p (sa.free hp)⟩

theorem one_ok : 1 ≤ sizeLine := by decide
def spMadeOf : Sp := fun vs H Q _ => ∃ t s : Str, vs = [.str t, .str s] ∧ t.length ≤ 1000 ∧ Q (.bl (madeOf t s)) H
theorem ok_made_of {f : Addr} {fd : FuncData} (nb : NB mg) (F : FunAt K mg "made_of" s_made_of ["text", "signs"] f fd) : DefOk P w K mg base 1 "made_of" ["text", "signs"] spMadeOf := by
  refine F.ok sc_made_of (fun vs H Q E h => ?_) (fun cdv A outer s H vs Q E hr h => ?_)
  · obtain ⟨_, _, rfl, _⟩ := h; rfl
  obtain ⟨t, sg, rfl, ht, q⟩ := h
  refine ⟨_, (pss_one (ps_ret (pe_callB (call_all rfl) rfl nb.all_ bo_all (pa_cons (pe_comp ["sign"] [(1, "signs")] rfl (by decide +kernel) ⟨rfl, .inl rfl, trivial⟩ (piAll (pv 0)) (fun _ _ _ _ _ => (pg_name (i := 0) (show (["sign", "signs"] : List Str).Nodup by decide +kernel) rfl (by first | exact Or.inl rfl | exact Or.inr rfl))) (fun _ _ _ _ _ => pts_nil) (fun _ _ _ _ _ => (pe_cmpR op_in_str (pv 0) (pv 1) (by with_unfolding_all rfl)))) pa_nil)))), ?_⟩
  refine .inr ⟨_, rfl, t, rfl, fun D hD => ?_⟩
  refine comp_str (fun c => .bl (decide (c ∈ sg.cps.toList))) (fun σ => ∃ z, σ = [z, some (.str sg)]) (small5 (by show t.length ≤ _; omega)) ⟨_, rfl⟩ hD ?_ ?_
  · rintro c hc σ1 H1 ⟨z, rfl⟩ hs R hR
    refine ⟨_, rfl, _, rfl, _, _, rfl, rfl, ?_⟩
    rw [StrLaws.found_one]
    exact hR _ ⟨_, rfl⟩
  · refine ⟨D, t.cps.toList.map fun c => decide (c ∈ sg.cps.toList), rfl, ?_, H, .refl (same_new hD), ?_⟩
    · rw [List.map_map]; exact SqL.of upd_same
    · rw [List.all_map]; exact q
def spIsName : Sp := fun vs H Q _ => ∃ n : Str, vs = [.str n] ∧ n.length ≤ 1000 ∧ Q (.bl (isName n)) H
theorem ok_is_name {f : Addr} {fd : FuncData} (nb : NB mg) (g_LONGEST_NAME : GlobV mg "LONGEST_NAME" (.int 12)) (g_SMALL_LETTERS : GlobV mg "SMALL_LETTERS" (.str L26)) (F : FunAt K mg "is_name" s_is_name ["name"] f fd) (D_made_of : DefOk P w K mg base 1 "made_of" ["text", "signs"] spMadeOf) : DefOk P w K mg base 2 "is_name" ["name"] spIsName := by
  refine F.ok sc_is_name (fun vs H Q E h => ?_) (fun cdv A outer s H vs Q E hr h => ?_)
  · obtain ⟨_, rfl, _⟩ := h; rfl
  obtain ⟨n, rfl, hn, q⟩ := h
  refine ⟨_, (pss_one (ps_ret (pe_and (pe_cmpR oLt pe_int (pe_callB call_len rfl nb.len_ bo_len (pa_cons (pv 0) pa_nil)) (nomark _)) (pe_and (pe_cmpR oLe (pe_callB call_len rfl nb.len_ bo_len (pa_cons (pv 0) pa_nil)) (pe_globV g_LONGEST_NAME) (nomark _)) (pe_one (pe_callD D_made_of hr (pa_cons (pv 0) (pa_cons (pe_globV g_SMALL_LETTERS) pa_nil)))))))), ?_⟩
  have ln : n.length ≤ sizeLine := small5 (by omega)
  unfold isName at q
  refine ⟨_, rfl, _, _, rfl, ⟨ln, rfl⟩, .inl ⟨_, _, rfl, rfl, _, rfl, ?_⟩⟩
  refine iteD (fun c1 => ?_) (fun c1 => ?_)
  · refine ⟨_, rfl, _, _, rfl, ⟨ln, rfl⟩, _, _, rfl, rfl, _, rfl, ?_⟩
    refine iteD (fun c2 => ?_) (fun c2 => ?_)
    · refine ⟨_, rfl, n, L26, rfl, hn, H, .refl (Same.refl _), ?_⟩
      rw [decide_eq_true ⟨by omega, by omega⟩, Bool.true_and] at q
      exact q
    · rw [decide_eq_false (fun z => c2 (by omega)), Bool.false_and] at q
      exact ⟨H, .refl (Same.refl _), q⟩
  · rw [decide_eq_false (fun z => c1 (by omega)), Bool.false_and] at q
    exact ⟨H, .refl (Same.refl _), q⟩
structure Parts (H : Hp) (p : Addr) (ps : List (Addr × Str × Addr)) : Prop where
  l : H p = some (.lst (ps.map fun x => V.ref x.1))
  t : ∀ x, x ∈ ps → H x.1 = some (.tup [.str x.2.1, .ref x.2.2])
  n : ps.length ≤ 30
  b : ∀ x, x ∈ ps → x.2.1.length ≤ 100
def nms (ps : List (Addr × Str × Addr)) : List Str := ps.map fun x => x.2.1
def fms (ps : List (Addr × Str × Addr)) : List Addr := ps.map fun x => x.2.2
def spNamesOf : Sp := fun vs H Q _ => ∃ p ps, vs = [.ref p] ∧ Parts H p ps ∧ goodNames (nms ps) = true ∧ ∀ D, H D = none → Q (.ref D) (upd H D (.lst ((nms ps).map V.str)))
theorem ok_names_of {f : Addr} {fd : FuncData} (nb : NB mg) (g_MOST_PARTS : GlobV mg "MOST_PARTS" (.int 20)) (F : FunAt K mg "names_of" s_names_of ["parts"] f fd) (D_is_name : DefOk P w K mg base 2 "is_name" ["name"] spIsName) : DefOk P w K mg base 3 "names_of" ["parts"] spNamesOf := by
  refine F.ok sc_names_of (fun vs H Q E h => ?_) (fun cdv A outer s H vs Q E hr h => ?_)
  · obtain ⟨_, _, rfl, _⟩ := h; rfl
  obtain ⟨p, ps, rfl, hP, hg, q⟩ := h
  refine ⟨_, (pss_cons (ps_setComp (i := 1)  ["part"] [] sc_names_of.nd rfl rfl rfl (by decide +kernel) trivial (piAll (pv 0)) (fun _ _ _ _ _ => (pg_name (i := 0) (show (["part"] : List Str).Nodup by decide +kernel) rfl (by first | exact Or.inl rfl | exact Or.inr rfl))) (fun _ _ _ _ _ => pts_nil) (fun _ _ _ _ _ => (pe_ix iAll (pv 0) pe_int (fun _ _ => rfl))))
    (pss_cons (ps_if (PW.pt (pw_or (pt_cmpR oEq (pe_callB call_len rfl nb.len_ bo_len (pa_cons (pv 1) pa_nil)) pe_int (nomark _)) (pw_or1 (pt_cmpR oGt (pe_callB call_len rfl nb.len_ bo_len (pa_cons (pv 1) pa_nil)) (pe_globV g_MOST_PARTS) (nomark _))))) (pss_one ps_never) pss_nil)
    (pss_cons (ps_if (pt_cmpR oLt (pe_lenset rfl rfl nb.len_ rfl nb.set_ (pv 1)) (pe_callB call_len rfl nb.len_ bo_len (pa_cons (pv 1) pa_nil)) (nomark _)) (pss_one ps_never) pss_nil)
    (pss_cons (ps_if (pt_not (pt_truth (pe_callB (call_all rfl) rfl nb.all_ bo_all (pa_cons (pe_comp ["name"] [] rfl (by decide +kernel) trivial (piAll (pv 1)) (fun _ _ _ _ _ => (pg_name (i := 0) (show (["name"] : List Str).Nodup by decide +kernel) rfl (by first | exact Or.inl rfl | exact Or.inr rfl))) (fun _ _ _ _ _ => pts_nil) (fun _ _ _ _ _ => (pe_callD D_is_name hr (pa_cons (pv 0) pa_nil)))) pa_nil)) (fun _ => rfl))) (pss_one ps_never) pss_nil)
    (pss_one (ps_ret (pv 1))))))), ?_⟩
  refine .inl ⟨_, rfl, p, rfl, ⟨_, SqL.of hP.l⟩, fun D hD => ?_⟩
  refine comp_listI (K := K) (a := p) (xs := ps.map fun x => V.ref x.1) (fun i => V.str ((nms ps).getD i Str.empty)) (fun σ => ∃ z, σ = [z]) (by rw [List.length_map]; exact small5 (by have := hP.n; omega)) ⟨_, rfl⟩ hD (SqL.of hP.l) ?_ ?_
  · rintro i x hx σ1 H1 ⟨z, rfl⟩ hs1 R hR
    rw [List.getElem?_map] at hx
    obtain ⟨y, hy, rfl⟩ := Option.map_eq_some_iff.mp hx
    have hm := List.mem_of_getElem? hy
    have e : (nms ps).getD i Str.empty = y.2.1 := by unfold nms; rw [List.getD_eq_getElem?_getD, List.getElem?_map, hy]; rfl
    rw [e] at hR
    exact ⟨_, rfl, .inl (.inr ⟨_, _, _, _, rfl, rfl, SqT.of (hs1 _ _ (hP.t y hm)), atI_nat (j := 0) rfl, hR _ ⟨_, rfl⟩⟩)⟩
  have en : (List.range (ps.map fun x => V.ref x.1).length).map (fun i => V.str ((nms ps).getD i Str.empty)) = (nms ps).map V.str := by
    have h0 := names_range (nms ps)
    rw [show (ps.map fun x => V.ref x.1).length = (nms ps).length by unfold nms; rw [List.length_map, List.length_map]]
    exact h0
  rw [en]
  have hlN : (nms ps).length ≤ 30 := by unfold nms; rw [List.length_map]; exact hP.n
  have hSq : SqL K (upd H D (.lst ((nms ps).map V.str))) D ((nms ps).map V.str) := SqL.of upd_same
  have hds := dsN_le (nms ps)
  unfold goodNames at hg
  refine ⟨_, rfl, _, _, rfl, .inl ⟨_, hSq, rfl⟩, rfl, _, rfl, ?_⟩
  rw [List.length_map]
  simp only [Bool.and_eq_true, decide_eq_true_eq] at hg
  obtain ⟨⟨h0, h20, hd⟩, hall⟩ := hg
  refine iteN (fun z => h0 (by have := V.int.inj z; omega)) ⟨_, rfl, _, _, rfl, .inl ⟨_, hSq, rfl⟩, _, _, rfl, rfl, _, rfl, iteN (by rw [List.length_map]; omega) ?_⟩
  refine ⟨_, rfl, _, _, texts_names hSq, (by unfold scanBound; omega), _, rfl, _, _, rfl, .inl ⟨_, hSq, rfl⟩, .inl ⟨_, _, rfl, rfl, _, rfl, iteN (by rw [List.length_map]; show ¬ (((dsN (nms ps) : Nat) : Int) < _); omega) ?_⟩⟩
  refine .inl ⟨_, rfl, D, rfl, ⟨_, hSq⟩, fun D2 hD2 => ?_⟩
  have hD3 : upd H D (.lst ((nms ps).map V.str)) D = some (.lst ((nms ps).map V.str)) := upd_same
  refine comp_list (K := K) (a := D) (xs := (nms ps).map V.str) (fun x => match x with | .str n => .bl (isName n) | _ => .non) (fun σ => ∃ z, σ = [z]) (by rw [List.length_map]; exact small5 (by omega)) ⟨_, rfl⟩ hD2 hSq ?_ ?_
  · rintro x hx σ1 H1 ⟨z, rfl⟩ hs1 R hR
    obtain ⟨n, hn, rfl⟩ := List.mem_map.mp hx
    obtain ⟨y, hy, rfl⟩ := List.mem_map.mp hn
    have := hP.b y hy
    exact ⟨_, rfl, _, rfl, by omega, hR _ ⟨_, rfl⟩⟩
  · rw [List.map_map]
    refine ⟨D2, (nms ps).map isName, rfl, ?_, _, rfl, ?_⟩
    · rw [List.map_map]; exact SqL.of upd_same
    rw [List.all_map, show (id ∘ isName) = isName from rfl, hall]
    exact iteF ⟨_, rfl, _, .new (o := HO.lst ((nms ps).map V.str)) hD ((same_new hD).trans (same_new hD2)) (by rw [upd_ne (fun z => by rw [← z, hD3] at hD2; cases hD2)]; exact upd_same) trivial, q D hD⟩
structure SpanCls (K : PySem.W.Frag) (C : Addr) : Prop where
  cl : Cls K C
  nL : NoAttr K C "low"
  nH : NoAttr K C "high"
structure LetCls (K : PySem.W.Frag) (C : Addr) : Prop where
  cl : Cls K C
  nS : NoAttr K C "signs"
structure TwoCls (K : PySem.W.Frag) (C : Addr) : Prop where
  cl : Cls K C
  nN : NoAttr K C "names"
  nF : NoAttr K C "forms"
theorem lowhigh : ¬ (("low" : Str) = "high") := by decide +kernel
theorem namesforms : ¬ (("names" : Str) = "forms") := by decide +kernel
theorem put_low (v : V) : putF "low" v [] = ([("low", v)] : List (Str × V)) := rfl
theorem put_high (v w : V) : putF "high" w ([("low", v)] : List (Str × V)) = ([("low", v), ("high", w)] : List (Str × V)) := by simp only [putF, lowhigh, if_false]
theorem put_lsigns (v : V) : putF "signs" v [] = ([("signs", v)] : List (Str × V)) := rfl
theorem put_names (v : V) : putF "names" v [] = ([("names", v)] : List (Str × V)) := rfl
theorem put_forms (v w : V) : putF "forms" w ([("names", v)] : List (Str × V)) = ([("names", v), ("forms", w)] : List (Str × V)) := by simp only [putF, namesforms, if_false]
theorem look1 (k : Str) (v : V) (r : List (Str × V)) : ((k, v) :: r).lookup k = some v := by simp [List.lookup]
theorem look2 (k k2 : Str) (v w : V) (h : (k2 == k) = false) : ([(k, v), (k2, w)] : List (Str × V)).lookup k2 = some w := by simp [List.lookup, h]
theorem highlow : (("high" : Str) == "low") = false := by decide +kernel
theorem formsnames : (("forms" : Str) == "names") = false := by decide +kernel
def spanF (a b : Int) : List (Str × V) := [("low", .int a), ("high", .int b)]
def letF (s : Str) : List (Str × V) := [("signs", .str s)]
def twoF (l1 l2 : Addr) : List (Str × V) := [("names", .ref l1), ("forms", .ref l2)]
def spSpanInit (C : Addr) : Sp := fun vs H Q _ => ∃ (p dx : Addr) (a b : Int), vs = [.ref p, .int a, .int b] ∧ H p = some (.ins C dx []) ∧ a ≤ b ∧ Q .non (upd H p (.ins C dx (spanF a b)))
theorem ok_span_init {f C : Addr} {fd : FuncData} (T : SpanCls K C) (F : Fun K "__init__" "Span.__init__" s_Span_init f fd) : FnOk P w K mg base CX0 1 f fd ["self", "low", "high"] (spSpanInit C) := by
  refine F.ok sc_Span_init (fun vs H Q E h => ?_) (fun cdv A outer s H vs Q E hr h => ?_)
  · obtain ⟨_, _, _, _, rfl, _⟩ := h; rfl
  obtain ⟨p, dx, a, b, rfl, hp, hab, q⟩ := h
  refine ⟨_, (pss_cons (ps_if (pt_cmpR oGt (pv 1) (pv 2) (nomark _)) (pss_one ps_never) pss_nil)
    (pss_cons (ps_fld (pv 0) (pv 1) rfl)
    (pss_one (ps_fld (pv 0) (pv 2) rfl)))), ?_⟩
  refine ⟨_, rfl, _, rfl, _, _, rfl, rfl, _, rfl, iteN (by omega) ?_⟩
  refine ⟨_, rfl, _, rfl, p, C, dx, _, rfl, hp, T.cl, T.nL, (by show 0 < 1000; decide), ?_⟩
  rw [put_low]
  refine ⟨_, rfl, _, rfl, p, C, dx, _, rfl, upd_same, T.cl, T.nH, (by show 1 < 1000; decide), ?_⟩
  rw [put_high, upd_upd']
  exact q
def spLetInit (C : Addr) : Sp := fun vs H Q _ => ∃ (p dx : Addr) (s : Str), vs = [.ref p, .str s] ∧ H p = some (.ins C dx []) ∧ s.length ≤ 1000 ∧ goodText s = true ∧ Q .non (upd H p (.ins C dx (letF s)))
theorem ok_let_init {f C : Addr} {fd : FuncData} (nb : NB mg) (g_MOST_SIGNS : GlobV mg "MOST_SIGNS" (.int 60)) (g_LETTERS_AND_FIGURES : GlobV mg "LETTERS_AND_FIGURES" (.str L62)) (T : LetCls K C) (F : Fun K "__init__" "Letters.__init__" s_Letters_init f fd) (D_made_of : DefOk P w K mg base 1 "made_of" ["text", "signs"] spMadeOf) : FnOk P w K mg base CX0 2 f fd ["self", "signs"] (spLetInit C) := by
  refine F.ok sc_Letters_init (fun vs H Q E h => ?_) (fun cdv A outer s H vs Q E hr h => ?_)
  · obtain ⟨_, _, _, rfl, _⟩ := h; rfl
  obtain ⟨p, dx, t, rfl, hp, ht, hg, q⟩ := h
  refine ⟨_, (pss_cons (ps_if (PW.pt (pw_or (pt_cmpR oEq (pv 1) pe_str (nomark _)) (pw_or1 (pt_cmpR oGt (pe_callB call_len rfl nb.len_ bo_len (pa_cons (pv 1) pa_nil)) (pe_globV g_MOST_SIGNS) (nomark _))))) (pss_one ps_never) pss_nil)
    (pss_cons (ps_if (pt_cmpR oLt (pe_lenset rfl rfl nb.len_ rfl nb.set_ (pv 1)) (pe_callB call_len rfl nb.len_ bo_len (pa_cons (pv 1) pa_nil)) (nomark _)) (pss_one ps_never) pss_nil)
    (pss_cons (ps_if (pt_not (pt_truth (pe_callD D_made_of hr (pa_cons (pv 1) (pa_cons (pe_globV g_LETTERS_AND_FIGURES) pa_nil))) (fun _ => rfl))) (pss_one ps_never) pss_nil)
    (pss_one (ps_fld (pv 0) (pv 1) rfl))))), ?_⟩
  have ln : t.length ≤ sizeLine := small5 (by omega)
  have hds := dsT_le t
  unfold goodText at hg
  simp only [Bool.and_eq_true, decide_eq_true_eq] at hg
  obtain ⟨⟨h0, h60, hd⟩, hall⟩ := hg
  refine ⟨_, rfl, rfl, _, rfl, iteN (fun z => h0 ((str_nil t).mp (V.str.inj z))) ⟨_, rfl, _, _, rfl, ⟨ln, rfl⟩, _, _, rfl, rfl, _, rfl, iteN (by omega) ?_⟩⟩
  refine ⟨_, rfl, _, _, texts_text t, (by unfold scanBound; show t.length + 1 < _; omega), _, rfl, _, _, rfl, ⟨ln, rfl⟩, .inl ⟨_, _, rfl, rfl, _, rfl, iteN (by show ¬ (((dsT t : Nat) : Int) < _); omega) ?_⟩⟩
  refine ⟨_, rfl, t, L62, rfl, by omega, _, rfl, ?_⟩
  rw [hall]
  refine iteF ⟨_, rfl, _, rfl, p, C, dx, _, rfl, hp, T.cl, T.nS, (by show 0 < 1000; decide), ?_⟩
  rw [put_lsigns]
  exact q
theorem Parts.keep {H H' : Hp} {p o C dx : Addr} {fs : List (Str × V)} {ps : List (Addr × Str × Addr)} (h : Parts H p ps) (ho : H o = some (.ins C dx fs)) (s : ∀ b u, b ≠ o → H b = some u → H' b = some u) : Parts H' p ps :=
  ⟨s _ _ (fun z => by have := h.l; rw [z, ho] at this; cases this) h.l, fun x hx => s _ _ (fun z => by have := h.t x hx; rw [z, ho] at this; cases this) (h.t x hx), h.n, h.b⟩
def spTwoInit (C : Addr) : Sp := fun vs H Q _ => ∃ (o dx p : Addr) (ps : List (Addr × Str × Addr)), vs = [.ref o, .ref p] ∧ H o = some (.ins C dx []) ∧ Parts H p ps ∧ goodNames (nms ps) = true ∧
  ∀ l1 l2, H l1 = none → H l2 = none → l1 ≠ l2 → Q .non (upd (upd (upd H l1 (.lst ((nms ps).map V.str))) l2 (.lst ((fms ps).map V.ref))) o (.ins C dx (twoF l1 l2)))
theorem ok_rec_init {f C : Addr} {fd : FuncData} (nb : NB mg) (T : TwoCls K C) (F : Fun K "__init__" "Record.__init__" s_Record_init f fd) (D_names_of : DefOk P w K mg base 3 "names_of" ["parts"] spNamesOf) : FnOk P w K mg base CX0 4 f fd ["self", "parts"] (spTwoInit C) := by
  refine F.ok sc_Record_init (fun vs H Q E h => ?_) (fun cdv A outer s H vs Q E hr h => ?_)
  · obtain ⟨_, _, _, _, rfl, _⟩ := h; rfl
  obtain ⟨o, dx, p, ps, rfl, ho, hP, hg, q⟩ := h
  refine ⟨_, (pss_cons (ps_fld (pv 0) (pe_callD D_names_of hr (pa_cons (pv 1) pa_nil)) rfl)
    (pss_one (ps_fld (pv 0) (pe_comp ["part"] [] rfl (by decide +kernel) trivial (piAll (pv 1)) (fun _ _ _ _ _ => (pg_name (i := 0) (show (["part"] : List Str).Nodup by decide +kernel) rfl (by first | exact Or.inl rfl | exact Or.inr rfl))) (fun _ _ _ _ _ => pts_nil) (fun _ _ _ _ _ => (pe_ix iAll (pv 0) pe_int (fun _ _ => rfl)))) rfl))), ?_⟩
  refine ⟨_, rfl, p, ps, rfl, hP, hg, fun l1 h1 => ?_⟩
  have n1 : l1 ≠ o := (ne_of_none ho h1).symm
  refine ⟨_, rfl, o, C, dx, _, rfl, (by rw [upd_ne (Ne.symm n1)]; exact ho), T.cl, T.nN, (by show 0 < 1000; decide), ?_⟩
  rw [put_names]
  have k1 : ∀ b u, b ≠ o → H b = some u → upd (upd H l1 (.lst ((nms ps).map V.str))) o (.ins C dx [("names", .ref l1)]) b = some u := fun b u nb e => by rw [upd_ne nb, upd_ne (ne_of_none e h1)]; exact e
  have hP1 := hP.keep ho k1
  refine .inl ⟨_, rfl, p, rfl, ⟨_, SqL.of hP1.l⟩, fun l2 h2 => ?_⟩
  have n2 : l2 ≠ o := fun z => by rw [z, upd_same] at h2; cases h2
  have n12 : l1 ≠ l2 := fun z => by rw [upd_ne n2, ← z, upd_same] at h2; cases h2
  have h20 : H l2 = none := by rw [upd_ne n2, upd_ne (Ne.symm n12)] at h2; exact h2
  refine comp_listI (K := K) (a := p) (xs := ps.map fun x => V.ref x.1) (fun i => V.ref ((fms ps).getD i 0)) (fun σ => ∃ z, σ = [z]) (by rw [List.length_map]; exact small5 (by have := hP.n; omega)) ⟨_, rfl⟩ h2 (SqL.of hP1.l) ?_ ?_
  · rintro i x hx σ1 H1 ⟨z, rfl⟩ hs1 R hR
    rw [List.getElem?_map] at hx
    obtain ⟨y, hy, rfl⟩ := Option.map_eq_some_iff.mp hx
    have hm := List.mem_of_getElem? hy
    have e : (fms ps).getD i 0 = y.2.2 := by unfold fms; rw [List.getD_eq_getElem?_getD, List.getElem?_map, hy]; rfl
    rw [e] at hR
    exact ⟨_, rfl, .inl (.inr ⟨_, _, _, _, rfl, rfl, SqT.of (hs1 _ _ (hP1.t y hm)), atI_nat (j := 1) rfl, hR _ ⟨_, rfl⟩⟩)⟩
  have en : (List.range (ps.map fun x => V.ref x.1).length).map (fun i => V.ref ((fms ps).getD i 0)) = (fms ps).map V.ref := by
    apply List.ext_getElem
    · unfold fms; simp
    · intro i g1 g2
      have g3 : i < ps.length := by simpa [fms] using g2
      have g4 : i < (fms ps).length := by simpa using g2
      rw [List.getElem_map, List.getElem_map, List.getElem_range, List.getD_eq_getElem?_getD, List.getElem?_eq_getElem g4]; rfl
  rw [en]
  refine ⟨_, rfl, o, C, dx, _, rfl, (by rw [upd_ne (Ne.symm n2)]; exact upd_same), T.cl, T.nF, (by show 1 < 1000; decide), ?_⟩
  rw [put_forms, upd_swap (Ne.symm n2), upd_upd']
  exact q l1 l2 h1 h20 n12
structure OneCls (K : PySem.W.Frag) (C : Addr) : Prop where
  cl : Cls K C
  nI : NoAttr K C "inner"
def spOneInit (C : Addr) : Sp := fun vs H Q _ => ∃ p dx w, vs = [.ref p, .ref w] ∧ H p = some (.ins C dx []) ∧ Q .non (upd H p (.ins C dx [("inner", .ref w)]))
theorem ok_many_init {f C : Addr} {fd : FuncData} (T : OneCls K C) (F : Fun K "__init__" "Many.__init__" s_Many_init f fd) : FnOk P w K mg base CX0 1 f fd ["self", "inner"] (spOneInit C) := by
  refine F.ok sc_Many_init (fun vs H Q E h => ?_) (fun cdv A outer s H vs Q E hr h => ?_)
  · obtain ⟨_, _, _, rfl, _⟩ := h; rfl
  obtain ⟨p, dx, w, rfl, hp, q⟩ := h
  exact ⟨_, (pss_one (ps_fld (pv 0) (pv 1) rfl)), _, rfl, _, rfl, p, C, dx, _, rfl, hp, T.cl, T.nI, (by show 0 < 1000; decide), q⟩
theorem ok_turned_init {f C : Addr} {fd : FuncData} (T : OneCls K C) (F : Fun K "__init__" "Turned.__init__" s_Turned_init f fd) : FnOk P w K mg base CX0 1 f fd ["self", "inner"] (spOneInit C) := by
  refine F.ok sc_Turned_init (fun vs H Q E h => ?_) (fun cdv A outer s H vs Q E hr h => ?_)
  · obtain ⟨_, _, _, rfl, _⟩ := h; rfl
  obtain ⟨p, dx, w, rfl, hp, q⟩ := h
  exact ⟨_, (pss_one (ps_fld (pv 0) (pv 1) rfl)), _, rfl, _, rfl, p, C, dx, _, rfl, hp, T.cl, T.nI, (by show 0 < 1000; decide), q⟩
structure Ins (K : PySem.W.Frag) (C : Addr) : Prop where
  cl : Cls K C
  ha : PySem.W.findIn K (.ref C) "__class__" = some (some (.builtin "object.__class__"))
  hn : PySem.W.specialIn K (.builtin "object.__class__") "__get__" = some (some (.builtin "getset_descriptor.__get__"))
  htk : PySem.W.takesIn K (.builtin "object.__class__") = some true
  hm : PySem.W.mroIn K C (.type "object") = some true
def isNum : D → Bool
  | .int _ => true
  | _ => false
instance decWholeV (n : Int) : Decidable (WholeIn n) := inferInstanceAs (Decidable (_ ∧ _))
def bareFit (ff : D → Bool) : Fin 4 → D → Bool
  | 0, .non => true
  | 1, .bl _ => true
  | 2, .int i => decide (WholeIn i)
  | 3, d => ff d
  | _, _ => false
def maybeFit (g : D → Bool) : D → Bool
  | .tup [] => true
  | .tup [x] => g x
  | _ => false
def manyFit (g : D → Bool) : D → Bool
  | .lst ds => decide (ds.length ≤ 60) && ds.all g
  | _ => false
def oneFit (k : Fin 3) (g : D → Bool) (d : D) : Bool := if k = 0 then maybeFit g d else if k = 1 then manyFit g d else g d
def spanFit (a b : Int) : D → Bool
  | .int i => decide (a ≤ i ∧ i ≤ b)
  | _ => false
def letFit (s : Str) : D → Bool
  | .str t => decide (t.length ≤ 200) && madeOf t s
  | _ => false
def tupFit (g : List D → Bool) : D → Bool
  | .tup ds => g ds
  | _ => false
def choFit (g : Str → D → Bool) : D → Bool
  | .tup [.str n, x] => g n x
  | _ => false
mutual
def fitB (ff : D → Bool) : Fm → D → Bool
  | .bare k, d => bareFit ff k d
  | .sp a b, d => spanFit a b d
  | .le s, d => letFit s d
  | .one k f, d => oneFit k (fitB ff f) d
  | .two k ns fs, d => if k = 0 then tupFit (fitL ff fs) d else choFit (fitC ff fs ns) d
def fitL (ff : D → Bool) : List Fm → List D → Bool
  | [], ds => ds.isEmpty
  | f :: fs, ds => match ds with | [] => false | d :: ds => fitB ff f d && fitL ff fs ds
def fitC (ff : D → Bool) : List Fm → List Str → Str → D → Bool
  | [], _, _, _ => false
  | f :: fs, ns, n, x => if ns.head? = some n then fitB ff f x else fitC ff fs ns.tail n x
end
def spIsNum : Sp := fun vs H Q _ => ∃ (v : V) (d : D), vs = [v] ∧ DAt H d v ∧ Q (.bl (isNum d)) H
theorem ok_is_numberD {f : Addr} {fd : FuncData} (nb : NB mg) (F : FunAt K mg "is_number" s_is_number ["value"] f fd) : DefOk P w K mg base 1 "is_number" ["value"] spIsNum := by
  refine F.ok sc_is_number (fun vs H Q E h => ?_) (fun cdv A outer s H vs Q E hr h => ?_)
  · obtain ⟨_, _, rfl, _⟩ := h; rfl
  obtain ⟨v, d, rfl, hd, q⟩ := h
  refine ⟨_, (pss_one (ps_ret (pe_and (pe_callB call_isinstA rfl nb.isinstance_ bo_isinstance (pa_cons (pv 0) (pa_cons (pe_bltn (v := .ty "int") rfl nb.int_ bo_int rfl) pa_nil))) (pe_one (pe_notA (pe_callB call_isinstA rfl nb.isinstance_ bo_isinstance (pa_cons (pv 0) (pa_cons (pe_bltn (v := .ty "bool") rfl nb.bool_ bo_bool rfl) pa_nil)))))))), ?_⟩
  refine ⟨_, rfl, .inl ⟨_, _, _, _, rfl, hd.ty, kitD K d (by decide), _, rfl, ?_⟩⟩
  cases d with
  | int i => exact iteT ⟨_, rfl, .inl ⟨_, _, _, _, rfl, hd.ty, kitD K _ (by decide), _, rfl, H, .refl (Same.refl _), q⟩⟩
  | bl b => exact iteT ⟨_, rfl, .inl ⟨_, _, _, _, rfl, hd.ty, kitD K _ (by decide), _, rfl, H, .refl (Same.refl _), q⟩⟩
  | _ => exact iteF ⟨H, .refl (Same.refl _), q⟩
def spFit (has : Sl → Bool) (ff : D → Bool) (c : FC) (n : Nat) (i : Sl) : Sp := fun vs H Q _ => ∃ (o : Addr) (f : Fm) (v : V) (d : D), vs = [.ref o, v] ∧ slot f = i ∧ FAt c [] H f o ∧ okH has f ∧ ht f ≤ n ∧ DAt H d v ∧ Q (.bl (fitB ff f d)) H
theorem fit_bare (ff : D → Bool) (k : Fin 4) (d : D) : fitB ff (.bare k) d = bareFit ff k d := by rw [fitB]
theorem isN_dec {H : Hp} {d : D} {v : V} (h : DAt H d v) : decide (v = .non) = bareFit (fun _ => false) 0 d := by
  cases d with
  | non => obtain rfl : v = .non := h; rfl
  | bl b => obtain rfl : v = .bl b := h; rfl
  | int i => obtain rfl : v = .int i := h; rfl
  | str s => obtain ⟨rfl, _⟩ := h; rfl
  | tup ds => obtain ⟨a, vs, rfl, e, _⟩ := h; rfl
  | lst ds => obtain ⟨a, vs, rfl, e, _⟩ := h; rfl
theorem ok_Nothing_fits {f : Addr} {c : FC} {fd : FuncData} {n : Nat} {has : Sl → Bool} {ff : D → Bool} (F : Fun K "fits" "Nothing.fits" s_Nothing_fits f fd) : FnOk P w K mg base CX0 1 f fd ["self", "value"] (spFit has ff c n (.b 0)) := by
  refine F.okK sc_Nothing_fits (fun vs H Q E h => ?_) (fun cdv A outer s H vs Q E hr h => ?_)
  · obtain ⟨_, _, _, _, rfl, _⟩ := h; rfl
  obtain ⟨o, fm, v, d, rfl, hs, hF, hok, hht, hd, q⟩ := h
  have := slot_bare hs
  subst this
  refine ⟨_, (pss_one (ps_ret (pe_cmpR op_isN (pv 1) pe_non (nomark _)))), _, rfl, rfl, H, .refl (Same.refl _), ?_⟩
  rw [isN_dec hd]
  rw [fit_bare] at q
  cases d <;> exact q
theorem ok_Truth_fits {f : Addr} {c : FC} {fd : FuncData} {n : Nat} {has : Sl → Bool} {ff : D → Bool} (F : Fun K "fits" "Truth.fits" s_Truth_fits f fd) : FnOk P w K mg base CX0 1 f fd ["self", "value"] (spFit has ff c n (.b 1)) := by
  refine F.okK sc_Truth_fits (fun vs H Q E h => ?_) (fun cdv A outer s H vs Q E hr h => ?_)
  · obtain ⟨_, _, _, _, rfl, _⟩ := h; rfl
  obtain ⟨o, fm, v, d, rfl, hs, hF, hok, hht, hd, q⟩ := h
  have := slot_bare hs
  subst this
  rw [fit_bare] at q
  refine ⟨_, (pss_one (ps_ret (pe_or (pe_cmpR op_isB (pv 1) pe_bl (nomark _)) (pe_one (pe_cmpR op_isB (pv 1) pe_bl (nomark _)))))), _, rfl, false, rfl, hd.plain, ?_⟩
  have no : ∀ d', d = d' → (∀ b, d' ≠ .bl b) → ∀ b, decide (v = .bl b) = false := fun d' e hn b => decide_eq_false fun z => by
    subst e
    cases d with
    | bl b' => exact hn b' rfl
    | non => obtain rfl : v = .non := hd; cases z
    | int i => obtain rfl : v = .int i := hd; cases z
    | str s => obtain ⟨rfl, _⟩ := hd; cases z
    | tup ds => obtain ⟨a, vs, rfl, e, _⟩ := hd; cases z
    | lst ds => obtain ⟨a, vs, rfl, e, _⟩ := hd; cases z
  cases d with
  | bl b =>
    obtain rfl : v = .bl b := hd
    cases b with
    | false => exact ⟨true, rfl, iteT ⟨H, .refl (Same.refl _), q⟩⟩
    | true => exact ⟨false, rfl, iteF ⟨_, rfl, true, rfl, rfl, H, .refl (Same.refl _), q⟩⟩
  | _ =>
    have n1 := no _ rfl (fun b z => by cases z)
    refine ⟨false, by rw [n1], iteF ⟨_, rfl, true, rfl, hd.plain, H, .refl (Same.refl _), ?_⟩⟩
    rw [n1]; exact q
theorem ok_Span_fits {f : Addr} {c : FC} {fd : FuncData} {n : Nat} {has : Sl → Bool} {ff : D → Bool} (T : SpanCls K c.s) (F : Fun K "fits" "Span.fits" s_Span_fits f fd) (D_is_number : DefOk P w K mg base 1 "is_number" ["value"] spIsNum) : FnOk P w K mg base CX0 2 f fd ["self", "value"] (spFit has ff c n .s) := by
  refine F.okK sc_Span_fits (fun vs H Q E h => ?_) (fun cdv A outer s H vs Q E hr h => ?_)
  · obtain ⟨_, _, _, _, rfl, _⟩ := h; rfl
  obtain ⟨o, fm, v, d, rfl, hs, hF, hok, hht, hd, q⟩ := h
  obtain ⟨a, b, rfl⟩ := slot_sp hs
  obtain ⟨_, dx, ho⟩ := hF
  rw [fitB] at q
  refine ⟨_, (pss_one (ps_ret (pe_and (pe_callD D_is_number hr (pa_cons (pv 1) pa_nil)) (pe_and (pe_cmpR oLe (pe_fld (pv 0) rfl) (pv 1) (nomark _)) (pe_one (pe_cmpR oLe (pv 1) (pe_fld (pv 0) rfl) (nomark _))))))), _, rfl, v, d, rfl, hd, _, rfl, ?_⟩
  cases d with
  | int i =>
    obtain rfl : v = .int i := hd
    refine iteT ⟨_, rfl, o, c.s, dx, _, _, rfl, ho, T.cl, T.nL, look1 .., _, rfl, _, _, rfl, rfl, _, rfl, iteD (fun c1 => ?_) (fun c1 => ?_)⟩
    · refine ⟨_, rfl, _, rfl, o, c.s, dx, _, _, rfl, ho, T.cl, T.nH, look2 _ _ _ _ highlow, _, _, rfl, rfl, H, .refl (Same.refl _), ?_⟩
      have e : decide (i ≤ b) = decide (a ≤ i ∧ i ≤ b) := decide_eq_decide.mpr ⟨fun z => ⟨c1, z⟩, fun z => z.2⟩
      dsimp only
      rw [e]; exact q
    · have e : decide (a ≤ i ∧ i ≤ b) = false := decide_eq_false fun z => c1 z.1
      have q : Q (.bl (decide (a ≤ i ∧ i ≤ b))) H := q
      rw [e] at q
      exact ⟨H, .refl (Same.refl _), q⟩
  | _ => exact iteF ⟨H, .refl (Same.refl _), q⟩
theorem ok_Letters_fits {f : Addr} {c : FC} {fd : FuncData} {n : Nat} {has : Sl → Bool} {ff : D → Bool} (nb : NB mg) (g_LONGEST_TEXT : GlobV mg "LONGEST_TEXT" (.int 200)) (T : LetCls K c.l) (F : Fun K "fits" "Letters.fits" s_Letters_fits f fd) (D_made_of : DefOk P w K mg base 1 "made_of" ["text", "signs"] spMadeOf) : FnOk P w K mg base CX0 2 f fd ["self", "value"] (spFit has ff c n .l) := by
  refine F.okK sc_Letters_fits (fun vs H Q E h => ?_) (fun cdv A outer s H vs Q E hr h => ?_)
  · obtain ⟨_, _, _, _, rfl, _⟩ := h; rfl
  obtain ⟨o, fm, v, d, rfl, hs, hF, hok, hht, hd, q⟩ := h
  obtain ⟨sg, rfl⟩ := slot_le hs
  obtain ⟨_, dx, ho⟩ := hF
  rw [fitB] at q
  refine ⟨_, (pss_one (ps_ret (pe_and (pe_callB call_isinstA rfl nb.isinstance_ bo_isinstance (pa_cons (pv 1) (pa_cons (pe_bltn (v := .ty "str") rfl nb.str_ bo_str rfl) pa_nil))) (pe_and (pe_cmpR oLe (pe_callB call_len rfl nb.len_ bo_len (pa_cons (pv 1) pa_nil)) (pe_globV g_LONGEST_TEXT) (nomark _)) (pe_one (pe_callD D_made_of hr (pa_cons (pv 1) (pa_cons (pe_fld (pv 0) rfl) pa_nil)))))))), _, rfl, .inl ⟨_, _, _, _, rfl, hd.ty, kitD K d (by decide), _, rfl, ?_⟩⟩
  cases d with
  | str t =>
    obtain ⟨rfl, htl⟩ := hd
    refine iteT ⟨_, rfl, _, _, rfl, ⟨small5 htl, rfl⟩, _, _, rfl, rfl, _, rfl, iteD (fun c1 => ?_) (fun c1 => ?_)⟩
    · refine ⟨_, rfl, _, rfl, o, c.l, dx, _, _, rfl, ho, T.cl, T.nS, look1 .., t, sg, rfl, by omega, H, .refl (Same.refl _), ?_⟩
      have q : Q (.bl (decide (t.length ≤ 200) && madeOf t sg)) H := q
      rw [decide_eq_true (by omega), Bool.true_and] at q
      exact q
    · have q : Q (.bl (decide (t.length ≤ 200) && madeOf t sg)) H := q
      rw [decide_eq_false (by omega), Bool.false_and] at q
      exact ⟨H, .refl (Same.refl _), q⟩
  | _ => exact iteF ⟨H, .refl (Same.refl _), q⟩
theorem FAt.fits {c : FC} {X : List Addr} {H : Hp} (f : Fm) {o : Addr} (h : FAt c X H f o) : ∃ dx fs, H o = some (.ins (clS c (slot f)) dx fs) ∧ fs.lookup (Str.ofString "fits") = none :=
  FAt.ins (m := Str.ofString "fits") (by decide +kernel) (by decide +kernel) (by decide +kernel) (by decide +kernel) (by decide +kernel) (by decide +kernel) f h
theorem ok_Turned_fitsD {f : Addr} {c : FC} {fd : FuncData} {n : Nat} {has : Sl → Bool} {ff : D → Bool} (T : OneCls K (c.o 2)) (F : Fun K "fits" "Turned.fits" s_Turned_fits f fd) (AM_fits : AnyM P w K mg base (2 * n + 4) "fits" ["self", "value"] (clS c) (spFit has ff c n)) : FnOk P w K mg base CX0 (2 * n + 4 + 1) f fd ["self", "value"] (spFit has ff c (n + 1) (.o 2)) := by
  refine F.okK sc_Turned_fits (fun vs H Q E h => ?_) (fun cdv A outer s H vs Q E hr h => ?_)
  · obtain ⟨_, _, _, _, rfl, _⟩ := h; rfl
  obtain ⟨o, fm, v, d, rfl, hs, hF, hok, hht, hd, q⟩ := h
  obtain ⟨g, rfl⟩ := slot_one hs
  obtain ⟨_, dx, i, ho, hI⟩ := hF
  have hok2 := hok.one
  have hht2 : ht g ≤ n := by rw [ht] at hht; omega
  rw [fitB] at q
  have q : Q (.bl (fitB ff g d)) H := q
  obtain ⟨dxi, fsi, ei, li⟩ := FAt.fits g hI
  refine ⟨_, (pss_one (ps_ret (pe_methAny AM_fits hr (pe_fld (pv 0) rfl) (pa_cons (pv 1) pa_nil) (hk := by omega)))), _, rfl, o, c.o 2, dx, _, _, rfl, ho, T.cl, T.nI, look1 .., i, slot g, dxi, fsi, rfl, ei, li, ?_⟩
  exact ⟨_, rfl, i, g, v, d, rfl, rfl, hI, hok2, hht2, hd, H, .refl (Same.refl _), q⟩
theorem ok_Many_fits {f : Addr} {c : FC} {fd : FuncData} {n : Nat} {has : Sl → Bool} {ff : D → Bool} (nb : NB mg) (g_MOST_VALUES : GlobV mg "MOST_VALUES" (.int 60)) (T : OneCls K (c.o 1)) (F : Fun K "fits" "Many.fits" s_Many_fits f fd) (AM_fits : AnyM P w K mg base (2 * n + 4) "fits" ["self", "value"] (clS c) (spFit has ff c n)) : FnOk P w K mg base CX0 (2 * n + 4 + 1) f fd ["self", "value"] (spFit has ff c (n + 1) (.o 1)) := by
  refine F.okK sc_Many_fits (fun vs H Q E h => ?_) (fun cdv A outer s H vs Q E hr h => ?_)
  · obtain ⟨_, _, _, _, rfl, _⟩ := h; rfl
  obtain ⟨o, fm, v, d, rfl, hs, hF, hok, hht, hd, q⟩ := h
  obtain ⟨g, rfl⟩ := slot_one hs
  obtain ⟨_, dx, i, ho, hI⟩ := hF
  have hok2 := hok.one
  have hht2 : ht g ≤ n := by rw [ht] at hht; omega
  rw [fitB] at q
  have q : Q (.bl (manyFit (fitB ff g) d)) H := q
  obtain ⟨dxi, fsi, ei, li⟩ := FAt.fits g hI
  refine ⟨_, (pss_cons (ps_if (PW.pt (pw_or (pt_not (pt_truth (pe_callB call_isinstA rfl nb.isinstance_ bo_isinstance (pa_cons (pv 1) (pa_cons (pe_bltn (v := .ty "list") rfl nb.list_ bo_list rfl) pa_nil))) (fun _ => rfl))) (pw_or1 (pt_cmpR oGt (pe_callB call_len rfl nb.len_ bo_len (pa_cons (pv 1) pa_nil)) (pe_globV g_MOST_VALUES) (nomark _))))) (pss_one (ps_ret pe_bl)) pss_nil)
    (pss_one (ps_ret (pe_callB (call_all rfl) rfl nb.all_ bo_all (pa_cons (pe_comp ["part"] [(0, "self")] rfl (by decide +kernel) ⟨rfl, .inl rfl, trivial⟩ (piAll (pv 1)) (fun _ _ _ _ _ => (pg_name (i := 0) (show (["part", "self"] : List Str).Nodup by decide +kernel) rfl (by first | exact Or.inl rfl | exact Or.inr rfl))) (fun _ _ _ _ _ => pts_nil) (fun _ _ _ _ _ => (pe_methAny AM_fits hr (pe_fld (pv 1) rfl) (pa_cons (pv 0) pa_nil) (hk := by omega)))) pa_nil))))), _, rfl, .inl ⟨_, _, _, _, rfl, hd.ty, kitD K d (by decide), _, rfl, ?_⟩⟩
  cases d with
  | lst ds =>
    obtain ⟨a, vs, rfl, ea, hds, hvl⟩ := hd
    have hlen := DsAt.len ds hds
    have q : Q (.bl (decide (ds.length ≤ 60) && ds.all (fitB ff g))) H := q
    refine iteF ⟨_, rfl, _, _, rfl, .inl ⟨_, SqL.of ea, rfl⟩, _, _, rfl, rfl, _, rfl, iteD (fun c1 => ?_) (fun c1 => ?_)⟩
    · rw [decide_eq_false (by omega), Bool.false_and] at q
      exact ⟨H, .refl (Same.refl _), q⟩
    · rw [decide_eq_true (by omega), Bool.true_and] at q
      refine .inl ⟨_, rfl, a, rfl, ⟨_, SqL.of ea⟩, fun D1 hD1 => ?_⟩
      refine comp_listI (K := K) (a := a) (xs := vs) (fun k => V.bl (fitB ff g (ds.getD k .non))) (fun σ => ∃ z, σ = [z, some (.ref o)]) (small5 (by omega)) ⟨_, rfl⟩ hD1 (SqL.of ea) ?_ ?_
      · rintro k x hx σ1 H1 ⟨z, rfl⟩ hs1 R hR
        obtain ⟨dk, hdk, hxk⟩ := DsAt.get ds hds hx
        have e : ds.getD k .non = dk := by rw [List.getD_eq_getElem?_getD, hdk]; rfl
        rw [e] at hR
        refine ⟨_, rfl, o, c.o 1, dx, _, _, rfl, hs1 _ _ ho, T.cl, T.nI, look1 .., i, slot g, dxi, fsi, rfl, hs1 _ _ ei, li, ?_⟩
        exact ⟨_, rfl, i, g, x, dk, rfl, rfl, FAt.keep (fun b u _ e => hs1 b u e) g hI, hok2, hht2, DAt.same hs1 dk hxk, hR _ ⟨_, rfl⟩⟩
      · have e : (List.range vs.length).map (fun k => V.bl (fitB ff g (ds.getD k .non))) = (ds.map (fitB ff g)).map V.bl := by
          rw [hlen]
          apply List.ext_getElem
          · simp
          · intro k h1 h2
            have h3 : k < ds.length := by simpa using h2
            rw [List.getElem_map, List.getElem_map, List.getElem_map, List.getElem_range, List.getD_eq_getElem?_getD, List.getElem?_eq_getElem h3]; rfl
        rw [e]
        refine ⟨D1, ds.map (fitB ff g), rfl, SqL.of upd_same, H, .refl (same_new hD1), ?_⟩
        rw [List.all_map]
        exact q
  | _ => exact iteT ⟨H, .refl (Same.refl _), q⟩

theorem fitL_len (ff : D → Bool) : ∀ (fs : List Fm) (ds : List D), ds.length ≠ fs.length → fitL ff fs ds = false
  | [], ds, h => by
    cases ds with
    | nil => exact absurd rfl h
    | cons d ds => rw [fitL]; rfl
  | f :: fs, [], h => by rw [fitL]
  | f :: fs, d :: ds, h => by
    rw [fitL]
    show (fitB ff f d && fitL ff fs ds) = false
    rw [fitL_len ff fs ds (fun e => h (by rw [List.length_cons, List.length_cons, e])), Bool.and_false]
theorem fitL_all (ff : D → Bool) : ∀ (fs : List Fm) (ds : List D), ds.length = fs.length → fitL ff fs ds = (List.range fs.length).all fun i => fitB ff (fs.getD i (.bare 0)) (ds.getD i .non)
  | [], ds, h => by
    obtain rfl : ds = [] := List.length_eq_zero_iff.mp h
    rw [fitL]; rfl
  | f :: fs, [], h => by cases h
  | f :: fs, d :: ds, h => by
    rw [fitL]
    show (fitB ff f d && fitL ff fs ds) = _
    rw [fitL_all ff fs ds (by simpa using h), List.length_cons, List.range_succ_eq_map, List.all_cons, List.all_map]
    rfl
theorem ok_Record_fits {f : Addr} {c : FC} {fd : FuncData} {n : Nat} {has : Sl → Bool} {ff : D → Bool} (nb : NB mg) (T : TwoCls K (c.t 0)) (F : Fun K "fits" "Record.fits" s_Record_fits f fd) (AM_fits : AnyM P w K mg base (2 * n + 4) "fits" ["self", "value"] (clS c) (spFit has ff c n)) : FnOk P w K mg base CX0 (2 * n + 4 + 1) f fd ["self", "value"] (spFit has ff c (n + 1) (.t 0)) := by
  refine F.okK sc_Record_fits (fun vs H Q E h => ?_) (fun cdv A outer s H vs Q E hr h => ?_)
  · obtain ⟨_, _, _, _, rfl, _⟩ := h; rfl
  obtain ⟨o, fm, v, d, rfl, hs, hF, hok, hht, hd, q⟩ := h
  obtain ⟨ns, fs, rfl⟩ := slot_two hs
  obtain ⟨_, dx, a1, a2, os, ho, _, _, h1, h2, hI⟩ := hF
  obtain ⟨hgn, hnl, hok2⟩ := hok.two
  have hht2 : hts fs ≤ n := by rw [ht] at hht; omega
  have hol := FsAt.len fs hI
  have hn20 := (goodNames_mem hgn).1
  rw [fitB] at q
  have q : Q (.bl (tupFit (fitL ff fs) d)) H := q
  refine ⟨_, (pss_cons (ps_if (PW.pt (pw_or (pt_not (pt_truth (pe_callB call_isinstA rfl nb.isinstance_ bo_isinstance (pa_cons (pv 1) (pa_cons (pe_bltn (v := .ty "tuple") rfl nb.tuple_ bo_tuple rfl) pa_nil))) (fun _ => rfl))) (pw_or1 (pt_cmpR oNe (pe_callB call_len rfl nb.len_ bo_len (pa_cons (pv 1) pa_nil)) (pe_callB call_len rfl nb.len_ bo_len (pa_cons (pe_fld (pv 0) rfl) pa_nil)) (nomark _))))) (pss_one (ps_ret pe_bl)) pss_nil)
    (pss_one (ps_ret (pe_callB (call_all rfl) rfl nb.all_ bo_all (pa_cons (pe_comp ["form", "part"] [] rfl (by decide +kernel) trivial (pi_zipT rfl nb.zip_ (pa_cons (pe_fld (pv 0) rfl) (pa_cons (pv 1) pa_nil))) (fun _ _ _ _ _ => (pg_tup rfl (pgs_cons (pg_name (i := 0) (show (["form", "part"] : List Str).Nodup by decide +kernel) rfl (by first | exact Or.inl rfl | exact Or.inr rfl)) (pgs_cons (pg_name (i := 1) (show (["form", "part"] : List Str).Nodup by decide +kernel) rfl (by first | exact Or.inl rfl | exact Or.inr rfl)) pgs_nil)))) (fun _ _ _ _ _ => pts_nil) (fun _ _ _ _ _ => (pe_methAny AM_fits hr (pv 0) (pa_cons (pv 1) pa_nil) (hk := by omega)))) pa_nil))))), _, rfl, .inl ⟨_, _, _, _, rfl, hd.ty, kitD K d (by decide), _, rfl, ?_⟩⟩
  cases d with
  | tup ds =>
    obtain ⟨a, vs, rfl, ea, hds, hvl⟩ := hd
    have hlen := DsAt.len ds hds
    have q : Q (.bl (fitL ff fs ds)) H := q
    have hvs : vs.length = ds.length := hlen
    have hT : ∀ {H1 : Hp}, Same H H1 → SqT K H1 a vs := fun s1 => SqT.of (s1 _ _ ea)
    refine iteF ⟨_, rfl, _, _, rfl, .inr ⟨_, SqT.of ea, rfl⟩, _, rfl, o, c.t 0, dx, _, _, rfl, ho, T.cl, T.nF, look2 _ _ _ _ formsnames, _, _, rfl, .inl ⟨_, SqL.of h2, rfl⟩, rfl, _, rfl, ?_⟩
    by_cases c1 : ds.length = fs.length
    · refine iteNS (by rw [List.length_map, hvs, hol, c1]) ?_
      rw [fitL_all ff fs ds c1] at q
      refine ⟨_, rfl, o, c.t 0, dx, _, _, rfl, ho, T.cl, T.nF, look2 _ _ _ _ formsnames, _, rfl, a2, a, _, _, rfl, SqL.of h2, SqT.of ea, fun D1 hD1 => ?_⟩
      refine comp_zipT (fun k => V.bl (fitB ff (fs.getD k (.bare 0)) (ds.getD k .non))) (fun σ => ∃ z1 z2, σ = [z1, z2]) (by rw [List.length_map]; omega) ⟨_, _, rfl⟩ hD1 (SqL.of h2) (SqT.of ea) ?_ ?_
      · rintro k x y hx hy σ1 H1 T1 ⟨z1, z2, rfl⟩ hs1 hT1 R hR
        rw [List.getElem?_map] at hx
        obtain ⟨om, hom, rfl⟩ := Option.map_eq_some_iff.mp hx
        obtain ⟨fm, hfm, hFm⟩ := FsAt.get fs hI hom
        obtain ⟨dk, hdk, hyk⟩ := DsAt.get ds hds hy
        obtain ⟨hok3, hht3⟩ := hok2.get hfm
        have e1 : fs.getD k (.bare 0) = fm := by rw [List.getD_eq_getElem?_getD, hfm]; rfl
        have e2 : ds.getD k .non = dk := by rw [List.getD_eq_getElem?_getD, hdk]; rfl
        rw [e1, e2] at hR
        have sT := hs1.trans (same_new (o := HO.tup [V.ref om, y]) hT1)
        obtain ⟨dxi, fsi, ei, li⟩ := FAt.fits fm (FAt.keep (fun b u _ e => sT b u e) fm hFm)
        refine ⟨T1, _, rfl, SqT.of upd_same, rfl, _, _, rfl, _, _, rfl, rfl, ?_⟩
        refine ⟨_, rfl, om, slot fm, dxi, fsi, rfl, ei, li, ?_⟩
        exact ⟨_, rfl, om, fm, y, dk, rfl, rfl, FAt.keep (fun b u _ e => sT b u e) fm hFm, hok3, by omega, DAt.same sT dk hyk, hR _ _ ⟨_, _, rfl⟩ (Same.refl _)⟩
      · intro H' hs' hD'
        have e : (List.range (min (os.map V.ref).length vs.length)).map (fun k => V.bl (fitB ff (fs.getD k (.bare 0)) (ds.getD k .non))) = ((List.range fs.length).map fun k => fitB ff (fs.getD k (.bare 0)) (ds.getD k .non)).map V.bl := by
          rw [List.length_map, hvs, hol, c1, Nat.min_self, List.map_map]; rfl
        rw [e] at hD'
        refine ⟨D1, _, rfl, SqL.of hD', H, .refl hs', ?_⟩
        rw [List.all_map]
        exact q
    · rw [fitL_len ff fs ds c1] at q
      have hne : ¬ (V.int ((vs.length : Nat) : Int) = V.int (((os.map V.ref).length : Nat) : Int)) := fun e => c1 (by have e := V.int.inj e; rw [List.length_map] at e; omega)
      rw [decide_eq_false hne]
      exact iteT ⟨H, .refl (Same.refl _), q⟩
  | _ => exact iteT ⟨H, .refl (Same.refl _), q⟩
def bareRow (fw : D → List Bool) : Fin 4 → D → List Bool
  | 1, .bl b => [b]
  | 2, .int i => whl i
  | 3, d => fw d
  | _, _ => []
def maybeRow (g : D → List Bool) : D → List Bool
  | .tup [x] => true :: g x
  | _ => [false]
def manyRow (g : D → List Bool) : D → List Bool
  | .lst ds => (ds.map fun d => true :: g d).flatten ++ [false]
  | _ => []
def oneRow (k : Fin 3) (g : D → List Bool) (d : D) : List Bool := if k = 0 then maybeRow g d else if k = 1 then manyRow g d else (g d).map (!·)
def spanRow (a b : Int) : D → List Bool
  | .int i => bitsW (i - a).toNat (blen (b - a).toNat)
  | _ => []
def letRow (s : Str) : D → List Bool
  | .str t => (t.cps.toList.map fun c => true :: bitsW (s.cps.toList.idxOf c) (blen (s.length - 1))).flatten ++ [false]
  | _ => []
def tupRow (g : List D → List Bool) : D → List Bool
  | .tup ds => g ds
  | _ => []
def choRow (g : Str → D → List Bool) : D → List Bool
  | .tup [.str n, x] => g n x
  | _ => []
mutual
def rowB (fw : D → List Bool) : Fm → D → List Bool
  | .bare k, d => bareRow fw k d
  | .sp a b, d => spanRow a b d
  | .le s, d => letRow s d
  | .one k f, d => oneRow k (rowB fw f) d
  | .two k ns fs, d => if k = 0 then tupRow (rowL fw fs) d else choRow (rowC fw fs ns 0 (fs.length - 1)) d
def rowL (fw : D → List Bool) : List Fm → List D → List Bool
  | [], _ => []
  | f :: fs, ds => match ds with | [] => [] | d :: ds => rowB fw f d ++ rowL fw fs ds
def rowC (fw : D → List Bool) : List Fm → List Str → Nat → Nat → Str → D → List Bool
  | [], _, _, _, _, _ => []
  | f :: fs, ns, k, m, n, x => if ns.head? = some n then bitsW k (blen m) ++ rowB fw f x else rowC fw fs ns.tail (k + 1) m n x
end
def spWr (has : Sl → Bool) (ff : D → Bool) (fw : D → List Bool) (c : FC) (n : Nat) (i : Sl) : Sp := fun vs H Q _ => ∃ (o : Addr) (f : Fm) (v : V) (d : D), vs = [.ref o, v] ∧ slot f = i ∧ FAt c [] H f o ∧ okH has f ∧ ht f ≤ n ∧ DAt H d v ∧ fitB ff f d = true ∧ (rowB fw f d).length ≤ 90000 ∧ Q (.str (rowS (rowB fw f d))) H
theorem FAt.written {c : FC} {X : List Addr} {H : Hp} (f : Fm) {o : Addr} (h : FAt c X H f o) : ∃ dx fs, H o = some (.ins (clS c (slot f)) dx fs) ∧ fs.lookup (Str.ofString "written") = none :=
  FAt.ins (m := Str.ofString "written") (by decide +kernel) (by decide +kernel) (by decide +kernel) (by decide +kernel) (by decide +kernel) (by decide +kernel) f h
theorem row_one : Str.ofString "1" = rowS [true] := by decide +kernel
theorem row_nil : Str.ofString "0" = rowS [false] := by decide +kernel
theorem ok_Nothing_written {f : Addr} {c : FC} {fd : FuncData} {n : Nat} {has : Sl → Bool} {ff : D → Bool} {fw : D → List Bool} (F : Fun K "written" "Nothing.written" s_Nothing_written f fd) : FnOk P w K mg base CX0 1 f fd ["self", "value"] (spWr has ff fw c n (.b 0)) := by
  refine F.okK sc_Nothing_written (fun vs H Q E h => ?_) (fun cdv A outer s H vs Q E hr h => ?_)
  · obtain ⟨_, _, _, _, rfl, _⟩ := h; rfl
  obtain ⟨o, fm, v, d, rfl, hs, hF, hok, hht, hd, hf, hl, q⟩ := h
  have := slot_bare hs
  subst this
  rw [rowB] at q
  refine ⟨_, (pss_one (ps_ret pe_str)), H, .refl (Same.refl _), ?_⟩
  cases d <;> exact q
theorem ok_Truth_written {f : Addr} {c : FC} {fd : FuncData} {n : Nat} {has : Sl → Bool} {ff : D → Bool} {fw : D → List Bool} (F : Fun K "written" "Truth.written" s_Truth_written f fd) : FnOk P w K mg base CX0 1 f fd ["self", "value"] (spWr has ff fw c n (.b 1)) := by
  refine F.okK sc_Truth_written (fun vs H Q E h => ?_) (fun cdv A outer s H vs Q E hr h => ?_)
  · obtain ⟨_, _, _, _, rfl, _⟩ := h; rfl
  obtain ⟨o, fm, v, d, rfl, hs, hF, hok, hht, hd, hf, hl, q⟩ := h
  have := slot_bare hs
  subst this
  rw [rowB] at q
  rw [fitB] at hf
  cases d with
  | bl b =>
    obtain rfl : v = .bl b := hd
    refine ⟨_, (pss_one (ps_ret (pe_ifExp (pt_truth (pv 1) (fun _ => rfl)) pe_str pe_str))), _, rfl, ?_⟩
    refine ⟨b, rfl, ?_⟩
    cases b with
    | true => exact iteT ⟨H, .refl (Same.refl _), q⟩
    | false => exact iteF ⟨H, .refl (Same.refl _), q⟩
  | _ => cases hf
theorem ok_Span_writtenD {f : Addr} {c : FC} {fd : FuncData} {n : Nat} {has : Sl → Bool} {ff : D → Bool} {fw : D → List Bool} (T : SpanCls K c.s) (F : Fun K "written" "Span.written" s_Span_written f fd) (D_fixed_row : DefOk P w K mg base 2 "fixed_row" ["n", "most"] spFixedRow) : FnOk P w K mg base CX0 3 f fd ["self", "value"] (spWr has ff fw c n .s) := by
  refine F.okK sc_Span_written (fun vs H Q E h => ?_) (fun cdv A outer s H vs Q E hr h => ?_)
  · obtain ⟨_, _, _, _, rfl, _⟩ := h; rfl
  obtain ⟨o, fm, v, d, rfl, hs, hF, hok, hht, hd, hf, hl, q⟩ := h
  obtain ⟨a, b, rfl⟩ := slot_sp hs
  obtain ⟨_, dx, ho⟩ := hF
  rw [rowB] at q hl
  rw [fitB] at hf
  cases d with
  | int i =>
    obtain rfl : v = .int i := hd
    have hf : a ≤ i ∧ i ≤ b := of_decide_eq_true hf
    have hl : (bitsW (i - a).toNat (blen (b - a).toNat)).length ≤ 90000 := hl
    rw [bitsW_length] at hl
    have e1 : ((i - a).toNat : Int) = i - a := Int.toNat_of_nonneg (by omega)
    have e2 : ((b - a).toNat : Int) = b - a := Int.toNat_of_nonneg (by omega)
    refine ⟨_, (pss_one (ps_ret (pe_callD D_fixed_row hr (pa_cons (pe_op oSub (pv 1) (pe_fld (pv 0) rfl)) (pa_cons (pe_op oSub (pe_fld (pv 0) rfl) (pe_fld (pv 0) rfl)) pa_nil))))), ?_⟩
    refine ⟨_, rfl, _, rfl, o, c.s, dx, _, _, rfl, ho, T.cl, T.nL, look1 .., _, _, rfl, rfl, _, rfl, o, c.s, dx, _, _, rfl, ho, T.cl, T.nH, look2 _ _ _ _ highlow, _, rfl, o, c.s, dx, _, _, rfl, ho, T.cl, T.nL, look1 .., _, _, rfl, rfl, (i - a).toNat, (b - a).toNat, by rw [e1, e2]; rfl, by omega, by omega, H, .refl (Same.refl _), q⟩
  | _ => cases hf
theorem ok_Turned_written {f : Addr} {c : FC} {fd : FuncData} {n : Nat} {has : Sl → Bool} {ff : D → Bool} {fw : D → List Bool} (T : OneCls K (c.o 2)) (F : Fun K "written" "Turned.written" s_Turned_written f fd) (D_turned_row : DefOk P w K mg base 1 "turned_row" ["row"] spTurnedRow) (AM_written : AnyM P w K mg base (2 * n + 4) "written" ["self", "value"] (clS c) (spWr has ff fw c n)) : FnOk P w K mg base CX0 (2 * n + 4 + 1) f fd ["self", "value"] (spWr has ff fw c (n + 1) (.o 2)) := by
  refine F.okK sc_Turned_written (fun vs H Q E h => ?_) (fun cdv A outer s H vs Q E hr h => ?_)
  · obtain ⟨_, _, _, _, rfl, _⟩ := h; rfl
  obtain ⟨o, fm, v, d, rfl, hs, hF, hok, hht, hd, hf, hl, q⟩ := h
  obtain ⟨g, rfl⟩ := slot_one hs
  obtain ⟨_, dx, i, ho, hI⟩ := hF
  have hok2 := hok.one
  have hht2 : ht g ≤ n := by rw [ht] at hht; omega
  rw [fitB] at hf
  rw [rowB] at q hl
  have hf : fitB ff g d = true := hf
  have q : Q (.str (rowS ((rowB fw g d).map (!·)))) H := q
  have hl : ((rowB fw g d).map (!·)).length ≤ 90000 := hl
  rw [List.length_map] at hl
  obtain ⟨dxi, fsi, ei, li⟩ := FAt.written g hI
  refine ⟨_, (pss_one (ps_ret (pe_callD D_turned_row hr (pa_cons (pe_methAny AM_written hr (pe_fld (pv 0) rfl) (pa_cons (pv 1) pa_nil) (hk := by omega)) pa_nil) (hk := by omega)))), ?_⟩
  refine ⟨_, rfl, o, c.o 2, dx, _, _, rfl, ho, T.cl, T.nI, look1 .., i, slot g, dxi, fsi, rfl, ei, li, ?_⟩
  exact ⟨_, rfl, i, g, v, d, rfl, rfl, hI, hok2, hht2, hd, hf, hl, _, rfl, by omega, H, .refl (Same.refl _), q⟩
theorem part_len {ls : List (List Bool)} {l : List Bool} (h : l ∈ ls) : l.length ≤ ls.flatten.length := by
  induction ls with
  | nil => cases h
  | cons a r ih =>
    rw [List.flatten_cons, List.length_append]
    rcases List.mem_cons.mp h with rfl | h
    · omega
    · have := ih h; omega
theorem rows_sum (ls : List (List Bool)) : ((ls.map rowS).map (·.length)).sum + (ls.map rowS).length * (Str.ofString "").length = ls.flatten.length := by
  have e : (Str.ofString "").length = 0 := by decide +kernel
  rw [e, Nat.mul_zero, Nat.add_zero, List.map_map, List.length_flatten]
  congr 1
  exact List.map_congr_left fun l _ => rowS_length l
theorem rowL_flat (fw : D → List Bool) : ∀ (fs : List Fm) (ds : List D), ds.length = fs.length → rowL fw fs ds = ((List.range fs.length).map fun i => rowB fw (fs.getD i (.bare 0)) (ds.getD i .non)).flatten
  | [], ds, h => by rw [rowL]; rfl
  | f :: fs, [], h => by cases h
  | f :: fs, d :: ds, h => by
    rw [rowL]
    show rowB fw f d ++ rowL fw fs ds = _
    rw [rowL_flat fw fs ds (by simpa using h), List.length_cons, List.range_succ_eq_map, List.map_cons, List.flatten_cons, List.map_map]
    rfl
theorem ok_Many_written {f : Addr} {c : FC} {fd : FuncData} {n : Nat} {has : Sl → Bool} {ff : D → Bool} {fw : D → List Bool} (nb : NB mg) (T : OneCls K (c.o 1)) (F : Fun K "written" "Many.written" s_Many_written f fd) (AM_written : AnyM P w K mg base (2 * n + 4) "written" ["self", "value"] (clS c) (spWr has ff fw c n)) : FnOk P w K mg base CX0 (2 * n + 4 + 1) f fd ["self", "value"] (spWr has ff fw c (n + 1) (.o 1)) := by
  refine F.okK sc_Many_written (fun vs H Q E h => ?_) (fun cdv A outer s H vs Q E hr h => ?_)
  · obtain ⟨_, _, _, _, rfl, _⟩ := h; rfl
  obtain ⟨o, fm, v, d, rfl, hs, hF, hok, hht, hd, hf, hl, q⟩ := h
  obtain ⟨g, rfl⟩ := slot_one hs
  obtain ⟨_, dx, i, ho, hI⟩ := hF
  have hok2 := hok.one
  have hht2 : ht g ≤ n := by rw [ht] at hht; omega
  rw [fitB] at hf
  rw [rowB] at q hl
  have hf : manyFit (fitB ff g) d = true := hf
  obtain ⟨dxi, fsi, ei, li⟩ := FAt.written g hI
  cases d with
  | lst ds =>
    obtain ⟨a, vs, rfl, ea, hds, hvl⟩ := hd
    have hlen := DsAt.len ds hds
    have hf : (decide (ds.length ≤ 60) && ds.all (fitB ff g)) = true := hf
    obtain ⟨h60, hall⟩ := Bool.and_eq_true_iff.mp hf
    have hall := List.all_eq_true.mp hall
    have q : Q (.str (rowS ((ds.map fun d => true :: rowB fw g d).flatten ++ [false]))) H := q
    have hl : ((ds.map fun d => true :: rowB fw g d).flatten ++ [false]).length ≤ 90000 := hl
    rw [List.length_append] at hl
    refine ⟨_, (pss_one (ps_ret (pe_op oAdd (pe_bm PySem.F.plainAttrs_str PySem.F.slot_str_join PySem.F.type_str_join mt_join pe_str (pa_cons (pe_comp ["part"] [(0, "self")] rfl (by decide +kernel) ⟨rfl, .inl rfl, trivial⟩ (piAll (pv 1)) (fun _ _ _ _ _ => (pg_name (i := 0) (show (["part", "self"] : List Str).Nodup by decide +kernel) rfl (by first | exact Or.inl rfl | exact Or.inr rfl))) (fun _ _ _ _ _ => pts_nil) (fun _ _ _ _ _ => (pe_op oAdd pe_str (pe_methAny AM_written hr (pe_fld (pv 1) rfl) (pa_cons (pv 0) pa_nil) (hk := by omega))))) pa_nil)) pe_str))), ?_⟩
    refine ⟨rfl, .inl ⟨_, rfl, a, rfl, ⟨_, SqL.of ea⟩, fun D1 hD1 => ?_⟩⟩
    refine comp_listI (K := K) (a := a) (xs := vs) (fun k => V.str (rowS (true :: rowB fw g (ds.getD k .non)))) (fun σ => ∃ z, σ = [z, some (.ref o)]) (small5 (by omega)) ⟨_, rfl⟩ hD1 (SqL.of ea) ?_ ?_
    · rintro k x hx σ1 H1 ⟨z, rfl⟩ hs1 R hR
      obtain ⟨dk, hdk, hxk⟩ := DsAt.get ds hds hx
      have e : ds.getD k .non = dk := by rw [List.getD_eq_getElem?_getD, hdk]; rfl
      rw [e] at hR
      have hm : dk ∈ ds := List.mem_of_getElem? hdk
      have hp := part_len (List.mem_map_of_mem (f := fun d => true :: rowB fw g d) hm)
      rw [List.length_cons] at hp
      refine ⟨_, rfl, o, c.o 1, dx, _, _, rfl, hs1 _ _ ho, T.cl, T.nI, look1 .., i, slot g, dxi, fsi, rfl, hs1 _ _ ei, li, ?_⟩
      refine ⟨_, rfl, i, g, x, dk, rfl, rfl, FAt.keep (fun b u _ e => hs1 b u e) g hI, hok2, hht2, DAt.same hs1 dk hxk, hall _ hm, by omega, .inr ⟨_, _, rfl, rfl, small5 ?_, ?_⟩⟩
      · rw [row_one, rowS_length, rowS_length]; simp only [List.length_cons, List.length_nil]; omega
      · rw [row_one, rowS_append]; exact hR _ ⟨_, rfl⟩
    · have e : (List.range vs.length).map (fun k => V.str (rowS (true :: rowB fw g (ds.getD k .non)))) = ((ds.map fun d => true :: rowB fw g d).map rowS).map V.str := by
        rw [hlen]
        apply List.ext_getElem
        · simp
        · intro k h1 h2
          have h3 : k < ds.length := by simpa using h2
          rw [List.getElem_map, List.getElem_map, List.getElem_map, List.getElem_map, List.getElem_range, List.getD_eq_getElem?_getD, List.getElem?_eq_getElem h3]; rfl
      rw [e]
      refine ⟨_, D1, _, rfl, rfl, SqL.of upd_same, by rw [rows_sum]; omega, .inr ⟨_, _, rfl, rfl, small5 ?_, H, .refl (same_new hD1), ?_⟩⟩
      · rw [join_rows, row_nil, rowS_length, rowS_length]; omega
      · rw [join_rows, row_nil, rowS_append]; exact q
  | _ => cases hf
theorem ok_Record_written {f : Addr} {c : FC} {fd : FuncData} {n : Nat} {has : Sl → Bool} {ff : D → Bool} {fw : D → List Bool} (nb : NB mg) (T : TwoCls K (c.t 0)) (F : Fun K "written" "Record.written" s_Record_written f fd) (AM_written : AnyM P w K mg base (2 * n + 4) "written" ["self", "value"] (clS c) (spWr has ff fw c n)) : FnOk P w K mg base CX0 (2 * n + 4 + 1) f fd ["self", "value"] (spWr has ff fw c (n + 1) (.t 0)) := by
  refine F.okK sc_Record_written (fun vs H Q E h => ?_) (fun cdv A outer s H vs Q E hr h => ?_)
  · obtain ⟨_, _, _, _, rfl, _⟩ := h; rfl
  obtain ⟨o, fm, v, d, rfl, hs, hF, hok, hht, hd, hf, hl, q⟩ := h
  obtain ⟨ns, fs, rfl⟩ := slot_two hs
  obtain ⟨_, dx, a1, a2, os, ho, _, _, h1, h2, hI⟩ := hF
  obtain ⟨hgn, hnl, hok2⟩ := hok.two
  have hht2 : hts fs ≤ n := by rw [ht] at hht; omega
  have hol := FsAt.len fs hI
  have hn20 := (goodNames_mem hgn).1
  rw [fitB] at hf
  rw [rowB] at q hl
  have hf : tupFit (fitL ff fs) d = true := hf
  cases d with
  | tup ds =>
    obtain ⟨a, vs, rfl, ea, hds, hvl⟩ := hd
    have hvs := DsAt.len ds hds
    have hf : fitL ff fs ds = true := hf
    have c1 : ds.length = fs.length := Classical.byContradiction fun hn => by rw [fitL_len ff fs ds hn] at hf; cases hf
    rw [fitL_all ff fs ds c1] at hf
    have hall := List.all_eq_true.mp hf
    have q : Q (.str (rowS (rowL fw fs ds))) H := q
    have hl : (rowL fw fs ds).length ≤ 90000 := hl
    rw [rowL_flat fw fs ds c1] at q hl
    refine ⟨_, (pss_one (ps_ret (pe_bm PySem.F.plainAttrs_str PySem.F.slot_str_join PySem.F.type_str_join mt_join pe_str (pa_cons (pe_comp ["form", "part"] [] rfl (by decide +kernel) trivial (pi_zipT rfl nb.zip_ (pa_cons (pe_fld (pv 0) rfl) (pa_cons (pv 1) pa_nil))) (fun _ _ _ _ _ => (pg_tup rfl (pgs_cons (pg_name (i := 0) (show (["form", "part"] : List Str).Nodup by decide +kernel) rfl (by first | exact Or.inl rfl | exact Or.inr rfl)) (pgs_cons (pg_name (i := 1) (show (["form", "part"] : List Str).Nodup by decide +kernel) rfl (by first | exact Or.inl rfl | exact Or.inr rfl)) pgs_nil)))) (fun _ _ _ _ _ => pts_nil) (fun _ _ _ _ _ => (pe_methAny AM_written hr (pv 0) (pa_cons (pv 1) pa_nil) (hk := by omega)))) pa_nil)))), ?_⟩
    refine ⟨rfl, _, rfl, o, c.t 0, dx, _, _, rfl, ho, T.cl, T.nF, look2 _ _ _ _ formsnames, _, rfl, a2, a, _, _, rfl, SqL.of h2, SqT.of ea, fun D1 hD1 => ?_⟩
    refine comp_zipT (fun k => V.str (rowS (rowB fw (fs.getD k (.bare 0)) (ds.getD k .non)))) (fun σ => ∃ z1 z2, σ = [z1, z2]) (by rw [List.length_map]; omega) ⟨_, _, rfl⟩ hD1 (SqL.of h2) (SqT.of ea) ?_ ?_
    · rintro k x y hx hy σ1 H1 T1 ⟨z1, z2, rfl⟩ hs1 hT1 R hR
      rw [List.getElem?_map] at hx
      obtain ⟨om, hom, rfl⟩ := Option.map_eq_some_iff.mp hx
      obtain ⟨fm, hfm, hFm⟩ := FsAt.get fs hI hom
      obtain ⟨dk, hdk, hyk⟩ := DsAt.get ds hds hy
      obtain ⟨hok3, hht3⟩ := hok2.get hfm
      have e1 : fs.getD k (.bare 0) = fm := by rw [List.getD_eq_getElem?_getD, hfm]; rfl
      have e2 : ds.getD k .non = dk := by rw [List.getD_eq_getElem?_getD, hdk]; rfl
      have hk : k ∈ List.range fs.length := List.mem_range.mpr (List.getElem?_eq_some_iff.mp hfm).1
      have hfk := hall k hk
      have hp := part_len (List.mem_map_of_mem (f := fun i => rowB fw (fs.getD i (.bare 0)) (ds.getD i .non)) hk)
      rw [e1, e2] at hR hfk hp
      have sT := hs1.trans (same_new (o := HO.tup [V.ref om, y]) hT1)
      obtain ⟨dxi, fsi, ei, li⟩ := FAt.written fm (FAt.keep (fun b u _ e => sT b u e) fm hFm)
      refine ⟨T1, _, rfl, SqT.of upd_same, rfl, _, _, rfl, _, _, rfl, rfl, ?_⟩
      refine ⟨_, rfl, om, slot fm, dxi, fsi, rfl, ei, li, ?_⟩
      exact ⟨_, rfl, om, fm, y, dk, rfl, rfl, FAt.keep (fun b u _ e => sT b u e) fm hFm, hok3, by omega, DAt.same sT dk hyk, hfk, by omega, hR _ _ ⟨_, _, rfl⟩ (Same.refl _)⟩
    · intro H' hs' hD'
      have e : (List.range (min (os.map V.ref).length vs.length)).map (fun k => V.str (rowS (rowB fw (fs.getD k (.bare 0)) (ds.getD k .non)))) = (((List.range fs.length).map fun k => rowB fw (fs.getD k (.bare 0)) (ds.getD k .non)).map rowS).map V.str := by
        rw [List.length_map, hvs, hol, c1, Nat.min_self, List.map_map, List.map_map]; rfl
      rw [e] at hD'
      refine ⟨_, D1, _, rfl, rfl, SqL.of hD', by rw [rows_sum]; omega, H, .refl hs', ?_⟩
      rw [join_rows]; exact q
  | _ => cases hf

def sees (l : List Bool) (t : Bool) (j : Nat) : List Bool := (l.map (xor t)).drop j
theorem sees_on {l r s : List Bool} {t : Bool} {j : Nat} (h : (r ++ s) <+: sees l t j) : s <+: sees l t (j + r.length) := by
  obtain ⟨z, h⟩ := h
  refine ⟨z, ?_⟩
  unfold sees at h ⊢
  rw [← List.drop_drop, ← h, List.append_assoc, List.drop_left]
theorem sees_pre {l r s : List Bool} {t : Bool} {j : Nat} (h : (r ++ s) <+: sees l t j) : r <+: sees l t j := (List.prefix_append r s).trans h
theorem sees_get {l r : List Bool} {b t : Bool} {j : Nat} (h : (b :: r) <+: sees l t j) : ∃ b', l[j]? = some b' ∧ xor t b' = b := by
  obtain ⟨z, h⟩ := h
  have h0 : (sees l t j)[0]? = some b := by rw [← h]; rfl
  unfold sees at h0
  rw [List.getElem?_drop, Nat.add_zero, List.getElem?_map] at h0
  obtain ⟨b', e1, e2⟩ := Option.map_eq_some_iff.mp h0
  exact ⟨b', e1, e2⟩
theorem sees_len {l r : List Bool} {t : Bool} {j : Nat} (h : r <+: sees l t j) (hj : j ≤ l.length) : j + r.length ≤ l.length := by
  have := h.length_le
  unfold sees at this
  rw [List.length_drop, List.length_map] at this
  omega
theorem sees_turn {l r : List Bool} {t : Bool} {j : Nat} (h : (r.map (!·)) <+: sees l t j) : r <+: sees l (!t) j := by
  obtain ⟨z, h⟩ := h
  refine ⟨z.map (!·), ?_⟩
  unfold sees at h ⊢
  have := congrArg (List.map (!·)) h
  rw [List.map_append, List.map_map, List.map_drop, List.map_map] at this
  have e : (fun x : Bool => !x) ∘ (fun x => !x) = id := by funext x; cases x <;> rfl
  have e2 : (fun x : Bool => !x) ∘ (xor t) = xor (!t) := by funext x; cases x <;> cases t <;> rfl
  rw [e, List.map_id, e2] at this
  exact this
theorem sees_take {l r : List Bool} {t : Bool} {j : Nat} (h : r <+: sees l t j) : ((l.drop j).take r.length).map (xor t) = r := by
  obtain ⟨z, h⟩ := h
  unfold sees at h
  rw [List.map_take, List.map_drop, ← h, List.take_left]
theorem FAt.draw {c : FC} {X : List Addr} {H : Hp} (f : Fm) {o : Addr} (h : FAt c X H f o) : ∃ dx fs, H o = some (.ins (clS c (slot f)) dx fs) ∧ fs.lookup (Str.ofString "draw") = none :=
  FAt.ins (m := Str.ofString "draw") (by decide +kernel) (by decide +kernel) (by decide +kernel) (by decide +kernel) (by decide +kernel) (by decide +kernel) f h
theorem Mv.alloc {p : Addr} {H H' : Hp} {o : HO} {X : List Addr} (m : Mv p H H') (e : H' p = some o) (h : ∀ x, x ∈ X → ∃ o, H x = some o) : ∀ x, x ∈ X → ∃ o, H' x = some o := fun x hx => by
  by_cases z : x = p
  · exact ⟨o, by rw [z]; exact e⟩
  · obtain ⟨u, hu⟩ := h x hx
    exact ⟨u, m.k x u z hu⟩
theorem FAt.mv {c : FC} {p : Addr} {H H' : Hp} (m : Mv p H H') (f : Fm) {o : Addr} (h : FAt c [p] H f o) : FAt c [p] H' f o := FAt.keep (fun b u n e => m.k b u (fun z => n (List.mem_singleton.mpr z)) e) f h
def spDr (has : Sl → Bool) (ff : D → Bool) (fw : D → List Bool) (c : FC) (C : Addr) (n : Nat) (i : Sl) : Sp := fun vs H Q _ => ∃ (o p dx : Addr) (f : Fm) (d : D) (l : List Bool) (j : Nat) (t e : Bool) (X : List Addr), vs = [.ref o, .ref p] ∧ slot f = i ∧ FAt c [p] H f o ∧ okH has f ∧ ht f ≤ n ∧ H p = some (srcO C dx l j t e) ∧ l.length ≤ 100000 ∧ j ≤ l.length ∧ p ∈ X ∧ (∀ x, x ∈ X → ∃ o, H x = some o) ∧ fitB ff f d = true ∧ rowB fw f d <+: sees l t j ∧
  ∀ v H', Mv p H H' → DX X H' d v → H' p = some (srcO C dx l (j + (rowB fw f d).length) t e) → Q v H'
theorem Mv.step {p C dx : Addr} {H : Hp} {l : List Bool} {j j' : Nat} {t e t' e' : Bool} (h : H p = some (srcO C dx l j t e)) : Mv p H (upd H p (srcO C dx l j' t' e')) := Mv.move h
theorem dr_Nothing {f C : Addr} {c : FC} {fd : FuncData} {n : Nat} {has : Sl → Bool} {ff : D → Bool} {fw : D → List Bool} (F : Fun K "draw" "Nothing.draw" s_Nothing_draw f fd) : FnOk P w K mg base CX0 1 f fd ["self", "source"] (spDr has ff fw c C n (.b 0)) := by
  refine F.okK sc_Nothing_draw (fun vs H Q E h => ?_) (fun cdv A outer s H vs Q E hr h => ?_)
  · obtain ⟨_, _, _, _, _, _, _, _, _, _, rfl, _⟩ := h; rfl
  obtain ⟨o, p, dx, fm, d, l, j, t, e, X, rfl, hs, hF, hok, hht, hS, hl, hj, hpX, hX, hf, hr', q⟩ := h
  have := slot_bare hs
  subst this
  rw [rowB] at q
  rw [fitB] at hf
  cases d with
  | non => exact ⟨_, (pss_one (ps_ret pe_non)), H, .refl (Same.refl _), q _ _ (Mv.refl _ _) rfl hS⟩
  | _ => cases hf
theorem dr_Truth {f C : Addr} {c : FC} {fd : FuncData} {n : Nat} {has : Sl → Bool} {ff : D → Bool} {fw : D → List Bool} (c_C : Cls K C) (F : Fun K "draw" "Truth.draw" s_Truth_draw f fd) (M_draw : MethOk P w K mg base 1 C "draw" ["self"] (spDraw C)) : FnOk P w K mg base CX0 3 f fd ["self", "source"] (spDr has ff fw c C n (.b 1)) := by
  refine F.okK sc_Truth_draw (fun vs H Q E h => ?_) (fun cdv A outer s H vs Q E hr h => ?_)
  · obtain ⟨_, _, _, _, _, _, _, _, _, _, rfl, _⟩ := h; rfl
  obtain ⟨o, p, dx, fm, d, l, j, t, e, X, rfl, hs, hF, hok, hht, hS, hl, hj, hpX, hX, hf, hr', q⟩ := h
  have := slot_bare hs
  subst this
  rw [rowB] at q hr'
  rw [fitB] at hf
  cases d with
  | bl b =>
    have hr' : [b] <+: sees l t j := hr'
    obtain ⟨b', hb1, hb2⟩ := sees_get hr'
    refine ⟨_, (pss_one (ps_ret (pe_cmpR oEq (pe_methD0 M_draw c_C hr (pv 1)) pe_int (nomark _)))), ?_⟩
    refine ⟨_, rfl, p, dx, _, rfl, hS, look_meth _ _ _ _ (by decide +kernel) (by decide +kernel) (by decide +kernel), ?_⟩
    refine ⟨p, dx, l, j, t, e, b', rfl, ⟨_, hS⟩, hl, hb1, ?_⟩
    have M := Mv.step (j' := j + 1) (t' := t) (e' := e) hS
    rw [hb2]
    refine ⟨rfl, _, M.sub upd_same, ?_⟩
    have e3 : decide (V.int ((b.toNat : Nat) : Int) = V.int 1) = b := by cases b <;> rfl
    rw [e3]
    exact q _ _ M rfl upd_same
  | _ => cases hf
theorem dr_Span {f C : Addr} {c : FC} {fd : FuncData} {n : Nat} {has : Sl → Bool} {ff : D → Bool} {fw : D → List Bool} (T : SpanCls K c.s) (F : Fun K "draw" "Span.draw" s_Span_draw f fd) (D_draw_fixed : DefOk P w K mg base 2 "draw_fixed" ["source", "most"] (spDrawFixed C)) : FnOk P w K mg base CX0 4 f fd ["self", "source"] (spDr has ff fw c C n .s) := by
  refine F.okK sc_Span_draw (fun vs H Q E h => ?_) (fun cdv A outer s H vs Q E hr h => ?_)
  · obtain ⟨_, _, _, _, _, _, _, _, _, _, rfl, _⟩ := h; rfl
  obtain ⟨o, p, dx, fm, d, l, j, t, e, X, rfl, hs, hF, hok, hht, hS, hl, hj, hpX, hX, hf, hr', q⟩ := h
  obtain ⟨a, b, rfl⟩ := slot_sp hs
  obtain ⟨_, dxo, ho⟩ := hF
  rw [rowB] at q hr'
  rw [fitB] at hf
  cases d with
  | int v =>
    have hf : a ≤ v ∧ v ≤ b := of_decide_eq_true hf
    have hr' : bitsW (v - a).toNat (blen (b - a).toNat) <+: sees l t j := hr'
    have q : ∀ (w : V) (H' : Hp), Mv p H H' → DX X H' (.int v) w → H' p = some (srcO C dx l (j + (bitsW (v - a).toNat (blen (b - a).toNat)).length) t e) → Q w H' := q
    rw [bitsW_length] at q
    have e1 : ((v - a).toNat : Int) = v - a := Int.toNat_of_nonneg (by omega)
    have e2 : ((b - a).toNat : Int) = b - a := Int.toNat_of_nonneg (by omega)
    have hln := sees_len hr' hj
    have htk := sees_take hr'
    rw [bitsW_length] at hln htk
    have M := Mv.step (j' := j + blen (b - a).toNat) (t' := t) (e' := e) hS
    refine ⟨_, (pss_one (ps_ret (pe_op oAdd (pe_fld (pv 0) rfl) (pe_callD D_draw_fixed hr (pa_cons (pv 1) (pa_cons (pe_op oSub (pe_fld (pv 0) rfl) (pe_fld (pv 0) rfl)) pa_nil)))))), ?_⟩
    refine ⟨_, rfl, o, c.s, dxo, _, _, rfl, ho, T.cl, T.nL, look1 .., _, rfl, _, rfl, o, c.s, dxo, _, _, rfl, ho, T.cl, T.nH, look2 _ _ _ _ highlow, _, rfl, o, c.s, dxo, _, _, rfl, ho, T.cl, T.nL, look1 .., _, _, rfl, rfl, p, dx, l, j, (v - a).toNat, (b - a).toNat, t, e, by rw [e2]; rfl, hS, hl, by omega, hln, htk, .inl ⟨_, _, rfl, rfl, _, M.sub upd_same, ?_⟩⟩
    exact q _ _ M (by show V.int _ = V.int _; congr 1; omega) upd_same
  | _ => cases hf
theorem dr_Turned {f C : Addr} {c : FC} {fd : FuncData} {n : Nat} {has : Sl → Bool} {ff : D → Bool} {fw : D → List Bool} (c_C : Cls K C) (T : OneCls K (c.o 2)) (F : Fun K "draw" "Turned.draw" s_Turned_draw f fd) (M_turn : MethOk P w K mg base 1 C "turn" ["self"] (spTurn C)) (AM_draw : AnyM P w K mg base (2 * n + 4) "draw" ["self", "source"] (clS c) (spDr has ff fw c C n)) : FnOk P w K mg base CX0 (2 * n + 4 + 1) f fd ["self", "source"] (spDr has ff fw c C (n + 1) (.o 2)) := by
  refine F.okK sc_Turned_draw (fun vs H Q E h => ?_) (fun cdv A outer s H vs Q E hr h => ?_)
  · obtain ⟨_, _, _, _, _, _, _, _, _, _, rfl, _⟩ := h; rfl
  obtain ⟨o, p, dx, fm, d, l, j, t, e, X, rfl, hs, hF, hok, hht, hS, hl, hj, hpX, hX, hf, hr', q⟩ := h
  obtain ⟨g, rfl⟩ := slot_one hs
  obtain ⟨nop, dxo, i, ho, hI⟩ := hF
  have hok2 := hok.one
  have hht2 : ht g ≤ n := by rw [ht] at hht; omega
  rw [fitB] at hf
  rw [rowB] at q hr'
  have hf : fitB ff g d = true := hf
  have hr' : (rowB fw g d).map (!·) <+: sees l t j := hr'
  have q : ∀ (w : V) (H' : Hp), Mv p H H' → DX X H' d w → H' p = some (srcO C dx l (j + ((rowB fw g d).map (!·)).length) t e) → Q w H' := q
  rw [List.length_map] at q
  have op : o ≠ p := fun z => nop (List.mem_singleton.mpr z)
  have M1 := Mv.step (j' := j) (t' := !t) (e' := e) hS
  have hI1 := FAt.mv M1 g hI
  obtain ⟨dxi, fsi, ei, li⟩ := FAt.draw g hI1
  refine ⟨_, (pss_cons (ps_expr (pe_methD0 M_turn c_C hr (pv 1) (hk := by omega)))
    (pss_cons (ps_set (i := 2) sc_Turned_draw.nd rfl (by first | exact Or.inl rfl | exact Or.inr rfl) (pe_methAny AM_draw hr (pe_fld (pv 0) rfl) (pa_cons (pv 1) pa_nil) (hk := by omega)))
    (pss_cons (ps_expr (pe_methD0 M_turn c_C hr (pv 1) (hk := by omega)))
    (pss_one (ps_ret (pv 2)))))), ?_⟩
  refine ⟨_, rfl, p, dx, _, rfl, hS, look_meth _ _ _ _ (by decide +kernel) (by decide +kernel) (by decide +kernel), p, dx, l, j, t, e, 0, rfl, hS, ?_⟩
  refine ⟨_, rfl, o, c.o 2, dxo, _, _, rfl, M1.k _ _ op ho, T.cl, T.nI, look1 .., i, slot g, dxi, fsi, rfl, ei, li, ?_⟩
  refine ⟨_, rfl, i, p, dx, g, d, l, j, !t, e, X, rfl, rfl, hI1, hok2, hht2, upd_same, hl, hj, hpX, Mv.alloc M1 upd_same hX, hf, sees_turn hr', fun v H2 M2 hd2 hS2 => ?_⟩
  have M3 := Mv.step (j' := j + (rowB fw g d).length) (t' := t) (e' := e) hS2
  refine ⟨_, rfl, p, dx, _, rfl, hS2, look_meth _ _ _ _ (by decide +kernel) (by decide +kernel) (by decide +kernel), p, dx, l, _, !t, e, 0, rfl, hS2, ?_⟩
  rw [Bool.not_not]
  have M := (M1.trans M2).trans M3
  exact ⟨_, rfl, _, M.sub upd_same, q _ _ M (DX.keep (fun b u n e => M3.k b u (fun z => n (by rw [z]; exact hpX)) e) d hd2) upd_same⟩
theorem Mv.setL {p lv : Addr} {H H1 : Hp} {vs ws : List V} (h0 : H lv = none) (m : Mv p H H1) (h1 : H1 lv = some (.lst vs)) : Mv p H (upd H1 lv (.lst ws)) :=
  ⟨fun b u n e => by rw [upd_ne (fun z => by rw [z, h0] at e; cases e)]; exact m.k b u n e, fun cl => closed_lst h1 (m.c cl)⟩
theorem flat_split {α : Type} (ds : List α) (k : Nat) (f : α → List Bool) : (ds.map f).flatten = ((ds.take k).map f).flatten ++ ((ds.drop k).map f).flatten := by
  rw [← List.flatten_append, ← List.map_append, List.take_append_drop]
theorem dr_Many {f C : Addr} {c : FC} {fd : FuncData} {n : Nat} {has : Sl → Bool} {ff : D → Bool} {fw : D → List Bool} (nb : NB mg) (g_MOST_VALUES : GlobV mg "MOST_VALUES" (.int 60)) (c_C : Cls K C) (T : OneCls K (c.o 1)) (F : Fun K "draw" "Many.draw" s_Many_draw f fd) (M_draw : MethOk P w K mg base 1 C "draw" ["self"] (spDraw C)) (M_refuse : MethOk P w K mg base 1 C "refuse" ["self"] spNo) (AM_draw : AnyM P w K mg base (2 * n + 4) "draw" ["self", "source"] (clS c) (spDr has ff fw c C n)) : FnOk P w K mg base CX0 (2 * n + 4 + 1) f fd ["self", "source"] (spDr has ff fw c C (n + 1) (.o 1)) := by
  refine F.okK sc_Many_draw (fun vs H Q E h => ?_) (fun cdv A outer s H vs Q E hr h => ?_)
  · obtain ⟨_, _, _, _, _, _, _, _, _, _, rfl, _⟩ := h; rfl
  obtain ⟨o, p, dx, fm, d, l, j, t, e, X, rfl, hs, hF, hok, hht, hS, hl, hj, hpX, hX, hf, hr', q⟩ := h
  obtain ⟨g, rfl⟩ := slot_one hs
  obtain ⟨nop, dxo, i, ho, hI⟩ := hF
  have hok2 := hok.one
  have hht2 : ht g ≤ n := by rw [ht] at hht; omega
  rw [fitB] at hf
  rw [rowB] at q hr'
  have hf : manyFit (fitB ff g) d = true := hf
  cases d with
  | lst ds =>
    have hf : (decide (ds.length ≤ 60) && ds.all (fitB ff g)) = true := hf
    obtain ⟨h60, hall⟩ := Bool.and_eq_true_iff.mp hf
    have h60 := of_decide_eq_true h60
    have hall := List.all_eq_true.mp hall
    have hr' : ((ds.map fun d => true :: rowB fw g d).flatten ++ [false]) <+: sees l t j := hr'
    have q : ∀ (w : V) (H' : Hp), Mv p H H' → DX X H' (.lst ds) w → H' p = some (srcO C dx l (j + ((ds.map fun d => true :: rowB fw g d).flatten ++ [false]).length) t e) → Q w H' := q
    have op : o ≠ p := fun z => nop (List.mem_singleton.mpr z)
    refine ⟨_, (pss_cons (ps_set (i := 2) sc_Many_draw.nd rfl (by first | exact Or.inl rfl | exact Or.inr rfl) (pe_lst pa_nil))
    (pss_cons (ps_while PassesOwn.never (pt_cmpR oEq (pe_methD0 M_draw c_C hr (pv 1) (hk := by omega)) pe_int (nomark _))
      (pss_cons (ps_if (pt_cmpR oEq (pe_callB call_len rfl nb.len_ bo_len (pa_cons (pv 2) pa_nil)) (pe_globV g_MOST_VALUES) (nomark _)) (pss_one (ps_expr (pe_methD0 M_refuse c_C hr (pv 1) (hk := by omega)))) pss_nil)
      (pss_one (ps_expr (pe_bm PySem.F.plainAttrs_list PySem.F.slot_list_append PySem.F.type_list_append mt_append (pv 2) (pa_cons (pe_methAny AM_draw hr (pe_fld (pv 0) rfl) (pa_cons (pv 1) pa_nil) (hk := by omega)) pa_nil))))))
    (pss_one (ps_ret (pv 2))))), ?_⟩
    refine ⟨Nat.zero_le _, fun lv hlv => ?_⟩
    have lp : p ≠ lv := fun z => by rw [← z, hS] at hlv; cases hlv
    have lX : lv ∉ X := fun z => by obtain ⟨u, hu⟩ := hX lv z; rw [hlv] at hu; cases hu
    have M0 : Mv p H (upd H lv (.lst [])) := ⟨fun b u _ e => same_new hlv b u e, fun cl => closed_new cl hlv trivial⟩
    refine ⟨fun m σ H2 => ∃ (k : Nat) (vs : List V), k ≤ ds.length ∧ m = ds.length - k ∧ σ = [some (.ref o), some (.ref p), some (.ref lv)] ∧ Mv p H H2 ∧ H2 lv = some (.lst vs) ∧ DsX (lv :: X) H2 (ds.take k) vs ∧ H2 p = some (srcO C dx l (j + (((ds.take k).map fun d => true :: rowB fw g d).flatten).length) t e), ⟨ds.length, 0, [], Nat.zero_le _, rfl, rfl, M0, upd_same, rfl, same_new hlv _ _ hS⟩, ?_⟩
    rintro m σ H2 ⟨k, vs, hk, rfl, rfl, M2, hl2, hd2, hS2⟩
    have hsee := hr'
    rw [flat_split ds k, List.append_assoc] at hsee
    have hsee := sees_on hsee
    have hj2 := sees_len (sees_pre (by have := hr'; rw [flat_split ds k, List.append_assoc] at this; exact this)) hj
    generalize hjj : j + (((ds.take k).map fun d => true :: rowB fw g d).flatten).length = jj at hS2 hsee hj2
    refine ⟨_, rfl, p, dx, _, rfl, hS2, look_meth _ _ _ _ (by decide +kernel) (by decide +kernel) (by decide +kernel), ?_⟩
    have M3 := Mv.step (j' := jj + 1) (t' := t) (e' := e) hS2
    have hvl := DsAt.len _ (DsX.at _ hd2)
    rcases Nat.lt_or_ge k ds.length with z | z
    · have ed : ds.drop k = ds[k] :: ds.drop (k + 1) := List.drop_eq_getElem_cons z
      rw [ed, List.map_cons, List.flatten_cons, List.cons_append, List.cons_append] at hsee
      obtain ⟨b', hb1, hb2⟩ := sees_get hsee
      refine ⟨p, dx, l, jj, t, e, b', rfl, ⟨_, hS2⟩, hl, hb1, ?_⟩
      rw [hb2]
      refine ⟨rfl, _, rfl, iteT ⟨_, fun _ _ h => h, ?_⟩⟩
      have hl3 := M3.k _ _ (Ne.symm lp) hl2
      have hd3 : DsX (lv :: X) _ (ds.take k) vs := DsX.keep (fun b u nb e => M3.k b u (fun z => nb (List.mem_cons_of_mem _ (by rw [z]; exact hpX))) e) _ hd2
      have M23 := M2.trans M3
      have hS3 : upd H2 p (srcO C dx l (jj + 1) t e) p = _ := upd_same
      generalize upd H2 p (srcO C dx l (jj + 1) t e) = H3 at M3 hl3 hd3 M23 hS3 ⊢
      have htk : (ds.take k).length = k := by rw [List.length_take]; omega
      refine ⟨_, rfl, _, _, rfl, .inl ⟨_, SqL.of hl3, rfl⟩, rfl, _, rfl, iteN (by intro z; have := V.int.inj z; omega) ?_⟩
      have hI3 := FAt.mv M23 g hI
      obtain ⟨dxi, fsi, ei, li⟩ := FAt.draw g hI3
      have hseed : (rowB fw g ds[k] ++ (((ds.drop (k + 1)).map fun d => true :: rowB fw g d).flatten ++ [false])) <+: sees l t (jj + 1) := by
        rw [← List.append_assoc]
        exact sees_on (r := [true]) hsee
      have hjl := sees_len (sees_pre (r := [true]) hsee) hj2
      rw [List.length_singleton] at hjl
      refine ⟨_, rfl, .inl ⟨rfl, _, SqL.of hl3⟩, ?_⟩
      refine ⟨_, rfl, o, c.o 1, dxo, _, _, rfl, M23.k _ _ op ho, T.cl, T.nI, look1 .., i, slot g, dxi, fsi, rfl, ei, li, ?_⟩
      refine ⟨_, rfl, i, p, dx, g, ds[k], l, jj + 1, t, e, lv :: X, rfl, rfl, hI3, hok2, hht2, hS3, hl, hjl, List.mem_cons_of_mem _ hpX, ?_, hall _ (List.getElem_mem z), sees_pre hseed, fun v H4 M4 hd4 hS4 => ?_⟩
      · intro x hx
        rcases List.mem_cons.mp hx with rfl | hx
        · exact ⟨_, hl3⟩
        · exact Mv.alloc M23 hS3 hX x hx
      have hl4 := M4.k _ _ (Ne.symm lp) hl3
      have M24 := M23.trans M4
      refine ⟨lv, _, _, rfl, rfl, hl4, Nat.lt_of_lt_of_le (show vs.length < 100000 by omega) (by decide), ?_⟩
      refine ⟨ds.length - (k + 1), by omega, k + 1, vs ++ [v], by omega, rfl, rfl, Mv.setL hlv M24 hl4, upd_same, ?_, ?_⟩
      · rw [← List.take_append_getElem z]
        refine DsX.keep (fun b u nb e => by rw [upd_ne (fun z => nb (by rw [z]; exact List.mem_cons_self ..))]; exact e) _ (DsX.snoc hd4 _ ?_)
        exact DsX.keep (fun b u nb e => M4.k b u (fun z => nb (List.mem_cons_of_mem _ (by rw [z]; exact hpX))) e) _ hd3
      · rw [upd_ne lp, hS4]
        have e9 : jj + 1 + (rowB fw g ds[k]).length = j + (((ds.take (k + 1)).map fun d => true :: rowB fw g d).flatten).length := by
          rw [← List.take_append_getElem z, List.map_append, List.flatten_append, List.length_append]
          simp only [List.map_cons, List.map_nil, List.flatten_cons, List.flatten_nil, List.append_nil, List.length_cons]
          omega
        rw [e9]
    · have hke : k = ds.length := by omega
      subst hke
      rw [List.drop_length, List.map_nil, List.flatten_nil, List.nil_append] at hsee
      rw [List.take_length] at hjj hd2 hvl
      obtain ⟨b', hb1, hb2⟩ := sees_get hsee
      refine ⟨p, dx, l, jj, t, e, b', rfl, ⟨_, hS2⟩, hl, hb1, ?_⟩
      rw [hb2]
      refine ⟨rfl, _, rfl, iteF ?_⟩
      have M := M2.trans M3
      refine ⟨_, rfl, _, M.sub upd_same, q _ _ M ⟨lv, vs, rfl, lX, ?_, ?_, by omega⟩ ?_⟩
      · rw [upd_ne (Ne.symm lp)]; exact hl2
      · exact DsX.keep (fun b u nb e => M3.k b u (fun z => nb (by rw [z]; exact hpX)) e) _ (DsX.weak (fun x hx => List.mem_cons_of_mem _ hx) _ hd2)
      · rw [upd_same, List.length_append, List.length_singleton, ← hjj]
        congr 2
  | _ => cases hf
theorem comp_listM {K : PySem.W.Frag} {a : Addr} {xs : List V} {g : TG} {te : TE} {Q : VK} {H : Hp} {D : Addr} {σ0 : St} (Inv : Nat → List V → Hp → Prop) (S : St → Prop) (hz : xs.length ≤ 100000) (h0 : S σ0)
    (hl : ∀ i ys H2, Inv i ys H2 → SqL K H2 a xs) (h1 : Inv 0 [] (upd H D (.lst [])))
    (ht : ∀ i x, xs[i]? = some x → ∀ ys σ1 H1, S σ1 → Inv i ys H1 → H1 D = some (.lst ys) → ys.length = i → ∀ R : St → V → Hp → Prop, (∀ σ2 y H3, S σ2 → H3 D = some (.lst ys) → Inv (i + 1) (ys ++ [y]) (upd H3 D (.lst (ys ++ [y]))) → R σ2 y H3) → g x σ1 H1 fun σ2 H2 => te σ2 H2 fun y H3 => R σ2 y H3)
    (hq : ∀ (ys : List V) (H' : Hp), ys.length = xs.length → H' D = some (.lst ys) → Inv xs.length ys H' → Q (.ref D) H') :
    CompGo (Itl K a) g tYes te Q σ0 H D := by
  refine ⟨fun i m σ1 H2 => i ≤ xs.length ∧ m = xs.length - i ∧ S σ1 ∧ ∃ ys : List V, ys.length = i ∧ H2 D = some (.lst ys) ∧ Inv i ys H2, ⟨xs.length, Nat.zero_le _, rfl, h0, [], rfl, upd_same, h1⟩, ?_⟩
  rintro i m σ1 H2 ⟨hi, rfl, h2, ys, hy, hDv, hP⟩
  have hl2 := hl i ys H2 hP
  rcases Nat.lt_or_ge i xs.length with z | z
  · refine .inr ⟨⟨xs, xs[i], hl2, List.getElem?_eq_getElem z⟩, ?_⟩
    rintro x H3 ⟨rfl, hx⟩
    have hx := hx xs hl2
    refine ht i x hx ys σ1 _ h2 hP hDv hy (fun σ2 y H6 => ∃ zs m', H6 D = some (.lst zs) ∧ zs.length < sizeLine ∧ m' < xs.length - i ∧ (i + 1 ≤ xs.length ∧ m' = xs.length - (i + 1) ∧ S σ2 ∧ ∃ ws : List V, ws.length = i + 1 ∧ upd H6 D (.lst (zs ++ [y])) D = some (.lst ws) ∧ Inv (i + 1) ws (upd H6 D (.lst (zs ++ [y]))))) fun σ2 y H6 q3 hD6 hI6 => ?_
    exact ⟨ys, xs.length - (i + 1), hD6, Nat.lt_of_lt_of_le (show ys.length < 100000 by omega) (by decide), by omega, by omega, rfl, q3, ys ++ [y], by rw [List.length_append, hy]; rfl, upd_same, hI6⟩
  · have e : i = xs.length := by omega
    subst e
    exact .inl ⟨⟨xs, hl2, Nat.le_refl _⟩, hq ys H2 hy hDv hP⟩
theorem dr_Record {f C : Addr} {c : FC} {fd : FuncData} {n : Nat} {has : Sl → Bool} {ff : D → Bool} {fw : D → List Bool} (nb : NB mg) (T : TwoCls K (c.t 0)) (F : Fun K "draw" "Record.draw" s_Record_draw f fd) (AM_draw : AnyM P w K mg base (2 * n + 4) "draw" ["self", "source"] (clS c) (spDr has ff fw c C n)) : FnOk P w K mg base CX0 (2 * n + 4 + 1) f fd ["self", "source"] (spDr has ff fw c C (n + 1) (.t 0)) := by
  refine F.okK sc_Record_draw (fun vs H Q E h => ?_) (fun cdv A outer s H vs Q E hr h => ?_)
  · obtain ⟨_, _, _, _, _, _, _, _, _, _, rfl, _⟩ := h; rfl
  obtain ⟨o, p, dx, fm, d, l, j, t, e, X, rfl, hs, hF, hok, hht, hS, hl, hj, hpX, hX, hf, hr', q⟩ := h
  obtain ⟨ns, fs, rfl⟩ := slot_two hs
  obtain ⟨nop, dxo, a1, a2, os, ho, n1, n2, h1, h2, hFs⟩ := hF
  obtain ⟨hgn, hnl, hok2⟩ := hok.two
  have hht2 : hts fs ≤ n := by rw [ht] at hht; omega
  have hol := FsAt.len fs hFs
  have hn20 := (goodNames_mem hgn).1
  rw [fitB] at hf
  rw [rowB] at q hr'
  cases d with
  | tup ds =>
    have hf : fitL ff fs ds = true := hf
    have hdl : ds.length = fs.length := by
      rcases Nat.decEq ds.length fs.length with z | z
      · rw [fitL_len ff fs ds z] at hf; cases hf
      · exact z
    rw [fitL_all ff fs ds hdl] at hf
    have hall := List.all_eq_true.mp hf
    have hr' : rowL fw fs ds <+: sees l t j := hr'
    have q : ∀ (w : V) (H' : Hp), Mv p H H' → DX X H' (.tup ds) w → H' p = some (srcO C dx l (j + (rowL fw fs ds).length) t e) → Q w H' := q
    rw [rowL_flat fw fs ds hdl] at hr' q
    have op : o ≠ p := fun z => nop (List.mem_singleton.mpr z)
    have a2p : a2 ≠ p := fun z => n2 (List.mem_singleton.mpr z)
    have eD : ∀ {i : Nat} {x : D}, ds[i]? = some x → ds.getD i .non = x := fun h => by rw [List.getD_eq_getElem?_getD, h]; rfl
    have eF : ∀ {i : Nat} {x : Fm}, fs[i]? = some x → fs.getD i (.bare 0) = x := fun h => by rw [List.getD_eq_getElem?_getD, h]; rfl
    obtain ⟨pl, hpl⟩ : ∃ pl : Nat → Nat, pl = fun i => j + (((List.range i).map fun i => rowB fw (fs.getD i (.bare 0)) (ds.getD i .non)).flatten).length := ⟨_, rfl⟩
    have pls : ∀ i, pl (i + 1) = pl i + (rowB fw (fs.getD i (.bare 0)) (ds.getD i .non)).length := fun i => by
      rw [hpl]
      show j + _ = j + _ + _
      rw [List.range_succ, List.map_append, List.flatten_append, List.length_append]
      simp only [List.map_cons, List.map_nil, List.flatten_cons, List.flatten_nil, List.append_nil]
      omega
    have see : ∀ i, i < fs.length → rowB fw (fs.getD i (.bare 0)) (ds.getD i .non) <+: sees l t (pl i) ∧ pl i ≤ l.length := fun i hi => by
      have h := hr'
      rw [flat_split (List.range fs.length) i] at h
      have et : (List.range fs.length).take i = List.range i := by rw [List.take_range, Nat.min_eq_left (by omega)]
      have ed : (List.range fs.length).drop i = i :: (List.range fs.length).drop (i + 1) := by
        rw [List.drop_eq_getElem_cons (by rw [List.length_range]; exact hi), List.getElem_range]
      rw [et, ed, List.map_cons, List.flatten_cons] at h
      have h2 := sees_len (sees_pre h) hj
      have h3 := sees_pre (sees_on h)
      rw [hpl]
      exact ⟨h3, h2⟩
    refine ⟨_, (pss_one (ps_ret (pe_callTy call_tuple_of rfl nb.tuple_ bo_tuple (pa_cons (pe_comp ["form"] [(1, "source")] rfl (by decide +kernel) ⟨rfl, .inl rfl, trivial⟩ (piAll (pe_fld (pv 0) rfl)) (fun _ _ _ _ _ => (pg_name (i := 0) (show (["form", "source"] : List Str).Nodup by decide +kernel) rfl (by first | exact Or.inl rfl | exact Or.inr rfl))) (fun _ _ _ _ _ => pts_nil) (fun _ _ _ _ _ => (pe_methAny AM_draw hr (pv 0) (pa_cons (pv 1) pa_nil) (hk := by omega)))) pa_nil)))), ?_⟩
    refine .inl ⟨_, rfl, o, c.t 0, dxo, _, _, rfl, ho, T.cl, T.nF, look2 _ _ _ _ formsnames, a2, rfl, ⟨_, SqL.of h2⟩, fun D1 hD1 => ?_⟩
    have pD : p ≠ D1 := fun z => by rw [← z, hS] at hD1; cases hD1
    have DX1 : D1 ∉ X := fun z => by obtain ⟨u, hu⟩ := hX D1 z; rw [hD1] at hu; cases hu
    refine comp_listM (K := K) (a := a2) (xs := os.map V.ref) (fun i ys H2 => Mv p H H2 ∧ DsX (D1 :: X) H2 (ds.take i) ys ∧ H2 p = some (srcO C dx l (pl i) t e)) (fun σ => ∃ z, σ = [z, some (.ref p)]) (by rw [List.length_map]; omega) ⟨_, rfl⟩ ?_ ?_ ?_ ?_
    · rintro i ys H2 ⟨m, _⟩
      exact SqL.of (m.k _ _ a2p h2)
    · exact ⟨⟨fun b u _ e => same_new hD1 b u e, fun cl => closed_new cl hD1 trivial⟩, rfl, by rw [upd_ne pD, hS, hpl]; rfl⟩
    · rintro i x hx ys σ1 H1 ⟨z, rfl⟩ ⟨m1, hd1, hS1⟩ hDy hyl R hR
      rw [List.getElem?_map] at hx
      obtain ⟨oi, hoi, rfl⟩ := Option.map_eq_some_iff.mp hx
      obtain ⟨gi, hgi, hGi⟩ := FsAt.get fs hFs hoi
      obtain ⟨hok3, hht3⟩ := hok2.get hgi
      have hi : i < fs.length := (List.getElem?_eq_some_iff.mp hgi).1
      have hdi : ds[i]? = some ds[i] := List.getElem?_eq_getElem (by omega)
      obtain ⟨hse, hpll⟩ := see i hi
      have hfi := hall i (List.mem_range.mpr hi)
      have hps := pls i
      rw [eF hgi, eD hdi] at hse hfi hps
      have hG1 := FAt.mv m1 gi hGi
      obtain ⟨dxi, fsi, ei, li⟩ := FAt.draw gi hG1
      refine ⟨_, rfl, oi, slot gi, dxi, fsi, rfl, ei, li, ?_⟩
      refine ⟨_, rfl, oi, p, dx, gi, ds[i], l, pl i, t, e, D1 :: X, rfl, rfl, hG1, hok3, by omega, hS1, hl, hpll, List.mem_cons_of_mem _ hpX, ?_, hfi, hse, fun v H4 M4 hd4 hS4 => ?_⟩
      · intro x hx
        rcases List.mem_cons.mp hx with rfl | hx
        · exact ⟨_, hDy⟩
        · exact Mv.alloc m1 hS1 hX x hx
      have hD4 := M4.k _ _ (Ne.symm pD) hDy
      refine hR _ _ _ ⟨_, rfl⟩ hD4 ⟨Mv.setL hD1 (m1.trans M4) hD4, ?_, ?_⟩
      · rw [← List.take_append_getElem (by omega)]
        refine DsX.keep (fun b u nb e => by rw [upd_ne (fun z => nb (by rw [z]; exact List.mem_cons_self ..))]; exact e) _ (DsX.snoc hd4 _ ?_)
        exact DsX.keep (fun b u nb e => M4.k b u (fun z => nb (List.mem_cons_of_mem _ (by rw [z]; exact hpX))) e) _ hd1
      · rw [upd_ne pD, hS4, hps]
    · rintro ys H2 hyl hDy ⟨m2, hd2, hS2⟩
      rw [List.length_map] at hyl hd2 hS2
      rw [List.take_of_length_le (by omega)] at hd2
      refine ⟨D1, ys, rfl, .inl ⟨SqL.of hDy, fun T1 hT1 => ?_⟩⟩
      have T1X : T1 ∉ X := fun z => by obtain ⟨u, hu⟩ := Mv.alloc m2 hS2 hX T1 z; rw [hT1] at hu; cases hu
      have pT : p ≠ T1 := fun z => by rw [← z, hS2] at hT1; cases hT1
      have mT : Mv p H (upd H2 T1 (.tup ys)) := m2.ext (Ext.tup hT1)
      refine ⟨_, mT.sub (by rw [upd_ne pT]; exact hS2), q _ _ mT ⟨T1, ys, rfl, T1X, upd_same, DsX.same (same_new hT1) (DsX.weak (fun x hx => List.mem_cons_of_mem _ hx) _ hd2), by omega⟩ ?_⟩
      rw [upd_ne pT, hS2, hol, hpl]
  | _ => cases hf
theorem dr_Letters {f C : Addr} {c : FC} {fd : FuncData} {n : Nat} {has : Sl → Bool} {ff : D → Bool} {fw : D → List Bool} (nb : NB mg) (g_LONGEST_TEXT : GlobV mg "LONGEST_TEXT" (.int 200)) (c_C : Cls K C) (T : LetCls K c.l) (F : Fun K "draw" "Letters.draw" s_Letters_draw f fd) (M_draw : MethOk P w K mg base 1 C "draw" ["self"] (spDraw C)) (M_refuse : MethOk P w K mg base 1 C "refuse" ["self"] spNo) (D_draw_fixed : DefOk P w K mg base 2 "draw_fixed" ["source", "most"] (spDrawFixed C)) : FnOk P w K mg base CX0 4 f fd ["self", "source"] (spDr has ff fw c C n .l) := by
  refine F.okK sc_Letters_draw (fun vs H Q E h => ?_) (fun cdv A outer s H vs Q E hr h => ?_)
  · obtain ⟨_, _, _, _, _, _, _, _, _, _, rfl, _⟩ := h; rfl
  obtain ⟨o, p, dx, fm, d, l, j, t, e, X, rfl, hs, hF, hok, hht, hS, hl, hj, hpX, hX, hf, hr', q⟩ := h
  obtain ⟨sg, rfl⟩ := slot_le hs
  obtain ⟨nop, dxo, ho⟩ := hF
  rw [fitB] at hf
  rw [rowB] at q hr'
  cases d with
  | str w =>
    have hf : (decide (w.length ≤ 200) && madeOf w sg) = true := hf
    obtain ⟨h200, hm⟩ := Bool.and_eq_true_iff.mp hf
    have h200 := of_decide_eq_true h200
    have hsg : goodText sg = true ∧ sg.length ≤ 60 := by have := hok.1; rw [okF] at this; exact this
    obtain ⟨cs, hcs⟩ : ∃ cs, cs = w.cps.toList := ⟨_, rfl⟩
    have hcl : cs.length = w.length := by rw [hcs]; exact Array.length_toList
    have hr' : ((w.cps.toList.map fun c => true :: bitsW (sg.cps.toList.idxOf c) (blen (sg.length - 1))).flatten ++ [false]) <+: sees l t j := hr'
    have q : ∀ (v : V) (H' : Hp), Mv p H H' → DX X H' (.str w) v → H' p = some (srcO C dx l (j + ((w.cps.toList.map fun c => true :: bitsW (sg.cps.toList.idxOf c) (blen (sg.length - 1))).flatten ++ [false]).length) t e) → Q v H' := q
    rw [← hcs] at hr' q
    have hmem : ∀ ch, ch ∈ cs → ch ∈ sg.cps.toList := fun ch h => of_decide_eq_true (List.all_eq_true.mp hm ch (by rw [← hcs]; exact h))
    have op : o ≠ p := fun z => nop (List.mem_singleton.mpr z)
    refine ⟨_, (pss_cons (ps_set (i := 2) sc_Letters_draw.nd rfl (by first | exact Or.inl rfl | exact Or.inr rfl) pe_str)
    (pss_cons (ps_while PassesOwn.never (pt_cmpR oEq (pe_methD0 M_draw c_C hr (pv 1)) pe_int (nomark _))
      (pss_cons (ps_if (pt_cmpR oEq (pe_callB call_len rfl nb.len_ bo_len (pa_cons (pv 2) pa_nil)) (pe_globV g_LONGEST_TEXT) (nomark _)) (pss_one (ps_expr (pe_methD0 M_refuse c_C hr (pv 1)))) pss_nil)
      (pss_one (ps_set (i := 2) sc_Letters_draw.nd rfl (by first | exact Or.inl rfl | exact Or.inr rfl) (pe_op oAdd (pv 2) (pe_ix iAll (pe_fld (pv 0) rfl) (pe_callD D_draw_fixed hr (pa_cons (pv 1) (pa_cons (pe_op oSub (pe_callB call_len rfl nb.len_ bo_len (pa_cons (pe_fld (pv 0) rfl) pa_nil)) pe_int) pa_nil))) (fun _ _ => rfl)))))))
    (pss_one (ps_ret (pv 2))))), ?_⟩
    refine ⟨fun m σ H2 => ∃ k : Nat, k ≤ cs.length ∧ m = cs.length - k ∧ σ = [some (.ref o), some (.ref p), some (.str ⟨(cs.take k).toArray⟩)] ∧ Mv p H H2 ∧ H2 p = some (srcO C dx l (j + (((cs.take k).map fun c => true :: bitsW (sg.cps.toList.idxOf c) (blen (sg.length - 1))).flatten).length) t e), ⟨cs.length, 0, Nat.zero_le _, rfl, by rw [List.take_zero]; rfl, Mv.refl _ _, hS⟩, ?_⟩
    rintro m σ H2 ⟨k, hk, rfl, rfl, M2, hS2⟩
    have hsee := hr'
    rw [flat_split cs k, List.append_assoc] at hsee
    have hj2 := sees_len (sees_pre hsee) hj
    have hsee := sees_on hsee
    generalize hjj : j + (((cs.take k).map fun c => true :: bitsW (sg.cps.toList.idxOf c) (blen (sg.length - 1))).flatten).length = jj at hS2 hsee hj2
    refine ⟨_, rfl, p, dx, _, rfl, hS2, look_meth _ _ _ _ (by decide +kernel) (by decide +kernel) (by decide +kernel), ?_⟩
    have M3 := Mv.step (j' := jj + 1) (t' := t) (e' := e) hS2
    rcases Nat.lt_or_ge k cs.length with z | z
    · have ed : cs.drop k = cs[k] :: cs.drop (k + 1) := List.drop_eq_getElem_cons z
      rw [ed, List.map_cons, List.flatten_cons, List.cons_append, List.cons_append] at hsee
      obtain ⟨b', hb1, hb2⟩ := sees_get hsee
      refine ⟨p, dx, l, jj, t, e, b', rfl, ⟨_, hS2⟩, hl, hb1, ?_⟩
      rw [hb2]
      refine ⟨rfl, _, rfl, iteT ⟨_, fun _ _ h => h, ?_⟩⟩
      have M23 := M2.trans M3
      have hS3 : upd H2 p (srcO C dx l (jj + 1) t e) p = _ := upd_same
      generalize upd H2 p (srcO C dx l (jj + 1) t e) = H3 at M3 M23 hS3 ⊢
      have htk : (⟨(cs.take k).toArray⟩ : Str).length = k := by show (cs.take k).toArray.size = k; rw [List.size_toArray, List.length_take]; omega
      have hseed : (bitsW (sg.cps.toList.idxOf cs[k]) (blen (sg.length - 1)) ++ (((cs.drop (k + 1)).map fun c => true :: bitsW (sg.cps.toList.idxOf c) (blen (sg.length - 1))).flatten ++ [false])) <+: sees l t (jj + 1) := by
        rw [← List.append_assoc]
        exact sees_on (r := [true]) hsee
      have hjl := sees_len (sees_pre (r := [true]) hsee) hj2
      rw [List.length_singleton] at hjl
      have hbit := sees_pre hseed
      have hln := sees_len hbit hjl
      have hts := sees_take hbit
      rw [bitsW_length] at hln hts
      have hlt : sg.cps.toList.idxOf cs[k] < sg.length := by
        have := List.idxOf_lt_length_iff.mpr (hmem _ (List.getElem_mem z))
        rwa [Array.length_toList] at this
      have M4 := Mv.step (j' := jj + 1 + blen (sg.length - 1)) (t' := t) (e' := e) hS3
      have e2 : (sg.length : Int) - 1 = ((sg.length - 1 : Nat) : Int) := by omega
      have ho3 := M23.k _ _ op ho
      have hat : atI sg.cps.toList ((sg.cps.toList.idxOf cs[k] : Nat) : Int) = some cs[k] := by
        refine atI_nat ?_
        rw [List.getElem?_eq_getElem (by rw [Array.length_toList]; exact hlt), List.getElem_idxOf]
      refine ⟨_, rfl, _, _, rfl, ⟨small5 (by omega), rfl⟩, rfl, _, rfl, iteN (by intro z; have := V.int.inj z; omega) ?_⟩
      refine ⟨_, rfl, _, rfl, o, c.l, dxo, _, _, rfl, ho3, T.cl, T.nS, look1 .., ?_⟩
      refine ⟨_, rfl, _, rfl, o, c.l, dxo, _, _, rfl, ho3, T.cl, T.nS, look1 .., _, _, rfl, ⟨small5 (by omega), rfl⟩, _, _, rfl, rfl, p, dx, l, jj + 1, sg.cps.toList.idxOf cs[k], sg.length - 1, t, e, by rw [← e2]; rfl, hS3, hl, by omega, hln, hts, ?_⟩
      refine .inr ⟨_, _, cs[k], rfl, rfl, small5 (by omega), hat, .inr ⟨_, _, rfl, rfl, small5 (by rw [htk]; exact Nat.le_trans (Nat.add_le_add (show k ≤ 300 by omega) (Nat.le_refl 1)) (by decide)), ?_⟩⟩
      refine ⟨cs.length - (k + 1), by omega, k + 1, by omega, rfl, ?_, M23.trans M4, ?_⟩
      · have es : (⟨(cs.take k).toArray⟩ : Str) ++ (⟨#[cs[k]]⟩ : Str) = ⟨(cs.take (k + 1)).toArray⟩ := by
          rw [← List.take_append_getElem z]
          apply str_ext
          rw [app_cps]
        rw [es]; rfl
      · rw [upd_same]
        have e9 : jj + 1 + blen (sg.length - 1) = j + (((cs.take (k + 1)).map fun c => true :: bitsW (sg.cps.toList.idxOf c) (blen (sg.length - 1))).flatten).length := by
          rw [← List.take_append_getElem z, List.map_append, List.flatten_append, List.length_append]
          simp only [List.map_cons, List.map_nil, List.flatten_cons, List.flatten_nil, List.append_nil, List.length_cons, bitsW_length]
          omega
        rw [e9]
    · have hke : k = cs.length := by omega
      subst hke
      rw [List.drop_length, List.map_nil, List.flatten_nil, List.nil_append] at hsee
      rw [List.take_length] at hjj
      obtain ⟨b', hb1, hb2⟩ := sees_get hsee
      refine ⟨p, dx, l, jj, t, e, b', rfl, ⟨_, hS2⟩, hl, hb1, ?_⟩
      rw [hb2]
      refine ⟨rfl, _, rfl, iteF ?_⟩
      have M := M2.trans M3
      refine ⟨_, rfl, _, M.sub upd_same, q _ _ M ⟨?_, by omega⟩ ?_⟩
      · rw [List.take_length, hcs]
      · rw [upd_same, List.length_append, List.length_singleton, ← hjj]
        congr 2
  | _ => cases hf

def idxs (s t : Str) : List Nat := t.cps.toList.map fun c => s.cps.toList.idxOf c
def spPlaces (C : Addr) : Sp := fun vs H Q _ => ∃ (o dx : Addr) (s t : Str), vs = [.ref o, .str t] ∧ H o = some (.ins C dx [("signs", .str s)]) ∧ madeOf t s = true ∧ t.length ≤ 200 ∧ ∀ r, H r = none → Q (.ref r) (upd H r (.lst ((idxs s t).map fun k => V.int ((k : Nat) : Int))))
theorem ok_Letters_places {f C : Addr} {fd : FuncData} (T : LetCls K C) (F : Fun K "places" "Letters.places" s_Letters_places f fd) : FnOk P w K mg base CX0 1 f fd ["self", "text"] (spPlaces C) := by
  refine F.okK sc_Letters_places (fun vs H Q E h => ?_) (fun cdv A outer s H vs Q E hr h => ?_)
  · obtain ⟨_, _, _, _, rfl, _⟩ := h; rfl
  obtain ⟨o, dx, sg, t, rfl, ho, hm, hl, q⟩ := h
  refine ⟨_, (pss_one (ps_ret (pe_comp ["sign"] [(0, "self")] rfl (by decide +kernel) ⟨rfl, .inl rfl, trivial⟩ (piAll (pv 1)) (fun _ _ _ _ _ => (pg_name (i := 0) (show (["sign", "self"] : List Str).Nodup by decide +kernel) rfl (by first | exact Or.inl rfl | exact Or.inr rfl))) (fun _ _ _ _ _ => pts_nil) (fun _ _ _ _ _ => (pe_bm PySem.F.plainAttrs_str PySem.F.slot_str_index PySem.F.type_str_index mt_sindexE (pe_fld (pv 1) rfl) (pa_cons (pv 0) pa_nil)))))), ?_⟩
  refine .inr ⟨_, rfl, _, rfl, fun D hD => ?_⟩
  refine comp_str (fun c => V.int ((sg.cps.toList.idxOf c : Nat) : Int)) (fun σ => ∃ z, σ = [z, some (.ref o)]) (small5 (by show t.length ≤ _; omega)) ⟨_, rfl⟩ hD ?_ ?_
  · rintro ch hc σ1 H1 ⟨z, rfl⟩ hs1 R hR
    refine ⟨_, rfl, o, C, dx, _, _, rfl, hs1 _ _ ho, T.cl, T.nS, look1 .., ?_⟩
    exact ⟨rfl, _, rfl, sg, ch, rfl, rfl, of_decide_eq_true (List.all_eq_true.mp hm ch hc), hR _ ⟨_, rfl⟩⟩
  · refine ⟨_, .new hD (same_new hD) upd_same trivial, ?_⟩
    have q := q D hD
    unfold idxs at q
    rw [List.map_map] at q
    exact q
theorem ok_Letters_written {f : Addr} {c : FC} {fd : FuncData} {n : Nat} {has : Sl → Bool} {ff : D → Bool} {fw : D → List Bool} (nb : NB mg) (T : LetCls K c.l) (F : Fun K "written" "Letters.written" s_Letters_written f fd) (c_C : Cls K c.l) (M_places : MethOk P w K mg base 1 c.l "places" ["self", "text"] (spPlaces c.l)) (D_fixed_row : DefOk P w K mg base 2 "fixed_row" ["n", "most"] spFixedRow) : FnOk P w K mg base CX0 3 f fd ["self", "value"] (spWr has ff fw c n .l) := by
  refine F.okK sc_Letters_written (fun vs H Q E h => ?_) (fun cdv A outer s H vs Q E hr h => ?_)
  · obtain ⟨_, _, _, _, rfl, _⟩ := h; rfl
  obtain ⟨o, fm, v, d, rfl, hs, hF, hok, hht, hd, hf, hl, q⟩ := h
  obtain ⟨sg, rfl⟩ := slot_le hs
  obtain ⟨_, dx, ho⟩ := hF
  rw [fitB] at hf
  rw [rowB] at q hl
  cases d with
  | str t =>
    obtain ⟨rfl, _⟩ := hd
    have hf : (decide (t.length ≤ 200) && madeOf t sg) = true := hf
    obtain ⟨h200, hm⟩ := Bool.and_eq_true_iff.mp hf
    have h200 := of_decide_eq_true h200
    have hsg : goodText sg = true ∧ sg.length ≤ 60 := by have := hok.1; rw [okF] at this; exact this
    refine ⟨_, (pss_cons (ps_set (i := 2) sc_Letters_written.nd rfl (by first | exact Or.inl rfl | exact Or.inr rfl) (pe_op oSub (pe_callB call_len rfl nb.len_ bo_len (pa_cons (pe_fld (pv 0) rfl) pa_nil)) pe_int))
    (pss_one (ps_ret (pe_op oAdd (pe_bm PySem.F.plainAttrs_str PySem.F.slot_str_join PySem.F.type_str_join mt_join pe_str (pa_cons (pe_comp ["place"] [(2, "most")] rfl (by decide +kernel) ⟨rfl, .inl rfl, trivial⟩ (piAll (pe_methD M_places c_C hr (pv 0) (pa_cons (pv 1) pa_nil))) (fun _ _ _ _ _ => (pg_name (i := 0) (show (["place", "most"] : List Str).Nodup by decide +kernel) rfl (by first | exact Or.inl rfl | exact Or.inr rfl))) (fun _ _ _ _ _ => pts_nil) (fun _ _ _ _ _ => (pe_op oAdd pe_str (pe_callD D_fixed_row hr (pa_cons (pv 0) (pa_cons (pv 1) pa_nil)))))) pa_nil)) pe_str)))), ?_⟩
    have q : Q (.str (rowS ((t.cps.toList.map fun c => true :: bitsW (sg.cps.toList.idxOf c) (blen (sg.length - 1))).flatten ++ [false]))) H := q
    have hl : ((t.cps.toList.map fun c => true :: bitsW (sg.cps.toList.idxOf c) (blen (sg.length - 1))).flatten ++ [false]).length ≤ 90000 := hl
    rw [List.length_append] at hl
    refine ⟨_, rfl, o, c.l, dx, _, _, rfl, ho, T.cl, T.nS, look1 .., _, _, rfl, ⟨small5 (by omega), rfl⟩, _, _, rfl, rfl, ?_⟩
    have nlk : List.lookup (Str.ofString "places") [(Str.ofString "signs", V.str sg)] = none := by
      unfold List.lookup
      rw [show (Str.ofString "places" == Str.ofString "signs") = false by decide +kernel]
      rfl
    refine ⟨rfl, .inl ⟨_, rfl, o, dx, _, rfl, ho, nlk, _, rfl, o, dx, sg, t, rfl, ho, hm, h200, fun r hr2 => ?_⟩⟩
    have il : (idxs sg t).length = t.length := by unfold idxs; rw [List.length_map]; exact Array.length_toList
    refine ⟨r, rfl, ⟨_, SqL.of upd_same⟩, fun D1 hD1 => ?_⟩
    refine comp_listI (K := K) (a := r) (xs := (idxs sg t).map fun k => V.int ((k : Nat) : Int)) (fun k => V.str (rowS (true :: bitsW ((idxs sg t).getD k 0) (blen (sg.length - 1))))) (fun σ => ∃ z, σ = [z, some (V.int ((sg.length : Int) - 1))]) (small5 (by rw [List.length_map]; omega)) ⟨_, rfl⟩ hD1 (SqL.of upd_same) ?_ ?_
    · rintro k x hx σ1 H1 ⟨z, rfl⟩ hs1 R hR
      rw [List.getElem?_map] at hx
      obtain ⟨ix, hix, rfl⟩ := Option.map_eq_some_iff.mp hx
      have e : (idxs sg t).getD k 0 = ix := by rw [List.getD_eq_getElem?_getD, hix]; rfl
      rw [e] at hR
      have hix' := hix
      unfold idxs at hix'
      rw [List.getElem?_map] at hix'
      obtain ⟨ch, hch, rfl⟩ := Option.map_eq_some_iff.mp hix'
      have hcm : ch ∈ t.cps.toList := List.mem_of_getElem? hch
      have hcs : ch ∈ sg.cps.toList := of_decide_eq_true (List.all_eq_true.mp hm ch hcm)
      have hlt : sg.cps.toList.idxOf ch < sg.length := by
        have := List.idxOf_lt_length_iff.mpr hcs
        rwa [Array.length_toList] at this
      have hp := part_len (List.mem_map_of_mem (f := fun c => true :: bitsW (sg.cps.toList.idxOf c) (blen (sg.length - 1))) hcm)
      rw [List.length_cons, bitsW_length] at hp
      have e2 : (sg.length : Int) - 1 = ((sg.length - 1 : Nat) : Int) := by omega
      refine ⟨_, rfl, _, rfl, sg.cps.toList.idxOf ch, sg.length - 1, by rw [← e2]; rfl, by omega, by omega, .inr ⟨_, _, rfl, rfl, small5 ?_, ?_⟩⟩
      · rw [row_one, rowS_length, rowS_length, bitsW_length]; simp only [List.length_cons, List.length_nil]; omega
      · rw [row_one, rowS_append]; exact hR _ ⟨_, rfl⟩
    · have e : (List.range ((idxs sg t).map fun k => V.int ((k : Nat) : Int)).length).map (fun k => V.str (rowS (true :: bitsW ((idxs sg t).getD k 0) (blen (sg.length - 1))))) = ((t.cps.toList.map fun c => true :: bitsW (sg.cps.toList.idxOf c) (blen (sg.length - 1))).map rowS).map V.str := by
        rw [List.length_map]
        apply List.ext_getElem
        · unfold idxs; simp
        · intro k h1 h2
          have h3 : k < t.cps.toList.length := by simpa using h2
          have e3 : (idxs sg t)[k]? = some (sg.cps.toList.idxOf t.cps.toList[k]) := by unfold idxs; rw [List.getElem?_map, List.getElem?_eq_getElem h3]; rfl
          rw [List.getElem_map, List.getElem_map, List.getElem_map, List.getElem_map, List.getElem_range, List.getD_eq_getElem?_getD, e3]; rfl
      rw [e]
      have sm := (same_new (o := HO.lst ((idxs sg t).map fun k => V.int ((k : Nat) : Int))) hr2).trans (same_new (o := HO.lst (((t.cps.toList.map fun c => true :: bitsW (sg.cps.toList.idxOf c) (blen (sg.length - 1))).map rowS).map V.str)) hD1)
      refine ⟨_, D1, _, rfl, rfl, SqL.of upd_same, by rw [rows_sum]; omega, .inr ⟨_, _, rfl, rfl, small5 ?_, H, .refl sm, ?_⟩⟩
      · rw [join_rows, row_nil, rowS_length, rowS_length]; omega
      · rw [join_rows, row_nil, rowS_append]; exact q
  | _ => cases hf

def has43 : Sl → Bool
  | .b 2 => false
  | .b 3 => false
  | .o 0 => false
  | .t 1 => false
  | _ => true
structure Lack (K : PySem.W.Frag) (c : FC) : Prop where
  b2 : c.b 2 = c.b 0
  b3 : c.b 3 = c.b 0
  o0 : c.o 0 = c.o 1
  t1 : c.t 1 = c.t 0
  tS : SpanCls K c.s
  tL : LetCls K c.l
  tO : ∀ k, OneCls K (c.o k)
  tT : ∀ k, TwoCls K (c.t k)
structure Fts (K : PySem.W.Frag) (c : FC) : Prop where
  m0 : MethAt K (c.b 0) "fits" "Nothing.fits" s_Nothing_fits ["self", "value"]
  m1 : MethAt K (c.b 1) "fits" "Truth.fits" s_Truth_fits ["self", "value"]
  m4 : MethAt K c.s "fits" "Span.fits" s_Span_fits ["self", "value"]
  m5 : MethAt K c.l "fits" "Letters.fits" s_Letters_fits ["self", "value"]
  m7 : MethAt K (c.o 1) "fits" "Many.fits" s_Many_fits ["self", "value"]
  m8 : MethAt K (c.o 2) "fits" "Turned.fits" s_Turned_fits ["self", "value"]
  m9 : MethAt K (c.t 0) "fits" "Record.fits" s_Record_fits ["self", "value"]
theorem all_fits {c : FC} {ff : D → Bool} (nb : NB mg) (L : Lack K c) (S : Fts K c) (g_MOST_VALUES : GlobV mg "MOST_VALUES" (.int 60)) (g_LONGEST_TEXT : GlobV mg "LONGEST_TEXT" (.int 200)) (D_is_number : DefOk P w K mg base 1 "is_number" ["value"] spIsNum) (D_made_of : DefOk P w K mg base 1 "made_of" ["text", "signs"] spMadeOf) : ∀ n, AnyM P w K mg base (2 * n + 4) "fits" ["self", "value"] (clS c) (spFit has43 ff c n)
  | 0 => by
    have no : ∀ i vs H Q E, ¬ spFit has43 ff c 0 i vs H Q E := fun i vs H Q E ⟨o, f, _, _, _, _, _, _, h, _⟩ => by have := ht_pos f; omega
    intro i
    cases i with
    | b k =>
      rcases fin4 k with rfl | rfl | rfl | rfl
      · exact ⟨meth_none S.m0 (no _), S.m0.cl⟩
      · exact ⟨meth_none S.m1 (no _), S.m1.cl⟩
      · show MethOk P w K mg base _ (c.b 2) _ _ _ ∧ Cls K (c.b 2)
        rw [L.b2]; exact ⟨meth_none S.m0 (no _), S.m0.cl⟩
      · show MethOk P w K mg base _ (c.b 3) _ _ _ ∧ Cls K (c.b 3)
        rw [L.b3]; exact ⟨meth_none S.m0 (no _), S.m0.cl⟩
    | s =>
      · exact ⟨meth_none S.m4 (no _), S.m4.cl⟩
    | l =>
      · exact ⟨meth_none S.m5 (no _), S.m5.cl⟩
    | o k =>
      rcases fin3 k with rfl | rfl | rfl
      · show MethOk P w K mg base _ (c.o 0) _ _ _ ∧ Cls K (c.o 0)
        rw [L.o0]; exact ⟨meth_none S.m7 (no _), S.m7.cl⟩
      · exact ⟨meth_none S.m7 (no _), S.m7.cl⟩
      · exact ⟨meth_none S.m8 (no _), S.m8.cl⟩
    | t k =>
      rcases fin2 k with rfl | rfl
      · exact ⟨meth_none S.m9 (no _), S.m9.cl⟩
      · show MethOk P w K mg base _ (c.t 1) _ _ _ ∧ Cls K (c.t 1)
        rw [L.t1]; exact ⟨meth_none S.m9 (no _), S.m9.cl⟩
  | n + 1 => by
    have ih := all_fits (ff := ff) nb L S g_MOST_VALUES g_LONGEST_TEXT D_is_number D_made_of n
    have no : ∀ i, has43 i = false → ∀ vs H Q E, ¬ spFit has43 ff c (n + 1) i vs H Q E := fun i hi vs H Q E ⟨o, f, _, _, _, hs, _, hok, _⟩ => by
      have := hok.2.slot
      rw [hs, hi] at this
      cases this
    intro i
    cases i with
    | b k =>
      rcases fin4 k with rfl | rfl | rfl | rfl
      · obtain ⟨f, fd, G, hb, hm⟩ := S.m0.ex
        exact ⟨⟨f, fd, (ok_Nothing_fits G).mono (by omega), hb, hm⟩, S.m0.cl⟩
      · obtain ⟨f, fd, G, hb, hm⟩ := S.m1.ex
        exact ⟨⟨f, fd, (ok_Truth_fits G).mono (by omega), hb, hm⟩, S.m1.cl⟩
      · show MethOk P w K mg base _ (c.b 2) _ _ _ ∧ Cls K (c.b 2)
        rw [L.b2]; exact ⟨meth_none S.m0 (no _ rfl), S.m0.cl⟩
      · show MethOk P w K mg base _ (c.b 3) _ _ _ ∧ Cls K (c.b 3)
        rw [L.b3]; exact ⟨meth_none S.m0 (no _ rfl), S.m0.cl⟩
    | s =>
      · obtain ⟨f, fd, G, hb, hm⟩ := S.m4.ex
        exact ⟨⟨f, fd, (ok_Span_fits L.tS G D_is_number).mono (by omega), hb, hm⟩, S.m4.cl⟩
    | l =>
      · obtain ⟨f, fd, G, hb, hm⟩ := S.m5.ex
        exact ⟨⟨f, fd, (ok_Letters_fits nb g_LONGEST_TEXT L.tL G D_made_of).mono (by omega), hb, hm⟩, S.m5.cl⟩
    | o k =>
      rcases fin3 k with rfl | rfl | rfl
      · show MethOk P w K mg base _ (c.o 0) _ _ _ ∧ Cls K (c.o 0)
        rw [L.o0]; exact ⟨meth_none S.m7 (no _ rfl), S.m7.cl⟩
      · obtain ⟨f, fd, G, hb, hm⟩ := S.m7.ex
        exact ⟨⟨f, fd, (ok_Many_fits nb g_MOST_VALUES (L.tO 1) G ih).mono (by omega), hb, hm⟩, S.m7.cl⟩
      · obtain ⟨f, fd, G, hb, hm⟩ := S.m8.ex
        exact ⟨⟨f, fd, (ok_Turned_fitsD (L.tO 2) G ih).mono (by omega), hb, hm⟩, S.m8.cl⟩
    | t k =>
      rcases fin2 k with rfl | rfl
      · obtain ⟨f, fd, G, hb, hm⟩ := S.m9.ex
        exact ⟨⟨f, fd, (ok_Record_fits nb (L.tT 0) G ih).mono (by omega), hb, hm⟩, S.m9.cl⟩
      · show MethOk P w K mg base _ (c.t 1) _ _ _ ∧ Cls K (c.t 1)
        rw [L.t1]; exact ⟨meth_none S.m9 (no _ rfl), S.m9.cl⟩
structure Wts (K : PySem.W.Frag) (c : FC) : Prop where
  m0 : MethAt K (c.b 0) "written" "Nothing.written" s_Nothing_written ["self", "value"]
  m1 : MethAt K (c.b 1) "written" "Truth.written" s_Truth_written ["self", "value"]
  m4 : MethAt K c.s "written" "Span.written" s_Span_written ["self", "value"]
  m5 : MethAt K c.l "written" "Letters.written" s_Letters_written ["self", "value"]
  m7 : MethAt K (c.o 1) "written" "Many.written" s_Many_written ["self", "value"]
  m8 : MethAt K (c.o 2) "written" "Turned.written" s_Turned_written ["self", "value"]
  m9 : MethAt K (c.t 0) "written" "Record.written" s_Record_written ["self", "value"]
theorem all_written {c : FC} {ff : D → Bool} {fw : D → List Bool} (nb : NB mg) (L : Lack K c) (S : Wts K c) (M_places : MethOk P w K mg base 1 c.l "places" ["self", "text"] (spPlaces c.l)) (D_fixed_row : DefOk P w K mg base 2 "fixed_row" ["n", "most"] spFixedRow) (D_turned_row : DefOk P w K mg base 1 "turned_row" ["row"] spTurnedRow) : ∀ n, AnyM P w K mg base (2 * n + 4) "written" ["self", "value"] (clS c) (spWr has43 ff fw c n)
  | 0 => by
    have no : ∀ i vs H Q E, ¬ spWr has43 ff fw c 0 i vs H Q E := fun i vs H Q E ⟨o, f, _, _, _, _, _, _, h, _⟩ => by have := ht_pos f; omega
    intro i
    cases i with
    | b k =>
      rcases fin4 k with rfl | rfl | rfl | rfl
      · exact ⟨meth_none S.m0 (no _), S.m0.cl⟩
      · exact ⟨meth_none S.m1 (no _), S.m1.cl⟩
      · show MethOk P w K mg base _ (c.b 2) _ _ _ ∧ Cls K (c.b 2)
        rw [L.b2]; exact ⟨meth_none S.m0 (no _), S.m0.cl⟩
      · show MethOk P w K mg base _ (c.b 3) _ _ _ ∧ Cls K (c.b 3)
        rw [L.b3]; exact ⟨meth_none S.m0 (no _), S.m0.cl⟩
    | s =>
      · exact ⟨meth_none S.m4 (no _), S.m4.cl⟩
    | l =>
      · exact ⟨meth_none S.m5 (no _), S.m5.cl⟩
    | o k =>
      rcases fin3 k with rfl | rfl | rfl
      · show MethOk P w K mg base _ (c.o 0) _ _ _ ∧ Cls K (c.o 0)
        rw [L.o0]; exact ⟨meth_none S.m7 (no _), S.m7.cl⟩
      · exact ⟨meth_none S.m7 (no _), S.m7.cl⟩
      · exact ⟨meth_none S.m8 (no _), S.m8.cl⟩
    | t k =>
      rcases fin2 k with rfl | rfl
      · exact ⟨meth_none S.m9 (no _), S.m9.cl⟩
      · show MethOk P w K mg base _ (c.t 1) _ _ _ ∧ Cls K (c.t 1)
        rw [L.t1]; exact ⟨meth_none S.m9 (no _), S.m9.cl⟩
  | n + 1 => by
    have ih := all_written (ff := ff) (fw := fw) nb L S M_places D_fixed_row D_turned_row n
    have no : ∀ i, has43 i = false → ∀ vs H Q E, ¬ spWr has43 ff fw c (n + 1) i vs H Q E := fun i hi vs H Q E ⟨o, f, _, _, _, hs, _, hok, _⟩ => by
      have := hok.2.slot
      rw [hs, hi] at this
      cases this
    intro i
    cases i with
    | b k =>
      rcases fin4 k with rfl | rfl | rfl | rfl
      · obtain ⟨f, fd, G, hb, hm⟩ := S.m0.ex
        exact ⟨⟨f, fd, (ok_Nothing_written G).mono (by omega), hb, hm⟩, S.m0.cl⟩
      · obtain ⟨f, fd, G, hb, hm⟩ := S.m1.ex
        exact ⟨⟨f, fd, (ok_Truth_written G).mono (by omega), hb, hm⟩, S.m1.cl⟩
      · show MethOk P w K mg base _ (c.b 2) _ _ _ ∧ Cls K (c.b 2)
        rw [L.b2]; exact ⟨meth_none S.m0 (no _ rfl), S.m0.cl⟩
      · show MethOk P w K mg base _ (c.b 3) _ _ _ ∧ Cls K (c.b 3)
        rw [L.b3]; exact ⟨meth_none S.m0 (no _ rfl), S.m0.cl⟩
    | s =>
      · obtain ⟨f, fd, G, hb, hm⟩ := S.m4.ex
        exact ⟨⟨f, fd, (ok_Span_writtenD L.tS G D_fixed_row).mono (by omega), hb, hm⟩, S.m4.cl⟩
    | l =>
      · obtain ⟨f, fd, G, hb, hm⟩ := S.m5.ex
        exact ⟨⟨f, fd, (ok_Letters_written nb L.tL G S.m5.cl M_places D_fixed_row).mono (by omega), hb, hm⟩, S.m5.cl⟩
    | o k =>
      rcases fin3 k with rfl | rfl | rfl
      · show MethOk P w K mg base _ (c.o 0) _ _ _ ∧ Cls K (c.o 0)
        rw [L.o0]; exact ⟨meth_none S.m7 (no _ rfl), S.m7.cl⟩
      · obtain ⟨f, fd, G, hb, hm⟩ := S.m7.ex
        exact ⟨⟨f, fd, (ok_Many_written nb (L.tO 1) G ih).mono (by omega), hb, hm⟩, S.m7.cl⟩
      · obtain ⟨f, fd, G, hb, hm⟩ := S.m8.ex
        exact ⟨⟨f, fd, (ok_Turned_written (L.tO 2) G D_turned_row ih).mono (by omega), hb, hm⟩, S.m8.cl⟩
    | t k =>
      rcases fin2 k with rfl | rfl
      · obtain ⟨f, fd, G, hb, hm⟩ := S.m9.ex
        exact ⟨⟨f, fd, (ok_Record_written nb (L.tT 0) G ih).mono (by omega), hb, hm⟩, S.m9.cl⟩
      · show MethOk P w K mg base _ (c.t 1) _ _ _ ∧ Cls K (c.t 1)
        rw [L.t1]; exact ⟨meth_none S.m9 (no _ rfl), S.m9.cl⟩
structure Dts (K : PySem.W.Frag) (c : FC) : Prop where
  m0 : MethAt K (c.b 0) "draw" "Nothing.draw" s_Nothing_draw ["self", "source"]
  m1 : MethAt K (c.b 1) "draw" "Truth.draw" s_Truth_draw ["self", "source"]
  m4 : MethAt K c.s "draw" "Span.draw" s_Span_draw ["self", "source"]
  m5 : MethAt K c.l "draw" "Letters.draw" s_Letters_draw ["self", "source"]
  m7 : MethAt K (c.o 1) "draw" "Many.draw" s_Many_draw ["self", "source"]
  m8 : MethAt K (c.o 2) "draw" "Turned.draw" s_Turned_draw ["self", "source"]
  m9 : MethAt K (c.t 0) "draw" "Record.draw" s_Record_draw ["self", "source"]
theorem all_draw {c : FC} {C : Addr} {ff : D → Bool} {fw : D → List Bool} (nb : NB mg) (L : Lack K c) (S : Dts K c) (c_C : Cls K C) (g_MOST_VALUES : GlobV mg "MOST_VALUES" (.int 60)) (g_LONGEST_TEXT : GlobV mg "LONGEST_TEXT" (.int 200)) (M_draw : MethOk P w K mg base 1 C "draw" ["self"] (spDraw C)) (M_turn : MethOk P w K mg base 1 C "turn" ["self"] (spTurn C)) (M_refuse : MethOk P w K mg base 1 C "refuse" ["self"] spNo) (D_draw_fixed : DefOk P w K mg base 2 "draw_fixed" ["source", "most"] (spDrawFixed C)) : ∀ n, AnyM P w K mg base (2 * n + 4) "draw" ["self", "source"] (clS c) (spDr has43 ff fw c C n)
  | 0 => by
    have no : ∀ i vs H Q E, ¬ spDr has43 ff fw c C 0 i vs H Q E := fun i vs H Q E ⟨o, _, _, f, _, _, _, _, _, _, _, _, _, _, h, _⟩ => by have := ht_pos f; omega
    intro i
    cases i with
    | b k =>
      rcases fin4 k with rfl | rfl | rfl | rfl
      · exact ⟨meth_none S.m0 (no _), S.m0.cl⟩
      · exact ⟨meth_none S.m1 (no _), S.m1.cl⟩
      · show MethOk P w K mg base _ (c.b 2) _ _ _ ∧ Cls K (c.b 2)
        rw [L.b2]; exact ⟨meth_none S.m0 (no _), S.m0.cl⟩
      · show MethOk P w K mg base _ (c.b 3) _ _ _ ∧ Cls K (c.b 3)
        rw [L.b3]; exact ⟨meth_none S.m0 (no _), S.m0.cl⟩
    | s =>
      · exact ⟨meth_none S.m4 (no _), S.m4.cl⟩
    | l =>
      · exact ⟨meth_none S.m5 (no _), S.m5.cl⟩
    | o k =>
      rcases fin3 k with rfl | rfl | rfl
      · show MethOk P w K mg base _ (c.o 0) _ _ _ ∧ Cls K (c.o 0)
        rw [L.o0]; exact ⟨meth_none S.m7 (no _), S.m7.cl⟩
      · exact ⟨meth_none S.m7 (no _), S.m7.cl⟩
      · exact ⟨meth_none S.m8 (no _), S.m8.cl⟩
    | t k =>
      rcases fin2 k with rfl | rfl
      · exact ⟨meth_none S.m9 (no _), S.m9.cl⟩
      · show MethOk P w K mg base _ (c.t 1) _ _ _ ∧ Cls K (c.t 1)
        rw [L.t1]; exact ⟨meth_none S.m9 (no _), S.m9.cl⟩
  | n + 1 => by
    have ih := all_draw (ff := ff) (fw := fw) nb L S c_C g_MOST_VALUES g_LONGEST_TEXT M_draw M_turn M_refuse D_draw_fixed n
    have no : ∀ i, has43 i = false → ∀ vs H Q E, ¬ spDr has43 ff fw c C (n + 1) i vs H Q E := fun i hi vs H Q E ⟨o, _, _, f, _, _, _, _, _, _, _, hs, _, hok, _⟩ => by
      have := hok.2.slot
      rw [hs, hi] at this
      cases this
    intro i
    cases i with
    | b k =>
      rcases fin4 k with rfl | rfl | rfl | rfl
      · obtain ⟨f, fd, G, hb, hm⟩ := S.m0.ex
        exact ⟨⟨f, fd, (dr_Nothing G).mono (by omega), hb, hm⟩, S.m0.cl⟩
      · obtain ⟨f, fd, G, hb, hm⟩ := S.m1.ex
        exact ⟨⟨f, fd, (dr_Truth c_C G M_draw).mono (by omega), hb, hm⟩, S.m1.cl⟩
      · show MethOk P w K mg base _ (c.b 2) _ _ _ ∧ Cls K (c.b 2)
        rw [L.b2]; exact ⟨meth_none S.m0 (no _ rfl), S.m0.cl⟩
      · show MethOk P w K mg base _ (c.b 3) _ _ _ ∧ Cls K (c.b 3)
        rw [L.b3]; exact ⟨meth_none S.m0 (no _ rfl), S.m0.cl⟩
    | s =>
      · obtain ⟨f, fd, G, hb, hm⟩ := S.m4.ex
        exact ⟨⟨f, fd, (dr_Span L.tS G D_draw_fixed).mono (by omega), hb, hm⟩, S.m4.cl⟩
    | l =>
      · obtain ⟨f, fd, G, hb, hm⟩ := S.m5.ex
        exact ⟨⟨f, fd, (dr_Letters nb g_LONGEST_TEXT c_C L.tL G M_draw M_refuse D_draw_fixed).mono (by omega), hb, hm⟩, S.m5.cl⟩
    | o k =>
      rcases fin3 k with rfl | rfl | rfl
      · show MethOk P w K mg base _ (c.o 0) _ _ _ ∧ Cls K (c.o 0)
        rw [L.o0]; exact ⟨meth_none S.m7 (no _ rfl), S.m7.cl⟩
      · obtain ⟨f, fd, G, hb, hm⟩ := S.m7.ex
        exact ⟨⟨f, fd, (dr_Many nb g_MOST_VALUES c_C (L.tO 1) G M_draw M_refuse ih).mono (by omega), hb, hm⟩, S.m7.cl⟩
      · obtain ⟨f, fd, G, hb, hm⟩ := S.m8.ex
        exact ⟨⟨f, fd, (dr_Turned c_C (L.tO 2) G M_turn ih).mono (by omega), hb, hm⟩, S.m8.cl⟩
    | t k =>
      rcases fin2 k with rfl | rfl
      · obtain ⟨f, fd, G, hb, hm⟩ := S.m9.ex
        exact ⟨⟨f, fd, (dr_Record nb (L.tT 0) G ih).mono (by omega), hb, hm⟩, S.m9.cl⟩
      · show MethOk P w K mg base _ (c.t 1) _ _ _ ∧ Cls K (c.t 1)
        rw [L.t1]; exact ⟨meth_none S.m9 (no _ rfl), S.m9.cl⟩

theorem log_small {n : Nat} (h : n ≤ 100000) : ((n : Nat) : Int).natAbs.log2 < 1920 := by
  rw [Int.natAbs_natCast]
  by_cases z : n = 0
  · subst z; decide
  · exact (Nat.log2_lt z).mpr (Nat.lt_of_le_of_lt h (by decide +kernel))
def spRefuse (C CW : Addr) : Sp := fun vs H _ E => ∃ (p dx : Addr) (l : List Bool) (i : Nat) (t e : Bool), vs = [.ref p] ∧ H p = some (srcO C dx l (i + 1) t e) ∧ i ≤ 100000 ∧ ∀ d, H d = none → E (.ref CW) (some d) (upd H d (xdP ((i : Nat) : Int)))
theorem bad_refuse {f fS C C_Wrong : Addr} {fd fdS : FuncData} (T : SrcCls K C) (XM_Wrong : XMk K mg "Wrong" C_Wrong fS) (XF_Wrong : FnOk P w K mg base CX0 1 fS fdS ["self", "place"] (spXInit C_Wrong)) (XB_Wrong : Binds K fdS ["self", "place"] []) (F : Fun K "refuse" "Source.refuse" s_Source_refuse f fd) : FnOk P w K mg base (CXe P w) 3 f fd ["self"] (spRefuse C C_Wrong) := by
  refine F.okE sc_Source_refuse (fun vs H Q E h => ?_) (fun cdv A outer s H vs Q E hr h => ?_)
  · obtain ⟨p, dx, l, i, t, e0, rfl, _⟩ := h; rfl
  obtain ⟨p, dx, l, i, t, e0, rfl, hp, hl, q⟩ := h
  refine ⟨_, (pss_one (ps_raiseI throws_fn XM_Wrong XF_Wrong XB_Wrong hr (pa_cons (pe_op oSub (pe_fld (pv 0) rfl) pe_int) pa_nil))), ?_⟩
  have e : ((i + 1 : Nat) : Int) - 1 = ((i : Nat) : Int) := by omega
  refine ⟨_, rfl, p, C, dx, _, _, rfl, hp, T.cl, T.nP, look_place .., _, _, rfl, rfl, ((i : Nat) : Int), (by rw [← e]), log_small hl, fun d hd => ⟨_, .new hd (same_new hd) upd_same trivial, q d hd⟩⟩
inductive Bad (ff : D → Bool) (fw : D → List Bool) : Fm → List Bool → Nat → Prop
  | many (g : Fm) (ds : List D) (r : List Bool) : ds.length = 60 → (∀ d, d ∈ ds → fitB ff g d = true) → Bad ff fw (.one 1 g) ((ds.map fun d => true :: rowB fw g d).flatten ++ true :: r) ((ds.map fun d => true :: rowB fw g d).flatten).length
  | lets (sg w : Str) (r : List Bool) : w.length = 200 → madeOf w sg = true → Bad ff fw (.le sg) ((w.cps.toList.map fun c => true :: bitsW (sg.cps.toList.idxOf c) (blen (sg.length - 1))).flatten ++ true :: r) ((w.cps.toList.map fun c => true :: bitsW (sg.cps.toList.idxOf c) (blen (sg.length - 1))).flatten).length
  | turned (g : Fm) (r : List Bool) (k : Nat) : Bad ff fw g r k → Bad ff fw (.one 2 g) (r.map (!·)) k
  | part (ns : List Str) (fs : List Fm) (ds : List D) (r : List Bool) (k : Nat) : ds.length < fs.length → (∀ i, i < ds.length → fitB ff (fs.getD i (.bare 0)) (ds.getD i .non) = true) → Bad ff fw (fs.getD ds.length (.bare 0)) r k → Bad ff fw (.two 0 ns fs) (((List.range ds.length).map fun i => rowB fw (fs.getD i (.bare 0)) (ds.getD i .non)).flatten ++ r) (((List.range ds.length).map fun i => rowB fw (fs.getD i (.bare 0)) (ds.getD i .non)).flatten.length + k)
def spDrBad (has : Sl → Bool) (ff : D → Bool) (fw : D → List Bool) (c : FC) (C CW : Addr) (n : Nat) (i : Sl) : Sp := fun vs H _ E => ∃ (o p dx : Addr) (f : Fm) (r l : List Bool) (j k : Nat) (t e : Bool), vs = [.ref o, .ref p] ∧ slot f = i ∧ FAt c [p] H f o ∧ okH has f ∧ ht f ≤ n ∧ H p = some (srcO C dx l j t e) ∧ l.length ≤ 100000 ∧ j ≤ l.length ∧ Bad ff fw f r k ∧ r <+: sees l t j ∧
  ∀ t' d H', Mv p H H' → H' p = some (srcO C dx l (j + k + 1) t' e) → H' d = none → E (.ref CW) (some d) (upd H' d (xdP ((j + k : Nat) : Int)))
theorem in_p {H : Hp} {p : Addr} {o : HO} (h : H p = some o) : ∀ x, x ∈ [p] → ∃ o, H x = some o := fun x hx => ⟨o, by rw [List.mem_singleton.mp hx]; exact h⟩
theorem Ext.xdp {H : Hp} {d : Addr} {i : Int} (h : H d = none) : Ext H (upd H d (xdP i)) := ⟨same_new h, fun cl => closed_new cl h trivial⟩
theorem bad_Many {f C CW : Addr} {c : FC} {fd : FuncData} {n : Nat} {has : Sl → Bool} {ff : D → Bool} {fw : D → List Bool} (nb : NB mg) (g_MOST_VALUES : GlobV mg "MOST_VALUES" (.int 60)) (c_C : Cls K C) (T : OneCls K (c.o 1)) (F : Fun K "draw" "Many.draw" s_Many_draw f fd) (M_draw : MethOk P w K mg base 1 C "draw" ["self"] (spDraw C)) (M_refuse : MethOk P w K mg base 1 C "refuse" ["self"] spNo) (MB_refuse : MethOkE P w K mg base 3 C "refuse" ["self"] (spRefuse C CW)) (AM_draw : AnyM P w K mg base (2 * n + 4) "draw" ["self", "source"] (clS c) (spDr has ff fw c C n)) : FnOk P w K mg base (CXe P w) (2 * n + 4 + 1) f fd ["self", "source"] (spDrBad has ff fw c C CW (n + 1) (.o 1)) := by
  refine F.okE sc_Many_draw (fun vs H Q E h => ?_) (fun cdv A outer s H vs Q E hr h => ?_)
  · obtain ⟨_, _, _, _, _, _, _, _, _, _, rfl, _⟩ := h; rfl
  obtain ⟨o, p, dx, fm, r, l, j, k, t, e, rfl, hs, hF, hok, hht, hS, hl, hj, hB, hr', q⟩ := h
  obtain ⟨g, rfl⟩ := slot_one hs
  obtain ⟨nop, dxo, i, ho, hI⟩ := hF
  have hok2 := hok.one
  have hht2 : ht g ≤ n := by rw [ht] at hht; omega
  cases hB with
  | many _ ds r h60 hall =>
    have op : o ≠ p := fun z => nop (List.mem_singleton.mpr z)
    refine ⟨_, (pss_cons (ps_set (i := 2) sc_Many_draw.nd rfl (by first | exact Or.inl rfl | exact Or.inr rfl) (pe_lst pa_nil))
    (pss_cons (ps_while PassesOwn.leaving (pt_cmpR oEq (pe_methD0 M_draw c_C hr (pv 1) (hk := by omega)) pe_int (nomark _))
      (pss_cons (ps_if (pt_cmpR oEq (pe_callB call_len rfl nb.len_ bo_len (pa_cons (pv 2) pa_nil)) (pe_globV g_MOST_VALUES) (nomark _)) (pss_one (ps_expr (pe_methE20 M_refuse MB_refuse c_C hr passes_fn.x (pv 1) (hk := by omega) (hk' := by omega)))) pss_nil)
      (pss_one (ps_expr (pe_bm PySem.F.plainAttrs_list PySem.F.slot_list_append PySem.F.type_list_append mt_append (pv 2) (pa_cons (pe_methAny AM_draw hr (pe_fld (pv 0) rfl) (pa_cons (pv 1) pa_nil) (hk := by omega)) pa_nil))))))
    (pss_one (ps_ret (pv 2))))), ?_⟩
    refine ⟨Nat.zero_le _, fun lv hlv => ?_⟩
    have lp : p ≠ lv := fun z => by rw [← z, hS] at hlv; cases hlv
    have M0 : Mv p H (upd H lv (.lst [])) := ⟨fun b u _ e => same_new hlv b u e, fun cl => closed_new cl hlv trivial⟩
    refine ⟨fun m σ H2 => ∃ (k : Nat) (vs : List V), k ≤ ds.length ∧ vs.length = k ∧ m = ds.length - k ∧ σ = [some (.ref o), some (.ref p), some (.ref lv)] ∧ Mv p H H2 ∧ H2 lv = some (.lst vs) ∧ H2 p = some (srcO C dx l (j + (((ds.take k).map fun d => true :: rowB fw g d).flatten).length) t e), ⟨ds.length, 0, [], Nat.zero_le _, rfl, rfl, rfl, M0, upd_same, same_new hlv _ _ hS⟩, ?_⟩
    rintro m σ H2 ⟨k, vs, hk, hvl, rfl, rfl, M2, hl2, hS2⟩
    have hsee := hr'
    rw [flat_split ds k, List.append_assoc] at hsee
    have hj2 := sees_len (sees_pre hsee) hj
    have hsee := sees_on hsee
    generalize hjj : j + (((ds.take k).map fun d => true :: rowB fw g d).flatten).length = jj at hS2 hsee hj2
    refine ⟨_, rfl, p, dx, _, rfl, hS2, look_meth _ _ _ _ (by decide +kernel) (by decide +kernel) (by decide +kernel), ?_⟩
    have M3 := Mv.step (j' := jj + 1) (t' := t) (e' := e) hS2
    have hl3 := M3.k _ _ (Ne.symm lp) hl2
    have M23 := M2.trans M3
    rcases Nat.lt_or_ge k ds.length with z | z
    · have ed : ds.drop k = ds[k] :: ds.drop (k + 1) := List.drop_eq_getElem_cons z
      rw [ed, List.map_cons, List.flatten_cons, List.cons_append, List.cons_append] at hsee
      obtain ⟨b', hb1, hb2⟩ := sees_get hsee
      refine ⟨p, dx, l, jj, t, e, b', rfl, ⟨_, hS2⟩, hl, hb1, ?_⟩
      rw [hb2]
      refine ⟨rfl, _, rfl, iteT ⟨_, fun _ _ h => h, ?_⟩⟩
      have hS3 : upd H2 p (srcO C dx l (jj + 1) t e) p = _ := upd_same
      generalize upd H2 p (srcO C dx l (jj + 1) t e) = H3 at M3 hl3 M23 hS3 ⊢
      refine ⟨_, rfl, _, _, rfl, .inl ⟨_, SqL.of hl3, rfl⟩, rfl, _, rfl, iteN (by intro z; have := V.int.inj z; omega) ?_⟩
      have hI3 := FAt.mv M23 g hI
      obtain ⟨dxi, fsi, ei, li⟩ := FAt.draw g hI3
      have hseed : (rowB fw g ds[k] ++ (((ds.drop (k + 1)).map fun d => true :: rowB fw g d).flatten ++ true :: r)) <+: sees l t (jj + 1) := by
        rw [← List.append_assoc]
        exact sees_on (r := [true]) hsee
      have hjl := sees_len (sees_pre (r := [true]) hsee) hj2
      rw [List.length_singleton] at hjl
      refine ⟨_, rfl, .inl ⟨rfl, _, SqL.of hl3⟩, ?_⟩
      refine ⟨_, rfl, o, c.o 1, dxo, _, _, rfl, M23.k _ _ op ho, T.cl, T.nI, look1 .., i, slot g, dxi, fsi, rfl, ei, li, ?_⟩
      refine ⟨_, rfl, i, p, dx, g, ds[k], l, jj + 1, t, e, [p], rfl, rfl, hI3, hok2, hht2, hS3, hl, hjl, List.mem_singleton.mpr rfl, in_p hS3, hall _ (List.getElem_mem z), sees_pre hseed, fun v H4 M4 hd4 hS4 => ?_⟩
      have hl4 := M4.k _ _ (Ne.symm lp) hl3
      refine ⟨lv, _, _, rfl, rfl, hl4, Nat.lt_of_lt_of_le (show vs.length < 100000 by omega) (by decide), ?_⟩
      refine ⟨ds.length - (k + 1), by omega, k + 1, vs ++ [v], by omega, by rw [List.length_append, hvl]; rfl, rfl, rfl, Mv.setL hlv (M23.trans M4) hl4, upd_same, ?_⟩
      rw [upd_ne lp, hS4]
      have e9 : jj + 1 + (rowB fw g ds[k]).length = j + (((ds.take (k + 1)).map fun d => true :: rowB fw g d).flatten).length := by
        rw [← List.take_append_getElem z, List.map_append, List.flatten_append, List.length_append]
        simp only [List.map_cons, List.map_nil, List.flatten_cons, List.flatten_nil, List.append_nil, List.length_cons]
        omega
      rw [e9]
    · have hke : k = ds.length := by omega
      subst hke
      rw [List.drop_length, List.map_nil, List.flatten_nil, List.nil_append] at hsee
      rw [List.take_length] at hjj
      obtain ⟨b', hb1, hb2⟩ := sees_get hsee
      refine ⟨p, dx, l, jj, t, e, b', rfl, ⟨_, hS2⟩, hl, hb1, ?_⟩
      rw [hb2]
      refine ⟨rfl, _, rfl, iteT ⟨_, fun _ _ h => h, ?_⟩⟩
      refine ⟨_, rfl, _, _, rfl, .inl ⟨_, SqL.of hl3, rfl⟩, rfl, _, rfl, iteY (by rw [hvl, h60]; rfl) ?_⟩
      refine ⟨_, rfl, p, dx, _, rfl, upd_same, look_meth _ _ _ _ (by decide +kernel) (by decide +kernel) (by decide +kernel), .inr ⟨p, dx, l, jj, t, e, rfl, upd_same, by omega, fun d hd => ?_⟩⟩
      have pd : p ≠ d := fun z => by rw [← z, upd_same] at hd; cases hd
      have MX := M23.ext (Ext.xdp (i := ((jj : Nat) : Int)) hd)
      rw [hjj] at q
      exact ⟨_, MX.sub (by rw [upd_ne pd]; exact upd_same), q t d _ M23 upd_same hd⟩
theorem bad_Turned {f C CW : Addr} {c : FC} {fd : FuncData} {n : Nat} {has : Sl → Bool} {ff : D → Bool} {fw : D → List Bool} (c_C : Cls K C) (T : OneCls K (c.o 2)) (F : Fun K "draw" "Turned.draw" s_Turned_draw f fd) (M_turn : MethOk P w K mg base 1 C "turn" ["self"] (spTurn C)) (AM_draw : AnyM P w K mg base (2 * n + 4) "draw" ["self", "source"] (clS c) (spDr has ff fw c C n)) (AMB_draw : AnyME P w K mg base (2 * n + 4) "draw" ["self", "source"] (clS c) (spDrBad has ff fw c C CW n)) : FnOk P w K mg base (CXe P w) (2 * n + 4 + 1) f fd ["self", "source"] (spDrBad has ff fw c C CW (n + 1) (.o 2)) := by
  refine F.okE sc_Turned_draw (fun vs H Q E h => ?_) (fun cdv A outer s H vs Q E hr h => ?_)
  · obtain ⟨_, _, _, _, _, _, _, _, _, _, rfl, _⟩ := h; rfl
  obtain ⟨o, p, dx, fm, r, l, j, k, t, e, rfl, hs, hF, hok, hht, hS, hl, hj, hB, hr', q⟩ := h
  obtain ⟨g, rfl⟩ := slot_one hs
  obtain ⟨nop, dxo, i, ho, hI⟩ := hF
  have hok2 := hok.one
  have hht2 : ht g ≤ n := by rw [ht] at hht; omega
  cases hB with
  | turned _ r _ hB =>
    have op : o ≠ p := fun z => nop (List.mem_singleton.mpr z)
    have M1 := Mv.step (j' := j) (t' := !t) (e' := e) hS
    have hI1 := FAt.mv M1 g hI
    obtain ⟨dxi, fsi, ei, li⟩ := FAt.draw g hI1
    refine ⟨_, (pss_cons (ps_expr (pe_methD0 M_turn c_C hr (pv 1) (hk := by omega)))
    (pss_cons (ps_set (i := 2) sc_Turned_draw.nd rfl (by first | exact Or.inl rfl | exact Or.inr rfl) (pe_methAnyE2 AM_draw AMB_draw hr passes_fn.x (pe_fld (pv 0) rfl) (pa_cons (pv 1) pa_nil) (hk := by omega) (hk' := by omega)))
    (pss_cons (ps_expr (pe_methD0 M_turn c_C hr (pv 1) (hk := by omega)))
    (pss_one (ps_ret (pv 2)))))), ?_⟩
    refine ⟨_, rfl, p, dx, _, rfl, hS, look_meth _ _ _ _ (by decide +kernel) (by decide +kernel) (by decide +kernel), p, dx, l, j, t, e, 0, rfl, hS, ?_⟩
    refine ⟨_, rfl, o, c.o 2, dxo, _, _, rfl, M1.k _ _ op ho, T.cl, T.nI, look1 .., i, slot g, dxi, fsi, rfl, ei, li, ?_⟩
    refine ⟨_, rfl, .inr ⟨i, p, dx, g, r, l, j, k, !t, e, rfl, rfl, hI1, hok2, hht2, upd_same, hl, hj, hB, sees_turn hr', fun t' d H' M' hS' hd' => ?_⟩⟩
    have pd : p ≠ d := fun z => by rw [← z, hS'] at hd'; cases hd'
    have M := M1.trans M'
    exact ⟨_, (M.ext (Ext.xdp hd')).sub (by rw [upd_ne pd]; exact hS'), q t' d _ M hS' hd'⟩
theorem bad_Record {f C CW : Addr} {c : FC} {fd : FuncData} {n : Nat} {has : Sl → Bool} {ff : D → Bool} {fw : D → List Bool} (nb : NB mg) (T : TwoCls K (c.t 0)) (F : Fun K "draw" "Record.draw" s_Record_draw f fd) (AM_draw : AnyM P w K mg base (2 * n + 4) "draw" ["self", "source"] (clS c) (spDr has ff fw c C n)) (AMB_draw : AnyME P w K mg base (2 * n + 4) "draw" ["self", "source"] (clS c) (spDrBad has ff fw c C CW n)) : FnOk P w K mg base (CXe P w) (2 * n + 4 + 1) f fd ["self", "source"] (spDrBad has ff fw c C CW (n + 1) (.t 0)) := by
  refine F.okE sc_Record_draw (fun vs H Q E h => ?_) (fun cdv A outer s H vs Q E hr h => ?_)
  · obtain ⟨_, _, _, _, _, _, _, _, _, _, rfl, _⟩ := h; rfl
  obtain ⟨o, p, dx, fm, r, l, j, k, t, e, rfl, hs, hF, hok, hht, hS, hl, hj, hB, hr', q⟩ := h
  obtain ⟨ns, fs, rfl⟩ := slot_two hs
  obtain ⟨nop, dxo, a1, a2, os, ho, n1, n2, h1, h2, hFs⟩ := hF
  obtain ⟨hgn, hnl, hok2⟩ := hok.two
  have hht2 : hts fs ≤ n := by rw [ht] at hht; omega
  have hol := FsAt.len fs hFs
  have hn20 := (goodNames_mem hgn).1
  cases hB with
  | part _ _ ds r k hdl hall hB =>
    have a2p : a2 ≠ p := fun z => n2 (List.mem_singleton.mpr z)
    have eD : ∀ {i : Nat} {x : D}, ds[i]? = some x → ds.getD i .non = x := fun h => by rw [List.getD_eq_getElem?_getD, h]; rfl
    have eF : ∀ {i : Nat} {x : Fm}, fs[i]? = some x → fs.getD i (.bare 0) = x := fun h => by rw [List.getD_eq_getElem?_getD, h]; rfl
    obtain ⟨pl, hpl⟩ : ∃ pl : Nat → Nat, pl = fun i => j + (((List.range i).map fun i => rowB fw (fs.getD i (.bare 0)) (ds.getD i .non)).flatten).length := ⟨_, rfl⟩
    have pls : ∀ i, pl (i + 1) = pl i + (rowB fw (fs.getD i (.bare 0)) (ds.getD i .non)).length := fun i => by
      rw [hpl]
      show j + _ = j + _ + _
      rw [List.range_succ, List.map_append, List.flatten_append, List.length_append]
      simp only [List.map_cons, List.map_nil, List.flatten_cons, List.flatten_nil, List.append_nil]
      omega
    have see : ∀ i, i < ds.length → rowB fw (fs.getD i (.bare 0)) (ds.getD i .non) <+: sees l t (pl i) ∧ pl i ≤ l.length := fun i hi => by
      have h := hr'
      rw [flat_split (List.range ds.length) i] at h
      have et : (List.range ds.length).take i = List.range i := by rw [List.take_range, Nat.min_eq_left (by omega)]
      have ed : (List.range ds.length).drop i = i :: (List.range ds.length).drop (i + 1) := by
        rw [List.drop_eq_getElem_cons (by rw [List.length_range]; exact hi), List.getElem_range]
      rw [et, ed, List.map_cons, List.flatten_cons, List.append_assoc, List.append_assoc] at h
      have h2 := sees_len (sees_pre h) hj
      have h3 := sees_pre (sees_on h)
      rw [hpl]
      exact ⟨h3, h2⟩
    have seeB : r <+: sees l t (pl ds.length) ∧ pl ds.length ≤ l.length := by
      rw [hpl]
      exact ⟨sees_on hr', sees_len (sees_pre hr') hj⟩
    refine ⟨_, (pss_one (ps_ret (pe_callTy call_tuple_of rfl nb.tuple_ bo_tuple (pa_cons (pe_compE ["form"] [(1, "source")] rfl rfl (by decide +kernel) ⟨rfl, .inl rfl, trivial⟩ (piAll (pe_fld (pv 0) rfl)) (fun _ _ _ _ _ => (pg_name (i := 0) (show (["form", "source"] : List Str).Nodup by decide +kernel) rfl (by first | exact Or.inl rfl | exact Or.inr rfl))) (fun _ _ _ _ _ => pts_nil) (fun _ _ _ _ _ => (pe_methAnyE2 AM_draw AMB_draw hr passes_comp (pv 0) (pa_cons (pv 1) pa_nil) (hk := by omega) (hk' := by omega)))) pa_nil)))), ?_⟩
    refine .inl ⟨_, rfl, o, c.t 0, dxo, _, _, rfl, ho, T.cl, T.nF, look2 _ _ _ _ formsnames, a2, rfl, ⟨_, SqL.of h2⟩, fun D1 hD1 => ?_⟩
    have pD : p ≠ D1 := fun z => by rw [← z, hS] at hD1; cases hD1
    refine comp_listM (K := K) (a := a2) (xs := os.map V.ref) (fun i ys H2 => i ≤ ds.length ∧ Mv p H H2 ∧ H2 p = some (srcO C dx l (pl i) t e)) (fun σ => ∃ z, σ = [z, some (.ref p)]) (by rw [List.length_map]; omega) ⟨_, rfl⟩ ?_ ?_ ?_ ?_
    · rintro i ys H2 ⟨_, m, _⟩
      exact SqL.of (m.k _ _ a2p h2)
    · exact ⟨Nat.zero_le _, ⟨fun b u _ e => same_new hD1 b u e, fun cl => closed_new cl hD1 trivial⟩, by rw [upd_ne pD, hS, hpl]; rfl⟩
    · rintro i x hx ys σ1 H1 ⟨z, rfl⟩ ⟨hid, m1, hS1⟩ hDy hyl R hR
      rw [List.getElem?_map] at hx
      obtain ⟨oi, hoi, rfl⟩ := Option.map_eq_some_iff.mp hx
      obtain ⟨gi, hgi, hGi⟩ := FsAt.get fs hFs hoi
      obtain ⟨hok3, hht3⟩ := hok2.get hgi
      have hG1 := FAt.mv m1 gi hGi
      obtain ⟨dxi, fsi, ei, li⟩ := FAt.draw gi hG1
      refine ⟨_, rfl, oi, slot gi, dxi, fsi, rfl, ei, li, _, rfl, ?_⟩
      rcases Nat.lt_or_ge i ds.length with y | y
      · have hdi : ds[i]? = some ds[i] := List.getElem?_eq_getElem y
        obtain ⟨hse, hpll⟩ := see i y
        have hfi := hall i y
        have hps := pls i
        rw [eF hgi, eD hdi] at hse hfi hps
        refine .inl ⟨oi, p, dx, gi, ds[i], l, pl i, t, e, [p], rfl, rfl, hG1, hok3, by omega, hS1, hl, hpll, List.mem_singleton.mpr rfl, in_p hS1, hfi, hse, fun v H4 M4 hd4 hS4 => ?_⟩
        have hD4 := M4.k _ _ (Ne.symm pD) hDy
        refine hR _ _ _ ⟨_, rfl⟩ hD4 ⟨y, Mv.setL hD1 (m1.trans M4) hD4, ?_⟩
        rw [upd_ne pD, hS4, hps]
      · have hie : i = ds.length := by omega
        subst hie
        rw [eF hgi] at hB
        refine .inr ⟨oi, p, dx, gi, r, l, pl ds.length, k, t, e, rfl, rfl, hG1, hok3, by omega, hS1, hl, seeB.2, hB, seeB.1, fun t' d H' M' hS' hd' => ?_⟩
        have pd : p ≠ d := fun z => by rw [← z, hS'] at hd'; cases hd'
        have epl : j + (((List.range ds.length).map fun i => rowB fw (fs.getD i (.bare 0)) (ds.getD i .non)).flatten.length + k) = pl ds.length + k := by rw [hpl, Nat.add_assoc]
        rw [epl] at q
        have M := m1.trans M'
        exact ⟨_, (M.ext (Ext.xdp hd')).sub (by rw [upd_ne pd]; exact hS'), q t' d _ M hS' hd'⟩
    · rintro ys H2 hyl hDy ⟨hid, m2, hS2⟩
      rw [List.length_map] at hid
      omega
theorem bad_Letters {f C CW : Addr} {c : FC} {fd : FuncData} {n : Nat} {has : Sl → Bool} {ff : D → Bool} {fw : D → List Bool} (nb : NB mg) (g_LONGEST_TEXT : GlobV mg "LONGEST_TEXT" (.int 200)) (c_C : Cls K C) (T : LetCls K c.l) (F : Fun K "draw" "Letters.draw" s_Letters_draw f fd) (M_draw : MethOk P w K mg base 1 C "draw" ["self"] (spDraw C)) (M_refuse : MethOk P w K mg base 1 C "refuse" ["self"] spNo) (MB_refuse : MethOkE P w K mg base 3 C "refuse" ["self"] (spRefuse C CW)) (D_draw_fixed : DefOk P w K mg base 2 "draw_fixed" ["source", "most"] (spDrawFixed C)) : FnOk P w K mg base (CXe P w) 4 f fd ["self", "source"] (spDrBad has ff fw c C CW n .l) := by
  refine F.okE sc_Letters_draw (fun vs H Q E h => ?_) (fun cdv A outer s H vs Q E hr h => ?_)
  · obtain ⟨_, _, _, _, _, _, _, _, _, _, rfl, _⟩ := h; rfl
  obtain ⟨o, p, dx, fm, r, l, j, k, t, e, rfl, hs, hF, hok, hht, hS, hl, hj, hB, hr', q⟩ := h
  obtain ⟨sg, rfl⟩ := slot_le hs
  obtain ⟨nop, dxo, ho⟩ := hF
  cases hB with
  | lets _ w r h200 hm =>
    have hsg : goodText sg = true ∧ sg.length ≤ 60 := by have := hok.1; rw [okF] at this; exact this
    obtain ⟨cs, hcs⟩ : ∃ cs, cs = w.cps.toList := ⟨_, rfl⟩
    have hcl : cs.length = w.length := by rw [hcs]; exact Array.length_toList
    rw [← hcs] at hr' q
    have hmem : ∀ ch, ch ∈ cs → ch ∈ sg.cps.toList := fun ch h => of_decide_eq_true (List.all_eq_true.mp hm ch (by rw [← hcs]; exact h))
    have op : o ≠ p := fun z => nop (List.mem_singleton.mpr z)
    refine ⟨_, (pss_cons (ps_set (i := 2) sc_Letters_draw.nd rfl (by first | exact Or.inl rfl | exact Or.inr rfl) pe_str)
    (pss_cons (ps_while PassesOwn.leaving (pt_cmpR oEq (pe_methD0 M_draw c_C hr (pv 1)) pe_int (nomark _))
      (pss_cons (ps_if (pt_cmpR oEq (pe_callB call_len rfl nb.len_ bo_len (pa_cons (pv 2) pa_nil)) (pe_globV g_LONGEST_TEXT) (nomark _)) (pss_one (ps_expr (pe_methE20 M_refuse MB_refuse c_C hr passes_fn.x (pv 1)))) pss_nil)
      (pss_one (ps_set (i := 2) sc_Letters_draw.nd rfl (by first | exact Or.inl rfl | exact Or.inr rfl) (pe_op oAdd (pv 2) (pe_ix iAll (pe_fld (pv 0) rfl) (pe_callD D_draw_fixed hr (pa_cons (pv 1) (pa_cons (pe_op oSub (pe_callB call_len rfl nb.len_ bo_len (pa_cons (pe_fld (pv 0) rfl) pa_nil)) pe_int) pa_nil))) (fun _ _ => rfl)))))))
    (pss_one (ps_ret (pv 2))))), ?_⟩
    refine ⟨fun m σ H2 => ∃ k : Nat, k ≤ cs.length ∧ m = cs.length - k ∧ σ = [some (.ref o), some (.ref p), some (.str ⟨(cs.take k).toArray⟩)] ∧ Mv p H H2 ∧ H2 p = some (srcO C dx l (j + (((cs.take k).map fun c => true :: bitsW (sg.cps.toList.idxOf c) (blen (sg.length - 1))).flatten).length) t e), ⟨cs.length, 0, Nat.zero_le _, rfl, by rw [List.take_zero]; rfl, Mv.refl _ _, hS⟩, ?_⟩
    rintro m σ H2 ⟨k, hk, rfl, rfl, M2, hS2⟩
    have hsee := hr'
    rw [flat_split cs k, List.append_assoc] at hsee
    have hj2 := sees_len (sees_pre hsee) hj
    have hsee := sees_on hsee
    generalize hjj : j + (((cs.take k).map fun c => true :: bitsW (sg.cps.toList.idxOf c) (blen (sg.length - 1))).flatten).length = jj at hS2 hsee hj2
    refine ⟨_, rfl, p, dx, _, rfl, hS2, look_meth _ _ _ _ (by decide +kernel) (by decide +kernel) (by decide +kernel), ?_⟩
    have M3 := Mv.step (j' := jj + 1) (t' := t) (e' := e) hS2
    rcases Nat.lt_or_ge k cs.length with z | z
    · have ed : cs.drop k = cs[k] :: cs.drop (k + 1) := List.drop_eq_getElem_cons z
      rw [ed, List.map_cons, List.flatten_cons, List.cons_append, List.cons_append] at hsee
      obtain ⟨b', hb1, hb2⟩ := sees_get hsee
      refine ⟨p, dx, l, jj, t, e, b', rfl, ⟨_, hS2⟩, hl, hb1, ?_⟩
      rw [hb2]
      refine ⟨rfl, _, rfl, iteT ⟨_, fun _ _ h => h, ?_⟩⟩
      have M23 := M2.trans M3
      have hS3 : upd H2 p (srcO C dx l (jj + 1) t e) p = _ := upd_same
      generalize upd H2 p (srcO C dx l (jj + 1) t e) = H3 at M3 M23 hS3 ⊢
      have htk : (⟨(cs.take k).toArray⟩ : Str).length = k := by show (cs.take k).toArray.size = k; rw [List.size_toArray, List.length_take]; omega
      have hseed : (bitsW (sg.cps.toList.idxOf cs[k]) (blen (sg.length - 1)) ++ (((cs.drop (k + 1)).map fun c => true :: bitsW (sg.cps.toList.idxOf c) (blen (sg.length - 1))).flatten ++ true :: r)) <+: sees l t (jj + 1) := by
        rw [← List.append_assoc]
        exact sees_on (r := [true]) hsee
      have hjl := sees_len (sees_pre (r := [true]) hsee) hj2
      rw [List.length_singleton] at hjl
      have hbit := sees_pre hseed
      have hln := sees_len hbit hjl
      have hts := sees_take hbit
      rw [bitsW_length] at hln hts
      have hlt : sg.cps.toList.idxOf cs[k] < sg.length := by
        have := List.idxOf_lt_length_iff.mpr (hmem _ (List.getElem_mem z))
        rwa [Array.length_toList] at this
      have M4 := Mv.step (j' := jj + 1 + blen (sg.length - 1)) (t' := t) (e' := e) hS3
      have e2 : (sg.length : Int) - 1 = ((sg.length - 1 : Nat) : Int) := by omega
      have ho3 := M23.k _ _ op ho
      have hat : atI sg.cps.toList ((sg.cps.toList.idxOf cs[k] : Nat) : Int) = some cs[k] := by
        refine atI_nat ?_
        rw [List.getElem?_eq_getElem (by rw [Array.length_toList]; exact hlt), List.getElem_idxOf]
      refine ⟨_, rfl, _, _, rfl, ⟨small5 (by omega), rfl⟩, rfl, _, rfl, iteN (by intro z; have := V.int.inj z; omega) ?_⟩
      refine ⟨_, rfl, _, rfl, o, c.l, dxo, _, _, rfl, ho3, T.cl, T.nS, look1 .., ?_⟩
      refine ⟨_, rfl, _, rfl, o, c.l, dxo, _, _, rfl, ho3, T.cl, T.nS, look1 .., _, _, rfl, ⟨small5 (by omega), rfl⟩, _, _, rfl, rfl, p, dx, l, jj + 1, sg.cps.toList.idxOf cs[k], sg.length - 1, t, e, by rw [← e2]; rfl, hS3, hl, by omega, hln, hts, ?_⟩
      refine .inr ⟨_, _, cs[k], rfl, rfl, small5 (by omega), hat, .inr ⟨_, _, rfl, rfl, small5 (by rw [htk]; exact Nat.le_trans (Nat.add_le_add (show k ≤ 300 by omega) (Nat.le_refl 1)) (by decide)), ?_⟩⟩
      refine ⟨cs.length - (k + 1), by omega, k + 1, by omega, rfl, ?_, M23.trans M4, ?_⟩
      · have es : (⟨(cs.take k).toArray⟩ : Str) ++ (⟨#[cs[k]]⟩ : Str) = ⟨(cs.take (k + 1)).toArray⟩ := by
          rw [← List.take_append_getElem z]
          apply str_ext
          rw [app_cps]
        rw [es]; rfl
      · rw [upd_same]
        have e9 : jj + 1 + blen (sg.length - 1) = j + (((cs.take (k + 1)).map fun c => true :: bitsW (sg.cps.toList.idxOf c) (blen (sg.length - 1))).flatten).length := by
          rw [← List.take_append_getElem z, List.map_append, List.flatten_append, List.length_append]
          simp only [List.map_cons, List.map_nil, List.flatten_cons, List.flatten_nil, List.append_nil, List.length_cons, bitsW_length]
          omega
        rw [e9]
    · have hke : k = cs.length := by omega
      subst hke
      rw [List.drop_length, List.map_nil, List.flatten_nil, List.nil_append] at hsee
      rw [List.take_length] at hjj
      obtain ⟨b', hb1, hb2⟩ := sees_get hsee
      refine ⟨p, dx, l, jj, t, e, b', rfl, ⟨_, hS2⟩, hl, hb1, ?_⟩
      rw [hb2]
      refine ⟨rfl, _, rfl, iteT ⟨_, fun _ _ h => h, ?_⟩⟩
      have hkl : (⟨(cs.take cs.length).toArray⟩ : Str).length = 200 := by rw [List.take_length]; show cs.toArray.size = 200; rw [List.size_toArray]; omega
      refine ⟨_, rfl, _, _, rfl, ⟨small5 (by omega), rfl⟩, rfl, _, rfl, iteY (by rw [hkl]; rfl) ?_⟩
      refine ⟨_, rfl, p, dx, _, rfl, upd_same, look_meth _ _ _ _ (by decide +kernel) (by decide +kernel) (by decide +kernel), .inr ⟨p, dx, l, jj, t, e, rfl, upd_same, by omega, fun d hd => ?_⟩⟩
      have pd : p ≠ d := fun z => by rw [← z, upd_same] at hd; cases hd
      have M23 := M2.trans M3
      have MX := M23.ext (Ext.xdp (i := ((jj : Nat) : Int)) hd)
      rw [hjj] at q
      exact ⟨_, MX.sub (by rw [upd_ne pd]; exact upd_same), q t d _ M23 upd_same hd⟩

theorem all_drawbad {c : FC} {C CW : Addr} {ff : D → Bool} {fw : D → List Bool} (nb : NB mg) (L : Lack K c) (S : Dts K c) (c_C : Cls K C) (g_MOST_VALUES : GlobV mg "MOST_VALUES" (.int 60)) (g_LONGEST_TEXT : GlobV mg "LONGEST_TEXT" (.int 200)) (M_draw : MethOk P w K mg base 1 C "draw" ["self"] (spDraw C)) (M_turn : MethOk P w K mg base 1 C "turn" ["self"] (spTurn C)) (M_refuse : MethOk P w K mg base 1 C "refuse" ["self"] spNo) (MB_refuse : MethOkE P w K mg base 3 C "refuse" ["self"] (spRefuse C CW)) (D_draw_fixed : DefOk P w K mg base 2 "draw_fixed" ["source", "most"] (spDrawFixed C)) : ∀ n, AnyME P w K mg base (2 * n + 4) "draw" ["self", "source"] (clS c) (spDrBad has43 ff fw c C CW n)
  | 0 => by
    have no : ∀ i vs H Q E, ¬ spDrBad has43 ff fw c C CW 0 i vs H Q E := fun i vs H Q E ⟨o, _, _, f, _, _, _, _, _, _, _, _, _, _, h, _⟩ => by have := ht_pos f; omega
    intro i
    cases i with
    | b k =>
      rcases fin4 k with rfl | rfl | rfl | rfl
      · exact methE_none S.m0 (no _)
      · exact methE_none S.m1 (no _)
      · show MethOkE P w K mg base _ (c.b 2) _ _ _
        rw [L.b2]; exact methE_none S.m0 (no _)
      · show MethOkE P w K mg base _ (c.b 3) _ _ _
        rw [L.b3]; exact methE_none S.m0 (no _)
    | s =>
      · exact methE_none S.m4 (no _)
    | l =>
      · exact methE_none S.m5 (no _)
    | o k =>
      rcases fin3 k with rfl | rfl | rfl
      · show MethOkE P w K mg base _ (c.o 0) _ _ _
        rw [L.o0]; exact methE_none S.m7 (no _)
      · exact methE_none S.m7 (no _)
      · exact methE_none S.m8 (no _)
    | t k =>
      rcases fin2 k with rfl | rfl
      · exact methE_none S.m9 (no _)
      · show MethOkE P w K mg base _ (c.t 1) _ _ _
        rw [L.t1]; exact methE_none S.m9 (no _)
  | n + 1 => by
    have ih := all_drawbad (ff := ff) (fw := fw) (CW := CW) nb L S c_C g_MOST_VALUES g_LONGEST_TEXT M_draw M_turn M_refuse MB_refuse D_draw_fixed n
    have am := all_draw (ff := ff) (fw := fw) nb L S c_C g_MOST_VALUES g_LONGEST_TEXT M_draw M_turn M_refuse D_draw_fixed n
    have no : ∀ i, has43 i = false → ∀ vs H Q E, ¬ spDrBad has43 ff fw c C CW (n + 1) i vs H Q E := fun i hi vs H Q E ⟨o, _, _, f, _, _, _, _, _, _, _, hs, _, hok, _⟩ => by
      have := hok.2.slot
      rw [hs, hi] at this
      cases this
    have nb0 : ∀ k vs H Q E, ¬ spDrBad has43 ff fw c C CW (n + 1) (.b k) vs H Q E := fun k vs H Q E ⟨o, _, _, f, _, _, _, _, _, _, _, hs, _, _, _, _, _, _, hB, _⟩ => by
      have := slot_bare hs
      subst this
      cases hB
    have ns0 : ∀ vs H Q E, ¬ spDrBad has43 ff fw c C CW (n + 1) .s vs H Q E := fun vs H Q E ⟨o, _, _, f, _, _, _, _, _, _, _, hs, _, _, _, _, _, _, hB, _⟩ => by
      obtain ⟨_, _, rfl⟩ := slot_sp hs
      cases hB
    intro i
    cases i with
    | b k =>
      rcases fin4 k with rfl | rfl | rfl | rfl
      · exact methE_none S.m0 (nb0 _)
      · exact methE_none S.m1 (nb0 _)
      · show MethOkE P w K mg base _ (c.b 2) _ _ _
        rw [L.b2]; exact methE_none S.m0 (no _ rfl)
      · show MethOkE P w K mg base _ (c.b 3) _ _ _
        rw [L.b3]; exact methE_none S.m0 (no _ rfl)
    | s =>
      · exact methE_none S.m4 ns0
    | l =>
      · obtain ⟨f, fd, G, hb, hm⟩ := S.m5.ex
        exact ⟨f, fd, (bad_Letters nb g_LONGEST_TEXT c_C L.tL G M_draw M_refuse MB_refuse D_draw_fixed).mono (by omega), hb, hm⟩
    | o k =>
      rcases fin3 k with rfl | rfl | rfl
      · show MethOkE P w K mg base _ (c.o 0) _ _ _
        rw [L.o0]; exact methE_none S.m7 (no _ rfl)
      · obtain ⟨f, fd, G, hb, hm⟩ := S.m7.ex
        exact ⟨f, fd, (bad_Many nb g_MOST_VALUES c_C (L.tO 1) G M_draw M_refuse MB_refuse am).mono (by omega), hb, hm⟩
      · obtain ⟨f, fd, G, hb, hm⟩ := S.m8.ex
        exact ⟨f, fd, (bad_Turned c_C (L.tO 2) G M_turn am ih).mono (by omega), hb, hm⟩
    | t k =>
      rcases fin2 k with rfl | rfl
      · obtain ⟨f, fd, G, hb, hm⟩ := S.m9.ex
        exact ⟨f, fd, (bad_Record nb (L.tT 0) G am ih).mono (by omega), hb, hm⟩
      · show MethOkE P w K mg base _ (c.t 1) _ _ _
        rw [L.t1]; exact methE_none S.m9 (no _ rfl)

def spVal (has : Sl → Bool) (ff : D → Bool) (fw : D → List Bool) (c : FC) (C : Addr) (n : Nat) : Sp := fun vs H Q _ => ∃ (o p dx : Addr) (f : Fm) (d : D) (e : Bool), vs = [.ref o, .ref p] ∧ FAt c [p] H f o ∧ okH has f ∧ ht f ≤ n ∧ H p = some (srcO C dx (rowB fw f d) 0 false e) ∧ (rowB fw f d).length ≤ 100000 ∧ fitB ff f d = true ∧ ∀ v H' j, Mv p H H' → DX [p] H' d v → H' p = some (srcO C dx (rowB fw f d) j false e) → Q v H'
def spValBad (has : Sl → Bool) (ff : D → Bool) (fw : D → List Bool) (c : FC) (C CW : Addr) (n : Nat) : Sp := fun vs H _ E => ∃ (o p dx : Addr) (f : Fm) (r l : List Bool) (k : Nat) (e : Bool), vs = [.ref o, .ref p] ∧ FAt c [p] H f o ∧ okH has f ∧ ht f ≤ n ∧ H p = some (srcO C dx l 0 false e) ∧ l.length ≤ 100000 ∧ Bad ff fw f r k ∧ r <+: l ∧ ∀ u d H', Mv p H H' → H' p = some u → H' d = none → E (.ref CW) (some d) (upd H' d (xdP ((k : Nat) : Int)))
theorem sees_all (l : List Bool) : sees l false 0 = l := by
  unfold sees
  rw [List.drop_zero]
  have e : xor false = (id : Bool → Bool) := by funext x; cases x <;> rfl
  rw [e, List.map_id]
theorem ok_value_of {f C : Addr} {c : FC} {fd : FuncData} {n : Nat} {has : Sl → Bool} {ff : D → Bool} {fw : D → List Bool} (nb : NB mg) (T : SrcCls K C) (F : FunAt K mg "value_of" s_value_of ["form", "source"] f fd) (AM_draw : AnyM P w K mg base (2 * n + 4) "draw" ["self", "source"] (clS c) (spDr has ff fw c C n)) : DefOk P w K mg base (2 * n + 5) "value_of" ["form", "source"] (spVal has ff fw c C n) := by
  refine F.ok sc_value_of (fun vs H Q E h => ?_) (fun cdv A outer s H vs Q E hr h => ?_)
  · obtain ⟨_, _, _, _, _, _, rfl, _⟩ := h; rfl
  obtain ⟨o, p, dx, g, d, e, rfl, hF, hok, hht, hS, hl, hf, q⟩ := h
  obtain ⟨dxi, fsi, ei, li⟩ := FAt.draw g hF
  refine ⟨_, (pss_cons (ps_set (i := 2) sc_value_of.nd rfl (by first | exact Or.inl rfl | exact Or.inr rfl) (pe_methAny AM_draw hr (pv 0) (pa_cons (pv 1) pa_nil) (hk := by omega)))
    (pss_cons (ps_if (pt_cmpR oLt (pe_fld (pv 1) rfl) (pe_callB call_len rfl nb.len_ bo_len (pa_cons (pe_fld (pv 1) rfl) pa_nil)) (nomark _)) (pss_one ps_never) pss_nil)
    (pss_one (ps_ret (pv 2))))), ?_⟩
  refine ⟨_, rfl, o, slot g, dxi, fsi, rfl, ei, li, ?_⟩
  refine ⟨_, rfl, o, p, dx, g, d, _, 0, false, e, [p], rfl, rfl, hF, hok, hht, hS, hl, Nat.zero_le _, List.mem_singleton.mpr rfl, in_p hS, hf, by rw [sees_all]; exact List.prefix_refl _, fun v H' M hd hS' => ?_⟩
  rw [Nat.zero_add] at hS'
  refine ⟨_, rfl, p, C, dx, _, _, rfl, hS', T.cl, T.nP, look_place .., _, rfl, p, C, dx, _, _, rfl, hS', T.cl, T.nS, look_signs .., _, _, rfl, ⟨by rw [rowS_length]; exact small5 hl, rfl⟩, .inl ⟨_, _, rfl, rfl, _, rfl, ?_⟩⟩
  refine iteN (by rw [rowS_length]; omega) ?_
  exact ⟨_, rfl, _, M.sub hS', q _ _ _ M hd hS'⟩
theorem bad_value_of {f fS C CW C_Left : Addr} {c : FC} {fd fdS : FuncData} {n : Nat} {has : Sl → Bool} {ff : D → Bool} {fw : D → List Bool} (nb : NB mg) (T : SrcCls K C) (F : FunAt K mg "value_of" s_value_of ["form", "source"] f fd) (AM_draw : AnyM P w K mg base (2 * n + 4) "draw" ["self", "source"] (clS c) (spDr has ff fw c C n)) (AMB_draw : AnyME P w K mg base (2 * n + 4) "draw" ["self", "source"] (clS c) (spDrBad has ff fw c C CW n)) (XM_Left : XMk K mg "Left" C_Left fS) (XF_Left : FnOk P w K mg base CX0 1 fS fdS ["self", "place"] (spXInit C_Left)) (XB_Left : Binds K fdS ["self", "place"] []) : DefOkE P w K mg base (2 * n + 5) "value_of" ["form", "source"] (spValBad has ff fw c C CW n) := by
  refine F.okE sc_value_of (fun vs H Q E h => ?_) (fun cdv A outer s H vs Q E hr h => ?_)
  · obtain ⟨_, _, _, _, _, _, _, _, rfl, _⟩ := h; rfl
  obtain ⟨o, p, dx, g, r, l, k, e, rfl, hF, hok, hht, hS, hl, hB, hr', q⟩ := h
  obtain ⟨dxi, fsi, ei, li⟩ := FAt.draw g hF
  refine ⟨_, (pss_cons (ps_set (i := 2) sc_value_of.nd rfl (by first | exact Or.inl rfl | exact Or.inr rfl) (pe_methAnyE2 AM_draw AMB_draw hr passes_fn.x (pv 0) (pa_cons (pv 1) pa_nil) (hk := by omega) (hk' := by omega)))
    (pss_cons (ps_if (pt_cmpR oLt (pe_fld (pv 1) rfl) (pe_callB call_len rfl nb.len_ bo_len (pa_cons (pe_fld (pv 1) rfl) pa_nil)) (nomark _)) (pss_one (ps_raiseI throws_fn XM_Left XF_Left XB_Left hr (pa_cons (pe_fld (pv 1) rfl) pa_nil) (hk := by omega))) pss_nil)
    (pss_one (ps_ret (pv 2))))), ?_⟩
  refine ⟨_, rfl, o, slot g, dxi, fsi, rfl, ei, li, ?_⟩
  refine ⟨_, rfl, .inr ⟨o, p, dx, g, r, l, 0, k, false, e, rfl, rfl, hF, hok, hht, hS, hl, Nat.zero_le _, hB, by rw [sees_all]; exact hr', fun t' d H' M hS' hd' => ?_⟩⟩
  have pd : p ≠ d := fun z => by rw [← z, hS'] at hd'; cases hd'
  rw [Nat.zero_add]
  exact ⟨_, (M.ext (Ext.xdp hd')).sub (by rw [upd_ne pd]; exact hS'), q _ d _ M hS' hd'⟩
def spReadAll (has : Sl → Bool) (ff : D → Bool) (fw : D → List Bool) (c : FC) (n : Nat) : Sp := fun vs H Q _ => ∃ (o : Addr) (f : Fm) (d : D), vs = [.ref o, .str (rowS (rowB fw f d))] ∧ FAt c [] H f o ∧ okH has f ∧ ht f ≤ n ∧ (rowB fw f d).length ≤ 100000 ∧ fitB ff f d = true ∧ ∀ v H', Ext H H' → DAt H' d v → Q v H'
def spReadBad (has : Sl → Bool) (ff : D → Bool) (fw : D → List Bool) (c : FC) (CW : Addr) (n : Nat) : Sp := fun vs H _ E => ∃ (o : Addr) (f : Fm) (r l : List Bool) (k : Nat), vs = [.ref o, .str (rowS l)] ∧ FAt c [] H f o ∧ okH has f ∧ ht f ≤ n ∧ l.length ≤ 100000 ∧ Bad ff fw f r k ∧ r <+: l ∧ ∀ d, H d = none → E (.ref CW) (some d) (upd H d (xdP ((k : Nat) : Int)))
theorem Mv.new {p : Addr} {H H1 H2 : Hp} (x : Ext H H1) (h0 : H p = none) (m : Mv p H1 H2) : Ext H H2 := ⟨fun b u e => m.k b u (fun z => by rw [z, h0] at e; cases e) (x.s b u e), fun cl => m.c (x.c cl)⟩
theorem ok_read_all {f C : Addr} {c : FC} {fd : FuncData} {n : Nat} {has : Sl → Bool} {ff : D → Bool} {fw : D → List Bool} (F : FunAt K mg "read_all" s_read_all ["form", "signs"] f fd) (M_Source : MakeOk P w K mg base 1 "Source" C ["self", "signs", "at"] (spSrcInit C)) (D_value_of : DefOk P w K mg base (2 * n + 5) "value_of" ["form", "source"] (spVal has ff fw c C n)) : DefOk P w K mg base (2 * n + 6) "read_all" ["form", "signs"] (spReadAll has ff fw c n) := by
  refine F.ok sc_read_all (fun vs H Q E h => ?_) (fun cdv A outer s H vs Q E hr h => ?_)
  · obtain ⟨_, _, _, rfl, _⟩ := h; rfl
  obtain ⟨o, g, d, rfl, hF, hok, hht, hl, hf, q⟩ := h
  refine ⟨_, (pss_one (ps_ret (pe_callD D_value_of hr (pa_cons (pv 0) (pa_cons (pe_makeD M_Source hr (pa_cons (pv 1) (pa_cons pe_int pa_nil)) (hk := by omega)) pa_nil)) (hk := by omega)))), ?_⟩
  refine ⟨_, rfl, _, rfl, fun x dx nx ndx nex => ?_⟩
  refine ⟨x, dx, _, _, rfl, upd_same, rfl, ?_⟩
  rw [upd_upd']
  have X1 := Ext.made (C := C) (fs := flds (rowS (rowB fw g d)) 0 false false) nx ndx nex
  refine ⟨o, x, dx, g, d, false, rfl, FAt.keep (fun b u _ e => X1.s b u e) g (FAt.add nx g hF), hok, hht, upd_same, hl, hf, fun v H' j M hd hS' => ?_⟩
  have X2 := Mv.new X1 nx M
  exact ⟨_, X2.sub, q _ _ X2 (DX.at d hd)⟩
theorem bad_read_all {f C CW : Addr} {c : FC} {fd : FuncData} {n : Nat} {has : Sl → Bool} {ff : D → Bool} {fw : D → List Bool} (F : FunAt K mg "read_all" s_read_all ["form", "signs"] f fd) (M_Source : MakeOk P w K mg base 1 "Source" C ["self", "signs", "at"] (spSrcInit C)) (DB_value_of : DefOkE P w K mg base (2 * n + 5) "value_of" ["form", "source"] (spValBad has ff fw c C CW n)) : DefOkE P w K mg base (2 * n + 6) "read_all" ["form", "signs"] (spReadBad has ff fw c CW n) := by
  refine F.okE sc_read_all (fun vs H Q E h => ?_) (fun cdv A outer s H vs Q E hr h => ?_)
  · obtain ⟨_, _, _, _, _, rfl, _⟩ := h; rfl
  obtain ⟨o, g, r, l, k, rfl, hF, hok, hht, hl, hB, hr', q⟩ := h
  refine ⟨_, (pss_one (ps_ret (pe_callE DB_value_of hr passes_fn.x (pa_cons (pv 0) (pa_cons (pe_makeD M_Source hr (pa_cons (pv 1) (pa_cons pe_int pa_nil)) (hk := by omega)) pa_nil)) (hk := by omega)))), ?_⟩
  refine ⟨_, rfl, _, rfl, fun x dx nx ndx nex => ?_⟩
  refine ⟨x, dx, _, _, rfl, upd_same, rfl, ?_⟩
  rw [upd_upd']
  have X1 := Ext.made (C := C) (fs := flds (rowS l) 0 false false) nx ndx nex
  refine ⟨o, x, dx, g, r, l, k, false, rfl, FAt.keep (fun b u _ e => X1.s b u e) g (FAt.add nx g hF), hok, hht, upd_same, hl, hB, hr', fun u d H' M hS' hd' => ?_⟩
  have X2 := Mv.new X1 nx M
  exact ⟨_, .new (X2.s.free hd') (X2.s.trans (same_new hd')) upd_same trivial, q d (X2.s.free hd')⟩
theorem bad_begun_by {f C CW : Addr} {c : FC} {fd : FuncData} {n : Nat} {has : Sl → Bool} {ff : D → Bool} {fw : D → List Bool} (c_C : Cls K C) (F : FunAt K mg "begun_by" s_begun_by ["form", "signs"] f fd) (M_Source : MakeOk P w K mg base 1 "Source" C ["self", "signs", "at"] (spSrcInit C)) (M_go_on : MethOk P w K mg base 1 C "go_on" ["self"] (spGoOn C)) (DB_value_of : DefOkE P w K mg base (2 * n + 5) "value_of" ["form", "source"] (spValBad has ff fw c C CW n)) : DefOkE P w K mg base (2 * n + 6) "begun_by" ["form", "signs"] (spReadBad has ff fw c CW n) := by
  refine F.okE sc_begun_by (fun vs H Q E h => ?_) (fun cdv A outer s H vs Q E hr h => ?_)
  · obtain ⟨_, _, _, _, _, rfl, _⟩ := h; rfl
  obtain ⟨o, g, r, l, k, rfl, hF, hok, hht, hl, hB, hr', q⟩ := h
  refine ⟨_, (pss_cons (ps_set (i := 2) sc_begun_by.nd rfl (by first | exact Or.inl rfl | exact Or.inr rfl) (pe_makeD M_Source hr (pa_cons (pv 1) (pa_cons pe_int pa_nil)) (hk := by omega)))
    (pss_cons (ps_expr (pe_methD0 M_go_on c_C hr (pv 2) (hk := by omega)))
    (pss_one (ps_ret (pe_callE DB_value_of hr passes_fn.x (pa_cons (pv 0) (pa_cons (pv 2) pa_nil)) (hk := by omega)))))), ?_⟩
  refine ⟨_, rfl, fun x dx nx ndx nex => ?_⟩
  refine ⟨x, dx, _, _, rfl, upd_same, rfl, ?_⟩
  rw [upd_upd']
  have X1 := Ext.made (C := C) (fs := flds (rowS l) 0 false false) nx ndx nex
  refine ⟨_, rfl, x, dx, _, rfl, upd_same, look_meth _ _ _ _ (by decide +kernel) (by decide +kernel) (by decide +kernel), x, dx, l, 0, false, false, 0, rfl, upd_same, ?_⟩
  rw [upd_upd']
  have X3 := Ext.made (C := C) (fs := flds (rowS l) 0 false true) nx ndx nex
  refine ⟨_, rfl, _, rfl, o, x, dx, g, r, l, k, true, rfl, FAt.keep (fun b u _ e => X3.s b u e) g (FAt.add nx g hF), hok, hht, upd_same, hl, hB, hr', fun u d H' M hS' hd' => ?_⟩
  have X2 := Mv.new X3 nx M
  exact ⟨_, .new (X2.s.free hd') (X2.s.trans (same_new hd')) upd_same trivial, q d (X2.s.free hd')⟩

def spRowA (has : Sl → Bool) (ff : D → Bool) (fw : D → List Bool) (c : FC) (n : Nat) : Sp := fun vs H Q E => ∃ i, spWr has ff fw c n i vs H Q E
theorem ok_Form_rowA {f : Addr} {c : FC} {fd : FuncData} {n : Nat} {has : Sl → Bool} {ff : D → Bool} {fw : D → List Bool} (F : Fun K "row" "Form.row" s_Form_row f fd) (AM_fits : AnyM P w K mg base (2 * n + 4) "fits" ["self", "value"] (clS c) (spFit has ff c n)) (AM_written : AnyM P w K mg base (2 * n + 4) "written" ["self", "value"] (clS c) (spWr has ff fw c n)) : FnOk P w K mg base CX0 (2 * n + 4 + 1) f fd ["self", "value"] (spRowA has ff fw c n) := by
  refine F.okK sc_Form_row (fun vs H Q E h => ?_) (fun cdv A outer s H vs Q E hr h => ?_)
  · obtain ⟨_, _, _, _, _, rfl, _⟩ := h; rfl
  obtain ⟨sl, o, fm, v, d, rfl, hs, hF, hok, hht, hd, hf, hl, q⟩ := h
  obtain ⟨dxi, fsi, ei, li⟩ := FAt.fits fm hF
  obtain ⟨dxj, fsj, ej, lj⟩ := FAt.written fm hF
  refine ⟨_, (pss_cons (ps_if (pt_not (pt_truth (pe_methAny AM_fits hr (pv 0) (pa_cons (pv 1) pa_nil) (hk := by omega)) (fun _ => rfl))) (pss_one ps_never) pss_nil)
    (pss_one (ps_ret (pe_methAny AM_written hr (pv 0) (pa_cons (pv 1) pa_nil) (hk := by omega))))), ?_⟩
  refine ⟨_, rfl, o, slot fm, dxi, fsi, rfl, ei, li, _, rfl, o, fm, v, d, rfl, rfl, hF, hok, hht, hd, fitB ff fm d, rfl, ?_⟩
  rw [hf]
  refine iteF ⟨_, rfl, o, slot fm, dxj, fsj, rfl, ej, lj, _, rfl, o, fm, v, d, rfl, rfl, hF, hok, hht, hd, hf, hl, H, .refl (Same.refl _), q⟩
def spRowBad (CN : Addr) (has : Sl → Bool) (ff : D → Bool) (c : FC) (n : Nat) : Sp := fun vs H _ E => ∃ (o : Addr) (f : Fm) (v : V) (d : D), vs = [.ref o, v] ∧ FAt c [] H f o ∧ okH has f ∧ ht f ≤ n ∧ DAt H d v ∧ fitB ff f d = false ∧ E (.ref CN) none H
theorem bad_Form_rowA {f CN : Addr} {c : FC} {fd : FuncData} {n : Nat} {has : Sl → Bool} {ff : D → Bool} {fw : D → List Bool} (xi_NoFit : PySem.W.excIn K CN bmV "ValueError.__new__" = true) (gm_NoFit : mg "NoFit" = some (.ref CN)) (F : Fun K "row" "Form.row" s_Form_row f fd) (AM_fits : AnyM P w K mg base (2 * n + 4) "fits" ["self", "value"] (clS c) (spFit has ff c n)) (AM_written : AnyM P w K mg base (2 * n + 4) "written" ["self", "value"] (clS c) (spWr has ff fw c n)) : FnOk P w K mg base (CXe P w) (2 * n + 4 + 1) f fd ["self", "value"] (spRowBad CN has ff c n) := by
  refine F.okE sc_Form_row (fun vs H Q E h => ?_) (fun cdv A outer s H vs Q E hr h => ?_)
  · obtain ⟨_, _, _, _, rfl, _⟩ := h; rfl
  obtain ⟨o, fm, v, d, rfl, hF, hok, hht, hd, hf, q⟩ := h
  obtain ⟨dxi, fsi, ei, li⟩ := FAt.fits fm hF
  refine ⟨_, (pss_cons (ps_if (pt_not (pt_truth (pe_methAny AM_fits hr (pv 0) (pa_cons (pv 1) pa_nil) (hk := by omega)) (fun _ => rfl))) (pss_one (ps_raise throws_fn xi_NoFit gm_NoFit hr.hd (pa_cons pe_str pa_nil))) pss_nil)
    (pss_one (ps_ret (pe_methAny AM_written hr (pv 0) (pa_cons (pv 1) pa_nil) (hk := by omega))))), ?_⟩
  refine ⟨_, rfl, o, slot fm, dxi, fsi, rfl, ei, li, _, rfl, o, fm, v, d, rfl, rfl, hF, hok, hht, hd, fitB ff fm d, rfl, ?_⟩
  rw [hf]
  exact iteT ⟨one_ok, H, .refl (Same.refl _), q⟩

theorem FAt.row {c : FC} {X : List Addr} {H : Hp} (f : Fm) {o : Addr} (h : FAt c X H f o) : ∃ dx fs, H o = some (.ins (clS c (slot f)) dx fs) ∧ fs.lookup (Str.ofString "row") = none :=
  FAt.ins (m := Str.ofString "row") (by decide +kernel) (by decide +kernel) (by decide +kernel) (by decide +kernel) (by decide +kernel) (by decide +kernel) f h
structure Rws (K : PySem.W.Frag) (c : FC) : Prop where
  m : ∀ i, MethAt K (clS c i) "row" "Form.row" s_Form_row ["self", "value"]
theorem all_row {c : FC} {n : Nat} {has : Sl → Bool} {ff : D → Bool} {fw : D → List Bool} (S : Rws K c) (AM_fits : AnyM P w K mg base (2 * n + 4) "fits" ["self", "value"] (clS c) (spFit has ff c n)) (AM_written : AnyM P w K mg base (2 * n + 4) "written" ["self", "value"] (clS c) (spWr has ff fw c n)) : AnyM P w K mg base (2 * n + 5) "row" ["self", "value"] (clS c) (fun _ => spRowA has ff fw c n) := fun i => by
  obtain ⟨f, fd, G, hb, hm⟩ := (S.m i).ex
  exact ⟨⟨f, fd, ok_Form_rowA G AM_fits AM_written, hb, hm⟩, (S.m i).cl⟩
theorem bad_row {c : FC} {n : Nat} {CN : Addr} {has : Sl → Bool} {ff : D → Bool} {fw : D → List Bool} (xi_NoFit : PySem.W.excIn K CN bmV "ValueError.__new__" = true) (gm_NoFit : mg "NoFit" = some (.ref CN)) (S : Rws K c) (AM_fits : AnyM P w K mg base (2 * n + 4) "fits" ["self", "value"] (clS c) (spFit has ff c n)) (AM_written : AnyM P w K mg base (2 * n + 4) "written" ["self", "value"] (clS c) (spWr has ff fw c n)) : AnyME P w K mg base (2 * n + 5) "row" ["self", "value"] (clS c) (fun _ => spRowBad CN has ff c n) := fun i => by
  obtain ⟨f, fd, G, hb, hm⟩ := (S.m i).ex
  exact ⟨f, fd, bad_Form_rowA xi_NoFit gm_NoFit G AM_fits AM_written, hb, hm⟩

def cabN (few : Nat) : Str := ⟨((Str.ofString "cab").cps.toList.take (1 + few % 3)).toArray⟩
def form43 (wy few : Nat) : Fm := if wy = 0 then .one 1 (.bare 0) else if wy = 1 then .one 1 (.bare 1) else if wy = 2 then .one 1 (.sp 5 (5 + (few : Int))) else .le (cabN few)
theorem cab_ok : ∀ m : Fin 3, goodText ⟨((Str.ofString "cab").cps.toList.take (1 + m.val)).toArray⟩ = true ∧ Txt.slice (Str.ofString "cab") none (some ((1 + m.val : Nat) : Int)) = ⟨((Str.ofString "cab").cps.toList.take (1 + m.val)).toArray⟩ := by decide +kernel
theorem cab_len (few : Nat) : (cabN few).length ≤ 60 := by
  show ((Str.ofString "cab").cps.toList.take (1 + few % 3)).toArray.size ≤ 60
  rw [List.size_toArray, List.length_take]
  omega
def spForm43 (c : FC) : Sp := fun vs H Q _ => ∃ (wy few : Nat) (X : List Addr), vs = [.int ((wy : Nat) : Int), .int ((few : Nat) : Int)] ∧ wy < 4 ∧ few ≤ 8 ∧ (∀ x, x ∈ X → ∃ o, H x = some o) ∧ ∀ r H', Ext H H' → FAt c X H' (form43 wy few) r → Q (.ref r) H'
theorem ok_law_form43 {f : Addr} {c : FC} {fd : FuncData} (F : FunAt K mg "_law_form" s_law_form ["_law_way", "_law_few"] f fd) (M0_Truth : Mk0 K (c.b 1)) (m_Truth : mg "Truth" = some (.ref (c.b 1))) (M0_Nothing : Mk0 K (c.b 0)) (m_Nothing : mg "Nothing" = some (.ref (c.b 0)))
    (M_Span : MakeOk P w K mg base 1 "Span" c.s ["self", "low", "high"] (spSpanInit c.s)) (M_Letters : MakeOk P w K mg base 2 "Letters" c.l ["self", "signs"] (spLetInit c.l)) (M_Many : MakeOk P w K mg base 1 "Many" (c.o 1) ["self", "inner"] (spOneInit (c.o 1))) : DefOk P w K mg base 4 "_law_form" ["_law_way", "_law_few"] (spForm43 c) := by
  refine F.ok sc_law_form (fun vs H Q E h => ?_) (fun cdv A outer s H vs Q E hr h => ?_)
  · obtain ⟨_, _, _, rfl, _⟩ := h; rfl
  obtain ⟨wy, few, X, rfl, hwy, hfew, hX, q⟩ := h
  refine ⟨_, (pss_cons (ps_if (pt_cmpR oEq (pv 0) pe_int (nomark _)) (pss_one (ps_ret (pe_makeD M_Many hr (pa_cons (pe_makeN0 M0_Nothing rfl m_Nothing) pa_nil)))) pss_nil)
    (pss_cons (ps_if (pt_cmpR oEq (pv 0) pe_int (nomark _)) (pss_one (ps_ret (pe_makeD M_Many hr (pa_cons (pe_makeN0 M0_Truth rfl m_Truth) pa_nil)))) pss_nil)
    (pss_cons (ps_if (pt_cmpR oEq (pv 0) pe_int (nomark _)) (pss_one (ps_ret (pe_makeD M_Many hr (pa_cons (pe_makeD M_Span hr (pa_cons pe_int (pa_cons (pe_op oAdd pe_int (pv 1)) pa_nil))) pa_nil)))) pss_nil)
    (pss_one (ps_ret (pe_makeD M_Letters hr (pa_cons (pe_slice slAll pe_str po_none (po_some (pe_op oAdd pe_int (pe_op op_mod (pv 1) pe_int)))) pa_nil))))))), ?_⟩
  have nn : ∀ {t : Addr}, H t = none → t ∉ X := fun h z => by
    obtain ⟨o, e⟩ := hX _ z
    rw [h] at e; cases e
  have hw : wy = 0 ∨ wy = 1 ∨ wy = 2 ∨ wy = 3 := by omega
  rcases hw with rfl | rfl | rfl | rfl
  · refine ⟨_, rfl, rfl, _, rfl, iteY rfl ?_⟩
    refine fun i di g1 g2 g3 x dx h1 h2 h3 => ⟨x, dx, i, rfl, upd_same, rfl, ?_⟩
    rw [upd_upd']
    have E1 := Ext.made (C := c.b 0) (fs := []) g1 g2 g3
    have E2 := E1.trans (Ext.made (C := c.o 1) (fs := [("inner", V.ref i)]) h1 h2 h3)
    exact ⟨_, E2.sub, q x _ E2 ⟨nn (E1.s.free h1), dx, i, upd_same, nn g1, di, (Ext.made h1 h2 h3).s _ _ upd_same⟩⟩
  · refine ⟨_, rfl, rfl, _, rfl, iteN (by decide) ⟨_, rfl, rfl, _, rfl, iteY rfl ?_⟩⟩
    refine fun i di g1 g2 g3 x dx h1 h2 h3 => ⟨x, dx, i, rfl, upd_same, rfl, ?_⟩
    rw [upd_upd']
    have E1 := Ext.made (C := c.b 1) (fs := []) g1 g2 g3
    have E2 := E1.trans (Ext.made (C := c.o 1) (fs := [("inner", V.ref i)]) h1 h2 h3)
    exact ⟨_, E2.sub, q x _ E2 ⟨nn (E1.s.free h1), dx, i, upd_same, nn g1, di, (Ext.made h1 h2 h3).s _ _ upd_same⟩⟩
  · refine ⟨_, rfl, rfl, _, rfl, iteN (by decide) ⟨_, rfl, rfl, _, rfl, iteN (by decide) ⟨_, rfl, rfl, _, rfl, iteY rfl ?_⟩⟩⟩
    refine ⟨_, rfl, .inl ⟨_, _, rfl, rfl, fun i di g1 g2 g3 => ⟨i, di, 5, 5 + (few : Int), rfl, upd_same, by omega, rfl, ?_⟩⟩⟩
    rw [upd_upd']
    refine fun x dx h1 h2 h3 => ⟨x, dx, i, rfl, upd_same, rfl, ?_⟩
    rw [upd_upd']
    have E1 := Ext.made (C := c.s) (fs := spanF 5 (5 + (few : Int))) g1 g2 g3
    have E2 := E1.trans (Ext.made (C := c.o 1) (fs := [("inner", V.ref i)]) h1 h2 h3)
    exact ⟨_, E2.sub, q x _ E2 ⟨nn (E1.s.free h1), dx, i, upd_same, nn g1, di, (Ext.made h1 h2 h3).s _ _ upd_same⟩⟩
  · refine ⟨_, rfl, rfl, _, rfl, iteN (by decide) ⟨_, rfl, rfl, _, rfl, iteN (by decide) ⟨_, rfl, rfl, _, rfl, iteN (by decide) ?_⟩⟩⟩
    obtain ⟨g1, g2⟩ := cab_ok ⟨few % 3, by omega⟩
    have e : (1 : Int) + (few : Int) % 3 = ((1 + few % 3 : Nat) : Int) := by omega
    refine ⟨_, rfl, _, _, rfl, rfl, (by show (0 : Int) < 3; decide), .inl ⟨_, _, rfl, rfl, _, rfl, .inr ⟨_, rfl, small5 (by decide +kernel), ?_⟩⟩⟩
    dsimp only
    rw [e, g2]
    refine fun x dx h1 h2 h3 => ⟨x, dx, cabN few, rfl, upd_same, Nat.le_trans (cab_len _) (by decide), g1, rfl, ?_⟩
    rw [upd_upd']
    exact ⟨_, (Ext.made h1 h2 h3).sub, q x _ (Ext.made h1 h2 h3) ⟨nn h1, dx, upd_same⟩⟩

theorem comp_allQ {J : It} {g : TG} {te : TE} {Q : VK} {H : Hp} {D : Addr} {σ0 : St} (n : Nat) (xs fe : Nat → V) (S : St → Prop) (hn : n ≤ 100000) (h0 : S σ0) (hD : H D = none)
    (hgo : ∀ i H, i < n → J.go i H) (hstop : ∀ H, J.stop n H) (hy : ∀ i H x H', i < n → J.yld i H x H' → H' = H ∧ x = xs i)
    (ht : ∀ i σ1 H1, i < n → S σ1 → Same H H1 → ∀ R : St → V → Hp → Prop, (∀ σ2 H3, S σ2 → Ext H1 H3 → R σ2 (fe i) H3) → g (xs i) σ1 H1 fun σ2 H2 => te σ2 H2 fun y H3 => R σ2 y H3)
    (hq : ∀ H', Ext H H' → H' D = some (.lst ((List.range n).map fe)) → Q (.ref D) H') :
    CompGo J g tYes te Q σ0 H D := by
  refine ⟨fun i m σ1 H2 => i ≤ n ∧ m = n - i ∧ S σ1 ∧ Ext H H2 ∧ H2 D = some (.lst ((List.range i).map fe)), ⟨n, Nat.zero_le _, rfl, h0, Ext.lst hD, upd_same⟩, ?_⟩
  rintro i m σ1 H2 ⟨h1, rfl, h2, hx, hDv⟩
  rcases Nat.lt_or_ge i n with z | z
  · refine .inr ⟨hgo i _ z, fun x H3 y => ?_⟩
    obtain ⟨rfl, rfl⟩ := hy i _ x H3 z y
    refine ht i σ1 _ z h2 hx.s (fun σ2 y H6 => ∃ xs m', H6 D = some (.lst xs) ∧ xs.length < sizeLine ∧ m' < n - i ∧ (i + 1 ≤ n ∧ m' = n - (i + 1) ∧ S σ2 ∧ Ext H (upd H6 D (.lst (xs ++ [y]))) ∧ upd H6 D (.lst (xs ++ [y])) D = some (.lst ((List.range (i + 1)).map fe)))) fun σ2 H6 q3 x6 => ?_
    refine ⟨_, n - (i + 1), x6.s _ _ hDv, ?_, by omega, by omega, rfl, q3, Ext.set hD (hx.trans x6) (x6.s _ _ hDv), ?_⟩
    · rw [List.length_map, List.length_range]; exact Nat.lt_of_lt_of_le (show i < 100000 by omega) (by decide)
    · rw [upd_same, List.range_succ, List.map_append]; rfl
  · have e : i = n := by omega
    subst e
    exact .inl ⟨hstop _, hq _ hx hDv⟩
def fewN (wy few : Nat) : Nat := if wy = 3 then few % 3 else few
def cab1 (m : Nat) : Str := ⟨#[(Str.ofString "cab").cps.toList.getD m 0]⟩
def val43 (wy m : Nat) : V := if wy = 0 then .non else if wy = 1 then .bl (decide (m % 2 = 1)) else if wy = 2 then .int (5 + (m : Int)) else .str (cab1 m)
def dv43 (wy m : Nat) : D := if wy = 0 then .non else if wy = 1 then .bl (decide (m % 2 = 1)) else if wy = 2 then .int (5 + (m : Int)) else .str (cab1 m)
def mk43 (wy few m : Nat) : List Bool := if wy = 0 then [] else if wy = 1 then [decide (m % 2 = 1)] else bitsW m (blen (fewN wy few))
def long43 (wy n : Nat) : Prop := if wy = 3 then 198 ≤ n ∧ n ≤ 201 else 58 ≤ n ∧ n ≤ 61
theorem long_le {wy n : Nat} (h : long43 wy n) : n ≤ 201 := by
  unfold long43 at h
  split at h <;> omega
theorem few_le {wy few : Nat} (h : few ≤ 8) : fewN wy few ≤ 8 := by
  unfold fewN
  split <;> omega
theorem blen8 : ∀ n : Fin 9, blen n.val ≤ 4 := by decide +kernel
theorem mk_len {wy few m : Nat} (h : few ≤ 8) : (mk43 wy few m).length ≤ 4 := by
  have := blen8 ⟨fewN wy few, by have := few_le (wy := wy) h; omega⟩
  unfold mk43
  split
  · exact Nat.zero_le _
  · split
    · exact (by decide : 1 ≤ 4)
    · rw [bitsW_length]; exact this
theorem mod43 (c : Int) (n : Nat) (h : 0 < n) : ∃ k : Nat, k < n ∧ c % ((n : Nat) : Int) = ((k : Nat) : Int) := by
  have h1 := Int.emod_nonneg c (b := (n : Int)) (by omega)
  have h2 := Int.emod_lt_of_pos c (b := (n : Int)) (by omega)
  obtain ⟨k, hk⟩ := Int.eq_ofNat_of_zero_le h1
  exact ⟨k, by omega, hk⟩
theorem cab_at {m : Nat} (h : m ≤ 2) : atI (Str.ofString "cab").cps.toList ((m : Nat) : Int) = some ((Str.ofString "cab").cps.toList.getD m 0) := by
  have e : (Str.ofString "cab").cps.toList = [99, 97, 98] := by decide +kernel
  rw [e]
  refine atI_nat ?_
  match m, h with
  | 0, _ => rfl
  | 1, _ => rfl
  | 2, _ => rfl
theorem two_ok43 : 2 ≤ sizeLine := by decide
theorem bit_at (b : Bool) : atI [V.str (Str.ofString "0"), V.str (Str.ofString "1")] ((b.toNat : Nat) : Int) = some (.str (rowS [b])) := by
  rw [s0, s1]
  cases b
  · exact atI_nat (j := 0) rfl
  · exact atI_nat (j := 1) rfl
def spParts (K : PySem.W.Frag) : Sp := fun vs H Q _ => ∃ (a : Addr) (ns : List Int) (wy few : Nat), vs = [.ref a, .int ((wy : Nat) : Int), .int ((few : Nat) : Int)] ∧ SqL K H a (ns.map V.int) ∧ ns.length ≤ 63 ∧ wy < 4 ∧ few ≤ 8 ∧
  ∀ (ms : List Nat) (t lv lm : Addr) (H' : Hp), Ext H H' → (∀ m, m ∈ ms → m ≤ fewN wy few) → long43 wy ms.length → lv ≠ lm → H' t = some (.tup [.ref lv, .ref lm]) → H' lv = some (.lst (ms.map (val43 wy))) → H' lm = some (.lst (ms.map fun m => V.str (rowS (true :: mk43 wy few m)))) → Q (.ref t) H'
theorem ok_law_parts {f : Addr} {fd : FuncData} (nb : NB mg) (F : FunAt K mg "_law_parts" s_law_parts ["_law_script", "_law_way", "_law_few"] f fd) (D_law_cell_at : DefOk P w K mg base 1 "_law_cell_at" ["_law_script", "_law_k"] (spCellAt K)) : DefOk P w K mg base 2 "_law_parts" ["_law_script", "_law_way", "_law_few"] (spParts K) := by
  refine F.ok sc_law_parts (fun vs H Q E h => ?_) (fun cdv A outer s H vs Q E hr h => ?_)
  · obtain ⟨_, _, _, _, rfl, _⟩ := h; rfl
  obtain ⟨a, ns, wy, few, rfl, hS, hl, hwy, hfew, q⟩ := h
  refine ⟨_, (pss_cons (ps_set (i := 3) sc_law_parts.nd rfl (by first | exact Or.inl rfl | exact Or.inr rfl) (pe_bm0 PySem.F.plainAttrs_int PySem.F.slot_int_bit_length PySem.F.type_int_bit_length mt_bitlen (pv 2)))
    (pss_cons (ps_set (i := 4) sc_law_parts.nd rfl (by first | exact Or.inl rfl | exact Or.inr rfl) (pe_op oAdd pe_int (pe_op op_mod (pe_op op_fdiv (pe_callD D_law_cell_at hr (pa_cons (pv 0) (pa_cons pe_int pa_nil))) pe_int) pe_int)))
    (pss_cut (ps_if (pt_cmpR oEq (pv 1) pe_int (nomark _)) (pss_cons (ps_set (i := 2) sc_law_parts.nd rfl (by first | exact Or.inl rfl | exact Or.inr rfl) (pe_op op_mod (pv 2) pe_int))
      (pss_cons (ps_set (i := 3) sc_law_parts.nd rfl (by first | exact Or.inl rfl | exact Or.inr rfl) (pe_bm0 PySem.F.plainAttrs_int PySem.F.slot_int_bit_length PySem.F.type_int_bit_length mt_bitlen (pv 2)))
      (pss_one (ps_set (i := 4) sc_law_parts.nd rfl (by first | exact Or.inl rfl | exact Or.inr rfl) (pe_op oAdd (pv 4) pe_int))))) pss_nil)
    (pss_cons (ps_set (i := 5) sc_law_parts.nd rfl (by first | exact Or.inl rfl | exact Or.inr rfl) (pe_lst pa_nil))
    (pss_cons (ps_set (i := 6) sc_law_parts.nd rfl (by first | exact Or.inl rfl | exact Or.inr rfl) (pe_lst pa_nil))
    (pss_cons (ps_for PassesOwn.never rfl (pi_range1 rfl nb.range_ (pa_cons (pv 4) pa_nil)) (pg_name (i := 7) sc_law_parts.nd rfl (by first | exact Or.inl rfl | exact Or.inr rfl))
      (pss_cons (ps_set (i := 8) sc_law_parts.nd rfl (by first | exact Or.inl rfl | exact Or.inr rfl) (pe_op op_mod (pe_op oAdd (pe_op op_fdiv (pe_callD D_law_cell_at hr (pa_cons (pv 0) (pa_cons (pe_op oAdd pe_int (pe_op op_mod (pv 7) pe_int)) pa_nil))) pe_int) (pv 7)) (pe_op oAdd (pv 2) pe_int)))
      (pss_cons (ps_set (i := 9) sc_law_parts.nd rfl (by first | exact Or.inl rfl | exact Or.inr rfl) (pe_bm PySem.F.plainAttrs_str PySem.F.slot_str_join PySem.F.type_str_join mt_join pe_str (pa_cons (pe_comp ["_law_j"] [(8, "_law_n"), (3, "_law_wide")] rfl (by decide +kernel) ⟨rfl, .inl rfl, rfl, .inl rfl, trivial⟩ (pi_range1 rfl nb.range_ (pa_cons (pv 3) pa_nil)) (fun _ _ _ _ _ => (pg_name (i := 0) (show (["_law_j", "_law_n", "_law_wide"] : List Str).Nodup by decide +kernel) rfl (by first | exact Or.inl rfl | exact Or.inr rfl))) (fun _ _ _ _ _ => pts_nil) (fun _ _ _ _ _ => (pe_ix iAll (pe_lst (pa_cons pe_str (pa_cons pe_str pa_nil))) (pe_op op_and (pe_op op_shr (pv 1) (pe_op oSub (pe_op oSub (pv 2) pe_int) (pv 0))) pe_int) (fun _ _ => rfl)))) pa_nil)))
      (pss_cons (ps_if (pt_cmpR oEq (pv 1) pe_int (nomark _)) (pss_cons (ps_expr (pe_bm PySem.F.plainAttrs_list PySem.F.slot_list_append PySem.F.type_list_append mt_append (pv 5) (pa_cons pe_non pa_nil)))
        (pss_one (ps_set (i := 9) sc_law_parts.nd rfl (by first | exact Or.inl rfl | exact Or.inr rfl) pe_str))) pss_nil)
      (pss_cons (ps_if (pt_cmpR oEq (pv 1) pe_int (nomark _)) (pss_cons (ps_set (i := 8) sc_law_parts.nd rfl (by first | exact Or.inl rfl | exact Or.inr rfl) (pe_op op_mod (pv 8) pe_int))
        (pss_cons (ps_expr (pe_bm PySem.F.plainAttrs_list PySem.F.slot_list_append PySem.F.type_list_append mt_append (pv 5) (pa_cons (pe_cmpR oEq (pv 8) pe_int (nomark _)) pa_nil)))
        (pss_one (ps_set (i := 9) sc_law_parts.nd rfl (by first | exact Or.inl rfl | exact Or.inr rfl) (pe_ix iAll (pe_lst (pa_cons pe_str (pa_cons pe_str pa_nil))) (pv 8) (fun _ _ => rfl)))))) pss_nil)
      (pss_cons (ps_if (pt_cmpR oEq (pv 1) pe_int (nomark _)) (pss_one (ps_expr (pe_bm PySem.F.plainAttrs_list PySem.F.slot_list_append PySem.F.type_list_append mt_append (pv 5) (pa_cons (pe_op oAdd pe_int (pv 8)) pa_nil)))) pss_nil)
      (pss_cons (ps_if (pt_cmpR oEq (pv 1) pe_int (nomark _)) (pss_one (ps_expr (pe_bm PySem.F.plainAttrs_list PySem.F.slot_list_append PySem.F.type_list_append mt_append (pv 5) (pa_cons (pe_ix iAll pe_str (pv 8) (fun _ _ => rfl)) pa_nil)))) pss_nil)
      (pss_one (ps_expr (pe_bm PySem.F.plainAttrs_list PySem.F.slot_list_append PySem.F.type_list_append mt_append (pv 6) (pa_cons (pe_op oAdd pe_str (pv 9)) pa_nil)))))))))))
    (pss_one (ps_ret (pe_tup (pa_cons (pv 5) (pa_cons (pv 6) pa_nil))))))))))), ?_⟩
  obtain ⟨y0, hy0, ey0⟩ := mod43 (ns.getD 1 0 / 3) 4 (by decide)
  have ey0 : ns.getD 1 0 / 3 % 4 = ((y0 : Nat) : Int) := ey0
  refine ⟨_, rfl, rfl, _, rfl, rfl, _, rfl, a, ns, 1, rfl, hS, hl, _, _, rfl, rfl, ⟨by decide, by decide⟩, _, _, rfl, rfl, (by show (0 : Int) < 4; decide), .inl ⟨_, _, rfl, rfl, ?_⟩⟩
  dsimp only
  rw [ey0]
  refine ⟨fun σ' H' => H' = H ∧ ∃ n : Nat, long43 wy n ∧ σ' = [some (.ref a), some (.int ((wy : Nat) : Int)), some (.int ((fewN wy few : Nat) : Int)), some (.int ((blen (fewN wy few) : Nat) : Int)), some (.int ((n : Nat) : Int)), none, none, none, none, none], ?_, ?_⟩
  · refine ⟨_, rfl, rfl, _, rfl, iteD (fun c => ?_) (fun c => ?_)⟩
    · have e3 : wy = 3 := by have := V.int.inj c; omega
      subst e3
      have e1 : ((few : Nat) : Int) % 3 = ((fewN 3 few : Nat) : Int) := by rw [show fewN 3 few = few % 3 from rfl]; omega
      refine ⟨_, rfl, _, _, rfl, rfl, (by show (0 : Int) < 3; decide), _, rfl, rfl, _, rfl, rfl, _, rfl, .inl ⟨_, _, rfl, rfl, rfl, 58 + y0 + 140, ?_, ?_⟩⟩
      · show 198 ≤ _ ∧ _ ≤ 201; omega
      · dsimp only
        rw [e1, bits_eq, bits_eq, show (58 : Int) + ((y0 : Nat) : Int) + 140 = ((58 + y0 + 140 : Nat) : Int) by omega]
        rfl
    · have e3 : wy ≠ 3 := fun z => c (by rw [z]; rfl)
      have e1 : fewN wy few = few := if_neg e3
      refine ⟨rfl, 58 + y0, ?_, ?_⟩
      · unfold long43; rw [if_neg e3]; omega
      · rw [e1, bits_eq, show (58 : Int) + ((y0 : Nat) : Int) = ((58 + y0 : Nat) : Int) by omega]
        rfl
  rintro σ1 H1 ⟨rfl, n, hn, rfl⟩
  have hn2 := long_le hn
  have hF := few_le (wy := wy) hfew
  refine ⟨Nat.zero_le _, fun lv hlv => ⟨Nat.zero_le _, fun lm hlm => ?_⟩⟩
  have X0 := (Ext.lst (xs := []) hlv).trans (Ext.lst (xs := []) hlm)
  have nlm : lv ≠ lm := fun z => by rw [← z, upd_same] at hlm; cases hlm
  have hlm0 := (Ext.lst (xs := []) hlv).s.free hlm
  refine ⟨_, rfl, _, rfl, by omega, by omega, ?_⟩
  rw [show (((n : Nat) : Int)).toNat = n by omega]
  refine for_range (fun i σ H4 => ∃ (ms : List Nat) (z7 z8 z9 : Option V), σ = [some (.ref a), some (.int ((wy : Nat) : Int)), some (.int ((fewN wy few : Nat) : Int)), some (.int ((blen (fewN wy few) : Nat) : Int)), some (.int ((n : Nat) : Int)), some (.ref lv), some (.ref lm), z7, z8, z9] ∧ ms.length = i ∧ (∀ m, m ∈ ms → m ≤ fewN wy few) ∧ Ext H1 H4 ∧ H4 lv = some (.lst (ms.map (val43 wy))) ∧ H4 lm = some (.lst (ms.map fun m => V.str (rowS (true :: mk43 wy few m))))) ?_ ?_ ?_
  · exact ⟨[], _, _, _, rfl, rfl, (fun m hm => nomatch hm), X0, by rw [upd_ne nlm, upd_same]; rfl, upd_same⟩
  · rintro i σ H4 hi ⟨ms, z7, z8, z9, rfl, hml, hms, X, eV, eM⟩
    rw [Int.zero_add]
    obtain ⟨m, hm, em⟩ := mod43 (ns.getD (2 + i % 40) 0 / 7 + (i : Int)) (fewN wy few + 1) (by omega)
    refine ⟨_, rfl, _, rfl, _, _, rfl, rfl, (by show (0 : Int) < 40; decide), .inl ⟨_, _, rfl, rfl, a, ns, 2 + i % 40, (by rw [show ((2 + i % 40 : Nat) : Int) = 2 + (i : Int) % 40 by omega]; rfl), X.s.seq hS, hl, _, _, rfl, rfl, ⟨by decide, by decide⟩, _, rfl, .inl ⟨_, _, rfl, rfl, _, rfl, .inl ⟨_, _, rfl, rfl, _, _, rfl, rfl, (by omega), ?_⟩⟩⟩⟩
    dsimp only
    rw [show ((fewN wy few : Nat) : Int) + 1 = ((fewN wy few + 1 : Nat) : Int) by omega, em]
    have hbl : blen (fewN wy few) ≤ 4 := blen8 ⟨fewN wy few, by omega⟩
    refine ⟨rfl, _, rfl, _, rfl, by omega, by omega, fun D1 hD1 => ?_⟩
    rw [show (((blen (fewN wy few) : Nat) : Int)).toNat = blen (fewN wy few) by omega]
    refine comp_allQ (blen (fewN wy few)) (fun j => .int (0 + (j : Int))) (fun j => .str (rowS [m.testBit (blen (fewN wy few) - 1 - j)])) (fun σ => ∃ z, σ = [z, some (.int ((m : Nat) : Int)), some (.int ((blen (fewN wy few) : Nat) : Int))]) (by omega) ⟨_, rfl⟩ hD1 (fun j H hj => hj) (fun H => Nat.le_refl _) (fun j H x H' hj h => ⟨h.1, h.2⟩) ?_ ?_
    · rintro j σ1 H5 hj ⟨z, rfl⟩ hs5 R hR
      have hb : Builtin.bitAnd (((m : Nat) : Int) / 2 ^ (((blen (fewN wy few) : Nat) : Int) - 1 - (0 + (j : Int))).toNat) 1 = (((m.testBit (blen (fewN wy few) - 1 - j)).toNat : Nat) : Int) := by
        rw [show (((blen (fewN wy few) : Nat) : Int) - 1 - (0 + (j : Int))).toNat = blen (fewN wy few) - 1 - j by omega]; exact bit_and _ _
      refine ⟨two_ok43, fun r hr' => ?_⟩
      exact ⟨_, rfl, _, rfl, _, _, rfl, rfl, _, rfl, _, _, rfl, rfl, _, _, rfl, rfl, (by show (0 : Int) ≤ _; omega), _, _, rfl, rfl, .inl (.inl ⟨_, _, _, _, rfl, rfl, SqL.of upd_same, (by rw [hb]; exact bit_at _), hR _ _ ⟨_, rfl⟩ (Ext.lst hr')⟩)⟩
    intro H5 X5 hD5
    refine ⟨_, D1, (bitsW m (blen (fewN wy few))).map fun b => rowS [b], rfl, rfl, SqL.of ?_, ?_, ?_⟩
    · rw [hD5, bitsW_range, List.map_map, List.map_map]; rfl
    · rw [join_len, bitsW_length]; exact small5 (by omega)
    rw [join_bits]
    have X6 := X.trans X5
    have eV6 := X5.s _ _ eV
    have eM6 := X5.s _ _ eM
    have hlen : ∀ {vs : List V}, vs.length = ms.length → vs.length < sizeLine := fun h => Nat.lt_of_lt_of_le (show _ < 100000 by omega) (by decide)
    have fin : ∀ (H6 : Hp) (v : V) (l : List Bool) (y7 y8 y9 : Option V), Ext H1 H6 → H6 lv = some (.lst (ms.map (val43 wy) ++ [v])) → H6 lm = some (.lst (ms.map fun m => V.str (rowS (true :: mk43 wy few m)))) → v = val43 wy m → l = mk43 wy few m → ∃ (ms' : List Nat) (z7 z8 z9 : Option V), [some (V.ref a), some (.int ((wy : Nat) : Int)), some (.int ((fewN wy few : Nat) : Int)), some (.int ((blen (fewN wy few) : Nat) : Int)), some (.int ((n : Nat) : Int)), some (.ref lv), some (.ref lm), y7, y8, y9] = [some (V.ref a), some (.int ((wy : Nat) : Int)), some (.int ((fewN wy few : Nat) : Int)), some (.int ((blen (fewN wy few) : Nat) : Int)), some (.int ((n : Nat) : Int)), some (.ref lv), some (.ref lm), z7, z8, z9] ∧ ms'.length = i + 1 ∧ (∀ m, m ∈ ms' → m ≤ fewN wy few) ∧ Ext H1 (upd H6 lm (.lst ((ms.map fun m => V.str (rowS (true :: mk43 wy few m))) ++ [V.str (rowS (true :: l))]))) ∧ upd H6 lm (.lst ((ms.map fun m => V.str (rowS (true :: mk43 wy few m))) ++ [V.str (rowS (true :: l))])) lv = some (.lst (ms'.map (val43 wy))) ∧ upd H6 lm (.lst ((ms.map fun m => V.str (rowS (true :: mk43 wy few m))) ++ [V.str (rowS (true :: l))])) lm = some (.lst (ms'.map fun m => V.str (rowS (true :: mk43 wy few m)))) := fun H6 v l y7 y8 y9 X6 eV6 eM6 hv hl => by
      subst hv; subst hl
      refine ⟨ms ++ [m], _, _, _, rfl, by rw [List.length_append, hml]; rfl, fun k hk => ?_, Ext.set hlm0 X6 eM6, by rw [upd_ne nlm, eV6, List.map_append]; rfl, by rw [upd_same, List.map_append]; rfl⟩
      rcases List.mem_append.mp hk with z | z
      · exact hms k z
      · rw [List.mem_singleton.mp z]; omega
    have X7 : ∀ l : List V, Ext H1 (upd H5 lv (.lst l)) := fun l => Ext.set hlv X6 eV6
    have eM7 : ∀ l : List V, upd H5 lv (.lst l) lm = some (.lst (ms.map fun m => V.str (rowS (true :: mk43 wy few m)))) := fun l => by rw [upd_ne (Ne.symm nlm)]; exact eM6
    have ap : ∀ l, Str.ofString "1" ++ rowS l = rowS (true :: l) := fun l => by rw [s1, rowS_append]; rfl
    have ll : ∀ {l : List Bool}, l.length ≤ 4 → (Str.ofString "1").length + (rowS l).length ≤ sizeLine := fun {l} h => by
      rw [s1, rowS_length, rowS_length]
      exact small5 (by simp only [List.length_cons, List.length_nil]; omega)
    have lV : (ms.map (val43 wy)).length < sizeLine := hlen (by rw [List.length_map])
    have lM : (ms.map fun m => V.str (rowS (true :: mk43 wy few m))).length < sizeLine := hlen (by rw [List.length_map])
    have hml4 : (bitsW m (blen (fewN wy few))).length ≤ 4 := by rw [bitsW_length]; exact hbl
    have hw : wy = 0 ∨ wy = 1 ∨ wy = 2 ∨ wy = 3 := by omega
    rcases hw with rfl | rfl | rfl | rfl
    · refine ⟨_, rfl, rfl, _, rfl, iteY rfl ?_⟩
      refine ⟨_, rfl, .inl ⟨rfl, _, SqL.of eV6⟩, lv, _, _, rfl, rfl, eV6, lV, ?_⟩
      iterate 3 refine ⟨_, rfl, rfl, _, rfl, iteN (by decide) ?_⟩
      rw [sE]
      refine ⟨_, rfl, .inl ⟨rfl, _, SqL.of (eM7 _)⟩, _, rfl, .inr ⟨_, _, rfl, rfl, ll (l := []) (by decide), lm, _, _, rfl, rfl, eM7 _, lM, ?_⟩⟩
      rw [ap]
      exact fin _ _ [] _ _ _ (X7 _) upd_same (eM7 _) rfl rfl
    · iterate 1 refine ⟨_, rfl, rfl, _, rfl, iteN (by decide) ?_⟩
      refine ⟨_, rfl, rfl, _, rfl, iteY rfl ?_⟩
      refine ⟨_, rfl, _, _, rfl, rfl, (by show (0 : Int) < 2; decide), _, rfl, .inl ⟨rfl, _, SqL.of eV6⟩, _, rfl, rfl, lv, _, _, rfl, rfl, eV6, lV, ?_⟩
      refine ⟨two_ok43, fun r hr' => ⟨_, rfl, .inl (.inl ⟨_, _, _, _, rfl, rfl, SqL.of upd_same, two_at m, ?_⟩)⟩⟩
      iterate 2 refine ⟨_, rfl, rfl, _, rfl, iteN (by decide) ?_⟩
      have X8 := (X7 (ms.map (val43 1) ++ [V.bl (decide (V.int (((m : Nat) : Int) % 2) = V.int 1))])).trans (Ext.lst (xs := [V.str (Str.ofString "0"), V.str (Str.ofString "1")]) hr')
      have nr : ∀ {x : Addr} {o : HO}, upd H5 lv (.lst (ms.map (val43 1) ++ [V.bl (decide (V.int (((m : Nat) : Int) % 2) = V.int 1))])) x = some o → x ≠ r := fun e z => by rw [z, hr'] at e; cases e
      have eM8 := eM7 (ms.map (val43 1) ++ [V.bl (decide (V.int (((m : Nat) : Int) % 2) = V.int 1))])
      have eM9 := same_new (o := HO.lst [V.str (Str.ofString "0"), V.str (Str.ofString "1")]) hr' _ _ eM8
      refine ⟨_, rfl, .inl ⟨rfl, _, SqL.of eM9⟩, _, rfl, .inr ⟨_, _, rfl, rfl, ll (l := [decide (m % 2 = 1)]) (by simp), lm, _, _, rfl, rfl, eM9, lM, ?_⟩⟩
      rw [ap]
      refine fin _ _ _ _ _ _ X8 (by rw [upd_ne (nr upd_same), upd_same]) eM9 ?_ rfl
      show V.bl _ = V.bl _
      congr 1
      refine decide_eq_decide.mpr ⟨fun h => ?_, fun h => ?_⟩
      · have := V.int.inj h; omega
      · exact congrArg V.int (by omega)
    · iterate 2 refine ⟨_, rfl, rfl, _, rfl, iteN (by decide) ?_⟩
      refine ⟨_, rfl, rfl, _, rfl, iteY rfl ?_⟩
      refine ⟨_, rfl, .inl ⟨rfl, _, SqL.of eV6⟩, _, rfl, .inl ⟨_, _, rfl, rfl, lv, _, _, rfl, rfl, eV6, lV, ?_⟩⟩
      iterate 1 refine ⟨_, rfl, rfl, _, rfl, iteN (by decide) ?_⟩
      refine ⟨_, rfl, .inl ⟨rfl, _, SqL.of (eM7 _)⟩, _, rfl, .inr ⟨_, _, rfl, rfl, ll hml4, lm, _, _, rfl, rfl, eM7 _, lM, ?_⟩⟩
      rw [ap]
      exact fin _ _ _ _ _ _ (X7 _) upd_same (eM7 _) rfl rfl
    · iterate 3 refine ⟨_, rfl, rfl, _, rfl, iteN (by decide) ?_⟩
      refine ⟨_, rfl, rfl, _, rfl, iteY rfl ?_⟩
      refine ⟨_, rfl, .inl ⟨rfl, _, SqL.of eV6⟩, _, rfl, .inr ⟨_, _, _, rfl, rfl, small5 (by decide +kernel), cab_at (show m ≤ 2 by have : fewN 3 few = few % 3 := rfl; omega), lv, _, _, rfl, rfl, eV6, lV, ?_⟩⟩
      refine ⟨_, rfl, .inl ⟨rfl, _, SqL.of (eM7 _)⟩, _, rfl, .inr ⟨_, _, rfl, rfl, ll hml4, lm, _, _, rfl, rfl, eM7 _, lM, ?_⟩⟩
      rw [ap]
      exact fin _ _ _ _ _ _ (X7 _) upd_same (eM7 _) rfl rfl
  rintro σ H4 ⟨ms, z7, z8, z9, rfl, hml, hms, X, eV, eM⟩
  refine ⟨_, rfl, _, rfl, two_ok43, fun t ht => ?_⟩
  have X1 := X.trans (Ext.tup (xs := [V.ref lv, .ref lm]) ht)
  have nlt : ∀ {x : Addr} {o : HO}, H4 x = some o → x ≠ t := fun e z => by rw [z, ht] at e; cases e
  exact ⟨_, X1.sub, q ms t lv lm _ X1 hms (by rw [hml]; exact hn) nlm upd_same (by rw [upd_ne (nlt eV)]; exact eV) (by rw [upd_ne (nlt eM)]; exact eM)⟩

def spAsk (has : Sl → Bool) (ff : D → Bool) (fw : D → List Bool) (c : FC) (CN CW : Addr) (n : Nat) : Sp := fun vs H Q _ => ∃ (wy : Nat) (o : Addr) (one : V) (g : Fm), vs = [.int ((wy : Nat) : Int), .ref o, one] ∧ FAt c [] H g o ∧ okH has g ∧ ht g ≤ n ∧
  ((∃ d, wy = 0 ∧ DAt H d one ∧ fitB ff g d = true ∧ (rowB fw g d).length ≤ 90000 ∧ ∀ t H', Ext H H' → H' t = some (.tup [.str (rowS (rowB fw g d)), .non]) → Q (.ref t) H') ∨
   (∃ d, wy = 0 ∧ DAt H d one ∧ fitB ff g d = false ∧ ∀ e t H', Ext H H' → H' e = some (ExcO e CN none) → H' t = some (.tup [.non, .ref e]) → Q (.ref t) H') ∨
   (∃ d, wy = 1 ∧ one = .str (rowS (rowB fw g d)) ∧ (rowB fw g d).length ≤ 100000 ∧ fitB ff g d = true ∧ ∀ v t H', Ext H H' → DAt H' d v → H' t = some (.tup [v, .non]) → Q (.ref t) H') ∨
   (∃ r l k, (wy = 1 ∨ wy = 2) ∧ one = .str (rowS l) ∧ l.length ≤ 100000 ∧ Bad ff fw g r k ∧ r <+: l ∧ ∀ e dd t H', Ext H H' → H' e = some (ExcO e CW (some dd)) → H' dd = some (xdP ((k : Nat) : Int)) → H' t = some (.tup [.non, .ref e]) → Q (.ref t) H'))
theorem ok_law_asked43 {f CN CW C_RiseError : Addr} {c : FC} {fd : FuncData} {n : Nat} {has : Sl → Bool} {ff : D → Bool} {fw : D → List Bool} (gm_RiseError : mg "RiseError" = some (.ref C_RiseError)) (xc_RiseError : ExcC K C_RiseError) (xt_RiseError : PySem.W.typeIn K (.ref C_RiseError) = some (.type "type")) (hmN : PySem.W.mroIn K CN (.ref C_RiseError) = some true) (hmW : PySem.W.mroIn K CW (.ref C_RiseError) = some true)
    (F : FunAt K mg "_law_asked" s_law_asked ["_law_way", "_law_made", "_law_one"] f fd) (AM_row : AnyM P w K mg base (2 * n + 5) "row" ["self", "value"] (clS c) (fun _ => spRowA has ff fw c n)) (AMB_row : AnyME P w K mg base (2 * n + 5) "row" ["self", "value"] (clS c) (fun _ => spRowBad CN has ff c n))
    (D_read_all : DefOk P w K mg base (2 * n + 6) "read_all" ["form", "signs"] (spReadAll has ff fw c n)) (DB_read_all : DefOkE P w K mg base (2 * n + 6) "read_all" ["form", "signs"] (spReadBad has ff fw c CW n)) (DB_begun_by : DefOkE P w K mg base (2 * n + 6) "begun_by" ["form", "signs"] (spReadBad has ff fw c CW n)) :
    DefOk P w K mg base (2 * n + 7) "_law_asked" ["_law_way", "_law_made", "_law_one"] (spAsk has ff fw c CN CW n) := by
  refine F.ok sc_law_asked (fun vs H Q E h => ?_) (fun cdv A outer s H vs Q E hr h => ?_)
  · obtain ⟨_, _, _, _, rfl, _⟩ := h; rfl
  obtain ⟨wy, o, one, g, rfl, hF, hok, hht, hcase⟩ := h
  obtain ⟨EH, hEH⟩ : ∃ EH : St → XK, EH = fun σ cc d H' => ∃ C z, cc = .ref C ∧ PySem.W.mroIn K C (.ref C_RiseError) = some true ∧ σ = [some (.int ((wy : Nat) : Int)), some (.ref o), some one, some .non, some .non, z] ∧ Ext H H' ∧ ∀ e t H2, Ext H' H2 → H2 e = some (ExcO e C d) → H2 t = some (.tup [.non, .ref e]) → Q (.ref t) H2 := ⟨_, rfl⟩
  refine ⟨_, (pss_cons (ps_set (i := 3) sc_law_asked.nd rfl (by first | exact Or.inl rfl | exact Or.inr rfl) pe_non)
    (pss_cons (ps_set (i := 4) sc_law_asked.nd rfl (by first | exact Or.inl rfl | exact Or.inr rfl) pe_non)
    (pss_cons (ps_try (i := 5) (Eh := EH) (fun _ => (pss_cons (ps_if (pt_cmpR oEq (pv 0) pe_int (nomark _)) (pss_one (ps_set (i := 4) sc_law_asked.nd rfl (by first | exact Or.inl rfl | exact Or.inr rfl) (pe_methAnyE2 AM_row AMB_row hr passes_try (pv 1) (pa_cons (pv 2) pa_nil) (hk := by omega) (hk' := by omega)))) pss_nil)
      (pss_cons (ps_if (pt_cmpR oEq (pv 0) pe_int (nomark _)) (pss_one (ps_set (i := 4) sc_law_asked.nd rfl (by first | exact Or.inl rfl | exact Or.inr rfl) (pe_callE2 D_read_all DB_read_all hr passes_try (pa_cons (pv 1) (pa_cons (pv 2) pa_nil)) (hk := by omega) (hk' := by omega)))) pss_nil)
      (pss_one (ps_if (pt_cmpR oEq (pv 0) pe_int (nomark _)) (pss_one (ps_set (i := 4) sc_law_asked.nd rfl (by first | exact Or.inl rfl | exact Or.inr rfl) (pe_callE DB_begun_by hr passes_try (pa_cons (pv 1) (pa_cons (pv 2) pa_nil)) (hk := by omega)))) pss_nil)))))
      (fun _ _ => (pss_one (ps_set (i := 3) sc_law_asked.nd rfl (by first | exact Or.inl rfl | exact Or.inr rfl) (pv 5)))) gm_RiseError xc_RiseError xt_RiseError sc_law_asked.nd)
    (pss_one (ps_ret (pe_tup (pa_cons (pv 4) (pa_cons (pv 3) pa_nil)))))))), ?_⟩
  obtain ⟨dxi, fsi, ei, li⟩ := FAt.row g hF
  refine ⟨?_, fun σ' C' d H' a hE ha => ?_⟩
  · rcases hcase with ⟨d, rfl, hd, hf, hlen, q⟩ | ⟨d, rfl, hd, hf, q⟩ | ⟨d, rfl, rfl, hlen, hf, q⟩ | ⟨r, l, k, hwy, rfl, hl, hB, hr', q⟩
    · refine ⟨_, rfl, rfl, _, rfl, iteY rfl ⟨_, rfl, o, slot g, dxi, fsi, rfl, ei, li, ?_⟩⟩
      refine ⟨_, rfl, .inl ⟨slot g, o, g, one, d, rfl, rfl, hF, hok, hht, hd, hf, hlen, ?_⟩⟩
      iterate 2 refine ⟨_, rfl, rfl, _, rfl, iteN (by decide) ?_⟩
      exact ⟨_, rfl, _, rfl, two_ok43, fun r hr2 => ⟨_, (Ext.tup hr2).sub, q r _ (Ext.tup hr2) upd_same⟩⟩
    · refine ⟨_, rfl, rfl, _, rfl, iteY rfl ⟨_, rfl, o, slot g, dxi, fsi, rfl, ei, li, ?_⟩⟩
      refine ⟨_, rfl, .inr ⟨o, g, one, d, rfl, hF, hok, hht, hd, hf, ?_⟩⟩
      subst hEH
      exact ⟨CN, _, rfl, hmN, rfl, Ext.refl H, q⟩
    · refine ⟨_, rfl, rfl, _, rfl, iteN (by decide) ⟨_, rfl, rfl, _, rfl, iteY rfl ?_⟩⟩
      refine ⟨_, rfl, _, rfl, .inl ⟨o, g, d, rfl, hF, hok, hht, hlen, hf, fun v H1 X1 hv => ?_⟩⟩
      iterate 1 refine ⟨_, rfl, rfl, _, rfl, iteN (by decide) ?_⟩
      refine ⟨_, rfl, _, rfl, two_ok43, fun r hr2 => ?_⟩
      have X2 := Ext.tup (xs := [v, V.non]) hr2
      exact ⟨_, (X1.trans X2).sub, q v r _ (X1.trans X2) (DAt.same X2.s d hv) upd_same⟩
    · have mk : ∀ σ : St, (∃ z, σ = [some (.int ((wy : Nat) : Int)), some (.ref o), some (.str (rowS l)), some .non, some .non, z]) → ∀ d, H d = none → EH σ (.ref CW) (some d) (upd H d (xdP ((k : Nat) : Int))) := fun σ hσ d hd => by
        obtain ⟨z, rfl⟩ := hσ
        subst hEH
        exact ⟨CW, _, rfl, hmW, rfl, Ext.xdp hd, fun e t H2 X2 he ht => q e d t H2 ((Ext.xdp hd).trans X2) he (X2.s _ _ upd_same) ht⟩
      rcases hwy with rfl | rfl
      · refine ⟨_, rfl, rfl, _, rfl, iteN (by decide) ⟨_, rfl, rfl, _, rfl, iteY rfl ?_⟩⟩
        exact ⟨_, rfl, _, rfl, .inr ⟨o, g, r, l, k, rfl, hF, hok, hht, hl, hB, hr', mk _ ⟨_, rfl⟩⟩⟩
      · refine ⟨_, rfl, rfl, _, rfl, iteN (by decide) ⟨_, rfl, rfl, _, rfl, iteN (by decide) ⟨_, rfl, rfl, _, rfl, iteY rfl ?_⟩⟩⟩
        exact ⟨_, rfl, _, rfl, o, g, r, l, k, rfl, hF, hok, hht, hl, hB, hr', mk _ ⟨_, rfl⟩⟩
  · subst hEH
    obtain ⟨C, z, hc, hm, rfl, X1, q⟩ := hE
    injection hc with hc
    subst hc
    refine ⟨hm, _, rfl, _, rfl, _, rfl, two_ok43, fun r hr2 => ?_⟩
    have X2 := Ext.exc (C := C') (d := d) ha
    have X3 := Ext.tup (xs := [V.non, .ref a]) hr2
    exact ⟨_, (X1.trans (X2.trans X3)).sub, q a r _ (X2.trans X3) (X3.s _ _ upd_same) upd_same⟩

structure Cs43 (ff : D → Bool) (fw : D → List Bool) (g : Fm) (d : D) (row : List Bool) (place : Nat) (good : Bool) : Prop where
  ok : okH has43 g
  fit : fitB ff g d = good
  yes : good = true → row = rowB fw g d
  no : good = false → ∃ r, Bad ff fw g r place ∧ r <+: row
theorem fit_one2 (ff : D → Bool) (g : Fm) (d : D) : fitB ff (.one 2 g) d = fitB ff g d := by rw [fitB]; rfl
theorem row_one2 (fw : D → List Bool) (g : Fm) (d : D) : rowB fw (.one 2 g) d = (rowB fw g d).map (!·) := by rw [rowB]; rfl
theorem Cs43.turn {ff : D → Bool} {fw : D → List Bool} {g : Fm} {d : D} {row : List Bool} {place : Nat} {good : Bool} (h : Cs43 ff fw g d row place good) : Cs43 ff fw (.one 2 g) d (row.map (!·)) place good where
  ok := by
    obtain ⟨h1, h2⟩ := h.ok
    exact ⟨by rw [okF]; exact h1, by rw [inS]; exact ⟨rfl, h2⟩⟩
  fit := by rw [fit_one2]; exact h.fit
  yes := fun z => by rw [row_one2, h.yes z]
  no := fun z => by
    obtain ⟨r, hB, t, rfl⟩ := h.no z
    exact ⟨_, .turned g r place hB, t.map (!·), by rw [List.map_append]⟩
def names43 : List Str := [Str.ofString "b", Str.ofString "a"]
theorem good43 : goodNames names43 = true := by decide +kernel
theorem fit_rec (ff : D → Bool) (g : Fm) (d : D) : fitB ff (.two 0 names43 [.bare 1, g]) (.tup [.bl true, d]) = fitB ff g d := by
  rw [fitB, if_pos rfl]
  show fitL ff [.bare 1, g] [.bl true, d] = _
  rw [fitL]
  show (fitB ff (.bare 1) (.bl true) && fitL ff [g] [d]) = _
  rw [fitB]
  show fitL ff [g] [d] = _
  rw [fitL]
  show (fitB ff g d && fitL ff [] []) = _
  rw [fitL]
  exact Bool.and_true _
theorem row_rec (fw : D → List Bool) (g : Fm) (d : D) : rowB fw (.two 0 names43 [.bare 1, g]) (.tup [.bl true, d]) = true :: rowB fw g d := by
  rw [rowB, if_pos rfl]
  show rowL fw [.bare 1, g] [.bl true, d] = _
  rw [rowL]
  show rowB fw (.bare 1) (.bl true) ++ rowL fw [g] [d] = _
  rw [rowB]
  show [true] ++ rowL fw [g] [d] = _
  rw [rowL]
  show [true] ++ (rowB fw g d ++ rowL fw [] []) = _
  rw [rowL, List.append_nil]; rfl
theorem Cs43.record {ff : D → Bool} {fw : D → List Bool} {g : Fm} {d : D} {row : List Bool} {place : Nat} {good : Bool} (h : Cs43 ff fw g d row place good) : Cs43 ff fw (.two 0 names43 [.bare 1, g]) (.tup [.bl true, d]) (true :: row) (place + 1) good where
  ok := by
    obtain ⟨h1, h2⟩ := h.ok
    refine ⟨?_, ?_⟩
    · rw [okF, okFs, okFs, okFs, okF]; exact ⟨good43, rfl, trivial, h1, trivial⟩
    · rw [inS, inSs, inSs, inSs, inS]; exact ⟨rfl, rfl, h2, trivial⟩
  fit := by rw [fit_rec]; exact h.fit
  yes := fun z => by rw [row_rec, h.yes z]
  no := fun z => by
    obtain ⟨r, hB, t, rfl⟩ := h.no z
    have e : ((List.range [D.bl true].length).map fun i => rowB fw ([Fm.bare 1, g].getD i (.bare 0)) ([D.bl true].getD i .non)).flatten = [true] := by
      show [rowB fw (.bare 1) (.bl true)].flatten = [true]
      rw [rowB]; rfl
    have := Bad.part (ff := ff) (fw := fw) names43 [.bare 1, g] [.bl true] r place (by show 1 < 2; decide) (fun i hi => by
      have : i = 0 := by simpa using hi
      subst this
      show fitB ff (.bare 1) (.bl true) = true
      rw [fitB]; rfl) hB
    rw [e] at this
    refine ⟨_, by rw [Nat.add_comm]; exact this, t, rfl⟩
theorem flat_at {ms : List Nat} {f : Nat → List Bool} {k : Nat} (h : k < ms.length) : (((ms.take k).map fun m => true :: f m).flatten ++ [true]) <+: ((ms.map fun m => true :: f m).flatten ++ [false]) := by
  have e : ms = ms.take k ++ ms.drop k := (List.take_append_drop k ms).symm
  have hd : 0 < (ms.drop k).length := by rw [List.length_drop]; omega
  match hx : ms.drop k, hd with
  | x :: xs, _ =>
    rw [hx] at e
    refine ⟨f x ++ ((xs.map fun m => true :: f m).flatten ++ [false]), ?_⟩
    have e2 : (ms.map fun m => true :: f m) = (ms.take k).map (fun m => true :: f m) ++ ((true :: f x) :: xs.map fun m => true :: f m) := by rw [← List.map_cons (f := fun m => true :: f m), ← List.map_append, ← e]
    rw [e2, List.flatten_append, List.flatten_cons]
    simp only [List.append_assoc, List.cons_append, List.nil_append]
theorem many43 {ff : D → Bool} {fw : D → List Bool} (g : Fm) (dv : Nat → D) (f : Nat → List Bool) (ms : List Nat) (hg : okH has43 (.one 1 g)) (hf : ∀ m, m ∈ ms → fitB ff g (dv m) = true) (hr : ∀ m, m ∈ ms → rowB fw g (dv m) = f m) :
    Cs43 ff fw (.one 1 g) (.lst (ms.map dv)) ((ms.map fun m => true :: f m).flatten ++ [false]) (((ms.take 60).map fun m => true :: f m).flatten).length (decide (ms.length ≤ 60)) := by
  have em : ∀ l : List Nat, (∀ m, m ∈ l → m ∈ ms) → ((l.map dv).map fun d => true :: rowB fw g d) = l.map fun m => true :: f m := fun l hl => by
    rw [List.map_map]
    exact List.map_congr_left fun m hm => congrArg (true :: ·) (hr m (hl m hm))
  refine ⟨hg, ?_, fun _ => ?_, fun z => ?_⟩
  · rw [fitB]
    show (decide ((ms.map dv).length ≤ 60) && (ms.map dv).all (fitB ff g)) = _
    rw [List.length_map, show (ms.map dv).all (fitB ff g) = true from List.all_eq_true.mpr fun d hd => by
      obtain ⟨m, hm, rfl⟩ := List.mem_map.mp hd
      exact hf m hm]
    exact Bool.and_true _
  · rw [rowB]
    show _ = ((ms.map dv).map fun d => true :: rowB fw g d).flatten ++ [false]
    rw [em ms fun _ h => h]
  · have hl : 60 < ms.length := by have := of_decide_eq_false z; omega
    have hB := Bad.many (ff := ff) (fw := fw) g ((ms.take 60).map dv) [] (by rw [List.length_map, List.length_take]; omega) (fun d hd => by
      obtain ⟨m, hm, rfl⟩ := List.mem_map.mp hd
      exact hf m (List.mem_of_mem_take hm))
    rw [em _ fun m hm => List.mem_of_mem_take hm] at hB
    exact ⟨_, hB, flat_at hl⟩
def chr43 (m : Nat) : Nat := (Str.ofString "cab").cps.toList.getD m 0
theorem cab_tab : ∀ a : Fin 3, ∀ m : Fin 3, m ≤ a → ((Str.ofString "cab").cps.toList.take (1 + a.val)).idxOf (chr43 m.val) = m.val ∧ chr43 m.val ∈ (Str.ofString "cab").cps.toList.take (1 + a.val) := by decide +kernel
theorem cab_slen (few : Nat) : (cabN few).length = 1 + few % 3 := by
  show ((Str.ofString "cab").cps.toList.take (1 + few % 3)).toArray.size = _
  rw [List.size_toArray, List.length_take, show (Str.ofString "cab").cps.toList.length = 3 by decide +kernel]
  omega
theorem lets43 {ff : D → Bool} {fw : D → List Bool} (few : Nat) (ms : List Nat) (hm : ∀ m, m ∈ ms → m ≤ few % 3) :
    Cs43 ff fw (.le (cabN few)) (.str ⟨(ms.map chr43).toArray⟩) ((ms.map fun m => true :: bitsW m (blen (few % 3))).flatten ++ [false]) (((ms.take 200).map fun m => true :: bitsW m (blen (few % 3))).flatten).length (decide (ms.length ≤ 200)) := by
  have tab : ∀ m, m ∈ ms → (cabN few).cps.toList.idxOf (chr43 m) = m ∧ chr43 m ∈ (cabN few).cps.toList := fun m h => cab_tab ⟨few % 3, by omega⟩ ⟨m, by have := hm m h; omega⟩ (hm m h)
  have em : ∀ l : List Nat, (∀ m, m ∈ l → m ∈ ms) → ((l.map chr43).map fun c => true :: bitsW ((cabN few).cps.toList.idxOf c) (blen ((cabN few).length - 1))) = l.map fun m => true :: bitsW m (blen (few % 3)) := fun l hl => by
    rw [List.map_map, cab_slen, show 1 + few % 3 - 1 = few % 3 by omega]
    refine List.map_congr_left fun m hm => ?_
    show true :: bitsW ((cabN few).cps.toList.idxOf (chr43 m)) _ = _
    rw [(tab m (hl m hm)).1]
  have mk : ∀ l : List Nat, (∀ m, m ∈ l → m ∈ ms) → madeOf ⟨(l.map chr43).toArray⟩ (cabN few) = true := fun l hl => List.all_eq_true.mpr fun c hc => by
    obtain ⟨m, hm, rfl⟩ := List.mem_map.mp (show c ∈ l.map chr43 from hc)
    exact decide_eq_true (tab m (hl m hm)).2
  have len : ∀ l : List Nat, (⟨(l.map chr43).toArray⟩ : Str).length = l.length := fun l => by
    show ((l.map chr43).toArray).size = _
    rw [List.size_toArray, List.length_map]
  refine ⟨⟨?_, ?_⟩, ?_, fun _ => ?_, fun z => ?_⟩
  · rw [okF]; exact ⟨(cab_ok ⟨few % 3, by omega⟩).1, cab_len few⟩
  · rw [inS]; rfl
  · rw [fitB]
    show (decide ((⟨(ms.map chr43).toArray⟩ : Str).length ≤ 200) && madeOf ⟨(ms.map chr43).toArray⟩ (cabN few)) = _
    rw [mk ms fun _ h => h, len]
    exact Bool.and_true _
  · rw [rowB]
    show _ = ((ms.map chr43).map fun c => true :: bitsW ((cabN few).cps.toList.idxOf c) (blen ((cabN few).length - 1))).flatten ++ [false]
    rw [em ms fun _ h => h]
  · have hl : 200 < ms.length := by have := of_decide_eq_false z; omega
    have hB := Bad.lets (ff := ff) (fw := fw) (cabN few) ⟨((ms.take 200).map chr43).toArray⟩ [] (by rw [len, List.length_take]; omega) (mk _ fun m hm => List.mem_of_mem_take hm)
    rw [show (⟨((ms.take 200).map chr43).toArray⟩ : Str).cps.toList = (ms.take 200).map chr43 from rfl, em _ fun m hm => List.mem_of_mem_take hm] at hB
    exact ⟨_, hB, flat_at hl⟩
def d43 (wy : Nat) (ms : List Nat) : D := if wy = 3 then .str ⟨(ms.map chr43).toArray⟩ else .lst (ms.map (dv43 wy))
def full43 (wy : Nat) : Nat := if wy = 3 then 200 else 60
theorem case43 {ff : D → Bool} {fw : D → List Bool} {wy few : Nat} (ms : List Nat) (hwy : wy < 4) (hfew : few ≤ 8) (hm : ∀ m, m ∈ ms → m ≤ fewN wy few) :
    Cs43 ff fw (form43 wy few) (d43 wy ms) ((ms.map fun m => true :: mk43 wy few m).flatten ++ [false]) (((ms.take (full43 wy)).map fun m => true :: mk43 wy few m).flatten).length (decide (ms.length ≤ full43 wy)) := by
  have hw : wy = 0 ∨ wy = 1 ∨ wy = 2 ∨ wy = 3 := by omega
  have ok1 : ∀ {g : Fm}, okF g → inS has43 g → okH has43 (.one 1 g) := fun a b => ⟨by rw [okF]; exact a, by rw [inS]; exact ⟨rfl, b⟩⟩
  rcases hw with rfl | rfl | rfl | rfl
  · exact many43 (.bare 0) (dv43 0) (mk43 0 few) ms (ok1 (by rw [okF]; trivial) (by rw [inS]; rfl)) (fun m _ => by rw [fitB]; rfl) (fun m _ => by rw [rowB]; rfl)
  · exact many43 (.bare 1) (dv43 1) (mk43 1 few) ms (ok1 (by rw [okF]; trivial) (by rw [inS]; rfl)) (fun m _ => by rw [fitB]; rfl) (fun m _ => by rw [rowB]; rfl)
  · refine many43 (.sp 5 (5 + (few : Int))) (dv43 2) (mk43 2 few) ms (ok1 (by rw [okF]; refine ⟨by omega, by decide, by omega⟩) (by rw [inS]; rfl)) (fun m h => ?_) (fun m h => ?_)
    · rw [fitB]
      have : m ≤ few := hm m h
      exact decide_eq_true (show (5 : Int) ≤ 5 + (m : Int) ∧ 5 + (m : Int) ≤ 5 + (few : Int) by omega)
    · rw [rowB]
      show bitsW (5 + (m : Int) - 5).toNat (blen (5 + (few : Int) - 5).toNat) = bitsW m (blen few)
      rw [show (5 + (m : Int) - 5).toNat = m by omega, show (5 + (few : Int) - 5).toNat = few by omega]
  · exact lets43 few ms hm
theorem row43_len {wy few : Nat} (ms : List Nat) (hfew : few ≤ 8) : ((ms.map fun m => true :: mk43 wy few m).flatten).length ≤ 5 * ms.length := by
  induction ms with
  | nil => exact Nat.zero_le _
  | cons m ms ih =>
    have := mk_len (wy := wy) (m := m) hfew
    rw [List.map_cons, List.flatten_cons, List.length_append, List.length_cons, List.length_cons]
    omega
theorem ht43 (wy few : Nat) : ht (form43 wy few) ≤ 2 := by
  unfold form43
  split
  · rw [ht, ht]; omega
  · split
    · rw [ht, ht]; omega
    · split
      · rw [ht, ht]; omega
      · rw [ht]; omega
theorem dht43 (wy : Nat) (ms : List Nat) : dht (d43 wy ms) ≤ 2 := by
  have h1 : ∀ m, dht (dv43 wy m) ≤ 1 := fun m => by
    unfold dv43
    split
    · rw [dht]; omega
    · split
      · rw [dht]; omega
      · split <;> (rw [dht]; omega)
  have h2 : ∀ l : List Nat, dhts (l.map (dv43 wy)) ≤ 1 := fun l => by
    induction l with
    | nil => rw [List.map_nil, dhts]; omega
    | cons x l ih => rw [List.map_cons, dhts]; have := h1 x; omega
  unfold d43
  split
  · rw [dht]; omega
  · rw [dht]; have := h2 ms; omega
theorem DsAt43 (wy : Nat) (hw : wy ≠ 3) (H : Hp) : ∀ ms : List Nat, DsAt H (ms.map (dv43 wy)) (ms.map (val43 wy))
  | [] => rfl
  | m :: ms => by
    refine ⟨_, _, rfl, ?_, DsAt43 wy hw H ms⟩
    unfold dv43 val43
    split
    · rfl
    · split
      · rfl
      · split
        · rfl
        · exact ⟨rfl, by show 1 ≤ 100000; decide⟩

theorem no_fn {f : Addr} {fd : FuncData} {ps : List Str} {k : Nat} : FnOk P w K mg base CX0 k f fd ps spNo := ⟨fun _ _ _ _ h => h.elim, fun _ _ _ _ _ _ _ _ _ _ _ _ _ h => h.elim⟩
def spLaw (K : PySem.W.Frag) : Sp := fun vs H Q _ => ∃ (a : Addr) (ns : List Int), vs = [.ref a] ∧ SqL K H a (ns.map V.int) ∧ ns.length ≤ 63 ∧ ∀ H', Q (.bl true) H'
structure W43 (ff : D → Bool) (fw : D → List Bool) (c : FC) (n : Nat) (H0 H : Hp) (lv : Addr) (vs : List V) (made : Addr) (value : V) (row : List Bool) (place : Nat) (good : Bool) : Prop where
  x : Same H0 H
  l : H lv = some (.lst vs)
  m : vs.length ≤ 201
  e : ∃ g d, FAt c [] H g made ∧ ht g ≤ n ∧ DAt H d value ∧ dht d ≤ n ∧ Cs43 ff fw g d row place good
  r : row.length ≤ 1006 + n
theorem W43.up {ff : D → Bool} {fw : D → List Bool} {c : FC} {n : Nat} {H0 H : Hp} {lv : Addr} {vs : List V} {made : Addr} {value : V} {row : List Bool} {place : Nat} {good : Bool} (w : W43 ff fw c n H0 H lv vs made value row place good) : W43 ff fw c (n + 1) H0 H lv vs made value row place good where
  x := w.x
  l := w.l
  m := w.m
  e := by
    obtain ⟨g, d, h1, h2, h3, h4, h5⟩ := w.e
    exact ⟨g, d, h1, by omega, h3, by omega, h5⟩
  r := by have := w.r; omega
theorem W43.turned {ff : D → Bool} {fw : D → List Bool} {c : FC} {n : Nat} {H0 H H' : Hp} {lv x dx : Addr} {vs : List V} {made : Addr} {value : V} {row : List Bool} {place : Nat} {good : Bool} (w : W43 ff fw c n H0 H lv vs made value row place good) (X : Same H H') (hx : H' x = some (.ins (c.o 2) dx [("inner", .ref made)])) : W43 ff fw c (n + 1) H0 H' lv vs x value (row.map (!·)) place good where
  x := w.x.trans X
  l := X _ _ w.l
  m := w.m
  e := by
    obtain ⟨g, d, h1, h2, h3, h4, h5⟩ := w.e
    exact ⟨.one 2 g, d, ⟨(fun z => nomatch z), dx, made, hx, FAt.keep (fun b u _ e => X b u e) g h1⟩, by rw [ht]; omega, DAt.same X d h3, by omega, h5.turn⟩
  r := by rw [List.length_map]; have := w.r; omega
theorem W43.record {ff : D → Bool} {fw : D → List Bool} {c : FC} {n : Nat} {H0 H H' : Hp} {lv x dx l1 l2 tr dt t : Addr} {vs : List V} {made : Addr} {value : V} {row : List Bool} {place : Nat} {good : Bool} (w : W43 ff fw c (n + 1) H0 H lv vs made value row place good) (X : Same H H') (hx : H' x = some (.ins (c.t 0) dx (twoF l1 l2))) (h1 : H' l1 = some (.lst (names43.map V.str))) (h2 : H' l2 = some (.lst [.ref tr, .ref made])) (htr : H' tr = some (.ins (c.b 1) dt [])) (hT : H' t = some (.tup [.bl true, value])) : W43 ff fw c (n + 2) H0 H' lv vs x (.ref t) (true :: row) (place + 1) good where
  x := w.x.trans X
  l := X _ _ w.l
  m := w.m
  e := by
    obtain ⟨g, d, g1, g2, g3, g4, g5⟩ := w.e
    have nn : ∀ {b : Addr}, b ∉ ([] : List Addr) := fun z => nomatch z
    refine ⟨.two 0 names43 [.bare 1, g], .tup [.bl true, d], ⟨nn, dx, l1, l2, [tr, made], hx, nn, nn, h1, h2, tr, [made], rfl, ⟨nn, dt, htr⟩, made, [], rfl, FAt.keep (fun b u _ e => X b u e) g g1, rfl⟩, ?_, ⟨t, _, rfl, hT, ⟨_, _, rfl, rfl, _, _, rfl, DAt.same X d g3, rfl⟩, by simp⟩, ?_, g5.record⟩
    · rw [ht, hts, hts, hts, ht]; omega
    · rw [dht, dhts, dhts, dhts, dht]; omega
  r := by rw [List.length_cons]; have := w.r; omega
theorem DsAt_bl43 (H : Hp) : ∀ bs : List Bool, DsAt H (bs.map D.bl) (bs.map V.bl)
  | [] => rfl
  | b :: bs => ⟨_, _, rfl, rfl, DsAt_bl43 H bs⟩
theorem dhts_bl43 : ∀ bs : List Bool, dhts (bs.map D.bl) ≤ 1
  | [] => by rw [List.map_nil, dhts]; omega
  | b :: bs => by
    rw [List.map_cons, dhts, dht]
    have := dhts_bl43 bs
    omega
theorem DAt_bl43 {H : Hp} {a : Addr} {bs : List Bool} (h : H a = some (.lst (bs.map V.bl))) (hl : bs.length ≤ 1000) : DAt H (.lst (bs.map D.bl)) (.ref a) := ⟨a, _, rfl, h, DsAt_bl43 H bs, by rw [List.length_map]; exact hl⟩
theorem dht_bl43 (bs : List Bool) : dht (.lst (bs.map D.bl)) ≤ 60 := by
  rw [dht]
  have := dhts_bl43 bs
  omega
theorem sg43 (b : Bool) : atI [V.str (Str.ofString "1"), V.str (Str.ofString "0")] (if decide (V.str (rowS [b]) = V.str (Str.ofString "1")) = true then 1 else 0) = some (.str (rowS [!b])) := by
  rw [s0, s1, rowS_dec]
  cases b
  · exact atI_nat (j := 0) rfl
  · exact atI_nat (j := 1) rfl
theorem join43 (ms : List Nat) : Txt.join (Str.ofString "") (ms.map cab1) = ⟨(ms.map chr43).toArray⟩ := by
  have e : (Txt.join (Str.ofString "") (ms.map cab1)).cps.toList = ms.map chr43 := by
    rw [join_nil_cps, List.map_map]
    induction ms with
    | nil => rfl
    | cons m ms ih => rw [List.map_cons, List.flatten_cons, ih]; rfl
  have : ∀ s : Str, s = ⟨s.cps.toList.toArray⟩ := fun s => by cases s; rfl
  rw [this (Txt.join _ _), e]
theorem cab_sum (ms : List Nat) : ((ms.map cab1).map (·.length)).sum + (ms.map cab1).length * (Str.ofString "").length = ms.length := by
  have e : (Str.ofString "").length = 0 := by decide +kernel
  rw [e, Nat.mul_zero, Nat.add_zero]
  induction ms with
  | nil => rfl
  | cons b r ih => simp only [List.map_cons, List.sum_cons, ih, List.length_cons]; show 1 + _ = _; omega
theorem cutV_take (l : List V) (n : Nat) : cutV l none (some (n : Int)) = l.take n := by
  unfold cutV HT.sIx
  dsimp only
  rw [if_neg (by omega), List.drop_zero, Nat.sub_zero, Int.toNat_natCast]
  rcases Nat.lt_or_ge n l.length with z | z
  · rw [Nat.min_eq_left (by omega)]
  · rw [Nat.min_eq_right z, List.take_length, List.take_of_length_le z]
structure XPl43 (K : PySem.W.Frag) (C : Addr) : Prop where
  xc : ExcC K C
  hd : PySem.W.hasDictIn K C = true
  nf : PySem.W.findIn K (.ref C) "place" = some none
set_option maxHeartbeats 4000000 in
theorem ok_law43 {f CN CW : Addr} {cs : Cs} {c : FC} {fd : FuncData} {ff : D → Bool} {fw : D → List Bool} (nb : NB mg) (F : Fun K "law" "law" s_law f fd) (kN : Kits K cs CN [true, false, false, false, false, false, false, false, false, false, true]) (kW : Kits K cs CW [false, false, true, false, false, false, false, false, false, false, true]) (pW : XPl43 K CW)
    (M0_Truth : Mk0 K (c.b 1)) (m_Truth : mg "Truth" = some (.ref (c.b 1))) (M_Turned : MakeOk P w K mg base 1 "Turned" (c.o 2) ["self", "inner"] (spOneInit (c.o 2))) (M_Record : MakeOk P w K mg base 4 "Record" (c.t 0) ["self", "parts"] (spTwoInit (c.t 0)))
    (D_law_cell_at : DefOk P w K mg base 1 "_law_cell_at" ["_law_script", "_law_k"] (spCellAt K)) (D_law_parts : DefOk P w K mg base 2 "_law_parts" ["_law_script", "_law_way", "_law_few"] (spParts K)) (D_law_form : DefOk P w K mg base 4 "_law_form" ["_law_way", "_law_few"] (spForm43 c))
    (AM_fits : AnyM P w K mg base 12 "fits" ["self", "value"] (clS c) (spFit has43 ff c 4)) (D_law_asked : DefOk P w K mg base 15 "_law_asked" ["_law_way", "_law_made", "_law_one"] (spAsk has43 ff fw c CN CW 4)) (D_law_kinds : DefOk P w K mg base 1 "_law_kinds" ["_law_kept"] (spKindsG K cs)) : FnOk P w K mg base CX0 16 f fd ["_law_script"] (spLaw K) := by
  refine F.okK sc_law (fun vs H Q E h => ?_) (fun cdv A outer s H vs Q E hr h => ?_)
  · obtain ⟨a, ns, rfl, _⟩ := h; rfl
  obtain ⟨a, ns, rfl, hS, hl, q⟩ := h
  refine ⟨_, (pss_cons (ps_set (i := 1) sc_law.nd rfl (by first | exact Or.inl rfl | exact Or.inr rfl) (pe_callD D_law_cell_at hr (pa_cons (pv 0) (pa_cons pe_int pa_nil))))
    (pss_cons (ps_set (i := 2) sc_law.nd rfl (by first | exact Or.inl rfl | exact Or.inr rfl) (pe_op op_mod (pv 1) pe_int))
    (pss_cons (ps_set (i := 3) sc_law.nd rfl (by first | exact Or.inl rfl | exact Or.inr rfl) (pe_op op_mod (pe_op op_fdiv (pv 1) pe_int) pe_int))
    (pss_cons (ps_asg (pe_callD D_law_parts hr (pa_cons (pv 0) (pa_cons (pv 2) (pa_cons (pv 3) pa_nil)))) (pg_tup rfl (pgs_cons (pg_name (i := 4) sc_law.nd rfl (by first | exact Or.inl rfl | exact Or.inr rfl)) (pgs_cons (pg_name (i := 5) sc_law.nd rfl (by first | exact Or.inl rfl | exact Or.inr rfl)) pgs_nil))))
    (pss_cons (ps_set (i := 6) sc_law.nd rfl (by first | exact Or.inl rfl | exact Or.inr rfl) (pe_callD D_law_form hr (pa_cons (pv 2) (pa_cons (pv 3) pa_nil))))
    (pss_cons (ps_set (i := 7) sc_law.nd rfl (by first | exact Or.inl rfl | exact Or.inr rfl) (pv 4))
    (pss_cut (ps_if (pt_cmpR (oEqD (room64 hr)) (pv 2) pe_int (nomark _)) (pss_one (ps_set (i := 7) sc_law.nd rfl (by first | exact Or.inl rfl | exact Or.inr rfl) (pe_bm PySem.F.plainAttrs_str PySem.F.slot_str_join PySem.F.type_str_join mt_join pe_str (pa_cons (pv 4) pa_nil)))) pss_nil)
    (pss_cons (ps_set (i := 8) sc_law.nd rfl (by first | exact Or.inl rfl | exact Or.inr rfl) (pe_ix iAll (pe_lst (pa_cons pe_int (pa_cons pe_int pa_nil))) (pe_callTy call_intA rfl nb.int_ bo_int (pa_cons (pe_cmpR (oEqD (room64 hr)) (pv 2) pe_int (nomark _)) pa_nil)) (fun _ _ => rfl)))
    (pss_cons (ps_set (i := 9) sc_law.nd rfl (by first | exact Or.inl rfl | exact Or.inr rfl) (pe_op oAdd3 (pe_bm PySem.F.plainAttrs_str PySem.F.slot_str_join PySem.F.type_str_join mt_join pe_str (pa_cons (pv 5) pa_nil)) pe_str))
    (pss_cons (ps_set (i := 10) sc_law.nd rfl (by first | exact Or.inl rfl | exact Or.inr rfl) (pe_callB call_len rfl nb.len_ bo_len (pa_cons (pe_bm PySem.F.plainAttrs_str PySem.F.slot_str_join PySem.F.type_str_join mt_join pe_str (pa_cons (pe_slice slAll (pv 5) po_none (po_some (pv 8))) pa_nil)) pa_nil)))
    (pss_cut (ps_if (pt_cmpR (oEqD (room64 hr)) (pe_op op_mod (pe_op op_fdiv (pv 1) pe_int) pe_int) pe_int (nomark _)) (pss_cons (ps_set (i := 6) sc_law.nd rfl (by first | exact Or.inl rfl | exact Or.inr rfl) (pe_makeD M_Turned hr (pa_cons (pv 6) pa_nil)))
      (pss_one (ps_set (i := 9) sc_law.nd rfl (by first | exact Or.inl rfl | exact Or.inr rfl) (pe_bm PySem.F.plainAttrs_str PySem.F.slot_str_join PySem.F.type_str_join mt_join pe_str (pa_cons (pe_comp ["_law_sign"] [] rfl (by decide +kernel) trivial (piAll (pv 9)) (fun _ _ _ _ _ => (pg_name (i := 0) (show (["_law_sign"] : List Str).Nodup by decide +kernel) rfl (by first | exact Or.inl rfl | exact Or.inr rfl))) (fun _ _ _ _ _ => pts_nil) (fun _ _ _ _ _ => (pe_ix iAll (pe_lst (pa_cons pe_str (pa_cons pe_str pa_nil))) (pe_callTy call_intA rfl nb.int_ bo_int (pa_cons (pe_cmpR (oEqD (room64 hr)) (pv 0) pe_str (nomark _)) pa_nil)) (fun _ _ => rfl)))) pa_nil))))) pss_nil)
    (pss_cut (ps_if (pt_cmpR (oEqD (room64 hr)) (pe_op op_mod (pe_op op_fdiv (pv 1) pe_int) pe_int) pe_int (nomark _)) (pss_cons (ps_set (i := 6) sc_law.nd rfl (by first | exact Or.inl rfl | exact Or.inr rfl) (pe_makeD M_Record hr (pa_cons (pe_lst (pa_cons (pe_tup (pa_cons pe_str (pa_cons (pe_makeN0 M0_Truth rfl m_Truth) pa_nil))) (pa_cons (pe_tup (pa_cons pe_str (pa_cons (pv 6) pa_nil))) pa_nil))) pa_nil)))
      (pss_cons (ps_set (i := 7) sc_law.nd rfl (by first | exact Or.inl rfl | exact Or.inr rfl) (pe_tup (pa_cons pe_bl (pa_cons (pv 7) pa_nil))))
      (pss_cons (ps_set (i := 9) sc_law.nd rfl (by first | exact Or.inl rfl | exact Or.inr rfl) (pe_op oAdd3 pe_str (pv 9)))
      (pss_one (ps_set (i := 10) sc_law.nd rfl (by first | exact Or.inl rfl | exact Or.inr rfl) (pe_op oAdd3 (pv 10) pe_int)))))) pss_nil)
    (pss_cons (ps_set (i := 11) sc_law.nd rfl (by first | exact Or.inl rfl | exact Or.inr rfl) (pe_cmpR oLe (pe_callB call_len rfl nb.len_ bo_len (pa_cons (pv 4) pa_nil)) (pv 8) (nomark _)))
    (pss_cut (ps_if (pt_cmpR (oNeD (room64 hr)) (pe_methAny AM_fits hr (pv 6) (pa_cons (pv 7) pa_nil)) (pv 11) (nomark _)) (pss_one (ps_ret pe_bl)) pss_nil)
    (pss_cons (ps_asg (pe_callD D_law_asked hr (pa_cons pe_int (pa_cons (pv 6) (pa_cons (pv 7) pa_nil)))) (pg_tup rfl (pgs_cons (pg_name (i := 12) sc_law.nd rfl (by first | exact Or.inl rfl | exact Or.inr rfl)) (pgs_cons (pg_name (i := 13) sc_law.nd rfl (by first | exact Or.inl rfl | exact Or.inr rfl)) pgs_nil))))
    (pss_cut (ps_if (pt_truth (pv 11) (fun _ => rfl)) (pss_one (ps_ret (pe_and (pe_cmpR op_isN (pv 13) pe_non (nomark _)) (pe_and (pe_cmpR (oEqD (room64 hr)) (pv 12) (pv 9) (nomark _)) (pe_one (pe_cmpR (oEqD (room64 hr)) (pe_ix iAll (pe_callD D_law_asked hr (pa_cons pe_int (pa_cons (pv 6) (pa_cons (pv 9) pa_nil)))) pe_int (fun _ _ => rfl)) (pv 7) (nomark _))))))) pss_nil)
    (pss_cut (ps_if (pt_cmpR (oNeD (room64 hr)) (pe_callD D_law_kinds hr (pa_cons (pv 13) pa_nil)) (pe_op oAdd3 (pe_op oAdd3 (pe_lst (pa_cons pe_bl pa_nil)) (pe_op oMul3 (pe_lst (pa_cons pe_bl pa_nil)) pe_int)) (pe_lst (pa_cons pe_bl pa_nil))) (nomark _)) (pss_one (ps_ret pe_bl)) pss_nil)
    (pss_cons (ps_for PassesOwn.never rfl (piAll (pe_lst (pa_cons pe_int (pa_cons pe_int pa_nil)))) (pg_name (i := 14) sc_law.nd rfl (by first | exact Or.inl rfl | exact Or.inr rfl))
      (pss_cons (ps_set (i := 13) sc_law.nd rfl (by first | exact Or.inl rfl | exact Or.inr rfl) (pe_ix iAll (pe_callD D_law_asked hr (pa_cons (pv 14) (pa_cons (pv 6) (pa_cons (pv 9) pa_nil)))) pe_int (fun _ _ => rfl)))
      (pss_one (ps_if (PW.pt (pw_or (pt_cmpR (oNeD (room64 hr)) (pe_callD D_law_kinds hr (pa_cons (pv 13) pa_nil)) (pe_op oAdd3 (pe_op oAdd3 (pe_op oAdd3 (pe_op oMul3 (pe_lst (pa_cons pe_bl pa_nil)) pe_int) (pe_lst (pa_cons pe_bl pa_nil))) (pe_op oMul3 (pe_lst (pa_cons pe_bl pa_nil)) pe_int)) (pe_lst (pa_cons pe_bl pa_nil))) (nomark _)) (pw_or1 (pt_cmpR (oNeD (room64 hr)) (pe_fldE (pv 13) rfl) (pv 10) (nomark _))))) (pss_one (ps_ret pe_bl)) pss_nil))))
    (pss_one (ps_ret pe_bl)))))))))))))))))))), ?_⟩
  obtain ⟨wy, hwy, ewy⟩ := mod43 (ns.getD 0 0) 4 (by decide)
  have ewy : ns.getD 0 0 % 4 = ((wy : Nat) : Int) := ewy
  obtain ⟨few, hfew, efew⟩ := mod43 (ns.getD 0 0 / 4) 9 (by decide)
  have efew : ns.getD 0 0 / 4 % 9 = ((few : Nat) : Int) := efew
  have hfew : few ≤ 8 := by omega
  refine ⟨_, rfl, a, ns, 0, rfl, hS, hl, _, rfl, _, _, rfl, rfl, (by show (0 : Int) < 4; decide), _, rfl, _, _, rfl, rfl, ⟨by decide, by decide⟩, _, _, rfl, rfl, (by show (0 : Int) < 9; decide), ?_⟩
  dsimp only
  rw [ewy, efew]
  refine ⟨_, rfl, _, rfl, _, rfl, a, ns, wy, few, rfl, hS, hl, hwy, hfew, fun ms tp lv lm H1 X1 hms hlen nlm hT hV hM => ?_⟩
  refine ⟨tp, _, rfl, SqT.of hT, rfl, _, _, rfl, _, _, rfl, rfl, ?_⟩
  refine ⟨_, rfl, _, rfl, wy, few, [], rfl, hwy, hfew, (fun x hx => nomatch hx), fun made H2 X2 hF => ?_⟩
  have hV2 := X2.s _ _ hV
  have hM2 := X2.s _ _ hM
  have X12 := X1.trans X2
  refine ⟨_, rfl, ?_⟩
  refine ⟨fun σ' H' => H' = H2 ∧ ∃ v, DAt H2 (d43 wy ms) v ∧ σ' = [some (.ref a), some (.int (ns.getD 0 0)), some (.int ((wy : Nat) : Int)), some (.int ((few : Nat) : Int)), some (.ref lv), some (.ref lm), some (.ref made), some v, none, none, none, none, none, none, none], ?_, ?_⟩
  · refine ⟨_, rfl, .inl ⟨rfl, _, rfl, iteD (fun c1 => ?_) (fun c1 => ?_)⟩⟩
    · have e3 : wy = 3 := by have := V.int.inj c1; omega
      subst e3
      have ev : ms.map (val43 3) = (ms.map cab1).map V.str := by rw [List.map_map]; rfl
      refine ⟨rfl, _, rfl, _, lv, ms.map cab1, rfl, rfl, SqL.of (by rw [hV2, ev]), ?_, rfl, _, ?_, rfl⟩
      · rw [cab_sum]; exact small5 (by have := long_le hlen; omega)
      · rw [join43]
        exact ⟨rfl, by show ((ms.map chr43).toArray).size ≤ _; rw [List.size_toArray, List.length_map]; have := long_le hlen; omega⟩
    · have e3 : wy ≠ 3 := fun z => c1 (by rw [z]; rfl)
      refine ⟨rfl, _, ?_, rfl⟩
      show DAt H2 (d43 wy ms) (.ref lv)
      unfold d43
      rw [if_neg e3]
      exact ⟨lv, _, rfl, hV2, DsAt43 wy e3 H2 ms, by rw [List.length_map]; have := long_le hlen; omega⟩
  rintro σ1 H1' ⟨rfl, v, hv, rfl⟩
  refine ⟨two_ok43, fun r0 hr0 => ?_⟩
  have hat : atI [V.int 60, V.int 200] (if decide (V.int ((wy : Nat) : Int) = V.int 3) = true then 1 else 0) = some (.int ((full43 wy : Nat) : Int)) := by
    unfold full43
    by_cases z : wy = 3
    · rw [if_pos z, if_pos (decide_eq_true (by rw [z]; rfl))]; exact atI_nat (j := 1) rfl
    · rw [if_neg z, if_neg (fun y => z (by have := V.int.inj (of_decide_eq_true y); omega))]; exact atI_nat (j := 0) rfl
  refine ⟨_, rfl, .inl ⟨rfl, .inl (.inr ⟨_, rfl, .inl (.inl ⟨_, _, _, _, rfl, rfl, SqL.of upd_same, hat, ?_⟩)⟩)⟩⟩
  have X3 := Ext.lst (xs := [V.int 60, V.int 200]) hr0
  have hl201 := long_le hlen
  have erow : ∀ l : List Nat, (l.map fun m => V.str (rowS (true :: mk43 wy few m))) = ((l.map fun m => true :: mk43 wy few m).map rowS).map V.str := fun l => by rw [List.map_map, List.map_map]; rfl
  have hrl := row43_len (wy := wy) ms hfew
  have hjl : (((ms.map fun m => true :: mk43 wy few m).map rowS).map (·.length)).sum + ((ms.map fun m => true :: mk43 wy few m).map rowS).length * (Str.ofString "").length ≤ sizeLine := by
    rw [rows_sum]; exact small5 (by omega)
  refine ⟨rfl, _, rfl, _, lm, (ms.map fun m => true :: mk43 wy few m).map rowS, rfl, rfl, SqL.of (by rw [← erow]; exact X3.s _ _ hM2), hjl, .inl (.inr ⟨_, _, rfl, rfl, ?_, ?_⟩)⟩
  · rw [join_rows, s0, rowS_length, rowS_length]; exact small5 (by simp only [List.length_cons, List.length_nil]; omega)
  rw [join_rows, s0, rowS_append]
  refine ⟨rfl, _, rfl, _, rfl, _, rfl, .inl ⟨lm, _, rfl, SqL.of (X3.s _ _ hM2), fun p hp => ?_⟩⟩
  have hrt := row43_len (wy := wy) (ms.take (full43 wy)) hfew
  have htl : (ms.take (full43 wy)).length ≤ 201 := by rw [List.length_take]; omega
  have hjt : ((((ms.take (full43 wy)).map fun m => true :: mk43 wy few m).map rowS).map (·.length)).sum + (((ms.take (full43 wy)).map fun m => true :: mk43 wy few m).map rowS).length * (Str.ofString "").length ≤ sizeLine := by
    rw [rows_sum]; exact small5 (by omega)
  refine ⟨_, p, ((ms.take (full43 wy)).map fun m => true :: mk43 wy few m).map rowS, rfl, rfl, SqL.of (by rw [upd_same, ← erow, List.map_take]; exact congrArg (fun x => some (HO.lst x)) (cutV_take _ _)), hjt, ?_⟩
  refine ⟨_, _, rfl, ⟨?_, rfl⟩, ?_⟩
  · rw [join_rows, rowS_length]; exact small5 (by omega)
  rw [join_rows, rowS_length]
  have X4 := X3.trans (Ext.lst (xs := cutV (ms.map fun m => V.str (rowS (true :: mk43 wy few m))) none (some ((full43 wy : Nat) : Int))) hp)
  have W0 : W43 ff fw c 2 H _ lv (ms.map (val43 wy)) made v ((ms.map fun m => true :: mk43 wy few m).flatten ++ [false]) (((ms.take (full43 wy)).map fun m => true :: mk43 wy few m).flatten).length (decide (ms.length ≤ full43 wy)) :=
    ⟨(X12.trans X4).s, X4.s _ _ hV2, by rw [List.length_map]; exact hl201, ⟨form43 wy few, d43 wy ms, FAt.keep (fun b u _ e => X4.s b u e) _ hF, ht43 wy few, DAt.same X4.s _ hv, dht43 wy ms, case43 ms hwy hfew hms⟩, by rw [List.length_append, List.length_singleton]; omega⟩
  have elen : (ms.map (val43 wy)).length = ms.length := List.length_map ..
  generalize ((ms.take (full43 wy)).map fun m => true :: mk43 wy few m).flatten.length = place at W0 ⊢
  generalize (ms.map fun m => true :: mk43 wy few m).flatten ++ [false] = row at W0 ⊢
  generalize upd (upd H1' r0 _) p _ = H4 at W0 ⊢
  refine ⟨fun σ' H' => ∃ (made : Addr) (row : List Bool), W43 ff fw c 3 H H' lv (ms.map (val43 wy)) made v row place (decide (ms.length ≤ full43 wy)) ∧ σ' = [some (.ref a), some (.int (ns.getD 0 0)), some (.int ((wy : Nat) : Int)), some (.int ((few : Nat) : Int)), some (.ref lv), some (.ref lm), some (.ref made), some v, some (.int ((full43 wy : Nat) : Int)), some (.str (rowS row)), some (.int ((place : Nat) : Int)), none, none, none, none], ?_, ?_⟩
  · refine ⟨_, rfl, _, _, rfl, rfl, ⟨by decide, by decide⟩, _, _, rfl, rfl, (by show (0 : Int) < 2; decide), .inl ⟨rfl, _, rfl, iteD (fun c1 => ?_) (fun c1 => ⟨made, row, W0.up, rfl⟩)⟩⟩
    refine ⟨_, rfl, fun x dx h1 h2 h3 => ⟨x, dx, made, rfl, upd_same, rfl, ?_⟩⟩
    rw [upd_upd']
    have X5 := Ext.made (C := c.o 2) (fs := [("inner", V.ref made)]) h1 h2 h3
    refine ⟨rfl, .inr ⟨_, rfl, _, rfl, fun D1 hD1 => ?_⟩⟩
    have hrow := W0.r
    refine comp_allQ row.length (fun i => .str (rowS [row.getD i false])) (fun i => .str (rowS [!row.getD i false])) (fun σ => σ.length = 1) (by omega) rfl hD1 (fun i H hi => ?_) (fun H => ?_) ?_ ?_ ?_
    · show i < (rowS row).cps.size; simpa [rowS] using hi
    · show (rowS row).cps.size ≤ row.length; simp [rowS]
    · rintro i H1 x H2 hi ⟨rfl, ch, hc, rfl⟩
      exact ⟨rfl, row_sign hc⟩
    · intro i σ1 H1 hi hS1 _ R hR
      obtain ⟨z, rfl⟩ := one_slot hS1
      refine ⟨two_ok43, fun r hr' => ⟨_, rfl, .inl ⟨rfl, .inl (.inr ⟨_, rfl, .inl (.inl ⟨_, _, _, _, rfl, rfl, SqL.of upd_same, sg43 _, hR _ _ rfl (Ext.lst hr')⟩)⟩)⟩⟩⟩
    intro H6 X6 hD6
    refine ⟨_, D1, (row.map (!·)).map fun b => rowS [b], rfl, rfl, SqL.of ?_, ?_, ?_⟩
    · rw [hD6]; exact congrArg (fun x => some (HO.lst x)) (map_ones row (!·) fun i _ => rfl)
    · rw [join_len, List.length_map]; exact small5 (by omega)
    rw [join_bits]
    exact ⟨x, row.map (!·), W0.turned (X5.trans X6).s (X6.s _ _ upd_same), rfl⟩
  rintro σ2 H5 ⟨made2, row2, W1, rfl⟩
  refine ⟨fun σ' H' => ∃ (made : Addr) (row : List Bool) (v : V) (place : Nat), W43 ff fw c 4 H H' lv (ms.map (val43 wy)) made v row place (decide (ms.length ≤ full43 wy)) ∧ σ' = [some (.ref a), some (.int (ns.getD 0 0)), some (.int ((wy : Nat) : Int)), some (.int ((few : Nat) : Int)), some (.ref lv), some (.ref lm), some (.ref made), some v, some (.int ((full43 wy : Nat) : Int)), some (.str (rowS row)), some (.int ((place : Nat) : Int)), none, none, none, none], ?_, ?_⟩
  · refine ⟨_, rfl, _, _, rfl, rfl, ⟨by decide, by decide⟩, _, _, rfl, rfl, (by show (0 : Int) < 2; decide), .inl ⟨rfl, _, rfl, iteD (fun c1 => ?_) (fun c1 => ⟨made2, row2, v, place, W1.up, rfl⟩)⟩⟩
    refine fun tr dt g1 g2 g3 => ⟨two_ok43, fun T1 hT1 => ⟨_, rfl, two_ok43, fun T2 hT2 => ⟨two_ok43, fun L hL => ?_⟩⟩⟩
    have E1 := Ext.made (C := c.b 1) (fs := []) g1 g2 g3
    have E2 := Ext.tup (xs := [V.str (Str.ofString "b"), .ref tr]) hT1
    have E3 := Ext.tup (xs := [V.str (Str.ofString "a"), .ref made2]) hT2
    have E4 := Ext.lst (xs := [V.ref T1, .ref T2]) hL
    have etr := (E2.trans (E3.trans E4)).s _ _ (upd_same (H := upd H5 dt (.own tr)) (a := tr) (o := .ins (c.b 1) dt []))
    have eT1 := (E3.trans E4).s _ _ (upd_same (a := T1) (o := .tup [V.str (Str.ofString "b"), .ref tr]))
    have eT2 := E4.s _ _ (upd_same (a := T2) (o := .tup [V.str (Str.ofString "a"), .ref made2]))
    have EA := E1.trans (E2.trans (E3.trans E4))
    have eL := upd_same (H := upd (upd (upd (upd H5 dt (.own tr)) tr (.ins (c.b 1) dt [])) T1 (.tup [V.str (Str.ofString "b"), .ref tr])) T2 (.tup [V.str (Str.ofString "a"), .ref made2])) (a := L) (o := .lst [V.ref T1, .ref T2])
    generalize upd (upd (upd (upd (upd H5 dt (.own tr)) tr (.ins (c.b 1) dt [])) T1 _) T2 _) L _ = H7 at EA etr eT1 eT2 eL ⊢
    refine fun x dx h1 h2 h3 => ?_
    have M := Ext.made (C := c.t 0) (fs := []) h1 h2 h3
    refine ⟨x, dx, L, [(T1, Str.ofString "b", tr), (T2, Str.ofString "a", made2)], rfl, upd_same, ⟨M.s _ _ eL, fun y hy => ?_, by show 2 ≤ _; decide, fun y hy => ?_⟩, good43, fun l1 l2 hl1 hl2 hne => ⟨rfl, ?_⟩⟩
    · rcases List.mem_cons.mp hy with rfl | hy
      · exact M.s _ _ eT1
      · rw [List.mem_singleton.mp hy]; exact M.s _ _ eT2
    · rcases List.mem_cons.mp hy with rfl | hy
      · exact (by decide +kernel : (Str.ofString "b").length ≤ 100)
      · rw [List.mem_singleton.mp hy]; exact (by decide +kernel : (Str.ofString "a").length ≤ 100)
    have hx1 : x ≠ l1 := fun z => by rw [← z, upd_same] at hl1; cases hl1
    have hx2 : x ≠ l2 := fun z => by rw [← z, upd_same] at hl2; cases hl2
    have sN : Same H7 (upd (upd (upd (upd (upd H7 dx (.own x)) x (.ins (c.t 0) dx [])) l1 (.lst (names43.map V.str))) l2 (.lst [V.ref tr, .ref made2])) x (.ins (c.t 0) dx (twoF l1 l2))) := fun b u e => by
      have e' := M.s b u e
      rw [upd_ne (ne_of_none e h1), upd_ne (ne_of_none e' hl2), upd_ne (ne_of_none e' hl1)]
      exact e'
    have e1 : upd (upd (upd (upd (upd H7 dx (.own x)) x (.ins (c.t 0) dx [])) l1 (.lst (names43.map V.str))) l2 (.lst [V.ref tr, .ref made2])) x (.ins (c.t 0) dx (twoF l1 l2)) l1 = some (.lst (names43.map V.str)) := by rw [upd_ne (Ne.symm hx1), upd_ne hne, upd_same]
    have e2 : upd (upd (upd (upd (upd H7 dx (.own x)) x (.ins (c.t 0) dx [])) l1 (.lst (names43.map V.str))) l2 (.lst [V.ref tr, .ref made2])) x (.ins (c.t 0) dx (twoF l1 l2)) l2 = some (.lst [V.ref tr, .ref made2]) := by rw [upd_ne (Ne.symm hx2), upd_same]
    have e3 := upd_same (H := upd (upd (upd (upd H7 dx (.own x)) x (.ins (c.t 0) dx [])) l1 (.lst (names43.map V.str))) l2 (.lst [V.ref tr, .ref made2])) (a := x) (o := .ins (c.t 0) dx (twoF l1 l2))
    show tSeq _ _ _ _ (upd (upd (upd (upd (upd H7 dx (.own x)) x (.ins (c.t 0) dx [])) l1 (.lst (names43.map V.str))) l2 (.lst [V.ref tr, .ref made2])) x (.ins (c.t 0) dx (twoF l1 l2)))
    generalize upd (upd (upd (upd (upd H7 dx (.own x)) x (.ins (c.t 0) dx [])) l1 (.lst (names43.map V.str))) l2 (.lst [V.ref tr, .ref made2])) x (.ins (c.t 0) dx (twoF l1 l2)) = H8 at sN e1 e2 e3 ⊢
    refine ⟨_, rfl, two_ok43, fun t ht => ?_⟩
    have E5 := Ext.tup (xs := [V.bl true, v]) ht
    have W3 := W1.record (EA.s.trans (sN.trans E5.s)) (E5.s _ _ e3) (E5.s _ _ e1) (E5.s _ _ e2) (E5.s _ _ (sN _ _ etr)) upd_same
    refine ⟨_, rfl, .inl (.inr ⟨_, _, rfl, rfl, ?_, ?_⟩)⟩
    · rw [s1, rowS_length, rowS_length]; have := W1.r; exact small5 (by simp only [List.length_cons, List.length_nil]; omega)
    refine ⟨_, rfl, .inl (.inl ⟨_, _, rfl, rfl, x, true :: row2, .ref t, place + 1, W3, ?_⟩)⟩
    rw [s1, rowS_append]; rfl
  rintro σ3 H6 ⟨made3, row3, v3, place3, W2, rfl⟩
  obtain ⟨g, d, hF3, hht, hd3, hdd, C3⟩ := W2.e
  have eG : decide (((ms.map (val43 wy)).length : Int) ≤ ((full43 wy : Nat) : Int)) = decide (ms.length ≤ full43 wy) := by
    rw [elen]; exact decide_eq_decide.mpr ⟨fun h => by omega, fun h => by omega⟩
  refine ⟨_, rfl, _, _, rfl, .inl ⟨_, SqL.of W2.l, rfl⟩, _, rfl, _, _, rfl, rfl, ?_⟩
  dsimp only
  rw [eG]
  generalize decide (ms.length ≤ full43 wy) = good at C3 W2 ⊢
  obtain ⟨dxi, fsi, ei, li⟩ := FAt.fits g hF3
  refine ⟨fun σ' H' => H' = H6 ∧ σ' = [some (.ref a), some (.int (ns.getD 0 0)), some (.int ((wy : Nat) : Int)), some (.int ((few : Nat) : Int)), some (.ref lv), some (.ref lm), some (.ref made3), some v3, some (.int ((full43 wy : Nat) : Int)), some (.str (rowS row3)), some (.int ((place3 : Nat) : Int)), some (.bl good), none, none, none], ?_, ?_⟩
  · refine ⟨_, rfl, made3, slot g, dxi, fsi, rfl, ei, li, _, rfl, made3, g, v3, d, rfl, rfl, hF3, C3.ok, hht, hd3, _, rfl, .inr ⟨.bl _, .bl good, rfl, rfl, by rw [dht]; omega, _, rfl, ?_⟩⟩
    rw [C3.fit, eqDD_refl]
    exact iteF ⟨rfl, rfl⟩
  rintro σ4 H7 ⟨rfl, rfl⟩
  have hrow := W2.r
  cases good with
  | true =>
    refine ⟨_, rfl, _, rfl, 0, made3, v3, g, rfl, hF3, C3.ok, hht, .inl ⟨d, rfl, hd3, C3.fit, by rw [← C3.yes rfl]; omega, fun t H8 X8 ht => ?_⟩⟩
    rw [← C3.yes rfl] at ht
    refine ⟨t, _, rfl, SqT.of ht, rfl, _, _, rfl, _, _, rfl, rfl, ?_⟩
    refine ⟨fun _ _ => False, ?_, fun _ _ z => z.elim⟩
    refine ⟨_, rfl, true, rfl, iteT ?_⟩
    refine ⟨_, rfl, rfl, _, rfl, iteY rfl ⟨_, rfl, _, rfl, .inl ⟨rfl, _, rfl, iteY rfl ?_⟩⟩⟩
    refine ⟨_, rfl, _, rfl, 1, made3, _, g, rfl, FAt.keep (fun b u _ e => X8.s b u e) g hF3, C3.ok, hht, .inr (.inr (.inl ⟨d, rfl, by rw [← C3.yes rfl], by rw [← C3.yes rfl]; omega, C3.fit, fun v9 t9 H9 X9 hv9 ht9 => ?_⟩))⟩
    refine .inl (.inr ⟨_, _, _, _, rfl, rfl, SqT.of ht9, atI_nat (j := 0) rfl, _, rfl, .inr ⟨d, d, hv9, DAt.same (X8.trans X9).s d hd3, by omega, ?_⟩⟩)
    rw [eqDD_refl]
    exact ⟨H, .refl (W2.x.trans (X8.trans X9).s), q _⟩
  | false =>
    refine ⟨_, rfl, _, rfl, 0, made3, v3, g, rfl, hF3, C3.ok, hht, .inr (.inl ⟨d, rfl, hd3, C3.fit, fun e t H8 X8 he ht => ?_⟩)⟩
    refine ⟨t, _, rfl, SqT.of ht, rfl, _, _, rfl, _, _, rfl, rfl, ?_⟩
    refine ⟨fun σ' H' => H' = H8 ∧ σ' = [some (.ref a), some (.int (ns.getD 0 0)), some (.int ((wy : Nat) : Int)), some (.int ((few : Nat) : Int)), some (.ref lv), some (.ref lm), some (.ref made3), some v3, some (.int ((full43 wy : Nat) : Int)), some (.str (rowS row3)), some (.int ((place3 : Nat) : Int)), some (.bl false), some .non, some (.ref e), none], ⟨_, rfl, false, rfl, iteF ⟨rfl, rfl⟩⟩, ?_⟩
    rintro σ5 H9 ⟨rfl, rfl⟩
    refine ⟨fun σ' H' => Same H9 H' ∧ σ' = [some (.ref a), some (.int (ns.getD 0 0)), some (.int ((wy : Nat) : Int)), some (.int ((few : Nat) : Int)), some (.ref lv), some (.ref lm), some (.ref made3), some v3, some (.int ((full43 wy : Nat) : Int)), some (.str (rowS row3)), some (.int ((place3 : Nat) : Int)), some (.bl false), some .non, some (.ref e), none], ?_, ?_⟩
    · refine ⟨_, rfl, _, rfl, .inr ⟨e, CN, none, _, rfl, he, .inl rfl, kN, fun p1 hp1 => ?_⟩⟩
      have u0 := same_new (o := HO.lst ([true, false, false, false, false, false, false, false, false, false, true].map V.bl)) hp1
      refine ⟨one_ok, fun q1 k1 => ⟨one_ok, fun q2 k2 => .inr ⟨q2, 9, _, rfl, rfl, upd_same, by decide, by decide, (by show 1 * 9 ≤ sizeLine; decide), fun q3 k3 => ?_⟩⟩⟩
      have u1 := same_new (o := HO.lst [V.bl true]) k1
      have u2 := same_new (o := HO.lst [V.bl false]) k2
      have u3 := same_new (o := HO.lst (List.replicate (9 : Int).toNat [V.bl false]).flatten) k3
      refine .inr ⟨q1, q3, _, _, rfl, rfl, u3 _ _ (u2 _ _ upd_same), upd_same, (by show 1 + 9 ≤ sizeLine; decide), fun q4 k4 => ⟨one_ok, fun q5 k5 => ?_⟩⟩
      have u4 := same_new (o := HO.lst ([V.bl true] ++ (List.replicate (9 : Int).toNat [V.bl false]).flatten)) k4
      have u5 := same_new (o := HO.lst [V.bl true]) k5
      refine .inr ⟨q4, q5, _, _, rfl, rfl, u5 _ _ upd_same, upd_same, (by show 10 + 1 ≤ sizeLine; decide), fun q6 k6 => ?_⟩
      have u6 := same_new (o := HO.lst (([V.bl true] ++ (List.replicate (9 : Int).toNat [V.bl false]).flatten) ++ [V.bl true])) k6
      have t6 := ((((u1.trans u2).trans u3).trans u4).trans u5).trans u6
      refine .inr ⟨_, _, DAt_bl43 (bs := [true, false, false, false, false, false, false, false, false, false, true]) (t6 _ _ upd_same) (by decide), DAt_bl43 (bs := [true, false, false, false, false, false, false, false, false, false, true]) upd_same (by decide), dht_bl43 _, _, rfl, ?_⟩
      rw [eqDD_refl]
      exact iteF ⟨u0.trans t6, rfl⟩
    rintro σ6 H10 ⟨s10, rfl⟩
    have lp : List.lookup (Str.ofString "place") [((Str.ofString "place" : Str), V.int ((place3 : Nat) : Int))] = some (.int ((place3 : Nat) : Int)) := by simp [List.lookup]
    have s7 := (X8.s.trans s10)
    obtain ⟨rb, hB, hpre⟩ := C3.no rfl
    refine .inl ⟨two_ok43, fun L hL => ⟨L, rfl, ⟨_, SqL.of upd_same⟩, ?_⟩⟩
    have sL := same_new (o := HO.lst [V.int 1, V.int 2]) hL
    refine for_list (xs := [V.int 1, V.int 2]) (fun i σ H2 => Same H7 H2 ∧ H2 L = some (.lst [V.int 1, V.int 2]) ∧ ∃ z13 z14, σ = [some (.ref a), some (.int (ns.getD 0 0)), some (.int ((wy : Nat) : Int)), some (.int ((few : Nat) : Int)), some (.ref lv), some (.ref lm), some (.ref made3), some v3, some (.int ((full43 wy : Nat) : Int)), some (.str (rowS row3)), some (.int ((place3 : Nat) : Int)), some (.bl false), some .non, z13, z14]) ⟨s7.trans sL, upd_same, _, _, rfl⟩ (fun i σ H h1 h2 => SqL.of h2.2.1) ?_ ?_
    · rintro i x σ H11 hx ⟨s11, hL11, z13, z14, rfl⟩
      obtain ⟨wq, hwq, rfl⟩ : ∃ wq : Nat, (wq = 1 ∨ wq = 2) ∧ x = V.int ((wq : Nat) : Int) := by
        match i, hx with
        | 0, h => exact ⟨1, .inl rfl, by cases h; rfl⟩
        | 1, h => exact ⟨2, .inr rfl, by cases h; rfl⟩
        | n + 2, h => cases h
      refine ⟨_, rfl, _, rfl, _, rfl, wq, made3, _, g, rfl, FAt.keep (fun b u _ e => s11 b u e) g hF3, C3.ok, hht, .inr (.inr (.inr ⟨rb, row3, place3, hwq, rfl, by omega, hB, hpre, fun e dd t H12 X12 he hdd' ht12 => ?_⟩))⟩
      refine .inl (.inr ⟨_, _, _, _, rfl, rfl, SqT.of ht12, atI_nat (j := 1) rfl, ?_⟩)
      refine ⟨_, rfl, _, rfl, .inr ⟨e, CW, some dd, _, rfl, he, .inr ⟨dd, _, rfl, hdd'⟩, kW, fun p1 hp1 => ?_⟩⟩
      have u0 := same_new (o := HO.lst ([false, false, true, false, false, false, false, false, false, false, true].map V.bl)) hp1
      refine ⟨one_ok, fun q1 k1 => .inr ⟨q1, 2, _, rfl, rfl, upd_same, by decide, by decide, (by show 1 * 2 ≤ sizeLine; decide), fun q2 k2 => ⟨one_ok, fun q3 k3 => ?_⟩⟩⟩
      have u1 := same_new (o := HO.lst [V.bl false]) k1
      have u2 := same_new (o := HO.lst (List.replicate (2 : Int).toNat [V.bl false]).flatten) k2
      have u3 := same_new (o := HO.lst [V.bl true]) k3
      refine .inr ⟨q2, q3, _, _, rfl, rfl, u3 _ _ upd_same, upd_same, (by show 2 + 1 ≤ sizeLine; decide), fun q4 k4 => ⟨one_ok, fun q5 k5 => .inr ⟨q5, 7, _, rfl, rfl, upd_same, by decide, by decide, (by show 1 * 7 ≤ sizeLine; decide), fun q6 k6 => ?_⟩⟩⟩
      have u4 := same_new (o := HO.lst ((List.replicate (2 : Int).toNat [V.bl false]).flatten ++ [V.bl true])) k4
      have u5 := same_new (o := HO.lst [V.bl false]) k5
      have u6 := same_new (o := HO.lst (List.replicate (7 : Int).toNat [V.bl false]).flatten) k6
      refine .inr ⟨q4, q6, _, _, rfl, rfl, u6 _ _ (u5 _ _ upd_same), upd_same, (by show 3 + 7 ≤ sizeLine; decide), fun q7 k7 => ⟨one_ok, fun q8 k8 => ?_⟩⟩
      have u7 := same_new (o := HO.lst (((List.replicate (2 : Int).toNat [V.bl false]).flatten ++ [V.bl true]) ++ (List.replicate (7 : Int).toNat [V.bl false]).flatten)) k7
      have u8 := same_new (o := HO.lst [V.bl true]) k8
      refine .inr ⟨q7, q8, _, _, rfl, rfl, u8 _ _ upd_same, upd_same, (by show 10 + 1 ≤ sizeLine; decide), fun q9 k9 => ?_⟩
      have u9 := same_new (o := HO.lst ((((List.replicate (2 : Int).toNat [V.bl false]).flatten ++ [V.bl true]) ++ (List.replicate (7 : Int).toNat [V.bl false]).flatten) ++ [V.bl true])) k9
      have t9 := (((u1.trans u2).trans u3).trans (u4.trans u5)).trans ((u6.trans u7).trans (u8.trans u9))
      refine .inr ⟨_, _, DAt_bl43 (bs := [false, false, true, false, false, false, false, false, false, false, true]) (t9 _ _ upd_same) (by decide), DAt_bl43 (bs := [false, false, true, false, false, false, false, false, false, false, true]) upd_same (by decide), dht_bl43 _, _, rfl, ?_⟩
      rw [eqDD_refl]
      have ta := u0.trans t9
      refine iteF ⟨_, rfl, e, CW, dd, _, _, rfl, ta _ _ he, ta _ _ hdd', pW.xc, pW.hd, pW.nf, lp, _, rfl, .inl ⟨rfl, _, rfl, ?_⟩⟩
      rw [decide_eq_true rfl]
      exact iteF ⟨s11.trans (X12.s.trans ta), ta _ _ (X12.s _ _ hL11), _, _, rfl⟩
    rintro σ7 H11 ⟨s11, hL11, z13, z14, rfl⟩
    exact ⟨H, .refl (W2.x.trans s11), q _⟩
theorem ex1 (us : List Value) (hl : us.length = 1) : ∃ a : Value, us = [a] := match us, hl with | [a], _ => ⟨a, rfl⟩
theorem ex2 (us : List Value) (hl : us.length = 2) : ∃ a b : Value, us = [a, b] := match us, hl with | [a, b], _ => ⟨a, b, rfl⟩
theorem ex3 (us : List Value) (hl : us.length = 3) : ∃ a b c : Value, us = [a, b, c] := match us, hl with | [a, b, c], _ => ⟨a, b, c, rfl⟩
set_option maxHeartbeats 16000000 in
theorem all_mk {l : PySem.W.OpenLaw} {w : World} {K : PySem.W.Frag} {h : Heap} {mg : Str → Option Value} {fa : Addr} (X : K.In h) (G : h.Ns mainGlobals mg) (hfa : mg "law" = some (.ref fa))
    {C_Source : Addr} {f_Source_init : Addr} {od_x0 an_x0 : Option Addr} {sl_x0 : Array (Option Value)} {oc_x0 kV_x0 dc_x0 pm_x0 cd_x0 ct_x0 : Value} {f_Source_draw : Addr} {od_x1 an_x1 : Option Addr} {sl_x1 : Array (Option Value)} {oc_x1 kV_x1 dc_x1 pm_x1 cd_x1 ct_x1 : Value} {f_Source_turn : Addr} {od_x2 an_x2 : Option Addr} {sl_x2 : Array (Option Value)} {oc_x2 kV_x2 dc_x2 pm_x2 cd_x2 ct_x2 : Value} {f_Source_go_on : Addr} {od_x3 an_x3 : Option Addr} {sl_x3 : Array (Option Value)} {oc_x3 kV_x3 dc_x3 pm_x3 cd_x3 ct_x3 : Value} {f_Source_refuse : Addr} {od_x4 an_x4 : Option Addr} {sl_x4 : Array (Option Value)} {oc_x4 kV_x4 dc_x4 pm_x4 cd_x4 ct_x4 : Value} {C_Nothing : Addr} {f_Nothing_fits : Addr} {od_x5 an_x5 : Option Addr} {sl_x5 : Array (Option Value)} {oc_x5 kV_x5 dc_x5 pm_x5 cd_x5 ct_x5 : Value} {f_Nothing_written : Addr} {od_x6 an_x6 : Option Addr} {sl_x6 : Array (Option Value)} {oc_x6 kV_x6 dc_x6 pm_x6 cd_x6 ct_x6 : Value} {f_Nothing_draw : Addr} {od_x7 an_x7 : Option Addr} {sl_x7 : Array (Option Value)} {oc_x7 kV_x7 dc_x7 pm_x7 cd_x7 ct_x7 : Value} {f_Nothing_row : Addr} {od_x8 an_x8 : Option Addr} {sl_x8 : Array (Option Value)} {oc_x8 kV_x8 dc_x8 pm_x8 cd_x8 ct_x8 : Value} {C_Truth : Addr} {f_Truth_fits : Addr} {od_x9 an_x9 : Option Addr} {sl_x9 : Array (Option Value)} {oc_x9 kV_x9 dc_x9 pm_x9 cd_x9 ct_x9 : Value} {f_Truth_written : Addr} {od_x10 an_x10 : Option Addr} {sl_x10 : Array (Option Value)} {oc_x10 kV_x10 dc_x10 pm_x10 cd_x10 ct_x10 : Value} {f_Truth_draw : Addr} {od_x11 an_x11 : Option Addr} {sl_x11 : Array (Option Value)} {oc_x11 kV_x11 dc_x11 pm_x11 cd_x11 ct_x11 : Value} {f_Truth_row : Addr} {od_x12 an_x12 : Option Addr} {sl_x12 : Array (Option Value)} {oc_x12 kV_x12 dc_x12 pm_x12 cd_x12 ct_x12 : Value} {C_Span : Addr} {f_Span_init : Addr} {od_x13 an_x13 : Option Addr} {sl_x13 : Array (Option Value)} {oc_x13 kV_x13 dc_x13 pm_x13 cd_x13 ct_x13 : Value} {f_Span_fits : Addr} {od_x14 an_x14 : Option Addr} {sl_x14 : Array (Option Value)} {oc_x14 kV_x14 dc_x14 pm_x14 cd_x14 ct_x14 : Value} {f_Span_written : Addr} {od_x15 an_x15 : Option Addr} {sl_x15 : Array (Option Value)} {oc_x15 kV_x15 dc_x15 pm_x15 cd_x15 ct_x15 : Value} {f_Span_draw : Addr} {od_x16 an_x16 : Option Addr} {sl_x16 : Array (Option Value)} {oc_x16 kV_x16 dc_x16 pm_x16 cd_x16 ct_x16 : Value} {f_Span_row : Addr} {od_x17 an_x17 : Option Addr} {sl_x17 : Array (Option Value)} {oc_x17 kV_x17 dc_x17 pm_x17 cd_x17 ct_x17 : Value} {C_Letters : Addr} {f_Letters_init : Addr} {od_x18 an_x18 : Option Addr} {sl_x18 : Array (Option Value)} {oc_x18 kV_x18 dc_x18 pm_x18 cd_x18 ct_x18 : Value} {f_Letters_fits : Addr} {od_x19 an_x19 : Option Addr} {sl_x19 : Array (Option Value)} {oc_x19 kV_x19 dc_x19 pm_x19 cd_x19 ct_x19 : Value} {f_Letters_places : Addr} {od_x20 an_x20 : Option Addr} {sl_x20 : Array (Option Value)} {oc_x20 kV_x20 dc_x20 pm_x20 cd_x20 ct_x20 : Value} {f_Letters_written : Addr} {od_x21 an_x21 : Option Addr} {sl_x21 : Array (Option Value)} {oc_x21 kV_x21 dc_x21 pm_x21 cd_x21 ct_x21 : Value} {f_Letters_draw : Addr} {od_x22 an_x22 : Option Addr} {sl_x22 : Array (Option Value)} {oc_x22 kV_x22 dc_x22 pm_x22 cd_x22 ct_x22 : Value} {f_Letters_row : Addr} {od_x23 an_x23 : Option Addr} {sl_x23 : Array (Option Value)} {oc_x23 kV_x23 dc_x23 pm_x23 cd_x23 ct_x23 : Value} {C_Many : Addr} {f_Many_init : Addr} {od_x24 an_x24 : Option Addr} {sl_x24 : Array (Option Value)} {oc_x24 kV_x24 dc_x24 pm_x24 cd_x24 ct_x24 : Value} {f_Many_fits : Addr} {od_x25 an_x25 : Option Addr} {sl_x25 : Array (Option Value)} {oc_x25 kV_x25 dc_x25 pm_x25 cd_x25 ct_x25 : Value} {f_Many_written : Addr} {od_x26 an_x26 : Option Addr} {sl_x26 : Array (Option Value)} {oc_x26 kV_x26 dc_x26 pm_x26 cd_x26 ct_x26 : Value} {f_Many_draw : Addr} {od_x27 an_x27 : Option Addr} {sl_x27 : Array (Option Value)} {oc_x27 kV_x27 dc_x27 pm_x27 cd_x27 ct_x27 : Value} {f_Many_row : Addr} {od_x28 an_x28 : Option Addr} {sl_x28 : Array (Option Value)} {oc_x28 kV_x28 dc_x28 pm_x28 cd_x28 ct_x28 : Value} {C_Turned : Addr} {f_Turned_init : Addr} {od_x29 an_x29 : Option Addr} {sl_x29 : Array (Option Value)} {oc_x29 kV_x29 dc_x29 pm_x29 cd_x29 ct_x29 : Value} {f_Turned_fits : Addr} {od_x30 an_x30 : Option Addr} {sl_x30 : Array (Option Value)} {oc_x30 kV_x30 dc_x30 pm_x30 cd_x30 ct_x30 : Value} {f_Turned_written : Addr} {od_x31 an_x31 : Option Addr} {sl_x31 : Array (Option Value)} {oc_x31 kV_x31 dc_x31 pm_x31 cd_x31 ct_x31 : Value} {f_Turned_draw : Addr} {od_x32 an_x32 : Option Addr} {sl_x32 : Array (Option Value)} {oc_x32 kV_x32 dc_x32 pm_x32 cd_x32 ct_x32 : Value} {f_Turned_row : Addr} {od_x33 an_x33 : Option Addr} {sl_x33 : Array (Option Value)} {oc_x33 kV_x33 dc_x33 pm_x33 cd_x33 ct_x33 : Value} {C_Record : Addr} {f_Record_init : Addr} {od_x34 an_x34 : Option Addr} {sl_x34 : Array (Option Value)} {oc_x34 kV_x34 dc_x34 pm_x34 cd_x34 ct_x34 : Value} {f_Record_fits : Addr} {od_x35 an_x35 : Option Addr} {sl_x35 : Array (Option Value)} {oc_x35 kV_x35 dc_x35 pm_x35 cd_x35 ct_x35 : Value} {f_Record_written : Addr} {od_x36 an_x36 : Option Addr} {sl_x36 : Array (Option Value)} {oc_x36 kV_x36 dc_x36 pm_x36 cd_x36 ct_x36 : Value} {f_Record_draw : Addr} {od_x37 an_x37 : Option Addr} {sl_x37 : Array (Option Value)} {oc_x37 kV_x37 dc_x37 pm_x37 cd_x37 ct_x37 : Value} {f_Record_row : Addr} {od_x38 an_x38 : Option Addr} {sl_x38 : Array (Option Value)} {oc_x38 kV_x38 dc_x38 pm_x38 cd_x38 ct_x38 : Value} {C_RiseError : Addr} {C_NoFit : Addr} {C_Short : Addr} {C_Wrong : Addr} {C_Left : Addr} {C_NoForm : Addr} {C_NoText : Addr} {C_NotAhead : Addr} {C_BadPage : Addr} {C_Twice : Addr} {C_Lacking : Addr} {f_Wrong_init : Addr} {od_x39 an_x39 : Option Addr} {sl_x39 : Array (Option Value)} {oc_x39 kV_x39 dc_x39 pm_x39 cd_x39 ct_x39 : Value} {f_Left_init : Addr} {od_x40 an_x40 : Option Addr} {sl_x40 : Array (Option Value)} {oc_x40 kV_x40 dc_x40 pm_x40 cd_x40 ct_x40 : Value} {f_turned_row : Addr} {od_x41 an_x41 : Option Addr} {sl_x41 : Array (Option Value)} {oc_x41 kV_x41 dc_x41 pm_x41 cd_x41 ct_x41 : Value} {f_lower_digits : Addr} {od_x42 an_x42 : Option Addr} {sl_x42 : Array (Option Value)} {oc_x42 kV_x42 dc_x42 pm_x42 cd_x42 ct_x42 : Value} {f_fixed_row : Addr} {od_x43 an_x43 : Option Addr} {sl_x43 : Array (Option Value)} {oc_x43 kV_x43 dc_x43 pm_x43 cd_x43 ct_x43 : Value} {f_draw_fixed : Addr} {od_x44 an_x44 : Option Addr} {sl_x44 : Array (Option Value)} {oc_x44 kV_x44 dc_x44 pm_x44 cd_x44 ct_x44 : Value} {f_is_number : Addr} {od_x45 an_x45 : Option Addr} {sl_x45 : Array (Option Value)} {oc_x45 kV_x45 dc_x45 pm_x45 cd_x45 ct_x45 : Value} {f_made_of : Addr} {od_x46 an_x46 : Option Addr} {sl_x46 : Array (Option Value)} {oc_x46 kV_x46 dc_x46 pm_x46 cd_x46 ct_x46 : Value} {f_is_name : Addr} {od_x47 an_x47 : Option Addr} {sl_x47 : Array (Option Value)} {oc_x47 kV_x47 dc_x47 pm_x47 cd_x47 ct_x47 : Value} {f_names_of : Addr} {od_x48 an_x48 : Option Addr} {sl_x48 : Array (Option Value)} {oc_x48 kV_x48 dc_x48 pm_x48 cd_x48 ct_x48 : Value} {f_value_of : Addr} {od_x49 an_x49 : Option Addr} {sl_x49 : Array (Option Value)} {oc_x49 kV_x49 dc_x49 pm_x49 cd_x49 ct_x49 : Value} {f_read_all : Addr} {od_x50 an_x50 : Option Addr} {sl_x50 : Array (Option Value)} {oc_x50 kV_x50 dc_x50 pm_x50 cd_x50 ct_x50 : Value} {f_begun_by : Addr} {od_x51 an_x51 : Option Addr} {sl_x51 : Array (Option Value)} {oc_x51 kV_x51 dc_x51 pm_x51 cd_x51 ct_x51 : Value} {f_law_cell_at : Addr} {od_x52 an_x52 : Option Addr} {sl_x52 : Array (Option Value)} {oc_x52 kV_x52 dc_x52 pm_x52 cd_x52 ct_x52 : Value} {f_law_kinds : Addr} {od_x53 an_x53 : Option Addr} {sl_x53 : Array (Option Value)} {oc_x53 kV_x53 dc_x53 pm_x53 cd_x53 ct_x53 : Value} {f_law_form : Addr} {od_x54 an_x54 : Option Addr} {sl_x54 : Array (Option Value)} {oc_x54 kV_x54 dc_x54 pm_x54 cd_x54 ct_x54 : Value} {f_law_parts : Addr} {od_x55 an_x55 : Option Addr} {sl_x55 : Array (Option Value)} {oc_x55 kV_x55 dc_x55 pm_x55 cd_x55 ct_x55 : Value} {f_law_asked : Addr} {od_x56 an_x56 : Option Addr} {sl_x56 : Array (Option Value)} {oc_x56 kV_x56 dc_x56 pm_x56 cd_x56 ct_x56 : Value} {f_law : Addr} {od_x57 an_x57 : Option Addr} {sl_x57 : Array (Option Value)} {oc_x57 kV_x57 dc_x57 pm_x57 cd_x57 ct_x57 : Value} {tk_MOST_SIGNS : Tok} {tk_LONGEST_TEXT : Tok} {tk_MOST_VALUES : Tok} {tk_MOST_PARTS : Tok} {tk_LONGEST_NAME : Tok} {tk_SMALL_LETTERS : Tok} {tk_LETTERS_AND_FIGURES : Tok}
    (aC_Source : PySem.W.nsIn K mainGlobals "Source" = some (some (.ref C_Source)))
    (pg_Source : PySem.W.plainGet K C_Source Str.empty = true)
    (hd_Source : PySem.W.hasDictIn K C_Source = true)
    (po_Source : PySem.W.plainOver K C_Source = true)
    (sa_Source : PySem.W.findIn K (.ref C_Source) "__setattr__" = some (some (.builtin "object.__setattr__")))
    (mk_Source : PySem.W.makesIn K C_Source = true)
    (kc_Source : PySem.W.keepIn K (.ref C_Source) = true)
    (n_Source_signs : PySem.W.findIn K (.ref C_Source) "signs" = some none)
    (n_Source_place : PySem.W.findIn K (.ref C_Source) "place" = some none)
    (n_Source_turned : PySem.W.findIn K (.ref C_Source) "turned" = some none)
    (n_Source_endless : PySem.W.findIn K (.ref C_Source) "endless" = some none)
    (n_Source_wished : PySem.W.findIn K (.ref C_Source) "wished" = some none)
    (a_Source_init : PySem.W.findIn K (.ref C_Source) "__init__" = some (some (.ref f_Source_init)))
    (i_Source_init : PySem.W.isFn K (.ref f_Source_init) = true)
    (l_Source_init : K.lookup f_Source_init = some ⟨oc_x0, od_x0, .func (PySem.W.fnOf "__init__" "Source.__init__" (defArgs s_Source_init) (defBody s_Source_init) (defScope s_Source_init) .none kV_x0 dc_x0 pm_x0 an_x0 cd_x0 ct_x0), sl_x0⟩)
    (c_Source_init : PySem.W.codeIn K cd_x0 "Source.__init__" = true)
    (k_Source_init : PySem.W.keepIn K (.ref f_Source_init) = true)
    (a_Source_draw : PySem.W.findIn K (.ref C_Source) "draw" = some (some (.ref f_Source_draw)))
    (i_Source_draw : PySem.W.isFn K (.ref f_Source_draw) = true)
    (l_Source_draw : K.lookup f_Source_draw = some ⟨oc_x1, od_x1, .func (PySem.W.fnOf "draw" "Source.draw" (defArgs s_Source_draw) (defBody s_Source_draw) (defScope s_Source_draw) .none kV_x1 dc_x1 pm_x1 an_x1 cd_x1 ct_x1), sl_x1⟩)
    (c_Source_draw : PySem.W.codeIn K cd_x1 "Source.draw" = true)
    (k_Source_draw : PySem.W.keepIn K (.ref f_Source_draw) = true)
    (a_Source_turn : PySem.W.findIn K (.ref C_Source) "turn" = some (some (.ref f_Source_turn)))
    (i_Source_turn : PySem.W.isFn K (.ref f_Source_turn) = true)
    (l_Source_turn : K.lookup f_Source_turn = some ⟨oc_x2, od_x2, .func (PySem.W.fnOf "turn" "Source.turn" (defArgs s_Source_turn) (defBody s_Source_turn) (defScope s_Source_turn) .none kV_x2 dc_x2 pm_x2 an_x2 cd_x2 ct_x2), sl_x2⟩)
    (c_Source_turn : PySem.W.codeIn K cd_x2 "Source.turn" = true)
    (k_Source_turn : PySem.W.keepIn K (.ref f_Source_turn) = true)
    (a_Source_go_on : PySem.W.findIn K (.ref C_Source) "go_on" = some (some (.ref f_Source_go_on)))
    (i_Source_go_on : PySem.W.isFn K (.ref f_Source_go_on) = true)
    (l_Source_go_on : K.lookup f_Source_go_on = some ⟨oc_x3, od_x3, .func (PySem.W.fnOf "go_on" "Source.go_on" (defArgs s_Source_go_on) (defBody s_Source_go_on) (defScope s_Source_go_on) .none kV_x3 dc_x3 pm_x3 an_x3 cd_x3 ct_x3), sl_x3⟩)
    (c_Source_go_on : PySem.W.codeIn K cd_x3 "Source.go_on" = true)
    (k_Source_go_on : PySem.W.keepIn K (.ref f_Source_go_on) = true)
    (a_Source_refuse : PySem.W.findIn K (.ref C_Source) "refuse" = some (some (.ref f_Source_refuse)))
    (i_Source_refuse : PySem.W.isFn K (.ref f_Source_refuse) = true)
    (l_Source_refuse : K.lookup f_Source_refuse = some ⟨oc_x4, od_x4, .func (PySem.W.fnOf "refuse" "Source.refuse" (defArgs s_Source_refuse) (defBody s_Source_refuse) (defScope s_Source_refuse) .none kV_x4 dc_x4 pm_x4 an_x4 cd_x4 ct_x4), sl_x4⟩)
    (c_Source_refuse : PySem.W.codeIn K cd_x4 "Source.refuse" = true)
    (k_Source_refuse : PySem.W.keepIn K (.ref f_Source_refuse) = true)
    (aC_Nothing : PySem.W.nsIn K mainGlobals "Nothing" = some (some (.ref C_Nothing)))
    (pg_Nothing : PySem.W.plainGet K C_Nothing Str.empty = true)
    (hd_Nothing : PySem.W.hasDictIn K C_Nothing = true)
    (po_Nothing : PySem.W.plainOver K C_Nothing = true)
    (sa_Nothing : PySem.W.findIn K (.ref C_Nothing) "__setattr__" = some (some (.builtin "object.__setattr__")))
    (mk_Nothing : PySem.W.makesIn K C_Nothing = true)
    (kc_Nothing : PySem.W.keepIn K (.ref C_Nothing) = true)
    (i0_Nothing : PySem.W.findIn K (.ref C_Nothing) "__init__" = some (some (.builtin "object.__init__")))
    (a_Nothing_fits : PySem.W.findIn K (.ref C_Nothing) "fits" = some (some (.ref f_Nothing_fits)))
    (i_Nothing_fits : PySem.W.isFn K (.ref f_Nothing_fits) = true)
    (l_Nothing_fits : K.lookup f_Nothing_fits = some ⟨oc_x5, od_x5, .func (PySem.W.fnOf "fits" "Nothing.fits" (defArgs s_Nothing_fits) (defBody s_Nothing_fits) (defScope s_Nothing_fits) .none kV_x5 dc_x5 pm_x5 an_x5 cd_x5 ct_x5), sl_x5⟩)
    (c_Nothing_fits : PySem.W.codeIn K cd_x5 "Nothing.fits" = true)
    (k_Nothing_fits : PySem.W.keepIn K (.ref f_Nothing_fits) = true)
    (a_Nothing_written : PySem.W.findIn K (.ref C_Nothing) "written" = some (some (.ref f_Nothing_written)))
    (i_Nothing_written : PySem.W.isFn K (.ref f_Nothing_written) = true)
    (l_Nothing_written : K.lookup f_Nothing_written = some ⟨oc_x6, od_x6, .func (PySem.W.fnOf "written" "Nothing.written" (defArgs s_Nothing_written) (defBody s_Nothing_written) (defScope s_Nothing_written) .none kV_x6 dc_x6 pm_x6 an_x6 cd_x6 ct_x6), sl_x6⟩)
    (c_Nothing_written : PySem.W.codeIn K cd_x6 "Nothing.written" = true)
    (k_Nothing_written : PySem.W.keepIn K (.ref f_Nothing_written) = true)
    (a_Nothing_draw : PySem.W.findIn K (.ref C_Nothing) "draw" = some (some (.ref f_Nothing_draw)))
    (i_Nothing_draw : PySem.W.isFn K (.ref f_Nothing_draw) = true)
    (l_Nothing_draw : K.lookup f_Nothing_draw = some ⟨oc_x7, od_x7, .func (PySem.W.fnOf "draw" "Nothing.draw" (defArgs s_Nothing_draw) (defBody s_Nothing_draw) (defScope s_Nothing_draw) .none kV_x7 dc_x7 pm_x7 an_x7 cd_x7 ct_x7), sl_x7⟩)
    (c_Nothing_draw : PySem.W.codeIn K cd_x7 "Nothing.draw" = true)
    (k_Nothing_draw : PySem.W.keepIn K (.ref f_Nothing_draw) = true)
    (a_Nothing_row : PySem.W.findIn K (.ref C_Nothing) "row" = some (some (.ref f_Nothing_row)))
    (i_Nothing_row : PySem.W.isFn K (.ref f_Nothing_row) = true)
    (l_Nothing_row : K.lookup f_Nothing_row = some ⟨oc_x8, od_x8, .func (PySem.W.fnOf "row" "Form.row" (defArgs s_Form_row) (defBody s_Form_row) (defScope s_Form_row) .none kV_x8 dc_x8 pm_x8 an_x8 cd_x8 ct_x8), sl_x8⟩)
    (c_Nothing_row : PySem.W.codeIn K cd_x8 "Form.row" = true)
    (k_Nothing_row : PySem.W.keepIn K (.ref f_Nothing_row) = true)
    (aC_Truth : PySem.W.nsIn K mainGlobals "Truth" = some (some (.ref C_Truth)))
    (pg_Truth : PySem.W.plainGet K C_Truth Str.empty = true)
    (hd_Truth : PySem.W.hasDictIn K C_Truth = true)
    (po_Truth : PySem.W.plainOver K C_Truth = true)
    (sa_Truth : PySem.W.findIn K (.ref C_Truth) "__setattr__" = some (some (.builtin "object.__setattr__")))
    (mk_Truth : PySem.W.makesIn K C_Truth = true)
    (kc_Truth : PySem.W.keepIn K (.ref C_Truth) = true)
    (i0_Truth : PySem.W.findIn K (.ref C_Truth) "__init__" = some (some (.builtin "object.__init__")))
    (a_Truth_fits : PySem.W.findIn K (.ref C_Truth) "fits" = some (some (.ref f_Truth_fits)))
    (i_Truth_fits : PySem.W.isFn K (.ref f_Truth_fits) = true)
    (l_Truth_fits : K.lookup f_Truth_fits = some ⟨oc_x9, od_x9, .func (PySem.W.fnOf "fits" "Truth.fits" (defArgs s_Truth_fits) (defBody s_Truth_fits) (defScope s_Truth_fits) .none kV_x9 dc_x9 pm_x9 an_x9 cd_x9 ct_x9), sl_x9⟩)
    (c_Truth_fits : PySem.W.codeIn K cd_x9 "Truth.fits" = true)
    (k_Truth_fits : PySem.W.keepIn K (.ref f_Truth_fits) = true)
    (a_Truth_written : PySem.W.findIn K (.ref C_Truth) "written" = some (some (.ref f_Truth_written)))
    (i_Truth_written : PySem.W.isFn K (.ref f_Truth_written) = true)
    (l_Truth_written : K.lookup f_Truth_written = some ⟨oc_x10, od_x10, .func (PySem.W.fnOf "written" "Truth.written" (defArgs s_Truth_written) (defBody s_Truth_written) (defScope s_Truth_written) .none kV_x10 dc_x10 pm_x10 an_x10 cd_x10 ct_x10), sl_x10⟩)
    (c_Truth_written : PySem.W.codeIn K cd_x10 "Truth.written" = true)
    (k_Truth_written : PySem.W.keepIn K (.ref f_Truth_written) = true)
    (a_Truth_draw : PySem.W.findIn K (.ref C_Truth) "draw" = some (some (.ref f_Truth_draw)))
    (i_Truth_draw : PySem.W.isFn K (.ref f_Truth_draw) = true)
    (l_Truth_draw : K.lookup f_Truth_draw = some ⟨oc_x11, od_x11, .func (PySem.W.fnOf "draw" "Truth.draw" (defArgs s_Truth_draw) (defBody s_Truth_draw) (defScope s_Truth_draw) .none kV_x11 dc_x11 pm_x11 an_x11 cd_x11 ct_x11), sl_x11⟩)
    (c_Truth_draw : PySem.W.codeIn K cd_x11 "Truth.draw" = true)
    (k_Truth_draw : PySem.W.keepIn K (.ref f_Truth_draw) = true)
    (a_Truth_row : PySem.W.findIn K (.ref C_Truth) "row" = some (some (.ref f_Truth_row)))
    (i_Truth_row : PySem.W.isFn K (.ref f_Truth_row) = true)
    (l_Truth_row : K.lookup f_Truth_row = some ⟨oc_x12, od_x12, .func (PySem.W.fnOf "row" "Form.row" (defArgs s_Form_row) (defBody s_Form_row) (defScope s_Form_row) .none kV_x12 dc_x12 pm_x12 an_x12 cd_x12 ct_x12), sl_x12⟩)
    (c_Truth_row : PySem.W.codeIn K cd_x12 "Form.row" = true)
    (k_Truth_row : PySem.W.keepIn K (.ref f_Truth_row) = true)
    (aC_Span : PySem.W.nsIn K mainGlobals "Span" = some (some (.ref C_Span)))
    (pg_Span : PySem.W.plainGet K C_Span Str.empty = true)
    (hd_Span : PySem.W.hasDictIn K C_Span = true)
    (po_Span : PySem.W.plainOver K C_Span = true)
    (sa_Span : PySem.W.findIn K (.ref C_Span) "__setattr__" = some (some (.builtin "object.__setattr__")))
    (mk_Span : PySem.W.makesIn K C_Span = true)
    (kc_Span : PySem.W.keepIn K (.ref C_Span) = true)
    (n_Span_low : PySem.W.findIn K (.ref C_Span) "low" = some none)
    (n_Span_high : PySem.W.findIn K (.ref C_Span) "high" = some none)
    (a_Span_init : PySem.W.findIn K (.ref C_Span) "__init__" = some (some (.ref f_Span_init)))
    (i_Span_init : PySem.W.isFn K (.ref f_Span_init) = true)
    (l_Span_init : K.lookup f_Span_init = some ⟨oc_x13, od_x13, .func (PySem.W.fnOf "__init__" "Span.__init__" (defArgs s_Span_init) (defBody s_Span_init) (defScope s_Span_init) .none kV_x13 dc_x13 pm_x13 an_x13 cd_x13 ct_x13), sl_x13⟩)
    (c_Span_init : PySem.W.codeIn K cd_x13 "Span.__init__" = true)
    (k_Span_init : PySem.W.keepIn K (.ref f_Span_init) = true)
    (a_Span_fits : PySem.W.findIn K (.ref C_Span) "fits" = some (some (.ref f_Span_fits)))
    (i_Span_fits : PySem.W.isFn K (.ref f_Span_fits) = true)
    (l_Span_fits : K.lookup f_Span_fits = some ⟨oc_x14, od_x14, .func (PySem.W.fnOf "fits" "Span.fits" (defArgs s_Span_fits) (defBody s_Span_fits) (defScope s_Span_fits) .none kV_x14 dc_x14 pm_x14 an_x14 cd_x14 ct_x14), sl_x14⟩)
    (c_Span_fits : PySem.W.codeIn K cd_x14 "Span.fits" = true)
    (k_Span_fits : PySem.W.keepIn K (.ref f_Span_fits) = true)
    (a_Span_written : PySem.W.findIn K (.ref C_Span) "written" = some (some (.ref f_Span_written)))
    (i_Span_written : PySem.W.isFn K (.ref f_Span_written) = true)
    (l_Span_written : K.lookup f_Span_written = some ⟨oc_x15, od_x15, .func (PySem.W.fnOf "written" "Span.written" (defArgs s_Span_written) (defBody s_Span_written) (defScope s_Span_written) .none kV_x15 dc_x15 pm_x15 an_x15 cd_x15 ct_x15), sl_x15⟩)
    (c_Span_written : PySem.W.codeIn K cd_x15 "Span.written" = true)
    (k_Span_written : PySem.W.keepIn K (.ref f_Span_written) = true)
    (a_Span_draw : PySem.W.findIn K (.ref C_Span) "draw" = some (some (.ref f_Span_draw)))
    (i_Span_draw : PySem.W.isFn K (.ref f_Span_draw) = true)
    (l_Span_draw : K.lookup f_Span_draw = some ⟨oc_x16, od_x16, .func (PySem.W.fnOf "draw" "Span.draw" (defArgs s_Span_draw) (defBody s_Span_draw) (defScope s_Span_draw) .none kV_x16 dc_x16 pm_x16 an_x16 cd_x16 ct_x16), sl_x16⟩)
    (c_Span_draw : PySem.W.codeIn K cd_x16 "Span.draw" = true)
    (k_Span_draw : PySem.W.keepIn K (.ref f_Span_draw) = true)
    (a_Span_row : PySem.W.findIn K (.ref C_Span) "row" = some (some (.ref f_Span_row)))
    (i_Span_row : PySem.W.isFn K (.ref f_Span_row) = true)
    (l_Span_row : K.lookup f_Span_row = some ⟨oc_x17, od_x17, .func (PySem.W.fnOf "row" "Form.row" (defArgs s_Form_row) (defBody s_Form_row) (defScope s_Form_row) .none kV_x17 dc_x17 pm_x17 an_x17 cd_x17 ct_x17), sl_x17⟩)
    (c_Span_row : PySem.W.codeIn K cd_x17 "Form.row" = true)
    (k_Span_row : PySem.W.keepIn K (.ref f_Span_row) = true)
    (aC_Letters : PySem.W.nsIn K mainGlobals "Letters" = some (some (.ref C_Letters)))
    (pg_Letters : PySem.W.plainGet K C_Letters Str.empty = true)
    (hd_Letters : PySem.W.hasDictIn K C_Letters = true)
    (po_Letters : PySem.W.plainOver K C_Letters = true)
    (sa_Letters : PySem.W.findIn K (.ref C_Letters) "__setattr__" = some (some (.builtin "object.__setattr__")))
    (mk_Letters : PySem.W.makesIn K C_Letters = true)
    (kc_Letters : PySem.W.keepIn K (.ref C_Letters) = true)
    (n_Letters_signs : PySem.W.findIn K (.ref C_Letters) "signs" = some none)
    (a_Letters_init : PySem.W.findIn K (.ref C_Letters) "__init__" = some (some (.ref f_Letters_init)))
    (i_Letters_init : PySem.W.isFn K (.ref f_Letters_init) = true)
    (l_Letters_init : K.lookup f_Letters_init = some ⟨oc_x18, od_x18, .func (PySem.W.fnOf "__init__" "Letters.__init__" (defArgs s_Letters_init) (defBody s_Letters_init) (defScope s_Letters_init) .none kV_x18 dc_x18 pm_x18 an_x18 cd_x18 ct_x18), sl_x18⟩)
    (c_Letters_init : PySem.W.codeIn K cd_x18 "Letters.__init__" = true)
    (k_Letters_init : PySem.W.keepIn K (.ref f_Letters_init) = true)
    (a_Letters_fits : PySem.W.findIn K (.ref C_Letters) "fits" = some (some (.ref f_Letters_fits)))
    (i_Letters_fits : PySem.W.isFn K (.ref f_Letters_fits) = true)
    (l_Letters_fits : K.lookup f_Letters_fits = some ⟨oc_x19, od_x19, .func (PySem.W.fnOf "fits" "Letters.fits" (defArgs s_Letters_fits) (defBody s_Letters_fits) (defScope s_Letters_fits) .none kV_x19 dc_x19 pm_x19 an_x19 cd_x19 ct_x19), sl_x19⟩)
    (c_Letters_fits : PySem.W.codeIn K cd_x19 "Letters.fits" = true)
    (k_Letters_fits : PySem.W.keepIn K (.ref f_Letters_fits) = true)
    (a_Letters_places : PySem.W.findIn K (.ref C_Letters) "places" = some (some (.ref f_Letters_places)))
    (i_Letters_places : PySem.W.isFn K (.ref f_Letters_places) = true)
    (l_Letters_places : K.lookup f_Letters_places = some ⟨oc_x20, od_x20, .func (PySem.W.fnOf "places" "Letters.places" (defArgs s_Letters_places) (defBody s_Letters_places) (defScope s_Letters_places) .none kV_x20 dc_x20 pm_x20 an_x20 cd_x20 ct_x20), sl_x20⟩)
    (c_Letters_places : PySem.W.codeIn K cd_x20 "Letters.places" = true)
    (k_Letters_places : PySem.W.keepIn K (.ref f_Letters_places) = true)
    (a_Letters_written : PySem.W.findIn K (.ref C_Letters) "written" = some (some (.ref f_Letters_written)))
    (i_Letters_written : PySem.W.isFn K (.ref f_Letters_written) = true)
    (l_Letters_written : K.lookup f_Letters_written = some ⟨oc_x21, od_x21, .func (PySem.W.fnOf "written" "Letters.written" (defArgs s_Letters_written) (defBody s_Letters_written) (defScope s_Letters_written) .none kV_x21 dc_x21 pm_x21 an_x21 cd_x21 ct_x21), sl_x21⟩)
    (c_Letters_written : PySem.W.codeIn K cd_x21 "Letters.written" = true)
    (k_Letters_written : PySem.W.keepIn K (.ref f_Letters_written) = true)
    (a_Letters_draw : PySem.W.findIn K (.ref C_Letters) "draw" = some (some (.ref f_Letters_draw)))
    (i_Letters_draw : PySem.W.isFn K (.ref f_Letters_draw) = true)
    (l_Letters_draw : K.lookup f_Letters_draw = some ⟨oc_x22, od_x22, .func (PySem.W.fnOf "draw" "Letters.draw" (defArgs s_Letters_draw) (defBody s_Letters_draw) (defScope s_Letters_draw) .none kV_x22 dc_x22 pm_x22 an_x22 cd_x22 ct_x22), sl_x22⟩)
    (c_Letters_draw : PySem.W.codeIn K cd_x22 "Letters.draw" = true)
    (k_Letters_draw : PySem.W.keepIn K (.ref f_Letters_draw) = true)
    (a_Letters_row : PySem.W.findIn K (.ref C_Letters) "row" = some (some (.ref f_Letters_row)))
    (i_Letters_row : PySem.W.isFn K (.ref f_Letters_row) = true)
    (l_Letters_row : K.lookup f_Letters_row = some ⟨oc_x23, od_x23, .func (PySem.W.fnOf "row" "Form.row" (defArgs s_Form_row) (defBody s_Form_row) (defScope s_Form_row) .none kV_x23 dc_x23 pm_x23 an_x23 cd_x23 ct_x23), sl_x23⟩)
    (c_Letters_row : PySem.W.codeIn K cd_x23 "Form.row" = true)
    (k_Letters_row : PySem.W.keepIn K (.ref f_Letters_row) = true)
    (aC_Many : PySem.W.nsIn K mainGlobals "Many" = some (some (.ref C_Many)))
    (pg_Many : PySem.W.plainGet K C_Many Str.empty = true)
    (hd_Many : PySem.W.hasDictIn K C_Many = true)
    (po_Many : PySem.W.plainOver K C_Many = true)
    (sa_Many : PySem.W.findIn K (.ref C_Many) "__setattr__" = some (some (.builtin "object.__setattr__")))
    (mk_Many : PySem.W.makesIn K C_Many = true)
    (kc_Many : PySem.W.keepIn K (.ref C_Many) = true)
    (n_Many_inner : PySem.W.findIn K (.ref C_Many) "inner" = some none)
    (a_Many_init : PySem.W.findIn K (.ref C_Many) "__init__" = some (some (.ref f_Many_init)))
    (i_Many_init : PySem.W.isFn K (.ref f_Many_init) = true)
    (l_Many_init : K.lookup f_Many_init = some ⟨oc_x24, od_x24, .func (PySem.W.fnOf "__init__" "Many.__init__" (defArgs s_Many_init) (defBody s_Many_init) (defScope s_Many_init) .none kV_x24 dc_x24 pm_x24 an_x24 cd_x24 ct_x24), sl_x24⟩)
    (c_Many_init : PySem.W.codeIn K cd_x24 "Many.__init__" = true)
    (k_Many_init : PySem.W.keepIn K (.ref f_Many_init) = true)
    (a_Many_fits : PySem.W.findIn K (.ref C_Many) "fits" = some (some (.ref f_Many_fits)))
    (i_Many_fits : PySem.W.isFn K (.ref f_Many_fits) = true)
    (l_Many_fits : K.lookup f_Many_fits = some ⟨oc_x25, od_x25, .func (PySem.W.fnOf "fits" "Many.fits" (defArgs s_Many_fits) (defBody s_Many_fits) (defScope s_Many_fits) .none kV_x25 dc_x25 pm_x25 an_x25 cd_x25 ct_x25), sl_x25⟩)
    (c_Many_fits : PySem.W.codeIn K cd_x25 "Many.fits" = true)
    (k_Many_fits : PySem.W.keepIn K (.ref f_Many_fits) = true)
    (a_Many_written : PySem.W.findIn K (.ref C_Many) "written" = some (some (.ref f_Many_written)))
    (i_Many_written : PySem.W.isFn K (.ref f_Many_written) = true)
    (l_Many_written : K.lookup f_Many_written = some ⟨oc_x26, od_x26, .func (PySem.W.fnOf "written" "Many.written" (defArgs s_Many_written) (defBody s_Many_written) (defScope s_Many_written) .none kV_x26 dc_x26 pm_x26 an_x26 cd_x26 ct_x26), sl_x26⟩)
    (c_Many_written : PySem.W.codeIn K cd_x26 "Many.written" = true)
    (k_Many_written : PySem.W.keepIn K (.ref f_Many_written) = true)
    (a_Many_draw : PySem.W.findIn K (.ref C_Many) "draw" = some (some (.ref f_Many_draw)))
    (i_Many_draw : PySem.W.isFn K (.ref f_Many_draw) = true)
    (l_Many_draw : K.lookup f_Many_draw = some ⟨oc_x27, od_x27, .func (PySem.W.fnOf "draw" "Many.draw" (defArgs s_Many_draw) (defBody s_Many_draw) (defScope s_Many_draw) .none kV_x27 dc_x27 pm_x27 an_x27 cd_x27 ct_x27), sl_x27⟩)
    (c_Many_draw : PySem.W.codeIn K cd_x27 "Many.draw" = true)
    (k_Many_draw : PySem.W.keepIn K (.ref f_Many_draw) = true)
    (a_Many_row : PySem.W.findIn K (.ref C_Many) "row" = some (some (.ref f_Many_row)))
    (i_Many_row : PySem.W.isFn K (.ref f_Many_row) = true)
    (l_Many_row : K.lookup f_Many_row = some ⟨oc_x28, od_x28, .func (PySem.W.fnOf "row" "Form.row" (defArgs s_Form_row) (defBody s_Form_row) (defScope s_Form_row) .none kV_x28 dc_x28 pm_x28 an_x28 cd_x28 ct_x28), sl_x28⟩)
    (c_Many_row : PySem.W.codeIn K cd_x28 "Form.row" = true)
    (k_Many_row : PySem.W.keepIn K (.ref f_Many_row) = true)
    (aC_Turned : PySem.W.nsIn K mainGlobals "Turned" = some (some (.ref C_Turned)))
    (pg_Turned : PySem.W.plainGet K C_Turned Str.empty = true)
    (hd_Turned : PySem.W.hasDictIn K C_Turned = true)
    (po_Turned : PySem.W.plainOver K C_Turned = true)
    (sa_Turned : PySem.W.findIn K (.ref C_Turned) "__setattr__" = some (some (.builtin "object.__setattr__")))
    (mk_Turned : PySem.W.makesIn K C_Turned = true)
    (kc_Turned : PySem.W.keepIn K (.ref C_Turned) = true)
    (n_Turned_inner : PySem.W.findIn K (.ref C_Turned) "inner" = some none)
    (a_Turned_init : PySem.W.findIn K (.ref C_Turned) "__init__" = some (some (.ref f_Turned_init)))
    (i_Turned_init : PySem.W.isFn K (.ref f_Turned_init) = true)
    (l_Turned_init : K.lookup f_Turned_init = some ⟨oc_x29, od_x29, .func (PySem.W.fnOf "__init__" "Turned.__init__" (defArgs s_Turned_init) (defBody s_Turned_init) (defScope s_Turned_init) .none kV_x29 dc_x29 pm_x29 an_x29 cd_x29 ct_x29), sl_x29⟩)
    (c_Turned_init : PySem.W.codeIn K cd_x29 "Turned.__init__" = true)
    (k_Turned_init : PySem.W.keepIn K (.ref f_Turned_init) = true)
    (a_Turned_fits : PySem.W.findIn K (.ref C_Turned) "fits" = some (some (.ref f_Turned_fits)))
    (i_Turned_fits : PySem.W.isFn K (.ref f_Turned_fits) = true)
    (l_Turned_fits : K.lookup f_Turned_fits = some ⟨oc_x30, od_x30, .func (PySem.W.fnOf "fits" "Turned.fits" (defArgs s_Turned_fits) (defBody s_Turned_fits) (defScope s_Turned_fits) .none kV_x30 dc_x30 pm_x30 an_x30 cd_x30 ct_x30), sl_x30⟩)
    (c_Turned_fits : PySem.W.codeIn K cd_x30 "Turned.fits" = true)
    (k_Turned_fits : PySem.W.keepIn K (.ref f_Turned_fits) = true)
    (a_Turned_written : PySem.W.findIn K (.ref C_Turned) "written" = some (some (.ref f_Turned_written)))
    (i_Turned_written : PySem.W.isFn K (.ref f_Turned_written) = true)
    (l_Turned_written : K.lookup f_Turned_written = some ⟨oc_x31, od_x31, .func (PySem.W.fnOf "written" "Turned.written" (defArgs s_Turned_written) (defBody s_Turned_written) (defScope s_Turned_written) .none kV_x31 dc_x31 pm_x31 an_x31 cd_x31 ct_x31), sl_x31⟩)
    (c_Turned_written : PySem.W.codeIn K cd_x31 "Turned.written" = true)
    (k_Turned_written : PySem.W.keepIn K (.ref f_Turned_written) = true)
    (a_Turned_draw : PySem.W.findIn K (.ref C_Turned) "draw" = some (some (.ref f_Turned_draw)))
    (i_Turned_draw : PySem.W.isFn K (.ref f_Turned_draw) = true)
    (l_Turned_draw : K.lookup f_Turned_draw = some ⟨oc_x32, od_x32, .func (PySem.W.fnOf "draw" "Turned.draw" (defArgs s_Turned_draw) (defBody s_Turned_draw) (defScope s_Turned_draw) .none kV_x32 dc_x32 pm_x32 an_x32 cd_x32 ct_x32), sl_x32⟩)
    (c_Turned_draw : PySem.W.codeIn K cd_x32 "Turned.draw" = true)
    (k_Turned_draw : PySem.W.keepIn K (.ref f_Turned_draw) = true)
    (a_Turned_row : PySem.W.findIn K (.ref C_Turned) "row" = some (some (.ref f_Turned_row)))
    (i_Turned_row : PySem.W.isFn K (.ref f_Turned_row) = true)
    (l_Turned_row : K.lookup f_Turned_row = some ⟨oc_x33, od_x33, .func (PySem.W.fnOf "row" "Form.row" (defArgs s_Form_row) (defBody s_Form_row) (defScope s_Form_row) .none kV_x33 dc_x33 pm_x33 an_x33 cd_x33 ct_x33), sl_x33⟩)
    (c_Turned_row : PySem.W.codeIn K cd_x33 "Form.row" = true)
    (k_Turned_row : PySem.W.keepIn K (.ref f_Turned_row) = true)
    (aC_Record : PySem.W.nsIn K mainGlobals "Record" = some (some (.ref C_Record)))
    (pg_Record : PySem.W.plainGet K C_Record Str.empty = true)
    (hd_Record : PySem.W.hasDictIn K C_Record = true)
    (po_Record : PySem.W.plainOver K C_Record = true)
    (sa_Record : PySem.W.findIn K (.ref C_Record) "__setattr__" = some (some (.builtin "object.__setattr__")))
    (mk_Record : PySem.W.makesIn K C_Record = true)
    (kc_Record : PySem.W.keepIn K (.ref C_Record) = true)
    (n_Record_names : PySem.W.findIn K (.ref C_Record) "names" = some none)
    (n_Record_forms : PySem.W.findIn K (.ref C_Record) "forms" = some none)
    (a_Record_init : PySem.W.findIn K (.ref C_Record) "__init__" = some (some (.ref f_Record_init)))
    (i_Record_init : PySem.W.isFn K (.ref f_Record_init) = true)
    (l_Record_init : K.lookup f_Record_init = some ⟨oc_x34, od_x34, .func (PySem.W.fnOf "__init__" "Record.__init__" (defArgs s_Record_init) (defBody s_Record_init) (defScope s_Record_init) .none kV_x34 dc_x34 pm_x34 an_x34 cd_x34 ct_x34), sl_x34⟩)
    (c_Record_init : PySem.W.codeIn K cd_x34 "Record.__init__" = true)
    (k_Record_init : PySem.W.keepIn K (.ref f_Record_init) = true)
    (a_Record_fits : PySem.W.findIn K (.ref C_Record) "fits" = some (some (.ref f_Record_fits)))
    (i_Record_fits : PySem.W.isFn K (.ref f_Record_fits) = true)
    (l_Record_fits : K.lookup f_Record_fits = some ⟨oc_x35, od_x35, .func (PySem.W.fnOf "fits" "Record.fits" (defArgs s_Record_fits) (defBody s_Record_fits) (defScope s_Record_fits) .none kV_x35 dc_x35 pm_x35 an_x35 cd_x35 ct_x35), sl_x35⟩)
    (c_Record_fits : PySem.W.codeIn K cd_x35 "Record.fits" = true)
    (k_Record_fits : PySem.W.keepIn K (.ref f_Record_fits) = true)
    (a_Record_written : PySem.W.findIn K (.ref C_Record) "written" = some (some (.ref f_Record_written)))
    (i_Record_written : PySem.W.isFn K (.ref f_Record_written) = true)
    (l_Record_written : K.lookup f_Record_written = some ⟨oc_x36, od_x36, .func (PySem.W.fnOf "written" "Record.written" (defArgs s_Record_written) (defBody s_Record_written) (defScope s_Record_written) .none kV_x36 dc_x36 pm_x36 an_x36 cd_x36 ct_x36), sl_x36⟩)
    (c_Record_written : PySem.W.codeIn K cd_x36 "Record.written" = true)
    (k_Record_written : PySem.W.keepIn K (.ref f_Record_written) = true)
    (a_Record_draw : PySem.W.findIn K (.ref C_Record) "draw" = some (some (.ref f_Record_draw)))
    (i_Record_draw : PySem.W.isFn K (.ref f_Record_draw) = true)
    (l_Record_draw : K.lookup f_Record_draw = some ⟨oc_x37, od_x37, .func (PySem.W.fnOf "draw" "Record.draw" (defArgs s_Record_draw) (defBody s_Record_draw) (defScope s_Record_draw) .none kV_x37 dc_x37 pm_x37 an_x37 cd_x37 ct_x37), sl_x37⟩)
    (c_Record_draw : PySem.W.codeIn K cd_x37 "Record.draw" = true)
    (k_Record_draw : PySem.W.keepIn K (.ref f_Record_draw) = true)
    (a_Record_row : PySem.W.findIn K (.ref C_Record) "row" = some (some (.ref f_Record_row)))
    (i_Record_row : PySem.W.isFn K (.ref f_Record_row) = true)
    (l_Record_row : K.lookup f_Record_row = some ⟨oc_x38, od_x38, .func (PySem.W.fnOf "row" "Form.row" (defArgs s_Form_row) (defBody s_Form_row) (defScope s_Form_row) .none kV_x38 dc_x38 pm_x38 an_x38 cd_x38 ct_x38), sl_x38⟩)
    (c_Record_row : PySem.W.codeIn K cd_x38 "Form.row" = true)
    (k_Record_row : PySem.W.keepIn K (.ref f_Record_row) = true)
    (aC_RiseError : PySem.W.nsIn K mainGlobals "RiseError" = some (some (.ref C_RiseError)))
    (aC_NoFit : PySem.W.nsIn K mainGlobals "NoFit" = some (some (.ref C_NoFit)))
    (aC_Short : PySem.W.nsIn K mainGlobals "Short" = some (some (.ref C_Short)))
    (aC_Wrong : PySem.W.nsIn K mainGlobals "Wrong" = some (some (.ref C_Wrong)))
    (aC_Left : PySem.W.nsIn K mainGlobals "Left" = some (some (.ref C_Left)))
    (aC_NoForm : PySem.W.nsIn K mainGlobals "NoForm" = some (some (.ref C_NoForm)))
    (aC_NoText : PySem.W.nsIn K mainGlobals "NoText" = some (some (.ref C_NoText)))
    (aC_NotAhead : PySem.W.nsIn K mainGlobals "NotAhead" = some (some (.ref C_NotAhead)))
    (aC_BadPage : PySem.W.nsIn K mainGlobals "BadPage" = some (some (.ref C_BadPage)))
    (aC_Twice : PySem.W.nsIn K mainGlobals "Twice" = some (some (.ref C_Twice)))
    (aC_Lacking : PySem.W.nsIn K mainGlobals "Lacking" = some (some (.ref C_Lacking)))
    (xga_RiseError : PySem.W.findIn K (.ref C_RiseError) "__getattribute__" = some (some (.builtin "BaseException.__getattribute__")))
    (xgt_RiseError : PySem.W.findIn K (.ref C_RiseError) "__getattr__" = some none)
    (xcl_RiseError : PySem.W.findIn K (.ref C_RiseError) "__class__" = some (some (.builtin "object.__class__")))
    (xob_RiseError : PySem.W.mroIn K C_RiseError (.type "object") = some true)
    (xbe_RiseError : PySem.W.mroIn K C_RiseError (.type "BaseException") = some true)
    (xis_RiseError : PySem.W.isClsIn K C_RiseError = true)
    (xhn_RiseError : PySem.W.specialIn K (.builtin "object.__class__") "__get__" = some (some (.builtin "getset_descriptor.__get__")))
    (xtk_RiseError : PySem.W.takesIn K (.builtin "object.__class__") = some true)
    (xt_RiseError : PySem.W.typeIn K (.ref C_RiseError) = some (.type "type"))
    (xga_NoFit : PySem.W.findIn K (.ref C_NoFit) "__getattribute__" = some (some (.builtin "BaseException.__getattribute__")))
    (xgt_NoFit : PySem.W.findIn K (.ref C_NoFit) "__getattr__" = some none)
    (xcl_NoFit : PySem.W.findIn K (.ref C_NoFit) "__class__" = some (some (.builtin "object.__class__")))
    (xob_NoFit : PySem.W.mroIn K C_NoFit (.type "object") = some true)
    (xbe_NoFit : PySem.W.mroIn K C_NoFit (.type "BaseException") = some true)
    (xis_NoFit : PySem.W.isClsIn K C_NoFit = true)
    (xhn_NoFit : PySem.W.specialIn K (.builtin "object.__class__") "__get__" = some (some (.builtin "getset_descriptor.__get__")))
    (xtk_NoFit : PySem.W.takesIn K (.builtin "object.__class__") = some true)
    (xt_NoFit : PySem.W.typeIn K (.ref C_NoFit) = some (.type "type"))
    (xga_Wrong : PySem.W.findIn K (.ref C_Wrong) "__getattribute__" = some (some (.builtin "BaseException.__getattribute__")))
    (xgt_Wrong : PySem.W.findIn K (.ref C_Wrong) "__getattr__" = some none)
    (xcl_Wrong : PySem.W.findIn K (.ref C_Wrong) "__class__" = some (some (.builtin "object.__class__")))
    (xob_Wrong : PySem.W.mroIn K C_Wrong (.type "object") = some true)
    (xbe_Wrong : PySem.W.mroIn K C_Wrong (.type "BaseException") = some true)
    (xis_Wrong : PySem.W.isClsIn K C_Wrong = true)
    (xhn_Wrong : PySem.W.specialIn K (.builtin "object.__class__") "__get__" = some (some (.builtin "getset_descriptor.__get__")))
    (xtk_Wrong : PySem.W.takesIn K (.builtin "object.__class__") = some true)
    (xt_Wrong : PySem.W.typeIn K (.ref C_Wrong) = some (.type "type"))
    (xga_Left : PySem.W.findIn K (.ref C_Left) "__getattribute__" = some (some (.builtin "BaseException.__getattribute__")))
    (xgt_Left : PySem.W.findIn K (.ref C_Left) "__getattr__" = some none)
    (xcl_Left : PySem.W.findIn K (.ref C_Left) "__class__" = some (some (.builtin "object.__class__")))
    (xob_Left : PySem.W.mroIn K C_Left (.type "object") = some true)
    (xbe_Left : PySem.W.mroIn K C_Left (.type "BaseException") = some true)
    (xis_Left : PySem.W.isClsIn K C_Left = true)
    (xhn_Left : PySem.W.specialIn K (.builtin "object.__class__") "__get__" = some (some (.builtin "getset_descriptor.__get__")))
    (xtk_Left : PySem.W.takesIn K (.builtin "object.__class__") = some true)
    (xt_Left : PySem.W.typeIn K (.ref C_Left) = some (.type "type"))
    (bg_RiseError : PySem.W.specialIn K (.ref C_RiseError) "__getattribute__" = some (some (.builtin "type.__getattribute__")))
    (br_RiseError : PySem.W.readsIn K C_RiseError (.type "type") = true)
    (bf_RiseError : PySem.W.findCls K (.ref C_RiseError) (.type "type") "__init__" = some (.val (.builtin "ValueError.__init__")))
    (a_Wrong_init : PySem.W.findIn K (.ref C_Wrong) "__init__" = some (some (.ref f_Wrong_init)))
    (l_Wrong_init : K.lookup f_Wrong_init = some ⟨oc_x39, od_x39, .func (PySem.W.fnOf "__init__" "Wrong.__init__" (defArgs s_Wrong_init) (defBody s_Wrong_init) (defScope s_Wrong_init) .none kV_x39 dc_x39 pm_x39 an_x39 cd_x39 ct_x39), sl_x39⟩)
    (c_Wrong_init : PySem.W.codeIn K cd_x39 "Wrong.__init__" = true)
    (k_Wrong_init : PySem.W.keepIn K (.ref f_Wrong_init) = true)
    (tf_Wrong_init : PySem.W.typeIn K (.ref f_Wrong_init) = some (.type "function"))
    (kc_Wrong : PySem.W.keepIn K (.ref C_Wrong) = true)
    (sa_Wrong : PySem.W.findIn K (.ref C_Wrong) "__setattr__" = some (some (.builtin "object.__setattr__")))
    (hd_Wrong : PySem.W.hasDictIn K C_Wrong = true)
    (tp_Wrong : PySem.W.takerIn K C_Wrong "place" = some none)
    (nf_Wrong : PySem.W.findIn K (.ref C_Wrong) "place" = some none)
    (xj_Wrong : excInI K C_Wrong f_Wrong_init = true)
    (ov_Wrong : (PySem.W.clsIn K C_Wrong).any (fun cd => overV cd.mro) = true)
    (a_Left_init : PySem.W.findIn K (.ref C_Left) "__init__" = some (some (.ref f_Left_init)))
    (l_Left_init : K.lookup f_Left_init = some ⟨oc_x40, od_x40, .func (PySem.W.fnOf "__init__" "Left.__init__" (defArgs s_Left_init) (defBody s_Left_init) (defScope s_Left_init) .none kV_x40 dc_x40 pm_x40 an_x40 cd_x40 ct_x40), sl_x40⟩)
    (c_Left_init : PySem.W.codeIn K cd_x40 "Left.__init__" = true)
    (k_Left_init : PySem.W.keepIn K (.ref f_Left_init) = true)
    (tf_Left_init : PySem.W.typeIn K (.ref f_Left_init) = some (.type "function"))
    (kc_Left : PySem.W.keepIn K (.ref C_Left) = true)
    (sa_Left : PySem.W.findIn K (.ref C_Left) "__setattr__" = some (some (.builtin "object.__setattr__")))
    (hd_Left : PySem.W.hasDictIn K C_Left = true)
    (tp_Left : PySem.W.takerIn K C_Left "place" = some none)
    (nf_Left : PySem.W.findIn K (.ref C_Left) "place" = some none)
    (xj_Left : excInI K C_Left f_Left_init = true)
    (ov_Left : (PySem.W.clsIn K C_Left).any (fun cd => overV cd.mro) = true)
    (xi_NoFit : PySem.W.excIn K C_NoFit bmV "ValueError.__new__" = true)
    (kt_NoFit_Short : PySem.W.kitOne K (.ref C_NoFit) (.ref C_Short) = some false)
    (kt_NoFit_Wrong : PySem.W.kitOne K (.ref C_NoFit) (.ref C_Wrong) = some false)
    (kt_NoFit_Left : PySem.W.kitOne K (.ref C_NoFit) (.ref C_Left) = some false)
    (kt_NoFit_NoForm : PySem.W.kitOne K (.ref C_NoFit) (.ref C_NoForm) = some false)
    (kt_NoFit_NoText : PySem.W.kitOne K (.ref C_NoFit) (.ref C_NoText) = some false)
    (kt_NoFit_NotAhead : PySem.W.kitOne K (.ref C_NoFit) (.ref C_NotAhead) = some false)
    (kt_NoFit_BadPage : PySem.W.kitOne K (.ref C_NoFit) (.ref C_BadPage) = some false)
    (kt_NoFit_Twice : PySem.W.kitOne K (.ref C_NoFit) (.ref C_Twice) = some false)
    (kt_NoFit_Lacking : PySem.W.kitOne K (.ref C_NoFit) (.ref C_Lacking) = some false)
    (kt_NoFit_ValueError : PySem.W.kitOne K (.ref C_NoFit) (.type "ValueError") = some true)
    (kt_Wrong_NoFit : PySem.W.kitOne K (.ref C_Wrong) (.ref C_NoFit) = some false)
    (kt_Wrong_Short : PySem.W.kitOne K (.ref C_Wrong) (.ref C_Short) = some false)
    (kt_Wrong_Left : PySem.W.kitOne K (.ref C_Wrong) (.ref C_Left) = some false)
    (kt_Wrong_NoForm : PySem.W.kitOne K (.ref C_Wrong) (.ref C_NoForm) = some false)
    (kt_Wrong_NoText : PySem.W.kitOne K (.ref C_Wrong) (.ref C_NoText) = some false)
    (kt_Wrong_NotAhead : PySem.W.kitOne K (.ref C_Wrong) (.ref C_NotAhead) = some false)
    (kt_Wrong_BadPage : PySem.W.kitOne K (.ref C_Wrong) (.ref C_BadPage) = some false)
    (kt_Wrong_Twice : PySem.W.kitOne K (.ref C_Wrong) (.ref C_Twice) = some false)
    (kt_Wrong_Lacking : PySem.W.kitOne K (.ref C_Wrong) (.ref C_Lacking) = some false)
    (kt_Wrong_ValueError : PySem.W.kitOne K (.ref C_Wrong) (.type "ValueError") = some true)
    (mr_NoFit_RiseError : PySem.W.mroIn K C_NoFit (.ref C_RiseError) = some true)
    (mr_Wrong_RiseError : PySem.W.mroIn K C_Wrong (.ref C_RiseError) = some true)
    (a_turned_row : PySem.W.nsIn K mainGlobals "turned_row" = some (some (.ref f_turned_row)))
    (l_turned_row : K.lookup f_turned_row = some ⟨oc_x41, od_x41, .func (PySem.W.fnOf "turned_row" "turned_row" (defArgs s_turned_row) (defBody s_turned_row) (defScope s_turned_row) .none kV_x41 dc_x41 pm_x41 an_x41 cd_x41 ct_x41), sl_x41⟩)
    (c_turned_row : PySem.W.codeIn K cd_x41 "turned_row" = true)
    (k_turned_row : PySem.W.keepIn K (.ref f_turned_row) = true)
    (a_lower_digits : PySem.W.nsIn K mainGlobals "lower_digits" = some (some (.ref f_lower_digits)))
    (l_lower_digits : K.lookup f_lower_digits = some ⟨oc_x42, od_x42, .func (PySem.W.fnOf "lower_digits" "lower_digits" (defArgs s_lower_digits) (defBody s_lower_digits) (defScope s_lower_digits) .none kV_x42 dc_x42 pm_x42 an_x42 cd_x42 ct_x42), sl_x42⟩)
    (c_lower_digits : PySem.W.codeIn K cd_x42 "lower_digits" = true)
    (k_lower_digits : PySem.W.keepIn K (.ref f_lower_digits) = true)
    (a_fixed_row : PySem.W.nsIn K mainGlobals "fixed_row" = some (some (.ref f_fixed_row)))
    (l_fixed_row : K.lookup f_fixed_row = some ⟨oc_x43, od_x43, .func (PySem.W.fnOf "fixed_row" "fixed_row" (defArgs s_fixed_row) (defBody s_fixed_row) (defScope s_fixed_row) .none kV_x43 dc_x43 pm_x43 an_x43 cd_x43 ct_x43), sl_x43⟩)
    (c_fixed_row : PySem.W.codeIn K cd_x43 "fixed_row" = true)
    (k_fixed_row : PySem.W.keepIn K (.ref f_fixed_row) = true)
    (a_draw_fixed : PySem.W.nsIn K mainGlobals "draw_fixed" = some (some (.ref f_draw_fixed)))
    (l_draw_fixed : K.lookup f_draw_fixed = some ⟨oc_x44, od_x44, .func (PySem.W.fnOf "draw_fixed" "draw_fixed" (defArgs s_draw_fixed) (defBody s_draw_fixed) (defScope s_draw_fixed) .none kV_x44 dc_x44 pm_x44 an_x44 cd_x44 ct_x44), sl_x44⟩)
    (c_draw_fixed : PySem.W.codeIn K cd_x44 "draw_fixed" = true)
    (k_draw_fixed : PySem.W.keepIn K (.ref f_draw_fixed) = true)
    (a_is_number : PySem.W.nsIn K mainGlobals "is_number" = some (some (.ref f_is_number)))
    (l_is_number : K.lookup f_is_number = some ⟨oc_x45, od_x45, .func (PySem.W.fnOf "is_number" "is_number" (defArgs s_is_number) (defBody s_is_number) (defScope s_is_number) .none kV_x45 dc_x45 pm_x45 an_x45 cd_x45 ct_x45), sl_x45⟩)
    (c_is_number : PySem.W.codeIn K cd_x45 "is_number" = true)
    (k_is_number : PySem.W.keepIn K (.ref f_is_number) = true)
    (a_made_of : PySem.W.nsIn K mainGlobals "made_of" = some (some (.ref f_made_of)))
    (l_made_of : K.lookup f_made_of = some ⟨oc_x46, od_x46, .func (PySem.W.fnOf "made_of" "made_of" (defArgs s_made_of) (defBody s_made_of) (defScope s_made_of) .none kV_x46 dc_x46 pm_x46 an_x46 cd_x46 ct_x46), sl_x46⟩)
    (c_made_of : PySem.W.codeIn K cd_x46 "made_of" = true)
    (k_made_of : PySem.W.keepIn K (.ref f_made_of) = true)
    (a_is_name : PySem.W.nsIn K mainGlobals "is_name" = some (some (.ref f_is_name)))
    (l_is_name : K.lookup f_is_name = some ⟨oc_x47, od_x47, .func (PySem.W.fnOf "is_name" "is_name" (defArgs s_is_name) (defBody s_is_name) (defScope s_is_name) .none kV_x47 dc_x47 pm_x47 an_x47 cd_x47 ct_x47), sl_x47⟩)
    (c_is_name : PySem.W.codeIn K cd_x47 "is_name" = true)
    (k_is_name : PySem.W.keepIn K (.ref f_is_name) = true)
    (a_names_of : PySem.W.nsIn K mainGlobals "names_of" = some (some (.ref f_names_of)))
    (l_names_of : K.lookup f_names_of = some ⟨oc_x48, od_x48, .func (PySem.W.fnOf "names_of" "names_of" (defArgs s_names_of) (defBody s_names_of) (defScope s_names_of) .none kV_x48 dc_x48 pm_x48 an_x48 cd_x48 ct_x48), sl_x48⟩)
    (c_names_of : PySem.W.codeIn K cd_x48 "names_of" = true)
    (k_names_of : PySem.W.keepIn K (.ref f_names_of) = true)
    (a_value_of : PySem.W.nsIn K mainGlobals "value_of" = some (some (.ref f_value_of)))
    (l_value_of : K.lookup f_value_of = some ⟨oc_x49, od_x49, .func (PySem.W.fnOf "value_of" "value_of" (defArgs s_value_of) (defBody s_value_of) (defScope s_value_of) .none kV_x49 dc_x49 pm_x49 an_x49 cd_x49 ct_x49), sl_x49⟩)
    (c_value_of : PySem.W.codeIn K cd_x49 "value_of" = true)
    (k_value_of : PySem.W.keepIn K (.ref f_value_of) = true)
    (a_read_all : PySem.W.nsIn K mainGlobals "read_all" = some (some (.ref f_read_all)))
    (l_read_all : K.lookup f_read_all = some ⟨oc_x50, od_x50, .func (PySem.W.fnOf "read_all" "read_all" (defArgs s_read_all) (defBody s_read_all) (defScope s_read_all) .none kV_x50 dc_x50 pm_x50 an_x50 cd_x50 ct_x50), sl_x50⟩)
    (c_read_all : PySem.W.codeIn K cd_x50 "read_all" = true)
    (k_read_all : PySem.W.keepIn K (.ref f_read_all) = true)
    (a_begun_by : PySem.W.nsIn K mainGlobals "begun_by" = some (some (.ref f_begun_by)))
    (l_begun_by : K.lookup f_begun_by = some ⟨oc_x51, od_x51, .func (PySem.W.fnOf "begun_by" "begun_by" (defArgs s_begun_by) (defBody s_begun_by) (defScope s_begun_by) .none kV_x51 dc_x51 pm_x51 an_x51 cd_x51 ct_x51), sl_x51⟩)
    (c_begun_by : PySem.W.codeIn K cd_x51 "begun_by" = true)
    (k_begun_by : PySem.W.keepIn K (.ref f_begun_by) = true)
    (a_law_cell_at : PySem.W.nsIn K mainGlobals "_law_cell_at" = some (some (.ref f_law_cell_at)))
    (l_law_cell_at : K.lookup f_law_cell_at = some ⟨oc_x52, od_x52, .func (PySem.W.fnOf "_law_cell_at" "_law_cell_at" (defArgs s_law_cell_at) (defBody s_law_cell_at) (defScope s_law_cell_at) .none kV_x52 dc_x52 pm_x52 an_x52 cd_x52 ct_x52), sl_x52⟩)
    (c_law_cell_at : PySem.W.codeIn K cd_x52 "_law_cell_at" = true)
    (k_law_cell_at : PySem.W.keepIn K (.ref f_law_cell_at) = true)
    (a_law_kinds : PySem.W.nsIn K mainGlobals "_law_kinds" = some (some (.ref f_law_kinds)))
    (l_law_kinds : K.lookup f_law_kinds = some ⟨oc_x53, od_x53, .func (PySem.W.fnOf "_law_kinds" "_law_kinds" (defArgs s_law_kinds) (defBody s_law_kinds) (defScope s_law_kinds) .none kV_x53 dc_x53 pm_x53 an_x53 cd_x53 ct_x53), sl_x53⟩)
    (c_law_kinds : PySem.W.codeIn K cd_x53 "_law_kinds" = true)
    (k_law_kinds : PySem.W.keepIn K (.ref f_law_kinds) = true)
    (a_law_form : PySem.W.nsIn K mainGlobals "_law_form" = some (some (.ref f_law_form)))
    (l_law_form : K.lookup f_law_form = some ⟨oc_x54, od_x54, .func (PySem.W.fnOf "_law_form" "_law_form" (defArgs s_law_form) (defBody s_law_form) (defScope s_law_form) .none kV_x54 dc_x54 pm_x54 an_x54 cd_x54 ct_x54), sl_x54⟩)
    (c_law_form : PySem.W.codeIn K cd_x54 "_law_form" = true)
    (k_law_form : PySem.W.keepIn K (.ref f_law_form) = true)
    (a_law_parts : PySem.W.nsIn K mainGlobals "_law_parts" = some (some (.ref f_law_parts)))
    (l_law_parts : K.lookup f_law_parts = some ⟨oc_x55, od_x55, .func (PySem.W.fnOf "_law_parts" "_law_parts" (defArgs s_law_parts) (defBody s_law_parts) (defScope s_law_parts) .none kV_x55 dc_x55 pm_x55 an_x55 cd_x55 ct_x55), sl_x55⟩)
    (c_law_parts : PySem.W.codeIn K cd_x55 "_law_parts" = true)
    (k_law_parts : PySem.W.keepIn K (.ref f_law_parts) = true)
    (a_law_asked : PySem.W.nsIn K mainGlobals "_law_asked" = some (some (.ref f_law_asked)))
    (l_law_asked : K.lookup f_law_asked = some ⟨oc_x56, od_x56, .func (PySem.W.fnOf "_law_asked" "_law_asked" (defArgs s_law_asked) (defBody s_law_asked) (defScope s_law_asked) .none kV_x56 dc_x56 pm_x56 an_x56 cd_x56 ct_x56), sl_x56⟩)
    (c_law_asked : PySem.W.codeIn K cd_x56 "_law_asked" = true)
    (k_law_asked : PySem.W.keepIn K (.ref f_law_asked) = true)
    (a_law : PySem.W.nsIn K mainGlobals "law" = some (some (.ref f_law)))
    (l_law : K.lookup f_law = some ⟨oc_x57, od_x57, .func (PySem.W.fnOf "law" "law" (defArgs s_law) (defBody s_law) (defScope s_law) .none kV_x57 dc_x57 pm_x57 an_x57 cd_x57 ct_x57), sl_x57⟩)
    (c_law : PySem.W.codeIn K cd_x57 "law" = true)
    (k_law : PySem.W.keepIn K (.ref f_law) = true)
    (z_len : PySem.W.nsIn K mainGlobals "len" = some none)
    (z_range : PySem.W.nsIn K mainGlobals "range" = some none)
    (z_int : PySem.W.nsIn K mainGlobals "int" = some none)
    (z_str : PySem.W.nsIn K mainGlobals "str" = some none)
    (z_bool : PySem.W.nsIn K mainGlobals "bool" = some none)
    (z_tuple : PySem.W.nsIn K mainGlobals "tuple" = some none)
    (z_isinstance : PySem.W.nsIn K mainGlobals "isinstance" = some none)
    (z_list : PySem.W.nsIn K mainGlobals "list" = some none)
    (z_all : PySem.W.nsIn K mainGlobals "all" = some none)
    (z_zip : PySem.W.nsIn K mainGlobals "zip" = some none)
    (z_set : PySem.W.nsIn K mainGlobals "set" = some none)
    (z_ValueError : PySem.W.nsIn K mainGlobals "ValueError" = some none)
    (g0_MOST_SIGNS : PySem.W.nsIn K mainGlobals "MOST_SIGNS" = some (some (.int 60 tk_MOST_SIGNS)))
    (g0_LONGEST_TEXT : PySem.W.nsIn K mainGlobals "LONGEST_TEXT" = some (some (.int 200 tk_LONGEST_TEXT)))
    (g0_MOST_VALUES : PySem.W.nsIn K mainGlobals "MOST_VALUES" = some (some (.int 60 tk_MOST_VALUES)))
    (g0_MOST_PARTS : PySem.W.nsIn K mainGlobals "MOST_PARTS" = some (some (.int 20 tk_MOST_PARTS)))
    (g0_LONGEST_NAME : PySem.W.nsIn K mainGlobals "LONGEST_NAME" = some (some (.int 12 tk_LONGEST_NAME)))
    (g0_SMALL_LETTERS : PySem.W.nsIn K mainGlobals "SMALL_LETTERS" = some (some (.str "abcdefghijklmnopqrstuvwxyz" tk_SMALL_LETTERS)))
    (g0_LETTERS_AND_FIGURES : PySem.W.nsIn K mainGlobals "LETTERS_AND_FIGURES" = some (some (.str "abcdefghijklmnopqrstuvwxyzABCDEFGHIJKLMNOPQRSTUVWXYZ0123456789" tk_LETTERS_AND_FIGURES)))
    : ∃ fd : FuncData, (∀ (s : Shared) (v : Value), BindsTo s fd ⟨[v], []⟩ [("_law_script", v)]) ∧ ∀ base : Heap, K.In base → base.Ns mainGlobals mg → FnOk l.prog w K mg base CX0 16 fa fd ["_law_script"] (spLaw K) := by
  have e := hfa.symm.trans (PySem.W.mg_of X G a_law)
  cases e
  have cl_Source : Cls K C_Source := ⟨pg_Source, hd_Source, po_Source, sa_Source⟩
  have m_Source : mg "Source" = some (.ref C_Source) := PySem.W.mg_of X G aC_Source
  have F_Source_init := fun_mk (st := s_Source_init) l_Source_init c_Source_init k_Source_init
  have b_Source_init := F_Source_init.binds (ps := ["self", "signs", "at"]) fun _ _ _ _ _ _ us hl => by obtain ⟨_, _, _, rfl⟩ := ex3 us hl; rfl
  have K_Source : Mk K C_Source f_Source_init := ⟨mk_Source, a_Source_init, i_Source_init, kc_Source⟩
  have F_Source_draw := fun_mk (st := s_Source_draw) l_Source_draw c_Source_draw k_Source_draw
  have b_Source_draw := F_Source_draw.binds (ps := ["self"]) fun _ _ _ _ _ _ us hl => by obtain ⟨_, rfl⟩ := ex1 us hl; rfl
  have t_Source_draw : Meth K C_Source "draw" f_Source_draw := ⟨a_Source_draw, i_Source_draw, k_Source_draw⟩
  have F_Source_turn := fun_mk (st := s_Source_turn) l_Source_turn c_Source_turn k_Source_turn
  have b_Source_turn := F_Source_turn.binds (ps := ["self"]) fun _ _ _ _ _ _ us hl => by obtain ⟨_, rfl⟩ := ex1 us hl; rfl
  have t_Source_turn : Meth K C_Source "turn" f_Source_turn := ⟨a_Source_turn, i_Source_turn, k_Source_turn⟩
  have F_Source_go_on := fun_mk (st := s_Source_go_on) l_Source_go_on c_Source_go_on k_Source_go_on
  have b_Source_go_on := F_Source_go_on.binds (ps := ["self"]) fun _ _ _ _ _ _ us hl => by obtain ⟨_, rfl⟩ := ex1 us hl; rfl
  have t_Source_go_on : Meth K C_Source "go_on" f_Source_go_on := ⟨a_Source_go_on, i_Source_go_on, k_Source_go_on⟩
  have F_Source_refuse := fun_mk (st := s_Source_refuse) l_Source_refuse c_Source_refuse k_Source_refuse
  have b_Source_refuse := F_Source_refuse.binds (ps := ["self"]) fun _ _ _ _ _ _ us hl => by obtain ⟨_, rfl⟩ := ex1 us hl; rfl
  have t_Source_refuse : Meth K C_Source "refuse" f_Source_refuse := ⟨a_Source_refuse, i_Source_refuse, k_Source_refuse⟩
  have cl_Nothing : Cls K C_Nothing := ⟨pg_Nothing, hd_Nothing, po_Nothing, sa_Nothing⟩
  have m_Nothing : mg "Nothing" = some (.ref C_Nothing) := PySem.W.mg_of X G aC_Nothing
  have M0_Nothing : Mk0 K C_Nothing := ⟨mk_Nothing, i0_Nothing, kc_Nothing⟩
  have F_Nothing_fits := fun_mk (st := s_Nothing_fits) l_Nothing_fits c_Nothing_fits k_Nothing_fits
  have b_Nothing_fits := F_Nothing_fits.binds (ps := ["self", "value"]) fun _ _ _ _ _ _ us hl => by obtain ⟨_, _, rfl⟩ := ex2 us hl; rfl
  have t_Nothing_fits : Meth K C_Nothing "fits" f_Nothing_fits := ⟨a_Nothing_fits, i_Nothing_fits, k_Nothing_fits⟩
  have F_Nothing_written := fun_mk (st := s_Nothing_written) l_Nothing_written c_Nothing_written k_Nothing_written
  have b_Nothing_written := F_Nothing_written.binds (ps := ["self", "value"]) fun _ _ _ _ _ _ us hl => by obtain ⟨_, _, rfl⟩ := ex2 us hl; rfl
  have t_Nothing_written : Meth K C_Nothing "written" f_Nothing_written := ⟨a_Nothing_written, i_Nothing_written, k_Nothing_written⟩
  have F_Nothing_draw := fun_mk (st := s_Nothing_draw) l_Nothing_draw c_Nothing_draw k_Nothing_draw
  have b_Nothing_draw := F_Nothing_draw.binds (ps := ["self", "source"]) fun _ _ _ _ _ _ us hl => by obtain ⟨_, _, rfl⟩ := ex2 us hl; rfl
  have t_Nothing_draw : Meth K C_Nothing "draw" f_Nothing_draw := ⟨a_Nothing_draw, i_Nothing_draw, k_Nothing_draw⟩
  have F_Nothing_row := fun_mk (st := s_Form_row) l_Nothing_row c_Nothing_row k_Nothing_row
  have b_Nothing_row := F_Nothing_row.binds (ps := ["self", "value"]) fun _ _ _ _ _ _ us hl => by obtain ⟨_, _, rfl⟩ := ex2 us hl; rfl
  have t_Nothing_row : Meth K C_Nothing "row" f_Nothing_row := ⟨a_Nothing_row, i_Nothing_row, k_Nothing_row⟩
  have cl_Truth : Cls K C_Truth := ⟨pg_Truth, hd_Truth, po_Truth, sa_Truth⟩
  have m_Truth : mg "Truth" = some (.ref C_Truth) := PySem.W.mg_of X G aC_Truth
  have M0_Truth : Mk0 K C_Truth := ⟨mk_Truth, i0_Truth, kc_Truth⟩
  have F_Truth_fits := fun_mk (st := s_Truth_fits) l_Truth_fits c_Truth_fits k_Truth_fits
  have b_Truth_fits := F_Truth_fits.binds (ps := ["self", "value"]) fun _ _ _ _ _ _ us hl => by obtain ⟨_, _, rfl⟩ := ex2 us hl; rfl
  have t_Truth_fits : Meth K C_Truth "fits" f_Truth_fits := ⟨a_Truth_fits, i_Truth_fits, k_Truth_fits⟩
  have F_Truth_written := fun_mk (st := s_Truth_written) l_Truth_written c_Truth_written k_Truth_written
  have b_Truth_written := F_Truth_written.binds (ps := ["self", "value"]) fun _ _ _ _ _ _ us hl => by obtain ⟨_, _, rfl⟩ := ex2 us hl; rfl
  have t_Truth_written : Meth K C_Truth "written" f_Truth_written := ⟨a_Truth_written, i_Truth_written, k_Truth_written⟩
  have F_Truth_draw := fun_mk (st := s_Truth_draw) l_Truth_draw c_Truth_draw k_Truth_draw
  have b_Truth_draw := F_Truth_draw.binds (ps := ["self", "source"]) fun _ _ _ _ _ _ us hl => by obtain ⟨_, _, rfl⟩ := ex2 us hl; rfl
  have t_Truth_draw : Meth K C_Truth "draw" f_Truth_draw := ⟨a_Truth_draw, i_Truth_draw, k_Truth_draw⟩
  have F_Truth_row := fun_mk (st := s_Form_row) l_Truth_row c_Truth_row k_Truth_row
  have b_Truth_row := F_Truth_row.binds (ps := ["self", "value"]) fun _ _ _ _ _ _ us hl => by obtain ⟨_, _, rfl⟩ := ex2 us hl; rfl
  have t_Truth_row : Meth K C_Truth "row" f_Truth_row := ⟨a_Truth_row, i_Truth_row, k_Truth_row⟩
  have cl_Span : Cls K C_Span := ⟨pg_Span, hd_Span, po_Span, sa_Span⟩
  have m_Span : mg "Span" = some (.ref C_Span) := PySem.W.mg_of X G aC_Span
  have F_Span_init := fun_mk (st := s_Span_init) l_Span_init c_Span_init k_Span_init
  have b_Span_init := F_Span_init.binds (ps := ["self", "low", "high"]) fun _ _ _ _ _ _ us hl => by obtain ⟨_, _, _, rfl⟩ := ex3 us hl; rfl
  have K_Span : Mk K C_Span f_Span_init := ⟨mk_Span, a_Span_init, i_Span_init, kc_Span⟩
  have F_Span_fits := fun_mk (st := s_Span_fits) l_Span_fits c_Span_fits k_Span_fits
  have b_Span_fits := F_Span_fits.binds (ps := ["self", "value"]) fun _ _ _ _ _ _ us hl => by obtain ⟨_, _, rfl⟩ := ex2 us hl; rfl
  have t_Span_fits : Meth K C_Span "fits" f_Span_fits := ⟨a_Span_fits, i_Span_fits, k_Span_fits⟩
  have F_Span_written := fun_mk (st := s_Span_written) l_Span_written c_Span_written k_Span_written
  have b_Span_written := F_Span_written.binds (ps := ["self", "value"]) fun _ _ _ _ _ _ us hl => by obtain ⟨_, _, rfl⟩ := ex2 us hl; rfl
  have t_Span_written : Meth K C_Span "written" f_Span_written := ⟨a_Span_written, i_Span_written, k_Span_written⟩
  have F_Span_draw := fun_mk (st := s_Span_draw) l_Span_draw c_Span_draw k_Span_draw
  have b_Span_draw := F_Span_draw.binds (ps := ["self", "source"]) fun _ _ _ _ _ _ us hl => by obtain ⟨_, _, rfl⟩ := ex2 us hl; rfl
  have t_Span_draw : Meth K C_Span "draw" f_Span_draw := ⟨a_Span_draw, i_Span_draw, k_Span_draw⟩
  have F_Span_row := fun_mk (st := s_Form_row) l_Span_row c_Span_row k_Span_row
  have b_Span_row := F_Span_row.binds (ps := ["self", "value"]) fun _ _ _ _ _ _ us hl => by obtain ⟨_, _, rfl⟩ := ex2 us hl; rfl
  have t_Span_row : Meth K C_Span "row" f_Span_row := ⟨a_Span_row, i_Span_row, k_Span_row⟩
  have cl_Letters : Cls K C_Letters := ⟨pg_Letters, hd_Letters, po_Letters, sa_Letters⟩
  have m_Letters : mg "Letters" = some (.ref C_Letters) := PySem.W.mg_of X G aC_Letters
  have F_Letters_init := fun_mk (st := s_Letters_init) l_Letters_init c_Letters_init k_Letters_init
  have b_Letters_init := F_Letters_init.binds (ps := ["self", "signs"]) fun _ _ _ _ _ _ us hl => by obtain ⟨_, _, rfl⟩ := ex2 us hl; rfl
  have K_Letters : Mk K C_Letters f_Letters_init := ⟨mk_Letters, a_Letters_init, i_Letters_init, kc_Letters⟩
  have F_Letters_fits := fun_mk (st := s_Letters_fits) l_Letters_fits c_Letters_fits k_Letters_fits
  have b_Letters_fits := F_Letters_fits.binds (ps := ["self", "value"]) fun _ _ _ _ _ _ us hl => by obtain ⟨_, _, rfl⟩ := ex2 us hl; rfl
  have t_Letters_fits : Meth K C_Letters "fits" f_Letters_fits := ⟨a_Letters_fits, i_Letters_fits, k_Letters_fits⟩
  have F_Letters_places := fun_mk (st := s_Letters_places) l_Letters_places c_Letters_places k_Letters_places
  have b_Letters_places := F_Letters_places.binds (ps := ["self", "text"]) fun _ _ _ _ _ _ us hl => by obtain ⟨_, _, rfl⟩ := ex2 us hl; rfl
  have t_Letters_places : Meth K C_Letters "places" f_Letters_places := ⟨a_Letters_places, i_Letters_places, k_Letters_places⟩
  have F_Letters_written := fun_mk (st := s_Letters_written) l_Letters_written c_Letters_written k_Letters_written
  have b_Letters_written := F_Letters_written.binds (ps := ["self", "value"]) fun _ _ _ _ _ _ us hl => by obtain ⟨_, _, rfl⟩ := ex2 us hl; rfl
  have t_Letters_written : Meth K C_Letters "written" f_Letters_written := ⟨a_Letters_written, i_Letters_written, k_Letters_written⟩
  have F_Letters_draw := fun_mk (st := s_Letters_draw) l_Letters_draw c_Letters_draw k_Letters_draw
  have b_Letters_draw := F_Letters_draw.binds (ps := ["self", "source"]) fun _ _ _ _ _ _ us hl => by obtain ⟨_, _, rfl⟩ := ex2 us hl; rfl
  have t_Letters_draw : Meth K C_Letters "draw" f_Letters_draw := ⟨a_Letters_draw, i_Letters_draw, k_Letters_draw⟩
  have F_Letters_row := fun_mk (st := s_Form_row) l_Letters_row c_Letters_row k_Letters_row
  have b_Letters_row := F_Letters_row.binds (ps := ["self", "value"]) fun _ _ _ _ _ _ us hl => by obtain ⟨_, _, rfl⟩ := ex2 us hl; rfl
  have t_Letters_row : Meth K C_Letters "row" f_Letters_row := ⟨a_Letters_row, i_Letters_row, k_Letters_row⟩
  have cl_Many : Cls K C_Many := ⟨pg_Many, hd_Many, po_Many, sa_Many⟩
  have m_Many : mg "Many" = some (.ref C_Many) := PySem.W.mg_of X G aC_Many
  have F_Many_init := fun_mk (st := s_Many_init) l_Many_init c_Many_init k_Many_init
  have b_Many_init := F_Many_init.binds (ps := ["self", "inner"]) fun _ _ _ _ _ _ us hl => by obtain ⟨_, _, rfl⟩ := ex2 us hl; rfl
  have K_Many : Mk K C_Many f_Many_init := ⟨mk_Many, a_Many_init, i_Many_init, kc_Many⟩
  have F_Many_fits := fun_mk (st := s_Many_fits) l_Many_fits c_Many_fits k_Many_fits
  have b_Many_fits := F_Many_fits.binds (ps := ["self", "value"]) fun _ _ _ _ _ _ us hl => by obtain ⟨_, _, rfl⟩ := ex2 us hl; rfl
  have t_Many_fits : Meth K C_Many "fits" f_Many_fits := ⟨a_Many_fits, i_Many_fits, k_Many_fits⟩
  have F_Many_written := fun_mk (st := s_Many_written) l_Many_written c_Many_written k_Many_written
  have b_Many_written := F_Many_written.binds (ps := ["self", "value"]) fun _ _ _ _ _ _ us hl => by obtain ⟨_, _, rfl⟩ := ex2 us hl; rfl
  have t_Many_written : Meth K C_Many "written" f_Many_written := ⟨a_Many_written, i_Many_written, k_Many_written⟩
  have F_Many_draw := fun_mk (st := s_Many_draw) l_Many_draw c_Many_draw k_Many_draw
  have b_Many_draw := F_Many_draw.binds (ps := ["self", "source"]) fun _ _ _ _ _ _ us hl => by obtain ⟨_, _, rfl⟩ := ex2 us hl; rfl
  have t_Many_draw : Meth K C_Many "draw" f_Many_draw := ⟨a_Many_draw, i_Many_draw, k_Many_draw⟩
  have F_Many_row := fun_mk (st := s_Form_row) l_Many_row c_Many_row k_Many_row
  have b_Many_row := F_Many_row.binds (ps := ["self", "value"]) fun _ _ _ _ _ _ us hl => by obtain ⟨_, _, rfl⟩ := ex2 us hl; rfl
  have t_Many_row : Meth K C_Many "row" f_Many_row := ⟨a_Many_row, i_Many_row, k_Many_row⟩
  have cl_Turned : Cls K C_Turned := ⟨pg_Turned, hd_Turned, po_Turned, sa_Turned⟩
  have m_Turned : mg "Turned" = some (.ref C_Turned) := PySem.W.mg_of X G aC_Turned
  have F_Turned_init := fun_mk (st := s_Turned_init) l_Turned_init c_Turned_init k_Turned_init
  have b_Turned_init := F_Turned_init.binds (ps := ["self", "inner"]) fun _ _ _ _ _ _ us hl => by obtain ⟨_, _, rfl⟩ := ex2 us hl; rfl
  have K_Turned : Mk K C_Turned f_Turned_init := ⟨mk_Turned, a_Turned_init, i_Turned_init, kc_Turned⟩
  have F_Turned_fits := fun_mk (st := s_Turned_fits) l_Turned_fits c_Turned_fits k_Turned_fits
  have b_Turned_fits := F_Turned_fits.binds (ps := ["self", "value"]) fun _ _ _ _ _ _ us hl => by obtain ⟨_, _, rfl⟩ := ex2 us hl; rfl
  have t_Turned_fits : Meth K C_Turned "fits" f_Turned_fits := ⟨a_Turned_fits, i_Turned_fits, k_Turned_fits⟩
  have F_Turned_written := fun_mk (st := s_Turned_written) l_Turned_written c_Turned_written k_Turned_written
  have b_Turned_written := F_Turned_written.binds (ps := ["self", "value"]) fun _ _ _ _ _ _ us hl => by obtain ⟨_, _, rfl⟩ := ex2 us hl; rfl
  have t_Turned_written : Meth K C_Turned "written" f_Turned_written := ⟨a_Turned_written, i_Turned_written, k_Turned_written⟩
  have F_Turned_draw := fun_mk (st := s_Turned_draw) l_Turned_draw c_Turned_draw k_Turned_draw
  have b_Turned_draw := F_Turned_draw.binds (ps := ["self", "source"]) fun _ _ _ _ _ _ us hl => by obtain ⟨_, _, rfl⟩ := ex2 us hl; rfl
  have t_Turned_draw : Meth K C_Turned "draw" f_Turned_draw := ⟨a_Turned_draw, i_Turned_draw, k_Turned_draw⟩
  have F_Turned_row := fun_mk (st := s_Form_row) l_Turned_row c_Turned_row k_Turned_row
  have b_Turned_row := F_Turned_row.binds (ps := ["self", "value"]) fun _ _ _ _ _ _ us hl => by obtain ⟨_, _, rfl⟩ := ex2 us hl; rfl
  have t_Turned_row : Meth K C_Turned "row" f_Turned_row := ⟨a_Turned_row, i_Turned_row, k_Turned_row⟩
  have cl_Record : Cls K C_Record := ⟨pg_Record, hd_Record, po_Record, sa_Record⟩
  have m_Record : mg "Record" = some (.ref C_Record) := PySem.W.mg_of X G aC_Record
  have F_Record_init := fun_mk (st := s_Record_init) l_Record_init c_Record_init k_Record_init
  have b_Record_init := F_Record_init.binds (ps := ["self", "parts"]) fun _ _ _ _ _ _ us hl => by obtain ⟨_, _, rfl⟩ := ex2 us hl; rfl
  have K_Record : Mk K C_Record f_Record_init := ⟨mk_Record, a_Record_init, i_Record_init, kc_Record⟩
  have F_Record_fits := fun_mk (st := s_Record_fits) l_Record_fits c_Record_fits k_Record_fits
  have b_Record_fits := F_Record_fits.binds (ps := ["self", "value"]) fun _ _ _ _ _ _ us hl => by obtain ⟨_, _, rfl⟩ := ex2 us hl; rfl
  have t_Record_fits : Meth K C_Record "fits" f_Record_fits := ⟨a_Record_fits, i_Record_fits, k_Record_fits⟩
  have F_Record_written := fun_mk (st := s_Record_written) l_Record_written c_Record_written k_Record_written
  have b_Record_written := F_Record_written.binds (ps := ["self", "value"]) fun _ _ _ _ _ _ us hl => by obtain ⟨_, _, rfl⟩ := ex2 us hl; rfl
  have t_Record_written : Meth K C_Record "written" f_Record_written := ⟨a_Record_written, i_Record_written, k_Record_written⟩
  have F_Record_draw := fun_mk (st := s_Record_draw) l_Record_draw c_Record_draw k_Record_draw
  have b_Record_draw := F_Record_draw.binds (ps := ["self", "source"]) fun _ _ _ _ _ _ us hl => by obtain ⟨_, _, rfl⟩ := ex2 us hl; rfl
  have t_Record_draw : Meth K C_Record "draw" f_Record_draw := ⟨a_Record_draw, i_Record_draw, k_Record_draw⟩
  have F_Record_row := fun_mk (st := s_Form_row) l_Record_row c_Record_row k_Record_row
  have b_Record_row := F_Record_row.binds (ps := ["self", "value"]) fun _ _ _ _ _ _ us hl => by obtain ⟨_, _, rfl⟩ := ex2 us hl; rfl
  have t_Record_row : Meth K C_Record "row" f_Record_row := ⟨a_Record_row, i_Record_row, k_Record_row⟩
  have gm_RiseError : mg "RiseError" = some (.ref C_RiseError) := PySem.W.mg_of X G aC_RiseError
  have gc_RiseError : GlobV mg "RiseError" (.ref C_RiseError) := ⟨_, gm_RiseError, rfl⟩
  have gm_NoFit : mg "NoFit" = some (.ref C_NoFit) := PySem.W.mg_of X G aC_NoFit
  have gc_NoFit : GlobV mg "NoFit" (.ref C_NoFit) := ⟨_, gm_NoFit, rfl⟩
  have gm_Short : mg "Short" = some (.ref C_Short) := PySem.W.mg_of X G aC_Short
  have gc_Short : GlobV mg "Short" (.ref C_Short) := ⟨_, gm_Short, rfl⟩
  have gm_Wrong : mg "Wrong" = some (.ref C_Wrong) := PySem.W.mg_of X G aC_Wrong
  have gc_Wrong : GlobV mg "Wrong" (.ref C_Wrong) := ⟨_, gm_Wrong, rfl⟩
  have gm_Left : mg "Left" = some (.ref C_Left) := PySem.W.mg_of X G aC_Left
  have gc_Left : GlobV mg "Left" (.ref C_Left) := ⟨_, gm_Left, rfl⟩
  have gm_NoForm : mg "NoForm" = some (.ref C_NoForm) := PySem.W.mg_of X G aC_NoForm
  have gc_NoForm : GlobV mg "NoForm" (.ref C_NoForm) := ⟨_, gm_NoForm, rfl⟩
  have gm_NoText : mg "NoText" = some (.ref C_NoText) := PySem.W.mg_of X G aC_NoText
  have gc_NoText : GlobV mg "NoText" (.ref C_NoText) := ⟨_, gm_NoText, rfl⟩
  have gm_NotAhead : mg "NotAhead" = some (.ref C_NotAhead) := PySem.W.mg_of X G aC_NotAhead
  have gc_NotAhead : GlobV mg "NotAhead" (.ref C_NotAhead) := ⟨_, gm_NotAhead, rfl⟩
  have gm_BadPage : mg "BadPage" = some (.ref C_BadPage) := PySem.W.mg_of X G aC_BadPage
  have gc_BadPage : GlobV mg "BadPage" (.ref C_BadPage) := ⟨_, gm_BadPage, rfl⟩
  have gm_Twice : mg "Twice" = some (.ref C_Twice) := PySem.W.mg_of X G aC_Twice
  have gc_Twice : GlobV mg "Twice" (.ref C_Twice) := ⟨_, gm_Twice, rfl⟩
  have gm_Lacking : mg "Lacking" = some (.ref C_Lacking) := PySem.W.mg_of X G aC_Lacking
  have gc_Lacking : GlobV mg "Lacking" (.ref C_Lacking) := ⟨_, gm_Lacking, rfl⟩
  have xc_RiseError : ExcC K C_RiseError := ⟨xga_RiseError, xgt_RiseError, xcl_RiseError, xob_RiseError, xbe_RiseError, xis_RiseError, xhn_RiseError, xtk_RiseError⟩
  have xc_NoFit : ExcC K C_NoFit := ⟨xga_NoFit, xgt_NoFit, xcl_NoFit, xob_NoFit, xbe_NoFit, xis_NoFit, xhn_NoFit, xtk_NoFit⟩
  have xc_Wrong : ExcC K C_Wrong := ⟨xga_Wrong, xgt_Wrong, xcl_Wrong, xob_Wrong, xbe_Wrong, xis_Wrong, xhn_Wrong, xtk_Wrong⟩
  have xc_Left : ExcC K C_Left := ⟨xga_Left, xgt_Left, xcl_Left, xob_Left, xbe_Left, xis_Left, xhn_Left, xtk_Left⟩
  have BB_RiseError : Base K mg "RiseError" C_RiseError := ⟨gm_RiseError, bg_RiseError, br_RiseError, bf_RiseError⟩
  have F_Wrong_init := fun_mk (st := s_Wrong_init) l_Wrong_init c_Wrong_init k_Wrong_init
  have XB_Wrong := F_Wrong_init.binds (ps := ["self", "place"]) fun _ _ _ _ _ _ us hl => by obtain ⟨_, _, rfl⟩ := ex2 us hl; rfl
  have XM_Wrong : XMk K mg "Wrong" C_Wrong f_Wrong_init := ⟨xj_Wrong, tf_Wrong_init, kc_Wrong, xbe_Wrong, xt_Wrong, gm_Wrong⟩
  have XS_Wrong : ExcS K C_Wrong := { xc_Wrong with sa := sa_Wrong, ov := ov_Wrong, hd := hd_Wrong }
  have F_Left_init := fun_mk (st := s_Left_init) l_Left_init c_Left_init k_Left_init
  have XB_Left := F_Left_init.binds (ps := ["self", "place"]) fun _ _ _ _ _ _ us hl => by obtain ⟨_, _, rfl⟩ := ex2 us hl; rfl
  have XM_Left : XMk K mg "Left" C_Left f_Left_init := ⟨xj_Left, tf_Left_init, kc_Left, xbe_Left, xt_Left, gm_Left⟩
  have XS_Left : ExcS K C_Left := { xc_Left with sa := sa_Left, ov := ov_Left, hd := hd_Left }
  have F_turned_row : FunAt K mg "turned_row" s_turned_row ["row"] f_turned_row _ := ⟨fun_mk (st := s_turned_row) l_turned_row c_turned_row k_turned_row, (fun_mk (st := s_turned_row) l_turned_row c_turned_row k_turned_row).binds (ps := ["row"]) fun _ _ _ _ _ _ us hl => by obtain ⟨_, rfl⟩ := ex1 us hl; rfl, PySem.W.mg_of X G a_turned_row⟩
  have F_lower_digits : FunAt K mg "lower_digits" s_lower_digits ["n", "width"] f_lower_digits _ := ⟨fun_mk (st := s_lower_digits) l_lower_digits c_lower_digits k_lower_digits, (fun_mk (st := s_lower_digits) l_lower_digits c_lower_digits k_lower_digits).binds (ps := ["n", "width"]) fun _ _ _ _ _ _ us hl => by obtain ⟨_, _, rfl⟩ := ex2 us hl; rfl, PySem.W.mg_of X G a_lower_digits⟩
  have F_fixed_row : FunAt K mg "fixed_row" s_fixed_row ["n", "most"] f_fixed_row _ := ⟨fun_mk (st := s_fixed_row) l_fixed_row c_fixed_row k_fixed_row, (fun_mk (st := s_fixed_row) l_fixed_row c_fixed_row k_fixed_row).binds (ps := ["n", "most"]) fun _ _ _ _ _ _ us hl => by obtain ⟨_, _, rfl⟩ := ex2 us hl; rfl, PySem.W.mg_of X G a_fixed_row⟩
  have F_draw_fixed : FunAt K mg "draw_fixed" s_draw_fixed ["source", "most"] f_draw_fixed _ := ⟨fun_mk (st := s_draw_fixed) l_draw_fixed c_draw_fixed k_draw_fixed, (fun_mk (st := s_draw_fixed) l_draw_fixed c_draw_fixed k_draw_fixed).binds (ps := ["source", "most"]) fun _ _ _ _ _ _ us hl => by obtain ⟨_, _, rfl⟩ := ex2 us hl; rfl, PySem.W.mg_of X G a_draw_fixed⟩
  have F_is_number : FunAt K mg "is_number" s_is_number ["value"] f_is_number _ := ⟨fun_mk (st := s_is_number) l_is_number c_is_number k_is_number, (fun_mk (st := s_is_number) l_is_number c_is_number k_is_number).binds (ps := ["value"]) fun _ _ _ _ _ _ us hl => by obtain ⟨_, rfl⟩ := ex1 us hl; rfl, PySem.W.mg_of X G a_is_number⟩
  have F_made_of : FunAt K mg "made_of" s_made_of ["text", "signs"] f_made_of _ := ⟨fun_mk (st := s_made_of) l_made_of c_made_of k_made_of, (fun_mk (st := s_made_of) l_made_of c_made_of k_made_of).binds (ps := ["text", "signs"]) fun _ _ _ _ _ _ us hl => by obtain ⟨_, _, rfl⟩ := ex2 us hl; rfl, PySem.W.mg_of X G a_made_of⟩
  have F_is_name : FunAt K mg "is_name" s_is_name ["name"] f_is_name _ := ⟨fun_mk (st := s_is_name) l_is_name c_is_name k_is_name, (fun_mk (st := s_is_name) l_is_name c_is_name k_is_name).binds (ps := ["name"]) fun _ _ _ _ _ _ us hl => by obtain ⟨_, rfl⟩ := ex1 us hl; rfl, PySem.W.mg_of X G a_is_name⟩
  have F_names_of : FunAt K mg "names_of" s_names_of ["parts"] f_names_of _ := ⟨fun_mk (st := s_names_of) l_names_of c_names_of k_names_of, (fun_mk (st := s_names_of) l_names_of c_names_of k_names_of).binds (ps := ["parts"]) fun _ _ _ _ _ _ us hl => by obtain ⟨_, rfl⟩ := ex1 us hl; rfl, PySem.W.mg_of X G a_names_of⟩
  have F_value_of : FunAt K mg "value_of" s_value_of ["form", "source"] f_value_of _ := ⟨fun_mk (st := s_value_of) l_value_of c_value_of k_value_of, (fun_mk (st := s_value_of) l_value_of c_value_of k_value_of).binds (ps := ["form", "source"]) fun _ _ _ _ _ _ us hl => by obtain ⟨_, _, rfl⟩ := ex2 us hl; rfl, PySem.W.mg_of X G a_value_of⟩
  have F_read_all : FunAt K mg "read_all" s_read_all ["form", "signs"] f_read_all _ := ⟨fun_mk (st := s_read_all) l_read_all c_read_all k_read_all, (fun_mk (st := s_read_all) l_read_all c_read_all k_read_all).binds (ps := ["form", "signs"]) fun _ _ _ _ _ _ us hl => by obtain ⟨_, _, rfl⟩ := ex2 us hl; rfl, PySem.W.mg_of X G a_read_all⟩
  have F_begun_by : FunAt K mg "begun_by" s_begun_by ["form", "signs"] f_begun_by _ := ⟨fun_mk (st := s_begun_by) l_begun_by c_begun_by k_begun_by, (fun_mk (st := s_begun_by) l_begun_by c_begun_by k_begun_by).binds (ps := ["form", "signs"]) fun _ _ _ _ _ _ us hl => by obtain ⟨_, _, rfl⟩ := ex2 us hl; rfl, PySem.W.mg_of X G a_begun_by⟩
  have F_law_cell_at : FunAt K mg "_law_cell_at" s_law_cell_at ["_law_script", "_law_k"] f_law_cell_at _ := ⟨fun_mk (st := s_law_cell_at) l_law_cell_at c_law_cell_at k_law_cell_at, (fun_mk (st := s_law_cell_at) l_law_cell_at c_law_cell_at k_law_cell_at).binds (ps := ["_law_script", "_law_k"]) fun _ _ _ _ _ _ us hl => by obtain ⟨_, _, rfl⟩ := ex2 us hl; rfl, PySem.W.mg_of X G a_law_cell_at⟩
  have F_law_kinds : FunAt K mg "_law_kinds" s_law_kinds ["_law_kept"] f_law_kinds _ := ⟨fun_mk (st := s_law_kinds) l_law_kinds c_law_kinds k_law_kinds, (fun_mk (st := s_law_kinds) l_law_kinds c_law_kinds k_law_kinds).binds (ps := ["_law_kept"]) fun _ _ _ _ _ _ us hl => by obtain ⟨_, rfl⟩ := ex1 us hl; rfl, PySem.W.mg_of X G a_law_kinds⟩
  have F_law_form : FunAt K mg "_law_form" s_law_form ["_law_way", "_law_few"] f_law_form _ := ⟨fun_mk (st := s_law_form) l_law_form c_law_form k_law_form, (fun_mk (st := s_law_form) l_law_form c_law_form k_law_form).binds (ps := ["_law_way", "_law_few"]) fun _ _ _ _ _ _ us hl => by obtain ⟨_, _, rfl⟩ := ex2 us hl; rfl, PySem.W.mg_of X G a_law_form⟩
  have F_law_parts : FunAt K mg "_law_parts" s_law_parts ["_law_script", "_law_way", "_law_few"] f_law_parts _ := ⟨fun_mk (st := s_law_parts) l_law_parts c_law_parts k_law_parts, (fun_mk (st := s_law_parts) l_law_parts c_law_parts k_law_parts).binds (ps := ["_law_script", "_law_way", "_law_few"]) fun _ _ _ _ _ _ us hl => by obtain ⟨_, _, _, rfl⟩ := ex3 us hl; rfl, PySem.W.mg_of X G a_law_parts⟩
  have F_law_asked : FunAt K mg "_law_asked" s_law_asked ["_law_way", "_law_made", "_law_one"] f_law_asked _ := ⟨fun_mk (st := s_law_asked) l_law_asked c_law_asked k_law_asked, (fun_mk (st := s_law_asked) l_law_asked c_law_asked k_law_asked).binds (ps := ["_law_way", "_law_made", "_law_one"]) fun _ _ _ _ _ _ us hl => by obtain ⟨_, _, _, rfl⟩ := ex3 us hl; rfl, PySem.W.mg_of X G a_law_asked⟩
  have F_law := fun_mk (st := s_law) l_law c_law k_law
  have nb : NB mg := ⟨PySem.W.mg_none_of X G z_len, PySem.W.mg_none_of X G z_range, PySem.W.mg_none_of X G z_int, PySem.W.mg_none_of X G z_str, PySem.W.mg_none_of X G z_bool, PySem.W.mg_none_of X G z_tuple, PySem.W.mg_none_of X G z_isinstance, PySem.W.mg_none_of X G z_list, PySem.W.mg_none_of X G z_all, PySem.W.mg_none_of X G z_zip, PySem.W.mg_none_of X G z_set⟩
  have nbV := PySem.W.mg_none_of X G z_ValueError
  have g_MOST_SIGNS : GlobV mg "MOST_SIGNS" (.int 60) := ⟨_, PySem.W.mg_of X G g0_MOST_SIGNS, ⟨_, rfl⟩⟩
  have g_LONGEST_TEXT : GlobV mg "LONGEST_TEXT" (.int 200) := ⟨_, PySem.W.mg_of X G g0_LONGEST_TEXT, ⟨_, rfl⟩⟩
  have g_MOST_VALUES : GlobV mg "MOST_VALUES" (.int 60) := ⟨_, PySem.W.mg_of X G g0_MOST_VALUES, ⟨_, rfl⟩⟩
  have g_MOST_PARTS : GlobV mg "MOST_PARTS" (.int 20) := ⟨_, PySem.W.mg_of X G g0_MOST_PARTS, ⟨_, rfl⟩⟩
  have g_LONGEST_NAME : GlobV mg "LONGEST_NAME" (.int 12) := ⟨_, PySem.W.mg_of X G g0_LONGEST_NAME, ⟨_, rfl⟩⟩
  have g_SMALL_LETTERS : GlobV mg "SMALL_LETTERS" (.str L26) := ⟨_, PySem.W.mg_of X G g0_SMALL_LETTERS, ⟨_, rfl⟩⟩
  have g_LETTERS_AND_FIGURES : GlobV mg "LETTERS_AND_FIGURES" (.str L62) := ⟨_, PySem.W.mg_of X G g0_LETTERS_AND_FIGURES, ⟨_, rfl⟩⟩
  refine ⟨PySem.W.fnOf "law" "law" (defArgs s_law) (defBody s_law) (defScope s_law) .none kV_x57 dc_x57 pm_x57 an_x57 cd_x57 ct_x57, fun s v => .of_eq rfl, fun base _ _ => ?_⟩
  have T : SrcCls K C_Source := ⟨cl_Source, n_Source_signs, n_Source_place, n_Source_turned, n_Source_endless, n_Source_wished⟩
  have XF_Wrong := ok_Wrong_init (P := l.prog) (w := w) (base := base) xj_Wrong XS_Wrong tp_Wrong BB_RiseError F_Wrong_init
  have XF_Left := ok_Left_init (P := l.prog) (w := w) (base := base) xj_Left XS_Left tp_Left BB_RiseError F_Left_init
  have D_turned_row := ok_turned_row (P := l.prog) (w := w) (base := base) F_turned_row
  have D_lower_digits := ok_lower_digits (P := l.prog) (w := w) (base := base) nb F_lower_digits
  have D_fixed_row := ok_fixed_row F_fixed_row D_lower_digits
  have D_is_number := ok_is_numberD (P := l.prog) (w := w) (base := base) nb F_is_number
  have D_made_of := ok_made_of (P := l.prog) (w := w) (base := base) nb F_made_of
  have D_is_name := ok_is_name nb g_LONGEST_NAME g_SMALL_LETTERS F_is_name D_made_of
  have D_names_of := ok_names_of nb g_MOST_PARTS F_names_of D_is_name
  have M_draw : MethOk l.prog w K mg base 1 C_Source "draw" ["self"] (spDraw C_Source) := ⟨_, _, ok_draw nb T F_Source_draw, b_Source_draw, t_Source_draw⟩
  have M_turn : MethOk l.prog w K mg base 1 C_Source "turn" ["self"] (spTurn C_Source) := ⟨_, _, ok_turn T F_Source_turn, b_Source_turn, t_Source_turn⟩
  have M_go_on : MethOk l.prog w K mg base 1 C_Source "go_on" ["self"] (spGoOn C_Source) := ⟨_, _, ok_go_on T F_Source_go_on, b_Source_go_on, t_Source_go_on⟩
  have M_refuse : MethOk l.prog w K mg base 1 C_Source "refuse" ["self"] spNo := ⟨_, _, no_fn, b_Source_refuse, t_Source_refuse⟩
  have MB_refuse : MethOkE l.prog w K mg base 3 C_Source "refuse" ["self"] (spRefuse C_Source C_Wrong) := ⟨_, _, bad_refuse T XM_Wrong XF_Wrong XB_Wrong F_Source_refuse, b_Source_refuse, t_Source_refuse⟩
  have M_Source : MakeOk l.prog w K mg base 1 "Source" C_Source ["self", "signs", "at"] (spSrcInit C_Source) := ⟨_, _, K_Source, ok_src_init T F_Source_init, b_Source_init, m_Source⟩
  have D_draw_fixed := ok_draw_fixed nb T.cl F_draw_fixed M_draw M_refuse
  have TS : SpanCls K C_Span := ⟨cl_Span, n_Span_low, n_Span_high⟩
  have TL : LetCls K C_Letters := ⟨cl_Letters, n_Letters_signs⟩
  have TR : TwoCls K C_Record := ⟨cl_Record, n_Record_names, n_Record_forms⟩
  have TY : OneCls K C_Many := ⟨cl_Many, n_Many_inner⟩
  have TT : OneCls K C_Turned := ⟨cl_Turned, n_Turned_inner⟩
  have M_Span : MakeOk l.prog w K mg base 1 "Span" C_Span ["self", "low", "high"] (spSpanInit C_Span) := ⟨_, _, K_Span, ok_span_init TS F_Span_init, b_Span_init, m_Span⟩
  have M_Letters : MakeOk l.prog w K mg base 2 "Letters" C_Letters ["self", "signs"] (spLetInit C_Letters) := ⟨_, _, K_Letters, ok_let_init nb g_MOST_SIGNS g_LETTERS_AND_FIGURES TL F_Letters_init D_made_of, b_Letters_init, m_Letters⟩
  have M_Record : MakeOk l.prog w K mg base 4 "Record" C_Record ["self", "parts"] (spTwoInit C_Record) := ⟨_, _, K_Record, ok_rec_init nb TR F_Record_init D_names_of, b_Record_init, m_Record⟩
  have M_Many : MakeOk l.prog w K mg base 1 "Many" C_Many ["self", "inner"] (spOneInit C_Many) := ⟨_, _, K_Many, ok_many_init TY F_Many_init, b_Many_init, m_Many⟩
  have M_Turned : MakeOk l.prog w K mg base 1 "Turned" C_Turned ["self", "inner"] (spOneInit C_Turned) := ⟨_, _, K_Turned, ok_turned_init TT F_Turned_init, b_Turned_init, m_Turned⟩
  obtain ⟨c, hc⟩ : ∃ c : FC, c = ⟨fun k => [C_Nothing, C_Truth, C_Nothing, C_Nothing][k], C_Span, C_Letters, fun k => [C_Many, C_Many, C_Turned][k], fun k => [C_Record, C_Record][k]⟩ := ⟨_, rfl⟩
  have ec_Nothing : c.b 0 = C_Nothing := by rw [hc]; rfl
  have ec_Truth : c.b 1 = C_Truth := by rw [hc]; rfl
  have ec_b2 : c.b 2 = c.b 0 := by rw [hc]; rfl
  have ec_b3 : c.b 3 = c.b 0 := by rw [hc]; rfl
  have ec_Span : c.s = C_Span := by rw [hc]
  have ec_Letters : c.l = C_Letters := by rw [hc]
  have ec_o0 : c.o 0 = c.o 1 := by rw [hc]; rfl
  have ec_Many : c.o 1 = C_Many := by rw [hc]; rfl
  have ec_Turned : c.o 2 = C_Turned := by rw [hc]; rfl
  have ec_Record : c.t 0 = C_Record := by rw [hc]; rfl
  have ec_t1 : c.t 1 = c.t 0 := by rw [hc]; rfl
  clear hc
  subst ec_Nothing
  subst ec_Truth
  subst ec_Span
  subst ec_Letters
  subst ec_Many
  subst ec_Turned
  subst ec_Record
  have tO : ∀ k, OneCls K (c.o k) := fun k => by
    rcases fin3 k with rfl | rfl | rfl
    · rw [ec_o0]; exact TY
    · exact TY
    · exact TT
  have tT : ∀ k, TwoCls K (c.t k) := fun k => by
    rcases fin2 k with rfl | rfl
    · exact TR
    · rw [ec_t1]; exact TR
  have LK : Lack K c := ⟨ec_b2, ec_b3, ec_o0, ec_t1, TS, TL, tO, tT⟩
  have SF : Fts K c := ⟨⟨⟨_, _, F_Nothing_fits, b_Nothing_fits, t_Nothing_fits⟩, cl_Nothing⟩, ⟨⟨_, _, F_Truth_fits, b_Truth_fits, t_Truth_fits⟩, cl_Truth⟩, ⟨⟨_, _, F_Span_fits, b_Span_fits, t_Span_fits⟩, cl_Span⟩, ⟨⟨_, _, F_Letters_fits, b_Letters_fits, t_Letters_fits⟩, cl_Letters⟩, ⟨⟨_, _, F_Many_fits, b_Many_fits, t_Many_fits⟩, cl_Many⟩, ⟨⟨_, _, F_Turned_fits, b_Turned_fits, t_Turned_fits⟩, cl_Turned⟩, ⟨⟨_, _, F_Record_fits, b_Record_fits, t_Record_fits⟩, cl_Record⟩⟩
  have SW : Wts K c := ⟨⟨⟨_, _, F_Nothing_written, b_Nothing_written, t_Nothing_written⟩, cl_Nothing⟩, ⟨⟨_, _, F_Truth_written, b_Truth_written, t_Truth_written⟩, cl_Truth⟩, ⟨⟨_, _, F_Span_written, b_Span_written, t_Span_written⟩, cl_Span⟩, ⟨⟨_, _, F_Letters_written, b_Letters_written, t_Letters_written⟩, cl_Letters⟩, ⟨⟨_, _, F_Many_written, b_Many_written, t_Many_written⟩, cl_Many⟩, ⟨⟨_, _, F_Turned_written, b_Turned_written, t_Turned_written⟩, cl_Turned⟩, ⟨⟨_, _, F_Record_written, b_Record_written, t_Record_written⟩, cl_Record⟩⟩
  have SD : Dts K c := ⟨⟨⟨_, _, F_Nothing_draw, b_Nothing_draw, t_Nothing_draw⟩, cl_Nothing⟩, ⟨⟨_, _, F_Truth_draw, b_Truth_draw, t_Truth_draw⟩, cl_Truth⟩, ⟨⟨_, _, F_Span_draw, b_Span_draw, t_Span_draw⟩, cl_Span⟩, ⟨⟨_, _, F_Letters_draw, b_Letters_draw, t_Letters_draw⟩, cl_Letters⟩, ⟨⟨_, _, F_Many_draw, b_Many_draw, t_Many_draw⟩, cl_Many⟩, ⟨⟨_, _, F_Turned_draw, b_Turned_draw, t_Turned_draw⟩, cl_Turned⟩, ⟨⟨_, _, F_Record_draw, b_Record_draw, t_Record_draw⟩, cl_Record⟩⟩
  have SR : Rws K c := ⟨fun i => by
    cases i with
    | b k =>
      rcases fin4 k with rfl | rfl | rfl | rfl
      · exact ⟨⟨_, _, F_Nothing_row, b_Nothing_row, t_Nothing_row⟩, cl_Nothing⟩
      · exact ⟨⟨_, _, F_Truth_row, b_Truth_row, t_Truth_row⟩, cl_Truth⟩
      · show MethAt K (c.b 2) _ _ _ _
        rw [ec_b2]; exact ⟨⟨_, _, F_Nothing_row, b_Nothing_row, t_Nothing_row⟩, cl_Nothing⟩
      · show MethAt K (c.b 3) _ _ _ _
        rw [ec_b3]; exact ⟨⟨_, _, F_Nothing_row, b_Nothing_row, t_Nothing_row⟩, cl_Nothing⟩
    | s => exact ⟨⟨_, _, F_Span_row, b_Span_row, t_Span_row⟩, cl_Span⟩
    | l => exact ⟨⟨_, _, F_Letters_row, b_Letters_row, t_Letters_row⟩, cl_Letters⟩
    | o k =>
      rcases fin3 k with rfl | rfl | rfl
      · show MethAt K (c.o 0) _ _ _ _
        rw [ec_o0]; exact ⟨⟨_, _, F_Many_row, b_Many_row, t_Many_row⟩, cl_Many⟩
      · exact ⟨⟨_, _, F_Many_row, b_Many_row, t_Many_row⟩, cl_Many⟩
      · exact ⟨⟨_, _, F_Turned_row, b_Turned_row, t_Turned_row⟩, cl_Turned⟩
    | t k =>
      rcases fin2 k with rfl | rfl
      · exact ⟨⟨_, _, F_Record_row, b_Record_row, t_Record_row⟩, cl_Record⟩
      · show MethAt K (c.t 1) _ _ _ _
        rw [ec_t1]; exact ⟨⟨_, _, F_Record_row, b_Record_row, t_Record_row⟩, cl_Record⟩⟩
  have M_places : MethOk l.prog w K mg base 1 c.l "places" ["self", "text"] (spPlaces c.l) := ⟨_, _, ok_Letters_places TL F_Letters_places, b_Letters_places, t_Letters_places⟩
  have AM_fits := all_fits (ff := fun _ => false) (P := l.prog) (w := w) (base := base) nb LK SF g_MOST_VALUES g_LONGEST_TEXT D_is_number D_made_of 4
  have AM_written := all_written (ff := fun _ => false) (fw := fun _ => []) nb LK SW M_places D_fixed_row D_turned_row 4
  have AM_draw := all_draw (ff := fun _ => false) (fw := fun _ => []) nb LK SD T.cl g_MOST_VALUES g_LONGEST_TEXT M_draw M_turn M_refuse D_draw_fixed 4
  have AMB_draw := all_drawbad (ff := fun _ => false) (fw := fun _ => []) nb LK SD T.cl g_MOST_VALUES g_LONGEST_TEXT M_draw M_turn M_refuse MB_refuse D_draw_fixed 4
  have AM_row := all_row SR AM_fits AM_written
  have AMB_row := bad_row xi_NoFit gm_NoFit SR AM_fits AM_written
  have D_value_of := ok_value_of nb T F_value_of AM_draw
  have DB_value_of := bad_value_of nb T F_value_of AM_draw AMB_draw XM_Left XF_Left XB_Left
  have D_read_all := ok_read_all F_read_all M_Source D_value_of
  have DB_read_all := bad_read_all F_read_all M_Source DB_value_of
  have DB_begun_by := bad_begun_by T.cl F_begun_by M_Source M_go_on DB_value_of
  have NM : Nms mg ⟨C_NoFit, C_Short, C_Wrong, C_Left, C_NoForm, C_NoText, C_NotAhead, C_BadPage, C_Twice, C_Lacking⟩ := ⟨gc_NoFit, gc_Short, gc_Wrong, gc_Left, gc_NoForm, gc_NoText, gc_NotAhead, gc_BadPage, gc_Twice, gc_Lacking⟩
  have kN : Kits K ⟨C_NoFit, C_Short, C_Wrong, C_Left, C_NoForm, C_NoText, C_NotAhead, C_BadPage, C_Twice, C_Lacking⟩ C_NoFit [true, false, false, false, false, false, false, false, false, false, true] :=
    ⟨xc_NoFit, _, _, _, _, _, _, _, _, _, _, rfl, kit_same .., kt_NoFit_Short, kt_NoFit_Wrong, kt_NoFit_Left, kt_NoFit_NoForm, kt_NoFit_NoText, kt_NoFit_NotAhead, kt_NoFit_BadPage, kt_NoFit_Twice, kt_NoFit_Lacking, kt_NoFit_ValueError⟩
  have kW : Kits K ⟨C_NoFit, C_Short, C_Wrong, C_Left, C_NoForm, C_NoText, C_NotAhead, C_BadPage, C_Twice, C_Lacking⟩ C_Wrong [false, false, true, false, false, false, false, false, false, false, true] :=
    ⟨xc_Wrong, _, _, _, _, _, _, _, _, _, _, rfl, kt_Wrong_NoFit, kt_Wrong_Short, kit_same .., kt_Wrong_Left, kt_Wrong_NoForm, kt_Wrong_NoText, kt_Wrong_NotAhead, kt_Wrong_BadPage, kt_Wrong_Twice, kt_Wrong_Lacking, kt_Wrong_ValueError⟩
  have D_law_kinds := ok_law_kindsG (P := l.prog) (w := w) (base := base) nb nbV NM F_law_kinds
  have D_law_cell_at := ok_law_cell_at (P := l.prog) (w := w) (base := base) nb F_law_cell_at
  have D_law_form := ok_law_form43 F_law_form M0_Truth m_Truth M0_Nothing m_Nothing M_Span M_Letters M_Many
  have D_law_parts := ok_law_parts nb F_law_parts D_law_cell_at
  have D_law_asked := ok_law_asked43 gm_RiseError xc_RiseError xt_RiseError mr_NoFit_RiseError mr_Wrong_RiseError F_law_asked AM_row AMB_row D_read_all DB_read_all DB_begun_by
  exact ok_law43 nb F_law kN kW ⟨xc_Wrong, hd_Wrong, nf_Wrong⟩ M0_Truth m_Truth M_Turned M_Record D_law_cell_at D_law_parts D_law_form AM_fits D_law_asked D_law_kinds

theorem walk {l : PySem.W.OpenLaw} {q : Program} {loose : List Str} {XP : (Str → Option Value) → Heap → Prop} {YP : World → Heap → Prop} {d : DefRec} {K : Params → PySem.W.Frag} (hn : l.most = some 63) (hdf : d.params.defaults = [])
    (hY : ∀ (w : World) (h : Heap), YP w h → (K w.params).In h)
    (F : ∀ (w : World) (mg : Str → Option Value) (fa : Addr) (h : Heap), (K w.params).In h → h.Ns mainGlobals mg → mg d.name = some (.ref fa) →
      ∃ fd : FuncData, (∀ (s : Shared) (u : Value), BindsTo s fd ⟨[u], []⟩ [("_law_script", u)]) ∧ ∀ base : Heap, (K w.params).In base → base.Ns mainGlobals mg → FnOk l.prog w (K w.params) mg base CX0 16 fa fd ["_law_script"] (spLaw (K w.params))) :
    PySem.W.WalkO q loose XP YP l.row.toRowW d [] (fun f vs => PySem.call f vs) :=
  L2.walk_of (n := 63) (k := 16) (x := "_law_script") (CX := fun _ => CX0) (sp := fun w => spLaw (K w.params)) hn (by decide) hdf ⟨rfl, by decide, by decide⟩ hY F (fun _ _ a ns hl _ hS => ⟨a, ns, rfl, hS, hl, fun _ => rfl⟩) fun _ _ _ _ _ z => z
end
end KR
def PySem.W.Fast.tw11631198969271721142 : Nat := 0
def PySem.W.Fast.tw548486766659592944 : Nat := 0
def PySem.W.Fast.tw13699867498613876720 : Nat := 0
def PySem.W.Fast.tw5552603879988266429 : Nat := 0
def PySem.W.Fast.tw16034495307311710247 : Nat := 0
def PySem.W.Fast.tw7394456579014650160 : Nat := 0
def PySem.W.Fast.tw12218944738026064967 : Nat := 0
def PySem.W.Fast.tw5309702795778220596 : Nat := 0
def PySem.W.Fast.tw5586982667620260992 : Nat := 0
def PySem.W.Fast.tw10962113058516527523 : Nat := 0
def PySem.W.Fast.tw7980020559326723128 : Nat := 0
def PySem.W.Fast.tw7392484271752467216 : Nat := 0
def PySem.W.Fast.tw11316551313904128944 : Nat := 0
def PySem.W.Fast.tw14695761952739577397 : Nat := 0
def PySem.W.Fast.tw3672721990824302718 : Nat := 0
def PySem.W.Fast.tw994022187540937581 : Nat := 0
def PySem.W.Fast.tw6266990542116623378 : Nat := 0
def PySem.W.Fast.tw14877336416307487276 : Nat := 0
def PySem.W.Fast.tw12466529384468924674 : Nat := 0
def PySem.W.Fast.tw16334111520173343041 : Nat := 0
def PySem.W.Fast.tw8103313209680574713 : Nat := 0
def PySem.W.Fast.tw5642749104899494827 : Nat := 0
def PySem.W.Fast.tw2818050522956152785 : Nat := 0
def PySem.W.Fast.tw7786014438887104193 : Nat := 0
def PySem.W.Fast.tw5640063439805463649 : Nat := 0
def PySem.W.Fast.tw13729654048307003668 : Nat := 0
def PySem.W.Fast.tw3788705237665471356 : Nat := 0
def PySem.W.Fast.tw2340368493898098243 : Nat := 0
def PySem.W.Fast.tw8108602028605589354 : Nat := 0
def PySem.W.Fast.tw3934584097393754795 : Nat := 0
def PySem.W.Fast.tw16599177566308974663 : Nat := 0
def PySem.W.Fast.tw9156540368671302960 : Nat := 0
def PySem.W.Fast.tw2275722556706299572 : Nat := 0
def PySem.W.Fast.tw3442003462199896604 : Nat := 0
def PySem.W.Fast.tw10573247981479799988 : Nat := 0
def PySem.W.Fast.tw7549030719712778697 : Nat := 0
def PySem.W.Fast.tw1055092455711261118 : Nat := 0
def PySem.W.Fast.tw1004270148021022384 : Nat := 0
def PySem.W.Fast.tw3180432699778775199 : Nat := 0
def PySem.W.Fast.tw6698635564665097933 : Nat := 0
def PySem.W.Fast.tw9107096823163901095 : Nat := 0
def PySem.W.Fast.tw3233983406097318563 : Nat := 0
def PySem.W.Fast.tw11141589890430427870 : Nat := 0
def PySem.W.Fast.tw12888152317211839417 : Nat := 0
def PySem.W.Fast.tw13174883129722516215 : Nat := 0
def PySem.W.Fast.tw12829701738217146169 : Nat := 0
def PySem.W.Fast.tw4930023571958543957 : Nat := 0
def PySem.W.Fast.tw8533103201642481709 : Nat := 0
def PySem.W.Fast.tw17529100038262564740 : Nat := 0
def PySem.W.Fast.tw12171222693035849974 : Nat := 0
def PySem.W.Fast.tw7540168523447600208 : Nat := 0
def PySem.W.Fast.tw9157500649194773334 : Nat := 0
def PySem.W.Fast.tw5874378573509445837 : Nat := 0
open PySem PySem.W PyProof.Rows
set_option maxRecDepth 100000 in
set_option maxHeartbeats 0 in
theorem PySem.Challenge.cw_keyrise_k43_full_lists_holds : PySem.Challenge.rw_keyrise_k43_full_lists.Holds := by
  w_on; o_law; k_head; (case hw => w_witness2)
  k_fill
  refine KR.walk (l := PySem.Challenge.rw_keyrise_k43_full_lists) rfl rfl (fun w h Y => PySem.W.kIn_of Y) ?F
  case F =>
    intro w mg fa h KX G hmg
    refine' KR.all_mk KX G hmg ?a0 ?a1 ?a2 ?a3 ?a4 ?a5 ?a6 ?a7 ?a8 ?a9 ?a10 ?a11 ?a12 ?a13 ?a14 ?a15 ?a16 ?a17 ?a18 ?a19 ?a20 ?a21 ?a22 ?a23 ?a24 ?a25 ?a26 ?a27 ?a28 ?a29 ?a30 ?a31 ?a32 ?a33 ?a34 ?a35 ?a36 ?a37 ?a38 ?a39 ?a40 ?a41 ?a42 ?a43 ?a44 ?a45 ?a46 ?a47 ?a48 ?a49 ?a50 ?a51 ?a52 ?a53 ?a54 ?a55 ?a56 ?a57 ?a58 ?a59 ?a60 ?a61 ?a62 ?a63 ?a64 ?a65 ?a66 ?a67 ?a68 ?a69 ?a70 ?a71 ?a72 ?a73 ?a74 ?a75 ?a76 ?a77 ?a78 ?a79 ?a80 ?a81 ?a82 ?a83 ?a84 ?a85 ?a86 ?a87 ?a88 ?a89 ?a90 ?a91 ?a92 ?a93 ?a94 ?a95 ?a96 ?a97 ?a98 ?a99 ?a100 ?a101 ?a102 ?a103 ?a104 ?a105 ?a106 ?a107 ?a108 ?a109 ?a110 ?a111 ?a112 ?a113 ?a114 ?a115 ?a116 ?a117 ?a118 ?a119 ?a120 ?a121 ?a122 ?a123 ?a124 ?a125 ?a126 ?a127 ?a128 ?a129 ?a130 ?a131 ?a132 ?a133 ?a134 ?a135 ?a136 ?a137 ?a138 ?a139 ?a140 ?a141 ?a142 ?a143 ?a144 ?a145 ?a146 ?a147 ?a148 ?a149 ?a150 ?a151 ?a152 ?a153 ?a154 ?a155 ?a156 ?a157 ?a158 ?a159 ?a160 ?a161 ?a162 ?a163 ?a164 ?a165 ?a166 ?a167 ?a168 ?a169 ?a170 ?a171 ?a172 ?a173 ?a174 ?a175 ?a176 ?a177 ?a178 ?a179 ?a180 ?a181 ?a182 ?a183 ?a184 ?a185 ?a186 ?a187 ?a188 ?a189 ?a190 ?a191 ?a192 ?a193 ?a194 ?a195 ?a196 ?a197 ?a198 ?a199 ?a200 ?a201 ?a202 ?a203 ?a204 ?a205 ?a206 ?a207 ?a208 ?a209 ?a210 ?a211 ?a212 ?a213 ?a214 ?a215 ?a216 ?a217 ?a218 ?a219 ?a220 ?a221 ?a222 ?a223 ?a224 ?a225 ?a226 ?a227 ?a228 ?a229 ?a230 ?a231 ?a232 ?a233 ?a234 ?a235 ?a236 ?a237 ?a238 ?a239 ?a240 ?a241 ?a242 ?a243 ?a244 ?a245 ?a246 ?a247 ?a248 ?a249 ?a250 ?a251 ?a252 ?a253 ?a254 ?a255 ?a256 ?a257 ?a258 ?a259 ?a260 ?a261 ?a262 ?a263 ?a264 ?a265 ?a266 ?a267 ?a268 ?a269 ?a270 ?a271 ?a272 ?a273 ?a274 ?a275 ?a276 ?a277 ?a278 ?a279 ?a280 ?a281 ?a282 ?a283 ?a284 ?a285 ?a286 ?a287 ?a288 ?a289 ?a290 ?a291 ?a292 ?a293 ?a294 ?a295 ?a296 ?a297 ?a298 ?a299 ?a300 ?a301 ?a302 ?a303 ?a304 ?a305 ?a306 ?a307 ?a308 ?a309 ?a310 ?a311 ?a312 ?a313 ?a314 ?a315 ?a316 ?a317 ?a318 ?a319 ?a320 ?a321 ?a322 ?a323 ?a324 ?a325 ?a326 ?a327 ?a328 ?a329 ?a330 ?a331 ?a332 ?a333 ?a334 ?a335 ?a336 ?a337 ?a338 ?a339 ?a340 ?a341 ?a342 ?a343 ?a344 ?a345 ?a346 ?a347 ?a348 ?a349 ?a350 ?a351 ?a352 ?a353 ?a354 ?a355 ?a356 ?a357 ?a358 ?a359 ?a360 ?a361 ?a362 ?a363 ?a364 ?a365 ?a366 ?a367 ?a368 ?a369 ?a370 ?a371 ?a372 ?a373 ?a374 ?a375 ?a376 ?a377 ?a378 ?a379 ?a380 ?a381 ?a382 ?a383 ?a384 ?a385 ?a386 ?a387 ?a388 ?a389 ?a390 ?a391 ?a392 ?a393 ?a394 ?a395 ?a396 ?a397 ?a398 ?a399 ?a400 ?a401 ?a402 ?a403 ?a404 ?a405 ?a406 ?a407 ?a408 ?a409 ?a410 ?a411 ?a412 ?a413 ?a414 ?a415 ?a416 ?a417 ?a418 ?a419 ?a420 ?a421 ?a422 ?a423 ?a424 ?a425 ?a426 ?a427 ?a428 ?a429 ?a430 ?a431 ?a432 ?a433 ?a434 ?a435 ?a436 ?a437 ?a438 ?a439 ?a440 ?a441 ?a442 ?a443 ?a444 ?a445 ?a446 ?a447 ?a448
    (case a0 => k_is)
    (case a1 => k_is)
    (case a2 => k_is)
    (case a3 => k_is)
    (case a4 => k_is)
    (case a5 => k_is)
    (case a6 => k_is)
    (case a7 => k_is)
    (case a8 => k_is)
    (case a9 => k_is)
    (case a10 => k_is)
    (case a11 => k_is)
    (case a12 => k_is)
    (case a13 => k_is)
    (case a14 => k_is)
    (case a15 => k_is)
    (case a16 => k_is)
    (case a17 => k_is)
    (case a18 => k_is)
    (case a19 => k_is)
    (case a20 => k_is)
    (case a21 => k_is)
    (case a22 => k_is)
    (case a23 => k_is)
    (case a24 => k_is)
    (case a25 => k_is)
    (case a26 => k_is)
    (case a27 => k_is)
    (case a28 => k_is)
    (case a29 => k_is)
    (case a30 => k_is)
    (case a31 => k_is)
    (case a32 => k_is)
    (case a33 => k_is)
    (case a34 => k_is)
    (case a35 => k_is)
    (case a36 => k_is)
    (case a37 => k_is)
    (case a38 => k_is)
    (case a39 => k_is)
    (case a40 => k_is)
    (case a41 => k_is)
    (case a42 => k_is)
    (case a43 => k_is)
    (case a44 => k_is)
    (case a45 => k_is)
    (case a46 => k_is)
    (case a47 => k_is)
    (case a48 => k_is)
    (case a49 => k_is)
    (case a50 => k_is)
    (case a51 => k_is)
    (case a52 => k_is)
    (case a53 => k_is)
    (case a54 => k_is)
    (case a55 => k_is)
    (case a56 => k_is)
    (case a57 => k_is)
    (case a58 => k_is)
    (case a59 => k_is)
    (case a60 => k_is)
    (case a61 => k_is)
    (case a62 => k_is)
    (case a63 => k_is)
    (case a64 => k_is)
    (case a65 => k_is)
    (case a66 => k_is)
    (case a67 => k_is)
    (case a68 => k_is)
    (case a69 => k_is)
    (case a70 => k_is)
    (case a71 => k_is)
    (case a72 => k_is)
    (case a73 => k_is)
    (case a74 => k_is)
    (case a75 => k_is)
    (case a76 => k_is)
    (case a77 => k_is)
    (case a78 => k_is)
    (case a79 => k_is)
    (case a80 => k_is)
    (case a81 => k_is)
    (case a82 => k_is)
    (case a83 => k_is)
    (case a84 => k_is)
    (case a85 => k_is)
    (case a86 => k_is)
    (case a87 => k_is)
    (case a88 => k_is)
    (case a89 => k_is)
    (case a90 => k_is)
    (case a91 => k_is)
    (case a92 => k_is)
    (case a93 => k_is)
    (case a94 => k_is)
    (case a95 => k_is)
    (case a96 => k_is)
    (case a97 => k_is)
    (case a98 => k_is)
    (case a99 => k_is)
    (case a100 => k_is)
    (case a101 => k_is)
    (case a102 => k_is)
    (case a103 => k_is)
    (case a104 => k_is)
    (case a105 => k_is)
    (case a106 => k_is)
    (case a107 => k_is)
    (case a108 => k_is)
    (case a109 => k_is)
    (case a110 => k_is)
    (case a111 => k_is)
    (case a112 => k_is)
    (case a113 => k_is)
    (case a114 => k_is)
    (case a115 => k_is)
    (case a116 => k_is)
    (case a117 => k_is)
    (case a118 => k_is)
    (case a119 => k_is)
    (case a120 => k_is)
    (case a121 => k_is)
    (case a122 => k_is)
    (case a123 => k_is)
    (case a124 => k_is)
    (case a125 => k_is)
    (case a126 => k_is)
    (case a127 => k_is)
    (case a128 => k_is)
    (case a129 => k_is)
    (case a130 => k_is)
    (case a131 => k_is)
    (case a132 => k_is)
    (case a133 => k_is)
    (case a134 => k_is)
    (case a135 => k_is)
    (case a136 => k_is)
    (case a137 => k_is)
    (case a138 => k_is)
    (case a139 => k_is)
    (case a140 => k_is)
    (case a141 => k_is)
    (case a142 => k_is)
    (case a143 => k_is)
    (case a144 => k_is)
    (case a145 => k_is)
    (case a146 => k_is)
    (case a147 => k_is)
    (case a148 => k_is)
    (case a149 => k_is)
    (case a150 => k_is)
    (case a151 => k_is)
    (case a152 => k_is)
    (case a153 => k_is)
    (case a154 => k_is)
    (case a155 => k_is)
    (case a156 => k_is)
    (case a157 => k_is)
    (case a158 => k_is)
    (case a159 => k_is)
    (case a160 => k_is)
    (case a161 => k_is)
    (case a162 => k_is)
    (case a163 => k_is)
    (case a164 => k_is)
    (case a165 => k_is)
    (case a166 => k_is)
    (case a167 => k_is)
    (case a168 => k_is)
    (case a169 => k_is)
    (case a170 => k_is)
    (case a171 => k_is)
    (case a172 => k_is)
    (case a173 => k_is)
    (case a174 => k_is)
    (case a175 => k_is)
    (case a176 => k_is)
    (case a177 => k_is)
    (case a178 => k_is)
    (case a179 => k_is)
    (case a180 => k_is)
    (case a181 => k_is)
    (case a182 => k_is)
    (case a183 => k_is)
    (case a184 => k_is)
    (case a185 => k_is)
    (case a186 => k_is)
    (case a187 => k_is)
    (case a188 => k_is)
    (case a189 => k_is)
    (case a190 => k_is)
    (case a191 => k_is)
    (case a192 => k_is)
    (case a193 => k_is)
    (case a194 => k_is)
    (case a195 => k_is)
    (case a196 => k_is)
    (case a197 => k_is)
    (case a198 => k_is)
    (case a199 => k_is)
    (case a200 => k_is)
    (case a201 => k_is)
    (case a202 => k_is)
    (case a203 => k_is)
    (case a204 => k_is)
    (case a205 => k_is)
    (case a206 => k_is)
    (case a207 => k_is)
    (case a208 => k_is)
    (case a209 => k_is)
    (case a210 => k_is)
    (case a211 => k_is)
    (case a212 => k_is)
    (case a213 => k_is)
    (case a214 => k_is)
    (case a215 => k_is)
    (case a216 => k_is)
    (case a217 => k_is)
    (case a218 => k_is)
    (case a219 => k_is)
    (case a220 => k_is)
    (case a221 => k_is)
    (case a222 => k_is)
    (case a223 => k_is)
    (case a224 => k_is)
    (case a225 => k_is)
    (case a226 => k_is)
    (case a227 => k_is)
    (case a228 => k_is)
    (case a229 => k_is)
    (case a230 => k_is)
    (case a231 => k_is)
    (case a232 => k_is)
    (case a233 => k_is)
    (case a234 => k_is)
    (case a235 => k_is)
    (case a236 => k_is)
    (case a237 => k_is)
    (case a238 => k_is)
    (case a239 => k_is)
    (case a240 => k_is)
    (case a241 => k_is)
    (case a242 => k_is)
    (case a243 => k_is)
    (case a244 => k_is)
    (case a245 => k_is)
    (case a246 => k_is)
    (case a247 => k_is)
    (case a248 => k_is)
    (case a249 => k_is)
    (case a250 => k_is)
    (case a251 => k_is)
    (case a252 => k_is)
    (case a253 => k_is)
    (case a254 => k_is)
    (case a255 => k_is)
    (case a256 => k_is)
    (case a257 => k_is)
    (case a258 => k_is)
    (case a259 => k_is)
    (case a260 => k_is)
    (case a261 => k_is)
    (case a262 => k_is)
    (case a263 => k_is)
    (case a264 => k_is)
    (case a265 => k_is)
    (case a266 => k_is)
    (case a267 => k_is)
    (case a268 => k_is)
    (case a269 => k_is)
    (case a270 => k_is)
    (case a271 => k_is)
    (case a272 => k_is)
    (case a273 => k_is)
    (case a274 => k_is)
    (case a275 => k_is)
    (case a276 => k_is)
    (case a277 => k_is)
    (case a278 => k_is)
    (case a279 => k_is)
    (case a280 => k_is)
    (case a281 => k_is)
    (case a282 => k_is)
    (case a283 => k_is)
    (case a284 => k_is)
    (case a285 => k_is)
    (case a286 => k_is)
    (case a287 => k_is)
    (case a288 => k_is)
    (case a289 => k_is)
    (case a290 => k_is)
    (case a291 => k_is)
    (case a292 => k_is)
    (case a293 => k_is)
    (case a294 => k_is)
    (case a295 => k_is)
    (case a296 => k_is)
    (case a297 => k_is)
    (case a298 => k_is)
    (case a299 => k_is)
    (case a300 => k_is)
    (case a301 => k_is)
    (case a302 => k_is)
    (case a303 => k_is)
    (case a304 => k_is)
    (case a305 => k_is)
    (case a306 => k_is)
    (case a307 => k_is)
    (case a308 => k_is)
    (case a309 => k_is)
    (case a310 => k_is)
    (case a311 => k_is)
    (case a312 => k_is)
    (case a313 => k_is)
    (case a314 => k_is)
    (case a315 => k_is)
    (case a316 => k_is)
    (case a317 => k_is)
    (case a318 => k_is)
    (case a319 => k_is)
    (case a320 => k_is)
    (case a321 => k_is)
    (case a322 => k_is)
    (case a323 => k_is)
    (case a324 => k_is)
    (case a325 => kernel_rfl)
    (case a326 => kernel_rfl)
    (case a327 => k_is)
    (case a328 => k_is)
    (case a329 => k_is)
    (case a330 => k_is)
    (case a331 => k_is)
    (case a332 => k_is)
    (case a333 => k_is)
    (case a334 => k_is)
    (case a335 => k_is)
    (case a336 => k_is)
    (case a337 => kernel_rfl)
    (case a338 => kernel_rfl)
    (case a339 => k_exc)
    (case a340 => kit_is)
    (case a341 => kit_is)
    (case a342 => kit_is)
    (case a343 => kit_is)
    (case a344 => kit_is)
    (case a345 => kit_is)
    (case a346 => kit_is)
    (case a347 => kit_is)
    (case a348 => kit_is)
    (case a349 => kit_is)
    (case a350 => kit_is)
    (case a351 => kit_is)
    (case a352 => kit_is)
    (case a353 => kit_is)
    (case a354 => kit_is)
    (case a355 => kit_is)
    (case a356 => kit_is)
    (case a357 => kit_is)
    (case a358 => kit_is)
    (case a359 => kit_is)
    (case a360 => k_is)
    (case a361 => k_is)
    (case a362 => k_is)
    (case a363 => k_is)
    (case a364 => k_is)
    (case a365 => k_is)
    (case a366 => k_is)
    (case a367 => k_is)
    (case a368 => k_is)
    (case a369 => k_is)
    (case a370 => k_is)
    (case a371 => k_is)
    (case a372 => k_is)
    (case a373 => k_is)
    (case a374 => k_is)
    (case a375 => k_is)
    (case a376 => k_is)
    (case a377 => k_is)
    (case a378 => k_is)
    (case a379 => k_is)
    (case a380 => k_is)
    (case a381 => k_is)
    (case a382 => k_is)
    (case a383 => k_is)
    (case a384 => k_is)
    (case a385 => k_is)
    (case a386 => k_is)
    (case a387 => k_is)
    (case a388 => k_is)
    (case a389 => k_is)
    (case a390 => k_is)
    (case a391 => k_is)
    (case a392 => k_is)
    (case a393 => k_is)
    (case a394 => k_is)
    (case a395 => k_is)
    (case a396 => k_is)
    (case a397 => k_is)
    (case a398 => k_is)
    (case a399 => k_is)
    (case a400 => k_is)
    (case a401 => k_is)
    (case a402 => k_is)
    (case a403 => k_is)
    (case a404 => k_is)
    (case a405 => k_is)
    (case a406 => k_is)
    (case a407 => k_is)
    (case a408 => k_is)
    (case a409 => k_is)
    (case a410 => k_is)
    (case a411 => k_is)
    (case a412 => k_is)
    (case a413 => k_is)
    (case a414 => k_is)
    (case a415 => k_is)
    (case a416 => k_is)
    (case a417 => k_is)
    (case a418 => k_is)
    (case a419 => k_is)
    (case a420 => k_is)
    (case a421 => k_is)
    (case a422 => k_is)
    (case a423 => k_is)
    (case a424 => k_is)
    (case a425 => k_is)
    (case a426 => k_is)
    (case a427 => k_is)
    (case a428 => k_is)
    (case a429 => k_is)
    (case a430 => k_is)
    (case a431 => k_is)
    (case a432 => k_is)
    (case a433 => k_is)
    (case a434 => k_is)
    (case a435 => k_is)
    (case a436 => k_is)
    (case a437 => k_is)
    (case a438 => k_is)
    (case a439 => k_is)
    (case a440 => k_is)
    (case a441 => k_is)
    (case a442 => k_is)
    (case a443 => k_is)
    (case a444 => k_is)
    (case a445 => k_is)
    (case a446 => k_is)
    (case a447 => k_is)
    (case a448 => k_is)


