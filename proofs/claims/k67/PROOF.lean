import PyProof.Rows.All
import Wide.All
import OpenK.AllK
import Wide.FinOn
import Lean
import PyProof.EqAt
import PyProof.EqKinds
import PyProof.TupleCall
import PySem.Challenge.RW_keyrise_k67_bad_pages_everywhere
local macro_rules | `(tactic| omega) => `(tactic| first | lia | omega (config := {}))
set_option Elab.async false
set_option linter.all false
set_option maxRecDepth 100000
namespace L2
open PySem PySem.Spec PyProof.Rows
noncomputable abbrev Key:=Sum Int Str
noncomputable def keyIs:Key→Value→Bool
 | .inl k,v=>Value.isInt k v
 | .inr x,v=>Value.isStrOf x v
noncomputable def keyH (w:World):Key→Int
 | .inl k=>hashInt k
 | .inr x=>hashStr w x
theorem Yn:∀ {k:Key} {v:Value},keyIs k v=true→(∃ i t,k=Sum.inl i∧v=Value.int i t)∨(∃ x t,k=Sum.inr x∧v=Value.str x t)
 | .inl i,v,h=>by
  obtain ⟨t,e⟩:=Value.isInt_shape (k:=i) (v:=v) h
  exact .inl ⟨i,t,rfl,e⟩
 | .inr x,v,h=>by
  obtain ⟨t,e⟩:=Value.isStrOf_shape (x:=x) (v:=v) h
  exact .inr ⟨x,t,rfl,e⟩
theorem Xze (a b:Int):decide ((Sum.inl a:Key)=Sum.inl b)=(a == b):=by
 by_cases e:a=b
 ·subst e;simp
 ·have h:¬(Sum.inl a:Key)=Sum.inl b:=fun q=>e (Sum.inl.inj q)
  rw [decide_eq_false h]
  exact (beq_eq_false_iff_ne.mpr e).symm
theorem Xzb (a b:Str):decide ((Sum.inr a:Key)=Sum.inr b)=decide (a=b):=by
 by_cases e:a=b
 ·subst e;simp
 ·have h:¬(Sum.inr a:Key)=Sum.inr b:=fun q=>e (Sum.inr.inj q)
  rw [decide_eq_false h,decide_eq_false e]
theorem Xzd (a:Int) (b:Str):decide ((Sum.inl a:Key)=Sum.inr b)=false:=decide_eq_false (fun q=>nomatch q)
theorem Xzc (a:Str) (b:Int):decide ((Sum.inr a:Key)=Sum.inl b)=false:=decide_eq_false (fun q=>nomatch q)
noncomputable def mixKind (prog:Program) (w:World):PySem.KeyKind prog w Key where
 is:=keyIs
 hash:=keyH w
 inj:=fun v a b ha hb=>by
  rcases Yn ha with ⟨i,t,rfl,rfl⟩ | ⟨x,t,rfl,rfl⟩
  ·rcases Yn hb with ⟨j,u,rfl,e⟩ | ⟨y,u,rfl,e⟩
   ·injection e with e1 _;rw [e1]
   ·exact nomatch e
  ·rcases Yn hb with ⟨j,u,rfl,e⟩ | ⟨y,u,rfl,e⟩
   ·exact nomatch e
   ·injection e with e1 _;rw [e1]
 byValue:=fun k v h=>by
  rcases Yn h with ⟨i,t,rfl,rfl⟩ | ⟨x,t,rfl,rfl⟩<;>rfl
 pyHash:=fun hv h=>by
  rcases Yn hv with ⟨i,t,rfl,rfl⟩ | ⟨x,t,rfl,rfl⟩
  ·exact wpAny_pyHash_int h
  ·exact wpAny_pyHash_str h
 eqBool:=fun hu hv h=>by
  rcases Yn hu with ⟨i,t,rfl,rfl⟩ | ⟨x,t,rfl,rfl⟩
  ·rcases Yn hv with ⟨j,u,rfl,rfl⟩ | ⟨y,u,rfl,rfl⟩
   ·rw [Xze] at h;exact wpAny_eqBool_int h
   ·rw [Xzd] at h;exact SeqAt.EqAt.int_str i t y u _ _ _ _ h
  ·rcases Yn hv with ⟨j,u,rfl,rfl⟩ | ⟨y,u,rfl,rfl⟩
   ·rw [Xzc] at h;exact SeqAt.EqAt.str_int x t j u _ _ _ _ h
   ·rw [Xzb] at h;exact wpAny_eqBool_str h
 «strs» := fun k x t v h=>by
  rcases Yn h with ⟨i,u,rfl,e⟩ | ⟨y,u,rfl,e⟩
  ·exact nomatch e
  ·injection e with e1 _
   subst e1
   cases v<;>rfl
end L2
namespace L2
open PySem PySem.Spec PyProof.Rows
inductive V where
 | non | bl (b:Bool) | int (i:Int) | str (x:Str) | byt (b:Array UInt8) | flt (b:UInt64) | ref (a:Addr) | ty (n:String)
 deriving DecidableEq
noncomputable def RelV:V→Value→Prop
 | .non,u=>u=Value.none
 | .bl b,u=>u=Value.bool b
 | .int i,u=>∃ t,u=Value.int i t
 | .str x,u=>∃ t,u=Value.str x t
 | .byt b,u=>∃ t,u=Value.bytes b t
 | .flt b,u=>∃ t,u=Value.float b t
 | .ref a,u=>u=Value.ref a
 | .ty n,u=>u=Value.type n
noncomputable abbrev Vals:List V→List Value→Prop:=Paired RelV
theorem Vals.length {xs:List V} {us:List Value} (r:Vals xs us):xs.length=us.length:=Paired.length r
theorem Vals.get:∀ {xs:List V} {us:List Value} {i:Nat} {x:V},Vals xs us→xs[i]?=some x→∃ u,us[i]?=some u∧RelV x u
 | _,_,_,_,.nil,e=>by simp at e
 | _,_,0,_,.cons r _,e=>by simp at e;subst e;exact ⟨_,rfl,r⟩
 | _,_,i+1,x,.cons _ t,e=>by
  obtain ⟨u,h1,h2⟩:=Vals.get (i:=i) (x:=x) t (by simpa using e)
  exact ⟨u,by simpa using h1,h2⟩
theorem Vals.append:∀ {xs ys:List V} {us ws:List Value},Vals xs us→Vals ys ws→Vals (xs++ys) (us++ws)
 | _,_,_,_,.nil,s=>s
 | _,_,_,_,.cons r t,s => .cons r (Vals.append t s)
theorem Vals.take:∀ {xs:List V} {us:List Value} (n:Nat),Vals xs us→Vals (xs.take n) (us.take n)
 | _,_,0,_ => .nil
 | _,_,_+1,.nil => .nil
 | _,_,n+1,.cons r t => .cons r (Vals.take n t)
theorem Vals.drop:∀ {xs:List V} {us:List Value} (n:Nat),Vals xs us→Vals (xs.drop n) (us.drop n)
 | _,_,0,r=>r
 | _,_,_+1,.nil => .nil
 | _,_,n+1,.cons _ t=>Vals.drop n t
noncomputable def RelO:Option V→Option Value→Prop
 | some v,some u=>RelV v u
 | none,none=>True
 | _,_=>False
noncomputable def KV {κ:Type}:List (κ×V)→List (κ×Value)→Prop:=Paired fun (p:κ×V) (q:κ×Value)=>p.1=q.1∧RelV p.2 q.2
noncomputable def kV:Key→V
 | .inl i => .int i
 | .inr x => .str x
inductive HO where
  | lst (xs:List V)
  | tup (xs:List V)
  | dK (kvs:List (Key×V)) | dT (kvs:List (List Key×V))
  | set (S:Int→Bool) (n:Nat)
  | ins (C dx:Addr) (fs:List (Str×V))
  | own (x:Addr)
  | xd (fs:List (Str×V))
  | met (f x:Addr)
  | rng (lo hi:Int)
  | frz (o:Obj) (u:HO)
  | tbl (ps:Array Value)
  | ext (φ:Heap→Prop)
noncomputable abbrev Hp:=Addr→Option HO
noncomputable def upd (H:Hp) (a:Addr) (o:HO):Hp:=fun b=>if b=a then some o else H b
theorem Zc {H:Hp} {a:Addr} {o:HO}:upd H a o a=some o:=by unfold upd;rw [if_pos rfl]
theorem Zm {H:Hp} {a b:Addr} {o:HO} (h:b≠a):upd H a o b=H b:=by unfold upd;rw [if_neg h]
theorem Zp {H:Hp} {a b:Addr} {o:HO} (h:H a=some o) (h':H b=none):a≠b:=by
 intro e;subst e;rw [h] at h';cases h'
section
variable (P:Program) (w:World)
noncomputable def ObjOk (H:Hp) (h:Heap) (a:Addr):HO→Prop
 | .lst xs=>xs.length≤sizeLine∧∃ (its:List Value) (n:Nat),Vals xs its∧h.get? a=some {cls := .type "list",data := .seq its.toArray n}
 | .tup xs=>xs.length≤sizeLine∧∃ its:List Value,Vals xs its∧IsTup h a its.toArray
 | .dK kvs=>kvs.length≤sizeLine∧(a == sysModules)=false∧∃ vs,KV kvs vs∧h.DictOf (mixKind P w) a vs
 | .dT _=>False
 | .set S n=>h.SetOf (intKind P w) a S n
 | .ins C dx fs=>H dx=some (.own a)∧fs.length≤1000∧dx≠a∧h.get? a=some (PySem.W.instObj C dx)∧
   ∃ mA,h.Ns1 dx mA∧(∀ f,RelO (fs.lookup f) (mA f))∧PySem.Within mA (fs.map (·.1))
 | .own _=>∃ o,h.get? a=some o
 | .xd fs=>∃ mA,h.Ns1 a mA∧∀ f,RelO (fs.lookup f) (mA f)
 | .rng lo hi=>∃ t u v,h.get? a=some {cls := .type "range",data := .fields #[.int lo t,.int hi u,.int 1 v]}
 | .frz o u=>h.get? a=some o∧ObjOk H h a u
 | .tbl ps=>h.get? a=some {cls := .none,data := .fields ps}
 | .met f x=>h.get? a=some (PySem.W.methodObj (.ref f) (.ref x))
 | .ext φ=>φ h∧(∃ o,h.get? a=some o)∧∀ h1 h2:Heap,φ h1→(∀ o,h1.get? a=some o→h2.get? a=some o)→φ h2
noncomputable def HOk (H:Hp) (h:Heap):Prop:=∀ a o,H a=some o→ObjOk P w H h a o
end
section
variable {P:Program} {w:World} {H H':Hp} {h h':Heap} {a:Addr} {o:HO}
theorem ObjOk.lt (x:ObjOk P w H h a o):a<h.objs.size:=by
 cases o with
 | lst xs=>obtain ⟨_,_,_,_,e⟩:=x;exact Heap.lt_size e
 | tup xs=>obtain ⟨_,_,_,p⟩:=x;exact p.lt
 | dK kvs=>obtain ⟨_,_,_,_,o,_,_,e,_⟩:=x;exact Heap.lt_size e
 | dT kvs=>exact (show False from x).elim
 | set S n=>obtain ⟨o,_,_,_,e,_⟩:=x;exact Heap.lt_size e
 | ins C dx fs=>obtain ⟨_,_,_,e,_⟩:=x;exact Heap.lt_size e
 | own y=>obtain ⟨_,e⟩:=x;exact Heap.lt_size e
 | xd fs=>obtain ⟨_,⟨_,_,_,e,_⟩,_⟩:=x;exact Heap.lt_size e
 | rng lo hi=>obtain ⟨_,_,_,e⟩:=x;exact Heap.lt_size e
 | frz ob u=>obtain ⟨e,_⟩:=x;exact Heap.lt_size e
 | tbl ps=>exact Heap.lt_size (show h.get? a=some _ from x)
 | met f y=>exact Heap.lt_size (show h.get? a=some _ from x)
 | ext φ=>obtain ⟨_,⟨_,e⟩,_⟩:=x;exact Heap.lt_size e
theorem ObjOk.stay (x:ObjOk P w H h a o) (k:∀ b u,(b=a∨H b=some (.own a))→h.get? b=some u→h'.get? b=some u)
  (ho:∀ b,H b=some (.own a)→H' b=some (.own a)) (ht:∀ b xs,H b=some (.tup xs)→H' b=some (.tup xs)):ObjOk P w H' h' a o:=by
 induction o with
 | lst xs=>obtain ⟨z,its,n,r,e⟩:=x;exact ⟨z,its,n,r,k _ _ (.inl rfl) e⟩
 | tup xs=>obtain ⟨z,its,r,ob,e,c⟩:=x;exact ⟨z,its,r,ob,k _ _ (.inl rfl) e,c⟩
 | dK kvs=>obtain ⟨z,y,vs,r,ob,es,ep,e,c⟩:=x;exact ⟨z,y,vs,r,ob,es,ep,k _ _ (.inl rfl) e,c⟩
 | dT kvs=>exact (show False from x).elim
 | set S n=>obtain ⟨ob,es,ep,t,e,c⟩:=x;exact ⟨ob,es,ep,t,k _ _ (.inl rfl) e,c⟩
 | ins C dx fs =>
  obtain ⟨d,z,ne,e,mA,⟨od,es,ep,e2,c⟩,r⟩:=x
  exact ⟨ho _ d,z,ne,k _ _ (.inl rfl) e,mA,⟨od,es,ep,k _ _ (.inr d) e2,c⟩,r⟩
 | own y=>obtain ⟨ob,e⟩:=x;exact ⟨ob,k _ _ (.inl rfl) e⟩
 | xd fs=>obtain ⟨mA,⟨od,es,ep,e,c⟩,r⟩:=x;exact ⟨mA,⟨od,es,ep,k _ _ (.inl rfl) e,c⟩,r⟩
 | rng lo hi=>obtain ⟨t,u,v,e⟩:=x;exact ⟨t,u,v,k _ _ (.inl rfl) e⟩
 | frz ob u ih=>obtain ⟨e,q⟩:=x;exact ⟨k _ _ (.inl rfl) e,ih q⟩
 | tbl ps =>
  have e:h.get? a=some {cls := .none,data := .fields ps}:=x
  show h'.get? a=some {cls := .none,data := .fields ps}
  exact k a _ (.inl rfl) e
 | met f y =>
  have e:h.get? a=some (PySem.W.methodObj (.ref f) (.ref y)):=x
  show h'.get? a=some (PySem.W.methodObj (.ref f) (.ref y))
  exact k a _ (.inl rfl) e
 | ext φ=>obtain ⟨p,⟨o,e⟩,st⟩:=x;exact ⟨st _ _ p fun o q=>k _ _ (.inl rfl) q,⟨o,k _ _ (.inl rfl) e⟩,st⟩
theorem HOk.lt (x:HOk P w H h) (e:H a=some o):a<h.objs.size:=(x a o e).lt
theorem HOk.fresh (x:HOk P w H h) (e:h.objs.size≤a):H a=none:=by
 cases q:H a with
 | none=>rfl
 | some u=>exact absurd (Nat.lt_of_lt_of_le (x.lt q) e) (Nat.lt_irrefl _)
theorem HOk.kept (x:HOk P w H h) (k:∀ b u,h.get? b=some u→h'.get? b=some u):HOk P w H h':=fun a o e =>
 (x a o e).stay (fun b u _ q=>k b u q) (fun _ q=>q) fun _ _ q=>q
theorem HOk.laid (x:HOk P w H h) (k:∀ b u,h.get? b=some u→h'.get? b=some u) (hp:h.objs.size≤a) (new:ObjOk P w (upd H a o) h' a o):HOk P w (upd H a o) h':=fun b u e=>by
 have hn:=x.fresh hp
 by_cases hb:b=a
 ·subst hb;rw [Zc] at e;cases e;exact new
 ·rw [Zm hb] at e
  exact (x b u e).stay (fun c v _ q=>k c v q) (fun c q=>by rw [Zm (Zp q hn)];exact q) fun c xs q=>by rw [Zm (Zp q hn)];exact q
end
noncomputable def Rd (H:Hp) (a:Addr) (u:HO):Prop:=H a=some u∨∃ o,H a=some (.frz o u)
theorem Rd.ok {P:Program} {w:World} {H:Hp} {h:Heap} {a:Addr} {u:HO} (r:Rd H a u) (x:HOk P w H h):ObjOk P w H h a u:=by
 rcases r with r | ⟨o,r⟩
 ·exact x a u r
 ·obtain ⟨_,q⟩:=x a _ r
  exact q
noncomputable def Mut:Option HO→Prop
 | some (.lst _)=>True
 | some (.dK _)=>True
 | some (.dT _)=>True
 | some (.set _ _)=>True
 | some (.ins _ _ _)=>True
 | some (.ext _)=>True
 | _=>False
section
variable {P:Program} {w:World} {H:Hp} {h h':Heap} {x e:Addr} {o':HO}
theorem HOk.write (ok:HOk P w H h) (mu:Mut (H x)) (he:e=x∨H e=some (.own x)) (k:∀ b u,b≠e→h.get? b=some u→h'.get? b=some u) (heo:∃ u,h'.get? e=some u)
  (new:ObjOk P w (upd H x o') h' x o'):HOk P w (upd H x o') h':=fun b u q=>by
 have nown:∀ c y,H c=some (.own y)→c≠x:=fun c y r z=>by subst z;rw [r] at mu;exact mu
 have ntup:∀ c xs,H c=some (.tup xs)→c≠x:=fun c xs r z=>by subst z;rw [r] at mu;exact mu
 by_cases hb:b=x
 ·subst hb;rw [Zc] at q;cases q;exact new
 ·rw [Zm hb] at q
  by_cases hbe:b=e
  ·have q':H b=some (.own x):=by
    rcases he with z | z
    ·exact absurd (hbe.trans z) hb
    ·rw [hbe];exact z
   rw [q] at q';cases q'
   obtain ⟨v,hv⟩:=heo
   exact ⟨v,by rw [hbe];exact hv⟩
  ·refine (ok b u q).stay (fun c v hc r=>k c v ?_ r) (fun c r=>by rw [Zm (nown c b r)];exact r) fun c xs r=>by rw [Zm (ntup c xs r)];exact r
   rcases hc with rfl | hc
   ·exact hbe
   ·rintro rfl
    rcases he with z | z
    ·exact nown c b hc z
    ·rw [hc] at z;cases z;exact hb rfl
end
structure Un (fs ex:List Addr) (H H':Hp) (h h':Heap):Prop where
 keep:∀ b o,h.get? b=some o→H b=none→b∉fs→b∉ex→h'.get? b=some o
 slot:∀ b o,h.get? b=some o→H b=none→b∈fs→b∉ex→∃ sl,h'.get? b=some {o with slots:=sl}
 free:∀ b o,h.get? b=some o→H b=none→b∉ex→H' b=none
 there:∀ b o,h.get? b=some o→b∉ex→∃ o',h'.get? b=some o'
 tups:∀ b xs,H b=some (.tup xs)→H' b=some (.tup xs)
 frzs:∀ b o u,H b=some (.frz o u)→H' b=some (.frz o u)
 tbls:∀ b ps,H b=some (.tbl ps)→∃ more,H' b=some (.tbl (ps++more))
section
variable {fs fs' ex ex':List Addr} {H H1 H2:Hp} {h h1 h2 h':Heap} {a x e:Addr} {o:HO}
theorem Un.any (u:Un fs ex H H1 h h1) {b:Addr} {ob:Obj} (q:h.get? b=some ob) (n:H b=none) (hx:b∉ex):∃ sl,h1.get? b=some {ob with slots:=sl}:=by
 by_cases hb:b∈fs
 ·exact u.slot b ob q n hb hx
 ·exact ⟨ob.slots,u.keep b ob q n hb hx⟩
theorem Un.kept (k:∀ b u,h.get? b=some u→h'.get? b=some u):Un fs ex H H h h' :=
 ⟨fun b ob q _ _ _=>k b ob q,fun b ob q _ _ _=>⟨ob.slots,k b ob q⟩,fun _ _ _ n _=>n,fun b ob q _=>⟨ob,k b ob q⟩,fun _ _ q=>q,fun _ _ _ q=>q,fun _ ps q=>⟨#[],by rw [q];simp⟩⟩
theorem Un.refl:Un fs ex H H h h:=Un.kept fun _ _ q=>q
theorem Un.laid (k:∀ b u,h.get? b=some u→h'.get? b=some u) (hp:h.objs.size≤a) (hn:H a=none):Un fs ex H (upd H a o) h h' where
 keep:=fun b u q _ _ _=>k b u q
 slot:=fun b u q _ _ _=>⟨u.slots,k b u q⟩
 free:=fun b u q n _=>by rw [Zm (Nat.ne_of_lt (Nat.lt_of_lt_of_le (Heap.lt_size q) hp))];exact n
 there:=fun b u q _=>⟨u,k b u q⟩
 tups:=fun b xs q=>by rw [Zm (Zp q hn)];exact q
 frzs:=fun b u xs q=>by rw [Zm (Zp q hn)];exact q
 tbls:=fun b ps q=>⟨#[],by rw [Zm (Zp q hn),q];simp⟩
theorem Un.write (mu:Mut (H x)) (he:e=x∨H e=some (.own x)) (k:∀ b u,b≠e→h.get? b=some u→h'.get? b=some u) (heo:∃ u,h'.get? e=some u):Un fs ex H (upd H x o) h h':=by
 have hx:∀ b,H b=none→b≠x:=fun b n z=>by subst z;rw [n] at mu;exact mu
 have hb:∀ b,H b=none→b≠e:=fun b n z=>by
  subst z
  rcases he with r | r
  ·exact hx b n r
  ·rw [n] at r;cases r
 have hm:∀ b u,H b=some u→¬Mut (some u)→b≠x:=fun b u q nm z=>by subst z;rw [q] at mu;exact nm mu
 refine ⟨fun b u q n _ _=>k b u (hb b n) q,fun b u q n _ _=>⟨u.slots,k b u (hb b n) q⟩,fun b u q n _=>by rw [Zm (hx b n)];exact n,fun b u q _=>?_,
  fun b xs q=>by rw [Zm (hm b _ q fun z=>z)];exact q,fun b u xs q=>by rw [Zm (hm b _ q fun z=>z)];exact q,fun b ps q=>⟨#[],by rw [Zm (hm b _ q fun z=>z),q];simp⟩⟩
 by_cases hbe:b=e
 ·subst hbe;exact heo
 ·exact ⟨u,k b u hbe q⟩
end
noncomputable def trk (h:Heap) (H:Hp):List Addr:=(List.range h.objs.size).filter fun a=>(H a).isSome
noncomputable def hidT (h:Heap) (H:Hp):Heap:=PySem.W.hideAll h (trk h H)
theorem Xkf (h:Heap) (H:Hp):(hidT h H).objs.size=h.objs.size:=PySem.W.hideAll_size _ _
theorem Xqc {h:Heap} {H:Hp} {b:Addr} {o:Obj} (e:h.get? b=some o) (n:H b=none):(hidT h H).get? b=some o :=
 PySem.W.hideAll_get _ e fun hm=>by
  have q:(H b).isSome=true:=(List.mem_filter.mp hm).2
  rw [n] at q;simp at q
theorem Xuh {h:Heap} {H:Hp} {b:Addr} {o:Obj} (e:(hidT h H).get? b=some o):h.get? b=some o∧H b=none:=by
 have e':h.get? b=some o:=PySem.W.of_hideAll (trk h H) e
 refine ⟨e',?_⟩
 cases q:H b with
 | none=>rfl
 | some x =>
  have hm:b∈trk h H:=List.mem_filter.mpr ⟨List.mem_range.mpr (Heap.lt_size e'),by simp [q]⟩
  have z:(hidT h H).get? b=none:=PySem.W.hideAll_none (trk h H) hm
  rw [z] at e;cases e
noncomputable def allNews (g h:Heap) (L:Addr):List (Addr×Obj):=(List.range h.objs.size).filterMap fun a=>if a=L∨(g.get? a).isSome=true then none else (h.get? a).map fun o=>(a,o)
noncomputable def rest (g h:Heap) (L d:Addr):List (Addr×Obj):=(allNews g h L).filter fun p=>decide (p.1≠d)
end L2
namespace L2
open PySem PySem.Spec PyProof.Rows
structure Mod (K:PySem.W.Frag) (mg:Str→Option Value) (base:Heap):Prop where
 kin:K.In base
 glob:base.Ns mainGlobals mg
 blt:∃ mb,base.Ns builtinsNs mb∧∀ x:Str,x≠"__name__"→mb x=bootBuiltins x
 nolimit:base.NoLimit
structure Cx where
 prog:Program
 w:World
 K:PySem.W.Frag
 mg:Str→Option Value
 base:Heap
 A:Around
 N:List Str
 s₀:Shared
 H₀:Hp
 env:Env
 outer:List Env
 stack:List Env
 ex:List Addr
 fn:Str→Bool
 calm:Bool
 pn:List (Addr×Obj)
 xe:Value→Shared→Prop
noncomputable def frs (l:List Env):List Addr:=l.filterMap (·.frame)
noncomputable abbrev Cx.fs (X:Cx):List Addr:=frs X.outer
noncomputable def Vis (sc:Scope) (x:Str):Prop:=sc.names.lookup x=some .local∨sc.names.lookup x=some .cell∨sc.names.lookup x=some .free
noncomputable def Loc (sc:Scope) (x:Str):Prop:=sc.names.lookup x=some .local∨sc.names.lookup x=some .cell
noncomputable def Look (env:Env) (h:Heap) (m:Str→Option Value) (x:Str) (u:Value):Prop :=
 (env.kindOf x=some .local∧m x=some u)∨((env.kindOf x=some .cell∨env.kindOf x=some .free)∧∃ c,env.cells.lookup x=some c∧h.IsCell c (some u))
structure Cx.Ok (X:Cx):Prop where
 mod:Mod X.K X.mg X.base
 kind:X.env.scope.kind = .function
 glob:X.env.globals=mainGlobals
 blt:X.env.builtins=builtinsNs
 above:X.s₀.heap.objs.size≤X.env.locals
 inj:∀ x y c,X.env.cells.lookup x=some c→X.env.cells.lookup y=some c→x=y
 has:∀ x,(X.env.kindOf x=some .cell∨X.env.kindOf x=some .free)→∃ c,X.env.cells.lookup x=some c
 cab:∀ x c,X.fn x=true→X.env.cells.lookup x=some c→X.s₀.heap.objs.size≤c
 hd:X.calm=true→X.A.handled=none
 frames:X.A.frames=some X.stack
 stk:X.stack=X.outer∨(X.stack=X.env::X.outer∧X.env.frame=some X.env.locals)
 exf:∀ b∈X.ex,b≠X.env.locals∧∀ x c,X.env.cells.lookup x=some c→c≠b
 bs:∀ b o,X.base.get? b=some o→X.s₀.heap.get? b=some o∧X.H₀ b=none
 bsz:X.base.objs.size≤X.s₀.heap.objs.size
 noex:∀ b o,X.base.get? b=some o→b∉X.ex
 exfs:∀ b∈X.ex,b∉X.fs
 funs:X.s₀.heap.FunFrames X.base X.outer
 frf:∀ b∈X.fs,X.H₀ b=none
structure Inv (X:Cx) (pins:List (Addr×Obj)) (σ:List (Option V)) (H:Hp) (s:Shared):Prop where
 ok:X.Ok
 os:s.os=X.s₀.os
 bare:AllBare s.gens
 base:Un X.fs X.ex X.H₀ H X.s₀.heap s.heap
 loc:∃ m,s.heap.Ns X.env.locals m∧∀ (i:Nat) (x:Str) (v:V),X.N[i]?=some x→σ[i]?=some (some v)→Vis X.env.scope x→∃ u,RelV v u∧Look X.env s.heap m x u
 cell:∀ x c,X.env.cells.lookup x=some c→∃ v,s.heap.IsCell c v
 free:H X.env.locals=none
 freeC:∀ x c,X.env.cells.lookup x=some c→H c=none
 pin:∀ p∈X.pn++pins,s.heap.get? p.1=some p.2∧H p.1=none∧p.1≠X.env.locals∧p.1∉X.fs∧∀ v,p.2.data≠.cell v
 hok:HOk X.prog X.w H s.heap
 len:σ.length=X.N.length
section
variable {X:Cx} {pins:List (Addr×Obj)} {σ:List (Option V)} {H H':Hp} {s:Shared} {h':Heap}
theorem Cx.Ok.nofr (ok:X.Ok) {b:Addr} {o:Obj} (e:X.base.get? b=some o):b∉X.fs:=fun hb=>by
 have:=(ok.funs.mem hb).1
 rw [e] at this;cases this
theorem Inv.bs (I:Inv X pins σ H s):∀ b o,X.base.get? b=some o→s.heap.get? b=some o∧H b=none:=fun b o e =>
 ⟨I.base.keep b o (I.ok.bs b o e).1 (I.ok.bs b o e).2 (I.ok.nofr e) (I.ok.noex b o e),I.base.free b o (I.ok.bs b o e).1 (I.ok.bs b o e).2 (I.ok.noex b o e)⟩
theorem Inv.bk (I:Inv X pins σ H s):∀ b o,X.base.get? b=some o→s.heap.get? b=some o:=fun b o e=>(I.bs b o e).1
theorem Inv.mod (I:Inv X pins σ H s):Mod X.K X.mg X.base:=I.ok.mod
theorem Inv.kIn (I:Inv X pins σ H s):X.K.In s.heap:=I.ok.mod.kin.keeps I.bk
theorem Inv.lt (I:Inv X pins σ H s):X.env.locals<s.heap.objs.size:=let ⟨_,hn,_⟩:=I.loc;hn.lt
theorem Inv.sz (I:Inv X pins σ H s):X.s₀.heap.objs.size≤s.heap.objs.size:=Nat.le_trans I.ok.above (Nat.le_of_lt I.lt)
theorem Inv.nofs (I:Inv X pins σ H s) {a:Addr} (h:s.heap.objs.size≤a):a∉X.fs:=fun hb=>by
 obtain ⟨_,o,ho,_⟩:=I.ok.funs.mem hb
 exact absurd (Nat.lt_of_lt_of_le (Heap.lt_size ho) (Nat.le_trans I.sz h)) (Nat.lt_irrefl _)
theorem Inv.cne (I:Inv X pins σ H s):∀ x c,X.env.cells.lookup x=some c→c≠X.env.locals:=fun x c e z=>by
 obtain ⟨v,o,ho,hd⟩:=I.cell x c e
 obtain ⟨m,⟨o',es,ep,ho',hd',_⟩,_⟩:=I.loc
 rw [z,ho'] at ho;cases ho;rw [hd'] at hd;cases hd
theorem Inv.funs (I:Inv X pins σ H s):s.heap.FunFrames X.base X.outer:=by
 have all:∀ (l:List Env),(∀ b∈frs l,b∈X.fs)→X.s₀.heap.FunFrames X.base l→s.heap.FunFrames X.base l:=by
  intro l
  induction l with
  | nil=>intro _ _;trivial
  | cons env r ih =>
   intro hs hl
   obtain ⟨hk,⟨L,o,hf,hn,ho,hd⟩,hr⟩:=hl
   have hL:L∈X.fs:=hs L (by unfold frs;rw [List.filterMap_cons,hf];exact List.mem_cons_self)
   obtain ⟨sl,e⟩:=I.base.slot L o ho (I.ok.frf L hL) hL fun z=>I.ok.exfs L z hL
   exact ⟨hk,⟨L,_,hf,hn,e,hd⟩,ih (fun b hb=>hs b (by unfold frs;rw [List.filterMap_cons,hf];exact List.mem_cons_of_mem _ hb)) hr⟩
 exact all X.outer (fun _ hb=>hb) I.ok.funs
theorem Inv.stack (I:Inv X pins σ H s):s.heap.FunFrames X.base X.stack:=by
 rcases I.ok.stk with e | ⟨e,hf⟩
 ·rw [e];exact I.funs
 ·rw [e]
  obtain ⟨m,hn,_⟩:=I.loc
  refine .cons (by rw [I.ok.kind];decide) hf hn ?_ I.funs
  exact Heap.get?_none_of_le (Nat.le_trans I.ok.bsz I.ok.above)
theorem Inv.stkSub (I:Inv X pins σ H s):∀ b∈frs X.stack,b∈X.env.locals::X.fs:=fun b hb=>by
 rcases I.ok.stk with e | ⟨e,hf⟩
 ·rw [e] at hb;exact List.mem_cons_of_mem _ hb
 ·rw [e] at hb
  unfold frs at hb
  rw [List.filterMap_cons,hf] at hb
  exact hb
theorem Inv.stkFree (I:Inv X pins σ H s):∀ b∈frs X.stack,H b=none:=fun b hb=>by
 rcases List.mem_cons.mp (I.stkSub b hb) with e | hb
 ·rw [e];exact I.free
 ·obtain ⟨_,o,ho,_⟩:=I.ok.funs.mem hb
  exact I.base.free b o ho (I.ok.frf b hb) fun z=>I.ok.exfs b z hb
theorem Inv.step {g':Array GenState} {t':Nat} {d':Drawn} {ch:List Addr} (I:Inv X pins σ H s)
  (hch:∀ b∈ch,(b∈X.ex∨X.s₀.heap.objs.size≤b)∧b≠X.env.locals∧(∀ x c,X.env.cells.lookup x=some c→c≠b)∧∀ p∈X.pn++pins,p.1≠b)
  (keep:∀ b o,b≠X.env.locals→b∉X.fs→b∉ch→s.heap.get? b=some o→H b=none→h'.get? b=some o)
  (slot:∀ b o,b≠X.env.locals→b∈X.fs→b∉ch→s.heap.get? b=some o→H b=none→∃ sl,h'.get? b=some {o with slots:=sl}) (free:∀ b o,b∉ch→s.heap.get? b=some o→H b=none→H' b=none)
  (there:∀ b o,b∉ch→s.heap.get? b=some o→∃ o',h'.get? b=some o')
  (tups:∀ b xs,H b=some (.tup xs)→H' b=some (.tup xs)) (frzs:∀ b o u,H b=some (.frz o u)→H' b=some (.frz o u)) (tbls:∀ b ps,H b=some (.tbl ps)→∃ more,H' b=some (.tbl (ps++more)))
  (ns:∀ m,s.heap.Ns X.env.locals m→h'.Ns X.env.locals m) (hok:HOk X.prog X.w H' h') (hg:AllBare g') :
  Inv X pins σ H' {s with heap:=h',gens:=g',drawn:=d',toks:=t'}:=by
 have neL:∀ b o,X.s₀.heap.get? b=some o→b≠X.env.locals:=fun b o e=>Nat.ne_of_lt (Nat.lt_of_lt_of_le (Heap.lt_size e) I.ok.above)
 have neC:∀ b o,X.s₀.heap.get? b=some o→b∉X.ex→b∉ch:=fun b o e hx hb=>by
  rcases (hch b hb).1 with z | z
  ·exact hx z
  ·exact absurd (Nat.lt_of_lt_of_le (Heap.lt_size e) z) (Nat.lt_irrefl _)
 have cellK:∀ x c,X.env.cells.lookup x=some c→∀ v,s.heap.IsCell c v→h'.IsCell c v:=fun x c e v ⟨o,ho,hd⟩=>by
  have nch:c∉ch:=fun z=>(hch c z).2.2.1 x c e rfl
  by_cases hc:c∈X.fs
  ·obtain ⟨sl,q⟩:=slot c o (I.cne x c e) hc nch ho (I.freeC x c e)
   exact ⟨_,q,hd⟩
  ·exact ⟨o,keep c o (I.cne x c e) hc nch ho (I.freeC x c e),hd⟩
 refine ⟨I.ok,I.os,hg,⟨fun b o e n hb hx=>?_,fun b o e n hb hx=>?_,fun b o e n hx=>?_,fun b o e hx=>?_,fun b xs e=>tups b xs (I.base.tups b xs e),fun b o xs e=>frzs b o xs (I.base.frzs b o xs e),fun b ps e=>?_⟩,?_,fun x c e=>?_,?_,fun x c e=>?_,fun p hp=>?_,hok,I.len⟩
 ·exact keep b o (neL b o e) hb (neC b o e hx) (I.base.keep b o e n hb hx) (I.base.free b o e n hx)
 ·obtain ⟨sl,e1⟩:=I.base.slot b o e n hb hx
  obtain ⟨sl',e2⟩:=slot b _ (neL b o e) hb (neC b o e hx) e1 (I.base.free b o e n hx)
  exact ⟨sl',e2⟩
 ·obtain ⟨o',e1⟩:=I.base.there b o e hx
  exact free b o' (neC b o e hx) e1 (I.base.free b o e n hx)
 ·obtain ⟨o',e1⟩:=I.base.there b o e hx
  exact there b o' (neC b o e hx) e1
 ·obtain ⟨m1,e1⟩:=I.base.tbls b ps e
  obtain ⟨m2,e2⟩:=tbls b _ e1
  exact ⟨m1++m2,by rw [e2,Array.append_assoc]⟩
 ·obtain ⟨m,hn,hl⟩:=I.loc
  refine ⟨m,ns m hn,fun i x v e1 e2 e3=>?_⟩
  obtain ⟨u,r,l⟩:=hl i x v e1 e2 e3
  refine ⟨u,r,?_⟩
  rcases l with l | ⟨k,c,e,z⟩
  ·exact .inl l
  ·exact .inr ⟨k,c,e,cellK x c e _ z⟩
 ·obtain ⟨v,z⟩:=I.cell x c e
  exact ⟨v,cellK x c e v z⟩
 ·obtain ⟨m,⟨o,_,_,ho,_⟩,_⟩:=I.loc
  exact free _ o (fun z=>(hch _ z).2.1 rfl) ho I.free
 ·obtain ⟨v,o,ho,hd⟩:=I.cell x c e
  exact free c o (fun z=>(hch c z).2.2.1 x c e rfl) ho (I.freeC x c e)
 ·obtain ⟨e,n,ne,nf,d⟩:=I.pin p hp
  have nch:p.1∉ch:=fun z=>(hch p.1 z).2.2.2 p hp rfl
  exact ⟨keep p.1 p.2 ne nf nch e n,free p.1 p.2 nch e n,ne,nf,d⟩
theorem Inv.un {t':Nat} (I:Inv X pins σ H s) (u:Un X.fs [] H H' s.heap h') (hok:HOk X.prog X.w H' h'):Inv X pins σ H' {s with heap:=h',toks:=t'}:=by
 obtain ⟨m,⟨o,es,ep,ho,r⟩,_⟩:=id I.loc
 obtain ⟨sl,hL⟩:=u.any ho I.free (by simp)
 exact I.step (g':=s.gens) (d':=s.drawn) (ch:=[]) (fun _ z=>nomatch z) (fun b o _ hb _ e n=>u.keep b o e n hb (by simp)) (fun b o _ hb _ e n=>u.slot b o e n hb (by simp)) (fun b o _ e n=>u.free b o e n (by simp)) (fun b o _ e=>u.there b o e (by simp)) u.tups u.frzs u.tbls (fun m' hm=>by
  obtain ⟨o',es',ep',ho',r'⟩:=hm
  rw [ho] at ho';cases ho'
  exact ⟨_,es',ep',hL,r'⟩) hok I.bare
theorem Inv.call {g':Array GenState} {t':Nat} {d':Drawn} {ch:List Addr} (I:Inv X pins σ H s) (u:Un (frs X.stack) ch H H' s.heap h') (hok:HOk X.prog X.w H' h') (hg:AllBare g')
  (hch:∀ b∈ch,(b∈X.ex∨X.s₀.heap.objs.size≤b)∧b≠X.env.locals∧(∀ x c,X.env.cells.lookup x=some c→c≠b)∧∀ p∈X.pn++pins,p.1≠b) :
  Inv X pins σ H' {s with heap:=h',gens:=g',drawn:=d',toks:=t'}:=by
 obtain ⟨m,⟨o,es,ep,ho,r⟩,_⟩:=id I.loc
 obtain ⟨sl,hL⟩:=u.any ho I.free fun z=>(hch _ z).2.1 rfl
 exact I.step (ch:=ch) hch (fun b o hL hb hc e n=>u.keep b o e n (fun z=>(List.mem_cons.mp (I.stkSub b z)).elim hL hb) hc) (fun b o _ _ hc e n=>u.any e n hc) (fun b o hc e n=>u.free b o e n hc) (fun b o hc e=>u.there b o e hc) u.tups u.frzs u.tbls (fun m' hm=>by
  obtain ⟨o',es',ep',ho',r'⟩:=hm
  rw [ho] at ho';cases ho'
  exact ⟨_,es',ep',hL,r'⟩) hok hg
theorem Inv.turned {t':Nat} {it:Addr} (I:Inv X pins σ H s) (k:∀ b o,b≠it→s.heap.get? b=some o→h'.get? b=some o) (hn:H it=none) (hL:it≠X.env.locals)
  (h1:it∈X.ex∨X.s₀.heap.objs.size≤it) (h2:∀ x c,X.env.cells.lookup x=some c→c≠it) (h3:∀ p∈X.pn++pins,p.1≠it):Inv X pins σ H {s with heap:=h',toks:=t'}:=by
 have nit:∀ b u,H b=some u→b≠it:=fun b u e z=>by rw [z,hn] at e;cases e
 refine I.step (g':=s.gens) (d':=s.drawn) (ch:=[it]) (fun b hb=>?_) (fun b o _ _ hc e _=>k b o (fun z=>hc (by simp [z])) e) (fun b o _ _ hc e _=>⟨o.slots,k b o (fun z=>hc (by simp [z])) e⟩) (fun _ _ _ _ n=>n)
  (fun b o hc e=>⟨o,k b o (fun z=>hc (by simp [z])) e⟩) (fun _ _ e=>e) (fun _ _ _ e=>e) (fun b ps e=>⟨#[],by rw [e];simp⟩) (fun m hm=>?_) (fun b u e=>?_) I.bare
 ·have e:b=it:=by simpa using hb
  subst e
  exact ⟨h1,hL,h2,h3⟩
 ·obtain ⟨o,es,ep,ho,r⟩:=hm
  exact ⟨o,es,ep,k _ o (Ne.symm hL) ho,r⟩
 ·refine (I.hok b u e).stay (fun c v hc q=>k c v ?_ q) (fun _ q=>q) fun _ _ q=>q
  rcases hc with z | z
  ·rw [z];exact nit b u e
  ·exact nit c _ z
theorem Inv.tok (I:Inv X pins σ H s) (t:Nat):Inv X pins σ H {s with toks:=t}:=I.un (h':=s.heap) (t':=t) Un.refl I.hok
theorem Inv.kept {t':Nat} (I:Inv X pins σ H s) (k:∀ b u,s.heap.get? b=some u→h'.get? b=some u):Inv X pins σ H {s with heap:=h',toks:=t'}:=I.un (Un.kept k) (I.hok.kept k)
theorem Inv.laid {a:Addr} {o:HO} {t':Nat} (I:Inv X pins σ H s) (k:∀ b u,s.heap.get? b=some u→h'.get? b=some u) (hp:s.heap.objs.size≤a) (new:ObjOk X.prog X.w (upd H a o) h' a o) :
  Inv X pins σ (upd H a o) {s with heap:=h',toks:=t'}:=I.un (Un.laid k hp (I.hok.fresh hp)) (I.hok.laid k hp new)
theorem Inv.write {x e:Addr} {o:HO} {t':Nat} (I:Inv X pins σ H s) (mu:Mut (H x)) (he:e=x∨H e=some (.own x)) (k:∀ b u,b≠e→s.heap.get? b=some u→h'.get? b=some u) (heo:∃ u,h'.get? e=some u)
  (new:ObjOk X.prog X.w (upd H x o) h' x o):Inv X pins σ (upd H x o) {s with heap:=h',toks:=t'}:=I.un (Un.write mu he k heo) (I.hok.write mu he k heo new)
theorem Inv.pins_of {pins':List (Addr×Obj)} (I:Inv X pins σ H s) (h:∀ p∈pins',s.heap.get? p.1=some p.2∧H p.1=none∧p.1≠X.env.locals∧p.1∉X.fs∧∀ v,p.2.data≠.cell v):Inv X pins' σ H s :=
 ⟨I.ok,I.os,I.bare,I.base,I.loc,I.cell,I.free,I.freeC,fun p hp=>(List.mem_append.mp hp).elim (fun z=>I.pin p (List.mem_append_left _ z)) (h p),I.hok,I.len⟩
theorem Zkh {N:List Str} (hN:N.Nodup) {i j:Nat} {x:Str} (a:N[i]?=some x) (b:N[j]?=some x):i=j:=by
 obtain ⟨h1,e1⟩:=List.getElem?_eq_some_iff.mp a
 obtain ⟨h2,e2⟩:=List.getElem?_eq_some_iff.mp b
 exact (List.getElem_inj hN).mp (e1.trans e2.symm)
theorem Zoh {M:Model} {A:Around} {E:Value→Shared→Prop} {i:Nat} {x:Str} {v:V} {u:Value} {Q:Unit→Shared→Prop} (I:Inv X pins σ H s) (hN:X.N.Nodup) (hi:X.N[i]?=some x) (hx:Loc X.env.scope x) (r:RelV v u)
  (h:∀ s',Inv X pins (σ.set i (some v)) H s'→(∃ a,Heap.SameBut a s.heap s'.heap∧(a=X.env.locals∨X.env.cells.lookup x=some a))→Q () s') (hf:X.fn x=true∨X.env.scope.names.lookup x=some .local:=by first | exact .inl rfl | exact .inr rfl | assumption):wpAny M A (storeName X.env x u) Q E s:=by
 obtain ⟨m,hn,hl⟩:=id I.loc
 have hcls:(X.env.scope.kind == .class||(X.env.scope.kind == .module&&X.env.locals != X.env.globals))=false:=by rw [I.ok.kind];rfl
 have hiσ:i<σ.length:=by rw [I.len];exact (List.getElem?_eq_some_iff.mp hi).1
 have cne:=I.cne
 have tracked:∀ {a:Addr} {h':Heap},(∃ o,s.heap.get? a=some o∧H a=none)→Heap.SameBut a s.heap h'→HOk X.prog X.w H h':=fun {a h'} ha hs b ob e=>by
  obtain ⟨_,_,hfree⟩:=ha
  refine (I.hok b ob e).stay (fun c w' hc q=>(hs.2 c ?_).trans q) (fun _ q=>q) fun _ _ q=>q
  rintro rfl
  rcases hc with rfl | hc
  ·rw [hfree] at e;cases e
  ·rw [hfree] at hc;cases hc
 rcases hx with hk | hk
 ·refine wpAny_storeName_local hk hn (fun h' hn' hs=>?_) hcls
  obtain ⟨oL,_,_,hoL,_⟩:=id hn
  refine h _ ⟨I.ok,I.os,I.bare,⟨fun b o e n hb hx=>?_,fun b o e n hb hx=>?_,I.base.free,fun b o e hx=>?_,I.base.tups,I.base.frzs,I.base.tbls⟩,⟨_,hn',fun j y v' e1 e2 e3=>?_⟩,fun y c e=>?_,I.free,I.freeC,fun p hp=>?_,tracked ⟨oL,hoL,I.free⟩ hs,by simpa using I.len⟩ ⟨_,hs,.inl rfl⟩
  ·exact (hs.2 b (Nat.ne_of_lt (Nat.lt_of_lt_of_le (Heap.lt_size e) I.ok.above))).trans (I.base.keep b o e n hb hx)
  ·obtain ⟨sl,e1⟩:=I.base.slot b o e n hb hx
   exact ⟨sl,(hs.2 b (Nat.ne_of_lt (Nat.lt_of_lt_of_le (Heap.lt_size e) I.ok.above))).trans e1⟩
  ·obtain ⟨o',e1⟩:=I.base.there b o e hx
   exact ⟨o',(hs.2 b (Nat.ne_of_lt (Nat.lt_of_lt_of_le (Heap.lt_size e) I.ok.above))).trans e1⟩
  ·by_cases hj:j=i
   ·subst hj
    rw [hi] at e1;cases e1
    rw [List.getElem?_set_self hiσ] at e2
    cases e2
    exact ⟨u,r,.inl ⟨hk,by simp⟩⟩
   ·rw [List.getElem?_set_ne (Ne.symm hj)] at e2
    obtain ⟨u',r',q⟩:=hl j y v' e1 e2 e3
    refine ⟨u',r',?_⟩
    rcases q with ⟨k,e⟩ | ⟨k,c,e,z⟩
    ·refine .inl ⟨k,?_⟩
     have:y≠x:=fun e=>hj (Zkh hN e1 (e ▸ hi))
     simp [this,e]
    ·exact .inr ⟨k,c,e,z.sameBut hs (cne y c e)⟩
  ·obtain ⟨w',z⟩:=I.cell y c e
   exact ⟨w',z.sameBut hs (cne y c e)⟩
  ·obtain ⟨e,n,ne,nf,d⟩:=I.pin p hp
   exact ⟨(hs.2 p.1 ne).trans e,n,ne,nf,d⟩
 ·have hfn:X.fn x=true:=by
   rcases hf with z | z
   ·exact z
   ·rw [z] at hk;cases hk
  obtain ⟨c,hc⟩:=I.ok.has x (.inl hk)
  obtain ⟨w',z⟩:=I.cell x c hc
  refine wpAny_storeName_cell I.ok.kind hk hc z (fun h' hc' hs=>?_)
  obtain ⟨oc,hoc,hocd⟩:=id z
  refine h {s with heap:=h'} ⟨I.ok,I.os,I.bare,⟨fun b o e n hb hx=>?_,fun b o e n hb hx=>?_,I.base.free,fun b o e hx=>?_,I.base.tups,I.base.frzs,I.base.tbls⟩,⟨m,hn.sameBut hs (Ne.symm (cne x c hc)),fun j y v' e1 e2 e3=>?_⟩,fun y c' e=>?_,I.free,I.freeC,fun p hp=>?_,tracked ⟨oc,hoc,I.freeC x c hc⟩ hs,by simpa using I.len⟩ ⟨c,hs,.inr hc⟩
  ·exact (hs.2 b (Nat.ne_of_lt (Nat.lt_of_lt_of_le (Heap.lt_size e) (I.ok.cab x c hfn hc)))).trans (I.base.keep b o e n hb hx)
  ·obtain ⟨sl,e1⟩:=I.base.slot b o e n hb hx
   exact ⟨sl,(hs.2 b (Nat.ne_of_lt (Nat.lt_of_lt_of_le (Heap.lt_size e) (I.ok.cab x c hfn hc)))).trans e1⟩
  ·obtain ⟨o',e1⟩:=I.base.there b o e hx
   exact ⟨o',(hs.2 b (Nat.ne_of_lt (Nat.lt_of_lt_of_le (Heap.lt_size e) (I.ok.cab x c hfn hc)))).trans e1⟩
  ·by_cases hj:j=i
   ·subst hj
    rw [hi] at e1;cases e1
    rw [List.getElem?_set_self hiσ] at e2
    cases e2
    exact ⟨u,r,.inr ⟨.inl hk,c,hc,hc'⟩⟩
   ·rw [List.getElem?_set_ne (Ne.symm hj)] at e2
    obtain ⟨u',r',q⟩:=hl j y v' e1 e2 e3
    refine ⟨u',r',?_⟩
    rcases q with q | ⟨k,c',e,z'⟩
    ·exact .inl q
    ·refine .inr ⟨k,c',e,z'.sameBut hs ?_⟩
     rintro rfl
     exact hj (Zkh hN e1 (I.ok.inj _ _ _ e hc ▸ hi))
  ·by_cases hcc:c'=c
   ·subst hcc;exact ⟨_,hc'⟩
   ·obtain ⟨w2,z2⟩:=I.cell y c' e
    exact ⟨w2,z2.sameBut hs hcc⟩
  ·obtain ⟨e,n,ne,nf,d⟩:=I.pin p hp
   refine ⟨(hs.2 p.1 ?_).trans e,n,ne,nf,d⟩
   intro q
   rw [q,hoc] at e
   have q':oc=p.2:=Option.some.inj e
   exact d w' (by rw [← q'];exact hocd)
theorem Zjb {M:Model} {A:Around} {E:Value→Shared→Prop} {i:Nat} {x:Str} {v:V} {u:Value} {Q:Unit→Shared→Prop} (I:Inv X pins σ H s) (hN:X.N.Nodup) (hi:X.N[i]?=some x) (hx:Loc X.env.scope x) (r:RelV v u)
  (h:∀ s',Inv X pins (σ.set i (some v)) H s'→Q () s') (hf:X.fn x=true∨X.env.scope.names.lookup x=some .local:=by first | exact .inl rfl | exact .inr rfl | assumption):wpAny M A (storeName X.env x u) Q E s :=
 Zoh I hN hi hx r (fun s' I' _=>h s' I') hf
theorem Inv.call' {s':Shared} {ch:List Addr} (I:Inv X pins σ H s) (ho:s'.os=s.os) (u:Un (frs X.stack) ch H H' s.heap s'.heap) (hok:HOk X.prog X.w H' s'.heap) (hg:AllBare s'.gens)
  (hch:∀ b∈ch,(b∈X.ex∨X.s₀.heap.objs.size≤b)∧b≠X.env.locals∧(∀ x c,X.env.cells.lookup x=some c→c≠b)∧∀ p∈X.pn++pins,p.1≠b):Inv X pins σ H' s':=by
 obtain ⟨h',g',d',t',o'⟩:=s'
 have e:o'=s.os:=ho
 subst e
 exact I.call (g':=g') (t':=t') (d':=d') u hok hg hch
end
noncomputable abbrev XK:=Value→Option Addr→Hp→Prop
noncomputable abbrev St:=List (Option V)
noncomputable abbrev VK:=V→Hp→Prop
noncomputable abbrev TE:=St→Hp→VK→Prop
noncomputable abbrev TT:=St→Hp→(Bool→Hp→Prop)→Prop
noncomputable abbrev TA:=St→Hp→(List V→Hp→Prop)→Prop
structure Ends where
 nx:St→Hp→Prop
 rt:VK
 bk:St→Hp→Prop:=fun _ _=>False
 ct:St→Hp→Prop:=fun _ _=>False
noncomputable abbrev TS:=Ends→St→Hp→Prop
noncomputable def EP (X:Cx) (pins:List (Addr×Obj)) (σ:St) (Q:VK) (u:Value) (s':Shared):Prop:=∃ v H',Inv X pins σ H' s'∧RelV v u∧Q v H'
noncomputable def TP (X:Cx) (pins:List (Addr×Obj)) (σ:St) (Q:Bool→Hp→Prop) (b:Bool) (s':Shared):Prop:=∃ H',Inv X pins σ H' s'∧Q b H'
noncomputable def AP (X:Cx) (pins:List (Addr×Obj)) (σ:St) (Q:List V→Hp→Prop) (us:List Value) (s':Shared):Prop:=∃ vs H',Inv X pins σ H' s'∧Vals vs us∧Q vs H'
noncomputable def SP (X:Cx) (pins:List (Addr×Obj)) (D:Ends) (f:Flow) (s':Shared):Prop :=
 match f with
 | .next=>∃ σ' H',Inv X pins σ' H' s'∧D.nx σ' H'
 | .brk=>∃ σ' H',Inv X pins σ' H' s'∧D.bk σ' H'
 | .cont=>∃ σ' H',Inv X pins σ' H' s'∧D.ct σ' H'
 | .ret u=>∃ v σ' H',Inv X pins σ' H' s'∧RelV v u∧D.rt v H'
noncomputable def PE (X:Cx) (e:Expr) (t:TE):Prop :=
 ∀ (pins:List (Addr×Obj)) (s:Shared) (σ:St) (H:Hp) (Q:VK),Inv X pins σ H s→t σ H Q→wpAny (model X.prog X.w) X.A (eval e X.env) (EP X pins σ Q) X.xe s
noncomputable def PT (X:Cx) (e:Expr) (t:TT):Prop :=
 ∀ (pins:List (Addr×Obj)) (s:Shared) (σ:St) (H:Hp) (Q:Bool→Hp→Prop),Inv X pins σ H s→t σ H Q→wpAny (model X.prog X.w) X.A (isTrue e X.env (eval e X.env)) (TP X pins σ Q) X.xe s
noncomputable def PW (X:Cx) (e:Expr) (t:TT):Prop :=
 ∀ (whole:Sem Value) (pins:List (Addr×Obj)) (s:Shared) (σ:St) (H:Hp) (Q:Bool→Hp→Prop),Inv X pins σ H s→t σ H Q→wpAny (model X.prog X.w) X.A (isTrue e X.env whole) (TP X pins σ Q) X.xe s
theorem PW.pt {X:Cx} {e:Expr} {t:TT} (h:PW X e t):PT X e t:=h _
noncomputable def PA (X:Cx) (es:List Expr) (t:TA):Prop :=
 ∀ (pos:Pos) (pins:List (Addr×Obj)) (s:Shared) (σ:St) (H:Hp) (Q:List V→Hp→Prop),Inv X pins σ H s→t σ H Q→wpAny (model X.prog X.w) X.A (spliced (backTo pos (starEach es X.env))) (AP X pins σ Q) X.xe s
noncomputable def PS (X:Cx) (st:Stmt) (t:TS):Prop :=
 ∀ (pins:List (Addr×Obj)) (s:Shared) (σ:St) (H:Hp) (D:Ends),Inv X pins σ H s→t D σ H→wpAny (model X.prog X.w) X.A (exec st X.env) (SP X pins D) X.xe s
noncomputable def PSs (X:Cx) (st:List Stmt) (t:TS):Prop :=
 ∀ (pins:List (Addr×Obj)) (s:Shared) (σ:St) (H:Hp) (D:Ends),Inv X pins σ H s→t D σ H→wpAny (model X.prog X.w) X.A (execs st X.env) (SP X pins D) X.xe s
theorem thn {α:Type} {t:Sem α} {Q Q':α→Shared→Prop} {M:Model} {A:Around} {E:Value→Shared→Prop} {s:Shared} (h:wpAny M A t Q E s) (hQ:∀ a s,Q a s→Q' a s):wpAny M A t Q' E s:=wpAny_mono h hQ fun _ _ x=>x
end L2
namespace L2
open PySem PySem.Spec PyProof.Rows
section
variable {X:Cx}
noncomputable def tVar (i:Nat):TE:=fun σ H Q=>∃ v,σ[i]?=some (some v)∧Q v H
noncomputable def tC (v:V):TE:=fun _ H Q=>Q v H
theorem Xya {i:Nat} {x:Str} {pos:Pos} (hN:X.N[i]?=some x) (hv:Vis X.env.scope x) (hd:(x == ("__debug__":Str))=false:=by decide) (hcd:(x == ("__classdict__":Str))=false:=by decide):PE X (.Name x pos) (tVar i):=by
 intro pins s σ H Q I h
 obtain ⟨v,e,h⟩:=h
 obtain ⟨m,hn,hl⟩:=I.loc
 obtain ⟨u,r,l⟩:=hl i x v hN e hv
 have fin:EP X pins σ Q u s:=⟨v,H,I,r,h⟩
 rcases l with ⟨hk,hm⟩ | ⟨hk,c,hc,hcell⟩
 ·exact wpAny_Name (wpAny_loadName_local I.ok.kind hk hn hm fin) hd
 ·rcases hk with hk | hk
  ·exact wpAny_Name (wpAny_loadName_cell I.ok.kind hk hc hcell fin) hd
  ·exact wpAny_Name (wpAny_loadName_free I.ok.kind hk hc hcell fin hcd) hd
theorem Zf {i j pos}:PE X (.Constant (.int i) j pos) (tC (.int i)):=fun _ _ _ H _ I h=>wpAny_Constant_int ⟨.int i,H,I.tok _,⟨_,rfl⟩,h⟩
theorem Zph {b j pos}:PE X (.Constant (.bool b) j pos) (tC (.bl b)):=fun _ _ _ H _ I h=>Constant_bool ⟨.bl b,H,I,rfl,h⟩
theorem Ju {j pos}:PE X (.Constant .none j pos) (tC .non):=fun _ _ _ H _ I h=>Constant_none ⟨.non,H,I,rfl,h⟩
theorem Zu {x j pos}:PE X (.Constant (.str x) j pos) (tC (.str x)):=fun _ _ _ H _ I h=>Calls.Constant_str ⟨.str x,H,I.tok _,⟨_,rfl⟩,h⟩
noncomputable def Gl (X:Cx) (x:Str):Prop:=X.env.kindOf x=some .globalImplicit
theorem Jc {E:Value→Shared→Prop} {pins:List (Addr×Obj)} {s:Shared} {σ:St} {H:Hp} {x:Str} {u:Value} {pos:Pos} {Q:Value→Shared→Prop} (I:Inv X pins σ H s) (hg:Gl X x) (hm:X.mg x=some u) (h:Q u s)
  (hd:(x == ("__debug__":Str))=false:=by decide):wpAny (model X.prog X.w) X.A (eval (.Name x pos) X.env) Q E s :=
 Calls.Name_function_global I.ok.kind hg (Calls.loadGlobal_global (by rw [I.ok.glob];exact I.mod.glob.keeps I.bk) hm h) hd
theorem Qv {E:Value→Shared→Prop} {pins:List (Addr×Obj)} {s:Shared} {σ:St} {H:Hp} {x:Str} {u:Value} {pos:Pos} {Q:Value→Shared→Prop} (I:Inv X pins σ H s) (hg:Gl X x) (hm:X.mg x=none) (hv:bootBuiltins x=some u) (h:Q u s)
  (hn:x≠"__name__":=by decide) (hd:(x == ("__debug__":Str))=false:=by decide):wpAny (model X.prog X.w) X.A (eval (.Name x pos) X.env) Q E s:=by
 obtain ⟨mb,h1,h2⟩:=I.mod.blt
 exact Calls.Name_function_global I.ok.kind hg (Calls.loadGlobal_builtin (by rw [I.ok.glob];exact I.mod.glob.keeps I.bk) hm (by rw [I.ok.blt];exact h1.keeps I.bk) ((h2 x hn).trans hv) h) hd
theorem Xub {x:Str} {v:V} {u:Value} {pos:Pos} (hg:Gl X x) (hm:X.mg x=some u) (r:RelV v u) (hd:(x == ("__debug__":Str))=false:=by decide):PE X (.Name x pos) (tC v) :=
 fun _ _ _ H _ I h=>Jc I hg hm ⟨v,H,I,r,h⟩ hd
theorem Xue {x:Str} {v:V} {u:Value} {pos:Pos} (hg:Gl X x) (hm:X.mg x=none) (hv:bootBuiltins x=some u) (r:RelV v u) (hn:x≠"__name__":=by decide) (hd:(x == ("__debug__":Str))=false:=by decide):PE X (.Name x pos) (tC v) :=
 fun _ _ _ H _ I h=>Qv I hg hm hv ⟨v,H,I,r,h⟩ hn hd
variable {a b:Expr} {ta tb:TE} {pos:Pos}
noncomputable def PC (X:Cx) (op:CmpOp) (a b:Expr) (t:TE):Prop :=
 ∀ (pins:List (Addr×Obj)) (s:Shared) (σ:St) (H:Hp) (Q:VK),Inv X pins σ H s→t σ H Q→
  wpAny (model X.prog X.w) X.A (eval a X.env) (fun v s₁=>wpAny (model X.prog X.w) X.A (eval b X.env) (fun u s₂=>wpAny (model X.prog X.w) X.A (compareOp op v u) (EP X pins σ Q) X.xe s₂) X.xe s₁) X.xe s
variable {tA tB':TT} {rest:List Expr}
noncomputable def tAnd (t u:TT):TT:=fun σ H Q=>t σ H fun c H1=>if c=true then u σ H1 Q else Q false H1
noncomputable def tOr (t u:TT):TT:=fun σ H Q=>t σ H fun c H1=>if c=true then Q true H1 else u σ H1 Q
noncomputable def tNot (t:TT):TT:=fun σ H Q=>t σ H fun c H1=>Q (!c) H1
theorem Ja (ha:PT X a tA):PW X (.BoolOp .And [a] pos) tA:=by
 intro wh pins s σ H Q I h
 refine isTrue_and (thn (ha pins s σ H Q I h) fun c s1 e=>?_)
 cases c with
 | true=>exact isTrue_and_nil e
 | false=>exact e
theorem Zfd (ha:PT X a tA):PW X (.BoolOp .Or [a] pos) tA:=by
 intro wh pins s σ H Q I h
 refine isTrue_or (thn (ha pins s σ H Q I h) fun c s1 e=>?_)
 cases c with
 | false=>exact isTrue_or_nil e
 | true=>exact e
theorem Jd (ha:PT X a tA) (hb:PW X (.BoolOp .And (b::rest) pos) tB'):PW X (.BoolOp .And (a::b::rest) pos) (tAnd tA tB'):=by
 intro wh pins s σ H Q I h
 refine isTrue_and (thn (ha pins s σ H _ I h) fun c s1 ⟨H1,I1,q1⟩=>?_)
 cases c with
 | true=>exact hb wh pins s1 σ H1 Q I1 q1
 | false=>exact ⟨H1,I1,q1⟩
theorem Zpd (ha:PT X a tA) (hb:PW X (.BoolOp .Or (b::rest) pos) tB'):PW X (.BoolOp .Or (a::b::rest) pos) (tOr tA tB'):=by
 intro wh pins s σ H Q I h
 refine isTrue_or (thn (ha pins s σ H _ I h) fun c s1 ⟨H1,I1,q1⟩=>?_)
 cases c with
 | true=>exact ⟨H1,I1,q1⟩
 | false=>exact hb wh pins s1 σ H1 Q I1 q1
theorem Qb (ha:PT X a tA):PT X (.UnaryOp .Not a pos) (tNot tA):=by
 intro pins s σ H Q I h
 exact isTrue_not (ha pins s σ H (fun c H1=>Q (!c) H1) I h)
noncomputable def tAndV (ta tb:TE):TE:=fun σ H Q=>ta σ H fun x H1=>∃ c,x = .bl c∧if c=true then tb σ H1 Q else Q (.bl false) H1
noncomputable def tOrV (ta tb:TE):TE:=fun σ H Q=>ta σ H fun x H1=>∃ c,x = .bl c∧if c=true then Q (.bl true) H1 else tb σ H1 Q
theorem Zcf {op} {t:TE} (h:PE X a t):PE X (.BoolOp op [a] pos) t:=fun pins s σ H Q I hw=>BoolOp_one (h pins s σ H Q I hw)
theorem Zfe (ha:PE X a ta) (hb:PE X (.BoolOp .And (b::rest) pos) tb):PE X (.BoolOp .And (a::b::rest) pos) (tAndV ta tb):=by
 intro pins s σ H Q I h
 refine BoolOp_and (thn (ha pins s σ H _ I h) fun v s1 ⟨x,H1,I1,r1,q1⟩=>?_)
 obtain ⟨c,rfl,q1⟩:=q1
 cases r1
 refine wpAny_truthy_bool ?_
 cases c with
 | true=>exact hb pins s1 σ H1 Q I1 q1
 | false=>exact ⟨.bl false,H1,I1,rfl,q1⟩
theorem Xwc (ha:PE X a ta) (hb:PE X (.BoolOp .Or (b::rest) pos) tb):PE X (.BoolOp .Or (a::b::rest) pos) (tOrV ta tb):=by
 intro pins s σ H Q I h
 refine BoolOp_or (thn (ha pins s σ H _ I h) fun v s1 ⟨x,H1,I1,r1,q1⟩=>?_)
 obtain ⟨c,rfl,q1⟩:=q1
 cases r1
 refine wpAny_truthy_bool ?_
 cases c with
 | false=>exact hb pins s1 σ H1 Q I1 q1
 | true=>exact ⟨.bl true,H1,I1,rfl,q1⟩
noncomputable def tIf (t:TT) (ta tb:TE):TE:=fun σ H Q=>t σ H fun c H1=>if c=true then ta σ H1 Q else tb σ H1 Q
theorem Qi {c:Expr} (hc:PT X c tA) (ha:PE X a ta) (hb:PE X b tb):PE X (.IfExp c a b pos) (tIf tA ta tb):=by
 intro pins s σ H Q I h
 refine wpAny_IfExp (thn (hc pins s σ H _ I h) fun d s1 ⟨H1,I1,q1⟩=>?_)
 cases d with
 | true=>exact ha pins s1 σ H1 Q I1 q1
 | false=>exact hb pins s1 σ H1 Q I1 q1
end
end L2
namespace L2
open PySem PySem.Spec PyProof.Rows
noncomputable def SqL (K:PySem.W.Frag) (H:Hp) (a:Addr) (xs:List V):Prop :=
 Rd H a (.lst xs)∨
  ∃ (o:Obj) (its:Array Value) (n:Nat),K.lookup a=some o∧o.cls = .type "list"∧o.dict=none∧o.data = .seq its n∧its.size≤sizeLine∧Vals xs its.toList
noncomputable def SqT (K:PySem.W.Frag) (H:Hp) (a:Addr) (xs:List V):Prop :=
 Rd H a (.tup xs)∨
  ∃ (o:Obj) (its:Array Value) (n:Nat),K.lookup a=some o∧o.cls = .type "tuple"∧o.data = .seq its n∧its.size≤sizeLine∧Vals xs its.toList
noncomputable def absV:Value→Option V
 | .none=>some .non
 | .bool b=>some (.bl b)
 | .int i _=>some (.int i)
 | .str x _=>some (.str x)
 | .bytes b _=>some (.byt b)
 | .float b _=>some (.flt b)
 | .ref a=>some (.ref a)
 | .type n=>some (.ty n)
 | _=>none
theorem RelV.abs {x:V} {u:Value} (r:RelV x u):absV u=some x:=by
 cases x with
 | non=>cases r;rfl
 | bl _=>cases r;rfl
 | int _=>obtain ⟨t,rfl⟩:=r;rfl
 | str _=>obtain ⟨t,rfl⟩:=r;rfl
 | byt _=>obtain ⟨t,rfl⟩:=r;rfl
 | flt _=>obtain ⟨t,rfl⟩:=r;rfl
 | ref _=>cases r;rfl
 | ty _=>cases r;rfl
theorem RelV.inj {x y:V} {u:Value} (r:RelV x u) (q:RelV y u):x=y:=Option.some.inj (r.abs.symm.trans q.abs)
theorem Vals.inj:∀ {xs ys:List V} {us:List Value},Vals xs us→Vals ys us→xs=ys
 | _,_,_,.nil,.nil=>rfl
 | _,_,_,.cons r t,.cons r' t'=>by rw [r.inj r',Vals.inj t t']
section
variable {X:Cx} {pins:List (Addr×Obj)} {σ:St} {H:Hp} {s:Shared} {a:Addr} {xs ys:List V}
theorem SqL.of {K:PySem.W.Frag} (h:H a=some (.lst xs)):SqL K H a xs := .inl (.inl h)
theorem SqT.of {K:PySem.W.Frag} (h:H a=some (.tup xs)):SqT K H a xs := .inl (.inl h)
theorem Inv.list (I:Inv X pins σ H s) (h:SqL X.K H a xs):∃ its:List Value,Vals xs its∧PlainL s.heap a its.toArray∧xs.length≤sizeLine:=by
 rcases h with h | ⟨o,its,n,hk,hc,hd,hs,hz,r⟩
 ·obtain ⟨z,its,n,r,e⟩:=h.ok I.hok
  exact ⟨its,r,⟨_,n,e,rfl,rfl,rfl⟩,z⟩
 ·refine ⟨its.toList,r,⟨o,n,I.kIn a o hk,hc,hd,by simpa using hs⟩,?_⟩
  have e:=r.length
  simp only [Array.length_toList] at e
  omega
theorem Inv.tuple (I:Inv X pins σ H s) (h:SqT X.K H a xs):∃ its:List Value,Vals xs its∧IsTup s.heap a its.toArray∧xs.length≤sizeLine:=by
 rcases h with h | ⟨o,its,n,hk,hc,hs,hz,r⟩
 ·obtain ⟨z,its,r,p⟩:=h.ok I.hok
  exact ⟨its,r,p,z⟩
 ·refine ⟨its.toList,r,⟨o,I.kIn a o hk,hc,n,by simpa using hs⟩,?_⟩
  have e:=r.length
  simp only [Array.length_toList] at e
  omega
theorem Inv.list_inj (I:Inv X pins σ H s) (h:SqL X.K H a xs) (h':SqL X.K H a ys):xs=ys:=by
 obtain ⟨its,r,⟨o,n,e,_,_,d⟩,_⟩:=I.list h
 obtain ⟨its',r',⟨o',n',e',_,_,d'⟩,_⟩:=I.list h'
 rw [e] at e';cases e'
 rw [d] at d'
 injection d' with d1 _
 have:its=its':=by simpa using congrArg Array.toList d1
 subst this
 exact r.inj r'
end
noncomputable abbrev Cx.wish (X:Cx) (E:Value→Shared→Prop):Cx:={X with xe:=E}
noncomputable abbrev Cx.nox (X:Cx):Cx:=X.wish fun _ _=>False
theorem Cx.Ok.wish {X:Cx} (ok:X.Ok) (E:Value→Shared→Prop):(X.wish E).Ok :=
 ⟨ok.mod,ok.kind,ok.glob,ok.blt,ok.above,ok.inj,ok.has,ok.cab,ok.hd,ok.frames,ok.stk,ok.exf,ok.bs,ok.bsz,ok.noex,ok.exfs,ok.funs,ok.frf⟩
theorem Cx.Ok.unwish {X:Cx} {E:Value→Shared→Prop} (ok:(X.wish E).Ok):X.Ok :=
 ⟨ok.mod,ok.kind,ok.glob,ok.blt,ok.above,ok.inj,ok.has,ok.cab,ok.hd,ok.frames,ok.stk,ok.exf,ok.bs,ok.bsz,ok.noex,ok.exfs,ok.funs,ok.frf⟩
section
variable {X:Cx} {pins:List (Addr×Obj)} {σ:St} {H:Hp} {s:Shared} {E:Value→Shared→Prop}
theorem Inv.wish (I:Inv X pins σ H s) (E:Value→Shared→Prop):Inv (X.wish E) pins σ H s:=⟨I.ok.wish E,I.os,I.bare,I.base,I.loc,I.cell,I.free,I.freeC,I.pin,I.hok,I.len⟩
theorem Inv.unwish (I:Inv (X.wish E) pins σ H s):Inv X pins σ H s:=⟨I.ok.unwish,I.os,I.bare,I.base,I.loc,I.cell,I.free,I.freeC,I.pin,I.hok,I.len⟩
theorem SP.unwish {D:Ends} {f:Flow} {s':Shared} (h:SP (X.wish E) pins D f s'):SP X pins D f s':=by
 cases f with
 | next=>obtain ⟨σ',H',I,q⟩:=h;exact ⟨σ',H',I.unwish,q⟩
 | brk=>obtain ⟨σ',H',I,q⟩:=h;exact ⟨σ',H',I.unwish,q⟩
 | cont=>obtain ⟨σ',H',I,q⟩:=h;exact ⟨σ',H',I.unwish,q⟩
 | ret u=>obtain ⟨v,σ',H',I,r,q⟩:=h;exact ⟨v,σ',H',I.unwish,r,q⟩
theorem PSs.nox {st:List Stmt} {t:TS} (h:PSs X.nox st t):PSs X st t:=fun pins s σ H D I hw =>
 wpAny_mono (h pins s σ H D (I.wish _) hw) (fun _ _ q=>q.unwish) fun _ _ z=>False.elim z
end
section
variable {X:Cx} {st:Stmt} {rest:List Stmt} {t u:TS} {e:Expr} {te:TE} {pos:Pos}
noncomputable def tNext:TS:=fun D σ H=>D.nx σ H
noncomputable def tSeq (t u:TS):TS:=fun D σ H=>t {D with nx:=u D} σ H
theorem Zt:PSs X [] tNext:=fun _ _ σ H _ I h=>wpAny_execs_nil ⟨σ,H,I,h⟩
theorem Zd (h1:PS X st t) (h2:PSs X rest u):PSs X (st::rest) (tSeq t u):=by
 intro pins s σ H D I h
 refine wpAny_execs_cons (thn (h1 pins s σ H {D with nx:=u D} I h) fun f s1 q=>?_)
 cases f with
 | next =>
  obtain ⟨σ',H',I',q⟩:=q
  exact h2 pins s1 σ' H' D I' q
 | ret v=>exact q
 | brk=>exact q
 | cont=>exact q
theorem Zg (h1:PS X st t):PSs X [st] t:=by
 intro pins s σ H D I h
 refine wpAny_execs_cons (thn (h1 pins s σ H D I h) fun f s1 q=>?_)
 cases f with
 | next=>exact wpAny_execs_nil q
 | ret v=>exact q
 | brk=>exact q
 | cont=>exact q
theorem Inv.quiet {pins:List (Addr×Obj)} {σ:St} {H:Hp} {s:Shared} (I:Inv X pins σ H s):interactive X.env=false:=by simp [interactive,I.ok.kind]
noncomputable def tDrop (te:TE):TS:=fun D σ H=>te σ H fun _ H1=>D.nx σ H1
theorem Zee (he:PE X e te) (hs:swapsWith e none pos.line X.env=pure false:=by rfl):PS X (.Expr e pos) (tDrop te):=by
 intro pins s σ H D I h
 exact wpAny_Expr_any (thn (he pins s σ H _ I h) fun v s1 ⟨x,H1,I1,r1,q1⟩=>⟨σ,H1,I1,q1⟩) I.quiet hs
noncomputable def tRet (te:TE):TS:=fun D σ H=>te σ H D.rt
theorem Zr (he:PE X e te):PS X (.Return (some e) pos) (tRet te):=by
 intro pins s σ H D I h
 exact wpAny_Return_some (thn (he pins s σ H _ I h) fun v s1 ⟨x,H1,I1,r1,q1⟩=>⟨x,σ,H1,I1,r1,q1⟩)
noncomputable def tIfS (c:TT) (t u:TS):TS:=fun D σ H=>c σ H fun b H1=>if b=true then t D σ H1 else u D σ H1
theorem Xc {c:Expr} {a b:List Stmt} {tc:TT} (hc:PT X c tc) (ha:PSs X a t) (hb:PSs X b u):PS X (.If c a b pos) (tIfS tc t u):=by
 intro pins s σ H D I h
 refine wpAny_If (thn (hc pins s σ H _ I h) fun d s1 ⟨H1,I1,q1⟩=>?_)
 cases d with
 | true=>exact ha pins s1 σ H1 D I1 q1
 | false=>exact hb pins s1 σ H1 D I1 q1
noncomputable def tNever:TS:=fun _ _ _=>False
theorem Js:PS X st tNever:=fun _ _ _ _ _ _ h=>h.elim
end
noncomputable abbrev TG:=V→St→Hp→(St→Hp→Prop)→Prop
noncomputable abbrev TGs:=List V→St→Hp→(St→Hp→Prop)→Prop
noncomputable def PG (X:Cx) (target:Expr) (t:TG):Prop :=
 ∀ (pins:List (Addr×Obj)) (s:Shared) (σ:St) (H:Hp) (v:V) (u:Value) (Q:St→Hp→Prop),Inv X pins σ H s→RelV v u→t v σ H Q→
  wpAny (model X.prog X.w) X.A (assign target X.env u) (fun _ s'=>∃ σ' H',Inv X pins σ' H' s'∧Q σ' H') X.xe s
noncomputable def PGs (X:Cx) (ts:List Expr) (t:TGs):Prop :=
 ∀ (pins:List (Addr×Obj)) (s:Shared) (σ:St) (H:Hp) (vs:List V) (us:List Value) (Q:St→Hp→Prop),Inv X pins σ H s→Vals vs us→t vs σ H Q→
  wpAny (model X.prog X.w) X.A (assignInOrder ((assignEach ts X.env).map (·.2)) us) (fun _ s'=>∃ σ' H',Inv X pins σ' H' s'∧Q σ' H') X.xe s
section
variable {X:Cx} {pos:Pos}
noncomputable def gName (i:Nat):TG:=fun v σ H Q=>Q (σ.set i (some v)) H
theorem Xa {i:Nat} {x:Str} (hN:X.N.Nodup) (hi:X.N[i]?=some x) (hx:Loc X.env.scope x) (hf:X.fn x=true∨X.env.scope.names.lookup x=some .local:=by first | exact .inl rfl | exact .inr rfl | assumption):PG X (.Name x pos) (gName i):=by
 intro pins s σ H v u Q I r h
 exact wpAny_assign_Name (Zjb I hN hi hx r (fun s' I'=>⟨_,H,I',h⟩) hf)
noncomputable def gNil:TGs:=fun vs σ H Q=>vs=[]∧Q σ H
noncomputable def gCons (t:TG) (u:TGs):TGs:=fun vs σ H Q=>∃ v r,vs=v::r∧t v σ H fun σ' H'=>u r σ' H' Q
theorem Zef:PGs X [] gNil:=by
 intro pins s σ H vs us Q I r h
 obtain ⟨e,h⟩:=h
 subst e
 cases r
 exact assignInOrder_nil ⟨σ,H,I,h⟩
theorem Wt {e:Expr} {es:List Expr} {t:TG} {u:TGs} (h1:PG X e t) (h2:PGs X es u)
  (hs:(assignEach (e::es) X.env).map (·.2)=assign e X.env::(assignEach es X.env).map (·.2):=by rfl):PGs X (e::es) (gCons t u):=by
 intro pins s σ H vs us Q I r h
 obtain ⟨v,vr,e1,h⟩:=h
 subst e1
 cases r with
 | cons r rr =>
  rw [hs]
  refine assignInOrder_cons (thn (h1 pins s σ H _ _ _ I r h) fun _ s1 ⟨σ1,H1,I1,q1⟩=>?_)
  exact h2 pins s1 σ1 H1 _ _ Q I1 rr q1
noncomputable def gTup (K:PySem.W.Frag) (n:Nat) (t:TGs):TG:=fun v σ H Q=>∃ a xs,v = .ref a∧SqT K H a xs∧xs.length=n∧t xs σ H Q
theorem Xof {es:List Expr} {k:Nat} {t:TGs} {n:Nat} (hc:X.calm=true) (h:PGs X es t)
  (hn:(assignEach es X.env).length=n:=by rfl) (hst:(assignEach es X.env).findIdx? (·.1)=none:=by rfl):PG X (.Tuple es k pos) (gTup X.K n t):=by
 intro pins s σ H v u Q I r hw
 obtain ⟨a,xs,e1,hq,hl,hw⟩:=hw
 subst e1
 cases r
 obtain ⟨its,rv,ht,hz⟩:=I.tuple hq
 refine assign_Tuple_tuple (I.ok.hd hc) ht (by simp [hn,← hl,rv.length]) hst fun h' hx=>?_
 have I1:Inv X pins σ H {s with heap:=h'}:=I.kept (t':=s.toks) fun b o e=>hx b o (Nat.ne_of_lt (Heap.lt_size e)) e
 exact h pins _ σ H xs _ Q I1 (by simpa using rv) hw
noncomputable def tAsg (te:TE) (g:TG):TS:=fun D σ H=>te σ H fun x H1=>g x σ H1 D.nx
theorem Xbg {tg e:Expr} {te:TE} {g:TG} (he:PE X e te) (hg:PG X tg g) (hs:swapsWithSole [tg] e pos.line X.env=pure false:=by rfl) (hw:swappedStores [tg] e X.env=pure none:=by rfl)
  (h1:(assignEach [tg] X.env).map (·.2)=[assign tg X.env]:=by rfl):PS X (.Assign [tg] e pos) (tAsg te g):=by
 intro pins s σ H D I h
 refine wpAny_Assign_stores (thn (he pins s σ H _ I h) fun v s1 ⟨x,H1,I1,r1,q1⟩=>?_) hs hw
 rw [h1]
 exact thn (hg pins s1 σ H1 x v _ I1 r1 q1) fun _ s2 q=>q
theorem Zi {i:Nat} {x:Str} {e:Expr} {te:TE} {pos':Pos} (hN:X.N.Nodup) (hi:X.N[i]?=some x) (hx:Loc X.env.scope x) (he:PE X e te) (hs:swapsWith e (some (.Name x pos')) pos.line X.env=pure false:=by rfl) (hf:X.fn x=true∨X.env.scope.names.lookup x=some .local:=by first | exact .inl rfl | exact .inr rfl | assumption) :
  PS X (.Assign [.Name x pos'] e pos) (tAsg te (gName i)):=by
 intro pins s σ H D I h
 refine wpAny_Assign_Name (thn (he pins s σ H _ I h) fun v s1 ⟨y,H1,I1,r1,q1⟩=>?_) hs
 exact Zjb I1 hN hi hx r1 (fun s2 I2=>⟨_,H1,I2,q1⟩) hf
end
section
variable {X:Cx} {pos:Pos}
noncomputable def tWhile (c:TT) (tb:TS):TS:=fun D σ H=>∃ W:Nat→St→Hp→Prop,(∃ m,W m σ H)∧∀ m σ H,W m σ H→
 c σ H fun b H1=>if b=true then ∃ N:St→Hp→Prop,(∀ σ' H',N σ' H'→∃ m',m'<m∧W m' σ' H')∧tb {D with nx:=N,ct:=N,bk:=D.nx} σ H1 else D.nx σ H1
theorem Ws {c:Expr} {body:List Stmt} {tc:TT} {tb:TS} (hp:PassesOwn (model X.prog X.w) X.A X.env X.xe) (hc:PT X c tc) (hb:PSs X body tb):PS X (.While c body [] pos) (tWhile tc tb):=by
 intro pins s σ H D I h
 obtain ⟨W,⟨m0,w0⟩,turn⟩:=h
 refine wpAny_While (codeAny_whileLoop (fun n s'=>∃ σ' H',Inv X pins σ' H' s'∧W n σ' H') ?_ m0 ⟨σ,H,I,w0⟩)
 rintro n s1 ⟨σ1,H1,I1,w1⟩
 refine wpAny_passesOwn hp (thn (hc pins s1 σ1 H1 _ I1 (turn n σ1 H1 w1)) fun b s2 ⟨H2,I2,q2⟩=>?_)
 cases b with
 | true =>
  obtain ⟨N,hN,q2⟩:=q2
  rw [if_pos rfl]
  refine wpAny_passesOwn hp (thn (hb pins s2 σ1 H2 _ I2 q2) fun f s3 q3=>?_)
  cases f with
  | next =>
   obtain ⟨σ3,H3,I3,n3⟩:=q3
   obtain ⟨m',hm,w3⟩:=hN σ3 H3 n3
   exact ⟨m',hm,σ3,H3,I3,w3⟩
  | cont =>
   obtain ⟨σ3,H3,I3,n3⟩:=q3
   obtain ⟨m',hm,w3⟩:=hN σ3 H3 n3
   exact ⟨m',hm,σ3,H3,I3,w3⟩
  | brk=>exact q3
  | ret v=>exact q3
 | false =>
  rw [if_neg Bool.false_ne_true]
  exact wpAny_execs_nil ⟨σ1,H2,I2,q2⟩
end
structure It where
 go:Nat→Hp→Prop
 yld:Nat→Hp→V→Hp→Prop
 stop:Nat→Hp→Prop
noncomputable def FpOk (X:Cx) (pins:List (Addr×Obj)) (H:Hp) (b:Addr):Prop :=
 H b=none∧b≠X.env.locals∧b∉X.fs∧(b∈X.ex∨X.s₀.heap.objs.size≤b)∧(∀ x c,X.env.cells.lookup x=some c→c≠b)∧∀ p∈X.pn++pins,p.1≠b
theorem Inv.fpOk {X:Cx} {pins:List (Addr×Obj)} {σ:St} {H H':Hp} {s:Shared} {b:Addr} (I:Inv X pins σ H s) (hb:s.heap.objs.size≤b) (hn:H' b=none):FpOk X pins H' b:=by
 refine ⟨hn,Nat.ne_of_gt (Nat.lt_of_lt_of_le I.lt hb),I.nofs hb,.inr (Nat.le_trans I.sz hb),fun x c e z=>?_,fun p hp z=>?_⟩
 ·obtain ⟨v,q⟩:=I.cell x c e
  exact absurd (Nat.lt_of_lt_of_le q.lt (by rw [z];exact hb)) (Nat.lt_irrefl _)
 ·exact absurd (Nat.lt_of_lt_of_le (Heap.lt_size (I.pin p hp).1) (by rw [z];exact hb)) (Nat.lt_irrefl _)
structure Turn (P:Program) (w:World) (K:PySem.W.Frag) (tg:Expr) (J:It) (fp:List Addr) (it:Addr) (tn:Nat→Heap→Prop):Prop where
 mem:it∈fp
 obj:∀ i h,tn i h→∀ b∈fp,∃ o,h.get? b=some o∧∀ v,o.data≠.cell v
 keep:∀ i h h',tn i h→(∀ b∈fp,∀ o,h.get? b=some o→h'.get? b=some o)→tn i h'
 item:∀ (X:Cx),X.prog=P→X.w=w→X.K=K→X.calm=true→∀ (i:Nat) (pins:List (Addr×Obj)) (s:Shared) (σ:St) (H:Hp) (E:Value→Shared→Prop),Inv X pins σ H s→(∀ b∈fp,FpOk X pins H b)→tn i s.heap→J.go i H→
  wpAny (model P w) X.A (pyNext (.ref it)) (fun r s1=>∃ u,r=some u∧
   wpAny (model P w) X.A (letOwnedTupleGo tg (.ref it) u) (fun _ s2=>∃ x H',Inv X pins σ H' s2∧RelV x u∧J.yld i H x H'∧tn (i+1) s2.heap∧∀ b∈fp,H' b=none) E s1) E s
 done:∀ (X:Cx),X.prog=P→X.w=w→X.K=K→X.calm=true→∀ (i:Nat) (pins:List (Addr×Obj)) (s:Shared) (σ:St) (H:Hp) (E:Value→Shared→Prop),Inv X pins σ H s→(∀ b∈fp,FpOk X pins H b)→tn i s.heap→J.stop i H→
  wpAny (model P w) X.A (pyNext (.ref it)) (fun r s1=>r=none∧Inv X pins σ H s1) E s
 self:∀ (A:Around) (i:Nat) (s:Shared) (Q:Value→Shared→Prop) (E:Value→Shared→Prop),tn i s.heap→Q (.ref it) s→wpAny (model P w) A (pyIter (.ref it)) Q E s
noncomputable abbrev TI:=St→Hp→(It→Hp→Prop)→Prop
noncomputable def PIE (X:Cx) (pins:List (Addr×Obj)) (σ:St) (tg:Expr) (R:It→Hp→Prop) (itv:Value) (s2:Shared):Prop :=
 ∃ (it:Addr) (fp:List Addr) (tn:Nat→Heap→Prop) (J:It) (H':Hp),itv = .ref it∧Inv X pins σ H' s2∧Turn X.prog X.w X.K tg J fp it tn∧tn 0 s2.heap∧(∀ b∈fp,FpOk X pins H' b)∧R J H'
noncomputable def PI (X:Cx) (tg iter:Expr) (wi:TI):Prop :=
 ∀ (pins:List (Addr×Obj)) (s:Shared) (σ:St) (H:Hp) (R:It→Hp→Prop),Inv X pins σ H s→wi σ H R→
  wpAny (model X.prog X.w) X.A (eval iter X.env) (fun v s1=>wpAny (model X.prog X.w) X.A (pyIter v) (PIE X pins σ tg R) X.xe s1) X.xe s
theorem Xgc {M:Model} {A:Around} {E:Value→Shared→Prop} {s:Shared} {tg:Expr} {it:Addr} {u:Value} {o:Obj} {n:String} {vs:Array Value} {Q:Unit→Shared→Prop} (ho:s.heap.get? it=some o) (hc:o.cls = .type n) (hd:o.data = .fields vs)
    (hn:["enumerate","zip","dict_itemiterator","dict_reverseitemiterator","odict_iterator","itertools.zip_longest","itertools.pairwise"].contains n=false) (hQ:Q () s):wpAny M A (letOwnedTupleGo tg (.ref it) u) Q E s:=by
  unfold letOwnedTupleGo
  cases tg<;>first
    | exact wpAny_pure hQ
    | (cases u<;>first
        | exact wpAny_pure hQ
        | (refine wpAny_bind (wpAny_load ho ?_)
           rw [hc,hd]
           show wpAny M A (if (["enumerate","zip","dict_itemiterator","dict_reverseitemiterator","odict_iterator","itertools.zip_longest","itertools.pairwise"].contains n&&vs[0]? == some (rawInt _))=true then _ else _) Q E s
           rw [if_neg (by intro h;rw [hn,Bool.false_and] at h;cases h)]
           exact wpAny_pure hQ))
noncomputable def Itl (K:PySem.W.Frag) (a:Addr):It :=
 ⟨fun i H=>∃ xs x,SqL K H a xs∧xs[i]?=some x,fun i H x H'=>H'=H∧∀ xs,SqL K H a xs→xs[i]?=some x,fun i H=>∃ xs,SqL K H a xs∧xs.length≤i⟩
noncomputable def Itr (lo:Int) (n:Nat):It:=⟨fun i _=>i<n,fun i H x H'=>H'=H∧x = .int (lo+i),fun i _=>n≤i⟩
theorem Xhd {P:Program} {w:World} {K:PySem.W.Frag} {tg:Expr} (a it:Addr):Turn P w K tg (Itl K a) [it] it (fun i h=>h.IsListIter it a i) where
 mem:=by simp
 obj:=fun i h st b hb=>by
  have e:b=it:=by simpa using hb
  subst e
  obtain ⟨o,e,c,d⟩:=st
  exact ⟨o,e,fun v z=>by rw [d] at z;cases z⟩
 keep:=fun i h h' st k=>st.at fun o e=>k it (by simp) o e
 item:=by
  intro X hP hw hK hc i pins s σ H E I hf st hg
  subst hP hw hK
  obtain ⟨xs,x,hq,hx⟩:=hg
  obtain ⟨its,rv,p,hz⟩:=I.list hq
  obtain ⟨u,hu,ru⟩:=rv.get hx
  obtain ⟨f0,f1,f2,f3,f4,f5⟩:=hf it (by simp)
  refine wpAny_pyNext_list_item st p.isList (x:=u) (by simpa using hu) fun h' st' sb=>?_
  have I1:Inv X pins σ H {s with heap:=h'}:=I.turned (t':=s.toks) (fun b o hb e=>(sb.2 b hb).trans e) f0 f1 f3 f4 f5
  obtain ⟨o,e,c,d⟩:=id st'
  exact ⟨u,rfl,Xgc (s:={s with heap:=h'}) e c d (by decide) ⟨x,H,I1,ru,⟨rfl,fun ys hy=>by rw [I.list_inj hy hq];exact hx⟩,st',fun b hb=>(hf b hb).1⟩⟩
 done:=by
  intro X hP hw hK hc i pins s σ H E I hf st hg
  subst hP hw hK
  obtain ⟨xs,hq,hx⟩:=hg
  obtain ⟨its,rv,p,hz⟩:=I.list hq
  obtain ⟨f0,f1,f2,f3,f4,f5⟩:=hf it (by simp)
  have hl:=rv.length
  exact wpAny_pyNext_list_end (I.ok.hd hc) st p.isList (by simp;omega) fun h' eb=>⟨rfl,I.turned (t':=s.toks) (fun b o hb e=>eb b o hb e) f0 f1 f3 f4 f5⟩
 self:=fun _ _ _ _ _ st h=>wpAny_pyIter_listiter st h
theorem Xaf {P:Program} {w:World} {K:PySem.W.Frag} {tg:Expr} (it:Addr) (lo:Int) (n:Nat):Turn P w K tg (Itr lo n) [it] it (fun i h=>IsRangeIter h it (lo+(i:Nat)*1) ((n:Int) - (i:Nat)) 1) where
 mem:=by simp
 obj:=fun i h st b hb=>by
  have e:b=it:=by simpa using hb
  subst e
  exact ⟨_,st,fun v z=>by
   have z':Data.fields _=Data.cell v:=z
   cases z'⟩
 keep:=fun i h h' st k=>k it (by simp) _ st
 item:=by
  intro X hP hw hK hc i pins s σ H E I hf st hg
  subst hP hw hK
  obtain ⟨f0,f1,f2,f3,f4,f5⟩:=hf it (by simp)
  have W:=Walks.range (prog:=X.prog) (w:=X.w) (I.ok.hd hc) it lo 1 n
  refine W.item i s _ _ hg st fun v h' tk hv st' kk=>?_
  obtain ⟨t,rfl⟩:=hv
  have I1:Inv X pins σ H {s with heap:=h',toks:=tk}:=I.turned (fun b o hb e=>kk b o (by simpa using hb) e) f0 f1 f3 f4 f5
  refine ⟨_,rfl,Xgc (s:={s with heap:=h',toks:=tk}) (n:="range_iterator") st' rfl rfl (by decide) ⟨.int (lo+i),H,I1,⟨t,?_⟩,⟨rfl,rfl⟩,st',fun b hb=>(hf b hb).1⟩⟩
  rw [Int.mul_one]
 done:=by
  intro X hP hw hK hc i pins s σ H E I hf st hg
  subst hP hw hK
  obtain ⟨f0,f1,f2,f3,f4,f5⟩:=hf it (by simp)
  exact wpAny_pyNext_range_end (I.ok.hd hc) st (by have:n≤i:=hg;omega) fun h' eb=>⟨rfl,I.turned (t':=s.toks) (fun b o hb e=>eb b o hb e) f0 f1 f3 f4 f5⟩
 self:=fun _ _ _ _ _ st h=>wpAny_pyIter_rangeiter st h
end L2
namespace L2
open PySem PySem.Spec PyProof.Rows
section
variable {X:Cx} {tg:Expr}
noncomputable def iList (K:PySem.W.Frag) (tl:TE):TI:=fun σ H R=>tl σ H fun x H1=>∃ a,x = .ref a∧(∃ xs,SqL K H1 a xs)∧R (Itl K a) H1
theorem Xti {l:Expr} {tl:TE} (hl:PE X l tl):PI X tg l (iList X.K tl):=by
 intro pins s σ H R I h
 refine thn (hl pins s σ H _ I h) fun v s1 ⟨x,H1,I1,r1,q1⟩=>?_
 obtain ⟨a,e,⟨xs,hq⟩,q⟩:=q1
 subst e
 cases r1
 obtain ⟨its,rv,p,hz⟩:=I1.list hq
 refine wpAny_pyIter_list p.isList ?_
 refine ⟨s1.heap.objs.size,[s1.heap.objs.size],_,_,H1,rfl,I1.kept (t':=s1.toks) fun b o e=>Heap.get?_push_of_some _ e,Xhd a _,⟨_,Heap.get?_push_size _ rfl,rfl,rfl⟩,fun b hb=>?_,q⟩
 have e:b=s1.heap.objs.size:=by simpa using hb
 subst e
 exact I1.fpOk (Nat.le_refl _) (I1.hok.fresh (Nat.le_refl _))
theorem Xoa {pins:List (Addr×Obj)} {σ:St} {H:Hp} {s:Shared} {R:It→Hp→Prop} {E:Value→Shared→Prop} {lo hi:Int} {t u v:Tok} {tk:Nat} (I:Inv X pins σ H s) (h1 : -(2 ^ 62)≤lo) (h2:lo<2 ^ 62) (h3 : -(2 ^ 62)≤hi) (h4:hi<2 ^ 62)
  (q:R (Itr lo (hi - lo).toNat) H):wpAny (model X.prog X.w) X.A (pyIter (.ref s.heap.objs.size)) (PIE X pins σ tg R) E {s with heap:=s.heap.push {cls := .type "range",data := .fields #[.int lo t,.int hi u,.int 1 v]},toks:=tk}:=by
 refine wpAny_pyIter_range (IsRange.new ..) (small_one h1 h2 h3 h4) ?_
 have I1:Inv X pins σ H {s with heap:=s.heap.push {cls := .type "range",data := .fields #[.int lo t,.int hi u,.int 1 v]},toks:=tk}:=I.kept fun b o e=>Heap.get?_push_of_some _ e
 refine ⟨(s.heap.push {cls := .type "range",data := .fields #[.int lo t,.int hi u,.int 1 v]}).objs.size,[(s.heap.push {cls := .type "range",data := .fields #[.int lo t,.int hi u,.int 1 v]}).objs.size],_,_,H,rfl,
  I1.kept (t':=tk) fun b o e=>Heap.get?_push_of_some _ e,Xaf _ lo (hi - lo).toNat,?_,fun b hb=>?_,q⟩
 ·have e1:lo+((0:Nat):Int)*1=lo:=by simp
  have e2:(((hi - lo).toNat:Nat):Int) - ((0:Nat):Int)=Builtin.Range.rangeSize lo hi 1:=by rw [rangeSize_one];split<;>omega
  show IsRangeIter _ _ (lo+((0:Nat):Int)*1) ((((hi - lo).toNat:Nat):Int) - ((0:Nat):Int)) 1
  rw [e1,e2]
  exact Heap.get?_push_size _ rfl
 ·have e:b=(s.heap.push {cls := .type "range",data := .fields #[.int lo t,.int hi u,.int 1 v]}).objs.size:=by simpa using hb
  subst e
  exact I1.fpOk (Nat.le_refl _) (I1.hok.fresh (Nat.le_refl _))
noncomputable def iRng1 (ta:TA):TI:=fun σ H R=>ta σ H fun vs H1=>∃ j:Int,vs=[.int j]∧-(2 ^ 62)≤j∧j<2 ^ 62∧R (Itr 0 j.toNat) H1
theorem Wa {a:Expr} {ta:TA} {p pos:Pos} (hg:Gl X "range") (hm:X.mg "range"=none) (ha:PA X [a] ta) (hs:starEach [a] X.env=[(false,eval a X.env)]:=by rfl):PI X tg (.Call (.Name "range" p) [a] [] pos) (iRng1 ta):=by
 intro pins s σ H R I h
 refine Call_ (Qv I hg hm boot_range (PyProof.Rows.callWith_type1 (thn (ha pos pins s σ H _ I h) fun us s1 ⟨vs,H1,I1,r1,q1⟩=>?_) hs rfl))
 obtain ⟨j,e,q1,q2,q⟩:=q1
 subst e
 cases r1 with
 | cons r rr =>
  cases rr
  obtain ⟨t,rfl⟩:=r
  exact call_range_1 (Xoa I1 (by omega) (by omega) q1 q2 (by simpa using q))
noncomputable def tFor (wi:TI) (g:TG) (tb:TS):TS:=fun D σ H=>wi σ H fun J H1=>∃ W:Nat→Nat→St→Hp→Prop,(∃ m,W 0 m σ H1)∧∀ i m σ H,W i m σ H→
 (J.stop i H∧D.nx σ H)∨(J.go i H∧∃ N:St→Hp→Prop,(∀ σ' H',N σ' H'→∃ m',m'<m∧W (i+1) m' σ' H')∧∀ x H',J.yld i H x H'→g x σ H' fun σ2 H2=>tb {D with nx:=N,ct:=N,bk:=D.nx} σ2 H2)
noncomputable def pinsAt (fp:List Addr) (h:Heap):List (Addr×Obj):=fp.filterMap fun b=>(h.get? b).map fun o=>(b,o)
theorem Qt {fp:List Addr} {h:Heap} {b:Addr} {o:Obj} (hb:b∈fp) (e:h.get? b=some o):(b,o)∈pinsAt fp h:=List.mem_filterMap.mpr ⟨b,hb,by rw [e];rfl⟩
theorem Xjh {fp:List Addr} {h:Heap} {p:Addr×Obj} (hp:p∈pinsAt fp h):p.1∈fp∧h.get? p.1=some p.2:=by
 obtain ⟨b,hb,e⟩:=List.mem_filterMap.mp hp
 cases q:h.get? b with
 | none=>rw [q] at e;cases e
 | some o =>
  rw [q] at e
  have e':(b,o)=p:=Option.some.inj e
  subst e'
  exact ⟨hb,q⟩
theorem Inv.pinned {pins:List (Addr×Obj)} {σ:St} {H:Hp} {s:Shared} {fp:List Addr} (I:Inv X pins σ H s) (hf:∀ b∈fp,FpOk X pins H b) (ho:∀ b∈fp,∃ o,s.heap.get? b=some o∧∀ v,o.data≠.cell v):Inv X (pins++pinsAt fp s.heap) σ H s :=
 I.pins_of fun p hp=>(List.mem_append.mp hp).elim (fun z=>I.pin p (List.mem_append_right _ z)) fun z=>by
  obtain ⟨hb,e⟩:=Xjh z
  obtain ⟨f0,f1,f2,_⟩:=hf p.1 hb
  obtain ⟨o,e',d⟩:=ho p.1 hb
  rw [e] at e';cases e'
  exact ⟨e,f0,f1,f2,d⟩
theorem Inv.unpinned {pins pl:List (Addr×Obj)} {σ:St} {H:Hp} {s:Shared} (I:Inv X (pins++pl) σ H s):Inv X pins σ H s:=I.pins_of fun p hp=>I.pin p (List.mem_append_right _ (List.mem_append_left _ hp))
theorem Qc {iter:Expr} {body:List Stmt} {wi:TI} {g:TG} {tb:TS} {pos:Pos} (hp:PassesOwn (model X.prog X.w) X.A X.env X.xe) (hc:X.calm=true) (hi:PI X tg iter wi) (hg:PG X tg g) (hb:PSs X body tb)
  (hs:∀ x,foldedSetIterable iter X.env x=pure x:=by intro _;rfl):PS X (.For tg iter body [] pos) (tFor wi g tb):=by
 intro pins s σ H D I h
 refine wpAny_For (thn (hi pins s σ H _ I h) fun v s1 h1=>thn h1 fun itv s2 h2=>?_) hs
 obtain ⟨it,fp,tn,J,H2,e,I2,T,st2,f2,W,⟨m0,w0⟩,turn⟩:=h2
 subst e
 have stat:∀ {H':Hp},(∀ b∈fp,H' b=none)→∀ b∈fp,FpOk X pins H' b:=fun hn b hb=>⟨hn b hb,(f2 b hb).2⟩
 refine codeAny_forLoop_any (fun n s'=>∃ i σ' H',Inv X pins σ' H' s'∧tn i s'.heap∧(∀ b∈fp,H' b=none)∧W i n σ' H') ?_ m0 ⟨0,σ,H2,I2,st2,fun b hb=>(f2 b hb).1,w0⟩
 rintro n s3 ⟨i,σ3,H3,I3,st3,fr3,w3⟩
 rcases turn i n σ3 H3 w3 with ⟨stop,qn⟩ | ⟨go,N,hN,step⟩
 ·refine wpAny_passesOwn hp (thn (T.done X rfl rfl rfl hc i pins s3 σ3 H3 X.xe I3 (stat fr3) st3 stop) fun r s4 ⟨hr,I4⟩=>?_)
  subst hr
  exact wpAny_execs_nil ⟨σ3,H3,I4,qn⟩
 ·refine wpAny_passesOwn hp (thn (T.item X rfl rfl rfl hc i pins s3 σ3 H3 X.xe I3 (stat fr3) st3 go) fun r s4 ⟨u,hr,h4⟩=>?_)
  subst hr
  refine wpAny_passesOwn hp (thn h4 fun _ s5 ⟨x,H5,I5,r5,y5,st5,fr5⟩=>?_)
  have I5':=I5.pinned (stat fr5) (T.obj _ _ st5)
  refine wpAny_passesOwn hp (thn (hg _ s5 σ3 H5 x u _ I5' r5 (step x H5 y5)) fun _ s6 ⟨σ6,H6,I6,q6⟩=>?_)
  refine wpAny_passesOwn hp (thn (hb _ s6 σ6 H6 _ I6 q6) fun f s7 q7=>?_)
  have again:∀ {σ7:St} {H7:Hp},Inv X (pins++pinsAt fp s5.heap) σ7 H7 s7→N σ7 H7→∃ m,m<n∧∃ i σ' H',Inv X pins σ' H' s7∧tn i s7.heap∧(∀ b∈fp,H' b=none)∧W i m σ' H':=fun {σ7 H7} I7 n7=>by
   obtain ⟨m',hm,w7⟩:=hN σ7 H7 n7
   refine ⟨m',hm,i+1,σ7,H7,I7.unpinned,T.keep _ _ _ st5 fun b hb o e=>(I7.pin (b,o) (List.mem_append_right _ (List.mem_append_right _ (Qt hb e)))).1,fun b hb=>?_,w7⟩
   obtain ⟨o,e,d⟩:=T.obj _ _ st5 b hb
   exact (I7.pin (b,o) (List.mem_append_right _ (List.mem_append_right _ (Qt hb e)))).2.1
  cases f with
  | next=>obtain ⟨σ7,H7,I7,n7⟩:=q7;exact again I7 n7
  | cont=>obtain ⟨σ7,H7,I7,n7⟩:=q7;exact again I7 n7
  | brk=>obtain ⟨σ7,H7,I7,q7⟩:=q7;exact ⟨σ7,H7,I7.unpinned,q7⟩
  | ret v=>obtain ⟨x7,σ7,H7,I7,r7,q7⟩:=q7;exact ⟨x7,σ7,H7,I7.unpinned,r7,q7⟩
end
theorem Xqh {K:PySem.W.Frag} {a:Addr} {xs:List V} {g:TG} {tb:TS} {D:Ends} {σ:St} {H:Hp} (Pv:Nat→St→Hp→Prop) (h0:Pv 0 σ H) (hl:∀ i σ H,i≤xs.length→Pv i σ H→SqL K H a xs)
  (hs:∀ i x σ H,xs[i]?=some x→Pv i σ H→g x σ H fun σ2 H2=>tb {D with nx:=Pv (i+1),ct:=Pv (i+1),bk:=D.nx} σ2 H2) (hd:∀ σ H,Pv xs.length σ H→D.nx σ H) :
  ∃ W:Nat→Nat→St→Hp→Prop,(∃ m,W 0 m σ H)∧∀ i m σ H,W i m σ H→
   ((Itl K a).stop i H∧D.nx σ H)∨((Itl K a).go i H∧∃ N:St→Hp→Prop,(∀ σ' H',N σ' H'→∃ m',m'<m∧W (i+1) m' σ' H')∧∀ x H',(Itl K a).yld i H x H'→g x σ H' fun σ2 H2=>tb {D with nx:=N,ct:=N,bk:=D.nx} σ2 H2):=by
 refine ⟨fun i m σ H=>m=xs.length - i∧i≤xs.length∧Pv i σ H,⟨xs.length,by simp,Nat.zero_le _,h0⟩,?_⟩
 rintro i m σ H ⟨rfl,hi,p⟩
 have q:=hl i σ H hi p
 by_cases hlt:i<xs.length
 ·refine .inr ⟨⟨xs,xs[i],q,by simp [hlt]⟩,Pv (i+1),fun σ' H' p'=>⟨xs.length - (i+1),by omega,rfl,hlt,p'⟩,fun x H' y=>?_⟩
  obtain ⟨e,y⟩:=y
  subst e
  exact hs i x σ _ (y xs q) p
 ·have e:i=xs.length:=by omega
  subst e
  exact .inl ⟨⟨xs,q,Nat.le_refl _⟩,hd σ H p⟩
theorem Wb {lo:Int} {n:Nat} {g:TG} {tb:TS} {D:Ends} {σ:St} {H:Hp} (Pv:Nat→St→Hp→Prop) (h0:Pv 0 σ H)
  (hs:∀ i σ H,i<n→Pv i σ H→g (.int (lo+i)) σ H fun σ2 H2=>tb {D with nx:=Pv (i+1),ct:=Pv (i+1),bk:=D.nx} σ2 H2) (hd:∀ σ H,Pv n σ H→D.nx σ H) :
  ∃ W:Nat→Nat→St→Hp→Prop,(∃ m,W 0 m σ H)∧∀ i m σ H,W i m σ H→
   ((Itr lo n).stop i H∧D.nx σ H)∨((Itr lo n).go i H∧∃ N:St→Hp→Prop,(∀ σ' H',N σ' H'→∃ m',m'<m∧W (i+1) m' σ' H')∧∀ x H',(Itr lo n).yld i H x H'→g x σ H' fun σ2 H2=>tb {D with nx:=N,ct:=N,bk:=D.nx} σ2 H2):=by
 refine ⟨fun i m σ H=>m=n - i∧i≤n∧Pv i σ H,⟨n,by simp,Nat.zero_le _,h0⟩,?_⟩
 rintro i m σ H ⟨rfl,hi,p⟩
 by_cases hlt:i<n
 ·refine .inr ⟨hlt,Pv (i+1),fun σ' H' p'=>⟨n - (i+1),by omega,rfl,hlt,p'⟩,fun x H' y=>?_⟩
  obtain ⟨e,y⟩:=y
  subst e y
  exact hs i σ _ hlt p
 ·have e:i=n:=by omega
  subst e
  exact .inl ⟨Nat.le_refl _,hd σ H p⟩
end L2
namespace L2
open PySem PySem.Spec PyProof.Rows
noncomputable abbrev R2:=V→V→Hp→VK→Prop
noncomputable def OpR (X:Cx) (f:Value→Value→Sem Value) (r:R2):Prop :=
 ∀ (pins:List (Addr×Obj)) (s:Shared) (σ:St) (H:Hp) (x y:V) (v u:Value) (Q:VK),Inv X pins σ H s→RelV x v→RelV y u→r x y H Q→
  wpAny (model X.prog X.w) X.A (f v u) (EP X pins σ Q) X.xe s
noncomputable def UnR (X:Cx) (f:Value→Sem Value) (r:V→Hp→VK→Prop):Prop :=
 ∀ (pins:List (Addr×Obj)) (s:Shared) (σ:St) (H:Hp) (x:V) (v:Value) (Q:VK),Inv X pins σ H s→RelV x v→r x H Q→
  wpAny (model X.prog X.w) X.A (f v) (EP X pins σ Q) X.xe s
noncomputable def CallR (X:Cx) (f:Value) (r:List V→Hp→VK→Prop):Prop :=
 ∀ (pins:List (Addr×Obj)) (s:Shared) (σ:St) (H:Hp) (xs:List V) (us:List Value) (Q:VK),Inv X pins σ H s→Vals xs us→r xs H Q→
  wpAny (model X.prog X.w) X.A (call f us) (EP X pins σ Q) X.xe s
noncomputable def TruR (X:Cx) (r:V→Hp→(Bool→Hp→Prop)→Prop):Prop :=
 ∀ (pins:List (Addr×Obj)) (s:Shared) (σ:St) (H:Hp) (x:V) (v:Value) (Q:Bool→Hp→Prop),Inv X pins σ H s→RelV x v→r x H Q→
  wpAny (model X.prog X.w) X.A (truthy v) (TP X pins σ Q) X.xe s
noncomputable def tOp (r:R2) (ta tb:TE):TE:=fun σ H Q=>ta σ H fun x H1=>tb σ H1 fun y H2=>r x y H2 Q
noncomputable def tUn (r:V→Hp→VK→Prop) (ta:TE):TE:=fun σ H Q=>ta σ H fun x H1=>r x H1 Q
noncomputable def rI (C:Int→Int→Prop) (g:Int→Int→V):R2:=fun x y H Q=>∃ i j,x = .int i∧y = .int j∧C i j∧Q (g i j) H
noncomputable def rI0 (g:Int→Int→V):R2:=fun x y H Q=>∃ i j,x = .int i∧y = .int j∧Q (g i j) H
noncomputable def rU (g:Int→V):V→Hp→VK→Prop:=fun x H Q=>∃ i,x = .int i∧Q (g i) H
section
variable {X:Cx} {a b c:Expr} {ta tb tc:TE} {pos:Pos}
theorem binT (ha:PE X a ta) (hb:PE X b tb) {pins:List (Addr×Obj)} {s:Shared} {σ:St} {H:Hp} {R:V→V→Hp→Prop} (I:Inv X pins σ H s)
  (h:ta σ H fun x H1=>tb σ H1 fun y H2=>R x y H2) {Q:Value→Shared→Prop} {f:Value→Value→Sem Value}
  (hf:∀ v u s2 x y H2,Inv X pins σ H2 s2→RelV x v→RelV y u→R x y H2→wpAny (model X.prog X.w) X.A (f v u) Q X.xe s2) :
  wpAny (model X.prog X.w) X.A (eval a X.env) (fun v s₁=>wpAny (model X.prog X.w) X.A (eval b X.env) (fun u s₂=>wpAny (model X.prog X.w) X.A (f v u) Q X.xe s₂) X.xe s₁) X.xe s:=by
 refine thn (ha pins s σ H _ I h) fun v s1 ⟨x,H1,I1,r1,q1⟩=>?_
 refine thn (hb pins s1 σ H1 _ I1 q1) fun u s2 ⟨y,H2,I2,r2,q2⟩=>?_
 exact hf v u s2 x y H2 I2 r1 r2 q2
theorem Zj {op:Operator} {r:R2} (ho:OpR X (binaryOp op) r) (ha:PE X a ta) (hb:PE X b tb):PE X (.BinOp a op b pos) (tOp r ta tb):=by
 intro pins s σ H Q I h
 exact wpAny_BinOp (binT ha hb I h fun v u s2 x y H2 I2 rx ry q=>ho pins s2 σ H2 x y v u Q I2 rx ry q)
theorem Zpf {op:UnaryOp} {r:V→Hp→VK→Prop} (ho:UnR X (unaryOp op) r) (ha:PE X a ta):PE X (.UnaryOp op a pos) (tUn r ta):=by
 intro pins s σ H Q I h
 exact UnaryOp_ (thn (ha pins s σ H _ I h) fun v s1 ⟨x,H1,I1,r1,q1⟩=>ho pins s1 σ H1 x v Q I1 r1 q1)
theorem opI {f:Value→Value→Sem Value} {C:Int→Int→Prop} {g:Int→Int→Int}
  (rule:∀ (i j:Int) (t u:Tok) (s:Shared) (Q:Value→Shared→Prop) (E:Value→Shared→Prop),C i j→Q (.int (g i j) s.toks) {s with toks:=s.toks+1}→wpAny (model X.prog X.w) X.A (f (.int i t) (.int j u)) Q E s) :
  OpR X f (rI C fun i j => .int (g i j)):=by
 intro pins s σ H x y v u Q I rx ry h
 obtain ⟨i,j,rfl,rfl,hc,q⟩:=h
 obtain ⟨t,rfl⟩:=rx
 obtain ⟨t',rfl⟩:=ry
 exact rule i j t t' s _ _ hc ⟨.int (g i j),H,I.tok _,⟨_,rfl⟩,q⟩
theorem opI0 {f:Value→Value→Sem Value} {g:Int→Int→Int}
  (rule:∀ (i j:Int) (t u:Tok) (s:Shared) (Q:Value→Shared→Prop) (E:Value→Shared→Prop),Q (.int (g i j) s.toks) {s with toks:=s.toks+1}→wpAny (model X.prog X.w) X.A (f (.int i t) (.int j u)) Q E s) :
  OpR X f (rI0 fun i j => .int (g i j)):=by
 intro pins s σ H x y v u Q I rx ry h
 obtain ⟨i,j,rfl,rfl,q⟩:=h
 obtain ⟨t,rfl⟩:=rx
 obtain ⟨t',rfl⟩:=ry
 exact rule i j t t' s _ _ ⟨.int (g i j),H,I.tok _,⟨_,rfl⟩,q⟩
theorem opB0 {f:Value→Value→Sem Value} {g:Int→Int→Bool}
  (rule:∀ (i j:Int) (t u:Tok) (s:Shared) (Q:Value→Shared→Prop) (E:Value→Shared→Prop),Q (.bool (g i j)) s→wpAny (model X.prog X.w) X.A (f (.int i t) (.int j u)) Q E s) :
  OpR X f (rI0 fun i j => .bl (g i j)):=by
 intro pins s σ H x y v u Q I rx ry h
 obtain ⟨i,j,rfl,rfl,q⟩:=h
 obtain ⟨t,rfl⟩:=rx
 obtain ⟨t',rfl⟩:=ry
 exact rule i j t t' s _ _ ⟨.bl (g i j),H,I,rfl,q⟩
noncomputable def CDiv (i j:Int):Prop:=0<j∧j<1073741824
noncomputable def CPow (i j:Int):Prop:=0≤j∧j≤1000000∧i.natAbs<2 ^ 64
noncomputable def CMul (i j:Int):Prop:=(-(2 ^ 64)<i∧i<2 ^ 64)∨(-(2 ^ 64)<j∧j<2 ^ 64)
theorem CMul.ok {i j:Int} (h:CMul i j):IntMulOk i j:=by
 rcases h with ⟨h1,h2⟩ | ⟨h1,h2⟩
 ·exact .of_left (intBits_le_64 h1 h2)
 ·exact .of_right (intBits_le_64 h1 h2)
theorem Xae (k:Nat):(0:Int)≤2 ^ k:=by
 rw [two_pow_cast]
 exact Int.natCast_nonneg _
theorem Xyh:OpR X (binaryOp .Add) (rI0 fun i j => .int (i+j)):=opI0 fun _ _ _ _ _ _ _ q=>add_int q
theorem Xyb:OpR X (binaryOp .Sub) (rI0 fun i j => .int (i - j)):=opI0 fun _ _ _ _ _ _ _ q=>sub_int q
theorem Xye:OpR X (binaryOp .Mult) (rI CMul fun i j => .int (i*j)):=opI fun _ _ _ _ _ _ _ hc q=>mul_int q hc.ok
theorem Wp:OpR X (binaryOp .FloorDiv) (rI CDiv fun i j => .int (i/j)):=opI fun i j _ _ _ _ _ hc q=>by
 have h1:(0:Int)<j:=hc.1
 have h2:j<1073741824:=hc.2
 exact floordiv_int (by omega) (by rw [Int.fdiv_eq_ediv_of_nonneg i (by omega)];exact q) (.inl (PyProof.noPylong_small (by omega)))
theorem Xw:OpR X (binaryOp .Mod) (rI (fun _ j=>0<j) fun i j => .int (i%j)):=opI fun i j _ _ _ _ _ hc q=>by
 have h1:(0:Int)<j:=hc
 exact mod_int' (by omega) (by rw [Int.fmod_eq_emod_of_nonneg i (by omega)];exact q)
theorem Xyc:OpR X (binaryOp .Pow) (rI CPow fun i j => .int (i ^ j.toNat)):=opI fun _ _ _ _ _ _ _ hc q=>pow_int_small hc.1 hc.2.1 hc.2.2 q
theorem Xoi:OpR X (binaryOp .RShift) (rI (fun _ j=>0≤j) fun i j => .int (i/2 ^ j.toNat)):=opI fun i j _ _ _ _ _ hc q =>
 rshift_int hc (by rw [Int.fdiv_eq_ediv_of_nonneg i (Xae _)];exact q)
theorem Xoj:OpR X (binaryOp .BitAnd) (rI0 fun i j => .int (Builtin.bitAnd i j)):=opI0 fun _ _ _ _ _ _ _ q=>and_int q
theorem unI {f:Value→Sem Value} {g:Int→Int}
  (rule:∀ (i:Int) (t:Tok) (s:Shared) (Q:Value→Shared→Prop) (E:Value→Shared→Prop),Q (.int (g i) s.toks) {s with toks:=s.toks+1}→wpAny (model X.prog X.w) X.A (f (.int i t)) Q E s) :
  UnR X f (rU fun i => .int (g i)):=by
 intro pins s σ H x v Q I rx h
 obtain ⟨i,rfl,q⟩:=h
 obtain ⟨t,rfl⟩:=rx
 exact rule i t s _ _ ⟨.int (g i),H,I.tok _,⟨_,rfl⟩,q⟩
theorem Zfb:UnR X (unaryOp .USub) (rU fun i => .int (-i)):=unI fun _ _ _ _ _ q=>neg_int q
end
noncomputable def scal:V→V→Bool
 | .non,.non=>true | .non,.int _=>true | .int _,.non=>true | .non,.bl _=>true | .bl _,.non=>true | .non,.str _=>true | .str _,.non=>true
 | .int _,.int _=>true | .bl _,.bl _=>true | .str _,.str _=>true | .byt _,.byt _=>true
 | .int _,.str _=>true | .str _,.int _=>true | .bl _,.str _=>true | .str _,.bl _=>true
 | _,_=>false
noncomputable def rEq:R2:=fun x y H Q=>scal x y=true∧Q (.bl (decide (x=y))) H
noncomputable def rNe:R2:=fun x y H Q=>scal x y=true∧Q (.bl (!decide (x=y))) H
theorem Xgg {i j:Int}:decide (V.int i=V.int j)=(i == j):=by
 rw [Bool.eq_iff_iff]
 simp
theorem Xrc {i j:Bool}:decide (V.bl i=V.bl j)=(i == j):=by
 rw [Bool.eq_iff_iff]
 simp
theorem Xgf {i j:Str}:decide (V.str i=V.str j)=(i == j):=by
 rw [Bool.eq_iff_iff]
 simp
theorem Xgh {i j:Array UInt8}:decide (V.byt i=V.byt j)=(i.toList == j.toList):=by
 rw [Bool.eq_iff_iff]
 cases i
 cases j
 simp
section
variable {X:Cx} {a b c:Expr} {ta tb tc:TE} {pos:Pos}
theorem Xg {pins:List (Addr×Obj)} {σ:St} {H:Hp} {s:Shared} {Q:VK} {k k':Bool} (I:Inv X pins σ H s) (q:Q (.bl k) H) (e:k=k'):EP X pins σ Q (.bool k') s:=by
 subst e
 exact ⟨.bl k,H,I,rfl,q⟩
theorem Ybi:OpR X (compareOp .Eq) rEq:=by
 intro pins s σ H x y v u Q I rx ry h
 obtain ⟨hs,q⟩:=h
 cases x with
 | non =>
  cases rx
  cases y with
  | non=>cases ry;exact PySem.EqNone.eq_none_none (Xg I q (by simp))
  | bl j=>cases ry;exact PySem.EqNone.eq_none_bool (Xg I q (by simp))
  | int j=>obtain ⟨t',rfl⟩:=ry;exact PySem.EqNone.eq_none_int (Xg I q (by simp))
  | str j=>obtain ⟨t',rfl⟩:=ry;exact PySem.EqNone.eq_none_str (Xg I q (by simp))
  | _=>exact absurd (show false=true from hs) Bool.false_ne_true
 | bl i =>
  cases rx
  cases y with
  | non=>cases ry;exact PySem.EqNone.eq_bool_none (Xg I q (by simp))
  | bl j=>cases ry;exact eq_bool (Xg I q Xrc)
  | str j=>obtain ⟨t',rfl⟩:=ry;exact PySem.EqMixed.eq_bool_str (Xg I q (by simp))
  | _=>exact absurd (show false=true from hs) Bool.false_ne_true
 | int i =>
  obtain ⟨t,rfl⟩:=rx
  cases y with
  | non=>cases ry;exact PySem.EqNone.eq_int_none (Xg I q (by simp))
  | int j=>obtain ⟨t',rfl⟩:=ry;exact eq_int (Xg I q Xgg)
  | str j=>obtain ⟨t',rfl⟩:=ry;exact PySem.EqMixed.eq_int_str (Xg I q (by simp))
  | _=>exact absurd (show false=true from hs) Bool.false_ne_true
 | str i =>
  obtain ⟨t,rfl⟩:=rx
  cases y with
  | non=>cases ry;exact PySem.EqNone.eq_str_none (Xg I q (by simp))
  | bl j=>cases ry;exact PySem.EqMixed.eq_str_bool (Xg I q (by simp))
  | int j=>obtain ⟨t',rfl⟩:=ry;exact PySem.EqMixed.eq_str_int (Xg I q (by simp))
  | str j=>obtain ⟨t',rfl⟩:=ry;exact eq_str (Xg I q Xgf)
  | _=>exact absurd (show false=true from hs) Bool.false_ne_true
 | byt i =>
  obtain ⟨t,rfl⟩:=rx
  cases y with
  | byt j=>obtain ⟨t',rfl⟩:=ry;exact PySem.W.eq_bytes (Xg I q Xgh)
  | _=>exact absurd (show false=true from hs) Bool.false_ne_true
 | _=>cases y<;>exact absurd (show false=true from hs) Bool.false_ne_true
theorem Ybd:OpR X (compareOp .NotEq) rNe:=by
 intro pins s σ H x y v u Q I rx ry h
 obtain ⟨hs,q⟩:=h
 cases x with
 | non =>
  cases rx
  cases y with
  | non=>cases ry;exact PySem.EqNone.ne_none_none (Xg I q (by simp))
  | bl j=>cases ry;exact PySem.EqNone.ne_none_bool (Xg I q (by simp))
  | int j=>obtain ⟨t',rfl⟩:=ry;exact PySem.EqNone.ne_none_int (Xg I q (by simp))
  | str j=>obtain ⟨t',rfl⟩:=ry;exact PySem.EqNone.ne_none_str (Xg I q (by simp))
  | _=>exact absurd (show false=true from hs) Bool.false_ne_true
 | bl i =>
  cases rx
  cases y with
  | non=>cases ry;exact PySem.EqNone.ne_bool_none (Xg I q (by simp))
  | bl j=>cases ry;exact ne_bool (Xg I q (congrArg not Xrc))
  | str j=>obtain ⟨t',rfl⟩:=ry;exact PySem.EqMixed.ne_bool_str (Xg I q (by simp))
  | _=>exact absurd (show false=true from hs) Bool.false_ne_true
 | int i =>
  obtain ⟨t,rfl⟩:=rx
  cases y with
  | non=>cases ry;exact PySem.EqNone.ne_int_none (Xg I q (by simp))
  | int j=>obtain ⟨t',rfl⟩:=ry;exact ne_int (Xg I q (congrArg not Xgg))
  | str j=>obtain ⟨t',rfl⟩:=ry;exact PySem.EqMixed.ne_int_str (Xg I q (by simp))
  | _=>exact absurd (show false=true from hs) Bool.false_ne_true
 | str i =>
  obtain ⟨t,rfl⟩:=rx
  cases y with
  | non=>cases ry;exact PySem.EqNone.ne_str_none (Xg I q (by simp))
  | bl j=>cases ry;exact PySem.EqMixed.ne_str_bool (Xg I q (by simp))
  | int j=>obtain ⟨t',rfl⟩:=ry;exact PySem.EqMixed.ne_str_int (Xg I q (by simp))
  | str j=>obtain ⟨t',rfl⟩:=ry;exact ne_str (Xg I q (congrArg not Xgf))
  | _=>exact absurd (show false=true from hs) Bool.false_ne_true
 | byt i =>
  obtain ⟨t,rfl⟩:=rx
  cases y with
  | byt j=>obtain ⟨t',rfl⟩:=ry;exact PySem.W.ne_bytes (Xg I q (congrArg not Xgh))
  | _=>exact absurd (show false=true from hs) Bool.false_ne_true
 | _=>cases y<;>exact absurd (show false=true from hs) Bool.false_ne_true
theorem Ybe:OpR X (compareOp .Lt) (rI0 fun i j => .bl (decide (i<j))):=opB0 fun _ _ _ _ _ _ _ q=>lt_int q
theorem Ybf:OpR X (compareOp .LtE) (rI0 fun i j => .bl (decide (i≤j))):=opB0 fun _ _ _ _ _ _ _ q=>le_int q
theorem Ybg:OpR X (compareOp .Gt) (rI0 fun i j => .bl (decide (j<i))):=opB0 fun _ _ _ _ _ _ _ q=>gt_int q
theorem Ybh:OpR X (compareOp .GtE) (rI0 fun i j => .bl (decide (j≤i))):=opB0 fun _ _ _ _ _ _ _ q=>ge_int q
theorem Xjc:OpR X (compareOp .Lt) (fun x y H Q=>∃ i j,x = .str i∧y = .str j∧Q (.bl (decide (i.cps.toList<j.cps.toList))) H):=by
 intro pins s σ H x y v u Q I rx ry h
 obtain ⟨i,j,rfl,rfl,q⟩:=h
 obtain ⟨t,rfl⟩:=rx
 obtain ⟨t',rfl⟩:=ry
 exact lt_str (Xg I q rfl)
theorem Xyf:OpR X (compareOp .Is) (fun x y H Q=>y = .non∧Q (.bl (decide (x = .non))) H):=by
 intro pins s σ H x y v u Q I rx ry h
 obtain ⟨rfl,q⟩:=h
 cases ry
 refine is_none_gen (Xg I q ?_)
 cases x<;>first
  | (cases rx;rfl)
  | (obtain ⟨t,rfl⟩:=rx;rfl)
theorem Zsb:OpR X (compareOp .IsNot) (fun x y H Q=>y = .non∧Q (.bl (!decide (x = .non))) H):=by
 intro pins s σ H x y v u Q I rx ry h
 obtain ⟨rfl,q⟩:=h
 cases ry
 refine isnot_none_gen (Xg I q ?_)
 cases x<;>first
  | (cases rx;rfl)
  | (obtain ⟨t,rfl⟩:=rx;rfl)
theorem OpR.or {f:Value→Value→Sem Value} {r r':R2} (h:OpR X f r) (h':OpR X f r'):OpR X f (fun x y H Q=>r x y H Q∨r' x y H Q):=by
 intro pins s σ H x y v u Q I rx ry q
 rcases q with q | q
 ·exact h pins s σ H x y v u Q I rx ry q
 ·exact h' pins s σ H x y v u Q I rx ry q
theorem nomark (b:Expr) {op:CmpOp} (h:op≠.In:=by decide) (h2:op≠.NotIn:=by decide):behindInMarks op b=false:=by
 have e1:(op == CmpOp.In)=false:=by cases op<;>first | rfl | exact absurd rfl h
 have e2:(op == CmpOp.NotIn)=false:=by cases op<;>first | rfl | exact absurd rfl h2
 cases b<;>simp [behindInMarks,e1,e2]
theorem Xn {op:CmpOp} {r:R2} (ho:OpR X (compareOp op) r) (ha:PE X a ta) (hb:PE X b tb) (hm:behindInMarks op b=false):PE X (.Compare a [op] [b] pos) (tOp r ta tb):=by
 intro pins s σ H Q I h
 exact wpAny_Compare1 (binT ha hb I h fun v u s2 x y H2 I2 rx ry q=>ho pins s2 σ H2 x y v u Q I2 rx ry q) hm
noncomputable def tTest (t:TE):TT:=fun σ H Q=>t σ H fun x H'=>∃ k,x = .bl k∧Q k H'
theorem Zn {op:CmpOp} {r:R2} (ho:OpR X (compareOp op) r) (ha:PE X a ta) (hb:PE X b tb) (hm:behindInMarks op b=false):PT X (.Compare a [op] [b] pos) (tTest (tOp r ta tb)):=by
 intro pins s σ H Q I h
 refine wpAny_isTrue_Compare1 (thn (ha pins s σ H _ I h) fun v s1 ⟨x,H1,I1,r1,q1⟩=>thn (hb pins s1 σ H1 _ I1 q1) fun u s2 ⟨y,H2,I2,r2,q2⟩ =>
  thn (ho pins s2 σ H2 x y v u _ I2 r1 r2 q2) fun c s3 ⟨z,H3,I3,r3,k,e,q3⟩=>?_) hm
 subst e
 cases r3
 exact wpAny_truthy_bool ⟨H3,I3,q3⟩
noncomputable def TruV (K:PySem.W.Frag) (x:V) (H:Hp) (k:Bool):Prop :=
 match x with
 | .non=>k=false
 | .bl b=>k=b
 | .int i=>k=(i != 0)
 | .str y=>y.length≤sizeLine∧k=((y.length:Int) != 0)
 | .byt y=>y.size≤sizeLine∧k=((y.size:Int) != 0)
 | .ref p=>(∃ xs,SqL K H p xs∧k=!xs.isEmpty)∨(∃ xs,SqT K H p xs∧k=!xs.isEmpty)∨∃ kvs,H p=some (.dK kvs)∧k=!kvs.isEmpty
 | _=>False
theorem Xde {κ:Type} {kvs:List (κ×V)} {vs:List (κ×Value)} (r:KV kvs vs):(!vs.isEmpty)=!kvs.isEmpty:=by
 cases r<;>rfl
theorem Zkj {xs:List V} {its:List Value} (r:Vals xs its):(!its.toArray.isEmpty)=!xs.isEmpty:=by
 cases r<;>simp
theorem line63:(sizeLine:Nat)<2 ^ 63:=by rw [sizeLine_eq];decide
theorem Xxd:TruR X (fun x H Q=>∃ k,TruV X.K x H k∧Q k H):=by
 intro pins s σ H x v Q I rx h
 obtain ⟨k,e,q⟩:=h
 have hl:=line63
 have hs:sizeLine=16777216:=sizeLine_eq
 cases x with
 | non =>
  cases rx
  have e':k=false:=e
  subst e'
  exact truthy_none ⟨H,I,q⟩
 | bl b =>
  cases rx
  have e':k=b:=e
  subst e'
  exact wpAny_truthy_bool ⟨H,I,q⟩
 | int i =>
  obtain ⟨t,rfl⟩:=rx
  have e':k=(i != 0):=e
  subst e'
  exact PySem.P.truthy_int ⟨H,I,q⟩
 | str y =>
  obtain ⟨t,rfl⟩:=rx
  obtain ⟨hy,e'⟩:y.length≤sizeLine∧k=((y.length:Int) != 0):=e
  subst e'
  exact PySem.P.truthy_str (by omega) ⟨H,I.tok _,q⟩
 | byt y =>
  obtain ⟨t,rfl⟩:=rx
  obtain ⟨hy,e'⟩:y.size≤sizeLine∧k=((y.size:Int) != 0):=e
  subst e'
  exact PySem.W.truthy_bytes (by omega) ⟨H,I.tok _,q⟩
 | ref p =>
  cases rx
  have e':(∃ xs,SqL X.K H p xs∧k=!xs.isEmpty)∨(∃ xs,SqT X.K H p xs∧k=!xs.isEmpty)∨∃ kvs,H p=some (.dK kvs)∧k=!kvs.isEmpty:=e
  rcases e' with ⟨xs,hx,e'⟩ | ⟨xs,hx,e'⟩ | ⟨kvs,hx,e'⟩
  ·subst e'
   obtain ⟨its,r,pl,hz⟩:=I.list hx
   have hlen:=r.length
   exact wpAny_truthy_list pl.isList (by simp only [List.size_toArray];omega) ⟨H,I.tok _,by rw [Zkj r];exact q⟩
  ·subst e'
   obtain ⟨its,r,pl,hz⟩:=I.tuple hx
   have hlen:=r.length
   exact truthy_tuple pl (by simp only [List.size_toArray];omega) ⟨H,I.tok _,by rw [Zkj r];exact q⟩
  ·subst e'
   obtain ⟨hz,hS,vs,r,m⟩:kvs.length≤sizeLine∧(p == sysModules)=false∧∃ vs,KV kvs vs∧s.heap.DictOf (mixKind X.prog X.w) p vs:=I.hok p _ hx
   have hlen:kvs.length=vs.length:=Paired.length r
   exact wpAny_truthy_dict hS m (by omega) ⟨H,I.tok _,by rw [Xde r];exact q⟩
 | _=>exact (show False from e).elim
theorem Xv (ha:PE X a ta) (he:∀ whole,isTrue a X.env whole=(do let v ← whole;standAt a.pos;holding [v] (truthy v))) :
  PT X a (fun σ H Q=>ta σ H fun x H'=>∃ k,TruV X.K x H' k∧Q k H'):=by
 intro pins s σ H Q I h
 exact isTrue_plain (thn (ha pins s σ H _ I h) fun v s1 ⟨x,H1,I1,r1,q1⟩=>Xxd pins s1 σ H1 x v Q I1 r1 q1) (he _)
theorem Xca:OpR X (binaryOp .Add) (fun x y H Q=>∃ i j,x = .str i∧y = .str j∧i.length+j.length≤sizeLine∧Q (.str (i++j)) H):=by
 intro pins s σ H x y v u Q I rx ry h
 obtain ⟨i,j,rfl,rfl,hz,q⟩:=h
 obtain ⟨t,rfl⟩:=rx
 obtain ⟨t',rfl⟩:=ry
 exact add_str (fun t' tk=>⟨.str (i++j),H,I.tok _,⟨_,rfl⟩,q⟩) hz
theorem vals1 {x:V} {us:List Value} (r:Vals [x] us):∃ u,us=[u]∧RelV x u:=by
 cases r with
 | cons r1 r2=>cases r2;exact ⟨_,rfl,r1⟩
theorem vals2 {x y:V} {us:List Value} (r:Vals [x,y] us):∃ u w',us=[u,w']∧RelV x u∧RelV y w':=by
 cases r with
 | cons r1 r2 =>
  cases r2 with
  | cons r3 r4=>cases r4;exact ⟨_,_,rfl,r1,r3⟩
theorem Zqg (hc:X.calm=true):CallR X (.builtin "max") (fun xs H Q=>∃ i j,xs=[.int i,.int j]∧Q (.int (if j > i then j else i)) H):=by
 intro pins s σ H xs us Q I r h
 obtain ⟨i,j,rfl,q⟩:=h
 obtain ⟨u,w',rfl,⟨t,rfl⟩,⟨t',rfl⟩⟩:=vals2 r
 refine max_two_ints (I.ok.hd hc) fun h' tk k=>⟨_,H,I.kept k,?_,q⟩
 by_cases hj:j > i
 ·rw [if_pos hj,if_pos hj];exact ⟨_,rfl⟩
 ·rw [if_neg hj,if_neg hj];exact ⟨_,rfl⟩
theorem Xli (hc:X.calm=true):CallR X (.builtin "min") (fun xs H Q=>∃ i j,xs=[.int i,.int j]∧Q (.int (if j<i then j else i)) H):=by
 intro pins s σ H xs us Q I r h
 obtain ⟨i,j,rfl,q⟩:=h
 obtain ⟨u,w',rfl,⟨t,rfl⟩,⟨t',rfl⟩⟩:=vals2 r
 refine min_two_ints (I.ok.hd hc) fun h' tk k=>⟨_,H,I.kept k,?_,q⟩
 by_cases hj:j<i
 ·rw [if_pos hj,if_pos hj];exact ⟨_,rfl⟩
 ·rw [if_neg hj,if_neg hj];exact ⟨_,rfl⟩
theorem Xlj:CallR X (.type "int") (fun xs H Q=>(∃ i,xs=[.int i]∧Q (.int i) H)∨∃ k,xs=[.bl k]∧Q (.int (if k then 1 else 0)) H):=by
 intro pins s σ H xs us Q I r h
 rcases h with ⟨i,rfl,q⟩ | ⟨k,rfl,q⟩
 ·obtain ⟨u,rfl,t,rfl⟩:=vals1 r
  exact call_int_int ⟨.int i,H,I,⟨_,rfl⟩,q⟩
 ·obtain ⟨u,rfl,r1⟩:=vals1 r
  cases r1
  exact call_int_bool ⟨.int (if k then 1 else 0),H,I.tok _,⟨_,rfl⟩,q⟩
noncomputable def LenV (K:PySem.W.Frag) (x:V) (H:Hp) (n:Nat):Prop :=
 match x with
 | .str y=>y.length≤sizeLine∧n=y.length
 | .byt y=>y.size≤sizeLine∧n=y.size
 | .ref p=>(∃ xs,SqL K H p xs∧n=xs.length)∨∃ xs,SqT K H p xs∧n=xs.length
 | _=>False
theorem Zs:CallR X (.builtin "len") (fun xs H Q=>∃ x n,xs=[x]∧LenV X.K x H n∧Q (.int n) H):=by
 intro pins s σ H xs us Q I r h
 obtain ⟨x,n,rfl,e,q⟩:=h
 obtain ⟨u,rfl,rx⟩:=vals1 r
 have hl:=line63
 have hs:sizeLine=16777216:=sizeLine_eq
 cases x with
 | str y =>
  obtain ⟨t,rfl⟩:=rx
  obtain ⟨hy,e'⟩:y.length≤sizeLine∧n=y.length:=e
  subst e'
  exact len_str (by omega) ⟨.int _,H,I.tok _,⟨_,rfl⟩,q⟩
 | byt y =>
  obtain ⟨t,rfl⟩:=rx
  obtain ⟨hy,e'⟩:y.size≤sizeLine∧n=y.size:=e
  subst e'
  exact PySem.W.len_bytes (by omega) ⟨.int _,H,I.tok _,⟨_,rfl⟩,q⟩
 | ref p =>
  cases rx
  have e':(∃ xs,SqL X.K H p xs∧n=xs.length)∨∃ xs,SqT X.K H p xs∧n=xs.length:=e
  rcases e' with ⟨xs,hx,e'⟩ | ⟨xs,hx,e'⟩
  ·subst e'
   obtain ⟨its,r',pl,hz⟩:=I.list hx
   have hlen:=r'.length
   exact Calls.call_len_list pl.isList (by simp only [List.size_toArray];omega) ⟨.int xs.length,H,I.tok _,⟨_,by simp only [List.size_toArray];rw [hlen]⟩,q⟩
  ·subst e'
   obtain ⟨its,r',pl,hz⟩:=I.tuple hx
   have hlen:=r'.length
   exact len_tuple pl (by simp only [List.size_toArray];omega) ⟨.int xs.length,H,I.tok _,⟨_,by simp only [List.size_toArray];rw [hlen]⟩,q⟩
 | _=>exact (show False from e).elim
end
end L2
namespace L2
open PySem PySem.Spec PyProof.Rows
structure ObjM (h:Heap) (x dx C:Addr) (mA:Str→Option Value):Prop where
 obj:h.get? x=some (PySem.W.instObj C dx)
 ns:h.Ns1 dx mA
 ne:dx≠x
theorem Xjj {h:Heap} {dx:Addr} {mA:Str→Option Value} (n:h.Ns1 dx mA):∃ od,h.get? dx=some od∧∀ name,PySem.W.lookIn name od=some (mA name):=by
 obtain ⟨o,es,ep,ho,hd,hk,_,hm⟩:=n
 refine ⟨o,ho,fun name=>?_⟩
 have e:=hm name
 unfold nsFind findBy at e
 rw [← Array.find?_toList] at e
 unfold PySem.W.lookIn
 rw [hd]
 dsimp only
 split
 ·rename_i y q
  rw [q] at e
  exact congrArg some e
 ·rename_i q
  rw [q] at e
  have a:es.toList.any (·.refKey)=false:=by
   rw [List.any_eq_false]
   intro y hy
   obtain ⟨z,t,hkey⟩:=hk y (Array.mem_toList_iff.mp hy)
   simp [DictEntry.refKey,hkey]
  have a':¬es.toList.any (·.refKey)=true:=by rw [a];exact Bool.false_ne_true
  rw [if_neg a']
  exact congrArg some e
theorem ObjM.look {h:Heap} {x dx C:Addr} {mA:Str→Option Value} (I:ObjM h x dx C mA):∃ od,PySem.W.InstAt h x (PySem.W.instObj C dx) C (some od)∧∀ name,PySem.W.lookIn name od=some (mA name) :=
 let ⟨od,ho,hl⟩:=Xjj I.ns
 ⟨od,⟨I.obj,rfl,rfl,ho⟩,hl⟩
section
variable {prog:Program} {w:World} {A:Around} {E:Value→Shared→Prop} {s:Shared} {K:PySem.W.Frag} {x dx C f:Addr} {mA:Str→Option Value} {name:Str} {v:Value}
theorem get_map {expr:Bool} {Q:Value→Shared→Prop} (X:K.In s.heap) (I:ObjM s.heap x dx C mA) (hg:PySem.W.plainGet K C name=true) (hh:PySem.W.hasDictIn K C=true)
  (ha:PySem.W.findIn K (.ref C) name=some none) (hv:mA name=some v) (hv':PySem.W.handedIn v=true) (h:Q v {s with toks:=s.toks+1}) :
  wpAny (model prog w) A (getAttr (.ref x) name expr) Q E s:=by
 obtain ⟨od,J,hl⟩:=I.look
 exact PySem.W.get_value X J (PySem.W.plainGet_of hg).1 (PySem.W.findObj_own hh ha rfl (by rw [hl,hv])) hv' h
theorem Xqd {pl:Sem Bool} {Q:Value×List Value→Shared→Prop} (X:K.In s.heap) (I:ObjM s.heap x dx C mA) (hg:PySem.W.plainGet K C name=true)
  (hf:PySem.W.findIn K (.ref C) name=some (some (.ref f))) (ht:PySem.W.isFn K (.ref f)=true) (hv:mA name=none) (h:Q (.ref f,[.ref x]) s) :
  wpAny (model prog w) A (getMethod (.ref x) name pl) Q E s:=by
 obtain ⟨od,J,hl⟩:=I.look
 exact PySem.W.method_fn X J (PySem.W.plainGet_of hg).1 (PySem.W.plainGet_of hg).2 hf (beq_iff_eq.mp ht) (by show (PySem.W.lookIn name od).map (·.isSome)=some false;rw [hl,hv];rfl) h
theorem Xta {ns:List Str} {Q:Unit→Shared→Prop} (X:K.In s.heap) (I:ObjM s.heap x dx C mA)
  (hs:PySem.W.findIn K (.ref C) "__setattr__"=some (some (.builtin "object.__setattr__"))) (hp:PySem.W.plainOver K C=true) (ht:PySem.W.takerIn K C name=some none) (hh:PySem.W.hasDictIn K C=true)
  (hw:PySem.Within mA ns) (hsz:ns.length≤sizeLine)
  (h:∀ h',ObjM h' x dx C (fun y=>if y=name then some v else mA y)→Heap.SameBut dx s.heap h'→Q () {s with heap:=h',toks:=s.toks+2}) :
  wpAny (model prog w) A (setAttr (.ref x) name v) Q E s:=by
 obtain ⟨od,J,hl⟩:=I.look
 refine PySem.W.set_plain X J hs (PySem.W.osa_open (s:={s with toks:=s.toks+1}) (r:=none) X J hp ht fun b=>?_)
 obtain ⟨cd,hc,hd'⟩:=PySem.W.any_some hh
 have hx:s.heap.get? x=some ⟨.ref C,some dx,.plain,#[]⟩:=I.obj
 refine wpAny_bind (wpAny_pure (wpAny_bind (wpAny_bind (wpAny_loadPart hx (wpAny_bind (PySem.W.Looks.here (s:={s with toks:=s.toks+1}) (PySem.W.looks_clsIn X hc) ?_))))))
 rw [hd']
 refine wpAny_pure (a:=some dx) (wpAny_bind (wpAny_pure (wpAny_bind ?_)))
 refine wpAny_nsSet1 (s:={s with toks:=s.toks+1}) I.ns fun h' hn2 hs2=>?_
 obtain ⟨oD,esD,epD,hoD,hdD,hcD⟩:=hn2.count (PySem.Within.cons name v hw)
 refine wpAny_bind (wpAny_lookBehind hoD (by rw [hdD];exact pastItsLine_dict (Nat.le_trans hcD (by rw [List.length_cons];omega))) ?_)
 exact wpAny_pure (h _ ⟨(hs2.2 _ (Ne.symm I.ne)).trans I.obj,hn2,I.ne⟩ hs2)
theorem Xpf {R:Result→Shared→Prop} {vs:List Value} {kw:List (Str×Value)} (X:K.In s.heap) (hm:PySem.W.makesIn K C=true)
  (hi:PySem.W.findIn K (.ref C) "__init__"=some (some (.ref f))) (hf:PySem.W.typeIn K (.ref f)=some (.type "function"))
  (h:codeAny (model prog w) (A.under (.builtin "type.__call__" ⟨.ref C::vs,kw⟩)) (.call (.ref f) ⟨.ref (s.heap.objs.size+1)::vs,kw⟩) (PySem.W.InitBack (s.heap.objs.size+1) R)
   {s with heap:=(s.heap.push PySem.W.emptyDict).push (PySem.W.instObj C s.heap.objs.size)}) :
  codeAny (model prog w) A (.call (.ref C) ⟨vs,kw⟩) R s:=by
 obtain ⟨hh,g,d,t,os⟩:=s
 exact PySem.W.make_core (PySem.W.makes_of X hm) (PySem.W.looks_findIn X hi) (fun self=>PySem.W.bind_fn X self hf) (.inl rfl) h
end
noncomputable def putF (f:Str) (v:V):List (Str×V)→List (Str×V)
 | []=>[(f,v)]
 | (g,x)::r=>if g=f then (g,v)::r else (g,x)::putF f v r
theorem Zge (f g:Str) (v:V):∀ fs:List (Str×V),(putF f v fs).lookup g=if g=f then some v else fs.lookup g
 | []=>by
  show List.lookup g [(f,v)]=_
  by_cases h:g=f
  ·have hb:(g == f)=true:=beq_iff_eq.mpr h
   simp only [List.lookup,hb,if_pos h]
  ·have hb:(g == f)=false:=beq_eq_false_iff_ne.mpr h
   simp only [List.lookup,hb,if_neg h]
 | (k,x)::r=>by
  have ih:=Zge f g v r
  rw [show putF f v ((k,x)::r)=(if k=f then (k,v)::r else (k,x)::putF f v r) from rfl]
  by_cases hk:k=f
  ·rw [if_pos hk]
   by_cases h:g=k
   ·have hb:(g == k)=true:=beq_iff_eq.mpr h
    simp only [List.lookup,hb,if_pos (h.trans hk)]
   ·have hb:(g == k)=false:=beq_eq_false_iff_ne.mpr h
    simp only [List.lookup,hb,if_neg (fun e:g=f=>h (e.trans hk.symm))]
  ·rw [if_neg hk]
   by_cases h:g=k
   ·have hb:(g == k)=true:=beq_iff_eq.mpr h
    simp only [List.lookup,hb,if_neg (fun e:g=f=>hk (h.symm.trans e))]
   ·have hb:(g == k)=false:=beq_eq_false_iff_ne.mpr h
    simp only [List.lookup,hb]
    exact ih
theorem Zfh (f:Str) (v:V):∀ fs:List (Str×V),f∈(putF f v fs).map (·.1)∧∀ g,g∈fs.map (·.1)→g∈(putF f v fs).map (·.1)
 | []=>⟨by simp [putF],fun g h=>by simp at h⟩
 | (k,x)::r=>by
  obtain ⟨i1,i2⟩:=Zfh f v r
  rw [show putF f v ((k,x)::r)=(if k=f then (k,v)::r else (k,x)::putF f v r) from rfl]
  by_cases hk:k=f
  ·rw [if_pos hk]
   subst hk
   exact ⟨by simp,fun g h=>by simpa using h⟩
  ·rw [if_neg hk]
   refine ⟨?_,fun g h=>?_⟩
   ·rw [List.map_cons]
    exact List.mem_cons_of_mem _ i1
   ·rw [List.map_cons] at h ⊢
    rcases List.mem_cons.mp h with e | e
    ·exact List.mem_cons.mpr (.inl e)
    ·exact List.mem_cons_of_mem _ (i2 g e)
theorem Zgg (f:Str) (v:V):∀ fs:List (Str×V),(putF f v fs).length≤fs.length+1
 | []=>by simp [putF]
 | (k,x)::r=>by
  have ih:=Zgg f v r
  rw [show putF f v ((k,x)::r)=(if k=f then (k,v)::r else (k,x)::putF f v r) from rfl]
  by_cases hk:k=f
  ·rw [if_pos hk,List.length_cons,List.length_cons];omega
  ·rw [if_neg hk,List.length_cons,List.length_cons];omega
theorem RelO.some_of {v:V} {o:Option Value} (r:RelO (some v) o):∃ u,o=some u∧RelV v u:=by
 cases o with
 | none=>exact (show False from r).elim
 | some u=>exact ⟨u,rfl,r⟩
theorem RelO.none_of {o:Option Value} (r:RelO none o):o=none:=by
 cases o with
 | none=>rfl
 | some u=>exact (show False from r).elim
theorem Xkg {v:V} {u:Value} (r:RelV v u):PySem.W.handedIn u=true:=by
 cases v with
 | non=>cases (show u=Value.none from r);rfl
 | bl b=>cases (show u=Value.bool b from r);rfl
 | int i=>obtain ⟨t,e⟩:=(show ∃ t,u=Value.int i t from r);cases e;rfl
 | str x=>obtain ⟨t,e⟩:=(show ∃ t,u=Value.str x t from r);cases e;rfl
 | byt b=>obtain ⟨t,e⟩:=(show ∃ t,u=Value.bytes b t from r);cases e;rfl
 | flt b=>obtain ⟨t,e⟩:=(show ∃ t,u=Value.float b t from r);cases e;rfl
 | ref a=>cases (show u=Value.ref a from r);rfl
 | ty n=>cases (show u=Value.type n from r);rfl
section
variable {P:Program} {w:World} {H H':Hp} {h h':Heap} {a C dx:Addr} {fs fs':List (Str×V)}
theorem Ztf (hok:HOk P w H h) (e:H a=some (.ins C dx fs)):∃ mA,ObjM h a dx C mA∧(∀ f,RelO (fs.lookup f) (mA f))∧PySem.Within mA (fs.map (·.1))∧fs.length≤1000∧H dx=some (.own a):=by
 obtain ⟨d,z,ne,ob,mA,n,r,q⟩:=(show ObjOk P w H h a (.ins C dx fs) from hok a _ e)
 exact ⟨mA,⟨ob,n,ne⟩,r,q,z,d⟩
end
structure Cls (K:PySem.W.Frag) (C:Addr):Prop where
 pg:PySem.W.plainGet K C Str.empty=true
 hd:PySem.W.hasDictIn K C=true
 po:PySem.W.plainOver K C=true
 sa:PySem.W.findIn K (.ref C) "__setattr__"=some (some (.builtin "object.__setattr__"))
theorem Cls.get {K:PySem.W.Frag} {C:Addr} (c:Cls K C) (f:Str):PySem.W.plainGet K C f=true:=c.pg
noncomputable def NoAttr (K:PySem.W.Frag) (C:Addr) (f:Str):Prop:=PySem.W.findIn K (.ref C) f=some none
theorem NoAttr.taker {K:PySem.W.Frag} {C:Addr} {f:Str} (n:NoAttr K C f):PySem.W.takerIn K C f=some none:=by
 unfold PySem.W.takerIn
 rw [show PySem.W.findIn K (.ref C) f=some none from n]
 rfl
structure Con (K:PySem.W.Frag) (C:Addr) (f:Str) (v:V) (u:Value):Prop where
 at_:PySem.W.findIn K (.ref C) f=some (some u)
 rel:RelV v u
 get:PySem.W.specialIn K u "__get__"=some none
 cp:PySem.W.copiedNames.contains f=false
structure Meth (K:PySem.W.Frag) (C:Addr) (m:Str) (f:Addr):Prop where
 at_:PySem.W.findIn K (.ref C) m=some (some (.ref f))
 fn:PySem.W.isFn K (.ref f)=true
 kp:PySem.W.keepIn K (.ref f)=true
section
variable {X:Cx} {pins:List (Addr×Obj)} {σ:St} {H:Hp} {s:Shared} {a C dx:Addr} {fs:List (Str×V)} {f:Str} {v:V} {A:Around} {E:Value→Shared→Prop}
theorem Xdf {b:Bool} {Q:Value→Shared→Prop} (I:Inv X pins σ H s) (e:H a=some (.ins C dx fs)) (c:Cls X.K C) (n:NoAttr X.K C f) (l:fs.lookup f=some v)
  (h:∀ u s',Inv X pins σ H s'→RelV v u→Q u s'):wpAny (model X.prog X.w) A (getAttr (.ref a) f b) Q E s:=by
 obtain ⟨mA,O,r,_,_,_⟩:=Ztf I.hok e
 obtain ⟨u,hu,ru⟩:=RelO.some_of (v:=v) (o:=mA f) (by rw [← l];exact r f)
 exact get_map I.kIn O (c.get f) c.hd n hu (Xkg ru) (h u _ (I.tok _) ru)
theorem Zcg {m:Str} {g:Addr} {pl:Sem Bool} {Q:Value×List Value→Shared→Prop} (I:Inv X pins σ H s) (e:H a=some (.ins C dx fs)) (c:Cls X.K C) (k:Meth X.K C m g) (l:fs.lookup m=none)
  (h:Q (.ref g,[.ref a]) s):wpAny (model X.prog X.w) A (getMethod (.ref a) m pl) Q E s:=by
 obtain ⟨mA,O,r,_,_,_⟩:=Ztf I.hok e
 have hn:mA m=none:=RelO.none_of (by rw [← l];exact r m)
 exact Xqd I.kIn O (c.get m) k.at_ k.fn hn h
theorem Xba {y:V} {u:Value} {Q:Unit→Shared→Prop} (I:Inv X pins σ H s) (e:H a=some (.ins C dx fs)) (c:Cls X.K C) (n:NoAttr X.K C f) (hl:fs.length<1000) (ry:RelV y u)
  (h:∀ s',Inv X pins σ (upd H a (.ins C dx (putF f y fs))) s'→Q () s'):wpAny (model X.prog X.w) A (setAttr (.ref a) f u) Q E s:=by
 obtain ⟨mA,O,r,wi,_,ho⟩:=Ztf I.hok e
 have hz:(fs.map (·.1)).length≤sizeLine:=by rw [List.length_map,sizeLine_eq];omega
 refine Xta I.kIn O c.sa c.po n.taker c.hd wi hz fun h' O' sb=>h _ ?_
 have hd:∃ o,h'.get? dx=some o:=let ⟨o,_,_,e',_⟩:=O'.ns;⟨o,e'⟩
 refine I.write (x:=a) (e:=dx) (by rw [e];exact True.intro) (.inr ho) (fun b q hb z=>(sb.2 b hb).trans z) hd ?_
 refine ⟨by rw [Zm O.ne];exact ho,?_,O.ne,O'.obj,_,O'.ns,fun g=>?_,fun g hg=>?_⟩
 ·have:=Zgg f y fs;omega
 ·show RelO ((putF f y fs).lookup g) (if g=f then some u else mA g)
  rw [Zge]
  by_cases q:g=f
  ·rw [if_pos q,if_pos q];exact ry
  ·rw [if_neg q,if_neg q];exact r g
 ·by_cases q:g=f
  ·rw [q];exact (Zfh f y fs).1
  ·refine (Zfh f y fs).2 g (wi g fun z=>hg ?_)
   show (if g=f then some u else mA g)=none
   rw [if_neg q];exact z
theorem Inv.made (I:Inv X pins σ H s):Inv X pins σ (upd (upd H s.heap.objs.size (.own (s.heap.objs.size+1))) (s.heap.objs.size+1) (.ins C s.heap.objs.size []))
  {s with heap:=(s.heap.push PySem.W.emptyDict).push (PySem.W.instObj C s.heap.objs.size)}:=by
 have e1:(s.heap.push PySem.W.emptyDict).get? s.heap.objs.size=some PySem.W.emptyDict:=Heap.get?_push_size s.heap rfl
 have e2:((s.heap.push PySem.W.emptyDict).push (PySem.W.instObj C s.heap.objs.size)).get? (s.heap.objs.size+1)=some (PySem.W.instObj C s.heap.objs.size):=by
  have:=Heap.get?_push_size (s.heap.push PySem.W.emptyDict) (o:=PySem.W.instObj C s.heap.objs.size) rfl
  rwa [Heap.size_push] at this
 have e3:(s.heap.push PySem.W.emptyDict).Ns s.heap.objs.size (fun _=>none):=⟨PySem.W.emptyDict,#[],_,e1,rfl,(fun e he=>absurd he (by simp)),fun _=>rfl⟩
 have I1:=I.laid (a:=s.heap.objs.size) (o := .own (s.heap.objs.size+1)) (h':=s.heap.push PySem.W.emptyDict) (t':=s.toks) (fun b u q=>Heap.get?_push_of_some _ q) (Nat.le_refl _) ⟨_,e1⟩
 refine I1.laid (a:=s.heap.objs.size+1) (o := .ins C s.heap.objs.size []) (t':=s.toks) (fun b u q=>Heap.get?_push_of_some _ q) (Nat.le_of_eq (Heap.size_push _ _)) ?_
 have ne:s.heap.objs.size≠s.heap.objs.size+1:=Nat.ne_of_lt (Nat.lt_succ_self _)
 refine ⟨by rw [Zm ne,Zc],Nat.zero_le _,ne,e2,fun _=>none,(Heap.Ns1.of_empty e3).at fun o q=>Heap.get?_push_of_some _ q,fun _=>True.intro,fun y hy=>absurd rfl hy⟩
theorem Xwa {prog:Program} {w:World} {env:Env} {e:Expr} {f:Str} {pos:Pos} {s:Shared} {Q:Value→Shared→Prop} (hb:attributeBase e f env (eval e env)=eval e env)
  (h:wpAny (model prog w) A (eval e env) (fun o s₁=>wpAny (model prog w) A (getAttr o f true) Q E s₁) E s):wpAny (model prog w) A (eval (.Attribute e f pos) env) Q E s :=
 Attribute_any_ h (by rw [arm_eval_Attribute,hb])
end
noncomputable def tFld (K:PySem.W.Frag) (ta:TE) (f:Str):TE:=fun σ H Q=>ta σ H fun x H1=>∃ a C dx fs v,x = .ref a∧H1 a=some (.ins C dx fs)∧Cls K C∧NoAttr K C f∧fs.lookup f=some v∧Q v H1
noncomputable def sFld (K:PySem.W.Frag) (ta tv:TE) (f:Str):TS:=fun D σ H=>tv σ H fun y H1=>ta σ H1 fun x H2=>∃ a C dx fs,x = .ref a∧H2 a=some (.ins C dx fs)∧Cls K C∧NoAttr K C f∧fs.length<1000∧
 D.nx σ (upd H2 a (.ins C dx (putF f y fs)))
section
variable {X:Cx} {o e value:Expr} {f:Str} {pos pos' tpos:Pos} {ta tv:TE}
theorem Yy (he:PE X e ta) (hb:attributeBase e f X.env (eval e X.env)=eval e X.env):PE X (.Attribute e f pos) (tFld X.K ta f):=by
 intro pins s σ H Q I h
 refine Xwa hb (thn (he pins s σ H _ I h) fun u s1 ⟨x,H1,I1,rx,a,C,dx,fs,v,ex,ea,c,n,l,q⟩=>?_)
 subst ex
 obtain rfl:u=Value.ref a:=rx
 exact Xdf I1 ea c n l fun u' s2 I2 ru=>⟨v,H1,I2,ru,q⟩
theorem Qr (ha:PE X o ta) (hv:PE X value tv) (hs:swapsWith value (some (.Attribute o f pos')) pos.line X.env=pure false):PS X (.Assign [.Attribute o f pos'] value pos) (sFld X.K ta tv f):=by
 intro pins s σ H D I h
 refine plainObj_wpAny_Assign_Attribute (thn (hv pins s σ H _ I h) fun u s1 ⟨y,H1,I1,ry,q⟩=>thn (ha pins s1 σ H1 _ I1 q) fun ov s2 ⟨x,H2,I2,rx,a,C,dx,fs,ex,ea,c,n,l,q2⟩=>?_) hs
 subst ex
 obtain rfl:ov=Value.ref a:=rx
 exact Xba I2 ea c n l ry fun s3 I3=>⟨σ,_,I3,q2⟩
end
section
variable {X:Cx} {pins:List (Addr×Obj)} {σ:St} {H:Hp} {s:Shared} {A:Around} {E:Value→Shared→Prop} {Q:Value→Shared→Prop} {c:Value} {b:Bool}
inductive TyOf (K:PySem.W.Frag) (H:Hp):V→Value→Prop where
 | non:TyOf K H .non (.type "NoneType")
 | bl (x:Bool):TyOf K H (.bl x) (.type "bool")
 | int (i:Int):TyOf K H (.int i) (.type "int")
 | str (x:Str):TyOf K H (.str x) (.type "str")
 | flt (x:UInt64):TyOf K H (.flt x) (.type "float")
 | lst {a:Addr} {xs:List V} (e:H a=some (.lst xs)):TyOf K H (.ref a) (.type "list")
 | frz {a:Addr} {o:Obj} {xs:List V} (e:H a=some (.frz o (.lst xs))):TyOf K H (.ref a) (.type "list")
 | tup {a:Addr} {xs:List V} (e:H a=some (.tup xs)):TyOf K H (.ref a) (.type "tuple")
 | dK {a:Addr} {kvs:List (Key×V)} (e:H a=some (.dK kvs)):TyOf K H (.ref a) (.type "dict")
 | dT {a:Addr} {kvs:List (List Key×V)} (e:H a=some (.dT kvs)):TyOf K H (.ref a) (.type "dict")
 | ins {a C dx:Addr} {fs:List (Str×V)} (e:H a=some (.ins C dx fs)) (cl:Cls K C) (ha:PySem.W.findIn K (.ref C) "__class__"=some (some (.builtin "object.__class__")))
   (hn:PySem.W.specialIn K (.builtin "object.__class__") "__get__"=some (some (.builtin "getset_descriptor.__get__"))) (htk:PySem.W.takesIn K (.builtin "object.__class__")=some true)
   (hm:PySem.W.mroIn K C (.type "object")=some true):TyOf K H (.ref a) (.ref C)
end
end L2
namespace L2
open PySem PySem.Spec PyProof.Rows
structure Room (k:Nat) (A:Around):Prop where
 hd:A.handled=none
 dp:A.depth+3*k+5<recursionLimit
 un:A.units+16*k+200<cLine
theorem Room.mono {j k:Nat} {A:Around} (r:Room k A) (h:j≤k):Room j A:=⟨r.hd,by have:=r.dp;omega,by have:=r.un;omega⟩
theorem Room.deeper {k:Nat} {A:Around} (r:Room (k+1) A) (env:Env):Room k (A.deeper env) :=
 ⟨r.hd,by have:=r.dp;show A.depth+1+3*k+5<_;omega,by have:=r.un;show A.units+3+16*k+200<_;omega⟩
theorem Xda {A:Around} {C:Addr} {us:List Value} {kw:List (Str×Value)}:(A.under (.builtin "type.__call__" ⟨.ref C::us,kw⟩)).depth=A.depth+1:=by
 first | rfl | simp [Around.under,Code.weight,Code.isCreation,Code.isGuard,Code.isCaller,Code.frames,Code.isFrame,guardIds]
theorem Xcj {A:Around} {C:Addr} {us:List Value} {kw:List (Str×Value)}:(A.under (.builtin "type.__call__" ⟨.ref C::us,kw⟩)).units=A.units+1:=by
 first | rfl | simp [Around.under,Code.cUnits,Code.frames,Code.isFrame]
theorem Room.make {k:Nat} {A:Around} (r:Room (k+1) A) (C:Addr) (us:List Value) (kw:List (Str×Value)):Room k (A.under (.builtin "type.__call__" ⟨.ref C::us,kw⟩)) :=
 ⟨r.hd,by have:=r.dp;rw [Xda];omega,by have:=r.un;rw [Xcj];omega⟩
theorem Room.depth {k:Nat} {A:Around} (r:Room k A):A.depth<recursionLimit:=by have:=r.dp;omega
noncomputable def tNil:TA:=fun _ H Q=>Q [] H
noncomputable def tCons (ta:TE) (tr:TA):TA:=fun σ H Q=>ta σ H fun x H1=>tr σ H1 fun xs H2=>Q (x::xs) H2
section
variable {X:Cx} {e:Expr} {es:List Expr} {te:TE} {t:TA} {pos:Pos}
theorem Ze:PA X [] tNil:=fun _ _ _ _ H Q I h=>Calls.spliced_nil ⟨[],H,I,.nil,h⟩
theorem Za (ha:PE X e te) (hr:PA X es t) (hs:starEach (e::es) X.env=(false,eval e X.env)::starEach es X.env:=by rfl):PA X (e::es) (tCons te t):=by
 intro pos pins s σ H Q I h
 rw [hs]
 show wpAny _ _ (spliced ((false,eval e X.env)::backTo pos (starEach es X.env))) _ _ s
 refine Calls.spliced_cons (thn (ha pins s σ H _ I h) fun u s1 ⟨x,H1,I1,r1,q1⟩=>?_)
 exact thn (hr pos pins s1 σ H1 _ I1 q1) fun us s2 ⟨xs,H2,I2,r2,q2⟩=>⟨x::xs,H2,I2,.cons r1 r2,q2⟩
noncomputable def tTup (t:TA):TE:=fun σ H Q=>t σ H fun xs H1=>xs.length≤sizeLine∧∀ p,H1 p=none→Q (.ref p) (upd H1 p (.tup xs))
noncomputable def tLst (t:TA):TE:=fun σ H Q=>t σ H fun xs H1=>xs.length≤sizeLine∧∀ p,H1 p=none→Q (.ref p) (upd H1 p (.lst xs))
theorem Jt {x1} (h:PA X es t):PE X (.Tuple es x1 pos) (tTup t):=by
 intro pins s σ H Q I hq
 refine wpAny_Tuple_spliced (thn (h pos pins s σ H _ I hq) fun us s1 ⟨xs,H1,I1,r,z,q⟩=>⟨by rw [← r.length];exact z,?_⟩)
 have hf:H1 s1.heap.objs.size=none:=I1.hok.fresh (Nat.le_refl _)
 refine ⟨.ref s1.heap.objs.size,upd H1 s1.heap.objs.size (.tup xs),I1.laid (t':=s1.toks) (fun b u e=>Heap.get?_push_of_some _ e) (Nat.le_refl _) ?_,rfl,q _ hf⟩
 exact ⟨z,us,r,⟨_,Heap.get?_push_size _ rfl,rfl,_,rfl⟩⟩
theorem Yg (h:PA X es t):PE X (.List es pos) (tLst t):=by
 intro pins s σ H Q I hq
 refine wpAny_List_spliced (thn (h pos pins s σ H _ I hq) fun us s1 ⟨xs,H1,I1,r,z,q⟩=>⟨by rw [← r.length];exact z,?_⟩)
 have hf:H1 s1.heap.objs.size=none:=I1.hok.fresh (Nat.le_refl _)
 refine ⟨.ref s1.heap.objs.size,upd H1 s1.heap.objs.size (.lst xs),I1.laid (t':=s1.toks) (fun b u e=>Heap.get?_push_of_some _ e) (Nat.le_refl _) ?_,rfl,q _ hf⟩
 exact ⟨z,us,0,r,Heap.get?_push_size _ rfl⟩
end
noncomputable abbrev Sp:=List V→Hp→VK→XK→Prop
noncomputable abbrev CXT:=List Env→Hp→Shared→XK→Value→Shared→Prop
structure Env0 (P:Program) (w:World) (K:PySem.W.Frag) (mg:Str→Option Value) (base:Heap) (A:Around) (outer:List Env) (s:Shared) (H:Hp):Prop where
 frames:A.frames=some outer
 mod:Mod K mg base
 bs:∀ b o,base.get? b=some o→s.heap.get? b=some o∧H b=none
 bsz:base.objs.size≤s.heap.objs.size
 funs:s.heap.FunFrames base outer
 frf:∀ b∈frs outer,H b=none
 hok:HOk P w H s.heap
 bare:AllBare s.gens
noncomputable def CE (outer:List Env) (P:Program) (w:World) (H:Hp) (s:Shared) (Q:VK) (u:Value) (s':Shared):Prop :=
 ∃ v H',s'.os=s.os∧AllBare s'.gens∧Un (frs outer) [] H H' s.heap s'.heap∧HOk P w H' s'.heap∧RelV v u∧Q v H'
noncomputable def CR (CX:CXT) (outer:List Env) (P:Program) (w:World) (H:Hp) (s:Shared) (Q:VK) (E:XK) (r:Result) (s':Shared):Prop :=
 match r with
 | .ok (.ret u)=>CE outer P w H s Q u s'
 | .ok _=>False
 | .error e=>CX outer H s E e s'
structure FnOk (P:Program) (w:World) (K:PySem.W.Frag) (mg:Str→Option Value) (base:Heap) (CX:CXT) (k:Nat) (f:Addr) (fd:FuncData) (ps:List Str) (sp:Sp):Prop where
 len:∀ vs H Q E,sp vs H Q E→vs.length=ps.length
 run:∀ (A:Around) (outer:List Env) (s:Shared) (H:Hp) (args:Args) (us:List Value) (vs:List V) (Q:VK) (E:XK),Room k A→Env0 P w K mg base A outer s H→BindsTo s fd args (ps.zip us)→Vals vs us→sp vs H Q E→
  codeAny (model P w) A (.call (.ref f) args) (CR CX outer P w H s Q E) s
theorem Env0.make {P:Program} {w:World} {K:PySem.W.Frag} {mg:Str→Option Value} {base:Heap} {A:Around} {outer:List Env} {s:Shared} {H:Hp} (e:Env0 P w K mg base A outer s H) (C:Addr) (us:List Value) (kw:List (Str×Value)) :
  Env0 P w K mg base (A.under (.builtin "type.__call__" ⟨.ref C::us,kw⟩)) outer s H:=⟨by first | exact e.frames | (simpa [Around.under,Code.envs,Code.isFrame,pushEnvs] using e.frames),e.mod,e.bs,e.bsz,e.funs,e.frf,e.hok,e.bare⟩
section
variable {X:Cx} {pins:List (Addr×Obj)} {σ:St} {H:Hp} {s s':Shared}
theorem Inv.env0 (I:Inv X pins σ H s):Env0 X.prog X.w X.K X.mg X.base X.A X.stack s H :=
 ⟨I.ok.frames,I.ok.mod,I.bs,Nat.le_trans I.ok.bsz I.sz,I.stack,I.stkFree,I.hok,I.bare⟩
theorem Inv.after {Q:VK} {u:Value} (I:Inv X pins σ H s) (h:CE X.stack X.prog X.w H s Q u s'):EP X pins σ Q u s':=by
 obtain ⟨v,H',os,bare,un,hok,r,q⟩:=h
 obtain ⟨hh,g,d,t,os'⟩:=s'
 obtain rfl:os'=s.os:=os
 exact ⟨v,H',I.call (h':=hh) (g':=g) (d':=d) (t':=t) (ch:=[]) un hok bare (fun b z=>absurd z (by simp)),r,q⟩
end
noncomputable def tCall (sp:Sp) (dvs:List V) (E:XK) (t:TA):TE:=fun σ H Q=>t σ H fun vs H1=>sp (vs++dvs) H1 Q E
noncomputable def tMeth (C:Addr) (m:Str) (sp:Sp) (dvs:List V) (E:XK) (ta:TE) (t:TA):TE:=fun σ H Q=>ta σ H fun x H1=>∃ a dx fs,x = .ref a∧H1 a=some (.ins C dx fs)∧fs.lookup m=none∧
 t σ H1 fun vs H2=>sp (x::(vs++dvs)) H2 Q E
noncomputable def tMake (C:Addr) (sp:Sp) (dvs:List V) (E:XK) (t:TA):TE:=fun σ H Q=>t σ H fun vs H1=>∀ x dx,H1 x=none→H1 dx=none→dx≠x→
 sp (.ref x::(vs++dvs)) (upd (upd H1 dx (.own x)) x (.ins C dx [])) (fun v H2=>v = .non∧Q (.ref x) H2) E
noncomputable def Binds (K:PySem.W.Frag) (fd:FuncData) (ps:List Str) (ds:List Value):Prop :=
 ∀ (s:Shared) (us:List Value),K.In s.heap→(us++ds).length=ps.length→BindsTo s fd ⟨us,[]⟩ (ps.zip (us++ds))
theorem Binds.all {K:PySem.W.Frag} {fd:FuncData} {ps:List Str} (h:∀ us:List Value,us.length=ps.length→bindArgs fd ⟨us,[]⟩=pure (ps.zip us)):Binds K fd ps []:=fun s us _ hl=>by
 rw [List.append_nil] at hl ⊢
 exact .of_eq (h us hl)
noncomputable def Passes (CX:CXT) (X:Cx) (E:XK):Prop:=∀ (pins:List (Addr×Obj)) (σ:St) (H:Hp) (s:Shared) (e:Value) (s':Shared),Inv X pins σ H s→CX X.stack H s E e s'→X.xe e s'
section
variable {X:Cx} {CX:CXT} {k:Nat} {f C:Addr} {fd:FuncData} {ps:List Str} {sp:Sp} {dvs:List V} {ds:List Value} {E:XK} {x m:Str} {p pos apos:Pos} {e o:Expr} {es:List Expr} {ta:TE} {t:TA}
theorem Zjj {pins:List (Addr×Obj)} {σ:St} {H:Hp} {s:Shared} {Q:VK} {us:List Value} {vs:List V} (F:FnOk X.prog X.w X.K X.mg X.base CX k f fd ps sp) (hr:Room k X.A) (hb:Binds X.K fd ps ds) (hd:Vals dvs ds) (hx:Passes CX X E)
  (I:Inv X pins σ H s) (r:Vals vs us) (h:sp (vs++dvs) H Q E):wpAny (model X.prog X.w) X.A (call (.ref f) us) (EP X pins σ Q) X.xe s:=by
 have r2:Vals (vs++dvs) (us++ds):=r.append hd
 have hl:(us++ds).length=ps.length:=by rw [← r2.length];exact F.len _ _ _ _ h
 refine wpAny_call (codeAny_mono (F.run X.A X.stack s H ⟨us,[]⟩ (us++ds) (vs++dvs) Q E hr I.env0 (hb s us I.kIn hl) r2 h) fun r s' hq=>?_)
 cases r with
 | error e=>exact hx pins σ H s e s' I hq
 | ok fl =>
  cases fl with
  | ret u=>exact I.after hq
  | next=>exact False.elim hq
  | brk=>exact False.elim hq
  | cont=>exact False.elim hq
theorem Xud (F:FnOk X.prog X.w X.K X.mg X.base CX k f fd ps sp) (hr:Room k X.A) (hg:Gl X x) (hm:X.mg x=some (.ref f)) (hk:PySem.W.keepIn X.K (.ref f)=true) (hb:Binds X.K fd ps ds) (hd:Vals dvs ds) (hx:Passes CX X E)
  (ha:PA X (e::es) t) (hdb:(x == ("__debug__":Str))=false:=by decide) (he:starEach (e::es) X.env=(false,eval e X.env)::starEach es X.env:=by rfl) (hpl:(backTo pos (starEach es X.env)).any (·.1)=false:=by rfl) :
  PE X (.Call (.Name x p) (e::es) [] pos) (tCall sp dvs E t):=by
 intro pins s σ H Q I h
 refine wpAny_Call_Name_kw (Jc I hg hm ?_ hdb)
 refine PySem.W.callWith_K (h₀:=X.base) I.ok.mod.kin hk (thn (ha pos pins s σ H _ I h) fun us s1 ⟨vs,H1,I1,r,q⟩=>⟨I1.kIn,?_⟩) he hpl
 exact Zjj F hr hb hd hx I1 r q
theorem Ycc {pl:Sem Bool} (he:PE X o ta) (c:Cls X.K C) (hm:Meth X.K C m f) (F:FnOk X.prog X.w X.K X.mg X.base CX k f fd ps sp) (hr:Room k X.A) (hb:Binds X.K fd ps ds) (hd:Vals dvs ds) (hx:Passes CX X E) (ha:PA X (e::es) t)
  (hst:starEach (e::es) X.env=(false,eval e X.env)::starEach es X.env:=by rfl) (hpl:(backTo pos (starEach es X.env)).any (·.1)=false:=by rfl)
  (ht:eval (.Call (.Attribute o m apos) (e::es) [] pos) X.env=(do
   let ov ← eval o X.env
   standAt apos.atName
   let (f,first) ← holding [ov] (getMethod ov m pl)
   callWith pos f first (backTo pos (starEach (e::es) X.env)) (backToKw pos (keywordEach [] X.env))):=by rfl) :
  PE X (.Call (.Attribute o m apos) (e::es) [] pos) (tMeth C m sp dvs E ta t):=by
 intro pins s σ H Q I h
 refine PySem.W.methodCall_KW (pl:=pl) (thn (he pins s σ H _ I h) fun u s1 ⟨x,H1,I1,rx,a,dx,fs,ex,ea,l,q⟩=>?_) ht
 subst ex
 obtain rfl:u=Value.ref a:=rx
 refine Zcg I1 ea c hm l ?_
 refine PySem.W.callWith_K (first:=[.ref a]) (h₀:=X.base) I.ok.mod.kin hm.kp (thn (ha pos pins s1 σ H1 _ I1 q) fun us s2 ⟨vs,H2,I2,r,q2⟩=>⟨I2.kIn,?_⟩) hst hpl
 exact Zjj (us := .ref a::us) (vs := .ref a::vs) F hr hb hd hx I2 (.cons rfl r) q2
theorem Xog {pl:Sem Bool} (he:PE X o ta) (c:Cls X.K C) (hm:Meth X.K C m f) (F:FnOk X.prog X.w X.K X.mg X.base CX k f fd ps sp) (hr:Room k X.A) (hb:Binds X.K fd ps ds) (hd:Vals dvs ds) (hx:Passes CX X E)
  (ht:eval (.Call (.Attribute o m apos) [] [] pos) X.env=(do
   let ov ← eval o X.env
   standAt apos.atName
   let (f,first) ← holding [ov] (getMethod ov m pl)
   callWith pos f first (backTo pos (starEach [] X.env)) (backToKw pos (keywordEach [] X.env))):=by rfl) :
  PE X (.Call (.Attribute o m apos) [] [] pos) (tMeth C m sp dvs E ta tNil):=by
 intro pins s σ H Q I h
 refine PySem.W.methodCall_KW (pl:=pl) (thn (he pins s σ H _ I h) fun u s1 ⟨x,H1,I1,rx,a,dx,fs,ex,ea,l,q⟩=>?_) ht
 subst ex
 obtain rfl:u=Value.ref a:=rx
 refine Zcg I1 ea c hm l ?_
 exact PySem.W.callWith_K0 (first:=[.ref a]) I1.kIn hm.kp (Zjj (us:=[.ref a]) (vs:=[.ref a]) F hr hb hd hx I1 (.cons rfl .nil) q)
structure Mk (K:PySem.W.Frag) (C f:Addr):Prop where
 makes:PySem.W.makesIn K C=true
 init:PySem.W.findIn K (.ref C) "__init__"=some (some (.ref f))
 fn:PySem.W.isFn K (.ref f)=true
 kp:PySem.W.keepIn K (.ref C)=true
theorem Xnh {pins:List (Addr×Obj)} {σ:St} {H:Hp} {s:Shared} {Q:VK} {us:List Value} {vs:List V} (M:Mk X.K C f) (F:FnOk X.prog X.w X.K X.mg X.base CX k f fd ps sp) (hr:Room (k+1) X.A) (hb:Binds X.K fd ps ds) (hd:Vals dvs ds)
  (hx:Passes CX X E) (I:Inv X pins σ H s) (r:Vals vs us)
  (h:∀ x dx,H x=none→H dx=none→dx≠x→sp (.ref x::(vs++dvs)) (upd (upd H dx (.own x)) x (.ins C dx [])) (fun v H2=>v = .non∧Q (.ref x) H2) E) :
  wpAny (model X.prog X.w) X.A (call (.ref C) us) (EP X pins σ Q) X.xe s:=by
 have hq:=h (s.heap.objs.size+1) s.heap.objs.size (I.hok.fresh (Nat.le_succ _)) (I.hok.fresh (Nat.le_refl _)) (Nat.ne_of_lt (Nat.lt_succ_self _))
 have I2:=Inv.made (C:=C) I
 have r2:Vals (V.ref (s.heap.objs.size+1)::(vs++dvs)) (Value.ref (s.heap.objs.size+1)::(us++ds)) := .cons rfl (r.append hd)
 have hl:(Value.ref (s.heap.objs.size+1)::us++ds).length=ps.length:=by
  have e:=r2.length
  rw [F.len _ _ _ _ hq] at e
  exact e.symm
 refine wpAny_call (Xpf (f:=f) I.kIn M.makes M.init (beq_iff_eq.mp M.fn) (codeAny_mono (F.run _ X.stack _ _ ⟨Value.ref (s.heap.objs.size+1)::us,[]⟩ (Value.ref (s.heap.objs.size+1)::(us++ds)) _ _ E (hr.make C us [])
  (I2.env0.make C us []) (hb _ (Value.ref (s.heap.objs.size+1)::us) I2.kIn hl) r2 hq) fun r s' hq'=>?_))
 cases r with
 | error e=>exact hx pins σ _ _ e s' I2 hq'
 | ok fl =>
  cases fl with
  | ret u =>
   obtain ⟨v,H',I3,rv,ev,q3⟩:=I2.after hq'
   subst ev
   exact ⟨rv,⟨V.ref (s.heap.objs.size+1),H',I3,rfl,q3⟩⟩
  | next=>exact False.elim hq'
  | brk=>exact False.elim hq'
  | cont=>exact False.elim hq'
theorem Xua (M:Mk X.K C f) (F:FnOk X.prog X.w X.K X.mg X.base CX k f fd ps sp) (hr:Room (k+1) X.A) (hg:Gl X x) (hm:X.mg x=some (.ref C)) (hb:Binds X.K fd ps ds) (hd:Vals dvs ds) (hx:Passes CX X E)
  (ha:PA X (e::es) t) (hdb:(x == ("__debug__":Str))=false:=by decide) (he:starEach (e::es) X.env=(false,eval e X.env)::starEach es X.env:=by rfl) (hpl:(backTo pos (starEach es X.env)).any (·.1)=false:=by rfl) :
  PE X (.Call (.Name x p) (e::es) [] pos) (tMake C sp dvs E t):=by
 intro pins s σ H Q I h
 refine wpAny_Call_Name_kw (Jc I hg hm ?_ hdb)
 refine PySem.W.callWith_K (h₀:=X.base) I.ok.mod.kin M.kp (thn (ha pos pins s σ H _ I h) fun us s1 ⟨vs,H1,I1,r,q⟩=>⟨I1.kIn,?_⟩) he hpl
 exact Xnh M F hr hb hd hx I1 r q
end
section
variable {X:Cx} {CX:CXT} {k:Nat} {f C:Addr} {fd:FuncData} {ps ks:List Str} {sp:Sp} {E:XK} {x m:Str} {p pos apos kpos:Pos} {e o:Expr} {es:List Expr} {kws:List Keyword} {te ta:TE} {t tk:TA} {nm:Option Str}
structure KBinds (K:PySem.W.Frag) (fd:FuncData) (ps ks:List Str) (g:List Value→List Value→List Value) (gV:List V→List V→List V):Prop where
 to:∀ (s:Shared) (us ws:List Value),K.In s.heap→(g us ws).length=ps.length→BindsTo s fd ⟨us,ks.zip ws⟩ (ps.zip (g us ws))
 rel:∀ {vs:List V} {us:List Value} {zs:List V} {ws:List Value},Vals vs us→Vals zs ws→Vals (gV vs zs) (g us ws)
variable {g:List Value→List Value→List Value} {gV:List V→List V→List V}
end
structure FnScope (N P:List Str) (sc:Scope):Prop where
 kind:sc.kind = .function
 co:sc.isCoroutine=false
 gen:sc.isGenerator=false
 nd:N.Nodup
 pre:N.take P.length=P
 par:∀ x∈P,sc.names.lookup x=some .local∨sc.names.lookup x=some .cell
 nofree:∀ y∈sc.names,y.2≠.free
theorem Zqi {kindOf:Str→Option NameKind} {x:Str}:∀ {binds:List (Str×Value)} {m:Str→Option Value},(∀ v,(x,v)∉binds)→bindL kindOf binds m x=m x
 | [],_,_=>rfl
 | (n,v)::r,m,h=>by
  unfold bindL
  rw [Zqi fun w hw=>h w (List.mem_cons_of_mem _ hw)]
  split
  ·have:x≠n:=by rintro rfl;exact h v List.mem_cons_self
   simp [this]
  ·rfl
theorem Zra {kindOf:Str→Option NameKind} {x:Str}:∀ {binds:List (Str×Value)} {m:Str→Option Value},(∀ v,(x,v)∉binds)→bindC kindOf binds m x=m x
 | [],_,_=>rfl
 | (n,v)::r,m,h=>by
  unfold bindC
  rw [Zra fun w hw=>h w (List.mem_cons_of_mem _ hw)]
  split
  ·rfl
  ·have:x≠n:=by rintro rfl;exact h v List.mem_cons_self
   simp [this]
theorem Zqj {kindOf:Str→Option NameKind} {x:Str} {v:Value}:∀ {P:List Str} {vs:List Value} {i:Nat} {m:Str→Option Value},P.Nodup→P[i]?=some x→vs[i]?=some v→kindOf x=some .local→
  bindL kindOf (P.zip vs) m x=some v
 | [],_,_,_,_,h,_,_=>by simp at h
 | _::_,[],_,_,_,_,h,_=>by simp at h
 | p::P,w::vs,0,m,nd,h1,h2,hk=>by
  simp at h1 h2;subst h1;subst h2
  show bindL kindOf ((p,w)::P.zip vs) m p=_
  unfold bindL
  rw [Zqi fun v hv=>(List.nodup_cons.mp nd).1 (List.of_mem_zip hv).1,if_pos hk]
  simp
 | p::P,w::vs,i+1,m,nd,h1,h2,hk=>by
  show bindL kindOf ((p,w)::P.zip vs) m x=_
  unfold bindL
  exact Zqj (i:=i) (List.nodup_cons.mp nd).2 (by simpa using h1) (by simpa using h2) hk
theorem Zrb {kindOf:Str→Option NameKind} {x:Str} {v:Value}:∀ {P:List Str} {vs:List Value} {i:Nat} {m:Str→Option Value},P.Nodup→P[i]?=some x→vs[i]?=some v→kindOf x≠some .local→
  bindC kindOf (P.zip vs) m x=some v
 | [],_,_,_,_,h,_,_=>by simp at h
 | _::_,[],_,_,_,_,h,_=>by simp at h
 | p::P,w::vs,0,m,nd,h1,h2,hk=>by
  simp at h1 h2;subst h1;subst h2
  show bindC kindOf ((p,w)::P.zip vs) m p=_
  unfold bindC
  rw [Zra fun v hv=>(List.nodup_cons.mp nd).1 (List.of_mem_zip hv).1,if_neg hk]
  simp
 | p::P,w::vs,i+1,m,nd,h1,h2,hk=>by
  show bindC kindOf ((p,w)::P.zip vs) m x=_
  unfold bindC
  exact Zrb (i:=i) (List.nodup_cons.mp nd).2 (by simpa using h1) (by simpa using h2) hk
noncomputable def start (N:List Str) (vs:List V):St:=vs.map some++List.replicate (N.length - vs.length) none
noncomputable def cxOf (CX:CXT) (P:Program) (w:World) (K:PySem.W.Frag) (mg:Str→Option Value) (base:Heap) (N:List Str) (qual:Str) (scope:Scope) (f:Addr) (cd:Value) (A:Around) (outer:List Env) (s:Shared) (H:Hp) (E:XK):Cx where
 prog:=P
 w:=w
 K:=K
 mg:=mg
 base:=base
 A:=A.deeper (envOfC qual scope s.heap.objs.size f cd)
 N:=N
 s₀:=s
 H₀:=H
 env:=envOfC qual scope s.heap.objs.size f cd
 outer:=outer
 stack:=envOfC qual scope s.heap.objs.size f cd::outer
 ex:=[]
 calm:=true
 fn:=fun _=>true
 pn:=[]
 xe:=fun e s'=>wpAny (model P w) (A.deeper (envOfC qual scope s.heap.objs.size f cd)) (leaving (envOfC qual scope s.heap.objs.size f cd) e) (fun _ s''=>CX outer H s E e s'') (fun e' s''=>CX outer H s E e' s'') s'
theorem Zzi {sc:Scope} {n:Nat} {x:Str} (h:sc.names.lookup x=some .cell):∃ c,(cellsFrom n sc.names []).lookup x=some c:=by
 have q:=PySem.W.cellsFrom_some sc.names n [] (.inl h)
 exact Option.isSome_iff_exists.mp q
theorem Xke {CX:CXT} {P:Program} {w:World} {K:PySem.W.Frag} {mg:Str→Option Value} {base:Heap} {N ps:List Str} {qual:Str} {scope:Scope} {f:Addr} {cd:Value} {A:Around} {outer:List Env} {s s1:Shared} {H:Hp} {E:XK} {us:List Value} {vs:List V}
  (S:FnScope N ps scope) (hd:A.handled=none) (e0:Env0 P w K mg base A outer s H) (hl:vs.length=ps.length) (r:Vals vs us)
  (x:InCallC s s.heap.objs.size (bindL (envOfC qual scope s.heap.objs.size f cd).kindOf (ps.zip us) fun _=>none) (cellsFrom (s.heap.objs.size+1) scope.names []) (bindC (envOfC qual scope s.heap.objs.size f cd).kindOf (ps.zip us) fun _=>none) s1) :
  Inv (cxOf CX P w K mg base N qual scope f cd A outer s H E) [] (start N vs) H s1:=by
 have hpl:ps.length≤N.length:=by have:=congrArg List.length S.pre;rw [List.length_take] at this;omega
 obtain ⟨h1,tk,rfl,hk⟩:=x.done
 have noA:∀ b:Addr,b∉(cxOf CX P w K mg base N qual scope f cd A outer s H E).ex:=fun b z=>absurd (show b∈([]:List Addr) from z) (by simp)
 refine ⟨⟨e0.mod,S.kind,rfl,rfl,Nat.le_refl _,fun y z c h1 h2=>?_,fun y hy=>?_,fun y c _ h=>?_,fun _=>hd,Around.frames_deeper e0.frames,.inr ⟨rfl,rfl⟩,fun b z=>absurd z (noA b),e0.bs,e0.bsz,fun b _ _=>noA b,fun b z=>absurd z (noA b),e0.funs,e0.frf⟩,
  rfl,e0.bare,Un.kept hk,⟨_,x.toInCall.ns,fun i y v h1 h2 h3=>?_⟩,fun y c h=>⟨_,x.cell y c h⟩,e0.hok.fresh (Nat.le_refl _),fun y c h=>?_,fun p hp=>absurd (show p∈([]:List (Addr×Obj)) from hp) (by simp),e0.hok.kept hk,?_⟩
 ·exact name_of_addr x.apart (PySem.mem_of_lookup h1) (PySem.mem_of_lookup h2)
 ·have hy:scope.names.lookup y=some .cell∨scope.names.lookup y=some .free:=hy
  rcases hy with hy | hy
  ·exact Zzi hy
  ·exact absurd rfl (S.nofree _ (PySem.mem_of_lookup hy))
 ·exact Nat.le_of_lt (x.above y c (PySem.mem_of_lookup h))
 ·have hi:i<vs.length:=by
   unfold start at h2
   by_cases hi:i<vs.length
   ·exact hi
   ·rw [List.getElem?_append_right (by simpa using hi)] at h2
    rw [List.getElem?_replicate] at h2
    split at h2<;>cases h2
  have ha:vs[i]?=some v:=by
   unfold start at h2
   rw [List.getElem?_append_left (by simpa using hi),List.getElem?_map] at h2
   cases e:vs[i]? with
   | none=>rw [e] at h2;cases h2
   | some a=>rw [e] at h2;cases h2;rfl
  obtain ⟨u,hu,rv⟩:=r.get ha
  have hp:ps[i]?=some y:=by
   rw [← S.pre,List.getElem?_take_of_lt (by omega)];exact h1
  have ndP:ps.Nodup:=by rw [← S.pre];exact S.nd.sublist (List.take_sublist _ _)
  refine ⟨u,rv,?_⟩
  rcases S.par y (List.mem_of_getElem? hp) with k | k
  ·exact .inl ⟨k,Zqj ndP hp hu k⟩
  ·obtain ⟨c,e⟩:=Zzi (n:=s.heap.objs.size+1) k
   refine .inr ⟨.inl k,c,e,?_⟩
   have q:=x.cell y c e
   rw [Zrb ndP hp hu (by show scope.names.lookup y≠_;rw [k];decide)] at q
   exact q
 ·exact e0.hok.fresh (Nat.le_of_lt (x.above y c (PySem.mem_of_lookup h)))
 ·unfold start
  show _=N.length
  rw [List.length_append,List.length_map,List.length_replicate]
  omega
theorem Xwd {CX:CXT} {P:Program} {w:World} {K:PySem.W.Frag} {mg:Str→Option Value} {base:Heap} {k:Nat} {f:Addr} {name qual:Str} {params:Arguments} {body:List Stmt} {scope:Scope} {dV kV doc pm cdv ct oc:Value} {an od:Option Addr}
  {osl:Array (Option Value)} {N ps:List Str} {sp:Sp} (lk:K.lookup f=some ⟨oc,od,.func (PySem.W.fnOf name qual params body scope dV kV doc pm an cdv ct),osl⟩) (hcd:PySem.W.codeIn K cdv qual=true) (S:FnScope N ps scope)
  (len:∀ vs H Q E,sp vs H Q E→vs.length=ps.length)
  (hbody:∀ (A:Around) (outer:List Env) (s:Shared) (H:Hp) (vs:List V) (Q:VK) (E:XK),Room k (A.deeper (envOfC qual scope s.heap.objs.size f cdv))→sp vs H Q E→
   ∃ t,PSs (cxOf CX P w K mg base N qual scope f cdv A outer s H E) body t∧t {nx:=fun _ H'=>Q .non H',rt:=Q} (start N vs) H) :
  FnOk P w K mg base CX (k+1) f (PySem.W.fnOf name qual params body scope dV kV doc pm an cdv ct) ps sp:=by
 refine ⟨len,fun A outer s H args us vs Q E hr e0 hb r hsp=>?_⟩
 have hl:=len _ _ _ _ hsp
 have KX:K.In s.heap:=e0.mod.kin.keeps fun b o e=>(e0.bs b o e).1
 have lim:s.heap.NoLimit:=e0.mod.nolimit.keeps fun b o e=>(e0.bs b o e).1
 have hkind:∀ y∈ps.zip us,scope.names.lookup y.1=some .local∨(scope.names.lookup y.1=some .cell∧((cellsFrom (s.heap.objs.size+1) scope.names []).lookup y.1).isSome=true):=fun ⟨n,v⟩ hy=>by
  rcases S.par n (List.of_mem_zip hy).1 with q | q
  ·exact .inl q
  ·exact .inr ⟨q,PySem.W.cellsFrom_some _ _ _ (.inl q)⟩
 refine codeAny_call_function hr.depth (KX _ _ lk) rfl S.co S.gen rfl (PySem.W.codeRec_of KX hcd) (hb _ _ _ _ ?_)
 refine wpAny_newFunctionEnv_cells S.kind hkind fun env he s1 x=>?_
 subst he
 refine ⟨lim.keeps x.toInCall.keep,codeAny_func ?_⟩
 obtain ⟨t,ht,hq⟩:=hbody A outer s H vs Q E (hr.deeper _) hsp
 have I:Inv (cxOf CX P w K mg base N qual scope f cdv A outer s H E) [] (start N vs) H s1:=Xke S hr.hd e0 hl r x
 refine wpAny_mono (ht [] s1 (start N vs) H _ I hq) (fun fl s' hs=>?_) fun e s' hs=>hs
 have fin:∀ {σ':St} {H':Hp} {v:V} {u:Value},Inv (cxOf CX P w K mg base N qual scope f cdv A outer s H E) [] σ' H' s'→RelV v u→Q v H'→CE outer P w H s Q u s' :=
  fun {σ' H' v u} J rv q=>⟨v,H',J.os,J.bare,J.base,J.hok,rv,q⟩
 cases fl with
 | ret u =>
  obtain ⟨v,σ',H',J,rv,q⟩:=hs
  exact fin J rv q
 | next =>
  obtain ⟨σ',H',J,q⟩:=hs
  exact fin (v:=V.non) (u:=Value.none) J rfl q
 | brk =>
  obtain ⟨_,_,_,q⟩:=hs
  exact False.elim q
 | cont =>
  obtain ⟨_,_,_,q⟩:=hs
  exact False.elim q
end L2
namespace L2
open PySem PySem.Spec PyProof.Rows
section
variable {X:Cx} {x:Str} {p pos:Pos} {e:Expr} {es:List Expr} {t:TA} {id T:String} {r:List V→Hp→VK→Prop}
noncomputable def tCB (r:List V→Hp→VK→Prop) (t:TA):TE:=fun σ H Q=>t σ H fun vs H1=>r vs H1 Q
theorem Zo (hc:CallR X (.builtin id) r) (hg:Gl X x) (hm:X.mg x=none) (hv:bootBuiltins x=some (.builtin id)) (ha:PA X (e::es) t) (hn:x≠"__name__":=by decide) (hdb:(x == ("__debug__":Str))=false:=by decide)
  (he:starEach (e::es) X.env=(false,eval e X.env)::starEach es X.env:=by rfl) (hpl:(backTo pos (starEach es X.env)).any (·.1)=false:=by rfl):PE X (.Call (.Name x p) (e::es) [] pos) (tCB r t):=by
 intro pins s σ H Q I h
 refine wpAny_Call_Name_kw (Qv I hg hm hv ?_ hn hdb)
 exact PyProof.Rows.callWith_builtin1 (thn (ha pos pins s σ H _ I h) fun us s1 ⟨vs,H1,I1,r1,q1⟩=>hc pins s1 σ H1 vs us Q I1 r1 q1) he hpl
theorem Jp (hc:CallR X (.type T) r) (hg:Gl X x) (hm:X.mg x=none) (hv:bootBuiltins x=some (.type T)) (ha:PA X (e::es) t) (hn:x≠"__name__":=by decide) (hdb:(x == ("__debug__":Str))=false:=by decide)
  (he:starEach (e::es) X.env=(false,eval e X.env)::starEach es X.env:=by rfl) (hpl:(backTo pos (starEach es X.env)).any (·.1)=false:=by rfl):PE X (.Call (.Name x p) (e::es) [] pos) (tCB r t):=by
 intro pins s σ H Q I h
 refine wpAny_Call_Name_kw (Qv I hg hm hv ?_ hn hdb)
 exact PyProof.Rows.callWith_type1 (thn (ha pos pins s σ H _ I h) fun us s1 ⟨vs,H1,I1,r1,q1⟩=>hc pins s1 σ H1 vs us Q I1 r1 q1) he hpl
end
end L2
namespace HT
open PySem PyProof.Rows
section
open PySem.SeqAt
open PySem.AutoSeq1 (wpAny_loadPart')
open PySem.MeetsSeq PySem.MeetsSeq2 PySem.MeetsSeq3
end
section
variable {prog:Program} {w:World} {A:Around} {E:Value→Shared→Prop} {s:Shared}
noncomputable def sIx (n d:Nat):Option Int→Nat
 | none=>d
 | some v=>if v<0 then (v+(n:Int)).toNat else min v.toNat n
theorem sIx_none (n d:Nat):sIx n d none=d:=rfl
theorem sIx_nat (n d k:Nat):sIx n d (some (k:Int))=min k n:=by
 show (if (k:Int)<0 then ((k:Int)+(n:Int)).toNat else min (k:Int).toNat n)=min k n
 rw [if_neg (by omega),Int.toNat_natCast]
theorem sIx_le (n d:Nat) (hd:d≤n) (o:Option Int):sIx n d o≤n:=by
 cases o with
 | none=>exact hd
 | some v =>
  show (if v<0 then (v+(n:Int)).toNat else min v.toNat n)≤n
  by_cases hv:v<0
  ·rw [if_pos hv];omega
  ·rw [if_neg hv];exact Nat.min_le_right _ _
end
end HT
namespace L2
open PySem PySem.Spec PyProof.Rows
noncomputable abbrev TO:=St→Hp→(Option Int→Hp→Prop)→Prop
noncomputable def PO (X:Cx) (e:Option Expr) (t:TO):Prop :=
 ∀ (pins:List (Addr×Obj)) (s:Shared) (σ:St) (H:Hp) (Q:Option Int→Hp→Prop),Inv X pins σ H s→t σ H Q→
  wpAny (model X.prog X.w) X.A (evalPart e X.env) (fun u s'=>∃ o H',Inv X pins σ H' s'∧IsPart u o∧Q o H') X.xe s
noncomputable def tNoPart:TO:=fun _ H Q=>Q none H
noncomputable def tPart (t:TE):TO:=fun σ H Q=>t σ H fun x H1=>∃ i,x = .int i∧Q (some i) H1
section
variable {X:Cx} {e:Expr} {te:TE} {lo hi:Option Expr} {tl th:TO} {pos p2:Pos}
theorem Xk:PO X none tNoPart:=by
 intro pins s σ H Q I h
 rw [evalPart_none]
 exact wpAny_pure ⟨none,H,I,.none,h⟩
theorem Zv (h:PE X e te):PO X (some e) (tPart te):=by
 intro pins s σ H Q I hw
 rw [evalPart_some]
 refine thn (h pins s σ H _ I hw) fun u s1 ⟨x,H1,I1,r1,q1⟩=>?_
 obtain ⟨i,rfl,q⟩:=q1
 obtain ⟨t,rfl⟩:=r1
 exact ⟨some i,H1,I1,.int i t,q⟩
noncomputable def SlR (X:Cx) (r:V→Option Int→Option Int→Hp→VK→Prop):Prop :=
 ∀ (pins:List (Addr×Obj)) (s:Shared) (σ:St) (H:Hp) (x:V) (v vl vu:Value) (lo hi:Option Int) (sl:Addr) (Q:VK),Inv X pins σ H s→RelV x v→s.heap.IsSliceOf sl vl vu .none→IsPart vl lo→IsPart vu hi→r x lo hi H Q→
  ∃ T id,typeLookup (.type T) "__getitem__"=pure (some (.builtin id))∧s.TypeIs v T∧wpAny (model X.prog X.w) X.A (getItem v (.ref sl)) (EP X pins σ Q) X.xe s
theorem SlR.or {r r':V→Option Int→Option Int→Hp→VK→Prop} (h:SlR X r) (h':SlR X r'):SlR X (fun x lo hi H Q=>r x lo hi H Q∨r' x lo hi H Q):=by
 intro pins s σ H x v vl vu lo hi sl Q I rx hs pl pu q
 rcases q with q | q
 ·exact h pins s σ H x v vl vu lo hi sl Q I rx hs pl pu q
 ·exact h' pins s σ H x v vl vu lo hi sl Q I rx hs pl pu q
noncomputable def tSl (r:V→Option Int→Option Int→Hp→VK→Prop) (te:TE) (tl th:TO):TE:=fun σ H Q=>te σ H fun x H1=>tl σ H1 fun l H2=>th σ H2 fun u H3=>r x l u H3 Q
theorem Zw {r:V→Option Int→Option Int→Hp→VK→Prop} (hr:SlR X r) (he:PE X e te) (hl:PO X lo tl) (hu:PO X hi th):PE X (.Subscript e (.Slice lo hi none p2) pos) (tSl r te tl th):=by
 intro pins s σ H Q I h
 refine Subscript_ (thn (he pins s σ H _ I h) fun v s1 ⟨x,H1,I1,r1,q1⟩=>?_)
 refine wpAny_Slice (thn (hl pins s1 σ H1 _ I1 q1) fun vl s2 ⟨l,H2,I2,pl,q2⟩=>thn (hu pins s2 σ H2 _ I2 q2) fun vu s3 ⟨u,H3,I3,pu,q3⟩=>?_)
 rw [evalPart_none]
 refine wpAny_pure ?_
 have I4:Inv X pins σ H3 {s3 with heap:=s3.heap.push {cls := .type "slice",data := .fields #[vl,vu,.none]}}:=I3.kept (t':=s3.toks) fun b ob q=>Heap.get?_push_of_some _ q
 obtain ⟨T,id,hT,ht,hg⟩:=hr pins {s3 with heap:=s3.heap.push {cls := .type "slice",data := .fields #[vl,vu,.none]}} σ H3 x v vl vu l u s3.heap.objs.size Q I4 r1 (Heap.IsSliceOf.new ..) pl pu q3
 show wpAny (model X.prog X.w) X.A (subscriptTail e (.Slice lo hi none p2) v (.ref s3.heap.objs.size)) (EP X pins σ Q) X.xe {s3 with heap:=s3.heap.push {cls := .type "slice",data := .fields #[vl,vu,.none]}}
 exact tail_any (ops:=[.ref s3.heap.objs.size,v]) ht hT hg (by with_unfolding_all rfl)
noncomputable def cutV (xs:List V) (lo hi:Option Int):List V:=(xs.drop (HT.sIx xs.length 0 lo)).take (HT.sIx xs.length xs.length hi - HT.sIx xs.length 0 lo)
theorem Zai (xs:List V) (lo hi:Option Int):(cutV xs lo hi).length≤xs.length:=by
 unfold cutV
 rw [List.length_take,List.length_drop]
 omega
end
end L2
namespace L2
open PySem PySem.Spec PyProof.Rows
noncomputable def ixN (n:Nat) (i:Int):Option Nat:=if 0≤i then (if i<n then some i.toNat else none) else if -(n:Int)≤i then some (i+n).toNat else none
noncomputable def atI {α:Type} (xs:List α) (i:Int):Option α:=(ixN xs.length i).bind fun j=>xs[j]?
theorem Xva {n:Nat} {i:Int} {j:Nat} (h:ixN n i=some j):seqIndex? i n=some j∧j<n∧-(n:Int)≤i∧i<n:=by
 unfold ixN at h
 by_cases h0:0≤i
 ·rw [if_pos h0] at h
  by_cases h1:i<n
  ·rw [if_pos h1] at h
   have e:i.toNat=j:=Option.some.inj h
   exact ⟨by rw [seqIndex_of h0 h1,e],by omega,by omega,h1⟩
  ·rw [if_neg h1] at h;cases h
 ·rw [if_neg h0] at h
  by_cases h1 : -(n:Int)≤i
  ·rw [if_pos h1] at h
   have e:(i+n).toNat=j:=Option.some.inj h
   exact ⟨by rw [seqIndex_neg (by omega) h1,e],by omega,h1,by omega⟩
  ·rw [if_neg h1] at h;cases h
theorem Zud {α:Type} {xs:List α} {i:Int} {v:α} (h:atI xs i=some v):∃ j,seqIndex? i xs.length=some j∧xs[j]?=some v∧j<xs.length∧-(xs.length:Int)≤i∧i<xs.length:=by
 unfold atI at h
 cases e:ixN xs.length i with
 | none=>rw [e] at h;cases h
 | some j =>
  rw [e] at h
  obtain ⟨h1,h2,h3,h4⟩:=Xva e
  exact ⟨j,h1,h,h2,h3,h4⟩
theorem Xe {α:Type} {xs:List α} {j:Nat} {v:α} (h:xs[j]?=some v):atI xs (j:Int)=some v:=by
 have hj:j<xs.length:=(List.getElem?_eq_some_iff.mp h).1
 have e:ixN xs.length (j:Int)=some j:=by
  unfold ixN
  rw [if_pos (by omega),if_pos (by omega)];simp
 unfold atI;rw [e];exact h
theorem Xsa {α:Type} (xs:List α) (v:α):atI (xs++[v]) (-1)=some v:=by
 have hl:(xs++[v]).length=xs.length+1:=by simp
 have e:ixN (xs++[v]).length (-1)=some xs.length:=by
  unfold ixN
  rw [hl,if_neg (by decide),if_pos (by omega)]
  congr 1
  omega
 unfold atI
 rw [e]
 show (xs++[v])[xs.length]?=some v
 simp
noncomputable def PlainIx (b:Expr):Prop:=∀ o i,subscripted b false o i=operate [o,i] (getItem o i)
noncomputable def IxR (X:Cx) (r:R2):Prop :=
 ∀ (value slice:Expr) (pins:List (Addr×Obj)) (s:Shared) (σ:St) (H:Hp) (x y:V) (v u:Value) (Q:VK),Inv X pins σ H s→RelV x v→RelV y u→r x y H Q→
  subscripted slice false v u=operate [v,u] (getItem v u)→wpAny (model X.prog X.w) X.A (subscriptTail value slice v u) (EP X pins σ Q) X.xe s
noncomputable def MtR (X:Cx) (id:String) (r:V→List V→Hp→VK→Prop):Prop :=
 ∀ (pins:List (Addr×Obj)) (s:Shared) (σ:St) (H:Hp) (x:V) (xs:List V) (v:Value) (us:List Value) (Q:VK),Inv X pins σ H s→RelV x v→Vals xs us→r x xs H Q→
  wpAny (model X.prog X.w) X.A (call (.builtin id) (v::us)) (EP X pins σ Q) X.xe s
section
variable {X:Cx} {a b:Expr} {ta tb:TE} {pos:Pos}
theorem IxR.or {r r':R2} (h:IxR X r) (h':IxR X r'):IxR X (fun x y H Q=>r x y H Q∨r' x y H Q):=by
 intro value slice pins s σ H x y v u Q I rx ry q hs
 rcases q with q | q
 ·exact h value slice pins s σ H x y v u Q I rx ry q hs
 ·exact h' value slice pins s σ H x y v u Q I rx ry q hs
theorem Xb {r:R2} (hr:IxR X r) (ha:PE X a ta) (hb:PE X b tb) (hs:PlainIx b):PE X (.Subscript a b pos) (tOp r ta tb):=by
 intro pins s σ H Q I h
 exact Subscript_ (binT ha hb I h fun v u s2 x y H2 I2 rx ry q=>hr a b pins s2 σ H2 x y v u Q I2 rx ry q (hs _ _))
noncomputable def rIxL (K:PySem.W.Frag):R2:=fun x y H Q=>∃ p xs i v,x = .ref p∧y = .int i∧SqL K H p xs∧atI xs i=some v∧Q v H
noncomputable def rIxT (K:PySem.W.Frag):R2:=fun x y H Q=>∃ p xs i v,x = .ref p∧y = .int i∧SqT K H p xs∧atI xs i=some v∧Q v H
noncomputable def rIxS:R2:=fun x y H Q=>∃ z i c,x = .str z∧y = .int i∧z.length≤sizeLine∧atI z.cps.toList i=some c∧Q (.str ⟨#[c]⟩) H
theorem Xuj:IxR X (rIxL X.K):=by
 intro value slice pins s σ H x y v u Q I rx ry h hs
 obtain ⟨p,xs,i,z,rfl,rfl,hq,he,q⟩:=h
 cases rx
 obtain ⟨t,rfl⟩:=ry
 obtain ⟨its,r,pl,hz⟩:=I.list hq
 obtain ⟨j,h1,h2,h3,h4,h5⟩:=Zud he
 obtain ⟨w,ew,rw'⟩:=r.get h2
 have hl:=r.length
 have hn:=line63
 have fin:EP X pins σ Q w s:=⟨z,H,I,rw',q⟩
 by_cases h0:0≤i
 ·have hj:i.toNat=j:=by
   rw [seqIndex_of h0 h5] at h1
   exact Option.some.inj h1
  exact item_listR pl.isList h0 (by omega) (by rw [hj];simpa using ew) fin hs
 ·have hj:(i+(its.toArray.size:Int)).toNat=j:=by
   rw [seqIndex_neg (by omega) h4] at h1
   rw [List.size_toArray,← hl]
   exact Option.some.inj h1
  exact subscriptTail_builtinR (x:=w) pl.isList.typeIs slot_list_getitem.lookup
   (wpAny_getItem_list_neg (Q:=fun r s'=>r=w∧EP X pins σ Q r s') pl.isList (by omega) (by rw [List.size_toArray]<;>omega) (by omega) (by rw [hj];simpa using ew) ⟨rfl,fin⟩) hs
theorem Xzf:IxR X (rIxT X.K):=by
 intro value slice pins s σ H x y v u Q I rx ry h hs
 obtain ⟨p,xs,i,z,rfl,rfl,hq,he,q⟩:=h
 cases rx
 obtain ⟨t,rfl⟩:=ry
 obtain ⟨its,r,pl,hz⟩:=I.tuple hq
 obtain ⟨j,h1,h2,h3,h4,h5⟩:=Zud he
 obtain ⟨w,ew,rw'⟩:=r.get h2
 have hl:=r.length
 have hn:=line63
 have fin:EP X pins σ Q w s:=⟨z,H,I,rw',q⟩
 exact subscriptTail_builtinR (x:=w) pl.typeIs slot_tuple_getitem.lookup
  (getItem_tuple (j:=j) (Q:=fun r s'=>r=w∧EP X pins σ Q r s') pl (by omega) (by omega) (by rw [List.size_toArray,← hl];exact h1) (by simpa using ew) ⟨rfl,fin⟩) hs
theorem Xzg:IxR X rIxS:=by
 intro value slice pins s σ H x y v u Q I rx ry h hs
 obtain ⟨z,i,c,rfl,rfl,hz,he,q⟩:=h
 obtain ⟨t,rfl⟩:=rx
 obtain ⟨t',rfl⟩:=ry
 obtain ⟨j,h1,h2,h3,h4,h5⟩:=Zud he
 have hl:z.cps.toList.length=z.length:=by simp [Str.length]
 rw [hl] at h1 h4 h5
 have hn:=line63
 exact tail_any (typeIs_str s z t) slot_str_getitem.lookup (getItem_str (c:=c) (by
  have e1:decide (i < -(2 ^ 63:Int))=false:=decide_eq_false (by omega)
  have e2:decide (i≥2 ^ 63)=false:=decide_eq_false (by omega)
  rw [e1,e2,Bool.or_false]) (by rw [h1];simpa using h2) ⟨.str ⟨#[c]⟩,H,I.tok _,⟨_,rfl⟩,q⟩) hs
theorem Zre (lo hi:Option Int) (n:Nat):(sliceBounds lo hi none n).1=((HT.sIx n 0 lo:Nat):Int)∧(sliceBounds lo hi none n).2.1=((HT.sIx n n hi:Nat):Int)∧(sliceBounds lo hi none n).2.2=1:=by
 refine ⟨?_,?_,rfl⟩
 ·cases lo with
  | none=>simp [sliceBounds,HT.sIx]
  | some i =>
   simp only [sliceBounds,HT.sIx,Option.getD_none,show (1:Int) > 0 by decide,if_true]
   by_cases h:i<0
   ·simp only [h,if_true]<;>omega
   ·simp only [h,if_false]<;>omega
 ·cases hi with
  | none=>simp [sliceBounds,HT.sIx]
  | some i =>
   simp only [sliceBounds,HT.sIx,Option.getD_none,show (1:Int) > 0 by decide,if_true]
   by_cases h:i<0
   ·simp only [h,if_true]<;>omega
   ·simp only [h,if_false]<;>omega
theorem Zmj (its:List Value) (lo hi:Option Int):slicePick its.toArray lo hi none=((its.drop (HT.sIx its.length 0 lo)).take (HT.sIx its.length its.length hi - HT.sIx its.length 0 lo)).toArray:=by
 obtain ⟨h1,h2,h3⟩:=Zre lo hi its.toArray.size
 unfold slicePick
 rw [h1,h2,h3]
 simp only [sliceRange_one,pick_run,List.size_toArray]<;>rfl
noncomputable def rSlL (K:PySem.W.Frag):V→Option Int→Option Int→Hp→VK→Prop:=fun x lo hi H Q=>∃ a xs,x = .ref a∧SqL K H a xs∧∀ p,H p=none→Q (.ref p) (upd H p (.lst (cutV xs lo hi)))
theorem Xsi:SlR X (rSlL X.K):=by
 intro pins s σ H x v vl vu lo hi sl Q I rx hs pl pu h
 obtain ⟨a,xs,rfl,hx,q⟩:=h
 cases rx
 obtain ⟨its,r,ht,hz⟩:=I.list hx
 have hlen:=r.length
 refine ⟨"list",_,slot_list_getitem.lookup,ht.isList.typeIs,?_⟩
 refine wpAny_getItem_list_slice ht.isList hs pl pu .none (by simp) ?_ (by rw [List.size_toArray]<;>omega)
 rw [Zmj,← hlen]
 refine ⟨.ref s.heap.objs.size,_,I.laid (t':=s.toks) (o := .lst (cutV xs lo hi)) (fun b ob q=>Heap.get?_push_of_some _ q) (Nat.le_refl _) ?_,rfl,q _ (I.hok.fresh (Nat.le_refl _))⟩
 exact ⟨Nat.le_trans (Zai xs lo hi) hz,_,0,(r.drop (HT.sIx xs.length 0 lo)).take (HT.sIx xs.length xs.length hi - HT.sIx xs.length 0 lo),Heap.get?_push_size _ rfl⟩
noncomputable def flatV:V→Bool
 | .non=>true
 | .bl _=>true
 | .int _=>true
 | .str _=>true
 | _=>false
noncomputable def eqV:V→V→Bool
 | .non,.non=>true
 | .bl a,.bl b=>a == b
 | .bl a,.int b=>(if a then 1 else 0) == b
 | .int a,.bl b=>a == (if b then 1 else 0)
 | .int a,.int b=>a == b
 | .str a,.str b=>a == b
 | _,_=>false
theorem Yaa {A:Around} {s:Shared} {y x:V} {u v:Value} (ry:RelV y u) (rx:RelV x v) (fy:flatV y=true) (fx:flatV x=true):SeqAt.EqAt A s u v (eqV y x):=by
 cases y with
 | non =>
  cases ry
  cases x with
  | non=>cases rx;exact SeqAt.EqAt.same _
  | bl b=>cases rx;exact SeqAt.EqAt.none_bool b
  | int b=>obtain ⟨t,rfl⟩:=rx;exact SeqAt.EqAt.none_int b t
  | str b=>obtain ⟨t,rfl⟩:=rx;exact SeqAt.EqAt.none_str b t
  | _=>exact absurd (show false=true from fx) Bool.false_ne_true
 | bl a =>
  cases ry
  cases x with
  | non=>cases rx;exact SeqAt.EqAt.bool_none a
  | bl b=>cases rx;exact SeqAt.EqAt.bool_bool a b
  | int b=>obtain ⟨t,rfl⟩:=rx;exact SeqAt.EqAt.bool_int a b t
  | str b=>obtain ⟨t,rfl⟩:=rx;exact SeqAt.EqAt.bool_str a b t
  | _=>exact absurd (show false=true from fx) Bool.false_ne_true
 | int a =>
  obtain ⟨t',rfl⟩:=ry
  cases x with
  | non=>cases rx;exact SeqAt.EqAt.int_none a t'
  | bl b=>cases rx;exact SeqAt.EqAt.int_bool a t' b
  | int b=>obtain ⟨t,rfl⟩:=rx;exact SeqAt.EqAt.int_int a t' b t
  | str b=>obtain ⟨t,rfl⟩:=rx;exact SeqAt.EqAt.int_str a t' b t
  | _=>exact absurd (show false=true from fx) Bool.false_ne_true
 | str a =>
  obtain ⟨t',rfl⟩:=ry
  cases x with
  | non=>cases rx;exact SeqAt.EqAt.str_none a t'
  | bl b=>cases rx;exact SeqAt.EqAt.str_bool a t' b
  | int b=>obtain ⟨t,rfl⟩:=rx;exact SeqAt.EqAt.str_int a t' b t
  | str b=>obtain ⟨t,rfl⟩:=rx;exact SeqAt.EqAt.str_str a t' b t
  | _=>exact absurd (show false=true from fx) Bool.false_ne_true
 | _=>exact absurd (show false=true from fy) Bool.false_ne_true
noncomputable def eqU (x:V) (u:Value):Bool:=match u with
 | .none=>eqV .non x
 | .bool b=>eqV (.bl b) x
 | .int i _=>eqV (.int i) x
 | .str z _=>eqV (.str z) x
 | _=>false
theorem Xra {x y:V} {u:Value} (r:RelV y u) (f:flatV y=true):eqU x u=eqV y x:=by
 cases y with
 | non=>cases r;rfl
 | bl b=>cases r;rfl
 | int i=>obtain ⟨t,rfl⟩:=r;rfl
 | str z=>obtain ⟨t,rfl⟩:=r;rfl
 | _=>exact absurd (show false=true from f) Bool.false_ne_true
theorem Zfa {x:V}:∀ {xs:List V} {us:List Value},Vals xs us→xs.all flatV=true→us.any (eqU x)=xs.any fun y=>eqV y x
 | _,_,.nil,_=>rfl
 | y::xs,u::us,.cons r t,f=>by
  rw [List.all_cons,Bool.and_eq_true] at f
  rw [List.any_cons,List.any_cons,Xra r f.1,Zfa t f.2]
theorem Zae {A:Around} {s:Shared} {x:V} {v:Value} (rx:RelV x v) (fx:flatV x=true):∀ {xs:List V} {us:List Value},Vals xs us→xs.all flatV=true→∀ u∈us,SeqAt.EqAt A s u v (eqU x u)
 | _,_,.nil,_=>fun u hu=>by cases hu
 | y::xs,u::us,.cons r t,f=>fun u' hu=>by
  rw [List.all_cons,Bool.and_eq_true] at f
  rcases List.mem_cons.mp hu with rfl | hu
  ·rw [Xra r f.1];exact Yaa r rx f.1 fx
  ·exact Zae rx fx t f.2 u' hu
noncomputable def inV (x:V) (xs:List V):Bool:=xs.any fun y=>eqV y x
noncomputable def rIn (K:PySem.W.Frag) (neg:Bool):R2:=fun x y H Q=>∃ p xs,y = .ref p∧(SqL K H p xs∨SqT K H p xs)∧flatV x=true∧xs.all flatV=true∧Q (.bl (if neg then !inV x xs else inV x xs)) H
theorem Jq:OpR X (compareOp .In) (rIn X.K false):=by
 intro pins s σ H x y v u Q I rx ry h
 obtain ⟨p,xs,rfl,hq,fx,fs,q⟩:=h
 cases ry
 rcases hq with hq | hq
 ·obtain ⟨its,r,pl,hz⟩:=I.list hq
  refine SeqAt.in_listAt (eqU x) pl.isList (fun w hw=>Zae rx fx r fs w (by simpa using hw)) ⟨.bl _,H,I,rfl,?_⟩
  rw [show its.toArray.any (eqU x)=its.any (eqU x) by simp,Zfa r fs]
  exact q
 ·obtain ⟨its,r,pl,hz⟩:=I.tuple hq
  refine SeqAt.in_tupleAt (eqU x) pl (fun w hw=>Zae rx fx r fs w (by simpa using hw)) ⟨.bl _,H,I,rfl,?_⟩
  rw [show its.toArray.any (eqU x)=its.any (eqU x) by simp,Zfa r fs]
  exact q
theorem Jm:OpR X (compareOp .NotIn) (rIn X.K true):=by
 intro pins s σ H x y v u Q I rx ry h
 obtain ⟨p,xs,rfl,hq,fx,fs,q⟩:=h
 cases ry
 rcases hq with hq | hq
 ·obtain ⟨its,r,pl,hz⟩:=I.list hq
  refine SeqAt.notIn_listAt (eqU x) pl.isList (fun w hw=>Zae rx fx r fs w (by simpa using hw)) ⟨.bl _,H,I,rfl,?_⟩
  rw [show its.toArray.any (eqU x)=its.any (eqU x) by simp,Zfa r fs]
  exact q
 ·obtain ⟨its,r,pl,hz⟩:=I.tuple hq
  refine SeqAt.notIn_tupleAt (eqU x) pl (fun w hw=>Zae rx fx r fs w (by simpa using hw)) ⟨.bl _,H,I,rfl,?_⟩
  rw [show its.toArray.any (eqU x)=its.any (eqU x) by simp,Zfa r fs]
  exact q
noncomputable def tyV (K:PySem.W.Frag) (T:String) (x:V) (H:Hp):Prop:=match x with
 | .str _=>T="str"
 | .int _=>T="int"
 | .ref p=>(T="list"∧∃ xs,SqL K H p xs)∨(T="tuple"∧∃ o,K.lookup p=some o∧o.cls = .type "tuple"∧o.dict=none)∨
   (T="dict"∧((∃ kvs,H p=some (.dK kvs))∨∃ kvs,H p=some (.dT kvs)))∨(T="set"∧∃ S n,H p=some (.set S n))
 | _=>False
theorem Xmf {pins:List (Addr×Obj)} {σ:St} {H:Hp} {s:Shared} {T:String} {x:V} {v:Value} (I:Inv X pins σ H s) (r:RelV x v) (ty:tyV X.K T x H) :
  s.TypeIs v T∧∀ a,v = .ref a→∃ ob,s.heap.get? a=some ob∧ob.dict=none:=by
 cases x with
 | str z =>
  obtain ⟨t,rfl⟩:=r
  cases (show T="str" from ty)
  exact ⟨typeIs_str s z t,fun _ e=>nomatch e⟩
 | int i =>
  obtain ⟨t,rfl⟩:=r
  cases (show T="int" from ty)
  exact ⟨typeIs_int s i t,fun _ e=>nomatch e⟩
 | ref p =>
  cases r
  rcases ty with ⟨rfl,xs,hq⟩ | ⟨rfl,o,hk,hc,hd⟩ | ⟨rfl,hk⟩ | ⟨rfl,S,n,hk⟩
  ·obtain ⟨its,_,pl,_⟩:=I.list hq
   refine ⟨pl.isList.typeIs,fun a e=>?_⟩
   cases e
   obtain ⟨o,n,e,c,hd,_⟩:=pl
   exact ⟨o,e,hd⟩
  ·refine ⟨⟨o,I.kIn p o hk,hc⟩,fun a e=>?_⟩
   cases e
   exact ⟨o,I.kIn _ o hk,hd⟩
  ·have z:∃ o,s.heap.get? p=some o∧o.ExactDict:=by
    rcases hk with ⟨kvs,hk⟩ | ⟨kvs,hk⟩
    ·obtain ⟨_,_,_,_,o,_,_,e,ex,_⟩:=I.hok p _ hk
     exact ⟨o,e,ex⟩
    ·exact (show False from I.hok p _ hk).elim
   obtain ⟨o,e,ex⟩:=z
   refine ⟨⟨o,e,ex.1⟩,fun a e2=>?_⟩
   cases e2
   exact ⟨o,e,ex.2.1⟩
  ·obtain ⟨o,_,_,_,e,ex,_⟩:=I.hok p _ hk
   refine ⟨⟨o,e,ex.1⟩,fun a e2=>?_⟩
   cases e2
   exact ⟨o,e,ex.2.1⟩
 | _=>exact False.elim ty
noncomputable def tBM0 (K:PySem.W.Frag) (T:String) (r:V→List V→Hp→VK→Prop) (to:TE):TE:=fun σ H Q=>to σ H fun x H1=>tyV K T x H1∧r x [] H1 Q
noncomputable def tBM (K:PySem.W.Frag) (T:String) (r:V→List V→Hp→VK→Prop) (to:TE) (t:TA):TE:=fun σ H Q=>to σ H fun x H1=>tyV K T x H1∧t σ H1 fun xs H2=>r x xs H2 Q
variable {o e:Expr} {es:List Expr} {to:TE} {t:TA} {name:Str} {apos cpos:Pos} {T id:String} {r:V→List V→Hp→VK→Prop}
theorem Xbi (pa:PlainAttrs T) (slot:Slot T name id) (hty:typeOf (.builtin id)=pure (.type "method_descriptor")) (hm:MtR X id r) (ho:PE X o to)
  (hbase:attributeBase o name X.env (eval o X.env)=eval o X.env:=by rfl) (hline:(apos.endLine == cpos.line)=true:=by rfl):PE X (.Call (.Attribute o name apos) [] [] cpos) (tBM0 X.K T r to):=by
 intro pins s σ H Q I h
 refine wpAny_Call_method0_late hbase hline (thn (ho pins s σ H _ I h) fun v s1 ⟨x,H1,I1,r1,ty,q1⟩=>?_)
 obtain ⟨h1,h2⟩:=Xmf I1 r1 ty
 exact ⟨T,id,pa,slot,hty,h1,h2,Calls.callWith_builtin rfl (PySem.evalArgs_none (hm pins s1 σ H1 x [] v [] Q I1 r1 .nil q1))⟩
theorem Zgd (pa:PlainAttrs T) (slot:Slot T name id) (hty:typeOf (.builtin id)=pure (.type "method_descriptor")) (hm:MtR X id r) (ho:PE X o to) (ha:PA X (e::es) t)
  (hbase:attributeBase o name X.env (eval o X.env)=eval o X.env:=by rfl)
  (hfew:((backTo cpos (starEach (e::es) X.env)).all (fun x=>!x.1)&&(backToKw cpos (keywordEach [] X.env)).all (fun x=>x.1.isSome)
   && decide ((e::es).length+([]:List Keyword).length+(if ([]:List Keyword).isEmpty then 0 else 1)<30))=true:=by rfl)
  (hline:(apos.endLine == cpos.line)=true:=by rfl) (hs:starEach (e::es) X.env=(false,eval e X.env)::starEach es X.env:=by rfl) (hplain:(backTo cpos (starEach es X.env)).any (·.1)=false:=by rfl) :
  PE X (.Call (.Attribute o name apos) (e::es) [] cpos) (tBM X.K T r to t):=by
 intro pins s σ H Q I h
 refine wpAny_Call_method_late hbase hfew hline rfl (thn (ho pins s σ H _ I h) fun v s1 ⟨x,H1,I1,r1,ty,q1⟩=>?_)
 obtain ⟨h1,h2⟩:=Xmf I1 r1 ty
 refine ⟨T,id,pa,slot,hty,h1,h2,?_⟩
 have hA:=ha cpos pins s1 σ H1 _ I1 q1
 rw [hs] at hA ⊢
 refine Calls.callWith_builtin (by show (false||(backTo cpos (starEach es X.env)).any (·.1))=false;rw [hplain]<;>rfl) (Calls.evalArgs_plain ?_)
 exact thn hA fun us s2 ⟨vs,H2,I2,r2,q2⟩=>hm pins s2 σ H2 x vs v us Q I2 r1 r2 q2
end
end L2
namespace L2
open PySem PySem.Spec PyProof.Rows
noncomputable def MtM (X:Cx) (id:String) (r:V→List V→Hp→VK→Prop):Prop :=
 ∀ (pins:List (Addr×Obj)) (s:Shared) (σ:St) (H:Hp) (x:V) (xs:List V) (v:Value) (us:List Value) (Q:VK),Inv X pins σ H s→RelV x v→Vals xs us→r x xs H Q→
  wpAny (model X.prog X.w) X.A (call (.builtin id) (v::us)) (EP X pins σ Q) X.xe s
theorem Vals.one:∀ {x:V} {us:List Value},Vals [x] us→∃ u,us=[u]∧RelV x u
 | _,_,.cons r .nil=>⟨_,rfl,r⟩
theorem Vals.reverse {xs:List V} {us:List Value} (h:Vals xs us):Vals xs.reverse us.reverse:=by
 induction h with
 | nil=>exact .nil
 | cons r t ih=>rw [List.reverse_cons,List.reverse_cons];exact Vals.append ih (.cons r .nil)
section
variable {X:Cx} {pins:List (Addr×Obj)} {σ:St} {H:Hp} {s:Shared} {l b:Addr} {xs ys zs:List V}
theorem Inv.lset {its its':List Value} {n:Nat} {f:Array Value→Array Value} {t':Nat} (I:Inv X pins σ H s) (hH:H l=some (.lst xs))
  (e:s.heap.get? l=some {cls := .type "list",data := .seq its.toArray n}) (hf:f its.toArray=its'.toArray) (hv:Vals ys its') (hz:ys.length≤sizeLine) :
  Inv X pins σ (upd H l (.lst ys)) {s with heap:=s.heap.update l (Obj.mapSeq f),toks:=t'}:=by
 have q:=PySem.IsL.update e f
 rw [hf] at q
 refine I.write (x:=l) (e:=l) (by rw [hH];exact trivial) (.inl rfl) (fun b' u hb hu=>(Heap.get?_update_other s.heap (Obj.mapSeq f) (Ne.symm hb)).trans hu) ⟨_,q⟩ ?_
 exact ⟨hz,its',_,hv,q⟩
theorem Inv.lnew {its:List Value} {t':Nat} (I:Inv X pins σ H s) (hv:Vals ys its) (hz:ys.length≤sizeLine) :
  Inv X pins σ (upd H s.heap.objs.size (.lst ys)) {s with heap:=s.heap.push {cls := .type "list",data := .seq its.toArray},toks:=t'} :=
 I.laid (fun _ _ q=>Heap.get?_push_of_some _ q) (Nat.le_refl _) ⟨hz,its,0,hv,Heap.get?_push_size _ rfl⟩
theorem Inv.fresh (I:Inv X pins σ H s):H s.heap.objs.size=none:=I.hok.fresh (Nat.le_refl _)
theorem Inv.lstM (I:Inv X pins σ H s) (hH:H l=some (.lst xs)):xs.length≤sizeLine∧∃ (its:List Value) (n:Nat),Vals xs its∧xs.length=its.length∧s.heap.get? l=some {cls := .type "list",data := .seq its.toArray n}:=by
 obtain ⟨z,its,n,r,e⟩:=I.hok l _ hH
 exact ⟨z,its,n,r,r.length,e⟩
end
section
variable {X:Cx}
noncomputable def rAppend:V→List V→Hp→VK→Prop:=fun x vs H Q=>∃ l xs y,x = .ref l∧vs=[y]∧H l=some (.lst xs)∧xs.length<sizeLine∧Q .non (upd H l (.lst (xs++[y])))
theorem Zbe:MtM X "list.append" rAppend:=by
 intro pins s σ H x vs v us Q I rx rv h
 obtain ⟨l,xs,y,rfl,rfl,hH,hz,q⟩:=h
 cases rx
 obtain ⟨u,rfl,ru⟩:=rv.one
 obtain ⟨z,its,n,r,hl,e⟩:=I.lstM hH
 refine call_meets F.slot_list_append ⟨_,e,rfl⟩ F.entry_list_append (F.args_list_append_2 _ _) (PySem.list_append l its.toArray n u (by rw [List.size_toArray];omega)) ⟨e,?_⟩
 refine ⟨.non,_,I.lset (its':=its++[u]) hH e (by simp) (r.append (.cons ru .nil)) ?_,rfl,q⟩
 rw [List.length_append,List.length_singleton]
 omega
noncomputable def rCat:R2:=fun x y H Q=>∃ l b xs zs,x = .ref l∧y = .ref b∧H l=some (.lst xs)∧H b=some (.lst zs)∧xs.length+zs.length≤sizeLine∧∀ p,H p=none→Q (.ref p) (upd H p (.lst (xs++zs)))
theorem Zff:OpR X (binaryOp .Add) rCat:=by
 intro pins s σ H x y v u Q I rx ry h
 obtain ⟨l,b,xs,zs,rfl,rfl,hH,hB,hz,q⟩:=h
 cases rx
 cases ry
 obtain ⟨z,its,n,r,hl,e⟩:=I.lstM hH
 obtain ⟨z2,its2,n2,r2,hl2,e2⟩:=I.lstM hB
 refine PySem.P.add_list e e2 ?_ (by rw [List.size_toArray,List.size_toArray];omega)
 have ea:its.toArray++its2.toArray=(its++its2).toArray:=by simp
 rw [ea]
 exact ⟨.ref _,_,I.lnew (t':=s.toks) (r.append r2) (by rw [List.length_append];omega),rfl,q _ I.fresh⟩
end
section
variable {prog:Program} {w:World} {A:Around} {E:Value→Shared→Prop} {s:Shared}
set_option maxRecDepth 100000 in
end
section
variable {X:Cx}
end
end L2
namespace Att
open PySem PySem.W PySem.Calls PyProof.Rows
theorem Zhi {P:Params} {h:Heap}:∀ (ns:List Int) (vs:List Value),WellAll P h vs (ns.map WData.int)→IntsAre vs ns:=by
 intro ns
 induction ns with
 | nil =>
  intro vs w
  rw [List.map_nil] at w
  cases w
  exact .nil
 | cons n ns ih =>
  intro vs w
  rw [List.map_cons] at w
  cases w with
  | cons a b =>
   cases a
   exact .cons _ _ (ih _ b)
theorem Xhj {l:OpenLaw} {n:Nat} (hn:l.most=some n) {P:Params} {h:Heap} {args:List WData} {vals:List Value}
  (hpre:l.row.toRowW.claim.pre args=true) (hwl:WellAll P h vals args) :
  ∃ a vs ns,vals=[Value.ref a]∧args=[WData.list (ns.map WData.int)]∧h.get? a=some {cls := .type "list",data := .seq vs.toArray}∧IntsAre vs ns∧ns.length≤n:=by
 have hsh:WShape.hasAll [] args [.list .int]=true:=(pre_splitW hpre).1
 have hc:l.pre.holds [] {args:=args}=true:=(pre_splitW hpre).2
 obtain ⟨d,r,rfl,h1,h2⟩:=hasAllW_cons hsh
 obtain rfl:=hasAllW_nil h2
 obtain ⟨xs,rfl,h3⟩:=hasW_list h1
 obtain ⟨ns,rfl⟩:=items_int h3
 have hlen:ns.length≤n:=by
  unfold OpenLaw.pre at hc
  have h4:(WTm.not (.lt (.lit (.int (n:Int))) (.len (.arg 0)))).holds [] {args:=[.list (ns.map .int)]}=true:=by
   have h4:=(holds_andW hc).1
   rw [hn] at h4
   exact h4
  have h5:=condW_of h4 (w_not (w_lt w_lit (w_len_list (w_arg rfl))))
  rw [List.length_map] at h5
  refine Nat.le_of_not_lt fun q=>?_
  have q':(n:Int)<((ns.length:Nat):Int):=by omega
  first
   | (rw [decide_eq_true q'] at h5;exact absurd h5 (by decide))
   | (simp at h5;omega)
 cases hwl with
 | cons w1 w2 =>
  cases w2
  cases w1 with
  | list ho hall=>exact ⟨_,_,ns,rfl,rfl,ho,Zhi ns _ hall,hlen⟩
theorem Xig (l:OpenLaw) (args:List WData):l.row.toRowW.claim.post args (.bool true) args=true :=
 postW_of (r:=l.row.toRowW) (X:=(true == true))
  (show WShape.has [] (.bool true) .bool=true by first | rfl | decide | simp [WShape.has,WShape.arms,WShape.armsAll])
  (show (WTm.eq .res (.lit (.bool true))).value [] {args:=args,res:=some (.bool true),after:=args}=some (.bool (true == true)) from w_eq_bool (w_res rfl) w_lit) rfl
theorem attach_call {l:OpenLaw} {n:Nat} {q:Program} {loose:List Str} {XP:(Str→Option Value)→Heap→Prop} {YP:World→Heap→Prop} {d:DefRec}
  (hn:l.most=some n) (hdf:d.params.defaults=[])
  (call:∀ (w:World) (s₀ s₁:Shared) (mg mb:Str→Option Value) (fa:Addr) (o:Obj) (pm cd doc:Value) (a:Addr) (vs:List Value) (ns:List Int),
   Ground q loose [] XP w s₀ mg mb s₁.heap→YP w s₁.heap→
   s₁.heap.get? fa=some o→o.data = .func (docDef d.name d.params d.body d.scope pm cd doc)→s₁.heap.CodeRec cd d.name→mg d.name=some (.ref fa)→
   s₁.heap.get? a=some {cls := .type "list",data := .seq vs.toArray}→IntsAre vs ns→ns.length≤n→s₁.gens=#[]→
   codeAny (model l.prog w) callerA (.call (.ref fa) ⟨[.ref a],[]⟩) (fun r s'=>r = .ok (.ret (.bool true))∧OldK s₁.heap s'.heap∧s'.os=s₁.os∧AllBare s'.gens) s₁) :
  WalkO q loose XP YP l.row.toRowW d [] (fun f vs=>PySem.call f vs):=by
 intro w s₀ s₁ mg mb G Y fa o pm cd doc dV kV ho hd hcd hD hmg hg args vals as hpre hlay hrd hwl hlo
 obtain rfl:dV = .none:=Dflts.none hD hdf
 obtain rfl:kV = .none:=Dflts.noKw hD
 obtain ⟨a,vs,ns,rfl,rfl,hobj,hints,hlen⟩:=Xhj hn hpre hwl
 refine enter_call (codeAny_mono (call w s₀ s₁ mg mb fa o pm cd doc a vs ns G Y ho (fd_plain hd) hcd hmg hobj hints hlen hg) fun r s' hq=>?_)
 obtain ⟨rfl,h2,h3,h4⟩:=hq
 exact ⟨.inl ⟨.bool true,.bool true,[],rfl,fun _=>rfl,.bool true,Xig l _,fun _=>⟨List.Pairwise.nil,fun _ hm=>(nomatch hm)⟩⟩,h2,h3,h4⟩
section
variable {prog:Program} {w:World} {A:Around} {E:Value→Shared→Prop} {s:Shared} {K:Frag}
noncomputable def ledger (h:Heap) (L d:Addr):List (Addr×Obj):=(List.range h.objs.size).filterMap fun a=>if a=L∨a=d then none else (h.get? a).map fun o=>(a,o)
end
end Att
namespace L2
open PySem PySem.Spec PyProof.Rows
theorem Zof:∀ {vs:List Value} {ns:List Int},IntsAre vs ns→Vals (ns.map V.int) vs
 | _,_,.nil => .nil
 | _,_,.cons n t h => .cons ⟨t,rfl⟩ (Zof h)
noncomputable def Only (H:Hp):Prop:=∀ b,H b=none∨∃ o xs,H b=some (.frz o (.lst xs))
theorem law_call {P:Program} {w:World} {K:PySem.W.Frag} {mg mb:Str→Option Value} {CX:CXT} {k:Nat} {fa a:Addr} {fd:FuncData} {x:Str} {sp:Sp} {s₁:Shared} {vs:List Value} {ns:List Int}
  (KX:K.In s₁.heap) (hns:s₁.heap.Ns mainGlobals mg) (hb:s₁.heap.Ns builtinsNs mb) (hbb:∀ x:Str,x≠"__name__"→mb x=bootBuiltins x) (hlim:s₁.heap.NoLimit) (hg:s₁.gens=#[])
  (ha:s₁.heap.get? a=some {cls := .type "list",data := .seq vs.toArray}) (hi:IntsAre vs ns) (hl:ns.length≤sizeLine) (hr:Room k callerA)
  (F:∀ base:Heap,K.In base→base.Ns mainGlobals mg→FnOk P w K mg base CX k fa fd [x] sp) (hbind:∀ (s:Shared) (u:Value),BindsTo s fd ⟨[u],[]⟩ [(x,u)])
  (hsp:∀ H:Hp,Only H→SqL K H a (ns.map V.int)→sp [.ref a] H (fun v _=>v = .bl true) fun _ _ _=>False)
  (hCX:∀ H e s',CX [] H s₁ (fun _ _ _=>False) e s'→False) :
  codeAny (model P w) callerA (.call (.ref fa) ⟨[.ref a],[]⟩) (fun r s'=>r = .ok (.ret (.bool true))∧OldK s₁.heap s'.heap∧s'.os=s₁.os∧AllBare s'.gens) s₁:=by
 have rv:=Zof hi
 have lenV:=hi.length
 have core:∀ H:Hp,Only H→SqL K H a (ns.map V.int)→HOk P w H s₁.heap→(∀ b,H b≠none→b=a)→(H a≠none→K.lookup a=none)→
   codeAny (model P w) callerA (.call (.ref fa) ⟨[.ref a],[]⟩) (fun r s'=>r = .ok (.ret (.bool true))∧OldK s₁.heap s'.heap∧s'.os=s₁.os∧AllBare s'.gens) s₁:=by
  intro H hO hS hok hA hK
  have base_of:∀ {b:Addr} {o:Obj},s₁.heap.get? b=some o→H b=none→(hidT s₁.heap H).get? b=some o:=fun e n=>Xqc e n
  have noA:∀ {b:Addr} {o:Obj} {es:Array DictEntry} {ep:Nat},s₁.heap.get? b=some o→o.data = .dict es ep→H b=none:=fun {b o es ep} e d=>by
   cases q:H b with
   | none=>rfl
   | some u =>
    have e':b=a:=hA b (by rw [q];simp)
    subst e'
    rw [ha] at e;cases e
    have d':Data.seq vs.toArray _=Data.dict es ep:=d
    cases d'
  have nsK:∀ {b:Addr} {m:Str→Option Value},s₁.heap.Ns b m→(hidT s₁.heap H).Ns b m:=fun {b m} ⟨o,es,ep,e,d,r⟩=>⟨o,es,ep,base_of e (noA e d),d,r⟩
  have hKb:K.In (hidT s₁.heap H):=fun b o e=>base_of (KX b o e) (by
   cases q:H b with
   | none=>rfl
   | some u =>
    have e':b=a:=hA b (by rw [q];simp)
    subst e'
    rw [hK (by rw [q];simp)] at e;cases e)
  have hM:Mod K mg (hidT s₁.heap H):=⟨hKb,nsK hns,⟨mb,nsK hb,hbb⟩,let ⟨mc,h1,h2⟩:=hlim;⟨mc,nsK h1,h2⟩⟩
  have e0:Env0 P w K mg (hidT s₁.heap H) callerA [] s₁ H:=⟨rfl,hM,fun b o e=>Xuh e,Nat.le_of_eq (Xkf _ _),trivial,fun b hb=>absurd (show b∈([]:List Addr) from hb) (by simp),hok,.of_eq hg⟩
  refine codeAny_mono ((F _ hKb (nsK hns)).run callerA [] s₁ H ⟨[.ref a],[]⟩ [.ref a] [.ref a] _ _ hr e0 (hbind s₁ (.ref a)) (.cons rfl .nil) (hsp H hO hS)) fun r s' h=>?_
  cases r with
  | error e=>exact (hCX H e s' h).elim
  | ok fl =>
   cases fl with
   | next=>exact False.elim h
   | brk=>exact False.elim h
   | cont=>exact False.elim h
   | ret u =>
    obtain ⟨v,H',os,bare,un,hok',r',q⟩:=h
    have q':v = .bl true:=q
    subst q'
    obtain rfl:u=Value.bool true:=r'
    refine ⟨rfl,OldK.of_keep fun b o e=>?_,os,bare⟩
    cases q:H b with
    | none=>exact un.keep b o e q (by intro z;exact absurd (show b∈([]:List Addr) from z) (by simp)) (by simp)
    | some u =>
     rcases hO b with z | ⟨ob,xs,z⟩
     ·rw [q] at z;cases z
     ·have z2:=un.frzs b ob _ z
      obtain ⟨e1,_⟩:=hok b _ z
      obtain ⟨e2,_⟩:=hok' b _ z2
      rw [e] at e1;cases e1
      exact e2
 cases hk:K.lookup a with
 | some o =>
  have e:=KX a o hk
  rw [ha] at e
  cases e
  refine core (fun _=>none) (fun _ => .inl rfl) (.inr ⟨_,vs.toArray,_,hk,rfl,rfl,rfl,by rw [List.size_toArray,lenV];exact hl,by simpa using rv⟩) (fun b u z=>by have z':(none:Option HO)=some u:=z;cases z') (fun b z=>absurd rfl z) fun z=>absurd rfl z
 | none =>
  refine core (fun b=>if b=a then some (.frz {cls := .type "list",data := .seq vs.toArray} (.lst (ns.map V.int))) else none) (fun b=>?_) (.inl (.inr ⟨{cls := .type "list",data := .seq vs.toArray},if_pos rfl⟩)) (fun b u z=>?_) (fun b z=>?_) fun _=>hk
  ·by_cases hb:b=a
   ·exact .inr ⟨_,_,if_pos hb⟩
   ·exact .inl (if_neg hb)
  ·by_cases hb:b=a
   ·have z':=(if_pos hb).symm.trans z
    cases z'
    subst hb
    exact ⟨ha,by rw [List.length_map];exact hl,vs,_,rv,ha⟩
   ·have z':=(if_neg hb).symm.trans z
    cases z'
  ·by_cases hb:b=a
   ·exact hb
   ·exact absurd (if_neg hb) z
end L2
namespace L2
open PySem PySem.Spec PyProof.Rows
theorem Xsg {l:PySem.W.OpenLaw} {n k:Nat} {q:Program} {loose:List Str} {XP:(Str→Option Value)→Heap→Prop} {YP:World→Heap→Prop} {d:DefRec} {K:Params→PySem.W.Frag} {CX:World→CXT} {sp:World→Sp} {x:Str}
  (hn:l.most=some n) (hn2:n≤sizeLine) (hdf:d.params.defaults=[]) (hr:Room k callerA)
  (hY:∀ (w:World) (h:Heap),YP w h→(K w.params).In h)
  (F:∀ (w:World) (mg:Str→Option Value) (fa:Addr) (h:Heap),(K w.params).In h→h.Ns mainGlobals mg→mg d.name=some (.ref fa)→
   ∃ fd:FuncData,(∀ (s:Shared) (u:Value),BindsTo s fd ⟨[u],[]⟩ [(x,u)])∧
    ∀ base:Heap,(K w.params).In base→base.Ns mainGlobals mg→FnOk l.prog w (K w.params) mg base (CX w) k fa fd [x] (sp w))
  (hsp:∀ (w:World) (H:Hp) (a:Addr) (ns:List Int),ns.length≤n→Only H→SqL (K w.params) H a (ns.map V.int)→sp w [.ref a] H (fun v _=>v = .bl true) fun _ _ _=>False)
  (hCX:∀ (w:World) (H:Hp) (s:Shared) (e:Value) (s':Shared),CX w [] H s (fun _ _ _=>False) e s'→False) :
  PySem.W.WalkO q loose XP YP l.row.toRowW d [] (fun f vs=>PySem.call f vs):=by
 refine Att.attach_call hn hdf fun w s₀ s₁ mg mb fa o pm cd doc a vs ns G Y ho hd hcd hmg hobj hints hlen hg=>?_
 have KX:=hY w _ Y
 obtain ⟨fd,hb,hF⟩:=F w mg fa _ KX G.T.g hmg
 exact law_call KX G.T.g G.T.b G.T.builtins G.T.nolimit hg hobj hints (Nat.le_trans hlen hn2) hr hF hb (fun H hO hS=>hsp w H a ns hlen hO hS) fun H e s'=>hCX w H s₁ e s'
end L2
namespace L2
open PySem PySem.Spec PyProof.Rows
noncomputable def inClass (s:Stmt) (j:Nat):Stmt:=match s with
 | .ClassDef _ _ _ body _ _ _ _ _ _ _=>body.getD j (.Pass ⟨0,0,0,0⟩)
 | _ => .Pass ⟨0,0,0,0⟩
noncomputable def defArgs (s:Stmt):Arguments:=match s with
 | .FunctionDef _ a _ _ _ _ _ _ _ _=>a
 | _=>{posonlyargs:=[],args:=[],vararg:=none,kwonlyargs:=[],kw_defaults:=[],kwarg:=none,defaults:=[]}
noncomputable def defBody (s:Stmt):List Stmt:=match s with
 | .FunctionDef _ _ b _ _ _ _ _ _ _=>b
 | _=>[]
noncomputable def defScope (s:Stmt):Scope:=match s with
 | .FunctionDef _ _ _ _ _ _ sc _ _ _=>sc
 | _=>{kind := .function,names:=[],isGenerator:=false,isCoroutine:=false}
noncomputable abbrev CX0:CXT:=fun _ _ _ _ _ _=>False
noncomputable abbrev E0:XK:=fun _ _ _=>False
theorem pass0 {X:Cx}:Passes CX0 X E0:=fun _ _ _ _ _ _ _ h=>h.elim
structure Fun (K:PySem.W.Frag) (x qual:Str) (st:Stmt) (f:Addr) (fd:FuncData):Prop where
 ex:∃ (oc:Value) (od:Option Addr) (kV doc pm:Value) (an:Option Addr) (cdv ct:Value) (osl:Array (Option Value)),
  fd=PySem.W.fnOf x qual (defArgs st) (defBody st) (defScope st) .none kV doc pm an cdv ct∧K.lookup f=some ⟨oc,od,.func fd,osl⟩∧PySem.W.codeIn K cdv qual=true
 kp:PySem.W.keepIn K (.ref f)=true
section
variable {P:Program} {w:World} {K:PySem.W.Frag} {mg:Str→Option Value} {base:Heap}
theorem Fun.ok {x qual:Str} {st:Stmt} {f:Addr} {fd:FuncData} {N ps:List Str} {k:Nat} {sp:Sp} (F:Fun K x qual st f fd) (S:FnScope N ps (defScope st)) (len:∀ vs H Q E,sp vs H Q E→vs.length=ps.length)
  (hbody:∀ (cdv:Value) (A:Around) (outer:List Env) (s:Shared) (H:Hp) (vs:List V) (Q:VK) (E:XK),Room k (A.deeper (envOfC qual (defScope st) s.heap.objs.size f cdv))→sp vs H Q E→
   ∃ t,PSs (cxOf CX0 P w K mg base N qual (defScope st) f cdv A outer s H E).nox (defBody st) t∧t {nx:=fun _ H'=>Q .non H',rt:=Q} (start N vs) H):FnOk P w K mg base CX0 (k+1) f fd ps sp:=by
 obtain ⟨oc,od,kV,doc,pm,an,cdv,ct,osl,rfl,lk,hcd⟩:=F.ex
 refine Xwd lk hcd S len fun A outer s H vs Q E hr hsp=>?_
 obtain ⟨t,h,q⟩:=hbody cdv A outer s H vs Q E hr hsp
 exact ⟨t,h.nox,q⟩
theorem Fun.binds {x qual:Str} {st:Stmt} {f:Addr} {fd:FuncData} {ps:List Str} (F:Fun K x qual st f fd)
  (h:∀ (kV doc pm:Value) (an:Option Addr) (cdv ct:Value) (us:List Value),us.length=ps.length→bindArgs (PySem.W.fnOf x qual (defArgs st) (defBody st) (defScope st) .none kV doc pm an cdv ct) ⟨us,[]⟩=pure (ps.zip us)):Binds K fd ps []:=by
 obtain ⟨oc,od,kV,doc,pm,an,cdv,ct,osl,rfl,lk,hcd⟩:=F.ex
 exact .all (h kV doc pm an cdv ct)
theorem Zq {x qual:Str} {st:Stmt} {f:Addr} {oc:Value} {od an:Option Addr} {osl:Array (Option Value)} {kV doc pm cdv ct:Value} (l:K.lookup f=some ⟨oc,od,.func (PySem.W.fnOf x qual (defArgs st) (defBody st) (defScope st) .none kV doc pm an cdv ct),osl⟩)
  (c:PySem.W.codeIn K cdv qual=true) (k:PySem.W.keepIn K (.ref f)=true):Fun K x qual st f (PySem.W.fnOf x qual (defArgs st) (defBody st) (defScope st) .none kV doc pm an cdv ct):=⟨⟨oc,od,kV,doc,pm,an,cdv,ct,osl,rfl,l,c⟩,k⟩
end
section
variable {X:Cx}
theorem pv (i:Nat) {x:Str} {pos:Pos} (hN:X.N[i]?=some x:=by rfl) (hv:Vis X.env.scope x:=by first | exact Or.inl rfl | exact Or.inr (Or.inl rfl) | exact Or.inr (Or.inr rfl)) (hd:(x == ("__debug__":Str))=false:=by decide)
  (hcd:(x == ("__classdict__":Str))=false:=by decide):PE X (.Name x pos) (tVar i):=Xya hN hv hd hcd
end
theorem iteF {A B:Prop} (h:B):if false=true then A else B:=by
 rw [if_neg Bool.false_ne_true]
 exact h
theorem iteT {A B:Prop} (h:A):if true=true then A else B:=by
 rw [if_pos rfl]
 exact h
theorem iteNS {c A B:Prop} [Decidable c] (hc:c) (h:B):if (!decide c)=true then A else B:=by
 rw [decide_eq_true hc]
 exact iteF h
noncomputable def Same (H H':Hp):Prop:=∀ b o,H b=some o→H' b=some o
theorem Same.refl (H:Hp):Same H H:=fun _ _ h=>h
theorem Same.trans {H H1 H2:Hp} (a:Same H H1) (b:Same H1 H2):Same H H2:=fun c o h=>b c o (a c o h)
theorem Same.free {H H':Hp} (e:Same H H') {l:Addr} (h:H' l=Option.none):H l=Option.none:=by
 cases q:H l with
 | none=>rfl
 | some o =>
  rw [e l o q] at h
  cases h
theorem Same.seq {K:PySem.W.Frag} {H H':Hp} {a:Addr} {xs:List V} (e:Same H H') (h:SqL K H a xs):SqL K H' a xs:=by
 rcases h with (h | ⟨o,h⟩) | h
 ·exact .inl (.inl (e _ _ h))
 ·exact .inl (.inr ⟨o,e _ _ h⟩)
 ·exact .inr h
end L2
section
namespace TS
open PySem PyProof.Rows
noncomputable def gal:Bool→Keyed→Array Keyed→Nat→Nat→Nat→StateT SortSt Sem (Option Nat):=sortPriv% PySem.Builtin.gallop
noncomputable def mLo:Array Keyed→Array Keyed→StateT SortSt Sem (Array Keyed):=sortPriv% PySem.Builtin.mergeLo
noncomputable def mHi:Array Keyed→Array Keyed→StateT SortSt Sem (Array Keyed):=sortPriv% PySem.Builtin.mergeHi
section
variable {prog:Program} {w:World} {A:Around} {E:Value→Shared→Prop} {s:Shared} {κ:KeyKind}
noncomputable def kv (κ:KeyKind) (p:Keyed):κ.α:=(κ.keyOf p.1).getD κ.dflt
noncomputable def Has (κ:KeyKind) (p:Keyed):Prop:=∃ a,κ.keyOf p.1=some a
theorem Zqa {xs:Array Keyed} {i:Nat} {p:Keyed} (h:xs[i]?=some p):KK κ xs i=kv κ p:=by unfold KK kv;rw [h]
theorem Xp {σ α:Type} {M:Model} {Q:α→σ→Prop} {st:σ} {c:Prop} [Decidable c] {f g:StateT σ Sem α} (hp:c→wpS M A E s f Q st) (hn:¬c→wpS M A E s g Q st):wpS M A E s (if c then f else g) Q st:=by
 by_cases z:c
 ·rw [if_pos z];exact hp z
 ·rw [if_neg z];exact hn z
theorem Zui {st:SortSt} {x y:Keyed} {Q:Option Bool→SortSt→Prop} (hO:κ.OneLt) (hk:kindOf st=oneType') (hx:Has κ x) (hy:Has κ y)
  (h:Q (some (κ.blt (kv κ x) (kv κ y))) st):wpS (model prog w) A E s (lt' x y) Q st:=by
 obtain ⟨a,ha⟩:=hx
 obtain ⟨b,hb⟩:=hy
 rw [lt'_eq]
 refine wpS_bind (wpS_get ?_)
 rw [hk,keyLt'_oneType]
 refine wpS_bind (wpS_lift (wpAny_attempt (hO prog w A _ s x.1 y.1 a b ha hb ⟨rfl,?_⟩)))
 refine wpS_pure ?_
 unfold kv at h
 rwa [ha,hb] at h
theorem Xl {st:SortSt} {arr:Array Keyed} {i:Nat} {Q:Keyed→SortSt→Prop} (hi:i<arr.size) (h:Q arr[i] st):wpS (model prog w) A E s (elem' arr i) Q st:=by
 rw [elem'_eq,Array.getElem?_eq_getElem hi]
 exact wpS_pure h
noncomputable def bey (κ:KeyKind) (left:Bool) (key p:Keyed):Bool:=if left then κ.blt (kv κ p) (kv κ key) else !(κ.blt (kv κ key) (kv κ p))
noncomputable def beyM (left:Bool) (key:Keyed) (arr:Array Keyed) (base i:Nat):StateT SortSt Sem (Option Bool):=do
 let x ← elem' arr (base+i)
 if left then lt' x key else do
  let r ← lt' key x
  pure (r.map (!·))
theorem Xxa {st:SortSt} {left:Bool} {key:Keyed} {arr:Array Keyed} {base i:Nat} {b:Bool} {Q:Option Bool→SortSt→Prop} (hO:κ.OneLt) (hk:kindOf st=oneType') (hkey:Has κ key) (hA:∀ p,p∈arr.toList→Has κ p)
  (hi:base+i<arr.size) (hb:b=bey κ left key arr[base+i]) (h:Q (some b) st):wpS (model prog w) A E s (beyM left key arr base i) Q st:=by
 unfold beyM
 refine wpS_bind (Xl hi ?_)
 have hp:Has κ arr[base+i]:=hA _ (by simp)
 subst hb
 unfold bey at h
 cases left with
 | true=>exact Zui hO hk hp hkey h
 | false=>exact wpS_bind (Zui hO hk hkey hp (wpS_pure h))
theorem Xwj {st:SortSt} {left:Bool} {key:Keyed} {arr:Array Keyed} {base n hint:Nat} {Q:Option Nat→SortSt→Prop} (b:Nat→Bool) (hO:κ.OneLt) (hk:kindOf st=oneType') (hkey:Has κ key) (hA:∀ p,p∈arr.toList→Has κ p)
  (hn:base+n≤arr.size) (hh:hint<n) (hb:∀ i (hi:base+i<arr.size),i<n→b i=bey κ left key arr[base+i])
  (mono:∀ i j,i≤j→j<n→b j=true→b i=true)
  (h:∀ k,k≤n→(∀ i,i<k→b i=true)→(∀ i,k≤i→i<n→b i=false)→Q (some k) st):wpS (model prog w) A E s (gal left key arr base n hint) Q st:=by
 have ask:∀ {i:Nat} {Q':Option Bool→SortSt→Prop},i<n→Q' (some (b i)) st→wpS (model prog w) A E s (beyM left key arr base i) Q' st:=fun {i Q'} hi h'=>Xxa hO hk hkey hA (by omega) (hb i (by omega) hi) h'
 have askp:∀ {i:Nat} {Q':Option Bool→SortSt→Prop} (c:Bool),b i=c→i<n→Q' (some c) st→wpS (model prog w) A E s (beyM left key arr base i) Q' st:=fun {i Q'} c e hi h'=>ask hi (by rw [e];exact h')
 cases hr:b hint with
 | true =>
  refine wpS_bind (askp true hr hh ?_)
  dsimp only
  rw [if_pos rfl]
  refine wpS_bind (wpS_mono (wpS_forRange (I:=fun x c st'=>st=st'∧∃ l o,c=(none,l,o)∧l<o∧x<o∧hint+l<n∧b (hint+l)=true)
   (Q:=fun c st'=>st=st'∧∃ l o,c=(none,l,o)∧l<o∧hint+l<n∧b (hint+l)=true∧(n - hint≤o∨(hint+o<n∧b (hint+o)=false))) ?_ ?_ ⟨rfl,0,1,rfl,by omega,by omega,hh,hr⟩) ?_)
  ·rintro x c st' _ hx ⟨rfl,l,o,rfl,h1,h2,h3,h4⟩
   dsimp only
   refine Xp (fun hge=>?_) fun hge=>?_
   ·exact wpS_pure ⟨rfl,l,o,rfl,h1,h3,h4,.inl hge⟩
   ·cases hm:b (hint+o) with
    | true =>
     refine wpS_bind (askp true hm (by omega) ?_)
     exact wpS_pure ⟨rfl,o,2*o+1,rfl,by omega,by omega,by omega,hm⟩
    | false =>
     refine wpS_bind (askp false hm (by omega) ?_)
     exact wpS_pure ⟨rfl,l,o,rfl,h1,h3,h4,.inr ⟨by omega,hm⟩⟩
  ·rintro c st' ⟨rfl,l,o,rfl,h1,h2,h3,h4⟩
   exact ⟨rfl,l,o,rfl,h1,h3,h4,.inl (by omega)⟩
  ·rintro c st' ⟨rfl,l,o,rfl,h1,h3,h4,h5⟩
   have q1:hint+l+1≤hint+min o (n - hint):=by omega
   have q2:hint+min o (n - hint)≤n:=by omega
   have q3:∀ i,i<hint+l+1→b i=true:=fun i hi=>mono i _ (by omega) h3 h4
   have q4:∀ i,hint+min o (n - hint)≤i→i<n→b i=false:=fun i hi hin=>by
    rcases h5 with h5 | ⟨h5,h6⟩
    ·omega
    ·cases hb':b i with
     | false=>rfl
     | true=>rw [mono (hint+o) i (by omega) hin hb'] at h6;cases h6
   refine wpS_bind (wpS_mono (wpS_forRange (I:=fun x c st'=>st=st'∧∃ l r,c=(none,l,r)∧l≤r∧r≤n∧r - l≤n - x∧(∀ i,i<l→b i=true)∧(∀ i,r≤i→i<n→b i=false))
    (Q:=fun c st'=>st=st'∧∃ r,c=(none,r,r)∧r≤n∧(∀ i,i<r→b i=true)∧(∀ i,r≤i→i<n→b i=false)) ?_ ?_ ⟨rfl,_,_,rfl,q1,q2,by omega,q3,q4⟩) ?_)
   ·rintro x c st' _ hx ⟨rfl,l,r,rfl,a1,a2,a3,a4,a5⟩
    dsimp only
    refine Xp (fun hge=>?_) fun hge=>?_
    ·obtain rfl:l=r:=by omega
     exact wpS_pure ⟨rfl,l,rfl,a2,a4,a5⟩
    ·cases hm:b (l+(r - l)/2) with
     | true =>
      refine wpS_bind (askp true hm (by omega) ?_)
      exact wpS_pure ⟨rfl,_,r,rfl,by omega,a2,by omega,fun i hi=>mono i _ (by omega) (by omega) hm,a5⟩
     | false =>
      refine wpS_bind (askp false hm (by omega) ?_)
      refine wpS_pure ⟨rfl,l,_,rfl,by omega,by omega,by omega,a4,fun i hi hin=>?_⟩
      cases hb':b i with
      | false=>rfl
      | true=>rw [mono _ i hi hin hb'] at hm;cases hm
   ·rintro c st' ⟨rfl,l,r,rfl,a1,a2,a3,a4,a5⟩
    obtain rfl:l=r:=by omega
    exact ⟨rfl,l,rfl,a2,a4,a5⟩
   ·rintro c st' ⟨rfl,r,rfl,a2,a4,a5⟩
    exact wpS_pure (h r a2 a4 a5)
 | false =>
  refine wpS_bind (askp false hr hh ?_)
  dsimp only
  rw [if_neg Bool.false_ne_true]
  refine wpS_bind (wpS_mono (wpS_forRange (I:=fun x c st'=>st=st'∧∃ l o,c=(none,l,o)∧l<o∧x<o∧l≤hint∧b (hint - l)=false)
   (Q:=fun c st'=>st=st'∧∃ l o,c=(none,l,o)∧l<o∧l≤hint∧b (hint - l)=false∧(hint+1≤o∨(o≤hint∧b (hint - o)=true))) ?_ ?_ ⟨rfl,0,1,rfl,by omega,by omega,by omega,hr⟩) ?_)
  ·rintro x c st' _ hx ⟨rfl,l,o,rfl,h1,h2,h3,h4⟩
   dsimp only
   refine Xp (fun hge=>?_) fun hge=>?_
   ·exact wpS_pure ⟨rfl,l,o,rfl,h1,h3,h4,.inl hge⟩
   ·cases hm:b (hint - o) with
    | false =>
     refine wpS_bind (askp false hm (by omega) ?_)
     exact wpS_pure ⟨rfl,o,2*o+1,rfl,by omega,by omega,by omega,hm⟩
    | true =>
     refine wpS_bind (askp true hm (by omega) ?_)
     exact wpS_pure ⟨rfl,l,o,rfl,h1,h3,h4,.inr ⟨by omega,hm⟩⟩
  ·rintro c st' ⟨rfl,l,o,rfl,h1,h2,h3,h4⟩
   exact ⟨rfl,l,o,rfl,h1,h3,h4,.inl (by omega)⟩
  ·rintro c st' ⟨rfl,l,o,rfl,h1,h3,h4,h5⟩
   have q1:hint+1 - min o (hint+1)≤hint - l:=by omega
   have q2:hint - l≤n:=by omega
   have q3:∀ i,i<hint+1 - min o (hint+1)→b i=true:=fun i hi=>by
    rcases h5 with h5 | ⟨h5,h6⟩
    ·omega
    ·exact mono i (hint - o) (by omega) (by omega) h6
   have q4:∀ i,hint - l≤i→i<n→b i=false:=fun i hi hin=>by
    cases hb':b i with
    | false=>rfl
    | true=>rw [mono (hint - l) i (by omega) hin hb'] at h4;cases h4
   refine wpS_bind (wpS_mono (wpS_forRange (I:=fun x c st'=>st=st'∧∃ l r,c=(none,l,r)∧l≤r∧r≤n∧r - l≤n - x∧(∀ i,i<l→b i=true)∧(∀ i,r≤i→i<n→b i=false))
    (Q:=fun c st'=>st=st'∧∃ r,c=(none,r,r)∧r≤n∧(∀ i,i<r→b i=true)∧(∀ i,r≤i→i<n→b i=false)) ?_ ?_ ⟨rfl,_,_,rfl,q1,q2,by omega,q3,q4⟩) ?_)
   ·rintro x c st' _ hx ⟨rfl,l,r,rfl,a1,a2,a3,a4,a5⟩
    dsimp only
    refine Xp (fun hge=>?_) fun hge=>?_
    ·obtain rfl:l=r:=by omega
     exact wpS_pure ⟨rfl,l,rfl,a2,a4,a5⟩
    ·cases hm:b (l+(r - l)/2) with
     | true =>
      refine wpS_bind (askp true hm (by omega) ?_)
      exact wpS_pure ⟨rfl,_,r,rfl,by omega,a2,by omega,fun i hi=>mono i _ (by omega) (by omega) hm,a5⟩
     | false =>
      refine wpS_bind (askp false hm (by omega) ?_)
      refine wpS_pure ⟨rfl,l,_,rfl,by omega,by omega,by omega,a4,fun i hi hin=>?_⟩
      cases hb':b i with
      | false=>rfl
      | true=>rw [mono _ i hi hin hb'] at hm;cases hm
   ·rintro c st' ⟨rfl,l,r,rfl,a1,a2,a3,a4,a5⟩
    obtain rfl:l=r:=by omega
    exact ⟨rfl,l,rfl,a2,a4,a5⟩
   ·rintro c st' ⟨rfl,r,rfl,a2,a4,a5⟩
    exact wpS_pure (h r a2 a4 a5)
noncomputable def le (κ:KeyKind) (p q:Keyed):Prop:=κ.kle (kv κ p) (kv κ q)
structure MS (κ:KeyKind) (T out X Y:List Keyed):Prop where
 px:(out++X).Pairwise (le κ)
 py:(out++Y).Pairwise (le κ)
 pm:(out++X++Y).Perm T
variable {T out X Y P:List Keyed}
theorem MS.takeX (h:MS κ T out (P++X) Y) (hp:∀ p,p∈P→∀ y,y∈Y→le κ p y):MS κ T (out++P) X Y:=by
 have p1:=h.px
 rw [← List.append_assoc] at p1
 refine ⟨p1,?_,by have:=h.pm;simpa only [List.append_assoc] using this⟩
 have p2:=List.pairwise_append.mp h.py
 refine List.pairwise_append.mpr ⟨(List.pairwise_append.mp p1).1,p2.2.1,fun x hx y hy=>?_⟩
 rcases List.mem_append.mp hx with z | z
 ·exact p2.2.2 x z y hy
 ·exact hp x z y hy
theorem MS.takeY (h:MS κ T out X (P++Y)) (hp:∀ p,p∈P→∀ x,x∈X→le κ p x):MS κ T (out++P) X Y:=by
 have p1:=h.py
 rw [← List.append_assoc] at p1
 refine ⟨?_,p1,?_⟩
 ·have p2:=List.pairwise_append.mp h.px
  refine List.pairwise_append.mpr ⟨(List.pairwise_append.mp p1).1,p2.2.1,fun x hx y hy=>?_⟩
  rcases List.mem_append.mp hx with z | z
  ·exact p2.2.2 x z y hy
  ·exact hp x z y hy
 ·refine List.Perm.trans ?_ h.pm
  simp only [List.append_assoc]
  refine List.Perm.append_left out ?_
  rw [← List.append_assoc,← List.append_assoc]
  exact List.Perm.append_right Y List.perm_append_comm
theorem MS.end1 (h:MS κ T out X Y) (hp:∀ x,x∈X→∀ y,y∈Y→le κ x y):(out++X++Y).Pairwise (le κ)∧(out++X++Y).Perm T:=by
 refine ⟨?_,h.pm⟩
 have p2:=List.pairwise_append.mp h.py
 refine List.pairwise_append.mpr ⟨h.px,p2.2.1,fun x hx y hy=>?_⟩
 rcases List.mem_append.mp hx with z | z
 ·exact p2.2.2 x z y hy
 ·exact hp x z y hy
theorem MS.end2 (h:MS κ T out X Y) (hp:∀ x,x∈X→∀ y,y∈Y→le κ y x):(out++Y++X).Pairwise (le κ)∧(out++Y++X).Perm T:=by
 refine ⟨?_,List.Perm.trans ?_ h.pm⟩
 ·have p2:=List.pairwise_append.mp h.px
  refine List.pairwise_append.mpr ⟨h.py,p2.2.1,fun x hx y hy=>?_⟩
  rcases List.mem_append.mp hx with z | z
  ·exact p2.2.2 x z y hy
  ·exact hp y hy x z
 ·simp only [List.append_assoc]
  exact List.Perm.append_left out List.perm_append_comm
theorem le_trans {p q r:Keyed} (h1:le κ p q) (h2:le κ q r):le κ p r:=KeyOrd.kle_trans h1 h2
noncomputable def Sa (st st':SortSt):Prop:=kindOf st'=kindOf st∧arrOf st'=arrOf st∧pendingOf st'=pendingOf st∧failedOf st'=failedOf st
theorem Sa.refl (st:SortSt):Sa st st:=⟨rfl,rfl,rfl,rfl⟩
theorem Sa.trans {s1 s2 s3:SortSt} (h:Sa s1 s2) (g:Sa s2 s3):Sa s1 s3:=⟨g.1.trans h.1,g.2.1.trans h.2.1,g.2.2.1.trans h.2.2.1,g.2.2.2.trans h.2.2.2⟩
noncomputable def setG:Nat→StateT SortSt Sem Unit:=sortPriv% PySem.Builtin.setMinGallop
theorem Zib {st:SortSt} {g:Nat} {Q:Unit→SortSt→Prop} (h:∀ st',Sa st st'→Q () st'):wpS (model prog w) A E s (setG g) Q st:=wpS_modify (h _ ⟨rfl,rfl,rfl,rfl⟩)
noncomputable def Seg (κ:KeyKind) (arr:Array Keyed) (lo hi:Nat):Prop:=∀ i j (hi':i<arr.size) (hj:j<arr.size),lo≤i→i≤j→j<hi→le κ arr[i] arr[j]
theorem Zbc {st:SortSt} {left:Bool} {key:Keyed} {arr:Array Keyed} {base n hint:Nat} {Q:Option Nat→SortSt→Prop} (hO:κ.OneLt) (hk:kindOf st=oneType') (hkey:Has κ key) (hA:∀ p,p∈arr.toList→Has κ p)
  (hn:base+n≤arr.size) (hh:hint<n) (hs:Seg κ arr base (base+n))
  (h:∀ k,k≤n→(∀ i (hi:base+i<arr.size),i<k→bey κ left key arr[base+i]=true)→(∀ i (hi:base+i<arr.size),k≤i→i<n→bey κ left key arr[base+i]=false)→Q (some k) st) :
  wpS (model prog w) A E s (gal left key arr base n hint) Q st:=by
 refine Xwj (fun i=>if hi:base+i<arr.size then bey κ left key arr[base+i] else false) hO hk hkey hA hn hh (fun i hi _=>dif_pos hi) (fun i j hij hj hb=>?_) (fun k h1 h2 h3=>h k h1 (fun i hi hik=>?_) (fun i hi hki hin=>?_))
 ·have z1:base+i<arr.size:=by omega
  have z2:base+j<arr.size:=by omega
  rw [dif_pos z2] at hb
  rw [dif_pos z1]
  have hle:=hs (base+i) (base+j) z1 z2 (by omega) (by omega) (by omega)
  unfold bey at hb ⊢
  cases left with
  | true=>exact KeyOrd.klt_of_kle_of_klt hle hb
  | false =>
   simp only [Bool.false_eq_true,if_false,Bool.not_eq_true'] at hb ⊢
   exact KeyOrd.kle_trans hle hb
 ·have:=h2 i hik;rwa [dif_pos hi] at this
 ·have:=h3 i hki hin;rwa [dif_pos hi] at this
theorem Xge {a:Array Keyed} {i:Nat} (h:i<a.size):a.toList.drop i=a[i]::a.toList.drop (i+1):=by
 rw [List.drop_eq_getElem_cons (by simpa using h)];rfl
theorem Zzf (a:Array Keyed):a.toList.drop a.size=[]:=by simp
theorem drop_split {a:Array Keyed} {i k:Nat} (h:i+k≤a.size):a.toList.drop i=(a.extract i (i+k)).toList++a.toList.drop (i+k):=by
 rw [Array.toList_extract,List.extract_eq_drop_take,show i+k - i=k by omega,← List.drop_drop,List.take_append_drop]
theorem Wy (a:Array Keyed) (i:Nat):(a.extract i a.size).toList=a.toList.drop i:=by
 rw [Array.toList_extract,List.extract_eq_drop_take]
 exact List.take_of_length_le (by simp)
theorem Jw {a:Array Keyed} {i:Nat} {p:Keyed} (h:p∈a.toList.drop i):∃ j,∃ hj:j<a.size,i≤j∧p=a[j]:=by
 obtain ⟨n,hn,rfl⟩:=List.mem_iff_getElem.mp h
 rw [List.length_drop] at hn
 refine ⟨i+n,by have:a.toList.length=a.size:=(by simp);omega,by omega,?_⟩
 rw [List.getElem_drop];rfl
theorem Xff {a:Array Keyed} {i k:Nat} {p:Keyed} (h:p∈(a.extract i (i+k)).toList):∃ j,∃ hj:i+j<a.size,j<k∧p=a[i+j]:=by
 obtain ⟨n,hn,rfl⟩:=List.mem_iff_getElem.mp h
 have hn':n<(a.extract i (i+k)).size:=by rw [Array.length_toList] at hn;exact hn
 have:=Array.size_extract (xs:=a) (start:=i) (stop:=i+k)
 refine ⟨n,by omega,by omega,?_⟩
 show (a.extract i (i+k))[n]=_
 rw [Array.getElem_extract]
section lo
variable {a b:Array Keyed} {o:Array Keyed} {ia ib k:Nat}
noncomputable def R (κ:KeyKind) (a b:Array Keyed) (o:Array Keyed) (ia ib:Nat):Prop:=MS κ (a.toList++b.toList) o.toList (a.toList.drop ia) (b.toList.drop ib)
theorem R.segA (h:R κ a b o ia ib):Seg κ a ia a.size:=by
 intro i j h1 h2 h3 h4 _
 have p:=(List.pairwise_append.mp h.px).2.1
 rcases Nat.lt_or_eq_of_le h4 with z | z
 ·have:=(List.pairwise_iff_getElem.mp p) (i - ia) (j - ia) (by simp;omega) (by simp;omega) (by omega)
  rw [List.getElem_drop,List.getElem_drop] at this
  simp only [show ia+(i - ia)=i by omega,show ia+(j - ia)=j by omega] at this
  exact this
 ·subst z;exact KeyOrd.kle_refl _
theorem R.segB (h:R κ a b o ia ib):Seg κ b ib b.size:=by
 intro i j h1 h2 h3 h4 _
 have p:=(List.pairwise_append.mp h.py).2.1
 rcases Nat.lt_or_eq_of_le h4 with z | z
 ·have:=(List.pairwise_iff_getElem.mp p) (i - ib) (j - ib) (by simp;omega) (by simp;omega) (by omega)
  rw [List.getElem_drop,List.getElem_drop] at this
  simp only [show ib+(i - ib)=i by omega,show ib+(j - ib)=j by omega] at this
  exact this
 ·subst z;exact KeyOrd.kle_refl _
theorem R.pushA (h:R κ a b o ia ib) (hia:ia<a.size) (hb:∀ y,y∈b.toList.drop ib→le κ a[ia] y):R κ a b (o.push a[ia]) (ia+1) ib:=by
 unfold R at h ⊢
 rw [Xge hia] at h
 rw [Array.toList_push]
 exact MS.takeX (P:=[a[ia]]) h fun p hp y hy=>by rw [List.mem_singleton.mp hp];exact hb y hy
theorem R.pushB (h:R κ a b o ia ib) (hib:ib<b.size) (hb:∀ y,y∈a.toList.drop ia→le κ b[ib] y):R κ a b (o.push b[ib]) ia (ib+1):=by
 unfold R at h ⊢
 rw [Xge hib] at h
 rw [Array.toList_push]
 exact MS.takeY (P:=[b[ib]]) h fun p hp y hy=>by rw [List.mem_singleton.mp hp];exact hb y hy
theorem R.manyA (h:R κ a b o ia ib) (hk:ia+k≤a.size) (hb:∀ p,p∈(a.extract ia (ia+k)).toList→∀ y,y∈b.toList.drop ib→le κ p y):R κ a b (o++a.extract ia (ia+k)) (ia+k) ib:=by
 unfold R at h ⊢
 rw [drop_split hk] at h
 rw [Array.toList_append]
 exact MS.takeX h hb
theorem R.manyB (h:R κ a b o ia ib) (hk:ib+k≤b.size) (hb:∀ p,p∈(b.extract ib (ib+k)).toList→∀ y,y∈a.toList.drop ia→le κ p y):R κ a b (o++b.extract ib (ib+k)) ia (ib+k):=by
 unfold R at h ⊢
 rw [drop_split hk] at h
 rw [Array.toList_append]
 exact MS.takeY h hb
noncomputable def Good (κ:KeyKind) (a b m:Array Keyed):Prop:=m.toList.Pairwise (le κ)∧m.toList.Perm (a.toList++b.toList)
theorem R.endB (h:R κ a b o ia ib) (e:ib=b.size):Good κ a b (o++a.extract ia a.size++b.extract ib b.size):=by
 unfold Good
 rw [Array.toList_append,Array.toList_append,Wy,Wy]
 exact MS.end1 h fun x _ y hy=>by rw [e,Zzf] at hy;cases hy
theorem R.endA0 (h:R κ a b o ia ib) (e:ia=a.size):Good κ a b (o++a.extract ia a.size++b.extract ib b.size):=by
 unfold Good
 rw [Array.toList_append,Array.toList_append,Wy,Wy]
 exact MS.end1 h fun x hx y hy=>by rw [e,Zzf] at hx;cases hx
theorem R.endA (h:R κ a b o ia ib) (e:ia+1=a.size) (hl:∀ y,y∈b.toList→∀ hz:a.size - 1<a.size,le κ y a[a.size - 1]):Good κ a b (o++b.extract ib b.size++a.extract ia a.size):=by
 unfold Good
 rw [Array.toList_append,Array.toList_append,Wy,Wy]
 refine MS.end2 h fun x hx y hy=>?_
 obtain ⟨j,hj,h1,rfl⟩:=Jw hx
 obtain rfl:j=a.size - 1:=by omega
 exact hl y (List.mem_of_mem_drop hy) hj
theorem R.oneA (h:R κ a b o ia ib) (hia:ia<a.size) (hib:ib<b.size) (hc:κ.blt (kv κ b[ib]) (kv κ a[ia])=false):R κ a b (o.push a[ia]) (ia+1) ib :=
 h.pushA hia fun y hy=>by
  obtain ⟨j,hj,h1,rfl⟩:=Jw hy
  exact le_trans (κ:=κ) hc (h.segB ib j hib hj (Nat.le_refl _) h1 hj)
theorem R.oneB (h:R κ a b o ia ib) (hia:ia<a.size) (hib:ib<b.size) (hc:κ.blt (kv κ b[ib]) (kv κ a[ia])=true):R κ a b (o.push b[ib]) ia (ib+1) :=
 h.pushB hib fun y hy=>by
  obtain ⟨j,hj,h1,rfl⟩:=Jw hy
  exact le_trans (κ:=κ) (KeyOrd.kle_of_klt hc) (h.segA ia j hia hj (Nat.le_refl _) h1 hj)
theorem R.galA (h:R κ a b o ia ib) (hib:ib<b.size) (hk:k≤a.size - ia) (hia:ia≤a.size) (h1:∀ i (hi:ia+i<a.size),i<k→bey κ false b[ib] a[ia+i]=true) (h2:∀ i (hi:ia+i<a.size),k≤i→i<a.size - ia→bey κ false b[ib] a[ia+i]=false) :
  R κ a b (o++a.extract ia (ia+k)) (ia+k) ib∧∀ y,y∈a.toList.drop (ia+k)→le κ b[ib] y:=by
 refine ⟨h.manyA (by omega) fun p hp y hy=>?_,fun y hy=>?_⟩
 ·obtain ⟨j,hj,hjk,rfl⟩:=Xff hp
  obtain ⟨i,hi,hii,rfl⟩:=Jw hy
  have:=h1 j hj hjk
  unfold bey at this
  simp only [Bool.false_eq_true,if_false,Bool.not_eq_true'] at this
  exact le_trans (κ:=κ) this (h.segB ib i hib hi (Nat.le_refl _) hii hi)
 ·obtain ⟨j,hj,hjk,rfl⟩:=Jw hy
  have:=h2 (j - ia) (by omega) (by omega) (by omega)
  unfold bey at this
  simp only [Bool.false_eq_true,if_false,Bool.not_eq_false',show ia+(j - ia)=j by omega] at this
  exact KeyOrd.kle_of_klt this
theorem R.galB (h:R κ a b o ia ib) (hia:ia<a.size) (hk:k≤b.size - ib) (hib:ib≤b.size) (h1:∀ i (hi:ib+i<b.size),i<k→bey κ true a[ia] b[ib+i]=true) (h2:∀ i (hi:ib+i<b.size),k≤i→i<b.size - ib→bey κ true a[ia] b[ib+i]=false) :
  R κ a b (o++b.extract ib (ib+k)) ia (ib+k)∧∀ y,y∈b.toList.drop (ib+k)→le κ a[ia] y:=by
 refine ⟨h.manyB (by omega) fun p hp y hy=>?_,fun y hy=>?_⟩
 ·obtain ⟨j,hj,hjk,rfl⟩:=Xff hp
  obtain ⟨i,hi,hii,rfl⟩:=Jw hy
  have:=h1 j hj hjk
  unfold bey at this
  simp only [if_true] at this
  exact le_trans (κ:=κ) (KeyOrd.kle_of_klt this) (h.segA ia i hia hi (Nat.le_refl _) hii hi)
 ·obtain ⟨j,hj,hjk,rfl⟩:=Jw hy
  have:=h2 (j - ib) (by omega) (by omega) (by omega)
  unfold bey at this
  simp only [if_true,show ib+(j - ib)=j by omega] at this
  exact this
end lo
noncomputable abbrev LS:=Option (Array Keyed)×Array Keyed×Nat×Nat×Nat×Nat×Nat
noncomputable def LI (κ:KeyKind) (a b:Array Keyed) (st:SortSt) (x:Nat) (c:LS) (st':SortSt):Prop:=∃ o ia ib mg ac bc,c=(none,o,ia,ib,mg,ac,bc)∧Sa st st'∧R κ a b o ia ib∧ia+1<a.size∧ib<b.size∧x+1<ia+ib
noncomputable def LQ (κ:KeyKind) (a b:Array Keyed) (st:SortSt) (x:Nat) (c:LS) (st':SortSt):Prop:=((∃ m o ia ib mg ac bc,c=(some m,o,ia,ib,mg,ac,bc)∧Sa st st'∧Good κ a b m)∨(∃ o ia ib mg ac bc,c=(none,o,ia,ib,mg,ac,bc)∧Sa st st'∧R κ a b o ia ib∧ia+1<a.size∧ib<b.size∧x+1<ia+ib))
section lo2
variable {a b o:Array Keyed} {ia ib x:Nat} {st st3:SortSt} {Q:ForInStep LS→SortSt→Prop}
noncomputable def lo3c (a b o:Array Keyed) (ia ib mg k k2:Nat):StateT SortSt Sem (ForInStep LS):=elem' a ia >>= fun v =>
 if (ia+1+1 == a.size)=true then pure (.done (some (o.push v++b.extract ib b.size++a.extract (ia+1) a.size),o.push v,ia+1,ib,mg,k,k2))
 else if (decide (k<7)&&decide (k2<7))=true then pure (.done (none,o.push v,ia+1,ib,mg,k,k2)) else pure (.yield (none,o.push v,ia+1,ib,mg,k,k2))
theorem lo3 {mg k k2:Nat} (hd:∀ c st',LQ κ a b st x c st'→Q (.done c) st') (hy:∀ c st',LI κ a b st x c st'→Q (.yield c) st') (hS:Sa st st3) (hl:∀ y,y∈b.toList→∀ hz:a.size - 1<a.size,le κ y a[a.size - 1])
  (f3:R κ a b o ia ib) (hi:ia+1<a.size) (hib:ib<b.size) (f3r:∀ y,y∈b.toList.drop ib→le κ (a[ia]'(Nat.lt_of_succ_lt hi)) y) (hx:x<ia+ib):wpS (model prog w) A E s (lo3c a b o ia ib mg k k2) Q st3:=by
 refine wpS_bind (Xl (Nat.lt_of_succ_lt hi) ?_)
 have f4:=f3.pushA (Nat.lt_of_succ_lt hi) f3r
 refine Xp (fun z=>?_) fun z=>?_
 ·exact wpS_pure (hd _ _ (.inl ⟨_,_,_,_,_,_,_,rfl,hS,f4.endA (eq_of_beq z) hl⟩))
 ·have z':ia+1+1≠a.size:=fun e=>z (beq_iff_eq.mpr e)
  have e1:ia+1+1<a.size:=by omega
  have e2:x+1<ia+1+ib:=by omega
  split
  ·exact wpS_pure (hd _ _ (.inr ⟨_,_,_,_,_,_,rfl,hS,f4,e1,hib,e2⟩))
  ·exact wpS_pure (hy _ _ ⟨_,_,_,_,_,_,rfl,hS,f4,e1,hib,e2⟩)
theorem lo2 {mg k bc:Nat} {F:Keyed→Keyed→Option Nat→StateT SortSt Sem (ForInStep LS)} (hO:κ.OneLt) (hd:∀ c st',LQ κ a b st x c st'→Q (.done c) st') (hy:∀ c st',LI κ a b st x c st'→Q (.yield c) st') (hS:Sa st st3) (hk:kindOf st=oneType') (hA:∀ p,p∈a.toList→Has κ p) (hB:∀ p,p∈b.toList→Has κ p)
  (hl:∀ y,y∈b.toList→∀ hz:a.size - 1<a.size,le κ y a[a.size - 1])
  (f1:R κ a b o ia ib) (hi:ia+1<a.size) (hib:ib<b.size) (f1r:∀ y,y∈a.toList.drop ia→le κ b[ib] y) (hx:x+1<ia+ib)
  (hF:∀ v v1 k2,F v v1 (some k2)=if k2 > 0 then (if (ib+1+k2 == b.size)=true then pure (.done (some (o.push v++b.extract (ib+1) (ib+1+k2)++a.extract ia a.size++b.extract (ib+1+k2) b.size),o.push v++b.extract (ib+1) (ib+1+k2),ia,ib+1+k2,mg,k,k2)) else lo3c a b (o.push v++b.extract (ib+1) (ib+1+k2)) ia (ib+1+k2) mg k k2) else lo3c a b (o.push v) ia (ib+1) mg k k2) :
  wpS (model prog w) A E s (elem' b ib >>= fun v=>if (ib+1 == b.size)=true then pure (.done (some (o.push v++a.extract ia a.size++b.extract (ib+1) b.size),o.push v,ia,ib+1,mg,k,bc)) else elem' a ia >>= fun v1=>gal true v1 b (ib+1) (b.size - (ib+1)) 0 >>= F v v1) Q st3:=by
 have hia:ia<a.size:=Nat.lt_of_succ_lt hi
 refine wpS_bind (Xl hib ?_)
 have f2:=f1.pushB hib f1r
 refine Xp (fun z=>?_) fun z=>?_
 ·exact wpS_pure (hd _ _ (.inl ⟨_,_,_,_,_,_,_,rfl,hS,f2.endB (eq_of_beq z)⟩))
 have zb:ib+1≠b.size:=fun e=>z (beq_iff_eq.mpr e)
 refine wpS_bind (Xl hia (wpS_bind (Zbc hO (hS.1.trans hk) (hA _ (by simp)) hB (by omega) (by omega) (by rw [show ib+1+(b.size - (ib+1))=b.size by omega];exact f2.segB) fun k2 g1 g2 g3=>?_)))
 obtain ⟨f3,f3r⟩:=f2.galB hia g1 (by omega) g2 g3
 rw [hF]
 refine Xp (fun zk=>?_) fun zk=>?_
 ·refine Xp (fun z=>?_) fun z=>?_
  ·exact wpS_pure (hd _ _ (.inl ⟨_,_,_,_,_,_,_,rfl,hS,f3.endB (eq_of_beq z)⟩))
  ·have zb2:ib+1+k2≠b.size:=fun e=>z (beq_iff_eq.mpr e)
   exact lo3 hd hy hS hl f3 hi (by omega) f3r (by omega)
 ·obtain rfl:k2=0:=by omega
  simp only [Nat.add_zero,Array.extract_empty_of_stop_le_start (Nat.le_refl _),Array.append_empty] at f3 f3r
  exact lo3 hd hy hS hl f3 hi (by omega) f3r (by omega)
end lo2
theorem e4 {A B C D T S:Type} {f:A→B→C→D→T} {p q r u z:A→B→C→D→S→Prop} {G:T→S→Prop} (k:∀ a b c d s,p a b c d s→q a b c d s→r a b c d s→u a b c d s→z a b c d s→G (f a b c d) s):∀ t s,(∃ a b c d,t=f a b c d∧p a b c d s∧q a b c d s∧r a b c d s∧u a b c d s∧z a b c d s)→G t s:=by
 rintro _ s ⟨a,b,c,d,rfl,h1,h2,h3,h4,h5⟩;exact k a b c d s h1 h2 h3 h4 h5
theorem e5 {A B C D F T S:Type} {f:A→B→C→D→F→T} {p q r u z:A→B→C→D→F→S→Prop} {G:T→S→Prop} (k:∀ a b c d e s,p a b c d e s→q a b c d e s→r a b c d e s→u a b c d e s→z a b c d e s→G (f a b c d e) s):∀ t s,(∃ a b c d e,t=f a b c d e∧p a b c d e s∧q a b c d e s∧r a b c d e s∧u a b c d e s∧z a b c d e s)→G t s:=by
 rintro _ s ⟨a,b,c,d,e,rfl,h1,h2,h3,h4,h5⟩;exact k a b c d e s h1 h2 h3 h4 h5
theorem e6 {A B C D F I T S:Type} {f:A→B→C→D→F→I→T} {p q r u z:A→B→C→D→F→I→S→Prop} {G:T→S→Prop} (k:∀ a b c d e i s,p a b c d e i s→q a b c d e i s→r a b c d e i s→u a b c d e i s→z a b c d e i s→G (f a b c d e i) s):∀ t s,(∃ a b c d e i,t=f a b c d e i∧p a b c d e i s∧q a b c d e i s∧r a b c d e i s∧u a b c d e i s∧z a b c d e i s)→G t s:=by
 rintro _ s ⟨a,b,c,d,e,i,rfl,h1,h2,h3,h4,h5⟩;exact k a b c d e i s h1 h2 h3 h4 h5
theorem g5 {A B C D F T S:Type} {f:A→B→C→D→F→T} {p q:A→B→C→D→F→S→Prop} {G:T→S→Prop} (k:∀ a b c d e s,p a b c d e s→q a b c d e s→G (f a b c d e) s):∀ t s,(∃ a b c d e,t=f a b c d e∧p a b c d e s∧q a b c d e s)→G t s:=by
 rintro _ s ⟨a,b,c,d,e,rfl,h1,h2⟩;exact k a b c d e s h1 h2
theorem g6 {A B C D F I T S:Type} {f:A→B→C→D→F→I→T} {p q:A→B→C→D→F→I→S→Prop} {G:T→S→Prop} (k:∀ a b c d e i s,p a b c d e i s→q a b c d e i s→G (f a b c d e i) s):∀ t s,(∃ a b c d e i,t=f a b c d e i∧p a b c d e i s∧q a b c d e i s)→G t s:=by
 rintro _ s ⟨a,b,c,d,e,i,rfl,h1,h2⟩;exact k a b c d e i s h1 h2
theorem g7 {A B C D F I J T S:Type} {f:A→B→C→D→F→I→J→T} {p q:A→B→C→D→F→I→J→S→Prop} {G:T→S→Prop} (k:∀ a b c d e i j s,p a b c d e i j s→q a b c d e i j s→G (f a b c d e i j) s):∀ t s,(∃ a b c d e i j,t=f a b c d e i j∧p a b c d e i j s∧q a b c d e i j s)→G t s:=by
 rintro _ s ⟨a,b,c,d,e,i,j,rfl,h1,h2⟩;exact k a b c d e i j s h1 h2
theorem eS {T S:Type} {u v:Prop} {P G:T→S→Prop} (k:∀ t s,P t s→G t s):∀ t s,u→v→P t s→G t s:=fun t s _ _=>k t s
theorem eO {T S:Type} {P Q G:T→S→Prop} (k:∀ t s,P t s→G t s) (l:∀ t s,Q t s→G t s):∀ t s,P t s∨Q t s→G t s:=fun t s h=>h.elim (k t s) (l t s)
theorem Xwb {σ α:Type} {M:Model} {Q:α→σ→Prop} {st:σ} {f g:Nat→StateT σ Sem α} (e:∀ m,f m=g (m - 1)) (h:∀ m,wpS M A E s (g m) Q st) (m:Nat):wpS M A E s (if m > 1 then f m else g m) Q st:=by
 by_cases z:m > 1
 ·rw [if_pos z,e];exact h _
 ·rw [if_neg z];exact h _
set_option maxHeartbeats 1000000 in
theorem Xwg {st:SortSt} {a b:Array Keyed} {Q:Array Keyed→SortSt→Prop} (hO:κ.OneLt) (hk:kindOf st=oneType') (hA:∀ p,p∈a.toList→Has κ p) (hB:∀ p,p∈b.toList→Has κ p)
  (ha:0<a.size) (hb:0<b.size) (sa:a.toList.Pairwise (le κ)) (sb:b.toList.Pairwise (le κ)) (hf:∀ x,x∈a.toList→le κ b[0] x) (hl:∀ y,y∈b.toList→∀ hz:a.size - 1<a.size,le κ y a[a.size - 1])
  (h:∀ m st',Sa st st'→Good κ a b m→Q m st'):wpS (model prog w) A E s (mLo a b) Q st:=by
 refine wpS_bind (wpS_lift (wpAny_rule ⟨rfl,?_⟩))
 refine wpS_bind (Xl hb ?_)
 have r0:R κ a b #[] 0 0:=⟨by simpa using sa,by simpa using sb,by simp⟩
 have r1:R κ a b #[b[0]] 0 1:=r0.pushB hb fun y hy=>hf y (List.mem_of_mem_drop hy)
 dsimp only
 refine Xp (fun z=>?_) fun z=>?_
 ·exact wpS_pure (h _ _ (Sa.refl _) (r1.endB (eq_of_beq z)))
 have z1:1≠b.size:=fun e=>z (beq_iff_eq.mpr e)
 refine Xp (fun z=>?_) fun z=>?_
 ·exact wpS_pure (h _ _ (Sa.refl _) (r1.endA (eq_of_beq z) hl))
 have z2:0+1≠a.size:=fun e=>z (beq_iff_eq.mpr e)
 refine wpS_bind (wpS_get ?_)
 refine wpS_bind (wpS_mono (wpS_forRange (I:=fun x c st'=>∃ o ia ib mg,c=(none,o,ia,ib,mg)∧Sa st st'∧R κ a b o ia ib∧ia+1<a.size∧ib<b.size∧x<ia+ib)
  (Q:=fun c st'=>∃ m o ia ib mg,c=(some m,o,ia,ib,mg)∧Sa st st'∧Good κ a b m) ?_ ?_ ⟨_,_,_,_,rfl,Sa.refl _,r1,by omega,by omega,by omega⟩) ?_)
 ·refine fun x=>eS (e4 fun o ia ib mg st1 hS1 q0 hia hib hxi=>?_)
  refine wpS_bind (wpS_mono (wpS_forRange (I:=fun y c st'=>∃ o ia ib ac bc,c=(none,o,ia,ib,ac,bc)∧Sa st st'∧R κ a b o ia ib∧ia+1<a.size∧ib<b.size∧x+y<ia+ib)
   (Q:=fun c st'=>((∃ m o ia ib ac bc,c=(some m,o,ia,ib,ac,bc)∧Sa st st'∧Good κ a b m)∨(∃ o ia ib ac bc,c=(none,o,ia,ib,ac,bc)∧Sa st st'∧R κ a b o ia ib∧ia+1<a.size∧ib<b.size∧x+1<ia+ib))) ?_ ?_ ⟨_,_,_,_,_,rfl,hS1,q0,hia,hib,hxi⟩) ?_)
  ·clear hS1 q0 hia hib hxi
   refine fun y=>eS (e5 fun o ia ib ac bc st1 hS1 f0 hia hib hxi=>?_)
   refine wpS_bind (Xl hib ?_)
   refine wpS_bind (Xl (show ia<a.size by omega) ?_)
   refine wpS_bind (Zui hO (hS1.1.trans hk) (hB _ (by simp)) (hA _ (by simp)) ?_)
   cases hc:κ.blt (kv κ b[ib]) (kv κ a[ia]) with
   | true =>
    dsimp only
    rw [if_pos rfl]
    have f1:=f0.oneB (by omega) hib hc
    refine wpS_bind (Xl hib ?_)
    refine Xp (fun z=>?_) fun z=>?_
    ·exact wpS_pure (.inl ⟨_,_,_,_,_,_,rfl,hS1,f1.endB (eq_of_beq z)⟩)
    ·have zb:ib+1≠b.size:=fun e=>z (beq_iff_eq.mpr e)
     split
     ·exact wpS_pure (.inr ⟨_,_,_,_,_,rfl,hS1,f1,hia,by omega,by omega⟩)
     ·exact wpS_pure ⟨_,_,_,_,_,rfl,hS1,f1,hia,by omega,by omega⟩
   | false =>
    dsimp only
    rw [if_neg Bool.false_ne_true]
    have f1:=f0.oneA (by omega) hib hc
    refine wpS_bind (Xl (show ia<a.size by omega) ?_)
    refine Xp (fun z=>?_) fun z=>?_
    ·exact wpS_pure (.inl ⟨_,_,_,_,_,_,rfl,hS1,f1.endA (eq_of_beq z) hl⟩)
    ·have zb:ia+1+1≠a.size:=fun e=>z (beq_iff_eq.mpr e)
     split
     ·exact wpS_pure (.inr ⟨_,_,_,_,_,rfl,hS1,f1,by omega,hib,by omega⟩)
     ·exact wpS_pure ⟨_,_,_,_,_,rfl,hS1,f1,by omega,hib,by omega⟩
  ·rintro c _ ⟨o,ia,ib,ac,bc,rfl,_,f0,h1,h2,h3⟩
   omega
  ·clear hS1 q0 hia hib hxi
   refine eO (g6 fun m o ia ib ac bc st1 hS1 hm=>wpS_pure ⟨_,_,_,_,_,rfl,hS1,hm⟩) (e5 fun o ia ib ac bc st1 hS1 q0 hia hib hxi=>?_)
   ·dsimp only
    refine wpS_bind (wpS_lift (wpAny_rule ⟨rfl,?_⟩))
    refine wpS_bind (wpS_mono (wpS_forRange (I:=fun y c st'=>∃ o ia ib mg ac bc,c=(none,o,ia,ib,mg,ac,bc)∧Sa st st'∧R κ a b o ia ib∧ia+1<a.size∧ib<b.size∧x+1<ia+ib)
     (Q:=fun c st'=>((∃ m o ia ib mg ac bc,c=(some m,o,ia,ib,mg,ac,bc)∧Sa st st'∧Good κ a b m)∨(∃ o ia ib mg ac bc,c=(none,o,ia,ib,mg,ac,bc)∧Sa st st'∧R κ a b o ia ib∧ia+1<a.size∧ib<b.size∧x+1<ia+ib))) ?_ ?_ ⟨_,_,_,_,_,_,rfl,hS1,q0,hia,hib,hxi⟩) ?_)
    ·clear hS1 q0 hia hib hxi
     refine fun y=>eS (e6 fun o ia ib mg ac bc st2 hS2 f0 hia hib hx2=>?_)
     dsimp only
     revert mg
     refine Xwb (fun _=>rfl) fun mg=>?_
     refine wpS_bind (Zib fun st3 hS3'=>?_)
     have hS3:=hS2.trans hS3'
     refine wpS_bind (Xl hib ?_)
     refine wpS_bind (Zbc hO (hS3.1.trans hk) (hB _ (by simp)) hA (by omega) (by omega) (by rw [show ia+(a.size - ia)=a.size by omega];exact f0.segA) fun k g1 g2 g3=>?_)
     obtain ⟨f1,f1r⟩:=f0.galA hib g1 (by omega) g2 g3
     dsimp only
     refine Xp (fun zk=>?_) fun zk=>?_
     ·refine Xp (fun z=>?_) fun z=>?_
      ·exact wpS_pure (.inl ⟨_,_,_,_,_,_,_,rfl,hS3,f1.endA (eq_of_beq z) hl⟩)
      ·have za:ia+k+1≠a.size:=fun e=>z (beq_iff_eq.mpr e)
       refine Xp (fun z=>?_) fun z=>?_
       ·exact wpS_pure (.inl ⟨_,_,_,_,_,_,_,rfl,hS3,f1.endA0 (eq_of_beq z)⟩)
       ·have za2:ia+k≠a.size:=fun e=>z (beq_iff_eq.mpr e)
        exact lo2 hO (fun _ _ z=>z) (fun _ _ z=>z) hS3 hk hA hB hl f1 (by omega) hib f1r (by omega) (fun _ _ _=>rfl)
     ·obtain rfl:k=0:=by omega
      simp only [Nat.add_zero,Array.extract_empty_of_stop_le_start (Nat.le_refl _),Array.append_empty] at f1 f1r
      exact lo2 hO (fun _ _ z=>z) (fun _ _ z=>z) hS3 hk hA hB hl f1 hia hib f1r hx2 (fun _ _ _=>rfl)
    ·exact fun c st2 => .inr
    ·exact eO (g7 fun m o ia ib mg ac bc st2 hS2 hm=>wpS_pure ⟨_,_,_,_,_,rfl,hS2,hm⟩) (e6 fun o ia ib mg ac bc st2 hS2 q0 hia hib hxi =>
      wpS_bind (Zib fun st3 hS3=>wpS_pure ⟨_,_,_,_,rfl,hS2.trans hS3,q0,hia,hib,hxi⟩))
 ·rintro c st1 ⟨o,ia,ib,mg,rfl,hS1,q0,hia,hib,hxi⟩
  omega
 ·exact g5 fun m o ia ib mg st1 hS1 hm=>wpS_pure (h m st1 hS1 hm)
structure MH (κ:KeyKind) (T out X Y:List Keyed):Prop where
 px:(X++out).Pairwise (le κ)
 py:(Y++out).Pairwise (le κ)
 pm:(X++Y++out).Perm T
theorem MH.takeX (h:MH κ T out (X++P) Y) (hp:∀ p,p∈P→∀ y,y∈Y→le κ y p):MH κ T (P++out) X Y:=by
 have p1:=h.px
 rw [List.append_assoc] at p1
 refine ⟨p1,?_,?_⟩
 ·have p2:=List.pairwise_append.mp h.py
  refine List.pairwise_append.mpr ⟨p2.1,(List.pairwise_append.mp p1).2.1,fun x hx y hy=>?_⟩
  rcases List.mem_append.mp hy with z | z
  ·exact hp y z x hx
  ·exact p2.2.2 x hx y z
 ·refine List.Perm.trans ?_ h.pm
  simp only [List.append_assoc]
  refine List.Perm.append_left X ?_
  rw [← List.append_assoc,← List.append_assoc]
  exact List.Perm.append_right out List.perm_append_comm
theorem MH.takeY (h:MH κ T out X (Y++P)) (hp:∀ p,p∈P→∀ x,x∈X→le κ x p):MH κ T (P++out) X Y:=by
 have p1:=h.py
 rw [List.append_assoc] at p1
 refine ⟨?_,p1,by have:=h.pm;simpa only [List.append_assoc] using this⟩
 have p2:=List.pairwise_append.mp h.px
 refine List.pairwise_append.mpr ⟨p2.1,(List.pairwise_append.mp p1).2.1,fun x hx y hy=>?_⟩
 rcases List.mem_append.mp hy with z | z
 ·exact hp y z x hx
 ·exact p2.2.2 x hx y z
theorem MH.end1 (h:MH κ T out X Y) (hp:∀ x,x∈X→∀ y,y∈Y→le κ x y):(X++Y++out).Pairwise (le κ)∧(X++Y++out).Perm T:=by
 refine ⟨?_,h.pm⟩
 rw [List.append_assoc]
 have p2:=List.pairwise_append.mp h.px
 refine List.pairwise_append.mpr ⟨p2.1,h.py,fun x hx y hy=>?_⟩
 rcases List.mem_append.mp hy with z | z
 ·exact hp x hx y z
 ·exact p2.2.2 x hx y z
theorem MH.end2 (h:MH κ T out X Y) (hp:∀ x,x∈X→∀ y,y∈Y→le κ y x):(Y++X++out).Pairwise (le κ)∧(Y++X++out).Perm T:=by
 refine ⟨?_,List.Perm.trans (List.Perm.append_right out List.perm_append_comm) h.pm⟩
 rw [List.append_assoc]
 have p2:=List.pairwise_append.mp h.py
 refine List.pairwise_append.mpr ⟨p2.1,h.px,fun x hx y hy=>?_⟩
 rcases List.mem_append.mp hy with z | z
 ·exact hp y z x hx
 ·exact p2.2.2 x hx y z
theorem Xee {a:Array Keyed} {i:Nat} (h:i<a.size):a.toList.take (i+1)=a.toList.take i++[a[i]]:=by
 rw [List.take_succ_eq_append_getElem (by simpa using h)];rfl
theorem Zja {a:Array Keyed} {i j:Nat} (h:i≤j):a.toList.take j=a.toList.take i++(a.extract i j).toList:=by
 rw [Array.toList_extract,List.extract_eq_drop_take,← List.drop_take]
 have:=(List.take_append_drop i (a.toList.take j)).symm
 rwa [List.take_take,Nat.min_eq_left h] at this
theorem Yo (a:Array Keyed) (i:Nat):(a.extract 0 i).toList=a.toList.take i:=by
 rw [Array.toList_extract,List.extract_eq_drop_take];rfl
theorem Jv {a:Array Keyed} {i:Nat} {p:Keyed} (h:p∈a.toList.take i):∃ j,∃ hj:j<a.size,j<i∧p=a[j]:=by
 obtain ⟨n,hn,rfl⟩:=List.mem_iff_getElem.mp h
 rw [List.length_take] at hn
 have e:a.toList.length=a.size:=by simp
 refine ⟨n,by omega,by omega,?_⟩
 rw [List.getElem_take];rfl
theorem Wj {a:Array Keyed} {i k:Nat} {p:Keyed} (h:p∈(a.extract i k).toList):∃ j,∃ hj:j<a.size,i≤j∧j<k∧p=a[j]:=by
 obtain ⟨n,hn,rfl⟩:=List.mem_iff_getElem.mp h
 have hn':n<(a.extract i k).size:=by rw [Array.length_toList] at hn;exact hn
 have:=Array.size_extract (xs:=a) (start:=i) (stop:=k)
 refine ⟨i+n,by omega,by omega,by omega,?_⟩
 show (a.extract i k)[n]=_
 rw [Array.getElem_extract]
section hi
variable {a b:Array Keyed} {o:Array Keyed} {na nb k:Nat}
noncomputable def RH (κ:KeyKind) (a b:Array Keyed) (o:Array Keyed) (na nb:Nat):Prop:=MH κ (a.toList++b.toList) o.toList.reverse (a.toList.take na) (b.toList.take nb)
theorem RH.segA (h:RH κ a b o na nb):Seg κ a 0 na:=by
 intro i j h1 h2 h3 h4 h5
 have p:=(List.pairwise_append.mp h.px).1
 rcases Nat.lt_or_eq_of_le h4 with z | z
 ·have:=(List.pairwise_iff_getElem.mp p) i j (by simp;omega) (by simp;omega) z
  rw [List.getElem_take,List.getElem_take] at this
  exact this
 ·subst z;exact KeyOrd.kle_refl _
theorem RH.segB (h:RH κ a b o na nb):Seg κ b 0 nb:=by
 intro i j h1 h2 h3 h4 h5
 have p:=(List.pairwise_append.mp h.py).1
 rcases Nat.lt_or_eq_of_le h4 with z | z
 ·have:=(List.pairwise_iff_getElem.mp p) i j (by simp;omega) (by simp;omega) z
  rw [List.getElem_take,List.getElem_take] at this
  exact this
 ·subst z;exact KeyOrd.kle_refl _
theorem RH.pushA (h:RH κ a b o na nb) (h0:1≤na) (hia:na - 1<a.size) (hb:∀ y,y∈b.toList.take nb→le κ y a[na - 1]):RH κ a b (o.push a[na - 1]) (na - 1) nb:=by
 unfold RH at h ⊢
 rw [show na=na - 1+1 by omega,Xee hia] at h
 rw [Array.toList_push,List.reverse_append]
 exact MH.takeX (P:=[a[na - 1]]) h fun p hp y hy=>by rw [List.mem_singleton.mp hp];exact hb y hy
theorem RH.pushB (h:RH κ a b o na nb) (h0:1≤nb) (hia:nb - 1<b.size) (hb:∀ y,y∈a.toList.take na→le κ y b[nb - 1]):RH κ a b (o.push b[nb - 1]) na (nb - 1):=by
 unfold RH at h ⊢
 rw [show nb=nb - 1+1 by omega,Xee hia] at h
 rw [Array.toList_push,List.reverse_append]
 exact MH.takeY (P:=[b[nb - 1]]) h fun p hp y hy=>by rw [List.mem_singleton.mp hp];exact hb y hy
theorem RH.manyA (h:RH κ a b o na nb) (hk:k≤na) (hb:∀ p,p∈(a.extract k na).toList→∀ y,y∈b.toList.take nb→le κ y p):RH κ a b (o++(a.extract k na).reverse) k nb:=by
 unfold RH at h ⊢
 rw [Zja hk] at h
 rw [Array.toList_append,List.reverse_append,Array.toList_reverse,List.reverse_reverse]
 exact MH.takeX h hb
theorem RH.manyB (h:RH κ a b o na nb) (hk:k≤nb) (hb:∀ p,p∈(b.extract k nb).toList→∀ y,y∈a.toList.take na→le κ y p):RH κ a b (o++(b.extract k nb).reverse) na k:=by
 unfold RH at h ⊢
 rw [Zja hk] at h
 rw [Array.toList_append,List.reverse_append,Array.toList_reverse,List.reverse_reverse]
 exact MH.takeY h hb
theorem RH.endA (h:RH κ a b o na nb) (e:na=0):Good κ a b (a.extract 0 na++b.extract 0 nb++o.reverse):=by
 unfold Good
 rw [Array.toList_append,Array.toList_append,Yo,Yo,Array.toList_reverse]
 exact MH.end1 h fun x hx y hy=>by rw [e] at hx;cases hx
theorem RH.endB0 (h:RH κ a b o na nb) (e:nb=0):Good κ a b (a.extract 0 na++b.extract 0 nb++o.reverse):=by
 unfold Good
 rw [Array.toList_append,Array.toList_append,Yo,Yo,Array.toList_reverse]
 exact MH.end1 h fun x hx y hy=>by rw [e] at hy;cases hy
theorem RH.endB (h:RH κ a b o na nb) (e:nb=1) (hf:∀ x,x∈a.toList→∀ hz:0<b.size,le κ b[0] x):Good κ a b (b.extract 0 nb++a.extract 0 na++o.reverse):=by
 unfold Good
 rw [Array.toList_append,Array.toList_append,Yo,Yo,Array.toList_reverse]
 refine MH.end2 h fun x hx y hy=>?_
 obtain ⟨j,hj,h1,rfl⟩:=Jv hy
 obtain rfl:j=0:=by omega
 exact hf x (List.mem_of_mem_take hx) hj
theorem RH.oneA (h:RH κ a b o na nb) (h0:1≤na) (h1:1≤nb) (hia:na - 1<a.size) (hib:nb - 1<b.size) (hc:κ.blt (kv κ b[nb - 1]) (kv κ a[na - 1])=true):RH κ a b (o.push a[na - 1]) (na - 1) nb :=
 h.pushA h0 hia fun y hy=>by
  obtain ⟨j,hj,h1,rfl⟩:=Jv hy
  exact le_trans (κ:=κ) (h.segB j (nb - 1) hj hib (Nat.zero_le _) (by omega) (by omega)) (KeyOrd.kle_of_klt hc)
theorem RH.oneB (h:RH κ a b o na nb) (h0:1≤na) (h1:1≤nb) (hia:na - 1<a.size) (hib:nb - 1<b.size) (hc:κ.blt (kv κ b[nb - 1]) (kv κ a[na - 1])=false):RH κ a b (o.push b[nb - 1]) na (nb - 1) :=
 h.pushB h1 hib fun y hy=>by
  obtain ⟨j,hj,h1,rfl⟩:=Jv hy
  exact le_trans (κ:=κ) (h.segA j (na - 1) hj hia (Nat.zero_le _) (by omega) (by omega)) hc
theorem RH.galA (h:RH κ a b o na nb) (h1:1≤nb) (hib:nb - 1<b.size) (hk:k≤na) (g1:∀ i (hi:0+i<a.size),i<k→bey κ false b[nb - 1] a[0+i]=true) (g2:∀ i (hi:0+i<a.size),k≤i→i<na→bey κ false b[nb - 1] a[0+i]=false) :
  RH κ a b (o++(a.extract k na).reverse) k nb∧∀ y,y∈a.toList.take k→le κ y b[nb - 1]:=by
 refine ⟨h.manyA hk fun p hp y hy=>?_,fun y hy=>?_⟩
 ·obtain ⟨j,hj,hkj,hjn,rfl⟩:=Wj hp
  obtain ⟨i,hi,hii,rfl⟩:=Jv hy
  have:=g2 j (by omega) hkj hjn
  unfold bey at this
  simp only [Bool.false_eq_true,if_false,Bool.not_eq_false',Nat.zero_add] at this
  exact le_trans (κ:=κ) (h.segB i (nb - 1) hi hib (Nat.zero_le _) (by omega) (by omega)) (KeyOrd.kle_of_klt this)
 ·obtain ⟨j,hj,hjk,rfl⟩:=Jv hy
  have:=g1 j (by omega) hjk
  unfold bey at this
  simp only [Bool.false_eq_true,if_false,Bool.not_eq_true',Nat.zero_add] at this
  exact this
theorem RH.galB (h:RH κ a b o na nb) (h1:1≤na) (hia:na - 1<a.size) (hk:k≤nb) (g1:∀ i (hi:0+i<b.size),i<k→bey κ true a[na - 1] b[0+i]=true) (g2:∀ i (hi:0+i<b.size),k≤i→i<nb→bey κ true a[na - 1] b[0+i]=false) :
  RH κ a b (o++(b.extract k nb).reverse) na k∧∀ y,y∈b.toList.take k→le κ y a[na - 1]:=by
 refine ⟨h.manyB hk fun p hp y hy=>?_,fun y hy=>?_⟩
 ·obtain ⟨j,hj,hkj,hjn,rfl⟩:=Wj hp
  obtain ⟨i,hi,hii,rfl⟩:=Jv hy
  have:=g2 j (by omega) hkj hjn
  unfold bey at this
  simp only [if_true,Nat.zero_add] at this
  exact le_trans (κ:=κ) (h.segA i (na - 1) hi hia (Nat.zero_le _) (by omega) (by omega)) this
 ·obtain ⟨j,hj,hjk,rfl⟩:=Jv hy
  have:=g1 j (by omega) hjk
  unfold bey at this
  simp only [if_true,Nat.zero_add] at this
  exact KeyOrd.kle_of_klt this
end hi
noncomputable abbrev HS:=Option (Array Keyed)×Nat×Nat×Array Keyed×Nat×Nat×Nat
noncomputable def HI (κ:KeyKind) (a b:Array Keyed) (st:SortSt) (x:Nat) (c:HS) (st':SortSt):Prop:=∃ na nb o mg ac bc,c=(none,na,nb,o,mg,ac,bc)∧Sa st st'∧RH κ a b o na nb∧1≤na∧na<a.size∧2≤nb∧nb≤b.size∧x+1+(na+nb)<a.size+b.size
noncomputable def HQ (κ:KeyKind) (a b:Array Keyed) (st:SortSt) (x:Nat) (c:HS) (st':SortSt):Prop:=((∃ m na nb o mg ac bc,c=(some m,na,nb,o,mg,ac,bc)∧Sa st st'∧Good κ a b m)∨(∃ na nb o mg ac bc,c=(none,na,nb,o,mg,ac,bc)∧Sa st st'∧RH κ a b o na nb∧1≤na∧na<a.size∧2≤nb∧nb≤b.size∧x+1+(na+nb)<a.size+b.size))
section hi2
variable {a b o:Array Keyed} {na nb x:Nat} {st st3:SortSt} {Q:ForInStep HS→SortSt→Prop}
noncomputable def hi3c (a b o:Array Keyed) (na nb mg k k2:Nat):StateT SortSt Sem (ForInStep HS):=elem' a (na - 1) >>= fun v =>
 if (na - 1 == 0)=true then pure (.done (some (a.extract 0 (na - 1)++b.extract 0 nb++(o.push v).reverse),na - 1,nb,o.push v,mg,k,k2))
 else if (decide (k<7)&&decide (k2<7))=true then pure (.done (none,na - 1,nb,o.push v,mg,k,k2)) else pure (.yield (none,na - 1,nb,o.push v,mg,k,k2))
theorem hi3 {mg k k2:Nat} (hd:∀ c st',HQ κ a b st x c st'→Q (.done c) st') (hy:∀ c st',HI κ a b st x c st'→Q (.yield c) st') (hS:Sa st st3)
  (f3:RH κ a b o na nb) (h1:1≤na) (h2:na - 1<a.size) (h3:2≤nb) (h4:nb≤b.size) (f3r:∀ y,y∈b.toList.take nb→le κ y a[na - 1]) (hx:x+(na+nb)<a.size+b.size):wpS (model prog w) A E s (hi3c a b o na nb mg k k2) Q st3:=by
 refine wpS_bind (Xl h2 ?_)
 have f4:=f3.pushA h1 h2 f3r
 refine Xp (fun z=>?_) fun z=>?_
 ·exact wpS_pure (hd _ _ (.inl ⟨_,_,_,_,_,_,_,rfl,hS,f4.endA (eq_of_beq z)⟩))
 ·have z':na - 1≠0:=fun e=>z (beq_iff_eq.mpr e)
  have e1:1≤na - 1:=by omega
  have e2:x+1+(na - 1+nb)<a.size+b.size:=by omega
  split
  ·exact wpS_pure (hd _ _ (.inr ⟨_,_,_,_,_,_,rfl,hS,f4,e1,h2,h3,h4,e2⟩))
  ·exact wpS_pure (hy _ _ ⟨_,_,_,_,_,_,rfl,hS,f4,e1,h2,h3,h4,e2⟩)
theorem hi2 {mg k bc:Nat} {F:Keyed→Keyed→Option Nat→StateT SortSt Sem (ForInStep HS)} (hO:κ.OneLt) (hd:∀ c st',HQ κ a b st x c st'→Q (.done c) st') (hy:∀ c st',HI κ a b st x c st'→Q (.yield c) st') (hS:Sa st st3) (hk:kindOf st=oneType') (hA:∀ p,p∈a.toList→Has κ p) (hB:∀ p,p∈b.toList→Has κ p)
  (hf:∀ x,x∈a.toList→∀ hz:0<b.size,le κ b[0] x)
  (f1:RH κ a b o na nb) (h1:1≤na) (h2:na<a.size) (h3:2≤nb) (h4:nb - 1<b.size) (f1r:∀ y,y∈a.toList.take na→le κ y b[nb - 1]) (hx:x+1+(na+nb)<a.size+b.size)
  (hF:∀ v v1 k2,F v v1 (some k2)=if nb - 1 - k2 > 0 then (if (k2 == 1)=true then pure (.done (some (b.extract 0 k2++a.extract 0 na++(o.push v++(b.extract k2 (nb - 1)).reverse).reverse),na,k2,o.push v++(b.extract k2 (nb - 1)).reverse,mg,k,nb - 1 - k2)) else if (k2 == 0)=true then pure (.done (some (a.extract 0 na++b.extract 0 k2++(o.push v++(b.extract k2 (nb - 1)).reverse).reverse),na,k2,o.push v++(b.extract k2 (nb - 1)).reverse,mg,k,nb - 1 - k2)) else hi3c a b (o.push v++(b.extract k2 (nb - 1)).reverse) na k2 mg k (nb - 1 - k2)) else hi3c a b (o.push v) na (nb - 1) mg k (nb - 1 - k2)) :
  wpS (model prog w) A E s (elem' b (nb - 1) >>= fun v=>if (nb - 1 == 1)=true then pure (.done (some (b.extract 0 (nb - 1)++a.extract 0 na++(o.push v).reverse),na,nb - 1,o.push v,mg,k,bc)) else elem' a (na - 1) >>= fun v1=>gal true v1 b 0 (nb - 1) (nb - 1 - 1) >>= F v v1) Q st3:=by
 refine wpS_bind (Xl h4 ?_)
 have f2:=f1.pushB (by omega) h4 f1r
 refine Xp (fun z=>?_) fun z=>?_
 ·exact wpS_pure (hd _ _ (.inl ⟨_,_,_,_,_,_,_,rfl,hS,f2.endB (eq_of_beq z) hf⟩))
 have zb:nb - 1≠1:=fun e=>z (beq_iff_eq.mpr e)
 have h2':na - 1<a.size:=by omega
 refine wpS_bind (Xl h2' (wpS_bind (Zbc hO (hS.1.trans hk) (hA _ (by simp)) hB (by omega) (by omega) (by rw [Nat.zero_add];exact f2.segB) fun k2 g1 g2 g3=>?_)))
 obtain ⟨f3,f3r⟩:=f2.galB h1 h2' g1 g2 g3
 rw [hF]
 refine Xp (fun zk=>?_) fun zk=>?_
 ·refine Xp (fun z=>?_) fun z=>?_
  ·exact wpS_pure (hd _ _ (.inl ⟨_,_,_,_,_,_,_,rfl,hS,f3.endB (eq_of_beq z) hf⟩))
  have zb2:k2≠1:=fun e=>z (beq_iff_eq.mpr e)
  refine Xp (fun z=>?_) fun z=>?_
  ·exact wpS_pure (hd _ _ (.inl ⟨_,_,_,_,_,_,_,rfl,hS,f3.endB0 (eq_of_beq z)⟩))
  have zb3:k2≠0:=fun e=>z (beq_iff_eq.mpr e)
  exact hi3 hd hy hS f3 h1 h2' (by omega) (by omega) f3r (by omega)
 ·obtain rfl:k2=nb - 1:=by omega
  simp only [Array.extract_empty_of_stop_le_start (Nat.le_refl _),Array.reverse_empty,Array.append_empty] at f3 f3r
  exact hi3 hd hy hS f3 h1 h2' (by omega) (by omega) f3r (by omega)
end hi2
set_option maxHeartbeats 1000000 in
theorem Xwh {st:SortSt} {a b:Array Keyed} {Q:Array Keyed→SortSt→Prop} (hO:κ.OneLt) (hk:kindOf st=oneType') (hA:∀ p,p∈a.toList→Has κ p) (hB:∀ p,p∈b.toList→Has κ p)
  (ha:0<a.size) (hb:0<b.size) (sa:a.toList.Pairwise (le κ)) (sb:b.toList.Pairwise (le κ)) (hf:∀ x,x∈a.toList→∀ hz:0<b.size,le κ b[0] x) (hl:∀ y,y∈b.toList→∀ hz:a.size - 1<a.size,le κ y a[a.size - 1])
  (h:∀ m st',Sa st st'→Good κ a b m→Q m st'):wpS (model prog w) A E s (mHi a b) Q st:=by
 have hza:a.size - 1<a.size:=by omega
 refine wpS_bind (wpS_lift (wpAny_rule ⟨rfl,?_⟩))
 refine wpS_bind (Xl hza ?_)
 have r0:RH κ a b #[] a.size b.size:=by
  unfold RH
  rw [List.take_of_length_le (by simp),List.take_of_length_le (by simp)]
  exact ⟨by simpa using sa,by simpa using sb,by simp⟩
 have r1:RH κ a b #[a[a.size - 1]] (a.size - 1) b.size:=r0.pushA ha hza fun y hy=>hl y (List.mem_of_mem_take hy) hza
 dsimp only
 refine Xp (fun z=>?_) fun z=>?_
 ·exact wpS_pure (h _ _ (Sa.refl _) (r1.endA (eq_of_beq z)))
 have z1:a.size - 1≠0:=fun e=>z (beq_iff_eq.mpr e)
 refine Xp (fun z=>?_) fun z=>?_
 ·exact wpS_pure (h _ _ (Sa.refl _) (r1.endB (eq_of_beq z) hf))
 have z2:b.size≠1:=fun e=>z (beq_iff_eq.mpr e)
 refine wpS_bind (wpS_get ?_)
 refine wpS_bind (wpS_mono (wpS_forRange (I:=fun x c st'=>∃ na nb o mg,c=(none,na,nb,o,mg)∧Sa st st'∧RH κ a b o na nb∧1≤na∧na<a.size∧2≤nb∧nb≤b.size∧x+(na+nb)<a.size+b.size)
  (Q:=fun c st'=>∃ m na nb o mg,c=(some m,na,nb,o,mg)∧Sa st st'∧Good κ a b m) ?_ ?_ ⟨_,_,_,_,rfl,Sa.refl _,r1,by omega,by omega,by omega⟩) ?_)
 ·refine fun x=>eS (e4 fun na nb o mg st1 hS1 q0 hia hia' hxi=>?_)
  refine wpS_bind (wpS_mono (wpS_forRange (I:=fun y c st'=>∃ na nb o ac bc,c=(none,na,nb,o,ac,bc)∧Sa st st'∧RH κ a b o na nb∧1≤na∧na<a.size∧2≤nb∧nb≤b.size∧x+y+(na+nb)<a.size+b.size)
   (Q:=fun c st'=>((∃ m na nb o ac bc,c=(some m,na,nb,o,ac,bc)∧Sa st st'∧Good κ a b m)∨(∃ na nb o ac bc,c=(none,na,nb,o,ac,bc)∧Sa st st'∧RH κ a b o na nb∧1≤na∧na<a.size∧2≤nb∧nb≤b.size∧x+1+(na+nb)<a.size+b.size))) ?_ ?_ ⟨_,_,_,_,_,rfl,hS1,q0,hia,hia',hxi⟩) ?_)
  ·clear hS1 q0 hia hia' hxi
   refine fun y=>eS (e5 fun na nb o ac bc st1 hS1 f0 hia hia' hxi=>?_)
   refine wpS_bind (Xl (show nb - 1<b.size by omega) ?_)
   refine wpS_bind (Xl (show na - 1<a.size by omega) ?_)
   refine wpS_bind (Zui hO (hS1.1.trans hk) (hB _ (by simp)) (hA _ (by simp)) ?_)
   cases hc:κ.blt (kv κ b[nb - 1]) (kv κ a[na - 1]) with
   | true =>
    dsimp only
    rw [if_pos rfl]
    have f1:=f0.oneA hia (by omega) (by omega) (by omega) hc
    refine wpS_bind (Xl (show na - 1<a.size by omega) ?_)
    refine Xp (fun z=>?_) fun z=>?_
    ·exact wpS_pure (.inl ⟨_,_,_,_,_,_,rfl,hS1,f1.endA (eq_of_beq z)⟩)
    ·have zb:na - 1≠0:=fun e=>z (beq_iff_eq.mpr e)
     split
     ·exact wpS_pure (.inr ⟨_,_,_,_,_,rfl,hS1,f1,by omega,by omega,by omega⟩)
     ·exact wpS_pure ⟨_,_,_,_,_,rfl,hS1,f1,by omega,by omega,by omega⟩
   | false =>
    dsimp only
    rw [if_neg Bool.false_ne_true]
    have f1:=f0.oneB hia (by omega) (by omega) (by omega) hc
    refine wpS_bind (Xl (show nb - 1<b.size by omega) ?_)
    refine Xp (fun z=>?_) fun z=>?_
    ·exact wpS_pure (.inl ⟨_,_,_,_,_,_,rfl,hS1,f1.endB (eq_of_beq z) hf⟩)
    ·have zb:nb - 1≠1:=fun e=>z (beq_iff_eq.mpr e)
     split
     ·exact wpS_pure (.inr ⟨_,_,_,_,_,rfl,hS1,f1,hia,hia',by omega⟩)
     ·exact wpS_pure ⟨_,_,_,_,_,rfl,hS1,f1,hia,hia',by omega⟩
  ·rintro c _ ⟨na,nb,o,ac,bc,rfl,_,f0,h1,h2,h3⟩
   omega
  ·clear hS1 q0 hia hia' hxi
   refine eO (g6 fun m na nb o ac bc st1 hS1 hm=>wpS_pure ⟨_,_,_,_,_,rfl,hS1,hm⟩) (e5 fun na nb o ac bc st1 hS1 q0 hia hia' hxi=>?_)
   ·dsimp only
    refine wpS_bind (wpS_lift (wpAny_rule ⟨rfl,?_⟩))
    refine wpS_bind (wpS_mono (wpS_forRange (I:=fun y c st'=>∃ na nb o mg ac bc,c=(none,na,nb,o,mg,ac,bc)∧Sa st st'∧RH κ a b o na nb∧1≤na∧na<a.size∧2≤nb∧nb≤b.size∧x+1+(na+nb)<a.size+b.size)
     (Q:=fun c st'=>((∃ m na nb o mg ac bc,c=(some m,na,nb,o,mg,ac,bc)∧Sa st st'∧Good κ a b m)∨(∃ na nb o mg ac bc,c=(none,na,nb,o,mg,ac,bc)∧Sa st st'∧RH κ a b o na nb∧1≤na∧na<a.size∧2≤nb∧nb≤b.size∧x+1+(na+nb)<a.size+b.size))) ?_ ?_ ⟨_,_,_,_,_,_,rfl,hS1,q0,hia,hia',hxi⟩) ?_)
    ·clear hS1 q0 hia hia' hxi
     refine fun y=>eS (e6 fun na nb o mg ac bc st2 hS2 f0 hia hia' hx2=>?_)
     dsimp only
     revert mg
     refine Xwb (fun _=>rfl) fun mg=>?_
     refine wpS_bind (Zib fun st3 hS3'=>?_)
     have hS3:=hS2.trans hS3'
     refine wpS_bind (Xl (show nb - 1<b.size by omega) ?_)
     refine wpS_bind (Zbc hO (hS3.1.trans hk) (hB _ (by simp)) hA (by omega) (by omega) (by rw [Nat.zero_add];exact f0.segA) fun k g1 g2 g3=>?_)
     obtain ⟨f1,f1r⟩:=f0.galA (by omega) (show nb - 1<b.size by omega) g1 g2 g3
     dsimp only
     refine Xp (fun zk=>?_) fun zk=>?_
     ·refine Xp (fun z=>?_) fun z=>?_
      ·exact wpS_pure (.inl ⟨_,_,_,_,_,_,_,rfl,hS3,f1.endA (eq_of_beq z)⟩)
      ·have za:k≠0:=fun e=>z (beq_iff_eq.mpr e)
       exact hi2 hO (fun _ _ z=>z) (fun _ _ z=>z) hS3 hk hA hB hf f1 (by omega) (by omega) (by omega) (by omega) f1r (by omega) (fun _ _ _=>rfl)
     ·obtain rfl:k=na:=by omega
      simp only [Array.extract_empty_of_stop_le_start (Nat.le_refl _),Array.reverse_empty,Array.append_empty] at f1 f1r
      exact hi2 hO (fun _ _ z=>z) (fun _ _ z=>z) hS3 hk hA hB hf f1 (by omega) (by omega) (by omega) (by omega) f1r (by omega) (fun _ _ _=>rfl)
    ·exact fun c st2 => .inr
    ·exact eO (g7 fun m na nb o mg ac bc st2 hS2 hm=>wpS_pure ⟨_,_,_,_,_,rfl,hS2,hm⟩) (e6 fun na nb o mg ac bc st2 hS2 q0 hia hib hxi =>
      wpS_bind (Zib fun st3 hS3=>wpS_pure ⟨_,_,_,_,rfl,hS2.trans hS3,q0,hia,hib,hxi⟩))
 ·rintro c st1 ⟨na,nb,o,mg,rfl,hS1,q0,h1,h2,h3⟩
  omega
 ·exact g5 fun m na nb o mg st1 hS1 hm=>wpS_pure (h m st1 hS1 hm)
end
end TS
end
section
namespace TS
open PySem PyProof.Rows
section
variable {prog:Program} {w:World} {A:Around} {E:Value→Shared→Prop} {s:Shared} {κ:KeyKind}
theorem Xsf {σ:Type} {M:Model} {Q:PUnit→σ→Prop} {st st':σ} (h:Q ⟨⟩ st'):wpS M A E s (set st':StateT σ Sem PUnit) Q st:=by
 unfold wpS;rw [StateT.run_set];exact wpAny_pure ⟨rfl,h⟩
theorem Xmc {σ:Type} {M:Model} {Q:PUnit→σ→Prop} {st st':σ} (h:∀ st1,st1=st'→Q ⟨⟩ st1):wpS M A E s (set st':StateT σ Sem PUnit) Q st:=Xsf (h _ rfl)
theorem Xfc (off:Nat):∀ (l:List Keyed) (n:Nat) (arr:Array Keyed) (j:Nat),off+n+l.length≤arr.size→
  ((l.zipIdx n).foldl (fun a (x:Keyed×Nat)=>a.setIfInBounds (off+x.2) x.1) arr)[j]?=if off+n≤j∧j<off+n+l.length then l[j - (off+n)]? else arr[j]?
 | [],n,arr,j,_=>by rw [if_neg (by simp)];rfl
 | p::l,n,arr,j,h=>by
  rw [List.length_cons] at h ⊢
  rw [List.zipIdx_cons,List.foldl_cons,Xfc off l (n+1) _ j (by rw [Array.size_setIfInBounds];omega)]
  dsimp only
  rw [Array.getElem?_setIfInBounds]
  by_cases h1:off+n=j
  ·subst h1
   rw [if_neg (by omega),if_pos rfl,if_pos (by omega),if_pos (by omega),Nat.sub_self];rfl
  ·rw [if_neg h1]
   by_cases h2:off+n≤j∧j<off+n+(l.length+1)
   ·rw [if_pos h2,if_pos (by omega),show j - (off+n)=j - (off+(n+1))+1 by omega,List.getElem?_cons_succ]
   ·rw [if_neg h2,if_neg (by omega)]
noncomputable def put (arr:Array Keyed) (off:Nat) (m:Array Keyed):Array Keyed:=m.toList.zipIdx.foldl (fun a (x:Keyed×Nat)=>a.setIfInBounds (off+x.2) x.1) arr
theorem Xoc {arr m:Array Keyed} {off:Nat} (h:off+m.size≤arr.size) (j:Nat):(put arr off m)[j]?=if off≤j∧j<off+m.size then m[j - off]? else arr[j]?:=by
 have:=Xfc off m.toList 0 arr j (by simpa using h)
 simp only [Nat.add_zero,Array.length_toList,Array.getElem?_toList] at this
 exact this
theorem Xob {arr m:Array Keyed} {off:Nat} (h:off+m.size≤arr.size):(put arr off m).toList=arr.toList.take off++(m.toList++arr.toList.drop (off+m.size)):=by
 apply List.ext_getElem?
 intro j
 rw [Array.getElem?_toList,Xoc h]
 have hl:arr.toList.length=arr.size:=by simp
 have hm:m.toList.length=m.size:=by simp
 by_cases h1:j<off
 ·rw [if_neg (by omega),List.getElem?_append_left (by rw [List.length_take];omega),List.getElem?_take,if_pos h1,Array.getElem?_toList]
 ·rw [List.getElem?_append_right (by rw [List.length_take];omega),List.length_take,show min off arr.toList.length=off by omega]
  by_cases h2:j<off+m.size
  ·rw [if_pos (by omega),List.getElem?_append_left (by omega),Array.getElem?_toList]
  ·rw [if_neg (by omega),List.getElem?_append_right (by omega),List.getElem?_drop,Array.getElem?_toList]
   congr 1;omega
theorem cut3 (arr:Array Keyed) {i j k:Nat} (h1:i≤j) (h2:j≤k):(arr.extract i j).toList++(arr.extract j k).toList=(arr.extract i k).toList:=by
 apply List.ext_getElem?
 intro n
 by_cases hn:n<(arr.extract i j).toList.length
 ·rw [List.getElem?_append_left hn]
  rw [Array.length_toList,Array.size_extract] at hn
  rw [Array.getElem?_toList,Array.getElem?_toList,Array.getElem?_extract,Array.getElem?_extract,if_pos (by omega),if_pos (by omega)]
 ·rw [List.getElem?_append_right (by omega)]
  rw [Array.length_toList,Array.size_extract] at hn ⊢
  rw [Array.getElem?_toList,Array.getElem?_toList,Array.getElem?_extract,Array.getElem?_extract]
  by_cases hj:j≤arr.size
  ·by_cases z:n<min k arr.size - i
   ·rw [if_pos (by omega),if_pos z];congr 1;omega
   ·rw [if_neg (by omega),if_neg z]
  ·rw [if_neg (by omega),if_neg (by omega)]
theorem Zeh {arr:Array Keyed} {lo hi:Nat} (h:Seg κ arr lo hi):(arr.extract lo hi).toList.Pairwise (le κ):=by
 refine List.pairwise_iff_getElem.mpr fun i j hi' hj hij=>?_
 have hs:=Array.size_extract (xs:=arr) (start:=lo) (stop:=hi)
 rw [Array.length_toList] at hi' hj
 show le κ (arr.extract lo hi)[i] (arr.extract lo hi)[j]
 rw [Array.getElem_extract,Array.getElem_extract]
 exact h _ _ (by omega) (by omega) (by omega) (by omega) (by omega)
theorem Xng {arr:Array Keyed} {lo hi:Nat} {P S R:List Keyed} (e:arr.toList=P++(S++R)) (hs:S.Pairwise (le κ)) (h1:lo=P.length) (h2:hi=lo+S.length):Seg κ arr lo hi:=by
 intro i j hi' hj hlo hij hjh
 rcases Nat.lt_or_eq_of_le hij with z | z
 ·have g:∀ n (hn:n<arr.size) (hl:lo≤n) (hn2:n<hi),arr[n]=S[n - lo]'(by omega):=fun n hn hl hn2=>by
   have:arr[n]?=S[n - lo]?:=by
    rw [← Array.getElem?_toList,e,List.getElem?_append_right (by omega),List.getElem?_append_left (by omega),h1]
   rw [Array.getElem?_eq_getElem hn,List.getElem?_eq_getElem (by omega)] at this
   exact Option.some.inj this
  rw [g i hi' hlo (by omega),g j hj (by omega) hjh]
  exact List.pairwise_iff_getElem.mp hs _ _ (by omega) (by omega) (by omega)
 ·subst z;exact KeyOrd.kle_refl _
structure Mrg (κ:KeyKind) (st st':SortSt) (lo hi:Nat):Prop where
 perm:(arrOf st').Perm (arrOf st)
 kind:kindOf st'=kindOf st
 failed:failedOf st'=failedOf st
 seg:Seg κ (arrOf st') lo hi
 rest:∀ j,(j<lo∨hi≤j)→(arrOf st')[j]?=(arrOf st)[j]?
theorem Xei {arr:Array Keyed} {sa sb e:Nat} (h1:Seg κ arr sa sb) (h2:Seg κ arr sb e) (h3:∀ i j (hi:i<arr.size) (hj:j<arr.size),sa≤i→i<sb→sb≤j→j<e→le κ arr[i] arr[j]):Seg κ arr sa e:=by
 intro i j hi hj a1 a2 a3
 by_cases z1:j<sb
 ·exact h1 i j hi hj a1 a2 z1
 ·by_cases z2:i<sb
  ·exact h3 i j hi hj a1 z2 (by omega) a3
  ·exact h2 i j hi hj (by omega) a2 a3
theorem Xci {arr m:Array Keyed} {sa na nb k n:Nat} (hz:sa+na+nb≤arr.size) (hk:k≤na) (hn:n≤nb) (h1:Seg κ arr sa (sa+na)) (h2:Seg κ arr (sa+na) (sa+na+nb))
  (c1:∀ i (hi:i<arr.size) (hb:sa+na<arr.size),sa≤i→i<sa+k→le κ arr[i] arr[sa+na])
  (c2:∀ j (hj:j<arr.size) (hl:sa+na - 1<arr.size),sa+na+n≤j→j<sa+na+nb→le κ arr[sa+na - 1] arr[j])
  (k0:k<na) (n0:0<n) (g:Good κ (arr.extract (sa+k) (sa+na)) (arr.extract (sa+na) (sa+na+n)) m) :
  Seg κ (put arr (sa+k) m) sa (sa+na+nb)∧(put arr (sa+k) m).Perm arr∧∀ j,(j<sa∨sa+na+nb≤j)→(put arr (sa+k) m)[j]?=arr[j]?:=by
 have hms:m.size=na - k+n:=by
  have:=g.2.length_eq
  rw [List.length_append,Array.length_toList,Array.length_toList,Array.length_toList,Array.size_extract,Array.size_extract] at this
  omega
 have hfit:sa+k+m.size≤arr.size:=by omega
 have hend:sa+k+m.size=sa+na+n:=by omega
 have hl:=Xob hfit
 rw [hend] at hl
 have hM:∀ p,p∈m.toList→∃ j,∃ hj:j<arr.size,sa+k≤j∧j<sa+na+n∧p=arr[j]:=fun p hp=>by
  rcases List.mem_append.mp (g.2.mem_iff.mp hp) with z | z
  ·obtain ⟨j,hj,a1,a2,rfl⟩:=Wj z
   exact ⟨j,hj,a1,by omega,rfl⟩
  ·obtain ⟨j,hj,a1,a2,rfl⟩:=Wj z
   exact ⟨j,hj,by omega,a2,rfl⟩
 have e1:arr.toList.take (sa+k)=(arr.extract 0 sa).toList++(arr.extract sa (sa+k)).toList:=by
  rw [cut3 arr (Nat.zero_le _) (by omega),Yo]
 have e2:arr.toList.drop (sa+na+n)=(arr.extract (sa+na+n) (sa+na+nb)).toList++arr.toList.drop (sa+na+nb):=by
  have:=drop_split (a:=arr) (i:=sa+na+n) (k:=nb - n) (by omega)
  rwa [show sa+na+n+(nb - n)=sa+na+nb by omega] at this
 refine ⟨?_,?_,fun j hj=>?_⟩
 ·refine Xng (P:=(arr.extract 0 sa).toList) (S:=(arr.extract sa (sa+k)).toList++(m.toList++(arr.extract (sa+na+n) (sa+na+nb)).toList)) (R:=arr.toList.drop (sa+na+nb)) ?_ ?_ ?_ ?_
  ·rw [hl,e1,e2];simp only [List.append_assoc]
  ·refine List.pairwise_append.mpr ⟨Zeh fun i j hi hj a1 a2 a3=>h1 i j hi hj a1 a2 (by omega),List.pairwise_append.mpr ⟨g.1,Zeh fun i j hi hj a1 a2 a3=>h2 i j hi hj (by omega) a2 a3,fun x hx y hy=>?_⟩,fun x hx y hy=>?_⟩
   ·obtain ⟨i,hi,a1,a2,rfl⟩:=hM x hx
    obtain ⟨j,hj,b1,b2,rfl⟩:=Wj hy
    by_cases z:i<sa+na
    ·exact le_trans (h1 i (sa+na - 1) hi (by omega) (by omega) (by omega) (by omega)) (c2 j hj (by omega) b1 b2)
    ·exact h2 i j hi hj (by omega) (by omega) b2
   ·obtain ⟨i,hi,a1,a2,rfl⟩:=Wj hx
    rcases List.mem_append.mp hy with z | z
    ·obtain ⟨j,hj,b1,b2,rfl⟩:=hM y z
     by_cases z:j<sa+na
     ·exact h1 i j hi hj a1 (by omega) z
     ·exact le_trans (c1 i hi (by omega) a1 a2) (h2 (sa+na) j (by omega) hj (Nat.le_refl _) (by omega) (by omega))
    ·obtain ⟨j,hj,b1,b2,rfl⟩:=Wj z
     exact le_trans (c1 i hi (by omega) a1 a2) (h2 (sa+na) j (by omega) hj (Nat.le_refl _) (by omega) (by omega))
  ·rw [Array.length_toList,Array.size_extract];omega
  ·simp only [List.length_append,Array.length_toList,Array.size_extract];omega
 ·rw [Array.perm_iff_toList_perm,hl]
  have e0:arr.toList=arr.toList.take (sa+k)++(((arr.extract (sa+k) (sa+na)).toList++(arr.extract (sa+na) (sa+na+n)).toList)++arr.toList.drop (sa+na+n)):=by
   rw [cut3 arr (by omega) (by omega),← Yo,← List.append_assoc,cut3 arr (Nat.zero_le _) (by omega),Yo,List.take_append_drop]
  refine List.Perm.trans ?_ (List.Perm.of_eq e0.symm)
  exact List.Perm.append_left _ (List.Perm.append_right _ g.2)
 ·rw [Xoc hfit,if_neg (by omega)]
theorem Xgd {arr:Array Keyed} {i j n:Nat} (h:n<(arr.extract i j).size) (h':i+n<arr.size):(arr.extract i j)[n]=arr[i+n]:=by rw [Array.getElem_extract]
set_option maxHeartbeats 1000000 in
theorem Xwi {st:SortSt} {pre post:List (Nat×Nat×Nat)} {sa na nb pw pw':Nat} {Q:Bool→SortSt→Prop} (hO:κ.OneLt) (hk:kindOf st=oneType') (hF:failedOf st=none) (hA:∀ p,p∈(arrOf st).toList→Has κ p)
  (hp:(pendingOf st).toList=pre++(sa,na,pw)::(sa+na,nb,pw')::post) (h1:1≤na) (h2:1≤nb) (hz:sa+na+nb≤(arrOf st).size) (s1:Seg κ (arrOf st) sa (sa+na)) (s2:Seg κ (arrOf st) (sa+na) (sa+na+nb))
  (h:∀ st',Mrg κ st st' sa (sa+na+nb)→(pendingOf st').toList=pre++(sa,na+nb,pw)::post→Q true st'):wpS (model prog w) A E s (mergeAt' pre.length) Q st:=by
 have p1:(pendingOf st)[pre.length]?=some (sa,na,pw):=by rw [← Array.getElem?_toList,hp,List.getElem?_append_right (Nat.le_refl _),Nat.sub_self];rfl
 have p2:(pendingOf st)[pre.length+1]?=some (sa+na,nb,pw'):=by rw [← Array.getElem?_toList,hp,List.getElem?_append_right (by omega),show pre.length+1 - pre.length=1 by omega];rfl
 have p3:(((pendingOf st).setIfInBounds pre.length (sa,na+nb,pw)).eraseIdxIfInBounds (pre.length+1)).toList=pre++(sa,na+nb,pw)::post:=by
  rw [Array.toList_eraseIdxIfInBounds,Array.toList_setIfInBounds,hp,List.set_append_right _ _ (Nat.le_refl _),Nat.sub_self]
  show (pre++(sa,na+nb,pw)::(sa+na,nb,pw')::post).eraseIdx _=_
  rw [List.eraseIdx_append_of_length_le (by omega),show pre.length+1 - pre.length=1 by omega];rfl
 refine wpS_bind (wpS_get ?_)
 dsimp only
 dsimp only [pendingOf] at p1 p2
 rw [p1,p2]
 dsimp only
 refine wpS_bind (Xmc fun st1 hst1=>?_)
 have k1:kindOf st1=kindOf st:=by rw [hst1]
 have a1:arrOf st1=arrOf st:=by rw [hst1]
 have f1:failedOf st1=failedOf st:=by rw [hst1]
 have q1:(pendingOf st1).toList=pre++(sa,na+nb,pw)::post:=by rw [hst1];exact p3
 clear hst1
 obtain ⟨arr,harr⟩:∃ arr,arrOf st=arr:=⟨_,rfl⟩
 have harr0:=harr
 rw [harr] at hA hz s1 s2 a1
 dsimp only [arrOf] at harr
 simp only [harr]
 have hb0:sa+na<arr.size:=by omega
 refine wpS_bind (Xl hb0 ?_)
 refine wpS_bind (Zbc hO (k1.trans hk) (hA _ (by simp)) hA (by omega) (by omega) s1 fun k g1 g2 g3=>?_)
 dsimp only
 have c1:∀ i (hi:i<arr.size) (hb:sa+na<arr.size),sa≤i→i<sa+k→le κ arr[i] arr[sa+na]:=fun i hi hb x1 x2=>by
  have:=g2 (i - sa) (by omega) (by omega)
  unfold bey at this
  simp only [Bool.false_eq_true,if_false,Bool.not_eq_true',show sa+(i - sa)=i by omega] at this
  exact this
 by_cases z:(na - k == 0)=true
 ·rw [if_pos z]
  have z':=eq_of_beq z
  refine wpS_pure (h st1 ⟨?_,k1,f1,?_,fun j _=>by rw [a1,harr0]⟩ q1)
  ·rw [a1,harr0]
  ·rw [a1]
   exact Xei s1 s2 fun i j hi hj x1 x2 x3 x4=>le_trans (c1 i hi hb0 x1 (by omega)) (s2 (sa+na) j hb0 hj (Nat.le_refl _) x3 x4)
 rw [if_neg z]
 have zk:na - k≠0:=fun e=>z (beq_iff_eq.mpr e)
 have hla:sa+k+(na - k) - 1<arr.size:=by omega
 refine wpS_bind (Xl hla ?_)
 refine wpS_bind (Zbc hO (k1.trans hk) (hA _ (by simp)) hA hz (by omega) s2 fun n j1 j2 j3=>?_)
 dsimp only
 have hlast:sa+k+(na - k) - 1=sa+na - 1:=by omega
 simp only [hlast] at j2 j3
 have c2:∀ j (hj:j<arr.size) (hl:sa+na - 1<arr.size),sa+na+n≤j→j<sa+na+nb→le κ arr[sa+na - 1] arr[j]:=fun j hj hl x1 x2=>by
  have:=j3 (j - (sa+na)) (by omega) (by omega) (by omega)
  unfold bey at this
  simp only [if_true,show sa+na+(j - (sa+na))=j by omega] at this
  exact this
 by_cases z:(n == 0)=true
 ·rw [if_pos z]
  have z':=eq_of_beq z
  refine wpS_pure (h st1 ⟨?_,k1,f1,?_,fun j _=>by rw [a1,harr0]⟩ q1)
  ·rw [a1,harr0]
  ·rw [a1]
   exact Xei s1 s2 fun i j hi hj x1 x2 x3 x4=>le_trans (s1 i (sa+na - 1) hi (by omega) x1 (by omega) (by omega)) (c2 j hj (by omega) (by omega) x4)
 rw [if_neg z]
 have zn:n≠0:=fun e=>z (beq_iff_eq.mpr e)
 have hxs:=Array.size_extract (xs:=arr) (start:=sa+k) (stop:=sa+na)
 have hys:=Array.size_extract (xs:=arr) (start:=sa+na) (stop:=sa+na+n)
 have hAx:∀ p,p∈(arr.extract (sa+k) (sa+na)).toList→Has κ p:=fun p hp=>by
  obtain ⟨j,hj,_,_,rfl⟩:=Wj hp
  exact hA _ (by simp)
 have hAy:∀ p,p∈(arr.extract (sa+na) (sa+na+n)).toList→Has κ p:=fun p hp=>by
  obtain ⟨j,hj,_,_,rfl⟩:=Wj hp
  exact hA _ (by simp)
 have sx:=Zeh (lo:=sa+k) (hi:=sa+na) fun i j hi hj x1 x2 x3=>s1 i j hi hj (by omega) x2 x3
 have sy:=Zeh (lo:=sa+na) (hi:=sa+na+n) fun i j hi hj x1 x2 x3=>s2 i j hi hj x1 x2 (by omega)
 have hf:∀ x,x∈(arr.extract (sa+k) (sa+na)).toList→∀ hz:0<(arr.extract (sa+na) (sa+na+n)).size,le κ (arr.extract (sa+na) (sa+na+n))[0] x:=fun x hx hz0=>by
  obtain ⟨j,hj,x1,x2,rfl⟩:=Wj hx
  rw [Xgd hz0 (by omega)]
  have:=g3 (j - sa) (by omega) (by omega) (by omega)
  unfold bey at this
  simp only [Bool.false_eq_true,if_false,Bool.not_eq_false',show sa+(j - sa)=j by omega] at this
  exact KeyOrd.kle_of_klt this
 have hl:∀ y,y∈(arr.extract (sa+na) (sa+na+n)).toList→∀ hz:(arr.extract (sa+k) (sa+na)).size - 1<(arr.extract (sa+k) (sa+na)).size,le κ y (arr.extract (sa+k) (sa+na))[(arr.extract (sa+k) (sa+na)).size - 1]:=fun y hy hz0=>by
  obtain ⟨j,hj,x1,x2,rfl⟩:=Wj hy
  have e:sa+k+((arr.extract (sa+k) (sa+na)).size - 1)=sa+na - 1:=by omega
  rw [Xgd hz0 (by omega)]
  simp only [e]
  have:=j2 (j - (sa+na)) (by omega) (by omega)
  unfold bey at this
  simp only [if_true,show sa+na+(j - (sa+na))=j by omega] at this
  exact KeyOrd.kle_of_klt this
 have fin:∀ (m:Array Keyed) (st':SortSt),Sa st1 st'→Good κ (arr.extract (sa+k) (sa+na)) (arr.extract (sa+na) (sa+na+n)) m→Q (failedOf st').isNone (SortSt.mk' (kindOf st') (put (arrOf st') (sa+k) m) (pendingOf st') (gallopOf st') (failedOf st')):=fun m st' hS g=>by
  obtain ⟨t1,t2,t3⟩:=Xci hz g1 j1 s1 s2 c1 c2 (by omega) (by omega) g
  have e:arrOf st'=arr:=hS.2.1.trans a1
  rw [show (failedOf st').isNone=true by rw [hS.2.2.2.trans (f1.trans hF)];rfl]
  refine h _ ⟨?_,hS.1.trans k1,hS.2.2.2.trans f1,?_,fun j hj=>?_⟩ ?_
  ·show (put (arrOf st') (sa+k) m).Perm _
   rw [e,harr0];exact t2
  ·show Seg κ (put (arrOf st') (sa+k) m) _ _
   rw [e];exact t1
  ·show (put (arrOf st') (sa+k) m)[j]?=_
   rw [e,harr0];exact t3 j hj
  ·show (pendingOf st').toList=_
   rw [hS.2.2.1];exact q1
 by_cases hle:na - k≤n
 ·rw [if_pos hle]
  refine wpS_bind (Xwg hO (k1.trans hk) hAx hAy (by omega) (by omega) sx sy (fun x hx=>hf x hx (by omega)) hl fun m st' hS g=>?_)
  exact wpS_bind (wpS_modify (wpS_bind (wpS_get (wpS_pure (fin m st' hS g)))))
 ·rw [if_neg hle]
  refine wpS_bind (Xwh hO (k1.trans hk) hAx hAy (by omega) (by omega) sx sy hf hl fun m st' hS g=>?_)
  exact wpS_bind (wpS_modify (wpS_bind (wpS_get (wpS_pure (fin m st' hS g)))))
end
end TS
end
section
namespace TS
open PySem PyProof.Rows
section
variable {prog:Program} {w:World} {A:Around} {E:Value→Shared→Prop} {s:Shared} {κ:KeyKind}
structure Kp (κ:KeyKind) (st0:SortSt) (lo:Nat) (st:SortSt):Prop where
 perm:(arrOf st).Perm (arrOf st0)
 kind:kindOf st=oneType'
 failed:failedOf st=none
 pend:pendingOf st=pendingOf st0
 low:∀ j,j<lo→(arrOf st)[j]?=(arrOf st0)[j]?
 has:∀ p,p∈(arrOf st).toList→Has κ p
variable {st0 st:SortSt} {lo:Nat}
theorem Kp.size (h:Kp κ st0 lo st):(arrOf st).size=(arrOf st0).size:=h.perm.size_eq
theorem Kp.set (h:Kp κ st0 lo st) {xs:Array Keyed} (hp:xs.Perm (arrOf st)) (hl:∀ j,j<lo→xs[j]?=(arrOf st)[j]?):Kp κ st0 lo (setArr st xs) :=
 ⟨hp.trans h.perm,h.kind,h.failed,h.pend,fun j hj=>(hl j hj).trans (h.low j hj),fun p m=>h.has p ((Array.perm_iff_toList_perm.mp hp).mem_iff.mp m)⟩
theorem Kp.mir (h:Kp κ st0 lo st) {i j:Nat} (h1:lo≤i) (h2:j≤(arrOf st).size):Kp κ st0 lo (setArr st (mirror (arrOf st) i j ((j - i)/2))) :=
 h.set (mirror_perm _ _ _ _) fun k hk=>by rw [getElem?_mirror_all h2,if_neg (by omega)]
theorem Xo {i j:Nat} {Q:Option Bool→SortSt→Prop} (b:Bool) (hO:κ.OneLt) (hB:Kp κ st0 lo st) (hi:i<(arrOf st0).size) (hj:j<(arrOf st0).size)
  (e:κ.blt (KK κ (arrOf st) i) (KK κ (arrOf st) j)=b) (h:Q (some b) st):wpS (model prog w) A E s (ltAt' i j) Q st:=by
 have z1:i<(arrOf st).size:=by rw [hB.size];exact hi
 have z2:j<(arrOf st).size:=by rw [hB.size];exact hj
 rw [ltAt'_eq]
 refine wpS_bind (wpS_get ?_)
 refine wpS_bind (Xl z1 (wpS_bind (Xl z2 (Zui hO hB.kind (hB.has _ (by simp)) (hB.has _ (by simp)) ?_))))
 rw [Zqa (Array.getElem?_eq_getElem z1),Zqa (Array.getElem?_eq_getElem z2)] at e
 rw [e];exact h
noncomputable def KS (κ:KeyKind) (arr:Array Keyed) (lo hi:Nat):Prop:=∀ i j,lo≤i→i≤j→j<hi→κ.kle (KK κ arr i) (KK κ arr j)
noncomputable def NI (κ:KeyKind) (arr:Array Keyed) (lo hi:Nat):Prop:=∀ i j,lo≤i→i≤j→j<hi→κ.kle (KK κ arr j) (KK κ arr i)
theorem KS.seg {arr:Array Keyed} {lo hi:Nat} (h:KS κ arr lo hi):Seg κ arr lo hi:=fun i j h1 h2 a b c=>by
 have:=h i j a b c
 rw [Zqa (Array.getElem?_eq_getElem h1),Zqa (Array.getElem?_eq_getElem h2)] at this
 exact this
theorem KS.one (arr:Array Keyed) (lo:Nat):KS κ arr lo (lo+1):=fun i j a b c=>by
 obtain rfl:i=j:=by omega
 exact KeyOrd.kle_refl _
theorem KS.up {arr:Array Keyed} {lo n:Nat} (h:KS κ arr lo (lo+n)) (h1:1≤n) (hc:κ.blt (KK κ arr (lo+n)) (KK κ arr (lo+n - 1))=false):KS κ arr lo (lo+(n+1)):=fun i j a b c=>by
 by_cases z:j<lo+n
 ·exact h i j a b z
 ·obtain rfl:j=lo+n:=by omega
  by_cases z':i=lo+n
  ·subst z';exact KeyOrd.kle_refl _
  ·exact KeyOrd.kle_trans (h i (lo+n - 1) a (by omega) (by omega)) hc
theorem NI.up {arr:Array Keyed} {lo n:Nat} (h:NI κ arr lo (lo+n)) (h1:1≤n) (hc:κ.kle (KK κ arr (lo+n)) (KK κ arr (lo+n - 1))):NI κ arr lo (lo+(n+1)):=fun i j a b c=>by
 by_cases z:j<lo+n
 ·exact h i j a b z
 ·obtain rfl:j=lo+n:=by omega
  by_cases z':i=lo+n
  ·subst z';exact KeyOrd.kle_refl _
  ·exact KeyOrd.kle_trans hc (h i (lo+n - 1) a (by omega) (by omega))
theorem NI.same {a b:Array Keyed} {lo hi:Nat} (h:NI κ a lo hi) (e:∀ k,KK κ b k=KK κ a k):NI κ b lo hi:=fun i j x y z=>by rw [e,e];exact h i j x y z
theorem NI.rev {arr:Array Keyed} {lo hi:Nat} (h:NI κ arr lo hi) (hz:hi≤arr.size):KS κ (mirror arr lo hi ((hi - lo)/2)) lo hi:=fun i j x y z=>by
 rw [KK_mirror hz,KK_mirror hz,if_pos (by omega),if_pos (by omega)]
 exact h _ _ (by omega) (by omega) (by omega)
theorem Jk {i j:Nat} {Q:Unit→SortSt→Prop} (h:∀ st',st'=setArr st (mirror (arrOf st) i j ((j - i)/2))→Q () st'):wpS (model prog w) A E s (reverseSlice' i j) Q st:=wpS_reverse (h _ rfl)
set_option maxHeartbeats 1000000 in
theorem Ybb {st1:SortSt} {nrem:Nat} {Q:Option Nat→SortSt→Prop} (hO:κ.OneLt) (hn:lo+nrem≤(arrOf st0).size) (h1:1≤nrem) (hB:Kp κ st0 lo st1)
  (h:∀ m st',Kp κ st0 lo st'→1≤m→m≤nrem→KS κ (arrOf st') lo (lo+m)→Q (some m) st'):wpS (model prog w) A E s (countRun' lo nrem) Q st1:=by
 refine wpS_bind (wpS_mono (wpS_forRange (I:=fun x c st'=>st1=st'∧c=(none,x)∧KS κ (arrOf st1) lo (lo+x))
  (Q:=fun c st'=>st1=st'∧∃ n,c=(none,n)∧1≤n∧n≤nrem∧KS κ (arrOf st1) lo (lo+n)∧(n=nrem∨κ.blt (KK κ (arrOf st1) (lo+n)) (KK κ (arrOf st1) (lo+n - 1))=true)) ?_ ?_ ⟨rfl,rfl,KS.one _ _⟩) ?_)
 ·rintro x c _ hx1 hx2 ⟨rfl,rfl,f1⟩
  dsimp only
  cases hc:κ.blt (KK κ (arrOf st1) (lo+x)) (KK κ (arrOf st1) (lo+x - 1)) with
  | true =>
   refine wpS_bind (Xo true hO hB (by omega) (by omega) hc ?_)
   exact wpS_pure ⟨rfl,x,rfl,by omega,by omega,f1,.inr hc⟩
  | false =>
   refine wpS_bind (Xo false hO hB (by omega) (by omega) hc ?_)
   exact wpS_pure ⟨rfl,rfl,f1.up (by omega) hc⟩
 ·rintro c _ ⟨rfl,rfl,f1⟩
  rw [show max 1 nrem=nrem by omega] at f1 ⊢
  exact ⟨rfl,nrem,rfl,h1,Nat.le_refl _,f1,.inl rfl⟩
 rintro c _ ⟨rfl,n,rfl,hn1,hn2,f1,f2⟩
 dsimp only
 by_cases z:(n == nrem)=true
 ·rw [if_pos z]
  exact wpS_pure (h n st1 hB hn1 hn2 f1)
 rw [if_neg z]
 have zn:n≠nrem:=fun e=>z (beq_iff_eq.mpr e)
 have hlt:=f2.resolve_left zn
 by_cases hgt:n > 1
 ·rw [if_pos hgt]
  cases hr:κ.blt (KK κ (arrOf st1) lo) (KK κ (arrOf st1) (lo+n - 1)) with
  | true =>
   refine wpS_bind (Xo true hO hB (by omega) (by omega) hr ?_)
   exact wpS_pure (h n st1 hB hn1 hn2 f1)
  | false =>
   refine wpS_bind (Xo false hO hB (by omega) (by omega) hr ?_)
   dsimp only
   rw [if_neg Bool.false_ne_true]
   have hall:∀ k,lo≤k→k<lo+n→KK κ (arrOf st1) k=KK κ (arrOf st1) (lo+n - 1):=fun k a b =>
    KeyOrd.kle_antisymm (f1 k (lo+n - 1) a (by omega) (by omega)) (KeyOrd.kle_trans hr (f1 lo k (Nat.le_refl _) a b))
   have hz1:lo+n≤(arrOf st1).size:=by rw [hB.size];omega
   refine wpS_bind (Jk fun st2 hst=>?_)
   have hk:∀ k,KK κ (arrOf st2) k=KK κ (arrOf st1) k:=by rw [hst];exact KK_mirror_equal hz1 hall
   have hBd:Kp κ st0 lo st2:=by rw [hst];exact hB.mir (Nat.le_refl _) hz1
   have fd0:NI κ (arrOf st1) lo (lo+n):=fun i j a b c=>by rw [hall i a (by omega),hall j (by omega) c];exact KeyOrd.kle_refl _
   have fd:=(fd0.up hn1 (KeyOrd.kle_of_klt hlt)).same hk
   clear hst hk fd0 hall
   refine wpS_bind (wpS_lift (wpAny_rule ⟨rfl,?_⟩))
   refine wpS_bind (wpS_mono (wpS_forRange (I:=fun x c st'=>∃ q,c=(none,x,q)∧Kp κ st0 lo st'∧NI κ (arrOf st') lo (lo+x)∧q+1≤x∧(∀ i,lo+x - (q+1)≤i→i<lo+x→KK κ (arrOf st') i=KK κ (arrOf st') (lo+x - 1)))
    (Q:=fun c st'=>∃ m q,c=(none,m,q)∧1≤m∧m≤nrem∧Kp κ st0 lo st'∧NI κ (arrOf st') lo (lo+m)∧q+1≤m∧(∀ i,lo+m - (q+1)≤i→i<lo+m→KK κ (arrOf st') i=KK κ (arrOf st') (lo+m - 1))) ?_ ?_ ⟨0,rfl,hBd,fd,by omega,fun i a b=>by congr 1;omega⟩) ?_)
   ·rintro x c st2 hx1 hx2 ⟨q,rfl,hBd,fd,hq,he⟩
    dsimp only
    have hz2:lo+x≤(arrOf st2).size:=by rw [hBd.size];omega
    cases hc:κ.blt (KK κ (arrOf st2) (lo+x)) (KK κ (arrOf st2) (lo+x - 1)) with
    | true =>
     refine wpS_bind (Xo true hO hBd (by omega) (by omega) hc ?_)
     dsimp only
     rw [if_pos rfl]
     by_cases zq:q > 0
     ·rw [if_pos zq]
      refine wpS_bind (Jk fun st3 hst=>?_)
      have hk:∀ k,KK κ (arrOf st3) k=KK κ (arrOf st2) k:=by rw [hst];exact KK_mirror_equal hz2 he
      have hB3:Kp κ st0 lo st3:=by rw [hst];exact hBd.mir (by omega) hz2
      exact wpS_pure ⟨0,rfl,hB3,(fd.up (by omega) (KeyOrd.kle_of_klt hc)).same hk,by omega,fun i a b=>by congr 1;omega⟩
     ·rw [if_neg zq]
      exact wpS_pure ⟨0,rfl,hBd,fd.up (by omega) (KeyOrd.kle_of_klt hc),by omega,fun i a b=>by congr 1;omega⟩
    | false =>
     refine wpS_bind (Xo false hO hBd (by omega) (by omega) hc ?_)
     dsimp only
     rw [if_neg Bool.false_ne_true]
     cases hd:κ.blt (KK κ (arrOf st2) (lo+x - 1)) (KK κ (arrOf st2) (lo+x)) with
     | true =>
      refine wpS_bind (Xo true hO hBd (by omega) (by omega) hd ?_)
      exact wpS_pure ⟨x,q,rfl,by omega,by omega,hBd,fd,hq,he⟩
     | false =>
      refine wpS_bind (Xo false hO hBd (by omega) (by omega) hd ?_)
      have hs:KK κ (arrOf st2) (lo+x)=KK κ (arrOf st2) (lo+x - 1):=KeyOrd.kle_antisymm hd hc
      refine wpS_pure ⟨q+1,rfl,hBd,fd.up (by omega) hd,by omega,fun i a b=>?_⟩
      rw [show lo+(x+1) - 1=lo+x by omega]
      by_cases zi:i=lo+x
      ·rw [zi]
      ·rw [he i (by omega) (by omega),hs]
   ·rintro c st2 ⟨q,rfl,hBd,fd,hq,he⟩
    rw [show max (n+1) nrem=nrem by omega] at fd hq he ⊢
    exact ⟨nrem,q,rfl,h1,Nat.le_refl _,hBd,fd,hq,he⟩
   ·clear hBd fd
    rintro c st2 ⟨m,q,rfl,hm1,hm2,hBd,fd,hq,he⟩
    dsimp only
    have hz2:lo+m≤(arrOf st2).size:=by rw [hBd.size];omega
    by_cases zq:q > 0
    ·rw [if_pos zq]
     refine wpS_bind (Jk fun st3 hst=>?_)
     have hk:∀ k,KK κ (arrOf st3) k=KK κ (arrOf st2) k:=by rw [hst];exact KK_mirror_equal hz2 he
     have hB3:Kp κ st0 lo st3:=by rw [hst];exact hBd.mir (by omega) hz2
     have fd3:=fd.same hk
     clear hst hBd fd he hk hz2
     have hBd:=hB3
     have fd:=fd3
     refine wpS_bind (Jk fun st1 hst=>?_)
     have hB:Kp κ st0 lo st1:=by rw [hst];exact hBd.mir (Nat.le_refl _) (by rw [hBd.size];omega)
     have f0:KS κ (arrOf st1) lo (lo+m):=by rw [hst];exact fd.rev (by rw [hBd.size];omega)
     clear hst
     refine wpS_bind (wpS_mono (wpS_forRange (I:=fun x c st'=>st1=st'∧c=(none,x)∧KS κ (arrOf st1) lo (lo+x))
      (Q:=fun c st'=>st1=st'∧∃ n,c=(none,n)∧1≤n∧n≤nrem∧KS κ (arrOf st1) lo (lo+n)∧(n=nrem∨κ.blt (KK κ (arrOf st1) (lo+n)) (KK κ (arrOf st1) (lo+n - 1))=true)) ?_ ?_ ⟨rfl,rfl,f0⟩) ?_)
     ·rintro x c _ hx1 hx2 ⟨rfl,rfl,f1⟩
      dsimp only
      cases hc:κ.blt (KK κ (arrOf st1) (lo+x)) (KK κ (arrOf st1) (lo+x - 1)) with
      | true =>
       refine wpS_bind (Xo true hO hB (by omega) (by omega) hc ?_)
       exact wpS_pure ⟨rfl,x,rfl,by omega,by omega,f1,.inr hc⟩
      | false =>
       refine wpS_bind (Xo false hO hB (by omega) (by omega) hc ?_)
       exact wpS_pure ⟨rfl,rfl,f1.up (by omega) hc⟩
     ·rintro c _ ⟨rfl,rfl,f1⟩
      rw [show max m nrem=nrem by omega] at f1 ⊢
      exact ⟨rfl,nrem,rfl,h1,Nat.le_refl _,f1,.inl rfl⟩
     ·rintro c _ ⟨rfl,n',rfl,b1,b2,f1,_⟩
      exact wpS_pure (h n' st1 hB b1 b2 f1)
    ·rw [if_neg zq]
     refine wpS_bind (Jk fun st1 hst=>?_)
     have hB:Kp κ st0 lo st1:=by rw [hst];exact hBd.mir (Nat.le_refl _) (by rw [hBd.size];omega)
     have f0:KS κ (arrOf st1) lo (lo+m):=by rw [hst];exact fd.rev (by rw [hBd.size];omega)
     clear hst
     refine wpS_bind (wpS_mono (wpS_forRange (I:=fun x c st'=>st1=st'∧c=(none,x)∧KS κ (arrOf st1) lo (lo+x))
      (Q:=fun c st'=>st1=st'∧∃ n,c=(none,n)∧1≤n∧n≤nrem∧KS κ (arrOf st1) lo (lo+n)∧(n=nrem∨κ.blt (KK κ (arrOf st1) (lo+n)) (KK κ (arrOf st1) (lo+n - 1))=true)) ?_ ?_ ⟨rfl,rfl,f0⟩) ?_)
     ·rintro x c _ hx1 hx2 ⟨rfl,rfl,f1⟩
      dsimp only
      cases hc:κ.blt (KK κ (arrOf st1) (lo+x)) (KK κ (arrOf st1) (lo+x - 1)) with
      | true =>
       refine wpS_bind (Xo true hO hB (by omega) (by omega) hc ?_)
       exact wpS_pure ⟨rfl,x,rfl,by omega,by omega,f1,.inr hc⟩
      | false =>
       refine wpS_bind (Xo false hO hB (by omega) (by omega) hc ?_)
       exact wpS_pure ⟨rfl,rfl,f1.up (by omega) hc⟩
     ·rintro c _ ⟨rfl,rfl,f1⟩
      rw [show max m nrem=nrem by omega] at f1 ⊢
      exact ⟨rfl,nrem,rfl,h1,Nat.le_refl _,f1,.inl rfl⟩
     ·rintro c _ ⟨rfl,n',rfl,b1,b2,f1,_⟩
      exact wpS_pure (h n' st1 hB b1 b2 f1)
 ·rw [if_neg hgt]
  have hBd:=hB
  have fd0:NI κ (arrOf st1) lo (lo+n):=fun i j a b c=>by
   obtain rfl:i=j:=by omega
   exact KeyOrd.kle_refl _
  have fd:=fd0.up hn1 (KeyOrd.kle_of_klt hlt)
  refine wpS_bind (wpS_lift (wpAny_rule ⟨rfl,?_⟩))
  refine wpS_bind (wpS_mono (wpS_forRange (I:=fun x c st'=>∃ q,c=(none,x,q)∧Kp κ st0 lo st'∧NI κ (arrOf st') lo (lo+x)∧q+1≤x∧(∀ i,lo+x - (q+1)≤i→i<lo+x→KK κ (arrOf st') i=KK κ (arrOf st') (lo+x - 1)))
   (Q:=fun c st'=>∃ m q,c=(none,m,q)∧1≤m∧m≤nrem∧Kp κ st0 lo st'∧NI κ (arrOf st') lo (lo+m)∧q+1≤m∧(∀ i,lo+m - (q+1)≤i→i<lo+m→KK κ (arrOf st') i=KK κ (arrOf st') (lo+m - 1))) ?_ ?_ ⟨0,rfl,hBd,fd,by omega,fun i a b=>by congr 1;omega⟩) ?_)
  ·rintro x c st2 hx1 hx2 ⟨q,rfl,hBd,fd,hq,he⟩
   dsimp only
   have hz2:lo+x≤(arrOf st2).size:=by rw [hBd.size];omega
   cases hc:κ.blt (KK κ (arrOf st2) (lo+x)) (KK κ (arrOf st2) (lo+x - 1)) with
   | true =>
    refine wpS_bind (Xo true hO hBd (by omega) (by omega) hc ?_)
    dsimp only
    rw [if_pos rfl]
    by_cases zq:q > 0
    ·rw [if_pos zq]
     refine wpS_bind (Jk fun st3 hst=>?_)
     have hk:∀ k,KK κ (arrOf st3) k=KK κ (arrOf st2) k:=by rw [hst];exact KK_mirror_equal hz2 he
     have hB3:Kp κ st0 lo st3:=by rw [hst];exact hBd.mir (by omega) hz2
     exact wpS_pure ⟨0,rfl,hB3,(fd.up (by omega) (KeyOrd.kle_of_klt hc)).same hk,by omega,fun i a b=>by congr 1;omega⟩
    ·rw [if_neg zq]
     exact wpS_pure ⟨0,rfl,hBd,fd.up (by omega) (KeyOrd.kle_of_klt hc),by omega,fun i a b=>by congr 1;omega⟩
   | false =>
    refine wpS_bind (Xo false hO hBd (by omega) (by omega) hc ?_)
    dsimp only
    rw [if_neg Bool.false_ne_true]
    cases hd:κ.blt (KK κ (arrOf st2) (lo+x - 1)) (KK κ (arrOf st2) (lo+x)) with
    | true =>
     refine wpS_bind (Xo true hO hBd (by omega) (by omega) hd ?_)
     exact wpS_pure ⟨x,q,rfl,by omega,by omega,hBd,fd,hq,he⟩
    | false =>
     refine wpS_bind (Xo false hO hBd (by omega) (by omega) hd ?_)
     have hs:KK κ (arrOf st2) (lo+x)=KK κ (arrOf st2) (lo+x - 1):=KeyOrd.kle_antisymm hd hc
     refine wpS_pure ⟨q+1,rfl,hBd,fd.up (by omega) hd,by omega,fun i a b=>?_⟩
     rw [show lo+(x+1) - 1=lo+x by omega]
     by_cases zi:i=lo+x
     ·rw [zi]
     ·rw [he i (by omega) (by omega),hs]
  ·rintro c st2 ⟨q,rfl,hBd,fd,hq,he⟩
   rw [show max (n+1) nrem=nrem by omega] at fd hq he ⊢
   exact ⟨nrem,q,rfl,h1,Nat.le_refl _,hBd,fd,hq,he⟩
  ·clear hBd fd
   rintro c st2 ⟨m,q,rfl,hm1,hm2,hBd,fd,hq,he⟩
   dsimp only
   have hz2:lo+m≤(arrOf st2).size:=by rw [hBd.size];omega
   by_cases zq:q > 0
   ·rw [if_pos zq]
    refine wpS_bind (Jk fun st3 hst=>?_)
    have hk:∀ k,KK κ (arrOf st3) k=KK κ (arrOf st2) k:=by rw [hst];exact KK_mirror_equal hz2 he
    have hB3:Kp κ st0 lo st3:=by rw [hst];exact hBd.mir (by omega) hz2
    have fd3:=fd.same hk
    clear hst hBd fd he hk hz2
    have hBd:=hB3
    have fd:=fd3
    refine wpS_bind (Jk fun st1 hst=>?_)
    have hB:Kp κ st0 lo st1:=by rw [hst];exact hBd.mir (Nat.le_refl _) (by rw [hBd.size];omega)
    have f0:KS κ (arrOf st1) lo (lo+m):=by rw [hst];exact fd.rev (by rw [hBd.size];omega)
    clear hst
    refine wpS_bind (wpS_mono (wpS_forRange (I:=fun x c st'=>st1=st'∧c=(none,x)∧KS κ (arrOf st1) lo (lo+x))
     (Q:=fun c st'=>st1=st'∧∃ n,c=(none,n)∧1≤n∧n≤nrem∧KS κ (arrOf st1) lo (lo+n)∧(n=nrem∨κ.blt (KK κ (arrOf st1) (lo+n)) (KK κ (arrOf st1) (lo+n - 1))=true)) ?_ ?_ ⟨rfl,rfl,f0⟩) ?_)
    ·rintro x c _ hx1 hx2 ⟨rfl,rfl,f1⟩
     dsimp only
     cases hc:κ.blt (KK κ (arrOf st1) (lo+x)) (KK κ (arrOf st1) (lo+x - 1)) with
     | true =>
      refine wpS_bind (Xo true hO hB (by omega) (by omega) hc ?_)
      exact wpS_pure ⟨rfl,x,rfl,by omega,by omega,f1,.inr hc⟩
     | false =>
      refine wpS_bind (Xo false hO hB (by omega) (by omega) hc ?_)
      exact wpS_pure ⟨rfl,rfl,f1.up (by omega) hc⟩
    ·rintro c _ ⟨rfl,rfl,f1⟩
     rw [show max m nrem=nrem by omega] at f1 ⊢
     exact ⟨rfl,nrem,rfl,h1,Nat.le_refl _,f1,.inl rfl⟩
    ·rintro c _ ⟨rfl,n',rfl,b1,b2,f1,_⟩
     exact wpS_pure (h n' st1 hB b1 b2 f1)
   ·rw [if_neg zq]
    refine wpS_bind (Jk fun st1 hst=>?_)
    have hB:Kp κ st0 lo st1:=by rw [hst];exact hBd.mir (Nat.le_refl _) (by rw [hBd.size];omega)
    have f0:KS κ (arrOf st1) lo (lo+m):=by rw [hst];exact fd.rev (by rw [hBd.size];omega)
    clear hst
    refine wpS_bind (wpS_mono (wpS_forRange (I:=fun x c st'=>st1=st'∧c=(none,x)∧KS κ (arrOf st1) lo (lo+x))
     (Q:=fun c st'=>st1=st'∧∃ n,c=(none,n)∧1≤n∧n≤nrem∧KS κ (arrOf st1) lo (lo+n)∧(n=nrem∨κ.blt (KK κ (arrOf st1) (lo+n)) (KK κ (arrOf st1) (lo+n - 1))=true)) ?_ ?_ ⟨rfl,rfl,f0⟩) ?_)
    ·rintro x c _ hx1 hx2 ⟨rfl,rfl,f1⟩
     dsimp only
     cases hc:κ.blt (KK κ (arrOf st1) (lo+x)) (KK κ (arrOf st1) (lo+x - 1)) with
     | true =>
      refine wpS_bind (Xo true hO hB (by omega) (by omega) hc ?_)
      exact wpS_pure ⟨rfl,x,rfl,by omega,by omega,f1,.inr hc⟩
     | false =>
      refine wpS_bind (Xo false hO hB (by omega) (by omega) hc ?_)
      exact wpS_pure ⟨rfl,rfl,f1.up (by omega) hc⟩
    ·rintro c _ ⟨rfl,rfl,f1⟩
     rw [show max m nrem=nrem by omega] at f1 ⊢
     exact ⟨rfl,nrem,rfl,h1,Nat.le_refl _,f1,.inl rfl⟩
    ·rintro c _ ⟨rfl,n',rfl,b1,b2,f1,_⟩
     exact wpS_pure (h n' st1 hB b1 b2 f1)
set_option maxHeartbeats 1000000 in
theorem Ybc {st1:SortSt} {n ok:Nat} {Q:Bool→SortSt→Prop} (hO:κ.OneLt) (hn:lo+n≤(arrOf st0).size) (h1:1≤ok) (hok:ok≤n) (hB:Kp κ st0 lo st1) (hs:KS κ (arrOf st1) lo (lo+ok))
  (h:∀ st',Kp κ st0 lo st'→KS κ (arrOf st') lo (lo+n)→Q true st'):wpS (model prog w) A E s (binarySort' lo n ok) Q st1:=by
 refine wpS_bind (wpS_mono (wpS_forRange (I:=fun k c st'=>c=(none,())∧Kp κ st0 lo st'∧KS κ (arrOf st') lo (lo+min k n))
  (Q:=fun c st'=>c=(none,())∧Kp κ st0 lo st'∧KS κ (arrOf st') lo (lo+n)) ?_ ?_ ⟨rfl,hB,by rw [show min (max ok 1) n=ok by omega];exact hs⟩) ?_)
 ·clear hB hs
  rintro k c st2 hk1 hk2 ⟨rfl,hB,hs⟩
  rw [show min k n=k by omega] at hs
  have hz:lo+k<(arrOf st2).size:=by rw [hB.size];omega
  refine wpS_bind (wpS_mono (wpS_forRange (I:=fun x c st'=>st2=st'∧∃ l r,c=(none,l,r)∧l≤r∧r≤k∧r - l≤k - x∧
    (∀ i,i<l→κ.kle (KK κ (arrOf st2) (lo+i)) (KK κ (arrOf st2) (lo+k)))∧(∀ i,r≤i→i<k→κ.kle (KK κ (arrOf st2) (lo+k)) (KK κ (arrOf st2) (lo+i))))
   (Q:=fun c st'=>st2=st'∧∃ l,c=(none,l,l)∧l≤k∧
    (∀ i,i<l→κ.kle (KK κ (arrOf st2) (lo+i)) (KK κ (arrOf st2) (lo+k)))∧(∀ i,l≤i→i<k→κ.kle (KK κ (arrOf st2) (lo+k)) (KK κ (arrOf st2) (lo+i)))) ?_ ?_
   ⟨rfl,0,k,rfl,by omega,by omega,by omega,fun i hi=>by omega,fun i a b=>by omega⟩) ?_)
  ·rintro x c _ _ hx ⟨rfl,l,r,rfl,a1,a2,a3,a4,a5⟩
   dsimp only
   by_cases hge:l≥r
   ·rw [if_pos hge]
    obtain rfl:l=r:=by omega
    exact wpS_pure ⟨rfl,l,rfl,a2,a4,a5⟩
   ·rw [if_neg hge]
    cases hc:κ.blt (KK κ (arrOf st2) (lo+k)) (KK κ (arrOf st2) (lo+(l+r)/2)) with
    | true =>
     refine wpS_bind (Xo true hO hB (by omega) (by omega) hc ?_)
     exact wpS_pure ⟨rfl,l,_,rfl,by omega,by omega,by omega,a4,fun i b1 b2=>KeyOrd.kle_trans (KeyOrd.kle_of_klt hc) (hs _ _ (by omega) (by omega) (by omega))⟩
    | false =>
     refine wpS_bind (Xo false hO hB (by omega) (by omega) hc ?_)
     exact wpS_pure ⟨rfl,_,r,rfl,by omega,by omega,by omega,fun i b1=>KeyOrd.kle_trans (hs _ (lo+(l+r)/2) (by omega) (by omega) (by omega)) hc,a5⟩
  ·rintro c _ ⟨rfl,l,r,rfl,a1,a2,a3,a4,a5⟩
   obtain rfl:l=r:=by omega
   exact ⟨rfl,l,rfl,a2,a4,a5⟩
  ·rintro c _ ⟨rfl,l,rfl,a2,a4,a5⟩
   refine wpS_bind (wpS_modify (wpS_pure ⟨rfl,hB.set (bubble_perm _ _ _) fun j hj=>?_,?_⟩))
   ·show (bubble (arrOf st2) (lo+k) (lo+k - (lo+l)))[j]?=_
    rw [getElem?_bubble hz _ (by omega),if_neg (by omega),if_neg (by omega)]
   ·rw [show min (k+1) n=k+1 by omega]
    show KS κ (bubble (arrOf st2) (lo+k) (lo+k - (lo+l))) _ _
    intro i j x1 x2 x3
    rw [KK_bubble hz (by omega),KK_bubble hz (by omega),show lo+k - (lo+k - (lo+l))=lo+l by omega]
    repeat' split
    all_goals first
     | (exfalso;omega)
     | exact KeyOrd.kle_refl _
     | (have:=a4 (i - lo) (by omega);rwa [show lo+(i - lo)=i by omega] at this)
     | (have:=a5 (j - 1 - lo) (by omega) (by omega);rwa [show lo+(j - 1 - lo)=j - 1 by omega] at this)
     | exact hs _ _ (by omega) (by omega) (by omega)
 ·rintro c st2 ⟨rfl,hB,hs⟩
  rw [show min (max (max ok 1) n) n=n by omega] at hs
  exact ⟨rfl,hB,hs⟩
 ·rintro c st2 ⟨rfl,hB,hs⟩
  exact wpS_pure (h st2 hB hs)
end
end TS
end
section
namespace TS
open PySem PyProof.Rows
section
variable {prog:Program} {w:World} {A:Around} {E:Value→Shared→Prop} {s:Shared} {κ:KeyKind}
theorem Seg.congr {a b:Array Keyed} {lo hi:Nat} (h:Seg κ a lo hi) (e:∀ j,lo≤j→j<hi→b[j]?=a[j]?):Seg κ b lo hi:=fun i j h1 h2 x1 x2 x3=>by
 have g:∀ n (hn:n<b.size),lo≤n→n<hi→∃ hn':n<a.size,a[n]=b[n]:=fun n hn y1 y2=>by
  have:=e n y1 y2
  rw [Array.getElem?_eq_getElem hn] at this
  obtain ⟨z,hz⟩:=Array.getElem?_eq_some_iff.mp this.symm
  exact ⟨z,hz⟩
 obtain ⟨i1,i2⟩:=g i h1 x1 (by omega)
 obtain ⟨j1,j2⟩:=g j h2 (by omega) x3
 have:=h i j i1 j1 x1 x2 x3
 rwa [i2,j2] at this
noncomputable def Pd (κ:KeyKind) (arr:Array Keyed):List (Nat×Nat×Nat)→Nat→Nat→Prop
 | [],s,e=>s=e
 | p::ps,s,e=>p.1=s∧1≤p.2.1∧Seg κ arr s (s+p.2.1)∧Pd κ arr ps (s+p.2.1) e
theorem Pd.len {arr:Array Keyed}:∀ {l:List (Nat×Nat×Nat)} {s e:Nat},Pd κ arr l s e→s+l.length≤e
 | [],s,e,h=>by have:s=e:=h;simp;omega
 | p::ps,s,e,h=>by have:=h.2.2.2.len;have:=h.2.1;rw [List.length_cons];omega
theorem Pd.append {arr:Array Keyed}:∀ {l r:List (Nat×Nat×Nat)} {s e:Nat},Pd κ arr (l++r) s e↔∃ m,Pd κ arr l s m∧Pd κ arr r m e
 | [],r,s,e=>⟨fun h=>⟨s,rfl,h⟩,fun ⟨m,h1,h2⟩=>by have:s=m:=h1;subst this;exact h2⟩
 | p::ps,r,s,e=>by
  constructor
  ·rintro ⟨a,b,c,d⟩
   obtain ⟨m,x,y⟩:=Pd.append.mp d
   exact ⟨m,⟨a,b,c,x⟩,y⟩
  ·rintro ⟨m,⟨a,b,c,x⟩,y⟩
   exact ⟨a,b,c,Pd.append.mpr ⟨m,x,y⟩⟩
theorem Pd.congr {a b:Array Keyed}:∀ {l:List (Nat×Nat×Nat)} {s e:Nat},Pd κ a l s e→(∀ j,s≤j→j<e→b[j]?=a[j]?)→Pd κ b l s e
 | [],s,e,h,_=>h
 | p::ps,s,e,h,g=>by
  have:=h.2.2.2.len
  exact ⟨h.1,h.2.1,h.2.2.1.congr fun j x y=>g j x (by omega),h.2.2.2.congr fun j x y=>g j (by omega) y⟩
theorem Pd.mod {arr:Array Keyed} {f:Nat×Nat×Nat→Nat×Nat×Nat} (hf:∀ p,(f p).1=p.1∧(f p).2.1=p.2.1):∀ {l:List (Nat×Nat×Nat)} {i s e:Nat},Pd κ arr l s e→Pd κ arr (l.modify i f) s e
 | [],i,s,e,h=>by simpa using h
 | p::ps,0,s,e,h=>by
  rw [List.modify_zero_cons]
  exact ⟨(hf p).1.trans h.1,by rw [(hf p).2];exact h.2.1,by rw [(hf p).2];exact h.2.2.1,by rw [(hf p).2];exact h.2.2.2⟩
 | p::ps,i+1,s,e,h=>by
  rw [List.modify_succ_cons]
  exact ⟨h.1,h.2.1,h.2.2.1,Pd.mod hf h.2.2.2⟩
structure G (κ:KeyKind) (a0:Array Keyed) (st:SortSt) (e:Nat):Prop where
 perm:(arrOf st).Perm a0
 kind:kindOf st=oneType'
 failed:failedOf st=none
 has:∀ p,p∈(arrOf st).toList→Has κ p
 pd:Pd κ (arrOf st) (pendingOf st).toList 0 e
variable {a0:Array Keyed} {st:SortSt} {e:Nat}
theorem Xmb {i:Nat} {Q:Bool→SortSt→Prop} (hO:κ.OneLt) (hG:G κ a0 st e) (he:e≤a0.size) (hi:i+1<(pendingOf st).size)
  (h:∀ st',G κ a0 st' e→(pendingOf st').size+1=(pendingOf st).size→(∀ j,e≤j→(arrOf st')[j]?=(arrOf st)[j]?)→Q true st'):wpS (model prog w) A E s (mergeAt' i) Q st:=by
 have hl:(pendingOf st).toList.length=(pendingOf st).size:=Array.length_toList
 obtain ⟨pre,x,y,post,e1,e2⟩:∃ pre x y post,(pendingOf st).toList=pre++x::y::post∧pre.length=i:=by
  refine ⟨(pendingOf st).toList.take i,(pendingOf st).toList[i]'(by omega),(pendingOf st).toList[i+1]'(by omega),(pendingOf st).toList.drop (i+2),?_,by rw [List.length_take];omega⟩
  rw [← List.drop_eq_getElem_cons,← List.drop_eq_getElem_cons,List.take_append_drop]
 obtain ⟨sa,na,pw⟩:=x
 obtain ⟨sb,nb,pw'⟩:=y
 have pd:=hG.pd
 rw [e1] at pd
 obtain ⟨m,p1,p2⟩:=Pd.append.mp pd
 obtain ⟨q1,q2,q3,r1,r2,r3,r4⟩:=p2
 dsimp only at q1 q2 q3 r1 r2 r3 r4
 subst q1
 subst r1
 have hlen:=r4.len
 have hlen1:=p1.len
 subst e2
 refine Xwi hO hG.kind hG.failed hG.has e1 q2 r2 (by rw [hG.perm.size_eq];omega) q3 r3 fun st' hM hp=>?_
 have hpl:(pendingOf st').toList.length=(pendingOf st').size:=Array.length_toList
 refine h st' ⟨hM.perm.trans hG.perm,hM.kind.trans hG.kind,hM.failed.trans hG.failed,fun p hp=>hG.has p ((Array.perm_iff_toList_perm.mp hM.perm).mem_iff.mp hp),?_⟩ ?_ fun j hj=>hM.rest j (.inr (by omega))
 ·rw [hp]
  refine Pd.append.mpr ⟨sa,p1.congr fun j _ hj=>hM.rest j (.inl hj),rfl,by show 1≤na+nb;omega,by rw [← Nat.add_assoc];exact hM.seg,?_⟩
  show Pd κ _ post (sa+(na+nb)) e
  rw [← Nat.add_assoc]
  exact r4.congr fun j hj _=>hM.rest j (.inr hj)
 ·rw [← hpl,← hl,hp,e1]
  simp only [List.length_append,List.length_cons];omega
theorem Xqa {c:Prop} [Decidable c] {x y n:Nat} (h1:x+1<n) (h2:y+1<n):(if c then x else y)+1<n:=by split<;>assumption
theorem G.push {n:Nat} (h:G κ a0 st e) (h1:1≤n) (hs:Seg κ (arrOf st) e (e+n)):G κ a0 (setPending st ((pendingOf st).push (e,n,0))) (e+n) :=
 ⟨h.perm,h.kind,h.failed,h.has,by
  show Pd κ (arrOf st) ((pendingOf st).push (e,n,0)).toList 0 (e+n)
  rw [Array.toList_push]
  exact Pd.append.mpr ⟨e,h.pd,rfl,h1,hs,rfl⟩⟩
theorem G.mod {i pw:Nat} (h:G κ a0 st e):G κ a0 (setPending st ((pendingOf st).modify i fun x=>(x.1,x.2.1,pw))) e :=
 ⟨h.perm,h.kind,h.failed,h.has,by
  show Pd κ (arrOf st) ((pendingOf st).modify i fun x=>(x.1,x.2.1,pw)).toList 0 e
  rw [Array.toList_modify]
  exact Pd.mod (f:=fun x=>(x.1,x.2.1,pw)) (fun p=>⟨rfl,rfl⟩) h.pd⟩
set_option maxHeartbeats 1000000 in
theorem Yba {Q:Unit→SortSt→Prop} (hO:κ.OneLt) (hG:G κ a0 st 0) (h2:1≤a0.size)
  (h:∀ st',(arrOf st').Perm a0→failedOf st'=none→SortedToK κ (arrOf st') a0.size→Q () st'):wpS (model prog w) A E s sortRuns' Q st:=by
 rw [sortRuns'_eq]
 refine wpS_bind (wpS_get ?_)
 rw [hG.perm.size_eq]
 generalize minRun' a0.size a0.size 0=mr
 dsimp only
 refine wpS_bind (wpS_mono (wpS_forRange (I:=fun x c st'=>∃ lo,c=(none,lo)∧x≤lo∧lo≤a0.size∧G κ a0 st' lo) (Q:=fun c st'=>c=(none,a0.size)∧G κ a0 st' a0.size) ?_ ?_ ⟨0,rfl,Nat.le_refl _,Nat.zero_le _,hG⟩) ?_)
 ·rintro x c st1 _ hx ⟨lo,rfl,hxl,hlo,hG1⟩
  dsimp only
  by_cases hge:lo≥a0.size
  ·rw [if_pos hge]
   obtain rfl:lo=a0.size:=by omega
   exact wpS_pure ⟨rfl,hG1⟩
  rw [if_neg hge]
  have hz1:=hG1.perm.size_eq
  refine wpS_bind (Ybb (st0:=st1) hO (by omega) (by omega) ⟨Array.Perm.refl _,hG1.kind,hG1.failed,rfl,fun _ _=>rfl,hG1.has⟩ fun m st2 hB hm1 hm2 f1=>?_)
  dsimp only
  by_cases hmr:m<minRun' a0.size a0.size 0
  ·rw [if_pos hmr]
   refine wpS_bind (wpS_lift (wpAny_rule ⟨rfl,?_⟩))
   generalize hnn:min (a0.size - lo) (minRun' a0.size a0.size 0)=nn
   refine wpS_bind (Ybc (st0:=st1) hO (by omega) hm1 (by omega) hB f1 fun st3 hB3 f3=>?_)
   clear hB f1
   have hn1:1≤nn:=by omega
   have hn2:lo+nn≤a0.size:=by omega
   obtain ⟨st2,rfl⟩:∃ st2,st2=st3:=⟨st3,rfl⟩
   have hB:=hB3
   have f1:=f3
   rw [if_neg (by decide)]
   have hG2:G κ a0 st2 lo:=⟨hB.perm.trans hG1.perm,hB.kind,hB.failed,hB.has,by rw [hB.pend];exact hG1.pd.congr fun j _ hj=>hB.low j hj⟩
   have fs:Seg κ (arrOf st2) lo (lo+nn):=f1.seg
   refine wpS_bind (wpS_get ?_)
   cases hb:(pendingOf st2).back? with
   | none =>
    exact wpS_bind (wpS_modify (wpS_pure ⟨lo+nn,rfl,by omega,by omega,hG2.push hn1 fs⟩))
   | some b =>
    obtain ⟨s1,n1,n2⟩:=b
    dsimp only
    refine wpS_bind (wpS_mono (wpS_forRange (I:=fun _ c st'=>c=(none,())∧G κ a0 st' lo∧Seg κ (arrOf st') lo (lo+nn)) (Q:=fun c st'=>c=(none,())∧G κ a0 st' lo∧Seg κ (arrOf st') lo (lo+nn)) ?_ (fun _ _ z=>z) ⟨rfl,hG2,fs⟩) ?_)
    ·rintro y c st3 _ _ ⟨rfl,hG3,f3⟩
     refine wpS_bind (wpS_get ?_)
     by_cases z1:(pendingOf st3).size > 1
     ·rw [if_pos z1,Array.getElem?_eq_getElem (show (pendingOf st3).size - 2<(pendingOf st3).size by omega)]
      generalize (pendingOf st3)[(pendingOf st3).size - 2]=t
      obtain ⟨t1,t2,older⟩:=t
      dsimp only
      split
      ·exact wpS_pure ⟨rfl,hG3,f3⟩
      ·refine wpS_bind (Xmb hO hG3 hlo (by omega) fun st4 hG4 _ hr=>?_)
       exact wpS_pure ⟨rfl,hG4,f3.congr fun j a _=>hr j a⟩
     ·rw [if_neg z1]
      exact wpS_pure ⟨rfl,hG3,f3⟩
    ·rintro c st3 ⟨rfl,hG3,f3⟩
     exact wpS_bind (wpS_modify (wpS_bind (wpS_modify (wpS_pure ⟨lo+nn,rfl,by omega,by omega,hG3.mod.push hn1 f3⟩))))
  ·rw [if_neg hmr]
   obtain ⟨nn,rfl⟩:∃ nn,nn=m:=⟨m,rfl⟩
   have hn1:=hm1
   have hn2:lo+nn≤a0.size:=by omega
   have hG2:G κ a0 st2 lo:=⟨hB.perm.trans hG1.perm,hB.kind,hB.failed,hB.has,by rw [hB.pend];exact hG1.pd.congr fun j _ hj=>hB.low j hj⟩
   have fs:Seg κ (arrOf st2) lo (lo+nn):=f1.seg
   refine wpS_bind (wpS_get ?_)
   cases hb:(pendingOf st2).back? with
   | none =>
    exact wpS_bind (wpS_modify (wpS_pure ⟨lo+nn,rfl,by omega,by omega,hG2.push hn1 fs⟩))
   | some b =>
    obtain ⟨s1,n1,n2⟩:=b
    dsimp only
    refine wpS_bind (wpS_mono (wpS_forRange (I:=fun _ c st'=>c=(none,())∧G κ a0 st' lo∧Seg κ (arrOf st') lo (lo+nn)) (Q:=fun c st'=>c=(none,())∧G κ a0 st' lo∧Seg κ (arrOf st') lo (lo+nn)) ?_ (fun _ _ z=>z) ⟨rfl,hG2,fs⟩) ?_)
    ·rintro y c st3 _ _ ⟨rfl,hG3,f3⟩
     refine wpS_bind (wpS_get ?_)
     by_cases z1:(pendingOf st3).size > 1
     ·rw [if_pos z1,Array.getElem?_eq_getElem (show (pendingOf st3).size - 2<(pendingOf st3).size by omega)]
      generalize (pendingOf st3)[(pendingOf st3).size - 2]=t
      obtain ⟨t1,t2,older⟩:=t
      dsimp only
      split
      ·exact wpS_pure ⟨rfl,hG3,f3⟩
      ·refine wpS_bind (Xmb hO hG3 hlo (by omega) fun st4 hG4 _ hr=>?_)
       exact wpS_pure ⟨rfl,hG4,f3.congr fun j a _=>hr j a⟩
     ·rw [if_neg z1]
      exact wpS_pure ⟨rfl,hG3,f3⟩
    ·rintro c st3 ⟨rfl,hG3,f3⟩
     exact wpS_bind (wpS_modify (wpS_bind (wpS_modify (wpS_pure ⟨lo+nn,rfl,by omega,by omega,hG3.mod.push hn1 f3⟩))))
 ·rintro c st1 ⟨lo,rfl,hxl,hlo,hG1⟩
  obtain rfl:lo=a0.size:=by omega
  exact ⟨rfl,hG1⟩
 rintro c st1 ⟨rfl,hG1⟩
 dsimp only
 refine wpS_bind (wpS_mono (wpS_forRange (I:=fun x c st'=>c=(none,())∧G κ a0 st' a0.size∧(x+(pendingOf st').size≤a0.size∨(pendingOf st').size≤1)) (Q:=fun c st'=>c=(none,())∧G κ a0 st' a0.size∧(pendingOf st').size≤1) ?_ ?_ ⟨rfl,hG1,.inl ?_⟩) ?_)
 ·clear hG1
  rintro x c st1 _ hx ⟨rfl,hG1,hsz⟩
  refine wpS_bind (wpS_get ?_)
  by_cases z1:(pendingOf st1).size≤1
  ·rw [if_pos z1]
   exact wpS_pure ⟨rfl,hG1,z1⟩
  ·rw [if_neg z1]
   refine wpS_bind (Xmb hO hG1 (Nat.le_refl _) (Xqa (by omega) (by omega)) fun st2 hG2 hsz2 _=>?_)
   exact wpS_pure ⟨rfl,hG2,by omega⟩
 ·rintro c st1 ⟨rfl,hG1,hsz⟩
  exact ⟨rfl,hG1,by omega⟩
 ·have:=hG1.pd.len
  rw [Array.length_toList] at this
  omega
 ·rintro c st1 ⟨rfl,hG1,hsz⟩
  refine wpS_pure (h _ hG1.perm hG1.failed ?_)
  have hpd:=hG1.pd
  have hl:(pendingOf st1).toList.length≤1:=by rw [Array.length_toList];exact hsz
  generalize (pendingOf st1).toList=l at *
  match l,hl,hpd with
  | [],_,hp=>have:0=a0.size:=hp;omega
  | [p],_,hp =>
   obtain ⟨_,_,z,zz⟩:=hp
   have ze:0+p.2.1=a0.size:=zz
   rw [ze] at z
   intro i j hij hj
   have hs:=hG1.perm.size_eq
   have hi':i<(arrOf st1).size:=by omega
   have hj':j<(arrOf st1).size:=by omega
   rw [Zqa (Array.getElem?_eq_getElem hi'),Zqa (Array.getElem?_eq_getElem hj')]
   exact z i j hi' hj' (Nat.zero_le _) hij hj
  | _::_::_,hl,_=>simp at hl
theorem Zoi (hO:κ.OneLt) {a:Addr} {vs:List Value} {n:Nat} {P:Fin→Shared→Prop} (ho:s.heap.get? a=some (seqObj "list" vs.toArray n))
  (h0:KeysOf κ (pairsOf vs)) (hkk:∀ v₁ v₂ rest,vs=v₁::v₂::rest→keyKind' (v₁::v₂::rest).toArray=pure oneType') (hL:vs.length≤10000)
  (h:∀ st':SortSt,(arrOf st').Perm (pairsOf vs)→SortedToK κ (arrOf st') (pairsOf vs).size→P (.done (.ret .none)) {s with heap:=sortedHeap s.heap a vs ((arrOf st').map (·.2))}) :
  wpAny (model prog w) A (Builtin.«list.sort» ⟨[.ref a],[]⟩) P E s:=by
 by_cases h64:vs.length<64
 ·exact list_sort_treeK hO ho h0 hkk h64 h
 have ha:a<s.heap.objs.size:=Heap.lt_size ho
 obtain ⟨v₁,v₂,rest,e⟩:∃ v₁ v₂ rest,vs=v₁::v₂::rest:=by
  match vs,h64 with
  | [],h=>exact absurd (by decide) h
  | [_],h=>exact absurd (show 1<64 by decide) h
  | v₁::v₂::rest,_=>exact ⟨v₁,v₂,rest,rfl⟩
 have hk:=hkk _ _ _ e
 rw [← e] at hk
 have hz:¬vs.toArray.size<2:=by rw [e];simp
 have hs:(pairsOf vs).size≤10000:=by rw [pairsOf_size];exact hL
 have hs1:1≤(pairsOf vs).size:=by rw [pairsOf_size,e];simp
 rw [list_sort_plain]
 refine wpAny_bind (listItems_at ho rfl (wpAny_bind (listUpdate_at ho rfl ?_ (by simp;rw [sizeLine_eq];omega))))
 obtain ⟨c,ho1⟩:∃ c,(s.heap.update a (Obj.mapSeq fun _=>#[])).get? a=some (seqObj "list" #[] c):=⟨_,get?_update_seq ho fun _=>#[]⟩
 refine wpAny_bind (seqEpoch_at ho1 rfl (wpAny_bind (wpAny_newTuple (wpAny_bind (wpAny_newList (wpAny_holding ?_))))))
 have hx:=Heap.get?_push_of_some (seqObj "list" #[] 0) (Heap.get?_push_of_some (seqObj "tuple" vs.toArray 0) ho1)
 rw [if_neg hz,if_neg hz,hk]
 refine wpAny_bind (wpAny_pure (wpAny_bind (wpAny_mono (Yba (κ:=κ) (a0:=pairsOf vs) (st:=SortSt.mk' oneType' (vs.toArray.zip vs.toArray) #[] 7 none) (Q:=fun _ st'=>(arrOf st').Perm (pairsOf vs)∧failedOf st'=none∧SortedToK κ (arrOf st') (pairsOf vs).size) hO
  ⟨Array.Perm.refl _,rfl,rfl,fun p hp=>h0 p hp,rfl⟩ hs1 fun st' a1 a2 a3=>⟨a1,a2,a3⟩) ?_ fun _ _ z=>z)))
 rintro ⟨⟨⟩,st'⟩ s' ⟨rfl,hp,hf,hs'⟩
 refine wpAny_bind (seqEpoch_at hx rfl (wpAny_bind (listUpdate_at hx rfl ?_ (hsz2:=?_))))
 ·rw [hf,bne_self_eq_false]
  exact wpAny_pure (h st' hp hs')
 ·refine Nat.le_trans (Nat.le_of_eq ((Array.size_map ..).trans hp.size_eq)) ?_
  rw [sizeLine_eq];omega
theorem Xah {l:Addr} {vs:List Value} {ss:List Str} {Q:Value→Shared→Prop} (hl:s.heap.IsList l vs.toArray) (hS:StrsAre vs ss) (hL:vs.length≤10000)
  (h:∀ (out:Array Value) (ss':List Str),StrsAre out.toList ss'→ss'.Perm ss→sortedS ss'=true→Q (.ref (s.heap.objs.size+1)) {s with heap:=sortedAll s.heap vs out}):wpAny (model prog w) A (call (.builtin "sorted") [.ref l]) Q E s:=by
 refine Calls.call_function_entry kind_sorted plain_sorted entry_sorted (args_sorted1 _) ?_
 unfold Builtin.«sorted»
 refine wpAny_bind (m:=checkCount "sorted" 1 1 _) (wpAny_pure (wpAny_bind (collect_list hl ?_ (by rw [sizeLine_eq];omega))))
 refine wpAny_bind (wpAny_newList ?_)
 obtain ⟨h2,e2⟩:∃ h2,h2=(s.heap.push (seqObj "list" #[] 0)).update s.heap.objs.size (Obj.mapSeq (· ++ vs.toArray)):=⟨_,rfl⟩
 have hz:h2.objs.size=s.heap.objs.size+1:=by rw [e2,Heap.size_update,size_push']
 have ho:(h2.push (seqObj "list" vs.toArray 0)).get? (s.heap.objs.size+1)=some (seqObj "list" vs.toArray 0):=by rw [← hz];exact Heap.get?_push_size _ rfl
 rw [← e2]
 show wpAny _ _ _ _ _ {s with heap:=h2.push (seqObj "list" vs.toArray 0)}
 rw [hz]
 refine wpAny_bind (wpAny_holding (wpAny_call_entry slot_list_sort ⟨_,ho,rfl⟩ entry_list_sort (Zoi strKind_oneLt ho hS.keysOf (fun v₁ v₂ rest e=>keyKind_strs (by rw [← e];exact hS)) hL fun st' a1 a2=>⟨_,rfl,?_⟩) (args_list_sort _)))
 obtain ⟨ss',b1,b2,b3⟩:=sorted_out_str hS a1 a2
 have:=h _ ss' b1 b2 b3
 unfold sortedAll at this
 rw [← e2] at this
 exact wpAny_pure ⟨_,rfl,this⟩
end
end TS
end
section
namespace L2
open PySem PySem.Spec PyProof.Rows
section
variable {X:Cx}
theorem Zfg:MtR X "int.bit_length" (fun x xs H Q=>∃ i,x = .int i∧xs=[]∧Q (.int ((Builtin.Int.intBits i:Nat):Int)) H):=by
 intro pins s σ H x xs v us Q I rx rv h
 obtain ⟨i,rfl,rfl,q⟩:=h
 obtain ⟨t,rfl⟩:=rx
 cases rv
 exact call_gives F.slot_int_bit_length (typeIs_int s i t) F.entry_int_bit_length (F.args_int_bit_length_1 _) (AutoIntG2.int_bit_length_int_0 i t) ⟨.int _,H,I.tok _,⟨_,rfl⟩,q⟩
theorem Xef:∀ {ys:List Str} {its:List Value},Vals (ys.map V.str) its→StrsAre its ys
 | [],_,.nil => .nil
 | _::_,_,.cons ⟨_,e⟩ r=>by subst e;exact .cons _ _ (Xef r)
theorem Zif:MtR X "str.join" (fun x xs H Q=>∃ y a ys,x = .str y∧xs=[.ref a]∧SqL X.K H a (ys.map V.str)∧(ys.map (·.length)).sum+ys.length*y.length≤16777216∧Q (.str (Txt.join y ys)) H):=by
 intro pins s σ H x xs v us Q I rx rv h
 obtain ⟨y,a,ys,rfl,rfl,hq,hz,q⟩:=h
 obtain ⟨t,rfl⟩:=rx
 obtain ⟨u,rfl,ru⟩:=rv.one
 cases ru
 obtain ⟨its,r,pl,_⟩:=I.list hq
 exact join_list pl.isList (by simpa using Xef r) hz fun t' k=>⟨.str _,H,I.tok _,⟨_,rfl⟩,q⟩
theorem Xbj:OpR X (binaryOp .Mult) (fun x y H Q=>∃ z i,x = .str z∧y = .int i∧i<2 ^ 40∧-(2 ^ 40)<i∧z.length*i.toNat≤sizeLine∧Q (.str (Txt.mul z i)) H):=by
 intro pins s σ H x y v u Q I rx ry h
 obtain ⟨z,i,rfl,rfl,h1,h2,h3,q⟩:=h
 obtain ⟨t,rfl⟩:=rx
 obtain ⟨t',rfl⟩:=ry
 refine SB.mul ⟨?_,fun h4 _=>?_,fun h4 _=>?_⟩ fun t' k=>⟨.str _,H,I.tok _,⟨_,rfl⟩,q⟩
 ·simp only [Bool.or_eq_false_iff,decide_eq_false_iff_not];omega
 ·intro c
  have hn:(0:Int)<i:=by omega
  have h63:=line63
  have e:(z.length:Int)*i≤2 ^ 63 - 1:=by
   have:((z.length*i.toNat:Nat):Int)=(z.length:Int)*i:=by rw [Int.natCast_mul];congr 1;omega
   omega
  have:=(Int.le_ediv_iff_mul_le hn).mpr e
  omega
 ·unfold Builtin.Str.tooLong;simpa using h3
theorem Zoa:CallR X (.type "int") (fun xs H Q=>∃ x n,xs=[.str x]∧PySem.intText? x=some n∧x.length≤640∧Q (.int n) H):=by
 intro pins s σ H xs us Q I r h
 obtain ⟨x,n,rfl,hn,hl,q⟩:=h
 obtain ⟨u,rfl,t,rfl⟩:=vals1 r
 exact PySem.W.KIN.call_text hn hl ⟨.int n,H,I.tok _,⟨_,rfl⟩,q⟩
theorem Xxe:SlR X (fun x lo hi H Q=>∃ z,x = .str z∧z.length≤sizeLine∧Q (.str (Txt.slice z lo hi)) H):=by
 intro pins s σ H x v vl vu lo hi sl Q I rx hs pl pu h
 obtain ⟨z,rfl,hz,q⟩:=h
 obtain ⟨t,rfl⟩:=rx
 refine ⟨"str",_,F.slot_str_getitem.lookup,typeIs_str s z t,?_⟩
 have fin:∀ (t':Tok) (k:Nat),EP X pins σ Q (.str (Txt.slice z lo hi) t') {s with toks:=k}:=fun t' k=>⟨.str _,H,I.tok _,⟨_,rfl⟩,q⟩
 obtain ⟨o,ho,hc,hd⟩:=hs
 cases pl with
 | none =>
  cases pu with
  | none=>exact wpAny_getItem_str_slice (l:=none) (u:=none) (st:=none) ⟨o,ho,hc,hd⟩ rfl (post_val_or_str ⟨Nat.le_trans (Txt.slice_le z _ _) hz,fin⟩)
  | int j uj=>exact wpAny_getItem_str_slice (l:=none) (u:=some (j,uj)) (st:=none) ⟨o,ho,hc,hd⟩ rfl (post_val_or_str ⟨Nat.le_trans (Txt.slice_le z _ _) hz,fin⟩)
 | int i ui =>
  cases pu with
  | none=>exact wpAny_getItem_str_slice (l:=some (i,ui)) (u:=none) (st:=none) ⟨o,ho,hc,hd⟩ rfl (post_val_or_str ⟨Nat.le_trans (Txt.slice_le z _ _) hz,fin⟩)
  | int j uj=>exact wpAny_getItem_str_slice (l:=some (i,ui)) (u:=some (j,uj)) (st:=none) ⟨o,ho,hc,hd⟩ rfl (post_val_or_str ⟨Nat.le_trans (Txt.slice_le z _ _) hz,fin⟩)
end
noncomputable def Itc (lo c:Int) (n:Nat):It:=⟨fun i _=>i<n,fun i H x H'=>H'=H∧x = .int (lo+i*c),fun i _=>n≤i⟩
theorem Zvb {P:Program} {w:World} {K:PySem.W.Frag} {tg:Expr} (it:Addr) (lo c:Int) (n:Nat):Turn P w K tg (Itc lo c n) [it] it (fun i h=>IsRangeIter h it (lo+(i:Nat)*c) ((n:Int) - (i:Nat)) c) where
 mem:=by simp
 obj:=fun i h st b hb=>by
  have e:b=it:=by simpa using hb
  subst e
  exact ⟨_,st,fun v z=>by
   have z':Data.fields _=Data.cell v:=z
   cases z'⟩
 keep:=fun i h h' st k=>k it (by simp) _ st
 item:=by
  intro X hP hw hK hc i pins s σ H E I hf st hg
  subst hP hw hK
  obtain ⟨f0,f1,f2,f3,f4,f5⟩:=hf it (by simp)
  have W:=Walks.range (prog:=X.prog) (w:=X.w) (I.ok.hd hc) it lo c n
  refine W.item i s _ _ hg st fun v h' tk hv st' kk=>?_
  obtain ⟨t,rfl⟩:=hv
  have I1:Inv X pins σ H {s with heap:=h',toks:=tk}:=I.turned (fun b o hb e=>kk b o (by simpa using hb) e) f0 f1 f3 f4 f5
  exact ⟨_,rfl,Xgc (s:={s with heap:=h',toks:=tk}) (n:="range_iterator") st' rfl rfl (by decide) ⟨.int (lo+i*c),H,I1,⟨t,rfl⟩,⟨rfl,rfl⟩,st',fun b hb=>(hf b hb).1⟩⟩
 done:=by
  intro X hP hw hK hc i pins s σ H E I hf st hg
  subst hP hw hK
  obtain ⟨f0,f1,f2,f3,f4,f5⟩:=hf it (by simp)
  exact wpAny_pyNext_range_end (I.ok.hd hc) st (by have:n≤i:=hg;omega) fun h' eb=>⟨rfl,I.turned (t':=s.toks) (fun b o hb e=>eb b o hb e) f0 f1 f3 f4 f5⟩
 self:=fun _ _ _ _ _ st h=>wpAny_pyIter_rangeiter st h
section
variable {X:Cx} {tg:Expr}
noncomputable def iRngD (ta:TA):TI:=fun σ H R=>ta σ H fun vs H1=>∃ i j:Int,vs=[.int i,.int j,.int (-1)]∧(-(2 ^ 61)≤i∧i<2 ^ 61∧-(2 ^ 61)≤j∧j<2 ^ 61)∧R (Itc i (-1) (i - j).toNat) H1
end
end L2
end
section
namespace L2
open PySem PySem.Spec PyProof.Rows
section
variable {X:Cx} {tg:Expr}
theorem Xaj {a b:Int} (ha : -(2 ^ 61)≤a) (ha':a<2 ^ 61) (hb : -(2 ^ 61)≤b) (hb':b<2 ^ 61):Builtin.Range.small a b (-1)=true:=by
 unfold Builtin.Range.small Builtin.Range.rangeSize
 simp only [Builtin.Range.rangeFitsLong,Bool.and_eq_true,Bool.or_eq_true,decide_eq_true_eq,beq_iff_eq,show ¬((-1:Int) > 0) by decide,if_false,Int.neg_neg,Int.ediv_one]
 split<;>omega
theorem Zka (a b:Int):Builtin.Range.rangeSize a b (-1)=(((a - b).toNat:Nat):Int):=by
 unfold Builtin.Range.rangeSize
 rw [if_neg (by decide)]
 simp only [Int.neg_neg,Int.ediv_one]
 split<;>omega
theorem Xih {a b c:Expr} {ta:TA} {p pos:Pos} (hg:Gl X "range") (hm:X.mg "range"=none) (ha:PA X [a,b,c] ta)
  (hs:starEach [a,b,c] X.env=[(false,eval a X.env),(false,eval b X.env),(false,eval c X.env)]:=by rfl) (hs2:starEach [b,c] X.env=[(false,eval b X.env),(false,eval c X.env)]:=by rfl) :
  PI X tg (.Call (.Name "range" p) [a,b,c] [] pos) (iRngD ta):=by
 intro pins s σ H R I h
 refine Call_ (Qv I hg hm boot_range (PyProof.Rows.callWith_type1 (thn (ha pos pins s σ H _ I h) fun us s1 ⟨vs,H1,I1,r1,q1⟩=>?_) (by rw [hs,hs2]) (by rw [hs2];rfl)))
 obtain ⟨i,j,e,⟨q1,q2,q3,q4⟩,q⟩:=q1
 subst e
 cases r1 with
 | cons r rr =>
  cases rr with
  | cons r' rr =>
   cases rr with
   | cons r'' rr =>
    cases rr
    obtain ⟨t,rfl⟩:=r
    obtain ⟨t',rfl⟩:=r'
    obtain ⟨t'',rfl⟩:=r''
    refine call_range_3 (by decide) ?_ (.inl (PyProof.noPylong_small (by decide)))
    refine wpAny_pyIter_range (IsRange.new ..) (Xaj q1 q2 q3 q4) ?_
    have I2:Inv X pins σ H1 {s1 with heap:=s1.heap.push {cls := .type "range",data := .fields #[.int i t,.int j t',.int (-1) t'']}}:=I1.kept (t':=s1.toks) fun b o e=>Heap.get?_push_of_some _ e
    refine ⟨_,[_],_,_,H1,rfl,I2.kept (t':=s1.toks) fun b o e=>Heap.get?_push_of_some _ e,Zvb _ i (-1) (i - j).toNat,?_,fun b hb=>?_,q⟩
    ·have e1:i+((0:Nat):Int)*(-1)=i:=by simp
     have e2:(((i - j).toNat:Nat):Int) - ((0:Nat):Int)=Builtin.Range.rangeSize i j (-1):=by rw [Zka];simp
     show IsRangeIter _ _ (i+((0:Nat):Int)*(-1)) ((((i - j).toNat:Nat):Int) - ((0:Nat):Int)) (-1)
     rw [e1,e2]
     exact Heap.get?_push_size _ rfl
    ·have e:=List.mem_singleton.mp hb
     subst e
     exact I2.fpOk (Nat.le_refl _) (I2.hok.fresh (Nat.le_refl _))
end
noncomputable def Its (x:Str):It:=⟨fun i _=>i<x.cps.size,fun i H v H'=>H'=H∧∃ c,x.cps[i]?=some c∧v = .str ⟨#[c]⟩,fun i _=>x.cps.size≤i⟩
section
variable {X:Cx} {tg:Expr}
theorem Zva {P:Program} {w:World} {K:PySem.W.Frag} {tg:Expr} (x:Str) (it:Addr) (n:String) (t:Tok) (W:∀ A':Around,A'.handled=none→Walks P w A' it [it] [it] x.cps.size (SignAt x) (fun i h=>h.IsStrIter it n x t i))
  (hn:["enumerate","zip","dict_itemiterator","dict_reverseitemiterator","odict_iterator","itertools.zip_longest","itertools.pairwise"].contains n=false)
  (hdone:∀ (A:Around) (i:Nat) (s:Shared) (Q:Option Value→Shared→Prop) (E:Value→Shared→Prop),A.handled=none→s.heap.IsStrIter it n x t i→x.cps.size≤i→(∀ h',(∀ b o,b≠it→s.heap.get? b=some o→h'.get? b=some o)→Q none {s with heap:=h'})→wpAny (model P w) A (pyNext (.ref it)) Q E s)
  (hself:∀ (A:Around) (i:Nat) (s:Shared) (Q:Value→Shared→Prop) (E:Value→Shared→Prop),s.heap.IsStrIter it n x t i→Q (.ref it) s→wpAny (model P w) A (pyIter (.ref it)) Q E s) :
  Turn P w K tg (Its x) [it] it (fun i h=>h.IsStrIter it n x t i) where
 mem:=by simp
 obj:=fun i h st b hb=>by
  have e:b=it:=by simpa using hb
  subst e
  obtain ⟨o,ho,hc,hd⟩:=st
  exact ⟨o,ho,fun v z=>by rw [hd] at z;cases z⟩
 keep:=fun i h h' st k=>by
  obtain ⟨o,ho,r⟩:=st
  exact ⟨o,k it (by simp) o ho,r⟩
 item:=by
  intro X hP hw hK hc i pins s σ H E I hf st hg
  subst hP hw hK
  obtain ⟨f0,f1,f2,f3,f4,f5⟩:=hf it (by simp)
  refine (W X.A (I.ok.hd hc)).item i s _ _ hg st fun v h' tk hv st' kk=>?_
  obtain ⟨c,u,hc',rfl⟩:=hv
  have I1:Inv X pins σ H {s with heap:=h',toks:=tk}:=I.turned (fun b o hb e=>kk b o (by simpa using hb) e) f0 f1 f3 f4 f5
  obtain ⟨o,ho,hcl,hd⟩:=id st'
  exact ⟨_,rfl,Xgc (s:={s with heap:=h',toks:=tk}) (n:=n) ho hcl hd hn ⟨.str ⟨#[c]⟩,H,I1,⟨u,rfl⟩,⟨rfl,c,hc',rfl⟩,st',fun b hb=>(hf b hb).1⟩⟩
 done:=by
  intro X hP hw hK hc i pins s σ H E I hf st hg
  subst hP hw hK
  obtain ⟨f0,f1,f2,f3,f4,f5⟩:=hf it (by simp)
  exact hdone X.A i s _ _ (I.ok.hd hc) st hg fun h' eb=>⟨rfl,I.turned (t':=s.toks) (fun b o hb e=>eb b o hb e) f0 f1 f3 f4 f5⟩
 self:=fun A i s Q E st h=>hself A i s Q E st h
noncomputable def iStr (tl:TE):TI:=fun σ H R=>tl σ H fun x H1=>∃ y,x = .str y∧R (Its y) H1
theorem Xxj {l:Expr} {tl:TE} (hl:PE X l tl):PI X tg l (iStr tl):=by
 intro pins s σ H R I h
 refine thn (hl pins s σ H _ I h) fun v s1 ⟨x,H1,I1,r1,q1⟩=>?_
 obtain ⟨y,e,q⟩:=q1
 subst e
 obtain ⟨t,rfl⟩:=r1
 have fin:∀ (o:Obj) (tn:Nat→Heap→Prop),Turn X.prog X.w X.K tg (Its y) [s1.heap.objs.size] s1.heap.objs.size tn→tn 0 (s1.heap.push o)→PIE X pins σ tg R (.ref s1.heap.objs.size) {s1 with heap:=s1.heap.push o}:=fun o tn T h0=>by
  refine ⟨s1.heap.objs.size,[s1.heap.objs.size],tn,Its y,H1,rfl,I1.kept (t':=s1.toks) fun b o e=>Heap.get?_push_of_some _ e,T,h0,fun b hb=>?_,q⟩
  have e:=List.mem_singleton.mp hb
  subst e
  exact I1.fpOk (Nat.le_refl _) (I1.hok.fresh (Nat.le_refl _))
 cases ha:y.cps.all (· < 128)
 ·refine wpAny_pyIter_wide ha (fin _ _ (Zva y _ "str_iterator" t (fun A' hA=>Walks.strWide hA _ y t) (by decide) (fun A i s Q E hh st hi hQ=>?_) fun A i s Q E st hq=>wpAny_pyIter_striter_wide st hq) ⟨_,Heap.get?_push_size _ rfl,rfl,rfl⟩)
  exact wpAny_pyNext_wide_end hh st (by simpa using hi) fun h' he'=>hQ h' fun b o hb e=>he' b o hb e
 ·refine wpAny_pyIter_ascii ha (fin _ _ (Zva y _ "str_ascii_iterator" t (fun A' hA=>Walks.strAscii hA _ y t) (by decide) (fun A i s Q E hh st hi hQ=>?_) fun A i s Q E st hq=>wpAny_pyIter_striter_ascii st hq) ⟨_,Heap.get?_push_size _ rfl,rfl,rfl⟩)
  exact wpAny_pyNext_ascii_end hh st (by simpa using hi) fun h' he'=>hQ h' fun b o hb e=>he' b o hb e
end
noncomputable def compScopeOk (sc:Scope) (cs:List Str):Bool :=
 sc.kind == .function&&sc.names.all (fun y=>y.2 != .cell)&&sc.names.all (fun y=>y.2 != .local||sc.names.lookup y.1 == some .local) &&
  sc.names.all (fun y=>y.2 != .free||cs.contains y.1)&&cs.all (fun x=>sc.names.lookup x == some .free)
noncomputable def CapsOk (X:Cx):List (Nat×Str)→Prop
 | []=>True
 | (j,x)::r=>X.N[j]?=some x∧(X.env.kindOf x=some .cell∨X.env.kindOf x=some .free)∧CapsOk X r
theorem CapsOk.at {X:Cx}:∀ {cs:List (Nat×Str)},CapsOk X cs→∀ p∈cs,X.N[p.1]?=some p.2∧(X.env.kindOf p.2=some .cell∨X.env.kindOf p.2=some .free)
 | [],_,_,h=>nomatch h
 | (j,x)::r,⟨h1,h2,h3⟩,p,h=>by
  rcases List.mem_cons.mp h with e | e
  ·subst e;exact ⟨h1,h2⟩
  ·exact CapsOk.at h3 p e
noncomputable def cxComp (X:Cx) (scope:Scope) (cl:List (Str×Addr)) (C:Addr) (N:List Str) (s2:Shared) (H2:Hp) (fp:List Addr):Cx where
 prog:=X.prog
 w:=X.w
 K:=X.K
 mg:=X.mg
 base:=X.base
 A:=X.A
 N:=N
 s₀:=s2
 H₀:=H2
 env:=compEnvC scope cl C X.env
 outer:=X.stack
 stack:=X.stack
 ex:=fp
 calm:=X.calm
 fn:=fun _=>false
 pn:=[]
 xe:=fun _ _=>False
theorem Zda {env:Env}:∀ (names:List (Str×NameKind)),(∀ y∈names,y.2 = .free→∃ c,env.cells.lookup y.1=some c)→
  ∀ acc:List (Str×Addr),(∀ x c,acc.lookup x=some c→env.cells.lookup x=some c)→∃ cl,
  (forIn names acc fun (x:Str×NameKind) r=>do
   if x.2 == .free then pure (ForInStep.yield ((x.1,← cellOf env x.1)::r)) else pure (ForInStep.yield r):Sem (List (Str×Addr)))=pure cl∧
  (∀ x c,cl.lookup x=some c→env.cells.lookup x=some c)∧(∀ y∈names,y.2 = .free→∃ c,cl.lookup y.1=some c)∧∀ x c,acc.lookup x=some c→∃ c',cl.lookup x=some c'
 | [],_,acc,ha=>⟨acc,rfl,ha,(fun _ h=>nomatch h),fun _ c h=>⟨c,h⟩⟩
 | (n,k)::r,hn,acc,ha=>by
  by_cases hk:k = .free
  ·subst hk
   obtain ⟨c,hc⟩:=hn _ List.mem_cons_self rfl
   have ha':∀ x c',((n,c)::acc).lookup x=some c'→env.cells.lookup x=some c':=fun x c' e=>by
    rw [List.lookup_cons] at e
    by_cases hx:x=n
    ·subst hx
     rw [beq_self_eq_true] at e
     cases e
     exact hc
    ·rw [beq_false_of_ne hx] at e
     exact ha x c' e
   obtain ⟨cl,e,h1,h2,h3⟩:=Zda r (fun y hy=>hn y (List.mem_cons_of_mem _ hy)) ((n,c)::acc) ha'
   refine ⟨cl,?_,h1,fun y hy hf=>?_,fun x c' hx=>?_⟩
   ·rw [List.forIn_cons]
    simp only [cellOf,hc,beq_self_eq_true,if_true]
    exact e
   ·rcases List.mem_cons.mp hy with e' | e'
    ·subst e'
     exact h3 n c (by rw [List.lookup_cons,beq_self_eq_true])
    ·exact h2 y e' hf
   ·by_cases hxn:x=n
    ·subst hxn
     exact h3 x c (by rw [List.lookup_cons,beq_self_eq_true])
    ·exact h3 x c' (by rw [List.lookup_cons,beq_false_of_ne hxn];exact hx)
  ·obtain ⟨cl,e,h1,h2,h3⟩:=Zda r (fun y hy=>hn y (List.mem_cons_of_mem _ hy)) acc ha
   refine ⟨cl,?_,h1,fun y hy hf=>?_,h3⟩
   ·rw [List.forIn_cons]
    have hb:(k == NameKind.free)=false:=by simpa using hk
    simp only [hb,Bool.false_eq_true,if_false]
    exact e
   ·rcases List.mem_cons.mp hy with e' | e'
    ·subst e'
     exact absurd hf hk
    ·exact h2 y e' hf
end L2
end
section
namespace L2
open PySem PySem.Spec PyProof.Rows
noncomputable def CompGo (J:It) (g:TG) (tc:TT) (te:TE) (Q:VK) (σ0:St) (H1:Hp) (D:Addr):Prop :=
 ∃ W:Nat→Nat→St→Hp→Prop,(∃ m,W 0 m σ0 (upd H1 D (.lst [])))∧∀ i m σ1 H2,W i m σ1 H2→
  (J.stop i H2∧Q (.ref D) H2)∨
  (J.go i H2∧∀ x H3,J.yld i H2 x H3→g x σ1 H3 fun σ2 H4=>tc σ2 H4 fun b H5 =>
   if b=true then te σ2 H5 fun y H6=>∃ xs m',H6 D=some (.lst xs)∧xs.length<sizeLine∧m'<m∧W (i+1) m' σ2 (upd H6 D (.lst (xs++[y])))
   else ∃ m',m'<m∧W (i+1) m' σ2 H5)
noncomputable def tComp (wi:TI) (g:TG) (tc:TT) (te:TE) (σ0:St→St):TE:=fun σ H Q=>wi σ H fun J H1=>∀ D,H1 D=none→CompGo J g tc te Q (σ0 σ) H1 D
noncomputable def tYes:TT:=fun _ H Q=>Q true H
noncomputable def PTs (X:Cx) (ifs:List Expr) (t:TT):Prop :=
 ∀ (pins:List (Addr×Obj)) (s:Shared) (σ:St) (H:Hp) (Q:Bool→Hp→Prop),Inv X pins σ H s→t σ H Q→
  wpAny (model X.prog X.w) X.A (forIn ifs true fun c r=>if r=true then do let ok ← isTrue c X.env (eval c X.env);pure (ForInStep.yield ok) else pure (ForInStep.yield r)) (TP X pins σ Q) X.xe s
theorem Zec {X:Cx}:PTs X [] tYes:=fun _ _ _ H _ I h=>wpAny_tests_nil ⟨H,I,h⟩
theorem Qq {X:Cx} {c:Expr} {t:TT} (h:PT X c t):PTs X [c] t:=fun pins s σ H Q I q=>wpAny_tests_one (h pins s σ H Q I q)
section
variable {prog:Program} {w:World} {A:Around} {E:Value→Shared→Prop} {R:Result→Shared→Prop} {s:Shared}
theorem Zti {elt target iter:Expr} {ifs:List Expr} {scope:Scope} {pos:Pos} {it acc:Value} {env:Env} (I:Nat→Shared→Prop)
  (turn:∀ n s,I n s→wpAny (model prog w) A (pyNext it) (fun r s₁=>match r with
   | none=>R (.ok .next) s₁
   | some v=>wpAny (model prog w) A (letOwnedTupleGo target it v) (fun _ s₁'=>wpAny (model prog w) A (assign target env v) (fun _ s₂ =>
     wpAny (model prog w) A (forIn ifs true fun c r=>if r=true then do let ok ← isTrue c env (eval c env);pure (ForInStep.yield ok) else pure (ForInStep.yield r)) (fun ok s₃ =>
      if ok=true then wpAny (model prog w) A (eval elt env) (fun x s₄ =>
       wpAny (model prog w) A (call (.builtin "list.append") [acc,x]) (fun _ s₅=>∃ m,m<n∧I m s₅) (notedBy (model prog w) A env fun e s'=>R (.error e) s') s₄) (notedBy (model prog w) A env fun e s'=>R (.error e) s') s₃
      else ∃ m,m<n∧I m s₃) (notedBy (model prog w) A env fun e s'=>R (.error e) s') s₂) (notedBy (model prog w) A env fun e s'=>R (.error e) s') s₁') (notedBy (model prog w) A env fun e s'=>R (.error e) s') s₁) (notedBy (model prog w) A env fun e s'=>R (.error e) s') s)
  (n:Nat) (h:I n s) :
  codeAny (model prog w) A (.compLoop (.ListComp elt [⟨target,iter,ifs,0⟩] scope pos) 0 it acc env) R s:=by
 refine codeAny_loop rfl I (fun n s hI=>?_) n h
 show wpAny _ A ((compTurn (.ListComp elt [⟨target,iter,ifs,0⟩] scope pos) 0 it acc env).onRaise (fun x=>do noteFrame x env;theTreesLotGoes x)) _ _ s
 refine wpAny_noted ?_
 rw [compTurn_list]
 refine wpAny_bind (wpAny_standAt (wpAny_bind (wpAny_mono (turn n s hI) (fun r s₁ h₁=>?_) fun _ _ h'=>h')))
 cases r with
 | none=>exact wpAny_pure h₁
 | some v =>
  refine wpAny_bind (wpAny_mono h₁ (fun _ s₁' h₁'=>?_) fun _ _ h'=>h')
  refine wpAny_bind (wpAny_mono h₁' (fun _ s₂ h₂=>wpAny_bind (wpAny_mono h₂ (fun ok s₃ h₃=>?_) fun _ _ h'=>h')) fun _ _ h'=>h')
  cases ok with
  | false=>exact wpAny_pure ⟨rfl,h₃⟩
  | true =>
   exact wpAny_bind (wpAny_bind (wpAny_mono h₃ (fun x s₄ h₄=>wpAny_bind (wpAny_mono h₄ (fun _ s₅ h₅=>wpAny_pure (wpAny_pure ⟨rfl,h₅⟩)) fun _ _ h'=>h')) fun _ _ h'=>h'))
end
section
variable {X:Cx} {elt target iter:Expr} {ifs:List Expr} {scope:Scope} {pos p:Pos} {caps:List (Nat×Str)} {tgs:List Str} {wi:TI} {g:TG} {tc:TT} {te:TE}
noncomputable def compSt (tgs:List Str) (caps:List (Nat×Str)):St→St:=fun σ=>List.replicate tgs.length none++caps.map fun p=>(σ[p.1]?).join
theorem Zdj {env:Env}:∀ {names:List (Str×NameKind)} {x:Str},names.lookup x=some .free→
  ((names.map fun (n,k)=>if (k == NameKind.free&&env.scope.kind == .function&&env.kindOf n == some .cell) then (n,NameKind.cell) else (n,k)).lookup x=some .cell∨
   (names.map fun (n,k)=>if (k == NameKind.free&&env.scope.kind == .function&&env.kindOf n == some .cell) then (n,NameKind.cell) else (n,k)).lookup x=some .free)
 | [],_,h=>by cases h
 | (n,k)::r,x,h=>by
  rw [List.lookup_cons] at h
  rw [List.map_cons]
  by_cases hx:x=n
  ·subst hx
   rw [beq_self_eq_true] at h
   cases h
   dsimp only
   split
   ·exact .inl (by rw [List.lookup_cons,beq_self_eq_true])
   ·exact .inr (by rw [List.lookup_cons,beq_self_eq_true])
  ·rw [beq_false_of_ne hx] at h
   have ih:=Zdj (env:=env) h
   dsimp only
   split<;>(rw [List.lookup_cons,beq_false_of_ne hx];exact ih)
theorem Zea {env:Env}:∀ {names:List (Str×NameKind)} {x:Str},((names.map fun (n,k)=>if (k == NameKind.free&&env.scope.kind == .function&&env.kindOf n == some .cell) then (n,NameKind.cell) else (n,k)).lookup x=some .cell∨
   (names.map fun (n,k)=>if (k == NameKind.free&&env.scope.kind == .function&&env.kindOf n == some .cell) then (n,NameKind.cell) else (n,k)).lookup x=some .free)→(∀ y∈names,y.2≠.cell)→names.lookup x=some .free
 | [],_,h,_=>by rcases h with h | h<;>cases h
 | (n,k)::r,x,h,hn=>by
  rw [List.lookup_cons]
  by_cases hx:x=n
  ·subst hx
   rw [beq_self_eq_true]
   have hk:=hn _ List.mem_cons_self
   rw [List.map_cons] at h
   dsimp only at h
   split at h
   ·rename_i c
    simp only [Bool.and_eq_true,beq_iff_eq] at c
    exact congrArg some c.1.1
   ·rw [List.lookup_cons,beq_self_eq_true] at h
    rcases h with h | h
    ·cases h;exact absurd rfl hk
    ·exact h
  ·rw [beq_false_of_ne hx]
   refine Zea (env:=env) ?_ fun y hy=>hn y (List.mem_cons_of_mem _ hy)
   rw [List.map_cons] at h
   dsimp only at h
   split at h<;>(rw [List.lookup_cons,beq_false_of_ne hx] at h;exact h)
theorem Jj:∀ {names:List (Str×NameKind)} {x:Str} {k:NameKind},names.lookup x=some k→(x,k)∈names
 | [],_,_,h=>by cases h
 | (n,k')::r,x,k,h=>by
  rw [List.lookup_cons] at h
  by_cases hx:x=n
  ·subst hx
   rw [beq_self_eq_true] at h
   cases h
   exact List.mem_cons_self
  ·rw [beq_false_of_ne hx] at h
   exact List.mem_cons_of_mem _ (Jj h)
set_option maxHeartbeats 1000000
theorem Zqe {use:Option (Value→Sem Unit)} {Qf:Value→Shared→Prop} {pins:List (Addr×Obj)} {σ:St} {H:Hp} {s:Shared} {Q:VK}
  (hc:X.calm=true) (hsc:compScopeOk scope (caps.map (·.2))=true) (hcap:CapsOk X caps) (hi:PI X target iter wi)
  (hg:∀ cl C s2 H2 fp,PG (cxComp X scope cl C (tgs++caps.map (·.2)) s2 H2 fp) target g)
  (ht:∀ cl C s2 H2 fp,PTs (cxComp X scope cl C (tgs++caps.map (·.2)) s2 H2 fp) ifs tc)
  (he:∀ cl C s2 H2 fp,PE (cxComp X scope cl C (tgs++caps.map (·.2)) s2 H2 fp) elt te)
  (I:Inv X pins σ H s) (h:tComp wi g tc te (compSt tgs caps) σ H Q)
  (fin:∀ D C H' s',Inv X pins σ H' s'→Q (.ref D) H'→H' C=none→C≠X.env.locals→X.s₀.heap.objs.size≤C→(∀ x c,X.env.cells.lookup x=some c→c≠C)→(∀ p∈X.pn++pins,p.1≠C)→(∃ m,s'.heap.Ns C m)→
   compPost (model X.prog X.w) X.A X.xe use Qf (.ref D) C (.ok .next) s')
  (hs:∀ x,foldedSetIterable iter X.env x=pure x:=by intro _;rfl) :
  wpAny (model X.prog X.w) X.A (comprehension (.ListComp elt [⟨target,iter,ifs,0⟩] scope pos) scope X.env p (newList []) false (eval iter X.env) use) Qf X.xe s:=by
 simp only [compScopeOk,Bool.and_eq_true,List.all_eq_true,beq_iff_eq,bne_iff_ne,Bool.or_eq_true,List.contains_iff_mem] at hsc
 obtain ⟨⟨⟨⟨k1,k2⟩,k3⟩,k4⟩,k5⟩:=hsc
 have hnames:∀ y∈scope.names,y.2 = .local→scope.names.lookup y.1=some .local:=fun y hy hl=>(k3 y hy).resolve_left fun z=>z hl
 have capAt:=hcap.at
 have hfr:∀ y∈scope.names,y.2 = .free→∃ c,X.env.cells.lookup y.1=some c:=fun y hy hf=>by
  have hm:=(k4 y hy).resolve_left fun z=>z hf
  obtain ⟨q,hq,e⟩:=List.mem_map.mp hm
  have:=(capAt q hq).2
  rw [e] at this
  exact I.ok.has _ this
 obtain ⟨cl,hcl,hin,hall,_⟩:=Zda scope.names hfr [] (fun x c e=>by cases e)
 have hclos:closureFor scope X.env=pure cl:=by
  refine (show closureFor scope X.env=(_ >>= pure) from rfl).trans ((congrArg (· >>= pure) hcl).trans ?_)
  rfl
 refine wpAny_comprehension_free (use:=use) rfl hs hclos k1 hnames (thn (hi pins s σ H _ I h) fun v s1 h1=>thn h1 fun itv s2 h2=>?_)
 obtain ⟨it,fp,tn,J,H2,e,I2,T,st2,f2,hW⟩:=h2
 subst e
 have fD:H2 s2.heap.objs.size=none:=I2.fresh
 obtain ⟨W,⟨m0,w0⟩,turn⟩:=hW _ fD
 refine wpAny_newObj_type (wpAny_newFunctionEnv k2 (by intro y hy;simp at hy) (fun h₁ hns₁ hsb₁=>?_) k1)
 dsimp only at hns₁ hsb₁ ⊢
 generalize hH3:s2.heap.push {cls := .type "list",dict:=none,data := .seq ([]:List Value).toArray}=H3 at hns₁ hsb₁ ⊢
 have hC:H3.objs.size=s2.heap.objs.size+1:=by rw [← hH3,Heap.size_push]
 have hDC:s2.heap.objs.size≠H3.objs.size:=by rw [hC];exact Nat.ne_of_lt (Nat.lt_succ_self _)
 have hCle:s2.heap.objs.size≤H3.objs.size:=by rw [hC];exact Nat.le_succ _
 have below:∀ b,b<s2.heap.objs.size→b≠H3.objs.size:=fun b hb=>by rw [hC];exact Nat.ne_of_lt (Nat.lt_succ_of_lt hb)
 have old:∀ b o,s2.heap.get? b=some o→h₁.get? b=some o:=fun b o e=>hsb₁.extBut b o (below b (Heap.lt_size e)) (Heap.get?_push_of_some _ (hH3 ▸ Heap.get?_push_of_some _ e))
 have hacc:h₁.get? s2.heap.objs.size=some {cls := .type "list",dict:=none,data := .seq ([]:List Value).toArray}:=hsb₁.extBut _ _ hDC (Heap.get?_push_of_some _ (hH3 ▸ Heap.get?_push_size _ rfl))
 have fC:H2 H3.objs.size=none:=I2.hok.fresh hCle
 have fpl:∀ b∈fp,b<s2.heap.objs.size:=fun b hb=>by
  obtain ⟨o,ho,_⟩:=T.obj _ _ st2 b hb
  exact Heap.lt_size ho
 let X':=cxComp X scope cl H3.objs.size (tgs++caps.map (·.2)) s2 H2 fp
 have ok':X'.Ok:=by
  refine ⟨I2.ok.mod,k1,I2.ok.glob,I2.ok.blt,hCle,fun x y c hx hy=>I2.ok.inj x y c (hin _ _ hx) (hin _ _ hy),fun x hx=>?_,(fun x c hf=>nomatch hf),I2.ok.hd,I2.ok.frames,.inl rfl,fun b hb=>⟨below b (fpl b hb),fun x c hx=>(f2 b hb).2.2.2.2.1 x c (hin _ _ hx)⟩,I2.bs,
   Nat.le_trans I2.ok.bsz I2.sz,fun b o e hb=>?_,fun b hb z=>?_,I2.stack,I2.stkFree⟩
  ·exact hall (x,.free) (Jj (Zea hx k2)) rfl
  ·rcases (f2 b hb).2.2.2.1 with z | z
   ·exact I2.ok.noex b o e z
   ·exact absurd (Nat.lt_of_lt_of_le (Heap.lt_size e) I2.ok.bsz) (Nat.not_lt.mpr z)
  ·rcases List.mem_cons.mp (I2.stkSub b z) with q | q
   ·exact (f2 b hb).2.1 q
   ·exact (f2 b hb).2.2.1 q
 have un4:Un (frs X.stack) fp H2 (upd H2 s2.heap.objs.size (.lst [])) s2.heap h₁:=Un.laid old (Nat.le_refl _) fD
 have hok4:HOk X.prog X.w (upd H2 s2.heap.objs.size (.lst [])) h₁:=I2.hok.laid old (Nat.le_refl _) ⟨Nat.zero_le _,[],0,.nil,hacc⟩
 have I4:∀ tk,Inv X' [] (compSt tgs caps σ) (upd H2 s2.heap.objs.size (.lst [])) {s2 with heap:=h₁,toks:=tk}:=fun tk=>by
  refine ⟨ok',rfl,I2.bare,un4,⟨_,hns₁,fun i x v e1 e2 e3=>?_⟩,fun x c hx=>?_,?_,fun x c hx=>?_,fun q hq=>?_,hok4,?_⟩
  ·
   obtain ⟨m2,_,hl2⟩:=I2.loc
   have hlt:tgs.length≤i:=by
    rcases Nat.lt_or_ge i tgs.length with z | z
    ·have:(compSt tgs caps σ)[i]?=some none:=by
      unfold compSt
      rw [List.getElem?_append_left (by simpa using z),List.getElem?_replicate,if_pos z]
     rw [this] at e2
     cases e2
    ·exact z
   have e1':(tgs++caps.map (·.2))[i]?=some x:=e1
   rw [List.getElem?_append_right hlt,List.getElem?_map] at e1'
   have e2':(caps.map fun p=>(σ[p.1]?).join)[i - tgs.length]?=some (some v):=by
    have:(compSt tgs caps σ)[i]?=(caps.map fun p=>(σ[p.1]?).join)[i - tgs.length]?:=by
     unfold compSt
     rw [List.getElem?_append_right (by simpa using hlt),List.length_replicate]
    rw [← this]
    exact e2
   rw [List.getElem?_map] at e2'
   cases hq:caps[i - tgs.length]? with
   | none=>rw [hq] at e1';cases e1'
   | some q =>
    rw [hq] at e1' e2'
    obtain rfl:q.2=x:=Option.some.inj e1'
    have e2'':(σ[q.1]?).join=some v:=Option.some.inj e2'
    have hσ:σ[q.1]?=some (some v):=by
     cases z:σ[q.1]? with
     | none=>rw [z] at e2'';cases e2''
     | some y=>rw [z] at e2'';exact congrArg some e2''
    have hqm:q∈caps:=List.mem_of_getElem? hq
    obtain ⟨n1,n2⟩:=capAt q hqm
    have hvis:Vis X.env.scope q.2:=by
     rcases n2 with z | z
     ·exact .inr (.inl z)
     ·exact .inr (.inr z)
    obtain ⟨u,ru,lk⟩:=hl2 q.1 q.2 v n1 hσ hvis
    have hfree:scope.names.lookup q.2=some .free:=k5 q.2 (List.mem_map_of_mem hqm)
    refine ⟨u,ru,.inr ⟨Zdj hfree,?_⟩⟩
    rcases lk with ⟨z,_⟩ | ⟨_,c,hcc,oc,hoc,hocd⟩
    ·rcases n2 with y | y<;>(rw [y] at z;cases z)
    ·obtain ⟨c',hc'⟩:=hall (q.2,.free) (Jj hfree) rfl
     have:=hin _ _ hc'
     rw [hcc] at this
     cases this
     exact ⟨c,hc',oc,old _ _ hoc,hocd⟩
  ·obtain ⟨v,o,ho,hd⟩:=I2.cell x c (hin _ _ hx)
   exact ⟨v,o,old _ _ ho,hd⟩
  ·show upd H2 s2.heap.objs.size (.lst []) H3.objs.size=none
   rw [Zm (Ne.symm hDC)]
   exact fC
  ·have hcf:=I2.freeC x c (hin _ _ hx)
   obtain ⟨v,o,ho,hd⟩:=I2.cell x c (hin _ _ hx)
   rw [Zm (Nat.ne_of_lt (Heap.lt_size ho))]
   exact hcf
  ·have:q∈([]:List (Addr×Obj)):=hq
   cases this
  ·show (compSt tgs caps σ).length=(tgs++caps.map (·.2)).length
   simp [compSt]
 have stat:∀ {pins':List (Addr×Obj)} {H':Hp},(∀ b∈fp,H' b=none)→(∀ q∈pins',q.1∉fp)→∀ b∈fp,FpOk X' pins' H' b:=fun hn hp b hb =>
  ⟨hn b hb,below b (fpl b hb),fun z=>by
   rcases List.mem_cons.mp (I2.stkSub b z) with q | q
   ·exact (f2 b hb).2.1 q
   ·exact (f2 b hb).2.2.1 q,.inl hb,fun x c hx=>(f2 b hb).2.2.2.2.1 x c (hin _ _ hx),fun q hq z=>hp q hq (z ▸ hb)⟩
 have noPin:∀ q∈([]:List (Addr×Obj)),q.1∉fp:=fun _ z=>nomatch z
 have tn0:tn 0 h₁:=T.keep _ _ _ st2 fun b hb o e=>old b o e
 have fr0:∀ b∈fp,(upd H2 s2.heap.objs.size (.lst [])) b=none:=fun b hb=>by
  rw [Zm (Nat.ne_of_lt (fpl b hb))]
  exact (f2 b hb).1
 have loop:∀ s₃:Shared,s₃={s2 with heap:=h₁,toks:=s2.toks+([]:List (Str×Value)).length}→
   codeAny (model X.prog X.w) X.A (.compLoop (.ListComp elt [⟨target,iter,ifs,0⟩] scope pos) 0 (.ref it) (.ref s2.heap.objs.size) (compEnvC scope cl H3.objs.size X.env))
    (compPost (model X.prog X.w) X.A X.xe use Qf (.ref s2.heap.objs.size) H3.objs.size) s₃:=by
  rintro s₃ rfl
  refine Zti (fun n s'=>∃ i σ' H',Inv X' [] σ' H' s'∧tn i s'.heap∧(∀ b∈fp,H' b=none)∧W i n σ' H') ?_ m0 ⟨0,_,_,I4 _,tn0,fr0,w0⟩
  rintro n s3 ⟨i,σ3,H3',I3,st3,fr3,w3⟩
  rcases turn i n σ3 H3' w3 with ⟨stop,qn⟩ | ⟨go,step⟩
  ·refine thn (T.done X' rfl rfl rfl hc i [] s3 σ3 H3' _ I3 (stat fr3 noPin) st3 stop) fun r s4 ⟨hr,I4'⟩=>?_
   subst hr
   have un:=I4'.base
   refine fin _ _ H3' s4 (I2.call' I4'.os un I4'.hok I4'.bare fun b hb=>?_) qn I4'.free ?_ (Nat.le_trans I2.sz hCle) ?_ ?_ ?_
   ·exact ⟨(f2 b hb).2.2.2.1,(f2 b hb).2.1,(f2 b hb).2.2.2.2.1,(f2 b hb).2.2.2.2.2⟩
   ·exact Ne.symm (below _ I2.lt)
   ·intro x c hx
    obtain ⟨v,o,ho,hd⟩:=I2.cell x c hx
    exact below c (Heap.lt_size ho)
   ·intro q hq
    obtain ⟨e,_⟩:=I2.pin q hq
    exact below _ (Heap.lt_size e)
   ·obtain ⟨m,hm,_⟩:=I4'.loc
    exact ⟨m,hm⟩
  ·refine thn (T.item X' rfl rfl rfl hc i [] s3 σ3 H3' _ I3 (stat fr3 noPin) st3 go) fun r s4 ⟨u,hr,h4⟩=>?_
   subst hr
   refine thn h4 fun _ s5 ⟨x,H5,I5,r5,y5,st5,fr5⟩=>?_
   have I5':=I5.pinned (stat fr5 noPin) (T.obj _ _ st5)
   refine wpAny_mono (hg _ _ _ _ _ _ s5 σ3 H5 x u _ I5' r5 (step x H5 y5)) (fun _ s6 ⟨σ6,H6,I6,q6⟩=>?_) fun _ _ z=>z.elim
   have again:∀ {σ7:St} {H7:Hp} {s7:Shared} {m':Nat},Inv X' ([]++pinsAt fp s5.heap) σ7 H7 s7→m'<n→W (i+1) m' σ7 H7→∃ m,m<n∧∃ i σ' H',Inv X' [] σ' H' s7∧tn i s7.heap∧(∀ b∈fp,H' b=none)∧W i m σ' H':=fun {σ7 H7 s7 m'} I7 hm w7=>by
    refine ⟨m',hm,i+1,σ7,H7,I7.unpinned,T.keep _ _ _ st5 fun b hb o e=>(I7.pin (b,o) (List.mem_append_right _ (List.mem_append_right _ (Qt hb e)))).1,fun b hb=>?_,w7⟩
    obtain ⟨o,e,d⟩:=T.obj _ _ st5 b hb
    exact (I7.pin (b,o) (List.mem_append_right _ (List.mem_append_right _ (Qt hb e)))).2.1
   refine wpAny_mono (ht _ _ _ _ _ _ s6 σ6 H6 _ I6 q6) (fun ok s7 ⟨H7,I7,q7⟩=>?_) fun _ _ z=>z.elim
   cases ok with
   | false =>
    obtain ⟨m',hm,w7⟩:=q7
    exact again I7 hm w7
   | true =>
    refine wpAny_mono (he _ _ _ _ _ _ s7 σ6 H7 _ I7 q7) (fun yv s8 ⟨y,H8,I8,r8,q8⟩=>?_) fun _ _ z=>z.elim
    obtain ⟨xs,m',hD,hz,hm,w8⟩:=q8
    refine wpAny_mono (Zbe (X:=X') _ s8 σ6 H8 (.ref s2.heap.objs.size) [y] (.ref s2.heap.objs.size) [yv] (fun _ H9=>W (i+1) m' σ6 H9) I8 rfl (.cons r8 .nil) ⟨_,xs,y,rfl,rfl,hD,hz,w8⟩) (fun _ s9 ⟨_,H9,I9,_,q9⟩=>?_) fun _ _ z=>z.elim
    exact again I9 hm q9
 exact codeAny_compStart_list (loop _ rfl) (T.self _ 0 _ _ _ tn0 (loop _ rfl))
noncomputable abbrev BK (α:Type):=List (Str×Addr)→Addr→Shared→Hp→List Addr→α
theorem Jb {g:BK TG} {tc:BK TT} {te:BK TE} (tgs:List Str) (caps:List (Nat×Str)) (hc:X.calm=true) (hsc:compScopeOk scope (caps.map (·.2))=true) (hcap:CapsOk X caps) (hi:PI X target iter wi)
  (hg:∀ cl C s2 H2 fp,PG (cxComp X scope cl C (tgs++caps.map (·.2)) s2 H2 fp) target (g cl C s2 H2 fp))
  (ht:∀ cl C s2 H2 fp,PTs (cxComp X scope cl C (tgs++caps.map (·.2)) s2 H2 fp) ifs (tc cl C s2 H2 fp))
  (he:∀ cl C s2 H2 fp,PE (cxComp X scope cl C (tgs++caps.map (·.2)) s2 H2 fp) elt (te cl C s2 H2 fp))
  (eg:∀ cl C s2 H2 fp,g cl C s2 H2 fp=g [] 0 X.s₀ X.H₀ []:=by intros;rfl) (et:∀ cl C s2 H2 fp,tc cl C s2 H2 fp=tc [] 0 X.s₀ X.H₀ []:=by intros;rfl) (ee:∀ cl C s2 H2 fp,te cl C s2 H2 fp=te [] 0 X.s₀ X.H₀ []:=by intros;rfl)
  (hs:∀ x,foldedSetIterable iter X.env x=pure x:=by intro _;rfl) :
  PE X (.ListComp elt [⟨target,iter,ifs,0⟩] scope pos) (tComp wi (g [] 0 X.s₀ X.H₀ []) (tc [] 0 X.s₀ X.H₀ []) (te [] 0 X.s₀ X.H₀ []) (compSt tgs caps)):=by
 intro pins s σ H Q I h
 rw [eval_ListComp]
 refine Zqe (use:=none) hc hsc hcap hi (fun cl C s2 H2 fp=>eg cl C s2 H2 fp ▸ hg cl C s2 H2 fp) (fun cl C s2 H2 fp=>et cl C s2 H2 fp ▸ ht cl C s2 H2 fp) (fun cl C s2 H2 fp=>ee cl C s2 H2 fp ▸ he cl C s2 H2 fp) I h (fun D C H' s' I' q hC h1 h2 h3 h4 ⟨m,hm⟩=>?_) hs
 refine ⟨m,hm,fun h' hsb=>?_⟩
 exact ⟨.ref D,H',I'.turned (t':=s'.toks) (fun b o hb e=>hsb.extBut b o hb e) hC h1 (.inr h2) h3 h4,rfl,q⟩
theorem Xbf {g:BK TG} {tc:BK TT} {te:BK TE} {i:Nat} {y:Str} {py spos:Pos} (tgs:List Str) (caps:List (Nat×Str)) (hN:X.N.Nodup) (hiN:X.N[i]?=some y) (hy:X.env.scope.names.lookup y=some .local) (hc:X.calm=true) (hsc:compScopeOk scope (caps.map (·.2))=true) (hcap:CapsOk X caps) (hi:PI X target iter wi)
  (hg:∀ cl C s2 H2 fp,PG (cxComp X scope cl C (tgs++caps.map (·.2)) s2 H2 fp) target (g cl C s2 H2 fp))
  (ht:∀ cl C s2 H2 fp,PTs (cxComp X scope cl C (tgs++caps.map (·.2)) s2 H2 fp) ifs (tc cl C s2 H2 fp))
  (he:∀ cl C s2 H2 fp,PE (cxComp X scope cl C (tgs++caps.map (·.2)) s2 H2 fp) elt (te cl C s2 H2 fp))
  (eg:∀ cl C s2 H2 fp,g cl C s2 H2 fp=g [] 0 X.s₀ X.H₀ []:=by intros;rfl) (et:∀ cl C s2 H2 fp,tc cl C s2 H2 fp=tc [] 0 X.s₀ X.H₀ []:=by intros;rfl) (ee:∀ cl C s2 H2 fp,te cl C s2 H2 fp=te [] 0 X.s₀ X.H₀ []:=by intros;rfl)
  (hsw:swapsWith (.ListComp elt [⟨target,iter,ifs,0⟩] scope pos) (some (.Name y py)) spos.line X.env=pure true:=by rfl)
  (hs:∀ x,foldedSetIterable iter X.env x=pure x:=by intro _;rfl) :
  PS X (.Assign [.Name y py] (.ListComp elt [⟨target,iter,ifs,0⟩] scope pos) spos) (tAsg (tComp wi (g [] 0 X.s₀ X.H₀ []) (tc [] 0 X.s₀ X.H₀ []) (te [] 0 X.s₀ X.H₀ []) (compSt tgs caps)) (gName i)):=by
 intro pins s σ H D I h
 rw [exec_Assign_Name_used _ _ _ _ hsw]
 refine wpAny_bind (wpAny_standAt (wpAny_bind ?_))
 show wpAny _ X.A (do let _ ← comprehension (.ListComp elt [⟨target,iter,ifs,0⟩] scope pos) scope X.env _ (newList []) false (eval iter X.env) (some (assign (.Name y py) X.env))) _ _ s
 refine wpAny_bind (thn (Zqe (use:=some (assign (.Name y py) X.env)) (Qf:=fun _ s'=>SP X pins D .next s') hc hsc hcap hi (fun cl C s2 H2 fp=>eg cl C s2 H2 fp ▸ hg cl C s2 H2 fp) (fun cl C s2 H2 fp=>et cl C s2 H2 fp ▸ ht cl C s2 H2 fp) (fun cl C s2 H2 fp=>ee cl C s2 H2 fp ▸ he cl C s2 H2 fp) I h (fun Dd C H' s' I' q hC h1 h2 h3 h4 ⟨m,hm⟩=>?_) hs) fun _ s' hq=>wpAny_pure (wpAny_pure hq))
 show wpAny _ X.A (assign (.Name y py) X.env (.ref Dd)) _ _ _
 refine wpAny_assign_Name (Zoh I' hN hiN (.inl hy) (v := .ref Dd) rfl (fun s'' I'' ⟨a,hsb,ha⟩=>?_) (.inr hy))
 have hCa:C≠a:=by
  rcases ha with z | z
  ·rw [z];exact h1
  ·exact Ne.symm (h3 _ _ z)
 refine ⟨m,hm.sameBut hsb hCa,fun h' hsb'=>?_⟩
 exact ⟨_,H',I''.turned (t':=s''.toks) (fun b o hb e=>hsb'.extBut b o hb e) hC h1 (.inr h2) h3 h4,q⟩
end
end L2
end
section
namespace L2
open PySem PySem.Spec PyProof.Rows
noncomputable def OwnIn (H:Hp) (a:Addr):HO→Prop
 | .ins _ dx _=>H dx=some (.own a)
 | .frz _ u=>OwnIn H a u
 | _=>True
noncomputable def Closed (H:Hp):Prop:=∀ a o,H a=some o→OwnIn H a o
theorem OwnIn.of {P:Program} {w:World} {H:Hp} {h:Heap} {a:Addr} {o:HO} (x:ObjOk P w H h a o):OwnIn H a o:=by
 induction o with
 | ins C dx fs=>exact x.1
 | frz ob u ih=>exact ih x.2
 | _=>trivial
theorem HOk.closed {P:Program} {w:World} {H:Hp} {h:Heap} (x:HOk P w H h):Closed H:=fun a o e=>OwnIn.of (x a o e)
theorem OwnIn.mono {H H':Hp} {a:Addr} {o:HO} (s:∀ b u,H b=some u→H' b=some u) (x:OwnIn H a o):OwnIn H' a o:=by
 induction o with
 | ins C dx fs=>exact s _ _ x
 | frz ob u ih=>exact ih x
 | _=>trivial
theorem ObjOk.sub {P:Program} {w:World} {H H':Hp} {h:Heap} {a:Addr} {o:HO} (x:ObjOk P w H' h a o) (ow:OwnIn H a o):ObjOk P w H h a o:=by
 induction o with
 | ins C dx fs=>exact ⟨ow,x.2⟩
 | frz ob u ih=>exact ⟨x.1,ih x.2 ow⟩
 | lst _=>exact x
 | tup _=>exact x
 | dK _=>exact x
 | dT _=>exact x
 | set _ _=>exact x
 | own _=>exact x
 | xd _=>exact x
 | met _ _=>exact x
 | rng _ _=>exact x
 | tbl _=>exact x
 | ext _=>exact x
structure Sub (H H'' H':Hp):Prop where
 le:Same H'' H'
 ge:∀ b o,H b=some o→∃ u,H'' b=some u
 cl:Closed H→Closed H''
theorem Sub.refl {H H':Hp} (h:Same H H'):Sub H H H':=⟨h,fun _ o e=>⟨o,e⟩,id⟩
theorem Sub.all {H H':Hp} (h:∀ b o,H b=some o→∃ u,H' b=some u) (c:Closed H→Closed H'):Sub H H' H':=⟨Same.refl _,h,c⟩
theorem Zh {H:Hp} {p:Addr} {o:HO} (h:H p=none):Same H (upd H p o):=fun b u q=>by rw [Zm (Zp q h)];exact q
theorem Jz {H:Hp} {p:Addr} {o:HO} (c:Closed H) (h:H p=none) (ho:OwnIn (upd H p o) p o):Closed (upd H p o):=fun a u e=>by
 by_cases z:a=p
 ·subst z;rw [Zc] at e;cases e;exact ho
 ·rw [Zm z] at e
  exact (c a u e).mono (Zh h)
theorem Sub.new {H H':Hp} {p:Addr} {o:HO} (h:H p=none) (hs:Same H H') (e:H' p=some o) (ho:OwnIn (upd H p o) p o):Sub H (upd H p o) H' :=
 ⟨fun b u q=>by
  by_cases z:b=p
  ·subst z;rw [Zc] at q;cases q;exact e
  ·rw [Zm z] at q;exact hs b u q,fun b u q=>⟨u,Zh h b u q⟩,fun c=>Jz c h ho⟩
theorem Sub.ins {H H':Hp} {p C dx:Addr} {fs fs':List (Str×V)} (h:H p=some (.ins C dx fs)) (hs:∀ b u,b≠p→H b=some u→H' b=some u) (e:H' p=some (.ins C dx fs')):Sub H (upd H p (.ins C dx fs')) H' :=
 ⟨fun b u q=>by
  by_cases z:b=p
  ·subst z;rw [Zc] at q;cases q;exact e
  ·rw [Zm z] at q;exact hs b u z q,fun b u q=>by
  by_cases z:b=p
  ·subst z;exact ⟨_,Zc⟩
  ·exact ⟨u,by rw [Zm z];exact q⟩,fun c a u q=>by
  have hd:H dx=some (.own p):=c p _ h
  have nd:dx≠p:=fun z=>by rw [z,h] at hd;cases hd
  by_cases z:a=p
  ·subst z;rw [Zc] at q;cases q
   show upd H a _ dx=_
   rw [Zm nd];exact hd
  ·rw [Zm z] at q
   have x:=c a u q
   revert x
   generalize u=o
   clear q
   induction o with
   | ins C' d' f' =>
    intro (x:H d'=some (.own a))
    show upd H p _ d'=_
    rw [Zm (fun y=>by rw [y,h] at x;cases x)];exact x
   | frz ob u ih=>intro x;exact ih x
   | _=>intro _;trivial⟩
section
variable {X:Cx} {pins:List (Addr×Obj)} {σ:St} {H H' H'':Hp} {s s0:Shared}
theorem Un.sub {fs ex:List Addr} {H0:Hp} {h h1 h2:Heap} (u0:Un fs ex H0 H h h1) (u:Un fs ex H0 H' h h2) (d:Sub H H'' H'):Un fs ex H0 H'' h h2:=by
 refine ⟨u.keep,u.slot,fun b o e n hx=>?_,u.there,fun b xs e=>?_,fun b o v e=>?_,fun b ps e=>?_⟩
 ·cases q:H'' b with
  | none=>rfl
  | some v=>have:=d.le b v q;rw [u.free b o e n hx] at this;cases this
 ·obtain ⟨v,hv⟩:=d.ge b _ (u0.tups b xs e)
  have:=d.le b v hv;rw [u.tups b xs e] at this;cases this;exact hv
 ·obtain ⟨z,hv⟩:=d.ge b _ (u0.frzs b o v e)
  have:=d.le b z hv;rw [u.frzs b o v e] at this;cases this;exact hv
 ·obtain ⟨m0,e0⟩:=u0.tbls b ps e
  obtain ⟨z,hv⟩:=d.ge b _ e0
  obtain ⟨m,e1⟩:=u.tbls b ps e
  have:=d.le b z hv;rw [e1] at this;cases this;exact ⟨m,hv⟩
theorem HOk.sub {P:Program} {w:World} {h:Heap} (x:HOk P w H' h) (c:Closed H'') (d:Same H'' H'):HOk P w H'' h:=fun a o e=>(x a o (d a o e)).sub (c a o e)
theorem Inv.sub {σ0:St} (I0:Inv X pins σ0 H s0) (I:Inv X pins σ H' s) (d:Sub H H'' H'):Inv X pins σ H'' s :=
 ⟨I.ok,I.os,I.bare,I0.base.sub I.base d,I.loc,I.cell,d.le.free I.free,fun x c e=>d.le.free (I.freeC x c e),
  fun p hp=>let ⟨a,b,c⟩:=I.pin p hp;⟨a,d.le.free b,c⟩,I.hok.sub (d.cl I0.hok.closed) d.le,I.len⟩
end
theorem FnOk.keep {P:Program} {w:World} {K:PySem.W.Frag} {mg:Str→Option Value} {base:Heap} {k:Nat} {f:Addr} {fd:FuncData} {ps:List Str} {sp sp':Sp} (F:FnOk P w K mg base CX0 k f fd ps sp)
  (h:∀ vs H Q E,sp' vs H Q E→sp vs H (fun v H'=>∃ H'',Sub H H'' H'∧Q v H'') E):FnOk P w K mg base CX0 k f fd ps sp':=by
 refine ⟨fun vs H Q E q=>F.len vs H _ E (h vs H Q E q),fun A outer s H args us vs Q E hr e0 hb r q=>codeAny_mono (F.run A outer s H args us vs _ E hr e0 hb r (h vs H Q E q)) fun rs s' c=>?_⟩
 cases rs with
 | error e=>exact c
 | ok fl =>
  cases fl with
  | ret u =>
   obtain ⟨v,H',os,bare,un,hok,rv,H'',d,q'⟩:=c
   exact ⟨v,H'',os,bare,Un.sub (Un.refl (h:=s.heap)) un d,hok.sub (d.cl e0.hok.closed) d.le,rv,q'⟩
  | next=>exact c
  | brk=>exact c
  | cont=>exact c
theorem Fun.okK {P:Program} {w:World} {K:PySem.W.Frag} {mg:Str→Option Value} {base:Heap} {x qual:Str} {st:Stmt} {f:Addr} {fd:FuncData} {N ps:List Str} {k:Nat} {sp:Sp} (F:Fun K x qual st f fd) (S:FnScope N ps (defScope st)) (len:∀ vs H Q E,sp vs H Q E→vs.length=ps.length)
  (hbody:∀ (cdv:Value) (A:Around) (outer:List Env) (s:Shared) (H:Hp) (vs:List V) (Q:VK) (E:XK),Room k (A.deeper (envOfC qual (defScope st) s.heap.objs.size f cdv))→sp vs H Q E→
   ∃ t,PSs (cxOf CX0 P w K mg base N qual (defScope st) f cdv A outer s H E).nox (defBody st) t∧t {nx:=fun _ H'=>∃ H'',Sub H H'' H'∧Q .non H'',rt:=fun v H'=>∃ H'',Sub H H'' H'∧Q v H''} (start N vs) H):FnOk P w K mg base CX0 (k+1) f fd ps sp :=
 (F.ok (sp:=fun vs H Q E=>∃ Q',Q=(fun v H'=>∃ H'',Sub H H'' H'∧Q' v H'')∧sp vs H Q' E) S (fun vs H Q E ⟨Q',_,h⟩=>len vs H Q' E h) (fun cdv A outer s H vs Q E hr ⟨Q',e,h⟩=>by
  subst e
  exact hbody cdv A outer s H vs Q' E hr h)).keep fun vs H Q E h=>⟨Q,rfl,h⟩
end L2
end
section
namespace KM
noncomputable def bitsW (n:Nat):Nat→List Bool
 | 0=>[]
 | w+1=>n.testBit w::bitsW n w
noncomputable def blen (n:Nat):Nat:=if n=0 then 0 else n.log2+1
noncomputable def digs (n:Nat):List Bool:=bitsW n (blen n)
theorem Xd (n w:Nat):(bitsW n w).length=w:=by
 induction w with
 | zero=>rfl
 | succ w ih=>simp [bitsW,ih]
theorem Yp (n:Nat):(digs n).length=blen n:=Xd _ _
theorem Wq (n:Nat):n<2 ^ blen n:=by
 unfold blen
 split
 ·omega
 ·exact Nat.lt_log2_self
theorem Yf {n w:Nat} (h:n<2 ^ w):blen n≤w:=by
 unfold blen
 split
 ·omega
 ·rename_i h0
  exact (Nat.log2_lt h0).mpr h
theorem Xx {n:Nat} (h:n≠0):0<blen n:=by unfold blen;rw [if_neg h];omega
theorem Zih {n:Nat} (h:n≠0):2 ^ (blen n - 1)≤n:=by
 unfold blen;rw [if_neg h];exact Nat.log2_self_le h
theorem Xvi {n k:Nat} (h1:2 ^ k≤n) (h2:n<2 ^ (k+1)):blen n=k+1:=by
 have h0:n≠0:=by have:0<2 ^ k:=Nat.two_pow_pos k;omega
 have a:=Yf h2
 have b:=Wq n
 have:¬blen n≤k:=fun q=>by
  have:=Nat.pow_le_pow_right (n:=2) (by decide) q
  omega
 omega
theorem Zcd {m n:Nat} (h:m≤n):blen m≤blen n:=Yf (Nat.lt_of_le_of_lt h (Wq n))
theorem Zdd (n:Nat) (b:Bool):(2*n+b.toNat).testBit 0=b:=by
 cases b<;>simp [Nat.testBit_zero]<;>omega
theorem Zij (n k:Nat) (b:Bool):(2*n+b.toNat).testBit (k+1)=n.testBit k:=by
 rw [Nat.testBit_succ]
 congr 1
 cases b<;>simp<;>omega
theorem Zdb (n w:Nat) (b:Bool):bitsW (2*n+b.toNat) (w+1)=bitsW n w++[b]:=by
 induction w with
 | zero=>simp only [bitsW,List.nil_append,Zdd]
 | succ w ih =>
  rw [bitsW,ih,Zij]
  rfl
theorem Zmb {n:Nat} (h:n≠0) (b:Bool):blen (2*n+b.toNat)=blen n+1:=by
 have h1:=Zih h
 have h2:=Wq n
 have h3:=Xx h
 obtain ⟨k,e⟩:∃ k,blen n=k+1:=⟨blen n - 1,by omega⟩
 rw [e] at h1 h2 ⊢
 have hb:b.toNat≤1:=by cases b<;>simp
 have h1':2 ^ k≤n:=h1
 have e1:2 ^ (k+1)=2 ^ k*2:=Nat.pow_succ ..
 have e2:2 ^ (k+1+1)=2 ^ (k+1)*2:=Nat.pow_succ ..
 exact Xvi (k:=k+1) (by omega) (by omega)
theorem Xle {n:Nat} (h:n≠0) (b:Bool):digs (2*n+b.toNat)=digs n++[b]:=by
 unfold digs;rw [Zmb h,Zdb]
theorem Xlc:digs 0=[]:=rfl
theorem Xld {n:Nat} (h:n≠0):digs n=digs (n/2)++[decide (n%2=1)]:=by
 have e:n=2*(n/2)+(decide (n%2=1)).toNat:=by
  by_cases q:n%2=1
  ·simp [q];omega
  ·simp [q];omega
 by_cases h0:n/2=0
 ·have:n=1:=by omega
  subst this
  decide
 ·conv=>lhs;rw [e]
  exact Xle h0 _
noncomputable def rd (a:Nat) (l:List Bool):Nat:=l.foldl (fun x b=>2*x+b.toNat) a
theorem Ycd (a:Nat):rd a []=a:=rfl
theorem Zri (a:Nat) (b:Bool) (l:List Bool):rd a (b::l)=rd (2*a+b.toNat) l:=rfl
theorem Xic (a:Nat) (l m:List Bool):rd a (l++m)=rd (rd a l) m:=by simp [rd,List.foldl_append]
theorem Xtd (a n w:Nat):rd a (bitsW n w)=a*2 ^ w+n%2 ^ w:=by
 induction w generalizing a with
 | zero=>simp [bitsW,rd,Nat.mod_one]
 | succ w ih =>
  rw [bitsW,Zri,ih]
  have h:n%2 ^ (w+1)=(n.testBit w).toNat*2 ^ w+n%2 ^ w:=by
   rw [Nat.pow_succ,Nat.mod_mul,Nat.testBit_eq_decide_div_mod_eq,Nat.add_comm,Nat.mul_comm]
   congr 1
   have:n/2 ^ w%2<2:=Nat.mod_lt _ (by decide)
   by_cases q:n/2 ^ w%2=1
   ·simp [q]
   ·have:n/2 ^ w%2=0:=by omega
    simp [this]
  rw [h,Nat.pow_succ,Nat.add_mul]
  have e:2*a*2 ^ w=a*(2 ^ w*2):=by rw [Nat.mul_comm 2 a,Nat.mul_assoc,Nat.mul_comm 2 (2 ^ w)]
  omega
theorem Xnj {n:Nat} (h:n≠0):rd 1 (bitsW n (blen n - 1))=n:=by
 rw [Xtd,Nat.one_mul]
 have h1:=Zih h
 have h2:=Wq n
 have h3:=Xx h
 have e:2 ^ blen n=2 ^ (blen n - 1)*2:=by rw [← Nat.pow_succ];congr 1;omega
 have:n%2 ^ (blen n - 1)=n - 2 ^ (blen n - 1):=by
  rw [Nat.mod_eq_sub_mod h1,Nat.mod_eq_of_lt (by omega)]
 omega
theorem Zqd {n:Nat} (h:n≠0):(digs n).tail=bitsW n (blen n - 1):=by
 unfold digs
 have:=Xx h
 obtain ⟨k,e⟩:∃ k,blen n=k+1:=⟨blen n - 1,by omega⟩
 rw [e];rfl
noncomputable def Sep (a b:List Bool):Prop:=∃ c x y,a=c++false::x∧b=c++true::y
theorem Sep.pre (p:List Bool) {a b:List Bool} (h:Sep a b):Sep (p++a) (p++b):=by
 obtain ⟨c,x,y,rfl,rfl⟩:=h
 exact ⟨p++c,x,y,by simp,by simp⟩
theorem Sep.post {a b:List Bool} (h:Sep a b) (u v:List Bool):Sep (a++u) (b++v):=by
 obtain ⟨c,x,y,rfl,rfl⟩:=h
 exact ⟨c,x++u,y++v,by simp,by simp⟩
theorem Sep.np {a b:List Bool} (h:Sep a b):¬a <+: b:=by
 obtain ⟨c,x,y,rfl,rfl⟩:=h
 rintro ⟨t,e⟩
 simp only [List.append_assoc] at e
 have:=List.append_cancel_left e
 simp at this
theorem Sep.np' {a b:List Bool} (h:Sep a b):¬b <+: a:=by
 obtain ⟨c,x,y,rfl,rfl⟩:=h
 rintro ⟨t,e⟩
 simp only [List.append_assoc] at e
 have:=List.append_cancel_left e
 simp at this
theorem Xne {n n' w:Nat} (h:n<n') (h':n'<2 ^ w):Sep (bitsW n w) (bitsW n' w):=by
 induction w generalizing n n' with
 | zero=>omega
 | succ w ih =>
  have e:n=2*(n/2)+(decide (n%2=1)).toNat:=by
   by_cases q:n%2=1
   ·simp [q];omega
   ·simp [q];omega
  have e':n'=2*(n'/2)+(decide (n'%2=1)).toNat:=by
   by_cases q:n'%2=1
   ·simp [q];omega
   ·simp [q];omega
  rw [e,e',Zdb,Zdb]
  rw [Nat.pow_succ] at h'
  by_cases q:n/2<n'/2
  ·exact (ih q (by omega)).post _ _
  ·have:n/2=n'/2:=by omega
   rw [this]
   have a:n%2=0:=by omega
   have b:n'%2=1:=by omega
   simp only [a,b]
   exact ⟨_,[],[],rfl,rfl⟩
theorem Xtb {i j:Nat} (h:i<j) (x y:List Bool):Sep (List.replicate i true++false::x) (List.replicate j true++y):=by
 refine ⟨List.replicate i true,x,List.replicate (j - i - 1) true++y,rfl,?_⟩
 have:j=i+(1+(j - i - 1)):=by omega
 conv=>lhs;rw [this]
 rw [← List.replicate_append_replicate,← List.replicate_append_replicate]
 simp
noncomputable def cend (e:Nat):List Bool:=if e=8 then [] else [false]
noncomputable def cnt (n:Nat):List Bool :=
 List.replicate (blen (blen (n+1)) - 1) true++(cend (blen (blen (n+1)))++(bitsW (blen (n+1)) (blen (blen (n+1)) - 1)++bitsW (n+1) (blen (n+1) - 1)))
theorem Xfe {n:Nat} (h:n≠0):n%2 ^ (blen n - 1)=n - 2 ^ (blen n - 1):=by
 have h1:=Zih h
 have h2:=Wq n
 have h3:=Xx h
 have e:2 ^ blen n=2 ^ (blen n - 1)*2:=by rw [← Nat.pow_succ];congr 1;omega
 rw [Nat.mod_eq_sub_mod h1,Nat.mod_eq_of_lt (by omega)]
theorem Zqh (n w:Nat):bitsW n w=bitsW (n%2 ^ w) w:=by
 have:∀ j,j≤w→bitsW n j=bitsW (n%2 ^ w) j:=by
  intro j hj
  induction j with
  | zero=>rfl
  | succ j ih =>
   rw [bitsW,bitsW,ih (by omega),Nat.testBit_mod_two_pow]
   simp [show j<w by omega]
 exact this w (Nat.le_refl _)
theorem Xeh {n n':Nat} (h0:n≠0) (h:n<n') (e:blen n=blen n'):Sep (bitsW n (blen n - 1)) (bitsW n' (blen n' - 1)):=by
 have h0':n'≠0:=by omega
 rw [Zqh n,Zqh n',Xfe h0,Xfe h0',← e]
 have h1:=Zih h0
 have h2:=Wq n'
 rw [← e] at h2
 have h3:=Xx h0
 have e2:2 ^ blen n=2 ^ (blen n - 1)*2:=by rw [← Nat.pow_succ];congr 1;omega
 exact Xne (by omega) (by omega)
theorem Xha {n n':Nat} (h:n<n') (h':n'+1<2 ^ 255):Sep (cnt n) (cnt n'):=by
 unfold cnt
 have hd:blen (n'+1)≤255:=Yf h'
 have hp:0<blen (n+1):=Xx (by omega)
 have hp':0<blen (n'+1):=Xx (by omega)
 have he:blen (blen (n'+1))≤8:=Yf (by omega)
 have m1:blen (n+1)≤blen (n'+1):=Zcd (by omega)
 have m2:blen (blen (n+1))≤blen (blen (n'+1)):=Zcd m1
 have hq:0<blen (blen (n+1)):=Xx (by omega)
 by_cases q:blen (blen (n+1))<blen (blen (n'+1))
 ·have c:cend (blen (blen (n+1)))=[false]:=by unfold cend;rw [if_neg (by omega)]
  rw [c]
  exact Xtb (by omega) _ _
 ·have q':blen (blen (n+1))=blen (blen (n'+1)):=by omega
  by_cases r:blen (n+1)<blen (n'+1)
  ·have s:=Xeh (by omega) r q'
   rw [← q'] at s ⊢
   exact ((s.post _ _).pre _).pre _
  ·have r':blen (n+1)=blen (n'+1):=by omega
   have s:=Xeh (n:=n+1) (n':=n'+1) (by omega) (by omega) r'
   rw [← r'] at s ⊢
   exact ((s.pre _).pre _).pre _
theorem Qw {n:Nat} (h:n+1<2 ^ 255):(cnt n).length≤blen (n+1)+14:=by
 unfold cnt
 have hd:blen (n+1)≤255:=Yf h
 have he:blen (blen (n+1))≤8:=Yf (by omega)
 have hq:0<blen (n+1):=Xx (by omega)
 simp only [List.length_append,List.length_replicate,Xd]
 have:(cend (blen (blen (n+1)))).length≤if blen (blen (n+1))=8 then 0 else 1:=by
  unfold cend;split<;>simp
 split at this<;>omega
end KM
namespace KM
structure CntAt (L:List Bool) (p n:Nat):Prop where
 ones:∀ j,j<blen (blen (n+1)) - 1→L.getD (p+j) false=true
 zero:blen (blen (n+1))<8→L.getD (p+(blen (blen (n+1)) - 1)) false=false
 size:(L.drop (p+(blen (blen (n+1)) - 1)+(cend (blen (blen (n+1)))).length)).take (blen (blen (n+1)) - 1)=bitsW (blen (n+1)) (blen (blen (n+1)) - 1)
 more:(L.drop (p+(blen (blen (n+1)) - 1)+(cend (blen (blen (n+1)))).length+(blen (blen (n+1)) - 1))).take (blen (n+1) - 1)=bitsW (n+1) (blen (n+1) - 1)
 fits:p+(cnt n).length≤L.length
theorem Zig (n:Nat):(cnt n).length=(blen (blen (n+1)) - 1)+(cend (blen (blen (n+1)))).length+(blen (blen (n+1)) - 1)+(blen (n+1) - 1):=by
 unfold cnt
 simp only [List.length_append,List.length_replicate,Xd]
 omega
theorem Yaf {L:List Bool} {p n:Nat} (h:cnt n <+: L.drop p) (hp:p≤L.length):CntAt L p n:=by
 obtain ⟨r,e⟩:=h
 have hl:=congrArg List.length e
 rw [List.length_append,List.length_drop] at hl
 have key:∀ j,j<(cnt n).length→L.getD (p+j) false=(cnt n).getD j false:=by
  intro j hj
  have:(L.drop p)[j]?=(cnt n)[j]?:=by rw [← e,List.getElem?_append_left hj]
  rw [List.getElem?_drop] at this
  rw [List.getD_eq_getElem?_getD,List.getD_eq_getElem?_getD,this]
 have cl:=Zig n
 refine ⟨fun j hj=>?_,fun h8=>?_,?_,?_,by omega⟩
 ·rw [key j (by omega)]
  unfold cnt
  rw [List.getD_eq_getElem?_getD,List.getElem?_append_left (by simpa using hj),List.getElem?_replicate,if_pos hj];rfl
 ·have c1:(cend (blen (blen (n+1))))=[false]:=by unfold cend;rw [if_neg (by omega)]
  rw [key _ (by rw [cl,c1];simp only [List.length_cons,List.length_nil];omega)]
  unfold cnt
  rw [c1,List.getD_eq_getElem?_getD,List.getElem?_append_right (by simp)]
  simp
 ·have:L.drop (p+(blen (blen (n+1)) - 1)+(cend (blen (blen (n+1)))).length)=bitsW (blen (n+1)) (blen (blen (n+1)) - 1)++bitsW (n+1) (blen (n+1) - 1)++r:=by
   rw [Nat.add_assoc,← List.drop_drop,← e]
   unfold cnt
   rw [← List.append_assoc,← List.append_assoc,List.append_assoc (List.replicate _ _++_),List.append_assoc (List.replicate _ _++_)]
   have:(blen (blen (n+1)) - 1)+(cend (blen (blen (n+1)))).length=(List.replicate (blen (blen (n+1)) - 1) true++cend (blen (blen (n+1)))).length:=by simp
   rw [this,List.drop_left]
  rw [this,List.append_assoc,List.take_left' (Xd _ _)]
 ·have:L.drop (p+(blen (blen (n+1)) - 1)+(cend (blen (blen (n+1)))).length+(blen (blen (n+1)) - 1))=bitsW (n+1) (blen (n+1) - 1)++r:=by
   rw [Nat.add_assoc,Nat.add_assoc,← List.drop_drop,← e]
   unfold cnt
   have e2:(List.replicate (blen (blen (n+1)) - 1) true++(cend (blen (blen (n+1)))++(bitsW (blen (n+1)) (blen (blen (n+1)) - 1)++bitsW (n+1) (blen (n+1) - 1))))++r=(List.replicate (blen (blen (n+1)) - 1) true++cend (blen (blen (n+1)))++bitsW (blen (n+1)) (blen (blen (n+1)) - 1))++(bitsW (n+1) (blen (n+1) - 1)++r):=by simp
   rw [e2]
   have:(blen (blen (n+1)) - 1)+((cend (blen (blen (n+1)))).length+(blen (blen (n+1)) - 1))=(List.replicate (blen (blen (n+1)) - 1) true++cend (blen (blen (n+1)))++bitsW (blen (n+1)) (blen (blen (n+1)) - 1)).length:=by simp [Xd,Nat.add_assoc]
   rw [this,List.drop_left]
  rw [this,List.take_left' (Xd _ _)]
end KM
end
section
namespace KM
open PySem L2
noncomputable def bc (b:Bool):Nat:=if b then 49 else 48
noncomputable def rowS (l:List Bool):Str:=⟨(l.map bc).toArray⟩
theorem Zic {a b:Str} (h:a.cps.toList=b.cps.toList):a=b:=by
 obtain ⟨x⟩:=a;obtain ⟨y⟩:=b
 exact congrArg Str.mk (Array.ext' h)
theorem Xi (l:List Bool):(rowS l).cps.toList=l.map bc:=by simp [rowS]
theorem Zb (l:List Bool):(rowS l).length=l.length:=by simp [rowS,Str.length]
theorem Yai {a b:Bool} (h:bc a=bc b):a=b:=by cases a<;>cases b<;>first | rfl | (revert h;decide)
theorem Qh {a b:List Bool} (h:rowS a=rowS b):a=b:=by
 have:=congrArg (fun x:Str=>x.cps.toList) h
 simp only [Xi] at this
 exact List.map_inj_right (fun _ _=>Yai) |>.mp this
theorem Zl (a b:List Bool):rowS a++rowS b=rowS (a++b):=by
 apply Zic
 show ((rowS a).cps++(rowS b).cps).toList=_
 rw [Array.toList_append,Xi,Xi,Xi,List.map_append]
theorem s1:(Str.ofString "1")=rowS [true]:=by decide +kernel
theorem s0:(Str.ofString "0")=rowS [false]:=by decide +kernel
theorem sE:(Str.ofString "")=rowS []:=by decide +kernel
theorem Zdi (a b:List Bool):decide (V.str (rowS a)=V.str (rowS b))=decide (a=b):=by
 by_cases h:a=b
 ·subst h;simp
 ·have:¬V.str (rowS a)=V.str (rowS b):=fun q=>h (Qh (V.str.inj q))
  rw [decide_eq_false h,decide_eq_false this]
theorem Ztc:∀ ys:List Str,(Txt.join (Str.ofString "") ys).cps.toList=(ys.map (·.cps.toList)).flatten:=by
 have e:(Str.ofString "").cps=#[]:=by decide +kernel
 have key:∀ (ys:List Str) (acc:Array Nat),(ys.foldl (fun acc p=>acc++(Str.ofString "").cps++p.cps) acc).toList=acc.toList++(ys.map (·.cps.toList)).flatten:=by
  intro ys
  induction ys with
  | nil=>intro acc;simp
  | cons y r ih=>intro acc;rw [List.foldl_cons,ih,e];simp
 intro ys
 cases ys with
 | nil=>rfl
 | cons y r =>
  show ((r.foldl (fun acc p=>acc++(Str.ofString "").cps++p.cps) y.cps)).toList=_
  rw [key];simp
theorem Qj (ls:List (List Bool)):Txt.join (Str.ofString "") (ls.map rowS)=rowS ls.flatten:=by
 apply Zic
 rw [Ztc,Xi,List.map_map,List.map_flatten]
 exact congrArg List.flatten (List.map_congr_left fun l _=>Xi l)
theorem Xki (l:List Bool):(l.map fun b=>[b]).flatten=l:=by
 induction l with
 | nil=>rfl
 | cons b r ih=>rw [List.map_cons,List.flatten_cons,ih];rfl
theorem Xkd (l:List Bool):Txt.join (Str.ofString "") (l.map fun b=>rowS [b])=rowS l:=by
 have:=Qj (l.map fun b=>[b])
 rw [List.map_map] at this
 rw [show (fun b=>rowS [b])=rowS ∘ (fun b=>[b]) from rfl,this]
 exact congrArg rowS (Xki l)
theorem Qs (b:Bool) (n:Int):Txt.mul (rowS [b]) n=rowS (List.replicate n.toNat b):=by
 unfold Txt.mul
 by_cases h:n<1
 ·rw [if_pos h,show n.toNat=0 by omega];rfl
 ·rw [if_neg h]
  by_cases h1:n=1
  ·subst h1;rfl
  ·have:(n == 1||(rowS [b]).length == 0)=false:=by simp [Zb,h1]
   rw [this,if_neg (by decide)]
   apply Zic
   have key:∀ (k:Nat) (acc:Array Nat),((List.replicate k (rowS [b]).cps).foldl (· ++ ·) acc).toList=acc.toList++(List.replicate k b).map bc:=by
    intro k
    induction k with
    | zero=>intro acc;simp
    | succ k ih=>intro acc;rw [List.replicate_succ,List.foldl_cons,ih,List.replicate_succ];simp [rowS]
   rw [Xi]
   simpa using key n.toNat #[]
theorem sliceIx (lo hi:Option Int) (n:Nat):Builtin.Str.strSliceIndices lo hi 1 n=(List.range (HT.sIx n n hi - HT.sIx n 0 lo)).map (HT.sIx n 0 lo+·):=by
 unfold Builtin.Str.strSliceIndices
 rw [← sliceRange_one]
 simp only [show ((1:Int) > 0)=True from eq_true (by decide),if_true]
 congr 1
 ·cases lo with
  | none=>rfl
  | some i =>
   simp only [HT.sIx]
   by_cases h:i<0
   ·simp only [h,if_true];omega
   ·simp only [h,if_false];omega
 ·cases hi with
  | none=>rfl
  | some i =>
   simp only [HT.sIx]
   by_cases h:i<0
   ·simp only [h,if_true];omega
   ·simp only [h,if_false];omega
theorem Xhg (x:Str) (lo hi:Option Int):(Txt.slice x lo hi).cps.toList=(x.cps.toList.drop (HT.sIx x.length 0 lo)).take (HT.sIx x.length x.length hi - HT.sIx x.length 0 lo):=by
 have hl:x.cps.toList.length=x.length:=by simp [Str.length]
 have h1:=HT.sIx_le x.length x.length (Nat.le_refl _) hi
 have h2:=HT.sIx_le x.length 0 (Nat.zero_le _) lo
 unfold Txt.slice
 rw [sliceIx]
 split
 ·rename_i c
  simp only [List.length_map,List.length_range,Bool.and_eq_true,beq_iff_eq] at c
  have a0:HT.sIx x.length 0 lo=0∨x.length=0:=by omega
  rcases a0 with a0 | a0
  ·rw [a0,List.drop_zero,List.take_of_length_le (by omega)]
  ·have:x.cps.toList=[]:=List.length_eq_zero_iff.mp (by omega)
   rw [this];simp
 ·rw [pick_run]
theorem Wl (l:List Bool) (lo hi:Option Int):Txt.slice (rowS l) lo hi=rowS ((l.drop (HT.sIx l.length 0 lo)).take (HT.sIx l.length l.length hi - HT.sIx l.length 0 lo)):=by
 apply Zic
 rw [Xhg,Xi,Xi,Zb,List.map_take,List.map_drop]
theorem Zjc (l:List Bool):Txt.slice (rowS l) (some 1) none=rowS l.tail:=by
 rw [Wl]
 congr 1
 show (l.drop (min 1 l.length)).take (l.length - min 1 l.length)=l.tail
 cases l with
 | nil=>rfl
 | cons b r=>simp
theorem Zaa {l:List Bool} {i:Nat} {b:Bool} (h:l[i]?=some b):(rowS l).cps.toList[i]?=some (bc b):=by rw [Xi,List.getElem?_map,h];rfl
theorem Wr (b:Bool):(⟨#[bc b]⟩:Str)=rowS [b]:=rfl
theorem Xnd (b:Bool):PySem.intText? (rowS [b])=some (b.toNat:Int):=by cases b<;>decide +kernel
theorem Zub (n:Nat):Builtin.Int.intBits ((n:Nat):Int)=blen n:=by
 unfold Builtin.Int.intBits blen
 by_cases h:n=0
 ·subst h;rfl
 ·have:(((n:Nat):Int) == 0)=false:=by simpa using h
  rw [this,if_neg (by decide),if_neg h]
  simp
end KM
namespace KM
open PySem L2
end KM
end
section
namespace L2
open PySem PySem.Spec PyProof.Rows
section
variable {X:Cx}
noncomputable def oAdd:=OpR.or (Xyh (X:=X)) Xca
theorem oSub:OpR X (binaryOp .Sub) (rI0 fun i j => .int (i - j)):=Xyb
noncomputable def oMul:=OpR.or (Xye (X:=X)) Xbj
noncomputable def oLt:=OpR.or (Ybe (X:=X)) Xjc
noncomputable def iAll:=IxR.or (IxR.or (Xuj (X:=X)) Xzf) Xzg
noncomputable def slAll:=SlR.or (Xsi (X:=X)) Xxe
theorem PI.or {tg it:Expr} {wi wi':TI} (h:PI X tg it wi) (h':PI X tg it wi'):PI X tg it (fun σ H R=>wi σ H R∨wi' σ H R):=fun pins s σ H R I q=>q.elim (h pins s σ H R I) (h' pins s σ H R I)
theorem piAll {tg l:Expr} {tl:TE} (hl:PE X l tl):PI X tg l (fun σ H R=>iList X.K tl σ H R∨iStr tl σ H R):=(Xti hl).or (Xxj hl)
end
noncomputable def FunAt (K:PySem.W.Frag) (mg:Str→Option Value) (x:Str) (st:Stmt) (ps:List Str) (f:Addr) (fd:FuncData):Prop:=Fun K x x st f fd∧Binds K fd ps []∧mg x=some (.ref f)
noncomputable def DefOk (P:Program) (w:World) (K:PySem.W.Frag) (mg:Str→Option Value) (base:Heap) (k:Nat) (x:Str) (ps:List Str) (sp:Sp):Prop :=
 ∃ f fd,FnOk P w K mg base CX0 k f fd ps sp∧Binds K fd ps []∧PySem.W.keepIn K (.ref f)=true∧mg x=some (.ref f)
noncomputable def MethOk (P:Program) (w:World) (K:PySem.W.Frag) (mg:Str→Option Value) (base:Heap) (k:Nat) (C:Addr) (m:Str) (ps:List Str) (sp:Sp):Prop :=
 ∃ f fd,FnOk P w K mg base CX0 k f fd ps sp∧Binds K fd ps []∧Meth K C m f
noncomputable def MakeOk (P:Program) (w:World) (K:PySem.W.Frag) (mg:Str→Option Value) (base:Heap) (k:Nat) (x:Str) (C:Addr) (ps:List Str) (sp:Sp):Prop :=
 ∃ f fd,Mk K C f∧FnOk P w K mg base CX0 k f fd ps sp∧Binds K fd ps []∧mg x=some (.ref C)
noncomputable def GlobV (mg:Str→Option Value) (x:Str) (v:V):Prop:=∃ u,mg x=some u∧RelV v u
section
variable {X:Cx} {k k':Nat} {x m:Str} {C:Addr} {ps:List Str} {sp:Sp} {e o:Expr} {es:List Expr} {t:TA} {ta:TE} {p pos apos:Pos} {v:V}
theorem Ye (h:GlobV X.mg x v) (hg:Gl X x:=by rfl) (hd:(x == ("__debug__":Str))=false:=by decide +kernel):PE X (.Name x p) (tC v):=by
 obtain ⟨u,h1,h2⟩:=h
 exact Xub hg h1 h2 hd
theorem Zk (h:DefOk X.prog X.w X.K X.mg X.base k x ps sp) (hr:Room k' X.A) (ha:PA X (e::es) t) (hk:k≤k':=by decide) (hg:Gl X x:=by rfl) (hdb:(x == ("__debug__":Str))=false:=by decide +kernel)
  (he:starEach (e::es) X.env=(false,eval e X.env)::starEach es X.env:=by rfl) (hpl:(backTo pos (starEach es X.env)).any (·.1)=false:=by rfl):PE X (.Call (.Name x p) (e::es) [] pos) (tCall sp [] E0 t):=by
 obtain ⟨f,fd,F,hb,kp,hm⟩:=h
 exact Xud F (hr.mono hk) hg hm kp hb .nil pass0 ha hdb he hpl
theorem Zpg {pl:Sem Bool} (h:MethOk X.prog X.w X.K X.mg X.base k C m ps sp) (c:Cls X.K C) (hr:Room k' X.A) (he:PE X o ta) (hk:k≤k':=by decide)
  (ht:eval (.Call (.Attribute o m apos) [] [] pos) X.env=(do
   let ov ← eval o X.env
   standAt apos.atName
   let (f,first) ← holding [ov] (getMethod ov m pl)
   callWith pos f first (backTo pos (starEach [] X.env)) (backToKw pos (keywordEach [] X.env))):=by rfl) :
  PE X (.Call (.Attribute o m apos) [] [] pos) (tMeth C m sp [] E0 ta tNil):=by
 obtain ⟨f,fd,F,hb,hm⟩:=h
 exact Xog he c hm F (hr.mono hk) hb .nil pass0 ht
theorem Zwg (h:MakeOk X.prog X.w X.K X.mg X.base k x C ps sp) (hr:Room k' X.A) (ha:PA X (e::es) t) (hk:k+1≤k':=by decide) (hg:Gl X x:=by rfl) (hdb:(x == ("__debug__":Str))=false:=by decide +kernel)
  (he:starEach (e::es) X.env=(false,eval e X.env)::starEach es X.env:=by rfl) (hpl:(backTo pos (starEach es X.env)).any (·.1)=false:=by rfl):PE X (.Call (.Name x p) (e::es) [] pos) (tMake C sp [] E0 t):=by
 obtain ⟨f,fd,M,F,hb,hm⟩:=h
 exact Xua M F (hr.mono hk) hg hm hb .nil pass0 ha hdb he hpl
end
theorem FunAt.ok {P:Program} {w:World} {K:PySem.W.Frag} {mg:Str→Option Value} {base:Heap} {x:Str} {st:Stmt} {f:Addr} {fd:FuncData} {N ps:List Str} {k:Nat} {sp:Sp} (F:FunAt K mg x st ps f fd) (S:FnScope N ps (defScope st)) (len:∀ vs H Q E,sp vs H Q E→vs.length=ps.length)
  (hbody:∀ (cdv:Value) (A:Around) (outer:List Env) (s:Shared) (H:Hp) (vs:List V) (Q:VK) (E:XK),Room k (A.deeper (envOfC x (defScope st) s.heap.objs.size f cdv))→sp vs H Q E→
   ∃ t,PSs (cxOf CX0 P w K mg base N x (defScope st) f cdv A outer s H E).nox (defBody st) t∧t {nx:=fun _ H'=>∃ H'',Sub H H'' H'∧Q .non H'',rt:=fun v H'=>∃ H'',Sub H H'' H'∧Q v H''} (start N vs) H):DefOk P w K mg base (k+1) x ps sp :=
 ⟨f,fd,F.1.okK S len hbody,F.2.1,F.1.kp,F.2.2⟩
end L2
namespace L2
open PySem PySem.Spec PyProof.Rows
section
variable {X:Cx} {e:Expr} {pos:Pos}
theorem oEq:OpR X (compareOp .Eq) rEq:=Ybi
theorem oNe:OpR X (compareOp .NotEq) rNe:=Ybd
theorem oLe:OpR X (compareOp .LtE) (rI0 fun i j => .bl (decide (i≤j))):=Ybf
theorem oGt:OpR X (compareOp .Gt) (rI0 fun i j => .bl (decide (j<i))):=Ybg
theorem oGe:OpR X (compareOp .GtE) (rI0 fun i j => .bl (decide (j≤i))):=Ybh
theorem CallR.or' {f:Value} {r r':List V→Hp→VK→Prop} (h:CallR X f r) (h':CallR X f r'):CallR X f (fun xs H Q=>r xs H Q∨r' xs H Q):=fun pins s σ H xs us Q I rv q=>q.elim (h pins s σ H xs us Q I rv) (h' pins s σ H xs us Q I rv)
noncomputable def Jr:=CallR.or' (Xlj (X:=X)) Zoa
end
end L2
namespace L2
open PySem
theorem Zgb:bootBuiltins "int"=some (.type "int"):=by decide +kernel
theorem Zy:bootBuiltins "len"=some (.builtin "len"):=by decide +kernel
theorem Xf:bootBuiltins "isinstance"=some (.builtin "isinstance"):=by decide +kernel
theorem Yag:bootBuiltins "min"=some (.builtin "min"):=by decide +kernel
theorem Xrh:bootBuiltins "max"=some (.builtin "max"):=by decide +kernel
theorem Zcc:bootBuiltins "sorted"=some (.builtin "sorted"):=by decide +kernel
theorem Yah:bootBuiltins "all"=some (.builtin "all"):=by decide +kernel
end L2
end
section
namespace L2
open PySem PySem.Spec PyProof.Rows KM
theorem Xh {H:Hp} {a:Addr} {o u:HO}:upd (upd H a o) a u=upd H a u:=by
 funext b
 unfold upd
 split<;>rfl
theorem Xrd {J:It} {g:TG} {te:TE} {Q:VK} {H:Hp} {D:Addr} {σ0:St} (n:Nat) (xs fe:Nat→V) (S:St→Prop) (hn:n≤sizeLine) (h0:S σ0)
  (hgo:∀ i H,i<n→J.go i H) (hstop:∀ H,J.stop n H) (hy:∀ i H x H',i<n→J.yld i H x H'→H'=H∧x=xs i)
  (ht:∀ i σ1 H1,i<n→S σ1→∀ R:St→V→Hp→Prop,(∀ σ2,S σ2→R σ2 (fe i) H1)→g (xs i) σ1 H1 fun σ2 H2=>te σ2 H2 fun y H3=>R σ2 y H3)
  (hq:Q (.ref D) (upd H D (.lst ((List.range n).map fe)))) :
  CompGo J g tYes te Q σ0 H D:=by
 refine ⟨fun i m σ1 H2=>i≤n∧m=n - i∧S σ1∧H2=upd H D (.lst ((List.range i).map fe)),⟨n,Nat.zero_le _,rfl,h0,rfl⟩,?_⟩
 rintro i m σ1 H2 ⟨h1,rfl,h2,rfl⟩
 rcases Nat.lt_or_ge i n with z | z
 ·refine .inr ⟨hgo i _ z,fun x H3 y=>?_⟩
  obtain ⟨rfl,rfl⟩:=hy i _ x H3 z y
  refine ht i σ1 _ z h2 (fun σ2 y H6=>∃ xs m',H6 D=some (.lst xs)∧xs.length<sizeLine∧m'<n - i∧(i+1≤n∧m'=n - (i+1)∧S σ2∧upd H6 D (.lst (xs++[y]))=upd H D (.lst ((List.range (i+1)).map fe)))) fun σ2 q3=>?_
  refine ⟨_,n - (i+1),Zc,?_,by omega,by omega,rfl,q3,?_⟩
  ·rw [List.length_map,List.length_range];omega
  ·rw [Xh,List.range_succ,List.map_append];rfl
 ·have e:i=n:=by omega
  subst e
  exact .inl ⟨hstop _,hq⟩
end L2
namespace L2
open PySem
theorem Qd {H:Hp} {a:Addr} {o:HO} (h:H a=some o):upd H a o=H:=by
 funext b
 unfold upd
 split
 ·rename_i e;rw [e,h]
 ·rfl
end L2
namespace KM
theorem Zyb (l:List Bool):l.map (xor false)=l:=by
 rw [show (xor false)=(id:Bool→Bool) from funext fun b=>by cases b<;>rfl,List.map_id]
end KM
namespace L2
open PySem
theorem Xph (K:PySem.W.Frag) (t:Value):PySem.W.kitOne K t t=some true:=by
 unfold PySem.W.kitOne;rw [beq_self_eq_true,if_pos rfl]
end L2
namespace KM
open PySem L2
theorem Xxc (m:Nat):atI [V.str (Str.ofString "0"),V.str (Str.ofString "1")] ((m:Int)%2)=some (.str (rowS [decide (m%2=1)])):=by
 have h:m%2=0∨m%2=1:=by omega
 rcases h with h | h
 ·have e:((m:Int)%2)=((0:Nat):Int):=by omega
  rw [e,h]
  exact Xe (by rw [s0];rfl)
 ·have e:((m:Int)%2)=((1:Nat):Int):=by omega
  rw [e,h]
  exact Xe (by rw [s1];rfl)
end KM
namespace KM
end KM
end
section
namespace L2
open PySem PySem.Spec PyProof.Rows
noncomputable def Fly (h:Heap) (e:Addr) (cls:Value) (d:Option Addr) (T:Addr) (fl:Value):Prop :=
 ∃ oe vs oT ts,h.get? e=some oe∧oe.cls=cls∧oe.dict=d∧oe.data = .fields vs∧vs[1]?=some (.ref T)∧T≠e∧h.get? T=some oT∧oT.data = .fields ts∧ts[3]?=some fl∧(d=none∨vs[2]?=some .none)
structure Stn (fs:List Addr) (e:Addr) (T:Option Addr) (h h':Heap):Prop where
 keep:∀ b o,b≠e→some b≠T→b∉fs→h.get? b=some o→h'.get? b=some o
 slot:∀ b o,b≠e→some b≠T→h.get? b=some o→∃ sl,h'.get? b=some {o with slots:=sl}
section
variable {M:Model} {A:Around} {E:Value→Shared→Prop} {s:Shared} {base:Heap} {env:Env} {outer:List Env} {L e T:Addr} {oe:Obj} {vs:Array Value} {head:Value} {hadNext:Bool} {Q:Unit→Shared→Prop} {cls:Value} {d:Option Addr} {fl:Value}
theorem Zah (o:Obj) (f):(o.mapFields f).dict=o.dict:=by
 obtain ⟨c,d,dt,sl⟩:=o;cases dt<;>rfl
theorem entryD (hfr:A.frames=some (env::outer)) (hl:s.heap.FunFrames base (env::outer)) (hf:env.frame=some L) (he:s.heap.get? e=some oe) (hd:oe.data = .fields vs) (hsz:1<vs.size) (hcx:oe.dict=none∨vs[2]?=some .none)
  (h:∀ h' T',Fly h' e oe.cls oe.dict T' (rawInt L)→s.heap.get? T'=none→h'.FunFrames base (env::outer)→Stn ((env::outer).filterMap (·.frame)) e none s.heap h'→Q () {s with heap:=h'}) :
  wpAny M A (do let a ← frameOf env;let pl ← entryPlaceOf L hadNext;let b ← EntryCells.newEntry head a .none (rawInt L) .none pl;setField (.ref e) 1 b) Q E s:=by
 have hene:e∉(env::outer).filterMap (·.frame):=fun hm=>by
  obtain ⟨_,o,ho,hnf⟩:=hl.mem hm
  rw [he] at ho;injection ho with ho;subst ho;exact hnf vs hd
 refine wpAny_bind (wpAny_frameOf_fun hfr hl hf fun h₁ hs₁=>?_)
 refine wpAny_bind (wpAny_entryPlaceOf fun pl hpl=>?_)
 unfold EntryCells.newEntry newFields
 refine wpAny_bind (wpAny_newObj_type ?_ (hpl.sizeOk5 _ _ _ _ _))
 have he1:h₁.get? e=some oe:=(hs₁.2.1 e hene).trans he
 generalize hoT:({cls := .type "traceback",dict:=none,data := .fields ([head,.ref L,.none,rawInt L,.none]++(if pl.isEmpty then List.replicate 6 Value.none else pl)).toArray}:Obj)=oT
 have he2:=Heap.get?_push_of_some (h:=h₁) oT he1
 refine wpAny_setField he2 hd hsz ?_
 have hTe:h₁.objs.size≠e:=Nat.ne_of_gt (Heap.lt_size he1)
 have hd3:=Obj.data_mapFields hd (·.setIfInBounds 1 (Value.ref h₁.objs.size))
 have he3:=Heap.get?_update_self (Obj.mapFields (·.setIfInBounds 1 (Value.ref h₁.objs.size))) he2 (Obj.isFreed_of_fields hd3)
 have hT3:((h₁.push oT).update e (Obj.mapFields (·.setIfInBounds 1 (Value.ref h₁.objs.size)))).get? h₁.objs.size=some oT :=
  (Heap.get?_update_other _ _ (Ne.symm hTe)).trans (Heap.get?_push_size h₁ (by rw [← hoT];rfl))
 have keep:∀ b o,b≠e→h₁.get? b=some o→((h₁.push oT).update e (Obj.mapFields (·.setIfInBounds 1 (Value.ref h₁.objs.size)))).get? b=some o:=fun b o hbe hb=>by
  rw [Heap.get?_update_other _ _ (Ne.symm hbe)];exact Heap.get?_push_of_some _ hb
 have noRec:∀ b o,s.heap.get? b=some o→(∀ vs,o.data≠.fields vs)→b≠e:=fun b o hb hnf q=>by
  rw [q,he] at hb;injection hb with hb;subst hb;exact hnf vs hd
 refine h _ h₁.objs.size ⟨_,_,oT,_,he3,Obj.cls_mapFields _ _,Zah _ _,hd3,by simp [hsz],hTe,hT3,by rw [← hoT],?_,hcx.imp id fun z=>by rw [Array.getElem?_setIfInBounds_ne (by decide)];exact z⟩ ?_ (hl.of_keeps fun b o hb hnf=>?_) ⟨fun b o hbe _ hbf hb=>keep b o hbe ((hs₁.2.1 b hbf).trans hb),fun b o hbe _ hb=>?_⟩
 ·first | (simp;done) | (rcases hpl with rfl | ⟨_,_,_,_,_,_,_,rfl⟩<;>simp)
 ·exact Heap.get?_none_of_le (by rw [hs₁.1];exact Nat.le_refl _)
 ·obtain ⟨sl,hs⟩:=hs₁.2.2 b o hb
  exact ⟨_,keep b _ (noRec b o hb hnf) hs,rfl⟩
 ·obtain ⟨sl,hs⟩:=hs₁.2.2 b o hb
  exact ⟨sl,keep b _ hbe hs⟩
theorem landD (hl:s.heap.FunFrames base outer) (ht:Fly s.heap e cls d T fl)
  (h:∀ h',Fly h' e cls d T .none→h'.FunFrames base outer→(∀ b o,b≠T→s.heap.get? b=some o→h'.get? b=some o)→Q () {s with heap:=h'}):wpAny M A (setFlight (.ref e) none) Q E s:=by
 obtain ⟨oe,vs,oT,ts,he,hc,hdd,hd,h1,hTe,hT,hdT,h3,hcx⟩:=ht
 have hsz3:3<ts.size:=(Array.getElem?_eq_some_iff.mp h3).1
 unfold setFlight
 refine wpAny_bind (wpAny_field he hd h1 ?_)
 rw [if_pos (show (Value.ref T != Value.none)=true from by simp)]
 have other:∀ b,b≠T→(s.heap.update T (Obj.mapFields (·.setIfInBounds 3 ((none:Option Addr).elim Value.none fun f=>rawInt f)))).get? b=s.heap.get? b:=fun b hb=>Heap.get?_update_other _ _ (Ne.symm hb)
 have noRec:∀ b o,s.heap.get? b=some o→(∀ vs,o.data≠.fields vs)→b≠T:=fun b o hb hnf q=>by
  rw [q,hT] at hb;injection hb with hb;subst hb;exact hnf ts hdT
 refine wpAny_setField hT hdT hsz3 (h _ ⟨oe,vs,_,_,(other e (Ne.symm hTe)).trans he,hc,hdd,hd,h1,hTe,Heap.get?_update_self _ hT (Obj.isFreed_of_fields (Obj.data_mapFields hdT _)),Obj.data_mapFields hdT _,by simp [hsz3],hcx⟩
  (hl.of_keeps fun b o hb hnf=>⟨o,(other b (noRec b o hb hnf)).trans hb,rfl⟩) fun b o hb q=>(other b hb).trans q)
theorem noteD (hfr:A.frames=some (env::outer)) (hl:s.heap.FunFrames base (env::outer)) (hf:env.frame=some L) (ht:Fly s.heap e cls d T .none)
  (h:∀ h' T',Fly h' e cls d T' (rawInt L)→s.heap.get? T'=none→h'.FunFrames base (env::outer)→Stn ((env::outer).filterMap (·.frame)) e (some T) s.heap h'→Q () {s with heap:=h'}):wpAny M A (noteFrame (.ref e) env) Q E s:=by
 obtain ⟨oe,vs,oT,ts,he,hc,hdd,hd,h1,hTe,hT,hdT,h3,hcx⟩:=ht
 unfold noteFrame
 simp only [hf]
 refine wpAny_bind (wpAny_field he hd h1 ?_)
 rw [if_pos (show (Value.ref T != Value.none)=true from by simp)]
 refine wpAny_bind (wpAny_field hT hdT h3 ?_)
 rw [if_neg (show ¬((Value.none == rawInt L)=true) from by simp [rawInt])]
 refine wpAny_bind (wpAny_setField hT hdT (Array.getElem?_eq_some_iff.mp h3).1 ?_)
 have other:∀ b,b≠T→(s.heap.update T (Obj.mapFields (·.setIfInBounds 3 Value.none))).get? b=s.heap.get? b:=fun b hb=>Heap.get?_update_other _ _ (Ne.symm hb)
 have noRec:∀ b o,s.heap.get? b=some o→(∀ vs,o.data≠.fields vs)→b≠T:=fun b o hb hnf q=>by
  rw [q,hT] at hb;injection hb with hb;subst hb;exact hnf ts hdT
 have back:∀ b,(s.heap.update T (Obj.mapFields (·.setIfInBounds 3 Value.none))).get? b=none→s.heap.get? b=none:=fun b hb=>by
  by_cases z:b=T
  ·subst z
   rw [Heap.get?_update_self _ hT (Obj.isFreed_of_fields (Obj.data_mapFields hdT _))] at hb;cases hb
  ·rw [other b z] at hb;exact hb
 subst hc hdd
 refine entryD (s:={s with heap:=s.heap.update T (Obj.mapFields (·.setIfInBounds 3 Value.none))}) hfr (hl.of_keeps fun b o hb hnf=>⟨o,(other b (noRec b o hb hnf)).trans hb,rfl⟩) hf ((other e (Ne.symm hTe)).trans he) hd (Array.getElem?_eq_some_iff.mp h1).1 hcx fun h' T' x1 x2 x3 x4=>?_
 exact h h' T' x1 (back _ x2) x3 ⟨fun b o h1 h2 h3 h4=>x4.keep b o h1 (by simp) h3 ((other b (fun z=>h2 (by rw [z]))).trans h4),fun b o h1 h2 h4=>x4.slot b o h1 (by simp) ((other b (fun z=>h2 (by rw [z]))).trans h4)⟩
theorem Zyg (hfr:A.frames=some (env::outer)) (hl:s.heap.FunFrames base (env::outer)) (hf:env.frame=some L) (ht:Fly s.heap e cls d T .none)
  (h:∀ h' T',Fly h' e cls d T' .none→s.heap.get? T'=none→Stn ((env::outer).filterMap (·.frame)) e (some T) s.heap h'→Q () {s with heap:=h'}):wpAny M A (leaving env (.ref e)) Q E s:=by
 unfold leaving
 refine wpAny_bind (noteD hfr hl hf ht fun h1 T' x1 x2 x3 x4=>?_)
 refine landD x3 x1 fun h2 y1 _ y3=>h h2 T' y1 x2 ⟨fun b o h1 h2 h3 h4=>y3 b o (fun z=>by rw [z,x2] at h4;cases h4) (x4.keep b o h1 h2 h3 h4),fun b o h1 h2 h4=>?_⟩
 obtain ⟨sl,e⟩:=x4.slot b o h1 h2 h4
 exact ⟨sl,y3 b _ (fun z=>by rw [z,x2] at h4;cases h4) e⟩
theorem Ztb (hfr:A.frames=some (env::outer)) (hl:s.heap.FunFrames base (env::outer)) (hf:env.frame=some L) (he:s.heap.get? e=some oe) (hd:oe.data = .fields vs) (h1:vs[1]?=some .none) (hcx:oe.dict=none∨vs[2]?=some .none)
  (h:∀ h' T',Fly h' e oe.cls oe.dict T' .none→s.heap.get? T'=none→Stn ((env::outer).filterMap (·.frame)) e none s.heap h'→Q () {s with heap:=h'}):wpAny M A (leaving env (.ref e)) Q E s:=by
 unfold leaving noteFrame
 simp only [hf]
 refine wpAny_bind (wpAny_bind (wpAny_field he hd h1 ?_))
 rw [if_neg (by decide)]
 refine entryD hfr hl hf he hd (Array.getElem?_eq_some_iff.mp h1).1 hcx fun h1 T' x1 x2 x3 x4=>?_
 refine landD x3 x1 fun h2 y1 _ y3=>h h2 T' y1 x2 ⟨fun b o h1 h2 h3 h4=>y3 b o (fun z=>by rw [z,x2] at h4;cases h4) (x4.keep b o h1 h2 h3 h4),fun b o h1 h2 h4=>?_⟩
 obtain ⟨sl,e⟩:=x4.slot b o h1 h2 h4
 exact ⟨sl,y3 b _ (fun z=>by rw [z,x2] at h4;cases h4) e⟩
end
end L2
end
section
namespace L2
open PySem PySem.Spec PyProof.Rows
noncomputable def CXe (P:Program) (w:World):CXT:=fun outer H s E e s'=>∃ a C d H' T,e = .ref a∧s'.os=s.os∧AllBare s'.gens∧Un (frs outer) [] H H' s.heap s'.heap∧HOk P w H' s'.heap∧
 Fly s'.heap a (.ref C) d T .none∧H' a=none∧H' T=none∧s.heap.get? a=none∧s.heap.get? T=none∧E (.ref C) d H'
theorem HOk.there {P:Program} {w:World} {H:Hp} {h:Heap} (ok:HOk P w H h) {a:Addr} {o:HO} (e:H a=some o):∃ u,h.get? a=some u:=by
 have x:=ok a o e
 cases o with
 | lst xs=>obtain ⟨_,_,_,_,e⟩:=x;exact ⟨_,e⟩
 | tup xs=>obtain ⟨_,_,_,p⟩:=x;obtain ⟨o,e,_⟩:=p;exact ⟨_,e⟩
 | dK kvs=>obtain ⟨_,_,_,_,o,_,_,e,_⟩:=x;exact ⟨_,e⟩
 | dT kvs=>exact (show False from x).elim
 | set S n=>obtain ⟨o,_,_,_,e,_⟩:=x;exact ⟨_,e⟩
 | ins C dx fs=>obtain ⟨_,_,_,e,_⟩:=x;exact ⟨_,e⟩
 | own y=>exact x
 | xd fs=>obtain ⟨_,⟨_,_,_,e,_⟩,_⟩:=x;exact ⟨_,e⟩
 | rng lo hi=>obtain ⟨_,_,_,e⟩:=x;exact ⟨_,e⟩
 | frz ob u=>obtain ⟨e,_⟩:=x;exact ⟨_,e⟩
 | tbl ps=>exact ⟨_,x⟩
 | met f y=>exact ⟨_,x⟩
 | ext φ=>exact x.2.1
theorem HOk.none {P:Program} {w:World} {H:Hp} {h:Heap} (ok:HOk P w H h) {a:Addr} (e:h.get? a=none):H a=none:=by
 cases q:H a with
 | none=>rfl
 | some o=>obtain ⟨u,z⟩:=ok.there q;rw [e] at z;cases z
section
variable {P:Program} {w:World} {K:PySem.W.Frag} {mg:Str→Option Value} {base:Heap} {N:List Str} {qual:Str} {scope:Scope} {f:Addr} {cdv:Value} {A:Around} {outer:List Env} {s:Shared} {H:Hp} {E:XK}
theorem Xag {X:Cx} {pins:List (Addr×Obj)} {σ:St} {H1:Hp} {s1:Shared} {h':Heap} {a:Addr} {T:Option Addr} (I:Inv X pins σ H1 s1) (hx:X.ex=[]) (hs:X.stack=X.env::X.outer) (S:Stn (frs X.stack) a T s1.heap h')
  (na:X.s₀.heap.get? a=none) (nT:∀ t,T=some t→X.s₀.heap.get? t=none) (fa:H1 a=none) (fT:∀ t,T=some t→H1 t=none):Un (frs X.outer) [] X.H₀ H1 X.s₀.heap h'∧HOk X.prog X.w H1 h':=by
 have B:=I.base
 rw [hx] at B
 have nea:∀ b o,X.s₀.heap.get? b=some o→b≠a:=fun b o e z=>by rw [z,na] at e;cases e
 have neT:∀ b o,X.s₀.heap.get? b=some o→some b≠T:=fun b o e z=>by have:=nT b z.symm;rw [e] at this;cases this
 have neL:∀ b o,X.s₀.heap.get? b=some o→b≠X.env.locals:=fun b o e=>Nat.ne_of_lt (Nat.lt_of_lt_of_le (Heap.lt_size e) I.ok.above)
 refine ⟨⟨fun b o e n hb hx=>?_,fun b o e n hb hx=>?_,B.free,fun b o e hx=>?_,B.tups,B.frzs,B.tbls⟩,fun b u e=>(I.hok b u e).stay (fun c v hc q=>?_) (fun _ q=>q) fun _ _ q=>q⟩
 ·refine S.keep b o (nea b o e) (neT b o e) (fun z=>?_) (B.keep b o e n hb hx)
  exact (List.mem_cons.mp (I.stkSub b z)).elim (neL b o e) hb
 ·obtain ⟨sl,e1⟩:=B.slot b o e n hb hx
  obtain ⟨sl',e2⟩:=S.slot b _ (nea b o e) (neT b o e) e1
  exact ⟨sl',e2⟩
 ·obtain ⟨o',e1⟩:=B.there b o e hx
  obtain ⟨sl',e2⟩:=S.slot b _ (nea b o e) (neT b o e) e1
  exact ⟨_,e2⟩
 ·have hcn:∃ z,H1 c=some z:=by
   rcases hc with rfl | hc
   ·exact ⟨_,e⟩
   ·exact ⟨_,hc⟩
  obtain ⟨z,hz⟩:=hcn
  refine S.keep c v (fun y=>?_) (fun y=>?_) (fun y=>?_) q
  ·rw [y,fa] at hz;cases hz
  ·rw [fT c y.symm] at hz;cases hz
  ·rw [I.stkFree c y] at hz;cases hz
end
section
variable {P:Program} {w:World} {K:PySem.W.Frag} {mg:Str→Option Value} {base:Heap} {N:List Str} {qual:Str} {scope:Scope} {f:Addr} {cdv:Value} {A:Around} {outer:List Env} {s:Shared} {H:Hp} {E:XK}
noncomputable def Throws (X:Cx) (E:XK):Prop:=∀ (pins:List (Addr×Obj)) (σ:St) (H1:Hp) (s1:Shared) (a C:Addr) (oe:Obj) (vs:Array Value),Inv X pins σ H1 s1→s1.heap.get? a=some oe→oe.cls = .ref C→oe.data = .fields vs→vs[1]?=some .none→(oe.dict=none∨vs[2]?=some .none)→
 H1 a=none→X.s₀.heap.get? a=none→E (.ref C) oe.dict H1→X.xe (.ref a) s1
theorem Qe:Throws (cxOf (CXe P w) P w K mg base N qual scope f cdv A outer s H E) E:=by
 intro pins σ H1 s1 a C oe vs I he hc hd h1 hcx fa na q
 refine Ztb (base:=base) I.ok.frames I.stack rfl he hd h1 hcx fun h' T' x1 x2 x3=>?_
 have fT:=I.hok.none x2
 obtain ⟨u,hk⟩:=Xag (T:=none) I rfl rfl x3 na (fun t z=>by cases z) fa (fun t z=>by cases z)
 refine ⟨a,C,oe.dict,H1,T',rfl,I.os,I.bare,u,hk,hc ▸ x1,fa,fT,na,?_,q⟩
 cases z:s.heap.get? T' with
 | none=>rfl
 | some o =>
  obtain ⟨o',e⟩:=I.base.there T' o z (show T'∉([]:List Addr) by simp)
  rw [x2] at e;cases e
theorem passes_fn:Passes (CXe P w) (cxOf (CXe P w) P w K mg base N qual scope f cdv A outer s H E) E:=by
 intro pins σ H1 s1 e s2 I h
 obtain ⟨a,C,d,H2,T,rfl,os,bare,un,hok,fly,fa,fT,na,nT,q⟩:=h
 have I2:Inv (cxOf (CXe P w) P w K mg base N qual scope f cdv A outer s H E) pins σ H2 s2:=I.call' (ch:=[]) os un hok bare (fun b z=>absurd z (by simp))
 have old:∀ b,s1.heap.get? b=none→s.heap.get? b=none:=fun b hb=>by
  cases z:s.heap.get? b with
  | none=>rfl
  | some o =>
   obtain ⟨o',e⟩:=I.base.there b o z (show b∉([]:List Addr) by simp)
   rw [hb] at e;cases e
 refine Zyg (base:=base) I2.ok.frames I2.stack rfl fly fun h' T' x1 x2 x3=>?_
 obtain ⟨u,hk⟩:=Xag (T:=some T) I2 rfl rfl x3 (old a na) (fun t z=>by cases z;exact old T nT) fa (fun t z=>by cases z;exact fT)
 refine ⟨a,C,d,H2,T',rfl,I2.os,I2.bare,u,hk,x1,fa,I2.hok.none x2,old a na,?_,q⟩
 cases z:s.heap.get? T' with
 | none=>rfl
 | some o =>
  obtain ⟨o',e⟩:=I2.base.there T' o z (show T'∉([]:List Addr) by simp)
  rw [x2] at e;cases e
end
end L2
end
section
namespace L2
open PySem PySem.W PySem.Spec PyProof.Rows
structure ExcC (K:Frag) (C:Addr):Prop where
 ga:findIn K (.ref C) "__getattribute__"=some (some (.builtin "BaseException.__getattribute__"))
 gt:findIn K (.ref C) "__getattr__"=some none
 cl:findIn K (.ref C) "__class__"=some (some (.builtin "object.__class__"))
 ob:mroIn K C (.type "object")=some true
 be:mroIn K C (.type "BaseException")=some true
 is:isClsIn K C=true
 hn:specialIn K (.builtin "object.__class__") "__get__"=some (some (.builtin "getset_descriptor.__get__"))
 tk:takesIn K (.builtin "object.__class__")=some true
section
variable {K:Frag} {prog:Program} {w:World} {A:Around} {E:Value→Shared→Prop} {h:Heap} {g:Array GenState} {d:Drawn} {t:Nat} {os:OsState} {x C:Addr} {ox:Obj} {odo:Option Obj} {name:Str}
theorem Xqj {tk:Tok} {R:Result→Shared→Prop} (X:K.In h) (I:InstAt h x ox C odo) (c:ExcC K C)
  (hq:wpAny (model prog w) A.in1 (Builtin.«object.__getattribute__» ⟨[.ref x,.str name tk],[]⟩) (fun fin s'=>match fin with | .done (.ret v)=>R (.ok (.ret v)) s' | _=>False) (fun _ _=>False) ⟨h,g,d,t,os⟩) :
  codeAny (model prog w) A (.call (.builtin "BaseException.__getattribute__") ⟨[.ref x,.str name tk],[]⟩) R ⟨h,g,d,t,os⟩:=by
 have L0:=I.type (M:=model prog w)
 have L1:=looks_mroIn (M:=model prog w) X c.be
 refine codeAny_call_builtin F.attr_ValueError.ga.plain F.entry_bexc_ga (check_slot (i:="BaseException.__getattribute__") (owner:="BaseException") (n:="__getattribute__") (by decide +kernel) (by decide +kernel) (L0.andThen L1) (F.args_bexc_ga _ _) ?_)
 refine wpAny_mono hq (fun fin s' z=>?_) fun _ _ z=>False.elim z
 rcases fin with (_ | _ | _ | _) | _<;>first | exact z | exact z.elim
theorem Xzj {tk:Tok} {fill expr:Bool} {Q:Value→Shared→Prop} (X:K.In h) (I:InstAt h x ox C odo) (c:ExcC K C)
  (hq:∀ A:Around,wpAny (model prog w) A (Builtin.«object.__getattribute__» ⟨[.ref x,.str name tk],[]⟩) (fun fin s'=>match fin with | .done (.ret v)=>Q v s'∧handedIn v=true | _=>False) (fun _ _=>False) ⟨h,g,d,t,os⟩) :
  wpAny (model prog w) A (getAttrBy (.ref x) (.str name tk) fill expr) Q E ⟨h,g,d,t,os⟩:=by
 have L0:=I.type (M:=model prog w)
 have L1:=looks_findIn (M:=model prog w) X c.ga
 have L2:=looks_findIn (M:=model prog w) X c.gt
 have f3:=F.attr_ValueError.ga.bind (.ref x)
 have hx0:(expr&&onTheHeap (Value.builtin "BaseException.__getattribute__"))=false:=by cases expr<;>rfl
 have hx2:(Value.builtin "BaseException.__getattribute__" == Value.builtin "object.__getattribute__")=false:=by decide +kernel
 have hx1:(onTheHeap (Value.ref C)&&Value.builtin "BaseException.__getattribute__" == Value.builtin "object.__getattribute__")=false:=by rw [hx2];rfl
 unfold getAttrBy
 refine wpAny_holding (wpAny_bind (L0.at (wpAny_bind (L1.at ?_))))
 dsimp only
 rw [if_neg (by rw [hx1];decide)]
 have rest:∀ A:Around,codeAny (model prog w) A (.call (.builtin "BaseException.__getattribute__") ⟨[.ref x,.str name tk],[]⟩) (fun r s'=>match r with | .ok (.ret v)=>Q v s'∧handedIn v=true | _=>False) ⟨h,g,d,t,os⟩:=fun A=>Xqj X I c (wpAny_mono (hq A.in1) (fun fin s' z=>by rcases fin with (_ | _ | _ | _) | _<;>first | exact z | exact z.elim) fun _ _ z=>z.elim)
 repeat (any_goals (first | assumption | with_reducible refine L2.at ?_ | wp_step))
 refine codeAny_mono (rest A) fun r s' z=>?_
 cases r with
 | error e=>exact z.elim
 | ok fl=>cases fl with
  | ret v=>exact handed_on z.2 z.1
  | next=>exact z.elim
  | brk=>exact z.elim
  | cont=>exact z.elim
theorem Zhj {tk:Tok} {Q:Fin→Shared→Prop} (X:K.In h) (I:InstAt h x ox C odo) (c:ExcC K C) (hq:Q (.done (.ret (.ref C))) ⟨h,g,d,t,os⟩) :
  wpAny (model prog w) A (Builtin.«object.__getattribute__» ⟨[.ref x,.str "__class__" tk],[]⟩) Q E ⟨h,g,d,t,os⟩:=by
 have L0:=I.type (M:=model prog w)
 obtain ⟨cd,hc⟩:=Option.isSome_iff_exists.mp (show (clsIn K C).isSome=true from c.is)
 have hf:findObj K C odo "__class__"=some (.bind (.builtin "getset_descriptor.__get__") (.builtin "object.__class__")):=by
  unfold findObj
  rw [hc,Option.bind_some,c.cl,Option.bind_some]
  simp [c.hn,c.tk]
 have L1:=looks_find (M:=model prog w) X I hf
 repeat (any_goals (first | assumption | with_reducible refine L0.at ?_ | with_reducible refine L1.at ?_ | wp_step))
 refine class_get (s:=⟨h,g,d,t,os⟩) (ox:=ox) (od:=odo) X I c.ob ?_
 repeat (any_goals (first | assumption | wp_step))
theorem Xkj {Q:Option Value→Shared→Prop} {s:Shared} (X:K.In s.heap) (I:InstAt s.heap x ox C odo) (c:ExcC K C) (hq:Q (some (.ref C)) {s with toks:=s.toks+1}):wpAny (model prog w) A (getAttr? (.ref x) "__class__") Q E s:=by
 obtain ⟨h,g,d,t,os⟩:=s
 unfold getAttr? getAttrBy?
 refine wpAny_bind (wpAny_mkText (wpAny_bind (wpAny_attempt ?_)))
 exact Xzj X I c fun A=>Zhj X I c ⟨wpAny_pure hq,rfl⟩
theorem Zyj (c:ExcC K C):KitX K (.ref x) (.ref C) (fun h=>∃ ox odo,InstAt h x ox C odo) where
 ty:=fun _ _ _ ⟨_,_,I⟩=>I.type
 it:=fun _ _ X _=>by
  obtain ⟨cdD,hcD⟩:=Option.isSome_iff_exists.mp (show (clsIn K C).isSome=true from c.is)
  unfold clsIn at hcD
  split at hcD
  ·rename_i c' d' cd' sl' ho
   intro A' Q' E' s' k q
   unfold isType loadHead
   exact wpAny_bind (wpAny_loadPart (k _ _ (X _ _ ho)) (wpAny_pure q))
  ·cases hcD
 ne:=fun h tp dd its n sl X htp=>by
  obtain ⟨cdD,hcD⟩:=Option.isSome_iff_exists.mp (show (clsIn K C).isSome=true from c.is)
  refine Bool.eq_false_iff.mpr fun q=>?_
  have e:C=tp:=Value.ref.inj (beq_iff_eq.mp q)
  subst e
  unfold clsIn at hcD
  split at hcD
  ·rename_i c' d' cd' sl' ho
   have z:=(X _ _ ho).symm.trans htp
   cases z
  ·cases hcD
 ca:=fun X ⟨_,_,I⟩ k=>Xkj X I c k
end
end L2
end
section
namespace L2
open PySem PySem.W PySem.Spec PyProof.Rows
section
variable {P:Program} {w:World} {K:PySem.W.Frag} {mg:Str→Option Value} {base:Heap}
noncomputable def eSub (H:Hp) (E:XK):XK:=fun c d H'=>∃ H'',Sub H H'' H'∧E c d H''
theorem FnOk.keepE {k:Nat} {f:Addr} {fd:FuncData} {ps:List Str} {sp sp':Sp} (F:FnOk P w K mg base (CXe P w) k f fd ps sp)
  (h:∀ vs H Q E,sp' vs H Q E→sp vs H (fun v H'=>∃ H'',Sub H H'' H'∧Q v H'') (eSub H E)):FnOk P w K mg base (CXe P w) k f fd ps sp':=by
 refine ⟨fun vs H Q E q=>F.len vs H _ _ (h vs H Q E q),fun A outer s H args us vs Q E hr e0 hb r q=>codeAny_mono (F.run A outer s H args us vs _ _ hr e0 hb r (h vs H Q E q)) fun rs s' c=>?_⟩
 cases rs with
 | error e =>
  obtain ⟨a,C,d,H',T,rfl,os,bare,un,hok,fly,fa,fT,na,nT,H'',dd,q'⟩:=c
  have nn:∀ b,H' b=none→H'' b=none:=fun b hb=>by
   cases z:H'' b with
   | none=>rfl
   | some o=>have:=dd.le b o z;rw [hb] at this;cases this
  exact ⟨a,C,d,H'',T,rfl,os,bare,Un.sub (Un.refl (h:=s.heap)) un dd,hok.sub (dd.cl e0.hok.closed) dd.le,fly,nn a fa,nn T fT,na,nT,q'⟩
 | ok fl =>
  cases fl with
  | ret u =>
   obtain ⟨v,H',os,bare,un,hok,rv,H'',d,q'⟩:=c
   exact ⟨v,H'',os,bare,Un.sub (Un.refl (h:=s.heap)) un d,hok.sub (d.cl e0.hok.closed) d.le,rv,q'⟩
  | next=>exact c
  | brk=>exact c
  | cont=>exact c
theorem Fun.okE {x qual:Str} {st:Stmt} {f:Addr} {fd:FuncData} {N ps:List Str} {k:Nat} {sp:Sp} (F:Fun K x qual st f fd) (S:FnScope N ps (defScope st)) (len:∀ vs H Q E,sp vs H Q E→vs.length=ps.length)
  (hbody:∀ (cdv:Value) (A:Around) (outer:List Env) (s:Shared) (H:Hp) (vs:List V) (Q:VK) (E:XK),Room k (A.deeper (envOfC qual (defScope st) s.heap.objs.size f cdv))→sp vs H Q E→
   ∃ t,PSs (cxOf (CXe P w) P w K mg base N qual (defScope st) f cdv A outer s H (eSub H E)) (defBody st) t∧t {nx:=fun _ H'=>∃ H'',Sub H H'' H'∧Q .non H'',rt:=fun v H'=>∃ H'',Sub H H'' H'∧Q v H''} (start N vs) H):FnOk P w K mg base (CXe P w) (k+1) f fd ps sp:=by
 refine FnOk.keepE (sp:=fun vs H Q E=>∃ Q' E',Q=(fun v H'=>∃ H'',Sub H H'' H'∧Q' v H'')∧E=eSub H E'∧sp vs H Q' E') ?_ fun vs H Q E h=>⟨Q,E,rfl,rfl,h⟩
 obtain ⟨oc,od,kV,doc,pm,an,cdv,ct,osl,rfl,lk,hcd⟩:=F.ex
 refine Xwd lk hcd S (fun vs H Q E ⟨Q',E',_,_,h⟩=>len vs H Q' E' h) fun A outer s H vs Q E hr ⟨Q',E',e1,e2,hsp⟩=>?_
 subst e1 e2
 exact hbody cdv A outer s H vs Q' E' hr hsp
noncomputable def DefOkE (P:Program) (w:World) (K:PySem.W.Frag) (mg:Str→Option Value) (base:Heap) (k:Nat) (x:Str) (ps:List Str) (sp:Sp):Prop :=
 ∃ f fd,FnOk P w K mg base (CXe P w) k f fd ps sp∧Binds K fd ps []∧PySem.W.keepIn K (.ref f)=true∧mg x=some (.ref f)
theorem FunAt.okE {x:Str} {st:Stmt} {f:Addr} {fd:FuncData} {N ps:List Str} {k:Nat} {sp:Sp} (F:FunAt K mg x st ps f fd) (S:FnScope N ps (defScope st)) (len:∀ vs H Q E,sp vs H Q E→vs.length=ps.length)
  (hbody:∀ (cdv:Value) (A:Around) (outer:List Env) (s:Shared) (H:Hp) (vs:List V) (Q:VK) (E:XK),Room k (A.deeper (envOfC x (defScope st) s.heap.objs.size f cdv))→sp vs H Q E→
   ∃ t,PSs (cxOf (CXe P w) P w K mg base N x (defScope st) f cdv A outer s H (eSub H E)) (defBody st) t∧t {nx:=fun _ H'=>∃ H'',Sub H H'' H'∧Q .non H'',rt:=fun v H'=>∃ H'',Sub H H'' H'∧Q v H''} (start N vs) H):DefOkE P w K mg base (k+1) x ps sp :=
 ⟨f,fd,F.1.okE S len hbody,F.2.1,F.1.kp,F.2.2⟩
end
noncomputable def PassesX (CX:CXT) (X:Cx) (E:St→XK):Prop:=∀ (pins:List (Addr×Obj)) (σ:St) (H:Hp) (s:Shared) (e:Value) (s':Shared),Inv X pins σ H s→CX X.stack H s (E σ) e s'→X.xe e s'
theorem Passes.x {CX:CXT} {X:Cx} {E:XK} (h:Passes CX X E):PassesX CX X fun _=>E:=h
noncomputable def tCallX (sp:Sp) (E:St→XK) (t:TA):TE:=fun σ H Q=>t σ H fun vs H1=>sp vs H1 Q (E σ)
section
variable {X:Cx} {k k':Nat} {x:Str} {ps:List Str} {sp:Sp} {e:Expr} {es:List Expr} {t:TA} {p pos:Pos} {E:St→XK}
theorem Zac (h:DefOkE X.prog X.w X.K X.mg X.base k x ps sp) (hr:Room k' X.A) (hx:PassesX (CXe X.prog X.w) X E) (ha:PA X (e::es) t) (hk:k≤k':=by decide) (hg:Gl X x:=by rfl) (hdb:(x == ("__debug__":Str))=false:=by decide +kernel)
  (he:starEach (e::es) X.env=(false,eval e X.env)::starEach es X.env:=by rfl) (hpl:(backTo pos (starEach es X.env)).any (·.1)=false:=by rfl):PE X (.Call (.Name x p) (e::es) [] pos) (tCallX sp E t):=by
 obtain ⟨f,fd,F,hb,kp,hm⟩:=h
 intro pins s σ H Q I h
 refine wpAny_Call_Name_kw (Jc I hg hm ?_ hdb)
 refine PySem.W.callWith_K (h₀:=X.base) I.ok.mod.kin kp (thn (ha pos pins s σ H _ I h) fun us s1 ⟨vs,H1,I1,r,q⟩=>⟨I1.kIn,?_⟩) he hpl
 have hl:us.length=ps.length:=by rw [← r.length];exact F.len _ _ _ _ q
 have hb':=hb s1 us I1.kIn (by rw [List.append_nil];exact hl)
 rw [List.append_nil] at hb'
 refine wpAny_call (codeAny_mono (F.run X.A X.stack s1 H1 ⟨us,[]⟩ us vs Q (E σ) (hr.mono hk) I1.env0 hb' r q) fun r s' hq=>?_)
 cases r with
 | error e=>exact hx pins σ H1 s1 e s' I1 hq
 | ok fl =>
  cases fl with
  | ret u=>exact I1.after hq
  | next=>exact False.elim hq
  | brk=>exact False.elim hq
  | cont=>exact False.elim hq
end
abbrev bmV:List Value:=[.type "ValueError",.type "Exception",.type "BaseException",.type "object"]
structure ClsAt (K:Frag) (h:Heap) (C:Addr):Prop where
 ex:∃ (bm:List Value) (N:Addr) (nm q:Str) (bs:List Value) (hdct:Bool) (sn:List Str) (sub:List Value) (ab:Bool) (col:Option Bool) (dd:Option Addr) (k0 k1 k2 k3 k5:Option Value) (mN:Str→Option Value),
  h.get? C=some (excClassObj nm q C N bs bm hdct sn sub ab col dd k0 k1 k2 k3 k5 "ValueError.__new__")∧h.Ns N mN∧mN "__init__"=none∧OwnTail h bmV bm
theorem clsAt {K:Frag} {h:Heap} {C:Addr} (X:K.In h) (q:excIn K C bmV "ValueError.__new__"=true):ClsAt K h C:=by
 unfold excIn at q
 split at q
 ·rename_i dd cd sl ho
  split at q
  ·rename_i C' bm k0 k1 k2 k3 n k5 hm hs
   simp only [Bool.and_eq_true,beq_iff_eq,Bool.not_eq_true'] at q
   obtain ⟨⟨⟨⟨⟨rfl,rfl⟩,hdel⟩,ht⟩,hok⟩,hni⟩:=q
   obtain ⟨nm,bs,mro,ns,qn,hd,sn,sub,ab,col,del⟩:=cd
   dsimp only at hm hdel hok hni
   subst hm hdel
   have hsl:sl=#[k0,k1,k2,k3,some (.builtin "ValueError.__new__"),k5]:=by
    obtain ⟨l⟩:=sl
    simp only at hs
    rw [hs]
   subst hsl
   exact ⟨bm,ns,nm,qn,bs,hd,sn,sub,ab,col,dd,k0,k1,k2,k3,k5,_,X _ _ ho,.of_isNs (isNs_of_in X hok),nsMap_none_of_in X hok hni,tail_of_in X ht⟩
  ·cases q
 ·cases q
noncomputable def tRaise (C:Addr) (E:XK) (t:TA):TS:=fun _ σ H=>t σ H fun vs H1=>vs.length≤sizeLine∧E (.ref C) none H1
theorem Zed {X:Cx} {x:Str} {C:Addr} {np cpos pos:Pos} {e:Expr} {es:List Expr} {t:TA} {E:XK} (T:Throws X E) (xc:excIn X.K C bmV "ValueError.__new__"=true) (hm:X.mg x=some (.ref C)) (hh:X.A.handled=none) (ha:PA X (e::es) t)
  (hex:X.ex=[]:=by rfl) (hg:Gl X x:=by rfl) (hdb:(x == ("__debug__":Str))=false:=by decide +kernel)
  (he:starEach (e::es) X.env=(false,eval e X.env)::starEach es X.env:=by rfl) (hpl:(backTo cpos (starEach es X.env)).any (·.1)=false:=by rfl) :
  PS X (.Raise (some (.Call (.Name x np) (e::es) [] cpos)) none pos) (tRaise C E t):=by
 intro pins s σ H D I h
 obtain ⟨bm,N,nm,q,bs,hdct,sn,sub,ab,col,dd,k0,k1,k2,k3,k5,mN,h1,h2,h3,h4⟩:=(clsAt I.ok.mod.kin xc).ex
 refine wpAny_Raise_call_subU (nm:=nm) (q:=q) (N:=N) (bs:=bs) (hdct:=hdct) (sn:=sn) (sub:=sub) (ab:=ab) (col:=col) (dd:=dd) (k0:=k0) (k1:=k1) (k2:=k2) (k3:=k3) (k5:=k5) F.excBase_ValueError (bmB:=bmV) (by decide +kernel) F.excBase_ValueError (mN:=mN) (h4.hasType (by decide +kernel)) hh ?_ h3 (Jc I hg hm ⟨rfl,?_⟩ hdb)
 ·rw [he];show (false||(backTo cpos (starEach es X.env)).any (·.1))=false;rw [hpl];rfl
 have hp:=ha cpos pins s σ H _ I h
 rw [he] at hp ⊢
 refine Calls.evalArgs_plain (thn hp fun us s1 ⟨vs,H1,I1,r,hl,q1⟩=>⟨rfl,by show us.length≤_;rw [← r.length];exact hl,I1.bk _ _ h1,h2.keeps I1.bk,h4.keeps I1.bk,fun h' a hm=>?_⟩)
 obtain ⟨tt,ht,_,_⟩:=hm.there
 refine T pins σ H1 _ a C _ _ (I1.kept (h':=h') (t':=s1.toks) hm.keeps) ht rfl rfl rfl (.inl rfl) (I1.hok.none hm.new) ?_ q1
 cases z:X.s₀.heap.get? a with
 | none=>rfl
 | some o =>
  obtain ⟨o',e⟩:=I1.base.there a o z (by rw [hex];simp)
  rw [hm.new] at e;cases e
end L2
end
section
namespace L2
open PySem PySem.W PySem.Spec PyProof.Rows
noncomputable def ExcO (a C:Addr) (d:Option Addr):HO := .ext fun h=>∃ o vs,h.get? a=some o∧o.cls = .ref C∧o.dict=d∧o.data = .fields vs∧(d=none∨vs[2]?=some .none)
theorem Xvf {P:Program} {w:World} {H:Hp} {h:Heap} {a C T:Addr} {d:Option Addr} {fl:Value} (f:Fly h a (.ref C) d T fl):ObjOk P w H h a (ExcO a C d):=by
 obtain ⟨oe,vs,oT,ts,he,hc,hdd,hd,_,_,_,_,_,hcx⟩:=f
 exact ⟨⟨oe,vs,he,hc,hdd,hd,hcx⟩,⟨oe,he⟩,fun h1 h2 ⟨o,vs,e1,e2,e3,e4,e5⟩ k=>⟨o,vs,k o e1,e2,e3,e4,e5⟩⟩
theorem Zag {M:Model} {A:Around} {E:Value→Shared→Prop} {K:Frag} {s:Shared} {a C D:Addr} {o:Obj} {b:Bool} {Q:Bool→Shared→Prop} (X:K.In s.heap) (he:s.heap.get? a=some o) (hc:o.cls = .ref C) (cD:ExcC K D) (tyD:typeIn K (.ref D)=some (.type "type"))
  (hm:mroIn K C (.ref D)=some b) (hq:Q b s):wpAny M A (excMatches (.ref a) (.ref D)) Q E s:=by
 obtain ⟨h,g,d,t,os⟩:=s
 have L1:=looks_typeIn (M:=M) X tyD
 have L2:=looks_mroIn (M:=M) X cD.be
 have L3:=looks_mroIn (M:=M) X hm
 have L4:=(Zyj (x:=a) cD).it M h X
 have L5:Looks M h (isType (.ref D)) true:=by
  obtain ⟨cdD,hcD⟩:=Option.isSome_iff_exists.mp (show (clsIn K D).isSome=true from cD.is)
  unfold clsIn at hcD
  split at hcD
  ·rename_i c' d' cd' sl' ho
   intro A' Q' E' s' k q
   unfold isType loadHead
   exact wpAny_bind (wpAny_loadPart (k _ _ (X _ _ ho)) (wpAny_pure q))
  ·cases hcD
 have f:=tc_notTuple
 unfold excMatches isExcClass isInstance
 repeat (first | (with_reducible refine wpAny_loadPart_at he ?_;rw [hc]) | with_reducible refine L1.at ?_ | with_reducible refine L5.at ?_ | with_reducible refine L2.at ?_ | with_reducible refine L3.at ?_ | wp_step)
 cases b
 ·repeat (first | exact hq | wp_step)
 ·repeat (first | exact hq | wp_step)
section
variable {X:Cx} {pins:List (Addr×Obj)} {σ:St} {H1 H2:Hp} {s1 s2:Shared} {h':Heap} {a C T T':Addr} {d:Option Addr}
theorem Inv.caught {t':Nat} (I1:Inv X pins σ H1 s1) (I2:Inv X pins σ H2 s2) (hex:X.ex=[]) (na:s1.heap.get? a=none) (nT:s1.heap.get? T=none) (fa:H2 a=none) (fT:H2 T=none)
  (keep:∀ b o,b≠a→b≠T→b∉frs X.stack→s2.heap.get? b=some o→h'.get? b=some o)
  (slot:∀ b o,b≠a→b≠T→s2.heap.get? b=some o→∃ sl,h'.get? b=some {o with slots:=sl}) (fly:Fly h' a (.ref C) d T' .none):Inv X pins σ (upd H2 a (ExcO a C d)) {s2 with heap:=h',toks:=t'}:=by
 have ne:∀ b o,s1.heap.get? b=some o→b≠a∧b≠T:=fun b o e=>⟨fun z=>(by rw [z,na] at e;cases e),fun z=>(by rw [z,nT] at e;cases e)⟩
 have ne0:∀ b o,X.s₀.heap.get? b=some o→b≠a∧b≠T:=fun b o e=>by
  obtain ⟨o',e'⟩:=I1.base.there b o e (by rw [hex];simp)
  exact ne b o' e'
 have neL:∀ b o,X.s₀.heap.get? b=some o→b≠X.env.locals:=fun b o e=>Nat.ne_of_lt (Nat.lt_of_lt_of_le (Heap.lt_size e) I2.ok.above)
 have nL:X.env.locals≠a∧X.env.locals≠T:=by
  obtain ⟨m,⟨o,_,_,ho,_⟩,_⟩:=I1.loc
  exact ne _ o ho
 have nC:∀ x c,X.env.cells.lookup x=some c→c≠a∧c≠T:=fun x c e=>by
  obtain ⟨v,o,ho,_⟩:=I1.cell x c e
  exact ne c o ho
 have cellK:∀ x c,X.env.cells.lookup x=some c→∀ v,s2.heap.IsCell c v→h'.IsCell c v:=fun x c e v ⟨o,ho,hd⟩=>by
  obtain ⟨sl,q⟩:=slot c o (nC x c e).1 (nC x c e).2 ho
  exact ⟨_,q,hd⟩
 refine ⟨I2.ok,I2.os,I2.bare,⟨fun b o e n hb hx=>?_,fun b o e n hb hx=>?_,fun b o e n hx=>?_,fun b o e hx=>?_,fun b xs e=>?_,fun b o u e=>?_,fun b ps e=>?_⟩,?_,fun x c e=>?_,?_,fun x c e=>?_,fun p hp=>?_,fun b u e=>?_,I2.len⟩
 ·refine keep b o (ne0 b o e).1 (ne0 b o e).2 (fun z=>?_) (I2.base.keep b o e n hb hx)
  exact (List.mem_cons.mp (I2.stkSub b z)).elim (neL b o e) hb
 ·obtain ⟨sl,e1⟩:=I2.base.slot b o e n hb hx
  obtain ⟨sl',e2⟩:=slot b _ (ne0 b o e).1 (ne0 b o e).2 e1
  exact ⟨sl',e2⟩
 ·rw [Zm (ne0 b o e).1];exact I2.base.free b o e n hx
 ·obtain ⟨o',e1⟩:=I2.base.there b o e hx
  obtain ⟨sl',e2⟩:=slot b _ (ne0 b o e).1 (ne0 b o e).2 e1
  exact ⟨_,e2⟩
 ·have:=I2.base.tups b xs e
  rw [Zm (Zp this fa)];exact this
 ·have:=I2.base.frzs b o u e
  rw [Zm (Zp this fa)];exact this
 ·obtain ⟨more,this⟩:=I2.base.tbls b ps e
  exact ⟨more,by rw [Zm (Zp this fa)];exact this⟩
 ·obtain ⟨m,⟨o,es,ep,ho,r⟩,hl⟩:=I2.loc
  obtain ⟨sl,q⟩:=slot _ o nL.1 nL.2 ho
  refine ⟨m,⟨_,es,ep,q,r⟩,fun i x v e1 e2 e3=>?_⟩
  obtain ⟨u,r,l⟩:=hl i x v e1 e2 e3
  refine ⟨u,r,?_⟩
  rcases l with l | ⟨k,c,e,z⟩
  ·exact .inl l
  ·exact .inr ⟨k,c,e,cellK x c e _ z⟩
 ·obtain ⟨v,z⟩:=I2.cell x c e
  exact ⟨v,cellK x c e v z⟩
 ·rw [Zm nL.1];exact I2.free
 ·rw [Zm (nC x c e).1];exact I2.freeC x c e
 ·obtain ⟨e,n,ne',nf,dd⟩:=I2.pin p hp
  obtain ⟨e1,_⟩:=I1.pin p hp
  refine ⟨keep p.1 p.2 (ne _ _ e1).1 (ne _ _ e1).2 (fun z=>(List.mem_cons.mp (I2.stkSub _ z)).elim ne' nf) e,?_,ne',nf,dd⟩
  rw [Zm (ne _ _ e1).1];exact n
 ·by_cases hb:b=a
  ·subst hb
   rw [Zc] at e;cases e
   exact Xvf fly
  ·rw [Zm hb] at e
   refine (I2.hok b u e).stay (fun c v hc q=>?_) (fun c r=>by rw [Zm (Zp r fa)];exact r) fun c xs r=>by rw [Zm (Zp r fa)];exact r
   have hcn:∃ z,H2 c=some z:=by
    rcases hc with rfl | hc
    ·exact ⟨_,e⟩
    ·exact ⟨_,hc⟩
   obtain ⟨z,hz⟩:=hcn
   refine keep c v (Zp hz fa) (Zp hz fT) (fun y=>?_) q
   rw [I2.stkFree c y] at hz;cases hz
end
noncomputable def tryXe (X:Cx) (pn:List (Addr×Obj)) (Eh:St→XK) (e:Value) (s':Shared):Prop:=∃ a C d T σ' H1 H' s1,e = .ref a∧Inv {X with pn:=pn} [] σ' H1 s1∧Inv {X with pn:=pn} [] σ' H' s'∧Fly s'.heap a (.ref C) d T .none∧
 H' a=none∧H' T=none∧s1.heap.get? a=none∧s1.heap.get? T=none∧Eh σ' (.ref C) d H'
noncomputable def Cx.tryC (X:Cx) (pn:List (Addr×Obj)) (Eh:St→XK):Cx:={X with pn:=pn,xe:=tryXe X pn Eh}
noncomputable def Cx.handC (X:Cx) (pn:List (Addr×Obj)) (e:Addr):Cx:={X with pn:=pn,A:=X.A.mark (some (.ref e)),calm:=false,xe:=fun _ _=>False}
theorem Je {X:Cx} {pn:List (Addr×Obj)} {Eh:St→XK}:PassesX (CXe X.prog X.w) (X.tryC pn Eh) Eh:=by
 intro pins σ H1 s1 e s2 I h
 obtain ⟨a,C,d,H2,T,rfl,os,bare,un,hok,fly,fa,fT,na,nT,q⟩:=h
 have I1:Inv {X with pn:=pn} [] σ H1 s1:=Inv.unwish (X:={X with pn:=pn}) (Inv.pins_of (pins':=[]) I (by simp))
 exact ⟨a,C,d,T,σ,H1,H2,s1,rfl,I1,I1.call' (ch:=[]) os un hok bare (fun b z=>absurd z (by simp)),fly,fa,fT,na,nT,q⟩
noncomputable def tTry (K:Frag) (D:Addr) (i:Nat) (Eh:St→XK) (tb th:TS):TS:=fun Dn σ H=>tb Dn σ H∧∀ σ' C d H' a,Eh σ' (.ref C) d H'→H' a=none→mroIn K C (.ref D)=some true∧
 th {nx:=fun σ H=>Dn.nx (σ.set i none) H,rt:=Dn.rt,bk:=fun σ H=>Dn.bk (σ.set i none) H,ct:=fun σ H=>Dn.ct (σ.set i none) H} (σ'.set i (some (.ref a))) (upd H' a (ExcO a C d))
theorem Cx.Ok.pns {X:Cx} (ok:X.Ok) (pn:List (Addr×Obj)):Cx.Ok {X with pn:=pn} :=
 ⟨ok.mod,ok.kind,ok.glob,ok.blt,ok.above,ok.inj,ok.has,ok.cab,ok.hd,ok.frames,ok.stk,ok.exf,ok.bs,ok.bsz,ok.noex,ok.exfs,ok.funs,ok.frf⟩
theorem Cx.Ok.hand {X:Cx} {pn:List (Addr×Obj)} (ok:Cx.Ok {X with pn:=pn}) (e:Addr):Cx.Ok (X.handC pn e) :=
 ⟨ok.mod,ok.kind,ok.glob,ok.blt,ok.above,ok.inj,ok.has,ok.cab,fun z=>Bool.noConfusion z,ok.frames,ok.stk,ok.exf,ok.bs,ok.bsz,ok.noex,ok.exfs,ok.funs,ok.frf⟩
theorem Inv.hand {X:Cx} {pn:List (Addr×Obj)} {σ:St} {H:Hp} {s:Shared} (I:Inv {X with pn:=pn} [] σ H s) (e:Addr):Inv (X.handC pn e) [] σ H s :=
 ⟨I.ok.hand e,I.os,I.bare,I.base,I.loc,I.cell,I.free,I.freeC,I.pin,I.hok,I.len⟩
theorem Inv.ins {X:Cx} {pins:List (Addr×Obj)} {σ:St} {H:Hp} {s:Shared} (I:Inv X pins σ H s):Inv {X with pn:=X.pn++pins} [] σ H s :=
 ⟨I.ok.pns _,I.os,I.bare,I.base,I.loc,I.cell,I.free,I.freeC,fun p hp=>I.pin p (by simpa using hp),I.hok,I.len⟩
theorem Inv.outs {X Y:Cx} {pins:List (Addr×Obj)} {σ:St} {H:Hp} {s:Shared} (ok:X.Ok) (I:Inv {X with pn:=X.pn++pins} [] σ H s):Inv X pins σ H s :=
 ⟨ok,I.os,I.bare,I.base,I.loc,I.cell,I.free,I.freeC,fun p hp=>I.pin p (by simpa using hp),I.hok,I.len⟩
theorem Inv.unhand {X:Cx} {pins:List (Addr×Obj)} {σ:St} {H:Hp} {s:Shared} {e:Addr} (ok:X.Ok) (I:Inv (X.handC (X.pn++pins) e) [] σ H s):Inv X pins σ H s :=
 ⟨ok,I.os,I.bare,I.base,I.loc,I.cell,I.free,I.freeC,fun p hp=>I.pin p (by simpa [Cx.handC] using hp),I.hok,I.len⟩
theorem Inv.gone {X:Cx} {M:Model} {A:Around} {E:Value→Shared→Prop} {pins:List (Addr×Obj)} {σ:St} {H:Hp} {s:Shared} {n:Str} {i:Nat} {pos:Pos} {Q:Unit→Shared→Prop} (I:Inv X pins σ H s) (hN:X.N.Nodup) (hi:X.N[i]?=some n) (hl:X.env.scope.names.lookup n=some .local)
  (h:∀ s',Inv X pins (σ.set i none) H s'→Q () s'):wpAny M A (do bindName X.env n .none;unbindBehindTheSuite X.env n pos) Q E s:=by
 obtain ⟨m,hn,hlk⟩:=id I.loc
 have hcls:(X.env.scope.kind == .class||(X.env.scope.kind == .module&&X.env.locals != X.env.globals))=false:=by rw [I.ok.kind];rfl
 have hiσ:i<σ.length:=by rw [I.len];exact (List.getElem?_eq_some_iff.mp hi).1
 refine wpAny_nameGoes_keeps hl hn hcls fun h' v hn' hs=>?_
 obtain ⟨oL,_,_,hoL,_⟩:=id hn
 have tracked:HOk X.prog X.w H h':=fun b ob e=>by
  refine (I.hok b ob e).stay (fun c w' hc q=>(hs.2 c ?_).trans q) (fun _ q=>q) fun _ _ q=>q
  rintro rfl
  rcases hc with rfl | hc
  ·rw [I.free] at e;cases e
  ·rw [I.free] at hc;cases hc
 refine h _ ⟨I.ok,I.os,I.bare,⟨fun b o e n hb hx=>?_,fun b o e n hb hx=>?_,I.base.free,fun b o e hx=>?_,I.base.tups,I.base.frzs,I.base.tbls⟩,⟨_,hn',fun j y v' e1 e2 e3=>?_⟩,fun y c e=>?_,I.free,I.freeC,fun p hp=>?_,tracked,by simpa using I.len⟩
 ·exact (hs.2 b (Nat.ne_of_lt (Nat.lt_of_lt_of_le (Heap.lt_size e) I.ok.above))).trans (I.base.keep b o e n hb hx)
 ·obtain ⟨sl,e1⟩:=I.base.slot b o e n hb hx
  exact ⟨sl,(hs.2 b (Nat.ne_of_lt (Nat.lt_of_lt_of_le (Heap.lt_size e) I.ok.above))).trans e1⟩
 ·obtain ⟨o',e1⟩:=I.base.there b o e hx
  exact ⟨o',(hs.2 b (Nat.ne_of_lt (Nat.lt_of_lt_of_le (Heap.lt_size e) I.ok.above))).trans e1⟩
 ·by_cases hj:j=i
  ·subst hj
   rw [List.getElem?_set_self hiσ] at e2
   cases e2
  ·rw [List.getElem?_set_ne (Ne.symm hj)] at e2
   obtain ⟨u',r',q⟩:=hlk j y v' e1 e2 e3
   refine ⟨u',r',?_⟩
   rcases q with ⟨k,e⟩ | ⟨k,c,e,z⟩
   ·refine .inl ⟨k,?_⟩
    have:y≠n:=fun e=>hj (Zkh hN e1 (e ▸ hi))
    simp [this,e]
   ·exact .inr ⟨k,c,e,z.sameBut hs (I.cne y c e)⟩
 ·obtain ⟨w',z⟩:=I.cell y c e
  exact ⟨w',z.sameBut hs (I.cne y c e)⟩
 ·obtain ⟨e,n,ne,nf,d⟩:=I.pin p hp
  exact ⟨(hs.2 p.1 ne).trans e,n,ne,nf,d⟩
theorem Xxh {X:Cx} {body suite:List Stmt} {b₀:Stmt} {x n:Str} {i:Nat} {D:Addr} {np pos tpos:Pos} {tb th:TS} {Eh:St→XK} (hb:∀ pn,PSs (X.tryC pn Eh) body tb) (hh:∀ pn e,PSs (X.handC pn e) (b₀::suite) th)
  (hm:X.mg x=some (.ref D)) (cD:ExcC X.K D) (tyD:typeIn X.K (.ref D)=some (.type "type")) (hN:X.N.Nodup) (hi:X.N[i]?=some n:=by rfl) (hl:X.env.scope.names.lookup n=some .local:=by rfl)
  (hs:X.stack=X.env::X.outer:=by rfl) (hf:X.env.frame=some X.env.locals:=by rfl) (hex:X.ex=[]:=by rfl) (hg:Gl X x:=by rfl) (hdb:(x == ("__debug__":Str))=false:=by decide +kernel) :
  PS X (.Try body [.ExceptHandler (some (.Name x np)) (some n) (b₀::suite) pos] [] [] tpos) (tTry X.K D i Eh tb th):=by
 intro pins s σ H Dn I ⟨h1,h2⟩
 have ok:=I.ok
 refine wpAny_Try_except (wpAny_mono (hb (X.pn++pins) [] s σ H Dn (I.ins.wish _) h1) (fun f s1 z=>?_) (fun e s1 z=>?_))
 ·cases f with
  | next =>
   obtain ⟨σ',H',I',q⟩:=z
   exact Zt (X:=X) pins s1 σ' H' Dn (Inv.outs (Y:=X) ok (Inv.unwish (X:={X with pn:=X.pn++pins}) I')) q
  | brk=>obtain ⟨σ',H',I',q⟩:=z;exact ⟨σ',H',Inv.outs (Y:=X) ok (Inv.unwish (X:={X with pn:=X.pn++pins}) I'),q⟩
  | cont=>obtain ⟨σ',H',I',q⟩:=z;exact ⟨σ',H',Inv.outs (Y:=X) ok (Inv.unwish (X:={X with pn:=X.pn++pins}) I'),q⟩
  | ret u=>obtain ⟨v,σ',H',I',r,q⟩:=z;exact ⟨v,σ',H',Inv.outs (Y:=X) ok (Inv.unwish (X:={X with pn:=X.pn++pins}) I'),r,q⟩
 obtain ⟨a,C,d,T,σ',H1,H',s0,rfl,I1,I2,fly,fa,fT,na,nT,q⟩:=z
 obtain ⟨hmm,ht⟩:=h2 σ' C d H' a q fa
 have fr:X.A.frames=some (X.env::X.outer):=ok.frames.trans (congrArg some hs)
 have fst:s1.heap.FunFrames X.base (X.env::X.outer):=hs ▸ I2.stack
 refine noteD fr fst hf fly fun h' T' x1 x2 x3 x4=>?_
 refine landD (s:={s1 with heap:=h'}) x3 x1 fun h2 y1 y2 y3=>?_
 have nT':∀ b o,s1.heap.get? b=some o→b≠T':=fun b o e z=>by rw [z,x2] at e;cases e
 have k2:∀ b o,b≠a→b≠T→b∉frs X.stack→s1.heap.get? b=some o→h2.get? b=some o:=fun b o e1 e2 e3 e4=>y3 b o (nT' b o e4) (x4.keep b o e1 (fun z=>e2 (Option.some.inj z)) (fun z=>e3 (by rw [hs];exact z)) e4)
 have l2:∀ b o,b≠a→b≠T→s1.heap.get? b=some o→∃ sl,h2.get? b=some {o with slots:=sl}:=fun b o e1 e2 e4=>by
  obtain ⟨sl,e⟩:=x4.slot b o e1 (fun z=>e2 (Option.some.inj z)) e4
  exact ⟨sl,y3 b _ (nT' b o e4) e⟩
 have J2:=(I1.caught (h':=h2) (t':=s1.toks) I2 hex na nT fa fT k2 l2 y1).hand a
 refine wpAny_handleBy_cons (codeAny_handlers_test (Jc J2 hg hm ?_ hdb)) (by intro q;cases q)
 obtain ⟨oe,vs,oT,ts,he,hc,hdd,hd,_⟩:=id y1
 refine Zag (K:=X.K) J2.kIn he hc cD tyD hmm ?_
 refine codeAny_handlers_suite_as (landD (s:={s1 with heap:=h2}) y2 y1 fun h3 w1 w2 w3=>?_)
 have n2:∀ b o,b≠T'→h2.get? b=some o→h3.get? b=some o:=w3
 have J3:=(I1.caught (h':=h3) (t':=s1.toks) I2 hex na nT fa fT (fun b o e1 e2 e3 e4=>w3 b o (nT' b o e4) (k2 b o e1 e2 e3 e4)) (fun b o e1 e2 e4=>by
  obtain ⟨sl,e⟩:=l2 b o e1 e2 e4
  exact ⟨sl,w3 b _ (nT' b o e4) e⟩) w1).hand a
 refine Zjb (X:=X.handC (X.pn++pins) a) (v := .ref a) J3 hN hi (.inl hl) rfl (fun s4 I4=>?_) (.inr hl)
 refine wpAny_mono (hh (X.pn++pins) a [] s4 _ _ _ I4 ht) (fun f s5 z=>?_) fun _ _ z=>False.elim z
 cases f with
 | next =>
  obtain ⟨σ5,H5,I5,q5⟩:=z
  exact Inv.gone (I5.unhand ok) hN hi hl fun s6 I6=>⟨_,H5,I6,q5⟩
 | brk =>
  obtain ⟨σ5,H5,I5,q5⟩:=z
  exact Inv.gone (I5.unhand ok) hN hi hl fun s6 I6=>⟨_,H5,I6,q5⟩
 | cont =>
  obtain ⟨σ5,H5,I5,q5⟩:=z
  exact Inv.gone (I5.unhand ok) hN hi hl fun s6 I6=>⟨_,H5,I6,q5⟩
 | ret u =>
  obtain ⟨v,σ5,H5,I5,r5,q5⟩:=z
  exact Inv.gone (I5.unhand ok) hN hi hl fun s6 I6=>⟨v,_,H5,I6,r5,q5⟩
end L2
end
section
namespace L2
open PySem PySem.W PySem.Spec PyProof.Rows
section
variable {X:Cx}
theorem Xj:CallR X (.builtin "isinstance") (fun xs H Q=>∃ a C d c b,xs=[.ref a,c]∧H a=some (ExcO a C d)∧ExcC X.K C∧(d=none∨∃ dx fs,d=some dx∧H dx=some (.xd fs))∧(∀ cv,RelV c cv→PySem.W.kitOne X.K (.ref C) cv=some b)∧Q (.bl b) H):=by
 intro pins s σ H xs us Q I r h
 obtain ⟨a,C,d,c,b,rfl,ea,xc,hd,ek,q⟩:=h
 obtain ⟨u,w',rfl,r1,r2⟩:=vals2 r
 cases (show u=Value.ref a from r1)
 obtain ⟨⟨o,vs,e1,e2,e3,e4,_⟩,_⟩:=(show ObjOk X.prog X.w H s.heap a (ExcO a C d) from I.hok a _ ea)
 have J:∃ ox odo,W.InstAt s.heap a ox C odo:=by
  obtain ⟨cls,dict,data,sl⟩:=o
  subst e2 e3 e4
  rcases hd with rfl | ⟨dx,fs,rfl,hx⟩
  ·exact ⟨_,none,e1,rfl,rfl,trivial⟩
  ·obtain ⟨u,eu⟩:=I.hok.there hx
   exact ⟨_,some u,e1,rfl,rfl,eu⟩
 exact PySem.W.kia_one (Zyj xc) I.kIn J (ek w' r2) (fun z=>nomatch z) fun tk=>⟨.bl b,H,I.tok _,rfl,q⟩
theorem room64 {k:Nat} {A:Around} (hr:Room k A):A.units+64<cLine:=by have:=hr.un;omega
end
section
variable {X:Cx} {k1 k2 k':Nat} {x:Str} {ps:List Str} {sp1 sp2:Sp} {e:Expr} {es:List Expr} {t:TA} {p pos:Pos} {E:St→XK}
theorem Yd (h:DefOk X.prog X.w X.K X.mg X.base k1 x ps sp1) (h':DefOkE X.prog X.w X.K X.mg X.base k2 x ps sp2) (hr:Room k' X.A) (hx:PassesX (CXe X.prog X.w) X E) (ha:PA X (e::es) t) (hk:k1≤k':=by decide) (hk':k2≤k':=by decide) (hg:Gl X x:=by rfl) (hdb:(x == ("__debug__":Str))=false:=by decide +kernel)
  (he:starEach (e::es) X.env=(false,eval e X.env)::starEach es X.env:=by rfl) (hpl:(backTo pos (starEach es X.env)).any (·.1)=false:=by rfl):PE X (.Call (.Name x p) (e::es) [] pos) (fun σ H Q=>t σ H fun vs H1=>sp1 vs H1 Q E0∨sp2 vs H1 Q (E σ)):=by
 obtain ⟨f,fd,F,hb,kp,hm⟩:=h
 obtain ⟨f2,fd2,F2,hb2,kp2,hm2⟩:=h'
 obtain rfl:f=f2:=by rw [hm] at hm2;injection hm2 with z;injection z
 intro pins s σ H Q I h
 refine wpAny_Call_Name_kw (Jc I hg hm ?_ hdb)
 refine PySem.W.callWith_K (h₀:=X.base) I.ok.mod.kin kp (thn (ha pos pins s σ H _ I h) fun us s1 ⟨vs,H1,I1,r,q⟩=>⟨I1.kIn,?_⟩) he hpl
 rcases q with q | q
 ·exact Zjj (dvs:=[]) (ds:=[]) (us:=us) F (hr.mono hk) hb .nil pass0 I1 r (by rw [List.append_nil];exact q)
 ·have hl:us.length=ps.length:=by rw [← r.length];exact F2.len _ _ _ _ q
  have hb':=hb2 s1 us I1.kIn (by rw [List.append_nil];exact hl)
  rw [List.append_nil] at hb'
  refine wpAny_call (codeAny_mono (F2.run X.A X.stack s1 H1 ⟨us,[]⟩ us vs Q (E σ) (hr.mono hk') I1.env0 hb' r q) fun r s' hq=>?_)
  cases r with
  | error e=>exact hx pins σ H1 s1 e s' I1 hq
  | ok fl =>
   cases fl with
   | ret u=>exact I1.after hq
   | next=>exact False.elim hq
   | brk=>exact False.elim hq
   | cont=>exact False.elim hq
end
end L2
namespace L2
open PySem
theorem Zob:bootBuiltins "ValueError"=some (.type "ValueError"):=by decide +kernel
end L2
end
section
namespace L2
open PySem PySem.W PySem.Spec PyProof.Rows PySem.Builtin.ObjectAttr
noncomputable def overV:List Value→Bool
 | .ref _::r=>overV r
 | l=>l == bmV
theorem Xbc (self:Value):refuseLoop self "__setattr__" bmV=pure ():=by kernel_rfl
theorem Zwc (self:Value):∀ {l:List Value},overV l=true→refuseLoop self "__setattr__" l=pure ()
 | .ref c::r,e=>by rw [refuseLoop_ref];exact Zwc self e
 | [],e=>by cases e
 | .type n::r,e=>by
  have:(Value.type n::r)=bmV:=beq_iff_eq.mp e
  rw [this];exact Xbc self
 | .none::r,e=>by cases beq_iff_eq.mp (show ((Value.none::r) == bmV)=true from e)
 | .bool _::r,e=>by cases beq_iff_eq.mp (show ((Value.bool _::r) == bmV)=true from e)
 | .int _ _::r,e=>by cases beq_iff_eq.mp (show ((Value.int _ _::r) == bmV)=true from e)
 | .float _ _::r,e=>by cases beq_iff_eq.mp (show ((Value.float _ _::r) == bmV)=true from e)
 | .str _ _::r,e=>by cases beq_iff_eq.mp (show ((Value.str _ _::r) == bmV)=true from e)
 | .bytes _ _::r,e=>by cases beq_iff_eq.mp (show ((Value.bytes _ _::r) == bmV)=true from e)
 | .builtin _::r,e=>by cases beq_iff_eq.mp (show ((Value.builtin _::r) == bmV)=true from e)
structure ExcS (K:Frag) (C:Addr):Prop extends ExcC K C where
 sa:findIn K (.ref C) "__setattr__"=some (some (.builtin "object.__setattr__"))
 ov:(clsIn K C).any (fun cd=>overV cd.mro)=true
 hd:hasDictIn K C=true
section
variable {K:Frag} {prog:Program} {w:World} {A:Around} {E:Value→Shared→Prop} {s:Shared} {x C:Addr} {ox:Obj} {od:Option Obj} {name:Str} {v:Value}
theorem Xjb {R:Result→Shared→Prop} {tk:Tok} {r:Option Value} (X:K.In s.heap) (I:W.InstAt s.heap x ox C od) (S:ExcS K C) (ht:takerIn K C name=some r)
  (h:∀ b,wpAny (model prog w) A.in1 (match r with | some a=>setByDescriptor a (.ref x) v | none=>storeInOwnDict (.ref x) (.ref C) (.str name tk) name v b)
   (fun fin s'=>match fin with | .done f=>R (.ok f) s' | .again c'=>c'.quiet=true∧codeAny (model prog w) A c' R s') (fun e s'=>R (.error e) s') s) :
  codeAny (model prog w) A (.call (.builtin "object.__setattr__") ⟨[.ref x,.str name tk,v],[]⟩) R s:=by
 have SF:=PySem.F.store_object
 obtain ⟨cd,hc,ho⟩:=any_some S.ov
 have sub:Looks (model prog w) s.heap (isInstance (.ref x) (.type "object")) true:=I.type.andThen (looks_mroIn X S.ob)
 refine codeAny_call_builtin SF.slot.plain SF.entry (@check_slot (model prog w) _ _ s "object.__setattr__" "object" "__setattr__" (.ref x) [.str name tk,v] [] _ SF.kind SF.split sub (SF.args (.ref x) (.str name tk) v) ?_)
 obtain ⟨attr,ha,hr⟩:=Option.bind_eq_some_iff.mp ht
 have hm:Looks (model prog w) s.heap (mroOf (.ref C)) cd.mro:=(looks_clsIn X hc).andThen .now
 have L3:Looks (model prog w) s.heap (storeTaker? attr) r:=by
  cases attr with
  | none=>cases hr;exact .now
  | some a =>
   obtain ⟨b,hb,rfl⟩:=Option.map_eq_some_iff.mp hr
   refine (looks_takesIn X hb).andThen ?_
   cases b<;>exact .now
 rw [osa_eq,refuse_eq]
 refine wpAny_bind (wpAny_bind (I.type.here (wpAny_bind (hm.here ?_))))
 rw [Zwc _ ho]
 refine wpAny_pure (wpAny_bind (I.type.here (wpAny_bind ((looks_findIn X ha).here (wpAny_bind (L3.here ?_))))))
 exact h _
theorem Xve {vs:Array Value} {Q:Unit→Shared→Prop} (X:K.In s.heap) (hx:s.heap.get? x=some ox) (hc:ox.cls = .ref C) (hdn:ox.dict=none) (hd:ox.data = .fields vs) (S:ExcS K C) (ht:takerIn K C name=some none)
  (h:∀ h',h'.get? x=some {ox with dict:=some s.heap.objs.size}→h'.Ns1 s.heap.objs.size (fun y=>if y=name then some v else none)→(∀ b o,b≠x→s.heap.get? b=some o→h'.get? b=some o)→Q () {s with heap:=h',toks:=s.toks+2}) :
  wpAny (model prog w) A (setAttr (.ref x) name v) Q E s:=by
 have J:W.InstAt s.heap x ox C none:=by
  obtain ⟨cls,dict,data,sl⟩:=ox
  subst hc hdn hd
  exact ⟨hx,rfl,rfl,trivial⟩
 refine set_plain X J S.sa (Xjb (s:={s with toks:=s.toks+1}) (r:=none) X J S ht fun b=>?_)
 obtain ⟨cd,hcd,hhd⟩:=any_some S.hd
 obtain ⟨cls,dict,data,sl⟩:=ox
 dsimp only at hc hdn hd
 subst hc hdn hd
 refine wpAny_bind (wpAny_pure (wpAny_bind (wpAny_bind (wpAny_loadPart hx (wpAny_bind (PySem.W.Looks.here (s:={s with toks:=s.toks+1}) (PySem.W.looks_clsIn X hcd) ?_))))))
 rw [hhd]
 refine wpAny_bind (wpAny_alloc ?_)
 have hx1:=Heap.get?_push_of_some (h:=s.heap) {cls := .type "dict",data := .dict #[]} hx
 refine wpAny_bind (wpAny_update hx1 ?_)
 generalize hoD:({cls := .type "dict",data := .dict #[]}:Obj)=oD at hx1 ⊢
 have hDx:s.heap.objs.size≠x:=Nat.ne_of_gt (Heap.lt_size hx)
 have gD:((s.heap.push oD).update x (fun o=>{o with dict:=some s.heap.objs.size})).get? s.heap.objs.size=some oD :=
  (Heap.get?_update_other _ _ (Ne.symm hDx)).trans (Heap.get?_push_size s.heap (by rw [← hoD];rfl))
 have gx:((s.heap.push oD).update x (fun o=>{o with dict:=some s.heap.objs.size})).get? x=some ⟨.ref C,some s.heap.objs.size,.fields vs,sl⟩:=Heap.get?_update_self _ hx1 rfl
 have hn0:((s.heap.push oD).update x (fun o=>{o with dict:=some s.heap.objs.size})).Ns1 s.heap.objs.size fun _=>none :=
  Heap.Ns1.of_empty ⟨_,#[],_,gD,by rw [← hoD],fun e he=>absurd he (by simp),fun _=>rfl⟩
 refine wpAny_pure (a:=some s.heap.objs.size) (wpAny_bind (wpAny_pure (wpAny_bind ?_)))
 refine wpAny_nsSet1 (s:={s with heap:=(s.heap.push oD).update x (fun o=>{o with dict:=some s.heap.objs.size}),toks:=s.toks+1}) hn0 fun h' hn2 hs2=>?_
 obtain ⟨oD2,esD,epD,hoD2,hdD,hcD⟩:=hn2.count (PySem.Within.cons (ns:=[]) name v (fun y hy=>absurd rfl hy))
 refine wpAny_bind (wpAny_lookBehind hoD2 (by rw [hdD];exact pastItsLine_dict (Nat.le_trans hcD (by show 1≤_;decide))) ?_)
 refine wpAny_pure (h h' ((hs2.2 _ (Ne.symm hDx)).trans gx) hn2 fun b o hb e=>?_)
 refine (hs2.2 b (Nat.ne_of_lt (Heap.lt_size e))).trans ?_
 rw [Heap.get?_update_other _ _ (Ne.symm hb)]
 exact Heap.get?_push_of_some _ e
end
end L2
end
section
namespace L2
open PySem PySem.W PySem.Spec PyProof.Rows
theorem Xce {K:Frag} {h:Heap} {N:Addr} {mg:Str→Option Value} {n:Str} {v:Value} (X:K.In h) (G:h.Ns N mg) (e:nsIn K N n=some (some v)):mg n=some v:=by
 obtain ⟨o,es,ep,ho,hd,_,hf⟩:=G
 unfold nsIn at e
 split at e
 ·rename_i c d es' n' sl q
  have:=X _ _ q
  rw [ho] at this
  cases this
  cases hd
  split at e
  ·rename_i en he
   cases e
   rw [← hf]
   unfold nsFind findBy
   rw [← Array.find?_toList,he]
   rfl
  ·split at e<;>cases e
 ·cases e
noncomputable def excInI (K:Frag) (C f:Addr):Bool:=match K.lookup C with
 | some ⟨.type "type",_,.cls cd,sl⟩=>(match cd.mro,sl.toList with
  | .ref C'::bm,[_,_,_,_,some (.builtin n),_]=>C' == C&&n == "ValueError.__new__"&&!cd.hasDel&&tailIn K bmV bm&&nsOkIn K cd.ns&&nsIn K cd.ns "__init__" == some (some (.ref f))
  | _,_=>false)
 | _=>false
structure ClsAtI (h:Heap) (C f:Addr):Prop where
 ex:∃ (bm:List Value) (N:Addr) (nm q:Str) (bs:List Value) (hdct:Bool) (sn:List Str) (sub:List Value) (ab:Bool) (col:Option Bool) (dd:Option Addr) (k0 k1 k2 k3 k5:Option Value) (mN:Str→Option Value),
  h.get? C=some (excClassObj nm q C N bs bm hdct sn sub ab col dd k0 k1 k2 k3 k5 "ValueError.__new__")∧h.Ns N mN∧mN "__init__"=some (.ref f)∧OwnTail h bmV bm
theorem clsAtI {K:Frag} {h:Heap} {C f:Addr} (X:K.In h) (q:excInI K C f=true):ClsAtI h C f:=by
 unfold excInI at q
 split at q
 ·rename_i dd cd sl ho
  split at q
  ·rename_i C' bm k0 k1 k2 k3 n k5 hm hs
   simp only [Bool.and_eq_true,beq_iff_eq,Bool.not_eq_true'] at q
   obtain ⟨⟨⟨⟨⟨rfl,rfl⟩,hdel⟩,ht⟩,hok⟩,hni⟩:=q
   obtain ⟨nm,bs,mro,ns,qn,hd,sn,sub,ab,col,del⟩:=cd
   dsimp only at hm hdel hok hni
   subst hm hdel
   have hsl:sl=#[k0,k1,k2,k3,some (.builtin "ValueError.__new__"),k5]:=by
    obtain ⟨l⟩:=sl
    simp only at hs
    rw [hs]
   subst hsl
   have G:h.Ns ns (h.nsMap ns) := .of_isNs (isNs_of_in X hok)
   exact ⟨bm,ns,nm,qn,bs,hd,sn,sub,ab,col,dd,k0,k1,k2,k3,k5,_,X _ _ ho,G,Xce X G hni,tail_of_in X ht⟩
  ·cases q
 ·cases q
section
variable {prog:Program} {w:World} {A:Around} {E:Value→Shared→Prop} {h:Heap} {g:Array GenState} {d:Drawn} {t:Nat} {os:OsState}
variable {nm q:Str} {C N:Addr} {bs bm bmB:List Value} {hdct:Bool} {sn:List Str} {sub:List Value} {ab:Bool} {col:Option Bool} {dd:Option Addr} {k0 k1 k2 k3 k5:Option Value} {B Bn newId nid initId inN:String} {bmN:List Value}
theorem Zgi (Fn:ExcBaseFacts Bn newId inN bmN) (hBn:bmB.contains (.type Bn)=true) (F:ExcBaseFacts B nid initId bmB) (T:OwnTail h bmB bm) {mN:Str→Option Value} {rest:List Value} {fI:Addr} {oI:Obj} {Q:Fin→Shared→Prop}
  (hC:h.get? C=some (excClassObj nm q C N bs bm hdct sn sub ab col dd k0 k1 k2 k3 k5 newId)) (hn:h.Ns N mN) (hi:mN "__init__"=some (.ref fI)) (hfI:h.get? fI=some oI) (hfc:oI.cls = .type "function")
  (hq:∀ h' e,Heap.MadeExcOf h h' e (.ref C) rest→wpAny (model prog w) A (call (.ref fI) (.ref e::rest)) (fun r s'=>r = .none∧Q (.done (.ret (.ref e))) s') E ⟨h',g,d,t,os⟩) (hrest:rest.length≤sizeLine) :
  wpAny (model prog w) A (Builtin.«type.__call__» ⟨.ref C::rest,[]⟩) Q E ⟨h,g,d,t,os⟩:=by
 repeat (first | with_reducible refine wpAny_loadPart_at hC ?_ | with_reducible refine wpAny_madeBy_exc hC ?_ | wp_step)
 refine codeAny_call_builtin_code (Code.quiet_builtin _ Fn.quiet) (wpAny_check_new_subU Fn hBn T hC ?_)
 refine codeAny_exc_new_subU Fn hBn F T hC ?_ hrest
 show wpAny _ _ _ _ _ _
 have hC₁:=Heap.get?_push_of_some {cls := .ref C,data := .fields #[.ref h.objs.size,.none,.none,.none,.bool false,.none]}
  (Heap.get?_push_of_some {cls := .type "tuple",data := .seq rest.toArray} hC)
 have hfI₁:=Heap.get?_push_of_some {cls := .ref C,data := .fields #[.ref h.objs.size,.none,.none,.none,.bool false,.none]}
  (Heap.get?_push_of_some {cls := .type "tuple",data := .seq rest.toArray} hfI)
 have hn₁:((h.push {cls := .type "tuple",data := .seq rest.toArray}).push {cls := .ref C,data := .fields #[.ref h.objs.size,.none,.none,.none,.bool false,.none]}).Ns N mN :=
  let ⟨o,es,ep,e,r⟩:=hn;⟨o,es,ep,Heap.get?_push_of_some _ (Heap.get?_push_of_some _ e),r⟩
 have hget:((h.push {cls := .type "tuple",data := .seq rest.toArray}).push
   {cls := .ref C,data := .fields #[.ref h.objs.size,.none,.none,.none,.bool false,.none]}).get? (h.objs.size+1)=some
   {cls := .ref C,data := .fields #[.ref h.objs.size,.none,.none,.none,.bool false,.none]}:=by heap_get
 have hcC:(Value.ref C::bm).contains (.ref C)=true:=by simp
 have T₁:=T.keeps (h':=(h.push {cls := .type "tuple",data := .seq rest.toArray}).push {cls := .ref C,data := .fields #[.ref h.objs.size,.none,.none,.none,.bool false,.none]})
  fun b o e=>Heap.get?_push_of_some _ (Heap.get?_push_of_some _ e)
 unfold isInstance
 repeat (first | with_reducible refine wpAny_loadPart_at hget ?_ | (with_reducible refine wpAny_isSubtype_exc hC₁ ?_;rw [hcC]) | wp_step)
 show wpAny _ _ (typeLookup (.ref C) _) _ _ _
 refine wpAny_typeLookup_tail hC₁ hn₁ T₁ F.mroIs F.init.lookup ?_
 rw [hi]
 refine wpAny_holding (wpAny_bind ?_)
 unfold bindSpecial
 refine wpAny_bind (wpAny_typeOf (T:="function") ⟨_,hfI₁,hfc⟩ ?_)
 rw [if_pos (by decide)]
 refine wpAny_pure (wpAny_bind (wpAny_mono (hq _ (h.objs.size+1) ⟨fun b o hb=>Heap.get?_push_of_some _ (Heap.get?_push_of_some _ hb),Heap.get?_none_of_le (Nat.le_succ _),h.objs.size,hget,Heap.get?_none_of_le (Nat.le_refl _),?_⟩) (fun r s' hr=>?_) fun _ _ x=>x))
 ·exact Heap.get?_push_of_some _ (Heap.get?_push_at rfl rfl)
 ·obtain ⟨rfl,hQ⟩:=hr
  wp_walk
  exact hQ
theorem Xdj (Fn:ExcBaseFacts Bn newId inN bmN) (hBn:bmB.contains (.type Bn)=true) (F:ExcBaseFacts B nid initId bmB) (T:OwnTail h bmB bm) {mN:Str→Option Value} {rest:List Value} {fI:Addr} {oI:Obj} {Q:Value→Shared→Prop}
  (hC:h.get? C=some (excClassObj nm q C N bs bm hdct sn sub ab col dd k0 k1 k2 k3 k5 newId)) (hn:h.Ns N mN) (hi:mN "__init__"=some (.ref fI)) (hfI:h.get? fI=some oI) (hfc:oI.cls = .type "function")
  (hq:∀ h' e,Heap.MadeExcOf h h' e (.ref C) rest→wpAny (model prog w) (A.under (.builtin "type.__call__" ⟨.ref C::rest,[]⟩)) (call (.ref fI) (.ref e::rest)) (fun r s'=>r = .none∧Q (.ref e) s') E ⟨h',g,d,t,os⟩) (hrest:rest.length≤sizeLine) :
  wpAny (model prog w) A (call (.ref C) rest) Q E ⟨h,g,d,t,os⟩:=by
 have f1:=tc_lookup
 have f2:=tc_bind (.ref C)
 have hT:(⟨h,g,d,t,os⟩:Shared).TypeIs (.ref C) "type":=⟨_,hC,rfl⟩
 refine wpAny_call (codeAny_of_tree ?_)
 show wpAny _ _ (callAny (.ref C) _) _ _ _
 repeat (any_goals (first | assumption | with_reducible refine wpAny_loadPart_at hC ?_ | wp_step))
 refine ⟨rfl,?_⟩
 refine codeAny_call_builtin_at (Code.quiet_builtin _ (by decide +kernel)) entry_typeCall (wpAny_check_type_call_sub hC (Zgi (hrest:=hrest) Fn hBn F T hC hn hi hfI hfc fun h' e hm=>?_))
 exact hq h' e hm
end
theorem Xbd {M:Model} {A:Around} {env:Env} {E:Value→Shared→Prop} {K:Frag} {s:Shared} {x:Sem Value} {Q:Flow→Shared→Prop} (hh:A.handled=none)
  (h:wpAny M A x (fun v s₁=>∃ e oe C vs,v = .ref e∧K.In s₁.heap∧s₁.heap.get? e=some oe∧oe.cls = .ref C∧oe.data = .fields vs∧vs[1]?=some .none∧mroIn K C (.type "BaseException")=some true∧typeIn K (.ref C)=some (.type "type")∧E (.ref e) s₁) E s) :
  wpAny M A (raiseStmt env (some x) none) Q E s:=by
 unfold raiseStmt
 refine wpAny_bind (wpAny_mono h (fun v s₁ h₁=>?_) fun _ _ x=>x)
 obtain ⟨e,oe,C,vs,rfl,X,he,hc,hd,h1,hm,hty,hE⟩:=h₁
 obtain ⟨hp,g,d,tk,os⟩:=s₁
 have L1:=looks_mroIn (M:=M) X hm
 obtain ⟨oC,hoC,hcC⟩:=Option.map_eq_some_iff.mp (show (K.lookup C).map (·.cls)=some (.type "type") from hty)
 have hC:=X _ _ hoC
 have he0:=he
 obtain ⟨cls,dict,data,sl⟩:=oe
 dsimp only at hc hd
 subst hc hd
 repeat (first | with_reducible refine wpAny_loadPart_at he ?_ | with_reducible refine L1.at ?_ | (with_reducible refine wpAny_loadPart_at hC ?_;rw [hcC]) | wp_step)
 rw [h1]
 refine wpAny_pure ?_
 rw [if_neg (by decide)]
 exact wpAny_pure (wpAny_raiseNew_none hh hE)
noncomputable def NewX (e C:Addr) (d:Option Addr):HO := .ext fun h=>∃ o vs t0,h.get? e=some o∧o.cls = .ref C∧o.dict=d∧o.data = .fields vs∧vs[0]?=some (.ref t0)∧vs[1]?=some .none∧vs[2]?=some .none
theorem Zsi {P:Program} {w:World} {H:Hp} {h:Heap} {e C t0:Addr} {d:Option Addr} {o:Obj} {vs:Array Value} (h1:h.get? e=some o) (h2:o.cls = .ref C) (h3:o.dict=d) (h4:o.data = .fields vs) (h5:vs[0]?=some (.ref t0)) (h6:vs[1]?=some .none) (h7:vs[2]?=some .none):ObjOk P w H h e (NewX e C d) :=
 ⟨⟨o,vs,t0,h1,h2,h3,h4,h5,h6,h7⟩,⟨o,h1⟩,fun _ _ ⟨o,vs,t0,e1,e2,e3,e4,e5,e6,e7⟩ k=>⟨o,vs,t0,k o e1,e2,e3,e4,e5,e6,e7⟩⟩
theorem Inv.laidN {X:Cx} {pins:List (Addr×Obj)} {σ:St} {H:Hp} {s:Shared} {h':Heap} {a:Addr} {o:HO} {t':Nat} (I:Inv X pins σ H s) (k:∀ b u,s.heap.get? b=some u→h'.get? b=some u) (hn:s.heap.get? a=none) (new:ObjOk X.prog X.w (upd H a o) h' a o) :
  Inv X pins σ (upd H a o) {s with heap:=h',toks:=t'}:=by
 have hf:H a=none:=I.hok.none hn
 have ne:∀ b u,s.heap.get? b=some u→b≠a:=fun b u e z=>by rw [z,hn] at e;cases e
 refine I.un ⟨fun b u q _ _ _=>k b u q,fun b u q _ _ _=>⟨u.slots,k b u q⟩,fun b u q n _=>by rw [Zm (ne b u q)];exact n,fun b u q _=>⟨u,k b u q⟩,fun b xs q=>by rw [Zm (Zp q hf)];exact q,fun b u xs q=>by rw [Zm (Zp q hf)];exact q,fun b ps q=>⟨#[],by rw [Zm (Zp q hf),q];simp⟩⟩ fun b u e=>?_
 by_cases hb:b=a
 ·subst hb
  rw [Zc] at e;cases e
  exact new
 ·rw [Zm hb] at e
  exact (I.hok b u e).stay (fun c v _ q=>k c v q) (fun c r=>by rw [Zm (Zp r hf)];exact r) fun c xs r=>by rw [Zm (Zp r hf)];exact r
noncomputable abbrev xdP (n:Int):HO := .xd [("place",.int n)]
noncomputable def spXInit (C:Addr):Sp:=fun vs H Q _=>∃ e n,vs=[.ref e,.int n]∧H e=some (NewX e C none)∧n.natAbs.log2<1920∧∀ dx,H dx=none→Q .non (upd (upd H dx (xdP n)) e (NewX e C (some dx)))
structure XMk (K:Frag) (mg:Str→Option Value) (x:Str) (C f:Addr):Prop where
 xi:excInI K C f=true
 fn:typeIn K (.ref f)=some (.type "function")
 kp:keepIn K (.ref C)=true
 be:mroIn K C (.type "BaseException")=some true
 ty:typeIn K (.ref C)=some (.type "type")
 gm:mg x=some (.ref C)
noncomputable def tRaiseI (C:Addr) (E:XK) (t:TA):TS:=fun _ σ H=>t σ H fun vs H1=>∃ n,vs=[.int n]∧n.natAbs.log2<1920∧∀ dx,H1 dx=none→E (.ref C) (some dx) (upd H1 dx (xdP n))
theorem Xif {X:Cx} {x:Str} {C f:Addr} {fd:FuncData} {k k':Nat} {np cpos pos:Pos} {e:Expr} {es:List Expr} {t:TA} {E:XK} (T:Throws X E) (M:XMk X.K X.mg x C f) (F:FnOk X.prog X.w X.K X.mg X.base CX0 k f fd ["self","place"] (spXInit C)) (hb:Binds X.K fd ["self","place"] []) (hr:Room k' X.A) (ha:PA X (e::es) t) (hk:k+1≤k':=by decide)
  (hex:X.ex=[]:=by rfl) (hg:Gl X x:=by rfl) (hdb:(x == ("__debug__":Str))=false:=by decide +kernel)
  (he:starEach (e::es) X.env=(false,eval e X.env)::starEach es X.env:=by rfl) (hpl:(backTo cpos (starEach es X.env)).any (·.1)=false:=by rfl) :
  PS X (.Raise (some (.Call (.Name x np) (e::es) [] cpos)) none pos) (tRaiseI C E t):=by
 intro pins s σ H D I h
 rw [arm_exec_Raise]
 refine wpAny_bind (wpAny_standAt (Xbd (K:=X.K) hr.hd (wpAny_bind (wpAny_mono (t:=eval (.Call (.Name x np) (e::es) [] cpos) X.env) ?_ (fun v s₃ h₃=>wpAny_bind (wpAny_standAt (wpAny_pure h₃))) fun _ _ x=>x))))
 refine wpAny_Call_Name_kw (Jc I hg M.gm ?_ hdb)
 refine PySem.W.callWith_K (h₀:=X.base) I.ok.mod.kin M.kp (thn (ha cpos pins s σ H _ I h) fun us s1 ⟨vs,H1,I1,r,n,hvs,hsm,q⟩=>⟨I1.kIn,?_⟩) he hpl
 subst hvs
 obtain ⟨bm,N,nm,qn,bs,hdct,sn,sub,ab,col,dd,k0,k1,k2,k3,k5,mN,h1,h2,h3,h4⟩:=(clsAtI I1.kIn M.xi).ex
 obtain ⟨oI,hoI,hcI⟩:=Option.map_eq_some_iff.mp (show (X.K.lookup f).map (·.cls)=some (.type "function") from M.fn)
 have hl1:us.length=1:=r.length.symm
 obtain ⟨hh,g,d,tk,os⟩:=s1
 refine Xdj PySem.F.excBase_ValueError (bmB:=bmV) (by decide +kernel) PySem.F.excBase_ValueError h4 h1 h2 h3 (I1.kIn _ _ hoI) hcI (fun h' a hm=>?_) (by show us.length≤_;rw [hl1];decide)
 obtain ⟨tt,ht,_,_⟩:=hm.there
 have fa:H1 a=none:=I1.hok.none hm.new
 have I2:=I1.laidN (a:=a) (o:=NewX a C none) (h':=h') (t':=tk) hm.keeps hm.new (Zsi ht rfl rfl rfl rfl rfl rfl)
 have r2:Vals [V.ref a,.int n] (Value.ref a::us) := .cons rfl r
 have hq:spXInit C [V.ref a,.int n] (upd H1 a (NewX a C none)) (fun v H3=>v = .non∧∃ dx,H1 dx=none∧dx≠a∧H3=upd (upd (upd H1 a (NewX a C none)) dx (xdP n)) a (NewX a C (some dx))) E0 :=
  ⟨a,n,rfl,Zc,hsm,fun dx hd=>⟨rfl,dx,(Zh fa).free hd,fun z=>(by rw [z,Zc] at hd;cases hd),rfl⟩⟩
 have hbs:=hb ⟨h',g,d,tk,os⟩ (Value.ref a::us) I2.kIn (by simp [hl1])
 rw [List.append_nil] at hbs
 refine wpAny_call (codeAny_mono (F.run _ X.stack ⟨h',g,d,tk,os⟩ _ ⟨Value.ref a::us,[]⟩ (Value.ref a::us) _ _ E0 ((hr.mono hk).make C us []) (I2.env0.make C us []) hbs r2 hq) fun rr s' hq'=>?_)
 cases rr with
 | error e=>exact False.elim hq'
 | ok fl =>
  cases fl with
  | ret u =>
   obtain ⟨v,H3,I3,rv,ev,dx,fdx,nd,eH⟩:=I2.after hq'
   subst ev
   have hS:Same H1 H3:=fun b o e=>by
    rw [eH,Zm (Zp e fa),Zm (Zp e fdx),Zm (Zp e fa)];exact e
   have hdx:H3 dx=some (xdP n):=by rw [eH,Zm nd,Zc]
   have h3a:H3 a=some (NewX a C (some dx)):=by rw [eH,Zc]
   have I4:=Inv.sub I1 I3 (Sub.new fdx hS hdx trivial)
   obtain ⟨⟨o,vs,t0,e1,e2,e3,e4,e5,e6,e7⟩,_⟩:=(show ObjOk X.prog X.w H3 s'.heap a (NewX a C (some dx)) from I3.hok a _ h3a)
   refine ⟨rv,a,o,C,vs,rfl,I4.kIn,e1,e2,e4,e6,M.be,M.ty,?_⟩
   refine T pins σ _ s' a C o vs I4 e1 e2 e4 e6 (.inr e7) (by rw [Zm (Ne.symm nd)];exact fa) ?_ (by rw [e3];exact q dx fdx)
   cases z:X.s₀.heap.get? a with
   | none=>rfl
   | some o =>
    obtain ⟨o',e⟩:=I1.base.there a o z (by rw [hex];simp)
    have:=hm.new
    rw [show hh.get? a=some o' from e] at this;cases this
  | next=>exact False.elim hq'
  | brk=>exact False.elim hq'
  | cont=>exact False.elim hq'
end L2
end
section
namespace L2
open PySem PySem.W PySem.Spec PyProof.Rows
noncomputable abbrev TJ:=Str→St→Hp→VK→Prop
noncomputable def PJ (X:Cx) (es:List Expr) (t:TJ):Prop :=
 ∀ (acc:Str) (pins:List (Addr×Obj)) (s:Shared) (σ:St) (H:Hp) (Q:VK),Inv X pins σ H s→t acc σ H Q→wpAny (model X.prog X.w) X.A (joinParts acc (evalEach es X.env)) (EP X pins σ Q) X.xe s
section
variable {X:Cx} {e o:Expr} {es:List Expr} {te ta tv:TE} {t:TJ} {pos:Pos}
theorem Xxi:PJ X [] (fun acc _ H Q=>acc.length≤sizeLine∧Q (.str acc) H):=fun acc pins s σ H Q I ⟨hz,q⟩=>joinParts_nil ⟨.str acc,H,I.tok _,⟨_,rfl⟩,q⟩ hz
theorem Zrj (he:PE X e te) (hr:PJ X es t) (hev:evalEach (e::es) X.env=eval e X.env::evalEach es X.env:=by rfl):PJ X (e::es) (fun acc σ H Q=>te σ H fun x H1=>∃ y,x = .str y∧(acc++y).length≤sizeLine∧t (acc++y) σ H1 Q):=by
 intro acc pins s σ H Q I h
 rw [hev]
 refine joinParts_cons (thn (he pins s σ H _ I h) fun v s1 ⟨x,H1,I1,r,y,ex,hz,q⟩=>?_)
 subst ex
 obtain ⟨tk,rfl⟩:=r
 exact ⟨hz,hr (acc++y) pins s1 σ H1 Q I1 q⟩
theorem Xij {v1 v2:Expr} {rest:List Expr} (h:PJ X (v1::v2::rest) t) (hev:evalEach (v1::v2::rest) X.env=eval v1 X.env::eval v2 X.env::evalEach rest X.env:=by rfl):PE X (.JoinedStr (v1::v2::rest) pos) (t Str.empty):=by
 intro pins s σ H Q I hq
 refine JoinedStr_many ?_
 have:=h Str.empty pins s σ H Q I hq
 rw [hev] at this
 exact this
theorem Xuc (he:PE X e te):PE X (.FormattedValue e (-1) none pos) (fun σ H Q=>te σ H fun x H1=>∃ i:Int,x = .int i∧i.natAbs.log2<1920∧Q (.str (Str.ofString (toString i))) H1):=by
 intro pins s σ H Q I h
 refine FormattedValue_plain (thn (he pins s σ H _ I h) fun v s1 ⟨x,H1,I1,r,i,ex,hs,q⟩=>?_)
 subst ex
 obtain ⟨tk,rfl⟩:=r
 exact formatField_int_small hs ⟨.str _,H1,I1.tok _,⟨_,rfl⟩,q⟩
end
section
variable {X:Cx} {x:Str} {C D f:Addr} {np apos pos:Pos} {e:Expr} {es:List Expr} {t:TA}
theorem Zwh {pl:Sem Bool} (xi:excInI X.K C f=true) (hm:X.mg x=some (.ref D)) (hga:specialIn X.K (.ref D) "__getattribute__"=some (some (.builtin "type.__getattribute__"))) (hrd:readsIn X.K D (.type "type")=true) (hfc:findCls X.K (.ref D) (.type "type") "__init__"=some (.val (.builtin "ValueError.__init__")))
  (ha:PA X (e::es) t) (hg:Gl X x:=by rfl) (hdb:(x == ("__debug__":Str))=false:=by decide +kernel)
  (hst:starEach (e::es) X.env=(false,eval e X.env)::starEach es X.env:=by rfl) (hpl:(backTo pos (starEach es X.env)).any (·.1)=false:=by rfl)
  (ht:eval (.Call (.Attribute (.Name x np) "__init__" apos) (e::es) [] pos) X.env=(do
   let ov ← eval (.Name x np) X.env
   standAt apos.atName
   let (f,first) ← holding [ov] (getMethod ov "__init__" pl)
   callWith pos f first (backTo pos (starEach (e::es) X.env)) (backToKw pos (keywordEach [] X.env))):=by rfl) :
  PE X (.Call (.Attribute (.Name x np) "__init__" apos) (e::es) [] pos) (fun σ H Q=>t σ H fun vs H1=>∃ a v,vs=[.ref a,v]∧H1 a=some (NewX a C none)∧Q .non H1):=by
 intro pins s σ H Q I h
 refine PySem.W.methodCall_KW (pl:=pl) (Jc I hg hm ?_ hdb) ht
 refine method_cls I.kIn hga (cls_value I.kIn hrd hfc rfl ?_)
 refine PyProof.Rows.callWith_builtin1 (thn (ha pos pins _ σ H _ (I.tok _) h) fun us s1 ⟨vs,H1,I1,r,a,v,hvs,hx,q⟩=>?_) hst hpl
 subst hvs
 obtain ⟨ua,ub,rfl,r1,r2⟩:=vals2 r
 obtain rfl:ua=Value.ref a:=r1
 obtain ⟨⟨o,vs,t0,e1,e2,e3,e4,e5,e6,e7⟩,_⟩:=(show ObjOk X.prog X.w H1 s1.heap a (NewX a C none) from I1.hok a _ hx)
 obtain ⟨bm,N,nm,qn,bs,hdct,sn,sub,ab,col,dd,k0,k1,k2,k3,k5,mN,h1,h2,h3,h4⟩:=(clsAtI I1.kIn xi).ex
 have FB:=PySem.F.excBase_ValueError
 refine wpAny_call (codeAny_call_builtin FB.init.plain FB.initEntry (wpAny_check_init_subU (B:="ValueError") FB h4 h1 e1 e2 ?_))
 unfold Builtin.«BaseException.__init__»
 dsimp only
 rw [if_neg (by simp)]
 unfold newTuple Builtin.BaseException.bexcPut
 have hsz:0<vs.size:=(Array.getElem?_eq_some_iff.mp e5).1
 have he1:=Heap.get?_push_of_some (h:=s1.heap) {cls := .type "tuple",data := .seq [ub].toArray} e1
 refine wpAny_bind (wpAny_newObj_type (wpAny_bind (wpAny_bind (wpAny_field he1 e4 e5 (wpAny_bind (wpAny_setField he1 e4 hsz ?_))))) (by show 1≤sizeLine;decide))
 refine wpAny_letGo (wpAny_pure ?_)
 have hd3:=Obj.data_mapFields e4 (·.setIfInBounds 0 (Value.ref s1.heap.objs.size))
 have he3:=Heap.get?_update_self (Obj.mapFields (·.setIfInBounds 0 (Value.ref s1.heap.objs.size))) he1 (Obj.isFreed_of_fields hd3)
 have W:=I1.write (o:=NewX a C none) (t':=s1.toks) (by rw [hx];trivial) (.inl rfl) (fun b u hb q=>by rw [Heap.get?_update_other _ _ (Ne.symm hb)];exact Heap.get?_push_of_some _ q) ⟨_,he3⟩
  (Zsi (t0:=s1.heap.objs.size) he3 ((Obj.cls_mapFields _ _).trans e2) ((Zah _ _).trans e3) hd3 (by simp [hsz]) (by rw [Array.getElem?_setIfInBounds_ne (by decide)];exact e6) (by rw [Array.getElem?_setIfInBounds_ne (by decide)];exact e7))
 rw [Qd hx] at W
 exact ⟨.non,H1,W,rfl,q⟩
end
noncomputable def sFldX (K:Frag) (ta tv:TE) (fl:Str):TS:=fun D σ H=>tv σ H fun y H1=>ta σ H1 fun x H2=>∃ a C,x = .ref a∧H2 a=some (NewX a C none)∧ExcS K C∧takerIn K C fl=some none∧∀ dx,H2 dx=none→D.nx σ (upd (upd H2 dx (.xd [(fl,y)])) a (NewX a C (some dx)))
theorem Xth {X:Cx} {o value:Expr} {ta tv:TE} {fl:Str} {pos pos':Pos} (ha:PE X o ta) (hv:PE X value tv) (hs:swapsWith value (some (.Attribute o fl pos')) pos.line X.env=pure false):PS X (.Assign [.Attribute o fl pos'] value pos) (sFldX X.K ta tv fl):=by
 intro pins s σ H D I h
 refine plainObj_wpAny_Assign_Attribute (thn (hv pins s σ H _ I h) fun u s1 ⟨y,H1,I1,ry,q⟩=>thn (ha pins s1 σ H1 _ I1 q) fun ov s2 ⟨x,H2,I2,rx,a,C,ex,hx,S,ht,q2⟩=>?_) hs
 subst ex
 obtain rfl:ov=Value.ref a:=rx
 obtain ⟨⟨o',vs,t0,e1,e2,e3,e4,e5,e6,e7⟩,_⟩:=(show ObjOk X.prog X.w H2 s2.heap a (NewX a C none) from I2.hok a _ hx)
 refine Xve I2.kIn e1 e2 e3 e4 S ht fun h' g1 g2 g3=>?_
 have fD:H2 s2.heap.objs.size=none:=I2.hok.fresh (Nat.le_refl _)
 have nD:a≠s2.heap.objs.size:=Nat.ne_of_lt (Heap.lt_size e1)
 refine ⟨σ,_,I2.un (h':=h') (t':=s2.toks+2) ⟨fun b u q n _ _=>?_,fun b u q n _ _=>⟨u.slots,?_⟩,fun b u q n _=>?_,fun b u q _=>?_,fun b xs q=>?_,fun b u xs q=>?_,fun b ps q=>⟨#[],?_⟩⟩ fun b u q=>?_,q2 _ fD⟩
 ·exact g3 b u (fun z=>by rw [z,hx] at n;cases n) q
 ·exact g3 b u (fun z=>by rw [z,hx] at n;cases n) q
 ·rw [Zm (fun z=>by rw [z,hx] at n;cases n),Zm (Nat.ne_of_lt (Heap.lt_size q))];exact n
 ·by_cases hb:b=a
  ·subst hb;exact ⟨_,g1⟩
  ·exact ⟨u,g3 b u hb q⟩
 ·rw [Zm (fun z=>by rw [z,hx] at q;cases q),Zm (Zp q fD)];exact q
 ·rw [Zm (fun z=>by rw [z,hx] at q;cases q),Zm (Zp q fD)];exact q
 ·rw [Zm (fun z=>by rw [z,hx] at q;cases q),Zm (Zp q fD),q];simp
 ·by_cases hb:b=a
  ·subst hb
   rw [Zc] at q;cases q
   exact Zsi g1 e2 rfl e4 e5 e6 e7
  ·rw [Zm hb] at q
   by_cases hbd:b=s2.heap.objs.size
   ·subst hbd
    rw [Zc] at q;cases q
    refine ⟨_,g2,fun f=>?_⟩
    show RelO (match f == fl with | true=>some y | false=>none) (if f=fl then some u else none)
    by_cases hf:f=fl
    ·rw [hf,beq_self_eq_true,if_pos rfl];exact ry
    ·rw [beq_false_of_ne hf,if_neg hf];trivial
   ·rw [Zm hbd] at q
    refine (I2.hok b u q).stay (fun c v hc z=>g3 c v ?_ z) (fun c r=>?_) fun c xs r=>?_
    ·rcases hc with rfl | hc
     ·exact hb
     ·intro z;rw [z,hx] at hc;cases hc
    ·rw [Zm (fun z=>by rw [z,hx] at r;cases r),Zm (Zp r fD)];exact r
    ·rw [Zm (fun z=>by rw [z,hx] at r;cases r),Zm (Zp r fD)];exact r
end L2
end
section
namespace L2
open PySem PySem.W PySem.Spec PyProof.Rows
noncomputable def MethOkE (P:Program) (w:World) (K:PySem.W.Frag) (mg:Str→Option Value) (base:Heap) (k:Nat) (C:Addr) (m:Str) (ps:List Str) (sp:Sp):Prop :=
 ∃ f fd,FnOk P w K mg base (CXe P w) k f fd ps sp∧Binds K fd ps []∧Meth K C m f
section
variable {X:Cx} {k1 k2 k':Nat} {C:Addr} {m:Str} {ps:List Str} {sp1 sp2:Sp} {e o:Expr} {es:List Expr} {t:TA} {ta:TE} {p pos apos:Pos} {E:St→XK}
theorem Xxg {f:Addr} {fd fd2:FuncData} {pins:List (Addr×Obj)} {σ:St} {H:Hp} {s:Shared} {Q:VK} {us:List Value} {vs:List V} (F:FnOk X.prog X.w X.K X.mg X.base CX0 k1 f fd ps sp1) (F2:FnOk X.prog X.w X.K X.mg X.base (CXe X.prog X.w) k2 f fd2 ps sp2) (hb:Binds X.K fd ps []) (hb2:Binds X.K fd2 ps [])
  (h1:Room k1 X.A) (h2:Room k2 X.A) (hx:PassesX (CXe X.prog X.w) X E) (I:Inv X pins σ H s) (r:Vals vs us) (q:sp1 vs H Q E0∨sp2 vs H Q (E σ)):wpAny (model X.prog X.w) X.A (call (.ref f) us) (EP X pins σ Q) X.xe s:=by
 rcases q with q | q
 ·exact Zjj (dvs:=[]) (ds:=[]) (us:=us) F h1 hb .nil pass0 I r (by rw [List.append_nil];exact q)
 ·have hl:us.length=ps.length:=by rw [← r.length];exact F2.len _ _ _ _ q
  have hb':=hb2 s us I.kIn (by rw [List.append_nil];exact hl)
  rw [List.append_nil] at hb'
  refine wpAny_call (codeAny_mono (F2.run X.A X.stack s H ⟨us,[]⟩ us vs Q (E σ) h2 I.env0 hb' r q) fun r s' hq=>?_)
  cases r with
  | error e=>exact hx pins σ H s e s' I hq
  | ok fl =>
   cases fl with
   | ret u=>exact I.after hq
   | next=>exact False.elim hq
   | brk=>exact False.elim hq
   | cont=>exact False.elim hq
theorem Zkc {pl:Sem Bool} (h:MethOk X.prog X.w X.K X.mg X.base k1 C m ps sp1) (h':MethOkE X.prog X.w X.K X.mg X.base k2 C m ps sp2) (c:Cls X.K C) (hr:Room k' X.A) (hx:PassesX (CXe X.prog X.w) X E) (he:PE X o ta) (hk:k1≤k':=by decide) (hk':k2≤k':=by decide)
  (ht:eval (.Call (.Attribute o m apos) [] [] pos) X.env=(do
   let ov ← eval o X.env
   standAt apos.atName
   let (f,first) ← holding [ov] (getMethod ov m pl)
   callWith pos f first (backTo pos (starEach [] X.env)) (backToKw pos (keywordEach [] X.env))):=by rfl) :
  PE X (.Call (.Attribute o m apos) [] [] pos) (fun σ H Q=>ta σ H fun x H1=>∃ a dx fs,x = .ref a∧H1 a=some (.ins C dx fs)∧fs.lookup m=none∧(sp1 [x] H1 Q E0∨sp2 [x] H1 Q (E σ))):=by
 obtain ⟨f,fd,F,hb,hm⟩:=h
 obtain ⟨f2,fd2,F2,hb2,hm2⟩:=h'
 obtain rfl:f=f2:=by
  have e1:=hm.at_
  rw [hm2.at_] at e1
  injection e1 with z;injection z with z;injection z with z;exact z.symm
 intro pins s σ H Q I h
 refine PySem.W.methodCall_KW (pl:=pl) (thn (he pins s σ H _ I h) fun u s1 ⟨x,H1,I1,rx,a,dx,fs,ex,ea,l,q⟩=>?_) ht
 subst ex
 obtain rfl:u=Value.ref a:=rx
 refine Zcg I1 ea c hm l ?_
 exact PySem.W.callWith_K0 (first:=[.ref a]) I1.kIn hm.kp (Xxg (us:=[.ref a]) (vs:=[.ref a]) F F2 hb hb2 (hr.mono hk) (hr.mono hk') hx I1 (.cons rfl .nil) q)
end
end L2
namespace L2
open PySem PySem.Spec PyProof.Rows
end L2
end
section
namespace KM
open PySem L2
theorem Xtc (l:List Bool):∀ a k,(rd a l).testBit (l.length+k)=a.testBit k:=by
 induction l with
 | nil=>intro a k;rw [List.length_nil,Nat.zero_add];rfl
 | cons b l ih =>
  intro a k
  rw [Zri,List.length_cons,show l.length+1+k=l.length+(k+1) by omega,ih,Zij]
theorem Jl (l:List Bool):∀ a,a≠0→blen (rd a l)=blen a+l.length∧bitsW (rd a l) l.length=l∧rd a l≠0:=by
 induction l with
 | nil=>intro a h;exact ⟨rfl,rfl,h⟩
 | cons b l ih =>
  intro a h
  obtain ⟨h1,h2,h3⟩:=ih (2*a+b.toNat) (by omega)
  rw [Zri]
  refine ⟨by rw [h1,Zmb h,List.length_cons];omega,?_,h3⟩
  rw [List.length_cons,bitsW,h2]
  congr 1
  have:=Xtc l (2*a+b.toNat) 0
  rw [Nat.add_zero] at this
  rw [this,Zdd]
theorem Qm:blen 1=1:=by decide
theorem drop_split (L:List Bool) (i k:Nat):L.drop i=(L.drop i).take k++L.drop (i+k):=by
 rw [← List.drop_drop,List.take_append_drop]
theorem Xje {L:List Bool} {i j:Nat} (h:i+j≤L.length) (o:∀ k,k<j→L.getD (i+k) false=true):(L.drop i).take j=List.replicate j true:=by
 refine List.eq_replicate_iff.mpr ⟨by rw [List.length_take,List.length_drop];omega,fun b hb=>?_⟩
 obtain ⟨k,hk,e⟩:=List.getElem_of_mem hb
 rw [List.length_take,List.length_drop] at hk
 have:=o k (by omega)
 rw [List.getD_eq_getElem?_getD,List.getElem?_eq_getElem (by omega)] at this
 rw [List.getElem_take,List.getElem_drop] at e
 rw [← e];exact this
theorem Zcb {L:List Bool} {i j d:Nat} (h7:j≤7) (o:∀ k,k<j→L.getD (i+k) false=true) (z:j<7→L.getD (i+j) false=false)
  (hd:d=rd 1 ((L.drop (i+j+(cend (j+1)).length)).take j)) (hl:i+j+(cend (j+1)).length+j+(d - 1)≤L.length) :
  ∃ n,n+1=rd 1 ((L.drop (i+j+(cend (j+1)).length+j)).take (d - 1))∧n+1<2 ^ 255∧cnt n <+: L.drop i∧(cnt n).length=j+(cend (j+1)).length+j+(d - 1):=by
 have l1:((L.drop (i+j+(cend (j+1)).length)).take j).length=j:=by rw [List.length_take,List.length_drop];omega
 obtain ⟨b1,b2,b3⟩:=Jl ((L.drop (i+j+(cend (j+1)).length)).take j) 1 (by decide)
 rw [l1,← hd,Qm] at b1
 rw [l1,← hd] at b2
 rw [← hd] at b3
 have l2:((L.drop (i+j+(cend (j+1)).length+j)).take (d - 1)).length=d - 1:=by rw [List.length_take,List.length_drop];omega
 obtain ⟨c1,c2,c3⟩:=Jl ((L.drop (i+j+(cend (j+1)).length+j)).take (d - 1)) 1 (by decide)
 rw [l2,Qm] at c1
 rw [l2] at c2
 obtain ⟨n,hn⟩:∃ n,n+1=rd 1 ((L.drop (i+j+(cend (j+1)).length+j)).take (d - 1)):=⟨rd 1 ((L.drop (i+j+(cend (j+1)).length+j)).take (d - 1)) - 1,by omega⟩
 rw [← hn] at c1 c2
 have bd:blen (n+1)=d:=by omega
 have be:blen d=j+1:=by omega
 have hd255:d<2 ^ 8:=by
  have:=Wq d
  rw [be] at this
  exact Nat.lt_of_lt_of_le this (Nat.pow_le_pow_right (by decide) (by omega))
 have hz:(L.drop (i+j)).take (cend (j+1)).length=cend (j+1):=by
  unfold cend
  split
  ·rfl
  ·rename_i hj
   have hj7:j<7:=by omega
   have hll:i+j<L.length:=by
    have:(cend (j+1)).length=1:=by unfold cend;rw [if_neg hj];rfl
    omega
   have:=z hj7
   rw [List.getD_eq_getElem?_getD,List.getElem?_eq_getElem hll] at this
   rw [List.drop_eq_getElem_cons hll]
   show [L[i+j]]=[false]
   rw [show L[i+j]=false from this]
 have len:(cnt n).length=j+(cend (j+1)).length+j+(d - 1):=by
  unfold cnt
  rw [bd,be]
  simp [Xd]
  omega
 refine ⟨n,hn,?_,?_,len⟩
 ·have:=Wq (n+1)
  rw [bd] at this
  exact Nat.lt_of_lt_of_le this (Nat.pow_le_pow_right (by decide) (by omega))
 ·have e1:=drop_split L i j
  have e2:=drop_split L (i+j) (cend (j+1)).length
  have e3:=drop_split L (i+j+(cend (j+1)).length) j
  have e4:=drop_split L (i+j+(cend (j+1)).length+j) (d - 1)
  rw [Xje (by omega) o] at e1
  rw [hz] at e2
  rw [← b2] at e3
  rw [← c2] at e4
  rw [e1,e2,e3,e4]
  unfold cnt
  rw [bd,be]
  simp only [Nat.add_sub_cancel,List.append_assoc]
  refine ⟨L.drop (i+j+(cend (j+1)).length+j+(d - 1)),?_⟩
  simp only [List.append_assoc]
theorem Zvg (l:List Bool) (k:Nat) (h:k≤l.length):Txt.slice (rowS l) none (some (k:Int))=rowS (l.take k):=by
 rw [Wl,HT.sIx_nat,HT.sIx_none,Nat.min_eq_left (by omega),List.drop_zero,Nat.sub_zero]
end KM
end
section
namespace L2
open PySem PySem.W PySem.Spec PyProof.Rows
section
variable {X:Cx}
noncomputable def oAdd3:=OpR.or (oAdd (X:=X)) Zff
end
end L2
namespace KM
open PySem L2
end KM
end
section
namespace L2
open PySem PySem.W PySem.Spec PyProof.Rows
section
variable {X:Cx}
end
section
variable {X:Cx} {tg:Expr}
theorem Xrg (hc:X.calm=true):CallR X (.builtin "all") (fun xs H Q=>∃ a,∃ bs:List Bool,xs=[.ref a]∧SqL X.K H a (bs.map .bl)∧Q (.bl (bs.all id)) H):=by
 intro pins s σ H xs us Q I r h
 obtain ⟨a,bs,rfl,hq,q⟩:=h
 obtain ⟨u,rfl,ru⟩:=vals1 r
 obtain rfl:u=Value.ref a:=ru
 obtain ⟨its,rv,pl,hz⟩:=I.list hq
 have hlen:=rv.length
 have hlt:a<s.heap.objs.size:=by obtain ⟨o,ho,_⟩:=pl.isList;exact Heap.lt_size ho
 refine call_all_walkS (wpAny_pyIter_list pl.isList ?_)
 refine ⟨s.heap.objs.size,[s.heap.objs.size,a],[s.heap.objs.size],_,its.toArray.size,_,_,fun i=>bs.getD i false,rfl,(Walks.list (A:=X.A.in1) (I.ok.hd hc) s.heap.objs.size a (Nat.ne_of_lt hlt) its.toArray).toS,⟨⟨_,Heap.get?_push_size _ rfl,rfl,rfl⟩,?_⟩,?_,fun s' mv=>?_⟩
 ·obtain ⟨o,ho,r⟩:=pl.isList;exact ⟨o,Heap.get?_push_of_some _ ho,r⟩
 ·intro i v s2 Q2 E2 hv q2
  have hv':its[i]?=some v:=by simpa using hv
  have hi:i<bs.length:=by
   have:=(List.getElem?_eq_some_iff.mp hv').1
   rw [List.length_map] at hlen;omega
  have hb:(bs.map V.bl)[i]?=some (.bl (bs.getD i false)):=by rw [List.getElem?_map,List.getElem?_eq_getElem hi,List.getD_eq_getElem?_getD,List.getElem?_eq_getElem hi];rfl
  obtain ⟨u,hu,ru⟩:=rv.get hb
  rw [hv'] at hu;cases hu
  obtain rfl:v=Value.bool (bs.getD i false):=ru
  exact wpAny_truthy_bool q2
 ·have hall:(List.range its.toArray.size).all (fun i=>bs.getD i false)=bs.all id:=by
   rw [List.size_toArray,← hlen,List.length_map]
   apply Bool.eq_iff_iff.mpr
   rw [List.all_eq_true,List.all_eq_true]
   constructor
   ·intro h x hx
    obtain ⟨i,hi,rfl⟩:=List.mem_iff_getElem.mp hx
    have:=h i (List.mem_range.mpr hi)
    rw [List.getD_eq_getElem?_getD,List.getElem?_eq_getElem hi] at this
    exact this
   ·intro h i hi
    have hi':=List.mem_range.mp hi
    rw [List.getD_eq_getElem?_getD,List.getElem?_eq_getElem hi']
    exact h _ (List.getElem_mem hi')
  rw [hall]
  refine ⟨.bl _,H,?_,rfl,q⟩
  have I2:Inv X pins σ H {s with heap:=s.heap.push {cls := .type "list_iterator",data := .fields #[.ref a,.int 0 0]}}:=I.kept (t':=s.toks) fun b o e=>Heap.get?_push_of_some _ e
  obtain ⟨f0,f1,f2,f3,f4,f5⟩:=I.fpOk (b:=s.heap.objs.size) (Nat.le_refl _) (I.hok.fresh (Nat.le_refl _))
  have e:s'={s with heap:=s'.heap,toks:=s'.toks}:=by
   obtain ⟨h1,g1,d1,t1,o1⟩:=s'
   have:=mv.gens;have:=mv.drawn;have:=mv.os
   dsimp only at *
   subst_vars;rfl
  have I3:=I2.turned (t':=s'.toks) (it:=s.heap.objs.size) (h':=s'.heap) (fun b o hb e=>mv.heap b o (by simpa using hb) e) f0 f1 f3 f4 f5
  rw [e]
  exact I3
end
theorem Xlf (l:List V):cutV l (some 1) none=l.drop 1:=by
 unfold cutV HT.sIx
 cases l with
 | nil=>rfl
 | cons a r=>simp
end L2
namespace L2
open PySem PySem.W PySem.Spec PyProof.Rows
section
variable {X:Cx}
end
end L2
namespace L2
open PySem PySem.W PySem.Spec PyProof.Rows
theorem Xlg {K:PySem.W.Frag} {a:Addr} {xs:List V} {g:TG} {te:TE} {Q:VK} {H:Hp} {D:Addr} {σ0:St} (f:V→V) (S:St→Prop) (hz:xs.length≤sizeLine) (h0:S σ0) (hD:H D=none) (hl:SqL K H a xs)
  (ht:∀ x,x∈xs→∀ σ1 H1,S σ1→Same H H1→∀ R:St→V→Hp→Prop,(∀ σ2,S σ2→R σ2 (f x) H1)→g x σ1 H1 fun σ2 H2=>te σ2 H2 fun y H3=>R σ2 y H3)
  (hq:Q (.ref D) (upd H D (.lst (xs.map f)))) :
  CompGo (Itl K a) g tYes te Q σ0 H D:=by
 refine ⟨fun i m σ1 H2=>i≤xs.length∧m=xs.length - i∧S σ1∧H2=upd H D (.lst ((xs.take i).map f)),⟨xs.length,Nat.zero_le _,rfl,h0,rfl⟩,?_⟩
 rintro i m σ1 H2 ⟨h1,rfl,h2,rfl⟩
 have hl2:=(Zh (o := .lst ((xs.take i).map f)) hD).seq hl
 rcases Nat.lt_or_ge i xs.length with z | z
 ·refine .inr ⟨⟨xs,xs[i],hl2,List.getElem?_eq_getElem z⟩,?_⟩
  rintro x H3 ⟨rfl,hx⟩
  have hx:=hx xs hl2
  refine ht x (List.mem_of_getElem? hx) σ1 _ h2 (Zh hD) (fun σ2 y H6=>∃ ys m',H6 D=some (.lst ys)∧ys.length<sizeLine∧m'<xs.length - i∧(i+1≤xs.length∧m'=xs.length - (i+1)∧S σ2∧upd H6 D (.lst (ys++[y]))=upd H D (.lst ((xs.take (i+1)).map f)))) fun σ2 q3=>?_
  refine ⟨_,xs.length - (i+1),Zc,?_,by omega,by omega,rfl,q3,?_⟩
  ·rw [List.length_map,List.length_take];omega
  ·rw [Xh,List.take_add_one,hx,List.map_append];rfl
 ·have e:i=xs.length:=by omega
  subst e
  rw [List.take_length]
  rw [List.take_length] at hl2
  exact .inl ⟨⟨xs,hl2,Nat.le_refl _⟩,hq⟩
theorem Ji {K:PySem.W.Frag} {a:Addr} {xs:List V} {g:TG} {tc:TT} {te:TE} {Q:VK} {H:Hp} {D:Addr} {σ0:St} (keep:V→Bool) (f:V→V) (S:St→Prop) (hz:xs.length≤sizeLine) (h0:S σ0) (hD:H D=none) (hl:SqL K H a xs)
  (ht:∀ x,x∈xs→∀ σ1 H1,S σ1→Same H H1→∀ (R:St→V→Hp→Prop) (R':St→Hp→Prop),(∀ σ2,S σ2→if keep x=true then R σ2 (f x) H1 else R' σ2 H1)→g x σ1 H1 fun σ2 H2=>tc σ2 H2 fun b H3=>if b=true then te σ2 H3 fun y H4=>R σ2 y H4 else R' σ2 H3)
  (hq:Q (.ref D) (upd H D (.lst ((xs.filter keep).map f)))) :
  CompGo (Itl K a) g tc te Q σ0 H D:=by
 refine ⟨fun i m σ1 H2=>i≤xs.length∧m=xs.length - i∧S σ1∧H2=upd H D (.lst (((xs.take i).filter keep).map f)),⟨xs.length,Nat.zero_le _,rfl,h0,rfl⟩,?_⟩
 rintro i m σ1 H2 ⟨h1,rfl,h2,rfl⟩
 have hl2:=(Zh (o := .lst (((xs.take i).filter keep).map f)) hD).seq hl
 rcases Nat.lt_or_ge i xs.length with z | z
 ·refine .inr ⟨⟨xs,xs[i],hl2,List.getElem?_eq_getElem z⟩,?_⟩
  rintro x H3 ⟨rfl,hx⟩
  have hx:=hx xs hl2
  refine ht x (List.mem_of_getElem? hx) σ1 _ h2 (Zh hD) (fun σ2 y H6=>∃ ys m',H6 D=some (.lst ys)∧ys.length<sizeLine∧m'<xs.length - i∧(i+1≤xs.length∧m'=xs.length - (i+1)∧S σ2∧upd H6 D (.lst (ys++[y]))=upd H D (.lst (((xs.take (i+1)).filter keep).map f))))
   (fun σ2 H5=>∃ m',m'<xs.length - i∧(i+1≤xs.length∧m'=xs.length - (i+1)∧S σ2∧H5=upd H D (.lst (((xs.take (i+1)).filter keep).map f)))) fun σ2 q3=>?_
  have et:xs.take (i+1)=xs.take i++[x]:=by rw [List.take_add_one,hx];rfl
  by_cases hk:keep x=true
  ·rw [if_pos hk]
   refine ⟨_,xs.length - (i+1),Zc,?_,by omega,by omega,rfl,q3,?_⟩
   ·rw [List.length_map]
    have:=List.length_filter_le keep (xs.take i)
    rw [List.length_take] at this;omega
   ·rw [Xh,et,List.filter_append,List.map_append,List.filter_cons_of_pos hk];rfl
  ·rw [if_neg hk]
   refine ⟨xs.length - (i+1),by omega,by omega,rfl,q3,?_⟩
   rw [et,List.filter_append,List.map_append,List.filter_cons_of_neg hk];simp
 ·have e:i=xs.length:=by omega
  subst e
  rw [List.take_length]
  rw [List.take_length] at hl2
  exact .inl ⟨⟨xs,hl2,Nat.le_refl _⟩,hq⟩
end L2
end
section
namespace KM
open PySem L2
noncomputable def Tail (r:List Int):Prop:=(∀ x∈r,1≤x)∧∀ h:r≠[],2≤r.getLast h
noncomputable def Good:List Int→Prop
 | []=>False
 | _::r=>Tail r
end KM
end
section
namespace L2
open PySem PySem.W PySem.Spec PyProof.Rows
section
variable {X:Cx} {pins:List (Addr×Obj)} {σ:St} {H:Hp} {s:Shared} {h':Heap}
theorem Inv.turnedNew {t':Nat} {ch:List Addr} {a:Addr} {o:HO} (I:Inv X pins σ H s) (k:∀ b u,b∉ch→s.heap.get? b=some u→h'.get? b=some u) (hf:∀ b∈ch,FpOk X pins H b) (ha:s.heap.objs.size≤a) (new:ObjOk X.prog X.w (upd H a o) h' a o) :
  Inv X pins σ (upd H a o) {s with heap:=h',toks:=t'}:=by
 have hn:=I.hok.fresh ha
 have nch:∀ b u,H b=some u→b∉ch:=fun b u e z=>by have:=(hf b z).1;rw [this] at e;cases e
 have ne:∀ b u,s.heap.get? b=some u→b≠a:=fun b u e z=>by subst z;exact absurd (Nat.lt_of_lt_of_le (Heap.lt_size e) ha) (Nat.lt_irrefl _)
 refine I.step (g':=s.gens) (d':=s.drawn) (ch:=ch) (fun b hb=>?_) (fun b o _ _ hc e _=>k b o hc e) (fun b o _ _ hc e _=>⟨o.slots,k b o hc e⟩) (fun b u _ e n=>by rw [Zm (ne b u e)];exact n)
  (fun b o hc e=>⟨o,k b o hc e⟩) (fun b xs e=>by rw [Zm (Zp e hn)];exact e) (fun b u v e=>by rw [Zm (Zp e hn)];exact e) (fun b ps e=>⟨#[],by rw [Zm (Zp e hn),e];simp⟩) (fun m hm=>?_) (fun b u e=>?_) I.bare
 ·obtain ⟨f0,f1,f2,f3,f4,f5⟩:=hf b hb
  exact ⟨f3,f1,f4,f5⟩
 ·obtain ⟨ob,es,ep,ho,r⟩:=hm
  exact ⟨ob,es,ep,k _ ob (fun z=>(hf _ z).2.1 rfl) ho,r⟩
 ·by_cases hb:b=a
  ·subst hb;rw [Zc] at e;cases e;exact new
  ·rw [Zm hb] at e
   refine (I.hok b u e).stay (fun c v hc q=>k c v ?_ q) (fun c q=>by rw [Zm (Zp q hn)];exact q) fun c xs q=>by rw [Zm (Zp q hn)];exact q
   rcases hc with z | z
   ·rw [z];exact nch b u e
   ·exact nch c _ z
theorem Inv.turnedL {t':Nat} {ch:List Addr} (I:Inv X pins σ H s) (k:∀ b u,b∉ch→s.heap.get? b=some u→h'.get? b=some u) (hf:∀ b∈ch,FpOk X pins H b):Inv X pins σ H {s with heap:=h',toks:=t'}:=by
 have nch:∀ b u,H b=some u→b∉ch:=fun b u e z=>by have:=(hf b z).1;rw [this] at e;cases e
 refine I.step (g':=s.gens) (d':=s.drawn) (ch:=ch) (fun b hb=>?_) (fun b o _ _ hc e _=>k b o hc e) (fun b o _ _ hc e _=>⟨o.slots,k b o hc e⟩) (fun _ _ _ _ n=>n)
  (fun b o hc e=>⟨o,k b o hc e⟩) (fun _ _ e=>e) (fun _ _ _ e=>e) (fun b ps e=>⟨#[],by rw [e];simp⟩) (fun m hm=>?_) (fun b u e=>?_) I.bare
 ·obtain ⟨f0,f1,f2,f3,f4,f5⟩:=hf b hb
  exact ⟨f3,f1,f4,f5⟩
 ·obtain ⟨ob,es,ep,ho,r⟩:=hm
  exact ⟨ob,es,ep,k _ ob (fun z=>(hf _ z).2.1 rfl) ho,r⟩
 ·refine (I.hok b u e).stay (fun c v hc q=>k c v ?_ q) (fun _ q=>q) fun _ _ q=>q
  rcases hc with z | z
  ·rw [z];exact nch b u e
  ·exact nch c _ z
end
section
variable {X:Cx}
end
end L2
end
section
namespace KM
open PySem L2
noncomputable def more:List Int→List Bool
 | []=>[false]
 | b::r=>true::(cnt (b - 1).toNat++more r).map (!·)
noncomputable def cd (p q:Int):Int:=if h:0<q then cd q (p%q) else p
termination_by q.toNat
decreasing_by
 have:=Int.emod_lt_of_pos p h
 have:=Int.emod_nonneg p (Int.ne_of_gt h)
 omega
end KM
namespace L2
open PySem PySem.Spec PyProof.Rows
end L2
end
section
namespace KM
open PySem L2
end KM
end
section
namespace L2
open PySem PySem.W PySem.Spec PyProof.Rows
section
variable {X:Cx}
end
end L2
end
section
namespace L2
open PySem PySem.W PySem.Spec PyProof.Rows
end L2
end
section
namespace KM
open PySem L2
noncomputable def mp:List Int→List Bool
 | []=>[]
 | b::r=>true::(cnt (b - 1).toNat++mp r).map (!·)
end KM
end
section
namespace L2
open PySem PySem.W PySem.Spec PyProof.Rows
section
variable {X:Cx}
end
end L2
namespace KM
open PySem L2
theorem Wm (l:List Bool) (lo hi:Option Int):∃ l',Txt.slice (rowS l) lo hi=rowS l'∧l'.length≤l.length:=by
 refine ⟨_,Wl ..,?_⟩
 rw [List.length_take,List.length_drop]
 omega
noncomputable def Lt (a b:List Bool):Prop:=(rowS a).cps.toList<(rowS b).cps.toList
noncomputable instance (a b:List Bool):Decidable (Lt a b):=inferInstanceAs (Decidable (_<_))
theorem Xyj (a:List Bool):¬Lt a []:=by
 unfold Lt;rw [Xi,Xi];exact List.not_lt_nil _
theorem Xpb (y:Bool) (b:List Bool):Lt [] (y::b):=by
 unfold Lt;rw [Xi,Xi];exact List.nil_lt_cons _ _
theorem Zth {x y:Bool} {a b:List Bool}:Lt (x::a) (y::b)↔(x=false∧y=true)∨(x=y∧Lt a b):=by
 unfold Lt
 rw [Xi,Xi,Xi,Xi,List.map_cons,List.map_cons,List.cons_lt_cons_iff]
 cases x<;>cases y<;>simp [bc]
theorem Xza (a:List Bool):¬Lt a a:=List.lt_irrefl _
theorem Xfg {a b:List Bool} (h:Lt a b):¬Lt b a:=fun q=>List.lt_asymm q h
theorem Ybj {a b c:List Bool} (h:Lt a b) (h2:Lt b c):Lt a c:=List.lt_trans h h2
theorem Zsj (a b:List Bool):Lt a b∨a=b∨Lt b a:=by
 induction a generalizing b with
 | nil=>cases b with
  | nil=>exact .inr (.inl rfl)
  | cons y b=>exact .inl (Xpb y b)
 | cons x a ih=>cases b with
  | nil=>exact .inr (.inr (Xpb x a))
  | cons y b =>
   rw [Zth,Zth]
   rcases ih b with h | h | h
   ·cases x<;>cases y<;>simp [h]
   ·subst h;cases x<;>cases y<;>simp
   ·cases x<;>cases y<;>simp [h]
noncomputable def com:List Bool→List Bool→Nat
 | x::a,y::b=>if x=y then com a b+1 else 0
 | _,_=>0
theorem Xre {a b:List Bool}:∀ {m:Nat},m<com a b→∃ x,a[m]?=some x∧b[m]?=some x:=by
 induction a generalizing b with
 | nil=>intro m h;exact absurd h (by cases b<;>exact Nat.not_lt_zero _)
 | cons x a ih =>
  cases b with
  | nil=>intro m h;exact absurd h (Nat.not_lt_zero _)
  | cons y b =>
   intro m h
   unfold com at h
   split at h
   ·rename_i e
    subst e
    cases m with
    | zero=>exact ⟨x,rfl,rfl⟩
    | succ m=>exact ih (b:=b) (by omega)
   ·exact absurd h (Nat.not_lt_zero _)
theorem Zcj {a b:List Bool}:com a b≤a.length∧com a b≤b.length:=by
 induction a generalizing b with
 | nil=>cases b<;>exact ⟨Nat.zero_le _,Nat.zero_le _⟩
 | cons x a ih =>
  cases b with
  | nil=>exact ⟨Nat.zero_le _,Nat.zero_le _⟩
  | cons y b =>
   unfold com
   split
   ·exact ⟨Nat.succ_le_succ ih.1,Nat.succ_le_succ ih.2⟩
   ·exact ⟨Nat.zero_le _,Nat.zero_le _⟩
theorem Xgi (a b:List Bool):com a b=a.length∨com a b=b.length∨∃ x y,a[com a b]?=some x∧b[com a b]?=some y∧x≠y:=by
 induction a generalizing b with
 | nil=>left;cases b<;>rfl
 | cons x a ih =>
  cases b with
  | nil=>right;left;rfl
  | cons y b =>
   unfold com
   split
   ·rcases ih b with h | h | ⟨u,v,h1,h2,h3⟩
    ·left;rw [h];rfl
    ·right;left;rw [h];rfl
    ·right;right;exact ⟨u,v,h1,h2,h3⟩
   ·rename_i e
    exact .inr (.inr ⟨x,y,rfl,rfl,e⟩)
end KM
namespace KM
open PySem L2
theorem Qg (a:List Bool) (j:Nat):Txt.slice (rowS a) (some (j:Int)) (some ((j:Int)+1))=rowS ((a.drop j).take 1):=by
 rw [Wl]
 congr 1
 have e1:HT.sIx a.length 0 (some (j:Int))=min j a.length:=by
  unfold HT.sIx
  show (if (j:Int)<0 then _ else _)=_
  rw [if_neg (by omega)]
  omega
 have e2:HT.sIx a.length a.length (some ((j:Int)+1))=min (j+1) a.length:=by
  unfold HT.sIx
  show (if ((j:Int)+1)<0 then _ else _)=_
  rw [if_neg (by omega)]
  omega
 rw [e1,e2]
 rcases Nat.lt_or_ge j a.length with h | h
 ·have h1:min j a.length=j:=by omega
  have h2:min (j+1) a.length - j=1:=by omega
  rw [h1,h2]
 ·rw [List.drop_eq_nil_of_le h,List.drop_eq_nil_of_le (by omega)];simp
theorem take1 (a:List Bool) (j:Nat):(a.drop j).take 1=a[j]?.toList:=by
 rcases Nat.lt_or_ge j a.length with h | h
 ·rw [List.drop_eq_getElem_cons h,List.getElem?_eq_getElem h];rfl
 ·rw [List.drop_eq_nil_of_le h,List.getElem?_eq_none h];rfl
end KM
end
section
namespace L2
open PySem PySem.W PySem.Spec PyProof.Rows
section
variable {prog:Program} {w:World} {A:Around} {E:Value→Shared→Prop} {s:Shared}
end
section
variable {X:Cx}
theorem Xjd:OpR X (compareOp .LtE) (fun x y H Q=>∃ i j,x = .str i∧y = .str j∧Q (.bl (!decide (j.cps.toList<i.cps.toList))) H):=by
 intro pins s σ H x y u v Q I ru rv h
 obtain ⟨i,j,rfl,rfl,q⟩:=h
 obtain ⟨t,rfl⟩:=ru
 obtain ⟨t',rfl⟩:=rv
 exact PySem.P.le_str (Xg I q rfl)
noncomputable def rInsert:V→List V→Hp→VK→Prop:=fun x vs H Q=>∃ (l:Addr) (xs:List V) (i:Int) (k:Nat) (y:V),x = .ref l∧vs=[.int i,y]∧H l=some (.lst xs)∧i=((k:Nat):Int)∧k≤xs.length∧xs.length<100000∧Q .non (upd H l (.lst (xs.take k++y::xs.drop k)))
theorem Xji:MtM X "list.insert" rInsert:=by
 intro pins s σ H x vs v us Q I rx rv h
 obtain ⟨l,xs,i,k,y,rfl,rfl,hH,hik,hk,hz,q⟩:=h
 cases rx
 obtain ⟨u1,u2,rfl,⟨t,rfl⟩,ru⟩:=vals2 rv
 obtain ⟨z,its,n,r,hl,e⟩:=I.lstM hH
 have h5:(100000:Nat)≤sizeLine:=by decide
 have hfit:Builtin.List.listFitsIndex i=true:=fitsIndex_both (by omega) (by omega)
 have hc0:¬(!Builtin.List.listFitsIndex i)=true:=by rw [hfit];exact Bool.false_ne_true
 have hsz:its.toArray.size≤sizeLine:=by rw [List.size_toArray];omega
 refine call_meets F.slot_list_insert ⟨_,e,rfl⟩ F.entry_list_insert (F.args_list_insert_3 _ _ _) (@AutoListH.list_insert_list_int_val_1 l its.toArray n i t u2 hc0 hsz) ⟨e,?_⟩
 refine ⟨.non,_,I.lset (its':=its.take k++u2::its.drop k) hH e ?_ ((r.take k).append (.cons ru (r.drop k))) ?_,rfl,q⟩
 ·show (have k':=if i<0 then (i+((its.toArray.size:Nat):Int)).toNat else min i.toNat its.toArray.size;(its.toArray.extract 0 k').push u2++its.toArray.extract k')=_
  have e1:(if i<0 then (i+((its.toArray.size:Nat):Int)).toNat else min i.toNat its.toArray.size)=k:=by
   rw [if_neg (by omega),List.size_toArray];omega
  simp only [e1]
  apply Array.ext'
  simp [List.extract]
  exact List.take_of_length_le (by rw [List.length_drop];exact Nat.le_refl _)
 ·rw [List.length_append,List.length_cons,List.length_take,List.length_drop]
  omega
end
noncomputable def Itz (K:PySem.W.Frag) (a b:Addr) (xs ys:List V):It :=
 ⟨fun i H=>SqL K H a xs∧SqL K H b ys∧i<min xs.length ys.length,fun i H x H'=>∃ (T:Addr) (u v:V),H T=none∧xs[i]?=some u∧ys[i]?=some v∧x = .ref T∧H'=upd H T (.tup [u,v]),fun i H=>SqL K H a xs∧SqL K H b ys∧min xs.length ys.length≤i⟩
theorem Xmh {P:Program} {w:World} {K:PySem.W.Frag} {elts:List Expr} {k:Nat} {pos:Pos} (a b z TI TO i1 i2:Addr) (xs ys:List V) (D:ZipApart z TI TO i1 i2 a b) :
  Turn P w K (.Tuple elts k pos) (Itz K a b xs ys) [z,TI,TO,i1,i2] z (fun i h=>i≤min xs.length ys.length∧IsZip h z TI TO .none∧IsPair h TI (.ref i1) (.ref i2)∧(∃ a b,IsPair h TO a b)∧h.IsListIter i1 a i∧h.IsListIter i2 b i) where
 mem:=by simp
 obj:=fun i h st c hc=>by
  obtain ⟨_,st1,st2,⟨p,q,st3⟩,st4,st5⟩:=st
  rcases List.mem_cons.mp hc with e | hc
  ·subst e;exact ⟨_,st1,fun v z=>by cases z⟩
  rcases List.mem_cons.mp hc with e | hc
  ·subst e;exact ⟨_,st2,fun v z=>by cases z⟩
  rcases List.mem_cons.mp hc with e | hc
  ·subst e;exact ⟨_,st3,fun v z=>by cases z⟩
  rcases List.mem_cons.mp hc with e | hc
  ·subst e
   obtain ⟨o,e,c,d⟩:=st4
   exact ⟨o,e,fun v z=>by rw [d] at z;cases z⟩
  ·obtain rfl:=List.mem_singleton.mp hc
   obtain ⟨o,e,c,d⟩:=st5
   exact ⟨o,e,fun v z=>by rw [d] at z;cases z⟩
 keep:=fun i h h' st k=>by
  obtain ⟨hi,st1,st2,⟨p,q,st3⟩,st4,st5⟩:=st
  exact ⟨hi,k z (by simp) _ st1,k TI (by simp) _ st2,⟨p,q,k TO (by simp) _ st3⟩,st4.at fun o e=>k i1 (by simp) o e,st5.at fun o e=>k i2 (by simp) o e⟩
 item:=by
  intro X hP hw hK hc i pins s σ H E I hf st hg
  subst hP hw hK
  obtain ⟨hq1,hq2,hi⟩:=hg
  obtain ⟨its1,rv1,p1,hz1⟩:=I.list hq1
  obtain ⟨its2,rv2,p2,hz2⟩:=I.list hq2
  have hlen1:=rv1.length
  have hlen2:=rv2.length
  have W:=WalksT.zip2 (prog:=X.prog) (w:=X.w) (I.ok.hd hc) z TI TO i1 i2 a b D its1.toArray its2.toArray
  refine W.item i s _ _ (by rw [List.size_toArray,List.size_toArray];omega) ⟨st.2.1,st.2.2.1,st.2.2.2.1,st.2.2.2.2.1,st.2.2.2.2.2,p1.isList,p2.isList⟩ fun T vals h' tk hv hT htup mid kk=>?_
  refine ⟨_,rfl,W.go elts k pos i T _ _ _ mid fun h'' st' kk'=>?_⟩
  obtain ⟨u1,u2,hu1,hu2,rfl⟩:=hv
  have hu1':its1[i]?=some u1:=by simpa using hu1
  have hu2':its2[i]?=some u2:=by simpa using hu2
  have hy1:xs[i]?=some (xs[i]'(by omega)):=List.getElem?_eq_getElem _
  have hy2:ys[i]?=some (ys[i]'(by omega)):=List.getElem?_eq_getElem _
  obtain ⟨v1,hv1,ru1⟩:=rv1.get hy1
  obtain ⟨v2,hv2,ru2⟩:=rv2.get hy2
  rw [hu1'] at hv1;cases hv1
  rw [hu2'] at hv2;cases hv2
  have hTf:=I.hok.fresh hT
  have nT:T∉[z,TO,i1,i2]:=W.apart i T h' mid
  have nT2:∀ c∈[z,TI,TO,i1,i2],c≠T:=fun c hcm e=>by
   subst e
   rcases List.mem_cons.mp hcm with e | hcm
   ·exact nT (by rw [e];simp)
   rcases List.mem_cons.mp hcm with e | hcm
   ·have h0:=Heap.lt_size st.2.2.1
    rw [← e] at h0
    exact absurd (Nat.lt_of_lt_of_le h0 hT) (Nat.lt_irrefl _)
   ·exact nT (List.mem_cons_of_mem _ hcm)
  refine ⟨.ref T,upd H T (.tup [xs[i]'(by omega),ys[i]'(by omega)]),?_,rfl,⟨T,_,_,hTf,hy1,hy2,rfl,rfl⟩,⟨by omega,st'.1,st'.2.1,st'.2.2.1,st'.2.2.2.1,st'.2.2.2.2.1⟩,fun c hcm=>?_⟩
  ·refine I.turnedNew (ch:=[z,TO,i1,i2]) (t':=tk) (fun c o hcn ec=>kk' c o hcn (kk c o hcn ec)) (fun c hcm=>hf c ?_) hT ?_
   ·rcases List.mem_cons.mp hcm with e | hcm
    ·rw [e];simp
    ·exact List.mem_cons_of_mem _ (List.mem_cons_of_mem _ hcm)
   refine ⟨by show 2≤sizeLine;decide,[u1,u2],.cons ru1 (.cons ru2 .nil),?_⟩
   obtain ⟨o,ho,r⟩:=htup
   exact ⟨o,kk' T o nT ho,r⟩
  ·rw [Zm (nT2 c hcm)]
   exact (hf c hcm).1
 done:=by
  intro X hP hw hK hc i pins s σ H E I hf st hg
  subst hP hw hK
  obtain ⟨hq1,hq2,hi⟩:=hg
  obtain ⟨its1,rv1,p1,hz1⟩:=I.list hq1
  obtain ⟨its2,rv2,p2,hz2⟩:=I.list hq2
  have hlen1:=rv1.length
  have hlen2:=rv2.length
  have W:=WalksT.zip2 (prog:=X.prog) (w:=X.w) (I.ok.hd hc) z TI TO i1 i2 a b D its1.toArray its2.toArray
  have ei:i=min its1.toArray.size its2.toArray.size:=by rw [List.size_toArray,List.size_toArray];have:=st.1;omega
  subst ei
  refine W.done s _ _ ⟨st.2.1,st.2.2.1,st.2.2.2.1,st.2.2.2.2.1,st.2.2.2.2.2,p1.isList,p2.isList⟩ fun h' tk kk=>⟨rfl,I.turnedL (t':=tk) kk fun c hcm=>hf c ?_⟩
  rcases List.mem_cons.mp hcm with e | hcm
  ·rw [e];simp
  ·exact List.mem_cons_of_mem _ (List.mem_cons_of_mem _ hcm)
 self:=fun A i s Q E st h=>wpAny_pyIter_zip st.2.1 h
section
variable {X:Cx}
noncomputable def iZip (K:PySem.W.Frag) (ta:TA):TI:=fun σ H R=>ta σ H fun vs H1=>∃ a b xs ys,vs=[.ref a,.ref b]∧SqL K H1 a xs∧SqL K H1 b ys∧R (Itz K a b xs ys) H1
theorem Xoe {l m:Expr} {ta:TA} {p pos:Pos} {elts:List Expr} {k:Nat} {tpos:Pos} (hg:Gl X "zip") (hm:X.mg "zip"=none) (ha:PA X [l,m] ta) (hs:starEach [l,m] X.env=[(false,eval l X.env),(false,eval m X.env)]:=by rfl) (hs2:starEach [m] X.env=[(false,eval m X.env)]:=by rfl) :
  PI X (.Tuple elts k tpos) (.Call (.Name "zip" p) [l,m] [] pos) (iZip X.K ta):=by
 intro pins s σ H R I h
 refine Call_ (Qv I hg hm boot_zip (PyProof.Rows.callWith_type1 (thn (ha pos pins s σ H (fun vs H1=>∃ a b xs ys,vs=[.ref a,.ref b]∧SqL X.K H1 a xs∧SqL X.K H1 b ys∧R (Itz X.K a b xs ys) H1) I h) fun us s1 ⟨vs,H1,I1,r1,q1⟩=>?_) (by rw [hs,hs2]) (by rw [hs2];rfl)))
 obtain ⟨a,b,xs,ys,rfl,hq1,hq2,q⟩:=q1
 obtain ⟨u1,u2,rfl,ru1,ru2⟩:=vals2 r1
 obtain rfl:u1=Value.ref a:=ru1
 obtain rfl:u2=Value.ref b:=ru2
 obtain ⟨its1,rv1,p1,hz1⟩:=I1.list hq1
 obtain ⟨its2,rv2,p2,hz2⟩:=I1.list hq2
 have l1:a<s1.heap.objs.size:=by obtain ⟨o,ho,_⟩:=p1.isList;exact Heap.lt_size ho
 have l2:b<s1.heap.objs.size:=by obtain ⟨o,ho,_⟩:=p2.isList;exact Heap.lt_size ho
 refine call_zip_2 p1.isList p2.isList fun h' z1 z2 z3 z4 z5 hsz kk=>?_
 have I2:Inv X pins σ H1 {s1 with heap:=h'}:=I1.kept (t':=s1.toks) kk
 refine wpAny_pyIter_zip z1 ?_
 refine ⟨_,_,_,_,H1,rfl,I2,Xmh a b _ _ _ _ _ xs ys (zipApart_new l1 l2),⟨Nat.zero_le _,z1,z2,⟨_,_,z3⟩,z4,z5⟩,fun c hc=>?_,q⟩
 have hcl:s1.heap.objs.size≤c:=by
  rcases List.mem_cons.mp hc with e | hc
  ·rw [e];exact Nat.le_add_right ..
  rcases List.mem_cons.mp hc with e | hc
  ·rw [e];exact Nat.le_add_right ..
  rcases List.mem_cons.mp hc with e | hc
  ·rw [e];exact Nat.le_add_right ..
  rcases List.mem_cons.mp hc with e | hc
  ·rw [e];exact Nat.le_refl _
  ·rw [List.mem_singleton.mp hc];exact Nat.le_add_right ..
 exact I1.fpOk hcl (I1.hok.fresh hcl)
end
end L2
namespace L2
open PySem PySem.W PySem.Spec PyProof.Rows
theorem Zzh {K:PySem.W.Frag} {a b:Addr} {xs ys:List V} {g:TG} {te:TE} {Q:VK} {H:Hp} {D:Addr} {σ0:St} (fe:Nat→V) (S:St→Prop) (hz:min xs.length ys.length≤100000) (h0:S σ0) (hD:H D=none) (hl1:SqL K H a xs) (hl2:SqL K H b ys)
  (ht:∀ i x y,xs[i]?=some x→ys[i]?=some y→∀ σ1 H1 T,S σ1→Same H H1→H1 T=none→∀ R:St→V→Hp→Prop,(∀ σ2 H3,S σ2→Same (upd H1 T (.tup [x,y])) H3→R σ2 (fe i) H3)→g (.ref T) σ1 (upd H1 T (.tup [x,y])) fun σ2 H2=>te σ2 H2 fun z H3=>R σ2 z H3)
  (hq:∀ H':Hp,Same H H'→H' D=some (.lst ((List.range (min xs.length ys.length)).map fe))→Q (.ref D) H') :
  CompGo (Itz K a b xs ys) g tYes te Q σ0 H D:=by
 refine ⟨fun i m σ1 H2=>i≤min xs.length ys.length∧m=min xs.length ys.length - i∧S σ1∧Same H H2∧H2 D=some (.lst ((List.range i).map fe)),⟨min xs.length ys.length,Nat.zero_le _,rfl,h0,Zh hD,Zc⟩,?_⟩
 rintro i m σ1 H2 ⟨h1,rfl,h2,hs,hDv⟩
 have q1:=hs.seq hl1
 have q2:=hs.seq hl2
 rcases Nat.lt_or_ge i (min xs.length ys.length) with z | z
 ·refine .inr ⟨⟨q1,q2,z⟩,?_⟩
  rintro x H3 ⟨T,u,v,hT,hu,hv,rfl,rfl⟩
  refine ht i u v hu hv σ1 H2 T h2 hs hT (fun σ2 y H6=>∃ zs m',H6 D=some (.lst zs)∧zs.length<sizeLine∧m'<min xs.length ys.length - i∧(i+1≤min xs.length ys.length∧m'=min xs.length ys.length - (i+1)∧S σ2∧Same H (upd H6 D (.lst (zs++[y])))∧upd H6 D (.lst (zs++[y])) D=some (.lst ((List.range (i+1)).map fe)))) fun σ2 H6 q3 hs6=>?_
  have nDT:D≠T:=fun e=>by rw [e,hT] at hDv;cases hDv
  refine ⟨(List.range i).map fe,min xs.length ys.length - (i+1),hs6 _ _ (by rw [Zm nDT];exact hDv),?_,by omega,by omega,rfl,q3,?_,?_⟩
  ·rw [List.length_map,List.length_range]
   exact Nat.lt_of_lt_of_le (show i<100000 by omega) (by decide)
  ·intro c o e
   rw [Zm (Zp e hD)]
   refine hs6 c o ?_
   rw [Zm (fun e'=>by rw [e',hs.free hT] at e;cases e)]
   exact hs c o e
  ·rw [Zc,List.range_succ,List.map_append];rfl
 ·have e:i=min xs.length ys.length:=by omega
  subst e
  exact .inl ⟨⟨q1,q2,Nat.le_refl _⟩,hq H2 hs hDv⟩
end L2
namespace L2
open PySem PySem.W PySem.Spec PyProof.Rows
section
variable {X:Cx} {pos:Pos}
noncomputable def gTupL (K:PySem.W.Frag) (n:Nat) (t:TGs):TG:=fun v σ H Q=>∃ a xs,v = .ref a∧SqL K H a xs∧xs.length=n∧t xs σ H Q
theorem Zsa {es:List Expr} {k:Nat} {t:TGs} {n:Nat} (hc:X.calm=true) (h:PGs X es t)
  (hn:(assignEach es X.env).length=n:=by rfl) (hst:(assignEach es X.env).findIdx? (·.1)=none:=by rfl):PG X (.Tuple es k pos) (gTupL X.K n t):=by
 intro pins s σ H v u Q I r hw
 obtain ⟨a,xs,e1,hq,hl,hw⟩:=hw
 subst e1
 cases r
 obtain ⟨its,rv,pl,hz⟩:=I.list hq
 rw [assign_Tuple]
 refine wpAny_bind (wpAny_standAt ?_)
 unfold unpack
 rw [hst,show (assignEach es X.env).length=its.toArray.size from by simp [hn,← hl,rv.length]]
 refine wpAny_bind (wpAny_holding (kun_itemsOf (I.ok.hd hc) pl.isList fun h' hx=>?_))
 have I1:Inv X pins σ H {s with heap:=h'}:=I.kept (t':=s.toks) fun b o e=>hx b o (Nat.ne_of_lt (Heap.lt_size e)) e
 exact h pins _ σ H xs _ Q I1 (by simpa using rv) hw
end
end L2
end
section
namespace KM
open PySem L2
noncomputable def ent (a r:List Bool):List Bool:=cnt (com a r)++cnt (r.length - com a r)++r.drop (com a r)
noncomputable def ents:List Bool→List (List Bool)→List Bool
 | _,[]=>[]
 | a,r::rs=>ent a r++ents r rs
noncomputable def page (rs:List (List Bool)):List Bool:=cnt rs.length++ents [] rs
noncomputable def Asc:List (List Bool)→Prop
 | []=>True
 | [_]=>True
 | a::b::r=>Lt a b∧Asc (b::r)
theorem Ztj (r:List Bool):com [] r=0:=by cases r<;>rfl
theorem Zzd (a:List Bool) (xs ys:List (List Bool)):ents a (xs++ys)=ents a xs++ents (xs.getLastD a) ys:=by
 induction xs generalizing a with
 | nil=>rfl
 | cons x xs ih =>
  rw [List.cons_append,ents,ents,ih,List.append_assoc]
  cases xs<;>rfl
theorem Zbb {a:List Bool} {r:List (List Bool)} (h:Asc (a::r)):Asc r:=by
 cases r with
 | nil=>trivial
 | cons b r=>exact h.2
theorem Zii {a:List Bool} {r:List (List Bool)} (h:Asc (a::r)):∀ b∈r,Lt a b:=by
 induction r generalizing a with
 | nil=>intro b hb;cases hb
 | cons x r ih =>
  intro b hb
  rcases List.mem_cons.mp hb with e | hb
  ·rw [e];exact h.1
  ·exact Ybj h.1 (ih h.2 b hb)
noncomputable def ascB:List (List Bool)→Bool
 | []=>true
 | [_]=>true
 | a::b::r=>decide (Lt a b)&&ascB (b::r)
theorem Xsb (rs:List (List Bool)):ascB rs=true↔Asc rs:=by
 induction rs with
 | nil=>exact ⟨fun _=>trivial,fun _=>rfl⟩
 | cons a r ih =>
  cases r with
  | nil=>exact ⟨fun _=>trivial,fun _=>rfl⟩
  | cons b r =>
   rw [ascB,Asc,Bool.and_eq_true,ih,decide_eq_true_iff]
theorem Zca {n:Nat} (h:n<2 ^ 20):(cnt n).length≤36:=by
 have:=Qw (n:=n) (by have:(2:Nat) ^ 20<2 ^ 255 - 1:=(by decide +kernel);omega)
 have:=Yf (n:=n+1) (w:=21) (by have:(2:Nat) ^ 21=2 ^ 20+2 ^ 20:=(by decide);omega)
 omega
end KM
namespace KM
open PySem L2
theorem Zej {a:List Bool} {r:List (List Bool)} (h:Asc r) (h2:∀ b,r[0]?=some b→Lt a b):Asc (a::r):=by
 cases r with
 | nil=>trivial
 | cons b r=>exact ⟨h2 b rfl,h⟩
theorem Zue {x:List Bool}:∀ {k:Nat} {rs:List (List Bool)},Asc rs→(∀ y∈rs.take k,Lt y x)→(∀ y,rs[k]?=some y→Lt x y)→Asc (rs.take k++x::rs.drop k)
 | 0,rs,h,_,h2=>Zej h h2
 | k+1,[],_,_,_=>trivial
 | k+1,a::r,h,h1,h2=>by
  show Asc (a::(r.take k++x::r.drop k))
  refine Zej (Zue (Zbb h) (fun y hy=>h1 y (List.mem_cons_of_mem _ hy)) h2) fun b hb=>?_
  cases k with
  | zero=>cases hb;exact h1 a (List.mem_cons_self ..)
  | succ k =>
   cases r with
   | nil=>cases hb;exact h1 a (List.mem_cons_self ..)
   | cons c r=>cases hb;exact h.1
end KM
namespace KM
open PySem L2
theorem Zjd (r:List Bool) (k:Nat) (h:k≤r.length):Txt.slice (rowS r) (some (k:Int)) none=rowS (r.drop k):=by
 rw [Wl]
 congr 1
 have e1:HT.sIx r.length 0 (some (k:Int))=k:=by
  unfold HT.sIx
  show (if (k:Int)<0 then _ else _)=_
  rw [if_neg (by omega)]
  omega
 have e2:HT.sIx r.length r.length none=r.length:=rfl
 rw [e1,e2,List.take_of_length_le (by rw [List.length_drop];omega)]
noncomputable abbrev RL (rs:List (List Bool)):List V:=rs.map fun r=>V.str (rowS r)
theorem Zz (rs:List (List Bool)):(RL rs).length=rs.length:=List.length_map ..
theorem Xwf {rs:List (List Bool)} {i:Nat} {r:List Bool} (h:rs[i]?=some r):(RL rs)[i]?=some (.str (rowS r)):=by rw [List.getElem?_map,h];rfl
theorem Zdc (xs ys:List (List Bool)):RL (xs++ys)=RL xs++RL ys:=List.map_append ..
theorem Xsd (rs:List (List Bool)):RL rs=(rs.map rowS).map V.str:=by rw [List.map_map];rfl
theorem Xja {rs:List (List Bool)} {i:Nat} {r:List Bool} (h:rs[i]?=some r):cnt rs.length++ents [] (rs.take (i+1))=cnt rs.length++ents [] (rs.take i)++ent ((rs.take i).getLastD []) r:=by
 have e:rs.take (i+1)=rs.take i++[r]:=by rw [List.take_add_one,h];rfl
 rw [e,Zzd,List.append_assoc]
 show _++(_++(ent _ r++[]))=_
 rw [List.append_nil]
theorem Xkb {rs:List (List Bool)} {i:Nat} {r:List Bool} (h:rs[i]?=some r):(rs.take (i+1)).getLastD []=r:=by
 have e:rs.take (i+1)=rs.take i++[r]:=by rw [List.take_add_one,h];rfl
 rw [e];simp
theorem Xrb (rs:List (List Bool)):∀ a,ents a rs=((List.range rs.length).map fun i=>ent ((a::rs).getD i []) (rs.getD i [])).flatten:=by
 induction rs with
 | nil=>intro a;rfl
 | cons r rs ih =>
  intro a
  rw [ents,ih r,List.length_cons,List.range_succ_eq_map,List.map_cons,List.flatten_cons,List.map_map]
  rfl
end KM
end
section
namespace L2
open PySem PySem.W PySem.Spec PyProof.Rows
section
variable {X:Cx}
theorem Xni (l:List Bool):PyData.strOk (KM.rowS l)=true:=by
 unfold PyData.strOk
 rw [← Array.all_toList,KM.Xi,List.all_map,List.all_eq_true]
 intro b _
 cases b<;>decide
theorem Zpj:∀ ns:List (List Bool),PyData.canLayAll0 (ns.map fun r=>PyData.str (KM.rowS r))=true
 | []=>rfl
 | _::r=>by simp [PyData.canLayAll0,PyData.canLay0,Zpj r,Xni]
theorem Zyi:∀ ns:List (List Bool),PyData.depthAll (ns.map fun r=>PyData.str (KM.rowS r))=0
 | []=>rfl
 | _::r=>by simp [PyData.depthAll,PyData.depth,Zyi r]
theorem Zbg (ns:List (List Bool)):SeqAt.shaped (.list (ns.map fun r=>PyData.str (KM.rowS r)))=true:=by
 simp [SeqAt.shaped,PyData.canLay0,PyData.depth,Zpj,Zyi]
theorem Zki:∀ ns ms:List (List Bool),PySem.Spec.sameAll (ns.map fun r=>PyData.str (KM.rowS r)) (ms.map fun r=>PyData.str (KM.rowS r))=decide (ns=ms)
 | [],[]=>by simp [PySem.Spec.sameAll]
 | [],_::_=>by simp [PySem.Spec.sameAll]
 | _::_,[]=>by simp [PySem.Spec.sameAll]
 | a::r,b::t=>by
  have e:(KM.rowS a=KM.rowS b)=(a=b):=propext ⟨KM.Qh,fun h=>by rw [h]⟩
  simp only [List.map_cons,PySem.Spec.sameAll,PySem.Spec.same,Zki r t]
  by_cases h:a=b<;>by_cases h':r=t<;>simp [h,h',e]
theorem Xga (ns ms:List (List Bool)):PySem.Spec.same (.list (ns.map fun r=>PyData.str (KM.rowS r))) (.list (ms.map fun r=>PyData.str (KM.rowS r)))=decide (ns=ms):=by
 simp only [PySem.Spec.same];exact Zki ns ms
theorem Jy:∀ {vs:List Value} {ns:List (List Bool)},Vals (KM.RL ns) vs→CarriedAll vs (ns.map fun r=>PyData.str (KM.rowS r))
 | [],[],_ => .nil
 | v::vs,b::ns,h=>by
  cases h with
  | cons a r =>
   obtain ⟨t,rfl⟩:=(show ∃ t,v=Value.str (KM.rowS b) t from a)
   exact .cons (.str _ _) (Jy r)
 | [],_::_,h=>by cases h
 | _::_,[],h=>by cases h
noncomputable def rEqS:R2:=fun x y H Q=>∃ (l b:Addr) (xs zs:List (List Bool)),x = .ref l∧y = .ref b∧H l=some (.lst (KM.RL xs))∧H b=some (.lst (KM.RL zs))∧Q (.bl (decide (xs=zs))) H
noncomputable def rNeS:R2:=fun x y H Q=>∃ (l b:Addr) (xs zs:List (List Bool)),x = .ref l∧y = .ref b∧H l=some (.lst (KM.RL xs))∧H b=some (.lst (KM.RL zs))∧Q (.bl (!decide (xs=zs))) H
theorem Xyg (hu:X.A.units+64<cLine):OpR X (compareOp .Eq) rEqS:=by
 intro pins s σ H x y v u Q I rx ry h
 obtain ⟨l,b,xs,zs,rfl,rfl,h1,h2,q⟩:=h
 cases rx
 cases ry
 obtain ⟨_,its,n,r,_,e⟩:=I.lstM h1
 obtain ⟨_,its2,n2,r2,_,e2⟩:=I.lstM h2
 exact eq_dataH_same (reads_newData ⟨_,e,rfl,n,rfl⟩ (Jy r)) (reads_newData ⟨_,e2,rfl,n2,rfl⟩ (Jy r2)) (Zbg _) (Zbg _) hu (SeqAt.noMix_of_shape (.list .str) rfl _ _ (list_map_has fun _=>rfl) (list_map_has fun _=>rfl)) (by rw [Xga];exact ⟨.bl _,H,I,rfl,q⟩)
theorem Xyd (hu:X.A.units+64<cLine):OpR X (compareOp .NotEq) rNeS:=by
 intro pins s σ H x y v u Q I rx ry h
 obtain ⟨l,b,xs,zs,rfl,rfl,h1,h2,q⟩:=h
 cases rx
 cases ry
 obtain ⟨_,its,n,r,_,e⟩:=I.lstM h1
 obtain ⟨_,its2,n2,r2,_,e2⟩:=I.lstM h2
 exact ne_dataH_same (reads_newData ⟨_,e,rfl,n,rfl⟩ (Jy r)) (reads_newData ⟨_,e2,rfl,n2,rfl⟩ (Jy r2)) (Zbg _) (Zbg _) hu (SeqAt.noMix_of_shape (.list .str) rfl _ _ (list_map_has fun _=>rfl) (list_map_has fun _=>rfl)) (by rw [Xga];exact ⟨.bl _,H,I,rfl,q⟩)
noncomputable def oEqLS (hu:X.A.units+64<cLine):=OpR.or (oEq (X:=X)) (Xyg hu)
noncomputable def oNeLS (hu:X.A.units+64<cLine):=OpR.or (oNe (X:=X)) (Xyd hu)
end
theorem Xtf {X:Cx} {body:List Stmt} {h0:ExceptHandler} {hs:List ExceptHandler} {tpos:Pos} {tb:TS} (hb:∀ pn,PSs (X.tryC pn fun _ _ _ _=>False) body tb):PS X (.Try body (h0::hs) [] [] tpos) tb:=by
 intro pins s σ H Dn I h1
 have ok:=I.ok
 refine wpAny_Try_except (wpAny_mono (hb (X.pn++pins) [] s σ H Dn (I.ins.wish _) h1) (fun f s1 z=>?_) (fun e s1 z=>?_))
 ·cases f with
  | next =>
   obtain ⟨σ',H',I',q⟩:=z
   exact Zt (X:=X) pins s1 σ' H' Dn (Inv.outs (Y:=X) ok (Inv.unwish (X:={X with pn:=X.pn++pins}) I')) q
  | brk=>obtain ⟨σ',H',I',q⟩:=z;exact ⟨σ',H',Inv.outs (Y:=X) ok (Inv.unwish (X:={X with pn:=X.pn++pins}) I'),q⟩
  | cont=>obtain ⟨σ',H',I',q⟩:=z;exact ⟨σ',H',Inv.outs (Y:=X) ok (Inv.unwish (X:={X with pn:=X.pn++pins}) I'),q⟩
  | ret u=>obtain ⟨v,σ',H',I',r,q⟩:=z;exact ⟨v,σ',H',Inv.outs (Y:=X) ok (Inv.unwish (X:={X with pn:=X.pn++pins}) I'),r,q⟩
 obtain ⟨a,C,d,T,σ',H1,H',s0,rfl,I1,I2,fly,fa,fT,na,nT,q⟩:=z
 exact q.elim
end L2
end
section
namespace L2
open PySem PySem.W PySem.Spec PyProof.Rows
section
variable {M:Model} {A:Around} {E:Value→Shared→Prop} {s:Shared} {base:Heap} {env:Env} {outer:List Env} {L e T:Addr} {Q:Unit→Shared→Prop} {cls:Value} {d:Option Addr} {fl:Value}
theorem flyD (hl:s.heap.FunFrames base outer) (ht:Fly s.heap e cls d T fl)
  (h:∀ h',Fly h' e cls d T (rawInt L)→h'.FunFrames base outer→(∀ b o,b≠T→s.heap.get? b=some o→h'.get? b=some o)→Q () {s with heap:=h'}):wpAny M A (setFlight (.ref e) (some L)) Q E s:=by
 obtain ⟨oe,vs,oT,ts,he,hc,hdd,hd,h1,hTe,hT,hdT,h3,hcx⟩:=ht
 have hsz3:3<ts.size:=(Array.getElem?_eq_some_iff.mp h3).1
 unfold setFlight
 refine wpAny_bind (wpAny_field he hd h1 ?_)
 rw [if_pos (show (Value.ref T != Value.none)=true from by simp)]
 have other:∀ b,b≠T→(s.heap.update T (Obj.mapFields (·.setIfInBounds 3 ((some L:Option Addr).elim Value.none fun f=>rawInt f)))).get? b=s.heap.get? b:=fun b hb=>Heap.get?_update_other _ _ (Ne.symm hb)
 have noRec:∀ b o,s.heap.get? b=some o→(∀ vs,o.data≠.fields vs)→b≠T:=fun b o hb hnf q=>by
  rw [q,hT] at hb;injection hb with hb;subst hb;exact hnf ts hdT
 refine wpAny_setField hT hdT hsz3 (h _ ⟨oe,vs,_,_,(other e (Ne.symm hTe)).trans he,hc,hdd,hd,h1,hTe,Heap.get?_update_self _ hT (Obj.isFreed_of_fields (Obj.data_mapFields hdT _)),Obj.data_mapFields hdT _,by simp [hsz3],hcx⟩
  (hl.of_keeps fun b o hb hnf=>⟨o,(other b (noRec b o hb hnf)).trans hb,rfl⟩) fun b o hb q=>(other b hb).trans q)
theorem Xdc (hl:s.heap.FunFrames base (env::outer)) (hf:env.frame=some L) (ht:Fly s.heap e cls d T (rawInt L))
  (h:∀ h',Fly h' e cls d T .none→(∀ b o,b≠T→s.heap.get? b=some o→h'.get? b=some o)→Q () {s with heap:=h'}):wpAny M A (leaving env (.ref e)) Q E s:=by
 obtain ⟨oe,vs,oT,ts,he,hc,hdd,hd,h1,hTe,hT,hdT,h3,hcx⟩:=id ht
 unfold leaving noteFrame
 simp only [hf]
 refine wpAny_bind (wpAny_bind (wpAny_field he hd h1 ?_))
 rw [if_pos (show (Value.ref T != Value.none)=true from by simp)]
 refine wpAny_bind (wpAny_field hT hdT h3 ?_)
 rw [if_pos (show (rawInt L == rawInt L)=true from by simp)]
 exact wpAny_pure (landD hl ht fun h' y1 _ y3=>h h' y1 y3)
end
noncomputable def Rethrows (X:Cx) (E:XK):Prop:=∀ (pins:List (Addr×Obj)) (σ:St) (H1:Hp) (s1:Shared) (h3:Heap) (a C:Addr) (d:Option Addr) (T T' L:Addr),Inv X pins σ H1 s1→Stn (frs X.stack) a (some T) s1.heap h3→h3.FunFrames X.base X.stack→X.env.frame=some L→Fly h3 a (.ref C) d T' (rawInt L)→s1.heap.get? T'=none→
 H1 a=none→H1 T=none→X.s₀.heap.get? a=none→X.s₀.heap.get? T=none→E (.ref C) d H1→X.xe (.ref a) {s1 with heap:=h3}
section
variable {P:Program} {w:World} {K:PySem.W.Frag} {mg:Str→Option Value} {base:Heap} {N:List Str} {qual:Str} {scope:Scope} {f:Addr} {cdv:Value} {A:Around} {outer:List Env} {s:Shared} {H:Hp} {E:XK}
theorem Zwa:Rethrows (cxOf (CXe P w) P w K mg base N qual scope f cdv A outer s H E) E:=by
 intro pins σ H1 s1 h3 a C d T T' L I S ff hf fly nT' fa fT na nT q
 refine Xdc (base:=base) (s:={s1 with heap:=h3}) ff hf fly fun h4 x1 x3=>?_
 have S4:Stn (frs (cxOf (CXe P w) P w K mg base N qual scope f cdv A outer s H E).stack) a (some T) s1.heap h4:=by
  refine ⟨fun b o h1 h2 h5 h6=>x3 b o (fun z=>by rw [z,nT'] at h6;cases h6) (S.keep b o h1 h2 h5 h6),fun b o h1 h2 h6=>?_⟩
  obtain ⟨sl,e⟩:=S.slot b o h1 h2 h6
  exact ⟨sl,x3 b _ (fun z=>by rw [z,nT'] at h6;cases h6) e⟩
 obtain ⟨u,hk⟩:=Xag (T:=some T) I rfl rfl S4 na (fun t z=>by cases z;exact nT) fa (fun t z=>by cases z;exact fT)
 refine ⟨a,C,d,H1,T',rfl,I.os,I.bare,u,hk,x1,fa,I.hok.none nT',na,?_,q⟩
 cases z:s.heap.get? T' with
 | none=>rfl
 | some o =>
  obtain ⟨o',e⟩:=I.base.there T' o z (show T'∉([]:List Addr) by simp)
  rw [nT'] at e;cases e
end
end L2
end
section
namespace L2
open PySem PySem.W PySem.Spec PyProof.Rows
section
variable {X:Cx}
end
end L2
namespace L2
open PySem PySem.W PySem.Spec PyProof.Rows
theorem Zgh {lo:Int} {n:Nat} {g:TG} {te:TE} {Q:VK} {H:Hp} {D:Addr} {σ0:St} (Pv:V→Prop) (S:St→Prop) (hn:n≤100000) (h0:S σ0) (hD:H D=none)
  (ht:∀ i:Nat,i<n→∀ σ1 H1,S σ1→Same H H1→∀ R:St→V→Hp→Prop,(∀ σ2 H3 y,S σ2→Same H1 H3→Pv y→R σ2 y H3)→g (.int (lo+(i:Int))) σ1 H1 fun σ2 H2=>te σ2 H2 fun z H3=>R σ2 z H3)
  (hq:∀ (ys:List V) (H':Hp),ys.length=n→(∀ y∈ys,Pv y)→Same H H'→H' D=some (.lst ys)→Q (.ref D) H') :
  CompGo (Itr lo n) g tYes te Q σ0 H D:=by
 refine ⟨fun i m σ1 H2=>i≤n∧m=n - i∧S σ1∧Same H H2∧∃ ys:List V,ys.length=i∧(∀ y∈ys,Pv y)∧H2 D=some (.lst ys),⟨n,Nat.zero_le _,rfl,h0,Zh hD,[],rfl,(fun y hy=>nomatch hy),Zc⟩,?_⟩
 rintro i m σ1 H2 ⟨h1,rfl,h2,hs,ys,hl,hp,hDv⟩
 rcases Nat.lt_or_ge i n with z | z
 ·refine .inr ⟨z,?_⟩
  rintro x H3 ⟨rfl,rfl⟩
  refine ht i z σ1 _ h2 hs (fun σ2 y H6=>∃ zs m',H6 D=some (.lst zs)∧zs.length<sizeLine∧m'<n - i∧(i+1≤n∧m'=n - (i+1)∧S σ2∧Same H (upd H6 D (.lst (zs++[y])))∧∃ ys:List V,ys.length=i+1∧(∀ y∈ys,Pv y)∧upd H6 D (.lst (zs++[y])) D=some (.lst ys))) fun σ2 H6 y q3 hs6 hy=>?_
  refine ⟨ys,n - (i+1),hs6 _ _ hDv,?_,by omega,by omega,rfl,q3,?_,ys++[y],by rw [List.length_append,hl];rfl,?_,Zc⟩
  ·rw [hl];exact Nat.lt_of_lt_of_le (show i<100000 by omega) (by decide)
  ·intro c o e
   rw [Zm (Zp e hD)]
   exact hs6 c o (hs c o e)
  ·intro u hu
   rcases List.mem_append.mp hu with w | w
   ·exact hp u w
   ·rw [List.mem_singleton.mp w];exact hy
 ·have e:i=n:=by omega
  subst e
  exact .inl ⟨Nat.le_refl _,hq ys H2 hl hp hs hDv⟩
end L2
end
section
namespace L2
open PySem PySem.W PySem.Spec PyProof.Rows
end L2
end
section
namespace KM
open PySem L2
theorem asc_pw {rs:List (List Bool)}:Asc rs↔rs.Pairwise Lt:=by
 induction rs with
 | nil=>exact ⟨fun _ => .nil,fun _=>trivial⟩
 | cons a r ih =>
  constructor
  ·intro h;exact .cons (Zii h) (ih.mp (Zbb h))
  ·intro h
   have h':=List.pairwise_cons.mp h
   exact Zej (ih.mpr h'.2) fun b hb=>h'.1 b (List.mem_of_getElem? hb)
theorem Zuf:∀ {a b:List (List Bool)},Asc a→Asc b→a.Perm b→a=b
 | [],b,_,_,h=>(List.Perm.nil_eq h)
 | x::a,[],_,_,h=>by have:=h.length_eq;simp at this
 | x::a,y::b,ha,hb,h=>by
  have e:x=y:=by
   rcases Zsj x y with z | z | z
   ·have hx:x∈y::b:=h.mem_iff.mp (List.mem_cons_self ..)
    rcases List.mem_cons.mp hx with w | w
    ·exact w
    ·exact absurd z (Xfg (Zii hb x w))
   ·exact z
   ·have hy:y∈x::a:=h.mem_iff.mpr (List.mem_cons_self ..)
    rcases List.mem_cons.mp hy with w | w
    ·exact w.symm
    ·exact absurd z (Xfg (Zii ha y w))
  subst e
  rw [Zuf (Zbb ha) (Zbb hb) (List.Perm.cons_inv h)]
theorem Xec {rs:List (List Bool)} (h:Asc rs) (p:List Bool→Bool):Asc (rs.filter p):=asc_pw.mpr ((asc_pw.mp h).filter p)
theorem Zce {rs:List (List Bool)} (h:Asc rs):rs.Nodup:=(asc_pw.mp h).imp fun {a b} z e=>by rw [e] at z;exact Xza b z
noncomputable def insR (x:List Bool):List (List Bool)→List (List Bool)
 | []=>[x]
 | a::r=>if Lt x a then x::a::r else a::insR x r
theorem Qk (x:List Bool) (rs:List (List Bool)):(insR x rs).Perm (x::rs):=by
 induction rs with
 | nil=>exact .refl _
 | cons a r ih =>
  unfold insR
  split
  ·exact .refl _
  ·exact (List.Perm.cons a ih).trans (List.Perm.swap x a r)
theorem Zzb {x:List Bool} {rs:List (List Bool)} (h:Asc rs) (hx:x∉rs):Asc (insR x rs):=by
 induction rs with
 | nil=>trivial
 | cons a r ih =>
  unfold insR
  split
  ·rename_i c;exact ⟨c,h⟩
  ·rename_i c
   have hax:Lt a x:=by
    rcases Zsj a x with z | z | z
    ·exact z
    ·exact absurd (z ▸ List.mem_cons_self ..) hx
    ·exact absurd z c
   refine Zej (ih (Zbb h) fun z=>hx (List.mem_cons_of_mem _ z)) fun b hb=>?_
   have hm:=(Qk x r).mem_iff.mp (List.mem_of_getElem? hb)
   rcases List.mem_cons.mp hm with w | w
   ·rw [w];exact hax
   ·exact Zii h b w
theorem Zlb (x:List Bool) (rs:List (List Bool)):(insR x rs).length=rs.length+1:=(Qk x rs).length_eq
theorem Xqb {x:List Bool} {rs:List (List Bool)} {y:List Bool} (h:y∈insR x rs):y=x∨y∈rs:=List.mem_cons.mp ((Qk x rs).mem_iff.mp h)
theorem Qz:∀ {ss:List (List Bool)},PyProof.Rows.sortedS (ss.map rowS)=true→ss.Nodup→Asc ss
 | [],_,_=>trivial
 | [_],_,_=>trivial
 | a::b::r,h,hn=>by
  have h1:(!PySem.Spec.ltCps (rowS b).cps.toList (rowS a).cps.toList&&PyProof.Rows.risingS (rowS b) (r.map rowS))=true:=h
  rw [Bool.and_eq_true] at h1
  have hn':=List.nodup_cons.mp hn
  refine ⟨?_,Qz (ss:=b::r) h1.2 hn'.2⟩
  rcases Zsj a b with z | z | z
  ·exact z
  ·exact absurd (z ▸ List.mem_cons_self ..) hn'.1
  ·exfalso
   have:=h1.1
   rw [PyProof.Rows.ltCps_eq,decide_eq_true (show (rowS b).cps.toList<(rowS a).cps.toList from z)] at this
   cases this
theorem Xii:∀ {l l':List Str},l.Perm l'→∀ {rs:List (List Bool)},l=rs.map rowS→∃ ss,l'=ss.map rowS∧rs.Perm ss:=by
 intro l l' h
 induction h with
 | nil=>intro rs e;exact ⟨[],rfl,by cases rs with | nil=>exact .refl _ | cons a r=>cases e⟩
 | cons x _ ih =>
  intro rs e
  cases rs with
  | nil=>cases e
  | cons a r =>
   obtain ⟨e1,e2⟩:=List.cons.inj e
   obtain ⟨ss,h1,h2⟩:=ih e2
   exact ⟨a::ss,by rw [h1,e1];rfl,.cons a h2⟩
 | swap x y l =>
  intro rs e
  match rs,e with
  | a::b::r,e =>
   obtain ⟨e1,e2⟩:=List.cons.inj e
   obtain ⟨e3,e4⟩:=List.cons.inj e2
   exact ⟨b::a::r,by rw [e1,e3,e4];rfl,.swap b a r⟩
 | trans _ _ ih1 ih2 =>
  intro rs e
  obtain ⟨ss,h1,h2⟩:=ih1 e
  obtain ⟨ts,h3,h4⟩:=ih2 h1
  exact ⟨ts,h3,h2.trans h4⟩
end KM
namespace L2
open PySem PySem.W PySem.Spec PyProof.Rows
section
variable {X:Cx}
theorem Zvc:∀ {vs:List Value} {rs:List (List Bool)},Vals (KM.RL rs) vs→StrsAre vs (rs.map KM.rowS)
 | [],[],_ => .nil
 | v::vs,b::ns,h=>by
  cases h with
  | cons a r =>
   obtain ⟨t,rfl⟩:=(show ∃ t,v=Value.str (KM.rowS b) t from a)
   exact .cons _ _ (Zvc r)
 | [],_::_,h=>by cases h
 | _::_,[],h=>by cases h
theorem Zfc:∀ {vs:List Value} {rs:List (List Bool)},StrsAre vs (rs.map KM.rowS)→Vals (KM.RL rs) vs
 | [],[],_ => .nil
 | v::vs,b::ns,h=>by
  cases h with
  | cons x t r=>exact .cons ⟨t,rfl⟩ (Zfc r)
 | [],_::_,h=>by cases h
 | _::_,[],h=>by cases h
theorem Qx:CallR X (.builtin "sorted") (fun xs H Q=>∃ (a:Addr) (rs:List (List Bool)),xs=[.ref a]∧SqL X.K H a (KM.RL rs)∧rs.length≤1000∧rs.Nodup∧∀ ss:List (List Bool),KM.Asc ss→ss.Perm rs→∀ p,H p=none→Q (.ref p) (upd H p (.lst (KM.RL ss)))):=by
 intro pins s σ H xs us Q I r h
 obtain ⟨a,rs,rfl,hq,h64,hnd,q⟩:=h
 obtain ⟨u,rfl,ru⟩:=vals1 r
 obtain rfl:u=Value.ref a:=ru
 obtain ⟨its,rv,pl,hz⟩:=I.list hq
 have hlen:=rv.length
 rw [KM.Zz] at hlen
 refine TS.Xah pl.isList (Zvc rv) (by omega) fun out ss' a1 a2 a3=>?_
 obtain ⟨ss,e1,e2⟩:=KM.Xii a2.symm rfl
 subst e1
 obtain ⟨e,he⟩:=sortedAll_at s.heap its out
 have hp:=I.hok.fresh (a:=s.heap.objs.size+1) (Nat.le_succ _)
 have hA:=KM.Qz a3 (e2.nodup_iff.mp hnd)
 refine ⟨.ref (s.heap.objs.size+1),_,?_,rfl,q ss hA e2.symm _ hp⟩
 have hl2:=e2.length_eq
 refine I.turnedNew (ch:=[]) (t':=s.toks) (fun b o _ eb=>sortedAll_old eb) (fun b hb=>nomatch hb) (Nat.le_succ _) ?_
 refine ⟨by rw [KM.Zz];exact Nat.le_trans (show ss.length≤1000 by omega) (by decide),out.toList,e,Zfc a1,?_⟩
 rw [he]
inductive RowN:V→PyData→Prop
 | non:RowN .non .none
 | row (l:List Bool):RowN (.str (KM.rowS l)) (.str (KM.rowS l))
end
end L2
end
section
namespace L2
open PySem PySem.W PySem.Spec PyProof.Rows
theorem Zni:entryFor table "proto.unchain"=some Builtin.«proto.unchain» := entryFor_of_tree (by kernel_rfl)
theorem Znb:plainId "proto.unchain"=true:=by decide +kernel
section
variable {prog:Program} {w:World} {A:Around} {E:Value→Shared→Prop} {s:Shared}
theorem Zrd {e:Value} {a:Addr} {oa:Obj} {va:Array Value} {Q:Value→Shared→Prop} (ha:s.heap.get? a=some oa) (hd:oa.data = .fields va) (h2:va[2]?=some .none) (h:Q .none s) :
  wpAny (model prog w) A (runValue (.builtin "proto.unchain" ⟨[e,.ref a,.ref a,.bool false],[]⟩)) Q E s:=by
 refine wpAny_runValue (codeAny_builtin Zni ?_)
 rw [Around.under_plainId Znb _]
 unfold Builtin.«proto.unchain»
 refine wpAny_bind (wpAny_field ha hd h2 ?_)
 rw [if_pos (by rfl)]
 exact wpAny_pure h
set_option maxHeartbeats 2000000 in
theorem Xbe {env:Env} {K:Frag} {x c:Sem Value} {a:Addr} {Q:Flow→Shared→Prop} (hh:A.handled=some (.ref a)) (hc:∀ (Q':Value→Shared→Prop) (s':Shared),Q' .none s'→wpAny (model prog w) A c Q' E s')
  (h:wpAny (model prog w) A x (fun v s₁=>∃ e oe C vs oa va,v = .ref e∧K.In s₁.heap∧s₁.heap.get? e=some oe∧oe.cls = .ref C∧oe.data = .fields vs∧vs.size=6∧vs[1]?=some .none∧mroIn K C (.type "BaseException")=some true∧typeIn K (.ref C)=some (.type "type")∧e≠a∧
   s₁.heap.get? a=some oa∧oa.data = .fields va∧va[2]?=some .none∧∀ h' vs',h'.get? e=some {oe with data := .fields vs'}→vs'[1]?=some .none→(∀ b,b≠e→h'.get? b=s₁.heap.get? b)→E (.ref e) {s₁ with heap:=h'}) E s) :
  wpAny (model prog w) A (raiseStmt env (some x) (some c)) Q E s:=by
 unfold raiseStmt
 refine wpAny_bind (wpAny_mono h (fun v s₁ h₁=>?_) fun _ _ x=>x)
 obtain ⟨e,oe,C,vs,oa,va,rfl,X,he,hcl,hd,hsz,h1,hm,hty,hea,hoa,hda,h2,hE⟩:=h₁
 obtain ⟨hp,g,d,tk,os⟩:=s₁
 have L1:=looks_mroIn (M:=model prog w) X hm
 obtain ⟨oC,hoC,hcC⟩:=Option.map_eq_some_iff.mp (show (K.lookup C).map (·.cls)=some (.type "type") from hty)
 have hC:=X _ _ hoC
 obtain ⟨cls,dict,data,sl⟩:=oe
 dsimp only at hcl hd
 subst hcl hd
 have hCe:C≠e:=fun z=>by rw [z,he] at hC;cases hC;cases hcC
 refine wpAny_bind (wpAny_holding (hc _ _ ?_))
 refine wpAny_bind (wpAny_pure ?_)
 dsimp only
 repeat (first | with_reducible refine wpAny_loadPart_at he ?_ | with_reducible refine L1.at ?_ | (with_reducible refine wpAny_loadPart_at hC ?_;rw [hcC]) | wp_step)
 have hv1:((vs.setIfInBounds 3 Value.none).setIfInBounds 4 (Value.bool true))[1]?=some Value.none:=by
  rw [Array.getElem?_setIfInBounds_ne (by decide),Array.getElem?_setIfInBounds_ne (by decide)];exact h1
 show wpAny _ _ (match ((vs.setIfInBounds 3 Value.none).setIfInBounds 4 (Value.bool true))[1]? with | some x=>pure x | none=>unsupported "internal:no-such-field") _ _ _
 rw [hv1]
 refine wpAny_pure ?_
 rw [if_neg (by decide)]
 refine wpAny_pure ?_
 have g3:=Heap.get?_update_self (h:=hp) (Obj.mapFields fun x=>x.setIfInBounds 3 Value.none) he rfl
 have g4:=Heap.get?_update_self (Obj.mapFields fun x=>x.setIfInBounds 4 (Value.bool true)) g3 rfl
 have o4:∀ b,b≠e→((hp.update e (Obj.mapFields fun x=>x.setIfInBounds 3 Value.none)).update e (Obj.mapFields fun x=>x.setIfInBounds 4 (Value.bool true))).get? b=hp.get? b:=fun b hb=>by
  rw [Heap.get?_update_other _ _ (Ne.symm hb),Heap.get?_update_other _ _ (Ne.symm hb)]
 unfold raiseNew
 refine wpAny_bind (wpAny_handled ?_)
 rw [hh]
 dsimp only
 rw [if_pos (by simpa using Ne.symm hea)]
 refine wpAny_bind (wpAny_holding (Zrd (oa:=oa) ((o4 a (Ne.symm hea)).trans hoa) hda h2 ?_))
 refine wpAny_bind (wpAny_setField (x:=Value.ref a) (i:=2) g4 rfl (by simp [Obj.mapFields,hsz]) ?_)
 refine wpAny_throw (hE _ _ (Heap.get?_update_self _ g4 rfl) ?_ fun b hb=>?_)
 ·rw [Array.getElem?_setIfInBounds_ne (by decide)];exact hv1
 ·rw [Heap.get?_update_other _ _ (Ne.symm hb)];exact o4 b hb
end
section
variable {prog:Program} {w:World} {A:Around} {E:Value→Shared→Prop} {s:Shared} {env:Env}
variable {nm q:Str} {C N a:Addr} {bs bm bmB:List Value} {hdct:Bool} {sn:List Str} {sub:List Value} {ab:Bool} {col:Option Bool} {dd:Option Addr} {k0 k1 k2 k3 k5:Option Value} {B Bn newId nid initId inN:String} {bmN:List Value} {K:Frag}
theorem Zhb (Fn:ExcBaseFacts Bn newId inN bmN) (hBn:bmB.contains (.type Bn)=true) (F:ExcBaseFacts B nid initId bmB) {mN:Str→Option Value} {x:Str} {np cpos pos:Pos} {args:List Expr} {ce:Expr} {Q:Flow→Shared→Prop}
  (hh:A.handled=some (.ref a)) (hce:∀ (Q':Value→Shared→Prop) (s':Shared),Q' .none s'→wpAny (model prog w) A (eval ce env) Q' E s') (hplain:(backTo cpos (starEach args env)).any (·.1)=false) (hni:mN "__init__"=none)
  (hmB:mroIn K C (.type "BaseException")=some true) (hty:typeIn K (.ref C)=some (.type "type"))
  (h:wpAny (model prog w) A (eval (.Name x np) env) (fun f s₁=>f = .ref C∧wpAny (model prog w) A (evalArgs (.ref C) true (backTo cpos (starEach args env)) [])
   (fun r s₂=>r.kw=[]∧r.pos.length≤sizeLine∧s₂.heap.get? C=some (excClassObj nm q C N bs bm hdct sn sub ab col dd k0 k1 k2 k3 k5 newId)∧s₂.heap.Ns N mN∧OwnTail s₂.heap bmB bm∧K.In s₂.heap∧
    (∃ oa va,s₂.heap.get? a=some oa∧oa.data = .fields va∧va[2]?=some .none)∧
    ∀ h' e oe vs,(∀ b o,s₂.heap.get? b=some o→h'.get? b=some o)→s₂.heap.get? e=none→h'.get? e=some oe→oe.cls = .ref C→oe.dict=none→oe.data = .fields vs→vs[1]?=some .none→E (.ref e) {s₂ with heap:=h'}) E s₁) E s) :
  wpAny (model prog w) A (exec (.Raise (some (.Call (.Name x np) args [] cpos)) (some ce) pos) env) Q E s:=by
 rw [arm_exec_Raise]
 simp only [evalOpt,Option.map]
 refine wpAny_bind (wpAny_standAt (Xbe (K:=K) hh (fun Q' s' hq=>wpAny_bind (hce _ _ (wpAny_bind (wpAny_standAt (wpAny_pure hq))))) ?_))
 refine wpAny_bind (wpAny_mono (wpAny_Call_ofName (wpAny_mono h (fun f s₁ h₁=>?_) fun _ _ x=>x)) (fun v s₃ h₃=>wpAny_bind (wpAny_standAt (wpAny_pure h₃))) fun _ _ x=>x)
 obtain ⟨rfl,h₁⟩:=h₁
 unfold callWith
 refine wpAny_bind (wpAny_holding (wpAny_mono h₁ (fun r s₂ h₂=>wpAny_bind (wpAny_standAt ?_)) fun _ _ x=>x))
 obtain ⟨apos,akw⟩:=r
 obtain ⟨hkw,hlen,hC,hn,T,X,⟨oa,va,hoa,hda,h2⟩,hE⟩:=h₂
 obtain rfl:akw=[]:=hkw
 obtain ⟨hp,g,d,tk,os⟩:=s₂
 simp only [hplain]
 refine wpAny_bind (wpAny_keeperOf_exc hC ?_)
 refine wpAny_bind (wpAny_call_exc_subU (hrest:=hlen) Fn hBn F T hC hn hni fun h' e hm=>wpAny_bind (wpAny_holding (wpAny_point (wpAny_pure ?_))))
 obtain ⟨t,ht,_,_⟩:=hm.there
 have hea:e≠a:=fun z=>by have:=hm.new;rw [z,hoa] at this;cases this
 refine ⟨e,_,C,_,oa,va,rfl,fun b o z=>hm.keeps b o (X b o z),ht,rfl,rfl,rfl,rfl,hmB,hty,hea,hm.keeps _ _ hoa,hda,h2,fun h3 vs' e1 e2 e3=>?_⟩
 exact hE h3 e _ vs' (fun b o z=>(e3 b fun y=>by have:=hm.new;rw [← y,z] at this;cases this).trans (hm.keeps b o z)) hm.new e1 rfl rfl rfl e2
end
noncomputable def tTryB (K:Frag) (D C':Addr) (Eh:St→XK) (Eo:XK) (tb:TS) (t:TA):TS:=fun Dn σ H=>tb Dn σ H∧∀ σ' C d H',Eh σ' (.ref C) d H'→(mroIn K C (.ref D)=some false∧Eo (.ref C) d H')∨(mroIn K C (.ref D)=some true∧d≠none∧∀ a,H' a=none→t σ' (upd H' a (ExcO a C d)) fun vs H1=>vs.length≤sizeLine∧H1=upd H' a (ExcO a C d)∧Eo (.ref C') none H')
theorem Xtg {X:Cx} {body:List Stmt} {x y:Str} {D C':Addr} {np pos tpos np2 cpos rpos:Pos} {e:Expr} {es:List Expr} {ce:Expr} {tb:TS} {t:TA} {Eh:St→XK} {Eo:XK} (hb:∀ pn,PSs (X.tryC pn Eh) body tb) (hR:Rethrows X Eo)
  (hm:X.mg x=some (.ref D)) (cD:ExcC X.K D) (tyD:typeIn X.K (.ref D)=some (.type "type"))
  (xc:excIn X.K C' bmV "ValueError.__new__"=true) (hmB:mroIn X.K C' (.type "BaseException")=some true) (ty':typeIn X.K (.ref C')=some (.type "type")) (hm':X.mg y=some (.ref C')) (ha:∀ pn a,PA (X.handC pn a) (e::es) t)
  (hce:∀ (A:Around) (E:Value→Shared→Prop) (Q':Value→Shared→Prop) (s':Shared),Q' .none s'→wpAny (model X.prog X.w) A (eval ce X.env) Q' E s')
  (hs:X.stack=X.env::X.outer:=by rfl) (hf:X.env.frame=some X.env.locals:=by rfl) (hex:X.ex=[]:=by rfl) (hg:Gl X x:=by rfl) (hg':Gl X y:=by rfl) (hdb:(x == ("__debug__":Str))=false:=by decide +kernel) (hdb':(y == ("__debug__":Str))=false:=by decide +kernel)
  (he:starEach (e::es) X.env=(false,eval e X.env)::starEach es X.env:=by rfl) (hpl:(backTo cpos (starEach es X.env)).any (·.1)=false:=by rfl) :
  PS X (.Try body [.ExceptHandler (some (.Name x np)) none [.Raise (some (.Call (.Name y np2) (e::es) [] cpos)) (some ce) rpos] pos] [] [] tpos) (tTryB X.K D C' Eh Eo tb t):=by
 intro pins s σ H Dn I ⟨h1,h2⟩
 have ok:=I.ok
 refine wpAny_Try_except (wpAny_mono (hb (X.pn++pins) [] s σ H Dn (I.ins.wish _) h1) (fun f s1 z=>?_) (fun e s1 z=>?_))
 ·cases f with
  | next =>
   obtain ⟨σ',H',I',q⟩:=z
   exact Zt (X:=X) pins s1 σ' H' Dn (Inv.outs (Y:=X) ok (Inv.unwish (X:={X with pn:=X.pn++pins}) I')) q
  | brk=>obtain ⟨σ',H',I',q⟩:=z;exact ⟨σ',H',Inv.outs (Y:=X) ok (Inv.unwish (X:={X with pn:=X.pn++pins}) I'),q⟩
  | cont=>obtain ⟨σ',H',I',q⟩:=z;exact ⟨σ',H',Inv.outs (Y:=X) ok (Inv.unwish (X:={X with pn:=X.pn++pins}) I'),q⟩
  | ret u=>obtain ⟨v,σ',H',I',r,q⟩:=z;exact ⟨v,σ',H',Inv.outs (Y:=X) ok (Inv.unwish (X:={X with pn:=X.pn++pins}) I'),r,q⟩
 obtain ⟨a,C,d,T,σ',H1,H',s0,rfl,I1,I2,fly,fa,fT,na,nT,q⟩:=z
 have hq2:=h2 σ' C d H' q
 have fr:X.A.frames=some (X.env::X.outer):=ok.frames.trans (congrArg some hs)
 have fst:s1.heap.FunFrames X.base (X.env::X.outer):=hs ▸ I2.stack
 refine noteD fr fst hf fly fun h' T' x1 x2 x3 x4=>?_
 refine landD (s:={s1 with heap:=h'}) x3 x1 fun h2 y1 y2 y3=>?_
 have nT':∀ b o,s1.heap.get? b=some o→b≠T':=fun b o e z=>by rw [z,x2] at e;cases e
 have k2:∀ b o,b≠a→b≠T→b∉frs X.stack→s1.heap.get? b=some o→h2.get? b=some o:=fun b o e1 e2 e3 e4=>y3 b o (nT' b o e4) (x4.keep b o e1 (fun z=>e2 (Option.some.inj z)) (fun z=>e3 (by rw [hs];exact z)) e4)
 have l2:∀ b o,b≠a→b≠T→s1.heap.get? b=some o→∃ sl,h2.get? b=some {o with slots:=sl}:=fun b o e1 e2 e4=>by
  obtain ⟨sl,e⟩:=x4.slot b o e1 (fun z=>e2 (Option.some.inj z)) e4
  exact ⟨sl,y3 b _ (nT' b o e4) e⟩
 have J2:=(I1.caught (h':=h2) (t':=s1.toks) I2 hex na nT fa fT k2 l2 y1).hand a
 refine wpAny_handleBy_cons (codeAny_handlers_test (Jc J2 hg hm ?_ hdb)) (by intro q;cases q)
 obtain ⟨oe,vs,oT,ts,he0,hc,hdd,hd,hv1,_⟩:=id y1
 rcases hq2 with ⟨hmm,hE⟩ | ⟨hmm,hdn,ht⟩
 ·refine Zag (K:=X.K) J2.kIn he0 hc cD tyD hmm ?_
  refine wpAny_handleBy_nil ?_
  unfold PySem.passOn
  refine wpAny_bind (wpAny_field (s:={s1 with heap:=h2}) he0 hd hv1 ?_)
  rw [if_neg (show ¬((Value.ref T' == Value.none)=true) from by simp)]
  rw [hf]
  refine wpAny_bind (flyD (s:={s1 with heap:=h2}) y2 y1 fun h3 w1 w2 w3=>?_)
  refine wpAny_throw ?_
  have old:∀ b,s0.heap.get? b=none→X.s₀.heap.get? b=none:=fun b hb=>by
   cases z:X.s₀.heap.get? b with
   | none=>rfl
   | some o =>
    obtain ⟨o',e⟩:=I1.base.there b o z (by show b∉X.ex;rw [hex];simp)
    rw [hb] at e;cases e
  have S3:Stn (frs X.stack) a (some T) s1.heap h3:=⟨fun b o e1 e2 e3 e4=>w3 b o (nT' b o e4) (k2 b o e1 (fun z=>e2 (by rw [z])) e3 e4),fun b o e1 e2 e4=>by
   obtain ⟨sl,e⟩:=l2 b o e1 (fun z=>e2 (by rw [z])) e4
   exact ⟨sl,w3 b _ (nT' b o e4) e⟩⟩
  exact hR pins σ' H' s1 h3 a C d T T' X.env.locals (Inv.outs (Y:=X) ok I2) S3 (hs ▸ w2) hf w1 x2 fa fT (old a na) (old T nT) hE
 refine Zag (K:=X.K) J2.kIn he0 hc cD tyD hmm ?_
 refine codeAny_handlers_suite (landD (s:={s1 with heap:=h2}) y2 y1 fun h3 w1 w2 w3=>?_)
 have J3:=(I1.caught (h':=h3) (t':=s1.toks) I2 hex na nT fa fT (fun b o e1 e2 e3 e4=>w3 b o (nT' b o e4) (k2 b o e1 e2 e3 e4)) (fun b o e1 e2 e4=>by
  obtain ⟨sl,e⟩:=l2 b o e1 e2 e4
  exact ⟨sl,w3 b _ (nT' b o e4) e⟩) w1).hand a
 refine wpAny_execs_cons ?_
 obtain ⟨bm,N,nm,qn,bs,hdct,sn,sub,ab,col,dd,k0,k1,k2',k3,k5,mN,g1,g2,g3,g4⟩:=(clsAt J3.ok.mod.kin xc).ex
 refine Zhb (K:=X.K) (a:=a) (nm:=nm) (q:=qn) (N:=N) (bs:=bs) (bm:=bm) (hdct:=hdct) (sn:=sn) (sub:=sub) (ab:=ab) (col:=col) (dd:=dd) (k0:=k0) (k1:=k1) (k2:=k2') (k3:=k3) (k5:=k5) F.excBase_ValueError (bmB:=bmV) (by decide +kernel) F.excBase_ValueError (mN:=mN) rfl (hce _ _) ?_ g3 hmB ty' (Jc J3 hg' hm' ⟨rfl,?_⟩ hdb')
 ·rw [he];show (false||(backTo cpos (starEach es X.env)).any (·.1))=false;rw [hpl];rfl
 have hp:=ha (X.pn++pins) a cpos [] _ σ' _ _ J3 (ht a fa)
 rw [he]
 replace hp:wpAny (model X.prog X.w) (X.A.mark (some (.ref a))) _ _ _ _:=hp
 dsimp only [Cx.handC] at hp
 rw [he] at hp
 refine Calls.evalArgs_plain (wpAny_mono hp (fun us s5 z=>?_) fun _ _ z=>False.elim z)
 obtain ⟨ws,H5,I5,r,hl,eH,q1⟩:=z
 subst eH
 obtain ⟨⟨oa,va,a1,a2,a3,a4,a5⟩,_⟩:=(show ObjOk X.prog X.w (upd H' a (ExcO a C d)) s5.heap a (ExcO a C d) from I5.hok a _ Zc)
 refine ⟨rfl,by show us.length≤_;rw [← r.length];exact hl,I5.bk _ _ g1,g2.keeps I5.bk,g4.keeps I5.bk,I5.kIn,⟨oa,va,a1,a4,a5.resolve_left hdn⟩,fun h6 b ob vb m1 m2 m3 m4 m5 m6 m7=>?_⟩
 have I6:Inv X pins σ' H' s5:=Inv.sub (Inv.outs (Y:=X) ok I2) (I5.unhand ok) (Sub.refl (Zh fa))
 have nb:X.s₀.heap.get? b=none:=by
  cases z:X.s₀.heap.get? b with
  | none=>rfl
  | some o =>
   obtain ⟨o',e⟩:=I6.base.there b o z (by rw [hex];simp)
   rw [m2] at e;cases e
 have fb:H' b=none:=I6.hok.none m2
 have f6:h6.FunFrames X.base (X.env::X.outer):=(hs ▸ I6.stack:s5.heap.FunFrames X.base (X.env::X.outer)).of_keeps fun c o hc _=>⟨o,m1 c o hc,rfl⟩
 show wpAny _ _ (noteFrame (.ref b) X.env) _ _ _
 unfold noteFrame
 simp only [hf]
 refine wpAny_bind (wpAny_field (s:={s5 with heap:=h6}) m3 m6 m7 ?_)
 rw [if_neg (by decide)]
 refine entryD (s:={s5 with heap:=h6}) (A:=X.A.mark (some (.ref a))) fr f6 hf m3 m6 (Array.getElem?_eq_some_iff.mp m7).1 (.inl m5) fun h7 T7 x1' x2' x3' x4'=>?_
 rw [m4,m5] at x1'
 obtain ⟨oe7,vs7,oT7,ts7,v1,v2,v3,v4,v5,_⟩:=id x1'
 show wpAny _ _ _ _ _ _
 refine wpAny_bind (wpAny_field (s:={s5 with heap:=h7}) v1 v4 v5 ?_)
 rw [if_neg (show ¬((Value.ref T7 == Value.none)=true) from by simp)]
 rw [hf]
 refine flyD (s:={s5 with heap:=h7}) x3' x1' fun h8 u1 u2 u3=>?_
 have n7:s5.heap.get? T7=none:=by
  cases z:s5.heap.get? T7 with
  | none=>rfl
  | some o=>have:=m1 _ _ z;rw [show h6.get? T7=none from x2'] at this;cases this
 have S8:Stn (frs X.stack) b (some b) s5.heap h8:=⟨fun c o e1 _ e3 e4=>u3 c o (fun z=>by rw [z,n7] at e4;cases e4) (x4'.keep c o e1 (by simp) (fun z=>e3 (by rw [hs];exact z)) (m1 c o e4)),fun c o e1 _ e4=>by
  obtain ⟨sl,e⟩:=x4'.slot c o e1 (by simp) (m1 c o e4)
  exact ⟨sl,u3 c _ (fun z=>by rw [z,n7] at e4;cases e4) e⟩⟩
 exact hR pins σ' H' s5 h8 b C' none b T7 X.env.locals I6 S8 (hs ▸ u2) hf u1 n7 fb fb nb nb q1
section
variable {X:Cx}
noncomputable def oLeM:=OpR.or (oLe (X:=X)) (Xjd (X:=X))
end
end L2
end
section
namespace KM
open PySem L2
noncomputable def padL (l:List Bool):List Bool:=l++List.replicate 3000 false
theorem Zwi (l:List Bool):(padL l).length=l.length+3000:=by unfold padL;rw [List.length_append,List.length_replicate]
theorem Zwj (f:Nat→Bool):∀ m,∃ j,j≤m∧(∀ k,k<j→f k=true)∧(j<m→f j=false)
 | 0=>⟨0,Nat.le_refl _,fun k h=>absurd h (Nat.not_lt_zero _),fun h=>absurd h (Nat.not_lt_zero _)⟩
 | m+1=>by
  obtain ⟨j,h1,h2,h3⟩:=Zwj f m
  rcases Nat.lt_or_ge j m with c | c
  ·exact ⟨j,by omega,h2,fun _=>h3 c⟩
  ·have ej:j=m:=by omega
   subst ej
   cases hf:f j with
   | true =>
    refine ⟨j+1,Nat.le_refl _,fun k hk=>?_,fun h=>absurd h (by omega)⟩
    rcases Nat.lt_or_ge k j with z | z
    ·exact h2 k z
    ·have:k=j:=by omega
     rw [this];exact hf
   | false=>exact ⟨j,by omega,h2,fun _=>hf⟩
theorem Yae {L:List Bool} {i:Nat} (h:i+1000≤L.length):∃ n,n+1<2 ^ 255∧cnt n <+: L.drop i:=by
 obtain ⟨j,h7,o,z⟩:=Zwj (fun k=>L.getD (i+k) false) 7
 have hc:(cend (j+1)).length≤1:=by unfold cend;split<;>simp
 obtain ⟨d,hd⟩:∃ d,d=rd 1 ((L.drop (i+j+(cend (j+1)).length)).take j):=⟨_,rfl⟩
 have hdl:d<2 ^ 8:=by
  have b1:=(Jl ((L.drop (i+j+(cend (j+1)).length)).take j) 1 (by decide)).1
  rw [← hd,Qm,List.length_take,List.length_drop] at b1
  have b2:=Wq d
  exact Nat.lt_of_lt_of_le b2 (Nat.pow_le_pow_right (by decide) (by omega))
 obtain ⟨n,_,hn,hp,_⟩:=Zcb h7 o z hd (by omega)
 exact ⟨n,hn,hp⟩
theorem Yad {L:List Bool} {n m:Nat} (hn:n+1<2 ^ 255) (hm:m+1<2 ^ 255) (h1:cnt n <+: L) (h2:cnt m <+: L):n=m:=by
 rcases Nat.lt_trichotomy n m with c | c | c
 ·have S:=Xha c hm
  rcases List.prefix_or_prefix_of_prefix h1 h2 with z | z
  ·exact absurd z S.np
  ·exact absurd z S.np'
 ·exact c
 ·have S:=Xha c hn
  rcases List.prefix_or_prefix_of_prefix h1 h2 with z | z
  ·exact absurd z S.np'
  ·exact absurd z S.np
open Classical in
noncomputable def cnv (l:List Bool) (i:Nat):Nat:=if h:∃ n,n+1<2 ^ 255∧cnt n <+: (padL l).drop i then h.choose else 0
theorem Wu {l:List Bool} {i:Nat} (h:i≤l.length+1000):cnv l i+1<2 ^ 255∧cnt (cnv l i) <+: (padL l).drop i:=by
 have e:=Yae (L:=padL l) (i:=i) (by rw [Zwi];omega)
 unfold cnv
 rw [dif_pos e]
 exact e.choose_spec
theorem Zlj {l:List Bool} {i n:Nat} (h:i≤l.length+1000) (hn:n+1<2 ^ 255) (hp:cnt n <+: (padL l).drop i):cnv l i=n :=
 let ⟨a,b⟩:=Wu h;Yad a hn b hp
theorem Zie {l r:List Bool} {i:Nat} (hi:i≤l.length) (h:r <+: l.drop i):r <+: (padL l).drop i:=by
 unfold padL
 rw [List.drop_append_of_le_length hi]
 exact h.trans (List.prefix_append _ _)
theorem Zbj {l:List Bool} {i:Nat} (hi:i≤l.length) (hf:i+(cnt (cnv l i)).length≤l.length):cnt (cnv l i) <+: l.drop i:=by
 have h:=(Wu (l:=l) (i:=i) (by omega)).2
 unfold padL at h
 rw [List.drop_append_of_le_length hi] at h
 exact List.prefix_of_prefix_length_le h (List.prefix_append _ _) (by rw [List.length_drop];omega)
theorem Xdh {l:List Bool} {i:Nat} (hi:i≤l.length) (hf:l.length<i+(cnt (cnv l i)).length) (n:Nat) (hn:n+1<2 ^ 255):¬cnt n <+: l.drop i:=fun z=>by
 have e:=Zlj (by omega) hn (Zie hi z)
 have:=z.length_le
 rw [List.length_drop] at this
 rw [e] at hf
 omega
theorem Zua {l:List Bool} {i:Nat} (h:i≤l.length+1000):(cnt (cnv l i)).length≤269:=by
 have h1:=(Wu h).1
 have a:=Qw h1
 have:=Yf h1
 omega
theorem Xgj:∀ (p a b:List Bool),com (p++a) (p++b)=p.length+com a b
 | [],a,b=>by simp
 | x::p,a,b=>by
  show com (x::(p++a)) (x::(p++b))=_
  rw [com,if_pos rfl,Xgj p a b,List.length_cons];omega
theorem Xdb:∀ (p a b:List Bool),Lt (p++a) (p++b)↔Lt a b
 | [],a,b=>Iff.rfl
 | x::p,a,b=>by
  show Lt (x::(p++a)) (x::(p++b))↔_
  rw [Zth,Xdb p a b]
  constructor
  ·rintro (⟨h1,h2⟩ | ⟨_,h⟩)
   ·rw [h1] at h2;cases h2
   ·exact h
  ·intro h;exact .inr ⟨rfl,h⟩
theorem Zld {la rest:List Bool} {s:Nat} (h:s≤la.length):(Lt (la.drop s) rest∧com (la.drop s) rest=0)↔(com la (la.take s++rest)=s∧Lt la (la.take s++rest)):=by
 have e1:com la (la.take s++rest)=s+com (la.drop s) rest:=by
  conv=>lhs;arg 1;rw [← List.take_append_drop s la]
  rw [Xgj,List.length_take,Nat.min_eq_left h]
 have e2:Lt la (la.take s++rest)↔Lt (la.drop s) rest:=by
  conv=>lhs;arg 1;rw [← List.take_append_drop s la]
  exact Xdb ..
 rw [e1,e2]
 constructor
 ·rintro ⟨a,b⟩;exact ⟨by omega,a⟩
 ·rintro ⟨a,b⟩;exact ⟨b,by omega⟩
noncomputable def entAt (l la:List Bool) (fst:Bool) (s m i:Nat):Option (List Bool×Nat) :=
 if i+m≤l.length∧s≤la.length∧com la (la.take s++(l.drop i).take m)=s∧(fst=true∨Lt la (la.take s++(l.drop i).take m)) then some (la.take s++(l.drop i).take m,i+m) else none
noncomputable def entR (l la:List Bool) (fst:Bool) (i:Nat):Option (List Bool×Nat) :=
 entAt l la fst (cnv l i) (cnv l (i+(cnt (cnv l i)).length)) (i+(cnt (cnv l i)).length+(cnt (cnv l (i+(cnt (cnv l i)).length))).length)
theorem Zci {l la r:List Bool} {fst:Bool} {s m i j:Nat} (h:entAt l la fst s m i=some (r,j)):i+m≤l.length∧s≤la.length∧j=i+m∧r.length≤la.length+m:=by
 unfold entAt at h
 split at h
 ·rename_i c
  cases h
  refine ⟨c.1,c.2.1,rfl,?_⟩
  rw [List.length_append,List.length_take,List.length_take]
  omega
 ·cases h
theorem Zaj (n:Nat):1≤(cnt n).length:=by
 rw [Zig]
 by_cases h:blen (blen (n+1))=8
 ·rw [h];omega
 ·have:(cend (blen (blen (n+1)))).length=1:=by unfold cend;rw [if_neg h];rfl
  omega
theorem Zga {l la r:List Bool} {fst:Bool} {i j:Nat} (h:entR l la fst i=some (r,j)):i+2≤j∧j≤l.length∧r.length+i≤la.length+j:=by
 unfold entR at h
 obtain ⟨a,b,c,d⟩:=Zci h
 have e1:=Zaj (cnv l i)
 have e2:=Zaj (cnv l (i+(cnt (cnv l i)).length))
 omega
noncomputable def goR (l:List Bool):Nat→List (List Bool)→Nat→Option (List (List Bool))
 | 0,rs,i=>if i=l.length then some rs else none
 | k+1,rs,i=>match entR l (rs.getLastD []) rs.isEmpty i with
  | none=>none
  | some (r,j)=>goR l k (rs++[r]) j
noncomputable def rowsR (l:List Bool):Option (List (List Bool)):=if (cnt (cnv l 0)).length≤l.length then goR l (cnv l 0) [] (cnt (cnv l 0)).length else none
structure RdAt (l:List Bool) (out:Option (List (List Bool))) (rs:List (List Bool)) (i:Nat):Prop where
 le:rs.length≤cnv l 0
 at_:i≤l.length
 few:rs.length≤i
 sm:∀ x∈rs,x.length≤i
 go:goR l (cnv l 0 - rs.length) rs i=out
theorem RdAt.start {l:List Bool} {out:Option (List (List Bool))} (h:rowsR l=out) (hf:(cnt (cnv l 0)).length≤l.length):RdAt l out [] (cnt (cnv l 0)).length:=by
 unfold rowsR at h
 rw [if_pos hf] at h
 exact ⟨Nat.zero_le _,hf,Nat.zero_le _,fun x hx=>(by cases hx),h⟩
theorem RdAt.step {l r:List Bool} {out:Option (List (List Bool))} {rs:List (List Bool)} {i j:Nat} (h:RdAt l out rs i) (hl:rs.length<cnv l 0) (he:entR l (rs.getLastD []) rs.isEmpty i=some (r,j)):RdAt l out (rs++[r]) j:=by
 obtain ⟨a,b,c⟩:=Zga he
 have hg:=h.go
 rw [show cnv l 0 - rs.length=(cnv l 0 - (rs.length+1))+1 by omega] at hg
 unfold goR at hg
 rw [he] at hg
 have hla:(rs.getLastD []).length≤i:=by
  cases rs with
  | nil=>exact Nat.zero_le _
  | cons x y=>exact h.sm _ (by rw [List.getLastD_cons];exact List.getLastD_mem_cons ..)
 have f:=h.few
 refine ⟨by rw [List.length_append,List.length_singleton];omega,b,by rw [List.length_append,List.length_singleton];omega,fun x hx=>?_,by rw [List.length_append,List.length_singleton];exact hg⟩
 rcases List.mem_append.mp hx with z | z
 ·have:=h.sm x z;omega
 ·rw [List.mem_singleton.mp z];omega
theorem RdAt.stop {l:List Bool} {out:Option (List (List Bool))} {rs:List (List Bool)} {i:Nat} (h:RdAt l out rs i) (hl:rs.length<cnv l 0) (he:entR l (rs.getLastD []) rs.isEmpty i=none):out=none:=by
 have hg:=h.go
 rw [show cnv l 0 - rs.length=(cnv l 0 - (rs.length+1))+1 by omega] at hg
 unfold goR at hg
 rw [he] at hg
 exact hg.symm
theorem RdAt.last {l:List Bool} {out:Option (List (List Bool))} {rs:List (List Bool)} {i:Nat} (h:RdAt l out rs i) (hl:¬rs.length<cnv l 0):out=if i=l.length then some rs else none:=by
 have hg:=h.go
 rw [show cnv l 0 - rs.length=0 by omega] at hg
 exact hg.symm
end KM
end
section
namespace L2
open PySem PySem.W PySem.Spec PyProof.Rows
theorem Xid (n:Nat):sliceRange ((n:Int) - 1) (-1) (-1)=(List.range n).map fun k=>n - 1 - k:=by
 unfold sliceRange
 have hc:(if (-1:Int) > 0 then (if (n:Int) - 1 < -1 then (-1 - ((n:Int) - 1) + -1 - 1) / -1 else 0) else (if (n:Int) - 1 > -1 then ((n:Int) - 1 - -1 - -1 - 1)/(- -1) else 0)).toNat=n:=by
  rw [if_neg (by decide)]
  by_cases hn:(n:Int) - 1 > -1
  ·rw [if_pos hn]
   have e:(- -1:Int)=1:=by decide
   rw [e,Int.ediv_one];omega
  ·rw [if_neg hn];omega
 dsimp only
 rw [hc]
 apply List.map_congr_left
 intro k hk
 have hk':k<n:=List.mem_range.mp hk
 omega
theorem Zmi (its:List Value):slicePick its.toArray none none (some (-1))=its.reverse.toArray:=by
 unfold slicePick
 have e:sliceBounds none none (some (-1)) its.toArray.size=((its.length:Int) - 1,-1,-1):=by
  unfold sliceBounds;simp
 rw [e]
 dsimp only
 rw [Xid]
 congr 1
 apply List.ext_getElem?
 intro j
 have hm:(List.range its.length).map (fun k=>its.length - 1 - k)=(List.range its.length).reverse:=by
  apply List.ext_getElem?
  intro i
  rcases Nat.lt_or_ge i its.length with c | c
  ·rw [List.getElem?_map,List.getElem?_range c,List.getElem?_reverse (by rw [List.length_range];exact c),List.length_range,List.getElem?_range (by omega)];rfl
  ·rw [List.getElem?_eq_none (by simpa using c),List.getElem?_eq_none (by simpa using c)]
 rw [hm]
 have hf:(List.range its.length).reverse.filterMap (its.toArray[·]?)=its.reverse:=by
  rw [List.filterMap_reverse]
  congr 1
  apply List.ext_getElem?
  intro i
  have:∀ (l:List Value),(List.range l.length).filterMap (l.toArray[·]?)=l:=by
   intro l
   have h1:(List.range l.length).filterMap (l.toArray[·]?)=(List.range l.length).filterMap (l[·]?):=by simp
   rw [h1]
   induction l with
   | nil=>rfl
   | cons a r ih =>
    rw [List.length_cons,List.range_succ_eq_map,List.filterMap_cons]
    simp only [List.getElem?_cons_zero,List.filterMap_map]
    congr 1
    have:((fun x=>(a::r)[x]?) ∘ Nat.succ)=fun x=>r[x]?:=by funext x;rfl
    rw [this]
    have h2:(List.range r.length).filterMap (r.toArray[·]?)=(List.range r.length).filterMap (r[·]?):=by simp
    exact ih h2
  rw [this]
 rw [hf]
section
variable {X:Cx} {e:Expr} {te:TE} {p2 pos:Pos}
noncomputable def tRevL (K:PySem.W.Frag) (te ts:TE):TE:=fun σ H Q=>te σ H fun x H1=>ts σ H1 fun y H2=>∃ a xs,x = .ref a∧y = .int (-1)∧SqL K H2 a xs∧∀ p,H2 p=none→Q (.ref p) (upd H2 p (.lst xs.reverse))
theorem Xtj {se:Expr} {ts:TE} (he:PE X e te) (hs:PE X se ts):PE X (.Subscript e (.Slice none none (some se) p2) pos) (tRevL X.K te ts):=by
 intro pins s σ H Q I h
 refine Subscript_ (thn (he pins s σ H _ I h) fun v s1 ⟨x,H1,I1,r1,h1⟩=>?_)
 refine wpAny_Slice ?_
 rw [evalPart_none]
 refine wpAny_pure (wpAny_pure ?_)
 rw [evalPart_some]
 refine thn (hs pins s1 σ H1 _ I1 h1) fun vs s3 ⟨y,H3,I3,ry,a,xs,e1,ey,hx,q⟩=>?_
 subst e1 ey
 cases r1
 obtain ⟨tk,rfl⟩:=ry
 have I4:Inv X pins σ H3 {s3 with heap:=s3.heap.push {cls := .type "slice",data := .fields #[.none,.none,.int (-1) tk]}}:=I3.kept (t':=s3.toks) fun b ob q=>Heap.get?_push_of_some _ q
 obtain ⟨its,r,ht,hz⟩:=I4.list hx
 have hlen:=r.length
 show wpAny (model X.prog X.w) X.A (subscriptTail e (.Slice none none (some se) p2) (.ref a) (.ref s3.heap.objs.size)) (EP X pins σ Q) X.xe {s3 with heap:=s3.heap.push {cls := .type "slice",data := .fields #[.none,.none,.int (-1) tk]}}
 refine tail_any (ops:=[.ref a,.ref s3.heap.objs.size]) ht.isList.typeIs slot_list_getitem.lookup ?_ (by with_unfolding_all rfl)
 refine wpAny_getItem_list_slice ht.isList (Heap.IsSliceOf.new ..) .none .none (.int (-1) tk) (by simp) ?_ (by rw [List.size_toArray]<;>omega)
 rw [Zmi]
 refine ⟨.ref _,_,I4.laid (t':=s3.toks) (o := .lst xs.reverse) (fun b ob q=>Heap.get?_push_of_some _ q) (Nat.le_refl _) ?_,rfl,q _ (I4.hok.fresh (Nat.le_refl _))⟩
 exact ⟨by rw [List.length_reverse];exact hz,_,0,r.reverse,Heap.get?_push_size _ rfl⟩
end
end L2
end
section
namespace KM
open PySem
noncomputable def itr:Nat→Nat→Nat
 | 0,x=>x
 | m+1,x=>itr m (x*5+1)
theorem Ztd:∀ a b x,itr (a+b) x=itr b (itr a x)
 | 0,b,x=>by rw [Nat.zero_add];rfl
 | a+1,b,x=>by rw [Nat.succ_add];exact Ztd a b (x*5+1)
theorem Xgb (n:Nat):∀ m x y,x%n=y%n→itr m x%n=itr m y%n
 | 0,x,y,h=>h
 | m+1,x,y,h=>Xgb n m _ _ (by rw [Nat.add_mod,Nat.mul_mod,h,← Nat.mul_mod,← Nat.add_mod])
theorem Xvb (k:Nat):∃ c d,∀ x,itr (2 ^ k) x=x+2 ^ k*(4*(c*x)+2*d+1):=by
 induction k with
 | zero=>exact ⟨1,0,fun x=>by show x*5+1=_;omega⟩
 | succ k ih =>
  obtain ⟨c,d,h⟩:=ih
  refine ⟨c+2*(c*c*2 ^ k),d+c*2 ^ k*(2*d+1),fun x=>?_⟩
  rw [Nat.pow_succ,Nat.mul_two,Ztd,h,h]
  generalize 2 ^ k=p
  grind
theorem Xvc (k:Nat):∀ i t,∃ m,m<2 ^ k∧itr m i%2 ^ k=t%2 ^ k:=by
 induction k with
 | zero=>exact fun i t=>⟨0,by decide,by rw [Nat.pow_zero,Nat.mod_one,Nat.mod_one]⟩
 | succ k ih =>
  intro i t
  obtain ⟨m,hm,e⟩:=ih i t
  obtain ⟨c,d,h⟩:=Xvb k
  have hp:0<2 ^ k:=Nat.two_pow_pos k
  by_cases e2:itr m i%2 ^ (k+1)=t%2 ^ (k+1)
  ·exact ⟨m,by rw [Nat.pow_succ];omega,e2⟩
  ·refine ⟨m+2 ^ k,by rw [Nat.pow_succ];omega,?_⟩
   rw [Ztd,h]
   rw [Nat.pow_succ] at e2 ⊢
   generalize itr m i=y at *
   generalize 2 ^ k=p at *
   have ey:y%(p*2)=y%p+p*(y/p%2):=Nat.mod_mul
   have et:t%(p*2)=t%p+p*(t/p%2):=Nat.mod_mul
   have e3:(y+p*(4*(c*y)+2*d+1))%(p*2)=y%p+p*((y/p+(4*(c*y)+2*d+1))%2):=by
    rw [Nat.mod_mul,Nat.add_mul_mod_self_left,Nat.add_mul_div_left _ _ hp]
   rw [e3,et,e]
   rw [ey,et,e] at e2
   have a1:y/p%2<2:=Nat.mod_lt _ (by decide)
   have a2:t/p%2<2:=Nat.mod_lt _ (by decide)
   have ne:y/p%2≠t/p%2:=fun z=>e2 (by rw [z])
   have:(y/p+(4*(c*y)+2*d+1))%2=t/p%2:=by omega
   rw [this]
theorem Zlc {mask:Nat} {ow:Array (Option Nat)}:∀ fuel i p j,SetTable.layClean.free mask ow fuel i p=some j→ow.getD j (some 0)=none
 | 0,_,_,_,h=>by unfold SetTable.layClean.free at h;cases h
 | f+1,i,p,j,h=>by
  unfold SetTable.layClean.free at h
  split at h
  ·rename_i k hk
   cases h
   have z:=List.find?_some hk
   exact Option.isNone_iff_eq_none.mp z
  ·exact Zlc f _ _ _ h
theorem Xkh {mask i:Nat} {ow:Array (Option Nat)} (h:ow.getD i (some 0)=none) (f p:Nat):∃ j,SetTable.layClean.free mask ow (f+1) i p=some j:=by
 unfold SetTable.layClean.free
 split
 ·exact ⟨_,rfl⟩
 ·rename_i hk
  have hr:0∈List.range (SetTable.runEnd mask i+1 - i):=List.mem_range.mpr (by unfold SetTable.runEnd;split<;>omega)
  have:=List.find?_eq_none.mp hk 0 hr
  rw [Nat.add_zero,h] at this
  exact absurd rfl this
theorem Zqb {k t:Nat} {ow:Array (Option Nat)} (h:ow.getD t (some 0)=none) (ht:t<2 ^ k):∀ m i f,i<2 ^ k→itr m i%2 ^ k=t%2 ^ k→m<f→∃ j,SetTable.layClean.free (2 ^ k - 1) ow f i 0=some j
 | 0,i,f,hi,e,hf=>by
  have:i=t:=by
   have e':i%2 ^ k=t%2 ^ k:=e
   rwa [Nat.mod_eq_of_lt hi,Nat.mod_eq_of_lt ht] at e'
  subst this
  obtain ⟨f,rfl⟩:∃ g,f=g+1:=⟨f - 1,by omega⟩
  exact Xkh h f 0
 | m+1,i,f,hi,e,hf=>by
  obtain ⟨f,rfl⟩:∃ g,f=g+1:=⟨f - 1,by omega⟩
  have hp:0<2 ^ k:=Nat.two_pow_pos k
  unfold SetTable.layClean.free
  split
  ·exact ⟨_,rfl⟩
  ·have el:SetTable.leap (2 ^ k - 1) i 0=((i*5+1)%2 ^ k,0):=by
    unfold SetTable.leap
    rw [Nat.zero_div,Nat.add_zero,Nat.sub_add_cancel hp]
   rw [el]
   exact Zqb h ht m _ f (Nat.mod_lt _ hp) (by rw [Xgb _ m _ (i*5+1) (Nat.mod_mod _ _)];exact e) (by omega)
theorem Zqc {k t:Nat} {ow:Array (Option Nat)} (h:ow.getD t (some 0)=none) (ht:t<2 ^ k):∀ d i p f,i<2 ^ k→p<32 ^ d→2 ^ k≤f→∃ j,SetTable.layClean.free (2 ^ k - 1) ow (f+d) i p=some j
 | 0,i,p,f,hi,hp,hf=>by
  obtain rfl:p=0:=by omega
  obtain ⟨m,hm,e⟩:=Xvc k i t
  exact Zqb h ht m i f hi e (by omega)
 | d+1,i,p,f,hi,hp,hf=>by
  unfold SetTable.layClean.free
  split
  ·exact ⟨_,rfl⟩
  ·have h0:0<2 ^ k:=Nat.two_pow_pos k
   exact Zqc h ht d _ _ f (by rw [Nat.sub_add_cancel h0];exact Nat.mod_lt _ h0) (by rw [Nat.pow_succ] at hp;omega) hf
theorem Xqg {k t:Nat} {ow:Array (Option Nat)} (h:ow.getD t (some 0)=none) (ht:t<2 ^ k) (x:Int):∃ j,SetTable.layClean.free (2 ^ k - 1) ow (SetTable.turns (2 ^ k - 1)) (SetTable.bits x%(2 ^ k - 1+1)) (SetTable.bits x)=some j:=by
 have h0:0<2 ^ k:=Nat.two_pow_pos k
 have e:SetTable.turns (2 ^ k - 1)=2 ^ k+1+13:=by unfold SetTable.turns;omega
 rw [e]
 refine Zqc h ht 13 _ _ _ (by rw [Nat.sub_add_cancel h0];exact Nat.mod_lt _ h0) ?_ (by omega)
 unfold SetTable.bits
 omega
theorem Zje {α:Type}:∀ (l:List (Option α)) (j:Nat) (v:α),l[j]?=some none→((l.set j (some v)).filterMap id).Perm (v::l.filterMap id)
 | [],j,v,h=>by cases h
 | none::r,0,v,h => .refl _
 | some x::r,0,v,h=>by cases h
 | none::r,j+1,v,h=>Zje r j v h
 | some x::r,j+1,v,h=>by
  show (x::(r.set j (some v)).filterMap id).Perm (v::x::r.filterMap id)
  exact ((Zje r j v h).cons x).trans (.swap v x _)
theorem none_of {α:Type}:∀ (l:List (Option α)),(l.filterMap id).length<l.length→∃ t,t<l.length∧l[t]?=some none
 | [],h=>by cases h
 | none::r,h=>⟨0,Nat.succ_pos _,rfl⟩
 | some x::r,h=>by
  obtain ⟨t,ht,e⟩:=none_of r (by simpa using h)
  exact ⟨t+1,Nat.succ_lt_succ ht,e⟩
noncomputable abbrev layStep (mask:Nat):Option (Array (Option Nat)×Nat)→Int→Option (Array (Option Nat)×Nat):=fun acc h=>do
 let (owner,k) ← acc
 let j ← SetTable.layClean.free mask owner (SetTable.turns mask) (SetTable.bits h%(mask+1)) (SetTable.bits h)
 pure (owner.setIfInBounds j (some k),k+1)
theorem Zyh (k:Nat):∀ (hs:List Int) (ow:Array (Option Nat)) (n:Nat),ow.size=2 ^ k→(ow.toList.filterMap id).Perm (List.range n)→n+hs.length≤2 ^ k→
  ∃ ow',hs.foldl (layStep (2 ^ k - 1)) (some (ow,n))=some (ow',n+hs.length)∧ow'.size=2 ^ k∧(ow'.toList.filterMap id).Perm (List.range (n+hs.length))
 | [],ow,n,hs,hp,hl=>⟨ow,rfl,hs,hp⟩
 | h::r,ow,n,hs,hp,hl=>by
  have hlen:=hp.length_eq
  rw [List.length_range] at hlen
  rw [List.length_cons] at hl
  obtain ⟨t,ht,e⟩:=none_of ow.toList (by rw [hlen,Array.length_toList];omega)
  rw [Array.length_toList,hs] at ht
  have et:ow.getD t (some 0)=none:=by
   rw [Array.getD_eq_getD_getElem?,← Array.getElem?_toList,e];rfl
  obtain ⟨j,hj⟩:=Xqg et ht h
  have ej:=Zlc _ _ _ _ hj
  have ej2:ow.toList[j]?=some none:=by
   rw [Array.getD_eq_getD_getElem?] at ej
   rw [Array.getElem?_toList]
   cases hh:ow[j]? with
   | none=>rw [hh] at ej;cases ej
   | some z=>rw [hh] at ej;rw [show z=none from ej]
  have e1:layStep (2 ^ k - 1) (some (ow,n)) h=some (ow.setIfInBounds j (some n),n+1):=by
   show (Option.bind (SetTable.layClean.free _ ow _ _ _) _)=_
   rw [hj];rfl
  obtain ⟨ow',a,b,c⟩:=Zyh k r (ow.setIfInBounds j (some n)) (n+1) (by rw [Array.size_setIfInBounds,hs]) (by
   rw [Array.toList_setIfInBounds]
   refine (Zje _ _ _ ej2).trans ?_
   rw [List.range_succ]
   exact (hp.cons n).trans (List.perm_append_singleton n _).symm) (by omega)
  refine ⟨ow',?_,b,?_⟩
  ·rw [List.foldl_cons,e1,a,List.length_cons];congr 2;omega
  ·rw [List.length_cons,show n+(r.length+1)=n+1+r.length by omega];exact c
theorem Zyd (ow:Array (Option Nat)) (m:Nat) (h:ow.size=m):((List.range m).filterMap fun j=>(ow.getD j none).map (j,·)).map (·.2)=ow.toList.filterMap id:=by
 rw [List.map_filterMap]
 have e:ow.toList=(List.range m).map fun j=>ow.getD j none:=by
  apply List.ext_getElem?
  intro i
  rw [List.getElem?_map,Array.getElem?_toList]
  by_cases hi:i<m
  ·rw [List.getElem?_range hi,Array.getElem?_eq_getElem (by omega)]
   simp [Array.getD,show i<ow.size by omega]
  ·rw [List.getElem?_eq_none (by rw [List.length_range];omega),Array.getElem?_eq_none (by omega)];rfl
 rw [e,List.filterMap_map]
 congr 1
 funext j
 simp only [Function.comp,id]
 cases ow.getD j none<;>rfl
theorem Xfj (k finger moves:Nat) (led plain:Bool) (hs:Array Int) (h:hs.size≤2 ^ k - 1):∃ t ord,SetTable.laid (2 ^ k - 1) finger moves led plain hs=some (t,ord)∧ord.toList.Perm (List.range hs.size)∧t.fits hs.size=true∧t.led=led∧t.plain=plain:=by
 have h0:0<2 ^ k:=Nat.two_pow_pos k
 have hz:((Array.replicate (2 ^ k - 1+1) (none:Option Nat)).toList.filterMap id)=[]:=by
  rw [Array.toList_replicate]
  induction (2 ^ k - 1+1) with
  | zero=>rfl
  | succ n ih=>exact ih
 obtain ⟨ow,a,b,c⟩:=Zyh k hs.toList (Array.replicate (2 ^ k - 1+1) none) 0 (by rw [Array.size_replicate];omega) (by rw [hz];exact .refl _) (by rw [Array.length_toList];omega)
 rw [Nat.zero_add,Array.length_toList] at a c
 have e:SetTable.layClean (2 ^ k - 1) hs=some ow:=by
  unfold SetTable.layClean
  rw [← Array.foldl_toList]
  have a':=congrArg (Option.map (·.1)) a
  exact a'
 refine ⟨_,_,by unfold SetTable.laid;rw [e];rfl,?_,?_,rfl,rfl⟩
 ·rw [List.toList_toArray,Zyd ow (2 ^ k - 1+1) (by rw [b];omega)]
  exact c
 ·have hl:=congrArg List.length (Zyd ow (2 ^ k - 1+1) (by rw [b];omega))
  rw [List.length_map,c.length_eq,List.length_range] at hl
  unfold SetTable.fits SetTable.fill
  simp only [List.size_toArray,List.length_map,Array.size_empty,Nat.add_zero,Bool.and_eq_true,beq_iff_eq,decide_eq_true_eq]
  exact ⟨hl,by rw [hl];exact h⟩
theorem Zoj (n:Nat):∀ fuel k,n<2 ^ (k+fuel)→∃ j,SetTable.sizeAbove.go n fuel (2 ^ k)=2 ^ j∧n<2 ^ j∧k≤j
 | 0,k,h=>⟨k,rfl,h,Nat.le_refl _⟩
 | f+1,k,h=>by
  unfold SetTable.sizeAbove.go
  split
  ·obtain ⟨j,a,b,c⟩:=Zoj n f (k+1) (by rw [show k+1+f=k+(f+1) by omega];exact h)
   rw [Nat.pow_succ] at a
   exact ⟨j,a,b,by omega⟩
  ·exact ⟨k,rfl,by omega,Nat.le_refl _⟩
theorem Zrf {n:Nat} (h:n<2 ^ 67):∃ j,SetTable.sizeAbove n=2 ^ j∧n<2 ^ j:=by
 obtain ⟨j,a,b,_⟩:=Zoj n 64 3 h
 exact ⟨j,a,b⟩
theorem Zpa (n:Nat):∀ fuel s,s≤2*n+8→SetTable.sizeAbove.go n fuel s≤2*n+8
 | 0,s,h=>h
 | f+1,s,h=>by
  unfold SetTable.sizeAbove.go
  split
  ·exact Zpa n f _ (by omega)
  ·exact h
theorem Zrg (n:Nat):SetTable.sizeAbove n≤2*n+8:=Zpa n 64 8 (by omega)
end KM
end
section
namespace L2
open PySem PySem.Spec
noncomputable abbrev setO (es:Array (Int×Value)) (ep:Nat) (t:SetTable):Obj:={cls := .type "set",dict:=none,data := .set es ep t}
noncomputable def addK (ks:List Str) (k:Str):List Str:=if k∈ks then ks else ks++[k]
structure SetIn (w:World) (es:Array (Int×Value)) (t:SetTable) (ks:List Str):Prop where
 fit:t.fits es.size=true
 led:w.params.followText "set-order"=false→t.led=true
 pl:es.size≠0→t.plain=false
 els:∀ e∈es.toList,∃ k u,e=(hashStr w k,Value.str k u)
 keys:(es.toList.map fun e=>PyProof.Rows.strOf e.2).Perm ks
noncomputable def SetT (w:World) (h:Heap) (a:Addr) (ks:List Str):Prop:=∃ es ep t,h.get? a=some (setO es ep t)∧SetIn w es t ks
section
variable {w:World} {es es':Array (Int×Value)} {t t':SetTable} {ks:List Str}
theorem SetIn.size (h:SetIn w es t ks):es.size=ks.length:=by
 have z:=h.keys.length_eq
 rwa [List.length_map,Array.length_toList] at z
theorem SetIn.elems (prog:Program) (h:SetIn w es t ks):ElemsOf (PySem.strKind prog w) es.toList:=fun e he=>by
 obtain ⟨k,u,rfl⟩:=h.els e he
 exact ⟨⟨k,by simp [PySem.strKind,Value.isStrOf],rfl⟩,rfl⟩
theorem SetIn.mem (prog:Program) (h:SetIn w es t ks) (k:Str):(∃ e∈es.toList,(PySem.strKind prog w).is k e.2=true)↔k∈ks:=by
 rw [← h.keys.mem_iff,List.mem_map]
 constructor
 ·rintro ⟨e,he,hp⟩
  obtain ⟨k',u,rfl⟩:=h.els e he
  obtain ⟨v,hv⟩:=Value.isStrOf_shape (x:=k) (v:=Value.str k' u) hp
  injection hv with hv
  exact ⟨_,he,hv⟩
 ·rintro ⟨e,he,rfl⟩
  obtain ⟨k',u,rfl⟩:=h.els e he
  exact ⟨_,he,by simp [PySem.strKind,Value.isStrOf,PyProof.Rows.strOf]⟩
theorem SetIn.move (h:SetIn w es t ks) (hp:es'.toList.Perm es.toList) (hf:t'.fits es'.size=true) (hl:t.led=true→t'.led=true) (hpl:es'.size≠0→t'.plain=false):SetIn w es' t' ks :=
 ⟨hf,fun z=>hl (h.led z),hpl,fun e he=>h.els e (hp.mem_iff.mp he),(hp.map _).trans h.keys⟩
theorem SetIn.fresh:SetIn w #[] (.fresh 0 0 (!w.params.followText "set-order")) [] :=
 ⟨rfl,fun z=>by show (!w.params.followText "set-order")=true;rw [z];rfl,fun z=>absurd rfl z,fun e he=>(by cases he),.refl _⟩
theorem SetT.keep {h h':Heap} {a:Addr} (t:SetT w h a ks) (k:∀ o,h.get? a=some o→h'.get? a=some o):SetT w h' a ks:=by
 obtain ⟨es,ep,tb,ho,hi⟩:=t
 exact ⟨es,ep,tb,k _ ho,hi⟩
theorem Xui (t:SetTable) (es:Array (Int×Value)) (h:Int) (x:Value):(layNew t es h x).2.1.led=t.led:=by
 unfold layNew
 split
 ·rename_i sl wd _
  have hl:(t.put sl).1.led=t.led:=rfl
  show (SetTable.orStandIn (t.put sl).1 _).led=_
  generalize (t.put sl).1=t1 at hl
  unfold SetTable.orStandIn
  split
  ·exact hl
  ·exact hl
 ·rfl
theorem Xdd {m f v:Nat} {l p:Bool} {hs:Array Int} {t:SetTable} {o:Array Nat} (h:SetTable.laid m f v l p hs=some (t,o)):t.led=l∧t.plain=p:=by
 unfold SetTable.laid at h
 cases hc:SetTable.layClean m hs with
 | none=>rw [hc] at h;cases h
 | some ow=>rw [hc] at h;cases h;exact ⟨rfl,rfl⟩
theorem Xkc {m f v:Nat} {l p:Bool} {hs:Array Int} {t:SetTable} {o:Array Nat} (h:SetTable.laid m f v l p hs=some (t,o)):t.mask=m∧t.dummies.size=0:=by
 unfold SetTable.laid at h
 cases hc:SetTable.layClean m hs with
 | none=>rw [hc] at h;cases h
 | some ow=>rw [hc] at h;cases h;exact ⟨rfl,rfl⟩
theorem Zwb (t:SetTable) (es:Array (Int×Value)) (n:Nat):(relayAll t es n).2.1.led=t.led∧(t.plain=false→(relayAll t es n).2.1.plain=false):=by
 unfold relayAll
 split
 ·rename_i t' o h
  obtain ⟨a,b⟩:=Xdd (show SetTable.laid _ _ _ _ _ _=some (t',o) from h)
  dsimp only
  split
  ·exact ⟨a,fun z=>b.trans z⟩
  ·exact ⟨rfl,fun _=>rfl⟩
 ·exact ⟨rfl,fun _=>rfl⟩
end
section
variable {prog:Program} {w:World} {A:Around} {E:Value→Shared→Prop} {s:Shared} {a:Addr} {es:Array (Int×Value)} {ep:Nat} {t:SetTable} {ks:List Str}
theorem Zde {es':Array (Int×Value)} {t':SetTable} {Q:Unit→Shared→Prop} (ho:s.heap.get? a=some (setO es ep t)) (hz:es'.size<scanBound)
  (h:∀ h',Heap.SameBut a s.heap h'→h'.get? a=some (setO es' (ep+1) t')→Q () {s with heap:=h'}):wpAny (model prog w) A (storeSet a es' t') Q E s:=by
 refine wpAny_storeSet_of ho rfl (h _ (Heap.SameBut.update s.heap a _) ?_) (fits_of_scanBound hz)
 have z:=Heap.get?_update_self (Obj.putSet es' t') ho (by rw [putSet_of es' t' (rfl:(setO es ep t).data=_)];rfl)
 rwa [putSet_of es' t' (rfl:(setO es ep t).data=_)] at z
theorem Xqf (g:Bool→Sem Unit) (hg:∀ b,g b=rule "set.scan.the-table-gave-way"∨g b=pure ()) (b:Bool) {Q:Unit→Shared→Prop} (h:Q () s):wpAny (model prog w) A (g b) Q E s:=by
 rcases hg b with e | e<;>rw [e]
 ·exact wpAny_rule h
 ·exact wpAny_pure h
theorem Xaa (g:Bool→Sem Unit) (hg:∀ b,g b=rule "set.scan.the-table-gave-way"∨g b=pure ()) {wd:Bool} {es1:Array (Int×Value)} {t2:SetTable} {R:Option Bool→Shared→Prop} (ho:s.heap.get? a=some (setO es ep t)) (i1:SetIn w es1 t2 ks) (hz:es1.size<scanBound)
  (h:∀ h',Heap.SameBut a s.heap h'→SetT w h' a ks→R (some true) {s with heap:=h'}) :
  wpAny (model prog w) A (do
   storeSet a es1 t2
   if (!wd&&t2.tooFull)=true then do
    g (relayAll t2 es1 (SetTable.grown es1.size)).2.2
    storeSet a (relayAll t2 es1 (SetTable.grown es1.size)).1 (relayAll t2 es1 (SetTable.grown es1.size)).2.1
    pure (some true)
   else pure (some true)) R E s:=by
 refine wpAny_bind (Zde ho hz fun h1 sb1 ho1=>?_)
 refine wpAny_ite_split (fun _=>?_) (fun _=>?_)
 ·have r1:=relayAll_perm t2 es1 (SetTable.grown es1.size)
  have r2:=relayAll_fits t2 es1 (SetTable.grown es1.size)
  have r3:=Zwb t2 es1 (SetTable.grown es1.size)
  generalize relayAll t2 es1 (SetTable.grown es1.size)=L at r1 r2 r3 ⊢
  have hsz2:L.1.size=es1.size:=by
   have z:=r1.length_eq
   rwa [Array.length_toList,Array.length_toList] at z
  refine wpAny_bind (Xqf g hg _ ?_)
  refine wpAny_bind (Zde (s:={s with heap:=h1}) ho1 (by omega) fun h2 sb2 ho2=>?_)
  exact wpAny_pure (h h2 (sb1.trans sb2) ⟨_,_,_,ho2,i1.move r1 r2 (fun z=>r3.1.trans z) fun z=>r3.2 (i1.pl (by omega))⟩)
 ·exact wpAny_pure (h h1 sb1 ⟨_,_,_,ho1,i1⟩)
set_option maxHeartbeats 1000000 in
theorem Xwe {k:Str} {u:Tok} {Q:Bool→Shared→Prop} (hS:SetT w s.heap a ks) (hb:ks.length+1<scanBound)
  (h:∀ h' b,Heap.SameBut a s.heap h'→SetT w h' a (addK ks k)→Q b {s with heap:=h'}):wpAny (model prog w) A (setAddHashed a (.str k u) (hashStr w k)) Q E s:=by
 obtain ⟨es,ep,t,ho,hi⟩:=hS
 have hel:=hi.elems prog
 have hsz:=hi.size
 have his:(PySem.strKind prog w).is k (.str k u)=true:=by simp [PySem.strKind,Value.isStrOf]
 unfold setAddHashed setAddHashedIn
 refine wpAny_holding (wpAny_bind (wpAny_setState_of ho rfl hi.fit ?_))
 dsimp only
 rw [byScan_of (knd:=PySem.strKind prog w) rfl (by omega) hel,if_pos rfl]
 unfold setAddByScan
 refine wpAny_bind (wpAny_bind (wpAny_rule (wpAny_bind (wpAny_setScan_of (knd:=PySem.strKind prog w) (k:=k) his ho rfl hi.fit hel ?_))))
 cases hr:List.findIdx? (fun e=>(PySem.strKind prog w).is k e.2) es.toList with
 | some j =>
  obtain ⟨hj,hp,_⟩:=List.findIdx?_eq_some_iff_getElem.mp hr
  have hk:k∈ks:=(hi.mem prog k).mp ⟨_,List.getElem_mem hj,hp⟩
  refine wpAny_pure (wpAny_pure ?_)
  exact h s.heap false (Heap.SameBut.refl a s.heap) ⟨es,ep,t,ho,by unfold addK;rw [if_pos hk];exact hi⟩
 | none =>
  have hk:k∉ks:=fun z=>by
   obtain ⟨e,he,hp⟩:=(hi.mem prog k).mpr z
   have y:=List.findIdx?_eq_none_iff.mp hr e he
   rw [hp] at y;cases y
  dsimp only
  have p1:=layNew_perm t es (hashStr w k) (.str k u)
  have p2:=layNew_fits t es (hashStr w k) (.str k u)
  have p3:=Xui t es (hashStr w k) (.str k u)
  show wpAny _ _ (match layNew t es (hashStr w k) (.str k u) with | (es,t,wasDummy,gave)=>_) _ _ _
  generalize layNew t es (hashStr w k) (.str k u)=L at p1 p2 p3 ⊢
  obtain ⟨es1,t1,wd,gv⟩:=L
  dsimp only at p1 p2 p3 ⊢
  rw [Array.toList_push] at p1
  have hsz1:es1.size=ks.length+1:=by
   have z:=p1.length_eq
   rwa [List.length_append,Array.length_toList,Array.length_toList,hsz] at z
  have fin:∀ (t2:SetTable),t2.fits es1.size=true→(t.led=true→t2.led=true)→t2.plain=false→SetIn w es1 t2 (addK ks k):=fun t2 f1 f2 f3 =>
   ⟨f1,fun z=>f2 (hi.led z),fun _=>f3,fun e he=>by
    rcases List.mem_append.mp (p1.mem_iff.mp he) with y | y
    ·exact hi.els e y
    ·exact ⟨k,u,List.mem_singleton.mp y⟩,by
    unfold addK
    rw [if_neg hk]
    refine (p1.map _).trans ?_
    rw [List.map_append]
    exact hi.keys.append_right _⟩
  refine wpAny_bind (Xqf _ (fun b=>by cases b;exact .inr rfl;exact .inl rfl) gv ?_)
  refine wpAny_ite_split (fun hpl=>?_) (fun hpl=>?_)
  ·refine wpAny_bind (wpAny_of_eq (a:=false) rfl ?_)
   exact Xaa _ (fun b=>by cases b;exact .inr rfl;exact .inl rfl) ho (fin _ (SetTable.fits_plain_off p2) (fun z=>p3.trans z) rfl) (by omega) fun h' sb hT=>wpAny_pure (h h' true sb hT)
  ·refine wpAny_bind (wpAny_pure ?_)
   exact Xaa _ (fun b=>by cases b;exact .inr rfl;exact .inl rfl) ho (fin t1 p2 (fun z=>p3.trans z) (by simpa using hpl)) (by omega) fun h' sb hT=>wpAny_pure (h h' true sb hT)
theorem Xpd {Q:Value→Shared→Prop} (h:Q (.ref s.heap.objs.size) {s with heap:=s.heap.push (setO #[] 0 (.fresh 0 0 (!w.params.followText "set-order")))}):wpAny (model prog w) A (newSet (.type "set")) Q E s:=by
 unfold newSet setsByText
 refine wpAny_bind (wpAny_bind (wpAny_askSetting (wpAny_pure ?_)))
 simp only [newObj]
 exact wpAny_bind (wpAny_alloc (wpAny_pure h))
theorem Xej {es:Array (Int×Value)} {ld:Option (SetTable×Array Nat)} {t':SetTable} {ord:Array Nat} {Q:Array (Int×Value)×SetTable→Shared→Prop} (hl:ld=some (t',ord)) (hp:ord.toList.Perm (List.range es.size))
  (h:∀ es':Array (Int×Value),es'.toList.Perm es.toList→Q (es',t') s) :
  wpAny (model prog w) A (do
   let some (t,order):=ld | unsupported "internal:set-table-without-room"
   let es':=order.filterMap (es[·]?)
   if es'.size != es.size then unsupported "internal:set-table-lost-an-element"
   pure (es',t)) Q E s:=by
 subst hl
 have p:(ord.filterMap (es[·]?)).toList.Perm es.toList:=by
  rw [Array.toList_filterMap]
  exact (hp.filterMap _).trans (by rw [filterMap_getElem?_range])
 have z:=p.length_eq
 rw [Array.length_toList,Array.length_toList] at z
 show wpAny _ _ (if ((ord.filterMap (es[·]?)).size != es.size)=true then _ else _) _ _ _
 rw [if_neg (by rw [z];simp)]
 exact wpAny_pure (h _ p)
theorem Xmg {n j:Nat} (h:n<2 ^ j):n≤2 ^ j - 1:=by omega
set_option maxHeartbeats 1000000 in
theorem Xfa {n:Nat} {Q:Unit→Shared→Prop} (ho:s.heap.get? a=some (setO es ep t)) (hi:SetIn w es t ks) (hn:ks.length≤n) (hb:n≤20000) (hz:ks.length<scanBound)
  (h:∀ h' es' t' j,Heap.SameBut a s.heap h'→h'.get? a=some (setO es' (ep+1) t')→es'.toList.Perm es.toList→t'.fits es'.size=true→t'.led=t.led→t'.plain=t.plain→t'.mask=2 ^ j - 1→n<2 ^ j→t'.dummies.size=0→Q () {s with heap:=h'}) :
  wpAny (model prog w) A (setRelay a n) Q E s:=by
 unfold setRelay
 refine wpAny_bind (wpAny_setState_of ho rfl hi.fit ?_)
 dsimp only
 have hsl:=KM.Zrg n
 rw [if_neg (by have:(40008:Nat)≤sizeLine:=(by decide);omega)]
 obtain ⟨j,ej,hj⟩:=KM.Zrf (n:=n) (Nat.lt_of_le_of_lt hb (by decide))
 have hsz:=hi.size
 obtain ⟨t',ord,e1,e2,e3,e4,e5⟩:=KM.Xfj j t.finger (t.movedTo (2 ^ j - 1)) t.led t.plain (es.map (·.1)) (by rw [Array.size_map,hsz];exact Xmg (by omega))
 rw [Array.size_map] at e2 e3
 have el:t.relaid (es.map (·.1)) n=some (t',ord):=by unfold SetTable.relaid;rw [ej];exact e1
 have em:=Xkc e1
 refine wpAny_bind (Xej el e2 fun es' p=>?_)
 have z:=p.length_eq
 rw [Array.length_toList,Array.length_toList] at z
 exact Zde ho (by show es'.size<scanBound;omega) fun h' sb ho'=>h h' es' t' j sb ho' p (by rw [z];exact e3) e4 e5 em.1 hj em.2
theorem Zch {α:Type}:∀ (l:List α) (i:Nat) (h:i<l.length),(l[i]::l.eraseIdx i).Perm l
 | _::_,0,_ => .refl _
 | x::r,i+1,h=>(List.Perm.swap x _ _).trans ((Zch r i (Nat.lt_of_succ_lt_succ h)).cons x)
theorem Xfd {α:Type} (nx:Nat→Nat):∀ (f k:Nat) (l:List α) (out:Array α),l.length=f→(pickOrder.go nx f k l out).toList.Perm (out.toList++l)
 | 0,k,l,out,h=>by
  obtain rfl:=List.eq_nil_of_length_eq_zero h
  unfold pickOrder.go
  rw [List.append_nil]
 | f+1,k,l,out,h=>by
  unfold pickOrder.go
  have hlt:nx k%l.length<l.length:=Nat.mod_lt _ (by omega)
  rw [List.getElem?_eq_getElem hlt]
  refine (Xfd nx f (k+1) (l.eraseIdx (nx k%l.length)) _ (by rw [List.length_eraseIdx,if_pos hlt];omega)).trans ?_
  rw [Array.toList_push,List.append_assoc]
  refine List.Perm.append_left _ ?_
  exact Zch l _ hlt
theorem Zpe {α:Type} (nx:Nat→Nat) (xs:Array α):(pickOrder nx xs).toList.Perm xs.toList:=by
 unfold pickOrder
 exact Xfd nx _ 0 _ _ (Array.length_toList ..)
theorem Ql {Q:Bool→Shared→Prop} (h:Q (w.params.followText "set-order") s):wpAny (model prog w) A setsByText Q E s:=by
 unfold setsByText
 exact wpAny_bind (wpAny_askSetting (wpAny_pure h))
theorem Xxb {Q:Array (Int×Value)→Shared→Prop} (ho:s.heap.get? a=some (setO es ep t)) (hi:SetIn w es t ks) (hd:w.params.followText "set-order"=true∨es.size≤1)
  (h:∀ l:Array (Int×Value),l.toList.Perm es.toList→Q l s):wpAny (model prog w) A (setWalk a) Q E s:=by
 unfold setWalk
 refine wpAny_bind (wpAny_setState_of ho rfl hi.fit ?_)
 dsimp only
 refine wpAny_bind (Ql ?_)
 refine wpAny_ite_split (fun _=>?_) (fun hb=>?_)
 ·exact wpAny_bind (wpAny_askSetting (wpAny_pure (h _ (Zpe ..))))
 ·have h1:es.size≤1:=hd.resolve_left hb
  have e1:(!t.plain&&decide (es.size > 1))=false:=by rw [decide_eq_false (by omega),Bool.and_false]
  have e2:(!t.led&&decide (es.size > 1))=false:=by rw [decide_eq_false (by omega),Bool.and_false]
  show wpAny _ _ (if (!t.plain&&decide (es.size > 1))=true then _ else _) _ _ _
  rw [if_neg (by rw [e1];decide)]
  refine wpAny_bind (m:=if (!t.led&&decide (es.size > 1))=true then _ else _) ?_
  rw [if_neg (by rw [e2];decide)]
  exact wpAny_pure (wpAny_pure (h es (.refl _)))
theorem Xte {o:Addr} {eo:Array (Int×Value)} {epo:Nat} {to:SetTable} {ko:List Str} {Q:Bool→Shared→Prop} (ho:s.heap.get? a=some (setO es ep t)) (hi:SetIn w es t ks) (ho2:s.heap.get? o=some (setO eo epo to)) (hi2:SetIn w eo to ko) (h:Q true s) :
  wpAny (model prog w) A (setsQuiet [o,a]) Q E s:=by
 unfold setsQuiet
 refine wpAny_bind (wpAny_forIn_list _ (fun rest b s'=>s'=s∧b.1=none∧∀ x∈rest,∃ es ep t ks,s.heap.get? x=some (setO es ep t)∧SetIn w es t ks) _ ?_ ?_ _ _ ⟨rfl,rfl,?_⟩)
 ·rintro x rest b s' ⟨rfl,hb,hr⟩
  obtain ⟨e1,ep1,t1,k1,hx,hix⟩:=hr x (List.mem_cons_self ..)
  refine wpAny_bind (wpAny_setEntries_of hx rfl hix.fit ?_)
  refine wpAny_bind (wpAny_forIn_array' _ (fun rest2 b2 s2=>s2=s'∧b2.1=none∧∀ e∈rest2,∃ k u,e=(hashStr w k,Value.str k u)) _ ?_ ?_ _ _ ⟨rfl,rfl,hix.els⟩)
  ·rintro e rest2 b2 s2 ⟨rfl,hb2,hr2⟩
   obtain ⟨k,u,rfl⟩:=hr2 e (List.mem_cons_self ..)
   exact wpAny_pure ⟨rfl,rfl,fun e he=>hr2 e (List.mem_cons_of_mem _ he)⟩
  ·rintro ⟨b1,b2⟩ s2 ⟨rfl,hb2,_⟩
   cases hb2
   exact wpAny_pure ⟨rfl,rfl,fun x hx=>hr x (List.mem_cons_of_mem _ hx)⟩
 ·rintro ⟨b1,b2⟩ s2 ⟨rfl,hb2,_⟩
  cases hb2
  exact wpAny_pure h
 ·intro x hx
  rcases List.mem_cons.mp hx with rfl | hx
  ·exact ⟨_,_,_,_,ho2,hi2⟩
  ·rw [List.mem_singleton.mp hx];exact ⟨_,_,_,_,ho,hi⟩
theorem Xme {o:Addr} {eo:Array (Int×Value)} {epo:Nat} {to:SetTable} {ko:List Str} {Q:Array (Int×Value)→Shared→Prop} (ho:s.heap.get? a=some (setO es ep t)) (hi:SetIn w es t ks) (hne:es.size≠0) (ho2:s.heap.get? o=some (setO eo epo to)) (hi2:SetIn w eo to ko)
  (h:∀ l:Array (Int×Value),l.toList.Perm eo.toList→Q l s):wpAny (model prog w) A (setWalkUnseen o [a] (some a)) Q E s:=by
 unfold setWalkUnseen
 refine wpAny_bind (wpAny_setState_of ho2 rfl hi2.fit ?_)
 dsimp only
 refine wpAny_bind (Ql ?_)
 refine wpAny_ite_split (fun hc=>?_) (fun hc=>?_)
 ·refine Xxb ho2 hi2 ?_ h
  cases hb:w.params.followText "set-order" with
  | true=>exact .inl rfl
  | false =>
   refine .inr ?_
   rcases Nat.eq_zero_or_pos eo.size with z | z
   ·omega
   ·have:=hi2.pl (by omega)
    rw [hb,this] at hc
    simpa using hc
 ·have hb:w.params.followText "set-order"=false:=by
   cases hb:w.params.followText "set-order" with
   | true=>rw [hb] at hc;simp at hc
   | false=>rfl
  refine wpAny_bind (Xte ho hi ho2 hi2 ?_)
  rw [if_neg (by decide)]
  refine wpAny_bind (wpAny_rule ?_)
  refine wpAny_bind (wpAny_setState_of ho rfl hi.fit ?_)
  dsimp only
  rw [if_neg (by rw [hi2.led hb,hi.pl hne];simp)]
  exact wpAny_pure (h eo (.refl _))
theorem Zeg {t:SetTable} {n:Nat} (h:t.fits n=true):t.place.size=n∧t.fill≤t.mask:=by
 unfold SetTable.fits at h
 simpa only [Bool.and_eq_true,beq_iff_eq,decide_eq_true_eq] using h
noncomputable abbrev newT (w:World):SetTable := .fresh 0 0 (!w.params.followText "set-order")
set_option maxHeartbeats 1000000 in
theorem Xod {o:Addr} {eo:Array (Int×Value)} {epo:Nat} {to:SetTable} {ko:List Str} {ts:SetTable} {j:Nat} {Q:Unit→Shared→Prop} (each:Sem Unit) (hao:a≠o) (ho:s.heap.get? a=some (setO #[] ep ts)) (hm:ts.mask=2 ^ j - 1) (hj:eo.size<2 ^ j) (hf:ts.fill=0) (hl:w.params.followText "set-order"=false→ts.led=true)
  (ho2:s.heap.get? o=some (setO eo epo to)) (hi2:SetIn w eo to ko) (hne:eo.size≠0) (hz:ko.length<scanBound)
  (h:∀ h',Heap.SameBut a s.heap h'→SetT w h' a ko→Q () {s with heap:=h'}) :
  wpAny (model prog w) A (match ts.road to with
   | .slotForSlot=>storeSet a eo {to with finger:=ts.finger,led:=ts.led&&to.led,moves:=ts.moves,plain:=ts.plain&&to.plain}
   | .clean=>do
    let (es,t) ← (do
     let some (t,order):=SetTable.laid ts.mask ts.finger ts.moves (led:=ts.led&&to.led) (plain:=ts.plain&&to.plain) (eo.map (·.1)) | unsupported "internal:set-table-without-room"
     let es':=order.filterMap (eo[·]?)
     if es'.size != eo.size then unsupported "internal:set-table-lost-an-element"
     pure (es',t))
    storeSet a es t
   | .oneByOne=>do
    for (h,x) in ← setWalkUnseen o [a] (some a) do
     let _ ← holding [x] (setAddHashed a x h)
     each
     if (← setState o).2.1 != epo then unsupported "set.changed-during-merge") Q E s:=by
 have hsz:=hi2.size
 have hpl:=hi2.pl hne
 have hled:w.params.followText "set-order"=false→(ts.led&&to.led)=true:=fun z=>by rw [hl z,hi2.led z];rfl
 have hpf:(ts.plain&&to.plain)=false:=by rw [hpl,Bool.and_false]
 unfold SetTable.road
 rw [hf]
 rw [if_neg (by decide)]
 by_cases hc:(ts.mask == to.mask&&to.dummies.isEmpty)=true
 ·rw [if_pos hc]
  refine Zde ho (by omega) fun h' sb ho'=>h h' sb ⟨_,_,_,ho',?_⟩
  exact ⟨hi2.fit,hled,fun _=>hpf,hi2.els,hi2.keys⟩
 ·rw [if_neg hc]
  obtain ⟨t',ord,e1,e2,e3,e4,e5⟩:=KM.Xfj j ts.finger ts.moves (ts.led&&to.led) (ts.plain&&to.plain) (eo.map (·.1)) (by rw [Array.size_map];exact Xmg hj)
  rw [← hm] at e1
  rw [Array.size_map] at e2 e3
  refine wpAny_bind (Xej e1 e2 fun es' p=>?_)
  have z:=p.length_eq
  rw [Array.length_toList,Array.length_toList] at z
  refine Zde ho (by show es'.size<scanBound;omega) fun h' sb ho'=>h h' sb ⟨_,_,_,ho',?_⟩
  exact ⟨by rw [z];exact e3,fun y=>e4.trans (hled y),fun _=>e5.trans hpf,fun e he=>hi2.els e (p.mem_iff.mp he),(p.map _).trans hi2.keys⟩
set_option maxHeartbeats 1000000 in
theorem Zya {o:Addr} {ko:List Str} {Q:Unit→Shared→Prop} (each:Sem Unit) (hao:a≠o) (ho:s.heap.get? a=some (setO #[] ep (newT w))) (hT:SetT w s.heap o ko) (hz:ko.length<scanBound)
  (h:∀ h',Heap.SameBut a s.heap h'→SetT w h' a ko→(ko=[]→h'=s.heap)→Q () {s with heap:=h'}):wpAny (model prog w) A (setMerge a o each) Q E s:=by
 obtain ⟨eo,epo,to,ho2,hi2⟩:=hT
 have hsz:=hi2.size
 unfold setMerge
 rw [if_neg (by simpa using hao)]
 refine wpAny_bind (wpAny_setState_of ho2 rfl hi2.fit ?_)
 dsimp only
 refine wpAny_ite_split (fun he=>?_) (fun he=>?_)
 ·have hk:ko=[]:=List.eq_nil_of_length_eq_zero (by rw [← hsz];simpa using he)
  subst hk
  exact wpAny_pure (h s.heap (Heap.SameBut.refl ..) ⟨_,_,_,ho,SetIn.fresh⟩ fun _=>rfl)
 have hne:eo.size≠0:=by simpa using he
 have hk:ko≠[]:=fun z=>hne (by rw [hsz,z];rfl)
 refine wpAny_bind (m:=setRoomFor a eo.size) ?_
 unfold setRoomFor
 refine wpAny_bind (wpAny_setState_of ho rfl SetIn.fresh.fit ?_)
 dsimp only
 have hb:(scanBound:Nat)=4096:=rfl
 by_cases hr:(0+eo.size)*5≥7*3
 ·have er:(newT w).roomFor eo.size=some ((0+eo.size)*2):=if_pos hr
  rw [er]
  refine Xfa (ks:=[]) ho SetIn.fresh (Nat.zero_le _) (by omega) (by decide) fun h1 e1 t1 j sb1 ho1 p1 f1 l1 pl1 m1 n1 d1=>?_
  have z:=p1.length_eq
  rw [Array.length_toList,Array.length_toList] at z
  obtain rfl:e1=#[]:=Array.eq_empty_of_size_eq_zero z
  have fm:=Zeg f1
  refine wpAny_bind (wpAny_setState_of (s:={s with heap:=h1}) ho1 rfl f1 ?_)
  dsimp only
  refine Xod (s:={s with heap:=h1}) each hao ho1 m1 (by omega) (by unfold SetTable.fill;rw [fm.1,d1];rfl) (fun y=>l1.trans (SetIn.fresh.led y)) (by rw [sb1.2 o (Ne.symm hao)];exact ho2) hi2 hne hz fun h2 sb2 hT2=>?_
  exact h h2 (sb1.trans sb2) hT2 fun y=>absurd y hk
 ·have er:(newT w).roomFor eo.size=none:=if_neg hr
  rw [er]
  refine wpAny_pure ?_
  refine wpAny_bind (wpAny_setState_of ho rfl SetIn.fresh.fit ?_)
  dsimp only
  refine Xod (j:=3) each hao ho rfl (by omega) rfl (fun y=>SetIn.fresh.led y) ho2 hi2 hne hz fun h2 sb2 hT2=>?_
  exact h h2 sb2 hT2 fun y=>absurd y hk
end
end L2
end
section
namespace L2
open PySem PySem.Spec
theorem Xad (ks:List Str) (k:Str):(addK ks k).length≤ks.length+1:=by
 unfold addK
 split
 ·omega
 ·rw [List.length_append];exact Nat.le_refl _
section
variable {prog:Program} {w:World} {A:Around} {E:Value→Shared→Prop} {s:Shared} {a:Addr} {es:Array (Int×Value)} {ep:Nat} {t:SetTable} {ks:List Str}
set_option maxHeartbeats 1000000 in
theorem Zke {o:Addr} {eo:Array (Int×Value)} {epo:Nat} {to:SetTable} {ko:List Str} {Q:Unit→Shared→Prop} (each:Sem Unit) (heach:∀ (s':Shared) (R:Unit→Shared→Prop),s'.heap.get? o=some (setO eo epo to)→R () s'→wpAny (model prog w) A each R E s')
  (hao:a≠o) (ho:s.heap.get? a=some (setO es ep t)) (hi:SetIn w es t ks) (hne:es.size≠0) (ho2:s.heap.get? o=some (setO eo epo to)) (hi2:SetIn w eo to ko) (hz:ks.length+ko.length+1<scanBound)
  (h:∀ (h':Heap) (l:List Str),Heap.SameBut a s.heap h'→l.Perm ko→SetT w h' a (l.foldl addK ks)→Q () {s with heap:=h'}) :
  wpAny (model prog w) A (do
    for (h,x) in ← setWalkUnseen o [a] (some a) do
     let _ ← holding [x] (setAddHashed a x h)
     each
     if (← setState o).2.1 != epo then unsupported "set.changed-during-merge") Q E s:=by
 refine wpAny_bind (Xme ho hi hne ho2 hi2 fun l p=>?_)
 have hl:l.toList.length=ko.length:=by rw [p.length_eq,Array.length_toList];exact hi2.size
 have hp:(l.toList.map fun e=>PyProof.Rows.strOf e.2).Perm ko:=(p.map _).trans hi2.keys
 refine wpAny_bind (wpAny_forIn_array' _ (fun rest b s'=>∃ (h':Heap) (cur:List Str),s'={s with heap:=h'}∧Heap.SameBut a s.heap h'∧(∀ e∈rest,∃ k u,e=(hashStr w k,Value.str k u))∧SetT w h' a cur∧cur.length+rest.length≤ks.length+ko.length∧(rest.map fun e=>PyProof.Rows.strOf e.2).foldl addK cur=(l.toList.map fun e=>PyProof.Rows.strOf e.2).foldl addK ks) _ ?_ ?_ _ _
  ⟨s.heap,ks,rfl,Heap.SameBut.refl ..,fun e he=>hi2.els e (p.mem_iff.mp he),⟨_,_,_,ho,hi⟩,by omega,rfl⟩)
 ·rintro e rest b s' ⟨h1,cur,rfl,sb,hr,hT,hb,hf⟩
  obtain ⟨k,u,rfl⟩:=hr e (List.mem_cons_self ..)
  rw [List.length_cons] at hb
  have ho3:h1.get? o=some (setO eo epo to):=by rw [sb.2 o (Ne.symm hao)];exact ho2
  refine wpAny_bind (wpAny_holding (Xwe (s:={s with heap:=h1}) hT (by omega) fun h2 _ sb2 hT2=>?_))
  have ho4:h2.get? o=some (setO eo epo to):=by rw [sb2.2 o (Ne.symm hao)];exact ho3
  refine wpAny_bind (heach _ _ ho4 ?_)
  refine wpAny_bind (wpAny_setState_of (s:={s with heap:=h2}) ho4 rfl hi2.fit ?_)
  dsimp only
  rw [if_neg (by simp)]
  have:=Xad cur k
  exact wpAny_pure ⟨h2,addK cur k,rfl,sb.trans sb2,fun e he=>hr e (List.mem_cons_of_mem _ he),hT2,by omega,hf⟩
 ·rintro b s' ⟨h1,cur,rfl,sb,_,hT,_,hf⟩
  have hf':cur=_:=hf
  rw [hf'] at hT
  exact wpAny_pure (h h1 _ sb hp hT)
set_option maxHeartbeats 1000000 in
theorem Xpe {o:Addr} {ko:List Str} {Q:Unit→Shared→Prop} (each:Sem Unit) (heach:∀ (s':Shared) (R:Unit→Shared→Prop),s'.heap.get? o=s.heap.get? o→R () s'→wpAny (model prog w) A each R E s')
  (hao:a≠o) (hS:SetT w s.heap a ks) (hk:ks≠[]) (hT:SetT w s.heap o ko) (hz:ks.length+ko.length+1<scanBound)
  (h:∀ (h':Heap) (l:List Str),Heap.SameBut a s.heap h'→l.Perm ko→SetT w h' a (l.foldl addK ks)→Q () {s with heap:=h'}):wpAny (model prog w) A (setMerge a o each) Q E s:=by
 obtain ⟨es,ep,t,ho,hi⟩:=hS
 obtain ⟨eo,epo,to,ho2,hi2⟩:=hT
 have hsz:=hi2.size
 have hsz1:=hi.size
 have hb:(scanBound:Nat)=4096:=rfl
 have hne:es.size≠0:=by rw [hsz1];exact fun z=>hk (List.eq_nil_of_length_eq_zero z)
 unfold setMerge
 rw [if_neg (by simpa using hao)]
 refine wpAny_bind (wpAny_setState_of ho2 rfl hi2.fit ?_)
 dsimp only
 refine wpAny_ite_split (fun he=>?_) (fun he=>?_)
 ·have hk:ko=[]:=List.eq_nil_of_length_eq_zero (by rw [← hsz];simpa using he)
  subst hk
  exact wpAny_pure (h s.heap [] (Heap.SameBut.refl ..) (.refl _) ⟨_,_,_,ho,hi⟩)
 refine wpAny_bind (m:=setRoomFor a eo.size) ?_
 unfold setRoomFor
 refine wpAny_bind (wpAny_setState_of ho rfl hi.fit ?_)
 dsimp only
 have road:∀ (t':SetTable) (n:Nat),t'.fits n=true→n≠0→t'.road to = .oneByOne:=fun t' n f z=>by
  unfold SetTable.road
  rw [if_pos]
  have:=(Zeg f).1
  unfold SetTable.fill
  simp only [bne_iff_ne,ne_eq]
  omega
 cases hr:t.roomFor eo.size with
 | none =>
  refine wpAny_pure (wpAny_bind (wpAny_setState_of ho rfl hi.fit ?_))
  dsimp only
  rw [road t _ hi.fit hne]
  exact Zke each (fun s' R e r=>heach s' R (e.trans ho2.symm) r) hao ho hi hne ho2 hi2 hz h
 | some n =>
  have hn:n=(t.place.size+eo.size)*2:=by
   unfold SetTable.roomFor at hr
   split at hr
   ·exact (Option.some.inj hr).symm
   ·cases hr
  have hp:=(Zeg hi.fit).1
  refine Xfa ho hi (by omega) (by omega) (by omega) fun h1 e1 t1 j sb1 ho1 p1 f1 l1 pl1 m1 n1 d1=>?_
  have z:=p1.length_eq
  rw [Array.length_toList,Array.length_toList] at z
  have i1:SetIn w e1 t1 ks:=hi.move p1 f1 (fun y=>l1.trans y) fun _=>pl1.trans (hi.pl hne)
  have ho3:h1.get? o=some (setO eo epo to):=by rw [sb1.2 o (Ne.symm hao)];exact ho2
  refine wpAny_bind (wpAny_setState_of (s:={s with heap:=h1}) ho1 rfl f1 ?_)
  dsimp only
  rw [road t1 _ f1 (by omega)]
  exact Zke (s:={s with heap:=h1}) each (fun s' R e r=>heach s' R (e.trans ho2.symm) r) hao ho1 i1 (by omega) ho3 hi2 hz fun h' l sb p hT=>h h' l (sb1.trans sb) p hT
theorem SetT.ty {h:Heap} {g:Array GenState} {d:Drawn} {k:Nat} {os:OsState} (hT:SetT w h a ks):(⟨h,g,d,k,os⟩:Shared).TypeIs (.ref a) "set":=by
 obtain ⟨es,ep,t,ho,_⟩:=hT
 exact ⟨_,ho,rfl⟩
theorem Zte {v:Addr} {Q:Bool→Shared→Prop} (hT:s.TypeIs (.ref v) "set") (h:Q true s):wpAny (model prog w) A (Builtin.Frozenset.isAnySet (.ref v)) Q E s:=by
 unfold Builtin.Frozenset.isAnySet
 refine wpAny_bind (wpAny_isInstance hT sub_set_self ?_)
 exact wpAny_pure h
theorem Yac {Q:Value→Shared→Prop} (hT:SetT w s.heap a ks) (hz:ks.length<scanBound)
  (h:∀ h',Heap.SameBut s.heap.objs.size (s.heap.push (setO #[] 0 (newT w))) h'→SetT w h' s.heap.objs.size ks→(ks=[]→h'=s.heap.push (setO #[] 0 (newT w)))→Q (.ref s.heap.objs.size) {s with heap:=h'}) :
  wpAny (model prog w) A (Builtin.Frozenset.copyOf a) Q E s:=by
 unfold Builtin.Frozenset.copyOf Builtin.Frozenset.baseOf
 have hlt:a<s.heap.objs.size:=by obtain ⟨_,_,_,ho,_⟩:=hT;exact Heap.lt_size ho
 refine wpAny_bind (wpAny_bind (wpAny_isInstance (hT.ty (g:=s.gens) (d:=s.drawn) (k:=s.toks) (os:=s.os)) sub_set_self (wpAny_pure ?_)))
 refine wpAny_bind (Xpd ?_)
 unfold Builtin.Frozenset.addrOf
 refine wpAny_bind (wpAny_pure ?_)
 refine wpAny_bind (Zya (s:={s with heap:=s.heap.push (setO #[] 0 (newT w))}) _ (Nat.ne_of_gt hlt) (Heap.get?_push_size _ rfl) (hT.keep fun o e=>Heap.get?_push_of_some _ e) hz fun h' sb hT' he=>?_)
 exact wpAny_pure (h h' sb hT' he)
theorem Xxf {o:Addr} {eo:Array (Int×Value)} {epo:Nat} {to:SetTable} {ko:List Str} {id:String} (hi2:SetIn w eo to ko) (s':Shared) (R:Unit→Shared→Prop) (e:s'.heap.get? o=some (setO eo epo to)) (r:R () s'):wpAny (model prog w) A (Builtin.Frozenset.unchanged id o epo) R E s':=by
 unfold Builtin.Frozenset.unchanged
 refine wpAny_bind (wpAny_setEpoch_of e rfl hi2.fit ?_)
 rw [if_neg (by simp)]
 exact wpAny_pure r
theorem Xmd {b:Addr} {kb:List Str} {id:String} {Q:Unit→Shared→Prop} (hab:a≠b) (hA:SetT w s.heap a ks) (h0:ks=[]→∃ ep,s.heap.get? a=some (setO #[] ep (newT w))) (hB:SetT w s.heap b kb) (hz:ks.length+kb.length+1<scanBound)
  (h:∀ (h':Heap) (l:List Str),Heap.SameBut a s.heap h'→l.Perm kb→SetT w h' a (l.foldl addK ks)∨(ks=[]∧SetT w h' a kb)→Q () {s with heap:=h'}) :
  wpAny (model prog w) A (Builtin.Frozenset.updateFrom id a (.ref b)) Q E s:=by
 unfold Builtin.Frozenset.updateFrom
 refine wpAny_bind (Zte (hB.ty (g:=s.gens) (d:=s.drawn) (k:=s.toks) (os:=s.os)) ?_)
 rw [if_pos rfl]
 unfold Builtin.Frozenset.addrOf
 refine wpAny_bind (wpAny_pure ?_)
 unfold Builtin.Frozenset.merge
 have hB':=hB
 obtain ⟨eb,epb,tb,hob,hib⟩:=hB'
 refine wpAny_bind (wpAny_setEpoch_of hob rfl hib.fit ?_)
 by_cases hk:ks=[]
 ·obtain ⟨ep,h0⟩:=h0 hk
  exact Zya _ hab h0 hB (by omega) fun h' sb hT' _=>h h' kb sb (.refl _) (.inr ⟨hk,hT'⟩)
 ·exact Xpe _ (fun s' R e r=>Xxf hib s' R (e.trans hob) r) hab hA hk hB hz fun h' l sb p hT'=>h h' l sb p (.inl hT')
theorem Ztg:entryFor table "set.__or__"=some Builtin.«frozenset.__or__» := entryFor_alias (id':="frozenset.__or__") (by kernel_rfl) rfl (by decide +kernel) (by kernel_rfl)
noncomputable def unionK (ks kb u:List Str):Prop:=∃ l:List Str,l.Perm kb∧(u=l.foldl addK ks∨(ks=[]∧u=kb))
set_option maxHeartbeats 1000000 in
theorem or_T {b:Addr} {kb:List Str} {Q:Value→Shared→Prop} (hab:a≠b) (hA:SetT w s.heap a ks) (hB:SetT w s.heap b kb) (hz:ks.length+kb.length+1<scanBound)
  (h:∀ (h':Heap) (u:List Str),(∀ c o,s.heap.get? c=some o→h'.get? c=some o)→unionK ks kb u→SetT w h' s.heap.objs.size u→Q (.ref s.heap.objs.size) {s with heap:=h'}) :
  wpAny (model prog w) A (binaryOp .BitOr (.ref a) (.ref b)) Q E s:=by
 have ta:=hA.ty (g:=s.gens) (d:=s.drawn) (k:=s.toks) (os:=s.os)
 have tb:=hB.ty (g:=s.gens) (d:=s.drawn) (k:=s.toks) (os:=s.os)
 refine wpAny_binaryOp_same ta tb F.fills_set_or F.slot_set_or (wpAny_call_entry F.slot_set_or ta Ztg ?_ (F.args_set_or_2 _ _))
 refine wpAny_bind (m:=Builtin.Frozenset.slot1 "__or__" ⟨[.ref a,.ref b],[]⟩) (wpAny_of_eq (a:=(Value.ref a,Value.ref b)) rfl ?_)
 dsimp only
 refine wpAny_bind (m:=Builtin.Frozenset.isAnySet (.ref a) <&&> Builtin.Frozenset.isAnySet (.ref b)) (wpAny_bind (Zte ta ?_))
 show wpAny _ _ (Builtin.Frozenset.isAnySet (.ref b)) _ _ _
 refine Zte tb ?_
 rw [if_neg (by decide)]
 refine wpAny_bind (m:=Builtin.Frozenset.addrOf (.ref a)) (wpAny_pure ?_)
 have hlb:b<s.heap.objs.size:=by obtain ⟨_,_,_,ho,_⟩:=hB;exact Heap.lt_size ho
 refine wpAny_bind (wpAny_bind (m:=Builtin.Frozenset.copyOf a) (Yac hA (by omega) fun h1 sb1 hT1 he1=>?_))
 have nb:(Value.ref b != Value.ref a)=true:=bne_iff_ne.mpr fun z=>hab (by injection z with z;exact z.symm)
 show wpAny _ _ (if (Value.ref b != Value.ref a)=true then _ else _) _ _ _
 rw [if_pos nb]
 have hB1:SetT w h1 b kb:=hB.keep fun o e=>by rw [sb1.2 b (Nat.ne_of_lt hlb)];exact Heap.get?_push_of_some _ e
 refine wpAny_bind (m:=Builtin.Frozenset.addrOf (.ref s.heap.objs.size)) (wpAny_pure ?_)
 refine wpAny_bind (wpAny_holding (Xmd (s:={s with heap:=h1}) (Nat.ne_of_gt hlb) hT1 (fun z=>⟨0,by rw [he1 z];exact Heap.get?_push_size _ rfl⟩) hB1 hz fun h2 l sb2 p hT2=>?_))
 have kk:∀ c o,s.heap.get? c=some o→h2.get? c=some o:=fun c o e=>by
  have hc:=Heap.lt_size e
  rw [sb2.2 c (Nat.ne_of_lt hc),sb1.2 c (Nat.ne_of_lt hc)]
  exact Heap.get?_push_of_some _ e
 refine wpAny_pure (wpAny_pure ⟨_,rfl,(by intro z;cases z),?_⟩)
 rcases hT2 with hT2 | ⟨z,hT2⟩
 ·exact h h2 _ kk ⟨l,p,.inl rfl⟩ hT2
 ·exact h h2 _ kk ⟨l,p,.inr ⟨z,rfl⟩⟩ hT2
theorem Xsc {ks:List Str} {k x:Str}:x∈addK ks k↔x∈ks∨x=k:=by
 unfold addK
 split
 ·rename_i h;exact ⟨.inl,fun z=>z.elim id fun e=>e ▸ h⟩
 ·rw [List.mem_append,List.mem_singleton]
theorem Xed {ks:List Str} {k:Str} (h:ks.Nodup):(addK ks k).Nodup:=by
 unfold addK
 split
 ·exact h
 ·rename_i z
  refine List.nodup_append.mpr ⟨h,List.nodup_cons.mpr ⟨(by intro y;cases y),.nil⟩,fun x hx y hy=>?_⟩
  rw [List.mem_singleton.mp hy]
  exact fun e=>z (e ▸ hx)
theorem Zfj:∀ (l ks:List Str),ks.Nodup→(l.foldl addK ks).Nodup∧∀ x,x∈l.foldl addK ks↔x∈ks∨x∈l
 | [],ks,h=>⟨h,fun x=>⟨.inl,fun z=>z.elim id fun y=>nomatch y⟩⟩
 | k::l,ks,h=>by
  obtain ⟨a,b⟩:=Zfj l (addK ks k) (Xed h)
  refine ⟨a,fun x=>(b x).trans ?_⟩
  rw [Xsc,List.mem_cons,or_assoc]
theorem Xhc {ks kb u:List Str} (h:unionK ks kb u) (hk:ks.Nodup) (hb:kb.Nodup):u.Nodup∧∀ x,x∈u↔x∈ks∨x∈kb:=by
 obtain ⟨l,p,e | ⟨rfl,rfl⟩⟩:=h
 ·subst e
  obtain ⟨a,b⟩:=Zfj l ks hk
  exact ⟨a,fun x=>by rw [b x,p.mem_iff]⟩
 ·exact ⟨hb,fun x=>⟨.inr,fun z=>z.elim (fun y=>nomatch y) id⟩⟩
end
end L2
end
section
namespace L2
open PySem PySem.Spec
section
variable {prog:Program} {w:World} {A:Around} {R:Result→Shared→Prop} {I:Addr} {fp wr:List Addr} {G:Array GenState→Array GenState→Prop} {n:Nat} {Pv:Nat→Value→Prop} {St:Nat→Shared→Prop}
theorem Xhf {xs:List Str} {i:Nat} {x:Str} (h:xs[i]?=some x):(xs.take (i+1)).foldl addK []=addK ((xs.take i).foldl addK []) x:=by
 rw [List.take_succ,h]
 exact List.foldl_append ..
theorem Zle:∀ (l ks:List Str),(l.foldl addK ks).length≤ks.length+l.length
 | [],ks=>Nat.le_refl _
 | k::l,ks=>by
  have h1:=Zle l (addK ks k)
  have h2:=Xad ks k
  rw [List.foldl_cons,List.length_cons]
  omega
theorem Xhi (W:WalksS prog w A.in1 I fp wr G n Pv St) (S:Addr) (hSf:S∉fp) (xs:List Str) (hn:xs.length=n) (hval:∀ i v,Pv i v→∃ x t,xs[i]?=some x∧v = .str x t) (hb:n+1<scanBound) :
  ∀ (m i:Nat) (s:Shared),n - i=m→i≤n→St i s→SetT w s.heap S ((xs.take i).foldl addK [])→(∀ s',Moved (S::wr) G s s'→SetT w s'.heap S (xs.foldl addK [])→R (.ok (.ret .none)) s')→
   codeAny (model prog w) A (.builtin "set.update.loop" ⟨[.ref S,.ref I],[]⟩) R s:=by
 have hSw:S∉wr:=fun h=>hSf (W.sub _ h)
 have up:∀ b∈wr,b∈S::wr:=fun b h=>List.mem_cons_of_mem _ h
 intro m
 induction m with
 | zero =>
  intro i s hm hi st hT hR
  obtain rfl:i=n:=by omega
  refine codeAny_builtin PyProof.Rows.F.entry_set_update_loop ?_
  rw [Around.under_plainId PyProof.Rows.F.plain_set_update_loop _]
  refine wpAny_bind (m:=pyNext (.ref I)) (W.done s _ _ st fun s' mv=>?_)
  rw [List.take_of_length_le (by omega)] at hT
  exact wpAny_pure (hR s' (mv.mono up) (hT.keep fun o e=>mv.heap S _ hSw e))
 | succ m ih =>
  intro i s hm hi st hT hR
  have hlt:i<n:=by omega
  refine codeAny_builtin PyProof.Rows.F.entry_set_update_loop ?_
  rw [Around.under_plainId PyProof.Rows.F.plain_set_update_loop _]
  refine wpAny_bind (m:=pyNext (.ref I)) (W.item i s _ _ hlt st fun v s' hP st' mv=>?_)
  obtain ⟨x,t,hx,rfl⟩:=hval i v hP
  have hT':=hT.keep (h':=s'.heap) fun o e=>mv.heap S _ hSw e
  have his:(PySem.strKind prog w).is x (.str x t)=true:=by simp [PySem.strKind,Value.isStrOf]
  refine wpAny_bind (m:=holding [Value.str x t] (setAdd S (.str x t))) (wpAny_holding ?_)
  unfold setAdd
  refine wpAny_holding (wpAny_bind ((PySem.strKind prog w).pyHash (k:=x) his ?_))
  have hl:=Zle (xs.take i) []
  rw [List.length_take] at hl
  refine Xwe (s:={s' with toks:=s'.toks+1}) hT' (by simp only [List.length_nil] at hl;omega) fun h' _ sb hS2=>?_
  rw [← Xhf hx] at hS2
  refine wpAny_pure ⟨plainId_quiet PyProof.Rows.F.plain_set_update_loop _,ih (i+1) _ (by omega) hlt (W.frame _ s' _ _ st' (Nat.le_succ _) fun b hbf o e=>?_) hS2 fun s'' mv' hT3=>?_⟩
  ·rw [sb.2 b fun z:b=S=>hSf (z ▸ hbf)];exact e
  ·refine hR s'' (Moved.trans W.gtrans ((mv.mono up).then_heap (Nat.le_succ _) fun b o hbn e=>?_) mv') hT3
   rw [sb.2 b fun z:b=S=>hbn (by rw [z];exact List.mem_cons_self)];exact e
end
section
variable {prog:Program} {w:World} {A:Around} {E:Value→Shared→Prop} {s:Shared}
noncomputable abbrev setMade (w:World) (s:Shared) (xs:List Str) (r:Value) (s₂:Shared):Prop:=r = .none∧∃ h' tk,s₂={s with heap:=h',toks:=tk}∧SetT w h' s.heap.objs.size (xs.foldl addK [])∧∀ b o,b<s.heap.objs.size→s.heap.get? b=some o→h'.get? b=some o
theorem Xhh (x:Value) {Q:Value→Shared→Prop} (h:Q (.ref s.heap.objs.size) {s with heap:=s.heap.push (setO #[] 0 (newT w))}) :
  codeAny (model prog w) A (.call (.builtin "set.__new__") ⟨[.type "set",x],[]⟩) (wants Q E) s:=by
 have e:=F.newCall_set_1 x
 have pl:=F.plain_set_new
 refine codeAny_of_tree ?_
 show wpAny _ A.in1 (checkBuiltinCall "set.__new__" ⟨[.type "set",x],[]⟩ >>= fun _=>again (.builtin "set.__new__" ⟨[.type "set",x],[]⟩)) _ _ s
 refine wpAny_bind (wpAny_of_eq e (wpAny_pure ⟨plainId_quiet pl _,codeAny_builtin F.entry_set_new ?_⟩))
 rw [Around.under_plainId pl _]
 unfold Builtin.«set.__new__» Builtin.Frozenset.newClass
 have hsub:=sub_set_self
 obtain ⟨hp,g,d,tk,os⟩:=s
 dsimp only
 wp_walk
 refine wpAny_askSetting (wpAny_pure ?_)
 dsimp only
 simp only [newObj]
 exact wpAny_bind (wpAny_alloc (wpAny_pure (wpAny_pure h)))
set_option maxHeartbeats 3200000 in
theorem Xbb {l:Addr} {items:Array Value} {xs:List Str} (hh:A.handled=none) (hl:s.heap.IsList l items) (hn:xs.length=items.size) (hv:∀ (i:Nat) (v:Value),items[i]?=some v→∃ x t,xs[i]?=some x∧v = .str x t) (hb:items.size+1<scanBound) :
  wpAny (model prog w) A.in1.in1 (Builtin.«set.__init__» ⟨[.ref s.heap.objs.size,.ref l],[]⟩) (fun fin s'=>match fin with
   | Fin.done f=>wants (setMade w s xs) E (Except.ok f) s'
   | Fin.again c'=>c'.quiet=true∧codeAny (model prog w) A.in1 c' (wants (setMade w s xs) E) s')
  (fun e s'=>wants (setMade w s xs) E (Except.error e) s') {s with heap:=s.heap.push (setO #[] 0 (newT w))}:=by
 obtain ⟨ol,hol,hcl,nl,hdl⟩:=hl
 obtain ⟨ocls,odict,odata,oslots⟩:=ol
 simp only at hcl hdl
 subst hcl;subst hdl
 have hS:(s.heap.push (setO #[] 0 (newT w))).get? s.heap.objs.size=some (setO #[] 0 (newT w)):=Heap.get?_push_size _ rfl
 have hol':(s.heap.push (setO #[] 0 (newT w))).get? l=some {cls := .type "list",dict:=odict,data := .seq items nl,slots:=oslots}:=Heap.get?_push_of_some _ hol
 have hsls:=F.sub_list_set
 have hslf:=F.sub_list_frozenset
 have hne:(Value.type "list" == Value.type "dict")=false:=by decide
 have hl1:(s.heap.push (setO #[] 0 (newT w))).IsList l items:=⟨_,hol',rfl,nl,rfl⟩
 unfold Builtin.«set.__init__» noKeywords Builtin.Frozenset.updateFrom
 generalize hPI:pyIter=PI
 wp_walk
 subst hPI
 refine wpAny_pyIter_list hl1 ?_
 refine wpAny_bind (wpAny_runValue ?_)
 have hlS:l<s.heap.objs.size:=Heap.lt_size hol
 have hh3:A.in1.in1.in1.handled=none:=by simp [hh]
 have hsz:(s.heap.push (setO #[] 0 (newT w))).objs.size=s.heap.objs.size+1:=Heap.size_push ..
 have hne2:l≠(s.heap.push (setO #[] 0 (newT w))).objs.size:=by rw [hsz];exact Nat.ne_of_lt (Nat.lt_succ_of_lt hlS)
 have hSf:s.heap.objs.size∉[(s.heap.push (setO #[] 0 (newT w))).objs.size,l]:=fun z=>by
  rw [hsz] at z
  rcases List.mem_cons.mp z with y | y
  ·exact absurd y (Nat.ne_of_lt (Nat.lt_succ_self _))
  ·exact absurd (List.mem_singleton.mp y) (Nat.ne_of_gt hlS)
 refine Xhi ((Walks.list hh3 _ l hne2 items).toS) s.heap.objs.size hSf xs hn hv hb items.size 0 _ (by omega) (Nat.zero_le _) ⟨⟨_,Heap.get?_push_size _ rfl,rfl,rfl⟩,hl1.push _⟩ ?_ ?_
 ·exact ⟨#[],0,newT w,Heap.get?_push_of_some _ hS,SetIn.fresh⟩
 ·intro s' hm hS'
  obtain ⟨h',g',d',tk',os'⟩:=s'
  have eg:g'=s.gens:=hm.gens
  have ed:d'=s.drawn:=hm.drawn
  have eo:os'=s.os:=hm.os
  subst eg;subst ed;subst eo
  refine wpAny_pure ?_
  refine wpAny_pure (a:=Fin.done (Flow.ret Value.none)) ⟨rfl,h',tk',rfl,hS',fun b o hbl e=>?_⟩
  refine hm.heap b o (fun z=>?_) (Heap.get?_push_of_some _ (Heap.get?_push_of_some _ e))
  rcases List.mem_cons.mp z with y | y
  ·exact absurd y (Nat.ne_of_lt hbl)
  ·rcases List.mem_cons.mp y with y | y
   ·rw [hsz] at y;exact absurd y (Nat.ne_of_lt (Nat.lt_succ_of_lt hbl))
   ·cases y
set_option maxHeartbeats 3200000 in
theorem Xdi {l:Addr} {items:Array Value} {xs:List Str} {Q:Value→Shared→Prop} (hh:A.handled=none) (hl:s.heap.IsList l items) (hn:xs.length=items.size) (hv:∀ (i:Nat) (v:Value),items[i]?=some v→∃ x t,xs[i]?=some x∧v = .str x t) (hb:items.size+1<scanBound)
  (h:∀ h' tk,SetT w h' s.heap.objs.size (xs.foldl addK [])→(∀ b o,b<s.heap.objs.size→s.heap.get? b=some o→h'.get? b=some o)→Q (.ref s.heap.objs.size) {s with heap:=h',toks:=tk}) :
  wpAny (model prog w) A (call (.type "set") [.ref l]) Q E s:=by
 obtain ⟨c,tl,hmro⟩:=F.called_set.mro
 have hmade:=F.called_set.made
 have hsub:=F.called_set.sub
 refine wpAny_call (codeAny_of_tree ?_)
 show wpAny _ _ (callAny (.type "set") _) _ _ _
 refine wpAny_pure ⟨Code.quiet_builtin _ (by decide +kernel),codeAny_builtin F.entry_type_call ?_⟩
 rw [Around.under_plain (weight_type_call_type "set" [.ref l] []) rfl]
 have h1:=F.called_set.notType
 have h2:=F.called_set.canCreate
 have hct:=F.typeCall_set_1 (.ref l)
 repeat (any_goals (first | assumption | wp_step))
 refine codeAny_mono (Xhh (.ref l) (E:=E) (Q:=fun obj s₁=>obj = .ref s.heap.objs.size∧s₁={s with heap:=s.heap.push (setO #[] 0 (newT w))}) ⟨rfl,rfl⟩) fun r s₁ hr=>?_
 cases r with
 | error e=>exact hr
 | ok fl =>
  cases fl with
  | ret obj =>
   obtain ⟨rfl,rfl⟩:=hr
   have hS:(s.heap.push (setO #[] 0 (newT w))).get? s.heap.objs.size=some (setO #[] 0 (newT w)):=Heap.get?_push_size _ rfl
   have hT:Shared.TypeIs {s with heap:=s.heap.push (setO #[] 0 (newT w))} (.ref s.heap.objs.size) "set":=⟨_,hS,rfl⟩
   have hli:=F.called_set.init.lookup
   have hbi:=F.called_set.init.bind (.ref s.heap.objs.size)
   repeat (any_goals (first | assumption | wp_step))
   refine codeAny_mono (codeAny_call_builtin (R:=wants (setMade w s xs) E) F.called_set.init.plain F.entry_set_init (PySem.check_set_init_1 hT ?_)) fun r₂ s₂ hr₂=>?_
   ·exact Xbb hh hl hn hv hb
   ·cases r₂ with
    | error e=>exact hr₂
    | ok fl₂ =>
     cases fl₂ with
     | ret r =>
      obtain ⟨rfl,h',tk,rfl,hS',hk'⟩:=hr₂
      repeat (any_goals (first | assumption | wp_step))
      exact h _ _ hS' hk'
     | _=>exact hr₂.elim
  | _=>exact hr.elim
end
end L2
end
section
namespace L2
open PySem PySem.Spec
theorem slot_si_next:Slot "set_iterator" "__next__" "set_iterator.__next__" :=
 .of (owner:="set_iterator") (n:="__next__") (by rw [typeLookup_type,builtinLookup_eq_fast];kernel_rfl) (by decide +kernel) (by decide +kernel) (by decide +kernel) (by first | exact .inl (by decide +kernel) | exact .inr (by decide +kernel)) (by rw [isSubtype_type];kernel_rfl)
theorem Jf:entryFor table "set_iterator.__next__"=some Builtin.«set_iterator.__next__» := entryFor_of_fast (by kernel_rfl)
theorem Jn (a:Value):argsOk "set_iterator.__next__" ⟨[a],[]⟩:=by unfold argsOk;kernel_rfl
theorem Zli:entryFor table "set.__iter__"=some Builtin.«frozenset.__iter__» := entryFor_alias (id':="frozenset.__iter__") (by kernel_rfl) rfl (by decide +kernel) (by kernel_rfl)
noncomputable abbrev itO (f:Value) (i:Nat) (a:Addr) (n ep:Nat):Obj:={cls := .type "set_iterator",dict:=none,data := .fields #[f,.int i 0,.ref a,.int n 0,.int ep 0]}
section
variable {prog:Program} {w:World} {A:Around} {E:Value→Shared→Prop} {s:Shared} {a I:Addr} {es:Array (Int×Value)} {ep:Nat} {t:SetTable} {ks:List Str}
theorem Zbh {o o':Obj} {vs:Array Value} {i:Nat} {x:Value} {Q:Unit→Shared→Prop} (ho:s.heap.get? I=some o) (hd:o.data = .fields vs) (hi:i<vs.size) (e:Obj.mapFields (·.setIfInBounds i x) o=o')
  (h:∀ h',Heap.SameBut I s.heap h'→h'.get? I=some o'→Q () {s with heap:=h'}):wpAny (model prog w) A (setField (.ref I) i x) Q E s:=by
 refine wpAny_setField ho hd hi (h _ (Heap.SameBut.update ..) ?_)
 subst e
 exact Heap.get?_update_self _ ho (Obj.isFreed_of_fields (Obj.data_mapFields hd _))
set_option maxHeartbeats 1000000 in
theorem Xpc {slot i next:Nat} {v:Value} {Q:Option Value→Shared→Prop} (ho:s.heap.get? I=some (itO (.int slot 0) i a es.size ep)) (hs:s.heap.get? a=some (setO es ep t)) (hf:t.fits es.size=true)
  (hn:∀ (A':Around) (E':Value→Shared→Prop) (Q':Option (Value×Nat)→Shared→Prop),Q' (some (v,next)) s→wpAny (model prog w) A' (setNext a slot i ep) Q' E' s)
  (h:∀ h',Heap.SameBut I s.heap h'→h'.get? I=some (itO (.int next 0) (i+1) a es.size ep)→Q (some v) {s with heap:=h'}):wpAny (model prog w) A (pyNext (.ref I)) Q E s:=by
 have hT:s.TypeIs (.ref I) "set_iterator":=⟨_,ho,rfl⟩
 unfold pyNext
 refine wpAny_bind (wpAny_attempt (wpAny_callSpecial?_slot (name:=Str.ofString "__next__") hT slot_si_next (wpAny_call_entry slot_si_next hT Jf ?_ (Jn _))))
 refine wpAny_bind (m:=slotArgs "__next__" 0 ⟨[.ref I],[]⟩) (wpAny_of_eq (a:=(Value.ref I,[])) rfl ?_)
 refine wpAny_bind (wpAny_fieldsOf ho rfl ?_)
 show wpAny _ _ (setEntries a >>= _) _ _ _
 refine wpAny_bind (wpAny_setEntries_of hs rfl hf ?_)
 show wpAny _ _ (if (((es.size:Nat):Int) != ((es.size:Nat):Int))=true then _ else _) _ _ _
 rw [if_neg (by simp)]
 show wpAny _ _ (setNext a (Int.toNat (slot:Int)) (Int.toNat (i:Int)) (Int.toNat (ep:Int)) >>= _) _ _ _
 rw [Int.toNat_natCast,Int.toNat_natCast,Int.toNat_natCast]
 refine wpAny_bind (hn _ _ _ ?_)
 show wpAny _ _ (setField (.ref I) 0 (rawInt next) >>= fun _=>setField (.ref I) 1 (rawInt ((i:Int)+1)) >>= fun _=>ret v) _ _ _
 refine wpAny_bind (Zbh ho rfl (by show 0<5;decide) rfl fun h1 sb1 ho1=>?_)
 refine wpAny_bind (Zbh (s:={s with heap:=h1}) ho1 rfl (by show 1<5;decide) rfl fun h2 sb2 ho2=>?_)
 exact wpAny_pure ⟨_,rfl,wpAny_pure (h h2 (sb1.trans sb2) ho2)⟩
set_option maxHeartbeats 1000000 in
theorem Xvg {slot i:Nat} {Q:Option Value→Shared→Prop} (hh:A.handled=none) (ho:s.heap.get? I=some (itO (.int slot 0) i a es.size ep)) (hs:s.heap.get? a=some (setO es ep t)) (hf:t.fits es.size=true)
  (hn:∀ (A':Around) (E':Value→Shared→Prop) (Q':Option (Value×Nat)→Shared→Prop),Q' none s→wpAny (model prog w) A' (setNext a slot i ep) Q' E' s)
  (h:∀ h',Heap.ExtBut I s.heap h'→Q none {s with heap:=h'}):wpAny (model prog w) A (pyNext (.ref I)) Q E s:=by
 have hT:s.TypeIs (.ref I) "set_iterator":=⟨_,ho,rfl⟩
 unfold pyNext
 refine wpAny_bind (wpAny_attempt (wpAny_callSpecial?_slot (name:=Str.ofString "__next__") hT slot_si_next (wpAny_call_entry slot_si_next hT Jf ?_ (Jn _))))
 refine wpAny_bind (m:=slotArgs "__next__" 0 ⟨[.ref I],[]⟩) (wpAny_of_eq (a:=(Value.ref I,[])) rfl ?_)
 refine wpAny_bind (wpAny_fieldsOf ho rfl ?_)
 show wpAny _ _ (setEntries a >>= _) _ _ _
 refine wpAny_bind (wpAny_setEntries_of hs rfl hf ?_)
 show wpAny _ _ (if (((es.size:Nat):Int) != ((es.size:Nat):Int))=true then _ else _) _ _ _
 rw [if_neg (by simp)]
 show wpAny _ _ (setNext a (Int.toNat (slot:Int)) (Int.toNat (i:Int)) (Int.toNat (ep:Int)) >>= _) _ _ _
 rw [Int.toNat_natCast,Int.toNat_natCast,Int.toNat_natCast]
 refine wpAny_bind (hn _ _ _ ?_)
 show wpAny _ _ (setField (.ref I) 2 .none >>= fun _=>newExc (.type "StopIteration") [] >>= fun x=>raiseNew x) _ _ _
 refine wpAny_bind (Zbh ho rfl (by show 2<5;decide) rfl fun h1 sb1 ho1=>?_)
 refine wpAny_bind ?_
 simp only [newExc,newTuple]
 refine wpAny_bind (wpAny_newObj_type ?_ (by size_fits))
 refine wpAny_bind (m:=firstArgMember _ _) (wpAny_of_eq (a:=Value.none) (by first | rfl | (simp only [firstArgMember];rfl)) ?_)
 refine wpAny_newObj_type ?_ (by size_fits)
 simp only [raiseNew]
 refine wpAny_bind (wpAny_handled ?_)
 rw [show A.in1.handled=none from hh]
 refine wpAny_bind (wpAny_pure (wpAny_throw ?_))
 refine wpAny_bind (wpAny_isInstance (T:="StopIteration") (b:=true) ⟨_,Heap.get?_push_size _ rfl,rfl⟩ isSubtype_stop ?_)
 exact wpAny_pure (h _ ((sb1.extBut.push _).push _))
end
end L2
end
section
namespace L2
open PySem PySem.Spec
noncomputable abbrev tupO (vs:List Value):Obj:={cls := .type "tuple",dict:=none,data := .seq vs.toArray}
section
variable {prog:Program} {w:World} {A:Around} {E:Value→Shared→Prop} {s:Shared} {a I p:Addr} {es:Array (Int×Value)} {ep:Nat} {t:SetTable} {ks:List Str}
set_option maxHeartbeats 1000000 in
theorem Xch {pl:List Nat} {i j:Nat} {x:Int×Value} {Q:Option Value→Shared→Prop} (ho:s.heap.get? I=some (itO (.ref p) i a es.size ep)) (hs:s.heap.get? a=some (setO es ep t)) (hf:t.fits es.size=true) (hp:s.heap.get? p=some (tupO (pl.map fun n:Nat=>rawInt n)))
  (hj:pl[i]?=some j) (hx:es[j]?=some x) (h:∀ h',Heap.SameBut I s.heap h'→h'.get? I=some (itO (.ref p) (i+1) a es.size ep)→Q (some x.2) {s with heap:=h'}):wpAny (model prog w) A (pyNext (.ref I)) Q E s:=by
 have hT:s.TypeIs (.ref I) "set_iterator":=⟨_,ho,rfl⟩
 unfold pyNext
 refine wpAny_bind (wpAny_attempt (wpAny_callSpecial?_slot (name:=Str.ofString "__next__") hT slot_si_next (wpAny_call_entry slot_si_next hT Jf ?_ (Jn _))))
 refine wpAny_bind (m:=slotArgs "__next__" 0 ⟨[.ref I],[]⟩) (wpAny_of_eq (a:=(Value.ref I,[])) rfl ?_)
 refine wpAny_bind (wpAny_fieldsOf ho rfl ?_)
 show wpAny _ _ (setEntries a >>= _) _ _ _
 refine wpAny_bind (wpAny_setEntries_of hs rfl hf ?_)
 show wpAny _ _ (if (((es.size:Nat):Int) != ((es.size:Nat):Int))=true then _ else _) _ _ _
 rw [if_neg (by simp)]
 show wpAny _ _ (seqItems? (.ref p) >>= _) _ _ _
 refine wpAny_bind (wpAny_seqItems hp rfl ?_)
 have e1:(pl.map fun n:Nat=>rawInt n).toArray[(Int.toNat (i:Int))]?=some (rawInt j):=by
  rw [Int.toNat_natCast,List.getElem?_toArray,List.getElem?_map,hj];rfl
 dsimp only
 rw [e1]
 show wpAny _ _ (setNextDrawn a (Int.toNat (j:Int)) (Int.toNat (ep:Int)) >>= fun v=>setField (.ref I) 1 (rawInt ((i:Int)+1)) >>= fun _=>ret v) _ _ _
 rw [Int.toNat_natCast,Int.toNat_natCast]
 refine wpAny_bind ?_
 unfold setNextDrawn
 refine wpAny_bind (wpAny_setState_of hs rfl hf ?_)
 dsimp only
 rw [if_neg (by simp),hx]
 refine wpAny_pure ?_
 refine wpAny_bind (Zbh ho rfl (by show 1<5;decide) rfl fun h1 sb1 ho1=>?_)
 exact wpAny_pure ⟨_,rfl,wpAny_pure (h h1 sb1 ho1)⟩
set_option maxHeartbeats 1000000 in
theorem Xlb {pl:List Nat} {i:Nat} {Q:Option Value→Shared→Prop} (hh:A.handled=none) (ho:s.heap.get? I=some (itO (.ref p) i a es.size ep)) (hs:s.heap.get? a=some (setO es ep t)) (hf:t.fits es.size=true) (hp:s.heap.get? p=some (tupO (pl.map fun n:Nat=>rawInt n)))
  (hj:pl[i]?=none) (h:∀ h',Heap.ExtBut I s.heap h'→Q none {s with heap:=h'}):wpAny (model prog w) A (pyNext (.ref I)) Q E s:=by
 have hT:s.TypeIs (.ref I) "set_iterator":=⟨_,ho,rfl⟩
 unfold pyNext
 refine wpAny_bind (wpAny_attempt (wpAny_callSpecial?_slot (name:=Str.ofString "__next__") hT slot_si_next (wpAny_call_entry slot_si_next hT Jf ?_ (Jn _))))
 refine wpAny_bind (m:=slotArgs "__next__" 0 ⟨[.ref I],[]⟩) (wpAny_of_eq (a:=(Value.ref I,[])) rfl ?_)
 refine wpAny_bind (wpAny_fieldsOf ho rfl ?_)
 show wpAny _ _ (setEntries a >>= _) _ _ _
 refine wpAny_bind (wpAny_setEntries_of hs rfl hf ?_)
 show wpAny _ _ (if (((es.size:Nat):Int) != ((es.size:Nat):Int))=true then _ else _) _ _ _
 rw [if_neg (by simp)]
 show wpAny _ _ (seqItems? (.ref p) >>= _) _ _ _
 refine wpAny_bind (wpAny_seqItems hp rfl ?_)
 have e1:(pl.map fun n:Nat=>rawInt n).toArray[(Int.toNat (i:Int))]?=none:=by
  rw [Int.toNat_natCast,List.getElem?_toArray,List.getElem?_map,hj];rfl
 dsimp only
 rw [e1]
 show wpAny _ _ (setField (.ref I) 0 (rawInt 0) >>= fun _=>setField (.ref I) 2 .none >>= fun _=>newExc (.type "StopIteration") [] >>= fun x=>raiseNew x) _ _ _
 refine wpAny_bind (Zbh ho rfl (by show 0<5;decide) rfl fun h0 sb0 ho0=>?_)
 refine wpAny_bind (Zbh (s:={s with heap:=h0}) ho0 rfl (by show 2<5;decide) rfl fun h1 sb1 ho1=>?_)
 refine wpAny_bind ?_
 simp only [newExc,newTuple]
 refine wpAny_bind (wpAny_newObj_type ?_ (by size_fits))
 refine wpAny_bind (m:=firstArgMember _ _) (wpAny_of_eq (a:=Value.none) (by first | rfl | (simp only [firstArgMember];rfl)) ?_)
 refine wpAny_newObj_type ?_ (by size_fits)
 simp only [raiseNew]
 refine wpAny_bind (wpAny_handled ?_)
 rw [show A.in1.handled=none from hh]
 refine wpAny_bind (wpAny_pure (wpAny_throw ?_))
 refine wpAny_bind (wpAny_isInstance (T:="StopIteration") (b:=true) ⟨_,Heap.get?_push_size _ rfl,rfl⟩ isSubtype_stop ?_)
 exact wpAny_pure (h _ (((sb0.trans sb1).extBut.push _).push _))
theorem Zxj (hs:s.heap.get? a=some (setO es ep t)) (hf:t.fits es.size=true) (hb:w.params.followText "set-order"=true) (slot i:Nat) {Q:Option (Value×Nat)→Shared→Prop}
  (h:Q (((pickOrder (w.params.setOrder a ep) es)[i]?).map fun e=>(e.2,slot)) s):wpAny (model prog w) A (setNext a slot i ep) Q E s:=by
 unfold setNext
 refine wpAny_bind (wpAny_setState_of hs rfl hf ?_)
 dsimp only
 refine wpAny_bind (Ql ?_)
 rw [if_pos hb,if_neg (by simp)]
 refine wpAny_bind (m:=setWalk a) ?_
 unfold setWalk
 refine wpAny_bind (wpAny_setState_of hs rfl hf ?_)
 dsimp only
 refine wpAny_bind (Ql ?_)
 rw [if_pos hb]
 exact wpAny_bind (wpAny_askSetting (wpAny_pure (wpAny_pure h)))
noncomputable def nextAt (es:Array (Int×Value)) (pl:Array Nat) (slot:Nat):Option (Value×Nat):=match es[SetTable.below pl slot]?,pl[SetTable.below pl slot]? with | some (_,x),some j=>some (x,j+1) | _,_=>none
theorem Xcg (hs:s.heap.get? a=some (setO es ep t)) (hi:SetIn w es t ks) (hb:w.params.followText "set-order"=false) (h1:es.size≤1) (slot i:Nat) {Q:Option (Value×Nat)→Shared→Prop}
  (h:Q (nextAt es t.place slot) s):wpAny (model prog w) A (setNext a slot i ep) Q E s:=by
 unfold setNext
 refine wpAny_bind (wpAny_setState_of hs rfl hi.fit ?_)
 dsimp only
 refine wpAny_bind (Ql ?_)
 rw [if_neg (by rw [hb];decide)]
 have e1:(!t.plain&&decide (es.size > 1))=false:=by rw [decide_eq_false (by omega),Bool.and_false]
 show wpAny _ _ (if (!t.plain&&decide (es.size > 1))=true then _ else _) _ _ _
 rw [if_neg (by rw [e1];decide)]
 refine wpAny_bind (m:=if (!t.led&&!es.isEmpty)=true then _ else _) ?_
 rw [if_neg (by rw [hi.led hb];simp)]
 exact wpAny_pure (wpAny_pure h)
theorem Yab {α:Type} (n:Nat):∀ (xs:List α) (s:Shared) (Q:List α→Shared→Prop),xs.length=n→(∀ (l:List α) (d:Drawn),l.Perm xs→Q l {s with drawn:=d})→wpAny (model prog w) A (drawOrder n xs) Q E s:=by
 induction n with
 | zero =>
  intro xs s Q hn h
  obtain rfl:=List.eq_nil_of_length_eq_zero hn
  unfold drawOrder
  exact wpAny_pure (h [] s.drawn (.refl _))
 | succ n ih =>
  intro xs s Q hn h
  cases xs with
  | nil=>cases hn
  | cons x xs =>
   unfold drawOrder
   refine wpAny_bind (m:=choose .order (x::xs).length) ?_
   intro Γ p hΓ
   refine ⟨by simp,?_⟩
   generalize hi:(model prog w).w.draws .order (s.drawn.get .order)%(x::xs).length=i
   have hlt:i<(x::xs).length:=by rw [← hi];exact Nat.mod_lt _ (by simp)
   have key:wpAny (model prog w) A (match (x::xs)[i]? with
     | some y=>do return y::(← drawOrder n ((x::xs).eraseIdx i))
     | none=>unsupported "internal:drawOrder") Q E {s with drawn:=s.drawn.bump .order}:=by
    rw [List.getElem?_eq_getElem hlt]
    refine wpAny_bind (ih _ _ _ (by rw [List.length_eraseIdx,if_pos hlt];omega) fun l d pm=>?_)
    exact wpAny_pure (h _ d ((pm.cons _).trans (Zch _ i hlt)))
   exact key
end
end L2
end
section
namespace L2
open PySem PySem.Spec
theorem Zdf:Slot "set_iterator" "__iter__" "set_iterator.__iter__" :=
 .of (owner:="set_iterator") (n:="__iter__") (by rw [typeLookup_type,builtinLookup_eq_fast];kernel_rfl) (by decide +kernel) (by decide +kernel) (by decide +kernel) (by first | exact .inl (by decide +kernel) | exact .inr (by decide +kernel)) (by rw [isSubtype_type];kernel_rfl)
theorem Znj:entryFor table "set_iterator.__iter__"=some Builtin.«dict_keyiterator.__iter__» := entryFor_alias (id':="dict_keyiterator.__iter__") (by kernel_rfl) rfl (by decide +kernel) (by kernel_rfl)
theorem Zug (a:Value):argsOk "set_iterator.__iter__" ⟨[a],[]⟩:=by unfold argsOk;kernel_rfl
section
variable {prog:Program} {w:World} {A:Around} {E:Value→Shared→Prop} {s:Shared} {a I p:Addr} {es:Array (Int×Value)} {ep:Nat} {t:SetTable} {ks:List Str}
theorem Xnf {o:Obj} {Q:Value→Shared→Prop} (ho:s.heap.get? I=some o) (hc:o.cls = .type "set_iterator") (h:Q (.ref I) s):wpAny (model prog w) A (pyIter (.ref I)) Q E s:=by
 have hT:s.TypeIs (.ref I) "set_iterator":=⟨o,ho,hc⟩
 refine wpAny_pyIter_slot hT Zdf (wpAny_call_entry Zdf hT Znj ?_ (Zug _))
 show wpAny _ _ (ret (.ref I)) _ _ s
 exact wpAny_pure ⟨_,rfl,"set_iterator",_,hT,slot_si_next.lookup,h⟩
theorem Zoe (hh:A.handled=none) (hne:a≠I) (hf:t.fits es.size=true) (vals:List Value) (slot:Nat→Nat)
  (hn:∀ (i:Nat) (s':Shared) (A':Around) (E':Value→Shared→Prop) (Q':Option (Value×Nat)→Shared→Prop),i≤vals.length→s'.heap.get? a=some (setO es ep t)→Q' (vals[i]?.map fun v=>(v,slot (i+1))) s'→wpAny (model prog w) A' (setNext a (slot i) i ep) Q' E' s') :
  Walks prog w A I [I,a] [I] vals.length (fun i v=>vals[i]?=some v) (fun i h=>h.get? I=some (itO (.int (slot i) 0) i a es.size ep)∧h.get? a=some (setO es ep t)) where
 sub:=fun b hb=>by rw [List.mem_singleton.mp hb];exact List.mem_cons_self
 frame:=fun i h h' st k=>⟨k I List.mem_cons_self _ st.1,k a (List.mem_cons_of_mem _ List.mem_cons_self) _ st.2⟩
 item:=fun i s Q E hi st hQ=>by
  have e:vals[i]?=some vals[i]:=List.getElem?_eq_getElem hi
  refine Xpc (v:=vals[i]) st.1 st.2 hf (fun A' E' Q' q=>hn i s A' E' Q' (Nat.le_of_lt hi) st.2 (by rw [e];exact q)) fun h' sb ho'=>?_
  exact hQ _ h' s.toks e ⟨ho',by rw [sb.2 a hne];exact st.2⟩ fun b o hb z=>by rw [sb.2 b fun y=>hb (by rw [y];exact List.mem_singleton.mpr rfl)];exact z
 done:=fun s Q E st hQ=>by
  refine Xvg hh st.1 st.2 hf (fun A' E' Q' q=>hn _ s A' E' Q' (Nat.le_refl _) st.2 (by rw [List.getElem?_eq_none (Nat.le_refl _)];exact q)) fun h' eb=>?_
  exact hQ h' s.toks fun b o hb z=>eb b o (fun y=>hb (by rw [y];exact List.mem_singleton.mpr rfl)) z
 self:=fun i s Q E st hQ=>Xnf st.1 rfl hQ
theorem Zuj (hh:A.handled=none) (hne:a≠I) (hpI:p≠I) (hf:t.fits es.size=true) (pl:List Nat) (hl:∀ j∈pl,j<es.size) :
  Walks prog w A I [I,a,p] [I] (pl.map fun j=>(es.getD j (0,.none)).2).length (fun i v=>(pl.map fun j=>(es.getD j (0,.none)).2)[i]?=some v) (fun i h=>h.get? I=some (itO (.ref p) i a es.size ep)∧h.get? a=some (setO es ep t)∧h.get? p=some (tupO (pl.map fun n:Nat=>rawInt n))) where
 sub:=fun b hb=>by rw [List.mem_singleton.mp hb];exact List.mem_cons_self
 frame:=fun i h h' st k=>⟨k I List.mem_cons_self _ st.1,k a (List.mem_cons_of_mem _ List.mem_cons_self) _ st.2.1,k p (List.mem_cons_of_mem _ (List.mem_cons_of_mem _ List.mem_cons_self)) _ st.2.2⟩
 item:=fun i s Q E hi st hQ=>by
  rw [List.length_map] at hi
  have hj:pl[i]?=some pl[i]:=List.getElem?_eq_getElem hi
  have hx:es[pl[i]]?=some es[pl[i]]!:=by
   have:=hl _ (List.getElem_mem hi)
   rw [getElem!_pos es pl[i] this];exact Array.getElem?_eq_getElem this
  refine Xch st.1 st.2.1 hf st.2.2 hj hx fun h' sb ho'=>?_
  refine hQ _ h' s.toks ?_ ⟨ho',by rw [sb.2 a hne];exact st.2.1,by rw [sb.2 p hpI];exact st.2.2⟩ fun b o hb z=>by rw [sb.2 b fun y=>hb (by rw [y];exact List.mem_singleton.mpr rfl)];exact z
  rw [List.getElem?_map,hj,Option.map_some,Array.getD_eq_getD_getElem?,hx];rfl
 done:=fun s Q E st hQ=>by
  have st1:=st.1
  rw [List.length_map] at st1
  refine Xlb hh st1 st.2.1 hf st.2.2 (List.getElem?_eq_none (Nat.le_refl _)) fun h' eb=>?_
  exact hQ h' s.toks fun b o hb z=>eb b o (fun y=>hb (by rw [y];exact List.mem_singleton.mpr rfl)) z
 self:=fun i s Q E st hQ=>Xnf st.1 rfl hQ
theorem Xdg {es:Array (Int×Value)} {pl:List Nat} (hp:pl.Perm (List.range es.size)):(pl.map fun j=>(es.getD j (0,.none)).2).Perm (es.toList.map (·.2)):=by
 refine (hp.map _).trans ?_
 have e:(List.range es.size).map (fun j=>(es.getD j (0,Value.none)).2)=es.toList.map (·.2):=by
  apply List.ext_getElem?
  intro i
  rw [List.getElem?_map,List.getElem?_map,show es.toList[i]?=es[i]? from Array.getElem?_toList ..]
  by_cases hi:i<es.size
  ·rw [List.getElem?_range hi,Array.getElem?_eq_getElem hi,Option.map_some,Option.map_some,Array.getD_eq_getD_getElem?,Array.getElem?_eq_getElem hi];rfl
  ·rw [List.getElem?_eq_none (by rw [List.length_range];omega),Array.getElem?_eq_none (by omega)];rfl
 rw [e]
theorem Xbh {pl:Array Nat} {es:Array (Int×Value)} (h1:es.size≤1) (hp:pl.size=es.size) (i:Nat) (hi:i≤es.size) :
  nextAt es pl (if i=0 then 0 else pl.getD 0 0+1)=(es.toList.map (·.2))[i]?.map fun v=>(v,if i+1=0 then 0 else pl.getD 0 0+1):=by
 obtain ⟨el⟩:=es
 obtain ⟨pll⟩:=pl
 match el,pll,hp,h1 with
 | [],[],_,_ =>
  obtain rfl:i=0:=Nat.le_zero.mp hi
  rfl
 | [(k,x)],[j],_,_ =>
  have hi':i≤1:=hi
  match i,hi' with
  | 0,_ =>
   have e:SetTable.below #[j] 0=0:=by unfold SetTable.below SetTable.below.go SetTable.below.go;simp
   show nextAt #[(k,x)] #[j] 0=_
   unfold nextAt
   rw [e];rfl
  | 1,_ =>
   have e:SetTable.below #[j] (j+1)=1:=by unfold SetTable.below SetTable.below.go SetTable.below.go;simp
   show nextAt #[(k,x)] #[j] (j+1)=_
   unfold nextAt
   rw [e];rfl
 | _::_::_,_,_,h1=>exact absurd h1 (by simp)
 | [],_::_,hp,_=>exact absurd hp (by simp)
 | [_],[],hp,_=>exact absurd hp (by simp)
 | [_],_::_::_,hp,_=>exact absurd hp (by simp)
theorem Xeg {f:Value} {n e:Nat} {Q:Value→Shared→Prop} (h:Q (.ref s.heap.objs.size) {s with heap:=s.heap.push (itO f 0 a n e)}):wpAny (model prog w) A (newFields "set_iterator" [f,rawInt 0,.ref a,rawInt n,rawInt e]) Q E s:=by
 unfold newFields
 exact wpAny_newObj_type h
set_option maxHeartbeats 1000000 in
theorem Xzh {Q:Value→Shared→Prop} (hs:s.heap.get? a=some (setO es ep t)) (hi:SetIn w es t ks) (hz:es.size≤1000)
  (h:∀ (h':Heap) (d':Drawn) (I:Addr) (vals:List Value) (fp:List Addr) (St:Nat→Heap→Prop),(∀ b o,s.heap.get? b=some o→h'.get? b=some o)→s.heap.objs.size≤I→(∀ b∈fp,b=a∨s.heap.objs.size≤b)→
   (∀ A':Around,A'.handled=none→Walks prog w A' I fp [I] vals.length (fun i v=>vals[i]?=some v) St)→St 0 h'→vals.Perm (es.toList.map (·.2))→Q (.ref I) {s with heap:=h',drawn:=d'}) :
  wpAny (model prog w) A (pyIter (.ref a)) Q E s:=by
 have hT:s.TypeIs (.ref a) "set":=⟨_,hs,rfl⟩
 have hla:a<s.heap.objs.size:=Heap.lt_size hs
 refine wpAny_pyIter_slot hT F.slot_set_iter (wpAny_call_entry F.slot_set_iter hT Zli ?_ (F.args_set_iter_1 _))
 refine wpAny_bind (m:=Builtin.Frozenset.slot0 "__iter__" ⟨[.ref a],[]⟩) (wpAny_of_eq (a:=a) rfl ?_)
 refine wpAny_bind (m:=Builtin.Frozenset.sizeOf a) ?_
 unfold Builtin.Frozenset.sizeOf
 refine wpAny_bind (wpAny_setEntries_of hs rfl hi.fit (wpAny_pure ?_))
 refine wpAny_bind (m:=setDrawn a) ?_
 unfold setDrawn
 refine wpAny_bind (wpAny_setState_of hs rfl hi.fit ?_)
 dsimp only
 refine wpAny_bind (Ql (wpAny_pure ?_))
 show wpAny _ _ (if (!w.params.followText "set-order"&&(!t.plain&&decide (es.size > 1)))=true then _ else _) _ _ _
 by_cases hd:(!w.params.followText "set-order"&&(!t.plain&&decide (es.size > 1)))=true
 ·rw [if_pos hd]
  refine wpAny_bind (Yab es.size (List.range es.size) s _ List.length_range fun l d pm=>?_)
  have hl:∀ j∈l,j<es.size:=fun j hj=>List.mem_range.mp (pm.mem_iff.mp hj)
  refine wpAny_bind (wpAny_newTuple ?_ (by rw [List.length_map,pm.length_eq,List.length_range];exact Nat.le_trans hz (by decide)))
  have hs1:(s.heap.push (tupO (l.map fun n:Nat=>rawInt n))).get? a=some (setO es ep t):=Heap.get?_push_of_some _ hs
  refine wpAny_bind (wpAny_setEpoch_of (s:={s with heap:=s.heap.push (tupO (l.map fun n:Nat=>rawInt n)),drawn:=d}) hs1 rfl hi.fit ?_)
  refine wpAny_bind (Xeg ?_)
  have hsz:(s.heap.push (tupO (l.map fun n:Nat=>rawInt n))).objs.size=s.heap.objs.size+1:=Heap.size_push ..
  have hge:s.heap.objs.size≤(s.heap.push (tupO (l.map fun n:Nat=>rawInt n))).objs.size:=by rw [hsz];exact Nat.le_succ _
  have gI:((s.heap.push (tupO (l.map fun n:Nat=>rawInt n))).push (itO (.ref s.heap.objs.size) 0 a es.size ep)).get? (s.heap.push (tupO (l.map fun n:Nat=>rawInt n))).objs.size=some (itO (.ref s.heap.objs.size) 0 a es.size ep):=Heap.get?_push_size _ rfl
  refine wpAny_pure ⟨_,rfl,"set_iterator",_,⟨_,gI,rfl⟩,slot_si_next.lookup,?_⟩
  refine h _ d _ (l.map fun j=>(es.getD j (0,.none)).2) [(s.heap.push (tupO (l.map fun n:Nat=>rawInt n))).objs.size,a,s.heap.objs.size] _ (fun b o e=>Heap.get?_push_of_some _ (Heap.get?_push_of_some _ e)) hge (fun b hb=>?_)
   (fun A' hh=>Zuj hh (fun z=>absurd hla (by rw [z];exact Nat.not_lt.mpr hge)) (fun z=>absurd (z.trans hsz) (Nat.ne_of_lt (Nat.lt_succ_self _))) hi.fit l hl) ⟨gI,Heap.get?_push_of_some _ hs1,Heap.get?_push_of_some _ (Heap.get?_push_size _ rfl)⟩ (Xdg pm)
  rcases List.mem_cons.mp hb with e | hb
  ·exact .inr (by rw [e];exact hge)
  ·rcases List.mem_cons.mp hb with e | hb
   ·exact .inl e
   ·exact .inr (by rw [List.mem_singleton.mp hb];exact Nat.le_refl _)
 ·rw [if_neg hd]
  refine wpAny_bind (wpAny_pure ?_)
  refine wpAny_bind (wpAny_setEpoch_of hs rfl hi.fit ?_)
  refine wpAny_bind (Xeg (f:=rawInt 0) ?_)
  have gI:(s.heap.push (itO (rawInt 0) 0 a es.size ep)).get? s.heap.objs.size=some (itO (rawInt 0) 0 a es.size ep):=Heap.get?_push_size _ rfl
  refine wpAny_pure ⟨_,rfl,"set_iterator",_,⟨_,gI,rfl⟩,slot_si_next.lookup,?_⟩
  have hfp:∀ b∈[s.heap.objs.size,a],b=a∨s.heap.objs.size≤b:=fun b hb=>by
   rcases List.mem_cons.mp hb with e | hb
   ·exact .inr (by omega)
   ·exact .inl (List.mem_singleton.mp hb)
  cases hb:w.params.followText "set-order" with
  | true =>
   have pm:=Zpe (w.params.setOrder a ep) es
   refine h _ s.drawn _ ((pickOrder (w.params.setOrder a ep) es).toList.map (·.2)) [s.heap.objs.size,a] _ (fun b o e=>Heap.get?_push_of_some _ e) (Nat.le_refl _) hfp
    (fun A' hh=>Zoe hh (Nat.ne_of_lt hla) hi.fit _ (fun _=>0) fun i s' A' E' Q' hle hs' q=>Zxj hs' hi.fit hb _ _ ?_) ⟨gI,Heap.get?_push_of_some _ hs⟩ (pm.map _)
   rw [List.getElem?_map,Array.getElem?_toList] at q
   rw [Option.map_map] at q
   exact q
  | false =>
   have h1:es.size≤1:=by
    rcases Nat.lt_or_ge 1 es.size with y | y
    ·rw [hb,hi.pl (by omega),decide_eq_true y] at hd
     exact absurd rfl hd
    ·exact y
   refine h _ s.drawn _ (es.toList.map (·.2)) [s.heap.objs.size,a] _ (fun b o e=>Heap.get?_push_of_some _ e) (Nat.le_refl _) hfp
    (fun A' hh=>Zoe hh (Nat.ne_of_lt hla) hi.fit _ (fun i=>if i=0 then 0 else t.place.getD 0 0+1) fun i s' A' E' Q' hle hs' q=>Xcg hs' hi hb h1 _ _ ?_) ⟨gI,Heap.get?_push_of_some _ hs⟩ (.refl _)
   rw [List.length_map,Array.length_toList] at hle
   rw [Xbh h1 (Zeg hi.fit).1 i hle]
   exact q
end
end L2
end
section
namespace L2
open PySem PySem.Spec PyProof.Rows
section
variable {prog:Program} {w:World} {A:Around} {E:Value→Shared→Prop} {s:Shared} {a:Addr} {es:Array (Int×Value)} {ep:Nat} {t:SetTable} {ks:List Str}
theorem Xzi {Q:Bool→Shared→Prop} (hT:s.TypeIs (.ref a) "set") (h:Q false s):wpAny (model prog w) A (Builtin.List.listLengthHint (.ref a)) Q E s:=by
 unfold Builtin.List.listLengthHint
 refine wpAny_bind (wpAny_specialOf hT PySem.F.slot_set_len.lookup ?_)
 generalize hid:("set.__len__":String)=id0
 wp_delta
 rw [show splitId id0=some ("set","__len__") from by subst hid;decide +kernel]
 subst hid
 refine wpAny_bind (wpAny_isInstance (T:="set") (b:=true) hT sub_set_self ?_)
 refine wpAny_ite_split (fun z=>absurd z (by decide)) (fun _=>?_)
 refine wpAny_ite_split (fun _=>?_) (fun z=>absurd (by decide +kernel) z)
 exact wpAny_bind (wpAny_typeOf hT (wpAny_pure h))
theorem Xpj {vals:List Value} {acc:Array Value} (h:ItemsOf (fun i v=>vals[i]?=some v) acc vals.length):acc.toList=vals:=by
 apply List.ext_getElem?
 intro i
 rw [Array.getElem?_toList]
 by_cases hi:i<acc.size
 ·rw [Array.getElem?_eq_getElem hi]
  exact (h.2 i _ (Array.getElem?_eq_getElem hi)).symm
 ·rw [Array.getElem?_eq_none (by omega),List.getElem?_eq_none (by rw [← h.1];omega)]
noncomputable abbrev lsO (vs:Array Value) (c:Nat):Obj:={cls := .type "list",dict:=none,data := .seq vs c,slots:=#[]}
set_option maxHeartbeats 1000000 in
theorem Xlh {Q:List Value→Shared→Prop} (hh:A.handled=none) (hs:s.heap.get? a=some (setO es ep t)) (hi:SetIn w es t ks) (hz:es.size≤1000)
  (h:∀ (h':Heap) (d':Drawn) (tk:Nat) (vs:List Value),(∀ b o,s.heap.get? b=some o→h'.get? b=some o)→s.heap.objs.size≤h'.objs.size→vs.Perm (es.toList.map (·.2))→Q vs {s with heap:=h',drawn:=d',toks:=tk}) :
  wpAny (model prog w) A (collect (.ref a)) Q E s:=by
 have hla:a<s.heap.objs.size:=Heap.lt_size hs
 unfold collect
 refine wpAny_bind (wpAny_runValue (codeAny_builtin PySem.F.entry_proto_collect ?_))
 rw [Around.under_plainId PySem.F.plain_proto_collect _]
 show wpAny _ A.in1 (newList [] >>= fun l=>again (.builtin "list.__iadd__" ⟨[l,.ref a],[]⟩)) _ _ s
 refine wpAny_bind (wpAny_newObj_type ?_)
 refine wpAny_pure ⟨plainId_quiet PySem.F.plain_list_iadd _,codeAny_builtin PySem.F.entry_list_iadd ?_⟩
 rw [Around.under_plainId PySem.F.plain_list_iadd _]
 show wpAny _ A.in1 (Builtin.List.listExtendWith (.ref s.heap.objs.size) (.ref a) (.ref s.heap.objs.size)) _ _ {s with heap:=s.heap.push (lsO #[] 0)}
 have hs1:(s.heap.push (lsO #[] 0)).get? a=some (setO es ep t):=Heap.get?_push_of_some _ hs
 have hL1:(s.heap.push (lsO #[] 0)).get? s.heap.objs.size=some (lsO #[] 0):=Heap.get?_push_size _ rfl
 have hsz:(s.heap.push (lsO #[] 0)).objs.size=s.heap.objs.size+1:=Heap.size_push ..
 unfold Builtin.List.listExtendWith
 refine wpAny_bind (wpAny_typeOf (T:="set") ⟨_,hs1,rfl⟩ ?_)
 have e1:Builtin.List.listSameRef (.ref s.heap.objs.size) (.ref a)=false:=by
  show (s.heap.objs.size == a)=false
  exact beq_eq_false_iff_ne.mpr (Nat.ne_of_gt hla)
 have e2:(Value.type "set" == Value.type "list")=false:=by decide
 have e3:(Value.type "set" == Value.type "tuple")=false:=by decide
 rw [e1,e2,e3,if_neg (by decide)]
 refine wpAny_bind (Xzh (s:={s with heap:=s.heap.push (lsO #[] 0)}) hs1 hi hz fun h1 d1 I vals fp St k1 hI hfp W st pm=>?_)
 have hlen:vals.length≤1000:=by rw [pm.length_eq,List.length_map,Array.length_toList];exact hz
 have hI':s.heap.objs.size+1≤I:=by rw [← hsz];exact hI
 have hSf:s.heap.objs.size∉fp:=fun z=>by
  rcases hfp _ z with y | y
  ·exact absurd y (Nat.ne_of_gt hla)
  ·have y':(s.heap.push (lsO #[] 0)).objs.size≤s.heap.objs.size:=y
   rw [hsz] at y'
   exact Nat.not_succ_le_self _ y'
 have hL2:=k1 _ _ hL1
 have W1:=W A.in1 hh
 have key:∀ (h2:Heap) (c:Nat) (tk:Nat),(∀ b o,b≠s.heap.objs.size→h1.get? b=some o→h2.get? b=some o)→h2.get? s.heap.objs.size=some (lsO #[] c)→
   codeAny (model prog w) A (.builtin "list.extend.loop" ⟨[.ref s.heap.objs.size,.ref I,.ref s.heap.objs.size],[]⟩) (fun r s'=>match r with
    | .ok (.ret v)=>wpAny (model prog w) A (match v with
     | .ref a=>load a >>= fun o=>(match o.data with
      | .seq xs _=>pure xs.toList
      | _=>unsupported "internal:collect")
     | _=>unsupported "internal:collect") Q E s'
    | .ok _=>False
    | .error e=>E e s') {s with heap:=h2,drawn:=d1,toks:=tk}:=fun h2 c tk k2 hL3=>by
  refine codeAny_extend_loopS W1.toS (Nat.le_trans hlen (by decide)) _ hSf _ vals.length 0 _ #[] c rfl (Nat.zero_le _) (W1.frame 0 h1 h2 st fun b hb o e=>k2 b o (fun z=>hSf (z ▸ hb)) e) hL3 (ItemsOf.nil _) fun s' acc' c' hm hS' hacc=>?_
  have e:=Moved.eq_with hm
  rw [e]
  show wpAny _ A (load s.heap.objs.size >>= _) _ _ _
  refine wpAny_bind (wpAny_load (s:={s with heap:=s'.heap,drawn:=d1,toks:=s'.toks}) hS' ?_)
  show wpAny _ A (pure acc'.toList) _ _ _
  rw [Xpj hacc]
  refine wpAny_pure (h s'.heap d1 s'.toks vals (fun b o eb=>?_) (Nat.le_of_lt (Heap.lt_size hS')) pm)
  have hb:=Heap.lt_size eb
  refine hm.heap b o (fun z=>?_) (k2 b o (Nat.ne_of_lt hb) (k1 b o (Heap.get?_push_of_some _ eb)))
  rcases List.mem_cons.mp z with y | y
  ·exact absurd y (Nat.ne_of_lt hb)
  ·have y':=List.mem_singleton.mp y
   exact absurd hb (by rw [y'];exact Nat.not_lt.mpr (Nat.le_of_succ_le hI'))
 refine wpAny_bind (wpAny_holding (Xzi (s:={s with heap:=h1,drawn:=d1}) ⟨_,k1 _ _ hs1,rfl⟩ ?_))
 refine wpAny_ite_split (fun _=>?_) (fun _=>wpAny_pure ⟨plainId_quiet PySem.F.plain_extend_loop _,?_⟩)
 ·refine wpAny_bind (wpAny_rule ?_)
  refine wpAny_bind ?_
  show wpAny _ _ (updateSeq s.heap.objs.size (·.push .none) >>= fun _=>updateSeq s.heap.objs.size (·.pop)) _ _ _
  refine wpAny_bind (wpAny_updateSeq hL2 rfl ?_)
  have hL3:=Heap.get?_update_self (Obj.mapSeq (·.push Value.none)) hL2 rfl
  refine wpAny_updateSeq (hz:=by seq_fits) hL3 rfl ?_
  have hL4:=Heap.get?_update_self (Obj.mapSeq (·.pop)) hL3 rfl
  refine wpAny_pure ⟨plainId_quiet PySem.F.plain_extend_loop _,?_⟩
  refine codeAny_mono (key _ _ s.toks (fun b o hb e=>?_) hL4) ?_
  ·rw [Heap.get?_update_other _ _ (Ne.symm hb),Heap.get?_update_other _ _ (Ne.symm hb)];exact e
  ·exact fun r s' z=>z
 ·exact codeAny_mono (key h1 0 s.toks (fun b o _ e=>e) hL2) fun r s' z=>z
theorem Xhb {es:Array (Int×Value)} (hi:SetIn w es t ks) {vs:List Value} (hp:vs.Perm (es.toList.map (·.2))):StrsAre vs (vs.map strOf)∧(vs.map strOf).Perm ks:=by
 refine ⟨?_,?_⟩
 ·refine strsAre_map vs fun v hv=>?_
  obtain ⟨e,he,rfl⟩:=List.mem_map.mp (hp.mem_iff.mp hv)
  obtain ⟨k,u,rfl⟩:=hi.els e he
  exact ⟨k,u,rfl⟩
 ·have:=hp.map strOf
  rw [List.map_map] at this
  exact this.trans hi.keys
theorem Zve {h:Heap} {p:Addr} {vs:List Value} {out:Array Value} {b:Addr} {o:Obj} (hb:b≠p) (e:h.get? b=some o):(sortedHeap h p vs out).get? b=some o:=by
 unfold sortedHeap
 rw [Heap.get?_update_other _ _ (Ne.symm hb)]
 refine Heap.get?_push_of_some _ (Heap.get?_push_of_some _ ?_)
 rw [Heap.get?_update_other _ _ (Ne.symm hb)]
 exact e
theorem Xai {h:Heap} {p:Addr} {vs:List Value} {out:Array Value} {n:Nat} (e:h.get? p=some (seqObj "list" vs.toArray n)):∃ m,(sortedHeap h p vs out).get? p=some (seqObj "list" out m):=by
 unfold sortedHeap
 have e1:=Heap.get?_update_self (Obj.mapSeq fun _=>(#[]:Array Value)) e rfl
 have e2:=Heap.get?_push_of_some (seqObj "list" #[] 0) (Heap.get?_push_of_some (seqObj "tuple" vs.toArray 0) e1)
 exact ⟨_,Heap.get?_update_self (Obj.mapSeq fun _=>out) e2 rfl⟩
set_option maxHeartbeats 1000000 in
theorem Xna {Q:Value→Shared→Prop} (hh:A.handled=none) (hT:SetT w s.heap a ks) (h64:ks.length≤1000)
  (h:∀ (h':Heap) (d':Drawn) (tk:Nat) (p:Addr) (out:Array Value) (ss:List Str) (e:Nat),(∀ b o,s.heap.get? b=some o→h'.get? b=some o)→s.heap.objs.size≤p→h'.get? p=some (seqObj "list" out e)→StrsAre out.toList ss→ss.Perm ks→sortedS ss=true→Q (.ref p) {s with heap:=h',drawn:=d',toks:=tk}) :
  wpAny (model prog w) A (call (.builtin "sorted") [.ref a]) Q E s:=by
 obtain ⟨es,ep,t,hs,hi⟩:=hT
 have hsz:=hi.size
 refine Calls.call_function_entry kind_sorted plain_sorted entry_sorted (args_sorted1 _) ?_
 unfold Builtin.«sorted»
 refine wpAny_bind (m:=checkCount "sorted" 1 1 _) (wpAny_pure ?_)
 refine wpAny_bind (Xlh (A:=A.in1) hh hs hi (by omega) fun h1 d1 tk vs k1 hle pm=>?_)
 obtain ⟨hS,hP⟩:=Xhb hi pm
 have hl:vs.length≤10000:=by rw [pm.length_eq,List.length_map,Array.length_toList,hsz];omega
 refine wpAny_bind (wpAny_newList ?_)
 have hoL:(h1.push (seqObj "list" vs.toArray 0)).get? h1.objs.size=some (seqObj "list" vs.toArray 0):=Heap.get?_push_size _ rfl
 refine wpAny_bind (wpAny_holding (wpAny_call_entry (s:={s with heap:=h1.push (seqObj "list" vs.toArray 0),drawn:=d1,toks:=tk}) slot_list_sort ⟨_,hoL,rfl⟩ entry_list_sort (TS.Zoi strKind_oneLt hoL hS.keysOf (fun v₁ v₂ rest e=>keyKind_strs (by rw [← e];exact hS)) hl fun st' a1 a2=>⟨_,rfl,?_⟩) (args_list_sort _)))
 obtain ⟨ss,b1,b2,b3⟩:=sorted_out_str hS a1 a2
 obtain ⟨m,hm⟩:=Xai (out:=(arrOf st').map (·.2)) hoL
 refine wpAny_pure ⟨_,rfl,h _ d1 tk _ _ ss m (fun b o e=>?_) hle hm b1 (b2.trans hP) b3⟩
 exact Zve (Nat.ne_of_lt (Heap.lt_size (k1 b o e))) (Heap.get?_push_of_some _ (k1 b o e))
end
end L2
end
section
namespace L2
open PySem PySem.W PySem.Spec PyProof.Rows
theorem Inv.draw {X:Cx} {pins:List (Addr×Obj)} {σ:St} {H:Hp} {s:Shared} (I:Inv X pins σ H s) (d:Drawn):Inv X pins σ H {s with drawn:=d} :=
 I.step (g':=s.gens) (d':=d) (t':=s.toks) (h':=s.heap) (ch:=[]) (fun b hb=>nomatch hb) (fun b o _ _ _ e _=>e) (fun b o _ _ _ e _=>⟨o.slots,e⟩) (fun b o _ _ n=>n) (fun b o _ e=>⟨o,e⟩) (fun _ _ e=>e) (fun _ _ _ e=>e) (fun b ps e=>⟨#[],by rw [e];simp⟩) (fun m hm=>hm) I.hok I.bare
section
variable {X:Cx} {pos p p2 p3 q q2 q3:Pos} {e1 e2:Expr} {te1 te2:TE}
noncomputable def tSortU (K:PySem.W.Frag) (te1 te2:TE):TE:=fun σ H Q=>te1 σ H fun x H1=>∃ (a:Addr) (rs:List (List Bool)),x = .ref a∧SqL K H1 a (KM.RL rs)∧rs.length≤1000∧
 te2 σ H1 fun y H2=>∃ (b:Addr) (rs2 U:List (List Bool)),y = .ref b∧SqL K H2 b (KM.RL rs2)∧rs2.length≤1000∧U.length≤1000∧(∀ r,r∈rs∨r∈rs2→r∈U)∧
  ∀ ss:List (List Bool),KM.Asc ss→(∀ r,r∈ss↔r∈rs∨r∈rs2)→∀ p,H2 p=none→Q (.ref p) (upd H2 p (.lst (KM.RL ss)))
theorem Zvh {l:Addr} {rs:List (List Bool)} {pins:List (Addr×Obj)} {σ:St} {H:Hp} {s:Shared} {Q:Value→Shared→Prop} (hcm:X.calm=true) (I:Inv X pins σ H s) (hq:SqL X.K H l (KM.RL rs)) (hz:rs.length≤1000)
  (h:∀ h' tk,SetT X.w h' s.heap.objs.size ((rs.map KM.rowS).foldl addK [])→(∀ b o,b<s.heap.objs.size→s.heap.get? b=some o→h'.get? b=some o)→Inv X pins σ H {s with heap:=h',toks:=tk}→Q (.ref s.heap.objs.size) {s with heap:=h',toks:=tk}) :
  wpAny (model X.prog X.w) X.A (call (.type "set") [.ref l]) Q X.xe s:=by
 obtain ⟨its,rv,pl,_⟩:=I.list hq
 have hlen:=rv.length
 rw [KM.Zz] at hlen
 have hs:(scanBound:Nat)=4096:=rfl
 refine Xdi (xs:=rs.map KM.rowS) (I.ok.hd hcm) pl.isList (by rw [List.length_map,List.size_toArray];exact hlen) (fun i v hv=>?_) (by rw [List.size_toArray];omega) fun h' tk hT hk=>h h' tk hT hk (I.kept (h':=h') (t':=tk) fun b o e=>hk b o (Heap.lt_size e) e)
 have hv':its[i]?=some v:=by simpa using hv
 have hi:i<rs.length:=by rw [hlen];exact (List.getElem?_eq_some_iff.mp hv').1
 obtain ⟨u,hu,ru⟩:=rv.get (i:=i) (x := .str (KM.rowS rs[i])) (by unfold KM.RL;rw [List.getElem?_map,List.getElem?_eq_getElem hi];rfl)
 rw [hv'] at hu
 cases hu
 obtain ⟨t,rfl⟩:=(show ∃ t,v=Value.str (KM.rowS rs[i]) t from ru)
 exact ⟨_,t,by rw [List.getElem?_map,List.getElem?_eq_getElem hi];rfl,rfl⟩
theorem Zid {rs:List (List Bool)}:((rs.map KM.rowS).foldl addK []).Nodup∧∀ x,x∈(rs.map KM.rowS).foldl addK []↔∃ r∈rs,KM.rowS r=x:=by
 obtain ⟨a,b⟩:=Zfj (rs.map KM.rowS) [] .nil
 refine ⟨a,fun x=>(b x).trans ?_⟩
 rw [List.mem_map]
 exact ⟨fun z=>z.elim (fun y=>nomatch y) id,.inr⟩
theorem Zvd {rs:List (List Bool)}:((rs.map KM.rowS).foldl addK []).length≤rs.length:=by
 have z:=Zle (rs.map KM.rowS) []
 rwa [List.length_nil,Nat.zero_add,List.length_map] at z
theorem Zpc:∀ (l:List Str),(∀ x∈l,∃ r,KM.rowS r=x)→∃ rs:List (List Bool),l=rs.map KM.rowS
 | [],_=>⟨[],rfl⟩
 | x::l,h=>by
  obtain ⟨r,rfl⟩:=h x (List.mem_cons_self ..)
  obtain ⟨rs,rfl⟩:=Zpc l fun y hy=>h y (List.mem_cons_of_mem _ hy)
  exact ⟨r::rs,rfl⟩
theorem Xcf {rs:List (List Bool)} (h:(rs.map KM.rowS).Nodup):rs.Nodup:=by
 induction rs with
 | nil=>exact .nil
 | cons r rs ih =>
  rw [List.map_cons,List.nodup_cons] at h
  exact List.nodup_cons.mpr ⟨fun z=>h.1 (List.mem_map.mpr ⟨r,z,rfl⟩),ih h.2⟩
set_option maxHeartbeats 1000000 in
theorem Zwf (hcm:X.calm=true) (hgl:Gl X "sorted") (hml:X.mg "sorted"=none) (hgs:Gl X "set") (hms:X.mg "set"=none) (he1:PE X e1 te1) (he2:PE X e2 te2)
  (hs0:starEach [.BinOp (.Call (.Name "set" p2) [e1] [] q2) .BitOr (.Call (.Name "set" p3) [e2] [] q3) q] X.env=[(false,eval (.BinOp (.Call (.Name "set" p2) [e1] [] q2) .BitOr (.Call (.Name "set" p3) [e2] [] q3) q) X.env)]:=by rfl)
  (hs1:starEach [e1] X.env=[(false,eval e1 X.env)]:=by rfl) (hs2:starEach [e2] X.env=[(false,eval e2 X.env)]:=by rfl) :
  PE X (.Call (.Name "sorted" p) [.BinOp (.Call (.Name "set" p2) [e1] [] q2) .BitOr (.Call (.Name "set" p3) [e2] [] q3) q] [] pos) (tSortU X.K te1 te2):=by
 intro pins s σ H Q I h
 refine wpAny_Call_Name_kw (Qv I hgl hml Zcc ?_ (by decide) (by decide))
 refine PyProof.Rows.callWith_builtin1 ?_ (hs0.trans rfl) rfl
 rw [hs0]
 show wpAny _ _ (spliced ((false,eval (.BinOp (.Call (.Name "set" p2) [e1] [] q2) .BitOr (.Call (.Name "set" p3) [e2] [] q3) q) X.env)::[])) _ _ s
 refine Calls.spliced_cons (wpAny_BinOp ?_)
 have bs:bootBuiltins "set"=some (.type "set"):=by decide +kernel
 refine wpAny_Call_Name_kw (Qv I hgs hms bs ?_ (by decide) (by decide))
 refine PyProof.Rows.callWith_type1 ?_ (hs1.trans rfl) rfl
 rw [hs1]
 show wpAny _ _ (spliced ((false,eval e1 X.env)::[])) _ _ s
 refine Calls.spliced_cons (thn (he1 pins s σ H _ I h) fun u s1 ⟨x,H1,I1,r1,a,rs,ex,hq1,hb1,q1⟩=>Calls.spliced_nil ?_)
 subst ex
 obtain rfl:u=Value.ref a:=r1
 refine Zvh hcm I1 hq1 hb1 fun h1 tk1 hT1 hk1 J1=>?_
 obtain ⟨es,ep,t,ho1,hi1⟩:=hT1
 have hS1:=I1.hok.fresh (Nat.le_refl s1.heap.objs.size)
 have J2:Inv X ((s1.heap.objs.size,setO es ep t)::pins) σ H1 {s1 with heap:=h1,toks:=tk1}:=J1.pins_of fun pp hp=>by
  rcases List.mem_cons.mp hp with rfl | hp
  ·exact ⟨ho1,hS1,(Nat.ne_of_lt I1.lt).symm,I1.nofs (Nat.le_refl _),fun v z=>nomatch z⟩
  ·exact J1.pin pp (List.mem_append_right _ hp)
 refine wpAny_Call_Name_kw (Qv J2 hgs hms bs ?_ (by decide) (by decide))
 refine PyProof.Rows.callWith_type1 ?_ (hs2.trans rfl) rfl
 rw [hs2]
 show wpAny _ _ (spliced ((false,eval e2 X.env)::[])) _ _ _
 refine Calls.spliced_cons (thn (he2 _ _ σ H1 _ J2 q1) fun u2 s2 ⟨y,H2,I2,r2,b,rs2,U,ey,hq2,hb2,hU,hin,q2⟩=>Calls.spliced_nil ?_)
 subst ey
 obtain rfl:u2=Value.ref b:=r2
 obtain ⟨ho2,_,_,_,_⟩:=I2.pin _ (List.mem_append_right _ (List.mem_cons_self ..))
 refine Zvh hcm I2 hq2 hb2 fun h2 tk2 hT2 hk2 K1=>?_
 have hlt2:s1.heap.objs.size<s2.heap.objs.size:=Heap.lt_size ho2
 have hA:SetT X.w h2 s1.heap.objs.size ((rs.map KM.rowS).foldl addK []):=⟨es,ep,t,hk2 _ _ hlt2 ho2,hi1⟩
 have n1:=Zvd (rs:=rs)
 have n2:=Zvd (rs:=rs2)
 have hsb:(scanBound:Nat)=4096:=rfl
 refine or_T (s:={s2 with heap:=h2,toks:=tk2}) (Nat.ne_of_lt hlt2) hA hT2 (by omega) fun h3 u3 k3 hu3 hT3=>?_
 have K2:Inv X pins σ H2 {s2 with heap:=h3,toks:=tk2}:=(K1.kept (h':=h3) (t':=tk2) k3).pins_of fun pp hp=>(K1.kept (h':=h3) (t':=tk2) k3).pin pp (List.mem_append_right _ (List.mem_cons_of_mem _ hp))
 obtain ⟨hnd,hmem⟩:=Xhc hu3 Zid.1 Zid.1
 have hmem2:∀ x,x∈u3↔∃ r,(r∈rs∨r∈rs2)∧KM.rowS r=x:=fun x=>by
  rw [hmem,Zid.2,Zid.2]
  exact ⟨fun z=>z.elim (fun ⟨r,h1,h2⟩=>⟨r,.inl h1,h2⟩) (fun ⟨r,h1,h2⟩=>⟨r,.inr h1,h2⟩),fun ⟨r,h1,h2⟩=>h1.elim (fun z => .inl ⟨r,z,h2⟩) fun z => .inr ⟨r,z,h2⟩⟩
 have hlen3:u3.length≤1000:=by
  have z:=List.Nodup.length_le_of_subset hnd (l₂:=U.map KM.rowS) fun x hx=>by
   obtain ⟨r,hr,rfl⟩:=(hmem2 x).mp hx
   exact List.mem_map.mpr ⟨r,hin r hr,rfl⟩
  rw [List.length_map] at z
  omega
 refine Calls.spliced_nil (Xna (s:={s2 with heap:=h3,toks:=tk2}) (K2.ok.hd hcm) hT3 hlen3 fun h4 d4 tk4 pp out ss' e4 k4 hp4 ho4 hS4 hP4 hs4=>?_)
 obtain ⟨ss,rfl⟩:=Zpc ss' fun x hx=>by
  obtain ⟨r,_,e⟩:=(hmem2 x).mp (hP4.mem_iff.mp hx)
  exact ⟨r,e⟩
 have hA4:KM.Asc ss:=KM.Qz hs4 (Xcf (hP4.nodup_iff.mpr hnd))
 have hm4:∀ r,r∈ss↔r∈rs∨r∈rs2:=fun r=>by
  have z:=(hP4.mem_iff (a:=KM.rowS r)).trans (hmem2 (KM.rowS r))
  constructor
  ·intro y
   obtain ⟨r',h1,h2⟩:=z.mp (List.mem_map.mpr ⟨r,y,rfl⟩)
   rw [← KM.Qh h2];exact h1
  ·intro y
   obtain ⟨r',h1,h2⟩:=List.mem_map.mp (z.mpr ⟨r,y,rfl⟩)
   rw [← KM.Qh h2];exact h1
 have hpn:=K2.hok.fresh (a:=pp) hp4
 have hl4:=hP4.length_eq
 rw [List.length_map] at hl4
 refine ⟨.ref pp,_,?_,rfl,q2 ss hA4 hm4 pp hpn⟩
 exact Inv.turnedNew (s:={s2 with heap:=h3,drawn:=d4,toks:=tk2}) (K2.draw d4) (ch:=[]) (t':=tk4) (fun b o _ eb=>k4 b o eb) (fun b hb=>nomatch hb) hp4 ⟨by rw [KM.Zz];exact Nat.le_trans (show ss.length≤1000 by omega) (by decide),out.toList,e4,Zfc hS4,by rw [ho4]⟩
end
end L2
end
section
namespace KM
open PySem L2
theorem Xvh {n:Nat} (h:1≤n) (hn:n+1<2 ^ 255):4≤(cnt n).length:=by
 rw [Zig]
 have h1:2≤blen (n+1):=by have:=Zcd (m:=2) (n:=n+1) (by omega);exact this
 have h2:2≤blen (blen (n+1)):=by have:=Zcd (m:=2) (n:=blen (n+1)) h1;exact this
 by_cases h8:blen (blen (n+1))=8
 ·omega
 ·have:(cend (blen (blen (n+1)))).length=1:=by unfold cend;rw [if_neg h8];rfl
  omega
theorem Zxi (la:List Bool) (s:Nat):¬Lt la (la.take s):=fun z=>by
 have e:Lt (la.take s++la.drop s) (la.take s++[]):=by rw [List.take_append_drop,List.append_nil];exact z
 have:=(Xdb (la.take s) (la.drop s) []).mp e
 exact Xyj _ this
theorem Xla {l la r:List Bool} {i j:Nat} (hi:i≤l.length) (h:entR l la false i=some (r,j)):i+6≤j∧j≤l.length∧r.length+i≤la.length+j∧Lt la r:=by
 obtain ⟨_,b,c⟩:=Zga h
 unfold entR at h
 obtain ⟨x1,x2,x3,_⟩:=Zci h
 have e1:=Zaj (cnv l i)
 have e2:=Zaj (cnv l (i+(cnt (cnv l i)).length))
 unfold entAt at h
 split at h
 ·rename_i z
  cases h
  have hlt:=z.2.2.2.resolve_left (by decide)
  have hm:1≤cnv l (i+(cnt (cnv l i)).length):=by
   rcases Nat.lt_or_ge 0 (cnv l (i+(cnt (cnv l i)).length)) with y | y
   ·exact y
   ·rw [show cnv l (i+(cnt (cnv l i)).length)=0 by omega,List.take_zero,List.append_nil] at hlt
    exact absurd hlt (Zxi _ _)
  have h4:=Xvh hm (Wu (by omega)).1
  exact ⟨by omega,b,c,hlt⟩
 ·cases h
theorem Xab:∀ {rs:List (List Bool)} {r:List Bool},Asc rs→(rs=[]∨Lt (rs.getLastD []) r)→Asc (rs++[r])
 | [],r,_,_=>trivial
 | [a],r,_,h=>⟨h.resolve_left (by simp),trivial⟩
 | a::b::rs,r,hA,h=>⟨hA.1,Xab (rs:=b::rs) hA.2 (.inr (by simpa using h.resolve_left (by simp)))⟩
theorem Zfi {l:List Bool} {out:List (List Bool)}:∀ (k:Nat) (rs:List (List Bool)) (i:Nat),goR l k rs i=some out→Asc rs→6*rs.length≤i+6→(∀ x∈rs,x.length≤i)→i≤l.length→Asc out∧6*out.length≤l.length+6∧∀ x∈out,x.length≤l.length
 | 0,rs,i,h,h1,h2,h3,h4=>by
  unfold goR at h
  split at h
  ·cases h;exact ⟨h1,by omega,fun x hx=>Nat.le_trans (h3 x hx) h4⟩
  ·cases h
 | k+1,rs,i,h,h1,h2,h3,h4=>by
  unfold goR at h
  cases he:entR l (rs.getLastD []) rs.isEmpty i with
  | none=>rw [he] at h;cases h
  | some rj =>
   obtain ⟨r,j⟩:=rj
   rw [he] at h
   have hla:(rs.getLastD []).length≤i:=by
    cases rs with
    | nil=>exact Nat.zero_le _
    | cons a r'=>exact h3 _ (by rw [List.getLastD_cons];exact List.getLastD_mem_cons ..)
   have hx:∀ x∈rs++[r],r.length≤j→i≤j→x.length≤j:=fun x hx y1 y2=>by
    rcases List.mem_append.mp hx with z | z
    ·exact Nat.le_trans (h3 x z) y2
    ·rw [List.mem_singleton.mp z];exact y1
   cases hem:rs.isEmpty with
   | true =>
    obtain rfl:rs=[]:=List.isEmpty_iff.mp hem
    obtain ⟨a,b,c⟩:=Zga he
    exact Zfi k ([]++[r]) j h trivial (by simp) (fun x y=>hx x y (by omega) (by omega)) b
   | false =>
    rw [hem] at he
    obtain ⟨a,b,c,d⟩:=Xla h4 he
    exact Zfi k (rs++[r]) j h (Xab h1 (.inr d)) (by rw [List.length_append,List.length_singleton];omega) (fun x y=>hx x y (by omega) (by omega)) b
theorem Zvj {l:List Bool} {rs:List (List Bool)} (h:rowsR l=some rs):Asc rs∧6*rs.length≤l.length+6∧∀ x∈rs,x.length≤l.length:=by
 unfold rowsR at h
 split at h
 ·rename_i c
  exact Zfi _ _ _ h trivial (by simp) (fun x hx=>nomatch hx) c
 ·cases h
theorem Xib {x:List Bool} (h:x.length≤100000):rowsR (page [x])=some [x]:=by
 have hx:x.length+1<2 ^ 255:=Nat.lt_of_le_of_lt (Nat.succ_le_succ h) (by decide +kernel)
 obtain ⟨l,hl⟩:∃ l,l=page [x]:=⟨_,rfl⟩
 have e:l=cnt 1++(cnt 0++(cnt x.length++x)):=by
  rw [hl]
  show cnt 1++(ent [] x++[])=_
  unfold ent
  rw [Ztj,List.append_nil,Nat.sub_zero,List.drop_zero,List.append_assoc]
 have hlen:=congrArg List.length e
 simp only [List.length_append] at hlen
 have c0:cnv l 0=1:=Zlj (by omega) (by decide +kernel) (Zie (Nat.zero_le _) (by rw [e];exact ⟨_,rfl⟩))
 have d1:l.drop (cnt 1).length=cnt 0++(cnt x.length++x):=by rw [e,List.drop_left]
 have c1:cnv l (cnt 1).length=0:=Zlj (by omega) (by decide +kernel) (Zie (by omega) (by rw [d1];exact ⟨_,rfl⟩))
 have d2:l.drop ((cnt 1).length+(cnt 0).length)=cnt x.length++x:=by rw [← List.drop_drop,d1,List.drop_left]
 have c2:cnv l ((cnt 1).length+(cnt 0).length)=x.length:=Zlj (by omega) hx (Zie (by omega) (by rw [d2];exact ⟨_,rfl⟩))
 have d3:l.drop ((cnt 1).length+(cnt 0).length+(cnt x.length).length)=x:=by rw [← List.drop_drop,d2,List.drop_left]
 rw [← hl]
 unfold rowsR
 rw [c0,if_pos (by omega)]
 show goR l (0+1) [] (cnt 1).length=_
 unfold goR
 have he:entR l [] true (cnt 1).length=some (x,l.length):=by
  unfold entR
  rw [c1,c2]
  unfold entAt
  rw [d3,List.take_length,if_pos ⟨by omega,Nat.le_refl _,by rw [List.take_nil,List.nil_append];exact Ztj _,.inl rfl⟩]
  rw [List.take_nil,List.nil_append]
  congr 2
  omega
 show (match entR l [] true (cnt 1).length with | none=>none | some (r,j)=>goR l 0 ([]++[r]) j)=_
 rw [he]
 show goR l 0 [x] l.length=_
 unfold goR
 rw [if_pos rfl]
theorem Zze {a r:List Bool} (hr:r.length≤6000):(ent a r).length≤6072:=by
 unfold ent
 have hc:=(Zcj (a:=a) (b:=r)).2
 have l1:=Zca (n:=com a r) (by have:(10000:Nat)<2 ^ 20:=(by decide);omega)
 have l2:=Zca (n:=r.length - com a r) (by have:(10000:Nat)<2 ^ 20:=(by decide);omega)
 rw [List.length_append,List.length_append,List.length_drop]
 omega
theorem Zbi:∀ {rs:List (List Bool)},(∀ r∈rs,r.length≤6000)→∀ a,(ents a rs).length≤6072*rs.length
 | [],_,a=>Nat.zero_le _
 | r::rs,h,a=>by
  have h1:=Zbi (rs:=rs) (fun x hx=>h x (List.mem_cons_of_mem _ hx)) r
  have h2:=Zze (a:=a) (h r (List.mem_cons_self ..))
  rw [ents,List.length_append,List.length_cons]
  omega
theorem Zlg {rs:List (List Bool)} (h:∀ r∈rs,r.length≤6000) (i:Nat) (hn:rs.length≤1000):(cnt rs.length++ents [] (rs.take i)).length≤7000000:=by
 have h1:=Zca (n:=rs.length) (by have:(10000:Nat)<2 ^ 20:=(by decide);omega)
 have h2:=Zbi (rs:=rs.take i) (fun r hr=>h r (List.mem_of_mem_take hr)) []
 rw [List.length_take] at h2
 rw [List.length_append]
 omega
theorem small7 {n:Nat} (h:n≤16000000):n≤sizeLine:=Nat.le_trans h (by decide)
end KM
end
section
namespace L2
open PySem PySem.W PySem.Spec PyProof.Rows
structure Exn (H H':Hp):Prop where
 s:Same H H'
 c:Closed H→Closed H'
theorem Exn.refl (H:Hp):Exn H H:=⟨Same.refl _,id⟩
theorem Exn.trans {A B C:Hp} (a:Exn A B) (b:Exn B C):Exn A C:=⟨a.s.trans b.s,fun z=>b.c (a.c z)⟩
theorem Exn.lst {H:Hp} {p:Addr} {xs:List V} (h:H p=none):Exn H (upd H p (.lst xs)):=⟨Zh h,fun c=>Jz c h trivial⟩
theorem Exn.tup {H:Hp} {p:Addr} {xs:List V} (h:H p=none):Exn H (upd H p (.tup xs)):=⟨Zh h,fun c=>Jz c h trivial⟩
theorem Exn.exc {H:Hp} {p C:Addr} {d:Option Addr} (h:H p=none):Exn H (upd H p (ExcO p C d)):=⟨Zh h,fun c=>Jz c h trivial⟩
theorem Exn.sub {H H':Hp} (e:Exn H H'):Sub H H' H' := .all (fun b o h=>⟨o,e.s b o h⟩) e.c
inductive WArg (H:Hp):V→PyData→Prop
 | non:WArg H .non .none
 | row (l:List Bool):WArg H (.str (KM.rowS l)) (.str (KM.rowS l))
 | pair (t:Addr) (n:Int) (b:Bool) (h:H t=some (.tup [.int n,.bl b])):WArg H (.ref t) (.tuple [.int n,.bool b])
theorem WArg.same {H H':Hp} {v:V} {d:PyData} (hs:Same H H') (h:WArg H v d):WArg H' v d:=by
 cases h with
 | non=>exact .non
 | row l=>exact .row l
 | pair t n b h=>exact .pair t n b (hs _ _ h)
section
variable {X:Cx}
theorem WArg.reads {pins:List (Addr×Obj)} {σ:St} {H:Hp} {s:Shared} {v:V} {d:PyData} {u:Value} (I:Inv X pins σ H s) (h:WArg H v d) (r:RelV v u):∃ as,Reads s.heap u d as:=by
 cases h with
 | non=>cases r;exact ⟨_,.none⟩
 | row l=>obtain ⟨t,rfl⟩:=r;exact ⟨_,.str _ _⟩
 | pair t n b h =>
  cases r
  obtain ⟨its,r,pl,_⟩:=I.tuple (SqT.of h)
  obtain ⟨u1,u2,rfl,⟨t',rfl⟩,rb⟩:=vals2 r
  cases rb
  exact ⟨_,reads_newDataT pl (.cons (.int _ _) (.cons (.bool _) .nil))⟩
theorem WArg.facts {H:Hp} {v:V} {d:PyData} {w:Str} (hw:PyData.strOk w=true) (h:WArg H v d) :
  SeqAt.shaped (.tuple [.str w,d])=true∧SeqAt.noMix (.tuple [.str w,d]) (.tuple [.str w,d])=true∧PySem.Spec.same (.tuple [.str w,d]) (.tuple [.str w,d])=true:=by
 cases h with
 | non=>exact ⟨by simp [SeqAt.shaped,PyData.canLay0,PyData.canLayAll0,PyData.depth,PyData.depthAll,hw],rfl,by simp [PySem.Spec.same,PySem.Spec.sameAll]⟩
 | row l=>exact ⟨by simp [SeqAt.shaped,PyData.canLay0,PyData.canLayAll0,PyData.depth,PyData.depthAll,hw,Xni],rfl,by simp [PySem.Spec.same,PySem.Spec.sameAll]⟩
 | pair t n b h=>exact ⟨by simp [SeqAt.shaped,PyData.canLay0,PyData.canLayAll0,PyData.depth,PyData.depthAll,hw],rfl,by simp [PySem.Spec.same,PySem.Spec.sameAll]⟩
noncomputable def rNeWA:R2:=fun x y H Q=>∃ (l b:Addr) (w:Str) (v1 v2:V) (d:PyData),x = .ref l∧y = .ref b∧PyData.strOk w=true∧WArg H v1 d∧WArg H v2 d∧H l=some (.tup [.str w,v1])∧H b=some (.tup [.str w,v2])∧Q (.bl false) H
theorem Xuf (hu:X.A.units+64<cLine):OpR X (compareOp .NotEq) rNeWA:=by
 intro pins s σ H x y v u Q I rx ry h
 obtain ⟨l,b,w,v1,v2,d,rfl,rfl,hw,n1,n2,h1,h2,q⟩:=h
 cases rx
 cases ry
 have rd:∀ {l:Addr} {v:V},WArg H v d→H l=some (.tup [.str w,v])→∃ as,Reads s.heap (.ref l) (.tuple [.str w,d]) as:=fun {l v} n e=>by
  obtain ⟨its,r,⟨o,ho,hc,k,hd⟩,_⟩:=I.tuple (SqT.of e)
  obtain ⟨u1,u2,rfl,⟨t,rfl⟩,rb⟩:=vals2 r
  obtain ⟨as,ra⟩:=n.reads I rb
  exact ⟨_,.tuple ho hc hd (.cons (.str _ _) (.cons ra .nil))⟩
 obtain ⟨as,R1⟩:=rd n1 h1
 obtain ⟨bs,R2⟩:=rd n2 h2
 obtain ⟨f1,f2,f3⟩:=n1.facts hw
 refine ne_dataH_same R1 R2 f1 f1 hu f2 ?_
 rw [f3]
 exact ⟨.bl _,H,I,rfl,q⟩
noncomputable def oNeWA (hu:X.A.units+64<cLine):=OpR.or (oNeLS (X:=X) hu) (Xuf hu)
end
end L2
end
namespace KR
open PySem L2 KM
noncomputable def top (i:Nat):Stmt:=PySem.Challenge.pw_keyrise_k67_bad_pages_everywhere.main.body.getD i (.Pass ⟨0,0,0,0⟩)
noncomputable abbrev Wd:Stmt:=top 55
noncomputable abbrev Ww:Stmt:=top 56
noncomputable abbrev Zdh:Stmt:=top 57
noncomputable abbrev Xr:Stmt:=top 18
noncomputable abbrev Yz:Stmt:=inClass (top 14) 0
noncomputable abbrev Yq:Stmt:=inClass (top 14) 1
noncomputable abbrev Wh:Stmt:=top 19
noncomputable abbrev Yw:Stmt:=top 20
noncomputable abbrev Zx:Stmt:=top 21
noncomputable abbrev Ya:Stmt:=top 22
noncomputable abbrev Xz:Stmt:=top 23
noncomputable abbrev Ys:Stmt:=top 42
noncomputable abbrev Xs:Stmt:=top 43
noncomputable abbrev Yc:Stmt:=top 41
noncomputable abbrev Yl:Stmt:=top 45
noncomputable abbrev Yu:Stmt:=top 46
noncomputable abbrev Yv:Stmt:=top 49
noncomputable abbrev Xu:Stmt:=top 25
noncomputable abbrev Xq:Stmt:=top 27
noncomputable abbrev Ym:Stmt:=top 47
noncomputable abbrev Wi:Stmt:=top 30
noncomputable abbrev Jg:Stmt:=top 29
noncomputable abbrev Wv:Stmt:=top 31
noncomputable abbrev Wo:Stmt:=inClass (top 4) 0
noncomputable abbrev Wf:Stmt:=top 48
noncomputable abbrev We:Stmt:=top 44
noncomputable abbrev Yj:Stmt:=top 32
noncomputable abbrev Xy:Stmt:=top 33
noncomputable abbrev Yh:Stmt:=top 34
noncomputable abbrev Wn:Stmt:=top 35
noncomputable abbrev Xt:Stmt:=top 53
noncomputable abbrev Yk:Stmt:=top 54
noncomputable abbrev Yb:Stmt:=top 51
noncomputable abbrev Yt:Stmt:=top 50
noncomputable abbrev Wg:Stmt:=top 52
noncomputable abbrev Yx:Stmt:=top 36
noncomputable abbrev Yi:Stmt:=top 37
noncomputable abbrev Xm:Stmt:=top 38
noncomputable abbrev Wz:Stmt:=top 39
theorem sc_law_told:FnScope ["_law_word","_law_page_here","_law_row","_law_good","_law_found","_law_error","e"] ["_law_word","_law_page_here","_law_row","_law_good"] (defScope Wd):=⟨rfl,rfl,rfl,by decide +kernel,rfl,by decide +kernel,by decide +kernel⟩
theorem sc_law_due:FnScope ["_law_word","_law_rows_here","_law_row"] ["_law_word","_law_rows_here","_law_row"] (defScope Ww):=⟨rfl,rfl,rfl,by decide +kernel,rfl,by decide +kernel,by decide +kernel⟩
theorem sc_law:FnScope ["_law_script","_law_page_here","_law_rows_here","_law_number","_law_row","_law_word","_law_asked","_law_there","_law_due_here","_law_skip"] ["_law_script"] (defScope Zdh):=⟨rfl,rfl,rfl,by decide +kernel,rfl,by decide +kernel,by decide +kernel⟩
theorem Zha:FnScope ["n","width"] ["n","width"] (defScope Xr):=⟨rfl,rfl,rfl,by decide +kernel,rfl,by decide +kernel,by decide +kernel⟩
theorem Zji:FnScope ["self","signs","at"] ["self","signs","at"] (defScope Yz):=⟨rfl,rfl,rfl,by decide +kernel,rfl,by decide +kernel,by decide +kernel⟩
theorem sc_Source_draw:FnScope ["self","wished","sign"] ["self"] (defScope Yq):=⟨rfl,rfl,rfl,by decide +kernel,rfl,by decide +kernel,by decide +kernel⟩
theorem Zvi:FnScope ["n"] ["n"] (defScope Wh):=⟨rfl,rfl,rfl,by decide +kernel,rfl,by decide +kernel,by decide +kernel⟩
theorem sc_count_row:FnScope ["n","m","digits","ahead","end"] ["n"] (defScope Yw):=⟨rfl,rfl,rfl,by decide +kernel,rfl,by decide +kernel,by decide +kernel⟩
theorem sc_draw_lower_digits:FnScope ["source","width","n","k"] ["source","width"] (defScope Zx):=⟨rfl,rfl,rfl,by decide +kernel,rfl,by decide +kernel,by decide +kernel⟩
theorem sc_draw_count:FnScope ["source","ahead","digits"] ["source"] (defScope Ya):=⟨rfl,rfl,rfl,by decide +kernel,rfl,by decide +kernel,by decide +kernel⟩
theorem sc_read_count:FnScope ["signs","at","source","n"] ["signs","at"] (defScope Xz):=⟨rfl,rfl,rfl,by decide +kernel,rfl,by decide +kernel,by decide +kernel⟩
theorem sc_law_mixed:FnScope ["_law_cell","_law_k","_law_number"] ["_law_cell","_law_k"] (defScope Ys):=⟨rfl,rfl,rfl,by decide +kernel,rfl,by decide +kernel,by decide +kernel⟩
theorem sc_law_free_row:FnScope ["_law_rest","_law_most","_law_row","_law_size","_law_j"] ["_law_rest","_law_most"] (defScope Xs):=⟨rfl,rfl,rfl,by decide +kernel,rfl,by decide +kernel,by decide +kernel⟩
theorem Zjh:FnScope ["_law_script","_law_k"] ["_law_script","_law_k"] (defScope Yc):=⟨rfl,rfl,rfl,by decide +kernel,rfl,by decide +kernel,by decide +kernel⟩
theorem sc_law_digits:FnScope ["_law_number","_law_found"] ["_law_number"] (defScope Yl):=⟨rfl,rfl,rfl,by decide +kernel,rfl,by decide +kernel,by decide +kernel⟩
theorem sc_law_count:FnScope ["_law_n","_law_more","_law_size","_law_head"] ["_law_n"] (defScope Yu):=⟨rfl,rfl,rfl,by decide +kernel,rfl,by decide +kernel,by decide +kernel⟩
theorem sc_law_alone:FnScope ["_law_error","_law_told_here"] ["_law_error"] (defScope Yv):=⟨rfl,rfl,rfl,by decide +kernel,rfl,by decide +kernel,by decide +kernel⟩
theorem sc_first_unlike:FnScope ["one","other","place"] ["one","other"] (defScope Xu):=⟨rfl,rfl,rfl,by decide +kernel,rfl,by decide +kernel,by decide +kernel⟩
theorem Zgj:FnScope ["one","other"] ["one","other"] (defScope Xq):=⟨rfl,rfl,rfl,by decide +kernel,rfl,by decide +kernel,by decide +kernel⟩
theorem sc_law_common:FnScope ["_law_one","_law_other","_law_many"] ["_law_one","_law_other"] (defScope Ym):=⟨rfl,rfl,rfl,by decide +kernel,rfl,by decide +kernel,by decide +kernel⟩
theorem sc_entry_of:FnScope ["ahead","row","shared"] ["ahead","row"] (defScope Wi):=⟨rfl,rfl,rfl,by decide +kernel,rfl,by decide +kernel,by decide +kernel⟩
theorem Xia:FnScope ["rows"] ["rows"] (defScope Jg):=⟨rfl,rfl,rfl,by decide +kernel,rfl,by decide +kernel,by decide +kernel⟩
theorem sc_page_of:FnScope ["rows","entries"] ["rows"] (defScope Wv):=⟨rfl,rfl,rfl,by decide +kernel,rfl,by decide +kernel,by decide +kernel⟩
theorem Zna:FnScope ["self","place"] ["self","place"] (defScope Wo):=⟨rfl,rfl,rfl,by decide +kernel,rfl,by decide +kernel,by decide +kernel⟩
theorem sc_law_page:FnScope ["_law_rows_here","_law_told_here","_law_last","_law_row","_law_many"] ["_law_rows_here"] (defScope Wf):=⟨rfl,rfl,rfl,by decide +kernel,rfl,by decide +kernel,by decide +kernel⟩
theorem sc_law_rows:FnScope ["_law_script","_law_most","_law_free","_law_base","_law_rows_here","_law_k","_law_number","_law_row","_law_j","_law_at"] ["_law_script","_law_most"] (defScope We):=⟨rfl,rfl,rfl,by decide +kernel,rfl,by decide +kernel,by decide +kernel⟩
theorem sc_may_follow:FnScope ["rows","shared","rest","last","left"] ["rows","shared","rest"] (defScope Yj):=⟨rfl,rfl,rfl,by decide +kernel,rfl,by decide +kernel,by decide +kernel⟩
theorem sc_read_entry:FnScope ["page","at","rows","shared","others","end","rest","begun"] ["page","at","rows"] (defScope Xy):=⟨rfl,rfl,rfl,by decide +kernel,rfl,by decide +kernel,by decide +kernel⟩
theorem sc_read_rows:FnScope ["page","number","rows","place","entry"] ["page"] (defScope Yh):=⟨rfl,rfl,rfl,by decide +kernel,rfl,by decide +kernel,by decide +kernel⟩
theorem Zjf:FnScope ["page"] ["page"] (defScope Wn):=⟨rfl,rfl,rfl,by decide +kernel,rfl,by decide +kernel,by decide +kernel⟩
theorem sc_law_count_at:FnScope ["_law_page_here","_law_at","_law_ones","_law_size","_law_k","_law_number"] ["_law_page_here","_law_at"] (defScope Xt):=⟨rfl,rfl,rfl,by decide +kernel,rfl,by decide +kernel,by decide +kernel⟩
theorem sc_law_reader:FnScope ["_law_page_here","_law_many","_law_at","_law_rows_here","_law_last","_law_common_here","_law_more","_law_row"] ["_law_page_here"] (defScope Yk):=⟨rfl,rfl,rfl,by decide +kernel,rfl,by decide +kernel,by decide +kernel⟩
theorem Zjg:FnScope ["_law_way","_law_far","_law_page_here","_law_at"] ["_law_way","_law_far","_law_page_here","_law_at"] (defScope Yb):=⟨rfl,rfl,rfl,by decide +kernel,rfl,by decide +kernel,by decide +kernel⟩
theorem sc_law_loose:FnScope ["_law_rows_here","_law_number","_law_told_here","_law_last","_law_k","_law_many"] ["_law_rows_here","_law_number"] (defScope Yt):=⟨rfl,rfl,rfl,by decide +kernel,rfl,by decide +kernel,by decide +kernel⟩
theorem sc_law_bent:FnScope ["_law_script","_law_rows_here","_law_number","_law_far","_law_page_here","_law_at","_law_sign","_law_way","_law_next_sign"] ["_law_script","_law_rows_here"] (defScope Wg):=⟨rfl,rfl,rfl,by decide +kernel,rfl,by decide +kernel,by decide +kernel⟩
theorem sc_place_in:FnScope ["page","row","rows"] ["page","row"] (defScope Yx):=⟨rfl,rfl,rfl,by decide +kernel,rfl,by decide +kernel,by decide +kernel⟩
theorem sc_page_with:FnScope ["page","row","rows"] ["page","row"] (defScope Yi):=⟨rfl,rfl,rfl,by decide +kernel,rfl,by decide +kernel,by decide +kernel⟩
theorem sc_page_without:FnScope ["page","row","rows"] ["page","row"] (defScope Xm):=⟨rfl,rfl,rfl,by decide +kernel,rfl,by decide +kernel,by decide +kernel⟩
theorem Zpb:FnScope ["one","other"] ["one","other"] (defScope Wz):=⟨rfl,rfl,rfl,by decide +kernel,rfl,by decide +kernel,by decide +kernel⟩
structure NB (mg:Str→Option Value):Prop where
 len_:mg "len"=none
 range_:mg "range"=none
 int_:mg "int"=none
 isinstance_:mg "isinstance"=none
 min_:mg "min"=none
 max_:mg "max"=none
 all_:mg "all"=none
 zip_:mg "zip"=none
 set_:mg "set"=none
 sorted_:mg "sorted"=none
section
open PySem L2 KM
variable {P:Program} {w:World} {K:PySem.W.Frag} {mg:Str→Option Value} {base:Heap}
seal PE PT PW PA PS PSs PG PGs PI PTs PC PO
local macro_rules | `(tactic| walk_at "g1")=>`(tactic| first
 | with_reducible exact True.intro
 | refine ⟨_,rfl,?_⟩
 | refine ⟨_,_,rfl,rfl,?_⟩
 | refine Or.inl ⟨_,_,rfl,rfl,?_⟩
 | refine Or.inr ⟨_,_,rfl,rfl,?_⟩
 | refine ⟨rfl,?_⟩
 | refine ⟨(by first | omega | decide),?_⟩)
local macro_rules | `(tactic| walk_at "g")=>`(tactic| repeat walk_at "g1")
theorem iteD {p A B:Prop} [Decidable p] (h1:p→A) (h2:¬p→B):if decide p=true then A else B:=by
 by_cases h:p
 ·rw [if_pos (decide_eq_true h)];exact h1 h
 ·rw [if_neg (by simpa using h)];exact h2 h
theorem iteN {p A B:Prop} [Decidable p] (h:¬p) (h2:B):if decide p=true then A else B:=by rw [if_neg (by simpa using h)];exact h2
theorem iteY {p A B:Prop} [Decidable p] (h:p) (h2:A):if decide p=true then A else B:=by rw [if_pos (decide_eq_true h)];exact h2
theorem small5 {n:Nat} (h:n≤100000):n≤sizeLine:=Nat.le_trans h (by decide)
theorem Xpi (l:List Bool):((l.map fun b=>rowS [b]).map (·.length)).sum+(l.map fun b=>rowS [b]).length*(Str.ofString "").length=l.length:=by
 have e:(Str.ofString "").length=0:=by decide +kernel
 rw [e,Nat.mul_zero,Nat.add_zero]
 induction l with
 | nil=>rfl
 | cons b r ih=>simp only [List.map_cons,List.sum_cons,ih,Zb,List.length_cons,List.length_nil];omega
theorem Xpa {σ:St} (h:σ.length=1):∃ z,σ=[z]:=by
 match σ,h with
 | [z],_=>exact ⟨z,rfl⟩
noncomputable def spLowerDigits:Sp:=fun vs H Q _=>∃ n d:Nat,vs=[.int n,.int d]∧d≤100000∧Q (.str (rowS (bitsW n d))) H
theorem Zzj (n d:Nat):bitsW n d=(List.range d).map fun i=>n.testBit (d - 1 - i):=by
 induction d with
 | zero=>rfl
 | succ d ih =>
  rw [bitsW,ih,List.range_succ_eq_map,List.map_cons,List.map_map]
  congr 1
  apply List.map_congr_left
  intro i hi
  show n.testBit (d - 1 - i)=n.testBit (d+1 - 1 - (i+1))
  congr 1
  omega
theorem Xvj (n k:Nat):Builtin.bitAnd ((n:Int)/2 ^ k) 1=((n.testBit k).toNat:Int):=by
 rw [PyProof.Rows.bitAnd_m1]
 have e:((n:Int)/2 ^ k)%2=((n/2 ^ k%2:Nat):Int):=by
  rw [Int.natCast_emod,Int.natCast_ediv,Int.natCast_pow];rfl
 rw [e,Nat.testBit_eq_decide_div_mod_eq]
 have:n/2 ^ k%2<2:=Nat.mod_lt _ (by decide)
 by_cases q:n/2 ^ k%2=1
 ·simp [q]
 ·have:n/2 ^ k%2=0:=by omega
  simp [this]
theorem Zhe {f:Addr} {fd:FuncData} (nb:NB mg) (F:FunAt K mg "lower_digits" Xr ["n","width"] f fd):DefOk P w K mg base 1 "lower_digits" ["n","width"] spLowerDigits:=by
 refine F.ok Zha (fun vs H Q E h=>?_) (fun cdv A outer s H vs Q E hr h=>?_)
 ·obtain ⟨n,d,rfl,_⟩:=h;rfl
 obtain ⟨n,d,rfl,hl,q⟩:=h
 refine ⟨_,(Zg (Zr (Zgd PySem.F.plainAttrs_str PySem.F.slot_str_join PySem.F.type_str_join Zif Zu (Za (Jb ["k"] [(0,"n")] rfl (by decide +kernel) ⟨rfl,.inl rfl,trivial⟩ (Xih rfl nb.range_ (Za (Zj oSub (pv 1) Zf) (Za (Zpf Zfb Zf) (Za (Zpf Zfb Zf) Ze)))) (fun _ _ _ _ _=>(Xa (i:=0) (show (["k","n"]:List Str).Nodup by decide +kernel) rfl (by first | exact Or.inl rfl | exact Or.inr rfl))) (fun _ _ _ _ _=>Zec) (fun _ _ _ _ _=>(Qi (Zn oEq (Zj Xoj (Zj Xoi (pv 1) (pv 0)) Zf) Zf (nomark _)) Zu Zu))) Ze)))),?_⟩
 try dsimp only [cxK0,cxK1,cxK2,cxK3]
 refine ⟨rfl,_,rfl,_,_,rfl,rfl,_,rfl,_,rfl,_,_,rfl,⟨by omega,by omega,by decide,by decide⟩,fun D hD=>?_⟩
 have hn:(((d:Int) - 1) - (-1)).toNat=d:=by omega
 refine Xrd (((d:Int) - 1) - (-1)).toNat (fun i => .int ((d:Int) - 1+i*(-1))) (fun i => .str (rowS [n.testBit (d - 1 - i)])) (fun σ=>∃ z,σ=[z,some (.int n)]) (by rw [hn];exact small5 hl) ?_ ?_ ?_ ?_ ?_ ?_
 ·exact ⟨_,rfl⟩
 ·intro i H1 hi;exact hi
 ·intro H1;exact Nat.le_refl _
 ·rintro i H1 x H2 hi ⟨rfl,rfl⟩
  exact ⟨rfl,rfl⟩
 ·rintro i σ1 H1 hi ⟨z,rfl⟩ R hR
  rw [hn] at hi
  have ej:((d:Int) - 1+(i:Int)*(-1)).toNat=d - 1 - i:=by omega
  refine ⟨_,rfl,_,rfl,_,_,rfl,rfl,(by omega),_,_,rfl,rfl,rfl,_,rfl,?_⟩
  have hb:Builtin.bitAnd ((n:Int)/2 ^ ((d:Int) - 1+(i:Int)*(-1)).toNat) 1=((n.testBit (d - 1 - i)).toNat:Int):=by rw [ej];exact Xvj _ _
  revert hR
  rw [s0,s1]
  cases e:n.testBit (d - 1 - i)
  ·rw [e] at hb
   intro hR;exact iteN (fun c=>absurd (hb.symm.trans (V.int.inj c)) (by decide)) (hR _ ⟨_,rfl⟩)
  ·rw [e] at hb
   intro hR;exact iteY (congrArg V.int hb) (hR _ ⟨_,rfl⟩)
 ·refine ⟨_,D,(bitsW n d).map fun b=>rowS [b],rfl,rfl,SqL.of ?_,?_,H,.refl ?_,?_⟩
  ·rw [Zc,hn,Zzj,List.map_map,List.map_map];rfl
  ·rw [Xpi,Xd];omega
  ·exact Zh hD
  ·rw [Xkd];exact q
noncomputable def fldsW (z:Str) (i:Int) (t:Bool) (u:Int):List (Str×V):=[("signs",.str z),("place",.int i),("turned",.bl t),("endless",.bl false),("wished",.int u)]
noncomputable abbrev flds (z:Str) (i:Int) (t:Bool):List (Str×V):=fldsW z i t 0
structure SrcCls (K:PySem.W.Frag) (C:Addr):Prop where
 cl:Cls K C
 nS:NoAttr K C "signs"
 nP:NoAttr K C "place"
 nT:NoAttr K C "turned"
 nE:NoAttr K C "endless"
 nW:NoAttr K C "wished"
theorem f01:¬(("signs":Str)="place"):=by decide +kernel
theorem f02:¬(("signs":Str)="turned"):=by decide +kernel
theorem f03:¬(("signs":Str)="endless"):=by decide +kernel
theorem f04:¬(("signs":Str)="wished"):=by decide +kernel
theorem f12:¬(("place":Str)="turned"):=by decide +kernel
theorem f13:¬(("place":Str)="endless"):=by decide +kernel
theorem f14:¬(("place":Str)="wished"):=by decide +kernel
theorem f23:¬(("turned":Str)="endless"):=by decide +kernel
theorem f24:¬(("turned":Str)="wished"):=by decide +kernel
theorem f34:¬(("endless":Str)="wished"):=by decide +kernel
theorem g10:(("place":Str) == "signs")=false:=by decide +kernel
theorem g20:(("turned":Str) == "signs")=false:=by decide +kernel
theorem g21:(("turned":Str) == "place")=false:=by decide +kernel
theorem g30:(("endless":Str) == "signs")=false:=by decide +kernel
theorem g31:(("endless":Str) == "place")=false:=by decide +kernel
theorem g32:(("endless":Str) == "turned")=false:=by decide +kernel
theorem g40:(("wished":Str) == "signs")=false:=by decide +kernel
theorem g41:(("wished":Str) == "place")=false:=by decide +kernel
theorem g42:(("wished":Str) == "turned")=false:=by decide +kernel
theorem g43:(("wished":Str) == "endless")=false:=by decide +kernel
theorem Zbd (z:Str):putF "signs" (.str z) []=([("signs",.str z)]:List (Str×V)):=rfl
theorem Qp (z:Str) (i:Int):putF "place" (.int i) ([("signs",.str z)]:List (Str×V))=([("signs",.str z),("place",.int i)]:List (Str×V)):=by
 simp only [putF,f01,if_false]
theorem Zab (z:Str) (i:Int) (t:Bool):putF "turned" (.bl t) ([("signs",.str z),("place",.int i)]:List (Str×V))=([("signs",.str z),("place",.int i),("turned",.bl t)]:List (Str×V)):=by
 simp only [putF,f02,f12,if_false]
theorem Zeb (z:Str) (i:Int) (t e:Bool):putF "endless" (.bl e) ([("signs",.str z),("place",.int i),("turned",.bl t)]:List (Str×V))=([("signs",.str z),("place",.int i),("turned",.bl t),("endless",.bl e)]:List (Str×V)):=by
 simp only [putF,f03,f13,f23,if_false]
theorem Zwd (z:Str) (i:Int) (t:Bool) (u:Int):putF "wished" (.int u) ([("signs",.str z),("place",.int i),("turned",.bl t),("endless",.bl false)]:List (Str×V))=fldsW z i t u:=by
 simp only [putF,f04,f14,f24,f34,if_false];rfl
theorem Xie (z:Str) (i j:Int) (t:Bool) (u:Int):putF "place" (.int j) (fldsW z i t u)=fldsW z j t u:=by
 simp only [fldsW,putF,f01,if_false,if_true]
theorem Zkb (z:Str) (i:Int) (t:Bool) (u u2:Int):putF "wished" (.int u2) (fldsW z i t u)=fldsW z i t u2:=by
 simp only [fldsW,putF,f04,f14,f24,f34,if_false,if_true]
theorem Qu (z:Str) (i:Int) (t:Bool) {u:Int}:(fldsW z i t u).lookup ("signs":Str)=some (.str z):=by simp [fldsW]
theorem Jx (z:Str) (i:Int) (t:Bool) {u:Int}:(fldsW z i t u).lookup ("place":Str)=some (.int i):=by
 simp [fldsW,List.lookup,g10]
theorem Zyc (z:Str) (i:Int) (t:Bool) {u:Int}:(fldsW z i t u).lookup ("turned":Str)=some (.bl t):=by
 simp [fldsW,List.lookup,g20,g21]
theorem Zta (z:Str) (i:Int) (t:Bool) {u:Int}:(fldsW z i t u).lookup ("endless":Str)=some (.bl false):=by
 simp [fldsW,List.lookup,g30,g31,g32]
theorem Zgf (z:Str) (i:Int) (t:Bool) {u:Int}:(fldsW z i t u).lookup ("wished":Str)=some (.int u):=by
 simp [fldsW,List.lookup,g40,g41,g42,g43]
theorem Zbf (z:Str) (i:Int) (t:Bool) {u:Int} {m:Str} (h:(m == ("signs":Str))=false) (h2:(m == ("place":Str))=false) (h3:(m == ("turned":Str))=false)
  (h4:(m == ("endless":Str))=false:=by decide +kernel) (h5:(m == ("wished":Str))=false:=by decide +kernel):(fldsW z i t u).lookup m=none:=by
 simp [fldsW,List.lookup,h,h2,h3,h4,h5]
noncomputable def SrcAt (H:Hp) (p C dx:Addr) (l:List Bool) (i:Nat) (t:Bool):Prop:=∃ u:Int,H p=some (.ins C dx (fldsW (rowS l) ((i:Nat):Int) t u))
noncomputable def spSrcInit (C:Addr):Sp:=fun vs H Q _=>∃ p dx z i,vs=[.ref p,.str z,.int i]∧H p=some (.ins C dx [])∧Q .non (upd H p (.ins C dx (flds z i false)))
theorem Zxa {f C:Addr} {fd:FuncData} (T:SrcCls K C) (F:Fun K "__init__" "Source.__init__" Yz f fd):FnOk P w K mg base CX0 1 f fd ["self","signs","at"] (spSrcInit C):=by
 refine F.ok Zji (fun vs H Q E h=>?_) (fun cdv A outer s H vs Q E hr h=>?_)
 ·obtain ⟨p,dx,z,i,rfl,_⟩:=h;rfl
 obtain ⟨p,dx,z,i,rfl,hp,q⟩:=h
 refine ⟨_,(Zd (Qr (pv 0) (pv 1) rfl)
  (Zd (Qr (pv 0) (pv 2) rfl)
  (Zd (Qr (pv 0) Zph rfl)
  (Zd (Qr (pv 0) Zph rfl)
  (Zg (Qr (pv 0) Zf rfl)))))),?_⟩
 try dsimp only [cxK0,cxK1,cxK2,cxK3]
 refine ⟨_,rfl,_,rfl,p,C,dx,_,rfl,hp,T.cl,T.nS,(by show 0<1000;decide),?_⟩
 refine ⟨_,rfl,_,rfl,p,C,dx,_,rfl,Zc,T.cl,T.nP,(by show 1<1000;decide),?_⟩
 refine ⟨_,rfl,p,C,dx,_,rfl,Zc,T.cl,T.nT,(by rw [Zbd,Qp];show 2<1000;decide),?_⟩
 refine ⟨_,rfl,p,C,dx,_,rfl,Zc,T.cl,T.nE,(by rw [Zbd,Qp,Zab];show 3<1000;decide),?_⟩
 refine ⟨_,rfl,p,C,dx,_,rfl,Zc,T.cl,T.nW,(by rw [Zbd,Qp,Zab,Zeb];show 4<1000;decide),?_⟩
 rw [Xh,Xh,Xh,Xh,Zbd,Qp,Zab,Zeb,Zwd]
 exact q
noncomputable def spDraw (C:Addr):Sp:=fun vs H Q _=>∃ (p dx:Addr) (l:List Bool) (i:Nat) (t b:Bool),vs=[.ref p]∧SrcAt H p C dx l i t∧l.length≤100000∧l[i]?=some b∧Q (.int ((xor t b).toNat:Nat)) (upd H p (.ins C dx (flds (rowS l) ((i+1:Nat):Int) t)))
theorem Xug {f C:Addr} {fd:FuncData} (nb:NB mg) (T:SrcCls K C) (F:Fun K "draw" "Source.draw" Yq f fd):FnOk P w K mg base CX0 1 f fd ["self"] (spDraw C):=by
 refine F.ok sc_Source_draw (fun vs H Q E h=>?_) (fun cdv A outer s H vs Q E hr h=>?_)
 ·obtain ⟨p,dx,l,i,t,b,rfl,_⟩:=h;rfl
 obtain ⟨p,dx,l,i,t,b,rfl,⟨u,hp⟩,hl,hb,q⟩:=h
 have hi:i<l.length:=(List.getElem?_eq_some_iff.mp hb).1
 refine ⟨_,(Zd (Zi (i:=1) sc_Source_draw.nd rfl (by first | exact Or.inl rfl | exact Or.inr rfl) (Yy (pv 0) rfl))
  (Zd (Qr (pv 0) Zf rfl)
  (Zd (Xc (Zn oLt (Yy (pv 0) rfl) (Zo Zs rfl nb.len_ Zy (Za (Yy (pv 0) rfl) Ze)) (nomark _)) (Zd (Zi (i:=2) sc_Source_draw.nd rfl (by first | exact Or.inl rfl | exact Or.inr rfl) (Jp Jr rfl nb.int_ Zgb (Za (Xb iAll (Yy (pv 0) rfl) (Yy (pv 0) rfl) (fun _ _=>rfl)) Ze)))
   (Zd (Qr (pv 0) (Zj oAdd (Yy (pv 0) rfl) Zf) rfl)
   (Zg (Zr (Qi (Xv (Yy (pv 0) rfl) (fun _=>rfl)) (Zj oSub Zf (pv 2)) (pv 2)))))) Zt)
  (Zd (Xc (Qb (Xv (Yy (pv 0) rfl) (fun _=>rfl))) (Zg Js) Zt)
  (Zg (Zr (pv 1))))))),?_⟩
 try dsimp only [cxK0,cxK1,cxK2,cxK3]
 refine ⟨_,rfl,p,C,dx,_,_,rfl,hp,T.cl,T.nW,Zgf ..,?_⟩
 refine ⟨_,rfl,p,C,dx,_,rfl,hp,T.cl,T.nW,(by show 5<1000;decide),?_⟩
 rw [Zkb]
 refine ⟨_,rfl,p,C,dx,_,_,rfl,Zc,T.cl,T.nP,Jx ..,_,rfl,p,C,dx,_,_,rfl,Zc,T.cl,T.nS,Qu ..,_,_,rfl,⟨by rw [Zb];exact small5 hl,rfl⟩,.inl ⟨_,_,rfl,rfl,_,rfl,?_⟩⟩
 refine iteY (by rw [Zb];omega) ?_
 refine ⟨_,rfl,p,C,dx,_,_,rfl,Zc,T.cl,T.nS,Qu ..,_,rfl,p,C,dx,_,_,rfl,Zc,T.cl,T.nP,Jx ..,.inr ⟨_,_,bc b,rfl,rfl,by rw [Zb];exact small5 hl,Xe (Zaa hb),.inr ⟨_,_,rfl,Xnd b,(by show 1≤640;decide),?_⟩⟩⟩
 refine ⟨_,rfl,p,C,dx,_,_,rfl,Zc,T.cl,T.nP,Jx ..,.inl ⟨_,_,rfl,rfl,_,rfl,p,C,dx,_,rfl,Zc,T.cl,T.nP,(by show 5<1000;decide),?_⟩⟩
 rw [Xie,Xh]
 refine ⟨_,rfl,p,C,dx,_,_,rfl,Zc,T.cl,T.nT,Zyc ..,_,rfl,?_⟩
 cases t with
 | false =>
  refine iteF ⟨_,rfl,?_⟩
  have e:(false ^^ b)=b:=by cases b<;>rfl
  rw [e] at q
  exact q
 | true =>
  refine iteT ⟨_,rfl,_,_,rfl,rfl,?_⟩
  have e:((true ^^ b).toNat:Int)=1 - (b.toNat:Int):=by cases b<;>rfl
  rw [e] at q
  exact q
noncomputable abbrev srcO (C dx:Addr) (l:List Bool) (i:Nat) (t:Bool):HO := .ins C dx (flds (rowS l) ((i:Nat):Int) t)
noncomputable def spCountRow:Sp:=fun vs H Q _=>∃ n:Nat,vs=[.int n]∧n+1<2 ^ 255∧Q (.str (rowS (cnt n))) H
theorem Xrf {e:Nat}:e<8→0<(cend e).length:=by intro h;unfold cend;rw [if_neg (by omega)];decide
theorem Zba (e:Nat):(cend e).length≤1:=by unfold cend;split<;>simp
theorem Xri {n k:Nat} (h:2 ^ k≤n):k<blen n:=by
 rcases Nat.lt_or_ge k (blen n) with z | z
 ·exact z
 ·have:=Wq n
  have:=Nat.pow_le_pow_right (show 0<2 by decide) z
  omega
noncomputable def CountIn (n:Int):Prop:=0≤n∧n<2 ^ 255 - 1
noncomputable instance (n:Int):Decidable (CountIn n):=inferInstanceAs (Decidable (_∧_))
noncomputable def spIsCount:Sp:=fun vs H Q _=>∃ n:Int,vs=[.int n]∧Q (.bl (decide (CountIn n))) H
theorem countIn_blen {m:Nat}:CountIn (m:Int)↔blen (m+1)≤255:=by
 unfold CountIn
 constructor
 ·intro ⟨_,h⟩;exact Yf (by omega)
 ·intro h
  rcases Nat.lt_or_ge (m+1) (2 ^ 255) with z | z
  ·omega
  ·have:=Xri z;omega
theorem Zxg {f:Addr} {fd:FuncData} (g_MOST_DIGITS:GlobV mg "MOST_DIGITS" (.int 255)) (F:FunAt K mg "is_count" Wh ["n"] f fd):DefOk P w K mg base 1 "is_count" ["n"] spIsCount:=by
 refine F.ok Zvi (fun vs H Q E h=>?_) (fun cdv A outer s H vs Q E hr h=>?_)
 ·obtain ⟨n,rfl,_⟩:=h;rfl
 obtain ⟨n,rfl,q⟩:=h
 refine ⟨_,(Zg (Zr (Zfe (Xn oGe (pv 0) Zf (nomark _)) (Zcf (Xn oLe (Xbi PySem.F.plainAttrs_int PySem.F.slot_int_bit_length PySem.F.type_int_bit_length Zfg (Zj oAdd (pv 0) Zf)) (Ye g_MOST_DIGITS) (nomark _)))))),?_⟩
 try dsimp only [cxK0,cxK1,cxK2,cxK3]
 refine ⟨_,rfl,_,_,rfl,rfl,_,rfl,?_⟩
 refine iteD (fun c=>?_) (fun c=>?_)
 ·refine ⟨_,rfl,.inl ⟨_,_,rfl,rfl,rfl,_,rfl,rfl,_,_,rfl,rfl,H,.refl (Same.refl _),?_⟩⟩
  obtain ⟨m,rfl⟩:∃ m:Nat,n=m:=⟨n.toNat,by omega⟩
  rw [show ((m:Int)+1)=((m+1:Nat):Int) from rfl,Zub (m+1)]
  have e:decide (((blen (m+1):Nat):Int)≤255)=decide (CountIn (m:Int)):=by
   rw [decide_eq_decide,countIn_blen];omega
  dsimp only
  rw [e]
  exact q
 ·refine ⟨H,.refl (Same.refl _),?_⟩
  have e:decide (CountIn n)=false:=decide_eq_false fun z=>c z.1
  rw [← e];exact q
theorem Zsh {f:Addr} {fd:FuncData} (g_MOST_AHEAD:GlobV mg "MOST_AHEAD" (.int 7)) (F:FunAt K mg "count_row" Yw ["n"] f fd) (D_is_count:DefOk P w K mg base 1 "is_count" ["n"] spIsCount) (D_lower_digits:DefOk P w K mg base 1 "lower_digits" ["n","width"] spLowerDigits):DefOk P w K mg base 2 "count_row" ["n"] spCountRow:=by
 refine F.ok sc_count_row (fun vs H Q E h=>?_) (fun cdv A outer s H vs Q E hr h=>?_)
 ·obtain ⟨n,rfl,_⟩:=h;rfl
 obtain ⟨n,rfl,hn,q⟩:=h
 refine ⟨_,(Zd (Xc (Qb (Xv (Zk D_is_count hr (Za (pv 0) Ze)) (fun _=>rfl))) (Zg Js) Zt)
  (Zd (Zi (i:=1) sc_count_row.nd rfl (by first | exact Or.inl rfl | exact Or.inr rfl) (Zj oAdd (pv 0) Zf))
  (Zd (Zi (i:=2) sc_count_row.nd rfl (by first | exact Or.inl rfl | exact Or.inr rfl) (Xbi PySem.F.plainAttrs_int PySem.F.slot_int_bit_length PySem.F.type_int_bit_length Zfg (pv 1)))
  (Zd (Zi (i:=3) sc_count_row.nd rfl (by first | exact Or.inl rfl | exact Or.inr rfl) (Zj oSub (Xbi PySem.F.plainAttrs_int PySem.F.slot_int_bit_length PySem.F.type_int_bit_length Zfg (pv 2)) Zf))
  (Zd (Zi (i:=4) sc_count_row.nd rfl (by first | exact Or.inl rfl | exact Or.inr rfl) (Qi (Zn oEq (pv 3) (Ye g_MOST_AHEAD) (nomark _)) Zu Zu))
  (Zg (Zr (Zj oAdd (Zj oAdd (Zj oAdd (Zj oMul Zu (pv 3)) (pv 4)) (Zk D_lower_digits hr (Za (pv 2) (Za (pv 3) Ze)))) (Zk D_lower_digits hr (Za (pv 1) (Za (Zj oSub (pv 2) Zf) Ze))))))))))),?_⟩
 try dsimp only [cxK0,cxK1,cxK2,cxK3]
 have hd:blen (n+1)≤255:=Yf hn
 have hp:0<blen (n+1):=Xx (by omega)
 have he:blen (blen (n+1))≤8:=Yf (by omega)
 have hq:0<blen (blen (n+1)):=Xx (by omega)
 have b1:=Zub (n+1)
 have b2:=Zub (blen (n+1))
 refine ⟨_,rfl,_,rfl,_,rfl,?_⟩
 rw [decide_eq_true (countIn_blen.mpr hd)]
 refine iteF ⟨_,rfl,.inl ⟨_,_,rfl,rfl,_,rfl,rfl,_,rfl,rfl,?_⟩⟩
 rw [show ((n:Int)+1)=((n+1:Nat):Int) from rfl,b1]
 refine ⟨_,rfl,rfl,_,rfl,rfl,_,_,rfl,rfl,?_⟩
 rw [b2]
 obtain ⟨k,hk⟩:∃ k:Nat,((blen (blen (n+1)):Nat):Int) - 1=k:=⟨blen (blen (n+1)) - 1,by omega⟩
 have hk':k=blen (blen (n+1)) - 1:=by omega
 dsimp only
 rw [hk]
 have a1:(k:Int)<2 ^ 40:=by omega
 have a2 : -(2 ^ 40)<(k:Int):=by omega
 have a3:(Str.ofString "1").length*((k:Nat):Int).toNat≤sizeLine:=by rw [s1,Zb];exact small5 (by show 1*_≤_;omega)
 have a4:(Txt.mul (Str.ofString "1") (k:Int)).length+(rowS (cend (blen (blen (n+1))))).length≤sizeLine:=by
  rw [s1,Qs,Zb,Zb,List.length_replicate]
  have:=Zba (blen (blen (n+1)))
  exact small5 (by omega)
 have a5:(Txt.mul (Str.ofString "1") (k:Int)++rowS (cend (blen (blen (n+1))))).length+(rowS (bitsW (blen (n+1)) k)).length≤sizeLine:=by
  rw [s1,Qs,Zl,Zb,Zb,List.length_append,List.length_replicate,Xd]
  have:=Zba (blen (blen (n+1)))
  exact small5 (by omega)
 have a6:(Txt.mul (Str.ofString "1") (k:Int)++rowS (cend (blen (blen (n+1))))++rowS (bitsW (blen (n+1)) k)).length+(rowS (bitsW (n+1) (blen (n+1) - 1))).length≤sizeLine:=by
  rw [s1,Qs,Zl,Zl,Zb,Zb,List.length_append,List.length_append,List.length_replicate,Xd,Xd]
  have:=Zba (blen (blen (n+1)))
  exact small5 (by omega)
 have ar:Txt.mul (Str.ofString "1") (k:Int)++rowS (cend (blen (blen (n+1))))++rowS (bitsW (blen (n+1)) k)++rowS (bitsW (n+1) (blen (n+1) - 1))=rowS (cnt n):=by
  rw [s1,Qs,Zl,Zl,Zl]
  unfold cnt
  rw [hk',List.append_assoc,List.append_assoc]
  rfl
 have ad:[V.int ((n:Int)+1),V.int (((blen (n+1):Nat):Int) - 1)]=[.int ((n+1:Nat):Int),.int ((blen (n+1) - 1:Nat):Int)]:=by
  have:((blen (n+1):Nat):Int) - 1=((blen (n+1) - 1:Nat):Int):=by omega
  rw [this];rfl
 refine ⟨_,rfl,rfl,_,rfl,?_⟩
 refine iteD (fun c=>?_) (fun c=>?_)
 ·have hend:(Str.ofString "")=rowS (cend (blen (blen (n+1)))):=by
   have:=V.int.inj c
   rw [sE];unfold cend;rw [if_pos (by omega)]
  rw [hend]
  refine ⟨_,rfl,.inr ⟨_,_,rfl,rfl,a1,a2,a3,_,rfl,.inr ⟨_,_,rfl,rfl,a4,_,rfl,_,rfl,_,_,rfl,(by omega),.inr ⟨_,_,rfl,rfl,a5,?_⟩⟩⟩⟩
  refine ⟨_,rfl,_,rfl,_,_,rfl,rfl,n+1,blen (n+1) - 1,ad,(by omega),.inr ⟨_,_,rfl,rfl,a6,H,.refl (Same.refl _),?_⟩⟩
  rw [ar]
  exact q
 ·have hend:(Str.ofString "0")=rowS (cend (blen (blen (n+1)))):=by
   have:¬k=7:=fun z=>c (by rw [z];rfl)
   rw [s0];unfold cend;rw [if_neg (by omega)]
  rw [hend]
  refine ⟨_,rfl,.inr ⟨_,_,rfl,rfl,a1,a2,a3,_,rfl,.inr ⟨_,_,rfl,rfl,a4,_,rfl,_,rfl,_,_,rfl,(by omega),.inr ⟨_,_,rfl,rfl,a5,?_⟩⟩⟩⟩
  refine ⟨_,rfl,_,rfl,_,_,rfl,rfl,n+1,blen (n+1) - 1,ad,(by omega),.inr ⟨_,_,rfl,rfl,a6,H,.refl (Same.refl _),?_⟩⟩
  rw [ar]
  exact q
noncomputable def spDrawLower (C:Addr):Sp:=fun vs H Q _=>∃ (p dx:Addr) (l:List Bool) (i d:Nat) (t:Bool),vs=[.ref p,.int d]∧H p=some (srcO C dx l i t)∧l.length≤100000∧i+d≤l.length∧
 Q (.int ((rd 1 (((l.map (xor t)).drop i).take d):Nat):Int)) (upd H p (srcO C dx l (i+d) t))
theorem get_map {l:List Bool} {i:Nat} {t:Bool} (h:i<l.length):∃ b,l[i]?=some b∧(l.map (xor t)).getD i false=xor t b:=by
 refine ⟨l[i],List.getElem?_eq_getElem h,?_⟩
 rw [List.getD_eq_getElem?_getD,List.getElem?_map,List.getElem?_eq_getElem h];rfl
theorem Xhe {L:List Bool} {i j:Nat} {b:Bool} (h:i+j<L.length) (hb:L.getD (i+j) false=b):(L.drop i).take (j+1)=(L.drop i).take j++[b]:=by
 rw [List.take_add_one,List.getElem?_drop]
 rw [List.getD_eq_getElem?_getD,List.getElem?_eq_getElem h] at hb
 rw [List.getElem?_eq_getElem h]
 have:L[i+j]=b:=hb
 rw [this];rfl
theorem Zad {f C:Addr} {fd:FuncData} (nb:NB mg) (c_C:Cls K C) (F:FunAt K mg "draw_lower_digits" Zx ["source","width"] f fd) (M_draw:MethOk P w K mg base 1 C "draw" ["self"] (spDraw C)):DefOk P w K mg base 2 "draw_lower_digits" ["source","width"] (spDrawLower C):=by
 refine F.ok sc_draw_lower_digits (fun vs H Q E h=>?_) (fun cdv A outer s H vs Q E hr h=>?_)
 ·obtain ⟨p,dx,l,i,d,t,rfl,_⟩:=h;rfl
 obtain ⟨p,dx,l,i,d,t,rfl,hp,hl,hi,q⟩:=h
 refine ⟨_,(Zd (Zi (i:=2) sc_draw_lower_digits.nd rfl (by first | exact Or.inl rfl | exact Or.inr rfl) Zf)
  (Zd (Qc PassesOwn.never rfl (Wa rfl nb.range_ (Za (pv 1) Ze)) (Xa (i:=3) sc_draw_lower_digits.nd rfl (by first | exact Or.inl rfl | exact Or.inr rfl))
   (Zg (Zi (i:=2) sc_draw_lower_digits.nd rfl (by first | exact Or.inl rfl | exact Or.inr rfl) (Zj oAdd (Zj oMul Zf (pv 2)) (Zpg M_draw c_C hr (pv 0))))))
  (Zg (Zr (pv 2))))),?_⟩
 try dsimp only [cxK0,cxK1,cxK2,cxK3]
 refine ⟨_,rfl,_,rfl,by omega,by omega,?_⟩
 refine Wb (fun j σ H2=>∃ z,σ=[some (.ref p),some (.int d),some (.int ((rd 1 (((l.map (xor t)).drop i).take j):Nat):Int)),z]∧H2=upd H p (srcO C dx l (i+j) t)) ?_ ?_ ?_
 ·exact ⟨none,rfl,(Qd hp).symm⟩
 ·rintro j σ H2 hj ⟨z,rfl,rfl⟩
  have hj':j<d:=by omega
  obtain ⟨b,hb1,hb2⟩:=get_map (l:=l) (t:=t) (i:=i+j) (by omega)
  have tm:=Xhe (L:=l.map (xor t)) (i:=i) (j:=j) (by rw [List.length_map];omega) hb2
  refine ⟨_,rfl,.inl ⟨_,_,rfl,rfl,.inl ⟨by decide,by decide⟩,_,rfl,p,dx,_,rfl,Zc,Zbf _ _ _ (by decide +kernel) (by decide +kernel) (by decide +kernel),?_⟩⟩
  refine ⟨p,dx,l,i+j,t,b,rfl,⟨_,Zc⟩,hl,hb1,.inl ⟨_,_,rfl,rfl,?_⟩⟩
  have ev:(2:Int)*((rd 1 (((l.map (xor t)).drop i).take j):Nat):Int)+(((t ^^ b).toNat:Nat):Int)=((rd 1 (((l.map (xor t)).drop i).take (j+1)):Nat):Int):=by
   rw [tm,Xic]
   show _=((2*rd 1 (((l.map (xor t)).drop i).take j)+(t ^^ b).toNat:Nat):Int)
   omega
  rw [← ev]
  exact ⟨_,rfl,by rw [Xh];rfl⟩
 ·rintro σ H2 ⟨z,rfl,rfl⟩
  have e:((d:Nat):Int).toNat=d:=by omega
  rw [e]
  exact ⟨_,rfl,_,.ins hp (fun b u hb e=>by rw [Zm hb];exact e) Zc,q⟩
noncomputable def spDrawCount (C:Addr):Sp:=fun vs H Q _=>∃ (p dx:Addr) (l:List Bool) (i n:Nat) (t:Bool),vs=[.ref p]∧SrcAt H p C dx l i t∧l.length≤100000∧i≤l.length∧n+1<2 ^ 255∧cnt n <+: (l.map (xor t)).drop i∧
 Q (.int (n:Nat)) (upd H p (srcO C dx l (i+(cnt n).length) t))
theorem Zng {f C:Addr} {fd:FuncData} (g_MOST_AHEAD:GlobV mg "MOST_AHEAD" (.int 7)) (c_C:Cls K C) (F:FunAt K mg "draw_count" Ya ["source"] f fd) (M_draw:MethOk P w K mg base 1 C "draw" ["self"] (spDraw C)) (D_draw_lower_digits:DefOk P w K mg base 2 "draw_lower_digits" ["source","width"] (spDrawLower C)):DefOk P w K mg base 3 "draw_count" ["source"] (spDrawCount C):=by
 refine F.ok sc_draw_count (fun vs H Q E h=>?_) (fun cdv A outer s H vs Q E hr h=>?_)
 ·obtain ⟨p,dx,l,i,n,t,rfl,_⟩:=h;rfl
 obtain ⟨p,dx,l,i,n,t,rfl,⟨u0,hp⟩,hl,hi,hn,hc,q⟩:=h
 refine ⟨_,(Zd (Zi (i:=1) sc_draw_count.nd rfl (by first | exact Or.inl rfl | exact Or.inr rfl) Zf)
  (Zd (Ws PassesOwn.never (PW.pt (Jd (Zn oLt (pv 1) (Ye g_MOST_AHEAD) (nomark _)) (Ja (Zn oEq (Zpg M_draw c_C hr (pv 0)) Zf (nomark _)))))
   (Zg (Zi (i:=1) sc_draw_count.nd rfl (by first | exact Or.inl rfl | exact Or.inr rfl) (Zj oAdd (pv 1) Zf))))
  (Zd (Zi (i:=2) sc_draw_count.nd rfl (by first | exact Or.inl rfl | exact Or.inr rfl) (Zk D_draw_lower_digits hr (Za (pv 0) (Za (pv 1) Ze))))
  (Zg (Zr (Zj oSub (Zk D_draw_lower_digits hr (Za (pv 0) (Za (Zj oSub (pv 2) Zf) Ze))) Zf)))))),?_⟩
 try dsimp only [cxK0,cxK1,cxK2,cxK3]
 have hd:blen (n+1)≤255:=Yf hn
 have hpd:0<blen (n+1):=Xx (by omega)
 have he:blen (blen (n+1))≤8:=Yf (by omega)
 have hq:0<blen (blen (n+1)):=Xx (by omega)
 have ca:=Yaf hc (by rw [List.length_map];exact hi)
 have fits:=ca.fits
 have cl:=Zig n
 rw [List.length_map] at fits
 refine ⟨fun m σ H2=>∃ (j:Nat) (u:Int),j≤blen (blen (n+1)) - 1∧m=8 - j∧σ=[some (.ref p),some (.int (j:Nat)),none]∧(j≠0→u=0)∧H2=upd H p (.ins C dx (fldsW (rowS l) ((i+j:Nat):Int) t u)),⟨8,0,u0,Nat.zero_le _,rfl,rfl,(fun z=>absurd rfl z),(Qd hp).symm⟩,?_⟩
 rintro m σ H2 ⟨j,u,hj,rfl,rfl,hu,rfl⟩
 refine ⟨_,rfl,.inl ⟨_,_,rfl,rfl,_,rfl,?_⟩⟩
 have v1:rd 1 (((l.map (xor t)).drop (i+(blen (blen (n+1)) - 1)+(cend (blen (blen (n+1)))).length)).take (blen (blen (n+1)) - 1))=blen (n+1):=by rw [ca.size];exact Xnj (by omega)
 have v2:rd 1 (((l.map (xor t)).drop (i+(blen (blen (n+1)) - 1)+(cend (blen (blen (n+1)))).length+(blen (blen (n+1)) - 1))).take (blen (n+1) - 1))=n+1:=by rw [ca.more];exact Xnj (by omega)
 have ad:[V.ref p,V.int (((blen (n+1):Nat):Int) - 1)]=[.ref p,.int ((blen (n+1) - 1:Nat):Int)]:=by
  have:((blen (n+1):Nat):Int) - 1=((blen (n+1) - 1:Nat):Int):=by omega
  rw [this]
 have ae:((n+1:Nat):Int) - 1=((n:Nat):Int):=by omega
 have ap:i+(blen (blen (n+1)) - 1)+(cend (blen (blen (n+1)))).length+(blen (blen (n+1)) - 1)+(blen (n+1) - 1)=i+(cnt n).length:=by omega
 refine iteD (fun c=>?_) (fun c=>?_)
 ·have hj7:j<7:=by omega
  obtain ⟨b,hb1,hb2⟩:=get_map (l:=l) (t:=t) (i:=i+j) (by have:=Xrf (e:=blen (blen (n+1)));omega)
  refine ⟨_,rfl,p,dx,_,rfl,Zc,Zbf _ _ _ (by decide +kernel) (by decide +kernel) (by decide +kernel),p,dx,l,i+j,t,b,rfl,⟨_,Zc⟩,hl,hb1,rfl,_,rfl,?_⟩
  by_cases hjk:j<blen (blen (n+1)) - 1
  ·have o:=ca.ones j hjk
   rw [hb2] at o
   rw [o]
   refine iteY rfl ⟨fun σ' H'=>∃ m',m'<8 - j∧∃ (j':Nat) (u:Int),j'≤blen (blen (n+1)) - 1∧m'=8 - j'∧σ'=[some (.ref p),some (.int (j':Nat)),none]∧(j'≠0→u=0)∧H'=upd H p (.ins C dx (fldsW (rowS l) ((i+j':Nat):Int) t u)),fun _ _ h=>h,?_⟩
   exact ⟨_,rfl,.inl ⟨_,_,rfl,rfl,8 - (j+1),by omega,j+1,0,by omega,rfl,rfl,(fun _=>rfl),by rw [Xh];rfl⟩⟩
  ·have ej:j=blen (blen (n+1)) - 1:=by omega
   have o:=ca.zero (by omega)
   rw [← ej,hb2] at o
   rw [o]
   refine iteN (by intro z;cases z) ?_
   have ec:(cend (blen (blen (n+1)))).length=1:=by unfold cend;rw [if_neg (by omega)];rfl
   have ex:upd (upd H p (.ins C dx (fldsW (rowS l) ((i+j:Nat):Int) t u))) p (.ins C dx (flds (rowS l) ((i+j+1:Nat):Int) t))=upd H p (srcO C dx l (i+(blen (blen (n+1)) - 1)+(cend (blen (blen (n+1)))).length) t):=by
    rw [Xh,ec,← ej]
   rw [ex,ej]
   refine ⟨_,rfl,_,rfl,p,dx,l,i+(blen (blen (n+1)) - 1)+(cend (blen (blen (n+1)))).length,blen (blen (n+1)) - 1,t,rfl,Zc,hl,(by omega),?_⟩
   rw [v1]
   refine ⟨_,rfl,_,rfl,_,_,rfl,rfl,p,dx,l,_,blen (n+1) - 1,t,ad,Zc,hl,(by omega),_,_,rfl,rfl,?_⟩
   rw [v2,Xh,Xh,ap]
   refine ⟨_,.ins hp (fun b u hb e=>by rw [Zm hb];exact e) Zc,?_⟩
   dsimp only
   rw [ae]
   exact q
 ·have ej:j=blen (blen (n+1)) - 1:=by omega
  have ec:(cend (blen (blen (n+1)))).length=0:=by unfold cend;rw [if_pos (by omega)];rfl
  have hj0:j≠0:=by omega
  rw [hu hj0]
  have ex:upd H p (srcO C dx l (i+j) t)=upd H p (srcO C dx l (i+(blen (blen (n+1)) - 1)+(cend (blen (blen (n+1)))).length) t):=by
   rw [ec,← ej];rfl
  rw [ex,ej]
  refine ⟨_,rfl,_,rfl,p,dx,l,i+(blen (blen (n+1)) - 1)+(cend (blen (blen (n+1)))).length,blen (blen (n+1)) - 1,t,rfl,Zc,hl,(by omega),?_⟩
  rw [v1]
  refine ⟨_,rfl,_,rfl,_,_,rfl,rfl,p,dx,l,_,blen (n+1) - 1,t,ad,Zc,hl,(by omega),_,_,rfl,rfl,?_⟩
  rw [v2,Xh,Xh,ap]
  refine ⟨_,.ins hp (fun b u hb e=>by rw [Zm hb];exact e) Zc,?_⟩
  dsimp only
  rw [ae]
  exact q
noncomputable def spReadCount:Sp:=fun vs H Q _=>∃ (l:List Bool) (i n:Nat),vs=[.str (rowS l),.int i]∧l.length≤100000∧i≤l.length∧n+1<2 ^ 255∧cnt n <+: l.drop i∧∀ r,H r=none→Q (.ref r) (upd H r (.tup [.int n,.int ((i+(cnt n).length:Nat):Int)]))
theorem Znc {f C:Addr} {fd:FuncData} (T:SrcCls K C) (F:FunAt K mg "read_count" Xz ["signs","at"] f fd) (M_Source:MakeOk P w K mg base 1 "Source" C ["self","signs","at"] (spSrcInit C)) (D_draw_count:DefOk P w K mg base 3 "draw_count" ["source"] (spDrawCount C)):DefOk P w K mg base 4 "read_count" ["signs","at"] spReadCount:=by
 refine F.ok sc_read_count (fun vs H Q E h=>?_) (fun cdv A outer s H vs Q E hr h=>?_)
 ·obtain ⟨l,i,n,rfl,_⟩:=h;rfl
 obtain ⟨l,i,n,rfl,hl,hi,hn,hc,q⟩:=h
 refine ⟨_,(Zd (Zi (i:=2) sc_read_count.nd rfl (by first | exact Or.inl rfl | exact Or.inr rfl) (Zwg M_Source hr (Za (pv 0) (Za (pv 1) Ze))))
  (Zd (Zi (i:=3) sc_read_count.nd rfl (by first | exact Or.inl rfl | exact Or.inr rfl) (Zk D_draw_count hr (Za (pv 2) Ze)))
  (Zg (Zr (Jt (Za (pv 3) (Za (Yy (pv 2) rfl) Ze))))))),?_⟩
 try dsimp only [cxK0,cxK1,cxK2,cxK3]
 refine ⟨_,rfl,_,rfl,fun x dx nx ndx nex=>?_⟩
 refine ⟨x,dx,_,_,rfl,Zc,rfl,?_⟩
 refine ⟨_,rfl,x,dx,l,i,n,false,rfl,⟨_,Zc⟩,hl,hi,hn,by rw [Zyb];exact hc,?_⟩
 refine ⟨_,rfl,_,rfl,x,C,dx,_,_,rfl,Zc,T.cl,T.nP,Jx ..,(by show 2≤sizeLine;decide),fun r hr'=>?_⟩
 have s1:Same H (upd (upd H dx (.own x)) x (.ins C dx [])):=fun b o e=>by
  rw [Zm (Zp e nx),Zm (Zp e ndx)];exact e
 have s2:Same H (upd (upd (upd (upd H dx (.own x)) x (.ins C dx [])) x (.ins C dx (flds (rowS l) i false))) x (srcO C dx l (i+(cnt n).length) false)):=fun b o e=>by
  rw [Zm (Zp e nx),Zm (Zp e nx)];exact s1 b o e
 have nr:H r=none:=s2.free hr'
 exact ⟨_,.new nr (s2.trans (Zh hr')) Zc trivial,q r nr⟩
noncomputable def spMixed:Sp:=fun vs H Q _=>∃ c k:Int,vs=[.int c,.int k]∧∀ v:Int,0≤v→v<2147483587→Q (.int v) H
theorem modb {a b:Int} (h:0<b):0≤a%b∧a%b<b:=⟨Int.emod_nonneg _ (Int.ne_of_gt h),Int.emod_lt_of_pos _ h⟩
theorem Zsd {f:Addr} {fd:FuncData} (F:FunAt K mg "_law_mixed" Ys ["_law_cell","_law_k"] f fd):DefOk P w K mg base 1 "_law_mixed" ["_law_cell","_law_k"] spMixed:=by
 refine F.ok sc_law_mixed (fun vs H Q E h=>?_) (fun cdv A outer s H vs Q E hr h=>?_)
 ·obtain ⟨c,k,rfl,_⟩:=h;rfl
 obtain ⟨c,k,rfl,q⟩:=h
 refine ⟨_,(Zd (Zi (i:=2) sc_law_mixed.nd rfl (by first | exact Or.inl rfl | exact Or.inr rfl) (Zj Xw (Zj oAdd (Zj oAdd (Zj oMul (Zj Xw (pv 0) Zf) Zf) (Zj oMul (pv 1) Zf)) Zf) Zf))
  (Zd (Zi (i:=2) sc_law_mixed.nd rfl (by first | exact Or.inl rfl | exact Or.inr rfl) (Zj Xw (Zj oMul (pv 2) (pv 2)) Zf))
  (Zg (Zr (Zj Xw (Zj oMul (pv 2) (pv 2)) Zf))))),?_⟩
 try dsimp only [cxK0,cxK1,cxK2,cxK3]
 refine ⟨_,rfl,_,_,rfl,rfl,(by show (0:Int)<_;decide),.inl ⟨_,_,rfl,rfl,.inr ⟨by decide,by decide⟩,?_⟩⟩
 refine ⟨_,rfl,.inl ⟨_,_,rfl,rfl,.inr ⟨by decide,by decide⟩,.inl ⟨_,_,rfl,rfl,.inl ⟨_,_,rfl,rfl,_,_,rfl,rfl,(by show (0:Int)<_;decide),?_⟩⟩⟩⟩
 obtain ⟨b1,b2⟩:=modb (a:=(c%2147483647*48271+k*69621+11)) (b:=2147483647) (by decide)
 generalize (c%2147483647*48271+k*69621+11)%2147483647=n1 at b1 b2 ⊢
 refine ⟨_,rfl,_,rfl,.inl ⟨_,_,rfl,rfl,.inr ⟨by omega,by omega⟩,_,_,rfl,rfl,(by show (0:Int)<_;decide),?_⟩⟩
 obtain ⟨b3,b4⟩:=modb (a:=n1*n1) (b:=2147483629) (by decide)
 generalize n1*n1%2147483629=n2 at b3 b4 ⊢
 refine ⟨_,rfl,_,rfl,.inl ⟨_,_,rfl,rfl,.inr ⟨by omega,by omega⟩,_,_,rfl,rfl,(by show (0:Int)<_;decide),H,.refl (Same.refl _),?_⟩⟩
 exact q _ (modb (by decide)).1 (modb (by decide)).2
noncomputable def spLaw (K:PySem.W.Frag):Sp:=fun vs H Q _=>∃ (a:Addr) (ns:List Int),vs=[.ref a]∧SqL K H a (ns.map V.int)∧ns.length≤63∧∀ H',Q (.bl true) H'
theorem Zei {α:Type} (f:α→V) (xs:List α) (c m:Int) (hm:m=xs.length) (h:0<xs.length):∃ n,n∈xs∧atI (xs.map f) (c%m)=some (f n):=by
 subst hm
 have h1:(0:Int)<xs.length:=by omega
 have h2:=Int.emod_nonneg c (Int.ne_of_gt h1)
 have h3:=Int.emod_lt_of_pos c h1
 obtain ⟨k,e⟩:∃ k:Nat,c%(xs.length:Int)=k:=⟨(c%(xs.length:Int)).toNat,by omega⟩
 rw [e]
 have hk:k<xs.length:=by omega
 exact ⟨xs[k],List.getElem_mem hk,Xe (by rw [List.getElem?_map,List.getElem?_eq_getElem hk];rfl)⟩
theorem s01:Str.ofString "01"=rowS [false,true]:=by decide +kernel
theorem Xsj (x:Int):atI (Str.ofString "01").cps.toList (Builtin.bitAnd x 1)=some (bc (decide (x%2=1))):=by
 rw [PyProof.Rows.bitAnd_m1,s01,Xi]
 have h:x%2=0∨x%2=1:=by omega
 rcases h with h | h
 ·rw [h];rfl
 ·rw [h];rfl
noncomputable def spFreeRow:Sp:=fun vs H Q _=>∃ (c:Int) (m:Nat),vs=[.int c,.int m]∧m≤1000∧∀ l:List Bool,l.length≤m→Q (.str (rowS l)) H
theorem Zhf {f:Addr} {fd:FuncData} (nb:NB mg) (F:FunAt K mg "_law_free_row" Xs ["_law_rest","_law_most"] f fd):DefOk P w K mg base 1 "_law_free_row" ["_law_rest","_law_most"] spFreeRow:=by
 refine F.ok sc_law_free_row (fun vs H Q E h=>?_) (fun cdv A outer s H vs Q E hr h=>?_)
 ·obtain ⟨c,m,rfl,_⟩:=h;rfl
 obtain ⟨c,m,rfl,hm,q⟩:=h
 refine ⟨_,(Zd (Zi (i:=2) sc_law_free_row.nd rfl (by first | exact Or.inl rfl | exact Or.inr rfl) Zu)
  (Zd (Zi (i:=3) sc_law_free_row.nd rfl (by first | exact Or.inl rfl | exact Or.inr rfl) (Zj Xw (pv 0) (Zj oAdd (pv 1) Zf)))
  (Zd (Zi (i:=0) sc_law_free_row.nd rfl (by first | exact Or.inl rfl | exact Or.inr rfl) (Zj Wp (pv 0) (Zj oAdd (pv 1) Zf)))
  (Zd (Qc PassesOwn.never rfl (Wa rfl nb.range_ (Za (pv 3) Ze)) (Xa (i:=4) sc_law_free_row.nd rfl (by first | exact Or.inl rfl | exact Or.inr rfl))
   (Zg (Zi (i:=2) sc_law_free_row.nd rfl (by first | exact Or.inl rfl | exact Or.inr rfl) (Zj oAdd (pv 2) (Xb iAll Zu (Zj Xoj (Zj Xoi (pv 0) (pv 4)) Zf) (fun _ _=>rfl))))))
  (Zg (Zr (pv 2))))))),?_⟩
 try dsimp only [cxK0,cxK1,cxK2,cxK3]
 refine ⟨_,rfl,_,rfl,.inl ⟨_,_,rfl,rfl,_,_,rfl,rfl,(by show (0:Int)<_;omega),?_⟩⟩
 refine ⟨_,rfl,_,rfl,.inl ⟨_,_,rfl,rfl,_,_,rfl,rfl,⟨by omega,by omega⟩,?_⟩⟩
 obtain ⟨b1,b2⟩:=modb (a:=c) (b:=(m:Int)+1) (by omega)
 refine ⟨_,rfl,_,rfl,by omega,by omega,?_⟩
 refine Wb (fun i σ H2=>H2=H∧∃ l z1 z2,l.length≤i∧σ=[some (.int (c/((m:Int)+1))),some (.int m),some (.str (rowS l)),z1,z2]) ?_ ?_ ?_
 ·exact ⟨rfl,[],_,_,Nat.le_refl _,by rw [← sE];rfl⟩
 ·rintro i σ H2 hi ⟨rfl,l,z1,z2,hl2,rfl⟩
  rw [Int.zero_add]
  have hi2:i<1001:=by omega
  refine ⟨_,rfl,_,rfl,_,rfl,_,_,rfl,rfl,(by show (0:Int)≤_;omega),_,_,rfl,rfl,.inr ⟨_,_,_,rfl,rfl,(by rw [s01,Zb];exact small5 (by decide)),Xsj _,.inr ⟨_,_,rfl,rfl,(by rw [Wr,Zb,Zb];exact small5 (by simp only [List.length_cons,List.length_nil];omega)),?_⟩⟩⟩
  rw [Wr,Zl]
  exact ⟨rfl,_,_,_,(by rw [List.length_append];simp only [List.length_cons,List.length_nil];omega),rfl⟩
 ·rintro σ H2 ⟨rfl,l,z1,z2,hl2,rfl⟩
  exact ⟨_,rfl,H2,.refl (Same.refl _),q l (by omega)⟩
noncomputable def spCellAt (K:PySem.W.Frag):Sp:=fun vs H Q _=>∃ (a:Addr) (ns:List Int) (k:Nat),vs=[.ref a,.int k]∧SqL K H a (ns.map V.int)∧ns.length≤63∧Q (.int (ns.getD k 0)) H
theorem Zkg {f:Addr} {fd:FuncData} (nb:NB mg) (F:FunAt K mg "_law_cell_at" Yc ["_law_script","_law_k"] f fd):DefOk P w K mg base 1 "_law_cell_at" ["_law_script","_law_k"] (spCellAt K):=by
 refine F.ok Zjh (fun vs H Q E h=>?_) (fun cdv A outer s H vs Q E hr h=>?_)
 ·obtain ⟨a,ns,k,rfl,_⟩:=h;rfl
 obtain ⟨a,ns,k,rfl,hS,hl,q⟩:=h
 refine ⟨_,(Zd (Xc (Zn oLt (pv 1) (Zo Zs rfl nb.len_ Zy (Za (pv 0) Ze)) (nomark _)) (Zg (Zr (Xb iAll (pv 0) (pv 1) (fun _ _=>rfl)))) Zt)
  (Zg (Zr Zf))),?_⟩
 try dsimp only [cxK0,cxK1,cxK2,cxK3]
 refine ⟨_,rfl,_,rfl,_,_,rfl,.inl ⟨_,hS,rfl⟩,.inl ⟨_,_,rfl,rfl,_,rfl,?_⟩⟩
 rw [List.length_map]
 refine iteD (fun c=>?_) (fun c=>?_)
 ·have hk:k<ns.length:=by omega
  refine ⟨_,rfl,_,rfl,.inl (.inl ⟨_,_,_,_,rfl,rfl,hS,Xe (by rw [List.getElem?_map,List.getElem?_eq_getElem hk];rfl),H,.refl (Same.refl _),?_⟩)⟩
  have e:ns.getD k 0=ns[k]:=by rw [List.getD_eq_getElem?_getD,List.getElem?_eq_getElem hk];rfl
  rw [← e]
  exact q
 ·have e:ns.getD k 0=0:=by rw [List.getD_eq_getElem?_getD,List.getElem?_eq_none (by omega)];rfl
  rw [e] at q
  exact ⟨H,.refl (Same.refl _),q⟩
noncomputable def spDigits:Sp:=fun vs H Q _=>∃ n:Nat,vs=[.int n]∧n<2 ^ 100000∧Q (.str (rowS (digs n))) H
theorem Zne {f:Addr} {fd:FuncData} (F:FunAt K mg "_law_digits" Yl ["_law_number"] f fd):DefOk P w K mg base 1 "_law_digits" ["_law_number"] spDigits:=by
 refine F.ok sc_law_digits (fun vs H Q E h=>?_) (fun cdv A outer s H vs Q E hr h=>?_)
 ·obtain ⟨n,rfl,_⟩:=h;rfl
 obtain ⟨n,rfl,hn,q⟩:=h
 refine ⟨_,(Zd (Zi (i:=1) sc_law_digits.nd rfl (by first | exact Or.inl rfl | exact Or.inr rfl) Zu)
  (Zd (Ws PassesOwn.never (Zn oGt (pv 0) Zf (nomark _))
   (Zd (Zi (i:=1) sc_law_digits.nd rfl (by first | exact Or.inl rfl | exact Or.inr rfl) (Zj oAdd (Xb iAll (Yg (Za Zu (Za Zu Ze))) (Zj Xw (pv 0) Zf) (fun _ _=>rfl)) (pv 1)))
   (Zg (Zi (i:=0) sc_law_digits.nd rfl (by first | exact Or.inl rfl | exact Or.inr rfl) (Zj Wp (pv 0) Zf)))))
  (Zg (Zr (pv 1))))),?_⟩
 try dsimp only [cxK0,cxK1,cxK2,cxK3]
 have hbl:blen n≤100000:=Yf hn
 refine ⟨fun m σ H2=>∃ l:List Bool,σ=[some (.int (m:Nat)),some (.str (rowS l))]∧digs m++l=digs n∧Same H H2,⟨n,[],by rw [← sE];rfl,List.append_nil _,Same.refl _⟩,?_⟩
 rintro m σ H2 ⟨l,rfl,hd,hs⟩
 have hlen:=congrArg List.length hd
 rw [List.length_append,Yp,Yp] at hlen
 refine ⟨_,rfl,_,_,rfl,rfl,_,rfl,?_⟩
 refine iteD (fun c=>?_) (fun c=>?_)
 ·have hm:m≠0:=by omega
  have hst:=Xld hm
  have hb:=Xx hm
  refine ⟨fun σ' H'=>∃ m',m'<m∧∃ l:List Bool,σ'=[some (.int (m':Nat)),some (.str (rowS l))]∧digs m'++l=digs n∧Same H H',fun _ _ h=>h,?_⟩
  refine ⟨(by show 2≤sizeLine;decide),fun r hr'=>⟨_,rfl,_,_,rfl,rfl,(by show (0:Int)<2;decide),.inl (.inl ⟨_,_,_,_,rfl,rfl,SqL.of Zc,Xxc m,?_⟩)⟩⟩
  refine ⟨_,rfl,.inr ⟨_,_,rfl,rfl,(by rw [Zb,Zb];exact small5 (by simp only [List.length_cons,List.length_nil];omega)),?_⟩⟩
  refine ⟨_,rfl,_,_,rfl,rfl,⟨by decide,by decide⟩,m/2,by omega,[decide (m%2=1)]++l,?_,?_,hs.trans (Zh hr')⟩
  ·rw [Zl];rfl
  ·rw [← List.append_assoc,← hst];exact hd
 ·have hm:m=0:=by omega
  subst hm
  have:l=digs n:=by rw [← hd,Xlc];rfl
  subst this
  exact ⟨_,rfl,H,.refl hs,q⟩
theorem Zzg {n:Nat} (h:blen n≤255):(rowS (digs n)).length≤sizeLine:=by rw [Zb,Yp];exact small5 (by omega)
noncomputable def spLawCount:Sp:=fun vs H Q _=>∃ n:Nat,vs=[.int n]∧n+1<2 ^ 255∧Q (.str (rowS (cnt n))) H
theorem big255 {n:Nat} (h:n<2 ^ 255):n<2 ^ 100000:=Nat.lt_of_lt_of_le h (Nat.pow_le_pow_right (by decide) (by decide))
theorem Zsf {f:Addr} {fd:FuncData} (nb:NB mg) (F:FunAt K mg "_law_count" Yu ["_law_n"] f fd) (D_law_digits:DefOk P w K mg base 1 "_law_digits" ["_law_number"] spDigits):DefOk P w K mg base 2 "_law_count" ["_law_n"] spLawCount:=by
 refine F.ok sc_law_count (fun vs H Q E h=>?_) (fun cdv A outer s H vs Q E hr h=>?_)
 ·obtain ⟨n,rfl,_⟩:=h;rfl
 obtain ⟨n,rfl,hn,q⟩:=h
 refine ⟨_,(Zd (Zi (i:=1) sc_law_count.nd rfl (by first | exact Or.inl rfl | exact Or.inr rfl) (Zk D_law_digits hr (Za (Zj oAdd (pv 0) Zf) Ze)))
  (Zd (Zi (i:=2) sc_law_count.nd rfl (by first | exact Or.inl rfl | exact Or.inr rfl) (Zk D_law_digits hr (Za (Zo Zs rfl nb.len_ Zy (Za (pv 1) Ze)) Ze)))
  (Zd (Zi (i:=3) sc_law_count.nd rfl (by first | exact Or.inl rfl | exact Or.inr rfl) (Zj oMul Zu (Zj oSub (Zo Zs rfl nb.len_ Zy (Za (pv 2) Ze)) Zf)))
  (Zd (Xc (Zn oLt (Zo Zs rfl nb.len_ Zy (Za (pv 2) Ze)) Zf (nomark _)) (Zg (Zi (i:=3) sc_law_count.nd rfl (by first | exact Or.inl rfl | exact Or.inr rfl) (Zj oAdd (pv 3) Zu))) Zt)
  (Zg (Zr (Zj oAdd (Zj oAdd (pv 3) (Zw slAll (pv 2) (Zv Zf) Xk)) (Zw slAll (pv 1) (Zv Zf) Xk)))))))),?_⟩
 try dsimp only [cxK0,cxK1,cxK2,cxK3]
 have hd:blen (n+1)≤255:=Yf hn
 have hp:0<blen (n+1):=Xx (by omega)
 have he:blen (blen (n+1))≤8:=Yf (by omega)
 have hq:0<blen (blen (n+1)):=Xx (by omega)
 have l1:=Zzg hd
 have l2:(rowS (digs (blen (n+1)))).length≤sizeLine:=Zzg (by omega)
 refine ⟨_,rfl,.inl ⟨_,_,rfl,rfl,n+1,rfl,big255 hn,?_⟩⟩
 refine ⟨_,rfl,_,_,rfl,⟨l1,rfl⟩,blen (n+1),(by rw [Zb,Yp];rfl),big255 (by omega),?_⟩
 refine ⟨_,rfl,_,_,rfl,⟨l2,rfl⟩,_,_,rfl,rfl,.inr ⟨_,_,rfl,rfl,(by rw [Zb,Yp];omega),(by rw [Zb,Yp];omega),(by rw [s1,Zb,Zb,Yp];exact small5 (by show 1*_≤_;omega)),?_⟩⟩
 have hh:Txt.mul (Str.ofString "1") (((rowS (digs (blen (n+1)))).length:Int) - 1)=rowS (List.replicate (blen (blen (n+1)) - 1) true):=by
  rw [s1,Qs,Zb,Yp];congr 2;omega
 dsimp only
 rw [hh]
 have ar:rowS (List.replicate (blen (blen (n+1)) - 1) true++cend (blen (blen (n+1))))++rowS (bitsW (blen (n+1)) (blen (blen (n+1)) - 1))++rowS (bitsW (n+1) (blen (n+1) - 1))=rowS (cnt n):=by
  rw [Zl,Zl];unfold cnt;rw [List.append_assoc,List.append_assoc]
 have a1:(rowS (List.replicate (blen (blen (n+1)) - 1) true++cend (blen (blen (n+1))))).length+(rowS (bitsW (blen (n+1)) (blen (blen (n+1)) - 1))).length≤sizeLine:=by
  rw [Zb,Zb,List.length_append,List.length_replicate,Xd]
  have:=Zba (blen (blen (n+1)))
  exact small5 (by omega)
 have a2:(rowS (List.replicate (blen (blen (n+1)) - 1) true++cend (blen (blen (n+1))))++rowS (bitsW (blen (n+1)) (blen (blen (n+1)) - 1))).length+(rowS (bitsW (n+1) (blen (n+1) - 1))).length≤sizeLine:=by
  rw [Zl,Zb,Zb,List.length_append,List.length_append,List.length_replicate,Xd,Xd]
  have:=Zba (blen (blen (n+1)))
  exact small5 (by omega)
 have t1:Txt.slice (rowS (digs (blen (n+1)))) (some 1) none=rowS (bitsW (blen (n+1)) (blen (blen (n+1)) - 1)):=by rw [Zjc,Zqd (by omega)]
 have t2:Txt.slice (rowS (digs (n+1))) (some 1) none=rowS (bitsW (n+1) (blen (n+1) - 1)):=by rw [Zjc,Zqd (by omega)]
 refine ⟨_,rfl,_,_,rfl,⟨l2,rfl⟩,.inl ⟨_,_,rfl,rfl,_,rfl,?_⟩⟩
 rw [Zb,Yp]
 refine iteD (fun c=>?_) (fun c=>?_)
 ·refine ⟨_,rfl,.inr ⟨_,_,rfl,rfl,(by rw [s0,Zb,Zb,List.length_replicate];exact small5 (by simp only [List.length_cons,List.length_nil];omega)),?_⟩⟩
  have hc:rowS (List.replicate (blen (blen (n+1)) - 1) true)++Str.ofString "0"=rowS (List.replicate (blen (blen (n+1)) - 1) true++cend (blen (blen (n+1)))):=by
   rw [s0,Zl];unfold cend;rw [if_neg (by omega)]
  rw [hc]
  refine ⟨_,rfl,_,rfl,_,rfl,.inr ⟨_,rfl,l2,?_⟩⟩
  rw [t1]
  refine .inr ⟨_,_,rfl,rfl,a1,_,rfl,_,rfl,.inr ⟨_,rfl,l1,?_⟩⟩
  rw [t2]
  refine .inr ⟨_,_,rfl,rfl,a2,H,.refl (Same.refl _),?_⟩
  rw [ar]
  exact q
 ·have hc:rowS (List.replicate (blen (blen (n+1)) - 1) true)=rowS (List.replicate (blen (blen (n+1)) - 1) true++cend (blen (blen (n+1)))):=by
   unfold cend;rw [if_pos (by omega),List.append_nil]
  rw [hc]
  refine ⟨_,rfl,_,rfl,_,rfl,.inr ⟨_,rfl,l2,?_⟩⟩
  rw [t1]
  refine .inr ⟨_,_,rfl,rfl,a1,_,rfl,_,rfl,.inr ⟨_,rfl,l1,?_⟩⟩
  rw [t2]
  refine .inr ⟨_,_,rfl,rfl,a2,H,.refl (Same.refl _),?_⟩
  rw [ar]
  exact q
structure Cs where
 (n s w l f t a b tw k:Addr)
structure Nms (mg:Str→Option Value) (c:Cs):Prop where
 gn:GlobV mg "NoFit" (.ref c.n)
 gs:GlobV mg "Short" (.ref c.s)
 gw:GlobV mg "Wrong" (.ref c.w)
 gl:GlobV mg "Left" (.ref c.l)
 gf:GlobV mg "NoForm" (.ref c.f)
 gt:GlobV mg "NoText" (.ref c.t)
 ga:GlobV mg "NotAhead" (.ref c.a)
 gb:GlobV mg "BadPage" (.ref c.b)
 g2:GlobV mg "Twice" (.ref c.tw)
 gk:GlobV mg "Lacking" (.ref c.k)
structure Kits (K:PySem.W.Frag) (c:Cs) (C:Addr) (bs:List Bool):Prop where
 xc:ExcC K C
 ks:∃ b1 b2 b3 b4 b5 b6 b7 b8 b9 b10:Bool,bs=[b1,b2,b3,b4,b5,b6,b7,b8,b9,b10,true]∧PySem.W.kitOne K (.ref C) (.ref c.n)=some b1∧PySem.W.kitOne K (.ref C) (.ref c.s)=some b2∧PySem.W.kitOne K (.ref C) (.ref c.w)=some b3∧PySem.W.kitOne K (.ref C) (.ref c.l)=some b4∧
  PySem.W.kitOne K (.ref C) (.ref c.f)=some b5∧PySem.W.kitOne K (.ref C) (.ref c.t)=some b6∧PySem.W.kitOne K (.ref C) (.ref c.a)=some b7∧PySem.W.kitOne K (.ref C) (.ref c.b)=some b8∧PySem.W.kitOne K (.ref C) (.ref c.tw)=some b9∧PySem.W.kitOne K (.ref C) (.ref c.k)=some b10∧PySem.W.kitOne K (.ref C) (.type "ValueError")=some true
noncomputable def alone:List Bool→Bool
 | [b1,b2,b3,b4,b5,b6,b7,b8,b9,b10,_]=>([b1,b5,b6,b7,b8,b9,b10,b2,b3,b4].filter id).length == 1
 | _=>false
noncomputable def spAlone (K:PySem.W.Frag) (c:Cs) (cR:Addr):Sp:=fun vs H Q _=>∃ a C d bs,vs=[.ref a]∧H a=some (ExcO a C d)∧(d=none∨∃ dx fs,d=some dx∧H dx=some (.xd fs))∧Kits K c C bs∧PySem.W.kitOne K (.ref C) (.ref cR)=some true∧alone bs=true∧Q (.bl true) H
theorem Zsg {f cR:Addr} {c:Cs} {fd:FuncData} (nb:NB mg) (nbV:mg "ValueError"=none) (X:Nms mg c) (gc_RiseError:GlobV mg "RiseError" (.ref cR)) (F:FunAt K mg "_law_alone" Yv ["_law_error"] f fd):DefOk P w K mg base 1 "_law_alone" ["_law_error"] (spAlone K c cR):=by
 obtain ⟨gc_NoFit,gc_Short,gc_Wrong,gc_Left,gc_NoForm,gc_NoText,gc_NotAhead,gc_BadPage,gc_Twice,gc_Lacking⟩:=X
 refine F.ok sc_law_alone (fun vs H Q E h=>?_) (fun cdv A outer s H vs Q E hr h=>?_)
 ·obtain ⟨a,C,d,bs,rfl,_⟩:=h;rfl
 obtain ⟨a,C,d,bs,rfl,ha,hd,⟨xc,b1,b2,b3,b4,b5,b6,b7,b8,b9,b10,rfl,k1,k2,k3,k4,k5,k6,k7,k8,k9,k10,kV⟩,kR,al,q⟩:=h
 refine ⟨_,(Zd (Xc (PW.pt (Zpd (Qb (Xv (Zo Xj rfl nb.isinstance_ Xf (Za (pv 0) (Za (Ye gc_RiseError) Ze))) (fun _=>rfl))) (Zfd (Qb (Xv (Zo Xj rfl nb.isinstance_ Xf (Za (pv 0) (Za (Xue (v := .ty "ValueError") rfl nbV Zob rfl) Ze))) (fun _=>rfl)))))) (Zg (Zr Zph)) Zt)
  (Zd (Zi (i:=1) sc_law_alone.nd rfl (by first | exact Or.inl rfl | exact Or.inr rfl) (Yg (Za (Zo Xj rfl nb.isinstance_ Xf (Za (pv 0) (Za (Ye gc_NoFit) Ze))) (Za (Zo Xj rfl nb.isinstance_ Xf (Za (pv 0) (Za (Ye gc_NoForm) Ze))) (Za (Zo Xj rfl nb.isinstance_ Xf (Za (pv 0) (Za (Ye gc_NoText) Ze))) Ze)))))
  (Zd (Zi (i:=1) sc_law_alone.nd rfl (by first | exact Or.inl rfl | exact Or.inr rfl) (Zj Zff (pv 1) (Yg (Za (Zo Xj rfl nb.isinstance_ Xf (Za (pv 0) (Za (Ye gc_NotAhead) Ze))) (Za (Zo Xj rfl nb.isinstance_ Xf (Za (pv 0) (Za (Ye gc_BadPage) Ze))) (Za (Zo Xj rfl nb.isinstance_ Xf (Za (pv 0) (Za (Ye gc_Twice) Ze))) Ze))))))
  (Zd (Zi (i:=1) sc_law_alone.nd rfl (by first | exact Or.inl rfl | exact Or.inr rfl) (Zj Zff (pv 1) (Yg (Za (Zo Xj rfl nb.isinstance_ Xf (Za (pv 0) (Za (Ye gc_Lacking) Ze))) (Za (Zo Xj rfl nb.isinstance_ Xf (Za (pv 0) (Za (Ye gc_Short) Ze))) (Za (Zo Xj rfl nb.isinstance_ Xf (Za (pv 0) (Za (Ye gc_Wrong) Ze))) Ze))))))
  (Zd (Zi (i:=1) sc_law_alone.nd rfl (by first | exact Or.inl rfl | exact Or.inr rfl) (Zj Zff (pv 1) (Yg (Za (Zo Xj rfl nb.isinstance_ Xf (Za (pv 0) (Za (Ye gc_Left) Ze))) Ze))))
  (Zg (Zr (Xn oEq (Zo Zs rfl nb.len_ Zy (Za (Jb ["_law_one"] [] rfl (by decide +kernel) trivial (piAll (pv 1)) (fun _ _ _ _ _=>(Xa (i:=0) (show (["_law_one"]:List Str).Nodup by decide +kernel) rfl (by first | exact Or.inl rfl | exact Or.inr rfl))) (fun _ _ _ _ _=>(Qq (Xv (pv 0) (fun _=>rfl)))) (fun _ _ _ _ _=>(pv 0))) Ze)) Zf (nomark _))))))))),?_⟩
 try dsimp only [cxK0,cxK1,cxK2,cxK3]
 have kr:∀ {D:Addr} {b:Bool},PySem.W.kitOne K (.ref C) (.ref D)=some b→∀ cv,RelV (.ref D) cv→PySem.W.kitOne K (.ref C) cv=some b:=fun {D b} h cv r=>by
  obtain rfl:cv = .ref D:=r
  exact h
 have kv:∀ cv,RelV (.ty "ValueError") cv→PySem.W.kitOne K (.ref C) cv=some true:=fun cv r=>by
  obtain rfl:cv = .type "ValueError":=r
  exact kV
 have dS:∀ {H':Hp},Same H H'→(d=none∨∃ dx fs,d=some dx∧H' dx=some (.xd fs)):=fun {H'} hs=>by
  rcases hd with z | ⟨dx,fs,z,e⟩
  ·exact .inl z
  ·exact .inr ⟨dx,fs,z,hs _ _ e⟩
 refine ⟨_,rfl,a,C,d,_,true,rfl,ha,xc,hd,kr kR,_,rfl,iteF ⟨_,rfl,a,C,d,_,true,rfl,ha,xc,hd,kv,_,rfl,iteF ?_⟩⟩
 refine ⟨_,rfl,a,C,d,_,b1,rfl,ha,xc,hd,kr k1,?_⟩
 refine ⟨_,rfl,a,C,d,_,b5,rfl,ha,xc,hd,kr k5,?_⟩
 refine ⟨_,rfl,a,C,d,_,b6,rfl,ha,xc,hd,kr k6,?_⟩
 refine ⟨(by show 3≤sizeLine;decide),fun r1 h1=>?_⟩
 have s1':=Zh (o:=HO.lst [V.bl b1,.bl b5,.bl b6]) h1
 have ha1:=s1' _ _ ha
 refine ⟨_,rfl,_,rfl,a,C,d,_,b7,rfl,ha1,xc,dS s1',kr k7,?_⟩
 refine ⟨_,rfl,a,C,d,_,b8,rfl,ha1,xc,dS s1',kr k8,?_⟩
 refine ⟨_,rfl,a,C,d,_,b9,rfl,ha1,xc,dS s1',kr k9,?_⟩
 refine ⟨(by show 3≤sizeLine;decide),fun r2 h2=>?_⟩
 have s2':=Zh (o:=HO.lst [V.bl b7,.bl b8,.bl b9]) h2
 refine ⟨r1,r2,_,_,rfl,rfl,s2' _ _ Zc,Zc,(by show 3+3≤sizeLine;decide),fun r3 h3=>?_⟩
 have s3':=Zh (o:=HO.lst ([V.bl b1,.bl b5,.bl b6]++[V.bl b7,.bl b8,.bl b9])) h3
 have t3:=(s1'.trans s2').trans s3'
 have ha3:=t3 _ _ ha
 refine ⟨_,rfl,_,rfl,a,C,d,_,b10,rfl,ha3,xc,dS t3,kr k10,?_⟩
 refine ⟨_,rfl,a,C,d,_,b2,rfl,ha3,xc,dS t3,kr k2,?_⟩
 refine ⟨_,rfl,a,C,d,_,b3,rfl,ha3,xc,dS t3,kr k3,?_⟩
 refine ⟨(by show 3≤sizeLine;decide),fun r4 h4=>?_⟩
 have s4':=Zh (o:=HO.lst [V.bl b10,.bl b2,.bl b3]) h4
 refine ⟨r3,r4,_,_,rfl,rfl,s4' _ _ Zc,Zc,(by show 6+3≤sizeLine;decide),fun r5 h5=>?_⟩
 have s5':=Zh (o:=HO.lst (([V.bl b1,.bl b5,.bl b6]++[V.bl b7,.bl b8,.bl b9])++[V.bl b10,.bl b2,.bl b3])) h5
 have t5:=(t3.trans s4').trans s5'
 have ha5:=t5 _ _ ha
 refine ⟨_,rfl,_,rfl,a,C,d,_,b4,rfl,ha5,xc,dS t5,kr k4,?_⟩
 refine ⟨(by show 1≤sizeLine;decide),fun r6 h6=>?_⟩
 have s6':=Zh (o:=HO.lst [V.bl b4]) h6
 refine ⟨r5,r6,_,_,rfl,rfl,s6' _ _ Zc,Zc,(by show 9+1≤sizeLine;decide),fun r7 h7=>?_⟩
 have s7':=Zh (o:=HO.lst ((([V.bl b1,.bl b5,.bl b6]++[V.bl b7,.bl b8,.bl b9])++[V.bl b10,.bl b2,.bl b3])++[V.bl b4])) h7
 have t7:=(t5.trans s6').trans s7'
 refine .inl ⟨_,rfl,_,rfl,⟨_,SqL.of Zc⟩,fun D hD=>?_⟩
 refine Ji (xs:=[b1,b5,b6,b7,b8,b9,b10,b2,b3,b4].map V.bl) (fun x=>match x with | .bl b=>b | _=>false) id (fun σ=>σ.length=1) (by show 10≤sizeLine;decide) rfl hD (SqL.of Zc) ?_ ?_
 ·rintro x hx σ1 H1 hS hs1 R R' hR
  obtain ⟨b,_,rfl⟩:=List.mem_map.mp hx
  obtain ⟨z,rfl⟩:=Xpa hS
  refine ⟨_,rfl,b,rfl,?_⟩
  have:=hR [some (.bl b)] rfl
  cases b with
  | true=>exact iteT ⟨_,rfl,this⟩
  | false=>exact iteF this
 ·refine ⟨_,_,rfl,.inl ⟨_,SqL.of Zc,rfl⟩,rfl,H,.refl (t7.trans (Zh hD)),?_⟩
  have e:(List.map id (List.filter (fun x=>match x with | .bl b=>b | _=>false) ([b1,b5,b6,b7,b8,b9,b10,b2,b3,b4].map V.bl))).length=1:=by
   rw [List.map_id,List.filter_map,List.length_map]
   exact beq_iff_eq.mp al
  rw [e]
  exact q
theorem Yca {a b:List Bool} (h:Lt a b):decide ((rowS a).cps.toList<(rowS b).cps.toList)=true:=decide_eq_true h
theorem Ycb {a b:List Bool} (h:¬Lt a b):decide ((rowS a).cps.toList<(rowS b).cps.toList)=false:=decide_eq_false h
noncomputable def spCom:Sp:=fun vs H Q _=>∃ a b:List Bool,vs=[.str (rowS a),.str (rowS b)]∧a.length≤90000∧b.length≤90000∧Q (.int ((com a b:Nat):Int)) H
theorem Zhh {f:Addr} {fd:FuncData} (nb:NB mg) (F:FunAt K mg "first_unlike" Xu ["one","other"] f fd):DefOk P w K mg base 1 "first_unlike" ["one","other"] spCom:=by
 refine F.ok sc_first_unlike (fun vs H Q E h=>?_) (fun cdv A outer s H vs Q E hr h=>?_)
 ·obtain ⟨a,b,rfl,_⟩:=h;rfl
 obtain ⟨a,b,rfl,ha,hb,q⟩:=h
 refine ⟨_,(Zd (Zi (i:=2) sc_first_unlike.nd rfl (by first | exact Or.inl rfl | exact Or.inr rfl) Zf)
  (Zd (Ws PassesOwn.never (PW.pt (Jd (Zn oLt (pv 2) (Zo Zs rfl nb.len_ Zy (Za (pv 0) Ze)) (nomark _)) (Jd (Zn oLt (pv 2) (Zo Zs rfl nb.len_ Zy (Za (pv 1) Ze)) (nomark _)) (Ja (Zn oEq (Xb iAll (pv 0) (pv 2) (fun _ _=>rfl)) (Xb iAll (pv 1) (pv 2) (fun _ _=>rfl)) (nomark _))))))
   (Zg (Zi (i:=2) sc_first_unlike.nd rfl (by first | exact Or.inl rfl | exact Or.inr rfl) (Zj oAdd (pv 2) Zf))))
  (Zg (Zr (pv 2))))),?_⟩
 try dsimp only [cxK0,cxK1,cxK2,cxK3]
 have hA:(rowS a).length≤sizeLine:=by rw [Zb];exact small5 (by omega)
 have hB:(rowS b).length≤sizeLine:=by rw [Zb];exact small5 (by omega)
 have eA:=Zb a
 have eB:=Zb b
 refine ⟨fun m σ H2=>∃ j:Nat,j≤com a b∧m=com a b - j∧σ=[some (.str (rowS a)),some (.str (rowS b)),some (.int (j:Nat))]∧H2=H,⟨_,0,Nat.zero_le _,rfl,rfl,rfl⟩,?_⟩
 rintro m σ H2 ⟨j,hj,rfl,rfl,rfl⟩
 have hle:=Zcj (a:=a) (b:=b)
 have q':j=com a b→Q (.int ((j:Nat):Int)) H2:=fun e=>by rw [e];exact q
 rcases Nat.lt_or_ge j (com a b) with c | c
 ·obtain ⟨x,hx1,hx2⟩:=Xre c
  refine ⟨_,rfl,_,rfl,_,_,rfl,⟨hA,rfl⟩,.inl ⟨_,_,rfl,rfl,_,rfl,iteY (by omega) ?_⟩⟩
  refine ⟨_,rfl,_,rfl,_,_,rfl,⟨hB,rfl⟩,.inl ⟨_,_,rfl,rfl,_,rfl,iteY (by omega) ?_⟩⟩
  refine ⟨_,rfl,_,rfl,.inr ⟨_,_,bc x,rfl,rfl,hA,Xe (Zaa hx1),_,rfl,_,rfl,.inr ⟨_,_,bc x,rfl,rfl,hB,Xe (Zaa hx2),rfl,_,rfl,iteY rfl ?_⟩⟩⟩
  refine ⟨fun σ' H'=>∃ m',m'<com a b - j∧∃ j:Nat,j≤com a b∧m'=com a b - j∧σ'=[some (.str (rowS a)),some (.str (rowS b)),some (.int (j:Nat))]∧H'=H2,fun _ _ h=>h,?_⟩
  exact ⟨_,rfl,.inl ⟨_,_,rfl,rfl,com a b - (j+1),by omega,j+1,c,rfl,rfl,rfl⟩⟩
 ·have ej:j=com a b:=by omega
  rcases Xgi a b with h | h | ⟨x,y,h1,h2,h3⟩
  ·exact ⟨_,rfl,_,rfl,_,_,rfl,⟨hA,rfl⟩,.inl ⟨_,_,rfl,rfl,_,rfl,iteN (by omega) (iteF (⟨_,rfl,H2,.refl (Same.refl _),q' ej⟩))⟩⟩
  ·refine ⟨_,rfl,_,rfl,_,_,rfl,⟨hA,rfl⟩,.inl ⟨_,_,rfl,rfl,_,rfl,iteD (fun c1=>?_) (fun c1=>iteF (⟨_,rfl,H2,.refl (Same.refl _),q' ej⟩))⟩⟩
   exact ⟨_,rfl,_,rfl,_,_,rfl,⟨hB,rfl⟩,.inl ⟨_,_,rfl,rfl,_,rfl,iteN (by omega) (iteF (⟨_,rfl,H2,.refl (Same.refl _),q' ej⟩))⟩⟩
  ·have l1:=(List.getElem?_eq_some_iff.mp h1).1
   have l2:=(List.getElem?_eq_some_iff.mp h2).1
   rw [← ej] at h1 h2
   refine ⟨_,rfl,_,rfl,_,_,rfl,⟨hA,rfl⟩,.inl ⟨_,_,rfl,rfl,_,rfl,iteY (by omega) ?_⟩⟩
   refine ⟨_,rfl,_,rfl,_,_,rfl,⟨hB,rfl⟩,.inl ⟨_,_,rfl,rfl,_,rfl,iteY (by omega) ?_⟩⟩
   refine ⟨_,rfl,_,rfl,.inr ⟨_,_,bc x,rfl,rfl,hA,Xe (Zaa h1),_,rfl,_,rfl,.inr ⟨_,_,bc y,rfl,rfl,hB,Xe (Zaa h2),rfl,_,rfl,iteN ?_ (⟨_,rfl,H2,.refl (Same.refl _),q' ej⟩)⟩⟩⟩
   rw [Wr,Wr]
   intro z
   exact h3 (List.cons.inj (Qh (V.str.inj z))).1
theorem Zhc {f:Addr} {fd:FuncData} (F:FunAt K mg "shared_signs" Xq ["one","other"] f fd) (D_first_unlike:DefOk P w K mg base 1 "first_unlike" ["one","other"] spCom):DefOk P w K mg base 2 "shared_signs" ["one","other"] spCom:=by
 refine F.ok Zgj (fun vs H Q E h=>?_) (fun cdv A outer s H vs Q E hr h=>?_)
 ·obtain ⟨a,b,rfl,_⟩:=h;rfl
 obtain ⟨a,b,rfl,ha,hb,q⟩:=h
 refine ⟨_,(Zg (Zr (Zk D_first_unlike hr (Za (pv 0) (Za (pv 1) Ze))))),?_⟩
 try dsimp only [cxK0,cxK1,cxK2,cxK3]
 exact ⟨_,rfl,_,rfl,a,b,rfl,ha,hb,H,.refl (Same.refl _),q⟩
theorem Znf {f:Addr} {fd:FuncData} (nb:NB mg) (F:FunAt K mg "_law_common" Ym ["_law_one","_law_other"] f fd):DefOk P w K mg base 1 "_law_common" ["_law_one","_law_other"] spCom:=by
 refine F.ok sc_law_common (fun vs H Q E h=>?_) (fun cdv A outer s H vs Q E hr h=>?_)
 ·obtain ⟨a,b,rfl,_⟩:=h;rfl
 obtain ⟨a,b,rfl,ha,hb,q⟩:=h
 refine ⟨_,(Zd (Zi (i:=2) sc_law_common.nd rfl (by first | exact Or.inl rfl | exact Or.inr rfl) Zf)
  (Zd (Ws PassesOwn.never (PW.pt (Jd (Zn oEq (Zw slAll (pv 0) (Zv (pv 2)) (Zv (Zj oAdd (pv 2) Zf))) (Zw slAll (pv 1) (Zv (pv 2)) (Zv (Zj oAdd (pv 2) Zf))) (nomark _)) (Ja (Zn oLt (pv 2) (Zo Zs rfl nb.len_ Zy (Za (pv 0) Ze)) (nomark _)))))
   (Zg (Zi (i:=2) sc_law_common.nd rfl (by first | exact Or.inl rfl | exact Or.inr rfl) (Zj oAdd (pv 2) Zf))))
  (Zg (Zr (pv 2))))),?_⟩
 try dsimp only [cxK0,cxK1,cxK2,cxK3]
 have hA:(rowS a).length≤sizeLine:=by rw [Zb];exact small5 (by omega)
 have hB:(rowS b).length≤sizeLine:=by rw [Zb];exact small5 (by omega)
 have eA:=Zb a
 have eB:=Zb b
 refine ⟨fun m σ H2=>∃ j:Nat,j≤com a b∧m=com a b - j∧σ=[some (.str (rowS a)),some (.str (rowS b)),some (.int (j:Nat))]∧H2=H,⟨_,0,Nat.zero_le _,rfl,rfl,rfl⟩,?_⟩
 rintro m σ H2 ⟨j,hj,rfl,rfl,rfl⟩
 have hle:=Zcj (a:=a) (b:=b)
 have q':j=com a b→Q (.int ((j:Nat):Int)) H2:=fun e=>by rw [e];exact q
 refine ⟨_,rfl,_,rfl,_,rfl,_,rfl,.inl ⟨_,_,rfl,rfl,_,rfl,.inr ⟨_,rfl,hA,?_⟩⟩⟩
 refine ⟨_,rfl,_,rfl,_,rfl,_,rfl,.inl ⟨_,_,rfl,rfl,_,rfl,.inr ⟨_,rfl,hB,rfl,_,rfl,?_⟩⟩⟩
 rw [Qg,Qg,Zdi,take1,take1]
 rcases Nat.lt_or_ge j (com a b) with c | c
 ·obtain ⟨x,hx1,hx2⟩:=Xre c
  rw [hx1,hx2]
  refine iteY rfl ⟨_,rfl,_,rfl,_,_,rfl,⟨hA,rfl⟩,.inl ⟨_,_,rfl,rfl,_,rfl,iteY (by omega) ?_⟩⟩
  refine ⟨fun σ' H'=>∃ m',m'<com a b - j∧∃ j:Nat,j≤com a b∧m'=com a b - j∧σ'=[some (.str (rowS a)),some (.str (rowS b)),some (.int (j:Nat))]∧H'=H2,fun _ _ h=>h,?_⟩
  exact ⟨_,rfl,.inl ⟨_,_,rfl,rfl,com a b - (j+1),by omega,j+1,c,rfl,rfl,rfl⟩⟩
 ·have ej:j=com a b:=by omega
  refine iteD (fun ce=>?_) (fun _=>iteF (⟨_,rfl,H2,.refl (Same.refl _),q' ej⟩))
  refine ⟨_,rfl,_,rfl,_,_,rfl,⟨hA,rfl⟩,.inl ⟨_,_,rfl,rfl,_,rfl,iteN ?_ (⟨_,rfl,H2,.refl (Same.refl _),q' ej⟩)⟩⟩
  rcases Xgi a b with h | h | ⟨x,y,h1,h2,h3⟩
  ·omega
  ·intro z
   have l1:j<a.length:=by omega
   rw [List.getElem?_eq_getElem l1,List.getElem?_eq_none (by omega)] at ce
   cases ce
  ·rw [← ej] at h1 h2
   rw [h1,h2] at ce
   exact absurd (List.cons.inj ce).1 h3
theorem Wk {n:Nat} (h:n+1<2 ^ 255):(cnt n).length≤269:=by
 have:=Qw h
 have:=Yf h
 omega
theorem Yr {n:Nat} (h:n≤100000):n+1<2 ^ 255:=Nat.lt_of_le_of_lt (Nat.succ_le_succ h) (by decide +kernel)
theorem Zmh {rs:List (List Bool)} {i:Nat} {x:V} (h:(RL rs)[i]?=some x):∃ r,rs[i]?=some r∧rs.getD i []=r∧x = .str (rowS r):=by
 rw [List.getElem?_map] at h
 cases e:rs[i]? with
 | none=>rw [e] at h;cases h
 | some r=>rw [e] at h;cases h;exact ⟨r,rfl,by rw [List.getD_eq_getElem?_getD,e];rfl,rfl⟩
theorem slots2 {σ:St} (h:σ.length=2):∃ z1 z2,σ=[z1,z2]:=match σ,h with | [z1,z2],_=>⟨z1,z2,rfl⟩
noncomputable def spEntry:Sp:=fun vs H Q _=>∃ a r:List Bool,vs=[.str (rowS a),.str (rowS r)]∧a.length≤6000∧r.length≤6000∧Q (.str (rowS (ent a r))) H
theorem Zxh {f:Addr} {fd:FuncData} (nb:NB mg) (F:FunAt K mg "entry_of" Wi ["ahead","row"] f fd) (D_shared_signs:DefOk P w K mg base 2 "shared_signs" ["one","other"] spCom) (D_count_row:DefOk P w K mg base 2 "count_row" ["n"] spCountRow):DefOk P w K mg base 3 "entry_of" ["ahead","row"] spEntry:=by
 refine F.ok sc_entry_of (fun vs H Q E h=>?_) (fun cdv A outer s H vs Q E hr h=>?_)
 ·obtain ⟨a,r,rfl,_⟩:=h;rfl
 obtain ⟨a,r,rfl,ha,hb,q⟩:=h
 refine ⟨_,(Zd (Zi (i:=2) sc_entry_of.nd rfl (by first | exact Or.inl rfl | exact Or.inr rfl) (Zk D_shared_signs hr (Za (pv 0) (Za (pv 1) Ze))))
  (Zg (Zr (Zj oAdd (Zj oAdd (Zk D_count_row hr (Za (pv 2) Ze)) (Zk D_count_row hr (Za (Zj oSub (Zo Zs rfl nb.len_ Zy (Za (pv 1) Ze)) (pv 2)) Ze))) (Zw slAll (pv 1) (Zv (pv 2)) Xk))))),?_⟩
 try dsimp only [cxK0,cxK1,cxK2,cxK3]
 have hR:(rowS r).length≤sizeLine:=by rw [Zb];exact small5 (by omega)
 have eR:=Zb r
 have hc:=(Zcj (a:=a) (b:=r)).2
 have l1:=Wk (Yr (n:=com a r) (by omega))
 have l2:=Wk (Yr (n:=r.length - com a r) (by omega))
 refine ⟨_,rfl,_,rfl,a,r,rfl,by omega,by omega,?_⟩
 refine ⟨_,rfl,com a r,rfl,Yr (by omega),?_⟩
 refine ⟨_,rfl,_,_,rfl,⟨hR,rfl⟩,_,rfl,_,_,rfl,rfl,r.length - com a r,(congrArg (fun x=>[V.int x]) (by omega)),Yr (by omega),?_⟩
 refine .inr ⟨_,_,rfl,rfl,(by rw [Zb,Zb];exact small5 (by omega)),?_⟩
 refine ⟨_,rfl,_,rfl,_,rfl,.inr ⟨_,rfl,hR,?_⟩⟩
 rw [Zjd r _ hc,Zl]
 refine .inr ⟨_,_,rfl,rfl,(by rw [Zb,Zb,List.length_append,List.length_drop];exact small5 (by omega)),?_⟩
 rw [Zl]
 exact ⟨H,.refl (Same.refl _),q⟩
noncomputable def spAscend:Sp:=fun vs H Q _=>∃ (a:Addr) (rs:List (List Bool)),vs=[.ref a]∧H a=some (.lst (RL rs))∧rs.length≤1000∧Q (.bl (ascB rs)) H
theorem Xma (rs:List (List Bool)):((List.range (rs.length - 1)).map fun i=>decide (Lt (rs.getD i []) (rs.getD (i+1) []))).all id=ascB rs:=by
 induction rs with
 | nil=>rfl
 | cons a r ih =>
  cases r with
  | nil=>rfl
  | cons b r =>
   have e:(a::b::r).length - 1=((b::r).length - 1)+1:=rfl
   rw [e,List.range_succ_eq_map,List.map_cons,List.all_cons,List.map_map,ascB]
   congr 1
theorem Xjg {f:Addr} {fd:FuncData} (nb:NB mg) (F:FunAt K mg "ascend" Jg ["rows"] f fd):DefOk P w K mg base 1 "ascend" ["rows"] spAscend:=by
 refine F.ok Xia (fun vs H Q E h=>?_) (fun cdv A outer s H vs Q E hr h=>?_)
 ·obtain ⟨a,rs,rfl,_⟩:=h;rfl
 obtain ⟨a,rs,rfl,ha,hl,q⟩:=h
 refine ⟨_,(Zg (Zr (Zo (Xrg rfl) rfl nb.all_ Yah (Za (Jb ["one","other"] [] rfl (by decide +kernel) trivial (Xoe rfl nb.zip_ (Za (pv 0) (Za (Zw slAll (pv 0) (Zv Zf) Xk) Ze))) (fun _ _ _ _ _=>(Xof rfl (Wt (Xa (i:=0) (show (["one","other"]:List Str).Nodup by decide +kernel) rfl (by first | exact Or.inl rfl | exact Or.inr rfl)) (Wt (Xa (i:=1) (show (["one","other"]:List Str).Nodup by decide +kernel) rfl (by first | exact Or.inl rfl | exact Or.inr rfl)) Zef)))) (fun _ _ _ _ _=>Zec) (fun _ _ _ _ _=>(Xn oLt (pv 0) (pv 1) (nomark _)))) Ze)))),?_⟩
 try dsimp only [cxK0,cxK1,cxK2,cxK3]
 refine ⟨_,rfl,_,rfl,_,rfl,.inl ⟨a,_,rfl,SqL.of ha,fun p hp=>⟨a,p,_,_,rfl,SqL.of (Zh hp _ _ ha),SqL.of Zc,fun D hD=>?_⟩⟩⟩
 rw [Xlf] at hD ⊢
 have hs1:=Zh (o:=HO.lst ((RL rs).drop 1)) hp
 have hn:min (RL rs).length ((RL rs).drop 1).length=rs.length - 1:=by rw [List.length_drop,Zz];omega
 refine Zzh (fun i=>V.bl (decide (Lt (rs.getD i []) (rs.getD (i+1) [])))) (fun σ=>σ.length=2) (by omega) rfl hD (SqL.of (hs1 _ _ ha)) (SqL.of Zc) ?_ ?_
 ·intro i x y hx hy σ1 H1 T hS hs hT R hR
  obtain ⟨z1,z2,rfl⟩:=slots2 hS
  obtain ⟨r1,_,g1,rfl⟩:=Zmh hx
  rw [List.getElem?_drop,Nat.add_comm] at hy
  obtain ⟨r2,_,g2,rfl⟩:=Zmh hy
  refine ⟨T,_,rfl,SqT.of Zc,rfl,_,_,rfl,_,_,rfl,rfl,_,rfl,_,rfl,.inr ⟨_,_,rfl,rfl,?_⟩⟩
  have:=hR [some (.str (rowS r1)),some (.str (rowS r2))] _ rfl (Same.refl _)
  rw [g1,g2] at this
  exact this
 ·intro H' hs' hD'
  rw [hn] at hD'
  refine ⟨D,(List.range (rs.length - 1)).map fun i=>decide (Lt (rs.getD i []) (rs.getD (i+1) [])),rfl,SqL.of (by rw [hD',List.map_map];rfl),H,.refl (hs1.trans hs'),?_⟩
  rw [Xma]
  exact q
noncomputable def spPageOf:Sp:=fun vs H Q _=>∃ (a:Addr) (rs:List (List Bool)),vs=[.ref a]∧H a=some (.lst (RL rs))∧rs.length≤1000∧(∀ r∈rs,r.length≤6000)∧Asc rs∧Q (.str (rowS (page rs))) H
theorem Zzc {rs:List (List Bool)} {i:Nat} (h:∀ r∈rs,r.length≤6000):(rs.getD i []).length≤6000:=by
 rw [List.getD_eq_getElem?_getD]
 cases e:rs[i]? with
 | none=>exact Nat.zero_le _
 | some r=>exact h r (List.mem_of_getElem? e)
theorem Xmi (f:Nat→Nat) (k:Nat) (h:∀ i,f i≤k):∀ n,((List.range n).map f).sum≤k*n
 | 0=>Nat.zero_le _
 | n+1=>by
  rw [List.range_succ,List.map_append,List.sum_append,List.map_cons,List.map_nil,List.sum_cons,List.sum_nil]
  have:=Xmi f k h n
  have:=h n
  rw [Nat.mul_succ]
  omega
theorem Xcc {f:Addr} {fd:FuncData} (nb:NB mg) (F:FunAt K mg "page_of" Wv ["rows"] f fd) (D_ascend:DefOk P w K mg base 1 "ascend" ["rows"] spAscend) (D_entry_of:DefOk P w K mg base 3 "entry_of" ["ahead","row"] spEntry) (D_count_row:DefOk P w K mg base 2 "count_row" ["n"] spCountRow):DefOk P w K mg base 4 "page_of" ["rows"] spPageOf:=by
 refine F.ok sc_page_of (fun vs H Q E h=>?_) (fun cdv A outer s H vs Q E hr h=>?_)
 ·obtain ⟨a,rs,rfl,_⟩:=h;rfl
 obtain ⟨a,rs,rfl,ha,hl,hb,hA,q⟩:=h
 refine ⟨_,(Zd (Xc (Qb (Xv (Zk D_ascend hr (Za (pv 0) Ze)) (fun _=>rfl))) (Zg Js) Zt)
  (Zd (Xbf (i:=1)  ["ahead","row"] [] sc_page_of.nd rfl rfl rfl (by decide +kernel) trivial (Xoe rfl nb.zip_ (Za (Zj oAdd3 (Yg (Za Zu Ze)) (pv 0)) (Za (pv 0) Ze))) (fun _ _ _ _ _=>(Xof rfl (Wt (Xa (i:=0) (show (["ahead","row"]:List Str).Nodup by decide +kernel) rfl (by first | exact Or.inl rfl | exact Or.inr rfl)) (Wt (Xa (i:=1) (show (["ahead","row"]:List Str).Nodup by decide +kernel) rfl (by first | exact Or.inl rfl | exact Or.inr rfl)) Zef)))) (fun _ _ _ _ _=>Zec) (fun _ _ _ _ _=>(Zk D_entry_of hr (Za (pv 0) (Za (pv 1) Ze)))))
  (Zg (Zr (Zj oAdd3 (Zk D_count_row hr (Za (Zo Zs rfl nb.len_ Zy (Za (pv 0) Ze)) Ze)) (Zgd PySem.F.plainAttrs_str PySem.F.slot_str_join PySem.F.type_str_join Zif Zu (Za (pv 1) Ze))))))),?_⟩
 try dsimp only [cxK0,cxK1,cxK2,cxK3]
 refine ⟨_,rfl,a,rs,rfl,ha,hl,_,rfl,?_⟩
 rw [(Xsb rs).mpr hA]
 refine iteF ⟨(by show 1≤sizeLine;decide),fun p1 hp1=>?_⟩
 have s1':=Zh (o:=HO.lst [V.str (Str.ofString "")]) hp1
 refine ⟨_,rfl,.inr ⟨p1,a,_,_,rfl,rfl,Zc,s1' _ _ ha,(by rw [Zz];exact small5 (by show 1+_≤_;omega)),fun p2 hp2=>?_⟩⟩
 have s2':=s1'.trans (Zh (o:=HO.lst ([V.str (Str.ofString "")]++RL rs)) hp2)
 have e1:[V.str (Str.ofString "")]++RL rs=RL ([]::rs):=by rw [sE];rfl
 rw [e1] at s2' ⊢
 refine ⟨_,rfl,p2,a,_,_,rfl,SqL.of Zc,SqL.of (s2' _ _ ha),fun D hD=>?_⟩
 have hn:min (RL ([]::rs)).length (RL rs).length=rs.length:=by rw [Zz,Zz,List.length_cons];omega
 have hent:∀ i,(ent (([]::rs).getD i []) (rs.getD i [])).length≤6072:=fun i=>Zze (Zzc hb)
 refine Zzh (fun i=>V.str (rowS (ent (([]::rs).getD i []) (rs.getD i [])))) (fun σ=>σ.length=2) (by omega) rfl hD (SqL.of Zc) (SqL.of (s2' _ _ ha)) ?_ ?_
 ·intro i x y hx hy σ1 H1 T hS hs hT R hR
  obtain ⟨z1,z2,rfl⟩:=slots2 hS
  obtain ⟨r1,e1',g1,rfl⟩:=Zmh hx
  obtain ⟨r2,e2',g2,rfl⟩:=Zmh hy
  have hbc:∀ r∈[]::rs,r.length≤6000:=fun r hr=>by
   rcases List.mem_cons.mp hr with z | z
   ·rw [z];exact Nat.zero_le _
   ·exact hb r z
  have hb1:r1.length≤6000:=by rw [← g1];exact Zzc hbc
  have hb2:r2.length≤6000:=hb r2 (List.mem_of_getElem? e2')
  refine ⟨T,_,rfl,SqT.of Zc,rfl,_,_,rfl,_,_,rfl,rfl,_,rfl,_,rfl,r1,r2,rfl,by omega,by omega,?_⟩
  have:=hR [some (.str (rowS r1)),some (.str (rowS r2))] _ rfl (Same.refl _)
  rw [g1,g2] at this
  exact this
 ·intro H' hs' hD'
  rw [hn] at hD'
  have s3':=s2'.trans hs'
  refine ⟨_,rfl,_,_,rfl,.inl ⟨_,SqL.of (s3' _ _ ha),rfl⟩,rs.length,(by rw [Zz];rfl),Yr (by omega),?_⟩
  refine ⟨rfl,_,rfl,_,D,(List.range rs.length).map fun i=>rowS (ent (([]::rs).getD i []) (rs.getD i [])),rfl,rfl,SqL.of (by rw [hD',List.map_map];rfl),?_,?_⟩
  ·have:=Xmi (fun i=>(rowS (ent (([]::rs).getD i []) (rs.getD i []))).length) 6072 (fun i=>by rw [Zb];exact hent i) rs.length
   rw [List.map_map]
   have e0:(Str.ofString "").length=0:=by decide +kernel
   rw [e0,Nat.mul_zero,Nat.add_zero]
   exact small7 (Nat.le_trans this (by omega))
  ·have ej:Txt.join (Str.ofString "") ((List.range rs.length).map fun i=>rowS (ent (([]::rs).getD i []) (rs.getD i [])))=rowS (ents [] rs):=by
    rw [Xrb,← Qj,List.map_map];rfl
   rw [ej]
   refine .inl (.inr ⟨_,_,rfl,rfl,?_,?_⟩)
   ·have:=Zbi hb []
    have:=Wk (Yr (n:=rs.length) (by omega))
    rw [Zb,Zb];exact small7 (by omega)
   ·rw [Zl]
    exact ⟨H,.refl s3',q⟩
theorem Xfi {rs:List (List Bool)} (h:rs≠[]):atI (RL rs) (-1)=some (.str (rowS (rs.getLastD []))):=by
 obtain ⟨xs,x,rfl⟩:∃ xs x,rs=xs++[x]:=⟨rs.dropLast,rs.getLast h,(List.dropLast_concat_getLast h).symm⟩
 rw [Zdc]
 have:(xs++[x]).getLastD []=x:=by simp
 rw [this]
 exact Xsa _ _
theorem Zaf {rs:List (List Bool)} {k:Nat} (h:∀ x∈rs,x.length≤k):(rs.getLastD []).length≤k:=by
 cases rs with
 | nil=>exact Nat.zero_le _
 | cons a r =>
  have:(a::r).getLastD []∈a::r:=by
   rw [List.getLastD_cons]
   exact List.getLastD_mem_cons ..
  exact h _ this
theorem Jo {H H2:Hp} {r:Addr} {o:HO} (hs:Same H H2) (hr:H r=none):Same H (upd H2 r o):=fun b u e=>by rw [Zm (Zp e hr)];exact hs b u e
structure Base (K:PySem.W.Frag) (mg:Str→Option Value) (x:Str) (D:Addr):Prop where
 gm:mg x=some (.ref D)
 bg:PySem.W.specialIn K (.ref D) "__getattribute__"=some (some (.builtin "type.__getattribute__"))
 br:PySem.W.readsIn K D (.type "type")=true
 bf:PySem.W.findCls K (.ref D) (.type "type") "__init__"=some (.val (.builtin "ValueError.__init__"))
theorem Xpg (a:Str) (h:a.length≤100):(Str.empty++a).length≤100:=by
 rw [strLen_append]
 have:Str.empty.length=0:=rfl
 omega
theorem sz0 {n:Nat} (h:n≤3000):n≤sizeLine:=Nat.le_trans h (by decide)
theorem sz1 (a:Str) (ha:a.length≤100):(Str.empty++a).length≤sizeLine:=sz0 (Nat.le_trans (Xpg a ha) (by decide))
theorem sz2 (a:Str) (i:Int) (ha:a.length≤100) (h:i.natAbs.log2<1920):(Str.empty++a++Str.ofString (toString i)).length≤sizeLine:=by
 have h1:=Xpg a ha
 have h2:=PyProof.Rows.int_text_len_1921 h
 rw [strLen_append]
 exact sz0 (by omega)
theorem sz3 (a c:Str) (i:Int) (ha:a.length≤100) (hc:c.length≤100) (h:i.natAbs.log2<1920):(Str.empty++a++Str.ofString (toString i)++c).length≤sizeLine:=by
 have h1:=Xpg a ha
 have h2:=PyProof.Rows.int_text_len_1921 h
 rw [strLen_append,strLen_append]
 exact sz0 (by omega)
theorem Znh {f C D:Addr} {fd:FuncData} (xi:excInI K C f=true) (S:ExcS K C) (tk:PySem.W.takerIn K C "place"=some none) (B:Base K mg "RiseError" D) (F:Fun K "__init__" "Short.__init__" Wo f fd):FnOk P w K mg base CX0 1 f fd ["self","place"] (spXInit C):=by
 obtain ⟨gm_RiseError,bg_RiseError,br_RiseError,bf_RiseError⟩:=B
 refine F.ok Zna (fun vs H Q E h=>?_) (fun cdv A outer s H vs Q E hr h=>?_)
 ·obtain ⟨e,n,rfl,_⟩:=h;rfl
 obtain ⟨e,n,rfl,he,hs,q⟩:=h
 refine ⟨_,(Zd (Zee (Zwh xi gm_RiseError bg_RiseError br_RiseError bf_RiseError (Za (pv 0) (Za (Xij (Zrj Zu (Zrj (Xuc (pv 1)) (Zrj Zu Xxi)))) Ze))))
  (Zg (Xth (pv 0) (pv 1) rfl))),?_⟩
 try dsimp only [cxK0,cxK1,cxK2,cxK3]
 have a1:(Str.ofString "the signs end at place ").length≤100:=by decide +kernel
 have a2:(Str.ofString ", ahead of the row's end").length≤100:=by decide +kernel
 refine ⟨_,rfl,_,rfl,sz1 _ a1,_,rfl,_,rfl,hs,_,rfl,sz2 _ _ a1 hs,_,rfl,sz3 _ _ _ a1 a2 hs,sz3 _ _ _ a1 a2 hs,e,_,rfl,he,?_⟩
 exact ⟨_,rfl,_,rfl,e,C,rfl,he,S,tk,q⟩
theorem Xka {n:Nat} (h:n≤100000):((n:Nat):Int).natAbs.log2<1920:=by
 rw [Int.natAbs_natCast]
 by_cases z:n=0
 ·subst z;decide
 ·exact (Nat.log2_lt z).mpr (Nat.lt_of_le_of_lt h (by decide +kernel))
theorem Xmj {H:Hp} {p C dx d:Addr} {fs fs':List (Str×V)} {ys:List (Str×V)} (h:H p=some (.ins C dx fs)) (hd:H d=none):L2.Sub H (upd (upd H p (.ins C dx fs')) d (.xd ys)) (upd (upd H p (.ins C dx fs')) d (.xd ys)):=by
 have hpd:p≠d:=Zp h hd
 have hd':upd H p (.ins C dx fs') d=none:=by rw [Zm (Ne.symm hpd)];exact hd
 refine ⟨Same.refl _,fun b o e=>?_,fun c=>Jz ((Sub.ins (H':=upd H p (.ins C dx fs')) h (fun b u hb e=>by rw [Zm hb];exact e) Zc).cl c) hd' trivial⟩
 by_cases hb:b=p
 ·subst hb;exact ⟨_,by rw [Zm hpd,Zc]⟩
 ·exact ⟨o,by rw [Zm (Zp e hd),Zm hb];exact e⟩
noncomputable def ShE (C CS p dx:Addr) (l:List Bool) (H:Hp) (E:XK):Prop:=∀ t d,H d=none→E (.ref CS) (some d) (upd (upd H p (srcO C dx l l.length t)) d (xdP ((l.length:Nat):Int)))
theorem ShE.sub {C CS p dx:Addr} {l:List Bool} {H:Hp} {E:XK} {fs:List (Str×V)} (hp:H p=some (.ins C dx fs)) (h:ShE C CS p dx l H E):ShE C CS p dx l H (eSub H E):=fun t d hd=>⟨_,Xmj hp hd,h t d hd⟩
theorem ShE.on {C CS p dx:Addr} {l:List Bool} {H:Hp} {E:XK} {o:HO} {u:HO} (hp:H p=some u) (h:ShE C CS p dx l H E):ShE C CS p dx l (upd H p o) E:=fun t d hd=>by
 have hpd:d≠p:=fun z=>by rw [z,Zc] at hd;cases hd
 rw [Zm hpd] at hd
 rw [Xh]
 exact h t d hd
noncomputable def spDrawBad (C CS:Addr):Sp:=fun vs H _ E=>∃ (p dx:Addr) (l:List Bool) (t:Bool),vs=[.ref p]∧SrcAt H p C dx l l.length t∧l.length≤100000∧ShE C CS p dx l H E
theorem Xrj {f fS C C_Short:Addr} {fd fdS:FuncData} (nb:NB mg) (T:SrcCls K C) (XM_Short:XMk K mg "Short" C_Short fS) (XF_Short:FnOk P w K mg base CX0 1 fS fdS ["self","place"] (spXInit C_Short)) (XB_Short:Binds K fdS ["self","place"] []) (F:Fun K "draw" "Source.draw" Yq f fd):FnOk P w K mg base (CXe P w) 3 f fd ["self"] (spDrawBad C C_Short):=by
 refine F.okE sc_Source_draw (fun vs H Q E h=>?_) (fun cdv A outer s H vs Q E hr h=>?_)
 ·obtain ⟨p,dx,l,t,rfl,_⟩:=h;rfl
 obtain ⟨p,dx,l,t,rfl,⟨u,hp⟩,hl,q⟩:=h
 refine ⟨_,(Zd (Zi (i:=1) sc_Source_draw.nd rfl (by first | exact Or.inl rfl | exact Or.inr rfl) (Yy (pv 0) rfl))
  (Zd (Qr (pv 0) Zf rfl)
  (Zd (Xc (Zn oLt (Yy (pv 0) rfl) (Zo Zs rfl nb.len_ Zy (Za (Yy (pv 0) rfl) Ze)) (nomark _)) (Zd (Zi (i:=2) sc_Source_draw.nd rfl (by first | exact Or.inl rfl | exact Or.inr rfl) (Jp Jr rfl nb.int_ Zgb (Za (Xb iAll (Yy (pv 0) rfl) (Yy (pv 0) rfl) (fun _ _=>rfl)) Ze)))
   (Zd (Qr (pv 0) (Zj oAdd (Yy (pv 0) rfl) Zf) rfl)
   (Zg (Zr (Qi (Xv (Yy (pv 0) rfl) (fun _=>rfl)) (Zj oSub Zf (pv 2)) (pv 2)))))) Zt)
  (Zd (Xc (Qb (Xv (Yy (pv 0) rfl) (fun _=>rfl))) (Zg (Xif Qe XM_Short XF_Short XB_Short hr (Za (Zo Zs rfl nb.len_ Zy (Za (Yy (pv 0) rfl) Ze)) Ze))) Zt)
  (Zg (Zr (pv 1))))))),?_⟩
 try dsimp only [cxK0,cxK1,cxK2,cxK3]
 refine ⟨_,rfl,p,C,dx,_,_,rfl,hp,T.cl,T.nW,Zgf ..,?_⟩
 refine ⟨_,rfl,p,C,dx,_,rfl,hp,T.cl,T.nW,(by show 5<1000;decide),?_⟩
 rw [Zkb]
 refine ⟨_,rfl,p,C,dx,_,_,rfl,Zc,T.cl,T.nP,Jx ..,_,rfl,p,C,dx,_,_,rfl,Zc,T.cl,T.nS,Qu ..,_,_,rfl,⟨by rw [Zb];exact small5 hl,rfl⟩,.inl ⟨_,_,rfl,rfl,_,rfl,?_⟩⟩
 refine iteN (by rw [Zb];omega) ?_
 refine ⟨_,rfl,p,C,dx,_,_,rfl,Zc,T.cl,T.nE,Zta ..,_,rfl,iteT ?_⟩
 refine ⟨_,rfl,p,C,dx,_,_,rfl,Zc,T.cl,T.nS,Qu ..,_,_,rfl,⟨by rw [Zb];exact small5 hl,rfl⟩,_,rfl,(by rw [Zb];exact Xka hl),fun d hd=>?_⟩
 have hpd:d≠p:=fun z=>by rw [z,Zc] at hd;cases hd
 rw [Zm hpd] at hd
 have z:=(q.sub hp) t d hd
 rw [Zb]
 exact z
noncomputable def spDrawLowerBad (C CS:Addr):Sp:=fun vs H _ E=>∃ (p dx:Addr) (l:List Bool) (i d:Nat) (t:Bool),vs=[.ref p,.int d]∧H p=some (srcO C dx l i t)∧l.length≤100000∧i≤l.length∧d≤300∧l.length<i+d∧ShE C CS p dx l H E
theorem Qy {f C CS:Addr} {fd:FuncData} (nb:NB mg) (c_C:Cls K C) (F:FunAt K mg "draw_lower_digits" Zx ["source","width"] f fd) (M_draw:MethOk P w K mg base 1 C "draw" ["self"] (spDraw C)) (MB_draw:MethOkE P w K mg base 3 C "draw" ["self"] (spDrawBad C CS)):DefOkE P w K mg base 4 "draw_lower_digits" ["source","width"] (spDrawLowerBad C CS):=by
 refine F.okE sc_draw_lower_digits (fun vs H Q E h=>?_) (fun cdv A outer s H vs Q E hr h=>?_)
 ·obtain ⟨p,dx,l,i,d,t,rfl,_⟩:=h;rfl
 obtain ⟨p,dx,l,i,d,t,rfl,hp,hl,hi,h3,hd,q⟩:=h
 refine ⟨_,(Zd (Zi (i:=2) sc_draw_lower_digits.nd rfl (by first | exact Or.inl rfl | exact Or.inr rfl) Zf)
  (Zd (Qc PassesOwn.leaving rfl (Wa rfl nb.range_ (Za (pv 1) Ze)) (Xa (i:=3) sc_draw_lower_digits.nd rfl (by first | exact Or.inl rfl | exact Or.inr rfl))
   (Zg (Zi (i:=2) sc_draw_lower_digits.nd rfl (by first | exact Or.inl rfl | exact Or.inr rfl) (Zj oAdd (Zj oMul Zf (pv 2)) (Zkc M_draw MB_draw c_C hr passes_fn.x (pv 0))))))
  (Zg (Zr (pv 2))))),?_⟩
 try dsimp only [cxK0,cxK1,cxK2,cxK3]
 have nm:∀ (z:Str) (i:Int) (t:Bool),(flds z i t).lookup ("draw":Str)=none:=fun _ _ _=>Zbf _ _ _ (by decide +kernel) (by decide +kernel) (by decide +kernel)
 refine ⟨_,rfl,_,rfl,by omega,by omega,?_⟩
 refine Wb (fun j σ H2=>i+j≤l.length∧∃ (m:Int) (z:Option V),σ=[some (.ref p),some (.int d),some (.int m),z]∧H2=upd H p (srcO C dx l (i+j) t)) ?_ ?_ ?_
 ·exact ⟨hi,1,none,rfl,(Qd hp).symm⟩
 ·rintro j σ H2 hj ⟨hij,m,z,rfl,rfl⟩
  refine ⟨_,rfl,.inl ⟨_,_,rfl,rfl,.inl ⟨by decide,by decide⟩,_,rfl,p,dx,_,rfl,Zc,nm ..,?_⟩⟩
  rcases Nat.lt_or_ge (i+j) l.length with c | c
  ·obtain ⟨b,hb1,hb2⟩:=get_map (l:=l) (t:=t) (i:=i+j) c
   exact .inl ⟨p,dx,l,i+j,t,b,rfl,⟨_,Zc⟩,hl,hb1,.inl ⟨_,_,rfl,rfl,by omega,_,_,rfl,by rw [Xh];rfl⟩⟩
  ·have ej:i+j=l.length:=by omega
   rw [ej]
   exact .inr ⟨p,dx,l,t,rfl,⟨_,Zc⟩,hl,(q.sub hp).on hp⟩
 ·rintro σ H2 ⟨hij,_⟩
  exact absurd hij (by omega)
noncomputable def spDrawCountBad (C CS:Addr):Sp:=fun vs H _ E=>∃ (p dx:Addr) (l:List Bool) (i:Nat) (t:Bool),vs=[.ref p]∧SrcAt H p C dx l i t∧l.length≤100000∧i≤l.length∧(∀ n,n+1<2 ^ 255→¬cnt n <+: (l.map (xor t)).drop i)∧ShE C CS p dx l H E
theorem Zmd {f C CS:Addr} {fd:FuncData} (g_MOST_AHEAD:GlobV mg "MOST_AHEAD" (.int 7)) (c_C:Cls K C) (F:FunAt K mg "draw_count" Ya ["source"] f fd) (M_draw:MethOk P w K mg base 1 C "draw" ["self"] (spDraw C)) (MB_draw:MethOkE P w K mg base 3 C "draw" ["self"] (spDrawBad C CS))
  (D_draw_lower_digits:DefOk P w K mg base 2 "draw_lower_digits" ["source","width"] (spDrawLower C)) (DB_draw_lower_digits:DefOkE P w K mg base 4 "draw_lower_digits" ["source","width"] (spDrawLowerBad C CS)):DefOkE P w K mg base 5 "draw_count" ["source"] (spDrawCountBad C CS):=by
 refine F.okE sc_draw_count (fun vs H Q E h=>?_) (fun cdv A outer s H vs Q E hr h=>?_)
 ·obtain ⟨p,dx,l,i,t,rfl,_⟩:=h;rfl
 obtain ⟨p,dx,l,i,t,rfl,⟨u0,hp⟩,hl,hi,hc,q⟩:=h
 refine ⟨_,(Zd (Zi (i:=1) sc_draw_count.nd rfl (by first | exact Or.inl rfl | exact Or.inr rfl) Zf)
  (Zd (Ws PassesOwn.leaving (PW.pt (Jd (Zn oLt (pv 1) (Ye g_MOST_AHEAD) (nomark _)) (Ja (Zn oEq (Zkc M_draw MB_draw c_C hr passes_fn.x (pv 0)) Zf (nomark _)))))
   (Zg (Zi (i:=1) sc_draw_count.nd rfl (by first | exact Or.inl rfl | exact Or.inr rfl) (Zj oAdd (pv 1) Zf))))
  (Zd (Zi (i:=2) sc_draw_count.nd rfl (by first | exact Or.inl rfl | exact Or.inr rfl) (Yd D_draw_lower_digits DB_draw_lower_digits hr passes_fn.x (Za (pv 0) (Za (pv 1) Ze))))
  (Zg (Zr (Zj oSub (Yd D_draw_lower_digits DB_draw_lower_digits hr passes_fn.x (Za (pv 0) (Za (Zj oSub (pv 2) Zf) Ze))) Zf)))))),?_⟩
 try dsimp only [cxK0,cxK1,cxK2,cxK3]
 have nm:∀ (z:Str) (i:Int) (t:Bool) (u:Int),(fldsW z i t u).lookup ("draw":Str)=none:=fun _ _ _ _=>Zbf _ _ _ (by decide +kernel) (by decide +kernel) (by decide +kernel)
 have qs:=q.sub hp
 refine ⟨fun m σ H2=>∃ (j:Nat) (u:Int),j≤7∧m=8 - j∧i+j≤l.length∧(∀ k,k<j→(l.map (xor t)).getD (i+k) false=true)∧σ=[some (.ref p),some (.int (j:Nat)),none]∧(j≠0→u=0)∧H2=upd H p (.ins C dx (fldsW (rowS l) ((i+j:Nat):Int) t u)),⟨8,0,u0,Nat.zero_le _,rfl,hi,(fun k hk=>absurd hk (Nat.not_lt_zero _)),rfl,(fun z=>absurd rfl z),(Qd hp).symm⟩,?_⟩
 rintro m σ H2 ⟨j,u,hj,rfl,hij,ho,rfl,hu,rfl⟩
 refine ⟨_,rfl,.inl ⟨_,_,rfl,rfl,_,rfl,?_⟩⟩
 refine iteD (fun c=>?_) (fun c=>?_)
 ·have hj7:j<7:=by omega
  rcases Nat.lt_or_ge (i+j) l.length with c | c
  ·obtain ⟨b,hb1,hb2⟩:=get_map (l:=l) (t:=t) (i:=i+j) c
   refine ⟨_,rfl,p,dx,_,rfl,Zc,nm ..,.inl ⟨p,dx,l,i+j,t,b,rfl,⟨_,Zc⟩,hl,hb1,rfl,_,rfl,?_⟩⟩
   rw [Xh,← hb2]
   cases hb3:(l.map (xor t)).getD (i+j) false with
   | true =>
    refine iteY rfl ⟨fun σ' H'=>∃ m',m'<8 - j∧∃ (j':Nat) (u:Int),j'≤7∧m'=8 - j'∧i+j'≤l.length∧(∀ k,k<j'→(l.map (xor t)).getD (i+k) false=true)∧σ'=[some (.ref p),some (.int (j':Nat)),none]∧(j'≠0→u=0)∧H'=upd H p (.ins C dx (fldsW (rowS l) ((i+j':Nat):Int) t u)),fun _ _ h=>h,?_⟩
    refine ⟨_,rfl,.inl ⟨_,_,rfl,rfl,8 - (j+1),by omega,j+1,0,by omega,rfl,by omega,fun k hk=>?_,rfl,(fun _=>rfl),rfl⟩⟩
    rcases Nat.lt_or_ge k j with kj | kj
    ·exact ho k kj
    ·have:k=j:=by omega
     rw [this];exact hb3
   | false =>
    refine iteN (by intro z;cases z) ?_
    have hz:j<7→(l.map (xor t)).getD (i+j) false=false:=fun _=>hb3
    obtain ⟨s0,hs0,es⟩:∃ s0,s0=i+j+(cend (j+1)).length∧s0=i+j+1:=⟨i+j+1,by unfold cend;rw [if_neg (by omega)];rfl,rfl⟩
    have ex:upd H p (HO.ins C dx (flds (rowS l) ((i+j+1:Nat):Int) t))=upd H p (srcO C dx l s0 t):=by rw [es]
    rw [ex]
    have hsl:s0≤l.length:=by omega
    have hlm:(l.map (xor t)).length=l.length:=List.length_map ..
    rcases Nat.lt_or_ge l.length (s0+j) with c1 | c1
    ·exact ⟨_,rfl,_,rfl,.inr ⟨p,dx,l,s0,j,t,rfl,Zc,hl,hsl,by omega,c1,qs.on hp⟩⟩
    refine ⟨_,rfl,_,rfl,.inl ⟨p,dx,l,s0,j,t,rfl,Zc,hl,c1,?_⟩⟩
    obtain ⟨d,hd⟩:∃ d,d=rd 1 (((l.map (xor t)).drop s0).take j):=⟨_,rfl⟩
    have hd0:d≠0:=by rw [hd];exact (Jl _ 1 (by decide)).2.2
    have hdl:d<2 ^ 8:=by
     have b1:=(Jl (((l.map (xor t)).drop s0).take j) 1 (by decide)).1
     rw [← hd,Qm,List.length_take,List.length_drop,hlm] at b1
     have b2:=Wq d
     exact Nat.lt_of_lt_of_le b2 (Nat.pow_le_pow_right (by decide) (by omega))
    rw [← hd,Xh]
    have ad:[V.ref p,V.int ((d:Nat):Int)]=[V.ref p,V.int ((d:Nat):Int)]:=rfl
    have ae:[V.ref p,V.int (((d:Nat):Int) - 1)]=[V.ref p,.int ((d - 1:Nat):Int)]:=by
     have:((d:Nat):Int) - 1=((d - 1:Nat):Int):=by omega
     rw [this]
    refine ⟨_,rfl,_,rfl,_,_,rfl,rfl,?_⟩
    rcases Nat.lt_or_ge l.length (s0+j+(d - 1)) with c2 | c2
    ·exact .inr ⟨p,dx,l,s0+j,d - 1,t,ae,Zc,hl,c1,(by show d - 1≤300;omega),c2,qs.on hp⟩
    ·rw [hs0] at hd c2
     obtain ⟨n,_,hn,hpre,_⟩:=Zcb (L:=l.map (xor t)) hj ho hz hd (by rw [hlm];exact c2)
     exact (hc n hn hpre).elim
  ·have ej:i+j=l.length:=by omega
   rw [ej]
   exact ⟨_,rfl,p,dx,_,rfl,Zc,nm ..,.inr ⟨p,dx,l,t,rfl,⟨_,Zc⟩,hl,qs.on hp⟩⟩
 ·have ej:j=7:=by omega
  have hz:j<7→(l.map (xor t)).getD (i+j) false=false:=fun z=>absurd z (by omega)
  obtain ⟨s0,hs0,es⟩:∃ s0,s0=i+j+(cend (j+1)).length∧s0=i+j:=⟨i+j,by unfold cend;rw [if_pos (by omega)];rfl,rfl⟩
  have hj0:j≠0:=by omega
  rw [hu hj0]
  rw [← es]
  have hsl:s0≤l.length:=by omega
  have hlm:(l.map (xor t)).length=l.length:=List.length_map ..
  rcases Nat.lt_or_ge l.length (s0+j) with c1 | c1
  ·exact ⟨_,rfl,_,rfl,.inr ⟨p,dx,l,s0,j,t,rfl,Zc,hl,hsl,by omega,c1,qs.on hp⟩⟩
  refine ⟨_,rfl,_,rfl,.inl ⟨p,dx,l,s0,j,t,rfl,Zc,hl,c1,?_⟩⟩
  obtain ⟨d,hd⟩:∃ d,d=rd 1 (((l.map (xor t)).drop s0).take j):=⟨_,rfl⟩
  have hd0:d≠0:=by rw [hd];exact (Jl _ 1 (by decide)).2.2
  have hdl:d<2 ^ 8:=by
   have b1:=(Jl (((l.map (xor t)).drop s0).take j) 1 (by decide)).1
   rw [← hd,Qm,List.length_take,List.length_drop,hlm] at b1
   have b2:=Wq d
   exact Nat.lt_of_lt_of_le b2 (Nat.pow_le_pow_right (by decide) (by omega))
  rw [← hd,Xh]
  have ad:[V.ref p,V.int ((d:Nat):Int)]=[V.ref p,V.int ((d:Nat):Int)]:=rfl
  have ae:[V.ref p,V.int (((d:Nat):Int) - 1)]=[V.ref p,.int ((d - 1:Nat):Int)]:=by
   have:((d:Nat):Int) - 1=((d - 1:Nat):Int):=by omega
   rw [this]
  refine ⟨_,rfl,_,rfl,_,_,rfl,rfl,?_⟩
  rcases Nat.lt_or_ge l.length (s0+j+(d - 1)) with c2 | c2
  ·exact .inr ⟨p,dx,l,s0+j,d - 1,t,ae,Zc,hl,c1,(by show d - 1≤300;omega),c2,qs.on hp⟩
  ·rw [hs0] at hd c2
   obtain ⟨n,_,hn,hpre,_⟩:=Zcb (L:=l.map (xor t)) hj ho hz hd (by rw [hlm];exact c2)
   exact (hc n hn hpre).elim
noncomputable def RdE (CS:Addr) (n:Nat) (H:Hp) (E:XK):Prop:=∀ d,H d=none→E (.ref CS) (some d) (upd H d (xdP ((n:Nat):Int)))
noncomputable def spReadCountBad (CS:Addr):Sp:=fun vs H _ E=>∃ (l:List Bool) (i:Nat),vs=[.str (rowS l),.int i]∧l.length≤100000∧i≤l.length∧(∀ n,n+1<2 ^ 255→¬cnt n <+: l.drop i)∧RdE CS l.length H E
theorem RdE.src {CS C x dx:Addr} {l:List Bool} {H:Hp} {E:XK} {fs:List (Str×V)} (nx:H x=none) (ndx:H dx=none) (ne:dx≠x) (h:RdE CS l.length H E):ShE C CS x dx l (upd (upd (upd H dx (.own x)) x (.ins C dx [])) x (.ins C dx fs)) (eSub H E):=fun t d hd=>by
 rw [Xh] at hd ⊢
 rw [Xh]
 have h1:d≠x:=fun z=>by rw [z,Zc] at hd;cases hd
 rw [Zm h1] at hd
 have h2:d≠dx:=fun z=>by rw [z,Zc] at hd;cases hd
 rw [Zm h2] at hd
 refine ⟨_,.new hd (fun b o e=>?_) Zc trivial,h d hd⟩
 rw [Zm (Zp e hd),Zm (Zp e nx),Zm (Zp e ndx)];exact e
theorem Zmc {f C CS:Addr} {fd:FuncData} (T:SrcCls K C) (F:FunAt K mg "read_count" Xz ["signs","at"] f fd) (M_Source:MakeOk P w K mg base 1 "Source" C ["self","signs","at"] (spSrcInit C)) (DB_draw_count:DefOkE P w K mg base 5 "draw_count" ["source"] (spDrawCountBad C CS)):DefOkE P w K mg base 6 "read_count" ["signs","at"] (spReadCountBad CS):=by
 refine F.okE sc_read_count (fun vs H Q E h=>?_) (fun cdv A outer s H vs Q E hr h=>?_)
 ·obtain ⟨l,i,rfl,_⟩:=h;rfl
 obtain ⟨l,i,rfl,hl,hi,hc,q⟩:=h
 refine ⟨_,(Zd (Zi (i:=2) sc_read_count.nd rfl (by first | exact Or.inl rfl | exact Or.inr rfl) (Zwg M_Source hr (Za (pv 0) (Za (pv 1) Ze))))
  (Zd (Zi (i:=3) sc_read_count.nd rfl (by first | exact Or.inl rfl | exact Or.inr rfl) (Zac DB_draw_count hr passes_fn.x (Za (pv 2) Ze)))
  (Zg (Zr (Jt (Za (pv 3) (Za (Yy (pv 2) rfl) Ze))))))),?_⟩
 try dsimp only [cxK0,cxK1,cxK2,cxK3]
 refine ⟨_,rfl,_,rfl,fun x dx nx ndx nex=>?_⟩
 refine ⟨x,dx,_,_,rfl,Zc,rfl,?_⟩
 exact ⟨_,rfl,x,dx,l,i,false,rfl,⟨_,Zc⟩,hl,hi,by rw [Zyb];exact hc,q.src nx ndx nex⟩
noncomputable def spLawPage (K:PySem.W.Frag):Sp:=fun vs H Q _=>∃ (a:Addr) (rs:List (List Bool)),vs=[.ref a]∧SqL K H a (RL rs)∧rs.length≤1000∧(∀ r∈rs,r.length≤6000)∧Q (.str (rowS (page rs))) H
theorem Zxe {f:Addr} {fd:FuncData} (nb:NB mg) (F:FunAt K mg "_law_page" Wf ["_law_rows_here"] f fd) (D_law_count:DefOk P w K mg base 2 "_law_count" ["_law_n"] spLawCount) (D_law_common:DefOk P w K mg base 1 "_law_common" ["_law_one","_law_other"] spCom):DefOk P w K mg base 3 "_law_page" ["_law_rows_here"] (spLawPage K):=by
 refine F.ok sc_law_page (fun vs H Q E h=>?_) (fun cdv A outer s H vs Q E hr h=>?_)
 ·obtain ⟨a,rs,rfl,_⟩:=h;rfl
 obtain ⟨a,rs,rfl,ha,hn,hb,q⟩:=h
 refine ⟨_,(Zd (Zi (i:=1) sc_law_page.nd rfl (by first | exact Or.inl rfl | exact Or.inr rfl) (Zk D_law_count hr (Za (Zo Zs rfl nb.len_ Zy (Za (pv 0) Ze)) Ze)))
  (Zd (Zi (i:=2) sc_law_page.nd rfl (by first | exact Or.inl rfl | exact Or.inr rfl) Zu)
  (Zd (Qc PassesOwn.never rfl (piAll (pv 0)) (Xa (i:=3) sc_law_page.nd rfl (by first | exact Or.inl rfl | exact Or.inr rfl))
   (Zd (Zi (i:=4) sc_law_page.nd rfl (by first | exact Or.inl rfl | exact Or.inr rfl) (Zk D_law_common hr (Za (pv 2) (Za (pv 3) Ze))))
   (Zd (Zi (i:=1) sc_law_page.nd rfl (by first | exact Or.inl rfl | exact Or.inr rfl) (Zj oAdd (Zj oAdd (pv 1) (Zk D_law_count hr (Za (pv 4) Ze))) (Zk D_law_count hr (Za (Zj oSub (Zo Zs rfl nb.len_ Zy (Za (pv 3) Ze)) (pv 4)) Ze))))
   (Zd (Zi (i:=1) sc_law_page.nd rfl (by first | exact Or.inl rfl | exact Or.inr rfl) (Zj oAdd (pv 1) (Zw slAll (pv 3) (Zv (pv 4)) Xk)))
   (Zg (Zi (i:=2) sc_law_page.nd rfl (by first | exact Or.inl rfl | exact Or.inr rfl) (pv 3)))))))
  (Zg (Zr (pv 1)))))),?_⟩
 try dsimp only [cxK0,cxK1,cxK2,cxK3]
 refine ⟨_,rfl,_,_,rfl,.inl ⟨_,ha,rfl⟩,rs.length,(by rw [Zz];rfl),Yr (by omega),?_⟩
 refine .inl ⟨_,rfl,a,rfl,⟨_,ha⟩,?_⟩
 refine Xqh (xs:=RL rs) (fun i σ H2=>H2=H∧∃ z1 z2,σ=[some (.ref a),some (.str (rowS (cnt rs.length++ents [] (rs.take i)))),some (.str (rowS ((rs.take i).getLastD []))),z1,z2]) ?_ ?_ ?_ ?_
 ·exact ⟨rfl,_,_,by rw [sE,List.take_zero];show _=[_,some (V.str (rowS (_++[]))),_,_,_];rw [List.append_nil];rfl⟩
 ·rintro i σ H2 _ ⟨rfl,_⟩;exact ha
 ·rintro i x σ H2 hx ⟨rfl,z1,z2,rfl⟩
  obtain ⟨r,er,_,rfl⟩:=Zmh hx
  have hrm:=hb r (List.mem_of_getElem? er)
  have hlm:=Zaf (rs:=rs.take i) (k:=6000) fun y hy=>hb y (List.mem_of_mem_take hy)
  have hlen:=Zlg hb i hn
  have hlen2:=Zlg hb (i+1) hn
  have hps:=Xja er
  have hls:=Xkb er
  generalize cnt rs.length++ents [] (rs.take i)=told at *
  generalize (rs.take i).getLastD []=la at *
  have hR:(rowS r).length≤sizeLine:=by rw [Zb];exact small5 (by omega)
  have eR:=Zb r
  have hc:=(Zcj (a:=la) (b:=r)).2
  have l1:=Wk (Yr (n:=com la r) (by omega))
  have l2:=Wk (Yr (n:=r.length - com la r) (by omega))
  refine ⟨_,rfl,_,rfl,la,r,rfl,by omega,by omega,?_⟩
  refine ⟨_,rfl,_,rfl,com la r,rfl,Yr (by omega),.inr ⟨_,_,rfl,rfl,(by rw [Zb,Zb];exact small7 (by omega)),?_⟩⟩
  rw [Zl]
  refine ⟨_,rfl,_,_,rfl,⟨hR,rfl⟩,_,rfl,_,_,rfl,rfl,r.length - com la r,(congrArg (fun x=>[V.int x]) (by omega)),Yr (by omega),.inr ⟨_,_,rfl,rfl,(by rw [Zb,Zb,List.length_append];exact small7 (by omega)),?_⟩⟩
  rw [Zl]
  refine ⟨_,rfl,_,rfl,_,rfl,_,rfl,.inr ⟨_,rfl,hR,?_⟩⟩
  rw [Zjd r _ hc]
  refine .inr ⟨_,_,rfl,rfl,(by rw [Zb,Zb,List.length_append,List.length_append,List.length_drop];exact small7 (by omega)),?_⟩
  rw [Zl]
  have et:told++cnt (com la r)++cnt (r.length - com la r)++r.drop (com la r)=cnt rs.length++ents [] (rs.take (i+1)):=by
   rw [hps];unfold ent;simp only [List.append_assoc]
  rw [et]
  refine ⟨_,rfl,rfl,some (.str (rowS r)),some (.int ((com la r:Nat):Int)),?_⟩
  rw [hls]
  rfl
 ·rintro σ H2 ⟨rfl,z1,z2,rfl⟩
  rw [Zz,List.take_length]
  exact ⟨_,rfl,H2,.refl (Same.refl _),q⟩
noncomputable def spLawRows (K:PySem.W.Frag):Sp:=fun vs H Q _=>∃ (a:Addr) (ns:List Int) (m:Nat),vs=[.ref a,.int ((m:Nat):Int)]∧SqL K H a (ns.map V.int)∧ns.length≤63∧m≤40∧
 ∀ rs:List (List Bool),Asc rs→rs.length≤m→(∀ r∈rs,r.length≤60)→∀ r,H r=none→Q (.ref r) (upd H r (.lst (RL rs)))
theorem Xse (rs:List (List Bool)) (t:Nat) (r:List Bool):(RL rs).take t++V.str (rowS r)::(RL rs).drop t=RL (rs.take t++r::rs.drop t):=by
 show _=List.map _ (rs.take t++r::rs.drop t)
 rw [List.map_append,List.map_cons,List.map_take,List.map_drop]
theorem Xvd (v:Int):∃ x:List Bool,x.length≤2∧atI [V.str (Str.ofString "0"),.str (Str.ofString "1"),.str (Str.ofString "01"),.str (Str.ofString "10"),.str (Str.ofString "11")] (v%5)=some (.str (rowS x)):=by
 have e:[V.str (Str.ofString "0"),.str (Str.ofString "1"),.str (Str.ofString "01"),.str (Str.ofString "10"),.str (Str.ofString "11")]=([[false],[true],[false,true],[true,false],[true,true]]:List (List Bool)).map fun l=>V.str (rowS l):=by decide +kernel
 rw [e]
 obtain ⟨x,hx,h⟩:=Zei (fun l=>V.str (rowS l)) [[false],[true],[false,true],[true,false],[true,true]] v 5 rfl (by decide)
 have:∀ y∈([[false],[true],[false,true],[true,false],[true,true]]:List (List Bool)),y.length≤2:=by decide
 exact ⟨x,this x hx,h⟩
theorem Xqi (v:Int):∃ x:List Bool,x.length≤2∧atI [V.str (Str.ofString "00"),.str (Str.ofString "01"),.str (Str.ofString "10"),.str (Str.ofString "11"),.str (Str.ofString "")] (v%5)=some (.str (rowS x)):=by
 have e:[V.str (Str.ofString "00"),.str (Str.ofString "01"),.str (Str.ofString "10"),.str (Str.ofString "11"),.str (Str.ofString "")]=([[false,false],[false,true],[true,false],[true,true],[]]:List (List Bool)).map fun l=>V.str (rowS l):=by decide +kernel
 rw [e]
 obtain ⟨x,hx,h⟩:=Zei (fun l=>V.str (rowS l)) [[false,false],[false,true],[true,false],[true,true],[]] v 5 rfl (by decide)
 have:∀ y∈([[false,false],[false,true],[true,false],[true,true],[]]:List (List Bool)),y.length≤2:=by decide
 exact ⟨x,this x hx,h⟩
theorem Xsh (v:Int):∃ b:Bool,atI [V.str (Str.ofString "0"),.str (Str.ofString "1")] (v%2)=some (.str (rowS [b])):=by
 have e:[V.str (Str.ofString "0"),.str (Str.ofString "1")]=([false,true]:List Bool).map fun b=>V.str (rowS [b]):=by decide +kernel
 rw [e]
 obtain ⟨x,hx,h⟩:=Zei (fun b:Bool=>V.str (rowS [b])) [false,true] v 2 rfl (by decide)
 exact ⟨x,h⟩
theorem Xnb (l:List Bool):∃ l',Txt.slice (rowS l) none (some 60)=rowS l'∧l'.length≤60:=by
 refine ⟨_,Wl ..,?_⟩
 rw [List.length_take,List.length_drop]
 have e1:HT.sIx l.length 0 none=0:=rfl
 have e2:HT.sIx l.length l.length (some 60)≤60:=by
  unfold HT.sIx
  show (if (60:Int)<0 then _ else _)≤60
  rw [if_neg (by decide)]
  omega
 omega
theorem Xnc (l:List Bool) (k:Int) (h0:0≤k) (h:k≤40):∃ l',Txt.slice (rowS l) none (some k)=rowS l'∧l'.length≤40:=by
 refine ⟨_,Wl ..,?_⟩
 rw [List.length_take,List.length_drop]
 have e1:HT.sIx l.length 0 none=0:=rfl
 have e2:HT.sIx l.length l.length (some k)≤40:=by
  unfold HT.sIx
  show (if k<0 then _ else _)≤40
  rw [if_neg (by omega)]
  omega
 omega
theorem seqC {t1 t2:TS} {k:Ends} {σ:St} {H:Hp} (P:St→Hp→Prop) (h2:∀ σ' H',P σ' H'→t2 k σ' H') (h1:∀ N:St→Hp→Prop,(∀ σ' H',P σ' H'→N σ' H')→t1 {k with nx:=N} σ H):tSeq t1 t2 k σ H:=h1 _ h2
theorem asgC {c:V} {j:Nat} {R:TS} {D:Ends} {σ:St} {H:Hp} (h:R D (σ.set j (some c)) H):tSeq (tAsg (tC c) (gName j)) R D σ H:=h
set_option maxHeartbeats 4000000 in
theorem Zxd {f:Addr} {fd:FuncData} (nb:NB mg) (F:FunAt K mg "_law_rows" We ["_law_script","_law_most"] f fd) (D_law_cell_at:DefOk P w K mg base 1 "_law_cell_at" ["_law_script","_law_k"] (spCellAt K)) (D_law_mixed:DefOk P w K mg base 1 "_law_mixed" ["_law_cell","_law_k"] spMixed) (D_law_free_row:DefOk P w K mg base 1 "_law_free_row" ["_law_rest","_law_most"] spFreeRow):DefOk P w K mg base 2 "_law_rows" ["_law_script","_law_most"] (spLawRows K):=by
 refine F.ok sc_law_rows (fun vs H Q E h=>?_) (fun cdv A outer s H vs Q E hr h=>?_)
 ·obtain ⟨a,ns,m,rfl,_⟩:=h;rfl
 obtain ⟨a,ns,m,rfl,hS,hl,hm,q⟩:=h
 refine ⟨_,(Zd (Zi (i:=2) sc_law_rows.nd rfl (by first | exact Or.inl rfl | exact Or.inr rfl) (Xn oEq (Zj Xw (Zk D_law_cell_at hr (Za (pv 0) (Za Zf Ze))) Zf) Zf (nomark _)))
  (Zd (Zi (i:=3) sc_law_rows.nd rfl (by first | exact Or.inl rfl | exact Or.inr rfl) Zu)
  (Zd (Zi (i:=4) sc_law_rows.nd rfl (by first | exact Or.inl rfl | exact Or.inr rfl) (Yg Ze))
  (Zd (Qc PassesOwn.never rfl (Wa rfl nb.range_ (Za (Zo Zs rfl nb.len_ Zy (Za (Zw slAll (pv 0) Xk (Zv (pv 1))) Ze)) Ze)) (Xa (i:=5) sc_law_rows.nd rfl (by first | exact Or.inl rfl | exact Or.inr rfl))
   (Zd (Zi (i:=6) sc_law_rows.nd rfl (by first | exact Or.inl rfl | exact Or.inr rfl) (Zk D_law_mixed hr (Za (Xb iAll (pv 0) (pv 5) (fun _ _=>rfl)) (Za (pv 5) Ze))))
   (Zd (Zi (i:=3) sc_law_rows.nd rfl (by first | exact Or.inl rfl | exact Or.inr rfl) (Zj oAdd (pv 3) (Xb iAll (Yg (Za Zu (Za Zu (Za Zu (Za Zu (Za Zu Ze)))))) (Zj Xw (pv 6) Zf) (fun _ _=>rfl))))
   (Zd (Zi (i:=7) sc_law_rows.nd rfl (by first | exact Or.inl rfl | exact Or.inr rfl) (Zw slAll (pv 3) Xk (Zv (Zj Xw (Zj Wp (pv 6) Zf) (Zj oAdd Zf (Zo (Xli rfl) rfl nb.min_ Yag (Za (Zo Zs rfl nb.len_ Zy (Za (pv 3) Ze)) (Za Zf Ze))))))))
   (Zd (Qc PassesOwn.never rfl (Wa rfl nb.range_ (Za (Zj Xw (Zj Wp (pv 6) Zf) Zf) Ze)) (Xa (i:=8) sc_law_rows.nd rfl (by first | exact Or.inl rfl | exact Or.inr rfl))
    (Zg (Zi (i:=7) sc_law_rows.nd rfl (by first | exact Or.inl rfl | exact Or.inr rfl) (Zj oAdd (pv 7) (Xb iAll (Yg (Za Zu (Za Zu (Za Zu (Za Zu (Za Zu Ze)))))) (Zj Xw (Zk D_law_mixed hr (Za (Xb iAll (pv 0) (pv 5) (fun _ _=>rfl)) (Za (Zj oAdd (Zj oAdd (pv 5) (Zj oMul Zf (pv 8))) Zf) Ze))) Zf) (fun _ _=>rfl))))))
   (Zd (Xc (Zn oEq (Zj Xw (Zj Wp (pv 6) Zf) Zf) Zf (nomark _)) (Zg (Zi (i:=7) sc_law_rows.nd rfl (by first | exact Or.inl rfl | exact Or.inr rfl) (Zw slAll (Zj oAdd (pv 7) (Zj oMul (Xb iAll (Yg (Za Zu (Za Zu Ze))) (Zj Xw (pv 6) Zf) (fun _ _=>rfl)) Zf)) Xk (Zv Zf)))) Zt)
   (Zd (Xc (Xv (pv 2) (fun _=>rfl)) (Zg (Zi (i:=7) sc_law_rows.nd rfl (by first | exact Or.inl rfl | exact Or.inr rfl) (Zk D_law_free_row hr (Za (Zj Wp (Xb iAll (pv 0) (pv 5) (fun _ _=>rfl)) Zf) (Za Zf Ze))))) Zt)
   (Zd (Zi (i:=9) sc_law_rows.nd rfl (by first | exact Or.inl rfl | exact Or.inr rfl) Zf)
   (Zd (Ws PassesOwn.never (PW.pt (Jd (Zn oLt (pv 9) (Zo Zs rfl nb.len_ Zy (Za (pv 4) Ze)) (nomark _)) (Ja (Zn oLt (Xb iAll (pv 4) (pv 9) (fun _ _=>rfl)) (pv 7) (nomark _)))))
    (Zg (Zi (i:=9) sc_law_rows.nd rfl (by first | exact Or.inl rfl | exact Or.inr rfl) (Zj oAdd (pv 9) Zf))))
   (Zg (Xc (PW.pt (Zpd (Zn oEq (pv 9) (Zo Zs rfl nb.len_ Zy (Za (pv 4) Ze)) (nomark _)) (Zfd (Zn oNe (Xb iAll (pv 4) (pv 9) (fun _ _=>rfl)) (pv 7) (nomark _))))) (Zg (Zee (Zgd PySem.F.plainAttrs_list PySem.F.slot_list_insert PySem.F.type_list_insert Xji (pv 4) (Za (pv 9) (Za (pv 7) Ze))))) Zt)))))))))))
  (Zg (Zr (pv 4))))))),?_⟩
 try dsimp only [cxK0,cxK1,cxK2,cxK3]
 refine ⟨_,rfl,a,ns,0,rfl,hS,hl,_,_,rfl,rfl,(by show (0:Int)<2;decide),rfl,?_⟩
 generalize decide (V.int (ns.getD 0 0%2)=V.int 1)=free
 refine ⟨Nat.zero_le _,fun r hr2=>?_⟩
 have s1':=Zh (o:=HO.lst []) hr2
 refine ⟨_,rfl,_,rfl,_,rfl,.inl ⟨a,_,rfl,s1'.seq hS,fun p hp=>⟨_,_,rfl,.inl ⟨_,SqL.of Zc,rfl⟩,?_⟩⟩⟩
 have hcut:=Zai (ns.map V.int) none (some ((m:Nat):Int))
 have hcut2:(cutV (ns.map V.int) none (some ((m:Nat):Int))).length≤m:=by
  unfold cutV HT.sIx
  rw [List.length_take,List.length_drop]
  dsimp only
  rw [if_neg (by omega)]
  omega
 rw [List.length_map] at hcut
 have hrp:r≠p:=fun e=>by rw [← e,Zc] at hp;cases hp
 refine ⟨_,rfl,by omega,by omega,?_⟩
 refine Wb (fun i σ H2=>∃ (base0:List Bool) (rs:List (List Bool)) (z5 z6 z7 z8 z9:Option V),base0.length≤2*i∧Asc rs∧rs.length≤i∧(∀ x∈rs,x.length≤60)∧Same H H2∧H2 r=some (.lst (RL rs))∧σ=[some (.ref a),some (.int ((m:Nat):Int)),some (.bl free),some (.str (rowS base0)),some (.ref r),z5,z6,z7,z8,z9]) ?_ ?_ ?_
 ·exact ⟨[],[],_,_,_,_,_,Nat.le_refl _,trivial,Nat.le_refl _,(fun x hx=>nomatch hx),s1'.trans (Zh hp),(by rw [Zm hrp];exact Zc),by rw [← sE];rfl⟩
 ·rintro i σ H2 hi ⟨base0,rs,z5,z6,z7,z8,z9,hbl,hA,hrl,hrb,hs,hrv,rfl⟩
  rw [Int.zero_add]
  have hS2:=hs.seq hS
  have hk:i<ns.length:=by omega
  have hat:=Xe (xs:=ns.map V.int) (j:=i) (by rw [List.getElem?_map,List.getElem?_eq_getElem hk];rfl)
  refine ⟨_,rfl,_,rfl,.inl (.inl ⟨_,_,_,_,rfl,rfl,hS2,hat,_,rfl,_,_,rfl,fun v hv0 hv1=>?_⟩)⟩
  obtain ⟨x1,hx1,hx1'⟩:=Xvd v
  refine ⟨_,rfl,(by show 5≤sizeLine;decide),fun g1 hg1=>⟨_,rfl,_,_,rfl,rfl,(by show (0:Int)<5;decide),.inl (.inl ⟨_,_,_,_,rfl,rfl,SqL.of Zc,hx1',.inr ⟨_,_,rfl,rfl,(by rw [Zb,Zb];exact small5 (by omega)),?_⟩⟩)⟩⟩
  rw [Zl]
  have s2':=Zh (o:=HO.lst [V.str (Str.ofString "0"),.str (Str.ofString "1"),.str (Str.ofString "01"),.str (Str.ofString "10"),.str (Str.ofString "11")]) hg1
  have hbl1:(base0++x1).length≤2*(i+1):=by rw [List.length_append];omega
  have hs2:=hs.trans s2'
  have hrv2:=s2' _ _ hrv
  generalize base0++x1=base1 at hbl1 ⊢
  have hB:(rowS base1).length≤sizeLine:=by rw [Zb];exact small5 (by omega)
  have hpos:(0:Int)<1+(if (40:Int)<((rowS base1).length:Int) then 40 else ((rowS base1).length:Int)):=by split<;>omega
  refine ⟨_,rfl,_,rfl,_,_,rfl,rfl,⟨by decide,by decide⟩,_,rfl,_,_,rfl,⟨hB,rfl⟩,_,_,rfl,.inl ⟨_,_,rfl,rfl,_,_,rfl,rfl,hpos,_,rfl,.inr ⟨_,rfl,hB,?_⟩⟩⟩
  have hk40:v/5%(1+(if (40:Int)<((rowS base1).length:Int) then 40 else ((rowS base1).length:Int)))≤40:=by
   have h1:=(modb (a:=v/5) hpos).2
   have h2:(if (40:Int)<((rowS base1).length:Int) then 40 else ((rowS base1).length:Int))≤40:=by split<;>omega
   omega
  obtain ⟨row0,er0,hr0⟩:=Xnc base1 (v/5%(1+(if (40:Int)<((rowS base1).length:Int) then 40 else ((rowS base1).length:Int)))) (modb hpos).1 hk40
  rw [er0]
  obtain ⟨m1,m2⟩:=modb (a:=v/1000) (b:=4) (by decide)
  refine ⟨_,rfl,_,_,rfl,rfl,⟨by decide,by decide⟩,_,_,rfl,rfl,(by show (0:Int)<4;decide),_,rfl,by omega,by omega,?_⟩
  refine Wb (fun j σ H3=>∃ (row:List Bool) (z8 z9:Option V),row.length≤40+2*j∧Same H H3∧H3 r=some (.lst (RL rs))∧σ=[some (.ref a),some (.int ((m:Nat):Int)),some (.bl free),some (.str (rowS base1)),some (.ref r),some (.int ((i:Nat):Int)),some (.int v),some (.str (rowS row)),z8,z9]) ?_ ?_ ?_
  ·exact ⟨row0,_,_,hr0,hs2,hrv2,rfl⟩
  ·rintro j σ H3 hj ⟨row,z8,z9,hrow,hs3,hrv3,rfl⟩
   rw [Int.zero_add]
   refine ⟨_,rfl,(by show 5≤sizeLine;decide),fun g2 hg2=>?_⟩
   have s4':=Zh (o:=HO.lst [V.str (Str.ofString "00"),.str (Str.ofString "01"),.str (Str.ofString "10"),.str (Str.ofString "11"),.str (Str.ofString "")]) hg2
   refine ⟨_,rfl,_,rfl,.inl (.inl ⟨_,_,_,_,rfl,rfl,(hs3.trans s4').seq hS,hat,_,rfl,_,rfl,.inl ⟨_,_,rfl,rfl,.inl ⟨by decide,by decide⟩,.inl ⟨_,_,rfl,rfl,.inl ⟨_,_,rfl,rfl,_,_,rfl,fun v2 hw0 hw1=>?_⟩⟩⟩⟩)⟩
   obtain ⟨x2,hx2,hx2'⟩:=Xqi v2
   refine ⟨_,_,rfl,rfl,(by show (0:Int)<5;decide),.inl (.inl ⟨_,_,_,_,rfl,rfl,SqL.of Zc,hx2',.inr ⟨_,_,rfl,rfl,(by rw [Zb,Zb];exact small5 (by omega)),?_⟩⟩)⟩
   rw [Zl]
   exact ⟨row++x2,_,_,(by rw [List.length_append];omega),hs3.trans s4',s4' _ _ hrv3,rfl⟩
  rintro σ H3 ⟨row,z8,z9,hrow,hs3,hrv3,rfl⟩
  have hrow60:row.length≤60:=by omega
  dsimp only
  refine seqC (t1:=tIfS (tTest _) _ tNext) (fun σ' H'=>Same H H'∧H' r=some (.lst (RL rs))∧∃ (rw0:List Bool) (z8 z9:Option V),rw0.length≤60∧σ'=[some (.ref a),some (.int ((m:Nat):Int)),some (.bl free),some (.str (rowS base1)),some (.ref r),some (.int ((i:Nat):Int)),some (.int v),some (.str (rowS rw0)),z8,z9]) ?_ (fun N hN=>?_)
  rotate_left
  ·refine ⟨_,rfl,_,_,rfl,rfl,⟨by decide,by decide⟩,_,_,rfl,rfl,(by show (0:Int)<5;decide),rfl,_,rfl,iteD (fun c4=>?_) (fun c4=>?_)⟩
   ·obtain ⟨b2,hb2⟩:=Xsh v
    refine ⟨_,rfl,(by show 2≤sizeLine;decide),fun g3 hg3=>?_⟩
    have s5':=Zh (o:=HO.lst [V.str (Str.ofString "0"),.str (Str.ofString "1")]) hg3
    have e60:Txt.mul (rowS [b2]) 60=rowS (List.replicate 60 b2):=Qs b2 60
    refine ⟨_,rfl,_,_,rfl,rfl,(by show (0:Int)<2;decide),.inl (.inl ⟨_,_,_,_,rfl,rfl,SqL.of Zc,hb2,.inr ⟨_,_,rfl,rfl,by decide,by decide,(by rw [Zb];exact small5 (by show 1*60≤100000;decide)),?_⟩⟩)⟩
    rw [e60]
    refine .inr ⟨_,_,rfl,rfl,(by rw [Zb,Zb,List.length_replicate];exact small5 (by omega)),?_⟩
    rw [Zl]
    refine ⟨_,rfl,.inr ⟨_,rfl,(by rw [Zb,List.length_append,List.length_replicate];exact small5 (by omega)),?_⟩⟩
    obtain ⟨rw0,erw0,hrw0⟩:=Xnb (row++List.replicate 60 b2)
    rw [erw0]
    exact hN _ _ ⟨hs3.trans s5',s5' _ _ hrv3,rw0,_,_,hrw0,rfl⟩
   ·exact hN _ _ ⟨hs3,hrv3,row,_,_,hrow60,rfl⟩
  clear hrow60 hrow hs3 hrv3 row z8 z9
  rintro σ' H3 ⟨hs3,hrv3,rw0,z8,z9,hrw0,rfl⟩
  refine seqC (t1:=tIfS _ _ tNext) (fun σ' H'=>Same H H'∧H' r=some (.lst (RL rs))∧∃ (rw1:List Bool) (z8 z9:Option V),rw1.length≤60∧σ'=[some (.ref a),some (.int ((m:Nat):Int)),some (.bl free),some (.str (rowS base1)),some (.ref r),some (.int ((i:Nat):Int)),some (.int v),some (.str (rowS rw1)),z8,z9]) ?_ (fun N hN=>?_)
  rotate_left
  ·refine ⟨_,rfl,free,rfl,?_⟩
   cases hfree:free with
   | true =>
    refine iteT ⟨_,rfl,_,rfl,.inl (.inl ⟨_,_,_,_,rfl,rfl,hs3.seq hS,hat,_,_,rfl,rfl,⟨by decide,by decide⟩,_,60,rfl,by decide,fun rw1 hrw1=>?_⟩)⟩
    exact hN _ _ ⟨hs3,hrv3,rw1,_,_,hrw1,by rw [hfree];rfl⟩
   | false=>exact iteF (hN _ _ ⟨hs3,hrv3,rw0,_,_,hrw0,by rw [hfree]⟩)
  clear hrw0 hs3 hrv3 rw0 z8 z9
  rintro σ' H3 ⟨hsx,hrvx,rw1,z8,z9,hrw1,rfl⟩
  refine ⟨fun mm σ H4=>∃ (t:Nat) (z8:Option V),t≤rs.length∧mm=rs.length - t∧(∀ y∈rs.take t,Lt y rw1)∧Same H H4∧H4 r=some (.lst (RL rs))∧σ=[some (.ref a),some (.int ((m:Nat):Int)),some (.bl free),some (.str (rowS base1)),some (.ref r),some (.int ((i:Nat):Int)),some (.int v),some (.str (rowS rw1)),z8,some (.int ((t:Nat):Int))],
   ⟨_,0,_,Nat.zero_le _,rfl,(fun y hy=>nomatch hy),hsx,hrvx,rfl⟩,?_⟩
  rintro mm σ H4 ⟨t,z8,ht,rfl,hpre,hs4,hrv4,rfl⟩
  refine ⟨_,rfl,_,rfl,_,_,rfl,.inl ⟨_,SqL.of hrv4,rfl⟩,.inl ⟨_,_,rfl,rfl,_,rfl,?_⟩⟩
  rw [Zz]
  refine iteD (fun c=>?_) (fun c=>?_)
  ·have htl:t<rs.length:=by omega
   have ert:=List.getElem?_eq_getElem htl
   generalize rs[t]=rt at ert
   have hatr:=Xe (xs:=RL rs) (j:=t) (Xwf ert)
   refine ⟨_,rfl,_,rfl,.inl (.inl ⟨_,_,_,_,rfl,rfl,SqL.of hrv4,hatr,_,rfl,.inr ⟨_,_,rfl,rfl,_,rfl,?_⟩⟩)⟩
   by_cases hlt:Lt rt rw1
   ·rw [Yca hlt]
    refine iteT ⟨fun σ' H'=>∃ m',m'<rs.length - t∧∃ (t:Nat) (z8:Option V),t≤rs.length∧m'=rs.length - t∧(∀ y∈rs.take t,Lt y rw1)∧Same H H'∧H' r=some (.lst (RL rs))∧σ'=[some (.ref a),some (.int ((m:Nat):Int)),some (.bl free),some (.str (rowS base1)),some (.ref r),some (.int ((i:Nat):Int)),some (.int v),some (.str (rowS rw1)),z8,some (.int ((t:Nat):Int))],fun _ _ h=>h,?_⟩
    refine ⟨_,rfl,.inl ⟨_,_,rfl,rfl,rs.length - (t+1),by omega,t+1,_,by omega,rfl,fun y hy=>?_,hs4,hrv4,rfl⟩⟩
    rw [List.take_add_one,ert] at hy
    rcases List.mem_append.mp hy with z | z
    ·exact hpre y z
    ·rw [List.mem_singleton.mp z];exact hlt
   ·rw [Ycb hlt]
    refine iteF ⟨_,rfl,_,rfl,_,_,rfl,.inl ⟨_,SqL.of hrv4,rfl⟩,rfl,_,rfl,iteN (fun z=>by have:=V.int.inj z;rw [Zz] at this;omega) ?_⟩
    refine ⟨_,rfl,_,rfl,.inl (.inl ⟨_,_,_,_,rfl,rfl,SqL.of hrv4,hatr,_,rfl,rfl,_,rfl,?_⟩)⟩
    rw [Zdi]
    by_cases heq:rt=rw1
    ·rw [decide_eq_true heq]
     exact iteF ⟨base1,rs,_,_,_,_,_,hbl1,hA,by omega,hrb,hs4,hrv4,rfl⟩
    ·rw [decide_eq_false heq]
     have hasc:Asc (rs.take t++rw1::rs.drop t):=Zue hA hpre fun y hy=>by
      rw [ert] at hy;cases hy
      rcases Zsj rt rw1 with z | z | z
      ·exact absurd z hlt
      ·exact absurd z heq
      ·exact z
     refine iteT ?_
     refine ⟨_,rfl,.inl ⟨rfl,_,SqL.of hrv4⟩,_,rfl,_,rfl,r,RL rs,_,t,_,rfl,rfl,hrv4,rfl,(by rw [Zz];omega),(by rw [Zz];omega),?_⟩
     have eins:=Xse rs t rw1
     rw [eins]
     refine ⟨base1,rs.take t++rw1::rs.drop t,_,_,_,_,_,hbl1,hasc,(by rw [List.length_append,List.length_cons,List.length_take,List.length_drop];omega),(fun y hy=>?_),Jo hs4 hr2,Zc,rfl⟩
     rcases List.mem_append.mp hy with z | z
     ·exact hrb y (List.mem_of_mem_take z)
     rcases List.mem_cons.mp z with z | z
     ·rw [z];exact hrw1
     ·exact hrb y (List.mem_of_mem_drop z)
  ·have etl:t=rs.length:=by omega
   have hasc:Asc (rs.take t++rw1::rs.drop t):=Zue hA hpre fun y hy=>by rw [List.getElem?_eq_none (by omega)] at hy;cases hy
   refine iteF ⟨_,rfl,_,rfl,_,_,rfl,.inl ⟨_,SqL.of hrv4,rfl⟩,rfl,_,rfl,iteY (by rw [Zz,etl]) ?_⟩
   refine iteT ?_
   refine ⟨_,rfl,.inl ⟨rfl,_,SqL.of hrv4⟩,_,rfl,_,rfl,r,RL rs,_,t,_,rfl,rfl,hrv4,rfl,(by rw [Zz];omega),(by rw [Zz];omega),?_⟩
   have eins:=Xse rs t rw1
   rw [eins]
   refine ⟨base1,rs.take t++rw1::rs.drop t,_,_,_,_,_,hbl1,hasc,(by rw [List.length_append,List.length_cons,List.length_take,List.length_drop];omega),(fun y hy=>?_),Jo hs4 hr2,Zc,rfl⟩
   rcases List.mem_append.mp hy with z | z
   ·exact hrb y (List.mem_of_mem_take z)
   rcases List.mem_cons.mp z with z | z
   ·rw [z];exact hrw1
   ·exact hrb y (List.mem_of_mem_drop z)
 ·rintro σ H2 ⟨base0,rs,z5,z6,z7,z8,z9,hbl,hA,hrl,hrb,hs,hrv,rfl⟩
  exact ⟨_,rfl,_,.new hr2 hs hrv trivial,q rs hA (by omega) hrb r hr2⟩
theorem Zrh (n d k:Nat):HT.sIx n d (some ((k:Nat):Int))=min k n:=by
 exact HT.sIx_nat n d k
theorem Qa (l:List Bool) (s:Nat):Txt.slice (rowS l) (some ((s:Nat):Int)) none=rowS (l.drop s):=by
 rw [Wl,Zrh]
 congr 1
 show (l.drop (min s l.length)).take (l.length - min s l.length)=l.drop s
 rcases Nat.le_total s l.length with c | c
 ·rw [Nat.min_eq_left c];exact List.take_of_length_le (by rw [List.length_drop];omega)
 ·rw [Nat.min_eq_right c,List.drop_of_length_le c,List.drop_length];exact List.take_nil
theorem Qn (l:List Bool) (i m:Nat):Txt.slice (rowS l) (some ((i:Nat):Int)) (some ((i+m:Nat):Int))=rowS ((l.drop i).take m):=by
 rw [Wl,Zrh,Zrh]
 congr 1
 rcases Nat.le_total i l.length with c | c
 ·rw [Nat.min_eq_left c]
  rcases Nat.le_total (i+m) l.length with c2 | c2
  ·rw [Nat.min_eq_left c2];congr 1;omega
  ·rw [Nat.min_eq_right c2,List.take_of_length_le (by rw [List.length_drop];omega),List.take_of_length_le (by rw [List.length_drop];omega)]
 ·rw [Nat.min_eq_right c,List.drop_of_length_le c,List.drop_length];simp
noncomputable def mayB (rs:List (List Bool)) (s:Nat) (rest:List Bool):Bool :=
 if rs=[] then decide (s=0) else decide (s≤(rs.getLastD []).length)&&(decide (Lt ((rs.getLastD []).drop s) rest)&&decide (com ((rs.getLastD []).drop s) rest=0))
theorem mayB_iff {rs:List (List Bool)} {s:Nat} {rest:List Bool}:mayB rs s rest=true↔s≤(rs.getLastD []).length∧com (rs.getLastD []) ((rs.getLastD []).take s++rest)=s∧(rs.isEmpty=true∨Lt (rs.getLastD []) ((rs.getLastD []).take s++rest)):=by
 unfold mayB
 by_cases h:rs=[]
 ·subst h
  rw [if_pos rfl,decide_eq_true_iff]
  constructor
  ·rintro rfl;exact ⟨Nat.le_refl _,Ztj _,.inl rfl⟩
  ·rintro ⟨a,_⟩;exact Nat.le_zero.mp a
 ·rw [if_neg h]
  simp only [Bool.and_eq_true,decide_eq_true_iff]
  have he:rs.isEmpty=false:=by cases rs with | nil=>exact absurd rfl h | cons _ _=>rfl
  constructor
  ·rintro ⟨a,b⟩
   have:=(Zld a).mp b
   exact ⟨a,this.1,.inr this.2⟩
  ·rintro ⟨a,b,c⟩
   rw [he] at c
   exact ⟨a,(Zld a).mpr ⟨b,c.resolve_left (by decide)⟩⟩
noncomputable def spMayAny:Sp:=fun vs H Q _=>∃ (a:Addr) (rs:List (List Bool)) (s:Nat) (rest:List Bool),vs=[.ref a,.int ((s:Nat):Int),.str (rowS rest)]∧H a=some (.lst (RL rs))∧rs.length≤10000∧(∀ x∈rs,x.length≤10000)∧rest.length≤10000∧Q (.bl (mayB rs s rest)) H
theorem Zmg {f:Addr} {fd:FuncData} (nb:NB mg) (F:FunAt K mg "may_follow" Yj ["rows","shared","rest"] f fd) (D_shared_signs:DefOk P w K mg base 2 "shared_signs" ["one","other"] spCom):DefOk P w K mg base 3 "may_follow" ["rows","shared","rest"] spMayAny:=by
 refine F.ok sc_may_follow (fun vs H Q E h=>?_) (fun cdv A outer s H vs Q E hr h=>?_)
 ·obtain ⟨a,rs,s,r,rfl,_⟩:=h;rfl
 obtain ⟨a,rs,s,r,rfl,ha,hl,hb,hrl,q⟩:=h
 refine ⟨_,(Zd (Xc (Zn oEq (Zo Zs rfl nb.len_ Zy (Za (pv 0) Ze)) Zf (nomark _)) (Zg (Zr (Xn oEq (pv 1) Zf (nomark _)))) Zt)
  (Zd (Zi (i:=3) sc_may_follow.nd rfl (by first | exact Or.inl rfl | exact Or.inr rfl) (Xb iAll (pv 0) (Zpf Zfb Zf) (fun _ _=>rfl)))
  (Zd (Zi (i:=4) sc_may_follow.nd rfl (by first | exact Or.inl rfl | exact Or.inr rfl) (Zw slAll (pv 3) (Zv (pv 1)) Xk))
  (Zg (Zr (Zfe (Xn oLe (pv 1) (Zo Zs rfl nb.len_ Zy (Za (pv 3) Ze)) (nomark _)) (Zfe (Xn oLt (pv 4) (pv 2) (nomark _)) (Zcf (Xn oEq (Zk D_shared_signs hr (Za (pv 4) (Za (pv 2) Ze))) Zf (nomark _)))))))))),?_⟩
 try dsimp only [cxK0,cxK1,cxK2,cxK3]
 refine ⟨_,rfl,_,_,rfl,.inl ⟨_,SqL.of ha,rfl⟩,rfl,_,rfl,?_⟩
 rw [Zz]
 unfold mayB at q
 by_cases h0:rs=[]
 ·rw [if_pos h0] at q
  subst h0
  refine iteY rfl ⟨_,rfl,rfl,H,.refl (Same.refl _),?_⟩
  have e1:decide (V.int ((s:Nat):Int)=V.int 0)=decide (s=0):=decide_eq_decide.mpr ⟨fun z=>by have:=V.int.inj z;omega,fun z=>by rw [z];rfl⟩
  rw [← e1] at q
  exact q
 ·rw [if_neg h0] at q
  have hp:=List.length_pos_iff.mpr h0
  refine iteN (fun z=>by have:=V.int.inj z;omega) ?_
  have hll:=Zaf hb
  have hL:=Xfi h0
  generalize rs.getLastD []=la at *
  have hla:(rowS la).length≤sizeLine:=by rw [Zb];exact small5 (by omega)
  refine ⟨_,rfl,_,rfl,.inl (.inl ⟨_,_,_,_,rfl,rfl,SqL.of ha,hL,?_⟩)⟩
  refine ⟨_,rfl,_,rfl,_,rfl,.inr ⟨_,rfl,hla,?_⟩⟩
  rw [Qa la s]
  refine ⟨_,rfl,_,rfl,_,_,rfl,⟨hla,rfl⟩,_,_,rfl,rfl,_,rfl,?_⟩
  rw [Zb]
  refine iteD (fun c=>?_) (fun c=>?_)
  ·have c':s≤la.length:=by omega
   rw [decide_eq_true c',Bool.true_and] at q
   refine ⟨_,rfl,_,rfl,.inr ⟨_,_,rfl,rfl,_,rfl,?_⟩⟩
   refine iteD (fun c1=>?_) (fun c1=>?_)
   ·rw [decide_eq_true (show Lt (la.drop s) r from c1),Bool.true_and] at q
    refine ⟨_,rfl,_,rfl,_,_,rfl,(by rw [List.length_drop];omega),(by omega),rfl,H,.refl (Same.refl _),?_⟩
    have e1:decide (V.int ((com (la.drop s) r:Nat):Int)=V.int 0)=decide (com (la.drop s) r=0):=decide_eq_decide.mpr ⟨fun z=>by have:=V.int.inj z;omega,fun z=>by rw [z];rfl⟩
    rw [← e1] at q
    exact q
   ·rw [decide_eq_false (show ¬Lt (la.drop s) r from c1),Bool.false_and] at q
    exact ⟨H,.refl (Same.refl _),q⟩
  ·rw [decide_eq_false (show ¬s≤la.length from fun z=>c (by omega)),Bool.false_and] at q
   exact ⟨H,.refl (Same.refl _),q⟩
noncomputable def spEntAny:Sp:=fun vs H Q _=>∃ (l:List Bool) (i:Nat) (a:Addr) (rs:List (List Bool)) (r:List Bool) (j:Nat),vs=[.str (rowS l),.int ((i:Nat):Int),.ref a]∧l.length≤9000∧i≤l.length∧H a=some (.lst (RL rs))∧rs.length≤10000∧(∀ x∈rs,x.length≤10000)∧entR l (rs.getLastD []) rs.isEmpty i=some (r,j)∧
 ∀ t,H t=none→Q (.ref t) (upd H t (.tup [.str (rowS r),.int ((j:Nat):Int)]))
noncomputable def spEntBad (CS CB:Addr):Sp:=fun vs H _ E=>∃ (l:List Bool) (i:Nat) (a:Addr) (rs:List (List Bool)),vs=[.str (rowS l),.int ((i:Nat):Int),.ref a]∧l.length≤9000∧i≤l.length∧H a=some (.lst (RL rs))∧rs.length≤10000∧(∀ x∈rs,x.length≤10000)∧entR l (rs.getLastD []) rs.isEmpty i=none∧RdE CS l.length H E∧E (.ref CB) none H
theorem RdE.on {CS:Addr} {n:Nat} {H H2:Hp} {E:XK} (hs:Same H H2) (h:RdE CS n H E):RdE CS n H2 (eSub H E):=fun d hd=>⟨_,.new (hs.free hd) (hs.trans (Zh hd)) Zc trivial,h d (hs.free hd)⟩
set_option maxHeartbeats 1000000 in
theorem Zmf {f:Addr} {fd:FuncData} (nb:NB mg) (F:FunAt K mg "read_entry" Xy ["page","at","rows"] f fd) (D_read_count:DefOk P w K mg base 4 "read_count" ["signs","at"] spReadCount) (D_may_follow:DefOk P w K mg base 3 "may_follow" ["rows","shared","rest"] spMayAny):DefOk P w K mg base 5 "read_entry" ["page","at","rows"] spEntAny:=by
 refine F.ok sc_read_entry (fun vs H Q E h=>?_) (fun cdv A outer s H vs Q E hr h=>?_)
 ·obtain ⟨l,i,a,rs,r,j,rfl,_⟩:=h;rfl
 obtain ⟨l,i,a,rs,r,j,rfl,hl,hi,ha,hn,hb,hE,q⟩:=h
 refine ⟨_,(Zd (Zi (i:=3) sc_read_entry.nd rfl (by first | exact Or.inl rfl | exact Or.inr rfl) (Zk D_read_count hr (Za (pv 0) (Za (pv 1) Ze))))
  (Zd (Zi (i:=4) sc_read_entry.nd rfl (by first | exact Or.inl rfl | exact Or.inr rfl) (Zk D_read_count hr (Za (pv 0) (Za (Xb iAll (pv 3) Zf (fun _ _=>rfl)) Ze))))
  (Zd (Zi (i:=5) sc_read_entry.nd rfl (by first | exact Or.inl rfl | exact Or.inr rfl) (Zj oAdd (Xb iAll (pv 4) Zf (fun _ _=>rfl)) (Xb iAll (pv 4) Zf (fun _ _=>rfl))))
  (Zd (Zi (i:=6) sc_read_entry.nd rfl (by first | exact Or.inl rfl | exact Or.inr rfl) (Zw slAll (pv 0) (Zv (Xb iAll (pv 4) Zf (fun _ _=>rfl))) (Zv (pv 5))))
  (Zd (Xc (PW.pt (Zpd (Zn oGt (pv 5) (Zo Zs rfl nb.len_ Zy (Za (pv 0) Ze)) (nomark _)) (Zfd (Qb (Xv (Zk D_may_follow hr (Za (pv 2) (Za (Xb iAll (pv 3) Zf (fun _ _=>rfl)) (Za (pv 6) Ze)))) (fun _=>rfl)))))) (Zg Js) Zt)
  (Zd (Zi (i:=7) sc_read_entry.nd rfl (by first | exact Or.inl rfl | exact Or.inr rfl) (Qi (Xv (pv 2) (fun _=>rfl)) (Zw slAll (Xb iAll (pv 2) (Zpf Zfb Zf) (fun _ _=>rfl)) Xk (Zv (Xb iAll (pv 3) Zf (fun _ _=>rfl)))) Zu))
  (Zg (Zr (Jt (Za (Zj oAdd (pv 7) (pv 6)) (Za (pv 5) Ze))))))))))),?_⟩
 try dsimp only [cxK0,cxK1,cxK2,cxK3]
 have hL:(rowS l).length≤sizeLine:=by rw [Zb];exact small5 (by omega)
 have hll:=Zaf hb
 unfold entR at hE
 have hes:=Zci hE
 have sp1:=Wu (l:=l) (i:=i) (by omega)
 have ft1:=Zbj (l:=l) (i:=i) hi (by omega)
 obtain ⟨c,hc⟩:∃ c,c=cnv l i:=⟨_,rfl⟩
 rw [← hc] at hE hes sp1 ft1
 obtain ⟨i1,hi1⟩:∃ i1,i1=i+(cnt c).length:=⟨_,rfl⟩
 rw [← hi1] at hE hes
 have sp2:=Wu (l:=l) (i:=i1) (by omega)
 have ft2:=Zbj (l:=l) (i:=i1) (by omega) (by omega)
 obtain ⟨m,hm⟩:∃ m,m=cnv l i1:=⟨_,rfl⟩
 rw [← hm] at hE hes sp2 ft2
 obtain ⟨i2,hi2⟩:∃ i2,i2=i1+(cnt m).length:=⟨_,rfl⟩
 rw [← hi2] at hE hes
 obtain ⟨f3,hcl,rfl,hrl⟩:=hes
 have hmay:mayB rs c ((l.drop i2).take m)=true∧r=(rs.getLastD []).take c++(l.drop i2).take m:=by
  unfold entAt at hE
  split at hE
  ·rename_i hh
   cases hE
   exact ⟨mayB_iff.mpr hh.2,rfl⟩
  ·cases hE
 obtain ⟨hmay,hr0⟩:=hmay
 have hrest:((l.drop i2).take m).length≤9000:=by rw [List.length_take,List.length_drop];omega
 generalize hrd:(l.drop i2).take m=rest at *
 refine ⟨_,rfl,_,rfl,l,i,c,rfl,by omega,hi,sp1.1,ft1,fun t1 ht1=>?_⟩
 rw [← hi1]
 have s1':=Zh (o:=HO.tup [V.int ((c:Nat):Int),V.int ((i1:Nat):Int)]) ht1
 have a0:atI [V.int ((c:Nat):Int),V.int ((i1:Nat):Int)] 0=some (.int ((c:Nat):Int)):=Xe (j:=0) rfl
 have a1:atI [V.int ((c:Nat):Int),V.int ((i1:Nat):Int)] 1=some (.int ((i1:Nat):Int)):=Xe (j:=1) rfl
 refine ⟨_,rfl,_,rfl,.inl (.inr ⟨_,_,_,_,rfl,rfl,SqT.of Zc,a1,l,i1,m,rfl,by omega,(by omega),sp2.1,ft2,fun t2 ht2=>?_⟩)⟩
 rw [← hi2]
 have s2':=Zh (o:=HO.tup [V.int ((m:Nat):Int),V.int ((i2:Nat):Int)]) ht2
 have b0:atI [V.int ((m:Nat):Int),V.int ((i2:Nat):Int)] 0=some (.int ((m:Nat):Int)):=Xe (j:=0) rfl
 have b1:atI [V.int ((m:Nat):Int),V.int ((i2:Nat):Int)] 1=some (.int ((i2:Nat):Int)):=Xe (j:=1) rfl
 have ht1':=s2' _ _ (Zc (H:=H) (a:=t1) (o:=HO.tup [V.int ((c:Nat):Int),V.int ((i1:Nat):Int)]))
 have ha':=s2' _ _ (s1' _ _ ha)
 have st:=s1'.trans s2'
 refine ⟨_,rfl,.inl (.inr ⟨_,_,_,_,rfl,rfl,SqT.of Zc,b1,_,rfl,.inl (.inr ⟨_,_,_,_,rfl,rfl,SqT.of Zc,b0,.inl ⟨_,_,rfl,rfl,?_⟩⟩)⟩)⟩
 dsimp only
 rw [show ((i2:Nat):Int)+((m:Nat):Int)=((i2+m:Nat):Int) from rfl]
 refine ⟨_,rfl,_,rfl,.inl (.inr ⟨_,_,_,_,rfl,rfl,SqT.of Zc,b1,_,rfl,_,rfl,_,rfl,.inr ⟨_,rfl,hL,?_⟩⟩)⟩
 rw [Qn,hrd]
 refine ⟨_,rfl,_,rfl,_,_,rfl,⟨hL,rfl⟩,_,_,rfl,rfl,_,rfl,iteN (by rw [Zb];omega) ?_⟩
 refine ⟨_,rfl,_,rfl,.inl (.inr ⟨_,_,_,_,rfl,rfl,SqT.of ht1',a0,_,rfl,a,rs,c,rest,rfl,ha',hn,hb,by omega,true,(by rw [hmay];rfl),iteF ?_⟩)⟩
 have hrow:rowS ((rs.getLastD []).take c)++rowS rest=rowS r:=by rw [Zl,hr0]
 have hfit:(rowS ((rs.getLastD []).take c)).length+(rowS rest).length≤sizeLine:=by rw [Zb,Zb,List.length_take];exact small5 (by omega)
 refine ⟨_,rfl,_,.inl ⟨_,SqL.of ha',rfl⟩,?_⟩
 by_cases h0:rs=[]
 ·have hbeg:Str.ofString ""=rowS ((rs.getLastD []).take c):=by rw [h0,sE];simp
  have hem:(RL rs).isEmpty=true:=by rw [h0];rfl
  rw [hem]
  refine iteF ?_
  rw [hbeg]
  refine ⟨_,rfl,_,rfl,.inr ⟨_,_,rfl,rfl,hfit,_,rfl,(by show 2≤sizeLine;decide),fun t3 ht3=>?_⟩⟩
  rw [hrow]
  exact ⟨_,.new (st.free ht3) (st.trans (Zh ht3)) Zc trivial,q t3 (st.free ht3)⟩
 ·have hem:(RL rs).isEmpty=false:=by
   cases rs with
   | nil=>exact absurd rfl h0
   | cons x y=>rfl
  rw [hem]
  have hla:(rowS (rs.getLastD [])).length≤sizeLine:=by rw [Zb];exact small5 (by omega)
  refine iteT ⟨_,rfl,_,rfl,.inl (.inl ⟨_,_,_,_,rfl,rfl,SqL.of ha',Xfi h0,_,rfl,.inl (.inr ⟨_,_,_,_,rfl,rfl,SqT.of ht1',a0,_,rfl,.inr ⟨_,rfl,hla,?_⟩⟩)⟩)⟩
  rw [Zvg _ c (by omega)]
  refine ⟨_,rfl,_,rfl,.inr ⟨_,_,rfl,rfl,hfit,_,rfl,(by show 2≤sizeLine;decide),fun t3 ht3=>?_⟩⟩
  rw [hrow]
  exact ⟨_,.new (st.free ht3) (st.trans (Zh ht3)) Zc trivial,q t3 (st.free ht3)⟩
set_option maxHeartbeats 1000000 in
theorem Zia {f CS C_BadPage:Addr} {fd:FuncData} (xi_BadPage:PySem.W.excIn K C_BadPage bmV "ValueError.__new__"=true) (gm_BadPage:mg "BadPage"=some (.ref C_BadPage)) (nb:NB mg) (F:FunAt K mg "read_entry" Xy ["page","at","rows"] f fd) (D_read_count:DefOk P w K mg base 4 "read_count" ["signs","at"] spReadCount) (DB_read_count:DefOkE P w K mg base 6 "read_count" ["signs","at"] (spReadCountBad CS)) (D_may_follow:DefOk P w K mg base 3 "may_follow" ["rows","shared","rest"] spMayAny):DefOkE P w K mg base 7 "read_entry" ["page","at","rows"] (spEntBad CS C_BadPage):=by
 refine F.okE sc_read_entry (fun vs H Q E h=>?_) (fun cdv A outer s H vs Q E hr h=>?_)
 ·obtain ⟨l,i,a,rs,rfl,_⟩:=h;rfl
 obtain ⟨l,i,a,rs,rfl,hl,hi,ha,hn,hb,hE,eS,eB⟩:=h
 refine ⟨_,(Zd (Zi (i:=3) sc_read_entry.nd rfl (by first | exact Or.inl rfl | exact Or.inr rfl) (Yd D_read_count DB_read_count hr passes_fn.x (Za (pv 0) (Za (pv 1) Ze))))
  (Zd (Zi (i:=4) sc_read_entry.nd rfl (by first | exact Or.inl rfl | exact Or.inr rfl) (Yd D_read_count DB_read_count hr passes_fn.x (Za (pv 0) (Za (Xb iAll (pv 3) Zf (fun _ _=>rfl)) Ze))))
  (Zd (Zi (i:=5) sc_read_entry.nd rfl (by first | exact Or.inl rfl | exact Or.inr rfl) (Zj oAdd (Xb iAll (pv 4) Zf (fun _ _=>rfl)) (Xb iAll (pv 4) Zf (fun _ _=>rfl))))
  (Zd (Zi (i:=6) sc_read_entry.nd rfl (by first | exact Or.inl rfl | exact Or.inr rfl) (Zw slAll (pv 0) (Zv (Xb iAll (pv 4) Zf (fun _ _=>rfl))) (Zv (pv 5))))
  (Zd (Xc (PW.pt (Zpd (Zn oGt (pv 5) (Zo Zs rfl nb.len_ Zy (Za (pv 0) Ze)) (nomark _)) (Zfd (Qb (Xv (Zk D_may_follow hr (Za (pv 2) (Za (Xb iAll (pv 3) Zf (fun _ _=>rfl)) (Za (pv 6) Ze)))) (fun _=>rfl)))))) (Zg (Zed Qe xi_BadPage gm_BadPage hr.hd (Za Zu Ze))) Zt)
  (Zd (Zi (i:=7) sc_read_entry.nd rfl (by first | exact Or.inl rfl | exact Or.inr rfl) (Qi (Xv (pv 2) (fun _=>rfl)) (Zw slAll (Xb iAll (pv 2) (Zpf Zfb Zf) (fun _ _=>rfl)) Xk (Zv (Xb iAll (pv 3) Zf (fun _ _=>rfl)))) Zu))
  (Zg (Zr (Jt (Za (Zj oAdd (pv 7) (pv 6)) (Za (pv 5) Ze))))))))))),?_⟩
 try dsimp only [cxK0,cxK1,cxK2,cxK3]
 have hL:(rowS l).length≤sizeLine:=by rw [Zb];exact small5 (by omega)
 have hll:=Zaf hb
 unfold entR at hE
 have sp1:=Wu (l:=l) (i:=i) (by omega)
 rcases Nat.lt_or_ge l.length (i+(cnt (cnv l i)).length) with c1 | c1
 ·exact ⟨_,rfl,_,rfl,.inr ⟨l,i,rfl,by omega,hi,Xdh hi c1,RdE.on (Same.refl _) eS⟩⟩
 have ft1:=Zbj (l:=l) (i:=i) hi c1
 obtain ⟨c,hc⟩:∃ c,c=cnv l i:=⟨_,rfl⟩
 rw [← hc] at hE sp1 ft1 c1
 obtain ⟨i1,hi1⟩:∃ i1,i1=i+(cnt c).length:=⟨_,rfl⟩
 rw [← hi1] at hE c1
 refine ⟨_,rfl,_,rfl,.inl ⟨l,i,c,rfl,by omega,hi,sp1.1,ft1,fun t1 ht1=>?_⟩⟩
 rw [← hi1]
 have s1':=Zh (o:=HO.tup [V.int ((c:Nat):Int),V.int ((i1:Nat):Int)]) ht1
 have a0:atI [V.int ((c:Nat):Int),V.int ((i1:Nat):Int)] 0=some (.int ((c:Nat):Int)):=Xe (j:=0) rfl
 have a1:atI [V.int ((c:Nat):Int),V.int ((i1:Nat):Int)] 1=some (.int ((i1:Nat):Int)):=Xe (j:=1) rfl
 refine ⟨_,rfl,_,rfl,.inl (.inr ⟨_,_,_,_,rfl,rfl,SqT.of Zc,a1,?_⟩)⟩
 have sp2:=Wu (l:=l) (i:=i1) (by omega)
 rcases Nat.lt_or_ge l.length (i1+(cnt (cnv l i1)).length) with c2 | c2
 ·exact .inr ⟨l,i1,rfl,by omega,c1,Xdh c1 c2,RdE.on s1' eS⟩
 have ft2:=Zbj (l:=l) (i:=i1) c1 c2
 obtain ⟨m,hm⟩:∃ m,m=cnv l i1:=⟨_,rfl⟩
 rw [← hm] at hE sp2 ft2 c2
 obtain ⟨i2,hi2⟩:∃ i2,i2=i1+(cnt m).length:=⟨_,rfl⟩
 rw [← hi2] at hE c2
 refine .inl ⟨l,i1,m,rfl,by omega,c1,sp2.1,ft2,fun t2 ht2=>?_⟩
 rw [← hi2]
 have s2':=Zh (o:=HO.tup [V.int ((m:Nat):Int),V.int ((i2:Nat):Int)]) ht2
 have b0:atI [V.int ((m:Nat):Int),V.int ((i2:Nat):Int)] 0=some (.int ((m:Nat):Int)):=Xe (j:=0) rfl
 have b1:atI [V.int ((m:Nat):Int),V.int ((i2:Nat):Int)] 1=some (.int ((i2:Nat):Int)):=Xe (j:=1) rfl
 have ht1':=s2' _ _ (Zc (H:=H) (a:=t1) (o:=HO.tup [V.int ((c:Nat):Int),V.int ((i1:Nat):Int)]))
 have ha':=s2' _ _ (s1' _ _ ha)
 have st:=s1'.trans s2'
 refine ⟨_,rfl,.inl (.inr ⟨_,_,_,_,rfl,rfl,SqT.of Zc,b1,_,rfl,.inl (.inr ⟨_,_,_,_,rfl,rfl,SqT.of Zc,b0,.inl ⟨_,_,rfl,rfl,?_⟩⟩)⟩)⟩
 dsimp only
 rw [show ((i2:Nat):Int)+((m:Nat):Int)=((i2+m:Nat):Int) from rfl]
 refine ⟨_,rfl,_,rfl,.inl (.inr ⟨_,_,_,_,rfl,rfl,SqT.of Zc,b1,_,rfl,_,rfl,_,rfl,.inr ⟨_,rfl,hL,?_⟩⟩)⟩
 rw [Qn]
 have hrest:((l.drop i2).take m).length≤9000:=by rw [List.length_take,List.length_drop];omega
 refine ⟨_,rfl,_,rfl,_,_,rfl,⟨hL,rfl⟩,_,_,rfl,rfl,_,rfl,?_⟩
 rw [Zb]
 refine iteD (fun c3=>?_) (fun c3=>?_)
 ·exact ⟨(by show 1≤sizeLine;decide),H,.refl st,eB⟩
 have hno:mayB rs c ((l.drop i2).take m)=false:=by
  cases z:mayB rs c ((l.drop i2).take m) with
  | false=>rfl
  | true =>
   unfold entAt at hE
   rw [if_pos ⟨by omega,mayB_iff.mp z⟩] at hE
   cases hE
 refine ⟨_,rfl,_,rfl,.inl (.inr ⟨_,_,_,_,rfl,rfl,SqT.of ht1',a0,_,rfl,a,rs,c,_,rfl,ha',hn,hb,by omega,false,(by rw [hno];rfl),iteT ?_⟩)⟩
 exact ⟨(by show 1≤sizeLine;decide),H,.refl st,eB⟩
noncomputable def spRowsAny:Sp:=fun vs H Q _=>∃ (l:List Bool) (rs:List (List Bool)),vs=[.str (rowS l)]∧l.length≤9000∧rowsR l=some rs∧∀ p,H p=none→Q (.ref p) (upd H p (.lst (RL rs)))
noncomputable def spRowsAnyB (CS CB:Addr):Sp:=fun vs H _ E=>∃ (l:List Bool),vs=[.str (rowS l)]∧l.length≤9000∧rowsR l=none∧RdE CS l.length H E∧E (.ref CB) none H
noncomputable def spRowsB (CB:Addr):Sp:=fun vs H _ E=>∃ (l:List Bool),vs=[.str (rowS l)]∧l.length≤9000∧rowsR l=none∧E (.ref CB) none H
set_option maxHeartbeats 1000000 in
theorem Zod {f:Addr} {fd:FuncData} (nb:NB mg) (F:FunAt K mg "read_rows" Yh ["page"] f fd) (D_read_count:DefOk P w K mg base 4 "read_count" ["signs","at"] spReadCount) (D_read_entry:DefOk P w K mg base 5 "read_entry" ["page","at","rows"] spEntAny):DefOk P w K mg base 6 "read_rows" ["page"] spRowsAny:=by
 refine F.ok sc_read_rows (fun vs H Q E h=>?_) (fun cdv A outer s H vs Q E hr h=>?_)
 ·obtain ⟨l,rs0,rfl,_⟩:=h;rfl
 obtain ⟨l,rs0,rfl,hl,hR,q⟩:=h
 refine ⟨_,(Zd (Zi (i:=1) sc_read_rows.nd rfl (by first | exact Or.inl rfl | exact Or.inr rfl) (Zk D_read_count hr (Za (pv 0) (Za Zf Ze))))
  (Zd (Zi (i:=2) sc_read_rows.nd rfl (by first | exact Or.inl rfl | exact Or.inr rfl) (Yg Ze))
  (Zd (Zi (i:=3) sc_read_rows.nd rfl (by first | exact Or.inl rfl | exact Or.inr rfl) (Xb iAll (pv 1) Zf (fun _ _=>rfl)))
  (Zd (Ws PassesOwn.never (Zn oLt (Zo Zs rfl nb.len_ Zy (Za (pv 2) Ze)) (Xb iAll (pv 1) Zf (fun _ _=>rfl)) (nomark _))
   (Zd (Zi (i:=4) sc_read_rows.nd rfl (by first | exact Or.inl rfl | exact Or.inr rfl) (Zk D_read_entry hr (Za (pv 0) (Za (pv 3) (Za (pv 2) Ze)))))
   (Zd (Zee (Zgd PySem.F.plainAttrs_list PySem.F.slot_list_append PySem.F.type_list_append Zbe (pv 2) (Za (Xb iAll (pv 4) Zf (fun _ _=>rfl)) Ze)))
   (Zg (Zi (i:=3) sc_read_rows.nd rfl (by first | exact Or.inl rfl | exact Or.inr rfl) (Xb iAll (pv 4) Zf (fun _ _=>rfl)))))))
  (Zd (Xc (Zn oLt (pv 3) (Zo Zs rfl nb.len_ Zy (Za (pv 0) Ze)) (nomark _)) (Zg Js) Zt)
  (Zg (Zr (pv 2)))))))),?_⟩
 try dsimp only [cxK0,cxK1,cxK2,cxK3]
 have hL:(rowS l).length≤sizeLine:=by rw [Zb];exact small5 (by omega)
 have c1:0+(cnt (cnv l 0)).length≤l.length:=by
  rcases Nat.lt_or_ge l.length (0+(cnt (cnv l 0)).length) with c | c
  ·unfold rowsR at hR;rw [if_neg (by omega)] at hR;cases hR
  ·exact c
 have S0:=RdAt.start hR (by omega)
 have sp1:=Wu (l:=l) (i:=0) (by omega)
 have ft1:=Zbj (l:=l) (i:=0) (Nat.zero_le _) c1
 refine ⟨_,rfl,l,0,cnv l 0,rfl,by omega,Nat.zero_le _,sp1.1,ft1,fun t0 ht0=>?_⟩
 rw [Nat.zero_add]
 obtain ⟨N,hN⟩:∃ N,N=cnv l 0:=⟨_,rfl⟩
 obtain ⟨n0,hn0⟩:∃ n0,n0=(cnt (cnv l 0)).length:=⟨_,rfl⟩
 rw [← hn0] at S0 ⊢
 rw [← hN]
 have s1':=Zh (o:=HO.tup [V.int ((N:Nat):Int),V.int ((n0:Nat):Int)]) ht0
 have a0:atI [V.int ((N:Nat):Int),V.int ((n0:Nat):Int)] 0=some (.int ((N:Nat):Int)):=Xe (j:=0) rfl
 have a1:atI [V.int ((N:Nat):Int),V.int ((n0:Nat):Int)] 1=some (.int ((n0:Nat):Int)):=Xe (j:=1) rfl
 refine ⟨Nat.zero_le _,fun p hp=>?_⟩
 have s2':=s1'.trans (Zh (o:=HO.lst []) hp)
 have hpH:=s1'.free hp
 have ht0':=Zh (o:=HO.lst []) hp _ _ (Zc (H:=H) (a:=t0) (o:=HO.tup [V.int ((N:Nat):Int),V.int ((n0:Nat):Int)]))
 have hpt:p≠t0:=fun e=>by rw [e,Zc] at hp;cases hp
 refine ⟨_,rfl,.inl (.inr ⟨_,_,_,_,rfl,rfl,SqT.of ht0',a1,?_⟩)⟩
 refine ⟨fun m σ H2=>∃ (rs:List (List Bool)) (i:Nat) (z:Option V),RdAt l (some rs0) rs i∧m=N - rs.length∧σ=[some (.str (rowS l)),some (.ref t0),some (.ref p),some (.int ((i:Nat):Int)),z]∧Same H H2∧H2 t0=some (.tup [V.int ((N:Nat):Int),V.int ((n0:Nat):Int)])∧H2 p=some (.lst (RL rs)),
  ⟨_,[],n0,none,S0,rfl,rfl,s2',ht0',Zc⟩,?_⟩
 rintro m σ H2 ⟨rs,i,z,S,rfl,rfl,hs,h0,hpv⟩
 refine ⟨_,rfl,_,_,rfl,.inl ⟨_,SqL.of hpv,rfl⟩,_,rfl,.inl (.inr ⟨_,_,_,_,rfl,rfl,SqT.of h0,a0,.inl ⟨_,_,rfl,rfl,_,rfl,?_⟩⟩)⟩
 rw [Zz]
 have hi:=S.at_
 have hf:=S.few
 have hsm:=S.sm
 refine iteD (fun c=>?_) (fun c=>?_)
 ·have hjl:rs.length<cnv l 0:=by omega
  refine ⟨fun σ' H'=>∃ m',m'<N - rs.length∧∃ (rs:List (List Bool)) (i:Nat) (z:Option V),RdAt l (some rs0) rs i∧m'=N - rs.length∧σ'=[some (.str (rowS l)),some (.ref t0),some (.ref p),some (.int ((i:Nat):Int)),z]∧Same H H'∧H' t0=some (.tup [V.int ((N:Nat):Int),V.int ((n0:Nat):Int)])∧H' p=some (.lst (RL rs)),fun _ _ h=>h,?_⟩
  cases he:entR l (rs.getLastD []) rs.isEmpty i with
  | none =>
   have:=S.stop hjl he;cases this
  | some rj =>
   obtain ⟨r,j⟩:=rj
   have S2:=S.step hjl he
   refine ⟨_,rfl,_,rfl,_,rfl,l,i,p,rs,r,j,rfl,hl,hi,hpv,by omega,(fun x hx=>by have:=hsm x hx;omega),he,fun t ht=>?_⟩
   have s3':=Zh (o:=HO.tup [V.str (rowS r),V.int ((j:Nat):Int)]) ht
   have hp3:=s3' _ _ hpv
   have b0:atI [V.str (rowS r),V.int ((j:Nat):Int)] 0=some (.str (rowS r)):=Xe (j:=0) rfl
   have b1:atI [V.str (rowS r),V.int ((j:Nat):Int)] 1=some (.int ((j:Nat):Int)):=Xe (j:=1) rfl
   have hpt2:t≠p:=fun e=>by rw [e,hpv] at ht;cases ht
   refine ⟨_,rfl,.inl ⟨rfl,_,SqL.of hp3⟩,_,rfl,.inl (.inr ⟨_,_,_,_,rfl,rfl,SqT.of Zc,b0,?_⟩)⟩
   refine ⟨_,_,_,rfl,rfl,hp3,(by rw [Zz];exact Nat.lt_of_lt_of_le (show rs.length<100000 by omega) (small5 (Nat.le_refl _))),?_⟩
   refine ⟨_,rfl,.inl (.inr ⟨_,_,_,_,rfl,rfl,SqT.of (by rw [Zm hpt2];exact Zc),b1,?_⟩)⟩
   have etk:RL rs++[V.str (rowS r)]=RL (rs++[r]):=by rw [Zdc];rfl
   rw [etk]
   exact ⟨N - (rs++[r]).length,by rw [List.length_append,List.length_singleton];omega,rs++[r],j,_,S2,rfl,rfl,Jo (hs.trans s3') hpH,(by rw [Zm (Ne.symm hpt)];exact s3' _ _ h0),Zc⟩
 ·have hlast:=S.last (by omega)
  refine ⟨_,rfl,_,rfl,_,_,rfl,⟨hL,rfl⟩,.inl ⟨_,_,rfl,rfl,_,rfl,?_⟩⟩
  rw [Zb]
  rcases Nat.lt_or_ge i l.length with c2 | c2
  ·rw [if_neg (by omega)] at hlast;cases hlast
  ·rw [if_pos (by omega)] at hlast
   cases hlast
   exact iteN (by omega) ⟨_,rfl,_,.new hpH hs hpv trivial,q p hpH⟩
set_option maxHeartbeats 1000000 in
theorem Zme {f CS C_BadPage:Addr} {fd:FuncData} (xi_BadPage:PySem.W.excIn K C_BadPage bmV "ValueError.__new__"=true) (gm_BadPage:mg "BadPage"=some (.ref C_BadPage)) (nb:NB mg) (F:FunAt K mg "read_rows" Yh ["page"] f fd) (D_read_count:DefOk P w K mg base 4 "read_count" ["signs","at"] spReadCount) (DB_read_count:DefOkE P w K mg base 6 "read_count" ["signs","at"] (spReadCountBad CS)) (D_read_entry:DefOk P w K mg base 5 "read_entry" ["page","at","rows"] spEntAny) (DB_read_entry:DefOkE P w K mg base 7 "read_entry" ["page","at","rows"] (spEntBad CS C_BadPage)):DefOkE P w K mg base 8 "read_rows" ["page"] (spRowsAnyB CS C_BadPage):=by
 refine F.okE sc_read_rows (fun vs H Q E h=>?_) (fun cdv A outer s H vs Q E hr h=>?_)
 ·obtain ⟨l,rfl,_⟩:=h;rfl
 obtain ⟨l,rfl,hl,hR,eS,eB⟩:=h
 refine ⟨_,(Zd (Zi (i:=1) sc_read_rows.nd rfl (by first | exact Or.inl rfl | exact Or.inr rfl) (Yd D_read_count DB_read_count hr passes_fn.x (Za (pv 0) (Za Zf Ze))))
  (Zd (Zi (i:=2) sc_read_rows.nd rfl (by first | exact Or.inl rfl | exact Or.inr rfl) (Yg Ze))
  (Zd (Zi (i:=3) sc_read_rows.nd rfl (by first | exact Or.inl rfl | exact Or.inr rfl) (Xb iAll (pv 1) Zf (fun _ _=>rfl)))
  (Zd (Ws PassesOwn.leaving (Zn oLt (Zo Zs rfl nb.len_ Zy (Za (pv 2) Ze)) (Xb iAll (pv 1) Zf (fun _ _=>rfl)) (nomark _))
   (Zd (Zi (i:=4) sc_read_rows.nd rfl (by first | exact Or.inl rfl | exact Or.inr rfl) (Yd D_read_entry DB_read_entry hr passes_fn.x (Za (pv 0) (Za (pv 3) (Za (pv 2) Ze)))))
   (Zd (Zee (Zgd PySem.F.plainAttrs_list PySem.F.slot_list_append PySem.F.type_list_append Zbe (pv 2) (Za (Xb iAll (pv 4) Zf (fun _ _=>rfl)) Ze)))
   (Zg (Zi (i:=3) sc_read_rows.nd rfl (by first | exact Or.inl rfl | exact Or.inr rfl) (Xb iAll (pv 4) Zf (fun _ _=>rfl)))))))
  (Zd (Xc (Zn oLt (pv 3) (Zo Zs rfl nb.len_ Zy (Za (pv 0) Ze)) (nomark _)) (Zg (Zed Qe xi_BadPage gm_BadPage hr.hd (Za Zu Ze))) Zt)
  (Zg (Zr (pv 2)))))))),?_⟩
 try dsimp only [cxK0,cxK1,cxK2,cxK3]
 have hL:(rowS l).length≤sizeLine:=by rw [Zb];exact small5 (by omega)
 rcases Nat.lt_or_ge l.length (0+(cnt (cnv l 0)).length) with c1 | c1
 ·exact ⟨_,rfl,.inr ⟨l,0,rfl,by omega,Nat.zero_le _,Xdh (Nat.zero_le _) c1,RdE.on (Same.refl _) eS⟩⟩
 have S0:=RdAt.start hR (by omega)
 have sp1:=Wu (l:=l) (i:=0) (by omega)
 have ft1:=Zbj (l:=l) (i:=0) (Nat.zero_le _) c1
 refine ⟨_,rfl,.inl ⟨l,0,cnv l 0,rfl,by omega,Nat.zero_le _,sp1.1,ft1,fun t0 ht0=>?_⟩⟩
 rw [Nat.zero_add]
 obtain ⟨N,hN⟩:∃ N,N=cnv l 0:=⟨_,rfl⟩
 obtain ⟨n0,hn0⟩:∃ n0,n0=(cnt (cnv l 0)).length:=⟨_,rfl⟩
 rw [← hn0] at S0 ⊢
 rw [← hN]
 have s1':=Zh (o:=HO.tup [V.int ((N:Nat):Int),V.int ((n0:Nat):Int)]) ht0
 have a0:atI [V.int ((N:Nat):Int),V.int ((n0:Nat):Int)] 0=some (.int ((N:Nat):Int)):=Xe (j:=0) rfl
 have a1:atI [V.int ((N:Nat):Int),V.int ((n0:Nat):Int)] 1=some (.int ((n0:Nat):Int)):=Xe (j:=1) rfl
 refine ⟨Nat.zero_le _,fun p hp=>?_⟩
 have s2':=s1'.trans (Zh (o:=HO.lst []) hp)
 have hpH:=s1'.free hp
 have ht0':=Zh (o:=HO.lst []) hp _ _ (Zc (H:=H) (a:=t0) (o:=HO.tup [V.int ((N:Nat):Int),V.int ((n0:Nat):Int)]))
 have hpt:p≠t0:=fun e=>by rw [e,Zc] at hp;cases hp
 refine ⟨_,rfl,.inl (.inr ⟨_,_,_,_,rfl,rfl,SqT.of ht0',a1,?_⟩)⟩
 refine ⟨fun m σ H2=>∃ (rs:List (List Bool)) (i:Nat) (z:Option V),RdAt l none rs i∧m=N - rs.length∧σ=[some (.str (rowS l)),some (.ref t0),some (.ref p),some (.int ((i:Nat):Int)),z]∧Same H H2∧H2 t0=some (.tup [V.int ((N:Nat):Int),V.int ((n0:Nat):Int)])∧H2 p=some (.lst (RL rs)),
  ⟨_,[],n0,none,S0,rfl,rfl,s2',ht0',Zc⟩,?_⟩
 rintro m σ H2 ⟨rs,i,z,S,rfl,rfl,hs,h0,hpv⟩
 refine ⟨_,rfl,_,_,rfl,.inl ⟨_,SqL.of hpv,rfl⟩,_,rfl,.inl (.inr ⟨_,_,_,_,rfl,rfl,SqT.of h0,a0,.inl ⟨_,_,rfl,rfl,_,rfl,?_⟩⟩)⟩
 rw [Zz]
 have hi:=S.at_
 have hf:=S.few
 have hsm:=S.sm
 refine iteD (fun c=>?_) (fun c=>?_)
 ·have hjl:rs.length<cnv l 0:=by omega
  refine ⟨fun σ' H'=>∃ m',m'<N - rs.length∧∃ (rs:List (List Bool)) (i:Nat) (z:Option V),RdAt l none rs i∧m'=N - rs.length∧σ'=[some (.str (rowS l)),some (.ref t0),some (.ref p),some (.int ((i:Nat):Int)),z]∧Same H H'∧H' t0=some (.tup [V.int ((N:Nat):Int),V.int ((n0:Nat):Int)])∧H' p=some (.lst (RL rs)),fun _ _ h=>h,?_⟩
  cases he:entR l (rs.getLastD []) rs.isEmpty i with
  | none =>
   exact ⟨_,rfl,_,rfl,_,rfl,.inr ⟨l,i,p,rs,rfl,hl,hi,hpv,by omega,(fun x hx=>by have:=hsm x hx;omega),he,RdE.on hs eS,H,.refl hs,eB⟩⟩
  | some rj =>
   obtain ⟨r,j⟩:=rj
   have S2:=S.step hjl he
   refine ⟨_,rfl,_,rfl,_,rfl,.inl ⟨l,i,p,rs,r,j,rfl,hl,hi,hpv,by omega,(fun x hx=>by have:=hsm x hx;omega),he,fun t ht=>?_⟩⟩
   have s3':=Zh (o:=HO.tup [V.str (rowS r),V.int ((j:Nat):Int)]) ht
   have hp3:=s3' _ _ hpv
   have b0:atI [V.str (rowS r),V.int ((j:Nat):Int)] 0=some (.str (rowS r)):=Xe (j:=0) rfl
   have b1:atI [V.str (rowS r),V.int ((j:Nat):Int)] 1=some (.int ((j:Nat):Int)):=Xe (j:=1) rfl
   have hpt2:t≠p:=fun e=>by rw [e,hpv] at ht;cases ht
   refine ⟨_,rfl,.inl ⟨rfl,_,SqL.of hp3⟩,_,rfl,.inl (.inr ⟨_,_,_,_,rfl,rfl,SqT.of Zc,b0,?_⟩)⟩
   refine ⟨_,_,_,rfl,rfl,hp3,(by rw [Zz];exact Nat.lt_of_lt_of_le (show rs.length<100000 by omega) (small5 (Nat.le_refl _))),?_⟩
   refine ⟨_,rfl,.inl (.inr ⟨_,_,_,_,rfl,rfl,SqT.of (by rw [Zm hpt2];exact Zc),b1,?_⟩)⟩
   have etk:RL rs++[V.str (rowS r)]=RL (rs++[r]):=by rw [Zdc];rfl
   rw [etk]
   exact ⟨N - (rs++[r]).length,by rw [List.length_append,List.length_singleton];omega,rs++[r],j,_,S2,rfl,rfl,Jo (hs.trans s3') hpH,(by rw [Zm (Ne.symm hpt)];exact s3' _ _ h0),Zc⟩
 ·have hlast:=S.last (by omega)
  refine ⟨_,rfl,_,rfl,_,_,rfl,⟨hL,rfl⟩,.inl ⟨_,_,rfl,rfl,_,rfl,?_⟩⟩
  rw [Zb]
  refine iteD (fun c2=>?_) (fun c2=>?_)
  ·exact ⟨(by show 1≤sizeLine;decide),H,.refl hs,eB⟩
  ·rw [if_pos (by omega)] at hlast;cases hlast
theorem Xac {f:Addr} {fd:FuncData} (nb:NB mg) (F:FunAt K mg "rows_of" Wn ["page"] f fd) (D_read_rows:DefOk P w K mg base 6 "read_rows" ["page"] spRowsAny):DefOk P w K mg base 7 "rows_of" ["page"] spRowsAny:=by
 refine F.ok Zjf (fun vs H Q E h=>?_) (fun cdv A outer s H vs Q E hr h=>?_)
 ·obtain ⟨l,rs,rfl,_⟩:=h;rfl
 obtain ⟨l,rs,rfl,hl,hR,q⟩:=h
 refine ⟨_,(Zg (Xtf (fun _=>(Zg (Zr (Zk D_read_rows hr (Za (pv 0) Ze))))))),?_⟩
 try dsimp only [cxK0,cxK1,cxK2,cxK3]
 exact ⟨_,rfl,l,rs,rfl,hl,hR,fun p hp=>⟨_,.new hp (Zh hp) Zc trivial,q p hp⟩⟩
theorem Zuh {f C_BadPage C_Short:Addr} {fd:FuncData} (gm_Short:mg "Short"=some (.ref C_Short)) (xc_Short:ExcC K C_Short) (xt_Short:PySem.W.typeIn K (.ref C_Short)=some (.type "type")) (hno:PySem.W.mroIn K C_BadPage (.ref C_Short)=some false) (hyes:PySem.W.mroIn K C_Short (.ref C_Short)=some true)
  (xi_BadPage:PySem.W.excIn K C_BadPage bmV "ValueError.__new__"=true) (gm_BadPage:mg "BadPage"=some (.ref C_BadPage)) (xc_BadPage:ExcC K C_BadPage) (xt_BadPage:PySem.W.typeIn K (.ref C_BadPage)=some (.type "type")) (nb:NB mg) (F:FunAt K mg "rows_of" Wn ["page"] f fd) (DB_read_rows:DefOkE P w K mg base 8 "read_rows" ["page"] (spRowsAnyB C_Short C_BadPage)):DefOkE P w K mg base 9 "rows_of" ["page"] (spRowsB C_BadPage):=by
 refine F.okE Zjf (fun vs H Q E h=>?_) (fun cdv A outer s H vs Q E hr h=>?_)
 ·obtain ⟨l,rfl,_⟩:=h;rfl
 obtain ⟨l,rfl,hl,hR,hE⟩:=h
 obtain ⟨EH,hEH⟩:∃ EH:St→XK,EH=fun σ c d H'=>Same H H'∧((c = .ref C_BadPage∧d=none)∨(c = .ref C_Short∧d≠none)):=⟨_,rfl⟩
 refine ⟨_,(Zg (Xtg (Eh:=EH) (fun _=>(Zg (Zr (Zac DB_read_rows hr Je (Za (pv 0) Ze))))) Zwa gm_Short xc_Short xt_Short xi_BadPage xc_BadPage.be xt_BadPage gm_BadPage (fun _ _=>(Za Zu Ze)) (fun _ _ _ _ h=>PyProof.Rows.Constant_none h))),?_⟩
 try dsimp only [cxK0,cxK1,cxK2,cxK3]
 refine ⟨⟨_,rfl,l,rfl,hl,hR,(fun d hd=>by subst hEH;exact ⟨Zh hd,.inr ⟨rfl,by simp⟩⟩),by subst hEH;exact ⟨Same.refl _,.inl ⟨rfl,rfl⟩⟩⟩,fun σ' C d H' hX=>?_⟩
 subst hEH
 obtain ⟨hs,⟨hc,rfl⟩ | ⟨hc,hd⟩⟩:=hX
 ·injection hc with hc
  subst hc
  exact .inl ⟨hno,H,.refl hs,hE⟩
 ·injection hc with hc
  subst hc
  exact .inr ⟨hyes,hd,fun a ha=>⟨(by show 1≤sizeLine;decide),rfl,H,.refl hs,hE⟩⟩
theorem Xqe (l:List Bool) (k:Nat):(padL l).getD k false=l.getD k false:=by
 unfold padL
 rw [List.getD_eq_getElem?_getD,List.getD_eq_getElem?_getD]
 rcases Nat.lt_or_ge k l.length with c | c
 ·rw [List.getElem?_append_left c]
 ·rw [List.getElem?_append_right c,List.getElem?_eq_none (l:=l) (by omega),List.getElem?_replicate]
  split<;>rfl
theorem Xcb (l:List Bool) (k:Nat):decide (V.str (rowS ((l.drop k).take 1))=V.str (Str.ofString "1"))=(padL l).getD k false:=by
 rw [Xqe]
 have e1:Str.ofString "1"=rowS [true]:=by decide +kernel
 rw [e1,Zdi,take1,List.getD_eq_getElem?_getD]
 cases l[k]? with
 | none=>rfl
 | some b=>cases b<;>rfl
theorem Xfb (a:Nat) (l:List Bool) (b:Bool):rd a (l++[b])=rd a l*2+(if b=true then 1 else 0):=by
 unfold rd
 rw [List.foldl_append]
 show 2*_+b.toNat=_
 cases b<;>simp<;>omega
theorem Zog (L:List Bool) (i j:Nat) (h:i+j<L.length):(L.drop i).take (j+1)=(L.drop i).take j++[L.getD (i+j) false]:=by
 rw [List.take_add_one]
 congr 1
 rw [List.getElem?_drop,List.getD_eq_getElem?_getD,List.getElem?_eq_getElem h];rfl
noncomputable def spCountAt:Sp:=fun vs H Q _=>∃ (l:List Bool) (i:Nat),vs=[.str (rowS l),.int ((i:Nat):Int)]∧l.length≤9000∧i≤l.length+900∧∀ p,H p=none→Q (.ref p) (upd H p (.lst [.int ((cnv l i:Nat):Int),.int ((i+(cnt (cnv l i)).length:Nat):Int)]))
set_option maxHeartbeats 1000000 in
theorem Zhg {f:Addr} {fd:FuncData} (nb:NB mg) (F:FunAt K mg "_law_count_at" Xt ["_law_page_here","_law_at"] f fd):DefOk P w K mg base 1 "_law_count_at" ["_law_page_here","_law_at"] spCountAt:=by
 refine F.ok sc_law_count_at (fun vs H Q E h=>?_) (fun cdv A outer s H vs Q E hr h=>?_)
 ·obtain ⟨l,i,rfl,_⟩:=h;rfl
 obtain ⟨l,i,rfl,hl,hi,q⟩:=h
 refine ⟨_,(Zd (Zi (i:=2) sc_law_count_at.nd rfl (by first | exact Or.inl rfl | exact Or.inr rfl) Zf)
  (Zd (Ws PassesOwn.never (PW.pt (Jd (Zn oLt (pv 2) Zf (nomark _)) (Ja (Zn oEq (Zw slAll (pv 0) (Zv (pv 1)) (Zv (Zj oAdd (pv 1) Zf))) Zu (nomark _)))))
   (Zd (Zi (i:=2) sc_law_count_at.nd rfl (by first | exact Or.inl rfl | exact Or.inr rfl) (Zj oAdd (pv 2) Zf))
   (Zg (Zi (i:=1) sc_law_count_at.nd rfl (by first | exact Or.inl rfl | exact Or.inr rfl) (Zj oAdd (pv 1) Zf)))))
  (Zd (Xc (Zn oLt (pv 2) Zf (nomark _)) (Zg (Zi (i:=1) sc_law_count_at.nd rfl (by first | exact Or.inl rfl | exact Or.inr rfl) (Zj oAdd (pv 1) Zf))) Zt)
  (Zd (Zi (i:=3) sc_law_count_at.nd rfl (by first | exact Or.inl rfl | exact Or.inr rfl) Zf)
  (Zd (Qc PassesOwn.never rfl (Wa rfl nb.range_ (Za (pv 2) Ze)) (Xa (i:=4) sc_law_count_at.nd rfl (by first | exact Or.inl rfl | exact Or.inr rfl))
   (Zd (Zi (i:=3) sc_law_count_at.nd rfl (by first | exact Or.inl rfl | exact Or.inr rfl) (Zj oAdd (Zj oMul (pv 3) Zf) (Jp Jr rfl nb.int_ Zgb (Za (Xn oEq (Zw slAll (pv 0) (Zv (pv 1)) (Zv (Zj oAdd (pv 1) Zf))) Zu (nomark _)) Ze))))
   (Zg (Zi (i:=1) sc_law_count_at.nd rfl (by first | exact Or.inl rfl | exact Or.inr rfl) (Zj oAdd (pv 1) Zf)))))
  (Zd (Zi (i:=5) sc_law_count_at.nd rfl (by first | exact Or.inl rfl | exact Or.inr rfl) Zf)
  (Zd (Qc PassesOwn.never rfl (Wa rfl nb.range_ (Za (Zj oSub (pv 3) Zf) Ze)) (Xa (i:=4) sc_law_count_at.nd rfl (by first | exact Or.inl rfl | exact Or.inr rfl))
   (Zd (Zi (i:=5) sc_law_count_at.nd rfl (by first | exact Or.inl rfl | exact Or.inr rfl) (Zj oAdd (Zj oMul (pv 5) Zf) (Jp Jr rfl nb.int_ Zgb (Za (Xn oEq (Zw slAll (pv 0) (Zv (pv 1)) (Zv (Zj oAdd (pv 1) Zf))) Zu (nomark _)) Ze))))
   (Zg (Zi (i:=1) sc_law_count_at.nd rfl (by first | exact Or.inl rfl | exact Or.inr rfl) (Zj oAdd (pv 1) Zf)))))
  (Zg (Zr (Yg (Za (Zj oSub (pv 5) Zf) (Za (pv 1) Ze)))))))))))),?_⟩
 try dsimp only [cxK0,cxK1,cxK2,cxK3]
 have hL:(rowS l).length≤sizeLine:=by rw [Zb];exact small5 (by omega)
 refine asgC ?_
 refine seqC (t1:=tWhile _ _) (fun σ' H'=>H'=H∧∃ j:Nat,j≤7∧(∀ k,k<j→(padL l).getD (i+k) false=true)∧(j<7→(padL l).getD (i+j) false=false)∧σ'=[some (.str (rowS l)),some (.int ((i+j:Nat):Int)),some (.int (j:Nat)),none,none,none]) ?_ (fun N hN=>?_)
 rotate_left
 ·refine ⟨fun m σ H2=>∃ j:Nat,j≤7∧m=7 - j∧(∀ k,k<j→(padL l).getD (i+k) false=true)∧σ=[some (.str (rowS l)),some (.int ((i+j:Nat):Int)),some (.int (j:Nat)),none,none,none]∧H2=H,⟨_,0,Nat.zero_le _,rfl,fun k hk=>absurd hk (Nat.not_lt_zero _),rfl,rfl⟩,?_⟩
  rintro m σ H2 ⟨j,hj,rfl,ho,rfl,rfl⟩
  refine ⟨_,rfl,.inl ⟨_,_,rfl,rfl,_,rfl,?_⟩⟩
  refine iteD (fun c=>?_) (fun c=>?_)
  ·have hj7:j<7:=by omega
   refine ⟨_,rfl,_,rfl,_,rfl,_,rfl,.inl ⟨_,_,rfl,rfl,_,rfl,.inr ⟨_,rfl,hL,rfl,_,rfl,?_⟩⟩⟩
   rw [Qg,Xcb]
   cases hb:(padL l).getD (i+j) false with
   | true =>
    refine iteT ⟨fun σ' H'=>∃ m',m'<7 - j∧∃ j:Nat,j≤7∧m'=7 - j∧(∀ k,k<j→(padL l).getD (i+k) false=true)∧σ'=[some (.str (rowS l)),some (.int ((i+j:Nat):Int)),some (.int (j:Nat)),none,none,none]∧H'=H2,fun _ _ h=>h,?_⟩
    refine ⟨_,rfl,.inl ⟨_,_,rfl,rfl,_,rfl,.inl ⟨_,_,rfl,rfl,7 - (j+1),by omega,j+1,by omega,rfl,fun k hk=>?_,rfl,rfl⟩⟩⟩
    rcases Nat.lt_or_ge k j with kj | kj
    ·exact ho k kj
    ·have:k=j:=by omega
     rw [this];exact hb
   | false=>exact iteF (hN _ _ ⟨rfl,j,hj,ho,fun _=>hb,rfl⟩)
  ·exact iteF (hN _ _ ⟨rfl,j,hj,ho,fun z=>absurd z (by omega),rfl⟩)
 rintro σ' H2 ⟨rfl,j,hj,ho,hz,rfl⟩
 refine seqC (t1:=tIfS (tTest _) _ tNext) (fun σ' H'=>H'=H2∧∃ es:Nat,es=i+j+(cend (j+1)).length∧σ'=[some (.str (rowS l)),some (.int ((es:Nat):Int)),some (.int (j:Nat)),none,none,none]) ?_ (fun N hN=>?_)
 rotate_left
 ·refine ⟨_,rfl,.inl ⟨_,_,rfl,rfl,_,rfl,iteD (fun c=>?_) (fun c=>?_)⟩⟩
  ·exact ⟨_,rfl,.inl ⟨_,_,rfl,rfl,hN _ _ ⟨rfl,i+j+1,by unfold cend;rw [if_neg (by omega)];rfl,rfl⟩⟩⟩
  ·exact hN _ _ ⟨rfl,i+j,by unfold cend;rw [if_pos (by omega)];rfl,rfl⟩
 rintro σ' H3 ⟨rfl,es,hes,rfl⟩
 have hz2:j<7→(padL l).getD (i+j) false=false:=hz
 obtain ⟨s0,hs0⟩:∃ s0,s0=i+j+(cend (j+1)).length:=⟨_,rfl⟩
 have hce:(cend (j+1)).length≤1:=by unfold cend;split<;>simp
 rw [show es=s0 from hes.trans hs0.symm]
 refine ⟨_,rfl,_,rfl,by omega,by omega,?_⟩
 have hpl:=Zwi l
 obtain ⟨d,hd⟩:∃ d,d=rd 1 (((padL l).drop s0).take j):=⟨_,rfl⟩
 have hd0:d≠0:=by rw [hd];exact (Jl _ 1 (by decide)).2.2
 have hdl:d<2 ^ 8:=by
  have b1:=(Jl (((padL l).drop s0).take j) 1 (by decide)).1
  rw [← hd,Qm,List.length_take,List.length_drop] at b1
  have b2:=Wq d
  exact Nat.lt_of_lt_of_le b2 (Nat.pow_le_pow_right (by decide) (by omega))
 refine Wb (fun t σ H4=>∃ z,σ=[some (.str (rowS l)),some (.int ((s0+t:Nat):Int)),some (.int (j:Nat)),some (.int ((rd 1 (((padL l).drop s0).take t):Nat):Int)),z,none]∧H4=H3) ⟨_,rfl,rfl⟩ ?_ ?_
 ·rintro t σ H3 ht ⟨z,rfl,rfl⟩
  refine ⟨_,rfl,.inl ⟨_,_,rfl,rfl,.inr ⟨by decide,by decide⟩,_,rfl,_,rfl,_,rfl,_,rfl,.inl ⟨_,_,rfl,rfl,_,rfl,.inr ⟨_,rfl,hL,rfl,.inl (.inr ⟨_,rfl,.inl ⟨_,_,rfl,rfl,?_⟩⟩)⟩⟩⟩⟩
  rw [Qg,Xcb]
  have tm:=Zog (padL l) s0 t (by omega)
  have ev:((rd 1 (((padL l).drop s0).take t):Nat):Int)*2+(if (padL l).getD (s0+t) false=true then 1 else 0)=((rd 1 (((padL l).drop s0).take (t+1)):Nat):Int):=by
   rw [tm,Xfb]
   split<;>omega
  rw [← ev]
  refine ⟨_,rfl,.inl ⟨_,_,rfl,rfl,?_⟩⟩
  exact ⟨_,rfl,rfl⟩
 ·rintro σ H3 ⟨z,rfl,rfl⟩
  have e0:((j:Nat):Int).toNat=j:=by omega
  rw [e0,← hd]
  refine ⟨_,rfl,_,_,rfl,rfl,_,rfl,by omega,by omega,?_⟩
  obtain ⟨n,hn1,hn2,hn3,hn4⟩:=Zcb (L:=padL l) (i:=i) (d:=d) hj ho hz2 (by rw [hd,hs0]) (by omega)
  have hcv:=Zlj (by omega) hn2 hn3
  refine Wb (fun t σ H4=>∃ z,σ=[some (.str (rowS l)),some (.int ((s0+j+t:Nat):Int)),some (.int (j:Nat)),some (.int ((d:Nat):Int)),z,some (.int ((rd 1 (((padL l).drop (s0+j)).take t):Nat):Int))]∧H4=H3) ⟨_,rfl,rfl⟩ ?_ ?_
  ·rintro t σ H4 ht ⟨z2,rfl,rfl⟩
   have ht':t<256:=by omega
   refine ⟨_,rfl,.inl ⟨_,_,rfl,rfl,.inr ⟨by decide,by decide⟩,_,rfl,_,rfl,_,rfl,_,rfl,.inl ⟨_,_,rfl,rfl,_,rfl,.inr ⟨_,rfl,hL,rfl,.inl (.inr ⟨_,rfl,.inl ⟨_,_,rfl,rfl,?_⟩⟩)⟩⟩⟩⟩
   rw [Qg,Xcb]
   have tm:=Zog (padL l) (s0+j) t (by omega)
   have ev:((rd 1 (((padL l).drop (s0+j)).take t):Nat):Int)*2+(if (padL l).getD (s0+j+t) false=true then 1 else 0)=((rd 1 (((padL l).drop (s0+j)).take (t+1)):Nat):Int):=by
    rw [tm,Xfb]
    split<;>omega
   rw [← ev]
   refine ⟨_,rfl,.inl ⟨_,_,rfl,rfl,?_⟩⟩
   exact ⟨_,rfl,rfl⟩
  ·rintro σ H4 ⟨z2,rfl,rfl⟩
   have e1:(((d:Nat):Int) - 1).toNat=d - 1:=by omega
   rw [e1]
   have e2:rd 1 (((padL l).drop (s0+j)).take (d - 1))=n+1:=by rw [hn1,hs0]
   rw [e2]
   refine ⟨_,rfl,_,_,rfl,rfl,_,rfl,(by show 2≤sizeLine;decide),fun p hp=>?_⟩
   have e3:((n+1:Nat):Int) - 1=((n:Nat):Int):=by omega
   have e4:s0+j+(d - 1)=i+(cnt n).length:=by rw [hn4,hs0];omega
   have:=q p hp
   rw [hcv,← e4] at this
   dsimp only
   rw [e3]
   exact ⟨_,.new hp (Zh hp) Zc trivial,this⟩
noncomputable def spReader:Sp:=fun vs H Q _=>∃ (l:List Bool),vs=[.str (rowS l)]∧l.length≤9000∧(rowsR l=none→Q .non H)∧(∀ rs,rowsR l=some rs→∀ p,H p=none→Q (.ref p) (upd H p (.lst (RL rs))))
noncomputable def LwAt (l:List Bool) (rs:List (List Bool)) (i:Nat):Prop:=RdAt l (rowsR l) rs i∨(l.length<i∧i≤l.length+300∧rowsR l=none∧rs=[])
set_option maxHeartbeats 2000000 in
theorem Znd {f:Addr} {fd:FuncData} (nb:NB mg) (F:FunAt K mg "_law_reader" Yk ["_law_page_here"] f fd) (D_law_count_at:DefOk P w K mg base 1 "_law_count_at" ["_law_page_here","_law_at"] spCountAt) (D_law_common:DefOk P w K mg base 1 "_law_common" ["_law_one","_law_other"] spCom):DefOk P w K mg base 2 "_law_reader" ["_law_page_here"] spReader:=by
 refine F.ok sc_law_reader (fun vs H Q E h=>?_) (fun cdv A outer s H vs Q E hr h=>?_)
 ·obtain ⟨l,rfl,_⟩:=h;rfl
 obtain ⟨l,rfl,hl,q1,q2⟩:=h
 refine ⟨_,(Zd (Xbg (Zk D_law_count_at hr (Za (pv 0) (Za Zf Ze))) (Zsa rfl (Wt (Xa (i:=1) sc_law_reader.nd rfl (by first | exact Or.inl rfl | exact Or.inr rfl)) (Wt (Xa (i:=2) sc_law_reader.nd rfl (by first | exact Or.inl rfl | exact Or.inr rfl)) Zef))))
  (Zd (Zi (i:=3) sc_law_reader.nd rfl (by first | exact Or.inl rfl | exact Or.inr rfl) (Yg Ze))
  (Zd (Zi (i:=4) sc_law_reader.nd rfl (by first | exact Or.inl rfl | exact Or.inr rfl) Zu)
  (Zd (Ws PassesOwn.never (PW.pt (Jd (Zn oLeM (pv 2) (Zo Zs rfl nb.len_ Zy (Za (pv 0) Ze)) (nomark _)) (Ja (Zn oLt (Zo Zs rfl nb.len_ Zy (Za (pv 3) Ze)) (pv 1) (nomark _)))))
   (Zd (Xbg (Zk D_law_count_at hr (Za (pv 0) (Za (pv 2) Ze))) (Zsa rfl (Wt (Xa (i:=5) sc_law_reader.nd rfl (by first | exact Or.inl rfl | exact Or.inr rfl)) (Wt (Xa (i:=2) sc_law_reader.nd rfl (by first | exact Or.inl rfl | exact Or.inr rfl)) Zef))))
   (Zd (Xbg (Zk D_law_count_at hr (Za (pv 0) (Za (pv 2) Ze))) (Zsa rfl (Wt (Xa (i:=6) sc_law_reader.nd rfl (by first | exact Or.inl rfl | exact Or.inr rfl)) (Wt (Xa (i:=2) sc_law_reader.nd rfl (by first | exact Or.inl rfl | exact Or.inr rfl)) Zef))))
   (Zd (Xc (PW.pt (Zpd (Zn oGt (pv 5) (Zo Zs rfl nb.len_ Zy (Za (pv 4) Ze)) (nomark _)) (Zfd (Zn oGt (pv 6) (Zj oSub (Zo Zs rfl nb.len_ Zy (Za (pv 0) Ze)) (pv 2)) (nomark _))))) (Zg (Zr Ju)) Zt)
   (Zd (Zi (i:=7) sc_law_reader.nd rfl (by first | exact Or.inl rfl | exact Or.inr rfl) (Zj oAdd (Zw slAll (pv 4) Xk (Zv (pv 5))) (Zw slAll (pv 0) (Zv (pv 2)) (Zv (Zj oAdd (pv 2) (pv 6))))))
   (Zd (Xc (PW.pt (Zpd (Zn (oNeLS (room64 hr)) (Zk D_law_common hr (Za (pv 4) (Za (pv 7) Ze))) (pv 5) (nomark _)) (Zfd (PW.pt (Jd (Zn (oNeLS (room64 hr)) (pv 3) (Yg Ze) (nomark _)) (Ja (Zn oLeM (pv 7) (pv 4) (nomark _)))))))) (Zg (Zr Ju)) Zt)
   (Zd (Zee (Zgd PySem.F.plainAttrs_list PySem.F.slot_list_append PySem.F.type_list_append Zbe (pv 3) (Za (pv 7) Ze)))
   (Zd (Zi (i:=4) sc_law_reader.nd rfl (by first | exact Or.inl rfl | exact Or.inr rfl) (pv 7))
   (Zg (Zi (i:=2) sc_law_reader.nd rfl (by first | exact Or.inl rfl | exact Or.inr rfl) (Zj oAdd (pv 2) (pv 6))))))))))))
  (Zd (Xc (Zn (oNeLS (room64 hr)) (pv 2) (Zo Zs rfl nb.len_ Zy (Za (pv 0) Ze)) (nomark _)) (Zg (Zr Ju)) Zt)
  (Zg (Zr (pv 3)))))))),?_⟩
 try dsimp only [cxK0,cxK1,cxK2,cxK3]
 have hL:(rowS l).length≤sizeLine:=by rw [Zb];exact small5 (by omega)
 have hLl:=Zb l
 have n0l:=Zua (l:=l) (i:=0) (by omega)
 refine ⟨_,rfl,l,0,rfl,hl,by omega,fun p1 hp1=>⟨p1,_,rfl,SqL.of Zc,rfl,_,_,rfl,_,_,rfl,rfl,?_⟩⟩
 rw [Nat.zero_add]
 obtain ⟨N,hN⟩:∃ N,N=cnv l 0:=⟨_,rfl⟩
 obtain ⟨n0,hn0⟩:∃ n0,n0=(cnt (cnv l 0)).length:=⟨_,rfl⟩
 have s1':=Zh (o:=HO.lst [.int ((cnv l 0:Nat):Int),.int (((cnt (cnv l 0)).length:Nat):Int)]) hp1
 refine ⟨Nat.zero_le _,fun p hp=>?_⟩
 have s2':=s1'.trans (Zh (o:=HO.lst []) hp)
 have hpH:=s1'.free hp
 have st0:LwAt l [] n0:=by
  rcases Nat.lt_or_ge l.length n0 with c | c
  ·refine .inr ⟨c,by omega,?_,rfl⟩
   unfold rowsR
   rw [if_neg (by omega)]
  ·rw [hn0];exact .inl (RdAt.start rfl (by omega))
 refine ⟨fun m σ H2=>∃ (rs:List (List Bool)) (i:Nat) (z1 z2 z3:Option V),LwAt l rs i∧m=N - rs.length∧σ=[some (.str (rowS l)),some (.int ((N:Nat):Int)),some (.int ((i:Nat):Int)),some (.ref p),some (.str (rowS (rs.getLastD []))),z1,z2,z3]∧Same H H2∧H2 p=some (.lst (RL rs)),
  ⟨_,[],n0,none,none,none,st0,rfl,(by rw [hN,hn0];rfl),s2',Zc⟩,?_⟩
 rintro m σ H2 ⟨rs,i,z1,z2,z3,S,rfl,rfl,hs,hpv⟩
 refine ⟨_,rfl,_,rfl,_,_,rfl,⟨hL,rfl⟩,.inl ⟨_,_,rfl,rfl,_,rfl,?_⟩⟩
 rw [hLl]
 refine iteD (fun c=>?_) (fun c=>?_)
 ·have S:RdAt l (rowsR l) rs i:=S.resolve_right fun z=>by omega
  have hi:=S.at_
  have hf:=S.few
  have hsm:=S.sm
  refine ⟨_,rfl,_,_,rfl,.inl ⟨_,SqL.of hpv,rfl⟩,_,rfl,.inl ⟨_,_,rfl,rfl,_,rfl,?_⟩⟩
  rw [Zz]
  refine iteD (fun c2=>?_) (fun c2=>?_)
  ·have hjl:rs.length<cnv l 0:=by omega
   have hla:=Zaf hsm
   have hlaL:(rowS (rs.getLastD [])).length≤sizeLine:=by rw [Zb];exact small5 (by omega)
   have hlar:=Zb (rs.getLastD [])
   refine ⟨fun σ' H'=>∃ m',m'<N - rs.length∧∃ (rs:List (List Bool)) (i:Nat) (z1 z2 z3:Option V),LwAt l rs i∧m'=N - rs.length∧σ'=[some (.str (rowS l)),some (.int ((N:Nat):Int)),some (.int ((i:Nat):Int)),some (.ref p),some (.str (rowS (rs.getLastD []))),z1,z2,z3]∧Same H H'∧H' p=some (.lst (RL rs)),fun _ _ h=>h,?_⟩
   have l1:=Zua (l:=l) (i:=i) (by omega)
   refine ⟨_,rfl,_,rfl,l,i,rfl,hl,by omega,fun t1 ht1=>⟨t1,_,rfl,SqL.of Zc,rfl,_,_,rfl,_,_,rfl,rfl,?_⟩⟩
   have l2:=Zua (l:=l) (i:=i+(cnt (cnv l i)).length) (by omega)
   refine ⟨_,rfl,_,rfl,l,i+(cnt (cnv l i)).length,rfl,hl,by omega,fun t2 ht2=>⟨t2,_,rfl,SqL.of Zc,rfl,_,_,rfl,_,_,rfl,rfl,?_⟩⟩
   have s3':=(Zh (o:=HO.lst [.int ((cnv l i:Nat):Int),.int ((i+(cnt (cnv l i)).length:Nat):Int)]) ht1).trans (Zh (o:=HO.lst [.int ((cnv l (i+(cnt (cnv l i)).length):Nat):Int),.int ((i+(cnt (cnv l i)).length+(cnt (cnv l (i+(cnt (cnv l i)).length))).length:Nat):Int)]) ht2)
   have hp3:=s3' _ _ hpv
   have hs3:=hs.trans s3'
   have stop:=S.stop hjl
   have step:=fun r j=>S.step (r:=r) (j:=j) hjl
   unfold entR at stop step
   generalize upd (upd H2 t1 _) t2 _=H3 at *
   generalize cnv l (i+(cnt (cnv l i)).length)=m at *
   generalize i+(cnt (cnv l i)).length+(cnt m).length=i2 at *
   generalize cnv l i=c at *
   refine ⟨_,rfl,_,rfl,_,_,rfl,⟨hlaL,rfl⟩,_,_,rfl,rfl,_,rfl,?_⟩
   rw [hlar]
   refine iteD (fun c3=>?_) (fun c3=>?_)
   ·exact ⟨H,.refl hs3,q1 (stop (by unfold entAt;rw [if_neg (fun z=>by have:=z.2.1;omega)]))⟩
   refine ⟨_,rfl,_,rfl,_,_,rfl,⟨hL,rfl⟩,_,rfl,_,_,rfl,rfl,_,_,rfl,rfl,_,rfl,?_⟩
   rw [hLl]
   refine iteD (fun c4=>?_) (fun c4=>?_)
   ·exact ⟨H,.refl hs3,q1 (stop (by unfold entAt;rw [if_neg (fun z=>by have:=z.1;omega)]))⟩
   have c5:i2+m≤l.length:=by omega
   have c6:c≤(rs.getLastD []).length:=by omega
   refine ⟨_,rfl,_,rfl,_,rfl,.inr ⟨_,rfl,hlaL,?_⟩⟩
   rw [Zvg _ c c6]
   refine ⟨_,rfl,_,rfl,_,rfl,_,rfl,_,rfl,.inl ⟨_,_,rfl,rfl,_,rfl,.inr ⟨_,rfl,hL,?_⟩⟩⟩
   dsimp only
   rw [show ((i2:Nat):Int)+((m:Nat):Int)=((i2+m:Nat):Int) from rfl,Qn]
   have hrl:((l.drop i2).take m).length≤9000:=by rw [List.length_take,List.length_drop];omega
   have htl:((rs.getLastD []).take c).length≤9000:=by rw [List.length_take];omega
   refine .inr ⟨_,_,rfl,rfl,(by rw [Zb,Zb];exact small5 (by omega)),?_⟩
   rw [Zl]
   have hrow:((rs.getLastD []).take c++(l.drop i2).take m).length≤18000:=by rw [List.length_append];omega
   unfold entAt at stop step
   generalize hrw:(rs.getLastD []).take c++(l.drop i2).take m=row at *
   refine ⟨_,rfl,_,rfl,rs.getLastD [],row,rfl,by omega,by omega,_,rfl,.inl ⟨rfl,_,rfl,?_⟩⟩
   by_cases e1:com (rs.getLastD []) row=c
   ·have b1:(!decide (V.int ((com (rs.getLastD []) row:Nat):Int)=V.int ((c:Nat):Int)))=false:=by rw [e1];simp
    rw [b1]
    refine iteF ⟨_,rfl,Nat.zero_le _,fun t5 ht5 => .inr ⟨p,t5,rs,[],rfl,rfl,Zh (o:=HO.lst []) ht5 _ _ hp3,Zc,_,rfl,?_⟩⟩
    have hs5:=hs3.trans (Zh (o:=HO.lst []) ht5)
    have hp5:=Zh (o:=HO.lst []) ht5 _ _ hp3
    generalize upd H3 t5 (HO.lst [])=H5 at *
    by_cases e0:rs=[]
    ·have b2:(!decide (rs=[]))=false:=by rw [e0];rfl
     rw [b2]
     have hfl:rs.isEmpty=true∨Lt (rs.getLastD []) row := .inl (by rw [e0];rfl)
     refine iteF ?_
     have S2:=step row (i2+m) (by rw [if_pos ⟨c5,c6,e1,hfl⟩])
     refine ⟨_,rfl,.inl ⟨rfl,_,SqL.of hp5⟩,_,rfl,_,_,_,rfl,rfl,hp5,(by rw [Zz];exact Nat.lt_of_lt_of_le (show rs.length<100000 by omega) (small5 (Nat.le_refl _))),?_⟩
     have etk:RL rs++[V.str (rowS row)]=RL (rs++[row]):=by rw [Zdc];rfl
     rw [etk]
     have egl:(rs++[row]).getLastD []=row:=by simp
     refine ⟨_,rfl,_,rfl,_,rfl,.inl ⟨_,_,rfl,rfl,N - (rs++[row]).length,?_,rs++[row],i2+m,some (.int ((c:Nat):Int)),some (.int ((m:Nat):Int)),some (.str (rowS row)),.inl S2,rfl,?_,Jo hs5 hpH,Zc⟩⟩
     ·rw [List.length_append,List.length_singleton];omega
     ·rw [egl];rfl
    ·have b2:(!decide (rs=[]))=true:=by simp [e0]
     rw [b2]
     refine iteT ⟨_,rfl,_,rfl,.inr ⟨_,_,rfl,rfl,_,rfl,?_⟩⟩
     by_cases e2:Lt (rs.getLastD []) row
     ·have b3:(!decide ((rowS (rs.getLastD [])).cps.toList<(rowS row).cps.toList))=false:=by rw [decide_eq_true (show _<_ from e2)];rfl
      rw [b3]
      have hfl:rs.isEmpty=true∨Lt (rs.getLastD []) row := .inr e2
      refine iteF ?_
      have S2:=step row (i2+m) (by rw [if_pos ⟨c5,c6,e1,hfl⟩])
      refine ⟨_,rfl,.inl ⟨rfl,_,SqL.of hp5⟩,_,rfl,_,_,_,rfl,rfl,hp5,(by rw [Zz];exact Nat.lt_of_lt_of_le (show rs.length<100000 by omega) (small5 (Nat.le_refl _))),?_⟩
      have etk:RL rs++[V.str (rowS row)]=RL (rs++[row]):=by rw [Zdc];rfl
      rw [etk]
      have egl:(rs++[row]).getLastD []=row:=by simp
      refine ⟨_,rfl,_,rfl,_,rfl,.inl ⟨_,_,rfl,rfl,N - (rs++[row]).length,?_,rs++[row],i2+m,some (.int ((c:Nat):Int)),some (.int ((m:Nat):Int)),some (.str (rowS row)),.inl S2,rfl,?_,Jo hs5 hpH,Zc⟩⟩
      ·rw [List.length_append,List.length_singleton];omega
      ·rw [egl];rfl
     ·have b3:(!decide ((rowS (rs.getLastD [])).cps.toList<(rowS row).cps.toList))=true:=by rw [decide_eq_false (show ¬_<_ from e2)];rfl
      rw [b3]
      refine iteT ⟨H,.refl hs5,q1 (stop (if_neg fun z=>?_))⟩
      rcases z.2.2.2 with z | z
      ·exact e0 (List.isEmpty_iff.mp z)
      ·exact e2 z
   ·have b1:(!decide (V.int ((com (rs.getLastD []) row:Nat):Int)=V.int ((c:Nat):Int)))=true:=by
     rw [decide_eq_false (fun z=>e1 (by have:=V.int.inj z;omega))];rfl
    rw [b1]
    exact iteT ⟨H,.refl hs3,q1 (stop (by rw [if_neg (fun z=>e1 z.2.2.1)]))⟩
  ·have hlast:=S.last (by omega)
   refine ⟨_,rfl,_,rfl,_,_,rfl,⟨hL,rfl⟩,.inl ⟨rfl,_,rfl,?_⟩⟩
   rw [hLl]
   by_cases e:i=l.length
   ·have b1:(!decide (V.int ((i:Nat):Int)=V.int ((l.length:Nat):Int)))=false:=by rw [e];simp
    rw [b1]
    rw [if_pos e] at hlast
    exact iteF ⟨_,rfl,_,.new hpH hs hpv trivial,q2 rs hlast p hpH⟩
   ·have b1:(!decide (V.int ((i:Nat):Int)=V.int ((l.length:Nat):Int)))=true:=by
     rw [decide_eq_false (fun z=>e (by have:=V.int.inj z;omega))];rfl
    rw [b1]
    rw [if_neg e] at hlast
    exact iteT ⟨H,.refl hs,q1 hlast⟩
 ·obtain ⟨c1,_,hno,_⟩:=S.resolve_left fun z=>c (by have:=z.at_;omega)
  refine iteF ⟨_,rfl,_,rfl,_,_,rfl,⟨hL,rfl⟩,.inl ⟨rfl,_,rfl,?_⟩⟩
  rw [hLl]
  have b1:(!decide (V.int ((i:Nat):Int)=V.int ((l.length:Nat):Int)))=true:=by
   rw [decide_eq_false (fun z=>by have:=V.int.inj z;omega)];rfl
  rw [b1]
  exact iteT ⟨H,.refl hs,q1 hno⟩
theorem Wc {n:Nat} (h:n≤100):(cnt n).length≤21:=by
 have a:=Qw (Yr (n:=n) (by omega))
 have:blen (n+1)≤7:=Yf (show n+1<2 ^ 7 by omega)
 omega
theorem Zlh:∀ (rs:List (List Bool)) (a:List Bool),(∀ r∈rs,r.length≤60)→(ents a rs).length≤110*rs.length
 | [],_,_=>Nat.zero_le _
 | r::rs,a,h=>by
  have ih:=Zlh rs r fun x hx=>h x (List.mem_cons_of_mem _ hx)
  have hr:=h r (List.mem_cons_self ..)
  have hc:=(Zcj (a:=a) (b:=r)).2
  rw [ents,List.length_append,List.length_cons]
  have l1:=Wc (n:=com a r) (by omega)
  have l2:=Wc (n:=r.length - com a r) (by omega)
  have:(ent a r).length≤110:=by unfold ent;rw [List.length_append,List.length_append,List.length_drop];omega
  omega
theorem Zkd {rs:List (List Bool)} (hn:rs.length≤20) (h:∀ r∈rs,r.length≤60):(page rs).length≤2300:=by
 have a:=Zlh rs [] h
 have b:=Wc (n:=rs.length) (by omega)
 unfold page
 rw [List.length_append]
 omega
noncomputable def spCounted:Sp:=fun vs H Q _=>∃ (w far:Nat) (l:List Bool) (k:Int),vs=[.int ((w:Nat):Int),.int ((far:Nat):Int),.str (rowS l),.int k]∧far+1<2 ^ 254∧l.length≤5000∧∀ z:List Bool,z.length≤l.length+900→Q (.str (rowS z)) H
theorem Zkf {f:Addr} {fd:FuncData} (F:FunAt K mg "_law_counted" Yb ["_law_way","_law_far","_law_page_here","_law_at"] f fd) (D_law_count:DefOk P w K mg base 2 "_law_count" ["_law_n"] spLawCount):DefOk P w K mg base 3 "_law_counted" ["_law_way","_law_far","_law_page_here","_law_at"] spCounted:=by
 refine F.ok Zjg (fun vs H Q E h=>?_) (fun cdv A outer s H vs Q E hr h=>?_)
 ·obtain ⟨w,far,l,k,rfl,_⟩:=h;rfl
 obtain ⟨w,far,l,k,rfl,hf,hl,q⟩:=h
 refine ⟨_,(Zd (Xc (Zn oEq (pv 0) Zf (nomark _)) (Zg (Zr (Zj oAdd (Zk D_law_count hr (Za (pv 1) Ze)) (pv 2)))) Zt)
  (Zd (Xc (Zn oEq (pv 0) Zf (nomark _)) (Zg (Zr (Zj oAdd (Zj oAdd (Zk D_law_count hr (Za (Zj oAdd Zf (Zj Xw (pv 1) Zf)) Ze)) (Zk D_law_count hr (Za (Zj Wp (pv 1) Zf) Ze))) (pv 2)))) Zt)
  (Zg (Zr (Zj oAdd (Zj oAdd (Zj oAdd (Zk D_law_count hr (Za Zf Ze)) (Zk D_law_count hr (Za Zf Ze))) (Zk D_law_count hr (Za (pv 1) Ze))) (Zw slAll (pv 2) Xk (Zv (pv 3)))))))),?_⟩
 try dsimp only [cxK0,cxK1,cxK2,cxK3]
 have hf1:far+1<2 ^ 255:=by omega
 have l1:=Wk hf1
 refine ⟨_,rfl,rfl,_,rfl,iteD (fun c=>?_) (fun c=>?_)⟩
 ·refine ⟨_,rfl,far,rfl,hf1,_,rfl,.inr ⟨_,_,rfl,rfl,(by rw [Zb,Zb];exact small5 (by omega)),?_⟩⟩
  rw [Zl]
  exact ⟨H,.refl (Same.refl _),q _ (by rw [List.length_append];omega)⟩
 refine ⟨_,rfl,rfl,_,rfl,iteD (fun c2=>?_) (fun c2=>?_)⟩
 ·have hd:far/2+1<2 ^ 255:=by omega
  have l2:=Wk hd
  have l3:=Wk (Yr (n:=1+far%2) (by omega))
  refine ⟨_,rfl,_,_,rfl,rfl,(by show (0:Int)<2;decide),.inl ⟨_,_,rfl,rfl,1+far%2,(congrArg (fun x=>[V.int x]) (by omega)),Yr (by omega),?_⟩⟩
  refine ⟨_,rfl,_,_,rfl,rfl,⟨by decide,by decide⟩,far/2,(congrArg (fun x=>[V.int x]) (by omega)),hd,.inr ⟨_,_,rfl,rfl,(by rw [Zb,Zb];exact small5 (by omega)),?_⟩⟩
  rw [Zl]
  refine ⟨_,rfl,.inr ⟨_,_,rfl,rfl,(by rw [Zb,Zb,List.length_append];exact small5 (by omega)),?_⟩⟩
  rw [Zl]
  exact ⟨H,.refl (Same.refl _),q _ (by rw [List.length_append,List.length_append];omega)⟩
 ·have l2:=Wc (n:=1) (by omega)
  have l3:=Wc (n:=0) (by omega)
  have hL:(rowS l).length≤sizeLine:=by rw [Zb];exact small5 (by omega)
  refine ⟨1,rfl,Yr (by omega),0,rfl,Yr (by omega),.inr ⟨_,_,rfl,rfl,(by rw [Zb,Zb];exact small5 (by omega)),?_⟩⟩
  rw [Zl]
  refine ⟨_,rfl,far,rfl,hf1,.inr ⟨_,_,rfl,rfl,(by rw [Zb,Zb,List.length_append];exact small5 (by omega)),?_⟩⟩
  rw [Zl]
  refine ⟨_,rfl,_,rfl,_,rfl,.inr ⟨_,rfl,hL,?_⟩⟩
  obtain ⟨l',e1,e2⟩:=Wm l none (some k)
  rw [e1]
  refine .inr ⟨_,_,rfl,rfl,(by rw [Zb,Zb,List.length_append,List.length_append];exact small5 (by omega)),?_⟩
  rw [Zl]
  exact ⟨H,.refl (Same.refl _),q _ (by rw [List.length_append,List.length_append,List.length_append];omega)⟩
noncomputable def spLoose:Sp:=fun vs H Q _=>∃ (a:Addr) (rs:List (List Bool)) (k:Int),vs=[.ref a,.int k]∧H a=some (.lst (RL rs))∧rs.length≤31∧(∀ r∈rs,r.length≤60)∧∀ z:List Bool,z.length≤4000→Q (.str (rowS z)) H
set_option maxHeartbeats 1000000 in
theorem Zse {f:Addr} {fd:FuncData} (nb:NB mg) (F:FunAt K mg "_law_loose" Yt ["_law_rows_here","_law_number"] f fd) (D_law_count:DefOk P w K mg base 2 "_law_count" ["_law_n"] spLawCount) (D_law_common:DefOk P w K mg base 1 "_law_common" ["_law_one","_law_other"] spCom):DefOk P w K mg base 3 "_law_loose" ["_law_rows_here","_law_number"] spLoose:=by
 refine F.ok sc_law_loose (fun vs H Q E h=>?_) (fun cdv A outer s H vs Q E hr h=>?_)
 ·obtain ⟨a,rs,k,rfl,_⟩:=h;rfl
 obtain ⟨a,rs,k,rfl,ha,hn,hb,q⟩:=h
 refine ⟨_,(Zd (Zi (i:=2) sc_law_loose.nd rfl (by first | exact Or.inl rfl | exact Or.inr rfl) (Zk D_law_count hr (Za (Zo Zs rfl nb.len_ Zy (Za (pv 0) Ze)) Ze)))
  (Zd (Zi (i:=3) sc_law_loose.nd rfl (by first | exact Or.inl rfl | exact Or.inr rfl) Zu)
  (Zd (Qc PassesOwn.never rfl (Wa rfl nb.range_ (Za (Zo Zs rfl nb.len_ Zy (Za (pv 0) Ze)) Ze)) (Xa (i:=4) sc_law_loose.nd rfl (by first | exact Or.inl rfl | exact Or.inr rfl))
   (Zd (Zi (i:=5) sc_law_loose.nd rfl (by first | exact Or.inl rfl | exact Or.inr rfl) (Zk D_law_common hr (Za (pv 3) (Za (Xb iAll (pv 0) (pv 4) (fun _ _=>rfl)) Ze))))
   (Zd (Xc (Zn oEq (pv 4) (Zj Xw (pv 1) (Zo (Zqg rfl) rfl nb.max_ Xrh (Za (Zo Zs rfl nb.len_ Zy (Za (pv 0) Ze)) (Za Zf Ze)))) (nomark _)) (Zg (Zi (i:=5) sc_law_loose.nd rfl (by first | exact Or.inl rfl | exact Or.inr rfl) (Zo (Zqg rfl) rfl nb.max_ Xrh (Za (Zj oSub (pv 5) Zf) (Za Zf Ze))))) Zt)
   (Zd (Zi (i:=2) sc_law_loose.nd rfl (by first | exact Or.inl rfl | exact Or.inr rfl) (Zj oAdd (Zj oAdd (pv 2) (Zk D_law_count hr (Za (pv 5) Ze))) (Zk D_law_count hr (Za (Zj oSub (Zo Zs rfl nb.len_ Zy (Za (Xb iAll (pv 0) (pv 4) (fun _ _=>rfl)) Ze)) (pv 5)) Ze))))
   (Zd (Zi (i:=2) sc_law_loose.nd rfl (by first | exact Or.inl rfl | exact Or.inr rfl) (Zj oAdd (pv 2) (Zw slAll (Xb iAll (pv 0) (pv 4) (fun _ _=>rfl)) (Zv (pv 5)) Xk)))
   (Zg (Zi (i:=3) sc_law_loose.nd rfl (by first | exact Or.inl rfl | exact Or.inr rfl) (Xb iAll (pv 0) (pv 4) (fun _ _=>rfl)))))))))
  (Zg (Zr (pv 2)))))),?_⟩
 try dsimp only [cxK0,cxK1,cxK2,cxK3]
 refine ⟨_,rfl,_,_,rfl,.inl ⟨_,SqL.of ha,rfl⟩,rs.length,(by rw [Zz];rfl),Yr (by omega),?_⟩
 refine ⟨_,rfl,_,_,rfl,.inl ⟨_,SqL.of ha,rfl⟩,_,rfl,(by rw [Zz];omega),(by rw [Zz];omega),?_⟩
 have l0:=Wc (n:=rs.length) (by omega)
 refine Wb (fun i σ H2=>H2=H∧∃ (told la:List Bool) (z1 z2:Option V),told.length≤21+110*i∧la.length≤60∧σ=[some (.ref a),some (.int k),some (.str (rowS told)),some (.str (rowS la)),z1,z2]) ⟨rfl,_,[],_,_,(by omega),Nat.zero_le _,(by rw [← sE];rfl)⟩ ?_ ?_
 ·rintro i σ H2 hi ⟨rfl,told,la,z1,z2,h1,h2,rfl⟩
  rw [Int.zero_add]
  rw [Zz] at hi
  have hil:i<rs.length:=by omega
  have er:=List.getElem?_eq_getElem hil
  have hrm:=hb rs[i] (List.getElem_mem hil)
  have hat:=Xe (xs:=RL rs) (j:=i) (Xwf er)
  generalize rs[i]=r at *
  have hR:(rowS r).length≤sizeLine:=by rw [Zb];exact small5 (by omega)
  have hcm:=Zcj (a:=la) (b:=r)
  refine ⟨_,rfl,_,rfl,_,rfl,.inl (.inl ⟨_,_,_,_,rfl,rfl,SqL.of ha,hat,la,r,rfl,by omega,by omega,?_⟩)⟩
  generalize com la r=c at *
  refine ⟨_,rfl,_,rfl,_,rfl,_,_,rfl,.inl ⟨_,SqL.of ha,rfl⟩,_,_,rfl,?_⟩
  rw [Zz]
  refine ⟨_,_,rfl,rfl,(by split<;>omega),rfl,_,rfl,iteD (fun c1=>?_) (fun c1=>?_)⟩
  ·refine ⟨_,rfl,_,_,rfl,rfl,_,_,rfl,?_⟩
   obtain ⟨cc,hcc,hle⟩:∃ cc:Nat,(if (0:Int) > ((c:Nat):Int) - 1 then 0 else ((c:Nat):Int) - 1)=((cc:Nat):Int)∧cc≤c:=⟨c - 1,by split<;>omega,by omega⟩
   rw [hcc]
   have l1:=Wc (n:=cc) (by omega)
   have l2:=Wc (n:=r.length - cc) (by omega)
   refine ⟨_,rfl,_,rfl,cc,rfl,Yr (by omega),.inr ⟨_,_,rfl,rfl,(by rw [Zb,Zb];exact small5 (by omega)),?_⟩⟩
   rw [Zl]
   refine ⟨_,rfl,_,rfl,.inl (.inl ⟨_,_,_,_,rfl,rfl,SqL.of ha,hat,_,_,rfl,⟨hR,rfl⟩,_,rfl,_,_,rfl,rfl,r.length - cc,(congrArg (fun x=>[V.int x]) (by rw [Zb];omega)),Yr (by omega),.inr ⟨_,_,rfl,rfl,(by rw [Zb,Zb,List.length_append];exact small5 (by omega)),?_⟩⟩)⟩
   rw [Zl]
   refine ⟨_,rfl,_,rfl,_,rfl,.inl (.inl ⟨_,_,_,_,rfl,rfl,SqL.of ha,hat,_,rfl,_,rfl,.inr ⟨_,rfl,hR,?_⟩⟩)⟩
   rw [Qa r cc]
   refine .inr ⟨_,_,rfl,rfl,(by rw [Zb,Zb,List.length_append,List.length_append,List.length_drop];exact small5 (by omega)),?_⟩
   rw [Zl]
   exact ⟨_,rfl,_,rfl,.inl (.inl ⟨_,_,_,_,rfl,rfl,SqL.of ha,hat,rfl,_,r,some (.int ((i:Nat):Int)),some (.int ((cc:Nat):Int)),(by rw [List.length_append,List.length_append,List.length_append,List.length_drop];omega),hrm,rfl⟩)⟩
  ·obtain ⟨cc,hcc⟩:∃ cc,cc=c:=⟨_,rfl⟩
   rw [← hcc] at hcm ⊢
   have l1:=Wc (n:=cc) (by omega)
   have l2:=Wc (n:=r.length - cc) (by omega)
   refine ⟨_,rfl,_,rfl,cc,rfl,Yr (by omega),.inr ⟨_,_,rfl,rfl,(by rw [Zb,Zb];exact small5 (by omega)),?_⟩⟩
   rw [Zl]
   refine ⟨_,rfl,_,rfl,.inl (.inl ⟨_,_,_,_,rfl,rfl,SqL.of ha,hat,_,_,rfl,⟨hR,rfl⟩,_,rfl,_,_,rfl,rfl,r.length - cc,(congrArg (fun x=>[V.int x]) (by rw [Zb];omega)),Yr (by omega),.inr ⟨_,_,rfl,rfl,(by rw [Zb,Zb,List.length_append];exact small5 (by omega)),?_⟩⟩)⟩
   rw [Zl]
   refine ⟨_,rfl,_,rfl,_,rfl,.inl (.inl ⟨_,_,_,_,rfl,rfl,SqL.of ha,hat,_,rfl,_,rfl,.inr ⟨_,rfl,hR,?_⟩⟩)⟩
   rw [Qa r cc]
   refine .inr ⟨_,_,rfl,rfl,(by rw [Zb,Zb,List.length_append,List.length_append,List.length_drop];exact small5 (by omega)),?_⟩
   rw [Zl]
   exact ⟨_,rfl,_,rfl,.inl (.inl ⟨_,_,_,_,rfl,rfl,SqL.of ha,hat,rfl,_,r,some (.int ((i:Nat):Int)),some (.int ((cc:Nat):Int)),(by rw [List.length_append,List.length_append,List.length_append,List.length_drop];omega),hrm,rfl⟩)⟩
 ·rintro σ H2 ⟨rfl,told,la,z1,z2,h1,h2,rfl⟩
  rw [Zz] at h1
  exact ⟨_,rfl,H2,.refl (Same.refl _),q _ (by omega)⟩
noncomputable def spBent (K:PySem.W.Frag):Sp:=fun vs H Q _=>∃ (a b:Addr) (ns:List Int) (rs:List (List Bool)),vs=[.ref a,.ref b]∧SqL K H a (ns.map V.int)∧ns.length≤63∧H b=some (.lst (RL rs))∧rs.length≤20∧(∀ r∈rs,r.length≤60)∧∀ z:List Bool,z.length≤5000→Q (.str (rowS z)) H
theorem Zdg (x:Int):atI (Str.ofString "01").cps.toList (x%2)=some (bc (decide (x%2=1))):=by
 rw [s01,Xi]
 have h:x%2=0∨x%2=1:=by omega
 rcases h with h | h
 ·rw [h];rfl
 ·rw [h];rfl
noncomputable def cellB:V→Bool
 | .int c=>decide (c/2%2=1)
 | _=>false
theorem Zma:∀ cs:List Int,(cs.map fun c=>[cellB (.int c)]).flatten.length=cs.length
 | []=>rfl
 | c::cs=>by
  rw [List.map_cons,List.flatten_cons,List.length_append,Zma cs,List.length_cons]
  show 1+cs.length=cs.length+1
  omega
theorem Zqf:∀ cs:List Int,(((cs.map fun c=>[cellB (.int c)]).map rowS).map (·.length)).sum=cs.length
 | []=>rfl
 | c::cs=>by
  rw [List.map_cons,List.map_cons,List.map_cons,List.sum_cons,Zqf cs,Zb,List.length_cons]
  show 1+cs.length=cs.length+1
  omega
theorem Xoh (rs:List (List Bool)):0<(page rs).length:=by
 have:=Zaj rs.length
 unfold page
 rw [List.length_append]
 omega
set_option maxHeartbeats 2000000 in
theorem Zxf {f:Addr} {fd:FuncData} (nb:NB mg) (F:FunAt K mg "_law_bent" Wg ["_law_script","_law_rows_here"] f fd) (D_law_cell_at:DefOk P w K mg base 1 "_law_cell_at" ["_law_script","_law_k"] (spCellAt K)) (D_law_mixed:DefOk P w K mg base 1 "_law_mixed" ["_law_cell","_law_k"] spMixed) (D_law_page:DefOk P w K mg base 3 "_law_page" ["_law_rows_here"] (spLawPage K)) (D_law_counted:DefOk P w K mg base 3 "_law_counted" ["_law_way","_law_far","_law_page_here","_law_at"] spCounted) (D_law_loose:DefOk P w K mg base 3 "_law_loose" ["_law_rows_here","_law_number"] spLoose):DefOk P w K mg base 4 "_law_bent" ["_law_script","_law_rows_here"] (spBent K):=by
 refine F.ok sc_law_bent (fun vs H Q E h=>?_) (fun cdv A outer s H vs Q E hr h=>?_)
 ·obtain ⟨a,b,ns,rs,rfl,_⟩:=h;rfl
 obtain ⟨a,b,ns,rs,rfl,hS,hl,hb,hn,hbb,q⟩:=h
 refine ⟨_,(Zd (Zi (i:=2) sc_law_bent.nd rfl (by first | exact Or.inl rfl | exact Or.inr rfl) (Zk D_law_mixed hr (Za (Zk D_law_cell_at hr (Za (pv 0) (Za Zf Ze))) (Za Zf Ze))))
  (Zd (Zi (i:=3) sc_law_bent.nd rfl (by first | exact Or.inl rfl | exact Or.inr rfl) (Zj Xw (Zk D_law_cell_at hr (Za (pv 0) (Za Zf Ze))) (Zj Xyc Zf Zf)))
  (Zd (Zi (i:=4) sc_law_bent.nd rfl (by first | exact Or.inl rfl | exact Or.inr rfl) (Zk D_law_page hr (Za (pv 1) Ze)))
  (Zd (Zi (i:=5) sc_law_bent.nd rfl (by first | exact Or.inl rfl | exact Or.inr rfl) (Zj Xw (Zj Wp (pv 2) Zf) (Zo Zs rfl nb.len_ Zy (Za (pv 4) Ze))))
  (Zd (Zi (i:=6) sc_law_bent.nd rfl (by first | exact Or.inl rfl | exact Or.inr rfl) (Xb iAll Zu (Zj Xw (Zj Wp (pv 2) Zf) Zf) (fun _ _=>rfl)))
  (Zd (Zi (i:=7) sc_law_bent.nd rfl (by first | exact Or.inl rfl | exact Or.inr rfl) (Zj Xw (pv 2) Zf))
  (Zd (Xc (Zn oLt (pv 7) Zf (nomark _)) (Zg (Zr (Zk D_law_counted hr (Za (pv 7) (Za (pv 3) (Za (pv 4) (Za (pv 5) Ze))))))) Zt)
  (Zd (Xc (Zn oEq (pv 7) Zf (nomark _)) (Zg (Zr (Zj oAdd (Zj oAdd (Zw slAll (pv 4) Xk (Zv (pv 5))) (Xb iAll (Yg (Za Zu (Za Zu Ze))) (Jp Jr rfl nb.int_ Zgb (Za (Xn oEq (Xb iAll (pv 4) (pv 5) (fun _ _=>rfl)) Zu (nomark _)) Ze)) (fun _ _=>rfl))) (Zw slAll (pv 4) (Zv (Zj oAdd (pv 5) Zf)) Xk)))) Zt)
  (Zd (Xc (Zn oEq (pv 7) Zf (nomark _)) (Zg (Zr (Zj oAdd (Zj oAdd (Zw slAll (pv 4) Xk (Zv (pv 5))) (pv 6)) (Zw slAll (pv 4) (Zv (pv 5)) Xk)))) Zt)
  (Zd (Xc (Zn oEq (pv 7) Zf (nomark _)) (Zg (Zr (Zj oAdd (Zw slAll (pv 4) Xk (Zv (pv 5))) (Zw slAll (pv 4) (Zv (Zj oAdd (pv 5) Zf)) Xk)))) Zt)
  (Zd (Xc (Zn oEq (pv 7) Zf (nomark _)) (Zd (Zi (i:=8) sc_law_bent.nd rfl (by first | exact Or.inl rfl | exact Or.inr rfl) (Zw slAll (pv 4) (Zv (Zj oAdd (pv 5) Zf)) (Zv (Zj oAdd (pv 5) Zf))))
   (Zg (Zr (Zj oAdd (Zj oAdd (Zj oAdd (Zw slAll (pv 4) Xk (Zv (pv 5))) (pv 8)) (Xb iAll (pv 4) (pv 5) (fun _ _=>rfl))) (Zw slAll (pv 4) (Zv (Zj oAdd (pv 5) Zf)) Xk))))) Zt)
  (Zd (Xc (Zn oEq (pv 7) Zf (nomark _)) (Zg (Zr (Zw slAll (pv 4) Xk (Zv (pv 5))))) Zt)
  (Zd (Xc (Zn oEq (pv 7) Zf (nomark _)) (Zg (Zr (Zj oAdd (pv 4) (Zj oMul (pv 6) (Zj oAdd Zf (Zj Xw (pv 5) Zf)))))) Zt)
  (Zd (Xc (Zn oEq (pv 7) Zf (nomark _)) (Zg (Zr (Zk D_law_page hr (Za (Xtj (pv 1) (Zpf Zfb Zf)) Ze)))) Zt)
  (Zd (Xc (Zn oEq (pv 7) Zf (nomark _)) (Zg (Zr (Zk D_law_loose hr (Za (pv 1) (Za (pv 5) Ze))))) Zt)
  (Zd (Xc (Zn oEq (pv 7) Zf (nomark _)) (Zg (Zr (Zgd PySem.F.plainAttrs_str PySem.F.slot_str_join PySem.F.type_str_join Zif Zu (Za (Jb ["_law_cell"] [] rfl (by decide +kernel) trivial (piAll (Zw slAll (pv 0) Xk (Zv Zf))) (fun _ _ _ _ _=>(Xa (i:=0) (show (["_law_cell"]:List Str).Nodup by decide +kernel) rfl (by first | exact Or.inl rfl | exact Or.inr rfl))) (fun _ _ _ _ _=>Zec) (fun _ _ _ _ _=>(Xb iAll Zu (Zj Xw (Zj Wp (pv 0) Zf) Zf) (fun _ _=>rfl)))) Ze)))) Zt)
  (Zg (Zr (pv 4))))))))))))))))))),?_⟩
 try dsimp only [cxK0,cxK1,cxK2,cxK3]
 refine ⟨_,rfl,a,ns,0,rfl,hS,hl,_,_,rfl,fun v hv0 hv1=>?_⟩
 refine ⟨_,rfl,a,ns,1,rfl,hS,hl,_,_,rfl,rfl,(by refine ⟨?_,?_,?_⟩<;>decide),_,_,rfl,rfl,(by show (0:Int)<10 ^ Int.toNat 60;decide +kernel),?_⟩
 have hb100:∀ r∈rs,r.length≤6000:=fun r hr=>by have:=hbb r hr;omega
 refine ⟨_,rfl,b,rs,rfl,SqL.of hb,by omega,hb100,?_⟩
 have hpl:=Zkd (rs:=rs) (by omega) hbb
 have hpp:=Xoh rs
 obtain ⟨l,hpl0⟩:∃ l,l=page rs:=⟨_,rfl⟩
 rw [← hpl0] at hpl hpp ⊢
 have hL:(rowS l).length≤sizeLine:=by rw [Zb];exact small5 (by omega)
 have eL:=Zb l
 refine ⟨_,rfl,_,_,rfl,rfl,⟨by decide,by decide⟩,_,rfl,_,_,rfl,⟨hL,rfl⟩,_,_,rfl,rfl,(by rw [eL];omega),?_⟩
 rw [eL]
 obtain ⟨t1,t2⟩:=modb (a:=v/13) (b:=((l.length:Nat):Int)) (by omega)
 obtain ⟨k,hk⟩:∃ k:Nat,v/13%((l.length:Nat):Int)=((k:Nat):Int):=⟨(v/13%((l.length:Nat):Int)).toNat,by omega⟩
 have hkl:k<l.length:=by omega
 obtain ⟨u1,u2⟩:=modb (a:=ns.getD 1 0) (b:=(10:Int) ^ Int.toNat 60) (by decide +kernel)
 obtain ⟨far,hfar⟩:∃ far:Nat,ns.getD 1 0%(10:Int) ^ Int.toNat 60=((far:Nat):Int):=⟨(ns.getD 1 0%(10:Int) ^ Int.toNat 60).toNat,by omega⟩
 have hfl:far+1<2 ^ 254:=by
  have:((far:Nat):Int)<(10:Int) ^ Int.toNat 60:=by rw [← hfar];exact u2
  have h2:(10:Int) ^ Int.toNat 60+1<2 ^ 254:=by decide +kernel
  omega
 dsimp only
 rw [hk,hfar]
 refine ⟨_,rfl,_,_,rfl,rfl,⟨by decide,by decide⟩,_,_,rfl,rfl,(by show (0:Int)<2;decide),.inr ⟨_,_,_,rfl,rfl,(by rw [s01,Zb];exact small5 (by decide)),Zdg _,?_⟩⟩
 rw [Wr]
 refine ⟨_,rfl,_,_,rfl,rfl,(by show (0:Int)<13;decide),?_⟩
 obtain ⟨w1,w2⟩:=modb (a:=v) (b:=13) (by decide)
 have hatk:atI (rowS l).cps.toList ((k:Nat):Int)=some (bc (l.getD k false)):=Xe (by rw [Xi,List.getElem?_map,List.getD_eq_getElem?_getD,List.getElem?_eq_getElem hkl];rfl)
 obtain ⟨wy,hwy⟩:∃ wy:Nat,v%13=((wy:Nat):Int):=⟨(v%13).toNat,by omega⟩
 dsimp only
 rw [hwy]
 obtain ⟨sg,hsg⟩:∃ sg:List Bool,sg.length=1∧[decide (v/5000%2=1)]=sg:=⟨_,rfl,rfl⟩
 refine ⟨_,rfl,.inl ⟨_,_,rfl,rfl,_,rfl,iteD (fun c1=>?_) (fun c1=>?_)⟩⟩
 ·exact ⟨_,rfl,_,rfl,_,rfl,_,rfl,wy,far,l,_,rfl,hfl,by omega,fun z hz=>⟨H,.refl (Same.refl _),q z (by omega)⟩⟩
 refine ⟨_,rfl,rfl,_,rfl,iteD (fun c2=>?_) (fun c2=>?_)⟩
 ·refine ⟨_,rfl,_,rfl,_,rfl,.inr ⟨_,rfl,hL,?_⟩⟩
  obtain ⟨l',e1,e2⟩:=Wm l none (some ((k:Nat):Int))
  rw [e1]
  refine ⟨(by show 2≤sizeLine;decide),fun p hp=>?_⟩
  refine ⟨_,rfl,_,rfl,.inr ⟨_,_,_,rfl,rfl,hL,hatk,rfl,.inl (.inr ⟨_,rfl,?_⟩)⟩⟩
  obtain ⟨y,hy⟩:∃ y:Bool,atI [V.str (Str.ofString "1"),V.str (Str.ofString "0")] (if (decide (V.str ⟨#[bc (l.getD k false)]⟩=V.str (Str.ofString "1")))=true then 1 else 0)=some (.str (rowS [y])):=by
   split
   ·exact ⟨false,by decide +kernel⟩
   ·exact ⟨true,by decide +kernel⟩
  refine .inl (.inl ⟨_,_,_,_,rfl,rfl,SqL.of Zc,hy,.inr ⟨_,_,rfl,rfl,(by rw [Zb,Zb];exact small5 (by simp only [List.length_cons,List.length_nil];omega)),?_⟩⟩)
  rw [Zl]
  refine ⟨_,rfl,_,rfl,.inl ⟨_,_,rfl,rfl,_,rfl,.inr ⟨_,rfl,hL,?_⟩⟩⟩
  obtain ⟨l2,e3,e4⟩:=Wm l (some (((k:Nat):Int)+1)) none
  rw [e3]
  refine .inr ⟨_,_,rfl,rfl,(by rw [Zb,Zb,List.length_append];exact small5 (by simp only [List.length_cons,List.length_nil];omega)),?_⟩
  rw [Zl]
  exact ⟨H,.refl (Zh hp),q _ (by rw [List.length_append,List.length_append];simp only [List.length_cons,List.length_nil];omega)⟩
 refine ⟨_,rfl,rfl,_,rfl,iteD (fun c3=>?_) (fun c3=>?_)⟩
 ·refine ⟨_,rfl,_,rfl,_,rfl,.inr ⟨_,rfl,hL,?_⟩⟩
  obtain ⟨l',e1,e2⟩:=Wm l none (some ((k:Nat):Int))
  rw [e1]
  refine ⟨_,rfl,.inr ⟨_,_,rfl,rfl,(by rw [Zb,Zb];exact small5 (by simp only [List.length_cons,List.length_nil];omega)),?_⟩⟩
  rw [Zl]
  refine ⟨_,rfl,_,rfl,_,rfl,.inr ⟨_,rfl,hL,?_⟩⟩
  rw [Qa]
  refine .inr ⟨_,_,rfl,rfl,(by rw [Zb,Zb,List.length_append,List.length_drop];exact small5 (by simp only [List.length_cons,List.length_nil];omega)),?_⟩
  rw [Zl]
  exact ⟨H,.refl (Same.refl _),q _ (by rw [List.length_append,List.length_append,List.length_drop];simp only [List.length_cons,List.length_nil];omega)⟩
 refine ⟨_,rfl,rfl,_,rfl,iteD (fun c4=>?_) (fun c4=>?_)⟩
 ·refine ⟨_,rfl,_,rfl,_,rfl,.inr ⟨_,rfl,hL,?_⟩⟩
  obtain ⟨l',e1,e2⟩:=Wm l none (some ((k:Nat):Int))
  rw [e1]
  refine ⟨_,rfl,_,rfl,.inl ⟨_,_,rfl,rfl,_,rfl,.inr ⟨_,rfl,hL,?_⟩⟩⟩
  obtain ⟨l2,e3,e4⟩:=Wm l (some (((k:Nat):Int)+1)) none
  rw [e3]
  refine .inr ⟨_,_,rfl,rfl,(by rw [Zb,Zb];exact small5 (by omega)),?_⟩
  rw [Zl]
  exact ⟨H,.refl (Same.refl _),q _ (by rw [List.length_append];omega)⟩
 refine ⟨_,rfl,rfl,_,rfl,iteD (fun c5=>?_) (fun c5=>?_)⟩
 ·refine ⟨_,rfl,_,rfl,.inl ⟨_,_,rfl,rfl,_,rfl,_,rfl,.inl ⟨_,_,rfl,rfl,_,rfl,.inr ⟨_,rfl,hL,?_⟩⟩⟩⟩
  obtain ⟨l3,e5,e6⟩:∃ l3:List Bool,Txt.slice (rowS l) (some (((k:Nat):Int)+1)) (some (((k:Nat):Int)+2))=rowS l3∧l3.length≤1:=⟨(l.drop (k+1)).take 1,Qn l (k+1) 1,by rw [List.length_take];omega⟩
  rw [e5]
  refine ⟨_,rfl,_,rfl,_,rfl,.inr ⟨_,rfl,hL,?_⟩⟩
  obtain ⟨l',e1,e2⟩:=Wm l none (some ((k:Nat):Int))
  rw [e1]
  refine ⟨_,rfl,.inr ⟨_,_,rfl,rfl,(by rw [Zb,Zb];exact small5 (by omega)),?_⟩⟩
  rw [Zl]
  refine ⟨_,rfl,_,rfl,.inr ⟨_,_,_,rfl,rfl,hL,hatk,.inr ⟨_,_,rfl,rfl,(by rw [Wr,Zb,Zb,List.length_append];exact small5 (by simp only [List.length_cons,List.length_nil];omega)),?_⟩⟩⟩
  rw [Wr,Zl]
  refine ⟨_,rfl,_,rfl,.inl ⟨_,_,rfl,rfl,_,rfl,.inr ⟨_,rfl,hL,?_⟩⟩⟩
  obtain ⟨l2,e3,e4⟩:=Wm l (some (((k:Nat):Int)+2)) none
  rw [e3]
  refine .inr ⟨_,_,rfl,rfl,(by rw [Zb,Zb,List.length_append,List.length_append];exact small5 (by simp only [List.length_cons,List.length_nil];omega)),?_⟩
  rw [Zl]
  exact ⟨H,.refl (Same.refl _),q _ (by rw [List.length_append,List.length_append,List.length_append];simp only [List.length_cons,List.length_nil];omega)⟩
 refine ⟨_,rfl,rfl,_,rfl,iteD (fun c6=>?_) (fun c6=>?_)⟩
 ·refine ⟨_,rfl,_,rfl,_,rfl,.inr ⟨_,rfl,hL,?_⟩⟩
  obtain ⟨l',e1,e2⟩:=Wm l none (some ((k:Nat):Int))
  rw [e1]
  exact ⟨H,.refl (Same.refl _),q _ (by omega)⟩
 refine ⟨_,rfl,rfl,_,rfl,iteD (fun c7=>?_) (fun c7=>?_)⟩
 ·obtain ⟨x1,x2⟩:=modb (a:=((k:Nat):Int)) (b:=9) (by decide)
  obtain ⟨tm,htm,hm9⟩:∃ tm:Nat,(1:Int)+((k:Nat):Int)%9=((tm:Nat):Int)∧tm≤9:=⟨(1+((k:Nat):Int)%9).toNat,by omega,by omega⟩
  refine ⟨_,rfl,_,rfl,_,rfl,_,_,rfl,rfl,(by show (0:Int)<9;decide),.inl ⟨_,_,rfl,rfl,?_⟩⟩
  dsimp only
  rw [htm]
  refine .inr ⟨_,_,rfl,rfl,(by omega),(by omega),(by rw [Zb,Int.toNat_natCast];exact small5 (by simp only [List.length_cons,List.length_nil];omega)),?_⟩
  rw [Qs,Int.toNat_natCast]
  refine .inr ⟨_,_,rfl,rfl,(by rw [Zb,Zb,List.length_replicate];exact small5 (by omega)),?_⟩
  rw [Zl]
  exact ⟨H,.refl (Same.refl _),q _ (by rw [List.length_append,List.length_replicate];omega)⟩
 refine ⟨_,rfl,rfl,_,rfl,iteD (fun c8=>?_) (fun c8=>?_)⟩
 ·have er:(RL rs).reverse=RL rs.reverse:=(List.map_reverse ..).symm
  have h20:rs.reverse.length≤20:=by rw [List.length_reverse];exact hn
  have hbr:∀ r∈rs.reverse,r.length≤60:=fun r hr=>hbb r (List.mem_reverse.mp hr)
  have hp9:=Zkd (rs:=rs.reverse) (by omega) hbr
  refine ⟨_,rfl,_,rfl,b,RL rs,rfl,rfl,SqL.of hb,fun p hp=>?_⟩
  rw [er]
  exact ⟨p,rs.reverse,rfl,SqL.of Zc,by omega,(fun r hr=>by have:=hbr r hr;omega),H,.refl (Zh hp),q _ (by omega)⟩
 refine ⟨_,rfl,rfl,_,rfl,iteD (fun c9=>?_) (fun c9=>?_)⟩
 ·exact ⟨_,rfl,_,rfl,b,rs,_,rfl,hb,by omega,hbb,fun z hz=>⟨H,.refl (Same.refl _),q z (by omega)⟩⟩
 refine ⟨_,rfl,rfl,_,rfl,iteD (fun c10=>?_) (fun c10=>?_)⟩
 ·refine ⟨rfl,.inl ⟨_,rfl,_,rfl,.inl ⟨a,_,rfl,hS,fun p hp=>⟨p,rfl,⟨_,SqL.of Zc⟩,fun D hD=>?_⟩⟩⟩⟩
  have hcut:=Zai (ns.map V.int) none (some 63)
  rw [List.length_map] at hcut
  obtain ⟨cs,hcs⟩:∃ cs:List Int,cutV (ns.map V.int) none (some 63)=cs.map V.int:=⟨_,(by unfold cutV;rw [← List.map_drop,← List.map_take])⟩
  rw [hcs] at hD hcut ⊢
  rw [List.length_map] at hcut
  refine Xlg (xs:=cs.map V.int) (fun x => .str (rowS [cellB x])) (fun σ=>∃ z,σ=[z]) (by rw [List.length_map];exact small5 (by omega)) ⟨_,rfl⟩ hD (SqL.of Zc) ?_ ?_
  ·rintro x hx σ1 H1 ⟨z,rfl⟩ hs1 R hR
   obtain ⟨c,_,rfl⟩:=List.mem_map.mp hx
   refine ⟨_,rfl,_,_,rfl,rfl,⟨by decide,by decide⟩,_,_,rfl,rfl,(by show (0:Int)<2;decide),.inr ⟨_,_,_,rfl,rfl,(by rw [s01,Zb];exact small5 (by decide)),Zdg _,?_⟩⟩
   rw [Wr]
   exact hR _ ⟨_,rfl⟩
  ·have s2':=(Zh hp).trans (Zh (o:=HO.lst ((cs.map V.int).map fun x => .str (rowS [cellB x]))) hD)
   have em:(cs.map V.int).map (fun x=>V.str (rowS [cellB x]))=((cs.map fun c=>[cellB (.int c)]).map rowS).map V.str:=by simp [List.map_map,Function.comp_def]
   have e0:(Str.ofString "").length=0:=by decide +kernel
   have hfl:=Zma cs
   refine ⟨_,D,(cs.map fun c=>[cellB (.int c)]).map rowS,rfl,rfl,SqL.of (by rw [Zc,em]),?_,?_⟩
   ·rw [e0,Nat.mul_zero,Nat.add_zero]
    have:=Zqf cs
    rw [this];exact small5 (by omega)
   ·rw [Qj]
    exact ⟨H,.refl s2',q _ (by rw [hfl];omega)⟩
 exact ⟨_,rfl,H,.refl (Same.refl _),q _ (by omega)⟩
theorem Jh (x:List Bool) (rs:List (List Bool)):inV (.str (rowS x)) (RL rs)=decide (x∈rs):=by
 unfold inV
 induction rs with
 | nil=>rfl
 | cons r rs ih =>
  show ((rowS r == rowS x)||(RL rs).any fun y=>eqV y (.str (rowS x)))=decide (x∈r::rs)
  rw [ih]
  by_cases h:x=r
  ·subst h;simp
  ·have:(rowS r == rowS x)=false:=beq_false_of_ne fun z=>h (Qh z).symm
   rw [this];simp [h]
theorem Wx (rs:List (List Bool)):(RL rs).all flatV=true:=by
 rw [List.all_eq_true]
 intro v hv
 obtain ⟨r,_,rfl⟩:=List.mem_map.mp hv
 rfl
noncomputable def keepLt (x:List Bool):V→Bool:=fun v=>match v with | .str y=>decide (y.cps.toList<(rowS x).cps.toList) | _=>false
noncomputable def cntLt (x:List Bool) (rs:List (List Bool)):Nat:=(rs.filter fun y=>decide (Lt y x)).length
theorem Zza (x:List Bool) (rs:List (List Bool)):(List.map id (List.filter (keepLt x) (RL rs))).length=cntLt x rs:=by
 rw [List.map_id,List.filter_map,List.length_map]
 rfl
structure Rw (l:List Bool) (rs:List (List Bool)):Prop where
 ll:l.length≤9000
 rd:rowsR l=some rs
 asc:Asc rs
 few:rs.length≤900
 sm:∀ r∈rs,r.length≤6000
theorem Rw.of {l:List Bool} {rs:List (List Bool)} (h:l.length≤5000) (e:rowsR l=some rs):Rw l rs:=by
 obtain ⟨a,b,c⟩:=Zvj e
 exact ⟨by omega,e,a,by omega,fun r hr=>by have:=c r hr;omega⟩
theorem Zpi {x:List Bool} (h:x.length≤6000):(page [x]).length≤6108:=by
 have h1:=Zca (n:=([x]:List (List Bool)).length) (show 1<2 ^ 20 by decide)
 have h2:=Zbi (rs:=[x]) (fun r hr=>by rw [List.mem_singleton.mp hr];exact h) []
 unfold page
 rw [List.length_append]
 simp only [List.length_singleton] at h1 h2 ⊢
 omega
theorem Rw.one {x:List Bool} (h:x.length≤6000):Rw (page [x]) [x] :=
 ⟨by have:=Zpi h;omega,Xib (by omega),trivial,by show 1≤900;decide,fun r hr=>by rw [List.mem_singleton.mp hr];exact h⟩
noncomputable def spPlaceAny:Sp:=fun vs H Q _=>∃ (l x:List Bool) (rs:List (List Bool)),vs=[.str (rowS l),.str (rowS x)]∧Rw l rs∧∀ t,H t=none→Q (.ref t) (upd H t (.tup [.int ((cntLt x rs:Nat):Int),.bl (decide (x∈rs))]))
noncomputable def spBad2 (C:Addr):Sp:=fun vs H _ E=>∃ (l x:List Bool),vs=[.str (rowS l),.str (rowS x)]∧l.length≤9000∧rowsR l=none∧E (.ref C) none H
theorem Zxb {f:Addr} {fd:FuncData} (nb:NB mg) (F:FunAt K mg "place_in" Yx ["page","row"] f fd) (D_rows_of:DefOk P w K mg base 7 "rows_of" ["page"] spRowsAny):DefOk P w K mg base 8 "place_in" ["page","row"] spPlaceAny:=by
 refine F.ok sc_place_in (fun vs H Q E h=>?_) (fun cdv A outer s H vs Q E hr h=>?_)
 ·obtain ⟨_,_,_,rfl,_⟩:=h;rfl
 obtain ⟨l,x,rs,rfl,h,q⟩:=h
 have hn:=h.few
 refine ⟨_,(Zd (Zi (i:=2) sc_place_in.nd rfl (by first | exact Or.inl rfl | exact Or.inr rfl) (Zk D_rows_of hr (Za (pv 0) Ze)))
  (Zg (Zr (Jt (Za (Zo Zs rfl nb.len_ Zy (Za (Jb ["other"] [(1,"row")] rfl (by decide +kernel) ⟨rfl,.inl rfl,trivial⟩ (piAll (pv 2)) (fun _ _ _ _ _=>(Xa (i:=0) (show (["other","row"]:List Str).Nodup by decide +kernel) rfl (by first | exact Or.inl rfl | exact Or.inr rfl))) (fun _ _ _ _ _=>(Qq (Zn oLt (pv 0) (pv 1) (nomark _)))) (fun _ _ _ _ _=>(pv 0))) Ze)) (Za (Xn Jq (pv 1) (pv 2) (by with_unfolding_all rfl)) Ze)))))),?_⟩
 try dsimp only [cxK0,cxK1,cxK2,cxK3]
 refine ⟨_,rfl,l,rs,rfl,h.ll,h.rd,fun p hp=>?_⟩
 have s1':=Zh (o:=HO.lst (RL rs)) hp
 refine .inl ⟨_,rfl,p,rfl,⟨_,SqL.of Zc⟩,fun D hD=>?_⟩
 refine Ji (xs:=RL rs) (keepLt x) id (fun σ=>∃ z,σ=[z,some (.str (rowS x))]) (by rw [Zz];exact small5 (by omega)) ⟨_,rfl⟩ hD (SqL.of Zc) ?_ ?_
 ·rintro v hv σ1 H1 ⟨z,rfl⟩ hs1 R R' hR
  obtain ⟨y,_,rfl⟩:=List.mem_map.mp hv
  refine ⟨_,rfl,_,rfl,.inr ⟨_,_,rfl,rfl,_,rfl,?_⟩⟩
  have hR:=hR [some (.str (rowS y)),some (.str (rowS x))] ⟨_,rfl⟩
  refine iteD (fun c1=>?_) (fun c1=>?_)
  ·rw [if_pos (show keepLt x (.str (rowS y))=true from decide_eq_true c1)] at hR;exact ⟨_,rfl,hR⟩
  ·rw [if_neg (show ¬keepLt x (.str (rowS y))=true from by unfold keepLt;simpa using c1)] at hR;exact hR
 ·have s2':=s1'.trans (Zh (o:=HO.lst (List.map id (List.filter (keepLt x) (RL rs)))) hD)
  refine ⟨_,_,rfl,.inl ⟨_,SqL.of Zc,rfl⟩,?_⟩
  refine ⟨_,rfl,_,rfl,p,RL rs,rfl,.inl (SqL.of (Zh (o:=HO.lst (List.map id (List.filter (keepLt x) (RL rs)))) hD _ _ Zc)),rfl,Wx rs,(by show 2≤sizeLine;decide),fun t ht=>?_⟩
  rw [Zza,Jh]
  exact ⟨_,.new (s2'.free ht) (s2'.trans (Zh ht)) Zc trivial,q t (s2'.free ht)⟩
theorem Zuc {f CB:Addr} {fd:FuncData} (nb:NB mg) (F:FunAt K mg "place_in" Yx ["page","row"] f fd) (DB_rows_of:DefOkE P w K mg base 9 "rows_of" ["page"] (spRowsB CB)):DefOkE P w K mg base 10 "place_in" ["page","row"] (spBad2 CB):=by
 refine F.okE sc_place_in (fun vs H Q E h=>?_) (fun cdv A outer s H vs Q E hr h=>?_)
 ·obtain ⟨_,_,rfl,_⟩:=h;rfl
 obtain ⟨l,x,rfl,hl,hR,hE⟩:=h
 refine ⟨_,(Zd (Zi (i:=2) sc_place_in.nd rfl (by first | exact Or.inl rfl | exact Or.inr rfl) (Zac DB_rows_of hr passes_fn.x (Za (pv 0) Ze)))
  (Zg (Zr (Jt (Za (Zo Zs rfl nb.len_ Zy (Za (Jb ["other"] [(1,"row")] rfl (by decide +kernel) ⟨rfl,.inl rfl,trivial⟩ (piAll (pv 2)) (fun _ _ _ _ _=>(Xa (i:=0) (show (["other","row"]:List Str).Nodup by decide +kernel) rfl (by first | exact Or.inl rfl | exact Or.inr rfl))) (fun _ _ _ _ _=>(Qq (Zn oLt (pv 0) (pv 1) (nomark _)))) (fun _ _ _ _ _=>(pv 0))) Ze)) (Za (Xn Jq (pv 1) (pv 2) (by with_unfolding_all rfl)) Ze)))))),?_⟩
 try dsimp only [cxK0,cxK1,cxK2,cxK3]
 exact ⟨_,rfl,l,rfl,hl,hR,H,.refl (Same.refl _),hE⟩
theorem Zrc {rs:List (List Bool)} {x:List Bool} (h:Asc rs) (hx:x∉rs):(rs++[x]).Nodup:=by
 have p:(rs++[x]).Perm (x::rs):=List.perm_append_comm
 exact p.nodup_iff.mpr (List.nodup_cons.mpr ⟨hx,Zce h⟩)
theorem Zvf {rs ss:List (List Bool)} {x:List Bool} (h:Asc rs) (hx:x∉rs) (hs:Asc ss) (hp:ss.Perm (rs++[x])):ss=insR x rs :=
 Zuf hs (Zzb h hx) (hp.trans (List.perm_append_comm.trans (Qk x rs).symm))
theorem Zla {rs:List (List Bool)} {x:List Bool} (h:∀ r∈rs,r.length≤6000) (hx:x.length≤6000):∀ r∈insR x rs,r.length≤6000:=fun r hr=>by
 rcases Xqb hr with z | z
 ·rw [z];exact hx
 ·exact h r z
noncomputable def spWithAny:Sp:=fun vs H Q _=>∃ (l x:List Bool) (rs:List (List Bool)),vs=[.str (rowS l),.str (rowS x)]∧Rw l rs∧x.length≤6000∧x∉rs∧Q (.str (rowS (page (insR x rs)))) H
theorem Zsc {f:Addr} {fd:FuncData} (nb:NB mg) (F:FunAt K mg "page_with" Yi ["page","row"] f fd) (D_rows_of:DefOk P w K mg base 7 "rows_of" ["page"] spRowsAny) (D_page_of:DefOk P w K mg base 4 "page_of" ["rows"] spPageOf):DefOk P w K mg base 8 "page_with" ["page","row"] spWithAny:=by
 refine F.ok sc_page_with (fun vs H Q E h=>?_) (fun cdv A outer s H vs Q E hr h=>?_)
 ·obtain ⟨_,_,_,rfl,_⟩:=h;rfl
 obtain ⟨l,x,rs,rfl,h,hxl,hx,q⟩:=h
 have hn:=h.few
 have hA:=h.asc
 refine ⟨_,(Zd (Zi (i:=2) sc_page_with.nd rfl (by first | exact Or.inl rfl | exact Or.inr rfl) (Zk D_rows_of hr (Za (pv 0) Ze)))
  (Zd (Xc (Zn Jq (pv 1) (pv 2) (by with_unfolding_all rfl)) (Zg Js) Zt)
  (Zg (Zr (Zk D_page_of hr (Za (Zo Qx rfl nb.sorted_ Zcc (Za (Zj Zff (pv 2) (Yg (Za (pv 1) Ze))) Ze)) Ze)))))),?_⟩
 try dsimp only [cxK0,cxK1,cxK2,cxK3]
 refine ⟨_,rfl,l,rs,rfl,h.ll,h.rd,fun p hp=>?_⟩
 have s1':=Zh (o:=HO.lst (RL rs)) hp
 refine ⟨_,rfl,_,rfl,p,RL rs,rfl,.inl (SqL.of Zc),rfl,Wx rs,false,(by rw [Jh,decide_eq_false hx];rfl),iteF ?_⟩
 refine ⟨_,rfl,_,rfl,(by show 1≤sizeLine;decide),fun p2 hp2=>?_⟩
 have s2':=Zh (o:=HO.lst [V.str (rowS x)]) hp2
 refine ⟨p,p2,_,_,rfl,rfl,s2' _ _ Zc,Zc,(by rw [Zz];exact small5 (by show rs.length+1≤_;omega)),fun p3 hp3=>?_⟩
 have e3:RL rs++[V.str (rowS x)]=RL (rs++[x]):=(Zdc rs [x]).symm
 rw [e3]
 have s3':=Zh (o:=HO.lst (RL (rs++[x]))) hp3
 refine ⟨p3,rs++[x],rfl,SqL.of Zc,(by rw [List.length_append];show rs.length+1≤1000;omega),Zrc hA hx,fun ss hss hperm p4 hp4=>?_⟩
 have ess:=Zvf hA hx hss hperm
 subst ess
 have s4':=Zh (o:=HO.lst (RL (insR x rs))) hp4
 exact ⟨p4,insR x rs,rfl,Zc,(by rw [Zlb];omega),Zla h.sm hxl,hss,H,.refl (((s1'.trans s2').trans s3').trans s4'),q⟩
theorem Zoc {f CB C_Twice:Addr} {fd:FuncData} (xi_Twice:PySem.W.excIn K C_Twice bmV "ValueError.__new__"=true) (gm_Twice:mg "Twice"=some (.ref C_Twice)) (nb:NB mg) (F:FunAt K mg "page_with" Yi ["page","row"] f fd) (D_page_of:DefOk P w K mg base 4 "page_of" ["rows"] spPageOf) (DB_rows_of:DefOkE P w K mg base 9 "rows_of" ["page"] (spRowsB CB)):DefOkE P w K mg base 10 "page_with" ["page","row"] (spBad2 CB):=by
 refine F.okE sc_page_with (fun vs H Q E h=>?_) (fun cdv A outer s H vs Q E hr h=>?_)
 ·obtain ⟨_,_,rfl,_⟩:=h;rfl
 obtain ⟨l,x,rfl,hl,hR,hE⟩:=h
 refine ⟨_,(Zd (Zi (i:=2) sc_page_with.nd rfl (by first | exact Or.inl rfl | exact Or.inr rfl) (Zac DB_rows_of hr passes_fn.x (Za (pv 0) Ze)))
  (Zd (Xc (Zn Jq (pv 1) (pv 2) (by with_unfolding_all rfl)) (Zg (Zed Qe xi_Twice gm_Twice hr.hd (Za Zu Ze))) Zt)
  (Zg (Zr (Zk D_page_of hr (Za (Zo Qx rfl nb.sorted_ Zcc (Za (Zj Zff (pv 2) (Yg (Za (pv 1) Ze))) Ze)) Ze)))))),?_⟩
 try dsimp only [cxK0,cxK1,cxK2,cxK3]
 exact ⟨_,rfl,l,rfl,hl,hR,H,.refl (Same.refl _),hE⟩
noncomputable def lessR (x:List Bool) (rs:List (List Bool)):List (List Bool):=rs.filter fun y=>decide (y≠x)
noncomputable def keepNe (x:List Bool):V→Bool:=fun v=>!decide (v = .str (rowS x))
theorem Xfh (x:List Bool) (rs:List (List Bool)):List.map id (List.filter (keepNe x) (RL rs))=RL (lessR x rs):=by
 rw [List.map_id,List.filter_map]
 unfold lessR
 congr 1
 apply List.filter_congr
 intro y _
 show (!decide (V.str (rowS y)=V.str (rowS x)))=decide (y≠x)
 rw [Zdi]
 by_cases h:y=x<;>simp [h]
theorem Zyf {x:List Bool} {rs:List (List Bool)}:(lessR x rs).length≤rs.length:=List.length_filter_le ..
theorem Zye {x y:List Bool} {rs:List (List Bool)} (h:y∈lessR x rs):y∈rs:=(List.mem_filter.mp h).1
noncomputable def spLessAny:Sp:=fun vs H Q _=>∃ (l x:List Bool) (rs:List (List Bool)),vs=[.str (rowS l),.str (rowS x)]∧Rw l rs∧x∈rs∧Q (.str (rowS (page (lessR x rs)))) H
theorem Zhd {f:Addr} {fd:FuncData} (nb:NB mg) (F:FunAt K mg "page_without" Xm ["page","row"] f fd) (D_rows_of:DefOk P w K mg base 7 "rows_of" ["page"] spRowsAny) (D_page_of:DefOk P w K mg base 4 "page_of" ["rows"] spPageOf):DefOk P w K mg base 8 "page_without" ["page","row"] spLessAny:=by
 refine F.ok sc_page_without (fun vs H Q E h=>?_) (fun cdv A outer s H vs Q E hr h=>?_)
 ·obtain ⟨_,_,_,rfl,_⟩:=h;rfl
 obtain ⟨l,x,rs,rfl,h,hx,q⟩:=h
 have hn:=h.few
 have hA:=h.asc
 refine ⟨_,(Zd (Zi (i:=2) sc_page_without.nd rfl (by first | exact Or.inl rfl | exact Or.inr rfl) (Zk D_rows_of hr (Za (pv 0) Ze)))
  (Zd (Xc (Zn Jm (pv 1) (pv 2) (by with_unfolding_all rfl)) (Zg Js) Zt)
  (Zg (Zr (Zk D_page_of hr (Za (Jb ["other"] [(1,"row")] rfl (by decide +kernel) ⟨rfl,.inl rfl,trivial⟩ (piAll (pv 2)) (fun _ _ _ _ _=>(Xa (i:=0) (show (["other","row"]:List Str).Nodup by decide +kernel) rfl (by first | exact Or.inl rfl | exact Or.inr rfl))) (fun _ _ _ _ _=>(Qq (Zn oNe (pv 0) (pv 1) (nomark _)))) (fun _ _ _ _ _=>(pv 0))) Ze)))))),?_⟩
 try dsimp only [cxK0,cxK1,cxK2,cxK3]
 refine ⟨_,rfl,l,rs,rfl,h.ll,h.rd,fun p hp=>?_⟩
 have s1':=Zh (o:=HO.lst (RL rs)) hp
 refine ⟨_,rfl,_,rfl,p,RL rs,rfl,.inl (SqL.of Zc),rfl,Wx rs,false,(by rw [Jh,decide_eq_true hx];rfl),iteF ?_⟩
 refine .inl ⟨_,rfl,p,rfl,⟨_,SqL.of Zc⟩,fun D hD=>?_⟩
 refine Ji (xs:=RL rs) (keepNe x) id (fun σ=>∃ z,σ=[z,some (.str (rowS x))]) (by rw [Zz];exact small5 (by omega)) ⟨_,rfl⟩ hD (SqL.of Zc) ?_ ?_
 ·rintro v hv σ1 H1 ⟨z,rfl⟩ hs1 R R' hR
  obtain ⟨y,_,rfl⟩:=List.mem_map.mp hv
  refine ⟨_,rfl,_,rfl,rfl,_,rfl,?_⟩
  have hR:=hR [some (.str (rowS y)),some (.str (rowS x))] ⟨_,rfl⟩
  generalize hv0:V.str (rowS y)=v at hR ⊢
  cases hk:keepNe x v with
  | true =>
   rw [if_pos hk] at hR
   have hk':(!decide (v = .str (rowS x)))=true:=hk
   rw [hk']
   exact iteT ⟨_,rfl,hR⟩
  | false =>
   rw [if_neg (by rw [hk];exact Bool.false_ne_true)] at hR
   have hk':(!decide (v = .str (rowS x)))=false:=hk
   rw [hk']
   exact iteF hR
 ·have s2':=s1'.trans (Zh (o:=HO.lst (List.map id (List.filter (keepNe x) (RL rs)))) hD)
  rw [Xfh] at s2' ⊢
  exact ⟨D,lessR x rs,rfl,Zc,(by have:=Zyf (x:=x) (rs:=rs);omega),(fun r hr=>h.sm r (Zye hr)),Xec hA _,H,.refl s2',q⟩
theorem Zgc {f CB C_Lacking:Addr} {fd:FuncData} (xi_Lacking:PySem.W.excIn K C_Lacking bmV "ValueError.__new__"=true) (gm_Lacking:mg "Lacking"=some (.ref C_Lacking)) (nb:NB mg) (F:FunAt K mg "page_without" Xm ["page","row"] f fd) (D_page_of:DefOk P w K mg base 4 "page_of" ["rows"] spPageOf) (DB_rows_of:DefOkE P w K mg base 9 "rows_of" ["page"] (spRowsB CB)):DefOkE P w K mg base 10 "page_without" ["page","row"] (spBad2 CB):=by
 refine F.okE sc_page_without (fun vs H Q E h=>?_) (fun cdv A outer s H vs Q E hr h=>?_)
 ·obtain ⟨_,_,rfl,_⟩:=h;rfl
 obtain ⟨l,x,rfl,hl,hR,hE⟩:=h
 refine ⟨_,(Zd (Zi (i:=2) sc_page_without.nd rfl (by first | exact Or.inl rfl | exact Or.inr rfl) (Zac DB_rows_of hr passes_fn.x (Za (pv 0) Ze)))
  (Zd (Xc (Zn Jm (pv 1) (pv 2) (by with_unfolding_all rfl)) (Zg (Zed Qe xi_Lacking gm_Lacking hr.hd (Za Zu Ze))) Zt)
  (Zg (Zr (Zk D_page_of hr (Za (Jb ["other"] [(1,"row")] rfl (by decide +kernel) ⟨rfl,.inl rfl,trivial⟩ (piAll (pv 2)) (fun _ _ _ _ _=>(Xa (i:=0) (show (["other","row"]:List Str).Nodup by decide +kernel) rfl (by first | exact Or.inl rfl | exact Or.inr rfl))) (fun _ _ _ _ _=>(Qq (Zn oNe (pv 0) (pv 1) (nomark _)))) (fun _ _ _ _ _=>(pv 0))) Ze)))))),?_⟩
 try dsimp only [cxK0,cxK1,cxK2,cxK3]
 exact ⟨_,rfl,l,rfl,hl,hR,H,.refl (Same.refl _),hE⟩
theorem Xeb {a b:List (List Bool)} (ha:Asc a) (hb:Asc b) (h:∀ r,r∈a↔r∈b):a=b:=Zuf ha hb ((List.perm_ext_iff_of_nodup (Zce ha) (Zce hb)).mpr h)
structure Pour (rs rs2 ss:List (List Bool)):Prop where
 a3:Asc ss
 mem:∀ r,r∈ss↔r∈rs∨r∈rs2
 n3:ss.length≤1000
 b3:∀ r∈ss,r.length≤6000
noncomputable def spPouredAny:Sp:=fun vs H Q _=>∃ (l l2:List Bool) (rs rs2 ss:List (List Bool)),vs=[.str (rowS l),.str (rowS l2)]∧Rw l rs∧Rw l2 rs2∧Pour rs rs2 ss∧Q (.str (rowS (page ss))) H
noncomputable def spPouredB (C:Addr):Sp:=fun vs H _ E=>∃ (l l2:List Bool),vs=[.str (rowS l),.str (rowS l2)]∧l.length≤9000∧l2.length≤9000∧(rowsR l=none∨(∃ rs,Rw l rs)∧rowsR l2=none)∧E (.ref C) none H
theorem Xjf {f:Addr} {fd:FuncData} (nb:NB mg) (F:FunAt K mg "poured" Wz ["one","other"] f fd) (D_rows_of:DefOk P w K mg base 7 "rows_of" ["page"] spRowsAny) (D_page_of:DefOk P w K mg base 4 "page_of" ["rows"] spPageOf):DefOk P w K mg base 8 "poured" ["one","other"] spPouredAny:=by
 refine F.ok Zpb (fun vs H Q E h=>?_) (fun cdv A outer s H vs Q E hr h=>?_)
 ·obtain ⟨_,_,_,_,_,rfl,_⟩:=h;rfl
 obtain ⟨l,l2,rs,rs2,ss,rfl,h1,h2,h,q⟩:=h
 have n1:=h1.few
 have n2:=h2.few
 have n3:=h.n3
 refine ⟨_,(Zg (Zr (Zk D_page_of hr (Za (Zwf rfl rfl nb.sorted_ rfl nb.set_ (Zk D_rows_of hr (Za (pv 0) Ze)) (Zk D_rows_of hr (Za (pv 1) Ze))) Ze)))),?_⟩
 try dsimp only [cxK0,cxK1,cxK2,cxK3]
 refine ⟨_,rfl,l,rs,rfl,h1.ll,h1.rd,fun p hp=>?_⟩
 have s1':=Zh (o:=HO.lst (RL rs)) hp
 refine ⟨p,rs,rfl,SqL.of Zc,by omega,_,rfl,l2,rs2,rfl,h2.ll,h2.rd,fun p2 hp2=>?_⟩
 have s2':=s1'.trans (Zh (o:=HO.lst (RL rs2)) hp2)
 refine ⟨p2,rs2,ss,rfl,SqL.of Zc,by omega,by omega,(fun r hr=>(h.mem r).mpr hr),fun ss2 hA2 hm2 p3 hp3=>?_⟩
 obtain rfl:ss2=ss:=Xeb hA2 h.a3 fun r=>(hm2 r).trans (h.mem r).symm
 have s3':=s2'.trans (Zh (o:=HO.lst (RL ss2)) hp3)
 exact ⟨p3,ss2,rfl,Zc,by omega,h.b3,hA2,H,.refl s3',q⟩
theorem Xea {f CB:Addr} {fd:FuncData} (nb:NB mg) (F:FunAt K mg "poured" Wz ["one","other"] f fd) (D_page_of:DefOk P w K mg base 4 "page_of" ["rows"] spPageOf) (D_rows_of:DefOk P w K mg base 7 "rows_of" ["page"] spRowsAny) (DB_rows_of:DefOkE P w K mg base 9 "rows_of" ["page"] (spRowsB CB)):DefOkE P w K mg base 10 "poured" ["one","other"] (spPouredB CB):=by
 refine F.okE Zpb (fun vs H Q E h=>?_) (fun cdv A outer s H vs Q E hr h=>?_)
 ·obtain ⟨_,_,rfl,_⟩:=h;rfl
 obtain ⟨l,l2,rfl,hl,hl2,hcase,hE⟩:=h
 refine ⟨_,(Zg (Zr (Zk D_page_of hr (Za (Zwf rfl rfl nb.sorted_ rfl nb.set_ (Yd D_rows_of DB_rows_of hr passes_fn.x (Za (pv 0) Ze)) (Yd D_rows_of DB_rows_of hr passes_fn.x (Za (pv 1) Ze))) Ze)))),?_⟩
 try dsimp only [cxK0,cxK1,cxK2,cxK3]
 rcases hcase with hR | ⟨⟨rs,h1⟩,hR⟩
 ·exact ⟨_,rfl,.inr ⟨l,rfl,hl,hR,H,.refl (Same.refl _),hE⟩⟩
 ·have n1:=h1.few
  refine ⟨_,rfl,.inl ⟨l,rs,rfl,h1.ll,h1.rd,fun p hp=>?_⟩⟩
  have s1':=Zh (o:=HO.lst (RL rs)) hp
  exact ⟨p,rs,rfl,SqL.of Zc,by omega,_,rfl,.inr ⟨l2,rfl,hl2,hR,H,.refl s1',hE⟩⟩
noncomputable def res67 (w:Nat) (rs:List (List Bool)) (x:List Bool):List (List Bool):=if w=2 then lessR x rs else if x∈rs then rs else insR x rs
noncomputable def dDue (w:Nat) (rs:List (List Bool)) (x:List Bool):PyData:=if w=0 then .tuple [.int ((cntLt x rs:Nat):Int),.bool (decide (x∈rs))] else .str (rowS (page (res67 w rs x)))
noncomputable def wTold (l:List Bool):Str:=match rowsR l with
 | none=>Str.ofString "bad"
 | some _=>Str.ofString "told"
noncomputable def dTold (w:Nat) (l x:List Bool):PyData:=match rowsR l with
 | none => .none
 | some rs=>dDue w rs x
noncomputable def spTold67:Sp:=fun vs H Q _=>∃ (w:Nat) (l x:List Bool),vs=[.int ((w:Nat):Int),.str (rowS l),.str (rowS x),.str (rowS (page [x]))]∧w≤4∧l.length≤5000∧x.length≤6000∧(∀ rs,rowsR l=some rs→(w=1→x∉rs)∧(w=2→x∈rs))∧
 ∀ t v H',Exn H H'→H' t=some (.tup [.str (wTold l),v])→WArg H' v (dTold w l x)→Q (.ref t) H'
theorem Zwe {rs:List (List Bool)} {x:List Bool} {l:List Bool} (h:Rw l rs) (hx:x.length≤6000) {w:Nat} (hw:w≠2):Pour rs [x] (res67 w rs x)∧Pour [x] rs (res67 w rs x):=by
 have e:res67 w rs x=if x∈rs then rs else insR x rs:=if_neg hw
 have few:=h.few
 have P:Asc (res67 w rs x)∧(∀ r,r∈res67 w rs x↔r∈rs∨r=x)∧(res67 w rs x).length≤1000∧∀ r∈res67 w rs x,r.length≤6000:=by
  rw [e]
  by_cases hm:x∈rs
  ·rw [if_pos hm]
   exact ⟨h.asc,fun r=>⟨.inl,fun z=>z.elim id fun y=>y ▸ hm⟩,by omega,h.sm⟩
  ·rw [if_neg hm]
   refine ⟨Zzb h.asc hm,fun r=>?_,by rw [Zlb];omega,Zla h.sm hx⟩
   rw [(Qk x rs).mem_iff,List.mem_cons]
   exact or_comm
 obtain ⟨a,b,c,d⟩:=P
 exact ⟨⟨a,fun r=>by rw [b,List.mem_singleton],c,d⟩,⟨a,fun r=>by rw [b,List.mem_singleton];exact or_comm,c,d⟩⟩
set_option maxHeartbeats 2000000 in
theorem Zxc {f CB cR:Addr} {c:Cs} {fd:FuncData} (gm_BadPage:mg "BadPage"=some (.ref CB)) (xc_BadPage:ExcC K CB) (xt_BadPage:PySem.W.typeIn K (.ref CB)=some (.type "type")) (hm:PySem.W.mroIn K CB (.ref CB)=some true) {bs0:List Bool} (kS:Kits K c CB bs0) (hal:alone bs0=true) (kR:PySem.W.kitOne K (.ref CB) (.ref cR)=some true)
  (nb:NB mg) (F:FunAt K mg "_law_told" Wd ["_law_word","_law_page_here","_law_row","_law_good"] f fd)
  (D_place_in:DefOk P w K mg base 8 "place_in" ["page","row"] spPlaceAny) (DB_place_in:DefOkE P w K mg base 10 "place_in" ["page","row"] (spBad2 CB))
  (D_page_with:DefOk P w K mg base 8 "page_with" ["page","row"] spWithAny) (DB_page_with:DefOkE P w K mg base 10 "page_with" ["page","row"] (spBad2 CB))
  (D_page_without:DefOk P w K mg base 8 "page_without" ["page","row"] spLessAny) (DB_page_without:DefOkE P w K mg base 10 "page_without" ["page","row"] (spBad2 CB))
  (D_poured:DefOk P w K mg base 8 "poured" ["one","other"] spPouredAny) (DB_poured:DefOkE P w K mg base 10 "poured" ["one","other"] (spPouredB CB))
  (D_law_alone:DefOk P w K mg base 1 "_law_alone" ["_law_error"] (spAlone K c cR)):DefOk P w K mg base 11 "_law_told" ["_law_word","_law_page_here","_law_row","_law_good"] spTold67:=by
 refine F.ok sc_law_told (fun vs H Q E h=>?_) (fun cdv A outer s H vs Q E hr h=>?_)
 ·obtain ⟨_,_,_,rfl,_⟩:=h;rfl
 obtain ⟨wd,l,x,rfl,hw4,hl,hx,hin,q⟩:=h
 obtain ⟨EH,hEH⟩:∃ EH:St→XK,EH=fun σ c d H'=>σ=[some (.int ((wd:Nat):Int)),some (.str (rowS l)),some (.str (rowS x)),some (.str (rowS (page [x]))),some .non,some .non,none]∧c = .ref CB∧d=none∧H'=H∧rowsR l=none:=⟨_,rfl⟩
 refine ⟨_,(Zd (Zi (i:=4) sc_law_told.nd rfl (by first | exact Or.inl rfl | exact Or.inr rfl) Ju)
  (Zd (Zi (i:=5) sc_law_told.nd rfl (by first | exact Or.inl rfl | exact Or.inr rfl) Ju)
  (Zd (Xxh (i:=6) (Eh:=EH) (fun _=>(Zg (Xc (Zn oEq (pv 0) Zf (nomark _)) (Zg (Zi (i:=4) sc_law_told.nd rfl (by first | exact Or.inl rfl | exact Or.inr rfl) (Yd D_place_in DB_place_in hr Je (Za (pv 1) (Za (pv 2) Ze))))) (Zg (Xc (Zn oEq (pv 0) Zf (nomark _)) (Zg (Zi (i:=4) sc_law_told.nd rfl (by first | exact Or.inl rfl | exact Or.inr rfl) (Yd D_page_with DB_page_with hr Je (Za (pv 1) (Za (pv 2) Ze))))) (Zg (Xc (Zn oEq (pv 0) Zf (nomark _)) (Zg (Zi (i:=4) sc_law_told.nd rfl (by first | exact Or.inl rfl | exact Or.inr rfl) (Yd D_page_without DB_page_without hr Je (Za (pv 1) (Za (pv 2) Ze))))) (Zg (Xc (Zn oEq (pv 0) Zf (nomark _)) (Zg (Zi (i:=4) sc_law_told.nd rfl (by first | exact Or.inl rfl | exact Or.inr rfl) (Yd D_poured DB_poured hr Je (Za (pv 1) (Za (pv 3) Ze))))) (Zg (Zi (i:=4) sc_law_told.nd rfl (by first | exact Or.inl rfl | exact Or.inr rfl) (Yd D_poured DB_poured hr Je (Za (pv 3) (Za (pv 1) Ze))))))))))))))
   (fun _ _=>(Zg (Zi (i:=5) sc_law_told.nd rfl (by first | exact Or.inl rfl | exact Or.inr rfl) (pv 6)))) gm_BadPage xc_BadPage xt_BadPage sc_law_told.nd)
  (Zd (Xc (PW.pt (Jd (Zn Zsb (pv 5) Ju (nomark _)) (Ja (Qb (Xv (Zk D_law_alone hr (Za (pv 5) Ze)) (fun _=>rfl)))))) (Zg (Zr (Jt (Za Zu (Za Ju Ze))))) Zt)
  (Zg (Zr (Jt (Za (Xb iAll (Yg (Za Zu (Za Zu Ze))) (Jp Jr rfl nb.int_ Zgb (Za (Xn Xyf (pv 5) Ju (nomark _)) Ze)) (fun _ _=>rfl)) (Za (pv 4) Ze))))))))),?_⟩
 try dsimp only [cxK0,cxK1,cxK2,cxK3]
 have hp1:=Zpi hx
 refine ⟨?_,fun σ' C' d H' a hE ha=>?_⟩
 ·refine ⟨_,rfl,rfl,_,rfl,?_⟩
  have at1:atI [V.str (Str.ofString "bad"),V.str (Str.ofString "told")] (if decide (V.non=V.non)=true then 1 else 0)=some (V.str (Str.ofString "told")):=by decide +kernel
  have bad:∀ (σ:St),σ=[some (.int ((wd:Nat):Int)),some (.str (rowS l)),some (.str (rowS x)),some (.str (rowS (page [x]))),some .non,some .non,none]→rowsR l=none→EH σ (.ref CB) none H:=fun σ e hR=>by rw [hEH];exact ⟨e,rfl,rfl,rfl,hR⟩
  have hcase:rowsR l=none∨∃ rs,Rw l rs:=by
   cases hR:rowsR l with
   | none=>exact .inl rfl
   | some rs=>exact .inr ⟨rs,Rw.of hl hR⟩
  have ew:∀ rs,Rw l rs→wTold l=Str.ofString "told":=fun rs h=>by unfold wTold;rw [h.rd]
  have ed:∀ rs,Rw l rs→dTold wd l x=dDue wd rs x:=fun rs h=>by unfold dTold;rw [h.rd]
  refine iteD (fun c0=>?_) (fun c0=>?_)
  ·have hw:wd=0:=by have:=V.int.inj c0;omega
   refine ⟨_,rfl,_,rfl,?_⟩
   rcases hcase with hR | ⟨rs,h⟩
   ·exact .inr ⟨l,x,rfl,by omega,hR,bad _ rfl hR⟩
   ·refine .inl ⟨l,x,rs,rfl,h,fun t0 ht0=>?_⟩
    have hE1:=Exn.tup (xs:=[.int ((cntLt x rs:Nat):Int),.bl (decide (x∈rs))]) ht0
    have hv:WArg (upd H t0 (.tup [.int ((cntLt x rs:Nat):Int),.bl (decide (x∈rs))])) (V.ref t0) (dDue wd rs x):=by unfold dDue;rw [if_pos hw];exact .pair t0 _ _ Zc
    have ew:=ew rs h
    have ed:=ed rs h
    refine ⟨_,rfl,rfl,_,rfl,iteNS rfl (iteF ?_)⟩
    refine ⟨(by show 2≤sizeLine;decide),fun p hp=>⟨_,rfl,rfl,.inl (.inr ⟨_,rfl,.inl (.inl ⟨_,_,_,_,rfl,rfl,SqL.of Zc,at1,_,rfl,(by show 2≤sizeLine;decide),fun t ht=>?_⟩)⟩)⟩⟩
    have ex:=fun (xs:List V)=>(hE1.trans (Exn.lst hp)).trans (Exn.tup (xs:=xs) ht)
    exact ⟨_,(ex _).sub,q t _ _ (ex _) (by rw [Zc,ew]) (by rw [ed];exact WArg.same ((Zh hp).trans (Zh ht)) hv)⟩
  have hw0:wd≠0:=fun z=>c0 (by rw [z];rfl)
  refine ⟨_,rfl,rfl,_,rfl,iteD (fun c1=>?_) (fun c1=>?_)⟩
  ·have hw:wd=1:=by have:=V.int.inj c1;omega
   refine ⟨_,rfl,_,rfl,?_⟩
   rcases hcase with hR | ⟨rs,h⟩
   ·exact .inr ⟨l,x,rfl,by omega,hR,bad _ rfl hR⟩
   ·have hn:=(hin rs h.rd).1 hw
    refine .inl ⟨l,x,rs,rfl,h,hx,hn,?_⟩
    have hE1:=Exn.refl H
    have hv:WArg H (V.str (rowS (page (insR x rs)))) (dDue wd rs x):=by unfold dDue res67;rw [if_neg hw0,if_neg (by omega),if_neg hn];exact .row _
    have ew:=ew rs h
    have ed:=ed rs h
    refine ⟨_,rfl,rfl,_,rfl,iteNS rfl (iteF ?_)⟩
    refine ⟨(by show 2≤sizeLine;decide),fun p hp=>⟨_,rfl,rfl,.inl (.inr ⟨_,rfl,.inl (.inl ⟨_,_,_,_,rfl,rfl,SqL.of Zc,at1,_,rfl,(by show 2≤sizeLine;decide),fun t ht=>?_⟩)⟩)⟩⟩
    have ex:=fun (xs:List V)=>(hE1.trans (Exn.lst hp)).trans (Exn.tup (xs:=xs) ht)
    exact ⟨_,(ex _).sub,q t _ _ (ex _) (by rw [Zc,ew]) (by rw [ed];exact WArg.same ((Zh hp).trans (Zh ht)) hv)⟩
  have hw1:wd≠1:=fun z=>c1 (by rw [z];rfl)
  refine ⟨_,rfl,rfl,_,rfl,iteD (fun c2=>?_) (fun c2=>?_)⟩
  ·have hw:wd=2:=by have:=V.int.inj c2;omega
   refine ⟨_,rfl,_,rfl,?_⟩
   rcases hcase with hR | ⟨rs,h⟩
   ·exact .inr ⟨l,x,rfl,by omega,hR,bad _ rfl hR⟩
   ·have hn:=(hin rs h.rd).2 hw
    refine .inl ⟨l,x,rs,rfl,h,hn,?_⟩
    have hE1:=Exn.refl H
    have hv:WArg H (V.str (rowS (page (lessR x rs)))) (dDue wd rs x):=by unfold dDue res67;rw [if_neg hw0,if_pos hw];exact .row _
    have ew:=ew rs h
    have ed:=ed rs h
    refine ⟨_,rfl,rfl,_,rfl,iteNS rfl (iteF ?_)⟩
    refine ⟨(by show 2≤sizeLine;decide),fun p hp=>⟨_,rfl,rfl,.inl (.inr ⟨_,rfl,.inl (.inl ⟨_,_,_,_,rfl,rfl,SqL.of Zc,at1,_,rfl,(by show 2≤sizeLine;decide),fun t ht=>?_⟩)⟩)⟩⟩
    have ex:=fun (xs:List V)=>(hE1.trans (Exn.lst hp)).trans (Exn.tup (xs:=xs) ht)
    exact ⟨_,(ex _).sub,q t _ _ (ex _) (by rw [Zc,ew]) (by rw [ed];exact WArg.same ((Zh hp).trans (Zh ht)) hv)⟩
  have hw2:wd≠2:=fun z=>c2 (by rw [z];rfl)
  have hv2:∀ rs,WArg H (V.str (rowS (page (res67 wd rs x)))) (dDue wd rs x):=fun rs=>by unfold dDue;rw [if_neg hw0];exact .row _
  refine ⟨_,rfl,rfl,_,rfl,iteD (fun c3=>?_) (fun c3=>?_)⟩
  ·refine ⟨_,rfl,_,rfl,?_⟩
   rcases hcase with hR | ⟨rs,h⟩
   ·exact .inr ⟨l,page [x],rfl,by omega,by omega,.inl hR,bad _ rfl hR⟩
   ·refine .inl ⟨l,page [x],rs,[x],res67 wd rs x,rfl,h,Rw.one hx,(Zwe h hx hw2).1,?_⟩
    have hE1:=Exn.refl H
    have hv:=hv2 rs
    have ew:=ew rs h
    have ed:=ed rs h
    refine ⟨_,rfl,rfl,_,rfl,iteNS rfl (iteF ?_)⟩
    refine ⟨(by show 2≤sizeLine;decide),fun p hp=>⟨_,rfl,rfl,.inl (.inr ⟨_,rfl,.inl (.inl ⟨_,_,_,_,rfl,rfl,SqL.of Zc,at1,_,rfl,(by show 2≤sizeLine;decide),fun t ht=>?_⟩)⟩)⟩⟩
    have ex:=fun (xs:List V)=>(hE1.trans (Exn.lst hp)).trans (Exn.tup (xs:=xs) ht)
    exact ⟨_,(ex _).sub,q t _ _ (ex _) (by rw [Zc,ew]) (by rw [ed];exact WArg.same ((Zh hp).trans (Zh ht)) hv)⟩
  ·refine ⟨_,rfl,_,rfl,?_⟩
   rcases hcase with hR | ⟨rs,h⟩
   ·exact .inr ⟨page [x],l,rfl,by omega,by omega,.inr ⟨⟨[x],Rw.one hx⟩,hR⟩,bad _ rfl hR⟩
   ·refine .inl ⟨page [x],l,[x],rs,res67 wd rs x,rfl,Rw.one hx,h,(Zwe h hx hw2).2,?_⟩
    have hE1:=Exn.refl H
    have hv:=hv2 rs
    have ew:=ew rs h
    have ed:=ed rs h
    refine ⟨_,rfl,rfl,_,rfl,iteNS rfl (iteF ?_)⟩
    refine ⟨(by show 2≤sizeLine;decide),fun p hp=>⟨_,rfl,rfl,.inl (.inr ⟨_,rfl,.inl (.inl ⟨_,_,_,_,rfl,rfl,SqL.of Zc,at1,_,rfl,(by show 2≤sizeLine;decide),fun t ht=>?_⟩)⟩)⟩⟩
    have ex:=fun (xs:List V)=>(hE1.trans (Exn.lst hp)).trans (Exn.tup (xs:=xs) ht)
    exact ⟨_,(ex _).sub,q t _ _ (ex _) (by rw [Zc,ew]) (by rw [ed];exact WArg.same ((Zh hp).trans (Zh ht)) hv)⟩
 ·subst hEH
  obtain ⟨rfl,hc,rfl,rfl,hR⟩:=hE
  injection hc with hc
  subst hc
  have hE1:Exn H' (upd H' a (ExcO a C' none)):=Exn.exc ha
  refine ⟨hm,_,rfl,?_⟩
  refine ⟨_,rfl,rfl,_,rfl,?_⟩
  rw [decide_eq_false (fun z=>nomatch z)]
  refine iteT ⟨_,rfl,a,C',none,bs0,rfl,Zc,.inl rfl,kS,kR,hal,true,rfl,iteF ?_⟩
  have at0:atI [V.str (Str.ofString "bad"),V.str (Str.ofString "told")] (if decide (V.ref a=V.non)=true then 1 else 0)=some (V.str (Str.ofString "bad")):=by
   rw [decide_eq_false (fun z=>nomatch z)];decide +kernel
  refine ⟨(by show 2≤sizeLine;decide),fun p hp=>⟨_,rfl,rfl,.inl (.inr ⟨_,rfl,.inl (.inl ⟨_,_,_,_,rfl,rfl,SqL.of Zc,at0,_,rfl,(by show 2≤sizeLine;decide),fun t ht=>?_⟩)⟩)⟩⟩
  have ex:=fun (xs:List V)=>(hE1.trans (Exn.lst hp)).trans (Exn.tup (xs:=xs) ht)
  exact ⟨_,(ex _).sub,q t _ _ (ex _) (by unfold wTold;rw [Zc,hR]) (by unfold dTold;rw [hR];exact .non)⟩
noncomputable def spDue67:Sp:=fun vs H Q _=>∃ (w:Nat) (b:Addr) (rs:List (List Bool)) (x:List Bool),vs=[.int ((w:Nat):Int),.ref b,.str (rowS x)]∧H b=some (.lst (RL rs))∧Asc rs∧rs.length≤900∧(∀ r∈rs,r.length≤6000)∧x.length≤6000∧
 ∀ v H',Exn H H'→WArg H' v (dDue w rs x)→Q v H'
set_option maxHeartbeats 2000000 in
theorem Xcd {f:Addr} {fd:FuncData} (nb:NB mg) (F:FunAt K mg "_law_due" Ww ["_law_word","_law_rows_here","_law_row"] f fd) (D_law_page:DefOk P w K mg base 3 "_law_page" ["_law_rows_here"] (spLawPage K)):DefOk P w K mg base 4 "_law_due" ["_law_word","_law_rows_here","_law_row"] spDue67:=by
 refine F.ok sc_law_due (fun vs H Q E h=>?_) (fun cdv A outer s H vs Q E hr h=>?_)
 ·obtain ⟨_,_,_,_,rfl,_⟩:=h;rfl
 obtain ⟨wd,b,rs,x,rfl,hb,hA,hn,hsm,hx,q⟩:=h
 refine ⟨_,(Zd (Xc (Zn oEq (pv 0) Zf (nomark _)) (Zg (Zr (Jt (Za (Zo Zs rfl nb.len_ Zy (Za (Jb ["_law_one"] [(2,"_law_row")] rfl (by decide +kernel) ⟨rfl,.inl rfl,trivial⟩ (piAll (pv 1)) (fun _ _ _ _ _=>(Xa (i:=0) (show (["_law_one","_law_row"]:List Str).Nodup by decide +kernel) rfl (by first | exact Or.inl rfl | exact Or.inr rfl))) (fun _ _ _ _ _=>(Qq (Zn oLt (pv 0) (pv 1) (nomark _)))) (fun _ _ _ _ _=>(pv 0))) Ze)) (Za (Xn Jq (pv 2) (pv 1) (by with_unfolding_all rfl)) Ze))))) Zt)
  (Zd (Xc (Zn oEq (pv 0) Zf (nomark _)) (Zg (Zr (Zk D_law_page hr (Za (Jb ["_law_one"] [(2,"_law_row")] rfl (by decide +kernel) ⟨rfl,.inl rfl,trivial⟩ (piAll (pv 1)) (fun _ _ _ _ _=>(Xa (i:=0) (show (["_law_one","_law_row"]:List Str).Nodup by decide +kernel) rfl (by first | exact Or.inl rfl | exact Or.inr rfl))) (fun _ _ _ _ _=>(Qq (Zn oNe (pv 0) (pv 1) (nomark _)))) (fun _ _ _ _ _=>(pv 0))) Ze)))) Zt)
  (Zd (Xc (Zn Jm (pv 2) (pv 1) (by with_unfolding_all rfl)) (Zg (Zi (i:=1) sc_law_due.nd rfl (by first | exact Or.inl rfl | exact Or.inr rfl) (Zj oAdd3 (pv 1) (Yg (Za (pv 2) Ze))))) Zt)
  (Zg (Zr (Zk D_law_page hr (Za (Zo Qx rfl nb.sorted_ Zcc (Za (pv 1) Ze)) Ze))))))),?_⟩
 try dsimp only [cxK0,cxK1,cxK2,cxK3]
 refine ⟨_,rfl,rfl,_,rfl,iteD (fun c0=>?_) (fun c0=>?_)⟩
 ·have hw:wd=0:=by have:=V.int.inj c0;omega
  refine .inl ⟨_,rfl,b,rfl,⟨_,SqL.of hb⟩,fun D hD=>?_⟩
  refine Ji (xs:=RL rs) (keepLt x) id (fun σ=>∃ z,σ=[z,some (.str (rowS x))]) (by rw [Zz];exact small5 (by omega)) ⟨_,rfl⟩ hD (SqL.of hb) ?_ ?_
  ·rintro v hv σ1 H1 ⟨z,rfl⟩ hs1 R R' hR
   obtain ⟨y,_,rfl⟩:=List.mem_map.mp hv
   refine ⟨_,rfl,_,rfl,.inr ⟨_,_,rfl,rfl,_,rfl,?_⟩⟩
   have hR:=hR [some (.str (rowS y)),some (.str (rowS x))] ⟨_,rfl⟩
   refine iteD (fun c1=>?_) (fun c1=>?_)
   ·rw [if_pos (show keepLt x (.str (rowS y))=true from decide_eq_true c1)] at hR;exact ⟨_,rfl,hR⟩
   ·rw [if_neg (show ¬keepLt x (.str (rowS y))=true from by unfold keepLt;simpa using c1)] at hR;exact hR
  ·refine ⟨_,_,rfl,.inl ⟨_,SqL.of Zc,rfl⟩,?_⟩
   refine ⟨_,rfl,_,rfl,b,RL rs,rfl,.inl (SqL.of (Zh hD _ _ hb)),rfl,Wx rs,(by show 2≤sizeLine;decide),fun t ht=>?_⟩
   rw [Zza,Jh]
   have ex:=fun (xs:List V)=>(Exn.lst hD).trans (Exn.tup (xs:=xs) ht)
   exact ⟨_,(ex _).sub,q _ _ (ex _) (by unfold dDue;rw [if_pos hw];exact .pair t _ _ Zc)⟩
 have hw0:wd≠0:=fun z=>c0 (by rw [z];rfl)
 have fin:∀ ss,res67 wd rs x=ss→Q (.str (rowS (page ss))) H:=fun ss e=>q _ _ (Exn.refl H) (by unfold dDue;rw [if_neg hw0,e];exact .row _)
 refine ⟨_,rfl,rfl,_,rfl,iteD (fun c2=>?_) (fun c2=>?_)⟩
 ·have hw:wd=2:=by have:=V.int.inj c2;omega
  refine .inl ⟨_,rfl,b,rfl,⟨_,SqL.of hb⟩,fun D hD=>?_⟩
  refine Ji (xs:=RL rs) (keepNe x) id (fun σ=>∃ z,σ=[z,some (.str (rowS x))]) (by rw [Zz];exact small5 (by omega)) ⟨_,rfl⟩ hD (SqL.of hb) ?_ ?_
  ·rintro v hv σ1 H1 ⟨z,rfl⟩ hs1 R R' hR
   obtain ⟨y,_,rfl⟩:=List.mem_map.mp hv
   refine ⟨_,rfl,_,rfl,rfl,_,rfl,?_⟩
   have hR:=hR [some (.str (rowS y)),some (.str (rowS x))] ⟨_,rfl⟩
   generalize hv0:V.str (rowS y)=v at hR ⊢
   cases hk:keepNe x v with
   | true =>
    rw [if_pos hk] at hR
    have hk':(!decide (v = .str (rowS x)))=true:=hk
    rw [hk']
    exact iteT ⟨_,rfl,hR⟩
   | false =>
    rw [if_neg (by rw [hk];exact Bool.false_ne_true)] at hR
    have hk':(!decide (v = .str (rowS x)))=false:=hk
    rw [hk']
    exact iteF hR
  ·have s2':=Zh (o:=HO.lst (List.map id (List.filter (keepNe x) (RL rs)))) hD
   rw [Xfh] at s2' ⊢
   exact ⟨D,lessR x rs,rfl,SqL.of Zc,(by have:=Zyf (x:=x) (rs:=rs);omega),(fun r hr=>hsm r (Zye hr)),H,.refl s2',fin _ (if_pos hw)⟩
 have hw2:wd≠2:=fun z=>c2 (by rw [z];rfl)
 by_cases hx2:x∈rs
 ·refine ⟨_,rfl,_,rfl,b,RL rs,rfl,.inl (SqL.of hb),rfl,Wx rs,false,(by rw [Jh,decide_eq_true hx2];rfl),iteF ?_⟩
  refine ⟨_,rfl,b,rs,rfl,SqL.of hb,by omega,Zce hA,fun ss hss hperm p4 hp4=>?_⟩
  obtain rfl:ss=rs:=Zuf hss hA hperm
  exact ⟨p4,ss,rfl,SqL.of Zc,by omega,hsm,H,.refl (Zh hp4),fin _ (by unfold res67;rw [if_neg hw2,if_pos hx2])⟩
 ·refine ⟨_,rfl,_,rfl,b,RL rs,rfl,.inl (SqL.of hb),rfl,Wx rs,true,(by rw [Jh,decide_eq_false hx2];rfl),iteT ?_⟩
  refine ⟨_,rfl,_,rfl,(by show 1≤sizeLine;decide),fun p2 hp2=>?_⟩
  have sp2:=Zh (o:=HO.lst [V.str (rowS x)]) hp2
  refine .inr ⟨b,p2,_,_,rfl,rfl,sp2 _ _ hb,Zc,(by rw [Zz];exact small5 (by show rs.length+1≤_;omega)),fun p3 hp3=>?_⟩
  have e3:RL rs++[V.str (rowS x)]=RL (rs++[x]):=(Zdc rs [x]).symm
  rw [e3]
  have sp3:=Zh (o:=HO.lst (RL (rs++[x]))) hp3
  refine ⟨_,rfl,p3,rs++[x],rfl,SqL.of Zc,(by rw [List.length_append];show rs.length+1≤1000;omega),Zrc hA hx2,fun ss hss hperm p4 hp4=>?_⟩
  have ess:=Zvf hA hx2 hss hperm
  subst ess
  have sp4:=Zh (o:=HO.lst (RL (insR x rs))) hp4
  exact ⟨p4,insR x rs,rfl,SqL.of Zc,(by rw [Zlb];omega),Zla hsm hx,H,.refl ((sp2.trans sp3).trans sp4),fin _ (by unfold res67;rw [if_neg hw2,if_neg hx2])⟩
theorem Qo:∀ {ys:List V},(∀ y∈ys,∃ l:List Bool,l.length≤2∧y = .str (rowS l))→∃ ls:List (List Bool),ls.length=ys.length∧(∀ l∈ls,l.length≤2)∧ys=RL ls
 | [],_=>⟨[],rfl,(fun l hl=>nomatch hl),rfl⟩
 | y::ys,h=>by
  obtain ⟨l,hl,e⟩:=h y (List.mem_cons_self ..)
  obtain ⟨ls,h1,h2,h3⟩:=Qo (ys:=ys) fun z hz=>h z (List.mem_cons_of_mem _ hz)
  refine ⟨l::ls,by rw [List.length_cons,List.length_cons,h1],fun x hx=>?_,by rw [e,h3];rfl⟩
  rcases List.mem_cons.mp hx with w | w
  ·rw [w];exact hl
  ·exact h2 x w
theorem Zlf:∀ {ls:List (List Bool)},(∀ l∈ls,l.length≤2)→ls.flatten.length≤2*ls.length∧((ls.map rowS).map (·.length)).sum≤2*ls.length
 | [],_=>⟨Nat.le_refl _,Nat.le_refl _⟩
 | l::ls,h=>by
  have h1:=h l (List.mem_cons_self ..)
  have ⟨h2,h3⟩:=Zlf (ls:=ls) fun x hx=>h x (List.mem_cons_of_mem _ hx)
  rw [List.flatten_cons,List.length_append,List.length_cons,List.map_cons,List.map_cons,List.sum_cons,Zb]
  omega
set_option maxHeartbeats 4000000 in
theorem Xyi {f:Addr} {fd:FuncData} (nb:NB mg) (F:Fun K "law" "law" Zdh f fd) (D_law_rows:DefOk P w K mg base 2 "_law_rows" ["_law_script","_law_most"] (spLawRows K)) (D_law_bent:DefOk P w K mg base 4 "_law_bent" ["_law_script","_law_rows_here"] (spBent K)) (D_law_reader:DefOk P w K mg base 2 "_law_reader" ["_law_page_here"] spReader)
  (D_law_cell_at:DefOk P w K mg base 1 "_law_cell_at" ["_law_script","_law_k"] (spCellAt K)) (D_law_mixed:DefOk P w K mg base 1 "_law_mixed" ["_law_cell","_law_k"] spMixed) (D_law_page:DefOk P w K mg base 3 "_law_page" ["_law_rows_here"] (spLawPage K))
  (D_law_due:DefOk P w K mg base 4 "_law_due" ["_law_word","_law_rows_here","_law_row"] spDue67) (D_law_told:DefOk P w K mg base 11 "_law_told" ["_law_word","_law_page_here","_law_row","_law_good"] spTold67) :
  FnOk P w K mg base CX0 12 f fd ["_law_script"] (spLaw K):=by
 refine F.okK sc_law (fun vs H Q E h=>?_) (fun cdv A outer s H vs Q E hr h=>?_)
 ·obtain ⟨a,ns,rfl,_⟩:=h;rfl
 obtain ⟨a,ns,rfl,hS,hl,q⟩:=h
 refine ⟨_,(Zd (Zi (i:=1) sc_law.nd rfl (by first | exact Or.inl rfl | exact Or.inr rfl) (Zk D_law_bent hr (Za (pv 0) (Za (Zk D_law_rows hr (Za (pv 0) (Za Zf Ze))) Ze))))
  (Zd (Zi (i:=2) sc_law.nd rfl (by first | exact Or.inl rfl | exact Or.inr rfl) (Zk D_law_reader hr (Za (pv 1) Ze)))
  (Zd (Zi (i:=3) sc_law.nd rfl (by first | exact Or.inl rfl | exact Or.inr rfl) (Zk D_law_mixed hr (Za (Zk D_law_cell_at hr (Za (pv 0) (Za Zf Ze))) (Za Zf Ze))))
  (Zd (Zi (i:=4) sc_law.nd rfl (by first | exact Or.inl rfl | exact Or.inr rfl) (Zgd PySem.F.plainAttrs_str PySem.F.slot_str_join PySem.F.type_str_join Zif Zu (Za (Jb ["_law_k"] [(3,"_law_number")] rfl (by decide +kernel) ⟨rfl,.inl rfl,trivial⟩ (Wa rfl nb.range_ (Za (Zj Xw (pv 3) Zf) Ze)) (fun _ _ _ _ _=>(Xa (i:=0) (show (["_law_k","_law_number"]:List Str).Nodup by decide +kernel) rfl (by first | exact Or.inl rfl | exact Or.inr rfl))) (fun _ _ _ _ _=>Zec) (fun _ _ _ _ _=>(Xb iAll Zu (Zj Xw (Zj Wp (pv 1) (Zj oAdd (pv 0) Zf)) Zf) (fun _ _=>rfl)))) Ze)))
  (Zd (Qc PassesOwn.never rfl (Wa rfl nb.range_ (Za Zf Ze)) (Xa (i:=5) sc_law.nd rfl (by first | exact Or.inl rfl | exact Or.inr rfl))
   (Zd (Zi (i:=6) sc_law.nd rfl (by first | exact Or.inl rfl | exact Or.inr rfl) (pv 4))
   (Zd (Zi (i:=7) sc_law.nd rfl (by first | exact Or.inl rfl | exact Or.inr rfl) (Xwc (Xn (oEqLS (room64 hr)) (pv 5) Zf (nomark _)) (Zcf (Zfe (Xn (oNeWA (room64 hr)) (pv 5) Zf (nomark _)) (Zcf (Xn (oEqLS (room64 hr)) (Zj Xw (Zj Wp (pv 3) Zf) Zf) Zf (nomark _)))))))
   (Zd (Xc (PW.pt (Jd (Xv (pv 7) (fun _=>rfl)) (Jd (Zn Zsb (pv 2) Ju (nomark _)) (Ja (Zn (oNeWA (room64 hr)) (pv 2) (Yg Ze) (nomark _)))))) (Zg (Zi (i:=6) sc_law.nd rfl (by first | exact Or.inl rfl | exact Or.inr rfl) (Xb iAll (pv 2) (Zj Xw (Zj Wp (pv 3) Zf) (Zo Zs rfl nb.len_ Zy (Za (pv 2) Ze))) (fun _ _=>rfl)))) Zt)
   (Zd (Zi (i:=8) sc_law.nd rfl (by first | exact Or.inl rfl | exact Or.inr rfl) (Jt (Za Zu (Za Ju Ze))))
   (Zd (Zi (i:=9) sc_law.nd rfl (by first | exact Or.inl rfl | exact Or.inr rfl) Zph)
   (Zd (Xc (Zn Zsb (pv 2) Ju (nomark _)) (Zd (Zi (i:=8) sc_law.nd rfl (by first | exact Or.inl rfl | exact Or.inr rfl) (Jt (Za Zu (Za (Zk D_law_due hr (Za (pv 5) (Za (pv 2) (Za (pv 6) Ze)))) Ze))))
    (Zg (Zi (i:=9) sc_law.nd rfl (by first | exact Or.inl rfl | exact Or.inr rfl) (Xwc (Zfe (Xn (oEqLS (room64 hr)) (pv 5) Zf (nomark _)) (Zcf (Xn Jq (pv 6) (pv 2) (by with_unfolding_all rfl)))) (Zcf (Zfe (Xn (oEqLS (room64 hr)) (pv 5) Zf (nomark _)) (Zcf (Xn Jm (pv 6) (pv 2) (by with_unfolding_all rfl))))))))) Zt)
   (Zg (Xc (PW.pt (Jd (Qb (Xv (pv 9) (fun _=>rfl))) (Ja (Zn (oNeWA (room64 hr)) (Zk D_law_told hr (Za (pv 5) (Za (pv 1) (Za (pv 6) (Za (Zk D_law_page hr (Za (Yg (Za (pv 6) Ze)) Ze)) Ze))))) (pv 8) (nomark _))))) (Zg (Zr Zph)) Zt)))))))))
  (Zg (Zr Zph))))))),?_⟩
 try dsimp only [cxK0,cxK1,cxK2,cxK3]
 refine ⟨_,rfl,_,rfl,a,ns,20,rfl,hS,hl,by decide,fun rs0 hA0 hn0 hb0 r1 hr1=>?_⟩
 have h1:=Zh (o:=HO.lst (RL rs0)) hr1
 refine ⟨a,r1,ns,rs0,rfl,h1.seq hS,hl,Zc,hn0,hb0,fun l hl5=>?_⟩
 refine ⟨_,rfl,l,rfl,by omega,fun hR=>?_,fun rs hR p hp=>?_⟩
 ·have hs1:=h1
  generalize upd H r1 (HO.lst (RL rs0))=Ha at *
  obtain ⟨rv,hrv⟩:∃ rv,rv=V.non:=⟨_,rfl⟩
  refine ⟨_,rfl,a,ns,2,rfl,hs1.seq hS,hl,_,_,rfl,fun v hv0 hv1=>?_⟩
  obtain ⟨m1,m2⟩:=modb (a:=v) (b:=70) (by decide)
  refine ⟨rfl,_,rfl,_,_,rfl,rfl,(by show (0:Int)<70;decide),_,rfl,by omega,by omega,fun D hD=>?_⟩
  refine Zgh (fun y=>∃ l:List Bool,l.length≤2∧y = .str (rowS l)) (fun σ=>∃ z,σ=[z,some (.int v)]) (by omega) ⟨_,rfl⟩ hD ?_ ?_
  ·rintro i hi σ1 H1 ⟨z,rfl⟩ hs2 R hR
   rw [Int.zero_add]
   refine ⟨_,rfl,_,rfl,.inl ⟨_,_,rfl,rfl,_,_,rfl,rfl,⟨by omega,by omega⟩,_,_,rfl,rfl,(by show (0:Int)<2;decide),.inr ⟨_,_,_,rfl,rfl,(by rw [s01,Zb];exact small5 (by decide)),Zdg _,?_⟩⟩⟩
   rw [Wr]
   exact hR _ _ _ ⟨_,rfl⟩ (Same.refl _) ⟨_,(by show 1≤2;decide),rfl⟩
  intro ys H1 hyl hyp hs2 hD1
  obtain ⟨ls,e1,e2,e3⟩:=Qo hyp
  obtain ⟨fl1,fl2⟩:=Zlf e2
  have e0:(Str.ofString "").length=0:=by decide +kernel
  refine ⟨_,D,ls.map rowS,rfl,rfl,SqL.of (by rw [hD1,e3,Xsd]),(by rw [e0,Nat.mul_zero,Nat.add_zero];exact small5 (by omega)),?_⟩
  rw [Qj]
  have hx0:ls.flatten.length≤140:=by omega
  generalize ls.flatten=x0 at hx0 ⊢
  have hs3:=hs1.trans hs2
  refine ⟨_,rfl,by decide,by decide,?_⟩
  refine Wb (fun i σ H2=>Same H H2∧∃ z5 z6 z7 z8 z9,σ=[some (.ref a),some (.str (rowS l)),some rv,some (.int v),some (.str (rowS x0)),z5,z6,z7,z8,z9]) ⟨hs3,_,_,_,_,_,(by rw [hrv];rfl)⟩ ?_ ?_
  ·rintro i σ H2 hi ⟨hs,z5,z6,z7,z8,z9,rfl⟩
   rw [Int.zero_add]
   refine ⟨_,rfl,?_⟩
   dsimp only [gName,List.set]
   refine seqC (t1:=tAsg (tOrV _ _) (gName 7)) (fun σ' H'=>H'=H2∧∃ b:Bool,σ'=[some (.ref a),some (.str (rowS l)),some rv,some (.int v),some (.str (rowS x0)),some (.int ((i:Nat):Int)),some (.str (rowS x0)),some (.bl b),z8,z9]) ?_ (fun N hN=>?_)
   rotate_left
   ·refine ⟨_,rfl,.inl ⟨rfl,_,rfl,iteD (fun c1=>?_) (fun c1=>?_)⟩⟩
    ·exact hN _ _ ⟨rfl,true,rfl⟩
    ·refine ⟨_,rfl,.inl (.inl ⟨rfl,_,rfl,?_⟩)⟩
     cases hb1:(!decide (V.int ((i:Nat):Int)=V.int 1)) with
     | false=>exact iteF (hN _ _ ⟨rfl,false,rfl⟩)
     | true=>exact iteT ⟨_,rfl,_,_,rfl,rfl,⟨by decide,by decide⟩,_,_,rfl,rfl,(by show (0:Int)<2;decide),.inl ⟨rfl,hN _ _ ⟨rfl,_,rfl⟩⟩⟩
   rintro σ' H' ⟨rfl,b,rfl⟩
   subst hrv
   refine seqC (t1:=tIfS (tAnd _ _) _ tNext) (fun σ' H2=>H2=H'∧∃ z7,σ'=[some (.ref a),some (.str (rowS l)),some .non,some (.int v),some (.str (rowS x0)),some (.int ((i:Nat):Int)),some (.str (rowS x0)),z7,z8,z9]) ?_ (fun N hN=>?_)
   rotate_left
   ·refine ⟨_,rfl,b,rfl,?_⟩
    cases b with
    | false=>exact iteF (iteF (hN _ _ ⟨rfl,_,rfl⟩))
    | true=>exact iteT ⟨_,rfl,rfl,_,rfl,iteNS rfl (iteF (hN _ _ ⟨rfl,_,rfl⟩))⟩
   rintro σ' H2 ⟨rfl,z7,rfl⟩
   refine ⟨(by show 2≤sizeLine;decide),fun t1 ht1=>?_⟩
   have s1':=Zh (o:=HO.tup [V.str (Str.ofString "bad"),V.non]) ht1
   refine ⟨_,rfl,rfl,_,rfl,iteNS rfl ?_⟩
   have ew:wTold l=Str.ofString "bad":=by unfold wTold;rw [hR]
   have ed:dTold i l x0 = .none:=by unfold dTold;rw [hR]
   refine ⟨_,rfl,false,rfl,iteT ⟨_,rfl,_,rfl,_,rfl,_,rfl,(by show 1≤sizeLine;decide),fun p5 hp5=>⟨p5,[x0],rfl,SqL.of Zc,(by show 1≤1000;decide),(fun r hr=>by rw [List.mem_singleton.mp hr];omega),?_⟩⟩⟩
   have s5':=Zh (o:=HO.lst [V.str (rowS x0)]) hp5
   refine ⟨i,l,x0,rfl,by omega,hl5,by omega,(fun rs z=>by rw [hR] at z;cases z),fun t2 v2 H6 e6 h6 hv6=>?_⟩
   rw [ew] at h6
   rw [ed] at hv6
   refine ⟨_,rfl,.inr ⟨t2,t1,_,v2,.non,.none,rfl,rfl,(by decide +kernel),hv6,.non,h6,e6.s _ _ (s5' _ _ Zc),_,rfl,iteF ?_⟩⟩
   exact ⟨((hs.trans s1').trans s5').trans e6.s,_,_,_,_,_,rfl⟩
  ·rintro σ H2 ⟨hs,z5,z6,z7,z8,z9,rfl⟩
   exact ⟨H,.refl hs,q _⟩
 have hs1:=h1.trans (Zh (o:=HO.lst (RL rs)) hp)
 have hpv:=Zc (H:=upd H r1 (HO.lst (RL rs0))) (a:=p) (o:=HO.lst (RL rs))
 have hRw:=Rw.of hl5 hR
 generalize upd (upd H r1 (HO.lst (RL rs0))) p (HO.lst (RL rs))=Ha at *
 obtain ⟨rv,hrv⟩:∃ rv,rv=V.ref p:=⟨_,rfl⟩
 refine ⟨_,rfl,a,ns,2,rfl,hs1.seq hS,hl,_,_,rfl,fun v hv0 hv1=>?_⟩
 obtain ⟨m1,m2⟩:=modb (a:=v) (b:=70) (by decide)
 refine ⟨rfl,_,rfl,_,_,rfl,rfl,(by show (0:Int)<70;decide),_,rfl,by omega,by omega,fun D hD=>?_⟩
 refine Zgh (fun y=>∃ l:List Bool,l.length≤2∧y = .str (rowS l)) (fun σ=>∃ z,σ=[z,some (.int v)]) (by omega) ⟨_,rfl⟩ hD ?_ ?_
 ·rintro i hi σ1 H1 ⟨z,rfl⟩ hs2 R hR
  rw [Int.zero_add]
  refine ⟨_,rfl,_,rfl,.inl ⟨_,_,rfl,rfl,_,_,rfl,rfl,⟨by omega,by omega⟩,_,_,rfl,rfl,(by show (0:Int)<2;decide),.inr ⟨_,_,_,rfl,rfl,(by rw [s01,Zb];exact small5 (by decide)),Zdg _,?_⟩⟩⟩
  rw [Wr]
  exact hR _ _ _ ⟨_,rfl⟩ (Same.refl _) ⟨_,(by show 1≤2;decide),rfl⟩
 intro ys H1 hyl hyp hs2 hD1
 obtain ⟨ls,e1,e2,e3⟩:=Qo hyp
 obtain ⟨fl1,fl2⟩:=Zlf e2
 have e0:(Str.ofString "").length=0:=by decide +kernel
 refine ⟨_,D,ls.map rowS,rfl,rfl,SqL.of (by rw [hD1,e3,Xsd]),(by rw [e0,Nat.mul_zero,Nat.add_zero];exact small5 (by omega)),?_⟩
 rw [Qj]
 have hx0:ls.flatten.length≤140:=by omega
 generalize ls.flatten=x0 at hx0 ⊢
 have hs3:=hs1.trans hs2
 refine ⟨_,rfl,by decide,by decide,?_⟩
 have hpv1:=hs2 _ _ hpv
 refine Wb (fun i σ H2=>Same H H2∧H2 p=some (.lst (RL rs))∧∃ z5 z6 z7 z8 z9,σ=[some (.ref a),some (.str (rowS l)),some rv,some (.int v),some (.str (rowS x0)),z5,z6,z7,z8,z9]) ⟨hs3,hpv1,_,_,_,_,_,(by rw [hrv];rfl)⟩ ?_ ?_
 ·rintro i σ H2 hi ⟨hs,hp2,z5,z6,z7,z8,z9,rfl⟩
  rw [Int.zero_add]
  refine ⟨_,rfl,?_⟩
  dsimp only [gName,List.set]
  refine seqC (t1:=tAsg (tOrV _ _) (gName 7)) (fun σ' H'=>H'=H2∧∃ b:Bool,σ'=[some (.ref a),some (.str (rowS l)),some rv,some (.int v),some (.str (rowS x0)),some (.int ((i:Nat):Int)),some (.str (rowS x0)),some (.bl b),z8,z9]) ?_ (fun N hN=>?_)
  rotate_left
  ·refine ⟨_,rfl,.inl ⟨rfl,_,rfl,iteD (fun c1=>?_) (fun c1=>?_)⟩⟩
   ·exact hN _ _ ⟨rfl,true,rfl⟩
   ·refine ⟨_,rfl,.inl (.inl ⟨rfl,_,rfl,?_⟩)⟩
    cases hb1:(!decide (V.int ((i:Nat):Int)=V.int 1)) with
    | false=>exact iteF (hN _ _ ⟨rfl,false,rfl⟩)
    | true=>exact iteT ⟨_,rfl,_,_,rfl,rfl,⟨by decide,by decide⟩,_,_,rfl,rfl,(by show (0:Int)<2;decide),.inl ⟨rfl,hN _ _ ⟨rfl,_,rfl⟩⟩⟩
  rintro σ' H' ⟨rfl,b,rfl⟩
  subst hrv
  refine seqC (t1:=tIfS (tAnd _ _) _ tNext) (fun σ' H2=>Same H' H2∧∃ (x:List Bool) (z7:Option V),x.length≤6000∧σ'=[some (.ref a),some (.str (rowS l)),some (.ref p),some (.int v),some (.str (rowS x0)),some (.int ((i:Nat):Int)),some (.str (rowS x)),z7,z8,z9]) ?_ (fun N hN=>?_)
  rotate_left
  ·refine ⟨_,rfl,b,rfl,?_⟩
   cases b with
   | false=>exact iteF (iteF (hN _ _ ⟨Same.refl _,x0,_,by omega,rfl⟩))
   | true =>
    refine iteT ⟨_,rfl,rfl,_,rfl,?_⟩
    rw [decide_eq_false (fun z=>nomatch z)]
    refine iteT ⟨_,rfl,Nat.zero_le _,fun g hg => .inl (.inr ⟨p,g,rs,[],rfl,rfl,Zh (o:=HO.lst []) hg _ _ hp2,Zc,_,rfl,?_⟩)⟩
    have hg2:=Zh (o:=HO.lst []) hg
    by_cases h0:rs=[]
    ·rw [decide_eq_true h0]
     exact iteF (hN _ _ ⟨hg2,x0,_,by omega,rfl⟩)
    ·rw [decide_eq_false h0]
     have hpos:0<rs.length:=List.length_pos_iff.mpr h0
     refine iteT ⟨_,rfl,_,rfl,_,_,rfl,rfl,⟨by decide,by decide⟩,_,rfl,_,_,rfl,.inl ⟨_,SqL.of (hg2 _ _ hp2),rfl⟩,_,_,rfl,rfl,(by rw [Zz];omega),?_⟩
     rw [Zz]
     obtain ⟨x1,hx1m,hx1⟩:=Zei (fun r=>V.str (rowS r)) rs (v/140) ((rs.length:Nat):Int) rfl hpos
     exact .inl (.inl ⟨_,_,_,_,rfl,rfl,SqL.of (hg2 _ _ hp2),hx1,hN _ _ ⟨hg2,x1,_,hRw.sm x1 hx1m,rfl⟩⟩)
  rintro σ' H2 ⟨hs7,x,z7,hx,rfl⟩
  have hp7:=hs7 _ _ hp2
  have hs8:=hs.trans hs7
  clear hs7 hp2
  refine ⟨(by show 2≤sizeLine;decide),fun t1 ht1=>?_⟩
  have s1':=Zh (o:=HO.tup [V.str (Str.ofString "bad"),V.non]) ht1
  have hp8:=s1' _ _ hp7
  have hs9:=hs8.trans s1'
  generalize upd H2 t1 (HO.tup [V.str (Str.ofString "bad"),V.non])=H3 at *
  have ew:wTold l=Str.ofString "told":=by unfold wTold;rw [hR]
  have ed:dTold i l x=dDue i rs x:=by unfold dTold;rw [hR]
  dsimp only [gName,List.set]
  refine asgC ?_
  dsimp only [List.set]
  refine seqC (t1:=tIfS (tTest _) (tSeq _ _) tNext) (fun σ' H4=>Same H H4∧H4 p=some (.lst (RL rs))∧∃ (t:Addr) (dv:V) (sk:Bool),H4 t=some (.tup [.str (Str.ofString "told"),dv])∧WArg H4 dv (dDue i rs x)∧(sk=false→(i=1→x∉rs)∧(i=2→x∈rs))∧σ'=[some (.ref a),some (.str (rowS l)),some (.ref p),some (.int v),some (.str (rowS x0)),some (.int ((i:Nat):Int)),some (.str (rowS x)),z7,some (.ref t),some (.bl sk)]) ?_ (fun N hN=>?_)
  rotate_left
  ·refine ⟨_,rfl,rfl,_,rfl,?_⟩
   rw [decide_eq_false (fun z=>nomatch z)]
   refine iteT ⟨_,rfl,_,rfl,_,rfl,i,p,rs,x,rfl,hp8,hRw.asc,hRw.few,hRw.sm,hx,fun dv H4 e4 hv4=>⟨(by show 2≤sizeLine;decide),fun t ht=>?_⟩⟩
   have st:=fun (o:HO)=>Zh (o:=o) ht
   have hp9:=e4.s _ _ hp8
   refine ⟨_,rfl,.inl ⟨rfl,_,rfl,iteD (fun c1=>?_) (fun c1=>?_)⟩⟩
   ·have hi1:i=1:=by have:=V.int.inj c1;omega
    refine ⟨_,rfl,_,rfl,p,RL rs,rfl,.inl (SqL.of (st _ _ _ hp9)),rfl,Wx rs,decide (x∈rs),(by rw [Jh];rfl),?_⟩
    by_cases hm:x∈rs
    ·rw [decide_eq_true hm]
     exact iteT (hN _ _ ⟨(hs9.trans e4.s).trans (st _),st _ _ _ hp9,t,dv,true,Zc,hv4.same (st _),(fun z=>nomatch z),rfl⟩)
    ·rw [decide_eq_false hm]
     exact iteF ⟨_,rfl,.inl ⟨rfl,_,rfl,iteN (fun z=>by have:=V.int.inj z;omega) (hN _ _ ⟨(hs9.trans e4.s).trans (st _),st _ _ _ hp9,t,dv,false,Zc,hv4.same (st _),fun _=>⟨fun _=>hm,fun z=>by omega⟩,rfl⟩)⟩⟩
   ·have hi1:i≠1:=fun z=>c1 (by rw [z];rfl)
    refine ⟨false,rfl,iteF ⟨_,rfl,.inl ⟨rfl,_,rfl,iteD (fun c2=>?_) (fun c2=>?_)⟩⟩⟩
    ·have hi2:i=2:=by have:=V.int.inj c2;omega
     refine ⟨_,rfl,_,rfl,p,RL rs,rfl,.inl (SqL.of (st _ _ _ hp9)),rfl,Wx rs,?_⟩
     refine hN _ _ ⟨(hs9.trans e4.s).trans (st _),st _ _ _ hp9,t,dv,!decide (x∈rs),Zc,hv4.same (st _),fun z=>⟨fun z2=>by omega,fun _=>by simpa using z⟩,?_⟩
     rw [Jh];rfl
    ·have hi2:i≠2:=fun z=>c2 (by rw [z];rfl)
     exact hN _ _ ⟨(hs9.trans e4.s).trans (st _),st _ _ _ hp9,t,dv,false,Zc,hv4.same (st _),fun _=>⟨fun z=>absurd z hi1,fun z=>absurd z hi2⟩,rfl⟩
  rintro σ' H4 ⟨hs4,hp4,t,dv,sk,ht,hv,hsk,rfl⟩
  refine ⟨_,rfl,sk,rfl,?_⟩
  cases sk with
  | true=>exact iteF (iteF ⟨hs4,hp4,_,_,_,_,_,rfl⟩)
  | false =>
   refine iteT ⟨_,rfl,_,rfl,_,rfl,_,rfl,(by show 1≤sizeLine;decide),fun p5 hp5=>⟨p5,[x],rfl,SqL.of Zc,(by show 1≤1000;decide),(fun r hr=>by rw [List.mem_singleton.mp hr];omega),?_⟩⟩
   have s5':=Zh (o:=HO.lst [V.str (rowS x)]) hp5
   refine ⟨i,l,x,rfl,by omega,hl5,hx,(fun rs2 z=>by rw [hR] at z;cases z;exact hsk rfl),fun t2 v2 H6 e6 h6 hv6=>?_⟩
   rw [ew] at h6
   rw [ed] at hv6
   have s6:=s5'.trans e6.s
   refine ⟨_,rfl,.inr ⟨t2,t,_,v2,dv,_,rfl,rfl,(by decide +kernel),hv6,hv.same s6,h6,s6 _ _ ht,_,rfl,iteF ?_⟩⟩
   exact ⟨hs4.trans s6,s6 _ _ hp4,_,_,_,_,_,rfl⟩
 ·rintro σ H2 ⟨hs,hp2,z5,z6,z7,z8,z9,rfl⟩
  exact ⟨H,.refl hs,q _⟩
theorem ex1 (us:List Value) (hl:us.length=1):∃ a:Value,us=[a]:=match us,hl with | [a],_=>⟨a,rfl⟩
theorem ex2 (us:List Value) (hl:us.length=2):∃ a b:Value,us=[a,b]:=match us,hl with | [a,b],_=>⟨a,b,rfl⟩
theorem ex3 (us:List Value) (hl:us.length=3):∃ a b c:Value,us=[a,b,c]:=match us,hl with | [a,b,c],_=>⟨a,b,c,rfl⟩
theorem ex4 (us:List Value) (hl:us.length=4):∃ a b c d:Value,us=[a,b,c,d]:=match us,hl with | [a,b,c,d],_=>⟨a,b,c,d,rfl⟩
set_option maxHeartbeats 16000000 in
theorem Yaj {l:PySem.W.OpenLaw} {w:World} {K:PySem.W.Frag} {h:Heap} {mg:Str→Option Value} {fa:Addr} (X:K.In h) (G:h.Ns mainGlobals mg) (hfa:mg "law"=some (.ref fa))
  {C_Source:Addr} {f_Source_init:Addr} {od_x0 an_x0:Option Addr} {sl_x0:Array (Option Value)} {oc_x0 kV_x0 dc_x0 pm_x0 cd_x0 ct_x0:Value} {f_Source_draw:Addr} {od_x1 an_x1:Option Addr} {sl_x1:Array (Option Value)} {oc_x1 kV_x1 dc_x1 pm_x1 cd_x1 ct_x1:Value} {C_RiseError:Addr} {C_NoFit:Addr} {C_Short:Addr} {C_Wrong:Addr} {C_Left:Addr} {C_NoForm:Addr} {C_NoText:Addr} {C_NotAhead:Addr} {C_BadPage:Addr} {C_Twice:Addr} {C_Lacking:Addr} {f_Short_init:Addr} {od_x2 an_x2:Option Addr} {sl_x2:Array (Option Value)} {oc_x2 kV_x2 dc_x2 pm_x2 cd_x2 ct_x2:Value} {f_lower_digits:Addr} {od_x3 an_x3:Option Addr} {sl_x3:Array (Option Value)} {oc_x3 kV_x3 dc_x3 pm_x3 cd_x3 ct_x3:Value} {f_is_count:Addr} {od_x4 an_x4:Option Addr} {sl_x4:Array (Option Value)} {oc_x4 kV_x4 dc_x4 pm_x4 cd_x4 ct_x4:Value} {f_count_row:Addr} {od_x5 an_x5:Option Addr} {sl_x5:Array (Option Value)} {oc_x5 kV_x5 dc_x5 pm_x5 cd_x5 ct_x5:Value} {f_draw_lower_digits:Addr} {od_x6 an_x6:Option Addr} {sl_x6:Array (Option Value)} {oc_x6 kV_x6 dc_x6 pm_x6 cd_x6 ct_x6:Value} {f_draw_count:Addr} {od_x7 an_x7:Option Addr} {sl_x7:Array (Option Value)} {oc_x7 kV_x7 dc_x7 pm_x7 cd_x7 ct_x7:Value} {f_read_count:Addr} {od_x8 an_x8:Option Addr} {sl_x8:Array (Option Value)} {oc_x8 kV_x8 dc_x8 pm_x8 cd_x8 ct_x8:Value} {f_first_unlike:Addr} {od_x9 an_x9:Option Addr} {sl_x9:Array (Option Value)} {oc_x9 kV_x9 dc_x9 pm_x9 cd_x9 ct_x9:Value} {f_shared_signs:Addr} {od_x10 an_x10:Option Addr} {sl_x10:Array (Option Value)} {oc_x10 kV_x10 dc_x10 pm_x10 cd_x10 ct_x10:Value} {f_ascend:Addr} {od_x11 an_x11:Option Addr} {sl_x11:Array (Option Value)} {oc_x11 kV_x11 dc_x11 pm_x11 cd_x11 ct_x11:Value} {f_entry_of:Addr} {od_x12 an_x12:Option Addr} {sl_x12:Array (Option Value)} {oc_x12 kV_x12 dc_x12 pm_x12 cd_x12 ct_x12:Value} {f_page_of:Addr} {od_x13 an_x13:Option Addr} {sl_x13:Array (Option Value)} {oc_x13 kV_x13 dc_x13 pm_x13 cd_x13 ct_x13:Value} {f_may_follow:Addr} {od_x14 an_x14:Option Addr} {sl_x14:Array (Option Value)} {oc_x14 kV_x14 dc_x14 pm_x14 cd_x14 ct_x14:Value} {f_read_entry:Addr} {od_x15 an_x15:Option Addr} {sl_x15:Array (Option Value)} {oc_x15 kV_x15 dc_x15 pm_x15 cd_x15 ct_x15:Value} {f_read_rows:Addr} {od_x16 an_x16:Option Addr} {sl_x16:Array (Option Value)} {oc_x16 kV_x16 dc_x16 pm_x16 cd_x16 ct_x16:Value} {f_rows_of:Addr} {od_x17 an_x17:Option Addr} {sl_x17:Array (Option Value)} {oc_x17 kV_x17 dc_x17 pm_x17 cd_x17 ct_x17:Value} {f_place_in:Addr} {od_x18 an_x18:Option Addr} {sl_x18:Array (Option Value)} {oc_x18 kV_x18 dc_x18 pm_x18 cd_x18 ct_x18:Value} {f_page_with:Addr} {od_x19 an_x19:Option Addr} {sl_x19:Array (Option Value)} {oc_x19 kV_x19 dc_x19 pm_x19 cd_x19 ct_x19:Value} {f_page_without:Addr} {od_x20 an_x20:Option Addr} {sl_x20:Array (Option Value)} {oc_x20 kV_x20 dc_x20 pm_x20 cd_x20 ct_x20:Value} {f_poured:Addr} {od_x21 an_x21:Option Addr} {sl_x21:Array (Option Value)} {oc_x21 kV_x21 dc_x21 pm_x21 cd_x21 ct_x21:Value} {f_law_cell_at:Addr} {od_x22 an_x22:Option Addr} {sl_x22:Array (Option Value)} {oc_x22 kV_x22 dc_x22 pm_x22 cd_x22 ct_x22:Value} {f_law_mixed:Addr} {od_x23 an_x23:Option Addr} {sl_x23:Array (Option Value)} {oc_x23 kV_x23 dc_x23 pm_x23 cd_x23 ct_x23:Value} {f_law_free_row:Addr} {od_x24 an_x24:Option Addr} {sl_x24:Array (Option Value)} {oc_x24 kV_x24 dc_x24 pm_x24 cd_x24 ct_x24:Value} {f_law_rows:Addr} {od_x25 an_x25:Option Addr} {sl_x25:Array (Option Value)} {oc_x25 kV_x25 dc_x25 pm_x25 cd_x25 ct_x25:Value} {f_law_digits:Addr} {od_x26 an_x26:Option Addr} {sl_x26:Array (Option Value)} {oc_x26 kV_x26 dc_x26 pm_x26 cd_x26 ct_x26:Value} {f_law_count:Addr} {od_x27 an_x27:Option Addr} {sl_x27:Array (Option Value)} {oc_x27 kV_x27 dc_x27 pm_x27 cd_x27 ct_x27:Value} {f_law_common:Addr} {od_x28 an_x28:Option Addr} {sl_x28:Array (Option Value)} {oc_x28 kV_x28 dc_x28 pm_x28 cd_x28 ct_x28:Value} {f_law_page:Addr} {od_x29 an_x29:Option Addr} {sl_x29:Array (Option Value)} {oc_x29 kV_x29 dc_x29 pm_x29 cd_x29 ct_x29:Value} {f_law_alone:Addr} {od_x30 an_x30:Option Addr} {sl_x30:Array (Option Value)} {oc_x30 kV_x30 dc_x30 pm_x30 cd_x30 ct_x30:Value} {f_law_loose:Addr} {od_x31 an_x31:Option Addr} {sl_x31:Array (Option Value)} {oc_x31 kV_x31 dc_x31 pm_x31 cd_x31 ct_x31:Value} {f_law_counted:Addr} {od_x32 an_x32:Option Addr} {sl_x32:Array (Option Value)} {oc_x32 kV_x32 dc_x32 pm_x32 cd_x32 ct_x32:Value} {f_law_bent:Addr} {od_x33 an_x33:Option Addr} {sl_x33:Array (Option Value)} {oc_x33 kV_x33 dc_x33 pm_x33 cd_x33 ct_x33:Value} {f_law_count_at:Addr} {od_x34 an_x34:Option Addr} {sl_x34:Array (Option Value)} {oc_x34 kV_x34 dc_x34 pm_x34 cd_x34 ct_x34:Value} {f_law_reader:Addr} {od_x35 an_x35:Option Addr} {sl_x35:Array (Option Value)} {oc_x35 kV_x35 dc_x35 pm_x35 cd_x35 ct_x35:Value} {f_law_told:Addr} {od_x36 an_x36:Option Addr} {sl_x36:Array (Option Value)} {oc_x36 kV_x36 dc_x36 pm_x36 cd_x36 ct_x36:Value} {f_law_due:Addr} {od_x37 an_x37:Option Addr} {sl_x37:Array (Option Value)} {oc_x37 kV_x37 dc_x37 pm_x37 cd_x37 ct_x37:Value} {f_law:Addr} {od_x38 an_x38:Option Addr} {sl_x38:Array (Option Value)} {oc_x38 kV_x38 dc_x38 pm_x38 cd_x38 ct_x38:Value} {tk_MOST_DIGITS:Tok} {tk_MOST_AHEAD:Tok}
  (aC_Source:PySem.W.nsIn K mainGlobals "Source"=some (some (.ref C_Source)))
  (pg_Source:PySem.W.plainGet K C_Source Str.empty=true)
  (hd_Source:PySem.W.hasDictIn K C_Source=true)
  (po_Source:PySem.W.plainOver K C_Source=true)
  (sa_Source:PySem.W.findIn K (.ref C_Source) "__setattr__"=some (some (.builtin "object.__setattr__")))
  (mk_Source:PySem.W.makesIn K C_Source=true)
  (kc_Source:PySem.W.keepIn K (.ref C_Source)=true)
  (n_Source_signs:PySem.W.findIn K (.ref C_Source) "signs"=some none)
  (n_Source_place:PySem.W.findIn K (.ref C_Source) "place"=some none)
  (n_Source_turned:PySem.W.findIn K (.ref C_Source) "turned"=some none)
  (n_Source_endless:PySem.W.findIn K (.ref C_Source) "endless"=some none)
  (n_Source_wished:PySem.W.findIn K (.ref C_Source) "wished"=some none)
  (a_Source_init:PySem.W.findIn K (.ref C_Source) "__init__"=some (some (.ref f_Source_init)))
  (i_Source_init:PySem.W.isFn K (.ref f_Source_init)=true)
  (l_Source_init:K.lookup f_Source_init=some ⟨oc_x0,od_x0,.func (PySem.W.fnOf "__init__" "Source.__init__" (defArgs Yz) (defBody Yz) (defScope Yz) .none kV_x0 dc_x0 pm_x0 an_x0 cd_x0 ct_x0),sl_x0⟩)
  (c_Source_init:PySem.W.codeIn K cd_x0 "Source.__init__"=true)
  (k_Source_init:PySem.W.keepIn K (.ref f_Source_init)=true)
  (a_Source_draw:PySem.W.findIn K (.ref C_Source) "draw"=some (some (.ref f_Source_draw)))
  (i_Source_draw:PySem.W.isFn K (.ref f_Source_draw)=true)
  (l_Source_draw:K.lookup f_Source_draw=some ⟨oc_x1,od_x1,.func (PySem.W.fnOf "draw" "Source.draw" (defArgs Yq) (defBody Yq) (defScope Yq) .none kV_x1 dc_x1 pm_x1 an_x1 cd_x1 ct_x1),sl_x1⟩)
  (c_Source_draw:PySem.W.codeIn K cd_x1 "Source.draw"=true)
  (k_Source_draw:PySem.W.keepIn K (.ref f_Source_draw)=true)
  (aC_RiseError:PySem.W.nsIn K mainGlobals "RiseError"=some (some (.ref C_RiseError)))
  (aC_NoFit:PySem.W.nsIn K mainGlobals "NoFit"=some (some (.ref C_NoFit)))
  (aC_Short:PySem.W.nsIn K mainGlobals "Short"=some (some (.ref C_Short)))
  (aC_Wrong:PySem.W.nsIn K mainGlobals "Wrong"=some (some (.ref C_Wrong)))
  (aC_Left:PySem.W.nsIn K mainGlobals "Left"=some (some (.ref C_Left)))
  (aC_NoForm:PySem.W.nsIn K mainGlobals "NoForm"=some (some (.ref C_NoForm)))
  (aC_NoText:PySem.W.nsIn K mainGlobals "NoText"=some (some (.ref C_NoText)))
  (aC_NotAhead:PySem.W.nsIn K mainGlobals "NotAhead"=some (some (.ref C_NotAhead)))
  (aC_BadPage:PySem.W.nsIn K mainGlobals "BadPage"=some (some (.ref C_BadPage)))
  (aC_Twice:PySem.W.nsIn K mainGlobals "Twice"=some (some (.ref C_Twice)))
  (aC_Lacking:PySem.W.nsIn K mainGlobals "Lacking"=some (some (.ref C_Lacking)))
  (xga_RiseError:PySem.W.findIn K (.ref C_RiseError) "__getattribute__"=some (some (.builtin "BaseException.__getattribute__")))
  (xgt_RiseError:PySem.W.findIn K (.ref C_RiseError) "__getattr__"=some none)
  (xcl_RiseError:PySem.W.findIn K (.ref C_RiseError) "__class__"=some (some (.builtin "object.__class__")))
  (xob_RiseError:PySem.W.mroIn K C_RiseError (.type "object")=some true)
  (xbe_RiseError:PySem.W.mroIn K C_RiseError (.type "BaseException")=some true)
  (xis_RiseError:PySem.W.isClsIn K C_RiseError=true)
  (xhn_RiseError:PySem.W.specialIn K (.builtin "object.__class__") "__get__"=some (some (.builtin "getset_descriptor.__get__")))
  (xtk_RiseError:PySem.W.takesIn K (.builtin "object.__class__")=some true)
  (xt_RiseError:PySem.W.typeIn K (.ref C_RiseError)=some (.type "type"))
  (xga_BadPage:PySem.W.findIn K (.ref C_BadPage) "__getattribute__"=some (some (.builtin "BaseException.__getattribute__")))
  (xgt_BadPage:PySem.W.findIn K (.ref C_BadPage) "__getattr__"=some none)
  (xcl_BadPage:PySem.W.findIn K (.ref C_BadPage) "__class__"=some (some (.builtin "object.__class__")))
  (xob_BadPage:PySem.W.mroIn K C_BadPage (.type "object")=some true)
  (xbe_BadPage:PySem.W.mroIn K C_BadPage (.type "BaseException")=some true)
  (xis_BadPage:PySem.W.isClsIn K C_BadPage=true)
  (xhn_BadPage:PySem.W.specialIn K (.builtin "object.__class__") "__get__"=some (some (.builtin "getset_descriptor.__get__")))
  (xtk_BadPage:PySem.W.takesIn K (.builtin "object.__class__")=some true)
  (xt_BadPage:PySem.W.typeIn K (.ref C_BadPage)=some (.type "type"))
  (xga_Short:PySem.W.findIn K (.ref C_Short) "__getattribute__"=some (some (.builtin "BaseException.__getattribute__")))
  (xgt_Short:PySem.W.findIn K (.ref C_Short) "__getattr__"=some none)
  (xcl_Short:PySem.W.findIn K (.ref C_Short) "__class__"=some (some (.builtin "object.__class__")))
  (xob_Short:PySem.W.mroIn K C_Short (.type "object")=some true)
  (xbe_Short:PySem.W.mroIn K C_Short (.type "BaseException")=some true)
  (xis_Short:PySem.W.isClsIn K C_Short=true)
  (xhn_Short:PySem.W.specialIn K (.builtin "object.__class__") "__get__"=some (some (.builtin "getset_descriptor.__get__")))
  (xtk_Short:PySem.W.takesIn K (.builtin "object.__class__")=some true)
  (xt_Short:PySem.W.typeIn K (.ref C_Short)=some (.type "type"))
  (xga_Twice:PySem.W.findIn K (.ref C_Twice) "__getattribute__"=some (some (.builtin "BaseException.__getattribute__")))
  (xgt_Twice:PySem.W.findIn K (.ref C_Twice) "__getattr__"=some none)
  (xcl_Twice:PySem.W.findIn K (.ref C_Twice) "__class__"=some (some (.builtin "object.__class__")))
  (xob_Twice:PySem.W.mroIn K C_Twice (.type "object")=some true)
  (xbe_Twice:PySem.W.mroIn K C_Twice (.type "BaseException")=some true)
  (xis_Twice:PySem.W.isClsIn K C_Twice=true)
  (xhn_Twice:PySem.W.specialIn K (.builtin "object.__class__") "__get__"=some (some (.builtin "getset_descriptor.__get__")))
  (xtk_Twice:PySem.W.takesIn K (.builtin "object.__class__")=some true)
  (xt_Twice:PySem.W.typeIn K (.ref C_Twice)=some (.type "type"))
  (xga_Lacking:PySem.W.findIn K (.ref C_Lacking) "__getattribute__"=some (some (.builtin "BaseException.__getattribute__")))
  (xgt_Lacking:PySem.W.findIn K (.ref C_Lacking) "__getattr__"=some none)
  (xcl_Lacking:PySem.W.findIn K (.ref C_Lacking) "__class__"=some (some (.builtin "object.__class__")))
  (xob_Lacking:PySem.W.mroIn K C_Lacking (.type "object")=some true)
  (xbe_Lacking:PySem.W.mroIn K C_Lacking (.type "BaseException")=some true)
  (xis_Lacking:PySem.W.isClsIn K C_Lacking=true)
  (xhn_Lacking:PySem.W.specialIn K (.builtin "object.__class__") "__get__"=some (some (.builtin "getset_descriptor.__get__")))
  (xtk_Lacking:PySem.W.takesIn K (.builtin "object.__class__")=some true)
  (xt_Lacking:PySem.W.typeIn K (.ref C_Lacking)=some (.type "type"))
  (bg_RiseError:PySem.W.specialIn K (.ref C_RiseError) "__getattribute__"=some (some (.builtin "type.__getattribute__")))
  (br_RiseError:PySem.W.readsIn K C_RiseError (.type "type")=true)
  (bf_RiseError:PySem.W.findCls K (.ref C_RiseError) (.type "type") "__init__"=some (.val (.builtin "ValueError.__init__")))
  (a_Short_init:PySem.W.findIn K (.ref C_Short) "__init__"=some (some (.ref f_Short_init)))
  (l_Short_init:K.lookup f_Short_init=some ⟨oc_x2,od_x2,.func (PySem.W.fnOf "__init__" "Short.__init__" (defArgs Wo) (defBody Wo) (defScope Wo) .none kV_x2 dc_x2 pm_x2 an_x2 cd_x2 ct_x2),sl_x2⟩)
  (c_Short_init:PySem.W.codeIn K cd_x2 "Short.__init__"=true)
  (k_Short_init:PySem.W.keepIn K (.ref f_Short_init)=true)
  (tf_Short_init:PySem.W.typeIn K (.ref f_Short_init)=some (.type "function"))
  (kc_Short:PySem.W.keepIn K (.ref C_Short)=true)
  (sa_Short:PySem.W.findIn K (.ref C_Short) "__setattr__"=some (some (.builtin "object.__setattr__")))
  (hd_Short:PySem.W.hasDictIn K C_Short=true)
  (tp_Short:PySem.W.takerIn K C_Short "place"=some none)
  (nf_Short:PySem.W.findIn K (.ref C_Short) "place"=some none)
  (xj_Short:excInI K C_Short f_Short_init=true)
  (ov_Short:(PySem.W.clsIn K C_Short).any (fun cd=>overV cd.mro)=true)
  (xi_BadPage:PySem.W.excIn K C_BadPage bmV "ValueError.__new__"=true)
  (xi_Twice:PySem.W.excIn K C_Twice bmV "ValueError.__new__"=true)
  (xi_Lacking:PySem.W.excIn K C_Lacking bmV "ValueError.__new__"=true)
  (kt_BadPage_RiseError:PySem.W.kitOne K (.ref C_BadPage) (.ref C_RiseError)=some true)
  (kt_BadPage_NoFit:PySem.W.kitOne K (.ref C_BadPage) (.ref C_NoFit)=some false)
  (kt_BadPage_Short:PySem.W.kitOne K (.ref C_BadPage) (.ref C_Short)=some false)
  (kt_BadPage_Wrong:PySem.W.kitOne K (.ref C_BadPage) (.ref C_Wrong)=some false)
  (kt_BadPage_Left:PySem.W.kitOne K (.ref C_BadPage) (.ref C_Left)=some false)
  (kt_BadPage_NoForm:PySem.W.kitOne K (.ref C_BadPage) (.ref C_NoForm)=some false)
  (kt_BadPage_NoText:PySem.W.kitOne K (.ref C_BadPage) (.ref C_NoText)=some false)
  (kt_BadPage_NotAhead:PySem.W.kitOne K (.ref C_BadPage) (.ref C_NotAhead)=some false)
  (kt_BadPage_Twice:PySem.W.kitOne K (.ref C_BadPage) (.ref C_Twice)=some false)
  (kt_BadPage_Lacking:PySem.W.kitOne K (.ref C_BadPage) (.ref C_Lacking)=some false)
  (kt_BadPage_ValueError:PySem.W.kitOne K (.ref C_BadPage) (.type "ValueError")=some true)
  (nr_BadPage_Short:PySem.W.mroIn K C_BadPage (.ref C_Short)=some false)
  (mr_BadPage_BadPage:PySem.W.mroIn K C_BadPage (.ref C_BadPage)=some true)
  (mr_Short_Short:PySem.W.mroIn K C_Short (.ref C_Short)=some true)
  (a_lower_digits:PySem.W.nsIn K mainGlobals "lower_digits"=some (some (.ref f_lower_digits)))
  (l_lower_digits:K.lookup f_lower_digits=some ⟨oc_x3,od_x3,.func (PySem.W.fnOf "lower_digits" "lower_digits" (defArgs Xr) (defBody Xr) (defScope Xr) .none kV_x3 dc_x3 pm_x3 an_x3 cd_x3 ct_x3),sl_x3⟩)
  (c_lower_digits:PySem.W.codeIn K cd_x3 "lower_digits"=true)
  (k_lower_digits:PySem.W.keepIn K (.ref f_lower_digits)=true)
  (a_is_count:PySem.W.nsIn K mainGlobals "is_count"=some (some (.ref f_is_count)))
  (l_is_count:K.lookup f_is_count=some ⟨oc_x4,od_x4,.func (PySem.W.fnOf "is_count" "is_count" (defArgs Wh) (defBody Wh) (defScope Wh) .none kV_x4 dc_x4 pm_x4 an_x4 cd_x4 ct_x4),sl_x4⟩)
  (c_is_count:PySem.W.codeIn K cd_x4 "is_count"=true)
  (k_is_count:PySem.W.keepIn K (.ref f_is_count)=true)
  (a_count_row:PySem.W.nsIn K mainGlobals "count_row"=some (some (.ref f_count_row)))
  (l_count_row:K.lookup f_count_row=some ⟨oc_x5,od_x5,.func (PySem.W.fnOf "count_row" "count_row" (defArgs Yw) (defBody Yw) (defScope Yw) .none kV_x5 dc_x5 pm_x5 an_x5 cd_x5 ct_x5),sl_x5⟩)
  (c_count_row:PySem.W.codeIn K cd_x5 "count_row"=true)
  (k_count_row:PySem.W.keepIn K (.ref f_count_row)=true)
  (a_draw_lower_digits:PySem.W.nsIn K mainGlobals "draw_lower_digits"=some (some (.ref f_draw_lower_digits)))
  (l_draw_lower_digits:K.lookup f_draw_lower_digits=some ⟨oc_x6,od_x6,.func (PySem.W.fnOf "draw_lower_digits" "draw_lower_digits" (defArgs Zx) (defBody Zx) (defScope Zx) .none kV_x6 dc_x6 pm_x6 an_x6 cd_x6 ct_x6),sl_x6⟩)
  (c_draw_lower_digits:PySem.W.codeIn K cd_x6 "draw_lower_digits"=true)
  (k_draw_lower_digits:PySem.W.keepIn K (.ref f_draw_lower_digits)=true)
  (a_draw_count:PySem.W.nsIn K mainGlobals "draw_count"=some (some (.ref f_draw_count)))
  (l_draw_count:K.lookup f_draw_count=some ⟨oc_x7,od_x7,.func (PySem.W.fnOf "draw_count" "draw_count" (defArgs Ya) (defBody Ya) (defScope Ya) .none kV_x7 dc_x7 pm_x7 an_x7 cd_x7 ct_x7),sl_x7⟩)
  (c_draw_count:PySem.W.codeIn K cd_x7 "draw_count"=true)
  (k_draw_count:PySem.W.keepIn K (.ref f_draw_count)=true)
  (a_read_count:PySem.W.nsIn K mainGlobals "read_count"=some (some (.ref f_read_count)))
  (l_read_count:K.lookup f_read_count=some ⟨oc_x8,od_x8,.func (PySem.W.fnOf "read_count" "read_count" (defArgs Xz) (defBody Xz) (defScope Xz) .none kV_x8 dc_x8 pm_x8 an_x8 cd_x8 ct_x8),sl_x8⟩)
  (c_read_count:PySem.W.codeIn K cd_x8 "read_count"=true)
  (k_read_count:PySem.W.keepIn K (.ref f_read_count)=true)
  (a_first_unlike:PySem.W.nsIn K mainGlobals "first_unlike"=some (some (.ref f_first_unlike)))
  (l_first_unlike:K.lookup f_first_unlike=some ⟨oc_x9,od_x9,.func (PySem.W.fnOf "first_unlike" "first_unlike" (defArgs Xu) (defBody Xu) (defScope Xu) .none kV_x9 dc_x9 pm_x9 an_x9 cd_x9 ct_x9),sl_x9⟩)
  (c_first_unlike:PySem.W.codeIn K cd_x9 "first_unlike"=true)
  (k_first_unlike:PySem.W.keepIn K (.ref f_first_unlike)=true)
  (a_shared_signs:PySem.W.nsIn K mainGlobals "shared_signs"=some (some (.ref f_shared_signs)))
  (l_shared_signs:K.lookup f_shared_signs=some ⟨oc_x10,od_x10,.func (PySem.W.fnOf "shared_signs" "shared_signs" (defArgs Xq) (defBody Xq) (defScope Xq) .none kV_x10 dc_x10 pm_x10 an_x10 cd_x10 ct_x10),sl_x10⟩)
  (c_shared_signs:PySem.W.codeIn K cd_x10 "shared_signs"=true)
  (k_shared_signs:PySem.W.keepIn K (.ref f_shared_signs)=true)
  (a_ascend:PySem.W.nsIn K mainGlobals "ascend"=some (some (.ref f_ascend)))
  (l_ascend:K.lookup f_ascend=some ⟨oc_x11,od_x11,.func (PySem.W.fnOf "ascend" "ascend" (defArgs Jg) (defBody Jg) (defScope Jg) .none kV_x11 dc_x11 pm_x11 an_x11 cd_x11 ct_x11),sl_x11⟩)
  (c_ascend:PySem.W.codeIn K cd_x11 "ascend"=true)
  (k_ascend:PySem.W.keepIn K (.ref f_ascend)=true)
  (a_entry_of:PySem.W.nsIn K mainGlobals "entry_of"=some (some (.ref f_entry_of)))
  (l_entry_of:K.lookup f_entry_of=some ⟨oc_x12,od_x12,.func (PySem.W.fnOf "entry_of" "entry_of" (defArgs Wi) (defBody Wi) (defScope Wi) .none kV_x12 dc_x12 pm_x12 an_x12 cd_x12 ct_x12),sl_x12⟩)
  (c_entry_of:PySem.W.codeIn K cd_x12 "entry_of"=true)
  (k_entry_of:PySem.W.keepIn K (.ref f_entry_of)=true)
  (a_page_of:PySem.W.nsIn K mainGlobals "page_of"=some (some (.ref f_page_of)))
  (l_page_of:K.lookup f_page_of=some ⟨oc_x13,od_x13,.func (PySem.W.fnOf "page_of" "page_of" (defArgs Wv) (defBody Wv) (defScope Wv) .none kV_x13 dc_x13 pm_x13 an_x13 cd_x13 ct_x13),sl_x13⟩)
  (c_page_of:PySem.W.codeIn K cd_x13 "page_of"=true)
  (k_page_of:PySem.W.keepIn K (.ref f_page_of)=true)
  (a_may_follow:PySem.W.nsIn K mainGlobals "may_follow"=some (some (.ref f_may_follow)))
  (l_may_follow:K.lookup f_may_follow=some ⟨oc_x14,od_x14,.func (PySem.W.fnOf "may_follow" "may_follow" (defArgs Yj) (defBody Yj) (defScope Yj) .none kV_x14 dc_x14 pm_x14 an_x14 cd_x14 ct_x14),sl_x14⟩)
  (c_may_follow:PySem.W.codeIn K cd_x14 "may_follow"=true)
  (k_may_follow:PySem.W.keepIn K (.ref f_may_follow)=true)
  (a_read_entry:PySem.W.nsIn K mainGlobals "read_entry"=some (some (.ref f_read_entry)))
  (l_read_entry:K.lookup f_read_entry=some ⟨oc_x15,od_x15,.func (PySem.W.fnOf "read_entry" "read_entry" (defArgs Xy) (defBody Xy) (defScope Xy) .none kV_x15 dc_x15 pm_x15 an_x15 cd_x15 ct_x15),sl_x15⟩)
  (c_read_entry:PySem.W.codeIn K cd_x15 "read_entry"=true)
  (k_read_entry:PySem.W.keepIn K (.ref f_read_entry)=true)
  (a_read_rows:PySem.W.nsIn K mainGlobals "read_rows"=some (some (.ref f_read_rows)))
  (l_read_rows:K.lookup f_read_rows=some ⟨oc_x16,od_x16,.func (PySem.W.fnOf "read_rows" "read_rows" (defArgs Yh) (defBody Yh) (defScope Yh) .none kV_x16 dc_x16 pm_x16 an_x16 cd_x16 ct_x16),sl_x16⟩)
  (c_read_rows:PySem.W.codeIn K cd_x16 "read_rows"=true)
  (k_read_rows:PySem.W.keepIn K (.ref f_read_rows)=true)
  (a_rows_of:PySem.W.nsIn K mainGlobals "rows_of"=some (some (.ref f_rows_of)))
  (l_rows_of:K.lookup f_rows_of=some ⟨oc_x17,od_x17,.func (PySem.W.fnOf "rows_of" "rows_of" (defArgs Wn) (defBody Wn) (defScope Wn) .none kV_x17 dc_x17 pm_x17 an_x17 cd_x17 ct_x17),sl_x17⟩)
  (c_rows_of:PySem.W.codeIn K cd_x17 "rows_of"=true)
  (k_rows_of:PySem.W.keepIn K (.ref f_rows_of)=true)
  (a_place_in:PySem.W.nsIn K mainGlobals "place_in"=some (some (.ref f_place_in)))
  (l_place_in:K.lookup f_place_in=some ⟨oc_x18,od_x18,.func (PySem.W.fnOf "place_in" "place_in" (defArgs Yx) (defBody Yx) (defScope Yx) .none kV_x18 dc_x18 pm_x18 an_x18 cd_x18 ct_x18),sl_x18⟩)
  (c_place_in:PySem.W.codeIn K cd_x18 "place_in"=true)
  (k_place_in:PySem.W.keepIn K (.ref f_place_in)=true)
  (a_page_with:PySem.W.nsIn K mainGlobals "page_with"=some (some (.ref f_page_with)))
  (l_page_with:K.lookup f_page_with=some ⟨oc_x19,od_x19,.func (PySem.W.fnOf "page_with" "page_with" (defArgs Yi) (defBody Yi) (defScope Yi) .none kV_x19 dc_x19 pm_x19 an_x19 cd_x19 ct_x19),sl_x19⟩)
  (c_page_with:PySem.W.codeIn K cd_x19 "page_with"=true)
  (k_page_with:PySem.W.keepIn K (.ref f_page_with)=true)
  (a_page_without:PySem.W.nsIn K mainGlobals "page_without"=some (some (.ref f_page_without)))
  (l_page_without:K.lookup f_page_without=some ⟨oc_x20,od_x20,.func (PySem.W.fnOf "page_without" "page_without" (defArgs Xm) (defBody Xm) (defScope Xm) .none kV_x20 dc_x20 pm_x20 an_x20 cd_x20 ct_x20),sl_x20⟩)
  (c_page_without:PySem.W.codeIn K cd_x20 "page_without"=true)
  (k_page_without:PySem.W.keepIn K (.ref f_page_without)=true)
  (a_poured:PySem.W.nsIn K mainGlobals "poured"=some (some (.ref f_poured)))
  (l_poured:K.lookup f_poured=some ⟨oc_x21,od_x21,.func (PySem.W.fnOf "poured" "poured" (defArgs Wz) (defBody Wz) (defScope Wz) .none kV_x21 dc_x21 pm_x21 an_x21 cd_x21 ct_x21),sl_x21⟩)
  (c_poured:PySem.W.codeIn K cd_x21 "poured"=true)
  (k_poured:PySem.W.keepIn K (.ref f_poured)=true)
  (a_law_cell_at:PySem.W.nsIn K mainGlobals "_law_cell_at"=some (some (.ref f_law_cell_at)))
  (l_law_cell_at:K.lookup f_law_cell_at=some ⟨oc_x22,od_x22,.func (PySem.W.fnOf "_law_cell_at" "_law_cell_at" (defArgs Yc) (defBody Yc) (defScope Yc) .none kV_x22 dc_x22 pm_x22 an_x22 cd_x22 ct_x22),sl_x22⟩)
  (c_law_cell_at:PySem.W.codeIn K cd_x22 "_law_cell_at"=true)
  (k_law_cell_at:PySem.W.keepIn K (.ref f_law_cell_at)=true)
  (a_law_mixed:PySem.W.nsIn K mainGlobals "_law_mixed"=some (some (.ref f_law_mixed)))
  (l_law_mixed:K.lookup f_law_mixed=some ⟨oc_x23,od_x23,.func (PySem.W.fnOf "_law_mixed" "_law_mixed" (defArgs Ys) (defBody Ys) (defScope Ys) .none kV_x23 dc_x23 pm_x23 an_x23 cd_x23 ct_x23),sl_x23⟩)
  (c_law_mixed:PySem.W.codeIn K cd_x23 "_law_mixed"=true)
  (k_law_mixed:PySem.W.keepIn K (.ref f_law_mixed)=true)
  (a_law_free_row:PySem.W.nsIn K mainGlobals "_law_free_row"=some (some (.ref f_law_free_row)))
  (l_law_free_row:K.lookup f_law_free_row=some ⟨oc_x24,od_x24,.func (PySem.W.fnOf "_law_free_row" "_law_free_row" (defArgs Xs) (defBody Xs) (defScope Xs) .none kV_x24 dc_x24 pm_x24 an_x24 cd_x24 ct_x24),sl_x24⟩)
  (c_law_free_row:PySem.W.codeIn K cd_x24 "_law_free_row"=true)
  (k_law_free_row:PySem.W.keepIn K (.ref f_law_free_row)=true)
  (a_law_rows:PySem.W.nsIn K mainGlobals "_law_rows"=some (some (.ref f_law_rows)))
  (l_law_rows:K.lookup f_law_rows=some ⟨oc_x25,od_x25,.func (PySem.W.fnOf "_law_rows" "_law_rows" (defArgs We) (defBody We) (defScope We) .none kV_x25 dc_x25 pm_x25 an_x25 cd_x25 ct_x25),sl_x25⟩)
  (c_law_rows:PySem.W.codeIn K cd_x25 "_law_rows"=true)
  (k_law_rows:PySem.W.keepIn K (.ref f_law_rows)=true)
  (a_law_digits:PySem.W.nsIn K mainGlobals "_law_digits"=some (some (.ref f_law_digits)))
  (l_law_digits:K.lookup f_law_digits=some ⟨oc_x26,od_x26,.func (PySem.W.fnOf "_law_digits" "_law_digits" (defArgs Yl) (defBody Yl) (defScope Yl) .none kV_x26 dc_x26 pm_x26 an_x26 cd_x26 ct_x26),sl_x26⟩)
  (c_law_digits:PySem.W.codeIn K cd_x26 "_law_digits"=true)
  (k_law_digits:PySem.W.keepIn K (.ref f_law_digits)=true)
  (a_law_count:PySem.W.nsIn K mainGlobals "_law_count"=some (some (.ref f_law_count)))
  (l_law_count:K.lookup f_law_count=some ⟨oc_x27,od_x27,.func (PySem.W.fnOf "_law_count" "_law_count" (defArgs Yu) (defBody Yu) (defScope Yu) .none kV_x27 dc_x27 pm_x27 an_x27 cd_x27 ct_x27),sl_x27⟩)
  (c_law_count:PySem.W.codeIn K cd_x27 "_law_count"=true)
  (k_law_count:PySem.W.keepIn K (.ref f_law_count)=true)
  (a_law_common:PySem.W.nsIn K mainGlobals "_law_common"=some (some (.ref f_law_common)))
  (l_law_common:K.lookup f_law_common=some ⟨oc_x28,od_x28,.func (PySem.W.fnOf "_law_common" "_law_common" (defArgs Ym) (defBody Ym) (defScope Ym) .none kV_x28 dc_x28 pm_x28 an_x28 cd_x28 ct_x28),sl_x28⟩)
  (c_law_common:PySem.W.codeIn K cd_x28 "_law_common"=true)
  (k_law_common:PySem.W.keepIn K (.ref f_law_common)=true)
  (a_law_page:PySem.W.nsIn K mainGlobals "_law_page"=some (some (.ref f_law_page)))
  (l_law_page:K.lookup f_law_page=some ⟨oc_x29,od_x29,.func (PySem.W.fnOf "_law_page" "_law_page" (defArgs Wf) (defBody Wf) (defScope Wf) .none kV_x29 dc_x29 pm_x29 an_x29 cd_x29 ct_x29),sl_x29⟩)
  (c_law_page:PySem.W.codeIn K cd_x29 "_law_page"=true)
  (k_law_page:PySem.W.keepIn K (.ref f_law_page)=true)
  (a_law_alone:PySem.W.nsIn K mainGlobals "_law_alone"=some (some (.ref f_law_alone)))
  (l_law_alone:K.lookup f_law_alone=some ⟨oc_x30,od_x30,.func (PySem.W.fnOf "_law_alone" "_law_alone" (defArgs Yv) (defBody Yv) (defScope Yv) .none kV_x30 dc_x30 pm_x30 an_x30 cd_x30 ct_x30),sl_x30⟩)
  (c_law_alone:PySem.W.codeIn K cd_x30 "_law_alone"=true)
  (k_law_alone:PySem.W.keepIn K (.ref f_law_alone)=true)
  (a_law_loose:PySem.W.nsIn K mainGlobals "_law_loose"=some (some (.ref f_law_loose)))
  (l_law_loose:K.lookup f_law_loose=some ⟨oc_x31,od_x31,.func (PySem.W.fnOf "_law_loose" "_law_loose" (defArgs Yt) (defBody Yt) (defScope Yt) .none kV_x31 dc_x31 pm_x31 an_x31 cd_x31 ct_x31),sl_x31⟩)
  (c_law_loose:PySem.W.codeIn K cd_x31 "_law_loose"=true)
  (k_law_loose:PySem.W.keepIn K (.ref f_law_loose)=true)
  (a_law_counted:PySem.W.nsIn K mainGlobals "_law_counted"=some (some (.ref f_law_counted)))
  (l_law_counted:K.lookup f_law_counted=some ⟨oc_x32,od_x32,.func (PySem.W.fnOf "_law_counted" "_law_counted" (defArgs Yb) (defBody Yb) (defScope Yb) .none kV_x32 dc_x32 pm_x32 an_x32 cd_x32 ct_x32),sl_x32⟩)
  (c_law_counted:PySem.W.codeIn K cd_x32 "_law_counted"=true)
  (k_law_counted:PySem.W.keepIn K (.ref f_law_counted)=true)
  (a_law_bent:PySem.W.nsIn K mainGlobals "_law_bent"=some (some (.ref f_law_bent)))
  (l_law_bent:K.lookup f_law_bent=some ⟨oc_x33,od_x33,.func (PySem.W.fnOf "_law_bent" "_law_bent" (defArgs Wg) (defBody Wg) (defScope Wg) .none kV_x33 dc_x33 pm_x33 an_x33 cd_x33 ct_x33),sl_x33⟩)
  (c_law_bent:PySem.W.codeIn K cd_x33 "_law_bent"=true)
  (k_law_bent:PySem.W.keepIn K (.ref f_law_bent)=true)
  (a_law_count_at:PySem.W.nsIn K mainGlobals "_law_count_at"=some (some (.ref f_law_count_at)))
  (l_law_count_at:K.lookup f_law_count_at=some ⟨oc_x34,od_x34,.func (PySem.W.fnOf "_law_count_at" "_law_count_at" (defArgs Xt) (defBody Xt) (defScope Xt) .none kV_x34 dc_x34 pm_x34 an_x34 cd_x34 ct_x34),sl_x34⟩)
  (c_law_count_at:PySem.W.codeIn K cd_x34 "_law_count_at"=true)
  (k_law_count_at:PySem.W.keepIn K (.ref f_law_count_at)=true)
  (a_law_reader:PySem.W.nsIn K mainGlobals "_law_reader"=some (some (.ref f_law_reader)))
  (l_law_reader:K.lookup f_law_reader=some ⟨oc_x35,od_x35,.func (PySem.W.fnOf "_law_reader" "_law_reader" (defArgs Yk) (defBody Yk) (defScope Yk) .none kV_x35 dc_x35 pm_x35 an_x35 cd_x35 ct_x35),sl_x35⟩)
  (c_law_reader:PySem.W.codeIn K cd_x35 "_law_reader"=true)
  (k_law_reader:PySem.W.keepIn K (.ref f_law_reader)=true)
  (a_law_told:PySem.W.nsIn K mainGlobals "_law_told"=some (some (.ref f_law_told)))
  (l_law_told:K.lookup f_law_told=some ⟨oc_x36,od_x36,.func (PySem.W.fnOf "_law_told" "_law_told" (defArgs Wd) (defBody Wd) (defScope Wd) .none kV_x36 dc_x36 pm_x36 an_x36 cd_x36 ct_x36),sl_x36⟩)
  (c_law_told:PySem.W.codeIn K cd_x36 "_law_told"=true)
  (k_law_told:PySem.W.keepIn K (.ref f_law_told)=true)
  (a_law_due:PySem.W.nsIn K mainGlobals "_law_due"=some (some (.ref f_law_due)))
  (l_law_due:K.lookup f_law_due=some ⟨oc_x37,od_x37,.func (PySem.W.fnOf "_law_due" "_law_due" (defArgs Ww) (defBody Ww) (defScope Ww) .none kV_x37 dc_x37 pm_x37 an_x37 cd_x37 ct_x37),sl_x37⟩)
  (c_law_due:PySem.W.codeIn K cd_x37 "_law_due"=true)
  (k_law_due:PySem.W.keepIn K (.ref f_law_due)=true)
  (a_law:PySem.W.nsIn K mainGlobals "law"=some (some (.ref f_law)))
  (l_law:K.lookup f_law=some ⟨oc_x38,od_x38,.func (PySem.W.fnOf "law" "law" (defArgs Zdh) (defBody Zdh) (defScope Zdh) .none kV_x38 dc_x38 pm_x38 an_x38 cd_x38 ct_x38),sl_x38⟩)
  (c_law:PySem.W.codeIn K cd_x38 "law"=true)
  (k_law:PySem.W.keepIn K (.ref f_law)=true)
  (z_len:PySem.W.nsIn K mainGlobals "len"=some none)
  (z_range:PySem.W.nsIn K mainGlobals "range"=some none)
  (z_int:PySem.W.nsIn K mainGlobals "int"=some none)
  (z_isinstance:PySem.W.nsIn K mainGlobals "isinstance"=some none)
  (z_min:PySem.W.nsIn K mainGlobals "min"=some none)
  (z_max:PySem.W.nsIn K mainGlobals "max"=some none)
  (z_all:PySem.W.nsIn K mainGlobals "all"=some none)
  (z_zip:PySem.W.nsIn K mainGlobals "zip"=some none)
  (z_set:PySem.W.nsIn K mainGlobals "set"=some none)
  (z_sorted:PySem.W.nsIn K mainGlobals "sorted"=some none)
  (z_ValueError:PySem.W.nsIn K mainGlobals "ValueError"=some none)
  (g0_MOST_DIGITS:PySem.W.nsIn K mainGlobals "MOST_DIGITS"=some (some (.int 255 tk_MOST_DIGITS)))
  (g0_MOST_AHEAD:PySem.W.nsIn K mainGlobals "MOST_AHEAD"=some (some (.int 7 tk_MOST_AHEAD)))
  : ∃ fd:FuncData,(∀ (s:Shared) (v:Value),BindsTo s fd ⟨[v],[]⟩ [("_law_script",v)])∧∀ base:Heap,K.In base→base.Ns mainGlobals mg→FnOk l.prog w K mg base CX0 12 fa fd ["_law_script"] (spLaw K):=by
 have e:=hfa.symm.trans (PySem.W.mg_of X G a_law)
 cases e
 have cl_Source:Cls K C_Source:=⟨pg_Source,hd_Source,po_Source,sa_Source⟩
 have m_Source:mg "Source"=some (.ref C_Source):=PySem.W.mg_of X G aC_Source
 have F_Source_init:=Zq (st:=Yz) l_Source_init c_Source_init k_Source_init
 have b_Source_init:=F_Source_init.binds (ps:=["self","signs","at"]) fun _ _ _ _ _ _ us hl=>by obtain ⟨_,_,_,rfl⟩:=ex3 us hl;rfl
 have K_Source:Mk K C_Source f_Source_init:=⟨mk_Source,a_Source_init,i_Source_init,kc_Source⟩
 have F_Source_draw:=Zq (st:=Yq) l_Source_draw c_Source_draw k_Source_draw
 have b_Source_draw:=F_Source_draw.binds (ps:=["self"]) fun _ _ _ _ _ _ us hl=>by obtain ⟨_,rfl⟩:=ex1 us hl;rfl
 have t_Source_draw:Meth K C_Source "draw" f_Source_draw:=⟨a_Source_draw,i_Source_draw,k_Source_draw⟩
 have gm_RiseError:mg "RiseError"=some (.ref C_RiseError):=PySem.W.mg_of X G aC_RiseError
 have gc_RiseError:GlobV mg "RiseError" (.ref C_RiseError):=⟨_,gm_RiseError,rfl⟩
 have gm_NoFit:mg "NoFit"=some (.ref C_NoFit):=PySem.W.mg_of X G aC_NoFit
 have gc_NoFit:GlobV mg "NoFit" (.ref C_NoFit):=⟨_,gm_NoFit,rfl⟩
 have gm_Short:mg "Short"=some (.ref C_Short):=PySem.W.mg_of X G aC_Short
 have gc_Short:GlobV mg "Short" (.ref C_Short):=⟨_,gm_Short,rfl⟩
 have gm_Wrong:mg "Wrong"=some (.ref C_Wrong):=PySem.W.mg_of X G aC_Wrong
 have gc_Wrong:GlobV mg "Wrong" (.ref C_Wrong):=⟨_,gm_Wrong,rfl⟩
 have gm_Left:mg "Left"=some (.ref C_Left):=PySem.W.mg_of X G aC_Left
 have gc_Left:GlobV mg "Left" (.ref C_Left):=⟨_,gm_Left,rfl⟩
 have gm_NoForm:mg "NoForm"=some (.ref C_NoForm):=PySem.W.mg_of X G aC_NoForm
 have gc_NoForm:GlobV mg "NoForm" (.ref C_NoForm):=⟨_,gm_NoForm,rfl⟩
 have gm_NoText:mg "NoText"=some (.ref C_NoText):=PySem.W.mg_of X G aC_NoText
 have gc_NoText:GlobV mg "NoText" (.ref C_NoText):=⟨_,gm_NoText,rfl⟩
 have gm_NotAhead:mg "NotAhead"=some (.ref C_NotAhead):=PySem.W.mg_of X G aC_NotAhead
 have gc_NotAhead:GlobV mg "NotAhead" (.ref C_NotAhead):=⟨_,gm_NotAhead,rfl⟩
 have gm_BadPage:mg "BadPage"=some (.ref C_BadPage):=PySem.W.mg_of X G aC_BadPage
 have gc_BadPage:GlobV mg "BadPage" (.ref C_BadPage):=⟨_,gm_BadPage,rfl⟩
 have gm_Twice:mg "Twice"=some (.ref C_Twice):=PySem.W.mg_of X G aC_Twice
 have gc_Twice:GlobV mg "Twice" (.ref C_Twice):=⟨_,gm_Twice,rfl⟩
 have gm_Lacking:mg "Lacking"=some (.ref C_Lacking):=PySem.W.mg_of X G aC_Lacking
 have gc_Lacking:GlobV mg "Lacking" (.ref C_Lacking):=⟨_,gm_Lacking,rfl⟩
 have xc_RiseError:ExcC K C_RiseError:=⟨xga_RiseError,xgt_RiseError,xcl_RiseError,xob_RiseError,xbe_RiseError,xis_RiseError,xhn_RiseError,xtk_RiseError⟩
 have xc_BadPage:ExcC K C_BadPage:=⟨xga_BadPage,xgt_BadPage,xcl_BadPage,xob_BadPage,xbe_BadPage,xis_BadPage,xhn_BadPage,xtk_BadPage⟩
 have xc_Short:ExcC K C_Short:=⟨xga_Short,xgt_Short,xcl_Short,xob_Short,xbe_Short,xis_Short,xhn_Short,xtk_Short⟩
 have xc_Twice:ExcC K C_Twice:=⟨xga_Twice,xgt_Twice,xcl_Twice,xob_Twice,xbe_Twice,xis_Twice,xhn_Twice,xtk_Twice⟩
 have xc_Lacking:ExcC K C_Lacking:=⟨xga_Lacking,xgt_Lacking,xcl_Lacking,xob_Lacking,xbe_Lacking,xis_Lacking,xhn_Lacking,xtk_Lacking⟩
 have BB_RiseError:Base K mg "RiseError" C_RiseError:=⟨gm_RiseError,bg_RiseError,br_RiseError,bf_RiseError⟩
 have F_Short_init:=Zq (st:=Wo) l_Short_init c_Short_init k_Short_init
 have XB_Short:=F_Short_init.binds (ps:=["self","place"]) fun _ _ _ _ _ _ us hl=>by obtain ⟨_,_,rfl⟩:=ex2 us hl;rfl
 have XM_Short:XMk K mg "Short" C_Short f_Short_init:=⟨xj_Short,tf_Short_init,kc_Short,xbe_Short,xt_Short,gm_Short⟩
 have XS_Short:ExcS K C_Short:={xc_Short with sa:=sa_Short,ov:=ov_Short,hd:=hd_Short}
 have F_lower_digits:FunAt K mg "lower_digits" Xr ["n","width"] f_lower_digits _:=⟨Zq (st:=Xr) l_lower_digits c_lower_digits k_lower_digits,(Zq (st:=Xr) l_lower_digits c_lower_digits k_lower_digits).binds (ps:=["n","width"]) fun _ _ _ _ _ _ us hl=>by obtain ⟨_,_,rfl⟩:=ex2 us hl;rfl,PySem.W.mg_of X G a_lower_digits⟩
 have F_is_count:FunAt K mg "is_count" Wh ["n"] f_is_count _:=⟨Zq (st:=Wh) l_is_count c_is_count k_is_count,(Zq (st:=Wh) l_is_count c_is_count k_is_count).binds (ps:=["n"]) fun _ _ _ _ _ _ us hl=>by obtain ⟨_,rfl⟩:=ex1 us hl;rfl,PySem.W.mg_of X G a_is_count⟩
 have F_count_row:FunAt K mg "count_row" Yw ["n"] f_count_row _:=⟨Zq (st:=Yw) l_count_row c_count_row k_count_row,(Zq (st:=Yw) l_count_row c_count_row k_count_row).binds (ps:=["n"]) fun _ _ _ _ _ _ us hl=>by obtain ⟨_,rfl⟩:=ex1 us hl;rfl,PySem.W.mg_of X G a_count_row⟩
 have F_draw_lower_digits:FunAt K mg "draw_lower_digits" Zx ["source","width"] f_draw_lower_digits _:=⟨Zq (st:=Zx) l_draw_lower_digits c_draw_lower_digits k_draw_lower_digits,(Zq (st:=Zx) l_draw_lower_digits c_draw_lower_digits k_draw_lower_digits).binds (ps:=["source","width"]) fun _ _ _ _ _ _ us hl=>by obtain ⟨_,_,rfl⟩:=ex2 us hl;rfl,PySem.W.mg_of X G a_draw_lower_digits⟩
 have F_draw_count:FunAt K mg "draw_count" Ya ["source"] f_draw_count _:=⟨Zq (st:=Ya) l_draw_count c_draw_count k_draw_count,(Zq (st:=Ya) l_draw_count c_draw_count k_draw_count).binds (ps:=["source"]) fun _ _ _ _ _ _ us hl=>by obtain ⟨_,rfl⟩:=ex1 us hl;rfl,PySem.W.mg_of X G a_draw_count⟩
 have F_read_count:FunAt K mg "read_count" Xz ["signs","at"] f_read_count _:=⟨Zq (st:=Xz) l_read_count c_read_count k_read_count,(Zq (st:=Xz) l_read_count c_read_count k_read_count).binds (ps:=["signs","at"]) fun _ _ _ _ _ _ us hl=>by obtain ⟨_,_,rfl⟩:=ex2 us hl;rfl,PySem.W.mg_of X G a_read_count⟩
 have F_first_unlike:FunAt K mg "first_unlike" Xu ["one","other"] f_first_unlike _:=⟨Zq (st:=Xu) l_first_unlike c_first_unlike k_first_unlike,(Zq (st:=Xu) l_first_unlike c_first_unlike k_first_unlike).binds (ps:=["one","other"]) fun _ _ _ _ _ _ us hl=>by obtain ⟨_,_,rfl⟩:=ex2 us hl;rfl,PySem.W.mg_of X G a_first_unlike⟩
 have F_shared_signs:FunAt K mg "shared_signs" Xq ["one","other"] f_shared_signs _:=⟨Zq (st:=Xq) l_shared_signs c_shared_signs k_shared_signs,(Zq (st:=Xq) l_shared_signs c_shared_signs k_shared_signs).binds (ps:=["one","other"]) fun _ _ _ _ _ _ us hl=>by obtain ⟨_,_,rfl⟩:=ex2 us hl;rfl,PySem.W.mg_of X G a_shared_signs⟩
 have F_ascend:FunAt K mg "ascend" Jg ["rows"] f_ascend _:=⟨Zq (st:=Jg) l_ascend c_ascend k_ascend,(Zq (st:=Jg) l_ascend c_ascend k_ascend).binds (ps:=["rows"]) fun _ _ _ _ _ _ us hl=>by obtain ⟨_,rfl⟩:=ex1 us hl;rfl,PySem.W.mg_of X G a_ascend⟩
 have F_entry_of:FunAt K mg "entry_of" Wi ["ahead","row"] f_entry_of _:=⟨Zq (st:=Wi) l_entry_of c_entry_of k_entry_of,(Zq (st:=Wi) l_entry_of c_entry_of k_entry_of).binds (ps:=["ahead","row"]) fun _ _ _ _ _ _ us hl=>by obtain ⟨_,_,rfl⟩:=ex2 us hl;rfl,PySem.W.mg_of X G a_entry_of⟩
 have F_page_of:FunAt K mg "page_of" Wv ["rows"] f_page_of _:=⟨Zq (st:=Wv) l_page_of c_page_of k_page_of,(Zq (st:=Wv) l_page_of c_page_of k_page_of).binds (ps:=["rows"]) fun _ _ _ _ _ _ us hl=>by obtain ⟨_,rfl⟩:=ex1 us hl;rfl,PySem.W.mg_of X G a_page_of⟩
 have F_may_follow:FunAt K mg "may_follow" Yj ["rows","shared","rest"] f_may_follow _:=⟨Zq (st:=Yj) l_may_follow c_may_follow k_may_follow,(Zq (st:=Yj) l_may_follow c_may_follow k_may_follow).binds (ps:=["rows","shared","rest"]) fun _ _ _ _ _ _ us hl=>by obtain ⟨_,_,_,rfl⟩:=ex3 us hl;rfl,PySem.W.mg_of X G a_may_follow⟩
 have F_read_entry:FunAt K mg "read_entry" Xy ["page","at","rows"] f_read_entry _:=⟨Zq (st:=Xy) l_read_entry c_read_entry k_read_entry,(Zq (st:=Xy) l_read_entry c_read_entry k_read_entry).binds (ps:=["page","at","rows"]) fun _ _ _ _ _ _ us hl=>by obtain ⟨_,_,_,rfl⟩:=ex3 us hl;rfl,PySem.W.mg_of X G a_read_entry⟩
 have F_read_rows:FunAt K mg "read_rows" Yh ["page"] f_read_rows _:=⟨Zq (st:=Yh) l_read_rows c_read_rows k_read_rows,(Zq (st:=Yh) l_read_rows c_read_rows k_read_rows).binds (ps:=["page"]) fun _ _ _ _ _ _ us hl=>by obtain ⟨_,rfl⟩:=ex1 us hl;rfl,PySem.W.mg_of X G a_read_rows⟩
 have F_rows_of:FunAt K mg "rows_of" Wn ["page"] f_rows_of _:=⟨Zq (st:=Wn) l_rows_of c_rows_of k_rows_of,(Zq (st:=Wn) l_rows_of c_rows_of k_rows_of).binds (ps:=["page"]) fun _ _ _ _ _ _ us hl=>by obtain ⟨_,rfl⟩:=ex1 us hl;rfl,PySem.W.mg_of X G a_rows_of⟩
 have F_place_in:FunAt K mg "place_in" Yx ["page","row"] f_place_in _:=⟨Zq (st:=Yx) l_place_in c_place_in k_place_in,(Zq (st:=Yx) l_place_in c_place_in k_place_in).binds (ps:=["page","row"]) fun _ _ _ _ _ _ us hl=>by obtain ⟨_,_,rfl⟩:=ex2 us hl;rfl,PySem.W.mg_of X G a_place_in⟩
 have F_page_with:FunAt K mg "page_with" Yi ["page","row"] f_page_with _:=⟨Zq (st:=Yi) l_page_with c_page_with k_page_with,(Zq (st:=Yi) l_page_with c_page_with k_page_with).binds (ps:=["page","row"]) fun _ _ _ _ _ _ us hl=>by obtain ⟨_,_,rfl⟩:=ex2 us hl;rfl,PySem.W.mg_of X G a_page_with⟩
 have F_page_without:FunAt K mg "page_without" Xm ["page","row"] f_page_without _:=⟨Zq (st:=Xm) l_page_without c_page_without k_page_without,(Zq (st:=Xm) l_page_without c_page_without k_page_without).binds (ps:=["page","row"]) fun _ _ _ _ _ _ us hl=>by obtain ⟨_,_,rfl⟩:=ex2 us hl;rfl,PySem.W.mg_of X G a_page_without⟩
 have F_poured:FunAt K mg "poured" Wz ["one","other"] f_poured _:=⟨Zq (st:=Wz) l_poured c_poured k_poured,(Zq (st:=Wz) l_poured c_poured k_poured).binds (ps:=["one","other"]) fun _ _ _ _ _ _ us hl=>by obtain ⟨_,_,rfl⟩:=ex2 us hl;rfl,PySem.W.mg_of X G a_poured⟩
 have F_law_cell_at:FunAt K mg "_law_cell_at" Yc ["_law_script","_law_k"] f_law_cell_at _:=⟨Zq (st:=Yc) l_law_cell_at c_law_cell_at k_law_cell_at,(Zq (st:=Yc) l_law_cell_at c_law_cell_at k_law_cell_at).binds (ps:=["_law_script","_law_k"]) fun _ _ _ _ _ _ us hl=>by obtain ⟨_,_,rfl⟩:=ex2 us hl;rfl,PySem.W.mg_of X G a_law_cell_at⟩
 have F_law_mixed:FunAt K mg "_law_mixed" Ys ["_law_cell","_law_k"] f_law_mixed _:=⟨Zq (st:=Ys) l_law_mixed c_law_mixed k_law_mixed,(Zq (st:=Ys) l_law_mixed c_law_mixed k_law_mixed).binds (ps:=["_law_cell","_law_k"]) fun _ _ _ _ _ _ us hl=>by obtain ⟨_,_,rfl⟩:=ex2 us hl;rfl,PySem.W.mg_of X G a_law_mixed⟩
 have F_law_free_row:FunAt K mg "_law_free_row" Xs ["_law_rest","_law_most"] f_law_free_row _:=⟨Zq (st:=Xs) l_law_free_row c_law_free_row k_law_free_row,(Zq (st:=Xs) l_law_free_row c_law_free_row k_law_free_row).binds (ps:=["_law_rest","_law_most"]) fun _ _ _ _ _ _ us hl=>by obtain ⟨_,_,rfl⟩:=ex2 us hl;rfl,PySem.W.mg_of X G a_law_free_row⟩
 have F_law_rows:FunAt K mg "_law_rows" We ["_law_script","_law_most"] f_law_rows _:=⟨Zq (st:=We) l_law_rows c_law_rows k_law_rows,(Zq (st:=We) l_law_rows c_law_rows k_law_rows).binds (ps:=["_law_script","_law_most"]) fun _ _ _ _ _ _ us hl=>by obtain ⟨_,_,rfl⟩:=ex2 us hl;rfl,PySem.W.mg_of X G a_law_rows⟩
 have F_law_digits:FunAt K mg "_law_digits" Yl ["_law_number"] f_law_digits _:=⟨Zq (st:=Yl) l_law_digits c_law_digits k_law_digits,(Zq (st:=Yl) l_law_digits c_law_digits k_law_digits).binds (ps:=["_law_number"]) fun _ _ _ _ _ _ us hl=>by obtain ⟨_,rfl⟩:=ex1 us hl;rfl,PySem.W.mg_of X G a_law_digits⟩
 have F_law_count:FunAt K mg "_law_count" Yu ["_law_n"] f_law_count _:=⟨Zq (st:=Yu) l_law_count c_law_count k_law_count,(Zq (st:=Yu) l_law_count c_law_count k_law_count).binds (ps:=["_law_n"]) fun _ _ _ _ _ _ us hl=>by obtain ⟨_,rfl⟩:=ex1 us hl;rfl,PySem.W.mg_of X G a_law_count⟩
 have F_law_common:FunAt K mg "_law_common" Ym ["_law_one","_law_other"] f_law_common _:=⟨Zq (st:=Ym) l_law_common c_law_common k_law_common,(Zq (st:=Ym) l_law_common c_law_common k_law_common).binds (ps:=["_law_one","_law_other"]) fun _ _ _ _ _ _ us hl=>by obtain ⟨_,_,rfl⟩:=ex2 us hl;rfl,PySem.W.mg_of X G a_law_common⟩
 have F_law_page:FunAt K mg "_law_page" Wf ["_law_rows_here"] f_law_page _:=⟨Zq (st:=Wf) l_law_page c_law_page k_law_page,(Zq (st:=Wf) l_law_page c_law_page k_law_page).binds (ps:=["_law_rows_here"]) fun _ _ _ _ _ _ us hl=>by obtain ⟨_,rfl⟩:=ex1 us hl;rfl,PySem.W.mg_of X G a_law_page⟩
 have F_law_alone:FunAt K mg "_law_alone" Yv ["_law_error"] f_law_alone _:=⟨Zq (st:=Yv) l_law_alone c_law_alone k_law_alone,(Zq (st:=Yv) l_law_alone c_law_alone k_law_alone).binds (ps:=["_law_error"]) fun _ _ _ _ _ _ us hl=>by obtain ⟨_,rfl⟩:=ex1 us hl;rfl,PySem.W.mg_of X G a_law_alone⟩
 have F_law_loose:FunAt K mg "_law_loose" Yt ["_law_rows_here","_law_number"] f_law_loose _:=⟨Zq (st:=Yt) l_law_loose c_law_loose k_law_loose,(Zq (st:=Yt) l_law_loose c_law_loose k_law_loose).binds (ps:=["_law_rows_here","_law_number"]) fun _ _ _ _ _ _ us hl=>by obtain ⟨_,_,rfl⟩:=ex2 us hl;rfl,PySem.W.mg_of X G a_law_loose⟩
 have F_law_counted:FunAt K mg "_law_counted" Yb ["_law_way","_law_far","_law_page_here","_law_at"] f_law_counted _:=⟨Zq (st:=Yb) l_law_counted c_law_counted k_law_counted,(Zq (st:=Yb) l_law_counted c_law_counted k_law_counted).binds (ps:=["_law_way","_law_far","_law_page_here","_law_at"]) fun _ _ _ _ _ _ us hl=>by obtain ⟨_,_,_,_,rfl⟩:=ex4 us hl;rfl,PySem.W.mg_of X G a_law_counted⟩
 have F_law_bent:FunAt K mg "_law_bent" Wg ["_law_script","_law_rows_here"] f_law_bent _:=⟨Zq (st:=Wg) l_law_bent c_law_bent k_law_bent,(Zq (st:=Wg) l_law_bent c_law_bent k_law_bent).binds (ps:=["_law_script","_law_rows_here"]) fun _ _ _ _ _ _ us hl=>by obtain ⟨_,_,rfl⟩:=ex2 us hl;rfl,PySem.W.mg_of X G a_law_bent⟩
 have F_law_count_at:FunAt K mg "_law_count_at" Xt ["_law_page_here","_law_at"] f_law_count_at _:=⟨Zq (st:=Xt) l_law_count_at c_law_count_at k_law_count_at,(Zq (st:=Xt) l_law_count_at c_law_count_at k_law_count_at).binds (ps:=["_law_page_here","_law_at"]) fun _ _ _ _ _ _ us hl=>by obtain ⟨_,_,rfl⟩:=ex2 us hl;rfl,PySem.W.mg_of X G a_law_count_at⟩
 have F_law_reader:FunAt K mg "_law_reader" Yk ["_law_page_here"] f_law_reader _:=⟨Zq (st:=Yk) l_law_reader c_law_reader k_law_reader,(Zq (st:=Yk) l_law_reader c_law_reader k_law_reader).binds (ps:=["_law_page_here"]) fun _ _ _ _ _ _ us hl=>by obtain ⟨_,rfl⟩:=ex1 us hl;rfl,PySem.W.mg_of X G a_law_reader⟩
 have F_law_told:FunAt K mg "_law_told" Wd ["_law_word","_law_page_here","_law_row","_law_good"] f_law_told _:=⟨Zq (st:=Wd) l_law_told c_law_told k_law_told,(Zq (st:=Wd) l_law_told c_law_told k_law_told).binds (ps:=["_law_word","_law_page_here","_law_row","_law_good"]) fun _ _ _ _ _ _ us hl=>by obtain ⟨_,_,_,_,rfl⟩:=ex4 us hl;rfl,PySem.W.mg_of X G a_law_told⟩
 have F_law_due:FunAt K mg "_law_due" Ww ["_law_word","_law_rows_here","_law_row"] f_law_due _:=⟨Zq (st:=Ww) l_law_due c_law_due k_law_due,(Zq (st:=Ww) l_law_due c_law_due k_law_due).binds (ps:=["_law_word","_law_rows_here","_law_row"]) fun _ _ _ _ _ _ us hl=>by obtain ⟨_,_,_,rfl⟩:=ex3 us hl;rfl,PySem.W.mg_of X G a_law_due⟩
 have F_law:=Zq (st:=Zdh) l_law c_law k_law
 have nb:NB mg:=⟨PySem.W.mg_none_of X G z_len,PySem.W.mg_none_of X G z_range,PySem.W.mg_none_of X G z_int,PySem.W.mg_none_of X G z_isinstance,PySem.W.mg_none_of X G z_min,PySem.W.mg_none_of X G z_max,PySem.W.mg_none_of X G z_all,PySem.W.mg_none_of X G z_zip,PySem.W.mg_none_of X G z_set,PySem.W.mg_none_of X G z_sorted⟩
 have nbV:=PySem.W.mg_none_of X G z_ValueError
 have g_MOST_DIGITS:GlobV mg "MOST_DIGITS" (.int 255):=⟨_,PySem.W.mg_of X G g0_MOST_DIGITS,⟨_,rfl⟩⟩
 have g_MOST_AHEAD:GlobV mg "MOST_AHEAD" (.int 7):=⟨_,PySem.W.mg_of X G g0_MOST_AHEAD,⟨_,rfl⟩⟩
 refine ⟨PySem.W.fnOf "law" "law" (defArgs Zdh) (defBody Zdh) (defScope Zdh) .none kV_x38 dc_x38 pm_x38 an_x38 cd_x38 ct_x38,fun s v => .of_eq rfl,fun base _ _=>?_⟩
 have T:SrcCls K C_Source:=⟨cl_Source,n_Source_signs,n_Source_place,n_Source_turned,n_Source_endless,n_Source_wished⟩
 have D_lower_digits:=Zhe (P:=l.prog) (w:=w) (base:=base) nb F_lower_digits
 have D_is_count:=Zxg (P:=l.prog) (w:=w) (base:=base) g_MOST_DIGITS F_is_count
 have D_count_row:=Zsh g_MOST_AHEAD F_count_row D_is_count D_lower_digits
 have XF_Short:=Znh (P:=l.prog) (w:=w) (base:=base) xj_Short XS_Short tp_Short BB_RiseError F_Short_init
 have M_draw:MethOk l.prog w K mg base 1 C_Source "draw" ["self"] (spDraw C_Source):=⟨_,_,Xug nb T F_Source_draw,b_Source_draw,t_Source_draw⟩
 have MB_draw:MethOkE l.prog w K mg base 3 C_Source "draw" ["self"] (spDrawBad C_Source C_Short):=⟨_,_,Xrj nb T XM_Short XF_Short XB_Short F_Source_draw,b_Source_draw,t_Source_draw⟩
 have M_Source:MakeOk l.prog w K mg base 1 "Source" C_Source ["self","signs","at"] (spSrcInit C_Source):=⟨_,_,K_Source,Zxa T F_Source_init,b_Source_init,m_Source⟩
 have D_draw_lower_digits:=Zad nb T.cl F_draw_lower_digits M_draw
 have DB_draw_lower_digits:=Qy nb T.cl F_draw_lower_digits M_draw MB_draw
 have D_draw_count:=Zng g_MOST_AHEAD T.cl F_draw_count M_draw D_draw_lower_digits
 have DB_draw_count:=Zmd g_MOST_AHEAD T.cl F_draw_count M_draw MB_draw D_draw_lower_digits DB_draw_lower_digits
 have D_read_count:=Znc T F_read_count M_Source D_draw_count
 have DB_read_count:=Zmc T F_read_count M_Source DB_draw_count
 have D_first_unlike:=Zhh (P:=l.prog) (w:=w) (base:=base) nb F_first_unlike
 have D_shared_signs:=Zhc F_shared_signs D_first_unlike
 have D_ascend:=Xjg (P:=l.prog) (w:=w) (base:=base) nb F_ascend
 have D_entry_of:=Zxh nb F_entry_of D_shared_signs D_count_row
 have D_page_of:=Xcc nb F_page_of D_ascend D_entry_of D_count_row
 have D_may_follow:=Zmg nb F_may_follow D_shared_signs
 have D_read_entry:=Zmf nb F_read_entry D_read_count D_may_follow
 have DB_read_entry:=Zia xi_BadPage gm_BadPage nb F_read_entry D_read_count DB_read_count D_may_follow
 have D_read_rows:=Zod nb F_read_rows D_read_count D_read_entry
 have DB_read_rows:=Zme xi_BadPage gm_BadPage nb F_read_rows D_read_count DB_read_count D_read_entry DB_read_entry
 have D_rows_of:=Xac nb F_rows_of D_read_rows
 have DB_rows_of:=Zuh gm_Short xc_Short xt_Short nr_BadPage_Short mr_Short_Short xi_BadPage gm_BadPage xc_BadPage xt_BadPage nb F_rows_of DB_read_rows
 have D_law_cell_at:=Zkg (P:=l.prog) (w:=w) (base:=base) nb F_law_cell_at
 have D_law_mixed:=Zsd (P:=l.prog) (w:=w) (base:=base) F_law_mixed
 have D_law_free_row:=Zhf (P:=l.prog) (w:=w) (base:=base) nb F_law_free_row
 have D_law_rows:=Zxd nb F_law_rows D_law_cell_at D_law_mixed D_law_free_row
 have D_law_digits:=Zne (P:=l.prog) (w:=w) (base:=base) F_law_digits
 have D_law_count:=Zsf nb F_law_count D_law_digits
 have D_law_common:=Znf (P:=l.prog) (w:=w) (base:=base) nb F_law_common
 have D_law_page:=Zxe nb F_law_page D_law_count D_law_common
 have D_law_loose:=Zse nb F_law_loose D_law_count D_law_common
 have D_law_counted:=Zkf F_law_counted D_law_count
 have D_law_bent:=Zxf nb F_law_bent D_law_cell_at D_law_mixed D_law_page D_law_counted D_law_loose
 have D_law_count_at:=Zhg (P:=l.prog) (w:=w) (base:=base) nb F_law_count_at
 have D_law_reader:=Znd nb F_law_reader D_law_count_at D_law_common
 have NM:Nms mg ⟨C_NoFit,C_Short,C_Wrong,C_Left,C_NoForm,C_NoText,C_NotAhead,C_BadPage,C_Twice,C_Lacking⟩:=⟨gc_NoFit,gc_Short,gc_Wrong,gc_Left,gc_NoForm,gc_NoText,gc_NotAhead,gc_BadPage,gc_Twice,gc_Lacking⟩
 have kS:Kits K ⟨C_NoFit,C_Short,C_Wrong,C_Left,C_NoForm,C_NoText,C_NotAhead,C_BadPage,C_Twice,C_Lacking⟩ C_BadPage [false,false,false,false,false,false,false,true,false,false,true] :=
  ⟨xc_BadPage,_,_,_,_,_,_,_,_,_,_,rfl,kt_BadPage_NoFit,kt_BadPage_Short,kt_BadPage_Wrong,kt_BadPage_Left,kt_BadPage_NoForm,kt_BadPage_NoText,kt_BadPage_NotAhead,Xph ..,kt_BadPage_Twice,kt_BadPage_Lacking,kt_BadPage_ValueError⟩
 have D_law_alone:=Zsg (P:=l.prog) (w:=w) (base:=base) nb nbV NM gc_RiseError F_law_alone
 have D_place_in:=Zxb nb F_place_in D_rows_of
 have DB_place_in:=Zuc nb F_place_in DB_rows_of
 have D_page_with:=Zsc nb F_page_with D_rows_of D_page_of
 have DB_page_with:=Zoc xi_Twice gm_Twice nb F_page_with D_page_of DB_rows_of
 have D_page_without:=Zhd nb F_page_without D_rows_of D_page_of
 have DB_page_without:=Zgc xi_Lacking gm_Lacking nb F_page_without D_page_of DB_rows_of
 have D_poured:=Xjf nb F_poured D_rows_of D_page_of
 have DB_poured:=Xea nb F_poured D_page_of D_rows_of DB_rows_of
 have D_law_told:=Zxc gm_BadPage xc_BadPage xt_BadPage mr_BadPage_BadPage kS rfl kt_BadPage_RiseError nb F_law_told D_place_in DB_place_in D_page_with DB_page_with D_page_without DB_page_without D_poured DB_poured D_law_alone
 have D_law_due:=Xcd nb F_law_due D_law_page
 exact Xyi nb F_law D_law_rows D_law_bent D_law_reader D_law_cell_at D_law_mixed D_law_page D_law_due D_law_told
theorem walk {l:PySem.W.OpenLaw} {q:Program} {loose:List Str} {XP:(Str→Option Value)→Heap→Prop} {YP:World→Heap→Prop} {d:DefRec} {K:Params→PySem.W.Frag} (hn:l.most=some 63) (hdf:d.params.defaults=[])
  (hY:∀ (w:World) (h:Heap),YP w h→(K w.params).In h)
  (F:∀ (w:World) (mg:Str→Option Value) (fa:Addr) (h:Heap),(K w.params).In h→h.Ns mainGlobals mg→mg d.name=some (.ref fa)→
   ∃ fd:FuncData,(∀ (s:Shared) (u:Value),BindsTo s fd ⟨[u],[]⟩ [("_law_script",u)])∧∀ base:Heap,(K w.params).In base→base.Ns mainGlobals mg→FnOk l.prog w (K w.params) mg base CX0 12 fa fd ["_law_script"] (spLaw (K w.params))) :
  PySem.W.WalkO q loose XP YP l.row.toRowW d [] (fun f vs=>PySem.call f vs) :=
 L2.Xsg (n:=63) (k:=12) (x:="_law_script") (CX:=fun _=>CX0) (sp:=fun w=>spLaw (K w.params)) hn (by decide) hdf ⟨rfl,by decide,by decide⟩ hY F (fun _ _ a ns hl _ hS=>⟨a,ns,rfl,hS,hl,fun _=>rfl⟩) fun _ _ _ _ _ z=>z
end
end KR
namespace PySem.W.Fast
def tw3875014509769363741:=0
def tw8631627072672822653:=0
def tw15411511450312034224:=0
def tw2629393105431374566:=0
def tw8552416626511714724:=0
def tw11311571714071014618:=0
def tw14213655224729221364:=0
def tw17011861141366122378:=0
def tw285901927232246199:=0
def tw12002577590819923353:=0
def tw13073038359164767427:=0
def tw5188223606619345128:=0
def tw3535012976676555812:=0
def tw4652276632538733706:=0
def tw2622122773968237840:=0
def tw6591033196916956956:=0
def tw8654531084870969770:=0
def tw15609373430479170301:=0
def tw3578969100218651171:=0
def tw9495361502159538016:=0
def tw8204321422194499968:=0
def tw5425839801877132417:=0
def tw8820323736204976019:=0
def tw7816025906496224313:=0
def tw6749211616571318201:=0
def tw3481939879044626302:=0
def tw5378539068272964609:=0
def tw8247352052158893966:=0
def tw3614883135965980148:=0
def tw5957803347309290845:=0
def tw18025630435885615619:=0
def tw3945119527839128154:=0
def tw18406573448871231451:=0
def tw17471155445377336087:=0
def tw8870006062134660397:=0
def tw8360883569262837218:=0
def tw7820384947805865020:=0
def tw10697976310605791216:=0
def tw10649274689903343060:=0
def tw14147968078133672196:=0
def tw2600440901459124944:=0
def tw17625717827794674677:=0
def tw5710839106937989210:=0
def tw5977055931515041211:=0
def tw8622531756701654743:=0
def tw15855276478757712921:=0
def tw5640901566089308210:=0
def tw7866486771996302919:=0
def tw15573209981855123049:=0
def tw3416951148120364037:=0
def tw16119027975724093317:=0
def tw5917305669434329344:=0
def tw10144244306681586398:=0
def tw122563225144331857:=0
def tw2819208030136145479:=0
def tw18287623690884928231:=0
def tw9430228574679380335:=0
def tw10265687323591875289:=0
def tw12779736859823405834:=0
def tw13908224350072929247:=0
def tw14328682713555893688:=0
def tw2647517155149174882:=0
def tw15821289960268916864:=0
def tw7043543611484386503:=0
def tw6774830550682910854:=0
def tw1282175234577977807:=0
def tw6465446939413708082:=0
def tw14549886900653719534:=0
def tw13207961961391134175:=0
def tw13309024699623985077:=0
def tw13781050141066238743:=0
def tw7298637642328395878:=0
def tw1179815403976267102:=0
def tw10610953530241165308:=0
def tw2544519058970770051:=0
def tw5620045062889609604:=0
def tw4438867390074930194:=0
def tw707453824742246223:=0
def tw2891304789304053978:=0
def tw10019603462322928811:=0
def tw17461743378249190621:=0
def tw2126790295818038299:=0
def tw360398285802784267:=0
def tw8783371131158390223:=0
def tw16240400814139665005:=0
def tw2736758079562145402:=0
def tw4592862494001945311:=0
def tw3560143589702571848:=0
def tw10125037579549755418:=0
def tw7507841842703475377:=0
def tw15472828951931511811:=0
def tw101157622319229564:=0
def tw16355754969971444703:=0
def tw14920874697732684570:=0
def tw6128130352776573920:=0
def tw3280690661549909534:=0
def tw9651652871007601020:=0
def tw12959757429900998116:=0
def tw11655818098673830134:=0
def tw6780122643375286944:=0
def tw2866959462229158273:=0
def tw1561498105059760182:=0
def tw10615750208611246805:=0
def tw1165195588848294543:=0
def tw9845553303932514979:=0
def tw1406934997719479418:=0
def tw6696942132323464716:=0
def tw8618749993610191843:=0
def tw10276058760800707894:=0
def tw10164682713044971102:=0
def tw8039212740668202904:=0
def tw8356605290846668303:=0
def tw10668604162379441918:=0
def tw9049724075910367816:=0
def tw14291811089449539493:=0
def tw15611271120446612209:=0
def tw4656789861208275688:=0
def tw15917755373406656270:=0
def tw12522653153424169062:=0
def tw18168739119648982255:=0
def tw17337718648835549413:=0
def tw7815855012099123773:=0
def tw13544773567395318258:=0
def tw4630216465349760458:=0
def tw12914194327217069137:=0
def tw9232981249398712838:=0
def tw2565301935993157619:=0
def tw6164541977291890210:=0
def tw1178026276113309426:=0
def tw15600385222715009084:=0
def tw4533448105933337533:=0
def tw1303411204295794103:=0
def tw6495139737474560793:=0
def tw12343381477159567357:=0
def tw11221193520333890004:=0
def tw17629995360995011122:=0
def tw15429273797662463210:=0
def tw13889427214732856457:=0
def tw4777700392482546287:=0
def tw7390397822930717307:=0
def tw15023201275919076963:=0
def tw17607081238106149737:=0
def tw17971911501018498697:=0
def tw1330871572107559422:=0
def tw12689282466290061310:=0
def tw1149255924054757578:=0
def tw3061009480761490196:=0
def tw11534162329476559694:=0
def tw10953844469562915956:=0
def tw15115858754525467925:=0
def tw6647725199064914606:=0
def tw2695358321762102430:=0
def tw10212511463646491282:=0
def tw9252616442478591606:=0
def tw7929064240866594296:=0
def tw170139144119015068:=0
def tw8968027890031154191:=0
def tw5382063823058504323:=0
def tw17545995319308865870:=0
def tw6076599729010669433:=0
def tw16358657741520189039:=0
def tw10078817027326183254:=0
def tw2302343193275380025:=0
def tw12302821861618022822:=0
def tw6312024511769751778:=0
def tw13281955396749364930:=0
def tw3480940142569237352:=0
def tw11758570270095252090:=0
def tw367766967271268515:=0
def tw5811374664622213737:=0
def tw947668251247861458:=0
def tw9000268562295467588:=0
def tw9938896550710008005:=0
def tw10224297929553476042:=0
def tw8372720547494595448:=0
def tw17679473978002975290:=0
def tw2470941725611402375:=0
def tw14608980457647798258:=0
def tw18322243535768864032:=0
def tw2854920088837138062:=0
def tw16806617681331283797:=0
def tw8943026084577693157:=0
def tw2907901929878013153:=0
def tw17000726514089894848:=0
def tw13151422771856545870:=0
def tw15781881989432041025:=0
def tw9627090793388287604:=0
def tw7828307531039898520:=0
def tw5121302923399938401:=0
def tw6298719443906047995:=0
def tw18170900741432854862:=0
def tw3211426444526104291:=0
def tw9478455706851103944:=0
def tw8244232806453688751:=0
def tw11998994456226264087:=0
def tw1978811320959507863:=0
def tw1247059804268457066:=0
def tw12776727271716988557:=0
def tw16020211062586250219:=0
def tw481239750788363718:=0
def tw4597461199190036789:=0
def tw14600930728534127626:=0
def tw5603897877272905945:=0
def tw3175029848737789918:=0
def tw15153000264152879261:=0
def tw2848957868535337667:=0
def tw12927614035446852401:=0
def tw6355776782312794810:=0
def tw8044398416020941963:=0
def tw4637040709134127232:=0
def tw1167722712166806378:=0
def tw10018954534483189910:=0
def tw10787455812113205251:=0
def tw10257780499277660995:=0
def tw10677122569832664080:=0
def tw17204084113595177798:=0
def tw9899066130470361836:=0
def tw7013976450309989736:=0
def tw14327083177125871581:=0
def tw18150893405506060256:=0
def tw16555630174234266190:=0
def tw1179194190186894558:=0
def tw11992932814250412646:=0
def tw5628051372255432842:=0
def tw1372962552384714821:=0
def tw11413030898595745598:=0
def tw5265438363264769768:=0
def tw8307528075616611305:=0
def tw10891588623346741371:=0
def tw16331137108654607111:=0
def tw2959795917326842877:=0
def tw13458754149230469620:=0
def tw8661384858835279579:=0
def tw16634630253380445629:=0
def tw2365311548178602996:=0
def tw6280626197124057886:=0
def tw13566318188694715556:=0
def tw11995195398056325932:=0
def tw11872490821878535255:=0
def tw10847521743586242174:=0
def tw3047736390211935801:=0
def tw14656523332222761161:=0
def tw3100541754016691821:=0
def tw5550535121622159976:=0
def tw13555046998748707916:=0
def tw8330305212880618991:=0
def tw8161449094565602956:=0
def tw9411993130906460609:=0
def tw15811261706144339352:=0
def tw12760876343299177528:=0
def tw588709207033097798:=0
def tw11664985135085904001:=0
def tw16774166239927150409:=0
def tw3178461036208858353:=0
def tw14021562259901437007:=0
def tw9959830587216529874:=0
def tw8216715991275278791:=0
def tw472052098509658783:=0
def tw2983350498270120389:=0
def tw1432991895861614123:=0
def tw7554965232057201055:=0
end PySem.W.Fast
open PySem PySem.W PyProof.Rows
set_option maxRecDepth 100000 in
set_option maxHeartbeats 0 in
theorem PySem.Challenge.cw_keyrise_k67_bad_pages_everywhere_holds : PySem.Challenge.rw_keyrise_k67_bad_pages_everywhere.Holds := by
 w_on;o_law;k_head;(case hw=>w_witness2)
 k_fill
 refine KR.walk (l:=PySem.Challenge.rw_keyrise_k67_bad_pages_everywhere) rfl rfl (fun w h Y=>PySem.W.kIn_of Y) ?F
 case F =>
  intro w mg fa h KX G hmg
  refine' KR.Yaj KX G hmg ?a0 ?a1 ?a2 ?a3 ?a4 ?a5 ?a6 ?a7 ?a8 ?a9 ?a10 ?a11 ?a12 ?a13 ?a14 ?a15 ?a16 ?a17 ?a18 ?a19 ?a20 ?a21 ?a22 ?a23 ?a24 ?a25 ?a26 ?a27 ?a28 ?a29 ?a30 ?a31 ?a32 ?a33 ?a34 ?a35 ?a36 ?a37 ?a38 ?a39 ?a40 ?a41 ?a42 ?a43 ?a44 ?a45 ?a46 ?a47 ?a48 ?a49 ?a50 ?a51 ?a52 ?a53 ?a54 ?a55 ?a56 ?a57 ?a58 ?a59 ?a60 ?a61 ?a62 ?a63 ?a64 ?a65 ?a66 ?a67 ?a68 ?a69 ?a70 ?a71 ?a72 ?a73 ?a74 ?a75 ?a76 ?a77 ?a78 ?a79 ?a80 ?a81 ?a82 ?a83 ?a84 ?a85 ?a86 ?a87 ?a88 ?a89 ?a90 ?a91 ?a92 ?a93 ?a94 ?a95 ?a96 ?a97 ?a98 ?a99 ?a100 ?a101 ?a102 ?a103 ?a104 ?a105 ?a106 ?a107 ?a108 ?a109 ?a110 ?a111 ?a112 ?a113 ?a114 ?a115 ?a116 ?a117 ?a118 ?a119 ?a120 ?a121 ?a122 ?a123 ?a124 ?a125 ?a126 ?a127 ?a128 ?a129 ?a130 ?a131 ?a132 ?a133 ?a134 ?a135 ?a136 ?a137 ?a138 ?a139 ?a140 ?a141 ?a142 ?a143 ?a144 ?a145 ?a146 ?a147 ?a148 ?a149 ?a150 ?a151 ?a152 ?a153 ?a154 ?a155 ?a156 ?a157 ?a158 ?a159 ?a160 ?a161 ?a162 ?a163 ?a164 ?a165 ?a166 ?a167 ?a168 ?a169 ?a170 ?a171 ?a172 ?a173 ?a174 ?a175 ?a176 ?a177 ?a178 ?a179 ?a180 ?a181 ?a182 ?a183 ?a184 ?a185 ?a186 ?a187 ?a188 ?a189 ?a190 ?a191 ?a192 ?a193 ?a194 ?a195 ?a196 ?a197 ?a198 ?a199 ?a200 ?a201 ?a202 ?a203 ?a204 ?a205 ?a206 ?a207 ?a208 ?a209 ?a210 ?a211 ?a212 ?a213 ?a214 ?a215 ?a216 ?a217 ?a218 ?a219 ?a220 ?a221 ?a222 ?a223 ?a224 ?a225 ?a226 ?a227 ?a228 ?a229 ?a230 ?a231 ?a232 ?a233 ?a234 ?a235 ?a236 ?a237 ?a238 ?a239 ?a240 ?a241 ?a242 ?a243 ?a244 ?a245 ?a246 ?a247 ?a248 ?a249 ?a250 ?a251 ?a252 ?a253 ?a254 ?a255 ?a256 ?a257 ?a258 ?a259 ?a260 ?a261 ?a262 ?a263 ?a264 ?a265 ?a266
  (case a0=>k_is)
  (case a1=>k_is)
  (case a2=>k_is)
  (case a3=>k_is)
  (case a4=>k_is)
  (case a5=>k_is)
  (case a6=>k_is)
  (case a7=>k_is)
  (case a8=>k_is)
  (case a9=>k_is)
  (case a10=>k_is)
  (case a11=>k_is)
  (case a12=>k_is)
  (case a13=>k_is)
  (case a14=>k_is)
  (case a15=>k_is)
  (case a16=>k_is)
  (case a17=>k_is)
  (case a18=>k_is)
  (case a19=>k_is)
  (case a20=>k_is)
  (case a21=>k_is)
  (case a22=>k_is)
  (case a23=>k_is)
  (case a24=>k_is)
  (case a25=>k_is)
  (case a26=>k_is)
  (case a27=>k_is)
  (case a28=>k_is)
  (case a29=>k_is)
  (case a30=>k_is)
  (case a31=>k_is)
  (case a32=>k_is)
  (case a33=>k_is)
  (case a34=>k_is)
  (case a35=>k_is)
  (case a36=>k_is)
  (case a37=>k_is)
  (case a38=>k_is)
  (case a39=>k_is)
  (case a40=>k_is)
  (case a41=>k_is)
  (case a42=>k_is)
  (case a43=>k_is)
  (case a44=>k_is)
  (case a45=>k_is)
  (case a46=>k_is)
  (case a47=>k_is)
  (case a48=>k_is)
  (case a49=>k_is)
  (case a50=>k_is)
  (case a51=>k_is)
  (case a52=>k_is)
  (case a53=>k_is)
  (case a54=>k_is)
  (case a55=>k_is)
  (case a56=>k_is)
  (case a57=>k_is)
  (case a58=>k_is)
  (case a59=>k_is)
  (case a60=>k_is)
  (case a61=>k_is)
  (case a62=>k_is)
  (case a63=>k_is)
  (case a64=>k_is)
  (case a65=>k_is)
  (case a66=>k_is)
  (case a67=>k_is)
  (case a68=>k_is)
  (case a69=>k_is)
  (case a70=>k_is)
  (case a71=>k_is)
  (case a72=>k_is)
  (case a73=>k_is)
  (case a74=>k_is)
  (case a75=>k_is)
  (case a76=>k_is)
  (case a77=>k_is)
  (case a78=>k_is)
  (case a79=>k_is)
  (case a80=>k_is)
  (case a81=>k_is)
  (case a82=>k_is)
  (case a83=>k_is)
  (case a84=>k_is)
  (case a85=>k_is)
  (case a86=>k_is)
  (case a87=>k_is)
  (case a88=>k_is)
  (case a89=>k_is)
  (case a90=>k_is)
  (case a91=>kernel_rfl)
  (case a92=>kernel_rfl)
  (case a93=>k_exc)
  (case a94=>k_exc)
  (case a95=>k_exc)
  (case a96=>kit_is)
  (case a97=>kit_is)
  (case a98=>kit_is)
  (case a99=>kit_is)
  (case a100=>kit_is)
  (case a101=>kit_is)
  (case a102=>kit_is)
  (case a103=>kit_is)
  (case a104=>kit_is)
  (case a105=>kit_is)
  (case a106=>kit_is)
  (case a107=>k_is)
  (case a108=>k_is)
  (case a109=>k_is)
  (case a110=>k_is)
  (case a111=>k_is)
  (case a112=>k_is)
  (case a113=>k_is)
  (case a114=>k_is)
  (case a115=>k_is)
  (case a116=>k_is)
  (case a117=>k_is)
  (case a118=>k_is)
  (case a119=>k_is)
  (case a120=>k_is)
  (case a121=>k_is)
  (case a122=>k_is)
  (case a123=>k_is)
  (case a124=>k_is)
  (case a125=>k_is)
  (case a126=>k_is)
  (case a127=>k_is)
  (case a128=>k_is)
  (case a129=>k_is)
  (case a130=>k_is)
  (case a131=>k_is)
  (case a132=>k_is)
  (case a133=>k_is)
  (case a134=>k_is)
  (case a135=>k_is)
  (case a136=>k_is)
  (case a137=>k_is)
  (case a138=>k_is)
  (case a139=>k_is)
  (case a140=>k_is)
  (case a141=>k_is)
  (case a142=>k_is)
  (case a143=>k_is)
  (case a144=>k_is)
  (case a145=>k_is)
  (case a146=>k_is)
  (case a147=>k_is)
  (case a148=>k_is)
  (case a149=>k_is)
  (case a150=>k_is)
  (case a151=>k_is)
  (case a152=>k_is)
  (case a153=>k_is)
  (case a154=>k_is)
  (case a155=>k_is)
  (case a156=>k_is)
  (case a157=>k_is)
  (case a158=>k_is)
  (case a159=>k_is)
  (case a160=>k_is)
  (case a161=>k_is)
  (case a162=>k_is)
  (case a163=>k_is)
  (case a164=>k_is)
  (case a165=>k_is)
  (case a166=>k_is)
  (case a167=>k_is)
  (case a168=>k_is)
  (case a169=>k_is)
  (case a170=>k_is)
  (case a171=>k_is)
  (case a172=>k_is)
  (case a173=>k_is)
  (case a174=>k_is)
  (case a175=>k_is)
  (case a176=>k_is)
  (case a177=>k_is)
  (case a178=>k_is)
  (case a179=>k_is)
  (case a180=>k_is)
  (case a181=>k_is)
  (case a182=>k_is)
  (case a183=>k_is)
  (case a184=>k_is)
  (case a185=>k_is)
  (case a186=>k_is)
  (case a187=>k_is)
  (case a188=>k_is)
  (case a189=>k_is)
  (case a190=>k_is)
  (case a191=>k_is)
  (case a192=>k_is)
  (case a193=>k_is)
  (case a194=>k_is)
  (case a195=>k_is)
  (case a196=>k_is)
  (case a197=>k_is)
  (case a198=>k_is)
  (case a199=>k_is)
  (case a200=>k_is)
  (case a201=>k_is)
  (case a202=>k_is)
  (case a203=>k_is)
  (case a204=>k_is)
  (case a205=>k_is)
  (case a206=>k_is)
  (case a207=>k_is)
  (case a208=>k_is)
  (case a209=>k_is)
  (case a210=>k_is)
  (case a211=>k_is)
  (case a212=>k_is)
  (case a213=>k_is)
  (case a214=>k_is)
  (case a215=>k_is)
  (case a216=>k_is)
  (case a217=>k_is)
  (case a218=>k_is)
  (case a219=>k_is)
  (case a220=>k_is)
  (case a221=>k_is)
  (case a222=>k_is)
  (case a223=>k_is)
  (case a224=>k_is)
  (case a225=>k_is)
  (case a226=>k_is)
  (case a227=>k_is)
  (case a228=>k_is)
  (case a229=>k_is)
  (case a230=>k_is)
  (case a231=>k_is)
  (case a232=>k_is)
  (case a233=>k_is)
  (case a234=>k_is)
  (case a235=>k_is)
  (case a236=>k_is)
  (case a237=>k_is)
  (case a238=>k_is)
  (case a239=>k_is)
  (case a240=>k_is)
  (case a241=>k_is)
  (case a242=>k_is)
  (case a243=>k_is)
  (case a244=>k_is)
  (case a245=>k_is)
  (case a246=>k_is)
  (case a247=>k_is)
  (case a248=>k_is)
  (case a249=>k_is)
  (case a250=>k_is)
  (case a251=>k_is)
  (case a252=>k_is)
  (case a253=>k_is)
  (case a254=>k_is)
  (case a255=>k_is)
  (case a256=>k_is)
  (case a257=>k_is)
  (case a258=>k_is)
  (case a259=>k_is)
  (case a260=>k_is)
  (case a261=>k_is)
  (case a262=>k_is)
  (case a263=>k_is)
  (case a264=>k_is)
  (case a265=>k_is)
  (case a266=>k_is)
