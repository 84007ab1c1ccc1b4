import PyProof.Rows.All
import Wide.Line
import Wide.Once
import Wide.FinOn
import OpenK.KLine
import OpenK.KOwn
import Open.Pieces
import KE.RegKIsAll
import KE.KIntText
import KE.KFromBytes
import KE.KItem
import KE.KxBytes
import KE.KRevIter
import KE.KUnpack
import KE.KIsAll
import KE.BitLaws
import PyProof.EqAt
import PyProof.EqKinds
import PyProof.TupleCall
import PySem.Challenge.RW_keyrise_k32_refused_texts
set_option Elab.async false
set_option linter.all false
section KRGG
namespace PySem.W.Fast
def tw16731992044360420909:=0
def tw7134813355022243634:=0
def tw4377796739810814904:=0
def tw18358110796481131871:=0
def tw4358565590974353068:=0
def tw9305727268582581282:=0
def tw15221356573953635632:=0
def tw4210279587345264495:=0
def tw4190569376387409655:=0
def tw7740457478382488547:=0
def tw10238101938122762056:=0
def tw11375397204414390104:=0
def tw13008538243766992087:=0
def tw2245362756673346172:=0
def tw9752715208664976440:=0
def tw16756160407241000680:=0
def tw3550869673040637229:=0
def tw62422007759038272:=0
def tw8870174549264990474:=0
def tw2748281033721510175:=0
def tw15632092000759084696:=0
def tw2950761770148165606:=0
def tw4080867525882056291:=0
def tw1100888106301612729:=0
def tw4119922941039332382:=0
def tw15169478245819152308:=0
def tw6513332314012000261:=0
def tw4355549970970459465:=0
def tw5448812613555675388:=0
def tw1401544640830306237:=0
def tw15809800066202219783:=0
def tw12338731306399610732:=0
def tw13091815701306119934:=0
def tw5648489958724953144:=0
def tw15533998144886071929:=0
def tw12582712669163675217:=0
def tw3724744785439384091:=0
def tw13539825480915764431:=0
def tw4118272710937142533:=0
def tw8776824803471081383:=0
def tw12586577142755481938:=0
def tw363084935823045115:=0
def tw15910941506268454745:=0
def tw9745048993397904780:=0
def tw10589895672166167321:=0
def tw18373042941175376860:=0
def tw14410876784397485970:=0
def tw17464368548865840442:=0
def tw2767560431810904921:=0
def tw16510651977684155507:=0
def tw9711123309225677685:=0
def tw10523096160501485240:=0
def tw7932079643575695470:=0
def tw4662783460083576117:=0
def tw12295976438304774567:=0
def tw10568103314604216467:=0
def tw59811380343621150:=0
def tw3967614042749497994:=0
def tw8069550894762769096:=0
def tw8373112287167972867:=0
def tw11516013501997735286:=0
def tw14764417897463554539:=0
def tw3688482757296409856:=0
def tw9585503120782033261:=0
def tw17120498824481485391:=0
def tw1481096749480145279:=0
def tw12751672503023703618:=0
def tw12640263216973554871:=0
def tw16484119908903571367:=0
def tw15133067422957787626:=0
def tw16464623625927299428:=0
def tw7059763265204007087:=0
def tw2168364763308362422:=0
def tw1134655106439458485:=0
def tw2029048800029118899:=0
def tw10613832400928904167:=0
def tw6007586703182861041:=0
def tw3552369540249472315:=0
def tw17928471283445354506:=0
def tw17616338392604889931:=0
def tw8388922687962770720:=0
def tw67406586872617160:=0
def tw16952133794870281701:=0
def tw12786058579048982354:=0
def tw8247285578700579947:=0
def tw9357969967824250668:=0
def tw3798184086160737800:=0
def tw2043730571586051976:=0
def tw7559664954678119293:=0
def tw5619161020702665785:=0
def tw13955634912675928384:=0
def tw4576315731270293460:=0
def tw13588645552305048559:=0
def tw6770007307098955102:=0
def tw3174849204519472354:=0
def tw7318715738153841418:=0
def tw2957610391716988187:=0
def tw1159516342962975995:=0
def tw582514216201808304:=0
def tw511082623346890334:=0
def tw7448722249883384235:=0
def tw14905887743770281214:=0
def tw5487931154079388545:=0
def tw1763411672433251912:=0
def tw3691978746555784895:=0
def tw5887721364580149307:=0
def tw6857345925398412229:=0
def tw8357698792682681021:=0
def tw9753993077850775713:=0
end PySem.W.Fast
theorem KR.absorb {G P:Prop} (_ _:G) (m:P):P:=m
open PySem PySem.W PyProof.Rows
set_option maxRecDepth 100000 in
set_option maxHeartbeats 0 in
noncomputable def KR.GG:{G:Prop // G→PySem.Challenge.rw_keyrise_k32_refused_texts.Holds}:=⟨_,fun hG=>by
 refine KR.absorb hG ?hc ?main
 case main =>
  w_on;o_law;k_head
  case hw=>w_witness2
 case hc=>exact hG⟩
end KRGG
local macro_rules | `(tactic| omega) => `(tactic| first | lia | omega (config := {}))
set_option Elab.async false
set_option linter.all false
set_option maxRecDepth 100000
namespace L2
open PySem PySem.Spec PyProof.Rows
noncomputable abbrev Key:=Sum Int Str
noncomputable def keyIs:Key→Value→Bool
 | .inl k,v=>Value.isInt k v
 | .inr x,v=>Value.isStrOf x v
noncomputable def keyH (w:World):Key→Int
 | .inl k=>hashInt k
 | .inr x=>hashStr w x
theorem Yp:∀ {k:Key} {v:Value},keyIs k v=true→(∃ i t,k=Sum.inl i∧v=Value.int i t)∨(∃ x t,k=Sum.inr x∧v=Value.str x t)
 | .inl i,v,h=>by
  obtain ⟨t,e⟩:=Value.isInt_shape (k:=i) (v:=v) h
  exact .inl ⟨i,t,rfl,e⟩
 | .inr x,v,h=>by
  obtain ⟨t,e⟩:=Value.isStrOf_shape (x:=x) (v:=v) h
  exact .inr ⟨x,t,rfl,e⟩
theorem Xqc (a b:Int):decide ((Sum.inl a:Key)=Sum.inl b)=(a == b):=by
 by_cases e:a=b
 ·subst e;simp
 ·have h:¬(Sum.inl a:Key)=Sum.inl b:=fun q=>e (Sum.inl.inj q)
  rw [decide_eq_false h]
  exact (beq_eq_false_iff_ne.mpr e).symm
theorem Xpj (a b:Str):decide ((Sum.inr a:Key)=Sum.inr b)=decide (a=b):=by
 by_cases e:a=b
 ·subst e;simp
 ·have h:¬(Sum.inr a:Key)=Sum.inr b:=fun q=>e (Sum.inr.inj q)
  rw [decide_eq_false h,decide_eq_false e]
theorem Xqb (a:Int) (b:Str):decide ((Sum.inl a:Key)=Sum.inr b)=false:=decide_eq_false (fun q=>nomatch q)
theorem Xqa (a:Str) (b:Int):decide ((Sum.inr a:Key)=Sum.inl b)=false:=decide_eq_false (fun q=>nomatch q)
noncomputable def mixKind (prog:Program) (w:World):PySem.KeyKind prog w Key where
 is:=keyIs
 hash:=keyH w
 inj:=fun v a b ha hb=>by
  rcases Yp ha with ⟨i,t,rfl,rfl⟩ | ⟨x,t,rfl,rfl⟩
  ·rcases Yp hb with ⟨j,u,rfl,e⟩ | ⟨y,u,rfl,e⟩
   ·injection e with e1 _;rw [e1]
   ·exact nomatch e
  ·rcases Yp hb with ⟨j,u,rfl,e⟩ | ⟨y,u,rfl,e⟩
   ·exact nomatch e
   ·injection e with e1 _;rw [e1]
 byValue:=fun k v h=>by
  rcases Yp h with ⟨i,t,rfl,rfl⟩ | ⟨x,t,rfl,rfl⟩<;>rfl
 pyHash:=fun hv h=>by
  rcases Yp hv with ⟨i,t,rfl,rfl⟩ | ⟨x,t,rfl,rfl⟩
  ·exact wpAny_pyHash_int h
  ·exact wpAny_pyHash_str h
 eqBool:=fun hu hv h=>by
  rcases Yp hu with ⟨i,t,rfl,rfl⟩ | ⟨x,t,rfl,rfl⟩
  ·rcases Yp hv with ⟨j,u,rfl,rfl⟩ | ⟨y,u,rfl,rfl⟩
   ·rw [Xqc] at h;exact wpAny_eqBool_int h
   ·rw [Xqb] at h;exact SeqAt.EqAt.int_str i t y u _ _ _ _ h
  ·rcases Yp hv with ⟨j,u,rfl,rfl⟩ | ⟨y,u,rfl,rfl⟩
   ·rw [Xqa] at h;exact SeqAt.EqAt.str_int x t j u _ _ _ _ h
   ·rw [Xpj] at h;exact wpAny_eqBool_str h
 «strs» := fun k x t v h=>by
  rcases Yp h with ⟨i,u,rfl,e⟩ | ⟨y,u,rfl,e⟩
  ·exact nomatch e
  ·injection e with e1 _
   subst e1
   cases v<;>rfl
end L2
namespace L2
open PySem PySem.Spec PyProof.Rows
inductive V where
 | non | bl (b:Bool) | int (i:Int) | str (x:Str) | byt (b:Array UInt8) | flt (b:UInt64) | ref (a:Addr) | ty (n:String)
 deriving DecidableEq
noncomputable def RelV:V→Value→Prop
 | .non,u=>u=Value.none
 | .bl b,u=>u=Value.bool b
 | .int i,u=>∃ t,u=Value.int i t
 | .str x,u=>∃ t,u=Value.str x t
 | .byt b,u=>∃ t,u=Value.bytes b t
 | .flt b,u=>∃ t,u=Value.float b t
 | .ref a,u=>u=Value.ref a
 | .ty n,u=>u=Value.type n
noncomputable abbrev Vals:List V→List Value→Prop:=Paired RelV
theorem Vals.length {xs:List V} {us:List Value} (r:Vals xs us):xs.length=us.length:=Paired.length r
theorem Vals.get:∀ {xs:List V} {us:List Value} {i:Nat} {x:V},Vals xs us→xs[i]?=some x→∃ u,us[i]?=some u∧RelV x u
 | _,_,_,_,.nil,e=>by simp at e
 | _,_,0,_,.cons r _,e=>by simp at e;subst e;exact ⟨_,rfl,r⟩
 | _,_,i+1,x,.cons _ t,e=>by
  obtain ⟨u,h1,h2⟩:=Vals.get (i:=i) (x:=x) t (by simpa using e)
  exact ⟨u,by simpa using h1,h2⟩
theorem Vals.set {x:V} {u:Value} (r:RelV x u):∀ {xs:List V} {us:List Value} (i:Nat),Vals xs us→Vals (xs.set i x) (us.set i u)
 | _,_,_,.nil => .nil
 | _,_,0,.cons _ t => .cons r t
 | _,_,i+1,.cons q t => .cons q (Vals.set r i t)
theorem Vals.append:∀ {xs ys:List V} {us ws:List Value},Vals xs us→Vals ys ws→Vals (xs++ys) (us++ws)
 | _,_,_,_,.nil,s=>s
 | _,_,_,_,.cons r t,s => .cons r (Vals.append t s)
theorem Vals.take:∀ {xs:List V} {us:List Value} (n:Nat),Vals xs us→Vals (xs.take n) (us.take n)
 | _,_,0,_ => .nil
 | _,_,_+1,.nil => .nil
 | _,_,n+1,.cons r t => .cons r (Vals.take n t)
theorem Vals.drop:∀ {xs:List V} {us:List Value} (n:Nat),Vals xs us→Vals (xs.drop n) (us.drop n)
 | _,_,0,r=>r
 | _,_,_+1,.nil => .nil
 | _,_,n+1,.cons _ t=>Vals.drop n t
noncomputable def RelO:Option V→Option Value→Prop
 | some v,some u=>RelV v u
 | none,none=>True
 | _,_=>False
noncomputable def KV {κ:Type}:List (κ×V)→List (κ×Value)→Prop:=Paired fun (p:κ×V) (q:κ×Value)=>p.1=q.1∧RelV p.2 q.2
noncomputable def kV:Key→V
 | .inl i => .int i
 | .inr x => .str x
inductive HO where
  | lst (xs:List V)
  | tup (xs:List V)
  | dK (kvs:List (Key×V)) | dT (kvs:List (List Key×V))
  | set (S:Int→Bool) (n:Nat)
  | ins (C dx:Addr) (fs:List (Str×V))
  | own (x:Addr)
  | xd (fs:List (Str×V))
  | met (f x:Addr)
  | rng (lo hi:Int)
  | frz (o:Obj) (u:HO)
  | tbl (ps:Array Value)
  | ext (φ:Heap→Prop)
noncomputable abbrev Hp:=Addr→Option HO
noncomputable def upd (H:Hp) (a:Addr) (o:HO):Hp:=fun b=>if b=a then some o else H b
theorem Zb {H:Hp} {a:Addr} {o:HO}:upd H a o a=some o:=by unfold upd;rw [if_pos rfl]
theorem Zn {H:Hp} {a b:Addr} {o:HO} (h:b≠a):upd H a o b=H b:=by unfold upd;rw [if_neg h]
theorem Zt {H:Hp} {a b:Addr} {o:HO} (h:H a=some o) (h':H b=none):a≠b:=by
 intro e;subst e;rw [h] at h';cases h'
section
variable (P:Program) (w:World)
noncomputable def ObjOk (H:Hp) (h:Heap) (a:Addr):HO→Prop
 | .lst xs=>xs.length≤sizeLine∧∃ (its:List Value) (n:Nat),Vals xs its∧h.get? a=some {cls := .type "list",data := .seq its.toArray n}
 | .tup xs=>xs.length≤sizeLine∧∃ its:List Value,Vals xs its∧IsTup h a its.toArray
 | .dK kvs=>kvs.length≤sizeLine∧(a == sysModules)=false∧∃ vs,KV kvs vs∧h.DictOf (mixKind P w) a vs
 | .dT _=>False
 | .set S n=>h.SetOf (intKind P w) a S n
 | .ins C dx fs=>H dx=some (.own a)∧fs.length≤1000∧dx≠a∧h.get? a=some (PySem.W.instObj C dx)∧
   ∃ mA,h.Ns1 dx mA∧(∀ f,RelO (fs.lookup f) (mA f))∧PySem.Within mA (fs.map (·.1))
 | .own _=>∃ o,h.get? a=some o
 | .xd fs=>∃ mA,h.Ns1 a mA∧∀ f,RelO (fs.lookup f) (mA f)
 | .rng lo hi=>∃ t u v,h.get? a=some {cls := .type "range",data := .fields #[.int lo t,.int hi u,.int 1 v]}
 | .frz o u=>h.get? a=some o∧ObjOk H h a u
 | .tbl ps=>h.get? a=some {cls := .none,data := .fields ps}
 | .met f x=>h.get? a=some (PySem.W.methodObj (.ref f) (.ref x))
 | .ext φ=>φ h∧(∃ o,h.get? a=some o)∧∀ h1 h2:Heap,φ h1→(∀ o,h1.get? a=some o→h2.get? a=some o)→φ h2
noncomputable def HOk (H:Hp) (h:Heap):Prop:=∀ a o,H a=some o→ObjOk P w H h a o
end
section
variable {P:Program} {w:World} {H H':Hp} {h h':Heap} {a:Addr} {o:HO}
theorem ObjOk.lt (x:ObjOk P w H h a o):a<h.objs.size:=by
 cases o with
 | lst xs=>obtain ⟨_,_,_,_,e⟩:=x;exact Heap.lt_size e
 | tup xs=>obtain ⟨_,_,_,p⟩:=x;exact p.lt
 | dK kvs=>obtain ⟨_,_,_,_,o,_,_,e,_⟩:=x;exact Heap.lt_size e
 | dT kvs=>exact (show False from x).elim
 | set S n=>obtain ⟨o,_,_,_,e,_⟩:=x;exact Heap.lt_size e
 | ins C dx fs=>obtain ⟨_,_,_,e,_⟩:=x;exact Heap.lt_size e
 | own y=>obtain ⟨_,e⟩:=x;exact Heap.lt_size e
 | xd fs=>obtain ⟨_,⟨_,_,_,e,_⟩,_⟩:=x;exact Heap.lt_size e
 | rng lo hi=>obtain ⟨_,_,_,e⟩:=x;exact Heap.lt_size e
 | frz ob u=>obtain ⟨e,_⟩:=x;exact Heap.lt_size e
 | tbl ps=>exact Heap.lt_size (show h.get? a=some _ from x)
 | met f y=>exact Heap.lt_size (show h.get? a=some _ from x)
 | ext φ=>obtain ⟨_,⟨_,e⟩,_⟩:=x;exact Heap.lt_size e
theorem ObjOk.stay (x:ObjOk P w H h a o) (k:∀ b u,(b=a∨H b=some (.own a))→h.get? b=some u→h'.get? b=some u)
  (ho:∀ b,H b=some (.own a)→H' b=some (.own a)) (ht:∀ b xs,H b=some (.tup xs)→H' b=some (.tup xs)):ObjOk P w H' h' a o:=by
 induction o with
 | lst xs=>obtain ⟨z,its,n,r,e⟩:=x;exact ⟨z,its,n,r,k _ _ (.inl rfl) e⟩
 | tup xs=>obtain ⟨z,its,r,ob,e,c⟩:=x;exact ⟨z,its,r,ob,k _ _ (.inl rfl) e,c⟩
 | dK kvs=>obtain ⟨z,y,vs,r,ob,es,ep,e,c⟩:=x;exact ⟨z,y,vs,r,ob,es,ep,k _ _ (.inl rfl) e,c⟩
 | dT kvs=>exact (show False from x).elim
 | set S n=>obtain ⟨ob,es,ep,t,e,c⟩:=x;exact ⟨ob,es,ep,t,k _ _ (.inl rfl) e,c⟩
 | ins C dx fs =>
  obtain ⟨d,z,ne,e,mA,⟨od,es,ep,e2,c⟩,r⟩:=x
  exact ⟨ho _ d,z,ne,k _ _ (.inl rfl) e,mA,⟨od,es,ep,k _ _ (.inr d) e2,c⟩,r⟩
 | own y=>obtain ⟨ob,e⟩:=x;exact ⟨ob,k _ _ (.inl rfl) e⟩
 | xd fs=>obtain ⟨mA,⟨od,es,ep,e,c⟩,r⟩:=x;exact ⟨mA,⟨od,es,ep,k _ _ (.inl rfl) e,c⟩,r⟩
 | rng lo hi=>obtain ⟨t,u,v,e⟩:=x;exact ⟨t,u,v,k _ _ (.inl rfl) e⟩
 | frz ob u ih=>obtain ⟨e,q⟩:=x;exact ⟨k _ _ (.inl rfl) e,ih q⟩
 | tbl ps =>
  have e:h.get? a=some {cls := .none,data := .fields ps}:=x
  show h'.get? a=some {cls := .none,data := .fields ps}
  exact k a _ (.inl rfl) e
 | met f y =>
  have e:h.get? a=some (PySem.W.methodObj (.ref f) (.ref y)):=x
  show h'.get? a=some (PySem.W.methodObj (.ref f) (.ref y))
  exact k a _ (.inl rfl) e
 | ext φ=>obtain ⟨p,⟨o,e⟩,st⟩:=x;exact ⟨st _ _ p fun o q=>k _ _ (.inl rfl) q,⟨o,k _ _ (.inl rfl) e⟩,st⟩
theorem HOk.lt (x:HOk P w H h) (e:H a=some o):a<h.objs.size:=(x a o e).lt
theorem HOk.fresh (x:HOk P w H h) (e:h.objs.size≤a):H a=none:=by
 cases q:H a with
 | none=>rfl
 | some u=>exact absurd (Nat.lt_of_lt_of_le (x.lt q) e) (Nat.lt_irrefl _)
theorem HOk.kept (x:HOk P w H h) (k:∀ b u,h.get? b=some u→h'.get? b=some u):HOk P w H h':=fun a o e =>
 (x a o e).stay (fun b u _ q=>k b u q) (fun _ q=>q) fun _ _ q=>q
theorem HOk.laid (x:HOk P w H h) (k:∀ b u,h.get? b=some u→h'.get? b=some u) (hp:h.objs.size≤a) (new:ObjOk P w (upd H a o) h' a o):HOk P w (upd H a o) h':=fun b u e=>by
 have hn:=x.fresh hp
 by_cases hb:b=a
 ·subst hb;rw [Zb] at e;cases e;exact new
 ·rw [Zn hb] at e
  exact (x b u e).stay (fun c v _ q=>k c v q) (fun c q=>by rw [Zn (Zt q hn)];exact q) fun c xs q=>by rw [Zn (Zt q hn)];exact q
end
noncomputable def Rd (H:Hp) (a:Addr) (u:HO):Prop:=H a=some u∨∃ o,H a=some (.frz o u)
theorem Rd.ok {P:Program} {w:World} {H:Hp} {h:Heap} {a:Addr} {u:HO} (r:Rd H a u) (x:HOk P w H h):ObjOk P w H h a u:=by
 rcases r with r | ⟨o,r⟩
 ·exact x a u r
 ·obtain ⟨_,q⟩:=x a _ r
  exact q
noncomputable def Mut:Option HO→Prop
 | some (.lst _)=>True
 | some (.dK _)=>True
 | some (.dT _)=>True
 | some (.set _ _)=>True
 | some (.ins _ _ _)=>True
 | some (.ext _)=>True
 | _=>False
section
variable {P:Program} {w:World} {H:Hp} {h h':Heap} {x e:Addr} {o':HO}
theorem HOk.write (ok:HOk P w H h) (mu:Mut (H x)) (he:e=x∨H e=some (.own x)) (k:∀ b u,b≠e→h.get? b=some u→h'.get? b=some u) (heo:∃ u,h'.get? e=some u)
  (new:ObjOk P w (upd H x o') h' x o'):HOk P w (upd H x o') h':=fun b u q=>by
 have nown:∀ c y,H c=some (.own y)→c≠x:=fun c y r z=>by subst z;rw [r] at mu;exact mu
 have ntup:∀ c xs,H c=some (.tup xs)→c≠x:=fun c xs r z=>by subst z;rw [r] at mu;exact mu
 by_cases hb:b=x
 ·subst hb;rw [Zb] at q;cases q;exact new
 ·rw [Zn hb] at q
  by_cases hbe:b=e
  ·have q':H b=some (.own x):=by
    rcases he with z | z
    ·exact absurd (hbe.trans z) hb
    ·rw [hbe];exact z
   rw [q] at q';cases q'
   obtain ⟨v,hv⟩:=heo
   exact ⟨v,by rw [hbe];exact hv⟩
  ·refine (ok b u q).stay (fun c v hc r=>k c v ?_ r) (fun c r=>by rw [Zn (nown c b r)];exact r) fun c xs r=>by rw [Zn (ntup c xs r)];exact r
   rcases hc with rfl | hc
   ·exact hbe
   ·rintro rfl
    rcases he with z | z
    ·exact nown c b hc z
    ·rw [hc] at z;cases z;exact hb rfl
end
structure Un (fs ex:List Addr) (H H':Hp) (h h':Heap):Prop where
 keep:∀ b o,h.get? b=some o→H b=none→b∉fs→b∉ex→h'.get? b=some o
 slot:∀ b o,h.get? b=some o→H b=none→b∈fs→b∉ex→∃ sl,h'.get? b=some {o with slots:=sl}
 free:∀ b o,h.get? b=some o→H b=none→b∉ex→H' b=none
 there:∀ b o,h.get? b=some o→b∉ex→∃ o',h'.get? b=some o'
 tups:∀ b xs,H b=some (.tup xs)→H' b=some (.tup xs)
 frzs:∀ b o u,H b=some (.frz o u)→H' b=some (.frz o u)
 tbls:∀ b ps,H b=some (.tbl ps)→∃ more,H' b=some (.tbl (ps++more))
section
variable {fs fs' ex ex':List Addr} {H H1 H2:Hp} {h h1 h2 h':Heap} {a x e:Addr} {o:HO}
theorem Un.any (u:Un fs ex H H1 h h1) {b:Addr} {ob:Obj} (q:h.get? b=some ob) (n:H b=none) (hx:b∉ex):∃ sl,h1.get? b=some {ob with slots:=sl}:=by
 by_cases hb:b∈fs
 ·exact u.slot b ob q n hb hx
 ·exact ⟨ob.slots,u.keep b ob q n hb hx⟩
theorem Un.kept (k:∀ b u,h.get? b=some u→h'.get? b=some u):Un fs ex H H h h' :=
 ⟨fun b ob q _ _ _=>k b ob q,fun b ob q _ _ _=>⟨ob.slots,k b ob q⟩,fun _ _ _ n _=>n,fun b ob q _=>⟨ob,k b ob q⟩,fun _ _ q=>q,fun _ _ _ q=>q,fun _ ps q=>⟨#[],by rw [q];simp⟩⟩
theorem Un.refl:Un fs ex H H h h:=Un.kept fun _ _ q=>q
theorem Un.laid (k:∀ b u,h.get? b=some u→h'.get? b=some u) (hp:h.objs.size≤a) (hn:H a=none):Un fs ex H (upd H a o) h h' where
 keep:=fun b u q _ _ _=>k b u q
 slot:=fun b u q _ _ _=>⟨u.slots,k b u q⟩
 free:=fun b u q n _=>by rw [Zn (Nat.ne_of_lt (Nat.lt_of_lt_of_le (Heap.lt_size q) hp))];exact n
 there:=fun b u q _=>⟨u,k b u q⟩
 tups:=fun b xs q=>by rw [Zn (Zt q hn)];exact q
 frzs:=fun b u xs q=>by rw [Zn (Zt q hn)];exact q
 tbls:=fun b ps q=>⟨#[],by rw [Zn (Zt q hn),q];simp⟩
theorem Un.write (mu:Mut (H x)) (he:e=x∨H e=some (.own x)) (k:∀ b u,b≠e→h.get? b=some u→h'.get? b=some u) (heo:∃ u,h'.get? e=some u):Un fs ex H (upd H x o) h h':=by
 have hx:∀ b,H b=none→b≠x:=fun b n z=>by subst z;rw [n] at mu;exact mu
 have hb:∀ b,H b=none→b≠e:=fun b n z=>by
  subst z
  rcases he with r | r
  ·exact hx b n r
  ·rw [n] at r;cases r
 have hm:∀ b u,H b=some u→¬Mut (some u)→b≠x:=fun b u q nm z=>by subst z;rw [q] at mu;exact nm mu
 refine ⟨fun b u q n _ _=>k b u (hb b n) q,fun b u q n _ _=>⟨u.slots,k b u (hb b n) q⟩,fun b u q n _=>by rw [Zn (hx b n)];exact n,fun b u q _=>?_,
  fun b xs q=>by rw [Zn (hm b _ q fun z=>z)];exact q,fun b u xs q=>by rw [Zn (hm b _ q fun z=>z)];exact q,fun b ps q=>⟨#[],by rw [Zn (hm b _ q fun z=>z),q];simp⟩⟩
 by_cases hbe:b=e
 ·subst hbe;exact heo
 ·exact ⟨u,k b u hbe q⟩
end
noncomputable def trk (h:Heap) (H:Hp):List Addr:=(List.range h.objs.size).filter fun a=>(H a).isSome
noncomputable def hidT (h:Heap) (H:Hp):Heap:=PySem.W.hideAll h (trk h H)
theorem Xei (h:Heap) (H:Hp):(hidT h H).objs.size=h.objs.size:=PySem.W.hideAll_size _ _
theorem Xjc {h:Heap} {H:Hp} {b:Addr} {o:Obj} (e:h.get? b=some o) (n:H b=none):(hidT h H).get? b=some o :=
 PySem.W.hideAll_get _ e fun hm=>by
  have q:(H b).isSome=true:=(List.mem_filter.mp hm).2
  rw [n] at q;simp at q
theorem Xmg {h:Heap} {H:Hp} {b:Addr} {o:Obj} (e:(hidT h H).get? b=some o):h.get? b=some o∧H b=none:=by
 have e':h.get? b=some o:=PySem.W.of_hideAll (trk h H) e
 refine ⟨e',?_⟩
 cases q:H b with
 | none=>rfl
 | some x =>
  have hm:b∈trk h H:=List.mem_filter.mpr ⟨List.mem_range.mpr (Heap.lt_size e'),by simp [q]⟩
  have z:(hidT h H).get? b=none:=PySem.W.hideAll_none (trk h H) hm
  rw [z] at e;cases e
noncomputable def allNews (g h:Heap) (L:Addr):List (Addr×Obj):=(List.range h.objs.size).filterMap fun a=>if a=L∨(g.get? a).isSome=true then none else (h.get? a).map fun o=>(a,o)
noncomputable def rest (g h:Heap) (L d:Addr):List (Addr×Obj):=(allNews g h L).filter fun p=>decide (p.1≠d)
end L2
namespace L2
open PySem PySem.Spec PyProof.Rows
structure Mod (K:PySem.W.Frag) (mg:Str→Option Value) (base:Heap):Prop where
 kin:K.In base
 glob:base.Ns mainGlobals mg
 blt:∃ mb,base.Ns builtinsNs mb∧∀ x:Str,x≠"__name__"→mb x=bootBuiltins x
 nolimit:base.NoLimit
structure Cx where
 prog:Program
 w:World
 K:PySem.W.Frag
 mg:Str→Option Value
 base:Heap
 A:Around
 N:List Str
 s₀:Shared
 H₀:Hp
 env:Env
 outer:List Env
 stack:List Env
 ex:List Addr
 fn:Str→Bool
 calm:Bool
 pn:List (Addr×Obj)
 xe:Value→Shared→Prop
noncomputable def frs (l:List Env):List Addr:=l.filterMap (·.frame)
noncomputable abbrev Cx.fs (X:Cx):List Addr:=frs X.outer
noncomputable def Vis (sc:Scope) (x:Str):Prop:=sc.names.lookup x=some .local∨sc.names.lookup x=some .cell∨sc.names.lookup x=some .free
noncomputable def Loc (sc:Scope) (x:Str):Prop:=sc.names.lookup x=some .local∨sc.names.lookup x=some .cell
noncomputable def Look (env:Env) (h:Heap) (m:Str→Option Value) (x:Str) (u:Value):Prop :=
 (env.kindOf x=some .local∧m x=some u)∨((env.kindOf x=some .cell∨env.kindOf x=some .free)∧∃ c,env.cells.lookup x=some c∧h.IsCell c (some u))
structure Cx.Ok (X:Cx):Prop where
 mod:Mod X.K X.mg X.base
 kind:X.env.scope.kind = .function
 glob:X.env.globals=mainGlobals
 blt:X.env.builtins=builtinsNs
 above:X.s₀.heap.objs.size≤X.env.locals
 inj:∀ x y c,X.env.cells.lookup x=some c→X.env.cells.lookup y=some c→x=y
 has:∀ x,(X.env.kindOf x=some .cell∨X.env.kindOf x=some .free)→∃ c,X.env.cells.lookup x=some c
 cab:∀ x c,X.fn x=true→X.env.cells.lookup x=some c→X.s₀.heap.objs.size≤c
 hd:X.calm=true→X.A.handled=none
 frames:X.A.frames=some X.stack
 stk:X.stack=X.outer∨(X.stack=X.env::X.outer∧X.env.frame=some X.env.locals)
 exf:∀ b∈X.ex,b≠X.env.locals∧∀ x c,X.env.cells.lookup x=some c→c≠b
 bs:∀ b o,X.base.get? b=some o→X.s₀.heap.get? b=some o∧X.H₀ b=none
 bsz:X.base.objs.size≤X.s₀.heap.objs.size
 noex:∀ b o,X.base.get? b=some o→b∉X.ex
 exfs:∀ b∈X.ex,b∉X.fs
 funs:X.s₀.heap.FunFrames X.base X.outer
 frf:∀ b∈X.fs,X.H₀ b=none
structure Inv (X:Cx) (pins:List (Addr×Obj)) (σ:List (Option V)) (H:Hp) (s:Shared):Prop where
 ok:X.Ok
 os:s.os=X.s₀.os
 bare:AllBare s.gens
 base:Un X.fs X.ex X.H₀ H X.s₀.heap s.heap
 loc:∃ m,s.heap.Ns X.env.locals m∧∀ (i:Nat) (x:Str) (v:V),X.N[i]?=some x→σ[i]?=some (some v)→Vis X.env.scope x→∃ u,RelV v u∧Look X.env s.heap m x u
 cell:∀ x c,X.env.cells.lookup x=some c→∃ v,s.heap.IsCell c v
 free:H X.env.locals=none
 freeC:∀ x c,X.env.cells.lookup x=some c→H c=none
 pin:∀ p∈X.pn++pins,s.heap.get? p.1=some p.2∧H p.1=none∧p.1≠X.env.locals∧p.1∉X.fs∧∀ v,p.2.data≠.cell v
 hok:HOk X.prog X.w H s.heap
 len:σ.length=X.N.length
section
variable {X:Cx} {pins:List (Addr×Obj)} {σ:List (Option V)} {H H':Hp} {s:Shared} {h':Heap}
theorem Cx.Ok.nofr (ok:X.Ok) {b:Addr} {o:Obj} (e:X.base.get? b=some o):b∉X.fs:=fun hb=>by
 have:=(ok.funs.mem hb).1
 rw [e] at this;cases this
theorem Inv.bs (I:Inv X pins σ H s):∀ b o,X.base.get? b=some o→s.heap.get? b=some o∧H b=none:=fun b o e =>
 ⟨I.base.keep b o (I.ok.bs b o e).1 (I.ok.bs b o e).2 (I.ok.nofr e) (I.ok.noex b o e),I.base.free b o (I.ok.bs b o e).1 (I.ok.bs b o e).2 (I.ok.noex b o e)⟩
theorem Inv.bk (I:Inv X pins σ H s):∀ b o,X.base.get? b=some o→s.heap.get? b=some o:=fun b o e=>(I.bs b o e).1
theorem Inv.mod (I:Inv X pins σ H s):Mod X.K X.mg X.base:=I.ok.mod
theorem Inv.kIn (I:Inv X pins σ H s):X.K.In s.heap:=I.ok.mod.kin.keeps I.bk
theorem Inv.lt (I:Inv X pins σ H s):X.env.locals<s.heap.objs.size:=let ⟨_,hn,_⟩:=I.loc;hn.lt
theorem Inv.sz (I:Inv X pins σ H s):X.s₀.heap.objs.size≤s.heap.objs.size:=Nat.le_trans I.ok.above (Nat.le_of_lt I.lt)
theorem Inv.nofs (I:Inv X pins σ H s) {a:Addr} (h:s.heap.objs.size≤a):a∉X.fs:=fun hb=>by
 obtain ⟨_,o,ho,_⟩:=I.ok.funs.mem hb
 exact absurd (Nat.lt_of_lt_of_le (Heap.lt_size ho) (Nat.le_trans I.sz h)) (Nat.lt_irrefl _)
theorem Inv.cne (I:Inv X pins σ H s):∀ x c,X.env.cells.lookup x=some c→c≠X.env.locals:=fun x c e z=>by
 obtain ⟨v,o,ho,hd⟩:=I.cell x c e
 obtain ⟨m,⟨o',es,ep,ho',hd',_⟩,_⟩:=I.loc
 rw [z,ho'] at ho;cases ho;rw [hd'] at hd;cases hd
theorem Inv.funs (I:Inv X pins σ H s):s.heap.FunFrames X.base X.outer:=by
 have all:∀ (l:List Env),(∀ b∈frs l,b∈X.fs)→X.s₀.heap.FunFrames X.base l→s.heap.FunFrames X.base l:=by
  intro l
  induction l with
  | nil=>intro _ _;trivial
  | cons env r ih =>
   intro hs hl
   obtain ⟨hk,⟨L,o,hf,hn,ho,hd⟩,hr⟩:=hl
   have hL:L∈X.fs:=hs L (by unfold frs;rw [List.filterMap_cons,hf];exact List.mem_cons_self)
   obtain ⟨sl,e⟩:=I.base.slot L o ho (I.ok.frf L hL) hL fun z=>I.ok.exfs L z hL
   exact ⟨hk,⟨L,_,hf,hn,e,hd⟩,ih (fun b hb=>hs b (by unfold frs;rw [List.filterMap_cons,hf];exact List.mem_cons_of_mem _ hb)) hr⟩
 exact all X.outer (fun _ hb=>hb) I.ok.funs
theorem Inv.stack (I:Inv X pins σ H s):s.heap.FunFrames X.base X.stack:=by
 rcases I.ok.stk with e | ⟨e,hf⟩
 ·rw [e];exact I.funs
 ·rw [e]
  obtain ⟨m,hn,_⟩:=I.loc
  refine .cons (by rw [I.ok.kind];decide) hf hn ?_ I.funs
  exact Heap.get?_none_of_le (Nat.le_trans I.ok.bsz I.ok.above)
theorem Inv.stkSub (I:Inv X pins σ H s):∀ b∈frs X.stack,b∈X.env.locals::X.fs:=fun b hb=>by
 rcases I.ok.stk with e | ⟨e,hf⟩
 ·rw [e] at hb;exact List.mem_cons_of_mem _ hb
 ·rw [e] at hb
  unfold frs at hb
  rw [List.filterMap_cons,hf] at hb
  exact hb
theorem Inv.stkFree (I:Inv X pins σ H s):∀ b∈frs X.stack,H b=none:=fun b hb=>by
 rcases List.mem_cons.mp (I.stkSub b hb) with e | hb
 ·rw [e];exact I.free
 ·obtain ⟨_,o,ho,_⟩:=I.ok.funs.mem hb
  exact I.base.free b o ho (I.ok.frf b hb) fun z=>I.ok.exfs b z hb
theorem Inv.step {g':Array GenState} {t':Nat} {d':Drawn} {ch:List Addr} (I:Inv X pins σ H s)
  (hch:∀ b∈ch,(b∈X.ex∨X.s₀.heap.objs.size≤b)∧b≠X.env.locals∧(∀ x c,X.env.cells.lookup x=some c→c≠b)∧∀ p∈X.pn++pins,p.1≠b)
  (keep:∀ b o,b≠X.env.locals→b∉X.fs→b∉ch→s.heap.get? b=some o→H b=none→h'.get? b=some o)
  (slot:∀ b o,b≠X.env.locals→b∈X.fs→b∉ch→s.heap.get? b=some o→H b=none→∃ sl,h'.get? b=some {o with slots:=sl}) (free:∀ b o,b∉ch→s.heap.get? b=some o→H b=none→H' b=none)
  (there:∀ b o,b∉ch→s.heap.get? b=some o→∃ o',h'.get? b=some o')
  (tups:∀ b xs,H b=some (.tup xs)→H' b=some (.tup xs)) (frzs:∀ b o u,H b=some (.frz o u)→H' b=some (.frz o u)) (tbls:∀ b ps,H b=some (.tbl ps)→∃ more,H' b=some (.tbl (ps++more)))
  (ns:∀ m,s.heap.Ns X.env.locals m→h'.Ns X.env.locals m) (hok:HOk X.prog X.w H' h') (hg:AllBare g') :
  Inv X pins σ H' {s with heap:=h',gens:=g',drawn:=d',toks:=t'}:=by
 have neL:∀ b o,X.s₀.heap.get? b=some o→b≠X.env.locals:=fun b o e=>Nat.ne_of_lt (Nat.lt_of_lt_of_le (Heap.lt_size e) I.ok.above)
 have neC:∀ b o,X.s₀.heap.get? b=some o→b∉X.ex→b∉ch:=fun b o e hx hb=>by
  rcases (hch b hb).1 with z | z
  ·exact hx z
  ·exact absurd (Nat.lt_of_lt_of_le (Heap.lt_size e) z) (Nat.lt_irrefl _)
 have cellK:∀ x c,X.env.cells.lookup x=some c→∀ v,s.heap.IsCell c v→h'.IsCell c v:=fun x c e v ⟨o,ho,hd⟩=>by
  have nch:c∉ch:=fun z=>(hch c z).2.2.1 x c e rfl
  by_cases hc:c∈X.fs
  ·obtain ⟨sl,q⟩:=slot c o (I.cne x c e) hc nch ho (I.freeC x c e)
   exact ⟨_,q,hd⟩
  ·exact ⟨o,keep c o (I.cne x c e) hc nch ho (I.freeC x c e),hd⟩
 refine ⟨I.ok,I.os,hg,⟨fun b o e n hb hx=>?_,fun b o e n hb hx=>?_,fun b o e n hx=>?_,fun b o e hx=>?_,fun b xs e=>tups b xs (I.base.tups b xs e),fun b o xs e=>frzs b o xs (I.base.frzs b o xs e),fun b ps e=>?_⟩,?_,fun x c e=>?_,?_,fun x c e=>?_,fun p hp=>?_,hok,I.len⟩
 ·exact keep b o (neL b o e) hb (neC b o e hx) (I.base.keep b o e n hb hx) (I.base.free b o e n hx)
 ·obtain ⟨sl,e1⟩:=I.base.slot b o e n hb hx
  obtain ⟨sl',e2⟩:=slot b _ (neL b o e) hb (neC b o e hx) e1 (I.base.free b o e n hx)
  exact ⟨sl',e2⟩
 ·obtain ⟨o',e1⟩:=I.base.there b o e hx
  exact free b o' (neC b o e hx) e1 (I.base.free b o e n hx)
 ·obtain ⟨o',e1⟩:=I.base.there b o e hx
  exact there b o' (neC b o e hx) e1
 ·obtain ⟨m1,e1⟩:=I.base.tbls b ps e
  obtain ⟨m2,e2⟩:=tbls b _ e1
  exact ⟨m1++m2,by rw [e2,Array.append_assoc]⟩
 ·obtain ⟨m,hn,hl⟩:=I.loc
  refine ⟨m,ns m hn,fun i x v e1 e2 e3=>?_⟩
  obtain ⟨u,r,l⟩:=hl i x v e1 e2 e3
  refine ⟨u,r,?_⟩
  rcases l with l | ⟨k,c,e,z⟩
  ·exact .inl l
  ·exact .inr ⟨k,c,e,cellK x c e _ z⟩
 ·obtain ⟨v,z⟩:=I.cell x c e
  exact ⟨v,cellK x c e v z⟩
 ·obtain ⟨m,⟨o,_,_,ho,_⟩,_⟩:=I.loc
  exact free _ o (fun z=>(hch _ z).2.1 rfl) ho I.free
 ·obtain ⟨v,o,ho,hd⟩:=I.cell x c e
  exact free c o (fun z=>(hch c z).2.2.1 x c e rfl) ho (I.freeC x c e)
 ·obtain ⟨e,n,ne,nf,d⟩:=I.pin p hp
  have nch:p.1∉ch:=fun z=>(hch p.1 z).2.2.2 p hp rfl
  exact ⟨keep p.1 p.2 ne nf nch e n,free p.1 p.2 nch e n,ne,nf,d⟩
theorem Inv.un {t':Nat} (I:Inv X pins σ H s) (u:Un X.fs [] H H' s.heap h') (hok:HOk X.prog X.w H' h'):Inv X pins σ H' {s with heap:=h',toks:=t'}:=by
 obtain ⟨m,⟨o,es,ep,ho,r⟩,_⟩:=id I.loc
 obtain ⟨sl,hL⟩:=u.any ho I.free (by simp)
 exact I.step (g':=s.gens) (d':=s.drawn) (ch:=[]) (fun _ z=>nomatch z) (fun b o _ hb _ e n=>u.keep b o e n hb (by simp)) (fun b o _ hb _ e n=>u.slot b o e n hb (by simp)) (fun b o _ e n=>u.free b o e n (by simp)) (fun b o _ e=>u.there b o e (by simp)) u.tups u.frzs u.tbls (fun m' hm=>by
  obtain ⟨o',es',ep',ho',r'⟩:=hm
  rw [ho] at ho';cases ho'
  exact ⟨_,es',ep',hL,r'⟩) hok I.bare
theorem Inv.call {g':Array GenState} {t':Nat} {d':Drawn} {ch:List Addr} (I:Inv X pins σ H s) (u:Un (frs X.stack) ch H H' s.heap h') (hok:HOk X.prog X.w H' h') (hg:AllBare g')
  (hch:∀ b∈ch,(b∈X.ex∨X.s₀.heap.objs.size≤b)∧b≠X.env.locals∧(∀ x c,X.env.cells.lookup x=some c→c≠b)∧∀ p∈X.pn++pins,p.1≠b) :
  Inv X pins σ H' {s with heap:=h',gens:=g',drawn:=d',toks:=t'}:=by
 obtain ⟨m,⟨o,es,ep,ho,r⟩,_⟩:=id I.loc
 obtain ⟨sl,hL⟩:=u.any ho I.free fun z=>(hch _ z).2.1 rfl
 exact I.step (ch:=ch) hch (fun b o hL hb hc e n=>u.keep b o e n (fun z=>(List.mem_cons.mp (I.stkSub b z)).elim hL hb) hc) (fun b o _ _ hc e n=>u.any e n hc) (fun b o hc e n=>u.free b o e n hc) (fun b o hc e=>u.there b o e hc) u.tups u.frzs u.tbls (fun m' hm=>by
  obtain ⟨o',es',ep',ho',r'⟩:=hm
  rw [ho] at ho';cases ho'
  exact ⟨_,es',ep',hL,r'⟩) hok hg
theorem Inv.turned {t':Nat} {it:Addr} (I:Inv X pins σ H s) (k:∀ b o,b≠it→s.heap.get? b=some o→h'.get? b=some o) (hn:H it=none) (hL:it≠X.env.locals)
  (h1:it∈X.ex∨X.s₀.heap.objs.size≤it) (h2:∀ x c,X.env.cells.lookup x=some c→c≠it) (h3:∀ p∈X.pn++pins,p.1≠it):Inv X pins σ H {s with heap:=h',toks:=t'}:=by
 have nit:∀ b u,H b=some u→b≠it:=fun b u e z=>by rw [z,hn] at e;cases e
 refine I.step (g':=s.gens) (d':=s.drawn) (ch:=[it]) (fun b hb=>?_) (fun b o _ _ hc e _=>k b o (fun z=>hc (by simp [z])) e) (fun b o _ _ hc e _=>⟨o.slots,k b o (fun z=>hc (by simp [z])) e⟩) (fun _ _ _ _ n=>n)
  (fun b o hc e=>⟨o,k b o (fun z=>hc (by simp [z])) e⟩) (fun _ _ e=>e) (fun _ _ _ e=>e) (fun b ps e=>⟨#[],by rw [e];simp⟩) (fun m hm=>?_) (fun b u e=>?_) I.bare
 ·have e:b=it:=by simpa using hb
  subst e
  exact ⟨h1,hL,h2,h3⟩
 ·obtain ⟨o,es,ep,ho,r⟩:=hm
  exact ⟨o,es,ep,k _ o (Ne.symm hL) ho,r⟩
 ·refine (I.hok b u e).stay (fun c v hc q=>k c v ?_ q) (fun _ q=>q) fun _ _ q=>q
  rcases hc with z | z
  ·rw [z];exact nit b u e
  ·exact nit c _ z
theorem Inv.tok (I:Inv X pins σ H s) (t:Nat):Inv X pins σ H {s with toks:=t}:=I.un (h':=s.heap) (t':=t) Un.refl I.hok
theorem Inv.kept {t':Nat} (I:Inv X pins σ H s) (k:∀ b u,s.heap.get? b=some u→h'.get? b=some u):Inv X pins σ H {s with heap:=h',toks:=t'}:=I.un (Un.kept k) (I.hok.kept k)
theorem Inv.laid {a:Addr} {o:HO} {t':Nat} (I:Inv X pins σ H s) (k:∀ b u,s.heap.get? b=some u→h'.get? b=some u) (hp:s.heap.objs.size≤a) (new:ObjOk X.prog X.w (upd H a o) h' a o) :
  Inv X pins σ (upd H a o) {s with heap:=h',toks:=t'}:=I.un (Un.laid k hp (I.hok.fresh hp)) (I.hok.laid k hp new)
theorem Inv.write {x e:Addr} {o:HO} {t':Nat} (I:Inv X pins σ H s) (mu:Mut (H x)) (he:e=x∨H e=some (.own x)) (k:∀ b u,b≠e→s.heap.get? b=some u→h'.get? b=some u) (heo:∃ u,h'.get? e=some u)
  (new:ObjOk X.prog X.w (upd H x o) h' x o):Inv X pins σ (upd H x o) {s with heap:=h',toks:=t'}:=I.un (Un.write mu he k heo) (I.hok.write mu he k heo new)
theorem Inv.pins_of {pins':List (Addr×Obj)} (I:Inv X pins σ H s) (h:∀ p∈pins',s.heap.get? p.1=some p.2∧H p.1=none∧p.1≠X.env.locals∧p.1∉X.fs∧∀ v,p.2.data≠.cell v):Inv X pins' σ H s :=
 ⟨I.ok,I.os,I.bare,I.base,I.loc,I.cell,I.free,I.freeC,fun p hp=>(List.mem_append.mp hp).elim (fun z=>I.pin p (List.mem_append_left _ z)) (h p),I.hok,I.len⟩
theorem Zlf {N:List Str} (hN:N.Nodup) {i j:Nat} {x:Str} (a:N[i]?=some x) (b:N[j]?=some x):i=j:=by
 obtain ⟨h1,e1⟩:=List.getElem?_eq_some_iff.mp a
 obtain ⟨h2,e2⟩:=List.getElem?_eq_some_iff.mp b
 exact (List.getElem_inj hN).mp (e1.trans e2.symm)
theorem Zpf {M:Model} {A:Around} {E:Value→Shared→Prop} {i:Nat} {x:Str} {v:V} {u:Value} {Q:Unit→Shared→Prop} (I:Inv X pins σ H s) (hN:X.N.Nodup) (hi:X.N[i]?=some x) (hx:Loc X.env.scope x) (r:RelV v u)
  (h:∀ s',Inv X pins (σ.set i (some v)) H s'→(∃ a,Heap.SameBut a s.heap s'.heap∧(a=X.env.locals∨X.env.cells.lookup x=some a))→Q () s') (hf:X.fn x=true∨X.env.scope.names.lookup x=some .local:=by first | exact .inl rfl | exact .inr rfl | assumption):wpAny M A (storeName X.env x u) Q E s:=by
 obtain ⟨m,hn,hl⟩:=id I.loc
 have hcls:(X.env.scope.kind == .class||(X.env.scope.kind == .module&&X.env.locals != X.env.globals))=false:=by rw [I.ok.kind];rfl
 have hiσ:i<σ.length:=by rw [I.len];exact (List.getElem?_eq_some_iff.mp hi).1
 have cne:=I.cne
 have tracked:∀ {a:Addr} {h':Heap},(∃ o,s.heap.get? a=some o∧H a=none)→Heap.SameBut a s.heap h'→HOk X.prog X.w H h':=fun {a h'} ha hs b ob e=>by
  obtain ⟨_,_,hfree⟩:=ha
  refine (I.hok b ob e).stay (fun c w' hc q=>(hs.2 c ?_).trans q) (fun _ q=>q) fun _ _ q=>q
  rintro rfl
  rcases hc with rfl | hc
  ·rw [hfree] at e;cases e
  ·rw [hfree] at hc;cases hc
 rcases hx with hk | hk
 ·refine wpAny_storeName_local hk hn (fun h' hn' hs=>?_) hcls
  obtain ⟨oL,_,_,hoL,_⟩:=id hn
  refine h _ ⟨I.ok,I.os,I.bare,⟨fun b o e n hb hx=>?_,fun b o e n hb hx=>?_,I.base.free,fun b o e hx=>?_,I.base.tups,I.base.frzs,I.base.tbls⟩,⟨_,hn',fun j y v' e1 e2 e3=>?_⟩,fun y c e=>?_,I.free,I.freeC,fun p hp=>?_,tracked ⟨oL,hoL,I.free⟩ hs,by simpa using I.len⟩ ⟨_,hs,.inl rfl⟩
  ·exact (hs.2 b (Nat.ne_of_lt (Nat.lt_of_lt_of_le (Heap.lt_size e) I.ok.above))).trans (I.base.keep b o e n hb hx)
  ·obtain ⟨sl,e1⟩:=I.base.slot b o e n hb hx
   exact ⟨sl,(hs.2 b (Nat.ne_of_lt (Nat.lt_of_lt_of_le (Heap.lt_size e) I.ok.above))).trans e1⟩
  ·obtain ⟨o',e1⟩:=I.base.there b o e hx
   exact ⟨o',(hs.2 b (Nat.ne_of_lt (Nat.lt_of_lt_of_le (Heap.lt_size e) I.ok.above))).trans e1⟩
  ·by_cases hj:j=i
   ·subst hj
    rw [hi] at e1;cases e1
    rw [List.getElem?_set_self hiσ] at e2
    cases e2
    exact ⟨u,r,.inl ⟨hk,by simp⟩⟩
   ·rw [List.getElem?_set_ne (Ne.symm hj)] at e2
    obtain ⟨u',r',q⟩:=hl j y v' e1 e2 e3
    refine ⟨u',r',?_⟩
    rcases q with ⟨k,e⟩ | ⟨k,c,e,z⟩
    ·refine .inl ⟨k,?_⟩
     have:y≠x:=fun e=>hj (Zlf hN e1 (e ▸ hi))
     simp [this,e]
    ·exact .inr ⟨k,c,e,z.sameBut hs (cne y c e)⟩
  ·obtain ⟨w',z⟩:=I.cell y c e
   exact ⟨w',z.sameBut hs (cne y c e)⟩
  ·obtain ⟨e,n,ne,nf,d⟩:=I.pin p hp
   exact ⟨(hs.2 p.1 ne).trans e,n,ne,nf,d⟩
 ·have hfn:X.fn x=true:=by
   rcases hf with z | z
   ·exact z
   ·rw [z] at hk;cases hk
  obtain ⟨c,hc⟩:=I.ok.has x (.inl hk)
  obtain ⟨w',z⟩:=I.cell x c hc
  refine wpAny_storeName_cell I.ok.kind hk hc z (fun h' hc' hs=>?_)
  obtain ⟨oc,hoc,hocd⟩:=id z
  refine h {s with heap:=h'} ⟨I.ok,I.os,I.bare,⟨fun b o e n hb hx=>?_,fun b o e n hb hx=>?_,I.base.free,fun b o e hx=>?_,I.base.tups,I.base.frzs,I.base.tbls⟩,⟨m,hn.sameBut hs (Ne.symm (cne x c hc)),fun j y v' e1 e2 e3=>?_⟩,fun y c' e=>?_,I.free,I.freeC,fun p hp=>?_,tracked ⟨oc,hoc,I.freeC x c hc⟩ hs,by simpa using I.len⟩ ⟨c,hs,.inr hc⟩
  ·exact (hs.2 b (Nat.ne_of_lt (Nat.lt_of_lt_of_le (Heap.lt_size e) (I.ok.cab x c hfn hc)))).trans (I.base.keep b o e n hb hx)
  ·obtain ⟨sl,e1⟩:=I.base.slot b o e n hb hx
   exact ⟨sl,(hs.2 b (Nat.ne_of_lt (Nat.lt_of_lt_of_le (Heap.lt_size e) (I.ok.cab x c hfn hc)))).trans e1⟩
  ·obtain ⟨o',e1⟩:=I.base.there b o e hx
   exact ⟨o',(hs.2 b (Nat.ne_of_lt (Nat.lt_of_lt_of_le (Heap.lt_size e) (I.ok.cab x c hfn hc)))).trans e1⟩
  ·by_cases hj:j=i
   ·subst hj
    rw [hi] at e1;cases e1
    rw [List.getElem?_set_self hiσ] at e2
    cases e2
    exact ⟨u,r,.inr ⟨.inl hk,c,hc,hc'⟩⟩
   ·rw [List.getElem?_set_ne (Ne.symm hj)] at e2
    obtain ⟨u',r',q⟩:=hl j y v' e1 e2 e3
    refine ⟨u',r',?_⟩
    rcases q with q | ⟨k,c',e,z'⟩
    ·exact .inl q
    ·refine .inr ⟨k,c',e,z'.sameBut hs ?_⟩
     rintro rfl
     exact hj (Zlf hN e1 (I.ok.inj _ _ _ e hc ▸ hi))
  ·by_cases hcc:c'=c
   ·subst hcc;exact ⟨_,hc'⟩
   ·obtain ⟨w2,z2⟩:=I.cell y c' e
    exact ⟨w2,z2.sameBut hs hcc⟩
  ·obtain ⟨e,n,ne,nf,d⟩:=I.pin p hp
   refine ⟨(hs.2 p.1 ?_).trans e,n,ne,nf,d⟩
   intro q
   rw [q,hoc] at e
   have q':oc=p.2:=Option.some.inj e
   exact d w' (by rw [← q'];exact hocd)
theorem Zje {M:Model} {A:Around} {E:Value→Shared→Prop} {i:Nat} {x:Str} {v:V} {u:Value} {Q:Unit→Shared→Prop} (I:Inv X pins σ H s) (hN:X.N.Nodup) (hi:X.N[i]?=some x) (hx:Loc X.env.scope x) (r:RelV v u)
  (h:∀ s',Inv X pins (σ.set i (some v)) H s'→Q () s') (hf:X.fn x=true∨X.env.scope.names.lookup x=some .local:=by first | exact .inl rfl | exact .inr rfl | assumption):wpAny M A (storeName X.env x u) Q E s :=
 Zpf I hN hi hx r (fun s' I' _=>h s' I') hf
theorem Inv.call' {s':Shared} {ch:List Addr} (I:Inv X pins σ H s) (ho:s'.os=s.os) (u:Un (frs X.stack) ch H H' s.heap s'.heap) (hok:HOk X.prog X.w H' s'.heap) (hg:AllBare s'.gens)
  (hch:∀ b∈ch,(b∈X.ex∨X.s₀.heap.objs.size≤b)∧b≠X.env.locals∧(∀ x c,X.env.cells.lookup x=some c→c≠b)∧∀ p∈X.pn++pins,p.1≠b):Inv X pins σ H' s':=by
 obtain ⟨h',g',d',t',o'⟩:=s'
 have e:o'=s.os:=ho
 subst e
 exact I.call (g':=g') (t':=t') (d':=d') u hok hg hch
end
noncomputable abbrev XK:=Value→Option Addr→Hp→Prop
noncomputable abbrev St:=List (Option V)
noncomputable abbrev VK:=V→Hp→Prop
noncomputable abbrev TE:=St→Hp→VK→Prop
noncomputable abbrev TT:=St→Hp→(Bool→Hp→Prop)→Prop
noncomputable abbrev TA:=St→Hp→(List V→Hp→Prop)→Prop
structure Ends where
 nx:St→Hp→Prop
 rt:VK
 bk:St→Hp→Prop:=fun _ _=>False
 ct:St→Hp→Prop:=fun _ _=>False
noncomputable abbrev TS:=Ends→St→Hp→Prop
noncomputable def EP (X:Cx) (pins:List (Addr×Obj)) (σ:St) (Q:VK) (u:Value) (s':Shared):Prop:=∃ v H',Inv X pins σ H' s'∧RelV v u∧Q v H'
noncomputable def TP (X:Cx) (pins:List (Addr×Obj)) (σ:St) (Q:Bool→Hp→Prop) (b:Bool) (s':Shared):Prop:=∃ H',Inv X pins σ H' s'∧Q b H'
noncomputable def AP (X:Cx) (pins:List (Addr×Obj)) (σ:St) (Q:List V→Hp→Prop) (us:List Value) (s':Shared):Prop:=∃ vs H',Inv X pins σ H' s'∧Vals vs us∧Q vs H'
noncomputable def SP (X:Cx) (pins:List (Addr×Obj)) (D:Ends) (f:Flow) (s':Shared):Prop :=
 match f with
 | .next=>∃ σ' H',Inv X pins σ' H' s'∧D.nx σ' H'
 | .brk=>∃ σ' H',Inv X pins σ' H' s'∧D.bk σ' H'
 | .cont=>∃ σ' H',Inv X pins σ' H' s'∧D.ct σ' H'
 | .ret u=>∃ v σ' H',Inv X pins σ' H' s'∧RelV v u∧D.rt v H'
noncomputable def PE (X:Cx) (e:Expr) (t:TE):Prop :=
 ∀ (pins:List (Addr×Obj)) (s:Shared) (σ:St) (H:Hp) (Q:VK),Inv X pins σ H s→t σ H Q→wpAny (model X.prog X.w) X.A (eval e X.env) (EP X pins σ Q) X.xe s
noncomputable def PT (X:Cx) (e:Expr) (t:TT):Prop :=
 ∀ (pins:List (Addr×Obj)) (s:Shared) (σ:St) (H:Hp) (Q:Bool→Hp→Prop),Inv X pins σ H s→t σ H Q→wpAny (model X.prog X.w) X.A (isTrue e X.env (eval e X.env)) (TP X pins σ Q) X.xe s
noncomputable def PW (X:Cx) (e:Expr) (t:TT):Prop :=
 ∀ (whole:Sem Value) (pins:List (Addr×Obj)) (s:Shared) (σ:St) (H:Hp) (Q:Bool→Hp→Prop),Inv X pins σ H s→t σ H Q→wpAny (model X.prog X.w) X.A (isTrue e X.env whole) (TP X pins σ Q) X.xe s
theorem PW.pt {X:Cx} {e:Expr} {t:TT} (h:PW X e t):PT X e t:=h _
noncomputable def PA (X:Cx) (es:List Expr) (t:TA):Prop :=
 ∀ (pos:Pos) (pins:List (Addr×Obj)) (s:Shared) (σ:St) (H:Hp) (Q:List V→Hp→Prop),Inv X pins σ H s→t σ H Q→wpAny (model X.prog X.w) X.A (spliced (backTo pos (starEach es X.env))) (AP X pins σ Q) X.xe s
noncomputable def PS (X:Cx) (st:Stmt) (t:TS):Prop :=
 ∀ (pins:List (Addr×Obj)) (s:Shared) (σ:St) (H:Hp) (D:Ends),Inv X pins σ H s→t D σ H→wpAny (model X.prog X.w) X.A (exec st X.env) (SP X pins D) X.xe s
noncomputable def PSs (X:Cx) (st:List Stmt) (t:TS):Prop :=
 ∀ (pins:List (Addr×Obj)) (s:Shared) (σ:St) (H:Hp) (D:Ends),Inv X pins σ H s→t D σ H→wpAny (model X.prog X.w) X.A (execs st X.env) (SP X pins D) X.xe s
theorem thn {α:Type} {t:Sem α} {Q Q':α→Shared→Prop} {M:Model} {A:Around} {E:Value→Shared→Prop} {s:Shared} (h:wpAny M A t Q E s) (hQ:∀ a s,Q a s→Q' a s):wpAny M A t Q' E s:=wpAny_mono h hQ fun _ _ x=>x
end L2
namespace L2
open PySem PySem.Spec PyProof.Rows
section
variable {X:Cx}
noncomputable def tVar (i:Nat):TE:=fun σ H Q=>∃ v,σ[i]?=some (some v)∧Q v H
noncomputable def tC (v:V):TE:=fun _ H Q=>Q v H
theorem Xoj {i:Nat} {x:Str} {pos:Pos} (hN:X.N[i]?=some x) (hv:Vis X.env.scope x) (hd:(x == ("__debug__":Str))=false:=by decide) (hcd:(x == ("__classdict__":Str))=false:=by decide):PE X (.Name x pos) (tVar i):=by
 intro pins s σ H Q I h
 obtain ⟨v,e,h⟩:=h
 obtain ⟨m,hn,hl⟩:=I.loc
 obtain ⟨u,r,l⟩:=hl i x v hN e hv
 have fin:EP X pins σ Q u s:=⟨v,H,I,r,h⟩
 rcases l with ⟨hk,hm⟩ | ⟨hk,c,hc,hcell⟩
 ·exact wpAny_Name (wpAny_loadName_local I.ok.kind hk hn hm fin) hd
 ·rcases hk with hk | hk
  ·exact wpAny_Name (wpAny_loadName_cell I.ok.kind hk hc hcell fin) hd
  ·exact wpAny_Name (wpAny_loadName_free I.ok.kind hk hc hcell fin hcd) hd
theorem Zf {i j pos}:PE X (.Constant (.int i) j pos) (tC (.int i)):=fun _ _ _ H _ I h=>wpAny_Constant_int ⟨.int i,H,I.tok _,⟨_,rfl⟩,h⟩
theorem Xhj {b j pos}:PE X (.Constant (.bool b) j pos) (tC (.bl b)):=fun _ _ _ H _ I h=>Constant_bool ⟨.bl b,H,I,rfl,h⟩
theorem Zfh {j pos}:PE X (.Constant .none j pos) (tC .non):=fun _ _ _ H _ I h=>Constant_none ⟨.non,H,I,rfl,h⟩
theorem Ze {x j pos}:PE X (.Constant (.str x) j pos) (tC (.str x)):=fun _ _ _ H _ I h=>Calls.Constant_str ⟨.str x,H,I.tok _,⟨_,rfl⟩,h⟩
noncomputable def Gl (X:Cx) (x:Str):Prop:=X.env.kindOf x=some .globalImplicit
theorem Jo {E:Value→Shared→Prop} {pins:List (Addr×Obj)} {s:Shared} {σ:St} {H:Hp} {x:Str} {u:Value} {pos:Pos} {Q:Value→Shared→Prop} (I:Inv X pins σ H s) (hg:Gl X x) (hm:X.mg x=some u) (h:Q u s)
  (hd:(x == ("__debug__":Str))=false:=by decide):wpAny (model X.prog X.w) X.A (eval (.Name x pos) X.env) Q E s :=
 Calls.Name_function_global I.ok.kind hg (Calls.loadGlobal_global (by rw [I.ok.glob];exact I.mod.glob.keeps I.bk) hm h) hd
theorem Zda {E:Value→Shared→Prop} {pins:List (Addr×Obj)} {s:Shared} {σ:St} {H:Hp} {x:Str} {u:Value} {pos:Pos} {Q:Value→Shared→Prop} (I:Inv X pins σ H s) (hg:Gl X x) (hm:X.mg x=none) (hv:bootBuiltins x=some u) (h:Q u s)
  (hn:x≠"__name__":=by decide) (hd:(x == ("__debug__":Str))=false:=by decide):wpAny (model X.prog X.w) X.A (eval (.Name x pos) X.env) Q E s:=by
 obtain ⟨mb,h1,h2⟩:=I.mod.blt
 exact Calls.Name_function_global I.ok.kind hg (Calls.loadGlobal_builtin (by rw [I.ok.glob];exact I.mod.glob.keeps I.bk) hm (by rw [I.ok.blt];exact h1.keeps I.bk) ((h2 x hn).trans hv) h) hd
theorem Xmb {x:Str} {v:V} {u:Value} {pos:Pos} (hg:Gl X x) (hm:X.mg x=some u) (r:RelV v u) (hd:(x == ("__debug__":Str))=false:=by decide):PE X (.Name x pos) (tC v) :=
 fun _ _ _ H _ I h=>Jo I hg hm ⟨v,H,I,r,h⟩ hd
theorem Xcc {x:Str} {v:V} {u:Value} {pos:Pos} (hg:Gl X x) (hm:X.mg x=none) (hv:bootBuiltins x=some u) (r:RelV v u) (hn:x≠"__name__":=by decide) (hd:(x == ("__debug__":Str))=false:=by decide):PE X (.Name x pos) (tC v) :=
 fun _ _ _ H _ I h=>Zda I hg hm hv ⟨v,H,I,r,h⟩ hn hd
variable {a b:Expr} {ta tb:TE} {pos:Pos}
noncomputable def PC (X:Cx) (op:CmpOp) (a b:Expr) (t:TE):Prop :=
 ∀ (pins:List (Addr×Obj)) (s:Shared) (σ:St) (H:Hp) (Q:VK),Inv X pins σ H s→t σ H Q→
  wpAny (model X.prog X.w) X.A (eval a X.env) (fun v s₁=>wpAny (model X.prog X.w) X.A (eval b X.env) (fun u s₂=>wpAny (model X.prog X.w) X.A (compareOp op v u) (EP X pins σ Q) X.xe s₂) X.xe s₁) X.xe s
variable {tA tB':TT} {rest:List Expr}
noncomputable def tAnd (t u:TT):TT:=fun σ H Q=>t σ H fun c H1=>if c=true then u σ H1 Q else Q false H1
noncomputable def tOr (t u:TT):TT:=fun σ H Q=>t σ H fun c H1=>if c=true then Q true H1 else u σ H1 Q
noncomputable def tNot (t:TT):TT:=fun σ H Q=>t σ H fun c H1=>Q (!c) H1
theorem Jd (ha:PT X a tA):PW X (.BoolOp .And [a] pos) tA:=by
 intro wh pins s σ H Q I h
 refine isTrue_and (thn (ha pins s σ H Q I h) fun c s1 e=>?_)
 cases c with
 | true=>exact isTrue_and_nil e
 | false=>exact e
theorem Wn (ha:PT X a tA):PW X (.BoolOp .Or [a] pos) tA:=by
 intro wh pins s σ H Q I h
 refine isTrue_or (thn (ha pins s σ H Q I h) fun c s1 e=>?_)
 cases c with
 | false=>exact isTrue_or_nil e
 | true=>exact e
theorem Jn (ha:PT X a tA) (hb:PW X (.BoolOp .And (b::rest) pos) tB'):PW X (.BoolOp .And (a::b::rest) pos) (tAnd tA tB'):=by
 intro wh pins s σ H Q I h
 refine isTrue_and (thn (ha pins s σ H _ I h) fun c s1 ⟨H1,I1,q1⟩=>?_)
 cases c with
 | true=>exact hb wh pins s1 σ H1 Q I1 q1
 | false=>exact ⟨H1,I1,q1⟩
theorem Jk (ha:PT X a tA) (hb:PW X (.BoolOp .Or (b::rest) pos) tB'):PW X (.BoolOp .Or (a::b::rest) pos) (tOr tA tB'):=by
 intro wh pins s σ H Q I h
 refine isTrue_or (thn (ha pins s σ H _ I h) fun c s1 ⟨H1,I1,q1⟩=>?_)
 cases c with
 | true=>exact ⟨H1,I1,q1⟩
 | false=>exact hb wh pins s1 σ H1 Q I1 q1
theorem Qs (ha:PT X a tA):PT X (.UnaryOp .Not a pos) (tNot tA):=by
 intro pins s σ H Q I h
 exact isTrue_not (ha pins s σ H (fun c H1=>Q (!c) H1) I h)
noncomputable def tAndV (ta tb:TE):TE:=fun σ H Q=>ta σ H fun x H1=>∃ c,x = .bl c∧if c=true then tb σ H1 Q else Q (.bl false) H1
theorem Xhg {op} {t:TE} (h:PE X a t):PE X (.BoolOp op [a] pos) t:=fun pins s σ H Q I hw=>BoolOp_one (h pins s σ H Q I hw)
theorem Zzj (ha:PE X a ta) (hb:PE X (.BoolOp .And (b::rest) pos) tb):PE X (.BoolOp .And (a::b::rest) pos) (tAndV ta tb):=by
 intro pins s σ H Q I h
 refine BoolOp_and (thn (ha pins s σ H _ I h) fun v s1 ⟨x,H1,I1,r1,q1⟩=>?_)
 obtain ⟨c,rfl,q1⟩:=q1
 cases r1
 refine wpAny_truthy_bool ?_
 cases c with
 | true=>exact hb pins s1 σ H1 Q I1 q1
 | false=>exact ⟨.bl false,H1,I1,rfl,q1⟩
noncomputable def tIf (t:TT) (ta tb:TE):TE:=fun σ H Q=>t σ H fun c H1=>if c=true then ta σ H1 Q else tb σ H1 Q
theorem Xhi {c:Expr} (hc:PT X c tA) (ha:PE X a ta) (hb:PE X b tb):PE X (.IfExp c a b pos) (tIf tA ta tb):=by
 intro pins s σ H Q I h
 refine wpAny_IfExp (thn (hc pins s σ H _ I h) fun d s1 ⟨H1,I1,q1⟩=>?_)
 cases d with
 | true=>exact ha pins s1 σ H1 Q I1 q1
 | false=>exact hb pins s1 σ H1 Q I1 q1
end
end L2
namespace L2
open PySem PySem.Spec PyProof.Rows
noncomputable def SqL (K:PySem.W.Frag) (H:Hp) (a:Addr) (xs:List V):Prop :=
 Rd H a (.lst xs)∨
  ∃ (o:Obj) (its:Array Value) (n:Nat),K.lookup a=some o∧o.cls = .type "list"∧o.dict=none∧o.data = .seq its n∧its.size≤sizeLine∧Vals xs its.toList
noncomputable def SqT (K:PySem.W.Frag) (H:Hp) (a:Addr) (xs:List V):Prop :=
 Rd H a (.tup xs)∨
  ∃ (o:Obj) (its:Array Value) (n:Nat),K.lookup a=some o∧o.cls = .type "tuple"∧o.data = .seq its n∧its.size≤sizeLine∧Vals xs its.toList
noncomputable def absV:Value→Option V
 | .none=>some .non
 | .bool b=>some (.bl b)
 | .int i _=>some (.int i)
 | .str x _=>some (.str x)
 | .bytes b _=>some (.byt b)
 | .float b _=>some (.flt b)
 | .ref a=>some (.ref a)
 | .type n=>some (.ty n)
 | _=>none
theorem RelV.abs {x:V} {u:Value} (r:RelV x u):absV u=some x:=by
 cases x with
 | non=>cases r;rfl
 | bl _=>cases r;rfl
 | int _=>obtain ⟨t,rfl⟩:=r;rfl
 | str _=>obtain ⟨t,rfl⟩:=r;rfl
 | byt _=>obtain ⟨t,rfl⟩:=r;rfl
 | flt _=>obtain ⟨t,rfl⟩:=r;rfl
 | ref _=>cases r;rfl
 | ty _=>cases r;rfl
theorem RelV.inj {x y:V} {u:Value} (r:RelV x u) (q:RelV y u):x=y:=Option.some.inj (r.abs.symm.trans q.abs)
theorem Vals.inj:∀ {xs ys:List V} {us:List Value},Vals xs us→Vals ys us→xs=ys
 | _,_,_,.nil,.nil=>rfl
 | _,_,_,.cons r t,.cons r' t'=>by rw [r.inj r',Vals.inj t t']
section
variable {X:Cx} {pins:List (Addr×Obj)} {σ:St} {H:Hp} {s:Shared} {a:Addr} {xs ys:List V}
theorem SqL.of {K:PySem.W.Frag} (h:H a=some (.lst xs)):SqL K H a xs := .inl (.inl h)
theorem SqT.of {K:PySem.W.Frag} (h:H a=some (.tup xs)):SqT K H a xs := .inl (.inl h)
theorem Inv.list (I:Inv X pins σ H s) (h:SqL X.K H a xs):∃ its:List Value,Vals xs its∧PlainL s.heap a its.toArray∧xs.length≤sizeLine:=by
 rcases h with h | ⟨o,its,n,hk,hc,hd,hs,hz,r⟩
 ·obtain ⟨z,its,n,r,e⟩:=h.ok I.hok
  exact ⟨its,r,⟨_,n,e,rfl,rfl,rfl⟩,z⟩
 ·refine ⟨its.toList,r,⟨o,n,I.kIn a o hk,hc,hd,by simpa using hs⟩,?_⟩
  have e:=r.length
  simp only [Array.length_toList] at e
  omega
theorem Inv.tuple (I:Inv X pins σ H s) (h:SqT X.K H a xs):∃ its:List Value,Vals xs its∧IsTup s.heap a its.toArray∧xs.length≤sizeLine:=by
 rcases h with h | ⟨o,its,n,hk,hc,hs,hz,r⟩
 ·obtain ⟨z,its,r,p⟩:=h.ok I.hok
  exact ⟨its,r,p,z⟩
 ·refine ⟨its.toList,r,⟨o,I.kIn a o hk,hc,n,by simpa using hs⟩,?_⟩
  have e:=r.length
  simp only [Array.length_toList] at e
  omega
theorem Inv.list_inj (I:Inv X pins σ H s) (h:SqL X.K H a xs) (h':SqL X.K H a ys):xs=ys:=by
 obtain ⟨its,r,⟨o,n,e,_,_,d⟩,_⟩:=I.list h
 obtain ⟨its',r',⟨o',n',e',_,_,d'⟩,_⟩:=I.list h'
 rw [e] at e';cases e'
 rw [d] at d'
 injection d' with d1 _
 have:its=its':=by simpa using congrArg Array.toList d1
 subst this
 exact r.inj r'
end
noncomputable abbrev Cx.wish (X:Cx) (E:Value→Shared→Prop):Cx:={X with xe:=E}
noncomputable abbrev Cx.nox (X:Cx):Cx:=X.wish fun _ _=>False
theorem Cx.Ok.wish {X:Cx} (ok:X.Ok) (E:Value→Shared→Prop):(X.wish E).Ok :=
 ⟨ok.mod,ok.kind,ok.glob,ok.blt,ok.above,ok.inj,ok.has,ok.cab,ok.hd,ok.frames,ok.stk,ok.exf,ok.bs,ok.bsz,ok.noex,ok.exfs,ok.funs,ok.frf⟩
theorem Cx.Ok.unwish {X:Cx} {E:Value→Shared→Prop} (ok:(X.wish E).Ok):X.Ok :=
 ⟨ok.mod,ok.kind,ok.glob,ok.blt,ok.above,ok.inj,ok.has,ok.cab,ok.hd,ok.frames,ok.stk,ok.exf,ok.bs,ok.bsz,ok.noex,ok.exfs,ok.funs,ok.frf⟩
section
variable {X:Cx} {pins:List (Addr×Obj)} {σ:St} {H:Hp} {s:Shared} {E:Value→Shared→Prop}
theorem Inv.wish (I:Inv X pins σ H s) (E:Value→Shared→Prop):Inv (X.wish E) pins σ H s:=⟨I.ok.wish E,I.os,I.bare,I.base,I.loc,I.cell,I.free,I.freeC,I.pin,I.hok,I.len⟩
theorem Inv.unwish (I:Inv (X.wish E) pins σ H s):Inv X pins σ H s:=⟨I.ok.unwish,I.os,I.bare,I.base,I.loc,I.cell,I.free,I.freeC,I.pin,I.hok,I.len⟩
theorem SP.unwish {D:Ends} {f:Flow} {s':Shared} (h:SP (X.wish E) pins D f s'):SP X pins D f s':=by
 cases f with
 | next=>obtain ⟨σ',H',I,q⟩:=h;exact ⟨σ',H',I.unwish,q⟩
 | brk=>obtain ⟨σ',H',I,q⟩:=h;exact ⟨σ',H',I.unwish,q⟩
 | cont=>obtain ⟨σ',H',I,q⟩:=h;exact ⟨σ',H',I.unwish,q⟩
 | ret u=>obtain ⟨v,σ',H',I,r,q⟩:=h;exact ⟨v,σ',H',I.unwish,r,q⟩
theorem PSs.nox {st:List Stmt} {t:TS} (h:PSs X.nox st t):PSs X st t:=fun pins s σ H D I hw =>
 wpAny_mono (h pins s σ H D (I.wish _) hw) (fun _ _ q=>q.unwish) fun _ _ z=>False.elim z
end
section
variable {X:Cx} {st:Stmt} {rest:List Stmt} {t u:TS} {e:Expr} {te:TE} {pos:Pos}
noncomputable def tNext:TS:=fun D σ H=>D.nx σ H
noncomputable def tSeq (t u:TS):TS:=fun D σ H=>t {D with nx:=u D} σ H
theorem Zl:PSs X [] tNext:=fun _ _ σ H _ I h=>wpAny_execs_nil ⟨σ,H,I,h⟩
theorem Zc (h1:PS X st t) (h2:PSs X rest u):PSs X (st::rest) (tSeq t u):=by
 intro pins s σ H D I h
 refine wpAny_execs_cons (thn (h1 pins s σ H {D with nx:=u D} I h) fun f s1 q=>?_)
 cases f with
 | next =>
  obtain ⟨σ',H',I',q⟩:=q
  exact h2 pins s1 σ' H' D I' q
 | ret v=>exact q
 | brk=>exact q
 | cont=>exact q
theorem Zg (h1:PS X st t):PSs X [st] t:=by
 intro pins s σ H D I h
 refine wpAny_execs_cons (thn (h1 pins s σ H D I h) fun f s1 q=>?_)
 cases f with
 | next=>exact wpAny_execs_nil q
 | ret v=>exact q
 | brk=>exact q
 | cont=>exact q
theorem Inv.quiet {pins:List (Addr×Obj)} {σ:St} {H:Hp} {s:Shared} (I:Inv X pins σ H s):interactive X.env=false:=by simp [interactive,I.ok.kind]
noncomputable def tDrop (te:TE):TS:=fun D σ H=>te σ H fun _ H1=>D.nx σ H1
theorem Qc (he:PE X e te) (hs:swapsWith e none pos.line X.env=pure false:=by rfl):PS X (.Expr e pos) (tDrop te):=by
 intro pins s σ H D I h
 exact wpAny_Expr_any (thn (he pins s σ H _ I h) fun v s1 ⟨x,H1,I1,r1,q1⟩=>⟨σ,H1,I1,q1⟩) I.quiet hs
noncomputable def tRet (te:TE):TS:=fun D σ H=>te σ H D.rt
theorem Zm (he:PE X e te):PS X (.Return (some e) pos) (tRet te):=by
 intro pins s σ H D I h
 exact wpAny_Return_some (thn (he pins s σ H _ I h) fun v s1 ⟨x,H1,I1,r1,q1⟩=>⟨x,σ,H1,I1,r1,q1⟩)
noncomputable def tIfS (c:TT) (t u:TS):TS:=fun D σ H=>c σ H fun b H1=>if b=true then t D σ H1 else u D σ H1
theorem Zs {c:Expr} {a b:List Stmt} {tc:TT} (hc:PT X c tc) (ha:PSs X a t) (hb:PSs X b u):PS X (.If c a b pos) (tIfS tc t u):=by
 intro pins s σ H D I h
 refine wpAny_If (thn (hc pins s σ H _ I h) fun d s1 ⟨H1,I1,q1⟩=>?_)
 cases d with
 | true=>exact ha pins s1 σ H1 D I1 q1
 | false=>exact hb pins s1 σ H1 D I1 q1
noncomputable def tNever:TS:=fun _ _ _=>False
theorem Qk:PS X st tNever:=fun _ _ _ _ _ _ h=>h.elim
end
noncomputable abbrev TG:=V→St→Hp→(St→Hp→Prop)→Prop
noncomputable abbrev TGs:=List V→St→Hp→(St→Hp→Prop)→Prop
noncomputable def PG (X:Cx) (target:Expr) (t:TG):Prop :=
 ∀ (pins:List (Addr×Obj)) (s:Shared) (σ:St) (H:Hp) (v:V) (u:Value) (Q:St→Hp→Prop),Inv X pins σ H s→RelV v u→t v σ H Q→
  wpAny (model X.prog X.w) X.A (assign target X.env u) (fun _ s'=>∃ σ' H',Inv X pins σ' H' s'∧Q σ' H') X.xe s
noncomputable def PGs (X:Cx) (ts:List Expr) (t:TGs):Prop :=
 ∀ (pins:List (Addr×Obj)) (s:Shared) (σ:St) (H:Hp) (vs:List V) (us:List Value) (Q:St→Hp→Prop),Inv X pins σ H s→Vals vs us→t vs σ H Q→
  wpAny (model X.prog X.w) X.A (assignInOrder ((assignEach ts X.env).map (·.2)) us) (fun _ s'=>∃ σ' H',Inv X pins σ' H' s'∧Q σ' H') X.xe s
noncomputable abbrev TSet:=V→V→V→Hp→(Hp→Prop)→Prop
noncomputable def PSet (X:Cx) (t:TSet):Prop :=
 ∀ (pins:List (Addr×Obj)) (s:Shared) (σ:St) (H:Hp) (o i v:V) (ov iv u:Value) (Q:Hp→Prop),Inv X pins σ H s→RelV o ov→RelV i iv→RelV v u→t o i v H Q→
  wpAny (model X.prog X.w) X.A (setItem ov iv u) (fun _ s'=>∃ H',Inv X pins σ H' s'∧Q H') X.xe s
section
variable {X:Cx} {pos:Pos}
noncomputable def gName (i:Nat):TG:=fun v σ H Q=>Q (σ.set i (some v)) H
theorem Xn {i:Nat} {x:Str} (hN:X.N.Nodup) (hi:X.N[i]?=some x) (hx:Loc X.env.scope x) (hf:X.fn x=true∨X.env.scope.names.lookup x=some .local:=by first | exact .inl rfl | exact .inr rfl | assumption):PG X (.Name x pos) (gName i):=by
 intro pins s σ H v u Q I r h
 exact wpAny_assign_Name (Zje I hN hi hx r (fun s' I'=>⟨_,H,I',h⟩) hf)
noncomputable def gNil:TGs:=fun vs σ H Q=>vs=[]∧Q σ H
noncomputable def gCons (t:TG) (u:TGs):TGs:=fun vs σ H Q=>∃ v r,vs=v::r∧t v σ H fun σ' H'=>u r σ' H' Q
theorem Zsg:PGs X [] gNil:=by
 intro pins s σ H vs us Q I r h
 obtain ⟨e,h⟩:=h
 subst e
 cases r
 exact assignInOrder_nil ⟨σ,H,I,h⟩
theorem Ql {e:Expr} {es:List Expr} {t:TG} {u:TGs} (h1:PG X e t) (h2:PGs X es u)
  (hs:(assignEach (e::es) X.env).map (·.2)=assign e X.env::(assignEach es X.env).map (·.2):=by rfl):PGs X (e::es) (gCons t u):=by
 intro pins s σ H vs us Q I r h
 obtain ⟨v,vr,e1,h⟩:=h
 subst e1
 cases r with
 | cons r rr =>
  rw [hs]
  refine assignInOrder_cons (thn (h1 pins s σ H _ _ _ I r h) fun _ s1 ⟨σ1,H1,I1,q1⟩=>?_)
  exact h2 pins s1 σ1 H1 _ _ Q I1 rr q1
noncomputable def gTup (K:PySem.W.Frag) (n:Nat) (t:TGs):TG:=fun v σ H Q=>∃ a xs,v = .ref a∧SqT K H a xs∧xs.length=n∧t xs σ H Q
theorem Zzi {es:List Expr} {k:Nat} {t:TGs} {n:Nat} (hc:X.calm=true) (h:PGs X es t)
  (hn:(assignEach es X.env).length=n:=by rfl) (hst:(assignEach es X.env).findIdx? (·.1)=none:=by rfl):PG X (.Tuple es k pos) (gTup X.K n t):=by
 intro pins s σ H v u Q I r hw
 obtain ⟨a,xs,e1,hq,hl,hw⟩:=hw
 subst e1
 cases r
 obtain ⟨its,rv,ht,hz⟩:=I.tuple hq
 refine assign_Tuple_tuple (I.ok.hd hc) ht (by simp [hn,← hl,rv.length]) hst fun h' hx=>?_
 have I1:Inv X pins σ H {s with heap:=h'}:=I.kept (t':=s.toks) fun b o e=>hx b o (Nat.ne_of_lt (Heap.lt_size e)) e
 exact h pins _ σ H xs _ Q I1 (by simpa using rv) hw
noncomputable def gSub (to ti:TE) (t:TSet):TG:=fun v σ H Q=>to σ H fun o H1=>ti σ H1 fun i H2=>t o i v H2 fun H3=>Q σ H3
theorem Xoi {o i:Expr} {to ti:TE} {t:TSet} (ho:PE X o to) (hi:PE X i ti) (hs:PSet X t)
  (ha:∀ v,assign (.Subscript o i pos) X.env v=(do
   let ov ← holding [v] (eval o X.env)
   let iv ← holding [v,ov] (eval i X.env)
   standAt pos
   holding [v,ov,iv] (setItem ov iv v)
   release [v,ov,iv] []):=by intro _;rfl):PG X (.Subscript o i pos) (gSub to ti t):=by
 intro pins s σ H v u Q I r h
 rw [ha]
 refine wpAny_bind (wpAny_holding (thn (ho pins s σ H _ I h) fun ov s1 ⟨x,H1,I1,r1,q1⟩=>?_))
 refine wpAny_bind (wpAny_holding (thn (hi pins s1 σ H1 _ I1 q1) fun iv s2 ⟨y,H2,I2,r2,q2⟩=>?_))
 refine wpAny_bind (wpAny_standAt (wpAny_bind (wpAny_holding (thn (hs pins s2 σ H2 x y v ov iv u _ I2 r1 r2 r q2) fun _ s3 ⟨H3,I3,q3⟩=>?_))))
 exact wpAny_release ⟨σ,H3,I3,q3⟩
noncomputable def tAsg (te:TE) (g:TG):TS:=fun D σ H=>te σ H fun x H1=>g x σ H1 D.nx
theorem Xhe {tg e:Expr} {te:TE} {g:TG} (he:PE X e te) (hg:PG X tg g) (hs:swapsWithSole [tg] e pos.line X.env=pure false:=by rfl) (hw:swappedStores [tg] e X.env=pure none:=by rfl)
  (h1:(assignEach [tg] X.env).map (·.2)=[assign tg X.env]:=by rfl):PS X (.Assign [tg] e pos) (tAsg te g):=by
 intro pins s σ H D I h
 refine wpAny_Assign_stores (thn (he pins s σ H _ I h) fun v s1 ⟨x,H1,I1,r1,q1⟩=>?_) hs hw
 rw [h1]
 exact thn (hg pins s1 σ H1 x v _ I1 r1 q1) fun _ s2 q=>q
theorem Zp {i:Nat} {x:Str} {e:Expr} {te:TE} {pos':Pos} (hN:X.N.Nodup) (hi:X.N[i]?=some x) (hx:Loc X.env.scope x) (he:PE X e te) (hs:swapsWith e (some (.Name x pos')) pos.line X.env=pure false:=by rfl) (hf:X.fn x=true∨X.env.scope.names.lookup x=some .local:=by first | exact .inl rfl | exact .inr rfl | assumption) :
  PS X (.Assign [.Name x pos'] e pos) (tAsg te (gName i)):=by
 intro pins s σ H D I h
 refine wpAny_Assign_Name (thn (he pins s σ H _ I h) fun v s1 ⟨y,H1,I1,r1,q1⟩=>?_) hs
 exact Zje I1 hN hi hx r1 (fun s2 I2=>⟨_,H1,I2,q1⟩) hf
end
section
variable {X:Cx} {pos:Pos}
noncomputable def tWhile (c:TT) (tb:TS):TS:=fun D σ H=>∃ W:Nat→St→Hp→Prop,(∃ m,W m σ H)∧∀ m σ H,W m σ H→
 c σ H fun b H1=>if b=true then ∃ N:St→Hp→Prop,(∀ σ' H',N σ' H'→∃ m',m'<m∧W m' σ' H')∧tb {D with nx:=N,ct:=N,bk:=D.nx} σ H1 else D.nx σ H1
theorem Qi {c:Expr} {body:List Stmt} {tc:TT} {tb:TS} (hp:PassesOwn (model X.prog X.w) X.A X.env X.xe) (hc:PT X c tc) (hb:PSs X body tb):PS X (.While c body [] pos) (tWhile tc tb):=by
 intro pins s σ H D I h
 obtain ⟨W,⟨m0,w0⟩,turn⟩:=h
 refine wpAny_While (codeAny_whileLoop (fun n s'=>∃ σ' H',Inv X pins σ' H' s'∧W n σ' H') ?_ m0 ⟨σ,H,I,w0⟩)
 rintro n s1 ⟨σ1,H1,I1,w1⟩
 refine wpAny_passesOwn hp (thn (hc pins s1 σ1 H1 _ I1 (turn n σ1 H1 w1)) fun b s2 ⟨H2,I2,q2⟩=>?_)
 cases b with
 | true =>
  obtain ⟨N,hN,q2⟩:=q2
  rw [if_pos rfl]
  refine wpAny_passesOwn hp (thn (hb pins s2 σ1 H2 _ I2 q2) fun f s3 q3=>?_)
  cases f with
  | next =>
   obtain ⟨σ3,H3,I3,n3⟩:=q3
   obtain ⟨m',hm,w3⟩:=hN σ3 H3 n3
   exact ⟨m',hm,σ3,H3,I3,w3⟩
  | cont =>
   obtain ⟨σ3,H3,I3,n3⟩:=q3
   obtain ⟨m',hm,w3⟩:=hN σ3 H3 n3
   exact ⟨m',hm,σ3,H3,I3,w3⟩
  | brk=>exact q3
  | ret v=>exact q3
 | false =>
  rw [if_neg Bool.false_ne_true]
  exact wpAny_execs_nil ⟨σ1,H2,I2,q2⟩
end
structure It where
 go:Nat→Hp→Prop
 yld:Nat→Hp→V→Hp→Prop
 stop:Nat→Hp→Prop
noncomputable def FpOk (X:Cx) (pins:List (Addr×Obj)) (H:Hp) (b:Addr):Prop :=
 H b=none∧b≠X.env.locals∧b∉X.fs∧(b∈X.ex∨X.s₀.heap.objs.size≤b)∧(∀ x c,X.env.cells.lookup x=some c→c≠b)∧∀ p∈X.pn++pins,p.1≠b
theorem Inv.fpOk {X:Cx} {pins:List (Addr×Obj)} {σ:St} {H H':Hp} {s:Shared} {b:Addr} (I:Inv X pins σ H s) (hb:s.heap.objs.size≤b) (hn:H' b=none):FpOk X pins H' b:=by
 refine ⟨hn,Nat.ne_of_gt (Nat.lt_of_lt_of_le I.lt hb),I.nofs hb,.inr (Nat.le_trans I.sz hb),fun x c e z=>?_,fun p hp z=>?_⟩
 ·obtain ⟨v,q⟩:=I.cell x c e
  exact absurd (Nat.lt_of_lt_of_le q.lt (by rw [z];exact hb)) (Nat.lt_irrefl _)
 ·exact absurd (Nat.lt_of_lt_of_le (Heap.lt_size (I.pin p hp).1) (by rw [z];exact hb)) (Nat.lt_irrefl _)
structure Turn (P:Program) (w:World) (K:PySem.W.Frag) (tg:Expr) (J:It) (fp:List Addr) (it:Addr) (tn:Nat→Heap→Prop):Prop where
 mem:it∈fp
 obj:∀ i h,tn i h→∀ b∈fp,∃ o,h.get? b=some o∧∀ v,o.data≠.cell v
 keep:∀ i h h',tn i h→(∀ b∈fp,∀ o,h.get? b=some o→h'.get? b=some o)→tn i h'
 item:∀ (X:Cx),X.prog=P→X.w=w→X.K=K→X.calm=true→∀ (i:Nat) (pins:List (Addr×Obj)) (s:Shared) (σ:St) (H:Hp) (E:Value→Shared→Prop),Inv X pins σ H s→(∀ b∈fp,FpOk X pins H b)→tn i s.heap→J.go i H→
  wpAny (model P w) X.A (pyNext (.ref it)) (fun r s1=>∃ u,r=some u∧
   wpAny (model P w) X.A (letOwnedTupleGo tg (.ref it) u) (fun _ s2=>∃ x H',Inv X pins σ H' s2∧RelV x u∧J.yld i H x H'∧tn (i+1) s2.heap∧∀ b∈fp,H' b=none) E s1) E s
 done:∀ (X:Cx),X.prog=P→X.w=w→X.K=K→X.calm=true→∀ (i:Nat) (pins:List (Addr×Obj)) (s:Shared) (σ:St) (H:Hp) (E:Value→Shared→Prop),Inv X pins σ H s→(∀ b∈fp,FpOk X pins H b)→tn i s.heap→J.stop i H→
  wpAny (model P w) X.A (pyNext (.ref it)) (fun r s1=>r=none∧Inv X pins σ H s1) E s
 self:∀ (A:Around) (i:Nat) (s:Shared) (Q:Value→Shared→Prop) (E:Value→Shared→Prop),tn i s.heap→Q (.ref it) s→wpAny (model P w) A (pyIter (.ref it)) Q E s
noncomputable abbrev TI:=St→Hp→(It→Hp→Prop)→Prop
noncomputable def PIE (X:Cx) (pins:List (Addr×Obj)) (σ:St) (tg:Expr) (R:It→Hp→Prop) (itv:Value) (s2:Shared):Prop :=
 ∃ (it:Addr) (fp:List Addr) (tn:Nat→Heap→Prop) (J:It) (H':Hp),itv = .ref it∧Inv X pins σ H' s2∧Turn X.prog X.w X.K tg J fp it tn∧tn 0 s2.heap∧(∀ b∈fp,FpOk X pins H' b)∧R J H'
noncomputable def PI (X:Cx) (tg iter:Expr) (wi:TI):Prop :=
 ∀ (pins:List (Addr×Obj)) (s:Shared) (σ:St) (H:Hp) (R:It→Hp→Prop),Inv X pins σ H s→wi σ H R→
  wpAny (model X.prog X.w) X.A (eval iter X.env) (fun v s1=>wpAny (model X.prog X.w) X.A (pyIter v) (PIE X pins σ tg R) X.xe s1) X.xe s
theorem Xje {M:Model} {A:Around} {E:Value→Shared→Prop} {s:Shared} {tg:Expr} {it:Addr} {u:Value} {o:Obj} {n:String} {vs:Array Value} {Q:Unit→Shared→Prop} (ho:s.heap.get? it=some o) (hc:o.cls = .type n) (hd:o.data = .fields vs)
    (hn:["enumerate","zip","dict_itemiterator","dict_reverseitemiterator","odict_iterator","itertools.zip_longest","itertools.pairwise"].contains n=false) (hQ:Q () s):wpAny M A (letOwnedTupleGo tg (.ref it) u) Q E s:=by
  unfold letOwnedTupleGo
  cases tg<;>first
    | exact wpAny_pure hQ
    | (cases u<;>first
        | exact wpAny_pure hQ
        | (refine wpAny_bind (wpAny_load ho ?_)
           rw [hc,hd]
           show wpAny M A (if (["enumerate","zip","dict_itemiterator","dict_reverseitemiterator","odict_iterator","itertools.zip_longest","itertools.pairwise"].contains n&&vs[0]? == some (rawInt _))=true then _ else _) Q E s
           rw [if_neg (by intro h;rw [hn,Bool.false_and] at h;cases h)]
           exact wpAny_pure hQ))
noncomputable def Itl (K:PySem.W.Frag) (a:Addr):It :=
 ⟨fun i H=>∃ xs x,SqL K H a xs∧xs[i]?=some x,fun i H x H'=>H'=H∧∀ xs,SqL K H a xs→xs[i]?=some x,fun i H=>∃ xs,SqL K H a xs∧xs.length≤i⟩
noncomputable def Itr (lo:Int) (n:Nat):It:=⟨fun i _=>i<n,fun i H x H'=>H'=H∧x = .int (lo+i),fun i _=>n≤i⟩
theorem Xde {P:Program} {w:World} {K:PySem.W.Frag} {tg:Expr} (a it:Addr):Turn P w K tg (Itl K a) [it] it (fun i h=>h.IsListIter it a i) where
 mem:=by simp
 obj:=fun i h st b hb=>by
  have e:b=it:=by simpa using hb
  subst e
  obtain ⟨o,e,c,d⟩:=st
  exact ⟨o,e,fun v z=>by rw [d] at z;cases z⟩
 keep:=fun i h h' st k=>st.at fun o e=>k it (by simp) o e
 item:=by
  intro X hP hw hK hc i pins s σ H E I hf st hg
  subst hP hw hK
  obtain ⟨xs,x,hq,hx⟩:=hg
  obtain ⟨its,rv,p,hz⟩:=I.list hq
  obtain ⟨u,hu,ru⟩:=rv.get hx
  obtain ⟨f0,f1,f2,f3,f4,f5⟩:=hf it (by simp)
  refine wpAny_pyNext_list_item st p.isList (x:=u) (by simpa using hu) fun h' st' sb=>?_
  have I1:Inv X pins σ H {s with heap:=h'}:=I.turned (t':=s.toks) (fun b o hb e=>(sb.2 b hb).trans e) f0 f1 f3 f4 f5
  obtain ⟨o,e,c,d⟩:=id st'
  exact ⟨u,rfl,Xje (s:={s with heap:=h'}) e c d (by decide) ⟨x,H,I1,ru,⟨rfl,fun ys hy=>by rw [I.list_inj hy hq];exact hx⟩,st',fun b hb=>(hf b hb).1⟩⟩
 done:=by
  intro X hP hw hK hc i pins s σ H E I hf st hg
  subst hP hw hK
  obtain ⟨xs,hq,hx⟩:=hg
  obtain ⟨its,rv,p,hz⟩:=I.list hq
  obtain ⟨f0,f1,f2,f3,f4,f5⟩:=hf it (by simp)
  have hl:=rv.length
  exact wpAny_pyNext_list_end (I.ok.hd hc) st p.isList (by simp;omega) fun h' eb=>⟨rfl,I.turned (t':=s.toks) (fun b o hb e=>eb b o hb e) f0 f1 f3 f4 f5⟩
 self:=fun _ _ _ _ _ st h=>wpAny_pyIter_listiter st h
theorem Zyj {P:Program} {w:World} {K:PySem.W.Frag} {tg:Expr} (it:Addr) (lo:Int) (n:Nat):Turn P w K tg (Itr lo n) [it] it (fun i h=>IsRangeIter h it (lo+(i:Nat)*1) ((n:Int) - (i:Nat)) 1) where
 mem:=by simp
 obj:=fun i h st b hb=>by
  have e:b=it:=by simpa using hb
  subst e
  exact ⟨_,st,fun v z=>by
   have z':Data.fields _=Data.cell v:=z
   cases z'⟩
 keep:=fun i h h' st k=>k it (by simp) _ st
 item:=by
  intro X hP hw hK hc i pins s σ H E I hf st hg
  subst hP hw hK
  obtain ⟨f0,f1,f2,f3,f4,f5⟩:=hf it (by simp)
  have W:=Walks.range (prog:=X.prog) (w:=X.w) (I.ok.hd hc) it lo 1 n
  refine W.item i s _ _ hg st fun v h' tk hv st' kk=>?_
  obtain ⟨t,rfl⟩:=hv
  have I1:Inv X pins σ H {s with heap:=h',toks:=tk}:=I.turned (fun b o hb e=>kk b o (by simpa using hb) e) f0 f1 f3 f4 f5
  refine ⟨_,rfl,Xje (s:={s with heap:=h',toks:=tk}) (n:="range_iterator") st' rfl rfl (by decide) ⟨.int (lo+i),H,I1,⟨t,?_⟩,⟨rfl,rfl⟩,st',fun b hb=>(hf b hb).1⟩⟩
  rw [Int.mul_one]
 done:=by
  intro X hP hw hK hc i pins s σ H E I hf st hg
  subst hP hw hK
  obtain ⟨f0,f1,f2,f3,f4,f5⟩:=hf it (by simp)
  exact wpAny_pyNext_range_end (I.ok.hd hc) st (by have:n≤i:=hg;omega) fun h' eb=>⟨rfl,I.turned (t':=s.toks) (fun b o hb e=>eb b o hb e) f0 f1 f3 f4 f5⟩
 self:=fun _ _ _ _ _ st h=>wpAny_pyIter_rangeiter st h
end L2
namespace L2
open PySem PySem.Spec PyProof.Rows
section
variable {X:Cx} {tg:Expr}
noncomputable def iList (K:PySem.W.Frag) (tl:TE):TI:=fun σ H R=>tl σ H fun x H1=>∃ a,x = .ref a∧(∃ xs,SqL K H1 a xs)∧R (Itl K a) H1
theorem Xli {l:Expr} {tl:TE} (hl:PE X l tl):PI X tg l (iList X.K tl):=by
 intro pins s σ H R I h
 refine thn (hl pins s σ H _ I h) fun v s1 ⟨x,H1,I1,r1,q1⟩=>?_
 obtain ⟨a,e,⟨xs,hq⟩,q⟩:=q1
 subst e
 cases r1
 obtain ⟨its,rv,p,hz⟩:=I1.list hq
 refine wpAny_pyIter_list p.isList ?_
 refine ⟨s1.heap.objs.size,[s1.heap.objs.size],_,_,H1,rfl,I1.kept (t':=s1.toks) fun b o e=>Heap.get?_push_of_some _ e,Xde a _,⟨_,Heap.get?_push_size _ rfl,rfl,rfl⟩,fun b hb=>?_,q⟩
 have e:b=s1.heap.objs.size:=by simpa using hb
 subst e
 exact I1.fpOk (Nat.le_refl _) (I1.hok.fresh (Nat.le_refl _))
theorem Xhb {pins:List (Addr×Obj)} {σ:St} {H:Hp} {s:Shared} {R:It→Hp→Prop} {E:Value→Shared→Prop} {lo hi:Int} {t u v:Tok} {tk:Nat} (I:Inv X pins σ H s) (h1 : -(2 ^ 62)≤lo) (h2:lo<2 ^ 62) (h3 : -(2 ^ 62)≤hi) (h4:hi<2 ^ 62)
  (q:R (Itr lo (hi - lo).toNat) H):wpAny (model X.prog X.w) X.A (pyIter (.ref s.heap.objs.size)) (PIE X pins σ tg R) E {s with heap:=s.heap.push {cls := .type "range",data := .fields #[.int lo t,.int hi u,.int 1 v]},toks:=tk}:=by
 refine wpAny_pyIter_range (IsRange.new ..) (small_one h1 h2 h3 h4) ?_
 have I1:Inv X pins σ H {s with heap:=s.heap.push {cls := .type "range",data := .fields #[.int lo t,.int hi u,.int 1 v]},toks:=tk}:=I.kept fun b o e=>Heap.get?_push_of_some _ e
 refine ⟨(s.heap.push {cls := .type "range",data := .fields #[.int lo t,.int hi u,.int 1 v]}).objs.size,[(s.heap.push {cls := .type "range",data := .fields #[.int lo t,.int hi u,.int 1 v]}).objs.size],_,_,H,rfl,
  I1.kept (t':=tk) fun b o e=>Heap.get?_push_of_some _ e,Zyj _ lo (hi - lo).toNat,?_,fun b hb=>?_,q⟩
 ·have e1:lo+((0:Nat):Int)*1=lo:=by simp
  have e2:(((hi - lo).toNat:Nat):Int) - ((0:Nat):Int)=Builtin.Range.rangeSize lo hi 1:=by rw [rangeSize_one];split<;>omega
  show IsRangeIter _ _ (lo+((0:Nat):Int)*1) ((((hi - lo).toNat:Nat):Int) - ((0:Nat):Int)) 1
  rw [e1,e2]
  exact Heap.get?_push_size _ rfl
 ·have e:b=(s.heap.push {cls := .type "range",data := .fields #[.int lo t,.int hi u,.int 1 v]}).objs.size:=by simpa using hb
  subst e
  exact I1.fpOk (Nat.le_refl _) (I1.hok.fresh (Nat.le_refl _))
noncomputable def iRng1 (ta:TA):TI:=fun σ H R=>ta σ H fun vs H1=>∃ j:Int,vs=[.int j]∧-(2 ^ 62)≤j∧j<2 ^ 62∧R (Itr 0 j.toNat) H1
theorem Js {a:Expr} {ta:TA} {p pos:Pos} (hg:Gl X "range") (hm:X.mg "range"=none) (ha:PA X [a] ta) (hs:starEach [a] X.env=[(false,eval a X.env)]:=by rfl):PI X tg (.Call (.Name "range" p) [a] [] pos) (iRng1 ta):=by
 intro pins s σ H R I h
 refine Call_ (Zda I hg hm boot_range (PyProof.Rows.callWith_type1 (thn (ha pos pins s σ H _ I h) fun us s1 ⟨vs,H1,I1,r1,q1⟩=>?_) hs rfl))
 obtain ⟨j,e,q1,q2,q⟩:=q1
 subst e
 cases r1 with
 | cons r rr =>
  cases rr
  obtain ⟨t,rfl⟩:=r
  exact call_range_1 (Xhb I1 (by omega) (by omega) q1 q2 (by simpa using q))
noncomputable def tFor (wi:TI) (g:TG) (tb:TS):TS:=fun D σ H=>wi σ H fun J H1=>∃ W:Nat→Nat→St→Hp→Prop,(∃ m,W 0 m σ H1)∧∀ i m σ H,W i m σ H→
 (J.stop i H∧D.nx σ H)∨(J.go i H∧∃ N:St→Hp→Prop,(∀ σ' H',N σ' H'→∃ m',m'<m∧W (i+1) m' σ' H')∧∀ x H',J.yld i H x H'→g x σ H' fun σ2 H2=>tb {D with nx:=N,ct:=N,bk:=D.nx} σ2 H2)
noncomputable def pinsAt (fp:List Addr) (h:Heap):List (Addr×Obj):=fp.filterMap fun b=>(h.get? b).map fun o=>(b,o)
theorem Qz {fp:List Addr} {h:Heap} {b:Addr} {o:Obj} (hb:b∈fp) (e:h.get? b=some o):(b,o)∈pinsAt fp h:=List.mem_filterMap.mpr ⟨b,hb,by rw [e];rfl⟩
theorem Xeb {fp:List Addr} {h:Heap} {p:Addr×Obj} (hp:p∈pinsAt fp h):p.1∈fp∧h.get? p.1=some p.2:=by
 obtain ⟨b,hb,e⟩:=List.mem_filterMap.mp hp
 cases q:h.get? b with
 | none=>rw [q] at e;cases e
 | some o =>
  rw [q] at e
  have e':(b,o)=p:=Option.some.inj e
  subst e'
  exact ⟨hb,q⟩
theorem Inv.pinned {pins:List (Addr×Obj)} {σ:St} {H:Hp} {s:Shared} {fp:List Addr} (I:Inv X pins σ H s) (hf:∀ b∈fp,FpOk X pins H b) (ho:∀ b∈fp,∃ o,s.heap.get? b=some o∧∀ v,o.data≠.cell v):Inv X (pins++pinsAt fp s.heap) σ H s :=
 I.pins_of fun p hp=>(List.mem_append.mp hp).elim (fun z=>I.pin p (List.mem_append_right _ z)) fun z=>by
  obtain ⟨hb,e⟩:=Xeb z
  obtain ⟨f0,f1,f2,_⟩:=hf p.1 hb
  obtain ⟨o,e',d⟩:=ho p.1 hb
  rw [e] at e';cases e'
  exact ⟨e,f0,f1,f2,d⟩
theorem Inv.unpinned {pins pl:List (Addr×Obj)} {σ:St} {H:Hp} {s:Shared} (I:Inv X (pins++pl) σ H s):Inv X pins σ H s:=I.pins_of fun p hp=>I.pin p (List.mem_append_right _ (List.mem_append_left _ hp))
theorem Xhd {iter:Expr} {body:List Stmt} {wi:TI} {g:TG} {tb:TS} {pos:Pos} (hp:PassesOwn (model X.prog X.w) X.A X.env X.xe) (hc:X.calm=true) (hi:PI X tg iter wi) (hg:PG X tg g) (hb:PSs X body tb)
  (hs:∀ x,foldedSetIterable iter X.env x=pure x:=by intro _;rfl):PS X (.For tg iter body [] pos) (tFor wi g tb):=by
 intro pins s σ H D I h
 refine wpAny_For (thn (hi pins s σ H _ I h) fun v s1 h1=>thn h1 fun itv s2 h2=>?_) hs
 obtain ⟨it,fp,tn,J,H2,e,I2,T,st2,f2,W,⟨m0,w0⟩,turn⟩:=h2
 subst e
 have stat:∀ {H':Hp},(∀ b∈fp,H' b=none)→∀ b∈fp,FpOk X pins H' b:=fun hn b hb=>⟨hn b hb,(f2 b hb).2⟩
 refine codeAny_forLoop_any (fun n s'=>∃ i σ' H',Inv X pins σ' H' s'∧tn i s'.heap∧(∀ b∈fp,H' b=none)∧W i n σ' H') ?_ m0 ⟨0,σ,H2,I2,st2,fun b hb=>(f2 b hb).1,w0⟩
 rintro n s3 ⟨i,σ3,H3,I3,st3,fr3,w3⟩
 rcases turn i n σ3 H3 w3 with ⟨stop,qn⟩ | ⟨go,N,hN,step⟩
 ·refine wpAny_passesOwn hp (thn (T.done X rfl rfl rfl hc i pins s3 σ3 H3 X.xe I3 (stat fr3) st3 stop) fun r s4 ⟨hr,I4⟩=>?_)
  subst hr
  exact wpAny_execs_nil ⟨σ3,H3,I4,qn⟩
 ·refine wpAny_passesOwn hp (thn (T.item X rfl rfl rfl hc i pins s3 σ3 H3 X.xe I3 (stat fr3) st3 go) fun r s4 ⟨u,hr,h4⟩=>?_)
  subst hr
  refine wpAny_passesOwn hp (thn h4 fun _ s5 ⟨x,H5,I5,r5,y5,st5,fr5⟩=>?_)
  have I5':=I5.pinned (stat fr5) (T.obj _ _ st5)
  refine wpAny_passesOwn hp (thn (hg _ s5 σ3 H5 x u _ I5' r5 (step x H5 y5)) fun _ s6 ⟨σ6,H6,I6,q6⟩=>?_)
  refine wpAny_passesOwn hp (thn (hb _ s6 σ6 H6 _ I6 q6) fun f s7 q7=>?_)
  have again:∀ {σ7:St} {H7:Hp},Inv X (pins++pinsAt fp s5.heap) σ7 H7 s7→N σ7 H7→∃ m,m<n∧∃ i σ' H',Inv X pins σ' H' s7∧tn i s7.heap∧(∀ b∈fp,H' b=none)∧W i m σ' H':=fun {σ7 H7} I7 n7=>by
   obtain ⟨m',hm,w7⟩:=hN σ7 H7 n7
   refine ⟨m',hm,i+1,σ7,H7,I7.unpinned,T.keep _ _ _ st5 fun b hb o e=>(I7.pin (b,o) (List.mem_append_right _ (List.mem_append_right _ (Qz hb e)))).1,fun b hb=>?_,w7⟩
   obtain ⟨o,e,d⟩:=T.obj _ _ st5 b hb
   exact (I7.pin (b,o) (List.mem_append_right _ (List.mem_append_right _ (Qz hb e)))).2.1
  cases f with
  | next=>obtain ⟨σ7,H7,I7,n7⟩:=q7;exact again I7 n7
  | cont=>obtain ⟨σ7,H7,I7,n7⟩:=q7;exact again I7 n7
  | brk=>obtain ⟨σ7,H7,I7,q7⟩:=q7;exact ⟨σ7,H7,I7.unpinned,q7⟩
  | ret v=>obtain ⟨x7,σ7,H7,I7,r7,q7⟩:=q7;exact ⟨x7,σ7,H7,I7.unpinned,r7,q7⟩
end
theorem Zqh {lo:Int} {n:Nat} {g:TG} {tb:TS} {D:Ends} {σ:St} {H:Hp} (Pv:Nat→St→Hp→Prop) (h0:Pv 0 σ H)
  (hs:∀ i σ H,i<n→Pv i σ H→g (.int (lo+i)) σ H fun σ2 H2=>tb {D with nx:=Pv (i+1),ct:=Pv (i+1),bk:=D.nx} σ2 H2) (hd:∀ σ H,Pv n σ H→D.nx σ H) :
  ∃ W:Nat→Nat→St→Hp→Prop,(∃ m,W 0 m σ H)∧∀ i m σ H,W i m σ H→
   ((Itr lo n).stop i H∧D.nx σ H)∨((Itr lo n).go i H∧∃ N:St→Hp→Prop,(∀ σ' H',N σ' H'→∃ m',m'<m∧W (i+1) m' σ' H')∧∀ x H',(Itr lo n).yld i H x H'→g x σ H' fun σ2 H2=>tb {D with nx:=N,ct:=N,bk:=D.nx} σ2 H2):=by
 refine ⟨fun i m σ H=>m=n - i∧i≤n∧Pv i σ H,⟨n,by simp,Nat.zero_le _,h0⟩,?_⟩
 rintro i m σ H ⟨rfl,hi,p⟩
 by_cases hlt:i<n
 ·refine .inr ⟨hlt,Pv (i+1),fun σ' H' p'=>⟨n - (i+1),by omega,rfl,hlt,p'⟩,fun x H' y=>?_⟩
  obtain ⟨e,y⟩:=y
  subst e y
  exact hs i σ _ hlt p
 ·have e:i=n:=by omega
  subst e
  exact .inl ⟨Nat.le_refl _,hd σ H p⟩
end L2
namespace L2
open PySem PySem.Spec PyProof.Rows
noncomputable abbrev R2:=V→V→Hp→VK→Prop
noncomputable def OpR (X:Cx) (f:Value→Value→Sem Value) (r:R2):Prop :=
 ∀ (pins:List (Addr×Obj)) (s:Shared) (σ:St) (H:Hp) (x y:V) (v u:Value) (Q:VK),Inv X pins σ H s→RelV x v→RelV y u→r x y H Q→
  wpAny (model X.prog X.w) X.A (f v u) (EP X pins σ Q) X.xe s
noncomputable def UnR (X:Cx) (f:Value→Sem Value) (r:V→Hp→VK→Prop):Prop :=
 ∀ (pins:List (Addr×Obj)) (s:Shared) (σ:St) (H:Hp) (x:V) (v:Value) (Q:VK),Inv X pins σ H s→RelV x v→r x H Q→
  wpAny (model X.prog X.w) X.A (f v) (EP X pins σ Q) X.xe s
noncomputable def CallR (X:Cx) (f:Value) (r:List V→Hp→VK→Prop):Prop :=
 ∀ (pins:List (Addr×Obj)) (s:Shared) (σ:St) (H:Hp) (xs:List V) (us:List Value) (Q:VK),Inv X pins σ H s→Vals xs us→r xs H Q→
  wpAny (model X.prog X.w) X.A (call f us) (EP X pins σ Q) X.xe s
noncomputable def TruR (X:Cx) (r:V→Hp→(Bool→Hp→Prop)→Prop):Prop :=
 ∀ (pins:List (Addr×Obj)) (s:Shared) (σ:St) (H:Hp) (x:V) (v:Value) (Q:Bool→Hp→Prop),Inv X pins σ H s→RelV x v→r x H Q→
  wpAny (model X.prog X.w) X.A (truthy v) (TP X pins σ Q) X.xe s
noncomputable def tOp (r:R2) (ta tb:TE):TE:=fun σ H Q=>ta σ H fun x H1=>tb σ H1 fun y H2=>r x y H2 Q
noncomputable def tUn (r:V→Hp→VK→Prop) (ta:TE):TE:=fun σ H Q=>ta σ H fun x H1=>r x H1 Q
noncomputable def rI (C:Int→Int→Prop) (g:Int→Int→V):R2:=fun x y H Q=>∃ i j,x = .int i∧y = .int j∧C i j∧Q (g i j) H
noncomputable def rI0 (g:Int→Int→V):R2:=fun x y H Q=>∃ i j,x = .int i∧y = .int j∧Q (g i j) H
noncomputable def rU (g:Int→V):V→Hp→VK→Prop:=fun x H Q=>∃ i,x = .int i∧Q (g i) H
section
variable {X:Cx} {a b c:Expr} {ta tb tc:TE} {pos:Pos}
theorem binT (ha:PE X a ta) (hb:PE X b tb) {pins:List (Addr×Obj)} {s:Shared} {σ:St} {H:Hp} {R:V→V→Hp→Prop} (I:Inv X pins σ H s)
  (h:ta σ H fun x H1=>tb σ H1 fun y H2=>R x y H2) {Q:Value→Shared→Prop} {f:Value→Value→Sem Value}
  (hf:∀ v u s2 x y H2,Inv X pins σ H2 s2→RelV x v→RelV y u→R x y H2→wpAny (model X.prog X.w) X.A (f v u) Q X.xe s2) :
  wpAny (model X.prog X.w) X.A (eval a X.env) (fun v s₁=>wpAny (model X.prog X.w) X.A (eval b X.env) (fun u s₂=>wpAny (model X.prog X.w) X.A (f v u) Q X.xe s₂) X.xe s₁) X.xe s:=by
 refine thn (ha pins s σ H _ I h) fun v s1 ⟨x,H1,I1,r1,q1⟩=>?_
 refine thn (hb pins s1 σ H1 _ I1 q1) fun u s2 ⟨y,H2,I2,r2,q2⟩=>?_
 exact hf v u s2 x y H2 I2 r1 r2 q2
theorem Zh {op:Operator} {r:R2} (ho:OpR X (binaryOp op) r) (ha:PE X a ta) (hb:PE X b tb):PE X (.BinOp a op b pos) (tOp r ta tb):=by
 intro pins s σ H Q I h
 exact wpAny_BinOp (binT ha hb I h fun v u s2 x y H2 I2 rx ry q=>ho pins s2 σ H2 x y v u Q I2 rx ry q)
theorem Jw {op:UnaryOp} {r:V→Hp→VK→Prop} (ho:UnR X (unaryOp op) r) (ha:PE X a ta):PE X (.UnaryOp op a pos) (tUn r ta):=by
 intro pins s σ H Q I h
 exact UnaryOp_ (thn (ha pins s σ H _ I h) fun v s1 ⟨x,H1,I1,r1,q1⟩=>ho pins s1 σ H1 x v Q I1 r1 q1)
theorem opI {f:Value→Value→Sem Value} {C:Int→Int→Prop} {g:Int→Int→Int}
  (rule:∀ (i j:Int) (t u:Tok) (s:Shared) (Q:Value→Shared→Prop) (E:Value→Shared→Prop),C i j→Q (.int (g i j) s.toks) {s with toks:=s.toks+1}→wpAny (model X.prog X.w) X.A (f (.int i t) (.int j u)) Q E s) :
  OpR X f (rI C fun i j => .int (g i j)):=by
 intro pins s σ H x y v u Q I rx ry h
 obtain ⟨i,j,rfl,rfl,hc,q⟩:=h
 obtain ⟨t,rfl⟩:=rx
 obtain ⟨t',rfl⟩:=ry
 exact rule i j t t' s _ _ hc ⟨.int (g i j),H,I.tok _,⟨_,rfl⟩,q⟩
theorem opI0 {f:Value→Value→Sem Value} {g:Int→Int→Int}
  (rule:∀ (i j:Int) (t u:Tok) (s:Shared) (Q:Value→Shared→Prop) (E:Value→Shared→Prop),Q (.int (g i j) s.toks) {s with toks:=s.toks+1}→wpAny (model X.prog X.w) X.A (f (.int i t) (.int j u)) Q E s) :
  OpR X f (rI0 fun i j => .int (g i j)):=by
 intro pins s σ H x y v u Q I rx ry h
 obtain ⟨i,j,rfl,rfl,q⟩:=h
 obtain ⟨t,rfl⟩:=rx
 obtain ⟨t',rfl⟩:=ry
 exact rule i j t t' s _ _ ⟨.int (g i j),H,I.tok _,⟨_,rfl⟩,q⟩
theorem opB0 {f:Value→Value→Sem Value} {g:Int→Int→Bool}
  (rule:∀ (i j:Int) (t u:Tok) (s:Shared) (Q:Value→Shared→Prop) (E:Value→Shared→Prop),Q (.bool (g i j)) s→wpAny (model X.prog X.w) X.A (f (.int i t) (.int j u)) Q E s) :
  OpR X f (rI0 fun i j => .bl (g i j)):=by
 intro pins s σ H x y v u Q I rx ry h
 obtain ⟨i,j,rfl,rfl,q⟩:=h
 obtain ⟨t,rfl⟩:=rx
 obtain ⟨t',rfl⟩:=ry
 exact rule i j t t' s _ _ ⟨.bl (g i j),H,I,rfl,q⟩
noncomputable def CDiv (i j:Int):Prop:=0<j∧j<1073741824
noncomputable def CPow (i j:Int):Prop:=0≤j∧j≤1000000∧i.natAbs<2 ^ 64
noncomputable def CMul (i j:Int):Prop:=(-(2 ^ 64)<i∧i<2 ^ 64)∨(-(2 ^ 64)<j∧j<2 ^ 64)
theorem CMul.ok {i j:Int} (h:CMul i j):IntMulOk i j:=by
 rcases h with ⟨h1,h2⟩ | ⟨h1,h2⟩
 ·exact .of_left (intBits_le_64 h1 h2)
 ·exact .of_right (intBits_le_64 h1 h2)
theorem Xpg:OpR X (binaryOp .Add) (rI0 fun i j => .int (i+j)):=opI0 fun _ _ _ _ _ _ _ q=>add_int q
theorem Xpb:OpR X (binaryOp .Sub) (rI0 fun i j => .int (i - j)):=opI0 fun _ _ _ _ _ _ _ q=>sub_int q
theorem Xpe:OpR X (binaryOp .Mult) (rI CMul fun i j => .int (i*j)):=opI fun _ _ _ _ _ _ _ hc q=>mul_int q hc.ok
theorem Xx:OpR X (binaryOp .FloorDiv) (rI CDiv fun i j => .int (i/j)):=opI fun i j _ _ _ _ _ hc q=>by
 have h1:(0:Int)<j:=hc.1
 have h2:j<1073741824:=hc.2
 exact floordiv_int (by omega) (by rw [Int.fdiv_eq_ediv_of_nonneg i (by omega)];exact q) (.inl (PyProof.noPylong_small (by omega)))
theorem Zv:OpR X (binaryOp .Mod) (rI (fun _ j=>0<j) fun i j => .int (i%j)):=opI fun i j _ _ _ _ _ hc q=>by
 have h1:(0:Int)<j:=hc
 exact mod_int' (by omega) (by rw [Int.fmod_eq_emod_of_nonneg i (by omega)];exact q)
theorem Zsh:OpR X (binaryOp .Pow) (rI CPow fun i j => .int (i ^ j.toNat)):=opI fun _ _ _ _ _ _ _ hc q=>pow_int_small hc.1 hc.2.1 hc.2.2 q
theorem unI {f:Value→Sem Value} {g:Int→Int}
  (rule:∀ (i:Int) (t:Tok) (s:Shared) (Q:Value→Shared→Prop) (E:Value→Shared→Prop),Q (.int (g i) s.toks) {s with toks:=s.toks+1}→wpAny (model X.prog X.w) X.A (f (.int i t)) Q E s) :
  UnR X f (rU fun i => .int (g i)):=by
 intro pins s σ H x v Q I rx h
 obtain ⟨i,rfl,q⟩:=h
 obtain ⟨t,rfl⟩:=rx
 exact rule i t s _ _ ⟨.int (g i),H,I.tok _,⟨_,rfl⟩,q⟩
theorem Wu:UnR X (unaryOp .USub) (rU fun i => .int (-i)):=unI fun _ _ _ _ _ q=>neg_int q
end
noncomputable def scal:V→V→Bool
 | .non,.non=>true | .non,.int _=>true | .int _,.non=>true | .non,.bl _=>true | .bl _,.non=>true | .non,.str _=>true | .str _,.non=>true
 | .int _,.int _=>true | .bl _,.bl _=>true | .str _,.str _=>true | .byt _,.byt _=>true
 | .int _,.str _=>true | .str _,.int _=>true | .bl _,.str _=>true | .str _,.bl _=>true
 | _,_=>false
noncomputable def rEq:R2:=fun x y H Q=>scal x y=true∧Q (.bl (decide (x=y))) H
noncomputable def rNe:R2:=fun x y H Q=>scal x y=true∧Q (.bl (!decide (x=y))) H
theorem Xda {i j:Int}:decide (V.int i=V.int j)=(i == j):=by
 rw [Bool.eq_iff_iff]
 simp
theorem Xkd {i j:Bool}:decide (V.bl i=V.bl j)=(i == j):=by
 rw [Bool.eq_iff_iff]
 simp
theorem Xcj {i j:Str}:decide (V.str i=V.str j)=(i == j):=by
 rw [Bool.eq_iff_iff]
 simp
theorem Xdb {i j:Array UInt8}:decide (V.byt i=V.byt j)=(i.toList == j.toList):=by
 rw [Bool.eq_iff_iff]
 cases i
 cases j
 simp
section
variable {X:Cx} {a b c:Expr} {ta tb tc:TE} {pos:Pos}
theorem Xe {pins:List (Addr×Obj)} {σ:St} {H:Hp} {s:Shared} {Q:VK} {k k':Bool} (I:Inv X pins σ H s) (q:Q (.bl k) H) (e:k=k'):EP X pins σ Q (.bool k') s:=by
 subst e
 exact ⟨.bl k,H,I,rfl,q⟩
theorem Xre:OpR X (compareOp .Eq) rEq:=by
 intro pins s σ H x y v u Q I rx ry h
 obtain ⟨hs,q⟩:=h
 cases x with
 | non =>
  cases rx
  cases y with
  | non=>cases ry;exact PySem.EqNone.eq_none_none (Xe I q (by simp))
  | bl j=>cases ry;exact PySem.EqNone.eq_none_bool (Xe I q (by simp))
  | int j=>obtain ⟨t',rfl⟩:=ry;exact PySem.EqNone.eq_none_int (Xe I q (by simp))
  | str j=>obtain ⟨t',rfl⟩:=ry;exact PySem.EqNone.eq_none_str (Xe I q (by simp))
  | _=>exact absurd (show false=true from hs) Bool.false_ne_true
 | bl i =>
  cases rx
  cases y with
  | non=>cases ry;exact PySem.EqNone.eq_bool_none (Xe I q (by simp))
  | bl j=>cases ry;exact eq_bool (Xe I q Xkd)
  | str j=>obtain ⟨t',rfl⟩:=ry;exact PySem.EqMixed.eq_bool_str (Xe I q (by simp))
  | _=>exact absurd (show false=true from hs) Bool.false_ne_true
 | int i =>
  obtain ⟨t,rfl⟩:=rx
  cases y with
  | non=>cases ry;exact PySem.EqNone.eq_int_none (Xe I q (by simp))
  | int j=>obtain ⟨t',rfl⟩:=ry;exact eq_int (Xe I q Xda)
  | str j=>obtain ⟨t',rfl⟩:=ry;exact PySem.EqMixed.eq_int_str (Xe I q (by simp))
  | _=>exact absurd (show false=true from hs) Bool.false_ne_true
 | str i =>
  obtain ⟨t,rfl⟩:=rx
  cases y with
  | non=>cases ry;exact PySem.EqNone.eq_str_none (Xe I q (by simp))
  | bl j=>cases ry;exact PySem.EqMixed.eq_str_bool (Xe I q (by simp))
  | int j=>obtain ⟨t',rfl⟩:=ry;exact PySem.EqMixed.eq_str_int (Xe I q (by simp))
  | str j=>obtain ⟨t',rfl⟩:=ry;exact eq_str (Xe I q Xcj)
  | _=>exact absurd (show false=true from hs) Bool.false_ne_true
 | byt i =>
  obtain ⟨t,rfl⟩:=rx
  cases y with
  | byt j=>obtain ⟨t',rfl⟩:=ry;exact PySem.W.eq_bytes (Xe I q Xdb)
  | _=>exact absurd (show false=true from hs) Bool.false_ne_true
 | _=>cases y<;>exact absurd (show false=true from hs) Bool.false_ne_true
theorem Xra:OpR X (compareOp .NotEq) rNe:=by
 intro pins s σ H x y v u Q I rx ry h
 obtain ⟨hs,q⟩:=h
 cases x with
 | non =>
  cases rx
  cases y with
  | non=>cases ry;exact PySem.EqNone.ne_none_none (Xe I q (by simp))
  | bl j=>cases ry;exact PySem.EqNone.ne_none_bool (Xe I q (by simp))
  | int j=>obtain ⟨t',rfl⟩:=ry;exact PySem.EqNone.ne_none_int (Xe I q (by simp))
  | str j=>obtain ⟨t',rfl⟩:=ry;exact PySem.EqNone.ne_none_str (Xe I q (by simp))
  | _=>exact absurd (show false=true from hs) Bool.false_ne_true
 | bl i =>
  cases rx
  cases y with
  | non=>cases ry;exact PySem.EqNone.ne_bool_none (Xe I q (by simp))
  | bl j=>cases ry;exact ne_bool (Xe I q (congrArg not Xkd))
  | str j=>obtain ⟨t',rfl⟩:=ry;exact PySem.EqMixed.ne_bool_str (Xe I q (by simp))
  | _=>exact absurd (show false=true from hs) Bool.false_ne_true
 | int i =>
  obtain ⟨t,rfl⟩:=rx
  cases y with
  | non=>cases ry;exact PySem.EqNone.ne_int_none (Xe I q (by simp))
  | int j=>obtain ⟨t',rfl⟩:=ry;exact ne_int (Xe I q (congrArg not Xda))
  | str j=>obtain ⟨t',rfl⟩:=ry;exact PySem.EqMixed.ne_int_str (Xe I q (by simp))
  | _=>exact absurd (show false=true from hs) Bool.false_ne_true
 | str i =>
  obtain ⟨t,rfl⟩:=rx
  cases y with
  | non=>cases ry;exact PySem.EqNone.ne_str_none (Xe I q (by simp))
  | bl j=>cases ry;exact PySem.EqMixed.ne_str_bool (Xe I q (by simp))
  | int j=>obtain ⟨t',rfl⟩:=ry;exact PySem.EqMixed.ne_str_int (Xe I q (by simp))
  | str j=>obtain ⟨t',rfl⟩:=ry;exact ne_str (Xe I q (congrArg not Xcj))
  | _=>exact absurd (show false=true from hs) Bool.false_ne_true
 | byt i =>
  obtain ⟨t,rfl⟩:=rx
  cases y with
  | byt j=>obtain ⟨t',rfl⟩:=ry;exact PySem.W.ne_bytes (Xe I q (congrArg not Xdb))
  | _=>exact absurd (show false=true from hs) Bool.false_ne_true
 | _=>cases y<;>exact absurd (show false=true from hs) Bool.false_ne_true
theorem Xrb:OpR X (compareOp .Lt) (rI0 fun i j => .bl (decide (i<j))):=opB0 fun _ _ _ _ _ _ _ q=>lt_int q
theorem Xrc:OpR X (compareOp .LtE) (rI0 fun i j => .bl (decide (i≤j))):=opB0 fun _ _ _ _ _ _ _ q=>le_int q
theorem Xrd:OpR X (compareOp .Gt) (rI0 fun i j => .bl (decide (j<i))):=opB0 fun _ _ _ _ _ _ _ q=>gt_int q
theorem Xdj:OpR X (compareOp .Lt) (fun x y H Q=>∃ i j,x = .str i∧y = .str j∧Q (.bl (decide (i.cps.toList<j.cps.toList))) H):=by
 intro pins s σ H x y v u Q I rx ry h
 obtain ⟨i,j,rfl,rfl,q⟩:=h
 obtain ⟨t,rfl⟩:=rx
 obtain ⟨t',rfl⟩:=ry
 exact lt_str (Xe I q rfl)
theorem Qd:OpR X (compareOp .In) (fun x y H Q=>∃ i j,x = .str i∧y = .str j∧Q (.bl (!(Builtin.Str.occurrences j i 0 j.length 1).isEmpty)) H):=by
 intro pins s σ H x y v u Q I rx ry h
 obtain ⟨i,j,rfl,rfl,q⟩:=h
 obtain ⟨t,rfl⟩:=rx
 obtain ⟨t',rfl⟩:=ry
 exact in_str (Xe I q rfl)
theorem Xib:OpR X (compareOp .Is) (fun x y H Q=>y = .non∧Q (.bl (decide (x = .non))) H):=by
 intro pins s σ H x y v u Q I rx ry h
 obtain ⟨rfl,q⟩:=h
 cases ry
 refine is_none_gen (Xe I q ?_)
 cases x<;>first
  | (cases rx;rfl)
  | (obtain ⟨t,rfl⟩:=rx;rfl)
theorem Xme:OpR X (compareOp .IsNot) (fun x y H Q=>y = .non∧Q (.bl (!decide (x = .non))) H):=by
 intro pins s σ H x y v u Q I rx ry h
 obtain ⟨rfl,q⟩:=h
 cases ry
 refine isnot_none_gen (Xe I q ?_)
 cases x<;>first
  | (cases rx;rfl)
  | (obtain ⟨t,rfl⟩:=rx;rfl)
theorem OpR.or {f:Value→Value→Sem Value} {r r':R2} (h:OpR X f r) (h':OpR X f r'):OpR X f (fun x y H Q=>r x y H Q∨r' x y H Q):=by
 intro pins s σ H x y v u Q I rx ry q
 rcases q with q | q
 ·exact h pins s σ H x y v u Q I rx ry q
 ·exact h' pins s σ H x y v u Q I rx ry q
theorem nomark (b:Expr) {op:CmpOp} (h:op≠.In:=by decide) (h2:op≠.NotIn:=by decide):behindInMarks op b=false:=by
 have e1:(op == CmpOp.In)=false:=by cases op<;>first | rfl | exact absurd rfl h
 have e2:(op == CmpOp.NotIn)=false:=by cases op<;>first | rfl | exact absurd rfl h2
 cases b<;>simp [behindInMarks,e1,e2]
theorem Qq {op:CmpOp} {r:R2} (ho:OpR X (compareOp op) r) (ha:PE X a ta) (hb:PE X b tb) (hm:behindInMarks op b=false):PE X (.Compare a [op] [b] pos) (tOp r ta tb):=by
 intro pins s σ H Q I h
 exact wpAny_Compare1 (binT ha hb I h fun v u s2 x y H2 I2 rx ry q=>ho pins s2 σ H2 x y v u Q I2 rx ry q) hm
noncomputable def tTest (t:TE):TT:=fun σ H Q=>t σ H fun x H'=>∃ k,x = .bl k∧Q k H'
theorem Zi {op:CmpOp} {r:R2} (ho:OpR X (compareOp op) r) (ha:PE X a ta) (hb:PE X b tb) (hm:behindInMarks op b=false):PT X (.Compare a [op] [b] pos) (tTest (tOp r ta tb)):=by
 intro pins s σ H Q I h
 refine wpAny_isTrue_Compare1 (thn (ha pins s σ H _ I h) fun v s1 ⟨x,H1,I1,r1,q1⟩=>thn (hb pins s1 σ H1 _ I1 q1) fun u s2 ⟨y,H2,I2,r2,q2⟩ =>
  thn (ho pins s2 σ H2 x y v u _ I2 r1 r2 q2) fun c s3 ⟨z,H3,I3,r3,k,e,q3⟩=>?_) hm
 subst e
 cases r3
 exact wpAny_truthy_bool ⟨H3,I3,q3⟩
noncomputable def TruV (K:PySem.W.Frag) (x:V) (H:Hp) (k:Bool):Prop :=
 match x with
 | .non=>k=false
 | .bl b=>k=b
 | .int i=>k=(i != 0)
 | .str y=>y.length≤sizeLine∧k=((y.length:Int) != 0)
 | .byt y=>y.size≤sizeLine∧k=((y.size:Int) != 0)
 | .ref p=>(∃ xs,SqL K H p xs∧k=!xs.isEmpty)∨(∃ xs,SqT K H p xs∧k=!xs.isEmpty)∨∃ kvs,H p=some (.dK kvs)∧k=!kvs.isEmpty
 | _=>False
theorem Xbc {κ:Type} {kvs:List (κ×V)} {vs:List (κ×Value)} (r:KV kvs vs):(!vs.isEmpty)=!kvs.isEmpty:=by
 cases r<;>rfl
theorem Zmd {xs:List V} {its:List Value} (r:Vals xs its):(!its.toArray.isEmpty)=!xs.isEmpty:=by
 cases r<;>simp
theorem line63:(sizeLine:Nat)<2 ^ 63:=by rw [sizeLine_eq];decide
theorem Xni:TruR X (fun x H Q=>∃ k,TruV X.K x H k∧Q k H):=by
 intro pins s σ H x v Q I rx h
 obtain ⟨k,e,q⟩:=h
 have hl:=line63
 have hs:sizeLine=16777216:=sizeLine_eq
 cases x with
 | non =>
  cases rx
  have e':k=false:=e
  subst e'
  exact truthy_none ⟨H,I,q⟩
 | bl b =>
  cases rx
  have e':k=b:=e
  subst e'
  exact wpAny_truthy_bool ⟨H,I,q⟩
 | int i =>
  obtain ⟨t,rfl⟩:=rx
  have e':k=(i != 0):=e
  subst e'
  exact PySem.P.truthy_int ⟨H,I,q⟩
 | str y =>
  obtain ⟨t,rfl⟩:=rx
  obtain ⟨hy,e'⟩:y.length≤sizeLine∧k=((y.length:Int) != 0):=e
  subst e'
  exact PySem.P.truthy_str (by omega) ⟨H,I.tok _,q⟩
 | byt y =>
  obtain ⟨t,rfl⟩:=rx
  obtain ⟨hy,e'⟩:y.size≤sizeLine∧k=((y.size:Int) != 0):=e
  subst e'
  exact PySem.W.truthy_bytes (by omega) ⟨H,I.tok _,q⟩
 | ref p =>
  cases rx
  have e':(∃ xs,SqL X.K H p xs∧k=!xs.isEmpty)∨(∃ xs,SqT X.K H p xs∧k=!xs.isEmpty)∨∃ kvs,H p=some (.dK kvs)∧k=!kvs.isEmpty:=e
  rcases e' with ⟨xs,hx,e'⟩ | ⟨xs,hx,e'⟩ | ⟨kvs,hx,e'⟩
  ·subst e'
   obtain ⟨its,r,pl,hz⟩:=I.list hx
   have hlen:=r.length
   exact wpAny_truthy_list pl.isList (by simp only [List.size_toArray];omega) ⟨H,I.tok _,by rw [Zmd r];exact q⟩
  ·subst e'
   obtain ⟨its,r,pl,hz⟩:=I.tuple hx
   have hlen:=r.length
   exact truthy_tuple pl (by simp only [List.size_toArray];omega) ⟨H,I.tok _,by rw [Zmd r];exact q⟩
  ·subst e'
   obtain ⟨hz,hS,vs,r,m⟩:kvs.length≤sizeLine∧(p == sysModules)=false∧∃ vs,KV kvs vs∧s.heap.DictOf (mixKind X.prog X.w) p vs:=I.hok p _ hx
   have hlen:kvs.length=vs.length:=Paired.length r
   exact wpAny_truthy_dict hS m (by omega) ⟨H,I.tok _,by rw [Xbc r];exact q⟩
 | _=>exact (show False from e).elim
theorem Xv (ha:PE X a ta) (he:∀ whole,isTrue a X.env whole=(do let v ← whole;standAt a.pos;holding [v] (truthy v))) :
  PT X a (fun σ H Q=>ta σ H fun x H'=>∃ k,TruV X.K x H' k∧Q k H'):=by
 intro pins s σ H Q I h
 exact isTrue_plain (thn (ha pins s σ H _ I h) fun v s1 ⟨x,H1,I1,r1,q1⟩=>Xni pins s1 σ H1 x v Q I1 r1 q1) (he _)
theorem Xab:OpR X (binaryOp .Add) (fun x y H Q=>∃ i j,x = .str i∧y = .str j∧i.length+j.length≤sizeLine∧Q (.str (i++j)) H):=by
 intro pins s σ H x y v u Q I rx ry h
 obtain ⟨i,j,rfl,rfl,hz,q⟩:=h
 obtain ⟨t,rfl⟩:=rx
 obtain ⟨t',rfl⟩:=ry
 exact add_str (fun t' tk=>⟨.str (i++j),H,I.tok _,⟨_,rfl⟩,q⟩) hz
theorem vals1 {x:V} {us:List Value} (r:Vals [x] us):∃ u,us=[u]∧RelV x u:=by
 cases r with
 | cons r1 r2=>cases r2;exact ⟨_,rfl,r1⟩
theorem vals2 {x y:V} {us:List Value} (r:Vals [x,y] us):∃ u w',us=[u,w']∧RelV x u∧RelV y w':=by
 cases r with
 | cons r1 r2 =>
  cases r2 with
  | cons r3 r4=>cases r4;exact ⟨_,_,rfl,r1,r3⟩
theorem Xfg (hc:X.calm=true):CallR X (.builtin "max") (fun xs H Q=>∃ i j,xs=[.int i,.int j]∧Q (.int (if j > i then j else i)) H):=by
 intro pins s σ H xs us Q I r h
 obtain ⟨i,j,rfl,q⟩:=h
 obtain ⟨u,w',rfl,⟨t,rfl⟩,⟨t',rfl⟩⟩:=vals2 r
 refine max_two_ints (I.ok.hd hc) fun h' tk k=>⟨_,H,I.kept k,?_,q⟩
 by_cases hj:j > i
 ·rw [if_pos hj,if_pos hj];exact ⟨_,rfl⟩
 ·rw [if_neg hj,if_neg hj];exact ⟨_,rfl⟩
theorem Zre (hc:X.calm=true):CallR X (.builtin "min") (fun xs H Q=>∃ i j,xs=[.int i,.int j]∧Q (.int (if j<i then j else i)) H):=by
 intro pins s σ H xs us Q I r h
 obtain ⟨i,j,rfl,q⟩:=h
 obtain ⟨u,w',rfl,⟨t,rfl⟩,⟨t',rfl⟩⟩:=vals2 r
 refine min_two_ints (I.ok.hd hc) fun h' tk k=>⟨_,H,I.kept k,?_,q⟩
 by_cases hj:j<i
 ·rw [if_pos hj,if_pos hj];exact ⟨_,rfl⟩
 ·rw [if_neg hj,if_neg hj];exact ⟨_,rfl⟩
theorem Xfh:CallR X (.type "int") (fun xs H Q=>(∃ i,xs=[.int i]∧Q (.int i) H)∨∃ k,xs=[.bl k]∧Q (.int (if k then 1 else 0)) H):=by
 intro pins s σ H xs us Q I r h
 rcases h with ⟨i,rfl,q⟩ | ⟨k,rfl,q⟩
 ·obtain ⟨u,rfl,t,rfl⟩:=vals1 r
  exact call_int_int ⟨.int i,H,I,⟨_,rfl⟩,q⟩
 ·obtain ⟨u,rfl,r1⟩:=vals1 r
  cases r1
  exact call_int_bool ⟨.int (if k then 1 else 0),H,I.tok _,⟨_,rfl⟩,q⟩
theorem Jc:CallR X (.type "str") (fun xs H Q=>∃ i,xs=[.int i]∧i.natAbs.log2<1920∧Q (.str (toString i)) H):=by
 intro pins s σ H xs us Q I r h
 obtain ⟨i,rfl,hz,q⟩:=h
 obtain ⟨u,rfl,t,rfl⟩:=vals1 r
 exact PySem.P.str_of_int hz ⟨.str _,H,I.tok _,⟨_,rfl⟩,q⟩
noncomputable def LenV (K:PySem.W.Frag) (x:V) (H:Hp) (n:Nat):Prop :=
 match x with
 | .str y=>y.length≤sizeLine∧n=y.length
 | .byt y=>y.size≤sizeLine∧n=y.size
 | .ref p=>(∃ xs,SqL K H p xs∧n=xs.length)∨∃ xs,SqT K H p xs∧n=xs.length
 | _=>False
theorem Zx:CallR X (.builtin "len") (fun xs H Q=>∃ x n,xs=[x]∧LenV X.K x H n∧Q (.int n) H):=by
 intro pins s σ H xs us Q I r h
 obtain ⟨x,n,rfl,e,q⟩:=h
 obtain ⟨u,rfl,rx⟩:=vals1 r
 have hl:=line63
 have hs:sizeLine=16777216:=sizeLine_eq
 cases x with
 | str y =>
  obtain ⟨t,rfl⟩:=rx
  obtain ⟨hy,e'⟩:y.length≤sizeLine∧n=y.length:=e
  subst e'
  exact len_str (by omega) ⟨.int _,H,I.tok _,⟨_,rfl⟩,q⟩
 | byt y =>
  obtain ⟨t,rfl⟩:=rx
  obtain ⟨hy,e'⟩:y.size≤sizeLine∧n=y.size:=e
  subst e'
  exact PySem.W.len_bytes (by omega) ⟨.int _,H,I.tok _,⟨_,rfl⟩,q⟩
 | ref p =>
  cases rx
  have e':(∃ xs,SqL X.K H p xs∧n=xs.length)∨∃ xs,SqT X.K H p xs∧n=xs.length:=e
  rcases e' with ⟨xs,hx,e'⟩ | ⟨xs,hx,e'⟩
  ·subst e'
   obtain ⟨its,r',pl,hz⟩:=I.list hx
   have hlen:=r'.length
   exact Calls.call_len_list pl.isList (by simp only [List.size_toArray];omega) ⟨.int xs.length,H,I.tok _,⟨_,by simp only [List.size_toArray];rw [hlen]⟩,q⟩
  ·subst e'
   obtain ⟨its,r',pl,hz⟩:=I.tuple hx
   have hlen:=r'.length
   exact len_tuple pl (by simp only [List.size_toArray];omega) ⟨.int xs.length,H,I.tok _,⟨_,by simp only [List.size_toArray];rw [hlen]⟩,q⟩
 | _=>exact (show False from e).elim
end
end L2
namespace L2
open PySem PySem.Spec PyProof.Rows
structure ObjM (h:Heap) (x dx C:Addr) (mA:Str→Option Value):Prop where
 obj:h.get? x=some (PySem.W.instObj C dx)
 ns:h.Ns1 dx mA
 ne:dx≠x
theorem Xee {h:Heap} {dx:Addr} {mA:Str→Option Value} (n:h.Ns1 dx mA):∃ od,h.get? dx=some od∧∀ name,PySem.W.lookIn name od=some (mA name):=by
 obtain ⟨o,es,ep,ho,hd,hk,_,hm⟩:=n
 refine ⟨o,ho,fun name=>?_⟩
 have e:=hm name
 unfold nsFind findBy at e
 rw [← Array.find?_toList] at e
 unfold PySem.W.lookIn
 rw [hd]
 dsimp only
 split
 ·rename_i y q
  rw [q] at e
  exact congrArg some e
 ·rename_i q
  rw [q] at e
  have a:es.toList.any (·.refKey)=false:=by
   rw [List.any_eq_false]
   intro y hy
   obtain ⟨z,t,hkey⟩:=hk y (Array.mem_toList_iff.mp hy)
   simp [DictEntry.refKey,hkey]
  have a':¬es.toList.any (·.refKey)=true:=by rw [a];exact Bool.false_ne_true
  rw [if_neg a']
  exact congrArg some e
theorem ObjM.look {h:Heap} {x dx C:Addr} {mA:Str→Option Value} (I:ObjM h x dx C mA):∃ od,PySem.W.InstAt h x (PySem.W.instObj C dx) C (some od)∧∀ name,PySem.W.lookIn name od=some (mA name) :=
 let ⟨od,ho,hl⟩:=Xee I.ns
 ⟨od,⟨I.obj,rfl,rfl,ho⟩,hl⟩
section
variable {prog:Program} {w:World} {A:Around} {E:Value→Shared→Prop} {s:Shared} {K:PySem.W.Frag} {x dx C f:Addr} {mA:Str→Option Value} {name:Str} {v:Value}
theorem Xna {expr:Bool} {Q:Value→Shared→Prop} (X:K.In s.heap) (I:ObjM s.heap x dx C mA) (hg:PySem.W.plainGet K C name=true) (hh:PySem.W.hasDictIn K C=true)
  (ha:PySem.W.findIn K (.ref C) name=some none) (hv:mA name=some v) (hv':PySem.W.handedIn v=true) (h:Q v {s with toks:=s.toks+1}) :
  wpAny (model prog w) A (getAttr (.ref x) name expr) Q E s:=by
 obtain ⟨od,J,hl⟩:=I.look
 exact PySem.W.get_value X J (PySem.W.plainGet_of hg).1 (PySem.W.findObj_own hh ha rfl (by rw [hl,hv])) hv' h
theorem Xjf {pl:Sem Bool} {Q:Value×List Value→Shared→Prop} (X:K.In s.heap) (I:ObjM s.heap x dx C mA) (hg:PySem.W.plainGet K C name=true)
  (hf:PySem.W.findIn K (.ref C) name=some (some (.ref f))) (ht:PySem.W.isFn K (.ref f)=true) (hv:mA name=none) (h:Q (.ref f,[.ref x]) s) :
  wpAny (model prog w) A (getMethod (.ref x) name pl) Q E s:=by
 obtain ⟨od,J,hl⟩:=I.look
 exact PySem.W.method_fn X J (PySem.W.plainGet_of hg).1 (PySem.W.plainGet_of hg).2 hf (beq_iff_eq.mp ht) (by show (PySem.W.lookIn name od).map (·.isSome)=some false;rw [hl,hv];rfl) h
theorem Xle {ns:List Str} {Q:Unit→Shared→Prop} (X:K.In s.heap) (I:ObjM s.heap x dx C mA)
  (hs:PySem.W.findIn K (.ref C) "__setattr__"=some (some (.builtin "object.__setattr__"))) (hp:PySem.W.plainOver K C=true) (ht:PySem.W.takerIn K C name=some none) (hh:PySem.W.hasDictIn K C=true)
  (hw:PySem.Within mA ns) (hsz:ns.length≤sizeLine)
  (h:∀ h',ObjM h' x dx C (fun y=>if y=name then some v else mA y)→Heap.SameBut dx s.heap h'→Q () {s with heap:=h',toks:=s.toks+2}) :
  wpAny (model prog w) A (setAttr (.ref x) name v) Q E s:=by
 obtain ⟨od,J,hl⟩:=I.look
 refine PySem.W.set_plain X J hs (PySem.W.osa_open (s:={s with toks:=s.toks+1}) (r:=none) X J hp ht fun b=>?_)
 obtain ⟨cd,hc,hd'⟩:=PySem.W.any_some hh
 have hx:s.heap.get? x=some ⟨.ref C,some dx,.plain,#[]⟩:=I.obj
 refine wpAny_bind (wpAny_pure (wpAny_bind (wpAny_bind (wpAny_loadPart hx (wpAny_bind (PySem.W.Looks.here (s:={s with toks:=s.toks+1}) (PySem.W.looks_clsIn X hc) ?_))))))
 rw [hd']
 refine wpAny_pure (a:=some dx) (wpAny_bind (wpAny_pure (wpAny_bind ?_)))
 refine wpAny_nsSet1 (s:={s with toks:=s.toks+1}) I.ns fun h' hn2 hs2=>?_
 obtain ⟨oD,esD,epD,hoD,hdD,hcD⟩:=hn2.count (PySem.Within.cons name v hw)
 refine wpAny_bind (wpAny_lookBehind hoD (by rw [hdD];exact pastItsLine_dict (Nat.le_trans hcD (by rw [List.length_cons];omega))) ?_)
 exact wpAny_pure (h _ ⟨(hs2.2 _ (Ne.symm I.ne)).trans I.obj,hn2,I.ne⟩ hs2)
theorem Zxc {R:Result→Shared→Prop} {vs:List Value} {kw:List (Str×Value)} (X:K.In s.heap) (hm:PySem.W.makesIn K C=true)
  (hi:PySem.W.findIn K (.ref C) "__init__"=some (some (.ref f))) (hf:PySem.W.typeIn K (.ref f)=some (.type "function"))
  (h:codeAny (model prog w) (A.under (.builtin "type.__call__" ⟨.ref C::vs,kw⟩)) (.call (.ref f) ⟨.ref (s.heap.objs.size+1)::vs,kw⟩) (PySem.W.InitBack (s.heap.objs.size+1) R)
   {s with heap:=(s.heap.push PySem.W.emptyDict).push (PySem.W.instObj C s.heap.objs.size)}) :
  codeAny (model prog w) A (.call (.ref C) ⟨vs,kw⟩) R s:=by
 obtain ⟨hh,g,d,t,os⟩:=s
 exact PySem.W.make_core (PySem.W.makes_of X hm) (PySem.W.looks_findIn X hi) (fun self=>PySem.W.bind_fn X self hf) (.inl rfl) h
theorem Xed {R:Result→Shared→Prop} (X:K.In s.heap) (hm:PySem.W.makesIn K C=true)
  (hi:PySem.W.findIn K (.ref C) "__init__"=some (some (.builtin "object.__init__")))
  (hb:∀ self,PySem.W.Looks (model prog w) s.heap (bindSpecial (.builtin "object.__init__") self) (.builtin "object.__init__",[self]))
  (h:codeAny (model prog w) (A.under (.builtin "type.__call__" ⟨[.ref C],[]⟩)) (.call (.builtin "object.__init__") ⟨[.ref (s.heap.objs.size+1)],[]⟩) (PySem.W.InitBack (s.heap.objs.size+1) R)
   {s with heap:=(s.heap.push PySem.W.emptyDict).push (PySem.W.instObj C s.heap.objs.size)}) :
  codeAny (model prog w) A (.call (.ref C) ⟨[],[]⟩) R s:=by
 obtain ⟨hh,g,d,t,os⟩:=s
 exact PySem.W.make_core (PySem.W.makes_of X hm) (PySem.W.looks_findIn X hi) hb (.inr ⟨rfl,rfl⟩) h
end
noncomputable def putF (f:Str) (v:V):List (Str×V)→List (Str×V)
 | []=>[(f,v)]
 | (g,x)::r=>if g=f then (g,v)::r else (g,x)::putF f v r
theorem Zgh (f g:Str) (v:V):∀ fs:List (Str×V),(putF f v fs).lookup g=if g=f then some v else fs.lookup g
 | []=>by
  show List.lookup g [(f,v)]=_
  by_cases h:g=f
  ·have hb:(g == f)=true:=beq_iff_eq.mpr h
   simp only [List.lookup,hb,if_pos h]
  ·have hb:(g == f)=false:=beq_eq_false_iff_ne.mpr h
   simp only [List.lookup,hb,if_neg h]
 | (k,x)::r=>by
  have ih:=Zgh f g v r
  rw [show putF f v ((k,x)::r)=(if k=f then (k,v)::r else (k,x)::putF f v r) from rfl]
  by_cases hk:k=f
  ·rw [if_pos hk]
   by_cases h:g=k
   ·have hb:(g == k)=true:=beq_iff_eq.mpr h
    simp only [List.lookup,hb,if_pos (h.trans hk)]
   ·have hb:(g == k)=false:=beq_eq_false_iff_ne.mpr h
    simp only [List.lookup,hb,if_neg (fun e:g=f=>h (e.trans hk.symm))]
  ·rw [if_neg hk]
   by_cases h:g=k
   ·have hb:(g == k)=true:=beq_iff_eq.mpr h
    simp only [List.lookup,hb,if_neg (fun e:g=f=>hk (h.symm.trans e))]
   ·have hb:(g == k)=false:=beq_eq_false_iff_ne.mpr h
    simp only [List.lookup,hb]
    exact ih
theorem Zgd (f:Str) (v:V):∀ fs:List (Str×V),f∈(putF f v fs).map (·.1)∧∀ g,g∈fs.map (·.1)→g∈(putF f v fs).map (·.1)
 | []=>⟨by simp [putF],fun g h=>by simp at h⟩
 | (k,x)::r=>by
  obtain ⟨i1,i2⟩:=Zgd f v r
  rw [show putF f v ((k,x)::r)=(if k=f then (k,v)::r else (k,x)::putF f v r) from rfl]
  by_cases hk:k=f
  ·rw [if_pos hk]
   subst hk
   exact ⟨by simp,fun g h=>by simpa using h⟩
  ·rw [if_neg hk]
   refine ⟨?_,fun g h=>?_⟩
   ·rw [List.map_cons]
    exact List.mem_cons_of_mem _ i1
   ·rw [List.map_cons] at h ⊢
    rcases List.mem_cons.mp h with e | e
    ·exact List.mem_cons.mpr (.inl e)
    ·exact List.mem_cons_of_mem _ (i2 g e)
theorem Zgi (f:Str) (v:V):∀ fs:List (Str×V),(putF f v fs).length≤fs.length+1
 | []=>by simp [putF]
 | (k,x)::r=>by
  have ih:=Zgi f v r
  rw [show putF f v ((k,x)::r)=(if k=f then (k,v)::r else (k,x)::putF f v r) from rfl]
  by_cases hk:k=f
  ·rw [if_pos hk,List.length_cons,List.length_cons];omega
  ·rw [if_neg hk,List.length_cons,List.length_cons];omega
theorem RelO.some_of {v:V} {o:Option Value} (r:RelO (some v) o):∃ u,o=some u∧RelV v u:=by
 cases o with
 | none=>exact (show False from r).elim
 | some u=>exact ⟨u,rfl,r⟩
theorem RelO.none_of {o:Option Value} (r:RelO none o):o=none:=by
 cases o with
 | none=>rfl
 | some u=>exact (show False from r).elim
theorem Xej {v:V} {u:Value} (r:RelV v u):PySem.W.handedIn u=true:=by
 cases v with
 | non=>cases (show u=Value.none from r);rfl
 | bl b=>cases (show u=Value.bool b from r);rfl
 | int i=>obtain ⟨t,e⟩:=(show ∃ t,u=Value.int i t from r);cases e;rfl
 | str x=>obtain ⟨t,e⟩:=(show ∃ t,u=Value.str x t from r);cases e;rfl
 | byt b=>obtain ⟨t,e⟩:=(show ∃ t,u=Value.bytes b t from r);cases e;rfl
 | flt b=>obtain ⟨t,e⟩:=(show ∃ t,u=Value.float b t from r);cases e;rfl
 | ref a=>cases (show u=Value.ref a from r);rfl
 | ty n=>cases (show u=Value.type n from r);rfl
section
variable {P:Program} {w:World} {H H':Hp} {h h':Heap} {a C dx:Addr} {fs fs':List (Str×V)}
theorem Zii (hok:HOk P w H h) (e:H a=some (.ins C dx fs)):∃ mA,ObjM h a dx C mA∧(∀ f,RelO (fs.lookup f) (mA f))∧PySem.Within mA (fs.map (·.1))∧fs.length≤1000∧H dx=some (.own a):=by
 obtain ⟨d,z,ne,ob,mA,n,r,q⟩:=(show ObjOk P w H h a (.ins C dx fs) from hok a _ e)
 exact ⟨mA,⟨ob,n,ne⟩,r,q,z,d⟩
end
structure Cls (K:PySem.W.Frag) (C:Addr):Prop where
 pg:PySem.W.plainGet K C Str.empty=true
 hd:PySem.W.hasDictIn K C=true
 po:PySem.W.plainOver K C=true
 sa:PySem.W.findIn K (.ref C) "__setattr__"=some (some (.builtin "object.__setattr__"))
theorem Cls.get {K:PySem.W.Frag} {C:Addr} (c:Cls K C) (f:Str):PySem.W.plainGet K C f=true:=c.pg
noncomputable def NoAttr (K:PySem.W.Frag) (C:Addr) (f:Str):Prop:=PySem.W.findIn K (.ref C) f=some none
theorem NoAttr.taker {K:PySem.W.Frag} {C:Addr} {f:Str} (n:NoAttr K C f):PySem.W.takerIn K C f=some none:=by
 unfold PySem.W.takerIn
 rw [show PySem.W.findIn K (.ref C) f=some none from n]
 rfl
structure Con (K:PySem.W.Frag) (C:Addr) (f:Str) (v:V) (u:Value):Prop where
 at_:PySem.W.findIn K (.ref C) f=some (some u)
 rel:RelV v u
 get:PySem.W.specialIn K u "__get__"=some none
 cp:PySem.W.copiedNames.contains f=false
structure Meth (K:PySem.W.Frag) (C:Addr) (m:Str) (f:Addr):Prop where
 at_:PySem.W.findIn K (.ref C) m=some (some (.ref f))
 fn:PySem.W.isFn K (.ref f)=true
 kp:PySem.W.keepIn K (.ref f)=true
section
variable {X:Cx} {pins:List (Addr×Obj)} {σ:St} {H:Hp} {s:Shared} {a C dx:Addr} {fs:List (Str×V)} {f:Str} {v:V} {A:Around} {E:Value→Shared→Prop}
theorem Xbd {b:Bool} {Q:Value→Shared→Prop} (I:Inv X pins σ H s) (e:H a=some (.ins C dx fs)) (c:Cls X.K C) (n:NoAttr X.K C f) (l:fs.lookup f=some v)
  (h:∀ u s',Inv X pins σ H s'→RelV v u→Q u s'):wpAny (model X.prog X.w) A (getAttr (.ref a) f b) Q E s:=by
 obtain ⟨mA,O,r,_,_,_⟩:=Zii I.hok e
 obtain ⟨u,hu,ru⟩:=RelO.some_of (v:=v) (o:=mA f) (by rw [← l];exact r f)
 exact Xna I.kIn O (c.get f) c.hd n hu (Xej ru) (h u _ (I.tok _) ru)
theorem Zab {m:Str} {g:Addr} {pl:Sem Bool} {Q:Value×List Value→Shared→Prop} (I:Inv X pins σ H s) (e:H a=some (.ins C dx fs)) (c:Cls X.K C) (k:Meth X.K C m g) (l:fs.lookup m=none)
  (h:Q (.ref g,[.ref a]) s):wpAny (model X.prog X.w) A (getMethod (.ref a) m pl) Q E s:=by
 obtain ⟨mA,O,r,_,_,_⟩:=Zii I.hok e
 have hn:mA m=none:=RelO.none_of (by rw [← l];exact r m)
 exact Xjf I.kIn O (c.get m) k.at_ k.fn hn h
theorem Zzb {y:V} {u:Value} {Q:Unit→Shared→Prop} (I:Inv X pins σ H s) (e:H a=some (.ins C dx fs)) (c:Cls X.K C) (n:NoAttr X.K C f) (hl:fs.length<1000) (ry:RelV y u)
  (h:∀ s',Inv X pins σ (upd H a (.ins C dx (putF f y fs))) s'→Q () s'):wpAny (model X.prog X.w) A (setAttr (.ref a) f u) Q E s:=by
 obtain ⟨mA,O,r,wi,_,ho⟩:=Zii I.hok e
 have hz:(fs.map (·.1)).length≤sizeLine:=by rw [List.length_map,sizeLine_eq];omega
 refine Xle I.kIn O c.sa c.po n.taker c.hd wi hz fun h' O' sb=>h _ ?_
 have hd:∃ o,h'.get? dx=some o:=let ⟨o,_,_,e',_⟩:=O'.ns;⟨o,e'⟩
 refine I.write (x:=a) (e:=dx) (by rw [e];exact True.intro) (.inr ho) (fun b q hb z=>(sb.2 b hb).trans z) hd ?_
 refine ⟨by rw [Zn O.ne];exact ho,?_,O.ne,O'.obj,_,O'.ns,fun g=>?_,fun g hg=>?_⟩
 ·have:=Zgi f y fs;omega
 ·show RelO ((putF f y fs).lookup g) (if g=f then some u else mA g)
  rw [Zgh]
  by_cases q:g=f
  ·rw [if_pos q,if_pos q];exact ry
  ·rw [if_neg q,if_neg q];exact r g
 ·by_cases q:g=f
  ·rw [q];exact (Zgd f y fs).1
  ·refine (Zgd f y fs).2 g (wi g fun z=>hg ?_)
   show (if g=f then some u else mA g)=none
   rw [if_neg q];exact z
theorem Inv.made (I:Inv X pins σ H s):Inv X pins σ (upd (upd H s.heap.objs.size (.own (s.heap.objs.size+1))) (s.heap.objs.size+1) (.ins C s.heap.objs.size []))
  {s with heap:=(s.heap.push PySem.W.emptyDict).push (PySem.W.instObj C s.heap.objs.size)}:=by
 have e1:(s.heap.push PySem.W.emptyDict).get? s.heap.objs.size=some PySem.W.emptyDict:=Heap.get?_push_size s.heap rfl
 have e2:((s.heap.push PySem.W.emptyDict).push (PySem.W.instObj C s.heap.objs.size)).get? (s.heap.objs.size+1)=some (PySem.W.instObj C s.heap.objs.size):=by
  have:=Heap.get?_push_size (s.heap.push PySem.W.emptyDict) (o:=PySem.W.instObj C s.heap.objs.size) rfl
  rwa [Heap.size_push] at this
 have e3:(s.heap.push PySem.W.emptyDict).Ns s.heap.objs.size (fun _=>none):=⟨PySem.W.emptyDict,#[],_,e1,rfl,(fun e he=>absurd he (by simp)),fun _=>rfl⟩
 have I1:=I.laid (a:=s.heap.objs.size) (o := .own (s.heap.objs.size+1)) (h':=s.heap.push PySem.W.emptyDict) (t':=s.toks) (fun b u q=>Heap.get?_push_of_some _ q) (Nat.le_refl _) ⟨_,e1⟩
 refine I1.laid (a:=s.heap.objs.size+1) (o := .ins C s.heap.objs.size []) (t':=s.toks) (fun b u q=>Heap.get?_push_of_some _ q) (Nat.le_of_eq (Heap.size_push _ _)) ?_
 have ne:s.heap.objs.size≠s.heap.objs.size+1:=Nat.ne_of_lt (Nat.lt_succ_self _)
 refine ⟨by rw [Zn ne,Zb],Nat.zero_le _,ne,e2,fun _=>none,(Heap.Ns1.of_empty e3).at fun o q=>Heap.get?_push_of_some _ q,fun _=>True.intro,fun y hy=>absurd rfl hy⟩
theorem Xnd {prog:Program} {w:World} {env:Env} {e:Expr} {f:Str} {pos:Pos} {s:Shared} {Q:Value→Shared→Prop} (hb:attributeBase e f env (eval e env)=eval e env)
  (h:wpAny (model prog w) A (eval e env) (fun o s₁=>wpAny (model prog w) A (getAttr o f true) Q E s₁) E s):wpAny (model prog w) A (eval (.Attribute e f pos) env) Q E s :=
 Attribute_any_ h (by rw [arm_eval_Attribute,hb])
end
noncomputable def tFld (K:PySem.W.Frag) (ta:TE) (f:Str):TE:=fun σ H Q=>ta σ H fun x H1=>∃ a C dx fs v,x = .ref a∧H1 a=some (.ins C dx fs)∧Cls K C∧NoAttr K C f∧fs.lookup f=some v∧Q v H1
noncomputable def sFld (K:PySem.W.Frag) (ta tv:TE) (f:Str):TS:=fun D σ H=>tv σ H fun y H1=>ta σ H1 fun x H2=>∃ a C dx fs,x = .ref a∧H2 a=some (.ins C dx fs)∧Cls K C∧NoAttr K C f∧fs.length<1000∧
 D.nx σ (upd H2 a (.ins C dx (putF f y fs)))
section
variable {X:Cx} {o e value:Expr} {f:Str} {pos pos' tpos:Pos} {ta tv:TE}
theorem Yw (he:PE X e ta) (hb:attributeBase e f X.env (eval e X.env)=eval e X.env):PE X (.Attribute e f pos) (tFld X.K ta f):=by
 intro pins s σ H Q I h
 refine Xnd hb (thn (he pins s σ H _ I h) fun u s1 ⟨x,H1,I1,rx,a,C,dx,fs,v,ex,ea,c,n,l,q⟩=>?_)
 subst ex
 obtain rfl:u=Value.ref a:=rx
 exact Xbd I1 ea c n l fun u' s2 I2 ru=>⟨v,H1,I2,ru,q⟩
theorem Yv (ha:PE X o ta) (hv:PE X value tv) (hs:swapsWith value (some (.Attribute o f pos')) pos.line X.env=pure false):PS X (.Assign [.Attribute o f pos'] value pos) (sFld X.K ta tv f):=by
 intro pins s σ H D I h
 refine plainObj_wpAny_Assign_Attribute (thn (hv pins s σ H _ I h) fun u s1 ⟨y,H1,I1,ry,q⟩=>thn (ha pins s1 σ H1 _ I1 q) fun ov s2 ⟨x,H2,I2,rx,a,C,dx,fs,ex,ea,c,n,l,q2⟩=>?_) hs
 subst ex
 obtain rfl:ov=Value.ref a:=rx
 exact Zzb I2 ea c n l ry fun s3 I3=>⟨σ,_,I3,q2⟩
end
section
variable {X:Cx} {pins:List (Addr×Obj)} {σ:St} {H:Hp} {s:Shared} {A:Around} {E:Value→Shared→Prop} {Q:Value→Shared→Prop} {c:Value} {b:Bool}
inductive TyOf (K:PySem.W.Frag) (H:Hp):V→Value→Prop where
 | non:TyOf K H .non (.type "NoneType")
 | bl (x:Bool):TyOf K H (.bl x) (.type "bool")
 | int (i:Int):TyOf K H (.int i) (.type "int")
 | str (x:Str):TyOf K H (.str x) (.type "str")
 | flt (x:UInt64):TyOf K H (.flt x) (.type "float")
 | lst {a:Addr} {xs:List V} (e:H a=some (.lst xs)):TyOf K H (.ref a) (.type "list")
 | frz {a:Addr} {o:Obj} {xs:List V} (e:H a=some (.frz o (.lst xs))):TyOf K H (.ref a) (.type "list")
 | tup {a:Addr} {xs:List V} (e:H a=some (.tup xs)):TyOf K H (.ref a) (.type "tuple")
 | dK {a:Addr} {kvs:List (Key×V)} (e:H a=some (.dK kvs)):TyOf K H (.ref a) (.type "dict")
 | dT {a:Addr} {kvs:List (List Key×V)} (e:H a=some (.dT kvs)):TyOf K H (.ref a) (.type "dict")
 | ins {a C dx:Addr} {fs:List (Str×V)} (e:H a=some (.ins C dx fs)) (cl:Cls K C) (ha:PySem.W.findIn K (.ref C) "__class__"=some (some (.builtin "object.__class__")))
   (hn:PySem.W.specialIn K (.builtin "object.__class__") "__get__"=some (some (.builtin "getset_descriptor.__get__"))) (htk:PySem.W.takesIn K (.builtin "object.__class__")=some true)
   (hm:PySem.W.mroIn K C (.type "object")=some true):TyOf K H (.ref a) (.ref C)
theorem Zqg {x:V} {u t:Value} (I:Inv X pins σ H s) (rx:RelV x u) (ty:TyOf X.K H x t) (e:PySem.W.kitOne X.K t c=some b) (h:∀ tk,Q (.bool b) {s with toks:=tk}) :
  wpAny (model X.prog X.w) A (call (.builtin "isinstance") [u,c]) Q E s:=by
 cases ty with
 | non=>cases (show u=Value.none from rx);exact PySem.W.kia_one PySem.W.kitx_none I.kIn True.intro e (fun z=>nomatch z) h
 | bl y=>cases (show u=Value.bool y from rx);exact PySem.W.kia_one PySem.W.kitx_bool I.kIn True.intro e (fun z=>nomatch z) h
 | int i=>obtain ⟨t,q⟩:=(show ∃ t,u=Value.int i t from rx);cases q;exact PySem.W.kia_one PySem.W.kitx_int I.kIn True.intro e (fun z=>nomatch z) h
 | str y=>obtain ⟨t,q⟩:=(show ∃ t,u=Value.str y t from rx);cases q;exact PySem.W.kia_one PySem.W.kitx_str I.kIn True.intro e (fun z=>nomatch z) h
 | flt y=>obtain ⟨t,q⟩:=(show ∃ t,u=Value.float y t from rx);cases q;exact PySem.W.kia_one PySem.W.kitx_float I.kIn True.intro e (fun z=>nomatch z) h
 | @lst a xs ea =>
  cases (show u=Value.ref a from rx)
  obtain ⟨_,_,n,_,h1⟩:=(show ObjOk X.prog X.w H s.heap a (.lst xs) from I.hok a _ ea)
  exact PySem.W.kia_one PySem.W.kitx_list I.kIn ⟨_,h1,rfl⟩ e (fun z=>nomatch z) h
 | @frz a ob xs ea =>
  cases (show u=Value.ref a from rx)
  obtain ⟨_,_,_,n,_,h1⟩:=(show ObjOk X.prog X.w H s.heap a (.frz ob (.lst xs)) from I.hok a _ ea)
  exact PySem.W.kia_one PySem.W.kitx_list I.kIn ⟨_,h1,rfl⟩ e (fun z=>nomatch z) h
 | @tup a xs ea =>
  cases (show u=Value.ref a from rx)
  obtain ⟨_,_,_,p⟩:=(show ObjOk X.prog X.w H s.heap a (.tup xs) from I.hok a _ ea)
  obtain ⟨o,h1,h2,_⟩:=p
  exact PySem.W.kia_one PySem.W.kitx_tuple I.kIn ⟨o,h1,h2⟩ e (fun z=>nomatch z) h
 | @dK a kvs ea =>
  cases (show u=Value.ref a from rx)
  obtain ⟨_,_,vs,_,p⟩:=(show ObjOk X.prog X.w H s.heap a (.dK kvs) from I.hok a _ ea)
  obtain ⟨o,es,ep,h1,h2,_⟩:=p
  exact PySem.W.kia_one PySem.W.kitx_dict I.kIn ⟨o,h1,h2.1⟩ e (fun z=>nomatch z) h
 | @dT a kvs ea=>exact (show False from I.hok a _ ea).elim
 | @ins a C dx fs ea cl ha hn htk hm =>
  cases (show u=Value.ref a from rx)
  obtain ⟨mA,O,_⟩:=Zii I.hok ea
  obtain ⟨od,J,_⟩:=O.look
  exact PySem.W.kia_one (PySem.W.kitx_own (cl.get _) cl.hd ha hn htk hm) I.kIn J e (fun z=>nomatch z) h
end
end L2
namespace L2
open PySem PySem.Spec PyProof.Rows
structure Room (k:Nat) (A:Around):Prop where
 hd:A.handled=none
 dp:A.depth+3*k+5<recursionLimit
 un:A.units+16*k+200<cLine
theorem Room.mono {j k:Nat} {A:Around} (r:Room k A) (h:j≤k):Room j A:=⟨r.hd,by have:=r.dp;omega,by have:=r.un;omega⟩
theorem Room.deeper {k:Nat} {A:Around} (r:Room (k+1) A) (env:Env):Room k (A.deeper env) :=
 ⟨r.hd,by have:=r.dp;show A.depth+1+3*k+5<_;omega,by have:=r.un;show A.units+3+16*k+200<_;omega⟩
theorem Xai {A:Around} {C:Addr} {us:List Value} {kw:List (Str×Value)}:(A.under (.builtin "type.__call__" ⟨.ref C::us,kw⟩)).depth=A.depth+1:=by
 first | rfl | simp [Around.under,Code.weight,Code.isCreation,Code.isGuard,Code.isCaller,Code.frames,Code.isFrame,guardIds]
theorem Xah {A:Around} {C:Addr} {us:List Value} {kw:List (Str×Value)}:(A.under (.builtin "type.__call__" ⟨.ref C::us,kw⟩)).units=A.units+1:=by
 first | rfl | simp [Around.under,Code.cUnits,Code.frames,Code.isFrame]
theorem Room.make {k:Nat} {A:Around} (r:Room (k+1) A) (C:Addr) (us:List Value) (kw:List (Str×Value)):Room k (A.under (.builtin "type.__call__" ⟨.ref C::us,kw⟩)) :=
 ⟨r.hd,by have:=r.dp;rw [Xai];omega,by have:=r.un;rw [Xah];omega⟩
theorem Room.depth {k:Nat} {A:Around} (r:Room k A):A.depth<recursionLimit:=by have:=r.dp;omega
noncomputable def tNil:TA:=fun _ H Q=>Q [] H
noncomputable def tCons (ta:TE) (tr:TA):TA:=fun σ H Q=>ta σ H fun x H1=>tr σ H1 fun xs H2=>Q (x::xs) H2
section
variable {X:Cx} {e:Expr} {es:List Expr} {te:TE} {t:TA} {pos:Pos}
theorem Zd:PA X [] tNil:=fun _ _ _ _ H Q I h=>Calls.spliced_nil ⟨[],H,I,.nil,h⟩
theorem Za (ha:PE X e te) (hr:PA X es t) (hs:starEach (e::es) X.env=(false,eval e X.env)::starEach es X.env:=by rfl):PA X (e::es) (tCons te t):=by
 intro pos pins s σ H Q I h
 rw [hs]
 show wpAny _ _ (spliced ((false,eval e X.env)::backTo pos (starEach es X.env))) _ _ s
 refine Calls.spliced_cons (thn (ha pins s σ H _ I h) fun u s1 ⟨x,H1,I1,r1,q1⟩=>?_)
 exact thn (hr pos pins s1 σ H1 _ I1 q1) fun us s2 ⟨xs,H2,I2,r2,q2⟩=>⟨x::xs,H2,I2,.cons r1 r2,q2⟩
noncomputable def tTup (t:TA):TE:=fun σ H Q=>t σ H fun xs H1=>xs.length≤sizeLine∧∀ p,H1 p=none→Q (.ref p) (upd H1 p (.tup xs))
noncomputable def tLst (t:TA):TE:=fun σ H Q=>t σ H fun xs H1=>xs.length≤sizeLine∧∀ p,H1 p=none→Q (.ref p) (upd H1 p (.lst xs))
theorem Zch {x1} (h:PA X es t):PE X (.Tuple es x1 pos) (tTup t):=by
 intro pins s σ H Q I hq
 refine wpAny_Tuple_spliced (thn (h pos pins s σ H _ I hq) fun us s1 ⟨xs,H1,I1,r,z,q⟩=>⟨by rw [← r.length];exact z,?_⟩)
 have hf:H1 s1.heap.objs.size=none:=I1.hok.fresh (Nat.le_refl _)
 refine ⟨.ref s1.heap.objs.size,upd H1 s1.heap.objs.size (.tup xs),I1.laid (t':=s1.toks) (fun b u e=>Heap.get?_push_of_some _ e) (Nat.le_refl _) ?_,rfl,q _ hf⟩
 exact ⟨z,us,r,⟨_,Heap.get?_push_size _ rfl,rfl,_,rfl⟩⟩
theorem Xb (h:PA X es t):PE X (.List es pos) (tLst t):=by
 intro pins s σ H Q I hq
 refine wpAny_List_spliced (thn (h pos pins s σ H _ I hq) fun us s1 ⟨xs,H1,I1,r,z,q⟩=>⟨by rw [← r.length];exact z,?_⟩)
 have hf:H1 s1.heap.objs.size=none:=I1.hok.fresh (Nat.le_refl _)
 refine ⟨.ref s1.heap.objs.size,upd H1 s1.heap.objs.size (.lst xs),I1.laid (t':=s1.toks) (fun b u e=>Heap.get?_push_of_some _ e) (Nat.le_refl _) ?_,rfl,q _ hf⟩
 exact ⟨z,us,0,r,Heap.get?_push_size _ rfl⟩
end
noncomputable abbrev Sp:=List V→Hp→VK→XK→Prop
noncomputable abbrev CXT:=List Env→Hp→Shared→XK→Value→Shared→Prop
structure Env0 (P:Program) (w:World) (K:PySem.W.Frag) (mg:Str→Option Value) (base:Heap) (A:Around) (outer:List Env) (s:Shared) (H:Hp):Prop where
 frames:A.frames=some outer
 mod:Mod K mg base
 bs:∀ b o,base.get? b=some o→s.heap.get? b=some o∧H b=none
 bsz:base.objs.size≤s.heap.objs.size
 funs:s.heap.FunFrames base outer
 frf:∀ b∈frs outer,H b=none
 hok:HOk P w H s.heap
 bare:AllBare s.gens
noncomputable def CE (outer:List Env) (P:Program) (w:World) (H:Hp) (s:Shared) (Q:VK) (u:Value) (s':Shared):Prop :=
 ∃ v H',s'.os=s.os∧AllBare s'.gens∧Un (frs outer) [] H H' s.heap s'.heap∧HOk P w H' s'.heap∧RelV v u∧Q v H'
noncomputable def CR (CX:CXT) (outer:List Env) (P:Program) (w:World) (H:Hp) (s:Shared) (Q:VK) (E:XK) (r:Result) (s':Shared):Prop :=
 match r with
 | .ok (.ret u)=>CE outer P w H s Q u s'
 | .ok _=>False
 | .error e=>CX outer H s E e s'
structure FnOk (P:Program) (w:World) (K:PySem.W.Frag) (mg:Str→Option Value) (base:Heap) (CX:CXT) (k:Nat) (f:Addr) (fd:FuncData) (ps:List Str) (sp:Sp):Prop where
 len:∀ vs H Q E,sp vs H Q E→vs.length=ps.length
 run:∀ (A:Around) (outer:List Env) (s:Shared) (H:Hp) (args:Args) (us:List Value) (vs:List V) (Q:VK) (E:XK),Room k A→Env0 P w K mg base A outer s H→BindsTo s fd args (ps.zip us)→Vals vs us→sp vs H Q E→
  codeAny (model P w) A (.call (.ref f) args) (CR CX outer P w H s Q E) s
theorem FnOk.mono {P:Program} {w:World} {K:PySem.W.Frag} {mg:Str→Option Value} {base:Heap} {CX:CXT} {j k:Nat} {f:Addr} {fd:FuncData} {ps:List Str} {sp:Sp} (F:FnOk P w K mg base CX j f fd ps sp) (h:j≤k) :
  FnOk P w K mg base CX k f fd ps sp:=⟨F.len,fun A outer s H args us vs Q E hr=>F.run A outer s H args us vs Q E (hr.mono h)⟩
theorem FnOk.imp {P:Program} {w:World} {K:PySem.W.Frag} {mg:Str→Option Value} {base:Heap} {CX:CXT} {k:Nat} {f:Addr} {fd:FuncData} {ps:List Str} {sp sp':Sp} (F:FnOk P w K mg base CX k f fd ps sp)
  (h:∀ vs H Q E,sp' vs H Q E→sp vs H Q E):FnOk P w K mg base CX k f fd ps sp' :=
 ⟨fun vs H Q E q=>F.len vs H Q E (h _ _ _ _ q),fun A outer s H args us vs Q E hr he hb hv hs=>F.run A outer s H args us vs Q E hr he hb hv (h _ _ _ _ hs)⟩
theorem Env0.make {P:Program} {w:World} {K:PySem.W.Frag} {mg:Str→Option Value} {base:Heap} {A:Around} {outer:List Env} {s:Shared} {H:Hp} (e:Env0 P w K mg base A outer s H) (C:Addr) (us:List Value) (kw:List (Str×Value)) :
  Env0 P w K mg base (A.under (.builtin "type.__call__" ⟨.ref C::us,kw⟩)) outer s H:=⟨by first | exact e.frames | (simpa [Around.under,Code.envs,Code.isFrame,pushEnvs] using e.frames),e.mod,e.bs,e.bsz,e.funs,e.frf,e.hok,e.bare⟩
section
variable {X:Cx} {pins:List (Addr×Obj)} {σ:St} {H:Hp} {s s':Shared}
theorem Inv.env0 (I:Inv X pins σ H s):Env0 X.prog X.w X.K X.mg X.base X.A X.stack s H :=
 ⟨I.ok.frames,I.ok.mod,I.bs,Nat.le_trans I.ok.bsz I.sz,I.stack,I.stkFree,I.hok,I.bare⟩
theorem Inv.after {Q:VK} {u:Value} (I:Inv X pins σ H s) (h:CE X.stack X.prog X.w H s Q u s'):EP X pins σ Q u s':=by
 obtain ⟨v,H',os,bare,un,hok,r,q⟩:=h
 obtain ⟨hh,g,d,t,os'⟩:=s'
 obtain rfl:os'=s.os:=os
 exact ⟨v,H',I.call (h':=hh) (g':=g) (d':=d) (t':=t) (ch:=[]) un hok bare (fun b z=>absurd z (by simp)),r,q⟩
end
noncomputable def tCall (sp:Sp) (dvs:List V) (E:XK) (t:TA):TE:=fun σ H Q=>t σ H fun vs H1=>sp (vs++dvs) H1 Q E
noncomputable def tMeth (C:Addr) (m:Str) (sp:Sp) (dvs:List V) (E:XK) (ta:TE) (t:TA):TE:=fun σ H Q=>ta σ H fun x H1=>∃ a dx fs,x = .ref a∧H1 a=some (.ins C dx fs)∧fs.lookup m=none∧
 t σ H1 fun vs H2=>sp (x::(vs++dvs)) H2 Q E
noncomputable def tMake (C:Addr) (sp:Sp) (dvs:List V) (E:XK) (t:TA):TE:=fun σ H Q=>t σ H fun vs H1=>∀ x dx,H1 x=none→H1 dx=none→dx≠x→
 sp (.ref x::(vs++dvs)) (upd (upd H1 dx (.own x)) x (.ins C dx [])) (fun v H2=>v = .non∧Q (.ref x) H2) E
noncomputable def Binds (K:PySem.W.Frag) (fd:FuncData) (ps:List Str) (ds:List Value):Prop :=
 ∀ (s:Shared) (us:List Value),K.In s.heap→(us++ds).length=ps.length→BindsTo s fd ⟨us,[]⟩ (ps.zip (us++ds))
theorem Binds.all {K:PySem.W.Frag} {fd:FuncData} {ps:List Str} (h:∀ us:List Value,us.length=ps.length→bindArgs fd ⟨us,[]⟩=pure (ps.zip us)):Binds K fd ps []:=fun s us _ hl=>by
 rw [List.append_nil] at hl ⊢
 exact .of_eq (h us hl)
noncomputable def Passes (CX:CXT) (X:Cx) (E:XK):Prop:=∀ (pins:List (Addr×Obj)) (σ:St) (H:Hp) (s:Shared) (e:Value) (s':Shared),Inv X pins σ H s→CX X.stack H s E e s'→X.xe e s'
section
variable {X:Cx} {CX:CXT} {k:Nat} {f C:Addr} {fd:FuncData} {ps:List Str} {sp:Sp} {dvs:List V} {ds:List Value} {E:XK} {x m:Str} {p pos apos:Pos} {e o:Expr} {es:List Expr} {ta:TE} {t:TA}
theorem Zsf {pins:List (Addr×Obj)} {σ:St} {H:Hp} {s:Shared} {Q:VK} {us:List Value} {vs:List V} (F:FnOk X.prog X.w X.K X.mg X.base CX k f fd ps sp) (hr:Room k X.A) (hb:Binds X.K fd ps ds) (hd:Vals dvs ds) (hx:Passes CX X E)
  (I:Inv X pins σ H s) (r:Vals vs us) (h:sp (vs++dvs) H Q E):wpAny (model X.prog X.w) X.A (call (.ref f) us) (EP X pins σ Q) X.xe s:=by
 have r2:Vals (vs++dvs) (us++ds):=r.append hd
 have hl:(us++ds).length=ps.length:=by rw [← r2.length];exact F.len _ _ _ _ h
 refine wpAny_call (codeAny_mono (F.run X.A X.stack s H ⟨us,[]⟩ (us++ds) (vs++dvs) Q E hr I.env0 (hb s us I.kIn hl) r2 h) fun r s' hq=>?_)
 cases r with
 | error e=>exact hx pins σ H s e s' I hq
 | ok fl =>
  cases fl with
  | ret u=>exact I.after hq
  | next=>exact False.elim hq
  | brk=>exact False.elim hq
  | cont=>exact False.elim hq
theorem Xmc (F:FnOk X.prog X.w X.K X.mg X.base CX k f fd ps sp) (hr:Room k X.A) (hg:Gl X x) (hm:X.mg x=some (.ref f)) (hk:PySem.W.keepIn X.K (.ref f)=true) (hb:Binds X.K fd ps ds) (hd:Vals dvs ds) (hx:Passes CX X E)
  (ha:PA X (e::es) t) (hdb:(x == ("__debug__":Str))=false:=by decide) (he:starEach (e::es) X.env=(false,eval e X.env)::starEach es X.env:=by rfl) (hpl:(backTo pos (starEach es X.env)).any (·.1)=false:=by rfl) :
  PE X (.Call (.Name x p) (e::es) [] pos) (tCall sp dvs E t):=by
 intro pins s σ H Q I h
 refine wpAny_Call_Name_kw (Jo I hg hm ?_ hdb)
 refine PySem.W.callWith_K (h₀:=X.base) I.ok.mod.kin hk (thn (ha pos pins s σ H _ I h) fun us s1 ⟨vs,H1,I1,r,q⟩=>⟨I1.kIn,?_⟩) he hpl
 exact Zsf F hr hb hd hx I1 r q
theorem Xlj {pl:Sem Bool} (he:PE X o ta) (c:Cls X.K C) (hm:Meth X.K C m f) (F:FnOk X.prog X.w X.K X.mg X.base CX k f fd ps sp) (hr:Room k X.A) (hb:Binds X.K fd ps ds) (hd:Vals dvs ds) (hx:Passes CX X E) (ha:PA X (e::es) t)
  (hst:starEach (e::es) X.env=(false,eval e X.env)::starEach es X.env:=by rfl) (hpl:(backTo pos (starEach es X.env)).any (·.1)=false:=by rfl)
  (ht:eval (.Call (.Attribute o m apos) (e::es) [] pos) X.env=(do
   let ov ← eval o X.env
   standAt apos.atName
   let (f,first) ← holding [ov] (getMethod ov m pl)
   callWith pos f first (backTo pos (starEach (e::es) X.env)) (backToKw pos (keywordEach [] X.env))):=by rfl) :
  PE X (.Call (.Attribute o m apos) (e::es) [] pos) (tMeth C m sp dvs E ta t):=by
 intro pins s σ H Q I h
 refine PySem.W.methodCall_KW (pl:=pl) (thn (he pins s σ H _ I h) fun u s1 ⟨x,H1,I1,rx,a,dx,fs,ex,ea,l,q⟩=>?_) ht
 subst ex
 obtain rfl:u=Value.ref a:=rx
 refine Zab I1 ea c hm l ?_
 refine PySem.W.callWith_K (first:=[.ref a]) (h₀:=X.base) I.ok.mod.kin hm.kp (thn (ha pos pins s1 σ H1 _ I1 q) fun us s2 ⟨vs,H2,I2,r,q2⟩=>⟨I2.kIn,?_⟩) hst hpl
 exact Zsf (us := .ref a::us) (vs := .ref a::vs) F hr hb hd hx I2 (.cons rfl r) q2
theorem Xhh {pl:Sem Bool} (he:PE X o ta) (c:Cls X.K C) (hm:Meth X.K C m f) (F:FnOk X.prog X.w X.K X.mg X.base CX k f fd ps sp) (hr:Room k X.A) (hb:Binds X.K fd ps ds) (hd:Vals dvs ds) (hx:Passes CX X E)
  (ht:eval (.Call (.Attribute o m apos) [] [] pos) X.env=(do
   let ov ← eval o X.env
   standAt apos.atName
   let (f,first) ← holding [ov] (getMethod ov m pl)
   callWith pos f first (backTo pos (starEach [] X.env)) (backToKw pos (keywordEach [] X.env))):=by rfl) :
  PE X (.Call (.Attribute o m apos) [] [] pos) (tMeth C m sp dvs E ta tNil):=by
 intro pins s σ H Q I h
 refine PySem.W.methodCall_KW (pl:=pl) (thn (he pins s σ H _ I h) fun u s1 ⟨x,H1,I1,rx,a,dx,fs,ex,ea,l,q⟩=>?_) ht
 subst ex
 obtain rfl:u=Value.ref a:=rx
 refine Zab I1 ea c hm l ?_
 exact PySem.W.callWith_K0 (first:=[.ref a]) I1.kIn hm.kp (Zsf (us:=[.ref a]) (vs:=[.ref a]) F hr hb hd hx I1 (.cons rfl .nil) q)
structure Mk (K:PySem.W.Frag) (C f:Addr):Prop where
 makes:PySem.W.makesIn K C=true
 init:PySem.W.findIn K (.ref C) "__init__"=some (some (.ref f))
 fn:PySem.W.isFn K (.ref f)=true
 kp:PySem.W.keepIn K (.ref C)=true
theorem Xge {pins:List (Addr×Obj)} {σ:St} {H:Hp} {s:Shared} {Q:VK} {us:List Value} {vs:List V} (M:Mk X.K C f) (F:FnOk X.prog X.w X.K X.mg X.base CX k f fd ps sp) (hr:Room (k+1) X.A) (hb:Binds X.K fd ps ds) (hd:Vals dvs ds)
  (hx:Passes CX X E) (I:Inv X pins σ H s) (r:Vals vs us)
  (h:∀ x dx,H x=none→H dx=none→dx≠x→sp (.ref x::(vs++dvs)) (upd (upd H dx (.own x)) x (.ins C dx [])) (fun v H2=>v = .non∧Q (.ref x) H2) E) :
  wpAny (model X.prog X.w) X.A (call (.ref C) us) (EP X pins σ Q) X.xe s:=by
 have hq:=h (s.heap.objs.size+1) s.heap.objs.size (I.hok.fresh (Nat.le_succ _)) (I.hok.fresh (Nat.le_refl _)) (Nat.ne_of_lt (Nat.lt_succ_self _))
 have I2:=Inv.made (C:=C) I
 have r2:Vals (V.ref (s.heap.objs.size+1)::(vs++dvs)) (Value.ref (s.heap.objs.size+1)::(us++ds)) := .cons rfl (r.append hd)
 have hl:(Value.ref (s.heap.objs.size+1)::us++ds).length=ps.length:=by
  have e:=r2.length
  rw [F.len _ _ _ _ hq] at e
  exact e.symm
 refine wpAny_call (Zxc (f:=f) I.kIn M.makes M.init (beq_iff_eq.mp M.fn) (codeAny_mono (F.run _ X.stack _ _ ⟨Value.ref (s.heap.objs.size+1)::us,[]⟩ (Value.ref (s.heap.objs.size+1)::(us++ds)) _ _ E (hr.make C us [])
  (I2.env0.make C us []) (hb _ (Value.ref (s.heap.objs.size+1)::us) I2.kIn hl) r2 hq) fun r s' hq'=>?_))
 cases r with
 | error e=>exact hx pins σ _ _ e s' I2 hq'
 | ok fl =>
  cases fl with
  | ret u =>
   obtain ⟨v,H',I3,rv,ev,q3⟩:=I2.after hq'
   subst ev
   exact ⟨rv,⟨V.ref (s.heap.objs.size+1),H',I3,rfl,q3⟩⟩
  | next=>exact False.elim hq'
  | brk=>exact False.elim hq'
  | cont=>exact False.elim hq'
theorem Xma (M:Mk X.K C f) (F:FnOk X.prog X.w X.K X.mg X.base CX k f fd ps sp) (hr:Room (k+1) X.A) (hg:Gl X x) (hm:X.mg x=some (.ref C)) (hb:Binds X.K fd ps ds) (hd:Vals dvs ds) (hx:Passes CX X E)
  (ha:PA X (e::es) t) (hdb:(x == ("__debug__":Str))=false:=by decide) (he:starEach (e::es) X.env=(false,eval e X.env)::starEach es X.env:=by rfl) (hpl:(backTo pos (starEach es X.env)).any (·.1)=false:=by rfl) :
  PE X (.Call (.Name x p) (e::es) [] pos) (tMake C sp dvs E t):=by
 intro pins s σ H Q I h
 refine wpAny_Call_Name_kw (Jo I hg hm ?_ hdb)
 refine PySem.W.callWith_K (h₀:=X.base) I.ok.mod.kin M.kp (thn (ha pos pins s σ H _ I h) fun us s1 ⟨vs,H1,I1,r,q⟩=>⟨I1.kIn,?_⟩) he hpl
 exact Xge M F hr hb hd hx I1 r q
end
section
variable {X:Cx} {CX:CXT} {k:Nat} {f C:Addr} {fd:FuncData} {ps ks:List Str} {sp:Sp} {E:XK} {x m:Str} {p pos apos kpos:Pos} {e o:Expr} {es:List Expr} {kws:List Keyword} {te ta:TE} {t tk:TA} {nm:Option Str}
structure KBinds (K:PySem.W.Frag) (fd:FuncData) (ps ks:List Str) (g:List Value→List Value→List Value) (gV:List V→List V→List V):Prop where
 to:∀ (s:Shared) (us ws:List Value),K.In s.heap→(g us ws).length=ps.length→BindsTo s fd ⟨us,ks.zip ws⟩ (ps.zip (g us ws))
 rel:∀ {vs:List V} {us:List Value} {zs:List V} {ws:List Value},Vals vs us→Vals zs ws→Vals (gV vs zs) (g us ws)
variable {g:List Value→List Value→List Value} {gV:List V→List V→List V}
end
structure FnScope (N P:List Str) (sc:Scope):Prop where
 kind:sc.kind = .function
 co:sc.isCoroutine=false
 gen:sc.isGenerator=false
 nd:N.Nodup
 pre:N.take P.length=P
 par:∀ x∈P,sc.names.lookup x=some .local∨sc.names.lookup x=some .cell
 nofree:∀ y∈sc.names,y.2≠.free
theorem Zrf {kindOf:Str→Option NameKind} {x:Str}:∀ {binds:List (Str×Value)} {m:Str→Option Value},(∀ v,(x,v)∉binds)→bindL kindOf binds m x=m x
 | [],_,_=>rfl
 | (n,v)::r,m,h=>by
  unfold bindL
  rw [Zrf fun w hw=>h w (List.mem_cons_of_mem _ hw)]
  split
  ·have:x≠n:=by rintro rfl;exact h v List.mem_cons_self
   simp [this]
  ·rfl
theorem Zrh {kindOf:Str→Option NameKind} {x:Str}:∀ {binds:List (Str×Value)} {m:Str→Option Value},(∀ v,(x,v)∉binds)→bindC kindOf binds m x=m x
 | [],_,_=>rfl
 | (n,v)::r,m,h=>by
  unfold bindC
  rw [Zrh fun w hw=>h w (List.mem_cons_of_mem _ hw)]
  split
  ·rfl
  ·have:x≠n:=by rintro rfl;exact h v List.mem_cons_self
   simp [this]
theorem Zrg {kindOf:Str→Option NameKind} {x:Str} {v:Value}:∀ {P:List Str} {vs:List Value} {i:Nat} {m:Str→Option Value},P.Nodup→P[i]?=some x→vs[i]?=some v→kindOf x=some .local→
  bindL kindOf (P.zip vs) m x=some v
 | [],_,_,_,_,h,_,_=>by simp at h
 | _::_,[],_,_,_,_,h,_=>by simp at h
 | p::P,w::vs,0,m,nd,h1,h2,hk=>by
  simp at h1 h2;subst h1;subst h2
  show bindL kindOf ((p,w)::P.zip vs) m p=_
  unfold bindL
  rw [Zrf fun v hv=>(List.nodup_cons.mp nd).1 (List.of_mem_zip hv).1,if_pos hk]
  simp
 | p::P,w::vs,i+1,m,nd,h1,h2,hk=>by
  show bindL kindOf ((p,w)::P.zip vs) m x=_
  unfold bindL
  exact Zrg (i:=i) (List.nodup_cons.mp nd).2 (by simpa using h1) (by simpa using h2) hk
theorem Zri {kindOf:Str→Option NameKind} {x:Str} {v:Value}:∀ {P:List Str} {vs:List Value} {i:Nat} {m:Str→Option Value},P.Nodup→P[i]?=some x→vs[i]?=some v→kindOf x≠some .local→
  bindC kindOf (P.zip vs) m x=some v
 | [],_,_,_,_,h,_,_=>by simp at h
 | _::_,[],_,_,_,_,h,_=>by simp at h
 | p::P,w::vs,0,m,nd,h1,h2,hk=>by
  simp at h1 h2;subst h1;subst h2
  show bindC kindOf ((p,w)::P.zip vs) m p=_
  unfold bindC
  rw [Zrh fun v hv=>(List.nodup_cons.mp nd).1 (List.of_mem_zip hv).1,if_neg hk]
  simp
 | p::P,w::vs,i+1,m,nd,h1,h2,hk=>by
  show bindC kindOf ((p,w)::P.zip vs) m x=_
  unfold bindC
  exact Zri (i:=i) (List.nodup_cons.mp nd).2 (by simpa using h1) (by simpa using h2) hk
noncomputable def start (N:List Str) (vs:List V):St:=vs.map some++List.replicate (N.length - vs.length) none
noncomputable def cxOf (CX:CXT) (P:Program) (w:World) (K:PySem.W.Frag) (mg:Str→Option Value) (base:Heap) (N:List Str) (qual:Str) (scope:Scope) (f:Addr) (cd:Value) (A:Around) (outer:List Env) (s:Shared) (H:Hp) (E:XK):Cx where
 prog:=P
 w:=w
 K:=K
 mg:=mg
 base:=base
 A:=A.deeper (envOfC qual scope s.heap.objs.size f cd)
 N:=N
 s₀:=s
 H₀:=H
 env:=envOfC qual scope s.heap.objs.size f cd
 outer:=outer
 stack:=envOfC qual scope s.heap.objs.size f cd::outer
 ex:=[]
 calm:=true
 fn:=fun _=>true
 pn:=[]
 xe:=fun e s'=>wpAny (model P w) (A.deeper (envOfC qual scope s.heap.objs.size f cd)) (leaving (envOfC qual scope s.heap.objs.size f cd) e) (fun _ s''=>CX outer H s E e s'') (fun e' s''=>CX outer H s E e' s'') s'
theorem Zyh {sc:Scope} {n:Nat} {x:Str} (h:sc.names.lookup x=some .cell):∃ c,(cellsFrom n sc.names []).lookup x=some c:=by
 have q:=PySem.W.cellsFrom_some sc.names n [] (.inl h)
 exact Option.isSome_iff_exists.mp q
theorem Xef {CX:CXT} {P:Program} {w:World} {K:PySem.W.Frag} {mg:Str→Option Value} {base:Heap} {N ps:List Str} {qual:Str} {scope:Scope} {f:Addr} {cd:Value} {A:Around} {outer:List Env} {s s1:Shared} {H:Hp} {E:XK} {us:List Value} {vs:List V}
  (S:FnScope N ps scope) (hd:A.handled=none) (e0:Env0 P w K mg base A outer s H) (hl:vs.length=ps.length) (r:Vals vs us)
  (x:InCallC s s.heap.objs.size (bindL (envOfC qual scope s.heap.objs.size f cd).kindOf (ps.zip us) fun _=>none) (cellsFrom (s.heap.objs.size+1) scope.names []) (bindC (envOfC qual scope s.heap.objs.size f cd).kindOf (ps.zip us) fun _=>none) s1) :
  Inv (cxOf CX P w K mg base N qual scope f cd A outer s H E) [] (start N vs) H s1:=by
 have hpl:ps.length≤N.length:=by have:=congrArg List.length S.pre;rw [List.length_take] at this;omega
 obtain ⟨h1,tk,rfl,hk⟩:=x.done
 have noA:∀ b:Addr,b∉(cxOf CX P w K mg base N qual scope f cd A outer s H E).ex:=fun b z=>absurd (show b∈([]:List Addr) from z) (by simp)
 refine ⟨⟨e0.mod,S.kind,rfl,rfl,Nat.le_refl _,fun y z c h1 h2=>?_,fun y hy=>?_,fun y c _ h=>?_,fun _=>hd,Around.frames_deeper e0.frames,.inr ⟨rfl,rfl⟩,fun b z=>absurd z (noA b),e0.bs,e0.bsz,fun b _ _=>noA b,fun b z=>absurd z (noA b),e0.funs,e0.frf⟩,
  rfl,e0.bare,Un.kept hk,⟨_,x.toInCall.ns,fun i y v h1 h2 h3=>?_⟩,fun y c h=>⟨_,x.cell y c h⟩,e0.hok.fresh (Nat.le_refl _),fun y c h=>?_,fun p hp=>absurd (show p∈([]:List (Addr×Obj)) from hp) (by simp),e0.hok.kept hk,?_⟩
 ·exact name_of_addr x.apart (PySem.mem_of_lookup h1) (PySem.mem_of_lookup h2)
 ·have hy:scope.names.lookup y=some .cell∨scope.names.lookup y=some .free:=hy
  rcases hy with hy | hy
  ·exact Zyh hy
  ·exact absurd rfl (S.nofree _ (PySem.mem_of_lookup hy))
 ·exact Nat.le_of_lt (x.above y c (PySem.mem_of_lookup h))
 ·have hi:i<vs.length:=by
   unfold start at h2
   by_cases hi:i<vs.length
   ·exact hi
   ·rw [List.getElem?_append_right (by simpa using hi)] at h2
    rw [List.getElem?_replicate] at h2
    split at h2<;>cases h2
  have ha:vs[i]?=some v:=by
   unfold start at h2
   rw [List.getElem?_append_left (by simpa using hi),List.getElem?_map] at h2
   cases e:vs[i]? with
   | none=>rw [e] at h2;cases h2
   | some a=>rw [e] at h2;cases h2;rfl
  obtain ⟨u,hu,rv⟩:=r.get ha
  have hp:ps[i]?=some y:=by
   rw [← S.pre,List.getElem?_take_of_lt (by omega)];exact h1
  have ndP:ps.Nodup:=by rw [← S.pre];exact S.nd.sublist (List.take_sublist _ _)
  refine ⟨u,rv,?_⟩
  rcases S.par y (List.mem_of_getElem? hp) with k | k
  ·exact .inl ⟨k,Zrg ndP hp hu k⟩
  ·obtain ⟨c,e⟩:=Zyh (n:=s.heap.objs.size+1) k
   refine .inr ⟨.inl k,c,e,?_⟩
   have q:=x.cell y c e
   rw [Zri ndP hp hu (by show scope.names.lookup y≠_;rw [k];decide)] at q
   exact q
 ·exact e0.hok.fresh (Nat.le_of_lt (x.above y c (PySem.mem_of_lookup h)))
 ·unfold start
  show _=N.length
  rw [List.length_append,List.length_map,List.length_replicate]
  omega
theorem Xng {CX:CXT} {P:Program} {w:World} {K:PySem.W.Frag} {mg:Str→Option Value} {base:Heap} {k:Nat} {f:Addr} {name qual:Str} {params:Arguments} {body:List Stmt} {scope:Scope} {dV kV doc pm cdv ct oc:Value} {an od:Option Addr}
  {osl:Array (Option Value)} {N ps:List Str} {sp:Sp} (lk:K.lookup f=some ⟨oc,od,.func (PySem.W.fnOf name qual params body scope dV kV doc pm an cdv ct),osl⟩) (hcd:PySem.W.codeIn K cdv qual=true) (S:FnScope N ps scope)
  (len:∀ vs H Q E,sp vs H Q E→vs.length=ps.length)
  (hbody:∀ (A:Around) (outer:List Env) (s:Shared) (H:Hp) (vs:List V) (Q:VK) (E:XK),Room k (A.deeper (envOfC qual scope s.heap.objs.size f cdv))→sp vs H Q E→
   ∃ t,PSs (cxOf CX P w K mg base N qual scope f cdv A outer s H E) body t∧t {nx:=fun _ H'=>Q .non H',rt:=Q} (start N vs) H) :
  FnOk P w K mg base CX (k+1) f (PySem.W.fnOf name qual params body scope dV kV doc pm an cdv ct) ps sp:=by
 refine ⟨len,fun A outer s H args us vs Q E hr e0 hb r hsp=>?_⟩
 have hl:=len _ _ _ _ hsp
 have KX:K.In s.heap:=e0.mod.kin.keeps fun b o e=>(e0.bs b o e).1
 have lim:s.heap.NoLimit:=e0.mod.nolimit.keeps fun b o e=>(e0.bs b o e).1
 have hkind:∀ y∈ps.zip us,scope.names.lookup y.1=some .local∨(scope.names.lookup y.1=some .cell∧((cellsFrom (s.heap.objs.size+1) scope.names []).lookup y.1).isSome=true):=fun ⟨n,v⟩ hy=>by
  rcases S.par n (List.of_mem_zip hy).1 with q | q
  ·exact .inl q
  ·exact .inr ⟨q,PySem.W.cellsFrom_some _ _ _ (.inl q)⟩
 refine codeAny_call_function hr.depth (KX _ _ lk) rfl S.co S.gen rfl (PySem.W.codeRec_of KX hcd) (hb _ _ _ _ ?_)
 refine wpAny_newFunctionEnv_cells S.kind hkind fun env he s1 x=>?_
 subst he
 refine ⟨lim.keeps x.toInCall.keep,codeAny_func ?_⟩
 obtain ⟨t,ht,hq⟩:=hbody A outer s H vs Q E (hr.deeper _) hsp
 have I:Inv (cxOf CX P w K mg base N qual scope f cdv A outer s H E) [] (start N vs) H s1:=Xef S hr.hd e0 hl r x
 refine wpAny_mono (ht [] s1 (start N vs) H _ I hq) (fun fl s' hs=>?_) fun e s' hs=>hs
 have fin:∀ {σ':St} {H':Hp} {v:V} {u:Value},Inv (cxOf CX P w K mg base N qual scope f cdv A outer s H E) [] σ' H' s'→RelV v u→Q v H'→CE outer P w H s Q u s' :=
  fun {σ' H' v u} J rv q=>⟨v,H',J.os,J.bare,J.base,J.hok,rv,q⟩
 cases fl with
 | ret u =>
  obtain ⟨v,σ',H',J,rv,q⟩:=hs
  exact fin J rv q
 | next =>
  obtain ⟨σ',H',J,q⟩:=hs
  exact fin (v:=V.non) (u:=Value.none) J rfl q
 | brk =>
  obtain ⟨_,_,_,q⟩:=hs
  exact False.elim q
 | cont =>
  obtain ⟨_,_,_,q⟩:=hs
  exact False.elim q
end L2
namespace L2
open PySem PySem.Spec PyProof.Rows
section
variable {X:Cx} {x:Str} {p pos:Pos} {e:Expr} {es:List Expr} {t:TA} {id T:String} {r:List V→Hp→VK→Prop}
noncomputable def tCB (r:List V→Hp→VK→Prop) (t:TA):TE:=fun σ H Q=>t σ H fun vs H1=>r vs H1 Q
theorem Zr (hc:CallR X (.builtin id) r) (hg:Gl X x) (hm:X.mg x=none) (hv:bootBuiltins x=some (.builtin id)) (ha:PA X (e::es) t) (hn:x≠"__name__":=by decide) (hdb:(x == ("__debug__":Str))=false:=by decide)
  (he:starEach (e::es) X.env=(false,eval e X.env)::starEach es X.env:=by rfl) (hpl:(backTo pos (starEach es X.env)).any (·.1)=false:=by rfl):PE X (.Call (.Name x p) (e::es) [] pos) (tCB r t):=by
 intro pins s σ H Q I h
 refine wpAny_Call_Name_kw (Zda I hg hm hv ?_ hn hdb)
 exact PyProof.Rows.callWith_builtin1 (thn (ha pos pins s σ H _ I h) fun us s1 ⟨vs,H1,I1,r1,q1⟩=>hc pins s1 σ H1 vs us Q I1 r1 q1) he hpl
theorem Yz (hc:CallR X (.type T) r) (hg:Gl X x) (hm:X.mg x=none) (hv:bootBuiltins x=some (.type T)) (ha:PA X (e::es) t) (hn:x≠"__name__":=by decide) (hdb:(x == ("__debug__":Str))=false:=by decide)
  (he:starEach (e::es) X.env=(false,eval e X.env)::starEach es X.env:=by rfl) (hpl:(backTo pos (starEach es X.env)).any (·.1)=false:=by rfl):PE X (.Call (.Name x p) (e::es) [] pos) (tCB r t):=by
 intro pins s σ H Q I h
 refine wpAny_Call_Name_kw (Zda I hg hm hv ?_ hn hdb)
 exact PyProof.Rows.callWith_type1 (thn (ha pos pins s σ H _ I h) fun us s1 ⟨vs,H1,I1,r1,q1⟩=>hc pins s1 σ H1 vs us Q I1 r1 q1) he hpl
end
end L2
namespace HT
open PySem PyProof.Rows
section
open PySem.SeqAt
open PySem.AutoSeq1 (wpAny_loadPart')
open PySem.MeetsSeq PySem.MeetsSeq2 PySem.MeetsSeq3
end
section
variable {prog:Program} {w:World} {A:Around} {E:Value→Shared→Prop} {s:Shared}
noncomputable def sIx (n d:Nat):Option Int→Nat
 | none=>d
 | some v=>if v<0 then (v+(n:Int)).toNat else min v.toNat n
theorem sIx_none (n d:Nat):sIx n d none=d:=rfl
theorem sIx_nat (n d k:Nat):sIx n d (some (k:Int))=min k n:=by
 show (if (k:Int)<0 then ((k:Int)+(n:Int)).toNat else min (k:Int).toNat n)=min k n
 rw [if_neg (by omega),Int.toNat_natCast]
theorem sIx_le (n d:Nat) (hd:d≤n) (o:Option Int):sIx n d o≤n:=by
 cases o with
 | none=>exact hd
 | some v =>
  show (if v<0 then (v+(n:Int)).toNat else min v.toNat n)≤n
  by_cases hv:v<0
  ·rw [if_pos hv];omega
  ·rw [if_neg hv];exact Nat.min_le_right _ _
end
end HT
namespace L2
open PySem PySem.Spec PyProof.Rows
noncomputable abbrev TO:=St→Hp→(Option Int→Hp→Prop)→Prop
noncomputable def PO (X:Cx) (e:Option Expr) (t:TO):Prop :=
 ∀ (pins:List (Addr×Obj)) (s:Shared) (σ:St) (H:Hp) (Q:Option Int→Hp→Prop),Inv X pins σ H s→t σ H Q→
  wpAny (model X.prog X.w) X.A (evalPart e X.env) (fun u s'=>∃ o H',Inv X pins σ H' s'∧IsPart u o∧Q o H') X.xe s
noncomputable def tNoPart:TO:=fun _ H Q=>Q none H
noncomputable def tPart (t:TE):TO:=fun σ H Q=>t σ H fun x H1=>∃ i,x = .int i∧Q (some i) H1
section
variable {X:Cx} {e:Expr} {te:TE} {lo hi:Option Expr} {tl th:TO} {pos p2:Pos}
theorem Yi:PO X none tNoPart:=by
 intro pins s σ H Q I h
 rw [evalPart_none]
 exact wpAny_pure ⟨none,H,I,.none,h⟩
theorem Zu (h:PE X e te):PO X (some e) (tPart te):=by
 intro pins s σ H Q I hw
 rw [evalPart_some]
 refine thn (h pins s σ H _ I hw) fun u s1 ⟨x,H1,I1,r1,q1⟩=>?_
 obtain ⟨i,rfl,q⟩:=q1
 obtain ⟨t,rfl⟩:=r1
 exact ⟨some i,H1,I1,.int i t,q⟩
noncomputable def SlR (X:Cx) (r:V→Option Int→Option Int→Hp→VK→Prop):Prop :=
 ∀ (pins:List (Addr×Obj)) (s:Shared) (σ:St) (H:Hp) (x:V) (v vl vu:Value) (lo hi:Option Int) (sl:Addr) (Q:VK),Inv X pins σ H s→RelV x v→s.heap.IsSliceOf sl vl vu .none→IsPart vl lo→IsPart vu hi→r x lo hi H Q→
  ∃ T id,typeLookup (.type T) "__getitem__"=pure (some (.builtin id))∧s.TypeIs v T∧wpAny (model X.prog X.w) X.A (getItem v (.ref sl)) (EP X pins σ Q) X.xe s
theorem SlR.or {r r':V→Option Int→Option Int→Hp→VK→Prop} (h:SlR X r) (h':SlR X r'):SlR X (fun x lo hi H Q=>r x lo hi H Q∨r' x lo hi H Q):=by
 intro pins s σ H x v vl vu lo hi sl Q I rx hs pl pu q
 rcases q with q | q
 ·exact h pins s σ H x v vl vu lo hi sl Q I rx hs pl pu q
 ·exact h' pins s σ H x v vl vu lo hi sl Q I rx hs pl pu q
noncomputable def tSl (r:V→Option Int→Option Int→Hp→VK→Prop) (te:TE) (tl th:TO):TE:=fun σ H Q=>te σ H fun x H1=>tl σ H1 fun l H2=>th σ H2 fun u H3=>r x l u H3 Q
theorem Zw {r:V→Option Int→Option Int→Hp→VK→Prop} (hr:SlR X r) (he:PE X e te) (hl:PO X lo tl) (hu:PO X hi th):PE X (.Subscript e (.Slice lo hi none p2) pos) (tSl r te tl th):=by
 intro pins s σ H Q I h
 refine Subscript_ (thn (he pins s σ H _ I h) fun v s1 ⟨x,H1,I1,r1,q1⟩=>?_)
 refine wpAny_Slice (thn (hl pins s1 σ H1 _ I1 q1) fun vl s2 ⟨l,H2,I2,pl,q2⟩=>thn (hu pins s2 σ H2 _ I2 q2) fun vu s3 ⟨u,H3,I3,pu,q3⟩=>?_)
 rw [evalPart_none]
 refine wpAny_pure ?_
 have I4:Inv X pins σ H3 {s3 with heap:=s3.heap.push {cls := .type "slice",data := .fields #[vl,vu,.none]}}:=I3.kept (t':=s3.toks) fun b ob q=>Heap.get?_push_of_some _ q
 obtain ⟨T,id,hT,ht,hg⟩:=hr pins {s3 with heap:=s3.heap.push {cls := .type "slice",data := .fields #[vl,vu,.none]}} σ H3 x v vl vu l u s3.heap.objs.size Q I4 r1 (Heap.IsSliceOf.new ..) pl pu q3
 show wpAny (model X.prog X.w) X.A (subscriptTail e (.Slice lo hi none p2) v (.ref s3.heap.objs.size)) (EP X pins σ Q) X.xe {s3 with heap:=s3.heap.push {cls := .type "slice",data := .fields #[vl,vu,.none]}}
 exact tail_any (ops:=[.ref s3.heap.objs.size,v]) ht hT hg (by with_unfolding_all rfl)
noncomputable def cutV (xs:List V) (lo hi:Option Int):List V:=(xs.drop (HT.sIx xs.length 0 lo)).take (HT.sIx xs.length xs.length hi - HT.sIx xs.length 0 lo)
theorem Zha (xs:List V) (lo hi:Option Int):(cutV xs lo hi).length≤xs.length:=by
 unfold cutV
 rw [List.length_take,List.length_drop]
 omega
end
end L2
namespace L2
open PySem PySem.Spec PyProof.Rows
noncomputable def ixN (n:Nat) (i:Int):Option Nat:=if 0≤i then (if i<n then some i.toNat else none) else if -(n:Int)≤i then some (i+n).toNat else none
noncomputable def atI {α:Type} (xs:List α) (i:Int):Option α:=(ixN xs.length i).bind fun j=>xs[j]?
theorem Xcg {n:Nat} {i:Int} {j:Nat} (h:ixN n i=some j):seqIndex? i n=some j∧j<n∧-(n:Int)≤i∧i<n:=by
 unfold ixN at h
 by_cases h0:0≤i
 ·rw [if_pos h0] at h
  by_cases h1:i<n
  ·rw [if_pos h1] at h
   have e:i.toNat=j:=Option.some.inj h
   exact ⟨by rw [seqIndex_of h0 h1,e],by omega,by omega,h1⟩
  ·rw [if_neg h1] at h;cases h
 ·rw [if_neg h0] at h
  by_cases h1 : -(n:Int)≤i
  ·rw [if_pos h1] at h
   have e:(i+n).toNat=j:=Option.some.inj h
   exact ⟨by rw [seqIndex_neg (by omega) h1,e],by omega,h1,by omega⟩
  ·rw [if_neg h1] at h;cases h
theorem Zug {α:Type} {xs:List α} {i:Int} {v:α} (h:atI xs i=some v):∃ j,seqIndex? i xs.length=some j∧xs[j]?=some v∧j<xs.length∧-(xs.length:Int)≤i∧i<xs.length:=by
 unfold atI at h
 cases e:ixN xs.length i with
 | none=>rw [e] at h;cases h
 | some j =>
  rw [e] at h
  obtain ⟨h1,h2,h3,h4⟩:=Xcg e
  exact ⟨j,h1,h,h2,h3,h4⟩
theorem Zy {α:Type} {xs:List α} {j:Nat} {v:α} (h:xs[j]?=some v):atI xs (j:Int)=some v:=by
 have hj:j<xs.length:=(List.getElem?_eq_some_iff.mp h).1
 have e:ixN xs.length (j:Int)=some j:=by
  unfold ixN
  rw [if_pos (by omega),if_pos (by omega)];simp
 unfold atI;rw [e];exact h
noncomputable def PlainIx (b:Expr):Prop:=∀ o i,subscripted b false o i=operate [o,i] (getItem o i)
noncomputable def IxR (X:Cx) (r:R2):Prop :=
 ∀ (value slice:Expr) (pins:List (Addr×Obj)) (s:Shared) (σ:St) (H:Hp) (x y:V) (v u:Value) (Q:VK),Inv X pins σ H s→RelV x v→RelV y u→r x y H Q→
  subscripted slice false v u=operate [v,u] (getItem v u)→wpAny (model X.prog X.w) X.A (subscriptTail value slice v u) (EP X pins σ Q) X.xe s
noncomputable def MtR (X:Cx) (id:String) (r:V→List V→Hp→VK→Prop):Prop :=
 ∀ (pins:List (Addr×Obj)) (s:Shared) (σ:St) (H:Hp) (x:V) (xs:List V) (v:Value) (us:List Value) (Q:VK),Inv X pins σ H s→RelV x v→Vals xs us→r x xs H Q→
  wpAny (model X.prog X.w) X.A (call (.builtin id) (v::us)) (EP X pins σ Q) X.xe s
section
variable {X:Cx} {a b:Expr} {ta tb:TE} {pos:Pos}
theorem IxR.or {r r':R2} (h:IxR X r) (h':IxR X r'):IxR X (fun x y H Q=>r x y H Q∨r' x y H Q):=by
 intro value slice pins s σ H x y v u Q I rx ry q hs
 rcases q with q | q
 ·exact h value slice pins s σ H x y v u Q I rx ry q hs
 ·exact h' value slice pins s σ H x y v u Q I rx ry q hs
theorem Xo {r:R2} (hr:IxR X r) (ha:PE X a ta) (hb:PE X b tb) (hs:PlainIx b):PE X (.Subscript a b pos) (tOp r ta tb):=by
 intro pins s σ H Q I h
 exact Subscript_ (binT ha hb I h fun v u s2 x y H2 I2 rx ry q=>hr a b pins s2 σ H2 x y v u Q I2 rx ry q (hs _ _))
noncomputable def rIxL (K:PySem.W.Frag):R2:=fun x y H Q=>∃ p xs i v,x = .ref p∧y = .int i∧SqL K H p xs∧atI xs i=some v∧Q v H
noncomputable def rIxT (K:PySem.W.Frag):R2:=fun x y H Q=>∃ p xs i v,x = .ref p∧y = .int i∧SqT K H p xs∧atI xs i=some v∧Q v H
noncomputable def rIxS:R2:=fun x y H Q=>∃ z i c,x = .str z∧y = .int i∧z.length≤sizeLine∧atI z.cps.toList i=some c∧Q (.str ⟨#[c]⟩) H
theorem Xmi:IxR X (rIxL X.K):=by
 intro value slice pins s σ H x y v u Q I rx ry h hs
 obtain ⟨p,xs,i,z,rfl,rfl,hq,he,q⟩:=h
 cases rx
 obtain ⟨t,rfl⟩:=ry
 obtain ⟨its,r,pl,hz⟩:=I.list hq
 obtain ⟨j,h1,h2,h3,h4,h5⟩:=Zug he
 obtain ⟨w,ew,rw'⟩:=r.get h2
 have hl:=r.length
 have hn:=line63
 have fin:EP X pins σ Q w s:=⟨z,H,I,rw',q⟩
 by_cases h0:0≤i
 ·have hj:i.toNat=j:=by
   rw [seqIndex_of h0 h5] at h1
   exact Option.some.inj h1
  exact item_listR pl.isList h0 (by omega) (by rw [hj];simpa using ew) fin hs
 ·have hj:(i+(its.toArray.size:Int)).toNat=j:=by
   rw [seqIndex_neg (by omega) h4] at h1
   rw [List.size_toArray,← hl]
   exact Option.some.inj h1
  exact subscriptTail_builtinR (x:=w) pl.isList.typeIs slot_list_getitem.lookup
   (wpAny_getItem_list_neg (Q:=fun r s'=>r=w∧EP X pins σ Q r s') pl.isList (by omega) (by rw [List.size_toArray]<;>omega) (by omega) (by rw [hj];simpa using ew) ⟨rfl,fin⟩) hs
theorem Xqd:IxR X (rIxT X.K):=by
 intro value slice pins s σ H x y v u Q I rx ry h hs
 obtain ⟨p,xs,i,z,rfl,rfl,hq,he,q⟩:=h
 cases rx
 obtain ⟨t,rfl⟩:=ry
 obtain ⟨its,r,pl,hz⟩:=I.tuple hq
 obtain ⟨j,h1,h2,h3,h4,h5⟩:=Zug he
 obtain ⟨w,ew,rw'⟩:=r.get h2
 have hl:=r.length
 have hn:=line63
 have fin:EP X pins σ Q w s:=⟨z,H,I,rw',q⟩
 exact subscriptTail_builtinR (x:=w) pl.typeIs slot_tuple_getitem.lookup
  (getItem_tuple (j:=j) (Q:=fun r s'=>r=w∧EP X pins σ Q r s') pl (by omega) (by omega) (by rw [List.size_toArray,← hl];exact h1) (by simpa using ew) ⟨rfl,fin⟩) hs
theorem Xqe:IxR X rIxS:=by
 intro value slice pins s σ H x y v u Q I rx ry h hs
 obtain ⟨z,i,c,rfl,rfl,hz,he,q⟩:=h
 obtain ⟨t,rfl⟩:=rx
 obtain ⟨t',rfl⟩:=ry
 obtain ⟨j,h1,h2,h3,h4,h5⟩:=Zug he
 have hl:z.cps.toList.length=z.length:=by simp [Str.length]
 rw [hl] at h1 h4 h5
 have hn:=line63
 exact tail_any (typeIs_str s z t) slot_str_getitem.lookup (getItem_str (c:=c) (by
  have e1:decide (i < -(2 ^ 63:Int))=false:=decide_eq_false (by omega)
  have e2:decide (i≥2 ^ 63)=false:=decide_eq_false (by omega)
  rw [e1,e2,Bool.or_false]) (by rw [h1];simpa using h2) ⟨.str ⟨#[c]⟩,H,I.tok _,⟨_,rfl⟩,q⟩) hs
theorem Xag (its:List Value) (n j:Nat) (u:Value):Obj.mapSeq (·.setIfInBounds j u) {cls := .type "list",data := .seq its.toArray n}={cls := .type "list",data := .seq (its.set j u).toArray n}:=by
 simp [Obj.mapSeq]
theorem Inv.lst {pins:List (Addr×Obj)} {σ:St} {H:Hp} {s:Shared} {p:Addr} {xs:List V} (I:Inv X pins σ H s) (h:H p=some (.lst xs)) :
  ∃ (its:List Value) (n:Nat),Vals xs its∧s.heap.get? p=some {cls := .type "list",data := .seq its.toArray n}∧xs.length≤sizeLine:=by
 obtain ⟨z,its,n,r,e⟩:=I.hok p _ h
 exact ⟨its,n,r,e,z⟩
theorem Inv.lstUpd {pins:List (Addr×Obj)} {σ:St} {H:Hp} {s:Shared} {p:Addr} {xs ys:List V} {its its':List Value} {n n':Nat} {f:Obj→Obj} (I:Inv X pins σ H s) (h:H p=some (.lst xs))
  (ho:s.heap.get? p=some {cls := .type "list",data := .seq its.toArray n}) (hf:f {cls := .type "list",data := .seq its.toArray n}={cls := .type "list",data := .seq its'.toArray n'}) (r:Vals ys its') (hz:ys.length≤sizeLine) (t:Nat) :
  Inv X pins σ (upd H p (.lst ys)) {s with heap:=s.heap.update p f,toks:=t}:=by
 have e:(s.heap.update p f).get? p=some {cls := .type "list",data := .seq its'.toArray n'}:=by
  rw [Heap.get?_update_self f ho (by rw [hf]<;>rfl),hf]
 refine I.write (x:=p) (e:=p) (by rw [h];trivial) (.inl rfl) (fun b u hb q=>(Heap.get?_update_other _ _ (Ne.symm hb)).trans q) ⟨_,e⟩ ?_
 exact ⟨hz,its',n',r,e⟩
noncomputable def rSetL:V→V→V→Hp→(Hp→Prop)→Prop:=fun o i v H Q=>∃ p xs k j,o = .ref p∧i = .int k∧H p=some (.lst xs)∧ixN xs.length k=some j∧Q (upd H p (.lst (xs.set j v)))
theorem Xgd:PSet X rSetL:=by
 intro pins s σ H o i v ov iv u Q I ro ri rv h
 obtain ⟨p,xs,k,j,rfl,rfl,hp,hj,q⟩:=h
 cases ro
 obtain ⟨t,rfl⟩:=ri
 obtain ⟨its,n,r,ho,hz⟩:=I.lst hp
 obtain ⟨h1,h2,h3,h4⟩:=Xcg hj
 have hl:=r.length
 have hn:=line63
 have I':Inv X pins σ (upd H p (.lst (xs.set j v))) {s with heap:=s.heap.update p (Obj.mapSeq (·.setIfInBounds j u))} :=
  I.lstUpd hp ho (Xag its n j u) (r.set rv j) (by rw [List.length_set];exact hz) s.toks
 by_cases h0:0≤k
 ·have hk:k.toNat=j:=by
   rw [seqIndex_of h0 h4] at h1
   exact Option.some.inj h1
  exact PySem.W.ki_setAt ho h0 (by omega) (by rw [List.size_toArray,← hl];exact h4) (by rw [hk];exact ⟨_,I',q⟩)
 ·have hk:(k+(its.toArray.size:Int)).toNat=j:=by
   rw [seqIndex_neg (by omega) h3] at h1
   rw [List.size_toArray,← hl]
   exact Option.some.inj h1
  exact PySem.W.ki_setBack ho (by omega) (by rw [List.size_toArray,← hl];exact h3) (by omega) (by rw [hk];exact ⟨_,I',q⟩)
theorem Zsc (lo hi:Option Int) (n:Nat):(sliceBounds lo hi none n).1=((HT.sIx n 0 lo:Nat):Int)∧(sliceBounds lo hi none n).2.1=((HT.sIx n n hi:Nat):Int)∧(sliceBounds lo hi none n).2.2=1:=by
 refine ⟨?_,?_,rfl⟩
 ·cases lo with
  | none=>simp [sliceBounds,HT.sIx]
  | some i =>
   simp only [sliceBounds,HT.sIx,Option.getD_none,show (1:Int) > 0 by decide,if_true]
   by_cases h:i<0
   ·simp only [h,if_true]<;>omega
   ·simp only [h,if_false]<;>omega
 ·cases hi with
  | none=>simp [sliceBounds,HT.sIx]
  | some i =>
   simp only [sliceBounds,HT.sIx,Option.getD_none,show (1:Int) > 0 by decide,if_true]
   by_cases h:i<0
   ·simp only [h,if_true]<;>omega
   ·simp only [h,if_false]<;>omega
theorem Znd (its:List Value) (lo hi:Option Int):slicePick its.toArray lo hi none=((its.drop (HT.sIx its.length 0 lo)).take (HT.sIx its.length its.length hi - HT.sIx its.length 0 lo)).toArray:=by
 obtain ⟨h1,h2,h3⟩:=Zsc lo hi its.toArray.size
 unfold slicePick
 rw [h1,h2,h3]
 simp only [sliceRange_one,pick_run,List.size_toArray]<;>rfl
noncomputable def rSlL (K:PySem.W.Frag):V→Option Int→Option Int→Hp→VK→Prop:=fun x lo hi H Q=>∃ a xs,x = .ref a∧SqL K H a xs∧∀ p,H p=none→Q (.ref p) (upd H p (.lst (cutV xs lo hi)))
theorem Xld:SlR X (rSlL X.K):=by
 intro pins s σ H x v vl vu lo hi sl Q I rx hs pl pu h
 obtain ⟨a,xs,rfl,hx,q⟩:=h
 cases rx
 obtain ⟨its,r,ht,hz⟩:=I.list hx
 have hlen:=r.length
 refine ⟨"list",_,slot_list_getitem.lookup,ht.isList.typeIs,?_⟩
 refine wpAny_getItem_list_slice ht.isList hs pl pu .none (by simp) ?_ (by rw [List.size_toArray]<;>omega)
 rw [Znd,← hlen]
 refine ⟨.ref s.heap.objs.size,_,I.laid (t':=s.toks) (o := .lst (cutV xs lo hi)) (fun b ob q=>Heap.get?_push_of_some _ q) (Nat.le_refl _) ?_,rfl,q _ (I.hok.fresh (Nat.le_refl _))⟩
 exact ⟨Nat.le_trans (Zha xs lo hi) hz,_,0,(r.drop (HT.sIx xs.length 0 lo)).take (HT.sIx xs.length xs.length hi - HT.sIx xs.length 0 lo),Heap.get?_push_size _ rfl⟩
noncomputable def flatV:V→Bool
 | .non=>true
 | .bl _=>true
 | .int _=>true
 | .str _=>true
 | _=>false
noncomputable def eqV:V→V→Bool
 | .non,.non=>true
 | .bl a,.bl b=>a == b
 | .bl a,.int b=>(if a then 1 else 0) == b
 | .int a,.bl b=>a == (if b then 1 else 0)
 | .int a,.int b=>a == b
 | .str a,.str b=>a == b
 | _,_=>false
theorem Xqg {A:Around} {s:Shared} {y x:V} {u v:Value} (ry:RelV y u) (rx:RelV x v) (fy:flatV y=true) (fx:flatV x=true):SeqAt.EqAt A s u v (eqV y x):=by
 cases y with
 | non =>
  cases ry
  cases x with
  | non=>cases rx;exact SeqAt.EqAt.same _
  | bl b=>cases rx;exact SeqAt.EqAt.none_bool b
  | int b=>obtain ⟨t,rfl⟩:=rx;exact SeqAt.EqAt.none_int b t
  | str b=>obtain ⟨t,rfl⟩:=rx;exact SeqAt.EqAt.none_str b t
  | _=>exact absurd (show false=true from fx) Bool.false_ne_true
 | bl a =>
  cases ry
  cases x with
  | non=>cases rx;exact SeqAt.EqAt.bool_none a
  | bl b=>cases rx;exact SeqAt.EqAt.bool_bool a b
  | int b=>obtain ⟨t,rfl⟩:=rx;exact SeqAt.EqAt.bool_int a b t
  | str b=>obtain ⟨t,rfl⟩:=rx;exact SeqAt.EqAt.bool_str a b t
  | _=>exact absurd (show false=true from fx) Bool.false_ne_true
 | int a =>
  obtain ⟨t',rfl⟩:=ry
  cases x with
  | non=>cases rx;exact SeqAt.EqAt.int_none a t'
  | bl b=>cases rx;exact SeqAt.EqAt.int_bool a t' b
  | int b=>obtain ⟨t,rfl⟩:=rx;exact SeqAt.EqAt.int_int a t' b t
  | str b=>obtain ⟨t,rfl⟩:=rx;exact SeqAt.EqAt.int_str a t' b t
  | _=>exact absurd (show false=true from fx) Bool.false_ne_true
 | str a =>
  obtain ⟨t',rfl⟩:=ry
  cases x with
  | non=>cases rx;exact SeqAt.EqAt.str_none a t'
  | bl b=>cases rx;exact SeqAt.EqAt.str_bool a t' b
  | int b=>obtain ⟨t,rfl⟩:=rx;exact SeqAt.EqAt.str_int a t' b t
  | str b=>obtain ⟨t,rfl⟩:=rx;exact SeqAt.EqAt.str_str a t' b t
  | _=>exact absurd (show false=true from fx) Bool.false_ne_true
 | _=>exact absurd (show false=true from fy) Bool.false_ne_true
noncomputable def eqU (x:V) (u:Value):Bool:=match u with
 | .none=>eqV .non x
 | .bool b=>eqV (.bl b) x
 | .int i _=>eqV (.int i) x
 | .str z _=>eqV (.str z) x
 | _=>false
theorem Xka {x y:V} {u:Value} (r:RelV y u) (f:flatV y=true):eqU x u=eqV y x:=by
 cases y with
 | non=>cases r;rfl
 | bl b=>cases r;rfl
 | int i=>obtain ⟨t,rfl⟩:=r;rfl
 | str z=>obtain ⟨t,rfl⟩:=r;rfl
 | _=>exact absurd (show false=true from f) Bool.false_ne_true
theorem Zuh {x:V}:∀ {xs:List V} {us:List Value},Vals xs us→xs.all flatV=true→us.any (eqU x)=xs.any fun y=>eqV y x
 | _,_,.nil,_=>rfl
 | y::xs,u::us,.cons r t,f=>by
  rw [List.all_cons,Bool.and_eq_true] at f
  rw [List.any_cons,List.any_cons,Xka r f.1,Zuh t f.2]
theorem Zma {A:Around} {s:Shared} {x:V} {v:Value} (rx:RelV x v) (fx:flatV x=true):∀ {xs:List V} {us:List Value},Vals xs us→xs.all flatV=true→∀ u∈us,SeqAt.EqAt A s u v (eqU x u)
 | _,_,.nil,_=>fun u hu=>by cases hu
 | y::xs,u::us,.cons r t,f=>fun u' hu=>by
  rw [List.all_cons,Bool.and_eq_true] at f
  rcases List.mem_cons.mp hu with rfl | hu
  ·rw [Xka r f.1];exact Xqg r rx f.1 fx
  ·exact Zma rx fx t f.2 u' hu
noncomputable def inV (x:V) (xs:List V):Bool:=xs.any fun y=>eqV y x
noncomputable def rIn (K:PySem.W.Frag) (neg:Bool):R2:=fun x y H Q=>∃ p xs,y = .ref p∧(SqL K H p xs∨SqT K H p xs)∧flatV x=true∧xs.all flatV=true∧Q (.bl (if neg then !inV x xs else inV x xs)) H
theorem Zfi:OpR X (compareOp .In) (rIn X.K false):=by
 intro pins s σ H x y v u Q I rx ry h
 obtain ⟨p,xs,rfl,hq,fx,fs,q⟩:=h
 cases ry
 rcases hq with hq | hq
 ·obtain ⟨its,r,pl,hz⟩:=I.list hq
  refine SeqAt.in_listAt (eqU x) pl.isList (fun w hw=>Zma rx fx r fs w (by simpa using hw)) ⟨.bl _,H,I,rfl,?_⟩
  rw [show its.toArray.any (eqU x)=its.any (eqU x) by simp,Zuh r fs]
  exact q
 ·obtain ⟨its,r,pl,hz⟩:=I.tuple hq
  refine SeqAt.in_tupleAt (eqU x) pl (fun w hw=>Zma rx fx r fs w (by simpa using hw)) ⟨.bl _,H,I,rfl,?_⟩
  rw [show its.toArray.any (eqU x)=its.any (eqU x) by simp,Zuh r fs]
  exact q
theorem Zsi:OpR X (compareOp .NotIn) (fun x y H Q=>∃ i j,x = .str i∧y = .str j∧Q (.bl (!(!(Builtin.Str.occurrences j i 0 j.length 1).isEmpty))) H):=by
 intro pins s σ H x y v u Q I rx ry h
 obtain ⟨i,j,rfl,rfl,q⟩:=h
 obtain ⟨t,rfl⟩:=rx
 obtain ⟨t',rfl⟩:=ry
 exact notIn_str ⟨.bl _,H,I,rfl,q⟩
noncomputable def tyV (K:PySem.W.Frag) (T:String) (x:V) (H:Hp):Prop:=match x with
 | .str _=>T="str"
 | .int _=>T="int"
 | .ref p=>(T="list"∧∃ xs,SqL K H p xs)∨(T="tuple"∧∃ o,K.lookup p=some o∧o.cls = .type "tuple"∧o.dict=none)∨
   (T="dict"∧((∃ kvs,H p=some (.dK kvs))∨∃ kvs,H p=some (.dT kvs)))∨(T="set"∧∃ S n,H p=some (.set S n))
 | _=>False
theorem Xfj {pins:List (Addr×Obj)} {σ:St} {H:Hp} {s:Shared} {T:String} {x:V} {v:Value} (I:Inv X pins σ H s) (r:RelV x v) (ty:tyV X.K T x H) :
  s.TypeIs v T∧∀ a,v = .ref a→∃ ob,s.heap.get? a=some ob∧ob.dict=none:=by
 cases x with
 | str z =>
  obtain ⟨t,rfl⟩:=r
  cases (show T="str" from ty)
  exact ⟨typeIs_str s z t,fun _ e=>nomatch e⟩
 | int i =>
  obtain ⟨t,rfl⟩:=r
  cases (show T="int" from ty)
  exact ⟨typeIs_int s i t,fun _ e=>nomatch e⟩
 | ref p =>
  cases r
  rcases ty with ⟨rfl,xs,hq⟩ | ⟨rfl,o,hk,hc,hd⟩ | ⟨rfl,hk⟩ | ⟨rfl,S,n,hk⟩
  ·obtain ⟨its,_,pl,_⟩:=I.list hq
   refine ⟨pl.isList.typeIs,fun a e=>?_⟩
   cases e
   obtain ⟨o,n,e,c,hd,_⟩:=pl
   exact ⟨o,e,hd⟩
  ·refine ⟨⟨o,I.kIn p o hk,hc⟩,fun a e=>?_⟩
   cases e
   exact ⟨o,I.kIn _ o hk,hd⟩
  ·have z:∃ o,s.heap.get? p=some o∧o.ExactDict:=by
    rcases hk with ⟨kvs,hk⟩ | ⟨kvs,hk⟩
    ·obtain ⟨_,_,_,_,o,_,_,e,ex,_⟩:=I.hok p _ hk
     exact ⟨o,e,ex⟩
    ·exact (show False from I.hok p _ hk).elim
   obtain ⟨o,e,ex⟩:=z
   refine ⟨⟨o,e,ex.1⟩,fun a e2=>?_⟩
   cases e2
   exact ⟨o,e,ex.2.1⟩
  ·obtain ⟨o,_,_,_,e,ex,_⟩:=I.hok p _ hk
   refine ⟨⟨o,e,ex.1⟩,fun a e2=>?_⟩
   cases e2
   exact ⟨o,e,ex.2.1⟩
 | _=>exact False.elim ty
noncomputable def tBM0 (K:PySem.W.Frag) (T:String) (r:V→List V→Hp→VK→Prop) (to:TE):TE:=fun σ H Q=>to σ H fun x H1=>tyV K T x H1∧r x [] H1 Q
noncomputable def tBM (K:PySem.W.Frag) (T:String) (r:V→List V→Hp→VK→Prop) (to:TE) (t:TA):TE:=fun σ H Q=>to σ H fun x H1=>tyV K T x H1∧t σ H1 fun xs H2=>r x xs H2 Q
variable {o e:Expr} {es:List Expr} {to:TE} {t:TA} {name:Str} {apos cpos:Pos} {T id:String} {r:V→List V→Hp→VK→Prop}
theorem Xpa (pa:PlainAttrs T) (slot:Slot T name id) (hty:typeOf (.builtin id)=pure (.type "method_descriptor")) (hm:MtR X id r) (ho:PE X o to)
  (hbase:attributeBase o name X.env (eval o X.env)=eval o X.env:=by rfl) (hline:(apos.endLine == cpos.line)=true:=by rfl):PE X (.Call (.Attribute o name apos) [] [] cpos) (tBM0 X.K T r to):=by
 intro pins s σ H Q I h
 refine wpAny_Call_method0_late hbase hline (thn (ho pins s σ H _ I h) fun v s1 ⟨x,H1,I1,r1,ty,q1⟩=>?_)
 obtain ⟨h1,h2⟩:=Xfj I1 r1 ty
 exact ⟨T,id,pa,slot,hty,h1,h2,Calls.callWith_builtin rfl (PySem.evalArgs_none (hm pins s1 σ H1 x [] v [] Q I1 r1 .nil q1))⟩
theorem Zcg (pa:PlainAttrs T) (slot:Slot T name id) (hty:typeOf (.builtin id)=pure (.type "method_descriptor")) (hm:MtR X id r) (ho:PE X o to) (ha:PA X (e::es) t)
  (hbase:attributeBase o name X.env (eval o X.env)=eval o X.env:=by rfl)
  (hfew:((backTo cpos (starEach (e::es) X.env)).all (fun x=>!x.1)&&(backToKw cpos (keywordEach [] X.env)).all (fun x=>x.1.isSome)
   && decide ((e::es).length+([]:List Keyword).length+(if ([]:List Keyword).isEmpty then 0 else 1)<30))=true:=by rfl)
  (hline:(apos.endLine == cpos.line)=true:=by rfl) (hs:starEach (e::es) X.env=(false,eval e X.env)::starEach es X.env:=by rfl) (hplain:(backTo cpos (starEach es X.env)).any (·.1)=false:=by rfl) :
  PE X (.Call (.Attribute o name apos) (e::es) [] cpos) (tBM X.K T r to t):=by
 intro pins s σ H Q I h
 refine wpAny_Call_method_late hbase hfew hline rfl (thn (ho pins s σ H _ I h) fun v s1 ⟨x,H1,I1,r1,ty,q1⟩=>?_)
 obtain ⟨h1,h2⟩:=Xfj I1 r1 ty
 refine ⟨T,id,pa,slot,hty,h1,h2,?_⟩
 have hA:=ha cpos pins s1 σ H1 _ I1 q1
 rw [hs] at hA ⊢
 refine Calls.callWith_builtin (by show (false||(backTo cpos (starEach es X.env)).any (·.1))=false;rw [hplain]<;>rfl) (Calls.evalArgs_plain ?_)
 exact thn hA fun us s2 ⟨vs,H2,I2,r2,q2⟩=>hm pins s2 σ H2 x vs v us Q I2 r1 r2 q2
end
end L2
namespace L2
open PySem PySem.Spec PyProof.Rows
noncomputable def MtM (X:Cx) (id:String) (r:V→List V→Hp→VK→Prop):Prop :=
 ∀ (pins:List (Addr×Obj)) (s:Shared) (σ:St) (H:Hp) (x:V) (xs:List V) (v:Value) (us:List Value) (Q:VK),Inv X pins σ H s→RelV x v→Vals xs us→r x xs H Q→
  wpAny (model X.prog X.w) X.A (call (.builtin id) (v::us)) (EP X pins σ Q) X.xe s
theorem Vals.one:∀ {x:V} {us:List Value},Vals [x] us→∃ u,us=[u]∧RelV x u
 | _,_,.cons r .nil=>⟨_,rfl,r⟩
theorem Vals.zero:∀ {us:List Value},Vals [] us→us=[]
 | _,.nil=>rfl
theorem Vals.dropLast {xs:List V} {us:List Value} (h:Vals xs us):Vals xs.dropLast us.dropLast:=by
 induction h with
 | nil=>exact .nil
 | cons r t ih =>
  cases t with
  | nil=>exact .nil
  | cons q t'=>exact .cons r ih
theorem Vals.rep {xs:List V} {us:List Value} (h:Vals xs us):∀ k:Nat,Vals (List.replicate k xs).flatten (List.replicate k us).flatten
 | 0 => .nil
 | k+1=>by
  rw [List.replicate_succ,List.replicate_succ,List.flatten_cons,List.flatten_cons]
  exact Vals.append h (Vals.rep h k)
theorem Xbg {α:Type} (l:List α):l.eraseIdx (l.length - 1)=l.dropLast:=by
 induction l with
 | nil=>rfl
 | cons a r ih =>
  cases r with
  | nil=>rfl
  | cons b r =>
   have e:(a::b::r).length - 1=((b::r).length - 1)+1:=by
    have h1:(a::b::r).length=r.length+2:=rfl
    have h2:(b::r).length=r.length+1:=rfl
    omega
   rw [e,List.eraseIdx_cons_succ,ih]
   all_goals rfl
theorem Zqi (its:List Value):∀ (k:Nat) (acc:List Value),
  List.foldl (fun x1 x2=>x1++x2) acc.toArray (List.replicate k its.toArray)=(acc++(List.replicate k its).flatten).toArray
 | 0,acc=>by simp
 | k+1,acc=>by
  have e:acc.toArray++its.toArray=(acc++its).toArray:=by simp
  have e2:(acc++its)++(List.replicate k its).flatten=acc++(List.replicate (k+1) its).flatten:=by
   rw [List.replicate_succ,List.flatten_cons,List.append_assoc]
  rw [← e2,← Zqi its k (acc++its),← e,List.replicate_succ,List.foldl_cons]
section
variable {X:Cx} {pins:List (Addr×Obj)} {σ:St} {H:Hp} {s:Shared} {l b:Addr} {xs ys zs:List V}
theorem Inv.lset {its its':List Value} {n:Nat} {f:Array Value→Array Value} {t':Nat} (I:Inv X pins σ H s) (hH:H l=some (.lst xs))
  (e:s.heap.get? l=some {cls := .type "list",data := .seq its.toArray n}) (hf:f its.toArray=its'.toArray) (hv:Vals ys its') (hz:ys.length≤sizeLine) :
  Inv X pins σ (upd H l (.lst ys)) {s with heap:=s.heap.update l (Obj.mapSeq f),toks:=t'}:=by
 have q:=PySem.IsL.update e f
 rw [hf] at q
 refine I.write (x:=l) (e:=l) (by rw [hH];exact trivial) (.inl rfl) (fun b' u hb hu=>(Heap.get?_update_other s.heap (Obj.mapSeq f) (Ne.symm hb)).trans hu) ⟨_,q⟩ ?_
 exact ⟨hz,its',_,hv,q⟩
theorem Inv.lnew {its:List Value} {t':Nat} (I:Inv X pins σ H s) (hv:Vals ys its) (hz:ys.length≤sizeLine) :
  Inv X pins σ (upd H s.heap.objs.size (.lst ys)) {s with heap:=s.heap.push {cls := .type "list",data := .seq its.toArray},toks:=t'} :=
 I.laid (fun _ _ q=>Heap.get?_push_of_some _ q) (Nat.le_refl _) ⟨hz,its,0,hv,Heap.get?_push_size _ rfl⟩
theorem Inv.fresh (I:Inv X pins σ H s):H s.heap.objs.size=none:=I.hok.fresh (Nat.le_refl _)
theorem Inv.lstM (I:Inv X pins σ H s) (hH:H l=some (.lst xs)):xs.length≤sizeLine∧∃ (its:List Value) (n:Nat),Vals xs its∧xs.length=its.length∧s.heap.get? l=some {cls := .type "list",data := .seq its.toArray n}:=by
 obtain ⟨z,its,n,r,e⟩:=I.hok l _ hH
 exact ⟨z,its,n,r,r.length,e⟩
theorem notLongL {n:Nat} (h:n≤sizeLine):Builtin.List.listTooLong n=false:=by
 unfold Builtin.List.listTooLong
 exact decide_eq_false (by omega)
end
section
variable {X:Cx}
noncomputable def rAppend:V→List V→Hp→VK→Prop:=fun x vs H Q=>∃ l xs y,x = .ref l∧vs=[y]∧H l=some (.lst xs)∧xs.length<sizeLine∧Q .non (upd H l (.lst (xs++[y])))
theorem Zce:MtM X "list.append" rAppend:=by
 intro pins s σ H x vs v us Q I rx rv h
 obtain ⟨l,xs,y,rfl,rfl,hH,hz,q⟩:=h
 cases rx
 obtain ⟨u,rfl,ru⟩:=rv.one
 obtain ⟨z,its,n,r,hl,e⟩:=I.lstM hH
 refine call_meets F.slot_list_append ⟨_,e,rfl⟩ F.entry_list_append (F.args_list_append_2 _ _) (PySem.list_append l its.toArray n u (by rw [List.size_toArray];omega)) ⟨e,?_⟩
 refine ⟨.non,_,I.lset (its':=its++[u]) hH e (by simp) (r.append (.cons ru .nil)) ?_,rfl,q⟩
 rw [List.length_append,List.length_singleton]
 omega
noncomputable def rPop:V→List V→Hp→VK→Prop:=fun x vs H Q=>∃ l xs y,x = .ref l∧vs=[]∧H l=some (.lst xs)∧xs[xs.length - 1]?=some y∧Q y (upd H l (.lst xs.dropLast))
theorem Xpi:MtM X "list.pop" rPop:=by
 intro pins s σ H x vs v us Q I rx rv h
 obtain ⟨l,xs,y,rfl,rfl,hH,hy,q⟩:=h
 cases rx
 have hus:=rv.zero
 subst hus
 obtain ⟨z,its,n,r,hl,e⟩:=I.lstM hH
 obtain ⟨u,hu,ru⟩:=r.get hy
 have hy':its.toArray[its.toArray.size - 1]?=some u:=by
  show its.toArray[its.length - 1]?=some u
  rw [← Array.getElem?_toList,← hl]
  exact hu
 refine call_meets F.slot_list_pop ⟨_,e,rfl⟩ F.entry_list_pop (F.args_list_pop_1 _) (MeetsSeq.list_pop_last l its.toArray n u hy' (by rw [List.size_toArray];omega)) ⟨e,?_⟩
 refine ⟨y,_,I.lset (its':=its.dropLast) hH e ?_ r.dropLast ?_,ru,q⟩
 ·show its.toArray.eraseIdxIfInBounds (its.toArray.size - 1)=its.dropLast.toArray
  rw [List.size_toArray,List.eraseIdxIfInBounds_toArray,Xbg]
 ·rw [List.length_dropLast]
  omega
noncomputable def rCat:R2:=fun x y H Q=>∃ l b xs zs,x = .ref l∧y = .ref b∧H l=some (.lst xs)∧H b=some (.lst zs)∧xs.length+zs.length≤sizeLine∧∀ p,H p=none→Q (.ref p) (upd H p (.lst (xs++zs)))
theorem Zbb:OpR X (binaryOp .Add) rCat:=by
 intro pins s σ H x y v u Q I rx ry h
 obtain ⟨l,b,xs,zs,rfl,rfl,hH,hB,hz,q⟩:=h
 cases rx
 cases ry
 obtain ⟨z,its,n,r,hl,e⟩:=I.lstM hH
 obtain ⟨z2,its2,n2,r2,hl2,e2⟩:=I.lstM hB
 refine PySem.P.add_list e e2 ?_ (by rw [List.size_toArray,List.size_toArray];omega)
 have ea:its.toArray++its2.toArray=(its++its2).toArray:=by simp
 rw [ea]
 exact ⟨.ref _,_,I.lnew (t':=s.toks) (r.append r2) (by rw [List.length_append];omega),rfl,q _ I.fresh⟩
noncomputable def rRep:R2:=fun x y H Q=>∃ l k xs,x = .ref l∧y = .int k∧H l=some (.lst xs)∧-(2 ^ 63)≤k∧k<2 ^ 63∧xs.length*k.toNat≤sizeLine∧
 ∀ p,H p=none→Q (.ref p) (upd H p (.lst (List.replicate k.toNat xs).flatten))
theorem Xmh {α:Type} (xs:List α) (k:Nat):(List.replicate k xs).flatten.length=k*xs.length:=by
 induction k with
 | zero=>simp
 | succ k ih=>rw [List.replicate_succ,List.flatten_cons,List.length_append,ih,Nat.succ_mul,Nat.add_comm]
theorem Xpc:OpR X (binaryOp .Mult) rRep:=by
 intro pins s σ H x y v u Q I rx ry h
 obtain ⟨l,k,xs,rfl,rfl,hH,h1,h2,hz,q⟩:=h
 cases rx
 obtain ⟨t,rfl⟩:=ry
 obtain ⟨z,its,n,r,hl,e⟩:=I.lstM hH
 have hlen:its.toArray.size*k.toNat≤sizeLine:=by rw [List.size_toArray,← hl];exact hz
 have hcap:¬its.toArray.size*k.toNat > (2 ^ 63 - 1)/8:=by
  have:(sizeLine:Nat)≤(2 ^ 63 - 1)/8:=by decide
  omega
 have hfit:¬(!Builtin.List.listFitsIndex k)=true:=by
  rw [fitsIndex_both h1 h2]
  exact Bool.false_ne_true
 have hlong:¬Builtin.List.listTooLong (its.toArray.size*k.toNat)=true:=by
  rw [notLongL hlen]
  exact Bool.false_ne_true
 have hnew:List.foldl (fun x1 x2=>x1++x2) #[] (List.replicate (if its.toArray.isEmpty=true then 0 else k.toNat) its.toArray)=(List.replicate k.toNat its).flatten.toArray:=by
  have f0:∀ m:Nat,List.foldl (fun x1 x2=>x1++x2) #[] (List.replicate m its.toArray)=(List.replicate m its).flatten.toArray:=fun m=>by
   have:=Zqi its m []
   rw [List.nil_append] at this
   exact this
  rw [f0]
  cases its with
  | nil=>simp
  | cons a r'=>rw [if_neg (by simp)]
 refine wpAny_binaryOp_repeat_ref (T:="list") (U:="int") (by decide) ⟨_,e,rfl⟩ (fun s'=>typeIs_int s' k t) noFill_list_mul F.fills_int_mul F.slot_int_rmul repeat_list F.slot_int_index.lookup
  (call_meets F.slot_int_rmul (typeIs_int s k t) F.entry_int_rmul (F.args_int_rmul_2 _ _) (int___rmul___int_list k t l its.toArray n)
   ⟨e,rfl,⟨_,e,rfl⟩,call_meets F.slot_list_mul ⟨_,e,rfl⟩ F.entry_list_mul (F.args_list_mul_2 _ _) (AutoListH.list___mul___list_int_3 l its.toArray n k t hfit hcap hlong) ⟨e,?_⟩⟩)
 rw [hnew]
 exact ⟨.ref _,_,I.lnew (t':=s.toks) (r.rep k.toNat) (by rw [Xmh,Nat.mul_comm];exact hz),rfl,q _ I.fresh⟩
end
section
variable {prog:Program} {w:World} {A:Around} {E:Value→Shared→Prop} {s:Shared}
set_option maxRecDepth 100000 in
end
section
variable {X:Cx}
end
end L2
namespace Att
open PySem PySem.W PySem.Calls PyProof.Rows
theorem Zid {P:Params} {h:Heap}:∀ (ns:List Int) (vs:List Value),WellAll P h vs (ns.map WData.int)→IntsAre vs ns:=by
 intro ns
 induction ns with
 | nil =>
  intro vs w
  rw [List.map_nil] at w
  cases w
  exact .nil
 | cons n ns ih =>
  intro vs w
  rw [List.map_cons] at w
  cases w with
  | cons a b =>
   cases a
   exact .cons _ _ (ih _ b)
theorem Xdf {l:OpenLaw} {n:Nat} (hn:l.most=some n) {P:Params} {h:Heap} {args:List WData} {vals:List Value}
  (hpre:l.row.toRowW.claim.pre args=true) (hwl:WellAll P h vals args) :
  ∃ a vs ns,vals=[Value.ref a]∧args=[WData.list (ns.map WData.int)]∧h.get? a=some {cls := .type "list",data := .seq vs.toArray}∧IntsAre vs ns∧ns.length≤n:=by
 have hsh:WShape.hasAll [] args [.list .int]=true:=(pre_splitW hpre).1
 have hc:l.pre.holds [] {args:=args}=true:=(pre_splitW hpre).2
 obtain ⟨d,r,rfl,h1,h2⟩:=hasAllW_cons hsh
 obtain rfl:=hasAllW_nil h2
 obtain ⟨xs,rfl,h3⟩:=hasW_list h1
 obtain ⟨ns,rfl⟩:=items_int h3
 have hlen:ns.length≤n:=by
  unfold OpenLaw.pre at hc
  have h4:(WTm.not (.lt (.lit (.int (n:Int))) (.len (.arg 0)))).holds [] {args:=[.list (ns.map .int)]}=true:=by
   have h4:=(holds_andW hc).1
   rw [hn] at h4
   exact h4
  have h5:=condW_of h4 (w_not (w_lt w_lit (w_len_list (w_arg rfl))))
  rw [List.length_map] at h5
  refine Nat.le_of_not_lt fun q=>?_
  have q':(n:Int)<((ns.length:Nat):Int):=by omega
  first
   | (rw [decide_eq_true q'] at h5;exact absurd h5 (by decide))
   | (simp at h5;omega)
 cases hwl with
 | cons w1 w2 =>
  cases w2
  cases w1 with
  | list ho hall=>exact ⟨_,_,ns,rfl,rfl,ho,Zid ns _ hall,hlen⟩
theorem Xdi (l:OpenLaw) (args:List WData):l.row.toRowW.claim.post args (.bool true) args=true :=
 postW_of (r:=l.row.toRowW) (X:=(true == true))
  (show WShape.has [] (.bool true) .bool=true by first | rfl | decide | simp [WShape.has,WShape.arms,WShape.armsAll])
  (show (WTm.eq .res (.lit (.bool true))).value [] {args:=args,res:=some (.bool true),after:=args}=some (.bool (true == true)) from w_eq_bool (w_res rfl) w_lit) rfl
theorem attach_call {l:OpenLaw} {n:Nat} {q:Program} {loose:List Str} {XP:(Str→Option Value)→Heap→Prop} {YP:World→Heap→Prop} {d:DefRec}
  (hn:l.most=some n) (hdf:d.params.defaults=[])
  (call:∀ (w:World) (s₀ s₁:Shared) (mg mb:Str→Option Value) (fa:Addr) (o:Obj) (pm cd doc:Value) (a:Addr) (vs:List Value) (ns:List Int),
   Ground q loose [] XP w s₀ mg mb s₁.heap→YP w s₁.heap→
   s₁.heap.get? fa=some o→o.data = .func (docDef d.name d.params d.body d.scope pm cd doc)→s₁.heap.CodeRec cd d.name→mg d.name=some (.ref fa)→
   s₁.heap.get? a=some {cls := .type "list",data := .seq vs.toArray}→IntsAre vs ns→ns.length≤n→s₁.gens=#[]→
   codeAny (model l.prog w) callerA (.call (.ref fa) ⟨[.ref a],[]⟩) (fun r s'=>r = .ok (.ret (.bool true))∧OldK s₁.heap s'.heap∧s'.os=s₁.os∧AllBare s'.gens) s₁) :
  WalkO q loose XP YP l.row.toRowW d [] (fun f vs=>PySem.call f vs):=by
 intro w s₀ s₁ mg mb G Y fa o pm cd doc dV kV ho hd hcd hD hmg hg args vals as hpre hlay hrd hwl hlo
 obtain rfl:dV = .none:=Dflts.none hD hdf
 obtain rfl:kV = .none:=Dflts.noKw hD
 obtain ⟨a,vs,ns,rfl,rfl,hobj,hints,hlen⟩:=Xdf hn hpre hwl
 refine enter_call (codeAny_mono (call w s₀ s₁ mg mb fa o pm cd doc a vs ns G Y ho (fd_plain hd) hcd hmg hobj hints hlen hg) fun r s' hq=>?_)
 obtain ⟨rfl,h2,h3,h4⟩:=hq
 exact ⟨.inl ⟨.bool true,.bool true,[],rfl,fun _=>rfl,.bool true,Xdi l _,fun _=>⟨List.Pairwise.nil,fun _ hm=>(nomatch hm)⟩⟩,h2,h3,h4⟩
section
variable {prog:Program} {w:World} {A:Around} {E:Value→Shared→Prop} {s:Shared} {K:Frag}
noncomputable def ledger (h:Heap) (L d:Addr):List (Addr×Obj):=(List.range h.objs.size).filterMap fun a=>if a=L∨a=d then none else (h.get? a).map fun o=>(a,o)
end
end Att
namespace L2
open PySem PySem.Spec PyProof.Rows
theorem Zpe:∀ {vs:List Value} {ns:List Int},IntsAre vs ns→Vals (ns.map V.int) vs
 | _,_,.nil => .nil
 | _,_,.cons n t h => .cons ⟨t,rfl⟩ (Zpe h)
noncomputable def Only (H:Hp):Prop:=∀ b,H b=none∨∃ o xs,H b=some (.frz o (.lst xs))
theorem law_call {P:Program} {w:World} {K:PySem.W.Frag} {mg mb:Str→Option Value} {CX:CXT} {k:Nat} {fa a:Addr} {fd:FuncData} {x:Str} {sp:Sp} {s₁:Shared} {vs:List Value} {ns:List Int}
  (KX:K.In s₁.heap) (hns:s₁.heap.Ns mainGlobals mg) (hb:s₁.heap.Ns builtinsNs mb) (hbb:∀ x:Str,x≠"__name__"→mb x=bootBuiltins x) (hlim:s₁.heap.NoLimit) (hg:s₁.gens=#[])
  (ha:s₁.heap.get? a=some {cls := .type "list",data := .seq vs.toArray}) (hi:IntsAre vs ns) (hl:ns.length≤sizeLine) (hr:Room k callerA)
  (F:∀ base:Heap,K.In base→base.Ns mainGlobals mg→FnOk P w K mg base CX k fa fd [x] sp) (hbind:∀ (s:Shared) (u:Value),BindsTo s fd ⟨[u],[]⟩ [(x,u)])
  (hsp:∀ H:Hp,Only H→SqL K H a (ns.map V.int)→sp [.ref a] H (fun v _=>v = .bl true) fun _ _ _=>False)
  (hCX:∀ H e s',CX [] H s₁ (fun _ _ _=>False) e s'→False) :
  codeAny (model P w) callerA (.call (.ref fa) ⟨[.ref a],[]⟩) (fun r s'=>r = .ok (.ret (.bool true))∧OldK s₁.heap s'.heap∧s'.os=s₁.os∧AllBare s'.gens) s₁:=by
 have rv:=Zpe hi
 have lenV:=hi.length
 have core:∀ H:Hp,Only H→SqL K H a (ns.map V.int)→HOk P w H s₁.heap→(∀ b,H b≠none→b=a)→(H a≠none→K.lookup a=none)→
   codeAny (model P w) callerA (.call (.ref fa) ⟨[.ref a],[]⟩) (fun r s'=>r = .ok (.ret (.bool true))∧OldK s₁.heap s'.heap∧s'.os=s₁.os∧AllBare s'.gens) s₁:=by
  intro H hO hS hok hA hK
  have base_of:∀ {b:Addr} {o:Obj},s₁.heap.get? b=some o→H b=none→(hidT s₁.heap H).get? b=some o:=fun e n=>Xjc e n
  have noA:∀ {b:Addr} {o:Obj} {es:Array DictEntry} {ep:Nat},s₁.heap.get? b=some o→o.data = .dict es ep→H b=none:=fun {b o es ep} e d=>by
   cases q:H b with
   | none=>rfl
   | some u =>
    have e':b=a:=hA b (by rw [q];simp)
    subst e'
    rw [ha] at e;cases e
    have d':Data.seq vs.toArray _=Data.dict es ep:=d
    cases d'
  have nsK:∀ {b:Addr} {m:Str→Option Value},s₁.heap.Ns b m→(hidT s₁.heap H).Ns b m:=fun {b m} ⟨o,es,ep,e,d,r⟩=>⟨o,es,ep,base_of e (noA e d),d,r⟩
  have hKb:K.In (hidT s₁.heap H):=fun b o e=>base_of (KX b o e) (by
   cases q:H b with
   | none=>rfl
   | some u =>
    have e':b=a:=hA b (by rw [q];simp)
    subst e'
    rw [hK (by rw [q];simp)] at e;cases e)
  have hM:Mod K mg (hidT s₁.heap H):=⟨hKb,nsK hns,⟨mb,nsK hb,hbb⟩,let ⟨mc,h1,h2⟩:=hlim;⟨mc,nsK h1,h2⟩⟩
  have e0:Env0 P w K mg (hidT s₁.heap H) callerA [] s₁ H:=⟨rfl,hM,fun b o e=>Xmg e,Nat.le_of_eq (Xei _ _),trivial,fun b hb=>absurd (show b∈([]:List Addr) from hb) (by simp),hok,.of_eq hg⟩
  refine codeAny_mono ((F _ hKb (nsK hns)).run callerA [] s₁ H ⟨[.ref a],[]⟩ [.ref a] [.ref a] _ _ hr e0 (hbind s₁ (.ref a)) (.cons rfl .nil) (hsp H hO hS)) fun r s' h=>?_
  cases r with
  | error e=>exact (hCX H e s' h).elim
  | ok fl =>
   cases fl with
   | next=>exact False.elim h
   | brk=>exact False.elim h
   | cont=>exact False.elim h
   | ret u =>
    obtain ⟨v,H',os,bare,un,hok',r',q⟩:=h
    have q':v = .bl true:=q
    subst q'
    obtain rfl:u=Value.bool true:=r'
    refine ⟨rfl,OldK.of_keep fun b o e=>?_,os,bare⟩
    cases q:H b with
    | none=>exact un.keep b o e q (by intro z;exact absurd (show b∈([]:List Addr) from z) (by simp)) (by simp)
    | some u =>
     rcases hO b with z | ⟨ob,xs,z⟩
     ·rw [q] at z;cases z
     ·have z2:=un.frzs b ob _ z
      obtain ⟨e1,_⟩:=hok b _ z
      obtain ⟨e2,_⟩:=hok' b _ z2
      rw [e] at e1;cases e1
      exact e2
 cases hk:K.lookup a with
 | some o =>
  have e:=KX a o hk
  rw [ha] at e
  cases e
  refine core (fun _=>none) (fun _ => .inl rfl) (.inr ⟨_,vs.toArray,_,hk,rfl,rfl,rfl,by rw [List.size_toArray,lenV];exact hl,by simpa using rv⟩) (fun b u z=>by have z':(none:Option HO)=some u:=z;cases z') (fun b z=>absurd rfl z) fun z=>absurd rfl z
 | none =>
  refine core (fun b=>if b=a then some (.frz {cls := .type "list",data := .seq vs.toArray} (.lst (ns.map V.int))) else none) (fun b=>?_) (.inl (.inr ⟨{cls := .type "list",data := .seq vs.toArray},if_pos rfl⟩)) (fun b u z=>?_) (fun b z=>?_) fun _=>hk
  ·by_cases hb:b=a
   ·exact .inr ⟨_,_,if_pos hb⟩
   ·exact .inl (if_neg hb)
  ·by_cases hb:b=a
   ·have z':=(if_pos hb).symm.trans z
    cases z'
    subst hb
    exact ⟨ha,by rw [List.length_map];exact hl,vs,_,rv,ha⟩
   ·have z':=(if_neg hb).symm.trans z
    cases z'
  ·by_cases hb:b=a
   ·exact hb
   ·exact absurd (if_neg hb) z
end L2
namespace L2
open PySem PySem.Spec PyProof.Rows
theorem Xkj {l:PySem.W.OpenLaw} {n k:Nat} {q:Program} {loose:List Str} {XP:(Str→Option Value)→Heap→Prop} {YP:World→Heap→Prop} {d:DefRec} {K:Params→PySem.W.Frag} {CX:World→CXT} {sp:World→Sp} {x:Str}
  (hn:l.most=some n) (hn2:n≤sizeLine) (hdf:d.params.defaults=[]) (hr:Room k callerA)
  (hY:∀ (w:World) (h:Heap),YP w h→(K w.params).In h)
  (F:∀ (w:World) (mg:Str→Option Value) (fa:Addr) (h:Heap),(K w.params).In h→h.Ns mainGlobals mg→mg d.name=some (.ref fa)→
   ∃ fd:FuncData,(∀ (s:Shared) (u:Value),BindsTo s fd ⟨[u],[]⟩ [(x,u)])∧
    ∀ base:Heap,(K w.params).In base→base.Ns mainGlobals mg→FnOk l.prog w (K w.params) mg base (CX w) k fa fd [x] (sp w))
  (hsp:∀ (w:World) (H:Hp) (a:Addr) (ns:List Int),ns.length≤n→Only H→SqL (K w.params) H a (ns.map V.int)→sp w [.ref a] H (fun v _=>v = .bl true) fun _ _ _=>False)
  (hCX:∀ (w:World) (H:Hp) (s:Shared) (e:Value) (s':Shared),CX w [] H s (fun _ _ _=>False) e s'→False) :
  PySem.W.WalkO q loose XP YP l.row.toRowW d [] (fun f vs=>PySem.call f vs):=by
 refine Att.attach_call hn hdf fun w s₀ s₁ mg mb fa o pm cd doc a vs ns G Y ho hd hcd hmg hobj hints hlen hg=>?_
 have KX:=hY w _ Y
 obtain ⟨fd,hb,hF⟩:=F w mg fa _ KX G.T.g hmg
 exact law_call KX G.T.g G.T.b G.T.builtins G.T.nolimit hg hobj hints (Nat.le_trans hlen hn2) hr hF hb (fun H hO hS=>hsp w H a ns hlen hO hS) fun H e s'=>hCX w H s₁ e s'
end L2
namespace L2
open PySem PySem.Spec PyProof.Rows
noncomputable def inClass (s:Stmt) (j:Nat):Stmt:=match s with
 | .ClassDef _ _ _ body _ _ _ _ _ _ _=>body.getD j (.Pass ⟨0,0,0,0⟩)
 | _ => .Pass ⟨0,0,0,0⟩
noncomputable def defArgs (s:Stmt):Arguments:=match s with
 | .FunctionDef _ a _ _ _ _ _ _ _ _=>a
 | _=>{posonlyargs:=[],args:=[],vararg:=none,kwonlyargs:=[],kw_defaults:=[],kwarg:=none,defaults:=[]}
noncomputable def defBody (s:Stmt):List Stmt:=match s with
 | .FunctionDef _ _ b _ _ _ _ _ _ _=>b
 | _=>[]
noncomputable def defScope (s:Stmt):Scope:=match s with
 | .FunctionDef _ _ _ _ _ _ sc _ _ _=>sc
 | _=>{kind := .function,names:=[],isGenerator:=false,isCoroutine:=false}
noncomputable abbrev CX0:CXT:=fun _ _ _ _ _ _=>False
noncomputable abbrev E0:XK:=fun _ _ _=>False
theorem pass0 {X:Cx}:Passes CX0 X E0:=fun _ _ _ _ _ _ _ h=>h.elim
structure Fun (K:PySem.W.Frag) (x qual:Str) (st:Stmt) (f:Addr) (fd:FuncData):Prop where
 ex:∃ (oc:Value) (od:Option Addr) (kV doc pm:Value) (an:Option Addr) (cdv ct:Value) (osl:Array (Option Value)),
  fd=PySem.W.fnOf x qual (defArgs st) (defBody st) (defScope st) .none kV doc pm an cdv ct∧K.lookup f=some ⟨oc,od,.func fd,osl⟩∧PySem.W.codeIn K cdv qual=true
 kp:PySem.W.keepIn K (.ref f)=true
section
variable {P:Program} {w:World} {K:PySem.W.Frag} {mg:Str→Option Value} {base:Heap}
theorem Fun.ok {x qual:Str} {st:Stmt} {f:Addr} {fd:FuncData} {N ps:List Str} {k:Nat} {sp:Sp} (F:Fun K x qual st f fd) (S:FnScope N ps (defScope st)) (len:∀ vs H Q E,sp vs H Q E→vs.length=ps.length)
  (hbody:∀ (cdv:Value) (A:Around) (outer:List Env) (s:Shared) (H:Hp) (vs:List V) (Q:VK) (E:XK),Room k (A.deeper (envOfC qual (defScope st) s.heap.objs.size f cdv))→sp vs H Q E→
   ∃ t,PSs (cxOf CX0 P w K mg base N qual (defScope st) f cdv A outer s H E).nox (defBody st) t∧t {nx:=fun _ H'=>Q .non H',rt:=Q} (start N vs) H):FnOk P w K mg base CX0 (k+1) f fd ps sp:=by
 obtain ⟨oc,od,kV,doc,pm,an,cdv,ct,osl,rfl,lk,hcd⟩:=F.ex
 refine Xng lk hcd S len fun A outer s H vs Q E hr hsp=>?_
 obtain ⟨t,h,q⟩:=hbody cdv A outer s H vs Q E hr hsp
 exact ⟨t,h.nox,q⟩
theorem Fun.binds {x qual:Str} {st:Stmt} {f:Addr} {fd:FuncData} {ps:List Str} (F:Fun K x qual st f fd)
  (h:∀ (kV doc pm:Value) (an:Option Addr) (cdv ct:Value) (us:List Value),us.length=ps.length→bindArgs (PySem.W.fnOf x qual (defArgs st) (defBody st) (defScope st) .none kV doc pm an cdv ct) ⟨us,[]⟩=pure (ps.zip us)):Binds K fd ps []:=by
 obtain ⟨oc,od,kV,doc,pm,an,cdv,ct,osl,rfl,lk,hcd⟩:=F.ex
 exact .all (h kV doc pm an cdv ct)
theorem Zq {x qual:Str} {st:Stmt} {f:Addr} {oc:Value} {od an:Option Addr} {osl:Array (Option Value)} {kV doc pm cdv ct:Value} (l:K.lookup f=some ⟨oc,od,.func (PySem.W.fnOf x qual (defArgs st) (defBody st) (defScope st) .none kV doc pm an cdv ct),osl⟩)
  (c:PySem.W.codeIn K cdv qual=true) (k:PySem.W.keepIn K (.ref f)=true):Fun K x qual st f (PySem.W.fnOf x qual (defArgs st) (defBody st) (defScope st) .none kV doc pm an cdv ct):=⟨⟨oc,od,kV,doc,pm,an,cdv,ct,osl,rfl,l,c⟩,k⟩
end
section
variable {X:Cx}
theorem pv (i:Nat) {x:Str} {pos:Pos} (hN:X.N[i]?=some x:=by rfl) (hv:Vis X.env.scope x:=by first | exact Or.inl rfl | exact Or.inr (Or.inl rfl) | exact Or.inr (Or.inr rfl)) (hd:(x == ("__debug__":Str))=false:=by decide)
  (hcd:(x == ("__classdict__":Str))=false:=by decide):PE X (.Name x pos) (tVar i):=Xoj hN hv hd hcd
end
theorem iteF {A B:Prop} (h:B):if false=true then A else B:=by
 rw [if_neg Bool.false_ne_true]
 exact h
theorem iteT {A B:Prop} (h:A):if true=true then A else B:=by
 rw [if_pos rfl]
 exact h
theorem iteNS {c A B:Prop} [Decidable c] (hc:c) (h:B):if (!decide c)=true then A else B:=by
 rw [decide_eq_true hc]
 exact iteF h
noncomputable def Same (H H':Hp):Prop:=∀ b o,H b=some o→H' b=some o
theorem Same.refl (H:Hp):Same H H:=fun _ _ h=>h
theorem Same.trans {H H1 H2:Hp} (a:Same H H1) (b:Same H1 H2):Same H H2:=fun c o h=>b c o (a c o h)
theorem Same.free {H H':Hp} (e:Same H H') {l:Addr} (h:H' l=Option.none):H l=Option.none:=by
 cases q:H l with
 | none=>rfl
 | some o =>
  rw [e l o q] at h
  cases h
theorem Same.seq {K:PySem.W.Frag} {H H':Hp} {a:Addr} {xs:List V} (e:Same H H') (h:SqL K H a xs):SqL K H' a xs:=by
 rcases h with (h | ⟨o,h⟩) | h
 ·exact .inl (.inl (e _ _ h))
 ·exact .inl (.inr ⟨o,e _ _ h⟩)
 ·exact .inr h
end L2
section
namespace TS
open PySem PyProof.Rows
section
variable {prog:Program} {w:World} {A:Around} {E:Value→Shared→Prop} {s:Shared} {κ:KeyKind}
noncomputable def kv (κ:KeyKind) (p:Keyed):κ.α:=(κ.keyOf p.1).getD κ.dflt
noncomputable def Has (κ:KeyKind) (p:Keyed):Prop:=∃ a,κ.keyOf p.1=some a
noncomputable def le (κ:KeyKind) (p q:Keyed):Prop:=κ.kle (kv κ p) (kv κ q)
structure MS (κ:KeyKind) (T out X Y:List Keyed):Prop where
 px:(out++X).Pairwise (le κ)
 py:(out++Y).Pairwise (le κ)
 pm:(out++X++Y).Perm T
variable {T out X Y P:List Keyed}
noncomputable def Seg (κ:KeyKind) (arr:Array Keyed) (lo hi:Nat):Prop:=∀ i j (hi':i<arr.size) (hj:j<arr.size),lo≤i→i≤j→j<hi→le κ arr[i] arr[j]
section lo
variable {a b:Array Keyed} {o:Array Keyed} {ia ib k:Nat}
noncomputable def R (κ:KeyKind) (a b:Array Keyed) (o:Array Keyed) (ia ib:Nat):Prop:=MS κ (a.toList++b.toList) o.toList (a.toList.drop ia) (b.toList.drop ib)
noncomputable def Good (κ:KeyKind) (a b m:Array Keyed):Prop:=m.toList.Pairwise (le κ)∧m.toList.Perm (a.toList++b.toList)
end lo
noncomputable abbrev LS:=Option (Array Keyed)×Array Keyed×Nat×Nat×Nat×Nat×Nat
section lo2
variable {a b o:Array Keyed} {ia ib x:Nat} {st st3:SortSt} {Q:ForInStep LS→SortSt→Prop}
end lo2
set_option maxHeartbeats 1000000 in
structure MH (κ:KeyKind) (T out X Y:List Keyed):Prop where
 px:(X++out).Pairwise (le κ)
 py:(Y++out).Pairwise (le κ)
 pm:(X++Y++out).Perm T
section hi
variable {a b:Array Keyed} {o:Array Keyed} {na nb k:Nat}
end hi
noncomputable abbrev HS:=Option (Array Keyed)×Nat×Nat×Array Keyed×Nat×Nat×Nat
section hi2
variable {a b o:Array Keyed} {na nb x:Nat} {st st3:SortSt} {Q:ForInStep HS→SortSt→Prop}
end hi2
set_option maxHeartbeats 1000000 in
end
end TS
end
section
namespace TS
open PySem PyProof.Rows
section
variable {prog:Program} {w:World} {A:Around} {E:Value→Shared→Prop} {s:Shared} {κ:KeyKind}
structure Mrg (κ:KeyKind) (st st':SortSt) (lo hi:Nat):Prop where
 perm:(arrOf st').Perm (arrOf st)
 kind:kindOf st'=kindOf st
 failed:failedOf st'=failedOf st
 seg:Seg κ (arrOf st') lo hi
 rest:∀ j,(j<lo∨hi≤j)→(arrOf st')[j]?=(arrOf st)[j]?
set_option maxHeartbeats 1000000 in
end
end TS
end
section
namespace TS
open PySem PyProof.Rows
section
variable {prog:Program} {w:World} {A:Around} {E:Value→Shared→Prop} {s:Shared} {κ:KeyKind}
structure Kp (κ:KeyKind) (st0:SortSt) (lo:Nat) (st:SortSt):Prop where
 perm:(arrOf st).Perm (arrOf st0)
 kind:kindOf st=oneType'
 failed:failedOf st=none
 pend:pendingOf st=pendingOf st0
 low:∀ j,j<lo→(arrOf st)[j]?=(arrOf st0)[j]?
 has:∀ p,p∈(arrOf st).toList→Has κ p
variable {st0 st:SortSt} {lo:Nat}
noncomputable def KS (κ:KeyKind) (arr:Array Keyed) (lo hi:Nat):Prop:=∀ i j,lo≤i→i≤j→j<hi→κ.kle (KK κ arr i) (KK κ arr j)
noncomputable def NI (κ:KeyKind) (arr:Array Keyed) (lo hi:Nat):Prop:=∀ i j,lo≤i→i≤j→j<hi→κ.kle (KK κ arr j) (KK κ arr i)
set_option maxHeartbeats 1000000 in
set_option maxHeartbeats 1000000 in
end
end TS
end
section
namespace TS
open PySem PyProof.Rows
section
variable {prog:Program} {w:World} {A:Around} {E:Value→Shared→Prop} {s:Shared} {κ:KeyKind}
noncomputable def Pd (κ:KeyKind) (arr:Array Keyed):List (Nat×Nat×Nat)→Nat→Nat→Prop
 | [],s,e=>s=e
 | p::ps,s,e=>p.1=s∧1≤p.2.1∧Seg κ arr s (s+p.2.1)∧Pd κ arr ps (s+p.2.1) e
structure G (κ:KeyKind) (a0:Array Keyed) (st:SortSt) (e:Nat):Prop where
 perm:(arrOf st).Perm a0
 kind:kindOf st=oneType'
 failed:failedOf st=none
 has:∀ p,p∈(arrOf st).toList→Has κ p
 pd:Pd κ (arrOf st) (pendingOf st).toList 0 e
variable {a0:Array Keyed} {st:SortSt} {e:Nat}
set_option maxHeartbeats 1000000 in
end
end TS
end
section
namespace L2
open PySem PySem.Spec PyProof.Rows
section
variable {X:Cx}
theorem Xbj:∀ {ys:List Str} {its:List Value},Vals (ys.map V.str) its→StrsAre its ys
 | [],_,.nil => .nil
 | _::_,_,.cons ⟨_,e⟩ r=>by subst e;exact .cons _ _ (Xbj r)
theorem Zth:MtR X "str.join" (fun x xs H Q=>∃ y a ys,x = .str y∧xs=[.ref a]∧SqL X.K H a (ys.map V.str)∧(ys.map (·.length)).sum+ys.length*y.length≤16777216∧Q (.str (Txt.join y ys)) H):=by
 intro pins s σ H x xs v us Q I rx rv h
 obtain ⟨y,a,ys,rfl,rfl,hq,hz,q⟩:=h
 obtain ⟨t,rfl⟩:=rx
 obtain ⟨u,rfl,ru⟩:=rv.one
 cases ru
 obtain ⟨its,r,pl,_⟩:=I.list hq
 exact join_list pl.isList (by simpa using Xbj r) hz fun t' k=>⟨.str _,H,I.tok _,⟨_,rfl⟩,q⟩
theorem Xaa:OpR X (binaryOp .Mult) (fun x y H Q=>∃ z i,x = .str z∧y = .int i∧i<2 ^ 40∧-(2 ^ 40)<i∧z.length*i.toNat≤sizeLine∧Q (.str (Txt.mul z i)) H):=by
 intro pins s σ H x y v u Q I rx ry h
 obtain ⟨z,i,rfl,rfl,h1,h2,h3,q⟩:=h
 obtain ⟨t,rfl⟩:=rx
 obtain ⟨t',rfl⟩:=ry
 refine SB.mul ⟨?_,fun h4 _=>?_,fun h4 _=>?_⟩ fun t' k=>⟨.str _,H,I.tok _,⟨_,rfl⟩,q⟩
 ·simp only [Bool.or_eq_false_iff,decide_eq_false_iff_not];omega
 ·intro c
  have hn:(0:Int)<i:=by omega
  have h63:=line63
  have e:(z.length:Int)*i≤2 ^ 63 - 1:=by
   have:((z.length*i.toNat:Nat):Int)=(z.length:Int)*i:=by rw [Int.natCast_mul];congr 1;omega
   omega
  have:=(Int.le_ediv_iff_mul_le hn).mpr e
  omega
 ·unfold Builtin.Str.tooLong;simpa using h3
theorem Zpb:CallR X (.type "int") (fun xs H Q=>∃ x n,xs=[.str x]∧PySem.intText? x=some n∧x.length≤640∧Q (.int n) H):=by
 intro pins s σ H xs us Q I r h
 obtain ⟨x,n,rfl,hn,hl,q⟩:=h
 obtain ⟨u,rfl,t,rfl⟩:=vals1 r
 exact PySem.W.KIN.call_text hn hl ⟨.int n,H,I.tok _,⟨_,rfl⟩,q⟩
theorem Xoa:SlR X (fun x lo hi H Q=>∃ z,x = .str z∧z.length≤sizeLine∧Q (.str (Txt.slice z lo hi)) H):=by
 intro pins s σ H x v vl vu lo hi sl Q I rx hs pl pu h
 obtain ⟨z,rfl,hz,q⟩:=h
 obtain ⟨t,rfl⟩:=rx
 refine ⟨"str",_,F.slot_str_getitem.lookup,typeIs_str s z t,?_⟩
 have fin:∀ (t':Tok) (k:Nat),EP X pins σ Q (.str (Txt.slice z lo hi) t') {s with toks:=k}:=fun t' k=>⟨.str _,H,I.tok _,⟨_,rfl⟩,q⟩
 obtain ⟨o,ho,hc,hd⟩:=hs
 cases pl with
 | none =>
  cases pu with
  | none=>exact wpAny_getItem_str_slice (l:=none) (u:=none) (st:=none) ⟨o,ho,hc,hd⟩ rfl (post_val_or_str ⟨Nat.le_trans (Txt.slice_le z _ _) hz,fin⟩)
  | int j uj=>exact wpAny_getItem_str_slice (l:=none) (u:=some (j,uj)) (st:=none) ⟨o,ho,hc,hd⟩ rfl (post_val_or_str ⟨Nat.le_trans (Txt.slice_le z _ _) hz,fin⟩)
 | int i ui =>
  cases pu with
  | none=>exact wpAny_getItem_str_slice (l:=some (i,ui)) (u:=none) (st:=none) ⟨o,ho,hc,hd⟩ rfl (post_val_or_str ⟨Nat.le_trans (Txt.slice_le z _ _) hz,fin⟩)
  | int j uj=>exact wpAny_getItem_str_slice (l:=some (i,ui)) (u:=some (j,uj)) (st:=none) ⟨o,ho,hc,hd⟩ rfl (post_val_or_str ⟨Nat.le_trans (Txt.slice_le z _ _) hz,fin⟩)
theorem Zyi:CallR X (.builtin "isinstance") (fun xs H Q=>∃ x T t b,xs=[x,.ty T]∧TyOf X.K H x t∧PySem.W.kitOne X.K t (.type T)=some b∧Q (.bl b) H):=by
 intro pins s σ H xs us Q I r h
 obtain ⟨x,T,t,b,rfl,ty,e,q⟩:=h
 obtain ⟨u,w',rfl,r1,r2⟩:=vals2 r
 cases (show w'=Value.type T from r2)
 exact Zqg I r1 ty e fun tk=>⟨.bl b,H,I.tok _,rfl,q⟩
theorem Zua:CallR X (.builtin "isinstance") (fun xs H Q=>∃ x C t b,xs=[x,.ref C]∧TyOf X.K H x t∧PySem.W.kitOne X.K t (.ref C)=some b∧Q (.bl b) H):=by
 intro pins s σ H xs us Q I r h
 obtain ⟨x,C,t,b,rfl,ty,e,q⟩:=h
 obtain ⟨u,w',rfl,r1,r2⟩:=vals2 r
 cases (show w'=Value.ref C from r2)
 exact Zqg I r1 ty e fun tk=>⟨.bl b,H,I.tok _,rfl,q⟩
end
section
variable {X:Cx} {tg:Expr}
end
end L2
end
section
namespace L2
open PySem PySem.Spec PyProof.Rows
section
variable {X:Cx} {tg:Expr}
end
noncomputable def Its (x:Str):It:=⟨fun i _=>i<x.cps.size,fun i H v H'=>H'=H∧∃ c,x.cps[i]?=some c∧v = .str ⟨#[c]⟩,fun i _=>x.cps.size≤i⟩
section
variable {X:Cx} {tg:Expr}
theorem Zva {P:Program} {w:World} {K:PySem.W.Frag} {tg:Expr} (x:Str) (it:Addr) (n:String) (t:Tok) (W:∀ A':Around,A'.handled=none→Walks P w A' it [it] [it] x.cps.size (SignAt x) (fun i h=>h.IsStrIter it n x t i))
  (hn:["enumerate","zip","dict_itemiterator","dict_reverseitemiterator","odict_iterator","itertools.zip_longest","itertools.pairwise"].contains n=false)
  (hdone:∀ (A:Around) (i:Nat) (s:Shared) (Q:Option Value→Shared→Prop) (E:Value→Shared→Prop),A.handled=none→s.heap.IsStrIter it n x t i→x.cps.size≤i→(∀ h',(∀ b o,b≠it→s.heap.get? b=some o→h'.get? b=some o)→Q none {s with heap:=h'})→wpAny (model P w) A (pyNext (.ref it)) Q E s)
  (hself:∀ (A:Around) (i:Nat) (s:Shared) (Q:Value→Shared→Prop) (E:Value→Shared→Prop),s.heap.IsStrIter it n x t i→Q (.ref it) s→wpAny (model P w) A (pyIter (.ref it)) Q E s) :
  Turn P w K tg (Its x) [it] it (fun i h=>h.IsStrIter it n x t i) where
 mem:=by simp
 obj:=fun i h st b hb=>by
  have e:b=it:=by simpa using hb
  subst e
  obtain ⟨o,ho,hc,hd⟩:=st
  exact ⟨o,ho,fun v z=>by rw [hd] at z;cases z⟩
 keep:=fun i h h' st k=>by
  obtain ⟨o,ho,r⟩:=st
  exact ⟨o,k it (by simp) o ho,r⟩
 item:=by
  intro X hP hw hK hc i pins s σ H E I hf st hg
  subst hP hw hK
  obtain ⟨f0,f1,f2,f3,f4,f5⟩:=hf it (by simp)
  refine (W X.A (I.ok.hd hc)).item i s _ _ hg st fun v h' tk hv st' kk=>?_
  obtain ⟨c,u,hc',rfl⟩:=hv
  have I1:Inv X pins σ H {s with heap:=h',toks:=tk}:=I.turned (fun b o hb e=>kk b o (by simpa using hb) e) f0 f1 f3 f4 f5
  obtain ⟨o,ho,hcl,hd⟩:=id st'
  exact ⟨_,rfl,Xje (s:={s with heap:=h',toks:=tk}) (n:=n) ho hcl hd hn ⟨.str ⟨#[c]⟩,H,I1,⟨u,rfl⟩,⟨rfl,c,hc',rfl⟩,st',fun b hb=>(hf b hb).1⟩⟩
 done:=by
  intro X hP hw hK hc i pins s σ H E I hf st hg
  subst hP hw hK
  obtain ⟨f0,f1,f2,f3,f4,f5⟩:=hf it (by simp)
  exact hdone X.A i s _ _ (I.ok.hd hc) st hg fun h' eb=>⟨rfl,I.turned (t':=s.toks) (fun b o hb e=>eb b o hb e) f0 f1 f3 f4 f5⟩
 self:=fun A i s Q E st h=>hself A i s Q E st h
noncomputable def iStr (tl:TE):TI:=fun σ H R=>tl σ H fun x H1=>∃ y,x = .str y∧R (Its y) H1
theorem Xoh {l:Expr} {tl:TE} (hl:PE X l tl):PI X tg l (iStr tl):=by
 intro pins s σ H R I h
 refine thn (hl pins s σ H _ I h) fun v s1 ⟨x,H1,I1,r1,q1⟩=>?_
 obtain ⟨y,e,q⟩:=q1
 subst e
 obtain ⟨t,rfl⟩:=r1
 have fin:∀ (o:Obj) (tn:Nat→Heap→Prop),Turn X.prog X.w X.K tg (Its y) [s1.heap.objs.size] s1.heap.objs.size tn→tn 0 (s1.heap.push o)→PIE X pins σ tg R (.ref s1.heap.objs.size) {s1 with heap:=s1.heap.push o}:=fun o tn T h0=>by
  refine ⟨s1.heap.objs.size,[s1.heap.objs.size],tn,Its y,H1,rfl,I1.kept (t':=s1.toks) fun b o e=>Heap.get?_push_of_some _ e,T,h0,fun b hb=>?_,q⟩
  have e:=List.mem_singleton.mp hb
  subst e
  exact I1.fpOk (Nat.le_refl _) (I1.hok.fresh (Nat.le_refl _))
 cases ha:y.cps.all (· < 128)
 ·refine wpAny_pyIter_wide ha (fin _ _ (Zva y _ "str_iterator" t (fun A' hA=>Walks.strWide hA _ y t) (by decide) (fun A i s Q E hh st hi hQ=>?_) fun A i s Q E st hq=>wpAny_pyIter_striter_wide st hq) ⟨_,Heap.get?_push_size _ rfl,rfl,rfl⟩)
  exact wpAny_pyNext_wide_end hh st (by simpa using hi) fun h' he'=>hQ h' fun b o hb e=>he' b o hb e
 ·refine wpAny_pyIter_ascii ha (fin _ _ (Zva y _ "str_ascii_iterator" t (fun A' hA=>Walks.strAscii hA _ y t) (by decide) (fun A i s Q E hh st hi hQ=>?_) fun A i s Q E st hq=>wpAny_pyIter_striter_ascii st hq) ⟨_,Heap.get?_push_size _ rfl,rfl,rfl⟩)
  exact wpAny_pyNext_ascii_end hh st (by simpa using hi) fun h' he'=>hQ h' fun b o hb e=>he' b o hb e
end
noncomputable def compScopeOk (sc:Scope) (cs:List Str):Bool :=
 sc.kind == .function&&sc.names.all (fun y=>y.2 != .cell)&&sc.names.all (fun y=>y.2 != .local||sc.names.lookup y.1 == some .local) &&
  sc.names.all (fun y=>y.2 != .free||cs.contains y.1)&&cs.all (fun x=>sc.names.lookup x == some .free)
noncomputable def CapsOk (X:Cx):List (Nat×Str)→Prop
 | []=>True
 | (j,x)::r=>X.N[j]?=some x∧(X.env.kindOf x=some .cell∨X.env.kindOf x=some .free)∧CapsOk X r
theorem CapsOk.at {X:Cx}:∀ {cs:List (Nat×Str)},CapsOk X cs→∀ p∈cs,X.N[p.1]?=some p.2∧(X.env.kindOf p.2=some .cell∨X.env.kindOf p.2=some .free)
 | [],_,_,h=>nomatch h
 | (j,x)::r,⟨h1,h2,h3⟩,p,h=>by
  rcases List.mem_cons.mp h with e | e
  ·subst e;exact ⟨h1,h2⟩
  ·exact CapsOk.at h3 p e
noncomputable def cxComp (X:Cx) (scope:Scope) (cl:List (Str×Addr)) (C:Addr) (N:List Str) (s2:Shared) (H2:Hp) (fp:List Addr):Cx where
 prog:=X.prog
 w:=X.w
 K:=X.K
 mg:=X.mg
 base:=X.base
 A:=X.A
 N:=N
 s₀:=s2
 H₀:=H2
 env:=compEnvC scope cl C X.env
 outer:=X.stack
 stack:=X.stack
 ex:=fp
 calm:=X.calm
 fn:=fun _=>false
 pn:=[]
 xe:=fun _ _=>False
theorem Zdb {env:Env}:∀ (names:List (Str×NameKind)),(∀ y∈names,y.2 = .free→∃ c,env.cells.lookup y.1=some c)→
  ∀ acc:List (Str×Addr),(∀ x c,acc.lookup x=some c→env.cells.lookup x=some c)→∃ cl,
  (forIn names acc fun (x:Str×NameKind) r=>do
   if x.2 == .free then pure (ForInStep.yield ((x.1,← cellOf env x.1)::r)) else pure (ForInStep.yield r):Sem (List (Str×Addr)))=pure cl∧
  (∀ x c,cl.lookup x=some c→env.cells.lookup x=some c)∧(∀ y∈names,y.2 = .free→∃ c,cl.lookup y.1=some c)∧∀ x c,acc.lookup x=some c→∃ c',cl.lookup x=some c'
 | [],_,acc,ha=>⟨acc,rfl,ha,(fun _ h=>nomatch h),fun _ c h=>⟨c,h⟩⟩
 | (n,k)::r,hn,acc,ha=>by
  by_cases hk:k = .free
  ·subst hk
   obtain ⟨c,hc⟩:=hn _ List.mem_cons_self rfl
   have ha':∀ x c',((n,c)::acc).lookup x=some c'→env.cells.lookup x=some c':=fun x c' e=>by
    rw [List.lookup_cons] at e
    by_cases hx:x=n
    ·subst hx
     rw [beq_self_eq_true] at e
     cases e
     exact hc
    ·rw [beq_false_of_ne hx] at e
     exact ha x c' e
   obtain ⟨cl,e,h1,h2,h3⟩:=Zdb r (fun y hy=>hn y (List.mem_cons_of_mem _ hy)) ((n,c)::acc) ha'
   refine ⟨cl,?_,h1,fun y hy hf=>?_,fun x c' hx=>?_⟩
   ·rw [List.forIn_cons]
    simp only [cellOf,hc,beq_self_eq_true,if_true]
    exact e
   ·rcases List.mem_cons.mp hy with e' | e'
    ·subst e'
     exact h3 n c (by rw [List.lookup_cons,beq_self_eq_true])
    ·exact h2 y e' hf
   ·by_cases hxn:x=n
    ·subst hxn
     exact h3 x c (by rw [List.lookup_cons,beq_self_eq_true])
    ·exact h3 x c' (by rw [List.lookup_cons,beq_false_of_ne hxn];exact hx)
  ·obtain ⟨cl,e,h1,h2,h3⟩:=Zdb r (fun y hy=>hn y (List.mem_cons_of_mem _ hy)) acc ha
   refine ⟨cl,?_,h1,fun y hy hf=>?_,h3⟩
   ·rw [List.forIn_cons]
    have hb:(k == NameKind.free)=false:=by simpa using hk
    simp only [hb,Bool.false_eq_true,if_false]
    exact e
   ·rcases List.mem_cons.mp hy with e' | e'
    ·subst e'
     exact absurd hf hk
    ·exact h2 y e' hf
end L2
end
section
namespace L2
open PySem PySem.Spec PyProof.Rows
noncomputable def CompGo (J:It) (g:TG) (tc:TT) (te:TE) (Q:VK) (σ0:St) (H1:Hp) (D:Addr):Prop :=
 ∃ W:Nat→Nat→St→Hp→Prop,(∃ m,W 0 m σ0 (upd H1 D (.lst [])))∧∀ i m σ1 H2,W i m σ1 H2→
  (J.stop i H2∧Q (.ref D) H2)∨
  (J.go i H2∧∀ x H3,J.yld i H2 x H3→g x σ1 H3 fun σ2 H4=>tc σ2 H4 fun b H5 =>
   if b=true then te σ2 H5 fun y H6=>∃ xs m',H6 D=some (.lst xs)∧xs.length<sizeLine∧m'<m∧W (i+1) m' σ2 (upd H6 D (.lst (xs++[y])))
   else ∃ m',m'<m∧W (i+1) m' σ2 H5)
noncomputable def tComp (wi:TI) (g:TG) (tc:TT) (te:TE) (σ0:St→St):TE:=fun σ H Q=>wi σ H fun J H1=>∀ D,H1 D=none→CompGo J g tc te Q (σ0 σ) H1 D
noncomputable def tYes:TT:=fun _ H Q=>Q true H
noncomputable def PTs (X:Cx) (ifs:List Expr) (t:TT):Prop :=
 ∀ (pins:List (Addr×Obj)) (s:Shared) (σ:St) (H:Hp) (Q:Bool→Hp→Prop),Inv X pins σ H s→t σ H Q→
  wpAny (model X.prog X.w) X.A (forIn ifs true fun c r=>if r=true then do let ok ← isTrue c X.env (eval c X.env);pure (ForInStep.yield ok) else pure (ForInStep.yield r)) (TP X pins σ Q) X.xe s
theorem Yx {X:Cx}:PTs X [] tYes:=fun _ _ _ H _ I h=>wpAny_tests_nil ⟨H,I,h⟩
theorem Xlg {X:Cx} {c:Expr} {t:TT} (h:PT X c t):PTs X [c] t:=fun pins s σ H Q I q=>wpAny_tests_one (h pins s σ H Q I q)
section
variable {prog:Program} {w:World} {A:Around} {E:Value→Shared→Prop} {R:Result→Shared→Prop} {s:Shared}
theorem Ztj {elt target iter:Expr} {ifs:List Expr} {scope:Scope} {pos:Pos} {it acc:Value} {env:Env} (I:Nat→Shared→Prop)
  (turn:∀ n s,I n s→wpAny (model prog w) A (pyNext it) (fun r s₁=>match r with
   | none=>R (.ok .next) s₁
   | some v=>wpAny (model prog w) A (letOwnedTupleGo target it v) (fun _ s₁'=>wpAny (model prog w) A (assign target env v) (fun _ s₂ =>
     wpAny (model prog w) A (forIn ifs true fun c r=>if r=true then do let ok ← isTrue c env (eval c env);pure (ForInStep.yield ok) else pure (ForInStep.yield r)) (fun ok s₃ =>
      if ok=true then wpAny (model prog w) A (eval elt env) (fun x s₄ =>
       wpAny (model prog w) A (call (.builtin "list.append") [acc,x]) (fun _ s₅=>∃ m,m<n∧I m s₅) (notedBy (model prog w) A env fun e s'=>R (.error e) s') s₄) (notedBy (model prog w) A env fun e s'=>R (.error e) s') s₃
      else ∃ m,m<n∧I m s₃) (notedBy (model prog w) A env fun e s'=>R (.error e) s') s₂) (notedBy (model prog w) A env fun e s'=>R (.error e) s') s₁') (notedBy (model prog w) A env fun e s'=>R (.error e) s') s₁) (notedBy (model prog w) A env fun e s'=>R (.error e) s') s)
  (n:Nat) (h:I n s) :
  codeAny (model prog w) A (.compLoop (.ListComp elt [⟨target,iter,ifs,0⟩] scope pos) 0 it acc env) R s:=by
 refine codeAny_loop rfl I (fun n s hI=>?_) n h
 show wpAny _ A ((compTurn (.ListComp elt [⟨target,iter,ifs,0⟩] scope pos) 0 it acc env).onRaise (fun x=>do noteFrame x env;theTreesLotGoes x)) _ _ s
 refine wpAny_noted ?_
 rw [compTurn_list]
 refine wpAny_bind (wpAny_standAt (wpAny_bind (wpAny_mono (turn n s hI) (fun r s₁ h₁=>?_) fun _ _ h'=>h')))
 cases r with
 | none=>exact wpAny_pure h₁
 | some v =>
  refine wpAny_bind (wpAny_mono h₁ (fun _ s₁' h₁'=>?_) fun _ _ h'=>h')
  refine wpAny_bind (wpAny_mono h₁' (fun _ s₂ h₂=>wpAny_bind (wpAny_mono h₂ (fun ok s₃ h₃=>?_) fun _ _ h'=>h')) fun _ _ h'=>h')
  cases ok with
  | false=>exact wpAny_pure ⟨rfl,h₃⟩
  | true =>
   exact wpAny_bind (wpAny_bind (wpAny_mono h₃ (fun x s₄ h₄=>wpAny_bind (wpAny_mono h₄ (fun _ s₅ h₅=>wpAny_pure (wpAny_pure ⟨rfl,h₅⟩)) fun _ _ h'=>h')) fun _ _ h'=>h'))
end
section
variable {X:Cx} {elt target iter:Expr} {ifs:List Expr} {scope:Scope} {pos p:Pos} {caps:List (Nat×Str)} {tgs:List Str} {wi:TI} {g:TG} {tc:TT} {te:TE}
noncomputable def compSt (tgs:List Str) (caps:List (Nat×Str)):St→St:=fun σ=>List.replicate tgs.length none++caps.map fun p=>(σ[p.1]?).join
theorem Zdj {env:Env}:∀ {names:List (Str×NameKind)} {x:Str},names.lookup x=some .free→
  ((names.map fun (n,k)=>if (k == NameKind.free&&env.scope.kind == .function&&env.kindOf n == some .cell) then (n,NameKind.cell) else (n,k)).lookup x=some .cell∨
   (names.map fun (n,k)=>if (k == NameKind.free&&env.scope.kind == .function&&env.kindOf n == some .cell) then (n,NameKind.cell) else (n,k)).lookup x=some .free)
 | [],_,h=>by cases h
 | (n,k)::r,x,h=>by
  rw [List.lookup_cons] at h
  rw [List.map_cons]
  by_cases hx:x=n
  ·subst hx
   rw [beq_self_eq_true] at h
   cases h
   dsimp only
   split
   ·exact .inl (by rw [List.lookup_cons,beq_self_eq_true])
   ·exact .inr (by rw [List.lookup_cons,beq_self_eq_true])
  ·rw [beq_false_of_ne hx] at h
   have ih:=Zdj (env:=env) h
   dsimp only
   split<;>(rw [List.lookup_cons,beq_false_of_ne hx];exact ih)
theorem Zea {env:Env}:∀ {names:List (Str×NameKind)} {x:Str},((names.map fun (n,k)=>if (k == NameKind.free&&env.scope.kind == .function&&env.kindOf n == some .cell) then (n,NameKind.cell) else (n,k)).lookup x=some .cell∨
   (names.map fun (n,k)=>if (k == NameKind.free&&env.scope.kind == .function&&env.kindOf n == some .cell) then (n,NameKind.cell) else (n,k)).lookup x=some .free)→(∀ y∈names,y.2≠.cell)→names.lookup x=some .free
 | [],_,h,_=>by rcases h with h | h<;>cases h
 | (n,k)::r,x,h,hn=>by
  rw [List.lookup_cons]
  by_cases hx:x=n
  ·subst hx
   rw [beq_self_eq_true]
   have hk:=hn _ List.mem_cons_self
   rw [List.map_cons] at h
   dsimp only at h
   split at h
   ·rename_i c
    simp only [Bool.and_eq_true,beq_iff_eq] at c
    exact congrArg some c.1.1
   ·rw [List.lookup_cons,beq_self_eq_true] at h
    rcases h with h | h
    ·cases h;exact absurd rfl hk
    ·exact h
  ·rw [beq_false_of_ne hx]
   refine Zea (env:=env) ?_ fun y hy=>hn y (List.mem_cons_of_mem _ hy)
   rw [List.map_cons] at h
   dsimp only at h
   split at h<;>(rw [List.lookup_cons,beq_false_of_ne hx] at h;exact h)
theorem Qa:∀ {names:List (Str×NameKind)} {x:Str} {k:NameKind},names.lookup x=some k→(x,k)∈names
 | [],_,_,h=>by cases h
 | (n,k')::r,x,k,h=>by
  rw [List.lookup_cons] at h
  by_cases hx:x=n
  ·subst hx
   rw [beq_self_eq_true] at h
   cases h
   exact List.mem_cons_self
  ·rw [beq_false_of_ne hx] at h
   exact List.mem_cons_of_mem _ (Qa h)
set_option maxHeartbeats 1000000
theorem Zrd {use:Option (Value→Sem Unit)} {Qf:Value→Shared→Prop} {pins:List (Addr×Obj)} {σ:St} {H:Hp} {s:Shared} {Q:VK}
  (hc:X.calm=true) (hsc:compScopeOk scope (caps.map (·.2))=true) (hcap:CapsOk X caps) (hi:PI X target iter wi)
  (hg:∀ cl C s2 H2 fp,PG (cxComp X scope cl C (tgs++caps.map (·.2)) s2 H2 fp) target g)
  (ht:∀ cl C s2 H2 fp,PTs (cxComp X scope cl C (tgs++caps.map (·.2)) s2 H2 fp) ifs tc)
  (he:∀ cl C s2 H2 fp,PE (cxComp X scope cl C (tgs++caps.map (·.2)) s2 H2 fp) elt te)
  (I:Inv X pins σ H s) (h:tComp wi g tc te (compSt tgs caps) σ H Q)
  (fin:∀ D C H' s',Inv X pins σ H' s'→Q (.ref D) H'→H' C=none→C≠X.env.locals→X.s₀.heap.objs.size≤C→(∀ x c,X.env.cells.lookup x=some c→c≠C)→(∀ p∈X.pn++pins,p.1≠C)→(∃ m,s'.heap.Ns C m)→
   compPost (model X.prog X.w) X.A X.xe use Qf (.ref D) C (.ok .next) s')
  (hs:∀ x,foldedSetIterable iter X.env x=pure x:=by intro _;rfl) :
  wpAny (model X.prog X.w) X.A (comprehension (.ListComp elt [⟨target,iter,ifs,0⟩] scope pos) scope X.env p (newList []) false (eval iter X.env) use) Qf X.xe s:=by
 simp only [compScopeOk,Bool.and_eq_true,List.all_eq_true,beq_iff_eq,bne_iff_ne,Bool.or_eq_true,List.contains_iff_mem] at hsc
 obtain ⟨⟨⟨⟨k1,k2⟩,k3⟩,k4⟩,k5⟩:=hsc
 have hnames:∀ y∈scope.names,y.2 = .local→scope.names.lookup y.1=some .local:=fun y hy hl=>(k3 y hy).resolve_left fun z=>z hl
 have capAt:=hcap.at
 have hfr:∀ y∈scope.names,y.2 = .free→∃ c,X.env.cells.lookup y.1=some c:=fun y hy hf=>by
  have hm:=(k4 y hy).resolve_left fun z=>z hf
  obtain ⟨q,hq,e⟩:=List.mem_map.mp hm
  have:=(capAt q hq).2
  rw [e] at this
  exact I.ok.has _ this
 obtain ⟨cl,hcl,hin,hall,_⟩:=Zdb scope.names hfr [] (fun x c e=>by cases e)
 have hclos:closureFor scope X.env=pure cl:=by
  refine (show closureFor scope X.env=(_ >>= pure) from rfl).trans ((congrArg (· >>= pure) hcl).trans ?_)
  rfl
 refine wpAny_comprehension_free (use:=use) rfl hs hclos k1 hnames (thn (hi pins s σ H _ I h) fun v s1 h1=>thn h1 fun itv s2 h2=>?_)
 obtain ⟨it,fp,tn,J,H2,e,I2,T,st2,f2,hW⟩:=h2
 subst e
 have fD:H2 s2.heap.objs.size=none:=I2.fresh
 obtain ⟨W,⟨m0,w0⟩,turn⟩:=hW _ fD
 refine wpAny_newObj_type (wpAny_newFunctionEnv k2 (by intro y hy;simp at hy) (fun h₁ hns₁ hsb₁=>?_) k1)
 dsimp only at hns₁ hsb₁ ⊢
 generalize hH3:s2.heap.push {cls := .type "list",dict:=none,data := .seq ([]:List Value).toArray}=H3 at hns₁ hsb₁ ⊢
 have hC:H3.objs.size=s2.heap.objs.size+1:=by rw [← hH3,Heap.size_push]
 have hDC:s2.heap.objs.size≠H3.objs.size:=by rw [hC];exact Nat.ne_of_lt (Nat.lt_succ_self _)
 have hCle:s2.heap.objs.size≤H3.objs.size:=by rw [hC];exact Nat.le_succ _
 have below:∀ b,b<s2.heap.objs.size→b≠H3.objs.size:=fun b hb=>by rw [hC];exact Nat.ne_of_lt (Nat.lt_succ_of_lt hb)
 have old:∀ b o,s2.heap.get? b=some o→h₁.get? b=some o:=fun b o e=>hsb₁.extBut b o (below b (Heap.lt_size e)) (Heap.get?_push_of_some _ (hH3 ▸ Heap.get?_push_of_some _ e))
 have hacc:h₁.get? s2.heap.objs.size=some {cls := .type "list",dict:=none,data := .seq ([]:List Value).toArray}:=hsb₁.extBut _ _ hDC (Heap.get?_push_of_some _ (hH3 ▸ Heap.get?_push_size _ rfl))
 have fC:H2 H3.objs.size=none:=I2.hok.fresh hCle
 have fpl:∀ b∈fp,b<s2.heap.objs.size:=fun b hb=>by
  obtain ⟨o,ho,_⟩:=T.obj _ _ st2 b hb
  exact Heap.lt_size ho
 let X':=cxComp X scope cl H3.objs.size (tgs++caps.map (·.2)) s2 H2 fp
 have ok':X'.Ok:=by
  refine ⟨I2.ok.mod,k1,I2.ok.glob,I2.ok.blt,hCle,fun x y c hx hy=>I2.ok.inj x y c (hin _ _ hx) (hin _ _ hy),fun x hx=>?_,(fun x c hf=>nomatch hf),I2.ok.hd,I2.ok.frames,.inl rfl,fun b hb=>⟨below b (fpl b hb),fun x c hx=>(f2 b hb).2.2.2.2.1 x c (hin _ _ hx)⟩,I2.bs,
   Nat.le_trans I2.ok.bsz I2.sz,fun b o e hb=>?_,fun b hb z=>?_,I2.stack,I2.stkFree⟩
  ·exact hall (x,.free) (Qa (Zea hx k2)) rfl
  ·rcases (f2 b hb).2.2.2.1 with z | z
   ·exact I2.ok.noex b o e z
   ·exact absurd (Nat.lt_of_lt_of_le (Heap.lt_size e) I2.ok.bsz) (Nat.not_lt.mpr z)
  ·rcases List.mem_cons.mp (I2.stkSub b z) with q | q
   ·exact (f2 b hb).2.1 q
   ·exact (f2 b hb).2.2.1 q
 have un4:Un (frs X.stack) fp H2 (upd H2 s2.heap.objs.size (.lst [])) s2.heap h₁:=Un.laid old (Nat.le_refl _) fD
 have hok4:HOk X.prog X.w (upd H2 s2.heap.objs.size (.lst [])) h₁:=I2.hok.laid old (Nat.le_refl _) ⟨Nat.zero_le _,[],0,.nil,hacc⟩
 have I4:∀ tk,Inv X' [] (compSt tgs caps σ) (upd H2 s2.heap.objs.size (.lst [])) {s2 with heap:=h₁,toks:=tk}:=fun tk=>by
  refine ⟨ok',rfl,I2.bare,un4,⟨_,hns₁,fun i x v e1 e2 e3=>?_⟩,fun x c hx=>?_,?_,fun x c hx=>?_,fun q hq=>?_,hok4,?_⟩
  ·
   obtain ⟨m2,_,hl2⟩:=I2.loc
   have hlt:tgs.length≤i:=by
    rcases Nat.lt_or_ge i tgs.length with z | z
    ·have:(compSt tgs caps σ)[i]?=some none:=by
      unfold compSt
      rw [List.getElem?_append_left (by simpa using z),List.getElem?_replicate,if_pos z]
     rw [this] at e2
     cases e2
    ·exact z
   have e1':(tgs++caps.map (·.2))[i]?=some x:=e1
   rw [List.getElem?_append_right hlt,List.getElem?_map] at e1'
   have e2':(caps.map fun p=>(σ[p.1]?).join)[i - tgs.length]?=some (some v):=by
    have:(compSt tgs caps σ)[i]?=(caps.map fun p=>(σ[p.1]?).join)[i - tgs.length]?:=by
     unfold compSt
     rw [List.getElem?_append_right (by simpa using hlt),List.length_replicate]
    rw [← this]
    exact e2
   rw [List.getElem?_map] at e2'
   cases hq:caps[i - tgs.length]? with
   | none=>rw [hq] at e1';cases e1'
   | some q =>
    rw [hq] at e1' e2'
    obtain rfl:q.2=x:=Option.some.inj e1'
    have e2'':(σ[q.1]?).join=some v:=Option.some.inj e2'
    have hσ:σ[q.1]?=some (some v):=by
     cases z:σ[q.1]? with
     | none=>rw [z] at e2'';cases e2''
     | some y=>rw [z] at e2'';exact congrArg some e2''
    have hqm:q∈caps:=List.mem_of_getElem? hq
    obtain ⟨n1,n2⟩:=capAt q hqm
    have hvis:Vis X.env.scope q.2:=by
     rcases n2 with z | z
     ·exact .inr (.inl z)
     ·exact .inr (.inr z)
    obtain ⟨u,ru,lk⟩:=hl2 q.1 q.2 v n1 hσ hvis
    have hfree:scope.names.lookup q.2=some .free:=k5 q.2 (List.mem_map_of_mem hqm)
    refine ⟨u,ru,.inr ⟨Zdj hfree,?_⟩⟩
    rcases lk with ⟨z,_⟩ | ⟨_,c,hcc,oc,hoc,hocd⟩
    ·rcases n2 with y | y<;>(rw [y] at z;cases z)
    ·obtain ⟨c',hc'⟩:=hall (q.2,.free) (Qa hfree) rfl
     have:=hin _ _ hc'
     rw [hcc] at this
     cases this
     exact ⟨c,hc',oc,old _ _ hoc,hocd⟩
  ·obtain ⟨v,o,ho,hd⟩:=I2.cell x c (hin _ _ hx)
   exact ⟨v,o,old _ _ ho,hd⟩
  ·show upd H2 s2.heap.objs.size (.lst []) H3.objs.size=none
   rw [Zn (Ne.symm hDC)]
   exact fC
  ·have hcf:=I2.freeC x c (hin _ _ hx)
   obtain ⟨v,o,ho,hd⟩:=I2.cell x c (hin _ _ hx)
   rw [Zn (Nat.ne_of_lt (Heap.lt_size ho))]
   exact hcf
  ·have:q∈([]:List (Addr×Obj)):=hq
   cases this
  ·show (compSt tgs caps σ).length=(tgs++caps.map (·.2)).length
   simp [compSt]
 have stat:∀ {pins':List (Addr×Obj)} {H':Hp},(∀ b∈fp,H' b=none)→(∀ q∈pins',q.1∉fp)→∀ b∈fp,FpOk X' pins' H' b:=fun hn hp b hb =>
  ⟨hn b hb,below b (fpl b hb),fun z=>by
   rcases List.mem_cons.mp (I2.stkSub b z) with q | q
   ·exact (f2 b hb).2.1 q
   ·exact (f2 b hb).2.2.1 q,.inl hb,fun x c hx=>(f2 b hb).2.2.2.2.1 x c (hin _ _ hx),fun q hq z=>hp q hq (z ▸ hb)⟩
 have noPin:∀ q∈([]:List (Addr×Obj)),q.1∉fp:=fun _ z=>nomatch z
 have tn0:tn 0 h₁:=T.keep _ _ _ st2 fun b hb o e=>old b o e
 have fr0:∀ b∈fp,(upd H2 s2.heap.objs.size (.lst [])) b=none:=fun b hb=>by
  rw [Zn (Nat.ne_of_lt (fpl b hb))]
  exact (f2 b hb).1
 have loop:∀ s₃:Shared,s₃={s2 with heap:=h₁,toks:=s2.toks+([]:List (Str×Value)).length}→
   codeAny (model X.prog X.w) X.A (.compLoop (.ListComp elt [⟨target,iter,ifs,0⟩] scope pos) 0 (.ref it) (.ref s2.heap.objs.size) (compEnvC scope cl H3.objs.size X.env))
    (compPost (model X.prog X.w) X.A X.xe use Qf (.ref s2.heap.objs.size) H3.objs.size) s₃:=by
  rintro s₃ rfl
  refine Ztj (fun n s'=>∃ i σ' H',Inv X' [] σ' H' s'∧tn i s'.heap∧(∀ b∈fp,H' b=none)∧W i n σ' H') ?_ m0 ⟨0,_,_,I4 _,tn0,fr0,w0⟩
  rintro n s3 ⟨i,σ3,H3',I3,st3,fr3,w3⟩
  rcases turn i n σ3 H3' w3 with ⟨stop,qn⟩ | ⟨go,step⟩
  ·refine thn (T.done X' rfl rfl rfl hc i [] s3 σ3 H3' _ I3 (stat fr3 noPin) st3 stop) fun r s4 ⟨hr,I4'⟩=>?_
   subst hr
   have un:=I4'.base
   refine fin _ _ H3' s4 (I2.call' I4'.os un I4'.hok I4'.bare fun b hb=>?_) qn I4'.free ?_ (Nat.le_trans I2.sz hCle) ?_ ?_ ?_
   ·exact ⟨(f2 b hb).2.2.2.1,(f2 b hb).2.1,(f2 b hb).2.2.2.2.1,(f2 b hb).2.2.2.2.2⟩
   ·exact Ne.symm (below _ I2.lt)
   ·intro x c hx
    obtain ⟨v,o,ho,hd⟩:=I2.cell x c hx
    exact below c (Heap.lt_size ho)
   ·intro q hq
    obtain ⟨e,_⟩:=I2.pin q hq
    exact below _ (Heap.lt_size e)
   ·obtain ⟨m,hm,_⟩:=I4'.loc
    exact ⟨m,hm⟩
  ·refine thn (T.item X' rfl rfl rfl hc i [] s3 σ3 H3' _ I3 (stat fr3 noPin) st3 go) fun r s4 ⟨u,hr,h4⟩=>?_
   subst hr
   refine thn h4 fun _ s5 ⟨x,H5,I5,r5,y5,st5,fr5⟩=>?_
   have I5':=I5.pinned (stat fr5 noPin) (T.obj _ _ st5)
   refine wpAny_mono (hg _ _ _ _ _ _ s5 σ3 H5 x u _ I5' r5 (step x H5 y5)) (fun _ s6 ⟨σ6,H6,I6,q6⟩=>?_) fun _ _ z=>z.elim
   have again:∀ {σ7:St} {H7:Hp} {s7:Shared} {m':Nat},Inv X' ([]++pinsAt fp s5.heap) σ7 H7 s7→m'<n→W (i+1) m' σ7 H7→∃ m,m<n∧∃ i σ' H',Inv X' [] σ' H' s7∧tn i s7.heap∧(∀ b∈fp,H' b=none)∧W i m σ' H':=fun {σ7 H7 s7 m'} I7 hm w7=>by
    refine ⟨m',hm,i+1,σ7,H7,I7.unpinned,T.keep _ _ _ st5 fun b hb o e=>(I7.pin (b,o) (List.mem_append_right _ (List.mem_append_right _ (Qz hb e)))).1,fun b hb=>?_,w7⟩
    obtain ⟨o,e,d⟩:=T.obj _ _ st5 b hb
    exact (I7.pin (b,o) (List.mem_append_right _ (List.mem_append_right _ (Qz hb e)))).2.1
   refine wpAny_mono (ht _ _ _ _ _ _ s6 σ6 H6 _ I6 q6) (fun ok s7 ⟨H7,I7,q7⟩=>?_) fun _ _ z=>z.elim
   cases ok with
   | false =>
    obtain ⟨m',hm,w7⟩:=q7
    exact again I7 hm w7
   | true =>
    refine wpAny_mono (he _ _ _ _ _ _ s7 σ6 H7 _ I7 q7) (fun yv s8 ⟨y,H8,I8,r8,q8⟩=>?_) fun _ _ z=>z.elim
    obtain ⟨xs,m',hD,hz,hm,w8⟩:=q8
    refine wpAny_mono (Zce (X:=X') _ s8 σ6 H8 (.ref s2.heap.objs.size) [y] (.ref s2.heap.objs.size) [yv] (fun _ H9=>W (i+1) m' σ6 H9) I8 rfl (.cons r8 .nil) ⟨_,xs,y,rfl,rfl,hD,hz,w8⟩) (fun _ s9 ⟨_,H9,I9,_,q9⟩=>?_) fun _ _ z=>z.elim
    exact again I9 hm q9
 exact codeAny_compStart_list (loop _ rfl) (T.self _ 0 _ _ _ tn0 (loop _ rfl))
noncomputable abbrev BK (α:Type):=List (Str×Addr)→Addr→Shared→Hp→List Addr→α
theorem Jb {g:BK TG} {tc:BK TT} {te:BK TE} (tgs:List Str) (caps:List (Nat×Str)) (hc:X.calm=true) (hsc:compScopeOk scope (caps.map (·.2))=true) (hcap:CapsOk X caps) (hi:PI X target iter wi)
  (hg:∀ cl C s2 H2 fp,PG (cxComp X scope cl C (tgs++caps.map (·.2)) s2 H2 fp) target (g cl C s2 H2 fp))
  (ht:∀ cl C s2 H2 fp,PTs (cxComp X scope cl C (tgs++caps.map (·.2)) s2 H2 fp) ifs (tc cl C s2 H2 fp))
  (he:∀ cl C s2 H2 fp,PE (cxComp X scope cl C (tgs++caps.map (·.2)) s2 H2 fp) elt (te cl C s2 H2 fp))
  (eg:∀ cl C s2 H2 fp,g cl C s2 H2 fp=g [] 0 X.s₀ X.H₀ []:=by intros;rfl) (et:∀ cl C s2 H2 fp,tc cl C s2 H2 fp=tc [] 0 X.s₀ X.H₀ []:=by intros;rfl) (ee:∀ cl C s2 H2 fp,te cl C s2 H2 fp=te [] 0 X.s₀ X.H₀ []:=by intros;rfl)
  (hs:∀ x,foldedSetIterable iter X.env x=pure x:=by intro _;rfl) :
  PE X (.ListComp elt [⟨target,iter,ifs,0⟩] scope pos) (tComp wi (g [] 0 X.s₀ X.H₀ []) (tc [] 0 X.s₀ X.H₀ []) (te [] 0 X.s₀ X.H₀ []) (compSt tgs caps)):=by
 intro pins s σ H Q I h
 rw [eval_ListComp]
 refine Zrd (use:=none) hc hsc hcap hi (fun cl C s2 H2 fp=>eg cl C s2 H2 fp ▸ hg cl C s2 H2 fp) (fun cl C s2 H2 fp=>et cl C s2 H2 fp ▸ ht cl C s2 H2 fp) (fun cl C s2 H2 fp=>ee cl C s2 H2 fp ▸ he cl C s2 H2 fp) I h (fun D C H' s' I' q hC h1 h2 h3 h4 ⟨m,hm⟩=>?_) hs
 refine ⟨m,hm,fun h' hsb=>?_⟩
 exact ⟨.ref D,H',I'.turned (t':=s'.toks) (fun b o hb e=>hsb.extBut b o hb e) hC h1 (.inr h2) h3 h4,rfl,q⟩
theorem Qy {g:BK TG} {tc:BK TT} {te:BK TE} {i:Nat} {y:Str} {py spos:Pos} (tgs:List Str) (caps:List (Nat×Str)) (hN:X.N.Nodup) (hiN:X.N[i]?=some y) (hy:X.env.scope.names.lookup y=some .local) (hc:X.calm=true) (hsc:compScopeOk scope (caps.map (·.2))=true) (hcap:CapsOk X caps) (hi:PI X target iter wi)
  (hg:∀ cl C s2 H2 fp,PG (cxComp X scope cl C (tgs++caps.map (·.2)) s2 H2 fp) target (g cl C s2 H2 fp))
  (ht:∀ cl C s2 H2 fp,PTs (cxComp X scope cl C (tgs++caps.map (·.2)) s2 H2 fp) ifs (tc cl C s2 H2 fp))
  (he:∀ cl C s2 H2 fp,PE (cxComp X scope cl C (tgs++caps.map (·.2)) s2 H2 fp) elt (te cl C s2 H2 fp))
  (eg:∀ cl C s2 H2 fp,g cl C s2 H2 fp=g [] 0 X.s₀ X.H₀ []:=by intros;rfl) (et:∀ cl C s2 H2 fp,tc cl C s2 H2 fp=tc [] 0 X.s₀ X.H₀ []:=by intros;rfl) (ee:∀ cl C s2 H2 fp,te cl C s2 H2 fp=te [] 0 X.s₀ X.H₀ []:=by intros;rfl)
  (hsw:swapsWith (.ListComp elt [⟨target,iter,ifs,0⟩] scope pos) (some (.Name y py)) spos.line X.env=pure true:=by rfl)
  (hs:∀ x,foldedSetIterable iter X.env x=pure x:=by intro _;rfl) :
  PS X (.Assign [.Name y py] (.ListComp elt [⟨target,iter,ifs,0⟩] scope pos) spos) (tAsg (tComp wi (g [] 0 X.s₀ X.H₀ []) (tc [] 0 X.s₀ X.H₀ []) (te [] 0 X.s₀ X.H₀ []) (compSt tgs caps)) (gName i)):=by
 intro pins s σ H D I h
 rw [exec_Assign_Name_used _ _ _ _ hsw]
 refine wpAny_bind (wpAny_standAt (wpAny_bind ?_))
 show wpAny _ X.A (do let _ ← comprehension (.ListComp elt [⟨target,iter,ifs,0⟩] scope pos) scope X.env _ (newList []) false (eval iter X.env) (some (assign (.Name y py) X.env))) _ _ s
 refine wpAny_bind (thn (Zrd (use:=some (assign (.Name y py) X.env)) (Qf:=fun _ s'=>SP X pins D .next s') hc hsc hcap hi (fun cl C s2 H2 fp=>eg cl C s2 H2 fp ▸ hg cl C s2 H2 fp) (fun cl C s2 H2 fp=>et cl C s2 H2 fp ▸ ht cl C s2 H2 fp) (fun cl C s2 H2 fp=>ee cl C s2 H2 fp ▸ he cl C s2 H2 fp) I h (fun Dd C H' s' I' q hC h1 h2 h3 h4 ⟨m,hm⟩=>?_) hs) fun _ s' hq=>wpAny_pure (wpAny_pure hq))
 show wpAny _ X.A (assign (.Name y py) X.env (.ref Dd)) _ _ _
 refine wpAny_assign_Name (Zpf I' hN hiN (.inl hy) (v := .ref Dd) rfl (fun s'' I'' ⟨a,hsb,ha⟩=>?_) (.inr hy))
 have hCa:C≠a:=by
  rcases ha with z | z
  ·rw [z];exact h1
  ·exact Ne.symm (h3 _ _ z)
 refine ⟨m,hm.sameBut hsb hCa,fun h' hsb'=>?_⟩
 exact ⟨_,H',I''.turned (t':=s''.toks) (fun b o hb e=>hsb'.extBut b o hb e) hC h1 (.inr h2) h3 h4,q⟩
end
end L2
end
section
namespace L2
open PySem PySem.Spec PyProof.Rows
noncomputable def OwnIn (H:Hp) (a:Addr):HO→Prop
 | .ins _ dx _=>H dx=some (.own a)
 | .frz _ u=>OwnIn H a u
 | _=>True
noncomputable def Closed (H:Hp):Prop:=∀ a o,H a=some o→OwnIn H a o
theorem OwnIn.of {P:Program} {w:World} {H:Hp} {h:Heap} {a:Addr} {o:HO} (x:ObjOk P w H h a o):OwnIn H a o:=by
 induction o with
 | ins C dx fs=>exact x.1
 | frz ob u ih=>exact ih x.2
 | _=>trivial
theorem HOk.closed {P:Program} {w:World} {H:Hp} {h:Heap} (x:HOk P w H h):Closed H:=fun a o e=>OwnIn.of (x a o e)
theorem OwnIn.mono {H H':Hp} {a:Addr} {o:HO} (s:∀ b u,H b=some u→H' b=some u) (x:OwnIn H a o):OwnIn H' a o:=by
 induction o with
 | ins C dx fs=>exact s _ _ x
 | frz ob u ih=>exact ih x
 | _=>trivial
theorem ObjOk.sub {P:Program} {w:World} {H H':Hp} {h:Heap} {a:Addr} {o:HO} (x:ObjOk P w H' h a o) (ow:OwnIn H a o):ObjOk P w H h a o:=by
 induction o with
 | ins C dx fs=>exact ⟨ow,x.2⟩
 | frz ob u ih=>exact ⟨x.1,ih x.2 ow⟩
 | lst _=>exact x
 | tup _=>exact x
 | dK _=>exact x
 | dT _=>exact x
 | set _ _=>exact x
 | own _=>exact x
 | xd _=>exact x
 | met _ _=>exact x
 | rng _ _=>exact x
 | tbl _=>exact x
 | ext _=>exact x
structure Sub (H H'' H':Hp):Prop where
 le:Same H'' H'
 ge:∀ b o,H b=some o→∃ u,H'' b=some u
 cl:Closed H→Closed H''
theorem Sub.refl {H H':Hp} (h:Same H H'):Sub H H H':=⟨h,fun _ o e=>⟨o,e⟩,id⟩
theorem Sub.all {H H':Hp} (h:∀ b o,H b=some o→∃ u,H' b=some u) (c:Closed H→Closed H'):Sub H H' H':=⟨Same.refl _,h,c⟩
theorem Zj {H:Hp} {p:Addr} {o:HO} (h:H p=none):Same H (upd H p o):=fun b u q=>by rw [Zn (Zt q h)];exact q
theorem Qp {H:Hp} {p:Addr} {o:HO} (c:Closed H) (h:H p=none) (ho:OwnIn (upd H p o) p o):Closed (upd H p o):=fun a u e=>by
 by_cases z:a=p
 ·subst z;rw [Zb] at e;cases e;exact ho
 ·rw [Zn z] at e
  exact (c a u e).mono (Zj h)
theorem Sub.new {H H':Hp} {p:Addr} {o:HO} (h:H p=none) (hs:Same H H') (e:H' p=some o) (ho:OwnIn (upd H p o) p o):Sub H (upd H p o) H' :=
 ⟨fun b u q=>by
  by_cases z:b=p
  ·subst z;rw [Zb] at q;cases q;exact e
  ·rw [Zn z] at q;exact hs b u q,fun b u q=>⟨u,Zj h b u q⟩,fun c=>Qp c h ho⟩
theorem Sub.ins {H H':Hp} {p C dx:Addr} {fs fs':List (Str×V)} (h:H p=some (.ins C dx fs)) (hs:∀ b u,b≠p→H b=some u→H' b=some u) (e:H' p=some (.ins C dx fs')):Sub H (upd H p (.ins C dx fs')) H' :=
 ⟨fun b u q=>by
  by_cases z:b=p
  ·subst z;rw [Zb] at q;cases q;exact e
  ·rw [Zn z] at q;exact hs b u z q,fun b u q=>by
  by_cases z:b=p
  ·subst z;exact ⟨_,Zb⟩
  ·exact ⟨u,by rw [Zn z];exact q⟩,fun c a u q=>by
  have hd:H dx=some (.own p):=c p _ h
  have nd:dx≠p:=fun z=>by rw [z,h] at hd;cases hd
  by_cases z:a=p
  ·subst z;rw [Zb] at q;cases q
   show upd H a _ dx=_
   rw [Zn nd];exact hd
  ·rw [Zn z] at q
   have x:=c a u q
   revert x
   generalize u=o
   clear q
   induction o with
   | ins C' d' f' =>
    intro (x:H d'=some (.own a))
    show upd H p _ d'=_
    rw [Zn (fun y=>by rw [y,h] at x;cases x)];exact x
   | frz ob u ih=>intro x;exact ih x
   | _=>intro _;trivial⟩
section
variable {X:Cx} {pins:List (Addr×Obj)} {σ:St} {H H' H'':Hp} {s s0:Shared}
theorem Un.sub {fs ex:List Addr} {H0:Hp} {h h1 h2:Heap} (u0:Un fs ex H0 H h h1) (u:Un fs ex H0 H' h h2) (d:Sub H H'' H'):Un fs ex H0 H'' h h2:=by
 refine ⟨u.keep,u.slot,fun b o e n hx=>?_,u.there,fun b xs e=>?_,fun b o v e=>?_,fun b ps e=>?_⟩
 ·cases q:H'' b with
  | none=>rfl
  | some v=>have:=d.le b v q;rw [u.free b o e n hx] at this;cases this
 ·obtain ⟨v,hv⟩:=d.ge b _ (u0.tups b xs e)
  have:=d.le b v hv;rw [u.tups b xs e] at this;cases this;exact hv
 ·obtain ⟨z,hv⟩:=d.ge b _ (u0.frzs b o v e)
  have:=d.le b z hv;rw [u.frzs b o v e] at this;cases this;exact hv
 ·obtain ⟨m0,e0⟩:=u0.tbls b ps e
  obtain ⟨z,hv⟩:=d.ge b _ e0
  obtain ⟨m,e1⟩:=u.tbls b ps e
  have:=d.le b z hv;rw [e1] at this;cases this;exact ⟨m,hv⟩
theorem HOk.sub {P:Program} {w:World} {h:Heap} (x:HOk P w H' h) (c:Closed H'') (d:Same H'' H'):HOk P w H'' h:=fun a o e=>(x a o (d a o e)).sub (c a o e)
theorem Inv.sub {σ0:St} (I0:Inv X pins σ0 H s0) (I:Inv X pins σ H' s) (d:Sub H H'' H'):Inv X pins σ H'' s :=
 ⟨I.ok,I.os,I.bare,I0.base.sub I.base d,I.loc,I.cell,d.le.free I.free,fun x c e=>d.le.free (I.freeC x c e),
  fun p hp=>let ⟨a,b,c⟩:=I.pin p hp;⟨a,d.le.free b,c⟩,I.hok.sub (d.cl I0.hok.closed) d.le,I.len⟩
end
theorem FnOk.keep {P:Program} {w:World} {K:PySem.W.Frag} {mg:Str→Option Value} {base:Heap} {k:Nat} {f:Addr} {fd:FuncData} {ps:List Str} {sp sp':Sp} (F:FnOk P w K mg base CX0 k f fd ps sp)
  (h:∀ vs H Q E,sp' vs H Q E→sp vs H (fun v H'=>∃ H'',Sub H H'' H'∧Q v H'') E):FnOk P w K mg base CX0 k f fd ps sp':=by
 refine ⟨fun vs H Q E q=>F.len vs H _ E (h vs H Q E q),fun A outer s H args us vs Q E hr e0 hb r q=>codeAny_mono (F.run A outer s H args us vs _ E hr e0 hb r (h vs H Q E q)) fun rs s' c=>?_⟩
 cases rs with
 | error e=>exact c
 | ok fl =>
  cases fl with
  | ret u =>
   obtain ⟨v,H',os,bare,un,hok,rv,H'',d,q'⟩:=c
   exact ⟨v,H'',os,bare,Un.sub (Un.refl (h:=s.heap)) un d,hok.sub (d.cl e0.hok.closed) d.le,rv,q'⟩
  | next=>exact c
  | brk=>exact c
  | cont=>exact c
theorem Fun.okK {P:Program} {w:World} {K:PySem.W.Frag} {mg:Str→Option Value} {base:Heap} {x qual:Str} {st:Stmt} {f:Addr} {fd:FuncData} {N ps:List Str} {k:Nat} {sp:Sp} (F:Fun K x qual st f fd) (S:FnScope N ps (defScope st)) (len:∀ vs H Q E,sp vs H Q E→vs.length=ps.length)
  (hbody:∀ (cdv:Value) (A:Around) (outer:List Env) (s:Shared) (H:Hp) (vs:List V) (Q:VK) (E:XK),Room k (A.deeper (envOfC qual (defScope st) s.heap.objs.size f cdv))→sp vs H Q E→
   ∃ t,PSs (cxOf CX0 P w K mg base N qual (defScope st) f cdv A outer s H E).nox (defBody st) t∧t {nx:=fun _ H'=>∃ H'',Sub H H'' H'∧Q .non H'',rt:=fun v H'=>∃ H'',Sub H H'' H'∧Q v H''} (start N vs) H):FnOk P w K mg base CX0 (k+1) f fd ps sp :=
 (F.ok (sp:=fun vs H Q E=>∃ Q',Q=(fun v H'=>∃ H'',Sub H H'' H'∧Q' v H'')∧sp vs H Q' E) S (fun vs H Q E ⟨Q',_,h⟩=>len vs H Q' E h) (fun cdv A outer s H vs Q E hr ⟨Q',e,h⟩=>by
  subst e
  exact hbody cdv A outer s H vs Q' E hr h)).keep fun vs H Q E h=>⟨Q,rfl,h⟩
end L2
end
section
namespace KM
noncomputable def bitsW (n:Nat):Nat→List Bool
 | 0=>[]
 | w+1=>n.testBit w::bitsW n w
noncomputable def blen (n:Nat):Nat:=if n=0 then 0 else n.log2+1
noncomputable def rd (a:Nat) (l:List Bool):Nat:=l.foldl (fun x b=>2*x+b.toNat) a
theorem Xrf (a:Nat):rd a []=a:=rfl
noncomputable def cend (e:Nat):List Bool:=if e=8 then [] else [false]
noncomputable def cnt (n:Nat):List Bool :=
 List.replicate (blen (blen (n+1)) - 1) true++(cend (blen (blen (n+1)))++(bitsW (blen (n+1)) (blen (blen (n+1)) - 1)++bitsW (n+1) (blen (n+1) - 1)))
end KM
namespace KM
structure CntAt (L:List Bool) (p n:Nat):Prop where
 ones:∀ j,j<blen (blen (n+1)) - 1→L.getD (p+j) false=true
 zero:blen (blen (n+1))<8→L.getD (p+(blen (blen (n+1)) - 1)) false=false
 size:(L.drop (p+(blen (blen (n+1)) - 1)+(cend (blen (blen (n+1)))).length)).take (blen (blen (n+1)) - 1)=bitsW (blen (n+1)) (blen (blen (n+1)) - 1)
 more:(L.drop (p+(blen (blen (n+1)) - 1)+(cend (blen (blen (n+1)))).length+(blen (blen (n+1)) - 1))).take (blen (n+1) - 1)=bitsW (n+1) (blen (n+1) - 1)
 fits:p+(cnt n).length≤L.length
end KM
end
section
namespace KM
open PySem L2
noncomputable def bc (b:Bool):Nat:=if b then 49 else 48
noncomputable def rowS (l:List Bool):Str:=⟨(l.map bc).toArray⟩
theorem Zsb {a b:Str} (h:a.cps.toList=b.cps.toList):a=b:=by
 obtain ⟨x⟩:=a;obtain ⟨y⟩:=b
 exact congrArg Str.mk (Array.ext' h)
theorem sliceIx (lo hi:Option Int) (n:Nat):Builtin.Str.strSliceIndices lo hi 1 n=(List.range (HT.sIx n n hi - HT.sIx n 0 lo)).map (HT.sIx n 0 lo+·):=by
 unfold Builtin.Str.strSliceIndices
 rw [← sliceRange_one]
 simp only [show ((1:Int) > 0)=True from eq_true (by decide),if_true]
 congr 1
 ·cases lo with
  | none=>rfl
  | some i =>
   simp only [HT.sIx]
   by_cases h:i<0
   ·simp only [h,if_true];omega
   ·simp only [h,if_false];omega
 ·cases hi with
  | none=>rfl
  | some i =>
   simp only [HT.sIx]
   by_cases h:i<0
   ·simp only [h,if_true];omega
   ·simp only [h,if_false];omega
theorem Jq (x:Str) (lo hi:Option Int):(Txt.slice x lo hi).cps.toList=(x.cps.toList.drop (HT.sIx x.length 0 lo)).take (HT.sIx x.length x.length hi - HT.sIx x.length 0 lo):=by
 have hl:x.cps.toList.length=x.length:=by simp [Str.length]
 have h1:=HT.sIx_le x.length x.length (Nat.le_refl _) hi
 have h2:=HT.sIx_le x.length 0 (Nat.zero_le _) lo
 unfold Txt.slice
 rw [sliceIx]
 split
 ·rename_i c
  simp only [List.length_map,List.length_range,Bool.and_eq_true,beq_iff_eq] at c
  have a0:HT.sIx x.length 0 lo=0∨x.length=0:=by omega
  rcases a0 with a0 | a0
  ·rw [a0,List.drop_zero,List.take_of_length_le (by omega)]
  ·have:x.cps.toList=[]:=List.length_eq_zero_iff.mp (by omega)
   rw [this];simp
 ·rw [pick_run]
end KM
namespace KM
open PySem L2
end KM
end
section
namespace L2
open PySem PySem.Spec PyProof.Rows
section
variable {X:Cx}
noncomputable def oAdd:=OpR.or (Xpg (X:=X)) Xab
theorem oSub:OpR X (binaryOp .Sub) (rI0 fun i j => .int (i - j)):=Xpb
noncomputable def oMul:=OpR.or (Xpe (X:=X)) Xaa
noncomputable def oLt:=OpR.or (Xrb (X:=X)) Xdj
noncomputable def iAll:=IxR.or (IxR.or (Xmi (X:=X)) Xqd) Xqe
noncomputable def slAll:=SlR.or (Xld (X:=X)) Xoa
theorem PI.or {tg it:Expr} {wi wi':TI} (h:PI X tg it wi) (h':PI X tg it wi'):PI X tg it (fun σ H R=>wi σ H R∨wi' σ H R):=fun pins s σ H R I q=>q.elim (h pins s σ H R I) (h' pins s σ H R I)
theorem piAll {tg l:Expr} {tl:TE} (hl:PE X l tl):PI X tg l (fun σ H R=>iList X.K tl σ H R∨iStr tl σ H R):=(Xli hl).or (Xoh hl)
end
noncomputable def FunAt (K:PySem.W.Frag) (mg:Str→Option Value) (x:Str) (st:Stmt) (ps:List Str) (f:Addr) (fd:FuncData):Prop:=Fun K x x st f fd∧Binds K fd ps []∧mg x=some (.ref f)
noncomputable def DefOk (P:Program) (w:World) (K:PySem.W.Frag) (mg:Str→Option Value) (base:Heap) (k:Nat) (x:Str) (ps:List Str) (sp:Sp):Prop :=
 ∃ f fd,FnOk P w K mg base CX0 k f fd ps sp∧Binds K fd ps []∧PySem.W.keepIn K (.ref f)=true∧mg x=some (.ref f)
noncomputable def MethOk (P:Program) (w:World) (K:PySem.W.Frag) (mg:Str→Option Value) (base:Heap) (k:Nat) (C:Addr) (m:Str) (ps:List Str) (sp:Sp):Prop :=
 ∃ f fd,FnOk P w K mg base CX0 k f fd ps sp∧Binds K fd ps []∧Meth K C m f
noncomputable def MakeOk (P:Program) (w:World) (K:PySem.W.Frag) (mg:Str→Option Value) (base:Heap) (k:Nat) (x:Str) (C:Addr) (ps:List Str) (sp:Sp):Prop :=
 ∃ f fd,Mk K C f∧FnOk P w K mg base CX0 k f fd ps sp∧Binds K fd ps []∧mg x=some (.ref C)
noncomputable def GlobV (mg:Str→Option Value) (x:Str) (v:V):Prop:=∃ u,mg x=some u∧RelV v u
section
variable {X:Cx} {k k':Nat} {x m:Str} {C:Addr} {ps:List Str} {sp:Sp} {e o:Expr} {es:List Expr} {t:TA} {ta:TE} {p pos apos:Pos} {v:V}
theorem Xc (h:GlobV X.mg x v) (hg:Gl X x:=by rfl) (hd:(x == ("__debug__":Str))=false:=by decide +kernel):PE X (.Name x p) (tC v):=by
 obtain ⟨u,h1,h2⟩:=h
 exact Xmb hg h1 h2 hd
theorem Zo (h:DefOk X.prog X.w X.K X.mg X.base k x ps sp) (hr:Room k' X.A) (ha:PA X (e::es) t) (hk:k≤k':=by decide) (hg:Gl X x:=by rfl) (hdb:(x == ("__debug__":Str))=false:=by decide +kernel)
  (he:starEach (e::es) X.env=(false,eval e X.env)::starEach es X.env:=by rfl) (hpl:(backTo pos (starEach es X.env)).any (·.1)=false:=by rfl):PE X (.Call (.Name x p) (e::es) [] pos) (tCall sp [] E0 t):=by
 obtain ⟨f,fd,F,hb,kp,hm⟩:=h
 exact Xmc F (hr.mono hk) hg hm kp hb .nil pass0 ha hdb he hpl
theorem Jx {pl:Sem Bool} (h:MethOk X.prog X.w X.K X.mg X.base k C m ps sp) (c:Cls X.K C) (hr:Room k' X.A) (he:PE X o ta) (ha:PA X (e::es) t) (hk:k≤k':=by decide)
  (hst:starEach (e::es) X.env=(false,eval e X.env)::starEach es X.env:=by rfl) (hpl:(backTo pos (starEach es X.env)).any (·.1)=false:=by rfl)
  (ht:eval (.Call (.Attribute o m apos) (e::es) [] pos) X.env=(do
   let ov ← eval o X.env
   standAt apos.atName
   let (f,first) ← holding [ov] (getMethod ov m pl)
   callWith pos f first (backTo pos (starEach (e::es) X.env)) (backToKw pos (keywordEach [] X.env))):=by rfl) :
  PE X (.Call (.Attribute o m apos) (e::es) [] pos) (tMeth C m sp [] E0 ta t):=by
 obtain ⟨f,fd,F,hb,hm⟩:=h
 exact Xlj he c hm F (hr.mono hk) hb .nil pass0 ha hst hpl ht
theorem Zqd {pl:Sem Bool} (h:MethOk X.prog X.w X.K X.mg X.base k C m ps sp) (c:Cls X.K C) (hr:Room k' X.A) (he:PE X o ta) (hk:k≤k':=by decide)
  (ht:eval (.Call (.Attribute o m apos) [] [] pos) X.env=(do
   let ov ← eval o X.env
   standAt apos.atName
   let (f,first) ← holding [ov] (getMethod ov m pl)
   callWith pos f first (backTo pos (starEach [] X.env)) (backToKw pos (keywordEach [] X.env))):=by rfl) :
  PE X (.Call (.Attribute o m apos) [] [] pos) (tMeth C m sp [] E0 ta tNil):=by
 obtain ⟨f,fd,F,hb,hm⟩:=h
 exact Xhh he c hm F (hr.mono hk) hb .nil pass0 ht
theorem Zeb (h:MakeOk X.prog X.w X.K X.mg X.base k x C ps sp) (hr:Room k' X.A) (ha:PA X (e::es) t) (hk:k+1≤k':=by decide) (hg:Gl X x:=by rfl) (hdb:(x == ("__debug__":Str))=false:=by decide +kernel)
  (he:starEach (e::es) X.env=(false,eval e X.env)::starEach es X.env:=by rfl) (hpl:(backTo pos (starEach es X.env)).any (·.1)=false:=by rfl):PE X (.Call (.Name x p) (e::es) [] pos) (tMake C sp [] E0 t):=by
 obtain ⟨f,fd,M,F,hb,hm⟩:=h
 exact Xma M F (hr.mono hk) hg hm hb .nil pass0 ha hdb he hpl
end
theorem FunAt.ok {P:Program} {w:World} {K:PySem.W.Frag} {mg:Str→Option Value} {base:Heap} {x:Str} {st:Stmt} {f:Addr} {fd:FuncData} {N ps:List Str} {k:Nat} {sp:Sp} (F:FunAt K mg x st ps f fd) (S:FnScope N ps (defScope st)) (len:∀ vs H Q E,sp vs H Q E→vs.length=ps.length)
  (hbody:∀ (cdv:Value) (A:Around) (outer:List Env) (s:Shared) (H:Hp) (vs:List V) (Q:VK) (E:XK),Room k (A.deeper (envOfC x (defScope st) s.heap.objs.size f cdv))→sp vs H Q E→
   ∃ t,PSs (cxOf CX0 P w K mg base N x (defScope st) f cdv A outer s H E).nox (defBody st) t∧t {nx:=fun _ H'=>∃ H'',Sub H H'' H'∧Q .non H'',rt:=fun v H'=>∃ H'',Sub H H'' H'∧Q v H''} (start N vs) H):DefOk P w K mg base (k+1) x ps sp :=
 ⟨f,fd,F.1.okK S len hbody,F.2.1,F.1.kp,F.2.2⟩
end L2
namespace L2
open PySem PySem.Spec PyProof.Rows
section
variable {X:Cx} {e:Expr} {pos:Pos}
theorem oEq:OpR X (compareOp .Eq) rEq:=Xre
theorem oNe:OpR X (compareOp .NotEq) rNe:=Xra
theorem oLe:OpR X (compareOp .LtE) (rI0 fun i j => .bl (decide (i≤j))):=Xrc
theorem oGt:OpR X (compareOp .Gt) (rI0 fun i j => .bl (decide (j<i))):=Xrd
theorem CallR.or' {f:Value} {r r':List V→Hp→VK→Prop} (h:CallR X f r) (h':CallR X f r'):CallR X f (fun xs H Q=>r xs H Q∨r' xs H Q):=fun pins s σ H xs us Q I rv q=>q.elim (h pins s σ H xs us Q I rv) (h' pins s σ H xs us Q I rv)
noncomputable def Qv:=CallR.or' (Xfh (X:=X)) Zpb
noncomputable def Zub:=CallR.or' (Zyi (X:=X)) Zua
end
end L2
namespace L2
open PySem
theorem Zmg:bootBuiltins "int"=some (.type "int"):=by decide +kernel
theorem Zdd:bootBuiltins "str"=some (.type "str"):=by decide +kernel
theorem Xf:bootBuiltins "len"=some (.builtin "len"):=by decide +kernel
theorem Xd:bootBuiltins "isinstance"=some (.builtin "isinstance"):=by decide +kernel
theorem Xki:bootBuiltins "min"=some (.builtin "min"):=by decide +kernel
theorem Xqh:bootBuiltins "max"=some (.builtin "max"):=by decide +kernel
theorem Xbh:bootBuiltins "all"=some (.builtin "all"):=by decide +kernel
end L2
end
section
namespace L2
open PySem PySem.Spec PyProof.Rows KM
theorem Xh {H:Hp} {a:Addr} {o u:HO}:upd (upd H a o) a u=upd H a u:=by
 funext b
 unfold upd
 split<;>rfl
theorem Xkh {J:It} {g:TG} {te:TE} {Q:VK} {H:Hp} {D:Addr} {σ0:St} (n:Nat) (xs fe:Nat→V) (S:St→Prop) (hn:n≤sizeLine) (h0:S σ0)
  (hgo:∀ i H,i<n→J.go i H) (hstop:∀ H,J.stop n H) (hy:∀ i H x H',i<n→J.yld i H x H'→H'=H∧x=xs i)
  (ht:∀ i σ1 H1,i<n→S σ1→∀ R:St→V→Hp→Prop,(∀ σ2,S σ2→R σ2 (fe i) H1)→g (xs i) σ1 H1 fun σ2 H2=>te σ2 H2 fun y H3=>R σ2 y H3)
  (hq:Q (.ref D) (upd H D (.lst ((List.range n).map fe)))) :
  CompGo J g tYes te Q σ0 H D:=by
 refine ⟨fun i m σ1 H2=>i≤n∧m=n - i∧S σ1∧H2=upd H D (.lst ((List.range i).map fe)),⟨n,Nat.zero_le _,rfl,h0,rfl⟩,?_⟩
 rintro i m σ1 H2 ⟨h1,rfl,h2,rfl⟩
 rcases Nat.lt_or_ge i n with z | z
 ·refine .inr ⟨hgo i _ z,fun x H3 y=>?_⟩
  obtain ⟨rfl,rfl⟩:=hy i _ x H3 z y
  refine ht i σ1 _ z h2 (fun σ2 y H6=>∃ xs m',H6 D=some (.lst xs)∧xs.length<sizeLine∧m'<n - i∧(i+1≤n∧m'=n - (i+1)∧S σ2∧upd H6 D (.lst (xs++[y]))=upd H D (.lst ((List.range (i+1)).map fe)))) fun σ2 q3=>?_
  refine ⟨_,n - (i+1),Zb,?_,by omega,by omega,rfl,q3,?_⟩
  ·rw [List.length_map,List.length_range];omega
  ·rw [Xh,List.range_succ,List.map_append];rfl
 ·have e:i=n:=by omega
  subst e
  exact .inl ⟨hstop _,hq⟩
end L2
namespace L2
open PySem
theorem Xdd {H:Hp} {a:Addr} {o:HO} (h:H a=some o):upd H a o=H:=by
 funext b
 unfold upd
 split
 ·rename_i e;rw [e,h]
 ·rfl
end L2
namespace KM
end KM
namespace L2
open PySem
theorem Zxf (K:PySem.W.Frag) (t:Value):PySem.W.kitOne K t t=some true:=by
 unfold PySem.W.kitOne;rw [beq_self_eq_true,if_pos rfl]
end L2
namespace KM
open PySem L2
end KM
namespace KM
end KM
end
section
namespace L2
open PySem PySem.Spec PyProof.Rows
noncomputable def DictX (e:Addr) (o:Option Addr) (c:Option Value) (d:Option Addr):Prop:=(o=d∧(d=none∨c=some .none))∨(d=some e∧o=none∧c=some .none)
theorem DictX.ctx {e:Addr} {o:Option Addr} {c:Option Value} {d:Option Addr} (h:DictX e o c d) (hd:d≠none):c=some .none:=by
 rcases h with ⟨_,h⟩ | h
 ·exact h.resolve_left hd
 ·exact h.2.2
noncomputable def Fly (h:Heap) (e:Addr) (cls:Value) (d:Option Addr) (T:Addr) (fl:Value):Prop :=
 ∃ oe vs oT ts,h.get? e=some oe∧oe.cls=cls∧DictX e oe.dict vs[2]? d∧oe.data = .fields vs∧vs[1]?=some (.ref T)∧T≠e∧h.get? T=some oT∧oT.data = .fields ts∧ts[3]?=some fl∧True
structure Stn (fs:List Addr) (e:Addr) (T:Option Addr) (h h':Heap):Prop where
 keep:∀ b o,b≠e→some b≠T→b∉fs→h.get? b=some o→h'.get? b=some o
 slot:∀ b o,b≠e→some b≠T→h.get? b=some o→∃ sl,h'.get? b=some {o with slots:=sl}
section
variable {M:Model} {A:Around} {E:Value→Shared→Prop} {s:Shared} {base:Heap} {env:Env} {outer:List Env} {L e T:Addr} {oe:Obj} {vs:Array Value} {head:Value} {hadNext:Bool} {Q:Unit→Shared→Prop} {cls:Value} {d:Option Addr} {fl:Value}
theorem Zme (o:Obj) (f):(o.mapFields f).dict=o.dict:=by
 obtain ⟨c,d,dt,sl⟩:=o;cases dt<;>rfl
theorem entryD (hfr:A.frames=some (env::outer)) (hl:s.heap.FunFrames base (env::outer)) (hf:env.frame=some L) (he:s.heap.get? e=some oe) (hd:oe.data = .fields vs) (hsz:1<vs.size) (hcx:DictX e oe.dict vs[2]? d)
  (h:∀ h' T',Fly h' e oe.cls d T' (rawInt L)→s.heap.get? T'=none→h'.FunFrames base (env::outer)→Stn ((env::outer).filterMap (·.frame)) e none s.heap h'→Q () {s with heap:=h'}) :
  wpAny M A (do let a ← frameOf env;let pl ← entryPlaceOf L hadNext;let b ← EntryCells.newEntry head a .none (rawInt L) .none pl;setField (.ref e) 1 b) Q E s:=by
 have hene:e∉(env::outer).filterMap (·.frame):=fun hm=>by
  obtain ⟨_,o,ho,hnf⟩:=hl.mem hm
  rw [he] at ho;injection ho with ho;subst ho;exact hnf vs hd
 refine wpAny_bind (wpAny_frameOf_fun hfr hl hf fun h₁ hs₁=>?_)
 refine wpAny_bind (wpAny_entryPlaceOf fun pl hpl=>?_)
 unfold EntryCells.newEntry newFields
 refine wpAny_bind (wpAny_newObj_type ?_ (hpl.sizeOk5 _ _ _ _ _))
 have he1:h₁.get? e=some oe:=(hs₁.2.1 e hene).trans he
 generalize hoT:({cls := .type "traceback",dict:=none,data := .fields ([head,.ref L,.none,rawInt L,.none]++(if pl.isEmpty then List.replicate 6 Value.none else pl)).toArray}:Obj)=oT
 have he2:=Heap.get?_push_of_some (h:=h₁) oT he1
 refine wpAny_setField he2 hd hsz ?_
 have hTe:h₁.objs.size≠e:=Nat.ne_of_gt (Heap.lt_size he1)
 have hd3:=Obj.data_mapFields hd (·.setIfInBounds 1 (Value.ref h₁.objs.size))
 have he3:=Heap.get?_update_self (Obj.mapFields (·.setIfInBounds 1 (Value.ref h₁.objs.size))) he2 (Obj.isFreed_of_fields hd3)
 have hT3:((h₁.push oT).update e (Obj.mapFields (·.setIfInBounds 1 (Value.ref h₁.objs.size)))).get? h₁.objs.size=some oT :=
  (Heap.get?_update_other _ _ (Ne.symm hTe)).trans (Heap.get?_push_size h₁ (by rw [← hoT];rfl))
 have keep:∀ b o,b≠e→h₁.get? b=some o→((h₁.push oT).update e (Obj.mapFields (·.setIfInBounds 1 (Value.ref h₁.objs.size)))).get? b=some o:=fun b o hbe hb=>by
  rw [Heap.get?_update_other _ _ (Ne.symm hbe)];exact Heap.get?_push_of_some _ hb
 have noRec:∀ b o,s.heap.get? b=some o→(∀ vs,o.data≠.fields vs)→b≠e:=fun b o hb hnf q=>by
  rw [q,he] at hb;injection hb with hb;subst hb;exact hnf vs hd
 refine h _ h₁.objs.size ⟨_,_,oT,_,he3,Obj.cls_mapFields _ _,(by rw [Zme,Array.getElem?_setIfInBounds_ne (by decide)];exact hcx),hd3,by simp [hsz],hTe,hT3,by rw [← hoT],?_,trivial⟩ ?_ (hl.of_keeps fun b o hb hnf=>?_) ⟨fun b o hbe _ hbf hb=>keep b o hbe ((hs₁.2.1 b hbf).trans hb),fun b o hbe _ hb=>?_⟩
 ·first | (simp;done) | (rcases hpl with rfl | ⟨_,_,_,_,_,_,_,rfl⟩<;>simp)
 ·exact Heap.get?_none_of_le (by rw [hs₁.1];exact Nat.le_refl _)
 ·obtain ⟨sl,hs⟩:=hs₁.2.2 b o hb
  exact ⟨_,keep b _ (noRec b o hb hnf) hs,rfl⟩
 ·obtain ⟨sl,hs⟩:=hs₁.2.2 b o hb
  exact ⟨sl,keep b _ hbe hs⟩
theorem landD (hl:s.heap.FunFrames base outer) (ht:Fly s.heap e cls d T fl)
  (h:∀ h',Fly h' e cls d T .none→h'.FunFrames base outer→(∀ b o,b≠T→s.heap.get? b=some o→h'.get? b=some o)→Q () {s with heap:=h'}):wpAny M A (setFlight (.ref e) none) Q E s:=by
 obtain ⟨oe,vs,oT,ts,he,hc,hdd,hd,h1,hTe,hT,hdT,h3,hcx⟩:=ht
 have hsz3:3<ts.size:=(Array.getElem?_eq_some_iff.mp h3).1
 unfold setFlight
 refine wpAny_bind (wpAny_field he hd h1 ?_)
 rw [if_pos (show (Value.ref T != Value.none)=true from by simp)]
 have other:∀ b,b≠T→(s.heap.update T (Obj.mapFields (·.setIfInBounds 3 ((none:Option Addr).elim Value.none fun f=>rawInt f)))).get? b=s.heap.get? b:=fun b hb=>Heap.get?_update_other _ _ (Ne.symm hb)
 have noRec:∀ b o,s.heap.get? b=some o→(∀ vs,o.data≠.fields vs)→b≠T:=fun b o hb hnf q=>by
  rw [q,hT] at hb;injection hb with hb;subst hb;exact hnf ts hdT
 refine wpAny_setField hT hdT hsz3 (h _ ⟨oe,vs,_,_,(other e (Ne.symm hTe)).trans he,hc,hdd,hd,h1,hTe,Heap.get?_update_self _ hT (Obj.isFreed_of_fields (Obj.data_mapFields hdT _)),Obj.data_mapFields hdT _,by simp [hsz3],hcx⟩
  (hl.of_keeps fun b o hb hnf=>⟨o,(other b (noRec b o hb hnf)).trans hb,rfl⟩) fun b o hb q=>(other b hb).trans q)
theorem noteD (hfr:A.frames=some (env::outer)) (hl:s.heap.FunFrames base (env::outer)) (hf:env.frame=some L) (ht:Fly s.heap e cls d T .none)
  (h:∀ h' T',Fly h' e cls d T' (rawInt L)→s.heap.get? T'=none→h'.FunFrames base (env::outer)→Stn ((env::outer).filterMap (·.frame)) e (some T) s.heap h'→Q () {s with heap:=h'}):wpAny M A (noteFrame (.ref e) env) Q E s:=by
 obtain ⟨oe,vs,oT,ts,he,hc,hdd,hd,h1,hTe,hT,hdT,h3,hcx⟩:=ht
 unfold noteFrame
 simp only [hf]
 refine wpAny_bind (wpAny_field he hd h1 ?_)
 rw [if_pos (show (Value.ref T != Value.none)=true from by simp)]
 refine wpAny_bind (wpAny_field hT hdT h3 ?_)
 rw [if_neg (show ¬((Value.none == rawInt L)=true) from by simp [rawInt])]
 refine wpAny_bind (wpAny_setField hT hdT (Array.getElem?_eq_some_iff.mp h3).1 ?_)
 have other:∀ b,b≠T→(s.heap.update T (Obj.mapFields (·.setIfInBounds 3 Value.none))).get? b=s.heap.get? b:=fun b hb=>Heap.get?_update_other _ _ (Ne.symm hb)
 have noRec:∀ b o,s.heap.get? b=some o→(∀ vs,o.data≠.fields vs)→b≠T:=fun b o hb hnf q=>by
  rw [q,hT] at hb;injection hb with hb;subst hb;exact hnf ts hdT
 have back:∀ b,(s.heap.update T (Obj.mapFields (·.setIfInBounds 3 Value.none))).get? b=none→s.heap.get? b=none:=fun b hb=>by
  by_cases z:b=T
  ·subst z
   rw [Heap.get?_update_self _ hT (Obj.isFreed_of_fields (Obj.data_mapFields hdT _))] at hb;cases hb
  ·rw [other b z] at hb;exact hb
 subst hc
 refine entryD (s:={s with heap:=s.heap.update T (Obj.mapFields (·.setIfInBounds 3 Value.none))}) hfr (hl.of_keeps fun b o hb hnf=>⟨o,(other b (noRec b o hb hnf)).trans hb,rfl⟩) hf ((other e (Ne.symm hTe)).trans he) hd (Array.getElem?_eq_some_iff.mp h1).1 hdd fun h' T' x1 x2 x3 x4=>?_
 exact h h' T' x1 (back _ x2) x3 ⟨fun b o h1 h2 h3 h4=>x4.keep b o h1 (by simp) h3 ((other b (fun z=>h2 (by rw [z]))).trans h4),fun b o h1 h2 h4=>x4.slot b o h1 (by simp) ((other b (fun z=>h2 (by rw [z]))).trans h4)⟩
theorem Zxd (hfr:A.frames=some (env::outer)) (hl:s.heap.FunFrames base (env::outer)) (hf:env.frame=some L) (ht:Fly s.heap e cls d T .none)
  (h:∀ h' T',Fly h' e cls d T' .none→s.heap.get? T'=none→Stn ((env::outer).filterMap (·.frame)) e (some T) s.heap h'→Q () {s with heap:=h'}):wpAny M A (leaving env (.ref e)) Q E s:=by
 unfold leaving
 refine wpAny_bind (noteD hfr hl hf ht fun h1 T' x1 x2 x3 x4=>?_)
 refine landD x3 x1 fun h2 y1 _ y3=>h h2 T' y1 x2 ⟨fun b o h1 h2 h3 h4=>y3 b o (fun z=>by rw [z,x2] at h4;cases h4) (x4.keep b o h1 h2 h3 h4),fun b o h1 h2 h4=>?_⟩
 obtain ⟨sl,e⟩:=x4.slot b o h1 h2 h4
 exact ⟨sl,y3 b _ (fun z=>by rw [z,x2] at h4;cases h4) e⟩
theorem Zti (hfr:A.frames=some (env::outer)) (hl:s.heap.FunFrames base (env::outer)) (hf:env.frame=some L) (he:s.heap.get? e=some oe) (hd:oe.data = .fields vs) (h1:vs[1]?=some .none) (hcx:DictX e oe.dict vs[2]? d)
  (h:∀ h' T',Fly h' e oe.cls d T' .none→s.heap.get? T'=none→Stn ((env::outer).filterMap (·.frame)) e none s.heap h'→Q () {s with heap:=h'}):wpAny M A (leaving env (.ref e)) Q E s:=by
 unfold leaving noteFrame
 simp only [hf]
 refine wpAny_bind (wpAny_bind (wpAny_field he hd h1 ?_))
 rw [if_neg (by decide)]
 refine entryD hfr hl hf he hd (Array.getElem?_eq_some_iff.mp h1).1 hcx fun h1 T' x1 x2 x3 x4=>?_
 refine landD x3 x1 fun h2 y1 _ y3=>h h2 T' y1 x2 ⟨fun b o h1 h2 h3 h4=>y3 b o (fun z=>by rw [z,x2] at h4;cases h4) (x4.keep b o h1 h2 h3 h4),fun b o h1 h2 h4=>?_⟩
 obtain ⟨sl,e⟩:=x4.slot b o h1 h2 h4
 exact ⟨sl,y3 b _ (fun z=>by rw [z,x2] at h4;cases h4) e⟩
end
end L2
end
section
namespace L2
open PySem PySem.Spec PyProof.Rows
noncomputable def CXe (P:Program) (w:World):CXT:=fun outer H s E e s'=>∃ a C d H' T,e = .ref a∧s'.os=s.os∧AllBare s'.gens∧Un (frs outer) [] H H' s.heap s'.heap∧HOk P w H' s'.heap∧
 Fly s'.heap a (.ref C) d T .none∧H' a=none∧H' T=none∧s.heap.get? a=none∧s.heap.get? T=none∧E (.ref C) d H'
theorem HOk.there {P:Program} {w:World} {H:Hp} {h:Heap} (ok:HOk P w H h) {a:Addr} {o:HO} (e:H a=some o):∃ u,h.get? a=some u:=by
 have x:=ok a o e
 cases o with
 | lst xs=>obtain ⟨_,_,_,_,e⟩:=x;exact ⟨_,e⟩
 | tup xs=>obtain ⟨_,_,_,p⟩:=x;obtain ⟨o,e,_⟩:=p;exact ⟨_,e⟩
 | dK kvs=>obtain ⟨_,_,_,_,o,_,_,e,_⟩:=x;exact ⟨_,e⟩
 | dT kvs=>exact (show False from x).elim
 | set S n=>obtain ⟨o,_,_,_,e,_⟩:=x;exact ⟨_,e⟩
 | ins C dx fs=>obtain ⟨_,_,_,e,_⟩:=x;exact ⟨_,e⟩
 | own y=>exact x
 | xd fs=>obtain ⟨_,⟨_,_,_,e,_⟩,_⟩:=x;exact ⟨_,e⟩
 | rng lo hi=>obtain ⟨_,_,_,e⟩:=x;exact ⟨_,e⟩
 | frz ob u=>obtain ⟨e,_⟩:=x;exact ⟨_,e⟩
 | tbl ps=>exact ⟨_,x⟩
 | met f y=>exact ⟨_,x⟩
 | ext φ=>exact x.2.1
theorem HOk.none {P:Program} {w:World} {H:Hp} {h:Heap} (ok:HOk P w H h) {a:Addr} (e:h.get? a=none):H a=none:=by
 cases q:H a with
 | none=>rfl
 | some o=>obtain ⟨u,z⟩:=ok.there q;rw [e] at z;cases z
section
variable {P:Program} {w:World} {K:PySem.W.Frag} {mg:Str→Option Value} {base:Heap} {N:List Str} {qual:Str} {scope:Scope} {f:Addr} {cdv:Value} {A:Around} {outer:List Env} {s:Shared} {H:Hp} {E:XK}
theorem Zza {X:Cx} {pins:List (Addr×Obj)} {σ:St} {H1:Hp} {s1:Shared} {h':Heap} {a:Addr} {T:Option Addr} (I:Inv X pins σ H1 s1) (hx:X.ex=[]) (hs:X.stack=X.env::X.outer) (S:Stn (frs X.stack) a T s1.heap h')
  (na:X.s₀.heap.get? a=none) (nT:∀ t,T=some t→X.s₀.heap.get? t=none) (fa:H1 a=none) (fT:∀ t,T=some t→H1 t=none):Un (frs X.outer) [] X.H₀ H1 X.s₀.heap h'∧HOk X.prog X.w H1 h':=by
 have B:=I.base
 rw [hx] at B
 have nea:∀ b o,X.s₀.heap.get? b=some o→b≠a:=fun b o e z=>by rw [z,na] at e;cases e
 have neT:∀ b o,X.s₀.heap.get? b=some o→some b≠T:=fun b o e z=>by have:=nT b z.symm;rw [e] at this;cases this
 have neL:∀ b o,X.s₀.heap.get? b=some o→b≠X.env.locals:=fun b o e=>Nat.ne_of_lt (Nat.lt_of_lt_of_le (Heap.lt_size e) I.ok.above)
 refine ⟨⟨fun b o e n hb hx=>?_,fun b o e n hb hx=>?_,B.free,fun b o e hx=>?_,B.tups,B.frzs,B.tbls⟩,fun b u e=>(I.hok b u e).stay (fun c v hc q=>?_) (fun _ q=>q) fun _ _ q=>q⟩
 ·refine S.keep b o (nea b o e) (neT b o e) (fun z=>?_) (B.keep b o e n hb hx)
  exact (List.mem_cons.mp (I.stkSub b z)).elim (neL b o e) hb
 ·obtain ⟨sl,e1⟩:=B.slot b o e n hb hx
  obtain ⟨sl',e2⟩:=S.slot b _ (nea b o e) (neT b o e) e1
  exact ⟨sl',e2⟩
 ·obtain ⟨o',e1⟩:=B.there b o e hx
  obtain ⟨sl',e2⟩:=S.slot b _ (nea b o e) (neT b o e) e1
  exact ⟨_,e2⟩
 ·have hcn:∃ z,H1 c=some z:=by
   rcases hc with rfl | hc
   ·exact ⟨_,e⟩
   ·exact ⟨_,hc⟩
  obtain ⟨z,hz⟩:=hcn
  refine S.keep c v (fun y=>?_) (fun y=>?_) (fun y=>?_) q
  ·rw [y,fa] at hz;cases hz
  ·rw [fT c y.symm] at hz;cases hz
  ·rw [I.stkFree c y] at hz;cases hz
end
section
variable {P:Program} {w:World} {K:PySem.W.Frag} {mg:Str→Option Value} {base:Heap} {N:List Str} {qual:Str} {scope:Scope} {f:Addr} {cdv:Value} {A:Around} {outer:List Env} {s:Shared} {H:Hp} {E:XK}
noncomputable def Throws (X:Cx) (E:XK):Prop:=∀ (pins:List (Addr×Obj)) (σ:St) (H1:Hp) (s1:Shared) (a C:Addr) (oe:Obj) (vs:Array Value) (d:Option Addr),Inv X pins σ H1 s1→s1.heap.get? a=some oe→oe.cls = .ref C→oe.data = .fields vs→vs[1]?=some .none→DictX a oe.dict vs[2]? d→
 H1 a=none→X.s₀.heap.get? a=none→E (.ref C) d H1→X.xe (.ref a) s1
theorem Xw:Throws (cxOf (CXe P w) P w K mg base N qual scope f cdv A outer s H E) E:=by
 intro pins σ H1 s1 a C oe vs d I he hc hd h1 hcx fa na q
 refine Zti (base:=base) I.ok.frames I.stack rfl he hd h1 hcx fun h' T' x1 x2 x3=>?_
 have fT:=I.hok.none x2
 obtain ⟨u,hk⟩:=Zza (T:=none) I rfl rfl x3 na (fun t z=>by cases z) fa (fun t z=>by cases z)
 refine ⟨a,C,d,H1,T',rfl,I.os,I.bare,u,hk,hc ▸ x1,fa,fT,na,?_,q⟩
 cases z:s.heap.get? T' with
 | none=>rfl
 | some o =>
  obtain ⟨o',e⟩:=I.base.there T' o z (show T'∉([]:List Addr) by simp)
  rw [x2] at e;cases e
theorem passes_fn:Passes (CXe P w) (cxOf (CXe P w) P w K mg base N qual scope f cdv A outer s H E) E:=by
 intro pins σ H1 s1 e s2 I h
 obtain ⟨a,C,d,H2,T,rfl,os,bare,un,hok,fly,fa,fT,na,nT,q⟩:=h
 have I2:Inv (cxOf (CXe P w) P w K mg base N qual scope f cdv A outer s H E) pins σ H2 s2:=I.call' (ch:=[]) os un hok bare (fun b z=>absurd z (by simp))
 have old:∀ b,s1.heap.get? b=none→s.heap.get? b=none:=fun b hb=>by
  cases z:s.heap.get? b with
  | none=>rfl
  | some o =>
   obtain ⟨o',e⟩:=I.base.there b o z (show b∉([]:List Addr) by simp)
   rw [hb] at e;cases e
 refine Zxd (base:=base) I2.ok.frames I2.stack rfl fly fun h' T' x1 x2 x3=>?_
 obtain ⟨u,hk⟩:=Zza (T:=some T) I2 rfl rfl x3 (old a na) (fun t z=>by cases z;exact old T nT) fa (fun t z=>by cases z;exact fT)
 refine ⟨a,C,d,H2,T',rfl,I2.os,I2.bare,u,hk,x1,fa,I2.hok.none x2,old a na,?_,q⟩
 cases z:s.heap.get? T' with
 | none=>rfl
 | some o =>
  obtain ⟨o',e⟩:=I2.base.there T' o z (show T'∉([]:List Addr) by simp)
  rw [x2] at e;cases e
end
end L2
end
section
namespace L2
open PySem PySem.W PySem.Spec PyProof.Rows
structure ExcC (K:Frag) (C:Addr):Prop where
 ga:findIn K (.ref C) "__getattribute__"=some (some (.builtin "BaseException.__getattribute__"))
 gt:findIn K (.ref C) "__getattr__"=some none
 cl:findIn K (.ref C) "__class__"=some (some (.builtin "object.__class__"))
 ob:mroIn K C (.type "object")=some true
 be:mroIn K C (.type "BaseException")=some true
 is:isClsIn K C=true
 hn:specialIn K (.builtin "object.__class__") "__get__"=some (some (.builtin "getset_descriptor.__get__"))
 tk:takesIn K (.builtin "object.__class__")=some true
section
variable {K:Frag} {prog:Program} {w:World} {A:Around} {E:Value→Shared→Prop} {h:Heap} {g:Array GenState} {d:Drawn} {t:Nat} {os:OsState} {x C:Addr} {ox:Obj} {odo:Option Obj} {name:Str}
theorem Xjj {tk:Tok} {R:Result→Shared→Prop} (X:K.In h) (I:InstAt h x ox C odo) (c:ExcC K C)
  (hq:wpAny (model prog w) A.in1 (Builtin.«object.__getattribute__» ⟨[.ref x,.str name tk],[]⟩) (fun fin s'=>match fin with | .done (.ret v)=>R (.ok (.ret v)) s' | _=>False) (fun _ _=>False) ⟨h,g,d,t,os⟩) :
  codeAny (model prog w) A (.call (.builtin "BaseException.__getattribute__") ⟨[.ref x,.str name tk],[]⟩) R ⟨h,g,d,t,os⟩:=by
 have L0:=I.type (M:=model prog w)
 have L1:=looks_mroIn (M:=model prog w) X c.be
 refine codeAny_call_builtin F.attr_ValueError.ga.plain F.entry_bexc_ga (check_slot (i:="BaseException.__getattribute__") (owner:="BaseException") (n:="__getattribute__") (by decide +kernel) (by decide +kernel) (L0.andThen L1) (F.args_bexc_ga _ _) ?_)
 refine wpAny_mono hq (fun fin s' z=>?_) fun _ _ z=>False.elim z
 rcases fin with (_ | _ | _ | _) | _<;>first | exact z | exact z.elim
theorem Xqf {tk:Tok} {fill expr:Bool} {Q:Value→Shared→Prop} (X:K.In h) (I:InstAt h x ox C odo) (c:ExcC K C)
  (hq:∀ A:Around,wpAny (model prog w) A (Builtin.«object.__getattribute__» ⟨[.ref x,.str name tk],[]⟩) (fun fin s'=>match fin with | .done (.ret v)=>Q v s'∧handedIn v=true | _=>False) (fun _ _=>False) ⟨h,g,d,t,os⟩) :
  wpAny (model prog w) A (getAttrBy (.ref x) (.str name tk) fill expr) Q E ⟨h,g,d,t,os⟩:=by
 have L0:=I.type (M:=model prog w)
 have L1:=looks_findIn (M:=model prog w) X c.ga
 have L2:=looks_findIn (M:=model prog w) X c.gt
 have f3:=F.attr_ValueError.ga.bind (.ref x)
 have hx0:(expr&&onTheHeap (Value.builtin "BaseException.__getattribute__"))=false:=by cases expr<;>rfl
 have hx2:(Value.builtin "BaseException.__getattribute__" == Value.builtin "object.__getattribute__")=false:=by decide +kernel
 have hx1:(onTheHeap (Value.ref C)&&Value.builtin "BaseException.__getattribute__" == Value.builtin "object.__getattribute__")=false:=by rw [hx2];rfl
 unfold getAttrBy
 refine wpAny_holding (wpAny_bind (L0.at (wpAny_bind (L1.at ?_))))
 dsimp only
 rw [if_neg (by rw [hx1];decide)]
 have rest:∀ A:Around,codeAny (model prog w) A (.call (.builtin "BaseException.__getattribute__") ⟨[.ref x,.str name tk],[]⟩) (fun r s'=>match r with | .ok (.ret v)=>Q v s'∧handedIn v=true | _=>False) ⟨h,g,d,t,os⟩:=fun A=>Xjj X I c (wpAny_mono (hq A.in1) (fun fin s' z=>by rcases fin with (_ | _ | _ | _) | _<;>first | exact z | exact z.elim) fun _ _ z=>z.elim)
 repeat (any_goals (first | assumption | with_reducible refine L2.at ?_ | wp_step))
 refine codeAny_mono (rest A) fun r s' z=>?_
 cases r with
 | error e=>exact z.elim
 | ok fl=>cases fl with
  | ret v=>exact handed_on z.2 z.1
  | next=>exact z.elim
  | brk=>exact z.elim
  | cont=>exact z.elim
theorem Zie {tk:Tok} {Q:Fin→Shared→Prop} (X:K.In h) (I:InstAt h x ox C odo) (c:ExcC K C) (hq:Q (.done (.ret (.ref C))) ⟨h,g,d,t,os⟩) :
  wpAny (model prog w) A (Builtin.«object.__getattribute__» ⟨[.ref x,.str "__class__" tk],[]⟩) Q E ⟨h,g,d,t,os⟩:=by
 have L0:=I.type (M:=model prog w)
 obtain ⟨cd,hc⟩:=Option.isSome_iff_exists.mp (show (clsIn K C).isSome=true from c.is)
 have hf:findObj K C odo "__class__"=some (.bind (.builtin "getset_descriptor.__get__") (.builtin "object.__class__")):=by
  unfold findObj
  rw [hc,Option.bind_some,c.cl,Option.bind_some]
  simp [c.hn,c.tk]
 have L1:=looks_find (M:=model prog w) X I hf
 repeat (any_goals (first | assumption | with_reducible refine L0.at ?_ | with_reducible refine L1.at ?_ | wp_step))
 refine class_get (s:=⟨h,g,d,t,os⟩) (ox:=ox) (od:=odo) X I c.ob ?_
 repeat (any_goals (first | assumption | wp_step))
theorem Xfd {Q:Option Value→Shared→Prop} {s:Shared} (X:K.In s.heap) (I:InstAt s.heap x ox C odo) (c:ExcC K C) (hq:Q (some (.ref C)) {s with toks:=s.toks+1}):wpAny (model prog w) A (getAttr? (.ref x) "__class__") Q E s:=by
 obtain ⟨h,g,d,t,os⟩:=s
 unfold getAttr? getAttrBy?
 refine wpAny_bind (wpAny_mkText (wpAny_bind (wpAny_attempt ?_)))
 exact Xqf X I c fun A=>Zie X I c ⟨wpAny_pure hq,rfl⟩
theorem Zxe (c:ExcC K C):KitX K (.ref x) (.ref C) (fun h=>∃ ox odo,InstAt h x ox C odo) where
 ty:=fun _ _ _ ⟨_,_,I⟩=>I.type
 it:=fun _ _ X _=>by
  obtain ⟨cdD,hcD⟩:=Option.isSome_iff_exists.mp (show (clsIn K C).isSome=true from c.is)
  unfold clsIn at hcD
  split at hcD
  ·rename_i c' d' cd' sl' ho
   intro A' Q' E' s' k q
   unfold isType loadHead
   exact wpAny_bind (wpAny_loadPart (k _ _ (X _ _ ho)) (wpAny_pure q))
  ·cases hcD
 ne:=fun h tp dd its n sl X htp=>by
  obtain ⟨cdD,hcD⟩:=Option.isSome_iff_exists.mp (show (clsIn K C).isSome=true from c.is)
  refine Bool.eq_false_iff.mpr fun q=>?_
  have e:C=tp:=Value.ref.inj (beq_iff_eq.mp q)
  subst e
  unfold clsIn at hcD
  split at hcD
  ·rename_i c' d' cd' sl' ho
   have z:=(X _ _ ho).symm.trans htp
   cases z
  ·cases hcD
 ca:=fun X ⟨_,_,I⟩ k=>Xfd X I c k
end
end L2
end
section
namespace L2
open PySem PySem.W PySem.Spec PyProof.Rows
section
variable {P:Program} {w:World} {K:PySem.W.Frag} {mg:Str→Option Value} {base:Heap}
noncomputable def eSub (H:Hp) (E:XK):XK:=fun c d H'=>∃ H'',Sub H H'' H'∧E c d H''
theorem FnOk.keepE {k:Nat} {f:Addr} {fd:FuncData} {ps:List Str} {sp sp':Sp} (F:FnOk P w K mg base (CXe P w) k f fd ps sp)
  (h:∀ vs H Q E,sp' vs H Q E→sp vs H (fun v H'=>∃ H'',Sub H H'' H'∧Q v H'') (eSub H E)):FnOk P w K mg base (CXe P w) k f fd ps sp':=by
 refine ⟨fun vs H Q E q=>F.len vs H _ _ (h vs H Q E q),fun A outer s H args us vs Q E hr e0 hb r q=>codeAny_mono (F.run A outer s H args us vs _ _ hr e0 hb r (h vs H Q E q)) fun rs s' c=>?_⟩
 cases rs with
 | error e =>
  obtain ⟨a,C,d,H',T,rfl,os,bare,un,hok,fly,fa,fT,na,nT,H'',dd,q'⟩:=c
  have nn:∀ b,H' b=none→H'' b=none:=fun b hb=>by
   cases z:H'' b with
   | none=>rfl
   | some o=>have:=dd.le b o z;rw [hb] at this;cases this
  exact ⟨a,C,d,H'',T,rfl,os,bare,Un.sub (Un.refl (h:=s.heap)) un dd,hok.sub (dd.cl e0.hok.closed) dd.le,fly,nn a fa,nn T fT,na,nT,q'⟩
 | ok fl =>
  cases fl with
  | ret u =>
   obtain ⟨v,H',os,bare,un,hok,rv,H'',d,q'⟩:=c
   exact ⟨v,H'',os,bare,Un.sub (Un.refl (h:=s.heap)) un d,hok.sub (d.cl e0.hok.closed) d.le,rv,q'⟩
  | next=>exact c
  | brk=>exact c
  | cont=>exact c
theorem Fun.okE {x qual:Str} {st:Stmt} {f:Addr} {fd:FuncData} {N ps:List Str} {k:Nat} {sp:Sp} (F:Fun K x qual st f fd) (S:FnScope N ps (defScope st)) (len:∀ vs H Q E,sp vs H Q E→vs.length=ps.length)
  (hbody:∀ (cdv:Value) (A:Around) (outer:List Env) (s:Shared) (H:Hp) (vs:List V) (Q:VK) (E:XK),Room k (A.deeper (envOfC qual (defScope st) s.heap.objs.size f cdv))→sp vs H Q E→
   ∃ t,PSs (cxOf (CXe P w) P w K mg base N qual (defScope st) f cdv A outer s H (eSub H E)) (defBody st) t∧t {nx:=fun _ H'=>∃ H'',Sub H H'' H'∧Q .non H'',rt:=fun v H'=>∃ H'',Sub H H'' H'∧Q v H''} (start N vs) H):FnOk P w K mg base (CXe P w) (k+1) f fd ps sp:=by
 refine FnOk.keepE (sp:=fun vs H Q E=>∃ Q' E',Q=(fun v H'=>∃ H'',Sub H H'' H'∧Q' v H'')∧E=eSub H E'∧sp vs H Q' E') ?_ fun vs H Q E h=>⟨Q,E,rfl,rfl,h⟩
 obtain ⟨oc,od,kV,doc,pm,an,cdv,ct,osl,rfl,lk,hcd⟩:=F.ex
 refine Xng lk hcd S (fun vs H Q E ⟨Q',E',_,_,h⟩=>len vs H Q' E' h) fun A outer s H vs Q E hr ⟨Q',E',e1,e2,hsp⟩=>?_
 subst e1 e2
 exact hbody cdv A outer s H vs Q' E' hr hsp
noncomputable def DefOkE (P:Program) (w:World) (K:PySem.W.Frag) (mg:Str→Option Value) (base:Heap) (k:Nat) (x:Str) (ps:List Str) (sp:Sp):Prop :=
 ∃ f fd,FnOk P w K mg base (CXe P w) k f fd ps sp∧Binds K fd ps []∧PySem.W.keepIn K (.ref f)=true∧mg x=some (.ref f)
theorem FunAt.okE {x:Str} {st:Stmt} {f:Addr} {fd:FuncData} {N ps:List Str} {k:Nat} {sp:Sp} (F:FunAt K mg x st ps f fd) (S:FnScope N ps (defScope st)) (len:∀ vs H Q E,sp vs H Q E→vs.length=ps.length)
  (hbody:∀ (cdv:Value) (A:Around) (outer:List Env) (s:Shared) (H:Hp) (vs:List V) (Q:VK) (E:XK),Room k (A.deeper (envOfC x (defScope st) s.heap.objs.size f cdv))→sp vs H Q E→
   ∃ t,PSs (cxOf (CXe P w) P w K mg base N x (defScope st) f cdv A outer s H (eSub H E)) (defBody st) t∧t {nx:=fun _ H'=>∃ H'',Sub H H'' H'∧Q .non H'',rt:=fun v H'=>∃ H'',Sub H H'' H'∧Q v H''} (start N vs) H):DefOkE P w K mg base (k+1) x ps sp :=
 ⟨f,fd,F.1.okE S len hbody,F.2.1,F.1.kp,F.2.2⟩
end
noncomputable def PassesX (CX:CXT) (X:Cx) (E:St→XK):Prop:=∀ (pins:List (Addr×Obj)) (σ:St) (H:Hp) (s:Shared) (e:Value) (s':Shared),Inv X pins σ H s→CX X.stack H s (E σ) e s'→X.xe e s'
theorem Passes.x {CX:CXT} {X:Cx} {E:XK} (h:Passes CX X E):PassesX CX X fun _=>E:=h
noncomputable def tCallX (sp:Sp) (E:St→XK) (t:TA):TE:=fun σ H Q=>t σ H fun vs H1=>sp vs H1 Q (E σ)
section
variable {X:Cx} {k k':Nat} {x:Str} {ps:List Str} {sp:Sp} {e:Expr} {es:List Expr} {t:TA} {p pos:Pos} {E:St→XK}
theorem Xq (h:DefOkE X.prog X.w X.K X.mg X.base k x ps sp) (hr:Room k' X.A) (hx:PassesX (CXe X.prog X.w) X E) (ha:PA X (e::es) t) (hk:k≤k':=by decide) (hg:Gl X x:=by rfl) (hdb:(x == ("__debug__":Str))=false:=by decide +kernel)
  (he:starEach (e::es) X.env=(false,eval e X.env)::starEach es X.env:=by rfl) (hpl:(backTo pos (starEach es X.env)).any (·.1)=false:=by rfl):PE X (.Call (.Name x p) (e::es) [] pos) (tCallX sp E t):=by
 obtain ⟨f,fd,F,hb,kp,hm⟩:=h
 intro pins s σ H Q I h
 refine wpAny_Call_Name_kw (Jo I hg hm ?_ hdb)
 refine PySem.W.callWith_K (h₀:=X.base) I.ok.mod.kin kp (thn (ha pos pins s σ H _ I h) fun us s1 ⟨vs,H1,I1,r,q⟩=>⟨I1.kIn,?_⟩) he hpl
 have hl:us.length=ps.length:=by rw [← r.length];exact F.len _ _ _ _ q
 have hb':=hb s1 us I1.kIn (by rw [List.append_nil];exact hl)
 rw [List.append_nil] at hb'
 refine wpAny_call (codeAny_mono (F.run X.A X.stack s1 H1 ⟨us,[]⟩ us vs Q (E σ) (hr.mono hk) I1.env0 hb' r q) fun r s' hq=>?_)
 cases r with
 | error e=>exact hx pins σ H1 s1 e s' I1 hq
 | ok fl =>
  cases fl with
  | ret u=>exact I1.after hq
  | next=>exact False.elim hq
  | brk=>exact False.elim hq
  | cont=>exact False.elim hq
end
abbrev bmV:List Value:=[.type "ValueError",.type "Exception",.type "BaseException",.type "object"]
structure ClsAt (K:Frag) (h:Heap) (C:Addr):Prop where
 ex:∃ (bm:List Value) (N:Addr) (nm q:Str) (bs:List Value) (hdct:Bool) (sn:List Str) (sub:List Value) (ab:Bool) (col:Option Bool) (dd:Option Addr) (k0 k1 k2 k3 k5:Option Value) (mN:Str→Option Value),
  h.get? C=some (excClassObj nm q C N bs bm hdct sn sub ab col dd k0 k1 k2 k3 k5 "ValueError.__new__")∧h.Ns N mN∧mN "__init__"=none∧OwnTail h bmV bm
theorem clsAt {K:Frag} {h:Heap} {C:Addr} (X:K.In h) (q:excIn K C bmV "ValueError.__new__"=true):ClsAt K h C:=by
 unfold excIn at q
 split at q
 ·rename_i dd cd sl ho
  split at q
  ·rename_i C' bm k0 k1 k2 k3 n k5 hm hs
   simp only [Bool.and_eq_true,beq_iff_eq,Bool.not_eq_true'] at q
   obtain ⟨⟨⟨⟨⟨rfl,rfl⟩,hdel⟩,ht⟩,hok⟩,hni⟩:=q
   obtain ⟨nm,bs,mro,ns,qn,hd,sn,sub,ab,col,del⟩:=cd
   dsimp only at hm hdel hok hni
   subst hm hdel
   have hsl:sl=#[k0,k1,k2,k3,some (.builtin "ValueError.__new__"),k5]:=by
    obtain ⟨l⟩:=sl
    simp only at hs
    rw [hs]
   subst hsl
   exact ⟨bm,ns,nm,qn,bs,hd,sn,sub,ab,col,dd,k0,k1,k2,k3,k5,_,X _ _ ho,.of_isNs (isNs_of_in X hok),nsMap_none_of_in X hok hni,tail_of_in X ht⟩
  ·cases q
 ·cases q
noncomputable def tRaise (C:Addr) (E:XK) (t:TA):TS:=fun _ σ H=>t σ H fun vs H1=>vs.length≤sizeLine∧E (.ref C) none H1
theorem Qj {X:Cx} {x:Str} {C:Addr} {np cpos pos:Pos} {e:Expr} {es:List Expr} {t:TA} {E:XK} (T:Throws X E) (xc:excIn X.K C bmV "ValueError.__new__"=true) (hm:X.mg x=some (.ref C)) (hh:X.A.handled=none) (ha:PA X (e::es) t)
  (hex:X.ex=[]:=by rfl) (hg:Gl X x:=by rfl) (hdb:(x == ("__debug__":Str))=false:=by decide +kernel)
  (he:starEach (e::es) X.env=(false,eval e X.env)::starEach es X.env:=by rfl) (hpl:(backTo cpos (starEach es X.env)).any (·.1)=false:=by rfl) :
  PS X (.Raise (some (.Call (.Name x np) (e::es) [] cpos)) none pos) (tRaise C E t):=by
 intro pins s σ H D I h
 obtain ⟨bm,N,nm,q,bs,hdct,sn,sub,ab,col,dd,k0,k1,k2,k3,k5,mN,h1,h2,h3,h4⟩:=(clsAt I.ok.mod.kin xc).ex
 refine wpAny_Raise_call_subU (nm:=nm) (q:=q) (N:=N) (bs:=bs) (hdct:=hdct) (sn:=sn) (sub:=sub) (ab:=ab) (col:=col) (dd:=dd) (k0:=k0) (k1:=k1) (k2:=k2) (k3:=k3) (k5:=k5) F.excBase_ValueError (bmB:=bmV) (by decide +kernel) F.excBase_ValueError (mN:=mN) (h4.hasType (by decide +kernel)) hh ?_ h3 (Jo I hg hm ⟨rfl,?_⟩ hdb)
 ·rw [he];show (false||(backTo cpos (starEach es X.env)).any (·.1))=false;rw [hpl];rfl
 have hp:=ha cpos pins s σ H _ I h
 rw [he] at hp ⊢
 refine Calls.evalArgs_plain (thn hp fun us s1 ⟨vs,H1,I1,r,hl,q1⟩=>⟨rfl,by show us.length≤_;rw [← r.length];exact hl,I1.bk _ _ h1,h2.keeps I1.bk,h4.keeps I1.bk,fun h' a hm=>?_⟩)
 obtain ⟨tt,ht,_,_⟩:=hm.there
 refine T pins σ H1 _ a C _ _ none (I1.kept (h':=h') (t':=s1.toks) hm.keeps) ht rfl rfl rfl (.inl ⟨rfl,.inl rfl⟩) (I1.hok.none hm.new) ?_ q1
 cases z:X.s₀.heap.get? a with
 | none=>rfl
 | some o =>
  obtain ⟨o',e⟩:=I1.base.there a o z (by rw [hex];simp)
  rw [hm.new] at e;cases e
noncomputable def tRaiseC (C:Addr) (E:XK) (t:TA):TS:=fun _ σ H=>t σ H fun vs H1=>vs.length≤sizeLine∧∀ a,H1 a=none→E (.ref C) (some a) H1
theorem Jr {X:Cx} {x:Str} {C:Addr} {np cpos pos:Pos} {e:Expr} {es:List Expr} {t:TA} {E:XK} (T:Throws X E) (xc:excIn X.K C bmV "ValueError.__new__"=true) (hm:X.mg x=some (.ref C)) (hh:X.A.handled=none) (ha:PA X (e::es) t)
  (hex:X.ex=[]:=by rfl) (hg:Gl X x:=by rfl) (hdb:(x == ("__debug__":Str))=false:=by decide +kernel)
  (he:starEach (e::es) X.env=(false,eval e X.env)::starEach es X.env:=by rfl) (hpl:(backTo cpos (starEach es X.env)).any (·.1)=false:=by rfl) :
  PS X (.Raise (some (.Call (.Name x np) (e::es) [] cpos)) none pos) (tRaiseC C E t):=by
 intro pins s σ H D I h
 obtain ⟨bm,N,nm,q,bs,hdct,sn,sub,ab,col,dd,k0,k1,k2,k3,k5,mN,h1,h2,h3,h4⟩:=(clsAt I.ok.mod.kin xc).ex
 refine wpAny_Raise_call_subU (nm:=nm) (q:=q) (N:=N) (bs:=bs) (hdct:=hdct) (sn:=sn) (sub:=sub) (ab:=ab) (col:=col) (dd:=dd) (k0:=k0) (k1:=k1) (k2:=k2) (k3:=k3) (k5:=k5) F.excBase_ValueError (bmB:=bmV) (by decide +kernel) F.excBase_ValueError (mN:=mN) (h4.hasType (by decide +kernel)) hh ?_ h3 (Jo I hg hm ⟨rfl,?_⟩ hdb)
 ·rw [he];show (false||(backTo cpos (starEach es X.env)).any (·.1))=false;rw [hpl];rfl
 have hp:=ha cpos pins s σ H _ I h
 rw [he] at hp ⊢
 refine Calls.evalArgs_plain (thn hp fun us s1 ⟨vs,H1,I1,r,hl,q1⟩=>⟨rfl,by show us.length≤_;rw [← r.length];exact hl,I1.bk _ _ h1,h2.keeps I1.bk,h4.keeps I1.bk,fun h' a hm=>?_⟩)
 obtain ⟨tt,ht,_,_⟩:=hm.there
 refine T pins σ H1 _ a C _ _ (some a) (I1.kept (h':=h') (t':=s1.toks) hm.keeps) ht rfl rfl rfl (.inr ⟨rfl,rfl,rfl⟩) (I1.hok.none hm.new) ?_ (q1 a (I1.hok.none hm.new))
 cases z:X.s₀.heap.get? a with
 | none=>rfl
 | some o =>
  obtain ⟨o',e⟩:=I1.base.there a o z (by rw [hex];simp)
  rw [hm.new] at e;cases e
end L2
end
section
namespace L2
open PySem PySem.W PySem.Spec PyProof.Rows
noncomputable def ExcO (a C:Addr) (d:Option Addr):HO := .ext fun h=>∃ o vs,h.get? a=some o∧o.cls = .ref C∧DictX a o.dict vs[2]? d∧o.data = .fields vs∧True
theorem Xnb {P:Program} {w:World} {H:Hp} {h:Heap} {a C T:Addr} {d:Option Addr} {fl:Value} (f:Fly h a (.ref C) d T fl):ObjOk P w H h a (ExcO a C d):=by
 obtain ⟨oe,vs,oT,ts,he,hc,hdd,hd,_,_,_,_,_,hcx⟩:=f
 exact ⟨⟨oe,vs,he,hc,hdd,hd,hcx⟩,⟨oe,he⟩,fun h1 h2 ⟨o,vs,e1,e2,e3,e4,e5⟩ k=>⟨o,vs,k o e1,e2,e3,e4,e5⟩⟩
theorem Zbc {M:Model} {A:Around} {E:Value→Shared→Prop} {K:Frag} {s:Shared} {a C D:Addr} {o:Obj} {b:Bool} {Q:Bool→Shared→Prop} (X:K.In s.heap) (he:s.heap.get? a=some o) (hc:o.cls = .ref C) (cD:ExcC K D) (tyD:typeIn K (.ref D)=some (.type "type"))
  (hm:mroIn K C (.ref D)=some b) (hq:Q b s):wpAny M A (excMatches (.ref a) (.ref D)) Q E s:=by
 obtain ⟨h,g,d,t,os⟩:=s
 have L1:=looks_typeIn (M:=M) X tyD
 have L2:=looks_mroIn (M:=M) X cD.be
 have L3:=looks_mroIn (M:=M) X hm
 have L4:=(Zxe (x:=a) cD).it M h X
 have L5:Looks M h (isType (.ref D)) true:=by
  obtain ⟨cdD,hcD⟩:=Option.isSome_iff_exists.mp (show (clsIn K D).isSome=true from cD.is)
  unfold clsIn at hcD
  split at hcD
  ·rename_i c' d' cd' sl' ho
   intro A' Q' E' s' k q
   unfold isType loadHead
   exact wpAny_bind (wpAny_loadPart (k _ _ (X _ _ ho)) (wpAny_pure q))
  ·cases hcD
 have f:=tc_notTuple
 unfold excMatches isExcClass isInstance
 repeat (first | (with_reducible refine wpAny_loadPart_at he ?_;rw [hc]) | with_reducible refine L1.at ?_ | with_reducible refine L5.at ?_ | with_reducible refine L2.at ?_ | with_reducible refine L3.at ?_ | wp_step)
 cases b
 ·repeat (first | exact hq | wp_step)
 ·repeat (first | exact hq | wp_step)
section
variable {X:Cx} {pins:List (Addr×Obj)} {σ:St} {H1 H2:Hp} {s1 s2:Shared} {h':Heap} {a C T T':Addr} {d:Option Addr}
theorem Inv.caught {t':Nat} (I1:Inv X pins σ H1 s1) (I2:Inv X pins σ H2 s2) (hex:X.ex=[]) (na:s1.heap.get? a=none) (nT:s1.heap.get? T=none) (fa:H2 a=none) (fT:H2 T=none)
  (keep:∀ b o,b≠a→b≠T→b∉frs X.stack→s2.heap.get? b=some o→h'.get? b=some o)
  (slot:∀ b o,b≠a→b≠T→s2.heap.get? b=some o→∃ sl,h'.get? b=some {o with slots:=sl}) (fly:Fly h' a (.ref C) d T' .none):Inv X pins σ (upd H2 a (ExcO a C d)) {s2 with heap:=h',toks:=t'}:=by
 have ne:∀ b o,s1.heap.get? b=some o→b≠a∧b≠T:=fun b o e=>⟨fun z=>(by rw [z,na] at e;cases e),fun z=>(by rw [z,nT] at e;cases e)⟩
 have ne0:∀ b o,X.s₀.heap.get? b=some o→b≠a∧b≠T:=fun b o e=>by
  obtain ⟨o',e'⟩:=I1.base.there b o e (by rw [hex];simp)
  exact ne b o' e'
 have neL:∀ b o,X.s₀.heap.get? b=some o→b≠X.env.locals:=fun b o e=>Nat.ne_of_lt (Nat.lt_of_lt_of_le (Heap.lt_size e) I2.ok.above)
 have nL:X.env.locals≠a∧X.env.locals≠T:=by
  obtain ⟨m,⟨o,_,_,ho,_⟩,_⟩:=I1.loc
  exact ne _ o ho
 have nC:∀ x c,X.env.cells.lookup x=some c→c≠a∧c≠T:=fun x c e=>by
  obtain ⟨v,o,ho,_⟩:=I1.cell x c e
  exact ne c o ho
 have cellK:∀ x c,X.env.cells.lookup x=some c→∀ v,s2.heap.IsCell c v→h'.IsCell c v:=fun x c e v ⟨o,ho,hd⟩=>by
  obtain ⟨sl,q⟩:=slot c o (nC x c e).1 (nC x c e).2 ho
  exact ⟨_,q,hd⟩
 refine ⟨I2.ok,I2.os,I2.bare,⟨fun b o e n hb hx=>?_,fun b o e n hb hx=>?_,fun b o e n hx=>?_,fun b o e hx=>?_,fun b xs e=>?_,fun b o u e=>?_,fun b ps e=>?_⟩,?_,fun x c e=>?_,?_,fun x c e=>?_,fun p hp=>?_,fun b u e=>?_,I2.len⟩
 ·refine keep b o (ne0 b o e).1 (ne0 b o e).2 (fun z=>?_) (I2.base.keep b o e n hb hx)
  exact (List.mem_cons.mp (I2.stkSub b z)).elim (neL b o e) hb
 ·obtain ⟨sl,e1⟩:=I2.base.slot b o e n hb hx
  obtain ⟨sl',e2⟩:=slot b _ (ne0 b o e).1 (ne0 b o e).2 e1
  exact ⟨sl',e2⟩
 ·rw [Zn (ne0 b o e).1];exact I2.base.free b o e n hx
 ·obtain ⟨o',e1⟩:=I2.base.there b o e hx
  obtain ⟨sl',e2⟩:=slot b _ (ne0 b o e).1 (ne0 b o e).2 e1
  exact ⟨_,e2⟩
 ·have:=I2.base.tups b xs e
  rw [Zn (Zt this fa)];exact this
 ·have:=I2.base.frzs b o u e
  rw [Zn (Zt this fa)];exact this
 ·obtain ⟨more,this⟩:=I2.base.tbls b ps e
  exact ⟨more,by rw [Zn (Zt this fa)];exact this⟩
 ·obtain ⟨m,⟨o,es,ep,ho,r⟩,hl⟩:=I2.loc
  obtain ⟨sl,q⟩:=slot _ o nL.1 nL.2 ho
  refine ⟨m,⟨_,es,ep,q,r⟩,fun i x v e1 e2 e3=>?_⟩
  obtain ⟨u,r,l⟩:=hl i x v e1 e2 e3
  refine ⟨u,r,?_⟩
  rcases l with l | ⟨k,c,e,z⟩
  ·exact .inl l
  ·exact .inr ⟨k,c,e,cellK x c e _ z⟩
 ·obtain ⟨v,z⟩:=I2.cell x c e
  exact ⟨v,cellK x c e v z⟩
 ·rw [Zn nL.1];exact I2.free
 ·rw [Zn (nC x c e).1];exact I2.freeC x c e
 ·obtain ⟨e,n,ne',nf,dd⟩:=I2.pin p hp
  obtain ⟨e1,_⟩:=I1.pin p hp
  refine ⟨keep p.1 p.2 (ne _ _ e1).1 (ne _ _ e1).2 (fun z=>(List.mem_cons.mp (I2.stkSub _ z)).elim ne' nf) e,?_,ne',nf,dd⟩
  rw [Zn (ne _ _ e1).1];exact n
 ·by_cases hb:b=a
  ·subst hb
   rw [Zb] at e;cases e
   exact Xnb fly
  ·rw [Zn hb] at e
   refine (I2.hok b u e).stay (fun c v hc q=>?_) (fun c r=>by rw [Zn (Zt r fa)];exact r) fun c xs r=>by rw [Zn (Zt r fa)];exact r
   have hcn:∃ z,H2 c=some z:=by
    rcases hc with rfl | hc
    ·exact ⟨_,e⟩
    ·exact ⟨_,hc⟩
   obtain ⟨z,hz⟩:=hcn
   refine keep c v (Zt hz fa) (Zt hz fT) (fun y=>?_) q
   rw [I2.stkFree c y] at hz;cases hz
end
noncomputable def tryXe (X:Cx) (pn:List (Addr×Obj)) (Eh:St→XK) (e:Value) (s':Shared):Prop:=∃ a C d T σ' H1 H' s1,e = .ref a∧Inv {X with pn:=pn} [] σ' H1 s1∧Inv {X with pn:=pn} [] σ' H' s'∧Fly s'.heap a (.ref C) d T .none∧
 H' a=none∧H' T=none∧s1.heap.get? a=none∧s1.heap.get? T=none∧Eh σ' (.ref C) d H'
noncomputable def Cx.tryC (X:Cx) (pn:List (Addr×Obj)) (Eh:St→XK):Cx:={X with pn:=pn,xe:=tryXe X pn Eh}
noncomputable def Cx.handC (X:Cx) (pn:List (Addr×Obj)) (e:Addr):Cx:={X with pn:=pn,A:=X.A.mark (some (.ref e)),calm:=false,xe:=fun _ _=>False}
theorem Zkf {X:Cx} {pn:List (Addr×Obj)} {Eh:St→XK}:PassesX (CXe X.prog X.w) (X.tryC pn Eh) Eh:=by
 intro pins σ H1 s1 e s2 I h
 obtain ⟨a,C,d,H2,T,rfl,os,bare,un,hok,fly,fa,fT,na,nT,q⟩:=h
 have I1:Inv {X with pn:=pn} [] σ H1 s1:=Inv.unwish (X:={X with pn:=pn}) (Inv.pins_of (pins':=[]) I (by simp))
 exact ⟨a,C,d,T,σ,H1,H2,s1,rfl,I1,I1.call' (ch:=[]) os un hok bare (fun b z=>absurd z (by simp)),fly,fa,fT,na,nT,q⟩
noncomputable def tTry (K:Frag) (D:Addr) (i:Nat) (Eh:St→XK) (tb th:TS):TS:=fun Dn σ H=>tb Dn σ H∧∀ σ' C d H' a,Eh σ' (.ref C) d H'→H' a=none→mroIn K C (.ref D)=some true∧
 th {nx:=fun σ H=>Dn.nx (σ.set i none) H,rt:=Dn.rt,bk:=fun σ H=>Dn.bk (σ.set i none) H,ct:=fun σ H=>Dn.ct (σ.set i none) H} (σ'.set i (some (.ref a))) (upd H' a (ExcO a C d))
theorem Cx.Ok.pns {X:Cx} (ok:X.Ok) (pn:List (Addr×Obj)):Cx.Ok {X with pn:=pn} :=
 ⟨ok.mod,ok.kind,ok.glob,ok.blt,ok.above,ok.inj,ok.has,ok.cab,ok.hd,ok.frames,ok.stk,ok.exf,ok.bs,ok.bsz,ok.noex,ok.exfs,ok.funs,ok.frf⟩
theorem Cx.Ok.hand {X:Cx} {pn:List (Addr×Obj)} (ok:Cx.Ok {X with pn:=pn}) (e:Addr):Cx.Ok (X.handC pn e) :=
 ⟨ok.mod,ok.kind,ok.glob,ok.blt,ok.above,ok.inj,ok.has,ok.cab,fun z=>Bool.noConfusion z,ok.frames,ok.stk,ok.exf,ok.bs,ok.bsz,ok.noex,ok.exfs,ok.funs,ok.frf⟩
theorem Inv.hand {X:Cx} {pn:List (Addr×Obj)} {σ:St} {H:Hp} {s:Shared} (I:Inv {X with pn:=pn} [] σ H s) (e:Addr):Inv (X.handC pn e) [] σ H s :=
 ⟨I.ok.hand e,I.os,I.bare,I.base,I.loc,I.cell,I.free,I.freeC,I.pin,I.hok,I.len⟩
theorem Inv.ins {X:Cx} {pins:List (Addr×Obj)} {σ:St} {H:Hp} {s:Shared} (I:Inv X pins σ H s):Inv {X with pn:=X.pn++pins} [] σ H s :=
 ⟨I.ok.pns _,I.os,I.bare,I.base,I.loc,I.cell,I.free,I.freeC,fun p hp=>I.pin p (by simpa using hp),I.hok,I.len⟩
theorem Inv.outs {X Y:Cx} {pins:List (Addr×Obj)} {σ:St} {H:Hp} {s:Shared} (ok:X.Ok) (I:Inv {X with pn:=X.pn++pins} [] σ H s):Inv X pins σ H s :=
 ⟨ok,I.os,I.bare,I.base,I.loc,I.cell,I.free,I.freeC,fun p hp=>I.pin p (by simpa using hp),I.hok,I.len⟩
theorem Inv.unhand {X:Cx} {pins:List (Addr×Obj)} {σ:St} {H:Hp} {s:Shared} {e:Addr} (ok:X.Ok) (I:Inv (X.handC (X.pn++pins) e) [] σ H s):Inv X pins σ H s :=
 ⟨ok,I.os,I.bare,I.base,I.loc,I.cell,I.free,I.freeC,fun p hp=>I.pin p (by simpa [Cx.handC] using hp),I.hok,I.len⟩
theorem Inv.gone {X:Cx} {M:Model} {A:Around} {E:Value→Shared→Prop} {pins:List (Addr×Obj)} {σ:St} {H:Hp} {s:Shared} {n:Str} {i:Nat} {pos:Pos} {Q:Unit→Shared→Prop} (I:Inv X pins σ H s) (hN:X.N.Nodup) (hi:X.N[i]?=some n) (hl:X.env.scope.names.lookup n=some .local)
  (h:∀ s',Inv X pins (σ.set i none) H s'→Q () s'):wpAny M A (do bindName X.env n .none;unbindBehindTheSuite X.env n pos) Q E s:=by
 obtain ⟨m,hn,hlk⟩:=id I.loc
 have hcls:(X.env.scope.kind == .class||(X.env.scope.kind == .module&&X.env.locals != X.env.globals))=false:=by rw [I.ok.kind];rfl
 have hiσ:i<σ.length:=by rw [I.len];exact (List.getElem?_eq_some_iff.mp hi).1
 refine wpAny_nameGoes_keeps hl hn hcls fun h' v hn' hs=>?_
 obtain ⟨oL,_,_,hoL,_⟩:=id hn
 have tracked:HOk X.prog X.w H h':=fun b ob e=>by
  refine (I.hok b ob e).stay (fun c w' hc q=>(hs.2 c ?_).trans q) (fun _ q=>q) fun _ _ q=>q
  rintro rfl
  rcases hc with rfl | hc
  ·rw [I.free] at e;cases e
  ·rw [I.free] at hc;cases hc
 refine h _ ⟨I.ok,I.os,I.bare,⟨fun b o e n hb hx=>?_,fun b o e n hb hx=>?_,I.base.free,fun b o e hx=>?_,I.base.tups,I.base.frzs,I.base.tbls⟩,⟨_,hn',fun j y v' e1 e2 e3=>?_⟩,fun y c e=>?_,I.free,I.freeC,fun p hp=>?_,tracked,by simpa using I.len⟩
 ·exact (hs.2 b (Nat.ne_of_lt (Nat.lt_of_lt_of_le (Heap.lt_size e) I.ok.above))).trans (I.base.keep b o e n hb hx)
 ·obtain ⟨sl,e1⟩:=I.base.slot b o e n hb hx
  exact ⟨sl,(hs.2 b (Nat.ne_of_lt (Nat.lt_of_lt_of_le (Heap.lt_size e) I.ok.above))).trans e1⟩
 ·obtain ⟨o',e1⟩:=I.base.there b o e hx
  exact ⟨o',(hs.2 b (Nat.ne_of_lt (Nat.lt_of_lt_of_le (Heap.lt_size e) I.ok.above))).trans e1⟩
 ·by_cases hj:j=i
  ·subst hj
   rw [List.getElem?_set_self hiσ] at e2
   cases e2
  ·rw [List.getElem?_set_ne (Ne.symm hj)] at e2
   obtain ⟨u',r',q⟩:=hlk j y v' e1 e2 e3
   refine ⟨u',r',?_⟩
   rcases q with ⟨k,e⟩ | ⟨k,c,e,z⟩
   ·refine .inl ⟨k,?_⟩
    have:y≠n:=fun e=>hj (Zlf hN e1 (e ▸ hi))
    simp [this,e]
   ·exact .inr ⟨k,c,e,z.sameBut hs (I.cne y c e)⟩
 ·obtain ⟨w',z⟩:=I.cell y c e
  exact ⟨w',z.sameBut hs (I.cne y c e)⟩
 ·obtain ⟨e,n,ne,nf,d⟩:=I.pin p hp
  exact ⟨(hs.2 p.1 ne).trans e,n,ne,nf,d⟩
theorem Xog {X:Cx} {body suite:List Stmt} {b₀:Stmt} {x n:Str} {i:Nat} {D:Addr} {np pos tpos:Pos} {tb th:TS} {Eh:St→XK} (hb:∀ pn,PSs (X.tryC pn Eh) body tb) (hh:∀ pn e,PSs (X.handC pn e) (b₀::suite) th)
  (hm:X.mg x=some (.ref D)) (cD:ExcC X.K D) (tyD:typeIn X.K (.ref D)=some (.type "type")) (hN:X.N.Nodup) (hi:X.N[i]?=some n:=by rfl) (hl:X.env.scope.names.lookup n=some .local:=by rfl)
  (hs:X.stack=X.env::X.outer:=by rfl) (hf:X.env.frame=some X.env.locals:=by rfl) (hex:X.ex=[]:=by rfl) (hg:Gl X x:=by rfl) (hdb:(x == ("__debug__":Str))=false:=by decide +kernel) :
  PS X (.Try body [.ExceptHandler (some (.Name x np)) (some n) (b₀::suite) pos] [] [] tpos) (tTry X.K D i Eh tb th):=by
 intro pins s σ H Dn I ⟨h1,h2⟩
 have ok:=I.ok
 refine wpAny_Try_except (wpAny_mono (hb (X.pn++pins) [] s σ H Dn (I.ins.wish _) h1) (fun f s1 z=>?_) (fun e s1 z=>?_))
 ·cases f with
  | next =>
   obtain ⟨σ',H',I',q⟩:=z
   exact Zl (X:=X) pins s1 σ' H' Dn (Inv.outs (Y:=X) ok (Inv.unwish (X:={X with pn:=X.pn++pins}) I')) q
  | brk=>obtain ⟨σ',H',I',q⟩:=z;exact ⟨σ',H',Inv.outs (Y:=X) ok (Inv.unwish (X:={X with pn:=X.pn++pins}) I'),q⟩
  | cont=>obtain ⟨σ',H',I',q⟩:=z;exact ⟨σ',H',Inv.outs (Y:=X) ok (Inv.unwish (X:={X with pn:=X.pn++pins}) I'),q⟩
  | ret u=>obtain ⟨v,σ',H',I',r,q⟩:=z;exact ⟨v,σ',H',Inv.outs (Y:=X) ok (Inv.unwish (X:={X with pn:=X.pn++pins}) I'),r,q⟩
 obtain ⟨a,C,d,T,σ',H1,H',s0,rfl,I1,I2,fly,fa,fT,na,nT,q⟩:=z
 obtain ⟨hmm,ht⟩:=h2 σ' C d H' a q fa
 have fr:X.A.frames=some (X.env::X.outer):=ok.frames.trans (congrArg some hs)
 have fst:s1.heap.FunFrames X.base (X.env::X.outer):=hs ▸ I2.stack
 refine noteD fr fst hf fly fun h' T' x1 x2 x3 x4=>?_
 refine landD (s:={s1 with heap:=h'}) x3 x1 fun h2 y1 y2 y3=>?_
 have nT':∀ b o,s1.heap.get? b=some o→b≠T':=fun b o e z=>by rw [z,x2] at e;cases e
 have k2:∀ b o,b≠a→b≠T→b∉frs X.stack→s1.heap.get? b=some o→h2.get? b=some o:=fun b o e1 e2 e3 e4=>y3 b o (nT' b o e4) (x4.keep b o e1 (fun z=>e2 (Option.some.inj z)) (fun z=>e3 (by rw [hs];exact z)) e4)
 have l2:∀ b o,b≠a→b≠T→s1.heap.get? b=some o→∃ sl,h2.get? b=some {o with slots:=sl}:=fun b o e1 e2 e4=>by
  obtain ⟨sl,e⟩:=x4.slot b o e1 (fun z=>e2 (Option.some.inj z)) e4
  exact ⟨sl,y3 b _ (nT' b o e4) e⟩
 have J2:=(I1.caught (h':=h2) (t':=s1.toks) I2 hex na nT fa fT k2 l2 y1).hand a
 refine wpAny_handleBy_cons (codeAny_handlers_test (Jo J2 hg hm ?_ hdb)) (by intro q;cases q)
 obtain ⟨oe,vs,oT,ts,he,hc,hdd,hd,_⟩:=id y1
 refine Zbc (K:=X.K) J2.kIn he hc cD tyD hmm ?_
 refine codeAny_handlers_suite_as (landD (s:={s1 with heap:=h2}) y2 y1 fun h3 w1 w2 w3=>?_)
 have n2:∀ b o,b≠T'→h2.get? b=some o→h3.get? b=some o:=w3
 have J3:=(I1.caught (h':=h3) (t':=s1.toks) I2 hex na nT fa fT (fun b o e1 e2 e3 e4=>w3 b o (nT' b o e4) (k2 b o e1 e2 e3 e4)) (fun b o e1 e2 e4=>by
  obtain ⟨sl,e⟩:=l2 b o e1 e2 e4
  exact ⟨sl,w3 b _ (nT' b o e4) e⟩) w1).hand a
 refine Zje (X:=X.handC (X.pn++pins) a) (v := .ref a) J3 hN hi (.inl hl) rfl (fun s4 I4=>?_) (.inr hl)
 refine wpAny_mono (hh (X.pn++pins) a [] s4 _ _ _ I4 ht) (fun f s5 z=>?_) fun _ _ z=>False.elim z
 cases f with
 | next =>
  obtain ⟨σ5,H5,I5,q5⟩:=z
  exact Inv.gone (I5.unhand ok) hN hi hl fun s6 I6=>⟨_,H5,I6,q5⟩
 | brk =>
  obtain ⟨σ5,H5,I5,q5⟩:=z
  exact Inv.gone (I5.unhand ok) hN hi hl fun s6 I6=>⟨_,H5,I6,q5⟩
 | cont =>
  obtain ⟨σ5,H5,I5,q5⟩:=z
  exact Inv.gone (I5.unhand ok) hN hi hl fun s6 I6=>⟨_,H5,I6,q5⟩
 | ret u =>
  obtain ⟨v,σ5,H5,I5,r5,q5⟩:=z
  exact Inv.gone (I5.unhand ok) hN hi hl fun s6 I6=>⟨v,_,H5,I6,r5,q5⟩
end L2
end
section
namespace L2
open PySem PySem.W PySem.Spec PyProof.Rows
section
variable {X:Cx}
theorem Xk:CallR X (.builtin "isinstance") (fun xs H Q=>∃ a C d c b,xs=[.ref a,c]∧H a=some (ExcO a C d)∧ExcC X.K C∧(d=none∨∃ dx fs,d=some dx∧H dx=some (.xd fs))∧(∀ cv,RelV c cv→PySem.W.kitOne X.K (.ref C) cv=some b)∧Q (.bl b) H):=by
 intro pins s σ H xs us Q I r h
 obtain ⟨a,C,d,c,b,rfl,ea,xc,hd,ek,q⟩:=h
 obtain ⟨u,w',rfl,r1,r2⟩:=vals2 r
 cases (show u=Value.ref a from r1)
 obtain ⟨⟨o,vs,e1,e2,e3,e4,_⟩,_⟩:=(show ObjOk X.prog X.w H s.heap a (ExcO a C d) from I.hok a _ ea)
 have J:∃ ox odo,W.InstAt s.heap a ox C odo:=by
  obtain ⟨cls,dict,data,sl⟩:=o
  subst e2 e4
  rcases e3 with ⟨e3,_⟩ | ⟨_,e3,_⟩
  ·dsimp only at e3
   subst e3
   rcases hd with rfl | ⟨dx,fs,rfl,hx⟩
   ·exact ⟨_,none,e1,rfl,rfl,trivial⟩
   ·obtain ⟨u,eu⟩:=I.hok.there hx
    exact ⟨_,some u,e1,rfl,rfl,eu⟩
  ·dsimp only at e3
   subst e3
   exact ⟨_,none,e1,rfl,rfl,trivial⟩
 exact PySem.W.kia_one (Zxe xc) I.kIn J (ek w' r2) (fun z=>nomatch z) fun tk=>⟨.bl b,H,I.tok _,rfl,q⟩
theorem room64 {k:Nat} {A:Around} (hr:Room k A):A.units+64<cLine:=by have:=hr.un;omega
end
section
variable {X:Cx} {k1 k2 k':Nat} {x:Str} {ps:List Str} {sp1 sp2:Sp} {e:Expr} {es:List Expr} {t:TA} {p pos:Pos} {E:St→XK}
end
end L2
namespace L2
open PySem
theorem Zpc:bootBuiltins "ValueError"=some (.type "ValueError"):=by decide +kernel
end L2
end
section
namespace L2
open PySem PySem.W PySem.Spec PyProof.Rows PySem.Builtin.ObjectAttr
noncomputable def overV:List Value→Bool
 | .ref _::r=>overV r
 | l=>l == bmV
structure ExcS (K:Frag) (C:Addr):Prop extends ExcC K C where
 sa:findIn K (.ref C) "__setattr__"=some (some (.builtin "object.__setattr__"))
 ov:(clsIn K C).any (fun cd=>overV cd.mro)=true
 hd:hasDictIn K C=true
section
variable {K:Frag} {prog:Program} {w:World} {A:Around} {E:Value→Shared→Prop} {s:Shared} {x C:Addr} {ox:Obj} {od:Option Obj} {name:Str} {v:Value}
end
end L2
end
section
namespace L2
open PySem PySem.W PySem.Spec PyProof.Rows
noncomputable def excInI (K:Frag) (C f:Addr):Bool:=match K.lookup C with
 | some ⟨.type "type",_,.cls cd,sl⟩=>(match cd.mro,sl.toList with
  | .ref C'::bm,[_,_,_,_,some (.builtin n),_]=>C' == C&&n == "ValueError.__new__"&&!cd.hasDel&&tailIn K bmV bm&&nsOkIn K cd.ns&&nsIn K cd.ns "__init__" == some (some (.ref f))
  | _,_=>false)
 | _=>false
structure ClsAtI (h:Heap) (C f:Addr):Prop where
 ex:∃ (bm:List Value) (N:Addr) (nm q:Str) (bs:List Value) (hdct:Bool) (sn:List Str) (sub:List Value) (ab:Bool) (col:Option Bool) (dd:Option Addr) (k0 k1 k2 k3 k5:Option Value) (mN:Str→Option Value),
  h.get? C=some (excClassObj nm q C N bs bm hdct sn sub ab col dd k0 k1 k2 k3 k5 "ValueError.__new__")∧h.Ns N mN∧mN "__init__"=some (.ref f)∧OwnTail h bmV bm
section
variable {prog:Program} {w:World} {A:Around} {E:Value→Shared→Prop} {h:Heap} {g:Array GenState} {d:Drawn} {t:Nat} {os:OsState}
variable {nm q:Str} {C N:Addr} {bs bm bmB:List Value} {hdct:Bool} {sn:List Str} {sub:List Value} {ab:Bool} {col:Option Bool} {dd:Option Addr} {k0 k1 k2 k3 k5:Option Value} {B Bn newId nid initId inN:String} {bmN:List Value}
end
structure XMk (K:Frag) (mg:Str→Option Value) (x:Str) (C f:Addr):Prop where
 xi:excInI K C f=true
 fn:typeIn K (.ref f)=some (.type "function")
 kp:keepIn K (.ref C)=true
 be:mroIn K C (.type "BaseException")=some true
 ty:typeIn K (.ref C)=some (.type "type")
 gm:mg x=some (.ref C)
end L2
end
section
namespace L2
open PySem PySem.W PySem.Spec PyProof.Rows
noncomputable abbrev TJ:=Str→St→Hp→VK→Prop
section
variable {X:Cx} {e o:Expr} {es:List Expr} {te ta tv:TE} {t:TJ} {pos:Pos}
end
section
variable {X:Cx} {x:Str} {C D f:Addr} {np apos pos:Pos} {e:Expr} {es:List Expr} {t:TA}
end
end L2
end
section
namespace L2
open PySem PySem.W PySem.Spec PyProof.Rows
noncomputable def MethOkE (P:Program) (w:World) (K:PySem.W.Frag) (mg:Str→Option Value) (base:Heap) (k:Nat) (C:Addr) (m:Str) (ps:List Str) (sp:Sp):Prop :=
 ∃ f fd,FnOk P w K mg base (CXe P w) k f fd ps sp∧Binds K fd ps []∧Meth K C m f
section
variable {X:Cx} {k1 k2 k':Nat} {C:Addr} {m:Str} {ps:List Str} {sp1 sp2:Sp} {e o:Expr} {es:List Expr} {t:TA} {ta:TE} {p pos apos:Pos} {E:St→XK}
end
end L2
namespace L2
open PySem PySem.Spec PyProof.Rows
end L2
end
section
namespace KM
open PySem L2
end KM
end
section
namespace L2
open PySem PySem.W PySem.Spec PyProof.Rows
section
variable {X:Cx}
noncomputable def oAdd3:=OpR.or (oAdd (X:=X)) Zbb
noncomputable def oMul3:=OpR.or (oMul (X:=X)) Xpc
end
end L2
namespace KM
open PySem L2
end KM
end
section
namespace L2
open PySem PySem.W PySem.Spec PyProof.Rows
section
variable {X:Cx}
end
section
variable {X:Cx} {tg:Expr}
theorem Zmf (hc:X.calm=true):CallR X (.builtin "all") (fun xs H Q=>∃ a,∃ bs:List Bool,xs=[.ref a]∧SqL X.K H a (bs.map .bl)∧Q (.bl (bs.all id)) H):=by
 intro pins s σ H xs us Q I r h
 obtain ⟨a,bs,rfl,hq,q⟩:=h
 obtain ⟨u,rfl,ru⟩:=vals1 r
 obtain rfl:u=Value.ref a:=ru
 obtain ⟨its,rv,pl,hz⟩:=I.list hq
 have hlen:=rv.length
 have hlt:a<s.heap.objs.size:=by obtain ⟨o,ho,_⟩:=pl.isList;exact Heap.lt_size ho
 refine call_all_walkS (wpAny_pyIter_list pl.isList ?_)
 refine ⟨s.heap.objs.size,[s.heap.objs.size,a],[s.heap.objs.size],_,its.toArray.size,_,_,fun i=>bs.getD i false,rfl,(Walks.list (A:=X.A.in1) (I.ok.hd hc) s.heap.objs.size a (Nat.ne_of_lt hlt) its.toArray).toS,⟨⟨_,Heap.get?_push_size _ rfl,rfl,rfl⟩,?_⟩,?_,fun s' mv=>?_⟩
 ·obtain ⟨o,ho,r⟩:=pl.isList;exact ⟨o,Heap.get?_push_of_some _ ho,r⟩
 ·intro i v s2 Q2 E2 hv q2
  have hv':its[i]?=some v:=by simpa using hv
  have hi:i<bs.length:=by
   have:=(List.getElem?_eq_some_iff.mp hv').1
   rw [List.length_map] at hlen;omega
  have hb:(bs.map V.bl)[i]?=some (.bl (bs.getD i false)):=by rw [List.getElem?_map,List.getElem?_eq_getElem hi,List.getD_eq_getElem?_getD,List.getElem?_eq_getElem hi];rfl
  obtain ⟨u,hu,ru⟩:=rv.get hb
  rw [hv'] at hu;cases hu
  obtain rfl:v=Value.bool (bs.getD i false):=ru
  exact wpAny_truthy_bool q2
 ·have hall:(List.range its.toArray.size).all (fun i=>bs.getD i false)=bs.all id:=by
   rw [List.size_toArray,← hlen,List.length_map]
   apply Bool.eq_iff_iff.mpr
   rw [List.all_eq_true,List.all_eq_true]
   constructor
   ·intro h x hx
    obtain ⟨i,hi,rfl⟩:=List.mem_iff_getElem.mp hx
    have:=h i (List.mem_range.mpr hi)
    rw [List.getD_eq_getElem?_getD,List.getElem?_eq_getElem hi] at this
    exact this
   ·intro h i hi
    have hi':=List.mem_range.mp hi
    rw [List.getD_eq_getElem?_getD,List.getElem?_eq_getElem hi']
    exact h _ (List.getElem_mem hi')
  rw [hall]
  refine ⟨.bl _,H,?_,rfl,q⟩
  have I2:Inv X pins σ H {s with heap:=s.heap.push {cls := .type "list_iterator",data := .fields #[.ref a,.int 0 0]}}:=I.kept (t':=s.toks) fun b o e=>Heap.get?_push_of_some _ e
  obtain ⟨f0,f1,f2,f3,f4,f5⟩:=I.fpOk (b:=s.heap.objs.size) (Nat.le_refl _) (I.hok.fresh (Nat.le_refl _))
  have e:s'={s with heap:=s'.heap,toks:=s'.toks}:=by
   obtain ⟨h1,g1,d1,t1,o1⟩:=s'
   have:=mv.gens;have:=mv.drawn;have:=mv.os
   dsimp only at *
   subst_vars;rfl
  have I3:=I2.turned (t':=s'.toks) (it:=s.heap.objs.size) (h':=s'.heap) (fun b o hb e=>mv.heap b o (by simpa using hb) e) f0 f1 f3 f4 f5
  rw [e]
  exact I3
end
end L2
namespace L2
open PySem PySem.W PySem.Spec PyProof.Rows
section
variable {X:Cx}
theorem Zqf:∀ ns:List Int,PyData.canLayAll0 (ns.map PyData.int)=true
 | []=>rfl
 | _::r=>by simp [PyData.canLayAll0,PyData.canLay0,Zqf r]
theorem Zxg:∀ ns:List Int,PyData.depthAll (ns.map PyData.int)=0
 | []=>rfl
 | _::r=>by simp [PyData.depthAll,PyData.depth,Zxg r]
theorem Zcf (ns:List Int):SeqAt.shaped (.list (ns.map PyData.int))=true:=by
 simp [SeqAt.shaped,PyData.canLay0,PyData.depth,Zqf,Zxg]
theorem Zmb:∀ ns ms:List Int,PySem.Spec.sameAll (ns.map PyData.int) (ms.map PyData.int)=decide (ns=ms)
 | [],[]=>by simp [PySem.Spec.sameAll]
 | [],_::_=>by simp [PySem.Spec.sameAll]
 | _::_,[]=>by simp [PySem.Spec.sameAll]
 | a::r,b::t=>by
  simp only [List.map_cons,PySem.Spec.sameAll,PySem.Spec.same,Zmb r t]
  by_cases h:a=b<;>by_cases h':r=t<;>simp [h,h']
theorem Xcf (ns ms:List Int):PySem.Spec.same (.list (ns.map PyData.int)) (.list (ms.map PyData.int))=decide (ns=ms):=by
 simp only [PySem.Spec.same];exact Zmb ns ms
theorem Qn:∀ {vs:List Value} {ns:List Int},Vals (ns.map V.int) vs→CarriedAll vs (ns.map PyData.int)
 | [],[],_ => .nil
 | v::vs,b::ns,h=>by
  cases h with
  | cons a r =>
   obtain ⟨t,rfl⟩:=(show ∃ t,v=Value.int b t from a)
   exact .cons (.int _ _) (Qn r)
 | [],_::_,h=>by cases h
 | _::_,[],h=>by cases h
noncomputable def rEqI:R2:=fun x y H Q=>∃ (l b:Addr) (xs zs:List Int),x = .ref l∧y = .ref b∧H l=some (.lst (xs.map .int))∧H b=some (.lst (zs.map .int))∧Q (.bl (decide (xs=zs))) H
noncomputable def rNeI:R2:=fun x y H Q=>∃ (l b:Addr) (xs zs:List Int),x = .ref l∧y = .ref b∧H l=some (.lst (xs.map .int))∧H b=some (.lst (zs.map .int))∧Q (.bl (!decide (xs=zs))) H
theorem Xpf (hu:X.A.units+64<cLine):OpR X (compareOp .Eq) rEqI:=by
 intro pins s σ H x y v u Q I rx ry h
 obtain ⟨l,b,xs,zs,rfl,rfl,h1,h2,q⟩:=h
 cases rx
 cases ry
 obtain ⟨_,its,n,r,_,e⟩:=I.lstM h1
 obtain ⟨_,its2,n2,r2,_,e2⟩:=I.lstM h2
 exact eq_dataH_same (reads_newData ⟨_,e,rfl,n,rfl⟩ (Qn r)) (reads_newData ⟨_,e2,rfl,n2,rfl⟩ (Qn r2)) (Zcf _) (Zcf _) hu (SeqAt.noMix_of_shape (.list .int) rfl _ _ (list_map_has fun _=>rfl) (list_map_has fun _=>rfl)) (by rw [Xcf];exact ⟨.bl _,H,I,rfl,q⟩)
theorem Xpd (hu:X.A.units+64<cLine):OpR X (compareOp .NotEq) rNeI:=by
 intro pins s σ H x y v u Q I rx ry h
 obtain ⟨l,b,xs,zs,rfl,rfl,h1,h2,q⟩:=h
 cases rx
 cases ry
 obtain ⟨_,its,n,r,_,e⟩:=I.lstM h1
 obtain ⟨_,its2,n2,r2,_,e2⟩:=I.lstM h2
 exact ne_dataH_same (reads_newData ⟨_,e,rfl,n,rfl⟩ (Qn r)) (reads_newData ⟨_,e2,rfl,n2,rfl⟩ (Qn r2)) (Zcf _) (Zcf _) hu (SeqAt.noMix_of_shape (.list .int) rfl _ _ (list_map_has fun _=>rfl) (list_map_has fun _=>rfl)) (by rw [Xcf];exact ⟨.bl _,H,I,rfl,q⟩)
noncomputable def oEqL (hu:X.A.units+64<cLine):=OpR.or (oEq (X:=X)) (Xpf hu)
noncomputable def oNeL (hu:X.A.units+64<cLine):=OpR.or (oNe (X:=X)) (Xpd hu)
end
end L2
namespace L2
open PySem PySem.W PySem.Spec PyProof.Rows
theorem Zrc {K:PySem.W.Frag} {a:Addr} {xs:List V} {g:TG} {te:TE} {Q:VK} {H:Hp} {D:Addr} {σ0:St} (f:V→V) (S:St→Prop) (hz:xs.length≤sizeLine) (h0:S σ0) (hD:H D=none) (hl:SqL K H a xs)
  (ht:∀ x,x∈xs→∀ σ1 H1,S σ1→Same H H1→∀ R:St→V→Hp→Prop,(∀ σ2,S σ2→R σ2 (f x) H1)→g x σ1 H1 fun σ2 H2=>te σ2 H2 fun y H3=>R σ2 y H3)
  (hq:Q (.ref D) (upd H D (.lst (xs.map f)))) :
  CompGo (Itl K a) g tYes te Q σ0 H D:=by
 refine ⟨fun i m σ1 H2=>i≤xs.length∧m=xs.length - i∧S σ1∧H2=upd H D (.lst ((xs.take i).map f)),⟨xs.length,Nat.zero_le _,rfl,h0,rfl⟩,?_⟩
 rintro i m σ1 H2 ⟨h1,rfl,h2,rfl⟩
 have hl2:=(Zj (o := .lst ((xs.take i).map f)) hD).seq hl
 rcases Nat.lt_or_ge i xs.length with z | z
 ·refine .inr ⟨⟨xs,xs[i],hl2,List.getElem?_eq_getElem z⟩,?_⟩
  rintro x H3 ⟨rfl,hx⟩
  have hx:=hx xs hl2
  refine ht x (List.mem_of_getElem? hx) σ1 _ h2 (Zj hD) (fun σ2 y H6=>∃ ys m',H6 D=some (.lst ys)∧ys.length<sizeLine∧m'<xs.length - i∧(i+1≤xs.length∧m'=xs.length - (i+1)∧S σ2∧upd H6 D (.lst (ys++[y]))=upd H D (.lst ((xs.take (i+1)).map f)))) fun σ2 q3=>?_
  refine ⟨_,xs.length - (i+1),Zb,?_,by omega,by omega,rfl,q3,?_⟩
  ·rw [List.length_map,List.length_take];omega
  ·rw [Xh,List.take_add_one,hx,List.map_append];rfl
 ·have e:i=xs.length:=by omega
  subst e
  rw [List.take_length]
  rw [List.take_length] at hl2
  exact .inl ⟨⟨xs,hl2,Nat.le_refl _⟩,hq⟩
theorem Zyg {K:PySem.W.Frag} {a:Addr} {xs:List V} {g:TG} {tc:TT} {te:TE} {Q:VK} {H:Hp} {D:Addr} {σ0:St} (keep:V→Bool) (f:V→V) (S:St→Prop) (hz:xs.length≤sizeLine) (h0:S σ0) (hD:H D=none) (hl:SqL K H a xs)
  (ht:∀ x,x∈xs→∀ σ1 H1,S σ1→Same H H1→∀ (R:St→V→Hp→Prop) (R':St→Hp→Prop),(∀ σ2,S σ2→if keep x=true then R σ2 (f x) H1 else R' σ2 H1)→g x σ1 H1 fun σ2 H2=>tc σ2 H2 fun b H3=>if b=true then te σ2 H3 fun y H4=>R σ2 y H4 else R' σ2 H3)
  (hq:Q (.ref D) (upd H D (.lst ((xs.filter keep).map f)))) :
  CompGo (Itl K a) g tc te Q σ0 H D:=by
 refine ⟨fun i m σ1 H2=>i≤xs.length∧m=xs.length - i∧S σ1∧H2=upd H D (.lst (((xs.take i).filter keep).map f)),⟨xs.length,Nat.zero_le _,rfl,h0,rfl⟩,?_⟩
 rintro i m σ1 H2 ⟨h1,rfl,h2,rfl⟩
 have hl2:=(Zj (o := .lst (((xs.take i).filter keep).map f)) hD).seq hl
 rcases Nat.lt_or_ge i xs.length with z | z
 ·refine .inr ⟨⟨xs,xs[i],hl2,List.getElem?_eq_getElem z⟩,?_⟩
  rintro x H3 ⟨rfl,hx⟩
  have hx:=hx xs hl2
  refine ht x (List.mem_of_getElem? hx) σ1 _ h2 (Zj hD) (fun σ2 y H6=>∃ ys m',H6 D=some (.lst ys)∧ys.length<sizeLine∧m'<xs.length - i∧(i+1≤xs.length∧m'=xs.length - (i+1)∧S σ2∧upd H6 D (.lst (ys++[y]))=upd H D (.lst (((xs.take (i+1)).filter keep).map f))))
   (fun σ2 H5=>∃ m',m'<xs.length - i∧(i+1≤xs.length∧m'=xs.length - (i+1)∧S σ2∧H5=upd H D (.lst (((xs.take (i+1)).filter keep).map f)))) fun σ2 q3=>?_
  have et:xs.take (i+1)=xs.take i++[x]:=by rw [List.take_add_one,hx];rfl
  by_cases hk:keep x=true
  ·rw [if_pos hk]
   refine ⟨_,xs.length - (i+1),Zb,?_,by omega,by omega,rfl,q3,?_⟩
   ·rw [List.length_map]
    have:=List.length_filter_le keep (xs.take i)
    rw [List.length_take] at this;omega
   ·rw [Xh,et,List.filter_append,List.map_append,List.filter_cons_of_pos hk];rfl
  ·rw [if_neg hk]
   refine ⟨xs.length - (i+1),by omega,by omega,rfl,q3,?_⟩
   rw [et,List.filter_append,List.map_append,List.filter_cons_of_neg hk];simp
 ·have e:i=xs.length:=by omega
  subst e
  rw [List.take_length]
  rw [List.take_length] at hl2
  exact .inl ⟨⟨xs,hl2,Nat.le_refl _⟩,hq⟩
end L2
end
section
namespace KM
open PySem L2
noncomputable def Tail (r:List Int):Prop:=(∀ x∈r,1≤x)∧∀ h:r≠[],2≤r.getLast h
noncomputable def Good:List Int→Prop
 | []=>False
 | _::r=>Tail r
end KM
end
section
namespace L2
open PySem PySem.W PySem.Spec PyProof.Rows
section
variable {X:Cx} {pins:List (Addr×Obj)} {σ:St} {H:Hp} {s:Shared} {h':Heap}
theorem Inv.turnedNew {t':Nat} {ch:List Addr} {a:Addr} {o:HO} (I:Inv X pins σ H s) (k:∀ b u,b∉ch→s.heap.get? b=some u→h'.get? b=some u) (hf:∀ b∈ch,FpOk X pins H b) (ha:s.heap.objs.size≤a) (new:ObjOk X.prog X.w (upd H a o) h' a o) :
  Inv X pins σ (upd H a o) {s with heap:=h',toks:=t'}:=by
 have hn:=I.hok.fresh ha
 have nch:∀ b u,H b=some u→b∉ch:=fun b u e z=>by have:=(hf b z).1;rw [this] at e;cases e
 have ne:∀ b u,s.heap.get? b=some u→b≠a:=fun b u e z=>by subst z;exact absurd (Nat.lt_of_lt_of_le (Heap.lt_size e) ha) (Nat.lt_irrefl _)
 refine I.step (g':=s.gens) (d':=s.drawn) (ch:=ch) (fun b hb=>?_) (fun b o _ _ hc e _=>k b o hc e) (fun b o _ _ hc e _=>⟨o.slots,k b o hc e⟩) (fun b u _ e n=>by rw [Zn (ne b u e)];exact n)
  (fun b o hc e=>⟨o,k b o hc e⟩) (fun b xs e=>by rw [Zn (Zt e hn)];exact e) (fun b u v e=>by rw [Zn (Zt e hn)];exact e) (fun b ps e=>⟨#[],by rw [Zn (Zt e hn),e];simp⟩) (fun m hm=>?_) (fun b u e=>?_) I.bare
 ·obtain ⟨f0,f1,f2,f3,f4,f5⟩:=hf b hb
  exact ⟨f3,f1,f4,f5⟩
 ·obtain ⟨ob,es,ep,ho,r⟩:=hm
  exact ⟨ob,es,ep,k _ ob (fun z=>(hf _ z).2.1 rfl) ho,r⟩
 ·by_cases hb:b=a
  ·subst hb;rw [Zb] at e;cases e;exact new
  ·rw [Zn hb] at e
   refine (I.hok b u e).stay (fun c v hc q=>k c v ?_ q) (fun c q=>by rw [Zn (Zt q hn)];exact q) fun c xs q=>by rw [Zn (Zt q hn)];exact q
   rcases hc with z | z
   ·rw [z];exact nch b u e
   ·exact nch c _ z
theorem Inv.turnedL {t':Nat} {ch:List Addr} (I:Inv X pins σ H s) (k:∀ b u,b∉ch→s.heap.get? b=some u→h'.get? b=some u) (hf:∀ b∈ch,FpOk X pins H b):Inv X pins σ H {s with heap:=h',toks:=t'}:=by
 have nch:∀ b u,H b=some u→b∉ch:=fun b u e z=>by have:=(hf b z).1;rw [this] at e;cases e
 refine I.step (g':=s.gens) (d':=s.drawn) (ch:=ch) (fun b hb=>?_) (fun b o _ _ hc e _=>k b o hc e) (fun b o _ _ hc e _=>⟨o.slots,k b o hc e⟩) (fun _ _ _ _ n=>n)
  (fun b o hc e=>⟨o,k b o hc e⟩) (fun _ _ e=>e) (fun _ _ _ e=>e) (fun b ps e=>⟨#[],by rw [e];simp⟩) (fun m hm=>?_) (fun b u e=>?_) I.bare
 ·obtain ⟨f0,f1,f2,f3,f4,f5⟩:=hf b hb
  exact ⟨f3,f1,f4,f5⟩
 ·obtain ⟨ob,es,ep,ho,r⟩:=hm
  exact ⟨ob,es,ep,k _ ob (fun z=>(hf _ z).2.1 rfl) ho,r⟩
 ·refine (I.hok b u e).stay (fun c v hc q=>k c v ?_ q) (fun _ q=>q) fun _ _ q=>q
  rcases hc with z | z
  ·rw [z];exact nch b u e
  ·exact nch c _ z
end
section
variable {X:Cx}
end
end L2
end
section
namespace KM
open PySem L2
noncomputable def more:List Int→List Bool
 | []=>[false]
 | b::r=>true::(cnt (b - 1).toNat++more r).map (!·)
noncomputable def cd (p q:Int):Int:=if h:0<q then cd q (p%q) else p
termination_by q.toNat
decreasing_by
 have:=Int.emod_lt_of_pos p h
 have:=Int.emod_nonneg p (Int.ne_of_gt h)
 omega
end KM
namespace L2
open PySem PySem.Spec PyProof.Rows
end L2
end
section
namespace KM
open PySem L2
end KM
end
section
namespace L2
open PySem PySem.W PySem.Spec PyProof.Rows
section
variable {X:Cx}
end
theorem Zac {K:PySem.W.Frag} {a:Addr} {xs:List V} {g:TG} {te:TE} {Q:VK} {H:Hp} {D:Addr} {σ0:St} (fe:Nat→V) (S:St→Prop) (hz:xs.length≤sizeLine) (h0:S σ0) (hD:H D=none) (hl:SqL K H a xs)
  (ht:∀ i x,xs[i]?=some x→∀ σ1 H1,S σ1→Same H H1→∀ R:St→V→Hp→Prop,(∀ σ2,S σ2→R σ2 (fe i) H1)→g x σ1 H1 fun σ2 H2=>te σ2 H2 fun y H3=>R σ2 y H3)
  (hq:Q (.ref D) (upd H D (.lst ((List.range xs.length).map fe)))) :
  CompGo (Itl K a) g tYes te Q σ0 H D:=by
 refine ⟨fun i m σ1 H2=>i≤xs.length∧m=xs.length - i∧S σ1∧H2=upd H D (.lst ((List.range i).map fe)),⟨xs.length,Nat.zero_le _,rfl,h0,rfl⟩,?_⟩
 rintro i m σ1 H2 ⟨h1,rfl,h2,rfl⟩
 have hl2:=(Zj (o := .lst ((List.range i).map fe)) hD).seq hl
 rcases Nat.lt_or_ge i xs.length with z | z
 ·refine .inr ⟨⟨xs,xs[i],hl2,List.getElem?_eq_getElem z⟩,?_⟩
  rintro x H3 ⟨rfl,hx⟩
  have hx:=hx xs hl2
  refine ht i x hx σ1 _ h2 (Zj hD) (fun σ2 y H6=>∃ ys m',H6 D=some (.lst ys)∧ys.length<sizeLine∧m'<xs.length - i∧(i+1≤xs.length∧m'=xs.length - (i+1)∧S σ2∧upd H6 D (.lst (ys++[y]))=upd H D (.lst ((List.range (i+1)).map fe)))) fun σ2 q3=>?_
  refine ⟨_,xs.length - (i+1),Zb,by rw [List.length_map,List.length_range];omega,by omega,by omega,rfl,q3,?_⟩
  rw [Xh,List.range_succ,List.map_append];rfl
 ·have e:i=xs.length:=by omega
  subst e
  exact .inl ⟨⟨xs,hl2,Nat.le_refl _⟩,hq⟩
end L2
end
section
namespace L2
open PySem PySem.W PySem.Spec PyProof.Rows
end L2
end
section
namespace KM
open PySem L2
noncomputable def mp:List Int→List Bool
 | []=>[]
 | b::r=>true::(cnt (b - 1).toNat++mp r).map (!·)
end KM
end
section
namespace L2
open PySem PySem.W PySem.Spec PyProof.Rows
section
variable {X:Cx}
end
end L2
namespace KM
open PySem L2
noncomputable def Lt (a b:List Bool):Prop:=(rowS a).cps.toList<(rowS b).cps.toList
noncomputable instance (a b:List Bool):Decidable (Lt a b):=inferInstanceAs (Decidable (_<_))
noncomputable def com:List Bool→List Bool→Nat
 | x::a,y::b=>if x=y then com a b+1 else 0
 | _,_=>0
end KM
namespace KM
open PySem L2
end KM
end
section
namespace L2
open PySem PySem.W PySem.Spec PyProof.Rows
section
variable {prog:Program} {w:World} {A:Around} {E:Value→Shared→Prop} {s:Shared}
end
section
variable {X:Cx}
end
noncomputable def Itz (K:PySem.W.Frag) (a b:Addr) (xs ys:List V):It :=
 ⟨fun i H=>SqL K H a xs∧SqL K H b ys∧i<min xs.length ys.length,fun i H x H'=>∃ (T:Addr) (u v:V),H T=none∧xs[i]?=some u∧ys[i]?=some v∧x = .ref T∧H'=upd H T (.tup [u,v]),fun i H=>SqL K H a xs∧SqL K H b ys∧min xs.length ys.length≤i⟩
theorem Xga {P:Program} {w:World} {K:PySem.W.Frag} {elts:List Expr} {k:Nat} {pos:Pos} (a b z TI TO i1 i2:Addr) (xs ys:List V) (D:ZipApart z TI TO i1 i2 a b) :
  Turn P w K (.Tuple elts k pos) (Itz K a b xs ys) [z,TI,TO,i1,i2] z (fun i h=>i≤min xs.length ys.length∧IsZip h z TI TO .none∧IsPair h TI (.ref i1) (.ref i2)∧(∃ a b,IsPair h TO a b)∧h.IsListIter i1 a i∧h.IsListIter i2 b i) where
 mem:=by simp
 obj:=fun i h st c hc=>by
  obtain ⟨_,st1,st2,⟨p,q,st3⟩,st4,st5⟩:=st
  rcases List.mem_cons.mp hc with e | hc
  ·subst e;exact ⟨_,st1,fun v z=>by cases z⟩
  rcases List.mem_cons.mp hc with e | hc
  ·subst e;exact ⟨_,st2,fun v z=>by cases z⟩
  rcases List.mem_cons.mp hc with e | hc
  ·subst e;exact ⟨_,st3,fun v z=>by cases z⟩
  rcases List.mem_cons.mp hc with e | hc
  ·subst e
   obtain ⟨o,e,c,d⟩:=st4
   exact ⟨o,e,fun v z=>by rw [d] at z;cases z⟩
  ·obtain rfl:=List.mem_singleton.mp hc
   obtain ⟨o,e,c,d⟩:=st5
   exact ⟨o,e,fun v z=>by rw [d] at z;cases z⟩
 keep:=fun i h h' st k=>by
  obtain ⟨hi,st1,st2,⟨p,q,st3⟩,st4,st5⟩:=st
  exact ⟨hi,k z (by simp) _ st1,k TI (by simp) _ st2,⟨p,q,k TO (by simp) _ st3⟩,st4.at fun o e=>k i1 (by simp) o e,st5.at fun o e=>k i2 (by simp) o e⟩
 item:=by
  intro X hP hw hK hc i pins s σ H E I hf st hg
  subst hP hw hK
  obtain ⟨hq1,hq2,hi⟩:=hg
  obtain ⟨its1,rv1,p1,hz1⟩:=I.list hq1
  obtain ⟨its2,rv2,p2,hz2⟩:=I.list hq2
  have hlen1:=rv1.length
  have hlen2:=rv2.length
  have W:=WalksT.zip2 (prog:=X.prog) (w:=X.w) (I.ok.hd hc) z TI TO i1 i2 a b D its1.toArray its2.toArray
  refine W.item i s _ _ (by rw [List.size_toArray,List.size_toArray];omega) ⟨st.2.1,st.2.2.1,st.2.2.2.1,st.2.2.2.2.1,st.2.2.2.2.2,p1.isList,p2.isList⟩ fun T vals h' tk hv hT htup mid kk=>?_
  refine ⟨_,rfl,W.go elts k pos i T _ _ _ mid fun h'' st' kk'=>?_⟩
  obtain ⟨u1,u2,hu1,hu2,rfl⟩:=hv
  have hu1':its1[i]?=some u1:=by simpa using hu1
  have hu2':its2[i]?=some u2:=by simpa using hu2
  have hy1:xs[i]?=some (xs[i]'(by omega)):=List.getElem?_eq_getElem _
  have hy2:ys[i]?=some (ys[i]'(by omega)):=List.getElem?_eq_getElem _
  obtain ⟨v1,hv1,ru1⟩:=rv1.get hy1
  obtain ⟨v2,hv2,ru2⟩:=rv2.get hy2
  rw [hu1'] at hv1;cases hv1
  rw [hu2'] at hv2;cases hv2
  have hTf:=I.hok.fresh hT
  have nT:T∉[z,TO,i1,i2]:=W.apart i T h' mid
  have nT2:∀ c∈[z,TI,TO,i1,i2],c≠T:=fun c hcm e=>by
   subst e
   rcases List.mem_cons.mp hcm with e | hcm
   ·exact nT (by rw [e];simp)
   rcases List.mem_cons.mp hcm with e | hcm
   ·have h0:=Heap.lt_size st.2.2.1
    rw [← e] at h0
    exact absurd (Nat.lt_of_lt_of_le h0 hT) (Nat.lt_irrefl _)
   ·exact nT (List.mem_cons_of_mem _ hcm)
  refine ⟨.ref T,upd H T (.tup [xs[i]'(by omega),ys[i]'(by omega)]),?_,rfl,⟨T,_,_,hTf,hy1,hy2,rfl,rfl⟩,⟨by omega,st'.1,st'.2.1,st'.2.2.1,st'.2.2.2.1,st'.2.2.2.2.1⟩,fun c hcm=>?_⟩
  ·refine I.turnedNew (ch:=[z,TO,i1,i2]) (t':=tk) (fun c o hcn ec=>kk' c o hcn (kk c o hcn ec)) (fun c hcm=>hf c ?_) hT ?_
   ·rcases List.mem_cons.mp hcm with e | hcm
    ·rw [e];simp
    ·exact List.mem_cons_of_mem _ (List.mem_cons_of_mem _ hcm)
   refine ⟨by show 2≤sizeLine;decide,[u1,u2],.cons ru1 (.cons ru2 .nil),?_⟩
   obtain ⟨o,ho,r⟩:=htup
   exact ⟨o,kk' T o nT ho,r⟩
  ·rw [Zn (nT2 c hcm)]
   exact (hf c hcm).1
 done:=by
  intro X hP hw hK hc i pins s σ H E I hf st hg
  subst hP hw hK
  obtain ⟨hq1,hq2,hi⟩:=hg
  obtain ⟨its1,rv1,p1,hz1⟩:=I.list hq1
  obtain ⟨its2,rv2,p2,hz2⟩:=I.list hq2
  have hlen1:=rv1.length
  have hlen2:=rv2.length
  have W:=WalksT.zip2 (prog:=X.prog) (w:=X.w) (I.ok.hd hc) z TI TO i1 i2 a b D its1.toArray its2.toArray
  have ei:i=min its1.toArray.size its2.toArray.size:=by rw [List.size_toArray,List.size_toArray];have:=st.1;omega
  subst ei
  refine W.done s _ _ ⟨st.2.1,st.2.2.1,st.2.2.2.1,st.2.2.2.2.1,st.2.2.2.2.2,p1.isList,p2.isList⟩ fun h' tk kk=>⟨rfl,I.turnedL (t':=tk) kk fun c hcm=>hf c ?_⟩
  rcases List.mem_cons.mp hcm with e | hcm
  ·rw [e];simp
  ·exact List.mem_cons_of_mem _ (List.mem_cons_of_mem _ hcm)
 self:=fun A i s Q E st h=>wpAny_pyIter_zip st.2.1 h
section
variable {X:Cx}
noncomputable def iZip (K:PySem.W.Frag) (ta:TA):TI:=fun σ H R=>ta σ H fun vs H1=>∃ a b xs ys,vs=[.ref a,.ref b]∧SqL K H1 a xs∧SqL K H1 b ys∧R (Itz K a b xs ys) H1
theorem Xhf {l m:Expr} {ta:TA} {p pos:Pos} {elts:List Expr} {k:Nat} {tpos:Pos} (hg:Gl X "zip") (hm:X.mg "zip"=none) (ha:PA X [l,m] ta) (hs:starEach [l,m] X.env=[(false,eval l X.env),(false,eval m X.env)]:=by rfl) (hs2:starEach [m] X.env=[(false,eval m X.env)]:=by rfl) :
  PI X (.Tuple elts k tpos) (.Call (.Name "zip" p) [l,m] [] pos) (iZip X.K ta):=by
 intro pins s σ H R I h
 refine Call_ (Zda I hg hm boot_zip (PyProof.Rows.callWith_type1 (thn (ha pos pins s σ H (fun vs H1=>∃ a b xs ys,vs=[.ref a,.ref b]∧SqL X.K H1 a xs∧SqL X.K H1 b ys∧R (Itz X.K a b xs ys) H1) I h) fun us s1 ⟨vs,H1,I1,r1,q1⟩=>?_) (by rw [hs,hs2]) (by rw [hs2];rfl)))
 obtain ⟨a,b,xs,ys,rfl,hq1,hq2,q⟩:=q1
 obtain ⟨u1,u2,rfl,ru1,ru2⟩:=vals2 r1
 obtain rfl:u1=Value.ref a:=ru1
 obtain rfl:u2=Value.ref b:=ru2
 obtain ⟨its1,rv1,p1,hz1⟩:=I1.list hq1
 obtain ⟨its2,rv2,p2,hz2⟩:=I1.list hq2
 have l1:a<s1.heap.objs.size:=by obtain ⟨o,ho,_⟩:=p1.isList;exact Heap.lt_size ho
 have l2:b<s1.heap.objs.size:=by obtain ⟨o,ho,_⟩:=p2.isList;exact Heap.lt_size ho
 refine call_zip_2 p1.isList p2.isList fun h' z1 z2 z3 z4 z5 hsz kk=>?_
 have I2:Inv X pins σ H1 {s1 with heap:=h'}:=I1.kept (t':=s1.toks) kk
 refine wpAny_pyIter_zip z1 ?_
 refine ⟨_,_,_,_,H1,rfl,I2,Xga a b _ _ _ _ _ xs ys (zipApart_new l1 l2),⟨Nat.zero_le _,z1,z2,⟨_,_,z3⟩,z4,z5⟩,fun c hc=>?_,q⟩
 have hcl:s1.heap.objs.size≤c:=by
  rcases List.mem_cons.mp hc with e | hc
  ·rw [e];exact Nat.le_add_right ..
  rcases List.mem_cons.mp hc with e | hc
  ·rw [e];exact Nat.le_add_right ..
  rcases List.mem_cons.mp hc with e | hc
  ·rw [e];exact Nat.le_add_right ..
  rcases List.mem_cons.mp hc with e | hc
  ·rw [e];exact Nat.le_refl _
  ·rw [List.mem_singleton.mp hc];exact Nat.le_add_right ..
 exact I1.fpOk hcl (I1.hok.fresh hcl)
end
end L2
namespace L2
open PySem PySem.W PySem.Spec PyProof.Rows
theorem Zyd {K:PySem.W.Frag} {a b:Addr} {xs ys:List V} {g:TG} {te:TE} {Q:VK} {H:Hp} {D:Addr} {σ0:St} (fe:Nat→V) (S:St→Prop) (hz:min xs.length ys.length≤100000) (h0:S σ0) (hD:H D=none) (hl1:SqL K H a xs) (hl2:SqL K H b ys)
  (ht:∀ i x y,xs[i]?=some x→ys[i]?=some y→∀ σ1 H1 T,S σ1→Same H H1→H1 T=none→∀ R:St→V→Hp→Prop,(∀ σ2 H3,S σ2→Same (upd H1 T (.tup [x,y])) H3→R σ2 (fe i) H3)→g (.ref T) σ1 (upd H1 T (.tup [x,y])) fun σ2 H2=>te σ2 H2 fun z H3=>R σ2 z H3)
  (hq:∀ H':Hp,Same H H'→H' D=some (.lst ((List.range (min xs.length ys.length)).map fe))→Q (.ref D) H') :
  CompGo (Itz K a b xs ys) g tYes te Q σ0 H D:=by
 refine ⟨fun i m σ1 H2=>i≤min xs.length ys.length∧m=min xs.length ys.length - i∧S σ1∧Same H H2∧H2 D=some (.lst ((List.range i).map fe)),⟨min xs.length ys.length,Nat.zero_le _,rfl,h0,Zj hD,Zb⟩,?_⟩
 rintro i m σ1 H2 ⟨h1,rfl,h2,hs,hDv⟩
 have q1:=hs.seq hl1
 have q2:=hs.seq hl2
 rcases Nat.lt_or_ge i (min xs.length ys.length) with z | z
 ·refine .inr ⟨⟨q1,q2,z⟩,?_⟩
  rintro x H3 ⟨T,u,v,hT,hu,hv,rfl,rfl⟩
  refine ht i u v hu hv σ1 H2 T h2 hs hT (fun σ2 y H6=>∃ zs m',H6 D=some (.lst zs)∧zs.length<sizeLine∧m'<min xs.length ys.length - i∧(i+1≤min xs.length ys.length∧m'=min xs.length ys.length - (i+1)∧S σ2∧Same H (upd H6 D (.lst (zs++[y])))∧upd H6 D (.lst (zs++[y])) D=some (.lst ((List.range (i+1)).map fe)))) fun σ2 H6 q3 hs6=>?_
  have nDT:D≠T:=fun e=>by rw [e,hT] at hDv;cases hDv
  refine ⟨(List.range i).map fe,min xs.length ys.length - (i+1),hs6 _ _ (by rw [Zn nDT];exact hDv),?_,by omega,by omega,rfl,q3,?_,?_⟩
  ·rw [List.length_map,List.length_range]
   exact Nat.lt_of_lt_of_le (show i<100000 by omega) (by decide)
  ·intro c o e
   rw [Zn (Zt e hD)]
   refine hs6 c o ?_
   rw [Zn (fun e'=>by rw [e',hs.free hT] at e;cases e)]
   exact hs c o e
  ·rw [Zb,List.range_succ,List.map_append];rfl
 ·have e:i=min xs.length ys.length:=by omega
  subst e
  exact .inl ⟨⟨q1,q2,Nat.le_refl _⟩,hq H2 hs hDv⟩
end L2
namespace L2
open PySem PySem.W PySem.Spec PyProof.Rows
section
variable {X:Cx} {pos:Pos}
end
end L2
end
section
namespace KM
open PySem L2
noncomputable def ent (a r:List Bool):List Bool:=cnt (com a r)++cnt (r.length - com a r)++r.drop (com a r)
noncomputable def ents:List Bool→List (List Bool)→List Bool
 | _,[]=>[]
 | a,r::rs=>ent a r++ents r rs
noncomputable def page (rs:List (List Bool)):List Bool:=cnt rs.length++ents [] rs
end KM
namespace KM
open PySem L2
end KM
namespace KM
open PySem L2
end KM
end
section
namespace L2
open PySem PySem.W PySem.Spec PyProof.Rows
section
variable {X:Cx}
end
end L2
end
section
namespace L2
open PySem PySem.W PySem.Spec PyProof.Rows
section
variable {M:Model} {A:Around} {E:Value→Shared→Prop} {s:Shared} {base:Heap} {env:Env} {outer:List Env} {L e T:Addr} {Q:Unit→Shared→Prop} {cls:Value} {d:Option Addr} {fl:Value}
theorem flyD (hl:s.heap.FunFrames base outer) (ht:Fly s.heap e cls d T fl)
  (h:∀ h',Fly h' e cls d T (rawInt L)→h'.FunFrames base outer→(∀ b o,b≠T→s.heap.get? b=some o→h'.get? b=some o)→Q () {s with heap:=h'}):wpAny M A (setFlight (.ref e) (some L)) Q E s:=by
 obtain ⟨oe,vs,oT,ts,he,hc,hdd,hd,h1,hTe,hT,hdT,h3,hcx⟩:=ht
 have hsz3:3<ts.size:=(Array.getElem?_eq_some_iff.mp h3).1
 unfold setFlight
 refine wpAny_bind (wpAny_field he hd h1 ?_)
 rw [if_pos (show (Value.ref T != Value.none)=true from by simp)]
 have other:∀ b,b≠T→(s.heap.update T (Obj.mapFields (·.setIfInBounds 3 ((some L:Option Addr).elim Value.none fun f=>rawInt f)))).get? b=s.heap.get? b:=fun b hb=>Heap.get?_update_other _ _ (Ne.symm hb)
 have noRec:∀ b o,s.heap.get? b=some o→(∀ vs,o.data≠.fields vs)→b≠T:=fun b o hb hnf q=>by
  rw [q,hT] at hb;injection hb with hb;subst hb;exact hnf ts hdT
 refine wpAny_setField hT hdT hsz3 (h _ ⟨oe,vs,_,_,(other e (Ne.symm hTe)).trans he,hc,hdd,hd,h1,hTe,Heap.get?_update_self _ hT (Obj.isFreed_of_fields (Obj.data_mapFields hdT _)),Obj.data_mapFields hdT _,by simp [hsz3],hcx⟩
  (hl.of_keeps fun b o hb hnf=>⟨o,(other b (noRec b o hb hnf)).trans hb,rfl⟩) fun b o hb q=>(other b hb).trans q)
theorem Xba (hl:s.heap.FunFrames base (env::outer)) (hf:env.frame=some L) (ht:Fly s.heap e cls d T (rawInt L))
  (h:∀ h',Fly h' e cls d T .none→(∀ b o,b≠T→s.heap.get? b=some o→h'.get? b=some o)→Q () {s with heap:=h'}):wpAny M A (leaving env (.ref e)) Q E s:=by
 obtain ⟨oe,vs,oT,ts,he,hc,hdd,hd,h1,hTe,hT,hdT,h3,hcx⟩:=id ht
 unfold leaving noteFrame
 simp only [hf]
 refine wpAny_bind (wpAny_bind (wpAny_field he hd h1 ?_))
 rw [if_pos (show (Value.ref T != Value.none)=true from by simp)]
 refine wpAny_bind (wpAny_field hT hdT h3 ?_)
 rw [if_pos (show (rawInt L == rawInt L)=true from by simp)]
 exact wpAny_pure (landD hl ht fun h' y1 _ y3=>h h' y1 y3)
end
noncomputable def Rethrows (X:Cx) (E:XK):Prop:=∀ (pins:List (Addr×Obj)) (σ:St) (H1:Hp) (s1:Shared) (h3:Heap) (a C:Addr) (d:Option Addr) (T T' L:Addr),Inv X pins σ H1 s1→Stn (frs X.stack) a (some T) s1.heap h3→h3.FunFrames X.base X.stack→X.env.frame=some L→Fly h3 a (.ref C) d T' (rawInt L)→s1.heap.get? T'=none→
 H1 a=none→H1 T=none→X.s₀.heap.get? a=none→X.s₀.heap.get? T=none→E (.ref C) d H1→X.xe (.ref a) {s1 with heap:=h3}
section
variable {P:Program} {w:World} {K:PySem.W.Frag} {mg:Str→Option Value} {base:Heap} {N:List Str} {qual:Str} {scope:Scope} {f:Addr} {cdv:Value} {A:Around} {outer:List Env} {s:Shared} {H:Hp} {E:XK}
theorem Zvc:Rethrows (cxOf (CXe P w) P w K mg base N qual scope f cdv A outer s H E) E:=by
 intro pins σ H1 s1 h3 a C d T T' L I S ff hf fly nT' fa fT na nT q
 refine Xba (base:=base) (s:={s1 with heap:=h3}) ff hf fly fun h4 x1 x3=>?_
 have S4:Stn (frs (cxOf (CXe P w) P w K mg base N qual scope f cdv A outer s H E).stack) a (some T) s1.heap h4:=by
  refine ⟨fun b o h1 h2 h5 h6=>x3 b o (fun z=>by rw [z,nT'] at h6;cases h6) (S.keep b o h1 h2 h5 h6),fun b o h1 h2 h6=>?_⟩
  obtain ⟨sl,e⟩:=S.slot b o h1 h2 h6
  exact ⟨sl,x3 b _ (fun z=>by rw [z,nT'] at h6;cases h6) e⟩
 obtain ⟨u,hk⟩:=Zza (T:=some T) I rfl rfl S4 na (fun t z=>by cases z;exact nT) fa (fun t z=>by cases z;exact fT)
 refine ⟨a,C,d,H1,T',rfl,I.os,I.bare,u,hk,x1,fa,I.hok.none nT',na,?_,q⟩
 cases z:s.heap.get? T' with
 | none=>rfl
 | some o =>
  obtain ⟨o',e⟩:=I.base.there T' o z (show T'∉([]:List Addr) by simp)
  rw [nT'] at e;cases e
end
end L2
end
section
namespace L2
open PySem PySem.W PySem.Spec PyProof.Rows
section
variable {X:Cx}
end
end L2
namespace L2
open PySem PySem.W PySem.Spec PyProof.Rows
theorem Zye {lo:Int} {n:Nat} {g:TG} {te:TE} {Q:VK} {H:Hp} {D:Addr} {σ0:St} (Pv:V→Prop) (S:St→Prop) (hn:n≤100000) (h0:S σ0) (hD:H D=none)
  (ht:∀ i:Nat,i<n→∀ σ1 H1,S σ1→Same H H1→∀ R:St→V→Hp→Prop,(∀ σ2 H3 y,S σ2→Same H1 H3→Pv y→R σ2 y H3)→g (.int (lo+(i:Int))) σ1 H1 fun σ2 H2=>te σ2 H2 fun z H3=>R σ2 z H3)
  (hq:∀ (ys:List V) (H':Hp),ys.length=n→(∀ y∈ys,Pv y)→Same H H'→H' D=some (.lst ys)→Q (.ref D) H') :
  CompGo (Itr lo n) g tYes te Q σ0 H D:=by
 refine ⟨fun i m σ1 H2=>i≤n∧m=n - i∧S σ1∧Same H H2∧∃ ys:List V,ys.length=i∧(∀ y∈ys,Pv y)∧H2 D=some (.lst ys),⟨n,Nat.zero_le _,rfl,h0,Zj hD,[],rfl,(fun y hy=>nomatch hy),Zb⟩,?_⟩
 rintro i m σ1 H2 ⟨h1,rfl,h2,hs,ys,hl,hp,hDv⟩
 rcases Nat.lt_or_ge i n with z | z
 ·refine .inr ⟨z,?_⟩
  rintro x H3 ⟨rfl,rfl⟩
  refine ht i z σ1 _ h2 hs (fun σ2 y H6=>∃ zs m',H6 D=some (.lst zs)∧zs.length<sizeLine∧m'<n - i∧(i+1≤n∧m'=n - (i+1)∧S σ2∧Same H (upd H6 D (.lst (zs++[y])))∧∃ ys:List V,ys.length=i+1∧(∀ y∈ys,Pv y)∧upd H6 D (.lst (zs++[y])) D=some (.lst ys))) fun σ2 H6 y q3 hs6 hy=>?_
  refine ⟨ys,n - (i+1),hs6 _ _ hDv,?_,by omega,by omega,rfl,q3,?_,ys++[y],by rw [List.length_append,hl];rfl,?_,Zb⟩
  ·rw [hl];exact Nat.lt_of_lt_of_le (show i<100000 by omega) (by decide)
  ·intro c o e
   rw [Zn (Zt e hD)]
   exact hs6 c o (hs c o e)
  ·intro u hu
   rcases List.mem_append.mp hu with w | w
   ·exact hp u w
   ·rw [List.mem_singleton.mp w];exact hy
 ·have e:i=n:=by omega
  subst e
  exact .inl ⟨Nat.le_refl _,hq ys H2 hl hp hs hDv⟩
end L2
end
section
namespace L2
open PySem PySem.W PySem.Spec PyProof.Rows
end L2
end
section
namespace KM
open PySem L2
end KM
namespace L2
open PySem PySem.W PySem.Spec PyProof.Rows
section
variable {X:Cx}
inductive RowN:V→PyData→Prop
 | non:RowN .non .none
 | row (l:List Bool):RowN (.str (KM.rowS l)) (.str (KM.rowS l))
end
end L2
end
section
namespace L2
open PySem PySem.W PySem.Spec PyProof.Rows
theorem Zpa:entryFor table "proto.unchain"=some Builtin.«proto.unchain» := entryFor_of_tree (by kernel_rfl)
theorem Znj:plainId "proto.unchain"=true:=by decide +kernel
section
variable {prog:Program} {w:World} {A:Around} {E:Value→Shared→Prop} {s:Shared}
theorem Zsa {e:Value} {a:Addr} {oa:Obj} {va:Array Value} {Q:Value→Shared→Prop} (ha:s.heap.get? a=some oa) (hd:oa.data = .fields va) (h2:va[2]?=some .none) (h:Q .none s) :
  wpAny (model prog w) A (runValue (.builtin "proto.unchain" ⟨[e,.ref a,.ref a,.bool false],[]⟩)) Q E s:=by
 refine wpAny_runValue (codeAny_builtin Zpa ?_)
 rw [Around.under_plainId Znj _]
 unfold Builtin.«proto.unchain»
 refine wpAny_bind (wpAny_field ha hd h2 ?_)
 rw [if_pos (by rfl)]
 exact wpAny_pure h
set_option maxHeartbeats 2000000 in
theorem Zzg {env:Env} {K:Frag} {x c:Sem Value} {a:Addr} {Q:Flow→Shared→Prop} (hh:A.handled=some (.ref a)) (hc:∀ (Q':Value→Shared→Prop) (s':Shared),Q' .none s'→wpAny (model prog w) A c Q' E s')
  (h:wpAny (model prog w) A x (fun v s₁=>∃ e oe C vs oa va,v = .ref e∧K.In s₁.heap∧s₁.heap.get? e=some oe∧oe.cls = .ref C∧oe.data = .fields vs∧vs.size=6∧vs[1]?=some .none∧mroIn K C (.type "BaseException")=some true∧typeIn K (.ref C)=some (.type "type")∧e≠a∧
   s₁.heap.get? a=some oa∧oa.data = .fields va∧va[2]?=some .none∧∀ h' vs',h'.get? e=some {oe with data := .fields vs'}→vs'[1]?=some .none→(∀ b,b≠e→h'.get? b=s₁.heap.get? b)→E (.ref e) {s₁ with heap:=h'}) E s) :
  wpAny (model prog w) A (raiseStmt env (some x) (some c)) Q E s:=by
 unfold raiseStmt
 refine wpAny_bind (wpAny_mono h (fun v s₁ h₁=>?_) fun _ _ x=>x)
 obtain ⟨e,oe,C,vs,oa,va,rfl,X,he,hcl,hd,hsz,h1,hm,hty,hea,hoa,hda,h2,hE⟩:=h₁
 obtain ⟨hp,g,d,tk,os⟩:=s₁
 have L1:=looks_mroIn (M:=model prog w) X hm
 obtain ⟨oC,hoC,hcC⟩:=Option.map_eq_some_iff.mp (show (K.lookup C).map (·.cls)=some (.type "type") from hty)
 have hC:=X _ _ hoC
 obtain ⟨cls,dict,data,sl⟩:=oe
 dsimp only at hcl hd
 subst hcl hd
 have hCe:C≠e:=fun z=>by rw [z,he] at hC;cases hC;cases hcC
 refine wpAny_bind (wpAny_holding (hc _ _ ?_))
 refine wpAny_bind (wpAny_pure ?_)
 dsimp only
 repeat (first | with_reducible refine wpAny_loadPart_at he ?_ | with_reducible refine L1.at ?_ | (with_reducible refine wpAny_loadPart_at hC ?_;rw [hcC]) | wp_step)
 have hv1:((vs.setIfInBounds 3 Value.none).setIfInBounds 4 (Value.bool true))[1]?=some Value.none:=by
  rw [Array.getElem?_setIfInBounds_ne (by decide),Array.getElem?_setIfInBounds_ne (by decide)];exact h1
 show wpAny _ _ (match ((vs.setIfInBounds 3 Value.none).setIfInBounds 4 (Value.bool true))[1]? with | some x=>pure x | none=>unsupported "internal:no-such-field") _ _ _
 rw [hv1]
 refine wpAny_pure ?_
 rw [if_neg (by decide)]
 refine wpAny_pure ?_
 have g3:=Heap.get?_update_self (h:=hp) (Obj.mapFields fun x=>x.setIfInBounds 3 Value.none) he rfl
 have g4:=Heap.get?_update_self (Obj.mapFields fun x=>x.setIfInBounds 4 (Value.bool true)) g3 rfl
 have o4:∀ b,b≠e→((hp.update e (Obj.mapFields fun x=>x.setIfInBounds 3 Value.none)).update e (Obj.mapFields fun x=>x.setIfInBounds 4 (Value.bool true))).get? b=hp.get? b:=fun b hb=>by
  rw [Heap.get?_update_other _ _ (Ne.symm hb),Heap.get?_update_other _ _ (Ne.symm hb)]
 unfold raiseNew
 refine wpAny_bind (wpAny_handled ?_)
 rw [hh]
 dsimp only
 rw [if_pos (by simpa using Ne.symm hea)]
 refine wpAny_bind (wpAny_holding (Zsa (oa:=oa) ((o4 a (Ne.symm hea)).trans hoa) hda h2 ?_))
 refine wpAny_bind (wpAny_setField (x:=Value.ref a) (i:=2) g4 rfl (by simp [Obj.mapFields,hsz]) ?_)
 refine wpAny_throw (hE _ _ (Heap.get?_update_self _ g4 rfl) ?_ fun b hb=>?_)
 ·rw [Array.getElem?_setIfInBounds_ne (by decide)];exact hv1
 ·rw [Heap.get?_update_other _ _ (Ne.symm hb)];exact o4 b hb
end
section
variable {prog:Program} {w:World} {A:Around} {E:Value→Shared→Prop} {s:Shared} {env:Env}
variable {nm q:Str} {C N a:Addr} {bs bm bmB:List Value} {hdct:Bool} {sn:List Str} {sub:List Value} {ab:Bool} {col:Option Bool} {dd:Option Addr} {k0 k1 k2 k3 k5:Option Value} {B Bn newId nid initId inN:String} {bmN:List Value} {K:Frag}
theorem Zhg (Fn:ExcBaseFacts Bn newId inN bmN) (hBn:bmB.contains (.type Bn)=true) (F:ExcBaseFacts B nid initId bmB) {mN:Str→Option Value} {x:Str} {np cpos pos:Pos} {args:List Expr} {ce:Expr} {Q:Flow→Shared→Prop}
  (hh:A.handled=some (.ref a)) (hce:∀ (Q':Value→Shared→Prop) (s':Shared),Q' .none s'→wpAny (model prog w) A (eval ce env) Q' E s') (hplain:(backTo cpos (starEach args env)).any (·.1)=false) (hni:mN "__init__"=none)
  (hmB:mroIn K C (.type "BaseException")=some true) (hty:typeIn K (.ref C)=some (.type "type"))
  (h:wpAny (model prog w) A (eval (.Name x np) env) (fun f s₁=>f = .ref C∧wpAny (model prog w) A (evalArgs (.ref C) true (backTo cpos (starEach args env)) [])
   (fun r s₂=>r.kw=[]∧r.pos.length≤sizeLine∧s₂.heap.get? C=some (excClassObj nm q C N bs bm hdct sn sub ab col dd k0 k1 k2 k3 k5 newId)∧s₂.heap.Ns N mN∧OwnTail s₂.heap bmB bm∧K.In s₂.heap∧
    (∃ oa va,s₂.heap.get? a=some oa∧oa.data = .fields va∧va[2]?=some .none)∧
    ∀ h' e oe vs,(∀ b o,s₂.heap.get? b=some o→h'.get? b=some o)→s₂.heap.get? e=none→h'.get? e=some oe→oe.cls = .ref C→oe.dict=none→oe.data = .fields vs→vs[1]?=some .none→E (.ref e) {s₂ with heap:=h'}) E s₁) E s) :
  wpAny (model prog w) A (exec (.Raise (some (.Call (.Name x np) args [] cpos)) (some ce) pos) env) Q E s:=by
 rw [arm_exec_Raise]
 simp only [evalOpt,Option.map]
 refine wpAny_bind (wpAny_standAt (Zzg (K:=K) hh (fun Q' s' hq=>wpAny_bind (hce _ _ (wpAny_bind (wpAny_standAt (wpAny_pure hq))))) ?_))
 refine wpAny_bind (wpAny_mono (wpAny_Call_ofName (wpAny_mono h (fun f s₁ h₁=>?_) fun _ _ x=>x)) (fun v s₃ h₃=>wpAny_bind (wpAny_standAt (wpAny_pure h₃))) fun _ _ x=>x)
 obtain ⟨rfl,h₁⟩:=h₁
 unfold callWith
 refine wpAny_bind (wpAny_holding (wpAny_mono h₁ (fun r s₂ h₂=>wpAny_bind (wpAny_standAt ?_)) fun _ _ x=>x))
 obtain ⟨apos,akw⟩:=r
 obtain ⟨hkw,hlen,hC,hn,T,X,⟨oa,va,hoa,hda,h2⟩,hE⟩:=h₂
 obtain rfl:akw=[]:=hkw
 obtain ⟨hp,g,d,tk,os⟩:=s₂
 simp only [hplain]
 refine wpAny_bind (wpAny_keeperOf_exc hC ?_)
 refine wpAny_bind (wpAny_call_exc_subU (hrest:=hlen) Fn hBn F T hC hn hni fun h' e hm=>wpAny_bind (wpAny_holding (wpAny_point (wpAny_pure ?_))))
 obtain ⟨t,ht,_,_⟩:=hm.there
 have hea:e≠a:=fun z=>by have:=hm.new;rw [z,hoa] at this;cases this
 refine ⟨e,_,C,_,oa,va,rfl,fun b o z=>hm.keeps b o (X b o z),ht,rfl,rfl,rfl,rfl,hmB,hty,hea,hm.keeps _ _ hoa,hda,h2,fun h3 vs' e1 e2 e3=>?_⟩
 exact hE h3 e _ vs' (fun b o z=>(e3 b fun y=>by have:=hm.new;rw [← y,z] at this;cases this).trans (hm.keeps b o z)) hm.new e1 rfl rfl rfl e2
end
noncomputable def tTryB (K:Frag) (D C':Addr) (Eh:St→XK) (Eo:XK) (tb:TS) (t:TA):TS:=fun Dn σ H=>tb Dn σ H∧∀ σ' C d H',Eh σ' (.ref C) d H'→(mroIn K C (.ref D)=some false∧Eo (.ref C) d H')∨(mroIn K C (.ref D)=some true∧d≠none∧∀ a,H' a=none→t σ' (upd H' a (ExcO a C d)) fun vs H1=>vs.length≤sizeLine∧H1=upd H' a (ExcO a C d)∧Eo (.ref C') none H')
theorem Xlh {X:Cx} {body:List Stmt} {x y:Str} {D C':Addr} {np pos tpos np2 cpos rpos:Pos} {e:Expr} {es:List Expr} {ce:Expr} {tb:TS} {t:TA} {Eh:St→XK} {Eo:XK} (hb:∀ pn,PSs (X.tryC pn Eh) body tb) (hR:Rethrows X Eo)
  (hm:X.mg x=some (.ref D)) (cD:ExcC X.K D) (tyD:typeIn X.K (.ref D)=some (.type "type"))
  (xc:excIn X.K C' bmV "ValueError.__new__"=true) (hmB:mroIn X.K C' (.type "BaseException")=some true) (ty':typeIn X.K (.ref C')=some (.type "type")) (hm':X.mg y=some (.ref C')) (ha:∀ pn a,PA (X.handC pn a) (e::es) t)
  (hce:∀ (A:Around) (E:Value→Shared→Prop) (Q':Value→Shared→Prop) (s':Shared),Q' .none s'→wpAny (model X.prog X.w) A (eval ce X.env) Q' E s')
  (hs:X.stack=X.env::X.outer:=by rfl) (hf:X.env.frame=some X.env.locals:=by rfl) (hex:X.ex=[]:=by rfl) (hg:Gl X x:=by rfl) (hg':Gl X y:=by rfl) (hdb:(x == ("__debug__":Str))=false:=by decide +kernel) (hdb':(y == ("__debug__":Str))=false:=by decide +kernel)
  (he:starEach (e::es) X.env=(false,eval e X.env)::starEach es X.env:=by rfl) (hpl:(backTo cpos (starEach es X.env)).any (·.1)=false:=by rfl) :
  PS X (.Try body [.ExceptHandler (some (.Name x np)) none [.Raise (some (.Call (.Name y np2) (e::es) [] cpos)) (some ce) rpos] pos] [] [] tpos) (tTryB X.K D C' Eh Eo tb t):=by
 intro pins s σ H Dn I ⟨h1,h2⟩
 have ok:=I.ok
 refine wpAny_Try_except (wpAny_mono (hb (X.pn++pins) [] s σ H Dn (I.ins.wish _) h1) (fun f s1 z=>?_) (fun e s1 z=>?_))
 ·cases f with
  | next =>
   obtain ⟨σ',H',I',q⟩:=z
   exact Zl (X:=X) pins s1 σ' H' Dn (Inv.outs (Y:=X) ok (Inv.unwish (X:={X with pn:=X.pn++pins}) I')) q
  | brk=>obtain ⟨σ',H',I',q⟩:=z;exact ⟨σ',H',Inv.outs (Y:=X) ok (Inv.unwish (X:={X with pn:=X.pn++pins}) I'),q⟩
  | cont=>obtain ⟨σ',H',I',q⟩:=z;exact ⟨σ',H',Inv.outs (Y:=X) ok (Inv.unwish (X:={X with pn:=X.pn++pins}) I'),q⟩
  | ret u=>obtain ⟨v,σ',H',I',r,q⟩:=z;exact ⟨v,σ',H',Inv.outs (Y:=X) ok (Inv.unwish (X:={X with pn:=X.pn++pins}) I'),r,q⟩
 obtain ⟨a,C,d,T,σ',H1,H',s0,rfl,I1,I2,fly,fa,fT,na,nT,q⟩:=z
 have hq2:=h2 σ' C d H' q
 have fr:X.A.frames=some (X.env::X.outer):=ok.frames.trans (congrArg some hs)
 have fst:s1.heap.FunFrames X.base (X.env::X.outer):=hs ▸ I2.stack
 refine noteD fr fst hf fly fun h' T' x1 x2 x3 x4=>?_
 refine landD (s:={s1 with heap:=h'}) x3 x1 fun h2 y1 y2 y3=>?_
 have nT':∀ b o,s1.heap.get? b=some o→b≠T':=fun b o e z=>by rw [z,x2] at e;cases e
 have k2:∀ b o,b≠a→b≠T→b∉frs X.stack→s1.heap.get? b=some o→h2.get? b=some o:=fun b o e1 e2 e3 e4=>y3 b o (nT' b o e4) (x4.keep b o e1 (fun z=>e2 (Option.some.inj z)) (fun z=>e3 (by rw [hs];exact z)) e4)
 have l2:∀ b o,b≠a→b≠T→s1.heap.get? b=some o→∃ sl,h2.get? b=some {o with slots:=sl}:=fun b o e1 e2 e4=>by
  obtain ⟨sl,e⟩:=x4.slot b o e1 (fun z=>e2 (Option.some.inj z)) e4
  exact ⟨sl,y3 b _ (nT' b o e4) e⟩
 have J2:=(I1.caught (h':=h2) (t':=s1.toks) I2 hex na nT fa fT k2 l2 y1).hand a
 refine wpAny_handleBy_cons (codeAny_handlers_test (Jo J2 hg hm ?_ hdb)) (by intro q;cases q)
 obtain ⟨oe,vs,oT,ts,he0,hc,hdd,hd,hv1,_⟩:=id y1
 rcases hq2 with ⟨hmm,hE⟩ | ⟨hmm,hdn,ht⟩
 ·refine Zbc (K:=X.K) J2.kIn he0 hc cD tyD hmm ?_
  refine wpAny_handleBy_nil ?_
  unfold PySem.passOn
  refine wpAny_bind (wpAny_field (s:={s1 with heap:=h2}) he0 hd hv1 ?_)
  rw [if_neg (show ¬((Value.ref T' == Value.none)=true) from by simp)]
  rw [hf]
  refine wpAny_bind (flyD (s:={s1 with heap:=h2}) y2 y1 fun h3 w1 w2 w3=>?_)
  refine wpAny_throw ?_
  have old:∀ b,s0.heap.get? b=none→X.s₀.heap.get? b=none:=fun b hb=>by
   cases z:X.s₀.heap.get? b with
   | none=>rfl
   | some o =>
    obtain ⟨o',e⟩:=I1.base.there b o z (by show b∉X.ex;rw [hex];simp)
    rw [hb] at e;cases e
  have S3:Stn (frs X.stack) a (some T) s1.heap h3:=⟨fun b o e1 e2 e3 e4=>w3 b o (nT' b o e4) (k2 b o e1 (fun z=>e2 (by rw [z])) e3 e4),fun b o e1 e2 e4=>by
   obtain ⟨sl,e⟩:=l2 b o e1 (fun z=>e2 (by rw [z])) e4
   exact ⟨sl,w3 b _ (nT' b o e4) e⟩⟩
  exact hR pins σ' H' s1 h3 a C d T T' X.env.locals (Inv.outs (Y:=X) ok I2) S3 (hs ▸ w2) hf w1 x2 fa fT (old a na) (old T nT) hE
 refine Zbc (K:=X.K) J2.kIn he0 hc cD tyD hmm ?_
 refine codeAny_handlers_suite (landD (s:={s1 with heap:=h2}) y2 y1 fun h3 w1 w2 w3=>?_)
 have J3:=(I1.caught (h':=h3) (t':=s1.toks) I2 hex na nT fa fT (fun b o e1 e2 e3 e4=>w3 b o (nT' b o e4) (k2 b o e1 e2 e3 e4)) (fun b o e1 e2 e4=>by
  obtain ⟨sl,e⟩:=l2 b o e1 e2 e4
  exact ⟨sl,w3 b _ (nT' b o e4) e⟩) w1).hand a
 refine wpAny_execs_cons ?_
 obtain ⟨bm,N,nm,qn,bs,hdct,sn,sub,ab,col,dd,k0,k1,k2',k3,k5,mN,g1,g2,g3,g4⟩:=(clsAt J3.ok.mod.kin xc).ex
 refine Zhg (K:=X.K) (a:=a) (nm:=nm) (q:=qn) (N:=N) (bs:=bs) (bm:=bm) (hdct:=hdct) (sn:=sn) (sub:=sub) (ab:=ab) (col:=col) (dd:=dd) (k0:=k0) (k1:=k1) (k2:=k2') (k3:=k3) (k5:=k5) F.excBase_ValueError (bmB:=bmV) (by decide +kernel) F.excBase_ValueError (mN:=mN) rfl (hce _ _) ?_ g3 hmB ty' (Jo J3 hg' hm' ⟨rfl,?_⟩ hdb')
 ·rw [he];show (false||(backTo cpos (starEach es X.env)).any (·.1))=false;rw [hpl];rfl
 have hp:=ha (X.pn++pins) a cpos [] _ σ' _ _ J3 (ht a fa)
 rw [he]
 replace hp:wpAny (model X.prog X.w) (X.A.mark (some (.ref a))) _ _ _ _:=hp
 dsimp only [Cx.handC] at hp
 rw [he] at hp
 refine Calls.evalArgs_plain (wpAny_mono hp (fun us s5 z=>?_) fun _ _ z=>False.elim z)
 obtain ⟨ws,H5,I5,r,hl,eH,q1⟩:=z
 subst eH
 obtain ⟨⟨oa,va,a1,a2,a3,a4,a5⟩,_⟩:=(show ObjOk X.prog X.w (upd H' a (ExcO a C d)) s5.heap a (ExcO a C d) from I5.hok a _ Zb)
 refine ⟨rfl,by show us.length≤_;rw [← r.length];exact hl,I5.bk _ _ g1,g2.keeps I5.bk,g4.keeps I5.bk,I5.kIn,⟨oa,va,a1,a4,a3.ctx hdn⟩,fun h6 b ob vb m1 m2 m3 m4 m5 m6 m7=>?_⟩
 have I6:Inv X pins σ' H' s5:=Inv.sub (Inv.outs (Y:=X) ok I2) (I5.unhand ok) (Sub.refl (Zj fa))
 have nb:X.s₀.heap.get? b=none:=by
  cases z:X.s₀.heap.get? b with
  | none=>rfl
  | some o =>
   obtain ⟨o',e⟩:=I6.base.there b o z (by rw [hex];simp)
   rw [m2] at e;cases e
 have fb:H' b=none:=I6.hok.none m2
 have f6:h6.FunFrames X.base (X.env::X.outer):=(hs ▸ I6.stack:s5.heap.FunFrames X.base (X.env::X.outer)).of_keeps fun c o hc _=>⟨o,m1 c o hc,rfl⟩
 show wpAny _ _ (noteFrame (.ref b) X.env) _ _ _
 unfold noteFrame
 simp only [hf]
 refine wpAny_bind (wpAny_field (s:={s5 with heap:=h6}) m3 m6 m7 ?_)
 rw [if_neg (by decide)]
 refine entryD (s:={s5 with heap:=h6}) (A:=X.A.mark (some (.ref a))) fr f6 hf m3 m6 (Array.getElem?_eq_some_iff.mp m7).1 (.inl ⟨m5,.inl rfl⟩) fun h7 T7 x1' x2' x3' x4'=>?_
 rw [m4] at x1'
 obtain ⟨oe7,vs7,oT7,ts7,v1,v2,v3,v4,v5,_⟩:=id x1'
 show wpAny _ _ _ _ _ _
 refine wpAny_bind (wpAny_field (s:={s5 with heap:=h7}) v1 v4 v5 ?_)
 rw [if_neg (show ¬((Value.ref T7 == Value.none)=true) from by simp)]
 rw [hf]
 refine flyD (s:={s5 with heap:=h7}) x3' x1' fun h8 u1 u2 u3=>?_
 have n7:s5.heap.get? T7=none:=by
  cases z:s5.heap.get? T7 with
  | none=>rfl
  | some o=>have:=m1 _ _ z;rw [show h6.get? T7=none from x2'] at this;cases this
 have S8:Stn (frs X.stack) b (some b) s5.heap h8:=⟨fun c o e1 _ e3 e4=>u3 c o (fun z=>by rw [z,n7] at e4;cases e4) (x4'.keep c o e1 (by simp) (fun z=>e3 (by rw [hs];exact z)) (m1 c o e4)),fun c o e1 _ e4=>by
  obtain ⟨sl,e⟩:=x4'.slot c o e1 (by simp) (m1 c o e4)
  exact ⟨sl,u3 c _ (fun z=>by rw [z,n7] at e4;cases e4) e⟩⟩
 exact hR pins σ' H' s5 h8 b C' none b T7 X.env.locals I6 S8 (hs ▸ u2) hf u1 n7 fb fb nb nb q1
section
variable {X:Cx}
end
end L2
end
section
namespace KM
open PySem L2
noncomputable def padL (l:List Bool):List Bool:=l++List.replicate 3000 false
open Classical in
noncomputable def cnv (l:List Bool) (i:Nat):Nat:=if h:∃ n,n+1<2 ^ 255∧cnt n <+: (padL l).drop i then h.choose else 0
noncomputable def entAt (l la:List Bool) (fst:Bool) (s m i:Nat):Option (List Bool×Nat) :=
 if i+m≤l.length∧s≤la.length∧com la (la.take s++(l.drop i).take m)=s∧(fst=true∨Lt la (la.take s++(l.drop i).take m)) then some (la.take s++(l.drop i).take m,i+m) else none
noncomputable def entR (l la:List Bool) (fst:Bool) (i:Nat):Option (List Bool×Nat) :=
 entAt l la fst (cnv l i) (cnv l (i+(cnt (cnv l i)).length)) (i+(cnt (cnv l i)).length+(cnt (cnv l (i+(cnt (cnv l i)).length))).length)
noncomputable def goR (l:List Bool):Nat→List (List Bool)→Nat→Option (List (List Bool))
 | 0,rs,i=>if i=l.length then some rs else none
 | k+1,rs,i=>match entR l (rs.getLastD []) rs.isEmpty i with
  | none=>none
  | some (r,j)=>goR l k (rs++[r]) j
structure RdAt (l:List Bool) (out:Option (List (List Bool))) (rs:List (List Bool)) (i:Nat):Prop where
 le:rs.length≤cnv l 0
 at_:i≤l.length
 few:rs.length≤i
 sm:∀ x∈rs,x.length≤i
 go:goR l (cnv l 0 - rs.length) rs i=out
end KM
end
section
namespace L2
open PySem PySem.W PySem.Spec PyProof.Rows
section
variable {X:Cx} {e:Expr} {te:TE} {p2 pos:Pos}
end
end L2
end
section
namespace KM
open PySem
end KM
end
section
namespace L2
open PySem PySem.Spec
structure SetIn (w:World) (es:Array (Int×Value)) (t:SetTable) (ks:List Str):Prop where
 fit:t.fits es.size=true
 led:w.params.followText "set-order"=false→t.led=true
 pl:es.size≠0→t.plain=false
 els:∀ e∈es.toList,∃ k u,e=(hashStr w k,Value.str k u)
 keys:(es.toList.map fun e=>PyProof.Rows.strOf e.2).Perm ks
section
variable {w:World} {es es':Array (Int×Value)} {t t':SetTable} {ks:List Str}
end
section
variable {prog:Program} {w:World} {A:Around} {E:Value→Shared→Prop} {s:Shared} {a:Addr} {es:Array (Int×Value)} {ep:Nat} {t:SetTable} {ks:List Str}
set_option maxHeartbeats 1000000 in
set_option maxHeartbeats 1000000 in
set_option maxHeartbeats 1000000 in
set_option maxHeartbeats 1000000 in
end
end L2
end
section
namespace L2
open PySem PySem.Spec
section
variable {prog:Program} {w:World} {A:Around} {E:Value→Shared→Prop} {s:Shared} {a:Addr} {es:Array (Int×Value)} {ep:Nat} {t:SetTable} {ks:List Str}
set_option maxHeartbeats 1000000 in
set_option maxHeartbeats 1000000 in
set_option maxHeartbeats 1000000 in
end
end L2
end
section
namespace L2
open PySem PySem.Spec
section
variable {prog:Program} {w:World} {A:Around} {R:Result→Shared→Prop} {I:Addr} {fp wr:List Addr} {G:Array GenState→Array GenState→Prop} {n:Nat} {Pv:Nat→Value→Prop} {St:Nat→Shared→Prop}
end
section
variable {prog:Program} {w:World} {A:Around} {E:Value→Shared→Prop} {s:Shared}
set_option maxHeartbeats 3200000 in
set_option maxHeartbeats 3200000 in
end
end L2
end
section
namespace L2
open PySem PySem.Spec
section
variable {prog:Program} {w:World} {A:Around} {E:Value→Shared→Prop} {s:Shared} {a I:Addr} {es:Array (Int×Value)} {ep:Nat} {t:SetTable} {ks:List Str}
set_option maxHeartbeats 1000000 in
set_option maxHeartbeats 1000000 in
end
end L2
end
section
namespace L2
open PySem PySem.Spec
section
variable {prog:Program} {w:World} {A:Around} {E:Value→Shared→Prop} {s:Shared} {a I p:Addr} {es:Array (Int×Value)} {ep:Nat} {t:SetTable} {ks:List Str}
set_option maxHeartbeats 1000000 in
set_option maxHeartbeats 1000000 in
end
end L2
end
section
namespace L2
open PySem PySem.Spec
section
variable {prog:Program} {w:World} {A:Around} {E:Value→Shared→Prop} {s:Shared} {a I p:Addr} {es:Array (Int×Value)} {ep:Nat} {t:SetTable} {ks:List Str}
set_option maxHeartbeats 1000000 in
end
end L2
end
section
namespace L2
open PySem PySem.Spec PyProof.Rows
section
variable {prog:Program} {w:World} {A:Around} {E:Value→Shared→Prop} {s:Shared} {a:Addr} {es:Array (Int×Value)} {ep:Nat} {t:SetTable} {ks:List Str}
set_option maxHeartbeats 1000000 in
set_option maxHeartbeats 1000000 in
end
end L2
end
section
namespace L2
open PySem PySem.W PySem.Spec PyProof.Rows
section
variable {X:Cx} {pos p p2 p3 q q2 q3:Pos} {e1 e2:Expr} {te1 te2:TE}
set_option maxHeartbeats 1000000 in
end
theorem Zyf {lo:Int} {n:Nat} {g:TG} {tc:TT} {te:TE} {Q:VK} {H:Hp} {D:Addr} {σ0:St} (keep:Nat→Bool) (f:Nat→V) (S:St→Prop) (hn:n≤100000) (h0:S σ0) (hD:H D=none)
  (ht:∀ i:Nat,i<n→∀ σ1 H1,S σ1→Same H H1→∀ (R:St→V→Hp→Prop) (R':St→Hp→Prop),(∀ σ2,S σ2→if keep i=true then R σ2 (f i) H1 else R' σ2 H1)→g (.int (lo+(i:Int))) σ1 H1 fun σ2 H2=>tc σ2 H2 fun b H3=>if b=true then te σ2 H3 fun y H4=>R σ2 y H4 else R' σ2 H3)
  (hq:Q (.ref D) (upd H D (.lst (((List.range n).filter keep).map f)))) :
  CompGo (Itr lo n) g tc te Q σ0 H D:=by
 refine ⟨fun i m σ1 H2=>i≤n∧m=n - i∧S σ1∧H2=upd H D (.lst (((List.range i).filter keep).map f)),⟨n,Nat.zero_le _,rfl,h0,rfl⟩,?_⟩
 rintro i m σ1 H2 ⟨h1,rfl,h2,rfl⟩
 rcases Nat.lt_or_ge i n with z | z
 ·refine .inr ⟨z,?_⟩
  rintro x H3 ⟨rfl,rfl⟩
  refine ht i z σ1 _ h2 (Zj hD) (fun σ2 y H6=>∃ ys m',H6 D=some (.lst ys)∧ys.length<sizeLine∧m'<n - i∧(i+1≤n∧m'=n - (i+1)∧S σ2∧upd H6 D (.lst (ys++[y]))=upd H D (.lst (((List.range (i+1)).filter keep).map f))))
   (fun σ2 H5=>∃ m',m'<n - i∧(i+1≤n∧m'=n - (i+1)∧S σ2∧H5=upd H D (.lst (((List.range (i+1)).filter keep).map f)))) fun σ2 q3=>?_
  by_cases hk:keep i=true
  ·rw [if_pos hk]
   refine ⟨_,n - (i+1),Zb,?_,by omega,by omega,rfl,q3,?_⟩
   ·rw [List.length_map]
    have:=List.length_filter_le keep (List.range i)
    rw [List.length_range] at this
    exact Nat.lt_of_le_of_lt this (Nat.lt_of_lt_of_le (show i<100000 by omega) (by decide))
   ·rw [Xh,List.range_succ,List.filter_append,List.map_append,List.filter_cons_of_pos hk];rfl
  ·rw [if_neg hk]
   refine ⟨n - (i+1),by omega,by omega,rfl,q3,?_⟩
   rw [List.range_succ,List.filter_append,List.map_append,List.filter_cons_of_neg hk];simp
 ·have e:i=n:=by omega
  subst e
  exact .inl ⟨Nat.le_refl _,hq⟩
end L2
end
section
namespace L2
open PySem PySem.W PySem.Spec PyProof.Rows
section
variable {X:Cx} {e el eh es:Expr} {te tl th ts:TE} {p2 pos:Pos}
end
end L2
end
section
namespace L2
open PySem PySem.W PySem.Spec PyProof.Rows
structure Mk0 (K:PySem.W.Frag) (C:Addr):Prop where
 makes:PySem.W.makesIn K C=true
 init:PySem.W.findIn K (.ref C) "__init__"=some (some (.builtin "object.__init__"))
 kp:PySem.W.keepIn K (.ref C)=true
section
variable {X:Cx} {C:Addr} {x:Str} {p pos:Pos}
theorem Xdg {pins:List (Addr×Obj)} {σ:St} {H:Hp} {s:Shared} {Q:VK} (M:Mk0 X.K C) (I:Inv X pins σ H s) (h:∀ x dx,H x=none→H dx=none→dx≠x→Q (.ref x) (upd (upd H dx (.own x)) x (.ins C dx []))) :
  wpAny (model X.prog X.w) X.A (call (.ref C) []) (EP X pins σ Q) X.xe s:=by
 have hq:=h (s.heap.objs.size+1) s.heap.objs.size (I.hok.fresh (Nat.le_succ _)) (I.hok.fresh (Nat.le_refl _)) (Nat.ne_of_lt (Nat.lt_succ_self _))
 have I2:=Inv.made (C:=C) I
 have Y:=makes_of (M:=model X.prog X.w) I.kIn M.makes
 refine wpAny_call (Xed I.kIn M.makes M.init (fun self=>Looks.of_pure (oi_bind self)) ?_)
 have e2:((s.heap.push PySem.W.emptyDict).push (PySem.W.instObj C s.heap.objs.size)).get? (s.heap.objs.size+1)=some (PySem.W.instObj C s.heap.objs.size):=by
  have:=Heap.get?_push_size (s.heap.push PySem.W.emptyDict) (o:=PySem.W.instObj C s.heap.objs.size) rfl
  rwa [Heap.size_push] at this
 have t1:Looks (model X.prog X.w) ((s.heap.push PySem.W.emptyDict).push (PySem.W.instObj C s.heap.objs.size)) (typeOf (.ref (s.heap.objs.size+1))) (.ref C):=(Looks.ld e2).andThen .now
 have t2:Looks (model X.prog X.w) ((s.heap.push PySem.W.emptyDict).push (PySem.W.instObj C s.heap.objs.size)) (isInstance (.ref (s.heap.objs.size+1)) (.type "object")) true:=t1.andThen (Y.top.keeps fun b o e=>Heap.get?_push_of_some _ (Heap.get?_push_of_some _ e))
 obtain ⟨hh,g,d,t,os⟩:=s
 refine codeAny_call_builtin oi_plain entry_oi (@check_slot (model X.prog X.w) _ _ _ "object.__init__" "object" "__init__" (.ref (hh.objs.size+1)) [] [] _ oi_kind oi_split t2 (oi_args (.ref (hh.objs.size+1))) ?_)
 rw [oi_run]
 exact wpAny_pure (And.intro rfl ⟨V.ref (hh.objs.size+1),_,I2,rfl,hq⟩)
noncomputable def tMake0 (C:Addr):TE:=fun _ H Q=>∀ x dx,H x=none→H dx=none→dx≠x→Q (.ref x) (upd (upd H dx (.own x)) x (.ins C dx []))
theorem Zcb (M:Mk0 X.K C) (hg:Gl X x) (hm:X.mg x=some (.ref C)) (hdb:(x == ("__debug__":Str))=false:=by decide):PE X (.Call (.Name x p) [] [] pos) (tMake0 C):=by
 intro pins s σ H Q I h
 refine wpAny_Call_Name_kw (Jo I hg hm ?_ hdb)
 exact PySem.W.callWith_K0 I.kIn M.kp (Xdg M I h)
theorem Xnc (a b:Str) (t u:Tok):MeetsSeq.EqGives (.str a t) (.str b u) (decide (a=b)):=by
 intro prog w A Q E s h
 exact wpAny_eqBool_str h
end
section
variable {X:Cx}
end
end L2
end
section
namespace L2
open PySem PySem.W PySem.Spec PyProof.Rows
end L2
end
section
namespace L2
open PySem PySem.Spec PyProof.Rows
end L2
end
section
namespace L2
open PySem PySem.Spec
noncomputable def metT (val:Nat→Str):Nat→List Str
 | 0=>[]
 | i+1=>if val i∈metT val i then metT val i else metT val i++[val i]
theorem Zeg (val:Nat→Str):∀ i,(metT val i).length≤i
 | 0=>Nat.le_refl _
 | i+1=>by
  have ih:=Zeg val i
  unfold metT
  split
  ·omega
  ·rw [List.length_append,List.length_singleton];omega
theorem Xij (val:Nat→Str) (i:Nat) (k:Str):(decide (k∈metT val i)||decide (k=val i))=decide (k∈metT val (i+1)):=by
 conv=>rhs;unfold metT
 by_cases h:val i∈metT val i
 ·rw [if_pos h]
  by_cases e:k=val i
  ·subst e;simp [h]
  ·simp [e]
 ·rw [if_neg h]
  by_cases e:k=val i<;>simp [e]
theorem Xja (val:Nat→Str) (i:Nat):(if decide (val i∈metT val i)=true then (metT val i).length else (metT val i).length+1)=(metT val (i+1)).length:=by
 conv=>rhs;unfold metT
 by_cases h:val i∈metT val i
 ·rw [if_pos h,if_pos (decide_eq_true h)]
 ·rw [if_neg h,if_neg (by simpa using h),List.length_append];rfl
section
variable {prog:Program} {w:World} {A:Around} {R:Result→Shared→Prop} {I:Addr} {fp wr:List Addr} {G:Array GenState→Array GenState→Prop} {n:Nat} {Pv:Nat→Value→Prop} {St:Nat→Shared→Prop}
noncomputable abbrev TxtSet (prog:Program) (w:World) (h:Heap) (S:Addr) (val:Nat→Str) (i:Nat):Prop:=h.SetOf (PySem.strKind prog w) S (fun k=>decide (k∈metT val i)) (metT val i).length
theorem TxtSet.keep {h h':Heap} {S:Addr} {val:Nat→Str} {i:Nat} (t:TxtSet prog w h S val i) (k:∀ o,h.get? S=some o→h'.get? S=some o):TxtSet prog w h' S val i:=by
 obtain ⟨o,es,ep,tb,ho,rest⟩:=t
 exact ⟨o,es,ep,tb,k o ho,rest⟩
theorem Zph (W:WalksS prog w A.in1 I fp wr G n Pv St) (S:Addr) (hSf:S∉fp) (val:Nat→Str) (hval:∀ i v,Pv i v→∃ t,v = .str (val i) t) (hb:n+1<scanBound) :
  ∀ (m i:Nat) (s:Shared),n - i=m→i≤n→St i s→TxtSet prog w s.heap S val i→(∀ s',Moved (S::wr) G s s'→TxtSet prog w s'.heap S val n→R (.ok (.ret .none)) s')→
   codeAny (model prog w) A (.builtin "set.update.loop" ⟨[.ref S,.ref I],[]⟩) R s:=by
 have hSw:S∉wr:=fun h=>hSf (W.sub _ h)
 have up:∀ b∈wr,b∈S::wr:=fun b h=>List.mem_cons_of_mem _ h
 intro m
 induction m with
 | zero =>
  intro i s hm hi st hT hR
  obtain rfl:i=n:=by omega
  refine codeAny_builtin PyProof.Rows.F.entry_set_update_loop ?_
  rw [Around.under_plainId PyProof.Rows.F.plain_set_update_loop _]
  refine wpAny_bind (m:=pyNext (.ref I)) (W.done s _ _ st fun s' mv=>?_)
  exact wpAny_pure (hR s' (mv.mono up) (hT.keep fun o e=>mv.heap S _ hSw e))
 | succ m ih =>
  intro i s hm hi st hT hR
  have hlt:i<n:=by omega
  refine codeAny_builtin PyProof.Rows.F.entry_set_update_loop ?_
  rw [Around.under_plainId PyProof.Rows.F.plain_set_update_loop _]
  refine wpAny_bind (m:=pyNext (.ref I)) (W.item i s _ _ hlt st fun v s' hP st' mv=>?_)
  obtain ⟨t,rfl⟩:=hval i v hP
  have hT':TxtSet prog w s'.heap S val i:=hT.keep fun o e=>mv.heap S _ hSw e
  have his:(PySem.strKind prog w).is (val i) (.str (val i) t)=true:=by simp [PySem.strKind,Value.isStrOf]
  refine wpAny_bind (m:=holding [Value.str (val i) t] (setAdd S (.str (val i) t))) (wpAny_holding ?_)
  unfold setAdd
  refine wpAny_holding (wpAny_bind ((PySem.strKind prog w).pyHash (k:=val i) his ?_))
  have room:(metT val i).length+1<scanBound:=by have:=Zeg val i;omega
  refine wpAny_setAddHashed_of (knd:=PySem.strKind prog w) (s:={s' with toks:=s'.toks+1}) his rfl hT' room fun h' sb hS2=>?_
  have hT2:TxtSet prog w h' S val (i+1):=PyProof.Rows.SetOf_congr hS2 (fun k=>Xij val i k) (Xja val i)
  refine wpAny_pure ⟨plainId_quiet PyProof.Rows.F.plain_set_update_loop _,ih (i+1) _ (by omega) hlt (W.frame _ s' _ _ st' (Nat.le_succ _) fun b hbf o e=>?_) hT2 fun s'' mv' hT3=>?_⟩
  ·rw [sb.2 b fun z:b=S=>hSf (z ▸ hbf)];exact e
  ·refine hR s'' (Moved.trans W.gtrans ((mv.mono up).then_heap (Nat.le_succ _) fun b o hbn e=>?_) mv') hT3
   rw [sb.2 b fun z:b=S=>hbn (by rw [z];exact List.mem_cons_self)];exact e
end
end L2
end
section
namespace L2
open PySem PySem.Spec
section
variable {prog:Program} {w:World} {A:Around} {E:Value→Shared→Prop} {s:Shared}
noncomputable abbrev noSet (led:Bool):Obj:={cls := .type "set",dict:=none,data := .set #[] 0 (.fresh 0 0 led)}
noncomputable abbrev setDone (prog:Program) (w:World) (s:Shared) (val:Nat→Str) (n:Nat) (r:Value) (s₂:Shared):Prop:=r = .none∧∃ h' tk,s₂={s with heap:=h',toks:=tk}∧TxtSet prog w h' s.heap.objs.size val n∧∀ b o,b<s.heap.objs.size→s.heap.get? b=some o→h'.get? b=some o
noncomputable def InitDone (prog:Program) (w:World) (A:Around) (E:Value→Shared→Prop) (s:Shared) (x:Value) (val:Nat→Str) (n:Nat) (led:Bool):Prop :=
 wpAny (model prog w) A.in1.in1 (Builtin.«set.__init__» ⟨[.ref s.heap.objs.size,x],[]⟩) (fun fin s'=>match fin with
   | Fin.done f=>wants (setDone prog w s val n) E (Except.ok f) s'
   | Fin.again c'=>c'.quiet=true∧codeAny (model prog w) A.in1 c' (wants (setDone prog w s val n) E) s')
  (fun e s'=>wants (setDone prog w s val n) E (Except.error e) s') {s with heap:=s.heap.push (noSet led)}
set_option maxHeartbeats 3200000 in
theorem Zhb {x:Value} {val:Nat→Str} {n:Nat} {Q:Value→Shared→Prop}
  (hin:∀ led:Bool,InitDone prog w A E s x val n led)
  (h:∀ h' tk,TxtSet prog w h' s.heap.objs.size val n→(∀ b o,b<s.heap.objs.size→s.heap.get? b=some o→h'.get? b=some o)→Q (.ref s.heap.objs.size) {s with heap:=h',toks:=tk}) :
  wpAny (model prog w) A (call (.type "set") [x]) Q E s:=by
 obtain ⟨c,tl,hmro⟩:=F.called_set.mro
 have hmade:=F.called_set.made
 have hsub:=F.called_set.sub
 refine wpAny_call (codeAny_of_tree ?_)
 show wpAny _ _ (callAny (.type "set") _) _ _ _
 refine wpAny_pure ⟨Code.quiet_builtin _ (by decide +kernel),codeAny_builtin F.entry_type_call ?_⟩
 rw [Around.under_plain (weight_type_call_type "set" [x] []) rfl]
 have h1:=F.called_set.notType
 have h2:=F.called_set.canCreate
 have hct:=F.typeCall_set_1 x
 repeat (any_goals (first | assumption | wp_step))
 refine codeAny_mono (PySem.code_set_new_1 x (E:=E) (Q₁:=fun obj s₁=>∃ led:Bool,obj = .ref s.heap.objs.size∧s₁={s with heap:=s.heap.push (noSet led)}) fun led=>⟨led,rfl,rfl⟩) fun r s₁ hr=>?_
 cases r with
 | error e=>exact hr
 | ok fl =>
  cases fl with
  | ret obj =>
   obtain ⟨led,rfl,rfl⟩:=hr
   have hS:(s.heap.push (noSet led)).get? s.heap.objs.size=some (noSet led):=Heap.get?_push_size _ rfl
   have hT:Shared.TypeIs {s with heap:=s.heap.push (noSet led)} (.ref s.heap.objs.size) "set":=⟨_,hS,rfl⟩
   have hli:=F.called_set.init.lookup
   have hbi:=F.called_set.init.bind (.ref s.heap.objs.size)
   repeat (any_goals (first | assumption | wp_step))
   refine codeAny_mono (codeAny_call_builtin (R:=wants (setDone prog w s val n) E) F.called_set.init.plain F.entry_set_init (PySem.check_set_init_1 hT ?_)) fun r₂ s₂ hr₂=>?_
   ·exact hin led
   ·cases r₂ with
    | error e=>exact hr₂
    | ok fl₂ =>
     cases fl₂ with
     | ret r =>
      obtain ⟨rfl,h',tk,rfl,hS',hk'⟩:=hr₂
      repeat (any_goals (first | assumption | wp_step))
      exact h _ _ hS' hk'
     | _=>exact hr₂.elim
  | _=>exact hr.elim
set_option maxHeartbeats 3200000 in
theorem Xeh {l:Addr} {items:Array Value} {val:Nat→Str} (hh:A.handled=none) (hl:s.heap.IsList l items) (hv:∀ (i:Nat) (v:Value),items[i]?=some v→∃ t,v = .str (val i) t) (hb:items.size+1<scanBound) (led:Bool):InitDone prog w A E s (.ref l) val items.size led:=by
 unfold InitDone
 obtain ⟨ol,hol,hcl,nl,hdl⟩:=hl
 obtain ⟨ocls,odict,odata,oslots⟩:=ol
 simp only at hcl hdl
 subst hcl;subst hdl
 have hS:(s.heap.push (noSet led)).get? s.heap.objs.size=some (noSet led):=Heap.get?_push_size _ rfl
 have hol':(s.heap.push (noSet led)).get? l=some {cls := .type "list",dict:=odict,data := .seq items nl,slots:=oslots}:=Heap.get?_push_of_some _ hol
 have hsls:=F.sub_list_set
 have hslf:=F.sub_list_frozenset
 have hne:(Value.type "list" == Value.type "dict")=false:=by decide
 have hl1:(s.heap.push (noSet led)).IsList l items:=⟨_,hol',rfl,nl,rfl⟩
 unfold Builtin.«set.__init__» noKeywords Builtin.Frozenset.updateFrom
 generalize hPI:pyIter=PI
 wp_walk
 subst hPI
 refine wpAny_pyIter_list hl1 ?_
 refine wpAny_bind (wpAny_runValue ?_)
 have hlS:l<s.heap.objs.size:=Heap.lt_size hol
 have hh3:A.in1.in1.in1.handled=none:=by simp [hh]
 have hsz:(s.heap.push (noSet led)).objs.size=s.heap.objs.size+1:=Heap.size_push ..
 have hne2:l≠(s.heap.push (noSet led)).objs.size:=by rw [hsz];exact Nat.ne_of_lt (Nat.lt_succ_of_lt hlS)
 have hSf:s.heap.objs.size∉[(s.heap.push (noSet led)).objs.size,l]:=fun z=>by
  rw [hsz] at z
  rcases List.mem_cons.mp z with y | y
  ·exact absurd y (Nat.ne_of_lt (Nat.lt_succ_self _))
  ·exact absurd (List.mem_singleton.mp y) (Nat.ne_of_gt hlS)
 refine Zph ((Walks.list hh3 _ l hne2 items).toS) s.heap.objs.size hSf val hv hb items.size 0 _ (by omega) (Nat.zero_le _) ⟨⟨_,Heap.get?_push_size _ rfl,rfl,rfl⟩,hl1.push _⟩ ?_ ?_
 ·exact PyProof.Rows.SetOf_congr ((PyProof.Rows.setObjOf_fresh (knd:=PySem.strKind prog w) led).setOf (Heap.get?_push_of_some _ hS) (by unfold scanBound;omega)) (fun _=>rfl) rfl
 ·intro s' hm hS'
  obtain ⟨h',g',d',tk',os'⟩:=s'
  have eg:g'=s.gens:=hm.gens
  have ed:d'=s.drawn:=hm.drawn
  have eo:os'=s.os:=hm.os
  subst eg;subst ed;subst eo
  refine wpAny_pure ?_
  refine wpAny_pure (a:=Fin.done (Flow.ret Value.none)) ⟨rfl,h',tk',rfl,hS',fun b o hbl e=>?_⟩
  refine hm.heap b o (fun z=>?_) (Heap.get?_push_of_some _ (Heap.get?_push_of_some _ e))
  rcases List.mem_cons.mp z with y | y
  ·exact absurd y (Nat.ne_of_lt hbl)
  ·rcases List.mem_cons.mp y with y | y
   ·rw [hsz] at y;exact absurd y (Nat.ne_of_lt (Nat.lt_succ_of_lt hbl))
   ·cases y
end
end L2
end
section
namespace L2
open PySem PySem.Spec
section
variable {prog:Program} {w:World} {A:Around} {E:Value→Shared→Prop} {s:Shared}
noncomputable def signsOf (x:Str) (i:Nat):Str:=⟨#[x.cps.getD i 0]⟩
set_option maxHeartbeats 3200000 in
theorem Xeg {x:Str} {t:Tok} (hh:A.handled=none) (hb:x.cps.size+1<scanBound) (led:Bool):InitDone prog w A E s (.str x t) (signsOf x) x.cps.size led:=by
 unfold InitDone
 have hS:(s.heap.push (noSet led)).get? s.heap.objs.size=some (noSet led):=Heap.get?_push_size _ rfl
 have hsls:=F.sub_str_set
 have hslf:=F.sub_str_frozenset
 have hne:(Value.type "str" == Value.type "dict")=false:=by decide
 unfold Builtin.«set.__init__» noKeywords Builtin.Frozenset.updateFrom
 generalize hPI:pyIter=PI
 wp_walk
 subst hPI
 have hsz:(s.heap.push (noSet led)).objs.size=s.heap.objs.size+1:=Heap.size_push ..
 refine wpAny_pyIter_str (s:={s with heap:=s.heap.push (noSet led)}) fun o St W st0=>?_
 refine wpAny_bind (wpAny_runValue ?_)
 have hh3:A.in1.in1.in1.handled=none:=by simp [hh]
 have hSf:s.heap.objs.size∉[(s.heap.push (noSet led)).objs.size]:=fun z=>by
  rw [hsz] at z
  exact absurd (List.mem_singleton.mp z) (Nat.ne_of_lt (Nat.lt_succ_self _))
 refine Zph ((W _ hh3).toS) s.heap.objs.size hSf (signsOf x) (fun i v hv=>?_) hb x.cps.size 0 _ (by omega) (Nat.zero_le _) st0 ?_ ?_
 ·obtain ⟨c,u,hc,rfl⟩:=hv
  refine ⟨u,?_⟩
  unfold signsOf
  rw [Array.getD_eq_getD_getElem?,hc];rfl
 ·exact PyProof.Rows.SetOf_congr ((PyProof.Rows.setObjOf_fresh (knd:=PySem.strKind prog w) led).setOf (Heap.get?_push_of_some _ hS) (by unfold scanBound;omega)) (fun _=>rfl) rfl
 ·intro s' hm hS'
  obtain ⟨h',g',d',tk',os'⟩:=s'
  have eg:g'=s.gens:=hm.gens
  have ed:d'=s.drawn:=hm.drawn
  have eo:os'=s.os:=hm.os
  subst eg;subst ed;subst eo
  refine wpAny_pure ?_
  refine wpAny_pure (a:=Fin.done (Flow.ret Value.none)) ⟨rfl,h',tk',rfl,hS',fun b o' hbl e=>?_⟩
  refine hm.heap b o' (fun z=>?_) (Heap.get?_push_of_some _ (Heap.get?_push_of_some _ e))
  rcases List.mem_cons.mp z with y | y
  ·exact absurd y (Nat.ne_of_lt hbl)
  ·have y:=List.mem_singleton.mp y
   rw [hsz] at y;exact absurd y (Nat.ne_of_lt (Nat.lt_succ_of_lt hbl))
theorem Xaj {S:Addr} {val:Nat→Str} {i:Nat} {Q:Value→Shared→Prop} (hT:TxtSet prog w s.heap S val i) (h:Q (.int ((metT val i).length:Nat) (s.toks+1)) {s with toks:=s.toks+1+1}):wpAny (model prog w) A (call (.builtin "len") [.ref S]) Q E s:=by
 obtain ⟨o,es,ep,t,ho,hex,hd,_,_,hb,hf,hn⟩:=hT
 refine call_len_set ho hex hd hf (by unfold scanBound at hb;omega) ?_
 rw [hn];exact h
end
section
variable {X:Cx} {pos p p2 pos2:Pos} {e:Expr} {te:TE}
noncomputable def TextsOf (K:PySem.W.Frag) (H:Hp) (x:V) (val:Nat→Str) (n:Nat):Prop:=(∃ a,x = .ref a∧SqL K H a ((List.range n).map fun i=>V.str (val i)))∨(∃ z,x = .str z∧n=z.cps.size∧val=signsOf z)
noncomputable def tLenSet (K:PySem.W.Frag) (te:TE):TE:=fun σ H Q=>te σ H fun x H1=>∃ val n,TextsOf K H1 x val n∧n+1<scanBound∧Q (.int ((metT val n).length:Nat)) H1
theorem Zcd (hcm:X.calm=true) (hgl:Gl X "len") (hml:X.mg "len"=none) (hgs:Gl X "set") (hms:X.mg "set"=none) (he:PE X e te)
  (hs1:starEach [.Call (.Name "set" p2) [e] [] pos2] X.env=[(false,eval (.Call (.Name "set" p2) [e] [] pos2) X.env)]:=by rfl) (hs2:starEach [e] X.env=[(false,eval e X.env)]:=by rfl) :
  PE X (.Call (.Name "len" p) [.Call (.Name "set" p2) [e] [] pos2] [] pos) (tLenSet X.K te):=by
 intro pins s σ H Q I h
 refine wpAny_Call_Name_kw (Zda I hgl hml Xf ?_ (by decide) (by decide))
 refine PyProof.Rows.callWith_builtin1 ?_ (hs1.trans rfl) rfl
 rw [hs1]
 show wpAny _ _ (spliced ((false,eval (.Call (.Name "set" p2) [e] [] pos2) X.env)::[])) _ _ s
 refine Calls.spliced_cons (wpAny_Call_Name_kw (Zda I hgs hms (by decide +kernel:bootBuiltins "set"=some (.type "set")) ?_ (by decide) (by decide)))
 refine PyProof.Rows.callWith_type1 ?_ (hs2.trans rfl) rfl
 rw [hs2]
 show wpAny _ _ (spliced ((false,eval e X.env)::[])) _ _ s
 refine Calls.spliced_cons (thn (he pins s σ H _ I h) fun u s1 ⟨x,H1,I1,r1,val,n,hx,hb,q⟩=>Calls.spliced_nil ?_)
 have fin:∀ (h':Heap) (tk:Nat),TxtSet X.prog X.w h' s1.heap.objs.size val n→(∀ b o,b<s1.heap.objs.size→s1.heap.get? b=some o→h'.get? b=some o)→wpAny (model X.prog X.w) X.A (spliced []) (fun vs s₁=>wpAny (model X.prog X.w) X.A (call (.builtin "len") (.ref s1.heap.objs.size::vs)) (EP X pins σ Q) X.xe s₁) X.xe {s1 with heap:=h',toks:=tk}:=fun h' tk hT hk=>by
  refine Calls.spliced_nil (Xaj (s:={s1 with heap:=h',toks:=tk}) hT ?_)
  exact ⟨.int _,H1,I1.kept (h':=h') (t':=tk+1+1) fun b o eb=>hk b o (Heap.lt_size eb) eb,⟨_,rfl⟩,q⟩
 rcases hx with ⟨a,rfl,hq⟩ | ⟨z,rfl,rfl,rfl⟩
 ·obtain rfl:u=Value.ref a:=r1
  obtain ⟨its,rv,pl,hz⟩:=I1.list hq
  have hlen:=rv.length
  rw [List.length_map,List.length_range] at hlen
  have hsz:its.toArray.size=n:=by rw [List.size_toArray];omega
  refine Zhb (fun led=>?_) fin
  have hi:=Xeh (prog:=X.prog) (w:=X.w) (E:=X.xe) (val:=val) (I1.ok.hd hcm) pl.isList (fun i v hv=>?_) (by rw [hsz];exact hb) led
  ·rw [hsz] at hi;exact hi
  ·have hv':its[i]?=some v:=by simpa using hv
   have hil:i<n:=by rw [hlen];exact (List.getElem?_eq_some_iff.mp hv').1
   obtain ⟨u,hu,ru⟩:=rv.get (i:=i) (x := .str (val i)) (by rw [List.getElem?_map,List.getElem?_range hil];rfl)
   rw [hv'] at hu;cases hu
   exact ru
 ·obtain ⟨t,rfl⟩:=r1
  exact Zhb (fun led=>Xeg (I1.ok.hd hcm) hb led) fin
end
end L2
end
section
namespace L2
open PySem PySem.W PySem.Spec PyProof.Rows
noncomputable def MakeOkE (P:Program) (w:World) (K:PySem.W.Frag) (mg:Str→Option Value) (base:Heap) (k:Nat) (x:Str) (C:Addr) (ps:List Str) (sp:Sp):Prop :=
 ∃ f fd,Mk K C f∧FnOk P w K mg base (CXe P w) k f fd ps sp∧Binds K fd ps []∧mg x=some (.ref C)
section
variable {X:Cx} {CX:CXT} {k k1 k2 k':Nat} {f C:Addr} {fd:FuncData} {x:Str} {ps:List Str} {sp sp1 sp2:Sp} {e:Expr} {es:List Expr} {t:TA} {p pos:Pos} {E:St→XK}
theorem Zpi {pins:List (Addr×Obj)} {σ:St} {H:Hp} {s:Shared} {Q:VK} {us:List Value} {vs:List V} (M:Mk X.K C f) (F:FnOk X.prog X.w X.K X.mg X.base CX k f fd ps sp) (hr:Room (k+1) X.A) (hb:Binds X.K fd ps []) (hx:PassesX CX X E) (I:Inv X pins σ H s) (r:Vals vs us)
  (hq:sp (.ref (s.heap.objs.size+1)::vs) (upd (upd H s.heap.objs.size (.own (s.heap.objs.size+1))) (s.heap.objs.size+1) (.ins C s.heap.objs.size [])) (fun v H2=>v = .non∧Q (.ref (s.heap.objs.size+1)) H2) (E σ)) :
  wpAny (model X.prog X.w) X.A (call (.ref C) us) (EP X pins σ Q) X.xe s:=by
 have I2:=Inv.made (C:=C) I
 have r2:Vals (V.ref (s.heap.objs.size+1)::vs) (Value.ref (s.heap.objs.size+1)::us) := .cons rfl r
 have hl:(Value.ref (s.heap.objs.size+1)::us++[]).length=ps.length:=by
  have e:=r2.length
  rw [F.len _ _ _ _ hq] at e
  rw [List.append_nil];exact e.symm
 have hb':=hb {s with heap:=(s.heap.push PySem.W.emptyDict).push (PySem.W.instObj C s.heap.objs.size)} (Value.ref (s.heap.objs.size+1)::us) I2.kIn hl
 rw [List.append_nil] at hb'
 refine wpAny_call (Zxc (f:=f) I.kIn M.makes M.init (beq_iff_eq.mp M.fn) (codeAny_mono (F.run _ X.stack _ _ ⟨Value.ref (s.heap.objs.size+1)::us,[]⟩ (Value.ref (s.heap.objs.size+1)::us) _ _ (E σ) (hr.make C us [])
  (I2.env0.make C us []) hb' r2 hq) fun r s' hq'=>?_))
 cases r with
 | error e=>exact hx pins σ _ _ e s' I2 hq'
 | ok fl =>
  cases fl with
  | ret u =>
   obtain ⟨v,H',I3,rv,ev,q3⟩:=I2.after hq'
   subst ev
   exact ⟨rv,⟨V.ref (s.heap.objs.size+1),H',I3,rfl,q3⟩⟩
  | next=>exact False.elim hq'
  | brk=>exact False.elim hq'
  | cont=>exact False.elim hq'
theorem Zcc (h:MakeOk X.prog X.w X.K X.mg X.base k1 x C ps sp1) (h':MakeOkE X.prog X.w X.K X.mg X.base k2 x C ps sp2) (hr:Room k' X.A) (hx:PassesX (CXe X.prog X.w) X E) (ha:PA X (e::es) t) (hk:k1+1≤k':=by decide) (hk':k2+1≤k':=by decide) (hg:Gl X x:=by rfl) (hdb:(x == ("__debug__":Str))=false:=by decide +kernel)
  (he:starEach (e::es) X.env=(false,eval e X.env)::starEach es X.env:=by rfl) (hpl:(backTo pos (starEach es X.env)).any (·.1)=false:=by rfl) :
  PE X (.Call (.Name x p) (e::es) [] pos) (fun σ H Q=>t σ H fun vs H1=>∀ y dx,H1 y=none→H1 dx=none→dx≠y→sp1 (.ref y::vs) (upd (upd H1 dx (.own y)) y (.ins C dx [])) (fun v H2=>v = .non∧Q (.ref y) H2) E0∨sp2 (.ref y::vs) (upd (upd H1 dx (.own y)) y (.ins C dx [])) (fun v H2=>v = .non∧Q (.ref y) H2) (E σ)):=by
 obtain ⟨f,fd,M,F,hb,hm⟩:=h
 obtain ⟨f2,fd2,M2,F2,hb2,hm2⟩:=h'
 obtain rfl:f=f2:=by
  have e1:=M.init
  rw [M2.init] at e1
  injection e1 with z;injection z with z;injection z with z;exact z.symm
 intro pins s σ H Q I h
 refine wpAny_Call_Name_kw (Jo I hg hm ?_ hdb)
 refine PySem.W.callWith_K (h₀:=X.base) I.ok.mod.kin M.kp (thn (ha pos pins s σ H _ I h) fun us s1 ⟨vs,H1,I1,r,q⟩=>⟨I1.kIn,?_⟩) he hpl
 rcases q (s1.heap.objs.size+1) s1.heap.objs.size (I1.hok.fresh (Nat.le_succ _)) (I1.hok.fresh (Nat.le_refl _)) (Nat.ne_of_lt (Nat.lt_succ_self _)) with q | q
 ·exact Zpi (E:=fun _=>E0) M F (hr.mono hk) hb pass0 I1 r q
 ·exact Zpi M F2 (hr.mono hk') hb2 hx I1 r q
end
theorem Xff {x:Str} {g:TG} {tc:TT} {te:TE} {Q:VK} {H:Hp} {D:Addr} {σ0:St} (keep:Nat→Bool) (f:Nat→V) (S:St→Prop) (hz:x.cps.size≤sizeLine) (h0:S σ0) (hD:H D=none)
  (ht:∀ c,c∈x.cps.toList→∀ σ1 H1,S σ1→Same H H1→∀ (R:St→V→Hp→Prop) (R':St→Hp→Prop),(∀ σ2,S σ2→if keep c=true then R σ2 (f c) H1 else R' σ2 H1)→g (.str ⟨#[c]⟩) σ1 H1 fun σ2 H2=>tc σ2 H2 fun b H3=>if b=true then te σ2 H3 fun y H4=>R σ2 y H4 else R' σ2 H3)
  (hq:Q (.ref D) (upd H D (.lst ((x.cps.toList.filter keep).map f)))) :
  CompGo (Its x) g tc te Q σ0 H D:=by
 have hn:x.cps.toList.length=x.cps.size:=Array.length_toList
 refine ⟨fun i m σ1 H2=>i≤x.cps.size∧m=x.cps.size - i∧S σ1∧H2=upd H D (.lst (((x.cps.toList.take i).filter keep).map f)),⟨x.cps.size,Nat.zero_le _,rfl,h0,rfl⟩,?_⟩
 rintro i m σ1 H2 ⟨h1,rfl,h2,rfl⟩
 rcases Nat.lt_or_ge i x.cps.size with z | z
 ·refine .inr ⟨z,?_⟩
  rintro y H3 ⟨rfl,c,hc,rfl⟩
  have hc':x.cps.toList[i]?=some c:=by rw [Array.getElem?_toList];exact hc
  refine ht c (List.mem_of_getElem? hc') σ1 _ h2 (Zj hD) (fun σ2 y H6=>∃ ys m',H6 D=some (.lst ys)∧ys.length<sizeLine∧m'<x.cps.size - i∧(i+1≤x.cps.size∧m'=x.cps.size - (i+1)∧S σ2∧upd H6 D (.lst (ys++[y]))=upd H D (.lst (((x.cps.toList.take (i+1)).filter keep).map f))))
   (fun σ2 H5=>∃ m',m'<x.cps.size - i∧(i+1≤x.cps.size∧m'=x.cps.size - (i+1)∧S σ2∧H5=upd H D (.lst (((x.cps.toList.take (i+1)).filter keep).map f)))) fun σ2 q3=>?_
  have et:x.cps.toList.take (i+1)=x.cps.toList.take i++[c]:=by rw [List.take_add_one,hc'];rfl
  by_cases hk:keep c=true
  ·rw [if_pos hk]
   refine ⟨_,x.cps.size - (i+1),Zb,?_,by omega,by omega,rfl,q3,?_⟩
   ·rw [List.length_map]
    have:=List.length_filter_le keep (x.cps.toList.take i)
    rw [List.length_take] at this;omega
   ·rw [Xh,et,List.filter_append,List.map_append,List.filter_cons_of_pos hk];rfl
  ·rw [if_neg hk]
   refine ⟨x.cps.size - (i+1),by omega,by omega,rfl,q3,?_⟩
   rw [et,List.filter_append,List.map_append,List.filter_cons_of_neg hk];simp
 ·have e:i=x.cps.size:=by omega
  subst e
  rw [List.take_of_length_le (by omega)]
  exact .inl ⟨Nat.le_refl _,hq⟩
theorem Xkg {x:Str} {g:TG} {te:TE} {Q:VK} {H:Hp} {D:Addr} {σ0:St} (f:Nat→V) (S:St→Prop) (hz:x.cps.size≤sizeLine) (h0:S σ0) (hD:H D=none)
  (ht:∀ c,c∈x.cps.toList→∀ σ1 H1,S σ1→Same H H1→∀ R:St→V→Hp→Prop,(∀ σ2,S σ2→R σ2 (f c) H1)→g (.str ⟨#[c]⟩) σ1 H1 fun σ2 H2=>te σ2 H2 fun y H4=>R σ2 y H4)
  (hq:Q (.ref D) (upd H D (.lst (x.cps.toList.map f)))) :
  CompGo (Its x) g tYes te Q σ0 H D:=by
 refine Xff (fun _=>true) f S hz h0 hD (fun c hc σ1 H1 hS hs R R' hR=>?_) (by rw [List.filter_eq_self.mpr fun _ _=>rfl];exact hq)
 exact ht c hc σ1 H1 hS hs R fun σ2 h2=>by have:=hR σ2 h2;rwa [if_pos rfl] at this
structure Ext (H H':Hp):Prop where
 s:Same H H'
 c:Closed H→Closed H'
theorem Ext.trans {A B C:Hp} (a:Ext A B) (b:Ext B C):Ext A C:=⟨a.s.trans b.s,fun z=>b.c (a.c z)⟩
theorem Ext.new {H:Hp} {p:Addr} {o:HO} (h:H p=none) (ho:OwnIn (upd H p o) p o):Ext H (upd H p o):=⟨Zj h,fun c=>Qp c h ho⟩
theorem Ext.lst {H:Hp} {p:Addr} {xs:List V} (h:H p=none):Ext H (upd H p (.lst xs)) := .new h trivial
theorem Ext.tup {H:Hp} {p:Addr} {xs:List V} (h:H p=none):Ext H (upd H p (.tup xs)) := .new h trivial
theorem Ext.made {H:Hp} {x dx C:Addr} {fs:List (Str×V)} (h1:H x=none) (h2:H dx=none) (h3:dx≠x):Ext H (upd (upd H dx (.own x)) x (.ins C dx fs)):=by
 have hx:upd H dx (.own x) x=none:=by rw [Zn (Ne.symm h3)];exact h1
 refine ⟨(Zj h2).trans (Zj hx),fun c=>Qp (Qp c h2 trivial) hx ?_⟩
 show upd (upd H dx (.own x)) x (.ins C dx fs) dx=some (.own x)
 rw [Zn h3];exact Zb
theorem Ext.sub {H H':Hp} (e:Ext H H'):Sub H H' H' := .all (fun b o h=>⟨o,e.s b o h⟩) e.c
theorem Wp {i:Int} {k:Nat} (hk:1≤k) (h:i.natAbs<10 ^ k):(Str.ofString (toString i)).length≤k+1:=by
 rw [Str.ofString_eq_toList]
 show ((toString i).toList.map Char.toNat).toArray.size≤_
 rw [List.size_toArray,List.length_map]
 cases i with
 | ofNat m =>
  show (Nat.repr m).toList.length≤_
  rw [Nat.toList_repr]
  have:=PyProof.Rows.digits10_le hk (show m<10 ^ k from h)
  omega
 | negSucc m =>
  show ("-"++Nat.repr (m+1)).toList.length≤_
  rw [String.toList_append,List.length_append,Nat.toList_repr]
  have:=PyProof.Rows.digits10_le hk (show m+1<10 ^ k from h)
  show 1+_≤_
  omega
theorem Zz (x y:Str):(x++y).cps.toList=x.cps.toList++y.cps.toList:=Array.toList_append
theorem Zk (x y:Str):(x++y).length=x.length+y.length:=Array.size_append
structure Tx (n:Nat) (S:List Nat) (x:Str):Prop where
 n:x.length≤n
 s:∀ c,c∈x.cps.toList→c∈S
theorem Tx.app {n m:Nat} {S:List Nat} {x y:Str} (h:Tx n S x) (h':Tx m S y):Tx (n+m) S (x++y):=⟨by rw [Zk];have:=h.n;have:=h'.n;omega,fun c hc=>by
 rw [Zz] at hc
 exact (List.mem_append.mp hc).elim (h.s c) (h'.s c)⟩
theorem Tx.one {S:List Nat} {c:Nat} (h:c∈S):Tx 1 S ⟨#[c]⟩:=⟨Nat.le_refl _,fun d hd=>by rw [List.mem_singleton.mp hd];exact h⟩
theorem Tx.slice {n:Nat} {S:List Nat} {x:Str} (h:Tx n S x) (lo hi:Option Int):Tx n S (Txt.slice x lo hi):=by
 have e:=KM.Jq x lo hi
 refine ⟨?_,fun c hc=>h.s c ?_⟩
 ·have e2:=congrArg List.length e
  rw [List.length_take,List.length_drop] at e2
  have e3:(Txt.slice x lo hi).cps.toList.length=(Txt.slice x lo hi).length:=Array.length_toList
  have e4:x.cps.toList.length=x.length:=Array.length_toList
  have:=h.n
  omega
 ·rw [e] at hc
  exact List.mem_of_mem_drop (List.mem_of_mem_take hc)
theorem Zde (x:Str) (k:Nat) (h:k≤x.length):(Txt.slice x none (some (k:Int))).length=k:=by
 have e2:=congrArg List.length (KM.Jq x none (some (k:Int)))
 rw [HT.sIx_nat,HT.sIx_none,List.drop_zero,List.length_take] at e2
 have e3:(Txt.slice x none (some (k:Int))).cps.toList.length=(Txt.slice x none (some (k:Int))).length:=Array.length_toList
 have e4:x.cps.toList.length=x.length:=Array.length_toList
 omega
theorem Zjg (x:Str) (k:Nat) (h:k≤x.length):(Txt.slice x (some (k:Int)) none).length=x.length - k:=by
 have e2:=congrArg List.length (KM.Jq x (some (k:Int)) none)
 rw [HT.sIx_nat,HT.sIx_none,List.length_take,List.length_drop] at e2
 have e3:(Txt.slice x (some (k:Int)) none).cps.toList.length=(Txt.slice x (some (k:Int)) none).length:=Array.length_toList
 have e4:x.cps.toList.length=x.length:=Array.length_toList
 omega
theorem Zja {x:Str} {k:Nat} (h:k<x.length):∃ c,c∈x.cps.toList∧atI x.cps.toList ((k:Nat):Int)=some c:=by
 have h':k<x.cps.toList.length:=by rw [Array.length_toList];exact h
 exact ⟨x.cps.toList[k],List.getElem_mem h',Zy (List.getElem?_eq_getElem h')⟩
noncomputable def dsN (ns:List Str):Nat:=(metT (fun i=>ns.getD i Str.empty) ns.length).length
noncomputable def dsT (s:Str):Nat:=(metT (signsOf s) s.cps.size).length
theorem Xkc (ns:List Str):dsN ns≤ns.length:=Zeg ..
theorem Xkb (s:Str):dsT s≤s.length:=Zeg ..
theorem Jz (ns:List Str):((List.range ns.length).map fun i=>V.str (ns.getD i Str.empty))=ns.map V.str:=by
 apply List.ext_getElem
 ·rw [List.length_map,List.length_range,List.length_map]
 ·intro i h1 h2
  rw [List.length_map] at h2
  rw [List.getElem_map,List.getElem_map,List.getElem_range,List.getD_eq_getElem?_getD,List.getElem?_eq_getElem h2];rfl
theorem Zgf {K:PySem.W.Frag} {H:Hp} {a:Addr} {ns:List Str} (h:SqL K H a (ns.map V.str)):TextsOf K H (.ref a) (fun i=>ns.getD i Str.empty) ns.length := .inl ⟨a,rfl,by rw [Jz];exact h⟩
theorem Zjc {K:PySem.W.Frag} {H:Hp} (s:Str):TextsOf K H (.str s) (signsOf s) s.cps.size := .inr ⟨s,rfl,rfl,rfl⟩
noncomputable def L26:Str:="abcdefghijklmnopqrstuvwxyz"
noncomputable def L62:Str:="abcdefghijklmnopqrstuvwxyzABCDEFGHIJKLMNOPQRSTUVWXYZ0123456789"
noncomputable def madeOf (t s:Str):Bool:=t.cps.toList.all fun c=>decide (c∈s.cps.toList)
theorem Xne:L62.length=62:=by decide +kernel
theorem Zui:L26.length=26:=by decide +kernel
noncomputable def goodText (s:Str):Bool:=decide (s.length≠0∧s.length≤60∧dsT s=s.length)&&madeOf s L62
noncomputable def isName (n:Str):Bool:=decide (0<n.length∧n.length≤12)&&madeOf n L26
noncomputable def goodNames (ns:List Str):Bool:=decide (ns.length≠0∧ns.length≤20∧dsN ns=ns.length)&&ns.all isName
theorem Zxh (sep:Str) (ys:List Str) (B:Nat) (h:∀ y∈ys,y.length≤B):(Txt.join sep ys).length≤ys.length*(B+sep.length):=by
 have key:∀ (ys:List Str) (acc:Array Nat),(∀ y∈ys,y.length≤B)→(ys.foldl (fun acc p=>acc++sep.cps++p.cps) acc).size≤acc.size+ys.length*(B+sep.length):=by
  intro ys
  induction ys with
  | nil=>intro acc _;simp
  | cons y r ih =>
   intro acc h
   rw [List.foldl_cons]
   have h1:=ih (acc++sep.cps++y.cps) fun z hz=>h z (List.mem_cons_of_mem _ hz)
   have h2:y.cps.size≤B:=h y (List.mem_cons_self ..)
   rw [Array.size_append,Array.size_append] at h1
   rw [List.length_cons,Nat.succ_mul]
   have h3:sep.length=sep.cps.size:=rfl
   omega
 cases ys with
 | nil=>exact Nat.zero_le _
 | cons y r =>
  show (r.foldl (fun acc p=>acc++sep.cps++p.cps) y.cps).size≤_
  have h1:=key r y.cps fun z hz=>h z (List.mem_cons_of_mem _ hz)
  have h2:y.cps.size≤B:=h y (List.mem_cons_self ..)
  rw [List.length_cons,Nat.succ_mul]
  omega
theorem Qe {i:Int} (h:i.natAbs<10 ^ 60):i.natAbs.log2<1920:=by
 by_cases z:i.natAbs=0
 ·rw [z];decide
 ·rw [Nat.log2_lt z]
  exact Nat.lt_trans h (by decide +kernel)
theorem Zbf (s:Str):s=Str.ofString ""↔s.length=0:=by
 have e:Str.ofString ""=⟨#[]⟩:=by decide +kernel
 rw [e]
 constructor
 ·rintro rfl;rfl
 ·intro h
  obtain ⟨c⟩:=s
  have:c=#[]:=Array.eq_empty_of_size_eq_zero h
  rw [this]
theorem Qt {H:Hp} {a b:Addr} {x y:HO} (h:a≠b):upd (upd H a x) b y=upd (upd H b y) a x:=by
 funext c
 by_cases h1:c=b
 ·subst h1
  rw [Zb,Zn (Ne.symm h),Zb]
 ·rw [Zn h1]
  by_cases h2:c=a
  ·subst h2
   rw [Zb,Zb]
  ·rw [Zn h2,Zn h2,Zn h1]
theorem slice_le (x:Str) (lo hi:Option Int):(Txt.slice x lo hi).length≤x.length:=by
 have e2:=congrArg List.length (KM.Jq x lo hi)
 rw [List.length_take,List.length_drop] at e2
 have e3:(Txt.slice x lo hi).cps.toList.length=(Txt.slice x lo hi).length:=Array.length_toList
 have e4:x.cps.toList.length=x.length:=Array.length_toList
 omega
theorem Zdc {H:Hp} {D:Addr} {l l':List V} (h:H D=some (.lst l)) (c:Closed H):Closed (upd H D (.lst l')):=fun b u e=>by
 by_cases z:b=D
 ·subst z;rw [Zb] at e;cases e;trivial
 ·rw [Zn z] at e
  have ow:=c b u e
  clear e
  induction u with
  | ins C dx fs =>
   have x':H dx=some (.own b):=ow
   show upd H D (.lst l') dx=some (.own b)
   rw [Zn fun z=>by rw [z,h] at x';cases x']
   exact x'
  | frz ob u ih=>exact ih ow
  | _=>trivial
theorem Xmj {n k:Nat} (h:k<n):ixN n ((k:Nat):Int)=some k:=by
 have:atI (List.range n) ((k:Nat):Int)=some k:=Zy (by rw [List.getElem?_range h])
 unfold atI at this
 rw [List.length_range] at this
 cases hx:ixN n ((k:Nat):Int) with
 | none=>rw [hx] at this;cases this
 | some j =>
  rw [hx,Option.bind_some] at this
  rw [List.getElem?_eq_some_iff] at this
  obtain ⟨_,z⟩:=this
  rw [List.getElem_range] at z
  rw [z]
end L2
end
section
namespace L2
open PySem PySem.W PySem.Spec PyProof.Rows
theorem Zlh (val:Nat→Str):∀ n k,k∈metT val n→∃ i,i<n∧k=val i
 | 0,k,h=>by cases h
 | n+1,k,h=>by
  unfold metT at h
  by_cases z:val n∈metT val n
  ·rw [if_pos z] at h
   obtain ⟨i,hi,e⟩:=Zlh val n k h
   exact ⟨i,by omega,e⟩
  ·rw [if_neg z] at h
   rcases List.mem_append.mp h with y | y
   ·obtain ⟨i,hi,e⟩:=Zlh val n k y
    exact ⟨i,by omega,e⟩
   ·exact ⟨n,Nat.lt_succ_self _,List.mem_singleton.mp y⟩
theorem Zli (val:Nat→Str):∀ n,(∀ i j,i<n→j<n→val i=val j→i=j)→(metT val n).length=n
 | 0,_=>rfl
 | n+1,h=>by
  unfold metT
  have z:val n∉metT val n:=fun z=>by
   obtain ⟨i,hi,e⟩:=Zlh val n _ z
   have:=h n i (Nat.lt_succ_self _) (by omega) e
   omega
  rw [if_neg z,List.length_append,Zli val n fun i j hi hj e=>h i j (by omega) (by omega) e]
  rfl
theorem Zrb {s:Str} (h:s.cps.toList.Nodup):dsT s=s.length:=by
 refine Zli _ _ fun i j hi hj e=>?_
 unfold signsOf at e
 injection e with e
 have e:=congrArg (fun a=>a[0]?) e
 simp only [List.getElem?_toArray,List.getElem?_cons_zero,Option.some.injEq] at e
 have hi':i<s.cps.toList.length:=by rw [Array.length_toList];exact hi
 have hj':j<s.cps.toList.length:=by rw [Array.length_toList];exact hj
 have g:∀ k (hk:k<s.cps.toList.length),s.cps.getD k 0=s.cps.toList[k]:=fun k hk=>by
  rw [Array.getD_eq_getD_getElem?,← Array.getElem?_toList,List.getElem?_eq_getElem hk];rfl
 rw [g i hi',g j hj'] at e
 exact (List.getElem_inj h).mp e
theorem Xfe {ns:List Str} (h:ns.Nodup):dsN ns=ns.length:=by
 refine Zli _ _ fun i j hi hj e=>?_
 have g:∀ k (hk:k<ns.length),ns.getD k Str.empty=ns[k]:=fun k hk=>by
  rw [List.getD_eq_getElem?_getD,List.getElem?_eq_getElem hk];rfl
 rw [g i hi,g j hj] at e
 exact (List.getElem_inj h).mp e
theorem Xfi:L26.cps.toList.Nodup:=by decide +kernel
theorem Zge {n:Str} (h:Tx 12 L26.cps.toList n) (h0:0<n.length):isName n=true:=by
 unfold isName
 rw [decide_eq_true ⟨h0,h.n⟩,Bool.true_and]
 unfold madeOf
 rw [List.all_eq_true]
 exact fun c hc=>decide_eq_true (h.s c hc)
theorem Zeh {ns:List Str} (h0:ns.length≠0) (h1:ns.length≤20) (hn:ns.Nodup) (hs:∀ n,n∈ns→isName n=true):goodNames ns=true:=by
 unfold goodNames
 rw [decide_eq_true ⟨h0,h1,Xfe hn⟩,Bool.true_and,List.all_eq_true]
 exact hs
theorem Xbb {n:Str} (h:isName n=true):n.length≤12:=by
 unfold isName at h
 simp only [Bool.and_eq_true,decide_eq_true_eq] at h
 exact h.1.2
theorem Xp {ns:List Str} (h:goodNames ns=true):ns.length≤20∧∀ n,n∈ns→n.length≤12:=by
 unfold goodNames at h
 simp only [Bool.and_eq_true,decide_eq_true_eq,List.all_eq_true] at h
 exact ⟨h.1.2.1,fun n hn=>Xbb (h.2 n hn)⟩
structure Grow (p:Addr) (H H':Hp):Prop where
 k:∀ b u,b≠p→H b=some u→H' b=some u
 l:∃ ns:List Int,H' p=some (.lst (ns.map V.int))∧ns.length≤90
 c:Closed H→Closed H'
noncomputable def Pool (p:Addr) (H:Hp):Prop:=∃ ns:List Int,H p=some (.lst (ns.map V.int))∧ns.length≤90
theorem Grow.refl {p:Addr} {H:Hp} (h:Pool p H):Grow p H H:=⟨fun _ _ _ e=>e,h,id⟩
theorem Grow.trans {p:Addr} {A B C:Hp} (a:Grow p A B) (b:Grow p B C):Grow p A C:=⟨fun x u n e=>b.k x u n (a.k x u n e),b.l,fun c=>b.c (a.c c)⟩
theorem Grow.ext {p:Addr} {A B C:Hp} (a:Grow p A B) (b:Ext B C):Grow p A C:=by
 obtain ⟨ns,h,hn⟩:=a.l
 exact ⟨fun x u n e=>b.s x u (a.k x u n e),⟨ns,b.s _ _ h,hn⟩,fun c=>b.c (a.c c)⟩
theorem Grow.pop {p:Addr} {H:Hp} {ns:List Int} (h:Pool p H) (hn:ns.length≤90):Grow p H (upd H p (.lst (ns.map V.int))):=by
 obtain ⟨ms,e,_⟩:=h
 exact ⟨fun b u nb q=>by rw [Zn nb];exact q,⟨ns,Zb,hn⟩,fun c=>Zdc e c⟩
theorem Grow.sub {p:Addr} {H H':Hp} (h:Grow p H H'):Sub H H' H' := .all (fun b o e=>by
 by_cases z:b=p
 ·subst z
  obtain ⟨ns,e,_⟩:=h.l
  exact ⟨_,e⟩
 ·exact ⟨o,h.k b o z e⟩) h.c
theorem Grow.free {p b:Addr} {H H':Hp} (h:Grow p H H') (e:H' b=none):H b=none:=by
 cases z:H b with
 | none=>rfl
 | some u =>
  by_cases y:b=p
  ·subst y
   obtain ⟨ns,q,_⟩:=h.l
   rw [e] at q;cases q
  ·rw [h.k b u y z] at e;cases e
theorem DefOk.none {P:Program} {w:World} {K:PySem.W.Frag} {mg:Str→Option Value} {base:Heap} {x:Str} {st:Stmt} {f:Addr} {fd:FuncData} {ps:List Str} {k:Nat} {sp:Sp} (F:FunAt K mg x st ps f fd) (h:∀ vs H Q E,¬sp vs H Q E):DefOk P w K mg base k x ps sp :=
 ⟨f,fd,⟨fun vs H Q E q=>absurd q (h _ _ _ _),fun A outer s H args us vs Q E _ _ _ _ q=>absurd q (h _ _ _ _)⟩,F.2.1,F.1.kp,F.2.2⟩
theorem Grow.set {p l:Addr} {H H':Hp} {xs ys:List V} (g:Grow p H H') (h0:H l=none) (h:H' l=some (.lst xs)) (hl:l≠p):Grow p H (upd H' l (.lst ys)):=by
 obtain ⟨ns,e,hn⟩:=g.l
 exact ⟨fun b u nb q=>by rw [Zn (Zt q h0)];exact g.k b u nb q,⟨ns,by rw [Zn (Ne.symm hl)];exact e,hn⟩,fun c=>Zdc h (g.c c)⟩
theorem Grow.ne {p l:Addr} {H H':Hp} (g:Grow p H H') (h:H' l=none):l≠p:=fun z=>by
 obtain ⟨ns,e,_⟩:=g.l
 rw [z,e] at h;cases h
end L2
end
section
namespace L2
open PySem PySem.W PySem.Spec PyProof.Rows
section
variable {X:Cx}
theorem Zoh:MtR X "str.startswith" (fun x xs H Q=>∃ (y z:Str) (k:Nat),x = .str y∧xs=[.str z,.int ((k:Nat):Int)]∧k≤y.length∧Q (.bl (decide (z.cps.toList <+: y.cps.toList.drop k))) H):=by
 intro pins s σ H x xs v us Q I rx rv h
 obtain ⟨y,z,k,rfl,rfl,hk,q⟩:=h
 obtain ⟨t,rfl⟩:=rx
 obtain ⟨u1,u2,rfl,⟨t1,rfl⟩,⟨t2,rfl⟩⟩:=vals2 rv
 refine SC.startswith3 ?_
 have e:Txt.startswith3 y z ((k:Nat):Int)=decide (z.cps.toList <+: y.cps.toList.drop k):=by
  unfold Txt.startswith3
  have ef:fromIndex y.length ((k:Nat):Int)=k:=by
   unfold fromIndex
   rw [if_neg (by omega)]
   omega
  have el:y.cps.toList.length=y.length:=Array.length_toList
  have ez:z.cps.toList.length=z.length:=Array.length_toList
  rw [ef,StrLaws.subAt_eq,Bool.eq_iff_iff,decide_eq_true_eq,Bool.and_eq_true,decide_eq_true_eq,beq_iff_eq,List.prefix_iff_eq_take,ez]
  constructor
  ·intro ⟨_,h⟩;exact h.symm
  ·intro h
   refine ⟨?_,h.symm⟩
   have:=congrArg List.length h
   rw [List.length_take,List.length_drop,el,ez] at this
   omega
 rw [e]
 exact ⟨.bl _,H,I,rfl,q⟩
theorem Xec:MtR X "str.index" (fun x xs H Q=>∃ (y:Str) (c:Nat),x = .str y∧xs=[.str ⟨#[c]⟩]∧c∈y.cps.toList∧∀ i:Nat,Q (.int ((i:Nat):Int)) H):=by
 intro pins s σ H x xs v us Q I rx rv h
 obtain ⟨y,c,rfl,rfl,hc,q⟩:=h
 obtain ⟨t,rfl⟩:=rx
 obtain ⟨u,rfl,t',rfl⟩:=rv.one
 have e:=StrLaws.found_one y c
 rw [decide_eq_true hc] at e
 cases ho:Builtin.Str.occurrences y ⟨#[c]⟩ 0 y.length 1 with
 | nil=>rw [ho] at e;cases e
 | cons i rest =>
  exact call_gives F.slot_str_index (typeIs_str s y t) F.entry_str_index (F.args_str_index_2 _ _) (gives_str_index y ⟨#[c]⟩ t t' i rest ho) ⟨.int _,H,I.tok _,⟨_,rfl⟩,q i⟩
noncomputable def rLIndex:V→List V→Hp→VK→Prop:=fun x vs H Q=>∃ (l:Addr) (ws:List Str) (w:Str) (k:Nat),x = .ref l∧vs=[.str w]∧H l=some (.lst (ws.map V.str))∧ws[k]?=some w∧(∀ j,j<k→ws[j]?≠some w)∧ws.length<100000∧Q (.int ((k:Nat):Int)) H
theorem Zqe:MtR X "list.index" rLIndex:=by
 intro pins s σ H x vs v us Q I rx rv h
 obtain ⟨l,ws,w,k,rfl,rfl,hH,hk,hno,hz,q⟩:=h
 cases rx
 obtain ⟨u1,rfl,⟨t,rfl⟩⟩:=vals1 rv
 obtain ⟨z,its,n,rr,hl,e⟩:=I.lstM hH
 have hlen:=rr.length
 rw [List.length_map] at hlen
 have hkl:k<ws.length:=(List.getElem?_eq_some_iff.mp hk).1
 have hat:∀ (j:Nat) (hj:j<its.length),∃ t',its[j] = .str (ws[j]'(by omega)) t':=fun j hj=>by
  obtain ⟨u,hu,ru⟩:=rr.get (i:=j) (x := .str (ws[j]'(by omega))) (by rw [List.getElem?_map,List.getElem?_eq_getElem (by omega)];rfl)
  rw [List.getElem?_eq_getElem hj] at hu
  obtain ⟨t',ht'⟩:=(show ∃ t,u=Value.str _ t from ru)
  exact ⟨t',by rw [← ht'];exact Option.some.inj hu⟩
 let ee:Value→Bool:=fun y=>match y with | .str a _=>decide (a=w) | _=>false
 have he:∀ y,y∈its.toArray→MeetsSeq.EqGives y (.str w t) (ee y):=fun y hy=>by
  obtain ⟨j,hj,rfl⟩:=List.mem_iff_getElem.mp (List.mem_toArray.mp hy)
  obtain ⟨t',e'⟩:=hat j hj
  rw [e']
  exact Xnc _ _ _ _
 have hit:ee (its.toArray[k]'(by rw [List.size_toArray];omega))=true:=by
  obtain ⟨t',e'⟩:=hat k (by omega)
  rw [List.getElem_toArray,e']
  have:=(List.getElem?_eq_some_iff.mp hk).2
  show decide (_=_)=true
  rw [this];exact decide_eq_true rfl
 have hno':∀ m (hm:m<its.toArray.size),m<k→ee its.toArray[m]=false:=fun m hm hmk=>by
  rw [List.size_toArray] at hm
  obtain ⟨t',e'⟩:=hat m hm
  rw [List.getElem_toArray,e']
  show decide (_=_)=false
  refine decide_eq_false fun z=>hno m hmk ?_
  rw [List.getElem?_eq_getElem (by omega),z]
 refine call_meets F.slot_list_index ⟨_,e,rfl⟩ F.entry_list_index (F.args_list_index_2 _ _) (MeetsSeq.list_index l its.toArray n (.str w t) ee he k (by rw [List.size_toArray];omega) (by omega) hit hno') ⟨e,?_⟩
 exact ⟨.int _,H,I.tok _,⟨_,rfl⟩,q⟩
noncomputable def rEqNil:R2:=fun x y H Q=>∃ (l b:Addr) (xs:List V),x = .ref l∧y = .ref b∧H l=some (.lst xs)∧H b=some (.lst [])∧Q (.bl (decide (xs.length=0))) H
theorem Xic (hu:X.A.units+64<cLine):OpR X (compareOp .Eq) rEqNil:=by
 intro pins s σ H x y v u Q I rx ry h
 obtain ⟨l,b,xs,rfl,rfl,h1,h2,q⟩:=h
 cases rx
 cases ry
 obtain ⟨_,its,n,r,_,e⟩:=I.lstM h1
 obtain ⟨_,jts,m,r2,_,f⟩:=I.lstM h2
 have hl:=r.length
 have hl2:=r2.length
 have hj:jts.length=0:=by rw [← hl2];rfl
 by_cases z:xs.length=0
 ·rw [decide_eq_true z] at q
  refine SeqAt.eq_listAt (e:=fun _=>true) ⟨_,e,rfl,n,rfl⟩ ⟨_,f,rfl,m,rfl⟩ (by rw [List.size_toArray,List.size_toArray];omega) (by omega) (fun j h1 h2=>?_) ?_
  ·rw [List.size_toArray] at h2;omega
  ·rw [List.size_toArray,show its.length=0 by omega]
   exact ⟨.bl _,H,I,rfl,q⟩
 ·rw [decide_eq_false z] at q
  refine SeqAt.eq_list_lengthsAt (items:=its.toArray) (items2:=jts.toArray) ⟨_,e,rfl,n,rfl⟩ ⟨_,f,rfl,m,rfl⟩ ?_ (by omega) ⟨.bl _,H,I,rfl,q⟩
  rw [List.size_toArray,List.size_toArray,hj]
  simp only [bne_iff_ne,ne_eq]
  omega
noncomputable def oEqN (hu:X.A.units+64<cLine):=OpR.or (oEqL (X:=X) hu) (Xic hu)
end
inductive Fm where
 | bare (k:Fin 4)
 | sp (a b:Int)
 | le (s:Str)
 | one (k:Fin 3) (f:Fm)
 | two (k:Fin 2) (ns:List Str) (fs:List Fm)
noncomputable def cp (s:String):List Nat:=(Str.ofString s).cps.toList
noncomputable def num (a:Int):List Nat:=(Str.ofString (toString a)).cps.toList
noncomputable def bw (k:Fin 4):Str:=[Str.ofString "nothing",Str.ofString "truth",Str.ofString "whole",Str.ofString "fraction"][k]
noncomputable def ow (k:Fin 3):Str:=[Str.ofString "maybe",Str.ofString "many",Str.ofString "turned"][k]
noncomputable def tw (k:Fin 2):Str:=[Str.ofString "record",Str.ofString "choice"][k]
mutual
noncomputable def sh:Fm→List Nat
 | .bare k=>(bw k).cps.toList
 | .sp a b=>cp "span"++(cp "("++((num a++(cp ", "++num b))++cp ")"))
 | .le s=>cp "letters"++(cp "("++(s.cps.toList++cp ")"))
 | .one k f=>(ow k).cps.toList++(cp "("++(sh f++cp ")"))
 | .two k ns fs=>(tw k).cps.toList++(cp "("++(shs fs ns++cp ")"))
noncomputable def shs:List Fm→List Str→List Nat
 | [],_=>[]
 | f::fs,ns=>(ns.headD Str.empty).cps.toList++(cp " "++(sh f++(match fs with | []=>[] | _::_=>cp ", "++shs fs ns.tail)))
end
mutual
noncomputable def ht:Fm→Nat
 | .bare _=>1
 | .sp _ _=>1
 | .le _=>1
 | .one _ f=>ht f+1
 | .two _ _ fs=>hts fs+1
noncomputable def hts:List Fm→Nat
 | []=>0
 | f::fs=>max (ht f) (hts fs)
end
mutual
noncomputable def okF:Fm→Prop
 | .bare _=>True
 | .sp a b=>a≤b∧a.natAbs<10 ^ 58∧b.natAbs<10 ^ 58
 | .le s=>goodText s=true∧s.length≤60
 | .one _ f=>okF f
 | .two _ ns fs=>goodNames ns=true∧ns.length=fs.length∧okFs fs
noncomputable def okFs:List Fm→Prop
 | []=>True
 | f::fs=>okF f∧okFs fs
end
structure FC where
 b:Fin 4→Addr
 s:Addr
 l:Addr
 o:Fin 3→Addr
 t:Fin 2→Addr
mutual
noncomputable def FAt (c:FC) (X:List Addr) (H:Hp):Fm→Addr→Prop
 | .bare k,o=>o∉X∧∃ dx,H o=some (.ins (c.b k) dx [])
 | .sp a b,o=>o∉X∧∃ dx,H o=some (.ins c.s dx [("low",.int a),("high",.int b)])
 | .le s,o=>o∉X∧∃ dx,H o=some (.ins c.l dx [("signs",.str s)])
 | .one k f,o=>o∉X∧∃ dx i,H o=some (.ins (c.o k) dx [("inner",.ref i)])∧FAt c X H f i
 | .two k ns fs,o=>o∉X∧∃ dx l1 l2 os,H o=some (.ins (c.t k) dx [("names",.ref l1),("forms",.ref l2)])∧l1∉X∧l2∉X∧H l1=some (.lst (ns.map V.str))∧H l2=some (.lst (os.map V.ref))∧FsAt c X H fs os
noncomputable def FsAt (c:FC) (X:List Addr) (H:Hp):List Fm→List Addr→Prop
 | [],os=>os=[]
 | f::fs,os=>∃ o r,os=o::r∧FAt c X H f o∧FsAt c X H fs r
end
noncomputable def AnyM (P:Program) (w:World) (K:PySem.W.Frag) (mg:Str→Option Value) (base:Heap) (k:Nat) (m:Str) (ps:List Str) {ι:Type} (cl:ι→Addr) (sp:ι→Sp):Prop:=∀ i,MethOk P w K mg base k (cl i) m ps (sp i)∧Cls K (cl i)
section
variable {X:Cx} {k k':Nat} {m:Str} {ps:List Str} {ι:Type} {cl:ι→Addr} {sp:ι→Sp} {e o:Expr} {es:List Expr} {t:TA} {ta:TE} {pos apos:Pos}
theorem Jy {pl:Sem Bool} (h:AnyM X.prog X.w X.K X.mg X.base k m ps cl sp) (hr:Room k' X.A) (he:PE X o ta) (hk:k≤k':=by decide)
  (ht:eval (.Call (.Attribute o m apos) [] [] pos) X.env=(do
   let ov ← eval o X.env
   standAt apos.atName
   let (f,first) ← holding [ov] (getMethod ov m pl)
   callWith pos f first (backTo pos (starEach [] X.env)) (backToKw pos (keywordEach [] X.env))):=by rfl) :
  PE X (.Call (.Attribute o m apos) [] [] pos) (fun σ H Q=>ta σ H fun x H1=>∃ a i dx fs,x = .ref a∧H1 a=some (.ins (cl i) dx fs)∧fs.lookup m=none∧sp i [x] H1 Q E0):=by
 intro pins s σ H Q I hq
 refine PySem.W.methodCall_KW (pl:=pl) (thn (he pins s σ H _ I hq) fun u s1 ⟨x,H1,I1,rx,a,i,dx,fs,ex,ea,l,q⟩=>?_) ht
 subst ex
 obtain rfl:u=Value.ref a:=rx
 obtain ⟨⟨f,fd,F,hb,hm⟩,c⟩:=h i
 refine Zab I1 ea c hm l ?_
 exact PySem.W.callWith_K0 (first:=[.ref a]) I1.kIn hm.kp (Zsf (us:=[.ref a]) (vs:=[.ref a]) (dvs:=[]) (ds:=[]) F (hr.mono hk) hb .nil pass0 I1 (.cons rfl .nil) (by rw [List.append_nil];exact q))
end
theorem Xcd (m:Nat):num ((m:Nat):Int)=(Nat.toDigits 10 m).map Char.toNat:=KIN.signs_num m
theorem Ztg (m:Nat):num (-((m+1:Nat):Int))=45::(Nat.toDigits 10 (m+1)).map Char.toNat:=by
 have e : -((m+1:Nat):Int)=Int.negSucc m:=rfl
 rw [e]
 unfold num
 rw [Str.ofString_eq_toList]
 show ((("-"++Nat.repr (m+1)).toList.map Char.toNat))=_
 rw [String.toList_append,List.map_append,Nat.toList_repr]
 rfl
noncomputable def figs (m:Nat):List Nat:=(Nat.toDigits 10 m).map Char.toNat
theorem Zya {m:Nat} (h:m<10 ^ 58):(figs m).length≤58:=by unfold figs;rw [List.length_map];exact PyProof.Rows.digits10_le (by decide) h
theorem Zij (m:Nat):figs m≠[]:=fun e=>by
 have h:=PyProof.Rows.tDigits_len_ge 10 m
 unfold figs at e
 rw [List.map_eq_nil_iff.mp e] at h
 exact absurd h (by decide)
theorem Zyc (m:Nat):NumText.AllDigits (figs m):=fun c hc=>by
 obtain ⟨ch,hch,e⟩:=List.mem_map.mp hc
 have r:=PyProof.Rows.digit_range (Nat.isDigit_of_mem_toDigits (by decide) (by decide) hch)
 rw [← e]
 exact r
theorem Zra {m:Nat} (h:10≤m):figs m=figs (m/10)++figs (m%10):=by
 unfold figs
 rw [← List.map_append,Nat.toDigits_append_toDigits (by decide) (by omega) (Nat.mod_lt _ (by decide)),Nat.div_add_mod]
theorem Zqj:figs 0=[48]:=by decide +kernel
theorem Xji {m:Nat} (h:m<10 ^ 58):PySem.intText? ⟨(figs m).toArray⟩=some ((m:Nat):Int):=by
 have e:=PySem.intText_digits (x:=⟨(figs m).toArray⟩) (Zyc m) (Zij m) (Nat.le_trans (Zya h) (by decide))
 rw [e]
 show some (((NumText.digitsVal (figs m):Nat)):Int)=_
 unfold figs
 rw [KIN.val_back]
structure Mv (cu:Addr) (H H':Hp):Prop where
 k:∀ b u,b≠cu→H b=some u→H' b=some u
 c:Closed H→Closed H'
theorem Mv.refl (cu:Addr) (H:Hp):Mv cu H H:=⟨fun _ _ _ e=>e,id⟩
theorem Mv.trans {cu:Addr} {A B C:Hp} (a:Mv cu A B) (b:Mv cu B C):Mv cu A C:=⟨fun x u n e=>b.k x u n (a.k x u n e),fun c=>b.c (a.c c)⟩
theorem Mv.ext {cu:Addr} {A B C:Hp} (a:Mv cu A B) (b:Ext B C):Mv cu A C:=⟨fun x u n e=>b.s x u (a.k x u n e),fun c=>b.c (a.c c)⟩
theorem Mv.move {cu C dx:Addr} {H:Hp} {fs fs':List (Str×V)} (h:H cu=some (.ins C dx fs)):Mv cu H (upd H cu (.ins C dx fs')) :=
 ⟨fun b u nb e=>by rw [Zn nb];exact e,(Sub.ins (H':=upd H cu (.ins C dx fs')) h (fun b u nb e=>by rw [Zn nb];exact e) Zb).cl⟩
theorem Mv.sub {cu:Addr} {H H':Hp} {o:HO} (h:Mv cu H H') (e:H' cu=some o):Sub H H' H' := .all (fun b u q=>by
 by_cases z:b=cu
 ·subst z;exact ⟨_,e⟩
 ·exact ⟨u,h.k b u z q⟩) h.c
theorem Mv.free {cu b:Addr} {H H':Hp} {o:HO} (h:Mv cu H H') (e:H' cu=some o) (q:H' b=none):H b=none:=by
 cases z:H b with
 | none=>rfl
 | some u =>
  by_cases y:b=cu
  ·subst y;rw [e] at q;cases q
  ·rw [h.k b u y z] at q;cases q
mutual
theorem FAt.keep {c:FC} {X:List Addr} {H H':Hp} (k:∀ b u,b∉X→H b=some u→H' b=some u):∀ (f:Fm) {o:Addr},FAt c X H f o→FAt c X H' f o
 | .bare i,o,h=>by
  obtain ⟨n,dx,e⟩:=h
  exact ⟨n,dx,k _ _ n e⟩
 | .sp a b,o,h=>by
  obtain ⟨n,dx,e⟩:=h
  exact ⟨n,dx,k _ _ n e⟩
 | .le s,o,h=>by
  obtain ⟨n,dx,e⟩:=h
  exact ⟨n,dx,k _ _ n e⟩
 | .one i f,o,h=>by
  obtain ⟨n,dx,j,e,q⟩:=h
  exact ⟨n,dx,j,k _ _ n e,FAt.keep k f q⟩
 | .two i ns fs,o,h=>by
  obtain ⟨n,dx,l1,l2,os,e,n1,n2,e1,e2,q⟩:=h
  exact ⟨n,dx,l1,l2,os,k _ _ n e,n1,n2,k _ _ n1 e1,k _ _ n2 e2,FsAt.keep k fs q⟩
theorem FsAt.keep {c:FC} {X:List Addr} {H H':Hp} (k:∀ b u,b∉X→H b=some u→H' b=some u):∀ (fs:List Fm) {os:List Addr},FsAt c X H fs os→FsAt c X H' fs os
 | [],os,h=>h
 | f::fs,os,h=>by
  obtain ⟨o,r,e,q,q2⟩:=h
  exact ⟨o,r,e,FAt.keep k f q,FsAt.keep k fs q2⟩
end
mutual
theorem FAt.weak {c:FC} {X Y:List Addr} {H:Hp} (hs:∀ x,x∈X→x∈Y):∀ (f:Fm) {o:Addr},FAt c Y H f o→FAt c X H f o
 | .bare i,o,h=>⟨fun z=>h.1 (hs _ z),h.2⟩
 | .sp a b,o,h=>⟨fun z=>h.1 (hs _ z),h.2⟩
 | .le s,o,h=>⟨fun z=>h.1 (hs _ z),h.2⟩
 | .one i f,o,h=>by
  obtain ⟨n,dx,j,e,q⟩:=h
  exact ⟨fun z=>n (hs _ z),dx,j,e,FAt.weak hs f q⟩
 | .two i ns fs,o,h=>by
  obtain ⟨n,dx,l1,l2,os,e,n1,n2,e1,e2,q⟩:=h
  exact ⟨fun z=>n (hs _ z),dx,l1,l2,os,e,fun z=>n1 (hs _ z),fun z=>n2 (hs _ z),e1,e2,FsAt.weak hs fs q⟩
theorem FsAt.weak {c:FC} {X Y:List Addr} {H:Hp} (hs:∀ x,x∈X→x∈Y):∀ (fs:List Fm) {os:List Addr},FsAt c Y H fs os→FsAt c X H fs os
 | [],os,h=>h
 | f::fs,os,h=>by
  obtain ⟨o,r,e,q,q2⟩:=h
  exact ⟨o,r,e,FAt.weak hs f q,FsAt.weak hs fs q2⟩
end
theorem FsAt.snoc {c:FC} {X:List Addr} {H:Hp} {f:Fm} {o:Addr} (hf:FAt c X H f o):∀ (fs:List Fm) {os:List Addr},FsAt c X H fs os→FsAt c X H (fs++[f]) (os++[o])
 | [],os,h=>by
  obtain rfl:os=[]:=h
  exact ⟨o,[],rfl,hf,rfl⟩
 | g::fs,os,h=>by
  obtain ⟨o',r,rfl,q,q2⟩:=h
  exact ⟨o',r++[o],rfl,q,FsAt.snoc hf fs q2⟩
theorem FsAt.len {c:FC} {X:List Addr} {H:Hp}:∀ (fs:List Fm) {os:List Addr},FsAt c X H fs os→os.length=fs.length
 | [],os,h=>by
  obtain rfl:os=[]:=h
  rfl
 | g::fs,os,h=>by
  obtain ⟨o',r,rfl,q,q2⟩:=h
  rw [List.length_cons,FsAt.len fs q2];rfl
noncomputable def wd:Fm→Str
 | .bare k=>bw k
 | .sp _ _=>Str.ofString "span"
 | .le _=>Str.ofString "letters"
 | .one k _=>ow k
 | .two k _ _=>tw k
noncomputable def bd:Fm→List Nat
 | .bare _=>[]
 | .sp a b=>num a++(cp ", "++num b)
 | .le s=>s.cps.toList
 | .one _ f=>sh f
 | .two _ ns fs=>shs fs ns
noncomputable def isB:Fm→Bool
 | .bare _=>true
 | _=>false
theorem Xgc (f:Fm) (h:isB f=false):sh f=(wd f).cps.toList++(cp "("++(bd f++cp ")")):=by
 cases f with
 | bare k=>cases h
 | sp a b=>rw [sh];rfl
 | le s=>rw [sh];rfl
 | one k f=>rw [sh];rfl
 | two k ns fs=>rw [sh];rfl
noncomputable def FIG:Str:="0123456789"
theorem Xjb:∀ f:Fm,1≤ht f
 | .bare _=>by rw [ht];exact Nat.le_refl _
 | .sp _ _=>by rw [ht];exact Nat.le_refl _
 | .le _=>by rw [ht];exact Nat.le_refl _
 | .one _ f=>by rw [ht];omega
 | .two _ _ fs=>by rw [ht];omega
mutual
theorem FAt.add {c:FC} {X:List Addr} {H:Hp} {l:Addr} (hl:H l=none):∀ (f:Fm) {o:Addr},FAt c X H f o→FAt c (l::X) H f o
 | .bare i,o,h=>by
  obtain ⟨n,dx,e⟩:=h
  exact ⟨fun z=>(List.mem_cons.mp z).elim (fun y=>by rw [y,hl] at e;cases e) n,dx,e⟩
 | .sp a b,o,h=>by
  obtain ⟨n,dx,e⟩:=h
  exact ⟨fun z=>(List.mem_cons.mp z).elim (fun y=>by rw [y,hl] at e;cases e) n,dx,e⟩
 | .le s,o,h=>by
  obtain ⟨n,dx,e⟩:=h
  exact ⟨fun z=>(List.mem_cons.mp z).elim (fun y=>by rw [y,hl] at e;cases e) n,dx,e⟩
 | .one i f,o,h=>by
  obtain ⟨n,dx,j,e,q⟩:=h
  exact ⟨fun z=>(List.mem_cons.mp z).elim (fun y=>by rw [y,hl] at e;cases e) n,dx,j,e,FAt.add hl f q⟩
 | .two i ns fs,o,h=>by
  obtain ⟨n,dx,l1,l2,os,e,n1,n2,e1,e2,q⟩:=h
  exact ⟨fun z=>(List.mem_cons.mp z).elim (fun y=>by rw [y,hl] at e;cases e) n,dx,l1,l2,os,e,fun z=>(List.mem_cons.mp z).elim (fun y=>by rw [y,hl] at e1;cases e1) n1,fun z=>(List.mem_cons.mp z).elim (fun y=>by rw [y,hl] at e2;cases e2) n2,e1,e2,FsAt.add hl fs q⟩
theorem FsAt.add {c:FC} {X:List Addr} {H:Hp} {l:Addr} (hl:H l=none):∀ (fs:List Fm) {os:List Addr},FsAt c X H fs os→FsAt c (l::X) H fs os
 | [],os,h=>h
 | f::fs,os,h=>by
  obtain ⟨o,r,e,q,q2⟩:=h
  exact ⟨o,r,e,FAt.add hl f q,FsAt.add hl fs q2⟩
end
inductive Sl where
 | b (k:Fin 4) | s | l | o (k:Fin 3) | t (k:Fin 2)
noncomputable def clS (c:FC):Sl→Addr
 | .b k=>c.b k
 | .s=>c.s
 | .l=>c.l
 | .o k=>c.o k
 | .t k=>c.t k
noncomputable def slot:Fm→Sl
 | .bare k => .b k
 | .sp _ _ => .s
 | .le _ => .l
 | .one k _ => .o k
 | .two k _ _ => .t k
theorem FAt.ins {c:FC} {X:List Addr} {H:Hp} {m:Str} (h1:(m == ("low":Str))=false) (h2:(m == ("high":Str))=false) (h3:(m == ("signs":Str))=false) (h4:(m == ("inner":Str))=false) (h5:(m == ("names":Str))=false) (h6:(m == ("forms":Str))=false) :
  ∀ (f:Fm) {o:Addr},FAt c X H f o→∃ dx fs,H o=some (.ins (clS c (slot f)) dx fs)∧fs.lookup m=none
 | .bare i,o,h=>by
  obtain ⟨n,dx,e⟩:=h
  exact ⟨dx,_,e,rfl⟩
 | .sp a b,o,h=>by
  obtain ⟨n,dx,e⟩:=h
  exact ⟨dx,_,e,by simp [List.lookup,h1,h2]⟩
 | .le s,o,h=>by
  obtain ⟨n,dx,e⟩:=h
  exact ⟨dx,_,e,by simp [List.lookup,h3]⟩
 | .one i f,o,h=>by
  obtain ⟨n,dx,j,e,q⟩:=h
  exact ⟨dx,_,e,by simp [List.lookup,h4]⟩
 | .two i ns fs,o,h=>by
  obtain ⟨n,dx,l1,l2,os,e,_⟩:=h
  exact ⟨dx,_,e,by simp [List.lookup,h5,h6]⟩
theorem Zbd {lo:Int} {n:Nat} {g:TG} {te:TE} {Q:VK} {H:Hp} {D:Addr} {σ0:St} (f:Nat→V) (S:St→Prop) (hn:n≤100000) (h0:S σ0) (hD:H D=none)
  (ht:∀ i:Nat,i<n→∀ σ1 H1,S σ1→Same H H1→∀ R:St→V→Hp→Prop,(∀ σ2,S σ2→R σ2 (f i) H1)→g (.int (lo+(i:Int))) σ1 H1 fun σ2 H2=>te σ2 H2 fun y H4=>R σ2 y H4)
  (hq:Q (.ref D) (upd H D (.lst ((List.range n).map f)))):CompGo (Itr lo n) g tYes te Q σ0 H D:=by
 refine Zyf (fun _=>true) f S hn h0 hD (fun i hi σ1 H1 hS hs R R' hR=>?_) (by rw [List.filter_eq_self.mpr fun _ _=>rfl];exact hq)
 exact ht i hi σ1 H1 hS hs R fun σ2 h2=>by have:=hR σ2 h2;rwa [if_pos rfl] at this
end L2
end
section
namespace L2
open PySem PySem.W PySem.Spec PyProof.Rows
noncomputable def tCut (t u:TS):TS:=fun D σ H=>∃ J:St→Hp→Prop,t {D with nx:=J} σ H∧∀ σ' H',J σ' H'→u D σ' H'
theorem Qb {X:Cx} {st:Stmt} {rest:List Stmt} {t u:TS} (h1:PS X st t) (h2:PSs X rest u):PSs X (st::rest) (tCut t u):=by
 intro pins s σ H D I h
 obtain ⟨J,h,hJ⟩:=h
 refine wpAny_execs_cons (thn (h1 pins s σ H {D with nx:=J} I h) fun f s1 q=>?_)
 cases f with
 | next =>
  obtain ⟨σ',H',I',q⟩:=q
  exact h2 pins s1 σ' H' D I' (hJ _ _ q)
 | ret v=>exact q
 | brk=>exact q
 | cont=>exact q
end L2
end
section
namespace L2
open PySem PySem.W PySem.Spec PyProof.Rows
section
variable {X:Cx} {k2 k':Nat} {C:Addr} {m:Str} {ps:List Str} {sp2:Sp} {e o:Expr} {es:List Expr} {t:TA} {ta:TE} {pos apos:Pos} {E:St→XK}
theorem Qu {pl:Sem Bool} (h':MethOkE X.prog X.w X.K X.mg X.base k2 C m ps sp2) (c:Cls X.K C) (hr:Room k' X.A) (hx:PassesX (CXe X.prog X.w) X E) (he:PE X o ta) (ha:PA X (e::es) t) (hk':k2≤k':=by decide)
  (hst:starEach (e::es) X.env=(false,eval e X.env)::starEach es X.env:=by rfl) (hpl:(backTo pos (starEach es X.env)).any (·.1)=false:=by rfl)
  (ht:eval (.Call (.Attribute o m apos) (e::es) [] pos) X.env=(do
   let ov ← eval o X.env
   standAt apos.atName
   let (f,first) ← holding [ov] (getMethod ov m pl)
   callWith pos f first (backTo pos (starEach (e::es) X.env)) (backToKw pos (keywordEach [] X.env))):=by rfl) :
  PE X (.Call (.Attribute o m apos) (e::es) [] pos) (fun σ H Q=>ta σ H fun x H1=>∃ a dx fs,x = .ref a∧H1 a=some (.ins C dx fs)∧fs.lookup m=none∧t σ H1 fun vs H2=>sp2 (x::vs) H2 Q (E σ)):=by
 obtain ⟨f2,fd2,F2,hb2,hm⟩:=h'
 intro pins s σ H Q I hq
 refine PySem.W.methodCall_KW (pl:=pl) (thn (he pins s σ H _ I hq) fun u s1 ⟨x,H1,I1,rx,a,dx,fs,ex,ea,l,q⟩=>?_) ht
 subst ex
 obtain rfl:u=Value.ref a:=rx
 refine Zab I1 ea c hm l ?_
 refine PySem.W.callWith_K (first:=[.ref a]) (h₀:=X.base) I.ok.mod.kin hm.kp (thn (ha pos pins s1 σ H1 _ I1 q) fun us s2 ⟨vs,H2,I2,r,q2⟩=>⟨I2.kIn,?_⟩) hst hpl
 have r2:Vals (V.ref a::vs) (Value.ref a::us) := .cons rfl r
 have hl:(Value.ref a::us).length=ps.length:=by rw [← r2.length];exact F2.len _ _ _ _ q2
 have hb':=hb2 s2 (.ref a::us) I2.kIn (by rw [List.append_nil];exact hl)
 rw [List.append_nil] at hb'
 refine wpAny_call (codeAny_mono (F2.run X.A X.stack s2 H2 ⟨.ref a::us,[]⟩ (.ref a::us) (.ref a::vs) Q (E σ) (hr.mono hk') I2.env0 hb' r2 q2) fun r s' hq=>?_)
 cases r with
 | error e=>exact hx pins σ H2 s2 e s' I2 hq
 | ok fl =>
  cases fl with
  | ret u=>exact I2.after hq
  | next=>exact False.elim hq
  | brk=>exact False.elim hq
  | cont=>exact False.elim hq
end
noncomputable def strip (z q:List Nat):Option (List Nat):=if z <+: q then some (q.drop z.length) else none
theorem Yc {z q r:List Nat} (h:strip z q=some r):q=z++r:=by
 unfold strip at h
 split at h
 ·rename_i c
  obtain ⟨w,rfl⟩:=c
  rw [List.drop_left] at h
  rw [Option.some.inj h]
 ·cases h
theorem Zbe (z r:List Nat):strip z (z++r)=some r:=by
 unfold strip
 rw [if_pos ⟨r,rfl⟩,List.drop_left]
noncomputable def inS (S:Str) (c:Nat):Bool:=decide (c∈S.cps.toList)
noncomputable def runS (S:Str) (q:List Nat):List Nat:=q.takeWhile (inS S)
noncomputable def offS (S:Str) (q:List Nat):List Nat:=q.dropWhile (inS S)
theorem Yh (S:Str) (q:List Nat):runS S q++offS S q=q:=List.takeWhile_append_dropWhile
theorem Qx {S:Str} {q:List Nat}:∀ c,c∈runS S q→c∈S.cps.toList:=fun c hc=>by
 have:∀ (l:List Nat),c∈l.takeWhile (inS S)→inS S c=true:=by
  intro l
  induction l with
  | nil=>intro h;cases h
  | cons a l ih =>
   intro h
   rw [List.takeWhile_cons] at h
   split at h
   ·rename_i ha
    rcases List.mem_cons.mp h with z | z
    ·rw [z];exact ha
    ·exact ih z
   ·cases h
 exact of_decide_eq_true (this q hc)
theorem Xig {S:Str} {q:List Nat}:∀ c r,offS S q=c::r→c∉S.cps.toList:=fun c r h hc=>by
 have:=List.head?_dropWhile_not (inS S) q
 unfold offS at h
 rw [h] at this
 have h2:inS S c=false:=by simpa using this
 rw [show inS S c=true from decide_eq_true hc] at h2
 cases h2
noncomputable def valD (g:List Nat):Nat:=NumText.digitsVal g
noncomputable def numT (s:Bool) (r:List Nat):Option (Int×List Nat) :=
 if runS FIG r=[]∨58<(runS FIG r).length then none
 else if (runS FIG r).head?=some 48∧(s=true∨1<(runS FIG r).length) then none
 else some (if s=true then -((valD (runS FIG r):Nat):Int) else ((valD (runS FIG r):Nat):Int),offS FIG r)
noncomputable def rdNum (q:List Nat):Option (Int×List Nat):=match strip (cp "-") q with
 | some r=>numT true r
 | none=>numT false q
noncomputable def rdSpan (q:List Nat):Option (Fm×List Nat) :=
 (rdNum q).bind fun a=>(strip (cp ", ") a.2).bind fun q2=>(rdNum q2).bind fun b=>if a.1≤b.1 then some (.sp a.1 b.1,b.2) else none
noncomputable def rdLet (q:List Nat):Option (Fm×List Nat):=if goodText ⟨(runS L62 q).toArray⟩=true then some (.le ⟨(runS L62 q).toArray⟩,offS L62 q) else none
noncomputable abbrev Rdr:=List Nat→Option (Fm×List Nat)
noncomputable def rdPart (F:Rdr) (q:List Nat):Option ((Str×Fm)×List Nat):=(strip (cp " ") (offS L26 q)).bind fun q1=>(F q1).bind fun f=>some ((⟨(runS L26 q).toArray⟩,f.1),f.2)
noncomputable def rdPs (F:Rdr):Nat→List Nat→Option (List (Str×Fm)×List Nat)
 | 0,_=>none
 | m+1,q=>(rdPart F q).bind fun p=>match strip (cp ", ") p.2 with
  | none=>some ([p.1],p.2)
  | some q2=>(rdPs F m q2).bind fun l=>some (p.1::l.1,l.2)
noncomputable def rdTwo (F:Rdr) (k:Fin 2) (q:List Nat):Option (Fm×List Nat):=(rdPs F (q.length+1) q).bind fun l=>if goodNames (l.1.map Prod.fst)=true then some (.two k (l.1.map Prod.fst) (l.1.map Prod.snd),l.2) else none
noncomputable def rdOne (F:Rdr) (k:Fin 3) (q:List Nat):Option (Fm×List Nat):=(F q).bind fun f=>some (.one k f.1,f.2)
noncomputable def rdBrk (F:Rdr) (w:Str) (q:List Nat):Option (Fm×List Nat) :=
 if w=Str.ofString "span" then rdSpan q
 else if w=Str.ofString "letters" then rdLet q
 else if w=ow 0 then rdOne F 0 q
 else if w=ow 1 then rdOne F 1 q
 else if w=tw 0 then rdTwo F 0 q
 else if w=tw 1 then rdTwo F 1 q
 else if w=ow 2 then rdOne F 2 q
 else none
noncomputable def bareK (w:Str):Option (Fin 4):=if w=bw 0 then some 0 else if w=bw 1 then some 1 else if w=bw 2 then some 2 else if w=bw 3 then some 3 else none
theorem Zmh {w:Str} {k:Fin 4} (h:bareK w=some k):w=bw k:=by
 unfold bareK at h
 split at h
 ·rename_i e;rw [← Option.some.inj h];exact e
 ·split at h
  ·rename_i e;rw [← Option.some.inj h];exact e
  ·split at h
   ·rename_i e;rw [← Option.some.inj h];exact e
   ·split at h
    ·rename_i e;rw [← Option.some.inj h];exact e
    ·cases h
theorem Xbi {w:Str} (h:bareK w=none):w≠bw 0∧w≠bw 1∧w≠bw 2∧w≠bw 3:=by
 unfold bareK at h
 split at h
 ·cases h
 ·split at h
  ·cases h
  ·split at h
   ·cases h
   ·split at h
    ·cases h
    ·exact ⟨‹_›,‹_›,‹_›,‹_›⟩
noncomputable def rdForm:Nat→Rdr
 | 0,_=>none
 | n+1,q=>match bareK ⟨(runS L26 q).toArray⟩ with
  | some k=>some (.bare k,offS L26 q)
  | none=>(strip (cp "(") (offS L26 q)).bind fun q1=>(rdBrk (rdForm n) ⟨(runS L26 q).toArray⟩ q1).bind fun f=>(strip (cp ")") f.2).bind fun q3=>some (f.1,q3)
theorem Xbf {c:Nat} (h:c∈FIG.cps.toList):48≤c∧c≤57:=by
 have:∀ c,c∈FIG.cps.toList→48≤c∧c≤57:=by decide +kernel
 exact this c h
theorem Zyb:∀ (k m:Nat),10 ^ k≤m→k<(figs m).length
 | 0,m,_=>List.length_pos_iff.mpr (Zij m)
 | k+1,m,h=>by
  have h10:10≤m:=Nat.le_trans (by rw [Nat.pow_succ];have:=Nat.pow_pos (n:=k) (show 0<10 by decide);omega) h
  rw [Zra h10,List.length_append]
  have h1:=Zyb k (m/10) (by rw [Nat.le_div_iff_mul_le (by decide)];rw [Nat.pow_succ] at h;exact h)
  have h2:=List.length_pos_iff.mpr (Zij (m%10))
  omega
theorem Xci:∀ (n:Nat) (r:List Nat),r.length=n+1→(∀ c,c∈r→48≤c∧c≤57)→(r.head?≠some 48∨n=0)→∃ m,figs m=r
 | n,r,hn,hd,hh=>by
  have hr:r≠[]:=fun z=>by rw [z] at hn;cases hn
  obtain ⟨i,d,rfl⟩:∃ i d,r=i++[d]:=⟨r.dropLast,r.getLast hr,(List.dropLast_concat_getLast hr).symm⟩
  have d1:=hd d (by simp)
  have one:∀ k:Fin 10,figs k.val=[48+k.val]:=by decide +kernel
  have hone:=one ⟨d - 48,by omega⟩
  rw [show 48+(d - 48)=d by omega] at hone
  rw [List.length_append,List.length_singleton] at hn
  match n,i,hn,hh with
  | 0,i,hn,_ =>
   obtain rfl:i=[]:=List.length_eq_zero_iff.mp (by omega)
   exact ⟨d - 48,hone⟩
  | n+1,i,hn,hh =>
   have hh':i.head?≠some 48:=by
    rcases hh with z | z
    ·intro y;exact z (by rw [List.head?_append,y];rfl)
    ·cases z
   obtain ⟨m,hm⟩:=Xci n i (by omega) (fun c hc=>hd c (List.mem_append_left _ hc)) (.inl hh')
   have m0:m≠0:=fun z=>by rw [z,Zqj] at hm;rw [← hm] at hh';exact hh' rfl
   refine ⟨10*m+(d - 48),?_⟩
   rw [Zra (by omega),show (10*m+(d - 48))/10=m by omega,show (10*m+(d - 48))%10=d - 48 by omega,hm,hone]
theorem Zuj (m:Nat):valD (figs m)=m:=by
 unfold valD figs
 rw [KIN.val_back]
theorem Qh {q r:List Nat} {a:Int} (h:rdNum q=some (a,r)):q=num a++r∧a.natAbs<10 ^ 58:=by
 obtain ⟨s,r0,hq,h⟩:∃ (s:Bool) (r0:List Nat),q=(if s=true then [45] else [])++r0∧numT s r0=some (a,r):=by
  unfold rdNum at h
  cases e:strip (cp "-") q with
  | some r0=>rw [e] at h;exact ⟨true,r0,by have:=Yc e;rw [show cp "-"=[45] by decide +kernel] at this;exact this,h⟩
  | none=>rw [e] at h;exact ⟨false,q,rfl,h⟩
 unfold numT at h
 split at h
 ·cases h
 rename_i h1
 split at h
 ·cases h
 rename_i h2
 have h:=Option.some.inj h
 have ha:=(congrArg Prod.fst h).symm
 have hr:=(congrArg Prod.snd h).symm
 dsimp only at ha hr
 have hro:=Yh FIG r0
 have hall:=Qx (S:=FIG) (q:=r0)
 generalize runS FIG r0=g at h1 h2 ha hro hall
 rw [← hr] at hro
 have hg:g≠[]:=fun z=>h1 (.inl z)
 have hl:g.length≤58:=by rcases Nat.lt_or_ge 58 g.length with z | z;exact absurd (.inr z) h1;exact z
 obtain ⟨n,hn⟩:∃ n,g.length=n+1:=⟨g.length - 1,by have:=List.length_pos_iff.mpr hg;omega⟩
 obtain ⟨m,hm⟩:=Xci n g hn (fun c hc=>Xbf (hall c hc)) (by
  by_cases z:g.head?=some 48
  ·right
   rcases Nat.lt_or_ge 1 g.length with y | y
   ·exact absurd ⟨z,.inr y⟩ h2
   ·omega
  ·exact .inl z)
 have hb:m<10 ^ 58:=by
  rcases Nat.lt_or_ge m (10 ^ 58) with z | z
  ·exact z
  ·have:=Zyb 58 m z
   rw [hm] at this;omega
 rw [← hm,Zuj] at ha
 rw [hq,← hro,← hm]
 cases s with
 | false =>
  rw [if_neg (by decide)] at ha
  rw [if_neg (by decide),ha]
  exact ⟨by rw [Xcd];rfl,by omega⟩
 | true =>
  rw [if_pos rfl] at ha
  have m0:m≠0:=fun z=>h2 ⟨by rw [← hm,z,Zqj];rfl,.inl rfl⟩
  obtain ⟨j,rfl⟩:∃ j,m=j+1:=⟨m - 1,by omega⟩
  rw [if_pos rfl,ha]
  exact ⟨by rw [Ztg];rfl,by omega⟩
noncomputable def Good (n:Nat) (F:Rdr):Prop:=∀ q f r,F q=some (f,r)→q=sh f++r∧okF f∧ht f≤n
theorem Zgg {F:Rdr} {n:Nat} (g:Good n F) {q r:List Nat} {p:Str×Fm} (h:rdPart F q=some (p,r)):q=p.1.cps.toList++(cp " "++(sh p.2++r))∧okF p.2∧ht p.2≤n:=by
 unfold rdPart at h
 obtain ⟨q1,e1,h⟩:=Option.bind_eq_some_iff.mp h
 obtain ⟨⟨f,q2⟩,e2,h⟩:=Option.bind_eq_some_iff.mp h
 have h:=Option.some.inj h
 injection h with hp hr
 obtain ⟨g1,g2,g3⟩:=g _ _ _ e2
 rw [← hp,← hr]
 refine ⟨?_,g2,g3⟩
 have:=Yc e1
 rw [← g1]
 show q=runS L26 q++_
 rw [← this,Yh]
theorem Zpj {F:Rdr} {n:Nat} (g:Good n F):∀ (m:Nat) (q r:List Nat) (l:List (Str×Fm)),rdPs F m q=some (l,r)→q=shs (l.map Prod.snd) (l.map Prod.fst)++r∧okFs (l.map Prod.snd)∧hts (l.map Prod.snd)≤n∧l≠[]
 | 0,q,r,l,h=>by cases h
 | m+1,q,r,l,h=>by
  rw [rdPs] at h
  obtain ⟨⟨p,q1⟩,e1,h⟩:=Option.bind_eq_some_iff.mp h
  obtain ⟨g1,g2,g3⟩:=Zgg g e1
  dsimp only at h
  cases e2:strip (cp ", ") q1 with
  | none =>
   rw [e2] at h
   have h:=Option.some.inj h
   injection h with hp hr
   rw [← hp,← hr]
   refine ⟨?_,⟨g2,trivial⟩,?_,by simp⟩
   ·rw [g1]
    show _=shs [p.2] [p.1]++q1
    rw [shs];simp only [List.append_assoc,List.append_nil];rfl
   ·show hts [p.2]≤n
    rw [hts,hts];omega
  | some q2 =>
   rw [e2] at h
   obtain ⟨⟨l2,q3⟩,e3,h⟩:=Option.bind_eq_some_iff.mp h
   have h:=Option.some.inj h
   injection h with hp hr
   obtain ⟨k1,k2,k3,k4⟩:=Zpj g m q2 q3 l2 e3
   rw [← hp,← hr]
   refine ⟨?_,⟨g2,k2⟩,?_,by simp⟩
   ·rw [g1,Yc e2,k1]
    cases l2 with
    | nil=>exact absurd rfl k4
    | cons p2 l3 =>
     show _=shs (p.2::p2.2::l3.map Prod.snd) (p.1::p2.1::l3.map Prod.fst)++q3
     rw [shs];simp only [List.append_assoc];rfl
   ·show hts (p.2::l2.map Prod.snd)≤n
    rw [hts];omega
theorem Zvg {q:List Nat} (e1:rdNum q=none):rdSpan q=none:=by simp only [rdSpan,e1,Option.bind_none]
theorem Zvf {q r1:List Nat} {a:Int} (e1:rdNum q=some (a,r1)) (e2:strip (cp ", ") r1=none):rdSpan q=none:=by simp only [rdSpan,e1,Option.bind_some,e2,Option.bind_none]
theorem Zve {q r1 r2:List Nat} {a:Int} (e1:rdNum q=some (a,r1)) (e2:strip (cp ", ") r1=some r2) (e3:rdNum r2=none):rdSpan q=none:=by simp only [rdSpan,e1,Option.bind_some,e2,e3,Option.bind_none]
theorem Zvd {q r1 r2 r3:List Nat} {a b:Int} (e1:rdNum q=some (a,r1)) (e2:strip (cp ", ") r1=some r2) (e3:rdNum r2=some (b,r3)):rdSpan q=if a≤b then some (.sp a b,r3) else none:=by simp only [rdSpan,e1,Option.bind_some,e2,e3]
theorem Xgi {F:Rdr} {q:List Nat} (e1:strip (cp " ") (offS L26 q)=none):rdPart F q=none:=by simp only [rdPart,e1,Option.bind_none]
theorem Xgh {F:Rdr} {q q1:List Nat} (e1:strip (cp " ") (offS L26 q)=some q1) (e2:F q1=none):rdPart F q=none:=by simp only [rdPart,e1,Option.bind_some,e2,Option.bind_none]
theorem Xgg {F:Rdr} {q q1 q2:List Nat} {f:Fm} (e1:strip (cp " ") (offS L26 q)=some q1) (e2:F q1=some (f,q2)):rdPart F q=some ((⟨(runS L26 q).toArray⟩,f),q2):=by simp only [rdPart,e1,Option.bind_some,e2]
theorem Yj {z q r:List Nat} (h:strip z q=some r):r <:+ q:=⟨z,(Yc h).symm⟩
theorem Jl (S:Str) (q:List Nat):offS S q <:+ q:=⟨runS S q,Yh S q⟩
theorem Qw {q r:List Nat} {a:Int} (h:rdNum q=some (a,r)):r <:+ q:=⟨_,(Qh h).1.symm⟩
theorem Zke {F:Rdr} {n:Nat} (g:Good n F) {w:Str} {q r:List Nat} {f:Fm} (h:rdBrk F w q=some (f,r)):q=bd f++r∧wd f=w∧isB f=false∧okF f∧ht f≤n+1:=by
 unfold rdBrk at h
 have one:∀ k:Fin 3,w=ow k→rdOne F k q=some (f,r)→q=bd f++r∧wd f=w∧isB f=false∧okF f∧ht f≤n+1:=fun k e h=>by
  unfold rdOne at h
  obtain ⟨⟨f1,q1⟩,e1,h⟩:=Option.bind_eq_some_iff.mp h
  have h:=Option.some.inj h
  injection h with hp hr
  obtain ⟨g1,g2,g3⟩:=g _ _ _ e1
  rw [← hp,← hr,e]
  exact ⟨g1,rfl,rfl,by rw [okF];exact g2,by rw [ht];exact Nat.succ_le_succ g3⟩
 have two:∀ k:Fin 2,w=tw k→rdTwo F k q=some (f,r)→q=bd f++r∧wd f=w∧isB f=false∧okF f∧ht f≤n+1:=fun k e h=>by
  unfold rdTwo at h
  obtain ⟨⟨l,q1⟩,e1,h⟩:=Option.bind_eq_some_iff.mp h
  dsimp only at h
  split at h
  ·rename_i hg
   have h:=Option.some.inj h
   injection h with hp hr
   obtain ⟨g1,g2,g3,_⟩:=Zpj g _ _ _ _ e1
   rw [← hp,← hr,e]
   exact ⟨g1,rfl,rfl,by rw [okF];exact ⟨hg,by simp,g2⟩,by rw [ht];omega⟩
  ·cases h
 split at h
 ·rename_i e
  unfold rdSpan at h
  obtain ⟨⟨a,q1⟩,e1,h⟩:=Option.bind_eq_some_iff.mp h
  obtain ⟨q2,e2,h⟩:=Option.bind_eq_some_iff.mp h
  obtain ⟨⟨b,q3⟩,e3,h⟩:=Option.bind_eq_some_iff.mp h
  dsimp only at h
  split at h
  ·rename_i hab
   have h:=Option.some.inj h
   injection h with hp hr
   obtain ⟨a1,a2⟩:=Qh e1
   obtain ⟨b1,b2⟩:=Qh e3
   rw [← hp,← hr,e]
   refine ⟨?_,rfl,rfl,by rw [okF];exact ⟨hab,a2,b2⟩,by rw [ht];omega⟩
   have:=Yc e2
   dsimp only at this
   rw [a1,this,b1]
   show _=(num a++(cp ", "++num b))++q3
   simp only [List.append_assoc]
  ·cases h
 split at h
 ·rename_i e
  unfold rdLet at h
  split at h
  ·rename_i hg
   have h:=Option.some.inj h
   injection h with hp hr
   rw [← hp,← hr,e]
   refine ⟨(Yh L62 q).symm,rfl,rfl,?_,by rw [ht];omega⟩
   rw [okF]
   refine ⟨hg,?_⟩
   unfold goodText at hg
   simp only [Bool.and_eq_true,decide_eq_true_eq] at hg
   exact hg.1.2.1
  ·cases h
 split at h
 ·exact one 0 ‹_› h
 split at h
 ·exact one 1 ‹_› h
 split at h
 ·exact two 0 ‹_› h
 split at h
 ·exact two 1 ‹_› h
 split at h
 ·exact one 2 ‹_› h
 ·cases h
theorem Jv:∀ n,Good n (rdForm n)
 | 0=>fun q f r h=>by cases h
 | n+1=>fun q f r h=>by
  rw [rdForm] at h
  cases hk:bareK ⟨(runS L26 q).toArray⟩ with
  | some k =>
   rw [hk] at h
   have h:=Option.some.inj h
   injection h with hp hr
   rw [← hp,← hr]
   refine ⟨?_,by rw [okF];trivial,by rw [ht];omega⟩
   rw [sh,← Zmh hk]
   exact (Yh L26 q).symm
  | none =>
   rw [hk] at h
   obtain ⟨q1,e1,h⟩:=Option.bind_eq_some_iff.mp h
   obtain ⟨⟨f1,q2⟩,e2,h⟩:=Option.bind_eq_some_iff.mp h
   obtain ⟨q3,e3,h⟩:=Option.bind_eq_some_iff.mp h
   have h:=Option.some.inj h
   injection h with hp hr
   obtain ⟨g1,g2,g3,g4,g5⟩:=Zke (Jv n) e2
   obtain rfl:f1=f:=hp
   rw [← hr]
   refine ⟨?_,g4,g5⟩
   rw [Xgc f1 g3,g2]
   have h1:=Yc e1
   have h3:q2=_:=Yc e3
   have h4:=(Yh L26 q).symm
   rw [h1,g1,h3] at h4
   exact h4.trans (by simp only [List.append_assoc])
theorem Zaf {n:Nat} {q r:List Nat} {f:Fm} (h:rdForm n q=some (f,r)):r <:+ q:=⟨_,(Jv n q f r h).1.symm⟩
theorem Zjd {n:Nat} {q r:List Nat} {p:Str×Fm} (h:rdPart (rdForm n) q=some (p,r)):r <:+ q∧r.length<q.length∧p.1.length≤q.length:=by
 have g:=(Zgg (Jv n) h).1
 refine ⟨⟨p.1.cps.toList++(cp " "++sh p.2),by rw [g];simp only [List.append_assoc]⟩,?_⟩
 have l:=congrArg List.length g
 rw [List.length_append,List.length_append,List.length_append,show (cp " ").length=1 by decide +kernel] at l
 have:p.1.cps.toList.length=p.1.length:=Array.length_toList
 omega
theorem Xla {n:Nat} {w:Str} {q r:List Nat} {f:Fm} (h:rdBrk (rdForm n) w q=some (f,r)):r <:+ q:=⟨_,(Zke (Jv n) h).1.symm⟩
noncomputable def restP (F:Rdr) (l:List (Str×Fm)) (m:Nat) (q:List Nat):Option (List (Str×Fm)×List Nat):=match strip (cp ", ") q with
 | none=>some (l,q)
 | some q2=>(rdPs F m q2).bind fun l'=>some (l++l'.1,l'.2)
theorem Xof {F:Rdr} {m:Nat} {q q1:List Nat} {p:Str×Fm} (e:rdPart F q=some (p,q1)):rdPs F (m+1) q=restP F [p] m q1:=by
 rw [rdPs,e]
 unfold restP
 rfl
theorem Xoe {F:Rdr} {l:List (Str×Fm)} {m:Nat} {q:List Nat} (e:strip (cp ", ") q=none):restP F l m q=some (l,q):=by
 unfold restP;rw [e]
theorem Xod {F:Rdr} {l:List (Str×Fm)} {m:Nat} {q q2:List Nat} (e:strip (cp ", ") q=some q2) (e2:rdPart F q2=none):restP F l (m+1) q=none:=by
 unfold restP;rw [e];dsimp only;rw [rdPs,e2];rfl
theorem Xoc {F:Rdr} {l:List (Str×Fm)} {m:Nat} {q q2 q3:List Nat} {p:Str×Fm} (e:strip (cp ", ") q=some q2) (e2:rdPart F q2=some (p,q3)):restP F l (m+1) q=restP F (l++[p]) m q3:=by
 unfold restP
 rw [e]
 dsimp only
 rw [rdPs,e2]
 simp only [Option.bind_some]
 cases strip (cp ", ") q3 with
 | none=>rfl
 | some q4 =>
  dsimp only
  rw [Option.bind_assoc]
  congr 1
  funext l'
  simp only [Option.bind_some,List.append_assoc]
  rfl
section
variable {n:Nat} {q r r2 r3:List Nat} {f:Fm}
theorem Zvh {k:Fin 4} (h:bareK ⟨(runS L26 q).toArray⟩=some k):rdForm (n+1) q=some (.bare k,offS L26 q):=by rw [rdForm,h]
theorem Zwb (h:bareK ⟨(runS L26 q).toArray⟩=none) (e1:strip (cp "(") (offS L26 q)=none):rdForm (n+1) q=none:=by rw [rdForm,h];simp only [e1,Option.bind_none]
theorem Zwa (h:bareK ⟨(runS L26 q).toArray⟩=none) (e1:strip (cp "(") (offS L26 q)=some r) (e2:rdBrk (rdForm n) ⟨(runS L26 q).toArray⟩ r=none):rdForm (n+1) q=none:=by rw [rdForm,h];simp only [e1,Option.bind_some,e2,Option.bind_none]
theorem Zvj (h:bareK ⟨(runS L26 q).toArray⟩=none) (e1:strip (cp "(") (offS L26 q)=some r) (e2:rdBrk (rdForm n) ⟨(runS L26 q).toArray⟩ r=some (f,r2)) (e3:strip (cp ")") r2=none):rdForm (n+1) q=none:=by rw [rdForm,h];simp only [e1,Option.bind_some,e2,e3,Option.bind_none]
theorem Zvi (h:bareK ⟨(runS L26 q).toArray⟩=none) (e1:strip (cp "(") (offS L26 q)=some r) (e2:rdBrk (rdForm n) ⟨(runS L26 q).toArray⟩ r=some (f,r2)) (e3:strip (cp ")") r2=some r3):rdForm (n+1) q=some (f,r3):=by rw [rdForm,h];simp only [e1,Option.bind_some,e2,e3]
end
theorem Zlj (val:Nat→Str):∀ n i j,i<j→j<n→val i=val j→(metT val n).length<n
 | 0,i,j,_,h,_=>by omega
 | n+1,i,j,hij,hj,e=>by
  have mem:∀ m a,a<m→val a∈metT val m:=by
   intro m
   induction m with
   | zero=>intro a ha;omega
   | succ m ih =>
    intro a ha
    unfold metT
    rcases Nat.lt_or_ge a m with z | z
    ·split
     ·exact ih a z
     ·exact List.mem_append_left _ (ih a z)
    ·obtain rfl:a=m:=by omega
     split
     ·assumption
     ·exact List.mem_append_right _ (List.mem_singleton.mpr rfl)
  have le:=Zeg val n
  unfold metT
  rcases Nat.lt_or_ge j n with z | z
  ·have:=Zlj val n i j hij z e
   split
   ·omega
   ·rw [List.length_append,List.length_singleton];omega
  ·obtain rfl:j=n:=by omega
   rw [if_pos (by rw [← e];exact mem j i hij)]
   omega
theorem Zaa {s:Str} {i j:Nat} {c:Nat} (hij:i<j) (h1:s.cps.toList[i]?=some c) (h2:s.cps.toList[j]?=some c):goodText s=false:=by
 unfold goodText
 have hj:j<s.length:=by have:=(List.getElem?_eq_some_iff.mp h2).1;rwa [Array.length_toList] at this
 have:dsT s<s.length:=by
  refine Zlj _ s.cps.size i j hij hj ?_
  unfold signsOf
  have a1:s.cps[i]?=some c:=by rw [← Array.getElem?_toList];exact h1
  have a2:s.cps[j]?=some c:=by rw [← Array.getElem?_toList];exact h2
  simp only [Array.getD_eq_getD_getElem?,a1,a2]
 rw [decide_eq_false (fun z=>by omega),Bool.false_and]
theorem Zoi {ns:List Str} {n:Str} {i j:Nat} (hij:i<j) (h1:ns[i]?=some n) (h2:ns[j]?=some n):goodNames ns=false:=by
 unfold goodNames
 have hj:j<ns.length:=(List.getElem?_eq_some_iff.mp h2).1
 have:dsN ns<ns.length:=by
  refine Zlj _ ns.length i j hij hj ?_
  simp only [List.getD_eq_getElem?_getD,h1,h2]
 rw [decide_eq_false (fun z=>by omega),Bool.false_and]
theorem Xce {a:Int} (h:a.natAbs<10 ^ 58):PySem.intText? ⟨(num a).toArray⟩=some a:=by
 rcases (by omega:a<0∨0≤a) with z | z
 ·obtain ⟨n,rfl⟩:∃ n:Nat,a = -((n+1:Nat):Int):=⟨a.natAbs - 1,by omega⟩
  have hl:=Zya (m:=n+1) (by omega)
  have:=PySem.intText_neg (x:=⟨(num (-((n+1:Nat):Int))).toArray⟩) (cs:=figs (n+1)) (by rw [Ztg];rfl) (Zyc _) (Zij _) (by show (num _).toArray.size≤_;rw [List.size_toArray,Ztg];show (45::figs (n+1)).length≤_;rw [List.length_cons];omega)
  rw [this]
  show some (-((valD (figs (n+1)):Nat):Int))=_
  rw [Zuj]
 ·obtain ⟨m,rfl⟩:=Int.eq_ofNat_of_zero_le z
  rw [Xcd]
  exact Xji (by omega)
end L2
end
namespace KR
open PySem L2 KM
noncomputable def top (i:Nat):Stmt:=PySem.Challenge.pw_keyrise_k32_refused_texts.main.body.getD i (.Pass ⟨0,0,0,0⟩)
noncomputable abbrev Yl:Stmt:=inClass (top 69) 3
noncomputable abbrev Wb:Stmt:=top 70
noncomputable abbrev Je:Stmt:=top 71
noncomputable abbrev Ym:Stmt:=top 72
noncomputable abbrev Wy:Stmt:=top 73
noncomputable abbrev Wh:Stmt:=top 74
noncomputable abbrev Wg:Stmt:=top 75
noncomputable abbrev Xa:Stmt:=top 76
noncomputable abbrev Wq:Stmt:=top 77
noncomputable abbrev Ji:Stmt:=top 78
noncomputable abbrev Zdi:Stmt:=top 99
noncomputable abbrev Yb:Stmt:=top 80
noncomputable abbrev We:Stmt:=top 81
noncomputable abbrev Xl:Stmt:=top 82
noncomputable abbrev Wd:Stmt:=top 83
noncomputable abbrev Yn:Stmt:=top 84
noncomputable abbrev Wj:Stmt:=top 85
noncomputable abbrev Wk:Stmt:=top 86
noncomputable abbrev Wf:Stmt:=top 87
noncomputable abbrev Ww:Stmt:=top 88
noncomputable abbrev Jg:Stmt:=top 89
noncomputable abbrev Wc:Stmt:=top 90
noncomputable abbrev Wv:Stmt:=top 91
noncomputable abbrev Yo:Stmt:=top 92
noncomputable abbrev Xt:Stmt:=top 93
noncomputable abbrev Xm:Stmt:=top 94
noncomputable abbrev Xu:Stmt:=top 95
noncomputable abbrev Xg:Stmt:=top 96
noncomputable abbrev Xj:Stmt:=top 97
noncomputable abbrev Xi:Stmt:=top 98
noncomputable abbrev Jf:Stmt:=top 45
noncomputable abbrev Jh:Stmt:=top 58
noncomputable abbrev Wi:Stmt:=top 59
noncomputable abbrev Wx:Stmt:=inClass (top 50) 0
noncomputable abbrev Yf:Stmt:=inClass (top 52) 0
noncomputable abbrev Ys:Stmt:=inClass (top 63) 0
noncomputable abbrev Yu:Stmt:=inClass (top 64) 0
noncomputable abbrev Wz:Stmt:=inClass (top 61) 0
noncomputable abbrev Jj:Stmt:=inClass (top 62) 0
noncomputable abbrev Wr:Stmt:=inClass (top 65) 0
noncomputable abbrev Wt:Stmt:=inClass (top 69) 0
noncomputable abbrev Yy:Stmt:=inClass (top 69) 1
noncomputable abbrev Ws:Stmt:=inClass (top 69) 2
noncomputable abbrev Yk:Stmt:=inClass (top 69) 4
noncomputable abbrev Xs:Stmt:=top 60
noncomputable abbrev Ye:Stmt:=inClass (top 63) 5
noncomputable abbrev Yg:Stmt:=inClass (top 64) 5
noncomputable abbrev Xy:Stmt:=inClass (top 47) 4
noncomputable abbrev Yr:Stmt:=inClass (top 48) 4
noncomputable abbrev Yq:Stmt:=inClass (top 49) 4
noncomputable abbrev Xr:Stmt:=inClass (top 51) 4
noncomputable abbrev Wl:Stmt:=inClass (top 50) 5
noncomputable abbrev Xz:Stmt:=inClass (top 52) 6
noncomputable abbrev Yt:Stmt:=inClass (top 61) 5
noncomputable abbrev Wm:Stmt:=inClass (top 62) 5
noncomputable abbrev Yd:Stmt:=inClass (top 65) 5
theorem Zfe:FnScope ["self","words"] ["self","words"] (defScope Yl):=⟨rfl,rfl,rfl,by decide +kernel,rfl,by decide +kernel,by decide +kernel⟩
theorem sc_number_at:FnScope ["cursor","below","figures"] ["cursor"] (defScope Wb):=⟨rfl,rfl,rfl,by decide +kernel,rfl,by decide +kernel,by decide +kernel⟩
theorem sc_span_at:FnScope ["cursor","low"] ["cursor"] (defScope Je):=⟨rfl,rfl,rfl,by decide +kernel,rfl,by decide +kernel,by decide +kernel⟩
theorem Zne:FnScope ["cursor"] ["cursor"] (defScope Ym):=⟨rfl,rfl,rfl,by decide +kernel,rfl,by decide +kernel,by decide +kernel⟩
theorem sc_part_at:FnScope ["cursor","depth","name"] ["cursor","depth"] (defScope Wy):=⟨rfl,rfl,rfl,by decide +kernel,rfl,by decide +kernel,by decide +kernel⟩
theorem sc_parts_at:FnScope ["cursor","depth","parts"] ["cursor","depth"] (defScope Wh):=⟨rfl,rfl,rfl,by decide +kernel,rfl,by decide +kernel,by decide +kernel⟩
theorem Zsd:FnScope ["word"] ["word"] (defScope Wg):=⟨rfl,rfl,rfl,by decide +kernel,rfl,by decide +kernel,by decide +kernel⟩
theorem Ju:FnScope ["cursor","word","depth"] ["cursor","word","depth"] (defScope Xa):=⟨rfl,rfl,rfl,by decide +kernel,rfl,by decide +kernel,by decide +kernel⟩
theorem sc_form_at:FnScope ["cursor","depth","word","form"] ["cursor","depth"] (defScope Wq):=⟨rfl,rfl,rfl,by decide +kernel,rfl,by decide +kernel,by decide +kernel⟩
theorem sc_form_of:FnScope ["text","cursor","form"] ["text"] (defScope Ji):=⟨rfl,rfl,rfl,by decide +kernel,rfl,by decide +kernel,by decide +kernel⟩
theorem sc_law:FnScope ["_law_script","_law_number","_law_text_here","_law_form","_law_error","e","_law_told"] ["_law_script"] (defScope Zdi):=⟨rfl,rfl,rfl,by decide +kernel,rfl,by decide +kernel,by decide +kernel⟩
theorem Zji:FnScope ["_law_script","_law_k"] ["_law_script","_law_k"] (defScope Yb):=⟨rfl,rfl,rfl,by decide +kernel,rfl,by decide +kernel,by decide +kernel⟩
theorem sc_law_mixed:FnScope ["_law_cell","_law_k","_law_number"] ["_law_cell","_law_k"] (defScope We):=⟨rfl,rfl,rfl,by decide +kernel,rfl,by decide +kernel,by decide +kernel⟩
theorem sc_law_numbers_of:FnScope ["_law_script","_law_many","_law_salt","_law_start","_law_left","_law_k"] ["_law_script","_law_many","_law_salt"] (defScope Xl):=⟨rfl,rfl,rfl,by decide +kernel,rfl,by decide +kernel,by decide +kernel⟩
theorem sc_law_names:FnScope ["_law_number","_law_many","_law_letters","_law_words","_law_way","_law_size","_law_rest","_law_base","_law_k","_law_at","_law_turn","_law_tail"] ["_law_number","_law_many"] (defScope Wd):=⟨rfl,rfl,rfl,by decide +kernel,rfl,by decide +kernel,by decide +kernel⟩
theorem sc_law_simple:FnScope ["_law_word","_law_number","_law_last","_law_low","_law_high","_law_signs","_law_at"] ["_law_word","_law_number","_law_last"] (defScope Yn):=⟨rfl,rfl,rfl,by decide +kernel,rfl,by decide +kernel,by decide +kernel⟩
theorem sc_law_tree:FnScope ["_law_left","_law_deep","_law_words","_law_number","_law_word","_law_inner"] ["_law_left","_law_deep"] (defScope Wj):=⟨rfl,rfl,rfl,by decide +kernel,rfl,by decide +kernel,by decide +kernel⟩
theorem sc_law_text:FnScope ["_law_tree_here","_law_word","_law_extra","_law_inner","_law_some"] ["_law_tree_here"] (defScope Wk):=⟨rfl,rfl,rfl,by decide +kernel,rfl,by decide +kernel,by decide +kernel⟩
theorem sc_law_alone:FnScope ["_law_error","_law_told"] ["_law_error"] (defScope Wf):=⟨rfl,rfl,rfl,by decide +kernel,rfl,by decide +kernel,by decide +kernel⟩
theorem sc_law_bent:FnScope ["_law_script","_law_text_here","_law_number","_law_some","_law_sign","_law_at","_law_next_sign"] ["_law_script","_law_text_here","_law_number"] (defScope Ww):=⟨rfl,rfl,rfl,by decide +kernel,rfl,by decide +kernel,by decide +kernel⟩
theorem sc_law_odd:FnScope ["_law_number","_law_some"] ["_law_number"] (defScope Jg):=⟨rfl,rfl,rfl,by decide +kernel,rfl,by decide +kernel,by decide +kernel⟩
theorem sc_law_piece:FnScope ["_law_script","_law_text_here","_law_some","_law_piece_here","_law_at"] ["_law_script","_law_text_here"] (defScope Wc):=⟨rfl,rfl,rfl,by decide +kernel,rfl,by decide +kernel,by decide +kernel⟩
theorem sc_law_edge:FnScope ["_law_way","_law_number","_law_letters","_law_words","_law_word","_law_head","_law_last","_law_bad"] ["_law_way","_law_number"] (defScope Wv):=⟨rfl,rfl,rfl,by decide +kernel,rfl,by decide +kernel,by decide +kernel⟩
theorem Znf:FnScope ["_law_text_here","_law_at","_law_part"] ["_law_text_here","_law_at","_law_part"] (defScope Yo):=⟨rfl,rfl,rfl,by decide +kernel,rfl,by decide +kernel,by decide +kernel⟩
theorem sc_law_word_end:FnScope ["_law_text_here","_law_at"] ["_law_text_here","_law_at"] (defScope Xt):=⟨rfl,rfl,rfl,by decide +kernel,rfl,by decide +kernel,by decide +kernel⟩
theorem sc_law_number_end:FnScope ["_law_text_here","_law_at","_law_start","_law_end"] ["_law_text_here","_law_at"] (defScope Xm):=⟨rfl,rfl,rfl,by decide +kernel,rfl,by decide +kernel,by decide +kernel⟩
theorem sc_law_span_end:FnScope ["_law_text_here","_law_at","_law_amid","_law_start","_law_end"] ["_law_text_here","_law_at"] (defScope Xu):=⟨rfl,rfl,rfl,by decide +kernel,rfl,by decide +kernel,by decide +kernel⟩
theorem sc_law_letters_end:FnScope ["_law_text_here","_law_at","_law_end","_law_small"] ["_law_text_here","_law_at"] (defScope Xg):=⟨rfl,rfl,rfl,by decide +kernel,rfl,by decide +kernel,by decide +kernel⟩
theorem sc_law_parts_end:FnScope ["_law_text_here","_law_at","_law_deep","_law_names_here","_law_end"] ["_law_text_here","_law_at","_law_deep"] (defScope Xj):=⟨rfl,rfl,rfl,by decide +kernel,rfl,by decide +kernel,by decide +kernel⟩
theorem sc_law_form_end:FnScope ["_law_text_here","_law_at","_law_deep","_law_end","_law_word"] ["_law_text_here","_law_at","_law_deep"] (defScope Xi):=⟨rfl,rfl,rfl,by decide +kernel,rfl,by decide +kernel,by decide +kernel⟩
theorem Zzc:FnScope ["text","signs"] ["text","signs"] (defScope Jf):=⟨rfl,rfl,rfl,by decide +kernel,rfl,by decide +kernel,by decide +kernel⟩
theorem Zzd:FnScope ["name"] ["name"] (defScope Jh):=⟨rfl,rfl,rfl,by decide +kernel,rfl,by decide +kernel,by decide +kernel⟩
theorem sc_names_of:FnScope ["parts","names"] ["parts"] (defScope Wi):=⟨rfl,rfl,rfl,by decide +kernel,rfl,by decide +kernel,by decide +kernel⟩
theorem Zdg:FnScope ["self","low","high"] ["self","low","high"] (defScope Wx):=⟨rfl,rfl,rfl,by decide +kernel,rfl,by decide +kernel,by decide +kernel⟩
theorem Zad:FnScope ["self","signs"] ["self","signs"] (defScope Yf):=⟨rfl,rfl,rfl,by decide +kernel,rfl,by decide +kernel,by decide +kernel⟩
theorem Zaj:FnScope ["self","parts"] ["self","parts"] (defScope Ys):=⟨rfl,rfl,rfl,by decide +kernel,rfl,by decide +kernel,by decide +kernel⟩
theorem Zba:FnScope ["self","cases"] ["self","cases"] (defScope Yu):=⟨rfl,rfl,rfl,by decide +kernel,rfl,by decide +kernel,by decide +kernel⟩
theorem Znh:FnScope ["self","inner"] ["self","inner"] (defScope Wz):=⟨rfl,rfl,rfl,by decide +kernel,rfl,by decide +kernel,by decide +kernel⟩
theorem Zse:FnScope ["self","inner"] ["self","inner"] (defScope Jj):=⟨rfl,rfl,rfl,by decide +kernel,rfl,by decide +kernel,by decide +kernel⟩
theorem Zka:FnScope ["self","inner"] ["self","inner"] (defScope Wr):=⟨rfl,rfl,rfl,by decide +kernel,rfl,by decide +kernel,by decide +kernel⟩
theorem Zkd:FnScope ["self","text"] ["self","text"] (defScope Wt):=⟨rfl,rfl,rfl,by decide +kernel,rfl,by decide +kernel,by decide +kernel⟩
theorem Zhe:FnScope ["self"] ["self"] (defScope Yy):=⟨rfl,rfl,rfl,by decide +kernel,rfl,by decide +kernel,by decide +kernel⟩
theorem sc_Cursor_skip:FnScope ["self","words","there"] ["self","words"] (defScope Ws):=⟨rfl,rfl,rfl,by decide +kernel,rfl,by decide +kernel,by decide +kernel⟩
theorem sc_Cursor_run_of:FnScope ["self","signs","start"] ["self","signs"] (defScope Yk):=⟨rfl,rfl,rfl,by decide +kernel,rfl,by decide +kernel,by decide +kernel⟩
theorem Zjh:FnScope ["names","forms"] ["names","forms"] (defScope Xs):=⟨rfl,rfl,rfl,by decide +kernel,rfl,by decide +kernel,by decide +kernel⟩
theorem Zhd:FnScope ["self"] ["self"] (defScope Ye):=⟨rfl,rfl,rfl,by decide +kernel,rfl,by decide +kernel,by decide +kernel⟩
theorem Zhf:FnScope ["self"] ["self"] (defScope Yg):=⟨rfl,rfl,rfl,by decide +kernel,rfl,by decide +kernel,by decide +kernel⟩
theorem Zfc:FnScope ["self"] ["self"] (defScope Xy):=⟨rfl,rfl,rfl,by decide +kernel,rfl,by decide +kernel,by decide +kernel⟩
theorem Zkb:FnScope ["self"] ["self"] (defScope Yr):=⟨rfl,rfl,rfl,by decide +kernel,rfl,by decide +kernel,by decide +kernel⟩
theorem Zjj:FnScope ["self"] ["self"] (defScope Yq):=⟨rfl,rfl,rfl,by decide +kernel,rfl,by decide +kernel,by decide +kernel⟩
theorem Zdh:FnScope ["self"] ["self"] (defScope Xr):=⟨rfl,rfl,rfl,by decide +kernel,rfl,by decide +kernel,by decide +kernel⟩
theorem Zng:FnScope ["self"] ["self"] (defScope Wl):=⟨rfl,rfl,rfl,by decide +kernel,rfl,by decide +kernel,by decide +kernel⟩
theorem Zfd:FnScope ["self"] ["self"] (defScope Xz):=⟨rfl,rfl,rfl,by decide +kernel,rfl,by decide +kernel,by decide +kernel⟩
theorem Zkc:FnScope ["self"] ["self"] (defScope Yt):=⟨rfl,rfl,rfl,by decide +kernel,rfl,by decide +kernel,by decide +kernel⟩
theorem Zni:FnScope ["self"] ["self"] (defScope Wm):=⟨rfl,rfl,rfl,by decide +kernel,rfl,by decide +kernel,by decide +kernel⟩
theorem Zhc:FnScope ["self"] ["self"] (defScope Yd):=⟨rfl,rfl,rfl,by decide +kernel,rfl,by decide +kernel,by decide +kernel⟩
structure NB (mg:Str→Option Value):Prop where
 len_:mg "len"=none
 range_:mg "range"=none
 int_:mg "int"=none
 str_:mg "str"=none
 bool_:mg "bool"=none
 tuple_:mg "tuple"=none
 isinstance_:mg "isinstance"=none
 min_:mg "min"=none
 max_:mg "max"=none
 list_:mg "list"=none
 all_:mg "all"=none
 reversed_:mg "reversed"=none
 enumerate_:mg "enumerate"=none
 zip_:mg "zip"=none
 set_:mg "set"=none
section
open PySem L2 KM
variable {P:Program} {w:World} {K:PySem.W.Frag} {mg:Str→Option Value} {base:Heap}
seal PE PT PW PA PS PSs PG PGs PI PTs PC PO
local macro_rules | `(tactic| walk_at "g1")=>`(tactic| first
 | with_reducible exact True.intro
 | refine ⟨_,rfl,?_⟩
 | refine ⟨_,_,rfl,rfl,?_⟩
 | refine Or.inl ⟨_,_,rfl,rfl,?_⟩
 | refine Or.inr ⟨_,_,rfl,rfl,?_⟩
 | refine ⟨rfl,?_⟩
 | refine ⟨(by first | omega | decide),?_⟩)
local macro_rules | `(tactic| walk_at "g")=>`(tactic| repeat walk_at "g1")
theorem iteD {p A B:Prop} [Decidable p] (h1:p→A) (h2:¬p→B):if decide p=true then A else B:=by
 by_cases h:p
 ·rw [if_pos (decide_eq_true h)];exact h1 h
 ·rw [if_neg (by simpa using h)];exact h2 h
theorem iteN {p A B:Prop} [Decidable p] (h:¬p) (h2:B):if decide p=true then A else B:=by rw [if_neg (by simpa using h)];exact h2
theorem iteY {p A B:Prop} [Decidable p] (h:p) (h2:A):if decide p=true then A else B:=by rw [if_pos (decide_eq_true h)];exact h2
theorem small5 {n:Nat} (h:n≤100000):n≤sizeLine:=Nat.le_trans h (by decide)
theorem Xid {σ:St} (h:σ.length=1):∃ z,σ=[z]:=by
 match σ,h with
 | [z],_=>exact ⟨z,rfl⟩
noncomputable def spCellAt (K:PySem.W.Frag):Sp:=fun vs H Q _=>∃ (a:Addr) (ns:List Int) (k:Nat),vs=[.ref a,.int k]∧SqL K H a (ns.map V.int)∧ns.length≤63∧Q (.int (ns.getD k 0)) H
theorem Zla {f:Addr} {fd:FuncData} (nb:NB mg) (F:FunAt K mg "_law_cell_at" Yb ["_law_script","_law_k"] f fd):DefOk P w K mg base 1 "_law_cell_at" ["_law_script","_law_k"] (spCellAt K):=by
 refine F.ok Zji (fun vs H Q E h=>?_) (fun cdv A outer s H vs Q E hr h=>?_)
 ·obtain ⟨a,ns,k,rfl,_⟩:=h;rfl
 obtain ⟨a,ns,k,rfl,hS,hl,q⟩:=h
 refine ⟨_,(Zc (Zs (Zi oLt (pv 1) (Zr Zx rfl nb.len_ Xf (Za (pv 0) Zd)) (nomark _)) (Zg (Zm (Xo iAll (pv 0) (pv 1) (fun _ _=>rfl)))) Zl)
  (Zg (Zm Zf))),?_⟩
 try dsimp only [cxK0,cxK1,cxK2,cxK3]
 refine ⟨_,rfl,_,rfl,_,_,rfl,.inl ⟨_,hS,rfl⟩,.inl ⟨_,_,rfl,rfl,_,rfl,?_⟩⟩
 rw [List.length_map]
 refine iteD (fun c=>?_) (fun c=>?_)
 ·have hk:k<ns.length:=by omega
  refine ⟨_,rfl,_,rfl,.inl (.inl ⟨_,_,_,_,rfl,rfl,hS,Zy (by rw [List.getElem?_map,List.getElem?_eq_getElem hk];rfl),H,.refl (Same.refl _),?_⟩)⟩
  have e:ns.getD k 0=ns[k]:=by rw [List.getD_eq_getElem?_getD,List.getElem?_eq_getElem hk];rfl
  rw [← e]
  exact q
 ·have e:ns.getD k 0=0:=by rw [List.getD_eq_getElem?_getD,List.getElem?_eq_none (by omega)];rfl
  rw [e] at q
  exact ⟨H,.refl (Same.refl _),q⟩
noncomputable def spMixed:Sp:=fun vs H Q _=>∃ c k:Int,vs=[.int c,.int k]∧∀ v:Int,0≤v→v<2147483587→Q (.int v) H
theorem modb {a b:Int} (h:0<b):0≤a%b∧a%b<b:=⟨Int.emod_nonneg _ (Int.ne_of_gt h),Int.emod_lt_of_pos _ h⟩
theorem Zte {f:Addr} {fd:FuncData} (F:FunAt K mg "_law_mixed" We ["_law_cell","_law_k"] f fd):DefOk P w K mg base 1 "_law_mixed" ["_law_cell","_law_k"] spMixed:=by
 refine F.ok sc_law_mixed (fun vs H Q E h=>?_) (fun cdv A outer s H vs Q E hr h=>?_)
 ·obtain ⟨c,k,rfl,_⟩:=h;rfl
 obtain ⟨c,k,rfl,q⟩:=h
 refine ⟨_,(Zc (Zp (i:=2) sc_law_mixed.nd rfl (by first | exact Or.inl rfl | exact Or.inr rfl) (Zh Zv (Zh oAdd (Zh oAdd (Zh oMul (Zh Zv (pv 0) Zf) Zf) (Zh oMul (pv 1) Zf)) Zf) Zf))
  (Zc (Zp (i:=2) sc_law_mixed.nd rfl (by first | exact Or.inl rfl | exact Or.inr rfl) (Zh Zv (Zh oMul (pv 2) (pv 2)) Zf))
  (Zg (Zm (Zh Zv (Zh oMul (pv 2) (pv 2)) Zf))))),?_⟩
 try dsimp only [cxK0,cxK1,cxK2,cxK3]
 refine ⟨_,rfl,_,_,rfl,rfl,(by show (0:Int)<_;decide),.inl ⟨_,_,rfl,rfl,.inr ⟨by decide,by decide⟩,?_⟩⟩
 refine ⟨_,rfl,.inl ⟨_,_,rfl,rfl,.inr ⟨by decide,by decide⟩,.inl ⟨_,_,rfl,rfl,.inl ⟨_,_,rfl,rfl,_,_,rfl,rfl,(by show (0:Int)<_;decide),?_⟩⟩⟩⟩
 obtain ⟨b1,b2⟩:=modb (a:=(c%2147483647*48271+k*69621+11)) (b:=2147483647) (by decide)
 generalize (c%2147483647*48271+k*69621+11)%2147483647=n1 at b1 b2 ⊢
 refine ⟨_,rfl,_,rfl,.inl ⟨_,_,rfl,rfl,.inr ⟨by omega,by omega⟩,_,_,rfl,rfl,(by show (0:Int)<_;decide),?_⟩⟩
 obtain ⟨b3,b4⟩:=modb (a:=n1*n1) (b:=2147483629) (by decide)
 generalize n1*n1%2147483629=n2 at b3 b4 ⊢
 refine ⟨_,rfl,_,rfl,.inl ⟨_,_,rfl,rfl,.inr ⟨by omega,by omega⟩,_,_,rfl,rfl,(by show (0:Int)<_;decide),H,.refl (Same.refl _),?_⟩⟩
 exact q _ (modb (by decide)).1 (modb (by decide)).2
structure Cs where
 (n s w l f t a b tw k:Addr)
structure Nms (mg:Str→Option Value) (c:Cs):Prop where
 gn:GlobV mg "NoFit" (.ref c.n)
 gs:GlobV mg "Short" (.ref c.s)
 gw:GlobV mg "Wrong" (.ref c.w)
 gl:GlobV mg "Left" (.ref c.l)
 gf:GlobV mg "NoForm" (.ref c.f)
 gt:GlobV mg "NoText" (.ref c.t)
 ga:GlobV mg "NotAhead" (.ref c.a)
 gb:GlobV mg "BadPage" (.ref c.b)
 g2:GlobV mg "Twice" (.ref c.tw)
 gk:GlobV mg "Lacking" (.ref c.k)
structure Kits (K:PySem.W.Frag) (c:Cs) (C:Addr) (bs:List Bool):Prop where
 xc:ExcC K C
 ks:∃ b1 b2 b3 b4 b5 b6 b7 b8 b9 b10:Bool,bs=[b1,b2,b3,b4,b5,b6,b7,b8,b9,b10,true]∧PySem.W.kitOne K (.ref C) (.ref c.n)=some b1∧PySem.W.kitOne K (.ref C) (.ref c.s)=some b2∧PySem.W.kitOne K (.ref C) (.ref c.w)=some b3∧PySem.W.kitOne K (.ref C) (.ref c.l)=some b4∧
  PySem.W.kitOne K (.ref C) (.ref c.f)=some b5∧PySem.W.kitOne K (.ref C) (.ref c.t)=some b6∧PySem.W.kitOne K (.ref C) (.ref c.a)=some b7∧PySem.W.kitOne K (.ref C) (.ref c.b)=some b8∧PySem.W.kitOne K (.ref C) (.ref c.tw)=some b9∧PySem.W.kitOne K (.ref C) (.ref c.k)=some b10∧PySem.W.kitOne K (.ref C) (.type "ValueError")=some true
noncomputable def alone:List Bool→Bool
 | [b1,b2,b3,b4,b5,b6,b7,b8,b9,b10,_]=>([b1,b5,b6,b7,b8,b9,b10,b2,b3,b4].filter id).length == 1
 | _=>false
noncomputable def spAlone (K:PySem.W.Frag) (c:Cs) (cR:Addr):Sp:=fun vs H Q _=>∃ a C d bs,vs=[.ref a]∧H a=some (ExcO a C d)∧(d=none∨∃ dx fs,d=some dx∧H dx=some (.xd fs))∧Kits K c C bs∧PySem.W.kitOne K (.ref C) (.ref cR)=some true∧alone bs=true∧Q (.bl true) H
theorem Ztf {f cR:Addr} {c:Cs} {fd:FuncData} (nb:NB mg) (nbV:mg "ValueError"=none) (X:Nms mg c) (gc_RiseError:GlobV mg "RiseError" (.ref cR)) (F:FunAt K mg "_law_alone" Wf ["_law_error"] f fd):DefOk P w K mg base 1 "_law_alone" ["_law_error"] (spAlone K c cR):=by
 obtain ⟨gc_NoFit,gc_Short,gc_Wrong,gc_Left,gc_NoForm,gc_NoText,gc_NotAhead,gc_BadPage,gc_Twice,gc_Lacking⟩:=X
 refine F.ok sc_law_alone (fun vs H Q E h=>?_) (fun cdv A outer s H vs Q E hr h=>?_)
 ·obtain ⟨a,C,d,bs,rfl,_⟩:=h;rfl
 obtain ⟨a,C,d,bs,rfl,ha,hd,⟨xc,b1,b2,b3,b4,b5,b6,b7,b8,b9,b10,rfl,k1,k2,k3,k4,k5,k6,k7,k8,k9,k10,kV⟩,kR,al,q⟩:=h
 refine ⟨_,(Zc (Zs (PW.pt (Jk (Qs (Xv (Zr Xk rfl nb.isinstance_ Xd (Za (pv 0) (Za (Xc gc_RiseError) Zd))) (fun _=>rfl))) (Wn (Qs (Xv (Zr Xk rfl nb.isinstance_ Xd (Za (pv 0) (Za (Xcc (v := .ty "ValueError") rfl nbV Zpc rfl) Zd))) (fun _=>rfl)))))) (Zg (Zm Xhj)) Zl)
  (Zc (Zp (i:=1) sc_law_alone.nd rfl (by first | exact Or.inl rfl | exact Or.inr rfl) (Xb (Za (Zr Xk rfl nb.isinstance_ Xd (Za (pv 0) (Za (Xc gc_NoFit) Zd))) (Za (Zr Xk rfl nb.isinstance_ Xd (Za (pv 0) (Za (Xc gc_NoForm) Zd))) (Za (Zr Xk rfl nb.isinstance_ Xd (Za (pv 0) (Za (Xc gc_NoText) Zd))) Zd)))))
  (Zc (Zp (i:=1) sc_law_alone.nd rfl (by first | exact Or.inl rfl | exact Or.inr rfl) (Zh Zbb (pv 1) (Xb (Za (Zr Xk rfl nb.isinstance_ Xd (Za (pv 0) (Za (Xc gc_NotAhead) Zd))) (Za (Zr Xk rfl nb.isinstance_ Xd (Za (pv 0) (Za (Xc gc_BadPage) Zd))) (Za (Zr Xk rfl nb.isinstance_ Xd (Za (pv 0) (Za (Xc gc_Twice) Zd))) Zd))))))
  (Zc (Zp (i:=1) sc_law_alone.nd rfl (by first | exact Or.inl rfl | exact Or.inr rfl) (Zh Zbb (pv 1) (Xb (Za (Zr Xk rfl nb.isinstance_ Xd (Za (pv 0) (Za (Xc gc_Lacking) Zd))) (Za (Zr Xk rfl nb.isinstance_ Xd (Za (pv 0) (Za (Xc gc_Short) Zd))) (Za (Zr Xk rfl nb.isinstance_ Xd (Za (pv 0) (Za (Xc gc_Wrong) Zd))) Zd))))))
  (Zc (Zp (i:=1) sc_law_alone.nd rfl (by first | exact Or.inl rfl | exact Or.inr rfl) (Zh Zbb (pv 1) (Xb (Za (Zr Xk rfl nb.isinstance_ Xd (Za (pv 0) (Za (Xc gc_Left) Zd))) Zd))))
  (Zg (Zm (Qq oEq (Zr Zx rfl nb.len_ Xf (Za (Jb ["_law_one"] [] rfl (by decide +kernel) trivial (piAll (pv 1)) (fun _ _ _ _ _=>(Xn (i:=0) (show (["_law_one"]:List Str).Nodup by decide +kernel) rfl (by first | exact Or.inl rfl | exact Or.inr rfl))) (fun _ _ _ _ _=>(Xlg (Xv (pv 0) (fun _=>rfl)))) (fun _ _ _ _ _=>(pv 0))) Zd)) Zf (nomark _))))))))),?_⟩
 try dsimp only [cxK0,cxK1,cxK2,cxK3]
 have kr:∀ {D:Addr} {b:Bool},PySem.W.kitOne K (.ref C) (.ref D)=some b→∀ cv,RelV (.ref D) cv→PySem.W.kitOne K (.ref C) cv=some b:=fun {D b} h cv r=>by
  obtain rfl:cv = .ref D:=r
  exact h
 have kv:∀ cv,RelV (.ty "ValueError") cv→PySem.W.kitOne K (.ref C) cv=some true:=fun cv r=>by
  obtain rfl:cv = .type "ValueError":=r
  exact kV
 have dS:∀ {H':Hp},Same H H'→(d=none∨∃ dx fs,d=some dx∧H' dx=some (.xd fs)):=fun {H'} hs=>by
  rcases hd with z | ⟨dx,fs,z,e⟩
  ·exact .inl z
  ·exact .inr ⟨dx,fs,z,hs _ _ e⟩
 refine ⟨_,rfl,a,C,d,_,true,rfl,ha,xc,hd,kr kR,_,rfl,iteF ⟨_,rfl,a,C,d,_,true,rfl,ha,xc,hd,kv,_,rfl,iteF ?_⟩⟩
 refine ⟨_,rfl,a,C,d,_,b1,rfl,ha,xc,hd,kr k1,?_⟩
 refine ⟨_,rfl,a,C,d,_,b5,rfl,ha,xc,hd,kr k5,?_⟩
 refine ⟨_,rfl,a,C,d,_,b6,rfl,ha,xc,hd,kr k6,?_⟩
 refine ⟨(by show 3≤sizeLine;decide),fun r1 h1=>?_⟩
 have s1':=Zj (o:=HO.lst [V.bl b1,.bl b5,.bl b6]) h1
 have ha1:=s1' _ _ ha
 refine ⟨_,rfl,_,rfl,a,C,d,_,b7,rfl,ha1,xc,dS s1',kr k7,?_⟩
 refine ⟨_,rfl,a,C,d,_,b8,rfl,ha1,xc,dS s1',kr k8,?_⟩
 refine ⟨_,rfl,a,C,d,_,b9,rfl,ha1,xc,dS s1',kr k9,?_⟩
 refine ⟨(by show 3≤sizeLine;decide),fun r2 h2=>?_⟩
 have s2':=Zj (o:=HO.lst [V.bl b7,.bl b8,.bl b9]) h2
 refine ⟨r1,r2,_,_,rfl,rfl,s2' _ _ Zb,Zb,(by show 3+3≤sizeLine;decide),fun r3 h3=>?_⟩
 have s3':=Zj (o:=HO.lst ([V.bl b1,.bl b5,.bl b6]++[V.bl b7,.bl b8,.bl b9])) h3
 have t3:=(s1'.trans s2').trans s3'
 have ha3:=t3 _ _ ha
 refine ⟨_,rfl,_,rfl,a,C,d,_,b10,rfl,ha3,xc,dS t3,kr k10,?_⟩
 refine ⟨_,rfl,a,C,d,_,b2,rfl,ha3,xc,dS t3,kr k2,?_⟩
 refine ⟨_,rfl,a,C,d,_,b3,rfl,ha3,xc,dS t3,kr k3,?_⟩
 refine ⟨(by show 3≤sizeLine;decide),fun r4 h4=>?_⟩
 have s4':=Zj (o:=HO.lst [V.bl b10,.bl b2,.bl b3]) h4
 refine ⟨r3,r4,_,_,rfl,rfl,s4' _ _ Zb,Zb,(by show 6+3≤sizeLine;decide),fun r5 h5=>?_⟩
 have s5':=Zj (o:=HO.lst (([V.bl b1,.bl b5,.bl b6]++[V.bl b7,.bl b8,.bl b9])++[V.bl b10,.bl b2,.bl b3])) h5
 have t5:=(t3.trans s4').trans s5'
 have ha5:=t5 _ _ ha
 refine ⟨_,rfl,_,rfl,a,C,d,_,b4,rfl,ha5,xc,dS t5,kr k4,?_⟩
 refine ⟨(by show 1≤sizeLine;decide),fun r6 h6=>?_⟩
 have s6':=Zj (o:=HO.lst [V.bl b4]) h6
 refine ⟨r5,r6,_,_,rfl,rfl,s6' _ _ Zb,Zb,(by show 9+1≤sizeLine;decide),fun r7 h7=>?_⟩
 have s7':=Zj (o:=HO.lst ((([V.bl b1,.bl b5,.bl b6]++[V.bl b7,.bl b8,.bl b9])++[V.bl b10,.bl b2,.bl b3])++[V.bl b4])) h7
 have t7:=(t5.trans s6').trans s7'
 refine .inl ⟨_,rfl,_,rfl,⟨_,SqL.of Zb⟩,fun D hD=>?_⟩
 refine Zyg (xs:=[b1,b5,b6,b7,b8,b9,b10,b2,b3,b4].map V.bl) (fun x=>match x with | .bl b=>b | _=>false) id (fun σ=>σ.length=1) (by show 10≤sizeLine;decide) rfl hD (SqL.of Zb) ?_ ?_
 ·rintro x hx σ1 H1 hS hs1 R R' hR
  obtain ⟨b,_,rfl⟩:=List.mem_map.mp hx
  obtain ⟨z,rfl⟩:=Xid hS
  refine ⟨_,rfl,b,rfl,?_⟩
  have:=hR [some (.bl b)] rfl
  cases b with
  | true=>exact iteT ⟨_,rfl,this⟩
  | false=>exact iteF this
 ·refine ⟨_,_,rfl,.inl ⟨_,SqL.of Zb,rfl⟩,rfl,H,.refl (t7.trans (Zj hD)),?_⟩
  have e:(List.map id (List.filter (fun x=>match x with | .bl b=>b | _=>false) ([b1,b5,b6,b7,b8,b9,b10,b2,b3,b4].map V.bl))).length=1:=by
   rw [List.map_id,List.filter_map,List.length_map]
   exact beq_iff_eq.mp al
  rw [e]
  exact q
theorem Ya:1≤sizeLine:=by decide
noncomputable def spMadeOf:Sp:=fun vs H Q _=>∃ t s:Str,vs=[.str t,.str s]∧t.length≤100000∧Q (.bl (madeOf t s)) H
theorem Xac {f:Addr} {fd:FuncData} (nb:NB mg) (F:FunAt K mg "made_of" Jf ["text","signs"] f fd):DefOk P w K mg base 1 "made_of" ["text","signs"] spMadeOf:=by
 refine F.ok Zzc (fun vs H Q E h=>?_) (fun cdv A outer s H vs Q E hr h=>?_)
 ·obtain ⟨_,_,rfl,_⟩:=h;rfl
 obtain ⟨t,sg,rfl,ht,q⟩:=h
 refine ⟨_,(Zg (Zm (Zr (Zmf rfl) rfl nb.all_ Xbh (Za (Jb ["sign"] [(1,"signs")] rfl (by decide +kernel) ⟨rfl,.inl rfl,trivial⟩ (piAll (pv 0)) (fun _ _ _ _ _=>(Xn (i:=0) (show (["sign","signs"]:List Str).Nodup by decide +kernel) rfl (by first | exact Or.inl rfl | exact Or.inr rfl))) (fun _ _ _ _ _=>Yx) (fun _ _ _ _ _=>(Qq Qd (pv 0) (pv 1) (by with_unfolding_all rfl)))) Zd)))),?_⟩
 try dsimp only [cxK0,cxK1,cxK2,cxK3]
 refine .inr ⟨_,rfl,t,rfl,fun D hD=>?_⟩
 refine Xkg (fun c => .bl (decide (c∈sg.cps.toList))) (fun σ=>∃ z,σ=[z,some (.str sg)]) (small5 (by show t.length≤_;omega)) ⟨_,rfl⟩ hD ?_ ?_
 ·rintro c hc σ1 H1 ⟨z,rfl⟩ hs R hR
  refine ⟨_,rfl,_,rfl,_,_,rfl,rfl,?_⟩
  rw [StrLaws.found_one]
  exact hR _ ⟨_,rfl⟩
 ·refine ⟨D,t.cps.toList.map fun c=>decide (c∈sg.cps.toList),rfl,?_,H,.refl (Zj hD),?_⟩
  ·rw [List.map_map];exact SqL.of Zb
  ·rw [List.all_map];exact q
noncomputable def spIsName:Sp:=fun vs H Q _=>∃ n:Str,vs=[.str n]∧n.length≤100000∧Q (.bl (isName n)) H
theorem Xae {f:Addr} {fd:FuncData} (nb:NB mg) (g_LONGEST_NAME:GlobV mg "LONGEST_NAME" (.int 12)) (g_SMALL_LETTERS:GlobV mg "SMALL_LETTERS" (.str L26)) (F:FunAt K mg "is_name" Jh ["name"] f fd) (D_made_of:DefOk P w K mg base 1 "made_of" ["text","signs"] spMadeOf):DefOk P w K mg base 2 "is_name" ["name"] spIsName:=by
 refine F.ok Zzd (fun vs H Q E h=>?_) (fun cdv A outer s H vs Q E hr h=>?_)
 ·obtain ⟨_,rfl,_⟩:=h;rfl
 obtain ⟨n,rfl,hn,q⟩:=h
 refine ⟨_,(Zg (Zm (Zzj (Qq oLt Zf (Zr Zx rfl nb.len_ Xf (Za (pv 0) Zd)) (nomark _)) (Zzj (Qq oLe (Zr Zx rfl nb.len_ Xf (Za (pv 0) Zd)) (Xc g_LONGEST_NAME) (nomark _)) (Xhg (Zo D_made_of hr (Za (pv 0) (Za (Xc g_SMALL_LETTERS) Zd)))))))),?_⟩
 try dsimp only [cxK0,cxK1,cxK2,cxK3]
 have ln:n.length≤sizeLine:=small5 (by omega)
 unfold isName at q
 refine ⟨_,rfl,_,_,rfl,⟨ln,rfl⟩,.inl ⟨_,_,rfl,rfl,_,rfl,?_⟩⟩
 refine iteD (fun c1=>?_) (fun c1=>?_)
 ·refine ⟨_,rfl,_,_,rfl,⟨ln,rfl⟩,_,_,rfl,rfl,_,rfl,?_⟩
  refine iteD (fun c2=>?_) (fun c2=>?_)
  ·refine ⟨_,rfl,n,L26,rfl,hn,H,.refl (Same.refl _),?_⟩
   rw [decide_eq_true ⟨by omega,by omega⟩,Bool.true_and] at q
   exact q
  ·rw [decide_eq_false (fun z=>c2 (by omega)),Bool.false_and] at q
   exact ⟨H,.refl (Same.refl _),q⟩
 ·rw [decide_eq_false (fun z=>c1 (by omega)),Bool.false_and] at q
  exact ⟨H,.refl (Same.refl _),q⟩
structure Parts (H:Hp) (p:Addr) (ps:List (Addr×Str×Addr)):Prop where
 l:H p=some (.lst (ps.map fun x=>V.ref x.1))
 t:∀ x,x∈ps→H x.1=some (.tup [.str x.2.1,.ref x.2.2])
 n:ps.length≤100000
 b:∀ x,x∈ps→x.2.1.length≤100000
noncomputable def nms (ps:List (Addr×Str×Addr)):List Str:=ps.map fun x=>x.2.1
noncomputable def fms (ps:List (Addr×Str×Addr)):List Addr:=ps.map fun x=>x.2.2
theorem Parts.same {H H':Hp} {p:Addr} {ps:List (Addr×Str×Addr)} (h:Parts H p ps) (s:Same H H'):Parts H' p ps:=⟨s _ _ h.l,fun x hx=>s _ _ (h.t x hx),h.n,h.b⟩
noncomputable def spNamesOf:Sp:=fun vs H Q _=>∃ p ps,vs=[.ref p]∧Parts H p ps∧goodNames (nms ps)=true∧∀ D,H D=none→Q (.ref D) (upd H D (.lst ((nms ps).map V.str)))
noncomputable def spNamesBad (CF:Addr):Sp:=fun vs H _ E=>∃ p ps,vs=[.ref p]∧Parts H p ps∧goodNames (nms ps)=false∧∀ d,d≠none→E (.ref CF) d H
theorem Zwf {f:Addr} {fd:FuncData} (nb:NB mg) (g_MOST_PARTS:GlobV mg "MOST_PARTS" (.int 20)) (F:FunAt K mg "names_of" Wi ["parts"] f fd) (D_is_name:DefOk P w K mg base 2 "is_name" ["name"] spIsName):DefOk P w K mg base 3 "names_of" ["parts"] spNamesOf:=by
 refine F.ok sc_names_of (fun vs H Q E h=>?_) (fun cdv A outer s H vs Q E hr h=>?_)
 ·obtain ⟨_,_,rfl,_⟩:=h;rfl
 obtain ⟨p,ps,rfl,hP,hg,q⟩:=h
 refine ⟨_,(Zc (Qy (i:=1)  ["part"] [] sc_names_of.nd rfl rfl rfl (by decide +kernel) trivial (piAll (pv 0)) (fun _ _ _ _ _=>(Xn (i:=0) (show (["part"]:List Str).Nodup by decide +kernel) rfl (by first | exact Or.inl rfl | exact Or.inr rfl))) (fun _ _ _ _ _=>Yx) (fun _ _ _ _ _=>(Xo iAll (pv 0) Zf (fun _ _=>rfl))))
  (Zc (Zs (PW.pt (Jk (Zi oEq (Zr Zx rfl nb.len_ Xf (Za (pv 1) Zd)) Zf (nomark _)) (Wn (Zi oGt (Zr Zx rfl nb.len_ Xf (Za (pv 1) Zd)) (Xc g_MOST_PARTS) (nomark _))))) (Zg Qk) Zl)
  (Zc (Zs (Zi oLt (Zcd rfl rfl nb.len_ rfl nb.set_ (pv 1)) (Zr Zx rfl nb.len_ Xf (Za (pv 1) Zd)) (nomark _)) (Zg Qk) Zl)
  (Zc (Zs (Qs (Xv (Zr (Zmf rfl) rfl nb.all_ Xbh (Za (Jb ["name"] [] rfl (by decide +kernel) trivial (piAll (pv 1)) (fun _ _ _ _ _=>(Xn (i:=0) (show (["name"]:List Str).Nodup by decide +kernel) rfl (by first | exact Or.inl rfl | exact Or.inr rfl))) (fun _ _ _ _ _=>Yx) (fun _ _ _ _ _=>(Zo D_is_name hr (Za (pv 0) Zd)))) Zd)) (fun _=>rfl))) (Zg Qk) Zl)
  (Zg (Zm (pv 1))))))),?_⟩
 try dsimp only [cxK0,cxK1,cxK2,cxK3]
 refine .inl ⟨_,rfl,p,rfl,⟨_,SqL.of hP.l⟩,fun D hD=>?_⟩
 refine Zac (K:=K) (a:=p) (xs:=ps.map fun x=>V.ref x.1) (fun i=>V.str ((nms ps).getD i Str.empty)) (fun σ=>∃ z,σ=[z]) (by rw [List.length_map];exact small5 (by have:=hP.n;omega)) ⟨_,rfl⟩ hD (SqL.of hP.l) ?_ ?_
 ·rintro i x hx σ1 H1 ⟨z,rfl⟩ hs1 R hR
  rw [List.getElem?_map] at hx
  obtain ⟨y,hy,rfl⟩:=Option.map_eq_some_iff.mp hx
  have hm:=List.mem_of_getElem? hy
  have e:(nms ps).getD i Str.empty=y.2.1:=by unfold nms;rw [List.getD_eq_getElem?_getD,List.getElem?_map,hy];rfl
  rw [e] at hR
  exact ⟨_,rfl,.inl (.inr ⟨_,_,_,_,rfl,rfl,SqT.of (hs1 _ _ (hP.t y hm)),Zy (j:=0) rfl,hR _ ⟨_,rfl⟩⟩)⟩
 have en:(List.range (ps.map fun x=>V.ref x.1).length).map (fun i=>V.str ((nms ps).getD i Str.empty))=(nms ps).map V.str:=by
  have h0:=Jz (nms ps)
  rw [show (ps.map fun x=>V.ref x.1).length=(nms ps).length by unfold nms;rw [List.length_map,List.length_map]]
  exact h0
 rw [en]
 have hlN:(nms ps).length≤100000:=by unfold nms;rw [List.length_map];exact hP.n
 have hSq:SqL K (upd H D (.lst ((nms ps).map V.str))) D ((nms ps).map V.str):=SqL.of Zb
 have hds:=Xkc (nms ps)
 unfold goodNames at hg
 refine ⟨_,rfl,_,_,rfl,.inl ⟨_,hSq,rfl⟩,rfl,_,rfl,?_⟩
 rw [List.length_map]
 simp only [Bool.and_eq_true,decide_eq_true_eq] at hg
 obtain ⟨⟨h0,h20,hd⟩,hall⟩:=hg
 refine iteN (fun z=>h0 (by have:=V.int.inj z;omega)) ⟨_,rfl,_,_,rfl,.inl ⟨_,hSq,rfl⟩,_,_,rfl,rfl,_,rfl,iteN (by rw [List.length_map];omega) ?_⟩
 refine ⟨_,rfl,_,_,Zgf hSq,(by unfold scanBound;omega),_,rfl,_,_,rfl,.inl ⟨_,hSq,rfl⟩,.inl ⟨_,_,rfl,rfl,_,rfl,iteN (by rw [List.length_map];show ¬(((dsN (nms ps):Nat):Int)<_);omega) ?_⟩⟩
 refine .inl ⟨_,rfl,D,rfl,⟨_,hSq⟩,fun D2 hD2=>?_⟩
 have hD3:upd H D (.lst ((nms ps).map V.str)) D=some (.lst ((nms ps).map V.str)):=Zb
 refine Zrc (K:=K) (a:=D) (xs:=(nms ps).map V.str) (fun x=>match x with | .str n => .bl (isName n) | _ => .non) (fun σ=>∃ z,σ=[z]) (by rw [List.length_map];exact small5 (by omega)) ⟨_,rfl⟩ hD2 hSq ?_ ?_
 ·rintro x hx σ1 H1 ⟨z,rfl⟩ hs1 R hR
  obtain ⟨n,hn,rfl⟩:=List.mem_map.mp hx
  obtain ⟨y,hy,rfl⟩:=List.mem_map.mp hn
  have:=hP.b y hy
  exact ⟨_,rfl,_,rfl,by omega,hR _ ⟨_,rfl⟩⟩
 ·rw [List.map_map]
  refine ⟨D2,(nms ps).map isName,rfl,?_,_,rfl,?_⟩
  ·rw [List.map_map];exact SqL.of Zb
  rw [List.all_map,show (id ∘ isName)=isName from rfl,hall]
  exact iteF ⟨_,rfl,_,.new (o:=HO.lst ((nms ps).map V.str)) hD ((Zj hD).trans (Zj hD2)) (by rw [Zn (fun z=>by rw [← z,hD3] at hD2;cases hD2)];exact Zb) trivial,q D hD⟩
theorem Zud {f CF:Addr} {fd:FuncData} (nb:NB mg) (xi_NoForm:PySem.W.excIn K CF bmV "ValueError.__new__"=true) (gm_NoForm:mg "NoForm"=some (.ref CF)) (g_MOST_PARTS:GlobV mg "MOST_PARTS" (.int 20)) (F:FunAt K mg "names_of" Wi ["parts"] f fd) (D_is_name:DefOk P w K mg base 2 "is_name" ["name"] spIsName):DefOkE P w K mg base 3 "names_of" ["parts"] (spNamesBad CF):=by
 refine F.okE sc_names_of (fun vs H Q E h=>?_) (fun cdv A outer s H vs Q E hr h=>?_)
 ·obtain ⟨_,_,rfl,_⟩:=h;rfl
 obtain ⟨p,ps,rfl,hP,hg,q⟩:=h
 refine ⟨_,(Zc (Qy (i:=1)  ["part"] [] sc_names_of.nd rfl rfl rfl (by decide +kernel) trivial (piAll (pv 0)) (fun _ _ _ _ _=>(Xn (i:=0) (show (["part"]:List Str).Nodup by decide +kernel) rfl (by first | exact Or.inl rfl | exact Or.inr rfl))) (fun _ _ _ _ _=>Yx) (fun _ _ _ _ _=>(Xo iAll (pv 0) Zf (fun _ _=>rfl))))
  (Zc (Zs (PW.pt (Jk (Zi oEq (Zr Zx rfl nb.len_ Xf (Za (pv 1) Zd)) Zf (nomark _)) (Wn (Zi oGt (Zr Zx rfl nb.len_ Xf (Za (pv 1) Zd)) (Xc g_MOST_PARTS) (nomark _))))) (Zg (Jr Xw xi_NoForm gm_NoForm hr.hd (Za Ze Zd))) Zl)
  (Zc (Zs (Zi oLt (Zcd rfl rfl nb.len_ rfl nb.set_ (pv 1)) (Zr Zx rfl nb.len_ Xf (Za (pv 1) Zd)) (nomark _)) (Zg (Jr Xw xi_NoForm gm_NoForm hr.hd (Za Ze Zd))) Zl)
  (Zc (Zs (Qs (Xv (Zr (Zmf rfl) rfl nb.all_ Xbh (Za (Jb ["name"] [] rfl (by decide +kernel) trivial (piAll (pv 1)) (fun _ _ _ _ _=>(Xn (i:=0) (show (["name"]:List Str).Nodup by decide +kernel) rfl (by first | exact Or.inl rfl | exact Or.inr rfl))) (fun _ _ _ _ _=>Yx) (fun _ _ _ _ _=>(Zo D_is_name hr (Za (pv 0) Zd)))) Zd)) (fun _=>rfl))) (Zg (Jr Xw xi_NoForm gm_NoForm hr.hd (Za Ze Zd))) Zl)
  (Zg (Zm (pv 1))))))),?_⟩
 try dsimp only [cxK0,cxK1,cxK2,cxK3]
 refine .inl ⟨_,rfl,p,rfl,⟨_,SqL.of hP.l⟩,fun D hD=>?_⟩
 refine Zac (K:=K) (a:=p) (xs:=ps.map fun x=>V.ref x.1) (fun i=>V.str ((nms ps).getD i Str.empty)) (fun σ=>∃ z,σ=[z]) (by rw [List.length_map];exact small5 (by have:=hP.n;omega)) ⟨_,rfl⟩ hD (SqL.of hP.l) ?_ ?_
 ·rintro i x hx σ1 H1 ⟨z,rfl⟩ hs1 R hR
  rw [List.getElem?_map] at hx
  obtain ⟨y,hy,rfl⟩:=Option.map_eq_some_iff.mp hx
  have hm:=List.mem_of_getElem? hy
  have e:(nms ps).getD i Str.empty=y.2.1:=by unfold nms;rw [List.getD_eq_getElem?_getD,List.getElem?_map,hy];rfl
  rw [e] at hR
  exact ⟨_,rfl,.inl (.inr ⟨_,_,_,_,rfl,rfl,SqT.of (hs1 _ _ (hP.t y hm)),Zy (j:=0) rfl,hR _ ⟨_,rfl⟩⟩)⟩
 have en:(List.range (ps.map fun x=>V.ref x.1).length).map (fun i=>V.str ((nms ps).getD i Str.empty))=(nms ps).map V.str:=by
  have h0:=Jz (nms ps)
  rw [show (ps.map fun x=>V.ref x.1).length=(nms ps).length by unfold nms;rw [List.length_map,List.length_map]]
  exact h0
 rw [en]
 have hlN:(nms ps).length≤100000:=by unfold nms;rw [List.length_map];exact hP.n
 have hSq:SqL K (upd H D (.lst ((nms ps).map V.str))) D ((nms ps).map V.str):=SqL.of Zb
 have hds:=Xkc (nms ps)
 unfold goodNames at hg
 refine ⟨_,rfl,_,_,rfl,.inl ⟨_,hSq,rfl⟩,rfl,_,rfl,?_⟩
 rw [List.length_map]
 refine iteD (fun z=>⟨Ya,fun x _=>⟨H,.refl (Zj hD),q _ (fun y=>nomatch y)⟩⟩) (fun h0=>⟨_,rfl,_,_,rfl,.inl ⟨_,hSq,rfl⟩,_,_,rfl,rfl,_,rfl,iteD (fun z=>⟨Ya,fun x _=>⟨H,.refl (Zj hD),q _ (fun y=>nomatch y)⟩⟩) (fun h20=>?_)⟩)
 rw [List.length_map] at h20
 refine ⟨_,rfl,_,_,Zgf hSq,(by unfold scanBound;omega),_,rfl,_,_,rfl,.inl ⟨_,hSq,rfl⟩,.inl ⟨_,_,rfl,rfl,_,rfl,iteD (fun z=>⟨Ya,fun x _=>⟨H,.refl (Zj hD),q _ (fun y=>nomatch y)⟩⟩) (fun hd=>?_)⟩⟩
 rw [List.length_map] at hd
 have hd':¬(((dsN (nms ps):Nat):Int)<(((nms ps).length:Nat):Int)):=hd
 rw [decide_eq_true ⟨fun z=>h0 (by rw [z];rfl),by omega,by omega⟩,Bool.true_and] at hg
 refine .inl ⟨_,rfl,D,rfl,⟨_,hSq⟩,fun D2 hD2=>?_⟩
 have hD3:upd H D (.lst ((nms ps).map V.str)) D=some (.lst ((nms ps).map V.str)):=Zb
 refine Zrc (K:=K) (a:=D) (xs:=(nms ps).map V.str) (fun x=>match x with | .str n => .bl (isName n) | _ => .non) (fun σ=>∃ z,σ=[z]) (by rw [List.length_map];exact small5 (by omega)) ⟨_,rfl⟩ hD2 hSq ?_ ?_
 ·rintro x hx σ1 H1 ⟨z,rfl⟩ hs1 R hR
  obtain ⟨n,hn,rfl⟩:=List.mem_map.mp hx
  obtain ⟨y,hy,rfl⟩:=List.mem_map.mp hn
  have:=hP.b y hy
  exact ⟨_,rfl,_,rfl,by omega,hR _ ⟨_,rfl⟩⟩
 ·rw [List.map_map]
  refine ⟨D2,(nms ps).map isName,rfl,?_,_,rfl,?_⟩
  ·rw [List.map_map];exact SqL.of Zb
  rw [List.all_map,show (id ∘ isName)=isName from rfl,hg]
  exact iteT ⟨Ya,fun x _=>⟨H,.refl ((Zj hD).trans (Zj hD2)),q _ (fun y=>nomatch y)⟩⟩
structure SpanCls (K:PySem.W.Frag) (C:Addr):Prop where
 cl:Cls K C
 nL:NoAttr K C "low"
 nH:NoAttr K C "high"
structure LetCls (K:PySem.W.Frag) (C:Addr):Prop where
 cl:Cls K C
 nS:NoAttr K C "signs"
structure TwoCls (K:PySem.W.Frag) (C:Addr):Prop where
 cl:Cls K C
 nN:NoAttr K C "names"
 nF:NoAttr K C "forms"
theorem lowhigh:¬(("low":Str)="high"):=by decide +kernel
theorem namesforms:¬(("names":Str)="forms"):=by decide +kernel
theorem Xlf (v:V):putF "low" v []=([("low",v)]:List (Str×V)):=rfl
theorem Xhc (v w:V):putF "high" w ([("low",v)]:List (Str×V))=([("low",v),("high",w)]:List (Str×V)):=by simp only [putF,lowhigh,if_false]
theorem Zzh (v:V):putF "signs" v []=([("signs",v)]:List (Str×V)):=rfl
theorem Zqb (v:V):putF "names" v []=([("names",v)]:List (Str×V)):=rfl
theorem Zqc (v w:V):putF "forms" w ([("names",v)]:List (Str×V))=([("names",v),("forms",w)]:List (Str×V)):=by simp only [putF,namesforms,if_false]
theorem look1 (k:Str) (v:V) (r:List (Str×V)):((k,v)::r).lookup k=some v:=by simp [List.lookup]
theorem look2 (k k2:Str) (v w:V) (h:(k2 == k)=false):([(k,v),(k2,w)]:List (Str×V)).lookup k2=some w:=by simp [List.lookup,h]
theorem highlow:(("high":Str) == "low")=false:=by decide +kernel
theorem formsnames:(("forms":Str) == "names")=false:=by decide +kernel
noncomputable def spanF (a b:Int):List (Str×V):=[("low",.int a),("high",.int b)]
noncomputable def letF (s:Str):List (Str×V):=[("signs",.str s)]
noncomputable def twoF (l1 l2:Addr):List (Str×V):=[("names",.ref l1),("forms",.ref l2)]
noncomputable def spSpanInit (C:Addr):Sp:=fun vs H Q _=>∃ (p dx:Addr) (a b:Int),vs=[.ref p,.int a,.int b]∧H p=some (.ins C dx [])∧a≤b∧Q .non (upd H p (.ins C dx (spanF a b)))
noncomputable def spSpanBad (CF C:Addr):Sp:=fun vs H _ E=>∃ (p dx:Addr) (a b:Int),vs=[.ref p,.int a,.int b]∧H p=some (.ins C dx [])∧b<a∧∀ d,d≠none→E (.ref CF) d H
theorem Zta {f C:Addr} {fd:FuncData} (T:SpanCls K C) (F:Fun K "__init__" "Span.__init__" Wx f fd):FnOk P w K mg base CX0 1 f fd ["self","low","high"] (spSpanInit C):=by
 refine F.ok Zdg (fun vs H Q E h=>?_) (fun cdv A outer s H vs Q E hr h=>?_)
 ·obtain ⟨_,_,_,_,rfl,_⟩:=h;rfl
 obtain ⟨p,dx,a,b,rfl,hp,hab,q⟩:=h
 refine ⟨_,(Zc (Zs (Zi oGt (pv 1) (pv 2) (nomark _)) (Zg Qk) Zl)
  (Zc (Yv (pv 0) (pv 1) rfl)
  (Zg (Yv (pv 0) (pv 2) rfl)))),?_⟩
 try dsimp only [cxK0,cxK1,cxK2,cxK3]
 refine ⟨_,rfl,_,rfl,_,_,rfl,rfl,_,rfl,iteN (by omega) ?_⟩
 refine ⟨_,rfl,_,rfl,p,C,dx,_,rfl,hp,T.cl,T.nL,(by show 0<1000;decide),?_⟩
 rw [Xlf]
 refine ⟨_,rfl,_,rfl,p,C,dx,_,rfl,Zb,T.cl,T.nH,(by show 1<1000;decide),?_⟩
 rw [Xhc,Xh]
 exact q
theorem Zpd {f C CF:Addr} {fd:FuncData} (xi_NoForm:PySem.W.excIn K CF bmV "ValueError.__new__"=true) (gm_NoForm:mg "NoForm"=some (.ref CF)) (T:SpanCls K C) (F:Fun K "__init__" "Span.__init__" Wx f fd):FnOk P w K mg base (CXe P w) 1 f fd ["self","low","high"] (spSpanBad CF C):=by
 refine F.okE Zdg (fun vs H Q E h=>?_) (fun cdv A outer s H vs Q E hr h=>?_)
 ·obtain ⟨_,_,_,_,rfl,_⟩:=h;rfl
 obtain ⟨p,dx,a,b,rfl,hp,hab,q⟩:=h
 refine ⟨_,(Zc (Zs (Zi oGt (pv 1) (pv 2) (nomark _)) (Zg (Jr Xw xi_NoForm gm_NoForm hr.hd (Za Ze Zd))) Zl)
  (Zc (Yv (pv 0) (pv 1) rfl)
  (Zg (Yv (pv 0) (pv 2) rfl)))),?_⟩
 try dsimp only [cxK0,cxK1,cxK2,cxK3]
 exact ⟨_,rfl,_,rfl,_,_,rfl,rfl,_,rfl,iteY (by omega) ⟨Ya,fun x _=>⟨H,.refl (Same.refl _),q _ (fun y=>nomatch y)⟩⟩⟩
noncomputable def spLetInit (C:Addr):Sp:=fun vs H Q _=>∃ (p dx:Addr) (s:Str),vs=[.ref p,.str s]∧H p=some (.ins C dx [])∧s.length≤100000∧goodText s=true∧Q .non (upd H p (.ins C dx (letF s)))
noncomputable def spLetBad (CF C:Addr):Sp:=fun vs H _ E=>∃ (p dx:Addr) (s:Str),vs=[.ref p,.str s]∧H p=some (.ins C dx [])∧s.length≤100000∧goodText s=false∧∀ d,d≠none→E (.ref CF) d H
theorem Zwg {f C:Addr} {fd:FuncData} (nb:NB mg) (g_MOST_SIGNS:GlobV mg "MOST_SIGNS" (.int 60)) (g_LETTERS_AND_FIGURES:GlobV mg "LETTERS_AND_FIGURES" (.str L62)) (T:LetCls K C) (F:Fun K "__init__" "Letters.__init__" Yf f fd) (D_made_of:DefOk P w K mg base 1 "made_of" ["text","signs"] spMadeOf):FnOk P w K mg base CX0 2 f fd ["self","signs"] (spLetInit C):=by
 refine F.ok Zad (fun vs H Q E h=>?_) (fun cdv A outer s H vs Q E hr h=>?_)
 ·obtain ⟨_,_,_,rfl,_⟩:=h;rfl
 obtain ⟨p,dx,t,rfl,hp,ht,hg,q⟩:=h
 refine ⟨_,(Zc (Zs (PW.pt (Jk (Zi oEq (pv 1) Ze (nomark _)) (Wn (Zi oGt (Zr Zx rfl nb.len_ Xf (Za (pv 1) Zd)) (Xc g_MOST_SIGNS) (nomark _))))) (Zg Qk) Zl)
  (Zc (Zs (Zi oLt (Zcd rfl rfl nb.len_ rfl nb.set_ (pv 1)) (Zr Zx rfl nb.len_ Xf (Za (pv 1) Zd)) (nomark _)) (Zg Qk) Zl)
  (Zc (Zs (Qs (Xv (Zo D_made_of hr (Za (pv 1) (Za (Xc g_LETTERS_AND_FIGURES) Zd))) (fun _=>rfl))) (Zg Qk) Zl)
  (Zg (Yv (pv 0) (pv 1) rfl))))),?_⟩
 try dsimp only [cxK0,cxK1,cxK2,cxK3]
 have ln:t.length≤sizeLine:=small5 (by omega)
 have hds:=Xkb t
 unfold goodText at hg
 simp only [Bool.and_eq_true,decide_eq_true_eq] at hg
 obtain ⟨⟨h0,h60,hd⟩,hall⟩:=hg
 refine ⟨_,rfl,rfl,_,rfl,iteN (fun z=>h0 ((Zbf t).mp (V.str.inj z))) ⟨_,rfl,_,_,rfl,⟨ln,rfl⟩,_,_,rfl,rfl,_,rfl,iteN (by omega) ?_⟩⟩
 refine ⟨_,rfl,_,_,Zjc t,(by unfold scanBound;show t.length+1<_;omega),_,rfl,_,_,rfl,⟨ln,rfl⟩,.inl ⟨_,_,rfl,rfl,_,rfl,iteN (by show ¬(((dsT t:Nat):Int)<_);omega) ?_⟩⟩
 refine ⟨_,rfl,t,L62,rfl,by omega,_,rfl,?_⟩
 rw [hall]
 refine iteF ⟨_,rfl,_,rfl,p,C,dx,_,rfl,hp,T.cl,T.nS,(by show 0<1000;decide),?_⟩
 rw [Zzh]
 exact q
theorem Zue {f C CF:Addr} {fd:FuncData} (nb:NB mg) (xi_NoForm:PySem.W.excIn K CF bmV "ValueError.__new__"=true) (gm_NoForm:mg "NoForm"=some (.ref CF)) (g_MOST_SIGNS:GlobV mg "MOST_SIGNS" (.int 60)) (g_LETTERS_AND_FIGURES:GlobV mg "LETTERS_AND_FIGURES" (.str L62)) (T:LetCls K C) (F:Fun K "__init__" "Letters.__init__" Yf f fd) (D_made_of:DefOk P w K mg base 1 "made_of" ["text","signs"] spMadeOf):FnOk P w K mg base (CXe P w) 2 f fd ["self","signs"] (spLetBad CF C):=by
 refine F.okE Zad (fun vs H Q E h=>?_) (fun cdv A outer s H vs Q E hr h=>?_)
 ·obtain ⟨_,_,_,rfl,_⟩:=h;rfl
 obtain ⟨p,dx,t,rfl,hp,ht,hg,q⟩:=h
 refine ⟨_,(Zc (Zs (PW.pt (Jk (Zi oEq (pv 1) Ze (nomark _)) (Wn (Zi oGt (Zr Zx rfl nb.len_ Xf (Za (pv 1) Zd)) (Xc g_MOST_SIGNS) (nomark _))))) (Zg (Jr Xw xi_NoForm gm_NoForm hr.hd (Za Ze Zd))) Zl)
  (Zc (Zs (Zi oLt (Zcd rfl rfl nb.len_ rfl nb.set_ (pv 1)) (Zr Zx rfl nb.len_ Xf (Za (pv 1) Zd)) (nomark _)) (Zg (Jr Xw xi_NoForm gm_NoForm hr.hd (Za Ze Zd))) Zl)
  (Zc (Zs (Qs (Xv (Zo D_made_of hr (Za (pv 1) (Za (Xc g_LETTERS_AND_FIGURES) Zd))) (fun _=>rfl))) (Zg (Jr Xw xi_NoForm gm_NoForm hr.hd (Za Ze Zd))) Zl)
  (Zg (Yv (pv 0) (pv 1) rfl))))),?_⟩
 try dsimp only [cxK0,cxK1,cxK2,cxK3]
 have ln:t.length≤sizeLine:=small5 (by omega)
 have hds:=Xkb t
 have R:1≤sizeLine∧∀ a,H a=none→eSub H E (.ref CF) (some a) H:=⟨Ya,fun x _=>⟨H,.refl (Same.refl _),q _ (fun y=>nomatch y)⟩⟩
 unfold goodText at hg
 refine ⟨_,rfl,rfl,_,rfl,iteD (fun z=>R) (fun h0=>⟨_,rfl,_,_,rfl,⟨ln,rfl⟩,_,_,rfl,rfl,_,rfl,iteD (fun z=>R) (fun h60=>?_)⟩)⟩
 refine ⟨_,rfl,_,_,Zjc t,(by unfold scanBound;show t.length+1<_;omega),_,rfl,_,_,rfl,⟨ln,rfl⟩,.inl ⟨_,_,rfl,rfl,_,rfl,iteD (fun z=>R) (fun hd=>?_)⟩⟩
 have hd':¬(((dsT t:Nat):Int)<((t.length:Nat):Int)):=hd
 rw [decide_eq_true ⟨fun z=>h0 (by rw [(Zbf t).mpr z]),by omega,by omega⟩,Bool.true_and] at hg
 refine ⟨_,rfl,t,L62,rfl,by omega,_,rfl,?_⟩
 rw [hg]
 exact iteT R
theorem Parts.keep {H H':Hp} {p o C dx:Addr} {fs:List (Str×V)} {ps:List (Addr×Str×Addr)} (h:Parts H p ps) (ho:H o=some (.ins C dx fs)) (s:∀ b u,b≠o→H b=some u→H' b=some u):Parts H' p ps :=
 ⟨s _ _ (fun z=>by have:=h.l;rw [z,ho] at this;cases this) h.l,fun x hx=>s _ _ (fun z=>by have:=h.t x hx;rw [z,ho] at this;cases this) (h.t x hx),h.n,h.b⟩
noncomputable def spTwoInit (C:Addr):Sp:=fun vs H Q _=>∃ (o dx p:Addr) (ps:List (Addr×Str×Addr)),vs=[.ref o,.ref p]∧H o=some (.ins C dx [])∧Parts H p ps∧goodNames (nms ps)=true∧
 ∀ l1 l2,H l1=none→H l2=none→l1≠l2→Q .non (upd (upd (upd H l1 (.lst ((nms ps).map V.str))) l2 (.lst ((fms ps).map V.ref))) o (.ins C dx (twoF l1 l2)))
noncomputable def spTwoBad (CF C:Addr):Sp:=fun vs H _ E=>∃ (o dx p:Addr) (ps:List (Addr×Str×Addr)),vs=[.ref o,.ref p]∧H o=some (.ins C dx [])∧Parts H p ps∧goodNames (nms ps)=false∧∀ d,d≠none→E (.ref CF) d H
theorem Zwd {f C:Addr} {fd:FuncData} (nb:NB mg) (T:TwoCls K C) (F:Fun K "__init__" "Record.__init__" Ys f fd) (D_names_of:DefOk P w K mg base 3 "names_of" ["parts"] spNamesOf):FnOk P w K mg base CX0 4 f fd ["self","parts"] (spTwoInit C):=by
 refine F.ok Zaj (fun vs H Q E h=>?_) (fun cdv A outer s H vs Q E hr h=>?_)
 ·obtain ⟨_,_,_,_,rfl,_⟩:=h;rfl
 obtain ⟨o,dx,p,ps,rfl,ho,hP,hg,q⟩:=h
 refine ⟨_,(Zc (Yv (pv 0) (Zo D_names_of hr (Za (pv 1) Zd)) rfl)
  (Zg (Yv (pv 0) (Jb ["part"] [] rfl (by decide +kernel) trivial (piAll (pv 1)) (fun _ _ _ _ _=>(Xn (i:=0) (show (["part"]:List Str).Nodup by decide +kernel) rfl (by first | exact Or.inl rfl | exact Or.inr rfl))) (fun _ _ _ _ _=>Yx) (fun _ _ _ _ _=>(Xo iAll (pv 0) Zf (fun _ _=>rfl)))) rfl))),?_⟩
 try dsimp only [cxK0,cxK1,cxK2,cxK3]
 refine ⟨_,rfl,p,ps,rfl,hP,hg,fun l1 h1=>?_⟩
 have n1:l1≠o:=(Zt ho h1).symm
 refine ⟨_,rfl,o,C,dx,_,rfl,(by rw [Zn (Ne.symm n1)];exact ho),T.cl,T.nN,(by show 0<1000;decide),?_⟩
 rw [Zqb]
 have k1:∀ b u,b≠o→H b=some u→upd (upd H l1 (.lst ((nms ps).map V.str))) o (.ins C dx [("names",.ref l1)]) b=some u:=fun b u nb e=>by rw [Zn nb,Zn (Zt e h1)];exact e
 have hP1:=hP.keep ho k1
 refine .inl ⟨_,rfl,p,rfl,⟨_,SqL.of hP1.l⟩,fun l2 h2=>?_⟩
 have n2:l2≠o:=fun z=>by rw [z,Zb] at h2;cases h2
 have n12:l1≠l2:=fun z=>by rw [Zn n2,← z,Zb] at h2;cases h2
 have h20:H l2=none:=by rw [Zn n2,Zn (Ne.symm n12)] at h2;exact h2
 refine Zac (K:=K) (a:=p) (xs:=ps.map fun x=>V.ref x.1) (fun i=>V.ref ((fms ps).getD i 0)) (fun σ=>∃ z,σ=[z]) (by rw [List.length_map];exact small5 (by have:=hP.n;omega)) ⟨_,rfl⟩ h2 (SqL.of hP1.l) ?_ ?_
 ·rintro i x hx σ1 H1 ⟨z,rfl⟩ hs1 R hR
  rw [List.getElem?_map] at hx
  obtain ⟨y,hy,rfl⟩:=Option.map_eq_some_iff.mp hx
  have hm:=List.mem_of_getElem? hy
  have e:(fms ps).getD i 0=y.2.2:=by unfold fms;rw [List.getD_eq_getElem?_getD,List.getElem?_map,hy];rfl
  rw [e] at hR
  exact ⟨_,rfl,.inl (.inr ⟨_,_,_,_,rfl,rfl,SqT.of (hs1 _ _ (hP1.t y hm)),Zy (j:=1) rfl,hR _ ⟨_,rfl⟩⟩)⟩
 have en:(List.range (ps.map fun x=>V.ref x.1).length).map (fun i=>V.ref ((fms ps).getD i 0))=(fms ps).map V.ref:=by
  apply List.ext_getElem
  ·unfold fms;simp
  ·intro i g1 g2
   have g3:i<ps.length:=by simpa [fms] using g2
   have g4:i<(fms ps).length:=by simpa using g2
   rw [List.getElem_map,List.getElem_map,List.getElem_range,List.getD_eq_getElem?_getD,List.getElem?_eq_getElem g4];rfl
 rw [en]
 refine ⟨_,rfl,o,C,dx,_,rfl,(by rw [Zn (Ne.symm n2)];exact Zb),T.cl,T.nF,(by show 1<1000;decide),?_⟩
 rw [Zqc,Qt (Ne.symm n2),Xh]
 exact q l1 l2 h1 h20 n12
theorem Zxb {f C:Addr} {fd:FuncData} (nb:NB mg) (T:TwoCls K C) (F:Fun K "__init__" "Choice.__init__" Yu f fd) (D_names_of:DefOk P w K mg base 3 "names_of" ["parts"] spNamesOf):FnOk P w K mg base CX0 4 f fd ["self","cases"] (spTwoInit C):=by
 refine F.ok Zba (fun vs H Q E h=>?_) (fun cdv A outer s H vs Q E hr h=>?_)
 ·obtain ⟨_,_,_,_,rfl,_⟩:=h;rfl
 obtain ⟨o,dx,p,ps,rfl,ho,hP,hg,q⟩:=h
 refine ⟨_,(Zc (Yv (pv 0) (Zo D_names_of hr (Za (pv 1) Zd)) rfl)
  (Zg (Yv (pv 0) (Jb ["case"] [] rfl (by decide +kernel) trivial (piAll (pv 1)) (fun _ _ _ _ _=>(Xn (i:=0) (show (["case"]:List Str).Nodup by decide +kernel) rfl (by first | exact Or.inl rfl | exact Or.inr rfl))) (fun _ _ _ _ _=>Yx) (fun _ _ _ _ _=>(Xo iAll (pv 0) Zf (fun _ _=>rfl)))) rfl))),?_⟩
 try dsimp only [cxK0,cxK1,cxK2,cxK3]
 refine ⟨_,rfl,p,ps,rfl,hP,hg,fun l1 h1=>?_⟩
 have n1:l1≠o:=(Zt ho h1).symm
 refine ⟨_,rfl,o,C,dx,_,rfl,(by rw [Zn (Ne.symm n1)];exact ho),T.cl,T.nN,(by show 0<1000;decide),?_⟩
 rw [Zqb]
 have k1:∀ b u,b≠o→H b=some u→upd (upd H l1 (.lst ((nms ps).map V.str))) o (.ins C dx [("names",.ref l1)]) b=some u:=fun b u nb e=>by rw [Zn nb,Zn (Zt e h1)];exact e
 have hP1:=hP.keep ho k1
 refine .inl ⟨_,rfl,p,rfl,⟨_,SqL.of hP1.l⟩,fun l2 h2=>?_⟩
 have n2:l2≠o:=fun z=>by rw [z,Zb] at h2;cases h2
 have n12:l1≠l2:=fun z=>by rw [Zn n2,← z,Zb] at h2;cases h2
 have h20:H l2=none:=by rw [Zn n2,Zn (Ne.symm n12)] at h2;exact h2
 refine Zac (K:=K) (a:=p) (xs:=ps.map fun x=>V.ref x.1) (fun i=>V.ref ((fms ps).getD i 0)) (fun σ=>∃ z,σ=[z]) (by rw [List.length_map];exact small5 (by have:=hP.n;omega)) ⟨_,rfl⟩ h2 (SqL.of hP1.l) ?_ ?_
 ·rintro i x hx σ1 H1 ⟨z,rfl⟩ hs1 R hR
  rw [List.getElem?_map] at hx
  obtain ⟨y,hy,rfl⟩:=Option.map_eq_some_iff.mp hx
  have hm:=List.mem_of_getElem? hy
  have e:(fms ps).getD i 0=y.2.2:=by unfold fms;rw [List.getD_eq_getElem?_getD,List.getElem?_map,hy];rfl
  rw [e] at hR
  exact ⟨_,rfl,.inl (.inr ⟨_,_,_,_,rfl,rfl,SqT.of (hs1 _ _ (hP1.t y hm)),Zy (j:=1) rfl,hR _ ⟨_,rfl⟩⟩)⟩
 have en:(List.range (ps.map fun x=>V.ref x.1).length).map (fun i=>V.ref ((fms ps).getD i 0))=(fms ps).map V.ref:=by
  apply List.ext_getElem
  ·unfold fms;simp
  ·intro i g1 g2
   have g3:i<ps.length:=by simpa [fms] using g2
   have g4:i<(fms ps).length:=by simpa using g2
   rw [List.getElem_map,List.getElem_map,List.getElem_range,List.getD_eq_getElem?_getD,List.getElem?_eq_getElem g4];rfl
 rw [en]
 refine ⟨_,rfl,o,C,dx,_,rfl,(by rw [Zn (Ne.symm n2)];exact Zb),T.cl,T.nF,(by show 1<1000;decide),?_⟩
 rw [Zqc,Qt (Ne.symm n2),Xh]
 exact q l1 l2 h1 h20 n12
theorem Zuc {f C CF:Addr} {fd:FuncData} (nb:NB mg) (T:TwoCls K C) (F:Fun K "__init__" "Record.__init__" Ys f fd) (DB_names_of:DefOkE P w K mg base 3 "names_of" ["parts"] (spNamesBad CF)):FnOk P w K mg base (CXe P w) 4 f fd ["self","parts"] (spTwoBad CF C):=by
 refine F.okE Zaj (fun vs H Q E h=>?_) (fun cdv A outer s H vs Q E hr h=>?_)
 ·obtain ⟨_,_,_,_,rfl,_⟩:=h;rfl
 obtain ⟨o,dx,p,ps,rfl,ho,hP,hg,q⟩:=h
 refine ⟨_,(Zc (Yv (pv 0) (Xq DB_names_of hr passes_fn.x (Za (pv 1) Zd)) rfl)
  (Zg (Yv (pv 0) (Jb ["part"] [] rfl (by decide +kernel) trivial (piAll (pv 1)) (fun _ _ _ _ _=>(Xn (i:=0) (show (["part"]:List Str).Nodup by decide +kernel) rfl (by first | exact Or.inl rfl | exact Or.inr rfl))) (fun _ _ _ _ _=>Yx) (fun _ _ _ _ _=>(Xo iAll (pv 0) Zf (fun _ _=>rfl)))) rfl))),?_⟩
 try dsimp only [cxK0,cxK1,cxK2,cxK3]
 exact ⟨_,rfl,p,ps,rfl,hP,hg,fun d hd=>⟨H,.refl (Same.refl _),q d hd⟩⟩
theorem Zuf {f C CF:Addr} {fd:FuncData} (nb:NB mg) (T:TwoCls K C) (F:Fun K "__init__" "Choice.__init__" Yu f fd) (DB_names_of:DefOkE P w K mg base 3 "names_of" ["parts"] (spNamesBad CF)):FnOk P w K mg base (CXe P w) 4 f fd ["self","cases"] (spTwoBad CF C):=by
 refine F.okE Zba (fun vs H Q E h=>?_) (fun cdv A outer s H vs Q E hr h=>?_)
 ·obtain ⟨_,_,_,_,rfl,_⟩:=h;rfl
 obtain ⟨o,dx,p,ps,rfl,ho,hP,hg,q⟩:=h
 refine ⟨_,(Zc (Yv (pv 0) (Xq DB_names_of hr passes_fn.x (Za (pv 1) Zd)) rfl)
  (Zg (Yv (pv 0) (Jb ["case"] [] rfl (by decide +kernel) trivial (piAll (pv 1)) (fun _ _ _ _ _=>(Xn (i:=0) (show (["case"]:List Str).Nodup by decide +kernel) rfl (by first | exact Or.inl rfl | exact Or.inr rfl))) (fun _ _ _ _ _=>Yx) (fun _ _ _ _ _=>(Xo iAll (pv 0) Zf (fun _ _=>rfl)))) rfl))),?_⟩
 try dsimp only [cxK0,cxK1,cxK2,cxK3]
 exact ⟨_,rfl,p,ps,rfl,hP,hg,fun d hd=>⟨H,.refl (Same.refl _),q d hd⟩⟩
structure OneCls (K:PySem.W.Frag) (C:Addr):Prop where
 cl:Cls K C
 nI:NoAttr K C "inner"
noncomputable def spOneInit (C:Addr):Sp:=fun vs H Q _=>∃ p dx w,vs=[.ref p,.ref w]∧H p=some (.ins C dx [])∧Q .non (upd H p (.ins C dx [("inner",.ref w)]))
theorem Zob {f C:Addr} {fd:FuncData} (T:OneCls K C) (F:Fun K "__init__" "Maybe.__init__" Wz f fd):FnOk P w K mg base CX0 1 f fd ["self","inner"] (spOneInit C):=by
 refine F.ok Znh (fun vs H Q E h=>?_) (fun cdv A outer s H vs Q E hr h=>?_)
 ·obtain ⟨_,_,_,rfl,_⟩:=h;rfl
 obtain ⟨p,dx,w,rfl,hp,q⟩:=h
 exact ⟨_,(Zg (Yv (pv 0) (pv 1) rfl)),_,rfl,_,rfl,p,C,dx,_,rfl,hp,T.cl,T.nI,(by show 0<1000;decide),q⟩
theorem Ztc {f C:Addr} {fd:FuncData} (T:OneCls K C) (F:Fun K "__init__" "Many.__init__" Jj f fd):FnOk P w K mg base CX0 1 f fd ["self","inner"] (spOneInit C):=by
 refine F.ok Zse (fun vs H Q E h=>?_) (fun cdv A outer s H vs Q E hr h=>?_)
 ·obtain ⟨_,_,_,rfl,_⟩:=h;rfl
 obtain ⟨p,dx,w,rfl,hp,q⟩:=h
 exact ⟨_,(Zg (Yv (pv 0) (pv 1) rfl)),_,rfl,_,rfl,p,C,dx,_,rfl,hp,T.cl,T.nI,(by show 0<1000;decide),q⟩
theorem Zkh {f C:Addr} {fd:FuncData} (T:OneCls K C) (F:Fun K "__init__" "Turned.__init__" Wr f fd):FnOk P w K mg base CX0 1 f fd ["self","inner"] (spOneInit C):=by
 refine F.ok Zka (fun vs H Q E h=>?_) (fun cdv A outer s H vs Q E hr h=>?_)
 ·obtain ⟨_,_,_,rfl,_⟩:=h;rfl
 obtain ⟨p,dx,w,rfl,hp,q⟩:=h
 exact ⟨_,(Zg (Yv (pv 0) (pv 1) rfl)),_,rfl,_,rfl,p,C,dx,_,rfl,hp,T.cl,T.nI,(by show 0<1000;decide),q⟩
structure Ins (K:PySem.W.Frag) (C:Addr):Prop where
 cl:Cls K C
 ha:PySem.W.findIn K (.ref C) "__class__"=some (some (.builtin "object.__class__"))
 hn:PySem.W.specialIn K (.builtin "object.__class__") "__get__"=some (some (.builtin "getset_descriptor.__get__"))
 htk:PySem.W.takesIn K (.builtin "object.__class__")=some true
 hm:PySem.W.mroIn K C (.type "object")=some true
structure CurCls (K:PySem.W.Frag) (C:Addr):Prop where
 cl:Cls K C
 nT:NoAttr K C "text"
 nP:NoAttr K C "place"
theorem Xnf:¬(("text":Str)="place"):=by decide +kernel
theorem Xqj:(("place":Str) == "text")=false:=by decide +kernel
noncomputable def curF (t:Str) (k:Nat):List (Str×V):=[("text",.str t),("place",.int ((k:Nat):Int))]
theorem cput1 (t:V):putF "text" t []=([("text",t)]:List (Str×V)):=rfl
theorem cput2 (t k:V):putF "place" k ([("text",t)]:List (Str×V))=([("text",t),("place",k)]:List (Str×V)):=by simp only [putF,Xnf,if_false]
theorem cput3 (t:Str) (k k':Nat):putF "place" (.int ((k':Nat):Int)) (curF t k)=curF t k':=by simp only [curF,putF,Xnf,if_false,if_true]
theorem clookT (t:Str) (k:Nat):(curF t k).lookup ("text":Str)=some (.str t):=by simp [curF,List.lookup]
theorem clookP (t:Str) (k:Nat):(curF t k).lookup ("place":Str)=some (.int ((k:Nat):Int)):=by simp [curF,List.lookup,Xqj]
theorem clookm (t:Str) (k:Nat) {m:Str} (h1:(m == ("text":Str))=false:=by decide +kernel) (h2:(m == ("place":Str))=false:=by decide +kernel):(curF t k).lookup m=none:=by simp [curF,List.lookup,h1,h2]
noncomputable abbrev curO (C dx:Addr) (t:Str) (k:Nat):HO := .ins C dx (curF t k)
noncomputable def spCurInit (C:Addr):Sp:=fun vs H Q _=>∃ (p dx:Addr) (t:Str),vs=[.ref p,.str t]∧H p=some (.ins C dx [])∧Q .non (upd H p (curO C dx t 0))
theorem Zxa {f C:Addr} {fd:FuncData} (T:CurCls K C) (F:Fun K "__init__" "Cursor.__init__" Wt f fd):FnOk P w K mg base CX0 1 f fd ["self","text"] (spCurInit C):=by
 refine F.ok Zkd (fun vs H Q E h=>?_) (fun cdv A outer s H vs Q E hr h=>?_)
 ·obtain ⟨_,_,_,rfl,_⟩:=h;rfl
 obtain ⟨p,dx,t,rfl,hp,q⟩:=h
 refine ⟨_,(Zc (Yv (pv 0) (pv 1) rfl)
  (Zg (Yv (pv 0) Zf rfl))),?_⟩
 try dsimp only [cxK0,cxK1,cxK2,cxK3]
 refine ⟨_,rfl,_,rfl,p,C,dx,_,rfl,hp,T.cl,T.nT,(by show 0<1000;decide),?_⟩
 rw [cput1]
 refine ⟨_,rfl,p,C,dx,_,rfl,Zb,T.cl,T.nP,(by show 1<1000;decide),?_⟩
 rw [cput2,Xh]
 exact q
noncomputable def spEnded (C:Addr):Sp:=fun vs H Q _=>∃ (cu dx:Addr) (t:Str) (k:Nat),vs=[.ref cu]∧H cu=some (curO C dx t k)∧t.length≤100000∧Q (.bl (decide (k=t.length))) H
theorem Xif {f C:Addr} {fd:FuncData} (nb:NB mg) (T:CurCls K C) (F:Fun K "ended" "Cursor.ended" Yy f fd):FnOk P w K mg base CX0 1 f fd ["self"] (spEnded C):=by
 refine F.okK Zhe (fun vs H Q E h=>?_) (fun cdv A outer s H vs Q E hr h=>?_)
 ·obtain ⟨_,_,_,_,rfl,_⟩:=h;rfl
 obtain ⟨cu,dx,t,k,rfl,hc,ht,q⟩:=h
 refine ⟨_,(Zg (Zm (Qq oEq (Yw (pv 0) rfl) (Zr Zx rfl nb.len_ Xf (Za (Yw (pv 0) rfl) Zd)) (nomark _)))),?_⟩
 try dsimp only [cxK0,cxK1,cxK2,cxK3]
 refine ⟨_,rfl,cu,C,dx,_,_,rfl,hc,T.cl,T.nP,clookP ..,_,rfl,cu,C,dx,_,_,rfl,hc,T.cl,T.nT,clookT ..,_,_,rfl,⟨small5 ht,rfl⟩,rfl,H,.refl (Same.refl _),?_⟩
 have e:decide (V.int ((k:Nat):Int)=V.int ((t.length:Nat):Int))=decide (k=t.length):=decide_eq_decide.mpr ⟨fun z=>by have:=V.int.inj z;omega,fun z=>by rw [z]⟩
 rw [e];exact q
noncomputable def spSkip (C:Addr):Sp:=fun vs H Q _=>∃ (cu dx:Addr) (t z:Str) (k:Nat),vs=[.ref cu,.str z]∧H cu=some (curO C dx t k)∧k≤t.length∧t.length≤100000∧z.length≤100∧
 (z.cps.toList <+: t.cps.toList.drop k→Q (.bl true) (upd H cu (curO C dx t (k+z.length))))∧(¬z.cps.toList <+: t.cps.toList.drop k→Q (.bl false) H)
theorem Xmf {f C:Addr} {fd:FuncData} (nb:NB mg) (T:CurCls K C) (F:Fun K "skip" "Cursor.skip" Ws f fd):FnOk P w K mg base CX0 1 f fd ["self","words"] (spSkip C):=by
 refine F.okK sc_Cursor_skip (fun vs H Q E h=>?_) (fun cdv A outer s H vs Q E hr h=>?_)
 ·obtain ⟨_,_,_,_,_,rfl,_⟩:=h;rfl
 obtain ⟨cu,dx,t,z,k,rfl,hc,hk,ht,hz,q1,q2⟩:=h
 refine ⟨_,(Zc (Zp (i:=2) sc_Cursor_skip.nd rfl (by first | exact Or.inl rfl | exact Or.inr rfl) (Zcg PySem.F.plainAttrs_str PySem.F.slot_str_startswith PySem.F.type_str_startswith Zoh (Yw (pv 0) rfl) (Za (pv 1) (Za (Yw (pv 0) rfl) Zd))))
  (Zc (Zs (Xv (pv 2) (fun _=>rfl)) (Zg (Yv (pv 0) (Zh oAdd (Yw (pv 0) rfl) (Zr Zx rfl nb.len_ Xf (Za (pv 1) Zd))) rfl)) Zl)
  (Zg (Zm (pv 2))))),?_⟩
 try dsimp only [cxK0,cxK1,cxK2,cxK3]
 refine ⟨_,rfl,cu,C,dx,_,_,rfl,hc,T.cl,T.nT,clookT ..,rfl,_,rfl,_,rfl,cu,C,dx,_,_,rfl,hc,T.cl,T.nP,clookP ..,t,z,k,rfl,rfl,hk,?_⟩
 refine ⟨_,rfl,_,rfl,iteD (fun c=>?_) (fun c=>?_)⟩
 ·refine ⟨_,rfl,cu,C,dx,_,_,rfl,hc,T.cl,T.nP,clookP ..,_,rfl,_,_,rfl,⟨small5 (by omega),rfl⟩,.inl ⟨_,_,rfl,rfl,_,rfl,cu,C,dx,_,rfl,hc,T.cl,T.nP,(by show 2<1000;decide),?_⟩⟩
  have e:((k:Nat):Int)+((z.length:Nat):Int)=((k+z.length:Nat):Int):=by omega
  dsimp only
  rw [e,cput3]
  refine ⟨_,rfl,_,.ins hc (fun b u nb e=>by rw [Zn nb];exact e) Zb,?_⟩
  rw [decide_eq_true c]
  exact q1 c
 ·refine ⟨_,rfl,H,.refl (Same.refl _),?_⟩
  rw [decide_eq_false c]
  exact q2 c
structure RunAt (t:Str) (k:Nat) (sg:Str) (run post:List Nat):Prop where
 e:t.cps.toList.drop k=run++post
 a:∀ c,c∈run→c∈sg.cps.toList
 n:∀ c r,post=c::r→c∉sg.cps.toList
 k:k≤t.length
noncomputable def spRun (C:Addr):Sp:=fun vs H Q _=>∃ (cu dx:Addr) (t sg:Str) (k:Nat) (run post:List Nat),vs=[.ref cu,.str sg]∧H cu=some (curO C dx t k)∧t.length≤100000∧RunAt t k sg run post∧Q (.str ⟨run.toArray⟩) (upd H cu (curO C dx t (k+run.length)))
theorem Zpg {t:Str} {k:Nat} {run post:List Nat} (h:t.cps.toList.drop k=run++post) (hk:k≤t.length):Txt.slice t (some ((k:Nat):Int)) (some ((k+run.length:Nat):Int))=⟨run.toArray⟩:=by
 apply KM.Zsb
 have el:t.cps.toList.length=t.length:=Array.length_toList
 have hl:=congrArg List.length h
 rw [List.length_drop,List.length_append,el] at hl
 rw [KM.Jq,HT.sIx_nat,HT.sIx_nat,Nat.min_eq_left hk,Nat.min_eq_left (by omega),h,Nat.add_sub_cancel_left,List.take_left']
 ·rfl
theorem Xea {f C:Addr} {fd:FuncData} (T:CurCls K C) (F:Fun K "run_of" "Cursor.run_of" Yk f fd) (c_C:Cls K C) (M_ended:MethOk P w K mg base 1 C "ended" ["self"] (spEnded C)):FnOk P w K mg base CX0 2 f fd ["self","signs"] (spRun C):=by
 refine F.okK sc_Cursor_run_of (fun vs H Q E h=>?_) (fun cdv A outer s H vs Q E hr h=>?_)
 ·obtain ⟨_,_,_,_,_,_,_,rfl,_⟩:=h;rfl
 obtain ⟨cu,dx,t,sg,k,run,post,rfl,hc,ht,R,q⟩:=h
 refine ⟨_,(Zc (Zp (i:=2) sc_Cursor_run_of.nd rfl (by first | exact Or.inl rfl | exact Or.inr rfl) (Yw (pv 0) rfl))
  (Zc (Qi PassesOwn.never (PW.pt (Jn (Qs (Xv (Zqd M_ended c_C hr (pv 0)) (fun _=>rfl))) (Jd (Zi Qd (Xo iAll (Yw (pv 0) rfl) (Yw (pv 0) rfl) (fun _ _=>rfl)) (pv 1) (by with_unfolding_all rfl)))))
   (Zg (Yv (pv 0) (Zh oAdd (Yw (pv 0) rfl) Zf) rfl)))
  (Zg (Zm (Zw slAll (Yw (pv 0) rfl) (Zu (pv 2)) (Zu (Yw (pv 0) rfl))))))),?_⟩
 try dsimp only [cxK0,cxK1,cxK2,cxK3]
 have el:t.cps.toList.length=t.length:=Array.length_toList
 have hl:=congrArg List.length R.e
 rw [List.length_drop,List.length_append,el] at hl
 have hk:=R.k
 refine ⟨_,rfl,cu,C,dx,_,_,rfl,hc,T.cl,T.nP,clookP ..,?_⟩
 refine ⟨fun m σ H2=>∃ i,m=run.length - i∧i≤run.length∧σ=[some (.ref cu),some (.str sg),some (.int ((k:Nat):Int))]∧H2=upd H cu (curO C dx t (k+i)),⟨run.length,0,rfl,Nat.zero_le _,rfl,(Xdd hc).symm⟩,?_⟩
 rintro m σ H2 ⟨i,rfl,hi,rfl,rfl⟩
 have hat:(t.cps.toList.drop k)[i]?=t.cps.toList[k+i]?:=List.getElem?_drop
 refine ⟨_,rfl,cu,dx,_,rfl,Zb,clookm ..,cu,dx,t,k+i,rfl,Zb,ht,_,rfl,?_⟩
 rcases Nat.lt_or_ge i run.length with z | z
 ·have hc2:t.cps.toList[k+i]?=some run[i]:=by rw [← hat,R.e,List.getElem?_append_left z,List.getElem?_eq_getElem z]
  rw [decide_eq_false (show ¬k+i=t.length by omega)]
  refine iteT ⟨_,rfl,cu,C,dx,_,_,rfl,Zb,T.cl,T.nT,clookT ..,_,rfl,cu,C,dx,_,_,rfl,Zb,T.cl,T.nP,clookP ..,.inr ⟨_,_,_,rfl,rfl,small5 ht,Zy hc2,_,rfl,_,_,rfl,rfl,_,rfl,?_⟩⟩
  rw [StrLaws.found_one,decide_eq_true (R.a _ (List.getElem_mem z))]
  refine iteT ⟨fun σ' H'=>∃ m',m'<run.length - i∧∃ i',m'=run.length - i'∧i'≤run.length∧σ'=[some (.ref cu),some (.str sg),some (.int ((k:Nat):Int))]∧H'=upd H cu (curO C dx t (k+i')),fun _ _ h=>h,?_⟩
  refine ⟨_,rfl,cu,C,dx,_,_,rfl,Zb,T.cl,T.nP,clookP ..,.inl ⟨_,_,rfl,rfl,_,rfl,cu,C,dx,_,rfl,Zb,T.cl,T.nP,(by show 2<1000;decide),?_⟩⟩
  have e:((k+i:Nat):Int)+1=((k+(i+1):Nat):Int):=by omega
  dsimp only
  rw [e,cput3,Xh]
  exact ⟨run.length - (i+1),by omega,i+1,rfl,z,rfl,rfl⟩
 ·obtain rfl:i=run.length:=by omega
  have fin:∃ H'',L2.Sub H H'' (upd H cu (curO C dx t (k+run.length)))∧Q (.str ⟨run.toArray⟩) H'':=⟨_,.ins hc (fun b u nb e=>by rw [Zn nb];exact e) Zb,q⟩
  cases post with
  | nil =>
   rw [List.length_nil] at hl
   rw [decide_eq_true (show k+run.length=t.length by omega)]
   refine iteF ?_
   refine ⟨_,rfl,cu,C,dx,_,_,rfl,Zb,T.cl,T.nT,clookT ..,_,rfl,_,rfl,_,rfl,cu,C,dx,_,_,rfl,Zb,T.cl,T.nP,clookP ..,_,rfl,.inr ⟨_,rfl,small5 ht,?_⟩⟩
   rw [Zpg R.e hk]
   exact fin
  | cons c r =>
   rw [List.length_cons] at hl
   have hc2:t.cps.toList[k+run.length]?=some c:=by rw [← hat,R.e,List.getElem?_append_right (Nat.le_refl _),Nat.sub_self];rfl
   rw [decide_eq_false (show ¬k+run.length=t.length by omega)]
   refine iteT ⟨_,rfl,cu,C,dx,_,_,rfl,Zb,T.cl,T.nT,clookT ..,_,rfl,cu,C,dx,_,_,rfl,Zb,T.cl,T.nP,clookP ..,.inr ⟨_,_,_,rfl,rfl,small5 ht,Zy hc2,_,rfl,_,_,rfl,rfl,_,rfl,?_⟩⟩
   rw [StrLaws.found_one,decide_eq_false (R.n c r rfl)]
   refine iteF ?_
   refine ⟨_,rfl,cu,C,dx,_,_,rfl,Zb,T.cl,T.nT,clookT ..,_,rfl,_,rfl,_,rfl,cu,C,dx,_,_,rfl,Zb,T.cl,T.nP,clookP ..,_,rfl,.inr ⟨_,rfl,small5 ht,?_⟩⟩
   rw [Zpg R.e hk]
   exact fin
structure Rd2 (H:Hp) (C cu dx:Addr) (t:Str) (q:List Nat):Prop where
 hc:H cu=some (curO C dx t (t.length - q.length))
 hs:q <:+ t.cps.toList
 hl:t.length≤100000
noncomputable def mvC (H:Hp) (C cu dx:Addr) (t:Str) (q:List Nat):Hp:=upd H cu (curO C dx t (t.length - q.length))
section
variable {H H' H1:Hp} {C cu dx NT NF:Addr} {t:Str} {q q':List Nat} {E:XK} {o:HO}
theorem Rd2.len (h:Rd2 H C cu dx t q):q.length≤t.length:=by
 have:=h.hs.length_le
 rwa [Array.length_toList] at this
theorem Rd2.drop (h:Rd2 H C cu dx t q):t.cps.toList.drop (t.length - q.length)=q:=by
 have:=List.suffix_iff_eq_drop.mp h.hs
 rw [Array.length_toList] at this
 exact this.symm
theorem Rd2.mv (h:Rd2 H C cu dx t q) (hs:q' <:+ q):Rd2 (mvC H C cu dx t q') C cu dx t q':=⟨Zb,hs.trans h.hs,h.hl⟩
theorem Rd2.mo (h:Rd2 H C cu dx t q) (q':List Nat):Mv cu H (mvC H C cu dx t q'):=Mv.move h.hc
theorem Rd2.on (h:Rd2 H C cu dx t q) (hs:q' <:+ q) (e:H' cu=some (curO C dx t (t.length - q'.length))):Rd2 H' C cu dx t q':=⟨e,hs.trans h.hs,h.hl⟩
theorem Zef:mvC (mvC H C cu dx t q) C cu dx t q'=mvC H C cu dx t q':=Xh ..
noncomputable def Er (cu NT NF:Addr) (H:Hp) (E:XK):Prop:=∀ cc d H' o,((cc=NT∧d=none)∨(cc=NF∧d≠none))→Mv cu H H'→H' cu=some o→E (.ref cc) d H'
theorem Er.nt (h:Er cu NT NF H E) (m:Mv cu H H1) (e:H1 cu=some o):eSub H E (.ref NT) none H1:=⟨H1,m.sub e,h _ _ _ _ (.inl ⟨rfl,rfl⟩) m e⟩
theorem Er.nf (h:Er cu NT NF H E) (m:Mv cu H H1) (e:H1 cu=some o) (d:Option Addr) (hd:d≠none):eSub H E (.ref NF) d H1:=⟨H1,m.sub e,h _ _ _ _ (.inr ⟨rfl,hd⟩) m e⟩
theorem Er.on (h:Er cu NT NF H E) (m:Mv cu H H1):Er cu NT NF H1 (eSub H E):=fun cc d H' o hc m' e=>⟨H',(m.trans m').sub e,h cc d H' o hc (m.trans m') e⟩
end
theorem MethOk.imp {k:Nat} {C:Addr} {m:Str} {ps:List Str} {sp sp':Sp} (h:MethOk P w K mg base k C m ps sp) (hi:∀ vs H Q E,sp' vs H Q E→sp vs H Q E):MethOk P w K mg base k C m ps sp':=by
 obtain ⟨f,fd,F,hb,hm⟩:=h
 exact ⟨f,fd,F.imp hi,hb,hm⟩
noncomputable def spSkip2 (C:Addr):Sp:=fun vs H Q _=>∃ (cu dx:Addr) (t z:Str) (q:List Nat),vs=[.ref cu,.str z]∧Rd2 H C cu dx t q∧z.length≤100∧(∀ q',strip z.cps.toList q=some q'→Q (.bl true) (mvC H C cu dx t q'))∧(strip z.cps.toList q=none→Q (.bl false) H)
theorem skip2 {C:Addr} (h:MethOk P w K mg base 1 C "skip" ["self","words"] (spSkip C)):MethOk P w K mg base 1 C "skip" ["self","words"] (spSkip2 C):=MethOk.imp h fun vs H Q E ⟨cu,dx,t,z,q,e,R,hz,q1,q2⟩=>by
 refine ⟨cu,dx,t,z,t.length - q.length,e,R.hc,Nat.sub_le ..,R.hl,hz,?_,?_⟩
 ·rw [R.drop]
  rintro ⟨q',rfl⟩
  have:=q1 q' (Zbe ..)
  have hl:=R.len
  rw [List.length_append,Array.length_toList] at hl
  have hz':z.cps.size=z.length:=rfl
  unfold mvC at this
  rw [List.length_append,Array.length_toList,show t.length - (z.cps.size+q'.length)+z.length=t.length - q'.length by omega]
  exact this
 ·rw [R.drop]
  intro hn
  refine q2 ?_
  unfold strip
  rw [if_neg hn]
noncomputable def spRun2 (C:Addr):Sp:=fun vs H Q _=>∃ (cu dx:Addr) (t sg:Str) (q:List Nat),vs=[.ref cu,.str sg]∧Rd2 H C cu dx t q∧Q (.str ⟨(runS sg q).toArray⟩) (mvC H C cu dx t (offS sg q))
theorem run2 {C:Addr} (h:MethOk P w K mg base 2 C "run_of" ["self","signs"] (spRun C)):MethOk P w K mg base 2 C "run_of" ["self","signs"] (spRun2 C):=MethOk.imp h fun vs H Q E ⟨cu,dx,t,sg,q,e,R,q1⟩=>by
 refine ⟨cu,dx,t,sg,t.length - q.length,runS sg q,offS sg q,e,R.hc,R.hl,⟨by rw [R.drop,Yh],Qx,Xig,Nat.sub_le ..⟩,?_⟩
 have hl:=R.len
 have h2:=congrArg List.length (Yh sg q)
 rw [List.length_append] at h2
 unfold mvC at q1
 rw [show t.length - q.length+(runS sg q).length=t.length - (offS sg q).length by omega]
 exact q1
noncomputable def spExp2 (C NT:Addr):Sp:=fun vs H Q E=>∃ (cu dx:Addr) (t z:Str) (q:List Nat),vs=[.ref cu,.str z]∧Rd2 H C cu dx t q∧z.length≤100∧(∀ q',strip z.cps.toList q=some q'→Q .non (mvC H C cu dx t q'))∧(strip z.cps.toList q=none→E (.ref NT) none H)
theorem Xaf {f C NT:Addr} {fd:FuncData} (xi_NoText:PySem.W.excIn K NT bmV "ValueError.__new__"=true) (gm_NoText:mg "NoText"=some (.ref NT)) (F:Fun K "expect" "Cursor.expect" Yl f fd) (c_C:Cls K C) (M_skip:MethOk P w K mg base 1 C "skip" ["self","words"] (spSkip2 C)):FnOk P w K mg base (CXe P w) 2 f fd ["self","words"] (spExp2 C NT):=by
 refine F.okE Zfe (fun vs H Q E h=>?_) (fun cdv A outer s H vs Q E hr h=>?_)
 ·obtain ⟨_,_,_,_,_,rfl,_⟩:=h;rfl
 obtain ⟨cu,dx,t,z,q,rfl,R,hz,q1,q2⟩:=h
 refine ⟨_,(Zg (Zs (Qs (Xv (Jx M_skip c_C hr (pv 0) (Za (pv 1) Zd)) (fun _=>rfl))) (Zg (Qj Xw xi_NoText gm_NoText hr.hd (Za Ze Zd))) Zl)),?_⟩
 try dsimp only [cxK0,cxK1,cxK2,cxK3]
 exact ⟨_,rfl,cu,dx,_,rfl,R.hc,clookm ..,_,rfl,cu,dx,t,z,q,rfl,R,hz,fun q' e=>⟨true,rfl,iteF ⟨_,(R.mo q').sub Zb,q1 q' e⟩⟩,fun e=>⟨false,rfl,iteT ⟨Ya,H,.refl (Same.refl _),q2 e⟩⟩⟩
noncomputable def spNum3 (C NT NF:Addr):Sp:=fun vs H Q E=>∃ (cu dx:Addr) (t:Str) (q:List Nat),vs=[.ref cu]∧Rd2 H C cu dx t q∧(∀ a q',rdNum q=some (a,q')→Q (.int a) (mvC H C cu dx t q'))∧(rdNum q=none→Er cu NT NF H E)
theorem Zkg (c:Nat):decide (V.str ⟨#[c]⟩=V.str (Str.ofString "0"))=decide (c=48):=by
 have e:Str.ofString "0"=⟨#[48]⟩:=by decide +kernel
 rw [e]
 refine decide_eq_decide.mpr ⟨fun z=>?_,fun z=>by rw [z]⟩
 have z:=V.str.inj z
 injection z with z
 have z:=congrArg (fun a=>a[0]?) z
 simpa using z
set_option maxHeartbeats 2000000 in
theorem Zoa {f C NT NF:Addr} {fd:FuncData} (nb:NB mg) (xi_NoText:PySem.W.excIn K NT bmV "ValueError.__new__"=true) (gm_NoText:mg "NoText"=some (.ref NT)) (c_C:Cls K C) (g_FIGURES:GlobV mg "FIGURES" (.str FIG)) (g_MOST_FIGURES:GlobV mg "MOST_FIGURES" (.int 58)) (F:FunAt K mg "number_at" Wb ["cursor"] f fd) (M_skip:MethOk P w K mg base 1 C "skip" ["self","words"] (spSkip2 C)) (M_run_of:MethOk P w K mg base 2 C "run_of" ["self","signs"] (spRun2 C)):DefOkE P w K mg base 3 "number_at" ["cursor"] (spNum3 C NT NF):=by
 refine F.okE sc_number_at (fun vs H Q E h=>?_) (fun cdv A outer s H vs Q E hr h=>?_)
 ·obtain ⟨_,_,_,_,rfl,_⟩:=h;rfl
 obtain ⟨cu,dx,t,q,rfl,R,q1,q2⟩:=h
 refine ⟨_,(Zc (Zp (i:=1) sc_number_at.nd rfl (by first | exact Or.inl rfl | exact Or.inr rfl) (Jx M_skip c_C hr (pv 0) (Za Ze Zd)))
  (Zc (Zp (i:=2) sc_number_at.nd rfl (by first | exact Or.inl rfl | exact Or.inr rfl) (Jx M_run_of c_C hr (pv 0) (Za (Xc g_FIGURES) Zd)))
  (Zc (Zs (PW.pt (Jk (Zi oEq (pv 2) Ze (nomark _)) (Wn (Zi oGt (Zr Zx rfl nb.len_ Xf (Za (pv 2) Zd)) (Xc g_MOST_FIGURES) (nomark _))))) (Zg (Qj Xw xi_NoText gm_NoText hr.hd (Za Ze Zd))) Zl)
  (Zc (Zs (PW.pt (Jn (Zi oEq (Xo iAll (pv 2) Zf (fun _ _=>rfl)) Ze (nomark _)) (Jd (PW.pt (Jk (Xv (pv 1) (fun _=>rfl)) (Wn (Zi oGt (Zr Zx rfl nb.len_ Xf (Za (pv 2) Zd)) Zf (nomark _)))))))) (Zg (Qj Xw xi_NoText gm_NoText hr.hd (Za Ze Zd))) Zl)
  (Zg (Zm (Xhi (Xv (pv 1) (fun _=>rfl)) (Jw Wu (Yz Qv rfl nb.int_ Zmg (Za (pv 2) Zd))) (Yz Qv rfl nb.int_ Zmg (Za (pv 2) Zd))))))))),?_⟩
 try dsimp only [cxK0,cxK1,cxK2,cxK3]
 replace q1:∀ a q',rdNum q=some (a,q')→∃ H'',L2.Sub H H'' (mvC H C cu dx t q')∧Q (.int a) H'':=fun a q' e=>⟨_,(R.mo q').sub Zb,q1 a q' e⟩
 refine ⟨_,rfl,cu,dx,_,rfl,R.hc,clookm ..,cu,dx,t,Str.ofString "-",q,rfl,R,(by decide +kernel),fun r e=>?_,fun e=>?_⟩
 ·have hn:rdNum q=numT true r:=by unfold rdNum;rw [show strip (cp "-") q=some r from e]
  have R1:=R.mv (Yj e)
  have hm:∀ q',mvC (mvC H C cu dx t r) C cu dx t q'=mvC H C cu dx t q':=fun q'=>Zef
  generalize mvC H C cu dx t r=H1 at R1 hm ⊢
  refine ⟨_,rfl,cu,dx,_,rfl,R1.hc,clookm ..,cu,dx,t,FIG,r,rfl,R1,?_⟩
  rw [hm]
  have R2:Rd2 (mvC H C cu dx t (offS FIG r)) C cu dx t (offS FIG r):=hm (offS FIG r) ▸ R1.mv (Jl _ _)
  have m2:=R.mo (offS FIG r)
  unfold numT at hn
  have hall:=Qx (S:=FIG) (q:=r)
  have hgl:(runS FIG r).length≤100000:=by
   have h1:=congrArg List.length (Yh FIG r)
   have h2:=R1.len
   have h3:=R1.hl
   rw [List.length_append] at h1
   omega
  generalize runS FIG r=g at hn hall hgl ⊢
  have hf0:((⟨g.toArray⟩:Str)).length=g.length:=by show g.toArray.size=_;rw [List.size_toArray]
  have lf:((⟨g.toArray⟩:Str)).length≤sizeLine:=by rw [hf0];exact small5 hgl
  refine ⟨_,rfl,rfl,_,rfl,iteD (fun z=>?_) (fun z0=>⟨_,rfl,_,_,rfl,⟨lf,rfl⟩,_,_,rfl,rfl,_,rfl,iteD (fun z=>?_) (fun z1=>?_)⟩)⟩
  ·have:=(Zbf _).mp (V.str.inj z)
   rw [hf0] at this
   exact ⟨Ya,(q2 (by rw [hn,if_pos (.inl (List.length_eq_zero_iff.mp this))])).nt m2 R2.hc⟩
  ·rw [hf0] at z
   exact ⟨Ya,(q2 (by rw [hn,if_pos (.inr (by omega))])).nt m2 R2.hc⟩
  rw [hf0] at z1
  cases g with
  | nil=>exact absurd (show V.str ⟨#[]⟩=V.str (Str.ofString "") from by rw [(Zbf ⟨#[]⟩).mpr rfl]) z0
  | cons hd tl =>
  rw [if_neg (fun z=>z.elim (fun z=>nomatch z) (fun z=>z1 (by omega)))] at hn
  have hint:=PySem.intText_digits (x:=⟨(hd::tl).toArray⟩) (fun c hc=>Xbf (hall c hc)) (fun z=>nomatch z) (by rw [hf0];have:¬58<(hd::tl).length:=fun z=>z1 (by omega);omega)
  have h640:((⟨(hd::tl).toArray⟩:Str)).length≤640:=by rw [hf0];have:¬58<(hd::tl).length:=fun z=>z1 (by omega);omega
  refine ⟨_,rfl,.inr ⟨_,_,_,rfl,rfl,lf,Zy (j:=0) rfl,rfl,_,rfl,?_⟩⟩
  rw [Zkg]
  by_cases h48:hd=48
  ·rw [decide_eq_true h48]
   refine iteT ⟨_,rfl,true,rfl,iteT ⟨Ya,(q2 ?_).nt m2 R2.hc⟩⟩
   rw [hn,if_pos ⟨by rw [h48];rfl,.inl rfl⟩]
  ·rw [decide_eq_false h48]
   have hno:¬((hd::tl).head?=some 48∧(true=true∨1<(hd::tl).length)):=fun z=>h48 (Option.some.inj z.1)
   rw [if_neg hno] at hn
   have fin:=q1 _ _ hn
   exact iteF ⟨_,rfl,true,rfl,iteT ⟨_,rfl,.inr ⟨_,_,rfl,hint,h640,_,rfl,fin⟩⟩⟩
 ·have hn:rdNum q=numT false q:=by unfold rdNum;rw [show strip (cp "-") q=none from e]
  obtain ⟨r,hr⟩:∃ r,r=q:=⟨_,rfl⟩
  have R1:Rd2 H C cu dx t r:=hr ▸ R
  have hm:∀ q',mvC H C cu dx t q'=mvC H C cu dx t q':=fun q'=>rfl
  rw [← hr] at hn
  have hn:rdNum q=numT false r:=by rw [← hr];exact hn
  refine ⟨_,rfl,cu,dx,_,rfl,R1.hc,clookm ..,cu,dx,t,FIG,r,rfl,R1,?_⟩
  rw [hm]
  have R2:Rd2 (mvC H C cu dx t (offS FIG r)) C cu dx t (offS FIG r):=hm (offS FIG r) ▸ R1.mv (Jl _ _)
  have m2:=R.mo (offS FIG r)
  unfold numT at hn
  have hall:=Qx (S:=FIG) (q:=r)
  have hgl:(runS FIG r).length≤100000:=by
   have h1:=congrArg List.length (Yh FIG r)
   have h2:=R1.len
   have h3:=R1.hl
   rw [List.length_append] at h1
   omega
  generalize runS FIG r=g at hn hall hgl ⊢
  have hf0:((⟨g.toArray⟩:Str)).length=g.length:=by show g.toArray.size=_;rw [List.size_toArray]
  have lf:((⟨g.toArray⟩:Str)).length≤sizeLine:=by rw [hf0];exact small5 hgl
  refine ⟨_,rfl,rfl,_,rfl,iteD (fun z=>?_) (fun z0=>⟨_,rfl,_,_,rfl,⟨lf,rfl⟩,_,_,rfl,rfl,_,rfl,iteD (fun z=>?_) (fun z1=>?_)⟩)⟩
  ·have:=(Zbf _).mp (V.str.inj z)
   rw [hf0] at this
   exact ⟨Ya,(q2 (by rw [hn,if_pos (.inl (List.length_eq_zero_iff.mp this))])).nt m2 R2.hc⟩
  ·rw [hf0] at z
   exact ⟨Ya,(q2 (by rw [hn,if_pos (.inr (by omega))])).nt m2 R2.hc⟩
  rw [hf0] at z1
  cases g with
  | nil=>exact absurd (show V.str ⟨#[]⟩=V.str (Str.ofString "") from by rw [(Zbf ⟨#[]⟩).mpr rfl]) z0
  | cons hd tl =>
  rw [if_neg (fun z=>z.elim (fun z=>nomatch z) (fun z=>z1 (by omega)))] at hn
  have hint:=PySem.intText_digits (x:=⟨(hd::tl).toArray⟩) (fun c hc=>Xbf (hall c hc)) (fun z=>nomatch z) (by rw [hf0];have:¬58<(hd::tl).length:=fun z=>z1 (by omega);omega)
  have h640:((⟨(hd::tl).toArray⟩:Str)).length≤640:=by rw [hf0];have:¬58<(hd::tl).length:=fun z=>z1 (by omega);omega
  refine ⟨_,rfl,.inr ⟨_,_,_,rfl,rfl,lf,Zy (j:=0) rfl,rfl,_,rfl,?_⟩⟩
  rw [Zkg]
  by_cases hno:(hd::tl).head?=some 48∧(false=true∨1<(hd::tl).length)
  ·have h48:hd=48:=Option.some.inj hno.1
   have hl1:1<(hd::tl).length:=hno.2.elim (fun z=>nomatch z) id
   rw [decide_eq_true h48]
   refine iteT ⟨_,rfl,false,rfl,iteF ⟨_,rfl,_,_,rfl,⟨lf,rfl⟩,_,_,rfl,rfl,_,rfl,iteY (by rw [hf0];omega) ⟨Ya,(q2 ?_).nt m2 R2.hc⟩⟩⟩
   rw [hn,if_pos hno]
  ·skip
   rw [if_neg hno] at hn
   have fin:=q1 _ _ hn
   by_cases h48:hd=48
   ·rw [decide_eq_true h48]
    refine iteT ⟨_,rfl,false,rfl,iteF ⟨_,rfl,_,_,rfl,⟨lf,rfl⟩,_,_,rfl,rfl,_,rfl,iteN (fun z=>hno ⟨by rw [h48];rfl,.inr (by rw [hf0] at z;omega)⟩) ?_⟩⟩
    exact ⟨_,rfl,false,rfl,iteF ⟨_,rfl,.inr ⟨_,_,rfl,hint,h640,fin⟩⟩⟩
   ·rw [decide_eq_false h48]
    exact iteF ⟨_,rfl,false,rfl,iteF ⟨_,rfl,.inr ⟨_,_,rfl,hint,h640,fin⟩⟩⟩
theorem Zjb:2≤sizeLine:=by decide
theorem fin4:∀ k:Fin 4,k=0∨k=1∨k=2∨k=3:=by decide
theorem fin3:∀ k:Fin 3,k=0∨k=1∨k=2:=by decide
theorem fin2:∀ k:Fin 2,k=0∨k=1:=by decide
theorem Xnh:cp " "=[32]:=by decide +kernel
theorem Zae:cp "("=[40]:=by decide +kernel
theorem Qr:cp ")"=[41]:=by decide +kernel
theorem Xkf:cp ", "=[44,32]:=by decide +kernel
theorem Xfa {ns:List Str} (h:goodNames ns=true) {n:Str} (hn:n∈ns):isName n=true:=by
 unfold goodNames at h
 simp only [Bool.and_eq_true,List.all_eq_true] at h
 exact h.2 n hn
theorem Zif (x:Str):(⟨x.cps.toList.toArray⟩:Str)=x:=by
 obtain ⟨c⟩:=x
 rfl
noncomputable def tlS (fs:List Fm) (ns:List Str):List Nat:=match fs with | []=>[] | _::_=>cp ", "++shs fs ns
theorem Zai (f:Fm) (fs:List Fm) (n:Str) (ns:List Str):shs (f::fs) (n::ns)=n.cps.toList++(cp " "++(sh f++tlS fs ns)):=by
 cases fs with
 | nil=>rw [shs];rfl
 | cons g r=>rw [shs];rfl
noncomputable def Alloc (X:List Addr) (H:Hp):Prop:=∀ x,x∈X→H x≠none
theorem Alloc.nin {X:List Addr} {H:Hp} (h:Alloc X H) {a:Addr} (e:H a=none):a∉X:=fun z=>h a z e
theorem Alloc.mv {X:List Addr} {cu:Addr} {H H':Hp} {o:HO} (h:Alloc X H) (m:Mv cu H H') (e:H' cu=some o):Alloc X H':=fun x hx z=>h x hx (m.free e z)
theorem Alloc.ext {X:List Addr} {H H':Hp} (h:Alloc X H) (m:Ext H H'):Alloc X H':=fun x hx z=>h x hx (m.s.free z)
noncomputable def spBare3 (c:FC):Sp:=fun vs H Q _=>∃ w:Str,vs=[.str w]∧(∀ k,bareK w=some k→∀ x dx,H x=none→H dx=none→dx≠x→Q (.ref x) (upd (upd H dx (.own x)) x (.ins (c.b k) dx [])))∧(bareK w=none→Q .non H)
theorem Zoe {f:Addr} {c:FC} {fd:FuncData} (F:FunAt K mg "bare_form" Wg ["word"] f fd) (M0_Nothing:Mk0 K (c.b 0)) (m_Nothing:mg "Nothing"=some (.ref (c.b 0))) (M0_Truth:Mk0 K (c.b 1)) (m_Truth:mg "Truth"=some (.ref (c.b 1))) (M0_Whole:Mk0 K (c.b 2)) (m_Whole:mg "Whole"=some (.ref (c.b 2))) (M0_Fraction:Mk0 K (c.b 3)) (m_Fraction:mg "Fraction"=some (.ref (c.b 3))):DefOk P w K mg base 1 "bare_form" ["word"] (spBare3 c):=by
 refine F.ok Zsd (fun vs H Q E h=>?_) (fun cdv A outer s H vs Q E hr h=>?_)
 ·obtain ⟨_,rfl,_⟩:=h;rfl
 obtain ⟨ww,rfl,q1,q2⟩:=h
 refine ⟨_,(Zc (Zs (Zi oEq (pv 0) Ze (nomark _)) (Zg (Zm (Zcb M0_Nothing rfl m_Nothing))) Zl)
  (Zc (Zs (Zi oEq (pv 0) Ze (nomark _)) (Zg (Zm (Zcb M0_Truth rfl m_Truth))) Zl)
  (Zc (Zs (Zi oEq (pv 0) Ze (nomark _)) (Zg (Zm (Zcb M0_Whole rfl m_Whole))) Zl)
  (Zc (Zs (Zi oEq (pv 0) Ze (nomark _)) (Zg (Zm (Zcb M0_Fraction rfl m_Fraction))) Zl)
  (Zg (Zm Zfh)))))),?_⟩
 try dsimp only [cxK0,cxK1,cxK2,cxK3]
 unfold bareK at q1 q2
 have mk:∀ k:Fin 4,(∀ x dx,H x=none→H dx=none→dx≠x→Q (.ref x) (upd (upd H dx (.own x)) x (.ins (c.b k) dx [])))→∀ x dx,H x=none→H dx=none→dx≠x→∃ H'',L2.Sub H H'' (upd (upd H dx (.own x)) x (.ins (c.b k) dx []))∧Q (.ref x) H'':=fun k q x dx h1 h2 h12=>⟨_,(Ext.made h1 h2 h12).sub,q x dx h1 h2 h12⟩
 refine ⟨_,rfl,rfl,_,rfl,iteD (fun z=>mk 0 (q1 0 (if_pos (V.str.inj z)))) (fun z0=>?_)⟩
 rw [if_neg (show ¬ww=bw 0 from fun z=>z0 (by rw [z];rfl))] at q1 q2
 refine ⟨_,rfl,rfl,_,rfl,iteD (fun z=>mk 1 (q1 1 (if_pos (V.str.inj z)))) (fun z0=>?_)⟩
 rw [if_neg (show ¬ww=bw 1 from fun z=>z0 (by rw [z];rfl))] at q1 q2
 refine ⟨_,rfl,rfl,_,rfl,iteD (fun z=>mk 2 (q1 2 (if_pos (V.str.inj z)))) (fun z0=>?_)⟩
 rw [if_neg (show ¬ww=bw 2 from fun z=>z0 (by rw [z];rfl))] at q1 q2
 refine ⟨_,rfl,rfl,_,rfl,iteD (fun z=>mk 3 (q1 3 (if_pos (V.str.inj z)))) (fun z0=>?_)⟩
 rw [if_neg (show ¬ww=bw 3 from fun z=>z0 (by rw [z];rfl))] at q2
 exact ⟨H,.refl (Same.refl _),q2 rfl⟩
noncomputable def Gd (c:FC) (C cu dx:Addr) (t:Str) (X:List Addr) (H:Hp) (Q:VK) (r:Option (Fm×List Nat)):Prop:=∀ f q',r=some (f,q')→∀ o H',Mv cu H H'→H' cu=some (curO C dx t (t.length - q'.length))→FAt c X H' f o→Q (.ref o) H'
theorem Gd.sub {c:FC} {C cu dx:Addr} {t:Str} {X:List Addr} {H:Hp} {Q:VK} {r:Option (Fm×List Nat)} (h:Gd c C cu dx t X H Q r):Gd c C cu dx t X H (fun v H'=>∃ H'',L2.Sub H H'' H'∧Q v H'') r:=fun f q' e o H' m e2 hF=>⟨H',m.sub e2,h f q' e o H' m e2 hF⟩
noncomputable def spSpan3 (c:FC) (C NT NF:Addr):Sp:=fun vs H Q E=>∃ (cu dx:Addr) (t:Str) (q:List Nat) (X:List Addr),vs=[.ref cu]∧Rd2 H C cu dx t q∧Alloc X H∧Gd c C cu dx t X H Q (rdSpan q)∧(rdSpan q=none→Er cu NT NF H E)
theorem Zwc {f C NT NF:Addr} {c:FC} {fd:FuncData} (c_C:Cls K C) (F:FunAt K mg "span_at" Je ["cursor"] f fd) (MB_expect:MethOkE P w K mg base 2 C "expect" ["self","words"] (spExp2 C NT)) (DB_number_at:DefOkE P w K mg base 3 "number_at" ["cursor"] (spNum3 C NT NF)) (M_Span:MakeOk P w K mg base 1 "Span" c.s ["self","low","high"] (spSpanInit c.s)) (MB_Span:MakeOkE P w K mg base 1 "Span" c.s ["self","low","high"] (spSpanBad NF c.s)):DefOkE P w K mg base 4 "span_at" ["cursor"] (spSpan3 c C NT NF):=by
 refine F.okE sc_span_at (fun vs H Q E h=>?_) (fun cdv A outer s H vs Q E hr h=>?_)
 ·obtain ⟨_,_,_,_,_,rfl,_⟩:=h;rfl
 obtain ⟨cu,dx,t,q,X,rfl,R,hA,q1,q2⟩:=h
 refine ⟨_,(Zc (Zp (i:=1) sc_span_at.nd rfl (by first | exact Or.inl rfl | exact Or.inr rfl) (Xq DB_number_at hr passes_fn.x (Za (pv 0) Zd)))
  (Zc (Qc (Qu MB_expect c_C hr passes_fn.x (pv 0) (Za Ze Zd)))
  (Zg (Zm (Zcc M_Span MB_Span hr passes_fn.x (Za (pv 1) (Za (Xq DB_number_at hr passes_fn.x (Za (pv 0) Zd)) Zd))))))),?_⟩
 try dsimp only [cxK0,cxK1,cxK2,cxK3]
 refine ⟨_,rfl,cu,dx,t,q,rfl,R,fun a r1 e1=>?_,fun e1=>(q2 (Zvg e1)).on (Mv.refl _ _)⟩
 have R1:=R.mv (Qw e1)
 refine ⟨_,rfl,cu,dx,_,rfl,R1.hc,clookm ..,cu,dx,t,Str.ofString ", ",r1,rfl,R1,(by decide +kernel),fun r2 e2=>?_,fun e2=>(q2 (Zvf e1 e2)).nt (R.mo r1) R1.hc⟩
 rw [Zef]
 have R2:=R.mv ((Yj e2).trans (Qw e1))
 refine ⟨_,rfl,_,rfl,cu,dx,t,r2,rfl,R2,fun b r3 e3=>?_,fun e3=>(q2 (Zve e1 e2 e3)).on (R.mo r2)⟩
 rw [Zef]
 have R3:=R.mv ((Qw e3).trans ((Yj e2).trans (Qw e1)))
 have m3:=R.mo r3
 have e4:=Zvd e1 e2 e3
 intro x dx' h1 h2 h12
 by_cases hab:a≤b
 ·refine .inl ⟨x,dx',a,b,rfl,Zb,hab,rfl,?_⟩
  rw [Xh]
  have E:=Ext.made (C:=c.s) (fs:=spanF a b) h1 h2 h12
  have e5:=E.s _ _ R3.hc
  exact q1.sub (.sp a b) r3 (by rw [e4,if_pos hab]) x _ (m3.ext E) e5 ⟨(hA.mv m3 R3.hc).nin h1,dx',Zb⟩
 ·have E:=Ext.made (C:=c.s) (fs:=[]) h1 h2 h12
  exact .inr ⟨x,dx',a,b,rfl,Zb,by omega,(q2 (by rw [e4,if_neg hab])).nf (m3.ext E) (E.s _ _ R3.hc)⟩
noncomputable def spLet3 (c:FC) (C NT NF:Addr):Sp:=fun vs H Q E=>∃ (cu dx:Addr) (t:Str) (q:List Nat) (X:List Addr),vs=[.ref cu]∧Rd2 H C cu dx t q∧Alloc X H∧Gd c C cu dx t X H Q (rdLet q)∧(rdLet q=none→Er cu NT NF H E)
theorem Rd2.run {H:Hp} {C cu dx:Addr} {t:Str} {q:List Nat} (R:Rd2 H C cu dx t q) (S:Str):(⟨(runS S q).toArray⟩:Str).length≤100000:=by
 have h1:=congrArg List.length (Yh S q)
 have h2:=R.len
 have h3:=R.hl
 rw [List.length_append] at h1
 show (runS S q).toArray.size≤_
 rw [List.size_toArray]
 omega
theorem Zki {f C NT NF:Addr} {c:FC} {fd:FuncData} (c_C:Cls K C) (g_LETTERS_AND_FIGURES:GlobV mg "LETTERS_AND_FIGURES" (.str L62)) (F:FunAt K mg "letters_at" Ym ["cursor"] f fd) (M_run_of:MethOk P w K mg base 2 C "run_of" ["self","signs"] (spRun2 C)) (M_Letters:MakeOk P w K mg base 2 "Letters" c.l ["self","signs"] (spLetInit c.l)) (MB_Letters:MakeOkE P w K mg base 2 "Letters" c.l ["self","signs"] (spLetBad NF c.l)):DefOkE P w K mg base 4 "letters_at" ["cursor"] (spLet3 c C NT NF):=by
 refine F.okE Zne (fun vs H Q E h=>?_) (fun cdv A outer s H vs Q E hr h=>?_)
 ·obtain ⟨_,_,_,_,_,rfl,_⟩:=h;rfl
 obtain ⟨cu,dx,t,q,X,rfl,R,hA,q1,q2⟩:=h
 refine ⟨_,(Zg (Zm (Zcc M_Letters MB_Letters hr passes_fn.x (Za (Jx M_run_of c_C hr (pv 0) (Za (Xc g_LETTERS_AND_FIGURES) Zd)) Zd)))),?_⟩
 try dsimp only [cxK0,cxK1,cxK2,cxK3]
 refine ⟨_,rfl,cu,dx,_,rfl,R.hc,clookm ..,cu,dx,t,L62,q,rfl,R,?_⟩
 have R3:=R.mv (Jl L62 q)
 have m3:=R.mo (offS L62 q)
 have hl:=R.run L62
 have e4:rdLet q=if goodText ⟨(runS L62 q).toArray⟩=true then some (.le ⟨(runS L62 q).toArray⟩,offS L62 q) else none:=rfl
 intro x dx' h1 h2 h12
 cases hg:goodText ⟨(runS L62 q).toArray⟩ with
 | true =>
  refine .inl ⟨x,dx',_,rfl,Zb,hl,hg,rfl,?_⟩
  rw [Xh]
  have E:=Ext.made (C:=c.l) (fs:=letF ⟨(runS L62 q).toArray⟩) h1 h2 h12
  have e5:=E.s _ _ R3.hc
  exact q1.sub (.le ⟨(runS L62 q).toArray⟩) (offS L62 q) (by rw [e4,if_pos hg]) x _ (m3.ext E) e5 ⟨(hA.mv m3 R3.hc).nin h1,dx',Zb⟩
 | false =>
  have E:=Ext.made (C:=c.l) (fs:=[]) h1 h2 h12
  exact .inr ⟨x,dx',_,rfl,Zb,hl,hg,(q2 (by rw [e4,hg];rfl)).nf (m3.ext E) (E.s _ _ R3.hc)⟩
noncomputable def spForm3 (c:FC) (C NT NF:Addr) (n:Nat):Sp:=fun vs H Q E=>∃ (cu dx:Addr) (t:Str) (q:List Nat) (dep:Nat) (X:List Addr),vs=[.ref cu,.int ((dep:Nat):Int)]∧Rd2 H C cu dx t q∧dep+n=9∧cu∈X∧Alloc X H∧Gd c C cu dx t X H Q (rdForm n q)∧(rdForm n q=none→Er cu NT NF H E)
noncomputable def spBrk3 (c:FC) (C NT NF:Addr) (n:Nat):Sp:=fun vs H Q E=>∃ (cu dx:Addr) (t w:Str) (q:List Nat) (dep:Nat) (X:List Addr),vs=[.ref cu,.str w,.int ((dep:Nat):Int)]∧Rd2 H C cu dx t q∧dep+1+n=9∧cu∈X∧Alloc X H∧Gd c C cu dx t X H Q (rdBrk (rdForm n) w q)∧(rdBrk (rdForm n) w q=none→Er cu NT NF H E)
noncomputable def spPart3 (c:FC) (C NT NF:Addr) (n:Nat):Sp:=fun vs H Q E=>∃ (cu dx:Addr) (t:Str) (q:List Nat) (dep:Nat) (X:List Addr),vs=[.ref cu,.int ((dep:Nat):Int)]∧Rd2 H C cu dx t q∧dep+n=9∧cu∈X∧Alloc X H∧
 (∀ p q',rdPart (rdForm n) q=some (p,q')→∀ T o H',Mv cu H H'→H' cu=some (curO C dx t (t.length - q'.length))→H T=none→H' T=some (.tup [.str p.1,.ref o])→FAt c X H' p.2 o→Q (.ref T) H')∧(rdPart (rdForm n) q=none→Er cu NT NF H E)
theorem Zwe {f C NT NF:Addr} {c:FC} {fd:FuncData} {n:Nat} (c_C:Cls K C) (g_SMALL_LETTERS:GlobV mg "SMALL_LETTERS" (.str L26)) (F:FunAt K mg "part_at" Wy ["cursor","depth"] f fd) (M_run_of:MethOk P w K mg base 2 C "run_of" ["self","signs"] (spRun2 C)) (MB_expect:MethOkE P w K mg base 2 C "expect" ["self","words"] (spExp2 C NT))
  (DB_form_at:DefOkE P w K mg base (4*n+8) "form_at" ["cursor","depth"] (spForm3 c C NT NF n)):DefOkE P w K mg base (4*n+8+1) "part_at" ["cursor","depth"] (spPart3 c C NT NF n):=by
 refine F.okE sc_part_at (fun vs H Q E h=>?_) (fun cdv A outer s H vs Q E hr h=>?_)
 ·obtain ⟨_,_,_,_,_,_,rfl,_⟩:=h;rfl
 obtain ⟨cu,dx,t,q,dep,X,rfl,R,hdep,hcX,hA,q1,q2⟩:=h
 refine ⟨_,(Zc (Zp (i:=2) sc_part_at.nd rfl (by first | exact Or.inl rfl | exact Or.inr rfl) (Jx M_run_of c_C hr (pv 0) (Za (Xc g_SMALL_LETTERS) Zd) (hk:=by omega)))
  (Zc (Qc (Qu MB_expect c_C hr passes_fn.x (pv 0) (Za Ze Zd) (hk':=by omega)))
  (Zg (Zm (Zch (Za (pv 2) (Za (Xq DB_form_at hr passes_fn.x (Za (pv 0) (Za (pv 1) Zd)) (hk:=by omega)) Zd))))))),?_⟩
 try dsimp only [cxK0,cxK1,cxK2,cxK3]
 refine ⟨_,rfl,cu,dx,_,rfl,R.hc,clookm ..,cu,dx,t,L26,q,rfl,R,?_⟩
 have R1:=R.mv (Jl L26 q)
 refine ⟨_,rfl,cu,dx,_,rfl,R1.hc,clookm ..,cu,dx,t,Str.ofString " ",offS L26 q,rfl,R1,(by decide +kernel),fun r e1=>?_,fun e1=>(q2 (Xgi e1)).nt (R.mo _) R1.hc⟩
 rw [Zef]
 have R2:=R.mv ((Yj e1).trans (Jl L26 q))
 have m2:=R.mo r
 generalize mvC H C cu dx t r=H2 at R2 m2 ⊢
 refine ⟨_,rfl,_,rfl,_,rfl,cu,dx,t,r,dep,X,rfl,R2,hdep,hcX,hA.mv m2 R2.hc,fun fm q' e2 o H' m3 e3 hF=>⟨Zjb,fun T hT=>?_⟩,fun e2=>(q2 (Xgh e1 e2)).on m2⟩
 have m4:=m2.trans m3
 have E:=Ext.tup (xs:=[V.str ⟨(runS L26 q).toArray⟩,V.ref o]) hT
 have e4:=E.s _ _ e3
 refine ⟨_,(m4.ext E).sub e4,q1 _ _ (Xgg e1 e2) T o _ (m4.ext E) e4 (m4.free e3 hT) Zb ?_⟩
 exact FAt.keep (fun b u _ e=>E.s b u e) fm hF
noncomputable def spParts3 (c:FC) (C NT NF:Addr) (n:Nat):Sp:=fun vs H Q E=>∃ (cu dx:Addr) (t:Str) (q:List Nat) (dep:Nat) (X:List Addr),vs=[.ref cu,.int ((dep:Nat):Int)]∧Rd2 H C cu dx t q∧dep+n=9∧cu∈X∧Alloc X H∧
 (∀ l q',rdPs (rdForm n) (q.length+1) q=some (l,q')→∀ p ps H',Mv cu H H'→H' cu=some (curO C dx t (t.length - q'.length))→Parts H' p ps→nms ps=l.map Prod.fst→FsAt c X H' (l.map Prod.snd) (fms ps)→Q (.ref p) H')∧(rdPs (rdForm n) (q.length+1) q=none→Er cu NT NF H E)
structure Pts3 (c:FC) (C cu dx l:Addr) (t:Str) (X:List Addr) (n:Nat) (q:List Nat) (m:Nat) (H:Hp) (l0:List (Str×Fm)) (ps:List (Addr×Str×Addr)) (q1:List Nat):Prop where
 pf:FsAt c (l::X) H (l0.map Prod.snd) (fms ps)
 pn:nms ps=l0.map Prod.fst
 pl:H l=some (.lst (ps.map fun x=>V.ref x.1))
 pt:∀ x,x∈ps→H x.1=some (.tup [.str x.2.1,.ref x.2.2])
 pr:Rd2 H C cu dx t q1
 pe:rdPs (rdForm n) (q.length+1) q=restP (rdForm n) l0 m q1
 pm:q1.length≤m
 pz:l0.length+q1.length≤q.length
 pb:∀ x,x∈l0→x.1.length≤100000
 pa:Alloc (l::X) H
set_option maxHeartbeats 4000000 in
theorem Ztb {f C NT NF:Addr} {c:FC} {fd:FuncData} {n:Nat} (c_C:Cls K C) (F:FunAt K mg "parts_at" Wh ["cursor","depth"] f fd) (M_skip:MethOk P w K mg base 1 C "skip" ["self","words"] (spSkip2 C))
  (DB_part_at:DefOkE P w K mg base (4*n+9) "part_at" ["cursor","depth"] (spPart3 c C NT NF n)):DefOkE P w K mg base (4*n+9+1) "parts_at" ["cursor","depth"] (spParts3 c C NT NF n):=by
 refine F.okE sc_parts_at (fun vs H Q E h=>?_) (fun cdv A outer s H vs Q E hr h=>?_)
 ·obtain ⟨_,_,_,_,_,_,rfl,_⟩:=h;rfl
 obtain ⟨cu,dx,t,q,dep,X,rfl,R,hdep,hcX,hA,q1,q2⟩:=h
 refine ⟨_,(Zc (Zp (i:=2) sc_parts_at.nd rfl (by first | exact Or.inl rfl | exact Or.inr rfl) (Xb (Za (Xq DB_part_at hr passes_fn.x (Za (pv 0) (Za (pv 1) Zd)) (hk:=by omega)) Zd)))
  (Zc (Qi PassesOwn.leaving (Xv (Jx M_skip c_C hr (pv 0) (Za Ze Zd) (hk:=by omega)) (fun _=>rfl))
   (Zg (Qc (Zcg PySem.F.plainAttrs_list PySem.F.slot_list_append PySem.F.type_list_append Zce (pv 2) (Za (Xq DB_part_at hr passes_fn.x (Za (pv 0) (Za (pv 1) Zd)) (hk:=by omega)) Zd)))))
  (Zg (Zm (pv 2))))),?_⟩
 try dsimp only [cxK0,cxK1,cxK2,cxK3]
 refine ⟨_,rfl,_,rfl,cu,dx,t,q,dep,X,rfl,R,hdep,hcX,hA,fun p0 r0 e0 T o H1 m1 e1 hT hT1 hF=>⟨Ya,fun l hl=>?_⟩,fun e0=>(q2 (by rw [rdPs,e0];rfl)).on (Mv.refl _ _)⟩
 have El:=Ext.lst (xs:=[V.ref T]) hl
 have hA1:=hA.mv m1 e1
 have lcu:l≠cu:=fun z=>by rw [z,e1] at hl;cases hl
 have hlX:l∉X:=hA1.nin hl
 have hl0:H l=none:=m1.free e1 hl
 obtain ⟨s0,s1,s2⟩:=Zjd e0
 have R1:=R.on s0 e1
 have hql:=R.len
 have htl:=R.hl
 refine ⟨fun m σ H2=>∃ l0 ps q3,σ=[some (.ref cu),some (.int ((dep:Nat):Int)),some (.ref l)]∧Mv cu H H2∧Pts3 c C cu dx l t X n q m H2 l0 ps q3,⟨q.length,[p0],[(T,p0.1,o)],r0,rfl,m1.ext El,?_⟩,?_⟩
 ·refine ⟨⟨o,[],rfl,FAt.keep (fun b u _ e=>El.s b u e) p0.2 (FAt.add hl p0.2 hF),rfl⟩,rfl,Zb,fun x hx=>?_,R.on s0 (El.s _ _ e1),Xof e0,by omega,by rw [List.length_singleton];omega,fun x hx=>by rw [List.mem_singleton.mp hx];omega,?_⟩
  ·rw [List.mem_singleton.mp hx];exact El.s _ _ hT1
  ·intro x hx
   rcases List.mem_cons.mp hx with z | z
   ·rw [z,Zb];exact fun y=>by cases y
   ·exact (hA1.ext El) x z
 rintro m σ H2 ⟨l0,ps,q3,rfl,m2,I⟩
 refine ⟨_,rfl,cu,dx,_,rfl,I.pr.hc,clookm ..,cu,dx,t,Str.ofString ", ",q3,rfl,I.pr,(by decide +kernel),fun q4 e4=>⟨true,rfl,iteT ?_⟩,fun e4=>⟨false,rfl,iteF ?_⟩⟩
 ·obtain ⟨m',rfl⟩:∃ m',m=m'+1:=by
   have h1:=congrArg List.length (Yc e4)
   rw [List.length_append,show (Str.ofString ", ").cps.toList.length=2 by decide +kernel] at h1
   have:=I.pm
   exact ⟨m - 1,by omega⟩
  have h42:q4.length+2=q3.length:=by
   have h1:=congrArg List.length (Yc e4)
   rw [List.length_append,show (Str.ofString ", ").cps.toList.length=2 by decide +kernel] at h1
   omega
  have R3:=I.pr.mv (Yj e4)
  have m3:=m2.trans (I.pr.mo q4)
  have hl3:mvC H2 C cu dx t q4 l=some (.lst (ps.map fun x=>V.ref x.1)):=by unfold mvC;rw [Zn lcu];exact I.pl
  have k3:∀ b u,b≠cu→H2 b=some u→mvC H2 C cu dx t q4 b=some u:=fun b u nb e=>by unfold mvC;rw [Zn nb];exact e
  have hA3:Alloc (l::X) (mvC H2 C cu dx t q4):=I.pa.mv (I.pr.mo q4) R3.hc
  generalize mvC H2 C cu dx t q4=H3 at R3 m3 hl3 k3 hA3 ⊢
  refine ⟨fun σ' H'=>∃ m'',m''<m'+1∧∃ l0 ps q3,σ'=[some (.ref cu),some (.int ((dep:Nat):Int)),some (.ref l)]∧Mv cu H H'∧Pts3 c C cu dx l t X n q m'' H' l0 ps q3,fun _ _ h=>h,?_⟩
  refine ⟨_,rfl,.inl ⟨rfl,_,SqL.of hl3⟩,_,rfl,_,rfl,cu,dx,t,q4,dep,l::X,rfl,R3,hdep,List.mem_cons_of_mem _ hcX,hA3,fun p5 q5 e5 T4 o4 H4 m4 e6 hT4 hT5 hF4=>?_,fun e5=>(q2 (by rw [I.pe,Xod e4 e5])).on m3⟩
  obtain ⟨t0,t1,t2⟩:=Zjd e5
  have hz:=I.pz
  have hm:=I.pm
  have hl4:=m4.k _ _ lcu hl3
  have hpl:ps.length=l0.length:=by have:=congrArg List.length I.pn;unfold nms at this;rwa [List.length_map,List.length_map] at this
  refine ⟨l,_,_,rfl,rfl,hl4,(by rw [List.length_map];exact Nat.lt_of_lt_of_le (show ps.length<100001 by omega) (by decide)),?_⟩
  have nTl:T4≠l:=fun z=>by rw [z,hl3] at hT4;cases hT4
  have kk:∀ b u,b∉l::X→H2 b=some u→upd H4 l (.lst ((ps.map fun x=>V.ref x.1)++[V.ref T4])) b=some u:=fun b u nb e=>by
   have n1:b≠l:=fun z=>nb (by rw [z];exact List.mem_cons_self ..)
   have n2:b≠cu:=fun z=>nb (by rw [z];exact List.mem_cons_of_mem _ hcX)
   rw [Zn n1];exact m4.k b u n2 (k3 b u n2 e)
  have k4:∀ b u,b∉l::X→H4 b=some u→upd H4 l (.lst ((ps.map fun x=>V.ref x.1)++[V.ref T4])) b=some u:=fun b u nb e=>by
   rw [Zn (fun z=>nb (by rw [z];exact List.mem_cons_self ..))];exact e
  have e7:upd H4 l (.lst ((ps.map fun x=>V.ref x.1)++[V.ref T4])) cu=some (curO C dx t (t.length - q5.length)):=by rw [Zn (Ne.symm lcu)];exact e6
  refine ⟨m',Nat.lt_succ_self _,l0++[p5],ps++[(T4,p5.1,o4)],q5,rfl,?_,?_⟩
  ·have m5:=m3.trans m4
   exact ⟨fun b u nb e=>by rw [Zn (Zt e hl0)];exact m5.k b u nb e,fun cl=>Zdc hl4 (m5.c cl)⟩
  ·refine ⟨?_,?_,?_,fun x hx=>?_,R3.on t0 e7,by rw [I.pe,Xoc e4 e5],by omega,by rw [List.length_append,List.length_singleton];omega,fun x hx=>?_,fun x hx=>?_⟩
   ·unfold fms
    rw [List.map_append,List.map_append]
    exact FsAt.snoc (FAt.keep k4 p5.2 hF4) _ (FsAt.keep kk _ I.pf)
   ·have:=I.pn
    unfold nms at this ⊢
    rw [List.map_append,List.map_append,this];rfl
   ·rw [Zb,List.map_append];rfl
   ·rcases List.mem_append.mp hx with y | y
    ·have hx2:=I.pt x y
     have n1':x.1≠l:=fun z=>by rw [z,I.pl] at hx2;cases hx2
     have n2':x.1≠cu:=fun z=>by rw [z,I.pr.hc] at hx2;cases hx2
     rw [Zn n1'];exact m4.k _ _ n2' (k3 _ _ n2' hx2)
    ·rw [List.mem_singleton.mp y]
     show upd H4 l _ T4=_
     rw [Zn nTl];exact hT5
   ·rcases List.mem_append.mp hx with y | y
    ·exact I.pb x y
    ·rw [List.mem_singleton.mp y];have:=R3.len;omega
   ·by_cases z:x=l
    ·rw [z,Zb];exact fun y=>by cases y
    ·rw [Zn z];exact (hA3.mv m4 e6) x hx
 ·have hz:=I.pz
  have hpl:ps.length=l0.length:=by have:=congrArg List.length I.pn;unfold nms at this;rwa [List.length_map,List.length_map] at this
  refine ⟨_,rfl,_,m2.sub I.pr.hc,q1 l0 q3 (by rw [I.pe,Xoe e4]) l ps H2 m2 I.pr.hc ⟨I.pl,I.pt,by omega,fun x hx=>?_⟩ I.pn (FsAt.weak (fun x hx=>List.mem_cons_of_mem _ hx) _ I.pf)⟩
  have h1:x.2.1∈l0.map Prod.fst:=by rw [← I.pn];exact List.mem_map.mpr ⟨x,hx,rfl⟩
  obtain ⟨y,hy,e⟩:=List.mem_map.mp h1
  rw [← e];exact I.pb y hy
set_option maxHeartbeats 4000000 in
theorem Zod {f C NT NF:Addr} {c:FC} {fd:FuncData} {n:Nat} (xi_NoText:PySem.W.excIn K NT bmV "ValueError.__new__"=true) (gm_NoText:mg "NoText"=some (.ref NT)) (F:FunAt K mg "bracketed_form_at" Xa ["cursor","word","depth"] f fd) (DB_span_at:DefOkE P w K mg base 4 "span_at" ["cursor"] (spSpan3 c C NT NF)) (DB_letters_at:DefOkE P w K mg base 4 "letters_at" ["cursor"] (spLet3 c C NT NF)) (DB_form_at:DefOkE P w K mg base (4*n+8) "form_at" ["cursor","depth"] (spForm3 c C NT NF n)) (DB_parts_at:DefOkE P w K mg base (4*n+10) "parts_at" ["cursor","depth"] (spParts3 c C NT NF n))
  (M_Record:MakeOk P w K mg base 4 "Record" (c.t 0) ["self","parts"] (spTwoInit (c.t 0))) (MB_Record:MakeOkE P w K mg base 4 "Record" (c.t 0) ["self","parts"] (spTwoBad NF (c.t 0))) (M_Choice:MakeOk P w K mg base 4 "Choice" (c.t 1) ["self","cases"] (spTwoInit (c.t 1))) (MB_Choice:MakeOkE P w K mg base 4 "Choice" (c.t 1) ["self","cases"] (spTwoBad NF (c.t 1)))
  (M_Maybe:MakeOk P w K mg base 1 "Maybe" (c.o 0) ["self","inner"] (spOneInit (c.o 0))) (M_Many:MakeOk P w K mg base 1 "Many" (c.o 1) ["self","inner"] (spOneInit (c.o 1))) (M_Turned:MakeOk P w K mg base 1 "Turned" (c.o 2) ["self","inner"] (spOneInit (c.o 2))) :
  DefOkE P w K mg base (4*n+10+1) "bracketed_form_at" ["cursor","word","depth"] (spBrk3 c C NT NF n):=by
 refine F.okE Ju (fun vs H Q E h=>?_) (fun cdv A outer s H vs Q E hr h=>?_)
 ·obtain ⟨_,_,_,_,_,_,_,rfl,_⟩:=h;rfl
 obtain ⟨cu,dx,t,ww,q,dep,X,rfl,R,hdep,hcX,hA,q1,q2⟩:=h
 refine ⟨_,(Zc (Zs (Zi oEq (pv 1) Ze (nomark _)) (Zg (Zm (Xq DB_span_at hr passes_fn.x (Za (pv 0) Zd) (hk:=by omega)))) Zl)
  (Zc (Zs (Zi oEq (pv 1) Ze (nomark _)) (Zg (Zm (Xq DB_letters_at hr passes_fn.x (Za (pv 0) Zd) (hk:=by omega)))) Zl)
  (Zc (Zs (Zi oEq (pv 1) Ze (nomark _)) (Zg (Zm (Zeb M_Maybe hr (Za (Xq DB_form_at hr passes_fn.x (Za (pv 0) (Za (Zh oAdd (pv 2) Zf) Zd)) (hk:=by omega)) Zd) (hk:=by omega)))) Zl)
  (Zc (Zs (Zi oEq (pv 1) Ze (nomark _)) (Zg (Zm (Zeb M_Many hr (Za (Xq DB_form_at hr passes_fn.x (Za (pv 0) (Za (Zh oAdd (pv 2) Zf) Zd)) (hk:=by omega)) Zd) (hk:=by omega)))) Zl)
  (Zc (Zs (Zi oEq (pv 1) Ze (nomark _)) (Zg (Zm (Zcc M_Record MB_Record hr passes_fn.x (Za (Xq DB_parts_at hr passes_fn.x (Za (pv 0) (Za (Zh oAdd (pv 2) Zf) Zd)) (hk:=by omega)) Zd) (hk:=by omega) (hk':=by omega)))) Zl)
  (Zc (Zs (Zi oEq (pv 1) Ze (nomark _)) (Zg (Zm (Zcc M_Choice MB_Choice hr passes_fn.x (Za (Xq DB_parts_at hr passes_fn.x (Za (pv 0) (Za (Zh oAdd (pv 2) Zf) Zd)) (hk:=by omega)) Zd) (hk:=by omega) (hk':=by omega)))) Zl)
  (Zc (Zs (Zi oEq (pv 1) Ze (nomark _)) (Zg (Zm (Zeb M_Turned hr (Za (Xq DB_form_at hr passes_fn.x (Za (pv 0) (Za (Zh oAdd (pv 2) Zf) Zd)) (hk:=by omega)) Zd) (hk:=by omega)))) Zl)
  (Zg (Qj Xw xi_NoText gm_NoText hr.hd (Za Ze Zd)))))))))),?_⟩
 try dsimp only [cxK0,cxK1,cxK2,cxK3]
 unfold rdBrk at q1 q2
 refine ⟨_,rfl,rfl,_,rfl,iteD (fun z=>?_) (fun z0=>?_)⟩
 ·rw [if_pos (V.str.inj z)] at q1 q2
  exact ⟨_,rfl,cu,dx,t,q,X,rfl,R,hA,q1.sub,fun e=>(q2 e).on (Mv.refl _ _)⟩
 rw [if_neg (fun z=>z0 (by rw [z]))] at q1 q2
 clear z0
 refine ⟨_,rfl,rfl,_,rfl,iteD (fun z=>?_) (fun z0=>?_)⟩
 ·rw [if_pos (V.str.inj z)] at q1 q2
  exact ⟨_,rfl,cu,dx,t,q,X,rfl,R,hA,q1.sub,fun e=>(q2 e).on (Mv.refl _ _)⟩
 rw [if_neg (fun z=>z0 (by rw [z]))] at q1 q2
 clear z0
 refine ⟨_,rfl,rfl,_,rfl,iteD (fun z=>?_) (fun z0=>?_)⟩
 ·rw [if_pos (show ww=ow 0 from V.str.inj z)] at q1 q2
  obtain ⟨kk,hkk⟩:∃ kk:Fin 3,kk=0:=⟨_,rfl⟩
  rw [← hkk] at q1 q2
  obtain ⟨CC,hCC⟩:∃ CC,CC=c.o kk:=⟨_,rfl⟩
  rw [← hkk,← hCC]
  refine ⟨_,rfl,_,rfl,.inl ⟨_,_,rfl,rfl,cu,dx,t,q,dep+1,X,rfl,R,hdep,hcX,hA,fun fi q' e i H1 m1 e1 hF=>?_,fun e=>(q2 (by unfold rdOne;rw [e];rfl)).on (Mv.refl _ _)⟩⟩
  intro x dx' h1 h2 h12
  refine ⟨x,dx',i,rfl,Zb,rfl,?_⟩
  rw [Xh]
  have E:=Ext.made (C:=CC) (fs:=[("inner",V.ref i)]) h1 h2 h12
  exact q1.sub (.one kk fi) q' (by unfold rdOne;rw [e];rfl) x _ (m1.ext E) (E.s _ _ e1) ⟨(hA.mv m1 e1).nin h1,dx',i,by rw [← hCC];exact Zb,FAt.keep (fun b u _ e=>E.s b u e) fi hF⟩
 rw [if_neg (show ¬ww=ow 0 from fun z=>z0 (by rw [z];rfl))] at q1 q2
 clear z0
 refine ⟨_,rfl,rfl,_,rfl,iteD (fun z=>?_) (fun z0=>?_)⟩
 ·rw [if_pos (show ww=ow 1 from V.str.inj z)] at q1 q2
  obtain ⟨kk,hkk⟩:∃ kk:Fin 3,kk=1:=⟨_,rfl⟩
  rw [← hkk] at q1 q2
  obtain ⟨CC,hCC⟩:∃ CC,CC=c.o kk:=⟨_,rfl⟩
  rw [← hkk,← hCC]
  refine ⟨_,rfl,_,rfl,.inl ⟨_,_,rfl,rfl,cu,dx,t,q,dep+1,X,rfl,R,hdep,hcX,hA,fun fi q' e i H1 m1 e1 hF=>?_,fun e=>(q2 (by unfold rdOne;rw [e];rfl)).on (Mv.refl _ _)⟩⟩
  intro x dx' h1 h2 h12
  refine ⟨x,dx',i,rfl,Zb,rfl,?_⟩
  rw [Xh]
  have E:=Ext.made (C:=CC) (fs:=[("inner",V.ref i)]) h1 h2 h12
  exact q1.sub (.one kk fi) q' (by unfold rdOne;rw [e];rfl) x _ (m1.ext E) (E.s _ _ e1) ⟨(hA.mv m1 e1).nin h1,dx',i,by rw [← hCC];exact Zb,FAt.keep (fun b u _ e=>E.s b u e) fi hF⟩
 rw [if_neg (show ¬ww=ow 1 from fun z=>z0 (by rw [z];rfl))] at q1 q2
 clear z0
 refine ⟨_,rfl,rfl,_,rfl,iteD (fun z=>?_) (fun z0=>?_)⟩
 ·rw [if_pos (show ww=tw 0 from V.str.inj z)] at q1 q2
  obtain ⟨kk,hkk⟩:∃ kk:Fin 2,kk=0:=⟨_,rfl⟩
  rw [← hkk] at q1 q2
  obtain ⟨CC,hCC⟩:∃ CC,CC=c.t kk:=⟨_,rfl⟩
  rw [← hkk,← hCC]
  refine ⟨_,rfl,_,rfl,.inl ⟨_,_,rfl,rfl,cu,dx,t,q,dep+1,X,rfl,R,hdep,hcX,hA,fun l q' e p ps H1 m1 e1 hP hnm hF=>?_,fun e=>(q2 (by unfold rdTwo;rw [e];rfl)).on (Mv.refl _ _)⟩⟩
  intro y dx' hy hdx hne'
  have E1:=Ext.made (C:=CC) (fs:=[]) hy hdx hne'
  have e4:rdTwo (rdForm n) kk q=if goodNames (l.map Prod.fst)=true then some (.two kk (l.map Prod.fst) (l.map Prod.snd),q') else none:=by unfold rdTwo;rw [e];rfl
  cases hg:goodNames (l.map Prod.fst) with
  | false=>exact .inr ⟨y,dx',p,ps,rfl,Zb,hP.same E1.s,by rw [hnm];exact hg,(q2 (by rw [e4,hg];rfl)).nf (m1.ext E1) (E1.s _ _ e1)⟩
  | true =>
  refine .inl ⟨y,dx',p,ps,rfl,Zb,hP.same E1.s,by rw [hnm];exact hg,fun l1 l2 h1 h2 h12=>⟨rfl,?_⟩⟩
  have n1:l1≠y:=fun z=>by rw [z,Zb] at h1;cases h1
  have n2:l2≠y:=fun z=>by rw [z,Zb] at h2;cases h2
  rw [Qt n2,Qt n1,Xh]
  have F1:=Ext.made (C:=CC) (fs:=twoF l1 l2) hy hdx hne'
  have g1:upd (upd H1 dx' (.own y)) y (.ins CC dx' (twoF l1 l2)) l1=none:=by rw [Zn n1] at h1 ⊢;exact h1
  have F2:=Ext.lst (xs:=(nms ps).map V.str) g1
  have g2:upd (upd (upd H1 dx' (.own y)) y (.ins CC dx' (twoF l1 l2))) l1 (.lst ((nms ps).map V.str)) l2=none:=by rw [Zn (Ne.symm h12)];rw [Zn n2] at h2 ⊢;exact h2
  have F3:=Ext.lst (xs:=(fms ps).map V.ref) g2
  have E:=(F1.trans F2).trans F3
  have hA1:=hA.mv m1 e1
  exact q1.sub (.two kk (l.map Prod.fst) (l.map Prod.snd)) q' (by rw [e4,if_pos hg]) y _ (m1.ext E) (E.s _ _ e1) ⟨hA1.nin hy,dx',l1,l2,fms ps,by rw [← hCC];exact (F2.trans F3).s _ _ Zb,hA1.nin (F1.s.free g1),hA1.nin ((F1.trans F2).s.free g2),by rw [← hnm];exact F3.s _ _ Zb,Zb,FsAt.keep (fun b u _ e=>E.s b u e) _ hF⟩
 rw [if_neg (show ¬ww=tw 0 from fun z=>z0 (by rw [z];rfl))] at q1 q2
 clear z0
 refine ⟨_,rfl,rfl,_,rfl,iteD (fun z=>?_) (fun z0=>?_)⟩
 ·rw [if_pos (show ww=tw 1 from V.str.inj z)] at q1 q2
  obtain ⟨kk,hkk⟩:∃ kk:Fin 2,kk=1:=⟨_,rfl⟩
  rw [← hkk] at q1 q2
  obtain ⟨CC,hCC⟩:∃ CC,CC=c.t kk:=⟨_,rfl⟩
  rw [← hkk,← hCC]
  refine ⟨_,rfl,_,rfl,.inl ⟨_,_,rfl,rfl,cu,dx,t,q,dep+1,X,rfl,R,hdep,hcX,hA,fun l q' e p ps H1 m1 e1 hP hnm hF=>?_,fun e=>(q2 (by unfold rdTwo;rw [e];rfl)).on (Mv.refl _ _)⟩⟩
  intro y dx' hy hdx hne'
  have E1:=Ext.made (C:=CC) (fs:=[]) hy hdx hne'
  have e4:rdTwo (rdForm n) kk q=if goodNames (l.map Prod.fst)=true then some (.two kk (l.map Prod.fst) (l.map Prod.snd),q') else none:=by unfold rdTwo;rw [e];rfl
  cases hg:goodNames (l.map Prod.fst) with
  | false=>exact .inr ⟨y,dx',p,ps,rfl,Zb,hP.same E1.s,by rw [hnm];exact hg,(q2 (by rw [e4,hg];rfl)).nf (m1.ext E1) (E1.s _ _ e1)⟩
  | true =>
  refine .inl ⟨y,dx',p,ps,rfl,Zb,hP.same E1.s,by rw [hnm];exact hg,fun l1 l2 h1 h2 h12=>⟨rfl,?_⟩⟩
  have n1:l1≠y:=fun z=>by rw [z,Zb] at h1;cases h1
  have n2:l2≠y:=fun z=>by rw [z,Zb] at h2;cases h2
  rw [Qt n2,Qt n1,Xh]
  have F1:=Ext.made (C:=CC) (fs:=twoF l1 l2) hy hdx hne'
  have g1:upd (upd H1 dx' (.own y)) y (.ins CC dx' (twoF l1 l2)) l1=none:=by rw [Zn n1] at h1 ⊢;exact h1
  have F2:=Ext.lst (xs:=(nms ps).map V.str) g1
  have g2:upd (upd (upd H1 dx' (.own y)) y (.ins CC dx' (twoF l1 l2))) l1 (.lst ((nms ps).map V.str)) l2=none:=by rw [Zn (Ne.symm h12)];rw [Zn n2] at h2 ⊢;exact h2
  have F3:=Ext.lst (xs:=(fms ps).map V.ref) g2
  have E:=(F1.trans F2).trans F3
  have hA1:=hA.mv m1 e1
  exact q1.sub (.two kk (l.map Prod.fst) (l.map Prod.snd)) q' (by rw [e4,if_pos hg]) y _ (m1.ext E) (E.s _ _ e1) ⟨hA1.nin hy,dx',l1,l2,fms ps,by rw [← hCC];exact (F2.trans F3).s _ _ Zb,hA1.nin (F1.s.free g1),hA1.nin ((F1.trans F2).s.free g2),by rw [← hnm];exact F3.s _ _ Zb,Zb,FsAt.keep (fun b u _ e=>E.s b u e) _ hF⟩
 rw [if_neg (show ¬ww=tw 1 from fun z=>z0 (by rw [z];rfl))] at q1 q2
 clear z0
 refine ⟨_,rfl,rfl,_,rfl,iteD (fun z=>?_) (fun z0=>?_)⟩
 ·rw [if_pos (show ww=ow 2 from V.str.inj z)] at q1 q2
  obtain ⟨kk,hkk⟩:∃ kk:Fin 3,kk=2:=⟨_,rfl⟩
  rw [← hkk] at q1 q2
  obtain ⟨CC,hCC⟩:∃ CC,CC=c.o kk:=⟨_,rfl⟩
  rw [← hkk,← hCC]
  refine ⟨_,rfl,_,rfl,.inl ⟨_,_,rfl,rfl,cu,dx,t,q,dep+1,X,rfl,R,hdep,hcX,hA,fun fi q' e i H1 m1 e1 hF=>?_,fun e=>(q2 (by unfold rdOne;rw [e];rfl)).on (Mv.refl _ _)⟩⟩
  intro x dx' h1 h2 h12
  refine ⟨x,dx',i,rfl,Zb,rfl,?_⟩
  rw [Xh]
  have E:=Ext.made (C:=CC) (fs:=[("inner",V.ref i)]) h1 h2 h12
  exact q1.sub (.one kk fi) q' (by unfold rdOne;rw [e];rfl) x _ (m1.ext E) (E.s _ _ e1) ⟨(hA.mv m1 e1).nin h1,dx',i,by rw [← hCC];exact Zb,FAt.keep (fun b u _ e=>E.s b u e) fi hF⟩
 rw [if_neg (show ¬ww=ow 2 from fun z=>z0 (by rw [z];rfl))] at q2
 exact ⟨Ya,(q2 rfl).nt (Mv.refl _ _) R.hc⟩
theorem Xjh {f C NT NF:Addr} {c:FC} {fd:FuncData} (xi_NoText:PySem.W.excIn K NT bmV "ValueError.__new__"=true) (gm_NoText:mg "NoText"=some (.ref NT)) (c_C:Cls K C) (g_SMALL_LETTERS:GlobV mg "SMALL_LETTERS" (.str L26)) (g_MOST_DEEP:GlobV mg "MOST_DEEP" (.int 8)) (F:FunAt K mg "form_at" Wq ["cursor","depth"] f fd) (M_run_of:MethOk P w K mg base 2 C "run_of" ["self","signs"] (spRun2 C)) (MB_expect:MethOkE P w K mg base 2 C "expect" ["self","words"] (spExp2 C NT)) (D_bare_form:DefOk P w K mg base 1 "bare_form" ["word"] (spBare3 c)) (DB_bracketed_form_at:DefOkE P w K mg base 7 "bracketed_form_at" ["cursor","word","depth"] (fun _ _ _ _=>False)):DefOkE P w K mg base 8 "form_at" ["cursor","depth"] (spForm3 c C NT NF 0):=by
 refine F.okE sc_form_at (fun vs H Q E h=>?_) (fun cdv A outer s H vs Q E hr h=>?_)
 ·obtain ⟨_,_,_,_,_,_,rfl,_⟩:=h;rfl
 obtain ⟨cu,dx,t,q,dep,X,rfl,R,hdep,hcX,hA,q1,q2⟩:=h
 refine ⟨_,(Zc (Zs (Zi oGt (pv 1) (Xc g_MOST_DEEP) (nomark _)) (Zg (Qj Xw xi_NoText gm_NoText hr.hd (Za Ze Zd))) Zl)
  (Zc (Zp (i:=2) sc_form_at.nd rfl (by first | exact Or.inl rfl | exact Or.inr rfl) (Jx M_run_of c_C hr (pv 0) (Za (Xc g_SMALL_LETTERS) Zd) (hk:=by omega)))
  (Zc (Zp (i:=3) sc_form_at.nd rfl (by first | exact Or.inl rfl | exact Or.inr rfl) (Zo D_bare_form hr (Za (pv 2) Zd) (hk:=by omega)))
  (Zc (Zs (Zi Xib (pv 3) Zfh (nomark _)) (Zc (Qc (Qu MB_expect c_C hr passes_fn.x (pv 0) (Za Ze Zd) (hk':=by omega)))
   (Zc (Zp (i:=3) sc_form_at.nd rfl (by first | exact Or.inl rfl | exact Or.inr rfl) (Xq DB_bracketed_form_at hr passes_fn.x (Za (pv 0) (Za (pv 2) (Za (pv 1) Zd))) (hk:=by omega)))
   (Zg (Qc (Qu MB_expect c_C hr passes_fn.x (pv 0) (Za Ze Zd) (hk':=by omega)))))) Zl)
  (Zg (Zm (pv 3))))))),?_⟩
 try dsimp only [cxK0,cxK1,cxK2,cxK3]
 exact ⟨_,rfl,_,_,rfl,rfl,_,rfl,iteY (by omega) ⟨Ya,(q2 rfl).nt (Mv.refl _ _) R.hc⟩⟩
set_option maxHeartbeats 4000000 in
theorem Znc {f C NT NF:Addr} {c:FC} {fd:FuncData} {n:Nat} (xi_NoText:PySem.W.excIn K NT bmV "ValueError.__new__"=true) (gm_NoText:mg "NoText"=some (.ref NT)) (c_C:Cls K C) (g_SMALL_LETTERS:GlobV mg "SMALL_LETTERS" (.str L26)) (g_MOST_DEEP:GlobV mg "MOST_DEEP" (.int 8)) (F:FunAt K mg "form_at" Wq ["cursor","depth"] f fd) (M_run_of:MethOk P w K mg base 2 C "run_of" ["self","signs"] (spRun2 C)) (MB_expect:MethOkE P w K mg base 2 C "expect" ["self","words"] (spExp2 C NT)) (D_bare_form:DefOk P w K mg base 1 "bare_form" ["word"] (spBare3 c))
  (DB_bracketed_form_at:DefOkE P w K mg base (4*n+11) "bracketed_form_at" ["cursor","word","depth"] (spBrk3 c C NT NF n)):DefOkE P w K mg base (4*n+11+1) "form_at" ["cursor","depth"] (spForm3 c C NT NF (n+1)):=by
 refine F.okE sc_form_at (fun vs H Q E h=>?_) (fun cdv A outer s H vs Q E hr h=>?_)
 ·obtain ⟨_,_,_,_,_,_,rfl,_⟩:=h;rfl
 obtain ⟨cu,dx,t,q,dep,X,rfl,R,hdep,hcX,hA,q1,q2⟩:=h
 refine ⟨_,(Zc (Zs (Zi oGt (pv 1) (Xc g_MOST_DEEP) (nomark _)) (Zg (Qj Xw xi_NoText gm_NoText hr.hd (Za Ze Zd))) Zl)
  (Zc (Zp (i:=2) sc_form_at.nd rfl (by first | exact Or.inl rfl | exact Or.inr rfl) (Jx M_run_of c_C hr (pv 0) (Za (Xc g_SMALL_LETTERS) Zd) (hk:=by omega)))
  (Zc (Zp (i:=3) sc_form_at.nd rfl (by first | exact Or.inl rfl | exact Or.inr rfl) (Zo D_bare_form hr (Za (pv 2) Zd) (hk:=by omega)))
  (Zc (Zs (Zi Xib (pv 3) Zfh (nomark _)) (Zc (Qc (Qu MB_expect c_C hr passes_fn.x (pv 0) (Za Ze Zd) (hk':=by omega)))
   (Zc (Zp (i:=3) sc_form_at.nd rfl (by first | exact Or.inl rfl | exact Or.inr rfl) (Xq DB_bracketed_form_at hr passes_fn.x (Za (pv 0) (Za (pv 2) (Za (pv 1) Zd))) (hk:=by omega)))
   (Zg (Qc (Qu MB_expect c_C hr passes_fn.x (pv 0) (Za Ze Zd) (hk':=by omega)))))) Zl)
  (Zg (Zm (pv 3))))))),?_⟩
 try dsimp only [cxK0,cxK1,cxK2,cxK3]
 have R1:=R.mv (Jl L26 q)
 have m1:=R.mo (offS L26 q)
 refine ⟨_,rfl,_,_,rfl,rfl,_,rfl,iteN (by omega) ⟨_,rfl,cu,dx,_,rfl,R.hc,clookm ..,cu,dx,t,L26,q,rfl,R,_,rfl,_,rfl,fun k hk x dx' h1 h2 h12=>?_,fun hk=>?_⟩⟩
 ·have E:=Ext.made (C:=c.b k) (fs:=[]) h1 h2 h12
  exact ⟨_,rfl,rfl,_,rfl,iteN (fun z=>nomatch z) ⟨_,rfl,q1.sub (.bare k) _ (Zvh hk) x _ (m1.ext E) (E.s _ _ R1.hc) ⟨(hA.mv m1 R1.hc).nin h1,dx',Zb⟩⟩⟩
 refine ⟨_,rfl,rfl,_,rfl,iteY rfl ⟨_,rfl,cu,dx,_,rfl,R1.hc,clookm ..,cu,dx,t,Str.ofString "(",offS L26 q,rfl,R1,(by decide +kernel),fun r e1=>?_,fun e1=>(q2 (Zwb hk e1)).nt m1 R1.hc⟩⟩
 rw [Zef]
 have R2:=R.mv ((Yj e1).trans (Jl L26 q))
 have m2:=R.mo r
 generalize mvC H C cu dx t r=H2 at R2 m2 ⊢
 refine ⟨_,rfl,_,rfl,_,rfl,cu,dx,t,_,r,dep,X,rfl,R2,by omega,hcX,hA.mv m2 R2.hc,fun fm r2 e2 o H' m3 e3 hF=>?_,fun e2=>(q2 (Zwa hk e1 e2)).on m2⟩
 have R3:=R2.on (Xla e2) e3
 have m4:=m2.trans m3
 refine ⟨_,rfl,cu,dx,_,rfl,e3,clookm ..,cu,dx,t,Str.ofString ")",r2,rfl,R3,(by decide +kernel),fun r3 e4=>?_,fun e4=>(q2 (Zvj hk e1 e2 e4)).nt m4 e3⟩
 exact ⟨_,rfl,q1.sub fm r3 (Zvi hk e1 e2 e4) o _ (m4.trans (R3.mo r3)) Zb (FAt.keep (fun b u nb e=>by unfold mvC;rw [Zn (fun z=>nb (by rw [z];exact hcX))];exact e) fm hF)⟩
noncomputable def spFormOf3 (c:FC) (NT:Addr):Sp:=fun vs H Q E=>∃ t:Str,vs=[.str t]∧t.length≤100000∧(∀ f,rdForm 8 t.cps.toList=some (f,[])→∀ o H',Ext H H'→FAt c [] H' f o→Q (.ref o) H')∧((∀ f,rdForm 8 t.cps.toList≠some (f,[]))→∀ H',Ext H H'→E (.ref NT) none H')
theorem Zwj {f C NT C_NoForm:Addr} {c:FC} {fd:FuncData} (gm_NoForm:mg "NoForm"=some (.ref C_NoForm)) (xc_NoForm:ExcC K C_NoForm) (xt_NoForm:PySem.W.typeIn K (.ref C_NoForm)=some (.type "type")) (hno:PySem.W.mroIn K NT (.ref C_NoForm)=some false) (hyes:PySem.W.mroIn K C_NoForm (.ref C_NoForm)=some true)
  (xi_NoText:PySem.W.excIn K NT bmV "ValueError.__new__"=true) (gm_NoText:mg "NoText"=some (.ref NT)) (xc_NoText:ExcC K NT) (xt_NoText:PySem.W.typeIn K (.ref NT)=some (.type "type")) (c_C:Cls K C) (F:FunAt K mg "form_of" Ji ["text"] f fd) (M_Cursor:MakeOk P w K mg base 1 "Cursor" C ["self","text"] (spCurInit C)) (M_ended:MethOk P w K mg base 1 C "ended" ["self"] (spEnded C)) (DB_form_at:DefOkE P w K mg base 40 "form_at" ["cursor","depth"] (spForm3 c C NT C_NoForm 8)):DefOkE P w K mg base 41 "form_of" ["text"] (spFormOf3 c NT):=by
 refine F.okE sc_form_of (fun vs H Q E h=>?_) (fun cdv A outer s H vs Q E hr h=>?_)
 ·obtain ⟨_,rfl,_⟩:=h;rfl
 obtain ⟨t,rfl,hl,q1,q2⟩:=h
 obtain ⟨EH,hEH⟩:∃ EH:St→XK,EH=fun σ c d H'=>Ext H H'∧(∀ f,rdForm 8 t.cps.toList≠some (f,[]))∧((c = .ref NT∧d=none)∨(c = .ref C_NoForm∧d≠none)):=⟨_,rfl⟩
 refine ⟨_,(Zc (Zp (i:=1) sc_form_of.nd rfl (by first | exact Or.inl rfl | exact Or.inr rfl) (Zeb M_Cursor hr (Za (pv 0) Zd)))
  (Zc (Xlh (Eh:=EH) (fun _=>(Zg (Zp (i:=2) sc_form_of.nd rfl (by first | exact Or.inl rfl | exact Or.inr rfl) (Xq DB_form_at hr Zkf (Za (pv 1) (Za Zf Zd)))))) Zvc gm_NoForm xc_NoForm xt_NoForm xi_NoText xc_NoText.be xt_NoText gm_NoText (fun _ _=>(Za Ze Zd)) (fun _ _ _ _ h=>PyProof.Rows.Constant_none h))
  (Zc (Zs (Qs (Xv (Zqd M_ended c_C hr (pv 1)) (fun _=>rfl))) (Zg (Qj Xw xi_NoText gm_NoText hr.hd (Za Ze Zd))) Zl)
  (Zg (Zm (pv 2)))))),?_⟩
 try dsimp only [cxK0,cxK1,cxK2,cxK3]
 refine ⟨_,rfl,?_⟩
 intro y dx h1 h2 h12
 refine ⟨y,dx,_,rfl,Zb,rfl,?_⟩
 rw [Xh]
 have E:=Ext.made (C:=C) (fs:=curF t 0) h1 h2 h12
 have el:t.cps.toList.length=t.length:=Array.length_toList
 have e1:upd (upd H dx (.own y)) y (curO C dx t 0) y=some (curO C dx t (t.length - t.cps.toList.length)):=by rw [Zb,el,Nat.sub_self]
 generalize upd (upd H dx (.own y)) y (curO C dx t 0)=H1 at E e1 ⊢
 have ex:∀ {H':Hp},Mv y H1 H'→Ext H H':=fun m=>⟨fun b u q=>m.k b u (Zt q h1) (E.s b u q),fun cl=>m.c (E.c cl)⟩
 refine ⟨⟨_,rfl,y,dx,t,t.cps.toList,1,[y],rfl,⟨e1,List.suffix_refl _,hl⟩,rfl,List.mem_singleton.mpr rfl,(fun x hx=>by rw [List.mem_singleton.mp hx,e1];exact fun z=>by cases z),fun fm q' ef o H' m e hF=>?_,fun ef cc d H' o hc m e=>?_⟩,fun σ' C' d H' hX=>?_⟩
 ·have R:Rd2 H' C y dx t q':=⟨e,Zaf ef,hl⟩
  have hq:=R.len
  refine ⟨_,rfl,y,dx,_,rfl,e,clookm ..,y,dx,_,_,rfl,e,by omega,_,rfl,?_⟩
  cases q' with
  | nil =>
   rw [decide_eq_true (by rw [List.length_nil];omega)]
   exact iteF ⟨_,rfl,H',(ex m).sub,q1 fm ef o H' (ex m) (FAt.weak (fun x (hx:x∈[])=>by cases hx) fm hF)⟩
  | cons c0 r0 =>
   rw [List.length_cons] at hq
   rw [decide_eq_false (by rw [List.length_cons];omega)]
   exact iteT ⟨Ya,H',(ex m).sub,q2 (fun f e'=>by rw [ef] at e';cases e') H' (ex m)⟩
 ·subst hEH
  refine ⟨ex m,(fun f e'=>by rw [ef] at e';cases e'),?_⟩
  rcases hc with ⟨rfl,rfl⟩ | ⟨rfl,h⟩
  ·exact .inl ⟨rfl,rfl⟩
  ·exact .inr ⟨rfl,h⟩
 ·subst hEH
  obtain ⟨hx,hn,⟨hc,rfl⟩ | ⟨hc,hd⟩⟩:=hX
  ·injection hc with hc
   subst hc
   exact .inl ⟨hno,H',hx.sub,q2 hn H' hx⟩
  ·injection hc with hc
   subst hc
   exact .inr ⟨hyes,hd,fun a ha=>⟨Ya,rfl,H',hx.sub,q2 hn H' hx⟩⟩
theorem DefOkE.none {x:Str} {st:Stmt} {f:Addr} {fd:FuncData} {N ps:List Str} {k:Nat} {sp:Sp} (F:FunAt K mg x st ps f fd) (S:FnScope N ps (defScope st)) (h:∀ vs H Q E,¬sp vs H Q E):DefOkE P w K mg base (k+1) x ps sp :=
 F.okE S (fun vs H Q E q=>absurd q (h vs H Q E)) (fun cdv A outer s H vs Q E hr q=>absurd q (h vs H Q E))
noncomputable def spShow (c:FC) (n:Nat) (i:Sl):Sp:=fun vs H Q _=>∃ (o:Addr) (f:Fm),vs=[.ref o]∧slot f=i∧FAt c [] H f o∧okF f∧ht f≤n∧(sh f).length≤90000∧Q (.str ⟨(sh f).toArray⟩) H
theorem Jp {x:Str} {l:List Nat} (h:x.cps.toList=l):x=⟨l.toArray⟩:=by rw [← h]
theorem Qm (l:List Nat):(⟨l.toArray⟩:Str).length=l.length:=by simp [Str.length]
theorem Zcj (l:List Nat):(⟨l.toArray⟩:Str).cps.toList=l:=rfl
theorem Jm:(Str.ofString "maybe(").cps.toList=(ow 0).cps.toList++cp "("∧(Str.ofString "many(").cps.toList=(ow 1).cps.toList++cp "("∧(Str.ofString "turned(").cps.toList=(ow 2).cps.toList++cp "("∧(Str.ofString "record(").cps.toList=(tw 0).cps.toList++cp "("∧(Str.ofString "choice(").cps.toList=(tw 1).cps.toList++cp "("∧(Str.ofString "span(").cps.toList=cp "span"++cp "("∧(Str.ofString "letters(").cps.toList=cp "letters"++cp "(":=by decide +kernel
theorem Zbg {f:Fm} {k:Fin 4} (h:slot f = .b k):f = .bare k:=by
 cases f with
 | bare j=>injection h with h;rw [h]
 | sp a b=>cases h
 | le s=>cases h
 | one j f=>cases h
 | two j ns fs=>cases h
theorem Xlb {f:Fm} (h:slot f = .s):∃ a b,f = .sp a b:=by
 cases f with
 | sp a b=>exact ⟨a,b,rfl⟩
 | bare j=>cases h
 | le s=>cases h
 | one j f=>cases h
 | two j ns fs=>cases h
theorem Xlc {f:Fm} (h:slot f = .l):∃ s,f = .le s:=by
 cases f with
 | le s=>exact ⟨s,rfl⟩
 | sp a b=>cases h
 | bare j=>cases h
 | one j f=>cases h
 | two j ns fs=>cases h
theorem Zjf {f:Fm} {k:Fin 3} (h:slot f = .o k):∃ g,f = .one k g:=by
 cases f with
 | one j g=>injection h with h;rw [h];exact ⟨g,rfl⟩
 | sp a b=>cases h
 | bare j=>cases h
 | le s=>cases h
 | two j ns fs=>cases h
theorem Zvb {f:Fm} {k:Fin 2} (h:slot f = .t k):∃ ns fs,f = .two k ns fs:=by
 cases f with
 | two j ns fs=>injection h with h;rw [h];exact ⟨ns,fs,rfl⟩
 | sp a b=>cases h
 | bare j=>cases h
 | le s=>cases h
 | one j f=>cases h
theorem Zgb {f:Addr} {c:FC} {fd:FuncData} {n:Nat} (F:Fun K "shown" "Nothing.shown" Xy f fd):FnOk P w K mg base CX0 1 f fd ["self"] (spShow c n (.b 0)):=by
 refine F.okK Zfc (fun vs H Q E h=>?_) (fun cdv A outer s H vs Q E hr h=>?_)
 ·obtain ⟨_,_,rfl,_⟩:=h;rfl
 obtain ⟨o,fm,rfl,hs,hF,hok,hht,hlen,q⟩:=h
 have:=Zbg hs
 subst this
 have e:(⟨(sh (.bare 0)).toArray⟩:Str)=Str.ofString "nothing":=by rw [sh];exact Zif _
 rw [e] at q
 exact ⟨_,(Zg (Zm Ze)),H,.refl (Same.refl _),q⟩
theorem Zlc {f:Addr} {c:FC} {fd:FuncData} {n:Nat} (F:Fun K "shown" "Truth.shown" Yr f fd):FnOk P w K mg base CX0 1 f fd ["self"] (spShow c n (.b 1)):=by
 refine F.okK Zkb (fun vs H Q E h=>?_) (fun cdv A outer s H vs Q E hr h=>?_)
 ·obtain ⟨_,_,rfl,_⟩:=h;rfl
 obtain ⟨o,fm,rfl,hs,hF,hok,hht,hlen,q⟩:=h
 have:=Zbg hs
 subst this
 have e:(⟨(sh (.bare 1)).toArray⟩:Str)=Str.ofString "truth":=by rw [sh];exact Zif _
 rw [e] at q
 exact ⟨_,(Zg (Zm Ze)),H,.refl (Same.refl _),q⟩
theorem Zlb {f:Addr} {c:FC} {fd:FuncData} {n:Nat} (F:Fun K "shown" "Whole.shown" Yq f fd):FnOk P w K mg base CX0 1 f fd ["self"] (spShow c n (.b 2)):=by
 refine F.okK Zjj (fun vs H Q E h=>?_) (fun cdv A outer s H vs Q E hr h=>?_)
 ·obtain ⟨_,_,rfl,_⟩:=h;rfl
 obtain ⟨o,fm,rfl,hs,hF,hok,hht,hlen,q⟩:=h
 have:=Zbg hs
 subst this
 have e:(⟨(sh (.bare 2)).toArray⟩:Str)=Str.ofString "whole":=by rw [sh];exact Zif _
 rw [e] at q
 exact ⟨_,(Zg (Zm Ze)),H,.refl (Same.refl _),q⟩
theorem Zee {f:Addr} {c:FC} {fd:FuncData} {n:Nat} (F:Fun K "shown" "Fraction.shown" Xr f fd):FnOk P w K mg base CX0 1 f fd ["self"] (spShow c n (.b 3)):=by
 refine F.okK Zdh (fun vs H Q E h=>?_) (fun cdv A outer s H vs Q E hr h=>?_)
 ·obtain ⟨_,_,rfl,_⟩:=h;rfl
 obtain ⟨o,fm,rfl,hs,hF,hok,hht,hlen,q⟩:=h
 have:=Zbg hs
 subst this
 have e:(⟨(sh (.bare 3)).toArray⟩:Str)=Str.ofString "fraction":=by rw [sh];exact Zif _
 rw [e] at q
 exact ⟨_,(Zg (Zm Ze)),H,.refl (Same.refl _),q⟩
theorem Zof {f:Addr} {c:FC} {fd:FuncData} {n:Nat} (nb:NB mg) (T:SpanCls K c.s) (F:Fun K "shown" "Span.shown" Wl f fd):FnOk P w K mg base CX0 1 f fd ["self"] (spShow c n .s):=by
 refine F.okK Zng (fun vs H Q E h=>?_) (fun cdv A outer s H vs Q E hr h=>?_)
 ·obtain ⟨_,_,rfl,_⟩:=h;rfl
 obtain ⟨o,fm,rfl,hs,hF,hok,hht,hlen,q⟩:=h
 obtain ⟨a,b,rfl⟩:=Xlb hs
 obtain ⟨_,dx,ho⟩:=hF
 rw [okF] at hok
 obtain ⟨_,ha,hb⟩:=hok
 refine ⟨_,(Zg (Zm (Zh oAdd (Zh oAdd (Zh oAdd (Zh oAdd Ze (Yz Jc rfl nb.str_ Zdd (Za (Yw (pv 0) rfl) Zd))) Ze) (Yz Jc rfl nb.str_ Zdd (Za (Yw (pv 0) rfl) Zd))) Ze))),?_⟩
 try dsimp only [cxK0,cxK1,cxK2,cxK3]
 have ha':a.natAbs<10 ^ 60:=Nat.lt_trans ha (by decide +kernel)
 have hb':b.natAbs<10 ^ 60:=Nat.lt_trans hb (by decide +kernel)
 have la:=Wp (by decide) ha'
 have lb:=Wp (by decide) hb'
 have l1:(Str.ofString "span(").length=5:=by decide +kernel
 have l2:(Str.ofString ", ").length=2:=by decide +kernel
 have l3:(Str.ofString ")").length=1:=by decide +kernel
 refine ⟨_,rfl,o,c.s,dx,_,_,rfl,ho,T.cl,T.nL,look1 ..,_,rfl,Qe ha',.inr ⟨_,_,rfl,rfl,small5 (by omega),?_⟩⟩
 refine .inr ⟨_,_,rfl,rfl,small5 (by rw [Zk];omega),?_⟩
 refine ⟨_,rfl,o,c.s,dx,_,_,rfl,ho,T.cl,T.nH,look2 _ _ _ _ highlow,_,rfl,Qe hb',.inr ⟨_,_,rfl,rfl,small5 (by rw [Zk,Zk];omega),?_⟩⟩
 refine .inr ⟨_,_,rfl,rfl,small5 (by rw [Zk,Zk,Zk];omega),H,.refl (Same.refl _),?_⟩
 rw [← Jp (l:=sh (.sp a b)) ?_] at q
 ·exact q
 ·rw [Zz,Zz,Zz,Zz,Jm.2.2.2.2.2.1,sh]
  show (((cp "span"++cp "(")++num a)++cp ", ")++num b++cp ")"=_
  simp only [List.append_assoc]
theorem Zgc {f:Addr} {c:FC} {fd:FuncData} {n:Nat} (T:LetCls K c.l) (F:Fun K "shown" "Letters.shown" Xz f fd):FnOk P w K mg base CX0 1 f fd ["self"] (spShow c n .l):=by
 refine F.okK Zfd (fun vs H Q E h=>?_) (fun cdv A outer s H vs Q E hr h=>?_)
 ·obtain ⟨_,_,rfl,_⟩:=h;rfl
 obtain ⟨o,fm,rfl,hs,hF,hok,hht,hlen,q⟩:=h
 obtain ⟨sg,rfl⟩:=Xlc hs
 obtain ⟨_,dx,ho⟩:=hF
 rw [okF] at hok
 refine ⟨_,(Zg (Zm (Zh oAdd (Zh oAdd Ze (Yw (pv 0) rfl)) Ze))),?_⟩
 try dsimp only [cxK0,cxK1,cxK2,cxK3]
 have l1:(Str.ofString "letters(").length=8:=by decide +kernel
 have l3:(Str.ofString ")").length=1:=by decide +kernel
 refine ⟨_,rfl,o,c.l,dx,_,_,rfl,ho,T.cl,T.nS,look1 ..,.inr ⟨_,_,rfl,rfl,small5 (by omega),?_⟩⟩
 refine .inr ⟨_,_,rfl,rfl,small5 (by rw [Zk];omega),H,.refl (Same.refl _),?_⟩
 rw [← Jp (l:=sh (.le sg)) ?_] at q
 ·exact q
 ·rw [Zz,Zz,Jm.2.2.2.2.2.2,sh]
  show ((cp "letters"++cp "(")++sg.cps.toList)++cp ")"=_
  simp only [List.append_assoc]
theorem Zdf {c:FC} {n:Nat} {H:Hp} {f:Fm} {o:Addr} {R:VK} (hF:FAt c [] H f o) (hok:okF f) (hht:ht f≤n) (hlen:(sh f).length≤90000) (q:R (.str ⟨(sh f).toArray⟩) H) :
  ∃ a i dx fs,V.ref o = .ref a∧H a=some (.ins (clS c i) dx fs)∧fs.lookup (Str.ofString "shown")=none∧spShow c n i [.ref o] H R E0:=by
 obtain ⟨dx,fs,e,l⟩:=FAt.ins (m:=Str.ofString "shown") (by decide +kernel) (by decide +kernel) (by decide +kernel) (by decide +kernel) (by decide +kernel) (by decide +kernel) f hF
 exact ⟨o,slot f,dx,fs,rfl,e,l,o,f,rfl,rfl,hF,hok,hht,hlen,q⟩
theorem Zld {f:Addr} {c:FC} {fd:FuncData} {n:Nat} (T:OneCls K (c.o 0)) (F:Fun K "shown" "Maybe.shown" Yt f fd) (AM_shown:AnyM P w K mg base (2*n+3) "shown" ["self"] (clS c) (spShow c n)):FnOk P w K mg base CX0 (2*n+3+1) f fd ["self"] (spShow c (n+1) (.o 0)):=by
 refine F.okK Zkc (fun vs H Q E h=>?_) (fun cdv A outer s H vs Q E hr h=>?_)
 ·obtain ⟨_,_,rfl,_⟩:=h;rfl
 obtain ⟨o,fm,rfl,hs,hF,hok,hht,hlen,q⟩:=h
 obtain ⟨g,rfl⟩:=Zjf hs
 obtain ⟨_,dx,i,ho,hI⟩:=hF
 have hok2:okF g:=by rw [okF] at hok;exact hok
 have hht2:ht g≤n:=by rw [ht] at hht;omega
 have esh:sh (.one 0 g)=(ow 0).cps.toList++(cp "("++(sh g++cp ")")):=by rw [sh]
 have hlen2:(sh g).length≤90000:=by rw [esh,List.length_append,List.length_append,List.length_append] at hlen;omega
 refine ⟨_,(Zg (Zm (Zh oAdd (Zh oAdd Ze (Jy AM_shown hr (Yw (pv 0) rfl) (hk:=by omega))) Ze))),?_⟩
 try dsimp only [cxK0,cxK1,cxK2,cxK3]
 have l0:(Str.ofString "maybe(").length≤10:=by decide +kernel
 have l3:(Str.ofString ")").length=1:=by decide +kernel
 have lg:=Qm (sh g)
 refine ⟨_,rfl,o,c.o 0,dx,_,_,rfl,ho,T.cl,T.nI,look1 ..,Zdf hI hok2 hht2 hlen2 (.inr ⟨_,_,rfl,rfl,small5 (by omega),?_⟩)⟩
 refine .inr ⟨_,_,rfl,rfl,small5 (by rw [Zk];omega),H,.refl (Same.refl _),?_⟩
 rw [← Jp (l:=sh (.one 0 g)) ?_] at q
 ·exact q
 ·rw [Zz,Zz,Jm.1,esh,Zcj]
  show ((_++_)++sh g)++cp ")"=_
  simp only [List.append_assoc]
theorem Zog {f:Addr} {c:FC} {fd:FuncData} {n:Nat} (T:OneCls K (c.o 1)) (F:Fun K "shown" "Many.shown" Wm f fd) (AM_shown:AnyM P w K mg base (2*n+3) "shown" ["self"] (clS c) (spShow c n)):FnOk P w K mg base CX0 (2*n+3+1) f fd ["self"] (spShow c (n+1) (.o 1)):=by
 refine F.okK Zni (fun vs H Q E h=>?_) (fun cdv A outer s H vs Q E hr h=>?_)
 ·obtain ⟨_,_,rfl,_⟩:=h;rfl
 obtain ⟨o,fm,rfl,hs,hF,hok,hht,hlen,q⟩:=h
 obtain ⟨g,rfl⟩:=Zjf hs
 obtain ⟨_,dx,i,ho,hI⟩:=hF
 have hok2:okF g:=by rw [okF] at hok;exact hok
 have hht2:ht g≤n:=by rw [ht] at hht;omega
 have esh:sh (.one 1 g)=(ow 1).cps.toList++(cp "("++(sh g++cp ")")):=by rw [sh]
 have hlen2:(sh g).length≤90000:=by rw [esh,List.length_append,List.length_append,List.length_append] at hlen;omega
 refine ⟨_,(Zg (Zm (Zh oAdd (Zh oAdd Ze (Jy AM_shown hr (Yw (pv 0) rfl) (hk:=by omega))) Ze))),?_⟩
 try dsimp only [cxK0,cxK1,cxK2,cxK3]
 have l0:(Str.ofString "many(").length≤10:=by decide +kernel
 have l3:(Str.ofString ")").length=1:=by decide +kernel
 have lg:=Qm (sh g)
 refine ⟨_,rfl,o,c.o 1,dx,_,_,rfl,ho,T.cl,T.nI,look1 ..,Zdf hI hok2 hht2 hlen2 (.inr ⟨_,_,rfl,rfl,small5 (by omega),?_⟩)⟩
 refine .inr ⟨_,_,rfl,rfl,small5 (by rw [Zk];omega),H,.refl (Same.refl _),?_⟩
 rw [← Jp (l:=sh (.one 1 g)) ?_] at q
 ·exact q
 ·rw [Zz,Zz,Jm.2.1,esh,Zcj]
  show ((_++_)++sh g)++cp ")"=_
  simp only [List.append_assoc]
theorem Zia {f:Addr} {c:FC} {fd:FuncData} {n:Nat} (T:OneCls K (c.o 2)) (F:Fun K "shown" "Turned.shown" Yd f fd) (AM_shown:AnyM P w K mg base (2*n+3) "shown" ["self"] (clS c) (spShow c n)):FnOk P w K mg base CX0 (2*n+3+1) f fd ["self"] (spShow c (n+1) (.o 2)):=by
 refine F.okK Zhc (fun vs H Q E h=>?_) (fun cdv A outer s H vs Q E hr h=>?_)
 ·obtain ⟨_,_,rfl,_⟩:=h;rfl
 obtain ⟨o,fm,rfl,hs,hF,hok,hht,hlen,q⟩:=h
 obtain ⟨g,rfl⟩:=Zjf hs
 obtain ⟨_,dx,i,ho,hI⟩:=hF
 have hok2:okF g:=by rw [okF] at hok;exact hok
 have hht2:ht g≤n:=by rw [ht] at hht;omega
 have esh:sh (.one 2 g)=(ow 2).cps.toList++(cp "("++(sh g++cp ")")):=by rw [sh]
 have hlen2:(sh g).length≤90000:=by rw [esh,List.length_append,List.length_append,List.length_append] at hlen;omega
 refine ⟨_,(Zg (Zm (Zh oAdd (Zh oAdd Ze (Jy AM_shown hr (Yw (pv 0) rfl) (hk:=by omega))) Ze))),?_⟩
 try dsimp only [cxK0,cxK1,cxK2,cxK3]
 have l0:(Str.ofString "turned(").length≤10:=by decide +kernel
 have l3:(Str.ofString ")").length=1:=by decide +kernel
 have lg:=Qm (sh g)
 refine ⟨_,rfl,o,c.o 2,dx,_,_,rfl,ho,T.cl,T.nI,look1 ..,Zdf hI hok2 hht2 hlen2 (.inr ⟨_,_,rfl,rfl,small5 (by omega),?_⟩)⟩
 refine .inr ⟨_,_,rfl,rfl,small5 (by rw [Zk];omega),H,.refl (Same.refl _),?_⟩
 rw [← Jp (l:=sh (.one 2 g)) ?_] at q
 ·exact q
 ·rw [Zz,Zz,Jm.2.2.1,esh,Zcj]
  show ((_++_)++sh g)++cp ")"=_
  simp only [List.append_assoc]
noncomputable def prt31 (f:Fm) (n:Str):Str:=(n++Str.ofString " ")++⟨(sh f).toArray⟩
theorem Xcb (f:Fm) (n:Str):(prt31 f n).cps.toList=n.cps.toList++(cp " "++sh f):=by
 unfold prt31
 rw [Zz,Zz,List.append_assoc];rfl
theorem Zmc:∀ (fs:List Fm) (ns:List Str),ns.length=fs.length→(Str.join (Str.ofString ", ") (List.zipWith prt31 fs ns)).cps.toList=shs fs ns
 | [],ns,h=>by
  rw [shs];rfl
 | [f],[],h=>by cases h
 | [f],n::ns,h=>by
  rw [Zai]
  show (prt31 f n).cps.toList=_
  rw [Xcb]
  show _=n.cps.toList++(cp " "++(sh f++[]))
  rw [List.append_nil]
 | f::g::fs,[],h=>by cases h
 | f::g::fs,[n],h=>by cases h
 | f::g::fs,n::m::ns,h=>by
  have ih:=Zmc (g::fs) (m::ns) (Nat.succ.inj h)
  rw [Zai]
  show ((prt31 f n++Str.ofString ", ")++Str.join (Str.ofString ", ") (List.zipWith prt31 (g::fs) (m::ns))).cps.toList=_
  rw [Zz,Zz,ih,Xcb]
  show _=n.cps.toList++(cp " "++(sh f++(cp ", "++shs (g::fs) (m::ns))))
  simp only [List.append_assoc]
  rfl
theorem FsAt.get {c:FC} {X:List Addr} {H:Hp}:∀ (fs:List Fm) {os:List Addr} {i:Nat} {o:Addr},FsAt c X H fs os→os[i]?=some o→∃ f,fs[i]?=some f∧FAt c X H f o
 | [],os,i,o,h,e=>by
  obtain rfl:os=[]:=h
  cases e
 | f::fs,os,0,o,h,e=>by
  obtain ⟨o',r,rfl,q,q2⟩:=h
  cases e
  exact ⟨f,rfl,q⟩
 | f::fs,os,i+1,o,h,e=>by
  obtain ⟨o',r,rfl,q,q2⟩:=h
  exact FsAt.get fs q2 e
theorem Zle:∀ {fs:List Fm} {i:Nat} {f:Fm},okFs fs→fs[i]?=some f→okF f∧ht f≤hts fs
 | [],i,f,h,e=>by cases e
 | g::fs,0,f,h,e=>by
  cases e
  rw [okFs] at h
  rw [hts]
  exact ⟨h.1,Nat.le_max_left ..⟩
 | g::fs,i+1,f,h,e=>by
  rw [okFs] at h
  have:=Zle h.2 e
  rw [hts]
  exact ⟨this.1,Nat.le_trans this.2 (Nat.le_max_right ..)⟩
theorem Zah:∀ (fs:List Fm) (ns:List Str),ns.length=fs.length→∀ (i:Nat) (f:Fm) (n:Str),fs[i]?=some f→ns[i]?=some n→n.length+(1+(sh f).length)≤(shs fs ns).length
 | [],ns,h,i,f,n,e1,e2=>by cases e1
 | g::fs,[],h,i,f,n,e1,e2=>by cases h
 | g::fs,m::ns,h,0,f,n,e1,e2=>by
  cases e1;cases e2
  have hln:m.cps.toList.length=m.length:=Array.length_toList
  rw [Zai,List.length_append,List.length_append,List.length_append,hln,Xnh]
  show _≤m.length+(1+_)
  omega
 | g::fs,m::ns,h,i+1,f,n,e1,e2=>by
  have ih:=Zah fs ns (Nat.succ.inj h) i f n e1 e2
  rw [Zai,List.length_append,List.length_append,List.length_append]
  have:(shs fs ns).length≤(tlS fs ns).length:=by
   cases fs with
   | nil=>cases e1
   | cons a b=>unfold tlS;rw [List.length_append];omega
  omega
noncomputable def spShP (c:FC) (n:Nat):Sp:=fun vs H Q _=>∃ (l1 l2:Addr) (ns:List Str) (fs:List Fm) (os:List Addr),vs=[.ref l1,.ref l2]∧H l1=some (.lst (ns.map V.str))∧H l2=some (.lst (os.map V.ref))∧FsAt c [] H fs os∧ns.length=fs.length∧okFs fs∧hts fs≤n∧(shs fs ns).length≤90000∧ns.length≤20∧Q (.str ⟨(shs fs ns).toArray⟩) H
theorem Zfj {f:Addr} {c:FC} {fd:FuncData} {n:Nat} (nb:NB mg) (F:FunAt K mg "shown_parts" Xs ["names","forms"] f fd) (AM_shown:AnyM P w K mg base (2*n+3) "shown" ["self"] (clS c) (spShow c n)):DefOk P w K mg base (2*n+3+1) "shown_parts" ["names","forms"] (spShP c n):=by
 refine F.ok Zjh (fun vs H Q E h=>?_) (fun cdv A outer s H vs Q E hr h=>?_)
 ·obtain ⟨_,_,_,_,_,rfl,_⟩:=h;rfl
 obtain ⟨a1,a2,ns,fs,os,rfl,h1,h2,hF,hn,hok,hht,hlen,hn20,q⟩:=h
 refine ⟨_,(Zg (Zm (Zcg PySem.F.plainAttrs_str PySem.F.slot_str_join PySem.F.type_str_join Zth Ze (Za (Jb ["name","form"] [] rfl (by decide +kernel) trivial (Xhf rfl nb.zip_ (Za (pv 0) (Za (pv 1) Zd))) (fun _ _ _ _ _=>(Zzi rfl (Ql (Xn (i:=0) (show (["name","form"]:List Str).Nodup by decide +kernel) rfl (by first | exact Or.inl rfl | exact Or.inr rfl)) (Ql (Xn (i:=1) (show (["name","form"]:List Str).Nodup by decide +kernel) rfl (by first | exact Or.inl rfl | exact Or.inr rfl)) Zsg)))) (fun _ _ _ _ _=>Yx) (fun _ _ _ _ _=>(Zh oAdd (Zh oAdd (pv 0) Ze) (Jy AM_shown hr (pv 1) (hk:=by omega))))) Zd)))),?_⟩
 try dsimp only [cxK0,cxK1,cxK2,cxK3]
 have l1:(Str.ofString " ").length=1:=by decide +kernel
 have l3:(Str.ofString ", ").length=2:=by decide +kernel
 have hol:=FsAt.len fs hF
 refine ⟨rfl,_,rfl,_,rfl,a1,a2,_,_,rfl,SqL.of h1,SqL.of h2,fun D hD=>?_⟩
 refine Zyd (fun i=>V.str ((List.zipWith prt31 fs ns).getD i Str.empty)) (fun σ=>∃ z1 z2,σ=[z1,z2]) (by rw [List.length_map,List.length_map];omega) ⟨_,_,rfl⟩ hD (SqL.of h1) (SqL.of h2) ?_ ?_
 ·rintro i x y hx hy σ1 H1 T ⟨z1,z2,rfl⟩ hs1 hT R hR
  rw [List.getElem?_map] at hx hy
  obtain ⟨nm,hnm,rfl⟩:=Option.map_eq_some_iff.mp hx
  obtain ⟨om,hom,rfl⟩:=Option.map_eq_some_iff.mp hy
  obtain ⟨fm,hfm,hFm⟩:=FsAt.get fs hF hom
  obtain ⟨hok2,hht2⟩:=Zle hok hfm
  have hpl:=Zah fs ns hn i fm nm hfm hnm
  have e:(List.zipWith prt31 fs ns).getD i Str.empty=prt31 fm nm:=by rw [List.getD_eq_getElem?_getD,List.getElem?_zipWith,hfm,hnm];rfl
  rw [e] at hR
  have sT:=hs1.trans (Zj (o:=HO.tup [V.str nm,V.ref om]) hT)
  have lg:=Qm (sh fm)
  refine ⟨T,_,rfl,SqT.of Zb,rfl,_,_,rfl,_,_,rfl,rfl,?_⟩
  refine ⟨_,rfl,.inr ⟨_,_,rfl,rfl,small5 (by omega),?_⟩⟩
  refine ⟨_,rfl,Zdf (FAt.keep (fun b u _ e=>sT b u e) fm hFm) hok2 (by omega) (by omega) (.inr ⟨_,_,rfl,rfl,small5 (by rw [Zk];omega),?_⟩)⟩
  exact hR _ _ ⟨_,_,rfl⟩ (Same.refl _)
 ·intro H' hs' hD'
  have hzl:(List.zipWith prt31 fs ns).length=fs.length:=by rw [List.length_zipWith,hn,Nat.min_self]
  have e:(List.range (min (ns.map V.str).length (os.map V.ref).length)).map (fun i=>V.str ((List.zipWith prt31 fs ns).getD i Str.empty))=(List.zipWith prt31 fs ns).map V.str:=by
   have:=Jz (List.zipWith prt31 fs ns)
   rw [hzl] at this
   rw [List.length_map,List.length_map,hn,hol,Nat.min_self]
   exact this
  rw [e] at hD'
  have hB:∀ y∈List.zipWith prt31 fs ns,y.length≤90000:=fun y hy=>by
   obtain ⟨i,hi,rfl⟩:=List.mem_iff_getElem.mp hy
   rw [hzl] at hi
   rw [List.getElem_zipWith]
   have hpl:=Zah fs ns hn i fs[i] (ns[i]'(by omega)) (List.getElem?_eq_getElem hi) (List.getElem?_eq_getElem (by omega))
   unfold prt31
   have lg:=Qm (sh fs[i])
   rw [Zk,Zk,l1]
   omega
  have hsum:=StrLaws.sumLen_le _ hB
  rw [hzl] at hsum
  refine ⟨_,D,_,rfl,rfl,SqL.of hD',(by rw [hzl,l3];omega),H,.refl hs',?_⟩
  have ej:Txt.join (Str.ofString ", ") (List.zipWith prt31 fs ns)=⟨(shs fs ns).toArray⟩:=by
   refine Jp ?_
   show (Builtin.Str.glued (Str.ofString ", ") (List.zipWith prt31 fs ns)).cps.toList=_
   rw [StrLaws.glued_eq_join]
   exact Zmc fs ns hn
  rw [ej];exact q
theorem Zib {f:Addr} {c:FC} {fd:FuncData} {n:Nat} (T:TwoCls K (c.t 0)) (F:Fun K "shown" "Record.shown" Ye f fd) (D_shown_parts:DefOk P w K mg base (2*n+4) "shown_parts" ["names","forms"] (spShP c n)):FnOk P w K mg base CX0 (2*n+4+1) f fd ["self"] (spShow c (n+1) (.t 0)):=by
 refine F.okK Zhd (fun vs H Q E h=>?_) (fun cdv A outer s H vs Q E hr h=>?_)
 ·obtain ⟨_,_,rfl,_⟩:=h;rfl
 obtain ⟨o,fm,rfl,hs,hF,hok,hht,hlen,q⟩:=h
 obtain ⟨ns,fs,rfl⟩:=Zvb hs
 obtain ⟨_,dx,a1,a2,os,ho,_,_,h1,h2,hI⟩:=hF
 rw [okF] at hok
 obtain ⟨hgn,hnl,hok2⟩:=hok
 have hht2:hts fs≤n:=by rw [ht] at hht;omega
 have esh:sh (.two 0 ns fs)=(tw 0).cps.toList++(cp "("++(shs fs ns++cp ")")):=by rw [sh]
 have hlen2:(shs fs ns).length≤90000:=by rw [esh,List.length_append,List.length_append,List.length_append] at hlen;omega
 refine ⟨_,(Zg (Zm (Zh oAdd (Zh oAdd Ze (Zo D_shown_parts hr (Za (Yw (pv 0) rfl) (Za (Yw (pv 0) rfl) Zd)) (hk:=by omega))) Ze))),?_⟩
 try dsimp only [cxK0,cxK1,cxK2,cxK3]
 have l0:(Str.ofString "record(").length≤10:=by decide +kernel
 have l3:(Str.ofString ")").length=1:=by decide +kernel
 have lg:=Qm (shs fs ns)
 refine ⟨_,rfl,o,c.t 0,dx,_,_,rfl,ho,T.cl,T.nN,look1 ..,_,rfl,o,c.t 0,dx,_,_,rfl,ho,T.cl,T.nF,look2 _ _ _ _ formsnames,a1,a2,ns,fs,os,rfl,h1,h2,hI,hnl,hok2,hht2,hlen2,(Xp hgn).1,.inr ⟨_,_,rfl,rfl,small5 (by omega),?_⟩⟩
 refine .inr ⟨_,_,rfl,rfl,small5 (by rw [Zk];omega),H,.refl (Same.refl _),?_⟩
 rw [← Jp (l:=sh (.two 0 ns fs)) ?_] at q
 ·exact q
 ·rw [Zz,Zz,Jm.2.2.2.1,esh,Zcj]
  show ((_++_)++shs fs ns)++cp ")"=_
  simp only [List.append_assoc]
theorem Zic {f:Addr} {c:FC} {fd:FuncData} {n:Nat} (T:TwoCls K (c.t 1)) (F:Fun K "shown" "Choice.shown" Yg f fd) (D_shown_parts:DefOk P w K mg base (2*n+4) "shown_parts" ["names","forms"] (spShP c n)):FnOk P w K mg base CX0 (2*n+4+1) f fd ["self"] (spShow c (n+1) (.t 1)):=by
 refine F.okK Zhf (fun vs H Q E h=>?_) (fun cdv A outer s H vs Q E hr h=>?_)
 ·obtain ⟨_,_,rfl,_⟩:=h;rfl
 obtain ⟨o,fm,rfl,hs,hF,hok,hht,hlen,q⟩:=h
 obtain ⟨ns,fs,rfl⟩:=Zvb hs
 obtain ⟨_,dx,a1,a2,os,ho,_,_,h1,h2,hI⟩:=hF
 rw [okF] at hok
 obtain ⟨hgn,hnl,hok2⟩:=hok
 have hht2:hts fs≤n:=by rw [ht] at hht;omega
 have esh:sh (.two 1 ns fs)=(tw 1).cps.toList++(cp "("++(shs fs ns++cp ")")):=by rw [sh]
 have hlen2:(shs fs ns).length≤90000:=by rw [esh,List.length_append,List.length_append,List.length_append] at hlen;omega
 refine ⟨_,(Zg (Zm (Zh oAdd (Zh oAdd Ze (Zo D_shown_parts hr (Za (Yw (pv 0) rfl) (Za (Yw (pv 0) rfl) Zd)) (hk:=by omega))) Ze))),?_⟩
 try dsimp only [cxK0,cxK1,cxK2,cxK3]
 have l0:(Str.ofString "choice(").length≤10:=by decide +kernel
 have l3:(Str.ofString ")").length=1:=by decide +kernel
 have lg:=Qm (shs fs ns)
 refine ⟨_,rfl,o,c.t 1,dx,_,_,rfl,ho,T.cl,T.nN,look1 ..,_,rfl,o,c.t 1,dx,_,_,rfl,ho,T.cl,T.nF,look2 _ _ _ _ formsnames,a1,a2,ns,fs,os,rfl,h1,h2,hI,hnl,hok2,hht2,hlen2,(Xp hgn).1,.inr ⟨_,_,rfl,rfl,small5 (by omega),?_⟩⟩
 refine .inr ⟨_,_,rfl,rfl,small5 (by rw [Zk];omega),H,.refl (Same.refl _),?_⟩
 rw [← Jp (l:=sh (.two 1 ns fs)) ?_] at q
 ·exact q
 ·rw [Zz,Zz,Jm.2.2.2.2.1,esh,Zcj]
  show ((_++_)++shs fs ns)++cp ")"=_
  simp only [List.append_assoc]
structure MethAt (K:PySem.W.Frag) (C:Addr) (m qual:Str) (st:Stmt) (ps:List Str):Prop where
 ex:∃ f fd,Fun K m qual st f fd∧Binds K fd ps []∧Meth K C m f
 cl:Cls K C
theorem Wa {C:Addr} {m qual:Str} {st:Stmt} {ps:List Str} {k:Nat} {sp:Sp} (M:MethAt K C m qual st ps) (h:∀ vs H Q E,¬sp vs H Q E):MethOk P w K mg base k C m ps sp:=by
 obtain ⟨f,fd,F,hb,hm⟩:=M.ex
 exact ⟨f,fd,⟨fun vs H Q E q=>absurd q (h _ _ _ _),fun A outer s H args us vs Q E _ _ _ _ q=>absurd q (h _ _ _ _)⟩,hb,hm⟩
structure Shs (K:PySem.W.Frag) (c:FC):Prop where
 m0:MethAt K (c.b 0) "shown" "Nothing.shown" Xy ["self"]
 m1:MethAt K (c.b 1) "shown" "Truth.shown" Yr ["self"]
 m2:MethAt K (c.b 2) "shown" "Whole.shown" Yq ["self"]
 m3:MethAt K (c.b 3) "shown" "Fraction.shown" Xr ["self"]
 m4:MethAt K c.s "shown" "Span.shown" Wl ["self"]
 m5:MethAt K c.l "shown" "Letters.shown" Xz ["self"]
 m6:MethAt K (c.o 0) "shown" "Maybe.shown" Yt ["self"]
 m7:MethAt K (c.o 1) "shown" "Many.shown" Wm ["self"]
 m8:MethAt K (c.o 2) "shown" "Turned.shown" Yd ["self"]
 m9:MethAt K (c.t 0) "shown" "Record.shown" Ye ["self"]
 ma:MethAt K (c.t 1) "shown" "Choice.shown" Yg ["self"]
 tS:SpanCls K c.s
 tL:LetCls K c.l
 tO:∀ k,OneCls K (c.o k)
 tT:∀ k,TwoCls K (c.t k)
theorem Zrj {f:Addr} {c:FC} {fd:FuncData} (nb:NB mg) (S:Shs K c) (F:FunAt K mg "shown_parts" Xs ["names","forms"] f fd):∀ n,AnyM P w K mg base (2*n+3) "shown" ["self"] (clS c) (spShow c n)
 | 0=>by
  have no:∀ i vs H Q E,¬spShow c 0 i vs H Q E:=fun i vs H Q E ⟨o,f,_,_,_,_,h,_⟩=>by have:=Xjb f;omega
  intro i
  cases i with
  | b k =>
   rcases fin4 k with rfl | rfl | rfl | rfl
   ·exact ⟨Wa S.m0 (no _),S.m0.cl⟩
   ·exact ⟨Wa S.m1 (no _),S.m1.cl⟩
   ·exact ⟨Wa S.m2 (no _),S.m2.cl⟩
   ·exact ⟨Wa S.m3 (no _),S.m3.cl⟩
  | s=>exact ⟨Wa S.m4 (no _),S.m4.cl⟩
  | l=>exact ⟨Wa S.m5 (no _),S.m5.cl⟩
  | o k =>
   rcases fin3 k with rfl | rfl | rfl
   ·exact ⟨Wa S.m6 (no _),S.m6.cl⟩
   ·exact ⟨Wa S.m7 (no _),S.m7.cl⟩
   ·exact ⟨Wa S.m8 (no _),S.m8.cl⟩
  | t k =>
   rcases fin2 k with rfl | rfl
   ·exact ⟨Wa S.m9 (no _),S.m9.cl⟩
   ·exact ⟨Wa S.ma (no _),S.ma.cl⟩
 | n+1=>by
  have ih:=Zrj nb S F n
  have D:=Zfj nb F ih
  intro i
  cases i with
  | b k =>
   rcases fin4 k with rfl | rfl | rfl | rfl
   ·obtain ⟨f,fd,G,hb,hm⟩:=S.m0.ex
    exact ⟨⟨f,fd,(Zgb G).mono (by omega),hb,hm⟩,S.m0.cl⟩
   ·obtain ⟨f,fd,G,hb,hm⟩:=S.m1.ex
    exact ⟨⟨f,fd,(Zlc G).mono (by omega),hb,hm⟩,S.m1.cl⟩
   ·obtain ⟨f,fd,G,hb,hm⟩:=S.m2.ex
    exact ⟨⟨f,fd,(Zlb G).mono (by omega),hb,hm⟩,S.m2.cl⟩
   ·obtain ⟨f,fd,G,hb,hm⟩:=S.m3.ex
    exact ⟨⟨f,fd,(Zee G).mono (by omega),hb,hm⟩,S.m3.cl⟩
  | s =>
   obtain ⟨f,fd,G,hb,hm⟩:=S.m4.ex
   exact ⟨⟨f,fd,(Zof nb S.tS G).mono (by omega),hb,hm⟩,S.m4.cl⟩
  | l =>
   obtain ⟨f,fd,G,hb,hm⟩:=S.m5.ex
   exact ⟨⟨f,fd,(Zgc S.tL G).mono (by omega),hb,hm⟩,S.m5.cl⟩
  | o k =>
   rcases fin3 k with rfl | rfl | rfl
   ·obtain ⟨f,fd,G,hb,hm⟩:=S.m6.ex
    exact ⟨⟨f,fd,(Zld (S.tO 0) G ih).mono (by omega),hb,hm⟩,S.m6.cl⟩
   ·obtain ⟨f,fd,G,hb,hm⟩:=S.m7.ex
    exact ⟨⟨f,fd,(Zog (S.tO 1) G ih).mono (by omega),hb,hm⟩,S.m7.cl⟩
   ·obtain ⟨f,fd,G,hb,hm⟩:=S.m8.ex
    exact ⟨⟨f,fd,(Zia (S.tO 2) G ih).mono (by omega),hb,hm⟩,S.m8.cl⟩
  | t k =>
   rcases fin2 k with rfl | rfl
   ·obtain ⟨f,fd,G,hb,hm⟩:=S.m9.ex
    exact ⟨⟨f,fd,(Zib (S.tT 0) G D).mono (by omega),hb,hm⟩,S.m9.cl⟩
   ·obtain ⟨f,fd,G,hb,hm⟩:=S.ma.ex
    exact ⟨⟨f,fd,(Zic (S.tT 1) G D).mono (by omega),hb,hm⟩,S.ma.cl⟩
theorem Zmi {α:Type} (f:α→V) (xs:List α) (c m:Int) (hm:m=xs.length) (h:0<xs.length):∃ n,n∈xs∧atI (xs.map f) (c%m)=some (f n):=by
 subst hm
 have h1:=Int.emod_nonneg c (b:=(xs.length:Int)) (by omega)
 have h2:=Int.emod_lt_of_pos c (b:=(xs.length:Int)) (by omega)
 obtain ⟨k,hk⟩:=Int.eq_ofNat_of_zero_le h1
 rw [hk]
 have hk2:k<xs.length:=by omega
 exact ⟨xs[k],List.getElem_mem hk2,Zy (by rw [List.getElem?_map,List.getElem?_eq_getElem hk2];rfl)⟩
theorem Wo (c:Int) (n:Nat) (h:0<n):∃ k:Nat,k<n∧c%((n:Nat):Int)=((k:Nat):Int):=by
 have h1:=Int.emod_nonneg c (b:=(n:Int)) (by omega)
 have h2:=Int.emod_lt_of_pos c (b:=(n:Int)) (by omega)
 obtain ⟨k,hk⟩:=Int.eq_ofNat_of_zero_le h1
 exact ⟨k,by omega,hk⟩
noncomputable def spNumbers (K:PySem.W.Frag):Sp:=fun vs H Q _=>∃ (a:Addr) (ns:List Int) (m sl:Nat),vs=[.ref a,.int ((m:Nat):Int),.int ((sl:Nat):Int)]∧SqL K H a (ns.map V.int)∧ns.length≤63∧0<m∧m≤8∧(sl=1000∨sl=2000)∧∀ (D:Addr) (ms:List Int),H D=none→ms.length≤11→Q (.ref D) (upd H D (.lst (ms.map V.int)))
theorem Xch:∀ (ys:List V),(∀ y∈ys,∃ n:Int,y = .int n)→∃ ns:List Int,ys=ns.map V.int∧ns.length=ys.length
 | [],_=>⟨[],rfl,rfl⟩
 | y::r,h=>by
  obtain ⟨n,rfl⟩:=h y (List.mem_cons_self ..)
  obtain ⟨ns,rfl,hl⟩:=Xch r fun z hz=>h z (List.mem_cons_of_mem _ hz)
  exact ⟨n::ns,rfl,by rw [List.length_cons,hl];rfl⟩
theorem Xke (ns:List Int) (s m:Nat) (hm:m≤11):∃ ms:List Int,cutV (ns.map V.int) (some ((s:Nat):Int)) (some ((s+m:Nat):Int))=ms.map V.int∧ms.length≤11:=by
 unfold cutV
 refine ⟨(ns.drop (HT.sIx (ns.map V.int).length 0 (some ((s:Nat):Int)))).take (HT.sIx (ns.map V.int).length (ns.map V.int).length (some ((s+m:Nat):Int)) - HT.sIx (ns.map V.int).length 0 (some ((s:Nat):Int))),?_,?_⟩
 ·rw [List.map_take,List.map_drop]
 ·rw [List.length_take,HT.sIx_nat,HT.sIx_nat];omega
theorem Zec {f:Addr} {fd:FuncData} (nb:NB mg) (F:FunAt K mg "_law_numbers_of" Xl ["_law_script","_law_many","_law_salt"] f fd) (D_law_cell_at:DefOk P w K mg base 1 "_law_cell_at" ["_law_script","_law_k"] (spCellAt K)) (D_law_mixed:DefOk P w K mg base 1 "_law_mixed" ["_law_cell","_law_k"] spMixed):DefOk P w K mg base 2 "_law_numbers_of" ["_law_script","_law_many","_law_salt"] (spNumbers K):=by
 refine F.ok sc_law_numbers_of (fun vs H Q E h=>?_) (fun cdv A outer s H vs Q E hr h=>?_)
 ·obtain ⟨_,_,_,_,rfl,_⟩:=h;rfl
 obtain ⟨a,ns,m,sl,rfl,hS,hl,hm0,hm8,hsl,q⟩:=h
 refine ⟨_,(Zc (Zs (Zi oEq (Zh Zv (Zo D_law_cell_at hr (Za (pv 0) (Za Zf Zd))) Zf) Zf (nomark _)) (Zc (Zp (i:=3) sc_law_numbers_of.nd rfl (by first | exact Or.inl rfl | exact Or.inr rfl) (Zh oAdd (Zh oSub (Zh oAdd Zf (Zh oMul (Zh Xx (pv 2) Zf) Zf)) Zf) (Zh oMul (Zh Xx (Zh Zv (pv 2) Zf) Zf) Zf)))
   (Zg (Zm (Zw slAll (pv 0) (Zu (pv 3)) (Zu (Zh oAdd (pv 3) (Zr (Zre rfl) rfl nb.min_ Xki (Za (pv 1) (Za Zf Zd))))))))) Zl)
  (Zc (Qy (i:=4)  ["_law_k"] [(2,"_law_salt")] sc_law_numbers_of.nd rfl rfl rfl (by decide +kernel) ⟨rfl,.inl rfl,trivial⟩ (Js rfl nb.range_ (Za (pv 1) Zd)) (fun _ _ _ _ _=>(Xn (i:=0) (show (["_law_k","_law_salt"]:List Str).Nodup by decide +kernel) rfl (by first | exact Or.inl rfl | exact Or.inr rfl))) (fun _ _ _ _ _=>Yx) (fun _ _ _ _ _=>(Zo D_law_mixed hr (Za (pv 0) (Za (pv 1) Zd)))))
  (Zc (Xhd PassesOwn.never rfl (Js rfl nb.range_ (Za (Zr Zx rfl nb.len_ Xf (Za (Zw slAll (pv 0) Yi (Zu Zf)) Zd)) Zd)) (Xn (i:=5) sc_law_numbers_of.nd rfl (by first | exact Or.inl rfl | exact Or.inr rfl))
   (Zg (Xhe (Zo D_law_mixed hr (Za (Zh oAdd (Xo iAll (pv 0) (pv 5) (fun _ _=>rfl)) (Xo iAll (pv 4) (Zh Zv (pv 5) (pv 1)) (fun _ _=>rfl))) (Za (Zh oAdd (pv 5) (pv 2)) Zd))) (Xoi (pv 4) (Zh Zv (pv 5) (pv 1)) Xgd))))
  (Zg (Zm (pv 4)))))),?_⟩
 try dsimp only [cxK0,cxK1,cxK2,cxK3]
 refine ⟨_,rfl,a,ns,0,rfl,hS,hl,_,_,rfl,rfl,(by show (0:Int)<2;decide),rfl,_,rfl,iteD (fun c1=>?_) (fun c1=>?_)⟩
 ·obtain ⟨s0,hs0,es0⟩:∃ s0:Nat,s0≤10∧1+((sl:Nat):Int)/1000*9 - 9+((sl:Nat):Int)%1000/100*11=((s0:Nat):Int):=by
   rcases hsl with rfl | rfl
   ·exact ⟨1,by decide,by decide⟩
   ·exact ⟨10,by decide,by decide⟩
  refine ⟨_,rfl,_,_,rfl,rfl,⟨by decide,by decide⟩,.inl ⟨_,_,rfl,rfl,.inr ⟨by decide,by decide⟩,.inl ⟨_,_,rfl,rfl,_,_,rfl,rfl,?_⟩⟩⟩
  refine ⟨_,rfl,_,_,rfl,rfl,(by show (0:Int)<1000;decide),_,_,rfl,rfl,⟨by decide,by decide⟩,.inl ⟨_,_,rfl,rfl,.inr ⟨by decide,by decide⟩,.inl ⟨_,_,rfl,rfl,?_⟩⟩⟩
  dsimp only
  rw [es0]
  refine ⟨_,rfl,_,rfl,_,rfl,_,rfl,_,rfl,_,_,rfl,.inl ⟨_,_,rfl,rfl,_,rfl,.inl ⟨a,_,rfl,hS,fun D hD=>?_⟩⟩⟩
  have em:((s0:Nat):Int)+(if (11:Int)<((m:Nat):Int) then 11 else ((m:Nat):Int))=((s0+m:Nat):Int):=by split<;>omega
  dsimp only
  rw [em]
  obtain ⟨ms,ems,hml⟩:=Xke ns s0 m (by omega)
  rw [ems]
  exact ⟨_,.new hD (Zj hD) Zb trivial,q D ms hD hml⟩
 ·refine ⟨_,rfl,_,rfl,by omega,by omega,fun D hD=>?_⟩
  have em:(((m:Nat):Int)).toNat=m:=by omega
  rw [em]
  refine Zye (fun y=>∃ n:Int,y = .int n) (fun σ=>∃ z,σ=[z,some (.int ((sl:Nat):Int))]) (by omega) ⟨_,rfl⟩ hD ?_ ?_
  ·rintro i hi σ1 H1 ⟨z,rfl⟩ hs1 R hR
   exact ⟨_,rfl,_,rfl,_,_,rfl,fun v _ _=>hR _ _ _ ⟨_,rfl⟩ (Same.refl _) ⟨v,rfl⟩⟩
  intro ys H1 hyl hyp hs1 hD1
  obtain ⟨ms,rfl,hml⟩:=Xch ys hyp
  have hS1:=hs1.seq hS
  refine ⟨_,rfl,_,rfl,.inl ⟨a,_,rfl,hS1,fun p hp=>⟨_,_,rfl,.inl ⟨_,SqL.of Zb,rfl⟩,?_⟩⟩⟩
  have hcut:=Zha (ns.map V.int) none (some 63)
  rw [List.length_map] at hcut
  refine ⟨_,rfl,by omega,by omega,?_⟩
  have s2:=Zj (o:=HO.lst (cutV (ns.map V.int) none (some 63))) hp
  have nDp:D≠p:=fun z=>by rw [← z,hD1] at hp;cases hp
  refine Zqh (fun i σ H2=>(∀ b u,b≠D→H b=some u→H2 b=some u)∧∃ (ms:List Int) (z1 z2:Option V),σ=[some (.ref a),some (.int ((m:Nat):Int)),some (.int ((sl:Nat):Int)),z1,some (.ref D),z2]∧ms.length=m∧H2 D=some (.lst (ms.map V.int))) ?_ ?_ ?_
  ·exact ⟨fun b u _ e=>s2 b u (hs1 b u e),ms,_,_,rfl,by rw [hml,hyl],s2 _ _ hD1⟩
  ·rintro i σ H2 hi ⟨hk2,ms2,z1,z2,rfl,hm2,hD2⟩
   rw [Int.zero_add]
   have hi2:i<ns.length:=by omega
   have hS2:SqL K H2 a (ns.map V.int):=by
    have hs':Same H (fun b=>if b=D then H b else H2 b):=fun b u e=>by
     by_cases z:b=D
     ·rw [z,hD] at e;cases e
     ·show (if b=D then H b else H2 b)=_
      rw [if_neg z];exact hk2 b u z e
    have h3:=hs'.seq hS
    have h4:Same (fun b=>if b=D then H b else H2 b) H2:=fun b u e=>by
     have e:(if b=D then H b else H2 b)=some u:=e
     by_cases z:b=D
     ·rw [if_pos z,z,hD] at e;cases e
     ·rw [if_neg z] at e;exact e
    exact h4.seq h3
   obtain ⟨j,hj,ej⟩:=Wo ((i:Nat):Int) m hm0
   have hj2:j<ms2.length:=by omega
   have hat1:atI (ns.map V.int) ((i:Nat):Int)=some (.int ns[i]):=Zy (by rw [List.getElem?_map,List.getElem?_eq_getElem hi2];rfl)
   have hat2:atI (ms2.map V.int) ((j:Nat):Int)=some (.int ms2[j]):=Zy (by rw [List.getElem?_map,List.getElem?_eq_getElem hj2];rfl)
   refine ⟨_,rfl,_,rfl,.inl (.inl ⟨_,_,_,_,rfl,rfl,hS2,hat1,?_⟩)⟩
   refine ⟨_,rfl,_,rfl,_,rfl,_,_,rfl,rfl,(by omega),.inl (.inl ⟨_,_,_,_,rfl,rfl,SqL.of hD2,(by rw [ej];exact hat2),.inl ⟨_,_,rfl,rfl,?_⟩⟩)⟩
   refine ⟨_,rfl,_,rfl,.inl ⟨_,_,rfl,rfl,_,_,rfl,fun v _ _=>?_⟩⟩
   refine ⟨_,rfl,_,rfl,_,rfl,_,_,rfl,rfl,(by omega),D,_,_,_,rfl,rfl,hD2,(by rw [ej,List.length_map,hm2];exact Xmj hj),?_⟩
   exact ⟨fun b u nb e=>by rw [Zn nb];exact hk2 b u nb e,ms2.set j v,_,_,rfl,by rw [List.length_set];exact hm2,by rw [Zb,List.map_set]⟩
  ·rintro σ H2 ⟨hk2,ms2,z1,z2,rfl,hm2,hD2⟩
   refine ⟨_,rfl,_,.new (o:=HO.lst (ms2.map V.int)) hD (fun b u e=>hk2 b u (Zt e hD) e) hD2 trivial,q D ms2 hD (by omega)⟩
noncomputable def spNames31:Sp:=fun vs H Q _=>∃ (c:Int) (m:Nat),vs=[.int c,.int ((m:Nat):Int)]∧0<m∧m≤4∧∀ (D:Addr) (ns:List Str),H D=none→ns.length=m→goodNames ns=true→Q (.ref D) (upd H D (.lst (ns.map V.str)))
theorem Zlg {m:Nat} (nmf:Nat→Str) (h0:0<m) (h4:m≤4) (hi:∀ i j,i<m→j<m→nmf i=nmf j→i=j) (hn:∀ i,i<m→isName (nmf i)=true):goodNames ((List.range m).map nmf)=true:=by
 refine Zeh (by rw [List.length_map,List.length_range];omega) (by rw [List.length_map,List.length_range];omega) ?_ fun n hx=>?_
 ·unfold List.Nodup
  rw [List.pairwise_iff_getElem]
  intro i j h1 h2 hij
  rw [List.length_map,List.length_range] at h1 h2
  rw [List.getElem_map,List.getElem_map,List.getElem_range,List.getElem_range]
  intro z
  have:=hi i j h1 h2 z
  omega
 ·obtain ⟨i,h1,rfl⟩:=List.mem_map.mp hx
  exact hn i (List.mem_range.mp h1)
theorem Xii {x y:Str} {c d:Nat} (e:(x++⟨#[c]⟩)++y=(x++⟨#[d]⟩)++y):c=d:=by
 have e:=congrArg (fun x=>x.cps.toList) e
 simp only [Zz] at e
 have e:=List.append_cancel_left (List.append_cancel_right e)
 have:[c]=[d]:=e
 exact List.head_eq_of_cons_eq this
noncomputable def W7:List Str:=[Str.ofString "whole",Str.ofString "record",Str.ofString "many",Str.ofString "nothing",Str.ofString "span",Str.ofString "letters",Str.ofString "turned"]
theorem Zkj {f:Addr} {fd:FuncData} (nb:NB mg) (F:FunAt K mg "_law_names" Wd ["_law_number","_law_many"] f fd):DefOk P w K mg base 1 "_law_names" ["_law_number","_law_many"] spNames31:=by
 refine F.ok sc_law_names (fun vs H Q E h=>?_) (fun cdv A outer s H vs Q E hr h=>?_)
 ·obtain ⟨_,_,rfl,_⟩:=h;rfl
 obtain ⟨c,m,rfl,hm0,hm4,q⟩:=h
 refine ⟨_,(Zc (Zp (i:=2) sc_law_names.nd rfl (by first | exact Or.inl rfl | exact Or.inr rfl) Ze)
  (Zc (Zp (i:=3) sc_law_names.nd rfl (by first | exact Or.inl rfl | exact Or.inr rfl) (Xb (Za Ze (Za Ze (Za Ze (Za Ze (Za Ze (Za Ze (Za Ze Zd)))))))))
  (Zc (Zp (i:=4) sc_law_names.nd rfl (by first | exact Or.inl rfl | exact Or.inr rfl) (Zh Zv (pv 0) Zf))
  (Zc (Zp (i:=5) sc_law_names.nd rfl (by first | exact Or.inl rfl | exact Or.inr rfl) (Zh oAdd Zf (Zh Zv (Zh Xx (pv 0) Zf) Zf)))
  (Zc (Zp (i:=6) sc_law_names.nd rfl (by first | exact Or.inl rfl | exact Or.inr rfl) (Zh Xx (pv 0) Zf))
  (Zc (Zs (Zi oEq (pv 4) Zf (nomark _)) (Zg (Zm (Jb ["_law_k"] [(3,"_law_words"),(6,"_law_rest")] rfl (by decide +kernel) ⟨rfl,.inl rfl,rfl,.inl rfl,trivial⟩ (Js rfl nb.range_ (Za (pv 1) Zd)) (fun _ _ _ _ _=>(Xn (i:=0) (show (["_law_k","_law_words","_law_rest"]:List Str).Nodup by decide +kernel) rfl (by first | exact Or.inl rfl | exact Or.inr rfl))) (fun _ _ _ _ _=>Yx) (fun _ _ _ _ _=>(Xo iAll (pv 1) (Zh Zv (Zh oAdd (pv 2) (pv 0)) Zf) (fun _ _=>rfl)))))) Zl)
  (Zc (Zp (i:=7) sc_law_names.nd rfl (by first | exact Or.inl rfl | exact Or.inr rfl) Ze)
  (Zc (Xhd PassesOwn.never rfl (Js rfl nb.range_ (Za (pv 5) Zd)) (Xn (i:=8) sc_law_names.nd rfl (by first | exact Or.inl rfl | exact Or.inr rfl))
   (Zc (Zp (i:=7) sc_law_names.nd rfl (by first | exact Or.inl rfl | exact Or.inr rfl) (Zh oAdd (pv 7) (Xo iAll (pv 2) (Zh Zv (Zh oAdd (pv 6) (Zh oMul (pv 8) (pv 8))) Zf) (fun _ _=>rfl))))
   (Zg (Zp (i:=6) sc_law_names.nd rfl (by first | exact Or.inl rfl | exact Or.inr rfl) (Zh Xx (pv 6) Zf)))))
  (Zc (Zs (Zi oEq (pv 4) Zf (nomark _)) (Zg (Zm (Jb ["_law_k"] [(7,"_law_base")] rfl (by decide +kernel) ⟨rfl,.inl rfl,trivial⟩ (Js rfl nb.range_ (Za (pv 1) Zd)) (fun _ _ _ _ _=>(Xn (i:=0) (show (["_law_k","_law_base"]:List Str).Nodup by decide +kernel) rfl (by first | exact Or.inl rfl | exact Or.inr rfl))) (fun _ _ _ _ _=>Yx) (fun _ _ _ _ _=>(Zh oAdd (pv 1) (Zw slAll Ze Yi (Zu (pv 0)))))))) Zl)
  (Zc (Zp (i:=9) sc_law_names.nd rfl (by first | exact Or.inl rfl | exact Or.inr rfl) (Zh Zv (Zh Xx (pv 0) Zf) (pv 5)))
  (Zc (Zp (i:=10) sc_law_names.nd rfl (by first | exact Or.inl rfl | exact Or.inr rfl) (Zcg PySem.F.plainAttrs_str PySem.F.slot_str_index PySem.F.type_str_index Xec (pv 2) (Za (Xo iAll (pv 7) (pv 9) (fun _ _=>rfl)) Zd)))
  (Zc (Zp (i:=11) sc_law_names.nd rfl (by first | exact Or.inl rfl | exact Or.inr rfl) (Zh oAdd (Zw slAll (pv 7) (Zu (Zh oAdd (pv 9) Zf)) Yi) (Xo iAll (Xb (Za Ze (Za Ze Zd))) (Zh Zv (Zh Xx (pv 0) Zf) Zf) (fun _ _=>rfl))))
  (Zg (Zm (Jb ["_law_k"] [(7,"_law_base"),(9,"_law_at"),(2,"_law_letters"),(10,"_law_turn"),(11,"_law_tail")] rfl (by decide +kernel) ⟨rfl,.inl rfl,rfl,.inl rfl,rfl,.inl rfl,rfl,.inl rfl,rfl,.inl rfl,trivial⟩ (Js rfl nb.range_ (Za (pv 1) Zd)) (fun _ _ _ _ _=>(Xn (i:=0) (show (["_law_k","_law_base","_law_at","_law_letters","_law_turn","_law_tail"]:List Str).Nodup by decide +kernel) rfl (by first | exact Or.inl rfl | exact Or.inr rfl))) (fun _ _ _ _ _=>Yx) (fun _ _ _ _ _=>(Zh oAdd (Zh oAdd (Zw slAll (pv 1) Yi (Zu (pv 2))) (Xo iAll (pv 3) (Zh Zv (Zh oAdd (pv 4) (Zh oMul Zf (pv 0))) Zf) (fun _ _=>rfl))) (pv 5)))))))))))))))))),?_⟩
 try dsimp only [cxK0,cxK1,cxK2,cxK3]
 refine ⟨(by show 7≤sizeLine;decide),fun lw hlw=>?_⟩
 have s1:=Zj (o:=HO.lst (W7.map V.str)) hlw
 have e1:upd H lw (.lst (W7.map V.str)) lw=some (.lst (W7.map V.str)):=Zb
 obtain ⟨sz,hsz,esz'⟩:=Wo (c/8) 9 (by decide)
 have esz:c/8%9=((sz:Nat):Int):=esz'
 refine ⟨_,rfl,_,_,rfl,rfl,(by show (0:Int)<4;decide),?_⟩
 refine ⟨_,rfl,_,_,rfl,rfl,⟨by decide,by decide⟩,_,_,rfl,rfl,(by show (0:Int)<9;decide),.inl ⟨_,_,rfl,rfl,?_⟩⟩
 dsimp only
 rw [esz]
 refine ⟨_,rfl,_,_,rfl,rfl,⟨by decide,by decide⟩,?_⟩
 dsimp only
 generalize c/648=r0
 have em:(((m:Nat):Int)).toNat=m:=by omega
 have l26:L26.length≤sizeLine:=by rw [Zui];exact small5 (by decide)
 have l26':L26.cps.toList.length=26:=by rw [Array.length_toList];exact Zui
 refine ⟨_,rfl,rfl,_,rfl,iteD (fun c2=>?_) (fun c2=>?_)⟩
 ·refine ⟨_,rfl,_,rfl,by omega,by omega,fun D hD=>?_⟩
  rw [em]
  have hD':upd H lw (.lst (W7.map V.str)) D=none:=hD
  let nmf:Nat→Str:=fun i=>W7.getD ((r0+(0+((i:Nat):Int)))%7).toNat Str.empty
  have hix:∀ i:Nat,((r0+(0+((i:Nat):Int)))%7).toNat<7∧(r0+(0+((i:Nat):Int)))%7=(((r0+(0+((i:Nat):Int)))%7).toNat:Nat):=fun i=>by
   have h1:=Int.emod_nonneg (r0+(0+((i:Nat):Int))) (show (7:Int)≠0 by decide)
   have h2:=Int.emod_lt_of_pos (r0+(0+((i:Nat):Int))) (show (0:Int)<7 by decide)
   omega
  have hat:∀ i:Nat,atI (W7.map V.str) ((r0+(0+((i:Nat):Int)))%7)=some (.str (nmf i)):=fun i=>by
   obtain ⟨h1,h2⟩:=hix i
   rw [h2]
   exact Zy (by show (W7.map V.str)[((r0+(0+((i:Nat):Int)))%7).toNat]?=some (V.str (W7.getD _ _));rw [List.getElem?_map,List.getD_eq_getElem?_getD,List.getElem?_eq_getElem (show _<W7.length from h1)];rfl)
  refine Zbd (fun i=>V.str (nmf i)) (fun σ=>∃ z,σ=[z,some (.ref lw),some (.int r0)]) (by omega) ⟨_,rfl⟩ hD ?_ ?_
  ·rintro i hi σ1 H1 ⟨z,rfl⟩ hs1 R hR
   exact ⟨_,rfl,_,rfl,_,rfl,.inl ⟨_,_,rfl,rfl,_,_,rfl,rfl,(by show (0:Int)<7;decide),.inl (.inl ⟨_,_,_,_,rfl,rfl,SqL.of (hs1 _ _ e1),hat i,hR _ ⟨_,rfl⟩⟩)⟩⟩
  ·have hs:=s1
   have e:(List.range m).map (fun i=>V.str (nmf i))=((List.range m).map nmf).map V.str:=by rw [List.map_map];rfl
   rw [e]
   have hD0:=hs.free hD
   refine ⟨_,.new hD0 (hs.trans (Zj hD)) Zb trivial,q D ((List.range m).map nmf) hD0 (by rw [List.length_map,List.length_range]) ?_⟩
   refine Zlg nmf hm0 hm4 (fun i j hi hj z=>?_) fun i hi=>?_
   ·have nd:W7.Nodup:=by decide +kernel
    obtain ⟨h1,h2⟩:=hix i
    obtain ⟨h3,h4⟩:=hix j
    have z:W7.getD ((r0+(0+((i:Nat):Int)))%7).toNat Str.empty=W7.getD ((r0+(0+((j:Nat):Int)))%7).toNat Str.empty:=z
    rw [List.getD_eq_getElem?_getD,List.getD_eq_getElem?_getD,List.getElem?_eq_getElem (show _<W7.length from h1),List.getElem?_eq_getElem (show _<W7.length from h3)] at z
    have z2:=(List.getElem_inj nd).mp z
    omega
   ·obtain ⟨h1,h2⟩:=hix i
    have:∀ w∈W7,isName w=true:=by decide +kernel
    refine this _ ?_
    show W7.getD _ _∈W7
    rw [List.getD_eq_getElem?_getD,List.getElem?_eq_getElem (show _<W7.length from h1)]
    exact List.getElem_mem _
 refine ⟨_,rfl,_,rfl,by omega,by omega,?_⟩
 have en:(1+((sz:Nat):Int)).toNat=sz+1:=by omega
 rw [en]
 refine Zqh (fun i σ H2=>Same H H2∧∃ (bs:Str) (num:Int) (z1 z2 z3 z4 z5 z6:Option V),σ=[some (.int c),some (.int ((m:Nat):Int)),some (.str L26),z1,some (.int (c%4)),some (.int ((sz+1:Nat):Int)),some (.int num),some (.str bs),z2,z3,z4,z5]∧bs.length=i∧Tx i L26.cps.toList bs) ?_ ?_ ?_
 ·have e9:(1:Int)+((sz:Nat):Int)=((sz+1:Nat):Int):=by omega
  refine ⟨s1,Str.ofString "",r0,_,none,none,none,none,none,by rw [← e9];rfl,by decide +kernel,by decide +kernel,fun c h=>?_⟩
  rw [show (Str.ofString "").cps.toList=[] by decide +kernel] at h
  cases h
 ·rintro i σ H2 hi ⟨hs,bs,num,z1,z2,z3,z4,z5,z6,rfl,hl,htx⟩
  obtain ⟨k,hk,ek'⟩:=Wo (num+(0+((i:Nat):Int))*(0+((i:Nat):Int))) 26 (by decide)
  have ek:(num+(0+((i:Nat):Int))*(0+((i:Nat):Int)))%26=((k:Nat):Int):=ek'
  obtain ⟨sg,hsg,hat⟩:=Zja (x:=L26) (k:=k) (by rw [Zui];exact hk)
  refine ⟨_,rfl,_,rfl,_,rfl,_,rfl,_,rfl,.inl ⟨_,_,rfl,rfl,.inl ⟨by omega,by omega⟩,.inl ⟨_,_,rfl,rfl,_,_,rfl,rfl,(by show (0:Int)<26;decide),.inr ⟨_,_,_,rfl,rfl,l26,(by rw [ek];exact hat),.inr ⟨_,_,rfl,rfl,small5 (by show _+1≤_;omega),?_⟩⟩⟩⟩⟩
  refine ⟨_,rfl,_,_,rfl,rfl,⟨by decide,by decide⟩,?_⟩
  exact ⟨hs,_,_,_,_,_,_,_,none,rfl,by rw [Zk,hl];rfl,htx.app (Tx.one hsg)⟩
 rintro σ H2 ⟨hs,bs,num,z1,z2,z3,z4,z5,z6,rfl,hl,htx⟩
 have lb:bs.length≤sizeLine:=small5 (by omega)
 refine ⟨_,rfl,rfl,_,rfl,iteD (fun k1=>?_) (fun k1=>?_)⟩
 ·refine ⟨_,rfl,_,rfl,by omega,by omega,fun D hD=>?_⟩
  rw [em]
  have la:(Str.ofString "aaa").length=3:=by decide +kernel
  let nmf:Nat→Str:=fun i=>bs++Txt.slice (Str.ofString "aaa") none (some (0+((i:Nat):Int)))
  have hsl:∀ i:Nat,i<m→(Txt.slice (Str.ofString "aaa") none (some (0+((i:Nat):Int)))).length=i:=fun i hi=>by rw [Int.zero_add];exact Zde _ i (by omega)
  refine Zbd (fun i=>V.str (nmf i)) (fun σ=>∃ z,σ=[z,some (.str bs)]) (by omega) ⟨_,rfl⟩ hD ?_ ?_
  ·rintro i hi σ1 H1 ⟨z,rfl⟩ hs1 R hR
   exact ⟨_,rfl,_,rfl,_,rfl,.inr ⟨_,rfl,small5 (by omega),.inr ⟨_,_,rfl,rfl,small5 (by rw [hsl i hi];omega),hR _ ⟨_,rfl⟩⟩⟩⟩
  ·skip
   have e:(List.range m).map (fun i=>V.str (nmf i))=((List.range m).map nmf).map V.str:=by rw [List.map_map];rfl
   rw [e]
   have hD0:=hs.free hD
   refine ⟨_,.new hD0 (hs.trans (Zj hD)) Zb trivial,q D ((List.range m).map nmf) hD0 (by rw [List.length_map,List.length_range]) ?_⟩
   refine Zlg nmf hm0 hm4 (fun i j hi hj z=>?_) fun i hi=>?_
   ·have:=congrArg Str.length z
    have e1':=hsl i hi
    have e2':=hsl j hj
    have h3:(nmf i).length=bs.length+i:=by show (_++_:Str).length=_;rw [Zk,e1']
    have h4:(nmf j).length=bs.length+j:=by show (_++_:Str).length=_;rw [Zk,e2']
    omega
   ·have e1':=hsl i hi
    refine Zge ⟨?_,?_⟩ ?_
    ·show (_++_:Str).length≤12
     rw [Zk,e1'];omega
    ·have ta:Tx 3 L26.cps.toList (Str.ofString "aaa"):=⟨by omega,by decide +kernel⟩
     exact (htx.app (ta.slice ..)).s
    ·show 0<(_++_:Str).length
     rw [Zk];omega
 ·obtain ⟨a,ha,ea'⟩:=Wo (c/72) (sz+1) (by omega)
  obtain ⟨sg,hsg,hat⟩:=Zja (x:=bs) (k:=a) (by omega)
  have b1:=Zde bs a (by omega)
  have b2:=Zjg bs (a+1) (by omega)
  refine ⟨_,rfl,_,_,rfl,rfl,⟨by decide,by decide⟩,_,rfl,_,_,rfl,rfl,(by omega),?_⟩
  dsimp only
  rw [ea']
  refine ⟨_,rfl,rfl,_,rfl,_,rfl,.inr ⟨_,_,_,rfl,rfl,lb,hat,L26,sg,rfl,rfl,htx.s _ hsg,fun tn=>?_⟩⟩
  obtain ⟨x,hx,hx1⟩:=Zmi V.str [Str.ofString "",Str.ofString "xyz"] (c/4) 2 rfl (by decide)
  have tx:Tx 3 L26.cps.toList x:=by
   have:∀ y∈[Str.ofString "",Str.ofString "xyz"],y.length≤3∧∀ c∈y.cps.toList,c∈L26.cps.toList:=by decide +kernel
   exact ⟨(this x hx).1,(this x hx).2⟩
  have hxl:=tx.n
  have e1':((a:Nat):Int)+1=((a+1:Nat):Int):=by omega
  refine ⟨_,rfl,_,rfl,.inl ⟨_,_,rfl,rfl,_,rfl,.inr ⟨_,rfl,lb,Zjb,fun g hg=>?_⟩⟩⟩
  refine ⟨_,rfl,_,_,rfl,rfl,⟨by decide,by decide⟩,_,_,rfl,rfl,(by show (0:Int)<2;decide),.inl (.inl ⟨_,_,_,_,rfl,rfl,SqL.of Zb,hx1,.inr ⟨_,_,rfl,rfl,small5 (by rw [e1',b2];omega),?_⟩⟩)⟩
  dsimp only
  rw [e1']
  have hs:=hs.trans (Zj (o:=HO.lst ([Str.ofString "",Str.ofString "xyz"].map V.str)) hg)
  obtain ⟨tl,htl⟩:∃ tl,tl=Txt.slice bs (some ((a+1:Nat):Int)) none++x:=⟨_,rfl⟩
  have tt:Tx (sz+1+3) L26.cps.toList tl:=by rw [htl];exact (htx.slice ..).app tx
  have ltl:tl.length≤sz - a+3:=by rw [htl,Zk,b2];omega
  rw [← htl]
  refine ⟨_,rfl,_,rfl,by omega,by omega,fun D hD=>?_⟩
  rw [em]
  let ix:Nat→Nat:=fun i=>((((tn:Nat):Int)+5*(0+((i:Nat):Int)))%26).toNat
  have hix:∀ i,ix i<26∧(((tn:Nat):Int)+5*(0+((i:Nat):Int)))%26=((ix i:Nat):Int):=fun i=>by
   constructor
   ·show Int.toNat _<26
    omega
   ·show _=((Int.toNat _:Nat):Int)
    omega
  let nmf:Nat→Str:=fun i=>(Txt.slice bs none (some ((a:Nat):Int))++⟨#[L26.cps.toList.getD (ix i) 0]⟩)++tl
  refine Zbd (fun i=>V.str (nmf i)) (fun σ=>∃ z,σ=[z,some (.str bs),some (.int ((a:Nat):Int)),some (.str L26),some (.int ((tn:Nat):Int)),some (.str tl)]) (by omega) ⟨_,rfl⟩ hD ?_ ?_
  ·rintro i hi σ1 H1 ⟨z,rfl⟩ hs1 R hR
   obtain ⟨hk,ek⟩:=hix i
   have hat3:atI L26.cps.toList ((ix i:Nat):Int)=some (L26.cps.toList.getD (ix i) 0):=Zy (by rw [List.getD_eq_getElem?_getD,List.getElem?_eq_getElem (by omega)];rfl)
   have e1:(⟨#[L26.cps.toList.getD (ix i) 0]⟩:Str).length=1:=rfl
   refine ⟨_,rfl,_,rfl,_,rfl,.inr ⟨_,rfl,lb,?_⟩⟩
   refine ⟨_,rfl,_,rfl,_,rfl,.inl ⟨_,_,rfl,rfl,.inl ⟨by decide,by decide⟩,.inl ⟨_,_,rfl,rfl,_,_,rfl,rfl,(by show (0:Int)<26;decide),.inr ⟨_,_,_,rfl,rfl,l26,(by rw [ek];exact hat3),.inr ⟨_,_,rfl,rfl,small5 (by omega),?_⟩⟩⟩⟩⟩
   exact ⟨_,rfl,.inr ⟨_,_,rfl,rfl,small5 (by rw [Zk];omega),hR _ ⟨_,rfl⟩⟩⟩
  ·skip
   have e:(List.range m).map (fun i=>V.str (nmf i))=((List.range m).map nmf).map V.str:=by rw [List.map_map];rfl
   rw [e]
   have hD0:=hs.free hD
   refine ⟨_,.new hD0 (hs.trans (Zj hD)) Zb trivial,q D ((List.range m).map nmf) hD0 (by rw [List.length_map,List.length_range]) ?_⟩
   refine Zlg nmf hm0 hm4 (fun i j hi hj z=>?_) fun i hi=>?_
   ·obtain ⟨hk1,ek1⟩:=hix i
    obtain ⟨hk2,ek2⟩:=hix j
    have z3:=Xii z
    rw [List.getD_eq_getElem?_getD,List.getD_eq_getElem?_getD,List.getElem?_eq_getElem (by omega),List.getElem?_eq_getElem (by omega)] at z3
    have z4:=(List.getElem_inj Xfi).mp z3
    omega
   ·obtain ⟨hk,ek⟩:=hix i
    refine Zge ⟨?_,?_⟩ ?_
    ·show (_++_:Str).length≤12
     rw [Zk,Zk,b1]
     show a+1+_≤12
     omega
    ·refine (((htx.slice none (some ((a:Nat):Int))).app (Tx.one ?_)).app tt).s
     rw [List.getD_eq_getElem?_getD,List.getElem?_eq_getElem (by omega)]
     exact List.getElem_mem _
    ·show 0<(_++_:Str).length
     rw [Zk,Zk]
     show 0<_+1+_
     omega
noncomputable def Lists (X:List Addr) (H:Hp):Prop:=∀ x,x∈X→∃ l,H x=some (.lst l)
theorem Lists.tup {X:List Addr} {H H':Hp} (hX:Lists X H) (k:∀ b u,b∉X→H b=some u→H' b=some u) {T:Addr} {xs:List V} (e:H T=some (.tup xs)):H' T=some (.tup xs):=k _ _ (fun z=>by obtain ⟨l,h⟩:=hX T z;rw [h] at e;cases e) e
theorem Lists.grow {X:List Addr} {p:Addr} {H H':Hp} (h:Lists X H) (g:Grow p H H'):Lists X H':=fun x hx=>by
 by_cases z:x=p
 ·subst z
  obtain ⟨ns,e,_⟩:=g.l
  exact ⟨_,e⟩
 ·obtain ⟨l,e⟩:=h x hx
  exact ⟨l,g.k _ _ z e⟩
theorem Lists.keep {X:List Addr} {H H':Hp} (h:Lists X H) (s:Same H H'):Lists X H':=fun x hx=>by
 obtain ⟨l,e⟩:=h x hx
 exact ⟨l,s _ _ e⟩
theorem Lists.nin {X:List Addr} {H:Hp} (h:Lists X H) {a:Addr} (e:H a=none):a∉X:=fun z=>by
 obtain ⟨l,q⟩:=h a z
 rw [e] at q;cases q
mutual
noncomputable def TAt (X:List Addr) (H:Hp):Fm→V→Prop
 | .bare k,v=>∃ T a b,v = .ref T∧H T=some (.tup [.str (bw k),.ref a,.ref b])∧a∉X∧b∉X∧H a=some (.lst [])∧H b=some (.lst [])
 | .sp lo hi,v=>∃ T a b,v = .ref T∧H T=some (.tup [.str (Str.ofString "span"),.ref a,.ref b])∧a∉X∧b∉X∧H a=some (.lst [.int lo,.int hi])∧H b=some (.lst [])
 | .le s,v=>∃ T b,v = .ref T∧H T=some (.tup [.str (Str.ofString "letters"),.str s,.ref b])∧b∉X∧H b=some (.lst [])
 | .one k f,v=>∃ T a b v',v = .ref T∧H T=some (.tup [.str (ow k),.ref a,.ref b])∧a∉X∧b∉X∧H a=some (.lst [])∧H b=some (.lst [v'])∧TAt X H f v'
 | .two k ns fs,v=>∃ T a b vs,v = .ref T∧H T=some (.tup [.str (tw k),.ref a,.ref b])∧a∉X∧b∉X∧H a=some (.lst (ns.map V.str))∧H b=some (.lst vs)∧TsAt X H fs vs
noncomputable def TsAt (X:List Addr) (H:Hp):List Fm→List V→Prop
 | [],vs=>vs=[]
 | f::fs,vs=>∃ v r,vs=v::r∧TAt X H f v∧TsAt X H fs r
end
mutual
theorem TAt.keep {X:List Addr} {H H':Hp} (hX:Lists X H) (k:∀ b u,b∉X→H b=some u→H' b=some u):∀ (f:Fm) {v:V},TAt X H f v→TAt X H' f v
 | .bare i,v,h=>by
  obtain ⟨T,a,b,e,eT,na,nb,ea,eb⟩:=h
  exact ⟨T,a,b,e,hX.tup k eT,na,nb,k _ _ na ea,k _ _ nb eb⟩
 | .sp lo hi,v,h=>by
  obtain ⟨T,a,b,e,eT,na,nb,ea,eb⟩:=h
  exact ⟨T,a,b,e,hX.tup k eT,na,nb,k _ _ na ea,k _ _ nb eb⟩
 | .le s,v,h=>by
  obtain ⟨T,b,e,eT,nb,eb⟩:=h
  exact ⟨T,b,e,hX.tup k eT,nb,k _ _ nb eb⟩
 | .one i f,v,h=>by
  obtain ⟨T,a,b,v',e,eT,na,nb,ea,eb,q⟩:=h
  exact ⟨T,a,b,v',e,hX.tup k eT,na,nb,k _ _ na ea,k _ _ nb eb,TAt.keep hX k f q⟩
 | .two i ns fs,v,h=>by
  obtain ⟨T,a,b,vs,e,eT,na,nb,ea,eb,q⟩:=h
  exact ⟨T,a,b,vs,e,hX.tup k eT,na,nb,k _ _ na ea,k _ _ nb eb,TsAt.keep hX k fs q⟩
theorem TsAt.keep {X:List Addr} {H H':Hp} (hX:Lists X H) (k:∀ b u,b∉X→H b=some u→H' b=some u):∀ (fs:List Fm) {vs:List V},TsAt X H fs vs→TsAt X H' fs vs
 | [],vs,h=>h
 | f::fs,vs,h=>by
  obtain ⟨v,r,e,q,q2⟩:=h
  exact ⟨v,r,e,TAt.keep hX k f q,TsAt.keep hX k fs q2⟩
end
mutual
theorem TAt.weak {X Y:List Addr} {H:Hp} (hs:∀ x,x∈X→x∈Y):∀ (f:Fm) {v:V},TAt Y H f v→TAt X H f v
 | .bare i,v,h=>by
  obtain ⟨T,a,b,e,eT,na,nb,ea,eb⟩:=h
  exact ⟨T,a,b,e,eT,fun z=>na (hs _ z),fun z=>nb (hs _ z),ea,eb⟩
 | .sp lo hi,v,h=>by
  obtain ⟨T,a,b,e,eT,na,nb,ea,eb⟩:=h
  exact ⟨T,a,b,e,eT,fun z=>na (hs _ z),fun z=>nb (hs _ z),ea,eb⟩
 | .le s,v,h=>by
  obtain ⟨T,b,e,eT,nb,eb⟩:=h
  exact ⟨T,b,e,eT,fun z=>nb (hs _ z),eb⟩
 | .one i f,v,h=>by
  obtain ⟨T,a,b,v',e,eT,na,nb,ea,eb,q⟩:=h
  exact ⟨T,a,b,v',e,eT,fun z=>na (hs _ z),fun z=>nb (hs _ z),ea,eb,TAt.weak hs f q⟩
 | .two i ns fs,v,h=>by
  obtain ⟨T,a,b,vs,e,eT,na,nb,ea,eb,q⟩:=h
  exact ⟨T,a,b,vs,e,eT,fun z=>na (hs _ z),fun z=>nb (hs _ z),ea,eb,TsAt.weak hs fs q⟩
theorem TsAt.weak {X Y:List Addr} {H:Hp} (hs:∀ x,x∈X→x∈Y):∀ (fs:List Fm) {vs:List V},TsAt Y H fs vs→TsAt X H fs vs
 | [],vs,h=>h
 | f::fs,vs,h=>by
  obtain ⟨v,r,e,q,q2⟩:=h
  exact ⟨v,r,e,TAt.weak hs f q,TsAt.weak hs fs q2⟩
end
mutual
theorem TAt.add {X:List Addr} {H:Hp} {l:Addr} (hl:H l=none):∀ (f:Fm) {v:V},TAt X H f v→TAt (l::X) H f v
 | .bare i,v,h=>by
  obtain ⟨T,a,b,e,eT,na,nb,ea,eb⟩:=h
  exact ⟨T,a,b,e,eT,fun z=>(List.mem_cons.mp z).elim (fun y=>by rw [y,hl] at ea;cases ea) na,fun z=>(List.mem_cons.mp z).elim (fun y=>by rw [y,hl] at eb;cases eb) nb,ea,eb⟩
 | .sp lo hi,v,h=>by
  obtain ⟨T,a,b,e,eT,na,nb,ea,eb⟩:=h
  exact ⟨T,a,b,e,eT,fun z=>(List.mem_cons.mp z).elim (fun y=>by rw [y,hl] at ea;cases ea) na,fun z=>(List.mem_cons.mp z).elim (fun y=>by rw [y,hl] at eb;cases eb) nb,ea,eb⟩
 | .le s,v,h=>by
  obtain ⟨T,b,e,eT,nb,eb⟩:=h
  exact ⟨T,b,e,eT,fun z=>(List.mem_cons.mp z).elim (fun y=>by rw [y,hl] at eb;cases eb) nb,eb⟩
 | .one i f,v,h=>by
  obtain ⟨T,a,b,v',e,eT,na,nb,ea,eb,q⟩:=h
  exact ⟨T,a,b,v',e,eT,fun z=>(List.mem_cons.mp z).elim (fun y=>by rw [y,hl] at ea;cases ea) na,fun z=>(List.mem_cons.mp z).elim (fun y=>by rw [y,hl] at eb;cases eb) nb,ea,eb,TAt.add hl f q⟩
 | .two i ns fs,v,h=>by
  obtain ⟨T,a,b,vs,e,eT,na,nb,ea,eb,q⟩:=h
  exact ⟨T,a,b,vs,e,eT,fun z=>(List.mem_cons.mp z).elim (fun y=>by rw [y,hl] at ea;cases ea) na,fun z=>(List.mem_cons.mp z).elim (fun y=>by rw [y,hl] at eb;cases eb) nb,ea,eb,TsAt.add hl fs q⟩
theorem TsAt.add {X:List Addr} {H:Hp} {l:Addr} (hl:H l=none):∀ (fs:List Fm) {vs:List V},TsAt X H fs vs→TsAt (l::X) H fs vs
 | [],vs,h=>h
 | f::fs,vs,h=>by
  obtain ⟨v,r,e,q,q2⟩:=h
  exact ⟨v,r,e,TAt.add hl f q,TsAt.add hl fs q2⟩
end
mutual
theorem TAt.same {X:List Addr} {H H':Hp} (s:Same H H'):∀ (f:Fm) {v:V},TAt X H f v→TAt X H' f v
 | .bare i,v,h=>by
  obtain ⟨T,a,b,e,eT,na,nb,ea,eb⟩:=h
  exact ⟨T,a,b,e,s _ _ eT,na,nb,s _ _ ea,s _ _ eb⟩
 | .sp lo hi,v,h=>by
  obtain ⟨T,a,b,e,eT,na,nb,ea,eb⟩:=h
  exact ⟨T,a,b,e,s _ _ eT,na,nb,s _ _ ea,s _ _ eb⟩
 | .le st,v,h=>by
  obtain ⟨T,b,e,eT,nb,eb⟩:=h
  exact ⟨T,b,e,s _ _ eT,nb,s _ _ eb⟩
 | .one i f,v,h=>by
  obtain ⟨T,a,b,v',e,eT,na,nb,ea,eb,q⟩:=h
  exact ⟨T,a,b,v',e,s _ _ eT,na,nb,s _ _ ea,s _ _ eb,TAt.same s f q⟩
 | .two i ns fs,v,h=>by
  obtain ⟨T,a,b,vs,e,eT,na,nb,ea,eb,q⟩:=h
  exact ⟨T,a,b,vs,e,s _ _ eT,na,nb,s _ _ ea,s _ _ eb,TsAt.same s fs q⟩
theorem TsAt.same {X:List Addr} {H H':Hp} (s:Same H H'):∀ (fs:List Fm) {vs:List V},TsAt X H fs vs→TsAt X H' fs vs
 | [],vs,h=>h
 | f::fs,vs,h=>by
  obtain ⟨v,r,e,q,q2⟩:=h
  exact ⟨v,r,e,TAt.same s f q,TsAt.same s fs q2⟩
end
theorem TAt.ext {X:List Addr} {H H':Hp} (hX:Lists X H) (s:Same H H') (f:Fm) {v:V} (h:TAt X H f v):TAt X H' f v:=TAt.keep hX (fun b u _ e=>s b u e) f h
theorem TsAt.snoc {X:List Addr} {H:Hp} {f:Fm} {v:V} (hf:TAt X H f v):∀ (fs:List Fm) {vs:List V},TsAt X H fs vs→TsAt X H (fs++[f]) (vs++[v])
 | [],vs,h=>by
  obtain rfl:vs=[]:=h
  exact ⟨v,[],rfl,hf,rfl⟩
 | g::fs,vs,h=>by
  obtain ⟨o',r,rfl,q,q2⟩:=h
  exact ⟨o',r++[v],rfl,q,TsAt.snoc hf fs q2⟩
theorem TsAt.len {X:List Addr} {H:Hp}:∀ (fs:List Fm) {vs:List V},TsAt X H fs vs→vs.length=fs.length
 | [],vs,h=>by
  obtain rfl:vs=[]:=h
  rfl
 | g::fs,vs,h=>by
  obtain ⟨o',r,rfl,q,q2⟩:=h
  rw [List.length_cons,TsAt.len fs q2];rfl
noncomputable def spSimple31:Sp:=fun vs H Q _=>∃ (w:Str) (c:Int) (b:Bool) (X:List Addr),vs=[.str w,.int c,.bl b]∧((∃ k,w=bw k)∨w=Str.ofString "span"∨w=Str.ofString "letters")∧Lists X H∧∀ v f H',Ext H H'→TAt X H' f v→okF f→ht f=1→(sh f).length≤170→Q v H'
noncomputable def SG:Str:="q7bZaX09cdefghijklmnoprstuvwxyzABCDEFGHIJKLMNOPQRSTUVWY1234568"
theorem Xjd {s:Str} (h:s.cps.toList.Sublist SG.cps.toList) (h1:0<s.length) (h2:s.length≤60):goodText s=true:=by
 have nd:SG.cps.toList.Nodup:=by decide +kernel
 have sb:∀ c∈SG.cps.toList,c∈L62.cps.toList:=by decide +kernel
 unfold goodText
 rw [decide_eq_true ⟨by omega,h2,Zrb (nd.sublist h)⟩,Bool.true_and]
 unfold madeOf
 rw [List.all_eq_true]
 exact fun c hc=>decide_eq_true (sb c (h.subset hc))
theorem Zih {a:Int} (h:a.natAbs<10 ^ 58):(num a).length≤59:=by
 have:=Wp (by decide) h
 have e:(num a).length=(Str.ofString (toString a)).length:=Array.length_toList
 omega
set_option maxHeartbeats 4000000 in
theorem Zhj {f:Addr} {fd:FuncData} (nb:NB mg) (F:FunAt K mg "_law_simple" Yn ["_law_word","_law_number","_law_last"] f fd):DefOk P w K mg base 1 "_law_simple" ["_law_word","_law_number","_law_last"] spSimple31:=by
 refine F.ok sc_law_simple (fun vs H Q E h=>?_) (fun cdv A outer s H vs Q E hr h=>?_)
 ·obtain ⟨_,_,_,_,rfl,_⟩:=h;rfl
 obtain ⟨ww,c,bb,X,rfl,hw,hX,q⟩:=h
 refine ⟨_,(Zc (Zs (Zi oEq (pv 0) Ze (nomark _)) (Zc (Zp (i:=3) sc_law_simple.nd rfl (by first | exact Or.inl rfl | exact Or.inr rfl) (Zh oSub (Zh Zv (Zh Xx (pv 1) Zf) Zf) Zf))
   (Zc (Zp (i:=4) sc_law_simple.nd rfl (by first | exact Or.inl rfl | exact Or.inr rfl) (Zh oAdd (pv 3) (Zh Zv (Zh Xx (pv 1) Zf) Zf)))
   (Zc (Zs (Xv (pv 2) (fun _=>rfl)) (Zc (Zp (i:=3) sc_law_simple.nd rfl (by first | exact Or.inl rfl | exact Or.inr rfl) (Zh oSub (Zh oMul (pv 3) (Zh Zsh Zf Zf)) (Zh Zv (pv 1) (Zh Zsh Zf Zf))))
    (Zg (Zp (i:=4) sc_law_simple.nd rfl (by first | exact Or.inl rfl | exact Or.inr rfl) (Zr (Xfg rfl) rfl nb.max_ Xqh (Za (pv 3) (Za (Zh oMul (Zh Zv (pv 1) (Zh Zsh Zf Zf)) (Zh Zsh Zf Zf)) Zd)))))) Zl)
   (Zg (Zm (Zch (Za (pv 0) (Za (Xb (Za (pv 3) (Za (pv 4) Zd))) (Za (Xb Zd) Zd))))))))) Zl)
  (Zc (Zs (Zi oEq (pv 0) Ze (nomark _)) (Zc (Zp (i:=5) sc_law_simple.nd rfl (by first | exact Or.inl rfl | exact Or.inr rfl) Ze)
   (Zc (Zp (i:=6) sc_law_simple.nd rfl (by first | exact Or.inl rfl | exact Or.inr rfl) (Zh Zv (Zh Xx (pv 1) Zf) Zf))
   (Zg (Zm (Zch (Za (pv 0) (Za (Zw slAll (pv 5) (Zu (pv 6)) (Zu (Zh oAdd (Zh oAdd (pv 6) Zf) (Zh Zv (Zh Xx (pv 1) Zf) (Xo iAll (Xb (Za Zf (Za Zf Zd))) (Yz Qv rfl nb.int_ Zmg (Za (pv 2) Zd)) (fun _ _=>rfl)))))) (Za (Xb Zd) Zd)))))))) Zl)
  (Zg (Zm (Zch (Za (pv 0) (Za (Xb Zd) (Za (Xb Zd) Zd)))))))),?_⟩
 try dsimp only [cxK0,cxK1,cxK2,cxK3]
 rcases hw with ⟨k,rfl⟩ | rfl | rfl
 ·have n1:∀ k:Fin 4,¬V.str (bw k)=V.str (Str.ofString "span"):=by decide +kernel
  have n2:∀ k:Fin 4,¬V.str (bw k)=V.str (Str.ofString "letters"):=by decide +kernel
  refine ⟨_,rfl,rfl,_,rfl,iteN (n1 k) ⟨_,rfl,rfl,_,rfl,iteN (n2 k) ⟨_,rfl,Nat.zero_le _,fun a ha=>⟨Nat.zero_le _,fun b hb=>⟨(by show 3≤sizeLine;decide),fun T hT=>?_⟩⟩⟩⟩⟩
  have E1:=Ext.lst (xs:=[]) ha
  have E2:=Ext.lst (xs:=[]) hb
  have E3:=Ext.tup (xs:=[V.str (bw k),.ref a,.ref b]) hT
  have E:=(E1.trans E2).trans E3
  have hl:(sh (.bare k)).length≤170:=by
   rw [sh]
   have:∀ k:Fin 4,(bw k).cps.toList.length≤170:=by decide +kernel
   exact this k
  refine ⟨_,E.sub,q _ (.bare k) _ E ⟨T,a,b,rfl,Zb,hX.nin ha,(hX.keep E1.s).nin hb,(E2.trans E3).s _ _ Zb,E3.s _ _ Zb⟩ (by rw [okF];trivial) (by rw [ht]) hl⟩
 ·have p9:(0:Int)<10 ^ Int.toNat 9∧(10:Int) ^ Int.toNat 9=1000000000:=by decide +kernel
  have p55:(10:Int) ^ Int.toNat 55=10 ^ 55∧(10:Int) ^ Int.toNat 40=10 ^ 40:=by decide +kernel
  have pw:∀ n:Int,n=55∨n=9∨n=40→CPow 10 n:=fun n hn=>by rcases hn with rfl | rfl | rfl<;>(refine ⟨?_,?_,?_⟩<;>decide)
  obtain ⟨l0,hl0,el0'⟩:=Wo (c/6) 99 (by decide)
  have el0:c/6%99=((l0:Nat):Int):=el0'
  obtain ⟨h0,hh0,eh0'⟩:=Wo (c/600) 50 (by decide)
  have eh0:c/600%50=((h0:Nat):Int):=eh0'
  have fin:∀ (lo hi:Int) (H1:Hp),H1=H→lo≤hi→lo.natAbs<10 ^ 58→hi.natAbs<10 ^ 58→2≤sizeLine∧∀ a,H1 a=none→(0≤sizeLine∧∀ b,upd H1 a (.lst [.int lo,.int hi]) b=none→(3≤sizeLine∧∀ T,upd (upd H1 a (.lst [.int lo,.int hi])) b (.lst []) T=none→∃ H'',L2.Sub H H'' (upd (upd (upd H1 a (.lst [.int lo,.int hi])) b (.lst [])) T (.tup [.str (Str.ofString "span"),.ref a,.ref b]))∧Q (.ref T) H'')):=by
   rintro lo hi H1 rfl hle hlo hhi
   refine ⟨Zjb,fun a ha=>⟨Nat.zero_le _,fun b hb=>⟨by decide,fun T hT=>?_⟩⟩⟩
   have E1:=Ext.lst (xs:=[V.int lo,.int hi]) ha
   have E2:=Ext.lst (xs:=[]) hb
   have E3:=Ext.tup (xs:=[V.str (Str.ofString "span"),.ref a,.ref b]) hT
   have E:=(E1.trans E2).trans E3
   have hl:(sh (.sp lo hi)).length≤170:=by
    have h1:=Zih hlo
    have h2:=Zih hhi
    rw [sh]
    rw [List.length_append,List.length_append,List.length_append,List.length_append,List.length_append,Zae,Qr,Xkf,show (cp "span").length=4 by decide +kernel]
    show 4+(1+(((num lo).length+(2+(num hi).length))+1))≤170
    omega
   exact ⟨_,E.sub,q _ (.sp lo hi) _ E ⟨T,a,b,rfl,Zb,hX.nin ha,(hX.keep E1.s).nin hb,(E2.trans E3).s _ _ Zb,E3.s _ _ Zb⟩ (by rw [okF];exact ⟨hle,hlo,hhi⟩) (by rw [ht]) hl⟩
  refine ⟨_,rfl,rfl,_,rfl,iteY rfl ⟨_,rfl,_,_,rfl,rfl,⟨by decide,by decide⟩,_,_,rfl,rfl,(by show (0:Int)<99;decide),_,_,rfl,rfl,?_⟩⟩
  dsimp only
  rw [el0]
  refine ⟨_,rfl,_,rfl,_,_,rfl,rfl,⟨by decide,by decide⟩,_,_,rfl,rfl,(by show (0:Int)<50;decide),.inl ⟨_,_,rfl,rfl,?_⟩⟩
  dsimp only
  rw [eh0]
  refine ⟨_,rfl,bb,rfl,?_⟩
  cases bb with
  | false =>
   exact iteF ⟨_,rfl,_,rfl,_,rfl,fin _ _ H rfl (by omega) (by omega) (by omega)⟩
  | true =>
   refine iteT ⟨_,rfl,_,_,rfl,rfl,pw _ (.inl rfl),.inl ⟨_,_,rfl,rfl,.inl ⟨by omega,by omega⟩,?_⟩⟩
   refine ⟨_,rfl,_,_,rfl,rfl,pw _ (.inr (.inl rfl)),_,_,rfl,rfl,p9.1,_,_,rfl,rfl,?_⟩
   have m1:=Int.emod_nonneg c (b:=10 ^ Int.toNat 9) (Int.ne_of_gt p9.1)
   have m2:=Int.emod_lt_of_pos c (b:=10 ^ Int.toNat 9) p9.1
   dsimp only
   rw [p55.1]
   rw [p9.2] at m1 m2 ⊢
   generalize c%1000000000=r at m1 m2 ⊢
   refine ⟨_,rfl,_,rfl,_,_,rfl,rfl,pw _ (.inr (.inl rfl)),_,_,rfl,rfl,p9.1,_,_,rfl,rfl,pw _ (.inr (.inr rfl)),.inl ⟨_,_,rfl,rfl,.inl ⟨?_,?_⟩,_,_,rfl,?_⟩⟩
   ·have m3:=Int.emod_nonneg c (b:=10 ^ Int.toNat 9) (Int.ne_of_gt p9.1)
    omega
   ·have m4:=Int.emod_lt_of_pos c (b:=10 ^ Int.toNat 9) p9.1
    rw [p9.2] at m4 ⊢
    omega
   have m3:=Int.emod_nonneg c (b:=10 ^ Int.toNat 9) (Int.ne_of_gt p9.1)
   have m4:=Int.emod_lt_of_pos c (b:=10 ^ Int.toNat 9) p9.1
   dsimp only
   rw [p55.2]
   rw [p9.2] at m3 m4 ⊢
   generalize c%1000000000=r2 at m3 m4 ⊢
   refine ⟨_,rfl,_,rfl,_,rfl,fin _ _ H rfl ?_ ?_ ?_⟩
   ·split<;>omega
   ·omega
   ·split<;>omega
 ·obtain ⟨a0,ha0,ea0'⟩:=Wo (c/6) 40 (by decide)
  have ea0:c/6%40=((a0:Nat):Int):=ea0'
  refine ⟨_,rfl,rfl,_,rfl,iteN (by decide +kernel) ⟨_,rfl,rfl,_,rfl,iteY rfl ?_⟩⟩
  refine ⟨_,rfl,_,_,rfl,rfl,⟨by decide,by decide⟩,_,_,rfl,rfl,(by show (0:Int)<40;decide),?_⟩
  dsimp only
  rw [ea0]
  obtain ⟨x,hx0,hx1,hxa⟩:∃ x:Nat,0<x∧x≤22∧atI [V.int 9,V.int 22] (if bb=true then 1 else 0)=some (.int ((x:Nat):Int)):=by
   cases bb with
   | true=>exact ⟨22,by decide,by decide,Zy (j:=1) rfl⟩
   | false=>exact ⟨9,by decide,by decide,Zy (j:=0) rfl⟩
  obtain ⟨y,hy,ey⟩:=Wo (c/240) x hx0
  have lSG:SG.length=62:=by decide +kernel
  have lS:SG.length≤sizeLine:=by rw [lSG];exact small5 (by decide)
  refine ⟨_,rfl,_,rfl,_,rfl,_,rfl,_,rfl,.inl ⟨_,_,rfl,rfl,_,rfl,_,_,rfl,rfl,⟨by decide,by decide⟩,Zjb,fun g hg=>?_⟩⟩
  refine ⟨_,rfl,.inl (.inr ⟨_,rfl,.inl (.inl ⟨_,_,_,_,rfl,rfl,SqL.of Zb,hxa,_,_,rfl,rfl,(by omega),.inl ⟨_,_,rfl,rfl,_,rfl,.inr ⟨_,rfl,lS,?_⟩⟩⟩)⟩)⟩
  have ek:((a0:Nat):Int)+1+c/240%((x:Nat):Int)=((a0+(1+y):Nat):Int):=by rw [ey];omega
  dsimp only
  rw [ek]
  have ecp:=KM.Jq SG (some ((a0:Nat):Int)) (some ((a0+(1+y):Nat):Int))
  rw [HT.sIx_nat,HT.sIx_nat] at ecp
  obtain ⟨sx,hsx⟩:∃ sx,sx=Txt.slice SG (some ((a0:Nat):Int)) (some ((a0+(1+y):Nat):Int)):=⟨_,rfl⟩
  have esx:Txt.slice SG (some ((a0:Nat):Int)) (some ((a0+(1+y):Nat):Int))=sx:=hsx.symm
  rw [esx] at ecp
  have hsub:sx.cps.toList.Sublist SG.cps.toList:=by rw [ecp];exact (List.take_sublist ..).trans (List.drop_sublist ..)
  have hsl:sx.length=min (a0+(1+y)) 62 - a0:=by
   have:=congrArg List.length ecp
   rw [List.length_take,List.length_drop,Array.length_toList,Array.length_toList] at this
   have e1:sx.length=sx.cps.size:=rfl
   have e2:SG.length=SG.cps.size:=rfl
   rw [lSG] at this
   omega
  have hgt:=Xjd hsub (by omega) (by omega)
  refine ⟨Nat.zero_le _,fun b hb=>⟨(by show 3≤sizeLine;decide),fun T hT=>?_⟩⟩
  have E1:=Ext.lst (xs:=[V.int 9,V.int 22]) hg
  have E2:=Ext.lst (xs:=[]) hb
  have E3:=Ext.tup (xs:=[V.str (Str.ofString "letters"),.str sx,.ref b]) hT
  have E:=(E1.trans E2).trans E3
  have hl:(sh (.le sx)).length≤170:=by
   rw [sh,List.length_append,List.length_append,List.length_append,Zae,Qr,show (cp "letters").length=7 by decide +kernel]
   have e1:sx.cps.toList.length=sx.length:=Array.length_toList
   show 7+(1+(sx.cps.toList.length+1))≤170
   omega
  have fin2:=q (.ref T) (.le sx) _ E ⟨T,b,rfl,Zb,(hX.keep E1.s).nin hb,E3.s _ _ Zb⟩ (by rw [okF];exact ⟨hgt,by omega⟩) (by rw [ht]) hl
  have sub2:=E.sub
  rw [← esx] at fin2 sub2
  exact ⟨_,sub2,fin2⟩
noncomputable def Wds:List Str:=[Str.ofString "nothing",Str.ofString "truth",Str.ofString "whole",Str.ofString "fraction",Str.ofString "span",Str.ofString "letters",Str.ofString "maybe",Str.ofString "many",Str.ofString "turned",Str.ofString "record",Str.ofString "choice"]
noncomputable def spTree (d:Nat):Sp:=fun vs H Q _=>∃ (p:Addr) (dep:Nat) (ms:List Int) (X:List Addr),vs=[.ref p,.int ((dep:Nat):Int)]∧1≤dep∧dep≤d∧H p=some (.lst (ms.map V.int))∧ms.length≤90∧p∈X∧Lists X H∧
 ∀ (v:V) (f:Fm) (H':Hp) (ms':List Int),Grow p H H'→H' p=some (.lst (ms'.map V.int))→ms'.length≤ms.length→TAt X H' f v→okF f→ht f≤dep→(sh f).length+680*ms'.length≤170+680*ms.length→Q v H'
noncomputable def slen:List Fm→Nat
 | []=>0
 | f::fs=>(sh f).length+15+slen fs
theorem Zbj (f:Fm):∀ fs:List Fm,slen (fs++[f])=slen fs+((sh f).length+15)
 | []=>by show (sh f).length+15+0=0+_;omega
 | g::fs=>by show (sh g).length+15+slen (fs++[f])=(sh g).length+15+slen fs+_;rw [Zbj f fs];omega
theorem Jt {f:Fm} (h:okF f):∀ {fs:List Fm},okFs fs→okFs (fs++[f])
 | [],_=>by show okFs [f];rw [okFs,okFs];exact ⟨h,trivial⟩
 | g::fs,h2=>by
  rw [okFs] at h2
  show okFs (g::(fs++[f]))
  rw [okFs]
  exact ⟨h2.1,Jt h h2.2⟩
theorem Qo {f:Fm} {n:Nat} (h:ht f≤n):∀ {fs:List Fm},hts fs≤n→hts (fs++[f])≤n
 | [],_=>by show hts [f]≤n;rw [hts,hts];omega
 | g::fs,h2=>by
  rw [hts] at h2
  show hts (g::(fs++[f]))≤n
  rw [hts]
  have:=Qo h (fs:=fs) (by omega)
  omega
theorem Qg:∀ (fs:List Fm) (ns:List Str),ns.length=fs.length→(∀ n,n∈ns→n.length≤12)→(shs fs ns).length≤slen fs
 | [],ns,h,_=>by rw [shs];exact Nat.zero_le _
 | f::fs,[],h,_=>by cases h
 | f::fs,n::ns,h,hb=>by
  have ih:=Qg fs ns (Nat.succ.inj h) fun x hx=>hb x (List.mem_cons_of_mem _ hx)
  have hn:=hb n (List.mem_cons_self ..)
  have hln:n.cps.toList.length=n.length:=Array.length_toList
  rw [Zai,List.length_append,List.length_append,List.length_append,hln,Xnh]
  have:(tlS fs ns).length≤2+slen fs:=by
   cases fs with
   | nil=>exact Nat.zero_le _
   | cons a b=>unfold tlS;rw [List.length_append,Xkf];show 2+_≤_;omega
  show n.length+(1+_)≤(sh f).length+15+slen fs
  omega
theorem iteNO {c A B:Prop} [Decidable c] (hc:¬c) (h:A):if (!decide c)=true then A else B:=by
 rw [decide_eq_false hc]
 exact h
set_option maxHeartbeats 8000000 in
theorem Zmj {f:Addr} {fd:FuncData} {d:Nat} (nb:NB mg) (F:FunAt K mg "_law_tree" Wj ["_law_left","_law_deep"] f fd) (D_law_simple:DefOk P w K mg base 1 "_law_simple" ["_law_word","_law_number","_law_last"] spSimple31) (D_law_names:DefOk P w K mg base 1 "_law_names" ["_law_number","_law_many"] spNames31)
  (D_law_tree:DefOk P w K mg base (d+2) "_law_tree" ["_law_left","_law_deep"] (spTree d)):DefOk P w K mg base (d+2+1) "_law_tree" ["_law_left","_law_deep"] (spTree (d+1)):=by
 refine F.ok sc_law_tree (fun vs H Q E h=>?_) (fun cdv A outer s H vs Q E hr h=>?_)
 ·obtain ⟨_,_,_,_,rfl,_⟩:=h;rfl
 obtain ⟨p,dep,ms,X,rfl,hd1,hd2,hp,hms,hpX,hX,q⟩:=h
 refine ⟨_,(Zc (Zp (i:=2) sc_law_tree.nd rfl (by first | exact Or.inl rfl | exact Or.inr rfl) (Xb (Za Ze (Za Ze (Za Ze (Za Ze (Za Ze (Za Ze Zd))))))))
  (Zc (Zp (i:=2) sc_law_tree.nd rfl (by first | exact Or.inl rfl | exact Or.inr rfl) (Zh oAdd3 (pv 2) (Xb (Za Ze (Za Ze (Za Ze (Za Ze (Za Ze Zd))))))))
  (Zc (Zs (Zi (oEqL (room64 hr)) (pv 0) (Xb Zd) (nomark _)) (Zg (Zm (Zch (Za Ze (Za (Xb Zd) (Za (Xb Zd) Zd)))))) Zl)
  (Zc (Zp (i:=3) sc_law_tree.nd rfl (by first | exact Or.inl rfl | exact Or.inr rfl) (Xpa PySem.F.plainAttrs_list PySem.F.slot_list_pop PySem.F.type_list_pop Xpi (pv 0)))
  (Zc (Zp (i:=4) sc_law_tree.nd rfl (by first | exact Or.inl rfl | exact Or.inr rfl) (Xo iAll (pv 2) (Zh Zv (pv 3) Zf) (fun _ _=>rfl)))
  (Zc (Zs (PW.pt (Jn (Zi (oEqL (room64 hr)) (pv 1) Zf (nomark _)) (Jd (Zi oGt (Zh Zv (pv 3) Zf) Zf (nomark _))))) (Zg (Zp (i:=4) sc_law_tree.nd rfl (by first | exact Or.inl rfl | exact Or.inr rfl) (Xo iAll (pv 2) (Zh Zv (pv 3) Zf) (fun _ _=>rfl)))) Zl)
  (Zc (Zs (Zi oLt (Zcg PySem.F.plainAttrs_list PySem.F.slot_list_index PySem.F.type_list_index Zqe (pv 2) (Za (pv 4) Zd)) Zf (nomark _)) (Zg (Zm (Zo D_law_simple hr (Za (pv 4) (Za (Zh Xx (pv 3) Zf) (Za (Qq (oEqL (room64 hr)) (pv 0) (Xb Zd) (nomark _)) Zd))) (hk:=by omega)))) Zl)
  (Zc (Zs (Zi oLt (Zcg PySem.F.plainAttrs_list PySem.F.slot_list_index PySem.F.type_list_index Zqe (pv 2) (Za (pv 4) Zd)) Zf (nomark _)) (Zg (Zm (Zch (Za (pv 4) (Za (Xb Zd) (Za (Xb (Za (Zo D_law_tree hr (Za (pv 0) (Za (Zh oSub (pv 1) Zf) Zd)) (hk:=by omega)) Zd)) Zd)))))) Zl)
  (Zc (Zp (i:=5) sc_law_tree.nd rfl (by first | exact Or.inl rfl | exact Or.inr rfl) (Xb (Za (Zo D_law_tree hr (Za (pv 0) (Za (Zh oSub (pv 1) Zf) Zd)) (hk:=by omega)) Zd)))
  (Zc (Qi PassesOwn.never (PW.pt (Jn (Zi (oNeL (room64 hr)) (pv 0) (Xb Zd) (nomark _)) (Jd (Zi oLt (Zr Zx rfl nb.len_ Xf (Za (pv 5) Zd)) (Zh oAdd3 Zf (Zh Zv (Zh Xx (pv 3) Zf) Zf)) (nomark _)))))
   (Zg (Qc (Zcg PySem.F.plainAttrs_list PySem.F.slot_list_append PySem.F.type_list_append Zce (pv 5) (Za (Zo D_law_tree hr (Za (pv 0) (Za (Zh oSub (pv 1) Zf) Zd)) (hk:=by omega)) Zd)))))
  (Zg (Zm (Zch (Za (pv 4) (Za (Zo D_law_names hr (Za (Zh Xx (pv 3) Zf) (Za (Zr Zx rfl nb.len_ Xf (Za (pv 5) Zd)) Zd)) (hk:=by omega)) (Za (pv 5) Zd)))))))))))))))),?_⟩
 try dsimp only [cxK0,cxK1,cxK2,cxK3]
 refine ⟨(by show 6≤sizeLine;decide),fun g1 h1=>⟨_,rfl,(by show 5≤sizeLine;decide),fun g2 h2 => .inr ⟨g1,g2,_,_,rfl,rfl,(Zj h2) _ _ Zb,Zb,(by show 6+5≤sizeLine;decide),fun lw hlw=>?_⟩⟩⟩
 have G0:=(((Grow.refl ⟨ms,hp,hms⟩).ext (Ext.lst h1)).ext (Ext.lst h2)).ext (Ext.lst (xs:=Wds.map V.str) hlw)
 have e0:=Zb (H:=upd (upd H g1 (.lst [V.str (Str.ofString "nothing"),V.str (Str.ofString "truth"),V.str (Str.ofString "whole"),V.str (Str.ofString "fraction"),V.str (Str.ofString "span"),V.str (Str.ofString "letters")])) g2 (.lst [V.str (Str.ofString "maybe"),V.str (Str.ofString "many"),V.str (Str.ofString "turned"),V.str (Str.ofString "record"),V.str (Str.ofString "choice")])) (a:=lw) (o := .lst (Wds.map V.str))
 have hp0:=(Zj (o:=HO.lst (Wds.map V.str)) hlw) _ _ ((Zj h2) _ _ ((Zj h1) _ _ hp))
 change _
 generalize hH1:upd (upd (upd H g1 (.lst [V.str (Str.ofString "nothing"),V.str (Str.ofString "truth"),V.str (Str.ofString "whole"),V.str (Str.ofString "fraction"),V.str (Str.ofString "span"),V.str (Str.ofString "letters")])) g2 (.lst [V.str (Str.ofString "maybe"),V.str (Str.ofString "many"),V.str (Str.ofString "turned"),V.str (Str.ofString "record"),V.str (Str.ofString "choice")])) lw _=H1
 have hH1':upd (upd (upd H g1 (.lst [V.str (Str.ofString "nothing"),V.str (Str.ofString "truth"),V.str (Str.ofString "whole"),V.str (Str.ofString "fraction"),V.str (Str.ofString "span"),V.str (Str.ofString "letters")])) g2 (.lst [V.str (Str.ofString "maybe"),V.str (Str.ofString "many"),V.str (Str.ofString "turned"),V.str (Str.ofString "record"),V.str (Str.ofString "choice")])) lw (.lst (Wds.map V.str))=H1:=hH1
 rw [hH1'] at G0 e0 hp0
 clear hH1 hH1'
 have hX0:=hX.grow G0
 have nlp:lw≠p:=(((Grow.refl ⟨ms,hp,hms⟩).ext (Ext.lst h1)).ext (Ext.lst h2)).ne hlw
 refine ⟨_,rfl,Nat.zero_le _,fun g3 h3 => .inr ⟨p,g3,ms,[],rfl,rfl,(Zj h3) _ _ hp0,Zb,_,rfl,iteD (fun c0=>?_) (fun c0=>?_)⟩⟩
 ·have E0:=Ext.lst (xs:=[]) h3
  refine ⟨Nat.zero_le _,fun a ha=>⟨Nat.zero_le _,fun b hb=>⟨(by show 3≤sizeLine;decide),fun T hT=>?_⟩⟩⟩
  have E1:=Ext.lst (xs:=[]) ha
  have E2:=Ext.lst (xs:=[]) hb
  have E3:=Ext.tup (xs:=[V.str (bw 0),.ref a,.ref b]) hT
  have E:=((E0.trans E1).trans E2).trans E3
  have G:=G0.ext E
  refine ⟨_,G.sub,q _ (.bare 0) _ ms G (E.s _ _ hp0) (Nat.le_refl _) ⟨T,a,b,rfl,Zb,(hX0.keep E0.s).nin ha,(hX0.keep (E0.trans E1).s).nin hb,(E2.trans E3).s _ _ Zb,E3.s _ _ Zb⟩ (by rw [okF];trivial) (by rw [ht];exact hd1) ?_⟩
  rw [sh,show (bw 0).cps.toList.length=7 by decide +kernel];omega
 have E0:=Ext.lst (xs:=[]) h3
 have G1:=G0.ext E0
 have hp1:=E0.s _ _ hp0
 have e1:=E0.s _ _ e0
 generalize upd H1 g3 (.lst [])=H2 at G1 hp1 e1 ⊢
 obtain ⟨ms1,c,rfl⟩:∃ ms1 c,ms=ms1++[c]:=⟨ms.dropLast,ms.getLast c0,(List.dropLast_concat_getLast c0).symm⟩
 have hms1:ms1.length+1=(ms1++[c]).length:=by rw [List.length_append];rfl
 rw [← hms1] at hms
 refine ⟨_,rfl,.inl ⟨rfl,_,SqL.of hp1⟩,p,_,.int c,rfl,rfl,hp1,?_,?_⟩
 ·rw [List.length_map,← hms1,Nat.add_sub_cancel,List.getElem?_map,List.getElem?_append_right (Nat.le_refl _),Nat.sub_self];rfl
 have edl:((ms1++[c]).map V.int).dropLast=ms1.map V.int:=by rw [List.map_append];exact List.dropLast_concat
 rw [edl]
 have hP1:Pool p H2:=G1.l
 have G2:=G1.trans (Grow.pop hP1 (ns:=ms1) (by omega))
 have e2:upd H2 p (.lst (ms1.map V.int)) lw=some (.lst (Wds.map V.str)):=by rw [Zn nlp];exact e1
 have hp2:upd H2 p (.lst (ms1.map V.int)) p=some (.lst (ms1.map V.int)):=Zb
 generalize upd H2 p (.lst (ms1.map V.int))=H3 at G2 e2 hp2 ⊢
 have hX2:=hX.grow G2
 have lW:Wds.length=11:=rfl
 have hWat:∀ j,(hj:j<11)→atI (Wds.map V.str) ((j:Nat):Int)=some (.str (Wds[j]'(by omega))):=fun j hj=>Zy (by rw [List.getElem?_map,List.getElem?_eq_getElem (by omega)];rfl)
 obtain ⟨j1,hj1,ej1'⟩:=Wo c 11 (by decide)
 have ej1:c%11=((j1:Nat):Int):=ej1'
 obtain ⟨j6,hj6,ej6'⟩:=Wo c 6 (by decide)
 have ej6:c%6=((j6:Nat):Int):=ej6'
 refine ⟨_,rfl,_,rfl,_,_,rfl,rfl,(by show (0:Int)<11;decide),.inl (.inl ⟨_,_,_,_,rfl,rfl,SqL.of e2,(by rw [ej1];exact hWat j1 hj1),?_⟩)⟩
 refine ⟨_,rfl,.inl ⟨rfl,_,rfl,iteD (fun k1=>?_) (fun k1=>?_)⟩⟩
 ·have hdep1:dep=1:=by have:=V.int.inj k1;omega
  refine ⟨_,rfl,_,_,rfl,rfl,(by show (0:Int)<11;decide),_,_,rfl,rfl,_,rfl,iteD (fun k2=>?_) (fun k2=>?_)⟩
  ·refine ⟨_,rfl,_,rfl,_,_,rfl,rfl,(by show (0:Int)<6;decide),.inl (.inl ⟨_,_,_,_,rfl,rfl,SqL.of e2,(by rw [ej6];exact hWat j6 (by omega)),?_⟩)⟩
   obtain ⟨j,hj,hjd⟩:∃ j,∃ hj:j=j6,dep=1→j<6:=⟨j6,rfl,fun _=>hj6⟩
   subst hj
   have hj11:j<11:=by omega
   have hget:Wds[j]?=some (Wds[j]'(by omega)):=List.getElem?_eq_getElem (by omega)
   have hno:∀ i,i<j→Wds[i]?≠some (Wds[j]'(by omega)):=fun i hi z=>by
    have nd:Wds.Nodup:=by decide +kernel
    rw [List.getElem?_eq_getElem (by omega)] at z
    have:=(List.getElem_inj nd).mp (Option.some.inj z)
    omega
   refine ⟨_,rfl,.inl ⟨rfl,_,SqL.of e2⟩,_,rfl,lw,Wds,_,j,rfl,rfl,e2,hget,hno,by decide,.inl ⟨_,_,rfl,rfl,_,rfl,iteD (fun z6=>?_) (fun z6=>?_)⟩⟩
   ·refine ⟨_,rfl,_,rfl,_,_,rfl,rfl,⟨by decide,by decide⟩,_,rfl,Nat.zero_le _,fun g4 h4 => .inr ⟨p,g4,ms1,[],rfl,rfl,(Zj h4) _ _ hp2,Zb,?_⟩⟩
    have E4:=Ext.lst (xs:=[]) h4
    refine ⟨_,_,_,X,rfl,?_,hX2.keep E4.s,fun v fm H' E5 hT hok hht hlen=>?_⟩
    ·have hj6:j=0∨j=1∨j=2∨j=3∨j=4∨j=5:=by omega
     rcases hj6 with rfl | rfl | rfl | rfl | rfl | rfl
     ·exact .inl ⟨0,rfl⟩
     ·exact .inl ⟨1,rfl⟩
     ·exact .inl ⟨2,rfl⟩
     ·exact .inl ⟨3,rfl⟩
     ·exact .inr (.inl rfl)
     ·exact .inr (.inr rfl)
    ·have E:=E4.trans E5
     exact ⟨_,(G2.ext E).sub,q v fm H' ms1 (G2.ext E) (E.s _ _ hp2) (by omega) hT hok (by omega) (by omega)⟩
   have hd2':2≤dep:=by
    rcases Nat.lt_or_ge dep 2 with z | z
    ·have:=hjd (by omega);omega
    ·exact z
   have ed:((dep:Nat):Int) - 1=((dep - 1:Nat):Int):=by omega
   refine ⟨_,rfl,.inl ⟨rfl,_,SqL.of e2⟩,_,rfl,lw,Wds,_,j,rfl,rfl,e2,hget,hno,by decide,.inl ⟨_,_,rfl,rfl,_,rfl,iteD (fun z9=>?_) (fun z9=>?_)⟩⟩
   ·refine ⟨_,rfl,Nat.zero_le _,fun a ha=>?_⟩
    have E4:=Ext.lst (xs:=[]) ha
    refine ⟨_,rfl,_,rfl,_,_,rfl,rfl,p,dep - 1,ms1,X,(by rw [← ed];rfl),by omega,by omega,E4.s _ _ hp2,by omega,hpX,hX2.keep E4.s,fun v fm H4 ms2 G4 hp4 hm4 hT hok hht hlen=>⟨Ya,fun b hb=>⟨(by show 3≤sizeLine;decide),fun T hTn=>?_⟩⟩⟩
    have naX:a∉X:=hX2.nin ha
    have ea4:H4 a=some (.lst []):=G4.k _ _ (fun z=>naX (by rw [z];exact hpX)) Zb
    have E5:=Ext.lst (xs:=[v]) hb
    obtain ⟨kk,hkk⟩:∃ kk:Fin 3,Wds[j]'(by omega)=ow kk:=by
     have:j=6∨j=7∨j=8:=by omega
     rcases this with rfl | rfl | rfl
     ·exact ⟨0,rfl⟩
     ·exact ⟨1,rfl⟩
     ·exact ⟨2,rfl⟩
    rw [hkk]
    have E6:=Ext.tup (xs:=[V.str (ow kk),.ref a,.ref b]) hTn
    have E:=E5.trans E6
    have G:=((G2.ext E4).trans G4).ext E
    have hX4:=(hX2.keep E4.s).grow G4
    refine ⟨_,G.sub,q _ (.one kk fm) _ ms2 G (E.s _ _ hp4) (by omega) ⟨T,a,b,v,rfl,Zb,naX,hX4.nin hb,E.s _ _ ea4,E6.s _ _ Zb,TAt.ext hX4 E.s fm hT⟩ (by rw [okF];exact hok) (by rw [ht];omega) ?_⟩
    rw [sh,List.length_append,List.length_append,List.length_append,Zae,Qr]
    have lo:(ow kk).cps.toList.length≤6:=by
     have:∀ k:Fin 3,(ow k).cps.toList.length≤6:=by decide +kernel
     exact this kk
    show _+(1+((sh fm).length+1))+_≤_
    omega
   refine ⟨_,rfl,_,rfl,_,_,rfl,rfl,p,dep - 1,ms1,X,(by rw [← ed];rfl),by omega,by omega,hp2,by omega,hpX,hX2,fun v0 f0 H4 ms2 G4 hp4 hm4 hT0 hok0 hht0 hlen0=>⟨Ya,fun l hl=>?_⟩⟩
   have G5:=G2.trans G4
   have E5:=Ext.lst (xs:=[v0]) hl
   have hX4:=hX2.grow G4
   have nlX:l∉X:=hX4.nin hl
   have nlp2:l≠p:=fun z=>nlX (by rw [z];exact hpX)
   have hl0:H l=none:=G5.free hl
   have nll:lw≠l:=fun z=>by
    have:=G4.k _ _ nlp e2
    rw [z,hl] at this;cases this
   obtain ⟨x4,hx4,ex4'⟩:=Wo (c/66) 4 (by decide)
   have ex4:c/66%4=((x4:Nat):Int):=ex4'
   refine ⟨fun m σ H5=>∃ (fs:List Fm) (vs:List V) (ms3:List Int),m=4 - fs.length∧σ=[some (.ref p),some (.int ((dep:Nat):Int)),some (.ref lw),some (.int c),some (.str (Wds[j]'(by omega))),some (.ref l)]∧Grow p H H5∧H5 p=some (.lst (ms3.map V.int))∧ms3.length≤ms1.length∧H5 l=some (.lst vs)∧TsAt (l::X) H5 fs vs∧Lists (l::X) H5∧okFs fs∧hts fs≤dep - 1∧1≤fs.length∧fs.length≤4∧slen fs+680*ms3.length≤185*fs.length+680*ms1.length,⟨3,[f0],[v0],ms2,rfl,rfl,G5.ext E5,E5.s _ _ hp4,hm4,Zb,⟨v0,[],rfl,?_,rfl⟩,?_,Jt (fs:=[]) hok0 (by rw [okFs];trivial),Qo (fs:=[]) (by omega) (by rw [hts];exact Nat.zero_le _),Nat.le_refl _,(by show 1≤4;decide),?_⟩,?_⟩
   ·exact TAt.same E5.s f0 (TAt.add hl f0 hT0)
   ·intro x hx
    rcases List.mem_cons.mp hx with z | z
    ·rw [z];exact ⟨_,Zb⟩
    ·exact (hX4.keep E5.s) x z
   ·show (sh f0).length+15+0+680*ms2.length≤185*1+680*ms1.length
    omega
   rintro m σ H5 ⟨fs,vs,ms3,rfl,rfl,g5,hp5,hm5,hl5,hT5,hX5,hok5,hht5,hf1,hf4,hlen5⟩
   have hvl:=TsAt.len fs hT5
   refine ⟨_,rfl,Nat.zero_le _,fun g6 h6 => .inr ⟨p,g6,ms3,[],rfl,rfl,(Zj h6) _ _ hp5,Zb,_,rfl,?_⟩⟩
   have E6:=Ext.lst (xs:=[]) h6
   have g6':=g5.ext E6
   have hp6:=E6.s _ _ hp5
   have hl6:=E6.s _ _ hl5
   have hT6:=TsAt.same E6.s fs hT5
   have hX6:=hX5.keep E6.s
   generalize upd H5 g6 (.lst [])=H6 at g6' hp6 hl6 hT6 hX6 ⊢
   by_cases hm3:ms3=[]
   ·refine iteNS hm3 ?_
    refine ⟨_,rfl,_,rfl,_,_,rfl,rfl,⟨by decide,by decide⟩,_,rfl,_,_,rfl,.inl ⟨_,SqL.of hl6,rfl⟩,_,vs.length,rfl,by omega,by omega,fun D ns hD hnl hgn=>⟨_,rfl,(by show 3≤sizeLine;decide),fun T hTn=>?_⟩⟩
    obtain ⟨kk,hkk⟩:∃ kk:Fin 2,Wds[j]'(by omega)=tw kk:=by
     have:j=9∨j=10:=by omega
     rcases this with rfl | rfl
     ·exact ⟨0,rfl⟩
     ·exact ⟨1,rfl⟩
    rw [hkk]
    have ED:=Ext.lst (xs:=ns.map V.str) hD
    have ET:=Ext.tup (xs:=[V.str (tw kk),.ref D,.ref l]) hTn
    have E:=ED.trans ET
    have G:=g6'.ext E
    have hDX:D∉l::X:=hX6.nin hD
    refine ⟨_,G.sub,q _ (.two kk ns fs) _ ms3 G (E.s _ _ hp6) (by omega) ⟨T,D,l,vs,rfl,Zb,fun z=>hDX (List.mem_cons_of_mem _ z),nlX,ET.s _ _ Zb,E.s _ _ hl6,TsAt.weak (fun x hx=>List.mem_cons_of_mem _ hx) fs (TsAt.same E.s fs hT6)⟩ (by rw [okF];exact ⟨hgn,by omega,hok5⟩) (by rw [ht];omega) ?_⟩
    have hsl:=Qg fs ns (by omega) (Xp hgn).2
    rw [sh,List.length_append,List.length_append,List.length_append,Zae,Qr]
    have lo:(tw kk).cps.toList.length≤6:=by
     have:∀ k:Fin 2,(tw k).cps.toList.length≤6:=by decide +kernel
     exact this kk
    show _+(1+((shs fs ns).length+1))+_≤_
    omega
   refine iteNO hm3 ?_
   refine ⟨_,rfl,_,_,rfl,.inl ⟨_,SqL.of hl6,rfl⟩,_,rfl,_,_,rfl,rfl,⟨by decide,by decide⟩,_,_,rfl,rfl,(by show (0:Int)<4;decide),.inl (.inl ⟨_,_,rfl,rfl,.inl ⟨_,_,rfl,rfl,_,rfl,iteD (fun zl=>?_) (fun zl=>?_)⟩⟩)⟩
   ·rw [ex4] at zl
    have hfl:fs.length<4:=by omega
    refine ⟨fun σ' H'=>∃ m',m'<4 - fs.length∧∃ (fs:List Fm) (vs:List V) (ms3:List Int),m'=4 - fs.length∧σ'=[some (.ref p),some (.int ((dep:Nat):Int)),some (.ref lw),some (.int c),some (.str (Wds[j]'(by omega))),some (.ref l)]∧Grow p H H'∧H' p=some (.lst (ms3.map V.int))∧ms3.length≤ms1.length∧H' l=some (.lst vs)∧TsAt (l::X) H' fs vs∧Lists (l::X) H'∧okFs fs∧hts fs≤dep - 1∧1≤fs.length∧fs.length≤4∧slen fs+680*ms3.length≤185*fs.length+680*ms1.length,fun _ _ h=>h,?_⟩
    refine ⟨_,rfl,.inl ⟨rfl,_,SqL.of hl6⟩,_,rfl,_,rfl,_,_,rfl,rfl,p,dep - 1,ms3,l::X,(by rw [← ed];rfl),by omega,by omega,hp6,by omega,List.mem_cons_of_mem _ hpX,hX6,fun v7 f7 H7 ms7 G7 hp7 hm7 hT7 hok7 hht7 hlen7=>?_⟩
    have hl7:=G7.k _ _ nlp2 hl6
    have hX7:=hX6.grow G7
    refine ⟨l,_,_,rfl,rfl,hl7,(by rw [hvl];exact Nat.lt_of_lt_of_le (show fs.length<100000 by omega) (by decide)),?_⟩
    have k7:∀ b u,b∉l::X→H7 b=some u→upd H7 l (.lst (vs++[v7])) b=some u:=fun b u nb e=>by rw [Zn (fun z=>nb (by rw [z];exact List.mem_cons_self ..))];exact e
    have k6:∀ b u,b∉l::X→H6 b=some u→upd H7 l (.lst (vs++[v7])) b=some u:=fun b u nb e=>k7 b u nb (G7.k b u (fun z=>nb (by rw [z];exact List.mem_cons_of_mem _ hpX)) e)
    refine ⟨4 - (fs++[f7]).length,by rw [List.length_append,List.length_singleton];omega,fs++[f7],vs++[v7],ms7,rfl,rfl,(g6'.trans G7).set hl0 hl7 nlp2,by rw [Zn (Ne.symm nlp2)];exact hp7,by omega,Zb,TsAt.snoc (TAt.keep hX7 k7 f7 hT7) fs (TsAt.keep hX6 k6 fs hT6),?_,Jt hok7 hok5,Qo hht7 hht5,by rw [List.length_append];omega,by rw [List.length_append,List.length_singleton];omega,?_⟩
    ·intro x hx
     by_cases z:x=l
     ·rw [z];exact ⟨_,Zb⟩
     ·obtain ⟨y,hy⟩:=hX7 x hx
      exact ⟨y,by rw [Zn z];exact hy⟩
    ·rw [Zbj,List.length_append,List.length_singleton];omega
   ·skip
    refine ⟨_,rfl,_,rfl,_,_,rfl,rfl,⟨by decide,by decide⟩,_,rfl,_,_,rfl,.inl ⟨_,SqL.of hl6,rfl⟩,_,vs.length,rfl,by omega,by omega,fun D ns hD hnl hgn=>⟨_,rfl,(by show 3≤sizeLine;decide),fun T hTn=>?_⟩⟩
    obtain ⟨kk,hkk⟩:∃ kk:Fin 2,Wds[j]'(by omega)=tw kk:=by
     have:j=9∨j=10:=by omega
     rcases this with rfl | rfl
     ·exact ⟨0,rfl⟩
     ·exact ⟨1,rfl⟩
    rw [hkk]
    have ED:=Ext.lst (xs:=ns.map V.str) hD
    have ET:=Ext.tup (xs:=[V.str (tw kk),.ref D,.ref l]) hTn
    have E:=ED.trans ET
    have G:=g6'.ext E
    have hDX:D∉l::X:=hX6.nin hD
    refine ⟨_,G.sub,q _ (.two kk ns fs) _ ms3 G (E.s _ _ hp6) (by omega) ⟨T,D,l,vs,rfl,Zb,fun z=>hDX (List.mem_cons_of_mem _ z),nlX,ET.s _ _ Zb,E.s _ _ hl6,TsAt.weak (fun x hx=>List.mem_cons_of_mem _ hx) fs (TsAt.same E.s fs hT6)⟩ (by rw [okF];exact ⟨hgn,by omega,hok5⟩) (by rw [ht];omega) ?_⟩
    have hsl:=Qg fs ns (by omega) (Xp hgn).2
    rw [sh,List.length_append,List.length_append,List.length_append,Zae,Qr]
    have lo:(tw kk).cps.toList.length≤6:=by
     have:∀ k:Fin 2,(tw k).cps.toList.length≤6:=by decide +kernel
     exact this kk
    show _+(1+((shs fs ns).length+1))+_≤_
    omega
  ·obtain ⟨j,hj,hjd⟩:∃ j,∃ hj:j=j1,dep=1→j<6:=⟨j1,rfl,fun _=>by rw [ej1] at k2;omega⟩
   subst hj
   have hj11:j<11:=by omega
   have hget:Wds[j]?=some (Wds[j]'(by omega)):=List.getElem?_eq_getElem (by omega)
   have hno:∀ i,i<j→Wds[i]?≠some (Wds[j]'(by omega)):=fun i hi z=>by
    have nd:Wds.Nodup:=by decide +kernel
    rw [List.getElem?_eq_getElem (by omega)] at z
    have:=(List.getElem_inj nd).mp (Option.some.inj z)
    omega
   refine ⟨_,rfl,.inl ⟨rfl,_,SqL.of e2⟩,_,rfl,lw,Wds,_,j,rfl,rfl,e2,hget,hno,by decide,.inl ⟨_,_,rfl,rfl,_,rfl,iteD (fun z6=>?_) (fun z6=>?_)⟩⟩
   ·refine ⟨_,rfl,_,rfl,_,_,rfl,rfl,⟨by decide,by decide⟩,_,rfl,Nat.zero_le _,fun g4 h4 => .inr ⟨p,g4,ms1,[],rfl,rfl,(Zj h4) _ _ hp2,Zb,?_⟩⟩
    have E4:=Ext.lst (xs:=[]) h4
    refine ⟨_,_,_,X,rfl,?_,hX2.keep E4.s,fun v fm H' E5 hT hok hht hlen=>?_⟩
    ·have hj6:j=0∨j=1∨j=2∨j=3∨j=4∨j=5:=by omega
     rcases hj6 with rfl | rfl | rfl | rfl | rfl | rfl
     ·exact .inl ⟨0,rfl⟩
     ·exact .inl ⟨1,rfl⟩
     ·exact .inl ⟨2,rfl⟩
     ·exact .inl ⟨3,rfl⟩
     ·exact .inr (.inl rfl)
     ·exact .inr (.inr rfl)
    ·have E:=E4.trans E5
     exact ⟨_,(G2.ext E).sub,q v fm H' ms1 (G2.ext E) (E.s _ _ hp2) (by omega) hT hok (by omega) (by omega)⟩
   have hd2':2≤dep:=by
    rcases Nat.lt_or_ge dep 2 with z | z
    ·have:=hjd (by omega);omega
    ·exact z
   have ed:((dep:Nat):Int) - 1=((dep - 1:Nat):Int):=by omega
   refine ⟨_,rfl,.inl ⟨rfl,_,SqL.of e2⟩,_,rfl,lw,Wds,_,j,rfl,rfl,e2,hget,hno,by decide,.inl ⟨_,_,rfl,rfl,_,rfl,iteD (fun z9=>?_) (fun z9=>?_)⟩⟩
   ·refine ⟨_,rfl,Nat.zero_le _,fun a ha=>?_⟩
    have E4:=Ext.lst (xs:=[]) ha
    refine ⟨_,rfl,_,rfl,_,_,rfl,rfl,p,dep - 1,ms1,X,(by rw [← ed];rfl),by omega,by omega,E4.s _ _ hp2,by omega,hpX,hX2.keep E4.s,fun v fm H4 ms2 G4 hp4 hm4 hT hok hht hlen=>⟨Ya,fun b hb=>⟨(by show 3≤sizeLine;decide),fun T hTn=>?_⟩⟩⟩
    have naX:a∉X:=hX2.nin ha
    have ea4:H4 a=some (.lst []):=G4.k _ _ (fun z=>naX (by rw [z];exact hpX)) Zb
    have E5:=Ext.lst (xs:=[v]) hb
    obtain ⟨kk,hkk⟩:∃ kk:Fin 3,Wds[j]'(by omega)=ow kk:=by
     have:j=6∨j=7∨j=8:=by omega
     rcases this with rfl | rfl | rfl
     ·exact ⟨0,rfl⟩
     ·exact ⟨1,rfl⟩
     ·exact ⟨2,rfl⟩
    rw [hkk]
    have E6:=Ext.tup (xs:=[V.str (ow kk),.ref a,.ref b]) hTn
    have E:=E5.trans E6
    have G:=((G2.ext E4).trans G4).ext E
    have hX4:=(hX2.keep E4.s).grow G4
    refine ⟨_,G.sub,q _ (.one kk fm) _ ms2 G (E.s _ _ hp4) (by omega) ⟨T,a,b,v,rfl,Zb,naX,hX4.nin hb,E.s _ _ ea4,E6.s _ _ Zb,TAt.ext hX4 E.s fm hT⟩ (by rw [okF];exact hok) (by rw [ht];omega) ?_⟩
    rw [sh,List.length_append,List.length_append,List.length_append,Zae,Qr]
    have lo:(ow kk).cps.toList.length≤6:=by
     have:∀ k:Fin 3,(ow k).cps.toList.length≤6:=by decide +kernel
     exact this kk
    show _+(1+((sh fm).length+1))+_≤_
    omega
   refine ⟨_,rfl,_,rfl,_,_,rfl,rfl,p,dep - 1,ms1,X,(by rw [← ed];rfl),by omega,by omega,hp2,by omega,hpX,hX2,fun v0 f0 H4 ms2 G4 hp4 hm4 hT0 hok0 hht0 hlen0=>⟨Ya,fun l hl=>?_⟩⟩
   have G5:=G2.trans G4
   have E5:=Ext.lst (xs:=[v0]) hl
   have hX4:=hX2.grow G4
   have nlX:l∉X:=hX4.nin hl
   have nlp2:l≠p:=fun z=>nlX (by rw [z];exact hpX)
   have hl0:H l=none:=G5.free hl
   have nll:lw≠l:=fun z=>by
    have:=G4.k _ _ nlp e2
    rw [z,hl] at this;cases this
   obtain ⟨x4,hx4,ex4'⟩:=Wo (c/66) 4 (by decide)
   have ex4:c/66%4=((x4:Nat):Int):=ex4'
   refine ⟨fun m σ H5=>∃ (fs:List Fm) (vs:List V) (ms3:List Int),m=4 - fs.length∧σ=[some (.ref p),some (.int ((dep:Nat):Int)),some (.ref lw),some (.int c),some (.str (Wds[j]'(by omega))),some (.ref l)]∧Grow p H H5∧H5 p=some (.lst (ms3.map V.int))∧ms3.length≤ms1.length∧H5 l=some (.lst vs)∧TsAt (l::X) H5 fs vs∧Lists (l::X) H5∧okFs fs∧hts fs≤dep - 1∧1≤fs.length∧fs.length≤4∧slen fs+680*ms3.length≤185*fs.length+680*ms1.length,⟨3,[f0],[v0],ms2,rfl,rfl,G5.ext E5,E5.s _ _ hp4,hm4,Zb,⟨v0,[],rfl,?_,rfl⟩,?_,Jt (fs:=[]) hok0 (by rw [okFs];trivial),Qo (fs:=[]) (by omega) (by rw [hts];exact Nat.zero_le _),Nat.le_refl _,(by show 1≤4;decide),?_⟩,?_⟩
   ·exact TAt.same E5.s f0 (TAt.add hl f0 hT0)
   ·intro x hx
    rcases List.mem_cons.mp hx with z | z
    ·rw [z];exact ⟨_,Zb⟩
    ·exact (hX4.keep E5.s) x z
   ·show (sh f0).length+15+0+680*ms2.length≤185*1+680*ms1.length
    omega
   rintro m σ H5 ⟨fs,vs,ms3,rfl,rfl,g5,hp5,hm5,hl5,hT5,hX5,hok5,hht5,hf1,hf4,hlen5⟩
   have hvl:=TsAt.len fs hT5
   refine ⟨_,rfl,Nat.zero_le _,fun g6 h6 => .inr ⟨p,g6,ms3,[],rfl,rfl,(Zj h6) _ _ hp5,Zb,_,rfl,?_⟩⟩
   have E6:=Ext.lst (xs:=[]) h6
   have g6':=g5.ext E6
   have hp6:=E6.s _ _ hp5
   have hl6:=E6.s _ _ hl5
   have hT6:=TsAt.same E6.s fs hT5
   have hX6:=hX5.keep E6.s
   generalize upd H5 g6 (.lst [])=H6 at g6' hp6 hl6 hT6 hX6 ⊢
   by_cases hm3:ms3=[]
   ·refine iteNS hm3 ?_
    refine ⟨_,rfl,_,rfl,_,_,rfl,rfl,⟨by decide,by decide⟩,_,rfl,_,_,rfl,.inl ⟨_,SqL.of hl6,rfl⟩,_,vs.length,rfl,by omega,by omega,fun D ns hD hnl hgn=>⟨_,rfl,(by show 3≤sizeLine;decide),fun T hTn=>?_⟩⟩
    obtain ⟨kk,hkk⟩:∃ kk:Fin 2,Wds[j]'(by omega)=tw kk:=by
     have:j=9∨j=10:=by omega
     rcases this with rfl | rfl
     ·exact ⟨0,rfl⟩
     ·exact ⟨1,rfl⟩
    rw [hkk]
    have ED:=Ext.lst (xs:=ns.map V.str) hD
    have ET:=Ext.tup (xs:=[V.str (tw kk),.ref D,.ref l]) hTn
    have E:=ED.trans ET
    have G:=g6'.ext E
    have hDX:D∉l::X:=hX6.nin hD
    refine ⟨_,G.sub,q _ (.two kk ns fs) _ ms3 G (E.s _ _ hp6) (by omega) ⟨T,D,l,vs,rfl,Zb,fun z=>hDX (List.mem_cons_of_mem _ z),nlX,ET.s _ _ Zb,E.s _ _ hl6,TsAt.weak (fun x hx=>List.mem_cons_of_mem _ hx) fs (TsAt.same E.s fs hT6)⟩ (by rw [okF];exact ⟨hgn,by omega,hok5⟩) (by rw [ht];omega) ?_⟩
    have hsl:=Qg fs ns (by omega) (Xp hgn).2
    rw [sh,List.length_append,List.length_append,List.length_append,Zae,Qr]
    have lo:(tw kk).cps.toList.length≤6:=by
     have:∀ k:Fin 2,(tw k).cps.toList.length≤6:=by decide +kernel
     exact this kk
    show _+(1+((shs fs ns).length+1))+_≤_
    omega
   refine iteNO hm3 ?_
   refine ⟨_,rfl,_,_,rfl,.inl ⟨_,SqL.of hl6,rfl⟩,_,rfl,_,_,rfl,rfl,⟨by decide,by decide⟩,_,_,rfl,rfl,(by show (0:Int)<4;decide),.inl (.inl ⟨_,_,rfl,rfl,.inl ⟨_,_,rfl,rfl,_,rfl,iteD (fun zl=>?_) (fun zl=>?_)⟩⟩)⟩
   ·rw [ex4] at zl
    have hfl:fs.length<4:=by omega
    refine ⟨fun σ' H'=>∃ m',m'<4 - fs.length∧∃ (fs:List Fm) (vs:List V) (ms3:List Int),m'=4 - fs.length∧σ'=[some (.ref p),some (.int ((dep:Nat):Int)),some (.ref lw),some (.int c),some (.str (Wds[j]'(by omega))),some (.ref l)]∧Grow p H H'∧H' p=some (.lst (ms3.map V.int))∧ms3.length≤ms1.length∧H' l=some (.lst vs)∧TsAt (l::X) H' fs vs∧Lists (l::X) H'∧okFs fs∧hts fs≤dep - 1∧1≤fs.length∧fs.length≤4∧slen fs+680*ms3.length≤185*fs.length+680*ms1.length,fun _ _ h=>h,?_⟩
    refine ⟨_,rfl,.inl ⟨rfl,_,SqL.of hl6⟩,_,rfl,_,rfl,_,_,rfl,rfl,p,dep - 1,ms3,l::X,(by rw [← ed];rfl),by omega,by omega,hp6,by omega,List.mem_cons_of_mem _ hpX,hX6,fun v7 f7 H7 ms7 G7 hp7 hm7 hT7 hok7 hht7 hlen7=>?_⟩
    have hl7:=G7.k _ _ nlp2 hl6
    have hX7:=hX6.grow G7
    refine ⟨l,_,_,rfl,rfl,hl7,(by rw [hvl];exact Nat.lt_of_lt_of_le (show fs.length<100000 by omega) (by decide)),?_⟩
    have k7:∀ b u,b∉l::X→H7 b=some u→upd H7 l (.lst (vs++[v7])) b=some u:=fun b u nb e=>by rw [Zn (fun z=>nb (by rw [z];exact List.mem_cons_self ..))];exact e
    have k6:∀ b u,b∉l::X→H6 b=some u→upd H7 l (.lst (vs++[v7])) b=some u:=fun b u nb e=>k7 b u nb (G7.k b u (fun z=>nb (by rw [z];exact List.mem_cons_of_mem _ hpX)) e)
    refine ⟨4 - (fs++[f7]).length,by rw [List.length_append,List.length_singleton];omega,fs++[f7],vs++[v7],ms7,rfl,rfl,(g6'.trans G7).set hl0 hl7 nlp2,by rw [Zn (Ne.symm nlp2)];exact hp7,by omega,Zb,TsAt.snoc (TAt.keep hX7 k7 f7 hT7) fs (TsAt.keep hX6 k6 fs hT6),?_,Jt hok7 hok5,Qo hht7 hht5,by rw [List.length_append];omega,by rw [List.length_append,List.length_singleton];omega,?_⟩
    ·intro x hx
     by_cases z:x=l
     ·rw [z];exact ⟨_,Zb⟩
     ·obtain ⟨y,hy⟩:=hX7 x hx
      exact ⟨y,by rw [Zn z];exact hy⟩
    ·rw [Zbj,List.length_append,List.length_singleton];omega
   ·skip
    refine ⟨_,rfl,_,rfl,_,_,rfl,rfl,⟨by decide,by decide⟩,_,rfl,_,_,rfl,.inl ⟨_,SqL.of hl6,rfl⟩,_,vs.length,rfl,by omega,by omega,fun D ns hD hnl hgn=>⟨_,rfl,(by show 3≤sizeLine;decide),fun T hTn=>?_⟩⟩
    obtain ⟨kk,hkk⟩:∃ kk:Fin 2,Wds[j]'(by omega)=tw kk:=by
     have:j=9∨j=10:=by omega
     rcases this with rfl | rfl
     ·exact ⟨0,rfl⟩
     ·exact ⟨1,rfl⟩
    rw [hkk]
    have ED:=Ext.lst (xs:=ns.map V.str) hD
    have ET:=Ext.tup (xs:=[V.str (tw kk),.ref D,.ref l]) hTn
    have E:=ED.trans ET
    have G:=g6'.ext E
    have hDX:D∉l::X:=hX6.nin hD
    refine ⟨_,G.sub,q _ (.two kk ns fs) _ ms3 G (E.s _ _ hp6) (by omega) ⟨T,D,l,vs,rfl,Zb,fun z=>hDX (List.mem_cons_of_mem _ z),nlX,ET.s _ _ Zb,E.s _ _ hl6,TsAt.weak (fun x hx=>List.mem_cons_of_mem _ hx) fs (TsAt.same E.s fs hT6)⟩ (by rw [okF];exact ⟨hgn,by omega,hok5⟩) (by rw [ht];omega) ?_⟩
    have hsl:=Qg fs ns (by omega) (Xp hgn).2
    rw [sh,List.length_append,List.length_append,List.length_append,Zae,Qr]
    have lo:(tw kk).cps.toList.length≤6:=by
     have:∀ k:Fin 2,(tw k).cps.toList.length≤6:=by decide +kernel
     exact this kk
    show _+(1+((shs fs ns).length+1))+_≤_
    omega
 ·obtain ⟨j,hj,hjd⟩:∃ j,∃ hj:j=j1,dep=1→j<6:=⟨j1,rfl,fun z=>absurd (by rw [z];rfl) k1⟩
  subst hj
  have hj11:j<11:=by omega
  have hget:Wds[j]?=some (Wds[j]'(by omega)):=List.getElem?_eq_getElem (by omega)
  have hno:∀ i,i<j→Wds[i]?≠some (Wds[j]'(by omega)):=fun i hi z=>by
   have nd:Wds.Nodup:=by decide +kernel
   rw [List.getElem?_eq_getElem (by omega)] at z
   have:=(List.getElem_inj nd).mp (Option.some.inj z)
   omega
  refine ⟨_,rfl,.inl ⟨rfl,_,SqL.of e2⟩,_,rfl,lw,Wds,_,j,rfl,rfl,e2,hget,hno,by decide,.inl ⟨_,_,rfl,rfl,_,rfl,iteD (fun z6=>?_) (fun z6=>?_)⟩⟩
  ·refine ⟨_,rfl,_,rfl,_,_,rfl,rfl,⟨by decide,by decide⟩,_,rfl,Nat.zero_le _,fun g4 h4 => .inr ⟨p,g4,ms1,[],rfl,rfl,(Zj h4) _ _ hp2,Zb,?_⟩⟩
   have E4:=Ext.lst (xs:=[]) h4
   refine ⟨_,_,_,X,rfl,?_,hX2.keep E4.s,fun v fm H' E5 hT hok hht hlen=>?_⟩
   ·have hj6:j=0∨j=1∨j=2∨j=3∨j=4∨j=5:=by omega
    rcases hj6 with rfl | rfl | rfl | rfl | rfl | rfl
    ·exact .inl ⟨0,rfl⟩
    ·exact .inl ⟨1,rfl⟩
    ·exact .inl ⟨2,rfl⟩
    ·exact .inl ⟨3,rfl⟩
    ·exact .inr (.inl rfl)
    ·exact .inr (.inr rfl)
   ·have E:=E4.trans E5
    exact ⟨_,(G2.ext E).sub,q v fm H' ms1 (G2.ext E) (E.s _ _ hp2) (by omega) hT hok (by omega) (by omega)⟩
  have hd2':2≤dep:=by
   rcases Nat.lt_or_ge dep 2 with z | z
   ·have:=hjd (by omega);omega
   ·exact z
  have ed:((dep:Nat):Int) - 1=((dep - 1:Nat):Int):=by omega
  refine ⟨_,rfl,.inl ⟨rfl,_,SqL.of e2⟩,_,rfl,lw,Wds,_,j,rfl,rfl,e2,hget,hno,by decide,.inl ⟨_,_,rfl,rfl,_,rfl,iteD (fun z9=>?_) (fun z9=>?_)⟩⟩
  ·refine ⟨_,rfl,Nat.zero_le _,fun a ha=>?_⟩
   have E4:=Ext.lst (xs:=[]) ha
   refine ⟨_,rfl,_,rfl,_,_,rfl,rfl,p,dep - 1,ms1,X,(by rw [← ed];rfl),by omega,by omega,E4.s _ _ hp2,by omega,hpX,hX2.keep E4.s,fun v fm H4 ms2 G4 hp4 hm4 hT hok hht hlen=>⟨Ya,fun b hb=>⟨(by show 3≤sizeLine;decide),fun T hTn=>?_⟩⟩⟩
   have naX:a∉X:=hX2.nin ha
   have ea4:H4 a=some (.lst []):=G4.k _ _ (fun z=>naX (by rw [z];exact hpX)) Zb
   have E5:=Ext.lst (xs:=[v]) hb
   obtain ⟨kk,hkk⟩:∃ kk:Fin 3,Wds[j]'(by omega)=ow kk:=by
    have:j=6∨j=7∨j=8:=by omega
    rcases this with rfl | rfl | rfl
    ·exact ⟨0,rfl⟩
    ·exact ⟨1,rfl⟩
    ·exact ⟨2,rfl⟩
   rw [hkk]
   have E6:=Ext.tup (xs:=[V.str (ow kk),.ref a,.ref b]) hTn
   have E:=E5.trans E6
   have G:=((G2.ext E4).trans G4).ext E
   have hX4:=(hX2.keep E4.s).grow G4
   refine ⟨_,G.sub,q _ (.one kk fm) _ ms2 G (E.s _ _ hp4) (by omega) ⟨T,a,b,v,rfl,Zb,naX,hX4.nin hb,E.s _ _ ea4,E6.s _ _ Zb,TAt.ext hX4 E.s fm hT⟩ (by rw [okF];exact hok) (by rw [ht];omega) ?_⟩
   rw [sh,List.length_append,List.length_append,List.length_append,Zae,Qr]
   have lo:(ow kk).cps.toList.length≤6:=by
    have:∀ k:Fin 3,(ow k).cps.toList.length≤6:=by decide +kernel
    exact this kk
   show _+(1+((sh fm).length+1))+_≤_
   omega
  refine ⟨_,rfl,_,rfl,_,_,rfl,rfl,p,dep - 1,ms1,X,(by rw [← ed];rfl),by omega,by omega,hp2,by omega,hpX,hX2,fun v0 f0 H4 ms2 G4 hp4 hm4 hT0 hok0 hht0 hlen0=>⟨Ya,fun l hl=>?_⟩⟩
  have G5:=G2.trans G4
  have E5:=Ext.lst (xs:=[v0]) hl
  have hX4:=hX2.grow G4
  have nlX:l∉X:=hX4.nin hl
  have nlp2:l≠p:=fun z=>nlX (by rw [z];exact hpX)
  have hl0:H l=none:=G5.free hl
  have nll:lw≠l:=fun z=>by
   have:=G4.k _ _ nlp e2
   rw [z,hl] at this;cases this
  obtain ⟨x4,hx4,ex4'⟩:=Wo (c/66) 4 (by decide)
  have ex4:c/66%4=((x4:Nat):Int):=ex4'
  refine ⟨fun m σ H5=>∃ (fs:List Fm) (vs:List V) (ms3:List Int),m=4 - fs.length∧σ=[some (.ref p),some (.int ((dep:Nat):Int)),some (.ref lw),some (.int c),some (.str (Wds[j]'(by omega))),some (.ref l)]∧Grow p H H5∧H5 p=some (.lst (ms3.map V.int))∧ms3.length≤ms1.length∧H5 l=some (.lst vs)∧TsAt (l::X) H5 fs vs∧Lists (l::X) H5∧okFs fs∧hts fs≤dep - 1∧1≤fs.length∧fs.length≤4∧slen fs+680*ms3.length≤185*fs.length+680*ms1.length,⟨3,[f0],[v0],ms2,rfl,rfl,G5.ext E5,E5.s _ _ hp4,hm4,Zb,⟨v0,[],rfl,?_,rfl⟩,?_,Jt (fs:=[]) hok0 (by rw [okFs];trivial),Qo (fs:=[]) (by omega) (by rw [hts];exact Nat.zero_le _),Nat.le_refl _,(by show 1≤4;decide),?_⟩,?_⟩
  ·exact TAt.same E5.s f0 (TAt.add hl f0 hT0)
  ·intro x hx
   rcases List.mem_cons.mp hx with z | z
   ·rw [z];exact ⟨_,Zb⟩
   ·exact (hX4.keep E5.s) x z
  ·show (sh f0).length+15+0+680*ms2.length≤185*1+680*ms1.length
   omega
  rintro m σ H5 ⟨fs,vs,ms3,rfl,rfl,g5,hp5,hm5,hl5,hT5,hX5,hok5,hht5,hf1,hf4,hlen5⟩
  have hvl:=TsAt.len fs hT5
  refine ⟨_,rfl,Nat.zero_le _,fun g6 h6 => .inr ⟨p,g6,ms3,[],rfl,rfl,(Zj h6) _ _ hp5,Zb,_,rfl,?_⟩⟩
  have E6:=Ext.lst (xs:=[]) h6
  have g6':=g5.ext E6
  have hp6:=E6.s _ _ hp5
  have hl6:=E6.s _ _ hl5
  have hT6:=TsAt.same E6.s fs hT5
  have hX6:=hX5.keep E6.s
  generalize upd H5 g6 (.lst [])=H6 at g6' hp6 hl6 hT6 hX6 ⊢
  by_cases hm3:ms3=[]
  ·refine iteNS hm3 ?_
   refine ⟨_,rfl,_,rfl,_,_,rfl,rfl,⟨by decide,by decide⟩,_,rfl,_,_,rfl,.inl ⟨_,SqL.of hl6,rfl⟩,_,vs.length,rfl,by omega,by omega,fun D ns hD hnl hgn=>⟨_,rfl,(by show 3≤sizeLine;decide),fun T hTn=>?_⟩⟩
   obtain ⟨kk,hkk⟩:∃ kk:Fin 2,Wds[j]'(by omega)=tw kk:=by
    have:j=9∨j=10:=by omega
    rcases this with rfl | rfl
    ·exact ⟨0,rfl⟩
    ·exact ⟨1,rfl⟩
   rw [hkk]
   have ED:=Ext.lst (xs:=ns.map V.str) hD
   have ET:=Ext.tup (xs:=[V.str (tw kk),.ref D,.ref l]) hTn
   have E:=ED.trans ET
   have G:=g6'.ext E
   have hDX:D∉l::X:=hX6.nin hD
   refine ⟨_,G.sub,q _ (.two kk ns fs) _ ms3 G (E.s _ _ hp6) (by omega) ⟨T,D,l,vs,rfl,Zb,fun z=>hDX (List.mem_cons_of_mem _ z),nlX,ET.s _ _ Zb,E.s _ _ hl6,TsAt.weak (fun x hx=>List.mem_cons_of_mem _ hx) fs (TsAt.same E.s fs hT6)⟩ (by rw [okF];exact ⟨hgn,by omega,hok5⟩) (by rw [ht];omega) ?_⟩
   have hsl:=Qg fs ns (by omega) (Xp hgn).2
   rw [sh,List.length_append,List.length_append,List.length_append,Zae,Qr]
   have lo:(tw kk).cps.toList.length≤6:=by
    have:∀ k:Fin 2,(tw k).cps.toList.length≤6:=by decide +kernel
    exact this kk
   show _+(1+((shs fs ns).length+1))+_≤_
   omega
  refine iteNO hm3 ?_
  refine ⟨_,rfl,_,_,rfl,.inl ⟨_,SqL.of hl6,rfl⟩,_,rfl,_,_,rfl,rfl,⟨by decide,by decide⟩,_,_,rfl,rfl,(by show (0:Int)<4;decide),.inl (.inl ⟨_,_,rfl,rfl,.inl ⟨_,_,rfl,rfl,_,rfl,iteD (fun zl=>?_) (fun zl=>?_)⟩⟩)⟩
  ·rw [ex4] at zl
   have hfl:fs.length<4:=by omega
   refine ⟨fun σ' H'=>∃ m',m'<4 - fs.length∧∃ (fs:List Fm) (vs:List V) (ms3:List Int),m'=4 - fs.length∧σ'=[some (.ref p),some (.int ((dep:Nat):Int)),some (.ref lw),some (.int c),some (.str (Wds[j]'(by omega))),some (.ref l)]∧Grow p H H'∧H' p=some (.lst (ms3.map V.int))∧ms3.length≤ms1.length∧H' l=some (.lst vs)∧TsAt (l::X) H' fs vs∧Lists (l::X) H'∧okFs fs∧hts fs≤dep - 1∧1≤fs.length∧fs.length≤4∧slen fs+680*ms3.length≤185*fs.length+680*ms1.length,fun _ _ h=>h,?_⟩
   refine ⟨_,rfl,.inl ⟨rfl,_,SqL.of hl6⟩,_,rfl,_,rfl,_,_,rfl,rfl,p,dep - 1,ms3,l::X,(by rw [← ed];rfl),by omega,by omega,hp6,by omega,List.mem_cons_of_mem _ hpX,hX6,fun v7 f7 H7 ms7 G7 hp7 hm7 hT7 hok7 hht7 hlen7=>?_⟩
   have hl7:=G7.k _ _ nlp2 hl6
   have hX7:=hX6.grow G7
   refine ⟨l,_,_,rfl,rfl,hl7,(by rw [hvl];exact Nat.lt_of_lt_of_le (show fs.length<100000 by omega) (by decide)),?_⟩
   have k7:∀ b u,b∉l::X→H7 b=some u→upd H7 l (.lst (vs++[v7])) b=some u:=fun b u nb e=>by rw [Zn (fun z=>nb (by rw [z];exact List.mem_cons_self ..))];exact e
   have k6:∀ b u,b∉l::X→H6 b=some u→upd H7 l (.lst (vs++[v7])) b=some u:=fun b u nb e=>k7 b u nb (G7.k b u (fun z=>nb (by rw [z];exact List.mem_cons_of_mem _ hpX)) e)
   refine ⟨4 - (fs++[f7]).length,by rw [List.length_append,List.length_singleton];omega,fs++[f7],vs++[v7],ms7,rfl,rfl,(g6'.trans G7).set hl0 hl7 nlp2,by rw [Zn (Ne.symm nlp2)];exact hp7,by omega,Zb,TsAt.snoc (TAt.keep hX7 k7 f7 hT7) fs (TsAt.keep hX6 k6 fs hT6),?_,Jt hok7 hok5,Qo hht7 hht5,by rw [List.length_append];omega,by rw [List.length_append,List.length_singleton];omega,?_⟩
   ·intro x hx
    by_cases z:x=l
    ·rw [z];exact ⟨_,Zb⟩
    ·obtain ⟨y,hy⟩:=hX7 x hx
     exact ⟨y,by rw [Zn z];exact hy⟩
   ·rw [Zbj,List.length_append,List.length_singleton];omega
  ·skip
   refine ⟨_,rfl,_,rfl,_,_,rfl,rfl,⟨by decide,by decide⟩,_,rfl,_,_,rfl,.inl ⟨_,SqL.of hl6,rfl⟩,_,vs.length,rfl,by omega,by omega,fun D ns hD hnl hgn=>⟨_,rfl,(by show 3≤sizeLine;decide),fun T hTn=>?_⟩⟩
   obtain ⟨kk,hkk⟩:∃ kk:Fin 2,Wds[j]'(by omega)=tw kk:=by
    have:j=9∨j=10:=by omega
    rcases this with rfl | rfl
    ·exact ⟨0,rfl⟩
    ·exact ⟨1,rfl⟩
   rw [hkk]
   have ED:=Ext.lst (xs:=ns.map V.str) hD
   have ET:=Ext.tup (xs:=[V.str (tw kk),.ref D,.ref l]) hTn
   have E:=ED.trans ET
   have G:=g6'.ext E
   have hDX:D∉l::X:=hX6.nin hD
   refine ⟨_,G.sub,q _ (.two kk ns fs) _ ms3 G (E.s _ _ hp6) (by omega) ⟨T,D,l,vs,rfl,Zb,fun z=>hDX (List.mem_cons_of_mem _ z),nlX,ET.s _ _ Zb,E.s _ _ hl6,TsAt.weak (fun x hx=>List.mem_cons_of_mem _ hx) fs (TsAt.same E.s fs hT6)⟩ (by rw [okF];exact ⟨hgn,by omega,hok5⟩) (by rw [ht];omega) ?_⟩
   have hsl:=Qg fs ns (by omega) (Xp hgn).2
   rw [sh,List.length_append,List.length_append,List.length_append,Zae,Qr]
   have lo:(tw kk).cps.toList.length≤6:=by
    have:∀ k:Fin 2,(tw k).cps.toList.length≤6:=by decide +kernel
    exact this kk
   show _+(1+((shs fs ns).length+1))+_≤_
   omega
noncomputable def spTxt (n:Nat):Sp:=fun vs H Q _=>∃ (v:V) (f:Fm),vs=[v]∧TAt [] H f v∧okF f∧ht f≤n∧(sh f).length≤90000∧Q (.str ⟨(sh f).toArray⟩) H
theorem TsAt.get {X:List Addr} {H:Hp}:∀ (fs:List Fm) {vs:List V} {i:Nat} {v:V},TsAt X H fs vs→vs[i]?=some v→∃ f,fs[i]?=some f∧TAt X H f v
 | [],vs,i,v,h,e=>by
  obtain rfl:vs=[]:=h
  cases e
 | f::fs,vs,0,v,h,e=>by
  obtain ⟨o',r,rfl,q,q2⟩:=h
  cases e
  exact ⟨f,rfl,q⟩
 | f::fs,vs,i+1,v,h,e=>by
  obtain ⟨o',r,rfl,q,q2⟩:=h
  exact TsAt.get fs q2 e
set_option maxHeartbeats 4000000 in
theorem Zna {f:Addr} {fd:FuncData} {n:Nat} (nb:NB mg) (F:FunAt K mg "_law_text" Wk ["_law_tree_here"] f fd) (D_law_text:DefOk P w K mg base (n+1) "_law_text" ["_law_tree_here"] (spTxt n)):DefOk P w K mg base (n+1+1) "_law_text" ["_law_tree_here"] (spTxt (n+1)):=by
 refine F.ok sc_law_text (fun vs H Q E h=>?_) (fun cdv A outer s H vs Q E hr h=>?_)
 ·obtain ⟨_,_,rfl,_⟩:=h;rfl
 obtain ⟨v,fm,rfl,hT,hok,hht,hlen,q⟩:=h
 refine ⟨_,(Zc (Xhe (pv 0) (Zzi rfl (Ql (Xn (i:=1) sc_law_text.nd rfl (by first | exact Or.inl rfl | exact Or.inr rfl)) (Ql (Xn (i:=2) sc_law_text.nd rfl (by first | exact Or.inl rfl | exact Or.inr rfl)) (Ql (Xn (i:=3) sc_law_text.nd rfl (by first | exact Or.inl rfl | exact Or.inr rfl)) Zsg)))))
  (Zc (Zs (Zi (oEqN (room64 hr)) (pv 1) Ze (nomark _)) (Zg (Zm (Zh oAdd (Zh oAdd (Zh oAdd (Zh oAdd Ze (Yz Jc rfl nb.str_ Zdd (Za (Xo iAll (pv 2) Zf (fun _ _=>rfl)) Zd))) Ze) (Yz Jc rfl nb.str_ Zdd (Za (Xo iAll (pv 2) Zf (fun _ _=>rfl)) Zd))) Ze))) Zl)
  (Zc (Zs (Zi (oEqN (room64 hr)) (pv 1) Ze (nomark _)) (Zg (Zm (Zh oAdd (Zh oAdd Ze (pv 2)) Ze))) Zl)
  (Zc (Zs (Zi (oEqN (room64 hr)) (pv 3) (Xb Zd) (nomark _)) (Zg (Zm (pv 1))) Zl)
  (Zc (Zs (Zi (oEqN (room64 hr)) (pv 2) (Xb Zd) (nomark _)) (Zg (Zm (Zh oAdd (Zh oAdd (Zh oAdd (pv 1) Ze) (Zo D_law_text hr (Za (Xo iAll (pv 3) Zf (fun _ _=>rfl)) Zd) (hk:=by omega))) Ze))) Zl)
  (Zc (Qy (i:=4)  ["_law_name","_law_one"] [] sc_law_text.nd rfl rfl rfl (by decide +kernel) trivial (Xhf rfl nb.zip_ (Za (pv 2) (Za (pv 3) Zd))) (fun _ _ _ _ _=>(Zzi rfl (Ql (Xn (i:=0) (show (["_law_name","_law_one"]:List Str).Nodup by decide +kernel) rfl (by first | exact Or.inl rfl | exact Or.inr rfl)) (Ql (Xn (i:=1) (show (["_law_name","_law_one"]:List Str).Nodup by decide +kernel) rfl (by first | exact Or.inl rfl | exact Or.inr rfl)) Zsg)))) (fun _ _ _ _ _=>Yx) (fun _ _ _ _ _=>(Zh oAdd (Zh oAdd (pv 0) Ze) (Zo D_law_text hr (Za (pv 1) Zd) (hk:=by omega)))))
  (Zg (Zm (Zh oAdd (Zh oAdd (Zh oAdd (pv 1) Ze) (Zcg PySem.F.plainAttrs_str PySem.F.slot_str_join PySem.F.type_str_join Zth Ze (Za (pv 4) Zd))) Ze))))))))),?_⟩
 try dsimp only [cxK0,cxK1,cxK2,cxK3]
 have l2:(Str.ofString ", ").length=2:=by decide +kernel
 have l3:(Str.ofString ")").length=1:=by decide +kernel
 have l4:(Str.ofString "(").length=1:=by decide +kernel
 cases fm with
 | bare k =>
  obtain ⟨T,a,b,rfl,eT,_,_,ea,eb⟩:=hT
  have n1:∀ k:Fin 4,¬V.str (bw k)=V.str (Str.ofString "span"):=by decide +kernel
  have n2:∀ k:Fin 4,¬V.str (bw k)=V.str (Str.ofString "letters"):=by decide +kernel
  refine ⟨_,rfl,T,_,rfl,SqT.of eT,rfl,_,_,rfl,_,_,rfl,_,_,rfl,rfl,?_⟩
  refine ⟨_,rfl,.inl (.inl ⟨rfl,_,rfl,iteN (n1 k) ⟨_,rfl,.inl (.inl ⟨rfl,_,rfl,iteN (n2 k) ?_⟩)⟩⟩)⟩
  refine ⟨_,rfl,Nat.zero_le _,fun g hg => .inr ⟨b,g,_,rfl,rfl,(Zj hg) _ _ eb,Zb,_,rfl,iteY rfl ⟨_,rfl,H,.refl (Zj hg),?_⟩⟩⟩
  have e:(⟨(sh (.bare k)).toArray⟩:Str)=bw k:=by rw [sh]
  rw [e] at q;exact q
 | sp lo hi =>
  obtain ⟨T,a,b,rfl,eT,_,_,ea,eb⟩:=hT
  rw [okF] at hok
  obtain ⟨_,hlo,hhi⟩:=hok
  have ha':lo.natAbs<10 ^ 60:=Nat.lt_trans hlo (by decide +kernel)
  have hb':hi.natAbs<10 ^ 60:=Nat.lt_trans hhi (by decide +kernel)
  have la:=Wp (by decide) ha'
  have lb:=Wp (by decide) hb'
  have l1:(Str.ofString "span(").length=5:=by decide +kernel
  have a0:atI [V.int lo,V.int hi] 0=some (.int lo):=Zy (j:=0) rfl
  have a1:atI [V.int lo,V.int hi] 1=some (.int hi):=Zy (j:=1) rfl
  refine ⟨_,rfl,T,_,rfl,SqT.of eT,rfl,_,_,rfl,_,_,rfl,_,_,rfl,rfl,?_⟩
  refine ⟨_,rfl,.inl (.inl ⟨rfl,_,rfl,iteY rfl ?_⟩)⟩
  refine ⟨_,rfl,.inl (.inl ⟨_,_,_,_,rfl,rfl,SqL.of ea,a0,_,rfl,Qe ha',.inr ⟨_,_,rfl,rfl,small5 (by omega),?_⟩⟩)⟩
  refine .inr ⟨_,_,rfl,rfl,small5 (by rw [Zk];omega),?_⟩
  refine ⟨_,rfl,.inl (.inl ⟨_,_,_,_,rfl,rfl,SqL.of ea,a1,_,rfl,Qe hb',.inr ⟨_,_,rfl,rfl,small5 (by rw [Zk,Zk];omega),?_⟩⟩)⟩
  refine .inr ⟨_,_,rfl,rfl,small5 (by rw [Zk,Zk,Zk];omega),H,.refl (Same.refl _),?_⟩
  rw [← Jp (l:=sh (.sp lo hi)) ?_] at q
  ·exact q
  ·rw [Zz,Zz,Zz,Zz,Jm.2.2.2.2.2.1,sh]
   show (((cp "span"++cp "(")++num lo)++cp ", ")++num hi++cp ")"=_
   simp only [List.append_assoc]
 | le sg =>
  obtain ⟨T,b,rfl,eT,_,eb⟩:=hT
  rw [okF] at hok
  have l1:(Str.ofString "letters(").length=8:=by decide +kernel
  refine ⟨_,rfl,T,_,rfl,SqT.of eT,rfl,_,_,rfl,_,_,rfl,_,_,rfl,rfl,?_⟩
  refine ⟨_,rfl,.inl (.inl ⟨rfl,_,rfl,iteN (by decide +kernel) ⟨_,rfl,.inl (.inl ⟨rfl,_,rfl,iteY rfl ?_⟩)⟩⟩)⟩
  refine ⟨_,rfl,.inr ⟨_,_,rfl,rfl,small5 (by omega),.inr ⟨_,_,rfl,rfl,small5 (by rw [Zk];omega),H,.refl (Same.refl _),?_⟩⟩⟩
  rw [← Jp (l:=sh (.le sg)) ?_] at q
  ·exact q
  ·rw [Zz,Zz,Jm.2.2.2.2.2.2,sh]
   show ((cp "letters"++cp "(")++sg.cps.toList)++cp ")"=_
   simp only [List.append_assoc]
 | one k fi =>
  obtain ⟨T,a,b,v',rfl,eT,_,_,ea,eb,hI⟩:=hT
  have hok2:okF fi:=by rw [okF] at hok;exact hok
  have hht2:ht fi≤n:=by rw [ht] at hht;omega
  have esh:sh (.one k fi)=(ow k).cps.toList++(cp "("++(sh fi++cp ")")):=by rw [sh]
  have hlen2:(sh fi).length≤90000:=by rw [esh,List.length_append,List.length_append,List.length_append] at hlen;omega
  have n1:∀ k:Fin 3,¬V.str (ow k)=V.str (Str.ofString "span"):=by decide +kernel
  have n2:∀ k:Fin 3,¬V.str (ow k)=V.str (Str.ofString "letters"):=by decide +kernel
  have lo:∀ k:Fin 3,(ow k).length≤6:=by decide +kernel
  have lk:=lo k
  have lg:=Qm (sh fi)
  refine ⟨_,rfl,T,_,rfl,SqT.of eT,rfl,_,_,rfl,_,_,rfl,_,_,rfl,rfl,?_⟩
  refine ⟨_,rfl,.inl (.inl ⟨rfl,_,rfl,iteN (n1 k) ⟨_,rfl,.inl (.inl ⟨rfl,_,rfl,iteN (n2 k) ?_⟩)⟩⟩)⟩
  refine ⟨_,rfl,Nat.zero_le _,fun g hg => .inr ⟨b,g,_,rfl,rfl,(Zj hg) _ _ eb,Zb,_,rfl,iteN (by show ¬1=0;decide) ?_⟩⟩
  have s1:=Zj (o:=HO.lst []) hg
  refine ⟨_,rfl,Nat.zero_le _,fun g2 hg2 => .inr ⟨a,g2,_,rfl,rfl,(Zj hg2) _ _ (s1 _ _ ea),Zb,_,rfl,iteY rfl ?_⟩⟩
  have s2:=s1.trans (Zj (o:=HO.lst []) hg2)
  refine ⟨_,rfl,.inr ⟨_,_,rfl,rfl,small5 (by omega),?_⟩⟩
  refine ⟨_,rfl,.inl (.inl ⟨_,_,_,_,rfl,rfl,SqL.of (s2 _ _ eb),Zy (j:=0) rfl,v',fi,rfl,TAt.same s2 fi hI,hok2,hht2,hlen2,.inr ⟨_,_,rfl,rfl,small5 (by rw [Zk];omega),?_⟩⟩)⟩
  refine .inr ⟨_,_,rfl,rfl,small5 (by rw [Zk,Zk];omega),H,.refl s2,?_⟩
  rw [← Jp (l:=sh (.one k fi)) ?_] at q
  ·exact q
  ·rw [Zz,Zz,Zz,esh,Zcj]
   show (((ow k).cps.toList++cp "(")++sh fi)++cp ")"=_
   simp only [List.append_assoc]
 | two k ns fs =>
  obtain ⟨T,a,b,vs,rfl,eT,_,_,ea,eb,hI⟩:=hT
  rw [okF] at hok
  obtain ⟨hgn,hnl,hok2⟩:=hok
  have hgm:=Xp hgn
  have hvl:=TsAt.len fs hI
  have hne:0<ns.length:=by
   rcases Nat.eq_zero_or_pos ns.length with z | z
   ·rw [List.length_eq_zero_iff.mp z] at hgn;cases hgn
   ·exact z
  have hht2:hts fs≤n:=by rw [ht] at hht;omega
  have esh:sh (.two k ns fs)=(tw k).cps.toList++(cp "("++(shs fs ns++cp ")")):=by rw [sh]
  have hlen2:(shs fs ns).length≤90000:=by rw [esh,List.length_append,List.length_append,List.length_append] at hlen;omega
  have n1:∀ k:Fin 2,¬V.str (tw k)=V.str (Str.ofString "span"):=by decide +kernel
  have n2:∀ k:Fin 2,¬V.str (tw k)=V.str (Str.ofString "letters"):=by decide +kernel
  have lo:∀ k:Fin 2,(tw k).length≤6:=by decide +kernel
  have lk:=lo k
  have lg:=Qm (shs fs ns)
  refine ⟨_,rfl,T,_,rfl,SqT.of eT,rfl,_,_,rfl,_,_,rfl,_,_,rfl,rfl,?_⟩
  refine ⟨_,rfl,.inl (.inl ⟨rfl,_,rfl,iteN (n1 k) ⟨_,rfl,.inl (.inl ⟨rfl,_,rfl,iteN (n2 k) ?_⟩)⟩⟩)⟩
  refine ⟨_,rfl,Nat.zero_le _,fun g hg => .inr ⟨b,g,_,rfl,rfl,(Zj hg) _ _ eb,Zb,_,rfl,iteN (by omega) ?_⟩⟩
  have s1:=Zj (o:=HO.lst []) hg
  refine ⟨_,rfl,Nat.zero_le _,fun g2 hg2 => .inr ⟨a,g2,_,rfl,rfl,(Zj hg2) _ _ (s1 _ _ ea),Zb,_,rfl,iteN (by rw [List.length_map];omega) ?_⟩⟩
  have s2:=s1.trans (Zj (o:=HO.lst []) hg2)
  generalize upd (upd H g (.lst [])) g2 (.lst [])=H2 at s2 ⊢
  have l1:(Str.ofString " ").length=1:=by decide +kernel
  refine ⟨_,rfl,_,rfl,a,b,_,_,rfl,SqL.of (s2 _ _ ea),SqL.of (s2 _ _ eb),fun D hD=>?_⟩
  refine Zyd (fun i=>V.str ((List.zipWith prt31 fs ns).getD i Str.empty)) (fun σ=>∃ z1 z2,σ=[z1,z2]) (by rw [List.length_map];omega) ⟨_,_,rfl⟩ hD (SqL.of (s2 _ _ ea)) (SqL.of (s2 _ _ eb)) ?_ ?_
  ·rintro i x y hx hy σ1 H1 T' ⟨z1,z2,rfl⟩ hs1 hT' R hR
   rw [List.getElem?_map] at hx
   obtain ⟨nm,hnm,rfl⟩:=Option.map_eq_some_iff.mp hx
   obtain ⟨fm,hfm,hFm⟩:=TsAt.get fs hI hy
   obtain ⟨hok3,hht3⟩:=Zle hok2 hfm
   have hpl:=Zah fs ns hnl i fm nm hfm hnm
   have e:(List.zipWith prt31 fs ns).getD i Str.empty=prt31 fm nm:=by rw [List.getD_eq_getElem?_getD,List.getElem?_zipWith,hfm,hnm];rfl
   rw [e] at hR
   have sT:=(s2.trans hs1).trans (Zj (o:=HO.tup [V.str nm,y]) hT')
   have lgf:=Qm (sh fm)
   refine ⟨T',_,rfl,SqT.of Zb,rfl,_,_,rfl,_,_,rfl,rfl,?_⟩
   refine ⟨_,rfl,.inr ⟨_,_,rfl,rfl,small5 (by omega),?_⟩⟩
   refine ⟨_,rfl,y,fm,rfl,TAt.same sT fm hFm,hok3,by omega,by omega,.inr ⟨_,_,rfl,rfl,small5 (by rw [Zk];omega),?_⟩⟩
   exact hR _ _ ⟨_,_,rfl⟩ (Same.refl _)
  ·intro H' hs' hD'
   have hzl:(List.zipWith prt31 fs ns).length=fs.length:=by rw [List.length_zipWith,hnl,Nat.min_self]
   have e:(List.range (min (ns.map V.str).length vs.length)).map (fun i=>V.str ((List.zipWith prt31 fs ns).getD i Str.empty))=(List.zipWith prt31 fs ns).map V.str:=by
    have:=Jz (List.zipWith prt31 fs ns)
    rw [hzl] at this
    rw [List.length_map,hnl,hvl,Nat.min_self]
    exact this
   rw [e] at hD'
   have hB:∀ y∈List.zipWith prt31 fs ns,y.length≤90000:=fun y hy=>by
    obtain ⟨i,hi,rfl⟩:=List.mem_iff_getElem.mp hy
    rw [hzl] at hi
    rw [List.getElem_zipWith]
    have hpl:=Zah fs ns hnl i fs[i] (ns[i]'(by omega)) (List.getElem?_eq_getElem hi) (List.getElem?_eq_getElem (by omega))
    unfold prt31
    have lg:=Qm (sh fs[i])
    rw [Zk,Zk,l1]
    omega
   have hsum:=StrLaws.sumLen_le _ hB
   rw [hzl] at hsum
   have ej:Txt.join (Str.ofString ", ") (List.zipWith prt31 fs ns)=⟨(shs fs ns).toArray⟩:=by
    refine Jp ?_
    show (Builtin.Str.glued (Str.ofString ", ") (List.zipWith prt31 fs ns)).cps.toList=_
    rw [StrLaws.glued_eq_join]
    exact Zmc fs ns hnl
   refine ⟨_,rfl,.inr ⟨_,_,rfl,rfl,small5 (by omega),?_⟩⟩
   refine ⟨rfl,_,rfl,_,D,_,rfl,rfl,SqL.of hD',(by have:=hgm.1;rw [hzl,l2];omega),?_⟩
   rw [ej]
   refine .inr ⟨_,_,rfl,rfl,small5 (by rw [Zk];omega),.inr ⟨_,_,rfl,rfl,small5 (by rw [Zk,Zk];omega),H,.refl (s2.trans hs'),?_⟩⟩
   rw [← Jp (l:=sh (.two k ns fs)) ?_] at q
   ·exact q
   ·rw [Zz,Zz,Zz,esh,Zcj]
    show (((tw k).cps.toList++cp "(")++shs fs ns)++cp ")"=_
    simp only [List.append_assoc]
noncomputable def pos (t:Str) (q:List Nat):Int:=((t.length - q.length:Nat):Int)
noncomputable def posO (t:Str) (r:Option (List Nat)):Int:=match r with
 | some q=>pos t q
 | none => -1
theorem Zag {t:Str} {q:List Nat} (h:q <:+ t.cps.toList):t.cps.toList.drop (t.length - q.length)=q∧q.length≤t.length:=by
 have:=List.suffix_iff_eq_drop.mp h
 have h2:=h.length_le
 rw [Array.length_toList] at this h2
 exact ⟨this.symm,h2⟩
theorem Zbi {t:Str} {q:List Nat} (h:q <:+ t.cps.toList) (m:Nat):(Txt.slice t (some (pos t q)) (some (pos t q+((m:Nat):Int)))).cps.toList=q.take m:=by
 obtain ⟨h1,h2⟩:=Zag h
 have e:pos t q+((m:Nat):Int)=((t.length - q.length+m:Nat):Int):=by unfold pos;omega
 rw [e]
 unfold pos
 have el:t.cps.toList.length=t.length:=Array.length_toList
 rw [KM.Jq,HT.sIx_nat,HT.sIx_nat,Nat.min_eq_left (show t.length - q.length≤t.length by omega),h1]
 rcases Nat.lt_or_ge (t.length - q.length+m) t.length with z | z
 ·rw [Nat.min_eq_left (by omega),show t.length - q.length+m - (t.length - q.length)=m by omega]
 ·rw [Nat.min_eq_right z,List.take_of_length_le (by omega),List.take_of_length_le (by omega)]
noncomputable def spBeh:Sp:=fun vs H Q _=>∃ (t z:Str) (r:Option (List Nat)),vs=[.str t,.int (posO t r),.str z]∧t.length≤100000∧(∀ q,r=some q→q <:+ t.cps.toList)∧z.length≤100∧Q (.int (posO t (r.bind (strip z.cps.toList)))) H
theorem Ja {t z:Str} {q:List Nat} (h:q <:+ t.cps.toList):Txt.slice t (some (pos t q)) (some (pos t q+((z.length:Nat):Int)))=z↔z.cps.toList <+: q:=by
 have hz:z.cps.toList.length=z.length:=Array.length_toList
 rw [List.prefix_iff_eq_take,hz]
 constructor
 ·intro e
  rw [← Zbi h z.length,e]
 ·intro e
  apply KM.Zsb
  rw [Zbi h z.length];exact e.symm
theorem Zfg {t:Str} {z q r:List Nat} (h:q <:+ t.cps.toList) (e:strip z q=some r):pos t r=pos t q+((z.length:Nat):Int):=by
 obtain ⟨h1,h2⟩:=Zag h
 have:=congrArg List.length (Yc e)
 rw [List.length_append] at this
 unfold pos
 omega
theorem iteDN {c A B:Prop} [Decidable c] (h1:c→B) (h2:¬c→A):if (!decide c)=true then A else B:=by
 by_cases h:c
 ·rw [decide_eq_true h];exact iteF (h1 h)
 ·rw [decide_eq_false h];exact iteT (h2 h)
theorem Zig {t:Str} {q:List Nat} (h:q <:+ t.cps.toList) (S:Str):pos t (offS S q)=((t.length - q.length+(runS S q).length:Nat):Int):=by
 obtain ⟨h1,h2⟩:=Zag h
 have:=congrArg List.length (Yh S q)
 rw [List.length_append] at this
 unfold pos
 omega
theorem scan {t:Str} {q:List Nat} (h:q <:+ t.cps.toList) (S:Str) {k:Nat} (hk:k=t.length - q.length):(∀ i,i<(runS S q).length→∃ c,t.cps.toList[k+i]?=some c∧(runS S q)[i]?=some c∧c∈S.cps.toList∧k+i<t.length)∧k+(runS S q).length≤t.length∧(k+(runS S q).length=t.length∧offS S q=[]∨k+(runS S q).length<t.length∧∃ c r,offS S q=c::r∧t.cps.toList[k+(runS S q).length]?=some c∧c∉S.cps.toList):=by
 obtain ⟨h1,h2⟩:=Zag h
 rw [← hk] at h1
 have hl:=congrArg List.length (Yh S q)
 rw [List.length_append] at hl
 have at_:∀ i,t.cps.toList[k+i]?=q[i]?:=fun i=>by rw [← h1,List.getElem?_drop]
 refine ⟨fun i hi=>?_,by omega,?_⟩
 ·refine ⟨(runS S q)[i],?_,List.getElem?_eq_getElem hi,Qx _ (List.getElem_mem hi),by omega⟩
  have e3:q[i]?=(runS S q++offS S q)[i]?:=by rw [Yh]
  rw [at_,e3,List.getElem?_append_left hi,List.getElem?_eq_getElem hi]
 ·cases e:offS S q with
  | nil=>rw [e,List.length_nil] at hl;exact .inl ⟨by omega,rfl⟩
  | cons c r =>
   rw [e,List.length_cons] at hl
   refine .inr ⟨by omega,c,r,rfl,?_,Xig c r e⟩
   have e3:q[(runS S q).length]?=(runS S q++offS S q)[(runS S q).length]?:=by rw [Yh]
   rw [at_,e3,e,List.getElem?_append_right (Nat.le_refl _),Nat.sub_self];rfl
theorem Zoc {f:Addr} {fd:FuncData} (nb:NB mg) (F:FunAt K mg "_law_behind" Yo ["_law_text_here","_law_at","_law_part"] f fd):DefOk P w K mg base 1 "_law_behind" ["_law_text_here","_law_at","_law_part"] spBeh:=by
 refine F.ok Znf (fun vs H Q E h=>?_) (fun cdv A outer s H vs Q E hr h=>?_)
 ·obtain ⟨_,_,_,rfl,_⟩:=h;rfl
 obtain ⟨t,z,r,rfl,hl,hr',hz,q1⟩:=h
 refine ⟨_,(Zc (Zs (PW.pt (Jk (Zi oLt (pv 1) Zf (nomark _)) (Wn (Zi oNe (Zw slAll (pv 0) (Zu (pv 1)) (Zu (Zh oAdd (pv 1) (Zr Zx rfl nb.len_ Xf (Za (pv 2) Zd))))) (pv 2) (nomark _))))) (Zg (Zm (Jw Wu Zf))) Zl)
  (Zg (Zm (Zh oAdd (pv 1) (Zr Zx rfl nb.len_ Xf (Za (pv 2) Zd)))))),?_⟩
 try dsimp only [cxK0,cxK1,cxK2,cxK3]
 refine ⟨_,rfl,.inl ⟨_,_,rfl,rfl,_,rfl,?_⟩⟩
 have lz:z.length≤sizeLine:=small5 (by omega)
 cases r with
 | none=>exact iteY (by show (-1:Int)<0;decide) ⟨_,rfl,H,.refl (Same.refl _),q1⟩
 | some q =>
  have hq:=hr' q rfl
  refine iteN (by show ¬(pos t q<0);unfold pos;omega) ⟨_,rfl,_,rfl,_,rfl,_,rfl,_,rfl,_,_,rfl,⟨lz,rfl⟩,.inl ⟨_,_,rfl,rfl,_,rfl,.inr ⟨_,rfl,small5 hl,_,rfl,rfl,_,rfl,iteDN (fun c=>?_) (fun c=>?_)⟩⟩⟩
  ·have hp:=(Ja hq).mp (V.str.inj c)
   obtain ⟨r,hr2⟩:=hp
   have e:strip z.cps.toList q=some r:=by rw [← hr2];exact Zbe ..
   refine ⟨_,rfl,_,rfl,_,_,rfl,⟨lz,rfl⟩,.inl ⟨_,_,rfl,rfl,H,.refl (Same.refl _),?_⟩⟩
   have q1':Q (.int (posO t (strip z.cps.toList q))) H:=q1
   rw [e] at q1'
   have e2:=Zfg hq e
   rw [Array.length_toList] at e2
   show Q (V.int (pos t q+_)) H
   have e3:((z.cps.size:Nat):Int)=((z.length:Nat):Int):=rfl
   rw [← e3,← e2];exact q1'
  ·have e:strip z.cps.toList q=none:=by
    unfold strip
    rw [if_neg (fun hp=>c (congrArg V.str ((Ja hq).mpr hp)))]
   have q1':Q (.int (posO t (strip z.cps.toList q))) H:=q1
   rw [e] at q1'
   exact ⟨_,rfl,H,.refl (Same.refl _),q1'⟩
noncomputable def spWE:Sp:=fun vs H Q _=>∃ (t:Str) (q:List Nat),vs=[.str t,.int (pos t q)]∧t.length≤100000∧q <:+ t.cps.toList∧Q (.int (pos t (offS L26 q))) H
theorem Zhh {f:Addr} {fd:FuncData} (nb:NB mg) (F:FunAt K mg "_law_word_end" Xt ["_law_text_here","_law_at"] f fd):DefOk P w K mg base 1 "_law_word_end" ["_law_text_here","_law_at"] spWE:=by
 refine F.ok sc_law_word_end (fun vs H Q E h=>?_) (fun cdv A outer s H vs Q E hr h=>?_)
 ·obtain ⟨_,_,rfl,_⟩:=h;rfl
 obtain ⟨t,q,rfl,hl,hq,q1⟩:=h
 refine ⟨_,(Zc (Qi PassesOwn.never (PW.pt (Jn (Zi oLt (pv 1) (Zr Zx rfl nb.len_ Xf (Za (pv 0) Zd)) (nomark _)) (Jd (Zi Qd (Xo iAll (pv 0) (pv 1) (fun _ _=>rfl)) Ze (by with_unfolding_all rfl)))))
   (Zg (Zp (i:=1) sc_law_word_end.nd rfl (by first | exact Or.inl rfl | exact Or.inr rfl) (Zh oAdd (pv 1) Zf))))
  (Zg (Zm (pv 1)))),?_⟩
 try dsimp only [cxK0,cxK1,cxK2,cxK3]
 rw [Zig hq] at q1
 obtain ⟨k,hk⟩:∃ k,k=t.length - q.length:=⟨_,rfl⟩
 obtain ⟨sA,sB,sC⟩:=scan hq L26 hk
 have ep:pos t q=((k:Nat):Int):=by rw [hk];rfl
 rw [← hk] at q1
 rw [ep]
 generalize runS L26 q=g at sA sB sC q1
 refine ⟨fun m σ H2=>∃ i,m=g.length - i∧i≤g.length∧σ=[some (.str t),some (.int ((k+i:Nat):Int))]∧H2=H,⟨g.length,0,rfl,Nat.zero_le _,rfl,rfl⟩,?_⟩
 rintro m σ H2 ⟨i,rfl,hi,rfl,rfl⟩
 refine ⟨_,rfl,_,rfl,_,_,rfl,⟨small5 hl,rfl⟩,.inl ⟨_,_,rfl,rfl,_,rfl,?_⟩⟩
 rcases Nat.lt_or_ge i g.length with z | z
 ·obtain ⟨c,c1,c2,c3,c4⟩:=sA i z
  refine iteY (by omega) ⟨_,rfl,_,rfl,.inr ⟨_,_,_,rfl,rfl,small5 hl,Zy c1,_,_,rfl,rfl,_,rfl,?_⟩⟩
  rw [StrLaws.found_one,decide_eq_true (show c∈(Str.ofString "abcdefghijklmnopqrstuvwxyz").cps.toList from c3)]
  refine iteT ⟨fun σ' H'=>∃ m',m'<g.length - i∧∃ i',m'=g.length - i'∧i'≤g.length∧σ'=[some (.str t),some (.int ((k+i':Nat):Int))]∧H'=H2,fun _ _ h=>h,?_⟩
  refine ⟨_,rfl,.inl ⟨_,_,rfl,rfl,g.length - (i+1),by omega,i+1,rfl,z,?_,rfl⟩⟩
  have e:((k+i:Nat):Int)+1=((k+(i+1):Nat):Int):=by omega
  dsimp only
  rw [e];rfl
 ·obtain rfl:i=g.length:=by omega
  have fin:∃ H'',L2.Sub H2 H'' H2∧Q (.int ((k+g.length:Nat):Int)) H'':=⟨H2,.refl (Same.refl _),q1⟩
  rcases sC with ⟨s1,_⟩ | ⟨s1,c,r,_,c1,c2⟩
  ·exact iteN (by omega) ⟨_,rfl,fin⟩
  ·refine iteY (by omega) ⟨_,rfl,_,rfl,.inr ⟨_,_,_,rfl,rfl,small5 hl,Zy c1,_,_,rfl,rfl,_,rfl,?_⟩⟩
   rw [StrLaws.found_one,decide_eq_false (show ¬c∈(Str.ofString "abcdefghijklmnopqrstuvwxyz").cps.toList from c2)]
   exact iteF ⟨_,rfl,fin⟩
noncomputable def spNE:Sp:=fun vs H Q _=>∃ (t:Str) (q:List Nat),vs=[.str t,.int (pos t q)]∧t.length≤100000∧q <:+ t.cps.toList∧Q (.int (posO t ((rdNum q).map Prod.snd))) H
theorem Xih (s:Bool) (r:List Nat):(numT s r).map Prod.snd=if runS FIG r=[]∨58<(runS FIG r).length then none else if (runS FIG r).head?=some 48∧(s=true∨1<(runS FIG r).length) then none else some (offS FIG r):=by
 unfold numT
 split
 ·rfl
 ·split
  ·rfl
  ·rfl
set_option maxHeartbeats 2000000 in
theorem Zed {f:Addr} {fd:FuncData} (nb:NB mg) (F:FunAt K mg "_law_number_end" Xm ["_law_text_here","_law_at"] f fd):DefOk P w K mg base 1 "_law_number_end" ["_law_text_here","_law_at"] spNE:=by
 refine F.ok sc_law_number_end (fun vs H Q E h=>?_) (fun cdv A outer s H vs Q E hr h=>?_)
 ·obtain ⟨_,_,rfl,_⟩:=h;rfl
 obtain ⟨t,q,rfl,hl,hq,q1⟩:=h
 refine ⟨_,(Zc (Zp (i:=2) sc_law_number_end.nd rfl (by first | exact Or.inl rfl | exact Or.inr rfl) (pv 1))
  (Qb (Zs (Zi oEq (Zw slAll (pv 0) (Zu (pv 1)) (Zu (Zh oAdd (pv 1) Zf))) Ze (nomark _)) (Zg (Zp (i:=2) sc_law_number_end.nd rfl (by first | exact Or.inl rfl | exact Or.inr rfl) (Zh oAdd (pv 1) Zf))) Zl)
  (Zc (Zp (i:=3) sc_law_number_end.nd rfl (by first | exact Or.inl rfl | exact Or.inr rfl) (pv 2))
  (Qb (Qi PassesOwn.never (PW.pt (Jn (Zi oLt (pv 3) (Zr Zx rfl nb.len_ Xf (Za (pv 0) Zd)) (nomark _)) (Jd (Zi Qd (Xo iAll (pv 0) (pv 3) (fun _ _=>rfl)) Ze (by with_unfolding_all rfl)))))
   (Zg (Zp (i:=3) sc_law_number_end.nd rfl (by first | exact Or.inl rfl | exact Or.inr rfl) (Zh oAdd (pv 3) Zf))))
  (Zc (Zs (PW.pt (Jk (Zi oEq (pv 3) (pv 2) (nomark _)) (Wn (Zi oGt (Zh oSub (pv 3) (pv 2)) Zf (nomark _))))) (Zg (Zm (Jw Wu Zf))) Zl)
  (Zc (Zs (PW.pt (Jn (Zi oEq (Xo iAll (pv 0) (pv 2) (fun _ _=>rfl)) Ze (nomark _)) (Jd (PW.pt (Jk (Zi oGt (pv 3) (Zh oAdd (pv 2) Zf) (nomark _)) (Wn (Zi oGt (pv 2) (pv 1) (nomark _)))))))) (Zg (Zm (Jw Wu Zf))) Zl)
  (Zg (Zm (pv 3))))))))),?_⟩
 try dsimp only [cxK0,cxK1,cxK2,cxK3]
 refine ⟨_,rfl,fun σ H'=>H'=H∧∃ (s:Bool) (r:List Nat),σ=[some (.str t),some (.int (pos t q)),some (.int (pos t r)),none]∧r <:+ t.cps.toList∧(rdNum q).map Prod.snd=(numT s r).map Prod.snd∧(s=true↔pos t q<pos t r),?_,?_⟩
 ·refine ⟨_,rfl,_,rfl,_,rfl,_,rfl,.inl ⟨_,_,rfl,rfl,_,rfl,.inr ⟨_,rfl,small5 hl,rfl,_,rfl,iteD (fun c=>?_) (fun c=>?_)⟩⟩⟩
  ·have c:=(Ja (z:=Str.ofString "-") hq).mp (by rw [show (Str.ofString "-").length=1 by decide +kernel];exact V.str.inj c)
   obtain ⟨r,hr2⟩:=c
   have e:strip (cp "-") q=some r:=by rw [← hr2];exact Zbe ..
   have e2:=Zfg hq e
   rw [show (cp "-").length=1 by decide +kernel] at e2
   have e2:pos t q+1=pos t r:=e2.symm
   refine ⟨_,rfl,.inl ⟨_,_,rfl,rfl,rfl,true,r,?_,(Yj e).trans hq,?_,by rw [← e2];simp;omega⟩⟩
   ·dsimp only
    rw [e2];rfl
   ·unfold rdNum;rw [e]
  ·refine ⟨rfl,false,q,rfl,hq,?_,by simp⟩
   unfold rdNum
   have:strip (cp "-") q=none:=by
    unfold strip
    rw [if_neg (fun hp=>c (by rw [show Txt.slice t (some (pos t q)) (some (pos t q+1))=Str.ofString "-" from (Ja (z:=Str.ofString "-") hq).mpr hp]))]
   rw [this]
 rintro σ H2 ⟨rfl,s,r,rfl,hr2,hn,hs⟩
 rw [hn,Xih] at q1
 obtain ⟨k,hk⟩:∃ k,k=t.length - r.length:=⟨_,rfl⟩
 obtain ⟨sA,sB,sC⟩:=scan hr2 FIG hk
 have ep:pos t r=((k:Nat):Int):=by rw [hk];rfl
 have eo:=Zig hr2 FIG
 rw [← hk] at eo
 rw [ep] at hs ⊢
 generalize hg:runS FIG r=g at sA sB sC q1 eo
 refine ⟨_,rfl,fun σ H3=>H3=H2∧σ=[some (.str t),some (.int (pos t q)),some (.int ((k:Nat):Int)),some (.int ((k+g.length:Nat):Int))],⟨fun m σ H3=>∃ i,m=g.length - i∧i≤g.length∧σ=[some (.str t),some (.int (pos t q)),some (.int ((k:Nat):Int)),some (.int ((k+i:Nat):Int))]∧H3=H2,⟨g.length,0,rfl,Nat.zero_le _,rfl,rfl⟩,?_⟩,?_⟩
 ·skip
  rintro m σ H3 ⟨i,rfl,hi,rfl,rfl⟩
  refine ⟨_,rfl,_,rfl,_,_,rfl,⟨small5 hl,rfl⟩,.inl ⟨_,_,rfl,rfl,_,rfl,?_⟩⟩
  rcases Nat.lt_or_ge i g.length with z | z
  ·obtain ⟨c,c1,c2,c3,c4⟩:=sA i z
   refine iteY (by omega) ⟨_,rfl,_,rfl,.inr ⟨_,_,_,rfl,rfl,small5 hl,Zy c1,_,_,rfl,rfl,_,rfl,?_⟩⟩
   rw [StrLaws.found_one,decide_eq_true (show c∈(Str.ofString "0123456789").cps.toList from c3)]
   refine iteT ⟨fun σ' H'=>∃ m',m'<g.length - i∧∃ i',m'=g.length - i'∧i'≤g.length∧σ'=[some (.str t),some (.int (pos t q)),some (.int ((k:Nat):Int)),some (.int ((k+i':Nat):Int))]∧H'=H3,fun _ _ h=>h,?_⟩
   refine ⟨_,rfl,.inl ⟨_,_,rfl,rfl,g.length - (i+1),by omega,i+1,rfl,z,?_,rfl⟩⟩
   have e:((k+i:Nat):Int)+1=((k+(i+1):Nat):Int):=by omega
   dsimp only
   rw [e];rfl
  obtain rfl:i=g.length:=by omega
  rcases sC with ⟨s1,_⟩ | ⟨s1,c,r',_,c1,c2⟩
  ·exact iteN (by omega) ⟨rfl,rfl⟩
  ·refine iteY (by omega) ⟨_,rfl,_,rfl,.inr ⟨_,_,_,rfl,rfl,small5 hl,Zy c1,_,_,rfl,rfl,_,rfl,?_⟩⟩
   rw [StrLaws.found_one,decide_eq_false (show ¬c∈(Str.ofString "0123456789").cps.toList from c2)]
   exact iteF ⟨rfl,rfl⟩
 rintro σ H3 ⟨rfl,rfl⟩
 refine ⟨_,rfl,_,rfl,rfl,_,rfl,iteD (fun z=>?_) (fun z0=>⟨_,rfl,_,rfl,_,_,rfl,rfl,_,_,rfl,rfl,_,rfl,iteD (fun z=>?_) (fun z1=>?_)⟩)⟩
 ·have z:=V.int.inj z
  have h0:g=[]:=List.length_eq_zero_iff.mp (by omega)
  rw [if_pos (.inl h0)] at q1
  exact ⟨_,rfl,H3,.refl (Same.refl _),q1⟩
 ·rw [if_pos (.inr (by omega))] at q1
  exact ⟨_,rfl,H3,.refl (Same.refl _),q1⟩
 have hg0:0<g.length:=by
  rcases Nat.eq_zero_or_pos g.length with y | y
  ·exact absurd (by rw [y];rfl) z0
  ·exact y
 rw [if_neg (fun y=>y.elim (fun y=>by rw [y] at hg0;cases hg0) (fun y=>z1 (by omega)))] at q1
 obtain ⟨c,c1,c2,c3,c4⟩:=sA 0 hg0
 have hh:g.head?=some c:=by rw [List.head?_eq_getElem?];exact c2
 refine ⟨_,rfl,_,rfl,.inr ⟨_,_,_,rfl,rfl,small5 hl,Zy c1,rfl,_,rfl,?_⟩⟩
 rw [Zkg]
 have fin:¬(g.head?=some 48∧(s=true∨1<g.length))→∃ H'',L2.Sub H3 H'' H3∧Q (.int ((k+g.length:Nat):Int)) H'':=fun y=>⟨H3,.refl (Same.refl _),by rw [if_neg y] at q1;rw [← eo];exact q1⟩
 refine iteD (fun h48=>⟨_,rfl,_,rfl,.inl ⟨_,_,rfl,rfl,_,_,rfl,rfl,_,rfl,iteD (fun z=>?_) (fun z2=>⟨_,rfl,_,rfl,_,_,rfl,rfl,_,rfl,iteD (fun z=>?_) (fun z3=>?_)⟩)⟩⟩) (fun h48=>?_)
 ·rw [if_pos ⟨by rw [hh,h48],.inr (by omega)⟩] at q1
  exact ⟨_,rfl,H3,.refl (Same.refl _),q1⟩
 ·rw [if_pos ⟨by rw [hh,h48],.inl (hs.mpr z)⟩] at q1
  exact ⟨_,rfl,H3,.refl (Same.refl _),q1⟩
 ·exact ⟨_,rfl,fin fun y=>y.2.elim (fun y=>z3 (hs.mp y)) (fun y=>z2 (by omega))⟩
 ·exact ⟨_,rfl,fin fun y=>h48 (by rw [hh] at y;exact Option.some.inj y.1)⟩
noncomputable def spSE:Sp:=fun vs H Q _=>∃ (t:Str) (q:List Nat),vs=[.str t,.int (pos t q)]∧t.length≤100000∧q <:+ t.cps.toList∧Q (.int (posO t (((rdSpan q).map Prod.snd).bind (strip (cp ")"))))) H
theorem Zbh {t:Str} {q r g:List Nat} (h:q <:+ t.cps.toList) (e:q=g++r):Txt.slice t (some (pos t q)) (some (pos t r))=⟨g.toArray⟩:=by
 apply KM.Zsb
 obtain ⟨h1,h2⟩:=Zag h
 have hl:=congrArg List.length e
 rw [List.length_append] at hl
 rw [show pos t r=pos t q+((g.length:Nat):Int) by unfold pos;omega,Zbi h,e,List.take_left']
 rfl
theorem Xnj {t:Str} {q:List Nat} (h:q <:+ t.cps.toList) {r:Option (Int×List Nat)} (e:rdNum q=r):∀ x,r.map Prod.snd=some x→x <:+ t.cps.toList:=fun x hx=>by
 cases r with
 | none=>cases hx
 | some p =>
  obtain ⟨a,y⟩:=p
  obtain rfl:y=x:=Option.some.inj hx
  exact (Qw e).trans h
theorem Zhi {f:Addr} {fd:FuncData} (nb:NB mg) (F:FunAt K mg "_law_span_end" Xu ["_law_text_here","_law_at"] f fd) (D_law_number_end:DefOk P w K mg base 1 "_law_number_end" ["_law_text_here","_law_at"] spNE) (D_law_behind:DefOk P w K mg base 1 "_law_behind" ["_law_text_here","_law_at","_law_part"] spBeh):DefOk P w K mg base 2 "_law_span_end" ["_law_text_here","_law_at"] spSE:=by
 refine F.ok sc_law_span_end (fun vs H Q E h=>?_) (fun cdv A outer s H vs Q E hr h=>?_)
 ·obtain ⟨_,_,rfl,_⟩:=h;rfl
 obtain ⟨t,q,rfl,hl,hq,q1⟩:=h
 refine ⟨_,(Zc (Zp (i:=2) sc_law_span_end.nd rfl (by first | exact Or.inl rfl | exact Or.inr rfl) (Zo D_law_number_end hr (Za (pv 0) (Za (pv 1) Zd))))
  (Zc (Zp (i:=3) sc_law_span_end.nd rfl (by first | exact Or.inl rfl | exact Or.inr rfl) (Zo D_law_behind hr (Za (pv 0) (Za (pv 2) (Za Ze Zd)))))
  (Zc (Zs (Zi oLt (pv 3) Zf (nomark _)) (Zg (Zm (Jw Wu Zf))) Zl)
  (Zc (Zp (i:=4) sc_law_span_end.nd rfl (by first | exact Or.inl rfl | exact Or.inr rfl) (Zo D_law_number_end hr (Za (pv 0) (Za (pv 3) Zd))))
  (Zc (Zs (PW.pt (Jk (Zi oLt (pv 4) Zf (nomark _)) (Wn (Zi oGt (Yz Qv rfl nb.int_ Zmg (Za (Zw slAll (pv 0) (Zu (pv 1)) (Zu (pv 2))) Zd)) (Yz Qv rfl nb.int_ Zmg (Za (Zw slAll (pv 0) (Zu (pv 3)) (Zu (pv 4))) Zd)) (nomark _))))) (Zg (Zm (Jw Wu Zf))) Zl)
  (Zg (Zm (Zo D_law_behind hr (Za (pv 0) (Za (pv 4) (Za Ze Zd))))))))))),?_⟩
 try dsimp only [cxK0,cxK1,cxK2,cxK3]
 have no:rdSpan q=none→∃ H'',L2.Sub H H'' H∧Q (.int (-1)) H'':=fun e=>⟨H,.refl (Same.refl _),by rw [e] at q1;exact q1⟩
 refine ⟨_,rfl,_,rfl,t,q,rfl,hl,hq,?_⟩
 refine ⟨_,rfl,_,rfl,t,Str.ofString ", ",(rdNum q).map Prod.snd,rfl,hl,Xnj hq rfl,(by decide +kernel),?_⟩
 cases e1:rdNum q with
 | none=>exact ⟨_,rfl,.inl ⟨_,_,rfl,rfl,_,rfl,iteY (show (-1:Int)<0 by decide) ⟨_,rfl,no (Zvg e1)⟩⟩⟩
 | some p =>
  obtain ⟨a,r1⟩:=p
  have s1:=(Qw e1).trans hq
  obtain ⟨ha1,ha2⟩:=Qh e1
  show (fun x H1=>_) _ _
  cases e2:strip (cp ", ") r1 with
  | none =>
   have e2':(Option.map Prod.snd (some (a,r1))).bind (strip (Str.ofString ", ").cps.toList)=none:=e2
   rw [e2']
   exact ⟨_,rfl,.inl ⟨_,_,rfl,rfl,_,rfl,iteY (show (-1:Int)<0 by decide) ⟨_,rfl,no (Zvf e1 e2)⟩⟩⟩
  | some r2 =>
   have s2:=(Yj e2).trans s1
   have e2':(Option.map Prod.snd (some (a,r1))).bind (strip (Str.ofString ", ").cps.toList)=some r2:=e2
   rw [e2']
   refine ⟨_,rfl,.inl ⟨_,_,rfl,rfl,_,rfl,iteN (show ¬pos t r2<0 by unfold pos;omega) ?_⟩⟩
   refine ⟨_,rfl,_,rfl,t,r2,rfl,hl,s2,?_⟩
   cases e3:rdNum r2 with
   | none=>exact ⟨_,rfl,.inl ⟨_,_,rfl,rfl,_,rfl,iteY (show (-1:Int)<0 by decide) ⟨_,rfl,no (Zve e1 e2 e3)⟩⟩⟩
   | some p =>
    obtain ⟨b,r3⟩:=p
    have s3:=(Qw e3).trans s2
    obtain ⟨hb1,hb2⟩:=Qh e3
    have e4:=Zvd e1 e2 e3
    have lA:(⟨(num a).toArray⟩:Str).length≤640:=by show (num a).toArray.size≤_;rw [List.size_toArray];exact Nat.le_trans (Zih ha2) (by decide)
    have lB:(⟨(num b).toArray⟩:Str).length≤640:=by show (num b).toArray.size≤_;rw [List.size_toArray];exact Nat.le_trans (Zih hb2) (by decide)
    refine ⟨_,rfl,.inl ⟨_,_,rfl,rfl,_,rfl,iteN (show ¬pos t r3<0 by unfold pos;omega) ?_⟩⟩
    refine ⟨_,rfl,_,rfl,_,rfl,_,rfl,_,rfl,.inr ⟨_,rfl,small5 hl,?_⟩⟩
    rw [show Txt.slice t (some (pos t q)) (some (posO t (Option.map Prod.snd (some (a,r1)))))=⟨(num a).toArray⟩ from Zbh hq ha1]
    refine .inr ⟨_,_,rfl,Xce ha2,lA,_,rfl,_,rfl,_,rfl,_,rfl,_,rfl,.inr ⟨_,rfl,small5 hl,?_⟩⟩
    rw [show Txt.slice t (some (posO t (some r2))) (some (posO t (Option.map Prod.snd (some (b,r3)))))=⟨(num b).toArray⟩ from Zbh s2 hb1]
    refine .inr ⟨_,_,rfl,Xce hb2,lB,_,_,rfl,rfl,_,rfl,iteD (fun z=>⟨_,rfl,no (by rw [e4,if_neg (by omega)])⟩) (fun z=>?_)⟩
    rw [e4,if_pos (by omega)] at q1
    exact ⟨_,rfl,_,rfl,t,Str.ofString ")",some r3,rfl,hl,(fun x hx=>by rw [← Option.some.inj hx];exact s3),(by decide +kernel),H,.refl (Same.refl _),q1⟩
noncomputable def spLE:Sp:=fun vs H Q _=>∃ (t:Str) (q:List Nat),vs=[.str t,.int (pos t q)]∧t.length≤100000∧q <:+ t.cps.toList∧Q (.int (posO t (((rdLet q).map Prod.snd).bind (strip (cp ")"))))) H
theorem al62 (c:Nat):c∈L62.cps.toList↔c∈(Str.ofString "abcdefghijklmnopqrstuvwxyz0123456789").cps.toList∨c∈(Str.ofString "ABCDEFGHIJKLMNOPQRSTUVWXYZ").cps.toList:=by
 have e1:L62.cps.toList=(Str.ofString "abcdefghijklmnopqrstuvwxyz").cps.toList++((Str.ofString "ABCDEFGHIJKLMNOPQRSTUVWXYZ").cps.toList++(Str.ofString "0123456789").cps.toList):=by decide +kernel
 have e2:(Str.ofString "abcdefghijklmnopqrstuvwxyz0123456789").cps.toList=(Str.ofString "abcdefghijklmnopqrstuvwxyz").cps.toList++(Str.ofString "0123456789").cps.toList:=by decide +kernel
 rw [e1,e2]
 simp only [List.mem_append]
 constructor
 ·rintro (h | h | h)
  ·exact .inl (.inl h)
  ·exact .inr h
  ·exact .inl (.inr h)
 ·rintro ((h | h) | h)
  ·exact .inl h
  ·exact .inr (.inr h)
  ·exact .inr (.inl h)
theorem Xie (c:Nat):(!decide (V.str ⟨#[c]⟩=V.str (Str.ofString ")")))=!decide (c=41):=by
 have e:Str.ofString ")"=⟨#[41]⟩:=by decide +kernel
 rw [e]
 refine congrArg _ (decide_eq_decide.mpr ⟨fun z=>?_,fun z=>by rw [z]⟩)
 have z:=V.str.inj z
 injection z with z
 have z:=congrArg (fun a=>a[0]?) z
 simpa using z
theorem no41:41∉L62.cps.toList:=by decide +kernel
theorem Zxj {g:List Nat} (h0:g≠[]) (h1:g.length≤60) (hn:g.Nodup) (ha:∀ c,c∈g→c∈L62.cps.toList):goodText ⟨g.toArray⟩=true:=by
 have hl:(⟨g.toArray⟩:Str).length=g.length:=by show g.toArray.size=_;rw [List.size_toArray]
 unfold goodText madeOf
 rw [Zrb (s:=⟨g.toArray⟩) hn,hl]
 have:=List.length_pos_iff.mpr h0
 rw [decide_eq_true ⟨by omega,h1,rfl⟩,Bool.true_and,List.all_eq_true]
 exact fun c hc=>decide_eq_true (ha c hc)
theorem Zgj {g:List Nat} (h:g.length=0∨60<g.length):goodText ⟨g.toArray⟩=false:=by
 have hl:(⟨g.toArray⟩:Str).length=g.length:=by show g.toArray.size=_;rw [List.size_toArray]
 unfold goodText
 rw [hl,decide_eq_false (fun z=>by omega),Bool.false_and]
set_option maxHeartbeats 2000000 in
theorem Zci {f:Addr} {fd:FuncData} (nb:NB mg) (F:FunAt K mg "_law_letters_end" Xg ["_law_text_here","_law_at"] f fd) (D_law_behind:DefOk P w K mg base 1 "_law_behind" ["_law_text_here","_law_at","_law_part"] spBeh):DefOk P w K mg base 2 "_law_letters_end" ["_law_text_here","_law_at"] spLE:=by
 refine F.ok sc_law_letters_end (fun vs H Q E h=>?_) (fun cdv A outer s H vs Q E hr h=>?_)
 ·obtain ⟨_,_,rfl,_⟩:=h;rfl
 obtain ⟨t,q,rfl,hl,hq,q1⟩:=h
 refine ⟨_,(Zc (Zp (i:=2) sc_law_letters_end.nd rfl (by first | exact Or.inl rfl | exact Or.inr rfl) (pv 1))
  (Qb (Qi PassesOwn.never (PW.pt (Jn (Zi oLt (pv 2) (Zr Zx rfl nb.len_ Xf (Za (pv 0) Zd)) (nomark _)) (Jd (Zi oNe (Xo iAll (pv 0) (pv 2) (fun _ _=>rfl)) Ze (nomark _)))))
   (Zc (Zp (i:=3) sc_law_letters_end.nd rfl (by first | exact Or.inl rfl | exact Or.inr rfl) (Qq Qd (Xo iAll (pv 0) (pv 2) (fun _ _=>rfl)) Ze (by with_unfolding_all rfl)))
   (Zc (Zs (PW.pt (Jk (PW.pt (Jn (Qs (Xv (pv 3) (fun _=>rfl))) (Jd (Zi Zsi (Xo iAll (pv 0) (pv 2) (fun _ _=>rfl)) Ze (by with_unfolding_all rfl))))) (Wn (Zi Qd (Xo iAll (pv 0) (pv 2) (fun _ _=>rfl)) (Zw slAll (pv 0) (Zu (pv 1)) (Zu (pv 2))) (by with_unfolding_all rfl))))) (Zg (Zm (Jw Wu Zf))) Zl)
   (Zg (Zp (i:=2) sc_law_letters_end.nd rfl (by first | exact Or.inl rfl | exact Or.inr rfl) (Zh oAdd (pv 2) Zf))))))
  (Zc (Zs (PW.pt (Jk (Zi oEq (pv 2) (pv 1) (nomark _)) (Wn (Zi oGt (pv 2) (Zh oAdd (pv 1) Zf) (nomark _))))) (Zg (Zm (Jw Wu Zf))) Zl)
  (Zg (Zm (Zo D_law_behind hr (Za (pv 0) (Za (pv 2) (Za Ze Zd))))))))),?_⟩
 try dsimp only [cxK0,cxK1,cxK2,cxK3]
 have no:(((rdLet q).map Prod.snd).bind (strip (cp ")")))=none→∃ H'',L2.Sub H H'' H∧Q (.int (-1)) H'':=fun e=>⟨H,.refl (Same.refl _),by rw [e] at q1;exact q1⟩
 have nog:goodText ⟨(runS L62 q).toArray⟩=false→(((rdLet q).map Prod.snd).bind (strip (cp ")")))=none:=fun e=>by
  unfold rdLet
  rw [e];rfl
 obtain ⟨k,hk⟩:∃ k,k=t.length - q.length:=⟨_,rfl⟩
 obtain ⟨sA,sB,sC⟩:=scan hq L62 hk
 have ep:pos t q=((k:Nat):Int):=by rw [hk];rfl
 have eo:=Zig hq L62
 rw [← hk] at eo
 have hall:=Qx (S:=L62) (q:=q)
 have hro:=Yh L62 q
 refine ⟨_,rfl,fun σ H3=>H3=H∧(∃ z,σ=[some (.str t),some (.int (pos t q)),some (.int (pos t (offS L62 q))),z])∧(runS L62 q).Nodup,⟨fun m σ H3=>∃ i,m=(runS L62 q).length - i∧i≤(runS L62 q).length∧(∃ z,σ=[some (.str t),some (.int (pos t q)),some (.int ((k+i:Nat):Int)),z])∧H3=H∧((runS L62 q).take i).Nodup,⟨(runS L62 q).length,0,rfl,Nat.zero_le _,⟨none,by rw [ep];rfl⟩,rfl,List.nodup_nil⟩,?_⟩,?_⟩
 ·rintro m σ H3 ⟨i,rfl,hi,⟨z0,rfl⟩,rfl,hnd⟩
  refine ⟨_,rfl,_,rfl,_,_,rfl,⟨small5 hl,rfl⟩,.inl ⟨_,_,rfl,rfl,_,rfl,?_⟩⟩
  rcases Nat.lt_or_ge i (runS L62 q).length with z | z
  ·obtain ⟨c,c1,c2,c3,c4⟩:=sA i z
   have cne:c≠41:=fun y=>no41 (y ▸ c3)
   refine iteY (by omega) ⟨_,rfl,_,rfl,.inr ⟨_,_,_,rfl,rfl,small5 hl,Zy c1,rfl,_,rfl,?_⟩⟩
   rw [Xie,decide_eq_false cne]
   refine iteT ⟨fun σ' H'=>∃ m',m'<(runS L62 q).length - i∧∃ i',m'=(runS L62 q).length - i'∧i'≤(runS L62 q).length∧(∃ z,σ'=[some (.str t),some (.int (pos t q)),some (.int ((k+i':Nat):Int)),z])∧H'=H3∧((runS L62 q).take i').Nodup,fun _ _ h=>h,?_⟩
   refine ⟨_,rfl,_,rfl,.inr ⟨_,_,_,rfl,rfl,small5 hl,Zy c1,_,_,rfl,rfl,?_⟩⟩
   rw [StrLaws.found_one]
   rcases (al62 c).mp c3 with h36 | hcap
   ·rw [decide_eq_true h36]
    refine ⟨_,rfl,_,rfl,iteF ?_⟩
    refine ⟨_,rfl,_,rfl,.inr ⟨_,_,_,rfl,rfl,small5 hl,Zy c1,_,rfl,_,rfl,_,rfl,_,rfl,_,rfl,.inr ⟨_,rfl,small5 hl,_,_,rfl,rfl,_,rfl,?_⟩⟩⟩
    rw [StrLaws.found_one,show (Txt.slice t (some (pos t q)) (some ((k+i:Nat):Int))).cps.toList=(runS L62 q).take i from by
     have:=Zbi hq i
     rw [show pos t q+((i:Nat):Int)=((k+i:Nat):Int) by rw [ep];omega] at this
     rw [this]
     conv=>lhs;rw [← hro]
     rw [List.take_append_of_le_length (by omega)]]
    refine iteD (fun y=>?_) (fun y=>?_)
    ·obtain ⟨j,hj,ej⟩:=List.mem_iff_getElem.mp y
     rw [List.length_take] at hj
     refine ⟨_,rfl,no (nog (Zaa (s:=⟨(runS L62 q).toArray⟩) (c:=c) (i:=j) (j:=i) (by omega) ?_ c2))⟩
     rw [List.getElem_take] at ej
     exact List.getElem?_eq_some_iff.mpr ⟨by show j<(runS L62 q).length;omega,ej⟩
    ·have e:((k+i:Nat):Int)+1=((k+(i+1):Nat):Int):=by omega
     refine ⟨_,rfl,.inl ⟨_,_,rfl,rfl,?_⟩⟩
     dsimp only
     rw [e]
     refine ⟨(runS L62 q).length - (i+1),by omega,i+1,rfl,z,⟨_,rfl⟩,rfl,?_⟩
     rw [List.take_succ,c2]
     exact List.nodup_append.mpr ⟨hnd,(by simp),fun a ha b hb=>by
      obtain rfl:b=c:=by simpa using hb
      intro e;exact y (e ▸ ha)⟩
   ·by_cases h36:c∈(Str.ofString "abcdefghijklmnopqrstuvwxyz0123456789").cps.toList
    ·rw [decide_eq_true h36]
     refine ⟨_,rfl,_,rfl,iteF ?_⟩
     refine ⟨_,rfl,_,rfl,.inr ⟨_,_,_,rfl,rfl,small5 hl,Zy c1,_,rfl,_,rfl,_,rfl,_,rfl,_,rfl,.inr ⟨_,rfl,small5 hl,_,_,rfl,rfl,_,rfl,?_⟩⟩⟩
     rw [StrLaws.found_one,show (Txt.slice t (some (pos t q)) (some ((k+i:Nat):Int))).cps.toList=(runS L62 q).take i from by
      have:=Zbi hq i
      rw [show pos t q+((i:Nat):Int)=((k+i:Nat):Int) by rw [ep];omega] at this
      rw [this]
      conv=>lhs;rw [← hro]
      rw [List.take_append_of_le_length (by omega)]]
     refine iteD (fun y=>?_) (fun y=>?_)
     ·obtain ⟨j,hj,ej⟩:=List.mem_iff_getElem.mp y
      rw [List.length_take] at hj
      refine ⟨_,rfl,no (nog (Zaa (s:=⟨(runS L62 q).toArray⟩) (c:=c) (i:=j) (j:=i) (by omega) ?_ c2))⟩
      rw [List.getElem_take] at ej
      exact List.getElem?_eq_some_iff.mpr ⟨by show j<(runS L62 q).length;omega,ej⟩
     ·have e:((k+i:Nat):Int)+1=((k+(i+1):Nat):Int):=by omega
      refine ⟨_,rfl,.inl ⟨_,_,rfl,rfl,?_⟩⟩
      dsimp only
      rw [e]
      refine ⟨(runS L62 q).length - (i+1),by omega,i+1,rfl,z,⟨_,rfl⟩,rfl,?_⟩
      rw [List.take_succ,c2]
      exact List.nodup_append.mpr ⟨hnd,(by simp),fun a ha b hb=>by
       obtain rfl:b=c:=by simpa using hb
       intro e;exact y (e ▸ ha)⟩
    ·rw [decide_eq_false h36]
     refine ⟨_,rfl,_,rfl,iteT ⟨_,rfl,_,rfl,.inr ⟨_,_,_,rfl,rfl,small5 hl,Zy c1,_,_,rfl,rfl,_,rfl,?_⟩⟩⟩
     rw [StrLaws.found_one,decide_eq_true hcap]
     refine iteF ?_
     refine ⟨_,rfl,_,rfl,.inr ⟨_,_,_,rfl,rfl,small5 hl,Zy c1,_,rfl,_,rfl,_,rfl,_,rfl,_,rfl,.inr ⟨_,rfl,small5 hl,_,_,rfl,rfl,_,rfl,?_⟩⟩⟩
     rw [StrLaws.found_one,show (Txt.slice t (some (pos t q)) (some ((k+i:Nat):Int))).cps.toList=(runS L62 q).take i from by
      have:=Zbi hq i
      rw [show pos t q+((i:Nat):Int)=((k+i:Nat):Int) by rw [ep];omega] at this
      rw [this]
      conv=>lhs;rw [← hro]
      rw [List.take_append_of_le_length (by omega)]]
     refine iteD (fun y=>?_) (fun y=>?_)
     ·obtain ⟨j,hj,ej⟩:=List.mem_iff_getElem.mp y
      rw [List.length_take] at hj
      refine ⟨_,rfl,no (nog (Zaa (s:=⟨(runS L62 q).toArray⟩) (c:=c) (i:=j) (j:=i) (by omega) ?_ c2))⟩
      rw [List.getElem_take] at ej
      exact List.getElem?_eq_some_iff.mpr ⟨by show j<(runS L62 q).length;omega,ej⟩
     ·have e:((k+i:Nat):Int)+1=((k+(i+1):Nat):Int):=by omega
      refine ⟨_,rfl,.inl ⟨_,_,rfl,rfl,?_⟩⟩
      dsimp only
      rw [e]
      refine ⟨(runS L62 q).length - (i+1),by omega,i+1,rfl,z,⟨_,rfl⟩,rfl,?_⟩
      rw [List.take_succ,c2]
      exact List.nodup_append.mpr ⟨hnd,(by simp),fun a ha b hb=>by
       obtain rfl:b=c:=by simpa using hb
       intro e;exact y (e ▸ ha)⟩
  ·obtain rfl:i=(runS L62 q).length:=by omega
   rw [List.take_length] at hnd
   rcases sC with ⟨s1,_⟩ | ⟨s1,c,r',eoff,c1,c2⟩
   ·exact iteN (by omega) ⟨rfl,⟨z0,by rw [eo]⟩,hnd⟩
   ·refine iteY (by omega) ⟨_,rfl,_,rfl,.inr ⟨_,_,_,rfl,rfl,small5 hl,Zy c1,rfl,_,rfl,?_⟩⟩
    rw [Xie]
    by_cases h41:c=41
    ·rw [decide_eq_true h41]
     exact iteF ⟨rfl,⟨z0,by rw [eo]⟩,hnd⟩
    ·rw [decide_eq_false h41]
     have n36:c∉(Str.ofString "abcdefghijklmnopqrstuvwxyz0123456789").cps.toList:=fun y=>c2 ((al62 c).mpr (.inl y))
     have ncap:c∉(Str.ofString "ABCDEFGHIJKLMNOPQRSTUVWXYZ").cps.toList:=fun y=>c2 ((al62 c).mpr (.inr y))
     have hno:(((rdLet q).map Prod.snd).bind (strip (cp ")")))=none:=by
      have hs:strip (cp ")") (offS L62 q)=none:=by
       unfold strip
       rw [eoff,Qr,if_neg]
       rintro ⟨w',hw⟩
       exact h41 (List.head_eq_of_cons_eq (show 41::w'=c::r' from hw)).symm
      unfold rdLet
      split
      ·exact hs
      ·rfl
     refine iteT ⟨fun σ' H'=>False,fun _ _ h=>h.elim,?_⟩
     refine ⟨_,rfl,_,rfl,.inr ⟨_,_,_,rfl,rfl,small5 hl,Zy c1,_,_,rfl,rfl,?_⟩⟩
     rw [StrLaws.found_one,decide_eq_false n36]
     refine ⟨_,rfl,_,rfl,iteT ⟨_,rfl,_,rfl,.inr ⟨_,_,_,rfl,rfl,small5 hl,Zy c1,_,_,rfl,rfl,_,rfl,?_⟩⟩⟩
     rw [StrLaws.found_one,decide_eq_false ncap]
     exact iteT ⟨_,rfl,no hno⟩
 ·rintro σ H3 ⟨rfl,⟨z0,rfl⟩,hnd⟩
  rw [eo,ep]
  refine ⟨_,rfl,_,rfl,rfl,_,rfl,iteD (fun z=>?_) (fun z1=>⟨_,rfl,_,rfl,.inl ⟨_,_,rfl,rfl,_,_,rfl,rfl,_,rfl,iteD (fun z=>?_) (fun z2=>?_)⟩⟩)⟩
  ·have z:=V.int.inj z
   exact ⟨_,rfl,no (nog (Zgj (.inl (by omega))))⟩
  ·exact ⟨_,rfl,no (nog (Zgj (.inr (by omega))))⟩
  ·have hg:goodText ⟨(runS L62 q).toArray⟩=true:=Zxj (fun y=>z1 (by rw [y];rfl)) (by omega) hnd hall
   have e4:rdLet q=some (.le ⟨(runS L62 q).toArray⟩,offS L62 q):=by unfold rdLet;rw [if_pos hg]
   rw [e4] at q1
   refine ⟨_,rfl,_,rfl,t,Str.ofString ")",some (offS L62 q),?_,hl,(fun x hx=>by rw [← Option.some.inj hx];exact (Jl L62 q).trans hq),(by decide +kernel),H3,.refl (Same.refl _),q1⟩
   show _=[V.str t,V.int (pos t (offS L62 q)),_]
   rw [eo];rfl
theorem Zxi (x:Str) (ns:List Str):inV (.str x) (ns.map V.str)=decide (x∈ns):=by
 unfold inV
 rw [List.any_map,Bool.eq_iff_iff,List.any_eq_true,decide_eq_true_eq]
 constructor
 ·rintro ⟨y,hy,e⟩
  obtain rfl:y=x:=of_decide_eq_true e
  exact hy
 ·exact fun h=>⟨x,h,decide_eq_true rfl⟩
theorem Xfc (ns:List Str):(ns.map V.str).all flatV=true:=by
 rw [List.all_map,List.all_eq_true]
 exact fun _ _=>rfl
noncomputable def restL (n:Nat) (ns:List Str) (m:Nat) (q:List Nat):Option (List Nat):=(rdPs (rdForm n) m q).bind fun l=>if goodNames (ns++l.1.map Prod.fst)=true then strip (cp ")") l.2 else none
theorem Xca (n:Nat) (q:List Nat) (k:Fin 2):((rdTwo (rdForm n) k q).map Prod.snd).bind (strip (cp ")"))=restL n [] (q.length+1) q:=by
 unfold rdTwo restL
 cases rdPs (rdForm n) (q.length+1) q with
 | none=>rfl
 | some l =>
  simp only [Option.bind_some,List.nil_append]
  split
  ·rfl
  ·rfl
theorem Zoj {ns:List Str} {a:Str} {r:List Str} (h:goodNames (ns++a::r)=true):isName a=true∧a∉ns∧ns.length<20:=by
 refine ⟨Xfa h (by simp),fun z=>?_,?_⟩
 ·obtain ⟨i,hi,e⟩:=List.mem_iff_getElem.mp z
  have:=Zoi (ns:=ns++a::r) (n:=a) (i:=i) (j:=ns.length) hi (by rw [List.getElem?_append_left hi,List.getElem?_eq_getElem hi,e]) (by rw [List.getElem?_append_right (Nat.le_refl _),Nat.sub_self];rfl)
  rw [this] at h;cases h
 ·have:=(Xp h).1
  rw [List.length_append,List.length_cons] at this
  omega
section
variable {n m:Nat} {ns:List Str} {q q2 q3:List Nat} {f:Fm}
theorem Zca (h:isName ⟨(runS L26 q).toArray⟩=false∨(⟨(runS L26 q).toArray⟩:Str)∈ns∨20≤ns.length):restL n ns (m+1) q=none:=by
 unfold restL
 have key:∀ r:List Str,goodNames (ns++(⟨(runS L26 q).toArray⟩:Str)::r)=false:=fun r=>by
  cases e:goodNames (ns++(⟨(runS L26 q).toArray⟩:Str)::r) with
  | false=>rfl
  | true =>
   obtain ⟨h1,h2,h3⟩:=Zoj e
   rcases h with z | z | z
   ·rw [h1] at z;cases z
   ·exact absurd z h2
   ·omega
 rw [rdPs]
 unfold rdPart
 cases strip (cp " ") (offS L26 q) with
 | none=>rfl
 | some q1 =>
  simp only [Option.bind_some]
  cases rdForm n q1 with
  | none=>rfl
  | some f =>
   simp only [Option.bind_some]
   cases strip (cp ", ") f.2 with
   | none =>
    simp only [Option.bind_some,List.map_cons,List.map_nil]
    rw [key];rfl
   | some q2 =>
    simp only
    cases rdPs (rdForm n) m q2 with
    | none=>rfl
    | some l =>
     simp only [Option.bind_some,List.map_cons]
     rw [key];rfl
theorem Zzf (e:rdPart (rdForm n) q=none):restL n ns (m+1) q=none:=by
 unfold restL
 rw [rdPs,e];rfl
theorem Xdh (e:rdPart (rdForm n) q=some ((⟨(runS L26 q).toArray⟩,f),q2)) (e2:strip (cp ")") q2=some q3) (hg:goodNames (ns++[⟨(runS L26 q).toArray⟩])=true):restL n ns (m+1) q=some q3:=by
 unfold restL
 have e3:strip (cp ", ") q2=none:=by
  unfold strip
  rw [if_neg,]
  rintro ⟨w',hw⟩
  have h1:=Yc e2
  rw [← hw,Xkf,Qr] at h1
  have:(44:Nat)=41:=List.head_eq_of_cons_eq h1
  omega
 rw [rdPs,e]
 simp only [Option.bind_some,e3,List.map_cons,List.map_nil]
 rw [if_pos hg];exact e2
theorem Zze (e:rdPart (rdForm n) q=some ((⟨(runS L26 q).toArray⟩,f),q2)) (e2:strip (cp ")") q2=none) (e3:strip (cp ", ") q2=none):restL n ns (m+1) q=none:=by
 unfold restL
 rw [rdPs,e]
 simp only [Option.bind_some,e3,e2,ite_self]
theorem Xgf (e:rdPart (rdForm n) q=some ((⟨(runS L26 q).toArray⟩,f),q2)) (e3:strip (cp ", ") q2=some q3):restL n ns (m+1) q=restL n (ns++[⟨(runS L26 q).toArray⟩]) m q3:=by
 unfold restL
 rw [rdPs,e]
 simp only [Option.bind_some,e3]
 cases rdPs (rdForm n) m q3 with
 | none=>rfl
 | some l=>simp only [Option.bind_some,List.map_cons,List.append_assoc,List.singleton_append]
theorem Xia (q:List Nat):(rdPart (rdForm n) q).map Prod.snd=(strip (cp " ") (offS L26 q)).bind fun q1=>(rdForm n q1).map Prod.snd:=by
 unfold rdPart
 cases strip (cp " ") (offS L26 q) with
 | none=>rfl
 | some q1 =>
  simp only [Option.bind_some]
  cases rdForm n q1 with
  | none=>rfl
  | some f=>rfl
theorem Xmd {p:(Str×Fm)×List Nat} (e:rdPart (rdForm n) q=some p):p=((⟨(runS L26 q).toArray⟩,p.1.2),p.2):=by
 unfold rdPart at e
 obtain ⟨q1,e1,e⟩:=Option.bind_eq_some_iff.mp e
 obtain ⟨f,e2,e⟩:=Option.bind_eq_some_iff.mp e
 rw [← Option.some.inj e]
end
noncomputable def spFE (n:Nat):Sp:=fun vs H Q _=>∃ (t:Str) (r:Option (List Nat)) (dep:Nat),vs=[.str t,.int (posO t r),.int ((dep:Nat):Int)]∧t.length≤100000∧(∀ q,r=some q→q <:+ t.cps.toList)∧dep+n=9∧Q (.int (posO t (r.bind fun q=>(rdForm n q).map Prod.snd))) H
noncomputable def spPE (n:Nat):Sp:=fun vs H Q _=>∃ (t:Str) (q:List Nat) (dep:Nat),vs=[.str t,.int (pos t q),.int ((dep:Nat):Int)]∧t.length≤100000∧q <:+ t.cps.toList∧dep+n=9∧Q (.int (posO t (restL n [] (q.length+1) q))) H
set_option maxHeartbeats 4000000 in
theorem Zga {f:Addr} {fd:FuncData} {n:Nat} (nb:NB mg) (F:FunAt K mg "_law_parts_end" Xj ["_law_text_here","_law_at","_law_deep"] f fd) (D_law_behind:DefOk P w K mg base 1 "_law_behind" ["_law_text_here","_law_at","_law_part"] spBeh) (D_law_word_end:DefOk P w K mg base 1 "_law_word_end" ["_law_text_here","_law_at"] spWE) (D_law_form_end:DefOk P w K mg base (2*n+4) "_law_form_end" ["_law_text_here","_law_at","_law_deep"] (spFE n)):DefOk P w K mg base (2*n+4+1) "_law_parts_end" ["_law_text_here","_law_at","_law_deep"] (spPE n):=by
 refine F.ok sc_law_parts_end (fun vs H Q E h=>?_) (fun cdv A outer s H vs Q E hr h=>?_)
 ·obtain ⟨_,_,_,rfl,_⟩:=h;rfl
 obtain ⟨t,q,dep,rfl,hl,hq,hdep,q1⟩:=h
 refine ⟨_,(Zc (Zp (i:=3) sc_law_parts_end.nd rfl (by first | exact Or.inl rfl | exact Or.inr rfl) (Xb Zd))
  (Zg (Qi PassesOwn.never (Xv Xhj (fun _=>rfl))
   (Zc (Zp (i:=4) sc_law_parts_end.nd rfl (by first | exact Or.inl rfl | exact Or.inr rfl) (Zo D_law_word_end hr (Za (pv 0) (Za (pv 1) Zd)) (hk:=by omega)))
   (Zc (Zs (PW.pt (Jk (Zi oEq (pv 4) (pv 1) (nomark _)) (Jk (Zi oGt (pv 4) (Zh oAdd (pv 1) Zf) (nomark _)) (Wn (Zi Zfi (Zw slAll (pv 0) (Zu (pv 1)) (Zu (pv 4))) (pv 3) (by with_unfolding_all rfl)))))) (Zg (Zm (Jw Wu Zf))) Zl)
   (Zc (Qc (Zcg PySem.F.plainAttrs_list PySem.F.slot_list_append PySem.F.type_list_append Zce (pv 3) (Za (Zw slAll (pv 0) (Zu (pv 1)) (Zu (pv 4))) Zd)))
   (Zc (Zp (i:=1) sc_law_parts_end.nd rfl (by first | exact Or.inl rfl | exact Or.inr rfl) (Zo D_law_form_end hr (Za (pv 0) (Za (Zo D_law_behind hr (Za (pv 0) (Za (pv 4) (Za Ze Zd))) (hk:=by omega)) (Za (pv 2) Zd))) (hk:=by omega)))
   (Zc (Zs (PW.pt (Jk (Zi oLt (pv 1) Zf (nomark _)) (Wn (Zi oGt (Zr Zx rfl nb.len_ Xf (Za (pv 3) Zd)) Zf (nomark _))))) (Zg (Zm (Jw Wu Zf))) Zl)
   (Zc (Zs (Zi oEq (Zw slAll (pv 0) (Zu (pv 1)) (Zu (Zh oAdd (pv 1) Zf))) Ze (nomark _)) (Zg (Zm (Zh oAdd (pv 1) Zf))) Zl)
   (Zc (Zp (i:=1) sc_law_parts_end.nd rfl (by first | exact Or.inl rfl | exact Or.inr rfl) (Zo D_law_behind hr (Za (pv 0) (Za (pv 1) (Za Ze Zd))) (hk:=by omega)))
   (Zg (Zs (Zi oLt (pv 1) Zf (nomark _)) (Zg (Zm (Jw Wu Zf))) Zl)))))))))))),?_⟩
 try dsimp only [cxK0,cxK1,cxK2,cxK3]
 refine ⟨Nat.zero_le _,fun l hH=>?_⟩
 have hsub:∀ ns:List Str,L2.Sub H H (upd H l (.lst (ns.map V.str))):=fun ns => .refl (Zj hH)
 refine ⟨fun m σ H2=>∃ (ns:List Str) (q2:List Nat) (z:Option V),σ=[some (.str t),some (.int (pos t q2)),some (.int ((dep:Nat):Int)),some (.ref l),z]∧H2=upd H l (.lst (ns.map V.str))∧restL n [] (q.length+1) q=restL n ns m q2∧q2 <:+ t.cps.toList∧q2.length<m∧ns.Nodup∧(∀ a,a∈ns→isName a=true)∧ns.length≤20,⟨q.length+1,[],q,none,rfl,rfl,rfl,hq,Nat.lt_succ_self _,List.nodup_nil,(fun a ha=>nomatch ha),Nat.zero_le _⟩,?_⟩
 rintro m σ H2 ⟨ns,q2,z,rfl,rfl,hW,hq2,hm,hnd,hna,hn20⟩
 obtain ⟨m,rfl⟩:∃ m',m=m'+1:=⟨m - 1,by omega⟩
 rw [hW] at q1
 have no:restL n ns (m+1) q2=none→∀ ns':List Str,∃ H'',L2.Sub H H'' (upd H l (.lst (ns'.map V.str)))∧Q (.int (-1)) H'':=fun e ns'=>⟨H,hsub ns',by rw [e] at q1;exact q1⟩
 refine ⟨true,rfl,iteT ⟨fun σ' H'=>∃ m',m'<m+1∧∃ (ns:List Str) (q2:List Nat) (z:Option V),σ'=[some (.str t),some (.int (pos t q2)),some (.int ((dep:Nat):Int)),some (.ref l),z]∧H'=upd H l (.lst (ns.map V.str))∧restL n [] (q.length+1) q=restL n ns m' q2∧q2 <:+ t.cps.toList∧q2.length<m'∧ns.Nodup∧(∀ a,a∈ns→isName a=true)∧ns.length≤20,fun _ _ h=>h,?_⟩⟩
 refine ⟨_,rfl,_,rfl,t,q2,rfl,hl,hq2,?_⟩
 have eo:=Zig hq2 L26
 have hlen:(⟨(runS L26 q2).toArray⟩:Str).length=(runS L26 q2).length:=by show (runS L26 q2).toArray.size=_;rw [List.size_toArray]
 have hpq:pos t q2=((t.length - q2.length:Nat):Int):=rfl
 have sl:Txt.slice t (some (pos t q2)) (some (pos t (offS L26 q2)))=⟨(runS L26 q2).toArray⟩:=Zbh hq2 (Yh L26 q2).symm
 refine ⟨_,rfl,_,rfl,rfl,_,rfl,iteD (fun z=>?_) (fun z1=>⟨_,rfl,_,rfl,.inl ⟨_,_,rfl,rfl,_,_,rfl,rfl,_,rfl,iteD (fun z=>?_) (fun z2=>⟨_,rfl,_,rfl,_,rfl,_,rfl,_,rfl,.inr ⟨_,rfl,small5 hl,_,rfl,l,ns.map V.str,rfl,.inl (SqL.of Zb),rfl,Xfc ns,_,rfl,?_⟩⟩)⟩⟩)⟩
 ·have z:=V.int.inj z
  exact ⟨_,rfl,no (Zca (.inl (by unfold isName;rw [decide_eq_false (fun y=>by omega),Bool.false_and]))) ns⟩
 ·exact ⟨_,rfl,no (Zca (.inl (by unfold isName;rw [decide_eq_false (fun y=>by omega),Bool.false_and]))) ns⟩
 rw [sl]
 rw [show (if false=true then !inV (V.str ⟨(runS L26 q2).toArray⟩) (ns.map V.str) else inV (V.str ⟨(runS L26 q2).toArray⟩) (ns.map V.str))=decide ((⟨(runS L26 q2).toArray⟩:Str)∈ns) from Zxi _ _]
 refine iteD (fun z=>⟨_,rfl,no (Zca (.inr (.inl z))) ns⟩) (fun z3=>?_)
 have em:ns.map V.str++[V.str ⟨(runS L26 q2).toArray⟩]=(ns++[(⟨(runS L26 q2).toArray⟩:Str)]).map V.str:=by rw [List.map_append];rfl
 have hname:isName ⟨(runS L26 q2).toArray⟩=true:=Zge ⟨by rw [hlen];omega,Qx⟩ (by
  rw [hlen]
  rcases Nat.eq_zero_or_pos (runS L26 q2).length with y | y
  ·exact absurd (by rw [eo,hpq,y];rfl) z1
  ·exact y)
 have hnd2:(ns++[(⟨(runS L26 q2).toArray⟩:Str)]).Nodup:=List.nodup_append.mpr ⟨hnd,(by simp),fun a ha b hb=>by
  obtain rfl:b=_:=List.mem_singleton.mp hb
  intro e;exact z3 (e ▸ ha)⟩
 have hna2:∀ a,a∈ns++[(⟨(runS L26 q2).toArray⟩:Str)]→isName a=true:=fun a ha=>by
  rcases List.mem_append.mp ha with y | y
  ·exact hna a y
  ·rw [List.mem_singleton.mp y];exact hname
 refine ⟨_,rfl,.inl ⟨rfl,_,SqL.of Zb⟩,_,rfl,_,rfl,_,rfl,_,rfl,_,rfl,.inr ⟨_,rfl,small5 hl,l,_,_,rfl,rfl,Zb,(by rw [List.length_map];exact Nat.lt_of_le_of_lt hn20 (by decide)),?_⟩⟩
 rw [sl,Xh,em]
 refine ⟨_,rfl,_,rfl,_,rfl,t,Str.ofString " ",some (offS L26 q2),rfl,hl,(fun x hx=>by rw [← Option.some.inj hx];exact (Jl L26 q2).trans hq2),(by decide +kernel),_,rfl,t,(some (offS L26 q2)).bind (strip (Str.ofString " ").cps.toList),dep,rfl,hl,(fun x hx=>(Yj (show strip (cp " ") (offS L26 q2)=some x from hx)).trans ((Jl L26 q2).trans hq2)),hdep,?_⟩
 rw [show ((some (offS L26 q2)).bind (strip (Str.ofString " ").cps.toList)).bind (fun q=>(rdForm n q).map Prod.snd)=(rdPart (rdForm n) q2).map Prod.snd from (Xia q2).symm]
 cases e:rdPart (rdForm n) q2 with
 | none=>exact ⟨_,rfl,.inl ⟨_,_,rfl,rfl,_,rfl,iteY (show (-1:Int)<0 by decide) ⟨_,rfl,no (Zzf e) _⟩⟩⟩
 | some p =>
  obtain ⟨⟨nm,fm⟩,q3⟩:=p
  have hp:=Xmd e
  obtain ⟨s0,s1,s2⟩:=Zjd e
  rw [hp] at e
  dsimp only at e
  have hq3:=s0.trans hq2
  refine ⟨_,rfl,.inl ⟨_,_,rfl,rfl,_,rfl,iteN (show ¬pos t q3<0 by unfold pos;omega) ⟨_,rfl,_,_,rfl,.inl ⟨_,SqL.of Zb,rfl⟩,_,_,rfl,rfl,_,rfl,iteD (fun z=>?_) (fun z4=>?_)⟩⟩⟩
  ·rw [List.length_map,List.length_append,List.length_singleton] at z
   exact ⟨_,rfl,no (Zca (.inr (.inr (by omega)))) _⟩
  rw [List.length_map,List.length_append,List.length_singleton] at z4
  refine ⟨_,rfl,_,rfl,_,rfl,_,rfl,.inl ⟨_,_,rfl,rfl,_,rfl,.inr ⟨_,rfl,small5 hl,rfl,_,rfl,iteD (fun c=>?_) (fun c=>?_)⟩⟩⟩
  ·obtain ⟨r,hr2⟩:=(Ja (z:=Str.ofString ")") hq3).mp (by rw [show (Str.ofString ")").length=1 by decide +kernel];exact V.str.inj c)
   have e2:strip (cp ")") q3=some r:=by rw [← hr2];exact Zbe ..
   have e3:=Zfg hq3 e2
   rw [Qr] at e3
   have e3:pos t q3+1=pos t r:=e3.symm
   rw [Xdh e e2 (Zeh (by rw [List.length_append,List.length_singleton];omega) (by rw [List.length_append,List.length_singleton];omega) hnd2 hna2)] at q1
   refine ⟨_,rfl,.inl ⟨_,_,rfl,rfl,H,hsub _,?_⟩⟩
   show Q (V.int (pos t q3+1)) H
   rw [e3];exact q1
  ·have e2:strip (cp ")") q3=none:=by
    unfold strip
    exact if_neg (fun hp=>c (congrArg V.str ((Ja (z:=Str.ofString ")") hq3).mpr hp)))
   refine ⟨_,rfl,_,rfl,t,Str.ofString ", ",some q3,rfl,hl,(fun x hx=>by rw [← Option.some.inj hx];exact hq3),(by decide +kernel),?_⟩
   cases e3:strip (cp ", ") q3 with
   | none =>
    rw [show (some q3).bind (strip (Str.ofString ", ").cps.toList)=none from e3]
    exact ⟨_,rfl,.inl ⟨_,_,rfl,rfl,_,rfl,iteY (show (-1:Int)<0 by decide) ⟨_,rfl,no (Zze e e2 e3) _⟩⟩⟩
   | some q4 =>
    rw [show (some q3).bind (strip (Str.ofString ", ").cps.toList)=some q4 from e3]
    have h4:=(Yj e3).length_le
    exact ⟨_,rfl,.inl ⟨_,_,rfl,rfl,_,rfl,iteN (show ¬pos t q4<0 by unfold pos;omega) ⟨m,Nat.lt_succ_self _,ns++[_],q4,_,rfl,rfl,hW.trans (Xgf e e3),(Yj e3).trans hq3,by omega,hnd2,hna2,by rw [List.length_append,List.length_singleton];omega⟩⟩⟩
theorem Xdc (w':Str):inV (.str w') [V.str (Str.ofString "nothing"),.str (Str.ofString "truth"),.str (Str.ofString "whole"),.str (Str.ofString "fraction")]=(bareK w').isSome:=by
 have e:=Zxi w' [bw 0,bw 1,bw 2,bw 3]
 have e2:([bw 0,bw 1,bw 2,bw 3]:List Str).map V.str=[V.str (Str.ofString "nothing"),.str (Str.ofString "truth"),.str (Str.ofString "whole"),.str (Str.ofString "fraction")]:=rfl
 rw [e2] at e
 rw [e]
 cases h:bareK w' with
 | none =>
  obtain ⟨h0,h1,h2,h3⟩:=Xbi h
  exact decide_eq_false (by simp [h0,h1,h2,h3])
 | some k =>
  have:=Zmh h
  refine decide_eq_true ?_
  rw [this]
  have:∀ k:Fin 4,bw k∈[bw 0,bw 1,bw 2,bw 3]:=by decide +kernel
  exact this k
theorem Xbe {n:Nat} {q:List Nat} {k:Fin 4} (h:bareK ⟨(runS L26 q).toArray⟩=some k):(rdForm (n+1) q).map Prod.snd=some (offS L26 q):=by rw [Zvh h];rfl
theorem Xjg {n:Nat} {q q1:List Nat} (h:bareK ⟨(runS L26 q).toArray⟩=none) (e1:strip (cp "(") (offS L26 q)=some q1):(rdForm (n+1) q).map Prod.snd=((rdBrk (rdForm n) ⟨(runS L26 q).toArray⟩ q1).map Prod.snd).bind (strip (cp ")")):=by
 cases e2:rdBrk (rdForm n) ⟨(runS L26 q).toArray⟩ q1 with
 | none=>rw [Zwa h e1 e2];rfl
 | some p =>
  obtain ⟨f,r2⟩:=p
  cases e3:strip (cp ")") r2 with
  | none=>rw [Zvj h e1 e2 e3];exact e3.symm
  | some r3=>rw [Zvi h e1 e2 e3];exact e3.symm
theorem Zsj (n:Nat) (k:Fin 3) (q:List Nat):(rdOne (rdForm n) k q).map Prod.snd=(rdForm n q).map Prod.snd:=by
 unfold rdOne
 cases rdForm n q with
 | none=>rfl
 | some f=>rfl
theorem Xgj (F:Rdr) (q:List Nat):rdBrk F (Str.ofString "span") q=rdSpan q:=by unfold rdBrk;rw [if_pos rfl]
theorem Xha (F:Rdr) (q:List Nat):rdBrk F (Str.ofString "letters") q=rdLet q:=by unfold rdBrk;rw [if_neg (by decide +kernel),if_pos rfl]
theorem Zff (F:Rdr) (q:List Nat) (k:Fin 3):rdBrk F (ow k) q=rdOne F k q:=by
 have h1:∀ k:Fin 3,ow k≠Str.ofString "span"∧ow k≠Str.ofString "letters"∧ow k≠tw 0∧ow k≠tw 1:=by decide +kernel
 obtain ⟨a,b,c,d⟩:=h1 k
 unfold rdBrk
 rw [if_neg a,if_neg b]
 rcases fin3 k with rfl | rfl | rfl
 ·rw [if_pos rfl]
 ·rw [if_neg (by decide +kernel),if_pos rfl]
 ·rw [if_neg (by decide +kernel),if_neg (by decide +kernel),if_neg c,if_neg d,if_pos rfl]
theorem Zqa (F:Rdr) (q:List Nat) (k:Fin 2):rdBrk F (tw k) q=rdTwo F k q:=by
 have h1:∀ k:Fin 2,tw k≠Str.ofString "span"∧tw k≠Str.ofString "letters"∧tw k≠ow 0∧tw k≠ow 1:=by decide +kernel
 obtain ⟨a,b,c,d⟩:=h1 k
 unfold rdBrk
 rw [if_neg a,if_neg b,if_neg c,if_neg d]
 rcases fin2 k with rfl | rfl
 ·rw [if_pos rfl]
 ·rw [if_neg (by decide +kernel),if_pos rfl]
theorem Xfb {f:Addr} {fd:FuncData} (nb:NB mg) (F:FunAt K mg "_law_form_end" Xi ["_law_text_here","_law_at","_law_deep"] f fd) (D_law_behind:DefOk P w K mg base 1 "_law_behind" ["_law_text_here","_law_at","_law_part"] spBeh) (D_law_word_end:DefOk P w K mg base 1 "_law_word_end" ["_law_text_here","_law_at"] spWE) (D_law_span_end:DefOk P w K mg base 2 "_law_span_end" ["_law_text_here","_law_at"] spSE) (D_law_letters_end:DefOk P w K mg base 2 "_law_letters_end" ["_law_text_here","_law_at"] spLE) (D_law_form_end:DefOk P w K mg base 1 "_law_form_end" ["_law_text_here","_law_at","_law_deep"] (fun _ _ _ _=>False)) (D_law_parts_end:DefOk P w K mg base 1 "_law_parts_end" ["_law_text_here","_law_at","_law_deep"] (fun _ _ _ _=>False)):DefOk P w K mg base 4 "_law_form_end" ["_law_text_here","_law_at","_law_deep"] (spFE 0):=by
 refine F.ok sc_law_form_end (fun vs H Q E h=>?_) (fun cdv A outer s H vs Q E hr h=>?_)
 ·obtain ⟨_,_,_,rfl,_⟩:=h;rfl
 obtain ⟨t,r,dep,rfl,hl,hr',hdep,q1⟩:=h
 refine ⟨_,(Zc (Zs (PW.pt (Jk (Zi oLt (pv 1) Zf (nomark _)) (Wn (Zi oGt (pv 2) Zf (nomark _))))) (Zg (Zm (Jw Wu Zf))) Zl)
  (Zc (Zp (i:=3) sc_law_form_end.nd rfl (by first | exact Or.inl rfl | exact Or.inr rfl) (Zo D_law_word_end hr (Za (pv 0) (Za (pv 1) Zd)) (hk:=by omega)))
  (Zc (Zp (i:=4) sc_law_form_end.nd rfl (by first | exact Or.inl rfl | exact Or.inr rfl) (Zw slAll (pv 0) (Zu (pv 1)) (Zu (pv 3))))
  (Zc (Zs (Zi Zfi (pv 4) (Xb (Za Ze (Za Ze (Za Ze (Za Ze Zd))))) (by with_unfolding_all rfl)) (Zg (Zm (pv 3))) Zl)
  (Zc (Zp (i:=1) sc_law_form_end.nd rfl (by first | exact Or.inl rfl | exact Or.inr rfl) (Zo D_law_behind hr (Za (pv 0) (Za (pv 3) (Za Ze Zd))) (hk:=by omega)))
  (Zc (Zs (Zi oLt (pv 1) Zf (nomark _)) (Zg (Zm (Jw Wu Zf))) Zl)
  (Zc (Zs (Zi oEq (pv 4) Ze (nomark _)) (Zg (Zm (Zo D_law_span_end hr (Za (pv 0) (Za (pv 1) Zd)) (hk:=by omega)))) Zl)
  (Zc (Zs (Zi oEq (pv 4) Ze (nomark _)) (Zg (Zm (Zo D_law_letters_end hr (Za (pv 0) (Za (pv 1) Zd)) (hk:=by omega)))) Zl)
  (Zc (Zs (PW.pt (Jk (Zi oEq (pv 4) Ze (nomark _)) (Wn (Zi oEq (pv 4) Ze (nomark _))))) (Zg (Zm (Zo D_law_parts_end hr (Za (pv 0) (Za (pv 1) (Za (Zh oAdd (pv 2) Zf) Zd))) (hk:=by omega)))) Zl)
  (Zc (Zs (PW.pt (Jn (Zi oNe (pv 4) Ze (nomark _)) (Jn (Zi oNe (pv 4) Ze (nomark _)) (Jd (Zi oNe (pv 4) Ze (nomark _)))))) (Zg (Zm (Jw Wu Zf))) Zl)
  (Zg (Zm (Zo D_law_behind hr (Za (pv 0) (Za (Zo D_law_form_end hr (Za (pv 0) (Za (pv 1) (Za (Zh oAdd (pv 2) Zf) Zd))) (hk:=by omega)) (Za Ze Zd))) (hk:=by omega)))))))))))))),?_⟩
 try dsimp only [cxK0,cxK1,cxK2,cxK3]
 have e:(r.bind fun q=>(rdForm 0 q).map Prod.snd)=none:=by cases r<;>rfl
 rw [e] at q1
 exact ⟨_,rfl,.inl ⟨_,_,rfl,rfl,_,rfl,iteD (fun _=>⟨_,rfl,H,.refl (Same.refl _),q1⟩) (fun _=>⟨_,rfl,_,_,rfl,rfl,_,rfl,iteY (by omega) ⟨_,rfl,H,.refl (Same.refl _),q1⟩⟩)⟩⟩
set_option maxHeartbeats 4000000 in
theorem Znb {f:Addr} {fd:FuncData} {n:Nat} (nb:NB mg) (F:FunAt K mg "_law_form_end" Xi ["_law_text_here","_law_at","_law_deep"] f fd) (D_law_behind:DefOk P w K mg base 1 "_law_behind" ["_law_text_here","_law_at","_law_part"] spBeh) (D_law_word_end:DefOk P w K mg base 1 "_law_word_end" ["_law_text_here","_law_at"] spWE) (D_law_span_end:DefOk P w K mg base 2 "_law_span_end" ["_law_text_here","_law_at"] spSE) (D_law_letters_end:DefOk P w K mg base 2 "_law_letters_end" ["_law_text_here","_law_at"] spLE) (D_law_form_end:DefOk P w K mg base (2*n+4) "_law_form_end" ["_law_text_here","_law_at","_law_deep"] (spFE n)) (D_law_parts_end:DefOk P w K mg base (2*n+5) "_law_parts_end" ["_law_text_here","_law_at","_law_deep"] (spPE n)):DefOk P w K mg base (2*n+5+1) "_law_form_end" ["_law_text_here","_law_at","_law_deep"] (spFE (n+1)):=by
 refine F.ok sc_law_form_end (fun vs H Q E h=>?_) (fun cdv A outer s H vs Q E hr h=>?_)
 ·obtain ⟨_,_,_,rfl,_⟩:=h;rfl
 obtain ⟨t,r,dep,rfl,hl,hr',hdep,q1⟩:=h
 refine ⟨_,(Zc (Zs (PW.pt (Jk (Zi oLt (pv 1) Zf (nomark _)) (Wn (Zi oGt (pv 2) Zf (nomark _))))) (Zg (Zm (Jw Wu Zf))) Zl)
  (Zc (Zp (i:=3) sc_law_form_end.nd rfl (by first | exact Or.inl rfl | exact Or.inr rfl) (Zo D_law_word_end hr (Za (pv 0) (Za (pv 1) Zd)) (hk:=by omega)))
  (Zc (Zp (i:=4) sc_law_form_end.nd rfl (by first | exact Or.inl rfl | exact Or.inr rfl) (Zw slAll (pv 0) (Zu (pv 1)) (Zu (pv 3))))
  (Zc (Zs (Zi Zfi (pv 4) (Xb (Za Ze (Za Ze (Za Ze (Za Ze Zd))))) (by with_unfolding_all rfl)) (Zg (Zm (pv 3))) Zl)
  (Zc (Zp (i:=1) sc_law_form_end.nd rfl (by first | exact Or.inl rfl | exact Or.inr rfl) (Zo D_law_behind hr (Za (pv 0) (Za (pv 3) (Za Ze Zd))) (hk:=by omega)))
  (Zc (Zs (Zi oLt (pv 1) Zf (nomark _)) (Zg (Zm (Jw Wu Zf))) Zl)
  (Zc (Zs (Zi oEq (pv 4) Ze (nomark _)) (Zg (Zm (Zo D_law_span_end hr (Za (pv 0) (Za (pv 1) Zd)) (hk:=by omega)))) Zl)
  (Zc (Zs (Zi oEq (pv 4) Ze (nomark _)) (Zg (Zm (Zo D_law_letters_end hr (Za (pv 0) (Za (pv 1) Zd)) (hk:=by omega)))) Zl)
  (Zc (Zs (PW.pt (Jk (Zi oEq (pv 4) Ze (nomark _)) (Wn (Zi oEq (pv 4) Ze (nomark _))))) (Zg (Zm (Zo D_law_parts_end hr (Za (pv 0) (Za (pv 1) (Za (Zh oAdd (pv 2) Zf) Zd))) (hk:=by omega)))) Zl)
  (Zc (Zs (PW.pt (Jn (Zi oNe (pv 4) Ze (nomark _)) (Jn (Zi oNe (pv 4) Ze (nomark _)) (Jd (Zi oNe (pv 4) Ze (nomark _)))))) (Zg (Zm (Jw Wu Zf))) Zl)
  (Zg (Zm (Zo D_law_behind hr (Za (pv 0) (Za (Zo D_law_form_end hr (Za (pv 0) (Za (pv 1) (Za (Zh oAdd (pv 2) Zf) Zd))) (hk:=by omega)) (Za Ze Zd))) (hk:=by omega)))))))))))))),?_⟩
 try dsimp only [cxK0,cxK1,cxK2,cxK3]
 refine ⟨_,rfl,.inl ⟨_,_,rfl,rfl,_,rfl,?_⟩⟩
 cases r with
 | none=>exact iteY (show (-1:Int)<0 by decide) ⟨_,rfl,H,.refl (Same.refl _),q1⟩
 | some q =>
  have hq:=hr' q rfl
  replace q1:Q (.int (posO t ((rdForm (n+1) q).map Prod.snd))) H:=q1
  have sl:Txt.slice t (some (pos t q)) (some (pos t (offS L26 q)))=⟨(runS L26 q).toArray⟩:=Zbh hq (Yh L26 q).symm
  refine iteN (show ¬pos t q<0 by unfold pos;omega) ⟨_,rfl,_,_,rfl,rfl,_,rfl,iteN (by omega) ?_⟩
  refine ⟨_,rfl,_,rfl,t,q,rfl,hl,hq,_,rfl,_,rfl,_,rfl,_,rfl,_,rfl,.inr ⟨_,rfl,small5 hl,?_⟩⟩
  rw [show Txt.slice t (some (posO t (some q))) (some (pos t (offS L26 q)))=⟨(runS L26 q).toArray⟩ from sl]
  have hoff:=(Jl L26 q).trans hq
  generalize hw:(⟨(runS L26 q).toArray⟩:Str)=ww
  refine ⟨_,rfl,(by decide),fun p hp=>⟨p,_,rfl,.inl (SqL.of Zb),rfl,rfl,_,rfl,?_⟩⟩
  have hsub:L2.Sub H H (upd H p (.lst [V.str (Str.ofString "nothing"),.str (Str.ofString "truth"),.str (Str.ofString "whole"),.str (Str.ofString "fraction")])) := .refl (Zj hp)
  rw [show (if false=true then !inV (V.str ww) [V.str (Str.ofString "nothing"),.str (Str.ofString "truth"),.str (Str.ofString "whole"),.str (Str.ofString "fraction")] else inV (V.str ww) [V.str (Str.ofString "nothing"),.str (Str.ofString "truth"),.str (Str.ofString "whole"),.str (Str.ofString "fraction")])=(bareK ww).isSome from Xdc ww]
  cases hk:bareK ww with
  | some k =>
   rw [← hw] at hk
   rw [Xbe hk] at q1
   exact iteT ⟨_,rfl,H,hsub,q1⟩
  | none =>
   have hk':=hk
   rw [← hw] at hk'
   refine iteF ⟨_,rfl,_,rfl,t,Str.ofString "(",some (offS L26 q),rfl,hl,(fun x hx=>by rw [← Option.some.inj hx];exact hoff),(by decide +kernel),?_⟩
   cases e1:strip (cp "(") (offS L26 q) with
   | none =>
    rw [Zwb hk' e1] at q1
    rw [show (some (offS L26 q)).bind (strip (Str.ofString "(").cps.toList)=none from e1]
    exact ⟨_,rfl,.inl ⟨_,_,rfl,rfl,_,rfl,iteY (show (-1:Int)<0 by decide) ⟨_,rfl,H,hsub,q1⟩⟩⟩
   | some q3 =>
    rw [Xjg hk' e1,hw] at q1
    have hq3:=(Yj e1).trans hoff
    rw [show (some (offS L26 q)).bind (strip (Str.ofString "(").cps.toList)=some q3 from e1]
    refine ⟨_,rfl,.inl ⟨_,_,rfl,rfl,_,rfl,iteN (show ¬pos t q3<0 by unfold pos;omega) ?_⟩⟩
    refine ⟨_,rfl,rfl,_,rfl,iteD (fun z=>?_) (fun z1=>?_)⟩
    ·rw [V.str.inj z,Xgj] at q1
     exact ⟨_,rfl,_,rfl,t,q3,rfl,hl,hq3,H,hsub,q1⟩
    refine ⟨_,rfl,rfl,_,rfl,iteD (fun z=>?_) (fun z2=>?_)⟩
    ·rw [V.str.inj z,Xha] at q1
     exact ⟨_,rfl,_,rfl,t,q3,rfl,hl,hq3,H,hsub,q1⟩
    refine ⟨_,rfl,rfl,_,rfl,iteD (fun z=>?_) (fun z3=>⟨_,rfl,rfl,_,rfl,iteD (fun z=>?_) (fun z4=>?_)⟩)⟩
    ·rw [show ww=tw 0 from V.str.inj z,Zqa,Xca] at q1
     exact ⟨_,rfl,_,rfl,_,rfl,.inl ⟨_,_,rfl,rfl,t,q3,dep+1,rfl,hl,hq3,by omega,H,hsub,q1⟩⟩
    ·rw [show ww=tw 1 from V.str.inj z,Zqa,Xca] at q1
     exact ⟨_,rfl,_,rfl,_,rfl,.inl ⟨_,_,rfl,rfl,t,q3,dep+1,rfl,hl,hq3,by omega,H,hsub,q1⟩⟩
    refine ⟨_,rfl,rfl,_,rfl,iteDN (fun z=>?_) (fun z5=>⟨_,rfl,rfl,_,rfl,iteDN (fun z=>?_) (fun z6=>⟨_,rfl,rfl,_,rfl,iteDN (fun z=>?_) (fun z7=>?_)⟩)⟩)⟩
    ·rw [show ww=ow 0 from V.str.inj z] at q1
     rw [Zff,Zsj] at q1
     exact ⟨_,rfl,_,rfl,_,rfl,_,rfl,.inl ⟨_,_,rfl,rfl,t,some q3,dep+1,rfl,hl,(fun x hx=>by rw [← Option.some.inj hx];exact hq3),by omega,t,Str.ofString ")",(rdForm n q3).map Prod.snd,rfl,hl,(fun x hx=>by
      obtain ⟨p,hp,rfl⟩:=Option.map_eq_some_iff.mp hx
      exact (Zaf hp).trans hq3),(by decide +kernel),H,hsub,q1⟩⟩
    ·rw [show ww=ow 1 from V.str.inj z] at q1
     rw [Zff,Zsj] at q1
     exact ⟨_,rfl,_,rfl,_,rfl,_,rfl,.inl ⟨_,_,rfl,rfl,t,some q3,dep+1,rfl,hl,(fun x hx=>by rw [← Option.some.inj hx];exact hq3),by omega,t,Str.ofString ")",(rdForm n q3).map Prod.snd,rfl,hl,(fun x hx=>by
      obtain ⟨p,hp,rfl⟩:=Option.map_eq_some_iff.mp hx
      exact (Zaf hp).trans hq3),(by decide +kernel),H,hsub,q1⟩⟩
    ·rw [show ww=ow 2 from V.str.inj z] at q1
     rw [Zff,Zsj] at q1
     exact ⟨_,rfl,_,rfl,_,rfl,_,rfl,.inl ⟨_,_,rfl,rfl,t,some q3,dep+1,rfl,hl,(fun x hx=>by rw [← Option.some.inj hx];exact hq3),by omega,t,Str.ofString ")",(rdForm n q3).map Prod.snd,rfl,hl,(fun x hx=>by
      obtain ⟨p,hp,rfl⟩:=Option.map_eq_some_iff.mp hx
      exact (Zaf hp).trans hq3),(by decide +kernel),H,hsub,q1⟩⟩
    ·have e:rdBrk (rdForm n) ww q3=none:=by
      unfold rdBrk
      rw [if_neg (fun y=>z1 (by rw [y])),if_neg (fun y=>z2 (by rw [y])),if_neg (fun y=>z5 (by rw [y];rfl)),if_neg (fun y=>z6 (by rw [y];rfl)),if_neg (fun y=>z3 (by rw [y];rfl)),if_neg (fun y=>z4 (by rw [y];rfl)),if_neg (fun y=>z7 (by rw [y];rfl))]
     rw [e] at q1
     exact ⟨_,rfl,H,hsub,q1⟩
theorem Zfa {f f2:Addr} {fd fd2:FuncData} (nb:NB mg) (F:FunAt K mg "_law_form_end" Xi ["_law_text_here","_law_at","_law_deep"] f fd) (F2:FunAt K mg "_law_parts_end" Xj ["_law_text_here","_law_at","_law_deep"] f2 fd2) (D_law_behind:DefOk P w K mg base 1 "_law_behind" ["_law_text_here","_law_at","_law_part"] spBeh) (D_law_word_end:DefOk P w K mg base 1 "_law_word_end" ["_law_text_here","_law_at"] spWE) (D_law_span_end:DefOk P w K mg base 2 "_law_span_end" ["_law_text_here","_law_at"] spSE) (D_law_letters_end:DefOk P w K mg base 2 "_law_letters_end" ["_law_text_here","_law_at"] spLE):∀ n,DefOk P w K mg base (2*n+4) "_law_form_end" ["_law_text_here","_law_at","_law_deep"] (spFE n)
 | 0=>Xfb nb F D_law_behind D_law_word_end D_law_span_end D_law_letters_end (DefOk.none F fun _ _ _ _ h=>h) (DefOk.none F2 fun _ _ _ _ h=>h)
 | n+1=>by
  have D:=Zfa nb F F2 D_law_behind D_law_word_end D_law_span_end D_law_letters_end n
  have D2:=Zga nb F2 D_law_behind D_law_word_end D
  have:=Znb nb F D_law_behind D_law_word_end D_law_span_end D_law_letters_end D D2
  rwa [show 2*(n+1)+4=2*n+5+1 by omega]
noncomputable def oddT:List Str:=[Str.ofString "record(a whole, )",Str.ofString "choice(a truth, )",Str.ofString "record(, a whole)",Str.ofString "record(a whole, , b truth)",Str.ofString "record(a maybe(whole)b truth)",Str.ofString "choice(a span(0, 9)b letters(ab))",Str.ofString "maybe(whole, truth)",Str.ofString "many(truth, truth)",Str.ofString "turned(whole, span(0, 9), truth)",Str.ofString "whole()",Str.ofString "nothing()",Str.ofString "many(truth())",Str.ofString "record(a fraction())",Str.ofString "truth(whole)",Str.ofString "span(1, 2, 3)",Str.ofString "span(1)",Str.ofString "span(1, 2, )",Str.ofString "record(a many(truth, whole), b truth)",Str.ofString "letters(ab)()",Str.ofString "record(a whole)b truth"]
noncomputable def spOdd:Sp:=fun vs H Q _=>∃ c:Int,vs=[.int c]∧∀ x:Str,x.length≤100→Q (.str x) H
theorem pick (ws:List Str) (c m:Int) (hm:m=ws.length) (h:0<ws.length) {B:Nat} (hb:ws.all (fun x=>decide (x.length≤B))=true):∃ x:Str,x.length≤B∧atI (ws.map V.str) (c%m)=some (.str x):=by
 obtain ⟨x,hx,e⟩:=Zmi V.str ws c m hm h
 exact ⟨x,of_decide_eq_true (List.all_eq_true.mp hb x hx),e⟩
theorem pick2 (ws:List Str) (c m:Int) (hm:m=ws.length) (h:0<ws.length) {B:Nat} (hb:∀ x,x∈ws→x.length≤B):∃ x:Str,x.length≤B∧atI (ws.map V.str) (c%m)=some (.str x):=by
 obtain ⟨x,hx,e⟩:=Zmi V.str ws c m hm h
 exact ⟨x,hb x hx,e⟩
theorem Xgb:∀ (ys:List Str) (B:Nat),(∀ y,y∈ys→y.length≤B)→(ys.map (·.length)).sum≤ys.length*B
 | [],B,_=>Nat.zero_le _
 | y::ys,B,h=>by
  have h1:=h y (List.mem_cons_self ..)
  have h2:=Xgb ys B fun z hz=>h z (List.mem_cons_of_mem _ hz)
  rw [List.map_cons,List.sum_cons,List.length_cons,Nat.succ_mul]
  omega
theorem Xad {f:Addr} {fd:FuncData} (F:FunAt K mg "_law_odd" Jg ["_law_number"] f fd):DefOk P w K mg base 1 "_law_odd" ["_law_number"] spOdd:=by
 refine F.ok sc_law_odd (fun vs H Q E h=>?_) (fun cdv A outer s H vs Q E hr h=>?_)
 ·obtain ⟨_,rfl,_⟩:=h;rfl
 obtain ⟨c,rfl,q⟩:=h
 refine ⟨_,(Zc (Zp (i:=1) sc_law_odd.nd rfl (by first | exact Or.inl rfl | exact Or.inr rfl) (Xb (Za Ze (Za Ze (Za Ze (Za Ze Zd))))))
  (Zc (Zp (i:=1) sc_law_odd.nd rfl (by first | exact Or.inl rfl | exact Or.inr rfl) (Zh Zbb (pv 1) (Xb (Za Ze (Za Ze (Za Ze Zd))))))
  (Zc (Zp (i:=1) sc_law_odd.nd rfl (by first | exact Or.inl rfl | exact Or.inr rfl) (Zh Zbb (pv 1) (Xb (Za Ze (Za Ze (Za Ze (Za Ze (Za Ze Zd))))))))
  (Zc (Zp (i:=1) sc_law_odd.nd rfl (by first | exact Or.inl rfl | exact Or.inr rfl) (Zh Zbb (pv 1) (Xb (Za Ze (Za Ze (Za Ze (Za Ze (Za Ze Zd))))))))
  (Zc (Zp (i:=1) sc_law_odd.nd rfl (by first | exact Or.inl rfl | exact Or.inr rfl) (Zh Zbb (pv 1) (Xb (Za Ze (Za Ze (Za Ze Zd))))))
  (Zg (Zm (Xo iAll (pv 1) (Zh Zv (pv 0) Zf) (fun _ _=>rfl))))))))),?_⟩
 try dsimp only [cxK0,cxK1,cxK2,cxK3]
 obtain ⟨x,hx,hat⟩:=pick oddT c 20 rfl (by decide) (B:=100) (by decide +kernel)
 refine ⟨by decide,fun l1 h1=>⟨_,rfl,by decide,fun l2 h2=>⟨l1,l2,_,_,rfl,rfl,Zj h2 _ _ Zb,Zb,by decide,fun l3 h3=>?_⟩⟩⟩
 refine ⟨_,rfl,by decide,fun l4 h4=>⟨l3,l4,_,_,rfl,rfl,Zj h4 _ _ Zb,Zb,by decide,fun l5 h5=>?_⟩⟩
 refine ⟨_,rfl,by decide,fun l6 h6=>⟨l5,l6,_,_,rfl,rfl,Zj h6 _ _ Zb,Zb,by decide,fun l7 h7=>?_⟩⟩
 refine ⟨_,rfl,by decide,fun l8 h8=>⟨l7,l8,_,_,rfl,rfl,Zj h8 _ _ Zb,Zb,by decide,fun l9 h9=>?_⟩⟩
 exact ⟨_,rfl,_,rfl,_,_,rfl,rfl,(by show (0:Int)<20;decide),.inl (.inl ⟨_,_,_,_,rfl,rfl,SqL.of Zb,hat,H,.refl ((((((((Zj h1).trans (Zj h2)).trans (Zj h3)).trans (Zj h4)).trans (Zj h5)).trans (Zj h6)).trans (Zj h7)).trans (Zj h8) |>.trans (Zj h9)),q x hx⟩)⟩
noncomputable def pieceT:List Str:=[Str.ofString ", ",Str.ofString "()",Str.ofString ", whole",Str.ofString ", b truth",Str.ofString " truth",Str.ofString "x whole",Str.ofString ",",Str.ofString " ",Str.ofString ")",Str.ofString "(",Str.ofString ")b ",Str.ofString "(whole)",Str.ofString ", 3"]
noncomputable def spPiece (K:PySem.W.Frag):Sp:=fun vs H Q _=>∃ (a:Addr) (ns:List Int) (t:Str),vs=[.ref a,.str t]∧SqL K H a (ns.map V.int)∧ns.length≤63∧t.length≤40000∧∀ x:Str,x.length≤90000→Q (.str x) H
theorem Ztd {f:Addr} {fd:FuncData} (nb:NB mg) (F:FunAt K mg "_law_piece" Wc ["_law_script","_law_text_here"] f fd) (D_law_cell_at:DefOk P w K mg base 1 "_law_cell_at" ["_law_script","_law_k"] (spCellAt K)) (D_law_mixed:DefOk P w K mg base 1 "_law_mixed" ["_law_cell","_law_k"] spMixed):DefOk P w K mg base 2 "_law_piece" ["_law_script","_law_text_here"] (spPiece K):=by
 refine F.ok sc_law_piece (fun vs H Q E h=>?_) (fun cdv A outer s H vs Q E hr h=>?_)
 ·obtain ⟨_,_,_,rfl,_⟩:=h;rfl
 obtain ⟨a,ns,t,rfl,hS,hl,ht,q⟩:=h
 refine ⟨_,(Zc (Zp (i:=2) sc_law_piece.nd rfl (by first | exact Or.inl rfl | exact Or.inr rfl) (Xb (Za Ze (Za Ze (Za Ze (Za Ze (Za Ze (Za Ze (Za Ze (Za Ze (Za Ze (Za Ze (Za Ze (Za Ze (Za Ze Zd)))))))))))))))
  (Zc (Zp (i:=3) sc_law_piece.nd rfl (by first | exact Or.inl rfl | exact Or.inr rfl) (Xo iAll (pv 2) (Zh Zv (Zo D_law_mixed hr (Za (Zo D_law_cell_at hr (Za (pv 0) (Za Zf Zd))) (Za Zf Zd))) Zf) (fun _ _=>rfl)))
  (Zc (Zp (i:=4) sc_law_piece.nd rfl (by first | exact Or.inl rfl | exact Or.inr rfl) (Zh Zv (Zo D_law_mixed hr (Za (Zo D_law_cell_at hr (Za (pv 0) (Za Zf Zd))) (Za Zf Zd))) (Zh oAdd (Zr Zx rfl nb.len_ Xf (Za (pv 1) Zd)) Zf)))
  (Zg (Zm (Zh oAdd (Zh oAdd (Zw slAll (pv 1) Yi (Zu (pv 4))) (pv 3)) (Zw slAll (pv 1) (Zu (pv 4)) Yi))))))),?_⟩
 try dsimp only [cxK0,cxK1,cxK2,cxK3]
 refine ⟨by decide,fun l1 h1=>?_⟩
 have s1:=Zj (o:=HO.lst (pieceT.map V.str)) h1
 refine ⟨_,rfl,_,rfl,a,ns,3,rfl,s1.seq hS,hl,_,_,rfl,fun nu n1 n2=>?_⟩
 obtain ⟨x,hx,hat⟩:=pick pieceT nu 13 rfl (by decide) (B:=100) (by decide +kernel)
 have lt:t.length≤sizeLine:=small5 (by omega)
 refine ⟨_,_,rfl,rfl,(by show (0:Int)<13;decide),.inl (.inl ⟨_,_,_,_,rfl,rfl,SqL.of Zb,hat,?_⟩)⟩
 refine ⟨_,rfl,a,ns,4,rfl,s1.seq hS,hl,_,_,rfl,fun nu2 m1 m2=>⟨_,rfl,_,_,rfl,⟨lt,rfl⟩,.inl ⟨_,_,rfl,rfl,_,_,rfl,rfl,(by show (0:Int)<_;omega),?_⟩⟩⟩
 have b1:=slice_le t none (some (nu2%(((t.length:Nat):Int)+1)))
 have b2:=slice_le t (some (nu2%(((t.length:Nat):Int)+1))) none
 refine ⟨_,rfl,_,rfl,_,rfl,.inr ⟨_,rfl,lt,_,rfl,.inr ⟨_,_,rfl,rfl,small5 (by omega),_,rfl,_,rfl,_,rfl,.inr ⟨_,rfl,lt,.inr ⟨_,_,rfl,rfl,small5 (by rw [Zk];omega),H,.refl s1,q _ (by rw [Zk,Zk];omega)⟩⟩⟩⟩⟩
noncomputable def spBent (K:PySem.W.Frag):Sp:=fun vs H Q _=>∃ (a:Addr) (ns:List Int) (t:Str) (nu:Int),vs=[.ref a,.str t,.int nu]∧SqL K H a (ns.map V.int)∧ns.length≤63∧1≤t.length∧t.length≤10000∧∀ x:Str,x.length≤40000→Q (.str x) H
theorem len95:(Str.ofString " !\"#$&'()*+,-./0123456789:;<=>?@ABCDEFGHIJKLMNOPQRSTUVWXYZ[\\]^_`"++Str.ofString "abcdefghijklmnopqrstuvwxyz{|}~").length=94:=by decide +kernel
set_option maxHeartbeats 2000000 in
theorem Zwi {f:Addr} {fd:FuncData} (nb:NB mg) (F:FunAt K mg "_law_bent" Ww ["_law_script","_law_text_here","_law_number"] f fd) (D_law_cell_at:DefOk P w K mg base 1 "_law_cell_at" ["_law_script","_law_k"] (spCellAt K)) (D_law_mixed:DefOk P w K mg base 1 "_law_mixed" ["_law_cell","_law_k"] spMixed):DefOk P w K mg base 2 "_law_bent" ["_law_script","_law_text_here","_law_number"] (spBent K):=by
 refine F.ok sc_law_bent (fun vs H Q E h=>?_) (fun cdv A outer s H vs Q E hr h=>?_)
 ·obtain ⟨_,_,_,_,rfl,_⟩:=h;rfl
 obtain ⟨a,ns,t,nu,rfl,hS,hl,ht1,ht,q⟩:=h
 refine ⟨_,(Zc (Zp (i:=3) sc_law_bent.nd rfl (by first | exact Or.inl rfl | exact Or.inr rfl) Ze)
  (Zc (Zp (i:=3) sc_law_bent.nd rfl (by first | exact Or.inl rfl | exact Or.inr rfl) (Zh oAdd (pv 3) Ze))
  (Qb (Zs (Zi oEq (Zh Zv (Zh Xx (pv 2) Zf) Zf) Zf (nomark _)) (Zg (Zp (i:=3) sc_law_bent.nd rfl (by first | exact Or.inl rfl | exact Or.inr rfl) (Zh oAdd Ze (pv 1)))) Zl)
  (Zc (Zp (i:=4) sc_law_bent.nd rfl (by first | exact Or.inl rfl | exact Or.inr rfl) (Xo iAll (pv 3) (Zh Zv (Zo D_law_mixed hr (Za (Zo D_law_cell_at hr (Za (pv 0) (Za Zf Zd))) (Za Zf Zd))) (Zr Zx rfl nb.len_ Xf (Za (pv 3) Zd))) (fun _ _=>rfl)))
  (Zc (Zp (i:=5) sc_law_bent.nd rfl (by first | exact Or.inl rfl | exact Or.inr rfl) (Zh Zv (Zo D_law_mixed hr (Za (Zo D_law_cell_at hr (Za (pv 0) (Za Zf Zd))) (Za Zf Zd))) (Zh oAdd (Zr Zx rfl nb.len_ Xf (Za (pv 1) Zd)) Zf)))
  (Zc (Zs (Zi oEq (Zh Zv (pv 2) Zf) Zf (nomark _)) (Zg (Zm (Zh oAdd (Zh oAdd (Zw slAll (pv 1) Yi (Zu (pv 5))) (pv 4)) (Zw slAll (pv 1) (Zu (pv 5)) Yi)))) Zl)
  (Zc (Zs (Zi oEq (Zh Zv (pv 2) Zf) Zf (nomark _)) (Zg (Zm (Zw slAll (pv 1) Yi (Zu (pv 5))))) Zl)
  (Zc (Zp (i:=5) sc_law_bent.nd rfl (by first | exact Or.inl rfl | exact Or.inr rfl) (Zr (Zre rfl) rfl nb.min_ Xki (Za (pv 5) (Za (Zh oSub (Zr Zx rfl nb.len_ Xf (Za (pv 1) Zd)) Zf) Zd))))
  (Zc (Zs (Zi oEq (Zh Zv (pv 2) Zf) Zf (nomark _)) (Zg (Zm (Zh oAdd (Zw slAll (pv 1) Yi (Zu (pv 5))) (Zw slAll (pv 1) (Zu (Zh oAdd (pv 5) Zf)) Yi)))) Zl)
  (Zc (Zs (Zi oEq (Zh Zv (pv 2) Zf) Zf (nomark _)) (Zg (Zm (Zh oAdd (Zh oAdd (Zw slAll (pv 1) Yi (Zu (pv 5))) (pv 4)) (Zw slAll (pv 1) (Zu (Zh oAdd (pv 5) Zf)) Yi)))) Zl)
  (Zc (Zp (i:=6) sc_law_bent.nd rfl (by first | exact Or.inl rfl | exact Or.inr rfl) (Zw slAll (pv 1) (Zu (Zh oAdd (pv 5) Zf)) (Zu (Zh oAdd (pv 5) Zf))))
  (Zg (Zm (Zh oAdd (Zh oAdd (Zh oAdd (Zw slAll (pv 1) Yi (Zu (pv 5))) (pv 6)) (Xo iAll (pv 1) (pv 5) (fun _ _=>rfl))) (Zw slAll (pv 1) (Zu (Zh oAdd (pv 5) Zf)) Yi))))))))))))))),?_⟩
 try dsimp only [cxK0,cxK1,cxK2,cxK3]
 have lt:t.length≤sizeLine:=small5 (by omega)
 refine ⟨_,rfl,.inr ⟨_,_,rfl,rfl,by decide +kernel,?_⟩⟩
 refine ⟨fun σ H'=>H'=H∧∃ ww:Str,σ=[some (.ref a),some (.str t),some (.int nu),some (.str ww),none,none,none]∧0<ww.length∧ww.length≤20000,?_,?_⟩
 ·refine ⟨_,rfl,_,_,rfl,rfl,⟨by decide,by decide⟩,_,_,rfl,rfl,(by show (0:Int)<2;decide),rfl,_,rfl,iteD (fun _=>?_) (fun _=>?_)⟩
  ·have l6:(Str.ofString "(), -0").length=6:=by decide +kernel
   exact ⟨_,rfl,.inr ⟨_,_,rfl,rfl,small5 (by omega),rfl,_,rfl,by rw [Zk];omega,by rw [Zk];omega⟩⟩
  ·exact ⟨rfl,_,rfl,by rw [len95];decide,by rw [len95];decide⟩
 rintro σ H2 ⟨rfl,ww,rfl,hw0,hw1⟩
 have lw:ww.length≤sizeLine:=small5 (by omega)
 refine ⟨_,rfl,_,rfl,a,ns,1,rfl,hS,hl,_,_,rfl,fun nu1 n1 n2=>?_⟩
 obtain ⟨c,_,hc⟩:=Zja (x:=ww) (k:=(nu1%((ww.length:Nat):Int)).toNat) (by
  have h1:=Int.emod_lt_of_pos nu1 (show (0:Int)<((ww.length:Nat):Int) by omega)
  have h2:=Int.emod_nonneg nu1 (show ((ww.length:Nat):Int)≠0 by omega)
  omega)
 rw [Int.toNat_of_nonneg (Int.emod_nonneg nu1 (show ((ww.length:Nat):Int)≠0 by omega))] at hc
 have l1:(⟨#[c]⟩:Str).length=1:=rfl
 refine ⟨_,rfl,_,_,rfl,⟨lw,rfl⟩,_,_,rfl,rfl,(by show (0:Int)<_;omega),.inr ⟨_,_,_,rfl,rfl,lw,hc,?_⟩⟩
 refine ⟨_,rfl,a,ns,2,rfl,hS,hl,_,_,rfl,fun nu2 m1 m2=>⟨_,rfl,_,_,rfl,⟨lt,rfl⟩,.inl ⟨_,_,rfl,rfl,_,_,rfl,rfl,(by show (0:Int)<_;omega),?_⟩⟩⟩
 have k1:=Int.emod_nonneg nu2 (show (((t.length:Nat):Int)+1)≠0 by omega)
 dsimp only
 generalize nu2%(((t.length:Nat):Int)+1)=at' at k1
 have b1:=slice_le t none (some at')
 have b2:=slice_le t (some at') none
 refine ⟨_,rfl,_,_,rfl,rfl,(by show (0:Int)<7;decide),rfl,_,rfl,iteD (fun _=>?_) (fun _=>?_)⟩
 ·exact ⟨_,rfl,_,rfl,_,rfl,.inr ⟨_,rfl,lt,_,rfl,.inr ⟨_,_,rfl,rfl,small5 (by omega),_,rfl,_,rfl,_,rfl,.inr ⟨_,rfl,lt,.inr ⟨_,_,rfl,rfl,small5 (by rw [Zk];omega),H2,.refl (Same.refl _),q _ (by rw [Zk,Zk];omega)⟩⟩⟩⟩⟩
 refine ⟨_,rfl,_,_,rfl,rfl,(by show (0:Int)<7;decide),rfl,_,rfl,iteD (fun _=>?_) (fun _=>?_)⟩
 ·exact ⟨_,rfl,_,rfl,_,rfl,.inr ⟨_,rfl,lt,H2,.refl (Same.refl _),q _ (by omega)⟩⟩
 refine ⟨_,rfl,_,rfl,_,_,rfl,⟨lt,rfl⟩,_,_,rfl,rfl,?_⟩
 refine ⟨_,_,rfl,?_⟩
 obtain ⟨k2,hk2,ek2⟩:∃ k2:Nat,k2<t.length∧(if ((t.length:Nat):Int) - 1<at' then ((t.length:Nat):Int) - 1 else at')=((k2:Nat):Int):=by
  split
  ·exact ⟨t.length - 1,by omega,by omega⟩
  ·exact ⟨at'.toNat,by omega,by omega⟩
 dsimp only
 rw [ek2]
 clear b1 b2
 have b1:=slice_le t none (some ((k2:Nat):Int))
 have b2:=slice_le t (some (((k2:Nat):Int)+1)) none
 refine ⟨_,rfl,_,_,rfl,rfl,(by show (0:Int)<7;decide),rfl,_,rfl,iteD (fun _=>?_) (fun _=>?_)⟩
 ·exact ⟨_,rfl,_,rfl,_,rfl,.inr ⟨_,rfl,lt,_,rfl,_,rfl,.inl ⟨_,_,rfl,rfl,_,rfl,.inr ⟨_,rfl,lt,.inr ⟨_,_,rfl,rfl,small5 (by omega),H2,.refl (Same.refl _),q _ (by rw [Zk];omega)⟩⟩⟩⟩⟩
 refine ⟨_,rfl,_,_,rfl,rfl,(by show (0:Int)<7;decide),rfl,_,rfl,iteD (fun _=>?_) (fun _=>?_)⟩
 ·exact ⟨_,rfl,_,rfl,_,rfl,.inr ⟨_,rfl,lt,_,rfl,.inr ⟨_,_,rfl,rfl,small5 (by omega),_,rfl,_,rfl,.inl ⟨_,_,rfl,rfl,_,rfl,.inr ⟨_,rfl,lt,.inr ⟨_,_,rfl,rfl,small5 (by rw [Zk];omega),H2,.refl (Same.refl _),q _ (by rw [Zk,Zk];omega)⟩⟩⟩⟩⟩⟩
 obtain ⟨c2,_,hc2⟩:=Zja (x:=t) hk2
 have b3:=slice_le t (some (((k2:Nat):Int)+1)) (some (((k2:Nat):Int)+2))
 have b4:=slice_le t (some (((k2:Nat):Int)+2)) none
 have l2:(⟨#[c2]⟩:Str).length=1:=rfl
 refine ⟨_,rfl,_,rfl,.inl ⟨_,_,rfl,rfl,_,rfl,_,rfl,.inl ⟨_,_,rfl,rfl,_,rfl,.inr ⟨_,rfl,lt,?_⟩⟩⟩⟩
 refine ⟨_,rfl,_,rfl,_,rfl,.inr ⟨_,rfl,lt,_,rfl,.inr ⟨_,_,rfl,rfl,small5 (by omega),_,rfl,_,rfl,.inr ⟨_,_,_,rfl,rfl,lt,hc2,.inr ⟨_,_,rfl,rfl,small5 (by rw [Zk];omega),_,rfl,_,rfl,.inl ⟨_,_,rfl,rfl,_,rfl,.inr ⟨_,rfl,lt,.inr ⟨_,_,rfl,rfl,small5 (by rw [Zk,Zk];omega),H2,.refl (Same.refl _),q _ (by rw [Zk,Zk,Zk];omega)⟩⟩⟩⟩⟩⟩⟩⟩
noncomputable def edW:List Str:=[Str.ofString "maybe(",Str.ofString "many(",Str.ofString "turned(",Str.ofString "record(a ",Str.ofString "choice(b ",Str.ofString "record(a truth, b ",Str.ofString "choice(a whole, b "]
noncomputable def edH:List Str:=[Str.ofString "record(",Str.ofString "choice("]
noncomputable def edL:List Str:=[Str.ofString "truth",Str.ofString "span(0, 1)",Str.ofString "letters(ab)",Str.ofString "record(a whole)"]
noncomputable def edE:List Str:=[Str.ofString "letters()",Str.ofString "maybe()",Str.ofString "record()",Str.ofString "span()"]
noncomputable def edB:List Str:=[Str.ofString "-0",Str.ofString "00",Str.ofString "-05",Str.ofString "--1",Str.ofString "+1",Str.ofString "1_0",Str.ofString " 1",Str.ofString "1 ",Str.ofString "- 1",Str.ofString "",Str.ofString "-",Str.ofString "0x1"]
noncomputable def spEdge:Sp:=fun vs H Q _=>∃ (wy:Nat) (nu:Int),vs=[.int ((wy:Nat):Int),.int nu]∧wy<20∧0≤nu∧nu<2147483587∧∀ x:Str,x.length≤40000→Q (.str x) H
set_option maxHeartbeats 2000000 in
theorem Zwh {f:Addr} {fd:FuncData} (nb:NB mg) (F:FunAt K mg "_law_edge" Wv ["_law_way","_law_number"] f fd) (D_law_odd:DefOk P w K mg base 1 "_law_odd" ["_law_number"] spOdd):DefOk P w K mg base 2 "_law_edge" ["_law_way","_law_number"] spEdge:=by
 refine F.ok sc_law_edge (fun vs H Q E h=>?_) (fun cdv A outer s H vs Q E hr h=>?_)
 ·obtain ⟨_,_,rfl,_⟩:=h;rfl
 obtain ⟨wy,nu,rfl,hw,hn1,hn2,q⟩:=h
 refine ⟨_,(Zc (Zp (i:=2) sc_law_edge.nd rfl (by first | exact Or.inl rfl | exact Or.inr rfl) Ze)
  (Zc (Zp (i:=3) sc_law_edge.nd rfl (by first | exact Or.inl rfl | exact Or.inr rfl) (Xb (Za Ze (Za Ze (Za Ze (Za Ze (Za Ze (Za Ze Zd))))))))
  (Zc (Zp (i:=4) sc_law_edge.nd rfl (by first | exact Or.inl rfl | exact Or.inr rfl) (Xo iAll (Zh oAdd3 (pv 3) (Xb (Za Ze Zd))) (Zh Zv (pv 1) Zf) (fun _ _=>rfl)))
  (Qb (Zp (i:=5) sc_law_edge.nd rfl (by first | exact Or.inl rfl | exact Or.inr rfl) (Xo iAll (Xb (Za Ze (Za Ze Zd))) (Zh Zv (pv 1) Zf) (fun _ _=>rfl)))
  (Zc (Zs (Zi oLt (pv 0) Zf (nomark _)) (Zc (Zp (i:=6) sc_law_edge.nd rfl (by first | exact Or.inl rfl | exact Or.inr rfl) (Xo iAll (Xb (Za Ze (Za Ze (Za Ze (Za Ze Zd))))) (Zh Zv (Zh Xx (pv 1) Zf) Zf) (fun _ _=>rfl)))
   (Zg (Zm (Zh oAdd3 (Zh oAdd3 (Zh oMul3 (pv 4) (Zh oAdd3 Zf (pv 0))) (pv 6)) (Zh oMul3 Ze (Zh oAdd3 Zf (pv 0))))))) Zl)
  (Zc (Zs (Zi oGt (pv 0) Zf (nomark _)) (Zg (Zm (Zo D_law_odd hr (Za (pv 1) Zd)))) Zl)
  (Zc (Zs (Zi oLt (pv 0) Zf (nomark _)) (Zg (Zm (Zh oAdd3 (Zh oAdd3 (pv 5) (Zcg PySem.F.plainAttrs_str PySem.F.slot_str_join PySem.F.type_str_join Zth Ze (Za (Jb ["_law_k"] [(2,"_law_letters")] rfl (by decide +kernel) ⟨rfl,.inl rfl,trivial⟩ (Js rfl nb.range_ (Za (Zh oAdd3 Zf (pv 0)) Zd)) (fun _ _ _ _ _=>(Xn (i:=0) (show (["_law_k","_law_letters"]:List Str).Nodup by decide +kernel) rfl (by first | exact Or.inl rfl | exact Or.inr rfl))) (fun _ _ _ _ _=>Yx) (fun _ _ _ _ _=>(Zh oAdd3 (Xo iAll (pv 1) (pv 0) (fun _ _=>rfl)) Ze))) Zd))) Ze))) Zl)
  (Zc (Zs (Zi oLt (pv 0) Zf (nomark _)) (Zg (Zm (Zh oAdd3 (Zh oAdd3 (Zh oAdd3 (pv 5) Ze) (Zh oMul3 Ze (Zh oSub (pv 0) Zf))) Ze))) Zl)
  (Zc (Zs (Zi oLt (pv 0) Zf (nomark _)) (Zg (Zm (Zh oAdd3 (Zh oAdd3 Ze (Zw slAll (Zw slAll (pv 2) (Zu (Zh Zv (pv 1) Zf)) Yi) Yi (Zu (Zh oAdd3 Zf (pv 0))))) Ze))) Zl)
  (Zc (Zs (PW.pt (Jn (Zi oLt (pv 0) Zf (nomark _)) (Jd (Zi oEq (Zh Zv (pv 1) Zf) Zf (nomark _))))) (Zg (Zm (Zh oAdd3 (Zh oAdd3 Ze (Zh oMul3 Ze (Zh oAdd3 Zf (pv 0)))) Ze))) Zl)
  (Zc (Zs (Zi oLt (pv 0) Zf (nomark _)) (Zg (Zm (Zh oAdd3 (Zh oAdd3 Ze (Zh oMul3 Ze (Zh oAdd3 Zf (pv 0)))) Ze))) Zl)
  (Zc (Zs (Zi oLt (pv 0) Zf (nomark _)) (Zg (Zm (Zh oAdd3 (Zh oAdd3 (Zh oAdd3 (Zh oAdd3 Ze (Yz Jc rfl nb.str_ Zdd (Za (Zh oSub (Zh oAdd3 (pv 1) (pv 0)) Zf) Zd))) Ze) (Yz Jc rfl nb.str_ Zdd (Za (pv 1) Zd))) Ze))) Zl)
  (Zc (Zs (Zi oEq (pv 0) Zf (nomark _)) (Zg (Zm (Zh oAdd3 (pv 5) Ze))) Zl)
  (Zc (Zs (Zi oEq (pv 0) Zf (nomark _)) (Zg (Zm (Zh oAdd3 (Zh oAdd3 Ze (Zw slAll (pv 2) Yi (Zu (Zh oAdd3 Zf (Zh Zv (pv 1) Zf))))) Ze))) Zl)
  (Zc (Zs (Zi oEq (pv 0) Zf (nomark _)) (Zg (Zm (Xo iAll (Xb (Za Ze (Za Ze (Za Ze (Za Ze Zd))))) (Zh Zv (pv 1) Zf) (fun _ _=>rfl)))) Zl)
  (Zc (Zp (i:=7) sc_law_edge.nd rfl (by first | exact Or.inl rfl | exact Or.inr rfl) (Xo iAll (Xb (Za Ze (Za Ze (Za Ze (Za Ze (Za Ze (Za Ze (Za Ze (Za Ze (Za Ze (Za Ze (Za Ze (Za Ze Zd))))))))))))) (Zh Zv (Zh Xx (pv 1) Zf) Zf) (fun _ _=>rfl)))
  (Zg (Zm (Xo iAll (Xb (Za (Zh oAdd3 (Zh oAdd3 Ze (pv 7)) Ze) (Za (Zh oAdd3 (Zh oAdd3 Ze (pv 7)) Ze) Zd))) (Zh Zv (pv 1) Zf) (fun _ _=>rfl)))))))))))))))))))),?_⟩
 try dsimp only [cxK0,cxK1,cxK2,cxK3]
 obtain ⟨wd',hwd,at1⟩:=pick edW nu 7 rfl (by decide) (B:=20) (by decide +kernel)
 obtain ⟨hd',hhd,at2⟩:=pick edH nu 2 rfl (by decide) (B:=20) (by decide +kernel)
 refine ⟨by decide,fun l1 h1=>⟨_,rfl,by decide,fun l2 h2 => .inr ⟨l1,l2,_,_,rfl,rfl,Zj h2 _ _ Zb,Zb,by decide,fun l3 h3=>⟨_,rfl,_,_,rfl,rfl,(by show (0:Int)<7;decide),.inl (.inl ⟨_,_,_,_,rfl,rfl,SqL.of Zb,at1,?_⟩)⟩⟩⟩⟩
 refine ⟨fun σ H4=>Same H H4∧∃ (x2:Option V),σ=[some (.int ((wy:Nat):Int)),some (.int nu),some (.str L62),x2,some (.str wd'),some (.str hd'),none,none],?_,?_⟩
 ·exact ⟨by decide,fun l4 h4=>⟨_,rfl,_,_,rfl,rfl,(by show (0:Int)<2;decide),.inl (.inl ⟨_,_,_,_,rfl,rfl,SqL.of Zb,at2,((((Zj h1).trans (Zj h2)).trans (Zj h3)).trans (Zj h4)),_,rfl⟩)⟩⟩
 rintro σ H4 ⟨s4,x2,rfl⟩
 have fin:∀ x:Str,x.length≤40000→∀ H',Same H H'→∃ H'',L2.Sub H H'' H'∧Q (.str x) H'':=fun x hx H' s=>⟨H,.refl s,q x hx⟩
 clear h1 h2 h3 at1 at2
 have lcl:(Str.ofString ")").length=1:=by decide +kernel
 refine ⟨_,rfl,.inl ⟨_,_,rfl,rfl,_,rfl,iteD (fun z1=>?_) (fun z1=>?_)⟩⟩
 ·obtain ⟨la,hla,at3⟩:=pick edL (nu/7) 4 rfl (by decide) (B:=20) (by decide +kernel)
  refine ⟨by decide,fun l5 h5=>⟨_,rfl,_,_,rfl,rfl,⟨by decide,by decide⟩,_,_,rfl,rfl,(by show (0:Int)<4;decide),.inl (.inl ⟨_,_,_,_,rfl,rfl,SqL.of Zb,at3,?_⟩)⟩⟩
  have m1:=PyProof.Rows.len_mul_leN (x:=wd') (n:=7+((wy:Nat):Int)) (L:=20) (N:=9) hwd (by omega)
  have m2:=PyProof.Rows.len_mul_leN (x:=Str.ofString ")") (n:=7+((wy:Nat):Int)) (L:=1) (N:=9) (by omega) (by omega)
  have g1:wd'.length*(7+((wy:Nat):Int)).toNat≤20*9:=Nat.mul_le_mul hwd (by omega)
  have g2:(Str.ofString ")").length*(7+((wy:Nat):Int)).toNat≤1*9:=Nat.mul_le_mul (by omega) (by omega)
  exact ⟨_,rfl,_,rfl,.inl (.inl ⟨_,_,rfl,rfl,.inl (.inr ⟨_,_,rfl,rfl,by omega,by omega,small5 (by omega),_,rfl,.inl (.inr ⟨_,_,rfl,rfl,small5 (by omega),_,rfl,.inl (.inl ⟨_,_,rfl,rfl,.inl (.inr ⟨_,_,rfl,rfl,by omega,by omega,small5 (by omega),.inl (.inr ⟨_,_,rfl,rfl,small5 (by rw [Zk];omega),fin _ (by rw [Zk,Zk];omega) _ (s4.trans (Zj h5))⟩)⟩)⟩)⟩)⟩)⟩)⟩
 refine ⟨_,rfl,_,_,rfl,rfl,_,rfl,iteD (fun z2=>?_) (fun z2=>?_)⟩
 ·exact ⟨_,rfl,_,rfl,fun x hx=>fin x (by omega) _ s4⟩
 have l62:L62.length=62:=Xne
 have sl62:L62.length≤sizeLine:=small5 (by omega)
 refine ⟨_,rfl,.inl ⟨_,_,rfl,rfl,_,rfl,iteD (fun z3=>?_) (fun z3=>?_)⟩⟩
 ·refine ⟨_,rfl,rfl,_,rfl,.inl (.inl ⟨_,_,rfl,rfl,?_⟩)⟩
  refine ⟨_,rfl,by omega,by omega,fun D hD=>?_⟩
  have en:(18+((wy:Nat):Int)).toNat=18+wy:=by omega
  have lw:(Str.ofString " whole").length=6:=by decide +kernel
  let fe:Nat→Str:=fun i=>⟨#[L62.cps.toList.getD i 0]⟩++Str.ofString " whole"
  have hfe:∀ i,(fe i).length=7:=fun i=>by show (_++Str.ofString " whole").length=7;rw [Zk,lw];rfl
  have hys:∀ y,y∈(List.range (18+wy)).map fe→y.length≤7:=fun y hy=>by
   obtain ⟨i,_,rfl⟩:=List.mem_map.mp hy
   exact Nat.le_of_eq (hfe i)
  have hsum:=Xgb _ 7 hys
  have hjl:=Zxh (Str.ofString ", ") ((List.range (18+wy)).map fe) 7 hys
  rw [List.length_map,List.length_range] at hsum hjl
  have c8:(Str.ofString ", ").length=2:=by decide +kernel
  rw [c8] at hjl
  refine Xkh (18+((wy:Nat):Int)).toNat (fun i => .int (0+((i:Nat):Int))) (fun i => .str (fe i)) (fun σ=>∃ z,σ=[z,some (.str L62)]) (by rw [en];exact small5 (by omega)) ⟨_,rfl⟩ (fun i H1 hi=>hi) (fun H1=>Nat.le_refl _) ?_ ?_ ?_
  ·rintro i H1 x H2 hi ⟨rfl,rfl⟩
   exact ⟨rfl,rfl⟩
  ·rintro i σ1 H1 hi ⟨z,rfl⟩ R hR
   rw [en] at hi
   have hi2:i<L62.cps.toList.length:=by rw [Array.length_toList];show i<L62.length;omega
   have hat:atI L62.cps.toList (0+((i:Nat):Int))=some (L62.cps.toList.getD i 0):=by
    rw [Int.zero_add]
    exact Zy (by rw [List.getD_eq_getElem?_getD,List.getElem?_eq_getElem hi2];rfl)
   exact ⟨_,rfl,_,rfl,.inr ⟨_,_,_,rfl,rfl,sl62,hat,.inl (.inr ⟨_,_,rfl,rfl,small5 (by rw [lw];show 1+6≤_;decide),hR _ ⟨_,rfl⟩⟩)⟩⟩
  ·refine ⟨_,D,(List.range (18+wy)).map fe,rfl,rfl,SqL.of ?_,by rw [List.length_map,List.length_range,c8];omega,.inl (.inr ⟨_,_,rfl,rfl,small5 (by omega),.inl (.inr ⟨_,_,rfl,rfl,small5 (by rw [Zk];omega),fin _ (by rw [Zk,Zk];omega) _ (s4.trans (Zj hD))⟩)⟩)⟩
   rw [Zb,en,List.map_map];rfl
 have c1:(Str.ofString "abcdefghijkl").length=12:=by decide +kernel
 have c2:(Str.ofString " whole)").length=7:=by decide +kernel
 have c3:(Str.ofString "letters(").length=8:=by decide +kernel
 have c4:(Str.ofString "span(0, ").length=8:=by decide +kernel
 have c5:(Str.ofString "span(-").length=6:=by decide +kernel
 have c6:(Str.ofString ", 0)").length=4:=by decide +kernel
 have c7:(Str.ofString "span(").length=5:=by decide +kernel
 have c8:(Str.ofString ", ").length=2:=by decide +kernel
 have c9:(Str.ofString "a whole, b truth, a nothing)").length=28:=by decide +kernel
 have c10:(Str.ofString "a)").length=2:=by decide +kernel
 have c11:(Str.ofString "m").length=1:=by decide +kernel
 have c12:(Str.ofString "9").length=1:=by decide +kernel
 have c13:(Str.ofString ", 50)").length=5:=by decide +kernel
 have c14:(Str.ofString "span(-50, ").length=10:=by decide +kernel
 refine ⟨_,rfl,.inl ⟨_,_,rfl,rfl,_,rfl,iteD (fun z4=>?_) (fun z4=>?_)⟩⟩
 ·have m2:=PyProof.Rows.len_mul_leN (x:=Str.ofString "m") (n:=((wy:Nat):Int) - 4) (L:=1) (N:=9) (by omega) (by omega)
  have g2:(Str.ofString "m").length*(((wy:Nat):Int) - 4).toNat≤1*9:=Nat.mul_le_mul (by omega) (by omega)
  exact ⟨_,rfl,.inl (.inr ⟨_,_,rfl,rfl,small5 (by omega),_,rfl,_,_,rfl,rfl,.inl (.inr ⟨_,_,rfl,rfl,by omega,by omega,small5 (by omega),.inl (.inr ⟨_,_,rfl,rfl,small5 (by rw [Zk];omega),.inl (.inr ⟨_,_,rfl,rfl,small5 (by rw [Zk,Zk];omega),fin _ (by rw [Zk,Zk,Zk];omega) _ s4⟩)⟩)⟩)⟩)⟩
 refine ⟨_,rfl,.inl ⟨_,_,rfl,rfl,_,rfl,iteD (fun z5=>?_) (fun z5=>?_)⟩⟩
 ·have b1:=slice_le L62 (some (nu%2)) none
  have b2:=slice_le (Txt.slice L62 (some (nu%2)) none) none (some (54+((wy:Nat):Int)))
  exact ⟨_,rfl,_,rfl,_,_,rfl,rfl,(by show (0:Int)<2;decide),_,rfl,.inr ⟨_,rfl,sl62,_,rfl,.inl (.inl ⟨_,_,rfl,rfl,_,rfl,.inr ⟨_,rfl,small5 (by omega),.inl (.inr ⟨_,_,rfl,rfl,small5 (by omega),.inl (.inr ⟨_,_,rfl,rfl,small5 (by rw [Zk];omega),fin _ (by rw [Zk,Zk];omega) _ s4⟩)⟩)⟩⟩)⟩⟩
 have m9:=PyProof.Rows.len_mul_leN (x:=Str.ofString "9") (n:=50+((wy:Nat):Int)) (L:=1) (N:=100) (by omega) (by omega)
 have g9:(Str.ofString "9").length*(50+((wy:Nat):Int)).toNat≤1*100:=Nat.mul_le_mul (by omega) (by omega)
 have n60:nu.natAbs<10 ^ 60:=Nat.lt_trans (show nu.natAbs<2147483587 by omega) (by decide)
 have n60':(nu+((wy:Nat):Int) - 10).natAbs<10 ^ 60:=Nat.lt_trans (show _<2147483700 by omega) (by decide)
 have t1:=Wp (by decide) n60
 have t2:=Wp (by decide) n60'
 rcases Nat.lt_or_ge wy 10 with z6 | z6
 ·refine ⟨_,rfl,.inl ⟨_,_,rfl,rfl,_,rfl,iteY (by omega) ⟨_,rfl,_,_,rfl,rfl,(by show (0:Int)<2;decide),rfl,_,rfl,iteD (fun _=>?_) (fun _=>⟨_,rfl,.inl ⟨_,_,rfl,rfl,_,rfl,iteY (by omega) ?_⟩⟩)⟩⟩⟩
  ·exact ⟨_,rfl,.inl (.inl ⟨_,_,rfl,rfl,.inl (.inr ⟨_,_,rfl,rfl,by omega,by omega,small5 (by omega),.inl (.inr ⟨_,_,rfl,rfl,small5 (by omega),.inl (.inr ⟨_,_,rfl,rfl,small5 (by rw [Zk];omega),fin _ (by rw [Zk,Zk];omega) _ s4⟩)⟩)⟩)⟩)⟩
  ·exact ⟨_,rfl,.inl (.inl ⟨_,_,rfl,rfl,.inl (.inr ⟨_,_,rfl,rfl,by omega,by omega,small5 (by omega),.inl (.inr ⟨_,_,rfl,rfl,small5 (by omega),.inl (.inr ⟨_,_,rfl,rfl,small5 (by rw [Zk];omega),fin _ (by rw [Zk,Zk];omega) _ s4⟩)⟩)⟩)⟩)⟩
 refine ⟨_,rfl,.inl ⟨_,_,rfl,rfl,_,rfl,iteN (by omega) (iteF ⟨_,rfl,.inl ⟨_,_,rfl,rfl,_,rfl,iteN (by omega) ?_⟩⟩)⟩⟩
 refine ⟨_,rfl,.inl ⟨_,_,rfl,rfl,_,rfl,iteD (fun _=>?_) (fun _=>?_)⟩⟩
 ·exact ⟨_,rfl,_,rfl,.inl (.inl ⟨_,_,rfl,rfl,_,_,rfl,rfl,_,rfl,Qe n60',.inl (.inr ⟨_,_,rfl,rfl,small5 (by omega),.inl (.inr ⟨_,_,rfl,rfl,small5 (by rw [Zk];omega),_,rfl,_,rfl,Qe n60,.inl (.inr ⟨_,_,rfl,rfl,small5 (by rw [Zk,Zk];omega),.inl (.inr ⟨_,_,rfl,rfl,small5 (by rw [Zk,Zk,Zk];omega),fin _ (by rw [Zk,Zk,Zk,Zk];omega) _ s4⟩)⟩)⟩)⟩)⟩)⟩
 refine ⟨_,rfl,rfl,_,rfl,iteD (fun _=>⟨_,rfl,.inl (.inr ⟨_,_,rfl,rfl,small5 (by omega),fin _ (by rw [Zk];omega) _ s4⟩)⟩) (fun _=>?_)⟩
 refine ⟨_,rfl,rfl,_,rfl,iteD (fun _=>?_) (fun _=>?_)⟩
 ·have b1:=slice_le L62 none (some (1+nu%9))
  exact ⟨_,rfl,_,rfl,_,_,rfl,rfl,(by show (0:Int)<9;decide),.inl (.inl ⟨_,_,rfl,rfl,_,rfl,.inr ⟨_,rfl,sl62,.inl (.inr ⟨_,_,rfl,rfl,small5 (by omega),.inl (.inr ⟨_,_,rfl,rfl,small5 (by rw [Zk];omega),fin _ (by rw [Zk,Zk];omega) _ s4⟩)⟩)⟩⟩)⟩
 refine ⟨_,rfl,rfl,_,rfl,iteD (fun _=>?_) (fun _=>?_)⟩
 ·obtain ⟨x,hx,at3⟩:=pick edE nu 4 rfl (by decide) (B:=20) (by decide +kernel)
  exact ⟨by decide,fun l5 h5=>⟨_,rfl,_,_,rfl,rfl,(by show (0:Int)<4;decide),.inl (.inl ⟨_,_,_,_,rfl,rfl,SqL.of Zb,at3,fin x (by omega) _ (s4.trans (Zj h5))⟩)⟩⟩
 ·obtain ⟨bd',hbd,at3⟩:=pick edB (nu/2) 12 rfl (by decide) (B:=20) (by decide +kernel)
  refine ⟨by decide,fun l5 h5=>⟨_,rfl,_,_,rfl,rfl,⟨by decide,by decide⟩,_,_,rfl,rfl,(by show (0:Int)<12;decide),.inl (.inl ⟨_,_,_,_,rfl,rfl,SqL.of Zb,at3,?_⟩)⟩⟩
  obtain ⟨x,hx,at4⟩:=pick2 [(Str.ofString "span("++bd')++Str.ofString ", 50)",(Str.ofString "span(-50, "++bd')++Str.ofString ")"] nu 2 rfl (by show 0<2;decide) (B:=100) (fun x hx=>by
   rcases List.mem_cons.mp hx with y | y
   ·rw [y,Zk,Zk];omega
   ·rw [List.mem_singleton.mp y,Zk,Zk];omega)
  exact ⟨_,rfl,.inl (.inr ⟨_,_,rfl,rfl,small5 (by omega),.inl (.inr ⟨_,_,rfl,rfl,small5 (by rw [Zk];omega),_,rfl,.inl (.inr ⟨_,_,rfl,rfl,small5 (by omega),.inl (.inr ⟨_,_,rfl,rfl,small5 (by rw [Zk];omega),Zjb,fun l6 h6=>⟨_,rfl,_,_,rfl,rfl,(by show (0:Int)<2;decide),.inl (.inl ⟨_,_,_,_,rfl,rfl,SqL.of Zb,at4,fin x (by omega) _ ((s4.trans (Zj h5)).trans (Zj h6))⟩)⟩⟩)⟩)⟩)⟩)⟩
theorem Ext.growOf {p:Addr} {H H':Hp} {o:HO} (hp:H p=none) (ho:OwnIn (upd H p o) p o) (g:Grow p (upd H p o) H'):Ext H H' :=
 ⟨fun b u e=>g.k b u (Zt e hp) ((Zj hp) b u e),fun c=>g.c (Qp c hp ho)⟩
theorem Zei {f:Addr} {fd:FuncData} (nb:NB mg) (F:FunAt K mg "_law_tree" Wj ["_law_left","_law_deep"] f fd) (D_law_simple:DefOk P w K mg base 1 "_law_simple" ["_law_word","_law_number","_law_last"] spSimple31) (D_law_names:DefOk P w K mg base 1 "_law_names" ["_law_number","_law_many"] spNames31):∀ d,DefOk P w K mg base (d+2) "_law_tree" ["_law_left","_law_deep"] (spTree d)
 | 0=>DefOk.none F fun vs H Q E ⟨_,_,_,_,_,h1,h2,_⟩=>by omega
 | d+1=>by
  have:=Zmj nb F D_law_simple D_law_names (Zei nb F D_law_simple D_law_names d)
  rwa [show d+1+2=d+2+1 by omega]
theorem Zej {f:Addr} {fd:FuncData} (nb:NB mg) (F:FunAt K mg "_law_text" Wk ["_law_tree_here"] f fd):∀ n,DefOk P w K mg base (n+1) "_law_text" ["_law_tree_here"] (spTxt n)
 | 0=>DefOk.none F fun vs H Q E ⟨_,f,_,_,_,h,_⟩=>by have:=Xjb f;omega
 | n+1=>Zna nb F (Zej nb F n)
theorem Zfb {f f2 f3 f4 C NT NF:Addr} {c:FC} {fd fd2 fd3 fd4:FuncData} (xi_NoText:PySem.W.excIn K NT bmV "ValueError.__new__"=true) (gm_NoText:mg "NoText"=some (.ref NT)) (c_C:Cls K C) (g_SMALL_LETTERS:GlobV mg "SMALL_LETTERS" (.str L26)) (g_MOST_DEEP:GlobV mg "MOST_DEEP" (.int 8)) (F:FunAt K mg "form_at" Wq ["cursor","depth"] f fd) (F2:FunAt K mg "part_at" Wy ["cursor","depth"] f2 fd2) (F3:FunAt K mg "parts_at" Wh ["cursor","depth"] f3 fd3) (F4:FunAt K mg "bracketed_form_at" Xa ["cursor","word","depth"] f4 fd4)
  (M_skip:MethOk P w K mg base 1 C "skip" ["self","words"] (spSkip2 C)) (M_run_of:MethOk P w K mg base 2 C "run_of" ["self","signs"] (spRun2 C)) (MB_expect:MethOkE P w K mg base 2 C "expect" ["self","words"] (spExp2 C NT)) (D_bare_form:DefOk P w K mg base 1 "bare_form" ["word"] (spBare3 c)) (DB_span_at:DefOkE P w K mg base 4 "span_at" ["cursor"] (spSpan3 c C NT NF)) (DB_letters_at:DefOkE P w K mg base 4 "letters_at" ["cursor"] (spLet3 c C NT NF))
  (M_Record:MakeOk P w K mg base 4 "Record" (c.t 0) ["self","parts"] (spTwoInit (c.t 0))) (MB_Record:MakeOkE P w K mg base 4 "Record" (c.t 0) ["self","parts"] (spTwoBad NF (c.t 0))) (M_Choice:MakeOk P w K mg base 4 "Choice" (c.t 1) ["self","cases"] (spTwoInit (c.t 1))) (MB_Choice:MakeOkE P w K mg base 4 "Choice" (c.t 1) ["self","cases"] (spTwoBad NF (c.t 1)))
  (M_Maybe:MakeOk P w K mg base 1 "Maybe" (c.o 0) ["self","inner"] (spOneInit (c.o 0))) (M_Many:MakeOk P w K mg base 1 "Many" (c.o 1) ["self","inner"] (spOneInit (c.o 1))) (M_Turned:MakeOk P w K mg base 1 "Turned" (c.o 2) ["self","inner"] (spOneInit (c.o 2))) :
  ∀ n,DefOkE P w K mg base (4*n+8) "form_at" ["cursor","depth"] (spForm3 c C NT NF n)
 | 0=>Xjh xi_NoText gm_NoText c_C g_SMALL_LETTERS g_MOST_DEEP F M_run_of MB_expect D_bare_form (DefOkE.none F4 Ju fun _ _ _ _ h=>h)
 | n+1=>by
  have D:=Zfb xi_NoText gm_NoText c_C g_SMALL_LETTERS g_MOST_DEEP F F2 F3 F4 M_skip M_run_of MB_expect D_bare_form DB_span_at DB_letters_at M_Record MB_Record M_Choice MB_Choice M_Maybe M_Many M_Turned n
  have D2:=Zwe c_C g_SMALL_LETTERS F2 M_run_of MB_expect D
  have D3:=Ztb c_C F3 M_skip D2
  have D4:=Zod xi_NoText gm_NoText F4 DB_span_at DB_letters_at D D3 M_Record MB_Record M_Choice MB_Choice M_Maybe M_Many M_Turned
  have:=Znc xi_NoText gm_NoText c_C g_SMALL_LETTERS g_MOST_DEEP F M_run_of MB_expect D_bare_form D4
  rwa [show 4*(n+1)+8=4*n+11+1 by omega]
noncomputable def spLaw (K:PySem.W.Frag):Sp:=fun vs H Q _=>∃ (a:Addr) (ns:List Int),vs=[.ref a]∧SqL K H a (ns.map V.int)∧ns.length≤63∧∀ H',Q (.bl true) H'
theorem Xob (f:Fm):1≤(sh f).length:=by
 have hb:∀ k:Fin 4,1≤(bw k).cps.toList.length:=by decide +kernel
 cases h:isB f with
 | true =>
  cases f with
  | bare k=>rw [sh];exact hb k
  | _=>cases h
 | false =>
  rw [Xgc f h,List.length_append,List.length_append,Zae]
  show 1≤_+(1+_)
  omega
set_option maxHeartbeats 4000000 in
theorem Xph {f C_NoText cR:Addr} {c:Cs} {cF:FC} {fd:FuncData} (gm_NoText:mg "NoText"=some (.ref C_NoText)) (xc_NoText:ExcC K C_NoText) (xt_NoText:PySem.W.typeIn K (.ref C_NoText)=some (.type "type")) (hm:PySem.W.mroIn K C_NoText (.ref C_NoText)=some true) {bs0:List Bool} (kS:Kits K c C_NoText bs0) (hal:alone bs0=true) (kR:PySem.W.kitOne K (.ref C_NoText) (.ref cR)=some true)
  (nb:NB mg) (F:Fun K "law" "law" Zdi f fd) (D_law_cell_at:DefOk P w K mg base 1 "_law_cell_at" ["_law_script","_law_k"] (spCellAt K)) (D_law_mixed:DefOk P w K mg base 1 "_law_mixed" ["_law_cell","_law_k"] spMixed) (D_law_numbers_of:DefOk P w K mg base 2 "_law_numbers_of" ["_law_script","_law_many","_law_salt"] (spNumbers K)) (D_law_tree:DefOk P w K mg base 10 "_law_tree" ["_law_left","_law_deep"] (spTree 8)) (D_law_text:DefOk P w K mg base 9 "_law_text" ["_law_tree_here"] (spTxt 8))
  (D_law_edge:DefOk P w K mg base 2 "_law_edge" ["_law_way","_law_number"] spEdge) (D_law_bent:DefOk P w K mg base 2 "_law_bent" ["_law_script","_law_text_here","_law_number"] (spBent K)) (D_law_piece:DefOk P w K mg base 2 "_law_piece" ["_law_script","_law_text_here"] (spPiece K)) (DB_form_of:DefOkE P w K mg base 41 "form_of" ["text"] (spFormOf3 cF C_NoText)) (D_law_form_end:DefOk P w K mg base 20 "_law_form_end" ["_law_text_here","_law_at","_law_deep"] (spFE 8)) (D_law_alone:DefOk P w K mg base 1 "_law_alone" ["_law_error"] (spAlone K c cR)) (AM_shown:AnyM P w K mg base 19 "shown" ["self"] (clS cF) (spShow cF 8)):FnOk P w K mg base CX0 42 f fd ["_law_script"] (spLaw K):=by
 refine F.okK sc_law (fun vs H Q E h=>?_) (fun cdv A outer s H vs Q E hr h=>?_)
 ·obtain ⟨_,_,rfl,_⟩:=h;rfl
 obtain ⟨a,ns,rfl,hS,hl,q⟩:=h
 obtain ⟨EH,hEH⟩:∃ EH:St→XK,EH=fun σ c d H'=>(∃ (nu:Int) (t:Str),t.length≤90000∧(∀ f,rdForm 8 t.cps.toList≠some (f,[]))∧σ=[some (.ref a),some (.int nu),some (.str t),some .non,some .non,none,none])∧c = .ref C_NoText∧d=none∧Same H H':=⟨_,rfl⟩
 refine ⟨_,(Zc (Zp (i:=1) sc_law.nd rfl (by first | exact Or.inl rfl | exact Or.inr rfl) (Zo D_law_mixed hr (Za (Zo D_law_cell_at hr (Za (pv 0) (Za Zf Zd))) (Za Zf Zd))))
  (Qb (Zp (i:=2) sc_law.nd rfl (by first | exact Or.inl rfl | exact Or.inr rfl) (Zo D_law_text hr (Za (Zo D_law_tree hr (Za (Zo D_law_numbers_of hr (Za (pv 0) (Za (Zh oAdd Zf (Zh Zv (Zh Xx (pv 1) Zf) Zf)) (Za Zf Zd)))) (Za Zf Zd))) Zd)))
  (Qb (Zs (Zi oEq (Zh Zv (pv 1) Zf) Zf (nomark _)) (Zg (Zp (i:=2) sc_law.nd rfl (by first | exact Or.inl rfl | exact Or.inr rfl) (Zo D_law_edge hr (Za (Zh Zv (Zh Xx (pv 1) Zf) Zf) (Za (Zh Xx (pv 1) Zf) Zd))))) (Zg (Zs (Zi oGt (Zh Zv (pv 1) Zf) Zf (nomark _)) (Zg (Zp (i:=2) sc_law.nd rfl (by first | exact Or.inl rfl | exact Or.inr rfl) (Zo D_law_bent hr (Za (pv 0) (Za (pv 2) (Za (pv 1) Zd)))))) Zl)))
  (Qb (Zs (Zi oEq (Zh Zv (Zo D_law_mixed hr (Za (Zo D_law_cell_at hr (Za (pv 0) (Za Zf Zd))) (Za Zf Zd))) Zf) Zf (nomark _)) (Zg (Zp (i:=2) sc_law.nd rfl (by first | exact Or.inl rfl | exact Or.inr rfl) (Zo D_law_piece hr (Za (pv 0) (Za (pv 2) Zd))))) Zl)
  (Zc (Zp (i:=3) sc_law.nd rfl (by first | exact Or.inl rfl | exact Or.inr rfl) Zfh)
  (Zc (Zp (i:=4) sc_law.nd rfl (by first | exact Or.inl rfl | exact Or.inr rfl) Zfh)
  (Qb (Xog (i:=5) (Eh:=EH) (fun _=>(Zg (Zp (i:=3) sc_law.nd rfl (by first | exact Or.inl rfl | exact Or.inr rfl) (Xq DB_form_of hr Zkf (Za (pv 2) Zd)))))
   (fun _ _=>(Zg (Zp (i:=4) sc_law.nd rfl (by first | exact Or.inl rfl | exact Or.inr rfl) (pv 5)))) gm_NoText xc_NoText xt_NoText sc_law.nd)
  (Zc (Zs (Zi oNe (Zo D_law_form_end hr (Za (pv 2) (Za Zf (Za Zf Zd)))) (Zr Zx rfl nb.len_ Xf (Za (pv 2) Zd)) (nomark _)) (Zg (Zm (Zo D_law_alone hr (Za (pv 4) Zd)))) Zl)
  (Zc (Zs (Zi Xme (pv 4) Zfh (nomark _)) (Zg (Zm Xhj)) Zl)
  (Zc (Zp (i:=6) sc_law.nd rfl (by first | exact Or.inl rfl | exact Or.inr rfl) (Jy AM_shown hr (pv 3)))
  (Zg (Zm (Zzj (Zr Zub rfl nb.isinstance_ Xd (Za (pv 6) (Za (Xcc (v := .ty "str") rfl nb.str_ Zdd rfl) Zd))) (Xhg (Qq oEq (pv 6) (pv 2) (nomark _)))))))))))))))),?_⟩
 try dsimp only [cxK0,cxK1,cxK2,cxK3]
 refine ⟨_,rfl,a,ns,0,rfl,hS,hl,_,_,rfl,fun nu n1 n2=>?_⟩
 refine ⟨fun σ H'=>Same H H'∧∃ t:Str,1≤t.length∧t.length≤10000∧σ=[some (.ref a),some (.int nu),some (.str t),none,none,none,none],?_,?_⟩
 ·obtain ⟨x8,hx8,ex8⟩:=Wo (nu/14) 8 (by decide)
  have ex8':nu/14%8=((x8:Nat):Int):=ex8
  refine ⟨_,rfl,_,rfl,_,_,rfl,rfl,⟨by decide,by decide⟩,_,_,rfl,rfl,(by show (0:Int)<8;decide),.inl ⟨_,_,rfl,rfl,a,ns,x8+1,1000,(by rw [ex8'];show [V.ref a,V.int (1+((x8:Nat):Int)),V.int 1000]=_;rw [show (1:Int)+((x8:Nat):Int)=((x8+1:Nat):Int) by omega];rfl),hS,hl,by omega,by omega,.inl rfl,fun D ms hD hms=>?_⟩⟩
  have hD1:upd H D (.lst (ms.map V.int)) D=some (.lst (ms.map V.int)):=Zb
  refine ⟨D,8,ms,[D],rfl,by decide,by decide,hD1,by omega,List.mem_singleton.mpr rfl,(fun x hx=>by rw [List.mem_singleton.mp hx];exact ⟨_,hD1⟩),fun v0 f0 H4 ms4 G4 hp4 hm4 hT4 hok4 hht4 hlen4=>?_⟩
  have E4:Ext H H4:=Ext.growOf (o := .lst (ms.map V.int)) hD trivial G4
  have hT40:=TAt.weak (X:=[]) (fun x (hx:x∈[])=>by cases hx) f0 hT4
  have hl0:(⟨(sh f0).toArray⟩:Str).length=(sh f0).length:=by show (sh f0).toArray.size=_;rw [List.size_toArray]
  have:=Xob f0
  exact ⟨v0,f0,rfl,hT40,hok4,hht4,by omega,E4.s,_,by rw [hl0];omega,by rw [hl0];omega,rfl⟩
 rintro σ H1 ⟨s1,t,ht1,ht2,rfl⟩
 refine ⟨fun σ H'=>Same H H'∧∃ t:Str,t.length≤40000∧σ=[some (.ref a),some (.int nu),some (.str t),none,none,none,none],?_,?_⟩
 ·refine ⟨_,rfl,_,_,rfl,rfl,(by show (0:Int)<7;decide),rfl,_,rfl,iteD (fun _=>?_) (fun _=>⟨_,rfl,_,_,rfl,rfl,(by show (0:Int)<7;decide),_,_,rfl,rfl,_,rfl,iteD (fun _=>?_) (fun _=>⟨s1,t,by omega,rfl⟩)⟩)⟩
  ·obtain ⟨w20,hw20,ew20⟩:=Wo (nu/7) 20 (by decide)
   refine ⟨_,rfl,_,_,rfl,rfl,⟨by decide,by decide⟩,_,_,rfl,rfl,(by show (0:Int)<20;decide),_,rfl,_,_,rfl,rfl,⟨by decide,by decide⟩,w20,nu/140,(by rw [← ew20];rfl),hw20,by omega,by omega,fun x hx=>⟨s1,x,hx,rfl⟩⟩
  ·exact ⟨_,rfl,_,rfl,_,rfl,a,ns,t,nu,rfl,s1.seq hS,hl,ht1,ht2,fun x hx=>⟨s1,x,hx,rfl⟩⟩
 clear s1 ht1 ht2
 rintro σ H1 ⟨s1,t,ht,rfl⟩
 refine ⟨fun σ H'=>Same H H'∧∃ t:Str,t.length≤90000∧σ=[some (.ref a),some (.int nu),some (.str t),none,none,none,none],?_,?_⟩
 ·refine ⟨_,rfl,a,ns,0,rfl,s1.seq hS,hl,_,_,rfl,fun nu2 _ _=>⟨_,_,rfl,rfl,(by show (0:Int)<4;decide),rfl,_,rfl,iteD (fun _=>?_) (fun _=>⟨s1,t,by omega,rfl⟩)⟩⟩
  exact ⟨_,rfl,_,rfl,a,ns,t,rfl,s1.seq hS,hl,ht,fun x hx=>⟨s1,x,hx,rfl⟩⟩
 clear s1 ht
 rintro σ H1 ⟨s1,t,ht,rfl⟩
 refine ⟨fun σ H'=>∃ (nu:Int) (t:Str),t.length≤90000∧Same H H'∧((∃ f o,rdForm 8 t.cps.toList=some (f,[])∧FAt cF [] H' f o∧σ=[some (.ref a),some (.int nu),some (.str t),some (.ref o),some .non,none,none])∨((∀ f,rdForm 8 t.cps.toList≠some (f,[]))∧∃ x,H' x=some (ExcO x C_NoText none)∧σ=[some (.ref a),some (.int nu),some (.str t),some .non,some (.ref x),none,none])),?_,?_⟩
 ·refine ⟨⟨_,rfl,t,rfl,by omega,fun fm e o H' E2 hF=>⟨nu,t,ht,s1.trans E2.s,.inl ⟨fm,o,e,hF,rfl⟩⟩,fun hn H' E2=>?_⟩,fun σ' C' d H' x hE hx=>?_⟩
  ·subst hEH
   exact ⟨⟨nu,t,ht,hn,rfl⟩,rfl,rfl,s1.trans E2.s⟩
  ·subst hEH
   obtain ⟨⟨nu',t',ht',hn,rfl⟩,hc,rfl,hs2⟩:=hE
   injection hc with hc
   subst hc
   exact ⟨hm,_,rfl,nu',t',ht',hs2.trans (Zj hx),.inr ⟨hn,x,Zb,rfl⟩⟩
 clear nu n1 n2 t ht s1
 rintro σ H2 ⟨nu,t,ht,s2,hJ⟩
 have el:t.cps.toList.length=t.length:=Array.length_toList
 have p0:posO t (some t.cps.toList)=0:=by show ((t.length - t.cps.toList.length:Nat):Int)=0;rw [el,Nat.sub_self];rfl
 have lt:t.length≤sizeLine:=small5 (by omega)
 rcases hJ with ⟨fm,o,e,hF,rfl⟩ | ⟨hn,x,hx,rfl⟩
 ·obtain ⟨g1,g2,g3⟩:=Jv 8 _ _ _ e
  rw [List.append_nil] at g1
  have hsl:(sh fm).length=t.length:=by rw [← g1,el]
  have et:(⟨(sh fm).toArray⟩:Str)=t:=by rw [← g1]
  refine ⟨_,rfl,t,some t.cps.toList,1,(by rw [p0];rfl),by omega,(fun y hy=>by rw [← Option.some.inj hy];exact List.suffix_refl _),by decide,?_⟩
  rw [show ((some t.cps.toList).bind fun q=>(rdForm 8 q).map Prod.snd)=some [] by rw [Option.bind_some,e];rfl]
  refine ⟨_,rfl,_,_,rfl,⟨lt,rfl⟩,rfl,_,rfl,iteDN (fun _=>?_) (fun z=>absurd (show V.int (pos t [])=_ from rfl) z)⟩
  refine ⟨_,rfl,rfl,_,rfl,iteF ?_⟩
  refine ⟨_,rfl,Zdf hF g2 g3 (by omega) ?_⟩
  rw [et]
  refine ⟨_,rfl,.inl ⟨_,_,_,true,rfl,.str _,Zxf ..,true,rfl,iteT ?_⟩⟩
  refine ⟨_,rfl,_,rfl,rfl,H,.refl s2,?_⟩
  rw [decide_eq_true rfl]
  exact q _
 ·refine ⟨_,rfl,t,some t.cps.toList,1,(by rw [p0];rfl),by omega,(fun y hy=>by rw [← Option.some.inj hy];exact List.suffix_refl _),by decide,?_⟩
  have hne:posO t ((some t.cps.toList).bind fun q=>(rdForm 8 q).map Prod.snd)≠((t.length:Nat):Int):=by
   rw [Option.bind_some]
   cases e:rdForm 8 t.cps.toList with
   | none=>show (-1:Int)≠_;omega
   | some p =>
    obtain ⟨fm,q'⟩:=p
    show ((t.length - q'.length:Nat):Int)≠_
    have h1:=(Zaf e).length_le
    rw [el] at h1
    have h2:q'.length≠0:=fun z=>hn fm (by rw [e,List.length_eq_zero_iff.mp z])
    omega
  refine ⟨_,rfl,_,_,rfl,⟨lt,rfl⟩,rfl,_,rfl,iteDN (fun z=>absurd (V.int.inj z) hne) (fun _=>?_)⟩
  exact ⟨_,rfl,x,C_NoText,none,bs0,rfl,hx,.inl rfl,kS,kR,hal,H,.refl s2,q _⟩
theorem ex1 (us:List Value) (hl:us.length=1):∃ a:Value,us=[a]:=match us,hl with | [a],_=>⟨a,rfl⟩
theorem ex2 (us:List Value) (hl:us.length=2):∃ a b:Value,us=[a,b]:=match us,hl with | [a,b],_=>⟨a,b,rfl⟩
theorem ex3 (us:List Value) (hl:us.length=3):∃ a b c:Value,us=[a,b,c]:=match us,hl with | [a,b,c],_=>⟨a,b,c,rfl⟩
set_option maxHeartbeats 16000000 in
theorem Xqi {l:PySem.W.OpenLaw} {w:World} {K:PySem.W.Frag} {h:Heap} {mg:Str→Option Value} {fa:Addr} (X:K.In h) (G:h.Ns mainGlobals mg) (hfa:mg "law"=some (.ref fa))
  {C_Nothing:Addr} {f_Nothing_shown:Addr} {od_x0 an_x0:Option Addr} {sl_x0:Array (Option Value)} {oc_x0 kV_x0 dc_x0 pm_x0 cd_x0 ct_x0:Value} {C_Truth:Addr} {f_Truth_shown:Addr} {od_x1 an_x1:Option Addr} {sl_x1:Array (Option Value)} {oc_x1 kV_x1 dc_x1 pm_x1 cd_x1 ct_x1:Value} {C_Whole:Addr} {f_Whole_shown:Addr} {od_x2 an_x2:Option Addr} {sl_x2:Array (Option Value)} {oc_x2 kV_x2 dc_x2 pm_x2 cd_x2 ct_x2:Value} {C_Fraction:Addr} {f_Fraction_shown:Addr} {od_x3 an_x3:Option Addr} {sl_x3:Array (Option Value)} {oc_x3 kV_x3 dc_x3 pm_x3 cd_x3 ct_x3:Value} {C_Span:Addr} {f_Span_init:Addr} {od_x4 an_x4:Option Addr} {sl_x4:Array (Option Value)} {oc_x4 kV_x4 dc_x4 pm_x4 cd_x4 ct_x4:Value} {f_Span_shown:Addr} {od_x5 an_x5:Option Addr} {sl_x5:Array (Option Value)} {oc_x5 kV_x5 dc_x5 pm_x5 cd_x5 ct_x5:Value} {C_Letters:Addr} {f_Letters_init:Addr} {od_x6 an_x6:Option Addr} {sl_x6:Array (Option Value)} {oc_x6 kV_x6 dc_x6 pm_x6 cd_x6 ct_x6:Value} {f_Letters_shown:Addr} {od_x7 an_x7:Option Addr} {sl_x7:Array (Option Value)} {oc_x7 kV_x7 dc_x7 pm_x7 cd_x7 ct_x7:Value} {C_Maybe:Addr} {f_Maybe_init:Addr} {od_x8 an_x8:Option Addr} {sl_x8:Array (Option Value)} {oc_x8 kV_x8 dc_x8 pm_x8 cd_x8 ct_x8:Value} {f_Maybe_shown:Addr} {od_x9 an_x9:Option Addr} {sl_x9:Array (Option Value)} {oc_x9 kV_x9 dc_x9 pm_x9 cd_x9 ct_x9:Value} {C_Many:Addr} {f_Many_init:Addr} {od_x10 an_x10:Option Addr} {sl_x10:Array (Option Value)} {oc_x10 kV_x10 dc_x10 pm_x10 cd_x10 ct_x10:Value} {f_Many_shown:Addr} {od_x11 an_x11:Option Addr} {sl_x11:Array (Option Value)} {oc_x11 kV_x11 dc_x11 pm_x11 cd_x11 ct_x11:Value} {C_Turned:Addr} {f_Turned_init:Addr} {od_x12 an_x12:Option Addr} {sl_x12:Array (Option Value)} {oc_x12 kV_x12 dc_x12 pm_x12 cd_x12 ct_x12:Value} {f_Turned_shown:Addr} {od_x13 an_x13:Option Addr} {sl_x13:Array (Option Value)} {oc_x13 kV_x13 dc_x13 pm_x13 cd_x13 ct_x13:Value} {C_Record:Addr} {f_Record_init:Addr} {od_x14 an_x14:Option Addr} {sl_x14:Array (Option Value)} {oc_x14 kV_x14 dc_x14 pm_x14 cd_x14 ct_x14:Value} {f_Record_shown:Addr} {od_x15 an_x15:Option Addr} {sl_x15:Array (Option Value)} {oc_x15 kV_x15 dc_x15 pm_x15 cd_x15 ct_x15:Value} {C_Choice:Addr} {f_Choice_init:Addr} {od_x16 an_x16:Option Addr} {sl_x16:Array (Option Value)} {oc_x16 kV_x16 dc_x16 pm_x16 cd_x16 ct_x16:Value} {f_Choice_shown:Addr} {od_x17 an_x17:Option Addr} {sl_x17:Array (Option Value)} {oc_x17 kV_x17 dc_x17 pm_x17 cd_x17 ct_x17:Value} {C_Cursor:Addr} {f_Cursor_init:Addr} {od_x18 an_x18:Option Addr} {sl_x18:Array (Option Value)} {oc_x18 kV_x18 dc_x18 pm_x18 cd_x18 ct_x18:Value} {f_Cursor_ended:Addr} {od_x19 an_x19:Option Addr} {sl_x19:Array (Option Value)} {oc_x19 kV_x19 dc_x19 pm_x19 cd_x19 ct_x19:Value} {f_Cursor_skip:Addr} {od_x20 an_x20:Option Addr} {sl_x20:Array (Option Value)} {oc_x20 kV_x20 dc_x20 pm_x20 cd_x20 ct_x20:Value} {f_Cursor_expect:Addr} {od_x21 an_x21:Option Addr} {sl_x21:Array (Option Value)} {oc_x21 kV_x21 dc_x21 pm_x21 cd_x21 ct_x21:Value} {f_Cursor_run_of:Addr} {od_x22 an_x22:Option Addr} {sl_x22:Array (Option Value)} {oc_x22 kV_x22 dc_x22 pm_x22 cd_x22 ct_x22:Value} {C_RiseError:Addr} {C_NoFit:Addr} {C_Short:Addr} {C_Wrong:Addr} {C_Left:Addr} {C_NoForm:Addr} {C_NoText:Addr} {C_NotAhead:Addr} {C_BadPage:Addr} {C_Twice:Addr} {C_Lacking:Addr} {f_made_of:Addr} {od_x23 an_x23:Option Addr} {sl_x23:Array (Option Value)} {oc_x23 kV_x23 dc_x23 pm_x23 cd_x23 ct_x23:Value} {f_is_name:Addr} {od_x24 an_x24:Option Addr} {sl_x24:Array (Option Value)} {oc_x24 kV_x24 dc_x24 pm_x24 cd_x24 ct_x24:Value} {f_names_of:Addr} {od_x25 an_x25:Option Addr} {sl_x25:Array (Option Value)} {oc_x25 kV_x25 dc_x25 pm_x25 cd_x25 ct_x25:Value} {f_shown_parts:Addr} {od_x26 an_x26:Option Addr} {sl_x26:Array (Option Value)} {oc_x26 kV_x26 dc_x26 pm_x26 cd_x26 ct_x26:Value} {f_number_at:Addr} {od_x27 an_x27:Option Addr} {sl_x27:Array (Option Value)} {oc_x27 kV_x27 dc_x27 pm_x27 cd_x27 ct_x27:Value} {f_span_at:Addr} {od_x28 an_x28:Option Addr} {sl_x28:Array (Option Value)} {oc_x28 kV_x28 dc_x28 pm_x28 cd_x28 ct_x28:Value} {f_letters_at:Addr} {od_x29 an_x29:Option Addr} {sl_x29:Array (Option Value)} {oc_x29 kV_x29 dc_x29 pm_x29 cd_x29 ct_x29:Value} {f_part_at:Addr} {od_x30 an_x30:Option Addr} {sl_x30:Array (Option Value)} {oc_x30 kV_x30 dc_x30 pm_x30 cd_x30 ct_x30:Value} {f_parts_at:Addr} {od_x31 an_x31:Option Addr} {sl_x31:Array (Option Value)} {oc_x31 kV_x31 dc_x31 pm_x31 cd_x31 ct_x31:Value} {f_bare_form:Addr} {od_x32 an_x32:Option Addr} {sl_x32:Array (Option Value)} {oc_x32 kV_x32 dc_x32 pm_x32 cd_x32 ct_x32:Value} {f_bracketed_form_at:Addr} {od_x33 an_x33:Option Addr} {sl_x33:Array (Option Value)} {oc_x33 kV_x33 dc_x33 pm_x33 cd_x33 ct_x33:Value} {f_form_at:Addr} {od_x34 an_x34:Option Addr} {sl_x34:Array (Option Value)} {oc_x34 kV_x34 dc_x34 pm_x34 cd_x34 ct_x34:Value} {f_form_of:Addr} {od_x35 an_x35:Option Addr} {sl_x35:Array (Option Value)} {oc_x35 kV_x35 dc_x35 pm_x35 cd_x35 ct_x35:Value} {f_law_cell_at:Addr} {od_x36 an_x36:Option Addr} {sl_x36:Array (Option Value)} {oc_x36 kV_x36 dc_x36 pm_x36 cd_x36 ct_x36:Value} {f_law_mixed:Addr} {od_x37 an_x37:Option Addr} {sl_x37:Array (Option Value)} {oc_x37 kV_x37 dc_x37 pm_x37 cd_x37 ct_x37:Value} {f_law_numbers_of:Addr} {od_x38 an_x38:Option Addr} {sl_x38:Array (Option Value)} {oc_x38 kV_x38 dc_x38 pm_x38 cd_x38 ct_x38:Value} {f_law_names:Addr} {od_x39 an_x39:Option Addr} {sl_x39:Array (Option Value)} {oc_x39 kV_x39 dc_x39 pm_x39 cd_x39 ct_x39:Value} {f_law_simple:Addr} {od_x40 an_x40:Option Addr} {sl_x40:Array (Option Value)} {oc_x40 kV_x40 dc_x40 pm_x40 cd_x40 ct_x40:Value} {f_law_tree:Addr} {od_x41 an_x41:Option Addr} {sl_x41:Array (Option Value)} {oc_x41 kV_x41 dc_x41 pm_x41 cd_x41 ct_x41:Value} {f_law_text:Addr} {od_x42 an_x42:Option Addr} {sl_x42:Array (Option Value)} {oc_x42 kV_x42 dc_x42 pm_x42 cd_x42 ct_x42:Value} {f_law_alone:Addr} {od_x43 an_x43:Option Addr} {sl_x43:Array (Option Value)} {oc_x43 kV_x43 dc_x43 pm_x43 cd_x43 ct_x43:Value} {f_law_bent:Addr} {od_x44 an_x44:Option Addr} {sl_x44:Array (Option Value)} {oc_x44 kV_x44 dc_x44 pm_x44 cd_x44 ct_x44:Value} {f_law_odd:Addr} {od_x45 an_x45:Option Addr} {sl_x45:Array (Option Value)} {oc_x45 kV_x45 dc_x45 pm_x45 cd_x45 ct_x45:Value} {f_law_piece:Addr} {od_x46 an_x46:Option Addr} {sl_x46:Array (Option Value)} {oc_x46 kV_x46 dc_x46 pm_x46 cd_x46 ct_x46:Value} {f_law_edge:Addr} {od_x47 an_x47:Option Addr} {sl_x47:Array (Option Value)} {oc_x47 kV_x47 dc_x47 pm_x47 cd_x47 ct_x47:Value} {f_law_behind:Addr} {od_x48 an_x48:Option Addr} {sl_x48:Array (Option Value)} {oc_x48 kV_x48 dc_x48 pm_x48 cd_x48 ct_x48:Value} {f_law_word_end:Addr} {od_x49 an_x49:Option Addr} {sl_x49:Array (Option Value)} {oc_x49 kV_x49 dc_x49 pm_x49 cd_x49 ct_x49:Value} {f_law_number_end:Addr} {od_x50 an_x50:Option Addr} {sl_x50:Array (Option Value)} {oc_x50 kV_x50 dc_x50 pm_x50 cd_x50 ct_x50:Value} {f_law_span_end:Addr} {od_x51 an_x51:Option Addr} {sl_x51:Array (Option Value)} {oc_x51 kV_x51 dc_x51 pm_x51 cd_x51 ct_x51:Value} {f_law_letters_end:Addr} {od_x52 an_x52:Option Addr} {sl_x52:Array (Option Value)} {oc_x52 kV_x52 dc_x52 pm_x52 cd_x52 ct_x52:Value} {f_law_parts_end:Addr} {od_x53 an_x53:Option Addr} {sl_x53:Array (Option Value)} {oc_x53 kV_x53 dc_x53 pm_x53 cd_x53 ct_x53:Value} {f_law_form_end:Addr} {od_x54 an_x54:Option Addr} {sl_x54:Array (Option Value)} {oc_x54 kV_x54 dc_x54 pm_x54 cd_x54 ct_x54:Value} {f_law:Addr} {od_x55 an_x55:Option Addr} {sl_x55:Array (Option Value)} {oc_x55 kV_x55 dc_x55 pm_x55 cd_x55 ct_x55:Value} {tk_MOST_SIGNS:Tok} {tk_MOST_PARTS:Tok} {tk_LONGEST_NAME:Tok} {tk_MOST_FIGURES:Tok} {tk_MOST_DEEP:Tok} {tk_SMALL_LETTERS:Tok} {tk_LETTERS_AND_FIGURES:Tok} {tk_FIGURES:Tok}
  (aC_Nothing:PySem.W.nsIn K mainGlobals "Nothing"=some (some (.ref C_Nothing)))
  (pg_Nothing:PySem.W.plainGet K C_Nothing Str.empty=true)
  (hd_Nothing:PySem.W.hasDictIn K C_Nothing=true)
  (po_Nothing:PySem.W.plainOver K C_Nothing=true)
  (sa_Nothing:PySem.W.findIn K (.ref C_Nothing) "__setattr__"=some (some (.builtin "object.__setattr__")))
  (mk_Nothing:PySem.W.makesIn K C_Nothing=true)
  (kc_Nothing:PySem.W.keepIn K (.ref C_Nothing)=true)
  (i0_Nothing:PySem.W.findIn K (.ref C_Nothing) "__init__"=some (some (.builtin "object.__init__")))
  (a_Nothing_shown:PySem.W.findIn K (.ref C_Nothing) "shown"=some (some (.ref f_Nothing_shown)))
  (i_Nothing_shown:PySem.W.isFn K (.ref f_Nothing_shown)=true)
  (l_Nothing_shown:K.lookup f_Nothing_shown=some ⟨oc_x0,od_x0,.func (PySem.W.fnOf "shown" "Nothing.shown" (defArgs Xy) (defBody Xy) (defScope Xy) .none kV_x0 dc_x0 pm_x0 an_x0 cd_x0 ct_x0),sl_x0⟩)
  (c_Nothing_shown:PySem.W.codeIn K cd_x0 "Nothing.shown"=true)
  (k_Nothing_shown:PySem.W.keepIn K (.ref f_Nothing_shown)=true)
  (aC_Truth:PySem.W.nsIn K mainGlobals "Truth"=some (some (.ref C_Truth)))
  (pg_Truth:PySem.W.plainGet K C_Truth Str.empty=true)
  (hd_Truth:PySem.W.hasDictIn K C_Truth=true)
  (po_Truth:PySem.W.plainOver K C_Truth=true)
  (sa_Truth:PySem.W.findIn K (.ref C_Truth) "__setattr__"=some (some (.builtin "object.__setattr__")))
  (mk_Truth:PySem.W.makesIn K C_Truth=true)
  (kc_Truth:PySem.W.keepIn K (.ref C_Truth)=true)
  (i0_Truth:PySem.W.findIn K (.ref C_Truth) "__init__"=some (some (.builtin "object.__init__")))
  (a_Truth_shown:PySem.W.findIn K (.ref C_Truth) "shown"=some (some (.ref f_Truth_shown)))
  (i_Truth_shown:PySem.W.isFn K (.ref f_Truth_shown)=true)
  (l_Truth_shown:K.lookup f_Truth_shown=some ⟨oc_x1,od_x1,.func (PySem.W.fnOf "shown" "Truth.shown" (defArgs Yr) (defBody Yr) (defScope Yr) .none kV_x1 dc_x1 pm_x1 an_x1 cd_x1 ct_x1),sl_x1⟩)
  (c_Truth_shown:PySem.W.codeIn K cd_x1 "Truth.shown"=true)
  (k_Truth_shown:PySem.W.keepIn K (.ref f_Truth_shown)=true)
  (aC_Whole:PySem.W.nsIn K mainGlobals "Whole"=some (some (.ref C_Whole)))
  (pg_Whole:PySem.W.plainGet K C_Whole Str.empty=true)
  (hd_Whole:PySem.W.hasDictIn K C_Whole=true)
  (po_Whole:PySem.W.plainOver K C_Whole=true)
  (sa_Whole:PySem.W.findIn K (.ref C_Whole) "__setattr__"=some (some (.builtin "object.__setattr__")))
  (mk_Whole:PySem.W.makesIn K C_Whole=true)
  (kc_Whole:PySem.W.keepIn K (.ref C_Whole)=true)
  (i0_Whole:PySem.W.findIn K (.ref C_Whole) "__init__"=some (some (.builtin "object.__init__")))
  (a_Whole_shown:PySem.W.findIn K (.ref C_Whole) "shown"=some (some (.ref f_Whole_shown)))
  (i_Whole_shown:PySem.W.isFn K (.ref f_Whole_shown)=true)
  (l_Whole_shown:K.lookup f_Whole_shown=some ⟨oc_x2,od_x2,.func (PySem.W.fnOf "shown" "Whole.shown" (defArgs Yq) (defBody Yq) (defScope Yq) .none kV_x2 dc_x2 pm_x2 an_x2 cd_x2 ct_x2),sl_x2⟩)
  (c_Whole_shown:PySem.W.codeIn K cd_x2 "Whole.shown"=true)
  (k_Whole_shown:PySem.W.keepIn K (.ref f_Whole_shown)=true)
  (aC_Fraction:PySem.W.nsIn K mainGlobals "Fraction"=some (some (.ref C_Fraction)))
  (pg_Fraction:PySem.W.plainGet K C_Fraction Str.empty=true)
  (hd_Fraction:PySem.W.hasDictIn K C_Fraction=true)
  (po_Fraction:PySem.W.plainOver K C_Fraction=true)
  (sa_Fraction:PySem.W.findIn K (.ref C_Fraction) "__setattr__"=some (some (.builtin "object.__setattr__")))
  (mk_Fraction:PySem.W.makesIn K C_Fraction=true)
  (kc_Fraction:PySem.W.keepIn K (.ref C_Fraction)=true)
  (i0_Fraction:PySem.W.findIn K (.ref C_Fraction) "__init__"=some (some (.builtin "object.__init__")))
  (a_Fraction_shown:PySem.W.findIn K (.ref C_Fraction) "shown"=some (some (.ref f_Fraction_shown)))
  (i_Fraction_shown:PySem.W.isFn K (.ref f_Fraction_shown)=true)
  (l_Fraction_shown:K.lookup f_Fraction_shown=some ⟨oc_x3,od_x3,.func (PySem.W.fnOf "shown" "Fraction.shown" (defArgs Xr) (defBody Xr) (defScope Xr) .none kV_x3 dc_x3 pm_x3 an_x3 cd_x3 ct_x3),sl_x3⟩)
  (c_Fraction_shown:PySem.W.codeIn K cd_x3 "Fraction.shown"=true)
  (k_Fraction_shown:PySem.W.keepIn K (.ref f_Fraction_shown)=true)
  (aC_Span:PySem.W.nsIn K mainGlobals "Span"=some (some (.ref C_Span)))
  (pg_Span:PySem.W.plainGet K C_Span Str.empty=true)
  (hd_Span:PySem.W.hasDictIn K C_Span=true)
  (po_Span:PySem.W.plainOver K C_Span=true)
  (sa_Span:PySem.W.findIn K (.ref C_Span) "__setattr__"=some (some (.builtin "object.__setattr__")))
  (mk_Span:PySem.W.makesIn K C_Span=true)
  (kc_Span:PySem.W.keepIn K (.ref C_Span)=true)
  (n_Span_low:PySem.W.findIn K (.ref C_Span) "low"=some none)
  (n_Span_high:PySem.W.findIn K (.ref C_Span) "high"=some none)
  (a_Span_init:PySem.W.findIn K (.ref C_Span) "__init__"=some (some (.ref f_Span_init)))
  (i_Span_init:PySem.W.isFn K (.ref f_Span_init)=true)
  (l_Span_init:K.lookup f_Span_init=some ⟨oc_x4,od_x4,.func (PySem.W.fnOf "__init__" "Span.__init__" (defArgs Wx) (defBody Wx) (defScope Wx) .none kV_x4 dc_x4 pm_x4 an_x4 cd_x4 ct_x4),sl_x4⟩)
  (c_Span_init:PySem.W.codeIn K cd_x4 "Span.__init__"=true)
  (k_Span_init:PySem.W.keepIn K (.ref f_Span_init)=true)
  (a_Span_shown:PySem.W.findIn K (.ref C_Span) "shown"=some (some (.ref f_Span_shown)))
  (i_Span_shown:PySem.W.isFn K (.ref f_Span_shown)=true)
  (l_Span_shown:K.lookup f_Span_shown=some ⟨oc_x5,od_x5,.func (PySem.W.fnOf "shown" "Span.shown" (defArgs Wl) (defBody Wl) (defScope Wl) .none kV_x5 dc_x5 pm_x5 an_x5 cd_x5 ct_x5),sl_x5⟩)
  (c_Span_shown:PySem.W.codeIn K cd_x5 "Span.shown"=true)
  (k_Span_shown:PySem.W.keepIn K (.ref f_Span_shown)=true)
  (aC_Letters:PySem.W.nsIn K mainGlobals "Letters"=some (some (.ref C_Letters)))
  (pg_Letters:PySem.W.plainGet K C_Letters Str.empty=true)
  (hd_Letters:PySem.W.hasDictIn K C_Letters=true)
  (po_Letters:PySem.W.plainOver K C_Letters=true)
  (sa_Letters:PySem.W.findIn K (.ref C_Letters) "__setattr__"=some (some (.builtin "object.__setattr__")))
  (mk_Letters:PySem.W.makesIn K C_Letters=true)
  (kc_Letters:PySem.W.keepIn K (.ref C_Letters)=true)
  (n_Letters_signs:PySem.W.findIn K (.ref C_Letters) "signs"=some none)
  (a_Letters_init:PySem.W.findIn K (.ref C_Letters) "__init__"=some (some (.ref f_Letters_init)))
  (i_Letters_init:PySem.W.isFn K (.ref f_Letters_init)=true)
  (l_Letters_init:K.lookup f_Letters_init=some ⟨oc_x6,od_x6,.func (PySem.W.fnOf "__init__" "Letters.__init__" (defArgs Yf) (defBody Yf) (defScope Yf) .none kV_x6 dc_x6 pm_x6 an_x6 cd_x6 ct_x6),sl_x6⟩)
  (c_Letters_init:PySem.W.codeIn K cd_x6 "Letters.__init__"=true)
  (k_Letters_init:PySem.W.keepIn K (.ref f_Letters_init)=true)
  (a_Letters_shown:PySem.W.findIn K (.ref C_Letters) "shown"=some (some (.ref f_Letters_shown)))
  (i_Letters_shown:PySem.W.isFn K (.ref f_Letters_shown)=true)
  (l_Letters_shown:K.lookup f_Letters_shown=some ⟨oc_x7,od_x7,.func (PySem.W.fnOf "shown" "Letters.shown" (defArgs Xz) (defBody Xz) (defScope Xz) .none kV_x7 dc_x7 pm_x7 an_x7 cd_x7 ct_x7),sl_x7⟩)
  (c_Letters_shown:PySem.W.codeIn K cd_x7 "Letters.shown"=true)
  (k_Letters_shown:PySem.W.keepIn K (.ref f_Letters_shown)=true)
  (aC_Maybe:PySem.W.nsIn K mainGlobals "Maybe"=some (some (.ref C_Maybe)))
  (pg_Maybe:PySem.W.plainGet K C_Maybe Str.empty=true)
  (hd_Maybe:PySem.W.hasDictIn K C_Maybe=true)
  (po_Maybe:PySem.W.plainOver K C_Maybe=true)
  (sa_Maybe:PySem.W.findIn K (.ref C_Maybe) "__setattr__"=some (some (.builtin "object.__setattr__")))
  (mk_Maybe:PySem.W.makesIn K C_Maybe=true)
  (kc_Maybe:PySem.W.keepIn K (.ref C_Maybe)=true)
  (n_Maybe_inner:PySem.W.findIn K (.ref C_Maybe) "inner"=some none)
  (a_Maybe_init:PySem.W.findIn K (.ref C_Maybe) "__init__"=some (some (.ref f_Maybe_init)))
  (i_Maybe_init:PySem.W.isFn K (.ref f_Maybe_init)=true)
  (l_Maybe_init:K.lookup f_Maybe_init=some ⟨oc_x8,od_x8,.func (PySem.W.fnOf "__init__" "Maybe.__init__" (defArgs Wz) (defBody Wz) (defScope Wz) .none kV_x8 dc_x8 pm_x8 an_x8 cd_x8 ct_x8),sl_x8⟩)
  (c_Maybe_init:PySem.W.codeIn K cd_x8 "Maybe.__init__"=true)
  (k_Maybe_init:PySem.W.keepIn K (.ref f_Maybe_init)=true)
  (a_Maybe_shown:PySem.W.findIn K (.ref C_Maybe) "shown"=some (some (.ref f_Maybe_shown)))
  (i_Maybe_shown:PySem.W.isFn K (.ref f_Maybe_shown)=true)
  (l_Maybe_shown:K.lookup f_Maybe_shown=some ⟨oc_x9,od_x9,.func (PySem.W.fnOf "shown" "Maybe.shown" (defArgs Yt) (defBody Yt) (defScope Yt) .none kV_x9 dc_x9 pm_x9 an_x9 cd_x9 ct_x9),sl_x9⟩)
  (c_Maybe_shown:PySem.W.codeIn K cd_x9 "Maybe.shown"=true)
  (k_Maybe_shown:PySem.W.keepIn K (.ref f_Maybe_shown)=true)
  (aC_Many:PySem.W.nsIn K mainGlobals "Many"=some (some (.ref C_Many)))
  (pg_Many:PySem.W.plainGet K C_Many Str.empty=true)
  (hd_Many:PySem.W.hasDictIn K C_Many=true)
  (po_Many:PySem.W.plainOver K C_Many=true)
  (sa_Many:PySem.W.findIn K (.ref C_Many) "__setattr__"=some (some (.builtin "object.__setattr__")))
  (mk_Many:PySem.W.makesIn K C_Many=true)
  (kc_Many:PySem.W.keepIn K (.ref C_Many)=true)
  (n_Many_inner:PySem.W.findIn K (.ref C_Many) "inner"=some none)
  (a_Many_init:PySem.W.findIn K (.ref C_Many) "__init__"=some (some (.ref f_Many_init)))
  (i_Many_init:PySem.W.isFn K (.ref f_Many_init)=true)
  (l_Many_init:K.lookup f_Many_init=some ⟨oc_x10,od_x10,.func (PySem.W.fnOf "__init__" "Many.__init__" (defArgs Jj) (defBody Jj) (defScope Jj) .none kV_x10 dc_x10 pm_x10 an_x10 cd_x10 ct_x10),sl_x10⟩)
  (c_Many_init:PySem.W.codeIn K cd_x10 "Many.__init__"=true)
  (k_Many_init:PySem.W.keepIn K (.ref f_Many_init)=true)
  (a_Many_shown:PySem.W.findIn K (.ref C_Many) "shown"=some (some (.ref f_Many_shown)))
  (i_Many_shown:PySem.W.isFn K (.ref f_Many_shown)=true)
  (l_Many_shown:K.lookup f_Many_shown=some ⟨oc_x11,od_x11,.func (PySem.W.fnOf "shown" "Many.shown" (defArgs Wm) (defBody Wm) (defScope Wm) .none kV_x11 dc_x11 pm_x11 an_x11 cd_x11 ct_x11),sl_x11⟩)
  (c_Many_shown:PySem.W.codeIn K cd_x11 "Many.shown"=true)
  (k_Many_shown:PySem.W.keepIn K (.ref f_Many_shown)=true)
  (aC_Turned:PySem.W.nsIn K mainGlobals "Turned"=some (some (.ref C_Turned)))
  (pg_Turned:PySem.W.plainGet K C_Turned Str.empty=true)
  (hd_Turned:PySem.W.hasDictIn K C_Turned=true)
  (po_Turned:PySem.W.plainOver K C_Turned=true)
  (sa_Turned:PySem.W.findIn K (.ref C_Turned) "__setattr__"=some (some (.builtin "object.__setattr__")))
  (mk_Turned:PySem.W.makesIn K C_Turned=true)
  (kc_Turned:PySem.W.keepIn K (.ref C_Turned)=true)
  (n_Turned_inner:PySem.W.findIn K (.ref C_Turned) "inner"=some none)
  (a_Turned_init:PySem.W.findIn K (.ref C_Turned) "__init__"=some (some (.ref f_Turned_init)))
  (i_Turned_init:PySem.W.isFn K (.ref f_Turned_init)=true)
  (l_Turned_init:K.lookup f_Turned_init=some ⟨oc_x12,od_x12,.func (PySem.W.fnOf "__init__" "Turned.__init__" (defArgs Wr) (defBody Wr) (defScope Wr) .none kV_x12 dc_x12 pm_x12 an_x12 cd_x12 ct_x12),sl_x12⟩)
  (c_Turned_init:PySem.W.codeIn K cd_x12 "Turned.__init__"=true)
  (k_Turned_init:PySem.W.keepIn K (.ref f_Turned_init)=true)
  (a_Turned_shown:PySem.W.findIn K (.ref C_Turned) "shown"=some (some (.ref f_Turned_shown)))
  (i_Turned_shown:PySem.W.isFn K (.ref f_Turned_shown)=true)
  (l_Turned_shown:K.lookup f_Turned_shown=some ⟨oc_x13,od_x13,.func (PySem.W.fnOf "shown" "Turned.shown" (defArgs Yd) (defBody Yd) (defScope Yd) .none kV_x13 dc_x13 pm_x13 an_x13 cd_x13 ct_x13),sl_x13⟩)
  (c_Turned_shown:PySem.W.codeIn K cd_x13 "Turned.shown"=true)
  (k_Turned_shown:PySem.W.keepIn K (.ref f_Turned_shown)=true)
  (aC_Record:PySem.W.nsIn K mainGlobals "Record"=some (some (.ref C_Record)))
  (pg_Record:PySem.W.plainGet K C_Record Str.empty=true)
  (hd_Record:PySem.W.hasDictIn K C_Record=true)
  (po_Record:PySem.W.plainOver K C_Record=true)
  (sa_Record:PySem.W.findIn K (.ref C_Record) "__setattr__"=some (some (.builtin "object.__setattr__")))
  (mk_Record:PySem.W.makesIn K C_Record=true)
  (kc_Record:PySem.W.keepIn K (.ref C_Record)=true)
  (n_Record_names:PySem.W.findIn K (.ref C_Record) "names"=some none)
  (n_Record_forms:PySem.W.findIn K (.ref C_Record) "forms"=some none)
  (a_Record_init:PySem.W.findIn K (.ref C_Record) "__init__"=some (some (.ref f_Record_init)))
  (i_Record_init:PySem.W.isFn K (.ref f_Record_init)=true)
  (l_Record_init:K.lookup f_Record_init=some ⟨oc_x14,od_x14,.func (PySem.W.fnOf "__init__" "Record.__init__" (defArgs Ys) (defBody Ys) (defScope Ys) .none kV_x14 dc_x14 pm_x14 an_x14 cd_x14 ct_x14),sl_x14⟩)
  (c_Record_init:PySem.W.codeIn K cd_x14 "Record.__init__"=true)
  (k_Record_init:PySem.W.keepIn K (.ref f_Record_init)=true)
  (a_Record_shown:PySem.W.findIn K (.ref C_Record) "shown"=some (some (.ref f_Record_shown)))
  (i_Record_shown:PySem.W.isFn K (.ref f_Record_shown)=true)
  (l_Record_shown:K.lookup f_Record_shown=some ⟨oc_x15,od_x15,.func (PySem.W.fnOf "shown" "Record.shown" (defArgs Ye) (defBody Ye) (defScope Ye) .none kV_x15 dc_x15 pm_x15 an_x15 cd_x15 ct_x15),sl_x15⟩)
  (c_Record_shown:PySem.W.codeIn K cd_x15 "Record.shown"=true)
  (k_Record_shown:PySem.W.keepIn K (.ref f_Record_shown)=true)
  (aC_Choice:PySem.W.nsIn K mainGlobals "Choice"=some (some (.ref C_Choice)))
  (pg_Choice:PySem.W.plainGet K C_Choice Str.empty=true)
  (hd_Choice:PySem.W.hasDictIn K C_Choice=true)
  (po_Choice:PySem.W.plainOver K C_Choice=true)
  (sa_Choice:PySem.W.findIn K (.ref C_Choice) "__setattr__"=some (some (.builtin "object.__setattr__")))
  (mk_Choice:PySem.W.makesIn K C_Choice=true)
  (kc_Choice:PySem.W.keepIn K (.ref C_Choice)=true)
  (n_Choice_names:PySem.W.findIn K (.ref C_Choice) "names"=some none)
  (n_Choice_forms:PySem.W.findIn K (.ref C_Choice) "forms"=some none)
  (a_Choice_init:PySem.W.findIn K (.ref C_Choice) "__init__"=some (some (.ref f_Choice_init)))
  (i_Choice_init:PySem.W.isFn K (.ref f_Choice_init)=true)
  (l_Choice_init:K.lookup f_Choice_init=some ⟨oc_x16,od_x16,.func (PySem.W.fnOf "__init__" "Choice.__init__" (defArgs Yu) (defBody Yu) (defScope Yu) .none kV_x16 dc_x16 pm_x16 an_x16 cd_x16 ct_x16),sl_x16⟩)
  (c_Choice_init:PySem.W.codeIn K cd_x16 "Choice.__init__"=true)
  (k_Choice_init:PySem.W.keepIn K (.ref f_Choice_init)=true)
  (a_Choice_shown:PySem.W.findIn K (.ref C_Choice) "shown"=some (some (.ref f_Choice_shown)))
  (i_Choice_shown:PySem.W.isFn K (.ref f_Choice_shown)=true)
  (l_Choice_shown:K.lookup f_Choice_shown=some ⟨oc_x17,od_x17,.func (PySem.W.fnOf "shown" "Choice.shown" (defArgs Yg) (defBody Yg) (defScope Yg) .none kV_x17 dc_x17 pm_x17 an_x17 cd_x17 ct_x17),sl_x17⟩)
  (c_Choice_shown:PySem.W.codeIn K cd_x17 "Choice.shown"=true)
  (k_Choice_shown:PySem.W.keepIn K (.ref f_Choice_shown)=true)
  (aC_Cursor:PySem.W.nsIn K mainGlobals "Cursor"=some (some (.ref C_Cursor)))
  (pg_Cursor:PySem.W.plainGet K C_Cursor Str.empty=true)
  (hd_Cursor:PySem.W.hasDictIn K C_Cursor=true)
  (po_Cursor:PySem.W.plainOver K C_Cursor=true)
  (sa_Cursor:PySem.W.findIn K (.ref C_Cursor) "__setattr__"=some (some (.builtin "object.__setattr__")))
  (mk_Cursor:PySem.W.makesIn K C_Cursor=true)
  (kc_Cursor:PySem.W.keepIn K (.ref C_Cursor)=true)
  (n_Cursor_text:PySem.W.findIn K (.ref C_Cursor) "text"=some none)
  (n_Cursor_place:PySem.W.findIn K (.ref C_Cursor) "place"=some none)
  (a_Cursor_init:PySem.W.findIn K (.ref C_Cursor) "__init__"=some (some (.ref f_Cursor_init)))
  (i_Cursor_init:PySem.W.isFn K (.ref f_Cursor_init)=true)
  (l_Cursor_init:K.lookup f_Cursor_init=some ⟨oc_x18,od_x18,.func (PySem.W.fnOf "__init__" "Cursor.__init__" (defArgs Wt) (defBody Wt) (defScope Wt) .none kV_x18 dc_x18 pm_x18 an_x18 cd_x18 ct_x18),sl_x18⟩)
  (c_Cursor_init:PySem.W.codeIn K cd_x18 "Cursor.__init__"=true)
  (k_Cursor_init:PySem.W.keepIn K (.ref f_Cursor_init)=true)
  (a_Cursor_ended:PySem.W.findIn K (.ref C_Cursor) "ended"=some (some (.ref f_Cursor_ended)))
  (i_Cursor_ended:PySem.W.isFn K (.ref f_Cursor_ended)=true)
  (l_Cursor_ended:K.lookup f_Cursor_ended=some ⟨oc_x19,od_x19,.func (PySem.W.fnOf "ended" "Cursor.ended" (defArgs Yy) (defBody Yy) (defScope Yy) .none kV_x19 dc_x19 pm_x19 an_x19 cd_x19 ct_x19),sl_x19⟩)
  (c_Cursor_ended:PySem.W.codeIn K cd_x19 "Cursor.ended"=true)
  (k_Cursor_ended:PySem.W.keepIn K (.ref f_Cursor_ended)=true)
  (a_Cursor_skip:PySem.W.findIn K (.ref C_Cursor) "skip"=some (some (.ref f_Cursor_skip)))
  (i_Cursor_skip:PySem.W.isFn K (.ref f_Cursor_skip)=true)
  (l_Cursor_skip:K.lookup f_Cursor_skip=some ⟨oc_x20,od_x20,.func (PySem.W.fnOf "skip" "Cursor.skip" (defArgs Ws) (defBody Ws) (defScope Ws) .none kV_x20 dc_x20 pm_x20 an_x20 cd_x20 ct_x20),sl_x20⟩)
  (c_Cursor_skip:PySem.W.codeIn K cd_x20 "Cursor.skip"=true)
  (k_Cursor_skip:PySem.W.keepIn K (.ref f_Cursor_skip)=true)
  (a_Cursor_expect:PySem.W.findIn K (.ref C_Cursor) "expect"=some (some (.ref f_Cursor_expect)))
  (i_Cursor_expect:PySem.W.isFn K (.ref f_Cursor_expect)=true)
  (l_Cursor_expect:K.lookup f_Cursor_expect=some ⟨oc_x21,od_x21,.func (PySem.W.fnOf "expect" "Cursor.expect" (defArgs Yl) (defBody Yl) (defScope Yl) .none kV_x21 dc_x21 pm_x21 an_x21 cd_x21 ct_x21),sl_x21⟩)
  (c_Cursor_expect:PySem.W.codeIn K cd_x21 "Cursor.expect"=true)
  (k_Cursor_expect:PySem.W.keepIn K (.ref f_Cursor_expect)=true)
  (a_Cursor_run_of:PySem.W.findIn K (.ref C_Cursor) "run_of"=some (some (.ref f_Cursor_run_of)))
  (i_Cursor_run_of:PySem.W.isFn K (.ref f_Cursor_run_of)=true)
  (l_Cursor_run_of:K.lookup f_Cursor_run_of=some ⟨oc_x22,od_x22,.func (PySem.W.fnOf "run_of" "Cursor.run_of" (defArgs Yk) (defBody Yk) (defScope Yk) .none kV_x22 dc_x22 pm_x22 an_x22 cd_x22 ct_x22),sl_x22⟩)
  (c_Cursor_run_of:PySem.W.codeIn K cd_x22 "Cursor.run_of"=true)
  (k_Cursor_run_of:PySem.W.keepIn K (.ref f_Cursor_run_of)=true)
  (aC_RiseError:PySem.W.nsIn K mainGlobals "RiseError"=some (some (.ref C_RiseError)))
  (aC_NoFit:PySem.W.nsIn K mainGlobals "NoFit"=some (some (.ref C_NoFit)))
  (aC_Short:PySem.W.nsIn K mainGlobals "Short"=some (some (.ref C_Short)))
  (aC_Wrong:PySem.W.nsIn K mainGlobals "Wrong"=some (some (.ref C_Wrong)))
  (aC_Left:PySem.W.nsIn K mainGlobals "Left"=some (some (.ref C_Left)))
  (aC_NoForm:PySem.W.nsIn K mainGlobals "NoForm"=some (some (.ref C_NoForm)))
  (aC_NoText:PySem.W.nsIn K mainGlobals "NoText"=some (some (.ref C_NoText)))
  (aC_NotAhead:PySem.W.nsIn K mainGlobals "NotAhead"=some (some (.ref C_NotAhead)))
  (aC_BadPage:PySem.W.nsIn K mainGlobals "BadPage"=some (some (.ref C_BadPage)))
  (aC_Twice:PySem.W.nsIn K mainGlobals "Twice"=some (some (.ref C_Twice)))
  (aC_Lacking:PySem.W.nsIn K mainGlobals "Lacking"=some (some (.ref C_Lacking)))
  (xga_RiseError:PySem.W.findIn K (.ref C_RiseError) "__getattribute__"=some (some (.builtin "BaseException.__getattribute__")))
  (xgt_RiseError:PySem.W.findIn K (.ref C_RiseError) "__getattr__"=some none)
  (xcl_RiseError:PySem.W.findIn K (.ref C_RiseError) "__class__"=some (some (.builtin "object.__class__")))
  (xob_RiseError:PySem.W.mroIn K C_RiseError (.type "object")=some true)
  (xbe_RiseError:PySem.W.mroIn K C_RiseError (.type "BaseException")=some true)
  (xis_RiseError:PySem.W.isClsIn K C_RiseError=true)
  (xhn_RiseError:PySem.W.specialIn K (.builtin "object.__class__") "__get__"=some (some (.builtin "getset_descriptor.__get__")))
  (xtk_RiseError:PySem.W.takesIn K (.builtin "object.__class__")=some true)
  (xt_RiseError:PySem.W.typeIn K (.ref C_RiseError)=some (.type "type"))
  (xga_NoForm:PySem.W.findIn K (.ref C_NoForm) "__getattribute__"=some (some (.builtin "BaseException.__getattribute__")))
  (xgt_NoForm:PySem.W.findIn K (.ref C_NoForm) "__getattr__"=some none)
  (xcl_NoForm:PySem.W.findIn K (.ref C_NoForm) "__class__"=some (some (.builtin "object.__class__")))
  (xob_NoForm:PySem.W.mroIn K C_NoForm (.type "object")=some true)
  (xbe_NoForm:PySem.W.mroIn K C_NoForm (.type "BaseException")=some true)
  (xis_NoForm:PySem.W.isClsIn K C_NoForm=true)
  (xhn_NoForm:PySem.W.specialIn K (.builtin "object.__class__") "__get__"=some (some (.builtin "getset_descriptor.__get__")))
  (xtk_NoForm:PySem.W.takesIn K (.builtin "object.__class__")=some true)
  (xt_NoForm:PySem.W.typeIn K (.ref C_NoForm)=some (.type "type"))
  (xga_NoText:PySem.W.findIn K (.ref C_NoText) "__getattribute__"=some (some (.builtin "BaseException.__getattribute__")))
  (xgt_NoText:PySem.W.findIn K (.ref C_NoText) "__getattr__"=some none)
  (xcl_NoText:PySem.W.findIn K (.ref C_NoText) "__class__"=some (some (.builtin "object.__class__")))
  (xob_NoText:PySem.W.mroIn K C_NoText (.type "object")=some true)
  (xbe_NoText:PySem.W.mroIn K C_NoText (.type "BaseException")=some true)
  (xis_NoText:PySem.W.isClsIn K C_NoText=true)
  (xhn_NoText:PySem.W.specialIn K (.builtin "object.__class__") "__get__"=some (some (.builtin "getset_descriptor.__get__")))
  (xtk_NoText:PySem.W.takesIn K (.builtin "object.__class__")=some true)
  (xt_NoText:PySem.W.typeIn K (.ref C_NoText)=some (.type "type"))
  (xi_NoForm:PySem.W.excIn K C_NoForm bmV "ValueError.__new__"=true)
  (xi_NoText:PySem.W.excIn K C_NoText bmV "ValueError.__new__"=true)
  (kt_NoText_RiseError:PySem.W.kitOne K (.ref C_NoText) (.ref C_RiseError)=some true)
  (kt_NoText_NoFit:PySem.W.kitOne K (.ref C_NoText) (.ref C_NoFit)=some false)
  (kt_NoText_Short:PySem.W.kitOne K (.ref C_NoText) (.ref C_Short)=some false)
  (kt_NoText_Wrong:PySem.W.kitOne K (.ref C_NoText) (.ref C_Wrong)=some false)
  (kt_NoText_Left:PySem.W.kitOne K (.ref C_NoText) (.ref C_Left)=some false)
  (kt_NoText_NoForm:PySem.W.kitOne K (.ref C_NoText) (.ref C_NoForm)=some false)
  (kt_NoText_NotAhead:PySem.W.kitOne K (.ref C_NoText) (.ref C_NotAhead)=some false)
  (kt_NoText_BadPage:PySem.W.kitOne K (.ref C_NoText) (.ref C_BadPage)=some false)
  (kt_NoText_Twice:PySem.W.kitOne K (.ref C_NoText) (.ref C_Twice)=some false)
  (kt_NoText_Lacking:PySem.W.kitOne K (.ref C_NoText) (.ref C_Lacking)=some false)
  (kt_NoText_ValueError:PySem.W.kitOne K (.ref C_NoText) (.type "ValueError")=some true)
  (nr_NoText_NoForm:PySem.W.mroIn K C_NoText (.ref C_NoForm)=some false)
  (mr_NoText_NoText:PySem.W.mroIn K C_NoText (.ref C_NoText)=some true)
  (mr_NoForm_NoForm:PySem.W.mroIn K C_NoForm (.ref C_NoForm)=some true)
  (a_made_of:PySem.W.nsIn K mainGlobals "made_of"=some (some (.ref f_made_of)))
  (l_made_of:K.lookup f_made_of=some ⟨oc_x23,od_x23,.func (PySem.W.fnOf "made_of" "made_of" (defArgs Jf) (defBody Jf) (defScope Jf) .none kV_x23 dc_x23 pm_x23 an_x23 cd_x23 ct_x23),sl_x23⟩)
  (c_made_of:PySem.W.codeIn K cd_x23 "made_of"=true)
  (k_made_of:PySem.W.keepIn K (.ref f_made_of)=true)
  (a_is_name:PySem.W.nsIn K mainGlobals "is_name"=some (some (.ref f_is_name)))
  (l_is_name:K.lookup f_is_name=some ⟨oc_x24,od_x24,.func (PySem.W.fnOf "is_name" "is_name" (defArgs Jh) (defBody Jh) (defScope Jh) .none kV_x24 dc_x24 pm_x24 an_x24 cd_x24 ct_x24),sl_x24⟩)
  (c_is_name:PySem.W.codeIn K cd_x24 "is_name"=true)
  (k_is_name:PySem.W.keepIn K (.ref f_is_name)=true)
  (a_names_of:PySem.W.nsIn K mainGlobals "names_of"=some (some (.ref f_names_of)))
  (l_names_of:K.lookup f_names_of=some ⟨oc_x25,od_x25,.func (PySem.W.fnOf "names_of" "names_of" (defArgs Wi) (defBody Wi) (defScope Wi) .none kV_x25 dc_x25 pm_x25 an_x25 cd_x25 ct_x25),sl_x25⟩)
  (c_names_of:PySem.W.codeIn K cd_x25 "names_of"=true)
  (k_names_of:PySem.W.keepIn K (.ref f_names_of)=true)
  (a_shown_parts:PySem.W.nsIn K mainGlobals "shown_parts"=some (some (.ref f_shown_parts)))
  (l_shown_parts:K.lookup f_shown_parts=some ⟨oc_x26,od_x26,.func (PySem.W.fnOf "shown_parts" "shown_parts" (defArgs Xs) (defBody Xs) (defScope Xs) .none kV_x26 dc_x26 pm_x26 an_x26 cd_x26 ct_x26),sl_x26⟩)
  (c_shown_parts:PySem.W.codeIn K cd_x26 "shown_parts"=true)
  (k_shown_parts:PySem.W.keepIn K (.ref f_shown_parts)=true)
  (a_number_at:PySem.W.nsIn K mainGlobals "number_at"=some (some (.ref f_number_at)))
  (l_number_at:K.lookup f_number_at=some ⟨oc_x27,od_x27,.func (PySem.W.fnOf "number_at" "number_at" (defArgs Wb) (defBody Wb) (defScope Wb) .none kV_x27 dc_x27 pm_x27 an_x27 cd_x27 ct_x27),sl_x27⟩)
  (c_number_at:PySem.W.codeIn K cd_x27 "number_at"=true)
  (k_number_at:PySem.W.keepIn K (.ref f_number_at)=true)
  (a_span_at:PySem.W.nsIn K mainGlobals "span_at"=some (some (.ref f_span_at)))
  (l_span_at:K.lookup f_span_at=some ⟨oc_x28,od_x28,.func (PySem.W.fnOf "span_at" "span_at" (defArgs Je) (defBody Je) (defScope Je) .none kV_x28 dc_x28 pm_x28 an_x28 cd_x28 ct_x28),sl_x28⟩)
  (c_span_at:PySem.W.codeIn K cd_x28 "span_at"=true)
  (k_span_at:PySem.W.keepIn K (.ref f_span_at)=true)
  (a_letters_at:PySem.W.nsIn K mainGlobals "letters_at"=some (some (.ref f_letters_at)))
  (l_letters_at:K.lookup f_letters_at=some ⟨oc_x29,od_x29,.func (PySem.W.fnOf "letters_at" "letters_at" (defArgs Ym) (defBody Ym) (defScope Ym) .none kV_x29 dc_x29 pm_x29 an_x29 cd_x29 ct_x29),sl_x29⟩)
  (c_letters_at:PySem.W.codeIn K cd_x29 "letters_at"=true)
  (k_letters_at:PySem.W.keepIn K (.ref f_letters_at)=true)
  (a_part_at:PySem.W.nsIn K mainGlobals "part_at"=some (some (.ref f_part_at)))
  (l_part_at:K.lookup f_part_at=some ⟨oc_x30,od_x30,.func (PySem.W.fnOf "part_at" "part_at" (defArgs Wy) (defBody Wy) (defScope Wy) .none kV_x30 dc_x30 pm_x30 an_x30 cd_x30 ct_x30),sl_x30⟩)
  (c_part_at:PySem.W.codeIn K cd_x30 "part_at"=true)
  (k_part_at:PySem.W.keepIn K (.ref f_part_at)=true)
  (a_parts_at:PySem.W.nsIn K mainGlobals "parts_at"=some (some (.ref f_parts_at)))
  (l_parts_at:K.lookup f_parts_at=some ⟨oc_x31,od_x31,.func (PySem.W.fnOf "parts_at" "parts_at" (defArgs Wh) (defBody Wh) (defScope Wh) .none kV_x31 dc_x31 pm_x31 an_x31 cd_x31 ct_x31),sl_x31⟩)
  (c_parts_at:PySem.W.codeIn K cd_x31 "parts_at"=true)
  (k_parts_at:PySem.W.keepIn K (.ref f_parts_at)=true)
  (a_bare_form:PySem.W.nsIn K mainGlobals "bare_form"=some (some (.ref f_bare_form)))
  (l_bare_form:K.lookup f_bare_form=some ⟨oc_x32,od_x32,.func (PySem.W.fnOf "bare_form" "bare_form" (defArgs Wg) (defBody Wg) (defScope Wg) .none kV_x32 dc_x32 pm_x32 an_x32 cd_x32 ct_x32),sl_x32⟩)
  (c_bare_form:PySem.W.codeIn K cd_x32 "bare_form"=true)
  (k_bare_form:PySem.W.keepIn K (.ref f_bare_form)=true)
  (a_bracketed_form_at:PySem.W.nsIn K mainGlobals "bracketed_form_at"=some (some (.ref f_bracketed_form_at)))
  (l_bracketed_form_at:K.lookup f_bracketed_form_at=some ⟨oc_x33,od_x33,.func (PySem.W.fnOf "bracketed_form_at" "bracketed_form_at" (defArgs Xa) (defBody Xa) (defScope Xa) .none kV_x33 dc_x33 pm_x33 an_x33 cd_x33 ct_x33),sl_x33⟩)
  (c_bracketed_form_at:PySem.W.codeIn K cd_x33 "bracketed_form_at"=true)
  (k_bracketed_form_at:PySem.W.keepIn K (.ref f_bracketed_form_at)=true)
  (a_form_at:PySem.W.nsIn K mainGlobals "form_at"=some (some (.ref f_form_at)))
  (l_form_at:K.lookup f_form_at=some ⟨oc_x34,od_x34,.func (PySem.W.fnOf "form_at" "form_at" (defArgs Wq) (defBody Wq) (defScope Wq) .none kV_x34 dc_x34 pm_x34 an_x34 cd_x34 ct_x34),sl_x34⟩)
  (c_form_at:PySem.W.codeIn K cd_x34 "form_at"=true)
  (k_form_at:PySem.W.keepIn K (.ref f_form_at)=true)
  (a_form_of:PySem.W.nsIn K mainGlobals "form_of"=some (some (.ref f_form_of)))
  (l_form_of:K.lookup f_form_of=some ⟨oc_x35,od_x35,.func (PySem.W.fnOf "form_of" "form_of" (defArgs Ji) (defBody Ji) (defScope Ji) .none kV_x35 dc_x35 pm_x35 an_x35 cd_x35 ct_x35),sl_x35⟩)
  (c_form_of:PySem.W.codeIn K cd_x35 "form_of"=true)
  (k_form_of:PySem.W.keepIn K (.ref f_form_of)=true)
  (a_law_cell_at:PySem.W.nsIn K mainGlobals "_law_cell_at"=some (some (.ref f_law_cell_at)))
  (l_law_cell_at:K.lookup f_law_cell_at=some ⟨oc_x36,od_x36,.func (PySem.W.fnOf "_law_cell_at" "_law_cell_at" (defArgs Yb) (defBody Yb) (defScope Yb) .none kV_x36 dc_x36 pm_x36 an_x36 cd_x36 ct_x36),sl_x36⟩)
  (c_law_cell_at:PySem.W.codeIn K cd_x36 "_law_cell_at"=true)
  (k_law_cell_at:PySem.W.keepIn K (.ref f_law_cell_at)=true)
  (a_law_mixed:PySem.W.nsIn K mainGlobals "_law_mixed"=some (some (.ref f_law_mixed)))
  (l_law_mixed:K.lookup f_law_mixed=some ⟨oc_x37,od_x37,.func (PySem.W.fnOf "_law_mixed" "_law_mixed" (defArgs We) (defBody We) (defScope We) .none kV_x37 dc_x37 pm_x37 an_x37 cd_x37 ct_x37),sl_x37⟩)
  (c_law_mixed:PySem.W.codeIn K cd_x37 "_law_mixed"=true)
  (k_law_mixed:PySem.W.keepIn K (.ref f_law_mixed)=true)
  (a_law_numbers_of:PySem.W.nsIn K mainGlobals "_law_numbers_of"=some (some (.ref f_law_numbers_of)))
  (l_law_numbers_of:K.lookup f_law_numbers_of=some ⟨oc_x38,od_x38,.func (PySem.W.fnOf "_law_numbers_of" "_law_numbers_of" (defArgs Xl) (defBody Xl) (defScope Xl) .none kV_x38 dc_x38 pm_x38 an_x38 cd_x38 ct_x38),sl_x38⟩)
  (c_law_numbers_of:PySem.W.codeIn K cd_x38 "_law_numbers_of"=true)
  (k_law_numbers_of:PySem.W.keepIn K (.ref f_law_numbers_of)=true)
  (a_law_names:PySem.W.nsIn K mainGlobals "_law_names"=some (some (.ref f_law_names)))
  (l_law_names:K.lookup f_law_names=some ⟨oc_x39,od_x39,.func (PySem.W.fnOf "_law_names" "_law_names" (defArgs Wd) (defBody Wd) (defScope Wd) .none kV_x39 dc_x39 pm_x39 an_x39 cd_x39 ct_x39),sl_x39⟩)
  (c_law_names:PySem.W.codeIn K cd_x39 "_law_names"=true)
  (k_law_names:PySem.W.keepIn K (.ref f_law_names)=true)
  (a_law_simple:PySem.W.nsIn K mainGlobals "_law_simple"=some (some (.ref f_law_simple)))
  (l_law_simple:K.lookup f_law_simple=some ⟨oc_x40,od_x40,.func (PySem.W.fnOf "_law_simple" "_law_simple" (defArgs Yn) (defBody Yn) (defScope Yn) .none kV_x40 dc_x40 pm_x40 an_x40 cd_x40 ct_x40),sl_x40⟩)
  (c_law_simple:PySem.W.codeIn K cd_x40 "_law_simple"=true)
  (k_law_simple:PySem.W.keepIn K (.ref f_law_simple)=true)
  (a_law_tree:PySem.W.nsIn K mainGlobals "_law_tree"=some (some (.ref f_law_tree)))
  (l_law_tree:K.lookup f_law_tree=some ⟨oc_x41,od_x41,.func (PySem.W.fnOf "_law_tree" "_law_tree" (defArgs Wj) (defBody Wj) (defScope Wj) .none kV_x41 dc_x41 pm_x41 an_x41 cd_x41 ct_x41),sl_x41⟩)
  (c_law_tree:PySem.W.codeIn K cd_x41 "_law_tree"=true)
  (k_law_tree:PySem.W.keepIn K (.ref f_law_tree)=true)
  (a_law_text:PySem.W.nsIn K mainGlobals "_law_text"=some (some (.ref f_law_text)))
  (l_law_text:K.lookup f_law_text=some ⟨oc_x42,od_x42,.func (PySem.W.fnOf "_law_text" "_law_text" (defArgs Wk) (defBody Wk) (defScope Wk) .none kV_x42 dc_x42 pm_x42 an_x42 cd_x42 ct_x42),sl_x42⟩)
  (c_law_text:PySem.W.codeIn K cd_x42 "_law_text"=true)
  (k_law_text:PySem.W.keepIn K (.ref f_law_text)=true)
  (a_law_alone:PySem.W.nsIn K mainGlobals "_law_alone"=some (some (.ref f_law_alone)))
  (l_law_alone:K.lookup f_law_alone=some ⟨oc_x43,od_x43,.func (PySem.W.fnOf "_law_alone" "_law_alone" (defArgs Wf) (defBody Wf) (defScope Wf) .none kV_x43 dc_x43 pm_x43 an_x43 cd_x43 ct_x43),sl_x43⟩)
  (c_law_alone:PySem.W.codeIn K cd_x43 "_law_alone"=true)
  (k_law_alone:PySem.W.keepIn K (.ref f_law_alone)=true)
  (a_law_bent:PySem.W.nsIn K mainGlobals "_law_bent"=some (some (.ref f_law_bent)))
  (l_law_bent:K.lookup f_law_bent=some ⟨oc_x44,od_x44,.func (PySem.W.fnOf "_law_bent" "_law_bent" (defArgs Ww) (defBody Ww) (defScope Ww) .none kV_x44 dc_x44 pm_x44 an_x44 cd_x44 ct_x44),sl_x44⟩)
  (c_law_bent:PySem.W.codeIn K cd_x44 "_law_bent"=true)
  (k_law_bent:PySem.W.keepIn K (.ref f_law_bent)=true)
  (a_law_odd:PySem.W.nsIn K mainGlobals "_law_odd"=some (some (.ref f_law_odd)))
  (l_law_odd:K.lookup f_law_odd=some ⟨oc_x45,od_x45,.func (PySem.W.fnOf "_law_odd" "_law_odd" (defArgs Jg) (defBody Jg) (defScope Jg) .none kV_x45 dc_x45 pm_x45 an_x45 cd_x45 ct_x45),sl_x45⟩)
  (c_law_odd:PySem.W.codeIn K cd_x45 "_law_odd"=true)
  (k_law_odd:PySem.W.keepIn K (.ref f_law_odd)=true)
  (a_law_piece:PySem.W.nsIn K mainGlobals "_law_piece"=some (some (.ref f_law_piece)))
  (l_law_piece:K.lookup f_law_piece=some ⟨oc_x46,od_x46,.func (PySem.W.fnOf "_law_piece" "_law_piece" (defArgs Wc) (defBody Wc) (defScope Wc) .none kV_x46 dc_x46 pm_x46 an_x46 cd_x46 ct_x46),sl_x46⟩)
  (c_law_piece:PySem.W.codeIn K cd_x46 "_law_piece"=true)
  (k_law_piece:PySem.W.keepIn K (.ref f_law_piece)=true)
  (a_law_edge:PySem.W.nsIn K mainGlobals "_law_edge"=some (some (.ref f_law_edge)))
  (l_law_edge:K.lookup f_law_edge=some ⟨oc_x47,od_x47,.func (PySem.W.fnOf "_law_edge" "_law_edge" (defArgs Wv) (defBody Wv) (defScope Wv) .none kV_x47 dc_x47 pm_x47 an_x47 cd_x47 ct_x47),sl_x47⟩)
  (c_law_edge:PySem.W.codeIn K cd_x47 "_law_edge"=true)
  (k_law_edge:PySem.W.keepIn K (.ref f_law_edge)=true)
  (a_law_behind:PySem.W.nsIn K mainGlobals "_law_behind"=some (some (.ref f_law_behind)))
  (l_law_behind:K.lookup f_law_behind=some ⟨oc_x48,od_x48,.func (PySem.W.fnOf "_law_behind" "_law_behind" (defArgs Yo) (defBody Yo) (defScope Yo) .none kV_x48 dc_x48 pm_x48 an_x48 cd_x48 ct_x48),sl_x48⟩)
  (c_law_behind:PySem.W.codeIn K cd_x48 "_law_behind"=true)
  (k_law_behind:PySem.W.keepIn K (.ref f_law_behind)=true)
  (a_law_word_end:PySem.W.nsIn K mainGlobals "_law_word_end"=some (some (.ref f_law_word_end)))
  (l_law_word_end:K.lookup f_law_word_end=some ⟨oc_x49,od_x49,.func (PySem.W.fnOf "_law_word_end" "_law_word_end" (defArgs Xt) (defBody Xt) (defScope Xt) .none kV_x49 dc_x49 pm_x49 an_x49 cd_x49 ct_x49),sl_x49⟩)
  (c_law_word_end:PySem.W.codeIn K cd_x49 "_law_word_end"=true)
  (k_law_word_end:PySem.W.keepIn K (.ref f_law_word_end)=true)
  (a_law_number_end:PySem.W.nsIn K mainGlobals "_law_number_end"=some (some (.ref f_law_number_end)))
  (l_law_number_end:K.lookup f_law_number_end=some ⟨oc_x50,od_x50,.func (PySem.W.fnOf "_law_number_end" "_law_number_end" (defArgs Xm) (defBody Xm) (defScope Xm) .none kV_x50 dc_x50 pm_x50 an_x50 cd_x50 ct_x50),sl_x50⟩)
  (c_law_number_end:PySem.W.codeIn K cd_x50 "_law_number_end"=true)
  (k_law_number_end:PySem.W.keepIn K (.ref f_law_number_end)=true)
  (a_law_span_end:PySem.W.nsIn K mainGlobals "_law_span_end"=some (some (.ref f_law_span_end)))
  (l_law_span_end:K.lookup f_law_span_end=some ⟨oc_x51,od_x51,.func (PySem.W.fnOf "_law_span_end" "_law_span_end" (defArgs Xu) (defBody Xu) (defScope Xu) .none kV_x51 dc_x51 pm_x51 an_x51 cd_x51 ct_x51),sl_x51⟩)
  (c_law_span_end:PySem.W.codeIn K cd_x51 "_law_span_end"=true)
  (k_law_span_end:PySem.W.keepIn K (.ref f_law_span_end)=true)
  (a_law_letters_end:PySem.W.nsIn K mainGlobals "_law_letters_end"=some (some (.ref f_law_letters_end)))
  (l_law_letters_end:K.lookup f_law_letters_end=some ⟨oc_x52,od_x52,.func (PySem.W.fnOf "_law_letters_end" "_law_letters_end" (defArgs Xg) (defBody Xg) (defScope Xg) .none kV_x52 dc_x52 pm_x52 an_x52 cd_x52 ct_x52),sl_x52⟩)
  (c_law_letters_end:PySem.W.codeIn K cd_x52 "_law_letters_end"=true)
  (k_law_letters_end:PySem.W.keepIn K (.ref f_law_letters_end)=true)
  (a_law_parts_end:PySem.W.nsIn K mainGlobals "_law_parts_end"=some (some (.ref f_law_parts_end)))
  (l_law_parts_end:K.lookup f_law_parts_end=some ⟨oc_x53,od_x53,.func (PySem.W.fnOf "_law_parts_end" "_law_parts_end" (defArgs Xj) (defBody Xj) (defScope Xj) .none kV_x53 dc_x53 pm_x53 an_x53 cd_x53 ct_x53),sl_x53⟩)
  (c_law_parts_end:PySem.W.codeIn K cd_x53 "_law_parts_end"=true)
  (k_law_parts_end:PySem.W.keepIn K (.ref f_law_parts_end)=true)
  (a_law_form_end:PySem.W.nsIn K mainGlobals "_law_form_end"=some (some (.ref f_law_form_end)))
  (l_law_form_end:K.lookup f_law_form_end=some ⟨oc_x54,od_x54,.func (PySem.W.fnOf "_law_form_end" "_law_form_end" (defArgs Xi) (defBody Xi) (defScope Xi) .none kV_x54 dc_x54 pm_x54 an_x54 cd_x54 ct_x54),sl_x54⟩)
  (c_law_form_end:PySem.W.codeIn K cd_x54 "_law_form_end"=true)
  (k_law_form_end:PySem.W.keepIn K (.ref f_law_form_end)=true)
  (a_law:PySem.W.nsIn K mainGlobals "law"=some (some (.ref f_law)))
  (l_law:K.lookup f_law=some ⟨oc_x55,od_x55,.func (PySem.W.fnOf "law" "law" (defArgs Zdi) (defBody Zdi) (defScope Zdi) .none kV_x55 dc_x55 pm_x55 an_x55 cd_x55 ct_x55),sl_x55⟩)
  (c_law:PySem.W.codeIn K cd_x55 "law"=true)
  (k_law:PySem.W.keepIn K (.ref f_law)=true)
  (z_len:PySem.W.nsIn K mainGlobals "len"=some none)
  (z_range:PySem.W.nsIn K mainGlobals "range"=some none)
  (z_int:PySem.W.nsIn K mainGlobals "int"=some none)
  (z_str:PySem.W.nsIn K mainGlobals "str"=some none)
  (z_bool:PySem.W.nsIn K mainGlobals "bool"=some none)
  (z_tuple:PySem.W.nsIn K mainGlobals "tuple"=some none)
  (z_isinstance:PySem.W.nsIn K mainGlobals "isinstance"=some none)
  (z_min:PySem.W.nsIn K mainGlobals "min"=some none)
  (z_max:PySem.W.nsIn K mainGlobals "max"=some none)
  (z_list:PySem.W.nsIn K mainGlobals "list"=some none)
  (z_all:PySem.W.nsIn K mainGlobals "all"=some none)
  (z_reversed:PySem.W.nsIn K mainGlobals "reversed"=some none)
  (z_enumerate:PySem.W.nsIn K mainGlobals "enumerate"=some none)
  (z_zip:PySem.W.nsIn K mainGlobals "zip"=some none)
  (z_set:PySem.W.nsIn K mainGlobals "set"=some none)
  (z_ValueError:PySem.W.nsIn K mainGlobals "ValueError"=some none)
  (g0_MOST_SIGNS:PySem.W.nsIn K mainGlobals "MOST_SIGNS"=some (some (.int 60 tk_MOST_SIGNS)))
  (g0_MOST_PARTS:PySem.W.nsIn K mainGlobals "MOST_PARTS"=some (some (.int 20 tk_MOST_PARTS)))
  (g0_LONGEST_NAME:PySem.W.nsIn K mainGlobals "LONGEST_NAME"=some (some (.int 12 tk_LONGEST_NAME)))
  (g0_MOST_FIGURES:PySem.W.nsIn K mainGlobals "MOST_FIGURES"=some (some (.int 58 tk_MOST_FIGURES)))
  (g0_MOST_DEEP:PySem.W.nsIn K mainGlobals "MOST_DEEP"=some (some (.int 8 tk_MOST_DEEP)))
  (g0_SMALL_LETTERS:PySem.W.nsIn K mainGlobals "SMALL_LETTERS"=some (some (.str "abcdefghijklmnopqrstuvwxyz" tk_SMALL_LETTERS)))
  (g0_LETTERS_AND_FIGURES:PySem.W.nsIn K mainGlobals "LETTERS_AND_FIGURES"=some (some (.str "abcdefghijklmnopqrstuvwxyzABCDEFGHIJKLMNOPQRSTUVWXYZ0123456789" tk_LETTERS_AND_FIGURES)))
  (g0_FIGURES:PySem.W.nsIn K mainGlobals "FIGURES"=some (some (.str "0123456789" tk_FIGURES)))
  : ∃ fd:FuncData,(∀ (s:Shared) (v:Value),BindsTo s fd ⟨[v],[]⟩ [("_law_script",v)])∧∀ base:Heap,K.In base→base.Ns mainGlobals mg→FnOk l.prog w K mg base CX0 42 fa fd ["_law_script"] (spLaw K):=by
 have e:=hfa.symm.trans (PySem.W.mg_of X G a_law)
 cases e
 have cl_Nothing:Cls K C_Nothing:=⟨pg_Nothing,hd_Nothing,po_Nothing,sa_Nothing⟩
 have m_Nothing:mg "Nothing"=some (.ref C_Nothing):=PySem.W.mg_of X G aC_Nothing
 have M0_Nothing:Mk0 K C_Nothing:=⟨mk_Nothing,i0_Nothing,kc_Nothing⟩
 have F_Nothing_shown:=Zq (st:=Xy) l_Nothing_shown c_Nothing_shown k_Nothing_shown
 have b_Nothing_shown:=F_Nothing_shown.binds (ps:=["self"]) fun _ _ _ _ _ _ us hl=>by obtain ⟨_,rfl⟩:=ex1 us hl;rfl
 have t_Nothing_shown:Meth K C_Nothing "shown" f_Nothing_shown:=⟨a_Nothing_shown,i_Nothing_shown,k_Nothing_shown⟩
 have cl_Truth:Cls K C_Truth:=⟨pg_Truth,hd_Truth,po_Truth,sa_Truth⟩
 have m_Truth:mg "Truth"=some (.ref C_Truth):=PySem.W.mg_of X G aC_Truth
 have M0_Truth:Mk0 K C_Truth:=⟨mk_Truth,i0_Truth,kc_Truth⟩
 have F_Truth_shown:=Zq (st:=Yr) l_Truth_shown c_Truth_shown k_Truth_shown
 have b_Truth_shown:=F_Truth_shown.binds (ps:=["self"]) fun _ _ _ _ _ _ us hl=>by obtain ⟨_,rfl⟩:=ex1 us hl;rfl
 have t_Truth_shown:Meth K C_Truth "shown" f_Truth_shown:=⟨a_Truth_shown,i_Truth_shown,k_Truth_shown⟩
 have cl_Whole:Cls K C_Whole:=⟨pg_Whole,hd_Whole,po_Whole,sa_Whole⟩
 have m_Whole:mg "Whole"=some (.ref C_Whole):=PySem.W.mg_of X G aC_Whole
 have M0_Whole:Mk0 K C_Whole:=⟨mk_Whole,i0_Whole,kc_Whole⟩
 have F_Whole_shown:=Zq (st:=Yq) l_Whole_shown c_Whole_shown k_Whole_shown
 have b_Whole_shown:=F_Whole_shown.binds (ps:=["self"]) fun _ _ _ _ _ _ us hl=>by obtain ⟨_,rfl⟩:=ex1 us hl;rfl
 have t_Whole_shown:Meth K C_Whole "shown" f_Whole_shown:=⟨a_Whole_shown,i_Whole_shown,k_Whole_shown⟩
 have cl_Fraction:Cls K C_Fraction:=⟨pg_Fraction,hd_Fraction,po_Fraction,sa_Fraction⟩
 have m_Fraction:mg "Fraction"=some (.ref C_Fraction):=PySem.W.mg_of X G aC_Fraction
 have M0_Fraction:Mk0 K C_Fraction:=⟨mk_Fraction,i0_Fraction,kc_Fraction⟩
 have F_Fraction_shown:=Zq (st:=Xr) l_Fraction_shown c_Fraction_shown k_Fraction_shown
 have b_Fraction_shown:=F_Fraction_shown.binds (ps:=["self"]) fun _ _ _ _ _ _ us hl=>by obtain ⟨_,rfl⟩:=ex1 us hl;rfl
 have t_Fraction_shown:Meth K C_Fraction "shown" f_Fraction_shown:=⟨a_Fraction_shown,i_Fraction_shown,k_Fraction_shown⟩
 have cl_Span:Cls K C_Span:=⟨pg_Span,hd_Span,po_Span,sa_Span⟩
 have m_Span:mg "Span"=some (.ref C_Span):=PySem.W.mg_of X G aC_Span
 have F_Span_init:=Zq (st:=Wx) l_Span_init c_Span_init k_Span_init
 have b_Span_init:=F_Span_init.binds (ps:=["self","low","high"]) fun _ _ _ _ _ _ us hl=>by obtain ⟨_,_,_,rfl⟩:=ex3 us hl;rfl
 have K_Span:Mk K C_Span f_Span_init:=⟨mk_Span,a_Span_init,i_Span_init,kc_Span⟩
 have F_Span_shown:=Zq (st:=Wl) l_Span_shown c_Span_shown k_Span_shown
 have b_Span_shown:=F_Span_shown.binds (ps:=["self"]) fun _ _ _ _ _ _ us hl=>by obtain ⟨_,rfl⟩:=ex1 us hl;rfl
 have t_Span_shown:Meth K C_Span "shown" f_Span_shown:=⟨a_Span_shown,i_Span_shown,k_Span_shown⟩
 have cl_Letters:Cls K C_Letters:=⟨pg_Letters,hd_Letters,po_Letters,sa_Letters⟩
 have m_Letters:mg "Letters"=some (.ref C_Letters):=PySem.W.mg_of X G aC_Letters
 have F_Letters_init:=Zq (st:=Yf) l_Letters_init c_Letters_init k_Letters_init
 have b_Letters_init:=F_Letters_init.binds (ps:=["self","signs"]) fun _ _ _ _ _ _ us hl=>by obtain ⟨_,_,rfl⟩:=ex2 us hl;rfl
 have K_Letters:Mk K C_Letters f_Letters_init:=⟨mk_Letters,a_Letters_init,i_Letters_init,kc_Letters⟩
 have F_Letters_shown:=Zq (st:=Xz) l_Letters_shown c_Letters_shown k_Letters_shown
 have b_Letters_shown:=F_Letters_shown.binds (ps:=["self"]) fun _ _ _ _ _ _ us hl=>by obtain ⟨_,rfl⟩:=ex1 us hl;rfl
 have t_Letters_shown:Meth K C_Letters "shown" f_Letters_shown:=⟨a_Letters_shown,i_Letters_shown,k_Letters_shown⟩
 have cl_Maybe:Cls K C_Maybe:=⟨pg_Maybe,hd_Maybe,po_Maybe,sa_Maybe⟩
 have m_Maybe:mg "Maybe"=some (.ref C_Maybe):=PySem.W.mg_of X G aC_Maybe
 have F_Maybe_init:=Zq (st:=Wz) l_Maybe_init c_Maybe_init k_Maybe_init
 have b_Maybe_init:=F_Maybe_init.binds (ps:=["self","inner"]) fun _ _ _ _ _ _ us hl=>by obtain ⟨_,_,rfl⟩:=ex2 us hl;rfl
 have K_Maybe:Mk K C_Maybe f_Maybe_init:=⟨mk_Maybe,a_Maybe_init,i_Maybe_init,kc_Maybe⟩
 have F_Maybe_shown:=Zq (st:=Yt) l_Maybe_shown c_Maybe_shown k_Maybe_shown
 have b_Maybe_shown:=F_Maybe_shown.binds (ps:=["self"]) fun _ _ _ _ _ _ us hl=>by obtain ⟨_,rfl⟩:=ex1 us hl;rfl
 have t_Maybe_shown:Meth K C_Maybe "shown" f_Maybe_shown:=⟨a_Maybe_shown,i_Maybe_shown,k_Maybe_shown⟩
 have cl_Many:Cls K C_Many:=⟨pg_Many,hd_Many,po_Many,sa_Many⟩
 have m_Many:mg "Many"=some (.ref C_Many):=PySem.W.mg_of X G aC_Many
 have F_Many_init:=Zq (st:=Jj) l_Many_init c_Many_init k_Many_init
 have b_Many_init:=F_Many_init.binds (ps:=["self","inner"]) fun _ _ _ _ _ _ us hl=>by obtain ⟨_,_,rfl⟩:=ex2 us hl;rfl
 have K_Many:Mk K C_Many f_Many_init:=⟨mk_Many,a_Many_init,i_Many_init,kc_Many⟩
 have F_Many_shown:=Zq (st:=Wm) l_Many_shown c_Many_shown k_Many_shown
 have b_Many_shown:=F_Many_shown.binds (ps:=["self"]) fun _ _ _ _ _ _ us hl=>by obtain ⟨_,rfl⟩:=ex1 us hl;rfl
 have t_Many_shown:Meth K C_Many "shown" f_Many_shown:=⟨a_Many_shown,i_Many_shown,k_Many_shown⟩
 have cl_Turned:Cls K C_Turned:=⟨pg_Turned,hd_Turned,po_Turned,sa_Turned⟩
 have m_Turned:mg "Turned"=some (.ref C_Turned):=PySem.W.mg_of X G aC_Turned
 have F_Turned_init:=Zq (st:=Wr) l_Turned_init c_Turned_init k_Turned_init
 have b_Turned_init:=F_Turned_init.binds (ps:=["self","inner"]) fun _ _ _ _ _ _ us hl=>by obtain ⟨_,_,rfl⟩:=ex2 us hl;rfl
 have K_Turned:Mk K C_Turned f_Turned_init:=⟨mk_Turned,a_Turned_init,i_Turned_init,kc_Turned⟩
 have F_Turned_shown:=Zq (st:=Yd) l_Turned_shown c_Turned_shown k_Turned_shown
 have b_Turned_shown:=F_Turned_shown.binds (ps:=["self"]) fun _ _ _ _ _ _ us hl=>by obtain ⟨_,rfl⟩:=ex1 us hl;rfl
 have t_Turned_shown:Meth K C_Turned "shown" f_Turned_shown:=⟨a_Turned_shown,i_Turned_shown,k_Turned_shown⟩
 have cl_Record:Cls K C_Record:=⟨pg_Record,hd_Record,po_Record,sa_Record⟩
 have m_Record:mg "Record"=some (.ref C_Record):=PySem.W.mg_of X G aC_Record
 have F_Record_init:=Zq (st:=Ys) l_Record_init c_Record_init k_Record_init
 have b_Record_init:=F_Record_init.binds (ps:=["self","parts"]) fun _ _ _ _ _ _ us hl=>by obtain ⟨_,_,rfl⟩:=ex2 us hl;rfl
 have K_Record:Mk K C_Record f_Record_init:=⟨mk_Record,a_Record_init,i_Record_init,kc_Record⟩
 have F_Record_shown:=Zq (st:=Ye) l_Record_shown c_Record_shown k_Record_shown
 have b_Record_shown:=F_Record_shown.binds (ps:=["self"]) fun _ _ _ _ _ _ us hl=>by obtain ⟨_,rfl⟩:=ex1 us hl;rfl
 have t_Record_shown:Meth K C_Record "shown" f_Record_shown:=⟨a_Record_shown,i_Record_shown,k_Record_shown⟩
 have cl_Choice:Cls K C_Choice:=⟨pg_Choice,hd_Choice,po_Choice,sa_Choice⟩
 have m_Choice:mg "Choice"=some (.ref C_Choice):=PySem.W.mg_of X G aC_Choice
 have F_Choice_init:=Zq (st:=Yu) l_Choice_init c_Choice_init k_Choice_init
 have b_Choice_init:=F_Choice_init.binds (ps:=["self","cases"]) fun _ _ _ _ _ _ us hl=>by obtain ⟨_,_,rfl⟩:=ex2 us hl;rfl
 have K_Choice:Mk K C_Choice f_Choice_init:=⟨mk_Choice,a_Choice_init,i_Choice_init,kc_Choice⟩
 have F_Choice_shown:=Zq (st:=Yg) l_Choice_shown c_Choice_shown k_Choice_shown
 have b_Choice_shown:=F_Choice_shown.binds (ps:=["self"]) fun _ _ _ _ _ _ us hl=>by obtain ⟨_,rfl⟩:=ex1 us hl;rfl
 have t_Choice_shown:Meth K C_Choice "shown" f_Choice_shown:=⟨a_Choice_shown,i_Choice_shown,k_Choice_shown⟩
 have cl_Cursor:Cls K C_Cursor:=⟨pg_Cursor,hd_Cursor,po_Cursor,sa_Cursor⟩
 have m_Cursor:mg "Cursor"=some (.ref C_Cursor):=PySem.W.mg_of X G aC_Cursor
 have F_Cursor_init:=Zq (st:=Wt) l_Cursor_init c_Cursor_init k_Cursor_init
 have b_Cursor_init:=F_Cursor_init.binds (ps:=["self","text"]) fun _ _ _ _ _ _ us hl=>by obtain ⟨_,_,rfl⟩:=ex2 us hl;rfl
 have K_Cursor:Mk K C_Cursor f_Cursor_init:=⟨mk_Cursor,a_Cursor_init,i_Cursor_init,kc_Cursor⟩
 have F_Cursor_ended:=Zq (st:=Yy) l_Cursor_ended c_Cursor_ended k_Cursor_ended
 have b_Cursor_ended:=F_Cursor_ended.binds (ps:=["self"]) fun _ _ _ _ _ _ us hl=>by obtain ⟨_,rfl⟩:=ex1 us hl;rfl
 have t_Cursor_ended:Meth K C_Cursor "ended" f_Cursor_ended:=⟨a_Cursor_ended,i_Cursor_ended,k_Cursor_ended⟩
 have F_Cursor_skip:=Zq (st:=Ws) l_Cursor_skip c_Cursor_skip k_Cursor_skip
 have b_Cursor_skip:=F_Cursor_skip.binds (ps:=["self","words"]) fun _ _ _ _ _ _ us hl=>by obtain ⟨_,_,rfl⟩:=ex2 us hl;rfl
 have t_Cursor_skip:Meth K C_Cursor "skip" f_Cursor_skip:=⟨a_Cursor_skip,i_Cursor_skip,k_Cursor_skip⟩
 have F_Cursor_expect:=Zq (st:=Yl) l_Cursor_expect c_Cursor_expect k_Cursor_expect
 have b_Cursor_expect:=F_Cursor_expect.binds (ps:=["self","words"]) fun _ _ _ _ _ _ us hl=>by obtain ⟨_,_,rfl⟩:=ex2 us hl;rfl
 have t_Cursor_expect:Meth K C_Cursor "expect" f_Cursor_expect:=⟨a_Cursor_expect,i_Cursor_expect,k_Cursor_expect⟩
 have F_Cursor_run_of:=Zq (st:=Yk) l_Cursor_run_of c_Cursor_run_of k_Cursor_run_of
 have b_Cursor_run_of:=F_Cursor_run_of.binds (ps:=["self","signs"]) fun _ _ _ _ _ _ us hl=>by obtain ⟨_,_,rfl⟩:=ex2 us hl;rfl
 have t_Cursor_run_of:Meth K C_Cursor "run_of" f_Cursor_run_of:=⟨a_Cursor_run_of,i_Cursor_run_of,k_Cursor_run_of⟩
 have gm_RiseError:mg "RiseError"=some (.ref C_RiseError):=PySem.W.mg_of X G aC_RiseError
 have gc_RiseError:GlobV mg "RiseError" (.ref C_RiseError):=⟨_,gm_RiseError,rfl⟩
 have gm_NoFit:mg "NoFit"=some (.ref C_NoFit):=PySem.W.mg_of X G aC_NoFit
 have gc_NoFit:GlobV mg "NoFit" (.ref C_NoFit):=⟨_,gm_NoFit,rfl⟩
 have gm_Short:mg "Short"=some (.ref C_Short):=PySem.W.mg_of X G aC_Short
 have gc_Short:GlobV mg "Short" (.ref C_Short):=⟨_,gm_Short,rfl⟩
 have gm_Wrong:mg "Wrong"=some (.ref C_Wrong):=PySem.W.mg_of X G aC_Wrong
 have gc_Wrong:GlobV mg "Wrong" (.ref C_Wrong):=⟨_,gm_Wrong,rfl⟩
 have gm_Left:mg "Left"=some (.ref C_Left):=PySem.W.mg_of X G aC_Left
 have gc_Left:GlobV mg "Left" (.ref C_Left):=⟨_,gm_Left,rfl⟩
 have gm_NoForm:mg "NoForm"=some (.ref C_NoForm):=PySem.W.mg_of X G aC_NoForm
 have gc_NoForm:GlobV mg "NoForm" (.ref C_NoForm):=⟨_,gm_NoForm,rfl⟩
 have gm_NoText:mg "NoText"=some (.ref C_NoText):=PySem.W.mg_of X G aC_NoText
 have gc_NoText:GlobV mg "NoText" (.ref C_NoText):=⟨_,gm_NoText,rfl⟩
 have gm_NotAhead:mg "NotAhead"=some (.ref C_NotAhead):=PySem.W.mg_of X G aC_NotAhead
 have gc_NotAhead:GlobV mg "NotAhead" (.ref C_NotAhead):=⟨_,gm_NotAhead,rfl⟩
 have gm_BadPage:mg "BadPage"=some (.ref C_BadPage):=PySem.W.mg_of X G aC_BadPage
 have gc_BadPage:GlobV mg "BadPage" (.ref C_BadPage):=⟨_,gm_BadPage,rfl⟩
 have gm_Twice:mg "Twice"=some (.ref C_Twice):=PySem.W.mg_of X G aC_Twice
 have gc_Twice:GlobV mg "Twice" (.ref C_Twice):=⟨_,gm_Twice,rfl⟩
 have gm_Lacking:mg "Lacking"=some (.ref C_Lacking):=PySem.W.mg_of X G aC_Lacking
 have gc_Lacking:GlobV mg "Lacking" (.ref C_Lacking):=⟨_,gm_Lacking,rfl⟩
 have xc_RiseError:ExcC K C_RiseError:=⟨xga_RiseError,xgt_RiseError,xcl_RiseError,xob_RiseError,xbe_RiseError,xis_RiseError,xhn_RiseError,xtk_RiseError⟩
 have xc_NoForm:ExcC K C_NoForm:=⟨xga_NoForm,xgt_NoForm,xcl_NoForm,xob_NoForm,xbe_NoForm,xis_NoForm,xhn_NoForm,xtk_NoForm⟩
 have xc_NoText:ExcC K C_NoText:=⟨xga_NoText,xgt_NoText,xcl_NoText,xob_NoText,xbe_NoText,xis_NoText,xhn_NoText,xtk_NoText⟩
 have F_made_of:FunAt K mg "made_of" Jf ["text","signs"] f_made_of _:=⟨Zq (st:=Jf) l_made_of c_made_of k_made_of,(Zq (st:=Jf) l_made_of c_made_of k_made_of).binds (ps:=["text","signs"]) fun _ _ _ _ _ _ us hl=>by obtain ⟨_,_,rfl⟩:=ex2 us hl;rfl,PySem.W.mg_of X G a_made_of⟩
 have F_is_name:FunAt K mg "is_name" Jh ["name"] f_is_name _:=⟨Zq (st:=Jh) l_is_name c_is_name k_is_name,(Zq (st:=Jh) l_is_name c_is_name k_is_name).binds (ps:=["name"]) fun _ _ _ _ _ _ us hl=>by obtain ⟨_,rfl⟩:=ex1 us hl;rfl,PySem.W.mg_of X G a_is_name⟩
 have F_names_of:FunAt K mg "names_of" Wi ["parts"] f_names_of _:=⟨Zq (st:=Wi) l_names_of c_names_of k_names_of,(Zq (st:=Wi) l_names_of c_names_of k_names_of).binds (ps:=["parts"]) fun _ _ _ _ _ _ us hl=>by obtain ⟨_,rfl⟩:=ex1 us hl;rfl,PySem.W.mg_of X G a_names_of⟩
 have F_shown_parts:FunAt K mg "shown_parts" Xs ["names","forms"] f_shown_parts _:=⟨Zq (st:=Xs) l_shown_parts c_shown_parts k_shown_parts,(Zq (st:=Xs) l_shown_parts c_shown_parts k_shown_parts).binds (ps:=["names","forms"]) fun _ _ _ _ _ _ us hl=>by obtain ⟨_,_,rfl⟩:=ex2 us hl;rfl,PySem.W.mg_of X G a_shown_parts⟩
 have F_number_at:FunAt K mg "number_at" Wb ["cursor"] f_number_at _:=⟨Zq (st:=Wb) l_number_at c_number_at k_number_at,(Zq (st:=Wb) l_number_at c_number_at k_number_at).binds (ps:=["cursor"]) fun _ _ _ _ _ _ us hl=>by obtain ⟨_,rfl⟩:=ex1 us hl;rfl,PySem.W.mg_of X G a_number_at⟩
 have F_span_at:FunAt K mg "span_at" Je ["cursor"] f_span_at _:=⟨Zq (st:=Je) l_span_at c_span_at k_span_at,(Zq (st:=Je) l_span_at c_span_at k_span_at).binds (ps:=["cursor"]) fun _ _ _ _ _ _ us hl=>by obtain ⟨_,rfl⟩:=ex1 us hl;rfl,PySem.W.mg_of X G a_span_at⟩
 have F_letters_at:FunAt K mg "letters_at" Ym ["cursor"] f_letters_at _:=⟨Zq (st:=Ym) l_letters_at c_letters_at k_letters_at,(Zq (st:=Ym) l_letters_at c_letters_at k_letters_at).binds (ps:=["cursor"]) fun _ _ _ _ _ _ us hl=>by obtain ⟨_,rfl⟩:=ex1 us hl;rfl,PySem.W.mg_of X G a_letters_at⟩
 have F_part_at:FunAt K mg "part_at" Wy ["cursor","depth"] f_part_at _:=⟨Zq (st:=Wy) l_part_at c_part_at k_part_at,(Zq (st:=Wy) l_part_at c_part_at k_part_at).binds (ps:=["cursor","depth"]) fun _ _ _ _ _ _ us hl=>by obtain ⟨_,_,rfl⟩:=ex2 us hl;rfl,PySem.W.mg_of X G a_part_at⟩
 have F_parts_at:FunAt K mg "parts_at" Wh ["cursor","depth"] f_parts_at _:=⟨Zq (st:=Wh) l_parts_at c_parts_at k_parts_at,(Zq (st:=Wh) l_parts_at c_parts_at k_parts_at).binds (ps:=["cursor","depth"]) fun _ _ _ _ _ _ us hl=>by obtain ⟨_,_,rfl⟩:=ex2 us hl;rfl,PySem.W.mg_of X G a_parts_at⟩
 have F_bare_form:FunAt K mg "bare_form" Wg ["word"] f_bare_form _:=⟨Zq (st:=Wg) l_bare_form c_bare_form k_bare_form,(Zq (st:=Wg) l_bare_form c_bare_form k_bare_form).binds (ps:=["word"]) fun _ _ _ _ _ _ us hl=>by obtain ⟨_,rfl⟩:=ex1 us hl;rfl,PySem.W.mg_of X G a_bare_form⟩
 have F_bracketed_form_at:FunAt K mg "bracketed_form_at" Xa ["cursor","word","depth"] f_bracketed_form_at _:=⟨Zq (st:=Xa) l_bracketed_form_at c_bracketed_form_at k_bracketed_form_at,(Zq (st:=Xa) l_bracketed_form_at c_bracketed_form_at k_bracketed_form_at).binds (ps:=["cursor","word","depth"]) fun _ _ _ _ _ _ us hl=>by obtain ⟨_,_,_,rfl⟩:=ex3 us hl;rfl,PySem.W.mg_of X G a_bracketed_form_at⟩
 have F_form_at:FunAt K mg "form_at" Wq ["cursor","depth"] f_form_at _:=⟨Zq (st:=Wq) l_form_at c_form_at k_form_at,(Zq (st:=Wq) l_form_at c_form_at k_form_at).binds (ps:=["cursor","depth"]) fun _ _ _ _ _ _ us hl=>by obtain ⟨_,_,rfl⟩:=ex2 us hl;rfl,PySem.W.mg_of X G a_form_at⟩
 have F_form_of:FunAt K mg "form_of" Ji ["text"] f_form_of _:=⟨Zq (st:=Ji) l_form_of c_form_of k_form_of,(Zq (st:=Ji) l_form_of c_form_of k_form_of).binds (ps:=["text"]) fun _ _ _ _ _ _ us hl=>by obtain ⟨_,rfl⟩:=ex1 us hl;rfl,PySem.W.mg_of X G a_form_of⟩
 have F_law_cell_at:FunAt K mg "_law_cell_at" Yb ["_law_script","_law_k"] f_law_cell_at _:=⟨Zq (st:=Yb) l_law_cell_at c_law_cell_at k_law_cell_at,(Zq (st:=Yb) l_law_cell_at c_law_cell_at k_law_cell_at).binds (ps:=["_law_script","_law_k"]) fun _ _ _ _ _ _ us hl=>by obtain ⟨_,_,rfl⟩:=ex2 us hl;rfl,PySem.W.mg_of X G a_law_cell_at⟩
 have F_law_mixed:FunAt K mg "_law_mixed" We ["_law_cell","_law_k"] f_law_mixed _:=⟨Zq (st:=We) l_law_mixed c_law_mixed k_law_mixed,(Zq (st:=We) l_law_mixed c_law_mixed k_law_mixed).binds (ps:=["_law_cell","_law_k"]) fun _ _ _ _ _ _ us hl=>by obtain ⟨_,_,rfl⟩:=ex2 us hl;rfl,PySem.W.mg_of X G a_law_mixed⟩
 have F_law_numbers_of:FunAt K mg "_law_numbers_of" Xl ["_law_script","_law_many","_law_salt"] f_law_numbers_of _:=⟨Zq (st:=Xl) l_law_numbers_of c_law_numbers_of k_law_numbers_of,(Zq (st:=Xl) l_law_numbers_of c_law_numbers_of k_law_numbers_of).binds (ps:=["_law_script","_law_many","_law_salt"]) fun _ _ _ _ _ _ us hl=>by obtain ⟨_,_,_,rfl⟩:=ex3 us hl;rfl,PySem.W.mg_of X G a_law_numbers_of⟩
 have F_law_names:FunAt K mg "_law_names" Wd ["_law_number","_law_many"] f_law_names _:=⟨Zq (st:=Wd) l_law_names c_law_names k_law_names,(Zq (st:=Wd) l_law_names c_law_names k_law_names).binds (ps:=["_law_number","_law_many"]) fun _ _ _ _ _ _ us hl=>by obtain ⟨_,_,rfl⟩:=ex2 us hl;rfl,PySem.W.mg_of X G a_law_names⟩
 have F_law_simple:FunAt K mg "_law_simple" Yn ["_law_word","_law_number","_law_last"] f_law_simple _:=⟨Zq (st:=Yn) l_law_simple c_law_simple k_law_simple,(Zq (st:=Yn) l_law_simple c_law_simple k_law_simple).binds (ps:=["_law_word","_law_number","_law_last"]) fun _ _ _ _ _ _ us hl=>by obtain ⟨_,_,_,rfl⟩:=ex3 us hl;rfl,PySem.W.mg_of X G a_law_simple⟩
 have F_law_tree:FunAt K mg "_law_tree" Wj ["_law_left","_law_deep"] f_law_tree _:=⟨Zq (st:=Wj) l_law_tree c_law_tree k_law_tree,(Zq (st:=Wj) l_law_tree c_law_tree k_law_tree).binds (ps:=["_law_left","_law_deep"]) fun _ _ _ _ _ _ us hl=>by obtain ⟨_,_,rfl⟩:=ex2 us hl;rfl,PySem.W.mg_of X G a_law_tree⟩
 have F_law_text:FunAt K mg "_law_text" Wk ["_law_tree_here"] f_law_text _:=⟨Zq (st:=Wk) l_law_text c_law_text k_law_text,(Zq (st:=Wk) l_law_text c_law_text k_law_text).binds (ps:=["_law_tree_here"]) fun _ _ _ _ _ _ us hl=>by obtain ⟨_,rfl⟩:=ex1 us hl;rfl,PySem.W.mg_of X G a_law_text⟩
 have F_law_alone:FunAt K mg "_law_alone" Wf ["_law_error"] f_law_alone _:=⟨Zq (st:=Wf) l_law_alone c_law_alone k_law_alone,(Zq (st:=Wf) l_law_alone c_law_alone k_law_alone).binds (ps:=["_law_error"]) fun _ _ _ _ _ _ us hl=>by obtain ⟨_,rfl⟩:=ex1 us hl;rfl,PySem.W.mg_of X G a_law_alone⟩
 have F_law_bent:FunAt K mg "_law_bent" Ww ["_law_script","_law_text_here","_law_number"] f_law_bent _:=⟨Zq (st:=Ww) l_law_bent c_law_bent k_law_bent,(Zq (st:=Ww) l_law_bent c_law_bent k_law_bent).binds (ps:=["_law_script","_law_text_here","_law_number"]) fun _ _ _ _ _ _ us hl=>by obtain ⟨_,_,_,rfl⟩:=ex3 us hl;rfl,PySem.W.mg_of X G a_law_bent⟩
 have F_law_odd:FunAt K mg "_law_odd" Jg ["_law_number"] f_law_odd _:=⟨Zq (st:=Jg) l_law_odd c_law_odd k_law_odd,(Zq (st:=Jg) l_law_odd c_law_odd k_law_odd).binds (ps:=["_law_number"]) fun _ _ _ _ _ _ us hl=>by obtain ⟨_,rfl⟩:=ex1 us hl;rfl,PySem.W.mg_of X G a_law_odd⟩
 have F_law_piece:FunAt K mg "_law_piece" Wc ["_law_script","_law_text_here"] f_law_piece _:=⟨Zq (st:=Wc) l_law_piece c_law_piece k_law_piece,(Zq (st:=Wc) l_law_piece c_law_piece k_law_piece).binds (ps:=["_law_script","_law_text_here"]) fun _ _ _ _ _ _ us hl=>by obtain ⟨_,_,rfl⟩:=ex2 us hl;rfl,PySem.W.mg_of X G a_law_piece⟩
 have F_law_edge:FunAt K mg "_law_edge" Wv ["_law_way","_law_number"] f_law_edge _:=⟨Zq (st:=Wv) l_law_edge c_law_edge k_law_edge,(Zq (st:=Wv) l_law_edge c_law_edge k_law_edge).binds (ps:=["_law_way","_law_number"]) fun _ _ _ _ _ _ us hl=>by obtain ⟨_,_,rfl⟩:=ex2 us hl;rfl,PySem.W.mg_of X G a_law_edge⟩
 have F_law_behind:FunAt K mg "_law_behind" Yo ["_law_text_here","_law_at","_law_part"] f_law_behind _:=⟨Zq (st:=Yo) l_law_behind c_law_behind k_law_behind,(Zq (st:=Yo) l_law_behind c_law_behind k_law_behind).binds (ps:=["_law_text_here","_law_at","_law_part"]) fun _ _ _ _ _ _ us hl=>by obtain ⟨_,_,_,rfl⟩:=ex3 us hl;rfl,PySem.W.mg_of X G a_law_behind⟩
 have F_law_word_end:FunAt K mg "_law_word_end" Xt ["_law_text_here","_law_at"] f_law_word_end _:=⟨Zq (st:=Xt) l_law_word_end c_law_word_end k_law_word_end,(Zq (st:=Xt) l_law_word_end c_law_word_end k_law_word_end).binds (ps:=["_law_text_here","_law_at"]) fun _ _ _ _ _ _ us hl=>by obtain ⟨_,_,rfl⟩:=ex2 us hl;rfl,PySem.W.mg_of X G a_law_word_end⟩
 have F_law_number_end:FunAt K mg "_law_number_end" Xm ["_law_text_here","_law_at"] f_law_number_end _:=⟨Zq (st:=Xm) l_law_number_end c_law_number_end k_law_number_end,(Zq (st:=Xm) l_law_number_end c_law_number_end k_law_number_end).binds (ps:=["_law_text_here","_law_at"]) fun _ _ _ _ _ _ us hl=>by obtain ⟨_,_,rfl⟩:=ex2 us hl;rfl,PySem.W.mg_of X G a_law_number_end⟩
 have F_law_span_end:FunAt K mg "_law_span_end" Xu ["_law_text_here","_law_at"] f_law_span_end _:=⟨Zq (st:=Xu) l_law_span_end c_law_span_end k_law_span_end,(Zq (st:=Xu) l_law_span_end c_law_span_end k_law_span_end).binds (ps:=["_law_text_here","_law_at"]) fun _ _ _ _ _ _ us hl=>by obtain ⟨_,_,rfl⟩:=ex2 us hl;rfl,PySem.W.mg_of X G a_law_span_end⟩
 have F_law_letters_end:FunAt K mg "_law_letters_end" Xg ["_law_text_here","_law_at"] f_law_letters_end _:=⟨Zq (st:=Xg) l_law_letters_end c_law_letters_end k_law_letters_end,(Zq (st:=Xg) l_law_letters_end c_law_letters_end k_law_letters_end).binds (ps:=["_law_text_here","_law_at"]) fun _ _ _ _ _ _ us hl=>by obtain ⟨_,_,rfl⟩:=ex2 us hl;rfl,PySem.W.mg_of X G a_law_letters_end⟩
 have F_law_parts_end:FunAt K mg "_law_parts_end" Xj ["_law_text_here","_law_at","_law_deep"] f_law_parts_end _:=⟨Zq (st:=Xj) l_law_parts_end c_law_parts_end k_law_parts_end,(Zq (st:=Xj) l_law_parts_end c_law_parts_end k_law_parts_end).binds (ps:=["_law_text_here","_law_at","_law_deep"]) fun _ _ _ _ _ _ us hl=>by obtain ⟨_,_,_,rfl⟩:=ex3 us hl;rfl,PySem.W.mg_of X G a_law_parts_end⟩
 have F_law_form_end:FunAt K mg "_law_form_end" Xi ["_law_text_here","_law_at","_law_deep"] f_law_form_end _:=⟨Zq (st:=Xi) l_law_form_end c_law_form_end k_law_form_end,(Zq (st:=Xi) l_law_form_end c_law_form_end k_law_form_end).binds (ps:=["_law_text_here","_law_at","_law_deep"]) fun _ _ _ _ _ _ us hl=>by obtain ⟨_,_,_,rfl⟩:=ex3 us hl;rfl,PySem.W.mg_of X G a_law_form_end⟩
 have F_law:=Zq (st:=Zdi) l_law c_law k_law
 have nb:NB mg:=⟨PySem.W.mg_none_of X G z_len,PySem.W.mg_none_of X G z_range,PySem.W.mg_none_of X G z_int,PySem.W.mg_none_of X G z_str,PySem.W.mg_none_of X G z_bool,PySem.W.mg_none_of X G z_tuple,PySem.W.mg_none_of X G z_isinstance,PySem.W.mg_none_of X G z_min,PySem.W.mg_none_of X G z_max,PySem.W.mg_none_of X G z_list,PySem.W.mg_none_of X G z_all,PySem.W.mg_none_of X G z_reversed,PySem.W.mg_none_of X G z_enumerate,PySem.W.mg_none_of X G z_zip,PySem.W.mg_none_of X G z_set⟩
 have nbV:=PySem.W.mg_none_of X G z_ValueError
 have g_MOST_SIGNS:GlobV mg "MOST_SIGNS" (.int 60):=⟨_,PySem.W.mg_of X G g0_MOST_SIGNS,⟨_,rfl⟩⟩
 have g_MOST_PARTS:GlobV mg "MOST_PARTS" (.int 20):=⟨_,PySem.W.mg_of X G g0_MOST_PARTS,⟨_,rfl⟩⟩
 have g_LONGEST_NAME:GlobV mg "LONGEST_NAME" (.int 12):=⟨_,PySem.W.mg_of X G g0_LONGEST_NAME,⟨_,rfl⟩⟩
 have g_MOST_FIGURES:GlobV mg "MOST_FIGURES" (.int 58):=⟨_,PySem.W.mg_of X G g0_MOST_FIGURES,⟨_,rfl⟩⟩
 have g_MOST_DEEP:GlobV mg "MOST_DEEP" (.int 8):=⟨_,PySem.W.mg_of X G g0_MOST_DEEP,⟨_,rfl⟩⟩
 have g_SMALL_LETTERS:GlobV mg "SMALL_LETTERS" (.str L26):=⟨_,PySem.W.mg_of X G g0_SMALL_LETTERS,⟨_,rfl⟩⟩
 have g_LETTERS_AND_FIGURES:GlobV mg "LETTERS_AND_FIGURES" (.str L62):=⟨_,PySem.W.mg_of X G g0_LETTERS_AND_FIGURES,⟨_,rfl⟩⟩
 have g_FIGURES:GlobV mg "FIGURES" (.str FIG):=⟨_,PySem.W.mg_of X G g0_FIGURES,⟨_,rfl⟩⟩
 refine ⟨PySem.W.fnOf "law" "law" (defArgs Zdi) (defBody Zdi) (defScope Zdi) .none kV_x55 dc_x55 pm_x55 an_x55 cd_x55 ct_x55,fun s v => .of_eq rfl,fun base _ _=>?_⟩
 have D_made_of:=Xac (P:=l.prog) (w:=w) (base:=base) nb F_made_of
 have D_is_name:=Xae nb g_LONGEST_NAME g_SMALL_LETTERS F_is_name D_made_of
 have D_names_of:=Zwf nb g_MOST_PARTS F_names_of D_is_name
 have DB_names_of:=Zud nb xi_NoForm gm_NoForm g_MOST_PARTS F_names_of D_is_name
 have TS:SpanCls K C_Span:=⟨cl_Span,n_Span_low,n_Span_high⟩
 have TL:LetCls K C_Letters:=⟨cl_Letters,n_Letters_signs⟩
 have TR:TwoCls K C_Record:=⟨cl_Record,n_Record_names,n_Record_forms⟩
 have TC:TwoCls K C_Choice:=⟨cl_Choice,n_Choice_names,n_Choice_forms⟩
 have TM:OneCls K C_Maybe:=⟨cl_Maybe,n_Maybe_inner⟩
 have TY:OneCls K C_Many:=⟨cl_Many,n_Many_inner⟩
 have TT:OneCls K C_Turned:=⟨cl_Turned,n_Turned_inner⟩
 have TU:CurCls K C_Cursor:=⟨cl_Cursor,n_Cursor_text,n_Cursor_place⟩
 have M_Span:MakeOk l.prog w K mg base 1 "Span" C_Span ["self","low","high"] (spSpanInit C_Span):=⟨_,_,K_Span,Zta TS F_Span_init,b_Span_init,m_Span⟩
 have M_Letters:MakeOk l.prog w K mg base 2 "Letters" C_Letters ["self","signs"] (spLetInit C_Letters):=⟨_,_,K_Letters,Zwg nb g_MOST_SIGNS g_LETTERS_AND_FIGURES TL F_Letters_init D_made_of,b_Letters_init,m_Letters⟩
 have M_Record:MakeOk l.prog w K mg base 4 "Record" C_Record ["self","parts"] (spTwoInit C_Record):=⟨_,_,K_Record,Zwd nb TR F_Record_init D_names_of,b_Record_init,m_Record⟩
 have M_Choice:MakeOk l.prog w K mg base 4 "Choice" C_Choice ["self","cases"] (spTwoInit C_Choice):=⟨_,_,K_Choice,Zxb nb TC F_Choice_init D_names_of,b_Choice_init,m_Choice⟩
 have MB_Span:MakeOkE l.prog w K mg base 1 "Span" C_Span ["self","low","high"] (spSpanBad C_NoForm C_Span):=⟨_,_,K_Span,Zpd xi_NoForm gm_NoForm TS F_Span_init,b_Span_init,m_Span⟩
 have MB_Letters:MakeOkE l.prog w K mg base 2 "Letters" C_Letters ["self","signs"] (spLetBad C_NoForm C_Letters):=⟨_,_,K_Letters,Zue nb xi_NoForm gm_NoForm g_MOST_SIGNS g_LETTERS_AND_FIGURES TL F_Letters_init D_made_of,b_Letters_init,m_Letters⟩
 have MB_Record:MakeOkE l.prog w K mg base 4 "Record" C_Record ["self","parts"] (spTwoBad C_NoForm C_Record):=⟨_,_,K_Record,Zuc nb TR F_Record_init DB_names_of,b_Record_init,m_Record⟩
 have MB_Choice:MakeOkE l.prog w K mg base 4 "Choice" C_Choice ["self","cases"] (spTwoBad C_NoForm C_Choice):=⟨_,_,K_Choice,Zuf nb TC F_Choice_init DB_names_of,b_Choice_init,m_Choice⟩
 have M_Maybe:MakeOk l.prog w K mg base 1 "Maybe" C_Maybe ["self","inner"] (spOneInit C_Maybe):=⟨_,_,K_Maybe,Zob TM F_Maybe_init,b_Maybe_init,m_Maybe⟩
 have M_Many:MakeOk l.prog w K mg base 1 "Many" C_Many ["self","inner"] (spOneInit C_Many):=⟨_,_,K_Many,Ztc TY F_Many_init,b_Many_init,m_Many⟩
 have M_Turned:MakeOk l.prog w K mg base 1 "Turned" C_Turned ["self","inner"] (spOneInit C_Turned):=⟨_,_,K_Turned,Zkh TT F_Turned_init,b_Turned_init,m_Turned⟩
 have M_Cursor:MakeOk l.prog w K mg base 1 "Cursor" C_Cursor ["self","text"] (spCurInit C_Cursor):=⟨_,_,K_Cursor,Zxa TU F_Cursor_init,b_Cursor_init,m_Cursor⟩
 have M_ended:MethOk l.prog w K mg base 1 C_Cursor "ended" ["self"] (spEnded C_Cursor):=⟨_,_,Xif nb TU F_Cursor_ended,b_Cursor_ended,t_Cursor_ended⟩
 have M_skip:MethOk l.prog w K mg base 1 C_Cursor "skip" ["self","words"] (spSkip2 C_Cursor):=skip2 ⟨_,_,Xmf nb TU F_Cursor_skip,b_Cursor_skip,t_Cursor_skip⟩
 have MB_expect:MethOkE l.prog w K mg base 2 C_Cursor "expect" ["self","words"] (spExp2 C_Cursor C_NoText):=⟨_,_,Xaf xi_NoText gm_NoText F_Cursor_expect cl_Cursor M_skip,b_Cursor_expect,t_Cursor_expect⟩
 have M_run_of:MethOk l.prog w K mg base 2 C_Cursor "run_of" ["self","signs"] (spRun2 C_Cursor):=run2 ⟨_,_,Xea TU F_Cursor_run_of cl_Cursor M_ended,b_Cursor_run_of,t_Cursor_run_of⟩
 obtain ⟨c,hc⟩:∃ c:FC,c=⟨fun k=>[C_Nothing,C_Truth,C_Whole,C_Fraction][k],C_Span,C_Letters,fun k=>[C_Maybe,C_Many,C_Turned][k],fun k=>[C_Record,C_Choice][k]⟩:=⟨_,rfl⟩
 have ec_Nothing:c.b 0=C_Nothing:=by rw [hc];rfl
 have ec_Truth:c.b 1=C_Truth:=by rw [hc];rfl
 have ec_Whole:c.b 2=C_Whole:=by rw [hc];rfl
 have ec_Fraction:c.b 3=C_Fraction:=by rw [hc];rfl
 have ec_Span:c.s=C_Span:=by rw [hc]
 have ec_Letters:c.l=C_Letters:=by rw [hc]
 have ec_Maybe:c.o 0=C_Maybe:=by rw [hc];rfl
 have ec_Many:c.o 1=C_Many:=by rw [hc];rfl
 have ec_Turned:c.o 2=C_Turned:=by rw [hc];rfl
 have ec_Record:c.t 0=C_Record:=by rw [hc];rfl
 have ec_Choice:c.t 1=C_Choice:=by rw [hc];rfl
 clear hc
 subst ec_Nothing
 subst ec_Truth
 subst ec_Whole
 subst ec_Fraction
 subst ec_Span
 subst ec_Letters
 subst ec_Maybe
 subst ec_Many
 subst ec_Turned
 subst ec_Record
 subst ec_Choice
 have SH:Shs K c:=⟨⟨⟨_,_,F_Nothing_shown,b_Nothing_shown,t_Nothing_shown⟩,cl_Nothing⟩,⟨⟨_,_,F_Truth_shown,b_Truth_shown,t_Truth_shown⟩,cl_Truth⟩,⟨⟨_,_,F_Whole_shown,b_Whole_shown,t_Whole_shown⟩,cl_Whole⟩,⟨⟨_,_,F_Fraction_shown,b_Fraction_shown,t_Fraction_shown⟩,cl_Fraction⟩,⟨⟨_,_,F_Span_shown,b_Span_shown,t_Span_shown⟩,cl_Span⟩,⟨⟨_,_,F_Letters_shown,b_Letters_shown,t_Letters_shown⟩,cl_Letters⟩,⟨⟨_,_,F_Maybe_shown,b_Maybe_shown,t_Maybe_shown⟩,cl_Maybe⟩,⟨⟨_,_,F_Many_shown,b_Many_shown,t_Many_shown⟩,cl_Many⟩,⟨⟨_,_,F_Turned_shown,b_Turned_shown,t_Turned_shown⟩,cl_Turned⟩,⟨⟨_,_,F_Record_shown,b_Record_shown,t_Record_shown⟩,cl_Record⟩,⟨⟨_,_,F_Choice_shown,b_Choice_shown,t_Choice_shown⟩,cl_Choice⟩,TS,TL,(fun k=>by rcases fin3 k with rfl | rfl | rfl<;>first | exact TM | exact TY | exact TT),(fun k=>by rcases fin2 k with rfl | rfl<;>first | exact TR | exact TC)⟩
 have AM_shown:=Zrj (P:=l.prog) (w:=w) (base:=base) nb SH F_shown_parts 8
 have DB_number_at:=Zoa (NF:=C_NoForm) nb xi_NoText gm_NoText cl_Cursor g_FIGURES g_MOST_FIGURES F_number_at M_skip M_run_of
 have DB_span_at:=Zwc cl_Cursor F_span_at MB_expect DB_number_at M_Span MB_Span
 have DB_letters_at:=Zki (NT:=C_NoText) cl_Cursor g_LETTERS_AND_FIGURES F_letters_at M_run_of M_Letters MB_Letters
 have D_bare_form:=Zoe (P:=l.prog) (w:=w) (base:=base) F_bare_form M0_Nothing m_Nothing M0_Truth m_Truth M0_Whole m_Whole M0_Fraction m_Fraction
 have DB_form_at:=Zfb xi_NoText gm_NoText cl_Cursor g_SMALL_LETTERS g_MOST_DEEP F_form_at F_part_at F_parts_at F_bracketed_form_at M_skip M_run_of MB_expect D_bare_form DB_span_at DB_letters_at M_Record MB_Record M_Choice MB_Choice M_Maybe M_Many M_Turned 8
 have DB_form_of:=Zwj gm_NoForm xc_NoForm xt_NoForm nr_NoText_NoForm mr_NoForm_NoForm xi_NoText gm_NoText xc_NoText xt_NoText cl_Cursor F_form_of M_Cursor M_ended DB_form_at
 have D_law_cell_at:=Zla (P:=l.prog) (w:=w) (base:=base) nb F_law_cell_at
 have D_law_mixed:=Zte (P:=l.prog) (w:=w) (base:=base) F_law_mixed
 have D_law_numbers_of:=Zec nb F_law_numbers_of D_law_cell_at D_law_mixed
 have D_law_names:=Zkj (P:=l.prog) (w:=w) (base:=base) nb F_law_names
 have D_law_simple:=Zhj (P:=l.prog) (w:=w) (base:=base) nb F_law_simple
 have D_law_tree:=Zei nb F_law_tree D_law_simple D_law_names 8
 have D_law_text:=Zej (P:=l.prog) (w:=w) (base:=base) nb F_law_text 8
 have D_law_odd:=Xad (P:=l.prog) (w:=w) (base:=base) F_law_odd
 have D_law_edge:=Zwh nb F_law_edge D_law_odd
 have D_law_bent:=Zwi nb F_law_bent D_law_cell_at D_law_mixed
 have D_law_piece:=Ztd nb F_law_piece D_law_cell_at D_law_mixed
 have D_law_behind:=Zoc (P:=l.prog) (w:=w) (base:=base) nb F_law_behind
 have D_law_word_end:=Zhh (P:=l.prog) (w:=w) (base:=base) nb F_law_word_end
 have D_law_number_end:=Zed (P:=l.prog) (w:=w) (base:=base) nb F_law_number_end
 have D_law_span_end:=Zhi nb F_law_span_end D_law_number_end D_law_behind
 have D_law_letters_end:=Zci nb F_law_letters_end D_law_behind
 have D_law_form_end:=Zfa nb F_law_form_end F_law_parts_end D_law_behind D_law_word_end D_law_span_end D_law_letters_end 8
 have NM:Nms mg ⟨C_NoFit,C_Short,C_Wrong,C_Left,C_NoForm,C_NoText,C_NotAhead,C_BadPage,C_Twice,C_Lacking⟩:=⟨gc_NoFit,gc_Short,gc_Wrong,gc_Left,gc_NoForm,gc_NoText,gc_NotAhead,gc_BadPage,gc_Twice,gc_Lacking⟩
 have kS:Kits K ⟨C_NoFit,C_Short,C_Wrong,C_Left,C_NoForm,C_NoText,C_NotAhead,C_BadPage,C_Twice,C_Lacking⟩ C_NoText [false,false,false,false,false,true,false,false,false,false,true] :=
  ⟨xc_NoText,_,_,_,_,_,_,_,_,_,_,rfl,kt_NoText_NoFit,kt_NoText_Short,kt_NoText_Wrong,kt_NoText_Left,kt_NoText_NoForm,Zxf ..,kt_NoText_NotAhead,kt_NoText_BadPage,kt_NoText_Twice,kt_NoText_Lacking,kt_NoText_ValueError⟩
 have D_law_alone:=Ztf (P:=l.prog) (w:=w) (base:=base) nb nbV NM gc_RiseError F_law_alone
 exact Xph gm_NoText xc_NoText xt_NoText mr_NoText_NoText kS rfl kt_NoText_RiseError nb F_law D_law_cell_at D_law_mixed D_law_numbers_of D_law_tree D_law_text D_law_edge D_law_bent D_law_piece DB_form_of D_law_form_end D_law_alone AM_shown
theorem walk {l:PySem.W.OpenLaw} {q:Program} {loose:List Str} {XP:(Str→Option Value)→Heap→Prop} {YP:World→Heap→Prop} {d:DefRec} {K:Params→PySem.W.Frag} (hn:l.most=some 63) (hdf:d.params.defaults=[])
  (hY:∀ (w:World) (h:Heap),YP w h→(K w.params).In h)
  (F:∀ (w:World) (mg:Str→Option Value) (fa:Addr) (h:Heap),(K w.params).In h→h.Ns mainGlobals mg→mg d.name=some (.ref fa)→
   ∃ fd:FuncData,(∀ (s:Shared) (u:Value),BindsTo s fd ⟨[u],[]⟩ [("_law_script",u)])∧∀ base:Heap,(K w.params).In base→base.Ns mainGlobals mg→FnOk l.prog w (K w.params) mg base CX0 42 fa fd ["_law_script"] (spLaw (K w.params))) :
  PySem.W.WalkO q loose XP YP l.row.toRowW d [] (fun f vs=>PySem.call f vs) :=
 L2.Xkj (n:=63) (k:=42) (x:="_law_script") (CX:=fun _=>CX0) (sp:=fun w=>spLaw (K w.params)) hn (by decide) hdf ⟨rfl,by decide,by decide⟩ hY F (fun _ _ a ns hl _ hS=>⟨a,ns,rfl,hS,hl,fun _=>rfl⟩) fun _ _ _ _ _ z=>z
end
end KR
open PySem PySem.W PyProof.Rows
set_option maxRecDepth 100000 in
set_option maxHeartbeats 0 in
theorem PySem.Challenge.cw_keyrise_k32_refused_texts_holds : PySem.Challenge.rw_keyrise_k32_refused_texts.Holds := by
 refine KR.GG.2 ?_
 delta KR.GG
 dsimp only
 k_fill
 refine KR.walk (l:=PySem.Challenge.rw_keyrise_k32_refused_texts) rfl rfl (fun w h Y=>PySem.W.kIn_of Y) ?F
 case F =>
  intro w mg fa h KX G hmg
  refine' KR.Xqi KX G hmg ?a0 ?a1 ?a2 ?a3 ?a4 ?a5 ?a6 ?a7 ?a8 ?a9 ?a10 ?a11 ?a12 ?a13 ?a14 ?a15 ?a16 ?a17 ?a18 ?a19 ?a20 ?a21 ?a22 ?a23 ?a24 ?a25 ?a26 ?a27 ?a28 ?a29 ?a30 ?a31 ?a32 ?a33 ?a34 ?a35 ?a36 ?a37 ?a38 ?a39 ?a40 ?a41 ?a42 ?a43 ?a44 ?a45 ?a46 ?a47 ?a48 ?a49 ?a50 ?a51 ?a52 ?a53 ?a54 ?a55 ?a56 ?a57 ?a58 ?a59 ?a60 ?a61 ?a62 ?a63 ?a64 ?a65 ?a66 ?a67 ?a68 ?a69 ?a70 ?a71 ?a72 ?a73 ?a74 ?a75 ?a76 ?a77 ?a78 ?a79 ?a80 ?a81 ?a82 ?a83 ?a84 ?a85 ?a86 ?a87 ?a88 ?a89 ?a90 ?a91 ?a92 ?a93 ?a94 ?a95 ?a96 ?a97 ?a98 ?a99 ?a100 ?a101 ?a102 ?a103 ?a104 ?a105 ?a106 ?a107 ?a108 ?a109 ?a110 ?a111 ?a112 ?a113 ?a114 ?a115 ?a116 ?a117 ?a118 ?a119 ?a120 ?a121 ?a122 ?a123 ?a124 ?a125 ?a126 ?a127 ?a128 ?a129 ?a130 ?a131 ?a132 ?a133 ?a134 ?a135 ?a136 ?a137 ?a138 ?a139 ?a140 ?a141 ?a142 ?a143 ?a144 ?a145 ?a146 ?a147 ?a148 ?a149 ?a150 ?a151 ?a152 ?a153 ?a154 ?a155 ?a156 ?a157 ?a158 ?a159 ?a160 ?a161 ?a162 ?a163 ?a164 ?a165 ?a166 ?a167 ?a168 ?a169 ?a170 ?a171 ?a172 ?a173 ?a174 ?a175 ?a176 ?a177 ?a178 ?a179 ?a180 ?a181 ?a182 ?a183 ?a184 ?a185 ?a186 ?a187 ?a188 ?a189 ?a190 ?a191 ?a192 ?a193 ?a194 ?a195 ?a196 ?a197 ?a198 ?a199 ?a200 ?a201 ?a202 ?a203 ?a204 ?a205 ?a206 ?a207 ?a208 ?a209 ?a210 ?a211 ?a212 ?a213 ?a214 ?a215 ?a216 ?a217 ?a218 ?a219 ?a220 ?a221 ?a222 ?a223 ?a224 ?a225 ?a226 ?a227 ?a228 ?a229 ?a230 ?a231 ?a232 ?a233 ?a234 ?a235 ?a236 ?a237 ?a238 ?a239 ?a240 ?a241 ?a242 ?a243 ?a244 ?a245 ?a246 ?a247 ?a248 ?a249 ?a250 ?a251 ?a252 ?a253 ?a254 ?a255 ?a256 ?a257 ?a258 ?a259 ?a260 ?a261 ?a262 ?a263 ?a264 ?a265 ?a266 ?a267 ?a268 ?a269 ?a270 ?a271 ?a272 ?a273 ?a274 ?a275 ?a276 ?a277 ?a278 ?a279 ?a280 ?a281 ?a282 ?a283 ?a284 ?a285 ?a286 ?a287 ?a288 ?a289 ?a290 ?a291 ?a292 ?a293 ?a294 ?a295 ?a296 ?a297 ?a298 ?a299 ?a300 ?a301 ?a302 ?a303 ?a304 ?a305 ?a306 ?a307 ?a308 ?a309 ?a310 ?a311 ?a312 ?a313 ?a314 ?a315 ?a316 ?a317 ?a318 ?a319 ?a320 ?a321 ?a322 ?a323 ?a324 ?a325 ?a326 ?a327 ?a328 ?a329 ?a330 ?a331 ?a332 ?a333 ?a334 ?a335 ?a336 ?a337 ?a338 ?a339 ?a340 ?a341 ?a342 ?a343 ?a344 ?a345 ?a346 ?a347 ?a348 ?a349 ?a350 ?a351 ?a352 ?a353 ?a354 ?a355 ?a356 ?a357 ?a358 ?a359 ?a360 ?a361 ?a362 ?a363 ?a364 ?a365 ?a366 ?a367 ?a368 ?a369 ?a370 ?a371 ?a372 ?a373 ?a374 ?a375 ?a376 ?a377 ?a378 ?a379 ?a380 ?a381 ?a382 ?a383 ?a384 ?a385 ?a386 ?a387 ?a388 ?a389 ?a390 ?a391 ?a392 ?a393 ?a394 ?a395 ?a396 ?a397 ?a398 ?a399 ?a400 ?a401 ?a402 ?a403 ?a404 ?a405 ?a406 ?a407 ?a408 ?a409 ?a410 ?a411 ?a412 ?a413 ?a414 ?a415 ?a416 ?a417 ?a418 ?a419 ?a420 ?a421 ?a422 ?a423 ?a424
  (case a0=>k_is)
  (case a1=>k_is)
  (case a2=>k_is)
  (case a3=>k_is)
  (case a4=>k_is)
  (case a5=>k_is)
  (case a6=>k_is)
  (case a7=>k_is)
  (case a8=>k_is)
  (case a9=>k_is)
  (case a10=>k_is)
  (case a11=>k_is)
  (case a12=>k_is)
  (case a13=>k_is)
  (case a14=>k_is)
  (case a15=>k_is)
  (case a16=>k_is)
  (case a17=>k_is)
  (case a18=>k_is)
  (case a19=>k_is)
  (case a20=>k_is)
  (case a21=>k_is)
  (case a22=>k_is)
  (case a23=>k_is)
  (case a24=>k_is)
  (case a25=>k_is)
  (case a26=>k_is)
  (case a27=>k_is)
  (case a28=>k_is)
  (case a29=>k_is)
  (case a30=>k_is)
  (case a31=>k_is)
  (case a32=>k_is)
  (case a33=>k_is)
  (case a34=>k_is)
  (case a35=>k_is)
  (case a36=>k_is)
  (case a37=>k_is)
  (case a38=>k_is)
  (case a39=>k_is)
  (case a40=>k_is)
  (case a41=>k_is)
  (case a42=>k_is)
  (case a43=>k_is)
  (case a44=>k_is)
  (case a45=>k_is)
  (case a46=>k_is)
  (case a47=>k_is)
  (case a48=>k_is)
  (case a49=>k_is)
  (case a50=>k_is)
  (case a51=>k_is)
  (case a52=>k_is)
  (case a53=>k_is)
  (case a54=>k_is)
  (case a55=>k_is)
  (case a56=>k_is)
  (case a57=>k_is)
  (case a58=>k_is)
  (case a59=>k_is)
  (case a60=>k_is)
  (case a61=>k_is)
  (case a62=>k_is)
  (case a63=>k_is)
  (case a64=>k_is)
  (case a65=>k_is)
  (case a66=>k_is)
  (case a67=>k_is)
  (case a68=>k_is)
  (case a69=>k_is)
  (case a70=>k_is)
  (case a71=>k_is)
  (case a72=>k_is)
  (case a73=>k_is)
  (case a74=>k_is)
  (case a75=>k_is)
  (case a76=>k_is)
  (case a77=>k_is)
  (case a78=>k_is)
  (case a79=>k_is)
  (case a80=>k_is)
  (case a81=>k_is)
  (case a82=>k_is)
  (case a83=>k_is)
  (case a84=>k_is)
  (case a85=>k_is)
  (case a86=>k_is)
  (case a87=>k_is)
  (case a88=>k_is)
  (case a89=>k_is)
  (case a90=>k_is)
  (case a91=>k_is)
  (case a92=>k_is)
  (case a93=>k_is)
  (case a94=>k_is)
  (case a95=>k_is)
  (case a96=>k_is)
  (case a97=>k_is)
  (case a98=>k_is)
  (case a99=>k_is)
  (case a100=>k_is)
  (case a101=>k_is)
  (case a102=>k_is)
  (case a103=>k_is)
  (case a104=>k_is)
  (case a105=>k_is)
  (case a106=>k_is)
  (case a107=>k_is)
  (case a108=>k_is)
  (case a109=>k_is)
  (case a110=>k_is)
  (case a111=>k_is)
  (case a112=>k_is)
  (case a113=>k_is)
  (case a114=>k_is)
  (case a115=>k_is)
  (case a116=>k_is)
  (case a117=>k_is)
  (case a118=>k_is)
  (case a119=>k_is)
  (case a120=>k_is)
  (case a121=>k_is)
  (case a122=>k_is)
  (case a123=>k_is)
  (case a124=>k_is)
  (case a125=>k_is)
  (case a126=>k_is)
  (case a127=>k_is)
  (case a128=>k_is)
  (case a129=>k_is)
  (case a130=>k_is)
  (case a131=>k_is)
  (case a132=>k_is)
  (case a133=>k_is)
  (case a134=>k_is)
  (case a135=>k_is)
  (case a136=>k_is)
  (case a137=>k_is)
  (case a138=>k_is)
  (case a139=>k_is)
  (case a140=>k_is)
  (case a141=>k_is)
  (case a142=>k_is)
  (case a143=>k_is)
  (case a144=>k_is)
  (case a145=>k_is)
  (case a146=>k_is)
  (case a147=>k_is)
  (case a148=>k_is)
  (case a149=>k_is)
  (case a150=>k_is)
  (case a151=>k_is)
  (case a152=>k_is)
  (case a153=>k_is)
  (case a154=>k_is)
  (case a155=>k_is)
  (case a156=>k_is)
  (case a157=>k_is)
  (case a158=>k_is)
  (case a159=>k_is)
  (case a160=>k_is)
  (case a161=>k_is)
  (case a162=>k_is)
  (case a163=>k_is)
  (case a164=>k_is)
  (case a165=>k_is)
  (case a166=>k_is)
  (case a167=>k_is)
  (case a168=>k_is)
  (case a169=>k_is)
  (case a170=>k_is)
  (case a171=>k_is)
  (case a172=>k_is)
  (case a173=>k_is)
  (case a174=>k_is)
  (case a175=>k_is)
  (case a176=>k_is)
  (case a177=>k_is)
  (case a178=>k_is)
  (case a179=>k_is)
  (case a180=>k_is)
  (case a181=>k_is)
  (case a182=>k_is)
  (case a183=>k_is)
  (case a184=>k_is)
  (case a185=>k_is)
  (case a186=>k_is)
  (case a187=>k_is)
  (case a188=>k_is)
  (case a189=>k_is)
  (case a190=>k_is)
  (case a191=>k_is)
  (case a192=>k_is)
  (case a193=>k_is)
  (case a194=>k_is)
  (case a195=>k_is)
  (case a196=>k_is)
  (case a197=>k_is)
  (case a198=>k_is)
  (case a199=>k_is)
  (case a200=>k_is)
  (case a201=>k_is)
  (case a202=>k_is)
  (case a203=>k_is)
  (case a204=>k_is)
  (case a205=>k_is)
  (case a206=>k_is)
  (case a207=>k_is)
  (case a208=>k_is)
  (case a209=>k_is)
  (case a210=>k_is)
  (case a211=>k_is)
  (case a212=>k_is)
  (case a213=>k_is)
  (case a214=>k_is)
  (case a215=>k_is)
  (case a216=>k_is)
  (case a217=>k_is)
  (case a218=>k_is)
  (case a219=>k_is)
  (case a220=>k_is)
  (case a221=>k_is)
  (case a222=>k_is)
  (case a223=>k_is)
  (case a224=>k_is)
  (case a225=>k_is)
  (case a226=>k_is)
  (case a227=>k_is)
  (case a228=>k_is)
  (case a229=>k_is)
  (case a230=>k_is)
  (case a231=>k_is)
  (case a232=>k_is)
  (case a233=>k_is)
  (case a234=>k_is)
  (case a235=>k_is)
  (case a236=>k_is)
  (case a237=>k_is)
  (case a238=>k_is)
  (case a239=>k_is)
  (case a240=>k_is)
  (case a241=>k_is)
  (case a242=>k_is)
  (case a243=>k_is)
  (case a244=>k_is)
  (case a245=>k_is)
  (case a246=>k_is)
  (case a247=>k_is)
  (case a248=>k_is)
  (case a249=>k_is)
  (case a250=>k_is)
  (case a251=>k_is)
  (case a252=>k_is)
  (case a253=>k_exc)
  (case a254=>k_exc)
  (case a255=>kit_is)
  (case a256=>kit_is)
  (case a257=>kit_is)
  (case a258=>kit_is)
  (case a259=>kit_is)
  (case a260=>kit_is)
  (case a261=>kit_is)
  (case a262=>kit_is)
  (case a263=>kit_is)
  (case a264=>kit_is)
  (case a265=>kit_is)
  (case a266=>k_is)
  (case a267=>k_is)
  (case a268=>k_is)
  (case a269=>k_is)
  (case a270=>k_is)
  (case a271=>k_is)
  (case a272=>k_is)
  (case a273=>k_is)
  (case a274=>k_is)
  (case a275=>k_is)
  (case a276=>k_is)
  (case a277=>k_is)
  (case a278=>k_is)
  (case a279=>k_is)
  (case a280=>k_is)
  (case a281=>k_is)
  (case a282=>k_is)
  (case a283=>k_is)
  (case a284=>k_is)
  (case a285=>k_is)
  (case a286=>k_is)
  (case a287=>k_is)
  (case a288=>k_is)
  (case a289=>k_is)
  (case a290=>k_is)
  (case a291=>k_is)
  (case a292=>k_is)
  (case a293=>k_is)
  (case a294=>k_is)
  (case a295=>k_is)
  (case a296=>k_is)
  (case a297=>k_is)
  (case a298=>k_is)
  (case a299=>k_is)
  (case a300=>k_is)
  (case a301=>k_is)
  (case a302=>k_is)
  (case a303=>k_is)
  (case a304=>k_is)
  (case a305=>k_is)
  (case a306=>k_is)
  (case a307=>k_is)
  (case a308=>k_is)
  (case a309=>k_is)
  (case a310=>k_is)
  (case a311=>k_is)
  (case a312=>k_is)
  (case a313=>k_is)
  (case a314=>k_is)
  (case a315=>k_is)
  (case a316=>k_is)
  (case a317=>k_is)
  (case a318=>k_is)
  (case a319=>k_is)
  (case a320=>k_is)
  (case a321=>k_is)
  (case a322=>k_is)
  (case a323=>k_is)
  (case a324=>k_is)
  (case a325=>k_is)
  (case a326=>k_is)
  (case a327=>k_is)
  (case a328=>k_is)
  (case a329=>k_is)
  (case a330=>k_is)
  (case a331=>k_is)
  (case a332=>k_is)
  (case a333=>k_is)
  (case a334=>k_is)
  (case a335=>k_is)
  (case a336=>k_is)
  (case a337=>k_is)
  (case a338=>k_is)
  (case a339=>k_is)
  (case a340=>k_is)
  (case a341=>k_is)
  (case a342=>k_is)
  (case a343=>k_is)
  (case a344=>k_is)
  (case a345=>k_is)
  (case a346=>k_is)
  (case a347=>k_is)
  (case a348=>k_is)
  (case a349=>k_is)
  (case a350=>k_is)
  (case a351=>k_is)
  (case a352=>k_is)
  (case a353=>k_is)
  (case a354=>k_is)
  (case a355=>k_is)
  (case a356=>k_is)
  (case a357=>k_is)
  (case a358=>k_is)
  (case a359=>k_is)
  (case a360=>k_is)
  (case a361=>k_is)
  (case a362=>k_is)
  (case a363=>k_is)
  (case a364=>k_is)
  (case a365=>k_is)
  (case a366=>k_is)
  (case a367=>k_is)
  (case a368=>k_is)
  (case a369=>k_is)
  (case a370=>k_is)
  (case a371=>k_is)
  (case a372=>k_is)
  (case a373=>k_is)
  (case a374=>k_is)
  (case a375=>k_is)
  (case a376=>k_is)
  (case a377=>k_is)
  (case a378=>k_is)
  (case a379=>k_is)
  (case a380=>k_is)
  (case a381=>k_is)
  (case a382=>k_is)
  (case a383=>k_is)
  (case a384=>k_is)
  (case a385=>k_is)
  (case a386=>k_is)
  (case a387=>k_is)
  (case a388=>k_is)
  (case a389=>k_is)
  (case a390=>k_is)
  (case a391=>k_is)
  (case a392=>k_is)
  (case a393=>k_is)
  (case a394=>k_is)
  (case a395=>k_is)
  (case a396=>k_is)
  (case a397=>k_is)
  (case a398=>k_is)
  (case a399=>k_is)
  (case a400=>k_is)
  (case a401=>k_is)
  (case a402=>k_is)
  (case a403=>k_is)
  (case a404=>k_is)
  (case a405=>k_is)
  (case a406=>k_is)
  (case a407=>k_is)
  (case a408=>k_is)
  (case a409=>k_is)
  (case a410=>k_is)
  (case a411=>k_is)
  (case a412=>k_is)
  (case a413=>k_is)
  (case a414=>k_is)
  (case a415=>k_is)
  (case a416=>k_is)
  (case a417=>k_is)
  (case a418=>k_is)
  (case a419=>k_is)
  (case a420=>k_is)
  (case a421=>k_is)
  (case a422=>k_is)
  (case a423=>k_is)
  (case a424=>k_is)
