import PyProof.Rows.All
import Wide.All
import OpenK.AllK
import Wide.FinOn
import Lean
import PyProof.EqAt
import PyProof.EqKinds
import PyProof.TupleCall
import PySem.Challenge.RW_borderfloor_k16_whole_border_and_back
set_option bootstrap.genMatcherCode false
set_option compiler.extract_closed false
set_option Elab.async false
set_option linter.all false
set_option maxRecDepth 100000
noncomputable section
namespace L2
open PySem PySem.Spec PyProof.Rows
abbrev Key:=Sum Int Str
def keyIs:Key→Value→Bool
 | .inl k,v => Value.isInt k v
 | .inr x,v => Value.isStrOf x v
def keyH (w:World):Key→Int
 | .inl k => hashInt k
 | .inr x => hashStr w x
theorem keyIs_shape:∀ {k:Key} {v:Value},keyIs k v = true→(∃ i t,k = Sum.inl i∧v = Value.int i t)∨(∃ x t,k = Sum.inr x∧v = Value.str x t)
 | .inl i,v,h => by
  obtain ⟨t,e⟩:=Value.isInt_shape (k:=i) (v:=v) h
  exact .inl ⟨i,t,rfl,e⟩
 | .inr x,v,h => by
  obtain ⟨t,e⟩:=Value.isStrOf_shape (x:=x) (v:=v) h
  exact .inr ⟨x,t,rfl,e⟩
theorem keyIs_int (i:Int) (t:Tok):keyIs (.inl i) (.int i t) = true:=by simp [keyIs,Value.isInt]
theorem keyIs_str (x:Str) (t:Tok):keyIs (.inr x) (.str x t) = true:=by simp [keyIs,Value.isStrOf]
theorem key_ll (a b:Int):decide ((Sum.inl a:Key) = Sum.inl b) = (a == b):=by
 by_cases e:a = b
 ·subst e; simp
 ·have h:¬ (Sum.inl a:Key) = Sum.inl b:=fun q => e (Sum.inl.inj q)
  rw [decide_eq_false h]
  exact (beq_eq_false_iff_ne.mpr e).symm
theorem key_rr (a b:Str):decide ((Sum.inr a:Key) = Sum.inr b) = decide (a = b):=by
 by_cases e:a = b
 ·subst e; simp
 ·have h:¬ (Sum.inr a:Key) = Sum.inr b:=fun q => e (Sum.inr.inj q)
  rw [decide_eq_false h,decide_eq_false e]
theorem key_lr (a:Int) (b:Str):decide ((Sum.inl a:Key) = Sum.inr b) = false:=decide_eq_false (fun q => nomatch q)
theorem key_rl (a:Str) (b:Int):decide ((Sum.inr a:Key) = Sum.inl b) = false:=decide_eq_false (fun q => nomatch q)
def mixKind (prog:Program) (w:World):PySem.KeyKind prog w Key where
 is:=keyIs
 hash:=keyH w
 inj:=fun v a b ha hb => by
  rcases keyIs_shape ha with ⟨i,t,rfl,rfl⟩ | ⟨x,t,rfl,rfl⟩
  ·rcases keyIs_shape hb with ⟨j,u,rfl,e⟩ | ⟨y,u,rfl,e⟩
   ·injection e with e1 _; rw [e1]
   ·exact nomatch e
  ·rcases keyIs_shape hb with ⟨j,u,rfl,e⟩ | ⟨y,u,rfl,e⟩
   ·exact nomatch e
   ·injection e with e1 _; rw [e1]
 byValue:=fun k v h => by
  rcases keyIs_shape h with ⟨i,t,rfl,rfl⟩ | ⟨x,t,rfl,rfl⟩ <;> rfl
 pyHash:=fun hv h => by
  rcases keyIs_shape hv with ⟨i,t,rfl,rfl⟩ | ⟨x,t,rfl,rfl⟩
  ·exact wpAny_pyHash_int h
  ·exact wpAny_pyHash_str h
 eqBool:=fun hu hv h => by
  rcases keyIs_shape hu with ⟨i,t,rfl,rfl⟩ | ⟨x,t,rfl,rfl⟩
  ·rcases keyIs_shape hv with ⟨j,u,rfl,rfl⟩ | ⟨y,u,rfl,rfl⟩
   ·rw [key_ll] at h; exact wpAny_eqBool_int h
   ·rw [key_lr] at h; exact SeqAt.EqAt.int_str i t y u _ _ _ _ h
  ·rcases keyIs_shape hv with ⟨j,u,rfl,rfl⟩ | ⟨y,u,rfl,rfl⟩
   ·rw [key_rl] at h; exact SeqAt.EqAt.str_int x t j u _ _ _ _ h
   ·rw [key_rr] at h; exact wpAny_eqBool_str h
 «strs»:=fun k x t v h => by
  rcases keyIs_shape h with ⟨i,u,rfl,e⟩ | ⟨y,u,rfl,e⟩
  ·exact nomatch e
  ·injection e with e1 _
   subst e1
   cases v <;> rfl
theorem mixKind_int (prog:Program) (w:World) (i:Int) (t:Tok):(mixKind prog w).is (.inl i) (.int i t) = true:=keyIs_int i t
theorem mixKind_str (prog:Program) (w:World) (x:Str) (t:Tok):(mixKind prog w).is (.inr x) (.str x t) = true:=keyIs_str x t
end L2
namespace L2
open PySem PySem.Spec PyProof.Rows
inductive V where
 | non | bl (b:Bool) | int (i:Int) | str (x:Str) | byt (b:Array UInt8) | flt (b:UInt64) | ref (a:Addr) | ty (n:String)
 deriving DecidableEq
def RelV:V→Value→Prop
 | .non,u => u = Value.none
 | .bl b,u => u = Value.bool b
 | .int i,u => ∃ t,u = Value.int i t
 | .str x,u => ∃ t,u = Value.str x t
 | .byt b,u => ∃ t,u = Value.bytes b t
 | .flt b,u => ∃ t,u = Value.float b t
 | .ref a,u => u = Value.ref a
 | .ty n,u => u = Value.type n
abbrev Vals:List V→List Value→Prop:=Paired RelV
theorem Vals.length {xs:List V} {us:List Value} (r:Vals xs us):xs.length = us.length:=Paired.length r
theorem Vals.get:∀ {xs:List V} {us:List Value} {i:Nat} {x:V},Vals xs us→xs[i]? = some x→∃ u,us[i]? = some u∧RelV x u
 | _,_,_,_,.nil,e => by simp at e
 | _,_,0,_,.cons r _,e => by simp at e; subst e; exact ⟨_,rfl,r⟩
 | _,_,i + 1,x,.cons _ t,e => by
  (refine Classical.byContradiction fun k_ => ?_; obtain ⟨u,h1,h2⟩:=Vals.get (i:=i) (x:=x) t (by simpa using e); refine k_ ?_; clear k_)
  exact ⟨u,by simpa using h1,h2⟩
theorem Vals.append:∀ {xs ys:List V} {us ws:List Value},Vals xs us→Vals ys ws→Vals (xs++ys) (us++ws)
 | _,_,_,_,.nil,s => s
 | _,_,_,_,.cons r t,s => .cons r (Vals.append t s)
def RelO:Option V→Option Value→Prop
 | some v,some u => RelV v u
 | none,none => True
 | _,_ => False
def KV {κ:Type}:List (κ×V)→List (κ×Value)→Prop:=Paired fun (p:κ×V) (q:κ×Value) => p.1 = q.1∧RelV p.2 q.2
def kV:Key→V
 | .inl i => .int i
 | .inr x => .str x
inductive HO where
 | lst (xs:List V)
 | tup (xs:List V)
 | dK (kvs:List (Key×V)) | dT (kvs:List (List Key×V))
 | set (S:Int→Bool) (n:Nat)
 | ins (C dx:Addr) (fs:List (Str×V))
 | own (x:Addr)
 | xd (fs:List (Str×V))
 | met (f x:Addr)
 | rng (lo hi:Int)
 | frz (o:Obj) (u:HO)
 | tbl (ps:Array Value)
 | ext (φ:Heap→Prop)
abbrev Hp:=Addr→Option HO
def upd (H:Hp) (a:Addr) (o:HO):Hp:=fun b => if b = a then some o else H b
theorem upd_same {H:Hp} {a:Addr} {o:HO}:upd H a o a = some o:=by unfold upd; rw [if_pos rfl]
theorem upd_ne {H:Hp} {a b:Addr} {o:HO} (h:b≠a):upd H a o b = H b:=by unfold upd; rw [if_neg h]
theorem ne_of {H:Hp} {a b:Addr} {o u:HO} (h:H a = some o) (h':H b = some u) (d:o≠u):a≠b:=by
 intro e; subst e; rw [h] at h'; exact d (Option.some.inj h')
theorem ne_of_none {H:Hp} {a b:Addr} {o:HO} (h:H a = some o) (h':H b = none):a≠b:=by
 intro e; subst e; rw [h] at h'; cases h'
section
variable (P:Program) (w:World)
def ObjOk (H:Hp) (h:Heap) (a:Addr):HO→Prop
 | .lst xs => xs.length≤sizeLine∧∃ (its:List Value) (n:Nat),Vals xs its∧h.get? a = some { cls:=.type "list",data:=.seq its.toArray n }
 | .tup xs => xs.length≤sizeLine∧∃ its:List Value,Vals xs its∧IsTup h a its.toArray
 | .dK kvs => kvs.length≤sizeLine∧(a == sysModules) = false∧∃ vs,KV kvs vs∧h.DictOf (mixKind P w) a vs
 | .dT kvs => kvs.length≤sizeLine∧(a == sysModules) = false∧∃ xs:List (List Key×Addr×Value),
   Paired (fun (p:List Key×V) (q:List Key×Addr×Value) => p.1 = q.1∧H q.2.1 = some (.tup (p.1.map kV))∧RelV p.2 q.2.2) kvs xs ∧
   ∃ o es ep,h.get? a = some o∧o.ExactDict∧o.data = .dict es ep∧es.toList = xs.map (entryOfKey (tupleKind (mixKind P w)))∧(xs.map (·.1)).Nodup
 | .set S n => h.SetOf (intKind P w) a S n
 | .ins C dx fs => H dx = some (.own a)∧fs.length≤1000∧dx≠a∧h.get? a = some (PySem.W.instObj C dx) ∧
   ∃ mA,h.Ns1 dx mA∧(∀ f,RelO (fs.lookup f) (mA f))∧PySem.Within mA (fs.map (·.1))
 | .own _ => ∃ o,h.get? a = some o
 | .xd fs => ∃ mA,h.Ns1 a mA∧∀ f,RelO (fs.lookup f) (mA f)
 | .rng lo hi => ∃ t u v,h.get? a = some { cls:=.type "range",data:=.fields #[.int lo t,.int hi u,.int 1 v] }
 | .frz o u => h.get? a = some o∧ObjOk H h a u
 | .tbl ps => h.get? a = some { cls:=.none,data:=.fields ps }
 | .met f x => h.get? a = some (PySem.W.methodObj (.ref f) (.ref x))
 | .ext φ => φ h∧(∃ o,h.get? a = some o)∧∀ h1 h2:Heap,φ h1→(∀ o,h1.get? a = some o→h2.get? a = some o)→φ h2
def HOk (H:Hp) (h:Heap):Prop:=∀ a o,H a = some o→ObjOk P w H h a o
end
section
variable {P:Program} {w:World} {H H':Hp} {h h':Heap} {a:Addr} {o:HO}
theorem ObjOk.lt (x:ObjOk P w H h a o):a < h.objs.size:=by
 cases o with
 | lst xs => obtain ⟨_,_,_,_,e⟩:=x; exact Heap.lt_size e
 | tup xs => obtain ⟨_,_,_,p⟩:=x; exact p.lt
 | dK kvs => obtain ⟨_,_,_,_,o,_,_,e,_⟩:=x; exact Heap.lt_size e
 | dT kvs => obtain ⟨_,_,_,_,o,_,_,e,_⟩:=x; exact Heap.lt_size e
 | set S n => obtain ⟨o,_,_,_,e,_⟩:=x; exact Heap.lt_size e
 | ins C dx fs => obtain ⟨_,_,_,e,_⟩:=x; exact Heap.lt_size e
 | own y => obtain ⟨_,e⟩:=x; exact Heap.lt_size e
 | xd fs => obtain ⟨_,⟨_,_,_,e,_⟩,_⟩:=x; exact Heap.lt_size e
 | rng lo hi => obtain ⟨_,_,_,e⟩:=x; exact Heap.lt_size e
 | frz ob u => obtain ⟨e,_⟩:=x; exact Heap.lt_size e
 | tbl ps => exact Heap.lt_size (show h.get? a = some _ from x)
 | met f y => exact Heap.lt_size (show h.get? a = some _ from x)
 | ext φ => obtain ⟨_,⟨_,e⟩,_⟩:=x; exact Heap.lt_size e
theorem Paired.mapP {α β:Type} {F G:α→β→Prop}:∀ {l₁:List α} {l₂:List β},Paired F l₁ l₂→(∀ a b,F a b→G a b)→Paired G l₁ l₂
 | _,_,.nil,_ => .nil
 | _,_,.cons r t,f => .cons (f _ _ r) (Paired.mapP t f)
theorem ObjOk.stay (x:ObjOk P w H h a o) (k:∀ b u,(b = a∨H b = some (.own a))→h.get? b = some u→h'.get? b = some u)
  (ho:∀ b,H b = some (.own a)→H' b = some (.own a)) (ht:∀ b xs,H b = some (.tup xs)→H' b = some (.tup xs)):ObjOk P w H' h' a o:=by
 induction o with
 | lst xs => obtain ⟨z,its,n,r,e⟩:=x; exact ⟨z,its,n,r,k _ _ (.inl rfl) e⟩
 | tup xs => obtain ⟨z,its,r,ob,e,c⟩:=x; exact ⟨z,its,r,ob,k _ _ (.inl rfl) e,c⟩
 | dK kvs => obtain ⟨z,y,vs,r,ob,es,ep,e,c⟩:=x; exact ⟨z,y,vs,r,ob,es,ep,k _ _ (.inl rfl) e,c⟩
 | dT kvs =>
  (refine Classical.byContradiction fun k_ => ?_; obtain ⟨z,y,xs,r,ob,es,ep,e,c⟩:=x; refine k_ ?_; clear k_)
  exact ⟨z,y,xs,Paired.mapP r fun p q z => ⟨z.1,ht _ _ z.2.1,z.2.2⟩,ob,es,ep,k _ _ (.inl rfl) e,c⟩
 | set S n => obtain ⟨ob,es,ep,t,e,c⟩:=x; exact ⟨ob,es,ep,t,k _ _ (.inl rfl) e,c⟩
 | ins C dx fs =>
  (refine Classical.byContradiction fun k_ => ?_; obtain ⟨d,z,ne,e,mA,⟨od,es,ep,e2,c⟩,r⟩:=x; refine k_ ?_; clear k_)
  exact ⟨ho _ d,z,ne,k _ _ (.inl rfl) e,mA,⟨od,es,ep,k _ _ (.inr d) e2,c⟩,r⟩
 | own y => obtain ⟨ob,e⟩:=x; exact ⟨ob,k _ _ (.inl rfl) e⟩
 | xd fs => obtain ⟨mA,⟨od,es,ep,e,c⟩,r⟩:=x; exact ⟨mA,⟨od,es,ep,k _ _ (.inl rfl) e,c⟩,r⟩
 | rng lo hi => obtain ⟨t,u,v,e⟩:=x; exact ⟨t,u,v,k _ _ (.inl rfl) e⟩
 | frz ob u ih => obtain ⟨e,q⟩:=x; exact ⟨k _ _ (.inl rfl) e,ih q⟩
 | tbl ps =>
  have e:h.get? a = some { cls:=.none,data:=.fields ps }:=x
  show h'.get? a = some { cls:=.none,data:=.fields ps }
  exact k a _ (.inl rfl) e
 | met f y =>
  have e:h.get? a = some (PySem.W.methodObj (.ref f) (.ref y)):=x
  show h'.get? a = some (PySem.W.methodObj (.ref f) (.ref y))
  exact k a _ (.inl rfl) e
 | ext φ => obtain ⟨p,⟨o,e⟩,st⟩:=x; exact ⟨st _ _ p fun o q => k _ _ (.inl rfl) q,⟨o,k _ _ (.inl rfl) e⟩,st⟩
theorem HOk.lt (x:HOk P w H h) (e:H a = some o):a < h.objs.size:=(x a o e).lt
theorem HOk.fresh (x:HOk P w H h) (e:h.objs.size≤a):H a = none:=by
 cases q:H a with
 | none => rfl
 | some u => exact absurd (Nat.lt_of_lt_of_le (x.lt q) e) (Nat.lt_irrefl _)
theorem HOk.kept (x:HOk P w H h) (k:∀ b u,h.get? b = some u→h'.get? b = some u):HOk P w H h':=fun a o e =>
 (x a o e).stay (fun b u _ q => k b u q) (fun _ q => q) fun _ _ q => q
theorem HOk.laid (x:HOk P w H h) (k:∀ b u,h.get? b = some u→h'.get? b = some u) (hp:h.objs.size≤a) (new:ObjOk P w (upd H a o) h' a o):HOk P w (upd H a o) h':=fun b u e => by
 have hn:=x.fresh hp
 by_cases hb:b = a
 ·subst hb; rw [upd_same] at e; cases e; exact new
 ·rw [upd_ne hb] at e
  exact (x b u e).stay (fun c v _ q => k c v q) (fun c q => by rw [upd_ne (ne_of_none q hn)]; exact q) fun c xs q => by rw [upd_ne (ne_of_none q hn)]; exact q
end
def Rd (H:Hp) (a:Addr) (u:HO):Prop:=H a = some u∨∃ o,H a = some (.frz o u)
theorem Rd.ok {P:Program} {w:World} {H:Hp} {h:Heap} {a:Addr} {u:HO} (r:Rd H a u) (x:HOk P w H h):ObjOk P w H h a u:=by
 rcases r with r | ⟨o,r⟩
 ·exact x a u r
 ·obtain ⟨_,q⟩:=x a _ r
  exact q
def Mut:Option HO→Prop
 | some (.lst _) => True
 | some (.dK _) => True
 | some (.dT _) => True
 | some (.set _ _) => True
 | some (.ins _ _ _) => True
 | some (.ext _) => True
 | _ => False
section
variable {P:Program} {w:World} {H:Hp} {h h':Heap} {x e:Addr} {o':HO}
theorem HOk.write (ok:HOk P w H h) (mu:Mut (H x)) (he:e = x∨H e = some (.own x)) (k:∀ b u,b≠e→h.get? b = some u→h'.get? b = some u) (heo:∃ u,h'.get? e = some u)
  (new:ObjOk P w (upd H x o') h' x o'):HOk P w (upd H x o') h':=fun b u q => by
 have nown:∀ c y,H c = some (.own y)→c≠x:=fun c y r z => by subst z; rw [r] at mu; exact mu
 have ntup:∀ c xs,H c = some (.tup xs)→c≠x:=fun c xs r z => by subst z; rw [r] at mu; exact mu
 by_cases hb:b = x
 ·subst hb; rw [upd_same] at q; cases q; exact new
 ·rw [upd_ne hb] at q
  by_cases hbe:b = e
  ·have q':H b = some (.own x):=by
    rcases he with z | z
    ·exact absurd (hbe.trans z) hb
    ·rw [hbe]; exact z
   rw [q] at q'; cases q'
   obtain ⟨v,hv⟩:=heo
   exact ⟨v,by rw [hbe]; exact hv⟩
  ·refine (ok b u q).stay (fun c v hc r => k c v ?_ r) (fun c r => by rw [upd_ne (nown c b r)]; exact r) fun c xs r => by rw [upd_ne (ntup c xs r)]; exact r
   rcases hc with rfl | hc
   ·exact hbe
   ·rintro rfl
    rcases he with z | z
    ·exact nown c b hc z
    ·rw [hc] at z; cases z; exact hb rfl
end
structure Un (fs ex:List Addr) (H H':Hp) (h h':Heap):Prop where
 keep:∀ b o,h.get? b = some o→H b = none→b∉fs→b∉ex→h'.get? b = some o
 slot:∀ b o,h.get? b = some o→H b = none→b∈fs→b∉ex→∃ sl,h'.get? b = some { o with slots:=sl }
 free:∀ b o,h.get? b = some o→H b = none→b∉ex→H' b = none
 there:∀ b o,h.get? b = some o→b∉ex→∃ o',h'.get? b = some o'
 tups:∀ b xs,H b = some (.tup xs)→H' b = some (.tup xs)
 frzs:∀ b o u,H b = some (.frz o u)→H' b = some (.frz o u)
 tbls:∀ b ps,H b = some (.tbl ps)→∃ more,H' b = some (.tbl (ps++more))
section
variable {fs fs' ex ex':List Addr} {H H1 H2:Hp} {h h1 h2 h':Heap} {a x e:Addr} {o:HO}
theorem Un.any (u:Un fs ex H H1 h h1) {b:Addr} {ob:Obj} (q:h.get? b = some ob) (n:H b = none) (hx:b∉ex):∃ sl,h1.get? b = some { ob with slots:=sl }:=by
 by_cases hb:b∈fs
 ·exact u.slot b ob q n hb hx
 ·exact ⟨ob.slots,u.keep b ob q n hb hx⟩
theorem Un.kept (k:∀ b u,h.get? b = some u→h'.get? b = some u):Un fs ex H H h h' :=
 ⟨fun b ob q _ _ _ => k b ob q,fun b ob q _ _ _ => ⟨ob.slots,k b ob q⟩,fun _ _ _ n _ => n,fun b ob q _ => ⟨ob,k b ob q⟩,fun _ _ q => q,fun _ _ _ q => q,fun _ ps q => ⟨#[],by rw [q]; simp⟩⟩
theorem Un.refl:Un fs ex H H h h:=Un.kept fun _ _ q => q
theorem Un.laid (k:∀ b u,h.get? b = some u→h'.get? b = some u) (hp:h.objs.size≤a) (hn:H a = none):Un fs ex H (upd H a o) h h' where
 keep:=fun b u q _ _ _ => k b u q
 slot:=fun b u q _ _ _ => ⟨u.slots,k b u q⟩
 free:=fun b u q n _ => by rw [upd_ne (Nat.ne_of_lt (Nat.lt_of_lt_of_le (Heap.lt_size q) hp))]; exact n
 there:=fun b u q _ => ⟨u,k b u q⟩
 tups:=fun b xs q => by rw [upd_ne (ne_of_none q hn)]; exact q
 frzs:=fun b u xs q => by rw [upd_ne (ne_of_none q hn)]; exact q
 tbls:=fun b ps q => ⟨#[],by rw [upd_ne (ne_of_none q hn),q]; simp⟩
theorem Un.write (mu:Mut (H x)) (he:e = x∨H e = some (.own x)) (k:∀ b u,b≠e→h.get? b = some u→h'.get? b = some u) (heo:∃ u,h'.get? e = some u):Un fs ex H (upd H x o) h h':=by
 have hx:∀ b,H b = none→b≠x:=fun b n z => by subst z; rw [n] at mu; exact mu
 have hb:∀ b,H b = none→b≠e:=fun b n z => by
  subst z
  rcases he with r | r
  ·exact hx b n r
  ·rw [n] at r; cases r
 have hm:∀ b u,H b = some u→¬ Mut (some u)→b≠x:=fun b u q nm z => by subst z; rw [q] at mu; exact nm mu
 refine ⟨fun b u q n _ _ => k b u (hb b n) q,fun b u q n _ _ => ⟨u.slots,k b u (hb b n) q⟩,fun b u q n _ => by rw [upd_ne (hx b n)]; exact n,fun b u q _ => ?_,
  fun b xs q => by rw [upd_ne (hm b _ q fun z => z)]; exact q,fun b u xs q => by rw [upd_ne (hm b _ q fun z => z)]; exact q,fun b ps q => ⟨#[],by rw [upd_ne (hm b _ q fun z => z),q]; simp⟩⟩
 by_cases hbe:b = e
 ·subst hbe; exact heo
 ·exact ⟨u,k b u hbe q⟩
end
def trk (h:Heap) (H:Hp):List Addr:=(List.range h.objs.size).filter fun a => (H a).isSome
def hidT (h:Heap) (H:Hp):Heap:=PySem.W.hideAll h (trk h H)
theorem hidT_size (h:Heap) (H:Hp):(hidT h H).objs.size = h.objs.size:=PySem.W.hideAll_size _ _
theorem hidT_get {h:Heap} {H:Hp} {b:Addr} {o:Obj} (e:h.get? b = some o) (n:H b = none):(hidT h H).get? b = some o :=
 PySem.W.hideAll_get _ e fun hm => by
  have q:(H b).isSome = true:=(List.mem_filter.mp hm).2
  rw [n] at q; simp at q
theorem of_hidT {h:Heap} {H:Hp} {b:Addr} {o:Obj} (e:(hidT h H).get? b = some o):h.get? b = some o∧H b = none:=by
 have e':h.get? b = some o:=PySem.W.of_hideAll (trk h H) e
 refine ⟨e',?_⟩
 cases q:H b with
 | none => rfl
 | some x =>
  have hm:b∈trk h H:=List.mem_filter.mpr ⟨List.mem_range.mpr (Heap.lt_size e'),by simp [q]⟩
  have z:(hidT h H).get? b = none:=PySem.W.hideAll_none (trk h H) hm
  rw [z] at e; cases e
def allNews (g h:Heap) (L:Addr):List (Addr×Obj):=(List.range h.objs.size).filterMap fun a => if a = L∨(g.get? a).isSome = true then none else (h.get? a).map fun o => (a,o)
def rest (g h:Heap) (L d:Addr):List (Addr×Obj):=(allNews g h L).filter fun p => decide (p.1≠d)
end L2
namespace L2
open PySem PySem.Spec PyProof.Rows
structure Mod (K:PySem.W.Frag) (mg:Str→Option Value) (base:Heap):Prop where
 kin:K.In base
 glob:base.Ns mainGlobals mg
 blt:∃ mb,base.Ns builtinsNs mb∧∀ x:Str,x ≠ "__name__"→mb x = bootBuiltins x
 nolimit:base.NoLimit
structure Cx where
 prog:Program
 w:World
 K:PySem.W.Frag
 mg:Str→Option Value
 base:Heap
 A:Around
 N:List Str
 s₀:Shared
 H₀:Hp
 env:Env
 outer:List Env
 stack:List Env
 ex:List Addr
 fn:Str→Bool
 calm:Bool
 pn:List (Addr×Obj)
 xe:Value→Shared→Prop
def frs (l:List Env):List Addr:=l.filterMap (·.frame)
abbrev Cx.fs (X:Cx):List Addr:=frs X.outer
def Vis (sc:Scope) (x:Str):Prop:=sc.names.lookup x = some .local∨sc.names.lookup x = some .cell∨sc.names.lookup x = some .free
def Loc (sc:Scope) (x:Str):Prop:=sc.names.lookup x = some .local∨sc.names.lookup x = some .cell
def Look (env:Env) (h:Heap) (m:Str→Option Value) (x:Str) (u:Value):Prop :=
 (env.kindOf x = some .local∧m x = some u)∨((env.kindOf x = some .cell∨env.kindOf x = some .free)∧∃ c,env.cells.lookup x = some c∧h.IsCell c (some u))
structure Cx.Ok (X:Cx):Prop where
 mod:Mod X.K X.mg X.base
 kind:X.env.scope.kind = .function
 glob:X.env.globals = mainGlobals
 blt:X.env.builtins = builtinsNs
 above:X.s₀.heap.objs.size≤X.env.locals
 inj:∀ x y c,X.env.cells.lookup x = some c→X.env.cells.lookup y = some c→x = y
 has:∀ x,(X.env.kindOf x = some .cell∨X.env.kindOf x = some .free)→∃ c,X.env.cells.lookup x = some c
 cab:∀ x c,X.fn x = true→X.env.cells.lookup x = some c→X.s₀.heap.objs.size≤c
 hd:X.calm = true→X.A.handled = none
 frames:X.A.frames = some X.stack
 stk:X.stack = X.outer∨(X.stack = X.env::X.outer∧X.env.frame = some X.env.locals)
 exf:∀ b∈X.ex,b≠X.env.locals∧∀ x c,X.env.cells.lookup x = some c→c≠b
 bs:∀ b o,X.base.get? b = some o→X.s₀.heap.get? b = some o∧X.H₀ b = none
 bsz:X.base.objs.size≤X.s₀.heap.objs.size
 noex:∀ b o,X.base.get? b = some o→b∉X.ex
 exfs:∀ b∈X.ex,b∉X.fs
 funs:X.s₀.heap.FunFrames X.base X.outer
 frf:∀ b∈X.fs,X.H₀ b = none
structure Inv (X:Cx) (pins:List (Addr×Obj)) (σ:List (Option V)) (H:Hp) (s:Shared):Prop where
 ok:X.Ok
 os:s.os = X.s₀.os
 bare:AllBare s.gens
 base:Un X.fs X.ex X.H₀ H X.s₀.heap s.heap
 loc:∃ m,s.heap.Ns X.env.locals m∧∀ (i:Nat) (x:Str) (v:V),X.N[i]? = some x→σ[i]? = some (some v)→Vis X.env.scope x→∃ u,RelV v u∧Look X.env s.heap m x u
 cell:∀ x c,X.env.cells.lookup x = some c→∃ v,s.heap.IsCell c v
 free:H X.env.locals = none
 freeC:∀ x c,X.env.cells.lookup x = some c→H c = none
 pin:∀ p∈X.pn++pins,s.heap.get? p.1 = some p.2∧H p.1 = none∧p.1≠X.env.locals∧p.1∉X.fs∧∀ v,p.2.data≠.cell v
 hok:HOk X.prog X.w H s.heap
 len:σ.length = X.N.length
section
variable {X:Cx} {pins:List (Addr×Obj)} {σ:List (Option V)} {H H':Hp} {s:Shared} {h':Heap}
theorem Cx.Ok.nofr (ok:X.Ok) {b:Addr} {o:Obj} (e:X.base.get? b = some o):b∉X.fs:=fun hb => by
 have:=(ok.funs.mem hb).1
 rw [e] at this; cases this
theorem Inv.bs (I:Inv X pins σ H s):∀ b o,X.base.get? b = some o→s.heap.get? b = some o∧H b = none:=fun b o e =>
 ⟨I.base.keep b o (I.ok.bs b o e).1 (I.ok.bs b o e).2 (I.ok.nofr e) (I.ok.noex b o e),I.base.free b o (I.ok.bs b o e).1 (I.ok.bs b o e).2 (I.ok.noex b o e)⟩
theorem Inv.bk (I:Inv X pins σ H s):∀ b o,X.base.get? b = some o→s.heap.get? b = some o:=fun b o e => (I.bs b o e).1
theorem Inv.mod (I:Inv X pins σ H s):Mod X.K X.mg X.base:=I.ok.mod
theorem Inv.kIn (I:Inv X pins σ H s):X.K.In s.heap:=I.ok.mod.kin.keeps I.bk
theorem Inv.nolimit (I:Inv X pins σ H s):s.heap.NoLimit:=I.ok.mod.nolimit.keeps I.bk
theorem Inv.lt (I:Inv X pins σ H s):X.env.locals < s.heap.objs.size:=let ⟨_,hn,_⟩:=I.loc; hn.lt
theorem Inv.sz (I:Inv X pins σ H s):X.s₀.heap.objs.size≤s.heap.objs.size:=Nat.le_trans I.ok.above (Nat.le_of_lt I.lt)
theorem Inv.nofs (I:Inv X pins σ H s) {a:Addr} (h:s.heap.objs.size≤a):a∉X.fs:=fun hb => by
 (refine Classical.byContradiction fun k_ => ?_; obtain ⟨_,o,ho,_⟩:=I.ok.funs.mem hb; refine k_ ?_; clear k_)
 exact absurd (Nat.lt_of_lt_of_le (Heap.lt_size ho) (Nat.le_trans I.sz h)) (Nat.lt_irrefl _)
theorem Inv.cne (I:Inv X pins σ H s):∀ x c,X.env.cells.lookup x = some c→c≠X.env.locals:=fun x c e z => by
 (refine Classical.byContradiction fun k_ => ?_; obtain ⟨v,o,ho,hd⟩:=I.cell x c e; refine k_ ?_; clear k_)
 (refine Classical.byContradiction fun k_ => ?_; obtain ⟨m,⟨o',es,ep,ho',hd',_⟩,_⟩:=I.loc; refine k_ ?_; clear k_)
 rw [z,ho'] at ho; cases ho; rw [hd'] at hd; cases hd
theorem Inv.funs (I:Inv X pins σ H s):s.heap.FunFrames X.base X.outer:=by
 have all:∀ (l:List Env),(∀ b∈frs l,b∈X.fs)→X.s₀.heap.FunFrames X.base l→s.heap.FunFrames X.base l:=by
  intro l
  induction l with
  | nil => intro _ _; trivial
  | cons env r ih =>
   intro hs hl
   (refine Classical.byContradiction fun k_ => ?_; obtain ⟨hk,⟨L,o,hf,hn,ho,hd⟩,hr⟩:=hl; refine k_ ?_; clear k_)
   have hL:L∈X.fs:=hs L (by unfold frs; rw [List.filterMap_cons,hf]; exact List.mem_cons_self)
   obtain ⟨sl,e⟩:=I.base.slot L o ho (I.ok.frf L hL) hL fun z => I.ok.exfs L z hL
   exact ⟨hk,⟨L,_,hf,hn,e,hd⟩,ih (fun b hb => hs b (by unfold frs; rw [List.filterMap_cons,hf]; exact List.mem_cons_of_mem _ hb)) hr⟩
 exact all X.outer (fun _ hb => hb) I.ok.funs
theorem Inv.stack (I:Inv X pins σ H s):s.heap.FunFrames X.base X.stack:=by
 rcases I.ok.stk with e | ⟨e,hf⟩
 ·rw [e]; exact I.funs
 ·rw [e]
  (refine Classical.byContradiction fun k_ => ?_; obtain ⟨m,hn,_⟩:=I.loc; refine k_ ?_; clear k_)
  refine .cons (by rw [I.ok.kind]; decide) hf hn ?_ I.funs
  exact Heap.get?_none_of_le (Nat.le_trans I.ok.bsz I.ok.above)
theorem Inv.stkSub (I:Inv X pins σ H s):∀ b∈frs X.stack,b∈X.env.locals::X.fs:=fun b hb => by
 rcases I.ok.stk with e | ⟨e,hf⟩
 ·rw [e] at hb; exact List.mem_cons_of_mem _ hb
 ·rw [e] at hb
  unfold frs at hb
  rw [List.filterMap_cons,hf] at hb
  exact hb
theorem Inv.stkFree (I:Inv X pins σ H s):∀ b∈frs X.stack,H b = none:=fun b hb => by
 rcases List.mem_cons.mp (I.stkSub b hb) with e | hb
 ·rw [e]; exact I.free
 ·(refine Classical.byContradiction fun k_ => ?_; obtain ⟨_,o,ho,_⟩:=I.ok.funs.mem hb; refine k_ ?_; clear k_)
  exact I.base.free b o ho (I.ok.frf b hb) fun z => I.ok.exfs b z hb
theorem Inv.step {g':Array GenState} {t':Nat} {d':Drawn} {ch:List Addr} (I:Inv X pins σ H s)
  (hch:∀ b∈ch,(b∈X.ex∨X.s₀.heap.objs.size≤b)∧b≠X.env.locals∧(∀ x c,X.env.cells.lookup x = some c→c≠b)∧∀ p∈X.pn++pins,p.1≠b)
  (keep:∀ b o,b≠X.env.locals→b∉X.fs→b∉ch→s.heap.get? b = some o→H b = none→h'.get? b = some o)
  (slot:∀ b o,b≠X.env.locals→b∈X.fs→b∉ch→s.heap.get? b = some o→H b = none→∃ sl,h'.get? b = some { o with slots:=sl }) (free:∀ b o,b∉ch→s.heap.get? b = some o→H b = none→H' b = none)
  (there:∀ b o,b∉ch→s.heap.get? b = some o→∃ o',h'.get? b = some o')
  (tups:∀ b xs,H b = some (.tup xs)→H' b = some (.tup xs)) (frzs:∀ b o u,H b = some (.frz o u)→H' b = some (.frz o u)) (tbls:∀ b ps,H b = some (.tbl ps)→∃ more,H' b = some (.tbl (ps++more)))
  (ns:∀ m,s.heap.Ns X.env.locals m→h'.Ns X.env.locals m) (hok:HOk X.prog X.w H' h') (hg:AllBare g') :
  Inv X pins σ H' { s with heap:=h',gens:=g',drawn:=d',toks:=t' }:=by
 have neL:∀ b o,X.s₀.heap.get? b = some o→b≠X.env.locals:=fun b o e => Nat.ne_of_lt (Nat.lt_of_lt_of_le (Heap.lt_size e) I.ok.above)
 have neC:∀ b o,X.s₀.heap.get? b = some o→b∉X.ex→b∉ch:=fun b o e hx hb => by
  rcases (hch b hb).1 with z | z
  ·exact hx z
  ·exact absurd (Nat.lt_of_lt_of_le (Heap.lt_size e) z) (Nat.lt_irrefl _)
 have cellK:∀ x c,X.env.cells.lookup x = some c→∀ v,s.heap.IsCell c v→h'.IsCell c v:=fun x c e v ⟨o,ho,hd⟩ => by
  have nch:c∉ch:=fun z => (hch c z).2.2.1 x c e rfl
  by_cases hc:c∈X.fs
  ·obtain ⟨sl,q⟩:=slot c o (I.cne x c e) hc nch ho (I.freeC x c e)
   exact ⟨_,q,hd⟩
  ·exact ⟨o,keep c o (I.cne x c e) hc nch ho (I.freeC x c e),hd⟩
 refine ⟨I.ok,I.os,hg,⟨fun b o e n hb hx => ?_,fun b o e n hb hx => ?_,fun b o e n hx => ?_,fun b o e hx => ?_,fun b xs e => tups b xs (I.base.tups b xs e),fun b o xs e => frzs b o xs (I.base.frzs b o xs e),fun b ps e => ?_⟩,?_,fun x c e => ?_,?_,fun x c e => ?_,fun p hp => ?_,hok,I.len⟩
 ·exact keep b o (neL b o e) hb (neC b o e hx) (I.base.keep b o e n hb hx) (I.base.free b o e n hx)
 ·obtain ⟨sl,e1⟩:=I.base.slot b o e n hb hx
  obtain ⟨sl',e2⟩:=slot b _ (neL b o e) hb (neC b o e hx) e1 (I.base.free b o e n hx)
  exact ⟨sl',e2⟩
 ·obtain ⟨o',e1⟩:=I.base.there b o e hx
  exact free b o' (neC b o e hx) e1 (I.base.free b o e n hx)
 ·obtain ⟨o',e1⟩:=I.base.there b o e hx
  exact there b o' (neC b o e hx) e1
 ·obtain ⟨m1,e1⟩:=I.base.tbls b ps e
  obtain ⟨m2,e2⟩:=tbls b _ e1
  exact ⟨m1++m2,by rw [e2,Array.append_assoc]⟩
 ·(refine Classical.byContradiction fun k_ => ?_; obtain ⟨m,hn,hl⟩:=I.loc; refine k_ ?_; clear k_)
  refine ⟨m,ns m hn,fun i x v e1 e2 e3 => ?_⟩
  (refine Classical.byContradiction fun k_ => ?_; obtain ⟨u,r,l⟩:=hl i x v e1 e2 e3; refine k_ ?_; clear k_)
  refine ⟨u,r,?_⟩
  rcases l with l | ⟨k,c,e,z⟩
  ·exact .inl l
  ·exact .inr ⟨k,c,e,cellK x c e _ z⟩
 ·obtain ⟨v,z⟩:=I.cell x c e
  exact ⟨v,cellK x c e v z⟩
 ·(refine Classical.byContradiction fun k_ => ?_; obtain ⟨m,⟨o,_,_,ho,_⟩,_⟩:=I.loc; refine k_ ?_; clear k_)
  exact free _ o (fun z => (hch _ z).2.1 rfl) ho I.free
 ·(refine Classical.byContradiction fun k_ => ?_; obtain ⟨v,o,ho,hd⟩:=I.cell x c e; refine k_ ?_; clear k_)
  exact free c o (fun z => (hch c z).2.2.1 x c e rfl) ho (I.freeC x c e)
 ·(refine Classical.byContradiction fun k_ => ?_; obtain ⟨e,n,ne,nf,d⟩:=I.pin p hp; refine k_ ?_; clear k_)
  have nch:p.1∉ch:=fun z => (hch p.1 z).2.2.2 p hp rfl
  exact ⟨keep p.1 p.2 ne nf nch e n,free p.1 p.2 nch e n,ne,nf,d⟩
theorem Inv.un {t':Nat} (I:Inv X pins σ H s) (u:Un X.fs [] H H' s.heap h') (hok:HOk X.prog X.w H' h'):Inv X pins σ H' { s with heap:=h',toks:=t' }:=by
 (refine Classical.byContradiction fun k_ => ?_; obtain ⟨m,⟨o,es,ep,ho,r⟩,_⟩:=id I.loc; refine k_ ?_; clear k_)
 obtain ⟨sl,hL⟩:=u.any ho I.free (by simp)
 exact I.step (g':=s.gens) (d':=s.drawn) (ch:=[]) (fun _ z => nomatch z) (fun b o _ hb _ e n => u.keep b o e n hb (by simp)) (fun b o _ hb _ e n => u.slot b o e n hb (by simp)) (fun b o _ e n => u.free b o e n (by simp)) (fun b o _ e => u.there b o e (by simp)) u.tups u.frzs u.tbls (fun m' hm => by
  (refine Classical.byContradiction fun k_ => ?_; obtain ⟨o',es',ep',ho',r'⟩:=hm; refine k_ ?_; clear k_)
  rw [ho] at ho'; cases ho'
  exact ⟨_,es',ep',hL,r'⟩) hok I.bare
theorem Inv.call {g':Array GenState} {t':Nat} {d':Drawn} {ch:List Addr} (I:Inv X pins σ H s) (u:Un (frs X.stack) ch H H' s.heap h') (hok:HOk X.prog X.w H' h') (hg:AllBare g')
  (hch:∀ b∈ch,(b∈X.ex∨X.s₀.heap.objs.size≤b)∧b≠X.env.locals∧(∀ x c,X.env.cells.lookup x = some c→c≠b)∧∀ p∈X.pn++pins,p.1≠b) :
  Inv X pins σ H' { s with heap:=h',gens:=g',drawn:=d',toks:=t' }:=by
 (refine Classical.byContradiction fun k_ => ?_; obtain ⟨m,⟨o,es,ep,ho,r⟩,_⟩:=id I.loc; refine k_ ?_; clear k_)
 obtain ⟨sl,hL⟩:=u.any ho I.free fun z => (hch _ z).2.1 rfl
 exact I.step (ch:=ch) hch (fun b o hL hb hc e n => u.keep b o e n (fun z => (List.mem_cons.mp (I.stkSub b z)).elim hL hb) hc) (fun b o _ _ hc e n => u.any e n hc) (fun b o hc e n => u.free b o e n hc) (fun b o hc e => u.there b o e hc) u.tups u.frzs u.tbls (fun m' hm => by
  (refine Classical.byContradiction fun k_ => ?_; obtain ⟨o',es',ep',ho',r'⟩:=hm; refine k_ ?_; clear k_)
  rw [ho] at ho'; cases ho'
  exact ⟨_,es',ep',hL,r'⟩) hok hg
theorem Inv.turned {t':Nat} {it:Addr} (I:Inv X pins σ H s) (k:∀ b o,b≠it→s.heap.get? b = some o→h'.get? b = some o) (hn:H it = none) (hL:it≠X.env.locals)
  (h1:it∈X.ex∨X.s₀.heap.objs.size≤it) (h2:∀ x c,X.env.cells.lookup x = some c→c≠it) (h3:∀ p∈X.pn++pins,p.1≠it):Inv X pins σ H { s with heap:=h',toks:=t' }:=by
 have nit:∀ b u,H b = some u→b≠it:=fun b u e z => by rw [z,hn] at e; cases e
 refine I.step (g':=s.gens) (d':=s.drawn) (ch:=[it]) (fun b hb => ?_) (fun b o _ _ hc e _ => k b o (fun z => hc (by simp [z])) e) (fun b o _ _ hc e _ => ⟨o.slots,k b o (fun z => hc (by simp [z])) e⟩) (fun _ _ _ _ n => n)
  (fun b o hc e => ⟨o,k b o (fun z => hc (by simp [z])) e⟩) (fun _ _ e => e) (fun _ _ _ e => e) (fun b ps e => ⟨#[],by rw [e]; simp⟩) (fun m hm => ?_) (fun b u e => ?_) I.bare
 ·have e:b = it:=by simpa using hb
  subst e
  exact ⟨h1,hL,h2,h3⟩
 ·(refine Classical.byContradiction fun k_ => ?_; obtain ⟨o,es,ep,ho,r⟩:=hm; refine k_ ?_; clear k_)
  exact ⟨o,es,ep,k _ o (Ne.symm hL) ho,r⟩
 ·refine (I.hok b u e).stay (fun c v hc q => k c v ?_ q) (fun _ q => q) fun _ _ q => q
  rcases hc with z | z
  ·rw [z]; exact nit b u e
  ·exact nit c _ z
theorem Inv.tok (I:Inv X pins σ H s) (t:Nat):Inv X pins σ H { s with toks:=t }:=I.un (h':=s.heap) (t':=t) Un.refl I.hok
theorem Inv.kept {t':Nat} (I:Inv X pins σ H s) (k:∀ b u,s.heap.get? b = some u→h'.get? b = some u):Inv X pins σ H { s with heap:=h',toks:=t' }:=I.un (Un.kept k) (I.hok.kept k)
theorem Inv.laid {a:Addr} {o:HO} {t':Nat} (I:Inv X pins σ H s) (k:∀ b u,s.heap.get? b = some u→h'.get? b = some u) (hp:s.heap.objs.size≤a) (new:ObjOk X.prog X.w (upd H a o) h' a o) :
  Inv X pins σ (upd H a o) { s with heap:=h',toks:=t' }:=I.un (Un.laid k hp (I.hok.fresh hp)) (I.hok.laid k hp new)
theorem Inv.write {x e:Addr} {o:HO} {t':Nat} (I:Inv X pins σ H s) (mu:Mut (H x)) (he:e = x∨H e = some (.own x)) (k:∀ b u,b≠e→s.heap.get? b = some u→h'.get? b = some u) (heo:∃ u,h'.get? e = some u)
  (new:ObjOk X.prog X.w (upd H x o) h' x o):Inv X pins σ (upd H x o) { s with heap:=h',toks:=t' }:=I.un (Un.write mu he k heo) (I.hok.write mu he k heo new)
theorem Inv.weak {σ':List (Option V)} (I:Inv X pins σ H s) (hl:σ'.length = σ.length) (w:∀ (i:Nat) v,σ'[i]? = some (some v)→σ[i]? = some (some v)):Inv X pins σ' H s :=
 ⟨I.ok,I.os,I.bare,I.base,let ⟨m,hn,hl'⟩:=I.loc; ⟨m,hn,fun i x v e1 e2 e3 => hl' i x v e1 (w i v e2) e3⟩,I.cell,I.free,I.freeC,I.pin,I.hok,hl.trans I.len⟩
theorem Inv.pins_of {pins':List (Addr×Obj)} (I:Inv X pins σ H s) (h:∀ p∈pins',s.heap.get? p.1 = some p.2∧H p.1 = none∧p.1≠X.env.locals∧p.1∉X.fs∧∀ v,p.2.data≠.cell v):Inv X pins' σ H s :=
 ⟨I.ok,I.os,I.bare,I.base,I.loc,I.cell,I.free,I.freeC,fun p hp => (List.mem_append.mp hp).elim (fun z => I.pin p (List.mem_append_left _ z)) (h p),I.hok,I.len⟩
theorem nodup_ix {N:List Str} (hN:N.Nodup) {i j:Nat} {x:Str} (a:N[i]? = some x) (b:N[j]? = some x):i = j:=by
 obtain ⟨h1,e1⟩:=List.getElem?_eq_some_iff.mp a
 obtain ⟨h2,e2⟩:=List.getElem?_eq_some_iff.mp b
 exact (List.getElem_inj hN).mp (e1.trans e2.symm)
theorem store_ok2 {M:Model} {A:Around} {E:Value→Shared→Prop} {i:Nat} {x:Str} {v:V} {u:Value} {Q:Unit→Shared→Prop} (I:Inv X pins σ H s) (hN:X.N.Nodup) (hi:X.N[i]? = some x) (hx:Loc X.env.scope x) (r:RelV v u)
  (h:∀ s',Inv X pins (σ.set i (some v)) H s'→(∃ a,Heap.SameBut a s.heap s'.heap∧(a = X.env.locals∨X.env.cells.lookup x = some a))→Q () s') (hf:X.fn x = true∨X.env.scope.names.lookup x = some .local:=by first | exact .inl rfl | exact .inr rfl | assumption):wpAny M A (storeName X.env x u) Q E s:=by
 (refine Classical.byContradiction fun k_ => ?_; obtain ⟨m,hn,hl⟩:=id I.loc; refine k_ ?_; clear k_)
 have hcls:(X.env.scope.kind == .class || (X.env.scope.kind == .module && X.env.locals != X.env.globals)) = false:=by rw [I.ok.kind]; rfl
 have hiσ:i < σ.length:=by rw [I.len]; exact (List.getElem?_eq_some_iff.mp hi).1
 have cne:=I.cne
 have tracked:∀ {a:Addr} {h':Heap},(∃ o,s.heap.get? a = some o∧H a = none)→Heap.SameBut a s.heap h'→HOk X.prog X.w H h':=fun {a h'} ha hs b ob e => by
  (refine Classical.byContradiction fun k_ => ?_; obtain ⟨_,_,hfree⟩:=ha; refine k_ ?_; clear k_)
  refine (I.hok b ob e).stay (fun c w' hc q => (hs.2 c ?_).trans q) (fun _ q => q) fun _ _ q => q
  rintro rfl
  rcases hc with rfl | hc
  ·rw [hfree] at e; cases e
  ·rw [hfree] at hc; cases hc
 rcases hx with hk | hk
 ·refine wpAny_storeName_local hk hn (fun h' hn' hs => ?_) hcls
  (refine Classical.byContradiction fun k_ => ?_; obtain ⟨oL,_,_,hoL,_⟩:=id hn; refine k_ ?_; clear k_)
  refine h _ ⟨I.ok,I.os,I.bare,⟨fun b o e n hb hx => ?_,fun b o e n hb hx => ?_,I.base.free,fun b o e hx => ?_,I.base.tups,I.base.frzs,I.base.tbls⟩,⟨_,hn',fun j y v' e1 e2 e3 => ?_⟩,fun y c e => ?_,I.free,I.freeC,fun p hp => ?_,tracked ⟨oL,hoL,I.free⟩ hs,by simpa using I.len⟩ ⟨_,hs,.inl rfl⟩
  ·exact (hs.2 b (Nat.ne_of_lt (Nat.lt_of_lt_of_le (Heap.lt_size e) I.ok.above))).trans (I.base.keep b o e n hb hx)
  ·obtain ⟨sl,e1⟩:=I.base.slot b o e n hb hx
   exact ⟨sl,(hs.2 b (Nat.ne_of_lt (Nat.lt_of_lt_of_le (Heap.lt_size e) I.ok.above))).trans e1⟩
  ·obtain ⟨o',e1⟩:=I.base.there b o e hx
   exact ⟨o',(hs.2 b (Nat.ne_of_lt (Nat.lt_of_lt_of_le (Heap.lt_size e) I.ok.above))).trans e1⟩
  ·by_cases hj:j = i
   ·subst hj
    rw [hi] at e1; cases e1
    rw [List.getElem?_set_self hiσ] at e2
    cases e2
    exact ⟨u,r,.inl ⟨hk,by simp⟩⟩
   ·rw [List.getElem?_set_ne (Ne.symm hj)] at e2
    (refine Classical.byContradiction fun k_ => ?_; obtain ⟨u',r',q⟩:=hl j y v' e1 e2 e3; refine k_ ?_; clear k_)
    refine ⟨u',r',?_⟩
    rcases q with ⟨k,e⟩ | ⟨k,c,e,z⟩
    ·refine .inl ⟨k,?_⟩
     have:y≠x:=fun e => hj (nodup_ix hN e1 (e▸hi))
     simp [this,e]
    ·exact .inr ⟨k,c,e,z.sameBut hs (cne y c e)⟩
  ·obtain ⟨w',z⟩:=I.cell y c e
   exact ⟨w',z.sameBut hs (cne y c e)⟩
  ·(refine Classical.byContradiction fun k_ => ?_; obtain ⟨e,n,ne,nf,d⟩:=I.pin p hp; refine k_ ?_; clear k_)
   exact ⟨(hs.2 p.1 ne).trans e,n,ne,nf,d⟩
 ·have hfn:X.fn x = true:=by
   rcases hf with z | z
   ·exact z
   ·rw [z] at hk; cases hk
  obtain ⟨c,hc⟩:=I.ok.has x (.inl hk)
  obtain ⟨w',z⟩:=I.cell x c hc
  refine wpAny_storeName_cell I.ok.kind hk hc z (fun h' hc' hs => ?_)
  (refine Classical.byContradiction fun k_ => ?_; obtain ⟨oc,hoc,hocd⟩:=id z; refine k_ ?_; clear k_)
  refine h { s with heap:=h' } ⟨I.ok,I.os,I.bare,⟨fun b o e n hb hx => ?_,fun b o e n hb hx => ?_,I.base.free,fun b o e hx => ?_,I.base.tups,I.base.frzs,I.base.tbls⟩,⟨m,hn.sameBut hs (Ne.symm (cne x c hc)),fun j y v' e1 e2 e3 => ?_⟩,fun y c' e => ?_,I.free,I.freeC,fun p hp => ?_,tracked ⟨oc,hoc,I.freeC x c hc⟩ hs,by simpa using I.len⟩ ⟨c,hs,.inr hc⟩
  ·exact (hs.2 b (Nat.ne_of_lt (Nat.lt_of_lt_of_le (Heap.lt_size e) (I.ok.cab x c hfn hc)))).trans (I.base.keep b o e n hb hx)
  ·obtain ⟨sl,e1⟩:=I.base.slot b o e n hb hx
   exact ⟨sl,(hs.2 b (Nat.ne_of_lt (Nat.lt_of_lt_of_le (Heap.lt_size e) (I.ok.cab x c hfn hc)))).trans e1⟩
  ·obtain ⟨o',e1⟩:=I.base.there b o e hx
   exact ⟨o',(hs.2 b (Nat.ne_of_lt (Nat.lt_of_lt_of_le (Heap.lt_size e) (I.ok.cab x c hfn hc)))).trans e1⟩
  ·by_cases hj:j = i
   ·subst hj
    rw [hi] at e1; cases e1
    rw [List.getElem?_set_self hiσ] at e2
    cases e2
    exact ⟨u,r,.inr ⟨.inl hk,c,hc,hc'⟩⟩
   ·rw [List.getElem?_set_ne (Ne.symm hj)] at e2
    (refine Classical.byContradiction fun k_ => ?_; obtain ⟨u',r',q⟩:=hl j y v' e1 e2 e3; refine k_ ?_; clear k_)
    refine ⟨u',r',?_⟩
    rcases q with q | ⟨k,c',e,z'⟩
    ·exact .inl q
    ·refine .inr ⟨k,c',e,z'.sameBut hs ?_⟩
     rintro rfl
     exact hj (nodup_ix hN e1 (I.ok.inj _ _ _ e hc▸hi))
  ·by_cases hcc:c' = c
   ·subst hcc; exact ⟨_,hc'⟩
   ·obtain ⟨w2,z2⟩:=I.cell y c' e
    exact ⟨w2,z2.sameBut hs hcc⟩
  ·(refine Classical.byContradiction fun k_ => ?_; obtain ⟨e,n,ne,nf,d⟩:=I.pin p hp; refine k_ ?_; clear k_)
   refine ⟨(hs.2 p.1 ?_).trans e,n,ne,nf,d⟩
   intro q
   rw [q,hoc] at e
   have q':oc = p.2:=Option.some.inj e
   exact d w' (by rw [← q']; exact hocd)
theorem store_ok {M:Model} {A:Around} {E:Value→Shared→Prop} {i:Nat} {x:Str} {v:V} {u:Value} {Q:Unit→Shared→Prop} (I:Inv X pins σ H s) (hN:X.N.Nodup) (hi:X.N[i]? = some x) (hx:Loc X.env.scope x) (r:RelV v u)
  (h:∀ s',Inv X pins (σ.set i (some v)) H s'→Q () s') (hf:X.fn x = true∨X.env.scope.names.lookup x = some .local:=by first | exact .inl rfl | exact .inr rfl | assumption):wpAny M A (storeName X.env x u) Q E s :=
 store_ok2 I hN hi hx r (fun s' I' _ => h s' I') hf
theorem Inv.call' {s':Shared} {ch:List Addr} (I:Inv X pins σ H s) (ho:s'.os = s.os) (u:Un (frs X.stack) ch H H' s.heap s'.heap) (hok:HOk X.prog X.w H' s'.heap) (hg:AllBare s'.gens)
  (hch:∀ b∈ch,(b∈X.ex∨X.s₀.heap.objs.size≤b)∧b≠X.env.locals∧(∀ x c,X.env.cells.lookup x = some c→c≠b)∧∀ p∈X.pn++pins,p.1≠b):Inv X pins σ H' s':=by
 (refine Classical.byContradiction fun k_ => ?_; obtain ⟨h',g',d',t',o'⟩:=s'; refine k_ ?_; clear k_)
 have e:o' = s.os:=ho
 subst e
 exact I.call (g':=g') (t':=t') (d':=d') u hok hg hch
end
abbrev XK:=Value→Option Addr→Hp→Prop
abbrev St:=List (Option V)
abbrev VK:=V→Hp→Prop
abbrev TE:=St→Hp→VK→Prop
abbrev TT:=St→Hp→(Bool→Hp→Prop)→Prop
abbrev TA:=St→Hp→(List V→Hp→Prop)→Prop
structure Ends where
 nx:St→Hp→Prop
 rt:VK
 bk:St→Hp→Prop:=fun _ _ => False
 ct:St→Hp→Prop:=fun _ _ => False
abbrev TS:=Ends→St→Hp→Prop
def EP (X:Cx) (pins:List (Addr×Obj)) (σ:St) (Q:VK) (u:Value) (s':Shared):Prop:=∃ v H',Inv X pins σ H' s'∧RelV v u∧Q v H'
def TP (X:Cx) (pins:List (Addr×Obj)) (σ:St) (Q:Bool→Hp→Prop) (b:Bool) (s':Shared):Prop:=∃ H',Inv X pins σ H' s'∧Q b H'
def AP (X:Cx) (pins:List (Addr×Obj)) (σ:St) (Q:List V→Hp→Prop) (us:List Value) (s':Shared):Prop:=∃ vs H',Inv X pins σ H' s'∧Vals vs us∧Q vs H'
def SP (X:Cx) (pins:List (Addr×Obj)) (D:Ends) (f:Flow) (s':Shared):Prop :=
 match f with
 | .next => ∃ σ' H',Inv X pins σ' H' s'∧D.nx σ' H'
 | .brk => ∃ σ' H',Inv X pins σ' H' s'∧D.bk σ' H'
 | .cont => ∃ σ' H',Inv X pins σ' H' s'∧D.ct σ' H'
 | .ret u => ∃ v σ' H',Inv X pins σ' H' s'∧RelV v u∧D.rt v H'
def PE (X:Cx) (e:Expr) (t:TE):Prop :=
 ∀ (pins:List (Addr×Obj)) (s:Shared) (σ:St) (H:Hp) (Q:VK),Inv X pins σ H s→t σ H Q→wpAny (model X.prog X.w) X.A (eval e X.env) (EP X pins σ Q) X.xe s
def PT (X:Cx) (e:Expr) (t:TT):Prop :=
 ∀ (pins:List (Addr×Obj)) (s:Shared) (σ:St) (H:Hp) (Q:Bool→Hp→Prop),Inv X pins σ H s→t σ H Q→wpAny (model X.prog X.w) X.A (isTrue e X.env (eval e X.env)) (TP X pins σ Q) X.xe s
def PW (X:Cx) (e:Expr) (t:TT):Prop :=
 ∀ (whole:Sem Value) (pins:List (Addr×Obj)) (s:Shared) (σ:St) (H:Hp) (Q:Bool→Hp→Prop),Inv X pins σ H s→t σ H Q→wpAny (model X.prog X.w) X.A (isTrue e X.env whole) (TP X pins σ Q) X.xe s
theorem PW.pt {X:Cx} {e:Expr} {t:TT} (h:PW X e t):PT X e t:=h _
def PA (X:Cx) (es:List Expr) (t:TA):Prop :=
 ∀ (pos:Pos) (pins:List (Addr×Obj)) (s:Shared) (σ:St) (H:Hp) (Q:List V→Hp→Prop),Inv X pins σ H s→t σ H Q→wpAny (model X.prog X.w) X.A (spliced (backTo pos (starEach es X.env))) (AP X pins σ Q) X.xe s
def PS (X:Cx) (st:Stmt) (t:TS):Prop :=
 ∀ (pins:List (Addr×Obj)) (s:Shared) (σ:St) (H:Hp) (D:Ends),Inv X pins σ H s→t D σ H→wpAny (model X.prog X.w) X.A (exec st X.env) (SP X pins D) X.xe s
def PSs (X:Cx) (st:List Stmt) (t:TS):Prop :=
 ∀ (pins:List (Addr×Obj)) (s:Shared) (σ:St) (H:Hp) (D:Ends),Inv X pins σ H s→t D σ H→wpAny (model X.prog X.w) X.A (execs st X.env) (SP X pins D) X.xe s
theorem thn {α:Type} {t:Sem α} {Q Q':α→Shared→Prop} {M:Model} {A:Around} {E:Value→Shared→Prop} {s:Shared} (h:wpAny M A t Q E s) (hQ:∀ a s,Q a s→Q' a s):wpAny M A t Q' E s:=wpAny_mono h hQ fun _ _ x => x
end L2
namespace L2
open PySem PySem.Spec PyProof.Rows
section
variable {X:Cx}
def tVar (i:Nat):TE:=fun σ H Q => ∃ v,σ[i]? = some (some v)∧Q v H
def tC (v:V):TE:=fun _ H Q => Q v H
theorem pe_var {i:Nat} {x:Str} {pos:Pos} (hN:X.N[i]? = some x) (hv:Vis X.env.scope x) (hd:(x == ("__debug__" : Str)) = false:=by decide) (hcd:(x == ("__classdict__" : Str)) = false:=by decide):PE X (.Name x pos) (tVar i):=by
 intro pins s σ H Q I h
 (refine Classical.byContradiction fun k_ => ?_; obtain ⟨v,e,h⟩:=h; refine k_ ?_; clear k_)
 (refine Classical.byContradiction fun k_ => ?_; obtain ⟨m,hn,hl⟩:=I.loc; refine k_ ?_; clear k_)
 (refine Classical.byContradiction fun k_ => ?_; obtain ⟨u,r,l⟩:=hl i x v hN e hv; refine k_ ?_; clear k_)
 have fin:EP X pins σ Q u s:=⟨v,H,I,r,h⟩
 rcases l with ⟨hk,hm⟩ | ⟨hk,c,hc,hcell⟩
 ·exact wpAny_Name (wpAny_loadName_local I.ok.kind hk hn hm fin) hd
 ·rcases hk with hk | hk
  ·exact wpAny_Name (wpAny_loadName_cell I.ok.kind hk hc hcell fin) hd
  ·exact wpAny_Name (wpAny_loadName_free I.ok.kind hk hc hcell fin hcd) hd
theorem pe_int {i j pos}:PE X (.Constant (.int i) j pos) (tC (.int i)):=fun _ _ _ H _ I h => wpAny_Constant_int ⟨.int i,H,I.tok _,⟨_,rfl⟩,h⟩
theorem pe_bl {b j pos}:PE X (.Constant (.bool b) j pos) (tC (.bl b)):=fun _ _ _ H _ I h => Constant_bool ⟨.bl b,H,I,rfl,h⟩
theorem pe_str {x j pos}:PE X (.Constant (.str x) j pos) (tC (.str x)):=fun _ _ _ H _ I h => Calls.Constant_str ⟨.str x,H,I.tok _,⟨_,rfl⟩,h⟩
def Gl (X:Cx) (x:Str):Prop:=X.env.kindOf x = some .globalImplicit
theorem ld_glob {E:Value→Shared→Prop} {pins:List (Addr×Obj)} {s:Shared} {σ:St} {H:Hp} {x:Str} {u:Value} {pos:Pos} {Q:Value→Shared→Prop} (I:Inv X pins σ H s) (hg:Gl X x) (hm:X.mg x = some u) (h:Q u s)
  (hd:(x == ("__debug__" : Str)) = false:=by decide):wpAny (model X.prog X.w) X.A (eval (.Name x pos) X.env) Q E s :=
 Calls.Name_function_global I.ok.kind hg (Calls.loadGlobal_global (by rw [I.ok.glob]; exact I.mod.glob.keeps I.bk) hm h) hd
theorem ld_blt {E:Value→Shared→Prop} {pins:List (Addr×Obj)} {s:Shared} {σ:St} {H:Hp} {x:Str} {u:Value} {pos:Pos} {Q:Value→Shared→Prop} (I:Inv X pins σ H s) (hg:Gl X x) (hm:X.mg x = none) (hv:bootBuiltins x = some u) (h:Q u s)
  (hn:x ≠ "__name__":=by decide) (hd:(x == ("__debug__" : Str)) = false:=by decide):wpAny (model X.prog X.w) X.A (eval (.Name x pos) X.env) Q E s:=by
 (refine Classical.byContradiction fun k_ => ?_; obtain ⟨mb,h1,h2⟩:=I.mod.blt; refine k_ ?_; clear k_)
 exact Calls.Name_function_global I.ok.kind hg (Calls.loadGlobal_builtin (by rw [I.ok.glob]; exact I.mod.glob.keeps I.bk) hm (by rw [I.ok.blt]; exact h1.keeps I.bk) ((h2 x hn).trans hv) h) hd
theorem pe_glob {x:Str} {v:V} {u:Value} {pos:Pos} (hg:Gl X x) (hm:X.mg x = some u) (r:RelV v u) (hd:(x == ("__debug__" : Str)) = false:=by decide):PE X (.Name x pos) (tC v) :=
 fun _ _ _ H _ I h => ld_glob I hg hm ⟨v,H,I,r,h⟩ hd
theorem pe_bltn {x:Str} {v:V} {u:Value} {pos:Pos} (hg:Gl X x) (hm:X.mg x = none) (hv:bootBuiltins x = some u) (r:RelV v u) (hn:x ≠ "__name__":=by decide) (hd:(x == ("__debug__" : Str)) = false:=by decide):PE X (.Name x pos) (tC v) :=
 fun _ _ _ H _ I h => ld_blt I hg hm hv ⟨v,H,I,r,h⟩ hn hd
variable {a b:Expr} {ta tb:TE} {pos:Pos}
def PC (X:Cx) (op:CmpOp) (a b:Expr) (t:TE):Prop :=
 ∀ (pins:List (Addr×Obj)) (s:Shared) (σ:St) (H:Hp) (Q:VK),Inv X pins σ H s→t σ H Q →
  wpAny (model X.prog X.w) X.A (eval a X.env) (fun v s₁ => wpAny (model X.prog X.w) X.A (eval b X.env) (fun u s₂ => wpAny (model X.prog X.w) X.A (compareOp op v u) (EP X pins σ Q) X.xe s₂) X.xe s₁) X.xe s
theorem nobehind (b:Expr) {op:CmpOp} (h:op≠.In) (h2:op≠.NotIn):behindInMarks op b = false:=by
 have e1:(op == CmpOp.In) = false:=by cases op <;> first | rfl | exact absurd rfl h
 have e2:(op == CmpOp.NotIn) = false:=by cases op <;> first | rfl | exact absurd rfl h2
 cases b <;> simp [behindInMarks,e1,e2]
def tB (t:TE):TT:=fun σ H Q => t σ H fun x H1 => ∃ c,x = .bl c∧Q c H1
theorem pt_cmp {op:CmpOp} {t:TE} (h:PC X op a b t) (h1:behindInMarks op b = false:=by first | exact nobehind _ (by decide) (by decide) | rfl):PT X (.Compare a [op] [b] pos) (tB t):=by
 intro pins s σ H Q I hw
 refine wpAny_isTrue_Compare1 (thn (h pins s σ H _ I hw) fun v s1 h1 => thn h1 fun u s2 h2 => thn h2 fun c s3 zz => ?_) h1
 (refine Classical.byContradiction fun k_ => ?_; obtain ⟨x,H1,I1,r1,q1⟩:=zz; refine k_ ?_; clear k_)
 (refine Classical.byContradiction fun k_ => ?_; obtain ⟨d,rfl,q⟩:=q1; refine k_ ?_; clear k_)
 cases r1
 exact wpAny_truthy_bool ⟨H1,I1,q⟩
theorem pt_val {e:Expr} {t:TE} (h:PE X e t) (he:∀ whole,isTrue e X.env whole = (do let v ← whole; standAt e.pos; holding [v] (truthy v)):=by intro _; rfl):PT X e (tB t):=by
 intro pins s σ H Q I hw
 refine isTrue_plain (thn (h pins s σ H _ I hw) fun v s1 zz => ?_) (he _)
 (refine Classical.byContradiction fun k_ => ?_; obtain ⟨x,H1,I1,r1,q1⟩:=zz; refine k_ ?_; clear k_)
 (refine Classical.byContradiction fun k_ => ?_; obtain ⟨d,rfl,q⟩:=q1; refine k_ ?_; clear k_)
 cases r1
 exact wpAny_truthy_bool ⟨H1,I1,q⟩
variable {tA tB':TT} {rest:List Expr}
def tAnd (t u:TT):TT:=fun σ H Q => t σ H fun c H1 => if c = true then u σ H1 Q else Q false H1
def tOr (t u:TT):TT:=fun σ H Q => t σ H fun c H1 => if c = true then Q true H1 else u σ H1 Q
def tNot (t:TT):TT:=fun σ H Q => t σ H fun c H1 => Q (!c) H1
theorem pw_and1 (ha:PT X a tA):PW X (.BoolOp .And [a] pos) tA:=by
 intro wh pins s σ H Q I h
 refine isTrue_and (thn (ha pins s σ H Q I h) fun c s1 e => ?_)
 cases c with
 | true => exact isTrue_and_nil e
 | false => exact e
theorem pw_or1 (ha:PT X a tA):PW X (.BoolOp .Or [a] pos) tA:=by
 intro wh pins s σ H Q I h
 refine isTrue_or (thn (ha pins s σ H Q I h) fun c s1 e => ?_)
 cases c with
 | false => exact isTrue_or_nil e
 | true => exact e
theorem pw_and (ha:PT X a tA) (hb:PW X (.BoolOp .And (b::rest) pos) tB'):PW X (.BoolOp .And (a::b::rest) pos) (tAnd tA tB'):=by
 intro wh pins s σ H Q I h
 refine isTrue_and (thn (ha pins s σ H _ I h) fun c s1 zz => ?_)
 (refine Classical.byContradiction fun k_ => ?_; obtain ⟨H1,I1,q1⟩:=zz; refine k_ ?_; clear k_)
 cases c with
 | true => exact hb wh pins s1 σ H1 Q I1 q1
 | false => exact ⟨H1,I1,q1⟩
theorem pw_or (ha:PT X a tA) (hb:PW X (.BoolOp .Or (b::rest) pos) tB'):PW X (.BoolOp .Or (a::b::rest) pos) (tOr tA tB'):=by
 intro wh pins s σ H Q I h
 refine isTrue_or (thn (ha pins s σ H _ I h) fun c s1 zz => ?_)
 (refine Classical.byContradiction fun k_ => ?_; obtain ⟨H1,I1,q1⟩:=zz; refine k_ ?_; clear k_)
 cases c with
 | true => exact ⟨H1,I1,q1⟩
 | false => exact hb wh pins s1 σ H1 Q I1 q1
theorem pt_not (ha:PT X a tA):PT X (.UnaryOp .Not a pos) (tNot tA):=by
 intro pins s σ H Q I h
 exact isTrue_not (ha pins s σ H (fun c H1 => Q (!c) H1) I h)
def tAndV (ta tb:TE):TE:=fun σ H Q => ta σ H fun x H1 => ∃ c,x = .bl c∧if c = true then tb σ H1 Q else Q (.bl false) H1
def tNotV (ta:TE):TE:=fun σ H Q => ta σ H fun x H1 => ∃ c,x = .bl c∧Q (.bl (!c)) H1
theorem pe_one {op} {t:TE} (h:PE X a t):PE X (.BoolOp op [a] pos) t:=fun pins s σ H Q I hw => BoolOp_one (h pins s σ H Q I hw)
theorem pe_and (ha:PE X a ta) (hb:PE X (.BoolOp .And (b::rest) pos) tb):PE X (.BoolOp .And (a::b::rest) pos) (tAndV ta tb):=by
 intro pins s σ H Q I h
 refine BoolOp_and (thn (ha pins s σ H _ I h) fun v s1 zz => ?_)
 (refine Classical.byContradiction fun k_ => ?_; obtain ⟨x,H1,I1,r1,q1⟩:=zz; refine k_ ?_; clear k_)
 (refine Classical.byContradiction fun k_ => ?_; obtain ⟨c,rfl,q1⟩:=q1; refine k_ ?_; clear k_)
 cases r1
 refine wpAny_truthy_bool ?_
 cases c with
 | true => exact hb pins s1 σ H1 Q I1 q1
 | false => exact ⟨.bl false,H1,I1,rfl,q1⟩
theorem pe_not (ha:PE X a ta):PE X (.UnaryOp .Not a pos) (tNotV ta):=by
 intro pins s σ H Q I h
 refine UnaryOp_ (thn (ha pins s σ H _ I h) fun v s1 zz => ?_)
 (refine Classical.byContradiction fun k_ => ?_; obtain ⟨x,H1,I1,r1,q1⟩:=zz; refine k_ ?_; clear k_)
 (refine Classical.byContradiction fun k_ => ?_; obtain ⟨c,rfl,q1⟩:=q1; refine k_ ?_; clear k_)
 cases r1
 exact not_of (wpAny_truthy_bool ⟨.bl (!c),H1,I1,rfl,q1⟩)
end
end L2
namespace L2
open PySem PySem.Spec PyProof.Rows
def SqL (K:PySem.W.Frag) (H:Hp) (a:Addr) (xs:List V):Prop :=
 Rd H a (.lst xs) ∨
  ∃ (o:Obj) (its:Array Value) (n:Nat),K.lookup a = some o∧o.cls = .type "list"∧o.dict = none∧o.data = .seq its n∧its.size≤sizeLine∧Vals xs its.toList
def SqT (K:PySem.W.Frag) (H:Hp) (a:Addr) (xs:List V):Prop :=
 Rd H a (.tup xs) ∨
  ∃ (o:Obj) (its:Array Value) (n:Nat),K.lookup a = some o∧o.cls = .type "tuple"∧o.data = .seq its n∧its.size≤sizeLine∧Vals xs its.toList
def absV:Value→Option V
 | .none => some .non
 | .bool b => some (.bl b)
 | .int i _ => some (.int i)
 | .str x _ => some (.str x)
 | .bytes b _ => some (.byt b)
 | .float b _ => some (.flt b)
 | .ref a => some (.ref a)
 | .type n => some (.ty n)
 | _ => none
theorem RelV.abs {x:V} {u:Value} (r:RelV x u):absV u = some x:=by
 cases x with
 | non => cases r; rfl
 | bl _ => cases r; rfl
 | int _ => obtain ⟨t,rfl⟩:=r; rfl
 | str _ => obtain ⟨t,rfl⟩:=r; rfl
 | byt _ => obtain ⟨t,rfl⟩:=r; rfl
 | flt _ => obtain ⟨t,rfl⟩:=r; rfl
 | ref _ => cases r; rfl
 | ty _ => cases r; rfl
theorem RelV.inj {x y:V} {u:Value} (r:RelV x u) (q:RelV y u):x = y:=Option.some.inj (r.abs.symm.trans q.abs)
theorem Vals.inj:∀ {xs ys:List V} {us:List Value},Vals xs us→Vals ys us→xs = ys
 | _,_,_,.nil,.nil => rfl
 | _,_,_,.cons r t,.cons r' t' => by rw [r.inj r',Vals.inj t t']
section
variable {X:Cx} {pins:List (Addr×Obj)} {σ:St} {H:Hp} {s:Shared} {a:Addr} {xs ys:List V}
theorem SqL.of {K:PySem.W.Frag} (h:H a = some (.lst xs)):SqL K H a xs:=.inl (.inl h)
theorem SqT.of {K:PySem.W.Frag} (h:H a = some (.tup xs)):SqT K H a xs:=.inl (.inl h)
theorem Inv.list (I:Inv X pins σ H s) (h:SqL X.K H a xs):∃ its:List Value,Vals xs its∧PlainL s.heap a its.toArray∧xs.length≤sizeLine:=by
 rcases h with h | ⟨o,its,n,hk,hc,hd,hs,hz,r⟩
 ·(refine Classical.byContradiction fun k_ => ?_; obtain ⟨z,its,n,r,e⟩:=h.ok I.hok; refine k_ ?_; clear k_)
  exact ⟨its,r,⟨_,n,e,rfl,rfl,rfl⟩,z⟩
 ·refine ⟨its.toList,r,⟨o,n,I.kIn a o hk,hc,hd,by simpa using hs⟩,?_⟩
  have e:=r.length
  simp only [Array.length_toList] at e
  omega
theorem Inv.tuple (I:Inv X pins σ H s) (h:SqT X.K H a xs):∃ its:List Value,Vals xs its∧IsTup s.heap a its.toArray∧xs.length≤sizeLine:=by
 rcases h with h | ⟨o,its,n,hk,hc,hs,hz,r⟩
 ·(refine Classical.byContradiction fun k_ => ?_; obtain ⟨z,its,r,p⟩:=h.ok I.hok; refine k_ ?_; clear k_)
  exact ⟨its,r,p,z⟩
 ·refine ⟨its.toList,r,⟨o,I.kIn a o hk,hc,n,by simpa using hs⟩,?_⟩
  have e:=r.length
  simp only [Array.length_toList] at e
  omega
theorem Inv.list_inj (I:Inv X pins σ H s) (h:SqL X.K H a xs) (h':SqL X.K H a ys):xs = ys:=by
 (refine Classical.byContradiction fun k_ => ?_; obtain ⟨its,r,⟨o,n,e,_,_,d⟩,_⟩:=I.list h; refine k_ ?_; clear k_)
 (refine Classical.byContradiction fun k_ => ?_; obtain ⟨its',r',⟨o',n',e',_,_,d'⟩,_⟩:=I.list h'; refine k_ ?_; clear k_)
 rw [e] at e'; cases e'
 rw [d] at d'
 injection d' with d1 _
 have:its = its':=by simpa using congrArg Array.toList d1
 subst this
 exact r.inj r'
theorem Inv.tuple_inj (I:Inv X pins σ H s) (h:SqT X.K H a xs) (h':SqT X.K H a ys):xs = ys:=by
 (refine Classical.byContradiction fun k_ => ?_; obtain ⟨its,r,⟨o,e,_,n,d⟩,_⟩:=I.tuple h; refine k_ ?_; clear k_)
 (refine Classical.byContradiction fun k_ => ?_; obtain ⟨its',r',⟨o',e',_,n',d'⟩,_⟩:=I.tuple h'; refine k_ ?_; clear k_)
 rw [e] at e'; cases e'
 rw [d] at d'
 injection d' with d1 _
 have:its = its':=by simpa using congrArg Array.toList d1
 subst this
 exact r.inj r'
end
abbrev Cx.wish (X:Cx) (E:Value→Shared→Prop):Cx:={ X with xe:=E }
abbrev Cx.nox (X:Cx):Cx:=X.wish fun _ _ => False
theorem Cx.Ok.wish {X:Cx} (ok:X.Ok) (E:Value→Shared→Prop):(X.wish E).Ok :=
 ⟨ok.mod,ok.kind,ok.glob,ok.blt,ok.above,ok.inj,ok.has,ok.cab,ok.hd,ok.frames,ok.stk,ok.exf,ok.bs,ok.bsz,ok.noex,ok.exfs,ok.funs,ok.frf⟩
theorem Cx.Ok.unwish {X:Cx} {E:Value→Shared→Prop} (ok:(X.wish E).Ok):X.Ok :=
 ⟨ok.mod,ok.kind,ok.glob,ok.blt,ok.above,ok.inj,ok.has,ok.cab,ok.hd,ok.frames,ok.stk,ok.exf,ok.bs,ok.bsz,ok.noex,ok.exfs,ok.funs,ok.frf⟩
section
variable {X:Cx} {pins:List (Addr×Obj)} {σ:St} {H:Hp} {s:Shared} {E:Value→Shared→Prop}
theorem Inv.wish (I:Inv X pins σ H s) (E:Value→Shared→Prop):Inv (X.wish E) pins σ H s:=⟨I.ok.wish E,I.os,I.bare,I.base,I.loc,I.cell,I.free,I.freeC,I.pin,I.hok,I.len⟩
theorem Inv.unwish (I:Inv (X.wish E) pins σ H s):Inv X pins σ H s:=⟨I.ok.unwish,I.os,I.bare,I.base,I.loc,I.cell,I.free,I.freeC,I.pin,I.hok,I.len⟩
theorem SP.unwish {D:Ends} {f:Flow} {s':Shared} (h:SP (X.wish E) pins D f s'):SP X pins D f s':=by
 cases f with
 | next => obtain ⟨σ',H',I,q⟩:=h; exact ⟨σ',H',I.unwish,q⟩
 | brk => obtain ⟨σ',H',I,q⟩:=h; exact ⟨σ',H',I.unwish,q⟩
 | cont => obtain ⟨σ',H',I,q⟩:=h; exact ⟨σ',H',I.unwish,q⟩
 | ret u => obtain ⟨v,σ',H',I,r,q⟩:=h; exact ⟨v,σ',H',I.unwish,r,q⟩
theorem PSs.nox {st:List Stmt} {t:TS} (h:PSs X.nox st t):PSs X st t:=fun pins s σ H D I hw =>
 wpAny_mono (h pins s σ H D (I.wish _) hw) (fun _ _ q => q.unwish) fun _ _ z => False.elim z
end
section
variable {X:Cx} {st:Stmt} {rest:List Stmt} {t u:TS} {e:Expr} {te:TE} {pos:Pos}
def tNext:TS:=fun D σ H => D.nx σ H
def tSeq (t u:TS):TS:=fun D σ H => t { D with nx:=u D } σ H
theorem pss_nil:PSs X [] tNext:=fun _ _ σ H _ I h => wpAny_execs_nil ⟨σ,H,I,h⟩
theorem pss_cons (h1:PS X st t) (h2:PSs X rest u):PSs X (st::rest) (tSeq t u):=by
 intro pins s σ H D I h
 refine wpAny_execs_cons (thn (h1 pins s σ H { D with nx:=u D } I h) fun f s1 q => ?_)
 cases f with
 | next =>
  (refine Classical.byContradiction fun k_ => ?_; obtain ⟨σ',H',I',q⟩:=q; refine k_ ?_; clear k_)
  exact h2 pins s1 σ' H' D I' q
 | ret v => exact q
 | brk => exact q
 | cont => exact q
theorem pss_one (h1:PS X st t):PSs X [st] t:=by
 intro pins s σ H D I h
 refine wpAny_execs_cons (thn (h1 pins s σ H D I h) fun f s1 q => ?_)
 cases f with
 | next => exact wpAny_execs_nil q
 | ret v => exact q
 | brk => exact q
 | cont => exact q
def tBreak:TS:=fun D σ H => D.bk σ H
theorem ps_break:PS X (.Break pos) tBreak:=fun _ _ σ H _ I h => wpAny_Break ⟨σ,H,I,h⟩
theorem Inv.quiet {pins:List (Addr×Obj)} {σ:St} {H:Hp} {s:Shared} (I:Inv X pins σ H s):interactive X.env = false:=by simp [interactive,I.ok.kind]
def tDrop (te:TE):TS:=fun D σ H => te σ H fun _ H1 => D.nx σ H1
theorem ps_expr (he:PE X e te) (hs:swapsWith e none pos.line X.env = pure false:=by rfl):PS X (.Expr e pos) (tDrop te):=by
 intro pins s σ H D I h
 exact wpAny_Expr_any (thn (he pins s σ H _ I h) fun v s1 ⟨x,H1,I1,r1,q1⟩ => ⟨σ,H1,I1,q1⟩) I.quiet hs
def tRet (te:TE):TS:=fun D σ H => te σ H D.rt
theorem ps_ret (he:PE X e te):PS X (.Return (some e) pos) (tRet te):=by
 intro pins s σ H D I h
 exact wpAny_Return_some (thn (he pins s σ H _ I h) fun v s1 ⟨x,H1,I1,r1,q1⟩ => ⟨x,σ,H1,I1,r1,q1⟩)
def tIfS (c:TT) (t u:TS):TS:=fun D σ H => c σ H fun b H1 => if b = true then t D σ H1 else u D σ H1
theorem ps_if {c:Expr} {a b:List Stmt} {tc:TT} (hc:PT X c tc) (ha:PSs X a t) (hb:PSs X b u):PS X (.If c a b pos) (tIfS tc t u):=by
 intro pins s σ H D I h
 refine wpAny_If (thn (hc pins s σ H _ I h) fun d s1 zz => ?_)
 (refine Classical.byContradiction fun k_ => ?_; obtain ⟨H1,I1,q1⟩:=zz; refine k_ ?_; clear k_)
 cases d with
 | true => exact ha pins s1 σ H1 D I1 q1
 | false => exact hb pins s1 σ H1 D I1 q1
end
abbrev TG:=V→St→Hp→(St→Hp→Prop)→Prop
abbrev TGs:=List V→St→Hp→(St→Hp→Prop)→Prop
def PG (X:Cx) (target:Expr) (t:TG):Prop :=
 ∀ (pins:List (Addr×Obj)) (s:Shared) (σ:St) (H:Hp) (v:V) (u:Value) (Q:St→Hp→Prop),Inv X pins σ H s→RelV v u→t v σ H Q →
  wpAny (model X.prog X.w) X.A (assign target X.env u) (fun _ s' => ∃ σ' H',Inv X pins σ' H' s'∧Q σ' H') X.xe s
def PGs (X:Cx) (ts:List Expr) (t:TGs):Prop :=
 ∀ (pins:List (Addr×Obj)) (s:Shared) (σ:St) (H:Hp) (vs:List V) (us:List Value) (Q:St→Hp→Prop),Inv X pins σ H s→Vals vs us→t vs σ H Q →
  wpAny (model X.prog X.w) X.A (assignInOrder ((assignEach ts X.env).map (·.2)) us) (fun _ s' => ∃ σ' H',Inv X pins σ' H' s'∧Q σ' H') X.xe s
abbrev TIp:=V→V→Hp→VK→Prop
def PIp (X:Cx) (op:Operator) (t:TIp):Prop :=
 ∀ (pins:List (Addr×Obj)) (s:Shared) (σ:St) (H:Hp) (x y:V) (v u:Value) (Q:VK),Inv X pins σ H s→RelV x v→RelV y u→t x y H Q →
  wpAny (model X.prog X.w) X.A (inplaceOp op v u) (EP X pins σ Q) X.xe s
section
variable {X:Cx} {pos:Pos}
def gName (i:Nat):TG:=fun v σ H Q => Q (σ.set i (some v)) H
theorem pg_name {i:Nat} {x:Str} (hN:X.N.Nodup) (hi:X.N[i]? = some x) (hx:Loc X.env.scope x) (hf:X.fn x = true∨X.env.scope.names.lookup x = some .local:=by first | exact .inl rfl | exact .inr rfl | assumption):PG X (.Name x pos) (gName i):=by
 intro pins s σ H v u Q I r h
 exact wpAny_assign_Name (store_ok I hN hi hx r (fun s' I' => ⟨_,H,I',h⟩) hf)
def gNil:TGs:=fun vs σ H Q => vs = []∧Q σ H
def gCons (t:TG) (u:TGs):TGs:=fun vs σ H Q => ∃ v r,vs = v::r∧t v σ H fun σ' H' => u r σ' H' Q
theorem pgs_nil:PGs X [] gNil:=by
 intro pins s σ H vs us Q I r h
 obtain ⟨e,h⟩:=h
 subst e
 cases r
 exact assignInOrder_nil ⟨σ,H,I,h⟩
theorem pgs_cons {e:Expr} {es:List Expr} {t:TG} {u:TGs} (h1:PG X e t) (h2:PGs X es u)
  (hs:(assignEach (e::es) X.env).map (·.2) = assign e X.env::(assignEach es X.env).map (·.2):=by rfl):PGs X (e::es) (gCons t u):=by
 intro pins s σ H vs us Q I r h
 (refine Classical.byContradiction fun k_ => ?_; obtain ⟨v,vr,e1,h⟩:=h; refine k_ ?_; clear k_)
 subst e1
 cases r with
 | cons r rr =>
  rw [hs]
  refine assignInOrder_cons (thn (h1 pins s σ H _ _ _ I r h) fun _ s1 zz => ?_)
  (refine Classical.byContradiction fun k_ => ?_; obtain ⟨σ1,H1,I1,q1⟩:=zz; refine k_ ?_; clear k_)
  exact h2 pins s1 σ1 H1 _ _ Q I1 rr q1
def gTup (K:PySem.W.Frag) (n:Nat) (t:TGs):TG:=fun v σ H Q => ∃ a xs,v = .ref a∧SqT K H a xs∧xs.length = n∧t xs σ H Q
theorem pg_tup {es:List Expr} {k:Nat} {t:TGs} {n:Nat} (hc:X.calm = true) (h:PGs X es t)
  (hn:(assignEach es X.env).length = n:=by rfl) (hst:(assignEach es X.env).findIdx? (·.1) = none:=by rfl):PG X (.Tuple es k pos) (gTup X.K n t):=by
 intro pins s σ H v u Q I r hw
 (refine Classical.byContradiction fun k_ => ?_; obtain ⟨a,xs,e1,hq,hl,hw⟩:=hw; refine k_ ?_; clear k_)
 subst e1
 cases r
 (refine Classical.byContradiction fun k_ => ?_; obtain ⟨its,rv,ht,hz⟩:=I.tuple hq; refine k_ ?_; clear k_)
 refine assign_Tuple_tuple (I.ok.hd hc) ht (by simp [hn,← hl,rv.length]) hst fun h' hx => ?_
 have I1:Inv X pins σ H { s with heap:=h' }:=I.kept (t':=s.toks) fun b o e => hx b o (Nat.ne_of_lt (Heap.lt_size e)) e
 exact h pins _ σ H xs _ Q I1 (by simpa using rv) hw
def tAsg (te:TE) (g:TG):TS:=fun D σ H => te σ H fun x H1 => g x σ H1 D.nx
theorem ps_asg {tg e:Expr} {te:TE} {g:TG} (he:PE X e te) (hg:PG X tg g) (hs:swapsWithSole [tg] e pos.line X.env = pure false:=by rfl) (hw:swappedStores [tg] e X.env = pure none:=by rfl)
  (h1:(assignEach [tg] X.env).map (·.2) = [assign tg X.env]:=by rfl):PS X (.Assign [tg] e pos) (tAsg te g):=by
 intro pins s σ H D I h
 refine wpAny_Assign_stores (thn (he pins s σ H _ I h) fun v s1 zz => ?_) hs hw
 (refine Classical.byContradiction fun k_ => ?_; obtain ⟨x,H1,I1,r1,q1⟩:=zz; refine k_ ?_; clear k_)
 rw [h1]
 exact thn (hg pins s1 σ H1 x v _ I1 r1 q1) fun _ s2 q => q
theorem ps_set {i:Nat} {x:Str} {e:Expr} {te:TE} {pos':Pos} (hN:X.N.Nodup) (hi:X.N[i]? = some x) (hx:Loc X.env.scope x) (he:PE X e te) (hs:swapsWith e (some (.Name x pos')) pos.line X.env = pure false:=by rfl) (hf:X.fn x = true∨X.env.scope.names.lookup x = some .local:=by first | exact .inl rfl | exact .inr rfl | assumption) :
  PS X (.Assign [.Name x pos'] e pos) (tAsg te (gName i)):=by
 intro pins s σ H D I h
 refine wpAny_Assign_Name (thn (he pins s σ H _ I h) fun v s1 zz => ?_) hs
 (refine Classical.byContradiction fun k_ => ?_; obtain ⟨y,H1,I1,r1,q1⟩:=zz; refine k_ ?_; clear k_)
 exact store_ok I1 hN hi hx r1 (fun s2 I2 => ⟨_,H1,I2,q1⟩) hf
def tAug (i:Nat) (te:TE) (ti:TIp):TS:=fun D σ H => ∃ x,σ[i]? = some (some x)∧te σ H fun y H1 => ti x y H1 fun z H2 => D.nx (σ.set i (some z)) H2
theorem ps_aug {i:Nat} {x:Str} {e:Expr} {te:TE} {op:Operator} {ti:TIp} {pos':Pos} (hN:X.N.Nodup) (hi:X.N[i]? = some x) (hx:Loc X.env.scope x) (he:PE X e te) (ho:PIp X op ti) (hf:X.fn x = true∨X.env.scope.names.lookup x = some .local:=by first | exact .inl rfl | exact .inr rfl | assumption) :
  PS X (.AugAssign (.Name x pos') op e pos) (tAug i te ti):=by
 intro pins s σ H D I h
 (refine Classical.byContradiction fun k_ => ?_; obtain ⟨v,e1,h⟩:=h; refine k_ ?_; clear k_)
 (refine Classical.byContradiction fun k_ => ?_; obtain ⟨m,hn,hl⟩:=I.loc; refine k_ ?_; clear k_)
 have vis:Vis X.env.scope x:=by rcases hx with k | k; exact .inl k; exact .inr (.inl k)
 (refine Classical.byContradiction fun k_ => ?_; obtain ⟨u,r,l⟩:=hl i x v hi e1 vis; refine k_ ?_; clear k_)
 refine wpAny_AugAssign_Name ?_
 have go:wpAny (model X.prog X.w) X.A (eval e X.env) (fun w s₂ => wpAny (model X.prog X.w) X.A (inplaceOp op u w) (fun r s₃ => wpAny (model X.prog X.w) X.A (storeName X.env x r) (fun _ => SP X pins D .next) X.xe s₃) X.xe s₂) X.xe s:=by
  refine thn (he pins s σ H _ I h) fun w s1 zz => ?_
  (refine Classical.byContradiction fun k_ => ?_; obtain ⟨y,H1,I1,r1,q1⟩:=zz; refine k_ ?_; clear k_)
  refine thn (ho pins s1 σ H1 v y u w _ I1 r r1 q1) fun z s2 zz => ?_
  (refine Classical.byContradiction fun k_ => ?_; obtain ⟨zv,H2,I2,r2,q2⟩:=zz; refine k_ ?_; clear k_)
  exact store_ok I2 hN hi hx r2 (fun s3 I3 => ⟨_,H2,I3,q2⟩) hf
 rcases l with ⟨hk,hm⟩ | ⟨hk,c,hc,hcell⟩
 ·exact wpAny_loadName_local I.ok.kind hk hn hm go
 ·rcases hk with hk | hk
  ·exact wpAny_loadName_cell I.ok.kind hk hc hcell go
  ·rcases hx with k | k
   ·have:X.env.scope.names.lookup x = some .free:=hk
    rw [k] at this; cases this
   ·have:X.env.scope.names.lookup x = some .free:=hk
    rw [k] at this; cases this
end
section
variable {X:Cx} {pos:Pos}
def tWhile (c:TT) (tb:TS):TS:=fun D σ H => ∃ W:Nat→St→Hp→Prop,(∃ m,W m σ H)∧∀ m σ H,W m σ H →
 c σ H fun b H1 => if b = true then ∃ N:St→Hp→Prop,(∀ σ' H',N σ' H'→∃ m',m' < m∧W m' σ' H')∧tb { D with nx:=N,ct:=N,bk:=D.nx } σ H1 else D.nx σ H1
theorem ps_while {c:Expr} {body:List Stmt} {tc:TT} {tb:TS} (hp:PassesOwn (model X.prog X.w) X.A X.env X.xe) (hc:PT X c tc) (hb:PSs X body tb):PS X (.While c body [] pos) (tWhile tc tb):=by
 intro pins s σ H D I h
 (refine Classical.byContradiction fun k_ => ?_; obtain ⟨W,⟨m0,w0⟩,turn⟩:=h; refine k_ ?_; clear k_)
 refine wpAny_While (codeAny_whileLoop (fun n s' => ∃ σ' H',Inv X pins σ' H' s'∧W n σ' H') ?_ m0 ⟨σ,H,I,w0⟩)
 intro n s1 z_
 (refine Classical.byContradiction fun k_ => ?_; obtain ⟨σ1,H1,I1,w1⟩:=z_; refine k_ ?_; clear k_)
 refine wpAny_passesOwn hp (thn (hc pins s1 σ1 H1 _ I1 (turn n σ1 H1 w1)) fun b s2 zz => ?_)
 (refine Classical.byContradiction fun k_ => ?_; obtain ⟨H2,I2,q2⟩:=zz; refine k_ ?_; clear k_)
 cases b with
 | true =>
  (refine Classical.byContradiction fun k_ => ?_; obtain ⟨N,hN,q2⟩:=q2; refine k_ ?_; clear k_)
  rw [if_pos rfl]
  refine wpAny_passesOwn hp (thn (hb pins s2 σ1 H2 _ I2 q2) fun f s3 q3 => ?_)
  cases f with
  | next =>
   (refine Classical.byContradiction fun k_ => ?_; obtain ⟨σ3,H3,I3,n3⟩:=q3; refine k_ ?_; clear k_)
   (refine Classical.byContradiction fun k_ => ?_; obtain ⟨m',hm,w3⟩:=hN σ3 H3 n3; refine k_ ?_; clear k_)
   exact ⟨m',hm,σ3,H3,I3,w3⟩
  | cont =>
   (refine Classical.byContradiction fun k_ => ?_; obtain ⟨σ3,H3,I3,n3⟩:=q3; refine k_ ?_; clear k_)
   (refine Classical.byContradiction fun k_ => ?_; obtain ⟨m',hm,w3⟩:=hN σ3 H3 n3; refine k_ ?_; clear k_)
   exact ⟨m',hm,σ3,H3,I3,w3⟩
  | brk => exact q3
  | ret v => exact q3
 | false =>
  rw [if_neg Bool.false_ne_true]
  exact wpAny_execs_nil ⟨σ1,H2,I2,q2⟩
end
structure It where
 go:Nat→Hp→Prop
 yld:Nat→Hp→V→Hp→Prop
 stop:Nat→Hp→Prop
def FpOk (X:Cx) (pins:List (Addr×Obj)) (H:Hp) (b:Addr):Prop :=
 H b = none∧b≠X.env.locals∧b∉X.fs∧(b∈X.ex∨X.s₀.heap.objs.size≤b)∧(∀ x c,X.env.cells.lookup x = some c→c≠b)∧∀ p∈X.pn++pins,p.1≠b
theorem Inv.fpOk {X:Cx} {pins:List (Addr×Obj)} {σ:St} {H H':Hp} {s:Shared} {b:Addr} (I:Inv X pins σ H s) (hb:s.heap.objs.size≤b) (hn:H' b = none):FpOk X pins H' b:=by
 refine ⟨hn,Nat.ne_of_gt (Nat.lt_of_lt_of_le I.lt hb),I.nofs hb,.inr (Nat.le_trans I.sz hb),fun x c e z => ?_,fun p hp z => ?_⟩
 ·obtain ⟨v,q⟩:=I.cell x c e
  exact absurd (Nat.lt_of_lt_of_le q.lt (by rw [z]; exact hb)) (Nat.lt_irrefl _)
 ·exact absurd (Nat.lt_of_lt_of_le (Heap.lt_size (I.pin p hp).1) (by rw [z]; exact hb)) (Nat.lt_irrefl _)
structure Turn (P:Program) (w:World) (K:PySem.W.Frag) (tg:Expr) (J:It) (fp:List Addr) (it:Addr) (tn:Nat→Heap→Prop):Prop where
 mem:it∈fp
 obj:∀ i h,tn i h→∀ b∈fp,∃ o,h.get? b = some o∧∀ v,o.data≠.cell v
 keep:∀ i h h',tn i h→(∀ b∈fp,∀ o,h.get? b = some o→h'.get? b = some o)→tn i h'
 item:∀ (X:Cx),X.prog = P→X.w = w→X.K = K→X.calm = true→∀ (i:Nat) (pins:List (Addr×Obj)) (s:Shared) (σ:St) (H:Hp) (E:Value→Shared→Prop),Inv X pins σ H s→(∀ b∈fp,FpOk X pins H b)→tn i s.heap→J.go i H →
  wpAny (model P w) X.A (pyNext (.ref it)) (fun r s1 => ∃ u,r = some u ∧
   wpAny (model P w) X.A (letOwnedTupleGo tg (.ref it) u) (fun _ s2 => ∃ x H',Inv X pins σ H' s2∧RelV x u∧J.yld i H x H'∧tn (i + 1) s2.heap∧∀ b∈fp,H' b = none) E s1) E s
 done:∀ (X:Cx),X.prog = P→X.w = w→X.K = K→X.calm = true→∀ (i:Nat) (pins:List (Addr×Obj)) (s:Shared) (σ:St) (H:Hp) (E:Value→Shared→Prop),Inv X pins σ H s→(∀ b∈fp,FpOk X pins H b)→tn i s.heap→J.stop i H →
  wpAny (model P w) X.A (pyNext (.ref it)) (fun r s1 => r = none∧Inv X pins σ H s1) E s
 self:∀ (A:Around) (i:Nat) (s:Shared) (Q:Value→Shared→Prop) (E:Value→Shared→Prop),tn i s.heap→Q (.ref it) s→wpAny (model P w) A (pyIter (.ref it)) Q E s
abbrev TI:=St→Hp→(It→Hp→Prop)→Prop
def PIE (X:Cx) (pins:List (Addr×Obj)) (σ:St) (tg:Expr) (R:It→Hp→Prop) (itv:Value) (s2:Shared):Prop :=
 ∃ (it:Addr) (fp:List Addr) (tn:Nat→Heap→Prop) (J:It) (H':Hp),itv = .ref it∧Inv X pins σ H' s2∧Turn X.prog X.w X.K tg J fp it tn∧tn 0 s2.heap∧(∀ b∈fp,FpOk X pins H' b)∧R J H'
def PI (X:Cx) (tg iter:Expr) (wi:TI):Prop :=
 ∀ (pins:List (Addr×Obj)) (s:Shared) (σ:St) (H:Hp) (R:It→Hp→Prop),Inv X pins σ H s→wi σ H R →
  wpAny (model X.prog X.w) X.A (eval iter X.env) (fun v s1 => wpAny (model X.prog X.w) X.A (pyIter v) (PIE X pins σ tg R) X.xe s1) X.xe s
theorem go_of {M:Model} {A:Around} {E:Value→Shared→Prop} {s:Shared} {tg:Expr} {it:Addr} {u:Value} {o:Obj} {n:String} {vs:Array Value} {Q:Unit→Shared→Prop} (ho:s.heap.get? it = some o) (hc:o.cls = .type n) (hd:o.data = .fields vs)
  (hn:["enumerate", "zip", "dict_itemiterator", "dict_reverseitemiterator", "odict_iterator", "itertools.zip_longest", "itertools.pairwise"].contains n = false) (hQ:Q () s):wpAny M A (letOwnedTupleGo tg (.ref it) u) Q E s:=by
 unfold letOwnedTupleGo
 cases tg <;> first
  | exact wpAny_pure hQ
  | (cases u <;> first
    | exact wpAny_pure hQ
    | (refine wpAny_bind (wpAny_load ho ?_)
       rw [hc,hd]
       show wpAny M A (if (["enumerate", "zip", "dict_itemiterator", "dict_reverseitemiterator", "odict_iterator", "itertools.zip_longest", "itertools.pairwise"].contains n && vs[0]? == some (rawInt _)) = true then _ else _) Q E s
       rw [if_neg (by intro h; rw [hn,Bool.false_and] at h; cases h)]
       exact wpAny_pure hQ))
def Itl (K:PySem.W.Frag) (a:Addr):It :=
 ⟨fun i H => ∃ xs x,SqL K H a xs∧xs[i]? = some x,fun i H x H' => H' = H∧∀ xs,SqL K H a xs→xs[i]? = some x,fun i H => ∃ xs,SqL K H a xs∧xs.length≤i⟩
def Itt (K:PySem.W.Frag) (a:Addr):It :=
 ⟨fun i H => ∃ xs x,SqT K H a xs∧xs[i]? = some x,fun i H x H' => H' = H∧∀ xs,SqT K H a xs→xs[i]? = some x,fun i H => ∃ xs,SqT K H a xs∧xs.length≤i⟩
def Itr (lo:Int) (n:Nat):It:=⟨fun i _ => i < n,fun i H x H' => H' = H∧x = .int (lo + i),fun i _ => n≤i⟩
theorem turn_list {P:Program} {w:World} {K:PySem.W.Frag} {tg:Expr} (a it:Addr):Turn P w K tg (Itl K a) [it] it (fun i h => h.IsListIter it a i) where
 mem:=by simp
 obj:=fun i h st b hb => by
  have e:b = it:=by simpa using hb
  subst e
  (refine Classical.byContradiction fun k_ => ?_; obtain ⟨o,e,c,d⟩:=st; refine k_ ?_; clear k_)
  exact ⟨o,e,fun v z => by rw [d] at z; cases z⟩
 keep:=fun i h h' st k => st.at fun o e => k it (by simp) o e
 item:=by
  intro X hP hw hK hc i pins s σ H E I hf st hg
  subst hP hw hK
  (refine Classical.byContradiction fun k_ => ?_; obtain ⟨xs,x,hq,hx⟩:=hg; refine k_ ?_; clear k_)
  (refine Classical.byContradiction fun k_ => ?_; obtain ⟨its,rv,p,hz⟩:=I.list hq; refine k_ ?_; clear k_)
  (refine Classical.byContradiction fun k_ => ?_; obtain ⟨u,hu,ru⟩:=rv.get hx; refine k_ ?_; clear k_)
  (refine Classical.byContradiction fun k_ => ?_; obtain ⟨f0,f1,f2,f3,f4,f5⟩:=hf it (by simp); refine k_ ?_; clear k_)
  refine wpAny_pyNext_list_item st p.isList (x:=u) (by simpa using hu) fun h' st' sb => ?_
  have I1:Inv X pins σ H { s with heap:=h' }:=I.turned (t':=s.toks) (fun b o hb e => (sb.2 b hb).trans e) f0 f1 f3 f4 f5
  (refine Classical.byContradiction fun k_ => ?_; obtain ⟨o,e,c,d⟩:=id st'; refine k_ ?_; clear k_)
  exact ⟨u,rfl,go_of (s:={ s with heap:=h' }) e c d (by decide) ⟨x,H,I1,ru,⟨rfl,fun ys hy => by rw [I.list_inj hy hq]; exact hx⟩,st',fun b hb => (hf b hb).1⟩⟩
 done:=by
  intro X hP hw hK hc i pins s σ H E I hf st hg
  subst hP hw hK
  (refine Classical.byContradiction fun k_ => ?_; obtain ⟨xs,hq,hx⟩:=hg; refine k_ ?_; clear k_)
  (refine Classical.byContradiction fun k_ => ?_; obtain ⟨its,rv,p,hz⟩:=I.list hq; refine k_ ?_; clear k_)
  (refine Classical.byContradiction fun k_ => ?_; obtain ⟨f0,f1,f2,f3,f4,f5⟩:=hf it (by simp); refine k_ ?_; clear k_)
  have hl:=rv.length
  exact wpAny_pyNext_list_end (I.ok.hd hc) st p.isList (by simp; omega) fun h' eb => ⟨rfl,I.turned (t':=s.toks) (fun b o hb e => eb b o hb e) f0 f1 f3 f4 f5⟩
 self:=fun _ _ _ _ _ st h => wpAny_pyIter_listiter st h
theorem turn_tuple {P:Program} {w:World} {K:PySem.W.Frag} {tg:Expr} (a it:Addr):Turn P w K tg (Itt K a) [it] it (fun i h => h.IsTupleIter it a i) where
 mem:=by simp
 obj:=fun i h st b hb => by
  have e:b = it:=by simpa using hb
  subst e
  (refine Classical.byContradiction fun k_ => ?_; obtain ⟨o,e,c,d⟩:=st; refine k_ ?_; clear k_)
  exact ⟨o,e,fun v z => by rw [d] at z; cases z⟩
 keep:=fun i h h' st k => st.at fun o e => k it (by simp) o e
 item:=by
  intro X hP hw hK hc i pins s σ H E I hf st hg
  subst hP hw hK
  (refine Classical.byContradiction fun k_ => ?_; obtain ⟨xs,x,hq,hx⟩:=hg; refine k_ ?_; clear k_)
  (refine Classical.byContradiction fun k_ => ?_; obtain ⟨its,rv,p,hz⟩:=I.tuple hq; refine k_ ?_; clear k_)
  (refine Classical.byContradiction fun k_ => ?_; obtain ⟨u,hu,ru⟩:=rv.get hx; refine k_ ?_; clear k_)
  (refine Classical.byContradiction fun k_ => ?_; obtain ⟨f0,f1,f2,f3,f4,f5⟩:=hf it (by simp); refine k_ ?_; clear k_)
  refine wpAny_pyNext_tuple_item st (show s.heap.IsTuple a its.toArray from p) (x:=u) (by simpa using hu) fun h' st' sb => ?_
  have I1:Inv X pins σ H { s with heap:=h' }:=I.turned (t':=s.toks) (fun b o hb e => (sb.2 b hb).trans e) f0 f1 f3 f4 f5
  (refine Classical.byContradiction fun k_ => ?_; obtain ⟨o,e,c,d⟩:=id st'; refine k_ ?_; clear k_)
  exact ⟨u,rfl,go_of (s:={ s with heap:=h' }) e c d (by decide) ⟨x,H,I1,ru,⟨rfl,fun ys hy => by rw [I.tuple_inj hy hq]; exact hx⟩,st',fun b hb => (hf b hb).1⟩⟩
 done:=by
  intro X hP hw hK hc i pins s σ H E I hf st hg
  subst hP hw hK
  (refine Classical.byContradiction fun k_ => ?_; obtain ⟨xs,hq,hx⟩:=hg; refine k_ ?_; clear k_)
  (refine Classical.byContradiction fun k_ => ?_; obtain ⟨its,rv,p,hz⟩:=I.tuple hq; refine k_ ?_; clear k_)
  (refine Classical.byContradiction fun k_ => ?_; obtain ⟨f0,f1,f2,f3,f4,f5⟩:=hf it (by simp); refine k_ ?_; clear k_)
  have hl:=rv.length
  exact wpAny_pyNext_tuple_end (I.ok.hd hc) st (show s.heap.IsTuple a its.toArray from p) (by simp; omega) fun h' eb => ⟨rfl,I.turned (t':=s.toks) (fun b o hb e => eb b o hb e) f0 f1 f3 f4 f5⟩
 self:=fun _ _ _ _ _ st h => wpAny_pyIter_tupleiter st h
theorem turn_range {P:Program} {w:World} {K:PySem.W.Frag} {tg:Expr} (it:Addr) (lo:Int) (n:Nat):Turn P w K tg (Itr lo n) [it] it (fun i h => IsRangeIter h it (lo + (i:Nat) * 1) ((n:Int) - (i:Nat)) 1) where
 mem:=by simp
 obj:=fun i h st b hb => by
  have e:b = it:=by simpa using hb
  subst e
  exact ⟨_,st,fun v z => by
   have z':Data.fields _ = Data.cell v:=z
   cases z'⟩
 keep:=fun i h h' st k => k it (by simp) _ st
 item:=by
  intro X hP hw hK hc i pins s σ H E I hf st hg
  subst hP hw hK
  (refine Classical.byContradiction fun k_ => ?_; obtain ⟨f0,f1,f2,f3,f4,f5⟩:=hf it (by simp); refine k_ ?_; clear k_)
  have W:=Walks.range (prog:=X.prog) (w:=X.w) (I.ok.hd hc) it lo 1 n
  refine W.item i s _ _ hg st fun v h' tk hv st' kk => ?_
  obtain ⟨t,rfl⟩:=hv
  have I1:Inv X pins σ H { s with heap:=h',toks:=tk }:=I.turned (fun b o hb e => kk b o (by simpa using hb) e) f0 f1 f3 f4 f5
  refine ⟨_,rfl,go_of (s:={ s with heap:=h',toks:=tk }) (n := "range_iterator") st' rfl rfl (by decide) ⟨.int (lo + i),H,I1,⟨t,?_⟩,⟨rfl,rfl⟩,st',fun b hb => (hf b hb).1⟩⟩
  rw [Int.mul_one]
 done:=by
  intro X hP hw hK hc i pins s σ H E I hf st hg
  subst hP hw hK
  (refine Classical.byContradiction fun k_ => ?_; obtain ⟨f0,f1,f2,f3,f4,f5⟩:=hf it (by simp); refine k_ ?_; clear k_)
  exact wpAny_pyNext_range_end (I.ok.hd hc) st (by have:n≤i:=hg; omega) fun h' eb => ⟨rfl,I.turned (t':=s.toks) (fun b o hb e => eb b o hb e) f0 f1 f3 f4 f5⟩
 self:=fun _ _ _ _ _ st h => wpAny_pyIter_rangeiter st h
end L2
namespace L2
open PySem PySem.Spec PyProof.Rows
section
variable {X:Cx} {tg:Expr}
def iList (K:PySem.W.Frag) (tl:TE):TI:=fun σ H R => tl σ H fun x H1 => ∃ a,x = .ref a∧(∃ xs,SqL K H1 a xs)∧R (Itl K a) H1
def iTup (K:PySem.W.Frag) (tl:TE):TI:=fun σ H R => tl σ H fun x H1 => ∃ a,x = .ref a∧(∃ xs,SqT K H1 a xs)∧R (Itt K a) H1
theorem pi_list {l:Expr} {tl:TE} (hl:PE X l tl):PI X tg l (iList X.K tl):=by
 intro pins s σ H R I h
 refine thn (hl pins s σ H _ I h) fun v s1 zz => ?_
 (refine Classical.byContradiction fun k_ => ?_; obtain ⟨x,H1,I1,r1,q1⟩:=zz; refine k_ ?_; clear k_)
 (refine Classical.byContradiction fun k_ => ?_; obtain ⟨a,e,⟨xs,hq⟩,q⟩:=q1; refine k_ ?_; clear k_)
 subst e
 cases r1
 (refine Classical.byContradiction fun k_ => ?_; obtain ⟨its,rv,p,hz⟩:=I1.list hq; refine k_ ?_; clear k_)
 refine wpAny_pyIter_list p.isList ?_
 refine ⟨s1.heap.objs.size,[s1.heap.objs.size],_,_,H1,rfl,I1.kept (t':=s1.toks) fun b o e => Heap.get?_push_of_some _ e,turn_list a _,⟨_,Heap.get?_push_size _ rfl,rfl,rfl⟩,fun b hb => ?_,q⟩
 have e:b = s1.heap.objs.size:=by simpa using hb
 subst e
 exact I1.fpOk (Nat.le_refl _) (I1.hok.fresh (Nat.le_refl _))
theorem pi_tup {l:Expr} {tl:TE} (hl:PE X l tl):PI X tg l (iTup X.K tl):=by
 intro pins s σ H R I h
 refine thn (hl pins s σ H _ I h) fun v s1 zz => ?_
 (refine Classical.byContradiction fun k_ => ?_; obtain ⟨x,H1,I1,r1,q1⟩:=zz; refine k_ ?_; clear k_)
 (refine Classical.byContradiction fun k_ => ?_; obtain ⟨a,e,⟨xs,hq⟩,q⟩:=q1; refine k_ ?_; clear k_)
 subst e
 cases r1
 (refine Classical.byContradiction fun k_ => ?_; obtain ⟨its,rv,p,hz⟩:=I1.tuple hq; refine k_ ?_; clear k_)
 refine wpAny_pyIter_tuple (show s1.heap.IsTuple a its.toArray from p) ?_
 refine ⟨s1.heap.objs.size,[s1.heap.objs.size],_,_,H1,rfl,I1.kept (t':=s1.toks) fun b o e => Heap.get?_push_of_some _ e,turn_tuple a _,⟨_,Heap.get?_push_size _ rfl,rfl,rfl⟩,fun b hb => ?_,q⟩
 have e:b = s1.heap.objs.size:=by simpa using hb
 subst e
 exact I1.fpOk (Nat.le_refl _) (I1.hok.fresh (Nat.le_refl _))
def tFor (wi:TI) (g:TG) (tb:TS):TS:=fun D σ H => wi σ H fun J H1 => ∃ W:Nat→Nat→St→Hp→Prop,(∃ m,W 0 m σ H1)∧∀ i m σ H,W i m σ H →
 (J.stop i H∧D.nx σ H)∨(J.go i H∧∃ N:St→Hp→Prop,(∀ σ' H',N σ' H'→∃ m',m' < m∧W (i + 1) m' σ' H')∧∀ x H',J.yld i H x H'→g x σ H' fun σ2 H2 => tb { D with nx:=N,ct:=N,bk:=D.nx } σ2 H2)
def pinsAt (fp:List Addr) (h:Heap):List (Addr×Obj):=fp.filterMap fun b => (h.get? b).map fun o => (b,o)
theorem mem_pinsAt {fp:List Addr} {h:Heap} {b:Addr} {o:Obj} (hb:b∈fp) (e:h.get? b = some o):(b,o)∈pinsAt fp h:=List.mem_filterMap.mpr ⟨b,hb,by rw [e]; rfl⟩
theorem of_pinsAt {fp:List Addr} {h:Heap} {p:Addr×Obj} (hp:p∈pinsAt fp h):p.1∈fp∧h.get? p.1 = some p.2:=by
 (refine Classical.byContradiction fun k_ => ?_; obtain ⟨b,hb,e⟩:=List.mem_filterMap.mp hp; refine k_ ?_; clear k_)
 cases q:h.get? b with
 | none => rw [q] at e; cases e
 | some o =>
  rw [q] at e
  have e':(b,o) = p:=Option.some.inj e
  subst e'
  exact ⟨hb,q⟩
theorem Inv.pinned {pins:List (Addr×Obj)} {σ:St} {H:Hp} {s:Shared} {fp:List Addr} (I:Inv X pins σ H s) (hf:∀ b∈fp,FpOk X pins H b) (ho:∀ b∈fp,∃ o,s.heap.get? b = some o∧∀ v,o.data≠.cell v):Inv X (pins++pinsAt fp s.heap) σ H s :=
 I.pins_of fun p hp => (List.mem_append.mp hp).elim (fun z => I.pin p (List.mem_append_right _ z)) fun z => by
  obtain ⟨hb,e⟩:=of_pinsAt z
  (refine Classical.byContradiction fun k_ => ?_; obtain ⟨f0,f1,f2,_⟩:=hf p.1 hb; refine k_ ?_; clear k_)
  (refine Classical.byContradiction fun k_ => ?_; obtain ⟨o,e',d⟩:=ho p.1 hb; refine k_ ?_; clear k_)
  rw [e] at e'; cases e'
  exact ⟨e,f0,f1,f2,d⟩
theorem Inv.unpinned {pins pl:List (Addr×Obj)} {σ:St} {H:Hp} {s:Shared} (I:Inv X (pins++pl) σ H s):Inv X pins σ H s:=I.pins_of fun p hp => I.pin p (List.mem_append_right _ (List.mem_append_left _ hp))
theorem ps_for {iter:Expr} {body:List Stmt} {wi:TI} {g:TG} {tb:TS} {pos:Pos} (hp:PassesOwn (model X.prog X.w) X.A X.env X.xe) (hc:X.calm = true) (hi:PI X tg iter wi) (hg:PG X tg g) (hb:PSs X body tb)
  (hs:∀ x,foldedSetIterable iter X.env x = pure x:=by intro _; rfl):PS X (.For tg iter body [] pos) (tFor wi g tb):=by
 intro pins s σ H D I h
 refine wpAny_For (thn (hi pins s σ H _ I h) fun v s1 h1 => thn h1 fun itv s2 h2 => ?_) hs
 (refine Classical.byContradiction fun k_ => ?_; obtain ⟨it,fp,tn,J,H2,e,I2,T,st2,f2,W,⟨m0,w0⟩,turn⟩:=h2; refine k_ ?_; clear k_)
 subst e
 have stat:∀ {H':Hp},(∀ b∈fp,H' b = none)→∀ b∈fp,FpOk X pins H' b:=fun hn b hb => ⟨hn b hb,(f2 b hb).2⟩
 refine codeAny_forLoop_any (fun n s' => ∃ i σ' H',Inv X pins σ' H' s'∧tn i s'.heap∧(∀ b∈fp,H' b = none)∧W i n σ' H') ?_ m0 ⟨0,σ,H2,I2,st2,fun b hb => (f2 b hb).1,w0⟩
 intro n s3 z_
 (refine Classical.byContradiction fun k_ => ?_; obtain ⟨i,σ3,H3,I3,st3,fr3,w3⟩:=z_; refine k_ ?_; clear k_)
 rcases turn i n σ3 H3 w3 with ⟨stop,qn⟩ | ⟨go,N,hN,step⟩
 ·refine wpAny_passesOwn hp (thn (T.done X rfl rfl rfl hc i pins s3 σ3 H3 X.xe I3 (stat fr3) st3 stop) fun r s4 zz => ?_)
  obtain ⟨hr,I4⟩:=zz
  subst hr
  exact wpAny_execs_nil ⟨σ3,H3,I4,qn⟩
 ·refine wpAny_passesOwn hp (thn (T.item X rfl rfl rfl hc i pins s3 σ3 H3 X.xe I3 (stat fr3) st3 go) fun r s4 zz => ?_)
  (refine Classical.byContradiction fun k_ => ?_; obtain ⟨u,hr,h4⟩:=zz; refine k_ ?_; clear k_)
  subst hr
  refine wpAny_passesOwn hp (thn h4 fun _ s5 zz => ?_)
  (refine Classical.byContradiction fun k_ => ?_; obtain ⟨x,H5,I5,r5,y5,st5,fr5⟩:=zz; refine k_ ?_; clear k_)
  have I5':=I5.pinned (stat fr5) (T.obj _ _ st5)
  refine wpAny_passesOwn hp (thn (hg _ s5 σ3 H5 x u _ I5' r5 (step x H5 y5)) fun _ s6 zz => ?_)
  (refine Classical.byContradiction fun k_ => ?_; obtain ⟨σ6,H6,I6,q6⟩:=zz; refine k_ ?_; clear k_)
  refine wpAny_passesOwn hp (thn (hb _ s6 σ6 H6 _ I6 q6) fun f s7 q7 => ?_)
  have again:∀ {σ7:St} {H7:Hp},Inv X (pins++pinsAt fp s5.heap) σ7 H7 s7→N σ7 H7→∃ m,m < n∧∃ i σ' H',Inv X pins σ' H' s7∧tn i s7.heap∧(∀ b∈fp,H' b = none)∧W i m σ' H':=fun {σ7 H7} I7 n7 => by
   (refine Classical.byContradiction fun k_ => ?_; obtain ⟨m',hm,w7⟩:=hN σ7 H7 n7; refine k_ ?_; clear k_)
   refine ⟨m',hm,i + 1,σ7,H7,I7.unpinned,T.keep _ _ _ st5 fun b hb o e => (I7.pin (b,o) (List.mem_append_right _ (List.mem_append_right _ (mem_pinsAt hb e)))).1,fun b hb => ?_,w7⟩
   (refine Classical.byContradiction fun k_ => ?_; obtain ⟨o,e,d⟩:=T.obj _ _ st5 b hb; refine k_ ?_; clear k_)
   exact (I7.pin (b,o) (List.mem_append_right _ (List.mem_append_right _ (mem_pinsAt hb e)))).2.1
  cases f with
  | next => obtain ⟨σ7,H7,I7,n7⟩:=q7; exact again I7 n7
  | cont => obtain ⟨σ7,H7,I7,n7⟩:=q7; exact again I7 n7
  | brk => obtain ⟨σ7,H7,I7,q7⟩:=q7; exact ⟨σ7,H7,I7.unpinned,q7⟩
  | ret v => obtain ⟨x7,σ7,H7,I7,r7,q7⟩:=q7; exact ⟨x7,σ7,H7,I7.unpinned,r7,q7⟩
end
end L2
namespace L2
open PySem PySem.Spec PyProof.Rows
abbrev R2:=V→V→Hp→VK→Prop
def OpR (X:Cx) (f:Value→Value→Sem Value) (r:R2):Prop :=
 ∀ (pins:List (Addr×Obj)) (s:Shared) (σ:St) (H:Hp) (x y:V) (v u:Value) (Q:VK),Inv X pins σ H s→RelV x v→RelV y u→r x y H Q →
  wpAny (model X.prog X.w) X.A (f v u) (EP X pins σ Q) X.xe s
def UnR (X:Cx) (f:Value→Sem Value) (r:V→Hp→VK→Prop):Prop :=
 ∀ (pins:List (Addr×Obj)) (s:Shared) (σ:St) (H:Hp) (x:V) (v:Value) (Q:VK),Inv X pins σ H s→RelV x v→r x H Q →
  wpAny (model X.prog X.w) X.A (f v) (EP X pins σ Q) X.xe s
def CallR (X:Cx) (f:Value) (r:List V→Hp→VK→Prop):Prop :=
 ∀ (pins:List (Addr×Obj)) (s:Shared) (σ:St) (H:Hp) (xs:List V) (us:List Value) (Q:VK),Inv X pins σ H s→Vals xs us→r xs H Q →
  wpAny (model X.prog X.w) X.A (call f us) (EP X pins σ Q) X.xe s
def tOp (r:R2) (ta tb:TE):TE:=fun σ H Q => ta σ H fun x H1 => tb σ H1 fun y H2 => r x y H2 Q
def tUn (r:V→Hp→VK→Prop) (ta:TE):TE:=fun σ H Q => ta σ H fun x H1 => r x H1 Q
def rI (C:Int→Int→Prop) (g:Int→Int→V):R2:=fun x y H Q => ∃ i j,x = .int i∧y = .int j∧C i j∧Q (g i j) H
def rI0 (g:Int→Int→V):R2:=fun x y H Q => ∃ i j,x = .int i∧y = .int j∧Q (g i j) H
def rU (g:Int→V):V→Hp→VK→Prop:=fun x H Q => ∃ i,x = .int i∧Q (g i) H
section
variable {X:Cx} {a b c:Expr} {ta tb tc:TE} {pos:Pos}
theorem binT (ha:PE X a ta) (hb:PE X b tb) {pins:List (Addr×Obj)} {s:Shared} {σ:St} {H:Hp} {R:V→V→Hp→Prop} (I:Inv X pins σ H s)
  (h:ta σ H fun x H1 => tb σ H1 fun y H2 => R x y H2) {Q:Value→Shared→Prop} {f:Value→Value→Sem Value}
  (hf:∀ v u s2 x y H2,Inv X pins σ H2 s2→RelV x v→RelV y u→R x y H2→wpAny (model X.prog X.w) X.A (f v u) Q X.xe s2) :
  wpAny (model X.prog X.w) X.A (eval a X.env) (fun v s₁ => wpAny (model X.prog X.w) X.A (eval b X.env) (fun u s₂ => wpAny (model X.prog X.w) X.A (f v u) Q X.xe s₂) X.xe s₁) X.xe s:=by
 refine thn (ha pins s σ H _ I h) fun v s1 zz => ?_
 (refine Classical.byContradiction fun k_ => ?_; obtain ⟨x,H1,I1,r1,q1⟩:=zz; refine k_ ?_; clear k_)
 refine thn (hb pins s1 σ H1 _ I1 q1) fun u s2 zz => ?_
 (refine Classical.byContradiction fun k_ => ?_; obtain ⟨y,H2,I2,r2,q2⟩:=zz; refine k_ ?_; clear k_)
 exact hf v u s2 x y H2 I2 r1 r2 q2
theorem pe_op {op:Operator} {r:R2} (ho:OpR X (binaryOp op) r) (ha:PE X a ta) (hb:PE X b tb):PE X (.BinOp a op b pos) (tOp r ta tb):=by
 intro pins s σ H Q I h
 exact wpAny_BinOp (binT ha hb I h fun v u s2 x y H2 I2 rx ry q => ho pins s2 σ H2 x y v u Q I2 rx ry q)
theorem pe_un {op:UnaryOp} {r:V→Hp→VK→Prop} (ho:UnR X (unaryOp op) r) (ha:PE X a ta):PE X (.UnaryOp op a pos) (tUn r ta):=by
 intro pins s σ H Q I h
 exact UnaryOp_ (thn (ha pins s σ H _ I h) fun v s1 ⟨x,H1,I1,r1,q1⟩ => ho pins s1 σ H1 x v Q I1 r1 q1)
theorem opI {f:Value→Value→Sem Value} {C:Int→Int→Prop} {g:Int→Int→Int}
  (rule:∀ (i j:Int) (t u:Tok) (s:Shared) (Q:Value→Shared→Prop) (E:Value→Shared→Prop),C i j→Q (.int (g i j) s.toks) { s with toks:=s.toks + 1 }→wpAny (model X.prog X.w) X.A (f (.int i t) (.int j u)) Q E s) :
  OpR X f (rI C fun i j => .int (g i j)):=by
 intro pins s σ H x y v u Q I rx ry h
 (refine Classical.byContradiction fun k_ => ?_; obtain ⟨i,j,rfl,rfl,hc,q⟩:=h; refine k_ ?_; clear k_)
 obtain ⟨t,rfl⟩:=rx
 obtain ⟨t',rfl⟩:=ry
 exact rule i j t t' s _ _ hc ⟨.int (g i j),H,I.tok _,⟨_,rfl⟩,q⟩
theorem opI0 {f:Value→Value→Sem Value} {g:Int→Int→Int}
  (rule:∀ (i j:Int) (t u:Tok) (s:Shared) (Q:Value→Shared→Prop) (E:Value→Shared→Prop),Q (.int (g i j) s.toks) { s with toks:=s.toks + 1 }→wpAny (model X.prog X.w) X.A (f (.int i t) (.int j u)) Q E s) :
  OpR X f (rI0 fun i j => .int (g i j)):=by
 intro pins s σ H x y v u Q I rx ry h
 (refine Classical.byContradiction fun k_ => ?_; obtain ⟨i,j,rfl,rfl,q⟩:=h; refine k_ ?_; clear k_)
 obtain ⟨t,rfl⟩:=rx
 obtain ⟨t',rfl⟩:=ry
 exact rule i j t t' s _ _ ⟨.int (g i j),H,I.tok _,⟨_,rfl⟩,q⟩
theorem opB0 {f:Value→Value→Sem Value} {g:Int→Int→Bool}
  (rule:∀ (i j:Int) (t u:Tok) (s:Shared) (Q:Value→Shared→Prop) (E:Value→Shared→Prop),Q (.bool (g i j)) s→wpAny (model X.prog X.w) X.A (f (.int i t) (.int j u)) Q E s) :
  OpR X f (rI0 fun i j => .bl (g i j)):=by
 intro pins s σ H x y v u Q I rx ry h
 (refine Classical.byContradiction fun k_ => ?_; obtain ⟨i,j,rfl,rfl,q⟩:=h; refine k_ ?_; clear k_)
 obtain ⟨t,rfl⟩:=rx
 obtain ⟨t',rfl⟩:=ry
 exact rule i j t t' s _ _ ⟨.bl (g i j),H,I,rfl,q⟩
def CDiv (i j:Int):Prop:=0 < j∧j < 1073741824
def CPow (i j:Int):Prop:=0≤j∧j≤1000000∧i.natAbs < 2 ^ 64
def CMul (i j:Int):Prop:=(-(2 ^ 64) < i∧i < 2 ^ 64)∨(-(2 ^ 64) < j∧j < 2 ^ 64)
theorem CMul.ok {i j:Int} (h:CMul i j):IntMulOk i j:=by
 rcases h with ⟨h1,h2⟩ | ⟨h1,h2⟩
 ·exact .of_left (intBits_le_64 h1 h2)
 ·exact .of_right (intBits_le_64 h1 h2)
theorem op_add:OpR X (binaryOp .Add) (rI0 fun i j => .int (i + j)):=opI0 fun _ _ _ _ _ _ _ q => add_int q
theorem op_sub:OpR X (binaryOp .Sub) (rI0 fun i j => .int (i - j)):=opI0 fun _ _ _ _ _ _ _ q => sub_int q
theorem op_mod:OpR X (binaryOp .Mod) (rI (fun _ j => 0 < j) fun i j => .int (i % j)):=opI fun i j _ _ _ _ _ hc q => by
 have h1:(0:Int) < j:=hc
 exact mod_int' (by omega) (by rw [Int.fmod_eq_emod_of_nonneg i (by omega)]; exact q)
theorem op_pow:OpR X (binaryOp .Pow) (rI CPow fun i j => .int (i ^ j.toNat)):=opI fun _ _ _ _ _ _ _ hc q => pow_int_small hc.1 hc.2.1 hc.2.2 q
theorem iop_add:OpR X (inplaceOp .Add) (rI0 fun i j => .int (i + j)):=opI0 fun _ _ _ _ _ _ _ q => iadd_int q
theorem iop_sub:OpR X (inplaceOp .Sub) (rI0 fun i j => .int (i - j)):=opI0 fun _ _ _ _ _ _ _ q => isub_int q
theorem unI {f:Value→Sem Value} {g:Int→Int}
  (rule:∀ (i:Int) (t:Tok) (s:Shared) (Q:Value→Shared→Prop) (E:Value→Shared→Prop),Q (.int (g i) s.toks) { s with toks:=s.toks + 1 }→wpAny (model X.prog X.w) X.A (f (.int i t)) Q E s) :
  UnR X f (rU fun i => .int (g i)):=by
 intro pins s σ H x v Q I rx h
 (refine Classical.byContradiction fun k_ => ?_; obtain ⟨i,rfl,q⟩:=h; refine k_ ?_; clear k_)
 obtain ⟨t,rfl⟩:=rx
 exact rule i t s _ _ ⟨.int (g i),H,I.tok _,⟨_,rfl⟩,q⟩
theorem un_neg:UnR X (unaryOp .USub) (rU fun i => .int (-i)):=unI fun _ _ _ _ _ q => neg_int q
end
section
variable {X:Cx} {a b c:Expr} {ta tb tc:TE} {pos:Pos}
theorem op_lt:OpR X (compareOp .Lt) (rI0 fun i j => .bl (decide (i < j))):=opB0 fun _ _ _ _ _ _ _ q => lt_int q
theorem op_le:OpR X (compareOp .LtE) (rI0 fun i j => .bl (decide (i≤j))):=opB0 fun _ _ _ _ _ _ _ q => le_int q
theorem op_gt:OpR X (compareOp .Gt) (rI0 fun i j => .bl (decide (j < i))):=opB0 fun _ _ _ _ _ _ _ q => gt_int q
theorem nomark (b:Expr) {op:CmpOp} (h:op≠.In:=by decide) (h2:op≠.NotIn:=by decide):behindInMarks op b = false:=by
 have e1:(op == CmpOp.In) = false:=by cases op <;> first | rfl | exact absurd rfl h
 have e2:(op == CmpOp.NotIn) = false:=by cases op <;> first | rfl | exact absurd rfl h2
 cases b <;> simp [behindInMarks,e1,e2]
theorem pe_cmpR {op:CmpOp} {r:R2} (ho:OpR X (compareOp op) r) (ha:PE X a ta) (hb:PE X b tb) (hm:behindInMarks op b = false):PE X (.Compare a [op] [b] pos) (tOp r ta tb):=by
 intro pins s σ H Q I h
 exact wpAny_Compare1 (binT ha hb I h fun v u s2 x y H2 I2 rx ry q => ho pins s2 σ H2 x y v u Q I2 rx ry q) hm
def tTest (t:TE):TT:=fun σ H Q => t σ H fun x H' => ∃ k,x = .bl k∧Q k H'
theorem pt_cmpR {op:CmpOp} {r:R2} (ho:OpR X (compareOp op) r) (ha:PE X a ta) (hb:PE X b tb) (hm:behindInMarks op b = false):PT X (.Compare a [op] [b] pos) (tTest (tOp r ta tb)):=by
 intro pins s σ H Q I h
 refine wpAny_isTrue_Compare1 (thn (ha pins s σ H _ I h) fun v s1 ⟨x,H1,I1,r1,q1⟩ => thn (hb pins s1 σ H1 _ I1 q1) fun u s2 ⟨y,H2,I2,r2,q2⟩ =>
  thn (ho pins s2 σ H2 x y v u _ I2 r1 r2 q2) fun c s3 ⟨z,H3,I3,r3,k,e,q3⟩ => ?_) hm
 subst e
 cases r3
 exact wpAny_truthy_bool ⟨H3,I3,q3⟩
def tChain (r r':R2) (ta tb tc:TE):TE:=fun σ H Q => ta σ H fun x H1 => tb σ H1 fun y H2 => r x y H2 fun z H3 => ∃ k,z = .bl k ∧
 (if k = true then tc σ H3 fun w' H4 => r' y w' H4 Q else Q (.bl false) H3)
theorem pt_chain {op op':CmpOp} {r r':R2} (ho:OpR X (compareOp op) r) (ho':OpR X (compareOp op') r') (ha:PE X a ta) (hb:PE X b tb) (hc:PE X c tc)
  (hm:lastMarks [op,op'] [b,c] = false:=by with_unfolding_all rfl):PT X (.Compare a [op,op'] [b,c] pos) (tTest (tChain r r' ta tb tc)):=by
 intro pins s σ H Q I h
 refine isTrue_chain (thn (ha pins s σ H _ I h) fun v s1 ⟨x,H1,I1,r1,q1⟩ => test_link (thn (hb pins s1 σ H1 _ I1 q1) fun u s2 ⟨y,H2,I2,r2,q2⟩ =>
  thn (ho pins s2 σ H2 x y v u _ I2 r1 r2 q2) fun d s3 ⟨z,H3,I3,r3,k,e,q3⟩ => ?_)) hm
 subst e
 cases r3
 refine wpAny_truthy_bool ?_
 cases k with
 | false =>
  (refine Classical.byContradiction fun k_ => ?_; obtain ⟨k',e',q'⟩:=q3; refine k_ ?_; clear k_)
  cases e'
  exact ite_ff ⟨H3,I3,q'⟩
 | true =>
  refine ite_tt (test_last (thn (hc pins s3 σ H3 _ I3 q3) fun w' s4 ⟨z',H4,I4,r4,q4⟩ => thn (ho' pins s4 σ H4 y z' u w' _ I4 r2 r4 q4) fun d' s5 zz => ?_))
  (refine Classical.byContradiction fun k_ => ?_; obtain ⟨z2,H5,I5,r5,k2,e2,q5⟩:=zz; refine k_ ?_; clear k_)
  subst e2
  cases r5
  exact wpAny_truthy_bool ⟨H5,I5,q5⟩
theorem line63:(sizeLine:Nat) < 2 ^ 63:=by rw [sizeLine_eq]; decide
theorem op_add_str:OpR X (binaryOp .Add) (fun x y H Q => ∃ i j,x = .str i∧y = .str j∧i.length + j.length≤sizeLine∧Q (.str (i++j)) H):=by
 intro pins s σ H x y v u Q I rx ry h
 (refine Classical.byContradiction fun k_ => ?_; obtain ⟨i,j,rfl,rfl,hz,q⟩:=h; refine k_ ?_; clear k_)
 obtain ⟨t,rfl⟩:=rx
 obtain ⟨t',rfl⟩:=ry
 exact add_str (fun t' tk => ⟨.str (i++j),H,I.tok _,⟨_,rfl⟩,q⟩) hz
theorem iop_add_str:OpR X (inplaceOp .Add) (fun x y H Q => ∃ i j,x = .str i∧y = .str j∧i.length + j.length≤sizeLine∧Q (.str (i++j)) H):=by
 intro pins s σ H x y v u Q I rx ry h
 (refine Classical.byContradiction fun k_ => ?_; obtain ⟨i,j,rfl,rfl,hz,q⟩:=h; refine k_ ?_; clear k_)
 obtain ⟨t,rfl⟩:=rx
 obtain ⟨t',rfl⟩:=ry
 exact iadd_str (fun t' tk => ⟨.str (i++j),H,I.tok _,⟨_,rfl⟩,q⟩) hz
theorem vals1 {x:V} {us:List Value} (r:Vals [x] us):∃ u,us = [u]∧RelV x u:=by
 cases r with
 | cons r1 r2 => cases r2; exact ⟨_,rfl,r1⟩
theorem vals2 {x y:V} {us:List Value} (r:Vals [x,y] us):∃ u w',us = [u,w']∧RelV x u∧RelV y w':=by
 cases r with
 | cons r1 r2 =>
  cases r2 with
  | cons r3 r4 => cases r4; exact ⟨_,_,rfl,r1,r3⟩
end
end L2
namespace L2
open PySem PySem.Spec PyProof.Rows
structure ObjM (h:Heap) (x dx C:Addr) (mA:Str→Option Value):Prop where
 obj:h.get? x = some (PySem.W.instObj C dx)
 ns:h.Ns1 dx mA
 ne:dx≠x
theorem lookIn_ns {h:Heap} {dx:Addr} {mA:Str→Option Value} (n:h.Ns1 dx mA):∃ od,h.get? dx = some od∧∀ name,PySem.W.lookIn name od = some (mA name):=by
 (refine Classical.byContradiction fun k_ => ?_; obtain ⟨o,es,ep,ho,hd,hk,_,hm⟩:=n; refine k_ ?_; clear k_)
 refine ⟨o,ho,fun name => ?_⟩
 have e:=hm name
 unfold nsFind findBy at e
 rw [← Array.find?_toList] at e
 unfold PySem.W.lookIn
 rw [hd]
 dsimp only
 split
 ·rename_i y q
  rw [q] at e
  exact congrArg some e
 ·rename_i q
  rw [q] at e
  have a:es.toList.any (·.refKey) = false:=by
   rw [List.any_eq_false]
   intro y hy
   (refine Classical.byContradiction fun k_ => ?_; obtain ⟨z,t,hkey⟩:=hk y (Array.mem_toList_iff.mp hy); refine k_ ?_; clear k_)
   simp [DictEntry.refKey,hkey]
  have a':¬ es.toList.any (·.refKey) = true:=by rw [a]; exact Bool.false_ne_true
  rw [if_neg a']
  exact congrArg some e
theorem ObjM.look {h:Heap} {x dx C:Addr} {mA:Str→Option Value} (I:ObjM h x dx C mA):∃ od,PySem.W.InstAt h x (PySem.W.instObj C dx) C (some od)∧∀ name,PySem.W.lookIn name od = some (mA name) :=
 let ⟨od,ho,hl⟩:=lookIn_ns I.ns
 ⟨od,⟨I.obj,rfl,rfl,ho⟩,hl⟩
section
variable {prog:Program} {w:World} {A:Around} {E:Value→Shared→Prop} {s:Shared} {K:PySem.W.Frag} {x dx C f:Addr} {mA:Str→Option Value} {name:Str} {v:Value}
end
theorem RelO.some_of {v:V} {o:Option Value} (r:RelO (some v) o):∃ u,o = some u∧RelV v u:=by
 cases o with
 | none => exact (show False from r).elim
 | some u => exact ⟨u,rfl,r⟩
theorem RelO.none_of {o:Option Value} (r:RelO none o):o = none:=by
 cases o with
 | none => rfl
 | some u => exact (show False from r).elim
section
variable {P:Program} {w:World} {H H':Hp} {h h':Heap} {a C dx:Addr} {fs fs':List (Str×V)}
theorem ins_get (hok:HOk P w H h) (e:H a = some (.ins C dx fs)):∃ mA,ObjM h a dx C mA∧(∀ f,RelO (fs.lookup f) (mA f))∧PySem.Within mA (fs.map (·.1))∧fs.length≤1000∧H dx = some (.own a):=by
 (refine Classical.byContradiction fun k_ => ?_; obtain ⟨d,z,ne,ob,mA,n,r,q⟩:=(show ObjOk P w H h a (.ins C dx fs) from hok a _ e); refine k_ ?_; clear k_)
 exact ⟨mA,⟨ob,n,ne⟩,r,q,z,d⟩
end
structure Cls (K:PySem.W.Frag) (C:Addr):Prop where
 pg:PySem.W.plainGet K C Str.empty = true
 hd:PySem.W.hasDictIn K C = true
 po:PySem.W.plainOver K C = true
 sa:PySem.W.findIn K (.ref C) "__setattr__" = some (some (.builtin "object.__setattr__"))
theorem Cls.get {K:PySem.W.Frag} {C:Addr} (c:Cls K C) (f:Str):PySem.W.plainGet K C f = true:=c.pg
structure Con (K:PySem.W.Frag) (C:Addr) (f:Str) (v:V) (u:Value):Prop where
 at_:PySem.W.findIn K (.ref C) f = some (some u)
 rel:RelV v u
 get:PySem.W.specialIn K u "__get__" = some none
 cp:PySem.W.copiedNames.contains f = false
structure Meth (K:PySem.W.Frag) (C:Addr) (m:Str) (f:Addr):Prop where
 at_:PySem.W.findIn K (.ref C) m = some (some (.ref f))
 fn:PySem.W.isFn K (.ref f) = true
 kp:PySem.W.keepIn K (.ref f) = true
section
variable {X:Cx} {pins:List (Addr×Obj)} {σ:St} {H:Hp} {s:Shared} {a C dx:Addr} {fs:List (Str×V)} {f:Str} {v:V} {A:Around} {E:Value→Shared→Prop}
end
section
variable {X:Cx} {o e value:Expr} {f:Str} {pos pos' tpos:Pos} {ta tv:TE}
end
section
variable {X:Cx} {pins:List (Addr×Obj)} {σ:St} {H:Hp} {s:Shared} {A:Around} {E:Value→Shared→Prop} {Q:Value→Shared→Prop} {c:Value} {b:Bool}
inductive TyOf (K:PySem.W.Frag) (H:Hp):V→Value→Prop where
 | non:TyOf K H .non (.type "NoneType")
 | bl (x:Bool):TyOf K H (.bl x) (.type "bool")
 | int (i:Int):TyOf K H (.int i) (.type "int")
 | str (x:Str):TyOf K H (.str x) (.type "str")
 | flt (x:UInt64):TyOf K H (.flt x) (.type "float")
 | lst {a:Addr} {xs:List V} (e:H a = some (.lst xs)):TyOf K H (.ref a) (.type "list")
 | frz {a:Addr} {o:Obj} {xs:List V} (e:H a = some (.frz o (.lst xs))):TyOf K H (.ref a) (.type "list")
 | tup {a:Addr} {xs:List V} (e:H a = some (.tup xs)):TyOf K H (.ref a) (.type "tuple")
 | dK {a:Addr} {kvs:List (Key×V)} (e:H a = some (.dK kvs)):TyOf K H (.ref a) (.type "dict")
 | dT {a:Addr} {kvs:List (List Key×V)} (e:H a = some (.dT kvs)):TyOf K H (.ref a) (.type "dict")
 | ins {a C dx:Addr} {fs:List (Str×V)} (e:H a = some (.ins C dx fs)) (cl:Cls K C) (ha:PySem.W.findIn K (.ref C) "__class__" = some (some (.builtin "object.__class__")))
   (hn:PySem.W.specialIn K (.builtin "object.__class__") "__get__" = some (some (.builtin "getset_descriptor.__get__"))) (htk:PySem.W.takesIn K (.builtin "object.__class__") = some true)
   (hm:PySem.W.mroIn K C (.type "object") = some true):TyOf K H (.ref a) (.ref C)
theorem isinst_ok {x:V} {u t:Value} (I:Inv X pins σ H s) (rx:RelV x u) (ty:TyOf X.K H x t) (e:PySem.W.kitOne X.K t c = some b) (h:∀ tk,Q (.bool b) { s with toks:=tk }) :
  wpAny (model X.prog X.w) A (call (.builtin "isinstance") [u,c]) Q E s:=by
 cases ty with
 | non => cases (show u = Value.none from rx); exact PySem.W.kia_one PySem.W.kitx_none I.kIn True.intro e (fun z => nomatch z) h
 | bl y => cases (show u = Value.bool y from rx); exact PySem.W.kia_one PySem.W.kitx_bool I.kIn True.intro e (fun z => nomatch z) h
 | int i => obtain ⟨t,q⟩:=(show ∃ t,u = Value.int i t from rx); cases q; exact PySem.W.kia_one PySem.W.kitx_int I.kIn True.intro e (fun z => nomatch z) h
 | str y => obtain ⟨t,q⟩:=(show ∃ t,u = Value.str y t from rx); cases q; exact PySem.W.kia_one PySem.W.kitx_str I.kIn True.intro e (fun z => nomatch z) h
 | flt y => obtain ⟨t,q⟩:=(show ∃ t,u = Value.float y t from rx); cases q; exact PySem.W.kia_one PySem.W.kitx_float I.kIn True.intro e (fun z => nomatch z) h
 | @lst a xs ea =>
  cases (show u = Value.ref a from rx)
  (refine Classical.byContradiction fun k_ => ?_; obtain ⟨_,_,n,_,h1⟩:=(show ObjOk X.prog X.w H s.heap a (.lst xs) from I.hok a _ ea); refine k_ ?_; clear k_)
  exact PySem.W.kia_one PySem.W.kitx_list I.kIn ⟨_,h1,rfl⟩ e (fun z => nomatch z) h
 | @frz a ob xs ea =>
  cases (show u = Value.ref a from rx)
  (refine Classical.byContradiction fun k_ => ?_; obtain ⟨_,_,_,n,_,h1⟩:=(show ObjOk X.prog X.w H s.heap a (.frz ob (.lst xs)) from I.hok a _ ea); refine k_ ?_; clear k_)
  exact PySem.W.kia_one PySem.W.kitx_list I.kIn ⟨_,h1,rfl⟩ e (fun z => nomatch z) h
 | @tup a xs ea =>
  cases (show u = Value.ref a from rx)
  (refine Classical.byContradiction fun k_ => ?_; obtain ⟨_,_,_,p⟩:=(show ObjOk X.prog X.w H s.heap a (.tup xs) from I.hok a _ ea); refine k_ ?_; clear k_)
  (refine Classical.byContradiction fun k_ => ?_; obtain ⟨o,h1,h2,_⟩:=p; refine k_ ?_; clear k_)
  exact PySem.W.kia_one PySem.W.kitx_tuple I.kIn ⟨o,h1,h2⟩ e (fun z => nomatch z) h
 | @dK a kvs ea =>
  cases (show u = Value.ref a from rx)
  (refine Classical.byContradiction fun k_ => ?_; obtain ⟨_,_,vs,_,p⟩:=(show ObjOk X.prog X.w H s.heap a (.dK kvs) from I.hok a _ ea); refine k_ ?_; clear k_)
  (refine Classical.byContradiction fun k_ => ?_; obtain ⟨o,es,ep,h1,h2,_⟩:=p; refine k_ ?_; clear k_)
  exact PySem.W.kia_one PySem.W.kitx_dict I.kIn ⟨o,h1,h2.1⟩ e (fun z => nomatch z) h
 | @dT a kvs ea =>
  cases (show u = Value.ref a from rx)
  (refine Classical.byContradiction fun k_ => ?_; obtain ⟨_,_,xs,_,o,es,ep,h1,h2,_⟩:=(show ObjOk X.prog X.w H s.heap a (.dT kvs) from I.hok a _ ea); refine k_ ?_; clear k_)
  exact PySem.W.kia_one PySem.W.kitx_dict I.kIn ⟨o,h1,h2.1⟩ e (fun z => nomatch z) h
 | @ins a C dx fs ea cl ha hn htk hm =>
  cases (show u = Value.ref a from rx)
  (refine Classical.byContradiction fun k_ => ?_; obtain ⟨mA,O,_⟩:=ins_get I.hok ea; refine k_ ?_; clear k_)
  (refine Classical.byContradiction fun k_ => ?_; obtain ⟨od,J,_⟩:=O.look; refine k_ ?_; clear k_)
  exact PySem.W.kia_one (PySem.W.kitx_own (cl.get _) cl.hd ha hn htk hm) I.kIn J e (fun z => nomatch z) h
end
end L2
namespace L2
open PySem PySem.Spec PyProof.Rows
structure Room (k:Nat) (A:Around):Prop where
 hd:A.handled = none
 dp:A.depth + 3 * k + 5 < recursionLimit
 un:A.units + 16 * k + 200 < cLine
theorem Room.mono {j k:Nat} {A:Around} (r:Room k A) (h:j≤k):Room j A:=⟨r.hd,by have:=r.dp; omega,by have:=r.un; omega⟩
theorem Room.deeper {k:Nat} {A:Around} (r:Room (k + 1) A) (env:Env):Room k (A.deeper env) :=
 ⟨r.hd,by have:=r.dp; show A.depth + 1 + 3 * k + 5 < _; omega,by have:=r.un; show A.units + 3 + 16 * k + 200 < _; omega⟩
theorem Room.in1 {k:Nat} {A:Around} (r:Room (k + 1) A):Room k A.in1 :=
 ⟨r.hd,by have:=r.dp; show A.depth + 3 * k + 5 < _; omega,by have:=r.un; show A.units + 1 + 16 * k + 200 < _; omega⟩
theorem Room.depth {k:Nat} {A:Around} (r:Room k A):A.depth < recursionLimit:=by have:=r.dp; omega
theorem Room.units {k:Nat} {A:Around} (r:Room k A):A.units + 64 < cLine:=by have:=r.un; omega
theorem Room.units0 {k:Nat} {A:Around} (r:Room k A):A.units < cLine:=by have:=r.un; omega
def tNil:TA:=fun _ H Q => Q [] H
def tCons (ta:TE) (tr:TA):TA:=fun σ H Q => ta σ H fun x H1 => tr σ H1 fun xs H2 => Q (x::xs) H2
section
variable {X:Cx} {e:Expr} {es:List Expr} {te:TE} {t:TA} {pos:Pos}
theorem pa_nil:PA X [] tNil:=fun _ _ _ _ H Q I h => Calls.spliced_nil ⟨[],H,I,.nil,h⟩
theorem pa_cons (ha:PE X e te) (hr:PA X es t) (hs:starEach (e::es) X.env = (false,eval e X.env)::starEach es X.env:=by rfl):PA X (e::es) (tCons te t):=by
 intro pos pins s σ H Q I h
 rw [hs]
 show wpAny _ _ (spliced ((false,eval e X.env)::backTo pos (starEach es X.env))) _ _ s
 refine Calls.spliced_cons (thn (ha pins s σ H _ I h) fun u s1 zz => ?_)
 (refine Classical.byContradiction fun k_ => ?_; obtain ⟨x,H1,I1,r1,q1⟩:=zz; refine k_ ?_; clear k_)
 exact thn (hr pos pins s1 σ H1 _ I1 q1) fun us s2 ⟨xs,H2,I2,r2,q2⟩ => ⟨x::xs,H2,I2,.cons r1 r2,q2⟩
def tTup (t:TA):TE:=fun σ H Q => t σ H fun xs H1 => xs.length≤sizeLine∧∀ p,H1 p = none→Q (.ref p) (upd H1 p (.tup xs))
def tLst (t:TA):TE:=fun σ H Q => t σ H fun xs H1 => xs.length≤sizeLine∧∀ p,H1 p = none→Q (.ref p) (upd H1 p (.lst xs))
theorem pe_tup {x1} (h:PA X es t):PE X (.Tuple es x1 pos) (tTup t):=by
 intro pins s σ H Q I hq
 refine wpAny_Tuple_spliced (thn (h pos pins s σ H _ I hq) fun us s1 ⟨xs,H1,I1,r,z,q⟩ => ⟨by rw [← r.length]; exact z,?_⟩)
 have hf:H1 s1.heap.objs.size = none:=I1.hok.fresh (Nat.le_refl _)
 refine ⟨.ref s1.heap.objs.size,upd H1 s1.heap.objs.size (.tup xs),I1.laid (t':=s1.toks) (fun b u e => Heap.get?_push_of_some _ e) (Nat.le_refl _) ?_,rfl,q _ hf⟩
 exact ⟨z,us,r,⟨_,Heap.get?_push_size _ rfl,rfl,_,rfl⟩⟩
theorem pe_lst (h:PA X es t):PE X (.List es pos) (tLst t):=by
 intro pins s σ H Q I hq
 refine wpAny_List_spliced (thn (h pos pins s σ H _ I hq) fun us s1 ⟨xs,H1,I1,r,z,q⟩ => ⟨by rw [← r.length]; exact z,?_⟩)
 have hf:H1 s1.heap.objs.size = none:=I1.hok.fresh (Nat.le_refl _)
 refine ⟨.ref s1.heap.objs.size,upd H1 s1.heap.objs.size (.lst xs),I1.laid (t':=s1.toks) (fun b u e => Heap.get?_push_of_some _ e) (Nat.le_refl _) ?_,rfl,q _ hf⟩
 exact ⟨z,us,0,r,Heap.get?_push_size _ rfl⟩
end
abbrev Sp:=List V→Hp→VK→XK→Prop
abbrev CXT:=List Env→Hp→Shared→XK→Value→Shared→Prop
structure Env0 (P:Program) (w:World) (K:PySem.W.Frag) (mg:Str→Option Value) (base:Heap) (A:Around) (outer:List Env) (s:Shared) (H:Hp):Prop where
 frames:A.frames = some outer
 mod:Mod K mg base
 bs:∀ b o,base.get? b = some o→s.heap.get? b = some o∧H b = none
 bsz:base.objs.size≤s.heap.objs.size
 funs:s.heap.FunFrames base outer
 frf:∀ b∈frs outer,H b = none
 hok:HOk P w H s.heap
 bare:AllBare s.gens
def CE (outer:List Env) (P:Program) (w:World) (H:Hp) (s:Shared) (Q:VK) (u:Value) (s':Shared):Prop :=
 ∃ v H',s'.os = s.os∧AllBare s'.gens∧Un (frs outer) [] H H' s.heap s'.heap∧HOk P w H' s'.heap∧RelV v u∧Q v H'
def CR (CX:CXT) (outer:List Env) (P:Program) (w:World) (H:Hp) (s:Shared) (Q:VK) (E:XK) (r:Result) (s':Shared):Prop :=
 match r with
 | .ok (.ret u) => CE outer P w H s Q u s'
 | .ok _ => False
 | .error e => CX outer H s E e s'
structure FnOk (P:Program) (w:World) (K:PySem.W.Frag) (mg:Str→Option Value) (base:Heap) (CX:CXT) (k:Nat) (f:Addr) (fd:FuncData) (ps:List Str) (sp:Sp):Prop where
 len:∀ vs H Q E,sp vs H Q E→vs.length = ps.length
 run:∀ (A:Around) (outer:List Env) (s:Shared) (H:Hp) (args:Args) (us:List Value) (vs:List V) (Q:VK) (E:XK),Room k A→Env0 P w K mg base A outer s H→BindsTo s fd args (ps.zip us)→Vals vs us→sp vs H Q E →
  codeAny (model P w) A (.call (.ref f) args) (CR CX outer P w H s Q E) s
section
variable {X:Cx} {pins:List (Addr×Obj)} {σ:St} {H:Hp} {s s':Shared}
theorem Inv.env0 (I:Inv X pins σ H s):Env0 X.prog X.w X.K X.mg X.base X.A X.stack s H :=
 ⟨I.ok.frames,I.ok.mod,I.bs,Nat.le_trans I.ok.bsz I.sz,I.stack,I.stkFree,I.hok,I.bare⟩
theorem Inv.after {Q:VK} {u:Value} (I:Inv X pins σ H s) (h:CE X.stack X.prog X.w H s Q u s'):EP X pins σ Q u s':=by
 (refine Classical.byContradiction fun k_ => ?_; obtain ⟨v,H',os,bare,un,hok,r,q⟩:=h; refine k_ ?_; clear k_)
 (refine Classical.byContradiction fun k_ => ?_; obtain ⟨hh,g,d,t,os'⟩:=s'; refine k_ ?_; clear k_)
 obtain rfl:os' = s.os:=os
 exact ⟨v,H',I.call (h':=hh) (g':=g) (d':=d) (t':=t) (ch:=[]) un hok bare (fun b z => absurd z (by simp)),r,q⟩
end
def tCall (sp:Sp) (dvs:List V) (E:XK) (t:TA):TE:=fun σ H Q => t σ H fun vs H1 => sp (vs++dvs) H1 Q E
def Binds (K:PySem.W.Frag) (fd:FuncData) (ps:List Str) (ds:List Value):Prop :=
 ∀ (s:Shared) (us:List Value),K.In s.heap→(us++ds).length = ps.length→BindsTo s fd ⟨us,[]⟩ (ps.zip (us++ds))
theorem Binds.all {K:PySem.W.Frag} {fd:FuncData} {ps:List Str} (h:∀ us:List Value,us.length = ps.length→bindArgs fd ⟨us,[]⟩ = pure (ps.zip us)):Binds K fd ps []:=fun s us _ hl => by
 rw [List.append_nil] at hl ⊢
 exact .of_eq (h us hl)
def Passes (CX:CXT) (X:Cx) (E:XK):Prop:=∀ (pins:List (Addr×Obj)) (σ:St) (H:Hp) (s:Shared) (e:Value) (s':Shared),Inv X pins σ H s→CX X.stack H s E e s'→X.xe e s'
section
variable {X:Cx} {CX:CXT} {k:Nat} {f C:Addr} {fd:FuncData} {ps:List Str} {sp:Sp} {dvs:List V} {ds:List Value} {E:XK} {x m:Str} {p pos apos:Pos} {e o:Expr} {es:List Expr} {ta:TE} {t:TA}
theorem run_fn {pins:List (Addr×Obj)} {σ:St} {H:Hp} {s:Shared} {Q:VK} {us:List Value} {vs:List V} (F:FnOk X.prog X.w X.K X.mg X.base CX k f fd ps sp) (hr:Room k X.A) (hb:Binds X.K fd ps ds) (hd:Vals dvs ds) (hx:Passes CX X E)
  (I:Inv X pins σ H s) (r:Vals vs us) (h:sp (vs++dvs) H Q E):wpAny (model X.prog X.w) X.A (call (.ref f) us) (EP X pins σ Q) X.xe s:=by
 have r2:Vals (vs++dvs) (us++ds):=r.append hd
 have hl:(us++ds).length = ps.length:=by rw [← r2.length]; exact F.len _ _ _ _ h
 refine wpAny_call (codeAny_mono (F.run X.A X.stack s H ⟨us,[]⟩ (us++ds) (vs++dvs) Q E hr I.env0 (hb s us I.kIn hl) r2 h) fun r s' hq => ?_)
 cases r with
 | error e => exact hx pins σ H s e s' I hq
 | ok fl =>
  cases fl with
  | ret u => exact I.after hq
  | next => exact False.elim hq
  | brk => exact False.elim hq
  | cont => exact False.elim hq
theorem pe_call (F:FnOk X.prog X.w X.K X.mg X.base CX k f fd ps sp) (hr:Room k X.A) (hg:Gl X x) (hm:X.mg x = some (.ref f)) (hk:PySem.W.keepIn X.K (.ref f) = true) (hb:Binds X.K fd ps ds) (hd:Vals dvs ds) (hx:Passes CX X E)
  (ha:PA X (e::es) t) (hdb:(x == ("__debug__" : Str)) = false:=by decide) (he:starEach (e::es) X.env = (false,eval e X.env)::starEach es X.env:=by rfl) (hpl:(backTo pos (starEach es X.env)).any (·.1) = false:=by rfl) :
  PE X (.Call (.Name x p) (e::es) [] pos) (tCall sp dvs E t):=by
 intro pins s σ H Q I h
 refine wpAny_Call_Name_kw (ld_glob I hg hm ?_ hdb)
 refine PySem.W.callWith_K (h₀:=X.base) I.ok.mod.kin hk (thn (ha pos pins s σ H _ I h) fun us s1 ⟨vs,H1,I1,r,q⟩ => ⟨I1.kIn,?_⟩) he hpl
 exact run_fn F hr hb hd hx I1 r q
structure Mk (K:PySem.W.Frag) (C f:Addr):Prop where
 makes:PySem.W.makesIn K C = true
 init:PySem.W.findIn K (.ref C) "__init__" = some (some (.ref f))
 fn:PySem.W.isFn K (.ref f) = true
 kp:PySem.W.keepIn K (.ref C) = true
end
def PK (X:Cx) (kws:List Keyword) (t:TA):Prop :=
 ∀ (pos:Pos) (pins:List (Addr×Obj)) (s:Shared) (σ:St) (H:Hp) (Q:List V→Hp→Prop),Inv X pins σ H s→t σ H Q→wpAny (model X.prog X.w) X.A (evalAll ((backToKw pos (keywordEach kws X.env)).map (·.2))) (AP X pins σ Q) X.xe s
section
variable {X:Cx} {CX:CXT} {k:Nat} {f C:Addr} {fd:FuncData} {ps ks:List Str} {sp:Sp} {E:XK} {x m:Str} {p pos apos kpos:Pos} {e o:Expr} {es:List Expr} {kws:List Keyword} {te ta:TE} {t tk:TA} {nm:Option Str}
theorem pk_nil:PK X [] tNil:=fun _ _ _ _ H Q I h => wpAny_evalAll_nil ⟨[],H,I,.nil,h⟩
theorem pk_cons (ha:PE X e te) (hr:PK X kws t):PK X (⟨nm,e,kpos⟩::kws) (tCons te t):=by
 intro pos pins s σ H Q I h
 show wpAny _ _ (evalAll ((do let v ← eval e X.env; standAt pos; pure v)::(backToKw pos (keywordEach kws X.env)).map (·.2))) _ _ s
 refine wpAny_evalAll_cons (wpAny_bind (thn (ha pins s σ H _ I h) fun u s1 ⟨x,H1,I1,r1,q1⟩ => wpAny_bind (wpAny_standAt (wpAny_pure ?_))))
 exact thn (hr pos pins s1 σ H1 _ I1 q1) fun us s2 ⟨xs,H2,I2,r2,q2⟩ => ⟨x::xs,H2,I2,.cons r1 r2,q2⟩
structure KBinds (K:PySem.W.Frag) (fd:FuncData) (ps ks:List Str) (g:List Value→List Value→List Value) (gV:List V→List V→List V):Prop where
 to:∀ (s:Shared) (us ws:List Value),K.In s.heap→(g us ws).length = ps.length→BindsTo s fd ⟨us,ks.zip ws⟩ (ps.zip (g us ws))
 rel:∀ {vs:List V} {us:List Value} {zs:List V} {ws:List Value},Vals vs us→Vals zs ws→Vals (gV vs zs) (g us ws)
variable {g:List Value→List Value→List Value} {gV:List V→List V→List V}
end
structure FnScope (N P:List Str) (sc:Scope):Prop where
 kind:sc.kind = .function
 co:sc.isCoroutine = false
 gen:sc.isGenerator = false
 nd:N.Nodup
 pre:N.take P.length = P
 par:∀ x∈P,sc.names.lookup x = some .local∨sc.names.lookup x = some .cell
 nofree:∀ y∈sc.names,y.2≠.free
theorem bindL_out {kindOf:Str→Option NameKind} {x:Str}:∀ {binds:List (Str×Value)} {m:Str→Option Value},(∀ v,(x,v)∉binds)→bindL kindOf binds m x = m x
 | [],_,_ => rfl
 | (n,v)::r,m,h => by
  unfold bindL
  rw [bindL_out fun w hw => h w (List.mem_cons_of_mem _ hw)]
  split
  ·have:x≠n:=by rintro rfl; exact h v List.mem_cons_self
   simp [this]
  ·rfl
theorem bindC_out {kindOf:Str→Option NameKind} {x:Str}:∀ {binds:List (Str×Value)} {m:Str→Option Value},(∀ v,(x,v)∉binds)→bindC kindOf binds m x = m x
 | [],_,_ => rfl
 | (n,v)::r,m,h => by
  unfold bindC
  rw [bindC_out fun w hw => h w (List.mem_cons_of_mem _ hw)]
  split
  ·rfl
  ·have:x≠n:=by rintro rfl; exact h v List.mem_cons_self
   simp [this]
theorem bindL_get {kindOf:Str→Option NameKind} {x:Str} {v:Value}:∀ {P:List Str} {vs:List Value} {i:Nat} {m:Str→Option Value},P.Nodup→P[i]? = some x→vs[i]? = some v→kindOf x = some .local →
  bindL kindOf (P.zip vs) m x = some v
 | [],_,_,_,_,h,_,_ => by simp at h
 | _::_,[],_,_,_,_,h,_ => by simp at h
 | p::P,w::vs,0,m,nd,h1,h2,hk => by
  simp at h1 h2; subst h1; subst h2
  show bindL kindOf ((p,w)::P.zip vs) m p = _
  unfold bindL
  rw [bindL_out fun v hv => (List.nodup_cons.mp nd).1 (List.of_mem_zip hv).1,if_pos hk]
  simp
 | p::P,w::vs,i + 1,m,nd,h1,h2,hk => by
  show bindL kindOf ((p,w)::P.zip vs) m x = _
  unfold bindL
  exact bindL_get (i:=i) (List.nodup_cons.mp nd).2 (by simpa using h1) (by simpa using h2) hk
theorem bindC_get {kindOf:Str→Option NameKind} {x:Str} {v:Value}:∀ {P:List Str} {vs:List Value} {i:Nat} {m:Str→Option Value},P.Nodup→P[i]? = some x→vs[i]? = some v→kindOf x≠some .local →
  bindC kindOf (P.zip vs) m x = some v
 | [],_,_,_,_,h,_,_ => by simp at h
 | _::_,[],_,_,_,_,h,_ => by simp at h
 | p::P,w::vs,0,m,nd,h1,h2,hk => by
  simp at h1 h2; subst h1; subst h2
  show bindC kindOf ((p,w)::P.zip vs) m p = _
  unfold bindC
  rw [bindC_out fun v hv => (List.nodup_cons.mp nd).1 (List.of_mem_zip hv).1,if_neg hk]
  simp
 | p::P,w::vs,i + 1,m,nd,h1,h2,hk => by
  show bindC kindOf ((p,w)::P.zip vs) m x = _
  unfold bindC
  exact bindC_get (i:=i) (List.nodup_cons.mp nd).2 (by simpa using h1) (by simpa using h2) hk
def start (N:List Str) (vs:List V):St:=vs.map some++List.replicate (N.length - vs.length) none
def cxOf (CX:CXT) (P:Program) (w:World) (K:PySem.W.Frag) (mg:Str→Option Value) (base:Heap) (N:List Str) (qual:Str) (scope:Scope) (f:Addr) (cd:Value) (A:Around) (outer:List Env) (s:Shared) (H:Hp) (E:XK):Cx where
 prog:=P
 w:=w
 K:=K
 mg:=mg
 base:=base
 A:=A.deeper (envOfC qual scope s.heap.objs.size f cd)
 N:=N
 s₀:=s
 H₀:=H
 env:=envOfC qual scope s.heap.objs.size f cd
 outer:=outer
 stack:=envOfC qual scope s.heap.objs.size f cd::outer
 ex:=[]
 calm:=true
 fn:=fun _ => true
 pn:=[]
 xe:=fun e s' => wpAny (model P w) (A.deeper (envOfC qual scope s.heap.objs.size f cd)) (leaving (envOfC qual scope s.heap.objs.size f cd) e) (fun _ s'' => CX outer H s E e s'') (fun e' s'' => CX outer H s E e' s'') s'
theorem cell_has {sc:Scope} {n:Nat} {x:Str} (h:sc.names.lookup x = some .cell):∃ c,(cellsFrom n sc.names []).lookup x = some c:=by
 have q:=PySem.W.cellsFrom_some sc.names n [] (.inl h)
 exact Option.isSome_iff_exists.mp q
theorem inv_start {CX:CXT} {P:Program} {w:World} {K:PySem.W.Frag} {mg:Str→Option Value} {base:Heap} {N ps:List Str} {qual:Str} {scope:Scope} {f:Addr} {cd:Value} {A:Around} {outer:List Env} {s s1:Shared} {H:Hp} {E:XK} {us:List Value} {vs:List V}
  (S:FnScope N ps scope) (hd:A.handled = none) (e0:Env0 P w K mg base A outer s H) (hl:vs.length = ps.length) (r:Vals vs us)
  (x:InCallC s s.heap.objs.size (bindL (envOfC qual scope s.heap.objs.size f cd).kindOf (ps.zip us) fun _ => none) (cellsFrom (s.heap.objs.size + 1) scope.names []) (bindC (envOfC qual scope s.heap.objs.size f cd).kindOf (ps.zip us) fun _ => none) s1) :
  Inv (cxOf CX P w K mg base N qual scope f cd A outer s H E) [] (start N vs) H s1:=by
 have hpl:ps.length≤N.length:=by have:=congrArg List.length S.pre; rw [List.length_take] at this; omega
 (refine Classical.byContradiction fun k_ => ?_; obtain ⟨h1,tk,rfl,hk⟩:=x.done; refine k_ ?_; clear k_)
 have noA:∀ b:Addr,b∉(cxOf CX P w K mg base N qual scope f cd A outer s H E).ex:=fun b z => absurd (show b∈([]:List Addr) from z) (by simp)
 refine ⟨⟨e0.mod,S.kind,rfl,rfl,Nat.le_refl _,fun y z c h1 h2 => ?_,fun y hy => ?_,fun y c _ h => ?_,fun _ => hd,Around.frames_deeper e0.frames,.inr ⟨rfl,rfl⟩,fun b z => absurd z (noA b),e0.bs,e0.bsz,fun b _ _ => noA b,fun b z => absurd z (noA b),e0.funs,e0.frf⟩,
  rfl,e0.bare,Un.kept hk,⟨_,x.toInCall.ns,fun i y v h1 h2 h3 => ?_⟩,fun y c h => ⟨_,x.cell y c h⟩,e0.hok.fresh (Nat.le_refl _),fun y c h => ?_,fun p hp => absurd (show p∈([]:List (Addr×Obj)) from hp) (by simp),e0.hok.kept hk,?_⟩
 ·exact name_of_addr x.apart (PySem.mem_of_lookup h1) (PySem.mem_of_lookup h2)
 ·have hy:scope.names.lookup y = some .cell∨scope.names.lookup y = some .free:=hy
  rcases hy with hy | hy
  ·exact cell_has hy
  ·exact absurd rfl (S.nofree _ (PySem.mem_of_lookup hy))
 ·exact Nat.le_of_lt (x.above y c (PySem.mem_of_lookup h))
 ·have hi:i < vs.length:=by
   unfold start at h2
   by_cases hi:i < vs.length
   ·exact hi
   ·rw [List.getElem?_append_right (by simpa using hi)] at h2
    rw [List.getElem?_replicate] at h2
    split at h2 <;> cases h2
  have ha:vs[i]? = some v:=by
   unfold start at h2
   rw [List.getElem?_append_left (by simpa using hi),List.getElem?_map] at h2
   cases e:vs[i]? with
   | none => rw [e] at h2; cases h2
   | some a => rw [e] at h2; cases h2; rfl
  (refine Classical.byContradiction fun k_ => ?_; obtain ⟨u,hu,rv⟩:=r.get ha; refine k_ ?_; clear k_)
  have hp:ps[i]? = some y:=by
   rw [← S.pre,List.getElem?_take_of_lt (by omega)]; exact h1
  have ndP:ps.Nodup:=by rw [← S.pre]; exact S.nd.sublist (List.take_sublist _ _)
  refine ⟨u,rv,?_⟩
  rcases S.par y (List.mem_of_getElem? hp) with k | k
  ·exact .inl ⟨k,bindL_get ndP hp hu k⟩
  ·obtain ⟨c,e⟩:=cell_has (n:=s.heap.objs.size + 1) k
   refine .inr ⟨.inl k,c,e,?_⟩
   have q:=x.cell y c e
   rw [bindC_get ndP hp hu (by show scope.names.lookup y≠_; rw [k]; decide)] at q
   exact q
 ·exact e0.hok.fresh (Nat.le_of_lt (x.above y c (PySem.mem_of_lookup h)))
 ·unfold start
  show _ = N.length
  rw [List.length_append,List.length_map,List.length_replicate]
  omega
theorem fn_of {CX:CXT} {P:Program} {w:World} {K:PySem.W.Frag} {mg:Str→Option Value} {base:Heap} {k:Nat} {f:Addr} {name qual:Str} {params:Arguments} {body:List Stmt} {scope:Scope} {dV kV doc pm cdv ct oc:Value} {an od:Option Addr}
  {osl:Array (Option Value)} {N ps:List Str} {sp:Sp} (lk:K.lookup f = some ⟨oc,od,.func (PySem.W.fnOf name qual params body scope dV kV doc pm an cdv ct),osl⟩) (hcd:PySem.W.codeIn K cdv qual = true) (S:FnScope N ps scope)
  (len:∀ vs H Q E,sp vs H Q E→vs.length = ps.length)
  (hbody:∀ (A:Around) (outer:List Env) (s:Shared) (H:Hp) (vs:List V) (Q:VK) (E:XK),Room k (A.deeper (envOfC qual scope s.heap.objs.size f cdv))→sp vs H Q E →
   ∃ t,PSs (cxOf CX P w K mg base N qual scope f cdv A outer s H E) body t∧t { nx:=fun _ H' => Q .non H',rt:=Q } (start N vs) H) :
  FnOk P w K mg base CX (k + 1) f (PySem.W.fnOf name qual params body scope dV kV doc pm an cdv ct) ps sp:=by
 refine ⟨len,fun A outer s H args us vs Q E hr e0 hb r hsp => ?_⟩
 have hl:=len _ _ _ _ hsp
 have KX:K.In s.heap:=e0.mod.kin.keeps fun b o e => (e0.bs b o e).1
 have lim:s.heap.NoLimit:=e0.mod.nolimit.keeps fun b o e => (e0.bs b o e).1
 have hkind:∀ y∈ps.zip us,scope.names.lookup y.1 = some .local∨(scope.names.lookup y.1 = some .cell∧((cellsFrom (s.heap.objs.size + 1) scope.names []).lookup y.1).isSome = true):=fun ⟨n,v⟩ hy => by
  rcases S.par n (List.of_mem_zip hy).1 with q | q
  ·exact .inl q
  ·exact .inr ⟨q,PySem.W.cellsFrom_some _ _ _ (.inl q)⟩
 refine codeAny_call_function hr.depth (KX _ _ lk) rfl S.co S.gen rfl (PySem.W.codeRec_of KX hcd) (hb _ _ _ _ ?_)
 refine wpAny_newFunctionEnv_cells S.kind hkind fun env he s1 x => ?_
 subst he
 refine ⟨lim.keeps x.toInCall.keep,codeAny_func ?_⟩
 (refine Classical.byContradiction fun k_ => ?_; obtain ⟨t,ht,hq⟩:=hbody A outer s H vs Q E (hr.deeper _) hsp; refine k_ ?_; clear k_)
 have I:Inv (cxOf CX P w K mg base N qual scope f cdv A outer s H E) [] (start N vs) H s1:=inv_start S hr.hd e0 hl r x
 refine wpAny_mono (ht [] s1 (start N vs) H _ I hq) (fun fl s' hs => ?_) fun e s' hs => hs
 have fin:∀ {σ':St} {H':Hp} {v:V} {u:Value},Inv (cxOf CX P w K mg base N qual scope f cdv A outer s H E) [] σ' H' s'→RelV v u→Q v H'→CE outer P w H s Q u s' :=
  fun {σ' H' v u} J rv q => ⟨v,H',J.os,J.bare,J.base,J.hok,rv,q⟩
 cases fl with
 | ret u =>
  (refine Classical.byContradiction fun k_ => ?_; obtain ⟨v,σ',H',J,rv,q⟩:=hs; refine k_ ?_; clear k_)
  exact fin J rv q
 | next =>
  (refine Classical.byContradiction fun k_ => ?_; obtain ⟨σ',H',J,q⟩:=hs; refine k_ ?_; clear k_)
  exact fin (v:=V.non) (u:=Value.none) J rfl q
 | brk =>
  (refine Classical.byContradiction fun k_ => ?_; obtain ⟨_,_,_,q⟩:=hs; refine k_ ?_; clear k_)
  exact False.elim q
 | cont =>
  (refine Classical.byContradiction fun k_ => ?_; obtain ⟨_,_,_,q⟩:=hs; refine k_ ?_; clear k_)
  exact False.elim q
end L2
namespace L2
open PySem PySem.Spec PyProof.Rows
section
variable {X:Cx} {x:Str} {p pos:Pos} {e:Expr} {es:List Expr} {t:TA} {id T:String} {r:List V→Hp→VK→Prop}
def tCB (r:List V→Hp→VK→Prop) (t:TA):TE:=fun σ H Q => t σ H fun vs H1 => r vs H1 Q
theorem pe_callB (hc:CallR X (.builtin id) r) (hg:Gl X x) (hm:X.mg x = none) (hv:bootBuiltins x = some (.builtin id)) (ha:PA X (e::es) t) (hn:x ≠ "__name__":=by decide) (hdb:(x == ("__debug__" : Str)) = false:=by decide)
  (he:starEach (e::es) X.env = (false,eval e X.env)::starEach es X.env:=by rfl) (hpl:(backTo pos (starEach es X.env)).any (·.1) = false:=by rfl):PE X (.Call (.Name x p) (e::es) [] pos) (tCB r t):=by
 intro pins s σ H Q I h
 refine wpAny_Call_Name_kw (ld_blt I hg hm hv ?_ hn hdb)
 exact PyProof.Rows.callWith_builtin1 (thn (ha pos pins s σ H _ I h) fun us s1 ⟨vs,H1,I1,r1,q1⟩ => hc pins s1 σ H1 vs us Q I1 r1 q1) he hpl
theorem pe_callTy (hc:CallR X (.type T) r) (hg:Gl X x) (hm:X.mg x = none) (hv:bootBuiltins x = some (.type T)) (ha:PA X (e::es) t) (hn:x ≠ "__name__":=by decide) (hdb:(x == ("__debug__" : Str)) = false:=by decide)
  (he:starEach (e::es) X.env = (false,eval e X.env)::starEach es X.env:=by rfl) (hpl:(backTo pos (starEach es X.env)).any (·.1) = false:=by rfl):PE X (.Call (.Name x p) (e::es) [] pos) (tCB r t):=by
 intro pins s σ H Q I h
 refine wpAny_Call_Name_kw (ld_blt I hg hm hv ?_ hn hdb)
 exact PyProof.Rows.callWith_type1 (thn (ha pos pins s σ H _ I h) fun us s1 ⟨vs,H1,I1,r1,q1⟩ => hc pins s1 σ H1 vs us Q I1 r1 q1) he hpl
end
end L2
namespace HT
open PySem PyProof.Rows
def lexLt:List Int→List Int→Bool
 | [],[] => false
 | [],_::_ => true
 | _::_,[] => false
 | x::xs,y::ys => if x = y then lexLt xs ys else decide (x < y)
theorem lexLt_cons (x y:Int) (xs ys:List Int):lexLt (x::xs) (y::ys) = if x = y then lexLt xs ys else decide (x < y):=rfl
theorem lexLt_nil_nil:lexLt [] [] = false:=rfl
theorem lexLt_nil_cons (y:Int) (ys:List Int):lexLt [] (y::ys) = true:=rfl
theorem lexLt_cons_nil (x:Int) (xs:List Int):lexLt (x::xs) [] = false:=rfl
theorem eqAt_int (A:Around) (s:Shared) (a:Int) (t:Tok) (c:Int) (u:Tok):∃ e,SeqAt.EqAt A s (.int a t) (.int c u) e∧(e = true↔a = c) :=
 ⟨(a == c),SeqAt.EqAt.int_int a t c u,by simp⟩
theorem rcLt_int (A:Around) (s:Shared) (a:Int) (t:Tok) (c:Int) (u:Tok) (prog:Program) (w:World) (E:Value→Shared→Prop) (Q:Value→Shared→Prop) (h:Q (.bool (decide (a < c))) s) :
  wpAny (model prog w) A (richCompare .Lt (.int a t) (.int c u)) Q E s :=
 (PyProof.Rows.lt_int h:wpAny (model prog w) A (compareOp .Lt (.int a t) (.int c u)) Q E s)
section
open PySem.SeqAt
open PySem.AutoSeq1 (wpAny_loadPart')
open PySem.MeetsSeq PySem.MeetsSeq2 PySem.MeetsSeq3
theorem tuple_lt_ints (l b:Addr) (items items2:Array Value) (n n2:Nat) (dd dd2:Option Addr) (sl sl2:Array (Option Value)) (ns ms:List Int) (hi:IntsAre items.toList ns) (hj:IntsAre items2.toList ms) :
  Meets (Builtin.«tuple.__lt__» ⟨[.ref l,.ref b],[]⟩)
   (fun _ R s => s.heap.get? l = some { cls:=.type "tuple",dict:=dd,data:=.seq items n,slots:=sl }∧s.heap.get? b = some { cls:=.type "tuple",dict:=dd2,data:=.seq items2 n2,slots:=sl2 } ∧
    R (.ok (.ret (.bool (lexLt ns ms)))) s) :=
 .of_wp fun prog w A R s h => by
  (refine Classical.byContradiction fun k_ => ?_; obtain ⟨hp,g,d,tk,os⟩:=s; obtain ⟨hl,hb,h⟩:=h; refine k_ ?_; clear k_)
  have f2:=AutoSeq1.sub_tuple_tuple
  have z1:items.size = ns.length:=by rw [← hi.length]; simp
  have z2:items2.size = ms.length:=by rw [← hj.length]; simp
  wp_walk using wpAny_loadPart' hl,wpAny_loadPart' hb,wpAny_forIn_list _ (fun rest b s' => b.1 = none∧s' = ⟨hp,g,d,tk,os⟩∧∃ (vs ws:List Value) (ns' ms':List Int),rest = vs.zip ws ∧
   IntsAre vs ns'∧IntsAre ws ms'∧ns'.length + items2.size = ms'.length + items.size∧R (.ok (.ret (.bool (lexLt ns' ms')))) ⟨hp,g,d,tk,os⟩) _
  case turn =>
   rintro ⟨y,x⟩ rest b s' ⟨hb',rfl,vs,ws,ns',ms',hz,hvi,hwi,hlen,hR⟩
   cases hvi with
   | nil => rw [List.zip_nil_left] at hz; cases hz
   | cons a t hvi' =>
    cases hwi with
    | nil => rw [List.zip_nil_right] at hz; cases hz
    | cons c u hwi' =>
     rw [List.zip_cons_cons] at hz
     injection hz with hyx hrest
     injection hyx with hy hx
     subst hy hx
     rw [lexLt_cons] at hR
     simp only [List.length_cons] at hlen
     (refine Classical.byContradiction fun k_ => ?_; obtain ⟨e,he,hiff⟩:=eqAt_int A.in1 ⟨hp,g,d,tk,os⟩ a t c u; refine k_ ?_; clear k_)
     refine wpAny_bind (he prog w _ _ ?_)
     cases e with
     | true =>
      rw [if_pos (hiff.mp rfl)] at hR
      wp_walk
      exact ⟨rfl,rfl,_,_,_,_,hrest,hvi',hwi',by omega,hR⟩
     | false =>
      rw [if_neg (fun q => absurd (hiff.mpr q) Bool.false_ne_true)] at hR
      have hri:=rcLt_int A.in1 ⟨hp,g,d,tk,os⟩ a t c u prog w
      wp_walk using hri
      exact ⟨_,rfl,by simpa using hR⟩
  case fin =>
   rintro ⟨b1,b2⟩ s' ⟨hb',rfl,vs,ws,ns',ms',hz,hvi,hwi,hlen,hR⟩
   simp only at hb'
   subst hb'
   have hv:lexLt ns' ms' = decide (items.size < items2.size):=by
    cases hvi with
    | nil =>
     cases hwi with
     | nil =>
      simp only [List.length_nil] at hlen
      rw [lexLt_nil_nil]
      exact (decide_eq_false (by omega)).symm
     | cons c u hw =>
      simp only [List.length_nil,List.length_cons] at hlen
      rw [lexLt_nil_cons]
      exact (decide_eq_true (by omega)).symm
    | cons a t hv =>
     cases hwi with
     | nil =>
      simp only [List.length_nil,List.length_cons] at hlen
      rw [lexLt_cons_nil]
      exact (decide_eq_false (by omega)).symm
     | cons c u hw =>
      rw [List.zip_cons_cons] at hz
      cases hz
   rw [hv] at hR
   wp_walk
   exact ⟨_,rfl,by simpa [Builtin.Tuple.tupleCompareSizes] using hR⟩
  case h =>
   exact ⟨rfl,rfl,items.toList,items2.toList,ns,ms,rfl,hi,hj,by omega,h⟩
end
section
variable {prog:Program} {w:World} {A:Around} {E:Value→Shared→Prop} {s:Shared}
theorem lt_tupInts {l b:Addr} {items items2:Array Value} {ns ms:List Int} {Q:Value→Shared→Prop} (hl:IsTup s.heap l items) (hb:IsTup s.heap b items2) (hi:IntsAre items.toList ns) (hj:IntsAre items2.toList ms)
  (hu:A.units < cLine) (h:Q (.bool (lexLt ns ms)) s):wpAny (model prog w) A (compareOp .Lt (.ref l) (.ref b)) Q E s:=by
 (refine Classical.byContradiction fun k_ => ?_; obtain ⟨⟨cls,dd,data,sl⟩,ho,hc,n,hd⟩:=id hl; refine k_ ?_; clear k_)
 (refine Classical.byContradiction fun k_ => ?_; obtain ⟨⟨cls2,dd2,data2,sl2⟩,ho2,hc2,n2,hd2⟩:=id hb; refine k_ ?_; clear k_)
 simp only at hc hd hc2 hd2
 subst hc hd hc2 hd2
 exact richCompare_meets_room (op:=.Lt) ⟨_,ho,rfl⟩ ⟨_,ho2,rfl⟩ PySem.F.slot_tuple_lt PySem.F.entry_tuple_lt (PySem.F.args_tuple_lt_2 _ _) (tuple_lt_ints l b items items2 n n2 dd dd2 sl sl2 ns ms hi hj)
  ⟨ho,ho2,show Value.bool (lexLt ns ms)≠Value.notImplemented∧Q (.bool (lexLt ns ms)) s from ⟨(fun x => nomatch x),h⟩⟩ hu
def sIx (n d:Nat):Option Int→Nat
 | none => d
 | some v => if v < 0 then (v + (n:Int)).toNat else min v.toNat n
end
end HT
namespace L2
open PySem PySem.Spec PyProof.Rows
abbrev TO:=St→Hp→(Option Int→Hp→Prop)→Prop
def PO (X:Cx) (e:Option Expr) (t:TO):Prop :=
 ∀ (pins:List (Addr×Obj)) (s:Shared) (σ:St) (H:Hp) (Q:Option Int→Hp→Prop),Inv X pins σ H s→t σ H Q →
  wpAny (model X.prog X.w) X.A (evalPart e X.env) (fun u s' => ∃ o H',Inv X pins σ H' s'∧IsPart u o∧Q o H') X.xe s
def tNoPart:TO:=fun _ H Q => Q none H
def tPart (t:TE):TO:=fun σ H Q => t σ H fun x H1 => ∃ i,x = .int i∧Q (some i) H1
theorem intsAre_of {ns:List Int}:∀ {us:List Value},Vals (ns.map V.int) us→IntsAre us ns:=by
 induction ns with
 | nil => intro us r; rw [List.map_nil] at r; cases r; exact .nil
 | cons n ns ih =>
  intro us r
  rw [List.map_cons] at r
  cases r with
  | cons r1 r2 =>
   obtain ⟨t,e⟩:=r1
   subst e
   exact .cons n t (ih r2)
section
variable {X:Cx} {e:Expr} {te:TE} {lo hi:Option Expr} {tl th:TO} {pos p2:Pos}
theorem po_none:PO X none tNoPart:=by
 intro pins s σ H Q I h
 rw [evalPart_none]
 exact wpAny_pure ⟨none,H,I,.none,h⟩
theorem po_some (h:PE X e te):PO X (some e) (tPart te):=by
 intro pins s σ H Q I hw
 rw [evalPart_some]
 refine thn (h pins s σ H _ I hw) fun u s1 zz => ?_
 (refine Classical.byContradiction fun k_ => ?_; obtain ⟨x,H1,I1,r1,q1⟩:=zz; refine k_ ?_; clear k_)
 (refine Classical.byContradiction fun k_ => ?_; obtain ⟨i,rfl,q⟩:=q1; refine k_ ?_; clear k_)
 obtain ⟨t,rfl⟩:=r1
 exact ⟨some i,H1,I1,.int i t,q⟩
def SlR (X:Cx) (r:V→Option Int→Option Int→Hp→VK→Prop):Prop :=
 ∀ (pins:List (Addr×Obj)) (s:Shared) (σ:St) (H:Hp) (x:V) (v vl vu:Value) (lo hi:Option Int) (sl:Addr) (Q:VK),Inv X pins σ H s→RelV x v→s.heap.IsSliceOf sl vl vu .none→IsPart vl lo→IsPart vu hi→r x lo hi H Q →
  ∃ T id,typeLookup (.type T) "__getitem__" = pure (some (.builtin id))∧s.TypeIs v T∧wpAny (model X.prog X.w) X.A (getItem v (.ref sl)) (EP X pins σ Q) X.xe s
def tSl (r:V→Option Int→Option Int→Hp→VK→Prop) (te:TE) (tl th:TO):TE:=fun σ H Q => te σ H fun x H1 => tl σ H1 fun l H2 => th σ H2 fun u H3 => r x l u H3 Q
theorem pe_slice {r:V→Option Int→Option Int→Hp→VK→Prop} (hr:SlR X r) (he:PE X e te) (hl:PO X lo tl) (hu:PO X hi th):PE X (.Subscript e (.Slice lo hi none p2) pos) (tSl r te tl th):=by
 intro pins s σ H Q I h
 refine Subscript_ (thn (he pins s σ H _ I h) fun v s1 zz => ?_)
 (refine Classical.byContradiction fun k_ => ?_; obtain ⟨x,H1,I1,r1,q1⟩:=zz; refine k_ ?_; clear k_)
 refine wpAny_Slice (thn (hl pins s1 σ H1 _ I1 q1) fun vl s2 ⟨l,H2,I2,pl,q2⟩ => thn (hu pins s2 σ H2 _ I2 q2) fun vu s3 zz => ?_)
 (refine Classical.byContradiction fun k_ => ?_; obtain ⟨u,H3,I3,pu,q3⟩:=zz; refine k_ ?_; clear k_)
 rw [evalPart_none]
 refine wpAny_pure ?_
 have I4:Inv X pins σ H3 { s3 with heap:=s3.heap.push { cls:=.type "slice",data:=.fields #[vl,vu,.none] } }:=I3.kept (t':=s3.toks) fun b ob q => Heap.get?_push_of_some _ q
 (refine Classical.byContradiction fun k_ => ?_; obtain ⟨T,id,hT,ht,hg⟩:=hr pins { s3 with heap:=s3.heap.push { cls:=.type "slice",data:=.fields #[vl,vu,.none] } } σ H3 x v vl vu l u s3.heap.objs.size Q I4 r1 (Heap.IsSliceOf.new ..) pl pu q3; refine k_ ?_; clear k_)
 show wpAny (model X.prog X.w) X.A (subscriptTail e (.Slice lo hi none p2) v (.ref s3.heap.objs.size)) (EP X pins σ Q) X.xe { s3 with heap:=s3.heap.push { cls:=.type "slice",data:=.fields #[vl,vu,.none] } }
 exact tail_any (ops:=[.ref s3.heap.objs.size,v]) ht hT hg (by with_unfolding_all rfl)
def rLtT (K:PySem.W.Frag):R2:=fun x y H Q => ∃ a b ns ms,x = .ref a∧y = .ref b∧SqT K H a (ns.map V.int)∧SqT K H b (ms.map V.int)∧Q (.bl (HT.lexLt ns ms)) H
theorem op_ltT (hu:X.A.units < cLine):OpR X (compareOp .Lt) (rLtT X.K):=by
 intro pins s σ H x y v u Q I rx ry h
 (refine Classical.byContradiction fun k_ => ?_; obtain ⟨a,b,ns,ms,rfl,rfl,ha,hb,q⟩:=h; refine k_ ?_; clear k_)
 cases rx
 cases ry
 (refine Classical.byContradiction fun k_ => ?_; obtain ⟨its,r1,p1,_⟩:=I.tuple ha; refine k_ ?_; clear k_)
 (refine Classical.byContradiction fun k_ => ?_; obtain ⟨its2,r2,p2,_⟩:=I.tuple hb; refine k_ ?_; clear k_)
 have i1:IntsAre its.toArray.toList ns:=intsAre_of r1
 have i2:IntsAre its2.toArray.toList ms:=intsAre_of r2
 exact HT.lt_tupInts p1 p2 i1 i2 hu ⟨.bl (HT.lexLt ns ms),H,I,rfl,q⟩
end
end L2
namespace L2
open PySem PySem.Spec PyProof.Rows
def ixN (n:Nat) (i:Int):Option Nat:=if 0≤i then (if i < n then some i.toNat else none) else if -(n:Int)≤i then some (i + n).toNat else none
def atI {α:Type} (xs:List α) (i:Int):Option α:=(ixN xs.length i).bind fun j => xs[j]?
theorem ixN_seq {n:Nat} {i:Int} {j:Nat} (h:ixN n i = some j):seqIndex? i n = some j∧j < n∧-(n:Int)≤i∧i < n:=by
 unfold ixN at h
 by_cases h0:0≤i
 ·rw [if_pos h0] at h
  by_cases h1:i < n
  ·rw [if_pos h1] at h
   have e:i.toNat = j:=Option.some.inj h
   exact ⟨by rw [seqIndex_of h0 h1,e],by omega,by omega,h1⟩
  ·rw [if_neg h1] at h; cases h
 ·rw [if_neg h0] at h
  by_cases h1 : -(n:Int)≤i
  ·rw [if_pos h1] at h
   have e:(i + n).toNat = j:=Option.some.inj h
   exact ⟨by rw [seqIndex_neg (by omega) h1,e],by omega,h1,by omega⟩
  ·rw [if_neg h1] at h; cases h
theorem atI_get {α:Type} {xs:List α} {i:Int} {v:α} (h:atI xs i = some v):∃ j,seqIndex? i xs.length = some j∧xs[j]? = some v∧j < xs.length∧-(xs.length:Int)≤i∧i < xs.length:=by
 unfold atI at h
 cases e:ixN xs.length i with
 | none => rw [e] at h; cases h
 | some j =>
  rw [e] at h
  (refine Classical.byContradiction fun k_ => ?_; obtain ⟨h1,h2,h3,h4⟩:=ixN_seq e; refine k_ ?_; clear k_)
  exact ⟨j,h1,h,h2,h3,h4⟩
def PlainIx (b:Expr):Prop:=∀ o i,subscripted b false o i = operate [o,i] (getItem o i)
def IxR (X:Cx) (r:R2):Prop :=
 ∀ (value slice:Expr) (pins:List (Addr×Obj)) (s:Shared) (σ:St) (H:Hp) (x y:V) (v u:Value) (Q:VK),Inv X pins σ H s→RelV x v→RelV y u→r x y H Q →
  subscripted slice false v u = operate [v,u] (getItem v u)→wpAny (model X.prog X.w) X.A (subscriptTail value slice v u) (EP X pins σ Q) X.xe s
def MtR (X:Cx) (id:String) (r:V→List V→Hp→VK→Prop):Prop :=
 ∀ (pins:List (Addr×Obj)) (s:Shared) (σ:St) (H:Hp) (x:V) (xs:List V) (v:Value) (us:List Value) (Q:VK),Inv X pins σ H s→RelV x v→Vals xs us→r x xs H Q →
  wpAny (model X.prog X.w) X.A (call (.builtin id) (v::us)) (EP X pins σ Q) X.xe s
section
variable {X:Cx} {a b:Expr} {ta tb:TE} {pos:Pos}
theorem pe_ix {r:R2} (hr:IxR X r) (ha:PE X a ta) (hb:PE X b tb) (hs:PlainIx b):PE X (.Subscript a b pos) (tOp r ta tb):=by
 intro pins s σ H Q I h
 exact Subscript_ (binT ha hb I h fun v u s2 x y H2 I2 rx ry q => hr a b pins s2 σ H2 x y v u Q I2 rx ry q (hs _ _))
def rIxL (K:PySem.W.Frag):R2:=fun x y H Q => ∃ p xs i v,x = .ref p∧y = .int i∧SqL K H p xs∧atI xs i = some v∧Q v H
def rIxT (K:PySem.W.Frag):R2:=fun x y H Q => ∃ p xs i v,x = .ref p∧y = .int i∧SqT K H p xs∧atI xs i = some v∧Q v H
def rIxS:R2:=fun x y H Q => ∃ z i c,x = .str z∧y = .int i∧z.length≤sizeLine∧atI z.cps.toList i = some c∧Q (.str ⟨#[c]⟩) H
theorem ix_list:IxR X (rIxL X.K):=by
 intro value slice pins s σ H x y v u Q I rx ry h hs
 (refine Classical.byContradiction fun k_ => ?_; obtain ⟨p,xs,i,z,rfl,rfl,hq,he,q⟩:=h; refine k_ ?_; clear k_)
 cases rx
 obtain ⟨t,rfl⟩:=ry
 (refine Classical.byContradiction fun k_ => ?_; obtain ⟨its,r,pl,hz⟩:=I.list hq; refine k_ ?_; clear k_)
 (refine Classical.byContradiction fun k_ => ?_; obtain ⟨j,h1,h2,h3,h4,h5⟩:=atI_get he; refine k_ ?_; clear k_)
 (refine Classical.byContradiction fun k_ => ?_; obtain ⟨w,ew,rw'⟩:=r.get h2; refine k_ ?_; clear k_)
 have hl:=r.length
 have hn:=line63
 have fin:EP X pins σ Q w s:=⟨z,H,I,rw',q⟩
 by_cases h0:0≤i
 ·have hj:i.toNat = j:=by
   rw [seqIndex_of h0 h5] at h1
   exact Option.some.inj h1
  exact item_listR pl.isList h0 (by omega) (by rw [hj]; simpa using ew) fin hs
 ·have hj:(i + (its.toArray.size:Int)).toNat = j:=by
   rw [seqIndex_neg (by omega) h4] at h1
   rw [List.size_toArray,← hl]
   exact Option.some.inj h1
  exact subscriptTail_builtinR (x:=w) pl.isList.typeIs slot_list_getitem.lookup
   (wpAny_getItem_list_neg (Q:=fun r s' => r = w∧EP X pins σ Q r s') pl.isList (by omega) (by rw [List.size_toArray] <;> omega) (by omega) (by rw [hj]; simpa using ew) ⟨rfl,fin⟩) hs
theorem ix_tup:IxR X (rIxT X.K):=by
 intro value slice pins s σ H x y v u Q I rx ry h hs
 (refine Classical.byContradiction fun k_ => ?_; obtain ⟨p,xs,i,z,rfl,rfl,hq,he,q⟩:=h; refine k_ ?_; clear k_)
 cases rx
 obtain ⟨t,rfl⟩:=ry
 (refine Classical.byContradiction fun k_ => ?_; obtain ⟨its,r,pl,hz⟩:=I.tuple hq; refine k_ ?_; clear k_)
 (refine Classical.byContradiction fun k_ => ?_; obtain ⟨j,h1,h2,h3,h4,h5⟩:=atI_get he; refine k_ ?_; clear k_)
 (refine Classical.byContradiction fun k_ => ?_; obtain ⟨w,ew,rw'⟩:=r.get h2; refine k_ ?_; clear k_)
 have hl:=r.length
 have hn:=line63
 have fin:EP X pins σ Q w s:=⟨z,H,I,rw',q⟩
 exact subscriptTail_builtinR (x:=w) pl.typeIs slot_tuple_getitem.lookup
  (getItem_tuple (j:=j) (Q:=fun r s' => r = w∧EP X pins σ Q r s') pl (by omega) (by omega) (by rw [List.size_toArray,← hl]; exact h1) (by simpa using ew) ⟨rfl,fin⟩) hs
theorem ix_str:IxR X rIxS:=by
 intro value slice pins s σ H x y v u Q I rx ry h hs
 (refine Classical.byContradiction fun k_ => ?_; obtain ⟨z,i,c,rfl,rfl,hz,he,q⟩:=h; refine k_ ?_; clear k_)
 obtain ⟨t,rfl⟩:=rx
 obtain ⟨t',rfl⟩:=ry
 (refine Classical.byContradiction fun k_ => ?_; obtain ⟨j,h1,h2,h3,h4,h5⟩:=atI_get he; refine k_ ?_; clear k_)
 have hl:z.cps.toList.length = z.length:=by simp [Str.length]
 rw [hl] at h1 h4 h5
 have hn:=line63
 exact tail_any (typeIs_str s z t) slot_str_getitem.lookup (getItem_str (c:=c) (by
  have e1:decide (i < -(2 ^ 63:Int)) = false:=decide_eq_false (by omega)
  have e2:decide (i ≥ 2 ^ 63) = false:=decide_eq_false (by omega)
  rw [e1,e2,Bool.or_false]) (by rw [h1]; simpa using h2) ⟨.str ⟨#[c]⟩,H,I.tok _,⟨_,rfl⟩,q⟩) hs
theorem call_len_seq:CallR X (.builtin "len") (fun xs H Q => ∃ p ys,xs = [.ref p]∧(SqL X.K H p ys∨SqT X.K H p ys)∧Q (.int ys.length) H):=by
 intro pins s σ H xs us Q I r h
 (refine Classical.byContradiction fun k_ => ?_; obtain ⟨p,ys,rfl,hq,q⟩:=h; refine k_ ?_; clear k_)
 (refine Classical.byContradiction fun k_ => ?_; obtain ⟨u,rfl,rx⟩:=vals1 r; refine k_ ?_; clear k_)
 cases rx
 have hn:=line63
 rcases hq with hq | hq
 ·(refine Classical.byContradiction fun k_ => ?_; obtain ⟨its,r',pl,hz⟩:=I.list hq; refine k_ ?_; clear k_)
  have hlen:=r'.length
  exact Calls.call_len_list pl.isList (by simp only [List.size_toArray] <;> omega) ⟨.int ys.length,H,I.tok _,⟨s.toks + 1,by rw [List.size_toArray,hlen]⟩,q⟩
 ·(refine Classical.byContradiction fun k_ => ?_; obtain ⟨its,r',pl,hz⟩:=I.tuple hq; refine k_ ?_; clear k_)
  have hlen:=r'.length
  exact len_tuple pl (by simp only [List.size_toArray] <;> omega) ⟨.int ys.length,H,I.tok _,⟨s.toks + 1,by rw [List.size_toArray,hlen]⟩,q⟩
theorem call_len_str:CallR X (.builtin "len") (fun xs H Q => ∃ z,xs = [.str z]∧z.length≤sizeLine∧Q (.int z.length) H):=by
 intro pins s σ H xs us Q I r h
 (refine Classical.byContradiction fun k_ => ?_; obtain ⟨z,rfl,hz,q⟩:=h; refine k_ ?_; clear k_)
 (refine Classical.byContradiction fun k_ => ?_; obtain ⟨u,rfl,t,rfl⟩:=vals1 r; refine k_ ?_; clear k_)
 have hn:=line63
 exact len_str (by omega) ⟨.int z.length,H,I.tok _,⟨_,rfl⟩,q⟩
theorem call_tuple_of:CallR X (.type "tuple") (fun xs H Q => ∃ p ys,xs = [.ref p]∧((SqL X.K H p ys∧∀ l,H l = none→Q (.ref l) (upd H l (.tup ys)))∨(SqT X.K H p ys∧Q (.ref p) H))):=by
 intro pins s σ H xs us Q I r h
 (refine Classical.byContradiction fun k_ => ?_; obtain ⟨p,ys,rfl,h⟩:=h; refine k_ ?_; clear k_)
 (refine Classical.byContradiction fun k_ => ?_; obtain ⟨u,rfl,rx⟩:=vals1 r; refine k_ ?_; clear k_)
 cases rx
 rcases h with ⟨hq,q⟩ | ⟨hq,q⟩
 ·(refine Classical.byContradiction fun k_ => ?_; obtain ⟨its,r',pl,hz⟩:=I.list hq; refine k_ ?_; clear k_)
  have hlen:=r'.length
  refine call_tuple_list pl.isList (fun h' kp => ?_) (by simp only [List.size_toArray] <;> omega)
  have I1:Inv X pins σ H { s with heap:=h' }:=I.kept (t':=s.toks) kp
  have I2:Inv X pins σ (upd H h'.objs.size (.tup ys)) { s with heap:=h'.push { cls:=.type "tuple",data:=.seq its.toArray } } :=
   I1.laid (t':=s.toks) (fun b o e => Heap.get?_push_of_some _ e) (Nat.le_refl _) (show ObjOk X.prog X.w _ _ _ (.tup ys) from ⟨hz,its,r',IsTup.new _ _⟩)
  exact ⟨.ref h'.objs.size,_,I2,rfl,q _ (I1.hok.fresh (Nat.le_refl _))⟩
 ·(refine Classical.byContradiction fun k_ => ?_; obtain ⟨its,r',pl,hz⟩:=I.tuple hq; refine k_ ?_; clear k_)
  exact call_tuple_same pl ⟨.ref p,H,I,rfl,q⟩
def tyV (K:PySem.W.Frag) (T:String) (x:V) (H:Hp):Prop:=match x with
 | .str _ => T = "str"
 | .int _ => T = "int"
 | .ref p => (T = "list"∧∃ xs,SqL K H p xs)∨(T = "tuple"∧∃ o,K.lookup p = some o∧o.cls = .type "tuple"∧o.dict = none) ∨
   (T = "dict"∧((∃ kvs,H p = some (.dK kvs))∨∃ kvs,H p = some (.dT kvs)))∨(T = "set"∧∃ S n,H p = some (.set S n))
 | _ => False
theorem tyV_is {pins:List (Addr×Obj)} {σ:St} {H:Hp} {s:Shared} {T:String} {x:V} {v:Value} (I:Inv X pins σ H s) (r:RelV x v) (ty:tyV X.K T x H) :
  s.TypeIs v T∧∀ a,v = .ref a→∃ ob,s.heap.get? a = some ob∧ob.dict = none:=by
 cases x with
 | str z =>
  obtain ⟨t,rfl⟩:=r
  cases (show T = "str" from ty)
  exact ⟨typeIs_str s z t,fun _ e => nomatch e⟩
 | int i =>
  obtain ⟨t,rfl⟩:=r
  cases (show T = "int" from ty)
  exact ⟨typeIs_int s i t,fun _ e => nomatch e⟩
 | ref p =>
  cases r
  rcases ty with ⟨rfl,xs,hq⟩ | ⟨rfl,o,hk,hc,hd⟩ | ⟨rfl,hk⟩ | ⟨rfl,S,n,hk⟩
  ·(refine Classical.byContradiction fun k_ => ?_; obtain ⟨its,_,pl,_⟩:=I.list hq; refine k_ ?_; clear k_)
   refine ⟨pl.isList.typeIs,fun a e => ?_⟩
   cases e
   (refine Classical.byContradiction fun k_ => ?_; obtain ⟨o,n,e,c,hd,_⟩:=pl; refine k_ ?_; clear k_)
   exact ⟨o,e,hd⟩
  ·refine ⟨⟨o,I.kIn p o hk,hc⟩,fun a e => ?_⟩
   cases e
   exact ⟨o,I.kIn _ o hk,hd⟩
  ·have z:∃ o,s.heap.get? p = some o∧o.ExactDict:=by
    rcases hk with ⟨kvs,hk⟩ | ⟨kvs,hk⟩
    ·(refine Classical.byContradiction fun k_ => ?_; obtain ⟨_,_,_,_,o,_,_,e,ex,_⟩:=I.hok p _ hk; refine k_ ?_; clear k_)
     exact ⟨o,e,ex⟩
    ·(refine Classical.byContradiction fun k_ => ?_; obtain ⟨_,_,_,_,o,_,_,e,ex,_⟩:=I.hok p _ hk; refine k_ ?_; clear k_)
     exact ⟨o,e,ex⟩
   (refine Classical.byContradiction fun k_ => ?_; obtain ⟨o,e,ex⟩:=z; refine k_ ?_; clear k_)
   refine ⟨⟨o,e,ex.1⟩,fun a e2 => ?_⟩
   cases e2
   exact ⟨o,e,ex.2.1⟩
  ·(refine Classical.byContradiction fun k_ => ?_; obtain ⟨o,_,_,_,e,ex,_⟩:=I.hok p _ hk; refine k_ ?_; clear k_)
   refine ⟨⟨o,e,ex.1⟩,fun a e2 => ?_⟩
   cases e2
   exact ⟨o,e,ex.2.1⟩
 | _ => exact False.elim ty
def tBM0 (K:PySem.W.Frag) (T:String) (r:V→List V→Hp→VK→Prop) (to:TE):TE:=fun σ H Q => to σ H fun x H1 => tyV K T x H1∧r x [] H1 Q
def tBM (K:PySem.W.Frag) (T:String) (r:V→List V→Hp→VK→Prop) (to:TE) (t:TA):TE:=fun σ H Q => to σ H fun x H1 => tyV K T x H1∧t σ H1 fun xs H2 => r x xs H2 Q
variable {o e:Expr} {es:List Expr} {to:TE} {t:TA} {name:Str} {apos cpos:Pos} {T id:String} {r:V→List V→Hp→VK→Prop}
theorem pe_bm0 (pa:PlainAttrs T) (slot:Slot T name id) (hty:typeOf (.builtin id) = pure (.type "method_descriptor")) (hm:MtR X id r) (ho:PE X o to)
  (hbase:attributeBase o name X.env (eval o X.env) = eval o X.env:=by rfl) (hline:(apos.endLine == cpos.line) = true:=by rfl):PE X (.Call (.Attribute o name apos) [] [] cpos) (tBM0 X.K T r to):=by
 intro pins s σ H Q I h
 refine wpAny_Call_method0_late hbase hline (thn (ho pins s σ H _ I h) fun v s1 zz => ?_)
 (refine Classical.byContradiction fun k_ => ?_; obtain ⟨x,H1,I1,r1,ty,q1⟩:=zz; refine k_ ?_; clear k_)
 obtain ⟨h1,h2⟩:=tyV_is I1 r1 ty
 exact ⟨T,id,pa,slot,hty,h1,h2,Calls.callWith_builtin rfl (PySem.evalArgs_none (hm pins s1 σ H1 x [] v [] Q I1 r1 .nil q1))⟩
theorem pe_bm (pa:PlainAttrs T) (slot:Slot T name id) (hty:typeOf (.builtin id) = pure (.type "method_descriptor")) (hm:MtR X id r) (ho:PE X o to) (ha:PA X (e::es) t)
  (hbase:attributeBase o name X.env (eval o X.env) = eval o X.env:=by rfl)
  (hfew:((backTo cpos (starEach (e::es) X.env)).all (fun x => !x.1) && (backToKw cpos (keywordEach [] X.env)).all (fun x => x.1.isSome)
   && decide ((e::es).length + ([]:List Keyword).length + (if ([]:List Keyword).isEmpty then 0 else 1) < 30)) = true:=by rfl)
  (hline:(apos.endLine == cpos.line) = true:=by rfl) (hs:starEach (e::es) X.env = (false,eval e X.env)::starEach es X.env:=by rfl) (hplain:(backTo cpos (starEach es X.env)).any (·.1) = false:=by rfl) :
  PE X (.Call (.Attribute o name apos) (e::es) [] cpos) (tBM X.K T r to t):=by
 intro pins s σ H Q I h
 refine wpAny_Call_method_late hbase hfew hline rfl (thn (ho pins s σ H _ I h) fun v s1 zz => ?_)
 (refine Classical.byContradiction fun k_ => ?_; obtain ⟨x,H1,I1,r1,ty,q1⟩:=zz; refine k_ ?_; clear k_)
 obtain ⟨h1,h2⟩:=tyV_is I1 r1 ty
 refine ⟨T,id,pa,slot,hty,h1,h2,?_⟩
 have hA:=ha cpos pins s1 σ H1 _ I1 q1
 rw [hs] at hA ⊢
 refine Calls.callWith_builtin (by show (false || (backTo cpos (starEach es X.env)).any (·.1)) = false; rw [hplain] <;> rfl) (Calls.evalArgs_plain ?_)
 exact thn hA fun us s2 ⟨vs,H2,I2,r2,q2⟩ => hm pins s2 σ H2 x vs v us Q I2 r1 r2 q2
/- xs.append(e),list.index on a module's tuple .. are MtR facts of 06m -/
end
end L2
namespace L2
open PySem PySem.Spec PyProof.Rows
def MtM (X:Cx) (id:String) (r:V→List V→Hp→VK→Prop):Prop :=
 ∀ (pins:List (Addr×Obj)) (s:Shared) (σ:St) (H:Hp) (x:V) (xs:List V) (v:Value) (us:List Value) (Q:VK),Inv X pins σ H s→RelV x v→Vals xs us→r x xs H Q →
  wpAny (model X.prog X.w) X.A (call (.builtin id) (v::us)) (EP X pins σ Q) X.xe s
theorem Vals.one {x:V} {us:List Value} (h:Vals [x] us):∃ u,us = [u]∧RelV x u:=by
 cases h with
 | cons r t => cases t; exact ⟨_,rfl,r⟩
theorem Vals.zero:∀ {us:List Value},Vals [] us→us = []
 | _,.nil => rfl
theorem Vals.dropLast {xs:List V} {us:List Value} (h:Vals xs us):Vals xs.dropLast us.dropLast:=by
 induction h with
 | nil => exact .nil
 | cons r t ih =>
  cases t with
  | nil => exact .nil
  | cons q t' => exact .cons r ih
theorem erase_last {α:Type} (l:List α):l.eraseIdx (l.length - 1) = l.dropLast:=by
 induction l with
 | nil => rfl
 | cons a r ih =>
  cases r with
  | nil => rfl
  | cons b r =>
   have e:(a::b::r).length - 1 = ((b::r).length - 1) + 1:=by
    have h1:(a::b::r).length = r.length + 2:=rfl
    have h2:(b::r).length = r.length + 1:=rfl
    omega
   rw [e,List.eraseIdx_cons_succ,ih]
   all_goals rfl
section
variable {X:Cx} {pins:List (Addr×Obj)} {σ:St} {H:Hp} {s:Shared} {l b:Addr} {xs ys zs:List V}
theorem Inv.lset {its its':List Value} {n:Nat} {f:Array Value→Array Value} {t':Nat} (I:Inv X pins σ H s) (hH:H l = some (.lst xs))
  (e:s.heap.get? l = some { cls:=.type "list",data:=.seq its.toArray n }) (hf:f its.toArray = its'.toArray) (hv:Vals ys its') (hz:ys.length≤sizeLine) :
  Inv X pins σ (upd H l (.lst ys)) { s with heap:=s.heap.update l (Obj.mapSeq f),toks:=t' }:=by
 have q:=PySem.IsL.update e f
 rw [hf] at q
 refine I.write (x:=l) (e:=l) (by rw [hH]; exact trivial) (.inl rfl) (fun b' u hb hu => (Heap.get?_update_other s.heap (Obj.mapSeq f) (Ne.symm hb)).trans hu) ⟨_,q⟩ ?_
 exact ⟨hz,its',_,hv,q⟩
theorem Inv.lnew {its:List Value} {t':Nat} (I:Inv X pins σ H s) (hv:Vals ys its) (hz:ys.length≤sizeLine) :
  Inv X pins σ (upd H s.heap.objs.size (.lst ys)) { s with heap:=s.heap.push { cls:=.type "list",data:=.seq its.toArray },toks:=t' } :=
 I.laid (fun _ _ q => Heap.get?_push_of_some _ q) (Nat.le_refl _) ⟨hz,its,0,hv,Heap.get?_push_size _ rfl⟩
theorem Inv.fresh (I:Inv X pins σ H s):H s.heap.objs.size = none:=I.hok.fresh (Nat.le_refl _)
theorem Inv.lstM (I:Inv X pins σ H s) (hH:H l = some (.lst xs)):xs.length≤sizeLine∧∃ (its:List Value) (n:Nat),Vals xs its∧xs.length = its.length∧s.heap.get? l = some { cls:=.type "list",data:=.seq its.toArray n }:=by
 (refine Classical.byContradiction fun k_ => ?_; obtain ⟨z,its,n,r,e⟩:=I.hok l _ hH; refine k_ ?_; clear k_)
 exact ⟨z,its,n,r,r.length,e⟩
theorem notLongL {n:Nat} (h:n≤sizeLine):Builtin.List.listTooLong n = false:=by
 unfold Builtin.List.listTooLong
 exact decide_eq_false (by omega)
end
section
variable {X:Cx}
def rAppend:V→List V→Hp→VK→Prop:=fun x vs H Q => ∃ l xs y,x = .ref l∧vs = [y]∧H l = some (.lst xs)∧xs.length < sizeLine∧Q .non (upd H l (.lst (xs++[y])))
theorem mt_append:MtM X "list.append" rAppend:=by
 intro pins s σ H x vs v us Q I rx rv h
 (refine Classical.byContradiction fun k_ => ?_; obtain ⟨l,xs,y,rfl,rfl,hH,hz,q⟩:=h; refine k_ ?_; clear k_)
 cases rx
 (refine Classical.byContradiction fun k_ => ?_; obtain ⟨u,rfl,ru⟩:=rv.one; refine k_ ?_; clear k_)
 (refine Classical.byContradiction fun k_ => ?_; obtain ⟨z,its,n,r,hl,e⟩:=I.lstM hH; refine k_ ?_; clear k_)
 refine call_meets F.slot_list_append ⟨_,e,rfl⟩ F.entry_list_append (F.args_list_append_2 _ _) (PySem.list_append l its.toArray n u (by rw [List.size_toArray]; omega)) ⟨e,?_⟩
 refine ⟨.non,_,I.lset (its':=its++[u]) hH e (by simp) (r.append (.cons ru .nil)) ?_,rfl,q⟩
 rw [List.length_append,List.length_singleton]
 omega
def rExtend:V→List V→Hp→VK→Prop:=fun x vs H Q => ∃ l b xs zs,x = .ref l∧vs = [.ref b]∧H l = some (.lst xs)∧H b = some (.lst zs)∧xs.length + zs.length≤sizeLine∧Q .non (upd H l (.lst (xs++zs)))
theorem mt_extend:MtM X "list.extend" rExtend:=by
 intro pins s σ H x vs v us Q I rx rv h
 (refine Classical.byContradiction fun k_ => ?_; obtain ⟨l,b,xs,zs,rfl,rfl,hH,hB,hz,q⟩:=h; refine k_ ?_; clear k_)
 cases rx
 (refine Classical.byContradiction fun k_ => ?_; obtain ⟨u,rfl,ru⟩:=rv.one; refine k_ ?_; clear k_)
 cases ru
 (refine Classical.byContradiction fun k_ => ?_; obtain ⟨z,its,n,r,hl,e⟩:=I.lstM hH; refine k_ ?_; clear k_)
 (refine Classical.byContradiction fun k_ => ?_; obtain ⟨z2,its2,n2,r2,hl2,e2⟩:=I.lstM hB; refine k_ ?_; clear k_)
 have hsz:its.toArray.size + its2.toArray.size≤sizeLine:=by rw [List.size_toArray,List.size_toArray]; omega
 have hlong:¬ (!its.toArray.isEmpty && Builtin.List.listTooLong (its.toArray.size + its2.toArray.size)) = true:=by
  rw [notLongL hsz,Bool.and_false]
  exact Bool.false_ne_true
 refine call_meets F.slot_list_extend ⟨_,e,rfl⟩ F.entry_list_extend (F.args_list_extend_2 _ _)
  (AutoSeq1.list_extend_list_list_0 l its.toArray n b its2.toArray n2 hlong (by rw [List.size_toArray]; omega) (by omega)) ⟨e,e2,?_⟩
 refine ⟨.non,_,I.lset (its':=its++its2) hH e (by simp) (r.append r2) ?_,rfl,q⟩
 rw [List.length_append]
 omega
def rPop:V→List V→Hp→VK→Prop:=fun x vs H Q => ∃ l xs y,x = .ref l∧vs = []∧H l = some (.lst xs)∧xs[xs.length - 1]? = some y∧Q y (upd H l (.lst xs.dropLast))
theorem mt_pop:MtM X "list.pop" rPop:=by
 intro pins s σ H x vs v us Q I rx rv h
 (refine Classical.byContradiction fun k_ => ?_; obtain ⟨l,xs,y,rfl,rfl,hH,hy,q⟩:=h; refine k_ ?_; clear k_)
 cases rx
 have hus:=rv.zero
 subst hus
 (refine Classical.byContradiction fun k_ => ?_; obtain ⟨z,its,n,r,hl,e⟩:=I.lstM hH; refine k_ ?_; clear k_)
 (refine Classical.byContradiction fun k_ => ?_; obtain ⟨u,hu,ru⟩:=r.get hy; refine k_ ?_; clear k_)
 have hy':its.toArray[its.toArray.size - 1]? = some u:=by
  show its.toArray[its.length - 1]? = some u
  rw [← Array.getElem?_toList,← hl]
  exact hu
 refine call_meets F.slot_list_pop ⟨_,e,rfl⟩ F.entry_list_pop (F.args_list_pop_1 _) (MeetsSeq.list_pop_last l its.toArray n u hy' (by rw [List.size_toArray]; omega)) ⟨e,?_⟩
 refine ⟨y,_,I.lset (its':=its.dropLast) hH e ?_ r.dropLast ?_,ru,q⟩
 ·show its.toArray.eraseIdxIfInBounds (its.toArray.size - 1) = its.dropLast.toArray
  rw [List.size_toArray,List.eraseIdxIfInBounds_toArray,erase_last]
 ·rw [List.length_dropLast]
  omega
def rCat:R2:=fun x y H Q => ∃ l b xs zs,x = .ref l∧y = .ref b∧H l = some (.lst xs)∧H b = some (.lst zs)∧xs.length + zs.length≤sizeLine∧∀ p,H p = none→Q (.ref p) (upd H p (.lst (xs++zs)))
theorem op_cat:OpR X (binaryOp .Add) rCat:=by
 intro pins s σ H x y v u Q I rx ry h
 (refine Classical.byContradiction fun k_ => ?_; obtain ⟨l,b,xs,zs,rfl,rfl,hH,hB,hz,q⟩:=h; refine k_ ?_; clear k_)
 cases rx
 cases ry
 (refine Classical.byContradiction fun k_ => ?_; obtain ⟨z,its,n,r,hl,e⟩:=I.lstM hH; refine k_ ?_; clear k_)
 (refine Classical.byContradiction fun k_ => ?_; obtain ⟨z2,its2,n2,r2,hl2,e2⟩:=I.lstM hB; refine k_ ?_; clear k_)
 refine PySem.P.add_list e e2 ?_ (by rw [List.size_toArray,List.size_toArray]; omega)
 have ea:its.toArray++its2.toArray = (its++its2).toArray:=by simp
 rw [ea]
 exact ⟨.ref _,_,I.lnew (t':=s.toks) (r.append r2) (by rw [List.length_append]; omega),rfl,q _ I.fresh⟩
end
section
variable {prog:Program} {w:World} {A:Around} {E:Value→Shared→Prop} {s:Shared}
end
section
variable {X:Cx}
end
end L2
namespace Att
open PySem PySem.W PySem.Calls PyProof.Rows
theorem ints_of_wellAll {P:Params} {h:Heap}:∀ (ns:List Int) (vs:List Value),WellAll P h vs (ns.map WData.int)→IntsAre vs ns:=by
 intro ns
 induction ns with
 | nil =>
  intro vs w
  rw [List.map_nil] at w
  cases w
  exact .nil
 | cons n ns ih =>
  intro vs w
  rw [List.map_cons] at w
  cases w with
  | cons a b =>
   cases a
   exact .cons _ _ (ih _ b)
theorem script_of {l:OpenLaw} {n:Nat} (hn:l.most = some n) {P:Params} {h:Heap} {args:List WData} {vals:List Value}
  (hpre:l.row.toRowW.claim.pre args = true) (hwl:WellAll P h vals args) :
  ∃ a vs ns,vals = [Value.ref a]∧args = [WData.list (ns.map WData.int)]∧h.get? a = some { cls:=.type "list",data:=.seq vs.toArray }∧IntsAre vs ns∧ns.length≤n:=by
 have hsh:WShape.hasAll [] args [.list .int] = true:=(pre_splitW hpre).1
 have hc:l.pre.holds [] { args:=args } = true:=(pre_splitW hpre).2
 (refine Classical.byContradiction fun k_ => ?_; obtain ⟨d,r,rfl,h1,h2⟩:=hasAllW_cons hsh; refine k_ ?_; clear k_)
 obtain rfl:=hasAllW_nil h2
 (refine Classical.byContradiction fun k_ => ?_; obtain ⟨xs,rfl,h3⟩:=hasW_list h1; refine k_ ?_; clear k_)
 obtain ⟨ns,rfl⟩:=items_int h3
 have hlen:ns.length≤n:=by
  unfold OpenLaw.pre at hc
  have h4:(WTm.not (.lt (.lit (.int (n:Int))) (.len (.arg 0)))).holds [] { args:=[.list (ns.map .int)] } = true:=by
   have h4:=(holds_andW hc).1
   rw [hn] at h4
   exact h4
  have h5:=condW_of h4 (w_not (w_lt w_lit (w_len_list (w_arg rfl))))
  rw [List.length_map] at h5
  refine Nat.le_of_not_lt fun q => ?_
  have q':(n:Int) < ((ns.length:Nat):Int):=by omega
  first
   | (rw [decide_eq_true q'] at h5; exact absurd h5 (by decide))
   | (simp at h5; omega)
 cases hwl with
 | cons w1 w2 =>
  cases w2
  cases w1 with
  | list ho hall => exact ⟨_,_,ns,rfl,rfl,ho,ints_of_wellAll ns _ hall,hlen⟩
theorem post_true (l:OpenLaw) (args:List WData):l.row.toRowW.claim.post args (.bool true) args = true :=
 postW_of (r:=l.row.toRowW) (X:=(true == true))
  (show WShape.has [] (.bool true) .bool = true by first | rfl | decide | simp [WShape.has,WShape.arms,WShape.armsAll])
  (show (WTm.eq .res (.lit (.bool true))).value [] { args:=args,res:=some (.bool true),after:=args } = some (.bool (true == true)) from w_eq_bool (w_res rfl) w_lit) rfl
theorem attach_call {l:OpenLaw} {n:Nat} {q:Program} {loose:List Str} {XP:(Str→Option Value)→Heap→Prop} {YP:World→Heap→Prop} {d:DefRec}
  (hn:l.most = some n) (hdf:d.params.defaults = [])
  (call:∀ (w:World) (s₀ s₁:Shared) (mg mb:Str→Option Value) (fa:Addr) (o:Obj) (pm cd doc:Value) (a:Addr) (vs:List Value) (ns:List Int),
   Ground q loose [] XP w s₀ mg mb s₁.heap→YP w s₁.heap →
   s₁.heap.get? fa = some o→o.data = .func (docDef d.name d.params d.body d.scope pm cd doc)→s₁.heap.CodeRec cd d.name→mg d.name = some (.ref fa) →
   s₁.heap.get? a = some { cls:=.type "list",data:=.seq vs.toArray }→IntsAre vs ns→ns.length≤n→s₁.gens = #[] →
   codeAny (model l.prog w) callerA (.call (.ref fa) ⟨[.ref a],[]⟩) (fun r s' => r = .ok (.ret (.bool true))∧OldK s₁.heap s'.heap∧s'.os = s₁.os∧AllBare s'.gens) s₁) :
  WalkO q loose XP YP l.row.toRowW d [] (fun f vs => PySem.call f vs):=by
 intro w s₀ s₁ mg mb G Y fa o pm cd doc dV kV ho hd hcd hD hmg hg args vals as hpre hlay hrd hwl hlo
 obtain rfl:dV = .none:=Dflts.none hD hdf
 obtain rfl:kV = .none:=Dflts.noKw hD
 (refine Classical.byContradiction fun k_ => ?_; obtain ⟨a,vs,ns,rfl,rfl,hobj,hints,hlen⟩:=script_of hn hpre hwl; refine k_ ?_; clear k_)
 refine enter_call (codeAny_mono (call w s₀ s₁ mg mb fa o pm cd doc a vs ns G Y ho (fd_plain hd) hcd hmg hobj hints hlen hg) fun r s' hq => ?_)
 (refine Classical.byContradiction fun k_ => ?_; obtain ⟨rfl,h2,h3,h4⟩:=hq; refine k_ ?_; clear k_)
 exact ⟨.inl ⟨.bool true,.bool true,[],rfl,fun _ => rfl,.bool true,post_true l _,fun _ => ⟨List.Pairwise.nil,fun _ hm => (nomatch hm)⟩⟩,h2,h3,h4⟩
section
variable {prog:Program} {w:World} {A:Around} {E:Value→Shared→Prop} {s:Shared} {K:Frag}
def ledger (h:Heap) (L d:Addr):List (Addr×Obj):=(List.range h.objs.size).filterMap fun a => if a = L∨a = d then none else (h.get? a).map fun o => (a,o)
end
end Att
namespace L2
open PySem PySem.Spec PyProof.Rows
theorem vals_ints:∀ {vs:List Value} {ns:List Int},IntsAre vs ns→Vals (ns.map V.int) vs
 | _,_,.nil => .nil
 | _,_,.cons n t h => .cons ⟨t,rfl⟩ (vals_ints h)
end L2
namespace L2
open PySem PySem.Spec PyProof.Rows
end L2
namespace L2
open PySem PySem.Spec PyProof.Rows
def defArgs (s:Stmt):Arguments:=match s with
 | .FunctionDef _ a _ _ _ _ _ _ _ _ => a
 | _ => { posonlyargs:=[],args:=[],vararg:=none,kwonlyargs:=[],kw_defaults:=[],kwarg:=none,defaults:=[] }
def defBody (s:Stmt):List Stmt:=match s with
 | .FunctionDef _ _ b _ _ _ _ _ _ _ => b
 | _ => []
def defScope (s:Stmt):Scope:=match s with
 | .FunctionDef _ _ _ _ _ _ sc _ _ _ => sc
 | _ => { kind:=.function,names:=[],isGenerator:=false,isCoroutine:=false }
abbrev CX0:CXT:=fun _ _ _ _ _ _ => False
abbrev E0:XK:=fun _ _ _ => False
theorem pass0 {X:Cx}:Passes CX0 X E0:=fun _ _ _ _ _ _ _ h => h.elim
structure Fun (K:PySem.W.Frag) (x qual:Str) (st:Stmt) (f:Addr) (fd:FuncData):Prop where
 ex:∃ (oc:Value) (od:Option Addr) (kV doc pm:Value) (an:Option Addr) (cdv ct:Value) (osl:Array (Option Value)),
  fd = PySem.W.fnOf x qual (defArgs st) (defBody st) (defScope st) .none kV doc pm an cdv ct∧K.lookup f = some ⟨oc,od,.func fd,osl⟩∧PySem.W.codeIn K cdv qual = true
 kp:PySem.W.keepIn K (.ref f) = true
section
variable {P:Program} {w:World} {K:PySem.W.Frag} {mg:Str→Option Value} {base:Heap}
theorem Fun.ok {x qual:Str} {st:Stmt} {f:Addr} {fd:FuncData} {N ps:List Str} {k:Nat} {sp:Sp} (F:Fun K x qual st f fd) (S:FnScope N ps (defScope st)) (len:∀ vs H Q E,sp vs H Q E→vs.length = ps.length)
  (hbody:∀ (cdv:Value) (A:Around) (outer:List Env) (s:Shared) (H:Hp) (vs:List V) (Q:VK) (E:XK),Room k (A.deeper (envOfC qual (defScope st) s.heap.objs.size f cdv))→sp vs H Q E →
   ∃ t,PSs (cxOf CX0 P w K mg base N qual (defScope st) f cdv A outer s H E).nox (defBody st) t∧t { nx:=fun _ H' => Q .non H',rt:=Q } (start N vs) H):FnOk P w K mg base CX0 (k + 1) f fd ps sp:=by
 (refine Classical.byContradiction fun k_ => ?_; obtain ⟨oc,od,kV,doc,pm,an,cdv,ct,osl,rfl,lk,hcd⟩:=F.ex; refine k_ ?_; clear k_)
 refine fn_of lk hcd S len fun A outer s H vs Q E hr hsp => ?_
 (refine Classical.byContradiction fun k_ => ?_; obtain ⟨t,h,q⟩:=hbody cdv A outer s H vs Q E hr hsp; refine k_ ?_; clear k_)
 exact ⟨t,h.nox,q⟩
theorem Fun.binds {x qual:Str} {st:Stmt} {f:Addr} {fd:FuncData} {ps:List Str} (F:Fun K x qual st f fd)
  (h:∀ (kV doc pm:Value) (an:Option Addr) (cdv ct:Value) (us:List Value),us.length = ps.length→bindArgs (PySem.W.fnOf x qual (defArgs st) (defBody st) (defScope st) .none kV doc pm an cdv ct) ⟨us,[]⟩ = pure (ps.zip us)):Binds K fd ps []:=by
 (refine Classical.byContradiction fun k_ => ?_; obtain ⟨oc,od,kV,doc,pm,an,cdv,ct,osl,rfl,lk,hcd⟩:=F.ex; refine k_ ?_; clear k_)
 exact .all (h kV doc pm an cdv ct)
theorem fun_mk {x qual:Str} {st:Stmt} {f:Addr} {oc:Value} {od an:Option Addr} {osl:Array (Option Value)} {kV doc pm cdv ct:Value} (l:K.lookup f = some ⟨oc,od,.func (PySem.W.fnOf x qual (defArgs st) (defBody st) (defScope st) .none kV doc pm an cdv ct),osl⟩)
  (c:PySem.W.codeIn K cdv qual = true) (k:PySem.W.keepIn K (.ref f) = true):Fun K x qual st f (PySem.W.fnOf x qual (defArgs st) (defBody st) (defScope st) .none kV doc pm an cdv ct):=⟨⟨oc,od,kV,doc,pm,an,cdv,ct,osl,rfl,l,c⟩,k⟩
end
theorem small1000 {n:Nat} (h:n≤1000):n < sizeLine:=Nat.lt_of_le_of_lt h (by decide)
section
variable {X:Cx}
theorem pv (i:Nat) {x:Str} {pos:Pos} (hN:X.N[i]? = some x:=by rfl) (hv:Vis X.env.scope x:=by first | exact Or.inl rfl | exact Or.inr (Or.inl rfl) | exact Or.inr (Or.inr rfl)) (hd:(x == ("__debug__" : Str)) = false:=by decide)
  (hcd:(x == ("__classdict__" : Str)) = false:=by decide):PE X (.Name x pos) (tVar i):=pe_var hN hv hd hcd
end
end L2
namespace L2
open PySem PySem.Spec PyProof.Rows
section
variable {κ:Type} [DecidableEq κ]
def valV (kvs:List (κ×V)) (k:κ):Option V:=(kvs.find? fun kv => decide (kv.1 = k)).map (·.2)
def putK (kvs:List (κ×V)) (k:κ) (v:V):List (κ×V) :=
 if (kvs.any fun kv => decide (kv.1 = k)) = true then kvs.map (fun kv => if kv.1 = k then (kv.1,v) else kv) else kvs++[(k,v)]
theorem valV_pos {p:κ×V} {r:List (κ×V)} {k:κ} (e:p.1 = k):valV (p::r) k = some p.2:=by simp [valV,List.find?_cons,e]
theorem valV_neg {p:κ×V} {r:List (κ×V)} {k:κ} (e:¬ p.1 = k):valV (p::r) k = valV r k:=by simp [valV,List.find?_cons,e]
theorem valV_any (k:κ):∀ kvs:List (κ×V),(kvs.any fun kv => decide (kv.1 = k)) = (valV kvs k).isSome
 | [] => rfl
 | p::r => by
  rw [List.any_cons]
  by_cases e:p.1 = k
  ·simp only [valV_pos e,decide_eq_true e,Bool.true_or,Option.isSome_some]
  ·rw [valV_neg e,decide_eq_false e,Bool.false_or]; exact valV_any k r
theorem length_putK (kvs:List (κ×V)) (k:κ) (v:V):(putK kvs k v).length≤kvs.length + 1:=by
 unfold putK
 split
 ·rw [List.length_map]; omega
 ·rw [List.length_append,List.length_cons,List.length_nil]; omega
theorem RelO.isSome_eq {o:Option V} {u:Option Value} (r:RelO o u):o.isSome = u.isSome:=by
 cases o with
 | none => cases u with
  | none => rfl
  | some _ => exact (show False from r).elim
 | some _ => cases u with
  | none => exact (show False from r).elim
  | some _ => rfl
theorem KV.val {kvs:List (κ×V)} {vs:List (κ×Value)} (r:KV kvs vs) (k:κ):RelO (valV kvs k) (valueAt vs k):=by
 unfold KV at r
 induction r with
 | nil => exact True.intro
 | @cons p q ps qs h t ih =>
  obtain ⟨h1,h2⟩:=h
  by_cases e:p.1 = k
  ·have e':q.1 = k:=h1.symm.trans e
   have b:valueAt (q::qs) k = some q.2:=by simp [valueAt,List.find?_cons,e']
   rw [valV_pos e,b]; exact h2
  ·have e':¬ q.1 = k:=fun z => e (h1.trans z)
   have b:valueAt (q::qs) k = valueAt qs k:=by simp [valueAt,List.find?_cons,e']
   rw [valV_neg e,b]; exact ih
theorem KV.any {kvs:List (κ×V)} {vs:List (κ×Value)} (r:KV kvs vs) (k:κ):(kvs.any fun kv => decide (kv.1 = k)) = vs.any fun kv => decide (kv.1 = k):=by
 unfold KV at r
 induction r with
 | nil => rfl
 | cons h t ih => rw [List.any_cons,List.any_cons,ih,h.1]
theorem KV.repl {kvs:List (κ×V)} {vs:List (κ×Value)} (r:KV kvs vs) (k:κ) {y:V} {u:Value} (ry:RelV y u) :
  KV (kvs.map fun kv => if kv.1 = k then (kv.1,y) else kv) (vs.map fun kv => if kv.1 = k then (kv.1,u) else kv):=by
 unfold KV at r ⊢
 induction r with
 | nil => exact .nil
 | @cons p q ps qs h t ih =>
  rw [List.map_cons,List.map_cons]
  refine .cons ?_ ih
  obtain ⟨h1,h2⟩:=h
  by_cases e:p.1 = k
  ·rw [if_pos e,if_pos (h1.symm.trans e)]; exact ⟨h1,ry⟩
  ·rw [if_neg e,if_neg (fun z => e (h1.trans z))]; exact ⟨h1,h2⟩
theorem KV.put {kvs:List (κ×V)} {vs:List (κ×Value)} (r:KV kvs vs) (k:κ) {y:V} {u:Value} (ry:RelV y u):KV (putK kvs k y) (stored vs k u):=by
 unfold putK stored
 rw [r.any k]
 by_cases e:(vs.any fun kv => decide (kv.1 = k)) = true
 ·rw [if_pos e,if_pos e]; exact r.repl k ry
 ·rw [if_neg e,if_neg e]; exact Paired.snoc r ⟨rfl,ry⟩
theorem KV.length {kvs:List (κ×V)} {vs:List (κ×Value)} (r:KV kvs vs):kvs.length = vs.length:=Paired.length r
end
theorem kV_is {P:Program} {w:World} {k:Key} {u:Value} (r:RelV (kV k) u):(mixKind P w).is k u = true:=by
 cases k with
 | inl i => obtain ⟨t,e⟩:=(show ∃ t,u = Value.int i t from r); subst e; exact mixKind_int P w i t
 | inr x => obtain ⟨t,e⟩:=(show ∃ t,u = Value.str x t from r); subst e; exact mixKind_str P w x t
theorem items_are {P:Program} {w:World}:∀ {ks:List Key} {us:List Value},Vals (ks.map kV) us→ItemsAre (mixKind P w) ks us
 | [],_,r => by rw [List.map_nil] at r; cases r; exact .nil
 | k::ks,_,r => by
  rw [List.map_cons] at r
  cases r with
  | cons h t => exact .cons (kV_is h) (items_are t)
abbrev KT (H:Hp):List (List Key×V)→List (List Key×Addr×Value)→Prop:=Paired fun p q => p.1 = q.1∧H q.2.1 = some (.tup (p.1.map kV))∧RelV p.2 q.2.2
theorem KT.val {H:Hp} {kvs:List (List Key×V)} {xs:List (List Key×Addr×Value)} (r:KT H kvs xs) (k:List Key):RelO (valV kvs k) ((atKey xs k).map (·.2)):=by
 induction r with
 | nil => exact True.intro
 | @cons p q ps qs h t ih =>
  (refine Classical.byContradiction fun k_ => ?_; obtain ⟨h1,_,h2⟩:=h; refine k_ ?_; clear k_)
  by_cases e:p.1 = k
  ·have e':q.1 = k:=h1.symm.trans e
   have b:atKey (q::qs) k = some q.2:=by simp [atKey,List.find?_cons,e']
   rw [valV_pos e,b]; exact h2
  ·have e':¬ q.1 = k:=fun z => e (h1.trans z)
   have b:atKey (q::qs) k = atKey qs k:=by simp [atKey,List.find?_cons,e']
   rw [valV_neg e,b]; exact ih
theorem KT.repl {H:Hp} {kvs:List (List Key×V)} {xs:List (List Key×Addr×Value)} (r:KT H kvs xs) (k:List Key) {y:V} {u:Value} (ry:RelV y u) :
  KT H (kvs.map fun kv => if kv.1 = k then (kv.1,y) else kv) (xs.map (putAt k u)):=by
 induction r with
 | nil => exact .nil
 | @cons p q ps qs h t ih =>
  rw [List.map_cons,List.map_cons]
  refine .cons ?_ ih
  (refine Classical.byContradiction fun k_ => ?_; obtain ⟨h1,h2,h3⟩:=h; refine k_ ?_; clear k_)
  unfold putAt
  by_cases e:p.1 = k
  ·rw [if_pos e,if_pos (h1.symm.trans e)]; exact ⟨h1,h2,ry⟩
  ·rw [if_neg e,if_neg (fun z => e (h1.trans z))]; exact ⟨h1,h2,h3⟩
theorem KT.put {H:Hp} {kvs:List (List Key×V)} {xs:List (List Key×Addr×Value)} (r:KT H kvs xs) (k:List Key) {b:Addr} {y:V} {u:Value} (hb:H b = some (.tup (k.map kV))) (ry:RelV y u) :
  KT H (putK kvs k y) (storedH xs k b u):=by
 have e:(kvs.any fun kv => decide (kv.1 = k)) = (atKey xs k).isSome:=by
  rw [valV_any,(r.val k).isSome_eq,Option.isSome_map]
 unfold putK storedH
 rw [e]
 by_cases q:(atKey xs k).isSome = true
 ·rw [if_pos q,if_pos q]; exact r.repl k ry
 ·rw [if_neg q,if_neg q]; exact Paired.snoc r ⟨rfl,hb,ry⟩
theorem KT.keeps {H H':Hp} {kvs:List (List Key×V)} {xs:List (List Key×Addr×Value)} (r:KT H kvs xs) (ht:∀ b ys,H b = some (.tup ys)→H' b = some (.tup ys)):KT H' kvs xs :=
 Paired.mapP r fun _ _ z => ⟨z.1,ht _ _ z.2.1,z.2.2⟩
section
variable {P:Program} {w:World} {H:Hp} {h:Heap} {a:Addr}
theorem rd_of {u:HO} (ok:HOk P w H h) (e:Rd H a u):ObjOk P w H h a u:=e.ok ok
theorem dk_rd {kvs:List (Key×V)} (ok:HOk P w H h) (e:Rd H a (.dK kvs)):kvs.length≤sizeLine∧(a == sysModules) = false∧∃ vs,KV kvs vs∧h.DictOf (mixKind P w) a vs :=
 show ObjOk P w H h a (.dK kvs) from rd_of ok e
theorem dk_of {kvs:List (Key×V)} (ok:HOk P w H h) (e:H a = some (.dK kvs)):kvs.length≤sizeLine∧(a == sysModules) = false∧∃ vs,KV kvs vs∧h.DictOf (mixKind P w) a vs:=dk_rd ok (.inl e)
theorem key_of {ks:List Key} (ok:HOk P w H h) (e:H a = some (.tup (ks.map kV))):(tupleKind (mixKind P w)).is h ks a:=by
 (refine Classical.byContradiction fun k_ => ?_; obtain ⟨_,its,r,o,h1,h2,n,h3⟩:=(show ObjOk P w H h a (.tup (ks.map kV)) from ok a _ e); refine k_ ?_; clear k_)
 exact ⟨o,its.toArray,n,h1,h2,h3,by simpa using items_are r⟩
theorem dt_rd {kvs:List (List Key×V)} (ok:HOk P w H h) (e:Rd H a (.dT kvs)):kvs.length≤sizeLine∧(a == sysModules) = false ∧
  ∃ xs,KT H kvs xs∧h.DictOfH (tupleKind (mixKind P w)) a xs:=by
 (refine Classical.byContradiction fun k_ => ?_; obtain ⟨z,y,xs,r,o,es,ep,h1,h2,h3,h4,h5⟩:=(show ObjOk P w H h a (.dT kvs) from rd_of ok e); refine k_ ?_; clear k_)
 refine ⟨z,y,xs,r,o,es,ep,h1,h2,h3,h4,fun x hx => ?_,h5⟩
 have all:∀ {l:List (List Key×V)} {m:List (List Key×Addr×Value)},KT H l m→∀ x∈m,(tupleKind (mixKind P w)).is h x.1 x.2.1:=by
  intro l m q
  induction q with
  | nil => intro x hx; exact nomatch hx
  | @cons p q ps qs hq t ih =>
   intro x hx
   rcases List.mem_cons.mp hx with e | hx
   ·subst e
    exact key_of ok (by rw [← hq.1]; exact hq.2.1)
   ·exact ih x hx
 exact all r x hx
theorem dt_of {kvs:List (List Key×V)} (ok:HOk P w H h) (e:H a = some (.dT kvs)):kvs.length≤sizeLine∧(a == sysModules) = false ∧
  ∃ xs,KT H kvs xs∧h.DictOfH (tupleKind (mixKind P w)) a xs:=dt_rd ok (.inl e)
end
def DGet (H:Hp) (a:Addr) (y:V) (r:Option V):Prop :=
 (∃ kvs k,Rd H a (.dK kvs)∧y = kV k∧r = valV kvs k)∨∃ kvs k b,Rd H a (.dT kvs)∧y = .ref b∧H b = some (.tup (k.map kV))∧r = valV kvs k
def DPut (H:Hp) (a:Addr) (y v:V) (H':Hp):Prop :=
 (∃ kvs k,H a = some (.dK kvs)∧y = kV k∧kvs.length < sizeLine∧H' = upd H a (.dK (putK kvs k v))) ∨
 ∃ kvs k b,H a = some (.dT kvs)∧y = .ref b∧H b = some (.tup (k.map kV))∧kvs.length < sizeLine∧H' = upd H a (.dT (putK kvs k v))
theorem DGet.k {H:Hp} {a:Addr} {kvs:List (Key×V)} {k:Key} (e:H a = some (.dK kvs)):DGet H a (kV k) (valV kvs k):=.inl ⟨kvs,k,.inl e,rfl,rfl⟩
theorem DGet.t {H:Hp} {a b:Addr} {kvs:List (List Key×V)} {k:List Key} (e:H a = some (.dT kvs)) (eb:H b = some (.tup (k.map kV))):DGet H a (.ref b) (valV kvs k):=.inr ⟨kvs,k,b,.inl e,rfl,eb,rfl⟩
theorem DPut.t {H:Hp} {a b:Addr} {kvs:List (List Key×V)} {k:List Key} {v:V} (e:H a = some (.dT kvs)) (eb:H b = some (.tup (k.map kV))) (hl:kvs.length < sizeLine) :
  DPut H a (.ref b) v (upd H a (.dT (putK kvs k v))):=.inr ⟨kvs,k,b,e,rfl,eb,hl,rfl⟩
section
variable {X:Cx} {pins:List (Addr×Obj)} {σ:St} {H:Hp} {s:Shared} {a:Addr} {y v:V} {u r:Value} {o:Option V} {A:Around} {E:Value→Shared→Prop}
theorem Inv.big (I:Inv X pins σ H s):sysModules < s.heap.objs.size:=by
 have h:mainGlobals < s.heap.objs.size:=(I.mod.glob.keeps I.bk).lt
 exact Nat.lt_trans (by decide) h
theorem d_getItem {Q:Value→Shared→Prop} (hu:A.units + 1 < cLine) (I:Inv X pins σ H s) (g:DGet H a y (some v)) (ry:RelV y u) (h:∀ w' s',Inv X pins σ H s'→RelV v w'→Q w' s') :
  wpAny (model X.prog X.w) A (getItem (.ref a) u) Q E s:=by
 rcases g with ⟨kvs,k,e,ey,l⟩ | ⟨kvs,k,b,e,ey,eb,l⟩
 ·subst ey
  (refine Classical.byContradiction fun k_ => ?_; obtain ⟨z,hd,vs,rel,dd⟩:=dk_rd I.hok e; refine k_ ?_; clear k_)
  (refine Classical.byContradiction fun k_ => ?_; obtain ⟨w',hw,rw'⟩:=RelO.some_of (v:=v) (o:=valueAt vs k) (by rw [l]; exact rel.val k); refine k_ ?_; clear k_)
  exact wpAny_getItem_of (kV_is ry) dd.mapOf hw (h w' _ (I.tok _) rw')
 ·subst ey
  cases (show u = Value.ref b from ry)
  (refine Classical.byContradiction fun k_ => ?_; obtain ⟨z,hd,xs,rel,dd⟩:=dt_rd I.hok e; refine k_ ?_; clear k_)
  (refine Classical.byContradiction fun k_ => ?_; obtain ⟨w',hw,rw'⟩:=RelO.some_of (v:=v) (o:=(atKey xs k).map (·.2)) (by rw [l]; exact rel.val k); refine k_ ?_; clear k_)
  (refine Classical.byContradiction fun k_ => ?_; obtain ⟨p,hp,hp2⟩:=Option.map_eq_some_iff.mp hw; refine k_ ?_; clear k_)
  refine wpAny_getItem_heap (tupleKind_room_in1 hu) (key_of I.hok eb) dd hp ?_
  rw [hp2]
  exact h w' _ (I.tok _) rw'
theorem d_in {Q:Value→Shared→Prop} (hu:A.units + 1 < cLine) (I:Inv X pins σ H s) (g:DGet H a y o) (ry:RelV y u) (h:∀ s',Inv X pins σ H s'→Q (.bool o.isSome) s') :
  wpAny (model X.prog X.w) A (compareOp .In u (.ref a)) Q E s:=by
 rcases g with ⟨kvs,k,e,ey,l⟩ | ⟨kvs,k,b,e,ey,eb,l⟩
 ·subst ey
  (refine Classical.byContradiction fun k_ => ?_; obtain ⟨z,hd,vs,rel,dd⟩:=dk_rd I.hok e; refine k_ ?_; clear k_)
  refine wpAny_in_of (kV_is ry) hd dd.mapOf ?_
  rw [← (rel.val k).isSome_eq,← l]
  exact h _ (I.tok _)
 ·subst ey
  cases (show u = Value.ref b from ry)
  (refine Classical.byContradiction fun k_ => ?_; obtain ⟨z,hd,xs,rel,dd⟩:=dt_rd I.hok e; refine k_ ?_; clear k_)
  refine wpAny_in_heap (tupleKind_room_in1 hu) (key_of I.hok eb) hd dd ?_
  have q:=(rel.val k).isSome_eq
  rw [Option.isSome_map] at q
  rw [← q,← l]
  exact h _ (I.tok _)
theorem d_notIn {Q:Value→Shared→Prop} (hu:A.units + 1 < cLine) (I:Inv X pins σ H s) (g:DGet H a y o) (ry:RelV y u) (h:∀ s',Inv X pins σ H s'→Q (.bool (!o.isSome)) s') :
  wpAny (model X.prog X.w) A (compareOp .NotIn u (.ref a)) Q E s:=by
 rcases g with ⟨kvs,k,e,ey,l⟩ | ⟨kvs,k,b,e,ey,eb,l⟩
 ·subst ey
  (refine Classical.byContradiction fun k_ => ?_; obtain ⟨z,hd,vs,rel,dd⟩:=dk_rd I.hok e; refine k_ ?_; clear k_)
  refine wpAny_notIn_of (kV_is ry) hd dd.mapOf ?_
  rw [← (rel.val k).isSome_eq,← l]
  exact h _ (I.tok _)
 ·subst ey
  cases (show u = Value.ref b from ry)
  (refine Classical.byContradiction fun k_ => ?_; obtain ⟨z,hd,xs,rel,dd⟩:=dt_rd I.hok e; refine k_ ?_; clear k_)
  refine wpAny_notIn_heap (tupleKind_room_in1 hu) (key_of I.hok eb) hd dd ?_
  have q:=(rel.val k).isSome_eq
  rw [Option.isSome_map] at q
  rw [← q,← l]
  exact h _ (I.tok _)
theorem d_write {h':Heap} {t':Nat} {ob:HO} (I:Inv X pins σ H s) (mu:Mut (H a)) (hs:Heap.SameBut a s.heap h') (he:∃ q,h'.get? a = some q) (new:ObjOk X.prog X.w (upd H a ob) h' a ob) :
  Inv X pins σ (upd H a ob) { s with heap:=h',toks:=t' } :=
 I.write (x:=a) (e:=a) mu (.inl rfl) (fun b q hb z => (hs.2 b hb).trans z) he new
theorem dk_new {P:Program} {w:World} {H':Hp} {h':Heap} {kvs:List (Key×V)} {vs:List (Key×Value)} (z:kvs.length≤sizeLine) (hd:(a == sysModules) = false) (rel:KV kvs vs) (dd:h'.DictOf (mixKind P w) a vs) :
  ObjOk P w H' h' a (.dK kvs):=⟨z,hd,vs,rel,dd⟩
theorem d_setItem {H':Hp} {Q:Unit→Shared→Prop} (hu:A.units + 1 < cLine) (I:Inv X pins σ H s) (g:DPut H a y v H') (ry:RelV y u) (rv:RelV v r) (h:∀ s',Inv X pins σ H' s'→Q () s') :
  wpAny (model X.prog X.w) A (setItem (.ref a) u r) Q E s:=by
 rcases g with ⟨kvs,k,e,ey,l,eH⟩ | ⟨kvs,k,b,e,ey,eb,l,eH⟩
 ·subst ey eH
  (refine Classical.byContradiction fun k_ => ?_; obtain ⟨z,hd,vs,rel,dd⟩:=dk_of I.hok e; refine k_ ?_; clear k_)
  have hz:vs.length≤sizeLine:=by rw [← rel.length]; exact z
  have hl:(putK kvs k v).length≤sizeLine:=by have:=length_putK kvs k v; omega
  refine wpAny_setItem_pairs (hsz:=hz) (kV_is ry) dd fun h' dd' hs => h _ ?_
  have he:∃ q,h'.get? a = some q:=let ⟨q,_,_,hq,_⟩:=dd'; ⟨q,hq⟩
  exact d_write I (by rw [e]; exact True.intro) hs he (dk_new hl hd (rel.put k rv) dd')
 ·subst ey eH
  cases (show u = Value.ref b from ry)
  (refine Classical.byContradiction fun k_ => ?_; obtain ⟨z,hd,xs,rel,dd⟩:=dt_of I.hok e; refine k_ ?_; clear k_)
  have hz:xs.length≤sizeLine:=by rw [← Paired.length rel]; exact z
  have hl:(putK kvs k v).length≤sizeLine:=by have:=length_putK kvs k v; omega
  refine wpAny_setItem_heap (hsz:=hz) (tupleKind_room_in1 hu) (key_of I.hok eb) dd fun h' dd' hs => h _ ?_
  (refine Classical.byContradiction fun k_ => ?_; obtain ⟨q,es,ep,hq,h2,h3,h4,_,h5⟩:=dd'; refine k_ ?_; clear k_)
  refine d_write I (by rw [e]; exact True.intro) hs ⟨q,hq⟩ ⟨hl,hd,_,(rel.put k eb rv).keeps fun c ys ec => ?_,q,es,ep,hq,h2,h3,h4,h5⟩
  rw [upd_ne (ne_of ec e (fun z => nomatch z))]
  exact ec
end
section
variable {X:Cx} {pins:List (Addr×Obj)} {σ:St} {H:Hp} {s:Shared} {a:Addr} {kvs:List (Key×V)} {k:Key} {u:Value} {A:Around} {E:Value→Shared→Prop}
end
def NoSl (i:Expr):Prop:=∀ ov iv,subscripted i false ov iv = operate [ov,iv] (getItem ov iv)
theorem subD_of {prog:Program} {w:World} {A:Around} {E:Value→Shared→Prop} {s:Shared} {env:Env} {value slice:Expr} {pos:Pos} {T id:String} {Q:Value→Shared→Prop}
  (hl:typeLookup (.type T) "__getitem__" = pure (some (.builtin id))) (hs:NoSl slice)
  (h:wpAny (model prog w) A (eval value env) (fun o s₁ => wpAny (model prog w) A (eval slice env) (fun i s₂ => s₂.TypeIs o T∧wpAny (model prog w) A (getItem o i) Q E s₂) E s₁) E s) :
  wpAny (model prog w) A (eval (.Subscript value slice pos) env) Q E s:=by
 refine Subscript_ (wpAny_mono h (fun o s₁ h₁ => wpAny_mono h₁ (fun i s₂ h₂ => ?_) fun _ _ x => x) fun _ _ x => x)
 obtain ⟨hT,h₂⟩:=h₂
 unfold subscriptTail
 refine wpAny_bind ?_
 rw [getitemInPython_of_ne hT.not_modules]
 refine wpAny_bind (wpAny_specialOf hT hl ?_)
 have fin:wpAny (model prog w) A (subscripted slice false o i) (fun r s₃ => wpAny (model prog w) A (letTemporaryGo value o r >>= fun _ => pure r) Q E s₃) E s₂:=by
  rw [hs o i]
  exact wpAny_operating (wpAny_mono h₂ (fun r s₃ h₃ => wpAny_bind (wpAny_letTemporaryGo (wpAny_pure h₃))) fun _ _ x => x)
 first
  | exact wpAny_pure (wpAny_bind fin)
  | exact wpAny_bind (wpAny_pure (wpAny_bind fin))
  | exact wpAny_bind fin
theorem dict_typeIs {X:Cx} {pins:List (Addr×Obj)} {σ:St} {H:Hp} {s:Shared} {a:Addr} {y:V} {o:Option V} (I:Inv X pins σ H s) (g:DGet H a y o):s.TypeIs (.ref a) "dict":=by
 rcases g with ⟨kvs,k,e,_,_⟩ | ⟨kvs,k,b,e,_,_,_⟩
 ·(refine Classical.byContradiction fun k_ => ?_; obtain ⟨_,_,vs,_,dd⟩:=dk_rd I.hok e; refine k_ ?_; clear k_)
  exact dd.typeIs
 ·(refine Classical.byContradiction fun k_ => ?_; obtain ⟨_,_,xs,_,dd⟩:=dt_rd I.hok e; refine k_ ?_; clear k_)
  exact dd.typeIs
def tDGet (td ty:TE):TE:=fun σ H Q => td σ H fun x H1 => ty σ H1 fun y H2 => ∃ a v,x = .ref a∧DGet H2 a y (some v)∧Q v H2
def sDPut (td ty tv:TE):TS:=fun D σ H => tv σ H fun v H1 => td σ H1 fun x H2 => ty σ H2 fun y H3 => ∃ a H4,x = .ref a∧DPut H3 a y v H4∧D.nx σ H4
section
variable {X:Cx} {o i e value:Expr} {pos pos' tpos:Pos} {td ty tv:TE}
theorem pe_dget (hu:X.A.units + 1 < cLine) (ho:PE X o td) (hi:PE X i ty) (hs:NoSl i):PE X (.Subscript o i pos) (tDGet td ty):=by
 intro pins s σ H Q I h
 refine subD_of PySem.F.slot_dict_getitem.lookup hs (thn (ho pins s σ H _ I h) fun u s1 ⟨x,H1,I1,rx,q1⟩ => thn (hi pins s1 σ H1 _ I1 q1) fun iv s2 zz => ?_)
 (refine Classical.byContradiction fun k_ => ?_; obtain ⟨y,H2,I2,ry,a,v,ex,g,q2⟩:=zz; refine k_ ?_; clear k_)
 subst ex
 obtain rfl:u = Value.ref a:=rx
 exact ⟨dict_typeIs I2 g,d_getItem hu I2 g ry fun w' s3 I3 rw' => ⟨v,H2,I3,rw',q2⟩⟩
theorem ps_dput (hu:X.A.units + 1 < cLine) (ho:PE X o td) (hi:PE X i ty) (hv:PE X value tv) (hs:swapsWith value (some (.Subscript o i pos')) pos.line X.env = pure false) :
  PS X (.Assign [.Subscript o i pos'] value pos) (sDPut td ty tv):=by
 intro pins s σ H D I h
 refine wpAny_Assign_Subscript (thn (hv pins s σ H _ I h) fun r s1 ⟨v,H1,I1,rv,q1⟩ => thn (ho pins s1 σ H1 _ I1 q1) fun u s2 ⟨x,H2,I2,rx,q2⟩ => thn (hi pins s2 σ H2 _ I2 q2) fun iv s3 zz => ?_) hs
 (refine Classical.byContradiction fun k_ => ?_; obtain ⟨y,H3,I3,ry,a,H4,ex,g,q3⟩:=zz; refine k_ ?_; clear k_)
 subst ex
 obtain rfl:u = Value.ref a:=rx
 exact d_setItem hu I3 g ry rv fun s4 I4 => ⟨σ,H4,I4,q3⟩
end
theorem dk_empty {P:Program} {w:World} {H:Hp} (h:Heap) (hb:sysModules < h.objs.size):ObjOk P w H (h.push { cls:=.type "dict",data:=.dict #[] }) h.objs.size (.dK []) :=
 ⟨Nat.zero_le _,beq_eq_false_iff_ne.mpr (Ne.symm (Nat.ne_of_lt hb)),[],.nil,Heap.DictOf.new h⟩
theorem dt_empty {P:Program} {w:World} {H:Hp} (h:Heap) (hb:sysModules < h.objs.size):ObjOk P w H (h.push { cls:=.type "dict",data:=.dict #[] }) h.objs.size (.dT []) :=
 ⟨Nat.zero_le _,beq_eq_false_iff_ne.mpr (Ne.symm (Nat.ne_of_lt hb)),[],.nil,_,#[],0,Heap.get?_push_size _ rfl,⟨rfl,rfl,rfl⟩,rfl,rfl,List.nodup_nil⟩
def tDNewK:TE:=fun _ H Q => ∀ p,H p = none→Q (.ref p) (upd H p (.dK []))
def tDNewT:TE:=fun _ H Q => ∀ p,H p = none→Q (.ref p) (upd H p (.dT []))
section
variable {X:Cx} {pos:Pos}
theorem pe_dnewK:PE X (.Dict [] [] pos) tDNewK:=fun pins s σ H Q I h =>
 wpAny_Dict_empty ⟨.ref s.heap.objs.size,_,I.laid (a:=s.heap.objs.size) (o:=.dK []) (t':=s.toks) (fun _ _ q => Heap.get?_push_of_some _ q) (Nat.le_refl _) (dk_empty s.heap I.big),rfl,h _ (I.hok.fresh (Nat.le_refl _))⟩
theorem pe_dnewT:PE X (.Dict [] [] pos) tDNewT:=fun pins s σ H Q I h =>
 wpAny_Dict_empty ⟨.ref s.heap.objs.size,_,I.laid (a:=s.heap.objs.size) (o:=.dT []) (t':=s.toks) (fun _ _ q => Heap.get?_push_of_some _ q) (Nat.le_refl _) (dt_empty s.heap I.big),rfl,h _ (I.hok.fresh (Nat.le_refl _))⟩
end
def tPairs:List (TE×TE)→St→Hp→(List (V×V)→Hp→Prop)→Prop
 | [],_,H,Q => Q [] H
 | (tk,tv)::r,σ,H,Q => tk σ H fun x H1 => tv σ H1 fun y H2 => tPairs r σ H2 fun ps H3 => Q ((x,y)::ps) H3
abbrev VV:List (V×V)→List (Value×Value)→Prop:=Paired fun p q => RelV p.1 q.1∧RelV p.2 q.2
def PPs (X:Cx) (pos:Pos) (keys:List (Option Expr)) (values:List Expr) (trs:List (TE×TE)):Prop :=
 ∀ (pins:List (Addr×Obj)) (s:Shared) (σ:St) (H:Hp) (Q:List (V×V)→Hp→Prop),Inv X pins σ H s→tPairs trs σ H Q →
  wpAny (model X.prog X.w) X.A (evalPairs (pairTrees keys values X.env pos)) (fun vs s' => ∃ ps H',Inv X pins σ H' s'∧VV ps vs∧Q ps H') X.xe s
theorem pps_nil {X:Cx} {pos:Pos}:PPs X pos [] [] []:=fun pins s σ H Q I h => pairTrees_nil_walk ⟨[],H,I,.nil,h⟩
theorem pps_cons {X:Cx} {pos:Pos} {k v:Expr} {ks:List (Option Expr)} {vs:List Expr} {tk tv:TE} {trs:List (TE×TE)} (hk:PE X k tk) (hv:PE X v tv) (hr:PPs X pos ks vs trs) :
  PPs X pos (some k::ks) (v::vs) ((tk,tv)::trs):=fun pins s σ H Q I h =>
 pairTrees_cons_walk (thn (hk pins s σ H _ I h) fun u s1 ⟨x,H1,I1,rx,q1⟩ => thn (hv pins s1 σ H1 _ I1 q1) fun w2 s2 ⟨y,H2,I2,ry,q2⟩ =>
  thn (hr pins s2 σ H2 _ I2 q2) fun ws s3 ⟨ps,H3,I3,rel,q3⟩ => ⟨(x,y)::ps,H3,I3,.cons ⟨rx,ry⟩ rel,q3⟩)
structure M1 (X:Cx) (o:Expr) (m:Str) (apos:Pos) (e:Expr) (cpos:Pos):Prop where
 base:attributeBase o m X.env (eval o X.env) = eval o X.env
 few:((backTo cpos (starEach [e] X.env)).all (fun x => !x.1) && (backToKw cpos (keywordEach [] X.env)).all (fun x => x.1.isSome)
  && decide (([e]:List Expr).length + ([]:List Keyword).length + (if ([]:List Keyword).isEmpty then 0 else 1) < 30)) = true
 line:(apos.endLine == cpos.line) = true
 trees:backTo cpos (starEach [e] X.env) = [(false,eval e X.env)]
structure M2 (X:Cx) (o:Expr) (m:Str) (apos:Pos) (e f:Expr) (cpos:Pos):Prop where
 base:attributeBase o m X.env (eval o X.env) = eval o X.env
 few:((backTo cpos (starEach [e,f] X.env)).all (fun x => !x.1) && (backToKw cpos (keywordEach [] X.env)).all (fun x => x.1.isSome)
  && decide (([e,f]:List Expr).length + ([]:List Keyword).length + (if ([]:List Keyword).isEmpty then 0 else 1) < 30)) = true
 line:(apos.endLine == cpos.line) = true
 trees:backTo cpos (starEach [e,f] X.env) = [(false,eval e X.env),(false,eval f X.env)]
def IsD (H:Hp) (a:Addr):Prop:=(∃ kvs,Rd H a (.dK kvs))∨∃ kvs,Rd H a (.dT kvs)
theorem isD_at {X:Cx} {pins:List (Addr×Obj)} {σ:St} {H:Hp} {s:Shared} {a:Addr} (I:Inv X pins σ H s) (d:IsD H a) :
  s.TypeIs (.ref a) "dict"∧(∀ b,Value.ref a = .ref b→∃ ob,s.heap.get? b = some ob∧ob.dict = none)∧(a == sysModules) = false:=by
 rcases d with ⟨kvs,e⟩ | ⟨kvs,e⟩
 ·(refine Classical.byContradiction fun k_ => ?_; obtain ⟨_,hd,vs,_,dd⟩:=dk_rd I.hok e; refine k_ ?_; clear k_)
  refine ⟨dd.typeIs,fun b q => ?_,hd⟩
  cases q
  (refine Classical.byContradiction fun k_ => ?_; obtain ⟨ob,_,_,h1,h2,_⟩:=dd; refine k_ ?_; clear k_)
  exact ⟨ob,h1,h2.2.1⟩
 ·(refine Classical.byContradiction fun k_ => ?_; obtain ⟨_,hd,xs,_,dd⟩:=dt_rd I.hok e; refine k_ ?_; clear k_)
  refine ⟨dd.typeIs,fun b q => ?_,hd⟩
  cases q
  (refine Classical.byContradiction fun k_ => ?_; obtain ⟨ob,_,_,h1,h2,_⟩:=dd; refine k_ ?_; clear k_)
  exact ⟨ob,h1,h2.2.1⟩
section
variable {X:Cx} {pins:List (Addr×Obj)} {σ:St} {H:Hp} {s:Shared} {a:Addr} {y d:V} {u r:Value} {o:Option V} {A:Around} {E:Value→Shared→Prop}
end
section
variable {X:Cx} {o e f:Expr} {apos cpos:Pos} {td ty tx:TE}
end
section
variable {X:Cx} {pins:List (Addr×Obj)} {σ:St} {H:Hp} {s:Shared} {a:Addr} {kvs:List (Key×V)} {A:Around} {E:Value→Shared→Prop}
end
section
variable {X:Cx} {pins:List (Addr×Obj)} {σ:St} {H:Hp} {s:Shared} {a:Addr} {y:V} {u:Value} {A:Around} {E:Value→Shared→Prop}
end
end L2
namespace L3
open PySem PySem.Spec PyProof.Rows L2
theorem ex3 {α β γ:Type} {p q r s:α→β→γ→Prop} {G:Prop} (h:∃ a b c,p a b c∧q a b c∧r a b c∧s a b c) (k:∀ a b c,p a b c→q a b c→r a b c→s a b c→G):G:=by
 (refine Classical.byContradiction fun k_ => ?_; obtain ⟨a,b,c,h1,h2,h3,h4⟩:=h; refine k_ ?_; clear k_)
 exact k a b c h1 h2 h3 h4
abbrev St:=L2.St
inductive D where
 | non | bl (b:Bool) | int (i:Int) | str (x:Str) | tup (ds:List D) | fl (ds:List D) | ref (a:Addr) | ty (n:String) | ktup (ds:List D)
def FzL (K:PySem.W.Frag) (H:Hp) (a:Addr) (xs:List V):Prop :=
 (∃ o,H a = some (.frz o (.lst xs))) ∨
  ∃ (o:Obj) (its:Array Value) (n:Nat),K.lookup a = some o∧o.cls = .type "list"∧o.dict = none∧o.data = .seq its n∧its.size≤sizeLine∧Vals xs its.toList
theorem FzL.sq {K:PySem.W.Frag} {H:Hp} {a:Addr} {xs:List V} (h:FzL K H a xs):SqL K H a xs:=by
 rcases h with ⟨o,h⟩ | h
 ·exact .inl (.inr ⟨o,h⟩)
 ·exact .inr h
def KTp (K:PySem.W.Frag) (a:Addr) (xs:List V):Prop:=∃ (o:Obj) (its:Array Value) (n:Nat),K.lookup a = some o∧o.cls = .type "tuple"∧o.data = .seq its n∧its.size≤sizeLine∧Vals xs its.toList
theorem KTp.sq {K:PySem.W.Frag} {H:Hp} {a:Addr} {xs:List V} (h:KTp K a xs):SqT K H a xs:=.inr h
mutual
inductive Rep (K:PySem.W.Frag) (H:Hp):D→V→Prop
 | non:Rep K H .non .non
 | bl (b:Bool):Rep K H (.bl b) (.bl b)
 | int (i:Int):Rep K H (.int i) (.int i)
 | str (x:Str):Rep K H (.str x) (.str x)
 | ty (n:String):Rep K H (.ty n) (.ty n)
 | ref (a:Addr):Rep K H (.ref a) (.ref a)
 | tup {a:Addr} {xs:List V} {ds:List D}:H a = some (.tup xs)→RepL K H ds xs→Rep K H (.tup ds) (.ref a)
 | fl {a:Addr} {xs:List V} {ds:List D}:FzL K H a xs→RepL K H ds xs→Rep K H (.fl ds) (.ref a)
 | ktup {a:Addr} {xs:List V} {ds:List D}:KTp K a xs→RepL K H ds xs→Rep K H (.ktup ds) (.ref a)
inductive RepL (K:PySem.W.Frag) (H:Hp):List D→List V→Prop
 | nil:RepL K H [] []
 | cons {d:D} {v:V} {ds:List D} {vs:List V}:Rep K H d v→RepL K H ds vs→RepL K H (d::ds) (v::vs)
end
structure TK (H H':Hp):Prop where
 tup:∀ a xs,H a = some (.tup xs)→H' a = some (.tup xs)
 frz:∀ a o u,H a = some (.frz o u)→H' a = some (.frz o u)
theorem TK.refl {H:Hp}:TK H H:=⟨fun _ _ h => h,fun _ _ _ h => h⟩
theorem TK.trans {H H1 H2:Hp} (a:TK H H1) (b:TK H1 H2):TK H H2:=⟨fun c xs h => b.tup c xs (a.tup c xs h),fun c o u h => b.frz c o u (a.frz c o u h)⟩
theorem TK.fresh {H:Hp} {p:Addr} {o:HO} (n:H p = none):TK H (upd H p o) :=
 ⟨fun a xs h => by rw [upd_ne (ne_of_none h n)]; exact h,fun a o' u h => by rw [upd_ne (ne_of_none h n)]; exact h⟩
theorem TK.lst {H:Hp} {p:Addr} {o:HO} {xs:List V} (n:H p = some (.lst xs)):TK H (upd H p o) :=
 ⟨fun a ys h => by rw [upd_ne (ne_of h n (by intro z; cases z))]; exact h,fun a o' u h => by rw [upd_ne (ne_of h n (by intro z; cases z))]; exact h⟩
theorem TK.dT {H:Hp} {p:Addr} {o:HO} {xs:List (List Key×V)} (n:H p = some (.dT xs)):TK H (upd H p o) :=
 ⟨fun a ys h => by rw [upd_ne (ne_of h n (by intro z; cases z))]; exact h,fun a o' u h => by rw [upd_ne (ne_of h n (by intro z; cases z))]; exact h⟩
theorem TK.sqT {K:PySem.W.Frag} {H H':Hp} (t:TK H H') {a:Addr} {xs:List V} (h:SqT K H a xs):SqT K H' a xs:=by
 rcases h with (h | ⟨o,h⟩) | h
 ·exact .inl (.inl (t.tup _ _ h))
 ·exact .inl (.inr ⟨o,t.frz _ _ _ h⟩)
 ·exact .inr h
theorem TK.fzL {K:PySem.W.Frag} {H H':Hp} (t:TK H H') {a:Addr} {xs:List V} (h:FzL K H a xs):FzL K H' a xs:=by
 rcases h with ⟨o,h⟩ | h
 ·exact .inl ⟨o,t.frz _ _ _ h⟩
 ·exact .inr h
theorem Rep.mono {K:PySem.W.Frag} {H H':Hp} (t:TK H H') {d:D} {v:V} (h:Rep K H d v):Rep K H' d v :=
 Rep.rec (motive_1:=fun d v _ => Rep K H' d v) (motive_2:=fun ds vs _ => RepL K H' ds vs) .non .bl .int .str .ty .ref (fun h _ r => .tup (t.tup _ _ h) r) (fun h _ r => .fl (t.fzL h) r) (fun h _ r => .ktup h r) .nil (fun _ _ r s => .cons r s) h
theorem RepL.mono {K:PySem.W.Frag} {H H':Hp} (t:TK H H') {ds:List D} {vs:List V} (h:RepL K H ds vs):RepL K H' ds vs :=
 RepL.rec (motive_1:=fun d v _ => Rep K H' d v) (motive_2:=fun ds vs _ => RepL K H' ds vs) .non .bl .int .str .ty .ref (fun h _ r => .tup (t.tup _ _ h) r) (fun h _ r => .fl (t.fzL h) r) (fun h _ r => .ktup h r) .nil (fun _ _ r s => .cons r s) h
section
variable {K:PySem.W.Frag} {H:Hp}
theorem RepL.length {ds:List D} {vs:List V} (h:RepL K H ds vs):ds.length = vs.length :=
 RepL.rec (motive_1:=fun _ _ _ => True) (motive_2:=fun ds vs _ => ds.length = vs.length) trivial (fun _ => trivial) (fun _ => trivial) (fun _ => trivial) (fun _ => trivial) (fun _ => trivial) (fun _ _ _ => trivial) (fun _ _ _ => trivial) (fun _ _ _ => trivial) rfl (fun _ _ _ i => congrArg (· + 1) i) h
theorem RepL.get:∀ {ds:List D} {vs:List V} {i:Nat} {d:D},RepL K H ds vs→ds[i]? = some d→∃ v,vs[i]? = some v∧Rep K H d v
 | _,_,_,_,.nil,e => by simp at e
 | _,_,0,_,.cons r _,e => by simp at e; subst e; exact ⟨_,rfl,r⟩
 | _,_,i + 1,d,.cons _ t,e => by
  (refine Classical.byContradiction fun k_ => ?_; obtain ⟨u,h1,h2⟩:=RepL.get (i:=i) (d:=d) t (by simpa using e); refine k_ ?_; clear k_)
  exact ⟨u,by simpa using h1,h2⟩
theorem RepL.getV:∀ {ds:List D} {vs:List V} {i:Nat} {v:V},RepL K H ds vs→vs[i]? = some v→∃ d,ds[i]? = some d∧Rep K H d v
 | _,_,_,_,.nil,e => by simp at e
 | _,_,0,_,.cons r _,e => by simp at e; subst e; exact ⟨_,rfl,r⟩
 | _,_,i + 1,v,.cons _ t,e => by
  (refine Classical.byContradiction fun k_ => ?_; obtain ⟨u,h1,h2⟩:=RepL.getV (i:=i) (v:=v) t (by simpa using e); refine k_ ?_; clear k_)
  exact ⟨u,by simpa using h1,h2⟩
theorem RepL.append {ds es:List D} {vs us:List V} (h:RepL K H ds vs) (s:RepL K H es us):RepL K H (ds++es) (vs++us) :=
 RepL.rec (motive_1:=fun _ _ _ => True) (motive_2:=fun ds vs _ => RepL K H (ds++es) (vs++us)) trivial (fun _ => trivial) (fun _ => trivial) (fun _ => trivial) (fun _ => trivial) (fun _ => trivial) (fun _ _ _ => trivial) (fun _ _ _ => trivial) (fun _ _ _ => trivial) s (fun r _ _ i => .cons r i) h
theorem RepL.take:∀ {ds:List D} {vs:List V} (n:Nat),RepL K H ds vs→RepL K H (ds.take n) (vs.take n)
 | _,_,0,_ => .nil
 | _,_,_ + 1,.nil => .nil
 | _,_,n + 1,.cons r t => .cons r (RepL.take n t)
theorem RepL.snoc {ds:List D} {vs:List V} {d:D} {v:V} (r:RepL K H ds vs) (s:Rep K H d v):RepL K H (ds++[d]) (vs++[v]):=r.append (.cons s .nil)
theorem RepL.dropLast {ds:List D} {vs:List V} (r:RepL K H ds vs):RepL K H ds.dropLast vs.dropLast:=by
 rw [List.dropLast_eq_take,List.dropLast_eq_take,← r.length]; exact r.take _
theorem RepL.ints:∀ (ns:List Int),RepL K H (ns.map D.int) (ns.map V.int)
 | [] => .nil
 | n::ns => .cons (.int n) (RepL.ints ns)
theorem RepL.ints_inv {ns:List Int}:∀ {vs:List V},RepL K H (ns.map D.int) vs→vs = ns.map V.int:=by
 induction ns with
 | nil => intro vs h; cases h; rfl
 | cons n ns ih =>
  intro vs h
  cases h with
  | cons r t => cases r; rw [List.map_cons,ih t]
end
inductive O3 where
 | lst (ds:List D)
 | dic (kvs:List (List Key×D))
 | dik (kvs:List (Key×D))
 | ins (c:Str) (fs:List (Str×D))
 | exc (c:Str)
 | tab (x:Str)
 | tabd (x:Str) (l k:Nat)
abbrev Hp3:=Addr→Option O3
def upd3 (H:Hp3) (a:Addr) (o:O3):Hp3:=fun b => if b = a then some o else H b
theorem upd3_same {H:Hp3} {a:Addr} {o:O3}:upd3 H a o a = some o:=by unfold upd3; rw [if_pos rfl]
theorem upd3_ne {H:Hp3} {a b:Addr} {o:O3} (h:b≠a):upd3 H a o b = H b:=by unfold upd3; rw [if_neg h]
theorem upd3_upd3 {H:Hp3} {a:Addr} {o u:O3}:upd3 (upd3 H a o) a u = upd3 H a u:=by
 funext b; unfold upd3; split <;> rfl
theorem ne3 {H:Hp3} {a b:Addr} {o:O3} (h:H a = some o) (h':H b = none):a≠b:=by
 intro e; subst e; rw [h] at h'; cases h'
def excO (a C:Addr):HO:=.ext fun h => ∃ o vs,h.get? a = some o∧o.cls = .ref C∧o.data = .fields vs
structure TabK (K:PySem.W.Frag) (H:Hp) (x:Str) (c a:Addr):Prop where
 tab:PySem.W.tabIn K x = some (c,a)
 hd:∀ h:Heap,K.In h→PySem.W.CodeHd h c a
 bm:∃ bm ob,PySem.W.nsIn K mainGlobals "__builtins__" = some (some (.ref bm))∧bm≠builtinsNs∧H bm = some (.frz ob (.own bm))∧ob.cls = .type "module"∧ob.dict = some builtinsNs∧ob.data = .plain
theorem TabK.mono {K:PySem.W.Frag} {H H':Hp} {x:Str} {c a:Addr} (h:TabK K H x c a) (t:TK H H'):TabK K H' x c a :=
 ⟨h.tab,h.hd,let ⟨bm,ob,h1,h2,h3,h4⟩:=h.bm; ⟨bm,ob,h1,h2,t.frz _ _ _ h3,h4⟩⟩
def lamQ (x:Str):Str:=x ++ ".<locals>." ++ "<lambda>"
def OR (K:PySem.W.Frag) (H:Hp) (a:Addr):O3→Prop
 | .lst ds => ∃ xs,H a = some (.lst xs)∧RepL K H ds xs
 | .dic kvs => ∃ ks,H a = some (.dT ks)∧Paired (fun (p:List Key×D) (q:List Key×V) => p.1 = q.1∧Rep K H p.2 q.2) kvs ks
 | .dik kvs => ∃ ks,H a = some (.dK ks)∧Paired (fun (p:Key×D) (q:Key×V) => p.1 = q.1∧Rep K H p.2 q.2) kvs ks
 | .ins c fs => ∃ C dx xs,PySem.W.nsIn K mainGlobals c = some (some (.ref C))∧H a = some (.ins C dx xs)∧Paired (fun (p:Str×D) (q:Str×V) => p.1 = q.1∧Rep K H p.2 q.2) fs xs
 | .exc c => ∃ C,PySem.W.nsIn K mainGlobals c = some (some (.ref C))∧H a = some (excO a C)
 | .tab x => H a = some (.tbl #[])∧∃ c,TabK K H x c a
 | .tabd x l k => ∃ c' oc vs t,H a = some (.tbl #[rawInt l,rawInt k,.ref c'])∧H c' = some (.frz oc (.own c'))∧oc.data = .fields vs∧vs[1]? = some (.str (lamQ x) t)∧∃ c,TabK K H x c a
def HR (K:PySem.W.Frag) (H3:Hp3) (H:Hp):Prop:=∀ a o,H3 a = some o→OR K H a o
def Sub3 (H H':Hp3):Prop:=∀ a o,H a = some o→H' a = some o
theorem Sub3.refl {H:Hp3}:Sub3 H H:=fun _ _ h => h
theorem Sub3.trans {H H1 H2:Hp3} (a:Sub3 H H1) (b:Sub3 H1 H2):Sub3 H H2:=fun c o h => b c o (a c o h)
theorem Sub3.fresh {H:Hp3} {p:Addr} {o:O3} (n:H p = none):Sub3 H (upd3 H p o):=fun a u h => by rw [upd3_ne (ne3 h n)]; exact h
section
variable {K:PySem.W.Frag} {H H':Hp} {H3 H3':Hp3}
theorem HR.sub (h:HR K H3' H) (s:Sub3 H3 H3'):HR K H3 H:=fun a o e => h a o (s a o e)
theorem HR.fresh (h:HR K H3 H) {p:Addr} (n:H p = none):H3 p = none:=by
 cases e:H3 p with
 | none => rfl
 | some o =>
  cases o with
  | lst ds => obtain ⟨xs,q,_⟩:=h p _ e; rw [n] at q; cases q
  | dic ks => obtain ⟨xs,q,_⟩:=h p _ e; rw [n] at q; cases q
  | dik ks => obtain ⟨xs,q,_⟩:=h p _ e; rw [n] at q; cases q
  | ins c fs => obtain ⟨C,dx,xs,_,q,_⟩:=h p _ e; rw [n] at q; cases q
  | exc c => obtain ⟨C,_,q⟩:=h p _ e; rw [n] at q; cases q
  | tab x => obtain ⟨q,_⟩:=h p _ e; rw [n] at q; cases q
  | tabd x l k => obtain ⟨_,_,_,_,q,_⟩:=h p _ e; rw [n] at q; cases q
theorem OR.keep {a:Addr} {o:O3} (x:OR K H a o) (t:TK H H') (e:H' a = H a):OR K H' a o:=by
 cases o with
 | lst ds => obtain ⟨xs,q,r⟩:=x; exact ⟨xs,e.trans q,r.mono t⟩
 | dic ks => obtain ⟨xs,q,r⟩:=x; exact ⟨xs,e.trans q,Paired.mapP r fun _ _ z => ⟨z.1,z.2.mono t⟩⟩
 | dik ks => obtain ⟨xs,q,r⟩:=x; exact ⟨xs,e.trans q,Paired.mapP r fun _ _ z => ⟨z.1,z.2.mono t⟩⟩
 | ins c fs => obtain ⟨C,dx,xs,g,q,r⟩:=x; exact ⟨C,dx,xs,g,e.trans q,Paired.mapP r fun _ _ z => ⟨z.1,z.2.mono t⟩⟩
 | exc c => obtain ⟨C,g,q⟩:=x; exact ⟨C,g,e.trans q⟩
 | tab x => obtain ⟨q,c,g⟩:=x; exact ⟨e.trans q,c,g.mono t⟩
 | tabd x l k => obtain ⟨c',oc,vs,u,q,q',d,v,c,g⟩:=x; exact ⟨c',oc,vs,u,e.trans q,t.frz _ _ _ q',d,v,c,g.mono t⟩
theorem HR.set (h:HR K H3 H) {p:Addr} {o:HO} {o3:O3} (t:TK H (upd H p o)) (new:OR K (upd H p o) p o3):HR K (upd3 H3 p o3) (upd H p o):=fun b u e => by
 by_cases hb:b = p
 ·subst hb; rw [upd3_same] at e; cases e; exact new
 ·rw [upd3_ne hb] at e; exact (h b u e).keep t (upd_ne hb)
theorem HR.setL (h:HR K H3 H) {p:Addr} {xs:List V} {ds:List D} (t:TK H (upd H p (.lst xs))) (r:RepL K (upd H p (.lst xs)) ds xs):HR K (upd3 H3 p (.lst ds)) (upd H p (.lst xs)):=h.set (o3:=.lst ds) t ⟨xs,upd_same,r⟩
theorem HR.tup (h:HR K H3 H) {p:Addr} {xs:List V} (n:H p = none):HR K H3 (upd H p (.tup xs)):=fun b u e => by
 have hb:b≠p:=ne3 e (h.fresh n)
 exact (h b u e).keep (TK.fresh n) (upd_ne hb)
end
abbrev St3:=List (Option D)
abbrev VK3:=D→Hp3→Prop
abbrev TE3:=St3→Hp3→VK3→Prop
abbrev TT3:=St3→Hp3→(Bool→Hp3→Prop)→Prop
abbrev TA3:=St3→Hp3→(List D→Hp3→Prop)→Prop
structure Ends3 where
 nx:St3→Hp3→Prop
 rt:VK3
 bk:St3→Hp3→Prop:=fun _ _ => False
 ct:St3→Hp3→Prop:=fun _ _ => False
abbrev TS3:=Ends3→St3→Hp3→Prop
structure SR (K:PySem.W.Frag) (H:Hp) (σ3:St3) (σ:St):Prop where
 len:σ3.length = σ.length
 get:∀ (i:Nat) (d:D),σ3[i]? = some (some d)→∃ v,σ[i]? = some (some v)∧Rep K H d v
theorem SR.mono {K:PySem.W.Frag} {H H':Hp} {σ3:St3} {σ:St} (s:SR K H σ3 σ) (t:TK H H'):SR K H' σ3 σ :=
 ⟨s.len,fun i d e => let ⟨v,h1,h2⟩:=s.get i d e; ⟨v,h1,h2.mono t⟩⟩
theorem SR.set {K:PySem.W.Frag} {H:Hp} {σ3:St3} {σ:St} (s:SR K H σ3 σ) (i:Nat) {d:D} {v:V} (r:Rep K H d v):SR K H (σ3.set i (some d)) (σ.set i (some v)):=by
 refine ⟨by simp [s.len],fun j e h => ?_⟩
 by_cases hj:j = i
 ·subst hj
  by_cases hl:j < σ3.length
  ·rw [List.getElem?_set_self hl] at h
   cases h
   exact ⟨v,by rw [List.getElem?_set_self (by rw [← s.len]; exact hl)],r⟩
  ·rw [List.getElem?_eq_none (by simpa using hl)] at h; cases h
 ·rw [List.getElem?_set_ne (Ne.symm hj)] at h
  (refine Classical.byContradiction fun k_ => ?_; obtain ⟨u,h1,h2⟩:=s.get j e h; refine k_ ?_; clear k_)
  exact ⟨u,by rw [List.getElem?_set_ne (Ne.symm hj)]; exact h1,h2⟩
def KE (K:PySem.W.Frag) (H:Hp) (Q3:VK3) (Q:VK):Prop:=∀ d v H3' H',TK H H'→HR K H3' H'→Rep K H' d v→Q3 d H3'→Q v H'
def KT (K:PySem.W.Frag) (H:Hp) (Q3:Bool→Hp3→Prop) (Q:Bool→Hp→Prop):Prop:=∀ b H3' H',TK H H'→HR K H3' H'→Q3 b H3'→Q b H'
def KA (K:PySem.W.Frag) (H:Hp) (Q3:List D→Hp3→Prop) (Q:List V→Hp→Prop):Prop:=∀ ds vs H3' H',TK H H'→HR K H3' H'→RepL K H' ds vs→Q3 ds H3'→Q vs H'
def KN (K:PySem.W.Frag) (H:Hp) (Q3:St3→Hp3→Prop) (Q:St→Hp→Prop):Prop:=∀ σ3 σ H3' H',TK H H'→SR K H' σ3 σ→HR K H3' H'→Q3 σ3 H3'→Q σ H'
structure KS (K:PySem.W.Frag) (H:Hp) (D3:Ends3) (D:Ends):Prop where
 nx:KN K H D3.nx D.nx
 rt:KE K H D3.rt D.rt
 bk:KN K H D3.bk D.bk
 ct:KN K H D3.ct D.ct
theorem KE.mono {K:PySem.W.Frag} {H H1:Hp} {Q3:VK3} {Q:VK} (k:KE K H Q3 Q) (t:TK H H1):KE K H1 Q3 Q:=fun d v H3 H' t' => k d v H3 H' (t.trans t')
theorem KN.mono {K:PySem.W.Frag} {H H1:Hp} {Q3:St3→Hp3→Prop} {Q:St→Hp→Prop} (k:KN K H Q3 Q) (t:TK H H1):KN K H1 Q3 Q:=fun d v H3 H' t' => k d v H3 H' (t.trans t')
theorem KS.mono {K:PySem.W.Frag} {H H1:Hp} {D3:Ends3} {D:Ends} (k:KS K H D3 D) (t:TK H H1):KS K H1 D3 D:=⟨k.nx.mono t,k.rt.mono t,k.bk.mono t,k.ct.mono t⟩
def liftE (K:PySem.W.Frag) (t:TE3):TE:=fun σ H Q => ∃ σ3 H3 Q3,SR K H σ3 σ∧HR K H3 H∧t σ3 H3 Q3∧KE K H Q3 Q
def liftT (K:PySem.W.Frag) (t:TT3):TT:=fun σ H Q => ∃ σ3 H3 Q3,SR K H σ3 σ∧HR K H3 H∧t σ3 H3 Q3∧KT K H Q3 Q
def liftA (K:PySem.W.Frag) (t:TA3):TA:=fun σ H Q => ∃ σ3 H3 Q3,SR K H σ3 σ∧HR K H3 H∧t σ3 H3 Q3∧KA K H Q3 Q
def liftS (K:PySem.W.Frag) (t:TS3):TS:=fun D σ H => ∃ σ3 H3 D3,SR K H σ3 σ∧HR K H3 H∧t D3 σ3 H3∧KS K H D3 D
def PE3 (X:Cx) (e:Expr) (t:TE3):Prop:=PE X e (liftE X.K t)
def PT3 (X:Cx) (e:Expr) (t:TT3):Prop:=PT X e (liftT X.K t)
def PW3 (X:Cx) (e:Expr) (t:TT3):Prop:=PW X e (liftT X.K t)
def PA3 (X:Cx) (es:List Expr) (t:TA3):Prop:=PA X es (liftA X.K t)
def PS3 (X:Cx) (st:Stmt) (t:TS3):Prop:=PS X st (liftS X.K t)
def PSs3 (X:Cx) (st:List Stmt) (t:TS3):Prop:=PSs X st (liftS X.K t)
section
variable {X:Cx} {e:Expr} {es:List Expr} {st:Stmt} {sts:List Stmt}
theorem pe_imp {t t':TE} (h:PE X e t) (i:∀ σ H Q,t' σ H Q→t σ H Q):PE X e t':=fun pins s σ H Q I hw => h pins s σ H Q I (i σ H Q hw)
theorem pt_imp {t t':TT} (h:PT X e t) (i:∀ σ H Q,t' σ H Q→t σ H Q):PT X e t':=fun pins s σ H Q I hw => h pins s σ H Q I (i σ H Q hw)
theorem pw_imp {t t':TT} (h:PW X e t) (i:∀ σ H Q,t' σ H Q→t σ H Q):PW X e t':=fun wh pins s σ H Q I hw => h wh pins s σ H Q I (i σ H Q hw)
theorem pa_imp {t t':TA} (h:PA X es t) (i:∀ σ H Q,t' σ H Q→t σ H Q):PA X es t':=fun pos pins s σ H Q I hw => h pos pins s σ H Q I (i σ H Q hw)
theorem ps_imp {t t':TS} (h:PS X st t) (i:∀ D σ H,t' D σ H→t D σ H):PS X st t':=fun pins s σ H D I hw => h pins s σ H D I (i D σ H hw)
theorem pss_imp {t t':TS} (h:PSs X sts t) (i:∀ D σ H,t' D σ H→t D σ H):PSs X sts t':=fun pins s σ H D I hw => h pins s σ H D I (i D σ H hw)
end
end L3
namespace L3
open PySem PySem.Spec PyProof.Rows L2
abbrev R3:=D→D→Hp3→VK3→Prop
def lift2 (K:PySem.W.Frag) (r:R3):R2:=fun x y H Q => ∃ dx dy H3 Q3,HR K H3 H∧Rep K H dx x∧Rep K H dy y∧r dx dy H3 Q3∧KE K H Q3 Q
def lift1 (K:PySem.W.Frag) (r:D→Hp3→VK3→Prop):V→Hp→VK→Prop:=fun x H Q => ∃ dx H3 Q3,HR K H3 H∧Rep K H dx x∧r dx H3 Q3∧KE K H Q3 Q
def liftC (K:PySem.W.Frag) (r:List D→Hp3→VK3→Prop):List V→Hp→VK→Prop:=fun xs H Q => ∃ ds H3 Q3,HR K H3 H∧RepL K H ds xs∧r ds H3 Q3∧KE K H Q3 Q
def liftM (K:PySem.W.Frag) (r:D→List D→Hp3→VK3→Prop):V→List V→Hp→VK→Prop:=fun x xs H Q => ∃ d ds H3 Q3,HR K H3 H∧Rep K H d x∧RepL K H ds xs∧r d ds H3 Q3∧KE K H Q3 Q
section
variable {X:Cx} {a b c e:Expr} {es:List Expr} {pos:Pos} {ta tb tc te:TE3} {tr:TA3} {tA tB:TT3}
def v3 (i:Nat):TE3:=fun σ H Q => match σ[i]? with
 | some (some d) => Q d H
 | _ => False
def c3 (d:D):TE3:=fun _ H Q => Q d H
theorem p3_var (i:Nat) {x:Str} (hN:X.N[i]? = some x:=by rfl) (hv:Vis X.env.scope x:=by first | exact Or.inl rfl | exact Or.inr (Or.inl rfl) | exact Or.inr (Or.inr rfl)) (hd:(x == ("__debug__" : Str)) = false:=by decide)
  (hcd:(x == ("__classdict__" : Str)) = false:=by decide):PE3 X (.Name x pos) (v3 i) :=
 pe_imp (pv i hN hv hd hcd) fun σ H Q zz => ex3 zz fun σ3 H3 Q3 sr hr t k => by
  unfold v3 at t
  split at t
  ·rename_i d h
   (refine Classical.byContradiction fun k_ => ?_; obtain ⟨v,h1,r⟩:=sr.get i d h; refine k_ ?_; clear k_)
   exact ⟨v,h1,k d v H3 H TK.refl hr r t⟩
  ·exact t.elim
theorem p3_int {i:Int} {j:Nat}:PE3 X (.Constant (.int i) j pos) (c3 (.int i)):=pe_imp pe_int fun _ _ _ ⟨_,_,_,_,hr,t,k⟩ => k _ _ _ _ TK.refl hr (.int i) t
theorem p3_bl {i:Bool} {j:Nat}:PE3 X (.Constant (.bool i) j pos) (c3 (.bl i)):=pe_imp pe_bl fun _ _ _ ⟨_,_,_,_,hr,t,k⟩ => k _ _ _ _ TK.refl hr (.bl i) t
theorem p3_str {i:Str} {j:Nat}:PE3 X (.Constant (.str i) j pos) (c3 (.str i)):=pe_imp pe_str fun _ _ _ ⟨_,_,_,_,hr,t,k⟩ => k _ _ _ _ TK.refl hr (.str i) t
theorem p3_ty {x:Str} {T:String} (hg:Gl X x) (hm:X.mg x = none) (hv:bootBuiltins x = some (.type T)) (hn:x ≠ "__name__":=by decide) (hd:(x == ("__debug__" : Str)) = false:=by decide):PE3 X (.Name x pos) (c3 (.ty T)) :=
 pe_imp (pe_bltn (v:=.ty T) hg hm hv rfl hn hd) fun _ _ _ ⟨_,_,_,_,hr,t,k⟩ => k _ _ _ _ TK.refl hr (.ty T) t
theorem p3_globI {x:Str} {i:Int} {tk:Tok} (hg:Gl X x) (hm:X.mg x = some (.int i tk)) (hd:(x == ("__debug__" : Str)) = false:=by decide):PE3 X (.Name x pos) (c3 (.int i)) :=
 pe_imp (pe_glob (v:=.int i) hg hm ⟨_,rfl⟩ hd) fun _ _ _ ⟨_,_,_,_,hr,t,k⟩ => k _ _ _ _ TK.refl hr (.int i) t
def o3 (r:R3) (ta tb:TE3):TE3:=fun σ H Q => ta σ H fun x H1 => tb σ H1 fun y H2 => r x y H2 Q
theorem lift_bin {K:PySem.W.Frag} {r:R3} {σ:St} {H:Hp} {Q:VK} (h:liftE K (o3 r ta tb) σ H Q):tOp (lift2 K r) (liftE K ta) (liftE K tb) σ H Q:=by
 (refine Classical.byContradiction fun k_ => ?_; obtain ⟨σ3,H3,Q3,sr,hr,t,k⟩:=h; refine k_ ?_; clear k_)
 exact ⟨σ3,H3,_,sr,hr,t,fun x v H3a Ha tka hra rx qa => ⟨σ3,H3a,_,sr.mono tka,hra,qa,fun y u H3b Hb tkb hrb ry qb =>
  ⟨x,y,H3b,Q3,hrb,rx.mono tkb,ry,qb,k.mono (tka.trans tkb)⟩⟩⟩
theorem p3_op {op:Operator} {r:R3} (ho:OpR X (binaryOp op) (lift2 X.K r)) (ha:PE3 X a ta) (hb:PE3 X b tb):PE3 X (.BinOp a op b pos) (o3 r ta tb) :=
 pe_imp (pe_op ho ha hb) fun _ _ _ h => lift_bin h
theorem p3_cmp {op:CmpOp} {r:R3} (ho:OpR X (compareOp op) (lift2 X.K r)) (ha:PE3 X a ta) (hb:PE3 X b tb) (hm:behindInMarks op b = false:=by first | exact nomark _ | with_unfolding_all rfl):PE3 X (.Compare a [op] [b] pos) (o3 r ta tb) :=
 pe_imp (pe_cmpR ho ha hb hm) fun _ _ _ h => lift_bin h
theorem p3_ix {r:R3} (hr:IxR X (lift2 X.K r)) (ha:PE3 X a ta) (hb:PE3 X b tb) (hs:PlainIx b:=by exact fun _ _ => rfl):PE3 X (.Subscript a b pos) (o3 r ta tb) :=
 pe_imp (pe_ix hr ha hb hs) fun _ _ _ h => lift_bin h
def u3 (r:D→Hp3→VK3→Prop) (ta:TE3):TE3:=fun σ H Q => ta σ H fun x H1 => r x H1 Q
theorem p3_un {op:UnaryOp} {r:D→Hp3→VK3→Prop} (ho:UnR X (unaryOp op) (lift1 X.K r)) (ha:PE3 X a ta):PE3 X (.UnaryOp op a pos) (u3 r ta) :=
 pe_imp (pe_un ho ha) fun _ _ _ zz => ex3 zz fun σ3 H3 Q3 sr hr t k => ⟨σ3,H3,_,sr,hr,t,fun x v H3a Ha tka hra rx qa => ⟨x,H3a,Q3,hra,rx,qa,k.mono tka⟩⟩
def bt (d:D) (H:Hp3) (Q:Bool→Hp3→Prop):Prop:=match d with
 | .bl k => Q k H
 | _ => False
theorem ke_test {K:PySem.W.Frag} {H:Hp} {Q3:Bool→Hp3→Prop} {Q:Bool→Hp→Prop} (k:KT K H Q3 Q):KE K H (fun d H1 => bt d H1 Q3) (fun x H' => ∃ c,x = .bl c∧Q c H'):=fun d v H3' H' tk hr rep q => by
 cases rep with
 | bl b => exact ⟨b,rfl,k _ _ _ tk hr q⟩
 | _ => exact q.elim
def ts3 (t:TE3):TT3:=fun σ H Q => t σ H fun d H1 => bt d H1 Q
theorem p3_tcmp {op:CmpOp} {r:R3} (ho:OpR X (compareOp op) (lift2 X.K r)) (ha:PE3 X a ta) (hb:PE3 X b tb) (hm:behindInMarks op b = false:=by first | exact nomark _ | with_unfolding_all rfl):PT3 X (.Compare a [op] [b] pos) (ts3 (o3 r ta tb)) :=
 pt_imp (pt_cmpR ho ha hb hm) fun _ _ _ zz => ex3 zz fun σ3 H3 Q3 sr hr t k => lift_bin ⟨σ3,H3,_,sr,hr,t,ke_test k⟩
theorem p3_tval (h:PE3 X e te) (he:∀ whole,isTrue e X.env whole = (do let v ← whole; standAt e.pos; holding [v] (truthy v)):=by intro _; rfl):PT3 X e (ts3 te) :=
 pt_imp (pt_val h he) fun _ _ _ zz => ex3 zz fun σ3 H3 Q3 sr hr t k => ⟨σ3,H3,_,sr,hr,t,ke_test k⟩
def an3 (t u:TT3):TT3:=fun σ H Q => t σ H fun c H1 => if c = true then u σ H1 Q else Q false H1
def or3 (t u:TT3):TT3:=fun σ H Q => t σ H fun c H1 => if c = true then Q true H1 else u σ H1 Q
def no3 (t:TT3):TT3:=fun σ H Q => t σ H fun c H1 => Q (!c) H1
variable {rest:List Expr}
theorem KT.mono {K:PySem.W.Frag} {H H1:Hp} {Q3:Bool→Hp3→Prop} {Q:Bool→Hp→Prop} (k:KT K H Q3 Q) (t:TK H H1):KT K H1 Q3 Q:=fun d H3 H' t' => k d H3 H' (t.trans t')
theorem p3_wand1 (ha:PT3 X a tA):PW3 X (.BoolOp .And [a] pos) tA:=pw_and1 ha
theorem p3_wor1 (ha:PT3 X a tA):PW3 X (.BoolOp .Or [a] pos) tA:=pw_or1 ha
theorem p3_wand (ha:PT3 X a tA) (hb:PW3 X (.BoolOp .And (b::rest) pos) tB):PW3 X (.BoolOp .And (a::b::rest) pos) (an3 tA tB) :=
 pw_imp (pw_and ha hb) fun _ _ _ zz => ex3 zz fun σ3 H3 Q3 sr hr t k => ⟨σ3,H3,_,sr,hr,t,fun c H3a Ha tka hra qa => by
  cases c with
  | true => exact ⟨σ3,H3a,Q3,sr.mono tka,hra,qa,k.mono tka⟩
  | false => exact k _ _ _ tka hra qa⟩
theorem p3_wor (ha:PT3 X a tA) (hb:PW3 X (.BoolOp .Or (b::rest) pos) tB):PW3 X (.BoolOp .Or (a::b::rest) pos) (or3 tA tB) :=
 pw_imp (pw_or ha hb) fun _ _ _ zz => ex3 zz fun σ3 H3 Q3 sr hr t k => ⟨σ3,H3,_,sr,hr,t,fun c H3a Ha tka hra qa => by
  cases c with
  | false => exact ⟨σ3,H3a,Q3,sr.mono tka,hra,qa,k.mono tka⟩
  | true => exact k _ _ _ tka hra qa⟩
theorem p3_tw (h:PW3 X e tA):PT3 X e tA:=h.pt
theorem p3_tnot (ha:PT3 X a tA):PT3 X (.UnaryOp .Not a pos) (no3 tA) :=
 pt_imp (pt_not ha) fun _ _ _ zz => ex3 zz fun σ3 H3 Q3 sr hr t k => ⟨σ3,H3,_,sr,hr,t,fun c H3a Ha tka hra qa => k _ _ _ tka hra qa⟩
def av3 (ta tb:TE3):TE3:=fun σ H Q => ta σ H fun x H1 => match x with
 | .bl c => if c = true then tb σ H1 Q else Q (.bl false) H1
 | _ => False
def ov3 (ta tb:TE3):TE3:=fun σ H Q => ta σ H fun x H1 => match x with
 | .bl c => if c = true then Q (.bl true) H1 else tb σ H1 Q
 | _ => False
def nv3 (ta:TE3):TE3:=fun σ H Q => ta σ H fun x H1 => match x with
 | .bl c => Q (.bl (!c)) H1
 | _ => False
theorem p3_one {op:BoolOp} (h:PE3 X a ta):PE3 X (.BoolOp op [a] pos) ta:=pe_one h
theorem p3_and (ha:PE3 X a ta) (hb:PE3 X (.BoolOp .And (b::rest) pos) tb):PE3 X (.BoolOp .And (a::b::rest) pos) (av3 ta tb) :=
 pe_imp (pe_and ha hb) fun _ _ _ zz => ex3 zz fun σ3 H3 Q3 sr hr t k => ⟨σ3,H3,_,sr,hr,t,fun x v H3a Ha tka hra rx qa => by
  cases rx with
  | bl c =>
   refine ⟨c,rfl,?_⟩
   cases c with
   | true => exact ⟨σ3,H3a,Q3,sr.mono tka,hra,qa,k.mono tka⟩
   | false => exact k _ _ _ _ tka hra (.bl false) qa
  | _ => exact qa.elim⟩
theorem p3_not (ha:PE3 X a ta):PE3 X (.UnaryOp .Not a pos) (nv3 ta) :=
 pe_imp (pe_not ha) fun _ _ _ zz => ex3 zz fun σ3 H3 Q3 sr hr t k => ⟨σ3,H3,_,sr,hr,t,fun x v H3a Ha tka hra rx qa => by
  cases rx with
  | bl c => exact ⟨c,rfl,k _ _ _ _ tka hra (.bl _) qa⟩
  | _ => exact qa.elim⟩
def if3 (t:TT3) (ta tb:TE3):TE3:=fun σ H Q => t σ H fun c H1 => if c = true then ta σ H1 Q else tb σ H1 Q
def nil3:TA3:=fun _ H Q => Q [] H
def cons3 (ta:TE3) (tr:TA3):TA3:=fun σ H Q => ta σ H fun x H1 => tr σ H1 fun xs H2 => Q (x::xs) H2
theorem a3_nil:PA3 X [] nil3:=pa_imp pa_nil fun _ _ _ ⟨_,_,_,_,hr,t,k⟩ => k _ _ _ _ TK.refl hr .nil t
theorem a3_cons (ha:PE3 X e te) (hr:PA3 X es tr) (hs:starEach (e::es) X.env = (false,eval e X.env)::starEach es X.env:=by rfl):PA3 X (e::es) (cons3 te tr) :=
 pa_imp (pa_cons ha hr hs) fun _ _ _ zz => ex3 zz fun σ3 H3 Q3 sr hr t k => ⟨σ3,H3,_,sr,hr,t,fun x v H3a Ha tka hra rx qa => ⟨σ3,H3a,_,sr.mono tka,hra,qa,fun ds vs H3b Hb tkb hrb rs qb =>
  k _ _ _ _ (tka.trans tkb) hrb (.cons (rx.mono tkb) rs) qb⟩⟩
def tp3 (t:TA3):TE3:=fun σ H Q => t σ H fun ds H1 => ds.length≤1000∧Q (.tup ds) H1
def ls3 (t:TA3):TE3:=fun σ H Q => t σ H fun ds H1 => ds.length≤1000∧∀ p,H1 p = none→Q (.ref p) (upd3 H1 p (.lst ds))
theorem le_line {n:Nat} (h:n≤1000):n≤sizeLine:=Nat.le_of_lt (small1000 h)
theorem p3_tup {x1:Nat} (h:PA3 X es tr):PE3 X (.Tuple es x1 pos) (tp3 tr) :=
 pe_imp (pe_tup h) fun _ _ _ zz => ex3 zz fun σ3 H3 Q3 sr hr t k => ⟨σ3,H3,_,sr,hr,t,fun ds vs H3a Ha tka hra rs qa =>
  ⟨by rw [← rs.length]; exact le_line qa.1,fun p n => k _ _ _ _ (tka.trans (TK.fresh n)) (hra.tup n) (.tup upd_same (rs.mono (TK.fresh n))) qa.2⟩⟩
theorem p3_lst (h:PA3 X es tr):PE3 X (.List es pos) (ls3 tr) :=
 pe_imp (pe_lst h) fun _ _ _ zz => ex3 zz fun σ3 H3 Q3 sr hr t k => ⟨σ3,H3,_,sr,hr,t,fun ds vs H3a Ha tka hra rs qa =>
  ⟨by rw [← rs.length]; exact le_line qa.1,fun p n => k _ _ _ _ (tka.trans (TK.fresh n)) (hra.setL (TK.fresh n) (rs.mono (TK.fresh n))) (.ref p) (qa.2 p (hra.fresh n))⟩⟩
end
section
variable {X:Cx}
def r3add:R3:=fun x y H Q => match x,y with
 | .int i,.int j => Q (.int (i + j)) H
 | .str i,.str j => i.length + j.length≤sizeLine∧Q (.str (i++j)) H
 | .ref a,.ref b => (match H a,H b with
  | some (.lst xs),some (.lst ys) => xs.length + ys.length≤sizeLine∧∀ p,H p = none→Q (.ref p) (upd3 H p (.lst (xs++ys)))
  | _,_ => False)
 | _,_ => False
theorem op3_add:OpR X (binaryOp .Add) (lift2 X.K r3add):=by
 intro pins s σ H x y v u Q I rx ry h
 (refine Classical.byContradiction fun k_ => ?_; obtain ⟨dx,dy,H3,Q3,hr,rdx,rdy,t,k⟩:=h; refine k_ ?_; clear k_)
 cases rdx with
 | int i =>
  cases rdy with
  | int j => exact op_add pins s σ H _ _ v u Q I rx ry ⟨i,j,rfl,rfl,k _ _ _ _ TK.refl hr (.int _) t⟩
  | _ => exact t.elim
 | str i =>
  cases rdy with
  | str j => exact op_add_str pins s σ H _ _ v u Q I rx ry ⟨i,j,rfl,rfl,t.1,k _ _ _ _ TK.refl hr (.str _) t.2⟩
  | _ => exact t.elim
 | ref a =>
  cases rdy with
  | ref b =>
   (delta r3add at t; dsimp only at t)
   split at t
   ·rename_i xs ys ha hb
    (refine Classical.byContradiction fun k_ => ?_; obtain ⟨vs,ga,ra⟩:=hr a _ ha; refine k_ ?_; clear k_)
    (refine Classical.byContradiction fun k_ => ?_; obtain ⟨us,gb,rb⟩:=hr b _ hb; refine k_ ?_; clear k_)
    exact op_cat pins s σ H _ _ v u Q I rx ry ⟨a,b,vs,us,rfl,rfl,ga,gb,by rw [← ra.length,← rb.length]; exact t.1,fun p n =>
     k _ _ _ _ (TK.fresh n) (hr.setL (TK.fresh n) ((ra.append rb).mono (TK.fresh n))) (.ref p) (t.2 p (hr.fresh n))⟩
   ·exact t.elim
  | _ => exact t.elim
 | _ => exact t.elim
def rI3 (C:Int→Int→Prop) (g:Int→Int→D):R3:=fun x y H Q => match x,y with
 | .int i,.int j => C i j∧Q (g i j) H
 | _,_ => False
def rI30 (g:Int→Int→D):R3:=fun x y H Q => match x,y with
 | .int i,.int j => Q (g i j) H
 | _,_ => False
theorem op3_of0 {f:Value→Value→Sem Value} {g:Int→Int→V} {g3:Int→Int→D} (h:OpR X f (rI0 g)) (e:∀ H i j,Rep X.K H (g3 i j) (g i j)):OpR X f (lift2 X.K (rI30 g3)):=by
 intro pins s σ H x y v u Q I rx ry q
 (refine Classical.byContradiction fun k_ => ?_; obtain ⟨dx,dy,H3,Q3,hr,rdx,rdy,t,k⟩:=q; refine k_ ?_; clear k_)
 cases rdx with
 | int i =>
  cases rdy with
  | int j => exact h pins s σ H _ _ v u Q I rx ry ⟨i,j,rfl,rfl,k _ _ _ _ TK.refl hr (e _ i j) t⟩
  | _ => exact t.elim
 | _ => exact t.elim
theorem op3_of {f:Value→Value→Sem Value} {C:Int→Int→Prop} {g:Int→Int→V} {g3:Int→Int→D} (h:OpR X f (rI C g)) (e:∀ H i j,Rep X.K H (g3 i j) (g i j)):OpR X f (lift2 X.K (rI3 C g3)):=by
 intro pins s σ H x y v u Q I rx ry q
 (refine Classical.byContradiction fun k_ => ?_; obtain ⟨dx,dy,H3,Q3,hr,rdx,rdy,t,k⟩:=q; refine k_ ?_; clear k_)
 cases rdx with
 | int i =>
  cases rdy with
  | int j => exact h pins s σ H _ _ v u Q I rx ry ⟨i,j,rfl,rfl,t.1,k _ _ _ _ TK.refl hr (e _ i j) t.2⟩
  | _ => exact t.elim
 | _ => exact t.elim
theorem op3_sub:OpR X (binaryOp .Sub) (lift2 X.K (rI30 fun i j => .int (i - j))):=op3_of0 op_sub fun _ _ _ => .int _
theorem op3_mod:OpR X (binaryOp .Mod) (lift2 X.K (rI3 (fun _ j => 0 < j) fun i j => .int (i % j))):=op3_of op_mod fun _ _ _ => .int _
theorem op3_pow:OpR X (binaryOp .Pow) (lift2 X.K (rI3 CPow fun i j => .int (i ^ j.toNat))):=op3_of op_pow fun _ _ _ => .int _
theorem op3_le:OpR X (compareOp .LtE) (lift2 X.K (rI30 fun i j => .bl (decide (i≤j)))):=op3_of0 op_le fun _ _ _ => .bl _
theorem op3_gt:OpR X (compareOp .Gt) (lift2 X.K (rI30 fun i j => .bl (decide (j < i)))):=op3_of0 op_gt fun _ _ _ => .bl _
def intsOf:List D→Option (List Int)
 | [] => some []
 | .int i::ds => (intsOf ds).map (i::·)
 | _::_ => none
theorem intsOf_inv:∀ {ds:List D} {ns:List Int},intsOf ds = some ns→ds = ns.map D.int
 | [],_,h => by simp only [intsOf,Option.some.injEq] at h; subst h; rfl
 | .int i::ds,ns,h => by
  simp only [intsOf,Option.map_eq_some_iff] at h
  (refine Classical.byContradiction fun k_ => ?_; obtain ⟨ms,h1,h2⟩:=h; refine k_ ?_; clear k_)
  subst h2
  rw [intsOf_inv h1]; rfl
 | .non::_,_,h => by simp [intsOf] at h
 | .bl _::_,_,h => by simp [intsOf] at h
 | .str _::_,_,h => by simp [intsOf] at h
 | .tup _::_,_,h => by simp [intsOf] at h
 | .fl _::_,_,h => by simp [intsOf] at h
 | .ktup _::_,_,h => by simp [intsOf] at h
 | .ref _::_,_,h => by simp [intsOf] at h
 | .ty _::_,_,h => by simp [intsOf] at h
def r3lt:R3:=fun x y H Q => match x,y with
 | .int i,.int j => Q (.bl (decide (i < j))) H
 | .tup xs,.tup ys => (match intsOf xs,intsOf ys with
  | some ns,some ms => Q (.bl (HT.lexLt ns ms)) H
  | _,_ => False)
 | _,_ => False
theorem op3_lt (hu:X.A.units < cLine):OpR X (compareOp .Lt) (lift2 X.K r3lt):=by
 intro pins s σ H x y v u Q I rx ry h
 (refine Classical.byContradiction fun k_ => ?_; obtain ⟨dx,dy,H3,Q3,hr,rdx,rdy,t,k⟩:=h; refine k_ ?_; clear k_)
 cases rdx with
 | int i =>
  cases rdy with
  | int j => exact op_lt pins s σ H _ _ v u Q I rx ry ⟨i,j,rfl,rfl,k _ _ _ _ TK.refl hr (.bl _) t⟩
  | _ => exact t.elim
 | tup ha ra =>
  cases rdy with
  | tup hb rb =>
   (delta r3lt at t; dsimp only at t)
   split at t
   ·rename_i ns ms e1 e2
    have z1:=intsOf_inv e1
    have z2:=intsOf_inv e2
    subst z1; subst z2
    have w1:=ra.ints_inv
    have w2:=rb.ints_inv
    subst w1; subst w2
    exact op_ltT hu pins s σ H _ _ v u Q I rx ry ⟨_,_,ns,ms,rfl,rfl,SqT.of ha,SqT.of hb,k _ _ _ _ TK.refl hr (.bl _) t⟩
   ·exact t.elim
  | _ => exact t.elim
 | _ => exact t.elim
def r3neg:D→Hp3→VK3→Prop:=fun x H Q => match x with
 | .int i => Q (.int (-i)) H
 | _ => False
theorem un3_neg:UnR X (unaryOp .USub) (lift1 X.K r3neg):=by
 intro pins s σ H x v Q I rx h
 (refine Classical.byContradiction fun k_ => ?_; obtain ⟨dx,H3,Q3,hr,rdx,t,k⟩:=h; refine k_ ?_; clear k_)
 cases rdx with
 | int i => exact un_neg pins s σ H _ v Q I rx ⟨i,rfl,k _ _ _ _ TK.refl hr (.int _) t⟩
 | _ => exact t.elim
def isN:D→Bool
 | .non => true
 | _ => false
def r3isN:R3:=fun x y H Q => match y with
 | .non => Q (.bl (isN x)) H
 | _ => False
def r3notN:R3:=fun x y H Q => match y with
 | .non => Q (.bl (!isN x)) H
 | _ => False
theorem atI_rep {K:PySem.W.Frag} {H:Hp} {ds:List D} {vs:List V} {i:Int} {d:D} (r:RepL K H ds vs) (h:atI ds i = some d):∃ v,atI vs i = some v∧Rep K H d v:=by
 unfold atI at h ⊢
 rw [r.length] at h
 cases e:ixN vs.length i with
 | none => rw [e] at h; cases h
 | some j =>
  rw [e] at h
  exact r.get h
def r3ix:R3:=fun x y H Q => match x,y with
 | .tup ds,.int i => (match atI ds i with | some d => Q d H | none => False)
 | .fl ds,.int i => (match atI ds i with | some d => Q d H | none => False)
 | .ktup ds,.int i => (match atI ds i with | some d => Q d H | none => False)
 | .str z,.int i => z.length≤sizeLine∧(match atI z.cps.toList i with | some c => Q (.str ⟨#[c]⟩) H | none => False)
 | .ref a,.int i => (match H a with
  | some (.lst ds) => (match atI ds i with | some d => Q d H | none => False)
  | _ => False)
 | _,_ => False
theorem ix3:IxR X (lift2 X.K r3ix):=by
 intro value slice pins s σ H x y v u Q I rx ry h hs
 (refine Classical.byContradiction fun k_ => ?_; obtain ⟨dx,dy,H3,Q3,hr,rdx,rdy,t,k⟩:=h; refine k_ ?_; clear k_)
 cases rdx with
 | tup ha ra =>
  cases rdy with
  | int i =>
   (delta r3ix at t; dsimp only at t)
   split at t
   ·rename_i d e
    (refine Classical.byContradiction fun k_ => ?_; obtain ⟨w,ew,rw'⟩:=atI_rep ra e; refine k_ ?_; clear k_)
    exact ix_tup value slice pins s σ H _ _ v u Q I rx ry ⟨_,_,i,w,rfl,rfl,SqT.of ha,ew,k _ _ _ _ TK.refl hr rw' t⟩ hs
   ·exact t.elim
  | _ => exact t.elim
 | ktup ha ra =>
  cases rdy with
  | int i =>
   (delta r3ix at t; dsimp only at t)
   split at t
   ·rename_i d e
    (refine Classical.byContradiction fun k_ => ?_; obtain ⟨w,ew,rw'⟩:=atI_rep ra e; refine k_ ?_; clear k_)
    exact ix_tup value slice pins s σ H _ _ v u Q I rx ry ⟨_,_,i,w,rfl,rfl,ha.sq,ew,k _ _ _ _ TK.refl hr rw' t⟩ hs
   ·exact t.elim
  | _ => exact t.elim
 | fl ha ra =>
  cases rdy with
  | int i =>
   (delta r3ix at t; dsimp only at t)
   split at t
   ·rename_i d e
    (refine Classical.byContradiction fun k_ => ?_; obtain ⟨w,ew,rw'⟩:=atI_rep ra e; refine k_ ?_; clear k_)
    exact ix_list value slice pins s σ H _ _ v u Q I rx ry ⟨_,_,i,w,rfl,rfl,ha.sq,ew,k _ _ _ _ TK.refl hr rw' t⟩ hs
   ·exact t.elim
  | _ => exact t.elim
 | str z =>
  cases rdy with
  | int i =>
   (delta r3ix at t; dsimp only at t)
   obtain ⟨hz,t⟩:=t
   split at t
   ·rename_i c e
    exact ix_str value slice pins s σ H _ _ v u Q I rx ry ⟨z,i,c,rfl,rfl,hz,e,k _ _ _ _ TK.refl hr (.str _) t⟩ hs
   ·exact t.elim
  | _ => exact t.elim
 | ref a =>
  cases rdy with
  | int i =>
   (delta r3ix at t; dsimp only at t)
   split at t
   ·rename_i ds ha
    (refine Classical.byContradiction fun k_ => ?_; obtain ⟨vs,ga,ra⟩:=hr a _ ha; refine k_ ?_; clear k_)
    split at t
    ·rename_i d e
     (refine Classical.byContradiction fun k_ => ?_; obtain ⟨w,ew,rw'⟩:=atI_rep ra e; refine k_ ?_; clear k_)
     exact ix_list value slice pins s σ H _ _ v u Q I rx ry ⟨_,_,i,w,rfl,rfl,SqL.of ga,ew,k _ _ _ _ TK.refl hr rw' t⟩ hs
    ·exact t.elim
   ·exact t.elim
  | _ => exact t.elim
 | _ => exact t.elim
def cut3 {α:Type} (xs:List α) (lo hi:Option Int):List α:=(xs.drop (HT.sIx xs.length 0 lo)).take (HT.sIx xs.length xs.length hi - HT.sIx xs.length 0 lo)
abbrev TO3:=St3→Hp3→(Option Int→Hp3→Prop)→Prop
def liftO (K:PySem.W.Frag) (t:TO3):TO:=fun σ H Q => ∃ σ3 H3 Q3,SR K H σ3 σ∧HR K H3 H∧t σ3 H3 Q3∧∀ o H3' H',TK H H'→HR K H3' H'→Q3 o H3'→Q o H'
def PO3 (X:Cx) (e:Option Expr) (t:TO3):Prop:=PO X e (liftO X.K t)
theorem po_imp {e:Option Expr} {t t':TO} (h:PO X e t) (i:∀ σ H Q,t' σ H Q→t σ H Q):PO X e t':=fun pins s σ H Q I hw => h pins s σ H Q I (i σ H Q hw)
def np3:TO3:=fun _ H Q => Q none H
def pt3 (t:TE3):TO3:=fun σ H Q => t σ H fun x H1 => match x with
 | .int i => Q (some i) H1
 | _ => False
theorem po3_none:PO3 X none np3:=po_imp po_none fun _ _ _ ⟨_,_,_,_,hr,t,k⟩ => k _ _ _ TK.refl hr t
theorem po3_some {e:Expr} {te:TE3} (h:PE3 X e te):PO3 X (some e) (pt3 te):=po_imp (po_some h) fun _ _ _ zz => ex3 zz fun σ3 H3 Q3 sr hr t k =>
 ⟨σ3,H3,_,sr,hr,t,fun x v H3a Ha tka hra rx qa => by
  cases rx with
  | int i => exact ⟨i,rfl,k _ _ _ tka hra qa⟩
  | _ => exact qa.elim⟩
abbrev RSl:=D→Option Int→Option Int→Hp3→VK3→Prop
def liftSl (K:PySem.W.Frag) (r:RSl):V→Option Int→Option Int→Hp→VK→Prop:=fun x lo hi H Q => ∃ d H3 Q3,HR K H3 H∧Rep K H d x∧r d lo hi H3 Q3∧KE K H Q3 Q
def sl3 (r:RSl) (te:TE3) (tl th:TO3):TE3:=fun σ H Q => te σ H fun x H1 => tl σ H1 fun l H2 => th σ H2 fun u H3 => r x l u H3 Q
theorem p3_slice {e:Expr} {te:TE3} {lo hi:Option Expr} {tl th:TO3} {pos p2:Pos} {r:RSl} (hr:SlR X (liftSl X.K r)) (he:PE3 X e te) (hl:PO3 X lo tl) (hu:PO3 X hi th):PE3 X (.Subscript e (.Slice lo hi none p2) pos) (sl3 r te tl th) :=
 pe_imp (pe_slice hr he hl hu) fun _ _ _ zz => ex3 zz fun σ3 H3 Q3 sr hr t k => ⟨σ3,H3,_,sr,hr,t,fun x v H3a Ha tka hra rx qa => ⟨σ3,H3a,_,sr.mono tka,hra,qa,fun l H3b Hb tkb hrb qb =>
  ⟨σ3,H3b,_,(sr.mono tka).mono tkb,hrb,qb,fun u H3c Hc tkc hrc qc => ⟨x,H3c,Q3,hrc,(rx.mono tkb).mono tkc,qc,k.mono ((tka.trans tkb).trans tkc)⟩⟩⟩⟩
def r3sl:RSl:=fun x lo hi H Q => match x with
 | .fl ds => ∀ p,H p = none→Q (.ref p) (upd3 H p (.lst (cut3 ds lo hi)))
 | .ref a => (match H a with
  | some (.lst ds) => ∀ p,H p = none→Q (.ref p) (upd3 H p (.lst (cut3 ds lo hi)))
  | _ => False)
 | _ => False
def cb3 (r:List D→Hp3→VK3→Prop) (t:TA3):TE3:=fun σ H Q => t σ H fun ds H1 => r ds H1 Q
theorem lift_cb {K:PySem.W.Frag} {r:List D→Hp3→VK3→Prop} {t:TA3} {σ:St} {H:Hp} {Q:VK} (h:liftE K (cb3 r t) σ H Q):tCB (liftC K r) (liftA K t) σ H Q:=by
 (refine Classical.byContradiction fun k_ => ?_; obtain ⟨σ3,H3,Q3,sr,hr,t,k⟩:=h; refine k_ ?_; clear k_)
 exact ⟨σ3,H3,_,sr,hr,t,fun ds vs H3a Ha tka hra rs qa => ⟨ds,H3a,Q3,hra,rs,qa,k.mono tka⟩⟩
theorem p3_callB {x:Str} {p pos:Pos} {e:Expr} {es:List Expr} {t:TA3} {id:String} {r:List D→Hp3→VK3→Prop} (hc:CallR X (.builtin id) (liftC X.K r)) (hg:Gl X x) (hm:X.mg x = none) (hv:bootBuiltins x = some (.builtin id)) (ha:PA3 X (e::es) t)
  (hn:x ≠ "__name__":=by decide) (hdb:(x == ("__debug__" : Str)) = false:=by decide)
  (he:starEach (e::es) X.env = (false,eval e X.env)::starEach es X.env:=by rfl) (hpl:(backTo pos (starEach es X.env)).any (·.1) = false:=by rfl):PE3 X (.Call (.Name x p) (e::es) [] pos) (cb3 r t) :=
 pe_imp (pe_callB hc hg hm hv ha hn hdb he hpl) fun _ _ _ h => lift_cb h
theorem p3_callTy {x:Str} {p pos:Pos} {e:Expr} {es:List Expr} {t:TA3} {T:String} {r:List D→Hp3→VK3→Prop} (hc:CallR X (.type T) (liftC X.K r)) (hg:Gl X x) (hm:X.mg x = none) (hv:bootBuiltins x = some (.type T)) (ha:PA3 X (e::es) t)
  (hn:x ≠ "__name__":=by decide) (hdb:(x == ("__debug__" : Str)) = false:=by decide)
  (he:starEach (e::es) X.env = (false,eval e X.env)::starEach es X.env:=by rfl) (hpl:(backTo pos (starEach es X.env)).any (·.1) = false:=by rfl):PE3 X (.Call (.Name x p) (e::es) [] pos) (cb3 r t) :=
 pe_imp (pe_callTy hc hg hm hv ha hn hdb he hpl) fun _ _ _ h => lift_cb h
def r3len:List D→Hp3→VK3→Prop:=fun ds H Q => match ds with
 | [.tup xs] => Q (.int xs.length) H
 | [.fl xs] => Q (.int xs.length) H
 | [.str z] => z.length≤sizeLine∧Q (.int z.length) H
 | [.ref a] => (match H a with
  | some (.lst xs) => Q (.int xs.length) H
  | _ => False)
 | _ => False
theorem cb3_len:CallR X (.builtin "len") (liftC X.K r3len):=by
 intro pins s σ H xs us Q I rs h
 (refine Classical.byContradiction fun k_ => ?_; obtain ⟨ds,H3,Q3,hr,rd,t,k⟩:=h; refine k_ ?_; clear k_)
 cases rd with
 | nil => exact t.elim
 | cons r1 r2 =>
  cases r2 with
  | cons _ _ => cases r1 <;> exact t.elim
  | nil =>
   cases r1 with
   | tup ha ra => exact call_len_seq pins s σ H _ us Q I rs ⟨_,_,rfl,.inr (SqT.of ha),by rw [← ra.length]; exact k _ _ _ _ TK.refl hr (.int _) t⟩
   | fl ha ra => exact call_len_seq pins s σ H _ us Q I rs ⟨_,_,rfl,.inl ha.sq,by rw [← ra.length]; exact k _ _ _ _ TK.refl hr (.int _) t⟩
   | str z => exact call_len_str pins s σ H _ us Q I rs ⟨_,rfl,t.1,k _ _ _ _ TK.refl hr (.int _) t.2⟩
   | ref a =>
    (delta r3len at t; dsimp only at t)
    split at t
    ·rename_i ds ha
     (refine Classical.byContradiction fun k_ => ?_; obtain ⟨vs,ga,ra⟩:=hr a _ ha; refine k_ ?_; clear k_)
     exact call_len_seq pins s σ H _ us Q I rs ⟨_,_,rfl,.inl (SqL.of ga),by rw [← ra.length]; exact k _ _ _ _ TK.refl hr (.int _) t⟩
    ·exact t.elim
   | _ => exact t.elim
def r3tuple:List D→Hp3→VK3→Prop:=fun ds H Q => match ds with
 | [.tup xs] => Q (.tup xs) H
 | [.fl xs] => Q (.tup xs) H
 | [.ref a] => (match H a with
  | some (.lst xs) => Q (.tup xs) H
  | _ => False)
 | _ => False
theorem cb3_tuple:CallR X (.type "tuple") (liftC X.K r3tuple):=by
 intro pins s σ H xs us Q I rs h
 (refine Classical.byContradiction fun k_ => ?_; obtain ⟨ds,H3,Q3,hr,rd,t,k⟩:=h; refine k_ ?_; clear k_)
 cases rd with
 | nil => exact t.elim
 | cons r1 r2 =>
  cases r2 with
  | cons _ _ => cases r1 <;> exact t.elim
  | nil =>
   cases r1 with
   | tup ha ra => exact call_tuple_of pins s σ H _ us Q I rs ⟨_,_,rfl,.inr ⟨SqT.of ha,k _ _ _ _ TK.refl hr (.tup ha ra) t⟩⟩
   | fl ha ra => exact call_tuple_of pins s σ H _ us Q I rs ⟨_,_,rfl,.inl ⟨ha.sq,fun l n => k _ _ _ _ (TK.fresh n) (hr.tup n) (.tup upd_same (ra.mono (TK.fresh n))) t⟩⟩
   | ref a =>
    (delta r3tuple at t; dsimp only at t)
    split at t
    ·rename_i ds ha
     (refine Classical.byContradiction fun k_ => ?_; obtain ⟨vs,ga,ra⟩:=hr a _ ha; refine k_ ?_; clear k_)
     exact call_tuple_of pins s σ H _ us Q I rs ⟨_,_,rfl,.inl ⟨SqL.of ga,fun l n => k _ _ _ _ (TK.fresh n) (hr.tup n) (.tup upd_same (ra.mono (TK.fresh n))) t⟩⟩
    ·exact t.elim
   | _ => exact t.elim
def r3list:List D→Hp3→VK3→Prop:=fun ds H Q => match ds with
 | [.tup xs] => ∀ p,H p = none→Q (.ref p) (upd3 H p (.lst xs))
 | [.fl xs] => ∀ p,H p = none→Q (.ref p) (upd3 H p (.lst xs))
 | [.ref a] => (match H a with
  | some (.lst xs) => ∀ p,H p = none→Q (.ref p) (upd3 H p (.lst xs))
  | _ => False)
 | _ => False
end
end L3
namespace L3
open PySem PySem.Spec PyProof.Rows L2
theorem turn_long {P:Program} {w:World} {K:PySem.W.Frag} {tg:Expr} (it:Addr) (lo:Int) (n:Nat):Turn P w K tg (Itr lo n) [it] it (fun i h => IsLongIter h it (lo + (i:Nat) * 1) ((n:Int) - (i:Nat)) 1) where
 mem:=List.mem_singleton.mpr rfl
 obj:=fun i h st b hb => by
  rw [List.mem_singleton.mp hb]
  exact ⟨_,st,fun v z => by have z':Data.fields _ = Data.cell v:=z; cases z'⟩
 keep:=fun i h h' st k => k it (List.mem_singleton.mpr rfl) _ st
 item:=by
  intro X hP hw hK hc i pins s σ H E I hf st hg
  subst hP hw hK
  (refine Classical.byContradiction fun k_ => ?_; obtain ⟨f0,f1,f2,f3,f4,f5⟩:=hf it (List.mem_singleton.mpr rfl); refine k_ ?_; clear k_)
  have hlt:i < n:=hg
  refine wpAny_pyNext_long_item st (by grind) fun h' st' sb => ?_
  have I1:Inv X pins σ H { s with heap:=h',toks:=s.toks + 1 }:=I.turned (fun b o hb e => (sb.2 b hb).trans e) f0 f1 f3 f4 f5
  have st2:IsLongIter h' it (lo + ((i + 1:Nat):Int) * 1) ((n:Int) - ((i + 1:Nat):Int)) 1:=by
   have e1:lo + (i:Int) * 1 + 1 = lo + ((i + 1:Nat):Int) * 1:=by grind
   have e2:(n:Int) - (i:Int) - 1 = (n:Int) - ((i + 1:Nat):Int):=by grind
   rw [← e1,← e2]; exact st'
  exact ⟨_,rfl,go_of (s:={ s with heap:=h',toks:=s.toks + 1 }) (n := "longrange_iterator") st2 rfl rfl (by decide) ⟨.int (lo + i),H,I1,⟨s.toks,by rw [Int.mul_one]⟩,⟨rfl,rfl⟩,st2,fun b hb => (hf b hb).1⟩⟩
 done:=by
  intro X hP hw hK hc i pins s σ H E I hf st hg
  subst hP hw hK
  (refine Classical.byContradiction fun k_ => ?_; obtain ⟨f0,f1,f2,f3,f4,f5⟩:=hf it (List.mem_singleton.mpr rfl); refine k_ ?_; clear k_)
  have hle:n≤i:=hg
  exact wpAny_pyNext_long_end (I.ok.hd hc) st (by grind) fun h' eb => ⟨rfl,I.turned (t':=s.toks) (fun b o hb e => eb b o hb e) f0 f1 f3 f4 f5⟩
 self:=fun _ _ _ _ _ st h => wpAny_pyIter_longiter st h
section
variable {X:Cx} {tg:Expr}
theorem range_any {pins:List (Addr×Obj)} {σ:St} {H:Hp} {s:Shared} {R:It→Hp→Prop} {E:Value→Shared→Prop} {lo hi:Int} {t u v:Tok} {tk:Nat} (I:Inv X pins σ H s) (q:R (Itr lo (hi - lo).toNat) H) :
  wpAny (model X.prog X.w) X.A (pyIter (.ref s.heap.objs.size)) (PIE X pins σ tg R) E { s with heap:=s.heap.push { cls:=.type "range",data:=.fields #[.int lo t,.int hi u,.int 1 v] },toks:=tk }:=by
 have I1:Inv X pins σ H { s with heap:=s.heap.push { cls:=.type "range",data:=.fields #[.int lo t,.int hi u,.int 1 v] },toks:=tk }:=I.kept fun b o e => Heap.get?_push_of_some _ e
 have e2:(((hi - lo).toNat:Nat):Int) - ((0:Nat):Int) = Builtin.Range.rangeSize lo hi 1:=by rw [rangeSize_one]; split <;> grind
 have e1:lo + ((0:Nat):Int) * 1 = lo:=by grind
 have hf:∀ b∈[(s.heap.push { cls:=.type "range",data:=.fields #[.int lo t,.int hi u,.int 1 v] }).objs.size],FpOk X pins H b:=fun b hb => by
  rw [List.mem_singleton.mp hb]
  exact I1.fpOk (Nat.le_refl _) (I1.hok.fresh (Nat.le_refl _))
 cases hs:Builtin.Range.small lo hi 1 with
 | true =>
  refine wpAny_pyIter_range (IsRange.new ..) hs ⟨_,_,_,_,H,rfl,I1.kept (t':=tk) fun b o e => Heap.get?_push_of_some _ e,turn_range _ lo (hi - lo).toNat,?_,hf,q⟩
  show IsRangeIter _ _ (lo + ((0:Nat):Int) * 1) ((((hi - lo).toNat:Nat):Int) - ((0:Nat):Int)) 1
  rw [e1,e2]
  exact Heap.get?_push_size _ rfl
 | false =>
  refine wpAny_pyIter_longrange (IsRange.new ..) hs ⟨_,_,_,_,H,rfl,I1.kept (t':=tk) fun b o e => Heap.get?_push_of_some _ e,turn_long _ lo (hi - lo).toNat,?_,hf,q⟩
  show IsLongIter _ _ (lo + ((0:Nat):Int) * 1) ((((hi - lo).toNat:Nat):Int) - ((0:Nat):Int)) 1
  rw [e1,e2]
  exact Heap.get?_push_size _ rfl
def jRng1 (ta:TA):TI:=fun σ H R => ta σ H fun vs H1 => ∃ j:Int,vs = [.int j]∧R (Itr 0 j.toNat) H1
def jRng2 (ta:TA):TI:=fun σ H R => ta σ H fun vs H1 => ∃ i j:Int,vs = [.int i,.int j]∧R (Itr i (j - i).toNat) H1
theorem pj_range1 {a:Expr} {ta:TA} {p pos:Pos} (hg:Gl X "range") (hm:X.mg "range" = none) (ha:PA X [a] ta) (hs:starEach [a] X.env = [(false,eval a X.env)]:=by rfl):PI X tg (.Call (.Name "range" p) [a] [] pos) (jRng1 ta):=by
 intro pins s σ H R I h
 refine Call_ (ld_blt I hg hm boot_range (PyProof.Rows.callWith_type1 (thn (ha pos pins s σ H _ I h) fun us s1 zz => ?_) hs rfl))
 (refine Classical.byContradiction fun k_ => ?_; obtain ⟨vs,H1,I1,r1,j,e,q⟩:=zz; refine k_ ?_; clear k_)
 subst e
 (refine Classical.byContradiction fun k_ => ?_; obtain ⟨u,rfl,t,rfl⟩:=vals1 r1; refine k_ ?_; clear k_)
 exact call_range_1 (range_any I1 (by simpa using q))
theorem pj_range2 {a b:Expr} {ta:TA} {p pos:Pos} (hg:Gl X "range") (hm:X.mg "range" = none) (ha:PA X [a,b] ta) (hs:starEach [a,b] X.env = [(false,eval a X.env),(false,eval b X.env)]:=by rfl) (hs2:starEach [b] X.env = [(false,eval b X.env)]:=by rfl) :
  PI X tg (.Call (.Name "range" p) [a,b] [] pos) (jRng2 ta):=by
 intro pins s σ H R I h
 refine Call_ (ld_blt I hg hm boot_range (PyProof.Rows.callWith_type1 (thn (ha pos pins s σ H _ I h) fun us s1 zz => ?_) (by rw [hs,hs2]) (by rw [hs2]; rfl)))
 (refine Classical.byContradiction fun k_ => ?_; obtain ⟨vs,H1,I1,r1,i,j,e,q⟩:=zz; refine k_ ?_; clear k_)
 subst e
 (refine Classical.byContradiction fun k_ => ?_; obtain ⟨u,u',rfl,⟨t,rfl⟩,⟨t',rfl⟩⟩:=vals2 r1; refine k_ ?_; clear k_)
 exact call_range_2 (range_any I1 q)
end
end L3
namespace L3
open PySem PySem.Spec PyProof.Rows L2
section
variable {X:Cx} {st:Stmt} {rest:List Stmt} {t u:TS3} {e:Expr} {te:TE3} {pos:Pos}
def nx3:TS3:=fun D σ H => D.nx σ H
def sq3 (t u:TS3):TS3:=fun D σ H => t { D with nx:=u D } σ H
theorem s3_nil:PSs3 X [] nx3:=pss_imp pss_nil fun _ _ _ ⟨_,_,_,sr,hr,t,k⟩ => k.nx _ _ _ _ TK.refl sr hr t
theorem s3_cons (h1:PS3 X st t) (h2:PSs3 X rest u):PSs3 X (st::rest) (sq3 t u) :=
 pss_imp (pss_cons h1 h2) fun _ _ _ zz => ex3 zz fun σ3 H3 D3 sr hr q k => ⟨σ3,H3,{ D3 with nx:=u D3 },sr,hr,q,
  ⟨fun σ3' σ' H3' H' tk sr' hr' q' => ⟨σ3',H3',D3,sr',hr',q',k.mono tk⟩,k.rt,k.bk,k.ct⟩⟩
theorem s3_one (h1:PS3 X st t):PSs3 X [st] t:=pss_one h1
def br3:TS3:=fun D σ H => D.bk σ H
def co3:TS3:=fun D σ H => D.ct σ H
theorem s3_break:PS3 X (.Break pos) br3:=ps_imp ps_break fun _ _ _ ⟨_,_,_,sr,hr,t,k⟩ => k.bk _ _ _ _ TK.refl sr hr t
def dr3 (te:TE3):TS3:=fun D σ H => te σ H fun _ H1 => D.nx σ H1
theorem s3_expr (he:PE3 X e te) (hs:swapsWith e none pos.line X.env = pure false:=by rfl):PS3 X (.Expr e pos) (dr3 te) :=
 ps_imp (ps_expr he hs) fun _ _ _ zz => ex3 zz fun σ3 H3 D3 sr hr t k => ⟨σ3,H3,_,sr,hr,t,fun x v H3a Ha tka hra rx qa => k.nx _ _ _ _ tka (sr.mono tka) hra qa⟩
def rt3 (te:TE3):TS3:=fun D σ H => te σ H D.rt
theorem s3_ret (he:PE3 X e te):PS3 X (.Return (some e) pos) (rt3 te) :=
 ps_imp (ps_ret he) fun _ _ _ zz => ex3 zz fun σ3 H3 D3 sr hr t k => ⟨σ3,H3,_,sr,hr,t,k.rt⟩
def rn3:TS3:=fun D _ H => D.rt .non H
def is3 (c:TT3) (t u:TS3):TS3:=fun D σ H => c σ H fun b H1 => if b = true then t D σ H1 else u D σ H1
theorem s3_if {c:Expr} {a b:List Stmt} {tc:TT3} (hc:PT3 X c tc) (ha:PSs3 X a t) (hb:PSs3 X b u):PS3 X (.If c a b pos) (is3 tc t u) :=
 ps_imp (ps_if hc ha hb) fun _ _ _ zz => ex3 zz fun σ3 H3 D3 sr hr q k => ⟨σ3,H3,_,sr,hr,q,fun b H3a Ha tka hra qa => by
  cases b with
  | true => exact ⟨σ3,H3a,D3,sr.mono tka,hra,qa,k.mono tka⟩
  | false => exact ⟨σ3,H3a,D3,sr.mono tka,hra,qa,k.mono tka⟩⟩
def st3 (i:Nat) (te:TE3):TS3:=fun D σ H => te σ H fun x H1 => D.nx (σ.set i (some x)) H1
theorem s3_set (i:Nat) {x:Str} {pos':Pos} (hN:X.N.Nodup) (he:PE3 X e te) (hi:X.N[i]? = some x:=by rfl) (hx:Loc X.env.scope x:=by first | exact Or.inl rfl | exact Or.inr rfl) (hs:swapsWith e (some (.Name x pos')) pos.line X.env = pure false:=by rfl)
  (hf:X.fn x = true∨X.env.scope.names.lookup x = some .local:=by first | exact .inl rfl | exact .inr rfl | assumption):PS3 X (.Assign [.Name x pos'] e pos) (st3 i te) :=
 ps_imp (ps_set hN hi hx he hs hf) fun _ _ _ zz => ex3 zz fun σ3 H3 D3 sr hr t k => ⟨σ3,H3,_,sr,hr,t,fun x v H3a Ha tka hra rx qa => k.nx _ _ _ _ tka ((sr.mono tka).set i rx) hra qa⟩
abbrev TG3:=D→St3→Hp3→(St3→Hp3→Prop)→Prop
def liftG (K:PySem.W.Frag) (t:TG3):TG:=fun v σ H Q => ∃ d σ3 H3 Q3,Rep K H d v∧SR K H σ3 σ∧HR K H3 H∧t d σ3 H3 Q3∧KN K H Q3 Q
def PG3 (X:Cx) (tg:Expr) (t:TG3):Prop:=PG X tg (liftG X.K t)
theorem pg_imp {tg:Expr} {t t':TG} (h:PG X tg t) (i:∀ v σ H Q,t' v σ H Q→t v σ H Q):PG X tg t':=fun pins s σ H v u Q I r hw => h pins s σ H v u Q I r (i v σ H Q hw)
def gn3 (i:Nat):TG3:=fun d σ H Q => Q (σ.set i (some d)) H
theorem g3_name (i:Nat) {x:Str} (hN:X.N.Nodup) (hi:X.N[i]? = some x:=by rfl) (hx:Loc X.env.scope x:=by first | exact Or.inl rfl | exact Or.inr rfl) (hf:X.fn x = true∨X.env.scope.names.lookup x = some .local:=by first | exact .inl rfl | exact .inr rfl | assumption) :
  PG3 X (.Name x pos) (gn3 i):=pg_imp (pg_name hN hi hx hf) fun _ _ _ _ ⟨d,σ3,H3,Q3,rd,sr,hr,t,k⟩ => k _ _ _ _ TK.refl (sr.set i rd) hr t
def g2_3 (i j:Nat):TG3:=fun d σ H Q => match d with
 | .tup [x,y] => Q ((σ.set i (some x)).set j (some y)) H
 | _ => False
def g3_3 (i j l:Nat):TG3:=fun d σ H Q => match d with
 | .tup [x,y,z] => Q (((σ.set i (some x)).set j (some y)).set l (some z)) H
 | _ => False
theorem g3_pair (i j:Nat) {x y:Str} {p1 p2:Pos} {kk:Nat} (hc:X.calm = true) (hN:X.N.Nodup) (hi:X.N[i]? = some x:=by rfl) (hx:Loc X.env.scope x:=by first | exact Or.inl rfl | exact Or.inr rfl) (hj:X.N[j]? = some y:=by rfl) (hy:Loc X.env.scope y:=by first | exact Or.inl rfl | exact Or.inr rfl)
  (hf:X.fn x = true∨X.env.scope.names.lookup x = some .local:=by first | exact .inl rfl | exact .inr rfl | assumption) (hf':X.fn y = true∨X.env.scope.names.lookup y = some .local:=by first | exact .inl rfl | exact .inr rfl | assumption) :
  PG3 X (.Tuple [.Name x p1,.Name y p2] kk pos) (g2_3 i j) :=
 pg_imp (pg_tup (n:=2) hc (pgs_cons (pg_name hN hi hx hf) (pgs_cons (pg_name hN hj hy hf') pgs_nil))) fun v σ H Q ⟨d,σ3,H3,Q3,rd,sr,hr,t,k⟩ => by
  cases rd with
  | tup ha ra =>
   cases ra with
   | nil => exact t.elim
   | cons r1 ra =>
    cases ra with
    | nil => exact t.elim
    | cons r2 ra =>
     cases ra with
     | cons _ _ => exact t.elim
     | nil => exact ⟨_,_,rfl,SqT.of ha,rfl,_,_,rfl,_,_,rfl,rfl,k _ _ _ _ TK.refl ((sr.set i r1).set j r2) hr t⟩
  | _ => exact t.elim
def as3 (te:TE3) (g:TG3):TS3:=fun D σ H => te σ H fun x H1 => g x σ H1 D.nx
theorem s3_asg {tg:Expr} {g:TG3} (he:PE3 X e te) (hg:PG3 X tg g) (hs:swapsWithSole [tg] e pos.line X.env = pure false:=by rfl) (hw:swappedStores [tg] e X.env = pure none:=by rfl)
  (h1:(assignEach [tg] X.env).map (·.2) = [assign tg X.env]:=by rfl):PS3 X (.Assign [tg] e pos) (as3 te g) :=
 ps_imp (ps_asg he hg hs hw h1) fun _ _ _ zz => ex3 zz fun σ3 H3 D3 sr hr t k => ⟨σ3,H3,_,sr,hr,t,fun x v H3a Ha tka hra rx qa => ⟨x,σ3,H3a,_,rx,sr.mono tka,hra,qa,k.nx.mono tka⟩⟩
def wh3 (c:TT3) (tb:TS3):TS3:=fun D σ H => ∃ (P:St3→Hp3→Prop) (μ:St3→Hp3→Nat),P σ H∧∀ σ H,P σ H →
 c σ H fun b H1 => if b = true then tb { D with nx:=fun σ' H' => P σ' H'∧μ σ' H' < μ σ H,ct:=fun σ' H' => P σ' H'∧μ σ' H' < μ σ H,bk:=D.nx } σ H1 else D.nx σ H1
theorem s3_while {c:Expr} {body:List Stmt} {tc:TT3} {tb:TS3} (hp:PassesOwn (model X.prog X.w) X.A X.env X.xe) (hc:PT3 X c tc) (hb:PSs3 X body tb):PS3 X (.While c body [] pos) (wh3 tc tb) :=
 ps_imp (ps_while hp hc hb) fun D σ H zz => ex3 zz fun σ3 H3 D3 sr hr t k => by
  (refine Classical.byContradiction fun k_ => ?_; obtain ⟨P,μ,p0,turn⟩:=t; refine k_ ?_; clear k_)
  refine ⟨fun m σ' H' => ∃ σ3' H3',TK H H'∧SR X.K H' σ3' σ'∧HR X.K H3' H'∧P σ3' H3'∧m = μ σ3' H3',⟨_,σ3,H3,TK.refl,sr,hr,p0,rfl⟩,?_⟩
  intro m σ1 H1 z_
  (refine Classical.byContradiction fun k_ => ?_; obtain ⟨σ31,H31,tk1,sr1,hr1,p1,rfl⟩:=z_; refine k_ ?_; clear k_)
  refine ⟨σ31,H31,_,sr1,hr1,turn σ31 H31 p1,fun b H3a Ha tka hra qa => ?_⟩
  cases b with
  | false => exact k.nx _ _ _ _ (tk1.trans tka) (sr1.mono tka) hra qa
  | true =>
   refine ⟨fun σ' H' => ∃ σ3' H3',TK H H'∧SR X.K H' σ3' σ'∧HR X.K H3' H'∧P σ3' H3'∧μ σ3' H3' < μ σ31 H31,?_,?_⟩
   ·intro σ' H' z_
    (refine Classical.byContradiction fun k_ => ?_; obtain ⟨σ3',H3',z1,z2,z3,z4,z5⟩:=z_; refine k_ ?_; clear k_)
    exact ⟨_,z5,σ3',H3',z1,z2,z3,z4,rfl⟩
   ·have kk:=k.mono (tk1.trans tka)
    exact ⟨σ31,H3a,_,sr1.mono tka,hra,qa,⟨fun σ3' σ' H3' H' tk' sr' hr' q' => ⟨σ3',H3',(tk1.trans tka).trans tk',sr',hr',q'.1,q'.2⟩,kk.rt,kk.nx,
     fun σ3' σ' H3' H' tk' sr' hr' q' => ⟨σ3',H3',(tk1.trans tka).trans tk',sr',hr',q'.1,q'.2⟩⟩⟩
abbrev TI3:=St3→Hp3→(List D→(Hp3→Prop)→Hp3→Prop)→Prop
def ItOk (K:PySem.W.Frag) (H0:Hp) (ds:List D) (keep:Hp3→Prop) (J:It):Prop :=
 ∀ H3 H,TK H0 H→HR K H3 H→keep H3→(∀ i,i < ds.length→J.go i H∧∀ x H',J.yld i H x H'→TK H H'∧HR K H3 H'∧∃ d,ds[i]? = some d∧Rep K H' d x)∧J.stop ds.length H
def liftI (K:PySem.W.Frag) (t:TI3):TI:=fun σ H R => ∃ σ3 H3 R3,SR K H σ3 σ∧HR K H3 H∧t σ3 H3 R3 ∧
 ∀ ds keep J H3' H',TK H H'→HR K H3' H'→ItOk K H' ds keep J→R3 ds keep H3'→R J H'
def PI3 (X:Cx) (tg iter:Expr) (t:TI3):Prop:=PI X tg iter (liftI X.K t)
theorem pi_imp {tg iter:Expr} {t t':TI} (h:PI X tg iter t) (i:∀ σ H R,t' σ H R→t σ H R):PI X tg iter t':=fun pins s σ H R I hw => h pins s σ H R I (i σ H R hw)
def il3 (te:TE3):TI3:=fun σ H R => te σ H fun x H1 => match x with
 | .ref a => (match H1 a with
  | some (.lst ds) => R ds (fun H' => H' a = some (.lst ds)) H1
  | _ => False)
 | .fl ds => R ds (fun _ => True) H1
 | _ => False
def it3 (te:TE3):TI3:=fun σ H R => te σ H fun x H1 => match x with
 | .tup ds => R ds (fun _ => True) H1
 | _ => False
theorem itOk_list {K:PySem.W.Frag} {H:Hp} {a:Addr} {ds:List D}:ItOk K H ds (fun H' => H' a = some (.lst ds)) (Itl K a):=fun H3 H' _ hr hk => by
 (refine Classical.byContradiction fun k_ => ?_; obtain ⟨vs,ga,ra⟩:=hr a _ hk; refine k_ ?_; clear k_)
 refine ⟨fun i hi => ⟨⟨vs,vs[i]'(by rw [← ra.length]; exact hi),SqL.of ga,by simp⟩,fun x H'' y => ?_⟩,⟨vs,SqL.of ga,by rw [ra.length]; exact Nat.le_refl _⟩⟩
 obtain ⟨e,y⟩:=y
 subst e
 exact ⟨TK.refl,hr,ra.getV (y vs (SqL.of ga))⟩
theorem itOk_fl {K:PySem.W.Frag} {H:Hp} {a:Addr} {xs:List V} {ds:List D} (ha:FzL K H a xs) (ra:RepL K H ds xs):ItOk K H ds (fun _ => True) (Itl K a):=fun H3 H' tk hr _ => by
 have hq:=(tk.fzL ha).sq
 have ra':=ra.mono tk
 refine ⟨fun i hi => ⟨⟨xs,xs[i]'(by rw [← ra.length]; exact hi),hq,by simp⟩,fun x H'' y => ?_⟩,⟨xs,hq,by rw [ra.length]; exact Nat.le_refl _⟩⟩
 obtain ⟨e,y⟩:=y
 subst e
 exact ⟨TK.refl,hr,ra'.getV (y xs hq)⟩
theorem itOk_tup {K:PySem.W.Frag} {H:Hp} {a:Addr} {xs:List V} {ds:List D} (ha:SqT K H a xs) (ra:RepL K H ds xs):ItOk K H ds (fun _ => True) (Itt K a):=fun H3 H' tk hr _ => by
 have hq:=tk.sqT ha
 have ra':=ra.mono tk
 refine ⟨fun i hi => ⟨⟨xs,xs[i]'(by rw [← ra.length]; exact hi),hq,by simp⟩,fun x H'' y => ?_⟩,⟨xs,hq,by rw [ra.length]; exact Nat.le_refl _⟩⟩
 obtain ⟨e,y⟩:=y
 subst e
 exact ⟨TK.refl,hr,ra'.getV (y xs hq)⟩
theorem i3_list {tg:Expr} (h:PE3 X e te):PI3 X tg e (il3 te) :=
 pi_imp (pi_list h) fun _ _ _ ⟨σ3,H3,R3,sr,hr,t,k⟩ => ⟨σ3,H3,_,sr,hr,t,fun x v H3a Ha tka hra rx qa => by
  cases rx with
  | ref a =>
   simp only [] at qa
   split at qa
   ·rename_i ds ha
    (refine Classical.byContradiction fun k_ => ?_; obtain ⟨vs,ga,ra⟩:=hra a _ ha; refine k_ ?_; clear k_)
    exact ⟨a,rfl,⟨vs,SqL.of ga⟩,k _ _ _ _ _ tka hra itOk_list qa⟩
   ·exact qa.elim
  | fl ha ra => exact ⟨_,rfl,⟨_,ha.sq⟩,k _ _ _ _ _ tka hra (itOk_fl ha ra) qa⟩
  | _ => exact qa.elim⟩
theorem i3_tup {tg:Expr} (h:PE3 X e te):PI3 X tg e (it3 te) :=
 pi_imp (pi_tup h) fun _ _ _ ⟨σ3,H3,R3,sr,hr,t,k⟩ => ⟨σ3,H3,_,sr,hr,t,fun x v H3a Ha tka hra rx qa => by
  cases rx with
  | tup ha ra => exact ⟨_,rfl,⟨_,SqT.of ha⟩,k _ _ _ _ _ tka hra (itOk_tup (SqT.of ha) ra) qa⟩
  | _ => exact qa.elim⟩
def rng (lo:Int) (n:Nat):List D:=(List.range n).map fun (i:Nat) => D.int (lo + (i:Int))
theorem rng_len (lo:Int) (n:Nat):(rng lo n).length = n:=by simp [rng]
theorem rng_get {lo:Int} {n i:Nat} (h:i < n):(rng lo n)[i]? = some (.int (lo + i)):=by simp [rng,h]
theorem itOk_rng {K:PySem.W.Frag} {H:Hp} {lo:Int} {n:Nat}:ItOk K H (rng lo n) (fun _ => True) (Itr lo n):=fun H3 H' tk hr _ => by
 refine ⟨fun i hi => ?_,?_⟩
 ·rw [rng_len] at hi
  refine ⟨hi,fun x H'' y => ?_⟩
  obtain ⟨e,y⟩:=y
  subst y
  subst e
  exact ⟨TK.refl,hr,_,rng_get hi,.int _⟩
 ·rw [rng_len]; exact Nat.le_refl _
def rg1 (x:D) (H:Hp3) (R:List D→(Hp3→Prop)→Hp3→Prop):Prop:=match x with
 | .int j => R (rng 0 j.toNat) (fun _ => True) H
 | _ => False
def rg2 (x y:D) (H:Hp3) (R:List D→(Hp3→Prop)→Hp3→Prop):Prop:=match x,y with
 | .int i,.int j => R (rng i (j - i).toNat) (fun _ => True) H
 | _,_ => False
def ir1 (ta:TE3):TI3:=fun σ H R => ta σ H fun x H1 => rg1 x H1 R
def ir2 (ta tb:TE3):TI3:=fun σ H R => ta σ H fun x H1 => tb σ H1 fun y H2 => rg2 x y H2 R
theorem i3_rng1 {tg a:Expr} {ta:TE3} {p pos:Pos} (hm:X.mg "range" = none) (ha:PE3 X a ta) (hg:Gl X "range":=by rfl) (hs:starEach [a] X.env = [(false,eval a X.env)]:=by rfl) (hs':starEach [a] X.env = (false,eval a X.env)::starEach [] X.env:=by rfl):PI3 X tg (.Call (.Name "range" p) [a] [] pos) (ir1 ta) :=
 pi_imp (pj_range1 hg hm (a3_cons ha a3_nil hs') hs) fun _ _ _ ⟨σ3,H3,R3,sr,hr,t,k⟩ => by
  refine ⟨σ3,H3,fun ds H1 => (match ds with | [x] => rg1 x H1 R3 | _ => False),sr,hr,t,fun ds vs H3a Ha tka hra rs qa => ?_⟩
  cases rs with
  | nil => exact qa.elim
  | cons r1 r2 =>
   cases r2 with
   | cons _ _ => exact qa.elim
   | nil =>
    cases r1 with
    | int j => exact ⟨j,rfl,k _ _ _ _ _ tka hra itOk_rng qa⟩
    | _ => exact qa.elim
theorem i3_rng2 {tg a b:Expr} {ta tb:TE3} {p pos:Pos} (hm:X.mg "range" = none) (ha:PE3 X a ta) (hb:PE3 X b tb) (hg:Gl X "range":=by rfl) (hs:starEach [a,b] X.env = [(false,eval a X.env),(false,eval b X.env)]:=by rfl)
  (hs1:starEach [a,b] X.env = (false,eval a X.env)::starEach [b] X.env:=by rfl) (hs2:starEach [b] X.env = (false,eval b X.env)::starEach [] X.env:=by rfl) (hs3:starEach [b] X.env = [(false,eval b X.env)]:=by rfl):PI3 X tg (.Call (.Name "range" p) [a,b] [] pos) (ir2 ta tb) :=
 pi_imp (pj_range2 hg hm (a3_cons ha (a3_cons hb a3_nil hs2) hs1) hs hs3) fun _ _ _ ⟨σ3,H3,R3,sr,hr,t,k⟩ => by
  refine ⟨σ3,H3,fun ds H1 => (match ds with | [x,y] => rg2 x y H1 R3 | _ => False),sr,hr,t,fun ds vs H3a Ha tka hra rs qa => ?_⟩
  cases rs with
  | nil => exact qa.elim
  | cons r1 r2 =>
   cases r2 with
   | nil => exact qa.elim
   | cons r2 r3 =>
    cases r3 with
    | cons _ _ => exact qa.elim
    | nil =>
     cases r1 with
     | int i =>
      cases r2 with
      | int j => exact ⟨i,j,rfl,k _ _ _ _ _ tka hra itOk_rng qa⟩
      | _ => exact qa.elim
     | _ => exact qa.elim
def fo3 (wi:TI3) (g:TG3) (tb:TS3):TS3:=fun D σ H => wi σ H fun ds keep H1 => ∃ P:Nat→St3→Hp3→Prop,P 0 σ H1∧(∀ i σ H,i≤ds.length→P i σ H→keep H) ∧
 (∀ i d σ H,ds[i]? = some d→P i σ H→g d σ H fun σ2 H2 => tb { D with nx:=P (i + 1),ct:=P (i + 1),bk:=D.nx } σ2 H2)∧∀ σ H,P ds.length σ H→D.nx σ H
theorem s3_for {tg iter:Expr} {body:List Stmt} {wi:TI3} {g:TG3} {tb:TS3} (hp:PassesOwn (model X.prog X.w) X.A X.env X.xe) (hc:X.calm = true) (hi:PI3 X tg iter wi) (hg:PG3 X tg g) (hb:PSs3 X body tb)
  (hs:∀ x,foldedSetIterable iter X.env x = pure x:=by intro _; rfl):PS3 X (.For tg iter body [] pos) (fo3 wi g tb) :=
 ps_imp (ps_for hp hc hi hg hb hs) fun D σ H zz => ex3 zz fun σ3 H3 D3 sr hr t k => ⟨σ3,H3,_,sr,hr,t,fun ds keep J H3' H' tk' hr' ok q => by
  (refine Classical.byContradiction fun k_ => ?_; obtain ⟨P,p0,pk,pstep,pd⟩:=q; refine k_ ?_; clear k_)
  refine ⟨fun i m σ1 H1 => m = ds.length - i∧i≤ds.length∧∃ σ31 H31,TK H' H1∧SR X.K H1 σ31 σ1∧HR X.K H31 H1∧P i σ31 H31,⟨ds.length,by simp,Nat.zero_le _,σ3,H3',TK.refl,sr.mono tk',hr',p0⟩,?_⟩
  intro i m σ1 H1 z_
  (refine Classical.byContradiction fun k_ => ?_; obtain ⟨rfl,hi,σ31,H31,tk1,sr1,hr1,p1⟩:=z_; refine k_ ?_; clear k_)
  obtain ⟨go,stop⟩:=ok H31 H1 tk1 hr1 (pk i σ31 H31 hi p1)
  by_cases hlt:i < ds.length
  ·obtain ⟨g1,g2⟩:=go i hlt
   refine .inr ⟨g1,fun σ' H'' => i + 1≤ds.length∧∃ σ3' H3'',TK H' H''∧SR X.K H'' σ3' σ'∧HR X.K H3'' H''∧P (i + 1) σ3' H3'',fun σ' H'' z => ⟨ds.length - (i + 1),by omega,rfl,z.1,z.2⟩,fun x H'' y => ?_⟩
   (refine Classical.byContradiction fun k_ => ?_; obtain ⟨tky,hry,d,ed,rd⟩:=g2 x H'' y; refine k_ ?_; clear k_)
   refine ⟨d,σ31,H31,_,rd,sr1.mono tky,hry,pstep i d σ31 H31 ed p1,fun σ3b σb H3b Hb tkb srb hrb qb => ⟨σ3b,H3b,_,srb,hrb,qb,?_⟩⟩
   have kk:=k.mono (tk'.trans ((tk1.trans tky).trans tkb))
   exact ⟨fun σ3c σc H3c Hc tkc src hrc qc => ⟨hlt,σ3c,H3c,((tk1.trans tky).trans tkb).trans tkc,src,hrc,qc⟩,kk.rt,kk.nx,fun σ3c σc H3c Hc tkc src hrc qc => ⟨hlt,σ3c,H3c,((tk1.trans tky).trans tkb).trans tkc,src,hrc,qc⟩⟩
  ·have e:i = ds.length:=by omega
   subst e
   exact .inl ⟨stop,k.nx _ _ _ _ (tk'.trans tk1) sr1 hr1 (pd σ31 H31 p1)⟩⟩
end
abbrev Sp3:=List D→Hp3→VK3→Prop
def liftF (K:PySem.W.Frag) (sp:Sp3):Sp:=fun vs H Q _ => liftC K sp vs H Q
structure Fn (P:Program) (w:World) (K:PySem.W.Frag) (mg:Str→Option Value) (base:Heap) (k:Nat) (x:Str) (ps:List Str) (sp:Sp3):Prop where
 ex:∃ f fd,FnOk P w K mg base CX0 k f fd ps (liftF K sp)∧mg x = some (.ref f)∧PySem.W.keepIn K (.ref f) = true∧Binds K fd ps []
theorem p3_call {X:Cx} {k:Nat} {x:Str} {ps:List Str} {sp:Sp3} {p pos:Pos} {e:Expr} {es:List Expr} {t:TA3} (F:Fn X.prog X.w X.K X.mg X.base k x ps sp) (hr:Room k X.A) (ha:PA3 X (e::es) t)
  (hg:Gl X x:=by rfl) (hdb:(x == ("__debug__" : Str)) = false:=by decide) (he:starEach (e::es) X.env = (false,eval e X.env)::starEach es X.env:=by rfl) (hpl:(backTo pos (starEach es X.env)).any (·.1) = false:=by rfl) :
  PE3 X (.Call (.Name x p) (e::es) [] pos) (cb3 sp t):=by
 (refine Classical.byContradiction fun k_ => ?_; obtain ⟨f,fd,F,hm,hk,hb⟩:=F.ex; refine k_ ?_; clear k_)
 refine pe_imp (pe_call (E:=E0) F hr hg hm hk hb .nil pass0 ha hdb he hpl) fun _ _ _ h => ?_
 (refine Classical.byContradiction fun k_ => ?_; obtain ⟨σ3,H3,Q3,sr,hr,t,k⟩:=h; refine k_ ?_; clear k_)
 exact ⟨σ3,H3,_,sr,hr,t,fun ds vs H3a Ha tka hra rs qa => ⟨ds,H3a,Q3,hra,by rw [List.append_nil]; exact rs,qa,k.mono tka⟩⟩
def start3 (N:List Str) (ds:List D):St3:=ds.map some++List.replicate (N.length - ds.length) none
theorem sr_start {K:PySem.W.Frag} {H:Hp} {N:List Str} {ds:List D} {vs:List V} (r:RepL K H ds vs):SR K H (start3 N ds) (L2.start N vs):=by
 have hl:=r.length
 refine ⟨by simp [start3,L2.start,hl],fun i d h => ?_⟩
 unfold start3 at h
 by_cases hi:i < ds.length
 ·rw [List.getElem?_append_left (by simpa using hi),List.getElem?_map] at h
  cases e:ds[i]? with
  | none => rw [e] at h; cases h
  | some d' =>
   rw [e] at h
   cases h
   (refine Classical.byContradiction fun k_ => ?_; obtain ⟨v,hv,rv⟩:=r.get e; refine k_ ?_; clear k_)
   refine ⟨v,?_,rv⟩
   unfold L2.start
   rw [List.getElem?_append_left (by rw [List.length_map,← hl]; exact hi),List.getElem?_map,hv]
   rfl
 ·rw [List.getElem?_append_right (by simpa using hi),List.getElem?_replicate] at h
  split at h <;> cases h
def fin3 (Q:VK3):Ends3:={ nx:=fun _ H' => ∃ H'',Sub3 H'' H'∧Q .non H'',rt:=fun d H' => ∃ H'',Sub3 H'' H'∧Q d H'' }
theorem fnok3 {P:Program} {w:World} {K:PySem.W.Frag} {mg:Str→Option Value} {base:Heap} {x qual:Str} {st:Stmt} {f:Addr} {fd:FuncData} {N ps:List Str} {k:Nat} {sp:Sp3} (F:Fun K x qual st f fd) (S:FnScope N ps (defScope st))
  (len:∀ ds H Q,sp ds H Q→ds.length = ps.length)
  (hbody:∀ (cdv:Value) (A:Around) (outer:List Env) (s:Shared) (H:Hp) (E:XK),Room k (A.deeper (envOfC qual (defScope st) s.heap.objs.size f cdv)) →
   ∃ t,PSs3 (cxOf CX0 P w K mg base N qual (defScope st) f cdv A outer s H E).nox (defBody st) t∧∀ ds H3 Q3,sp ds H3 Q3→t (fin3 Q3) (start3 N ds) H3):FnOk P w K mg base CX0 (k + 1) f fd ps (liftF K sp):=by
 refine F.ok S (fun vs H Q E h => ?_) (fun cdv A outer s H vs Q E hr h => ?_)
 ·(refine Classical.byContradiction fun k_ => ?_; obtain ⟨ds,H3,Q3,_,rs,q,_⟩:=h; refine k_ ?_; clear k_)
  rw [← rs.length]
  exact len ds H3 Q3 q
 ·(refine Classical.byContradiction fun k_ => ?_; obtain ⟨ds,H3,Q3,hr3,rs,q,k⟩:=h; refine k_ ?_; clear k_)
  (refine Classical.byContradiction fun k_ => ?_; obtain ⟨t,ht,hq⟩:=hbody cdv A outer s H E hr; refine k_ ?_; clear k_)
  refine ⟨_,ht,start3 N ds,H3,_,sr_start rs,hr3,hq ds H3 Q3 q,⟨fun σ3 σ H3' H' tk sr hr' z => ?_,fun d v H3' H' tk hr' rd z => ?_,fun _ _ _ _ _ _ _ z => z.elim,fun _ _ _ _ _ _ _ z => z.elim⟩⟩
  ·(refine Classical.byContradiction fun k_ => ?_; obtain ⟨H'',sub,q'⟩:=z; refine k_ ?_; clear k_)
   exact k _ _ _ _ tk (hr'.sub sub) .non q'
  ·(refine Classical.byContradiction fun k_ => ?_; obtain ⟨H'',sub,q'⟩:=z; refine k_ ?_; clear k_)
   exact k _ _ _ _ tk (hr'.sub sub) rd q'
theorem fn3 {P:Program} {w:World} {K:PySem.W.Frag} {mg:Str→Option Value} {base:Heap} {x qual:Str} {st:Stmt} {f:Addr} {fd:FuncData} {N ps:List Str} {k:Nat} {sp:Sp3} (F:Fun K x qual st f fd) (S:FnScope N ps (defScope st))
  (hm:mg x = some (.ref f)) (hb:Binds K fd ps []) (len:∀ ds H Q,sp ds H Q→ds.length = ps.length)
  (hbody:∀ (cdv:Value) (A:Around) (outer:List Env) (s:Shared) (H:Hp) (E:XK),Room k (A.deeper (envOfC qual (defScope st) s.heap.objs.size f cdv)) →
   ∃ t,PSs3 (cxOf CX0 P w K mg base N qual (defScope st) f cdv A outer s H E).nox (defBody st) t∧∀ ds H3 Q3,sp ds H3 Q3→t (fin3 Q3) (start3 N ds) H3):Fn P w K mg base (k + 1) x ps sp :=
 ⟨f,fd,fnok3 F S len hbody,hm,F.kp,hb⟩
end L3
namespace L3
open PySem PySem.Spec PyProof.Rows L2
def mapO {α β:Type} (f:α→Option β):List α→Option (List β)
 | [] => some []
 | d::ds => match f d with
  | none => none
  | some p => match mapO f ds with
   | none => none
   | some ps => some (p::ps)
def pyN:Nat→D→Option PyData
 | 0,d => match d with
  | .non => some .none
  | .bl b => some (.bool b)
  | .int i => some (.int i)
  | .str x => if PyData.strOk x = true then some (.str x) else none
  | _ => none
 | n + 1,d => match d with
  | .non => some .none
  | .bl b => some (.bool b)
  | .int i => some (.int i)
  | .str x => if PyData.strOk x = true then some (.str x) else none
  | .tup ds => (mapO (pyN n) ds).map .tuple
  | .ktup ds => (mapO (pyN n) ds).map .tuple
  | _ => none
def pyH (H:Hp3) (d:D):Option PyData:=match d with
 | .ref a => (match H a with
  | some (.lst ds) => (mapO (pyN 4) ds).map .list
  | _ => none)
 | .fl ds => (mapO (pyN 4) ds).map .list
 | d => pyN 5 d
section
variable {X:Cx} {pins:List (Addr×Obj)} {σ:St} {H:Hp} {s:Shared}
theorem mapO_cons {f:D→Option PyData} {d:D} {ds:List D} {ps:List PyData} (h:mapO f (d::ds) = some ps):∃ p ps',f d = some p∧mapO f ds = some ps'∧ps = p::ps':=by
 unfold mapO at h
 cases e1:f d with
 | none => rw [e1] at h; cases h
 | some p =>
  rw [e1] at h
  cases e2:mapO f ds with
  | none => rw [e2] at h; cases h
  | some ps' => rw [e2] at h; cases h; exact ⟨p,ps',rfl,rfl,rfl⟩
theorem vals_reads {f:D→Option PyData} {n:Nat} (hf:∀ {d:D} {v:V} {u:Value} {p:PyData},Rep X.K H d v→RelV v u→f d = some p→(∃ as,Reads s.heap u p as)∧p.canLay0 = true∧p.depth≤n) :
  ∀ {ds:List D} {vs:List V} {us:List Value} {ps:List PyData},RepL X.K H ds vs→Vals vs us→mapO f ds = some ps→(∃ as,ReadsAll s.heap us ps as)∧PyData.canLayAll0 ps = true∧PyData.depthAll ps≤n:=by
 intro ds vs us ps hr hv h
 induction hv generalizing ds ps with
 | nil =>
  cases hr
  cases h
  exact ⟨⟨[],.nil⟩,rfl,Nat.zero_le _⟩
 | cons q qs ih =>
  cases hr with
  | cons r rs =>
   (refine Classical.byContradiction fun k_ => ?_; obtain ⟨p,ps',e1,e2,rfl⟩:=mapO_cons h; refine k_ ?_; clear k_)
   (refine Classical.byContradiction fun k_ => ?_; obtain ⟨⟨as,h1⟩,h2,h3⟩:=hf r q e1; refine k_ ?_; clear k_)
   (refine Classical.byContradiction fun k_ => ?_; obtain ⟨⟨bs,g1⟩,g2,g3⟩:=ih rs e2; refine k_ ?_; clear k_)
   exact ⟨⟨_,.cons h1 g1⟩,by rw [PyData.canLayAll0,h2,g2]; rfl,Nat.max_le.mpr ⟨h3,g3⟩⟩
theorem rep_reads (I:Inv X pins σ H s):∀ (n:Nat) {d:D} {v:V} {u:Value} {p:PyData},Rep X.K H d v→RelV v u→pyN n d = some p→(∃ as,Reads s.heap u p as)∧p.canLay0 = true∧p.depth≤n:=by
 intro n
 induction n with
 | zero =>
  intro d v u p r q h
  cases r with
  | non => cases h; cases q; exact ⟨⟨_,.none⟩,rfl,Nat.zero_le _⟩
  | bl b => cases h; cases q; exact ⟨⟨_,.bool b⟩,rfl,Nat.zero_le _⟩
  | int i => cases h; obtain ⟨t,rfl⟩:=q; exact ⟨⟨_,.int i t⟩,rfl,Nat.zero_le _⟩
  | str x =>
   replace h:(if PyData.strOk _ = true then some (PyData.str _) else none) = some p:=h
   split at h
   ·rename_i hx
    cases h; obtain ⟨t,rfl⟩:=q; exact ⟨⟨_,.str x t⟩,hx,Nat.zero_le _⟩
   ·cases h
  | _ => cases h
 | succ n ih =>
  intro d v u p r q h
  cases r with
  | non => cases h; cases q; exact ⟨⟨_,.none⟩,rfl,Nat.zero_le _⟩
  | bl b => cases h; cases q; exact ⟨⟨_,.bool b⟩,rfl,Nat.zero_le _⟩
  | int i => cases h; obtain ⟨t,rfl⟩:=q; exact ⟨⟨_,.int i t⟩,rfl,Nat.zero_le _⟩
  | str x =>
   replace h:(if PyData.strOk _ = true then some (PyData.str _) else none) = some p:=h
   split at h
   ·rename_i hx
    cases h; obtain ⟨t,rfl⟩:=q; exact ⟨⟨_,.str x t⟩,hx,Nat.zero_le _⟩
   ·cases h
  | tup ha ra =>
   replace h:(mapO (pyN n) _).map PyData.tuple = some p:=h
   rw [Option.map_eq_some_iff] at h
   (refine Classical.byContradiction fun k_ => ?_; obtain ⟨ps,h1,rfl⟩:=h; refine k_ ?_; clear k_)
   cases q
   (refine Classical.byContradiction fun k_ => ?_; obtain ⟨its,rv,⟨o,ho,hc,m,hd⟩,_⟩:=I.tuple (SqT.of ha); refine k_ ?_; clear k_)
   (refine Classical.byContradiction fun k_ => ?_; obtain ⟨⟨as,g1⟩,g2,g3⟩:=vals_reads (f:=pyN n) (n:=n) ih ra rv h1; refine k_ ?_; clear k_)
   exact ⟨⟨_,.tuple ho hc hd (by simpa using g1)⟩,g2,by simp only [PyData.depth]; omega⟩
  | ktup ha ra =>
   replace h:(mapO (pyN n) _).map PyData.tuple = some p:=h
   rw [Option.map_eq_some_iff] at h
   (refine Classical.byContradiction fun k_ => ?_; obtain ⟨ps,h1,rfl⟩:=h; refine k_ ?_; clear k_)
   cases q
   (refine Classical.byContradiction fun k_ => ?_; obtain ⟨its,rv,⟨o,ho,hc,m,hd⟩,_⟩:=I.tuple ha.sq; refine k_ ?_; clear k_)
   (refine Classical.byContradiction fun k_ => ?_; obtain ⟨⟨as,g1⟩,g2,g3⟩:=vals_reads (f:=pyN n) (n:=n) ih ra rv h1; refine k_ ?_; clear k_)
   exact ⟨⟨_,.tuple ho hc hd (by simpa using g1)⟩,g2,by simp only [PyData.depth]; omega⟩
  | _ => cases h
theorem pyH_reads (I:Inv X pins σ H s) {H3:Hp3} (hr:HR X.K H3 H) {d:D} {v:V} {u:Value} {p:PyData} (r:Rep X.K H d v) (q:RelV v u) (h:pyH H3 d = some p):(∃ as,Reads s.heap u p as)∧p.canLay0 = true∧p.depth≤5:=by
 have lst:∀ {a:Addr} {xs:List V} {ds:List D},SqL X.K H a xs→RepL X.K H ds xs→(mapO (pyN 4) ds).map PyData.list = some p→(∃ as,Reads s.heap (.ref a) p as)∧p.canLay0 = true∧p.depth≤5:=fun hq ra h => by
  simp only [Option.map_eq_some_iff] at h
  (refine Classical.byContradiction fun k_ => ?_; obtain ⟨ps,h1,rfl⟩:=h; refine k_ ?_; clear k_)
  (refine Classical.byContradiction fun k_ => ?_; obtain ⟨its,rv,pl,_⟩:=I.list hq; refine k_ ?_; clear k_)
  (refine Classical.byContradiction fun k_ => ?_; obtain ⟨o,ho,hc,m,hd⟩:=pl.isList; refine k_ ?_; clear k_)
  (refine Classical.byContradiction fun k_ => ?_; obtain ⟨⟨as,g1⟩,g2,g3⟩:=vals_reads (f:=pyN 4) (n:=4) (rep_reads I 4) ra rv h1; refine k_ ?_; clear k_)
  exact ⟨⟨_,.list ho hc hd (by simpa using g1)⟩,g2,by simp only [PyData.depth]; omega⟩
 cases r with
 | ref a =>
  (delta pyH at h; dsimp only at h)
  split at h
  ·rename_i ds ha
   (refine Classical.byContradiction fun k_ => ?_; obtain ⟨vs,ga,ra⟩:=hr a _ ha; refine k_ ?_; clear k_)
   cases q
   exact lst (SqL.of ga) ra h
  ·cases h
 | fl ha ra => cases q; exact lst ha.sq ra h
 | non => exact rep_reads I 5 .non q h
 | bl b => exact rep_reads I 5 (.bl b) q h
 | int b => exact rep_reads I 5 (.int b) q h
 | str b => exact rep_reads I 5 (.str b) q h
 | ty b => exact rep_reads I 5 (.ty b) q h
 | tup a b => exact rep_reads I 5 (.tup a b) q h
 | ktup a b => exact rep_reads I 5 (.ktup a b) q h
end
def r3eq:R3:=fun x y H Q => match pyH H x,pyH H y with
 | some p,some q => Q (.bl (PyData.eqv p q)) H
 | _,_ => False
def r3ne:R3:=fun x y H Q => match pyH H x,pyH H y with
 | some p,some q => Q (.bl (!PyData.eqv p q)) H
 | _,_ => False
section
variable {X:Cx}
theorem op3_eq (hu:X.A.units + 64 < cLine):OpR X (compareOp .Eq) (lift2 X.K r3eq):=by
 intro pins s σ H x y v u Q I rx ry h
 (refine Classical.byContradiction fun k_ => ?_; obtain ⟨dx,dy,H3,Q3,hr,rdx,rdy,t,k⟩:=h; refine k_ ?_; clear k_)
 simp only [r3eq] at t
 split at t
 ·rename_i p q e1 e2
  (refine Classical.byContradiction fun k_ => ?_; obtain ⟨⟨as,h1⟩,h2,h3⟩:=pyH_reads I hr rdx rx e1; refine k_ ?_; clear k_)
  (refine Classical.byContradiction fun k_ => ?_; obtain ⟨⟨bs,g1⟩,g2,g3⟩:=pyH_reads I hr rdy ry e2; refine k_ ?_; clear k_)
  exact SeqAt.compareEq_reads h1 g1 h2 g2 (by have:=Nat.min_le_left p.depth q.depth; omega) ⟨.bl _,H,I,rfl,k _ _ _ _ TK.refl hr (.bl _) t⟩
 ·exact t.elim
theorem op3_ne (hu:X.A.units + 64 < cLine):OpR X (compareOp .NotEq) (lift2 X.K r3ne):=by
 intro pins s σ H x y v u Q I rx ry h
 (refine Classical.byContradiction fun k_ => ?_; obtain ⟨dx,dy,H3,Q3,hr,rdx,rdy,t,k⟩:=h; refine k_ ?_; clear k_)
 simp only [r3ne] at t
 split at t
 ·rename_i p q e1 e2
  (refine Classical.byContradiction fun k_ => ?_; obtain ⟨⟨as,h1⟩,h2,h3⟩:=pyH_reads I hr rdx rx e1; refine k_ ?_; clear k_)
  (refine Classical.byContradiction fun k_ => ?_; obtain ⟨⟨bs,g1⟩,g2,g3⟩:=pyH_reads I hr rdy ry e2; refine k_ ?_; clear k_)
  exact SeqAt.compareNe_reads h1 g1 h2 g2 (by have:=Nat.min_le_left p.depth q.depth; omega) ⟨.bl _,H,I,rfl,k _ _ _ _ TK.refl hr (.bl _) t⟩
 ·exact t.elim
def seqH (H:Hp3) (d:D):Option (List D):=match d with
 | .ref a => (match H a with
  | some (.lst ds) => some ds
  | _ => none)
 | .fl ds => some ds
 | .tup ds => some ds
 | _ => none
def r3in (neg:Bool):R3:=fun x y H Q => match pyN 4 x,(seqH H y).bind (mapO (pyN 4)) with
 | some p,some ps => Q (.bl (if neg then !ps.any (fun q => PyData.eqv q p) else ps.any fun q => PyData.eqv q p)) H
 | _,_ => False
open Classical in
def inE (h:Heap) (p:PyData) (u:Value):Bool:=decide (∃ q as,Reads h u q as∧q.canLay0 = true∧PyData.eqv q p = true)
open Classical in
theorem inE_eq {h:Heap} {p q:PyData} {u:Value} {as:List Addr} (r:Reads h u q as) (c:q.canLay0 = true):inE h p u = PyData.eqv q p:=by
 unfold inE
 cases e:PyData.eqv q p with
 | true => exact decide_eq_true ⟨q,as,r,c,e⟩
 | false =>
  refine decide_eq_false fun z => ?_
  (refine Classical.byContradiction fun k_ => ?_; obtain ⟨q',as',r',c',e'⟩:=z; refine k_ ?_; clear k_)
  have z:=SeqAt.Reads.unique q q' u as as' c r r'
  subst z
  rw [e] at e'
  cases e'
theorem in_items {pins:List (Addr×Obj)} {σ:St} {H:Hp} {s:Shared} (I:Inv X pins σ H s) (p:PyData) :
  ∀ {ds:List D} {vs:List V} {us:List Value} {ps:List PyData},RepL X.K H ds vs→Vals vs us→mapO (pyN 4) ds = some ps →
   us.any (inE s.heap p) = ps.any (fun q => PyData.eqv q p)∧∀ u∈us,∃ q as,Reads s.heap u q as∧q.canLay0 = true∧q.depth≤4:=by
 intro ds vs us ps hr hv h
 induction hv generalizing ds ps with
 | nil =>
  cases hr
  cases h
  exact ⟨rfl,fun _ z => nomatch z⟩
 | cons q qs ih =>
  cases hr with
  | cons r rs =>
   (refine Classical.byContradiction fun k_ => ?_; obtain ⟨p',ps',e1,e2,rfl⟩:=mapO_cons h; refine k_ ?_; clear k_)
   (refine Classical.byContradiction fun k_ => ?_; obtain ⟨⟨as,h1⟩,h2,h3⟩:=rep_reads I 4 r q e1; refine k_ ?_; clear k_)
   obtain ⟨g1,g2⟩:=ih rs e2
   refine ⟨by rw [List.any_cons,List.any_cons,inE_eq h1 h2,g1],fun u hu => ?_⟩
   rcases List.mem_cons.mp hu with e | hu
   ·rw [e]; exact ⟨_,_,h1,h2,h3⟩
   ·exact g2 u hu
theorem in_at {A:Around} {pins:List (Addr×Obj)} {σ:St} {H:Hp} {s:Shared} (I:Inv X pins σ H s) (hu:A.units + 8 < cLine) {x:D} {vx:V} {ux:Value} {p:PyData} (rx:Rep X.K H x vx) (qx:RelV vx ux) (ex:pyN 4 x = some p)
  {us:List Value} (h:∀ u∈us,∃ q as,Reads s.heap u q as∧q.canLay0 = true∧q.depth≤4):∀ u,u∈us.toArray→SeqAt.EqAt A s u ux (inE s.heap p u):=fun u hm => by
 (refine Classical.byContradiction fun k_ => ?_; obtain ⟨q,as,h1,h2,h3⟩:=h u (by simpa using hm); refine k_ ?_; clear k_)
 (refine Classical.byContradiction fun k_ => ?_; obtain ⟨⟨bs,g1⟩,g2,g3⟩:=rep_reads I 4 rx qx ex; refine k_ ?_; clear k_)
 rw [inE_eq h1 h2]
 exact SeqAt.eqAt_reads _ _ A s _ _ _ _ h1 g1 h2 g2 (by have:=Nat.min_le_left q.depth p.depth; omega)
theorem in1_units {A:Around} (h:A.units + 64 < cLine):A.in1.units + 8 < cLine:=by
 have e:A.in1.units = A.units + 1:=rfl
 omega
theorem op3_in (hu:X.A.units + 64 < cLine):OpR X (compareOp .In) (lift2 X.K (r3in false)):=by
 intro pins s σ H x y v u Q I rx ry h
 (refine Classical.byContradiction fun k_ => ?_; obtain ⟨dx,dy,H3,Q3,hr,rdx,rdy,t,k⟩:=h; refine k_ ?_; clear k_)
 simp only [r3in] at t
 split at t
 ·rename_i p ps e1 e2
  simp only [Option.bind_eq_some_iff] at e2
  (refine Classical.byContradiction fun k_ => ?_; obtain ⟨ds,e2,e3⟩:=e2; refine k_ ?_; clear k_)
  have fin:=k _ _ _ _ TK.refl hr (.bl _) t
  cases rdy with
  | ref a =>
   (delta seqH at e2; dsimp only at e2)
   split at e2
   ·rename_i ds' ha
    cases e2
    (refine Classical.byContradiction fun k_ => ?_; obtain ⟨vs,ga,ra⟩:=hr a _ ha; refine k_ ?_; clear k_)
    cases ry
    (refine Classical.byContradiction fun k_ => ?_; obtain ⟨its,rv,pl,_⟩:=I.list (SqL.of ga); refine k_ ?_; clear k_)
    obtain ⟨g1,g2⟩:=in_items I p ra rv e3
    refine SeqAt.in_listAt (inE s.heap p) pl.isList (in_at I (in1_units hu) rdx rx e1 g2) ⟨.bl _,H,I,rfl,?_⟩
    rw [show its.toArray.any (inE s.heap p) = its.any (inE s.heap p) by simp,g1]
    exact fin
   ·cases e2
  | fl ha ra =>
   cases e2
   cases ry
   (refine Classical.byContradiction fun k_ => ?_; obtain ⟨its,rv,pl,_⟩:=I.list ha.sq; refine k_ ?_; clear k_)
   obtain ⟨g1,g2⟩:=in_items I p ra rv e3
   refine SeqAt.in_listAt (inE s.heap p) pl.isList (in_at I (in1_units hu) rdx rx e1 g2) ⟨.bl _,H,I,rfl,?_⟩
   rw [show its.toArray.any (inE s.heap p) = its.any (inE s.heap p) by simp,g1]
   exact fin
  | tup ha ra =>
   cases e2
   cases ry
   (refine Classical.byContradiction fun k_ => ?_; obtain ⟨its,rv,pl,_⟩:=I.tuple (SqT.of ha); refine k_ ?_; clear k_)
   obtain ⟨g1,g2⟩:=in_items I p ra rv e3
   refine SeqAt.in_tupleAt (inE s.heap p) pl (in_at I (in1_units hu) rdx rx e1 g2) ⟨.bl _,H,I,rfl,?_⟩
   rw [show its.toArray.any (inE s.heap p) = its.any (inE s.heap p) by simp,g1]
   exact fin
  | _ => cases e2
 ·exact t.elim
theorem op3_notIn (hu:X.A.units + 64 < cLine):OpR X (compareOp .NotIn) (lift2 X.K (r3in true)):=by
 intro pins s σ H x y v u Q I rx ry h
 (refine Classical.byContradiction fun k_ => ?_; obtain ⟨dx,dy,H3,Q3,hr,rdx,rdy,t,k⟩:=h; refine k_ ?_; clear k_)
 simp only [r3in] at t
 split at t
 ·rename_i p ps e1 e2
  simp only [Option.bind_eq_some_iff] at e2
  (refine Classical.byContradiction fun k_ => ?_; obtain ⟨ds,e2,e3⟩:=e2; refine k_ ?_; clear k_)
  have fin:=k _ _ _ _ TK.refl hr (.bl _) t
  cases rdy with
  | ref a =>
   (delta seqH at e2; dsimp only at e2)
   split at e2
   ·rename_i ds' ha
    cases e2
    (refine Classical.byContradiction fun k_ => ?_; obtain ⟨vs,ga,ra⟩:=hr a _ ha; refine k_ ?_; clear k_)
    cases ry
    (refine Classical.byContradiction fun k_ => ?_; obtain ⟨its,rv,pl,_⟩:=I.list (SqL.of ga); refine k_ ?_; clear k_)
    obtain ⟨g1,g2⟩:=in_items I p ra rv e3
    refine SeqAt.notIn_listAt (inE s.heap p) pl.isList (in_at I (in1_units hu) rdx rx e1 g2) ⟨.bl _,H,I,rfl,?_⟩
    rw [show its.toArray.any (inE s.heap p) = its.any (inE s.heap p) by simp,g1]
    exact fin
   ·cases e2
  | fl ha ra =>
   cases e2
   cases ry
   (refine Classical.byContradiction fun k_ => ?_; obtain ⟨its,rv,pl,_⟩:=I.list ha.sq; refine k_ ?_; clear k_)
   obtain ⟨g1,g2⟩:=in_items I p ra rv e3
   refine SeqAt.notIn_listAt (inE s.heap p) pl.isList (in_at I (in1_units hu) rdx rx e1 g2) ⟨.bl _,H,I,rfl,?_⟩
   rw [show its.toArray.any (inE s.heap p) = its.any (inE s.heap p) by simp,g1]
   exact fin
  | tup ha ra =>
   cases e2
   cases ry
   (refine Classical.byContradiction fun k_ => ?_; obtain ⟨its,rv,pl,_⟩:=I.tuple (SqT.of ha); refine k_ ?_; clear k_)
   obtain ⟨g1,g2⟩:=in_items I p ra rv e3
   refine SeqAt.notIn_tupleAt (inE s.heap p) pl (in_at I (in1_units hu) rdx rx e1 g2) ⟨.bl _,H,I,rfl,?_⟩
   rw [show its.toArray.any (inE s.heap p) = its.any (inE s.heap p) by simp,g1]
   exact fin
  | _ => cases e2
 ·exact t.elim
def tyH (H:Hp3) (d:D):Option String:=match d with
 | .non => some "NoneType"
 | .bl _ => some "bool"
 | .int _ => some "int"
 | .str _ => some "str"
 | .tup _ => some "tuple"
 | .fl _ => some "list"
 | .ref a => (match H a with
  | some (.lst _) => some "list"
  | some (.dic _) => some "dict"
  | _ => none)
 | .ty _ => none
 | .ktup _ => some "tuple"
def isT (U T:String):Bool:=U == T || (U == "bool" && T == "int")
def kinds:List String:=["int", "bool", "str", "tuple", "list", "dict"]
def r3isi:List D→Hp3→VK3→Prop:=fun ds H Q => match ds with
 | [x,.ty T] => (match tyH H x with
  | some U => T∈kinds∧Q (.bl (isT U T)) H
  | none => False)
 | _ => False
theorem kit_ok (K:PySem.W.Frag) (U T:String) (hU:U ∈ "NoneType"::kinds) (hT:T∈kinds):PySem.W.kitOne K (.type U) (.type T) = some (isT U T):=by
 simp only [kinds,List.mem_cons,List.not_mem_nil,or_false] at hU hT
 rcases hU with rfl | rfl | rfl | rfl | rfl | rfl | rfl <;> rcases hT with rfl | rfl | rfl | rfl | rfl | rfl <;> kernel_rfl
theorem r3isi_inv {ds:List D} {H:Hp3} {Q:VK3} (t:r3isi ds H Q):∃ x T U,ds = [x,.ty T]∧tyH H x = some U∧T∈kinds∧Q (.bl (isT U T)) H:=by
 unfold r3isi at t
 split at t
 ·split at t
  ·exact ⟨_,_,_,rfl,by assumption,t⟩
  ·exact t.elim
 ·exact t.elim
theorem cb3_isi:CallR X (.builtin "isinstance") (liftC X.K r3isi):=by
 intro pins s σ H xs us Q I rs h
 (refine Classical.byContradiction fun k_ => ?_; obtain ⟨ds,H3,Q3,hr,rd,t,k⟩:=h; refine k_ ?_; clear k_)
 (refine Classical.byContradiction fun k_ => ?_; obtain ⟨x,T,U,rfl,eU,hT,t⟩:=r3isi_inv t; refine k_ ?_; clear k_)
 cases rd with | cons r1 r2 => cases r2 with | cons r2 r3 => cases r3 with | nil => cases r2 with | ty _ =>
 (refine Classical.byContradiction fun k_ => ?_; obtain ⟨u,w,rfl,ru,rw'⟩:=vals2 rs; refine k_ ?_; clear k_)
 obtain rfl:w = Value.type T:=rw'
 have fin:∀ tk,EP X pins σ Q (.bool (isT U T)) { s with toks:=tk }:=fun tk => ⟨.bl _,H,I.tok tk,rfl,k _ _ _ _ TK.refl hr (.bl _) t⟩
 have e:∀ (hU:U ∈ "NoneType"::kinds),PySem.W.kitOne X.K (.type U) (.type T) = some (isT U T):=fun hU => kit_ok X.K U T hU hT
 cases r1 with
 | non => cases eU; exact isinst_ok I ru (.non) (e (.head _)) fin
 | bl b => cases eU; exact isinst_ok I ru (.bl b) (e (.tail _ (.tail _ (.head _)))) fin
 | int b => cases eU; exact isinst_ok I ru (.int b) (e (.tail _ (.head _))) fin
 | str b => cases eU; exact isinst_ok I ru (.str b) (e (.tail _ (.tail _ (.tail _ (.head _))))) fin
 | ty b => cases eU
 | tup ha ra =>
  cases eU
  cases ru
  (refine Classical.byContradiction fun k_ => ?_; obtain ⟨its,_,⟨o,h1,h2,_⟩,_⟩:=I.tuple (SqT.of ha); refine k_ ?_; clear k_)
  exact PySem.W.kia_one PySem.W.kitx_tuple I.kIn ⟨o,h1,h2⟩ (e (.tail _ (.tail _ (.tail _ (.tail _ (.head _)))))) (fun z => nomatch z) fin
 | ktup ha ra =>
  cases eU
  cases ru
  (refine Classical.byContradiction fun k_ => ?_; obtain ⟨its,_,⟨o,h1,h2,_⟩,_⟩:=I.tuple ha.sq; refine k_ ?_; clear k_)
  exact PySem.W.kia_one PySem.W.kitx_tuple I.kIn ⟨o,h1,h2⟩ (e (.tail _ (.tail _ (.tail _ (.tail _ (.head _)))))) (fun z => nomatch z) fin
 | fl ha ra =>
  cases eU
  cases ru
  (refine Classical.byContradiction fun k_ => ?_; obtain ⟨its,_,pl,_⟩:=I.list ha.sq; refine k_ ?_; clear k_)
  (refine Classical.byContradiction fun k_ => ?_; obtain ⟨o,h1,h2,_⟩:=pl.isList; refine k_ ?_; clear k_)
  exact PySem.W.kia_one PySem.W.kitx_list I.kIn ⟨o,h1,h2⟩ (e (.tail _ (.tail _ (.tail _ (.tail _ (.tail _ (.head _))))))) (fun z => nomatch z) fin
 | ref a =>
  (delta tyH at eU; dsimp only at eU)
  split at eU
  ·rename_i ds ha
   cases eU
   (refine Classical.byContradiction fun k_ => ?_; obtain ⟨vs,ga,ra⟩:=hr a _ ha; refine k_ ?_; clear k_)
   exact isinst_ok I ru (.lst ga) (e (.tail _ (.tail _ (.tail _ (.tail _ (.tail _ (.head _))))))) fin
  ·rename_i ds ha
   cases eU
   (refine Classical.byContradiction fun k_ => ?_; obtain ⟨vs,ga,ra⟩:=hr a _ ha; refine k_ ?_; clear k_)
   exact isinst_ok I ru (.dT ga) (e (.tail _ (.tail _ (.tail _ (.tail _ (.tail _ (.tail _ (.head _)))))))) fin
  all_goals cases eU
def m3 (r:D→List D→Hp3→VK3→Prop) (to:TE3) (t:TA3):TE3:=fun σ H Q => to σ H fun x H1 => (match x with
 | .ref a => (match H1 a with
  | some (.lst _) => t σ H1 fun xs H2 => r x xs H2 Q
  | _ => False)
 | _ => False)
theorem p3_bm {o e:Expr} {es:List Expr} {to:TE3} {t:TA3} {name:Str} {apos cpos:Pos} {id:String} {r:D→List D→Hp3→VK3→Prop} (slot:Slot "list" name id) (hty:typeOf (.builtin id) = pure (.type "method_descriptor")) (hm:MtR X id (liftM X.K r)) (ho:PE3 X o to) (ha:PA3 X (e::es) t)
  (hbase:attributeBase o name X.env (eval o X.env) = eval o X.env:=by rfl)
  (hfew:((backTo cpos (starEach (e::es) X.env)).all (fun x => !x.1) && (backToKw cpos (keywordEach [] X.env)).all (fun x => x.1.isSome)
   && decide ((e::es).length + ([]:List Keyword).length + (if ([]:List Keyword).isEmpty then 0 else 1) < 30)) = true:=by rfl)
  (hline:(apos.endLine == cpos.line) = true:=by rfl) (hs:starEach (e::es) X.env = (false,eval e X.env)::starEach es X.env:=by rfl) (hplain:(backTo cpos (starEach es X.env)).any (·.1) = false:=by rfl) :
  PE3 X (.Call (.Attribute o name apos) (e::es) [] cpos) (m3 r to t) :=
 pe_imp (pe_bm PySem.F.plainAttrs_list slot hty hm ho ha hbase hfew hline hs hplain) fun _ _ _ zz => ex3 zz fun σ3 H3 Q3 sr hr t k => ⟨σ3,H3,_,sr,hr,t,fun x v H3a Ha tka hra rx qa => by
  cases rx with
  | ref a =>
   simp only [] at qa
   split at qa
   ·rename_i ds ha
    (refine Classical.byContradiction fun k_ => ?_; obtain ⟨vs,ga,ra⟩:=hra a _ ha; refine k_ ?_; clear k_)
    exact ⟨.inl ⟨rfl,vs,SqL.of ga⟩,σ3,H3a,_,sr.mono tka,hra,qa,fun ds us H3b Hb tkb hrb rs qb => ⟨.ref a,ds,H3b,Q3,hrb,.ref a,rs,qb,k.mono (tka.trans tkb)⟩⟩
   ·exact qa.elim
  | _ => exact qa.elim⟩
theorem p3_bm0 {o:Expr} {to:TE3} {name:Str} {apos cpos:Pos} {id:String} {r:D→List D→Hp3→VK3→Prop} (slot:Slot "list" name id) (hty:typeOf (.builtin id) = pure (.type "method_descriptor")) (hm:MtR X id (liftM X.K r)) (ho:PE3 X o to)
  (hbase:attributeBase o name X.env (eval o X.env) = eval o X.env:=by rfl) (hline:(apos.endLine == cpos.line) = true:=by rfl) :
  PE3 X (.Call (.Attribute o name apos) [] [] cpos) (m3 r to nil3) :=
 pe_imp (pe_bm0 PySem.F.plainAttrs_list slot hty hm ho hbase hline) fun _ _ _ zz => ex3 zz fun σ3 H3 Q3 sr hr t k => ⟨σ3,H3,_,sr,hr,t,fun x v H3a Ha tka hra rx qa => by
  cases rx with
  | ref a =>
   simp only [] at qa
   split at qa
   ·rename_i ds ha
    (refine Classical.byContradiction fun k_ => ?_; obtain ⟨vs,ga,ra⟩:=hra a _ ha; refine k_ ?_; clear k_)
    exact ⟨.inl ⟨rfl,vs,SqL.of ga⟩,.ref a,[],H3a,Q3,hra,.ref a,.nil,qa,k.mono tka⟩
   ·exact qa.elim
  | _ => exact qa.elim⟩
def r3app:D→List D→Hp3→VK3→Prop:=fun x xs H Q => match x,xs with
 | .ref a,[y] => (match H a with
  | some (.lst ds) => ds.length < sizeLine∧Q .non (upd3 H a (.lst (ds++[y])))
  | _ => False)
 | _,_ => False
theorem mt3_app:MtR X "list.append" (liftM X.K r3app):=by
 intro pins s σ H x xs v us Q I rx rs h
 (refine Classical.byContradiction fun k_ => ?_; obtain ⟨d,ds,H3,Q3,hr,rd,rds,t,k⟩:=h; refine k_ ?_; clear k_)
 cases rd with
 | ref a =>
  cases rds with
  | nil => exact t.elim
  | cons r1 r2 =>
   cases r2 with
   | cons _ _ => exact t.elim
   | nil =>
    (delta r3app at t; dsimp only at t)
    split at t
    ·rename_i ds ha
     (refine Classical.byContradiction fun k_ => ?_; obtain ⟨vs,ga,ra⟩:=hr a _ ha; refine k_ ?_; clear k_)
     exact mt_append pins s σ H _ _ v us Q I rx rs ⟨a,vs,_,rfl,rfl,ga,by rw [← ra.length]; exact t.1,k _ _ _ _ (TK.lst ga) (hr.setL (TK.lst ga) ((ra.snoc r1).mono (TK.lst ga))) .non t.2⟩
    ·exact t.elim
 | _ => exact t.elim
def r3ext:D→List D→Hp3→VK3→Prop:=fun x xs H Q => match x,xs with
 | .ref a,[.ref b] => (match H a,H b with
  | some (.lst ds),some (.lst es) => ds.length + es.length≤sizeLine∧Q .non (upd3 H a (.lst (ds++es)))
  | _,_ => False)
 | _,_ => False
theorem mt3_ext:MtR X "list.extend" (liftM X.K r3ext):=by
 intro pins s σ H x xs v us Q I rx rs h
 (refine Classical.byContradiction fun k_ => ?_; obtain ⟨d,ds,H3,Q3,hr,rd,rds,t,k⟩:=h; refine k_ ?_; clear k_)
 cases rd with
 | ref a =>
  cases rds with
  | nil => exact t.elim
  | cons r1 r2 =>
   cases r2 with
   | cons _ _ => cases r1 <;> exact t.elim
   | nil =>
    cases r1 with
    | ref b =>
     (delta r3ext at t; dsimp only at t)
     split at t
     ·rename_i ds es ha hb
      (refine Classical.byContradiction fun k_ => ?_; obtain ⟨vs,ga,ra⟩:=hr a _ ha; refine k_ ?_; clear k_)
      (refine Classical.byContradiction fun k_ => ?_; obtain ⟨ws,gb,rb⟩:=hr b _ hb; refine k_ ?_; clear k_)
      exact mt_extend pins s σ H _ _ v us Q I rx rs ⟨a,b,vs,ws,rfl,rfl,ga,gb,by rw [← ra.length,← rb.length]; exact t.1,k _ _ _ _ (TK.lst ga) (hr.setL (TK.lst ga) ((ra.append rb).mono (TK.lst ga))) .non t.2⟩
     ·exact t.elim
    | _ => exact t.elim
 | _ => exact t.elim
def r3pop:D→List D→Hp3→VK3→Prop:=fun x xs H Q => match x,xs with
 | .ref a,[] => (match H a with
  | some (.lst ds) => (match ds[ds.length - 1]? with | some y => Q y (upd3 H a (.lst ds.dropLast)) | none => False)
  | _ => False)
 | _,_ => False
theorem mt3_pop:MtR X "list.pop" (liftM X.K r3pop):=by
 intro pins s σ H x xs v us Q I rx rs h
 (refine Classical.byContradiction fun k_ => ?_; obtain ⟨d,ds,H3,Q3,hr,rd,rds,t,k⟩:=h; refine k_ ?_; clear k_)
 cases rd with
 | ref a =>
  cases rds with
  | cons _ _ => exact t.elim
  | nil =>
   (delta r3pop at t; dsimp only at t)
   split at t
   ·rename_i ds ha
    split at t
    ·rename_i y ey
     (refine Classical.byContradiction fun k_ => ?_; obtain ⟨vs,ga,ra⟩:=hr a _ ha; refine k_ ?_; clear k_)
     (refine Classical.byContradiction fun k_ => ?_; obtain ⟨w,ew,rw'⟩:=ra.get ey; refine k_ ?_; clear k_)
     exact mt_pop pins s σ H _ _ v us Q I rx rs ⟨a,vs,w,rfl,rfl,ga,by rw [← ra.length]; exact ew,k _ _ _ _ (TK.lst ga) (hr.setL (TK.lst ga) (ra.dropLast.mono (TK.lst ga))) (rw'.mono (TK.lst ga)) t⟩
    ·exact t.elim
   ·exact t.elim
 | _ => exact t.elim
end
end L3
namespace L3
open PySem PySem.Spec PyProof.Rows L2
theorem closure_ok {scope:Scope} {env:Env} (h:∀ y,(y,NameKind.free)∈scope.names→∃ c,env.cells.lookup y = some c) :
  ∃ cl,closureFor scope env = pure cl∧(∀ y c,cl.lookup y = some c→env.cells.lookup y = some c)∧∀ y,(y,NameKind.free)∈scope.names→∃ c,cl.lookup y = some c:=by
 have go:∀ (names:List (Str×NameKind)) (cs:List (Str×Addr)),(∀ y,(y,NameKind.free)∈names→∃ c,env.cells.lookup y = some c)→(∀ y c,cs.lookup y = some c→env.cells.lookup y = some c) →
   ∃ cl,(forIn (m:=Sem) names cs fun (x:Str×NameKind) r => match x with
    | (name,kind) => if (kind == NameKind.free) = true then do let c ← cellOf env name; pure (ForInStep.yield ((name,c)::r)) else pure (ForInStep.yield r)) = pure cl ∧
    (∀ y c,cl.lookup y = some c→env.cells.lookup y = some c)∧(∀ y,(y,NameKind.free)∈names→∃ c,cl.lookup y = some c)∧∀ y c,cs.lookup y = some c→∃ c',cl.lookup y = some c':=by
  intro names
  induction names with
  | nil => intro cs _ h2; exact ⟨cs,rfl,h2,(fun _ z => nomatch z),fun y c e => ⟨c,e⟩⟩
  | cons x r ih =>
   intro cs h1 h2
   obtain ⟨n,k⟩:=x
   by_cases hk:k = NameKind.free
   ·subst hk
    obtain ⟨c,hc⟩:=h1 n List.mem_cons_self
    have ec:cellOf env n = pure c:=by unfold cellOf; rw [hc]
    have h2':∀ y c',((n,c)::cs).lookup y = some c'→env.cells.lookup y = some c':=fun y c' e => by
     rw [List.lookup_cons] at e
     split at e
     ·rename_i he
      cases e
      rw [eq_of_beq he]; exact hc
     ·exact h2 y c' e
    (refine Classical.byContradiction fun k_ => ?_; obtain ⟨cl,e1,e2,e3,e4⟩:=ih ((n,c)::cs) (fun y hy => h1 y (List.mem_cons_of_mem _ hy)) h2'; refine k_ ?_; clear k_)
    have hn:∃ c',cl.lookup n = some c':=e4 n c (by rw [List.lookup_cons]; simp)
    refine ⟨cl,?_,e2,fun y hy => ?_,fun y c' e => ?_⟩
    ·rw [List.forIn_cons]
     simp only [beq_self_eq_true,if_true,ec]
     exact e1
    ·rcases List.mem_cons.mp hy with z | z
     ·cases z; exact hn
     ·exact e3 y z
    ·by_cases hy:y = n
     ·rw [hy]; exact hn
     ·exact e4 y c' (by rw [List.lookup_cons,beq_eq_false_iff_ne.mpr hy]; exact e)
   ·have hb:(k == NameKind.free) = false:=by simpa using hk
    (refine Classical.byContradiction fun k_ => ?_; obtain ⟨cl,e1,e2,e3,e4⟩:=ih cs (fun y hy => h1 y (List.mem_cons_of_mem _ hy)) h2; refine k_ ?_; clear k_)
    refine ⟨cl,?_,e2,fun y hy => ?_,e4⟩
    ·rw [List.forIn_cons]
     simp only [hb,Bool.false_eq_true,if_false]
     exact e1
    ·rcases List.mem_cons.mp hy with z | z
     ·cases z; exact absurd rfl hk
     ·exact e3 y z
 (refine Classical.byContradiction fun k_ => ?_; obtain ⟨cl,e1,e2,e3,_⟩:=go scope.names [] h (fun _ _ e => by simp at e); refine k_ ?_; clear k_)
 refine ⟨cl,?_,e2,e3⟩
 unfold closureFor
 refine Eq.trans (congrArg (fun t => t >>= fun cs => pure cs) e1) ?_
 rfl
theorem comp_loop {prog:Program} {w:World} {A:Around} {R:Result→Shared→Prop} {s:Shared} {elt target iter:Expr} {ifs:List Expr} {scope:Scope} {pos:Pos} {it acc:Value} {env:Env} (I:Nat→Shared→Prop)
  (turn:∀ n s,I n s→wpAny (model prog w) A (pyNext it) (fun r s₁ => match r with
   | none => R (.ok .next) s₁
   | some v => wpAny (model prog w) A (letOwnedTupleGo target it v) (fun _ s₁' => wpAny (model prog w) A (assign target env v) (fun _ s₂ =>
     wpAny (model prog w) A (forIn ifs true fun c r => if r = true then do let ok ← isTrue c env (eval c env); pure (ForInStep.yield ok) else pure (ForInStep.yield r)) (fun ok s₃ =>
      if ok = true then wpAny (model prog w) A (eval elt env) (fun x s₄ =>
       wpAny (model prog w) A (call (.builtin "list.append") [acc,x]) (fun _ s₅ => ∃ m,m < n∧I m s₅) (fun _ _ => False) s₄) (fun _ _ => False) s₃
      else ∃ m,m < n∧I m s₃) (fun _ _ => False) s₂) (fun _ _ => False) s₁') (fun _ _ => False) s₁) (fun _ _ => False) s)
  (n:Nat) (h:I n s) :
  codeAny (model prog w) A (.compLoop (.ListComp elt [⟨target,iter,ifs,0⟩] scope pos) 0 it acc env) R s:=by
 refine codeAny_loop rfl I (fun n s hI => ?_) n h
 show wpAny _ A ((compTurn (.ListComp elt [⟨target,iter,ifs,0⟩] scope pos) 0 it acc env).onRaise (fun x => do noteFrame x env; theTreesLotGoes x)) _ _ s
 refine wpAny_noted ?_
 rw [compTurn_list]
 refine wpAny_bind (wpAny_standAt (wpAny_bind (wpAny_mono (turn n s hI) (fun r s₁ h₁ => ?_) fun _ _ h' => h'.elim)))
 cases r with
 | none => exact wpAny_pure h₁
 | some v =>
  refine wpAny_bind (wpAny_mono h₁ (fun _ s₁' h₁' => ?_) fun _ _ h' => h'.elim)
  refine wpAny_bind (wpAny_mono h₁' (fun _ s₂ h₂ => wpAny_bind (wpAny_mono h₂ (fun ok s₃ h₃ => ?_) fun _ _ h' => h'.elim)) fun _ _ h' => h'.elim)
  cases ok with
  | false => exact wpAny_pure ⟨rfl,h₃⟩
  | true =>
   exact wpAny_bind (wpAny_bind (wpAny_mono h₃ (fun x s₄ h₄ => wpAny_bind (wpAny_mono h₄ (fun _ s₅ h₅ => wpAny_pure (wpAny_pure ⟨rfl,h₅⟩)) fun _ _ h' => h'.elim)) fun _ _ h' => h'.elim))
def cxC (X:Cx) (N':List Str) (scope:Scope) (cl:List (Str×Addr)) (s₁:Shared) (H₁:Hp) (fp:List Addr) (pins:List (Addr×Obj)):Cx where
 prog:=X.prog
 w:=X.w
 K:=X.K
 mg:=X.mg
 base:=X.base
 A:=X.A
 N:=N'
 s₀:=s₁
 H₀:=H₁
 env:=compEnvC scope cl s₁.heap.objs.size X.env
 outer:=X.stack
 stack:=X.stack
 ex:=fp
 fn:=fun _ => false
 calm:=X.calm
 pn:=X.pn++pins
 xe:=fun _ _ => False
abbrev FV:=List (Nat×Str)
def relS (scope sc:Scope):Scope:={ scope with names:=scope.names.map fun (n,k) => if (k == .free && sc.kind == .function && sc.names.lookup n == some .cell) then (n,.cell) else (n,k) }
structure CompOk (sc:Scope) (N:List Str) (scope:Scope) (N':List Str) (own:List Str) (fv:FV):Prop where
 kind:scope.kind = .function
 nocell:∀ y∈scope.names,y.2≠.cell
 loc:∀ y∈scope.names,y.2 = .local→scope.names.lookup y.1 = some .local
 fre':∀ y∈scope.names,y.2 = .free→sc.names.lookup y.1 = some .cell
 eqN:N' = own++fv.map (·.2)
 nd:N'.Nodup
 slot:∀ p∈fv,N[p.1]? = some p.2∧sc.names.lookup p.2 = some .cell∧(relS scope sc).names.lookup p.2 = some .cell
theorem CompOk.fre {sc scope:Scope} {N N' own:List Str} {fv:FV} (c:CompOk sc N scope N' own fv):∀ y,(y,NameKind.free)∈scope.names→sc.names.lookup y = some .cell:=fun y hy => c.fre' _ hy rfl
def blk (own:List Str) (fv:FV) (σ:St):St:=own.map (fun _ => none)++fv.map fun p => (σ[p.1]?).join
theorem rel_lookup {scope:Scope} {env:Env}:∀ {names:List (Str×NameKind)} {y:Str} {k:NameKind},
  (names.map fun (n,k) => if (k == NameKind.free && env.scope.kind == .function && env.kindOf n == some .cell) then (n,NameKind.cell) else (n,k)).lookup y = some k→k = .cell∨k = .free→(∀ z∈names,z.2≠.cell)→(y,NameKind.free)∈names
 | [],_,_,h,_,_ => by simp at h
 | (n,k0)::r,y,k,h,hk,hc => by
  rw [List.map_cons] at h
  by_cases hf:k0 = NameKind.free
  ·by_cases hy:y = n
   ·subst hy; subst hf; exact List.mem_cons_self
   ·refine List.mem_cons_of_mem _ (rel_lookup (env:=env) (scope:=scope) (k:=k) ?_ hk fun z hz => hc z (List.mem_cons_of_mem _ hz))
    dsimp only at h
    have hyb:(y == n) = false:=beq_eq_false_iff_ne.mpr hy
    split at h <;> (rw [List.lookup_cons,hyb] at h; exact h)
  ·have hb:(k0 == NameKind.free) = false:=by simpa using hf
   simp only [hb,Bool.false_and,Bool.false_eq_true,if_false] at h
   rw [List.lookup_cons] at h
   by_cases hy:y = n
   ·subst hy
    simp only [beq_self_eq_true] at h
    cases h
    rcases hk with z | z
    ·exact absurd z (hc _ List.mem_cons_self)
    ·exact absurd z hf
   ·have hyb:(y == n) = false:=beq_eq_false_iff_ne.mpr hy
    rw [hyb] at h
    exact List.mem_cons_of_mem _ (rel_lookup (env:=env) (scope:=scope) (k:=k) h hk fun z hz => hc z (List.mem_cons_of_mem _ hz))
section
variable {X:Cx} {pins:List (Addr×Obj)} {σ:St} {H₁:Hp} {s₁ s₂:Shared} {scope:Scope} {cl:List (Str×Addr)} {N' own:List Str} {fv:FV} {fp:List Addr}
theorem cxC_ok (I:Inv X pins σ H₁ s₁) (c:CompOk X.env.scope X.N scope N' own fv) (h1:∀ y c,cl.lookup y = some c→X.env.cells.lookup y = some c) (h2:∀ y,(y,NameKind.free)∈scope.names→∃ c,cl.lookup y = some c)
  (hf:∀ b∈fp,FpOk X pins H₁ b∧b < s₁.heap.objs.size):(cxC X N' scope cl s₁ H₁ fp pins).Ok where
 mod:=I.ok.mod
 kind:=c.kind
 glob:=I.ok.glob
 blt:=I.ok.blt
 above:=Nat.le_refl _
 inj:=fun x y a e1 e2 => I.ok.inj x y a (h1 x a e1) (h1 y a e2)
 has:=fun x hx => by
  have hx':(relabel scope X.env).names.lookup x = some .cell∨(relabel scope X.env).names.lookup x = some .free:=hx
  rcases hx' with z | z
  ·exact h2 x (rel_lookup (scope:=scope) (env:=X.env) z (.inl rfl) c.nocell)
  ·exact h2 x (rel_lookup (scope:=scope) (env:=X.env) z (.inr rfl) c.nocell)
 cab:=fun x a e => by cases e
 hd:=I.ok.hd
 frames:=I.ok.frames
 stk:=.inl rfl
 exf:=fun b hb => ⟨Nat.ne_of_lt (hf b hb).2,fun x a e => (hf b hb).1.2.2.2.2.1 x a (h1 x a e)⟩
 bs:=I.bs
 bsz:=Nat.le_trans I.ok.bsz I.sz
 noex:=fun b o e hb => by
  rcases (hf b hb).1.2.2.2.1 with z | z
  ·exact I.ok.noex b o e z
  ·exact absurd (Nat.lt_of_lt_of_le (Heap.lt_size (I.ok.bs b o e).1) z) (Nat.lt_irrefl _)
 exfs:=fun b hb hm => by
  rcases List.mem_cons.mp (I.stkSub b hm) with z | z
  ·exact (hf b hb).1.2.1 z
  ·exact (hf b hb).1.2.2.1 z
 funs:=I.stack
 frf:=I.stkFree
theorem blk_len:(blk own fv σ).length = (own++fv.map (·.2)).length:=by simp [blk]
theorem inv_block (I:Inv X pins σ H₁ s₁) (c:CompOk X.env.scope X.N scope N' own fv) (h1:∀ y c,cl.lookup y = some c→X.env.cells.lookup y = some c) (h2:∀ y,(y,NameKind.free)∈scope.names→∃ c,cl.lookup y = some c)
  (hf:∀ b∈fp,FpOk X pins H₁ b∧b < s₁.heap.objs.size) {h':Heap} {m:Str→Option Value} {tk:Nat} (hn:h'.Ns s₁.heap.objs.size m) (kp:∀ b o,s₁.heap.get? b = some o→h'.get? b = some o) :
  Inv (cxC X N' scope cl s₁ H₁ fp pins) [] (blk own fv σ) H₁ { s₁ with heap:=h',toks:=tk } where
 ok:=cxC_ok I c h1 h2 hf
 os:=rfl
 bare:=I.bare
 base:=Un.kept kp
 loc:=by
  refine ⟨m,hn,fun i x v e1 e2 e3 => ?_⟩
  have e1':(own++fv.map (·.2))[i]? = some x:=by rw [← c.eqN]; exact e1
  have hi:¬ i < own.length:=fun hi => by
   unfold blk at e2
   rw [List.getElem?_append_left (by simpa using hi),List.getElem?_map] at e2
   cases z:own[i]? with
   | none => rw [z] at e2; cases e2
   | some y => rw [z] at e2; cases e2
  unfold blk at e2
  rw [List.getElem?_append_right (by simpa using hi),List.length_map,List.getElem?_map] at e2
  rw [List.getElem?_append_right (by simpa using hi),List.getElem?_map] at e1'
  cases z:fv[i - own.length]? with
  | none => rw [z] at e2; cases e2
  | some p =>
   rw [z] at e2 e1'
   have ex:p.2 = x:=Option.some.inj e1'
   subst ex
   (refine Classical.byContradiction fun k_ => ?_; obtain ⟨g1,g2,g3⟩:=c.slot p (List.mem_of_getElem? z); refine k_ ?_; clear k_)
   have e2':(σ[p.1]?).join = some v:=Option.some.inj e2
   have e2'':σ[p.1]? = some (some v):=by
    cases q:σ[p.1]? with
    | none => rw [q] at e2'; cases e2'
    | some o => rw [q] at e2'; rw [show o = some v from e2']
   (refine Classical.byContradiction fun k_ => ?_; obtain ⟨m0,hn0,hl0⟩:=I.loc; refine k_ ?_; clear k_)
   (refine Classical.byContradiction fun k_ => ?_; obtain ⟨u,ru,lu⟩:=hl0 p.1 p.2 v g1 e2'' (.inr (.inl g2)); refine k_ ?_; clear k_)
   refine ⟨u,ru,.inr ⟨.inl g3,?_⟩⟩
   rcases lu with ⟨k,_⟩ | ⟨_,cc,ec,ic⟩
   ·exact absurd (show X.env.scope.names.lookup p.2 = some NameKind.local from k) (by rw [g2]; intro z; cases z)
   ·have hfree:(p.2,NameKind.free)∈scope.names:=rel_lookup (scope:=scope) (env:=X.env) g3 (.inl rfl) c.nocell
    obtain ⟨c',ec'⟩:=h2 _ hfree
    have:=h1 _ _ ec'
    rw [ec] at this
    cases this
    (refine Classical.byContradiction fun k_ => ?_; obtain ⟨o,ho,hd⟩:=ic; refine k_ ?_; clear k_)
    exact ⟨cc,ec',o,kp _ _ ho,hd⟩
 cell:=fun x a e => by
  (refine Classical.byContradiction fun k_ => ?_; obtain ⟨v,o,ho,hd⟩:=I.cell x a (h1 x a e); refine k_ ?_; clear k_)
  exact ⟨v,o,kp _ _ ho,hd⟩
 free:=I.hok.fresh (Nat.le_refl _)
 freeC:=fun x a e => I.freeC x a (h1 x a e)
 pin:=fun p hp => by
  rw [List.append_nil] at hp
  (refine Classical.byContradiction fun k_ => ?_; obtain ⟨g1,g2,g3,g4,g5⟩:=I.pin p hp; refine k_ ?_; clear k_)
  refine ⟨kp _ _ g1,g2,Nat.ne_of_lt (Heap.lt_size g1),fun hm => ?_,g5⟩
  rcases List.mem_cons.mp (I.stkSub p.1 hm) with z | z
  ·exact g3 z
  ·exact g4 z
 hok:=I.hok.kept kp
 len:=by rw [blk_len,← c.eqN]; rfl
theorem inv_left {σ':St} {H':Hp} (I:Inv X pins σ H₁ s₁) (hf:∀ b∈fp,FpOk X pins H₁ b∧b < s₁.heap.objs.size) (J:Inv (cxC X N' scope cl s₁ H₁ fp pins) [] σ' H' s₂) :
  Inv X pins σ H' s₂∧FpOk X pins H' s₁.heap.objs.size∧∃ m,s₂.heap.Ns s₁.heap.objs.size m:=by
 have I2:Inv X pins σ H' s₂:=I.call' (ch:=fp) J.os J.base J.hok J.bare fun b hb => ⟨(hf b hb).1.2.2.2.1,(hf b hb).1.2.1,(hf b hb).1.2.2.2.2.1,(hf b hb).1.2.2.2.2.2⟩
 (refine Classical.byContradiction fun k_ => ?_; obtain ⟨m,hn,_⟩:=J.loc; refine k_ ?_; clear k_)
 exact ⟨I2,⟨J.free,(I.fpOk (H':=H') (Nat.le_refl _) J.free).2⟩,m,hn⟩
end
def PIfs (X:Cx) (ifs:List Expr) (t:TT):Prop:=∀ (pins:List (Addr×Obj)) (s:Shared) (σ:St) (H:Hp) (Q:Bool→Hp→Prop),Inv X pins σ H s→t σ H Q →
 wpAny (model X.prog X.w) X.A (forIn ifs true fun c r => if r = true then do let ok ← isTrue c X.env (eval c X.env); pure (ForInStep.yield ok) else pure (ForInStep.yield r)) (TP X pins σ Q) X.xe s
theorem pifs_nil {X:Cx}:PIfs X [] (fun _ H Q => Q true H):=fun _ _ _ H _ I h => wpAny_tests_nil ⟨H,I,h⟩
def tComp (wi:TI) (g:TG) (tc:TT) (te:TE) (own:List Str) (fv:FV):TE:=fun σ H Q => wi σ H fun J H1 => ∀ p,H1 p = none→∃ W:Nat→Nat→Hp→Prop,(∃ m,W 0 m (upd H1 p (.lst [])))∧∀ i m H2,W i m H2 →
 (J.stop i H2∧Q (.ref p) H2)∨(J.go i H2∧∀ x H3,J.yld i H2 x H3→g x (blk own fv σ) H3 fun σ2 H4 => tc σ2 H4 fun b H5 => if b = true then te σ2 H5 fun v H6 => ∃ acc,H6 p = some (.lst acc)∧acc.length < sizeLine ∧
  ∃ m',m' < m∧W (i + 1) m' (upd H6 p (.lst (acc++[v]))) else ∃ m',m' < m∧W (i + 1) m' H5)
theorem comp_core {X:Cx} {pins:List (Addr×Obj)} {σ:St} {H:Hp} {s:Shared} {elt target iter:Expr} {ifs:List Expr} {scope:Scope} {pos fpos:Pos} {N' own:List Str} {fv:FV} {wi:TI} {g:TG} {tc:TT} {te:TE} {R:VK} {use:Option (Value→Sem Unit)} {Q':Value→Shared→Prop}
  (c:CompOk X.env.scope X.N scope N' own fv) (hcalm:X.calm = true) (hi:PI X target iter wi)
  (hgk:∀ x σ H Q,g x σ H Q→g x σ H fun σ' H' => (σ'.length = σ.length∧∀ i,own.length≤i→σ'[i]? = σ[i]?)∧Q σ' H')
  (hb:∀ cl s₁ H₁ fp,PG (cxC X N' scope cl s₁ H₁ fp pins) target g∧PIfs (cxC X N' scope cl s₁ H₁ fp pins) ifs tc∧PE (cxC X N' scope cl s₁ H₁ fp pins) elt te)
  (hs:∀ x,foldedSetIterable iter X.env x = pure x) (I:Inv X pins σ H s) (h:tComp wi g tc te own fv σ H R)
  (fin:∀ (p C:Addr) (H':Hp) (s':Shared) (m:Str→Option Value),Inv X pins σ H' s'→FpOk X pins H' C→s'.heap.Ns C m→R (.ref p) H'→compPost (model X.prog X.w) X.A X.xe use Q' (.ref p) C (.ok .next) s') :
  wpAny (model X.prog X.w) X.A (comprehension (.ListComp elt [⟨target,iter,ifs,0⟩] scope pos) scope X.env fpos (newList []) false (eval iter X.env) use) Q' X.xe s:=by
 obtain ⟨cl,hclos,h1,h2⟩:=closure_ok (scope:=scope) (env:=X.env) fun y hy => I.ok.has y (.inl (c.fre y hy))
 refine wpAny_comprehension_free (use:=use) rfl hs hclos c.kind c.loc (wpAny_mono (hi pins s σ H _ I h) (fun v s1 h1' => wpAny_mono h1' (fun itv s2 h2' => ?_) fun _ _ e => e) fun _ _ e => e)
 (refine Classical.byContradiction fun k_ => ?_; obtain ⟨it,fp,tn,J,H2,rfl,I2,T,st2,f2,q2⟩:=h2'; refine k_ ?_; clear k_)
 refine wpAny_newObj_type ?_
 have I3:Inv X pins σ (upd H2 s2.heap.objs.size (.lst [])) { s2 with heap:=s2.heap.push { cls:=.type "list",data:=.seq ([]:List Value).toArray } }:=I2.lnew (t':=s2.toks) (ys:=[]) (its:=[]) .nil (Nat.zero_le _)
 have np:H2 s2.heap.objs.size = none:=I2.fresh
 generalize hs3:({ s2 with heap:=s2.heap.push { cls:=.type "list",data:=.seq ([]:List Value).toArray } }:Shared) = s3 at I3
 have e3:s3.heap = s2.heap.push { cls:=.type "list",data:=.seq ([]:List Value).toArray }:=by rw [← hs3]
 have old3:∀ b o,s2.heap.get? b = some o→s3.heap.get? b = some o:=fun b o e => by rw [e3]; exact Heap.get?_push_of_some _ e
 have f3:∀ b∈fp,FpOk X pins (upd H2 s2.heap.objs.size (.lst [])) b∧b < s3.heap.objs.size:=fun b hb => by
  (refine Classical.byContradiction fun k_ => ?_; obtain ⟨o,ho,_⟩:=T.obj 0 _ st2 b hb; refine k_ ?_; clear k_)
  have hlt:=Heap.lt_size ho
  refine ⟨⟨?_,(f2 b hb).2⟩,Heap.lt_size (old3 b o ho)⟩
  rw [upd_ne (Nat.ne_of_lt hlt)]
  exact (f2 b hb).1
 have st3:tn 0 s3.heap:=T.keep 0 _ _ st2 fun b hb o e => old3 b o e
 refine wpAny_newFunctionEnv c.nocell (by intro y hy; simp at hy) (fun h' hns hsb => ?_) c.kind
 have kp:∀ b o,s3.heap.get? b = some o→h'.get? b = some o:=fun b o e => (hsb.2 b (Nat.ne_of_lt (Heap.lt_size e))).trans (Heap.get?_push_of_some _ e)
 have J0:Inv (cxC X N' scope cl s3 (upd H2 s2.heap.objs.size (.lst [])) fp pins) [] (blk own fv σ) (upd H2 s2.heap.objs.size (.lst [])) { s3 with heap:=h',toks:=s3.toks + ([]:List (Str×Value)).length }:=inv_block I3 c h1 h2 f3 hns kp
 have st4:tn 0 h':=T.keep 0 _ _ st3 fun b hb o e => kp b o e
 (refine Classical.byContradiction fun k_ => ?_; obtain ⟨W,⟨m0,w0⟩,turn⟩:=q2 s2.heap.objs.size np; refine k_ ?_; clear k_)
 (refine Classical.byContradiction fun k_ => ?_; obtain ⟨hg,hifs,helt⟩:=hb cl s3 (upd H2 s2.heap.objs.size (.lst [])) fp; refine k_ ?_; clear k_)
 have noP:∀ b∈fp,b≠s3.heap.objs.size:=fun b hb => Nat.ne_of_lt (f3 b hb).2
 have stat:∀ {H':Hp},(∀ b∈fp,H' b = none)→∀ b∈fp,FpOk (cxC X N' scope cl s3 (upd H2 s2.heap.objs.size (.lst [])) fp pins) [] H' b:=fun hn b hb => by
  (refine Classical.byContradiction fun k_ => ?_; obtain ⟨⟨_,g1,g2,g3,g4,g5⟩,g6⟩:=f3 b hb; refine k_ ?_; clear k_)
  refine ⟨hn b hb,Nat.ne_of_lt g6,fun hm => ?_,.inl hb,fun x a e => g4 x a (h1 x a e),fun p hp => g5 p (by simpa [cxC] using hp)⟩
  rcases List.mem_cons.mp (I3.stkSub b hm) with z | z
  ·exact g1 z
  ·exact g2 z
 have loop:codeAny (model X.prog X.w) X.A (.compLoop (.ListComp elt [⟨target,iter,ifs,0⟩] scope pos) 0 (.ref it) (.ref s2.heap.objs.size) (compEnvC scope cl s3.heap.objs.size X.env))
   (compPost (model X.prog X.w) X.A X.xe use Q' (.ref s2.heap.objs.size) s3.heap.objs.size) { s3 with heap:=h',toks:=s3.toks + ([]:List (Str×Value)).length }:=by
  refine comp_loop (fun n s' => ∃ i H' σ',Inv (cxC X N' scope cl s3 (upd H2 s2.heap.objs.size (.lst [])) fp pins) [] (blk own fv σ) H' s'∧σ' = blk own fv σ∧tn i s'.heap∧(∀ b∈fp,H' b = none)∧W i n H') ?_ m0 ⟨0,_,_,J0,rfl,st4,fun b hb => (f3 b hb).1.1,w0⟩
  intro n s5 z_
  (refine Classical.byContradiction fun k_ => ?_; obtain ⟨i,H5,_,J5,rfl,st5,fr5,w5⟩:=z_; refine k_ ?_; clear k_)
  rcases turn i n H5 w5 with ⟨stop,qn⟩ | ⟨go,step⟩
  ·refine thn (T.done (cxC X N' scope cl s3 (upd H2 s2.heap.objs.size (.lst [])) fp pins) rfl rfl rfl hcalm i [] s5 _ H5 _ J5 (stat fr5) st5 stop) fun r s6 hr => ?_
   obtain ⟨rfl,J6⟩:=hr
   (refine Classical.byContradiction fun k_ => ?_; obtain ⟨I6,f6,m6,n6⟩:=inv_left I3 f3 J6; refine k_ ?_; clear k_)
   exact fin _ _ H5 s6 m6 I6 f6 n6 qn
  ·refine thn (T.item (cxC X N' scope cl s3 (upd H2 s2.heap.objs.size (.lst [])) fp pins) rfl rfl rfl hcalm i [] s5 _ H5 _ J5 (stat fr5) st5 go) fun r s6 hr => ?_
   (refine Classical.byContradiction fun k_ => ?_; obtain ⟨u,rfl,h6⟩:=hr; refine k_ ?_; clear k_)
   refine thn h6 fun _ s7 h7 => ?_
   (refine Classical.byContradiction fun k_ => ?_; obtain ⟨x,H7,J7,r7,y7,st7,fr7⟩:=h7; refine k_ ?_; clear k_)
   have J7':=J7.pinned (stat fr7) (T.obj _ _ st7)
   refine thn (hg _ s7 _ H7 x u _ J7' r7 (hgk _ _ _ _ (step x H7 y7))) fun _ s8 h8 => ?_
   (refine Classical.byContradiction fun k_ => ?_; obtain ⟨σ8,H8,J8,⟨l8,k8⟩,q8⟩:=h8; refine k_ ?_; clear k_)
   refine thn (hifs _ s8 σ8 H8 _ J8 q8) fun ok s9 h9 => ?_
   (refine Classical.byContradiction fun k_ => ?_; obtain ⟨H9,J9,q9⟩:=h9; refine k_ ?_; clear k_)
   have weak:∀ {H':Hp} {s':Shared},Inv (cxC X N' scope cl s3 (upd H2 s2.heap.objs.size (.lst [])) fp pins) ([]++pinsAt fp s7.heap) σ8 H' s' →
     Inv (cxC X N' scope cl s3 (upd H2 s2.heap.objs.size (.lst [])) fp pins) [] (blk own fv σ) H' s'∧tn (i + 1) s'.heap∧∀ b∈fp,H' b = none:=fun {H' s'} J' => by
    refine ⟨J'.unpinned.weak l8.symm fun j v e => ?_,T.keep _ _ _ st7 fun b hb o e => (J'.pin (b,o) (List.mem_append_right _ (List.mem_append_right _ (mem_pinsAt hb e)))).1,fun b hb => ?_⟩
    ·have hj:own.length≤j:=Nat.le_of_not_lt fun hj => by
      unfold blk at e
      rw [List.getElem?_append_left (by simpa using hj),List.getElem?_map] at e
      cases z:own[j]? with
      | none => rw [z] at e; cases e
      | some y => rw [z] at e; cases e
     rw [k8 j hj]; exact e
    ·(refine Classical.byContradiction fun k_ => ?_; obtain ⟨o,e,d⟩:=T.obj _ _ st7 b hb; refine k_ ?_; clear k_)
     exact (J'.pin (b,o) (List.mem_append_right _ (List.mem_append_right _ (mem_pinsAt hb e)))).2.1
   cases ok with
   | false =>
    rw [if_neg Bool.false_ne_true] at q9 ⊢
    (refine Classical.byContradiction fun k_ => ?_; obtain ⟨m',hm,w9⟩:=q9; refine k_ ?_; clear k_)
    (refine Classical.byContradiction fun k_ => ?_; obtain ⟨g1,g2,g3⟩:=weak J9; refine k_ ?_; clear k_)
    exact ⟨m',hm,i + 1,H9,_,g1,rfl,g2,g3,w9⟩
   | true =>
    rw [if_pos rfl] at q9 ⊢
    refine thn (helt _ s9 σ8 H9 _ J9 q9) fun xv s10 h10 => ?_
    (refine Classical.byContradiction fun k_ => ?_; obtain ⟨v,H10,J10,r10,acc,ea,hl,m',hm,w10⟩:=h10; refine k_ ?_; clear k_)
    refine thn (mt_append _ s10 σ8 H10 (.ref s2.heap.objs.size) [v] (.ref s2.heap.objs.size) [xv] (fun z H' => z = .non∧H' = upd H10 s2.heap.objs.size (.lst (acc++[v]))) J10 rfl (.cons r10 .nil) ⟨_,acc,v,rfl,rfl,ea,hl,rfl,rfl⟩) fun _ s11 h11 => ?_
    (refine Classical.byContradiction fun k_ => ?_; obtain ⟨z,H11,J11,_,_,rfl⟩:=h11; refine k_ ?_; clear k_)
    (refine Classical.byContradiction fun k_ => ?_; obtain ⟨g1,g2,g3⟩:=weak J11; refine k_ ?_; clear k_)
    exact ⟨m',hm,i + 1,_,_,g1,rfl,g2,g3,w10⟩
 exact codeAny_compStart_list loop (T.self X.A 0 _ _ _ st4 loop)
theorem pe_comp {X:Cx} {elt target iter:Expr} {ifs:List Expr} {scope:Scope} {pos:Pos} {N' own:List Str} {fv:FV} {wi:TI} {g:TG} {tc:TT} {te:TE}
  (c:CompOk X.env.scope X.N scope N' own fv) (hcalm:X.calm = true) (hi:PI X target iter wi)
  (hgk:∀ x σ H Q,g x σ H Q→g x σ H fun σ' H' => (σ'.length = σ.length∧∀ i,own.length≤i→σ'[i]? = σ[i]?)∧Q σ' H')
  (hb:∀ pins cl s₁ H₁ fp,PG (cxC X N' scope cl s₁ H₁ fp pins) target g∧PIfs (cxC X N' scope cl s₁ H₁ fp pins) ifs tc∧PE (cxC X N' scope cl s₁ H₁ fp pins) elt te)
  (hs:∀ x,foldedSetIterable iter X.env x = pure x:=by intro _; rfl):PE X (.ListComp elt [⟨target,iter,ifs,0⟩] scope pos) (tComp wi g tc te own fv):=by
 intro pins s σ H Q I h
 rw [eval_ListComp]
 refine comp_core (use:=none) (R:=Q) c hcalm hi hgk (hb pins) hs I h fun p C H' s' m J f n q => ?_
 refine ⟨m,n,fun h' hs' => ⟨.ref p,H',J.turned (t':=s'.toks) (it:=C) (fun b o hb e => (hs'.2 b hb).trans e) f.1 f.2.1 f.2.2.2.1 f.2.2.2.2.1 f.2.2.2.2.2,rfl,q⟩⟩
theorem ps_setcomp {X:Cx} {elt target iter:Expr} {ifs:List Expr} {scope:Scope} {pos spos py:Pos} {y:Str} {j:Nat} {N' own:List Str} {fv:FV} {wi:TI} {g:TG} {tc:TT} {te:TE}
  (hN:X.N.Nodup) (hj:X.N[j]? = some y) (hy:Loc X.env.scope y) (hsw:swapsWith (.ListComp elt [⟨target,iter,ifs,0⟩] scope pos) (some (.Name y py)) spos.line X.env = pure true)
  (c:CompOk X.env.scope X.N scope N' own fv) (hcalm:X.calm = true) (hi:PI X target iter wi)
  (hgk:∀ x σ H Q,g x σ H Q→g x σ H fun σ' H' => (σ'.length = σ.length∧∀ i,own.length≤i→σ'[i]? = σ[i]?)∧Q σ' H')
  (hb:∀ pins cl s₁ H₁ fp,PG (cxC X N' scope cl s₁ H₁ fp pins) target g∧PIfs (cxC X N' scope cl s₁ H₁ fp pins) ifs tc∧PE (cxC X N' scope cl s₁ H₁ fp pins) elt te)
  (hs:∀ x,foldedSetIterable iter X.env x = pure x:=by intro _; rfl) (hf:X.fn y = true∨X.env.scope.names.lookup y = some .local:=by first | exact .inl rfl | exact .inr rfl | assumption) :
  PS X (.Assign [.Name y py] (.ListComp elt [⟨target,iter,ifs,0⟩] scope pos) spos) (tAsg (tComp wi g tc te own fv) (gName j)):=by
 intro pins s σ H Dd I h
 rw [exec_Assign_Name_used _ _ _ _ hsw]
 refine wpAny_bind (wpAny_standAt (wpAny_bind ?_))
 show wpAny _ X.A (do let _ ← comprehension (.ListComp elt [⟨target,iter,ifs,0⟩] scope pos) scope X.env _ (newList []) false (eval iter X.env) (some (assign (.Name y py) X.env))) _ _ s
 refine wpAny_bind (wpAny_mono (comp_core (use:=some (assign (.Name y py) X.env)) (Q':=fun _ s' => SP X pins Dd .next s') c hcalm hi hgk (hb pins) hs I h fun p C H' s' m J f n q => ?_) (fun _ s' hq => wpAny_pure (wpAny_pure hq)) fun _ _ e => e)
 show wpAny _ X.A (assign (.Name y py) X.env (.ref p)) _ _ s'
 refine wpAny_assign_Name (store_ok2 J hN hj hy (v:=.ref p) rfl (fun s'' J' hs'' => ?_) hf)
 (refine Classical.byContradiction fun k_ => ?_; obtain ⟨a,sb,ha⟩:=hs''; refine k_ ?_; clear k_)
 have hC:C≠a:=by
  rcases ha with z | z
  ·rw [z]; exact f.2.1
  ·exact fun w => f.2.2.2.2.1 _ _ z w.symm
 refine ⟨m,n.sameBut sb hC,fun h' hs' => ⟨_,H',J'.turned (t':=s''.toks) (it:=C) (fun b o hb e => (hs'.2 b hb).trans e) f.1 f.2.1 f.2.2.2.1 f.2.2.2.2.1 f.2.2.2.2.2,q⟩⟩
theorem small10000 {n:Nat} (h:n≤10000):n < sizeLine:=by rw [show sizeLine = 16777216 by decide]; omega
def cp3 (wi:TI3) (g:TG3) (tc:TT3) (te:TE3) (own:List Str) (fv:FV):TE3:=fun σ H Q => wi σ H fun ds keep H1 => (∀ H2:Hp3,Sub3 H1 H2→keep H2)∧ds.length≤10000∧∃ rs:List (Option D),rs.length = ds.length ∧
 (∀ (i:Nat) (d:D),ds[i]? = some d→∀ H2:Hp3,Sub3 H1 H2→g d (own.map (fun _ => none)++fv.map fun p => (σ[p.1]?).join) H2 fun σ2 H4 => tc σ2 H4 fun b H5 =>
  if b = true then te σ2 H5 fun v H6 => Sub3 H2 H6∧rs[i]? = some (some v) else Sub3 H2 H5∧rs[i]? = some none) ∧
 ∀ p,H1 p = none→Q (.ref p) (upd3 H1 p (.lst (rs.filterMap id)))
theorem sr_blk {K:PySem.W.Frag} {H:Hp} {σ3:St3} {σ:St} {own:List Str} {fv:FV} (s:SR K H σ3 σ):SR K H (own.map (fun _ => none)++fv.map fun p => (σ3[p.1]?).join) (blk own fv σ):=by
 refine ⟨by simp [blk],fun i d h => ?_⟩
 have hi:¬ i < own.length:=fun hi => by
  rw [List.getElem?_append_left (by simpa using hi),List.getElem?_map] at h
  cases z:own[i]? with
  | none => rw [z] at h; cases h
  | some y => rw [z] at h; cases h
 rw [List.getElem?_append_right (by simpa using hi),List.length_map,List.getElem?_map] at h
 unfold blk
 rw [List.getElem?_append_right (by simpa using hi),List.length_map,List.getElem?_map]
 cases z:fv[i - own.length]? with
 | none => rw [z] at h; cases h
 | some p =>
  rw [z] at h
  have h':(σ3[p.1]?).join = some d:=Option.some.inj h
  have e:σ3[p.1]? = some (some d):=by
   cases q:σ3[p.1]? with
   | none => rw [q] at h'; cases h'
   | some o => rw [q] at h'; rw [show o = some d from h']
  (refine Classical.byContradiction fun k_ => ?_; obtain ⟨v,hv,rv⟩:=s.get _ _ e; refine k_ ?_; clear k_)
  exact ⟨v,by show some (σ[p.1]?).join = some (some v); rw [hv]; rfl,rv⟩
theorem filterMap_take_succ {rs:List (Option D)} {i:Nat} {o:Option D} (h:rs[i]? = some o):(rs.take (i + 1)).filterMap id = (rs.take i).filterMap id++o.toList:=by
 rw [List.take_add_one,h,List.filterMap_append]
 cases o <;> rfl
theorem lift_comp {K:PySem.W.Frag} {wi:TI3} {g:TG3} {g2:TG} {tc:TT3} {te:TE3} {own:List Str} {fv:FV} {σ:St} {H:Hp} {Q:VK} (hgr:∀ v σ H Q,liftG K g v σ H Q→g2 v σ H Q) (h:liftE K (cp3 wi g tc te own fv) σ H Q):tComp (liftI K wi) g2 (liftT K tc) (liftE K te) own fv σ H Q:=by
 (refine Classical.byContradiction fun k_ => ?_; obtain ⟨σ3,H3,Q3,sr,hr,t,k⟩:=h; refine k_ ?_; clear k_)
 refine ⟨σ3,H3,_,sr,hr,t,fun ds keep J H3' H' tk' hr' ok q p np => ?_⟩
 (refine Classical.byContradiction fun k_ => ?_; obtain ⟨hkeep,hlen,rs,hrl,hel,hfin⟩:=q; refine k_ ?_; clear k_)
 have np3:H3' p = none:=hr'.fresh np
 have hrs:∀ i,((rs.take i).filterMap id).length≤i:=fun i => Nat.le_trans (List.length_filterMap_le _ _) (by rw [List.length_take]; grind)
 refine ⟨fun i m H2 => m = ds.length - i∧i≤ds.length∧TK H' H2∧HR K (upd3 H3' p (.lst ((rs.take i).filterMap id))) H2,⟨ds.length,by simp,Nat.zero_le _,TK.fresh np,hr'.setL (TK.fresh np) (.nil)⟩,?_⟩
 intro i m H2 z_
 (refine Classical.byContradiction fun k_ => ?_; obtain ⟨rfl,hi,tk2,hr2⟩:=z_; refine k_ ?_; clear k_)
 have sub2:Sub3 H3' (upd3 H3' p (.lst ((rs.take i).filterMap id))):=Sub3.fresh np3
 obtain ⟨go,stop⟩:=ok _ H2 tk2 hr2 (hkeep _ sub2)
 by_cases hlt:i < ds.length
 ·obtain ⟨g1,g2⟩:=go i hlt
  refine .inr ⟨g1,fun x H2' y => ?_⟩
  (refine Classical.byContradiction fun k_ => ?_; obtain ⟨tky,hry,d,ed,rd⟩:=g2 x H2' y; refine k_ ?_; clear k_)
  replace tk2:=tk2.trans tky
  refine hgr _ _ _ _ ⟨d,_,_,_,rd,(sr_blk sr).mono (tk'.trans tk2),hry,hel i d ed _ sub2,fun σ3a σa H3a Ha tka sra hra qa => ⟨σ3a,H3a,_,sra,hra,qa,fun b H3b Hb tkb hrb qb => ?_⟩⟩
  cases b with
  | true =>
   rw [if_pos rfl] at qb ⊢
   refine ⟨σ3a,H3b,_,sra.mono tkb,hrb,qb,fun v u H3c Hc tkc hrc rv qc => ?_⟩
   obtain ⟨sub,ers⟩:=qc
   (refine Classical.byContradiction fun k_ => ?_; obtain ⟨acc,gacc,racc⟩:=hrc p _ (sub p _ upd3_same); refine k_ ?_; clear k_)
   refine ⟨acc,gacc,?_,ds.length - (i + 1),by grind,rfl,hlt,((tk2.trans tka).trans (tkb.trans tkc)).trans (TK.lst gacc),?_⟩
   ·rw [← racc.length]
    exact small10000 (Nat.le_trans (hrs i) (Nat.le_trans hi hlen))
   ·rw [filterMap_take_succ ers,← upd3_upd3]
    exact (hrc.sub sub).setL (TK.lst gacc) ((racc.snoc rv).mono (TK.lst gacc))
  | false =>
   rw [if_neg Bool.false_ne_true] at qb ⊢
   obtain ⟨sub,ers⟩:=qb
   refine ⟨ds.length - (i + 1),by grind,rfl,hlt,(tk2.trans tka).trans tkb,?_⟩
   rw [filterMap_take_succ ers]
   simp only [Option.toList,List.append_nil]
   exact hrb.sub sub
 ·have e:i = ds.length:=by grind
  subst e
  refine .inl ⟨stop,k _ _ _ _ (tk'.trans tk2) hr2 (.ref p) ?_⟩
  rw [List.take_of_length_le (by rw [hrl]; exact Nat.le_refl _)]
  exact hfin p np3
def yes3:TT3:=fun _ H Q => Q true H
def PIfs3 (X:Cx) (ifs:List Expr) (t:TT3):Prop:=PIfs X ifs (liftT X.K t)
theorem ifs3_nil {X:Cx}:PIfs3 X [] yes3:=fun pins s σ H Q I h => by
 (refine Classical.byContradiction fun k_ => ?_; obtain ⟨σ3,H3,Q3,sr,hr,t,k⟩:=h; refine k_ ?_; clear k_)
 exact pifs_nil pins s σ H Q I (k _ _ _ TK.refl hr t)
theorem gr_name {K:PySem.W.Frag} {i:Nat}:∀ v σ H Q,liftG K (gn3 i) v σ H Q→gName i v σ H Q:=fun _ _ _ _ ⟨_,_,_,_,rd,sr,hr,t,k⟩ => k _ _ _ _ TK.refl (sr.set i rd) hr t
theorem gk_name {n i:Nat} (hi:i < n):∀ x σ H Q,gName i x σ H Q→gName i x σ H fun σ' H' => (σ'.length = σ.length∧∀ j,n≤j→σ'[j]? = σ[j]?)∧Q σ' H':=fun x σ H Q h =>
 ⟨⟨by simp,fun j hj => List.getElem?_set_ne (by grind)⟩,h⟩
theorem gr_pair {K:PySem.W.Frag} {i j:Nat}:∀ v σ H Q,liftG K (g2_3 i j) v σ H Q→gTup K 2 (gCons (gName i) (gCons (gName j) gNil)) v σ H Q:=fun v σ H Q ⟨d,σ3,H3,Q3,rd,sr,hr,t,k⟩ => by
 cases rd with
 | tup ha ra =>
  cases ra with
  | nil => exact t.elim
  | cons r1 ra =>
   cases ra with
   | nil => exact t.elim
   | cons r2 ra =>
    cases ra with
    | cons _ _ => exact t.elim
    | nil => exact ⟨_,_,rfl,SqT.of ha,rfl,_,_,rfl,_,_,rfl,rfl,k _ _ _ _ TK.refl ((sr.set i r1).set j r2) hr t⟩
 | _ => exact t.elim
theorem gk_pair {K:PySem.W.Frag} {n i j:Nat} (hi:i < n) (hj:j < n):∀ x σ H Q,gTup K 2 (gCons (gName i) (gCons (gName j) gNil)) x σ H Q →
  gTup K 2 (gCons (gName i) (gCons (gName j) gNil)) x σ H fun σ' H' => (σ'.length = σ.length∧∀ l,n≤l→σ'[l]? = σ[l]?)∧Q σ' H':=fun x σ H Q h => by
 (refine Classical.byContradiction fun k_ => ?_; obtain ⟨a,xs,rfl,h1,h2,v,r,rfl,v',r',rfl,e,q⟩:=h; refine k_ ?_; clear k_)
 refine ⟨a,_,rfl,h1,h2,v,_,rfl,v',_,rfl,e,⟨by simp,fun l hl => ?_⟩,q⟩
 rw [List.getElem?_set_ne (by grind),List.getElem?_set_ne (by grind)]
section
variable {X:Cx} {elt iter:Expr} {ifs:List Expr} {scope:Scope} {pos px py pt spos:Pos} {x x' y:Str} {fv:FV} {wi:TI3} {tc:TT3} {te:TE3} {kk:Nat}
theorem p3_comp (c:CompOk X.env.scope X.N scope (x::fv.map (·.2)) [x] fv) (hcalm:X.calm = true) (hi:PI3 X (.Name x px) iter wi)
  (hifs:∀ pins cl s₁ H₁ fp,PIfs3 (cxC X (x::fv.map (·.2)) scope cl s₁ H₁ fp pins) ifs tc) (helt:∀ pins cl s₁ H₁ fp,PE3 (cxC X (x::fv.map (·.2)) scope cl s₁ H₁ fp pins) elt te)
  (hx:(relabel scope X.env).names.lookup x = some .local:=by rfl) (hs:∀ x,foldedSetIterable iter X.env x = pure x:=by intro _; rfl):PE3 X (.ListComp elt [⟨.Name x px,iter,ifs,0⟩] scope pos) (cp3 wi (gn3 0) tc te [x] fv) :=
 pe_imp (pe_comp (g:=gName 0) (tc:=liftT X.K tc) (te:=liftE X.K te) c hcalm hi (gk_name (Nat.zero_lt_one)) (fun pins cl s₁ H₁ fp => ⟨pg_name c.nd rfl (.inl hx) (.inr hx),hifs pins cl s₁ H₁ fp,helt pins cl s₁ H₁ fp⟩) hs) fun _ _ _ h => lift_comp gr_name h
theorem s3_setcomp (j:Nat) (hN:X.N.Nodup) (c:CompOk X.env.scope X.N scope (x::fv.map (·.2)) [x] fv) (hcalm:X.calm = true) (hi:PI3 X (.Name x px) iter wi)
  (hifs:∀ pins cl s₁ H₁ fp,PIfs3 (cxC X (x::fv.map (·.2)) scope cl s₁ H₁ fp pins) ifs tc) (helt:∀ pins cl s₁ H₁ fp,PE3 (cxC X (x::fv.map (·.2)) scope cl s₁ H₁ fp pins) elt te)
  (hj:X.N[j]? = some y:=by rfl) (hy:Loc X.env.scope y:=by first | exact Or.inl rfl | exact Or.inr rfl) (hsw:swapsWith (.ListComp elt [⟨.Name x px,iter,ifs,0⟩] scope pos) (some (.Name y py)) spos.line X.env = pure true:=by rfl)
  (hx:(relabel scope X.env).names.lookup x = some .local:=by rfl) (hs:∀ x,foldedSetIterable iter X.env x = pure x:=by intro _; rfl) (hf:X.fn y = true∨X.env.scope.names.lookup y = some .local:=by first | exact .inl rfl | exact .inr rfl | assumption) :
  PS3 X (.Assign [.Name y py] (.ListComp elt [⟨.Name x px,iter,ifs,0⟩] scope pos) spos) (st3 j (cp3 wi (gn3 0) tc te [x] fv)) :=
 ps_imp (ps_setcomp (g:=gName 0) (tc:=liftT X.K tc) (te:=liftE X.K te) hN hj hy hsw c hcalm hi (gk_name (Nat.zero_lt_one)) (fun pins cl s₁ H₁ fp => ⟨pg_name c.nd rfl (.inl hx) (.inr hx),hifs pins cl s₁ H₁ fp,helt pins cl s₁ H₁ fp⟩) hs hf)
  fun _ _ _ zz => ex3 zz fun σ3 H3 D3 sr hr t k => lift_comp gr_name ⟨σ3,H3,_,sr,hr,t,fun x v H3a Ha tka hra rx qa => k.nx _ _ _ _ tka ((sr.mono tka).set j rx) hra qa⟩
theorem p3_comp2 (c:CompOk X.env.scope X.N scope (x::x'::fv.map (·.2)) [x,x'] fv) (hcalm:X.calm = true) (hi:PI3 X (.Tuple [.Name x px,.Name x' py] kk pt) iter wi)
  (hifs:∀ pins cl s₁ H₁ fp,PIfs3 (cxC X (x::x'::fv.map (·.2)) scope cl s₁ H₁ fp pins) ifs tc) (helt:∀ pins cl s₁ H₁ fp,PE3 (cxC X (x::x'::fv.map (·.2)) scope cl s₁ H₁ fp pins) elt te)
  (hx:(relabel scope X.env).names.lookup x = some .local:=by rfl) (hx':(relabel scope X.env).names.lookup x' = some .local:=by rfl) (hs:∀ x,foldedSetIterable iter X.env x = pure x:=by intro _; rfl) :
  PE3 X (.ListComp elt [⟨.Tuple [.Name x px,.Name x' py] kk pt,iter,ifs,0⟩] scope pos) (cp3 wi (g2_3 0 1) tc te [x,x'] fv) :=
 pe_imp (pe_comp (g:=gTup X.K 2 (gCons (gName 0) (gCons (gName 1) gNil))) (tc:=liftT X.K tc) (te:=liftE X.K te) c hcalm hi (gk_pair (show 0 < 2 by decide) (show 1 < 2 by decide))
  (fun pins cl s₁ H₁ fp => ⟨pg_tup (n:=2) hcalm (pgs_cons (pg_name c.nd rfl (.inl hx) (.inr hx)) (pgs_cons (pg_name c.nd rfl (.inl hx') (.inr hx')) pgs_nil)),hifs pins cl s₁ H₁ fp,helt pins cl s₁ H₁ fp⟩) hs) fun _ _ _ h => lift_comp gr_pair h
end
end L3
namespace L3
open PySem L2
def i3sub:R3:=rI30 fun i j => .int (i - j)
def i3mul:R3:=rI3 CMul fun i j => .int (i * j)
def i3div:R3:=rI3 CDiv fun i j => .int (i / j)
def i3mod:R3:=rI3 (fun _ j => 0 < j) fun i j => .int (i % j)
def i3pow:R3:=rI3 CPow fun i j => .int (i ^ j.toNat)
def i3le:R3:=rI30 fun i j => .bl (decide (i≤j))
def i3gt:R3:=rI30 fun i j => .bl (decide (j < i))
def i3ge:R3:=rI30 fun i j => .bl (decide (j≤i))
theorem intsOf_map:∀ ns:List Int,intsOf (ns.map D.int) = some ns
 | [] => rfl
 | n::ns => by simp only [List.map_cons,intsOf,intsOf_map ns,Option.map_some]
def minL:List Int→Int
 | [] => 0
 | [x] => x
 | x::y::r => min x (minL (y::r))
def maxL:List Int→Int
 | [] => 0
 | [x] => x
 | x::y::r => max x (maxL (y::r))
theorem minL_le':∀ {ns:List Int} {a:Int},a∈ns→minL ns≤a
 | [x],a,h => by simp at h; subst h; exact Int.le_refl _
 | x::y::r,a,h => by
  rcases List.mem_cons.mp h with rfl | h
  ·exact Int.min_le_left _ _
  ·exact Int.le_trans (Int.min_le_right _ _) (minL_le' (ns:=y::r) h)
theorem minL_mem':∀ {ns:List Int},ns≠[]→minL ns∈ns
 | [x],_ => List.mem_cons_self
 | x::y::r,_ => by
  have ih:=minL_mem' (ns:=y::r) (by simp)
  have e:minL (x::y::r) = min x (minL (y::r)):=rfl
  rw [e]
  rcases Int.le_total x (minL (y::r)) with h | h
  ·rw [Int.min_eq_left h]; exact List.mem_cons_self
  ·rw [Int.min_eq_right h]; exact List.mem_cons_of_mem _ ih
theorem maxL_ge':∀ {ns:List Int} {a:Int},a∈ns→a≤maxL ns
 | [x],a,h => by simp at h; subst h; exact Int.le_refl _
 | x::y::r,a,h => by
  rcases List.mem_cons.mp h with rfl | h
  ·exact Int.le_max_left _ _
  ·exact Int.le_trans (maxL_ge' (ns:=y::r) h) (Int.le_max_right _ _)
theorem maxL_mem':∀ {ns:List Int},ns≠[]→maxL ns∈ns
 | [x],_ => List.mem_cons_self
 | x::y::r,_ => by
  have ih:=maxL_mem' (ns:=y::r) (by simp)
  have e:maxL (x::y::r) = max x (maxL (y::r)):=rfl
  rw [e]
  rcases Int.le_total x (maxL (y::r)) with h | h
  ·rw [Int.max_eq_right h]; exact List.mem_cons_of_mem _ ih
  ·rw [Int.max_eq_left h]; exact List.mem_cons_self
def r3mm (f:List Int→Int):List D→Hp3→VK3→Prop:=fun ds H Q => match ds with
 | [.ref a] => (match H a with
  | some (.lst xs) => (match intsOf xs with
   | some ns => ns≠[]∧Q (.int (f ns)) H
   | none => False)
  | _ => False)
 | _ => False
abbrev r3min:List D→Hp3→VK3→Prop:=r3mm minL
abbrev r3max:List D→Hp3→VK3→Prop:=r3mm maxL
abbrev Pt:=Int×Int
def prP (p:Pt):D:=.tup [.int p.1,.int p.2]
def ptsOf:List D→Option (List Pt)
 | [] => some []
 | .tup [.int x,.int y]::ds => (ptsOf ds).map ((x,y)::·)
 | _::_ => none
theorem ptsOf_map:∀ ps:List Pt,ptsOf (ps.map prP) = some ps
 | [] => rfl
 | p::ps => by simp only [List.map_cons,prP,ptsOf]; rw [ptsOf_map ps]; rfl
theorem ptsOf_inv:∀ {ds:List D} {ps:List Pt},ptsOf ds = some ps→ds = ps.map prP:=by
 intro ds
 induction ds with
 | nil => intro ps h; simp only [ptsOf,Option.some.injEq] at h; subst h; rfl
 | cons d ds ih =>
  intro ps h
  unfold ptsOf at h
  split at h
  ·rename_i a; cases a
  ·rename_i x y r heq
   cases heq
   simp only [Option.map_eq_some_iff] at h
   (refine Classical.byContradiction fun k_ => ?_; obtain ⟨qs,h1,h2⟩:=h; refine k_ ?_; clear k_)
   subst h2
   rw [ih h1]; rfl
  ·cases h
def ltc (c r:Pt):Bool:=HT.lexLt [r.2,r.1] [c.2,c.1]
def insP (row:List Pt) (c:Pt):List Pt:=row.takeWhile (ltc c)++c::row.dropWhile (ltc c)
def isort (ps:List Pt):List Pt:=ps.foldl insP []
theorem ltc_iff (c r:Pt):ltc c r = true↔r.2 < c.2∨(r.2 = c.2∧r.1 < c.1):=by
 unfold ltc HT.lexLt
 by_cases h:r.2 = c.2
 ·rw [if_pos h]
  unfold HT.lexLt
  by_cases h2:r.1 = c.1
  ·rw [if_pos h2]; unfold HT.lexLt; simp [h,h2]
  ·rw [if_neg h2]; simp [h]
 ·rw [if_neg h]
  simp [h]
theorem ltc_false (c r:Pt):ltc c r = false↔c.2 < r.2∨(c.2 = r.2∧c.1≤r.1):=by
 rw [← Bool.not_eq_true,ltc_iff]
 omega
theorem insP_perm (row:List Pt) (c:Pt):(insP row c).Perm (c::row):=by
 unfold insP
 have e:=List.takeWhile_append_dropWhile (p:=ltc c) (l:=row)
 have h:(row.takeWhile (ltc c)++c::row.dropWhile (ltc c)).Perm (c::(row.takeWhile (ltc c)++row.dropWhile (ltc c))):=List.perm_middle
 rw [e] at h
 exact h
theorem foldl_ins_perm:∀ (ps row:List Pt),(ps.foldl insP row).Perm (row++ps)
 | [],row => by simp
 | p::ps,row => by
  rw [List.foldl_cons]
  refine (foldl_ins_perm ps _).trans ?_
  refine ((insP_perm row p).append_right ps).trans ?_
  rw [List.cons_append]
  exact List.perm_middle.symm
theorem isort_perm (ps:List Pt):(isort ps).Perm ps:=by
 have:=foldl_ins_perm ps []
 simpa [isort] using this
theorem isort_len (ps:List Pt):(isort ps).length = ps.length:=(isort_perm ps).length_eq
def leP (a b:Pt):Prop:=ltc a b = false
theorem leP_trans {a b c:Pt} (h1:leP a b) (h2:leP b c):leP a c:=by
 unfold leP at *
 rw [ltc_false] at *
 grind
theorem leP_of_ltc {c r:Pt} (h:ltc c r = true):leP r c:=by
 unfold leP
 rw [ltc_iff] at h
 rw [ltc_false]
 grind
theorem leP_antisymm {a b:Pt} (h1:leP a b) (h2:leP b a):a = b:=by
 unfold leP at *
 rw [ltc_false] at *
 exact Prod.ext (by grind) (by grind)
theorem insP_sorted {row:List Pt} {c:Pt} (h:row.Pairwise leP):(insP row c).Pairwise leP:=by
 unfold insP
 have e:=List.takeWhile_append_dropWhile (p:=ltc c) (l:=row)
 have ht:∀ r∈row.takeWhile (ltc c),ltc c r = true:=fun r hr => by
  have:=List.all_takeWhile (p:=ltc c) (l:=row)
  rw [List.all_eq_true] at this
  exact this r hr
 have hd:∀ r∈row.dropWhile (ltc c),leP c r:=by
  have hs:(row.dropWhile (ltc c)).Pairwise leP:=by rw [← e] at h; exact (List.pairwise_append.mp h).2.1
  cases hq:row.dropWhile (ltc c) with
  | nil => intro r hr; cases hr
  | cons x xs =>
   have hx:ltc c x = false:=by
    have:=List.head?_dropWhile_not (ltc c) row
    rw [hq] at this
    simpa using this
   rw [hq] at hs
   intro r hr
   rcases List.mem_cons.mp hr with rfl | hr
   ·exact hx
   ·exact leP_trans hx ((List.pairwise_cons.mp hs).1 r hr)
 rw [← e] at h
 (refine Classical.byContradiction fun k_ => ?_; obtain ⟨h1,h2,h3⟩:=List.pairwise_append.mp h; refine k_ ?_; clear k_)
 refine List.pairwise_append.mpr ⟨h1,List.pairwise_cons.mpr ⟨hd,h2⟩,fun a ha b hb => ?_⟩
 rcases List.mem_cons.mp hb with rfl | hb
 ·exact leP_of_ltc (ht a ha)
 ·exact h3 a ha b hb
theorem foldl_ins_sorted:∀ (ps row:List Pt),row.Pairwise leP→(ps.foldl insP row).Pairwise leP
 | [],_,h => h
 | _::ps,_,h => foldl_ins_sorted ps _ (insP_sorted h)
theorem isort_sorted (ps:List Pt):(isort ps).Pairwise leP:=foldl_ins_sorted ps [] List.Pairwise.nil
theorem sorted_unique {as bs:List Pt} (hp:as.Perm bs) (ha:as.Pairwise leP) (hb:bs.Pairwise leP):as = bs:=hp.eq_of_pairwise (fun _ _ _ _ h1 h2 => leP_antisymm h1 h2) ha hb
theorem isort_of {as ps:List Pt} (hp:as.Perm ps) (ha:as.Pairwise leP):isort ps = as:=sorted_unique ((isort_perm ps).trans hp.symm) (isort_sorted ps) ha
def zc (M:Int) (c:Pt):Int:=c.2 * (2 * M + 1) + c.1
theorem zc_lt {M:Int} {c r:Pt} (hc : -M≤c.1∧c.1≤M) (hr : -M≤r.1∧r.1≤M):ltc c r = decide (zc M r < zc M c):=by
 have hB:0 < 2 * M + 1:=by grind
 rw [Bool.eq_iff_iff,ltc_iff,decide_eq_true_iff]
 unfold zc
 constructor
 ·rintro (h | ⟨h1,h2⟩)
  ·have:=Int.mul_le_mul_of_nonneg_right (show r.2 + 1≤c.2 by grind) (Int.le_of_lt hB)
   rw [Int.add_mul,Int.one_mul] at this
   grind
  ·rw [h1]; grind
 ·intro h
  by_cases h1:r.2 < c.2
  ·exact .inl h1
  ·by_cases h2:r.2 = c.2
   ·rw [h2] at h; exact .inr ⟨h2,by grind⟩
   ·exfalso
    have:=Int.mul_le_mul_of_nonneg_right (show c.2 + 1≤r.2 by grind) (Int.le_of_lt hB)
    rw [Int.add_mul,Int.one_mul] at this
    grind
theorem bound_ex:∀ ps:List Pt,∃ M:Int,0≤M∧∀ c∈ps,-M≤c.1∧c.1≤M
 | [] => ⟨0,by grind,fun _ h => nomatch h⟩
 | p::ps => by
  (refine Classical.byContradiction fun k_ => ?_; obtain ⟨M,h0,h⟩:=bound_ex ps; refine k_ ?_; clear k_)
  refine ⟨M + p.1.natAbs,by grind,fun c hc => ?_⟩
  rcases List.mem_cons.mp hc with rfl | hc
  ·grind
  ·have:=h c hc; grind
def KeyOk (sp:Sp3):Prop:=∀ (c:Pt) (H3:Hp3) (Q3:VK3),Q3 (.tup [.int c.2,.int c.1]) H3→sp [prP c] H3 Q3
def sok (sp:Sp3) (x:D) (H1:Hp3) (Q:VK3):Prop:=match x with
 | .ref a => (match H1 a with
  | some (.lst ds) => (match ptsOf ds with
   | some ps => KeyOk sp∧ps.length < 64∧∀ p,H1 p = none→Q (.ref p) (upd3 H1 p (.lst ((isort ps).map prP)))
   | none => False)
  | _ => False)
 | _ => False
def so3 (sp:Sp3) (te:TE3):TE3:=fun σ H Q => te σ H fun x H1 => sok sp x H1 Q
end L3
namespace L3
open PySem PySem.Spec PyProof.Rows L2
section
variable {X:Cx}
theorem minL_le:∀ {ns:List Int} {a:Int},a∈ns→minL ns≤a
 | [x],a,h => by simp at h; subst h; exact Int.le_refl _
 | x::y::r,a,h => by
  rcases List.mem_cons.mp h with rfl | h
  ·exact Int.min_le_left _ _
  ·exact Int.le_trans (Int.min_le_right _ _) (minL_le (ns:=y::r) h)
theorem minL_mem:∀ {ns:List Int},ns≠[]→minL ns∈ns
 | [x],_ => List.mem_cons_self
 | x::y::r,_ => by
  have ih:=minL_mem (ns:=y::r) (by simp)
  have e:minL (x::y::r) = min x (minL (y::r)):=rfl
  rw [e]
  rcases Int.le_total x (minL (y::r)) with h | h
  ·rw [Int.min_eq_left h]; exact List.mem_cons_self
  ·rw [Int.min_eq_right h]; exact List.mem_cons_of_mem _ ih
theorem maxL_ge:∀ {ns:List Int} {a:Int},a∈ns→a≤maxL ns
 | [x],a,h => by simp at h; subst h; exact Int.le_refl _
 | x::y::r,a,h => by
  rcases List.mem_cons.mp h with rfl | h
  ·exact Int.le_max_left _ _
  ·exact Int.le_trans (maxL_ge (ns:=y::r) h) (Int.le_max_right _ _)
theorem maxL_mem:∀ {ns:List Int},ns≠[]→maxL ns∈ns
 | [x],_ => List.mem_cons_self
 | x::y::r,_ => by
  have ih:=maxL_mem (ns:=y::r) (by simp)
  have e:maxL (x::y::r) = max x (maxL (y::r)):=rfl
  rw [e]
  rcases Int.le_total x (maxL (y::r)) with h | h
  ·rw [Int.max_eq_right h]; exact List.mem_cons_of_mem _ ih
  ·rw [Int.max_eq_left h]; exact List.mem_cons_self
theorem call_minL (hc:X.calm = true):CallR X (.builtin "min") (fun xs H Q => ∃ a ns,xs = [.ref a]∧SqL X.K H a (ns.map V.int)∧ns≠[]∧Q (.int (minL ns)) H):=by
 intro pins s σ H xs us Q I r h
 (refine Classical.byContradiction fun k_ => ?_; obtain ⟨a,ns,rfl,hq,hne,q⟩:=h; refine k_ ?_; clear k_)
 (refine Classical.byContradiction fun k_ => ?_; obtain ⟨u,rfl,ru⟩:=vals1 r; refine k_ ?_; clear k_)
 cases ru
 (refine Classical.byContradiction fun k_ => ?_; obtain ⟨its,rv,pl,_⟩:=I.list hq; refine k_ ?_; clear k_)
 have hi:=intsAre_of rv
 obtain ⟨zs,e⟩:=hi.allInts.items
 have hns:zs.toList.map (·.1) = ns:=by rw [← nums_intItems,← e]; exact hi.numsOf
 have hpos:0 < zs.size:=Nat.pos_of_ne_zero fun z => hne (by rw [← hns,Array.eq_empty_of_size_eq_zero z]; rfl)
 have hl:=pl.isList
 rw [e] at hl
 refine min_intList (I.ok.hd hc) hl hpos fun v h' tk hv hk => ?_
 obtain ⟨t,rfl⟩:=intItems_at hv
 obtain ⟨h1,h2⟩:=argBest_lt (numAt zs) (zs.size - 1)
 have hm:numAt zs (argBest (fun i j => decide (numAt zs i < numAt zs j)) (zs.size - 1)) = minL ns:=by
  refine Int.le_antisymm ?_ (minL_le ?_)
  ·(refine Classical.byContradiction fun k_ => ?_; obtain ⟨j,hj,ej⟩:=mem_getD (minL_mem hne); refine k_ ?_; clear k_)
   rw [← hns,List.length_map,Array.length_toList] at hj
   have:=h2 j (by omega)
   rw [numAt_eq zs j,hns,ej] at this
   exact this
  ·rw [numAt_eq,hns]
   exact getD_mem (by rw [← hns,List.length_map,Array.length_toList]; omega)
 exact ⟨.int (minL ns),H,I.kept hk,⟨t,by rw [hm]⟩,q⟩
theorem call_maxL (hc:X.calm = true):CallR X (.builtin "max") (fun xs H Q => ∃ a ns,xs = [.ref a]∧SqL X.K H a (ns.map V.int)∧ns≠[]∧Q (.int (maxL ns)) H):=by
 intro pins s σ H xs us Q I r h
 (refine Classical.byContradiction fun k_ => ?_; obtain ⟨a,ns,rfl,hq,hne,q⟩:=h; refine k_ ?_; clear k_)
 (refine Classical.byContradiction fun k_ => ?_; obtain ⟨u,rfl,ru⟩:=vals1 r; refine k_ ?_; clear k_)
 cases ru
 (refine Classical.byContradiction fun k_ => ?_; obtain ⟨its,rv,pl,_⟩:=I.list hq; refine k_ ?_; clear k_)
 have hi:=intsAre_of rv
 obtain ⟨zs,e⟩:=hi.allInts.items
 have hns:zs.toList.map (·.1) = ns:=by rw [← nums_intItems,← e]; exact hi.numsOf
 have hpos:0 < zs.size:=Nat.pos_of_ne_zero fun z => hne (by rw [← hns,Array.eq_empty_of_size_eq_zero z]; rfl)
 have hl:=pl.isList
 rw [e] at hl
 refine max_intList (I.ok.hd hc) hl hpos fun v h' tk hv hk => ?_
 obtain ⟨t,rfl⟩:=intItems_at hv
 obtain ⟨h1,h2⟩:=argBest_gt (numAt zs) (zs.size - 1)
 have hm:numAt zs (argBest (fun i j => decide (numAt zs i > numAt zs j)) (zs.size - 1)) = maxL ns:=by
  refine Int.le_antisymm (maxL_ge ?_) ?_
  ·rw [numAt_eq,hns]
   exact getD_mem (by rw [← hns,List.length_map,Array.length_toList]; omega)
  ·(refine Classical.byContradiction fun k_ => ?_; obtain ⟨j,hj,ej⟩:=mem_getD (maxL_mem hne); refine k_ ?_; clear k_)
   rw [← hns,List.length_map,Array.length_toList] at hj
   have:=h2 j (by omega)
   rw [numAt_eq zs j,hns,ej] at this
   exact this
 exact ⟨.int (maxL ns),H,I.kept hk,⟨t,by rw [hm]⟩,q⟩
theorem lift_mm {id:String} {f:List Int→Int} (h:CallR X (.builtin id) (fun xs H Q => ∃ a ns,xs = [.ref a]∧SqL X.K H a (ns.map V.int)∧ns≠[]∧Q (.int (f ns)) H)):CallR X (.builtin id) (liftC X.K (r3mm f)):=by
 intro pins s σ H xs us Q I rs t
 (refine Classical.byContradiction fun k_ => ?_; obtain ⟨ds,H3,Q3,hr,rd,t,k⟩:=t; refine k_ ?_; clear k_)
 cases rd with
 | nil => exact t.elim
 | cons r1 r2 =>
  cases r2 with
  | cons _ _ => cases r1 <;> exact t.elim
  | nil =>
   cases r1 with
   | ref a =>
    (delta r3mm at t; dsimp only at t)
    split at t
    ·rename_i ds ha
     split at t
     ·rename_i ns e
      (refine Classical.byContradiction fun k_ => ?_; obtain ⟨vs,ga,ra⟩:=hr a _ ha; refine k_ ?_; clear k_)
      have z:=intsOf_inv e
      subst z
      have z:=ra.ints_inv
      subst z
      exact h pins s σ H _ us Q I rs ⟨a,ns,rfl,SqL.of ga,t.1,k _ _ _ _ TK.refl hr (.int _) t.2⟩
     ·exact t.elim
    ·exact t.elim
   | _ => exact t.elim
theorem cb3_min (hc:X.calm = true):CallR X (.builtin "min") (liftC X.K r3min):=lift_mm (call_minL hc)
theorem cb3_max (hc:X.calm = true):CallR X (.builtin "max") (liftC X.K r3max):=lift_mm (call_maxL hc)
end
end L3
namespace L3
open PySem L2
theorem sizeLine_n:sizeLine = 16777216:=by decide
theorem small1000' {n:Nat} (h:n≤1000):n < sizeLine:=by rw [sizeLine_n]; omega
theorem upd3_old {H:Hp3} {a p:Addr} {o u:O3} (h:H a = some o) (n:H p = none):upd3 H p u a = some o:=by rw [upd3_ne (ne3 h n)]; exact h
theorem sub_upd {H H2:Hp3} {p:Addr} {o:O3} (s:Sub3 H H2) (h:H2 p = some o):Sub3 (upd3 H p o) H2:=fun b u e => by
 by_cases hb:b = p
 ·subst hb; rw [upd3_same] at e; cases e; exact h
 ·rw [upd3_ne hb] at e; exact s b u e
theorem sub_back {H H2:Hp3} {p:Addr} (s:Sub3 H H2) (h:H2 p = none):H p = none:=by
 cases e:H p with
 | none => rfl
 | some o => have:=s p o e; rw [h] at this; cases this
section
variable {σ:St3} {H:Hp3} {Q:VK3} {D0:Ends3} {i j:Int} {a b:Addr} {d x y:D} {ds es:List D} {ta tb te tc:TE3} {tr:TA3} {t u:TS3} {cA cB:TT3} {QL:List D→Hp3→Prop} {QB:Bool→Hp3→Prop}
theorem g_v3 {k:Nat} (h:σ[k]? = some (some d)) (q:Q d H):v3 k σ H Q:=by unfold v3; rw [h]; exact q
theorem g_c3 (q:Q d H):c3 d σ H Q:=q
theorem g_o3 {r:R3} (h:ta σ H fun x H1 => tb σ H1 fun y H2 => r x y H2 Q):o3 r ta tb σ H Q:=h
theorem g_u3 {r:D→Hp3→VK3→Prop} (h:ta σ H fun x H1 => r x H1 Q):u3 r ta σ H Q:=h
theorem g_neg (q:Q (.int (-i)) H):r3neg (.int i) H Q:=q
theorem g_sub (q:Q (.int (i - j)) H):i3sub (.int i) (.int j) H Q:=q
theorem g_add (q:Q (.int (i + j)) H):r3add (.int i) (.int j) H Q:=q
theorem g_mul (c:CMul i j) (q:Q (.int (i * j)) H):i3mul (.int i) (.int j) H Q:=⟨c,q⟩
theorem g_div (c:CDiv i j) (q:Q (.int (i / j)) H):i3div (.int i) (.int j) H Q:=⟨c,q⟩
theorem g_mod (c:0 < j) (q:Q (.int (i % j)) H):i3mod (.int i) (.int j) H Q:=⟨c,q⟩
theorem g_pow (c:CPow i j) (q:Q (.int (i ^ j.toNat)) H):i3pow (.int i) (.int j) H Q:=⟨c,q⟩
theorem g_le (q:Q (.bl (decide (i≤j))) H):i3le (.int i) (.int j) H Q:=q
theorem g_gt (q:Q (.bl (decide (j < i))) H):i3gt (.int i) (.int j) H Q:=q
theorem g_ge (q:Q (.bl (decide (j≤i))) H):i3ge (.int i) (.int j) H Q:=q
theorem g_lt (q:Q (.bl (decide (i < j))) H):r3lt (.int i) (.int j) H Q:=q
theorem g_ltT {x1 x2 y1 y2:Int} (q:Q (.bl (HT.lexLt [x1,x2] [y1,y2])) H):r3lt (.tup [.int x1,.int x2]) (.tup [.int y1,.int y2]) H Q:=q
theorem pyN_i (i:Int):pyN 4 (.int i) = some (.int i):=rfl
theorem pyN_b (b:Bool):pyN 4 (.bl b) = some (.bool b):=rfl
theorem pyN_p (x y:Int):pyN 5 (.tup [.int x,.int y]) = some (.tuple [.int x,.int y]):=rfl
theorem g_eqI (q:Q (.bl (decide (i = j))) H):r3eq (.int i) (.int j) H Q:=by
 have e:(i == j) = decide (i = j):=rfl
 (delta r3eq pyH; simp only [pyN_i,PyData.eqv,e]); exact q
theorem g_neI (q:Q (.bl (!decide (i = j))) H):r3ne (.int i) (.int j) H Q:=by
 have e:(i == j) = decide (i = j):=rfl
 (delta r3ne pyH; simp only [pyN_i,PyData.eqv,e]); exact q
theorem g_eqP {x1 x2 y1 y2:Int} (q:Q (.bl (decide ((x1,x2) = (y1,y2)))) H):r3eq (.tup [.int x1,.int x2]) (.tup [.int y1,.int y2]) H Q:=by
 have e:(PyData.eqvAll [.int x1,.int x2] [.int y1,.int y2]) = decide ((x1,x2) = (y1,y2)):=by
  simp only [PyData.eqvAll,PyData.eqv,Bool.and_true,Prod.mk.injEq,Bool.decide_and]; rfl
 (delta r3eq pyH; simp only [pyN_p,PyData.eqv,e]); exact q
theorem g_neP {x1 x2 y1 y2:Int} (q:Q (.bl (!decide ((x1,x2) = (y1,y2)))) H):r3ne (.tup [.int x1,.int x2]) (.tup [.int y1,.int y2]) H Q:=by
 have e:(PyData.eqvAll [.int x1,.int x2] [.int y1,.int y2]) = decide ((x1,x2) = (y1,y2)):=by
  simp only [PyData.eqvAll,PyData.eqv,Bool.and_true,Prod.mk.injEq,Bool.decide_and]; rfl
 (delta r3ne pyH; simp only [pyN_p,PyData.eqv,e]); exact q
theorem g_isN (q:Q (.bl (isN x)) H):r3isN x .non H Q:=q
theorem g_notN (q:Q (.bl (!isN x)) H):r3notN x .non H Q:=q
theorem g_ixT (h:atI ds i = some d) (q:Q d H):r3ix (.tup ds) (.int i) H Q:=by (delta r3ix; simp only [h]); exact q
theorem g_ixF (h:atI ds i = some d) (q:Q d H):r3ix (.fl ds) (.int i) H Q:=by (delta r3ix; simp only [h]); exact q
theorem g_ixL (ha:H a = some (.lst ds)) (h:atI ds i = some d) (q:Q d H):r3ix (.ref a) (.int i) H Q:=by (delta r3ix; simp only [ha,h]); exact q
theorem g_ts (h:te σ H fun d H1 => bt d H1 QB):ts3 te σ H QB:=h
theorem g_bt {k:Bool} (q:QB k H):bt (.bl k) H QB:=q
theorem g_an (h:cA σ H fun c H1 => if c = true then cB σ H1 QB else QB false H1):an3 cA cB σ H QB:=h
theorem g_or (h:cA σ H fun c H1 => if c = true then QB true H1 else cB σ H1 QB):or3 cA cB σ H QB:=h
theorem g_no (h:cA σ H fun c H1 => QB (!c) H1):no3 cA σ H QB:=h
def avk (tb:TE3) (σ:St3) (x:D) (H1:Hp3) (Q:VK3):Prop:=match x with
 | .bl c => if c = true then tb σ H1 Q else Q (.bl false) H1
 | _ => False
def ovk (tb:TE3) (σ:St3) (x:D) (H1:Hp3) (Q:VK3):Prop:=match x with
 | .bl c => if c = true then Q (.bl true) H1 else tb σ H1 Q
 | _ => False
def nvk (x:D) (H1:Hp3) (Q:VK3):Prop:=match x with
 | .bl c => Q (.bl (!c)) H1
 | _ => False
theorem g_av (h:ta σ H fun x H1 => avk tb σ x H1 Q):av3 ta tb σ H Q:=h
theorem g_avk {c:Bool} (h:if c = true then tb σ H Q else Q (.bl false) H):avk tb σ (.bl c) H Q:=h
theorem g_ov (h:ta σ H fun x H1 => ovk tb σ x H1 Q):ov3 ta tb σ H Q:=h
theorem g_ovk {c:Bool} (h:if c = true then Q (.bl true) H else tb σ H Q):ovk tb σ (.bl c) H Q:=h
theorem g_nv (h:ta σ H fun x H1 => nvk x H1 Q):nv3 ta σ H Q:=h
theorem g_nvk {c:Bool} (q:Q (.bl (!c)) H):nvk (.bl c) H Q:=q
theorem g_if3 (h:cA σ H fun c H1 => if c = true then ta σ H1 Q else tb σ H1 Q):if3 cA ta tb σ H Q:=h
theorem g_nil (q:QL [] H):nil3 σ H QL:=q
theorem g_cons (h:ta σ H fun x H1 => tr σ H1 fun xs H2 => QL (x::xs) H2):cons3 ta tr σ H QL:=h
theorem g_tp (h:tr σ H fun ds H1 => ds.length≤1000∧Q (.tup ds) H1):tp3 tr σ H Q:=h
theorem g_ls (h:tr σ H fun ds H1 => ds.length≤1000∧∀ p,H1 p = none→Q (.ref p) (upd3 H1 p (.lst ds))):ls3 tr σ H Q:=h
theorem g_and {q:Prop} {n:Nat} (h:Nat.ble ds.length n = true) (h2:q):ds.length≤n∧q:=⟨Nat.le_of_ble_eq_true h,h2⟩
theorem g_cb {r:List D→Hp3→VK3→Prop} (h:tr σ H fun ds H1 => r ds H1 Q):cb3 r tr σ H Q:=h
theorem g_lenT (q:Q (.int ds.length) H):r3len [.tup ds] H Q:=q
theorem g_lenF (q:Q (.int ds.length) H):r3len [.fl ds] H Q:=q
theorem g_lenL (ha:H a = some (.lst ds)) (q:Q (.int ds.length) H):r3len [.ref a] H Q:=by (delta r3len; simp only [ha]); exact q
theorem g_tupT (q:Q (.tup ds) H):r3tuple [.tup ds] H Q:=q
theorem g_tupL (ha:H a = some (.lst ds)) (q:Q (.tup ds) H):r3tuple [.ref a] H Q:=by (delta r3tuple; simp only [ha]); exact q
theorem g_listT (q:∀ p,H p = none→Q (.ref p) (upd3 H p (.lst ds))):r3list [.tup ds] H Q:=q
theorem g_listL (ha:H a = some (.lst ds)) (q:∀ p,H p = none→Q (.ref p) (upd3 H p (.lst ds))):r3list [.ref a] H Q:=by (delta r3list; simp only [ha]); exact q
theorem g_sl {tl th:TO3} {r:RSl} (h:te σ H fun x H1 => tl σ H1 fun l H2 => th σ H2 fun u H3 => r x l u H3 Q):sl3 r te tl th σ H Q:=h
theorem g_np {QO:Option Int→Hp3→Prop} (q:QO none H):np3 σ H QO:=q
def ptk (x:D) (H1:Hp3) (QO:Option Int→Hp3→Prop):Prop:=match x with
 | .int i => QO (some i) H1
 | _ => False
theorem g_pt {QO:Option Int→Hp3→Prop} (h:te σ H fun x H1 => ptk x H1 QO):pt3 te σ H QO:=h
theorem g_ptk {QO:Option Int→Hp3→Prop} (q:QO (some i) H):ptk (.int i) H QO:=q
theorem g_slF {lo hi:Option Int} (q:∀ p,H p = none→Q (.ref p) (upd3 H p (.lst (cut3 ds lo hi)))):r3sl (.fl ds) lo hi H Q:=q
theorem g_slL {lo hi:Option Int} (ha:H a = some (.lst ds)) (q:∀ p,H p = none→Q (.ref p) (upd3 H p (.lst (cut3 ds lo hi)))):r3sl (.ref a) lo hi H Q:=by (delta r3sl; simp only [ha]); exact q
theorem g_sq (h:t { D0 with nx:=u D0 } σ H):sq3 t u D0 σ H:=h
theorem g_st {k:Nat} (h:te σ H fun x H1 => D0.nx (σ.set k (some x)) H1):st3 k te D0 σ H:=h
theorem g_nx3 (h:D0.nx σ H):nx3 D0 σ H:=h
theorem g_br3 (h:D0.bk σ H):br3 D0 σ H:=h
theorem g_co3 (h:D0.ct σ H):co3 D0 σ H:=h
theorem g_dr (h:te σ H fun _ H1 => D0.nx σ H1):dr3 te D0 σ H:=h
theorem g_rt3 (h:te σ H fun d H1 => D0.rt d H1):rt3 te D0 σ H:=h
theorem g_rn3 (h:D0.rt .non H):rn3 D0 σ H:=h
theorem g_is (h:cA σ H fun b H1 => if b = true then t D0 σ H1 else u D0 σ H1):is3 cA t u D0 σ H:=h
theorem g_as {g:TG3} (h:te σ H fun x H1 => g x σ H1 D0.nx):as3 te g D0 σ H:=h
theorem g_gn {k:Nat} {R:St3→Hp3→Prop} (h:R (σ.set k (some d)) H):gn3 k d σ H R:=h
theorem g_g2 {k l:Nat} {R:St3→Hp3→Prop} (h:R ((σ.set k (some x)).set l (some y)) H):g2_3 k l (.tup [x,y]) σ H R:=h
theorem g_g3 {k l m:Nat} {z:D} {R:St3→Hp3→Prop} (h:R (((σ.set k (some x)).set l (some y)).set m (some z)) H):g3_3 k l m (.tup [x,y,z]) σ H R:=h
theorem g_nx {n:St3→Hp3→Prop} {r:VK3} {bk ct:St3→Hp3→Prop} (h:n σ H):Ends3.nx ⟨n,r,bk,ct⟩ σ H:=h
theorem g_rt {n:St3→Hp3→Prop} {r:VK3} {bk ct:St3→Hp3→Prop} (h:r d H):Ends3.rt ⟨n,r,bk,ct⟩ d H:=h
theorem g_bk {n:St3→Hp3→Prop} {r:VK3} {bk ct:St3→Hp3→Prop} (h:bk σ H):Ends3.bk ⟨n,r,bk,ct⟩ σ H:=h
theorem g_ct {n:St3→Hp3→Prop} {r:VK3} {bk ct:St3→Hp3→Prop} (h:ct σ H):Ends3.ct ⟨n,r,bk,ct⟩ σ H:=h
theorem g_fin {H':Hp3} (h:Q d H') (s:Sub3 H' H):Ends3.rt (fin3 Q) d H:=⟨H',s,h⟩
theorem g_finN {H':Hp3} (h:Q .non H') (s:Sub3 H' H):Ends3.nx (fin3 Q) σ H:=⟨H',s,h⟩
def Lp (g:TG3) (tb:TS3) (D0:Ends3) (σ:St3) (ds:List D) (keep:Hp3→Prop) (H1:Hp3):Prop:=∃ P:Nat→St3→Hp3→Prop,P 0 σ H1∧(∀ i σ H,i≤ds.length→P i σ H→keep H) ∧
 (∀ i d σ H,ds[i]? = some d→P i σ H→g d σ H fun σ2 H2 => tb { D0 with nx:=P (i + 1),ct:=P (i + 1),bk:=D0.nx } σ2 H2)∧∀ σ H,P ds.length σ H→D0.nx σ H
theorem g_fo {wi:TI3} {g:TG3} (h:wi σ H fun ds keep H1 => Lp g t D0 σ ds keep H1):fo3 wi g t D0 σ H:=h
theorem Lp.by {g:TG3} {keep:Hp3→Prop} (P:Nat→St3→Hp3→Prop) (h0:P 0 σ H) (hk:∀ i σ H,i≤ds.length→P i σ H→keep H)
  (turn:∀ i d σ H,ds[i]? = some d→P i σ H→g d σ H fun σ2 H2 => t { D0 with nx:=P (i + 1),ct:=P (i + 1),bk:=D0.nx } σ2 H2) (fin:∀ σ H,P ds.length σ H→D0.nx σ H):Lp g t D0 σ ds keep H:=⟨P,h0,hk,turn,fin⟩
theorem Lp.rng {g:TG3} {lo:Int} {n:Nat} (P:Nat→St3→Hp3→Prop) (h0:P 0 σ H)
  (turn:∀ (i:Nat) σ H,i < n→P i σ H→g (.int (lo + (i:Int))) σ H fun σ2 H2 => t { D0 with nx:=P (i + 1),ct:=P (i + 1),bk:=D0.nx } σ2 H2) (fin:∀ σ H,P n σ H→D0.nx σ H):Lp g t D0 σ (rng lo n) (fun _ => True) H :=
 ⟨P,h0,fun _ _ _ _ _ => trivial,fun i d σ H hd p => by
  have hi:i < n:=by
   have:=(List.getElem?_eq_some_iff.mp hd).1
   rwa [rng_len] at this
  rw [rng_get hi] at hd
  cases hd
  exact turn i σ H hi p,fun σ H p => fin σ H (by rw [rng_len] at p; exact p)⟩
theorem g_ir1 {R:List D→(Hp3→Prop)→Hp3→Prop} (h:ta σ H fun x H1 => rg1 x H1 R):ir1 ta σ H R:=h
theorem g_ir2 {R:List D→(Hp3→Prop)→Hp3→Prop} (h:ta σ H fun x H1 => tb σ H1 fun y H2 => rg2 x y H2 R):ir2 ta tb σ H R:=h
theorem g_rg1 {R:List D→(Hp3→Prop)→Hp3→Prop} (h:R (rng 0 j.toNat) (fun _ => True) H):rg1 (.int j) H R:=h
theorem g_rg2 {R:List D→(Hp3→Prop)→Hp3→Prop} (h:R (rng i (j - i).toNat) (fun _ => True) H):rg2 (.int i) (.int j) H R:=h
def ilk (x:D) (H1:Hp3) (R:List D→(Hp3→Prop)→Hp3→Prop):Prop:=match x with
 | .ref a => (match H1 a with
  | some (.lst ds) => R ds (fun H' => H' a = some (.lst ds)) H1
  | _ => False)
 | .fl ds => R ds (fun _ => True) H1
 | _ => False
def itk (x:D) (H1:Hp3) (R:List D→(Hp3→Prop)→Hp3→Prop):Prop:=match x with
 | .tup ds => R ds (fun _ => True) H1
 | _ => False
theorem g_il {R:List D→(Hp3→Prop)→Hp3→Prop} (h:te σ H fun x H1 => ilk x H1 R):il3 te σ H R:=h
theorem g_ilR {R:List D→(Hp3→Prop)→Hp3→Prop} (ha:H a = some (.lst ds)) (h:R ds (fun H' => H' a = some (.lst ds)) H):ilk (.ref a) H R:=by (delta ilk; simp only [ha]); exact h
theorem g_ilF {R:List D→(Hp3→Prop)→Hp3→Prop} (h:R ds (fun _ => True) H):ilk (.fl ds) H R:=h
theorem g_it {R:List D→(Hp3→Prop)→Hp3→Prop} (h:te σ H fun x H1 => itk x H1 R):it3 te σ H R:=h
theorem g_itT {R:List D→(Hp3→Prop)→Hp3→Prop} (h:R ds (fun _ => True) H):itk (.tup ds) H R:=h
theorem g_wh (P:St3→Hp3→Prop) (μ:St3→Hp3→Nat) (h0:P σ H) (turn:∀ σ H,P σ H→cA σ H fun b H1 => if b = true then t { D0 with nx:=fun σ' H' => P σ' H'∧μ σ' H' < μ σ H,ct:=fun σ' H' => P σ' H'∧μ σ' H' < μ σ H,bk:=D0.nx } σ H1 else D0.nx σ H1):wh3 cA t D0 σ H:=⟨P,μ,h0,turn⟩
def mtk (r:D→List D→Hp3→VK3→Prop) (t:TA3) (σ:St3) (x:D) (H1:Hp3) (Q:VK3):Prop:=match x with
 | .ref a => (match H1 a with
  | some (.lst _) => t σ H1 fun xs H2 => r x xs H2 Q
  | _ => False)
 | _ => False
theorem g_m3 {r:D→List D→Hp3→VK3→Prop} (h:te σ H fun x H1 => mtk r tr σ x H1 Q):m3 r te tr σ H Q:=h
theorem g_mtk {r:D→List D→Hp3→VK3→Prop} (ha:H a = some (.lst ds)) (h:tr σ H fun xs H2 => r (.ref a) xs H2 Q):mtk r tr σ (.ref a) H Q:=by (delta mtk; simp only [ha]); exact h
theorem g_app (ha:H a = some (.lst ds)) (hl:ds.length < sizeLine) (q:Q .non (upd3 H a (.lst (ds++[y])))):r3app (.ref a) [y] H Q:=by (delta r3app; simp only [ha]); exact ⟨hl,q⟩
theorem g_ext (ha:H a = some (.lst ds)) (hb:H b = some (.lst es)) (hl:ds.length + es.length≤sizeLine) (q:Q .non (upd3 H a (.lst (ds++es)))):r3ext (.ref a) [.ref b] H Q:=by (delta r3ext; simp only [ha,hb]); exact ⟨hl,q⟩
theorem g_pop (ha:H a = some (.lst ds)) (hy:ds[ds.length - 1]? = some y) (q:Q y (upd3 H a (.lst ds.dropLast))):r3pop (.ref a) [] H Q:=by (delta r3pop; simp only [ha,hy]); exact q
theorem seq_ref (ha:H a = some (.lst ds)):seqH H (.ref a) = some ds:=by (delta seqH; simp only [ha])
theorem g_isi {U T:String} (h:tyH H x = some U) (hT:T∈kinds) (q:Q (.bl (isT U T)) H):r3isi [x,.ty T] H Q:=by
 (delta r3isi; simp only [h]); exact ⟨hT,q⟩
theorem atI_map {α:Type} {xs:List α} {f:α→D} {k:Int} (h0:0≤k) (h1:k.toNat < xs.length):atI (xs.map f) k = some (f (xs[k.toNat]'h1)):=by
 have hl:k < ((xs.map f).length:Int):=by rw [List.length_map]; omega
 unfold atI ixN
 rw [if_pos h0,if_pos hl,Option.bind_some,List.getElem?_map,List.getElem?_eq_getElem h1]
 rfl
theorem py_pts:∀ ps:List Pt,mapO (pyN 4) (ps.map prP) = some (ps.map fun p => PyData.tuple [.int p.1,.int p.2])
 | [] => rfl
 | p::ps => by
  have e:pyN 4 (prP p) = some (PyData.tuple [.int p.1,.int p.2]):=rfl
  simp only [List.map_cons,mapO,e,py_pts ps]
theorem eqv_pt (p q:Pt):PyData.eqv (PyData.tuple [.int p.1,.int p.2]) (PyData.tuple [.int q.1,.int q.2]) = decide (p = q):=by
 obtain ⟨a,b⟩:=p
 obtain ⟨c,d⟩:=q
 simp only [PyData.eqv,PyData.eqvAll,Bool.and_true,Prod.mk.injEq,Bool.decide_and]; rfl
theorem any_pt (p:Pt):∀ ps:List Pt,(ps.map fun p => PyData.tuple [.int p.1,.int p.2]).any (fun q => PyData.eqv q (PyData.tuple [.int p.1,.int p.2])) = decide (p∈ps)
 | [] => by simp
 | q::ps => by
  rw [List.map_cons,List.any_cons,any_pt p ps,eqv_pt]
  by_cases h:q = p
  ·subst h; simp
  ·have h':¬ p = q:=fun e => h e.symm
   simp [h,h']
theorem g_ninP {p1 p2:Int} {ps:List Pt} (h:seqH H y = some (ps.map prP)) (q:Q (.bl (!decide ((p1,p2)∈ps))) H):r3in true (.tup [.int p1,.int p2]) y H Q:=by
 have e:pyN 4 (.tup [.int p1,.int p2]) = some (PyData.tuple [.int p1,.int p2]):=rfl
 (delta r3in; simp only [e,h,Option.bind_some,py_pts])
 rw [← any_pt (p1,p2) ps] at q
 exact q
def Cp (g:TG3) (tc:TT3) (te:TE3) (σ0:St3) (ds:List D) (keep:Hp3→Prop) (H1:Hp3) (Q:VK3):Prop:=(∀ H2:Hp3,Sub3 H1 H2→keep H2)∧ds.length≤10000∧∃ rs:List (Option D),rs.length = ds.length ∧
 (∀ (i:Nat) (d:D),ds[i]? = some d→∀ H2:Hp3,Sub3 H1 H2→g d σ0 H2 fun σ2 H4 => tc σ2 H4 fun b H5 =>
  if b = true then te σ2 H5 fun v H6 => Sub3 H2 H6∧rs[i]? = some (some v) else Sub3 H2 H5∧rs[i]? = some none) ∧
 ∀ p,H1 p = none→Q (.ref p) (upd3 H1 p (.lst (rs.filterMap id)))
def blk3 (own:List Str) (fv:FV) (σ:St3):St3:=own.map (fun _ => none)++fv.map fun p => (σ[p.1]?).join
theorem g_cp {wi:TI3} {g:TG3} {own:List Str} {fv:FV} (h:wi σ H fun ds keep H1 => Cp g cA te (blk3 own fv σ) ds keep H1 Q):cp3 wi g cA te own fv σ H Q:=h
theorem g_yes (q:QB true H):yes3 σ H QB:=q
theorem Cp.map {α:Type} {g:TG3} {keep:Hp3→Prop} {σ0:St3} {as:List α} {E:α→D} (F:α→D) (hk:∀ H2:Hp3,Sub3 H H2→keep H2) (hl:as.length≤1000)
  (hel:∀ (i:Nat) a,as[i]? = some a→∀ (R:VK3) (H2:Hp3),Sub3 H H2→(∀ H6,Sub3 H2 H6→R (F a) H6)→g (E a) σ0 H2 fun σ2 H4 => te σ2 H4 R)
  (fin:∀ p,H p = none→Q (.ref p) (upd3 H p (.lst (as.map F)))):Cp g yes3 te σ0 (as.map E) keep H Q:=by
 refine ⟨hk,by rw [List.length_map]; exact Nat.le_trans hl (by decide),as.map (fun a => some (F a)),by simp,fun i d hd H2 hs => ?_,fun p hp => ?_⟩
 ·rw [List.getElem?_map] at hd
  cases e:as[i]? with
  | none => rw [e] at hd; cases hd
  | some a =>
   rw [e] at hd
   cases hd
   have er:(as.map fun a => some (F a))[i]? = some (some (F a)):=by rw [List.getElem?_map,e]; rfl
   exact hel i a e _ H2 hs fun H6 h6 => ⟨h6,er⟩
 ·have e:∀ as:List α,(as.map fun a => some (F a)).filterMap id = as.map F:=by
   intro as
   induction as with
   | nil => rfl
   | cons a as ih => rw [List.map_cons,List.filterMap_cons,List.map_cons,← ih]; rfl
  rw [e]
  exact fin p hp
theorem g_min {ns:List Int} (ha:H a = some (.lst (ns.map D.int))) (hn:ns≠[]) (q:Q (.int (minL ns)) H):r3min [.ref a] H Q:=by
 simp only [r3min,r3mm,ha,intsOf_map]; exact ⟨hn,q⟩
theorem g_max {ns:List Int} (ha:H a = some (.lst (ns.map D.int))) (hn:ns≠[]) (q:Q (.int (maxL ns)) H):r3max [.ref a] H Q:=by
 simp only [r3max,r3mm,ha,intsOf_map]; exact ⟨hn,q⟩
theorem g_so {sp:Sp3} (h:te σ H fun x H1 => sok sp x H1 Q):so3 sp te σ H Q:=h
theorem g_eqB {k l:Bool} (q:Q (.bl (k == l)) H):r3eq (.bl k) (.bl l) H Q:=by
 (delta r3eq pyH; simp only [pyN_b,PyData.eqv]); exact q
theorem ifD {p A B:Prop} [Decidable p] (h1:p→A) (h2:¬ p→B):if decide p = true then A else B:=by
 by_cases h:p
 ·rw [if_pos (decide_eq_true h)]; exact h1 h
 ·rw [if_neg (by simpa using h)]; exact h2 h
theorem ifN {p A B:Prop} [Decidable p] (h1:¬ p→A) (h2:p→B):if (!decide p) = true then A else B:=by
 by_cases h:p
 ·rw [if_neg (by simpa using h)]; exact h2 h
 ·rw [if_pos (by simpa using h)]; exact h1 h
theorem ifB {c:Bool} {A B:Prop} (h1:c = true→A) (h2:c = false→B):if c = true then A else B:=by
 cases c
 ·rw [if_neg Bool.false_ne_true]; exact h2 rfl
 ·rw [if_pos rfl]; exact h1 rfl
theorem ifY {c:Bool} {A B:Prop} (hc:c = true) (h:A):if c = true then A else B:=by rw [if_pos hc]; exact h
theorem ifX {c:Bool} {A B:Prop} (hc:c = false) (h:B):if c = true then A else B:=by subst hc; exact h
end
end L3
namespace L3
open PySem PySem.W PyProof.Rows
section
variable {cmp:Nat→Nat→(Bool→Shared→Prop)→Shared→Prop} {n:Nat} {z:Nat→Int} {s:Shared}
def ak (z:Nat→Int) (p:Array Nat) (t:Nat):Int:=z (p.getD t 0)
theorem getD_of {p:Array Nat} {t:Nat}:p.getD t 0 = (p[t]?).getD 0:=by simp [Array.getD_eq_getD_getElem?]
theorem ak_congr {p q:Array Nat} {t u:Nat} (h:p[t]? = q[u]?):ak z p t = ak z q u:=by unfold ak; rw [getD_of,getD_of,h]
def Pm (n:Nat) (p:Array Nat):Prop:=p.Perm (List.range n).toArray
theorem Pm.size {p:Array Nat} (h:Pm n p):p.size = n:=by have:=Array.Perm.size_eq h; simpa using this
theorem Pm.lt {p:Array Nat} (h:Pm n p) {t:Nat} (ht:t < n):p.getD t 0 < n:=by
 have hs:t < p.size:=by rw [h.size]; exact ht
 have e:p.getD t 0 = p[t]:=by rw [getD_of,Array.getElem?_eq_getElem hs]; rfl
 have hm:p[t]∈p:=Array.getElem_mem hs
 have:=(Array.Perm.mem_iff h).mp hm
 rw [e]
 simpa using this
theorem Pm.rev {p:Array Nat} (h:Pm n p) (i j:Nat):Pm n (kas_rev p i j):=(mirror_perm p i j _).trans h
theorem Pm.bub {p:Array Nat} (h:Pm n p) (k d:Nat):Pm n (bubble p k d):=(bubble_perm p k d).trans h
theorem ak_rev {p:Array Nat} {i j:Nat} (hj:j≤p.size) (k:Nat):ak z (kas_rev p i j) k = if i≤k∧k < j then ak z p (i + j - 1 - k) else ak z p k:=by
 have e:=getElem?_mirror_all (i:=i) hj k
 by_cases h:i≤k∧k < j
 ·rw [if_pos h] at e ⊢; exact ak_congr e
 ·rw [if_neg h] at e ⊢; exact ak_congr e
theorem ak_rev_eq {p:Array Nat} {i j:Nat} (hj:j≤p.size) (heq:∀ t,i≤t→t < j→ak z p t = ak z p (j - 1)) (k:Nat):ak z (kas_rev p i j) k = ak z p k:=by
 rw [ak_rev hj]
 split
 ·rw [heq _ (by omega) (by omega),heq k (by omega) (by omega)]
 ·rfl
def CmpOk (cmp:Nat→Nat→(Bool→Shared→Prop)→Shared→Prop) (n:Nat) (z:Nat→Int) (s:Shared):Prop:=∀ i j C,i < n→j < n→C (decide (z i < z j)) s→cmp i j C s
theorem k_asc (hc:CmpOk cmp n z s) {p:Array Nat} (hp:Pm n p) {Q:Nat→Shared→Prop}:∀ (f m:Nat),1≤m→m + f≤n →
  (∀ r,m≤r→r≤m + f→(∀ t,m≤t→t < r→ak z p (t - 1)≤ak z p t)→(r < m + f→ak z p r < ak z p (r - 1))→Q r s)→(kas_asc p f m).kasWp cmp Q s
 | 0,m,_,_,h => h m (Nat.le_refl _) (Nat.le_refl _) (fun t h1 h2 => absurd h1 (by grind)) (fun z => absurd z (by grind))
 | f + 1,m,h1,h2,h => by
  refine hc _ _ _ (hp.lt (by grind)) (hp.lt (by grind)) ?_
  by_cases hlt:z (p.getD m 0) < z (p.getD (m - 1) 0)
  ·rw [decide_eq_true hlt]
   exact h m (Nat.le_refl _) (by grind) (fun t g1 g2 => absurd g1 (by grind)) (fun _ => hlt)
  ·rw [decide_eq_false hlt]
   refine k_asc hc hp f (m + 1) (by grind) (by grind) fun r r1 r2 r3 r4 => h r (by grind) (by grind) (fun t t1 t2 => ?_) (fun z => r4 (by grind))
   by_cases ht:t = m
   ·subst ht; exact Int.not_lt.mp hlt
   ·exact r3 t (by grind) t2
def SorP (z:Nat→Int) (p:Array Nat) (k:Nat):Prop:=∀ i j,i≤j→j < k→ak z p i≤ak z p j
def NonP (z:Nat→Int) (p:Array Nat) (k:Nat):Prop:=∀ i j,i≤j→j < k→ak z p j≤ak z p i
theorem sor_of {p:Array Nat} {m r:Nat} (h0:SorP z p m) (h1:1≤m) (h:∀ t,m≤t→t < r→ak z p (t - 1)≤ak z p t):SorP z p r:=by
 intro i j hij hj
 induction j with
 | zero => have:i = 0:=(by grind); subst this; exact Int.le_refl _
 | succ j ih =>
  by_cases e:i = j + 1
  ·subst e; exact Int.le_refl _
  ·by_cases hm:j + 1 < m
   ·exact h0 i (j + 1) hij hm
   ·exact Int.le_trans (ih (by grind) (by grind)) (h (j + 1) (by grind) hj)
theorem k_desc (hc:CmpOk cmp n z s) {Q:Array Nat×Nat×Nat→Shared→Prop}:∀ (f:Nat) (p:Array Nat) (m q:Nat),Pm n p→1≤m→m + f≤n→q < m→NonP z p m→(∀ t,m - 1 - q≤t→t < m→ak z p t = ak z p (m - 1)) →
  (∀ p' r q',Pm n p'→1≤r→r≤m + f→q' < r→NonP z p' r→(∀ t,r - 1 - q'≤t→t < r→ak z p' t = ak z p' (r - 1))→Q (p',r,q') s)→(kas_desc f p m q).kasWp cmp Q s
 | 0,p,m,q,hp,h1,h2,hq,hn,he,h => h p m q hp h1 (Nat.le_refl _) hq hn he
 | f + 1,p,m,q,hp,h1,h2,hq,hn,he,h => by
  have hsz:=hp.size
  refine hc _ _ _ (hp.lt (by grind)) (hp.lt (by grind)) ?_
  by_cases hlt:ak z p m < ak z p (m - 1)
  ·rw [decide_eq_true (show z (p.getD m 0) < z (p.getD (m - 1) 0) from hlt)]
   by_cases hq0:q > 0
   ·have ek:∀ k,ak z (kas_rev p (m - (q + 1)) m) k = ak z p k:=ak_rev_eq (by grind) (fun t t1 t2 => he t (by grind) t2)
    show (if q > 0 then kas_desc f (kas_rev p (m - (q + 1)) m) (m + 1) 0 else kas_desc f p (m + 1) 0).kasWp cmp Q s
    rw [if_pos hq0]
    refine k_desc hc f _ (m + 1) 0 (hp.rev _ _) (by grind) (by grind) (by grind) ?_ ?_ fun p' r q' a1 a2 a3 a4 a5 a6 => h p' r q' a1 a2 (by grind) a4 a5 a6
    ·intro i j hij hj
     rw [ek,ek]
     by_cases e:j = m
     ·subst e
      by_cases e2:i = j
      ·subst e2; exact Int.le_refl _
      ·exact Int.le_trans (Int.le_of_lt hlt) (hn i (j - 1) (by grind) (by grind))
     ·exact hn i j hij (by grind)
    ·intro t t1 t2
     have:t = m:=by grind
     subst this; rfl
   ·show (if q > 0 then kas_desc f (kas_rev p (m - (q + 1)) m) (m + 1) 0 else kas_desc f p (m + 1) 0).kasWp cmp Q s
    rw [if_neg hq0]
    refine k_desc hc f _ (m + 1) 0 hp (by grind) (by grind) (by grind) ?_ ?_ fun p' r q' a1 a2 a3 a4 a5 a6 => h p' r q' a1 a2 (by grind) a4 a5 a6
    ·intro i j hij hj
     by_cases e:j = m
     ·subst e
      by_cases e2:i = j
      ·subst e2; exact Int.le_refl _
      ·exact Int.le_trans (Int.le_of_lt hlt) (hn i (j - 1) (by grind) (by grind))
     ·exact hn i j hij (by grind)
    ·intro t t1 t2
     have:t = m:=by grind
     subst this; rfl
  ·rw [decide_eq_false (show ¬ z (p.getD m 0) < z (p.getD (m - 1) 0) from hlt)]
   refine hc _ _ _ (hp.lt (by grind)) (hp.lt (by grind)) ?_
   by_cases hgt:ak z p (m - 1) < ak z p m
   ·rw [decide_eq_true (show z (p.getD (m - 1) 0) < z (p.getD m 0) from hgt)]
    exact h p m q hp h1 (by grind) hq hn he
   ·rw [decide_eq_false (show ¬ z (p.getD (m - 1) 0) < z (p.getD m 0) from hgt)]
    have eq:ak z p m = ak z p (m - 1):=by grind
    refine k_desc hc f p (m + 1) (q + 1) hp (by grind) (by grind) (by grind) ?_ ?_ fun p' r q' a1 a2 a3 a4 a5 a6 => h p' r q' a1 a2 (by grind) a4 a5 a6
    ·intro i j hij hj
     by_cases e:j = m
     ·subst e
      by_cases e2:i = j
      ·subst e2; exact Int.le_refl _
      ·rw [eq]; exact hn i (j - 1) (by grind) (by grind)
     ·exact hn i j hij (by grind)
    ·intro t t1 t2
     show ak z p t = ak z p m
     by_cases e:t = m
     ·subst e; rfl
     ·rw [eq]; exact he t (by grind) (by grind)
theorem k_tail (hc:CmpOk cmp n z s) {p:Array Nat} {m:Nat} (hp:Pm n p) (h1:1≤m) (hm:m≤n) (hn:NonP z p m) {Q:Nat×Array Nat→Shared→Prop}
  (h:∀ r p',Pm n p'→1≤r→r≤n→SorP z p' r→Q (r,p') s):(kas_tail3 m n p).kasWp cmp Q s:=by
 unfold kas_tail3
 rw [KasT.kasWp_bind]
 have hsz:=hp.size
 have hs:SorP z (kas_rev p 0 m) m:=fun i j hij hj => by
  rw [ak_rev (by grind),ak_rev (by grind),if_pos ⟨by grind,by grind⟩,if_pos ⟨by grind,by grind⟩]
  exact hn _ _ (by grind) (by grind)
 refine k_asc hc (hp.rev 0 m) _ m h1 (by grind) fun r r1 r2 r3 _ => h r _ (hp.rev 0 m) (by grind) (by grind) (sor_of hs h1 r3)
theorem k_descPart (hc:CmpOk cmp n z s) {p:Array Nat} {m:Nat} (hp:Pm n p) (h1:1≤m) (hm:m + 1≤n) (hn:∀ t,t < m→ak z p t = ak z p (m - 1)) (hd:ak z p m < ak z p (m - 1)) {Q:Nat×Array Nat→Shared→Prop}
  (h:∀ r p',Pm n p'→1≤r→r≤n→SorP z p' r→Q (r,p') s):(kas_descPart m n p).kasWp cmp Q s:=by
 unfold kas_descPart
 rw [KasT.kasWp_bind]
 refine k_desc hc _ p (m + 1) 0 hp (by grind) (by grind) (by grind) ?_ ?_ ?_
 ·intro i j hij hj
  by_cases e:j = m
  ·subst e
   by_cases e2:i = j
   ·subst e2; exact Int.le_refl _
   ·rw [hn i (by grind)]; exact Int.le_of_lt hd
  ·rw [hn i (by grind),hn j (by grind)]; exact Int.le_refl _
 ·intro t t1 t2
  have:t = m:=by grind
  subst this; rfl
 ·intro p' r q' a1 a2 a3 a4 a5 a6
  have hsz:=a1.size
  show (if q' > 0 then kas_tail3 r n (kas_rev p' (r - (q' + 1)) r) else kas_tail3 r n p').kasWp cmp Q s
  by_cases hq:q' > 0
  ·rw [if_pos hq]
   have ek:∀ k,ak z (kas_rev p' (r - (q' + 1)) r) k = ak z p' k:=ak_rev_eq (by grind) (fun t t1 t2 => a6 t (by grind) t2)
   exact k_tail hc (a1.rev _ _) a2 (by grind) (fun i j hij hj => by rw [ek,ek]; exact a5 i j hij hj) h
  ·rw [if_neg hq]
   exact k_tail hc a1 a2 (by grind) a5 h
theorem k_count (hc:CmpOk cmp n z s) {p:Array Nat} (hp:Pm n p) (hn:1≤n) {Q:Nat×Array Nat→Shared→Prop} (h:∀ r p',Pm n p'→1≤r→r≤n→SorP z p' r→Q (r,p') s):(kas_count n p).kasWp cmp Q s:=by
 unfold kas_count
 rw [KasT.kasWp_bind]
 have hsz:=hp.size
 refine k_asc hc hp _ 1 (Nat.le_refl _) (by grind) fun r r1 r2 r3 r4 => ?_
 have hs:SorP z p r:=sor_of (m:=1) (fun i j hij hj => by
  have e1:i = 0:=by grind
  have e2:j = 0:=by grind
  subst e1; subst e2; exact Int.le_refl _) (Nat.le_refl _) r3
 by_cases e:r = n
 ·rw [if_pos (by rw [e]; exact beq_self_eq_true n)]
  exact h r p hp r1 (by grind) hs
 ·rw [if_neg (by simpa using e)]
  have hd:=r4 (by grind)
  by_cases hr:r > 1
  ·rw [if_pos hr]
   refine hc _ _ _ (hp.lt (by grind)) (hp.lt (by grind)) ?_
   by_cases hlt:ak z p 0 < ak z p (r - 1)
   ·rw [decide_eq_true (show z (p.getD 0 0) < z (p.getD (r - 1) 0) from hlt)]
    exact h r p hp r1 (by grind) hs
   ·rw [decide_eq_false (show ¬ z (p.getD 0 0) < z (p.getD (r - 1) 0) from hlt)]
    have heq:∀ t,t < r→ak z p t = ak z p (r - 1):=fun t ht => by
     have g1:=hs 0 t (by grind) ht
     have g2:=hs t (r - 1) (by grind) (by grind)
     grind
    have ek:∀ k,ak z (kas_rev p 0 r) k = ak z p k:=ak_rev_eq (by grind) (fun t t1 t2 => heq t t2)
    exact k_descPart hc (hp.rev 0 r) r1 (by grind) (fun t ht => by rw [ek,ek]; exact heq t ht) (by rw [ek,ek]; exact hd) h
  ·rw [if_neg hr]
   have e1:r = 1:=by grind
   subst e1
   exact k_descPart hc hp r1 (by grind) (fun t ht => by have:t = 0:=(by grind); subst this; rfl) hd h
theorem k_place (hc:CmpOk cmp n z s) {p:Array Nat} {k:Nat} (hp:Pm n p) (hk:k < n) (hs:SorP z p k) {Q:Nat→Shared→Prop}:∀ (f l r:Nat),l≤r→r≤k→r - l≤f→(∀ t,t < l→ak z p t≤ak z p k)→(∀ t,r≤t→t < k→ak z p k < ak z p t) →
  (∀ l',l'≤k→(∀ t,t < l'→ak z p t≤ak z p k)→(∀ t,l'≤t→t < k→ak z p k < ak z p t)→Q l' s)→(kas_place p k f l r).kasWp cmp Q s
 | 0,l,r,h1,h2,h3,h4,h5,h => h l (by grind) h4 (fun t t1 t2 => h5 t (by grind) t2)
 | f + 1,l,r,h1,h2,h3,h4,h5,h => by
  show (if l ≥ r then KasT.ret l else .ask (p.getD k 0) (p.getD ((l + r) / 2) 0) fun c => if c = true then kas_place p k f l ((l + r) / 2) else kas_place p k f ((l + r) / 2 + 1) r).kasWp cmp Q s
  by_cases hlr:l ≥ r
  ·rw [if_pos hlr]
   exact h l (by grind) h4 (fun t t1 t2 => h5 t (by grind) t2)
  ·rw [if_neg hlr]
   refine hc _ _ _ (hp.lt (by grind)) (hp.lt (by grind)) ?_
   by_cases hlt:ak z p k < ak z p ((l + r) / 2)
   ·rw [decide_eq_true (show z (p.getD k 0) < z (p.getD ((l + r) / 2) 0) from hlt)]
    exact k_place hc hp hk hs f l ((l + r) / 2) (by grind) (by grind) (by grind) h4 (fun t t1 t2 => by
     have:=hs ((l + r) / 2) t t1 t2
     grind) h
   ·rw [decide_eq_false (show ¬ z (p.getD k 0) < z (p.getD ((l + r) / 2) 0) from hlt)]
    exact k_place hc hp hk hs f ((l + r) / 2 + 1) r (by grind) h2 (by grind) (fun t ht => by
     have:=hs t ((l + r) / 2) (by grind) (by grind)
     grind) h5 h
theorem k_bin (hc:CmpOk cmp n z s) {Q:Array Nat→Shared→Prop}:∀ (f:Nat) (p:Array Nat) (k:Nat),k + f = n→Pm n p→SorP z p k→(∀ p',Pm n p'→SorP z p' n→Q p' s)→(kas_bin f p k).kasWp cmp Q s
 | 0,p,k,h1,hp,hs,h => h p hp (by rw [← h1]; exact hs)
 | f + 1,p,k,h1,hp,hs,h => by
  show ((kas_place p k k 0 k).bind fun l => kas_bin f (bubble p k (k - l)) (k + 1)).kasWp cmp Q s
  rw [KasT.kasWp_bind]
  have hsz:=hp.size
  refine k_place hc hp (by grind) hs k 0 k (Nat.zero_le _) (Nat.le_refl _) (by grind) (fun t ht => absurd ht (by grind)) (fun t t1 t2 => absurd t1 (by grind)) fun l l1 l2 l3 => ?_
  refine k_bin hc f _ (k + 1) (by grind) (hp.bub _ _) ?_ h
  have eb:∀ t,ak z (bubble p k (k - l)) t = if t = l then ak z p k else if l < t∧t≤k then ak z p (t - 1) else ak z p t:=fun t => by
   have e:=getElem?_bubble (xs:=p) (src:=k) (by grind) (k - l) (by grind) t
   rw [show k - (k - l) = l by grind] at e
   by_cases g1:t = l
   ·rw [if_pos g1] at e ⊢; exact ak_congr e
   ·rw [if_neg g1] at e ⊢
    by_cases g2:l < t∧t≤k
    ·rw [if_pos g2] at e ⊢; exact ak_congr e
    ·rw [if_neg g2] at e ⊢; exact ak_congr e
  intro i j hij hj
  rw [eb,eb]
  by_cases i1:i = l
  ·rw [if_pos i1]
   by_cases j1:j = l
   ·rw [if_pos j1]; exact Int.le_refl _
   ·rw [if_neg j1,if_pos ⟨by grind,by grind⟩]
    exact Int.le_of_lt (l3 (j - 1) (by grind) (by grind))
  ·rw [if_neg i1]
   by_cases i2:l < i∧i≤k
   ·rw [if_pos i2,if_neg (by grind),if_pos ⟨by grind,by grind⟩]
    exact hs _ _ (by grind) (by grind)
   ·rw [if_neg i2]
    by_cases j1:j = l
    ·rw [if_pos j1]; exact l2 i (by grind)
    ·rw [if_neg j1]
     by_cases j2:l < j∧j≤k
     ·rw [if_pos j2]; exact hs _ _ (by grind) (by grind)
     ·rw [if_neg j2]; exact hs _ _ hij (by grind)
theorem k_sort (hc:CmpOk cmp n z s) (hn:1≤n) {Q:Array Nat→Shared→Prop} (h:∀ p,Pm n p→SorP z p n→Q p s):(kas_sort n).kasWp cmp Q s:=by
 unfold kas_sort
 rw [KasT.kasWp_bind]
 refine k_count hc (Array.Perm.refl _) hn fun r p hp h1 h2 hs => ?_
 show (if r < n then kas_bin (n - max r 1) p (max r 1) else .ret p).kasWp cmp Q s
 have e:max r 1 = r:=by grind
 by_cases hr:r < n
 ·rw [if_pos hr,e]
  exact k_bin hc _ p r (by grind) hp hs h
 ·rw [if_neg hr]
  have:r = n:=by grind
  subst this
  exact h p hp hs
end
end L3
namespace L3
open PySem PySem.Spec PySem.W PyProof.Rows
section
variable {prog:Program} {w:World} {A:Around} {E:Value→Shared→Prop} {s:Shared}
structure SortJ (prog:Program) (w:World) (A:Around) (s:Shared) (vs:List Value) (f:Value) (z:Nat→Int) (Q:Value→Shared→Prop) (D kS:Addr) (J:Nat→List Value→Nat→Shared→Prop):Prop where
 start:∀ e1 h',(∀ b o,s.heap.get? b = some o→h'.get? b = some o)→h'.get? D = some (seqObj "list" #[] e1)→h'.get? kS = some (seqObj "list" #[] 0)→J e1 [] 0 { s with heap:=h' }
 stand:∀ e1 ks e s1,J e1 ks e s1→s1.heap.get? kS = some (seqObj "list" (List.toArray ks) e)∧s1.heap.get? D = some (seqObj "list" #[] e1)
 turn:∀ e1 ks e s1 x,J e1 ks e s1→vs[ks.length]? = some x→wpAny (model prog w) A (call f [x]) (fun k s2 => s2.heap.get? kS = some (seqObj "list" (List.toArray ks) e) ∧
  ∀ c h',Heap.SameBut kS s2.heap h'→h'.get? kS = some (seqObj "list" (List.toArray (ks++[k])) c)→J e1 (ks++[k]) c { s2 with heap:=h' }) (fun _ _ => False) s1
 order:∀ e1 ks e s1,J e1 ks e s1→ks.length = vs.length→2≤vs.length→wpAny (model prog w) A (keyKind' (List.toArray ks)) (fun κ s2 => s2 = s1∧CmpOk (kas_ask prog w A κ ks) vs.length z s1) (fun _ _ => False) s1
 fin:∀ e1 ks e s1 (p:Array Nat),J e1 ks e s1→ks.length = vs.length→Pm vs.length p→SorP z p vs.length→∀ h' c,(∀ b o,b≠kS→b≠D→s1.heap.get? b = some o→h'.get? b = some o) →
  h'.get? D = some (seqObj "list" (List.toArray (p.toList.map fun i => vs.getD i Value.none)) c)→Q (.ref D) { s1 with heap:=h' }
theorem sort_tail {D kS:Addr} {ks:List Value} {e e1:Nat} {st:SortSt} {out:List Value} {P:PySem.Fin→Shared→Prop} (hk:s.heap.get? kS = some (seqObj "list" (List.toArray ks) e)) (hD:s.heap.get? D = some (seqObj "list" #[] e1)) (ne:D≠kS)
  (ho:(arrOf st).map (·.2) = List.toArray out) (hf:failedOf st = none) (h1:ks.length < 64) (h2:out.length < 64)
  (h:∀ h' c,(∀ b o,b≠kS→b≠D→s.heap.get? b = some o→h'.get? b = some o)→h'.get? D = some (seqObj "list" (List.toArray out) c)→P (.done (.ret .none)) { s with heap:=h' }):wpAny (model prog w) A (ksk_tail D false e1 (.ref kS) st) P E s:=by
 have s1:=Heap.SameBut.update s.heap kS (Obj.mapSeq fun _ => (#[]:Array Value))
 have hD1:(s.heap.update kS (Obj.mapSeq fun _ => (#[]:Array Value))).get? D = some (seqObj "list" #[] e1):=(s1.2 D ne).trans hD
 have s2:=Heap.SameBut.update (s.heap.update kS (Obj.mapSeq fun _ => (#[]:Array Value))) D (Obj.mapSeq fun _ => List.toArray out)
 unfold ksk_tail
 dsimp only
 rw [ho]
 refine wpAny_bind (listUpdate_at hk rfl (wpAny_bind (wpAny_letGo (wpAny_bind (seqEpoch_at hD1 rfl (wpAny_bind (listUpdate_at hD1 rfl ?_ (Nat.zero_le _) ?_)))))) ?_ (Nat.zero_le _))
 ·rw [hf]
  simp only [bne_self_eq_false,Bool.false_eq_true,if_false]
  exact wpAny_pure (h _ _ (fun b o n1 n2 q => (s2.2 b n2).trans ((s1.2 b n1).trans q)) (get?_update_seq hD1 fun _ => List.toArray out))
 ·simp only [Bool.false_eq_true,if_false,List.size_toArray]
  rw [sizeLine_eq]; grind
 ·rw [List.size_toArray,sizeLine_eq]; grind
theorem sort_end {D kS:Addr} {J:Nat→List Value→Nat→Shared→Prop} {s0:Shared} {vs ks:List Value} {f:Value} {z:Nat→Int} {Q:Value→Shared→Prop} {e e1:Nat} {P:PySem.Fin→Shared→Prop} (T:SortJ prog w A s0 vs f z Q D kS J) (ne:D≠kS) (h64:vs.length < 64)
  (hJ:J e1 ks e s) (hl:ks.length = vs.length) (hP:∀ s',Q (.ref D) s'→P (.done (.ret .none)) s'):wpAny (model prog w) A (ksk_end D false vs.toArray e1 (.ref kS) (List.toArray ks)) P E s:=by
 obtain ⟨hk,hD⟩:=T.stand _ _ _ _ hJ
 unfold ksk_end
 dsimp only
 simp only [Bool.false_eq_true,if_false]
 by_cases h2:vs.toArray.size < 2
 ·rw [if_pos h2,if_pos h2]
  rw [List.size_toArray] at h2
  refine wpAny_bind (wpAny_pure ?_)
  rw [StateT.run_pure]
  refine wpAny_bind (wpAny_pure ?_)
  have hz:(List.range vs.length).map (fun i => vs.getD i Value.none) = vs:=by
   apply List.ext_getElem?
   intro i
   rw [List.getElem?_map]
   by_cases hi:i < vs.length
   ·rw [List.getElem?_range hi,List.getElem?_eq_getElem hi]
    simp [hi]
   ·rw [List.getElem?_eq_none (by simpa using hi),List.getElem?_eq_none (by simpa using hi)]; rfl
  refine sort_tail (out:=vs) hk hD ne ?_ rfl (by grind) h64 fun h' c g1 g2 => hP _ (T.fin e1 ks e s (List.toArray (List.range vs.length)) hJ hl (Array.Perm.refl _) ?_ h' c g1 ?_)
  ·show Array.map (·.2) ((List.toArray ks).zip vs.toArray) = vs.toArray
   apply Array.toList_inj.mp
   simp only [Array.toList_map,Array.toList_zip]
   exact List.map_snd_zip (by grind)
  ·intro i j hij hj
   have:i = j:=by grind
   subst this; exact Int.le_refl _
  ·rw [g2]
   simp only [List.toList_toArray] at hz ⊢
   rw [hz]
 ·rw [if_neg h2,if_neg h2]
  rw [List.size_toArray] at h2
  refine wpAny_bind (wpAny_mono (T.order _ _ _ _ hJ hl (by grind)) (fun κ s2 hk2 => ?_) fun _ _ x => x.elim)
  obtain ⟨rfl,hc⟩:=hk2
  refine wpAny_bind (wpAny_mono (kat_run (Q:=fun st' s' => s' = s2∧∃ p:Array Nat,Pm vs.length p∧SorP z p vs.length∧arrOf st' = p.map (kas_item ((List.toArray ks).zip vs.toArray))∧failedOf st' = none) (G:=fun p s' => s' = s2∧Pm vs.length p∧SorP z p vs.length)
   hl (by grind) h64 (fun p st' s' a1 a2 a3 a4 => ⟨a4.1,p,a4.2.1,a4.2.2,a2,a3⟩) (k_sort hc (by grind) fun p g1 g2 => ⟨rfl,g1,g2⟩)) ?_ fun _ _ x => x)
  rintro ⟨⟨⟩,st'⟩ s' ⟨rfl,p,pm,so,har,hf⟩
  dsimp only
  refine sort_tail hk hD ne (kat_snds hl har) hf (by grind) ?_ fun h' c g1 g2 => hP _ (T.fin e1 ks e _ p hJ hl pm so h' c g1 g2)
  rw [List.length_map,Array.length_toList,pm.size]; exact h64
theorem sort_tree {D:Addr} {vs:List Value} {f:Value} {z:Nat→Int} {Q:Value→Shared→Prop} {s0:Shared} {n:Nat} {P:PySem.Fin→Shared→Prop} (hD:s.heap.get? D = some (seqObj "list" vs.toArray n)) (h64:vs.length < 64)
  (kp:∀ b o,s0.heap.get? b = some o→s.heap.get? b = some o∧b≠D) (hs:∃ h,s = { s0 with heap:=h })
  (T:∀ kS,s.heap.objs.size≤kS→∃ J,SortJ prog w A s0 vs f z Q D kS J) (hP:∀ s',Q (.ref D) s'→P (.done (.ret .none)) s'):wpAny (model prog w) A (ksk_tree D f false) P E s:=by
 have s1:=Heap.SameBut.update s.heap D (Obj.mapSeq fun _ => (#[]:Array Value))
 obtain ⟨e1,hD1⟩:∃ e1,(s.heap.update D (Obj.mapSeq fun _ => (#[]:Array Value))).get? D = some (seqObj "list" #[] e1):=⟨_,get?_update_seq hD fun _ => #[]⟩
 have hz:(((s.heap.update D (Obj.mapSeq fun _ => (#[]:Array Value))).push (seqObj "tuple" vs.toArray 0))).objs.size = s.heap.objs.size + 1:=by rw [size_push',Heap.size_update]
 have hlt:D < s.heap.objs.size:=Heap.lt_size hD
 have hne:D≠(((s.heap.update D (Obj.mapSeq fun _ => (#[]:Array Value))).push (seqObj "tuple" vs.toArray 0))).objs.size:=Nat.ne_of_lt (by rw [hz]; exact Nat.lt_succ_of_lt hlt)
 obtain ⟨J,T⟩:=T (((s.heap.update D (Obj.mapSeq fun _ => (#[]:Array Value))).push (seqObj "tuple" vs.toArray 0))).objs.size (by rw [hz]; exact Nat.le_succ _)
 unfold ksk_tree
 refine wpAny_bind (listItems_at hD rfl (wpAny_bind (listUpdate_at hD rfl (wpAny_bind (seqEpoch_at hD1 rfl (wpAny_bind (wpAny_newTuple (wpAny_bind (wpAny_newList (wpAny_holding ?_) (Nat.zero_le _))) ?_)))) ?_ (Nat.zero_le _))))
 ·unfold ksk_rest
  obtain ⟨h0,rfl⟩:=hs
  have J0:=T.start e1 ((((h0.update D (Obj.mapSeq fun _ => (#[]:Array Value))).push (seqObj "tuple" vs.toArray 0))).push (seqObj "list" #[] 0)) (fun b o q => Heap.get?_push_of_some _ (Heap.get?_push_of_some _ ((s1.2 b (kp b o q).2).trans (kp b o q).1))) (Heap.get?_push_of_some _ (Heap.get?_push_of_some _ hD1)) (Heap.get?_push_size _ rfl)
  refine wpAny_bind (wpAny_rule ?_)
  rw [List.forIn_toArray]
  refine wpAny_bind (ksk_fold (fun i s' => ∃ ks e,ks.length = i∧J e1 ks e s') vs 0 _ ⟨[],0,rfl,J0⟩ (fun j x s' hx hI => ?_) fun s' hI => ?_)
  ·(refine Classical.byContradiction fun k_ => ?_; obtain ⟨ks,e,hl,hJ⟩:=hI; refine k_ ?_; clear k_)
   have hj:ks.length = j:=by grind
   have hjl:j < vs.length:=(List.getElem?_eq_some_iff.mp hx).1
   refine wpAny_bind (wpAny_attempt (wpAny_mono (T.turn _ _ _ _ x hJ (by rw [hj]; exact hx)) (fun k s2 hk => ?_) fun _ _ hF => hF.elim))
   obtain ⟨hk,fin⟩:=hk
   dsimp only
   refine wpAny_bind (listUpdate_at hk rfl ?_ ?_ ?_)
   ·have hu:=get?_update_seq hk (·.push k)
    rw [show (List.toArray ks).push k = List.toArray (ks++[k]) by simp] at hu
    exact wpAny_pure ⟨rfl,ks++[k],_,by simp; grind,fin _ _ (Heap.SameBut.update ..) hu⟩
   ·rw [List.size_toArray,sizeLine_eq]; grind
   ·rw [Array.size_push,List.size_toArray,sizeLine_eq]; grind
  ·(refine Classical.byContradiction fun k_ => ?_; obtain ⟨ks,e,hl,hJ⟩:=hI; refine k_ ?_; clear k_)
   have hl':ks.length = vs.length:=by grind
   dsimp only
   refine wpAny_bind (listItems_at (T.stand _ _ _ _ hJ).1 rfl ?_)
   exact sort_end T hne h64 hJ hl' hP
 ·show vs.length≤_; rw [sizeLine_eq]; grind
 ·rw [List.size_toArray,sizeLine_eq]; grind
theorem sort_call {l q:Addr} {vs:List Value} {z:Nat→Int} {Q:Value→Shared→Prop} (hl:s.heap.IsList l vs.toArray) (h64:vs.length < 64)
  (T:∀ D kS,s.heap.objs.size≤D→D < kS→∃ J,SortJ prog w A.in1.in1 s vs (.ref q) z Q D kS J):wpAny (model prog w) A (call (.builtin "sorted") [.ref l] [(Str.ofString "key",.ref q)]) Q E s:=by
 refine call_function_entry_kw kind_sorted plain_sorted entry_sorted (ksk_s1 _ _) ?_
 unfold Builtin.«sorted»
 have hz:((s.heap.push (seqObj "list" #[] 0)).update s.heap.objs.size (Obj.mapSeq (·++vs.toArray))).objs.size = s.heap.objs.size + 1:=(Heap.size_update ..).trans (size_push' ..)
 refine wpAny_bind (m:=checkCount "sorted" 1 1 _) (wpAny_pure (wpAny_bind (collect_list hl (wpAny_bind (wpAny_newList ?_ ?_)) ?_)))
 ·have kp:∀ b o,s.heap.get? b = some o→(((s.heap.push (seqObj "list" #[] 0)).update s.heap.objs.size (Obj.mapSeq (·++vs.toArray))).push (seqObj "list" vs.toArray 0)).get? b = some o:=fun b o q => by
   have hb:b < s.heap.objs.size:=Heap.lt_size q
   rw [Heap.get?_push_ne _ _ _ (by rw [hz]; exact Nat.ne_of_lt (Nat.lt_succ_of_lt hb)),Heap.get?_update_ne _ _ _ _ (Nat.ne_of_lt hb),Heap.get?_push_ne _ _ _ (Nat.ne_of_lt hb)]
   exact q
  have hD:(((s.heap.push (seqObj "list" #[] 0)).update s.heap.objs.size (Obj.mapSeq (·++vs.toArray))).push (seqObj "list" vs.toArray 0)).get? ((s.heap.push (seqObj "list" #[] 0)).update s.heap.objs.size (Obj.mapSeq (·++vs.toArray))).objs.size = some (seqObj "list" vs.toArray 0):=Heap.get?_push_size _ rfl
  refine wpAny_bind (wpAny_holding (wpAny_call_entry_kw slot_list_sort ⟨_,hD,rfl⟩ entry_list_sort ?_ (ksk_l1 _ _)))
  refine sort_tree (s0:=s) (Q:=Q) hD h64 (fun b o q => ⟨kp b o q,Nat.ne_of_lt (by rw [hz]; exact Nat.lt_succ_of_lt (Heap.lt_size q))⟩) ⟨_,rfl⟩ (fun kS hk => T _ kS (by rw [hz]; exact Nat.le_succ _) (Nat.lt_of_lt_of_le (Heap.lt_size hD) hk)) fun s' hq => ⟨_,rfl,wpAny_pure ⟨_,rfl,hq⟩⟩
 ·rw [sizeLine_eq]; grind
 ·rw [sizeLine_eq]; grind
end
end L3
namespace L3
open PySem PySem.Spec PyProof.Rows L2
def Cx.in2 (X:Cx):Cx:={ X with A:=X.A.in1.in1,xe:=fun _ _ => False }
theorem Ok.in2 {X:Cx} (k:X.Ok):(Cx.in2 X).Ok:=⟨k.mod,k.kind,k.glob,k.blt,k.above,k.inj,k.has,k.cab,k.hd,k.frames,k.stk,k.exf,k.bs,k.bsz,k.noex,k.exfs,k.funs,k.frf⟩
section
variable {X:Cx} {pins:List (Addr×Obj)} {σ:St} {H H':Hp} {s:Shared}
theorem Inv.in2 (I:Inv X pins σ H s):Inv (Cx.in2 X) pins σ H s:=⟨Ok.in2 I.ok,I.os,I.bare,I.base,I.loc,I.cell,I.free,I.freeC,I.pin,I.hok,I.len⟩
theorem Inv.out2 (k:X.Ok) (I:Inv (Cx.in2 X) pins σ H s):Inv X pins σ H s:=⟨k,I.os,I.bare,I.base,I.loc,I.cell,I.free,I.freeC,I.pin,I.hok,I.len⟩
theorem Inv.adopt {D kS:Addr} {xs:List V} {its:List Value} {n:Nat} {h':Heap} (I:Inv X pins σ H s) (fD:FpOk X pins H D) (fk:FpOk X pins H kS) (g:∀ b o,b≠kS→b≠D→s.heap.get? b = some o→h'.get? b = some o)
  (hD:h'.get? D = some (seqObj "list" its.toArray n)) (hv:Vals xs its) (hz:xs.length≤sizeLine):Inv X pins σ (upd H D (.lst xs)) { s with heap:=h' }:=by
 have nD:∀ b u,H b = some u→b≠D:=fun b u e z => by rw [z,fD.1] at e; cases e
 have nK:∀ b u,H b = some u→b≠kS:=fun b u e z => by rw [z,fk.1] at e; cases e
 have out:∀ b,b∉[kS,D]→b≠kS∧b≠D:=fun b hb => ⟨fun z => hb (by simp [z]),fun z => hb (by simp [z])⟩
 refine I.step (g':=s.gens) (d':=s.drawn) (t':=s.toks) (ch:=[kS,D]) (fun b hb => ?_) (fun b o _ _ hc e _ => g b o (out b hc).1 (out b hc).2 e) (fun b o _ _ hc e _ => ⟨o.slots,g b o (out b hc).1 (out b hc).2 e⟩) (fun b o hc _ z => by rw [upd_ne (out b hc).2]; exact z) ?_
  (fun b ys e => by rw [upd_ne (nD b _ e)]; exact e) (fun b o u e => by rw [upd_ne (nD b _ e)]; exact e) (fun b ps e => ⟨#[],by rw [upd_ne (nD b _ e),e]; simp⟩) (fun m hm => ?_) (fun b u e => ?_) I.bare
 ·rcases List.mem_cons.mp hb with z | hb
  ·rw [z]; exact ⟨fk.2.2.2.1,fk.2.1,fk.2.2.2.2.1,fk.2.2.2.2.2⟩
  ·rw [List.mem_singleton.mp hb]; exact ⟨fD.2.2.2.1,fD.2.1,fD.2.2.2.2.1,fD.2.2.2.2.2⟩
 ·exact fun b o hc e => ⟨o,g b o (out b hc).1 (out b hc).2 e⟩
 ·(refine Classical.byContradiction fun k_ => ?_; obtain ⟨o,es,ep,ho,r⟩:=hm; refine k_ ?_; clear k_)
  exact ⟨o,es,ep,g _ o (Ne.symm fk.2.1) (Ne.symm fD.2.1) ho,r⟩
 ·by_cases hb:b = D
  ·subst hb
   rw [upd_same] at e
   cases e
   exact ⟨hz,its,n,hv,hD⟩
  ·rw [upd_ne hb] at e
   refine (I.hok b u e).stay (fun c v hc q => ?_) (fun c q => by rw [upd_ne (nD c _ q)]; exact q) fun c ys q => by rw [upd_ne (nD c _ q)]; exact q
   rcases hc with z | z
   ·exact g c v (by rw [z]; exact nK b u e) (by rw [z]; exact hb) q
   ·exact g c v (nK c _ z) (nD c _ z) q
end
def Keys (K:PySem.W.Frag) (H:Hp):List Pt→List Value→Prop:=Paired fun c k => ∃ a,k = .ref a∧SqT K H a [.int c.2,.int c.1]
theorem Keys.mono {K:PySem.W.Frag} {H H':Hp} (t:TK H H') {cs:List Pt} {ks:List Value} (h:Keys K H cs ks):Keys K H' cs ks:=Paired.mapP h fun _ _ ⟨a,e,q⟩ => ⟨a,e,t.sqT q⟩
theorem Paired.snoc {α β:Type} {R:α→β→Prop} {as:List α} {bs:List β} {a:α} {b:β} (t:Paired R as bs) (h:R a b):Paired R (as++[a]) (bs++[b]):=by
 induction t with
 | nil => exact .cons h .nil
 | cons r _ ih => exact .cons r ih
theorem Paired.at {α β:Type} {R:α→β→Prop}:∀ {as:List α} {bs:List β} {i:Nat} {a:α},Paired R as bs→as[i]? = some a→∃ b,bs[i]? = some b∧R a b
 | _,_,_,_,.nil,e => by simp at e
 | _,_,0,_,.cons r _,e => by simp at e; subst e; exact ⟨_,rfl,r⟩
 | _,_,i + 1,a,.cons _ t,e => by
  (refine Classical.byContradiction fun k_ => ?_; obtain ⟨b,h1,h2⟩:=Paired.at (i:=i) (a:=a) t (by simpa using e); refine k_ ?_; clear k_)
  exact ⟨b,by simpa using h1,h2⟩
section
variable {X:Cx}
theorem key_read {pins:List (Addr×Obj)} {σ:St} {H:Hp} {s:Shared} (I:Inv X pins σ H s) {a:Addr} {y x:Int} (h:SqT X.K H a [.int y,.int x]):∃ o n t u,s.heap.get? a = some o∧o.cls = .type "tuple"∧o.data = .seq #[.int y t,.int x u] n:=by
 (refine Classical.byContradiction fun k_ => ?_; obtain ⟨its,rv,⟨o,e,c,n,d⟩,_⟩:=I.tuple h; refine k_ ?_; clear k_)
 (refine Classical.byContradiction fun k_ => ?_; obtain ⟨u,v,rfl,⟨t,rfl⟩,⟨t',rfl⟩⟩:=vals2 rv; refine k_ ?_; clear k_)
 exact ⟨o,n,t,t',e,c,by simpa using d⟩
theorem keys_tups {pins:List (Addr×Obj)} {σ:St} {H:Hp} {s:Shared} (I:Inv X pins σ H s):∀ {cs:List Pt} {ks:List Value},Keys X.K H cs ks→∃ fs,PySem.W.KatTups s.heap ks fs∧fs.length = ks.length∧∀ v∈fs,∃ i t,v = Value.int i t:=by
 intro cs ks h
 induction h with
 | nil => exact ⟨[],trivial,rfl,fun _ h => nomatch h⟩
 | cons r t ih =>
  (refine Classical.byContradiction fun k_ => ?_; obtain ⟨a,rfl,q⟩:=r; refine k_ ?_; clear k_)
  (refine Classical.byContradiction fun k_ => ?_; obtain ⟨o,n,t1,t2,e,c,d⟩:=key_read I q; refine k_ ?_; clear k_)
  (refine Classical.byContradiction fun k_ => ?_; obtain ⟨fs,h1,h2,h3⟩:=ih; refine k_ ?_; clear k_)
  refine ⟨_::fs,.cons e c d rfl h1,congrArg (· + 1) h2,fun v hv => ?_⟩
  rcases List.mem_cons.mp hv with rfl | hv
  ·exact ⟨_,_,rfl⟩
  ·exact h3 v hv
theorem keys_ask {pins:List (Addr×Obj)} {σ:St} {H:Hp} {s:Shared} {A:Around} {E:Value→Shared→Prop} (I:Inv X pins σ H s) {a b:Addr} {c d:Pt} {C:Bool→Shared→Prop} (ha:SqT X.K H a [.int c.2,.int c.1]) (hb:SqT X.K H b [.int d.2,.int d.1]) (h:C (ltc d c) s) :
  wpAny (model X.prog X.w) A (keyLt' (tuples' true) (.ref a) (.ref b)) C E s:=by
 (refine Classical.byContradiction fun k_ => ?_; obtain ⟨oa,na,t1,t2,ea,_,da⟩:=key_read I ha; refine k_ ?_; clear k_)
 (refine Classical.byContradiction fun k_ => ?_; obtain ⟨ob,nb,u1,u2,eb,_,db⟩:=key_read I hb; refine k_ ?_; clear k_)
 refine PySem.W.kat_lt ea da eb db (PySem.W.kat_cons (wpAny_eqBool_int ?_))
 have e0:ltc d c = if c.2 = d.2 then (if c.1 = d.1 then false else decide (c.1 < d.1)) else decide (c.2 < d.2):=rfl
 by_cases h1:c.2 = d.2
 ·rw [show (c.2 == d.2) = true by simp [h1]]
  rw [e0,if_pos h1] at h
  refine PySem.W.kat_yes (PySem.W.kat_cons (wpAny_eqBool_int ?_))
  by_cases h2:c.1 = d.1
  ·rw [show (c.1 == d.1) = true by simp [h2]]
   rw [if_pos h2] at h
   exact PySem.W.kat_yes (PySem.W.kat_nil h)
  ·rw [show (c.1 == d.1) = false by simp [h2]]
   rw [if_neg h2] at h
   exact PySem.W.kat_no (PySem.W.kat_one _ _ (lt_int h))
 ·rw [show (c.2 == d.2) = false by simp [h1]]
  rw [e0,if_neg h1] at h
  exact PySem.W.kat_no (oneLt_int h)
end
end L3
namespace L3
open PySem PySem.Spec PyProof.Rows L2
theorem map_range_getD {α:Type} (xs:List α) (d:α):(List.range xs.length).map (fun i => xs.getD i d) = xs:=by
 apply List.ext_getElem?
 intro i
 rw [List.getElem?_map]
 by_cases hi:i < xs.length
 ·rw [List.getElem?_range hi,List.getElem?_eq_getElem hi]
  simp [hi]
 ·rw [List.getElem?_eq_none (by simpa using hi),List.getElem?_eq_none (by simpa using hi)]; rfl
theorem vals_pick {vs:List V} {its:List Value} (rv:Vals vs its):∀ {l:List Nat},(∀ i∈l,i < vs.length)→Vals (l.map fun i => vs.getD i .non) (l.map fun i => its.getD i Value.none)
 | [],_ => .nil
 | i::l,h => by
  have hi:=h i (by simp)
  (refine Classical.byContradiction fun k_ => ?_; obtain ⟨u,hu,r⟩:=rv.get (List.getElem?_eq_getElem hi); refine k_ ?_; clear k_)
  refine .cons ?_ (vals_pick rv fun j hj => h j (by simp [hj]))
  have e1:vs.getD i .non = vs[i]:=by simp [hi]
  have e2:its.getD i Value.none = u:=by rw [List.getD_eq_getElem?_getD,hu]; rfl
  show RelV (vs.getD i .non) (its.getD i Value.none)
  rw [e1,e2]; exact r
theorem rep_pick {K:PySem.W.Frag} {H:Hp} {ps:List Pt} {vs:List V} (ra:RepL K H (ps.map prP) vs):∀ {l:List Nat},(∀ i∈l,i < ps.length)→RepL K H ((l.map fun i => ps.getD i (0,0)).map prP) (l.map fun i => vs.getD i .non)
 | [],_ => .nil
 | i::l,h => by
  have hi:=h i (by simp)
  (refine Classical.byContradiction fun k_ => ?_; obtain ⟨v,hv,r⟩:=ra.get (i:=i) (d:=prP ps[i]) (by rw [List.getElem?_map,List.getElem?_eq_getElem hi]; rfl); refine k_ ?_; clear k_)
  refine .cons ?_ (rep_pick ra fun j hj => h j (by simp [hj]))
  have e1:ps.getD i (0,0) = ps[i]:=by simp [hi]
  have e2:vs.getD i .non = v:=by rw [List.getD_eq_getElem?_getD,hv]; rfl
  show Rep K H (prP (ps.getD i (0,0))) (vs.getD i .non)
  rw [e1,e2]; exact r
theorem sorted_pick {M:Int} {ps:List Pt} {p:Array Nat} (hM:∀ c∈ps,-M≤c.1∧c.1≤M) (pm:Pm ps.length p) (so:SorP (fun i => zc M (ps.getD i (0,0))) p ps.length):isort ps = p.toList.map fun i => ps.getD i (0,0):=by
 have hmem:∀ i,i < ps.length→ps.getD i (0,0)∈ps:=fun i hi => by rw [show ps.getD i (0,0) = ps[i] by simp [hi]]; exact List.getElem_mem hi
 refine isort_of ?_ ?_
 ·have h1:p.toList.Perm (List.range ps.length):=by have:=Array.Perm.toList pm; simpa using this
  have h2:=h1.map fun i => ps.getD i (0,0)
  rw [map_range_getD] at h2
  exact h2
 ·rw [List.pairwise_iff_getElem]
  intro i j hi hj hij
  have hsz:=pm.size
  rw [List.length_map,Array.length_toList,hsz] at hi hj
  have key:∀ t,t < ps.length→∀ h,(p.toList.map fun i => ps.getD i (0,0))[t]'h = ps.getD (p.getD t 0) (0,0):=fun t ht h => by
   rw [List.getElem_map]
   have:p.toList[t]'(by simpa [hsz] using ht) = p.getD t 0:=by simp [Array.getD,hsz,ht]
   rw [this]
  rw [key i hi,key j hj]
  have h1:=so i j (Nat.le_of_lt hij) hj
  unfold leP
  rw [zc_lt (hM _ (hmem _ (pm.lt hi))) (hM _ (hmem _ (pm.lt hj)))]
  exact decide_eq_false (Int.not_lt.mpr h1)
section
variable {X:Cx} {pins:List (Addr×Obj)} {σ:St} {H:Hp} {s:Shared}
theorem sort_runG (I:Inv X pins σ H s) {f a:Addr} {vs:List V} {ps:List Pt} {H3:Hp3}
  (ga:H a = some (.lst vs)) (ra:RepL X.K H (ps.map prP) vs) (hr3:HR X.K H3 H) (h64:ps.length < 64) {Q:VK}
  (call1:∀ (pins:List (Addr×Obj)) (H':Hp) (s:Shared) (c:Pt) (v:V) (u:Value),TK H H'→HR X.K H3 H'→Inv (Cx.in2 X) pins σ H' s→Rep X.K H' (prP c) v→RelV v u →
   wpAny (model X.prog X.w) (Cx.in2 X).A (call (.ref f) [u]) (EP (Cx.in2 X) pins σ fun v H'' => TK H' H''∧HR X.K H3 H''∧Rep X.K H'' (.tup [.int c.2,.int c.1]) v) (fun _ _ => False) s)
  (hQ:∀ (D:Addr) (H'':Hp),TK H H''→HR X.K (upd3 H3 D (.lst ((isort ps).map prP))) H''→H3 D = none→Q (.ref D) H'') :
  wpAny (model X.prog X.w) X.A (call (.builtin "sorted") [.ref a] [(Str.ofString "key",.ref f)]) (EP X pins σ Q) X.xe s:=by
 (refine Classical.byContradiction fun k_ => ?_; obtain ⟨its,rv,pl,_⟩:=I.list (SqL.of ga); refine k_ ?_; clear k_)
 have hv:vs.length = ps.length:=by rw [← ra.length,List.length_map]
 have hn:its.length = ps.length:=by rw [← rv.length]; exact hv
 (refine Classical.byContradiction fun k_ => ?_; obtain ⟨M,hM0,hM⟩:=bound_ex ps; refine k_ ?_; clear k_)
 refine sort_call (z:=fun i => zc M (ps.getD i (0,0))) pl.isList (by grind) fun D kS hD hk => ?_
 have hK:s.heap.objs.size≤kS:=Nat.le_trans hD (Nat.le_of_lt hk)
 have nD:H D = none:=I.hok.fresh hD
 have nK:H kS = none:=I.hok.fresh hK
 have fD:=(Inv.in2 I).fpOk (H':=H) hD nD
 have fk:=(Inv.in2 I).fpOk (H':=H) hK nK
 have nc:∀ (xs:Array Value) (e:Nat) (v:Option Value),(seqObj "list" xs e).data≠.cell v:=fun _ _ _ z => by cases z
 refine ⟨fun e1 ks e s' => ∃ H',Inv (Cx.in2 X) (pins++[(D,seqObj "list" #[] e1)]) σ H' s'∧s'.heap.get? kS = some (seqObj "list" (List.toArray ks) e)∧H' kS = none∧TK H H'∧HR X.K H3 H'∧Keys X.K H' (ps.take ks.length) ks,?_⟩
 constructor
 ·intro e1 h' kp hD' hk'
  have I2:=(Inv.in2 I).kept (t':=s.toks) kp
  refine ⟨H,I2.pins_of fun p hp => ?_,hk',nK,TK.refl,hr3,.nil⟩
  rcases List.mem_append.mp hp with hp | hp
  ·exact I2.pin p (List.mem_append_right _ hp)
  ·rw [List.mem_singleton.mp hp]
   exact ⟨hD',nD,fD.2.1,fD.2.2.1,nc _ _⟩
 ·intro e1 ks e s1 z_
  (refine Classical.byContradiction fun k_ => ?_; obtain ⟨H',J,h1,_⟩:=z_; refine k_ ?_; clear k_)
  exact ⟨h1,(J.pin (D,seqObj "list" #[] e1) (by simp)).1⟩
 ·rintro e1 ks e s1 x ⟨H',J,hk1,nk1,tk,hr',kr⟩ hx
  have hi:ks.length < ps.length:=by have:=(List.getElem?_eq_some_iff.mp hx).1; grind
  have hc:ps[ks.length]? = some ps[ks.length]:=List.getElem?_eq_getElem hi
  generalize ps[ks.length] = c at hc
  (refine Classical.byContradiction fun k_ => ?_; obtain ⟨v,hv1,rep⟩:=ra.get (i:=ks.length) (d:=prP c) (by rw [List.getElem?_map,hc]; rfl); refine k_ ?_; clear k_)
  (refine Classical.byContradiction fun k_ => ?_; obtain ⟨u,hu,rx⟩:=rv.get hv1; refine k_ ?_; clear k_)
  rw [hx] at hu
  cases hu
  have J2:Inv (Cx.in2 X) (pins++[(D,seqObj "list" #[] e1),(kS,seqObj "list" (List.toArray ks) e)]) σ H' s1:=J.pins_of fun p hp => by
   rcases List.mem_append.mp hp with hp | hp
   ·exact J.pin p (by simp [hp])
   ·rcases List.mem_cons.mp hp with rfl | hp
    ·exact J.pin _ (by simp)
    ·rw [List.mem_singleton.mp hp]
     exact ⟨hk1,nk1,fk.2.1,fk.2.2.1,nc _ _⟩
  refine wpAny_mono (call1 _ H' s1 c v x tk hr' J2 (rep.mono tk) rx) (fun k s2 hk2 => ?_) fun _ _ z => z
  ·(refine Classical.byContradiction fun k_ => ?_; obtain ⟨v',H'',J3,rk,tk',hr'',rep'⟩:=hk2; refine k_ ?_; clear k_)
   cases rep' with
   | tup sq rl =>
    cases rk
    have ex:=RepL.ints_inv (ns:=[c.2,c.1]) rl
    subst ex
    have pk:=J3.pin (kS,seqObj "list" (List.toArray ks) e) (by simp)
    refine ⟨pk.1,fun c' h' sb hk' => ⟨H'',?_,hk',pk.2.1,tk.trans tk',hr'',?_⟩⟩
    ·refine (J3.pins_of (pins':=pins++[(D,seqObj "list" #[] e1)]) fun p hp => J3.pin p ?_).turned (it:=kS) (t':=s2.toks) (fun b o hb e => (sb.2 b hb).trans e) pk.2.1 fk.2.1 fk.2.2.2.1 fk.2.2.2.2.1 fun p hp => ?_
     ·rcases List.mem_append.mp hp with hp | hp
      ·simp [hp]
      ·rw [List.mem_singleton.mp hp]; simp
     ·rcases List.mem_append.mp hp with hp | hp
      ·exact fk.2.2.2.2.2 p (List.mem_append_left _ hp)
      ·rcases List.mem_append.mp hp with hp | hp
       ·exact fk.2.2.2.2.2 p (List.mem_append_right _ hp)
       ·rw [List.mem_singleton.mp hp]; exact Nat.ne_of_lt hk
    ·rw [List.length_append,List.length_singleton,List.take_add_one,hc]
     exact Paired.snoc (Keys.mono tk' kr) ⟨_,rfl,SqT.of sq⟩
 ·rintro e1 ks e s1 ⟨H',J,hk1,nk1,tk,hr',kr⟩ hl h2
  rw [List.take_of_length_le (by grind)] at kr
  (refine Classical.byContradiction fun k_ => ?_; obtain ⟨fs,t1,t2,t3⟩:=keys_tups J kr; refine k_ ?_; clear k_)
  refine PySem.W.kat_kind (T:=.type "int") t1 (by grind) (fun v hv => ?_) (by decide) ⟨rfl,?_⟩
  ·(refine Classical.byContradiction fun k_ => ?_; obtain ⟨i,t,rfl⟩:=t3 v hv; refine k_ ?_; clear k_)
   exact PySem.W.Looks.now
  ·intro i j C hi hj hC
   have hi':i < ps.length:=by grind
   have hj':j < ps.length:=by grind
   (refine Classical.byContradiction fun k_ => ?_; obtain ⟨ki,ei,ai,rfl,qi⟩:=Paired.at kr (List.getElem?_eq_getElem hi'); refine k_ ?_; clear k_)
   (refine Classical.byContradiction fun k_ => ?_; obtain ⟨kj,ej,aj,rfl,qj⟩:=Paired.at kr (List.getElem?_eq_getElem hj'); refine k_ ?_; clear k_)
   unfold PySem.W.kas_ask
   rw [show ks.getD i Value.none = .ref ai by rw [List.getD_eq_getElem?_getD,ei]; rfl,show ks.getD j Value.none = .ref aj by rw [List.getD_eq_getElem?_getD,ej]; rfl]
   refine keys_ask J qi qj ?_
   rw [zc_lt (hM _ (List.getElem_mem hj')) (hM _ (List.getElem_mem hi'))]
   have e1:ps.getD i (0,0) = ps[i]:=by simp [hi']
   have e2:ps.getD j (0,0) = ps[j]:=by simp [hj']
   have hC':C (decide (zc M (ps.getD i (0,0)) < zc M (ps.getD j (0,0)))) s1:=hC
   rw [e1,e2] at hC'
   exact hC'
 ·rintro e1 ks e s1 p ⟨H',J,hk1,nk1,tk,hr',kr⟩ hl pm so h' c g hD'
  have pD:=J.pin (D,seqObj "list" #[] e1) (by simp)
  have nD':H' D = none:=pD.2.1
  rw [hn] at pm so
  have hlt:∀ i∈p.toList,i < ps.length:=fun i hi => by
   have h1:p.toList.Perm (List.range ps.length):=by have:=Array.Perm.toList pm; simpa using this
   simpa using h1.mem_iff.mp hi
  have hvals:=vals_pick rv (l:=p.toList) fun i hi => by rw [hv]; exact hlt i hi
  have J':=Inv.adopt (J.pins_of (pins':=pins) fun q hq => J.pin q (by simp [hq])) ⟨nD',fD.2⟩ ⟨nk1,fk.2⟩ g hD' hvals (by rw [List.length_map,Array.length_toList,pm.size,sizeLine_eq]; grind)
  refine ⟨.ref D,_,Inv.out2 I.ok J',rfl,hQ D _ (tk.trans (TK.fresh nD')) ?_ (hr3.fresh nD)⟩
  refine hr'.setL (TK.fresh nD') ?_
  rw [sorted_pick hM pm so]
  exact ((rep_pick ra hlt).mono tk).mono (TK.fresh nD')
end
end L3
namespace L3
open PySem PySem.Spec PyProof.Rows L2
def keysOf:List D→Option (List Key)
 | [] => some []
 | .int i::ds => (keysOf ds).map (Sum.inl i::·)
 | .str x::ds => (keysOf ds).map (Sum.inr x::·)
 | _::_ => none
theorem keys_rep {K:PySem.W.Frag} {H:Hp}:∀ {ds:List D} {xs:List V} {ks:List Key},RepL K H ds xs→keysOf ds = some ks→xs = ks.map kV
 | _,_,_,.nil,h => by simp only [keysOf,Option.some.injEq] at h; subst h; rfl
 | _,_,_,.cons (d:=d) r t,h => by
  cases r with
  | int i =>
   simp only [keysOf,Option.map_eq_some_iff] at h
   (refine Classical.byContradiction fun k_ => ?_; obtain ⟨ms,h1,rfl⟩:=h; refine k_ ?_; clear k_)
   rw [keys_rep t h1]; rfl
  | str i =>
   simp only [keysOf,Option.map_eq_some_iff] at h
   (refine Classical.byContradiction fun k_ => ?_; obtain ⟨ms,h1,rfl⟩:=h; refine k_ ?_; clear k_)
   rw [keys_rep t h1]; rfl
  | _ => simp [keysOf] at h
abbrev Tab:=List (List Key×D)
def dlook (kvs:Tab) (k:List Key):Option D:=(kvs.find? fun kv => decide (kv.1 = k)).map (·.2)
def dput (kvs:Tab) (k:List Key) (d:D):Tab:=if (kvs.any fun kv => decide (kv.1 = k)) = true then kvs.map (fun kv => if kv.1 = k then (kv.1,d) else kv) else kvs++[(k,d)]
abbrev TR (K:PySem.W.Frag) (H:Hp):Tab→List (List Key×V)→Prop:=Paired (fun (p:List Key×D) (q:List Key×V) => p.1 = q.1∧Rep K H p.2 q.2)
theorem TR.look {K:PySem.W.Frag} {H:Hp} {k:List Key}:∀ {kvs:Tab} {ks:List (List Key×V)},TR K H kvs ks→(valV ks k).isSome = (dlook kvs k).isSome∧∀ d,dlook kvs k = some d→∃ v,valV ks k = some v∧Rep K H d v
 | _,_,.nil => ⟨rfl,fun _ h => nomatch h⟩
 | _,_,.cons (a:=p) (b:=q) r t => by
  have ih:=TR.look (k:=k) t
  by_cases e:p.1 = k
  ·have e':q.1 = k:=r.1.symm.trans e
   have l1:∀ rest:Tab,dlook (p::rest) k = some p.2:=fun rest => by unfold dlook; rw [List.find?_cons_of_pos (by simpa using e)]; rfl
   rw [valV_pos e',l1]
   exact ⟨rfl,fun d h => ⟨_,rfl,by cases h; exact r.2⟩⟩
  ·have e':¬ q.1 = k:=fun z => e (r.1.trans z)
   have l1:∀ rest:Tab,dlook (p::rest) k = dlook rest k:=fun rest => by unfold dlook; rw [List.find?_cons_of_neg (by simpa using e)]
   rw [valV_neg e',l1]
   exact ih
theorem TR.any {K:PySem.W.Frag} {H:Hp} {k:List Key}:∀ {kvs:Tab} {ks:List (List Key×V)},TR K H kvs ks→(kvs.any fun kv => decide (kv.1 = k)) = ks.any fun kv => decide (kv.1 = k)
 | _,_,.nil => rfl
 | _,_,.cons r t => by rw [List.any_cons,List.any_cons,TR.any t,r.1]
theorem TR.repl {K:PySem.W.Frag} {H:Hp} {k:List Key} {d:D} {v:V} (rd:Rep K H d v):∀ {kvs:Tab} {ks:List (List Key×V)},TR K H kvs ks→TR K H (kvs.map fun kv => if kv.1 = k then (kv.1,d) else kv) (ks.map fun kv => if kv.1 = k then (kv.1,v) else kv)
 | _,_,.nil => .nil
 | _,_,.cons (a:=p) (b:=q) r t => by
  refine .cons ?_ (TR.repl rd t)
  dsimp only
  by_cases e:p.1 = k
  ·rw [if_pos e,if_pos (r.1.symm.trans e)]; exact ⟨r.1,rd⟩
  ·rw [if_neg e,if_neg (fun z => e (r.1.trans z))]; exact r
theorem TR.put {K:PySem.W.Frag} {H:Hp} {k:List Key} {d:D} {v:V} {kvs:Tab} {ks:List (List Key×V)} (r:TR K H kvs ks) (rd:Rep K H d v):TR K H (dput kvs k d) (putK ks k v):=by
 unfold dput putK
 rw [← TR.any r]
 split
 ·exact TR.repl rd r
 ·exact Paired.snoc r ⟨rfl,rd⟩
theorem TR.mono {K:PySem.W.Frag} {H H':Hp} (t:TK H H') {kvs:Tab} {ks:List (List Key×V)} (r:TR K H kvs ks):TR K H' kvs ks:=Paired.mapP r fun _ _ z => ⟨z.1,z.2.mono t⟩
theorem HR.setD {K:PySem.W.Frag} {H:Hp} {H3:Hp3} (h:HR K H3 H) {p:Addr} {ks:List (List Key×V)} {kvs:Tab} (t:TK H (upd H p (.dT ks))) (r:TR K (upd H p (.dT ks)) kvs ks):HR K (upd3 H3 p (.dic kvs)) (upd H p (.dT ks)):=h.set (o3:=.dic kvs) t ⟨ks,upd_same,r⟩
def r3inD (neg:Bool):R3:=fun x y H Q => match x,y with
 | .tup ds,.ref a => (match keysOf ds,H a with
  | some k,some (.dic kvs) => Q (.bl (if neg then !(dlook kvs k).isSome else (dlook kvs k).isSome)) H
  | _,_ => False)
 | _,_ => False
def r3inX (neg:Bool):R3:=fun x y H Q => r3in neg x y H Q∨r3inD neg x y H Q
section
variable {X:Cx}
theorem op3_inX (hu:X.A.units + 64 < cLine):OpR X (compareOp .In) (lift2 X.K (r3inX false)):=by
 intro pins s σ H x y v u Q I rx ry h
 (refine Classical.byContradiction fun k_ => ?_; obtain ⟨dx,dy,H3,Q3,hr,rdx,rdy,t,k⟩:=h; refine k_ ?_; clear k_)
 rcases t with t | t
 ·exact op3_in hu pins s σ H x y v u Q I rx ry ⟨dx,dy,H3,Q3,hr,rdx,rdy,t,k⟩
 ·cases rdx with
  | tup ha ra =>
   cases rdy with
   | ref a =>
    (delta r3inD at t; dsimp only at t)
    split at t
    ·rename_i ks kvs e1 e2
     (refine Classical.byContradiction fun k_ => ?_; obtain ⟨vs,gd,rd⟩:=hr a _ e2; refine k_ ?_; clear k_)
     cases ry
     have ex:=keys_rep ra e1
     subst ex
     refine d_in (by omega) I (DGet.t gd ha) rx fun s' I' => ⟨.bl _,H,I',rfl,?_⟩
     rw [(TR.look (k:=ks) rd).1]
     exact k _ _ _ _ TK.refl hr (.bl _) t
    ·exact t.elim
   | _ => exact t.elim
  | _ => exact t.elim
theorem op3_notInX (hu:X.A.units + 64 < cLine):OpR X (compareOp .NotIn) (lift2 X.K (r3inX true)):=by
 intro pins s σ H x y v u Q I rx ry h
 (refine Classical.byContradiction fun k_ => ?_; obtain ⟨dx,dy,H3,Q3,hr,rdx,rdy,t,k⟩:=h; refine k_ ?_; clear k_)
 rcases t with t | t
 ·exact op3_notIn hu pins s σ H x y v u Q I rx ry ⟨dx,dy,H3,Q3,hr,rdx,rdy,t,k⟩
 ·cases rdx with
  | tup ha ra =>
   cases rdy with
   | ref a =>
    (delta r3inD at t; dsimp only at t)
    split at t
    ·rename_i ks kvs e1 e2
     (refine Classical.byContradiction fun k_ => ?_; obtain ⟨vs,gd,rd⟩:=hr a _ e2; refine k_ ?_; clear k_)
     cases ry
     have ex:=keys_rep ra e1
     subst ex
     refine d_notIn (by omega) I (DGet.t gd ha) rx fun s' I' => ⟨.bl _,H,I',rfl,?_⟩
     rw [(TR.look (k:=ks) rd).1]
     exact k _ _ _ _ TK.refl hr (.bl _) t
    ·exact t.elim
   | _ => exact t.elim
  | _ => exact t.elim
def dpk (v x y:D) (σ:St3) (H:Hp3) (R:St3→Hp3→Prop):Prop:=match x,y with
 | .ref a,.tup ds => (match keysOf ds,H a with
  | some k,some (.dic kvs) => kvs.length < 1000∧R σ (upd3 H a (.dic (dput kvs k v)))
  | _,_ => False)
 | _,_ => False
def dp3 (td ty tv:TE3):TS3:=fun D0 σ H => tv σ H fun v H1 => td σ H1 fun x H2 => ty σ H2 fun y H3 => dpk v x y σ H3 D0.nx
theorem s3_dput {o i value:Expr} {td ty tv:TE3} {pos pos':Pos} (hu:X.A.units + 64 < cLine) (ho:PE3 X o td) (hi:PE3 X i ty) (hv:PE3 X value tv) (hs:swapsWith value (some (.Subscript o i pos')) pos.line X.env = pure false:=by rfl) :
  PS3 X (.Assign [.Subscript o i pos'] value pos) (dp3 td ty tv) :=
 ps_imp (ps_dput (by omega) ho hi hv hs) fun D0 σ H zz => ex3 zz fun σ3 H3 D3 sr hr t k => ⟨σ3,H3,_,sr,hr,t,fun dv v H3a Ha tka hra rv qa => ⟨σ3,H3a,_,sr.mono tka,hra,qa,fun dx x H3b Hb tkb hrb rx qb => ⟨σ3,H3b,_,(sr.mono tka).mono tkb,hrb,qb,fun dy y H3c Hc tkc hrc ry qc => by
  cases rx with
  | ref a =>
   cases ry with
   | tup hb rb =>
    (delta dpk at qc; dsimp only at qc)
    split at qc
    ·rename_i ks kvs e1 e2
     (refine Classical.byContradiction fun k_ => ?_; obtain ⟨vs,gd,rd⟩:=hrc a _ e2; refine k_ ?_; clear k_)
     have ex:=keys_rep rb e1
     subst ex
     obtain ⟨hl,qc⟩:=qc
     refine ⟨a,_,rfl,DPut.t gd hb (by rw [← Paired.length rd]; exact small1000 (Nat.le_of_lt hl)),?_⟩
     have tt:=TK.dT (o:=.dT (putK vs ks v)) gd
     exact k.nx _ _ _ _ ((tka.trans (tkb.trans tkc)).trans tt) ((((sr.mono tka).mono tkb).mono tkc).mono tt) (hrc.setD tt (TR.put (TR.mono tt rd) (((rv.mono tkb).mono tkc).mono tt))) qc
    ·exact qc.elim
   | _ => exact qc.elim
  | _ => exact qc.elim⟩⟩⟩
def dn3:TE3:=fun _ H Q => ∀ p,H p = none→Q (.ref p) (upd3 H p (.dic []))
theorem p3_dnew {pos:Pos}:PE3 X (.Dict [] [] pos) dn3:=pe_imp pe_dnewT fun _ _ _ ⟨_,_,_,_,hr,t,k⟩ => fun p n => k _ _ _ _ (TK.fresh n) (hr.setD (TK.fresh n) .nil) (.ref p) (t p (hr.fresh n))
theorem d_dictSet {pins:List (Addr×Obj)} {σ:St} {H:Hp} {s:Shared} {a b:Addr} {kvs:List (List Key×V)} {k:List Key} {v:V} {r:Value} {A:Around} {E:Value→Shared→Prop} {Q:Unit→Shared→Prop} (hu:A.units < cLine) (I:Inv X pins σ H s) (e:H a = some (.dT kvs)) (eb:H b = some (.tup (k.map kV)))
  (l:kvs.length < sizeLine) (rv:RelV v r) (h:∀ s',Inv X pins σ (upd H a (.dT (putK kvs k v))) s'→Q () s'):wpAny (model X.prog X.w) A (dictSet a (.ref b) r) Q E s:=by
 (refine Classical.byContradiction fun k_ => ?_; obtain ⟨z,hd,xs,rel,dd⟩:=dt_of I.hok e; refine k_ ?_; clear k_)
 have hz:xs.length≤sizeLine:=by rw [← Paired.length rel]; exact z
 have hl:(putK kvs k v).length≤sizeLine:=Nat.le_trans (length_putK kvs k v) l
 refine wpAny_dictSet_heap (knd:=tupleKind (mixKind X.prog X.w)) (hsz:=hz) hu (key_of I.hok eb) dd fun h' dd' hs => h _ ?_
 (refine Classical.byContradiction fun k_ => ?_; obtain ⟨q,es,ep,hq,h2,h3,h4,_,h5⟩:=dd'; refine k_ ?_; clear k_)
 exact d_write I (by rw [e]; exact True.intro) hs ⟨q,hq⟩ ⟨hl,hd,_,(rel.put k eb rv).keeps fun c ys ec => by rw [upd_ne (ne_of ec e (fun z => nomatch z))]; exact ec,q,es,ep,hq,h2,h3,h4,h5⟩
def ddk (p:Addr) (x y:D) (H:Hp3) (Q:VK3):Prop:=match x with
 | .tup ds => H p = some (.dic [])∧(match keysOf ds with
  | some k => Q (.ref p) (upd3 H p (.dic [(k,y)]))
  | none => False)
 | _ => False
def dd3 (tk tv:TE3):TE3:=fun σ H Q => ∀ p,H p = none→tk σ (upd3 H p (.dic [])) fun x H1 => tv σ H1 fun y H2 => ddk p x y H2 Q
theorem p3_disp1 {ke ve:Expr} {tk tv:TE3} {pos:Pos} (hu:X.A.units < cLine) (hk:PE3 X ke tk) (hv:PE3 X ve tv):PE3 X (.Dict [some ke] [ve] pos) (dd3 tk tv):=by
 intro pins s σ H Q I h
 (refine Classical.byContradiction fun k_ => ?_; obtain ⟨σ3,H3,Q3,sr,hr,t,k⟩:=h; refine k_ ?_; clear k_)
 have hn:=I.hok.fresh (Nat.le_refl s.heap.objs.size)
 have I1:=I.laid (a:=s.heap.objs.size) (o:=.dT []) (h':=s.heap.push { cls:=.type "dict",data:=.dict #[] }) (t':=s.toks) (fun _ _ q => Heap.get?_push_of_some _ q) (Nat.le_refl _) (dt_empty s.heap I.big)
 have pp:PPs X pos [some ke] [ve] [(liftE X.K tk,liftE X.K tv)]:=pps_cons hk hv pps_nil
 have tk0:TK H (upd H s.heap.objs.size (.dT [])):=TK.fresh hn
 refine wpAny_Dict_any rfl rfl (by simp) (by simp) (thn (pp pins _ σ _ (fun ps H2 => ∃ dx dy x y H32,ps = [(x,y)]∧TK H H2∧HR X.K H32 H2∧Rep X.K H2 dx x∧Rep X.K H2 dy y∧ddk s.heap.objs.size dx dy H32 Q3) I1 ?_) fun ws s2 hq => ?_)
 ·exact ⟨σ3,_,_,sr.mono tk0,hr.setD tk0 .nil,t _ (hr.fresh hn),fun dx x H3a Ha tka hra rx qa => ⟨σ3,H3a,_,(sr.mono tk0).mono tka,hra,qa,fun dy y H3b Hb tkb hrb ry qb => ⟨dx,dy,x,y,H3b,rfl,(tk0.trans tka).trans tkb,hrb,rx.mono tkb,ry,qb⟩⟩⟩
 ·(refine Classical.byContradiction fun k_ => ?_; obtain ⟨ps,H2,I2,rel,dx,dy,x,y,H32,rfl,tk2,hr2,rx,ry,q⟩:=hq; refine k_ ?_; clear k_)
  cases rel with
  | cons r1 r2 =>
   cases r2
   rename_i w1
   obtain ⟨u1,u2⟩:=w1
   obtain ⟨r1,r2⟩:=r1
   unfold storeAll
   rw [List.forIn_cons]
   cases rx with
   | tup hb rb =>
    (delta ddk at q; dsimp only at q)
    obtain ⟨q0,q⟩:=q
    split at q
    ·rename_i ks e1
     have ex:=keys_rep rb e1
     subst ex
     (refine Classical.byContradiction fun k_ => ?_; obtain ⟨vs,gd,rd⟩:=hr2 _ _ q0; refine k_ ?_; clear k_)
     cases rd
     cases r1
     refine wpAny_bind (wpAny_bind (d_dictSet hu I2 gd hb (by rw [sizeLine_eq]; decide) r2 fun s' I' => wpAny_pure ?_))
     show wpAny _ _ (forIn [] PUnit.unit _) _ _ s'
     rw [List.forIn_nil]
     have tt:=TK.dT (o:=.dT (putK [] ks y)) gd
     exact wpAny_pure ⟨.ref _,_,I',rfl,k _ _ _ _ (tk2.trans tt) (hr2.setD tt (.cons ⟨rfl,ry.mono tt⟩ .nil)) (.ref _) q⟩
    ·exact q.elim
   | _ => exact q.elim
end
def ra3:TS3:=fun _ _ _ => False
theorem s3_never {X:Cx} {st:Stmt}:PS3 X st ra3:=fun _ _ _ _ _ _ h => by obtain ⟨_,_,_,_,_,t,_⟩:=h; exact t.elim
end L3
namespace L3
open PySem PySem.Spec PyProof.Rows L2
section
variable {prog:Program} {w:World} {A:Around} {E:Value→Shared→Prop} {s:Shared}
end
section
variable {X:Cx} {pins:List (Addr×Obj)} {σ:St}
end
end L3
namespace L3
open PySem PySem.Spec PyProof.Rows L2
theorem p3_globE {X:Cx} {x:Str} {i:Int} {pos:Pos} (hg:Gl X x) (hm:∃ tk,X.mg x = some (.int i tk)) (hd:(x == ("__debug__" : Str)) = false:=by decide):PE3 X (.Name x pos) (c3 (.int i)):=by
 obtain ⟨tk,hm⟩:=hm
 exact p3_globI hg hm hd
end L3
namespace L3
open PySem L2
def kP (c:Pt):List Key:=[Sum.inl c.1,Sum.inl c.2]
theorem kP_inj {a b:Pt} (h:kP a = kP b):a = b:=by
 unfold kP at h
 simp only [List.cons.injEq,Sum.inl.injEq,and_true] at h
 exact Prod.ext h.1 h.2
def tabP (ps:List Pt):Tab:=ps.map fun c => (kP c,D.bl true)
def addN (ps:List Pt) (c:Pt):List Pt:=if c∈ps then ps else ps++[c]
theorem dlook_tab (c:Pt):∀ ps:List Pt,(dlook (tabP ps) (kP c)).isSome = decide (c∈ps)
 | [] => rfl
 | p::ps => by
  unfold tabP dlook
  rw [List.map_cons]
  by_cases e:p = c
  ·subst e
   rw [List.find?_cons_of_pos (by simp)]
   simp
  ·have e':¬ kP p = kP c:=fun z => e (kP_inj z)
   rw [List.find?_cons_of_neg (by simpa using e')]
   have ih:=dlook_tab c ps
   unfold tabP dlook at ih
   rw [ih]
   have e2:¬ c = p:=fun z => e z.symm
   simp [e2]
theorem any_tab (c:Pt) (ps:List Pt):((tabP ps).any fun kv => decide (kv.1 = kP c)) = decide (c∈ps):=by
 induction ps with
 | nil => rfl
 | cons p ps ih =>
  have e0:tabP (p::ps) = (kP p,D.bl true)::tabP ps:=rfl
  rw [e0,List.any_cons,ih]
  by_cases e:p = c
  ·subst e; simp
  ·have e':¬ kP p = kP c:=fun z => e (kP_inj z)
   have e2:¬ c = p:=fun z => e z.symm
   simp [e',e2]
theorem dput_tab (ps:List Pt) (c:Pt):dput (tabP ps) (kP c) (.bl true) = tabP (addN ps c):=by
 unfold dput addN
 rw [any_tab]
 by_cases h:c∈ps
 ·rw [if_pos (decide_eq_true h),if_pos h]
  unfold tabP
  rw [List.map_map]
  refine List.map_congr_left fun p _ => ?_
  show (if kP p = kP c then (kP p,D.bl true) else (kP p,D.bl true)) = _
  split <;> rfl
 ·rw [if_neg (by simpa using h),if_neg h]
  unfold tabP
  rw [List.map_append]; rfl
theorem mem_addN {ps:List Pt} {c x:Pt}:x∈addN ps c↔x∈ps∨x = c:=by
 unfold addN
 split
 ·rename_i h
  constructor
  ·exact .inl
  ·rintro (h1 | rfl)
   ·exact h1
   ·exact h
 ·simp
theorem mem_addNs {x:Pt}:∀ {ps acc:List Pt},x∈ps.foldl addN acc↔x∈acc∨x∈ps
 | [],acc => by simp
 | p::ps,acc => by
  rw [List.foldl_cons,mem_addNs,mem_addN,List.mem_cons]
  constructor
  ·rintro ((h | h) | h)
   ·exact .inl h
   ·exact .inr (.inl h)
   ·exact .inr (.inr h)
  ·rintro (h | h | h)
   ·exact .inl (.inl h)
   ·exact .inl (.inr h)
   ·exact .inr h
theorem addNs_len:∀ (ps acc:List Pt),(ps.foldl addN acc).length≤acc.length + ps.length
 | [],acc => by simp
 | p::ps,acc => by
  rw [List.foldl_cons]
  have h1:=addNs_len ps (addN acc p)
  have h2:(addN acc p).length≤acc.length + 1:=by unfold addN; split <;> simp
  rw [List.length_cons]; grind
section
variable {σ:St3} {H:Hp3} {Q:VK3} {D0:Ends3} {a p:Addr} {x y:D} {ta tb te:TE3} {p1 p2:Int} {ps:List Pt}
theorem g_ninX (h:seqH H y = some (ps.map prP)) (q:Q (.bl (!decide ((p1,p2)∈ps))) H):r3inX true (.tup [.int p1,.int p2]) y H Q:=.inl (g_ninP h q)
theorem g_inD (h:H a = some (.dic (tabP ps))) (q:Q (.bl (decide ((p1,p2)∈ps))) H):r3inX false (.tup [.int p1,.int p2]) (.ref a) H Q:=by
 refine .inr ?_
 have e:keysOf [D.int p1,.int p2] = some (kP (p1,p2)):=rfl
 (delta r3inD; simp only [e,h,dlook_tab])
 exact q
theorem g_ninD (h:H a = some (.dic (tabP ps))) (q:Q (.bl (!decide ((p1,p2)∈ps))) H):r3inX true (.tup [.int p1,.int p2]) (.ref a) H Q:=by
 refine .inr ?_
 have e:keysOf [D.int p1,.int p2] = some (kP (p1,p2)):=rfl
 (delta r3inD; simp only [e,h,dlook_tab])
 exact q
theorem g_dp (h:te σ H fun v H1 => ta σ H1 fun x H2 => tb σ H2 fun y H3 => dpk v x y σ H3 D0.nx):dp3 ta tb te D0 σ H:=h
theorem g_dpk {R:St3→Hp3→Prop} (ha:H a = some (.dic (tabP ps))) (hl:ps.length < 1000) (q:R σ (upd3 H a (.dic (tabP (addN ps (p1,p2)))))):dpk (.bl true) (.ref a) (.tup [.int p1,.int p2]) σ H R:=by
 have e:keysOf [D.int p1,.int p2] = some (kP (p1,p2)):=rfl
 (delta dpk; simp only [e,ha,dput_tab])
 exact ⟨by unfold tabP; rw [List.length_map]; exact hl,q⟩
theorem g_dn (h:∀ p,H p = none→Q (.ref p) (upd3 H p (.dic []))):dn3 σ H Q:=h
theorem g_dd (h:∀ p,H p = none→ta σ (upd3 H p (.dic [])) fun x H1 => tb σ H1 fun y H2 => ddk p x y H2 Q):dd3 ta tb σ H Q:=h
theorem g_ddk (h:H p = some (.dic [])) (q:Q (.ref p) (upd3 H p (.dic (tabP [(p1,p2)])))):ddk p (.tup [.int p1,.int p2]) (.bl true) H Q:=by
 have e:keysOf [D.int p1,.int p2] = some (kP (p1,p2)):=rfl
 (delta ddk; simp only [e]); exact ⟨h,q⟩
end
end L3
namespace L3
open PySem PySem.Spec PyProof.Rows L2
def boolsOf:List D→Option (List Bool)
 | [] => some []
 | .bl b::ds => (boolsOf ds).map (b::·)
 | _::_ => none
theorem boolsOf_map (bs:List Bool):boolsOf (bs.map D.bl) = some bs:=by
 induction bs with
 | nil => rfl
 | cons b bs ih => rw [List.map_cons,boolsOf,ih]; rfl
theorem boolsOf_inv:∀ {ds:List D} {bs:List Bool},boolsOf ds = some bs→ds = bs.map D.bl
 | [],bs,h => by cases h; rfl
 | d::ds,bs,h => by
  cases d with
  | bl b =>
   rw [boolsOf,Option.map_eq_some_iff] at h
   (refine Classical.byContradiction fun k_ => ?_; obtain ⟨cs,hc,rfl⟩:=h; refine k_ ?_; clear k_)
   rw [boolsOf_inv hc]; rfl
  | _ => cases h
def r3tr (f:List Bool→Bool):List D→Hp3→VK3→Prop:=fun ds H Q => match ds with
 | [.ref a] => (match H a with
  | some (.lst xs) => (match boolsOf xs with
   | some bs => Q (.bl (f bs)) H
   | none => False)
  | _ => False)
 | _ => False
abbrev r3all:List D→Hp3→VK3→Prop:=r3tr fun bs => bs.all id
theorem g_tr {f:List Bool→Bool} {bs:List Bool} {a:Addr} {H:Hp3} {Q:VK3} (ha:H a = some (.lst (bs.map D.bl))) (q:Q (.bl (f bs)) H):r3tr f [.ref a] H Q:=by
 (delta r3tr; simp only [ha,boolsOf_map]); exact q
def lets (z:Str):List D:=z.cps.toList.map fun c => D.str ⟨#[c]⟩
def iz3 (te:TE3):TI3:=fun σ H R => te σ H fun x H1 => match x with
 | .str z => R (lets z) (fun _ => True) H1
 | _ => False
def izk (x:D) (H:Hp3) (R:List D→(Hp3→Prop)→Hp3→Prop):Prop:=match x with
 | .str z => R (lets z) (fun _ => True) H
 | _ => False
theorem g_iz {te:TE3} {σ:St3} {H:Hp3} {R:List D→(Hp3→Prop)→Hp3→Prop} (h:te σ H fun x H1 => izk x H1 R):iz3 te σ H R:=h
theorem g_izS {z:Str} {H:Hp3} {R:List D→(Hp3→Prop)→Hp3→Prop} (h:R (lets z) (fun _ => True) H):izk (.str z) H R:=h
def firstAt (z y:Str):Option Nat:=(List.range (z.cps.size + 1)).find? fun i => decide (i + y.cps.size≤z.cps.size) && (z.cps.extract i (i + y.cps.size) == y.cps)
def r3index:D→List D→Hp3→VK3→Prop:=fun x xs H Q => match x,xs with
 | .str z,[.str y] => (match firstAt z y with
  | some i => Q (.int i) H
  | none => False)
 | _,_ => False
def mz3 (r:D→List D→Hp3→VK3→Prop) (to:TE3) (t:TA3):TE3:=fun σ H Q => to σ H fun x H1 => (match x with
 | .str _ => t σ H1 fun xs H2 => r x xs H2 Q
 | _ => False)
def mzk (r:D→List D→Hp3→VK3→Prop) (t:TA3) (σ:St3) (x:D) (H1:Hp3) (Q:VK3):Prop:=match x with
 | .str _ => t σ H1 fun xs H2 => r x xs H2 Q
 | _ => False
theorem g_mz {r:D→List D→Hp3→VK3→Prop} {to:TE3} {t:TA3} {σ:St3} {H:Hp3} {Q:VK3} (h:to σ H fun x H1 => mzk r t σ x H1 Q):mz3 r to t σ H Q:=h
theorem g_mzk {r:D→List D→Hp3→VK3→Prop} {t:TA3} {σ:St3} {z:Str} {H:Hp3} {Q:VK3} (h:t σ H fun xs H2 => r (.str z) xs H2 Q):mzk r t σ (.str z) H Q:=h
theorem g_index {z y:Str} {i:Nat} {H:Hp3} {Q:VK3} (h:firstAt z y = some i) (q:Q (.int i) H):r3index (.str z) [.str y] H Q:=by
 (delta r3index; simp only [h]); exact q
def cutZ (z:Str) (lo hi:Option Int):Str:=⟨(cut3 z.cps.toList lo hi).toArray⟩
def r3slZ:RSl:=fun x lo hi H Q => match x with
 | .str z => z.length≤sizeLine∧Q (.str (cutZ z lo hi)) H
 | _ => False
theorem g_slZ {z:Str} {lo hi:Option Int} {H:Hp3} {Q:VK3} (hl:z.length≤sizeLine) (q:Q (.str (cutZ z lo hi)) H):r3slZ (.str z) lo hi H Q:=⟨hl,q⟩
end L3
namespace L3
open PySem PySem.Spec PyProof.Rows PySem.Calls L2
section
variable {X:Cx}
theorem bools_at:∀ {bs:List Bool} {us:List Value} {i:Nat} {v:Value},Vals (bs.map V.bl) us→us[i]? = some v→∃ b,bs[i]? = some b∧v = .bool b
 | [],_,i,v,.nil,e => by simp at e
 | b::bs,_,0,v,.cons r t,e => by
  simp at e; subst e
  exact ⟨b,rfl,r⟩
 | b::bs,_,i + 1,v,.cons r t,e => by
  (refine Classical.byContradiction fun k_ => ?_; obtain ⟨c,h1,h2⟩:=bools_at (bs:=bs) (i:=i) t (by simpa using e); refine k_ ?_; clear k_)
  exact ⟨c,by simpa using h1,h2⟩
theorem RepL.bools_inv {K:PySem.W.Frag} {H:Hp}:∀ {bs:List Bool} {vs:List V},RepL K H (bs.map D.bl) vs→vs = bs.map V.bl
 | [],_,.nil => rfl
 | _::bs,_,.cons (.bl _) t => by rw [List.map_cons,RepL.bools_inv (bs:=bs) t]
theorem iter_kept {h h':Heap} {o:Obj} (hk:∀ b x,b∉[h.objs.size]→(h.push o).get? b = some x→h'.get? b = some x) (b:Addr) (x:Obj) (e:h.get? b = some x):h'.get? b = some x:=by
 refine hk b x (fun hm => ?_) (Heap.get?_push_of_some _ e)
 rw [List.mem_singleton.mp hm] at e
 exact absurd (Heap.lt_size e) (Nat.lt_irrefl _)
theorem call_allL (hc:X.calm = true):CallR X (.builtin "all") (fun xs H Q => ∃ (a:Addr) (bs:List Bool),xs = [.ref a]∧SqL X.K H a (bs.map V.bl)∧Q (.bl (bs.all id)) H):=by
 intro pins s σ H xs us Q I r h
 (refine Classical.byContradiction fun k_ => ?_; obtain ⟨a,bs,rfl,hq,q⟩:=h; refine k_ ?_; clear k_)
 (refine Classical.byContradiction fun k_ => ?_; obtain ⟨u,rfl,ru⟩:=vals1 r; refine k_ ?_; clear k_)
 cases ru
 (refine Classical.byContradiction fun k_ => ?_; obtain ⟨its,rv,pl,_⟩:=I.list hq; refine k_ ?_; clear k_)
 have hl:=pl.isList
 have hlt:a < s.heap.objs.size:=by obtain ⟨_,e,_⟩:=hl; exact Heap.lt_size e
 have hlen:its.length = bs.length:=by have:=rv.length; rw [List.length_map] at this; exact this.symm
 refine call_all_walk (wpAny_pyIter_list hl ?_)
 refine ⟨s.heap.objs.size,[s.heap.objs.size,a],[s.heap.objs.size],its.toArray.size,_,_,fun i => (bs[i]?).getD true,rfl,
  Walks.list (A:=X.A.in1) (I.ok.hd hc) _ a (Nat.ne_of_lt hlt) its.toArray,⟨⟨_,Heap.get?_push_size _ rfl,rfl,rfl⟩,hl.push _⟩,?_,?_⟩
 ·intro i v s' Q' E' hP hQ
  (refine Classical.byContradiction fun k_ => ?_; obtain ⟨b,e,rfl⟩:=bools_at rv (i:=i) (v:=v) (by simpa using hP); refine k_ ?_; clear k_)
  dsimp only at hQ
  rw [e,Option.getD_some] at hQ
  exact wpAny_truthy_bool hQ
 ·intro h' tk hk
  rw [List.size_toArray,hlen,LSm.range_all]
  exact ⟨.bl (bs.all id),H,I.kept (iter_kept hk),rfl,q⟩
theorem lift_tr {id:String} {f:List Bool→Bool} (h:CallR X (.builtin id) (fun xs H Q => ∃ (a:Addr) (bs:List Bool),xs = [.ref a]∧SqL X.K H a (bs.map V.bl)∧Q (.bl (f bs)) H)):CallR X (.builtin id) (liftC X.K (r3tr f)):=by
 intro pins s σ H xs us Q I rs t
 (refine Classical.byContradiction fun k_ => ?_; obtain ⟨ds,H3,Q3,hr,rd,t,k⟩:=t; refine k_ ?_; clear k_)
 cases rd with
 | nil => exact t.elim
 | cons r1 r2 =>
  cases r2 with
  | cons _ _ => cases r1 <;> exact t.elim
  | nil =>
   cases r1 with
   | ref a =>
    (delta r3tr at t; dsimp only at t)
    split at t
    ·rename_i ds ha
     split at t
     ·rename_i bs e
      (refine Classical.byContradiction fun k_ => ?_; obtain ⟨vs,ga,ra⟩:=hr a _ ha; refine k_ ?_; clear k_)
      have z:=boolsOf_inv e
      subst z
      have z:=ra.bools_inv
      subst z
      exact h pins s σ H _ us Q I rs ⟨a,bs,rfl,SqL.of ga,k _ _ _ _ TK.refl hr (.bl _) t⟩
     ·exact t.elim
    ·exact t.elim
   | _ => exact t.elim
theorem cb3_all (hc:X.calm = true):CallR X (.builtin "all") (liftC X.K r3all):=lift_tr (call_allL hc)
end
end L3
namespace L3
open PySem PySem.Spec PyProof.Rows L2
def Itx (x:Str):It:=⟨fun i _ => i < x.cps.size,fun i H v H' => H' = H∧∃ c,x.cps[i]? = some c∧v = .str ⟨#[c]⟩,fun i _ => x.cps.size≤i⟩
theorem turn_text {P:Program} {w:World} {K:PySem.W.Frag} {tg:Expr} {ty:String} {x:Str} {t:Tok} (it:Addr)
  (hn:["enumerate", "zip", "dict_itemiterator", "dict_reverseitemiterator", "odict_iterator", "itertools.zip_longest", "itertools.pairwise"].contains ty = false)
  (W:∀ A':Around,A'.handled = none→Walks P w A' it [it] [it] x.cps.size (SignAt x) (fun i h => h.IsStrIter it ty x t i))
  (S:∀ (A:Around) (i:Nat) (s:Shared) (Q:Value→Shared→Prop) (E:Value→Shared→Prop),s.heap.IsStrIter it ty x t i→Q (.ref it) s→wpAny (model P w) A (pyIter (.ref it)) Q E s) :
  Turn P w K tg (Itx x) [it] it (fun i h => i≤x.cps.size∧h.IsStrIter it ty x t i) where
 mem:=List.mem_singleton.mpr rfl
 obj:=by
  rintro i h ⟨_,o,e,_,d⟩ b hb
  rw [List.mem_singleton.mp hb]
  exact ⟨o,e,fun v z => by rw [d] at z; cases z⟩
 keep:=by
  rintro i h h' ⟨l,o,e,c⟩ k
  exact ⟨l,o,k it (List.mem_singleton.mpr rfl) o e,c⟩
 item:=by
  intro X hP hw hK hc i pins s σ H E I hf st hg
  subst hP hw hK
  (refine Classical.byContradiction fun k_ => ?_; obtain ⟨f0,f1,f2,f3,f4,f5⟩:=hf it (List.mem_singleton.mpr rfl); refine k_ ?_; clear k_)
  refine (W X.A (I.ok.hd hc)).item i s _ _ hg st.2 fun v h' tk hv st' kk => ?_
  (refine Classical.byContradiction fun k_ => ?_; obtain ⟨c,u,hcx,rfl⟩:=hv; refine k_ ?_; clear k_)
  have I1:L2.Inv X pins σ H { s with heap:=h',toks:=tk }:=I.turned (fun b o hb e => kk b o (fun z => hb (List.mem_singleton.mp z)) e) f0 f1 f3 f4 f5
  (refine Classical.byContradiction fun k_ => ?_; obtain ⟨o,e,hcl,d⟩:=id st'; refine k_ ?_; clear k_)
  exact ⟨_,rfl,go_of (s:={ s with heap:=h',toks:=tk }) e hcl d hn ⟨.str ⟨#[c]⟩,H,I1,⟨u,rfl⟩,⟨rfl,c,hcx,rfl⟩,⟨hg,st'⟩,fun b hb => (hf b hb).1⟩⟩
 done:=by
  intro X hP hw hK hc i pins s σ H E I hf st hg
  subst hP hw hK
  (refine Classical.byContradiction fun k_ => ?_; obtain ⟨f0,f1,f2,f3,f4,f5⟩:=hf it (List.mem_singleton.mpr rfl); refine k_ ?_; clear k_)
  have hi:i = x.cps.size:=Nat.le_antisymm st.1 hg
  subst hi
  exact (W X.A (I.ok.hd hc)).done s _ _ st.2 fun h' tk kk => ⟨rfl,I.turned (t':=tk) (fun b o hb e => kk b o (fun z => hb (List.mem_singleton.mp z)) e) f0 f1 f3 f4 f5⟩
 self:=fun A i s Q E st h => S A i s Q E st.2 h
section
variable {X:Cx}
def iText (tl:TE):TI:=fun σ H R => tl σ H fun x H1 => ∃ z,x = .str z∧R (Itx z) H1
theorem pi_text {tg l:Expr} {tl:TE} (hl:PE X l tl):PI X tg l (iText tl):=by
 intro pins s σ H R I h
 refine thn (hl pins s σ H _ I h) fun v s1 zz => ?_
 (refine Classical.byContradiction fun k_ => ?_; obtain ⟨x,H1,I1,r1,q1⟩:=zz; refine k_ ?_; clear k_)
 (refine Classical.byContradiction fun k_ => ?_; obtain ⟨z,rfl,q⟩:=q1; refine k_ ?_; clear k_)
 obtain ⟨t,rfl⟩:=r1
 have fp:∀ b∈[s1.heap.objs.size],FpOk X pins H1 b:=fun b hb => by
  rw [List.mem_singleton.mp hb]
  exact I1.fpOk (Nat.le_refl _) (I1.hok.fresh (Nat.le_refl _))
 cases ha:z.cps.all (· < 128)
 ·refine wpAny_pyIter_wide ha ?_
  exact ⟨s1.heap.objs.size,[s1.heap.objs.size],_,_,H1,rfl,I1.kept (t':=s1.toks) fun b o e => Heap.get?_push_of_some _ e,
   turn_text (ty := "str_iterator") (x:=z) (t:=t) _ (by decide) (fun A' hA => Walks.strWide hA _ z t) (fun A i s Q E st h => wpAny_pyIter_striter_wide st h),⟨Nat.zero_le _,_,Heap.get?_push_size _ rfl,rfl,rfl⟩,fp,q⟩
 ·refine wpAny_pyIter_ascii ha ?_
  exact ⟨s1.heap.objs.size,[s1.heap.objs.size],_,_,H1,rfl,I1.kept (t':=s1.toks) fun b o e => Heap.get?_push_of_some _ e,
   turn_text (ty := "str_ascii_iterator") (x:=z) (t:=t) _ (by decide) (fun A' hA => Walks.strAscii hA _ z t) (fun A i s Q E st h => wpAny_pyIter_striter_ascii st h),⟨Nat.zero_le _,_,Heap.get?_push_size _ rfl,rfl,rfl⟩,fp,q⟩
theorem itOk_text {K:PySem.W.Frag} {H:Hp} {z:Str}:ItOk K H (lets z) (fun _ => True) (Itx z):=fun H3 H' tk hr _ => by
 have hl:(lets z).length = z.cps.size:=by unfold lets; rw [List.length_map,Array.length_toList]
 refine ⟨fun i hi => ⟨by rw [hl] at hi; exact hi,fun x H'' y => ?_⟩,by rw [hl]; exact Nat.le_refl _⟩
 (refine Classical.byContradiction fun k_ => ?_; obtain ⟨e,c,hc,rfl⟩:=y; refine k_ ?_; clear k_)
 subst e
 refine ⟨TK.refl,hr,.str ⟨#[c]⟩,?_,.str _⟩
 unfold lets
 rw [List.getElem?_map,Array.getElem?_toList,hc]
 rfl
theorem i3_text {tg e:Expr} {te:TE3} (h:PE3 X e te):PI3 X tg e (iz3 te) :=
 pi_imp (pi_text h) fun _ _ _ ⟨σ3,H3,R3,sr,hr,t,k⟩ => ⟨σ3,H3,_,sr,hr,t,fun x v H3a Ha tka hra rx qa => by
  cases rx with
  | str z => exact ⟨z,rfl,k _ _ _ _ _ tka hra itOk_text qa⟩
  | _ => exact qa.elim⟩
end
end L3
namespace L3
open PySem PySem.Spec PyProof.Rows L2
section
variable {X:Cx}
theorem mt_indexZ:MtR X "str.index" (fun x xs H Q => ∃ (z y:Str) (i:Nat),x = .str z∧xs = [.str y]∧firstAt z y = some i∧Q (.int i) H):=by
 intro pins s σ H x xs v us Q I rx rs h
 (refine Classical.byContradiction fun k_ => ?_; obtain ⟨z,y,i,rfl,rfl,hi,q⟩:=h; refine k_ ?_; clear k_)
 obtain ⟨t,rfl⟩:=rx
 (refine Classical.byContradiction fun k_ => ?_; obtain ⟨u,rfl,ru⟩:=vals1 rs; refine k_ ?_; clear k_)
 obtain ⟨t2,rfl⟩:=ru
 unfold firstAt at hi
 rw [List.find?_range_eq_some] at hi
 (refine Classical.byContradiction fun k_ => ?_; obtain ⟨h1,h2,h3⟩:=hi; refine k_ ?_; clear k_)
 rw [Bool.and_eq_true,decide_eq_true_eq] at h1
 have at_i:StrLaws.At z y z.length i:=⟨h1.1,h1.2⟩
 rcases StrLaws.occ_head z y 1 (Nat.le_refl _) with ⟨_,hn⟩ | ⟨j,r,e,hj,hn⟩
 ·exact absurd at_i (hn i)
 ·have hij:j = i:=by
   rcases Nat.lt_trichotomy i j with hlt | heq | hgt
   ·exact absurd at_i (hn i hlt)
   ·exact heq.symm
   ·have:=h3 j hgt
    rw [Bool.not_eq_true',Bool.and_eq_false_iff] at this
    rcases this with w | w
    ·rw [decide_eq_false_iff_not] at w
     exact absurd hj.1 w
    ·have w2:=hj.2
     unfold Builtin.Str.subAt at w2
     exact absurd (show (z.cps.extract j (j + y.cps.size) == y.cps) = true from w2) (by rw [w]; decide)
  subst hij
  exact SC.index e ⟨.int j,H,I.tok _,⟨_,rfl⟩,q⟩
theorem mt3_index:MtR X "str.index" (liftM X.K r3index):=by
 intro pins s σ H x xs v us Q I rx rs t
 (refine Classical.byContradiction fun k_ => ?_; obtain ⟨d,ds,H3,Q3,hr,rd,rds,t,k⟩:=t; refine k_ ?_; clear k_)
 cases rd with
 | str z =>
  cases rds with
  | nil => exact t.elim
  | cons r1 r2 =>
   cases r2 with
   | cons _ _ => cases r1 <;> exact t.elim
   | nil =>
    cases r1 with
    | str y =>
     (delta r3index at t; dsimp only at t)
     split at t
     ·rename_i i e
      exact mt_indexZ pins s σ H _ _ v us Q I rx rs ⟨z,y,i,rfl,rfl,e,k _ _ _ _ TK.refl hr (.int _) t⟩
     ·exact t.elim
    | _ => exact t.elim
 | _ => exact t.elim
theorem p3_zm {o e:Expr} {es:List Expr} {to:TE3} {t:TA3} {name:Str} {apos cpos:Pos} {id:String} {r:D→List D→Hp3→VK3→Prop} (slot:Slot "str" name id) (hty:typeOf (.builtin id) = pure (.type "method_descriptor"))
  (hm:MtR X id (liftM X.K r)) (ho:PE3 X o to) (ha:PA3 X (e::es) t) (hbase:attributeBase o name X.env (eval o X.env) = eval o X.env:=by rfl)
  (hfew:((backTo cpos (starEach (e::es) X.env)).all (fun x => !x.1) && (backToKw cpos (keywordEach [] X.env)).all (fun x => x.1.isSome) && decide ((e::es).length + ([]:List Keyword).length + (if ([]:List Keyword).isEmpty then 0 else 1) < 30)) = true:=by rfl)
  (hline:(apos.endLine == cpos.line) = true:=by rfl) (hs:starEach (e::es) X.env = (false,eval e X.env)::starEach es X.env:=by rfl) (hplain:(backTo cpos (starEach es X.env)).any (·.1) = false:=by rfl) :
  PE3 X (.Call (.Attribute o name apos) (e::es) [] cpos) (mz3 r to t) :=
 pe_imp (pe_bm PySem.F.plainAttrs_str slot hty hm ho ha hbase hfew hline hs hplain) fun _ _ _ zz => ex3 zz fun σ3 H3 Q3 sr hr t k => ⟨σ3,H3,_,sr,hr,t,fun x v H3a Ha tka hra rx qa => by
  cases rx with
  | str z =>
   exact ⟨rfl,σ3,H3a,_,sr.mono tka,hra,qa,fun ds vs H3b Hb tkb hrb rs qb => ⟨.str z,ds,H3b,Q3,hrb,.str z,rs,qb,(k.mono tka).mono tkb⟩⟩
  | _ => exact qa.elim⟩
end
end L3
namespace L3
open PySem PySem.Spec PyProof.Rows L2
section
variable {X:Cx}
theorem clip_ix (v:Option Int) (d n:Nat):(match v with | none => (d:Int) | some i => max 0 (min (if i < 0 then i + (n:Int) else i) (n:Int))) = ((HT.sIx n d v:Nat):Int):=by
 cases v with
 | none => rfl
 | some i =>
  unfold HT.sIx
  dsimp only
  split <;> grind
theorem picked_cut (lo hi:Option Int) (n:Nat):Builtin.Str.strSliceIndices lo hi 1 n = (List.range (HT.sIx n n hi - HT.sIx n 0 lo)).map (HT.sIx n 0 lo + ·):=by
 have e1:=clip_ix lo 0 n
 have e2:=clip_ix hi n n
 rw [← sliceRange_one,← e1,← e2]
 cases lo <;> cases hi <;> rfl
theorem ix_le (v:Option Int) (n:Nat):HT.sIx n n v≤n:=by
 cases v with
 | none => exact Nat.le_refl n
 | some i =>
  unfold HT.sIx
  dsimp only
  split <;> grind
theorem slice_cut (z:Str) (lo hi:Option Int):Txt.slice z lo hi = cutZ z lo hi:=by
 have hl:z.cps.toList.length = z.length:=Array.length_toList
 have hh:=ix_le hi z.length
 unfold Txt.slice cutZ cut3
 rw [picked_cut,pick_run,hl]
 split
 ·rename_i c
  rw [Bool.and_eq_true] at c
  have c2:=c.2
  rw [beq_iff_eq] at c2
  have c3:HT.sIx z.length z.length hi - HT.sIx z.length 0 lo = z.length:=by simpa using c2
  obtain ⟨a⟩:=z
  congr 1
  apply Array.ext'
  rw [c3]
  by_cases h0:a.size = 0
  ·have e:a = #[]:=Array.eq_empty_of_size_eq_zero h0
   subst e
   simp
  ·have hlo:HT.sIx (Str.length ⟨a⟩) 0 lo = 0:=by
    have h1:Str.length ⟨a⟩ = a.size:=rfl
    grind
   rw [hlo,List.drop_zero,List.take_of_length_le (by rw [hl]; exact Nat.le_refl _)]
 ·rfl
theorem sl_text:SlR X (fun x lo hi H Q => ∃ z,x = .str z∧z.length≤sizeLine∧Q (.str (cutZ z lo hi)) H):=by
 intro pins s σ H x v vl vu lo hi sl Q I rx hs pl pu h
 (refine Classical.byContradiction fun k_ => ?_; obtain ⟨z,rfl,hz,q⟩:=h; refine k_ ?_; clear k_)
 obtain ⟨t,rfl⟩:=rx
 have fin:∀ t' k,EP X pins σ Q (.str (Txt.slice z lo hi) t') { s with toks:=k }:=fun t' k => by
  rw [slice_cut]
  exact ⟨.str (cutZ z lo hi),H,I.kept (t':=k) fun _ _ e => e,⟨t',rfl⟩,q⟩
 refine ⟨"str",_,F.slot_str_getitem.lookup,typeIs_str _ _ _,?_⟩
 cases pl with
 | none =>
  cases pu with
  | none => exact wpAny_getItem_str_slice (l:=none) (u:=none) (st:=none) hs rfl (post_val_or_str ⟨Nat.le_trans (Txt.slice_le z _ _) hz,fin⟩)
  | int j u => exact wpAny_getItem_str_slice (l:=none) (u:=some (j,u)) (st:=none) hs rfl (post_val_or_str ⟨Nat.le_trans (Txt.slice_le z _ _) hz,fin⟩)
 | int i w =>
  cases pu with
  | none => exact wpAny_getItem_str_slice (l:=some (i,w)) (u:=none) (st:=none) hs rfl (post_val_or_str ⟨Nat.le_trans (Txt.slice_le z _ _) hz,fin⟩)
  | int j u => exact wpAny_getItem_str_slice (l:=some (i,w)) (u:=some (j,u)) (st:=none) hs rfl (post_val_or_str ⟨Nat.le_trans (Txt.slice_le z _ _) hz,fin⟩)
theorem sl3_text:SlR X (liftSl X.K r3slZ):=by
 intro pins s σ H x v vl vu lo hi sl Q I rx hs pl pu h
 (refine Classical.byContradiction fun k_ => ?_; obtain ⟨d,H3,Q3,hr,rd,t,k⟩:=h; refine k_ ?_; clear k_)
 cases rd with
 | str z => exact sl_text pins s σ H _ v vl vu lo hi sl Q I rx hs pl pu ⟨z,rfl,t.1,k _ _ _ _ TK.refl hr (.str _) t.2⟩
 | _ => exact t.elim
end
end L3
namespace L3
open PySem L2
def Bt (n:Nat) (i:Int):Prop:=i.natAbs < 2 ^ n
section
variable {m n:Nat} {i j:Int}
theorem Bt.mono (h:Bt m i) (l:m≤n):Bt n i:=Nat.lt_of_lt_of_le h (Nat.pow_le_pow_right (by decide) l)
theorem Bt.of_le (h:Bt m j) (l:i.natAbs≤j.natAbs):Bt m i:=Nat.lt_of_le_of_lt l h
theorem Bt.add (h:Bt m i) (g:Bt n j):Bt (max m n + 1) (i + j):=by
 have h':=Bt.mono h (Nat.le_max_left m n)
 have g':=Bt.mono g (Nat.le_max_right m n)
 unfold Bt at *
 rw [Nat.pow_succ]
 generalize 2 ^ max m n = p at *
 omega
theorem Bt.neg (h:Bt m i):Bt m (-i):=by unfold Bt at *; rw [Int.natAbs_neg]; exact h
theorem Bt.sub (h:Bt m i) (g:Bt n j):Bt (max m n + 1) (i - j):=by rw [Int.sub_eq_add_neg]; exact h.add g.neg
theorem Bt.mul (h:Bt m i) (g:Bt n j):Bt (m + n) (i * j):=by
 unfold Bt at *
 rw [Int.natAbs_mul,Nat.pow_add]
 exact Nat.mul_lt_mul'' h g
theorem Bt.div (h:Bt m i):Bt m (i / j):=Bt.of_le h (Int.natAbs_ediv_le_natAbs i j)
theorem Bt.lit (h:i.natAbs < 2 ^ n):Bt n i:=h
end
def CMulW (i j:Int):Prop:=CMul i j∨∃ m n,Bt m i∧Bt n j∧m + n≤134217728
theorem CMulW.of {m n:Nat} {i j:Int} (h:Bt m i) (g:Bt n j) (l:m + n≤134217728):CMulW i j:=.inr ⟨m,n,h,g,l⟩
def CDivW (_ j:Int):Prop:=0 < j∧Bt 8999 j
def i3mulW:R3:=rI3 CMulW fun i j => .int (i * j)
def i3divW:R3:=rI3 CDivW fun i j => .int (i / j)
section
variable {σ:St3} {H:Hp3} {Q:VK3} {i j:Int} {d x y:D} {ds es:List D}
theorem g_mulW (c:CMulW i j) (q:Q (.int (i * j)) H):i3mulW (.int i) (.int j) H Q:=⟨c,q⟩
theorem g_divW (c:CDivW i j) (q:Q (.int (i / j)) H):i3divW (.int i) (.int j) H Q:=⟨c,q⟩
theorem py_ints:∀ ns:List Int,mapO (pyN 4) (ns.map D.int) = some (ns.map PyData.int)
 | [] => rfl
 | n::ns => by
  have e:pyN 4 (D.int n) = some (PyData.int n):=rfl
  simp only [List.map_cons,mapO,e,py_ints ns]
theorem py_tupI (H:Hp3) (ns:List Int):pyH H (.tup (ns.map D.int)) = some (.tuple (ns.map PyData.int)):=by
 have e:pyH H (.tup (ns.map D.int)) = (mapO (pyN 4) (ns.map D.int)).map .tuple:=rfl
 rw [e,py_ints]; rfl
theorem eqvAll_ints:∀ ms ns:List Int,PyData.eqvAll (ms.map PyData.int) (ns.map PyData.int) = decide (ms = ns)
 | [],[] => by simp [PyData.eqvAll]
 | [],_::_ => by simp [PyData.eqvAll]
 | _::_,[] => by simp [PyData.eqvAll]
 | m::ms,n::ns => by
  have e:PyData.eqv (.int m) (.int n) = decide (m = n):=by simp only [PyData.eqv]; rfl
  simp only [List.map_cons,PyData.eqvAll,eqvAll_ints ms ns,e,List.cons.injEq,Bool.decide_and]
theorem g_eqTL {ms ns:List Int} (q:Q (.bl (decide (ms = ns))) H):r3eq (.tup (ms.map D.int)) (.tup (ns.map D.int)) H Q:=by
 (delta r3eq; simp only [py_tupI,PyData.eqv,eqvAll_ints]); exact q
theorem g_neTL {ms ns:List Int} (q:Q (.bl (!decide (ms = ns))) H):r3ne (.tup (ms.map D.int)) (.tup (ns.map D.int)) H Q:=by
 (delta r3ne; simp only [py_tupI,PyData.eqv,eqvAll_ints]); exact q
theorem g_eqT3 {a b c a' b' c':Int} (q:Q (.bl (decide ([a,b,c] = [a',b',c']))) H):r3eq (.tup [.int a,.int b,.int c]) (.tup [.int a',.int b',.int c']) H Q:=g_eqTL (ms:=[a,b,c]) (ns:=[a',b',c']) q
theorem g_neT3 {a b c a' b' c':Int} (q:Q (.bl (!decide ([a,b,c] = [a',b',c']))) H):r3ne (.tup [.int a,.int b,.int c]) (.tup [.int a',.int b',.int c']) H Q:=g_neTL (ms:=[a,b,c]) (ns:=[a',b',c']) q
theorem Cp.rng {g:TG3} {σ0:St3} {te:TE3} {lo:Int} {n:Nat} (F:Nat→D) (hl:n≤1000)
  (hel:∀ i:Nat,i < n→∀ (R:VK3) (H2:Hp3),Sub3 H H2→(∀ H6,Sub3 H2 H6→R (F i) H6)→g (.int (lo + (i:Int))) σ0 H2 fun σ2 H4 => te σ2 H4 R)
  (fin:∀ p,H p = none→Q (.ref p) (upd3 H p (.lst ((List.range n).map F)))):Cp g yes3 te σ0 (rng lo n) (fun _ => True) H Q :=
 Cp.map F (fun _ _ => trivial) (by rw [List.length_range]; exact hl) (fun _ a ha => hel a (List.mem_range.mp (List.mem_of_getElem? ha))) fin
end
def zipD (ds es:List D):List D:=List.zipWith (fun x y => D.tup [x,y]) ds es
def zpk (x y:D) (H:Hp3) (R:List D→(Hp3→Prop)→Hp3→Prop):Prop:=match x,y with
 | .ref a,.ref b => (match H a,H b with
  | some (.lst ds),some (.lst es) => R (zipD ds es) (fun H' => H' a = some (.lst ds)∧H' b = some (.lst es)) H
  | _,_ => False)
 | _,_ => False
def izp (ta tb:TE3):TI3:=fun σ H R => ta σ H fun x H1 => tb σ H1 fun y H2 => zpk x y H2 R
section
variable {σ:St3} {H:Hp3} {a b:Addr} {ds es:List D}
theorem g_izp {ta tb:TE3} {R:List D→(Hp3→Prop)→Hp3→Prop} (h:ta σ H fun x H1 => tb σ H1 fun y H2 => zpk x y H2 R):izp ta tb σ H R:=h
theorem zipD_map {α β:Type} {f:α→D} {g:β→D}:∀ (as:List α) (bs:List β),zipD (as.map f) (bs.map g) = (as.zip bs).map fun p => D.tup [f p.1,g p.2]
 | [],_ => rfl
 | _::_,[] => rfl
 | a::as,b::bs => by
  have ih:=zipD_map (f:=f) (g:=g) as bs
  unfold zipD at ih ⊢
  rw [List.map_cons,List.map_cons,List.zipWith_cons_cons,ih,List.zip_cons_cons,List.map_cons]
def rvk (x:D) (H:Hp3) (Q:VK3):Prop:=match x with
 | .ref a => (match H a with
  | some (.lst ds) => ∀ p,H p = none→Q (.ref p) (upd3 H p (.lst ds.reverse))
  | _ => False)
 | _ => False
def rvl3 (te:TE3):TE3:=fun σ H Q => te σ H fun x H1 => rvk x H1 Q
theorem g_rvl {te:TE3} {Q:VK3} (h:te σ H fun x H1 => rvk x H1 Q):rvl3 te σ H Q:=h
theorem g_rvk {Q:VK3} (ha:H a = some (.lst ds)) (h:∀ p,H p = none→Q (.ref p) (upd3 H p (.lst ds.reverse))):rvk (.ref a) H Q:=by (delta rvk; simp only [ha]); exact h
def pr3 (i j:Nat) (ta tb:TE3):TS3:=fun D0 σ H => ta σ H fun x H1 => tb σ H1 fun y H2 => D0.nx ((σ.set i (some x)).set j (some y)) H2
theorem g_pr {i j:Nat} {ta tb:TE3} {D0:Ends3} (h:ta σ H fun x H1 => tb σ H1 fun y H2 => D0.nx ((σ.set i (some x)).set j (some y)) H2):pr3 i j ta tb D0 σ H:=h
def kdk (kvs:List (Str×D)) (x:D) (H:Hp3) (Q:VK3):Prop:=match x with
 | .str z => (match kvs.lookup z with
  | some d => Q d H
  | none => False)
 | _ => False
def kd3 (kvs:List (Str×D)) (te:TE3):TE3:=fun σ H Q => te σ H fun x H1 => kdk kvs x H1 Q
theorem g_kd {kvs:List (Str×D)} {te:TE3} {Q:VK3} (h:te σ H fun x H1 => kdk kvs x H1 Q):kd3 kvs te σ H Q:=h
theorem g_kdk {kvs:List (Str×D)} {z:Str} {d:D} {Q:VK3} (hl:kvs.lookup z = some d) (h:Q d H):kdk kvs (.str z) H Q:=by (delta kdk; simp only [hl]); exact h
theorem g_ixK {ds:List D} {i:Int} {d:D} {Q:VK3} (h:atI ds i = some d) (q:Q d H):r3ix (.ktup ds) (.int i) H Q:=by (delta r3ix; simp only [h]); exact q
def irk (x:D) (H:Hp3) (R:List D→(Hp3→Prop)→Hp3→Prop):Prop:=match x with
 | .str z => z.length≤sizeLine∧R (lets z).reverse (fun _ => True) H
 | _ => False
def irv (te:TE3):TI3:=fun σ H R => te σ H fun x H1 => irk x H1 R
theorem g_irv {te:TE3} {R:List D→(Hp3→Prop)→Hp3→Prop} (h:te σ H fun x H1 => irk x H1 R):irv te σ H R:=h
def ikd (kvs:List (Str×D)):TI3:=fun _ H R => R (kvs.map fun p => D.str p.1) (fun _ => True) H
theorem g_ikd {kvs:List (Str×D)} {R:List D→(Hp3→Prop)→Hp3→Prop} (h:R (kvs.map fun p => D.str p.1) (fun _ => True) H):ikd kvs σ H R:=h
def au3 (k:Nat) (r:R3) (te:TE3):TS3:=fun D0 σ H => match σ[k]? with
 | some (some x) => te σ H fun y H1 => r x y H1 fun z H2 => D0.nx (σ.set k (some z)) H2
 | _ => False
theorem g_au {k:Nat} {r:R3} {te:TE3} {D0:Ends3} {x:D} (hx:σ[k]? = some (some x)) (h:te σ H fun y H1 => r x y H1 fun z H2 => D0.nx (σ.set k (some z)) H2):au3 k r te D0 σ H:=by
 simp only [au3,hx]; exact h
def r3iadd:R3:=fun x y H Q => match x,y with
 | .int i,.int j => Q (.int (i + j)) H
 | .str i,.str j => i.length + j.length≤sizeLine∧Q (.str (i++j)) H
 | _,_ => False
def i3isub:R3:=rI30 fun i j => .int (i - j)
theorem g_iadd {i j:Int} {Q:VK3} (q:Q (.int (i + j)) H):r3iadd (.int i) (.int j) H Q:=q
theorem g_iaddZ {y z:Str} {Q:VK3} (hl:y.length + z.length≤sizeLine) (q:Q (.str (y++z)) H):r3iadd (.str y) (.str z) H Q:=⟨hl,q⟩
theorem g_isub {i j:Int} {Q:VK3} (q:Q (.int (i - j)) H):i3isub (.int i) (.int j) H Q:=q
def r3max2:List D→Hp3→VK3→Prop:=fun ds H Q => match ds with
 | [.int i,.int j] => Q (.int (if j > i then j else i)) H
 | _ => False
theorem g_max2 {i j:Int} {Q:VK3} (q:Q (.int (if j > i then j else i)) H):r3max2 [.int i,.int j] H Q:=q
def asc (z:Str):Prop:=z.cps.all (· < 128) = true
def ztk (x y:D) (H:Hp3) (R:List D→(Hp3→Prop)→Hp3→Prop):Prop:=match x,y with
 | .ref a,.str z => (match H a with
  | some (.lst ds) => asc z∧R (zipD ds (lets z)) (fun H' => H' a = some (.lst ds)) H
  | _ => False)
 | _,_ => False
def tzk (x y:D) (H:Hp3) (R:List D→(Hp3→Prop)→Hp3→Prop):Prop:=match x,y with
 | .str z,.ref a => (match H a with
  | some (.lst ds) => asc z∧R (zipD (lets z) ds) (fun H' => H' a = some (.lst ds)) H
  | _ => False)
 | _,_ => False
def izt (ta tb:TE3):TI3:=fun σ H R => ta σ H fun x H1 => tb σ H1 fun y H2 => ztk x y H2 R
def itz (ta tb:TE3):TI3:=fun σ H R => ta σ H fun x H1 => tb σ H1 fun y H2 => tzk x y H2 R
theorem g_izt {ta tb:TE3} {R:List D→(Hp3→Prop)→Hp3→Prop} (h:ta σ H fun x H1 => tb σ H1 fun y H2 => ztk x y H2 R):izt ta tb σ H R:=h
theorem g_itz {ta tb:TE3} {R:List D→(Hp3→Prop)→Hp3→Prop} (h:ta σ H fun x H1 => tb σ H1 fun y H2 => tzk x y H2 R):itz ta tb σ H R:=h
theorem g_ztk {z:Str} {R:List D→(Hp3→Prop)→Hp3→Prop} (ha:H a = some (.lst ds)) (hz:asc z) (h:R (zipD ds (lets z)) (fun H' => H' a = some (.lst ds)) H):ztk (.ref a) (.str z) H R:=by
 (delta ztk; simp only [ha]); exact ⟨hz,h⟩
end
end L3
namespace L3
open PySem PySem.Spec PyProof.Rows L2
section
variable {X:Cx}
theorem CMulW.ok {i j:Int} (h:CMulW i j):IntMulOk i j:=by
 rcases h with h | ⟨m,n,h1,h2,h3⟩
 ·exact h.ok
 ·exact IntMulOk.of_le (intBits_le_iff.mpr h1) (intBits_le_iff.mpr h2) h3
theorem Bt.log {j:Int} (h:Bt 8999 j):j.natAbs.log2 < 9000:=by
 by_cases h0:j.natAbs = 0
 ·rw [h0]; decide +kernel
 ·have:=(Nat.log2_lt h0).mpr h
  omega
theorem op3_mulW:OpR X (binaryOp .Mult) (lift2 X.K i3mulW):=op3_of (opI fun _ _ _ _ _ _ _ hc q => mul_int q (CMulW.ok hc)) fun _ _ _ => .int _
theorem op3_fdivW:OpR X (binaryOp .FloorDiv) (lift2 X.K i3divW):=op3_of (opI fun i j _ _ _ _ _ hc q => by
 have h1:(0:Int) < j:=hc.1
 exact floordiv_int (by omega) (by rw [Int.fdiv_eq_ediv_of_nonneg i (by omega)]; exact q) (.inl (PyProof.noPylong_of_log2 (Bt.log hc.2)))) fun _ _ _ => .int _
end
end L3
namespace L3
open PySem PySem.Spec PyProof.Rows L2
section
variable {X:Cx} {pins:List (Addr×Obj)} {σ:St} {H:Hp} {s:Shared} {h':Heap}
theorem turnedNew {t':Nat} {ch:List Addr} {T:Addr} {o:HO} (I:L2.Inv X pins σ H s) (k:∀ b u,b∉ch→s.heap.get? b = some u→h'.get? b = some u)
  (hf:∀ b∈ch,FpOk X pins H b) (hp:s.heap.objs.size≤T) (new:ObjOk X.prog X.w (upd H T o) h' T o):L2.Inv X pins σ (upd H T o) { s with heap:=h',toks:=t' }:=by
 have hn:H T = none:=I.hok.fresh hp
 refine I.step (g':=s.gens) (d':=s.drawn) (ch:=ch) (fun b hb => ?_) (fun b u _ _ hc e _ => k b u hc e) (fun b u _ _ hc e _ => ⟨u.slots,k b u hc e⟩)
  (fun b u _ e n => by rw [upd_ne (Nat.ne_of_lt (Nat.lt_of_lt_of_le (Heap.lt_size e) hp))]; exact n) (fun b u hc e => ⟨u,k b u hc e⟩)
  (fun b xs q => by rw [upd_ne (ne_of_none q hn)]; exact q) (fun b u xs q => by rw [upd_ne (ne_of_none q hn)]; exact q) (fun b ps q => ⟨#[],by rw [upd_ne (ne_of_none q hn),q]; simp⟩) (fun m hm => ?_) (fun b u e => ?_) I.bare
 ·(refine Classical.byContradiction fun k_ => ?_; obtain ⟨f0,f1,f2,f3,f4,f5⟩:=hf b hb; refine k_ ?_; clear k_)
  exact ⟨f3,f1,f4,f5⟩
 ·(refine Classical.byContradiction fun k_ => ?_; obtain ⟨u,es,ep,hu,r⟩:=hm; refine k_ ?_; clear k_)
  exact ⟨u,es,ep,k _ u (fun z => (hf _ z).2.1 rfl) hu,r⟩
 ·by_cases hb:b = T
  ·subst hb; rw [upd_same] at e; cases e; exact new
  ·rw [upd_ne hb] at e
   refine (I.hok b u e).stay (fun c v hc q => k c v (fun z => ?_) q) (fun c q => by rw [upd_ne (ne_of_none q hn)]; exact q) fun c xs q => by rw [upd_ne (ne_of_none q hn)]; exact q
   have f0:=(hf c z).1
   rcases hc with rfl | hc
   ·rw [f0] at e; cases e
   ·rw [f0] at hc; cases hc
theorem turnedL {t':Nat} {ch:List Addr} (I:L2.Inv X pins σ H s) (k:∀ b u,b∉ch→s.heap.get? b = some u→h'.get? b = some u)
  (hf:∀ b∈ch,FpOk X pins H b):L2.Inv X pins σ H { s with heap:=h',toks:=t' }:=by
 refine I.step (g':=s.gens) (d':=s.drawn) (ch:=ch) (fun b hb => ?_) (fun b u _ _ hc e _ => k b u hc e) (fun b u _ _ hc e _ => ⟨u.slots,k b u hc e⟩)
  (fun b u _ e n => n) (fun b u hc e => ⟨u,k b u hc e⟩)
  (fun b xs q => q) (fun b u xs q => q) (fun b ps q => ⟨#[],by rw [q]; simp⟩) (fun m hm => ?_) (fun b u e => ?_) I.bare
 ·(refine Classical.byContradiction fun k_ => ?_; obtain ⟨f0,f1,f2,f3,f4,f5⟩:=hf b hb; refine k_ ?_; clear k_)
  exact ⟨f3,f1,f4,f5⟩
 ·(refine Classical.byContradiction fun k_ => ?_; obtain ⟨u,es,ep,hu,r⟩:=hm; refine k_ ?_; clear k_)
  exact ⟨u,es,ep,k _ u (fun z => (hf _ z).2.1 rfl) hu,r⟩
 ·refine (I.hok b u e).stay (fun c v hc q => k c v (fun z => ?_) q) (fun c q => q) fun c xs q => q
  have f0:=(hf c z).1
  rcases hc with rfl | hc
  ·rw [f0] at e; cases e
  ·rw [f0] at hc; cases hc
end
section
variable {X:Cx} {tg:Expr}
theorem boot_zip:bootBuiltins "zip" = some (.type "zip"):=by rfl
theorem RepL.zip {K:PySem.W.Frag} {H:Hp} {ds es:List D} {xs ys:List V} {i:Nat} {x y:V} (r:RepL K H ds xs) (r':RepL K H es ys) (hx:xs[i]? = some x) (hy:ys[i]? = some y):∃ d e,(zipD ds es)[i]? = some (.tup [d,e])∧Rep K H d x∧Rep K H e y:=by
 (refine Classical.byContradiction fun k_ => ?_; obtain ⟨d,hd,rd⟩:=r.getV hx; refine k_ ?_; clear k_)
 (refine Classical.byContradiction fun k_ => ?_; obtain ⟨e,he,re⟩:=r'.getV hy; refine k_ ?_; clear k_)
 refine ⟨d,e,?_,rd,re⟩
 unfold zipD
 rw [List.getElem?_zipWith,hd,he]
end
end L3
namespace L3
open PySem PySem.Spec PyProof.Rows L2
section
variable {prog:Program} {w:World} {A:Around} {E:Value→Shared→Prop} {s:Shared}
end
section
variable {X:Cx}
end
end L3
namespace L3
open PySem PySem.Spec PyProof.Rows L2
inductive RepK (K:PySem.W.Frag):D→Value→Prop
 | str (x:Str) (t:Tok):RepK K (.str x) (.str x t)
 | int (i:Int) (t:Tok):RepK K (.int i) (.int i t)
 | tupI {a:Addr} {ns:List Int}:KTp K a (ns.map V.int)→RepK K (.ktup (ns.map D.int)) (.ref a)
theorem RepK.rep {K:PySem.W.Frag} {H:Hp} {d:D} {v:Value} (r:RepK K d v):∃ y,RelV y v∧Rep K H d y:=by
 cases r with
 | str x t => exact ⟨.str x,⟨t,rfl⟩,.str x⟩
 | int i t => exact ⟨.int i,⟨t,rfl⟩,.int i⟩
 | tupI h => exact ⟨.ref _,rfl,.ktup h (RepL.ints _)⟩
inductive EntR (w:World) (K:PySem.W.Frag):List DictEntry→List (Str×D)→Prop
 | nil:EntR w K [] []
 | cons {k:Str} {d:D} {t:Tok} {v:Value} {es:List DictEntry} {kvs:List (Str×D)}:RepK K d v→EntR w K es kvs→EntR w K (⟨hashStr w k,.str k t,v⟩::es) ((k,d)::kvs)
structure DC (K:PySem.W.Frag) (w:World) (a:Addr) (kvs:List (Str×D)):Prop where
 ob:∃ o es ep,K.lookup a = some o∧o.ExactDict∧o.data = .dict es ep∧EntR w K es.toList kvs
 nd:(kvs.map (·.1)).Nodup
 ns:(a == sysModules) = false
theorem EntR.pairs {P:Program} {w:World} {K:PySem.W.Frag}:∀ {es:List DictEntry} {kvs:List (Str×D)},EntR w K es kvs→∃ vs:List (Key×Value),Pairs (mixKind P w) es vs∧vs.map (·.1) = kvs.map (fun p => (Sum.inr p.1:Key)) ∧
  (∀ e∈es,∃ k,(mixKind P w).is k e.key = true∧e.hash = (mixKind P w).hash k)∧(∀ z d,kvs.lookup z = some d→∃ v,valueAt vs (.inr z) = some v∧RepK K d v)∧∀ z,kvs.lookup z = none→valueAt vs (.inr z) = none
 | _,_,.nil => ⟨[],.nil,rfl,by simp,by simp,fun z _ => rfl⟩
 | _,_,.cons (k:=k) (d:=d) (t:=t) (v:=v) r h => by
  (refine Classical.byContradiction fun k_ => ?_; obtain ⟨vs,h1,h2,h3,h4,h5⟩:=EntR.pairs (P:=P) h; refine k_ ?_; clear k_)
  refine ⟨(.inr k,v)::vs,.cons (mixKind_str P w k t) rfl h1,by rw [List.map_cons,h2]; rfl,?_,?_,?_⟩
  ·intro e he
   rcases List.mem_cons.mp he with rfl | he
   ·exact ⟨.inr k,mixKind_str P w k t,rfl⟩
   ·exact h3 e he
  ·intro z dz hz
   by_cases e:z = k
   ·subst e
    rw [List.lookup_cons,beq_self_eq_true] at hz
    cases hz
    exact ⟨v,by unfold valueAt; rw [List.find?_cons_of_pos (by simp)]; rfl,r⟩
   ·have hb:(z == k) = false:=beq_eq_false_iff_ne.mpr e
    rw [List.lookup_cons,hb] at hz
    (refine Classical.byContradiction fun k_ => ?_; obtain ⟨v',q1,q2⟩:=h4 z dz hz; refine k_ ?_; clear k_)
    refine ⟨v',?_,q2⟩
    unfold valueAt at q1 ⊢
    rw [List.find?_cons_of_neg (by simp; exact fun q => e q.symm)]
    exact q1
  ·intro z hz
   have e:z≠k:=by
    rintro rfl
    rw [List.lookup_cons,beq_self_eq_true] at hz
    cases hz
   have hb:(z == k) = false:=beq_eq_false_iff_ne.mpr e
   rw [List.lookup_cons,hb] at hz
   have q1:=h5 z hz
   unfold valueAt at q1 ⊢
   rw [List.find?_cons_of_neg (by simp; exact fun q => e q.symm)]
   exact q1
theorem DC.dict {K:PySem.W.Frag} {P:Program} {w:World} {a:Addr} {kvs:List (Str×D)} {h:Heap} (c:DC K w a kvs) (hk:K.In h):∃ vs:List (Key×Value),h.DictOf (mixKind P w) a vs∧(∀ z d,kvs.lookup z = some d→∃ v,valueAt vs (.inr z) = some v∧RepK K d v)∧∀ z,kvs.lookup z = none→valueAt vs (.inr z) = none:=by
 (refine Classical.byContradiction fun k_ => ?_; obtain ⟨o,es,ep,h1,h2,h3,h4⟩:=c.ob; refine k_ ?_; clear k_)
 (refine Classical.byContradiction fun k_ => ?_; obtain ⟨vs,p1,p2,p3,p4,p5⟩:=EntR.pairs (P:=P) h4; refine k_ ?_; clear k_)
 refine ⟨vs,⟨o,es,ep,hk a o h1,h2,h3,fun e he => p3 e (by simpa using he),p1,?_⟩,p4,p5⟩
 rw [p2]
 have:=c.nd
 rw [List.nodup_iff_pairwise_ne,List.pairwise_map] at this ⊢
 exact this.imp fun h q => h (Sum.inr.inj q)
section
variable {X:Cx}
def tKd (K:PySem.W.Frag) (kvs:List (Str×D)) (te:TE):TE:=fun σ H Q => te σ H fun x H1 => ∃ z d,x = .str z∧kvs.lookup z = some d∧∀ v y,RelV y v→Rep K H1 d y→Q y H1
theorem pe_kd {x:Str} {a:Addr} {kvs:List (Str×D)} {e:Expr} {te:TE} {p pos:Pos} (hg:Gl X x) (hm:X.mg x = some (.ref a)) (c:DC X.K X.w a kvs) (he:PE X e te) (hs:NoSl e) (hd:(x == ("__debug__" : Str)) = false:=by decide):PE X (.Subscript (.Name x p) e pos) (tKd X.K kvs te):=by
 intro pins s σ H Q I h
 refine subD_of PySem.F.slot_dict_getitem.lookup hs (ld_glob I hg hm (thn (he pins s σ H _ I h) fun iv s2 zz => ?_) hd)
 (refine Classical.byContradiction fun k_ => ?_; obtain ⟨y,H2,I2,ry,z,d,ey,hl,q2⟩:=zz; refine k_ ?_; clear k_)
 subst ey
 (refine Classical.byContradiction fun k_ => ?_; obtain ⟨vs,dd,h1,_⟩:=c.dict (P:=X.prog) I2.kIn; refine k_ ?_; clear k_)
 (refine Classical.byContradiction fun k_ => ?_; obtain ⟨v,hv,rk⟩:=h1 z d hl; refine k_ ?_; clear k_)
 (refine Classical.byContradiction fun k_ => ?_; obtain ⟨y,ryv,rep⟩:=rk.rep (H:=H2); refine k_ ?_; clear k_)
 exact ⟨dd.typeIs,wpAny_getItem_of (kV_is (k:=.inr z) ry) dd.mapOf hv ⟨y,H2,I2.tok _,ryv,q2 v y ryv rep⟩⟩
theorem p3_kd {x:Str} {kvs:List (Str×D)} {e:Expr} {te:TE3} {p pos:Pos} (hg:Gl X x) (hm:∃ a,X.mg x = some (.ref a)∧DC X.K X.w a kvs) (he:PE3 X e te) (hs:NoSl e:=by exact fun _ _ => rfl) (hd:(x == ("__debug__" : Str)) = false:=by decide) :
  PE3 X (.Subscript (.Name x p) e pos) (kd3 kvs te):=by
 (refine Classical.byContradiction fun k_ => ?_; obtain ⟨a,hm,c⟩:=hm; refine k_ ?_; clear k_)
 refine pe_imp (pe_kd hg hm c he hs hd) fun _ _ _ h => ?_
 (refine Classical.byContradiction fun k_ => ?_; obtain ⟨σ3,H3,Q3,sr,hr,t,k⟩:=h; refine k_ ?_; clear k_)
 refine ⟨σ3,H3,_,sr,hr,t,fun x v H3a Ha tka hra rx qa => ?_⟩
 cases rx with
 | str z =>
  (delta kdk at qa; dsimp only at qa)
  split at qa
  ·rename_i d hl
   exact ⟨z,d,rfl,hl,fun v y _ rep => k _ _ _ _ tka hra rep qa⟩
  ·exact qa.elim
 | _ => exact qa.elim
def tKin (kvs:List (Str×D)) (neg:Bool) (te:TE):TE:=fun σ H Q => te σ H fun x H1 => ∃ z,x = .str z∧Q (.bl (neg != (kvs.lookup z).isSome)) H1
theorem kin_ok {pins:List (Addr×Obj)} {σ:St} {H:Hp} {s:Shared} {a:Addr} {kvs:List (Str×D)} {z:Str} {iv:Value} (I:L2.Inv X pins σ H s) (c:DC X.K X.w a kvs) (ry:RelV (.str z) iv):∃ vs:List (Key×Value),s.heap.DictOf (mixKind X.prog X.w) a vs∧(valueAt vs (.inr z)).isSome = (kvs.lookup z).isSome:=by
 (refine Classical.byContradiction fun k_ => ?_; obtain ⟨vs,dd,h1,h2⟩:=c.dict (P:=X.prog) I.kIn; refine k_ ?_; clear k_)
 refine ⟨vs,dd,?_⟩
 cases e:kvs.lookup z with
 | none => rw [h2 z e]; rfl
 | some d => obtain ⟨v,hv,_⟩:=h1 z d e; rw [hv]; rfl
end
section
variable {X:Cx} {elt iter:Expr} {ifs:List Expr} {scope:Scope} {pos px px' py pt spos:Pos} {x x' y:Str} {fv:FV} {wi:TI3} {tc:TT3} {te:TE3} {kk:Nat}
end
end L3
namespace L3
open PySem PySem.Spec PyProof.Rows L2
section
variable {prog:Program} {w:World} {A:Around} {E:Value→Shared→Prop} {s:Shared} {x:Str} {t:Tok} {it:Addr}
end
section
variable {X:Cx} {tg:Expr}
end
end L3
namespace L3
open PySem PySem.Spec PyProof.Rows L2
section
variable {X:Cx} {tg:Expr}
end
end L3
namespace L3
open PySem PySem.Spec PyProof.Rows L2
section
variable {X:Cx}
theorem op3_iadd:OpR X (inplaceOp .Add) (lift2 X.K r3iadd):=by
 intro pins s σ H x y v u Q I rx ry h
 (refine Classical.byContradiction fun k_ => ?_; obtain ⟨dx,dy,H3,Q3,hr,rdx,rdy,t,k⟩:=h; refine k_ ?_; clear k_)
 cases rdx with
 | int i =>
  cases rdy with
  | int j => exact iop_add pins s σ H _ _ v u Q I rx ry ⟨i,j,rfl,rfl,k _ _ _ _ TK.refl hr (.int _) t⟩
  | _ => exact t.elim
 | str i =>
  cases rdy with
  | str j => exact iop_add_str pins s σ H _ _ v u Q I rx ry ⟨i,j,rfl,rfl,t.1,k _ _ _ _ TK.refl hr (.str _) t.2⟩
  | _ => exact t.elim
 | _ => exact t.elim
theorem op3_isub:OpR X (inplaceOp .Sub) (lift2 X.K i3isub):=op3_of0 iop_sub fun _ _ _ => .int _
theorem s3_aug {i:Nat} {x:Str} {e:Expr} {te:TE3} {op:Operator} {r:R3} {pos' pos:Pos} (hN:X.N.Nodup) (ho:OpR X (inplaceOp op) (lift2 X.K r)) (he:PE3 X e te) (hi:X.N[i]? = some x:=by rfl) (hx:Loc X.env.scope x:=by first | exact Or.inl rfl | exact Or.inr rfl)
  (hf:X.fn x = true∨X.env.scope.names.lookup x = some .local:=by first | exact .inl rfl | exact .inr rfl | assumption):PS3 X (.AugAssign (.Name x pos') op e pos) (au3 i r te) :=
 ps_imp (ps_aug (i:=i) (ti:=lift2 X.K r) hN hi hx he ho hf) fun D0 σ H zz => ex3 zz fun σ3 H3 D3 sr hr t k => by
  simp only [au3] at t
  split at t
  ·rename_i d hd
   (refine Classical.byContradiction fun k_ => ?_; obtain ⟨v,hv,rv⟩:=sr.get _ _ hd; refine k_ ?_; clear k_)
   refine ⟨v,hv,σ3,H3,_,sr,hr,t,fun y u H3a Ha tka hra ry qa => ⟨d,y,H3a,_,hra,rv.mono tka,ry,qa,fun z w H3b Hb tkb hrb rz qb => ?_⟩⟩
   exact k.nx _ _ _ _ (tka.trans tkb) ((sr.mono (tka.trans tkb)).set i rz) hrb qb
  ·exact t.elim
end
end L3
namespace L3
open PySem PySem.Spec PyProof.Rows L2
structure ZAp (z TI TO i1 i2:Addr) (f1 f2:List Addr):Prop where
 TIz:TI≠z
 TOz:TO≠z
 i1z:i1≠z
 i2z:i2≠z
 TITO:TI≠TO
 TIi1:TI≠i1
 TIi2:TI≠i2
 TOi1:TO≠i1
 TOi2:TO≠i2
 i12:i1≠i2
 a1:z∉f1∧TO∉f1∧i2∉f1
 a2:z∉f2∧TO∉f2∧i1∉f2
section
variable {prog:Program} {w:World} {A:Around} {E:Value→Shared→Prop} {s:Shared}
variable {z TI TO i1 i2:Addr} {f1 f2:List Addr} {n1 n2 k:Nat} {P1 P2:Nat→Value→Prop} {S1 S2:Nat→Heap→Prop} {a b:Value}
theorem zipD_item {Q:Option Value→Shared→Prop} (D:ZAp z TI TO i1 i2 f1 f2) (D1:Draws prog w A.in1 i1 f1 n1 P1 S1) (D2:Draws prog w A.in1 i2 f2 n2 P2 S2) (h1:k < n1) (h2:k < n2)
  (hz:IsZip s.heap z TI TO .none) (hTI:IsPair s.heap TI (.ref i1) (.ref i2)) (hTO:IsPair s.heap TO a b) (st1:S1 k s.heap) (st2:S2 k s.heap)
  (hQ:∀ h' tk x y,P1 k x→P2 k y→IsZip h' z TI TO (rawInt s.heap.objs.size)→IsPair h' TO x y→S1 (k + 1) h'→S2 (k + 1) h'→IsPair h' s.heap.objs.size x y →
   (∀ c o,c≠z→c≠TO→c≠i1→c≠i2→s.heap.get? c = some o→h'.get? c = some o)→Q (some (.ref s.heap.objs.size)) { s with heap:=h',toks:=tk }) :
  wpAny (model prog w) A (pyNext (.ref z)) Q E s:=by
 have hT:s.TypeIs (.ref z) "zip":=⟨_,hz,rfl⟩
 unfold pyNext
 refine wpAny_bind (wpAny_attempt (wpAny_callSpecial?_slot (name:=Str.ofString "__next__") hT F.slot_zip_next (wpAny_call_entry F.slot_zip_next hT F.entry_zip_next ?_ (F.args_zip_next_1 _))))
 show wpAny _ _ (field (.ref z) 2 >>= _) _ _ _
 refine wpAny_bind (wpAny_field hz rfl (x:=.bool false) rfl ?_)
 show wpAny _ _ (field (.ref z) 3 >>= _) _ _ _
 refine wpAny_bind (wpAny_field hz rfl (x:=.ref TI) rfl ?_)
 refine wpAny_bind (wpAny_seqItems hTI rfl ?_)
 show wpAny _ _ (Builtin.SmallTypes.ownedTupleIsFree (.ref z) >>= _) _ _ _
 refine wpAny_bind ?_
 unfold Builtin.SmallTypes.ownedTupleIsFree
 refine wpAny_bind (wpAny_field hz rfl (x:=.none) rfl (wpAny_pure ?_))
 simp only [if_true]
 refine wpAny_bind (wpAny_rule ?_)
 refine wpAny_bind (wpAny_field hz rfl (x:=.ref TO) rfl ?_)
 refine wpAny_bind (wpAny_setField_rec hz (by simp) fun h₁ hz₁ hs₁ => ?_)
 replace hz₁:IsZip h₁ z TI TO .ellipsis:=hz₁
 refine wpAny_bind ?_
 simp only [List.zipIdx_cons,List.zipIdx_nil,List.forIn_cons,List.forIn_nil]
 have ne:∀ {c d:Addr} {f:List Addr},c∈f→d∉f→c≠d:=fun hc hd e => hd (e▸hc)
 refine wpAny_bind (wpAny_bind (wpAny_onRaise ?_))
 show wpAny _ _ (Builtin.SmallTypes.nextOf (.ref i1) >>= _) _ _ _
 have s11:S1 k h₁:=D1.frame _ _ _ st1 fun c hc o e => (hs₁.2 c (ne hc D.a1.1)).trans e
 have s21:S2 k h₁:=D2.frame _ _ _ st2 fun c hc o e => (hs₁.2 c (ne hc D.a2.1)).trans e
 refine wpAny_bind (D1.item k { s with heap:=h₁ } _ _ h1 s11 fun x h₂ tk₂ hx s12 hs₂ => wpAny_pure ?_)
 have hTO₂:IsPair h₂ TO a b:=(hs₂.2 TO D.TOi1).trans ((hs₁.2 TO D.TOz).trans hTO)
 refine wpAny_bind (wpAny_seqItems (s:={ s with heap:=h₂,toks:=tk₂ }) hTO₂ rfl ?_)
 refine wpAny_bind (wpAny_updateSeq_pair (s:={ s with heap:=h₂,toks:=tk₂ }) hTO₂ fun h₃ hTO₃ hs₃ => ?_)
 replace hTO₃:IsPair h₃ TO x b:=hTO₃
 refine wpAny_bind (wpAny_letGo (wpAny_pure ?_))
 have s13:S1 (k + 1) h₃:=D1.frame _ _ _ s12 fun c hc o e => (hs₃.2 c (ne hc D.a1.2.1)).trans e
 have s23:S2 k h₃:=D2.frame _ _ _ s21 fun c hc o e => (hs₃.2 c (ne hc D.a2.2.1)).trans ((hs₂.2 c (ne hc D.a2.2.2)).trans e)
 refine wpAny_bind (wpAny_bind (wpAny_onRaise ?_))
 show wpAny _ _ (Builtin.SmallTypes.nextOf (.ref i2) >>= _) _ _ _
 refine wpAny_bind (D2.item k { s with heap:=h₃,toks:=tk₂ } _ _ h2 s23 fun y h₄ tk₄ hy s24 hs₄ => wpAny_pure ?_)
 have hTO₄:IsPair h₄ TO x b:=(hs₄.2 TO D.TOi2).trans hTO₃
 refine wpAny_bind (wpAny_seqItems (s:={ s with heap:=h₄,toks:=tk₄ }) hTO₄ rfl ?_)
 refine wpAny_bind (wpAny_updateSeq_pair (s:={ s with heap:=h₄,toks:=tk₄ }) hTO₄ fun h₅ hTO₅ hs₅ => ?_)
 replace hTO₅:IsPair h₅ TO x y:=hTO₅
 refine wpAny_bind (wpAny_letGo (wpAny_pure (wpAny_pure ?_)))
 have s14:S1 (k + 1) h₅:=D1.frame _ _ _ s13 fun c hc o e => (hs₅.2 c (ne hc D.a1.2.1)).trans ((hs₄.2 c (ne hc D.a1.2.2)).trans e)
 have s25:S2 (k + 1) h₅:=D2.frame _ _ _ s24 fun c hc o e => (hs₅.2 c (ne hc D.a2.2.1)).trans e
 refine wpAny_bind (wpAny_seqItems (s:={ s with heap:=h₅,toks:=tk₄ }) hTO₅ rfl ?_)
 refine wpAny_bind (wpAny_newTuple ?_)
 have hsz:h₅.objs.size = s.heap.objs.size:=by rw [hs₅.1,hs₄.1,hs₃.1,hs₂.1,hs₁.1]
 have hz₅:IsZip h₅ z TI TO .ellipsis:=(hs₅.2 z D.TOz.symm).trans ((hs₄.2 z D.i2z.symm).trans ((hs₃.2 z D.TOz.symm).trans ((hs₂.2 z D.i1z.symm).trans hz₁)))
 have hk₅:∀ c o,c≠z→c≠TO→c≠i1→c≠i2→s.heap.get? c = some o→h₅.get? c = some o:=fun c o c1 c2 c3 c4 e =>
  (hs₅.2 c c2).trans ((hs₄.2 c c4).trans ((hs₃.2 c c2).trans ((hs₂.2 c c3).trans ((hs₁.2 c c1).trans e))))
 have hzlt:z < h₅.objs.size:=Heap.lt_size hz₅
 show wpAny _ _ (Builtin.SmallTypes.ownedTupleHandOut (.ref z) (.ref h₅.objs.size) >>= _) _ _ _
 refine wpAny_bind ?_
 unfold Builtin.SmallTypes.ownedTupleHandOut
 have hz₆:IsZip (h₅.push { cls:=.type "tuple",data:=.seq #[x,y] }) z TI TO .ellipsis:=Heap.get?_push_of_some _ hz₅
 refine wpAny_bind (wpAny_setField_rec (s:={ s with heap:=h₅.push { cls:=.type "tuple",data:=.seq #[x,y] },toks:=tk₄ }) hz₆ (by simp) fun h₇ hz₇ hs₇ => ?_)
 replace hz₇:IsZip h₇ z TI TO (rawInt h₅.objs.size):=hz₇
 refine wpAny_setField_rec (s:={ s with heap:=h₇,toks:=tk₄ }) hz₇ (by simp) fun h₈ hz₈ hs₈ => ?_
 replace hz₈:IsZip h₈ z TI TO (rawInt h₅.objs.size):=hz₈
 have up:∀ c o,c≠z→h₅.get? c = some o→h₈.get? c = some o:=fun c o c1 e => (hs₈.2 c c1).trans ((hs₇.2 c c1).trans (Heap.get?_push_of_some _ e))
 have hT₈:IsPair h₈ h₅.objs.size x y:=(hs₈.2 _ (Nat.ne_of_gt hzlt)).trans ((hs₇.2 _ (Nat.ne_of_gt hzlt)).trans (Heap.get?_push_size _ rfl))
 rw [hsz] at hz₈ hT₈
 refine wpAny_pure ⟨_,rfl,wpAny_pure ?_⟩
 show Q (some (.ref h₅.objs.size)) _
 rw [hsz]
 exact hQ h₈ tk₄ x y hx hy hz₈ (up _ _ D.TOz hTO₅) (D1.frame _ _ _ s14 fun c hc o e => up c o (ne hc D.a1.1) e) (D2.frame _ _ _ s25 fun c hc o e => up c o (ne hc D.a2.1) e) hT₈ fun c o c1 c2 c3 c4 e => up c o c1 (hk₅ c o c1 c2 c3 c4 e)
def Endd (prog:Program) (w:World) (A:Around) (it:Addr) (S:Heap→Prop):Prop:=∀ (s:Shared) (Q:Value→Shared→Prop) (E:Value→Shared→Prop),S s.heap →
 (∀ h' e,Heap.ExtBut it s.heap h'→(∃ o,h'.get? e = some o∧o.cls = .type "StopIteration")→E (.ref e) { s with heap:=h' })→wpAny (model prog w) A (Builtin.SmallTypes.nextOf (.ref it)) Q E s
theorem zipD_end {Q:Option Value→Shared→Prop} (D:ZAp z TI TO i1 i2 f1 f2) (fr1:∀ h h':Heap,S1 k h→(∀ b∈f1,∀ o,h.get? b = some o→h'.get? b = some o)→S1 k h') (fr2:∀ h h':Heap,S2 k h→(∀ b∈f2,∀ o,h.get? b = some o→h'.get? b = some o)→S2 k h')
  (hend:Endd prog w A.in1 i1 (S1 k)∨((k < n1∧Draws prog w A.in1 i1 f1 n1 P1 S1)∧Endd prog w A.in1 i2 (S2 k)))
  (hz:IsZip s.heap z TI TO .none) (hTI:IsPair s.heap TI (.ref i1) (.ref i2)) (hTO:IsPair s.heap TO a b) (st1:S1 k s.heap) (st2:S2 k s.heap)
  (hQ:∀ h' tk,(∀ c o,c≠z→c≠TO→c≠i1→c≠i2→s.heap.get? c = some o→h'.get? c = some o)→Q none { s with heap:=h',toks:=tk }) :
  wpAny (model prog w) A (pyNext (.ref z)) Q E s:=by
 have hT:s.TypeIs (.ref z) "zip":=⟨_,hz,rfl⟩
 unfold pyNext
 refine wpAny_bind (wpAny_attempt (wpAny_callSpecial?_slot (name:=Str.ofString "__next__") hT F.slot_zip_next (wpAny_call_entry F.slot_zip_next hT F.entry_zip_next ?_ (F.args_zip_next_1 _))))
 have fin:∀ h' e tk,(∀ c o,c≠z→c≠TO→c≠i1→c≠i2→s.heap.get? c = some o→h'.get? c = some o)→(∃ o,h'.get? e = some o∧o.cls = .type "StopIteration") →
   wpAny (model prog w) A (do let r ← isInstance (.ref e) (Value.type "StopIteration"); if r = true then pure none else throw (.ref e)) Q E { s with heap:=h',toks:=tk }:=by
  intro h' e tk hk z_
  (refine Classical.byContradiction fun k_ => ?_; obtain ⟨o,ho,hc⟩:=z_; refine k_ ?_; clear k_)
  refine wpAny_bind (wpAny_isInstance (T := "StopIteration") (b:=true) ⟨o,ho,hc⟩ isSubtype_stop ?_)
  exact wpAny_pure (hQ h' tk hk)
 show wpAny _ _ (field (.ref z) 2 >>= _) _ _ _
 refine wpAny_bind (wpAny_field hz rfl (x:=.bool false) rfl ?_)
 show wpAny _ _ (field (.ref z) 3 >>= _) _ _ _
 refine wpAny_bind (wpAny_field hz rfl (x:=.ref TI) rfl ?_)
 refine wpAny_bind (wpAny_seqItems hTI rfl ?_)
 show wpAny _ _ (Builtin.SmallTypes.ownedTupleIsFree (.ref z) >>= _) _ _ _
 refine wpAny_bind ?_
 unfold Builtin.SmallTypes.ownedTupleIsFree
 refine wpAny_bind (wpAny_field hz rfl (x:=.none) rfl (wpAny_pure ?_))
 simp only [if_true]
 refine wpAny_bind (wpAny_rule ?_)
 refine wpAny_bind (wpAny_field hz rfl (x:=.ref TO) rfl ?_)
 refine wpAny_bind (wpAny_setField_rec hz (by simp) fun h₁ hz₁ hs₁ => ?_)
 replace hz₁:IsZip h₁ z TI TO .ellipsis:=hz₁
 refine wpAny_bind ?_
 simp only [List.zipIdx_cons,List.zipIdx_nil,List.forIn_cons,List.forIn_nil]
 have ne:∀ {c d:Addr} {f:List Addr},c∈f→d∉f→c≠d:=fun hc hd e => hd (e▸hc)
 refine wpAny_bind (wpAny_bind (wpAny_onRaise ?_))
 show wpAny _ _ (Builtin.SmallTypes.nextOf (.ref i1) >>= _) _ _ _
 have s11:S1 k h₁:=fr1 _ _ st1 fun c hc o e => (hs₁.2 c (ne hc D.a1.1)).trans e
 have s21:S2 k h₁:=fr2 _ _ st2 fun c hc o e => (hs₁.2 c (ne hc D.a2.1)).trans e
 rcases hend with hend | ⟨⟨hk1,D1⟩,hend⟩
 ·refine wpAny_bind (hend { s with heap:=h₁ } _ _ s11 fun h₂ e hs₂ he => ?_)
  (refine Classical.byContradiction fun k_ => ?_; obtain ⟨oe,hoe,hce⟩:=he; refine k_ ?_; clear k_)
  have hz₂:IsZip h₂ z TI TO .ellipsis:=hs₂ _ _ D.i1z.symm hz₁
  have hez:e≠z:=fun x => by subst x; rw [hz₂] at hoe; cases hoe; simp at hce
  refine wpAny_setField_rec (s:={ s with heap:=h₂ }) hz₂ (by simp) fun h₃ _ hs₃ => ?_
  exact fin h₃ e s.toks (fun c o c1 _ c3 _ x => (hs₃.2 c c1).trans (hs₂ c o c3 ((hs₁.2 c c1).trans x))) ⟨oe,(hs₃.2 e hez).trans hoe,hce⟩
 ·refine wpAny_bind (D1.item k { s with heap:=h₁ } _ _ hk1 s11 fun x h₂ tk₂ hx s12 hs₂ => wpAny_pure ?_)
  have hTO₂:IsPair h₂ TO a b:=(hs₂.2 TO D.TOi1).trans ((hs₁.2 TO D.TOz).trans hTO)
  refine wpAny_bind (wpAny_seqItems (s:={ s with heap:=h₂,toks:=tk₂ }) hTO₂ rfl ?_)
  refine wpAny_bind (wpAny_updateSeq_pair (s:={ s with heap:=h₂,toks:=tk₂ }) hTO₂ fun h₃ hTO₃ hs₃ => ?_)
  refine wpAny_bind (wpAny_letGo (wpAny_pure ?_))
  have s23:S2 k h₃:=fr2 _ _ s21 fun c hc o e => (hs₃.2 c (ne hc D.a2.2.1)).trans ((hs₂.2 c (ne hc D.a2.2.2)).trans e)
  refine wpAny_bind (wpAny_bind (wpAny_onRaise ?_))
  show wpAny _ _ (Builtin.SmallTypes.nextOf (.ref i2) >>= _) _ _ _
  refine wpAny_bind (hend { s with heap:=h₃,toks:=tk₂ } _ _ s23 fun h₄ e hs₄ he => ?_)
  (refine Classical.byContradiction fun k_ => ?_; obtain ⟨oe,hoe,hce⟩:=he; refine k_ ?_; clear k_)
  have hz₄:IsZip h₄ z TI TO .ellipsis:=hs₄ _ _ D.i2z.symm ((hs₃.2 z D.TOz.symm).trans ((hs₂.2 z D.i1z.symm).trans hz₁))
  have hez:e≠z:=fun x => by subst x; rw [hz₄] at hoe; cases hoe; simp at hce
  refine wpAny_setField_rec (s:={ s with heap:=h₄,toks:=tk₂ }) hz₄ (by simp) fun h₅ _ hs₅ => ?_
  exact fin h₅ e tk₂ (fun c o c1 c2 c3 c4 x => (hs₅.2 c c1).trans (hs₄ c o c4 ((hs₃.2 c c2).trans ((hs₂.2 c c3).trans ((hs₁.2 c c1).trans x))))) ⟨oe,(hs₅.2 e hez).trans hoe,hce⟩
end
def aIt (x:Str) (t:Tok):Obj:={ cls:=.type "str_ascii_iterator",data:=.fields #[.str x t,.int 0 0] }
def lIt (l:Addr):Obj:={ cls:=.type "list_iterator",data:=.fields #[.ref l,.int 0 0] }
abbrev zh2 (h:Heap) (o1 o2:Obj):Heap:=(h.push o1).push o2
abbrev zh3 (h:Heap) (o1 o2:Obj):Heap:=(zh2 h o1 o2).push { cls:=.type "tuple",data:=.seq #[.ref h.objs.size,.ref (h.push o1).objs.size] }
abbrev zh4 (h:Heap) (o1 o2:Obj):Heap:=(zh3 h o1 o2).push { cls:=.type "tuple",data:=.seq #[.none,.none] }
abbrev zh5 (h:Heap) (o1 o2:Obj):Heap:=(zh4 h o1 o2).push { cls:=.type "zip",data:=.fields #[.none,.bool false,.bool false,.ref (zh2 h o1 o2).objs.size,.ref (zh3 h o1 o2).objs.size] }
set_option maxHeartbeats 4000000 in
theorem meets_zip_lt (l:Addr) (xs:Array Value) (x:Str) (t:Tok) (ha:x.cps.all (· < 128) = true) :
  Meets (Builtin.«zip.__new__» ⟨[.type "zip",.ref l,.str x t],[]⟩) (fun _ R s => s.heap.IsList l xs∧R (.ok (.ret (.ref (zh4 s.heap (lIt l) (aIt x t)).objs.size))) { s with heap:=zh5 s.heap (lIt l) (aIt x t) }) :=
 .of_wp fun prog w A R s h => by
  (refine Classical.byContradiction fun k_ => ?_; obtain ⟨hp,g,d,tk,os⟩:=s; refine k_ ?_; clear k_)
  obtain ⟨hl,h⟩:=h
  have hsub:=sub_zip
  have hL:Heap.IsList (Shared.heap ⟨hp,g,d,tk,os⟩) l xs:=hl
  wp_walk using wpAny_pyIter_list hL,wpAny_pyIter_ascii ha
  exact ⟨_,rfl,h⟩
theorem zh_at (h:Heap) (o1 o2:Obj) (f1:o1.isFreed = false) (f2:o2.isFreed = false):let n:=h.objs.size
  (zh4 h o1 o2).objs.size = n + 4∧IsZip (zh5 h o1 o2) (n + 4) (n + 2) (n + 3) .none∧IsPair (zh5 h o1 o2) (n + 2) (.ref n) (.ref (n + 1))∧IsPair (zh5 h o1 o2) (n + 3) .none .none∧(zh5 h o1 o2).get? n = some o1∧(zh5 h o1 o2).get? (n + 1) = some o2∧∀ c o,h.get? c = some o→(zh5 h o1 o2).get? c = some o:=by
 intro n
 have z1:(h.push o1).objs.size = n + 1:=Heap.size_push ..
 have z2:(zh2 h o1 o2).objs.size = n + 2:=by rw [Heap.size_push,z1]
 have z3:(zh3 h o1 o2).objs.size = n + 3:=by rw [Heap.size_push,z2]
 have z4:(zh4 h o1 o2).objs.size = n + 4:=by rw [Heap.size_push,z3]
 have g5:(zh5 h o1 o2).get? (zh4 h o1 o2).objs.size = some _:=Heap.get?_push_size _ rfl
 have g4:(zh5 h o1 o2).get? (zh3 h o1 o2).objs.size = some _:=Heap.get?_push_of_some _ (Heap.get?_push_size _ rfl)
 have g3:(zh5 h o1 o2).get? (zh2 h o1 o2).objs.size = some _:=Heap.get?_push_of_some _ (Heap.get?_push_of_some _ (Heap.get?_push_size _ rfl))
 have g2:(zh5 h o1 o2).get? (h.push o1).objs.size = some o2:=Heap.get?_push_of_some _ (Heap.get?_push_of_some _ (Heap.get?_push_of_some _ (Heap.get?_push_size _ f2)))
 have g1:(zh5 h o1 o2).get? h.objs.size = some o1:=Heap.get?_push_of_some _ (Heap.get?_push_of_some _ (Heap.get?_push_of_some _ (Heap.get?_push_of_some _ (Heap.get?_push_size _ f1))))
 rw [z2,z3,z4] at g5
 rw [z1,z2] at g3
 rw [z3] at g4
 rw [z1] at g2
 exact ⟨z4,g5,g3,g4,g1,g2,fun c o x => Heap.get?_push_of_some _ (Heap.get?_push_of_some _ (Heap.get?_push_of_some _ (Heap.get?_push_of_some _ (Heap.get?_push_of_some _ x))))⟩
end L3
namespace L3
open PySem PySem.Spec PyProof.Rows L2
theorem ltn {l n:Nat} (h:l < n):n + 4≠l∧n + 3≠l∧n + 1≠l∧n≠l:=by grind
theorem nm1 {x a:Nat} (h:x≠a):x∉[a]:=by simp [h]
theorem nm2 {x a b:Nat} (h:x≠a) (g:x≠b):x∉[a,b]:=by simp [h,g]
def Itz_lt (K:PySem.W.Frag) (a:Addr) (x:Str):It :=
 ⟨fun i H => ∃ xs v c,SqL K H a xs∧xs[i]? = some v∧x.cps[i]? = some c,
   fun i H y H' => ∃ T v c,y = .ref T∧H T = none∧H' = upd H T (.tup [v,.str ⟨#[c]⟩])∧x.cps[i]? = some c∧∀ xs,SqL K H a xs→xs[i]? = some v,
   fun i H => ∃ xs,SqL K H a xs∧(xs.length≤i∨x.cps.size≤i)⟩
theorem turn_zip_lt {P:Program} {w:World} {K:PySem.W.Frag} {elts:List Expr} {kt:Nat} {pt:Pos} {x:Str} {t:Tok} (z TI TO i1 i2 a:Addr) (D:ZAp z TI TO i1 i2 [i1,a] [i2]) (hai:a≠i1) :
  Turn P w K (.Tuple elts kt pt) (Itz_lt K a x) [z,TI,TO,i1,i2] z (fun i h => IsZip h z TI TO .none∧IsPair h TI (.ref i1) (.ref i2)∧(∃ u v,IsPair h TO u v)∧h.IsListIter i1 a i∧i≤x.cps.size∧h.IsStrIter i2 "str_ascii_iterator" x t i) where
 mem:=by simp
 obj:=by
  rintro i h ⟨h1,h2,⟨u,v,h3⟩,⟨o4,h4,c4,d4⟩,_,⟨o5,h5,c5,d5⟩⟩ c hc
  simp only [List.mem_cons,List.not_mem_nil,or_false] at hc
  rcases hc with rfl | rfl | rfl | rfl | rfl
  ·exact ⟨_,h1,fun v z => nomatch z⟩
  ·exact ⟨_,h2,fun v z => nomatch z⟩
  ·exact ⟨_,h3,fun v z => nomatch z⟩
  ·first
   | exact ⟨_,h4,fun v z => by rw [d4] at z; cases z⟩
   | exact ⟨_,h5,fun v z => by rw [d5] at z; cases z⟩
  ·first
   | exact ⟨_,h4,fun v z => by rw [d4] at z; cases z⟩
   | exact ⟨_,h5,fun v z => by rw [d5] at z; cases z⟩
 keep:=by
  rintro i h h' ⟨h1,h2,⟨u,v,h3⟩,h4,hi,⟨o5,h5,r5⟩⟩ k
  exact ⟨k z (by simp) _ h1,k TI (by simp) _ h2,⟨u,v,k TO (by simp) _ h3⟩,h4.at fun o e => k i1 (by simp) o e,hi,o5,k i2 (by simp) o5 h5,r5⟩
 item:=by
  intro X hP hw hK hc i pins s σ H E I hf st hg
  subst hP hw hK
  (refine Classical.byContradiction fun k_ => ?_; obtain ⟨xs,v,c,hq,hxv,hcx⟩:=hg; refine k_ ?_; clear k_)
  (refine Classical.byContradiction fun k_ => ?_; obtain ⟨h1,h2,⟨u0,v0,h3⟩,h4,_,h5⟩:=st; refine k_ ?_; clear k_)
  (refine Classical.byContradiction fun k_ => ?_; obtain ⟨its,rv,pl,hz⟩:=I.list hq; refine k_ ?_; clear k_)
  (refine Classical.byContradiction fun k_ => ?_; obtain ⟨u,hu,ru⟩:=rv.get hxv; refine k_ ?_; clear k_)
  have hh:=I.ok.hd hc
  have hlv:i < its.length:=(List.getElem?_eq_some_iff.mp hu).1
  have hct:i < x.cps.size:=(Array.getElem?_eq_some_iff.mp hcx).1
  have hT:H s.heap.objs.size = none:=I.hok.fresh (Nat.le_refl _)
  refine zipD_item (k:=i) (f1:=[i1,a]) (f2:=[i2]) (S1:=fun i h => h.IsListIter i1 a i∧h.IsList a its.toArray) (S2:=fun i h => h.IsStrIter i2 "str_ascii_iterator" x t i) D (Draws.list (prog:=X.prog) (w:=X.w) (A:=X.A.in1) hh i1 a hai its.toArray) (Draws.strAscii (prog:=X.prog) (w:=X.w) (A:=X.A.in1) hh i2 x t) (by simp; grind) hct h1 h2 h3 ⟨h4,pl.isList⟩ h5 fun h' tk y1 y2 hy1 hy2 a1 a2 sa sb a5 a7 => ?_
  refine ⟨_,rfl,?_⟩
  refine wpAny_letOwnedTupleGo_zip (s:={ s with heap:=h',toks:=tk }) a1 fun h'' b1 b2 => ?_
  have lt:∀ {c o},s.heap.get? c = some o→s.heap.objs.size≠c:=fun e => Nat.ne_of_gt (Heap.lt_size e)
  (refine Classical.byContradiction fun k_ => ?_; obtain ⟨c',u',hc',rfl⟩:=hy2; refine k_ ?_; clear k_)
  have ec:c' = c:=Option.some.inj (hc'.symm.trans hcx)
  subst ec
  have eu:y1 = u:=by
   have q:=hy1
   simp only [List.getElem?_toArray] at q
   exact Option.some.inj (q.symm.trans hu)
  subst eu
  have new:h''.get? s.heap.objs.size = some { cls:=.type "tuple",data:=.seq #[y1,.str ⟨#[c']⟩ u'] }:=(b2.2 _ (lt h1)).trans a5
  have I1:L2.Inv X pins σ (upd H s.heap.objs.size (.tup [v,.str ⟨#[c']⟩])) { s with heap:=h'',toks:=tk }:=by
   refine turnedNew (ch:=[z,TI,TO,i1,i2]) I (fun c o hcn e => ?_) hf (Nat.le_refl _) ⟨?_,[y1,.str ⟨#[c']⟩ u'],.cons ru (.cons ⟨_,rfl⟩ .nil),⟨_,new,rfl,_,rfl⟩⟩
   ·have n1:c≠z:=fun w => hcn (by simp [w])
    exact (b2.2 c n1).trans (a7 c o n1 (fun w => hcn (by simp [w])) (fun w => hcn (by simp [w])) (fun w => hcn (by simp [w])) e)
   ·show 2≤sizeLine; decide
  refine ⟨.ref s.heap.objs.size,_,I1,rfl,⟨_,v,c',rfl,hT,rfl,hcx,fun xs' q1 => by rw [I.list_inj q1 hq]; exact hxv⟩,⟨b1,?_,⟨_,_,(b2.2 TO D.TOz).trans a2⟩,?_,hct,?_⟩,fun d hdm => ?_⟩
  ·exact (b2.2 TI D.TIz).trans (a7 TI _ D.TIz D.TITO D.TIi1 D.TIi2 h2)
  ·exact (sa).1.at fun o e => (b2.2 i1 D.i1z).trans e
  ·(refine Classical.byContradiction fun k_ => ?_; obtain ⟨o,e,r⟩:=sb; refine k_ ?_; clear k_)
   exact ⟨o,(b2.2 i2 D.i2z).trans e,r⟩
  ·have hcn:H d = none:=(hf d hdm).1
   have:d≠s.heap.objs.size:=by
    obtain ⟨o,e,_⟩:∃ o,s.heap.get? d = some o∧True:=by
     simp only [List.mem_cons,List.not_mem_nil,or_false] at hdm
     (refine Classical.byContradiction fun k_ => ?_; obtain ⟨o4,e4,_⟩:=h4; refine k_ ?_; clear k_)
     (refine Classical.byContradiction fun k_ => ?_; obtain ⟨o5,e5,_⟩:=h5; refine k_ ?_; clear k_)
     rcases hdm with rfl | rfl | rfl | rfl | rfl
     ·exact ⟨_,h1,trivial⟩
     ·exact ⟨_,h2,trivial⟩
     ·exact ⟨_,h3,trivial⟩
     ·first | exact ⟨_,e4,trivial⟩ | exact ⟨_,e5,trivial⟩
     ·first | exact ⟨_,e4,trivial⟩ | exact ⟨_,e5,trivial⟩
    exact (lt e).symm
   rw [upd_ne this]; exact hcn
 done:=by
  intro X hP hw hK hc i pins s σ H E I hf st hg
  subst hP hw hK
  (refine Classical.byContradiction fun k_ => ?_; obtain ⟨xs,hq,hx⟩:=hg; refine k_ ?_; clear k_)
  (refine Classical.byContradiction fun k_ => ?_; obtain ⟨h1,h2,⟨u0,v0,h3⟩,h4,hi,h5⟩:=st; refine k_ ?_; clear k_)
  (refine Classical.byContradiction fun k_ => ?_; obtain ⟨its,rv,pl,hz⟩:=I.list hq; refine k_ ?_; clear k_)
  have hl:=rv.length
  have hh:=I.ok.hd hc
  have DL:=Draws.list (prog:=X.prog) (w:=X.w) (A:=X.A.in1) hh i1 a hai its.toArray
  have DT:=Draws.strAscii (prog:=X.prog) (w:=X.w) (A:=X.A.in1) hh i2 x t
  have endL:its.length≤i→Endd X.prog X.w X.A.in1 i1 ((fun i h => h.IsListIter i1 a i∧h.IsList a its.toArray) i):=fun hle s' Q E' st' hE => wpAny_nextOf_list_end hh st'.1 st'.2 (by simp; grind) hE
  have endT:x.cps.size≤i→Endd X.prog X.w X.A.in1 i2 ((fun i h => h.IsStrIter i2 "str_ascii_iterator" x t i) i):=fun hle s' Q E' st' hE => by
   have e:i = x.cps.size:=Nat.le_antisymm hi hle
   subst e
   exact DT.done s' Q E' st' hE
  refine zipD_end (k:=i) (P1:=fun i v => its.toArray[i]? = some v) (f1:=[i1,a]) (f2:=[i2]) (n1:=its.toArray.size) (S1:=fun i h => h.IsListIter i1 a i∧h.IsList a its.toArray) (S2:=fun i h => h.IsStrIter i2 "str_ascii_iterator" x t i) D (fun _ _ q k => DL.frame i _ _ q k) (fun _ _ q k => DT.frame i _ _ q k) ?_ h1 h2 h3 ⟨h4,pl.isList⟩ h5 fun h' tk k => ⟨rfl,?_⟩
  ·by_cases hle:its.length≤i
   ·exact .inl (endL hle)
   ·exact .inr ⟨⟨by simp; grind,DL⟩,endT (by grind)⟩
  ·exact turnedL (t':=tk) (ch:=[z,TI,TO,i1,i2]) I (fun c o hcn e => k c o (fun w => hcn (by simp [w])) (fun w => hcn (by simp [w])) (fun w => hcn (by simp [w])) (fun w => hcn (by simp [w])) e) hf
 self:=fun A i s Q E st h => wpAny_pyIter_zip st.1 h
section
variable {X:Cx} {tg:Expr}
theorem call_zip_lt {prog:Program} {w:World} {A:Around} {E:Value→Shared→Prop} {s:Shared} {l:Addr} {xs:Array Value} {x:Str} {t:Tok} {Q:Value→Shared→Prop} (ha:x.cps.all (· < 128) = true) (hl:s.heap.IsList l xs)
  (h:Q (.ref (s.heap.objs.size + 4)) { s with heap:=zh5 s.heap (lIt l) (aIt x t) }):wpAny (model prog w) A (call (.type "zip") [.ref l,.str x t]) Q E s:=by
 refine callType_new F.called_zip (by decide) (F.typeCall_zip_2 _ _) (F.newCall_zip_2 _ _) (fun obj => F.args_object_init_3 obj _ _) F.entry_zip_new (meets_zip_lt l xs x t ha) ⟨hl,?_⟩
 (refine Classical.byContradiction fun k_ => ?_; obtain ⟨z4,g5,_⟩:=zh_at s.heap (lIt l) (aIt x t) rfl rfl; refine k_ ?_; clear k_)
 show _∧_
 rw [z4]
 exact ⟨⟨_,g5,rfl⟩,h⟩
def jZip_lt (K:PySem.W.Frag) (ta:TA):TI:=fun σ H R => ta σ H fun vs H1 => ∃ l x,vs = [.ref l,.str x]∧x.cps.all (· < 128) = true∧(∃ xs,SqL K H1 l xs)∧R (Itz_lt K l x) H1
theorem pj_zip_lt {a b:Expr} {ta:TA} {p pos pt:Pos} {elts:List Expr} {kt:Nat} (hg:Gl X "zip") (hm:X.mg "zip" = none) (ha:PA X [a,b] ta) (hs:starEach [a,b] X.env = [(false,eval a X.env),(false,eval b X.env)]:=by rfl) (hs2:starEach [b] X.env = [(false,eval b X.env)]:=by rfl) :
  PI X (.Tuple elts kt pt) (.Call (.Name "zip" p) [a,b] [] pos) (jZip_lt X.K ta):=by
 intro pins s σ H R I h
 refine Call_ (ld_blt I hg hm boot_zip (PyProof.Rows.callWith_type1 (thn (ha pos pins s σ H _ I h) fun us s1 ⟨vs,H1,I1,r1,l,x,e,hx,⟨xs,hq⟩,q⟩ => ?_) (by rw [hs,hs2]) (by rw [hs2]; rfl)))
 subst e
 (refine Classical.byContradiction fun k_ => ?_; obtain ⟨u,u',rfl,e1,e2⟩:=vals2 r1; refine k_ ?_; clear k_)
 cases e1
 obtain ⟨t,rfl⟩:=e2
 (refine Classical.byContradiction fun k_ => ?_; obtain ⟨its,rv,pl,hz⟩:=I1.list hq; refine k_ ?_; clear k_)
 have a1:l < s1.heap.objs.size:=by obtain ⟨_,e,_⟩:=pl.isList; exact Heap.lt_size e
 refine call_zip_lt hx pl.isList ?_
 (refine Classical.byContradiction fun k_ => ?_; obtain ⟨z4,g5,g3,g4,g1,g2,hk⟩:=zh_at s1.heap (lIt l) (aIt x t) rfl rfl; refine k_ ?_; clear k_)
 generalize hn:s1.heap.objs.size = n at *
 refine wpAny_pyIter_zip (s:={ s1 with heap:=zh5 s1.heap (lIt l) (aIt x t) }) g5 ?_
 have I2:L2.Inv X pins σ H1 { s1 with heap:=zh5 s1.heap (lIt l) (aIt x t),toks:=s1.toks }:=I1.kept (t':=s1.toks) hk
 have D:ZAp (n + 4) (n + 2) (n + 3) n (n + 1) [n,l] [n + 1]:=by
  exact ⟨(show (n + 2:Nat)≠n + 4 from by grind),(show (n + 3:Nat)≠n + 4 from by grind),(show (n:Nat)≠n + 4 from by grind),(show (n + 1:Nat)≠n + 4 from by grind),(show (n + 2:Nat)≠n + 3 from by grind),(show (n + 2:Nat)≠n from by grind),(show (n + 2:Nat)≠n + 1 from by grind),(show (n + 3:Nat)≠n from by grind),(show (n + 3:Nat)≠n + 1 from by grind),(show (n:Nat)≠n + 1 from by grind),⟨nm2 (show (n + 4:Nat)≠n from by grind) (ltn a1).1,nm2 (show (n + 3:Nat)≠n from by grind) (ltn a1).2.1,nm2 (show (n + 1:Nat)≠n from by grind) (ltn a1).2.2.1⟩,⟨nm1 (show (n + 4:Nat)≠n + 1 from by grind),nm1 (show (n + 3:Nat)≠n + 1 from by grind),nm1 (show (n:Nat)≠n + 1 from by grind)⟩⟩
 refine ⟨_,_,_,_,H1,rfl,I2,turn_zip_lt (t:=t) _ _ _ _ _ l D (Ne.symm (ltn a1).2.2.2),⟨g5,g3,⟨_,_,g4⟩,⟨_,g1,rfl,rfl⟩,Nat.zero_le _,⟨_,g2,rfl,rfl⟩⟩,fun b hb => ?_,q⟩
 simp only [List.mem_cons,List.not_mem_nil,or_false] at hb
 have hge:s1.heap.objs.size≤b:=by rw [hn]; rcases hb with rfl | rfl | rfl | rfl | rfl <;> grind
 exact I1.fpOk (b:=b) (H':=H1) hge (I1.hok.fresh hge)
theorem itOk_zip_lt {K:PySem.W.Frag} {H:Hp} {a:Addr} {ds:List D} {z:Str}:ItOk K H (zipD ds (lets z)) (fun H' => H' a = some (.lst ds)) (Itz_lt K a z):=fun H3 H' _ hr hk => by
 (refine Classical.byContradiction fun k_ => ?_; obtain ⟨vs,ga,ra⟩:=hr a _ hk; refine k_ ?_; clear k_)
 have hl:(zipD ds (lets z)).length = min ds.length z.cps.size:=by
  have hz:(lets z).length = z.cps.size:=by unfold lets; rw [List.length_map,Array.length_toList]
  unfold zipD; rw [List.length_zipWith,hz]
 refine ⟨fun i hi => ?_,?_⟩
 ·rw [hl] at hi
  have h1:i < vs.length:=by rw [← ra.length]; grind
  have h2:i < z.cps.size:=by grind
  refine ⟨⟨vs,vs[i],z.cps[i],SqL.of ga,by simp,by simp⟩,fun v H'' y => ?_⟩
  (refine Classical.byContradiction fun k_ => ?_; obtain ⟨T,x,c,rfl,hT,rfl,hc,hx⟩:=y; refine k_ ?_; clear k_)
  (refine Classical.byContradiction fun k_ => ?_; obtain ⟨d,hd,rd⟩:=ra.getV (hx vs (SqL.of ga)); refine k_ ?_; clear k_)
  have hc2:(lets z)[i]? = some (.str ⟨#[c]⟩):=by unfold lets; rw [List.getElem?_map,Array.getElem?_toList,hc]; rfl
  refine ⟨TK.fresh hT,hr.tup hT,.tup [d,.str ⟨#[c]⟩],?_,.tup upd_same (.cons (rd.mono (TK.fresh hT)) (.cons (.str _) .nil))⟩
  unfold zipD
  rw [List.getElem?_zipWith,hd,hc2]
 ·rw [hl]
  refine ⟨vs,SqL.of ga,?_⟩
  rw [← ra.length]
  grind
end
section
variable {X:Cx} {tg:Expr}
end
section
variable {X:Cx}
theorem i3_zip_lt {a b:Expr} {ta tb:TE3} {p pos pt:Pos} {elts:List Expr} {kt:Nat} (hm:X.mg "zip" = none) (ha:PE3 X a ta) (hb:PE3 X b tb) (hg:Gl X "zip":=by rfl) (hs:starEach [a,b] X.env = [(false,eval a X.env),(false,eval b X.env)]:=by rfl)
  (hs1:starEach [a,b] X.env = (false,eval a X.env)::starEach [b] X.env:=by rfl) (hs2:starEach [b] X.env = (false,eval b X.env)::starEach [] X.env:=by rfl) (hs3:starEach [b] X.env = [(false,eval b X.env)]:=by rfl):PI3 X (.Tuple elts kt pt) (.Call (.Name "zip" p) [a,b] [] pos) (izt ta tb) :=
 pi_imp (pj_zip_lt hg hm (a3_cons ha (a3_cons hb a3_nil hs2) hs1) hs hs3) fun _ _ _ ⟨σ3,H3,R3,sr,hr,t,k⟩ => by
  refine ⟨σ3,H3,fun ds H1 => (match ds with | [x,y] => ztk x y H1 R3 | _ => False),sr,hr,t,fun ds vs H3a Ha tka hra rs qa => ?_⟩
  cases rs with
  | nil => exact qa.elim
  | cons r1 r2 =>
   cases r2 with
   | nil => exact qa.elim
   | cons r2 r3 =>
    cases r3 with
    | cons _ _ => exact qa.elim
    | nil =>
     cases r1 with
     | ref x =>
      cases r2 with
      | str z =>
       (delta ztk at qa; dsimp only at qa)
       split at qa
       ·rename_i ds hx
        (refine Classical.byContradiction fun k_ => ?_; obtain ⟨vs,ga,ra⟩:=hra x _ hx; refine k_ ?_; clear k_)
        exact ⟨x,z,rfl,qa.1,⟨vs,SqL.of ga⟩,k _ _ _ _ _ tka hra itOk_zip_lt qa.2⟩
       ·exact qa.elim
      | _ => exact qa.elim
     | _ => exact qa.elim
end
section
variable {X:Cx}
end
end L3
namespace L3
open PySem PySem.Spec PyProof.Rows L2
section
variable {X:Cx}
end
end L3
namespace L3
open PySem PySem.Spec PyProof.Rows L2
def putF3 (f:Str) (y:D):List (Str×D)→List (Str×D)
 | [] => [(f,y)]
 | (g,x)::r => if g = f then (g,y)::r else (g,x)::putF3 f y r
def r3fld (cs:List Str) (f:Str) (x:D) (H:Hp3) (Q:VK3):Prop:=match x with
 | .ref a => (match H a with
  | some (.ins c fs) => c∈cs∧(match fs.lookup f with
   | some d => Q d H
   | none => False)
  | _ => False)
 | _ => False
def fd3 (cs:List Str) (f:Str) (ta:TE3):TE3:=fun σ H Q => ta σ H fun x H1 => r3fld cs f x H1 Q
def r3sf (cs:List Str) (f:Str) (y x:D) (H:Hp3) (R:Hp3→Prop):Prop:=match x with
 | .ref a => (match H a with
  | some (.ins c fs) => (c∈cs∧fs.length < 1000)∧R (upd3 H a (.ins c (putF3 f y fs)))
  | _ => False)
 | _ => False
def sf3 (cs:List Str) (f:Str) (ta tv:TE3):TS3:=fun D σ H => tv σ H fun y H1 => ta σ H1 fun x H2 => r3sf cs f y x H2 (D.nx σ)
def r3meth (ms:List (Str×Sp3)) (m:Str) (x:D) (H:Hp3) (R:Sp3→Prop):Prop:=match x with
 | .ref a => (match H a with
  | some (.ins c fs) => fs.lookup m = none∧(match ms.lookup c with
   | some sp => R sp
   | none => False)
  | _ => False)
 | _ => False
def me3 (ms:List (Str×Sp3)) (m:Str) (ta:TE3) (t:TA3):TE3:=fun σ H Q => ta σ H fun x H1 => r3meth ms m x H1 fun sp => t σ H1 fun ds H2 => sp (x::ds) H2 Q
def mk3 (c:Str) (sp:Sp3) (t:TA3):TE3:=fun σ H Q => t σ H fun ds H1 => ∀ x,H1 x = none→sp (.ref x::ds) (upd3 H1 x (.ins c [])) fun v H2 => v = .non∧Q (.ref x) H2
section
variable {H:Hp3} {Q:VK3} {σ:St3} {a:Addr} {c f m:Str} {cs:List Str} {fs:List (Str×D)} {d y:D} {ta tv:TE3} {t:TA3} {sp:Sp3} {ms:List (Str×Sp3)}
theorem g_fd (h:ta σ H fun x H1 => r3fld cs f x H1 Q):fd3 cs f ta σ H Q:=h
theorem g_fld (h:H a = some (.ins c fs)) (hc:c∈cs) (hl:fs.lookup f = some d) (q:Q d H):r3fld cs f (.ref a) H Q:=by
 (delta r3fld; simp only [h,hl]); exact ⟨hc,q⟩
theorem g_sfa {E:Ends3} (h:tv σ H fun y H1 => ta σ H1 fun x H2 => r3sf cs f y x H2 (E.nx σ)):sf3 cs f ta tv E σ H:=h
theorem g_sf {R:Hp3→Prop} (h:H a = some (.ins c fs)) (hc:c∈cs) (hl:fs.length < 1000) (q:R (upd3 H a (.ins c (putF3 f y fs)))):r3sf cs f y (.ref a) H R:=by
 (delta r3sf; simp only [h]); exact ⟨⟨hc,hl⟩,q⟩
theorem g_me (h:ta σ H fun x H1 => r3meth ms m x H1 fun sp => t σ H1 fun ds H2 => sp (x::ds) H2 Q):me3 ms m ta t σ H Q:=h
theorem g_meth {R:Sp3→Prop} (h:H a = some (.ins c fs)) (hl:fs.lookup m = none) (hs:ms.lookup c = some sp) (q:R sp):r3meth ms m (.ref a) H R:=by
 (delta r3meth; simp only [h,hs]); exact ⟨hl,q⟩
theorem g_mk (h:t σ H fun ds H1 => ∀ x,H1 x = none→sp (.ref x::ds) (upd3 H1 x (.ins c [])) fun v H2 => v = .non∧Q (.ref x) H2):mk3 c sp t σ H Q:=h
end
def enk (x:D) (H:Hp3) (R:List D→(Hp3→Prop)→Hp3→Prop):Prop:=match x with
 | .ref a => (match H a with
  | some (.lst ds) => R (zipD (rng 0 ds.length) ds) (fun H' => H' a = some (.lst ds)) H
  | _ => False)
 | _ => False
def ien (te:TE3):TI3:=fun σ H R => te σ H fun x H1 => enk x H1 R
theorem g_ien {te:TE3} {σ:St3} {H:Hp3} {R:List D→(Hp3→Prop)→Hp3→Prop} (h:te σ H fun x H1 => enk x H1 R):ien te σ H R:=h
theorem g_enk {H:Hp3} {a:Addr} {ds:List D} {R:List D→(Hp3→Prop)→Hp3→Prop} (h:H a = some (.lst ds)) (q:R (zipD (rng 0 ds.length) ds) (fun H' => H' a = some (.lst ds)) H):enk (.ref a) H R:=by
 (delta enk; simp only [h]); exact q
theorem en_len (ds:List D):(zipD (rng 0 ds.length) ds).length = ds.length:=by unfold zipD; rw [List.length_zipWith,rng_len,Nat.min_self]
def r3int:List D→Hp3→VK3→Prop:=fun ds H Q => match ds with
 | [.bl b] => Q (.int (if b then 1 else 0)) H
 | [.int i] => Q (.int i) H
 | _ => False
theorem g_intB {b:Bool} {H:Hp3} {Q:VK3} (q:Q (.int (if b then 1 else 0)) H):r3int [.bl b] H Q:=q
abbrev EK3:=Str→Hp3→Prop
abbrev SpE:=List D→Hp3→VK3→EK3→Prop
def cbE (sp:SpE) (t:TA3):EK3→TE3:=fun E σ H Q => t σ H fun ds H1 => sp ds H1 Q E
def rz3 (E:EK3) (c:Str) (te:TE3):TS3:=fun _ σ H => te σ H fun _ H1 => ∃ H2,Sub3 H2 H1∧E c H2
def tr3 (t:EK3→TE3) (cs:List Str) (th:TS3):TS3:=fun D σ H => t (fun c H1 => c∈cs∧th D σ H1) σ H fun _ H1 => D.nx σ H1
section
variable {H:Hp3} {Q:VK3} {σ:St3} {t:TA3} {sp:SpE} {E:EK3} {c:Str} {te:TE3}
theorem g_cbE (h:t σ H fun ds H1 => sp ds H1 Q E):cbE sp t E σ H Q:=h
theorem g_rz {D:Ends3} (h:te σ H fun _ H1 => ∃ H2,Sub3 H2 H1∧E c H2):rz3 E c te D σ H:=h
theorem g_try {D:Ends3} {t:EK3→TE3} {cs:List Str} {th:TS3} (h:t (fun c H1 => c∈cs∧th D σ H1) σ H fun _ H1 => D.nx σ H1):tr3 t cs th D σ H:=h
end
def isxk (tbl:List (Str×Bool)) (x:D) (H:Hp3) (Q:VK3):Prop:=match x with
 | .ref a => (match H a with
  | some (.exc c) => (match tbl.lookup c with
   | some b => Q (.bl b) H
   | none => False)
  | _ => False)
 | _ => False
def isx3 (tbl:List (Str×Bool)) (ta:TE3):TE3:=fun σ H Q => ta σ H fun x H1 => isxk tbl x H1 Q
def sxE (t:EK3→TE3):EK3→TS3:=fun E D σ H => t E σ H fun _ H1 => D.nx σ H1
def sxS (i:Nat) (t:EK3→TE3):EK3→TS3:=fun E D σ H => t E σ H fun v H1 => D.nx (σ.set i (some v)) H1
def gone (i:Nat) (D:Ends3):Ends3:={ nx:=fun σ' H' => D.nx (σ'.set i none) H',rt:=D.rt,bk:=fun σ' H' => D.bk (σ'.set i none) H',ct:=fun σ' H' => D.ct (σ'.set i none) H' }
def trA3 (t:EK3→TS3) (cs:List Str) (i:Nat) (th:TS3):TS3:=fun D σ H => t (fun c H1 => c∈cs∧∀ a,H1 a = none→th (gone i D) (σ.set i (some (.ref a))) (upd3 H1 a (.exc c))) D σ H
section
variable {H:Hp3} {Q:VK3} {σ:St3} {a:Addr} {c:Str} {b:Bool} {tbl:List (Str×Bool)} {ta:TE3}
theorem g_isx3 (h:ta σ H fun x H1 => isxk tbl x H1 Q):isx3 tbl ta σ H Q:=h
theorem g_isxk (h:H a = some (.exc c)) (hl:tbl.lookup c = some b) (q:Q (.bl b) H):isxk tbl (.ref a) H Q:=by
 (delta isxk; simp only [h,hl]); exact q
theorem g_trA {D:Ends3} {t:EK3→TS3} {cs:List Str} {i:Nat} {th:TS3} (h:t (fun c H1 => c∈cs∧∀ a,H1 a = none→th (gone i D) (σ.set i (some (.ref a))) (upd3 H1 a (.exc c))) D σ H):trA3 t cs i th D σ H:=h
theorem g_gone {D:Ends3} {i:Nat} (h:D.nx (σ.set i none) H):(gone i D).nx σ H:=h
theorem g_goneR {E:Ends3} {i:Nat} {d:D} (h:E.rt d H):(gone i E).rt d H:=h
theorem g_sxE {D:Ends3} {E:EK3} {t:EK3→TE3} (h:t E σ H fun _ H1 => D.nx σ H1):sxE t E D σ H:=h
theorem g_sxS {D:Ends3} {E:EK3} {i:Nat} {t:EK3→TE3} (h:t E σ H fun v H1 => D.nx (σ.set i (some v)) H1):sxS i t E D σ H:=h
end
end L3
namespace L3
open PySem PySem.Spec PyProof.Rows L2
section
variable {K:PySem.W.Frag} {H:Hp}
end
structure MthOk (P:Program) (w:World) (K:PySem.W.Frag) (mg:Str→Option Value) (base:Heap) (k:Nat) (c m:Str) (ps:List Str) (sp:Sp3):Prop where
 ex:∃ C f fd,PySem.W.nsIn K mainGlobals c = some (some (.ref C))∧Cls K C∧Meth K C m f∧FnOk P w K mg base CX0 k f fd ps (liftF K sp)∧Binds K fd ps []
structure MkOk (P:Program) (w:World) (K:PySem.W.Frag) (mg:Str→Option Value) (base:Heap) (k:Nat) (c:Str) (ps:List Str) (sp:Sp3):Prop where
 ex:∃ C f fd,PySem.W.nsIn K mainGlobals c = some (some (.ref C))∧mg c = some (.ref C)∧Mk K C f∧FnOk P w K mg base CX0 k f fd ps (liftF K sp)∧Binds K fd ps []
section
variable {X:Cx} {e o value:Expr} {es:List Expr} {ta tv:TE3} {t:TA3} {cs:List Str} {f m c:Str} {k:Nat} {pos pos' p apos:Pos} {ps:List Str} {sp:Sp3}
end
end L3
namespace L3
open PySem PySem.Spec PyProof.Rows L2
def XAt (h:Heap) (a:Addr) (C:Value) (T:Addr):Prop :=
 ∃ oe vs oT ts a0,h.get? a = some oe∧(oe.cls = C∧vs[0]? = some a0)∧oe.data = .fields vs∧vs[1]? = some (.ref T)∧T≠a∧h.get? T = some oT∧oT.data = .fields ts∧ts[3]? = some .none
def CXE (P:Program) (w:World):CXT:=fun outer H s E e s' => ∃ a T C H',e = .ref a∧s'.os = s.os∧AllBare s'.gens∧Un (frs outer) [] H H' s.heap s'.heap∧HOk P w H' s'.heap ∧
 s.heap.get? a = none∧s.heap.get? T = none∧H' a = none∧H' T = none∧XAt s'.heap a (.ref C) T∧E (.ref C) none H'
section
variable {M:Model} {A:Around} {E:Value→Shared→Prop} {s:Shared} {env:Env} {outer:List Env} {L a T t:Addr} {C:Value} {base:Heap} {Q:Unit→Shared→Prop}
end
section
variable {P:Program} {w:World} {K:PySem.W.Frag} {mg:Str→Option Value} {base:Heap} {N:List Str} {qual:Str} {scope:Scope} {f:Addr} {cd:Value} {A:Around} {outer:List Env} {s0:Shared} {H0:Hp} {E:XK}
end
end L3
namespace L3
open PySem PySem.Spec PyProof.Rows L2
section
variable {M:Model} {A:Around} {E:Value→Shared→Prop} {s:Shared} {env:Env} {outer:List Env} {L a T t:Addr} {C:Value} {base:Heap} {Q:Unit→Shared→Prop}
end
def KX (K:PySem.W.Frag) (H:Hp) (E3:EK3) (E:XK):Prop:=∀ c C H3' H',TK H H'→HR K H3' H'→PySem.W.nsIn K mainGlobals c = some (some (.ref C))→E3 c H3'→E (.ref C) none H'
def liftFE (K:PySem.W.Frag) (sp:SpE):Sp:=fun vs H Q E => ∃ ds H3 Q3 E3,HR K H3 H∧RepL K H ds vs∧sp ds H3 Q3 E3∧KE K H Q3 Q∧KX K H E3 E
structure FnE (P:Program) (w:World) (K:PySem.W.Frag) (mg:Str→Option Value) (base:Heap) (k:Nat) (x:Str) (ps:List Str) (sp:SpE):Prop where
 ex:∃ f fd,FnOk P w K mg base (CXE P w) k f fd ps (liftFE K sp)∧mg x = some (.ref f)∧PySem.W.keepIn K (.ref f) = true∧Binds K fd ps []
section
variable {X:Cx} {k:Nat} {x c:Str} {f:Addr} {fd:FuncData} {ps:List Str} {sp:SpE} {p pos:Pos} {e:Expr} {es:List Expr} {t:TA3}
end
section
variable {X:Cx} {c:Str} {e:Expr} {te:TE3} {np cpos pos:Pos} {E:XK} {E3:EK3}
end
end L3
namespace L3
open PySem PySem.Spec PyProof.Rows L2
section
variable {X:Cx} {st:Stmt} {sts:List Stmt} {e:Expr} {t:TS3} {te:TE3} {tt:TT3}
end
end L3
namespace L3
open PySem PySem.Spec PyProof.Rows L2
section
variable {X:Cx} {A':Around} {pins:List (Addr×Obj)} {σ:St} {H:Hp} {s:Shared}
end
end L3
namespace L3
open PySem PySem.Spec PyProof.Rows L2
section
variable {X:Cx} {tg:Expr}
theorem boot_enum:bootBuiltins "enumerate" = some (.type "enumerate"):=by rfl
end
end L3
namespace L3
open PySem PySem.Spec PyProof.Rows L2 PySem.Calls Builtin Builtin.ObjectAttr Builtin.Getset_descriptor
structure XCls (K:PySem.W.Frag) (C:Addr):Prop where
 ga:PySem.W.findIn K (.ref C) "__getattribute__" = some (some (.builtin "BaseException.__getattribute__"))
 gh:PySem.W.findIn K (.ref C) "__getattr__" = some none
 cl:PySem.W.findIn K (.ref C) "__class__" = some (some (.builtin "object.__class__"))
 gs:PySem.W.specialIn K (.builtin "object.__class__") "__get__" = some (some (.builtin "getset_descriptor.__get__"))
 tk:PySem.W.takesIn K (.builtin "object.__class__") = some true
 mo:PySem.W.mroIn K C (.type "object") = some true
 mb:PySem.W.mroIn K C (.type "BaseException") = some true
section
variable {prog:Program} {w:World} {A:Around} {E:Value→Shared→Prop} {s:Shared} {K:PySem.W.Frag} {a C:Addr}
end
end L3
namespace L3
open PySem PySem.Spec PyProof.Rows L2
section
variable {X:Cx} {e:Expr} {ta:TE3} {cx:Str} {tbl:List (Str×Bool)} {p np pos:Pos}
end
section
variable {X:Cx} {pins:List (Addr×Obj)} {σ:St} {H:Hp} {s:Shared}
end
section
variable {X:Cx} {e:Expr} {t:EK3→TE3} {pos:Pos}
end
end L3
namespace L3
open PySem PySem.Spec PyProof.Rows L2
def dgk (x y:D) (H:Hp3) (Q:VK3):Prop:=match x,y with
 | .ref a,.tup ds => (match keysOf ds,H a with
  | some k,some (.dic kvs) => (match dlook kvs k with
   | some d => Q d H
   | none => False)
  | _,_ => False)
 | _,_ => False
def dg3 (ta tb:TE3):TE3:=fun σ H Q => ta σ H fun x H1 => tb σ H1 fun y H2 => dgk x y H2 Q
def r3lenD:List D→Hp3→VK3→Prop:=fun ds H Q => match ds with
 | [.ref a] => (match H a with
  | some (.dic kvs) => Q (.int kvs.length) H
  | _ => False)
 | _ => False
def tabV (kvs:List (Pt×D)):Tab:=kvs.map fun kv => (kP kv.1,kv.2)
def lookV (kvs:List (Pt×D)) (c:Pt):Option D:=(kvs.find? fun kv => decide (kv.1 = c)).map (·.2)
def putV (kvs:List (Pt×D)) (c:Pt) (d:D):List (Pt×D):=if (kvs.any fun kv => decide (kv.1 = c)) = true then kvs.map (fun kv => if kv.1 = c then (kv.1,d) else kv) else kvs++[(c,d)]
theorem dlook_V (c:Pt):∀ kvs:List (Pt×D),dlook (tabV kvs) (kP c) = lookV kvs c
 | [] => rfl
 | p::kvs => by
  unfold tabV dlook lookV
  rw [List.map_cons]
  by_cases e:p.1 = c
  ·rw [List.find?_cons_of_pos (by simp [e]),List.find?_cons_of_pos (by simp [e])]; rfl
  ·have e':¬ kP p.1 = kP c:=fun z => e (kP_inj z)
   rw [List.find?_cons_of_neg (by simpa using e'),List.find?_cons_of_neg (by simpa using e)]
   exact dlook_V c kvs
theorem dput_V (c:Pt) (d:D) (kvs:List (Pt×D)):dput (tabV kvs) (kP c) d = tabV (putV kvs c d):=by
 have ha:((tabV kvs).any fun kv => decide (kv.1 = kP c)) = kvs.any fun kv => decide (kv.1 = c):=by
  unfold tabV
  rw [List.any_map]
  congr 1
  funext kv
  by_cases e:kv.1 = c
  ·simp [e]
  ·have e':¬ kP kv.1 = kP c:=fun z => e (kP_inj z)
   simp [e,e']
 unfold dput putV
 rw [ha]
 split
 ·unfold tabV
  rw [List.map_map,List.map_map]
  refine List.map_congr_left fun kv _ => ?_
  show (if kP kv.1 = kP c then (kP kv.1,d) else (kP kv.1,kv.2)) = _
  by_cases e:kv.1 = c
  ·simp [e]
  ·have e':¬ kP kv.1 = kP c:=fun z => e (kP_inj z)
   simp [e,e']
 ·unfold tabV
  rw [List.map_append]; rfl
theorem tabV_len (kvs:List (Pt×D)):(tabV kvs).length = kvs.length:=by unfold tabV; rw [List.length_map]
theorem putV_keys (c:Pt) (d:D) (kvs:List (Pt×D)):(putV kvs c d).map (·.1) = if c∈kvs.map (·.1) then kvs.map (·.1) else kvs.map (·.1)++[c]:=by
 have ha:(kvs.any fun kv => decide (kv.1 = c)) = decide (c∈kvs.map (·.1)):=by
  rw [Bool.eq_iff_iff,List.any_eq_true,decide_eq_true_eq,List.mem_map]
  constructor
  ·rintro ⟨x,hx,e⟩; exact ⟨x,hx,by simpa using e⟩
  ·rintro ⟨x,hx,e⟩; exact ⟨x,hx,by simpa using e⟩
 unfold putV
 rw [ha]
 by_cases h:c∈kvs.map (·.1)
 ·rw [if_pos (decide_eq_true h),if_pos h,List.map_map]
  refine List.map_congr_left fun kv _ => ?_
  show (if kv.1 = c then (kv.1,d) else kv).1 = kv.1
  split <;> rfl
 ·rw [if_neg (by simpa using h),if_neg h,List.map_append]; rfl
theorem putV_nodup {c:Pt} {d:D} {kvs:List (Pt×D)} (h:(kvs.map (·.1)).Nodup):((putV kvs c d).map (·.1)).Nodup:=by
 rw [putV_keys]
 split
 ·exact h
 ·rename_i z
  rw [List.nodup_append]
  exact ⟨h,by simp,fun a ha b hb => by rw [List.mem_singleton.mp hb]; exact fun e => z (e▸ha)⟩
theorem putV_mem {c q:Pt} {d:D} {kvs:List (Pt×D)}:q∈(putV kvs c d).map (·.1)↔q∈kvs.map (·.1)∨q = c:=by
 rw [putV_keys]
 split
 ·rename_i z
  constructor
  ·exact .inl
  ·rintro (y | rfl)
   ·exact y
   ·exact z
 ·simp
theorem find_map {c q:Pt} {d:D} (h:¬ c = q):∀ kvs:List (Pt×D),lookV (kvs.map fun kv => if kv.1 = c then (kv.1,d) else kv) q = lookV kvs q
 | [] => rfl
 | p::kvs => by
  have ih:=find_map (d:=d) h kvs
  unfold lookV at ih ⊢
  rw [List.map_cons]
  by_cases e:p.1 = q
  ·have e':¬ p.1 = c:=fun z => h (z▸e)
   rw [if_neg e',List.find?_cons_of_pos (by simp [e]),List.find?_cons_of_pos (by simp [e])]
  ·have e1:¬ (if p.1 = c then (p.1,d) else p).1 = q:=by split <;> exact e
   rw [List.find?_cons_of_neg (by simpa using e1),List.find?_cons_of_neg (by simpa using e)]
   exact ih
theorem find_same {c:Pt} {d:D}:∀ kvs:List (Pt×D),(kvs.any fun kv => decide (kv.1 = c)) = true→lookV (kvs.map fun kv => if kv.1 = c then (kv.1,d) else kv) c = some d
 | [],h => by simp at h
 | p::kvs,h => by
  unfold lookV
  rw [List.map_cons]
  by_cases e:p.1 = c
  ·rw [if_pos e,List.find?_cons_of_pos (by simp [e])]; rfl
  ·rw [List.any_cons,decide_eq_false e,Bool.false_or] at h
   have ih:=find_same (d:=d) kvs h
   unfold lookV at ih
   rw [if_neg e,List.find?_cons_of_neg (by simpa using e)]
   exact ih
theorem lookV_put {c q:Pt} {d:D} {kvs:List (Pt×D)}:lookV (putV kvs c d) q = if q = c then some d else lookV kvs q:=by
 unfold putV
 by_cases h:(kvs.any fun kv => decide (kv.1 = c)) = true
 ·rw [if_pos h]
  by_cases e:q = c
  ·subst e; rw [if_pos rfl]; exact find_same kvs h
  ·rw [if_neg e]; exact find_map (fun z => e z.symm) kvs
 ·rw [if_neg h]
  by_cases e:q = c
  ·subst e
   rw [if_pos rfl]
   unfold lookV
   rw [List.find?_append]
   have:kvs.find? (fun kv => decide (kv.1 = q)) = none:=by
    rw [List.find?_eq_none]
    intro x hx z
    exact h (List.any_eq_true.mpr ⟨x,hx,z⟩)
   rw [this,Option.none_or,List.find?_cons_of_pos (by simp)]; rfl
  ·rw [if_neg e]
   unfold lookV
   rw [List.find?_append,List.find?_cons_of_neg (by simpa using fun z:c = q => e z.symm),List.find?_nil,Option.or_none]
section
variable {H:Hp3} {Q:VK3} {σ:St3} {a:Addr} {p1 p2:Int} {d:D} {kvs:List (Pt×D)} {ta tb:TE3}
theorem g_dg (h:ta σ H fun x H1 => tb σ H1 fun y H2 => dgk x y H2 Q):dg3 ta tb σ H Q:=h
theorem g_dgk (h:H a = some (.dic (tabV kvs))) (hl:lookV kvs (p1,p2) = some d) (q:Q d H):dgk (.ref a) (.tup [.int p1,.int p2]) H Q:=by
 have e:keysOf [D.int p1,.int p2] = some (kP (p1,p2)):=rfl
 (delta dgk; simp only [e,h,dlook_V,hl]); exact q
theorem g_lenD {kvs:Tab} (h:H a = some (.dic kvs)) (q:Q (.int kvs.length) H):r3lenD [.ref a] H Q:=by
 (delta r3lenD; simp only [h]); exact q
theorem g_dpV {R:St3→Hp3→Prop} (ha:H a = some (.dic (tabV kvs))) (hl:kvs.length < 1000) (q:R σ (upd3 H a (.dic (tabV (putV kvs (p1,p2) d))))):dpk d (.ref a) (.tup [.int p1,.int p2]) σ H R:=by
 have e:keysOf [D.int p1,.int p2] = some (kP (p1,p2)):=rfl
 (delta dpk; simp only [e,ha,dput_V])
 exact ⟨by rw [tabV_len]; exact hl,q⟩
end
def lzk (x y:D) (H:Hp3) (Q:VK3):Prop:=match x,y with
 | .tup ds,.ref b => (match H b with
  | some (.lst es) => ds.length≤1000∧∀ p,H p = none→Q (.ref p) (upd3 H p (.lst (zipD ds es)))
  | _ => False)
 | _,_ => False
def lz3 (ta tb:TE3):TE3:=fun σ H Q => ta σ H fun x H1 => tb σ H1 fun y H2 => lzk x y H2 Q
def r3sortI:List D→Hp3→VK3→Prop:=fun ds H Q => match ds with
 | [.ref a] => (match H a with
  | some (.lst xs) => (match intsOf xs with
   | some ns => ns.length < 64∧∀ (ms:List Int) (p:Addr),ms.Perm ns→ms.Pairwise (·≤·)→H p = none→Q (.ref p) (upd3 H p (.lst (ms.map D.int)))
   | none => False)
  | _ => False)
 | _ => False
section
variable {H:Hp3} {Q:VK3} {σ:St3} {a:Addr} {ds es:List D} {ta tb:TE3}
theorem g_lz (h:ta σ H fun x H1 => tb σ H1 fun y H2 => lzk x y H2 Q):lz3 ta tb σ H Q:=h
theorem g_sortI {ns:List Int} (h:H a = some (.lst (ns.map D.int))) (hl:ns.length < 64) (q:∀ (ms:List Int) (p:Addr),ms.Perm ns→ms.Pairwise (·≤·)→H p = none→Q (.ref p) (upd3 H p (.lst (ms.map D.int)))):r3sortI [.ref a] H Q:=by
 (delta r3sortI; simp only [h,intsOf_map]); exact ⟨hl,q⟩
end
end L3
namespace L3
open PySem PySem.Spec PyProof.Rows L2
section
variable {X:Cx} {o i:Expr} {ta tb:TE3} {pos:Pos}
theorem p3_dget (hu:X.A.units + 64 < cLine) (ho:PE3 X o ta) (hi:PE3 X i tb) (hs:NoSl i:=by exact fun _ _ => rfl):PE3 X (.Subscript o i pos) (dg3 ta tb) :=
 pe_imp (pe_dget (Nat.lt_of_le_of_lt (Nat.add_le_add_left (by decide:1≤64) _) hu) ho hi hs) fun _ _ _ zz => ex3 zz fun σ3 H3 Q3 sr hr t k => ⟨σ3,H3,_,sr,hr,t,fun x v H3a Ha tka hra rx qa => ⟨σ3,H3a,_,sr.mono tka,hra,qa,fun y u H3b Hb tkb hrb ry qb => by
  have rx':=rx.mono tkb
  cases rx' with
  | ref a =>
   cases ry with
   | tup hy ry =>
    (delta dgk at qb; dsimp only at qb)
    split at qb
    ·rename_i ks kvs e1 e2
     split at qb
     ·rename_i d e3
      (refine Classical.byContradiction fun k_ => ?_; obtain ⟨vs,gd,rd⟩:=hrb a _ e2; refine k_ ?_; clear k_)
      have ex:=keys_rep ry e1
      subst ex
      (refine Classical.byContradiction fun k_ => ?_; obtain ⟨v,hv,rv⟩:=(TR.look (k:=ks) rd).2 d e3; refine k_ ?_; clear k_)
      exact ⟨a,v,rfl,by rw [← hv]; exact DGet.t gd hy,k _ _ _ _ (tka.trans tkb) hrb rv qb⟩
     ·exact qb.elim
    ·exact qb.elim
   | _ => exact qb.elim
  | _ => exact qb.elim⟩⟩
theorem paired_len {α β:Type} {F:α→β→Prop}:∀ {l:List α} {m:List β},Paired F l m→l.length = m.length
 | _,_,.nil => rfl
 | _,_,.cons _ t => by rw [List.length_cons,List.length_cons,paired_len t]
theorem meets_lenH {prog:Program} {w:World} {K:Type} [DecidableEq K] {knd:HeapKind prog w K} {d:Addr} (hd:(d == sysModules) = false) :
  MeetsIn prog w (Builtin.«dict.__len__» ⟨[.ref d],[]⟩) (fun _ R s => ∃ xs:List (K×Addr×Value),s.heap.DictOfH knd d xs∧R (.ok (.ret (.int xs.length s.toks))) { s with toks:=s.toks + 1 }) :=
 .of_wp fun A R s ⟨xs,hm,h⟩ => by
  (refine Classical.byContradiction fun k_ => ?_; obtain ⟨o,es,ep,ho,hc,hdat,he,hp,hn⟩:=hm; refine k_ ?_; clear k_)
  show wpAny _ _ (dictSize d >>= _) _ _ s
  unfold dictSize
  refine wpAny_bind (wpAny_bind (wpAny_dictEntries ho hdat (wpAny_pure ?_)))
  show wpAny _ _ (Builtin.Dict.pendingCount d >>= _) _ _ s
  refine wpAny_bind (wpAny_pendingCount_other hd ?_)
  refine wpAny_ret_mkInt ?_
  rw [Nat.add_zero,size_of_entries he]; exact h
theorem len_dictH {prog:Program} {w:World} {K:Type} [DecidableEq K] {knd:HeapKind prog w K} {A:Around} {E:Value→Shared→Prop} {s:Shared} {d:Addr} {xs:List (K×Addr×Value)} {Q:Value→Shared→Prop} (hd:(d == sysModules) = false) (hm:s.heap.DictOfH knd d xs) (hfit:(xs.length:Int) < 2 ^ 63)
  (h:Q (.int xs.length (s.toks + 1)) { s with toks:=s.toks + 1 + 1 }):wpAny (model prog w) A (call (.builtin "len") [.ref d]) Q E s:=by
 refine Calls.call_function_entry kind_len plain_len entry_len (args_len1 _) ?_
 unfold Builtin.«len»
 refine wpAny_bind (m:=oneArg "len" _) (wpAny_pure ?_)
 refine wpAny_bind (m:=callSpecial? (.ref d) (Str.ofString "__len__")) (wpAny_callSpecial?_slot (name:=Str.ofString "__len__") hm.typeIs F.slot_dict_len
  (call_meetsIn F.slot_dict_len hm.typeIs F.entry_dict_len (F.args_dict_len_1 _) (meets_lenH (knd:=knd) hd) ⟨xs,hm,?_⟩))
 show wpAny _ _ _ _ _ { s with toks:=s.toks + 1 }
 refine wpAny_bind (wpAny_holding (wpAny_pure ?_))
 refine wpAny_bind (wpAny_letGo ?_)
 show wpAny _ _ (if ((xs.length:Nat):Int) < 0 then _ else _) _ _ _
 rw [if_neg (by grind)]
 show wpAny _ _ (if ((xs.length:Nat):Int) ≥ 2 ^ 63 then _ else _) _ _ _
 rw [if_neg (by grind)]
 exact wpAny_bind (wpAny_mkInt (wpAny_pure ⟨_,rfl,h⟩))
theorem cb3_lenD:CallR X (.builtin "len") (liftC X.K r3lenD):=by
 intro pins s σ H xs us Q I rs h
 (refine Classical.byContradiction fun k_ => ?_; obtain ⟨ds,H3,Q3,hr,rd,t,k⟩:=h; refine k_ ?_; clear k_)
 cases rd with
 | nil => exact t.elim
 | cons r1 r2 =>
  cases r2 with
  | cons _ _ => cases r1 <;> exact t.elim
  | nil =>
   cases r1 with
   | ref a =>
    (delta r3lenD at t; dsimp only at t)
    split at t
    ·rename_i kvs ha
     (refine Classical.byContradiction fun k_ => ?_; obtain ⟨ks,ga,ra⟩:=hr a _ ha; refine k_ ?_; clear k_)
     (refine Classical.byContradiction fun k_ => ?_; obtain ⟨z,hd,ys,rel,dd⟩:=dt_of I.hok ga; refine k_ ?_; clear k_)
     (refine Classical.byContradiction fun k_ => ?_; obtain ⟨u,rfl,ru⟩:=Vals.one rs; refine k_ ?_; clear k_)
     obtain rfl:u = Value.ref a:=ru
     have l1:ys.length = ks.length:=(paired_len rel).symm
     have l2:kvs.length = ks.length:=paired_len ra
     refine len_dictH hd dd (by rw [l1]; rw [sizeLine_eq] at z; grind) ?_
     refine ⟨.int kvs.length,H,I.tok _,⟨_,by rw [l1,← l2]⟩,k _ _ _ _ TK.refl hr (.int _) t⟩
    ·exact t.elim
   | _ => exact t.elim
end
end L3
namespace L3
open PySem PySem.Spec PyProof.Rows L2
section
variable {prog:Program} {w:World} {A:Around} {E:Value→Shared→Prop} {s:Shared}
theorem nextOf_tup {jt tt:Addr} {i:Nat} {its:Array Value} {x:Value} {Q:Value→Shared→Prop} (hj:s.heap.IsTupleIter jt tt i) (ht:s.heap.IsTuple tt its) (hx:its[i]? = some x)
  (hQ:∀ h',h'.IsTupleIter jt tt (i + 1)→Heap.SameBut jt s.heap h'→Q x { s with heap:=h' }):wpAny (model prog w) A (Builtin.SmallTypes.nextOf (.ref jt)) Q E s:=by
 (refine Classical.byContradiction fun k_ => ?_; obtain ⟨o,ho,hc,hd⟩:=id hj; refine k_ ?_; clear k_)
 (refine Classical.byContradiction fun k_ => ?_; obtain ⟨ol,hol,_,nl,hdl⟩:=ht; refine k_ ?_; clear k_)
 unfold Builtin.SmallTypes.nextOf
 refine wpAny_bind (wpAny_callSpecial?_slot (name:=Str.ofString "__next__") hj.typeIs F.slot_tuple_iterator_next (wpAny_call_entry F.slot_tuple_iterator_next hj.typeIs F.entry_tuple_iterator_next ?_ (F.args_tuple_iterator_next_1 _)))
 show wpAny _ _ (field (.ref jt) 0 >>= _) _ _ s
 refine wpAny_bind (wpAny_field ho hd (x:=.ref tt) rfl ?_)
 show wpAny _ _ (if (Value.ref tt == Value.none) = true then _ else _) _ _ s
 rw [if_neg (show ¬ ((Value.ref tt == Value.none) = true) from Bool.false_ne_true)]
 show wpAny _ _ (field (.ref jt) 1 >>= _) _ _ s
 refine wpAny_bind (wpAny_field ho hd (x:=.int i 0) rfl ?_)
 show wpAny _ _ (seqItems? (.ref tt) >>= _) _ _ s
 refine wpAny_bind (wpAny_seqItems hol hdl ?_)
 simp only [Int.toNat_natCast,hx]
 refine wpAny_bind (wpAny_setField ho hd (by simp) (wpAny_pure ⟨x,rfl,wpAny_pure (hQ _ ⟨_,Heap.get?_update_self _ ho (Obj.isFreed_of_fields (Obj.data_mapFields hd _)),(Obj.cls_mapFields ..).trans hc,by rw [Obj.data_mapFields hd]; simp [rawInt]⟩ (Heap.SameBut.update ..))⟩))
theorem nextOf_tup_end {jt tt:Addr} {i:Nat} {its:Array Value} {Q:Value→Shared→Prop} (hh:A.handled = none) (hj:s.heap.IsTupleIter jt tt i) (ht:s.heap.IsTuple tt its) (hx:its[i]? = none)
  (hE:∀ h' e,Heap.ExtBut jt s.heap h'→(∃ o,h'.get? e = some o∧o.cls = .type "StopIteration")→E (.ref e) { s with heap:=h' }):wpAny (model prog w) A (Builtin.SmallTypes.nextOf (.ref jt)) Q E s:=by
 (refine Classical.byContradiction fun k_ => ?_; obtain ⟨o,ho,hc,hd⟩:=id hj; refine k_ ?_; clear k_)
 (refine Classical.byContradiction fun k_ => ?_; obtain ⟨ol,hol,_,nl,hdl⟩:=ht; refine k_ ?_; clear k_)
 unfold Builtin.SmallTypes.nextOf
 refine wpAny_bind (wpAny_callSpecial?_slot (name:=Str.ofString "__next__") hj.typeIs F.slot_tuple_iterator_next (wpAny_call_entry F.slot_tuple_iterator_next hj.typeIs F.entry_tuple_iterator_next ?_ (F.args_tuple_iterator_next_1 _)))
 show wpAny _ _ (field (.ref jt) 0 >>= _) _ _ s
 refine wpAny_bind (wpAny_field ho hd (x:=.ref tt) rfl ?_)
 show wpAny _ _ (if (Value.ref tt == Value.none) = true then _ else _) _ _ s
 rw [if_neg (show ¬ ((Value.ref tt == Value.none) = true) from Bool.false_ne_true)]
 show wpAny _ _ (field (.ref jt) 1 >>= _) _ _ s
 refine wpAny_bind (wpAny_field ho hd (x:=.int i 0) rfl ?_)
 show wpAny _ _ (seqItems? (.ref tt) >>= _) _ _ s
 refine wpAny_bind (wpAny_seqItems hol hdl ?_)
 simp only [Int.toNat_natCast,hx]
 refine wpAny_bind (wpAny_rule (wpAny_bind (wpAny_setField ho hd (by simp) ?_)))
 show wpAny _ _ (newExc (.type "StopIteration") [] >>= fun _ => _) _ _ _
 refine wpAny_bind ?_
 simp only [newExc,newTuple]
 refine wpAny_bind (wpAny_newObj_type ?_ (by size_fits))
 refine wpAny_bind (m:=firstArgMember _ _) (wpAny_of_eq (a:=Value.none) (by first | (simp only [firstArgMember]; rfl) | rfl) ?_)
 refine wpAny_newObj_type ?_ (by size_fits)
 simp only [raiseNew]
 refine wpAny_bind (wpAny_handled ?_)
 first | rw [hh] | rw [show A.in1.handled = none from hh]
 refine wpAny_bind (wpAny_pure (wpAny_throw ?_))
 exact hE _ _ (((Heap.SameBut.update ..).extBut.push _).push _) ⟨_,Heap.get?_push_size _ rfl,rfl⟩
theorem drawsT (hh:A.handled = none) (jt tt:Addr) (hne:tt≠jt) (its:Array Value):Draws prog w A jt [jt,tt] its.size (fun i v => its[i]? = some v) (fun i h => h.IsTupleIter jt tt i∧h.IsTuple tt its) where
 live:=fun _ _ st => let ⟨o,ho,_⟩:=st.1; ⟨o,ho⟩
 frame:=fun _ _ _ st hk => ⟨st.1.at fun o e => hk jt (by simp) o e,st.2.at fun o e => hk tt (by simp) o e⟩
 item:=fun i s Q E hi st hQ => nextOf_tup st.1 st.2 (x:=its[i]) (by simp [hi]) fun h' hj' hs' => hQ _ h' s.toks (by simp [hi]) ⟨hj',st.2.extBut hs'.extBut hne⟩ hs'
 done:=fun s Q E st hE => nextOf_tup_end hh st.1 st.2 (by simp) hE
variable {z TI TO i1 i2 T0:Addr} {f1 f2:List Addr} {n1 n2 k:Nat} {P1 P2:Nat→Value→Prop} {S1 S2:Nat→Heap→Prop} {a b:Value}
end
end L3
namespace L3
open PySem PySem.Spec PyProof.Rows L2
section
variable {X:Cx} {pins:List (Addr×Obj)} {σ:St} {A:Around} {z TI TO i1 i2 ta lb S:Addr} {us ws:List Value} {xs ys:List V} {dx dy:List D} {H0:Hp} {H3:Hp3} {R:Result→Shared→Prop}
end
end L3
namespace L3
open PySem PySem.Spec PyProof.Rows L2
def tIt (t:Addr):Obj:={ cls:=.type "tuple_iterator",data:=.fields #[.ref t,.int 0 0] }
section
variable {X:Cx} {pins:List (Addr×Obj)} {σ:St} {A:Around} {z TI TO i1 i2 ta lb S:Addr} {us ws:List Value} {xs ys:List V} {dx dy:List D} {H0:Hp} {H3:Hp3} {R:Result→Shared→Prop} {res:Value}
end
end L3
namespace L3
open PySem PySem.Spec PyProof.Rows L2
section
variable {X:Cx}
end
end L3
namespace L3
open PySem PySem.Spec PyProof.Rows L2
theorem vals_ints {us:List Value} {ns:List Int} (h:IntsAre us ns):Vals (ns.map V.int) us:=by
 induction h with
 | nil => exact .nil
 | cons n t _ ih => exact .cons ⟨t,rfl⟩ ih
section
variable {X:Cx}
theorem cb3_sortI:CallR X (.builtin "sorted") (liftC X.K r3sortI):=by
 intro pins s σ H xs us Q I rs h
 (refine Classical.byContradiction fun k_ => ?_; obtain ⟨ds,H3,Q3,hr,rd,t,k⟩:=h; refine k_ ?_; clear k_)
 cases rd with
 | nil => exact t.elim
 | cons r1 r2 =>
  cases r2 with
  | cons _ _ => cases r1 <;> exact t.elim
  | nil =>
   cases r1 with
   | ref a =>
    (delta r3sortI at t; dsimp only at t)
    split at t
    ·rename_i ds ha
     split at t
     ·rename_i ns en
      obtain ⟨h64,t⟩:=t
      have e':=intsOf_inv en
      subst e'
      (refine Classical.byContradiction fun k_ => ?_; obtain ⟨vs,ga,ra⟩:=hr a _ ha; refine k_ ?_; clear k_)
      have ev:=RepL.ints_inv ra
      subst ev
      (refine Classical.byContradiction fun k_ => ?_; obtain ⟨its,rv,pl,hz⟩:=I.list (SqL.of ga); refine k_ ?_; clear k_)
      (refine Classical.byContradiction fun k_ => ?_; obtain ⟨u,rfl,ru⟩:=Vals.one rs; refine k_ ?_; clear k_)
      obtain rfl:u = Value.ref a:=ru
      have hl:its.length = ns.length:=by rw [← rv.length,List.length_map]
      refine PyProof.Rows.sorted_ints pl.isList (intsAre_of rv) (by grind) fun out ms hI hp hw => ?_
      obtain ⟨e,he⟩:=sortedAll_at s.heap its out
      have hml:ms.length = ns.length:=hp.length_eq
      have fr:H (s.heap.objs.size + 1) = none:=I.hok.fresh (Nat.le_succ _)
      refine ⟨.ref (s.heap.objs.size + 1),_,I.laid (t':=s.toks) (a:=s.heap.objs.size + 1) (o:=.lst (ms.map V.int)) (fun b o q => sortedAll_old q) (Nat.le_succ _) ⟨by rw [List.length_map,hml]; exact le_line (by grind),out.toList,e,vals_ints hI,?_⟩,rfl,?_⟩
      ·rw [Array.toArray_toList]; exact he
      ·exact k _ _ _ _ (TK.fresh fr) (hr.setL (TK.fresh fr) (RepL.ints ms)) (.ref _) (t ms _ hp hw (hr.fresh fr))
     ·exact t.elim
    ·exact t.elim
   | _ => exact t.elim
end
end L3
namespace L3
section
open PySem PyProof.Rows PySem.Spec
open PySem.SeqAt
open PySem.AutoSeq1 (wpAny_loadPart')
open PySem.MeetsSeq3 PySem.MeetsSeq2 PySem.MeetsSeq
end
end L3
namespace L3
open PySem PySem.Spec PySem.W PyProof.Rows
section
variable {prog:Program} {w:World} {A:Around} {E:Value→Shared→Prop} {s:Shared}
end
end L3
namespace L3
open PySem PySem.Spec PyProof.Rows L2
end L3
namespace L3
open PySem PySem.Spec PyProof.Rows L2
def rk (f:Nat→List Int) (n i:Nat):Int:=(((List.range n).countP fun k => HT.lexLt (f k) (f i)):Nat)
section
variable {X:Cx}
end
end L3
namespace L3
open PySem PySem.Spec PyProof.Rows L2
def r3isB:R3:=fun x y H Q => match x,y with
 | .bl b,.bl c => Q (.bl (b == c)) H
 | _,_ => False
def r3notB:R3:=fun x y H Q => match x,y with
 | .bl b,.bl c => Q (.bl (!(b == c))) H
 | _,_ => False
theorem g_isB {b c:Bool} {H:Hp3} {Q:VK3} (q:Q (.bl (b == c)) H):r3isB (.bl b) (.bl c) H Q:=q
theorem g_notB {b c:Bool} {H:Hp3} {Q:VK3} (q:Q (.bl (!(b == c))) H):r3notB (.bl b) (.bl c) H Q:=q
def CpJ (g:TG3) (tc:TT3) (te:TE3) (σ0:St3) (ds:List D) (keep:Hp3→Prop) (H1:Hp3) (Q:VK3):Prop:=ds.length≤1000∧∀ p,H1 p = none→∃ J:Nat→List D→Hp3→Prop,
 J 0 [] (upd3 H1 p (.lst []))∧(∀ i out H2,J i out H2→out.length≤i∧keep H2) ∧
 (∀ i d out H2,ds[i]? = some d→J i out H2→g d σ0 H2 fun σ2 H4 => tc σ2 H4 fun b H5 =>
  if b = true then te σ2 H5 fun v H6 => H6 p = some (.lst out)∧J (i + 1) (out++[v]) (upd3 H6 p (.lst (out++[v]))) else J (i + 1) out H5) ∧
 ∀ out H2,J ds.length out H2→Q (.ref p) H2
def cpJ3 (wi:TI3) (g:TG3) (tc:TT3) (te:TE3) (own:List Str) (fv:FV):TE3:=fun σ H Q => wi σ H fun ds keep H1 => CpJ g tc te (blk3 own fv σ) ds keep H1 Q
theorem g_cpJ {wi:TI3} {g:TG3} {tc:TT3} {te:TE3} {own:List Str} {fv:FV} {σ:St3} {H:Hp3} {Q:VK3} (h:wi σ H fun ds keep H1 => CpJ g tc te (blk3 own fv σ) ds keep H1 Q):cpJ3 wi g tc te own fv σ H Q:=h
end L3
namespace L3
open PySem PySem.Spec PyProof.Rows L2
section
variable {X:Cx}
end
section
variable {X:Cx} {elt iter:Expr} {ifs:List Expr} {scope:Scope} {pos px:Pos} {x:Str} {fv:FV} {wi:TI3} {tc:TT3} {te:TE3}
end
end L3
namespace L3
open PySem PySem.Spec PyProof.Rows L2
def gn2_3 (i j l:Nat):TG3:=fun d σ H Q => match d with
 | .tup [x,.tup [y,z]] => Q (((σ.set i (some x)).set j (some y)).set l (some z)) H
 | _ => False
theorem g_gn2 {i j l:Nat} {x y z:D} {σ:St3} {H:Hp3} {R:St3→Hp3→Prop} (h:R (((σ.set i (some x)).set j (some y)).set l (some z)) H):gn2_3 i j l (.tup [x,.tup [y,z]]) σ H R:=h
end L3
namespace L3
open PySem PySem.Spec PyProof.Rows L2
section
variable {X:Cx}
end
end L3
namespace L3
open PySem PySem.Spec PyProof.Rows L2
structure BsOk (P:Program) (w:World) (K:PySem.W.Frag) (mg:Str→Option Value) (base:Heap) (k:Nat) (c m:Str) (ps:List Str) (sp:Sp3):Prop where
 ex:∃ C f fd mc,mg c = some (.ref C)∧PySem.W.specialIn K (.ref C) "__getattribute__" = some (some (.builtin "type.__getattribute__"))∧PySem.W.readsIn K C mc = true∧PySem.W.findCls K (.ref C) mc m = some (.val (.ref f)) ∧
  PySem.W.handedIn (.ref f) = true∧PySem.W.keepIn K (.ref f) = true∧FnOk P w K mg base CX0 k f fd ps (liftF K sp)∧Binds K fd ps []
section
variable {X:Cx} {e:Expr} {es:List Expr} {t:TA3} {m c:Str} {k:Nat} {pos p apos:Pos} {ps:List Str} {sp:Sp3}
end
end L3
namespace L3
open PySem PySem.Spec PyProof.Rows L2
section
variable {X:Cx} {elt iter:Expr} {ifs:List Expr} {scope:Scope} {pos px py pz pt pu:Pos} {x y z:Str} {fv:FV} {wi:TI3} {tc:TT3} {te:TE3} {kk kl:Nat}
end
end L3
namespace L3
open PySem PySem.Spec PyProof.Rows L2
abbrev Gc:=(Int×Int×Int)×Pt
def q5 (q:Gc):List Int:=[q.1.1,q.1.2.1,q.1.2.2,q.2.1,q.2.2]
end L3
namespace L3
open PySem PySem.Spec PyProof.Rows L2
section
variable {X:Cx}
def TI (K:PySem.W.Frag) (H:Hp) (ns:List Int) (b:Addr):Prop:=∃ v,Rep K H (.tup (ns.map D.int)) v∧RelV v (.ref b)
end
end L3
namespace L3
theorem len0 {α:Type} {us:List α} (h:us.length = 0):us = []:=List.length_eq_zero_iff.mp h
theorem lenS {α:Type} {us:List α} {n:Nat} (h:us.length = n + 1):∃ a vs,us = a::vs∧vs.length = n:=by
 cases us with
 | nil => cases h
 | cons a vs => exact ⟨a,vs,rfl,Nat.succ.inj h⟩
theorem len1 {α:Type} {us:List α} (h:us.length = 1):∃ a,us = [a]:=by
 (refine Classical.byContradiction fun k_ => ?_; obtain ⟨a,vs,rfl,h2⟩:=lenS h; refine k_ ?_; clear k_)
 rw [len0 h2]; exact ⟨a,rfl⟩
theorem len2 {α:Type} {us:List α} (h:us.length = 2):∃ a b,us = [a,b]:=by
 (refine Classical.byContradiction fun k_ => ?_; obtain ⟨a,vs,rfl,h2⟩:=lenS h; refine k_ ?_; clear k_)
 obtain ⟨b,rfl⟩:=len1 h2
 exact ⟨a,b,rfl⟩
theorem len3 {α:Type} {us:List α} (h:us.length = 3):∃ a b c,us = [a,b,c]:=by
 (refine Classical.byContradiction fun k_ => ?_; obtain ⟨a,vs,rfl,h2⟩:=lenS h; refine k_ ?_; clear k_)
 (refine Classical.byContradiction fun k_ => ?_; obtain ⟨b,c,rfl⟩:=len2 h2; refine k_ ?_; clear k_)
 exact ⟨a,b,c,rfl⟩
end L3
namespace L3.ST
open PySem PySem.SetTable
def adv (M:Nat) (p:Probe):Probe:=if p.more > 0 then { p with j:=p.j + 1,more:=p.more - 1 } else { p with j:=(leap M p.i p.perturb).1,more:=runEnd M (leap M p.i p.perturb).1 - (leap M p.i p.perturb).1,i:=(leap M p.i p.perturb).1,perturb:=(leap M p.i p.perturb).2 }
def itr (M:Nat) (p:Probe):Nat→Probe
 | 0 => p
 | n + 1 => itr M (adv M p) n
theorem itr_add (M:Nat):∀ (m n:Nat) (p:Probe),itr M p (m + n) = itr M (itr M p m) n
 | 0,n,p => by rw [Nat.zero_add]; rfl
 | m + 1,n,p => by rw [show m + 1 + n = (m + n) + 1 from by grind]; exact itr_add M m n (adv M p)
def blk (M:Nat) (x:Nat×Nat) (d:Option Nat):Probe:={ j:=x.1,more:=runEnd M x.1 - x.1,i:=x.1,perturb:=x.2,dummy:=d }
def l0 (M i:Nat):Nat:=(i * 5 + 1) % (M + 1)
def Msk (M:Nat):Prop:=M = 7∨M = 31∨M = 127
def Rise (xs:Array Nat):Prop:=∀ a b,a < b→b < xs.size→xs.getD a 0 < xs.getD b 0
def Has (xs:Array Nat) (j:Nat):Prop:=∃ i,i < xs.size∧xs.getD i 0 = j
end L3.ST
namespace L3.ST
open PySem PySem.SetTable
def st0 (M:Nat) (h:Int):Probe:=blk M (bits h % (M + 1),bits h) none
def Rch (M:Nat) (occ:Nat→Prop) (h:Int) (j:Nat):Prop:=∃ n,(itr M (st0 M h) n).j = j∧∀ m,m < n→occ (itr M (st0 M h) m).j
theorem Rch.mono {M:Nat} {occ occ':Nat→Prop} {h:Int} {j:Nat} (r:Rch M occ h j) (k:∀ j,occ j→occ' j):Rch M occ' h j:=by
 (refine Classical.byContradiction fun k_ => ?_; obtain ⟨n,h1,h2⟩:=r; refine k_ ?_; clear k_)
 exact ⟨n,h1,fun m hm => k _ (h2 m hm)⟩
structure Tb (t:SetTable) (hs:Nat→Int) (n:Nat):Prop where
 size:t.place.size = n
 rise:Rise t.place
 le:∀ i,i < n→t.place.getD i 0≤t.mask
 nod:t.dummies = #[]
 msk:Msk t.mask
 rch:∀ i,i < n→Rch t.mask (Has t.place) (hs i) (t.place.getD i 0)
end L3.ST
namespace L3.ST
open PySem PySem.SetTable
def Tkn (ow:Array (Option Nat)) (j:Nat):Prop:=(ow.getD j (some 0)).isNone = false
structure Own (M:Nat) (hs:Nat→Int) (ow:Array (Option Nat)) (k:Nat):Prop where
 size:ow.size = M + 1
 lt:∀ j k',ow.getD j none = some k'→k' < k
 has:∀ k',k' < k→∃ j,j≤M∧ow.getD j none = some k'∧Rch M (Tkn ow) (hs k') j
 one:∀ j j' k',ow.getD j none = some k'→ow.getD j' none = some k'→j = j'
end L3.ST
namespace L3.ST
open PySem PySem.SetTable
end L3.ST
namespace L3.ST
open PySem PySem.SetTable PySem.Spec PyProof.Rows
section
variable {prog:Program} {w:World} {A:Around} {E:Value→Shared→Prop} {s:Shared}
def hsh (prog:Program) (w:World) (ks:List (List Int)) (i:Nat):Int:=tupleKeyHash (intKind prog w) (ks.getD i [])
end
end L3.ST
namespace L3.ST
open PySem PySem.SetTable PySem.Spec PyProof.Rows
section
variable {prog:Program} {w:World} {A:Around} {E:Value→Shared→Prop} {s:Shared}
end
end L3.ST
namespace L3.ST
open PySem PySem.SetTable PySem.Spec PyProof.Rows
section
variable {prog:Program} {w:World} {A:Around} {E:Value→Shared→Prop} {s:Shared}
end
end L3.ST
namespace L3.ST
open PySem PySem.SetTable PySem.Spec PyProof.Rows
section
variable {prog:Program} {w:World} {A:Around} {E:Value→Shared→Prop} {s:Shared}
end
end L3.ST
namespace L3.ST
open PySem PySem.SetTable PySem.Spec PyProof.Rows
section
variable {prog:Program} {w:World} {A:Around} {E:Value→Shared→Prop} {s:Shared}
end
end L3.ST
namespace L3
open PySem PySem.Spec PyProof.Rows L2
end L3
namespace L3
open PySem PySem.Spec PyProof.Rows L2
section
variable {X:Cx}
end
end L3
namespace L3
open PySem PySem.Spec PyProof.Rows L2
def r3methE (ms:List (Str×SpE)) (m:Str) (x:D) (H:Hp3) (R:SpE→Prop):Prop:=∃ a c fs sp,x = .ref a∧H a = some (.ins c fs)∧fs.lookup m = none∧ms.lookup c = some sp∧R sp
def meE (ms:List (Str×SpE)) (m:Str) (ta:TE3) (t:TA3):EK3→TE3:=fun E σ H Q => ta σ H fun x H1 => r3methE ms m x H1 fun sp => t σ H1 fun ds H2 => sp (x::ds) H2 Q E
def mkE (c:Str) (sp:SpE) (t:TA3):EK3→TE3:=fun E σ H Q => t σ H fun ds H1 => ∀ x,H1 x = none→sp (.ref x::ds) (upd3 H1 x (.ins c [])) (fun v H2 => v = .non∧Q (.ref x) H2) E
section
variable {H:Hp3} {Q:VK3} {E:EK3} {σ:St3} {a:Addr} {c m:Str} {fs:List (Str×D)} {ta:TE3} {t:TA3} {sp:SpE} {ms:List (Str×SpE)}
theorem g_meE (h:ta σ H fun x H1 => r3methE ms m x H1 fun sp => t σ H1 fun ds H2 => sp (x::ds) H2 Q E):meE ms m ta t E σ H Q:=h
theorem g_methE {R:SpE→Prop} (h:H a = some (.ins c fs)) (hl:fs.lookup m = none) (hs:ms.lookup c = some sp) (q:R sp):r3methE ms m (.ref a) H R:=⟨a,c,fs,sp,rfl,h,hl,hs,q⟩
theorem g_mkE (h:t σ H fun ds H1 => ∀ x,H1 x = none→sp (.ref x::ds) (upd3 H1 x (.ins c [])) (fun v H2 => v = .non∧Q (.ref x) H2) E):mkE c sp t E σ H Q:=h
end
end L3
namespace L3
open PySem PySem.Spec PyProof.Rows L2
structure MthE (P:Program) (w:World) (K:PySem.W.Frag) (mg:Str→Option Value) (base:Heap) (k:Nat) (c m:Str) (ps:List Str) (sp:SpE):Prop where
 ex:∃ C f fd,PySem.W.nsIn K mainGlobals c = some (some (.ref C))∧Cls K C∧Meth K C m f∧FnOk P w K mg base (CXE P w) k f fd ps (liftFE K sp)∧Binds K fd ps []
structure MkE (P:Program) (w:World) (K:PySem.W.Frag) (mg:Str→Option Value) (base:Heap) (k:Nat) (c:Str) (ps:List Str) (sp:SpE):Prop where
 ex:∃ C f fd,PySem.W.nsIn K mainGlobals c = some (some (.ref C))∧mg c = some (.ref C)∧Mk K C f∧FnOk P w K mg base (CXE P w) k f fd ps (liftFE K sp)∧Binds K fd ps []
structure BsE (P:Program) (w:World) (K:PySem.W.Frag) (mg:Str→Option Value) (base:Heap) (k:Nat) (c m:Str) (ps:List Str) (sp:SpE):Prop where
 ex:∃ C f fd mc,mg c = some (.ref C)∧PySem.W.specialIn K (.ref C) "__getattribute__" = some (some (.builtin "type.__getattribute__"))∧PySem.W.readsIn K C mc = true∧PySem.W.findCls K (.ref C) mc m = some (.val (.ref f)) ∧
  PySem.W.handedIn (.ref f) = true∧PySem.W.keepIn K (.ref f) = true∧FnOk P w K mg base (CXE P w) k f fd ps (liftFE K sp)∧Binds K fd ps []
section
variable {X:Cx} {e o:Expr} {es:List Expr} {ta:TE3} {t:TA3} {m c:Str} {k:Nat} {pos p apos:Pos} {ps:List Str} {sp:SpE}
end
end L3
namespace L3
open PySem PySem.Spec PyProof.Rows L2
def isnk (tbl:List (Str×Bool)) (x:D) (H:Hp3) (Q:VK3):Prop:=∃ a c fs b,x = .ref a∧H a = some (.ins c fs)∧tbl.lookup c = some b∧Q (.bl b) H
def isn3 (tbl:List (Str×Bool)) (ta:TE3):TE3:=fun σ H Q => ta σ H fun x H1 => isnk tbl x H1 Q
theorem g_isn3 {tbl:List (Str×Bool)} {ta:TE3} {σ:St3} {H:Hp3} {Q:VK3} (h:ta σ H fun x H1 => isnk tbl x H1 Q):isn3 tbl ta σ H Q:=h
theorem g_isnk {tbl:List (Str×Bool)} {a:Addr} {c:Str} {fs:List (Str×D)} {b:Bool} {H:Hp3} {Q:VK3} (h:H a = some (.ins c fs)) (hl:tbl.lookup c = some b) (q:Q (.bl b) H):isnk tbl (.ref a) H Q:=⟨a,c,fs,b,rfl,h,hl,q⟩
end L3
namespace L3
open PySem PySem.Spec PyProof.Rows L2
section
variable {X:Cx} {e:Expr} {ta:TE3} {cx:Str} {tbl:List (Str×Bool)} {p np pos:Pos}
end
end L3
namespace L3
open PySem PySem.Spec PyProof.Rows L2
def sokL (x:Str) (l k:Nat) (d:D) (H1:Hp3) (Q:VK3):Prop:=match d with
 | .ref a => (match H1 a with
  | some (.lst ds) => (match ptsOf ds with
   | some ps => ps.length < 64∧∃ T,(H1 T = some (.tab x)∨H1 T = some (.tabd x l k))∧∀ p,H1 p = none→Q (.ref p) (upd3 (upd3 H1 T (.tabd x l k)) p (.lst ((isort ps).map prP)))
   | none => False)
  | _ => False)
 | _ => False
def soL (x:Str) (l k:Nat) (te:TE3):TE3:=fun σ H Q => te σ H fun d H1 => sokL x l k d H1 Q
theorem g_soL {x:Str} {l k:Nat} {te:TE3} {σ:St3} {H:Hp3} {Q:VK3} (h:te σ H fun d H1 => sokL x l k d H1 Q):soL x l k te σ H Q:=h
theorem g_sokL {x:Str} {l k:Nat} {a T:Addr} {ps:List Pt} {H:Hp3} {Q:VK3} (ha:H a = some (.lst (ps.map prP))) (hl:ps.length < 64) (hT:H T = some (.tab x)∨H T = some (.tabd x l k))
  (q:∀ p,H p = none→Q (.ref p) (upd3 (upd3 H T (.tabd x l k)) p (.lst ((isort ps).map prP)))):sokL x l k (.ref a) H Q:=by
 unfold sokL
 dsimp only
 rw [ha]
 dsimp only
 rw [ptsOf_map]
 exact ⟨hl,T,hT,q⟩
end L3
namespace L3
open PySem PySem.Spec PyProof.Rows L2
section
variable {X:Cx} {pins:List (Addr×Obj)} {σ:St} {H H':Hp} {s:Shared}
theorem inv_lam {T:Addr} {ps more:Array Value} {h':Heap} {tk:Nat} (I:Inv X pins σ H s) (kT:H T = some (.tbl ps)) (kT':H' T = some (.tbl (ps++more))) (kx:∀ b o,b≠T→s.heap.get? b = some o→h'.get? b = some o)
  (hT:h'.get? T = some (PySem.W.tabObj (ps++more))) (same:∀ b,b≠T→b < s.heap.objs.size→H' b = H b) (new:∀ b u,s.heap.objs.size≤b→H' b = some u→ObjOk X.prog X.w H' h' b u):Inv X pins σ H' { s with heap:=h',toks:=tk }:=by
 have lt:∀ b u,H b = some u→b < s.heap.objs.size:=fun b u e => I.hok.lt e
 have nT:∀ b,H b = none→b≠T:=fun b n z => by rw [z,kT] at n; cases n
 have st:∀ b u,b≠T→H b = some u→H' b = some u:=fun b u n e => (same b n (lt b u e)).trans e
 refine I.step (g':=s.gens) (d':=s.drawn) (ch:=[]) (fun _ z => nomatch z) (fun b o _ _ _ e n => kx b o (nT b n) e) (fun b o _ _ _ e n => ⟨o.slots,kx b o (nT b n) e⟩) (fun b o _ e n => (same b (nT b n) (Heap.lt_size e)).trans n)
  (fun b o _ e => ?_) (fun b xs e => st b _ (fun z => by rw [z,kT] at e; cases e) e) (fun b o u e => st b _ (fun z => by rw [z,kT] at e; cases e) e) (fun b qs e => ?_) (fun m hm => ?_) (fun b u e => ?_) I.bare
 ·by_cases hb:b = T
  ·exact ⟨_,by rw [hb]; exact hT⟩
  ·exact ⟨o,kx b o hb e⟩
 ·by_cases hb:b = T
  ·subst hb
   rw [kT] at e
   cases e
   exact ⟨more,kT'⟩
  ·exact ⟨#[],by rw [st b _ hb e]; simp⟩
 ·(refine Classical.byContradiction fun k_ => ?_; obtain ⟨o,es,ep,ho,r⟩:=hm; refine k_ ?_; clear k_)
  exact ⟨o,es,ep,kx _ o (nT _ I.free) ho,r⟩
 ·by_cases hb:b = T
  ·subst hb
   rw [kT'] at e
   cases e
   exact hT
  ·by_cases hl:b < s.heap.objs.size
   ·rw [same b hb hl] at e
    refine (I.hok b u e).stay (fun c v hc q => kx c v ?_ q) (fun c q => ?_) fun c xs q => ?_
    ·rcases hc with z | z
     ·rw [z]; exact hb
     ·exact fun w => by rw [w,kT] at z; cases z
    ·exact st c _ (fun w => by rw [w,kT] at q; cases q) q
    ·exact st c _ (fun w => by rw [w,kT] at q; cases q) q
   ·exact new b u (Nat.le_of_not_lt hl) e
theorem blt_at (I:Inv X pins σ H s) {x:Str} {c T:Addr} {ps:Array Value} (tk:TabK X.K H x c T) (kT:H T = some (.tbl ps)):s.heap.BuiltinsAt X.mg T∧mainGlobals≠T∧PySem.W.CodeHd s.heap c T∧s.heap.Ns mainGlobals X.mg∧s.heap.get? T = some (PySem.W.tabObj ps):=by
 (refine Classical.byContradiction fun k_ => ?_; obtain ⟨bm,ob,h1,h2,h3,h4,h5,h6⟩:=tk.bm; refine k_ ?_; clear k_)
 have hg:s.heap.Ns mainGlobals X.mg:=I.ok.mod.glob.keeps I.bk
 have e:=PySem.W.mg_of I.ok.mod.kin I.ok.mod.glob h1
 have hb:=(I.hok bm _ h3).1
 have hT:s.heap.get? T = some (PySem.W.tabObj ps):=I.hok T _ kT
 have n1:bm≠mainGlobals:=fun z => by
  (refine Classical.byContradiction fun k_ => ?_; obtain ⟨o,es,ep,e1,d,_⟩:=hg; refine k_ ?_; clear k_)
  rw [z,e1] at hb
  cases hb
  rw [h6] at d
  cases d
 have n2:mainGlobals≠T:=fun z => by
  (refine Classical.byContradiction fun k_ => ?_; obtain ⟨o,es,ep,e1,d,_⟩:=hg; refine k_ ?_; clear k_)
  rw [z,hT] at e1
  cases e1
  cases d
 have n3:bm≠T:=fun z => by rw [z,kT] at h3; cases h3
 exact ⟨⟨bm,ob,e,h2,n1,n3,hb,h4,h5,h6⟩,n2,tk.hd _ I.kIn,hg,hT⟩
abbrev lamO (X:Cx) (params:Arguments) (body:Expr) (scope:Scope) (c':Addr) (ctv:Value):Obj :=
 PySem.W.kla_obj "<lambda>" (X.env.qual ++ "<lambda>") params body scope [] ((X.mg "__name__").getD .none) c' ctv
theorem lam_make {x:Str} {c T:Addr} {params:Arguments} {body:Expr} {scope:Scope} {pos:Pos} {R:Value→Shared→Prop} (I:Inv X pins σ H s) (tk:TabK X.K H x c T) (kT:H T = some (.tbl #[])) (hd:defaultsOf params X.env = ([],[])) (hcl:closureFor scope X.env = pure [])
  (hcode:X.env.code = .ref c)
  (h:∀ f c' oc vs t ctv s' H',H f = none→H c' = none→f≠c'→f≠T→c'≠T→oc.data = .fields vs→vs[1]? = some (.str (X.env.qual ++ "<lambda>") t)→H' = upd (upd (upd H T (.tbl #[rawInt pos.line,rawInt pos.col,.ref c'])) c' (.frz oc (.own c'))) f (.frz (lamO X params body scope c' ctv) (.own f)) →
   Inv X pins σ H' s'→R (.ref f) s'):wpAny (model X.prog X.w) X.A (eval (.Lambda params body scope pos) X.env) R X.xe s:=by
 (refine Classical.byContradiction fun k_ => ?_; obtain ⟨hb,hgT,hC,hg,hT⟩:=blt_at I tk kT; refine k_ ?_; clear k_)
 refine PySem.W.kla_eval hd (PySem.W.kla_makeFunction hcl I.ok.glob hg hcode hC hT trivial rfl hgT hb fun c' ctv h' tk' hx hge hlt hrec htb => ?_)
 (refine Classical.byContradiction fun k_ => ?_; obtain ⟨c₂,oc,vs,t,e2,hoc,hdd,hv⟩:=hrec; refine k_ ?_; clear k_)
 cases e2
 have hTs:T < s.heap.objs.size:=Heap.lt_size hT
 have hfs:s.heap.objs.size≤h'.objs.size:=Nat.le_of_lt (Nat.lt_of_le_of_lt hge hlt)
 have nc:H c' = none:=I.hok.fresh hge
 have nf:H h'.objs.size = none:=I.hok.fresh hfs
 have e1:h'.objs.size≠c':=Nat.ne_of_gt hlt
 have e3:h'.objs.size≠T:=Nat.ne_of_gt (Nat.lt_of_lt_of_le hTs hfs)
 have e4:c'≠T:=Nat.ne_of_gt (Nat.lt_of_lt_of_le hTs hge)
 refine h h'.objs.size c' oc vs t ctv _ _ nf nc e1 e3 e4 hdd hv rfl (inv_lam (T:=T) (ps:=#[]) (more:=#[rawInt pos.line,rawInt pos.col,.ref c']) I kT ?_ (fun b o hb' e => Heap.get?_push_of_some _ (hx b o hb' e)) (Heap.get?_push_of_some _ htb) (fun b hb' hl => ?_) fun b u hl e => ?_)
 ·rw [upd_ne (Ne.symm e3),upd_ne (Ne.symm e4),upd_same]; rfl
 ·rw [upd_ne (Nat.ne_of_lt (Nat.lt_of_lt_of_le hl hfs)),upd_ne (Nat.ne_of_lt (Nat.lt_of_lt_of_le hl hge)),upd_ne hb']
 ·by_cases hb1:b = h'.objs.size
  ·rw [hb1,upd_same] at e
   cases e
   rw [hb1]
   exact ⟨Heap.get?_push_size _ rfl,_,Heap.get?_push_size _ rfl⟩
  ·rw [upd_ne hb1] at e
   by_cases hb2:b = c'
   ·rw [hb2,upd_same] at e
    cases e
    rw [hb2]
    exact ⟨Heap.get?_push_of_some _ hoc,_,Heap.get?_push_of_some _ hoc⟩
   ·rw [upd_ne hb2,upd_ne (Nat.ne_of_gt (Nat.lt_of_lt_of_le hTs hl)),I.hok.fresh hl] at e
    cases e
theorem lam_hit {x:Str} {c T c':Addr} {params:Arguments} {body:Expr} {scope:Scope} {pos:Pos} {R:Value→Shared→Prop} (I:Inv X pins σ H s) (tk:TabK X.K H x c T) (kT:H T = some (.tbl #[rawInt pos.line,rawInt pos.col,.ref c'])) (hd:defaultsOf params X.env = ([],[])) (hcl:closureFor scope X.env = pure [])
  (hcode:X.env.code = .ref c)
  (h:∀ f ctv s' H',H f = none→H' = upd H f (.frz (lamO X params body scope c' ctv) (.own f))→Inv X pins σ H' s'→R (.ref f) s'):wpAny (model X.prog X.w) X.A (eval (.Lambda params body scope pos) X.env) R X.xe s:=by
 (refine Classical.byContradiction fun k_ => ?_; obtain ⟨hb,hgT,hC,hg,hT⟩:=blt_at I tk kT; refine k_ ?_; clear k_)
 refine PySem.W.kla_eval hd (PySem.W.kla_makeFunctionHit (cv:=.ref c') hcl I.ok.glob hg hcode hC hT ?_ ?_ hb fun ctv h' tk' hk hsz => ?_)
 ·simp [TriplesOk,rawInt]
 ·simp [codeAmong,rawInt]
 ·have hTs:T < s.heap.objs.size:=Heap.lt_size hT
  have nf:H h'.objs.size = none:=I.hok.fresh hsz
  have e3:h'.objs.size≠T:=Nat.ne_of_gt (Nat.lt_of_lt_of_le hTs hsz)
  refine h h'.objs.size ctv _ _ nf rfl (inv_lam (T:=T) (more:=#[]) I kT ?_ (fun b o hb' e => Heap.get?_push_of_some _ (hk b o e)) (Heap.get?_push_of_some _ ?_) (fun b hb' hl => ?_) fun b u hl e => ?_)
  ·rw [upd_ne (Ne.symm e3),kT]; simp
  ·rw [hk _ _ hT]; simp
  ·rw [upd_ne (Nat.ne_of_lt (Nat.lt_of_lt_of_le hl hsz))]
  ·by_cases hb1:b = h'.objs.size
   ·rw [hb1,upd_same] at e
    cases e
    rw [hb1]
    exact ⟨Heap.get?_push_size _ rfl,_,Heap.get?_push_size _ rfl⟩
   ·rw [upd_ne hb1,I.hok.fresh hl] at e
    cases e
theorem lam_run {k:Nat} {f c':Addr} {name qual:Str} {params:Arguments} {body:Expr} {scope:Scope} {pm ctv:Value} {N ps:List Str} {us:List Value} {vs:List V} {t:TE} {Q:VK} (I:Inv X pins σ H s) (hf:s.heap.get? f = some (PySem.W.kla_obj name qual params body scope [] pm c' ctv)) (hcd:s.heap.CodeRec (.ref c') qual)
  (S:FnScope N ps scope) (hr:Room (k + 1) X.A) (hl:vs.length = ps.length) (r:Vals vs us) (hb:bindArgs (PySem.W.kla_fn name qual params body scope [] pm (.ref c') ctv) ⟨us,[]⟩ = pure (ps.zip us))
  (hbody:∀ (A:Around) (outer:List Env) (s:Shared) (H:Hp),Room k (A.deeper (envOfC qual scope s.heap.objs.size f (.ref c')))→PE (cxOf CX0 X.prog X.w X.K X.mg X.base N qual scope f (.ref c') A outer s H E0).nox body t) (ht:t (L2.start N vs) H Q) :
  wpAny (model X.prog X.w) X.A (call (.ref f) us) (EP X pins σ Q) X.xe s:=by
 have e0:=I.env0
 have lim:s.heap.NoLimit:=I.nolimit
 have hkind:∀ y∈ps.zip us,scope.names.lookup y.1 = some .local∨(scope.names.lookup y.1 = some .cell∧((cellsFrom (s.heap.objs.size + 1) scope.names []).lookup y.1).isSome = true):=fun ⟨n,v⟩ hy => by
  rcases S.par n (List.of_mem_zip hy).1 with q | q
  ·exact .inl q
  ·exact .inr ⟨q,PySem.W.cellsFrom_some _ _ _ (.inl q)⟩
 refine wpAny_call (codeAny_mono (PySem.W.kla_callFunE (R:=CR CX0 X.stack X.prog X.w H s Q E0) hr.depth hf rfl S.co S.gen rfl hcd ?_) fun r s' hq => ?_)
 ·rw [hb]
  refine wpAny_pure (wpAny_newFunctionEnv_cells S.kind hkind fun env he s1 x => ?_)
  subst he
  refine ⟨lim.keeps x.toInCall.keep,PySem.W.kla_codeExpr ?_⟩
  have J:Inv (cxOf CX0 X.prog X.w X.K X.mg X.base N qual scope f (.ref c') X.A X.stack s H E0).nox [] (L2.start N vs) H s1:=by
   have J0:=inv_start (CX:=CX0) (E:=E0) (N:=N) (qual:=qual) (f:=f) (cd:=.ref c') S hr.hd e0 hl r x
   exact J0.wish _
  refine wpAny_mono (hbody X.A X.stack s H (hr.deeper _) [] s1 (L2.start N vs) H Q J ht) (fun u s' hs => ?_) fun _ _ z => z.elim
  (refine Classical.byContradiction fun k_ => ?_; obtain ⟨v,H',J',rv,q⟩:=hs; refine k_ ?_; clear k_)
  exact ⟨v,H',J'.os,J'.bare,J'.base,J'.hok,rv,q⟩
 ·cases r with
  | error e => exact False.elim hq
  | ok fl =>
   cases fl with
   | ret u => exact I.after hq
   | next => exact False.elim hq
   | brk => exact False.elim hq
   | cont => exact False.elim hq
end
end L3
namespace L3
open PySem PySem.Spec PyProof.Rows L2
section
variable {X:Cx} {pins:List (Addr×Obj)} {σ:St} {H:Hp} {s:Shared}
theorem TK.frzd {H:Hp} {p:Addr} {o:HO} {ps:Array Value} (n:H p = some (.tbl ps)):TK H (upd H p o) :=
 ⟨fun a ys h => by rw [upd_ne (ne_of h n (by intro z; cases z))]; exact h,fun a o' u h => by rw [upd_ne (ne_of h n (by intro z; cases z))]; exact h⟩
theorem p3_sortedL {x y:Str} {e body:Expr} {te tb:TE3} {params:Arguments} {scope:Scope} {l k q:Nat} {p pos lpos kpos:Pos} {f₀:Addr} {fd₀:FuncData} {oc₀:Value} {od₀:Option Addr} {sl₀:Array (Option Value)} (hm:X.mg x = some (.ref f₀)) (hk:X.K.lookup f₀ = some ⟨oc₀,od₀,.func fd₀,sl₀⟩) (hcv:X.env.code = fd₀.code)
  (S:FnScope [y] [y] scope) (hr:Room (q + 3) X.A) (hs:X.mg "sorted" = none) (he:PE3 X e te)
  (hbody:∀ (f c':Addr) (A:Around) (outer:List Env) (s:Shared) (H:Hp),PE3 (cxOf CX0 X.prog X.w X.K X.mg X.base [y] (lamQ x) scope f (.ref c') A outer s H E0).nox body tb)
  (hkey:∀ (c:Pt) (H3:Hp3) (Q3:VK3),Q3 (.tup [.int c.2,.int c.1]) H3→tb (start3 [y] [prP c]) H3 Q3)
  (hb:∀ (pm:Value) (c':Addr) (ctv u:Value),bindArgs (PySem.W.kla_fn "<lambda>" (lamQ x) params body scope [] pm (.ref c') ctv) ⟨[u],[]⟩ = pure [(y,u)])
  (hl:lpos.line = l:=by rfl) (hc:lpos.col = k:=by rfl)
  (hq:X.env.qual ++ "<lambda>" = lamQ x:=by rfl) (hd:defaultsOf params X.env = ([],[]):=by rfl) (hcl:closureFor scope X.env = pure []:=by rfl)
  (hg:Gl X "sorted":=by rfl) (h1:starEach [e] X.env = (false,eval e X.env)::starEach [] X.env:=by rfl)
  (h2:backTo pos (starEach [e] X.env) = (false,eval e X.env)::backTo pos (starEach [] X.env):=by rfl) (h3:(backTo pos (starEach [e] X.env)).any (·.1) = false:=by rfl) (h4:(backToKw pos (keywordEach [⟨some "key",.Lambda params body scope lpos,kpos⟩] X.env)).all (·.1.isSome) = true:=by rfl)
  (h5:(backToKw pos (keywordEach [⟨some "key",.Lambda params body scope lpos,kpos⟩] X.env)).any (·.1.isNone) = false:=by rfl) (h6:(backToKw pos (keywordEach [⟨some "key",.Lambda params body scope lpos,kpos⟩] X.env)).filterMap (·.1) = [Str.ofString "key"]:=by rfl) :
  PE3 X (.Call (.Name "sorted" p) [e] [⟨some "key",.Lambda params body scope lpos,kpos⟩] pos) (soL x l k te):=by
 intro pins s σ H Q I h
 (refine Classical.byContradiction fun k_ => ?_; obtain ⟨σ3,H3,Q3,sr,hr3,t,kk⟩:=h; refine k_ ?_; clear k_)
 refine wpAny_Call_Name_kw (ld_blt I hg hs boot_sorted ?_ (by decide) (by decide))
 have pa:PA X [e] (tCons (liftE X.K te) tNil):=pa_cons he pa_nil h1
 refine callWith_kw (thn (pa pos pins s σ H (fun vs H1 => ∃ d v H31,vs = [v]∧TK H H1∧HR X.K H31 H1∧Rep X.K H1 d v∧sokL x l k d H31 Q3) I ⟨σ3,H3,_,sr,hr3,t,fun d v H3' H' tk hr' rep q => ⟨d,v,H3',rfl,tk,hr',rep,q⟩⟩) fun us s1 hq => ?_) h2 h3 h4 h5
 (refine Classical.byContradiction fun k_ => ?_; obtain ⟨vs,H1,I1,rvs,d,v,H31,rfl,tk1,hr1,rep1,q1⟩:=hq; refine k_ ?_; clear k_)
 (refine Classical.byContradiction fun k_ => ?_; obtain ⟨u1,rfl,ru1⟩:=vals1 rvs; refine k_ ?_; clear k_)
 rw [h6]
 cases rep1 with
 | ref a =>
  cases ru1
  unfold sokL at q1
  dsimp only at q1
  split at q1
  ·rename_i ds ha
   split at q1
   ·rename_i ps ep
    (refine Classical.byContradiction fun k_ => ?_; obtain ⟨h64,T,hT,q1⟩:=q1; refine k_ ?_; clear k_)
    have z:=ptsOf_inv ep
    subst z
    (refine Classical.byContradiction fun k_ => ?_; obtain ⟨vs,ga,ra⟩:=hr1 a _ ha; refine k_ ?_; clear k_)
    have fin:∀ (f c' oc:_) (ctv:Value) (vs':Array Value) (tq:Nat) (H2:Hp),HR X.K (upd3 H31 T (.tabd x l k)) H2→TK H1 H2→H2 c' = some (.frz oc (.own c'))→oc.data = .fields vs'→vs'[1]? = some (.str (lamQ x) tq) →
      H2 f = some (.frz (lamO X params body scope c' ctv) (.own f))→H2 a = some (.lst vs)→∀ s2,Inv X pins σ H2 s2→wpAny (model X.prog X.w) X.A (call (.builtin "sorted") [.ref a] [(Str.ofString "key",.ref f)]) (EP X pins σ Q) X.xe s2:=by
     intro f c' oc ctv vs' tq H2 hr2 tk2 kc hdd hv kf ga2 s2 I2
     refine sort_runG I2 ga2 (ra.mono tk2) hr2 h64 (fun pins' H' s' c v u tk hr' J rep rx => ?_) fun D H'' tk hr'' nD => kk _ _ _ _ ((tk1.trans tk2).trans tk) hr'' (.ref D) (q1 D ?_)
     ·have of:=(J.hok f _ (tk.frz _ _ _ kf)).1
      have oc':=(J.hok c' _ (tk.frz _ _ _ kc)).1
      rw [show lamO X params body scope c' ctv = PySem.W.kla_obj "<lambda>" (lamQ x) params body scope [] ((X.mg "__name__").getD .none) c' ctv by unfold lamO; rw [hq]] at of
      refine lam_run (X:=Cx.in2 X) (k:=q) (t:=liftE X.K tb) J of ⟨c',oc,vs',tq,rfl,oc',hdd,hv⟩ S (hr.in1.in1) rfl (.cons rx .nil) (hb _ _ _ _) (fun A outer s0 H0 _ => hbody f c' A outer s0 H0) ?_
      exact ⟨start3 [y] [prP c],_,fun d H3' => d = .tup [.int c.2,.int c.1]∧H3' = _,sr_start (.cons rep .nil),hr',hkey c _ _ ⟨rfl,rfl⟩,fun d v H3'' H'' tk' hr'' rep' q => by
       obtain ⟨rfl,rfl⟩:=q
       exact ⟨tk',hr'',rep'⟩⟩
     ·by_cases hDT:D = T
      ·rw [hDT,upd3_same] at nD; cases nD
      ·rw [upd3_ne hDT] at nD; exact nD
    have codeE:∀ c,PySem.W.tabIn X.K x = some (c,T)→X.env.code = .ref c:=fun c ht => by
     rw [hcv]
     exact PySem.W.law_code I1.kIn (I1.ok.mod.glob.keeps I1.bk) ht hm (I1.kIn _ _ hk) rfl
    have pl:PE X (.Lambda params body scope lpos) (fun _ H' Q' => H' = H1∧∀ (f c':Addr) (oc:Obj) (ctv:Value) (vs':Array Value) (tq:Nat) (H2:Hp),HR X.K (upd3 H31 T (.tabd x l k)) H2→TK H1 H2→H2 c' = some (.frz oc (.own c'))→oc.data = .fields vs'→vs'[1]? = some (.str (lamQ x) tq) →
      H2 f = some (.frz (lamO X params body scope c' ctv) (.own f))→H2 a = some (.lst vs)→Q' (.ref f) H2):=by
     intro pins s σ H' Q' I ⟨eH,hq'⟩
     subst eH
     rcases hT with hT | hT
     ·(refine Classical.byContradiction fun k_ => ?_; obtain ⟨kT,c,tkT⟩:=hr1 T _ hT; refine k_ ?_; clear k_)
      refine lam_make I tkT kT hd hcl (codeE c tkT.tab) fun f c' oc vs' t ctv s' H2 nf nc e1 e2 e3 hdd hv eH J => ⟨.ref f,H2,J,rfl,?_⟩
      have nc1:upd H' T (.tbl #[rawInt lpos.line,rawInt lpos.col,.ref c']) c' = none:=by rw [upd_ne e3]; exact nc
      have nf1:upd (upd H' T (.tbl #[rawInt lpos.line,rawInt lpos.col,.ref c'])) c' (.frz oc (.own c')) f = none:=by rw [upd_ne e1,upd_ne e2]; exact nf
      have tkA:TK H' H2:=by rw [eH]; exact ((TK.frzd kT).trans (TK.fresh nc1)).trans (TK.fresh nf1)
      have kc:H2 c' = some (.frz oc (.own c')):=by rw [eH,upd_ne (Ne.symm e1),upd_same]
      have old:∀ b u,b≠T→H' b = some u→H2 b = some u:=fun b u n e => by rw [eH,upd_ne (ne_of_none e nf),upd_ne (ne_of_none e nc),upd_ne n]; exact e
      rw [hq] at hv
      refine hq' f c' oc ctv vs' t H2 (fun b u e => ?_) tkA kc hdd hv (by rw [eH,upd_same]) (old a _ (fun z => by rw [z,kT] at ga; cases ga) ga)
      by_cases hb':b = T
      ·subst hb'
       rw [upd3_same] at e
       cases e
       exact ⟨c',oc,vs',t,by rw [eH,upd_ne (Ne.symm e2),upd_ne (Ne.symm e3),upd_same,hl,hc],kc,hdd,hv,c,tkT.mono tkA⟩
      ·rw [upd3_ne hb'] at e
       refine (hr1 b u e).keep tkA ?_
       have n1:b≠c':=ne3 e (hr1.fresh nc)
       have n2:b≠f:=ne3 e (hr1.fresh nf)
       rw [eH,upd_ne n2,upd_ne n1,upd_ne hb']
     ·(refine Classical.byContradiction fun k_ => ?_; obtain ⟨c',oc,vs',t,kT,kc,hdd,hv,c,tkT⟩:=hr1 T _ hT; refine k_ ?_; clear k_)
      have kT':H' T = some (.tbl #[rawInt lpos.line,rawInt lpos.col,.ref c']):=by rw [kT,hl,hc]
      refine lam_hit I tkT kT' hd hcl (codeE c tkT.tab) fun f ctv s' H2 nf eH J => ⟨.ref f,H2,J,rfl,?_⟩
      have tkA:TK H' H2:=by rw [eH]; exact TK.fresh nf
      have old:∀ b u,H' b = some u→H2 b = some u:=fun b u e => by rw [eH,upd_ne (ne_of_none e nf)]; exact e
      refine hq' f c' oc ctv vs' t H2 (fun b u e => ?_) tkA (old _ _ kc) hdd hv (by rw [eH,upd_same]) (old a _ ga)
      by_cases hb':b = T
      ·subst hb'
       rw [upd3_same] at e
       cases e
       exact ⟨c',oc,vs',t,old _ _ kT,old _ _ kc,hdd,hv,c,tkT.mono tkA⟩
      ·rw [upd3_ne hb'] at e
       refine (hr1 b u e).keep tkA ?_
       rw [eH,upd_ne (ne3 e (hr1.fresh nf))]
    have pk:PK X [⟨some "key",.Lambda params body scope lpos,kpos⟩] (tCons _ tNil):=pk_cons pl pk_nil
    refine thn (pk pos pins s1 σ H1 (fun zs H2 => ∃ (f c':Addr) (oc:Obj) (ctv:Value) (vs':Array Value) (tq:Nat),zs = [.ref f]∧HR X.K (upd3 H31 T (.tabd x l k)) H2∧TK H1 H2∧H2 c' = some (.frz oc (.own c'))∧oc.data = .fields vs'∧vs'[1]? = some (.str (lamQ x) tq) ∧
      H2 f = some (.frz (lamO X params body scope c' ctv) (.own f))∧H2 a = some (.lst vs)) I1 ⟨rfl,fun f c' oc ctv vs' tq H2 g1 g2 g3 g4 g5 g6 g7 => ⟨f,c',oc,ctv,vs',tq,rfl,g1,g2,g3,g4,g5,g6,g7⟩⟩) fun ws s2 hq2 => ?_
    (refine Classical.byContradiction fun k_ => ?_; obtain ⟨zs,H2,I2,rz,f,c',oc,ctv,vs',tq,rfl,g1,g2,g3,g4,g5,g6,g7⟩:=hq2; refine k_ ?_; clear k_)
    (refine Classical.byContradiction fun k_ => ?_; obtain ⟨w1,rfl,rw1⟩:=vals1 rz; refine k_ ?_; clear k_)
    cases rw1
    exact fin f c' oc ctv vs' tq H2 g1 g2 g3 g4 g5 g6 g7 s2 I2
   ·exact q1.elim
  ·exact q1.elim
 | _ => exact q1.elim
end
theorem lam_key {y:Str} (c:Pt) (H3:Hp3) (Q3:VK3) (h:Q3 (.tup [.int c.2,.int c.1]) H3):tp3 (cons3 (o3 r3ix (v3 0) (c3 (.int 1))) (cons3 (o3 r3ix (v3 0) (c3 (.int 0))) nil3)) (start3 [y] [prP c]) H3 Q3:=by
 refine g_tp (g_cons (g_o3 (g_v3 (d:=.tup [.int c.1,.int c.2]) rfl (g_c3 (g_ixT (d:=.int c.2) rfl (g_cons (g_o3 (g_v3 (d:=.tup [.int c.1,.int c.2]) rfl (g_c3 (g_ixT (d:=.int c.1) rfl (g_nil ?_)))))))))))
 exact ⟨by show 2≤1000; decide,h⟩
end L3
namespace L3
open PySem PySem.Spec PyProof.Rows L2
theorem fn3c {P:Program} {w:World} {K:PySem.W.Frag} {mg:Str→Option Value} {base:Heap} {x qual:Str} {st:Stmt} {f:Addr} {fd:FuncData} {N ps:List Str} {k:Nat} {sp:Sp3} (F:Fun K x qual st f fd) (S:FnScope N ps (defScope st))
  (hm:mg x = some (.ref f)) (hb:Binds K fd ps []) (len:∀ ds H Q,sp ds H Q→ds.length = ps.length)
  (hbody:∀ (oc:Value) (od:Option Addr) (sl:Array (Option Value)),K.lookup f = some ⟨oc,od,.func fd,sl⟩→∀ (A:Around) (outer:List Env) (s:Shared) (H:Hp) (E:XK),Room k (A.deeper (envOfC qual (defScope st) s.heap.objs.size f fd.code)) →
   ∃ t,PSs3 (cxOf CX0 P w K mg base N qual (defScope st) f fd.code A outer s H E).nox (defBody st) t∧∀ ds H3 Q3,sp ds H3 Q3→t (fin3 Q3) (start3 N ds) H3):Fn P w K mg base (k + 1) x ps sp:=by
 refine ⟨f,fd,?_,hm,F.kp,hb⟩
 (refine Classical.byContradiction fun k_ => ?_; obtain ⟨oc,od,kV,doc,pm,an,cdv,ct,osl,rfl,lk,hcd⟩:=F.ex; refine k_ ?_; clear k_)
 refine fn_of lk hcd S (fun vs H Q E h => ?_) (fun A outer s H vs Q E hr h => ?_)
 ·(refine Classical.byContradiction fun k_ => ?_; obtain ⟨ds,H3,Q3,_,rs,q,_⟩:=h; refine k_ ?_; clear k_)
  rw [← rs.length]
  exact len ds H3 Q3 q
 ·(refine Classical.byContradiction fun k_ => ?_; obtain ⟨ds,H3,Q3,hr3,rs,q,k⟩:=h; refine k_ ?_; clear k_)
  (refine Classical.byContradiction fun k_ => ?_; obtain ⟨t,ht,hq⟩:=hbody oc od osl lk A outer s H E hr; refine k_ ?_; clear k_)
  refine ⟨_,PSs.nox ht,start3 N ds,H3,_,sr_start rs,hr3,hq ds H3 Q3 q,⟨fun σ3 σ H3' H' tk sr hr' z => ?_,fun d v H3' H' tk hr' rd z => ?_,fun _ _ _ _ _ _ _ z => z.elim,fun _ _ _ _ _ _ _ z => z.elim⟩⟩
  ·(refine Classical.byContradiction fun k_ => ?_; obtain ⟨H'',sub,q'⟩:=z; refine k_ ?_; clear k_)
   exact k _ _ _ _ tk (hr'.sub sub) .non q'
  ·(refine Classical.byContradiction fun k_ => ?_; obtain ⟨H'',sub,q'⟩:=z; refine k_ ?_; clear k_)
   exact k _ _ _ _ tk (hr'.sub sub) rd q'
def OnlyT (T:Addr) (H:Hp):Prop:=H T = some (.tbl #[])∧∀ b,b = T∨H b = none∨∃ o u,H b = some (.frz o u)
theorem law_callT {P:Program} {w:World} {K:PySem.W.Frag} {mg mb:Str→Option Value} {k:Nat} {fa a c T:Addr} {fd:FuncData} {x xt:Str} {sp:Sp3} {s₁:Shared} {vs:List Value} {ns:List Int} {p:Program} {loose:List Str} {mean:ExcName→Option Value}
  (KX:K.In s₁.heap) (TT:Top p loose mean mg mb s₁.heap) (hg:s₁.gens = #[]) (hC:PySem.W.CodeHd s₁.heap c T∧s₁.heap.get? T = some (PySem.W.tabObj #[])) (ht:PySem.W.tabIn K xt = some (c,T)) (hbn:∃ v,PySem.W.nsIn K mainGlobals "__builtins__" = some (some v)) (hnt:K.lookup T = none)
  (hbl:∀ bm o,PySem.W.nsIn K mainGlobals "__builtins__" = some (some (.ref bm))→K.lookup bm = some o→False)
  (ha:s₁.heap.get? a = some { cls:=.type "list",data:=.seq vs.toArray }) (hi:IntsAre vs ns) (hl:ns.length≤sizeLine) (hr:Room k callerA)
  (F:∀ base:Heap,K.In base→base.Ns mainGlobals mg→FnOk P w K mg base CX0 k fa fd [x] (liftF K sp)) (hbind:∀ (s:Shared) (u:Value),BindsTo s fd ⟨[u],[]⟩ [(x,u)])
  (hsp:∀ H:Hp3,H T = some (.tab xt)→sp [.fl (ns.map D.int)] H (fun d _ => d = .bl true)) :
  codeAny (model P w) callerA (.call (.ref fa) ⟨[.ref a],[]⟩) (fun r s' => r = .ok (.ret (.bool true))∧OldK s₁.heap s'.heap∧s'.os = s₁.os∧AllBare s'.gens) s₁:=by
 have rv:=vals_ints hi
 have lenV:=hi.length
 (refine Classical.byContradiction fun k_ => ?_; obtain ⟨bm,ob,hbm,hb1,hb2,hb3,hb4,hb5⟩:=TT.bmain; refine k_ ?_; clear k_)
 obtain ⟨vb,hvb⟩:=hbn
 have evb:=PySem.W.mg_of KX TT.g hvb
 rw [hbm] at evb
 cases evb
 have nbT:bm≠T:=fun z => by rw [z,hC.2] at hb2; cases hb2; cases hb3
 have naT:a≠T:=fun z => by rw [z,hC.2] at ha; cases ha
 have nab:a≠bm:=fun z => by
  rw [z,hb2] at ha
  cases ha
  injection hb3 with z2
  exact absurd z2 (by decide)
 have core:∀ H:Hp,OnlyT T H→FzL K H a (ns.map V.int)→H bm = some (.frz ob (.own bm))→HOk P w H s₁.heap→(∀ b,H b≠none→b = a∨b = bm∨b = T)→(H a≠none→K.lookup a = none) →
   codeAny (model P w) callerA (.call (.ref fa) ⟨[.ref a],[]⟩) (fun r s' => r = .ok (.ret (.bool true))∧OldK s₁.heap s'.heap∧s'.os = s₁.os∧AllBare s'.gens) s₁:=by
  intro H hO hS hB hok hA hK
  have base_of:∀ {b:Addr} {o:Obj},s₁.heap.get? b = some o→H b = none→(hidT s₁.heap H).get? b = some o:=fun e n => hidT_get e n
  have noA:∀ {b:Addr} {o:Obj} {es:Array DictEntry} {ep:Nat},s₁.heap.get? b = some o→o.data = .dict es ep→H b = none:=fun {b o es ep} e d => by
   cases q:H b with
   | none => rfl
   | some u =>
    rcases hA b (by rw [q]; simp) with z | z | z
    ·rw [z,ha] at e; cases e; cases d
    ·rw [z,hb2] at e; cases e; rw [hb5] at d; cases d
    ·rw [z,hC.2] at e; cases e; cases d
  have nsK:∀ {b:Addr} {m:Str→Option Value},s₁.heap.Ns b m→(hidT s₁.heap H).Ns b m:=fun {b m} ⟨o,es,ep,e,d,r⟩ => ⟨o,es,ep,base_of e (noA e d),d,r⟩
  have hKb:K.In (hidT s₁.heap H):=fun b o e => base_of (KX b o e) (by
   cases q:H b with
   | none => rfl
   | some u =>
    rcases hA b (by rw [q]; simp) with z | z | z
    ·rw [z] at e q; rw [hK (by rw [q]; simp)] at e; cases e
    ·rw [z] at e; exact (hbl _ _ hvb e).elim
    ·rw [z,hnt] at e; cases e)
  have hM:Mod K mg (hidT s₁.heap H):=⟨hKb,nsK TT.g,⟨mb,nsK TT.b,TT.builtins⟩,let ⟨mc,h1,h2⟩:=TT.nolimit; ⟨mc,nsK h1,h2⟩⟩
  have e0:Env0 P w K mg (hidT s₁.heap H) callerA [] s₁ H:=⟨rfl,hM,fun b o e => of_hidT e,Nat.le_of_eq (hidT_size _ _),trivial,fun b hb => absurd (show b∈([]:List Addr) from hb) (by simp),hok,.of_eq hg⟩
  have tabK:TabK K H xt c T:=⟨ht,fun h kh => ?_,bm,ob,hvb,hb1,hB,hb3,hb4,hb5⟩
  ·have hq:liftF K sp [.ref a] H (fun v _ => v = .bl true) fun _ _ _ => False:=by
    refine ⟨[.fl (ns.map D.int)],fun b => if b = T then some (.tab xt) else none,fun d _ => d = .bl true,fun b o e => ?_,.cons (.fl hS (RepL.ints ns)) .nil,hsp _ (if_pos rfl),fun d v H3' H' tk hr rd q => ?_⟩
    ·have e':(if b = T then some (O3.tab xt) else none) = some o:=e
     by_cases hb:b = T
     ·rw [if_pos hb] at e'
      cases e'
      rw [hb]
      exact ⟨hO.1,c,tabK⟩
     ·rw [if_neg hb] at e'; cases e'
    ·subst q
     cases rd
     rfl
   refine codeAny_mono ((F _ hKb (nsK TT.g)).run callerA [] s₁ H ⟨[.ref a],[]⟩ [.ref a] [.ref a] _ _ hr e0 (hbind s₁ (.ref a)) (.cons rfl .nil) hq) fun r s' h => ?_
   cases r with
   | error e => exact False.elim h
   | ok fl =>
    cases fl with
    | next => exact False.elim h
    | brk => exact False.elim h
    | cont => exact False.elim h
    | ret u =>
     (refine Classical.byContradiction fun k_ => ?_; obtain ⟨v,H',os,bare,un,hok',r',q⟩:=h; refine k_ ?_; clear k_)
     have q':v = .bl true:=q
     subst q'
     obtain rfl:u = Value.bool true:=r'
     have keep:∀ b o,b≠T→s₁.heap.get? b = some o→s'.heap.get? b = some o:=fun b o nb e => by
      rcases hO.2 b with z | z | ⟨o2,u2,z⟩
      ·exact (nb z).elim
      ·exact un.keep b o e z (by intro z; exact absurd (show b∈([]:List Addr) from z) (by simp)) (by simp)
      ·have z2:=un.frzs b o2 _ z
       have e1:=(hok b _ z).1
       have e2:=(hok' b _ z2).1
       rw [e] at e1
       cases e1
       exact e2
     obtain ⟨more,km⟩:=un.tbls T _ hO.1
     have eT:s'.heap.get? T = some (PySem.W.tabObj (#[]++more)):=hok' T _ km
     refine ⟨rfl,⟨fun b o e => ?_,fun b o e => ?_⟩,os,bare⟩
     ·by_cases hb:b = T
      ·subst hb
       have e3:o = PySem.W.tabObj #[]:=Option.some.inj (e.symm.trans hC.2)
       subst e3
       exact .inr (.inl ⟨(hC.1.tab hC.2).isCodeTable,rfl,#[],more,rfl,eT⟩)
      ·exact .inl (keep b o hb e)
     ·by_cases hb:b = T
      ·exact ⟨_,by rw [hb]; exact eT⟩
      ·exact ⟨o,keep b o hb e⟩
  ·have hkc:∃ o,K.lookup c = some o:=by
    unfold PySem.W.tabIn at ht
    split at ht
    ·split at ht
     ·split at ht
      ·split at ht
       ·split at ht
        ·cases ht; exact ⟨_,by assumption⟩
        ·cases ht
       ·cases ht
      ·cases ht
     ·cases ht
    ·cases ht
   obtain ⟨o,hko⟩:=hkc
   (refine Classical.byContradiction fun k_ => ?_; obtain ⟨o',r1,r2,r3,r4,r5,r6,r7,r8,e1,r9⟩:=hC.1; refine k_ ?_; clear k_)
   rw [KX _ _ hko] at e1
   cases e1
   exact ⟨_,r1,r2,r3,r4,r5,r6,r7,r8,kh _ _ hko,r9⟩
 have okB:ObjOk P w (fun _ => none) s₁.heap bm (.frz ob (.own bm)):=⟨hb2,_,hb2⟩
 cases hk:K.lookup a with
 | some o =>
  have e:=KX a o hk
  rw [ha] at e
  cases e
  refine core (upd (upd (fun _ => none) bm (.frz ob (.own bm))) T (.tbl #[])) ⟨upd_same,fun b => ?_⟩ (.inr ⟨_,vs.toArray,_,hk,rfl,rfl,rfl,by rw [List.size_toArray,lenV]; exact hl,by simpa using rv⟩) (by rw [upd_ne nbT,upd_same]) (fun b u z => ?_) (fun b z => ?_) fun z => absurd (by rw [upd_ne naT,upd_ne nab]) z
  ·by_cases h1:b = T
   ·exact .inl h1
   ·by_cases h2:b = bm
    ·exact .inr (.inr ⟨ob,.own bm,by rw [upd_ne h1,h2,upd_same]⟩)
    ·exact .inr (.inl (by rw [upd_ne h1,upd_ne h2]))
  ·by_cases h1:b = T
   ·rw [h1,upd_same] at z; cases z; rw [h1]; exact hC.2
   ·rw [upd_ne h1] at z
    by_cases h2:b = bm
    ·rw [h2,upd_same] at z; cases z; rw [h2]; exact ⟨hb2,_,hb2⟩
    ·rw [upd_ne h2] at z; cases z
  ·by_cases h1:b = T
   ·exact .inr (.inr h1)
   ·rw [upd_ne h1] at z
    by_cases h2:b = bm
    ·exact .inr (.inl h2)
    ·rw [upd_ne h2] at z; exact (z rfl).elim
 | none =>
  refine core (upd (upd (upd (fun _ => none) a (.frz { cls:=.type "list",data:=.seq vs.toArray } (.lst (ns.map V.int)))) bm (.frz ob (.own bm))) T (.tbl #[])) ⟨upd_same,fun b => ?_⟩ (.inl ⟨{ cls:=.type "list",data:=.seq vs.toArray },by rw [upd_ne naT,upd_ne nab,upd_same]⟩) (by rw [upd_ne nbT,upd_same]) (fun b u z => ?_) (fun b z => ?_) fun _ => hk
  ·by_cases h1:b = T
   ·exact .inl h1
   ·by_cases h2:b = bm
    ·exact .inr (.inr ⟨ob,.own bm,by rw [upd_ne h1,h2,upd_same]⟩)
    ·by_cases h3:b = a
     ·exact .inr (.inr ⟨_,_,by rw [upd_ne h1,upd_ne h2,h3,upd_same]⟩)
     ·exact .inr (.inl (by rw [upd_ne h1,upd_ne h2,upd_ne h3]))
  ·by_cases h1:b = T
   ·rw [h1,upd_same] at z; cases z; rw [h1]; exact hC.2
   ·rw [upd_ne h1] at z
    by_cases h2:b = bm
    ·rw [h2,upd_same] at z; cases z; rw [h2]; exact ⟨hb2,_,hb2⟩
    ·rw [upd_ne h2] at z
     by_cases h3:b = a
     ·rw [h3,upd_same] at z; cases z; rw [h3]
      exact ⟨ha,by rw [List.length_map]; exact hl,vs,_,rv,ha⟩
     ·rw [upd_ne h3] at z; cases z
  ·by_cases h1:b = T
   ·exact .inr (.inr h1)
   ·rw [upd_ne h1] at z
    by_cases h2:b = bm
    ·exact .inr (.inl h2)
    ·rw [upd_ne h2] at z
     by_cases h3:b = a
     ·exact .inl h3
     ·rw [upd_ne h3] at z; exact (z rfl).elim
theorem walk_ofT {l:PySem.W.OpenLaw} {n k:Nat} {q:Program} {loose:List Str} {XP:(Str→Option Value)→Heap→Prop} {YP:World→Heap→Prop} {d dt:DefRec} {K:Params→PySem.W.Frag} {sp:Sp3} {x xt:Str} {c T bm:Addr}
  (hn:l.most = some n) (hn2:n≤sizeLine) (hdf:d.params.defaults = []) (hr:Room k callerA)
  (hY:∀ (w:World) (h:Heap),YP w h→(K w.params).In h)
  (hrec:(recsOf q).find? (fun e => e.name == xt) = some dt) (ht:∀ w:World,PySem.W.tabIn (K w.params) xt = some (c,T)) (hb:∀ w:World,PySem.W.nsIn (K w.params) mainGlobals "__builtins__" = some (some (.ref bm))) (hnb:∀ w:World,(K w.params).lookup bm = none) (hnt:∀ w:World,(K w.params).lookup T = none)
  (F:∀ (w:World) (mg:Str→Option Value) (fa:Addr) (h:Heap),(K w.params).In h→h.Ns mainGlobals mg→mg d.name = some (.ref fa) →
   ∃ fd:FuncData,(∀ (s:Shared) (u:Value),BindsTo s fd ⟨[u],[]⟩ [(x,u)]) ∧
    ∀ base:Heap,(K w.params).In base→base.Ns mainGlobals mg→FnOk l.prog w (K w.params) mg base CX0 k fa fd [x] (liftF (K w.params) sp))
  (hsp:∀ (H:Hp3) (ns:List Int),ns.length≤n→H T = some (.tab xt)→sp [.fl (ns.map D.int)] H (fun d _ => d = .bl true)) :
  PySem.W.WalkO q loose XP YP l.row.toRowW d [] (fun f vs => PySem.call f vs):=by
 refine Att.attach_call hn hdf fun w s₀ s₁ mg mb fa o pm cd doc a vs ns G Y ho hd hcd hmg hobj hints hlen hg => ?_
 have KX:=hY w _ Y
 (refine Classical.byContradiction fun k_ => ?_; obtain ⟨fd,hbd,hF⟩:=F w mg fa _ KX G.T.g hmg; refine k_ ?_; clear k_)
 exact law_callT KX G.T hg (PySem.W.tab_of G.T KX hrec (ht w)) (ht w) ⟨_,hb w⟩ (hnt w) (fun b o e1 e2 => by rw [hb w] at e1; cases e1; rw [hnb w] at e2; cases e2) hobj hints (Nat.le_trans hlen hn2) hr hF hbd fun H h => hsp H ns hlen h
end L3
namespace L3
open PySem PySem.Spec PyProof.Rows L2
end L3
namespace L3
open PySem PySem.Spec PyProof.Rows L2
end L3
namespace L3
open PySem PySem.Spec PyProof.Rows L2
theorem tabIn_of {K:PySem.W.Frag} {x:Str} {f c T:Addr} {oc oc':Value} {od od':Option Addr} {sl sl':Array (Option Value)} {fd:FuncData} {vs:Array Value} (h1:PySem.W.nsIn K mainGlobals x = some (some (.ref f))) (h2:K.lookup f = some ⟨oc,od,.func fd,sl⟩) (h3:fd.code = .ref c)
  (h4:K.lookup c = some ⟨oc',od',.fields vs,sl'⟩) (h5:vs[11]? = some (.ref T)):PySem.W.tabIn K x = some (c,T):=by
 unfold PySem.W.tabIn
 rw [h1]
 dsimp only
 rw [h2]
 dsimp only
 rw [h3]
 dsimp only
 rw [h4]
 dsimp only
 rw [h5]
end L3
namespace L3
open PySem PySem.Spec PyProof.Rows L2
def zTk (x y:D) (H:Hp3) (R:List D→(Hp3→Prop)→Hp3→Prop):Prop:=match x,y with
 | .ref a,.tup es => (match H a with
  | some (.lst ds) => R (zipD ds es) (fun H' => H' a = some (.lst ds)) H
  | _ => False)
 | _,_ => False
def izT (ta tb:TE3):TI3:=fun σ H R => ta σ H fun x H1 => tb σ H1 fun y H2 => zTk x y H2 R
theorem g_izT {ta tb:TE3} {σ:St3} {H:Hp3} {R:List D→(Hp3→Prop)→Hp3→Prop} (h:ta σ H fun x H1 => tb σ H1 fun y H2 => zTk x y H2 R):izT ta tb σ H R:=h
end L3
namespace L3
open PySem PySem.Spec PyProof.Rows L2
section
variable {X:Cx} {tg:Expr}
end
end L3
namespace L3
open PySem PySem.Spec PyProof.Rows L2
end L3
namespace L3
open PySem PySem.Spec PyProof.Rows L2
section
variable {X:Cx}
end
section
variable {X:Cx}
end
end L3
namespace L3
open PySem PySem.Spec PyProof.Rows L2
end L3
namespace L3
open PySem PySem.Spec PyProof.Rows L2
end L3
namespace L3
open PySem PySem.Spec PyProof.Rows L2
section
variable {prog:Program} {w:World} {A:Around} {E:Value→Shared→Prop} {s:Shared}
end
section
variable {X:Cx}
end
end L3
namespace L3
open PySem PySem.Spec PyProof.Rows L2
def ezk (x:D) (H:Hp3) (R:List D→(Hp3→Prop)→Hp3→Prop):Prop:=match x with
 | .str z => z.cps.all (· < 128) = true∧R (zipD (rng 0 (lets z).length) (lets z)) (fun _ => True) H
 | _ => False
def iez (te:TE3):TI3:=fun σ H R => te σ H fun x H1 => ezk x H1 R
theorem g_iez {te:TE3} {σ:St3} {H:Hp3} {R:List D→(Hp3→Prop)→Hp3→Prop} (h:te σ H fun x H1 => ezk x H1 R):iez te σ H R:=h
theorem g_ezk {z:Str} {H:Hp3} {R:List D→(Hp3→Prop)→Hp3→Prop} (ha:z.cps.all (· < 128) = true) (q:R (zipD (rng 0 (lets z).length) (lets z)) (fun _ => True) H):ezk (.str z) H R:=⟨ha,q⟩
end L3
namespace L3
open PySem PySem.Spec PyProof.Rows L2
def Itez (x:Str):It :=
 ⟨fun i _ => ∃ c,x.cps[i]? = some c,
   fun i H v H' => ∃ T c,v = .ref T∧H T = none∧H' = upd H T (.tup [.int i,.str ⟨#[c]⟩])∧x.cps[i]? = some c,
   fun i _ => x.cps.size≤i⟩
theorem turn_enumZ {x:Str} {t:Tok} {P:Program} {w:World} {K:PySem.W.Frag} {elts:List Expr} {kt:Nat} {pt:Pos} (e it:Addr) (hne:e≠it) :
  Turn P w K (.Tuple elts kt pt) (Itez x) [e,it] e (fun i h => i≤x.cps.size∧(∃ old,IsEnum h e it i old)∧h.IsStrIter it "str_ascii_iterator" x t i) where
 mem:=by simp
 obj:=by
  rintro i h ⟨_,⟨old,h1⟩,⟨o4,h4,c4,d4⟩⟩ c hc
  simp only [List.mem_cons,List.not_mem_nil,or_false] at hc
  rcases hc with rfl | rfl
  ·exact ⟨_,h1,fun v z => nomatch z⟩
  ·exact ⟨_,h4,fun v z => by rw [d4] at z; cases z⟩
 keep:=by
  rintro i h h' ⟨hi,⟨old,h1⟩,⟨o4,h4,r4⟩⟩ k
  exact ⟨hi,⟨old,k e (by simp) _ h1⟩,o4,k it (by simp) o4 h4,r4⟩
 item:=by
  intro X hP hw hK hc i pins s σ H E I hf st hg
  subst hP hw hK
  obtain ⟨c,hx⟩:=hg
  (refine Classical.byContradiction fun k_ => ?_; obtain ⟨_,⟨old,h1⟩,h4⟩:=st; refine k_ ?_; clear k_)
  have hT:H s.heap.objs.size = none:=I.hok.fresh (Nat.le_refl _)
  have hlt:i < x.cps.size:=(Array.getElem?_eq_some_iff.mp hx).1
  refine wpAny_pyNext_enum_itemD (Draws.strAscii (prog:=X.prog) (w:=X.w) (A:=X.A.in1) (I.ok.hd hc) it x t) h1 h4 hlt hne (by simp [hne]) fun u h' tk p a1 a2 a3 a4 a5 => ?_
  (refine Classical.byContradiction fun k_ => ?_; obtain ⟨c',u',hc',rfl⟩:=p; refine k_ ?_; clear k_)
  have ec:c' = c:=Option.some.inj (hc'.symm.trans hx)
  subst ec
  refine ⟨_,rfl,?_⟩
  refine wpAny_letOwnedTupleGo_enum (s:={ s with heap:=h',toks:=tk + 1 }) a1 fun h'' b1 b2 => ?_
  have lt:∀ {c o},s.heap.get? c = some o→s.heap.objs.size≠c:=fun q => Nat.ne_of_gt (Heap.lt_size q)
  have new:h''.get? s.heap.objs.size = some { cls:=.type "tuple",data:=.seq #[.int i tk,.str ⟨#[c']⟩ u'] }:=(b2.2 _ (lt h1)).trans a3
  have I1:L2.Inv X pins σ (upd H s.heap.objs.size (.tup [.int i,.str ⟨#[c']⟩])) { s with heap:=h'',toks:=tk + 1 }:=by
   refine turnedNew (ch:=[e,it]) I (fun c o hcn q => ?_) hf (Nat.le_refl _) ⟨?_,[.int i tk,.str ⟨#[c']⟩ u'],.cons ⟨_,rfl⟩ (.cons ⟨_,rfl⟩ .nil),⟨_,new,rfl,_,rfl⟩⟩
   ·have n1:c≠e:=fun w => hcn (by simp [w])
    exact (b2.2 c n1).trans (a5 c o n1 (fun w => hcn (by simp [w])) q)
   ·show 2≤sizeLine; decide
  refine ⟨.ref s.heap.objs.size,_,I1,rfl,⟨_,c',rfl,hT,rfl,hx⟩,⟨hlt,⟨_,b1⟩,?_⟩,fun d hcm => ?_⟩
  ·(refine Classical.byContradiction fun k_ => ?_; obtain ⟨o,q,r⟩:=a2; refine k_ ?_; clear k_)
   exact ⟨o,(b2.2 it (Ne.symm hne)).trans q,r⟩
  have hcn:H d = none:=(hf d hcm).1
  have:d≠s.heap.objs.size:=by
   obtain ⟨o,q,_⟩:∃ o,s.heap.get? d = some o∧True:=by
    simp only [List.mem_cons,List.not_mem_nil,or_false] at hcm
    rcases hcm with rfl | rfl
    ·exact ⟨_,h1,trivial⟩
    ·obtain ⟨o,q,_⟩:=h4; exact ⟨o,q,trivial⟩
   exact (lt q).symm
  rw [upd_ne this]; exact hcn
 done:=by
  intro X hP hw hK hc i pins s σ H E I hf st hg
  subst hP hw hK
  (refine Classical.byContradiction fun k_ => ?_; obtain ⟨hi,⟨old,h1⟩,h4⟩:=st; refine k_ ?_; clear k_)
  have e0:i = x.cps.size:=Nat.le_antisymm hi hg
  subst e0
  refine wpAny_pyNext_enum_endD (Draws.strAscii (prog:=X.prog) (w:=X.w) (A:=X.A.in1) (I.ok.hd hc) it x t) h1 h4 fun h' k => ⟨rfl,?_⟩
  exact turnedL (t':=s.toks) (ch:=[e,it]) I (fun c o hcn q => k c o (fun w => hcn (by simp [w])) q) hf
 self:=fun A i s Q E st h => by
  obtain ⟨old,h1⟩:=st.2.1
  exact wpAny_pyIter_enum h1 h
section
variable {X:Cx} {tg:Expr}
theorem ascii_it {x:Str} (ha:x.cps.all (· < 128) = true):strIterType x = "str_ascii_iterator":=by unfold strIterType; rw [if_pos ha]
def jEnumZ (te:TA):L2.TI:=fun σ H R => te σ H fun vs H1 => ∃ z:Str,vs = [.str z]∧z.cps.all (· < 128) = true∧R (Itez z) H1
theorem pj_enumZ {a:Expr} {ta:TA} {p pos pt:Pos} {elts:List Expr} {kt:Nat} (hg:Gl X "enumerate") (hm:X.mg "enumerate" = none) (ha:PA X [a] ta) (hs:starEach [a] X.env = [(false,eval a X.env)]:=by rfl) :
  PI X (.Tuple elts kt pt) (.Call (.Name "enumerate" p) [a] [] pos) (jEnumZ ta):=by
 intro pins s σ H R I h
 refine Call_ (ld_blt I hg hm boot_enum (PyProof.Rows.callWith_type1 (thn (ha pos pins s σ H _ I h) fun us s1 ⟨vs,H1,I1,r1,z,e,hz,q⟩ => ?_) (by rw [hs]; rfl) (by rfl)))
 subst e
 (refine Classical.byContradiction fun k_ => ?_; obtain ⟨u,rfl,e1⟩:=vals1 r1; refine k_ ?_; clear k_)
 obtain ⟨t,rfl⟩:=e1
 refine call_enumerate_str fun h' he hit hsz hk => ?_
 rw [ascii_it hz] at hit
 refine wpAny_pyIter_enum (s:={ s1 with heap:=h' }) he ?_
 have I2:L2.Inv X pins σ H1 { s1 with heap:=h',toks:=s1.toks }:=I1.kept (t':=s1.toks) hk
 refine ⟨_,_,_,_,H1,rfl,I2,turn_enumZ (t:=t) _ _ (Nat.ne_of_gt (Nat.lt_succ_self _)),⟨Nat.zero_le _,⟨_,he⟩,hit⟩,fun b hb => ?_,q⟩
 simp only [List.mem_cons,List.not_mem_nil,or_false] at hb
 have hge:s1.heap.objs.size≤b:=by rcases hb with rfl | rfl <;> grind
 exact I1.fpOk (b:=b) (H':=H1) hge (I1.hok.fresh hge)
theorem itOk_enumZ {K:PySem.W.Frag} {H:Hp} {z:Str}:ItOk K H (zipD (rng 0 (lets z).length) (lets z)) (fun _ => True) (Itez z):=fun H3 H' _ hr _ => by
 have hz:(lets z).length = z.cps.size:=by unfold lets; rw [List.length_map,Array.length_toList]
 refine ⟨fun i hi => ?_,?_⟩
 ·rw [en_len,hz] at hi
  refine ⟨⟨z.cps[i],by simp [hi]⟩,fun v H'' y => ?_⟩
  (refine Classical.byContradiction fun k_ => ?_; obtain ⟨T,c,rfl,hT,rfl,hc⟩:=y; refine k_ ?_; clear k_)
  have hc2:(lets z)[i]? = some (.str ⟨#[c]⟩):=by unfold lets; rw [List.getElem?_map,Array.getElem?_toList,hc]; rfl
  refine ⟨TK.fresh hT,hr.tup hT,.tup [.int i,.str ⟨#[c]⟩],?_,.tup upd_same (.cons (.int i) (.cons (.str _) .nil))⟩
  unfold zipD
  rw [List.getElem?_zipWith,hc2,rng_get (by rw [hz]; exact hi)]
  simp only [Int.zero_add]
 ·rw [en_len,hz]; exact Nat.le_refl _
theorem i3_enumZ {a:Expr} {ta:TE3} {p pos pt:Pos} {elts:List Expr} {kt:Nat} (hm:X.mg "enumerate" = none) (ha:PE3 X a ta) (hg:Gl X "enumerate":=by rfl) (hs:starEach [a] X.env = [(false,eval a X.env)]:=by rfl)
  (hs1:starEach [a] X.env = (false,eval a X.env)::starEach [] X.env:=by rfl):PI3 X (.Tuple elts kt pt) (.Call (.Name "enumerate" p) [a] [] pos) (iez ta) :=
 pi_imp (pj_enumZ hg hm (a3_cons ha a3_nil hs1) hs) fun _ _ _ ⟨σ3,H3,R3,sr,hr,t,k⟩ => by
  refine ⟨σ3,H3,fun ds H1 => (match ds with | [x] => ezk x H1 R3 | _ => False),sr,hr,t,fun ds vs H3a Ha tka hra rs qa => ?_⟩
  cases rs with
  | nil => exact qa.elim
  | cons r1 r2 =>
   cases r2 with
   | cons _ _ => exact qa.elim
   | nil =>
    cases r1 with
    | str z => exact ⟨z,rfl,qa.1,k _ _ _ _ _ tka hra itOk_enumZ qa.2⟩
    | _ => exact qa.elim
end
end L3
namespace L3
open PySem PySem.Spec PyProof.Rows L2
def dng (hi:Int) (n:Nat):List D:=(List.range n).map fun (i:Nat) => D.int (hi - (i:Int))
def rgd (x y z:D) (H:Hp3) (R:List D→(Hp3→Prop)→Hp3→Prop):Prop:=∃ a b:Int,x = .int a∧y = .int b∧z = .int (-1)∧R (dng a (a - b).toNat) (fun _ => True) H
def ird (ta tb tc:TE3):TI3:=fun σ H R => ta σ H fun x H1 => tb σ H1 fun y H2 => tc σ H2 fun z H3 => rgd x y z H3 R
theorem g_ird {ta tb tc:TE3} {σ:St3} {H:Hp3} {R:List D→(Hp3→Prop)→Hp3→Prop} (h:ta σ H fun x H1 => tb σ H1 fun y H2 => tc σ H2 fun z H3 => rgd x y z H3 R):ird ta tb tc σ H R:=h
theorem g_rgd {a b:Int} {H:Hp3} {R:List D→(Hp3→Prop)→Hp3→Prop} (q:R (dng a (a - b).toNat) (fun _ => True) H):rgd (.int a) (.int b) (.int (-1)) H R:=⟨a,b,rfl,rfl,rfl,q⟩
def erk (x:D) (H:Hp3) (R:List D→(Hp3→Prop)→Hp3→Prop):Prop:=∃ a ds,x = .ref a∧H a = some (.lst ds)∧R (zipD (rng 0 ds.reverse.length) ds.reverse) (fun H' => H' a = some (.lst ds)) H
def ier (te:TE3):TI3:=fun σ H R => te σ H fun x H1 => erk x H1 R
theorem g_ier {te:TE3} {σ:St3} {H:Hp3} {R:List D→(Hp3→Prop)→Hp3→Prop} (h:te σ H fun x H1 => erk x H1 R):ier te σ H R:=h
theorem g_erk {H:Hp3} {a:Addr} {ds:List D} {R:List D→(Hp3→Prop)→Hp3→Prop} (h:H a = some (.lst ds)) (q:R (zipD (rng 0 ds.reverse.length) ds.reverse) (fun H' => H' a = some (.lst ds)) H):erk (.ref a) H R:=⟨a,ds,rfl,h,q⟩
end L3
namespace L3
open PySem PySem.Spec PyProof.Rows L2
section
variable {X:Cx} {tg:Expr}
end
end L3
namespace L3
open PySem PySem.Spec PyProof.Rows L2
section
variable {prog:Program} {w:World} {A:Around} {E:Value→Shared→Prop} {s:Shared}
end
end L3
namespace L3
open PySem PySem.Spec PyProof.Rows L2
section
variable {X:Cx} {tg:Expr}
end
end L3
namespace L3
open PySem L2
def chk (r':R3) (tc:TE3) (σ:St3) (y z:D) (H:Hp3) (Q:VK3):Prop:=match z with
 | .bl k => if k = true then tc σ H fun w H4 => r' y w H4 Q else Q (.bl false) H
 | _ => False
def ch3 (r r':R3) (ta tb tc:TE3):TE3:=fun σ H Q => ta σ H fun x H1 => tb σ H1 fun y H2 => r x y H2 fun z H3 => chk r' tc σ y z H3 Q
theorem g_ch3 {r r':R3} {ta tb tc:TE3} {σ:St3} {H:Hp3} {Q:VK3} (h:ta σ H fun x H1 => tb σ H1 fun y H2 => r x y H2 fun z H3 => chk r' tc σ y z H3 Q):ch3 r r' ta tb tc σ H Q:=h
theorem g_chk {r':R3} {tc:TE3} {σ:St3} {y:D} {k:Bool} {H:Hp3} {Q:VK3} (h:if k = true then tc σ H fun w H4 => r' y w H4 Q else Q (.bl false) H):chk r' tc σ y (.bl k) H Q:=h
end L3
namespace L3
open PySem PySem.Spec PyProof.Rows L2
section
variable {X:Cx} {a b c:Expr} {ta tb tc:TE3} {pos:Pos}
theorem lift_ch {K:PySem.W.Frag} {r r':R3} {σ:St} {H:Hp} {Q:VK} (h:liftE K (ch3 r r' ta tb tc) σ H Q):tChain (lift2 K r) (lift2 K r') (liftE K ta) (liftE K tb) (liftE K tc) σ H Q:=by
 (refine Classical.byContradiction fun k_ => ?_; obtain ⟨σ3,H3,Q3,sr,hr,t,k⟩:=h; refine k_ ?_; clear k_)
 refine ⟨σ3,H3,_,sr,hr,t,fun x v H3a Ha tka hra rx qa => ⟨σ3,H3a,_,sr.mono tka,hra,qa,fun y u H3b Hb tkb hrb ry qb =>
  ⟨x,y,H3b,fun z H4 => chk r' tc σ3 y z H4 Q3,hrb,rx.mono tkb,ry,qb,fun z w H3c Hc tkc hrc rz qc => ?_⟩⟩⟩
 have tk:=tka.trans (tkb.trans tkc)
 cases rz with
 | bl d =>
  refine ⟨d,rfl,?_⟩
  cases d with
  | false => rw [if_neg Bool.false_ne_true]; exact k _ _ _ _ tk hrc (.bl false) qc
  | true =>
   rw [if_pos rfl]
   exact ⟨σ3,H3c,_,sr.mono tk,hrc,qc,fun w' v' H3d Hd tkd hrd rw' qd => ⟨y,w',H3d,Q3,hrd,ry.mono (tkc.trans tkd),rw',qd,k.mono (tk.trans tkd)⟩⟩
 | _ => exact qc.elim
theorem p3_tchain {op op':CmpOp} {r r':R3} (ho:OpR X (compareOp op) (lift2 X.K r)) (ho':OpR X (compareOp op') (lift2 X.K r')) (ha:PE3 X a ta) (hb:PE3 X b tb) (hc:PE3 X c tc)
  (hm:lastMarks [op,op'] [b,c] = false:=by with_unfolding_all rfl):PT3 X (.Compare a [op,op'] [b,c] pos) (ts3 (ch3 r r' ta tb tc)) :=
 pt_imp (pt_chain ho ho' ha hb hc hm) fun _ _ _ zz => ex3 zz fun σ3 H3 Q3 sr hr t k => lift_ch ⟨σ3,H3,_,sr,hr,t,ke_test k⟩
end
end L3
namespace L3
open PySem L2
def ung (lo:Int) (n:Nat):List D:=(List.range n).map fun (i:Nat) => D.int (lo + 2 * (i:Int))
theorem ung_len (lo:Int) (n:Nat):(ung lo n).length = n:=by simp [ung]
theorem ung_get {lo:Int} {n i:Nat} (h:i < n):(ung lo n)[i]? = some (.int (lo + 2 * i)):=by simp [ung,h]
def rgu (x y z:D) (H:Hp3) (R:List D→(Hp3→Prop)→Hp3→Prop):Prop:=∃ a b:Int,x = .int a∧y = .int b∧z = .int 2∧R (ung a ((b - a + 1) / 2).toNat) (fun _ => True) H
def iru (ta tb tc:TE3):TI3:=fun σ H R => ta σ H fun x H1 => tb σ H1 fun y H2 => tc σ H2 fun z H3 => rgu x y z H3 R
theorem g_iru {ta tb tc:TE3} {σ:St3} {H:Hp3} {R:List D→(Hp3→Prop)→Hp3→Prop} (h:ta σ H fun x H1 => tb σ H1 fun y H2 => tc σ H2 fun z H3 => rgu x y z H3 R):iru ta tb tc σ H R:=h
theorem g_rgu {a b:Int} {H:Hp3} {R:List D→(Hp3→Prop)→Hp3→Prop} (q:R (ung a ((b - a + 1) / 2).toNat) (fun _ => True) H):rgu (.int a) (.int b) (.int 2) H R:=⟨a,b,rfl,rfl,rfl,q⟩
end L3
namespace L3
open PySem PySem.Spec PyProof.Rows L2
def Itu (hi:Int) (n:Nat):It:=⟨fun i _ => i < n,fun i H x H' => H' = H∧x = .int (hi + 2 * i),fun i _ => n≤i⟩
theorem turn_ulong {P:Program} {w:World} {K:PySem.W.Frag} {tg:Expr} (it:Addr) (hi:Int) (n:Nat):Turn P w K tg (Itu hi n) [it] it (fun i h => IsLongIter h it (hi + 2 * (i:Nat)) ((n:Int) - (i:Nat)) 2) where
 mem:=List.mem_singleton.mpr rfl
 obj:=fun i h st b hb => by
  rw [List.mem_singleton.mp hb]
  exact ⟨_,st,fun v z => by have z':Data.fields _ = Data.cell v:=z; cases z'⟩
 keep:=fun i h h' st k => k it (List.mem_singleton.mpr rfl) _ st
 item:=by
  intro X hP hw hK hc i pins s σ H E I hf st hg
  subst hP hw hK
  (refine Classical.byContradiction fun k_ => ?_; obtain ⟨f0,f1,f2,f3,f4,f5⟩:=hf it (List.mem_singleton.mpr rfl); refine k_ ?_; clear k_)
  have hlt:i < n:=hg
  refine wpAny_pyNext_long_item st (by grind) fun h' st' sb => ?_
  have I1:L2.Inv X pins σ H { s with heap:=h',toks:=s.toks + 1 }:=I.turned (fun b o hb e => (sb.2 b hb).trans e) f0 f1 f3 f4 f5
  have st2:IsLongIter h' it (hi + 2 * ((i + 1:Nat):Int)) ((n:Int) - ((i + 1:Nat):Int)) 2:=by
   have e1:hi + 2 * (i:Int) + 2 = hi + 2 * ((i + 1:Nat):Int):=by omega
   have e2:(n:Int) - (i:Int) - 1 = (n:Int) - ((i + 1:Nat):Int):=by grind
   rw [← e1,← e2]; exact st'
  exact ⟨_,rfl,go_of (s:={ s with heap:=h',toks:=s.toks + 1 }) (n := "longrange_iterator") st2 rfl rfl (by decide) ⟨.int (hi + 2 * i),H,I1,⟨s.toks,rfl⟩,⟨rfl,rfl⟩,st2,fun b hb => (hf b hb).1⟩⟩
 done:=by
  intro X hP hw hK hc i pins s σ H E I hf st hg
  subst hP hw hK
  (refine Classical.byContradiction fun k_ => ?_; obtain ⟨f0,f1,f2,f3,f4,f5⟩:=hf it (List.mem_singleton.mpr rfl); refine k_ ?_; clear k_)
  have hle:n≤i:=hg
  exact wpAny_pyNext_long_end (I.ok.hd hc) st (by grind) fun h' eb => ⟨rfl,I.turned (t':=s.toks) (fun b o hb e => eb b o hb e) f0 f1 f3 f4 f5⟩
 self:=fun _ _ _ _ _ st h => wpAny_pyIter_longiter st h
theorem turn_urange {P:Program} {w:World} {K:PySem.W.Frag} {tg:Expr} (it:Addr) (hi:Int) (n:Nat):Turn P w K tg (Itu hi n) [it] it (fun i h => IsRangeIter h it (hi + 2 * (i:Nat)) ((n:Int) - (i:Nat)) 2) where
 mem:=List.mem_singleton.mpr rfl
 obj:=fun i h st b hb => by
  rw [List.mem_singleton.mp hb]
  exact ⟨_,st,fun v z => by have z':Data.fields _ = Data.cell v:=z; cases z'⟩
 keep:=fun i h h' st k => k it (List.mem_singleton.mpr rfl) _ st
 item:=by
  intro X hP hw hK hc i pins s σ H E I hf st hg
  subst hP hw hK
  (refine Classical.byContradiction fun k_ => ?_; obtain ⟨f0,f1,f2,f3,f4,f5⟩:=hf it (List.mem_singleton.mpr rfl); refine k_ ?_; clear k_)
  have hlt:i < n:=hg
  refine wpAny_pyNext_range_item st (by grind) fun h' st' sb => ?_
  have I1:L2.Inv X pins σ H { s with heap:=h',toks:=s.toks + 1 }:=I.turned (fun b o hb e => (sb.2 b hb).trans e) f0 f1 f3 f4 f5
  have st2:IsRangeIter h' it (hi + 2 * ((i + 1:Nat):Int)) ((n:Int) - ((i + 1:Nat):Int)) 2:=by
   have e1:hi + 2 * (i:Int) + 2 = hi + 2 * ((i + 1:Nat):Int):=by omega
   have e2:(n:Int) - (i:Int) - 1 = (n:Int) - ((i + 1:Nat):Int):=by grind
   rw [← e1,← e2]; exact st'
  exact ⟨_,rfl,go_of (s:={ s with heap:=h',toks:=s.toks + 1 }) (n := "range_iterator") st2 rfl rfl (by decide) ⟨.int (hi + 2 * i),H,I1,⟨s.toks,rfl⟩,⟨rfl,rfl⟩,st2,fun b hb => (hf b hb).1⟩⟩
 done:=by
  intro X hP hw hK hc i pins s σ H E I hf st hg
  subst hP hw hK
  (refine Classical.byContradiction fun k_ => ?_; obtain ⟨f0,f1,f2,f3,f4,f5⟩:=hf it (List.mem_singleton.mpr rfl); refine k_ ?_; clear k_)
  have hle:n≤i:=hg
  exact wpAny_pyNext_range_end (I.ok.hd hc) st (by grind) fun h' eb => ⟨rfl,I.turned (t':=s.toks) (fun b o hb e => eb b o hb e) f0 f1 f3 f4 f5⟩
 self:=fun _ _ _ _ _ st h => wpAny_pyIter_rangeiter st h
theorem up_size (a b:Int):Builtin.Range.rangeSize a b 2 = (((b - a + 1) / 2).toNat:Int):=by
 delta Builtin.Range.rangeSize
 rw [if_pos (by decide)]
 split <;> omega
section
variable {X:Cx} {tg:Expr}
theorem urange_any {pins:List (Addr×Obj)} {σ:St} {H:Hp} {s:Shared} {R:It→Hp→Prop} {E:Value→Shared→Prop} {hi lo:Int} {t u v:Tok} {tk:Nat} (I:L2.Inv X pins σ H s) (q:R (Itu hi ((lo - hi + 1) / 2).toNat) H) :
  wpAny (model X.prog X.w) X.A (pyIter (.ref s.heap.objs.size)) (PIE X pins σ tg R) E { s with heap:=s.heap.push { cls:=.type "range",data:=.fields #[.int hi t,.int lo u,.int 2 v] },toks:=tk }:=by
 have I1:L2.Inv X pins σ H { s with heap:=s.heap.push { cls:=.type "range",data:=.fields #[.int hi t,.int lo u,.int 2 v] },toks:=tk }:=I.kept fun b o e => Heap.get?_push_of_some _ e
 have e2:((((lo - hi + 1) / 2).toNat:Nat):Int) - ((0:Nat):Int) = Builtin.Range.rangeSize hi lo 2:=by rw [up_size]; exact Int.sub_zero _
 have e1:hi + 2 * ((0:Nat):Int) = hi:=by omega
 have hf:∀ b∈[(s.heap.push { cls:=.type "range",data:=.fields #[.int hi t,.int lo u,.int 2 v] }).objs.size],FpOk X pins H b:=fun b hb => by
  rw [List.mem_singleton.mp hb]
  exact I1.fpOk (Nat.le_refl _) (I1.hok.fresh (Nat.le_refl _))
 cases hs:Builtin.Range.small hi lo 2 with
 | true =>
  refine wpAny_pyIter_range (IsRange.new ..) hs ⟨_,_,_,_,H,rfl,I1.kept (t':=tk) fun b o e => Heap.get?_push_of_some _ e,turn_urange _ hi ((lo - hi + 1) / 2).toNat,?_,hf,q⟩
  show IsRangeIter _ _ (hi + 2 * ((0:Nat):Int)) (((((lo - hi + 1) / 2).toNat:Nat):Int) - ((0:Nat):Int)) 2
  rw [e1,e2]
  exact Heap.get?_push_size _ rfl
 | false =>
  refine wpAny_pyIter_longrange (IsRange.new ..) hs ⟨_,_,_,_,H,rfl,I1.kept (t':=tk) fun b o e => Heap.get?_push_of_some _ e,turn_ulong _ hi ((lo - hi + 1) / 2).toNat,?_,hf,q⟩
  show IsLongIter _ _ (hi + 2 * ((0:Nat):Int)) (((((lo - hi + 1) / 2).toNat:Nat):Int) - ((0:Nat):Int)) 2
  rw [e1,e2]
  exact Heap.get?_push_size _ rfl
def jRngu (ta:TA):L2.TI:=fun σ H R => ta σ H fun vs H1 => ∃ i j:Int,vs = [.int i,.int j,.int 2]∧R (Itu i ((j - i + 1) / 2).toNat) H1
theorem pj_rangeu {a b c:Expr} {ta:TA} {p pos:Pos} (hg:Gl X "range") (hm:X.mg "range" = none) (ha:PA X [a,b,c] ta) (hs:starEach [a,b,c] X.env = (false,eval a X.env)::starEach [b,c] X.env:=by rfl)
  (hs2:starEach [b,c] X.env = (false,eval b X.env)::starEach [c] X.env:=by rfl) (hs3:starEach [c] X.env = (false,eval c X.env)::starEach [] X.env:=by rfl):PI X tg (.Call (.Name "range" p) [a,b,c] [] pos) (jRngu ta):=by
 intro pins s σ H R I h
 refine Call_ (ld_blt I hg hm boot_range (PyProof.Rows.callWith_type1 (thn (ha pos pins s σ H _ I h) fun us s1 zz => ?_) hs (by rw [hs2,hs3]; rfl)))
 (refine Classical.byContradiction fun k_ => ?_; obtain ⟨vs,H1,I1,r1,i,j,e,q⟩:=zz; refine k_ ?_; clear k_)
 subst e
 obtain ⟨u,us1,rfl,⟨t,rfl⟩,r2⟩:∃ u us1,us = u::us1∧RelV (.int i) u∧Vals [.int j,.int 2] us1:=by
  cases r1 with
  | cons r1 r2 => exact ⟨_,_,rfl,r1,r2⟩
 (refine Classical.byContradiction fun k_ => ?_; obtain ⟨u2,u3,rfl,⟨t2,rfl⟩,⟨t3,rfl⟩⟩:=vals2 r2; refine k_ ?_; clear k_)
 exact call_range_3 (by decide) (urange_any I1 q) (Or.inl (PyProof.noPylong_small (by decide)))
theorem itOk_ung {K:PySem.W.Frag} {H:Hp} {hi:Int} {n:Nat}:ItOk K H (ung hi n) (fun _ => True) (Itu hi n):=fun H3 H' tk hr _ => by
 refine ⟨fun i hi => ?_,?_⟩
 ·rw [ung_len] at hi
  refine ⟨hi,fun x H'' y => ?_⟩
  obtain ⟨e,y⟩:=y
  subst y
  subst e
  exact ⟨TK.refl,hr,_,ung_get hi,.int _⟩
 ·rw [ung_len]; exact Nat.le_refl _
theorem i3_rngu {a b c:Expr} {ta tb tc:TE3} {p pos:Pos} (hm:X.mg "range" = none) (ha:PE3 X a ta) (hb:PE3 X b tb) (hc:PE3 X c tc) (hg:Gl X "range":=by rfl)
  (hs1:starEach [a,b,c] X.env = (false,eval a X.env)::starEach [b,c] X.env:=by rfl) (hs2:starEach [b,c] X.env = (false,eval b X.env)::starEach [c] X.env:=by rfl) (hs3:starEach [c] X.env = (false,eval c X.env)::starEach [] X.env:=by rfl) :
  PI3 X tg (.Call (.Name "range" p) [a,b,c] [] pos) (iru ta tb tc) :=
 pi_imp (pj_rangeu hg hm (a3_cons ha (a3_cons hb (a3_cons hc a3_nil hs3) hs2) hs1) hs1 hs2 hs3) fun _ _ _ ⟨σ3,H3,R3,sr,hr,t,k⟩ => by
  refine ⟨σ3,H3,fun ds H1 => (match ds with | [x,y,z] => rgu x y z H1 R3 | _ => False),sr,hr,t,fun ds vs H3a Ha tka hra rs qa => ?_⟩
  cases rs with
  | nil => exact qa.elim
  | cons r1 rs => cases rs with
   | nil => exact qa.elim
   | cons r2 rs => cases rs with
    | nil => exact qa.elim
    | cons r3 rs => cases rs with
     | cons _ _ => exact qa.elim
     | nil =>
      (refine Classical.byContradiction fun k_ => ?_; obtain ⟨i,j,rfl,rfl,rfl,q⟩:=qa; refine k_ ?_; clear k_)
      cases r1; cases r2; cases r3
      exact ⟨i,j,rfl,k _ _ _ _ _ tka hra itOk_ung q⟩
end
end L3
namespace L3
open PySem PySem.Spec PyProof.Rows L2
section
variable {X:Cx} {pins:List (Addr×Obj)} {σ:St} {H:Hp} {s:Shared} {a:Addr} {kvs:List (Key×V)} {k:Key} {u:Value} {A:Around} {E:Value→Shared→Prop}
theorem d_setdef {v:V} {r:Value} {Q:Value→Shared→Prop} (I:L2.Inv X pins σ H s) (e:H a = some (.dK kvs)) (ry:RelV (kV k) u) (rv:RelV v r) (hl:kvs.length < sizeLine)
  (h1:∀ y,valV kvs k = some y→∀ w' s',L2.Inv X pins σ H s'→RelV y w'→Q w' s') (h2:valV kvs k = none→∀ s',L2.Inv X pins σ (upd H a (.dK (putK kvs k v))) s'→Q r s') :
  wpAny (model X.prog X.w) A (call (.builtin "dict.setdefault") [.ref a,u,r]) Q E s:=by
 (refine Classical.byContradiction fun k_ => ?_; obtain ⟨z,hd,vs,rel,dd⟩:=dk_of I.hok e; refine k_ ?_; clear k_)
 have hz:vs.length≤sizeLine:=by rw [← rel.length]; exact z
 refine call_meetsIn PySem.F.slot_dict_setdefault dd.typeIs PySem.F.entry_dict_setdefault (PySem.F.args_dict_setdefault_3 _ _ _) (kt_meets_setdefault (mixKind X.prog X.w) a (kV_is ry) hd r) ⟨vs,dd,hz,fun w' hw => ?_,fun hn h' dd' hs => ?_⟩
 ·cases e2:valV kvs k with
  | none =>
   have:=RelO.none_of (o:=valueAt vs k) (by rw [← e2]; exact rel.val k)
   rw [this] at hw; cases hw
  | some y =>
   (refine Classical.byContradiction fun k_ => ?_; obtain ⟨w2,hw2,rw2⟩:=RelO.some_of (v:=y) (o:=valueAt vs k) (by rw [← e2]; exact rel.val k); refine k_ ?_; clear k_)
   rw [hw] at hw2
   cases hw2
   exact h1 y e2 w' _ (I.tok _) rw2
 ·have e2:valV kvs k = none:=by
   cases e3:valV kvs k with
   | none => rfl
   | some y =>
    (refine Classical.byContradiction fun k_ => ?_; obtain ⟨w2,hw2,_⟩:=RelO.some_of (v:=y) (o:=valueAt vs k) (by rw [← e3]; exact rel.val k); refine k_ ?_; clear k_)
    rw [hn] at hw2; cases hw2
  have hlen:(putK kvs k v).length≤sizeLine:=by have:=length_putK kvs k v; omega
  have he:∃ q,h'.get? a = some q:=let ⟨q,_,_,hq,_⟩:=dd'; ⟨q,hq⟩
  exact h2 e2 _ (d_write I (by rw [e]; exact True.intro) hs he (dk_new hlen hd (rel.put k rv) dd'))
end
def tDSet (td ty tx:TE):TE:=fun σ H Q => td σ H fun x H1 => ∃ a,x = .ref a∧IsD H1 a∧ty σ H1 fun y H2 => tx σ H2 fun z H3 => ∃ kvs k,H3 a = some (.dK kvs)∧y = kV k∧kvs.length < sizeLine ∧
 (∀ v,valV kvs k = some v→Q v H3)∧(valV kvs k = none→Q z (upd H3 a (.dK (putK kvs k z))))
section
variable {X:Cx} {o e f:Expr} {apos cpos:Pos} {td ty tx:TE}
theorem pe_dsetd (ho:PE X o td) (he:PE X e ty) (hf:PE X f tx) (m:M2 X o "setdefault" apos e f cpos):PE X (.Call (.Attribute o "setdefault" apos) [e,f] [] cpos) (tDSet td ty tx):=by
 intro pins s σ H Q I h
 refine wpAny_Call_method m.base m.few m.line PySem.F.plainAttrs_dict PySem.F.slot_dict_setdefault PySem.F.type_dict_setdefault (thn (ho pins s σ H _ I h) fun u s1 zz => ?_)
 (refine Classical.byContradiction fun k_ => ?_; obtain ⟨x,H1,I1,rx,a,ex,d,q1⟩:=zz; refine k_ ?_; clear k_)
 subst ex
 have eu:u = Value.ref a:=rx
 subst eu
 have hD:=isD_at I1 d
 refine ⟨hD.1,hD.2.1,?_⟩
 rw [m.trees]
 refine Calls.callWith_builtin rfl (Calls.evalArgs_plain (Calls.spliced_cons (thn (he pins s1 σ H1 _ I1 q1) fun iv s2 z2 => ?_)))
 (refine Classical.byContradiction fun k_ => ?_; obtain ⟨y,H2,I2,ry,q2⟩:=z2; refine k_ ?_; clear k_)
 refine Calls.spliced_cons (thn (hf pins s2 σ H2 _ I2 q2) fun fv s3 z3 => Calls.spliced_nil ?_)
 (refine Classical.byContradiction fun k_ => ?_; obtain ⟨z,H3,I3,rz,kvs,k,ea,ey,hl,q3,q4⟩:=z3; refine k_ ?_; clear k_)
 subst ey
 exact d_setdef I3 ea ry rz hl (fun v l w' s4 I4 rw' => ⟨v,H3,I4,rw',q3 v l⟩) fun l s4 I4 => ⟨z,_,I4,rz,q4 l⟩
end
end L3
namespace L3
open PySem L2
abbrev TabI:=List (Key×D)
def lookI (kvs:TabI) (k:Key):Option D:=(kvs.find? fun kv => decide (kv.1 = k)).map (·.2)
def putI (kvs:TabI) (k:Key) (d:D):TabI:=if (kvs.any fun kv => decide (kv.1 = k)) = true then kvs.map (fun kv => if kv.1 = k then (kv.1,d) else kv) else kvs++[(k,d)]
def dnI:TE3:=fun _ H Q => ∀ p,H p = none→Q (.ref p) (upd3 H p (.dik []))
theorem g_dnI {σ:St3} {H:Hp3} {Q:VK3} (h:∀ p,H p = none→Q (.ref p) (upd3 H p (.dik []))):dnI σ H Q:=h
def sdk2 (a:Addr) (y z:D) (H:Hp3) (Q:VK3):Prop:=∃ i kvs,y = .int i∧H a = some (.dik kvs)∧kvs.length < 1000∧(∀ d,lookI kvs (.inl i) = some d→Q d H)∧(lookI kvs (.inl i) = none→Q z (upd3 H a (.dik (putI kvs (.inl i) z))))
def sdk (ty tx:TE3) (σ:St3) (x:D) (H1:Hp3) (Q:VK3):Prop:=∃ a kvs,x = .ref a∧H1 a = some (.dik kvs)∧ty σ H1 fun y H2 => tx σ H2 fun z H3 => sdk2 a y z H3 Q
def sd3 (td ty tx:TE3):TE3:=fun σ H Q => td σ H fun x H1 => sdk ty tx σ x H1 Q
theorem g_sd3 {td ty tx:TE3} {σ:St3} {H:Hp3} {Q:VK3} (h:td σ H fun x H1 => sdk ty tx σ x H1 Q):sd3 td ty tx σ H Q:=h
theorem g_sdk {ty tx:TE3} {σ:St3} {a:Addr} {kvs:TabI} {H:Hp3} {Q:VK3} (e:H a = some (.dik kvs)) (h:ty σ H fun y H2 => tx σ H2 fun z H3 => sdk2 a y z H3 Q):sdk ty tx σ (.ref a) H Q:=⟨a,kvs,rfl,e,h⟩
theorem g_sd2 {a:Addr} {i:Int} {z:D} {kvs:TabI} {H:Hp3} {Q:VK3} (e:H a = some (.dik kvs)) (hl:kvs.length < 1000) (h1:∀ d,lookI kvs (.inl i) = some d→Q d H) (h2:lookI kvs (.inl i) = none→Q z (upd3 H a (.dik (putI kvs (.inl i) z)))):sdk2 a (.int i) z H Q:=⟨i,kvs,rfl,e,hl,h1,h2⟩
end L3
namespace L3
open PySem PySem.Spec PyProof.Rows L2
theorem TK.dK {H:Hp} {p:Addr} {o:HO} {xs:List (Key×V)} (n:H p = some (.dK xs)):TK H (upd H p o) :=
 ⟨fun a ys h => by rw [upd_ne (ne_of h n (by intro z; cases z))]; exact h,fun a o' u h => by rw [upd_ne (ne_of h n (by intro z; cases z))]; exact h⟩
abbrev TI' (K:PySem.W.Frag) (H:Hp):TabI→List (Key×V)→Prop:=Paired (fun (p:Key×D) (q:Key×V) => p.1 = q.1∧Rep K H p.2 q.2)
section
variable {K:PySem.W.Frag} {H:Hp} {k:Key}
theorem TI'.look:∀ {kvs:TabI} {ks:List (Key×V)},TI' K H kvs ks→(valV ks k).isSome = (lookI kvs k).isSome∧∀ d,lookI kvs k = some d→∃ v,valV ks k = some v∧Rep K H d v
 | _,_,.nil => ⟨rfl,fun _ h => nomatch h⟩
 | _,_,.cons (a:=p) (b:=q) r t => by
  have ih:=TI'.look t
  by_cases e:p.1 = k
  ·have e':q.1 = k:=r.1.symm.trans e
   have l1:∀ rest:TabI,lookI (p::rest) k = some p.2:=fun rest => by unfold lookI; rw [List.find?_cons_of_pos (by simpa using e)]; rfl
   rw [valV_pos e',l1]
   exact ⟨rfl,fun d h => ⟨_,rfl,by cases h; exact r.2⟩⟩
  ·have e':¬ q.1 = k:=fun z => e (r.1.trans z)
   have l1:∀ rest:TabI,lookI (p::rest) k = lookI rest k:=fun rest => by unfold lookI; rw [List.find?_cons_of_neg (by simpa using e)]
   rw [valV_neg e',l1]
   exact ih
theorem TI'.any:∀ {kvs:TabI} {ks:List (Key×V)},TI' K H kvs ks→(kvs.any fun kv => decide (kv.1 = k)) = ks.any fun kv => decide (kv.1 = k)
 | _,_,.nil => rfl
 | _,_,.cons r t => by rw [List.any_cons,List.any_cons,TI'.any t,r.1]
theorem TI'.repl {d:D} {v:V} (rd:Rep K H d v):∀ {kvs:TabI} {ks:List (Key×V)},TI' K H kvs ks→TI' K H (kvs.map fun kv => if kv.1 = k then (kv.1,d) else kv) (ks.map fun kv => if kv.1 = k then (kv.1,v) else kv)
 | _,_,.nil => .nil
 | _,_,.cons (a:=p) (b:=q) r t => by
  refine .cons ?_ (TI'.repl rd t)
  dsimp only
  by_cases e:p.1 = k
  ·rw [if_pos e,if_pos (r.1.symm.trans e)]; exact ⟨r.1,rd⟩
  ·rw [if_neg e,if_neg (fun z => e (r.1.trans z))]; exact r
theorem TI'.put {d:D} {v:V} {kvs:TabI} {ks:List (Key×V)} (r:TI' K H kvs ks) (rd:Rep K H d v):TI' K H (putI kvs k d) (putK ks k v):=by
 unfold putI putK
 rw [← TI'.any r]
 split
 ·exact TI'.repl rd r
 ·exact Paired.snoc r ⟨rfl,rd⟩
theorem TI'.mono {H':Hp} (t:TK H H') {kvs:TabI} {ks:List (Key×V)} (r:TI' K H kvs ks):TI' K H' kvs ks:=Paired.mapP r fun _ _ z => ⟨z.1,z.2.mono t⟩
theorem HR.setI {H3:Hp3} (h:HR K H3 H) {p:Addr} {ks:List (Key×V)} {kvs:TabI} (t:TK H (upd H p (.dK ks))) (r:TI' K (upd H p (.dK ks)) kvs ks):HR K (upd3 H3 p (.dik kvs)) (upd H p (.dK ks)):=h.set (o3:=.dik kvs) t ⟨ks,upd_same,r⟩
end
section
variable {X:Cx}
theorem p3_dnI {pos:Pos}:PE3 X (.Dict [] [] pos) dnI:=pe_imp pe_dnewK fun _ _ _ ⟨_,_,_,_,hr,t,k⟩ => fun p n => k _ _ _ _ (TK.fresh n) (hr.setI (TK.fresh n) .nil) (.ref p) (t p (hr.fresh n))
theorem p3_setd {o e f:Expr} {td ty tx:TE3} {apos cpos:Pos} (ho:PE3 X o td) (he:PE3 X e ty) (hf:PE3 X f tx) (m:M2 X o "setdefault" apos e f cpos):PE3 X (.Call (.Attribute o "setdefault" apos) [e,f] [] cpos) (sd3 td ty tx) :=
 pe_imp (pe_dsetd ho he hf m) fun _ _ _ zz => ex3 zz fun σ3 H3 Q3 sr hr t k => ⟨σ3,H3,_,sr,hr,t,fun x v H3a Ha tka hra rx qa => by
  (refine Classical.byContradiction fun k_ => ?_; obtain ⟨a,kvs0,rfl,e0,qa⟩:=qa; refine k_ ?_; clear k_)
  cases rx
  (refine Classical.byContradiction fun k_ => ?_; obtain ⟨ks0,g0,r0⟩:=hra a _ e0; refine k_ ?_; clear k_)
  refine ⟨a,rfl,.inl ⟨ks0,.inl g0⟩,σ3,H3a,_,sr.mono tka,hra,qa,fun y u H3b Hb tkb hrb ry qb => ⟨σ3,H3b,_,(sr.mono tka).mono tkb,hrb,qb,fun z w H3c Hc tkc hrc rz qc => ?_⟩⟩
  (refine Classical.byContradiction fun k_ => ?_; obtain ⟨i,kvs,rfl,ec,hl,q1,q2⟩:=qc; refine k_ ?_; clear k_)
  cases ry
  (refine Classical.byContradiction fun k_ => ?_; obtain ⟨ks,gd,rd⟩:=hrc a _ ec; refine k_ ?_; clear k_)
  have tk:=tka.trans (tkb.trans tkc)
  have lk:=TI'.look (k:=.inl i) rd
  refine ⟨ks,.inl i,gd,rfl,by rw [← Paired.length rd]; exact small1000 (Nat.le_of_lt hl),fun v' hv => ?_,fun hn => ?_⟩
  ·cases e2:lookI kvs (.inl i) with
   | none => have:=lk.1; rw [hv,e2] at this; cases this
   | some d =>
    (refine Classical.byContradiction fun k_ => ?_; obtain ⟨v2,hv2,rep⟩:=lk.2 d e2; refine k_ ?_; clear k_)
    rw [hv] at hv2
    cases hv2
    exact k _ _ _ _ tk hrc rep (q1 d e2)
  ·have e2:lookI kvs (.inl i) = none:=by
    cases e3:lookI kvs (.inl i) with
    | none => rfl
    | some d => have:=lk.1; rw [hn,e3] at this; cases this
   have tt:=TK.dK (o:=.dK (putK ks (.inl i) w)) gd
   exact k _ _ _ _ (tk.trans tt) (hrc.setI tt (TI'.put (TI'.mono tt rd) (rz.mono tt))) (rz.mono tt) (q2 e2)⟩
end
end L3
namespace L3
open PySem L2
def gik (x y:D) (H:Hp3) (Q:VK3):Prop:=∃ a i kvs d,x = .ref a∧y = .int i∧H a = some (.dik kvs)∧lookI kvs (.inl i) = some d∧Q d H
def gi3 (ta tb:TE3):TE3:=fun σ H Q => ta σ H fun x H1 => tb σ H1 fun y H2 => gik x y H2 Q
theorem g_gi3 {ta tb:TE3} {σ:St3} {H:Hp3} {Q:VK3} (h:ta σ H fun x H1 => tb σ H1 fun y H2 => gik x y H2 Q):gi3 ta tb σ H Q:=h
theorem g_gik {a:Addr} {i:Int} {kvs:TabI} {d:D} {H:Hp3} {Q:VK3} (e:H a = some (.dik kvs)) (l:lookI kvs (.inl i) = some d) (q:Q d H):gik (.ref a) (.int i) H Q:=⟨a,i,kvs,d,rfl,rfl,e,l,q⟩
end L3
namespace L3
open PySem PySem.Spec PyProof.Rows L2
section
variable {X:Cx} {o i:Expr} {ta tb:TE3} {pos:Pos}
theorem p3_dgetI (hu:X.A.units + 64 < cLine) (ho:PE3 X o ta) (hi:PE3 X i tb) (hs:NoSl i:=by exact fun _ _ => rfl):PE3 X (.Subscript o i pos) (gi3 ta tb) :=
 pe_imp (pe_dget (Nat.lt_of_le_of_lt (Nat.add_le_add_left (by decide:1≤64) _) hu) ho hi hs) fun _ _ _ zz => ex3 zz fun σ3 H3 Q3 sr hr t k => ⟨σ3,H3,_,sr,hr,t,fun x v H3a Ha tka hra rx qa => ⟨σ3,H3a,_,sr.mono tka,hra,qa,fun y u H3b Hb tkb hrb ry qb => by
  (refine Classical.byContradiction fun k_ => ?_; obtain ⟨a,n,kvs,d,rfl,rfl,e,l,q⟩:=qb; refine k_ ?_; clear k_)
  cases rx
  cases ry
  (refine Classical.byContradiction fun k_ => ?_; obtain ⟨vs,gd,rd⟩:=hrb a _ e; refine k_ ?_; clear k_)
  (refine Classical.byContradiction fun k_ => ?_; obtain ⟨v,hv,rv⟩:=(TI'.look (k:=.inl n) rd).2 d l; refine k_ ?_; clear k_)
  exact ⟨a,v,rfl,by rw [← hv]; exact DGet.k (k:=.inl n) gd,k _ _ _ _ (tka.trans tkb) hrb rv q⟩⟩⟩
end
end L3
namespace L3
open PySem L2
def r3sortD:List D→Hp3→VK3→Prop:=fun ds H Q => ∃ a ns kvs,ds = [.ref a]∧H a = some (.dik kvs)∧kvs.map (·.1) = ns.map Sum.inl∧ns.length < 64∧∀ (ms:List Int) (p:Addr),ms.Perm ns→ms.Pairwise (·≤·)→H p = none→Q (.ref p) (upd3 H p (.lst (ms.map D.int)))
theorem g_sortD {a:Addr} {ns:List Int} {kvs:TabI} {H:Hp3} {Q:VK3} (e:H a = some (.dik kvs)) (en:kvs.map (·.1) = ns.map Sum.inl) (hl:ns.length < 64) (h:∀ (ms:List Int) (p:Addr),ms.Perm ns→ms.Pairwise (·≤·)→H p = none→Q (.ref p) (upd3 H p (.lst (ms.map D.int)))):r3sortD [.ref a] H Q:=⟨a,ns,kvs,rfl,e,en,hl,h⟩
def kik (kvs:List (Str×D)) (neg:Bool) (x:D) (H:Hp3) (Q:VK3):Prop:=∃ z,x = .str z∧Q (.bl (neg != (kvs.lookup z).isSome)) H
def ki3 (kvs:List (Str×D)) (neg:Bool) (te:TE3):TE3:=fun σ H Q => te σ H fun x H1 => kik kvs neg x H1 Q
theorem g_ki3 {kvs:List (Str×D)} {neg:Bool} {te:TE3} {σ:St3} {H:Hp3} {Q:VK3} (h:te σ H fun x H1 => kik kvs neg x H1 Q):ki3 kvs neg te σ H Q:=h
theorem g_kik {kvs:List (Str×D)} {neg:Bool} {z:Str} {H:Hp3} {Q:VK3} (h:Q (.bl (neg != (kvs.lookup z).isSome)) H):kik kvs neg (.str z) H Q:=⟨z,rfl,h⟩
end L3
namespace L3
open PySem PySem.Spec PyProof.Rows L2
section
variable {prog:Program} {w:World} {A:Around} {E:Value→Shared→Prop} {s:Shared} {T:String} {r d:Addr} {n:Nat} {P:Nat→Value→Prop} {OK:Heap→Prop}
theorem collect_src {Q:List Value→Shared→Prop} (K:PySem.W.KdlSrc prog w T r d n P OK) (hh:A.handled = none) (hok:OK s.heap) (hn:n≤sizeLine)
  (hQ:∀ h' tk (acc:Array Value),s.heap.objs.size≤h'.objs.size→(∀ b o,s.heap.get? b = some o→h'.get? b = some o)→ItemsOf P acc n→Q acc.toList { s with heap:=h',toks:=tk }):wpAny (model prog w) A (collect (.ref r)) Q E s:=by
 have code:∀ R:Result→Shared→Prop,(∀ h' tk (acc:Array Value) c',s.heap.objs.size≤h'.objs.size→(∀ b o,s.heap.get? b = some o→h'.get? b = some o)→h'.get? s.heap.objs.size = some { cls:=.type "list",dict:=none,data:=.seq acc c',slots:=#[] }→ItemsOf P acc n→R (.ok (.ret (.ref s.heap.objs.size))) { s with heap:=h',toks:=tk })→codeAny (model prog w) A (.builtin "proto.collect" ⟨[.ref r],[]⟩) R s:=by
  intro R hR
  refine codeAny_builtin PySem.F.entry_proto_collect ?_
  rw [Around.under_plainId PySem.F.plain_proto_collect _]
  show wpAny _ A.in1 (newList [] >>= fun l => again (.builtin "list.__iadd__" ⟨[l,.ref r],[]⟩)) _ _ s
  refine wpAny_bind (wpAny_newObj_type (wpAny_pure ⟨plainId_quiet PySem.F.plain_list_iadd _,codeAny_builtin PySem.F.entry_list_iadd ?_⟩))
  rw [Around.under_plainId PySem.F.plain_list_iadd _]
  have hS:(s.heap.push { cls:=.type "list",data:=.seq ([]:List Value).toArray }).get? s.heap.objs.size = some { cls:=.type "list",data:=.seq #[] }:=Heap.get?_push_size _ rfl
  have hlt:=K.there _ hok
  show wpAny _ A.in1 (Builtin.List.listExtendWith (.ref s.heap.objs.size) (.ref r) (.ref s.heap.objs.size)) _ _ _
  exact PySem.W.kdl_extend (R:=R) (s:={ s with heap:=s.heap.push { cls:=.type "list",data:=.seq ([]:List Value).toArray } }) K hh (K.keep _ _ hok fun b _ o e => Heap.get?_push_of_some _ e) _ (Nat.ne_of_gt hlt.1) (Nat.ne_of_gt hlt.2) _ _ hS (fun h' tk acc' c' hk hS' hacc => hR h' tk acc' c' (Nat.le_of_lt (Heap.lt_size hS')) (fun b o e => hk b o (Nat.ne_of_lt (Heap.lt_size e)) (Heap.get?_push_of_some _ e)) hS' hacc) hn
 unfold collect
 refine wpAny_bind (wpAny_runValue (code _ fun h' tk acc c' hz hk hS' hacc => ?_))
 show wpAny _ A (load s.heap.objs.size >>= _) _ _ _
 refine wpAny_bind (wpAny_load hS' ?_)
 exact wpAny_pure (hQ h' tk acc hz hk hacc)
theorem sorted_src {ns:List Int} {Q:Value→Shared→Prop} (K:PySem.W.KdlSrc prog w T r d n P OK) (hh:A.in1.handled = none) (hok:OK s.heap) (hn:n≤sizeLine) (h64:n < 64) (hi:∀ acc:Array Value,ItemsOf P acc n→IntsAre acc.toList ns)
  (h:∀ h' tk a (out:Array Value) (ms:List Int) e,s.heap.objs.size≤a→IntsAre out.toList ms→ms.Perm ns→ms.Pairwise (·≤·)→(∀ b o,s.heap.get? b = some o→h'.get? b = some o)→h'.get? a = some (seqObj "list" out e)→Q (.ref a) { s with heap:=h',toks:=tk }) :
  wpAny (model prog w) A (call (.builtin "sorted") [.ref r]) Q E s:=by
 refine Calls.call_function_entry kind_sorted plain_sorted entry_sorted (args_sorted1 _) ?_
 unfold Builtin.«sorted»
 refine wpAny_bind (m:=checkCount "sorted" 1 1 _) (wpAny_pure (wpAny_bind (collect_src K hh hok hn fun h' tk acc hz hk hacc => ?_)))
 have hI:=hi acc hacc
 have hl:acc.toList.length = n:=by rw [Array.length_toList]; exact hacc.1
 refine wpAny_bind (wpAny_newList ?_ (by rw [hl]; exact hn))
 have hoL:(h'.push (seqObj "list" acc.toList.toArray 0)).get? h'.objs.size = some (seqObj "list" acc.toList.toArray 0):=Heap.get?_push_size _ rfl
 show wpAny _ _ _ _ _ { s with heap:=h'.push (seqObj "list" acc.toList.toArray 0),toks:=tk }
 refine wpAny_bind (wpAny_holding (wpAny_call_entry slot_list_sort ⟨_,hoL,rfl⟩ entry_list_sort (list_sort_tree hoL hI (by rw [hl]; exact h64) fun out ms a1 a2 a3 => ⟨_,rfl,?_⟩) (args_list_sort _)))
 obtain ⟨c,hc⟩:=sortedHeap_at (vs:=acc.toList) (out:=out) hoL
 refine wpAny_pure ⟨_,rfl,h _ tk h'.objs.size out ms c hz a1 a2 a3 (fun b o q => ?_) hc⟩
 have q':=hk b o q
 have lt:=Heap.lt_size q'
 exact (sortedHeap_old (Nat.ne_of_lt lt) (by rw [size_push']; exact Nat.lt_succ_of_lt lt)).trans (Heap.get?_push_of_some _ q')
end
theorem Paired.keys {κ α β:Type} {R:κ×α→κ×β→Prop} (h:∀ p q,R p q→p.1 = q.1):∀ {xs:List (κ×α)} {ys:List (κ×β)},Paired R xs ys→xs.map (·.1) = ys.map (·.1)
 | _,_,.nil => rfl
 | _,_,.cons r t => by rw [List.map_cons,List.map_cons,h _ _ r,Paired.keys h t]
theorem mix_int {P:Program} {w:World} {i:Int} {v:Value} (h:(mixKind P w).is (.inl i) v = true):∃ t,v = .int i t:=Value.isInt_shape h
theorem ints_keys {P:Program} {w:World} {vs:List (Key×Value)} {ns:List Int} (e:vs.map (·.1) = ns.map Sum.inl) {acc:Array Value} (h:ItemsOf (fun i v => ∃ k x,vs[i]? = some (k,x)∧(mixKind P w).is k v = true) acc vs.length):IntsAre acc.toList ns:=by
 obtain ⟨hl,h⟩:=h
 have h':∀ i v,acc.toList[i]? = some v→∃ k x,vs[i]? = some (k,x)∧(mixKind P w).is k v = true:=fun i v hv => h i v (by rw [← Array.getElem?_toList]; exact hv)
 have hl':acc.toList.length = vs.length:=by rw [Array.length_toList]; exact hl
 clear h hl
 generalize acc.toList = us at *
 induction us generalizing vs ns with
 | nil =>
  have:vs = []:=List.length_eq_zero_iff.mp hl'.symm
  subst this
  obtain rfl:ns = []:=List.map_eq_nil_iff.mp e.symm
  exact .nil
 | cons u us ih =>
  (refine Classical.byContradiction fun k_ => ?_; obtain ⟨k,x,e1,e2⟩:=h' 0 u rfl; refine k_ ?_; clear k_)
  cases vs with
  | nil => cases e1
  | cons q vs =>
   cases e1
   cases ns with
   | nil => cases e
   | cons m ns =>
    rw [List.map_cons,List.map_cons] at e
    obtain ⟨e3,e4⟩:=List.cons.inj e
    dsimp only at e3
    subst e3
    obtain ⟨t,rfl⟩:=mix_int e2
    exact .cons m t (ih e4 (fun i v hv => h' (i + 1) v hv) (Nat.succ.inj hl'))
section
variable {X:Cx}
theorem cb3_sortD (hc:X.calm = true):CallR X (.builtin "sorted") (liftC X.K r3sortD):=by
 intro pins s σ H xs us Q I rs h
 (refine Classical.byContradiction fun k_ => ?_; obtain ⟨ds,H3,Q3,hr,rd,t,k⟩:=h; refine k_ ?_; clear k_)
 (refine Classical.byContradiction fun k_ => ?_; obtain ⟨a,ns,kvs,rfl,ha,en,h64,t⟩:=t; refine k_ ?_; clear k_)
 cases rd with
 | cons r1 r2 =>
  cases r2
  cases r1
  (refine Classical.byContradiction fun k_ => ?_; obtain ⟨ks,ga,ra⟩:=hr a _ ha; refine k_ ?_; clear k_)
  (refine Classical.byContradiction fun k_ => ?_; obtain ⟨hz,hS,vs,rv,hd⟩:=dk_of I.hok ga; refine k_ ?_; clear k_)
  (refine Classical.byContradiction fun k_ => ?_; obtain ⟨u,rfl,ru⟩:=Vals.one rs; refine k_ ?_; clear k_)
  obtain rfl:u = Value.ref a:=ru
  have e1:ks.map (·.1) = ns.map Sum.inl:=by rw [← en]; exact (Paired.keys (fun _ _ z => z.1) ra).symm
  have e2:vs.map (·.1) = ns.map Sum.inl:=by rw [← e1]; exact (Paired.keys (fun _ _ z => z.1) rv).symm
  have hl:vs.length = ns.length:=by have:=congrArg List.length e2; rw [List.length_map,List.length_map] at this; exact this
  obtain ⟨ep,hd⟩:=hd.dictAt
  refine sorted_src (PySem.W.kdl_dict (ep:=ep) hS) (I.ok.hd hc) hd (by rw [hl]; exact le_line (by omega)) (by rw [hl]; exact h64) (fun acc hacc => ints_keys e2 hacc) fun h' tk a' out ms e za hI hp hw hk he => ?_
  have fr:H a' = none:=I.hok.fresh za
  refine ⟨.ref a',_,I.laid (t':=tk) (a:=a') (o:=.lst (ms.map V.int)) hk za ⟨by rw [List.length_map,hp.length_eq]; exact le_line (by omega),out.toList,e,vals_ints hI,?_⟩,rfl,?_⟩
  ·rw [Array.toArray_toList]; exact he
  ·exact k _ _ _ _ (TK.fresh fr) (hr.setL (TK.fresh fr) (RepL.ints ms)) (.ref _) (t ms _ hp hw (hr.fresh fr))
end
section
variable {X:Cx} {x:Str} {kvs:List (Str×D)} {e:Expr} {p pos:Pos}
theorem pc_nkin {a:Addr} {te:TE} (hg:Gl X x) (hm:X.mg x = some (.ref a)) (c:DC X.K X.w a kvs) (he:PE X e te) (hd:(x == ("__debug__" : Str)) = false:=by decide):PC X .NotIn e (.Name x p) (tKin kvs true te):=by
 intro pins s σ H Q I h
 refine thn (he pins s σ H _ I h) fun iv s2 ⟨y,H2,I2,ry,z,ey,q2⟩ => ld_glob I2 hg hm ?_ hd
 subst ey
 (refine Classical.byContradiction fun k_ => ?_; obtain ⟨vs,dd,hb⟩:=kin_ok I2 c ry; refine k_ ?_; clear k_)
 refine wpAny_notIn_of (kV_is (k:=.inr z) ry) c.ns dd.mapOf ?_
 rw [hb]
 exact ⟨.bl _,H2,I2.tok _,rfl,by simpa using q2⟩
theorem p3_tnkin {te:TE3} (hg:Gl X x) (hm:∃ a,X.mg x = some (.ref a)∧DC X.K X.w a kvs) (he:PE3 X e te) (hd:(x == ("__debug__" : Str)) = false:=by decide):PT3 X (.Compare e [.NotIn] [.Name x p] pos) (ts3 (ki3 kvs true te)):=by
 (refine Classical.byContradiction fun k_ => ?_; obtain ⟨a,hm,c⟩:=hm; refine k_ ?_; clear k_)
 refine pt_imp (pt_cmp (pc_nkin hg hm c he hd)) fun _ _ _ h => ?_
 (refine Classical.byContradiction fun k_ => ?_; obtain ⟨σ3,H3,Q3,sr,hr,t,k⟩:=h; refine k_ ?_; clear k_)
 refine ⟨σ3,H3,_,sr,hr,t,fun x v H3a Ha tka hra rx qa => ?_⟩
 (refine Classical.byContradiction fun k_ => ?_; obtain ⟨z,rfl,qa⟩:=qa; refine k_ ?_; clear k_)
 cases rx
 exact ⟨z,rfl,ke_test k _ _ _ _ tka hra (.bl _) qa⟩
end
end L3
namespace L3
open PySem PySem.Spec PyProof.Rows L2
def zUk (x y:D) (H:Hp3) (R:List D→(Hp3→Prop)→Hp3→Prop):Prop:=∃ ds es,x = .tup ds∧y = .tup es∧R (zipD ds es) (fun _ => True) H
def izU (ta tb:TE3):TI3:=fun σ H R => ta σ H fun x H1 => tb σ H1 fun y H2 => zUk x y H2 R
theorem g_izU {ta tb:TE3} {σ:St3} {H:Hp3} {R:List D→(Hp3→Prop)→Hp3→Prop} (h:ta σ H fun x H1 => tb σ H1 fun y H2 => zUk x y H2 R):izU ta tb σ H R:=h
theorem g_zUk {ds es:List D} {H:Hp3} {R:List D→(Hp3→Prop)→Hp3→Prop} (h:R (zipD ds es) (fun _ => True) H):zUk (.tup ds) (.tup es) H R:=⟨ds,es,rfl,rfl,h⟩
end L3
namespace L3
open PySem PySem.Spec PyProof.Rows L2
def Itz_TT (K:PySem.W.Frag) (a b:Addr):It :=
 ⟨fun i H => ∃ xs ys x y,SqT K H a xs∧SqT K H b ys∧xs[i]? = some x∧ys[i]? = some y,
   fun i H v H' => ∃ T x y,v = .ref T∧H T = none∧H' = upd H T (.tup [x,y])∧∀ xs ys,SqT K H a xs→SqT K H b ys→xs[i]? = some x∧ys[i]? = some y,
   fun i H => ∃ xs ys,SqT K H a xs∧SqT K H b ys∧(xs.length≤i∨ys.length≤i)⟩
theorem turn_zip_TT {P:Program} {w:World} {K:PySem.W.Frag} {elts:List Expr} {kt:Nat} {pt:Pos} (z TI TO i1 i2 a b:Addr) (D:ZAp z TI TO i1 i2 [i1,a] [i2,b]) (hai:a≠i1) (hbi:b≠i2) :
  Turn P w K (.Tuple elts kt pt) (Itz_TT K a b) [z,TI,TO,i1,i2] z (fun i h => IsZip h z TI TO .none∧IsPair h TI (.ref i1) (.ref i2)∧(∃ u v,IsPair h TO u v)∧h.IsTupleIter i1 a i∧h.IsTupleIter i2 b i) where
 mem:=by simp
 obj:=by
  rintro i h ⟨h1,h2,⟨u,v,h3⟩,⟨o4,h4,c4,d4⟩,⟨o5,h5,c5,d5⟩⟩ c hc
  simp only [List.mem_cons,List.not_mem_nil,or_false] at hc
  rcases hc with rfl | rfl | rfl | rfl | rfl
  ·exact ⟨_,h1,fun v z => nomatch z⟩
  ·exact ⟨_,h2,fun v z => nomatch z⟩
  ·exact ⟨_,h3,fun v z => nomatch z⟩
  ·first
   | exact ⟨_,h4,fun v z => by rw [d4] at z; cases z⟩
   | exact ⟨_,h5,fun v z => by rw [d5] at z; cases z⟩
  ·first
   | exact ⟨_,h4,fun v z => by rw [d4] at z; cases z⟩
   | exact ⟨_,h5,fun v z => by rw [d5] at z; cases z⟩
 keep:=by
  rintro i h h' ⟨h1,h2,⟨u,v,h3⟩,h4,h5⟩ k
  exact ⟨k z (by simp) _ h1,k TI (by simp) _ h2,⟨u,v,k TO (by simp) _ h3⟩,h4.at fun o e => k i1 (by simp) o e,h5.at fun o e => k i2 (by simp) o e⟩
 item:=by
  intro X hP hw hK hc i pins s σ H E I hf st hg
  subst hP hw hK
  (refine Classical.byContradiction fun k_ => ?_; obtain ⟨xs,ys,v,vy,hq,hq',hxv,hyv⟩:=hg; refine k_ ?_; clear k_)
  (refine Classical.byContradiction fun k_ => ?_; obtain ⟨h1,h2,⟨u0,v0,h3⟩,h4,h5⟩:=st; refine k_ ?_; clear k_)
  (refine Classical.byContradiction fun k_ => ?_; obtain ⟨its,rv,pl0,hz⟩:=I.tuple hq; refine k_ ?_; clear k_)
  have pl:s.heap.IsTuple a its.toArray:=pl0
  (refine Classical.byContradiction fun k_ => ?_; obtain ⟨jts,rv',pt,hz'⟩:=I.tuple hq'; refine k_ ?_; clear k_)
  have pt':s.heap.IsTuple b jts.toArray:=pt
  (refine Classical.byContradiction fun k_ => ?_; obtain ⟨u,hu,ru⟩:=rv.get hxv; refine k_ ?_; clear k_)
  (refine Classical.byContradiction fun k_ => ?_; obtain ⟨u2,hu2,ru2⟩:=rv'.get hyv; refine k_ ?_; clear k_)
  have hh:=I.ok.hd hc
  have hlv:i < its.length:=(List.getElem?_eq_some_iff.mp hu).1
  have hlw:i < jts.length:=(List.getElem?_eq_some_iff.mp hu2).1
  have hT:H s.heap.objs.size = none:=I.hok.fresh (Nat.le_refl _)
  refine zipD_item (k:=i) (f1:=[i1,a]) (f2:=[i2,b]) (S1:=fun i h => h.IsTupleIter i1 a i∧h.IsTuple a its.toArray) (S2:=fun i h => h.IsTupleIter i2 b i∧h.IsTuple b jts.toArray) D (drawsT (prog:=X.prog) (w:=X.w) (A:=X.A.in1) hh i1 a hai its.toArray) (drawsT (prog:=X.prog) (w:=X.w) (A:=X.A.in1) hh i2 b hbi jts.toArray) (by simp; grind) (by simp; grind) h1 h2 h3 ⟨h4,pl⟩ ⟨h5,pt'⟩ fun h' tk y1 y2 hy1 hy2 a1 a2 sa sb a5 a7 => ?_
  refine ⟨_,rfl,?_⟩
  refine wpAny_letOwnedTupleGo_zip (s:={ s with heap:=h',toks:=tk }) a1 fun h'' b1 b2 => ?_
  have lt:∀ {c o},s.heap.get? c = some o→s.heap.objs.size≠c:=fun e => Nat.ne_of_gt (Heap.lt_size e)
  have eu:y1 = u:=by
   have q:=hy1
   simp only [List.getElem?_toArray] at q
   exact Option.some.inj (q.symm.trans hu)
  subst eu
  have eu2:y2 = u2:=by
   have q:=hy2
   simp only [List.getElem?_toArray] at q
   exact Option.some.inj (q.symm.trans hu2)
  subst eu2
  have new:h''.get? s.heap.objs.size = some { cls:=.type "tuple",data:=.seq #[y1,y2] }:=(b2.2 _ (lt h1)).trans a5
  have I1:L2.Inv X pins σ (upd H s.heap.objs.size (.tup [v,vy])) { s with heap:=h'',toks:=tk }:=by
   refine turnedNew (ch:=[z,TI,TO,i1,i2]) I (fun c o hcn e => ?_) hf (Nat.le_refl _) ⟨?_,[y1,y2],.cons ru (.cons ru2 .nil),⟨_,new,rfl,_,rfl⟩⟩
   ·have n1:c≠z:=fun w => hcn (by simp [w])
    exact (b2.2 c n1).trans (a7 c o n1 (fun w => hcn (by simp [w])) (fun w => hcn (by simp [w])) (fun w => hcn (by simp [w])) e)
   ·show 2≤sizeLine; decide
  refine ⟨.ref s.heap.objs.size,_,I1,rfl,⟨_,v,vy,rfl,hT,rfl,fun xs' ys' q1 q2 => ⟨by rw [I.tuple_inj q1 hq]; exact hxv,by rw [I.tuple_inj q2 hq']; exact hyv⟩⟩,⟨b1,?_,⟨_,_,(b2.2 TO D.TOz).trans a2⟩,?_,?_⟩,fun d hdm => ?_⟩
  ·exact (b2.2 TI D.TIz).trans (a7 TI _ D.TIz D.TITO D.TIi1 D.TIi2 h2)
  ·exact (sa).1.at fun o e => (b2.2 i1 D.i1z).trans e
  ·exact (sb).1.at fun o e => (b2.2 i2 D.i2z).trans e
  ·have hcn:H d = none:=(hf d hdm).1
   have:d≠s.heap.objs.size:=by
    obtain ⟨o,e,_⟩:∃ o,s.heap.get? d = some o∧True:=by
     simp only [List.mem_cons,List.not_mem_nil,or_false] at hdm
     (refine Classical.byContradiction fun k_ => ?_; obtain ⟨o4,e4,_⟩:=h4; refine k_ ?_; clear k_)
     (refine Classical.byContradiction fun k_ => ?_; obtain ⟨o5,e5,_⟩:=h5; refine k_ ?_; clear k_)
     rcases hdm with rfl | rfl | rfl | rfl | rfl
     ·exact ⟨_,h1,trivial⟩
     ·exact ⟨_,h2,trivial⟩
     ·exact ⟨_,h3,trivial⟩
     ·first | exact ⟨_,e4,trivial⟩ | exact ⟨_,e5,trivial⟩
     ·first | exact ⟨_,e4,trivial⟩ | exact ⟨_,e5,trivial⟩
    exact (lt e).symm
   rw [upd_ne this]; exact hcn
 done:=by
  intro X hP hw hK hc i pins s σ H E I hf st hg
  subst hP hw hK
  (refine Classical.byContradiction fun k_ => ?_; obtain ⟨xs,ys,hq,hq',hx⟩:=hg; refine k_ ?_; clear k_)
  (refine Classical.byContradiction fun k_ => ?_; obtain ⟨h1,h2,⟨u0,v0,h3⟩,h4,h5⟩:=st; refine k_ ?_; clear k_)
  (refine Classical.byContradiction fun k_ => ?_; obtain ⟨its,rv,pl0,hz⟩:=I.tuple hq; refine k_ ?_; clear k_)
  have pl:s.heap.IsTuple a its.toArray:=pl0
  (refine Classical.byContradiction fun k_ => ?_; obtain ⟨jts,rv',pt,hz'⟩:=I.tuple hq'; refine k_ ?_; clear k_)
  have pt':s.heap.IsTuple b jts.toArray:=pt
  have hl:=rv.length
  have hl':=rv'.length
  have hh:=I.ok.hd hc
  have DL:=drawsT (prog:=X.prog) (w:=X.w) (A:=X.A.in1) hh i1 a hai its.toArray
  have DT:=drawsT (prog:=X.prog) (w:=X.w) (A:=X.A.in1) hh i2 b hbi jts.toArray
  have endL:its.length≤i→Endd X.prog X.w X.A.in1 i1 ((fun i h => h.IsTupleIter i1 a i∧h.IsTuple a its.toArray) i):=fun hle s' Q E' st' hE => nextOf_tup_end hh st'.1 st'.2 (by simp; grind) hE
  have endT:jts.length≤i→Endd X.prog X.w X.A.in1 i2 ((fun i h => h.IsTupleIter i2 b i∧h.IsTuple b jts.toArray) i):=fun hle s' Q E' st' hE => nextOf_tup_end hh st'.1 st'.2 (by simp; grind) hE
  refine zipD_end (k:=i) (P1:=fun i v => its.toArray[i]? = some v) (f1:=[i1,a]) (f2:=[i2,b]) (n1:=its.toArray.size) (S1:=fun i h => h.IsTupleIter i1 a i∧h.IsTuple a its.toArray) (S2:=fun i h => h.IsTupleIter i2 b i∧h.IsTuple b jts.toArray) D (fun _ _ q k => DL.frame i _ _ q k) (fun _ _ q k => DT.frame i _ _ q k) ?_ h1 h2 h3 ⟨h4,pl⟩ ⟨h5,pt'⟩ fun h' tk k => ⟨rfl,?_⟩
  ·by_cases hle:its.length≤i
   ·exact .inl (endL hle)
   ·exact .inr ⟨⟨by simp; grind,DL⟩,endT (by grind)⟩
  ·exact turnedL (t':=tk) (ch:=[z,TI,TO,i1,i2]) I (fun c o hcn e => k c o (fun w => hcn (by simp [w])) (fun w => hcn (by simp [w])) (fun w => hcn (by simp [w])) (fun w => hcn (by simp [w])) e) hf
 self:=fun A i s Q E st h => wpAny_pyIter_zip st.1 h
set_option maxHeartbeats 4000000 in
theorem meets_zip_TT (l t:Addr) (xs ys:Array Value) :
  Meets (Builtin.«zip.__new__» ⟨[.type "zip",.ref l,.ref t],[]⟩) (fun _ R s => (s.heap.IsTuple l xs∧s.heap.IsTuple t ys)∧R (.ok (.ret (.ref (zh4 s.heap (tIt l) (tIt t)).objs.size))) { s with heap:=zh5 s.heap (tIt l) (tIt t) }) :=
 .of_wp fun prog w A R s h => by
  (refine Classical.byContradiction fun k_ => ?_; obtain ⟨hp,g,d,tk,os⟩:=s; refine k_ ?_; clear k_)
  (refine Classical.byContradiction fun k_ => ?_; obtain ⟨⟨hl,ht⟩,h⟩:=h; refine k_ ?_; clear k_)
  have hsub:=sub_zip
  have hL:Heap.IsTuple (Shared.heap ⟨hp,g,d,tk,os⟩) l xs:=hl
  have hT:Heap.IsTuple (Shared.heap ⟨hp.push { cls:=.type "tuple_iterator",data:=.fields #[.ref l,.int 0 0] },g,d,tk,os⟩) t ys:=Heap.IsTuple.push ht _
  wp_walk using wpAny_pyIter_tuple hL,wpAny_pyIter_tuple hT
  exact ⟨_,rfl,h⟩
section
variable {X:Cx} {tg:Expr}
theorem call_zip_TT {prog:Program} {w:World} {A:Around} {E:Value→Shared→Prop} {s:Shared} {l t:Addr} {xs ys:Array Value} {Q:Value→Shared→Prop} (hl:s.heap.IsTuple l xs) (ht:s.heap.IsTuple t ys)
  (h:Q (.ref (s.heap.objs.size + 4)) { s with heap:=zh5 s.heap (tIt l) (tIt t) }):wpAny (model prog w) A (call (.type "zip") [.ref l,.ref t]) Q E s:=by
 refine callType_new F.called_zip (by decide) (F.typeCall_zip_2 _ _) (F.newCall_zip_2 _ _) (fun obj => F.args_object_init_3 obj _ _) F.entry_zip_new (meets_zip_TT l t xs ys) ⟨⟨hl,ht⟩,?_⟩
 (refine Classical.byContradiction fun k_ => ?_; obtain ⟨z4,g5,_⟩:=zh_at s.heap (tIt l) (tIt t) rfl rfl; refine k_ ?_; clear k_)
 show _∧_
 rw [z4]
 exact ⟨⟨_,g5,rfl⟩,h⟩
def jZip_TT (K:PySem.W.Frag) (ta:TA):L2.TI:=fun σ H R => ta σ H fun vs H1 => ∃ l x,vs = [.ref l,.ref x]∧(∃ xs,SqT K H1 l xs)∧(∃ ys,SqT K H1 x ys)∧R (Itz_TT K l x) H1
theorem pj_zip_TT {a b:Expr} {ta:TA} {p pos pt:Pos} {elts:List Expr} {kt:Nat} (hg:Gl X "zip") (hm:X.mg "zip" = none) (ha:PA X [a,b] ta) (hs:starEach [a,b] X.env = [(false,eval a X.env),(false,eval b X.env)]:=by rfl) (hs2:starEach [b] X.env = [(false,eval b X.env)]:=by rfl) :
  PI X (.Tuple elts kt pt) (.Call (.Name "zip" p) [a,b] [] pos) (jZip_TT X.K ta):=by
 intro pins s σ H R I h
 refine Call_ (ld_blt I hg hm boot_zip (PyProof.Rows.callWith_type1 (thn (ha pos pins s σ H _ I h) fun us s1 ⟨vs,H1,I1,r1,l,x,e,⟨xs,hq⟩,⟨ys,hq'⟩,q⟩ => ?_) (by rw [hs,hs2]) (by rw [hs2]; rfl)))
 subst e
 (refine Classical.byContradiction fun k_ => ?_; obtain ⟨u,u',rfl,e1,e2⟩:=vals2 r1; refine k_ ?_; clear k_)
 cases e1
 cases e2
 (refine Classical.byContradiction fun k_ => ?_; obtain ⟨its,rv,pl0,hz⟩:=I1.tuple hq; refine k_ ?_; clear k_)
 have pl:s1.heap.IsTuple l its.toArray:=pl0
 (refine Classical.byContradiction fun k_ => ?_; obtain ⟨jts,rv',pt,hz'⟩:=I1.tuple hq'; refine k_ ?_; clear k_)
 have pt':s1.heap.IsTuple x jts.toArray:=pt
 have a2:x < s1.heap.objs.size:=by obtain ⟨_,e,_⟩:=pt'; exact Heap.lt_size e
 have a1:l < s1.heap.objs.size:=by obtain ⟨_,e,_⟩:=pl; exact Heap.lt_size e
 refine call_zip_TT pl pt' ?_
 (refine Classical.byContradiction fun k_ => ?_; obtain ⟨z4,g5,g3,g4,g1,g2,hk⟩:=zh_at s1.heap (tIt l) (tIt x) rfl rfl; refine k_ ?_; clear k_)
 generalize hn:s1.heap.objs.size = n at *
 refine wpAny_pyIter_zip (s:={ s1 with heap:=zh5 s1.heap (tIt l) (tIt x) }) g5 ?_
 have I2:L2.Inv X pins σ H1 { s1 with heap:=zh5 s1.heap (tIt l) (tIt x),toks:=s1.toks }:=I1.kept (t':=s1.toks) hk
 have D:ZAp (n + 4) (n + 2) (n + 3) n (n + 1) [n,l] [n + 1,x]:=by
  exact ⟨(show (n + 2:Nat)≠n + 4 from by grind),(show (n + 3:Nat)≠n + 4 from by grind),(show (n:Nat)≠n + 4 from by grind),(show (n + 1:Nat)≠n + 4 from by grind),(show (n + 2:Nat)≠n + 3 from by grind),(show (n + 2:Nat)≠n from by grind),(show (n + 2:Nat)≠n + 1 from by grind),(show (n + 3:Nat)≠n from by grind),(show (n + 3:Nat)≠n + 1 from by grind),(show (n:Nat)≠n + 1 from by grind),⟨nm2 (show (n + 4:Nat)≠n from by grind) (ltn a1).1,nm2 (show (n + 3:Nat)≠n from by grind) (ltn a1).2.1,nm2 (show (n + 1:Nat)≠n from by grind) (ltn a1).2.2.1⟩,⟨nm2 (show (n + 4:Nat)≠n + 1 from by grind) (ltn a2).1,nm2 (show (n + 3:Nat)≠n + 1 from by grind) (ltn a2).2.1,nm2 (show (n:Nat)≠n + 1 from by grind) (ltn a2).2.2.2⟩⟩
 refine ⟨_,_,_,_,H1,rfl,I2,turn_zip_TT _ _ _ _ _ l x D (Ne.symm (ltn a1).2.2.2) (Ne.symm (ltn a2).2.2.1),⟨g5,g3,⟨_,_,g4⟩,⟨_,g1,rfl,rfl⟩,⟨_,g2,rfl,rfl⟩⟩,fun b hb => ?_,q⟩
 simp only [List.mem_cons,List.not_mem_nil,or_false] at hb
 have hge:s1.heap.objs.size≤b:=by rw [hn]; rcases hb with rfl | rfl | rfl | rfl | rfl <;> grind
 exact I1.fpOk (b:=b) (H':=H1) hge (I1.hok.fresh hge)
theorem itOk_zip_TT {K:PySem.W.Frag} {H:Hp} {a b:Addr} {ds es:List D} {vs us:List V} (ga0:H a = some (.tup vs)) (ra0:RepL K H ds vs) (gb:H b = some (.tup us)) (rb:RepL K H es us):ItOk K H (zipD ds es) (fun _ => True) (Itz_TT K a b):=fun H3 H' tk hr hk => by
 have ga:=tk.tup _ _ ga0
 have ra:=ra0.mono tk
 have gb':=tk.tup _ _ gb
 have rb':=rb.mono tk
 have hl:(zipD ds es).length = min ds.length es.length:=by unfold zipD; rw [List.length_zipWith]
 refine ⟨fun i hi => ?_,?_⟩
 ·rw [hl] at hi
  have h1:i < vs.length:=by rw [← ra.length]; grind
  have h2:i < us.length:=by rw [← rb.length]; grind
  refine ⟨⟨vs,us,vs[i],us[i],SqT.of ga,SqT.of gb',by simp,by simp⟩,fun v H'' y => ?_⟩
  (refine Classical.byContradiction fun k_ => ?_; obtain ⟨T,x,y,rfl,hT,rfl,hxy⟩:=y; refine k_ ?_; clear k_)
  obtain ⟨hx,hy⟩:=hxy vs us (SqT.of ga) (SqT.of gb')
  (refine Classical.byContradiction fun k_ => ?_; obtain ⟨d,e,hde,rd,re⟩:=RepL.zip ra rb' hx hy; refine k_ ?_; clear k_)
  exact ⟨TK.fresh hT,hr.tup hT,_,hde,.tup upd_same (.cons (rd.mono (TK.fresh hT)) (.cons (re.mono (TK.fresh hT)) .nil))⟩
 ·rw [hl]
  refine ⟨vs,us,SqT.of ga,SqT.of gb',?_⟩
  rw [← ra.length,← rb.length]
  grind
theorem i3_zip_TT {a b:Expr} {ta tb:TE3} {p pos pt:Pos} {elts:List Expr} {kt:Nat} (hm:X.mg "zip" = none) (ha:PE3 X a ta) (hb:PE3 X b tb) (hg:Gl X "zip":=by rfl) (hs:starEach [a,b] X.env = [(false,eval a X.env),(false,eval b X.env)]:=by rfl)
  (hs1:starEach [a,b] X.env = (false,eval a X.env)::starEach [b] X.env:=by rfl) (hs2:starEach [b] X.env = (false,eval b X.env)::starEach [] X.env:=by rfl) (hs3:starEach [b] X.env = [(false,eval b X.env)]:=by rfl):PI3 X (.Tuple elts kt pt) (.Call (.Name "zip" p) [a,b] [] pos) (izU ta tb) :=
 pi_imp (pj_zip_TT hg hm (a3_cons ha (a3_cons hb a3_nil hs2) hs1) hs hs3) fun _ _ _ ⟨σ3,H3,R3,sr,hr,t,k⟩ => by
  refine ⟨σ3,H3,fun ds H1 => (match ds with | [x,y] => zUk x y H1 R3 | _ => False),sr,hr,t,fun ds vs H3a Ha tka hra rs qa => ?_⟩
  cases rs with
  | nil => exact qa.elim
  | cons r1 r2 =>
   cases r2 with
   | nil => exact qa.elim
   | cons r2 r3 =>
    cases r3 with
    | cons _ _ => exact qa.elim
    | nil =>
     (refine Classical.byContradiction fun k_ => ?_; obtain ⟨ds,es,rfl,rfl,qa⟩:=qa; refine k_ ?_; clear k_)
     cases r1 with
     | tup ga ra =>
      cases r2 with
      | tup gb rb => exact ⟨_,_,rfl,⟨_,SqT.of ga⟩,⟨_,SqT.of gb⟩,k _ _ _ _ _ tka hra (itOk_zip_TT ga ra gb rb) qa⟩
end
end L3
namespace L3
open PySem L2
end L3
namespace L3
open PySem PySem.Spec PyProof.Rows L2
section
variable {X:Cx} {pins:List (Addr×Obj)} {σ:St} {H:Hp} {s:Shared}
end
end L3
namespace Law
open PySem PySem.Spec PyProof.Rows L2 L3
set_option maxHeartbeats 8000000
abbrev N_added:List Str:=["one", "other"]
abbrev P_added:List Str:=["one", "other"]
abbrev N_corners_of:List Str:=["corner", "word", "corners", "letter"]
abbrev P_corners_of:List Str:=["corner", "word"]
abbrev N_way_of:List Str:=["word"]
abbrev P_way_of:List Str:=["word"]
abbrev N_begun_at:List Str:=["word", "place"]
abbrev P_begun_at:List Str:=["word", "place"]
abbrev N_area_of:List Str:=["word", "area", "corner", "letter"]
abbrev P_area_of:List Str:=["word"]
abbrev N_sides_of:List Str:=["cell", "x", "y"]
abbrev P_sides_of:List Str:=["cell"]
abbrev N_letters_by_corner:List Str:=["piece", "letters", "cell", "side"]
abbrev P_letters_by_corner:List Str:=["piece"]
abbrev N_border_of:List Str:=["piece", "letters", "start", "word", "corner", "letter"]
abbrev P_border_of:List Str:=["piece"]
abbrev N_check_letters:List Str:=["word", "place", "letter"]
abbrev P_check_letters:List Str:=["word"]
abbrev N_check_crossings:List Str:=["word", "corners", "seen", "place", "corner"]
abbrev P_check_crossings:List Str:=["word"]
abbrev N_upright_sides:List Str:=["corner", "word", "rows", "here", "letter"]
abbrev P_upright_sides:List Str:=["corner", "word"]
abbrev N_cells_within:List Str:=["corner", "word", "rows", "cells", "y", "xs", "k"]
abbrev P_cells_within:List Str:=["corner", "word"]
abbrev N_inside_of:List Str:=["corner", "word", "way", "area"]
abbrev P_inside_of:List Str:=["corner", "word"]
abbrev N_l_cell_at:List Str:=["_law_script", "_law_k"]
abbrev P_l_cell_at:List Str:=["_law_script", "_law_k"]
abbrev N_l_corner:List Str:=["_law_cell", "_law_other"]
abbrev P_l_corner:List Str:=["_law_cell", "_law_other"]
abbrev N_l_step:List Str:=["_law_letter"]
abbrev P_l_step:List Str:=["_law_letter"]
abbrev N_l_whole:List Str:=["_law_found"]
abbrev P_l_whole:List Str:=["_law_found"]
abbrev N_l_pair:List Str:=["_law_found", "_law_due"]
abbrev P_l_pair:List Str:=["_law_found", "_law_due"]
abbrev N_l_holed:List Str:=["_law_cells", "_law_east", "_law_west", "_law_north", "_law_south", "_law_met", "_law_known", "_law_cell", "_law_at", "_law_step_here", "_law_new"]
abbrev P_l_holed:List Str:=["_law_cells"]
abbrev N_l_grown:List Str:=["_law_script", "_law_at", "_law_many", "_law_cells", "_law_k", "_law_cell", "_law_x", "_law_y", "_law_turn", "_law_step_here", "_law_new"]
abbrev P_l_grown:List Str:=["_law_script", "_law_at", "_law_many"]
abbrev N_l_piece:List Str:=["_law_cells", "_law_shift", "_law_moved_cells"]
abbrev P_l_piece:List Str:=["_law_cells", "_law_shift"]
abbrev N_l_is_piece:List Str:=["_law_found", "_law_due"]
abbrev P_l_is_piece:List Str:=["_law_found", "_law_due"]
abbrev N_law:List Str:=["_law_script", "_law_cells", "_law_piece_here", "_law_corner_here", "_law_word", "_law_place", "_law_inside"]
abbrev P_law:List Str:=["_law_script"]
def c_STEPS:List (Str×D):=[("e",.ktup (([1,0]:List Int).map D.int)),("n",.ktup (([0,1]:List Int).map D.int)),("w",.ktup (([-1,0]:List Int).map D.int)),("s",.ktup (([0,-1]:List Int).map D.int))]
local macro_rules | `(tactic| walk_at "l3h") => `(tactic| first
 | with_reducible exact upd3_same
 | assumption
 | exact upd3_old (by walk_at "l3h") (by assumption))
local macro_rules | `(tactic| walk_at "l3a") => `(tactic| first
 | with_reducible assumption
 | decide
 | omega
 | exact ⟨by decide,by decide⟩
 | exact Or.inl ⟨by decide,by decide⟩
 | exact Or.inr ⟨by decide,by decide⟩
 | exact ⟨by decide,by decide,by decide⟩
 | exact Or.inl ⟨by omega,by omega⟩
 | exact Or.inr ⟨by omega,by omega⟩
 | exact ⟨by omega,by omega⟩)
local macro_rules | `(tactic| walk_at "l3b") => `(tactic| first
 | with_reducible assumption
 | ((with_reducible show Bt _ (_ + _)); exact Bt.add (by walk_at "l3b") (by walk_at "l3b"))
 | ((with_reducible show Bt _ (_ - _)); exact Bt.sub (by walk_at "l3b") (by walk_at "l3b"))
 | ((with_reducible show Bt _ (_ * _)); exact Bt.mul (by walk_at "l3b") (by walk_at "l3b"))
 | ((with_reducible show Bt _ (-_)); exact Bt.neg (by walk_at "l3b"))
 | ((with_reducible show Bt _ (_ / _)); exact Bt.div (by walk_at "l3b"))
 | exact Bt.lit (n:=64) (by decide)
 | exact Bt.lit (n:=256) (by decide))
local macro_rules | `(tactic| walk_at "l3w") => `(tactic| first
 | ((with_reducible show CDivW _ _); exact And.intro (by walk_at "l3a") (Bt.mono (by walk_at "l3b") (by decide)))
 | exact Or.inl (by walk_at "l3a")
 | exact CMulW.of (by walk_at "l3b") (by walk_at "l3b") (by decide))
local macro_rules | `(tactic| walk_at "l3s") => `(tactic| first
 | with_reducible refine g_sq ?_
 | ((with_reducible show v3 _ _ _ _); refine g_v3 rfl ?_)
 | (with_reducible first | refine g_c3 ?_ | refine g_o3 ?_ | refine g_st ?_)
 | ((fail_if_success (with_reducible show Ends3.nx (fin3 _) _ _)); (with_reducible refine g_nx ?_); (try dsimp only [List.set_cons_zero,List.set_cons_succ]))
 | (with_reducible first | refine g_cb ?_ | refine g_cons ?_ | refine g_nil ?_ | refine g_is ?_ | refine g_ts ?_ | refine g_bt ?_ | refine g_rt3 ?_)
 | with_reducible refine g_tp ?_
 | ((with_reducible show List.length _≤1000∧_); refine g_and rfl ?_)
 | (with_reducible first | refine g_add ?_ | refine g_sub ?_ | refine g_eqI ?_ | refine g_neI ?_ | refine g_eqP ?_ | refine g_neP ?_ | refine g_le ?_ | refine g_lt ?_ | refine g_gt ?_ | refine g_neg ?_ | refine g_u3 ?_)
 | ((with_reducible show i3mulW _ _ _ _); refine g_mulW (by walk_at "l3w") ?_)
 | ((with_reducible show i3divW _ _ _ _); refine g_divW (by walk_at "l3w") ?_)
 | ((with_reducible show i3mod _ _ _ _); refine g_mod (by walk_at "l3a") ?_)
 | ((with_reducible show i3pow _ _ _ _); refine g_pow (by walk_at "l3a") ?_)
 | ((with_reducible show r3ix (D.tup _) (D.int _) _ _); refine g_ixT rfl ?_)
 | (with_reducible first | refine g_an ?_ | refine g_or ?_ | refine g_no ?_ | refine g_av ?_ | refine g_avk ?_ | refine g_nv ?_ | refine g_nvk ?_ | refine g_ls ?_ | refine g_lenT ?_ | refine g_lenF ?_)
 | ((with_reducible show r3len [D.ref _] _ _); refine g_lenL (by walk_at "l3h") ?_)
 | ((with_reducible show r3tuple [D.ref _] _ _); refine g_tupL (by walk_at "l3h") ?_)
 | (with_reducible first | refine g_sl ?_ | refine g_np ?_ | refine g_pt ?_ | refine g_ptk ?_)
 | (with_reducible first | refine g_nx3 ?_ | refine g_br3 ?_ | refine g_dr ?_ | refine g_as ?_)
 | ((with_reducible refine g_gn ?_); (try dsimp only [List.set_cons_zero,List.set_cons_succ]))
 | ((with_reducible refine g_g2 ?_); (try dsimp only [List.set_cons_zero,List.set_cons_succ]))
 | (with_reducible first | refine g_bk ?_ | refine g_fo ?_ | refine g_ir1 ?_ | refine g_ir2 ?_ | refine g_iru ?_ | refine g_rgu ?_ | refine g_iez ?_ | refine g_rg1 ?_ | refine g_rg2 ?_ | refine g_il ?_)
 | ((with_reducible show ilk (D.ref _) _ _); refine g_ilR (by walk_at "l3h") ?_)
 | (with_reducible first | refine g_it ?_ | refine g_itT ?_)
 | ((with_reducible show au3 _ _ _ _ _ _); refine g_au rfl ?_)
 | (with_reducible first | refine g_iadd ?_ | refine g_isub ?_ | refine g_kd ?_ | refine g_ch3 ?_ | refine g_chk ?_)
 | ((with_reducible show r3ix (D.ktup _) (D.int _) _ _); refine g_ixK rfl ?_)
 | (with_reducible first | refine g_izU ?_ | refine g_zUk ?_)
 | (with_reducible first | refine g_izt ?_ | refine g_mz ?_ | refine g_mzk ?_ | refine g_iz ?_ | refine g_izS ?_ | refine g_m3 ?_)
 | ((with_reducible show mtk _ _ _ (D.ref _) _ _); refine g_mtk (by walk_at "l3h") ?_)
 | (with_reducible first | refine g_dg ?_ | refine g_dp ?_ | refine g_dn ?_ | refine g_dnI ?_ | refine g_sd3 ?_ | refine g_gi3 ?_ | refine g_ki3 ?_ | refine g_kik ?_ | refine g_dd ?_ | refine g_soL ?_ | refine g_cp ?_)
 | ((with_reducible show r3isi [_,D.ty _] _ _); refine g_isi rfl (by simp [kinds]) ?_)
 | walk_at "l3c")
local macro_rules | `(tactic| walk_at "l3") => `(tactic| repeat walk_at "l3s")
abbrev Lt:=Fin 4
def cp (l:Lt):Nat:=match l with
 | 0 => 101
 | 1 => 110
 | 2 => 119
 | 3 => 115
def step (l:Lt):Pt:=match l with
 | 0 => (1,0)
 | 1 => (0,1)
 | 2 => (-1,0)
 | 3 => (0,-1)
def lt1 (l:Lt):Str:=⟨#[cp l]⟩
def wStr (ls:List Lt):Str:=⟨(ls.map cp).toArray⟩
theorem lets_w (ls:List Lt):lets (wStr ls) = ls.map fun l => D.str (lt1 l):=by
 unfold lets wStr lt1; rw [List.toList_toArray,List.map_map]; rfl
theorem wStr_len (ls:List Lt):(wStr ls).length = ls.length:=by
 show (ls.map cp).toArray.size = _; rw [List.size_toArray,List.length_map]
theorem cp_inj:∀ {a b:Lt},cp a = cp b→a = b:=by decide
theorem wStr_inj {as bs:List Lt} (h:wStr as = wStr bs):as = bs:=by
 have e:as.map cp = bs.map cp:=by
  have:=congrArg (fun z:Str => z.cps.toList) h
  simpa [wStr] using this
 exact (List.map_inj_right fun a b hab => cp_inj hab).mp e
def adp (s p:Pt):Pt:=(p.1 + s.1,p.2 + s.2)
def endp (c:Pt) (ls:List Lt):Pt:=ls.foldl (fun p l => adp (step l) p) c
def path (c:Pt) (ls:List Lt):List Pt:=(List.range (ls.length + 1)).map fun i => endp c (ls.take i)
theorem endp_snoc (c:Pt) (ls:List Lt) (l:Lt):endp c (ls++[l]) = adp (step l) (endp c ls):=by unfold endp; rw [List.foldl_append]; rfl
theorem path_len (c:Pt) (ls:List Lt):(path c ls).length = ls.length + 1:=by unfold path; simp
theorem path_snoc (c:Pt) (ls:List Lt) (l:Lt):path c (ls++[l]) = path c ls++[adp (step l) (endp c ls)]:=by
 unfold path
 rw [List.length_append,List.length_singleton,List.range_succ (n:=ls.length + 1),List.map_append]
 congr 1
 ·refine List.map_congr_left fun i hi => ?_
  rw [List.mem_range] at hi
  rw [List.take_append_of_le_length (by omega)]
 ·rw [List.map_singleton,List.take_of_length_le (by simp),endp_snoc]
theorem path_get (c:Pt) (ls:List Lt) (i:Nat):(path c ls)[i]? = if i≤ls.length then some (endp c (ls.take i)) else none:=by
 unfold path
 rw [List.getElem?_map]
 split
 ·rw [List.getElem?_range (by omega)]; rfl
 ·rw [List.getElem?_eq_none (by rw [List.length_range]; omega)]; rfl
theorem path_last (c:Pt) (ls:List Lt):atI ((path c ls).map prP) (-1) = some (.tup [.int (endp c ls).1,.int (endp c ls).2]):=by
 unfold atI ixN
 rw [List.length_map,path_len,if_neg (by omega),if_pos (by omega),Option.bind_some,List.getElem?_map,show (-1 + ((ls.length + 1:Nat):Int)).toNat = ls.length from by omega,path_get,if_pos (Nat.le_refl _),List.take_length]
 rfl
theorem wStr_app (as bs:List Lt):wStr as++wStr bs = wStr (as++bs):=by
 show (⟨(as.map cp).toArray++(bs.map cp).toArray⟩:Str) = ⟨_⟩
 congr 1
 rw [List.map_append]; simp
theorem g_addZ {y z:Str} {H:Hp3} {Q:VK3} (hl:y.length + z.length≤sizeLine) (q:Q (.str (y++z)) H):r3add (.str y) (.str z) H Q:=⟨hl,q⟩
theorem g_ixZ {z:Str} {i:Int} {c:Nat} {H:Hp3} {Q:VK3} (hz:z.length≤sizeLine) (h:atI z.cps.toList i = some c) (q:Q (.str ⟨#[c]⟩) H):r3ix (.str z) (.int i) H Q:=by
 simp only [r3ix,h]; exact ⟨hz,q⟩
theorem cp_small (l:Lt):cp l < 0x110000:=by revert l; decide
theorem strOk_w (ls:List Lt):PyData.strOk (wStr ls) = true:=by
 show (ls.map cp).toArray.all (· < 0x110000) = true
 rw [List.all_toArray,List.all_map,List.all_eq_true]
 intro l _
 exact decide_eq_true (cp_small l)
theorem pyH_w (H:Hp3) (ls:List Lt):pyH H (.str (wStr ls)) = some (.str (wStr ls)):=by
 show (if PyData.strOk (wStr ls) = true then some (PyData.str (wStr ls)) else none) = _
 rw [if_pos (strOk_w ls)]
theorem eqv_w (as bs:List Lt):PyData.eqv (.str (wStr as)) (.str (wStr bs)) = decide (as = bs):=by
 simp only [PyData.eqv]
 by_cases h:as = bs
 ·subst h; simp
 ·rw [decide_eq_false h]
  exact beq_eq_false_iff_ne.mpr fun z => h (wStr_inj z)
theorem g_eqW {as bs:List Lt} {H:Hp3} {Q:VK3} (q:Q (.bl (decide (as = bs))) H):r3eq (.str (wStr as)) (.str (wStr bs)) H Q:=by
 simp only [r3eq,pyH_w,eqv_w]; exact q
def opp (l:Lt):Lt:=match l with
 | 0 => 2
 | 1 => 3
 | 2 => 0
 | 3 => 1
def bk (ls:List Lt):List Lt:=(ls.map opp).reverse
theorem wStr_le (ls:List Lt) (h:ls.length≤1000):(wStr ls).length≤sizeLine:=by rw [wStr_len,sizeLine_n]; omega
theorem cut3_mapN {α β:Type} (xs:List α) (f:α→β) (lo hi:Option Int):cut3 (xs.map f) lo hi = (cut3 xs lo hi).map f:=by
 unfold cut3
 rw [List.length_map,← List.map_drop,← List.map_take]
theorem cut_take (ls:List Lt) (n:Nat):cutZ (wStr ls) none (some (n:Int)) = wStr (ls.take n):=by
 unfold cutZ wStr
 rw [List.toList_toArray,cut3_mapN]
 congr 2
 unfold cut3 HT.sIx
 simp only []
 rw [if_neg (by omega),Int.toNat_natCast,List.drop_zero,Nat.sub_zero]
 by_cases h:n≤ls.length
 ·rw [Nat.min_eq_left h]
 ·rw [Nat.min_eq_right (by omega),List.take_length,List.take_of_length_le (by omega)]
theorem cut_drop (ls:List Lt) (n:Nat):cutZ (wStr ls) (some (n:Int)) none = wStr (ls.drop n):=by
 unfold cutZ wStr
 rw [List.toList_toArray,cut3_mapN]
 congr 2
 unfold cut3 HT.sIx
 simp only []
 rw [if_neg (by omega),Int.toNat_natCast]
 by_cases h:n≤ls.length
 ·rw [Nat.min_eq_left h,List.take_of_length_le (by rw [List.length_drop]; exact Nat.le_refl _)]
 ·rw [Nat.min_eq_right (by omega),List.drop_length,List.drop_of_length_le (by omega)]; simp
def rot (q:Nat) (l:Lt):Lt:=match q with
 | 0 => l
 | 1 => l + 1
 | 2 => l + 2
 | _ => l + 3
def mir (l:Lt):Lt:=match l with
 | 0 => 2
 | 1 => 1
 | 2 => 0
 | 3 => 3
def tl (k:Int) (l:Lt):Lt:=rot (k % 4).toNat (if 4≤k then mir l else l)
theorem k8 {k:Int} (h0:0≤k) (h1:k < 8):k = 0∨k = 1∨k = 2∨k = 3∨k = 4∨k = 5∨k = 6∨k = 7:=by
 obtain ⟨n,rfl⟩:=Int.eq_ofNat_of_zero_le h0
 have:∀ n:Fin 8,((n.val:Nat):Int) = 0∨((n.val:Nat):Int) = 1∨((n.val:Nat):Int) = 2∨((n.val:Nat):Int) = 3∨((n.val:Nat):Int) = 4∨((n.val:Nat):Int) = 5∨((n.val:Nat):Int) = 6∨((n.val:Nat):Int) = 7:=by decide
 exact this ⟨n,Int.ofNat_lt.mp h1⟩
def beg (ls:List Lt) (n:Nat):List Lt:=ls.drop n++ls.take n
theorem g_lenW {ls:List Lt} {H:Hp3} {Q:VK3} (hl:ls.length≤1000) (q:Q (.int ls.length) H):r3len [.str (wStr ls)] H Q:=⟨wStr_le ls hl,by rw [wStr_len]; exact q⟩
def stp:Nat→Pt
 | 0 => (1,0)
 | 1 => (0,1)
 | 2 => (-1,0)
 | _ => (0,-1)
def lft (p:Pt):Nat→Pt
 | 0 => (p.1,p.2)
 | 1 => (p.1 - 1,p.2)
 | 2 => (p.1 - 1,p.2 - 1)
 | _ => (p.1,p.2 - 1)
def rgt (p:Pt):Nat→Pt
 | 0 => (p.1,p.2 - 1)
 | 1 => (p.1,p.2)
 | 2 => (p.1 - 1,p.2)
 | _ => (p.1 - 1,p.2 - 1)
def go1 (p:Pt) (d:Nat):Pt:=(p.1 + (stp d).1,p.2 + (stp d).2)
structure Edge (S:List Pt) (p:Pt) (d:Nat):Prop where
 lt:d < 4
 l:lft p d∈S
 r:rgt p d∉S
inductive Rch (R:Pt→Pt→Prop) (p:Pt):Pt→Prop where
 | refl:Rch R p p
 | step {q r:Pt}:Rch R p q→R q r→Rch R p r
theorem Rch.trans {R:Pt→Pt→Prop} {p q r:Pt} (h:Rch R p q) (g:Rch R q r):Rch R p r:=by
 induction g with
 | refl => exact h
 | step _ s ih => exact .step ih s
theorem Rch.one {R:Pt→Pt→Prop} {p q:Pt} (h:R p q):Rch R p q:=.step .refl h
def RS (S:List Pt) (p q:Pt):Prop:=∃ d,Edge S p d∧q = go1 p d
def Crn (S:List Pt) (p:Pt):Prop:=∃ d,Edge S p d
theorem swap {R R':Pt→Pt→Prop} {C C' I:Pt→Prop} {a b:Pt} (h1:Rch R' a b) (h2:∀ p q,R p q→(R' p q∧¬ I p∧¬ I q)∨((p = a∨I p)∧(q = b∨I q))) (ha:¬ I a) (hb:¬ I b)
  (h4:∀ q,C' q→¬ I q∧(C q∨(Rch R' a q∧Rch R' q b))) (ca:C a) (cb:C b) (hS:∀ p q,C p→C q→Rch R p q):∀ p q,C' p→C' q→Rch R' p q:=by
 have A:∀ p q,¬ I p→Rch R p q→(¬ I q∧Rch R' p q)∨(I q∧Rch R' p a):=by
  intro p q hp h
  induction h with
  | refl => exact .inl ⟨hp,.refl⟩
  | @step q r _ s ih =>
   rcases h2 q r s with ⟨s1,s2,s3⟩ | ⟨s1,s2⟩
   ·rcases ih with ⟨_,i⟩ | ⟨i,_⟩
    ·exact .inl ⟨s3,.step i s1⟩
    ·exact absurd i s2
   ·have pa:Rch R' p a:=by
     rcases ih with ⟨i1,i2⟩ | ⟨_,i⟩
     ·rcases s1 with rfl | s1
      ·exact i2
      ·exact absurd s1 i1
     ·exact i
    rcases s2 with rfl | s2
    ·exact .inl ⟨hb,pa.trans h1⟩
    ·exact .inr ⟨s2,pa⟩
 have B:∀ p q,C p→C q→¬ I p→¬ I q→Rch R' p q:=fun p q cp cq np nq => by
  rcases A p q np (hS p q cp cq) with z | z
  ·exact z.2
  ·exact absurd z.1 nq
 intro p q cp cq
 obtain ⟨np,zp⟩:=h4 p cp
 obtain ⟨nq,zq⟩:=h4 q cq
 have D:∀ p,C p→¬ I p→Rch R' p q:=fun p cp np => by
  rcases zq with zq | zq
  ·exact B p q cp zq np nq
  ·exact (B p a cp ca np ha).trans zq.1
 rcases zp with zp | zp
 ·exact D p zp np
 ·exact zp.2.trans (D b cb hb)
def nx4:Nat→Nat
 | 0 => 1
 | 1 => 2
 | 2 => 3
 | _ => 0
def nb (c:Pt) (j:Nat):Pt:=(c.1 + (stp j).1,c.2 + (stp j).2)
def crn (c:Pt):Nat→Pt
 | 0 => (c.1 + 1,c.2)
 | 1 => (c.1 + 1,c.2 + 1)
 | 2 => (c.1,c.2 + 1)
 | _ => (c.1,c.2)
def dgl (c:Pt):Nat→Pt
 | 0 => (c.1 + 1,c.2 + 1)
 | 1 => (c.1 - 1,c.2 + 1)
 | 2 => (c.1 - 1,c.2 - 1)
 | _ => (c.1 + 1,c.2 - 1)
theorem stp0:stp 0 = (1,0):=rfl
theorem stp1:stp 1 = (0,1):=rfl
theorem stp2:stp 2 = (-1,0):=rfl
theorem stp3:stp 3 = (0,-1):=rfl
theorem nx40:nx4 0 = 1:=rfl
theorem nx41:nx4 1 = 2:=rfl
theorem nx42:nx4 2 = 3:=rfl
theorem nx43:nx4 3 = 0:=rfl
theorem lft0 (p:Pt):lft p 0 = (p.1,p.2):=rfl
theorem lft1 (p:Pt):lft p 1 = (p.1 - 1,p.2):=rfl
theorem lft2 (p:Pt):lft p 2 = (p.1 - 1,p.2 - 1):=rfl
theorem lft3 (p:Pt):lft p 3 = (p.1,p.2 - 1):=rfl
theorem rgt0 (p:Pt):rgt p 0 = (p.1,p.2 - 1):=rfl
theorem rgt1 (p:Pt):rgt p 1 = (p.1,p.2):=rfl
theorem rgt2 (p:Pt):rgt p 2 = (p.1 - 1,p.2):=rfl
theorem rgt3 (p:Pt):rgt p 3 = (p.1 - 1,p.2 - 1):=rfl
theorem crn0 (p:Pt):crn p 0 = (p.1 + 1,p.2):=rfl
theorem crn1 (p:Pt):crn p 1 = (p.1 + 1,p.2 + 1):=rfl
theorem crn2 (p:Pt):crn p 2 = (p.1,p.2 + 1):=rfl
theorem crn3 (p:Pt):crn p 3 = (p.1,p.2):=rfl
theorem dgl0 (p:Pt):dgl p 0 = (p.1 + 1,p.2 + 1):=rfl
theorem dgl1 (p:Pt):dgl p 1 = (p.1 - 1,p.2 + 1):=rfl
theorem dgl2 (p:Pt):dgl p 2 = (p.1 - 1,p.2 - 1):=rfl
theorem dgl3 (p:Pt):dgl p 3 = (p.1 + 1,p.2 - 1):=rfl
local macro_rules | `(tactic| walk_at "pp") => `(tactic| (refine Prod.ext ?_ ?_ <;> (simp only [stp0,stp1,stp2,stp3,nx40,nx41,nx42,nx43,lft0,lft1,lft2,lft3,rgt0,rgt1,rgt2,rgt3,crn0,crn1,crn2,crn3,dgl0,dgl1,dgl2,dgl3,nb,go1]; try omega)))
theorem c4 {j:Nat} (h:j < 4):j = 0∨j = 1∨j = 2∨j = 3:=(by decide:∀ j:Fin 4,j.val = 0∨j.val = 1∨j.val = 2∨j.val = 3) ⟨j,h⟩
section
variable {S T:List Pt} {c p:Pt} {d j:Nat}
theorem nx4_lt:nx4 j < 4:=by unfold nx4; split <;> omega
theorem rgt_c (hd:d < 4) (h:rgt p d = c):∃ j,j < 4∧p = crn c (nx4 j)∧go1 p d = crn c j∧lft p d = nb c j:=by
 subst h
 rcases c4 hd with rfl | rfl | rfl | rfl
 ·exact ⟨1,by omega,by walk_at "pp",by walk_at "pp",by walk_at "pp"⟩
 ·exact ⟨2,by omega,by walk_at "pp",by walk_at "pp",by walk_at "pp"⟩
 ·exact ⟨3,by omega,by walk_at "pp",by walk_at "pp",by walk_at "pp"⟩
 ·exact ⟨0,by omega,by walk_at "pp",by walk_at "pp",by walk_at "pp"⟩
theorem lft_c (hd:d < 4) (h:lft p d = c):∃ j,j < 4∧p = crn c j∧go1 p d = crn c (nx4 j)∧rgt p d = nb c j:=by
 subst h
 rcases c4 hd with rfl | rfl | rfl | rfl
 ·exact ⟨3,by omega,by walk_at "pp",by walk_at "pp",by walk_at "pp"⟩
 ·exact ⟨0,by omega,by walk_at "pp",by walk_at "pp",by walk_at "pp"⟩
 ·exact ⟨1,by omega,by walk_at "pp",by walk_at "pp",by walk_at "pp"⟩
 ·exact ⟨2,by omega,by walk_at "pp",by walk_at "pp",by walk_at "pp"⟩
theorem side_in (hj:j < 4):∃ d,d < 4∧lft (crn c j) d = c∧rgt (crn c j) d = nb c j∧go1 (crn c j) d = crn c (nx4 j):=by
 rcases c4 hj with rfl | rfl | rfl | rfl
 ·exact ⟨1,by omega,by walk_at "pp",by walk_at "pp",by walk_at "pp"⟩
 ·exact ⟨2,by omega,by walk_at "pp",by walk_at "pp",by walk_at "pp"⟩
 ·exact ⟨3,by omega,by walk_at "pp",by walk_at "pp",by walk_at "pp"⟩
 ·exact ⟨0,by omega,by walk_at "pp",by walk_at "pp",by walk_at "pp"⟩
theorem side_out (hj:j < 4):∃ d,d < 4∧lft (crn c (nx4 j)) d = nb c j∧rgt (crn c (nx4 j)) d = c∧go1 (crn c (nx4 j)) d = crn c j:=by
 rcases c4 hj with rfl | rfl | rfl | rfl
 ·exact ⟨3,by omega,by walk_at "pp",by walk_at "pp",by walk_at "pp"⟩
 ·exact ⟨0,by omega,by walk_at "pp",by walk_at "pp",by walk_at "pp"⟩
 ·exact ⟨1,by omega,by walk_at "pp",by walk_at "pp",by walk_at "pp"⟩
 ·exact ⟨2,by omega,by walk_at "pp",by walk_at "pp",by walk_at "pp"⟩
def Meet (p q:Pt):Prop:=q = (p.1,p.2)∨q = (p.1 - 1,p.2)∨q = (p.1 - 1,p.2 - 1)∨q = (p.1,p.2 - 1)
theorem meet_rgt (hd:d < 4):Meet p (rgt p d):=by
 rcases c4 hd with rfl | rfl | rfl | rfl
 ·exact .inr (.inr (.inr rfl))
 ·exact .inl rfl
 ·exact .inr (.inl rfl)
 ·exact .inr (.inr (.inl rfl))
theorem meet_go (hd:d < 4):Meet (go1 p d) (rgt p d):=by
 rcases c4 hd with rfl | rfl | rfl | rfl
 ·exact .inr (.inr (.inl (by walk_at "pp")))
 ·exact .inr (.inr (.inr (by walk_at "pp")))
 ·exact .inl (by walk_at "pp")
 ·exact .inr (.inl (by walk_at "pp"))
theorem meet_crn (hj:j < 4) {q:Pt} (h:Meet (crn c (nx4 j)) q):q = c∨q = nb c j∨q = nb c (nx4 j)∨q = dgl c j:=by
 rcases c4 hj with rfl | rfl | rfl | rfl
 ·rcases h with rfl | rfl | rfl | rfl
  ·exact .inr (.inr (.inr (by walk_at "pp")))
  ·exact .inr (.inr (.inl (by walk_at "pp")))
  ·exact .inl (by walk_at "pp")
  ·exact .inr (.inl (by walk_at "pp"))
 ·rcases h with rfl | rfl | rfl | rfl
  ·exact .inr (.inl (by walk_at "pp"))
  ·exact .inr (.inr (.inr (by walk_at "pp")))
  ·exact .inr (.inr (.inl (by walk_at "pp")))
  ·exact .inl (by walk_at "pp")
 ·rcases h with rfl | rfl | rfl | rfl
  ·exact .inl (by walk_at "pp")
  ·exact .inr (.inl (by walk_at "pp"))
  ·exact .inr (.inr (.inr (by walk_at "pp")))
  ·exact .inr (.inr (.inl (by walk_at "pp")))
 ·rcases h with rfl | rfl | rfl | rfl
  ·exact .inr (.inr (.inl (by walk_at "pp")))
  ·exact .inl (by walk_at "pp")
  ·exact .inr (.inl (by walk_at "pp"))
  ·exact .inr (.inr (.inr (by walk_at "pp")))
theorem crn_inj {i:Nat} (hi:i < 4) (hj:j < 4) (h:crn c i = crn c j):i = j:=by
 have h1:=congrArg Prod.fst h
 have h2:=congrArg Prod.snd h
 rcases c4 hi with rfl | rfl | rfl | rfl <;> rcases c4 hj with rfl | rfl | rfl | rfl <;> simp only [crn0,crn1,crn2,crn3] at h1 h2 <;> omega
end
section
variable {S T:List Pt} {c p:Pt} {d j:Nat}
theorem crn_mixed {u v:Pt} (hu:Meet p u) (hv:Meet p v) (iu:u∈S) (iv:v∉S):Crn S p:=by
 refine Classical.byContradiction fun h => ?_
 have e0:(p.1,p.2)∈S→(p.1,p.2 - 1)∈S:=fun z => Classical.byContradiction fun y => h ⟨0,by omega,z,y⟩
 have e1:(p.1 - 1,p.2)∈S→(p.1,p.2)∈S:=fun z => Classical.byContradiction fun y => h ⟨1,by omega,z,y⟩
 have e2:(p.1 - 1,p.2 - 1)∈S→(p.1 - 1,p.2)∈S:=fun z => Classical.byContradiction fun y => h ⟨2,by omega,z,y⟩
 have e3:(p.1,p.2 - 1)∈S→(p.1 - 1,p.2 - 1)∈S:=fun z => Classical.byContradiction fun y => h ⟨3,by omega,z,y⟩
 have all:(p.1,p.2)∈S:=by
  rcases hu with rfl | rfl | rfl | rfl
  ·exact iu
  ·exact e1 iu
  ·exact e1 (e2 iu)
  ·exact e1 (e2 (e3 iu))
 rcases hv with rfl | rfl | rfl | rfl
 ·exact iv all
 ·exact iv (e2 (e3 (e0 all)))
 ·exact iv (e3 (e0 all))
 ·exact iv (e0 all)
def Dg (S:List Pt):Prop:=∀ p:Pt,¬ ((p.1,p.2)∈S∧(p.1 - 1,p.2 - 1)∈S∧(p.1 - 1,p.2)∉S∧(p.1,p.2 - 1)∉S)∧¬ ((p.1 - 1,p.2)∈S∧(p.1,p.2 - 1)∈S∧(p.1,p.2)∉S∧(p.1 - 1,p.2 - 1)∉S)
theorem edge_one (h:Dg S) {e:Nat} (a:Edge S p d) (b:Edge S p e):d = e:=by
 obtain ⟨h1,h2⟩:=h p
 (refine Classical.byContradiction fun k_ => ?_; obtain ⟨a0,a1,a2⟩:=a; refine k_ ?_; clear k_)
 (refine Classical.byContradiction fun k_ => ?_; obtain ⟨b0,b1,b2⟩:=b; refine k_ ?_; clear k_)
 rcases c4 a0 with rfl | rfl | rfl | rfl <;> rcases c4 b0 with rfl | rfl | rfl | rfl
 ·rfl
 ·exact absurd a1 b2
 ·exact absurd ⟨a1,b1,b2,a2⟩ h1
 ·exact absurd b1 a2
 ·exact absurd b1 a2
 ·rfl
 ·exact absurd a1 b2
 ·exact absurd ⟨a1,b1,a2,b2⟩ h2
 ·exact absurd ⟨b1,a1,a2,b2⟩ h1
 ·exact absurd b1 a2
 ·rfl
 ·exact absurd a1 b2
 ·exact absurd a1 b2
 ·exact absurd ⟨b1,a1,b2,a2⟩ h2
 ·exact absurd b1 a2
 ·rfl
theorem crn_go (e:Edge S p d):Crn S (go1 p d):=by
 refine crn_mixed (u:=lft p d) (v:=rgt p d) ?_ (meet_go e.lt) e.l e.r
 rcases c4 e.lt with rfl | rfl | rfl | rfl
 ·exact .inr (.inl (by walk_at "pp"))
 ·exact .inr (.inr (.inl (by walk_at "pp")))
 ·exact .inr (.inr (.inr (by walk_at "pp")))
 ·exact .inl (by walk_at "pp")
theorem meet_c (hj:j < 4):Meet (crn c j) c:=by
 rcases c4 hj with rfl | rfl | rfl | rfl
 ·exact .inr (.inl (by walk_at "pp"))
 ·exact .inr (.inr (.inl (by walk_at "pp")))
 ·exact .inr (.inr (.inr (by walk_at "pp")))
 ·exact .inl (by walk_at "pp")
theorem meet_nb (hj:j < 4):Meet (crn c (nx4 j)) (nb c j):=by
 rcases c4 hj with rfl | rfl | rfl | rfl
 ·exact .inr (.inr (.inr (by walk_at "pp")))
 ·exact .inl (by walk_at "pp")
 ·exact .inr (.inl (by walk_at "pp"))
 ·exact .inr (.inr (.inl (by walk_at "pp")))
theorem meet_nb' (hj:j < 4):Meet (crn c (nx4 j)) (nb c (nx4 j)):=by
 rcases c4 hj with rfl | rfl | rfl | rfl
 ·exact .inr (.inl (by walk_at "pp"))
 ·exact .inr (.inr (.inl (by walk_at "pp")))
 ·exact .inr (.inr (.inr (by walk_at "pp")))
 ·exact .inl (by walk_at "pp")
theorem dg_full (h:Dg S) (hj:j < 4) (h1:nb c j∈S) (h2:nb c (nx4 j)∈S) (hc:c∉S):dgl c j∈S:=by
 refine Classical.byContradiction fun z => ?_
 obtain ⟨g1,g2⟩:=h (crn c (nx4 j))
 rcases c4 hj with rfl | rfl | rfl | rfl
 ·refine g2 ⟨?_,?_,?_,?_⟩
  ·rw [show ((crn c (nx4 0)).1 - 1,(crn c (nx4 0)).2) = nb c (nx4 0) from by walk_at "pp"]; exact h2
  ·rw [show ((crn c (nx4 0)).1,(crn c (nx4 0)).2 - 1) = nb c 0 from by walk_at "pp"]; exact h1
  ·rw [show ((crn c (nx4 0)).1,(crn c (nx4 0)).2) = dgl c 0 from by walk_at "pp"]; exact z
  ·rw [show ((crn c (nx4 0)).1 - 1,(crn c (nx4 0)).2 - 1) = c from by walk_at "pp"]; exact hc
 ·refine g1 ⟨?_,?_,?_,?_⟩
  ·rw [show ((crn c (nx4 1)).1,(crn c (nx4 1)).2) = nb c 1 from by walk_at "pp"]; exact h1
  ·rw [show ((crn c (nx4 1)).1 - 1,(crn c (nx4 1)).2 - 1) = nb c (nx4 1) from by walk_at "pp"]; exact h2
  ·rw [show ((crn c (nx4 1)).1 - 1,(crn c (nx4 1)).2) = dgl c 1 from by walk_at "pp"]; exact z
  ·rw [show ((crn c (nx4 1)).1,(crn c (nx4 1)).2 - 1) = c from by walk_at "pp"]; exact hc
 ·refine g2 ⟨?_,?_,?_,?_⟩
  ·rw [show ((crn c (nx4 2)).1 - 1,(crn c (nx4 2)).2) = nb c 2 from by walk_at "pp"]; exact h1
  ·rw [show ((crn c (nx4 2)).1,(crn c (nx4 2)).2 - 1) = nb c (nx4 2) from by walk_at "pp"]; exact h2
  ·rw [show ((crn c (nx4 2)).1,(crn c (nx4 2)).2) = c from by walk_at "pp"]; exact hc
  ·rw [show ((crn c (nx4 2)).1 - 1,(crn c (nx4 2)).2 - 1) = dgl c 2 from by walk_at "pp"]; exact z
 ·refine g1 ⟨?_,?_,?_,?_⟩
  ·rw [show ((crn c (nx4 3)).1,(crn c (nx4 3)).2) = nb c (nx4 3) from by walk_at "pp"]; exact h2
  ·rw [show ((crn c (nx4 3)).1 - 1,(crn c (nx4 3)).2 - 1) = nb c 3 from by walk_at "pp"]; exact h1
  ·rw [show ((crn c (nx4 3)).1 - 1,(crn c (nx4 3)).2) = c from by walk_at "pp"]; exact hc
  ·rw [show ((crn c (nx4 3)).1,(crn c (nx4 3)).2 - 1) = dgl c 3 from by walk_at "pp"]; exact z
theorem nx4_inj {i:Nat} (hi:i < 4) (hj:j < 4) (h:nx4 i = nx4 j):i = j:=by
 rcases c4 hi with rfl | rfl | rfl | rfl <;> rcases c4 hj with rfl | rfl | rfl | rfl <;> first | rfl | cases h
theorem nx4_4 (hj:j < 4):nx4 (nx4 (nx4 (nx4 j))) = j:=by
 rcases c4 hj with rfl | rfl | rfl | rfl <;> rfl
end
structure One (S:List Pt):Prop where
 dg:Dg S
 all:∀ p q,Crn S p→Crn S q→Rch (RS S) p q
section
variable {S T:List Pt} {c:Pt} {ja jb:Nat}
theorem one_step (h:One S) (hT:∀ x,x∈T↔x∈S∨x = c) (hc:c∉S) (hja:ja < 4) (hjb:jb < 4) (a1:nb c ja∈S) (a2:nb c (nx4 ja)∉S) (b1:nb c jb∉S) (b2:nb c (nx4 jb)∈S)
  (ua:∀ j,j < 4→nb c j∈S→nb c (nx4 j)∉S→j = ja) (ub:∀ j,j < 4→nb c j∉S→nb c (nx4 j)∈S→j = jb):∀ p q,Crn T p→Crn T q→Rch (RS T) p q:=by
 have pred:∀ j,j < 4→∃ i,i < 4∧nx4 i = j:=fun j hj => ⟨nx4 (nx4 (nx4 j)),nx4_lt,nx4_4 hj⟩
 have cT:c∈T:=(hT c).mpr (.inr rfl)
 have full:∀ j,j < 4→nb c j∈S→nb c (nx4 j)∈S→∀ q,Meet (crn c (nx4 j)) q→q∈T:=by
  intro j hj h1 h2 q hq
  rcases meet_crn hj hq with rfl | rfl | rfl | rfl
  ·exact cT
  ·exact (hT _).mpr (.inl h1)
  ·exact (hT _).mpr (.inl h2)
  ·exact (hT _).mpr (.inl (dg_full h.dg hj h1 h2 hc))
 have nne:∀ j,j < 4→nb c j≠c:=by
  intro j hj e
  have e1:=congrArg Prod.fst e
  have e2:=congrArg Prod.snd e
  rcases c4 hj with rfl | rfl | rfl | rfl <;> simp only [nb,stp0,stp1,stp2,stp3] at e1 e2 <;> omega
 have new:∀ j,j < 4→nb c j∉S→RS T (crn c j) (crn c (nx4 j)):=by
  intro j hj h1
  (refine Classical.byContradiction fun k_ => ?_; obtain ⟨d,hd,e1,e2,e3⟩:=side_in (c:=c) hj; refine k_ ?_; clear k_)
  refine ⟨d,⟨hd,by rw [e1]; exact cT,?_⟩,e3.symm⟩
  rw [e2]
  intro z
  rcases (hT _).mp z with z | z
  ·exact h1 z
  ·exact nne j hj z
 have fwd:∀ j,j < 4→nb c j∉S→Rch (RS T) (crn c j) (crn c (nx4 jb)):=by
  intro j hj h1
  have r1:=new j hj h1
  by_cases g1:nb c (nx4 j)∈S
  ·have:=ub j hj h1 g1; subst this; exact .one r1
  have r2:=new _ nx4_lt g1
  by_cases g2:nb c (nx4 (nx4 j))∈S
  ·have:=ub _ nx4_lt g1 g2; subst this; exact .step (.one r1) r2
  have r3:=new _ nx4_lt g2
  by_cases g3:nb c (nx4 (nx4 (nx4 j)))∈S
  ·have:=ub _ nx4_lt g2 g3; subst this; exact .step (.step (.one r1) r2) r3
  exfalso
  have:ja = j∨ja = nx4 j∨ja = nx4 (nx4 j)∨ja = nx4 (nx4 (nx4 j)):=by
   rcases c4 hj with rfl | rfl | rfl | rfl <;> rcases c4 hja with rfl | rfl | rfl | rfl <;> decide
  rcases this with z | z | z | z <;> rw [z] at a1
  ·exact h1 a1
  ·exact g1 a1
  ·exact g2 a1
  ·exact g3 a1
 have bwd:∀ j,j < 4→nb c j∉S→Rch (RS T) (crn c (nx4 ja)) (crn c j):=by
  intro j hj h1
  (refine Classical.byContradiction fun k_ => ?_; obtain ⟨i1,l1,rfl⟩:=pred j hj; refine k_ ?_; clear k_)
  by_cases g1:nb c i1∈S
  ·have:=ua i1 l1 g1 h1; subst this; exact .refl
  have r1:=new i1 l1 g1
  (refine Classical.byContradiction fun k_ => ?_; obtain ⟨i2,l2,rfl⟩:=pred i1 l1; refine k_ ?_; clear k_)
  by_cases g2:nb c i2∈S
  ·have:=ua i2 l2 g2 g1; subst this; exact .one r1
  have r2:=new i2 l2 g2
  (refine Classical.byContradiction fun k_ => ?_; obtain ⟨i3,l3,rfl⟩:=pred i2 l2; refine k_ ?_; clear k_)
  by_cases g3:nb c i3∈S
  ·have:=ua i3 l3 g3 g2; subst this; exact .step (.one r2) r1
  exfalso
  have:ja = i3∨ja = nx4 i3∨ja = nx4 (nx4 i3)∨ja = nx4 (nx4 (nx4 i3)):=by
   rcases c4 l3 with rfl | rfl | rfl | rfl <;> rcases c4 hja with rfl | rfl | rfl | rfl <;> decide
  rcases this with z | z | z | z <;> rw [z] at a1
  ·exact g3 a1
  ·exact g2 a1
  ·exact g1 a1
  ·exact h1 a1
 refine swap (R:=RS S) (C:=Crn S) (I:=fun q => ∃ j,j < 4∧q = crn c (nx4 j)∧nb c j∈S∧nb c (nx4 j)∈S) (a:=crn c (nx4 ja)) (b:=crn c (nx4 jb)) (fwd _ nx4_lt a2) ?_ ?_ ?_ ?_ ?_ ?_ h.all
 ·intro p q z_
  (refine Classical.byContradiction fun k_ => ?_; obtain ⟨d,e,rfl⟩:=z_; refine k_ ?_; clear k_)
  by_cases hr:rgt p d = c
  ·refine .inr ?_
   (refine Classical.byContradiction fun k_ => ?_; obtain ⟨j,hj,h1,h2,h3⟩:=rgt_c e.lt hr; refine k_ ?_; clear k_)
   have hjS:nb c j∈S:=by rw [← h3]; exact e.l
   constructor
   ·by_cases g:nb c (nx4 j)∈S
    ·exact .inr ⟨j,hj,h1,hjS,g⟩
    ·have:=ua j hj hjS g; subst this; exact .inl h1
   ·(refine Classical.byContradiction fun k_ => ?_; obtain ⟨i,hi,rfl⟩:=pred j hj; refine k_ ?_; clear k_)
    by_cases g:nb c i∈S
    ·exact .inr ⟨i,hi,h2,g,hjS⟩
    ·have:=ub i hi g hjS; subst this; exact .inl h2
  ·have nT:rgt p d∉T:=fun z => by
    rcases (hT _).mp z with z | z
    ·exact e.r z
    ·exact hr z
   refine .inl ⟨⟨d,⟨e.lt,(hT _).mpr (.inl e.l),nT⟩,rfl⟩,?_,?_⟩
   ·rintro ⟨j,hj,rfl,h1,h2⟩
    exact nT (full j hj h1 h2 _ (meet_rgt e.lt))
   ·rintro ⟨j,hj,e1,h1,h2⟩
    exact nT (full j hj h1 h2 _ (by rw [← e1]; exact meet_go e.lt))
 ·rintro ⟨j,hj,e,h1,h2⟩
  have:=nx4_inj hja hj (crn_inj nx4_lt nx4_lt e); subst this
  exact a2 h2
 ·rintro ⟨j,hj,e,h1,h2⟩
  have:=nx4_inj hjb hj (crn_inj nx4_lt nx4_lt e); subst this
  exact b1 h1
 ·rintro q ⟨d,e⟩
  refine ⟨?_,?_⟩
  ·rintro ⟨j,hj,rfl,h1,h2⟩
   exact e.r (full j hj h1 h2 _ (meet_rgt e.lt))
  ·rcases (hT _).mp e.l with z | z
   ·exact .inl ⟨d,e.lt,z,fun y => e.r ((hT _).mpr (.inl y))⟩
   ·(refine Classical.byContradiction fun k_ => ?_; obtain ⟨j,hj,rfl,h2,h3⟩:=lft_c e.lt z; refine k_ ?_; clear k_)
    have g:nb c j∉S:=fun y => e.r (by rw [h3]; exact (hT _).mpr (.inl y))
    exact .inr ⟨bwd j hj g,fwd j hj g⟩
 ·exact crn_mixed (meet_nb hja) (meet_c nx4_lt) a1 hc
 ·exact crn_mixed (meet_nb' hjb) (meet_c nx4_lt) b2 hc
end
section
variable {S T:List Pt} {p q:Pt} {d:Nat}
theorem Edge.congr (h:∀ x,x∈S↔x∈T) (e:Edge S p d):Edge T p d:=⟨e.lt,(h _).mp e.l,fun z => e.r ((h _).mpr z)⟩
theorem Rch.mono {R R':Pt→Pt→Prop} (h:∀ p q,R p q→R' p q) (r:Rch R p q):Rch R' p q:=by
 induction r with
 | refl => exact .refl
 | step _ s ih => exact .step ih (h _ _ s)
theorem One.congr (h:∀ x,x∈S↔x∈T) (o:One S):One T:=by
 refine ⟨fun p => ?_,fun p q ⟨d,e⟩ ⟨d',e'⟩ => ?_⟩
 ·obtain ⟨g1,g2⟩:=o.dg p
  rw [h,h,h,h] at g1 g2
  exact ⟨g1,g2⟩
 ·exact (o.all p q ⟨d,e.congr fun x => (h x).symm⟩ ⟨d',e'.congr fun x => (h x).symm⟩).mono fun a b ⟨d,e,z⟩ => ⟨d,e.congr h,z⟩
theorem one_one:One [((0,0):Pt)]:=by
 have e0:Edge [((0,0):Pt)] (0,0) 0:=⟨by omega,by simp [lft0],by simp [rgt0]⟩
 have e1:Edge [((0,0):Pt)] (1,0) 1:=⟨by omega,by simp [lft1],by simp [rgt1]⟩
 have e2:Edge [((0,0):Pt)] (1,1) 2:=⟨by omega,by simp [lft2],by simp [rgt2]⟩
 have e3:Edge [((0,0):Pt)] (0,1) 3:=⟨by omega,by simp [lft3],by simp [rgt3]⟩
 have s0:RS [((0,0):Pt)] (0,0) (1,0):=⟨0,e0,rfl⟩
 have s1:RS [((0,0):Pt)] (1,0) (1,1):=⟨1,e1,rfl⟩
 have s2:RS [((0,0):Pt)] (1,1) (0,1):=⟨2,e2,rfl⟩
 have s3:RS [((0,0):Pt)] (0,1) (0,0):=⟨3,e3,rfl⟩
 have four:∀ p,Crn [((0,0):Pt)] p→Rch (RS [((0,0):Pt)]) p (0,0)∧Rch (RS [((0,0):Pt)]) (0,0) p:=by
  rintro p ⟨d,e⟩
  have el:=List.mem_singleton.mp e.l
  obtain ⟨p1,p2⟩:=p
  rcases c4 e.lt with rfl | rfl | rfl | rfl
  ·simp only [lft0,Prod.mk.injEq] at el
   obtain ⟨rfl,rfl⟩:=el
   exact ⟨.refl,.refl⟩
  ·simp only [lft1,Prod.mk.injEq] at el
   have:p1 = 1:=by omega
   subst this
   obtain ⟨_,rfl⟩:=el
   exact ⟨.step (.step (.one s1) s2) s3,.one s0⟩
  ·simp only [lft2,Prod.mk.injEq] at el
   have a1:p1 = 1:=by omega
   have a2:p2 = 1:=by omega
   subst a1 a2
   exact ⟨.step (.one s2) s3,.step (.one s0) s1⟩
  ·simp only [lft3,Prod.mk.injEq] at el
   have a2:p2 = 1:=by omega
   subst a2
   obtain ⟨rfl,_⟩:=el
   exact ⟨.one s3,.step (.step (.one s0) s1) s2⟩
 refine ⟨fun p => ?_,fun p q hp hq => (four p hp).1.trans (four q hq).2⟩
 simp only [List.mem_singleton,Prod.mk.injEq]
 constructor
 ·rintro ⟨h1,h2,_⟩; omega
 ·rintro ⟨h1,h2,_⟩; omega
theorem lft_mv (s:Pt) (hd:d < 4):lft (p.1 + s.1,p.2 + s.2) d = ((lft p d).1 + s.1,(lft p d).2 + s.2):=by
 rcases c4 hd with rfl | rfl | rfl | rfl <;> walk_at "pp"
theorem rgt_mv (s:Pt) (hd:d < 4):rgt (p.1 + s.1,p.2 + s.2) d = ((rgt p d).1 + s.1,(rgt p d).2 + s.2):=by
 rcases c4 hd with rfl | rfl | rfl | rfl <;> walk_at "pp"
theorem go_mv (s:Pt):go1 (p.1 + s.1,p.2 + s.2) d = ((go1 p d).1 + s.1,(go1 p d).2 + s.2):=by
 refine Prod.ext ?_ ?_ <;> simp only [go1] <;> omega
theorem mem_mvd {s:Pt} {x:Pt}:(x.1 + s.1,x.2 + s.2)∈S.map (fun q => (q.1 + s.1,q.2 + s.2))↔x∈S:=by
 rw [List.mem_map]
 constructor
 ·rintro ⟨y,hy,e⟩
  have e1:=congrArg Prod.fst e
  have e2:=congrArg Prod.snd e
  have:y = x:=Prod.ext (by dsimp only at e1; omega) (by dsimp only at e2; omega)
  rw [← this]; exact hy
 ·exact fun h => ⟨x,h,rfl⟩
theorem edge_mv (s:Pt):Edge (S.map (fun q => (q.1 + s.1,q.2 + s.2))) (p.1 + s.1,p.2 + s.2) d↔Edge S p d:=by
 constructor
 ·rintro ⟨h1,h2,h3⟩
  rw [lft_mv s h1,mem_mvd] at h2
  rw [rgt_mv s h1,mem_mvd] at h3
  exact ⟨h1,h2,h3⟩
 ·rintro ⟨h1,h2,h3⟩
  refine ⟨h1,?_,?_⟩
  ·rw [lft_mv s h1,mem_mvd]; exact h2
  ·rw [rgt_mv s h1,mem_mvd]; exact h3
theorem One.mv (s:Pt) (o:One S):One (S.map (fun q => (q.1 + s.1,q.2 + s.2))):=by
 have bk:∀ p:Pt,p = ((p.1 - s.1) + s.1,(p.2 - s.2) + s.2):=fun p => Prod.ext (by dsimp only; omega) (by dsimp only; omega)
 refine ⟨fun p => ?_,fun p q ⟨d,e⟩ ⟨d',e'⟩ => ?_⟩
 ·obtain ⟨g1,g2⟩:=o.dg (p.1 - s.1,p.2 - s.2)
  have m:∀ a b:Int,(a,b)∈S.map (fun q => (q.1 + s.1,q.2 + s.2))↔(a - s.1,b - s.2)∈S:=fun a b => by rw [← mem_mvd (S:=S) (s:=s) (x:=(a - s.1,b - s.2)),show ((a - s.1,b - s.2).1 + s.1,(a - s.1,b - s.2).2 + s.2) = (a,b) from Prod.ext (by dsimp only; omega) (by dsimp only; omega)]
  rw [m,m,m,m]
  dsimp only at g1 g2
  rw [show p.1 - 1 - s.1 = p.1 - s.1 - 1 from by omega,show p.2 - 1 - s.2 = p.2 - s.2 - 1 from by omega]
  exact ⟨g1,g2⟩
 ·rw [bk p] at e ⊢
  rw [bk q] at e' ⊢
  have r:=o.all _ _ ⟨d,(edge_mv s (p:=(p.1 - s.1,p.2 - s.2))).mp e⟩ ⟨d',(edge_mv s (p:=(q.1 - s.1,q.2 - s.2))).mp e'⟩
  have mvR:∀ a b,Rch (RS S) a b→Rch (RS (S.map (fun q => (q.1 + s.1,q.2 + s.2)))) (a.1 + s.1,a.2 + s.2) (b.1 + s.1,b.2 + s.2):=by
   intro a b h
   induction h with
   | refl => exact .refl
   | step _ t ih =>
    (refine Classical.byContradiction fun k_ => ?_; obtain ⟨d,e,rfl⟩:=t; refine k_ ?_; clear k_)
    exact .step ih ⟨d,(edge_mv s).mpr e,(go_mv s).symm⟩
  exact mvR _ _ r
def outD (S:List Pt) (p:Pt):Nat:=if lft p 0∈S∧rgt p 0∉S then 0 else if lft p 1∈S∧rgt p 1∉S then 1 else if lft p 2∈S∧rgt p 2∉S then 2 else 3
theorem outD_edge (h:Crn S p):Edge S p (outD S p):=by
 obtain ⟨d,e⟩:=h
 unfold outD
 by_cases h0:lft p 0∈S∧rgt p 0∉S
 ·rw [if_pos h0]; exact ⟨by omega,h0.1,h0.2⟩
 rw [if_neg h0]
 by_cases h1:lft p 1∈S∧rgt p 1∉S
 ·rw [if_pos h1]; exact ⟨by omega,h1.1,h1.2⟩
 rw [if_neg h1]
 by_cases h2:lft p 2∈S∧rgt p 2∉S
 ·rw [if_pos h2]; exact ⟨by omega,h2.1,h2.2⟩
 rw [if_neg h2]
 rcases c4 e.lt with rfl | rfl | rfl | rfl
 ·exact absurd ⟨e.l,e.r⟩ h0
 ·exact absurd ⟨e.l,e.r⟩ h1
 ·exact absurd ⟨e.l,e.r⟩ h2
 ·exact e
def itr (S:List Pt) (p:Pt):Nat→Pt
 | 0 => p
 | n + 1 => go1 (itr S p n) (outD S (itr S p n))
theorem crn_itr (h:Crn S p):∀ n,Crn S (itr S p n)
 | 0 => h
 | n + 1 => crn_go (outD_edge (crn_itr h n))
theorem rch_itr (g:Dg S) (h:Rch (RS S) p q):∃ n,q = itr S p n:=by
 induction h with
 | refl => exact ⟨0,rfl⟩
 | step _ t ih =>
  obtain ⟨n,rfl⟩:=ih
  (refine Classical.byContradiction fun k_ => ?_; obtain ⟨d,e,rfl⟩:=t; refine k_ ?_; clear k_)
  refine ⟨n + 1,?_⟩
  show go1 _ d = go1 _ _
  rw [edge_one g e (outD_edge ⟨d,e⟩)]
theorem itr_add (m:Nat):∀ n,itr S p (m + n) = itr S (itr S p m) n
 | 0 => rfl
 | n + 1 => by
  show go1 (itr S p (m + n)) (outD S (itr S p (m + n))) = _
  rw [itr_add m n]; rfl
theorem least {P:Nat→Prop} (h:∃ n,P n):∃ n,P n∧∀ m,m < n→¬ P m:=by
 obtain ⟨n,hn⟩:=h
 have:∀ k n,n≤k→P n→∃ n,P n∧∀ m,m < n→¬ P m:=by
  intro k
  induction k with
  | zero => intro n hk hP; exact ⟨n,hP,fun m hm => by omega⟩
  | succ k ih =>
   intro n hk hP
   by_cases z:∃ m,m < n∧P m
   ·(refine Classical.byContradiction fun k_ => ?_; obtain ⟨m,hm,hPm⟩:=z; refine k_ ?_; clear k_)
    exact ih m (by omega) hPm
   ·exact ⟨n,hP,fun m hm hPm => z ⟨m,hm,hPm⟩⟩
 exact this n n (Nat.le_refl _) hn
structure Rnd (S:List Pt) (p:Pt) (t:Nat):Prop where
 pos:0 < t
 back:itr S p t = p
 not:∀ m,0 < m→m < t→itr S p m≠p
 all:∀ q,Crn S q→∃ m,m < t∧q = itr S p m
 inj:∀ i j,i < j→j < t→itr S p i≠itr S p j
theorem One.rnd (o:One S) (hp:Crn S p):∃ t,Rnd S p t:=by
 have back:∃ n,itr S p (n + 1) = p:=by
  obtain ⟨n,hn⟩:=rch_itr o.dg (o.all (itr S p 1) p (crn_itr hp 1) hp)
  exact ⟨n,by rw [Nat.add_comm,itr_add]; exact hn.symm⟩
 (refine Classical.byContradiction fun k_ => ?_; obtain ⟨n,hn,hm⟩:=least back; refine k_ ?_; clear k_)
 have nret:∀ m,0 < m→m < n + 1→itr S p m≠p:=fun m h0 h1 e => hm (m - 1) (by omega) (by rw [Nat.sub_add_cancel h0]; exact e)
 have per:∀ k m,itr S p (k * (n + 1) + m) = itr S p m:=by
  intro k
  induction k with
  | zero => intro m; rw [Nat.zero_mul,Nat.zero_add]
  | succ k ih =>
   intro m
   rw [show (k + 1) * (n + 1) + m = (n + 1) + (k * (n + 1) + m) from by rw [Nat.add_mul]; omega,itr_add,hn]
   exact ih m
 refine ⟨n + 1,by omega,hn,nret,fun q hq => ?_,fun i j hij hj e => ?_⟩
 ·obtain ⟨m,rfl⟩:=rch_itr o.dg (o.all p q hp hq)
  refine ⟨m % (n + 1),Nat.mod_lt _ (by omega),?_⟩
  have:=per (m / (n + 1)) (m % (n + 1))
  rw [Nat.mul_comm,Nat.div_add_mod] at this
  exact this
 ·have h1:itr S p (j + (n + 1 - j)) = p:=by rw [show j + (n + 1 - j) = n + 1 from by omega]; exact hn
  rw [itr_add,← e,← itr_add] at h1
  exact nret (i + (n + 1 - j)) (by omega) (by omega) h1
theorem sub_len {α:Type} [DecidableEq α]:∀ {xs ys:List α},xs.Nodup→(∀ x∈xs,x∈ys)→xs.length≤ys.length
 | [],_,_,_ => Nat.zero_le _
 | x::xs,ys,nd,h => by
  have nd':=List.nodup_cons.mp nd
  have hx:=h x List.mem_cons_self
  have:=sub_len (xs:=xs) (ys:=ys.erase x) nd'.2 fun y hy => (List.mem_erase_of_ne (fun e:y = x => nd'.1 (e▸hy))).mpr (h y (List.mem_cons_of_mem _ hy))
  rw [List.length_erase_of_mem hx] at this
  have hpos:=List.length_pos_of_mem hx
  show xs.length + 1≤_
  omega
theorem Rnd.len {t:Nat} (r:Rnd S p t) (hp:Crn S p) {K:List Pt} (nd:K.Nodup) (hK:∀ q,q∈K↔Crn S q):K.length = t:=by
 have e:((List.range t).map (itr S p)).length = t:=by rw [List.length_map,List.length_range]
 have n2:((List.range t).map (itr S p)).Nodup:=by
  rw [List.Nodup,List.pairwise_iff_getElem]
  intro i j hi hj hij
  rw [List.length_map,List.length_range] at hi hj
  simp only [List.getElem_map,List.getElem_range]
  exact r.inj i j hij hj
 apply Nat.le_antisymm
 ·have:=sub_len nd (ys:=(List.range t).map (itr S p)) fun q hq => by
   (refine Classical.byContradiction fun k_ => ?_; obtain ⟨m,hm,rfl⟩:=r.all q ((hK q).mp hq); refine k_ ?_; clear k_)
   exact List.mem_map.mpr ⟨m,List.mem_range.mpr hm,rfl⟩
  rw [e] at this; exact this
 ·have:=sub_len n2 (ys:=K) fun q hq => by
   (refine Classical.byContradiction fun k_ => ?_; obtain ⟨m,_,rfl⟩:=List.mem_map.mp hq; refine k_ ?_; clear k_)
   exact (hK _).mpr (crn_itr hp m)
  rw [e] at this; exact this
end
def around4 (p:Pt):List Pt:=[(p.1 + 1,p.2),(p.1,p.2 + 1),(p.1 - 1,p.2),(p.1,p.2 - 1)]
inductive Conn (S:List Pt) (s:Pt):Pt→Prop
 | refl:Conn S s s
 | step {c n:Pt}:Conn S s c→n∈around4 c→n∈S→Conn S s n
theorem mem4 {c n:Pt}:n∈around4 c↔n = (c.1 + 1,c.2)∨n = (c.1,c.2 + 1)∨n = (c.1 - 1,c.2)∨n = (c.1,c.2 - 1):=by simp [around4]
theorem pt_eq {a b:Pt}:a = b↔a.1 = b.1∧a.2 = b.2:=Prod.ext_iff
theorem mem4' {c n:Pt}:n∈around4 c↔(n.1 = c.1 + 1∧n.2 = c.2)∨(n.1 = c.1∧n.2 = c.2 + 1)∨(n.1 = c.1 - 1∧n.2 = c.2)∨(n.1 = c.1∧n.2 = c.2 - 1):=by
 rw [mem4,pt_eq,pt_eq,pt_eq,pt_eq]
theorem sym4 {c n:Pt} (h:n∈around4 c):c∈around4 n:=by
 rcases mem4.mp h with rfl | rfl | rfl | rfl
 ·exact mem4'.mpr (.inr (.inr (.inl ⟨(Int.add_sub_cancel c.1 1).symm,rfl⟩)))
 ·exact mem4'.mpr (.inr (.inr (.inr ⟨rfl,(Int.add_sub_cancel c.2 1).symm⟩)))
 ·exact mem4'.mpr (.inl ⟨(Int.sub_add_cancel c.1 1).symm,rfl⟩)
 ·exact mem4'.mpr (.inr (.inl ⟨rfl,(Int.sub_add_cancel c.2 1).symm⟩))
theorem Conn.mem {S:List Pt} {s c:Pt} (hs:s∈S) (h:Conn S s c):c∈S:=by
 induction h with
 | refl => exact hs
 | step _ _ h _ => exact h
theorem Conn.trans {S:List Pt} {a b c:Pt} (h1:Conn S a b) (h2:Conn S b c):Conn S a c:=by
 induction h2 with
 | refl => exact h1
 | step _ h h' ih => exact .step ih h h'
theorem Conn.symm {S:List Pt} {a b:Pt} (ha:a∈S) (h:Conn S a b):Conn S b a:=by
 induction h with
 | refl => exact .refl
 | step k h h' ih => exact Conn.trans (.step .refl (sym4 h) (k.mem ha)) ih
theorem Conn.mono {S T:List Pt} {a b:Pt} (hs:∀ x∈S,x∈T) (h:Conn S a b):Conn T a b:=by
 induction h with
 | refl => exact .refl
 | step _ h h' ih => exact .step ih h (hs _ h')
inductive Way (S:List Pt) (a:Pt):Pt→Prop
 | refl:Way S a a
 | step {b n:Pt}:Way S a b→n∈around4 b→n∉S→Way S a n
theorem Way.off {S:List Pt} {a b:Pt} (ha:a∉S) (h:Way S a b):b∉S:=by
 cases h with
 | refl => exact ha
 | step _ _ h => exact h
theorem Way.trans {S:List Pt} {a b c:Pt} (h1:Way S a b) (h2:Way S b c):Way S a c:=by
 induction h2 with
 | refl => exact h1
 | step _ h h' ih => exact .step ih h h'
theorem Way.congr {S T:List Pt} {a b:Pt} (hs:∀ x,x∈T→x∈S) (h:Way S a b):Way T a b:=by
 induction h with
 | refl => exact .refl
 | step _ h h' ih => exact .step ih h fun z => h' (hs _ z)
def Esc (S:List Pt) (a:Pt):Prop:=∃ b,Way S a b∧∀ c∈S,c.2 < b.2
def hp (p a b:Pt):Bool:=decide ((a.1 = p.1∧b.1 = p.1 + 1∧p.2 < a.2)∨(b.1 = p.1∧a.1 = p.1 + 1∧p.2 < b.2))
def par (h:Pt→Pt→Bool):Pt→List Pt→Bool
 | _,[] => false
 | a,b::l => h a b ^^ par h b l
def endL:Pt→List Pt→Pt
 | a,[] => a
 | _,b::l => endL b l
def Kg (a b:Pt):Prop:=a.1≤b.1 + 1∧b.1≤a.1 + 1∧a.2≤b.2 + 1∧b.2≤a.2 + 1
theorem kg4 {a b:Pt} (h:b∈around4 a):Kg a b:=by
 have u:∀ x:Int,x≤x + 1 + 1:=fun x => by omega
 have d:∀ x:Int,x≤x - 1 + 1∧x - 1≤x + 1:=fun x => by omega
 have o:∀ x:Int,x≤x + 1:=fun x => by omega
 rcases mem4.mp h with rfl | rfl | rfl | rfl
 ·exact ⟨u _,Int.le_refl _,o _,o _⟩
 ·exact ⟨o _,o _,u _,Int.le_refl _⟩
 ·exact ⟨(d _).1,(d _).2,o _,o _⟩
 ·exact ⟨o _,o _,(d _).1,(d _).2⟩
def IsW (S:List Pt):Pt→List Pt→Prop
 | _,[] => True
 | a,b::l => b∈around4 a∧b∈S∧IsW S b l
theorem isW_snoc {S:List Pt} {n:Pt}:∀ {a:Pt} {l:List Pt},IsW S a l→n∈around4 (endL a l)→n∈S→IsW S a (l++[n])∧endL a (l++[n]) = n
 | _,[],_,h1,h2 => ⟨⟨h1,h2,trivial⟩,rfl⟩
 | _,_::_,h,h1,h2 => ⟨⟨h.1,h.2.1,(isW_snoc h.2.2 h1 h2).1⟩,(isW_snoc h.2.2 h1 h2).2⟩
theorem Conn.walk {S:List Pt} {a b:Pt} (h:Conn S a b):∃ l,IsW S a l∧endL a l = b:=by
 induction h with
 | refl => exact ⟨[],trivial,rfl⟩
 | step _ h h' ih =>
  (refine Classical.byContradiction fun k_ => ?_; obtain ⟨l,w,rfl⟩:=ih; refine k_ ?_; clear k_)
  exact ⟨_,isW_snoc w h h'⟩
theorem endL_mem {S:List Pt}:∀ {a:Pt} {l:List Pt},a∈S→IsW S a l→endL a l∈S
 | _,[],h,_ => h
 | _,b::l,_,w => endL_mem (a:=b) (l:=l) w.2.1 w.2.2
theorem par_pot {S:List Pt} {h h':Pt→Pt→Bool} {g:Pt→Bool} (hs:∀ a b,a∈S→b∈S→b∈around4 a→(h a b ^^ h' a b) = (g a ^^ g b)):∀ {a:Pt} {l:List Pt},a∈S→IsW S a l→(par h a l ^^ par h' a l) = (g a ^^ g (endL a l))
 | a,[],_,_ => by show (false ^^ false) = (g a ^^ g a); simp
 | a,b::l,ha,w => by
  have ih:=par_pot hs w.2.1 w.2.2
  have h1:=hs a b ha w.2.1 w.1
  show ((h a b ^^ par h b l) ^^ (h' a b ^^ par h' b l)) = (g a ^^ g (endL b l))
  revert ih h1
  generalize h a b = x1; generalize h' a b = x2; generalize par h b l = x3; generalize par h' b l = x4; generalize g a = x5; generalize g b = x6; generalize g (endL b l) = x7
  revert x1 x2 x3 x4 x5 x6 x7
  decide
theorem xor_of {A B C D:Prop} [Decidable A] [Decidable B] [Decidable C] [Decidable D] (h1:A→B→(C↔D)) (h2:¬ A→¬ B→(C↔D)) (h3:A→¬ B→(C↔¬ D)) (h4:¬ A→B→(C↔¬ D)):(decide A ^^ decide B) = (decide C ^^ decide D):=by
 by_cases a:A <;> by_cases b:B
 ·have:=h1 a b; by_cases c:C
  ·simp [a,b,c,this.mp c]
  ·have d:¬ D:=fun z => c (this.mpr z)
   simp [a,b,c,d]
 ·have:=h3 a b; by_cases c:C
  ·simp [a,b,c,this.mp c]
  ·have d:D:=Classical.byContradiction fun z => c (this.mpr z)
   simp [a,b,c,d]
 ·have:=h4 a b; by_cases c:C
  ·simp [a,b,c,this.mp c]
  ·have d:D:=Classical.byContradiction fun z => c (this.mpr z)
   simp [a,b,c,d]
 ·have:=h2 a b; by_cases c:C
  ·simp [a,b,c,this.mp c]
  ·have d:¬ D:=fun z => c (this.mpr z)
   simp [a,b,c,d]
theorem ne_co {a p:Pt} {S:List Pt} (ha:a∈S) (hp:p∉S):¬ (a.1 = p.1∧a.2 = p.2):=fun z => hp (by rw [← Prod.ext_iff.mpr z]; exact ha)
theorem hp_sym (p a b:Pt):hp p a b = hp p b a:=by unfold hp; exact decide_eq_decide.mpr ⟨Or.symm,Or.symm⟩
theorem hp_off {p a b:Pt} (h:a.1 = b.1):hp p a b = false:=by unfold hp; refine decide_eq_false ?_; omega
theorem hp_east (p:Pt) (x y:Int):hp p (x,y) (x + 1,y) = decide (x = p.1∧p.2 < y):=by
 unfold hp
 refine decide_eq_decide.mpr ⟨fun z => z.elim (fun ⟨e,_,l⟩ => ⟨e,l⟩) fun ⟨e1,e2,_⟩ => ?_,fun ⟨e,l⟩ => .inl ⟨e,by dsimp only; rw [e],l⟩⟩
 dsimp only at e1 e2
 omega
theorem pot4 {S:List Pt} {p q:Pt} {g:Pt→Bool} (hv:∀ x y,(x,y)∈S→(x,y + 1)∈S→g (x,y) = g (x,y + 1)) (hh:∀ x y,(x,y)∈S→(x + 1,y)∈S→(decide (x = p.1∧p.2 < y) ^^ decide (x = q.1∧q.2 < y)) = (g (x,y) ^^ g (x + 1,y)))
  (a b:Pt) (ha:a∈S) (hb:b∈S) (hab:b∈around4 a):(hp p a b ^^ hp q a b) = (g a ^^ g b):=by
 obtain ⟨x,y⟩:=a
 rw [mem4] at hab
 rcases hab with rfl | rfl | rfl | rfl <;> dsimp only at hb ⊢
 ·rw [hp_east,hp_east]; exact hh x y ha hb
 ·rw [hp_off (p:=p) (a:=(x,y)) (b:=(x,y + 1)) rfl,hp_off (p:=q) (a:=(x,y)) (b:=(x,y + 1)) rfl,hv x y ha hb]; simp
 ·have:=hh (x - 1) y hb (by rw [Int.sub_add_cancel]; exact ha)
  rw [Int.sub_add_cancel] at this
  rw [hp_sym p,hp_sym q,show hp p (x - 1,y) (x,y) = hp p (x - 1,y) (x - 1 + 1,y) by rw [Int.sub_add_cancel],show hp q (x - 1,y) (x,y) = hp q (x - 1,y) (x - 1 + 1,y) by rw [Int.sub_add_cancel],hp_east,hp_east,this,Bool.xor_comm]
 ·have:=hv x (y - 1) hb (by rw [Int.sub_add_cancel]; exact ha)
  rw [Int.sub_add_cancel] at this
  rw [hp_off (p:=p) (a:=(x,y)) (b:=(x,y - 1)) rfl,hp_off (p:=q) (a:=(x,y)) (b:=(x,y - 1)) rfl,show g (x,y - 1) = g (x,y) from this]; simp
theorem hp_n {S:List Pt} {p q a b:Pt} (e1:q.1 = p.1) (e2:q.2 = p.2 + 1) (hq:q∉S) (ha:a∈S) (hb:b∈S):hp p a b = hp q a b:=by
 have up:∀ c∈S,c.1 = p.1→(p.2 < c.2↔p.2 + 1 < c.2):=fun c hc e => by
  have:c.2≠p.2 + 1:=fun z => ne_co hc hq ⟨e.trans e1.symm,z.trans e2.symm⟩
  clear e e1 e2; omega
 unfold hp
 rw [e1,e2]
 exact decide_eq_decide.mpr (or_congr (and_congr_right fun x => and_congr_right fun _ => up a ha x) (and_congr_right fun x => and_congr_right fun _ => up b hb x))
def gE (p a:Pt):Bool:=decide (a.1 = p.1 + 1∧p.2 < a.2)
theorem hp_e {S:List Pt} {p q a b:Pt} (e1:q.1 = p.1 + 1) (e2:q.2 = p.2) (hp':p∉S) (hq:q∉S) (ha:a∈S) (hb:b∈S) (k:Kg a b):(hp p a b ^^ hp q a b) = (gE p a ^^ gE p b):=by
 have n1:∀ c∈S,c.1 = p.1 + 1∨c.1 = p.1→c.2≠p.2:=fun c hc z y => z.elim (fun z => ne_co hc hq ⟨z.trans e1.symm,y.trans e2.symm⟩) fun z => ne_co hc hp' ⟨z,y⟩
 (refine Classical.byContradiction fun k_ => ?_; obtain ⟨k1,k2,k3,k4⟩:=k; refine k_ ?_; clear k_)
 have u:a.1 = p.1 + 1∨a.1 = p.1→b.1 = p.1 + 1∨b.1 = p.1→(p.2 < a.2↔p.2 < b.2):=fun x y => by
  have x:=n1 a ha x
  have y:=n1 b hb y
  clear e1 e2 k1 k2; omega
 have m:p.1≠p.1 + 1:=by omega
 have m2:p.1 + 1≠p.1 + 1 + 1:=by omega
 unfold hp gE
 rw [e1,e2]
 by_cases ca:a.1 = p.1 + 1 <;> by_cases cb:b.1 = p.1 + 1
 ·have:=u (.inl ca) (.inl cb)
  simp [ca,cb,m,Ne.symm m,m2,this]
 ·by_cases cc:b.1 = p.1
  ·simp [ca,cb,cc,u,m,m2,Ne.symm m,show p.1≠p.1 + 1 + 1 by omega]
  ·simp [ca,cb,cc,m,m2,Ne.symm m,show b.1 = p.1 + 1 + 1 by omega,show p.1 + 1 + 1≠p.1 by omega]
 ·by_cases cc:a.1 = p.1
  ·simp [ca,cb,cc,← u,m,m2,Ne.symm m,show p.1≠p.1 + 1 + 1 by omega]
  ·simp [ca,cb,cc,m,m2,Ne.symm m,show a.1 = p.1 + 1 + 1 by omega,show p.1 + 1 + 1≠p.1 by omega]
 ·simp [ca,cb]
def cnt (p a:Pt) (l:List Pt):Bool:=par (hp p) a l ^^ hp p (endL a l) a
theorem cnt_move {S:List Pt} {a p q:Pt} {l:List Pt} (ha:a∈S) (w:IsW S a l) (k:Kg (endL a l) a) (hp':p∉S) (hq:q∉S) (h:q∈around4 p):cnt p a l = cnt q a l:=by
 have he:=endL_mem ha w
 have E:∀ {p q:Pt},p∉S→q∉S→q.1 = p.1 + 1→q.2 = p.2→cnt p a l = cnt q a l:=fun {p q} hp' hq e1 e2 => by
  have h1:=par_pot (S:=S) (h:=hp p) (h':=hp q) (g:=gE p) (fun x y hx hy hxy => hp_e e1 e2 hp' hq hx hy (kg4 hxy)) ha w
  have h2:=hp_e e1 e2 hp' hq he ha k
  unfold cnt
  revert h1 h2
  generalize par (hp p) a l = x1; generalize par (hp q) a l = x2; generalize hp p (endL a l) a = x3; generalize hp q (endL a l) a = x4; generalize gE p a = x5; generalize gE p (endL a l) = x6
  revert x1 x2 x3 x4 x5 x6
  decide
 have N:∀ {p q:Pt},q∉S→q.1 = p.1→q.2 = p.2 + 1→cnt p a l = cnt q a l:=fun {p q} hq e1 e2 => by
  have h1:=par_pot (S:=S) (h:=hp p) (h':=hp q) (g:=fun _ => false) (fun x y hx hy hxy => by rw [hp_n e1 e2 hq hx hy]; simp) ha w
  have h2:=hp_n e1 e2 hq he ha
  unfold cnt
  rw [h2]
  revert h1
  generalize par (hp p) a l = x1; generalize par (hp q) a l = x2; generalize hp q (endL a l) a = x4
  revert x1 x2 x4
  decide
 rw [mem4'] at h
 rcases h with h | h | h | h
 ·exact E hp' hq h.1 h.2
 ·exact N hq h.1 h.2
 ·exact (E hq hp' (by omega) (by omega)).symm
 ·exact (N hp' (by omega) (by omega)).symm
theorem cnt_esc {S:List Pt} {a p:Pt} {l:List Pt} (ha:a∈S) (w:IsW S a l) (k:Kg (endL a l) a) (hp':p∉S) (e:Esc S p):cnt p a l = false:=by
 (refine Classical.byContradiction fun k_ => ?_; obtain ⟨q,hw,hq⟩:=e; refine k_ ?_; clear k_)
 have e1:cnt p a l = cnt q a l:=by
  clear hq
  induction hw with
  | refl => rfl
  | step w' h h' ih => exact ih.trans (cnt_move ha w k (w'.off hp') h' h)
 rw [e1]
 have z:∀ x y,x∈S→y∈S→hp q x y = false:=fun x y hx hy => by
  have:=hq x hx
  have:=hq y hy
  unfold hp
  refine decide_eq_false ?_
  omega
 have h1:=par_pot (S:=S) (h:=hp q) (h':=fun _ _ => false) (g:=fun _ => false) (fun x y hx hy _ => by rw [z x y hx hy]) ha w
 have h2:∀ (a:Pt) (l:List Pt),par (fun _ _ => false) a l = false:=by
  intro a l
  induction l generalizing a with
  | nil => rfl
  | cons b l ih => show (false ^^ _) = false; rw [ih]; rfl
 unfold cnt
 rw [z _ _ (endL_mem ha w) ha]
 rw [h2] at h1
 simpa using h1
structure Sc (S:List Pt):Prop where
 con:∀ a∈S,∀ b∈S,Conn S a b
 esc:∀ a,a∉S→Esc S a
section
variable {S:List Pt}
theorem le_of {y v:Int} (h:y≠v):v≤y↔v < y:=by omega
theorem Sc.dg (s:Sc S):Dg S:=by
 have one:∀ {x v:Int},x = v - 1↔x + 1 = v:=fun {x v} => by omega
 have lel:∀ {y v:Int},v - 1 < y↔v≤y:=fun {y v} => by omega
 intro p
 refine ⟨fun ⟨h1,h2,h3,h4⟩ => ?_,fun ⟨h1,h2,h3,h4⟩ => ?_⟩
 ·(refine Classical.byContradiction fun k_ => ?_; obtain ⟨l,w,e⟩:=(s.con _ h2 _ h1).walk; refine k_ ?_; clear k_)
  have k:Kg (endL (p.1 - 1,p.2 - 1) l) (p.1 - 1,p.2 - 1):=by rw [e]; unfold Kg; dsimp only; omega
  have c1:=cnt_esc h2 w k h3 (s.esc _ h3)
  have c2:=cnt_esc h2 w k h4 (s.esc _ h4)
  have pp:=par_pot (S:=S) (h:=hp (p.1 - 1,p.2)) (h':=hp (p.1,p.2 - 1)) (g:=fun a => decide (a.1 = p.1∧p.2≤a.2)) (pot4 (fun x y ha hb => decide_eq_decide.mpr (and_congr_right fun e => by
   have n1:y≠p.2 - 1:=fun z => ne_co ha h4 ⟨e,z⟩
   dsimp only
   clear e
   omega)) (fun x y ha hb => by
   dsimp only
   have e1:decide (x = p.1 - 1∧p.2 < y) = decide (x = p.1 - 1∧p.2≤y):=decide_eq_decide.mpr (and_congr_right fun e => (le_of fun z => ne_co ha h3 ⟨e,z⟩).symm)
   rw [e1,Bool.xor_comm]
   simp only [lel,one])) h2 w
  unfold cnt at c1 c2
  rw [e] at c1 c2 pp
  have f1:hp (p.1 - 1,p.2) (p.1,p.2) (p.1 - 1,p.2 - 1) = false:=by unfold hp; refine decide_eq_false ?_; dsimp only; omega
  have f2:hp (p.1,p.2 - 1) (p.1,p.2) (p.1 - 1,p.2 - 1) = false:=by unfold hp; refine decide_eq_false ?_; dsimp only; omega
  rw [f1,Bool.xor_false] at c1
  rw [f2,Bool.xor_false] at c2
  rw [c1,c2] at pp
  have g1:decide (p.1 - 1 = p.1∧p.2≤p.2 - 1) = false:=decide_eq_false fun z => by have:=z.1; omega
  have g2:decide (p.1 = p.1∧p.2≤p.2) = true:=decide_eq_true ⟨rfl,Int.le_refl _⟩
  dsimp only at pp
  rw [g1,g2] at pp
  cases pp
 ·(refine Classical.byContradiction fun k_ => ?_; obtain ⟨l,w,e⟩:=(s.con _ h2 _ h1).walk; refine k_ ?_; clear k_)
  have k:Kg (endL (p.1,p.2 - 1) l) (p.1,p.2 - 1):=by rw [e]; unfold Kg; dsimp only; omega
  have c1:=cnt_esc h2 w k h4 (s.esc _ h4)
  have c2:=cnt_esc h2 w k h3 (s.esc _ h3)
  have pp:=par_pot (S:=S) (h:=hp (p.1 - 1,p.2 - 1)) (h':=hp (p.1,p.2)) (g:=fun a => decide (a.1 = p.1∧p.2 < a.2)) (pot4 (fun x y ha hb => decide_eq_decide.mpr (and_congr_right fun e => by
   have n1:y≠p.2:=fun z => ne_co ha h3 ⟨e,z⟩
   dsimp only
   clear e
   omega)) (fun x y ha hb => by
   dsimp only
   simp only [lel,one]
   have e1:decide (x + 1 = p.1∧p.2≤y) = decide (x + 1 = p.1∧p.2 < y):=decide_eq_decide.mpr (and_congr_right fun e => le_of fun z => ne_co hb h3 ⟨e,z⟩)
   rw [e1,Bool.xor_comm])) h2 w
  unfold cnt at c1 c2
  rw [e] at c1 c2 pp
  have f1:hp (p.1 - 1,p.2 - 1) (p.1 - 1,p.2) (p.1,p.2 - 1) = true:=by unfold hp; refine decide_eq_true (.inl ⟨rfl,?_,?_⟩) <;> dsimp only <;> omega
  have f2:hp (p.1,p.2) (p.1 - 1,p.2) (p.1,p.2 - 1) = false:=by unfold hp; refine decide_eq_false ?_; dsimp only; omega
  rw [f1] at c1
  rw [f2,Bool.xor_false] at c2
  rw [c2] at pp
  have g1:decide (p.1 = p.1∧p.2 < p.2 - 1) = false:=decide_eq_false fun z => by have:=z.2; omega
  have g2:decide (p.1 - 1 = p.1∧p.2 < p.2) = false:=decide_eq_false fun z => by have:=z.1; omega
  dsimp only at pp
  rw [g1,g2] at pp
  rw [Bool.xor_false] at pp
  rw [pp] at c1
  cases c1
def rem (S:List Pt) (c:Pt):List Pt:=S.filter fun q => decide (q≠c)
theorem mem_rem {c x:Pt}:x∈rem S c↔x∈S∧x≠c:=by unfold rem; rw [List.mem_filter,decide_eq_true_iff]
theorem Sc.we (s:Sc S) {c:Pt} (hc:c∈S) (hn:(c.1,c.2 + 1)∈S) (hs:(c.1,c.2 - 1)∈S) (he:(c.1 + 1,c.2)∉S) (hw:(c.1 - 1,c.2)∉S) (k:Conn (rem S c) (c.1,c.2 + 1) (c.1,c.2 - 1)):False:=by
 (refine Classical.byContradiction fun k_ => ?_; obtain ⟨l,w,e⟩:=k.walk; refine k_ ?_; clear k_)
 have hnr:(c.1,c.2 + 1)∈rem S c:=mem_rem.mpr ⟨hn,fun z => by have:=congrArg Prod.snd z; dsimp only at this; omega⟩
 have w1:IsW S (c.1,c.2 + 1) l:=by
  clear e k
  have:∀ {a:Pt} {l:List Pt},IsW (rem S c) a l→IsW S a l:=by
   intro a l
   induction l generalizing a with
   | nil => exact fun z => z
   | cons b l ih => exact fun z => ⟨z.1,(mem_rem.mp z.2.1).1,ih z.2.2⟩
  exact this w
 obtain ⟨w2,e2⟩:=isW_snoc w1 (n:=c) (by rw [e,mem4']; dsimp only; omega) hc
 have kk:Kg (endL (c.1,c.2 + 1) (l++[c])) (c.1,c.2 + 1):=by rw [e2]; unfold Kg; dsimp only; omega
 have c1:=cnt_esc hn w2 kk he (s.esc _ he)
 have c2:=cnt_esc hn w2 kk hw (s.esc _ hw)
 have pp:=par_pot (S:=rem S c) (h:=hp (c.1 + 1,c.2)) (h':=hp (c.1 - 1,c.2)) (g:=fun a => decide ((a.1 = c.1∨a.1 = c.1 + 1)∧c.2 < a.2)) (pot4 (fun x y ha hb => decide_eq_decide.mpr (by
  have n1:=ne_co (mem_rem.mp ha).1 he
  have n5:¬ (x = c.1∧y = c.2):=fun z => (mem_rem.mp ha).2 (Prod.ext_iff.mpr z)
  dsimp only at n1 ⊢
  omega)) (fun x y ha hb => by
  dsimp only
  refine xor_of ?_ ?_ ?_ ?_ <;> intros <;> omega)) hnr w
 have ps:∀ (h:Pt→Pt→Bool) (a:Pt) (l:List Pt),par h a (l++[c]) = (par h a l ^^ h (endL a l) c):=by
  intro h a l
  induction l generalizing a with
  | nil => show (h a c ^^ false) = (false ^^ h a c); simp
  | cons b l ih => show (h a b ^^ par h b (l++[c])) = ((h a b ^^ par h b l) ^^ _); rw [ih,Bool.xor_assoc]; rfl
 unfold cnt at c1 c2
 rw [e2,ps,e,hp_off (a:=(c.1,c.2 - 1)) (b:=c) rfl,hp_off (a:=c) (b:=(c.1,c.2 + 1)) rfl,Bool.xor_false,Bool.xor_false] at c1 c2
 rw [c1,c2,e] at pp
 have g1:decide (((c.1,c.2 + 1).1 = c.1∨(c.1,c.2 + 1).1 = c.1 + 1)∧c.2 < (c.1,c.2 + 1).2) = true:=decide_eq_true (by dsimp only; omega)
 have g2:decide (((c.1,c.2 - 1).1 = c.1∨(c.1,c.2 - 1).1 = c.1 + 1)∧c.2 < (c.1,c.2 - 1).2) = false:=decide_eq_false (by dsimp only; omega)
 rw [g1,g2] at pp
 cases pp
theorem Sc.ns (s:Sc S) {c:Pt} (hc:c∈S) (he:(c.1 + 1,c.2)∈S) (hw:(c.1 - 1,c.2)∈S) (hn:(c.1,c.2 + 1)∉S) (hs:(c.1,c.2 - 1)∉S) (k:Conn (rem S c) (c.1 + 1,c.2) (c.1 - 1,c.2)):False:=by
 (refine Classical.byContradiction fun k_ => ?_; obtain ⟨l,w,e⟩:=k.walk; refine k_ ?_; clear k_)
 have hnr:(c.1 + 1,c.2)∈rem S c:=mem_rem.mpr ⟨he,fun z => by have:=congrArg Prod.fst z; dsimp only at this; omega⟩
 have w1:IsW S (c.1 + 1,c.2) l:=by
  clear e k
  have:∀ {a:Pt} {l:List Pt},IsW (rem S c) a l→IsW S a l:=by
   intro a l
   induction l generalizing a with
   | nil => exact fun z => z
   | cons b l ih => exact fun z => ⟨z.1,(mem_rem.mp z.2.1).1,ih z.2.2⟩
  exact this w
 obtain ⟨w2,e2⟩:=isW_snoc w1 (n:=c) (by rw [e,mem4']; dsimp only; omega) hc
 have kk:Kg (endL (c.1 + 1,c.2) (l++[c])) (c.1 + 1,c.2):=by rw [e2]; unfold Kg; dsimp only; omega
 have c1:=cnt_esc he w2 kk hn (s.esc _ hn)
 have c2:=cnt_esc he w2 kk hs (s.esc _ hs)
 have pp:=par_pot (S:=rem S c) (h:=hp (c.1,c.2 + 1)) (h':=hp (c.1,c.2 - 1)) (g:=fun _ => false) (pot4 (fun _ _ _ _ => rfl) (fun x y ha hb => by
  have n1:=ne_co (mem_rem.mp ha).1 hn
  have n5:¬ (x = c.1∧y = c.2):=fun z => (mem_rem.mp ha).2 (Prod.ext_iff.mpr z)
  have:decide (x = c.1∧c.2 + 1 < y) = decide (x = c.1∧c.2 - 1 < y):=decide_eq_decide.mpr (by dsimp only at n1; omega)
  dsimp only
  rw [this]; simp)) hnr w
 have ps:∀ (h:Pt→Pt→Bool) (a:Pt) (l:List Pt),par h a (l++[c]) = (par h a l ^^ h (endL a l) c):=by
  intro h a l
  induction l generalizing a with
  | nil => show (h a c ^^ false) = (false ^^ h a c); simp
  | cons b l ih => show (h a b ^^ par h b (l++[c])) = ((h a b ^^ par h b l) ^^ _); rw [ih,Bool.xor_assoc]; rfl
 have f1:hp (c.1,c.2 + 1) (c.1 - 1,c.2) c = false:=by unfold hp; refine decide_eq_false ?_; dsimp only; omega
 have f2:hp (c.1,c.2 + 1) c (c.1 + 1,c.2) = false:=by unfold hp; refine decide_eq_false ?_; dsimp only; omega
 have f3:hp (c.1,c.2 - 1) (c.1 - 1,c.2) c = false:=by unfold hp; refine decide_eq_false ?_; dsimp only; omega
 have f4:hp (c.1,c.2 - 1) c (c.1 + 1,c.2) = true:=by unfold hp; refine decide_eq_true ?_; dsimp only; omega
 unfold cnt at c1 c2
 rw [e2,ps,e,f1,f2,Bool.xor_false,Bool.xor_false] at c1
 rw [e2,ps,e,f3,f4,Bool.xor_false] at c2
 rw [c1] at pp
 simp only [Bool.false_xor,Bool.xor_false] at pp
 rw [pp] at c2
 cases c2
end
section
variable {S T:List Pt} {c:Pt}
theorem low_cell:∀ {S:List Pt},S≠[]→∃ m∈S,∀ q∈S,m.2≤q.2
 | [],h => absurd rfl h
 | a::S,_ => by
  by_cases hS:S = []
  ·subst hS; exact ⟨a,List.mem_cons_self,fun q hq => by rw [List.mem_singleton.mp hq]; exact Int.le_refl _⟩
  ·(refine Classical.byContradiction fun k_ => ?_; obtain ⟨m,hm,h⟩:=low_cell hS; refine k_ ?_; clear k_)
   by_cases g:a.2≤m.2
   ·refine ⟨a,List.mem_cons_self,fun q hq => ?_⟩
    rcases List.mem_cons.mp hq with rfl | hq
    ·exact Int.le_refl _
    ·exact Int.le_trans g (h q hq)
   ·refine ⟨m,List.mem_cons_of_mem _ hm,fun q hq => ?_⟩
    rcases List.mem_cons.mp hq with rfl | hq
    ·omega
    ·exact h q hq
theorem not_four (h:One S) (hc:c∉S) (h0:nb c 0∈S) (h1:nb c 1∈S) (h2:nb c 2∈S) (h3:nb c 3∈S):False:=by
 have all:∀ j,j < 4→nb c j∈S:=fun j hj => by rcases c4 hj with rfl | rfl | rfl | rfl <;> assumption
 have clo:∀ q,Rch (RS S) (crn c 3) q→∃ j,j < 4∧q = crn c j:=by
  intro q hq
  induction hq with
  | refl => exact ⟨3,by omega,rfl⟩
  | @step q r _ s ih =>
   (refine Classical.byContradiction fun k_ => ?_; obtain ⟨j,hj,rfl⟩:=ih; refine k_ ?_; clear k_)
   (refine Classical.byContradiction fun k_ => ?_; obtain ⟨d,e,rfl⟩:=s; refine k_ ?_; clear k_)
   have hj':nx4 (nx4 (nx4 (nx4 j))) = j:=nx4_4 hj
   (refine Classical.byContradiction fun k_ => ?_; obtain ⟨d',hd',e1,e2,e3⟩:=side_out (c:=c) (j:=nx4 (nx4 (nx4 j))) nx4_lt; refine k_ ?_; clear k_)
   rw [hj'] at e1 e2 e3
   have:Edge S (crn c j) d':=⟨hd',by rw [e1]; exact all _ nx4_lt,by rw [e2]; exact hc⟩
   have ed:=edge_one h.dg e this
   subst ed
   exact ⟨_,nx4_lt,e3⟩
 (refine Classical.byContradiction fun k_ => ?_; obtain ⟨m,hm,hl⟩:=low_cell (List.ne_nil_of_mem h0); refine k_ ?_; clear k_)
 have em:Edge S (m.1,m.2) 0:=⟨by omega,hm,fun z => by have:=hl _ z; simp only [rgt0] at this; omega⟩
 have c3:Crn S (crn c 3):=by
  have:=crn_mixed (S:=S) (p:=crn c (nx4 2)) (meet_nb (c:=c) (j:=2) (by omega)) (meet_c (c:=c) nx4_lt) h2 hc
  exact this
 (refine Classical.byContradiction fun k_ => ?_; obtain ⟨j,hj,e⟩:=clo _ (h.all _ _ c3 ⟨0,em⟩); refine k_ ?_; clear k_)
 have e2:=congrArg Prod.snd e
 have l3:=hl _ h3
 rcases c4 hj with rfl | rfl | rfl | rfl <;> simp only [crn0,crn1,crn2,crn3,nb,stp3] at e2 l3 <;> omega
theorem one_add' (h:One S) (hT:∀ x,x∈T↔x∈S∨x = c) (hc:c∉S) (alt1:¬ (nb c 0∈S∧nb c 2∈S∧nb c 1∉S∧nb c 3∉S)) (alt2:¬ (nb c 1∈S∧nb c 3∈S∧nb c 0∉S∧nb c 2∉S)) (dge:∀ j,j < 4→nb c j∉S→nb c (nx4 j)∉S→dgl c j∉S) {i:Nat} (hi:i < 4) (ha:nb c i∈S):One T:=by
 have cT:c∈T:=(hT c).mpr (.inr rfl)
 have same:∀ q,q≠c→(q∈T↔q∈S):=fun q hq => by rw [hT]; exact ⟨fun z => z.resolve_right hq,.inl⟩
 have meet4:∀ p,Meet p c→∃ j,j < 4∧p = crn c (nx4 j):=by
  intro p hp
  obtain ⟨p1,p2⟩:=p
  rcases hp with e | e | e | e <;> subst e
  ·exact ⟨2,by omega,by walk_at "pp"⟩
  ·exact ⟨3,by omega,by walk_at "pp"⟩
  ·exact ⟨0,by omega,by walk_at "pp"⟩
  ·exact ⟨1,by omega,by walk_at "pp"⟩
 have nne:∀ j,j < 4→nb c j≠c:=by
  intro j hj e
  have e1:=congrArg Prod.fst e
  have e2:=congrArg Prod.snd e
  rcases c4 hj with rfl | rfl | rfl | rfl <;> simp only [nb,stp0,stp1,stp2,stp3] at e1 e2 <;> omega
 have dne:∀ j,j < 4→dgl c j≠c:=by
  intro j hj e
  have e1:=congrArg Prod.fst e
  rcases c4 hj with rfl | rfl | rfl | rfl <;> simp only [dgl0,dgl1,dgl2,dgl3] at e1 <;> omega
 have dgT:Dg T:=by
  intro p
  by_cases hp:Meet p c
  ·(refine Classical.byContradiction fun k_ => ?_; obtain ⟨j,hj,rfl⟩:=meet4 p hp; refine k_ ?_; clear k_)
   have k:=dge j hj
   have n1:=same _ (nne j hj)
   have n2:=same _ (nne (nx4 j) nx4_lt)
   have n3:=same _ (dne j hj)
   rw [← n1,← n2,← n3] at k
   rcases c4 hj with rfl | rfl | rfl | rfl
   ·rw [show ((crn c (nx4 0)).1,(crn c (nx4 0)).2) = dgl c 0 from by walk_at "pp",show ((crn c (nx4 0)).1 - 1,(crn c (nx4 0)).2 - 1) = c from by walk_at "pp",show ((crn c (nx4 0)).1 - 1,(crn c (nx4 0)).2) = nb c (nx4 0) from by walk_at "pp",show ((crn c (nx4 0)).1,(crn c (nx4 0)).2 - 1) = nb c 0 from by walk_at "pp"]
    exact ⟨fun ⟨z1,_,z3,z4⟩ => k z4 z3 z1,fun ⟨_,_,_,z4⟩ => z4 cT⟩
   ·rw [show ((crn c (nx4 1)).1,(crn c (nx4 1)).2) = nb c 1 from by walk_at "pp",show ((crn c (nx4 1)).1 - 1,(crn c (nx4 1)).2 - 1) = nb c (nx4 1) from by walk_at "pp",show ((crn c (nx4 1)).1 - 1,(crn c (nx4 1)).2) = dgl c 1 from by walk_at "pp",show ((crn c (nx4 1)).1,(crn c (nx4 1)).2 - 1) = c from by walk_at "pp"]
    exact ⟨fun ⟨_,_,_,z4⟩ => z4 cT,fun ⟨z1,_,z3,z4⟩ => k z3 z4 z1⟩
   ·rw [show ((crn c (nx4 2)).1,(crn c (nx4 2)).2) = c from by walk_at "pp",show ((crn c (nx4 2)).1 - 1,(crn c (nx4 2)).2 - 1) = dgl c 2 from by walk_at "pp",show ((crn c (nx4 2)).1 - 1,(crn c (nx4 2)).2) = nb c 2 from by walk_at "pp",show ((crn c (nx4 2)).1,(crn c (nx4 2)).2 - 1) = nb c (nx4 2) from by walk_at "pp"]
    exact ⟨fun ⟨_,z2,z3,z4⟩ => k z3 z4 z2,fun ⟨_,_,z3,_⟩ => z3 cT⟩
   ·rw [show ((crn c (nx4 3)).1,(crn c (nx4 3)).2) = nb c (nx4 3) from by walk_at "pp",show ((crn c (nx4 3)).1 - 1,(crn c (nx4 3)).2 - 1) = nb c 3 from by walk_at "pp",show ((crn c (nx4 3)).1 - 1,(crn c (nx4 3)).2) = c from by walk_at "pp",show ((crn c (nx4 3)).1,(crn c (nx4 3)).2 - 1) = dgl c 3 from by walk_at "pp"]
    exact ⟨fun ⟨_,_,z3,_⟩ => z3 cT,fun ⟨_,z2,z3,z4⟩ => k z4 z3 z2⟩
  ·obtain ⟨g1,g2⟩:=h.dg p
   have m:∀ q,Meet p q→(q∈T↔q∈S):=fun q hq => same q fun e => hp (e▸hq)
   rw [m (p.1,p.2) (.inl rfl),m (p.1 - 1,p.2) (.inr (.inl rfl)),m (p.1 - 1,p.2 - 1) (.inr (.inr (.inl rfl))),m (p.1,p.2 - 1) (.inr (.inr (.inr rfl)))]
   exact ⟨g1,g2⟩
 refine ⟨dgT,?_⟩
 have nf:=not_four h hc
 have go:∀ ja jb,ja < 4→jb < 4→nb c ja∈S→nb c (nx4 ja)∉S→nb c jb∉S→nb c (nx4 jb)∈S→(∀ j,j < 4→nb c j∈S→nb c (nx4 j)∉S→j = ja)→(∀ j,j < 4→nb c j∉S→nb c (nx4 j)∈S→j = jb)→∀ p q,Crn T p→Crn T q→Rch (RS T) p q :=
  fun ja jb hja hjb a1 a2 b1 b2 ua ub => one_step h hT hc hja hjb a1 a2 b1 b2 ua ub
 by_cases z0:nb c 0∈S <;> by_cases z1:nb c 1∈S <;> by_cases z2:nb c 2∈S <;> by_cases z3:nb c 3∈S
 ·exact (nf z0 z1 z2 z3).elim
 ·exact go 2 3 (by omega) (by omega) z2 z3 z3 z0 (fun j hj y1 y2 => by rcases c4 hj with rfl | rfl | rfl | rfl <;> first | rfl | exact absurd y1 (by assumption) | exact absurd (by assumption) y2) (fun j hj y1 y2 => by rcases c4 hj with rfl | rfl | rfl | rfl <;> first | rfl | exact absurd (by assumption) y1 | exact absurd y2 (by assumption))
 ·exact go 1 2 (by omega) (by omega) z1 z2 z2 z3 (fun j hj y1 y2 => by rcases c4 hj with rfl | rfl | rfl | rfl <;> first | rfl | exact absurd y1 (by assumption) | exact absurd (by assumption) y2) (fun j hj y1 y2 => by rcases c4 hj with rfl | rfl | rfl | rfl <;> first | rfl | exact absurd (by assumption) y1 | exact absurd y2 (by assumption))
 ·exact go 1 3 (by omega) (by omega) z1 z2 z3 z0 (fun j hj y1 y2 => by rcases c4 hj with rfl | rfl | rfl | rfl <;> first | rfl | exact absurd y1 (by assumption) | exact absurd (by assumption) y2) (fun j hj y1 y2 => by rcases c4 hj with rfl | rfl | rfl | rfl <;> first | rfl | exact absurd (by assumption) y1 | exact absurd y2 (by assumption))
 ·exact go 0 1 (by omega) (by omega) z0 z1 z1 z2 (fun j hj y1 y2 => by rcases c4 hj with rfl | rfl | rfl | rfl <;> first | rfl | exact absurd y1 (by assumption) | exact absurd (by assumption) y2) (fun j hj y1 y2 => by rcases c4 hj with rfl | rfl | rfl | rfl <;> first | rfl | exact absurd (by assumption) y1 | exact absurd y2 (by assumption))
 ·exact (alt1 ⟨z0,z2,z1,z3⟩).elim
 ·exact go 0 2 (by omega) (by omega) z0 z1 z2 z3 (fun j hj y1 y2 => by rcases c4 hj with rfl | rfl | rfl | rfl <;> first | rfl | exact absurd y1 (by assumption) | exact absurd (by assumption) y2) (fun j hj y1 y2 => by rcases c4 hj with rfl | rfl | rfl | rfl <;> first | rfl | exact absurd (by assumption) y1 | exact absurd y2 (by assumption))
 ·exact go 0 3 (by omega) (by omega) z0 z1 z3 z0 (fun j hj y1 y2 => by rcases c4 hj with rfl | rfl | rfl | rfl <;> first | rfl | exact absurd y1 (by assumption) | exact absurd (by assumption) y2) (fun j hj y1 y2 => by rcases c4 hj with rfl | rfl | rfl | rfl <;> first | rfl | exact absurd (by assumption) y1 | exact absurd y2 (by assumption))
 ·exact go 3 0 (by omega) (by omega) z3 z0 z0 z1 (fun j hj y1 y2 => by rcases c4 hj with rfl | rfl | rfl | rfl <;> first | rfl | exact absurd y1 (by assumption) | exact absurd (by assumption) y2) (fun j hj y1 y2 => by rcases c4 hj with rfl | rfl | rfl | rfl <;> first | rfl | exact absurd (by assumption) y1 | exact absurd y2 (by assumption))
 ·exact go 2 0 (by omega) (by omega) z2 z3 z0 z1 (fun j hj y1 y2 => by rcases c4 hj with rfl | rfl | rfl | rfl <;> first | rfl | exact absurd y1 (by assumption) | exact absurd (by assumption) y2) (fun j hj y1 y2 => by rcases c4 hj with rfl | rfl | rfl | rfl <;> first | rfl | exact absurd (by assumption) y1 | exact absurd y2 (by assumption))
 ·exact (alt2 ⟨z1,z3,z0,z2⟩).elim
 ·exact go 1 0 (by omega) (by omega) z1 z2 z0 z1 (fun j hj y1 y2 => by rcases c4 hj with rfl | rfl | rfl | rfl <;> first | rfl | exact absurd y1 (by assumption) | exact absurd (by assumption) y2) (fun j hj y1 y2 => by rcases c4 hj with rfl | rfl | rfl | rfl <;> first | rfl | exact absurd (by assumption) y1 | exact absurd y2 (by assumption))
 ·exact go 3 1 (by omega) (by omega) z3 z0 z1 z2 (fun j hj y1 y2 => by rcases c4 hj with rfl | rfl | rfl | rfl <;> first | rfl | exact absurd y1 (by assumption) | exact absurd (by assumption) y2) (fun j hj y1 y2 => by rcases c4 hj with rfl | rfl | rfl | rfl <;> first | rfl | exact absurd (by assumption) y1 | exact absurd y2 (by assumption))
 ·exact go 2 1 (by omega) (by omega) z2 z3 z1 z2 (fun j hj y1 y2 => by rcases c4 hj with rfl | rfl | rfl | rfl <;> first | rfl | exact absurd y1 (by assumption) | exact absurd (by assumption) y2) (fun j hj y1 y2 => by rcases c4 hj with rfl | rfl | rfl | rfl <;> first | rfl | exact absurd (by assumption) y1 | exact absurd y2 (by assumption))
 ·exact go 3 2 (by omega) (by omega) z3 z0 z2 z3 (fun j hj y1 y2 => by rcases c4 hj with rfl | rfl | rfl | rfl <;> first | rfl | exact absurd y1 (by assumption) | exact absurd (by assumption) y2) (fun j hj y1 y2 => by rcases c4 hj with rfl | rfl | rfl | rfl <;> first | rfl | exact absurd (by assumption) y1 | exact absurd y2 (by assumption))
 ·exfalso
  rcases c4 hi with rfl | rfl | rfl | rfl <;> contradiction
end
section
variable {S T:List Pt}
theorem Conn.into {P:Pt→Prop} {a b:Pt} (h:Conn S a b) (ha:a∈S) (pa:P a) (cl:∀ x n,x∈S→P x→n∈around4 x→n∈S→P n) (hs:∀ x∈S,P x→x∈T):Conn T a b∧P b:=by
 induction h with
 | refl => exact ⟨.refl,pa⟩
 | step k h h' ih => exact ⟨.step ih.1 h (hs _ h' (cl _ _ (k.mem ha) ih.2 h h')),cl _ _ (k.mem ha) ih.2 h h'⟩
theorem Conn.hit {a c:Pt} (h:Conn S a c) (ha:a∈S) (hac:a≠c):∃ w,w∈around4 c∧w∈rem S c∧Conn (rem S c) a w:=by
 have har:a∈rem S c:=mem_rem.mpr ⟨ha,hac⟩
 have:∀ b,Conn S a b→(Conn (rem S c) a b∧b≠c)∨∃ w,w∈around4 c∧w∈rem S c∧Conn (rem S c) a w:=by
  intro b hb
  induction hb with
  | refl => exact .inl ⟨.refl,hac⟩
  | step _ k k' ih =>
   rename_i b n _
   rcases ih with ⟨i1,i2⟩ | ih
   ·by_cases e:n = c
    ·exact .inr ⟨b,by rw [← e]; exact sym4 k,i1.mem har,i1⟩
    ·exact .inl ⟨.step i1 k (mem_rem.mpr ⟨k',e⟩),e⟩
   ·exact .inr ih
 rcases this c h with ⟨_,z⟩ | z
 ·exact absurd rfl z
 ·exact z
theorem top_cell:∀ {S:List Pt},S≠[]→∃ m∈S,∀ q∈S,q.2 < m.2∨(q.2 = m.2∧m.1≤q.1)
 | [a],_ => ⟨a,by simp,fun q hq => by rw [List.mem_singleton.mp hq]; omega⟩
 | a::b::l,_ => by
  (refine Classical.byContradiction fun k_ => ?_; obtain ⟨m,hm,h⟩:=top_cell (S:=b::l) (by simp); refine k_ ?_; clear k_)
  by_cases z:a.2 < m.2∨(a.2 = m.2∧m.1≤a.1)
  ·refine ⟨m,List.mem_cons_of_mem _ hm,fun q hq => ?_⟩
   rcases List.mem_cons.mp hq with rfl | hq
   ·exact z
   ·exact h q hq
  ·refine ⟨a,List.mem_cons_self,fun q hq => ?_⟩
   rcases List.mem_cons.mp hq with rfl | hq
   ·omega
   ·have:=h q hq; omega
theorem low_right:∀ {S:List Pt},S≠[]→∃ m∈S,∀ q∈S,m.2 < q.2∨(q.2 = m.2∧q.1≤m.1)
 | [a],_ => ⟨a,by simp,fun q hq => by rw [List.mem_singleton.mp hq]; omega⟩
 | a::b::l,_ => by
  (refine Classical.byContradiction fun k_ => ?_; obtain ⟨m,hm,h⟩:=low_right (S:=b::l) (by simp); refine k_ ?_; clear k_)
  by_cases z:m.2 < a.2∨(a.2 = m.2∧a.1≤m.1)
  ·refine ⟨m,List.mem_cons_of_mem _ hm,fun q hq => ?_⟩
   rcases List.mem_cons.mp hq with rfl | hq
   ·exact z
   ·exact h q hq
  ·refine ⟨a,List.mem_cons_self,fun q hq => ?_⟩
   rcases List.mem_cons.mp hq with rfl | hq
   ·omega
   ·have:=h q hq; omega
theorem sided {r:Pt} (hr:r∈S) (hq:∃ q∈S,q≠r):∃ c∈S,c≠r∧∃ e∈around4 c,e∉S:=by
 have hne:S≠[]:=List.ne_nil_of_mem hr
 (refine Classical.byContradiction fun k_ => ?_; obtain ⟨t,ht,h1⟩:=top_cell hne; refine k_ ?_; clear k_)
 (refine Classical.byContradiction fun k_ => ?_; obtain ⟨b,hb,h2⟩:=low_right hne; refine k_ ?_; clear k_)
 by_cases e:t = r
 ·have eb:b≠r:=fun z => by
   (refine Classical.byContradiction fun k_ => ?_; obtain ⟨q,hq,hn⟩:=hq; refine k_ ?_; clear k_)
   have a1:=h1 q hq
   have a2:=h2 q hq
   rw [e] at a1
   rw [z] at a2
   exact hn (Prod.ext (by omega) (by omega))
  exact ⟨b,hb,eb,(b.1 + 1,b.2),by rw [mem4']; dsimp only; omega,fun z => by have:=h2 _ z; dsimp only at this; omega⟩
 ·exact ⟨t,ht,e,(t.1 - 1,t.2),by rw [mem4']; dsimp only; omega,fun z => by have:=h1 _ z; dsimp only at this; omega⟩
theorem not_cut:∀ (n:Nat) {S:List Pt} {r:Pt},S.length≤n→(∀ a∈S,∀ b∈S,Conn S a b)→r∈S→(∃ q∈S,q≠r)→∃ c∈S,c≠r∧(∀ a∈rem S c,∀ b∈rem S c,Conn (rem S c) a b)∧∃ e∈around4 c,e∉S
 | 0,S,r,hn,_,hr,_ => by
  have:S = []:=List.eq_nil_of_length_eq_zero (by omega)
  rw [this] at hr; cases hr
 | n + 1,S,r,hn,con,hr,hq => by
  (refine Classical.byContradiction fun k_ => ?_; obtain ⟨c0,hc0,hcr,e,he,heS⟩:=sided hr hq; refine k_ ?_; clear k_)
  by_cases all:∀ a∈rem S c0,∀ b∈rem S c0,Conn (rem S c0) a b
  ·exact ⟨c0,hc0,hcr,all,e,he,heS⟩
  have hrr:r∈rem S c0:=mem_rem.mpr ⟨hr,fun z => hcr z.symm⟩
  have ex:∃ q∈rem S c0,¬ Conn (rem S c0) r q:=by
   refine Classical.byContradiction fun z => all fun a ha b hb => ?_
   have k:∀ q∈rem S c0,Conn (rem S c0) r q:=fun q hq => Classical.byContradiction fun y => z ⟨q,hq,y⟩
   exact ((k a ha).symm hrr).trans (k b hb)
  (refine Classical.byContradiction fun k_ => ?_; obtain ⟨q,hq1,hq2⟩:=ex; refine k_ ?_; clear k_)
  have dec:∃ A:List Pt,(∀ x,x∈A↔x∈S∧(x = c0∨¬ Conn (rem S c0) r x))∧A.length < S.length:=by
   refine ⟨S.filter fun x => @decide (x = c0∨¬ Conn (rem S c0) r x) (Classical.propDecidable _),fun x => ?_,?_⟩
   ·rw [List.mem_filter,@decide_eq_true_iff _ (Classical.propDecidable _)]
   ·refine List.length_filter_lt_length_iff_exists.mpr ⟨r,hr,?_⟩
    rw [@decide_eq_true_iff _ (Classical.propDecidable _)]
    rintro (z | z)
    ·exact hcr z.symm
    ·exact z .refl
  (refine Classical.byContradiction fun k_ => ?_; obtain ⟨A,hA,hAl⟩:=dec; refine k_ ?_; clear k_)
  have hcA:c0∈A:=(hA c0).mpr ⟨hc0,.inl rfl⟩
  have toC:∀ a∈A,Conn A a c0:=fun a ha => by
   obtain ⟨haS,haa⟩:=(hA a).mp ha
   by_cases z:a = c0
   ·subst z; exact .refl
   have haa:=haa.resolve_left z
   (refine Classical.byContradiction fun k_ => ?_; obtain ⟨w,w1,w2,w3⟩:=(con a haS c0 hc0).hit haS z; refine k_ ?_; clear k_)
   have k:=w3.into (T:=A) (P:=fun x => ¬ Conn (rem S c0) r x) (mem_rem.mpr ⟨haS,z⟩) haa (fun x m hxm hx hm hmr y => hx (.step y (sym4 hm) hxm)) (fun x hx px => (hA x).mpr ⟨(mem_rem.mp hx).1,.inr px⟩)
   exact .step k.1 (sym4 w1) hcA
  (refine Classical.byContradiction fun k_ => ?_; obtain ⟨c,hcA',hcc,hcon,e',he',heA⟩:=not_cut n (S:=A) (r:=c0) (by omega) (fun a ha b hb => (toC a ha).trans ((toC b hb).symm hb)) hcA ⟨q,(hA q).mpr ⟨(mem_rem.mp hq1).1,.inr hq2⟩,(mem_rem.mp hq1).2⟩; refine k_ ?_; clear k_)
  obtain ⟨hcS,hcn⟩:=(hA c).mp hcA'
  have hcn:=hcn.resolve_left hcc
  have hcR:c∈rem S c0:=mem_rem.mpr ⟨hcS,hcc⟩
  refine ⟨c,hcS,fun z => hcn (by rw [z]; exact .refl),?_,e',he',fun z => heA ((hA e').mpr ⟨z,.inr fun y => ?_⟩)⟩
  ·have h0:c0∈rem S c:=mem_rem.mpr ⟨hc0,fun z => hcc z.symm⟩
   have to0:∀ a∈rem S c,Conn (rem S c) a c0:=fun a ha => by
    obtain ⟨haS,hac⟩:=mem_rem.mp ha
    by_cases z:a∈A
    ·exact (hcon a (mem_rem.mpr ⟨z,hac⟩) c0 (mem_rem.mpr ⟨hcA,fun z => hcc z.symm⟩)).mono fun x hx => mem_rem.mpr ⟨((hA x).mp (mem_rem.mp hx).1).1,(mem_rem.mp hx).2⟩
    ·have ha0:a≠c0:=fun y => z (by rw [y]; exact hcA)
     have hra:Conn (rem S c0) r a:=Classical.byContradiction fun y => z ((hA a).mpr ⟨haS,.inr y⟩)
     (refine Classical.byContradiction fun k_ => ?_; obtain ⟨w,w1,w2,w3⟩:=(con a haS c0 hc0).hit haS ha0; refine k_ ?_; clear k_)
     have k:=w3.into (T:=rem S c) (P:=fun x => Conn (rem S c0) r x) (mem_rem.mpr ⟨haS,ha0⟩) hra (fun x m _ hx hm hmr => .step hx hm hmr) (fun x hx px => mem_rem.mpr ⟨(mem_rem.mp hx).1,fun y => hcn (by rw [← y]; exact px)⟩)
     exact .step k.1 (sym4 w1) h0
   exact fun a ha b hb => (to0 a ha).trans ((to0 b hb).symm hb)
  ·refine hcn (.step y (sym4 he') hcR)
theorem nb_around {c:Pt} {w:Pt} (h:w∈around4 c):∃ i,i < 4∧nb c i = w:=by
 rw [mem4] at h
 rcases h with rfl | rfl | rfl | rfl
 ·exact ⟨0,by omega,Prod.ext rfl (by show c.2 + 0 = c.2; omega)⟩
 ·exact ⟨1,by omega,Prod.ext (by show c.1 + 0 = c.1; omega) rfl⟩
 ·exact ⟨2,by omega,Prod.ext rfl (by show c.2 + 0 = c.2; omega)⟩
 ·exact ⟨3,by omega,Prod.ext (by show c.1 + 0 = c.1; omega) rfl⟩
theorem nbs (c:Pt):nb c 0 = (c.1 + 1,c.2)∧nb c 1 = (c.1,c.2 + 1)∧nb c 2 = (c.1 - 1,c.2)∧nb c 3 = (c.1,c.2 - 1) :=
 ⟨Prod.ext rfl (by show c.2 + 0 = c.2; omega),Prod.ext (by show c.1 + 0 = c.1; omega) rfl,Prod.ext rfl (by show c.2 + 0 = c.2; omega),Prod.ext (by show c.1 + 0 = c.1; omega) rfl⟩
theorem Sc.round (s:Sc S) {c:Pt} (hc:c∈S) (con:∀ a∈rem S c,∀ b∈rem S c,Conn (rem S c) a b) :
  ¬ (nb c 0∈rem S c∧nb c 2∈rem S c∧nb c 1∉rem S c∧nb c 3∉rem S c)∧¬ (nb c 1∈rem S c∧nb c 3∈rem S c∧nb c 0∉rem S c∧nb c 2∉rem S c)∧∀ j,j < 4→nb c j∉rem S c→nb c (nx4 j)∉rem S c→dgl c j∉rem S c:=by
 have dg:=s.dg
 (refine Classical.byContradiction fun k_ => ?_; obtain ⟨n0,n1,n2,n3⟩:=nbs c; refine k_ ?_; clear k_)
 have q0:(c.1 + 1,c.2)≠c:=fun z => by have:=congrArg Prod.fst z; dsimp only at this; omega
 have q1:(c.1,c.2 + 1)≠c:=fun z => by have:=congrArg Prod.snd z; dsimp only at this; omega
 have q2:(c.1 - 1,c.2)≠c:=fun z => by have:=congrArg Prod.fst z; dsimp only at this; omega
 have q3:(c.1,c.2 - 1)≠c:=fun z => by have:=congrArg Prod.snd z; dsimp only at this; omega
 have off:∀ {q:Pt},q≠c→q∉rem S c→q∉S:=fun hq h z => h (mem_rem.mpr ⟨z,hq⟩)
 rw [n0,n1,n2,n3]
 refine ⟨fun ⟨a,b,d,e⟩ => s.ns hc (mem_rem.mp a).1 (mem_rem.mp b).1 (off q1 d) (off q3 e) (con _ a _ b),fun ⟨a,b,d,e⟩ => s.we hc (mem_rem.mp a).1 (mem_rem.mp b).1 (off q0 d) (off q2 e) (con _ a _ b),fun j hj a b z => ?_⟩
 have z:=(mem_rem.mp z).1
 rcases c4 hj with rfl | rfl | rfl | rfl <;> simp only [nx40,nx41,nx42,nx43] at b
 ·rw [n0] at a; rw [n1] at b; rw [dgl0] at z
  refine (dg (c.1 + 1,c.2 + 1)).1 ⟨z,?_,?_,?_⟩ <;> dsimp only <;> try simp only [Int.add_sub_cancel]
  ·exact hc
  ·exact off q1 b
  ·exact off q0 a
 ·rw [n1] at a; rw [n2] at b; rw [dgl1] at z
  refine (dg (c.1,c.2 + 1)).2 ⟨z,?_,?_,?_⟩ <;> dsimp only <;> try simp only [Int.add_sub_cancel]
  ·exact hc
  ·exact off q1 a
  ·exact off q2 b
 ·rw [n2] at a; rw [n3] at b; rw [dgl2] at z
  exact (dg (c.1,c.2)).1 ⟨hc,z,off q2 a,off q3 b⟩
 ·rw [n3] at a; rw [n0] at b; rw [dgl3] at z
  refine (dg (c.1 + 1,c.2)).2 ⟨?_,z,off q0 b,?_⟩ <;> dsimp only <;> try simp only [Int.add_sub_cancel]
  ·exact hc
  ·exact off q3 a
theorem Sc.one:∀ (n:Nat) {S:List Pt},S.length≤n→S≠[]→Sc S→One S
 | 0,S,hn,h0,_ => absurd (List.eq_nil_of_length_eq_zero (by omega)) h0
 | n + 1,S,hn,h0,s => by
  obtain ⟨r,hr⟩:=List.exists_mem_of_ne_nil _ h0
  by_cases hq:∃ q∈S,q≠r
  ·(refine Classical.byContradiction fun k_ => ?_; obtain ⟨c,hc,hcr,con,e,he,heS⟩:=not_cut S.length (Nat.le_refl _) s.con hr hq; refine k_ ?_; clear k_)
   have hlt:(rem S c).length < S.length:=List.length_filter_lt_length_iff_exists.mpr ⟨c,hc,by rw [decide_eq_true_iff]; exact fun z => z rfl⟩
   have sub:∀ x,x∈rem S c→x∈S:=fun x hx => (mem_rem.mp hx).1
   have esc:∀ a,a∉S→Esc (rem S c) a:=fun a ha => by
    (refine Classical.byContradiction fun k_ => ?_; obtain ⟨b,w,hb⟩:=s.esc a ha; refine k_ ?_; clear k_)
    exact ⟨b,w.congr sub,fun x hx => hb x (sub x hx)⟩
   have sT:Sc (rem S c):=⟨con,fun a ha => by
    by_cases z:a = c
    ·subst z
     (refine Classical.byContradiction fun k_ => ?_; obtain ⟨b,w,hb⟩:=esc e heS; refine k_ ?_; clear k_)
     exact ⟨b,Way.trans (.step .refl he fun y => heS (sub _ y)) w,hb⟩
    ·exact esc a fun y => ha (mem_rem.mpr ⟨y,z⟩)⟩
   have hrT:r∈rem S c:=mem_rem.mpr ⟨hr,fun z => hcr z.symm⟩
   obtain ⟨w,w1,w2,_⟩:=(s.con r hr c hc).hit hr fun z => hcr z.symm
   (refine Classical.byContradiction fun k_ => ?_; obtain ⟨i,hi,ew⟩:=nb_around w1; refine k_ ?_; clear k_)
   (refine Classical.byContradiction fun k_ => ?_; obtain ⟨k1,k2,k3⟩:=s.round hc con; refine k_ ?_; clear k_)
   refine one_add' (S:=rem S c) (T:=S) (c:=c) (Sc.one n (by omega) (List.ne_nil_of_mem hrT) sT) (fun x => ?_) (fun z => (mem_rem.mp z).2 rfl) k1 k2 k3 hi (by rw [ew]; exact w2)
   rw [mem_rem]
   constructor
   ·intro h
    by_cases z:x = c
    ·exact .inr z
    ·exact .inl ⟨h,z⟩
   ·rintro (h | h)
    ·exact h.1
    ·rw [h]; exact hc
  ·have e1:=one_one.mv r
   refine e1.congr fun x => ?_
   simp only [List.map_cons,List.map_nil,List.mem_singleton]
   rw [show ((0:Int) + r.1,(0:Int) + r.2) = r from Prod.ext (by dsimp only; omega) (by dsimp only; omega)]
   constructor
   ·intro h; rw [h]; exact hr
   ·intro h; exact Classical.byContradiction fun z => hq ⟨x,h,z⟩
end
def ltN (d:Nat):Lt:=match d with
 | 0 => 0
 | 1 => 1
 | 2 => 2
 | _ => 3
theorem step_ltN {d:Nat} (h:d < 4):step (ltN d) = stp d:=by
 rcases c4 h with rfl | rfl | rfl | rfl <;> rfl
def sdP (c:Pt) (d:Nat):Pt:=match d with
 | 0 => (c.1,c.2)
 | 1 => (c.1 + 1,c.2)
 | 2 => (c.1 + 1,c.2 + 1)
 | _ => (c.1,c.2 + 1)
def sdO (c:Pt) (d:Nat):Pt:=match d with
 | 0 => (c.1,c.2 - 1)
 | 1 => (c.1 + 1,c.2)
 | 2 => (c.1,c.2 + 1)
 | _ => (c.1 - 1,c.2)
theorem sd_l {c:Pt} {d:Nat} (h:d < 4):lft (sdP c d) d = c:=by
 rcases c4 h with rfl | rfl | rfl | rfl
 ·rfl
 ·exact Prod.ext (by show c.1 + 1 - 1 = c.1; omega) rfl
 ·exact Prod.ext (by show c.1 + 1 - 1 = c.1; omega) (by show c.2 + 1 - 1 = c.2; omega)
 ·exact Prod.ext rfl (by show c.2 + 1 - 1 = c.2; omega)
theorem sd_r {c:Pt} {d:Nat} (h:d < 4):rgt (sdP c d) d = sdO c d:=by
 rcases c4 h with rfl | rfl | rfl | rfl
 ·rfl
 ·rfl
 ·exact Prod.ext (by show c.1 + 1 - 1 = c.1; omega) rfl
 ·exact Prod.ext rfl (by show c.2 + 1 - 1 = c.2; omega)
theorem sd_of {p:Pt} {d:Nat} (h:d < 4):p = sdP (lft p d) d:=by
 rcases c4 h with rfl | rfl | rfl | rfl
 ·rfl
 ·exact Prod.ext (by show p.1 = p.1 - 1 + 1; omega) rfl
 ·exact Prod.ext (by show p.1 = p.1 - 1 + 1; omega) (by show p.2 = p.2 - 1 + 1; omega)
 ·exact Prod.ext rfl (by show p.2 = p.2 - 1 + 1; omega)
structure Lb (S:List Pt) (val:Pt→Nat→D) (i k:Nat) (kvs:List (Pt×D)):Prop where
 nd:(kvs.map (·.1)).Nodup
 sub:∀ q∈kvs.map (·.1),Crn S q
 has:∀ (j d:Nat) (c:Pt),S[j]? = some c→d < 4→(j < i∨(j = i∧d < k))→sdO c d∉S→sdP c d∈kvs.map (·.1)
 look:∀ q∈kvs.map (·.1),lookV kvs q = some (val q (outD S q))
 len:kvs.length≤4 * i + k
section
variable {S:List Pt} {val:Pt→Nat→D} {i k:Nat} {kvs:List (Pt×D)} {c:Pt}
theorem Lb.nil:Lb S val 0 0 []:=⟨by simp,by simp,fun j d c _ _ h => by omega,by simp,by simp⟩
theorem Lb.skip (h:Lb S val i k kvs) (hc:S[i]? = some c) (hin:sdO c k∈S):Lb S val i (k + 1) kvs :=
 ⟨h.nd,h.sub,fun j d c' hj hd hjk ho => by
  by_cases e:j = i∧d = k
  ·obtain ⟨rfl,rfl⟩:=e
   rw [hc] at hj; cases hj
   exact absurd hin ho
  ·exact h.has j d c' hj hd (hjk.imp_right fun ⟨a,b⟩ => ⟨a,Nat.lt_of_le_of_ne (Nat.lt_succ_iff.mp b) fun z => e ⟨a,z⟩⟩) ho,h.look,Nat.le_succ_of_le h.len⟩
theorem Lb.put (g:Dg S) (h:Lb S val i k kvs) (hc:S[i]? = some c) (hk:k < 4) (hin:sdO c k∉S):Lb S val i (k + 1) (putV kvs (sdP c k) (val (sdP c k) k)):=by
 have hcS:c∈S:=List.mem_of_getElem? hc
 have ed:Edge S (sdP c k) k:=⟨hk,by rw [sd_l hk]; exact hcS,by rw [sd_r hk]; exact hin⟩
 have eo:outD S (sdP c k) = k:=edge_one g (outD_edge ⟨k,ed⟩) ed
 refine ⟨putV_nodup h.nd,fun q hq => ?_,fun j d c' hj hd hjk ho => ?_,fun q hq => ?_,?_⟩
 ·rcases putV_mem.mp hq with hq | rfl
  ·exact h.sub q hq
  ·exact ⟨k,ed⟩
 ·by_cases e:j = i∧d = k
  ·obtain ⟨rfl,rfl⟩:=e
   rw [hc] at hj; cases hj
   exact putV_mem.mpr (.inr rfl)
  ·exact putV_mem.mpr (.inl (h.has j d c' hj hd (hjk.imp_right fun ⟨a,b⟩ => ⟨a,Nat.lt_of_le_of_ne (Nat.lt_succ_iff.mp b) fun z => e ⟨a,z⟩⟩) ho))
 ·rw [lookV_put]
  by_cases e:q = sdP c k
  ·subst e; rw [if_pos rfl,eo]
  ·rw [if_neg e]
   exact h.look q ((putV_mem.mp hq).resolve_right e)
 ·have hl:=h.len
  unfold putV
  split
  ·rw [List.length_map]; omega
  ·rw [List.length_append,List.length_singleton]; omega
theorem Lb.next (h:Lb S val i 4 kvs):Lb S val (i + 1) 0 kvs :=
 ⟨h.nd,h.sub,fun j d c hj hd hjk ho => h.has j d c hj hd (by omega) ho,h.look,by have:=h.len; omega⟩
theorem Lb.all (h:Lb S val S.length 0 kvs) (q:Pt):q∈kvs.map (·.1)↔Crn S q:=by
 refine ⟨h.sub q,fun ⟨d,e⟩ => ?_⟩
 obtain ⟨j,hj⟩:=List.mem_iff_getElem?.mp e.l
 have:=h.has j d _ hj e.lt (.inl (List.getElem?_eq_some_iff.mp hj).1) (by rw [← sd_r e.lt,← sd_of e.lt]; exact e.r)
 rw [← sd_of e.lt] at this
 exact this
theorem Lb.at (h:Lb S val S.length 0 kvs) {q:Pt} (hq:Crn S q):lookV kvs q = some (val q (outD S q)):=h.look q ((h.all q).mpr hq)
end
theorem at_first {S:List Pt} {s:Pt} (h:S[0]? = some s):atI (S.map prP) 0 = some (.tup [.int s.1,.int s.2]):=by
 have:=(List.getElem?_eq_some_iff.mp h).1
 unfold atI ixN
 rw [List.length_map,if_pos (by omega),if_pos (by omega),Option.bind_some,List.getElem?_map]
 show (S[0]?).map prP = _
 rw [h]; rfl
theorem outD_lt {S:List Pt} {p:Pt}:outD S p < 4:=by unfold outD; repeat (first | omega | split)
def wd (S:List Pt) (p:Pt) (t:Nat):List Lt:=(List.range t).map fun i => ltN (outD S (itr S p i))
theorem wd_len (S:List Pt) (p:Pt) (t:Nat):(wd S p t).length = t:=by unfold wd; rw [List.length_map,List.length_range]
theorem wd_snoc (S:List Pt) (p:Pt) (t:Nat):wd S p (t + 1) = wd S p t++[ltN (outD S (itr S p t))]:=by unfold wd; rw [List.range_succ,List.map_append]; rfl
theorem wd_take (S:List Pt) (p:Pt) {t i:Nat} (h:i≤t):(wd S p t).take i = wd S p i:=by unfold wd; rw [← List.map_take,List.take_range,Nat.min_eq_left h]
theorem endp_wd (S:List Pt) (p:Pt):∀ t,endp p (wd S p t) = itr S p t
 | 0 => rfl
 | t + 1 => by
  rw [wd_snoc,endp_snoc,endp_wd S p t,step_ltN outD_lt]
  exact Prod.ext rfl rfl
def cntS (S cs:List Pt):Nat:=(cs.map fun c => ((around4 c).filter fun q => !decide (q∈S)).length).sum
theorem sdO_perm (c:Pt):((List.range 4).map (sdO c)).Perm (around4 c):=by
 show [(c.1,c.2 - 1),(c.1 + 1,c.2),(c.1,c.2 + 1),(c.1 - 1,c.2)].Perm [(c.1 + 1,c.2),(c.1,c.2 + 1),(c.1 - 1,c.2),(c.1,c.2 - 1)]
 exact List.perm_append_comm (l₁:=[(c.1,c.2 - 1)]) (l₂:=[(c.1 + 1,c.2),(c.1,c.2 + 1),(c.1 - 1,c.2)])
def crnK (S cs:List Pt):List Pt:=(cs.map fun c => ((List.range 4).filter fun d => !decide (sdO c d∈S)).map (sdP c)).flatten
theorem crnK_len (S:List Pt) (cs:List Pt):(crnK S cs).length = cntS S cs:=by
 unfold crnK cntS
 rw [List.length_flatten,List.map_map]
 congr 1
 refine List.map_congr_left fun c _ => ?_
 show (((List.range 4).filter fun d => !decide (sdO c d∈S)).map (sdP c)).length = _
 rw [List.length_map,← ((sdO_perm c).filter _).length_eq,List.filter_map,List.length_map]
 rfl
theorem mem_crnK {S cs:List Pt} {q:Pt}:q∈crnK S cs↔∃ c∈cs,∃ d,d < 4∧sdO c d∉S∧q = sdP c d:=by
 unfold crnK
 simp only [List.mem_flatten,List.mem_map,List.mem_filter,List.mem_range,Bool.not_eq_true',decide_eq_false_iff_not]
 constructor
 ·rintro ⟨_,⟨c,hc,rfl⟩,h⟩
  (refine Classical.byContradiction fun k_ => ?_; obtain ⟨d,hd,rfl⟩:=List.mem_map.mp h; refine k_ ?_; clear k_)
  have:=List.mem_filter.mp hd
  exact ⟨c,hc,d,List.mem_range.mp this.1,by simpa using this.2,rfl⟩
 ·rintro ⟨c,hc,d,h1,h2,rfl⟩
  exact ⟨_,⟨c,hc,rfl⟩,List.mem_map.mpr ⟨d,List.mem_filter.mpr ⟨List.mem_range.mpr h1,by simpa using h2⟩,rfl⟩⟩
theorem sd_edge {S:List Pt} {c:Pt} {d:Nat} (hc:c∈S) (hd:d < 4) (ho:sdO c d∉S):Edge S (sdP c d) d:=⟨hd,by rw [sd_l hd]; exact hc,by rw [sd_r hd]; exact ho⟩
theorem crnK_nd {S:List Pt} (g:Dg S):∀ {cs:List Pt},cs.Nodup→(∀ c∈cs,c∈S)→(crnK S cs).Nodup
 | [],_,_ => by simp [crnK]
 | c::cs,nd,sub => by
  have h1:=List.nodup_cons.mp nd
  have e:crnK S (c::cs) = ((List.range 4).filter fun d => !decide (sdO c d∈S)).map (sdP c)++crnK S cs:=by simp [crnK]
  have hc:=sub c (by simp)
  rw [e,List.nodup_append]
  refine ⟨?_,crnK_nd g h1.2 fun x hx => sub x (by simp [hx]),fun a ha b hb z => ?_⟩
  ·rw [List.nodup_iff_pairwise_ne,List.pairwise_map]
   refine List.Pairwise.imp_of_mem (fun {a b} ha hb hne z => ?_) (List.nodup_iff_pairwise_ne.mp (List.nodup_range.filter _))
   have ka:=List.mem_filter.mp ha
   have kb:=List.mem_filter.mp hb
   have ea:=sd_edge hc (List.mem_range.mp ka.1) (by simpa using ka.2)
   have eb:=sd_edge hc (List.mem_range.mp kb.1) (by simpa using kb.2)
   rw [← z] at eb
   exact hne (edge_one g ea eb)
  ·subst z
   (refine Classical.byContradiction fun k_ => ?_; obtain ⟨d,hd,rfl⟩:=List.mem_map.mp ha; refine k_ ?_; clear k_)
   have kd:=List.mem_filter.mp hd
   (refine Classical.byContradiction fun k_ => ?_; obtain ⟨c',hc',d',h1',h2',e'⟩:=mem_crnK.mp hb; refine k_ ?_; clear k_)
   have ea:=sd_edge hc (List.mem_range.mp kd.1) (by simpa using kd.2)
   have eb:=sd_edge (sub c' (by simp [hc'])) h1' h2'
   have e2:=e'
   rw [← e'] at eb
   have ed:=edge_one g ea eb
   subst ed
   have:c = c':=by rw [← sd_l (c:=c) ea.lt,e',sd_l ea.lt]
   exact h1.1 (this▸hc')
theorem cnt_rnd {S:List Pt} {s0:Pt} {t:Nat} (g:Dg S) (nd:S.Nodup) (hcr:Crn S s0) (r:Rnd S s0 t):cntS S S = t:=by
 rw [← crnK_len]
 refine r.len hcr (crnK_nd g nd fun _ h => h) fun q => ?_
 rw [mem_crnK]
 constructor
 ·rintro ⟨c,hc,d,h1,h2,rfl⟩; exact ⟨d,sd_edge hc h1 h2⟩
 ·rintro ⟨d,e⟩
  exact ⟨_,e.l,d,e.lt,by rw [← sd_r e.lt,← sd_of e.lt]; exact e.r,sd_of e.lt⟩
def ar (c:Pt):List Lt→Int
 | [] => 0
 | l::ls => c.1 * (step l).2 + ar (adp (step l) c) ls
theorem ar_app (c:Pt) (as bs:List Lt):ar c (as++bs) = ar c as + ar (endp c as) bs:=by
 induction as generalizing c with
 | nil => show ar c bs = 0 + ar c bs; omega
 | cons l as ih =>
  show c.1 * (step l).2 + ar (adp (step l) c) (as++bs) = c.1 * (step l).2 + ar (adp (step l) c) as + ar (endp (adp (step l) c) as) bs
  rw [ih]; omega
theorem ar_snoc (c:Pt) (ls:List Lt) (l:Lt):ar c (ls++[l]) = ar c ls + (endp c ls).1 * (step l).2:=by
 rw [ar_app]
 show _ + ((endp c ls).1 * (step l).2 + 0) = _
 omega
theorem ar_from (c:Pt) (ls:List Lt):ar c ls = ar (0,0) ls + c.1 * (endp (0,0) ls).2:=by
 have key:∀ (ls:List Lt) (c d:Pt),ar (adp d c) ls = ar c ls + d.1 * ((endp c ls).2 - c.2):=by
  intro ls
  induction ls with
  | nil => intro c d; show (0:Int) = 0 + d.1 * (c.2 - c.2); rw [Int.sub_self,Int.mul_zero]; rfl
  | cons l ls ih =>
   intro c d
   have e:adp (step l) (adp d c) = adp d (adp (step l) c):=Prod.ext (by show c.1 + d.1 + (step l).1 = c.1 + (step l).1 + d.1; omega) (by show c.2 + d.2 + (step l).2 = c.2 + (step l).2 + d.2; omega)
   show (adp d c).1 * (step l).2 + ar (adp (step l) (adp d c)) ls = c.1 * (step l).2 + ar (adp (step l) c) ls + d.1 * ((endp (adp (step l) c) ls).2 - c.2)
   rw [e,ih (adp (step l) c) d]
   have e2:(adp d c).1 * (step l).2 = c.1 * (step l).2 + d.1 * (step l).2:=by show (c.1 + d.1) * _ = _; rw [Int.add_mul]
   have e3:d.1 * ((endp (adp (step l) c) ls).2 - (adp (step l) c).2) = d.1 * (endp (adp (step l) c) ls).2 - d.1 * c.2 - d.1 * (step l).2:=by
    show d.1 * (_ - (c.2 + (step l).2)) = _
    rw [Int.mul_sub,Int.mul_add]; omega
   rw [e2,e3,Int.mul_sub]; omega
 have:=key ls (0,0) c
 rw [show adp c (0,0) = c from Prod.ext (by show 0 + c.1 = c.1; omega) (by show 0 + c.2 = c.2; omega)] at this
 rw [this]
 show _ + c.1 * (_ - 0) = _
 rw [Int.sub_zero]
theorem asc_w (ls:List Lt):asc (wStr ls):=by
 show (ls.map cp).toArray.all (· < 128) = true
 rw [List.all_toArray,List.all_map,List.all_eq_true]
 intro l _
 have:∀ l:Lt,cp l < 128:=by decide
 exact decide_eq_true (this l)
theorem g_eqN {l:Lt} {H:Hp3} {Q:VK3} (q:Q (.bl (decide (l = 1))) H):r3eq (.str (lt1 l)) (.str (Str.ofString "n")) H Q:=by
 have:=g_eqW (as:=[l]) (bs:=[1]) (H:=H) (Q:=Q) (by rw [show decide ([l] = [(1:Lt)]) = decide (l = 1) from by simp]; exact q)
 exact this
theorem g_eqS {l:Lt} {H:Hp3} {Q:VK3} (q:Q (.bl (decide (l = 3))) H):r3eq (.str (lt1 l)) (.str (Str.ofString "s")) H Q:=by
 have:=g_eqW (as:=[l]) (bs:=[3]) (H:=H) (Q:=Q) (by rw [show decide ([l] = [(3:Lt)]) = decide (l = 3) from by simp]; exact q)
 exact this
theorem zip_at {c:Pt} {ls:List Lt} {i:Nat} {p:Pt×Lt} (h:((path c ls).zip ls)[i]? = some p):p.1 = endp c (ls.take i)∧ls[i]? = some p.2:=by
 rw [List.getElem?_zip_eq_some] at h
 refine ⟨?_,h.2⟩
 have h1:=h.1
 rw [path_get] at h1
 split at h1
 ·exact (Option.some.inj h1).symm
 ·cases h1
theorem zip_len (c:Pt) (ls:List Lt):((path c ls).zip ls).length = ls.length:=by rw [List.length_zip,path_len]; omega
theorem ar_1 {l:Lt} {x:Int} (h:l = 1):x * (step l).2 = x:=by subst h; show x * 1 = x; omega
theorem ar_3 {l:Lt} {x:Int} (h:l = 3):x * (step l).2 = -x:=by subst h; show x * -1 = -x; omega
theorem ar_0 {l:Lt} {x:Int} (h:¬ l = 1) (g:¬ l = 3):x * (step l).2 = 0:=by
 match l with
 | 0 => exact Int.mul_zero x
 | 1 => exact absurd rfl h
 | 2 => exact Int.mul_zero x
 | 3 => exact absurd rfl g
def rgI (a b:Int):List Int:=(List.range (b - a).toNat).map fun i:Nat => a + (i:Int)
theorem mem_rgI {a b x:Int}:x∈rgI a b↔a≤x∧x < b:=by
 unfold rgI
 rw [List.mem_map]
 constructor
 ·rintro ⟨i,hi,rfl⟩
  have:=List.mem_range.mp hi
  omega
 ·rintro ⟨h1,h2⟩
  exact ⟨(x - a).toNat,List.mem_range.mpr (by omega),by omega⟩
theorem rgI_lt (a b:Int):(rgI a b).Pairwise (· < ·):=by
 unfold rgI
 rw [List.pairwise_map]
 exact List.pairwise_lt_range.imp fun h => by omega
def fill:List Int→List Int
 | a::b::r => rgI a b++fill r
 | _ => []
theorem const_up {f:Int→Bool} {m:Int} {v:Bool} (h0:f (m - 1) = v):∀ n:Nat,(∀ x,m≤x→x < m + (n:Int)→f x = f (x - 1))→∀ x,m - 1≤x→x < m + (n:Int)→f x = v
 | 0,_,x,h1,h2 => by rw [show x = m - 1 by omega]; exact h0
 | n + 1,h,x,h1,h2 => by
  by_cases e:x = m + (n:Int)
  ·rw [h x (by omega) (by omega)]
   exact const_up h0 n (fun y a b => h y a (by omega)) (x - 1) (by omega) (by omega)
  ·exact const_up h0 n (fun y a b => h y a (by omega)) x h1 (by omega)
theorem const_to {f:Int→Bool} {m k:Int} {v:Bool} (h0:f (m - 1) = v) (h:∀ x,m≤x→x < k→f x = f (x - 1)) (x:Int) (h1:m - 1≤x) (h2:x < k):f x = v :=
 const_up h0 (k - m).toNat (fun y a b => h y a (by omega)) x h1 (by omega)
theorem fill_ok:∀ (n:Nat) (L:List Int) (f:Int→Bool) (m k:Int),L.length≤n→L.Pairwise (· < ·)→(∀ x,x < m→f x = false)→(∀ x,k≤x→f x = false)→(∀ x,x∈L↔m≤x∧f x≠f (x - 1)) →
  L.length % 2 = 0∧(∀ x,x∈fill L↔f x = true)∧(fill L).Pairwise (· < ·)
 | n,[],f,m,k,_,_,hm,hk,hL => by
  have z:∀ x,f x = false:=fun x => by
   by_cases h:x < m
   ·exact hm x h
   ·refine const_to (m:=m) (k:=x + 1) (hm (m - 1) (by omega)) (fun y a b => ?_) x (by omega) (by omega)
    exact Classical.byContradiction fun q => absurd ((hL y).mpr ⟨a,q⟩) (by simp)
  refine ⟨rfl,fun x => ?_,List.Pairwise.nil⟩
  rw [z x]
  simp [fill]
 | n,[a],f,m,k,_,_,hm,hk,hL => by
  exfalso
  have ha:=(hL a).mp (by simp)
  have fa:f (a - 1) = false:=const_to (m:=m) (k:=a) (hm (m - 1) (by omega)) (fun y p q => Classical.byContradiction fun r => by
   have:=(hL y).mpr ⟨p,r⟩
   rw [List.mem_singleton] at this
   omega) (a - 1) (by omega) (by omega)
  have fa1:f a = true:=by
   cases e:f a with
   | true => rfl
   | false => rw [e,fa] at ha; exact absurd rfl ha.2
  have big:f (max a k) = true:=const_to (m:=a + 1) (k:=max a k + 1) (by rw [Int.add_sub_cancel]; exact fa1) (fun y p q => Classical.byContradiction fun r => by
   have:=(hL y).mpr ⟨by omega,r⟩
   rw [List.mem_singleton] at this
   omega) (max a k) (by omega) (by omega)
  rw [hk (max a k) (by omega)] at big
  cases big
 | 0,a::b::r,_,_,_,h,_,_,_,_ => by simp at h
 | n + 1,a::b::r,f,m,k,hn,hp,hm,hk,hL => by
  have hp1:=List.pairwise_cons.mp hp
  have hp2:=List.pairwise_cons.mp hp1.2
  have hab:=hp1.1 b (by simp)
  have ha:=(hL a).mp (by simp)
  have hb:=(hL b).mp (by simp)
  have nol:∀ y,m≤y→y < b→y≠a→f y = f (y - 1):=fun y p q ne => Classical.byContradiction fun z => by
   have:=(hL y).mpr ⟨p,z⟩
   rcases List.mem_cons.mp this with e | e
   ·exact ne e
   ·rcases List.mem_cons.mp e with e | e
    ·omega
    ·have:=hp2.1 y e; omega
  have lowf:∀ x,x < a→f x = false:=fun x hx => by
   by_cases h:x < m
   ·exact hm x h
   ·exact const_to (m:=m) (k:=a) (hm (m - 1) (by omega)) (fun y p q => nol y p (by omega) (by omega)) x (by omega) hx
  have fa1:f a = true:=by
   cases e:f a with
   | true => rfl
   | false => rw [e,lowf (a - 1) (by omega)] at ha; exact absurd rfl ha.2
  have mid:∀ x,a≤x→x < b→f x = true:=fun x h1 h2 => const_to (m:=a + 1) (k:=b) (by rw [Int.add_sub_cancel]; exact fa1) (fun y p q => nol y (by omega) q (by omega)) x (by omega) h2
  have fb:f b = false:=by
   cases e:f b with
   | false => rfl
   | true => rw [e,mid (b - 1) (by omega) (by omega)] at hb; exact absurd rfl hb.2
  obtain ⟨k1,k2,k3⟩:=fill_ok n r (fun x => if x < b then false else f x) b k (by simp at hn; omega) hp2.2 (fun x hx => if_pos hx) (fun x hx => by
   show (if x < b then false else f x) = false
   split
   ·rfl
   ·exact hk x hx) (fun x => by
   show x∈r↔b≤x∧(if x < b then false else f x)≠(if x - 1 < b then false else f (x - 1))
   constructor
   ·intro hx
    have h1:=hp2.1 x hx
    have h2:=(hL x).mp (by simp [hx])
    rw [if_neg (by omega),if_neg (by omega)]
    exact ⟨by omega,h2.2⟩
   ·rintro ⟨h1,h2⟩
    rw [if_neg (by omega)] at h2
    by_cases e:x = b
    ·subst e
     rw [if_pos (by omega),fb] at h2
     exact absurd rfl h2
    ·rw [if_neg (by omega)] at h2
     have:=(hL x).mpr ⟨by omega,h2⟩
     rcases List.mem_cons.mp this with z | z
     ·omega
     ·rcases List.mem_cons.mp z with z | z
      ·exact absurd z e
      ·exact z)
  refine ⟨by simp only [List.length_cons]; omega,fun x => ?_,?_⟩
  ·show x∈rgI a b++fill r↔_
   rw [List.mem_append,mem_rgI,k2]
   constructor
   ·rintro (h | h)
    ·exact mid x h.1 h.2
    ·split at h
     ·cases h
     ·exact h
   ·intro h
    by_cases h1:x < b
    ·refine .inl ⟨Classical.byContradiction fun z => ?_,h1⟩
     rw [lowf x (by omega)] at h
     cases h
    ·exact .inr (by rw [if_neg h1]; exact h)
  ·show (rgI a b++fill r).Pairwise (· < ·)
   refine List.pairwise_append.mpr ⟨rgI_lt a b,k3,fun x hx y hy => ?_⟩
   have h1:=mem_rgI.mp hx
   have h2:=(k2 y).mp hy
   split at h2
   ·cases h2
   ·omega
theorem sumP {as bs:List Int} (h:as.Perm bs):as.sum = bs.sum:=by
 induction h with
 | nil => rfl
 | cons x _ ih => rw [List.sum_cons,List.sum_cons,ih]
 | swap x y l => rw [List.sum_cons,List.sum_cons,List.sum_cons,List.sum_cons]; omega
 | trans _ _ i1 i2 => exact i1.trans i2
theorem sum_filt {α:Type} (p:α→Bool) (g:α→Int):∀ l:List α,((l.filter p).map g).sum = (l.map fun c => if p c = true then g c else 0).sum
 | [] => rfl
 | c::l => by
  have ih:=sum_filt p g l
  rw [List.map_cons,List.sum_cons,← ih]
  by_cases h:p c = true
  ·rw [List.filter_cons_of_pos h,List.map_cons,List.sum_cons,if_pos h]
  ·rw [List.filter_cons_of_neg h,if_neg h]; omega
theorem sum_add {α:Type} (f g:α→Int):∀ l:List α,(l.map fun c => f c + g c).sum = (l.map f).sum + (l.map g).sum
 | [] => rfl
 | c::l => by rw [List.map_cons,List.map_cons,List.map_cons,List.sum_cons,List.sum_cons,List.sum_cons,sum_add f g l]; omega
section
variable {S:List Pt}
theorem sum_east (nd:S.Nodup):(S.map fun c => if decide ((c.1 + 1,c.2)∈S) = true then c.1 + 1 else 0).sum = (S.map fun c => if decide ((c.1 - 1,c.2)∈S) = true then c.1 else 0).sum:=by
 rw [← sum_filt (fun c:Pt => decide ((c.1 + 1,c.2)∈S)) (fun c => c.1 + 1),← sum_filt (fun c:Pt => decide ((c.1 - 1,c.2)∈S)) (fun c => c.1)]
 have hp:((S.filter fun c => decide ((c.1 + 1,c.2)∈S)).map fun c => (c.1 + 1,c.2)).Perm (S.filter fun c => decide ((c.1 - 1,c.2)∈S)):=by
  refine (List.perm_ext_iff_of_nodup ?_ (nd.filter _)).mpr fun q => ?_
  ·rw [List.nodup_iff_pairwise_ne,List.pairwise_map]
   refine (List.nodup_iff_pairwise_ne.mp (nd.filter _)).imp fun {a b} hne z => hne ?_
   have z1:a.1 + 1 = b.1 + 1:=(Prod.mk.inj z).1
   exact Prod.ext (by omega) (Prod.mk.inj z).2
  ·rw [List.mem_map,List.mem_filter,decide_eq_true_iff]
   constructor
   ·rintro ⟨c,hc,rfl⟩
    have:=List.mem_filter.mp hc
    refine ⟨by simpa using this.2,?_⟩
    show (c.1 + 1 - 1,c.2)∈S
    rw [Int.add_sub_cancel]; exact this.1
   ·rintro ⟨h1,h2⟩
    refine ⟨(q.1 - 1,q.2),List.mem_filter.mpr ⟨h2,?_⟩,Prod.ext (by show q.1 - 1 + 1 = q.1; omega) rfl⟩
    rw [decide_eq_true_iff]
    show (q.1 - 1 + 1,q.2)∈S
    rw [Int.sub_add_cancel]; exact h1
 have:=sumP (hp.map Prod.fst)
 rw [List.map_map] at this
 exact this
def gq (S:List Pt) (q:Pt):Int:=q.1 * (stp (outD S q)).2
theorem ar_wd (q:Pt):∀ n,ar q (wd S q n) = ((List.range n).map fun i => gq S (itr S q i)).sum
 | 0 => rfl
 | n + 1 => by
  rw [wd_snoc,ar_snoc,ar_wd q n,endp_wd,List.range_succ,List.map_append,List.sum_append,step_ltN outD_lt]
  simp [gq]
theorem sum_cell (g:Dg S) {c:Pt} (hc:c∈S):((((List.range 4).filter fun d => !decide (sdO c d∈S)).map (sdP c)).map (gq S)).sum = (if decide ((c.1 + 1,c.2)∈S) = true then 0 else c.1 + 1) + (if decide ((c.1 - 1,c.2)∈S) = true then 0 else -c.1):=by
 rw [List.map_map]
 have e:(((List.range 4).filter fun d => !decide (sdO c d∈S)).map (gq S∘sdP c)) = (((List.range 4).filter fun d => !decide (sdO c d∈S)).map fun d => (sdP c d).1 * (stp d).2):=by
  refine List.map_congr_left fun d hd => ?_
  have k:=List.mem_filter.mp hd
  have ed:=sd_edge hc (List.mem_range.mp k.1) (by simpa using k.2)
  show (sdP c d).1 * (stp (outD S (sdP c d))).2 = _
  rw [edge_one g (outD_edge ⟨d,ed⟩) ed]
 rw [e,sum_filt (fun d => !decide (sdO c d∈S)) (fun d => (sdP c d).1 * (stp d).2)]
 show (if (!decide (sdO c 0∈S)) = true then (c.1 * 0:Int) else 0) + ((if (!decide ((c.1 + 1,c.2)∈S)) = true then ((c.1 + 1) * 1:Int) else 0) + ((if (!decide (sdO c 2∈S)) = true then ((c.1 + 1) * 0:Int) else 0) + ((if (!decide ((c.1 - 1,c.2)∈S)) = true then (c.1 * -1:Int) else 0) + 0))) = _
 rw [Int.mul_zero,Int.mul_zero,Int.mul_one]
 cases decide ((c.1 + 1,c.2)∈S) <;> cases decide ((c.1 - 1,c.2)∈S) <;> simp <;> omega
theorem sum_crnK (g:Dg S):∀ {cs:List Pt},(∀ c∈cs,c∈S)→((crnK S cs).map (gq S)).sum = (cs.map fun c => (if decide ((c.1 + 1,c.2)∈S) = true then 0 else c.1 + 1) + (if decide ((c.1 - 1,c.2)∈S) = true then 0 else -c.1)).sum
 | [],_ => rfl
 | c::cs,h => by
  have e:crnK S (c::cs) = ((List.range 4).filter fun d => !decide (sdO c d∈S)).map (sdP c)++crnK S cs:=by simp [crnK]
  rw [e,List.map_append,List.sum_append,sum_cell g (h c (by simp)),sum_crnK g fun x hx => h x (by simp [hx]),List.map_cons,List.sum_cons]
theorem area_len (g:Dg S) (nd:S.Nodup) {q:Pt} {t:Nat} (hq:Crn S q) (r:Rnd S q t):ar q (wd S q t) = S.length:=by
 have hp:((List.range t).map (itr S q)).Perm (crnK S S):=by
  refine (List.perm_ext_iff_of_nodup ?_ (crnK_nd g nd fun _ h => h)).mpr fun p => ?_
  ·rw [List.nodup_iff_pairwise_ne,List.pairwise_map]
   refine List.Pairwise.imp_of_mem (fun {a b} _ hb hlt => r.inj a b hlt (List.mem_range.mp hb)) List.pairwise_lt_range
  ·rw [mem_crnK,List.mem_map]
   constructor
   ·rintro ⟨i,_,rfl⟩
    obtain ⟨d,e⟩:=crn_itr hq i
    exact ⟨_,e.l,d,e.lt,by rw [← sd_r e.lt,← sd_of e.lt]; exact e.r,sd_of e.lt⟩
   ·rintro ⟨c,hc,d,h1,h2,rfl⟩
    (refine Classical.byContradiction fun k_ => ?_; obtain ⟨m,hm,e⟩:=r.all _ ⟨d,sd_edge hc h1 h2⟩; refine k_ ?_; clear k_)
    exact ⟨m,List.mem_range.mpr hm,e.symm⟩
 have e1:=sumP (hp.map (gq S))
 rw [List.map_map] at e1
 rw [ar_wd]
 show ((List.range t).map (gq S∘itr S q)).sum = _
 rw [e1,sum_crnK g fun _ h => h]
 have e2:=sum_east nd
 have e3:(S.map fun c:Pt => (if decide ((c.1 + 1,c.2)∈S) = true then 0 else c.1 + 1) + (if decide ((c.1 - 1,c.2)∈S) = true then 0 else -c.1)).sum + (S.map fun c:Pt => if decide ((c.1 + 1,c.2)∈S) = true then c.1 + 1 else 0).sum = (S.map fun c:Pt => (1:Int) + if decide ((c.1 - 1,c.2)∈S) = true then c.1 else 0).sum:=by
  rw [← sum_add]
  congr 1
  refine List.map_congr_left fun c _ => ?_
  cases decide ((c.1 + 1,c.2)∈S) <;> cases decide ((c.1 - 1,c.2)∈S) <;> simp <;> omega
 rw [sum_add (fun _ => (1:Int)) (fun c:Pt => if decide ((c.1 - 1,c.2)∈S) = true then c.1 else 0),e2] at e3
 have e4:∀ l:List Pt,(l.map fun _ => (1:Int)).sum = l.length:=by
  intro l
  induction l with
  | nil => rfl
  | cons c l ih => rw [List.map_cons,List.sum_cons,ih,List.length_cons]; omega
 rw [e4] at e3
 omega
end
section
variable {S:List Pt}
def Upr (S:List Pt) (x y:Int):Prop:=decide ((x,y)∈S)≠decide ((x - 1,y)∈S)
def uprA (S:List Pt) (p:Pt):Option Pt:=if outD S p = 1 then some (p.1,p.2) else if outD S p = 3 then some (p.1,p.2 - 1) else none
theorem uprA_yes {p c:Pt} (hp:Crn S p) (h:uprA S p = some c):Upr S c.1 c.2:=by
 have e:=outD_edge hp
 unfold uprA at h
 split at h
 ·rename_i z
  cases h
  rw [z] at e
  have l:(p.1 - 1,p.2)∈S:=e.l
  have r:(p.1,p.2)∉S:=e.r
  unfold Upr
  rw [decide_eq_true l,decide_eq_false r]; decide
 ·split at h
  ·rename_i z
   cases h
   rw [z] at e
   have l:(p.1,p.2 - 1)∈S:=e.l
   have r:(p.1 - 1,p.2 - 1)∉S:=e.r
   unfold Upr
   rw [decide_eq_true l,decide_eq_false r]; decide
  ·cases h
theorem uprA_side {p c:Pt} (hp:Crn S p) (h:uprA S p = some c):(c∈S→p = (c.1,c.2 + 1))∧(c∉S→p = c):=by
 have e:=outD_edge hp
 unfold uprA at h
 split at h
 ·rename_i z
  cases h
  rw [z] at e
  exact ⟨fun k => absurd k e.r,fun _ => rfl⟩
 ·split at h
  ·rename_i z
   cases h
   rw [z] at e
   exact ⟨fun _ => Prod.ext rfl (by show p.2 = p.2 - 1 + 1; omega),fun k => absurd e.l k⟩
  ·cases h
theorem upr_at (g:Dg S) {x y:Int} (h:Upr S x y):∃ p,Crn S p∧uprA S p = some (x,y):=by
 unfold Upr at h
 by_cases c:(x,y)∈S
 ·have d:(x - 1,y)∉S:=fun z => h (by rw [decide_eq_true c,decide_eq_true z])
  have e:Edge S (x,y + 1) 3:=⟨by omega,by rw [lft3]; show (x,y + 1 - 1)∈S; rw [Int.add_sub_cancel]; exact c,by rw [rgt3]; show (x - 1,y + 1 - 1)∉S; rw [Int.add_sub_cancel]; exact d⟩
  refine ⟨(x,y + 1),⟨3,e⟩,?_⟩
  unfold uprA
  rw [edge_one g (outD_edge ⟨3,e⟩) e,if_neg (by omega),if_pos rfl]
  show some (x,y + 1 - 1) = _
  rw [Int.add_sub_cancel]
 ·have d:(x - 1,y)∈S:=Classical.byContradiction fun z => h (by rw [decide_eq_false c,decide_eq_false z])
  have e:Edge S (x,y) 1:=⟨by omega,by rw [lft1]; exact d,by rw [rgt1]; exact c⟩
  refine ⟨(x,y),⟨1,e⟩,?_⟩
  unfold uprA
  rw [edge_one g (outD_edge ⟨1,e⟩) e,if_pos rfl]
def uprs (S:List Pt) (q:Pt) (n:Nat):List Pt:=(List.range n).filterMap fun i => uprA S (itr S q i)
theorem mem_uprs (g:Dg S) {q:Pt} {t:Nat} (hq:Crn S q) (r:Rnd S q t) {c:Pt}:c∈uprs S q t↔Upr S c.1 c.2:=by
 unfold uprs
 rw [List.mem_filterMap]
 constructor
 ·rintro ⟨i,_,e⟩; exact uprA_yes (crn_itr hq i) e
 ·intro h
  (refine Classical.byContradiction fun k_ => ?_; obtain ⟨p,hp,e⟩:=upr_at g h; refine k_ ?_; clear k_)
  (refine Classical.byContradiction fun k_ => ?_; obtain ⟨m,hm,rfl⟩:=r.all p hp; refine k_ ?_; clear k_)
  exact ⟨m,List.mem_range.mpr hm,e⟩
theorem uprs_nd {q:Pt} {t:Nat} (hq:Crn S q) (r:Rnd S q t):(uprs S q t).Nodup:=by
 unfold uprs
 rw [List.nodup_iff_pairwise_ne,List.pairwise_filterMap]
 refine List.Pairwise.imp_of_mem (fun {i j} _ hj hlt a ha b hb z => ?_) List.pairwise_lt_range
 subst z
 have k1:=uprA_side (crn_itr hq i) ha
 have k2:=uprA_side (crn_itr hq j) hb
 have hjt:=List.mem_range.mp hj
 by_cases c:a∈S
 ·exact r.inj i j hlt hjt ((k1.1 c).trans (k2.1 c).symm)
 ·exact r.inj i j hlt hjt ((k1.2 c).trans (k2.2 c).symm)
structure RwOk (S:List Pt) (rws:List (Int×List Int)):Prop where
 ys:rws.Pairwise (fun a b => a.1 < b.1)
 xs:∀ w∈rws,w.2.Pairwise (· < ·)
 mem:∀ w∈rws,∀ x,x∈w.2↔Upr S x w.1
 all:∀ x y,Upr S x y→∃ w∈rws,w.1 = y
theorem row_fill {S:List Pt} {y:Int} {xs:List Int} (hs:xs.Pairwise (· < ·)) (hm:∀ x,x∈xs↔Upr S x y):xs.length % 2 = 0∧(∀ x,x∈fill xs↔(x,y)∈S)∧(fill xs).Pairwise (· < ·):=by
 (refine Classical.byContradiction fun k_ => ?_; obtain ⟨M,m0,hM⟩:=bound_ex S; refine k_ ?_; clear k_)
 have key:=fill_ok xs.length xs (fun x => decide ((x,y)∈S)) (-M) (M + 1) (Nat.le_refl _) hs (fun x hx => decide_eq_false fun z => by have:=hM _ z; dsimp only at this; omega) (fun x hx => decide_eq_false fun z => by have:=hM _ z; dsimp only at this; omega) (fun x => by
  rw [hm x]
  constructor
  ·intro h
   refine ⟨Classical.byContradiction fun z => h ?_,h⟩
   rw [decide_eq_false fun k => by have:=hM _ k; dsimp only at this; omega,decide_eq_false fun k => by have:=hM _ k; dsimp only at this; omega]
  ·exact fun h => h.2)
 refine ⟨key.1,fun x => ?_,key.2.2⟩
 rw [key.2.1 x,decide_eq_true_iff]
def rwC (w:Int×List Int):List Pt:=(fill w.2).map fun x => (x,w.1)
theorem rows_isort (nd:S.Nodup) {rws:List (Int×List Int)} (h:RwOk S rws):(rws.map rwC).flatten = isort S:=by
 have ok:=fun w hw => row_fill (h.xs w hw) (h.mem w hw)
 have mr:∀ {c:Pt} {w:Int×List Int},c∈rwC w↔c.2 = w.1∧c.1∈fill w.2:=fun {c w} => by
  unfold rwC
  rw [List.mem_map]
  constructor
  ·rintro ⟨x,hx,rfl⟩; exact ⟨rfl,hx⟩
  ·rintro ⟨h1,h2⟩; exact ⟨c.1,h2,Prod.ext rfl h1.symm⟩
 have lt:((rws.map rwC).flatten).Pairwise fun a b => a.2 < b.2∨(a.2 = b.2∧a.1 < b.1):=by
  have go:∀ {l:List (Int×List Int)},l.Pairwise (fun a b => a.1 < b.1)→(∀ w∈l,w∈rws)→((l.map rwC).flatten).Pairwise fun a b => a.2 < b.2∨(a.2 = b.2∧a.1 < b.1):=by
   intro l
   induction l with
   | nil => intro _ _; exact List.Pairwise.nil
   | cons w l ih =>
    intro hp hsub
    have hp':=List.pairwise_cons.mp hp
    rw [List.map_cons,List.flatten_cons]
    refine List.pairwise_append.mpr ⟨?_,ih hp'.2 fun v hv => hsub v (by simp [hv]),fun a ha b hb => .inl ?_⟩
    ·unfold rwC
     rw [List.pairwise_map]
     exact (ok w (hsub w (by simp))).2.2.imp fun k => .inr ⟨rfl,k⟩
    ·(refine Classical.byContradiction fun k_ => ?_; obtain ⟨k,hk,hbk⟩:=List.mem_flatten.mp hb; refine k_ ?_; clear k_)
     (refine Classical.byContradiction fun k_ => ?_; obtain ⟨v,hv,rfl⟩:=List.mem_map.mp hk; refine k_ ?_; clear k_)
     rw [(mr.mp ha).1,(mr.mp hbk).1]
     exact hp'.1 v hv
  exact go h.ys fun _ z => z
 refine (isort_of ?_ ?_).symm
 ·refine (List.perm_ext_iff_of_nodup ?_ nd).mpr fun c => ?_
  ·rw [List.nodup_iff_pairwise_ne]
   refine lt.imp fun {a b} k z => ?_
   subst z
   omega
  ·rw [List.mem_flatten]
   constructor
   ·rintro ⟨k,hk,hc⟩
    (refine Classical.byContradiction fun k_ => ?_; obtain ⟨w,hw,rfl⟩:=List.mem_map.mp hk; refine k_ ?_; clear k_)
    have:=mr.mp hc
    have k2:=((ok w hw).2.1 c.1).mp this.2
    rw [← this.1] at k2
    exact k2
   ·intro hc
    have ex:∃ x,Upr S x c.2:=Classical.byContradiction fun z => by
     have e:∀ n:Nat,(c.1 - (n:Int),c.2)∈S:=fun n => by
      induction n with
      | zero => rw [show c.1 - ((0:Nat):Int) = c.1 by omega]; exact hc
      | succ n ih =>
       refine Classical.byContradiction fun k => z ⟨c.1 - (n:Int),?_⟩
       unfold Upr
       rw [decide_eq_true ih,decide_eq_false (by rw [show c.1 - (n:Int) - 1 = c.1 - ((n + 1:Nat):Int) by omega]; exact k)]
       decide
     (refine Classical.byContradiction fun k_ => ?_; obtain ⟨M,m0,hM⟩:=bound_ex S; refine k_ ?_; clear k_)
     have:=hM _ (e (c.1 + M + 1).toNat)
     have h0:=hM _ hc
     dsimp only at this
     omega
    obtain ⟨x,hx⟩:=ex
    (refine Classical.byContradiction fun k_ => ?_; obtain ⟨w,hw,ew⟩:=h.all x c.2 hx; refine k_ ?_; clear k_)
    refine ⟨rwC w,List.mem_map.mpr ⟨w,hw,rfl⟩,mr.mpr ⟨ew.symm,?_⟩⟩
    rw [(ok w hw).2.1,ew]
    exact hc
 ·refine lt.imp fun {a b} k => ?_
  unfold leP
  rw [ltc_false]
  omega
end
section
variable {S T:List Pt} {p:Pt}
theorem wd_add (S:List Pt) (p:Pt) (a:Nat):∀ b,wd S p (a + b) = wd S p a++wd S (itr S p a) b
 | 0 => (List.append_nil _).symm
 | b + 1 => by rw [← Nat.add_assoc,wd_snoc,wd_snoc,wd_add S p a b,itr_add,List.append_assoc]
theorem wd_beg {t i:Nat} (hb:itr S p t = p) (h:i≤t):(wd S p t).drop i++(wd S p t).take i = wd S (itr S p i) t:=by
 obtain ⟨k,rfl⟩:=Nat.exists_eq_add_of_le h
 have e:=wd_add S p i k
 have l:=wd_len S p i
 rw [e,List.drop_left' l,List.take_left' l,Nat.add_comm i k,wd_add S (itr S p i) k i,← itr_add,hb]
theorem cntS_le (S:List Pt) (cs:List Pt):cntS S cs≤4 * cs.length:=by
 induction cs with
 | nil => exact Nat.le_refl _
 | cons c cs ih =>
  have e:cntS S (c::cs) = ((around4 c).filter fun q => !decide (q∈S)).length + cntS S cs:=rfl
  have:=List.length_filter_le (fun q => !decide (q∈S)) (around4 c)
  have h4:(around4 c).length = 4:=rfl
  rw [e,List.length_cons]; omega
theorem Rnd.few {t:Nat} (g:Dg S) (nd:S.Nodup) (hp:Crn S p) (r:Rnd S p t):t≤4 * S.length:=by rw [← cnt_rnd g nd hp r]; exact cntS_le S S
theorem Rnd.at (o:One S) (nd:S.Nodup) (hp:Crn S p) {t:Nat} (r:Rnd S p t) (i:Nat):Rnd S (itr S p i) t:=by
 obtain ⟨t',r'⟩:=o.rnd (crn_itr hp i)
 rw [← cnt_rnd o.dg nd hp r,cnt_rnd o.dg nd (crn_itr hp i) r']
 exact r'
def mvP (v p:Pt):Pt:=(p.1 + v.1,p.2 + v.2)
variable {v:Pt} (h:∀ c:Pt,mvP v c∈T↔c∈S)
end
def sp_added:Sp3:=fun ds H Q => ∃ a b c d x,ds = [.tup [.int a,.int b],x]∧(x = .tup [.int c,.int d]∨x = .ktup [.int c,.int d])∧Q (.tup [.int (a + c),.int (b + d)]) H
theorem u_addedK {a b c d:Int} {H:Hp3} {Q:VK3} (h:Q (.tup [.int (a + c),.int (b + d)]) H):sp_added [.tup [.int a,.int b],.ktup [.int c,.int d]] H Q:=⟨a,b,c,d,_,rfl,.inr rfl,h⟩
local macro_rules | `(tactic| walk_at "l3c") => `(tactic| first | (with_reducible refine u_added ?_) | (with_reducible refine u_addedK ?_))
theorem len_added:∀ (ds:List D) (H:Hp3) (Q:VK3),sp_added ds H Q→ds.length = P_added.length:=by
 intro ds H Q h
 (refine Classical.byContradiction fun k_ => ?_; obtain ⟨_,_,_,_,_,rfl,_⟩:=h; refine k_ ?_; clear k_)
 rfl
def t_added:TS3:=(rt3 (tp3 (cons3 (o3 r3add (o3 r3ix (v3 0) (c3 (.int 0))) (o3 r3ix (v3 1) (c3 (.int 0)))) (cons3 (o3 r3add (o3 r3ix (v3 0) (c3 (.int 1))) (o3 r3ix (v3 1) (c3 (.int 1)))) nil3))))
theorem rd_added:∀ (ds:List D) (H:Hp3) (Q:VK3),sp_added ds H Q→t_added (fin3 Q) (start3 N_added ds) H:=by
 intro ds H Q h
 (refine Classical.byContradiction fun k_ => ?_; obtain ⟨a,b,c,d,x,rfl,hx,h⟩:=h; refine k_ ?_; clear k_)
 rcases hx with rfl | rfl
 ·simp only [t_added,start3,N_added,List.map_cons,List.map_nil,List.length_cons,List.length_nil,Nat.reduceAdd,Nat.reduceSub,Nat.zero_add,List.replicate,List.cons_append,List.nil_append]
  walk_at "l3"
  exact g_fin h Sub3.refl
 ·simp only [t_added,start3,N_added,List.map_cons,List.map_nil,List.length_cons,List.length_nil,Nat.reduceAdd,Nat.reduceSub,Nat.zero_add,List.replicate,List.cons_append,List.nil_append]
  walk_at "l3"
  exact g_fin h Sub3.refl
def sp_begun_at:Sp3:=fun ds H Q => ∃ z n,ds = [.str z,.int n]∧(∃ ls:List Lt,(z = wStr ls∧ls.length≤500∧0≤n∧n≤ls.length)∧Q (.str (wStr (beg ls n.toNat))) H)
theorem u_begun_at (ls:List Lt) {n:Int} {H:Hp3} {Q:VK3} (hl:ls.length≤500) (h0:0≤n) (h1:n≤ls.length) (h:Q (.str (wStr (beg ls n.toNat))) H):sp_begun_at [.str (wStr ls),.int n] H Q:=⟨_,_,rfl,⟨ls,⟨rfl,hl,h0,h1⟩,h⟩⟩
theorem len_begun_at:∀ (ds:List D) (H:Hp3) (Q:VK3),sp_begun_at ds H Q→ds.length = P_begun_at.length:=by
 intro ds H Q h
 (refine Classical.byContradiction fun k_ => ?_; obtain ⟨_,_,rfl,_⟩:=h; refine k_ ?_; clear k_)
 rfl
def t_begun_at:TS3:=(rt3 (o3 r3add (sl3 r3slZ (v3 0) (pt3 (v3 1)) np3) (sl3 r3slZ (v3 0) np3 (pt3 (v3 1)))))
theorem rd_begun_at:∀ (ds:List D) (H:Hp3) (Q:VK3),sp_begun_at ds H Q→t_begun_at (fin3 Q) (start3 N_begun_at ds) H:=by
 intro ds H Q h
 (refine Classical.byContradiction fun k_ => ?_; obtain ⟨z,n,rfl,h⟩:=h; refine k_ ?_; clear k_)
 (refine Classical.byContradiction fun k_ => ?_; obtain ⟨ls,⟨rfl,hl,h0,h1⟩,h⟩:=h; refine k_ ?_; clear k_)
 obtain ⟨m,rfl⟩:=Int.eq_ofNat_of_zero_le h0
 rw [Int.toNat_natCast] at h
 simp only [t_begun_at,start3,N_begun_at,List.map_cons,List.map_nil,List.length_cons,List.length_nil,Nat.reduceAdd,Nat.reduceSub,Nat.zero_add,List.replicate,List.cons_append,List.nil_append]
 walk_at "l3"
 refine g_slZ (wStr_le _ (by omega)) ?_
 rw [cut_drop]
 walk_at "l3"
 refine g_slZ (wStr_le _ (by omega)) ?_
 rw [cut_take]
 walk_at "l3"
 refine g_addZ (by rw [wStr_len,wStr_len,List.length_drop,List.length_take,sizeLine_n]; omega) ?_
 rw [wStr_app]
 exact g_fin h Sub3.refl
def sdD (c:Pt) (d:Nat):D:=.tup [prP (sdP c d),.str (lt1 (ltN d)),prP (sdO c d)]
def sp_sides_of:Sp3:=fun ds H Q => ∃ x y,ds = [.tup [.int x,.int y]]∧(∀ p,H p = none→Q (.ref p) (upd3 H p (.lst ((List.range 4).map (sdD (x,y))))))
theorem u_sides_of {x y:Int} {H:Hp3} {Q:VK3} (h:∀ p,H p = none→Q (.ref p) (upd3 H p (.lst ((List.range 4).map (sdD (x,y)))))):sp_sides_of [.tup [.int x,.int y]] H Q:=⟨_,_,rfl,h⟩
theorem len_sides_of:∀ (ds:List D) (H:Hp3) (Q:VK3),sp_sides_of ds H Q→ds.length = P_sides_of.length:=by
 intro ds H Q h
 (refine Classical.byContradiction fun k_ => ?_; obtain ⟨_,_,rfl,_⟩:=h; refine k_ ?_; clear k_)
 rfl
def t_sides_of:TS3:=(sq3 (st3 1 (o3 r3ix (v3 0) (c3 (.int 0))))
  (sq3 (st3 2 (o3 r3ix (v3 0) (c3 (.int 1))))
  (rt3 (ls3 (cons3 (tp3 (cons3 (tp3 (cons3 (v3 1) (cons3 (v3 2) nil3))) (cons3 (c3 (.str "e")) (cons3 (tp3 (cons3 (v3 1) (cons3 (o3 i3sub (v3 2) (c3 (.int 1))) nil3))) nil3)))) (cons3 (tp3 (cons3 (tp3 (cons3 (o3 r3add (v3 1) (c3 (.int 1))) (cons3 (v3 2) nil3))) (cons3 (c3 (.str "n")) (cons3 (tp3 (cons3 (o3 r3add (v3 1) (c3 (.int 1))) (cons3 (v3 2) nil3))) nil3)))) (cons3 (tp3 (cons3 (tp3 (cons3 (o3 r3add (v3 1) (c3 (.int 1))) (cons3 (o3 r3add (v3 2) (c3 (.int 1))) nil3))) (cons3 (c3 (.str "w")) (cons3 (tp3 (cons3 (v3 1) (cons3 (o3 r3add (v3 2) (c3 (.int 1))) nil3))) nil3)))) (cons3 (tp3 (cons3 (tp3 (cons3 (v3 1) (cons3 (o3 r3add (v3 2) (c3 (.int 1))) nil3))) (cons3 (c3 (.str "s")) (cons3 (tp3 (cons3 (o3 i3sub (v3 1) (c3 (.int 1))) (cons3 (v3 2) nil3))) nil3)))) nil3))))))))
theorem rd_sides_of:∀ (ds:List D) (H:Hp3) (Q:VK3),sp_sides_of ds H Q→t_sides_of (fin3 Q) (start3 N_sides_of ds) H:=by
 intro ds H Q h
 (refine Classical.byContradiction fun k_ => ?_; obtain ⟨x,y,rfl,h⟩:=h; refine k_ ?_; clear k_)
 simp only [t_sides_of,start3,N_sides_of,List.map_cons,List.map_nil,List.length_cons,List.length_nil,Nat.reduceAdd,Nat.reduceSub,Nat.zero_add,List.replicate,List.cons_append,List.nil_append]
 walk_at "l3"
 intro p hp
 exact g_fin (h p hp) Sub3.refl
def sp_check_letters:Sp3:=fun ds H Q => ∃ z,ds = [.str z]∧(∃ ls:List Lt,(z = wStr ls∧ls≠[]∧ls.length≤500)∧Q .non H)
theorem u_check_letters {ls:List Lt} {H:Hp3} {Q:VK3} (hn:ls≠[]) (hl:ls.length≤500) (h:Q .non H):sp_check_letters [.str (wStr ls)] H Q:=⟨_,rfl,⟨ls,⟨rfl,hn,hl⟩,h⟩⟩
theorem steps_in (l:Lt):(c_STEPS.lookup (lt1 l)).isSome = true:=by
 revert l; intro l; match l with
 | 0 => rfl
 | 1 => rfl
 | 2 => rfl
 | 3 => rfl
theorem len_check_letters:∀ (ds:List D) (H:Hp3) (Q:VK3),sp_check_letters ds H Q→ds.length = P_check_letters.length:=by
 intro ds H Q h
 (refine Classical.byContradiction fun k_ => ?_; obtain ⟨_,rfl,_⟩:=h; refine k_ ?_; clear k_)
 rfl
def lp_check_letters_0:TS3:=fo3 (iez (v3 0)) (g2_3 1 2) (is3 (ts3 (ki3 c_STEPS true (v3 2))) ra3 nx3)
def t_check_letters:TS3:=(sq3 (is3 (ts3 (o3 r3eq (v3 0) (c3 (.str "")))) ra3 nx3)
  lp_check_letters_0)
theorem rd_check_letters:∀ (ds:List D) (H:Hp3) (Q:VK3),sp_check_letters ds H Q→t_check_letters (fin3 Q) (start3 N_check_letters ds) H:=by
 intro ds H Q h
 (refine Classical.byContradiction fun k_ => ?_; obtain ⟨_,rfl,h⟩:=h; refine k_ ?_; clear k_)
 (refine Classical.byContradiction fun k_ => ?_; obtain ⟨ls,⟨rfl,hn,hl⟩,h⟩:=h; refine k_ ?_; clear k_)
 simp only [t_check_letters,start3,N_check_letters,List.map_cons,List.map_nil,List.length_cons,List.length_nil,Nat.reduceAdd,Nat.reduceSub,Nat.zero_add,List.replicate,List.cons_append,List.nil_append]
 walk_at "l3"
 refine g_eqW (bs:=[]) ?_
 walk_at "l3"
 refine ifD (fun z => absurd z hn) fun _ => ?_
 walk_at "l3"
 unfold lp_check_letters_0
 walk_at "l3"
 refine g_ezk (asc_w ls) ?_
 rw [lets_w]
 refine Lp.by (fun i σ H2 => H2 = H∧∃ a b,σ = [some (.str (wStr ls)),a,b]) ⟨rfl,_,_,rfl⟩ (fun _ _ _ _ _ => trivial) ?_ ?_
 ·intro i d σ H2 hd z_
  (refine Classical.byContradiction fun k_ => ?_; obtain ⟨rfl,a,b,rfl⟩:=z_; refine k_ ?_; clear k_)
  obtain ⟨n,l,rfl⟩:∃ (n:Int) (l:Lt),d = .tup [.int n,.str (lt1 l)]:=by
   unfold rng at hd
   rw [zipD_map,List.getElem?_map] at hd
   (refine Classical.byContradiction fun k_ => ?_; obtain ⟨⟨n,l⟩,_,rfl⟩:=Option.map_eq_some_iff.mp hd; refine k_ ?_; clear k_)
   exact ⟨_,l,rfl⟩
  walk_at "l3"
  rw [steps_in l]
  walk_at "l3"
  exact ⟨rfl,_,_,rfl⟩
 ·intro σ H2 z_
  (refine Classical.byContradiction fun k_ => ?_; obtain ⟨rfl,a,b,rfl⟩:=z_; refine k_ ?_; clear k_)
  walk_at "l3"
  exact g_finN h Sub3.refl
def cat (ns:List Int) (k:Nat):Int:=if k < ns.length then ns.getD k 0 else if ns.length = 0 then 0 else ns.getD (k % ns.length) 0 * (48271 + (k:Int) * (k:Int)) % 1000003
def sp_l_cell_at:Sp3:=fun ds H Q => ∃ xs k,ds = [.fl xs,.int k]∧((match intsOf xs with
  | some ns => (0≤k∧k < 100000∧ns.length≤63)∧Q (.int (cat ns k.toNat)) H
  | none => False))
theorem u_l_cell_at {ns:List Int} {k:Int} {H:Hp3} {Q:VK3} (hk:0≤k) (hk1:k < 100000) (hl:ns.length≤63) (h:Q (.int (cat ns k.toNat)) H):sp_l_cell_at [.fl (ns.map D.int),.int k] H Q:=by
 refine ⟨_,_,rfl,?_⟩
 simp only [intsOf_map]; exact ⟨⟨hk,hk1,hl⟩,h⟩
local macro_rules | `(tactic| walk_at "l3c") => `(tactic| ((with_reducible show sp_l_cell_at _ _ _); refine u_l_cell_at (by walk_at "l3a") (by walk_at "l3a") (by assumption) ?_))
theorem len_l_cell_at:∀ (ds:List D) (H:Hp3) (Q:VK3),sp_l_cell_at ds H Q→ds.length = P_l_cell_at.length:=by
 intro ds H Q h
 (refine Classical.byContradiction fun k_ => ?_; obtain ⟨_,_,rfl,_⟩:=h; refine k_ ?_; clear k_)
 rfl
def t_l_cell_at:TS3:=(sq3 (is3 (ts3 (o3 r3lt (v3 1) (cb3 r3len (cons3 (v3 0) nil3)))) (rt3 (o3 r3ix (v3 0) (v3 1))) nx3)
  (sq3 (is3 (ts3 (o3 r3eq (cb3 r3len (cons3 (v3 0) nil3)) (c3 (.int 0)))) (rt3 (c3 (.int 0))) nx3)
  (rt3 (o3 i3mod (o3 i3mulW (o3 r3ix (v3 0) (o3 i3mod (v3 1) (cb3 r3len (cons3 (v3 0) nil3)))) (o3 r3add (c3 (.int 48271)) (o3 i3mulW (v3 1) (v3 1)))) (c3 (.int 1000003))))))
theorem rd_l_cell_at:∀ (ds:List D) (H:Hp3) (Q:VK3),sp_l_cell_at ds H Q→t_l_cell_at (fin3 Q) (start3 N_l_cell_at ds) H:=by
 intro ds H Q h
 (refine Classical.byContradiction fun k_ => ?_; obtain ⟨xs,k,rfl,h⟩:=h; refine k_ ?_; clear k_)
 split at h
 case h_2 => exact h.elim
 rename_i ns e
 have e':=intsOf_inv e
 subst e'
 (refine Classical.byContradiction fun k_ => ?_; obtain ⟨⟨hk,hk1,hns⟩,h⟩:=h; refine k_ ?_; clear k_)
 obtain ⟨n,rfl⟩:=Int.eq_ofNat_of_zero_le hk
 rw [Int.toNat_natCast] at h
 simp only [t_l_cell_at,start3,N_l_cell_at,List.map_cons,List.map_nil,List.length_cons,List.length_nil,Nat.reduceAdd,Nat.reduceSub,Nat.zero_add,List.replicate,List.cons_append,List.nil_append]
 unfold cat at h
 walk_at "l3"
 rw [List.length_map]
 refine ifD (fun hlt => ?_) fun hlt => ?_
 ·have hl:n < ns.length:=by omega
  rw [if_pos hl] at h
  have ha:atI (ns.map D.int) (n:Int) = some (.int (ns.getD n 0)):=by
   rw [atI_map (by omega) (by rw [Int.toNat_natCast]; exact hl)]
   simp only [Int.toNat_natCast,List.getD_eq_getElem?_getD,List.getElem?_eq_getElem hl]; rfl
  walk_at "l3"
  refine g_ixF ha ?_
  walk_at "l3"
  exact g_fin h Sub3.refl
 ·have hl:¬ n < ns.length:=by omega
  rw [if_neg hl] at h
  walk_at "l3"
  rw [List.length_map]
  refine ifD (fun h0 => ?_) fun h0 => ?_
  ·walk_at "l3"
   rw [if_pos (by omega)] at h
   exact g_fin h Sub3.refl
  ·rw [if_neg (by omega)] at h
   have hp:(0:Int) < ns.length:=by omega
   have hm:n % ns.length < ns.length:=Nat.mod_lt _ (by omega)
   walk_at "l3"
   rw [List.length_map]
   refine g_mod hp ?_
   have ha:atI (ns.map D.int) ((n:Int) % (ns.length:Int)) = some (.int (ns.getD (n % ns.length) 0)):=by
    rw [← Int.natCast_emod,atI_map (by omega) (by rw [Int.toNat_natCast]; exact hm)]
    simp only [Int.toNat_natCast,List.getD_eq_getElem?_getD,List.getElem?_eq_getElem hm]; rfl
   refine g_ixF ha ?_
   walk_at "l3"
   have hq:(n:Int) * (n:Int)≤100000 * 100000:=Int.mul_le_mul (by omega) (by omega) (by omega) (by omega)
   have hq0:0≤(n:Int) * (n:Int):=Int.mul_nonneg (by omega) (by omega)
   refine g_mulW (.inl (.inr ⟨by omega,by omega⟩)) ?_
   walk_at "l3"
   exact g_fin h Sub3.refl
def sp_l_corner:Sp3:=fun ds H Q => ∃ w0_ w1_,ds = [.int w0_,.int w1_]∧(∀ x y,Q (.tup [.int x,.int y]) H)
theorem u_l_corner {c d:Int} {H:Hp3} {Q:VK3} (h:∀ x y,Q (.tup [.int x,.int y]) H):sp_l_corner [.int c,.int d] H Q:=⟨_,_,rfl,h⟩
theorem len_l_corner:∀ (ds:List D) (H:Hp3) (Q:VK3),sp_l_corner ds H Q→ds.length = P_l_corner.length:=by
 intro ds H Q h
 (refine Classical.byContradiction fun k_ => ?_; obtain ⟨_,_,rfl,_⟩:=h; refine k_ ?_; clear k_)
 rfl
def t_l_corner:TS3:=(sq3 (is3 (ts3 (o3 r3eq (o3 i3mod (v3 0) (c3 (.int 3))) (c3 (.int 0)))) (rt3 (tp3 (cons3 (o3 i3sub (o3 i3mod (o3 i3divW (v3 0) (c3 (.int 3))) (c3 (.int 41))) (c3 (.int 20))) (cons3 (o3 i3sub (o3 i3mod (o3 i3divW (v3 1) (c3 (.int 3))) (c3 (.int 41))) (c3 (.int 20))) nil3)))) nx3)
  (rt3 (tp3 (cons3 (o3 i3sub (o3 i3mod (o3 i3divW (v3 0) (c3 (.int 3))) (o3 r3add (o3 i3mulW (c3 (.int 2)) (o3 i3pow (c3 (.int 10)) (c3 (.int 40)))) (c3 (.int 1)))) (o3 i3pow (c3 (.int 10)) (c3 (.int 40)))) (cons3 (o3 i3sub (o3 i3mod (v3 1) (o3 r3add (o3 i3mulW (c3 (.int 2)) (o3 i3pow (c3 (.int 10)) (c3 (.int 40)))) (c3 (.int 1)))) (o3 i3pow (c3 (.int 10)) (c3 (.int 40)))) nil3)))))
theorem rd_l_corner:∀ (ds:List D) (H:Hp3) (Q:VK3),sp_l_corner ds H Q→t_l_corner (fin3 Q) (start3 N_l_corner ds) H:=by
 intro ds H Q h
 (refine Classical.byContradiction fun k_ => ?_; obtain ⟨_,_,rfl,h⟩:=h; refine k_ ?_; clear k_)
 simp only [t_l_corner,start3,N_l_corner,List.map_cons,List.map_nil,List.length_cons,List.length_nil,Nat.reduceAdd,Nat.reduceSub,Nat.zero_add,List.replicate,List.cons_append,List.nil_append]
 walk_at "l3"
 refine ifD (fun hc => ?_) fun hc => ?_
 ·walk_at "l3"
  exact g_fin (h _ _) Sub3.refl
 ·walk_at "l3"
  exact g_fin (h _ _) Sub3.refl
def sp_l_step:Sp3:=fun ds H Q => ∃ z,ds = [.str z]∧(∃ l:Lt,z = lt1 l∧Q (.tup [.int (step l).1,.int (step l).2]) H)
theorem u_l_step (l:Lt) {H:Hp3} {Q:VK3} (h:Q (.tup [.int (step l).1,.int (step l).2]) H):sp_l_step [.str (lt1 l)] H Q:=⟨_,rfl,⟨l,rfl,h⟩⟩
theorem enws_at (l:Lt):firstAt "enws" (lt1 l) = some l.val:=by
 match l with
 | 0 => rfl
 | 1 => rfl
 | 2 => rfl
 | 3 => rfl
theorem step_at (l:Lt):atI [D.tup [.int 1,.int 0],.tup [.int 0,.int 1],.tup [.int (-1),.int 0],.tup [.int 0,.int (-1)]] (l.val:Int) = some (.tup [.int (step l).1,.int (step l).2]):=by
 match l with
 | 0 => rfl
 | 1 => rfl
 | 2 => rfl
 | 3 => rfl
theorem len_l_step:∀ (ds:List D) (H:Hp3) (Q:VK3),sp_l_step ds H Q→ds.length = P_l_step.length:=by
 intro ds H Q h
 (refine Classical.byContradiction fun k_ => ?_; obtain ⟨_,rfl,_⟩:=h; refine k_ ?_; clear k_)
 rfl
def t_l_step:TS3:=(rt3 (o3 r3ix (ls3 (cons3 (tp3 (cons3 (c3 (.int 1)) (cons3 (c3 (.int 0)) nil3))) (cons3 (tp3 (cons3 (c3 (.int 0)) (cons3 (c3 (.int 1)) nil3))) (cons3 (tp3 (cons3 (u3 r3neg (c3 (.int 1))) (cons3 (c3 (.int 0)) nil3))) (cons3 (tp3 (cons3 (c3 (.int 0)) (cons3 (u3 r3neg (c3 (.int 1))) nil3))) nil3))))) (mz3 r3index (c3 (.str "enws")) (cons3 (v3 0) nil3))))
theorem rd_l_step:∀ (ds:List D) (H:Hp3) (Q:VK3),sp_l_step ds H Q→t_l_step (fin3 Q) (start3 N_l_step ds) H:=by
 intro ds H Q h
 (refine Classical.byContradiction fun k_ => ?_; obtain ⟨z,rfl,h⟩:=h; refine k_ ?_; clear k_)
 (refine Classical.byContradiction fun k_ => ?_; obtain ⟨l,rfl,h⟩:=h; refine k_ ?_; clear k_)
 simp only [t_l_step,start3,N_l_step,List.map_cons,List.map_nil,List.length_cons,List.length_nil,Nat.reduceAdd,Nat.reduceSub,Nat.zero_add,List.replicate,List.cons_append,List.nil_append]
 walk_at "l3"
 intro p hp
 walk_at "l3"
 refine g_index (enws_at l) ?_
 walk_at "l3"
 refine g_ixL upd3_same (step_at l) ?_
 walk_at "l3"
 exact g_fin h (Sub3.fresh hp)
def sp_l_whole:Sp3:=fun ds H Q => ∃ w0_,ds = [.int w0_]∧(Q (.bl true) H)
theorem u_l_whole {i:Int} {H:Hp3} {Q:VK3} (h:Q (.bl true) H):sp_l_whole [.int i] H Q:=⟨_,rfl,h⟩
local macro_rules | `(tactic| walk_at "l3c") => `(tactic| (with_reducible refine u_l_whole ?_))
theorem len_l_whole:∀ (ds:List D) (H:Hp3) (Q:VK3),sp_l_whole ds H Q→ds.length = P_l_whole.length:=by
 intro ds H Q h
 (refine Classical.byContradiction fun k_ => ?_; obtain ⟨_,rfl,_⟩:=h; refine k_ ?_; clear k_)
 rfl
def t_l_whole:TS3:=(rt3 (av3 (cb3 r3isi (cons3 (v3 0) (cons3 (c3 (.ty "int")) nil3))) (nv3 (cb3 r3isi (cons3 (v3 0) (cons3 (c3 (.ty "bool")) nil3))))))
theorem rd_l_whole:∀ (ds:List D) (H:Hp3) (Q:VK3),sp_l_whole ds H Q→t_l_whole (fin3 Q) (start3 N_l_whole ds) H:=by
 intro ds H Q h
 (refine Classical.byContradiction fun k_ => ?_; obtain ⟨_,rfl,h⟩:=h; refine k_ ?_; clear k_)
 simp only [t_l_whole,start3,N_l_whole,List.map_cons,List.map_nil,List.length_cons,List.length_nil,Nat.reduceAdd,Nat.reduceSub,Nat.zero_add,List.replicate,List.cons_append,List.nil_append]
 walk_at "l3"
 refine ifY rfl ?_
 walk_at "l3"
 exact g_fin h Sub3.refl
def InB (w s:Int) (nx ny:Nat) (c:Pt):Prop:=(w≤c.1∧c.1 < w + (nx:Int))∧s≤c.2∧c.2 < s + (ny:Int)
def bxR (w y:Int) (nx:Nat):List Pt:=(List.range nx).map fun i:Nat => (w + (i:Int),y)
def bxL (w s:Int) (nx:Nat):Nat→List Pt
 | 0 => []
 | n + 1 => bxL w s nx n++bxR w (s + (n:Int)) nx
theorem bxL_len (w s:Int) (nx:Nat):∀ ny,(bxL w s nx ny).length = ny * nx
 | 0 => by simp [bxL]
 | n + 1 => by rw [bxL,List.length_append,bxL_len,Nat.succ_mul]; simp [bxR]
theorem mem_bxR {w y:Int} {nx:Nat} {c:Pt}:c∈bxR w y nx↔(w≤c.1∧c.1 < w + (nx:Int))∧c.2 = y:=by
 unfold bxR
 rw [List.mem_map]
 constructor
 ·rintro ⟨i,hi,rfl⟩
  have:=List.mem_range.mp hi
  exact ⟨⟨by dsimp only; omega,by dsimp only; omega⟩,rfl⟩
 ·rintro ⟨⟨h1,h2⟩,h3⟩
  exact ⟨(c.1 - w).toNat,List.mem_range.mpr (by omega),Prod.ext (by dsimp only; omega) h3.symm⟩
theorem mem_bxL {w s:Int} {nx:Nat} {c:Pt}:∀ {ny:Nat},c∈bxL w s nx ny↔InB w s nx ny c
 | 0 => by
  unfold InB
  constructor
  ·intro h; cases h
  ·intro h; omega
 | n + 1 => by
  rw [bxL,List.mem_append,mem_bxL,mem_bxR]
  unfold InB
  omega
theorem bxL_nd (w s:Int) (nx:Nat):∀ ny,(bxL w s nx ny).Nodup
 | 0 => by simp [bxL]
 | n + 1 => by
  rw [bxL,List.nodup_append]
  refine ⟨bxL_nd w s nx n,?_,fun a ha b hb z => ?_⟩
  ·unfold bxR
   refine List.nodup_range.map _ ?_
   intro a b hab z
   exact hab (by have:=congrArg Prod.fst z; dsimp only at this; omega)
  ·subst z
   have h1:=mem_bxL.mp ha
   have h2:=(mem_bxR.mp hb).2
   unfold InB at h1
   omega
structure Bf (ps:List Pt) (w s:Int) (nx ny:Nat) (met kn:List Pt) (at0:Nat):Prop where
 st:(w,s)∈met
 nd:kn.Nodup
 iff:∀ c,c∈kn↔c∈ps∨c∈met
 bx:∀ c∈met,InB w s nx ny c∧c∉ps∧Way ps (w,s) c
 ml:met.length≤kn.length
 al:at0≤met.length
 cl:∀ i,i < at0→∀ c,met[i]? = some c→∀ n∈around4 c,InB w s nx ny n→n∈kn
section
variable {ps met kn:List Pt} {w s:Int} {nx ny at0:Nat}
theorem Bf.len (h:Bf ps w s nx ny met kn at0) (hb:∀ c∈ps,InB w s nx ny c):kn.length≤ny * nx:=by
 rw [← bxL_len w s nx ny]
 refine sub_len h.nd fun c hc => mem_bxL.mpr ?_
 rcases (h.iff c).mp hc with z | z
 ·exact hb c z
 ·exact (h.bx c z).1
theorem Bf.grow {c n:Pt} (h:Bf ps w s nx ny met kn at0) (hc:c∈met) (hn:n∈around4 c) (hb:InB w s nx ny n) (hk:n∉kn):Bf ps w s nx ny (met++[n]) (kn++[n]) at0:=by
 have hnp:n∉ps:=fun z => hk ((h.iff n).mpr (.inl z))
 refine ⟨List.mem_append_left _ h.st,?_,fun d => ?_,fun d hd => ?_,by have:=h.ml; simp; exact this,by have:=h.al; simp; omega,fun i hi d hd m hm hmb => ?_⟩
 ·rw [List.nodup_append]
  exact ⟨h.nd,by simp,fun a ha b hb => by rw [List.mem_singleton.mp hb]; exact fun z => hk (z▸ha)⟩
 ·rw [List.mem_append,List.mem_append,h.iff]
  exact or_assoc
 ·rcases List.mem_append.mp hd with hd | hd
  ·exact h.bx d hd
  ·rw [List.mem_singleton.mp hd]
   exact ⟨hb,hnp,.step (h.bx c hc).2.2 hn hnp⟩
 ·have hl:=h.al
  rw [List.getElem?_append_left (by omega)] at hd
  exact List.mem_append_left _ (h.cl i hi d hd m hm hmb)
theorem Bf.next {c:Pt} (h:Bf ps w s nx ny met kn at0) (hc:met[at0]? = some c) (hn:∀ n∈around4 c,InB w s nx ny n→n∈kn):Bf ps w s nx ny met kn (at0 + 1):=by
 have:=(List.getElem?_eq_some_iff.mp hc).1
 refine ⟨h.st,h.nd,h.iff,h.bx,h.ml,by omega,fun i hi d hd m hm hmb => ?_⟩
 by_cases e:i = at0
 ·subst e
  rw [hc] at hd
  cases hd
  exact hn m hm hmb
 ·exact h.cl i (by omega) d hd m hm hmb
def Rim (ps:List Pt) (w s:Int) (nx ny:Nat):Prop:=∀ c∈ps,(w < c.1∧c.1 + 1 < w + (nx:Int))∧s < c.2∧c.2 + 1 < s + (ny:Int)
theorem way_up {x:Int} (hx:∀ c∈ps,c.1≠x) (y:Int):∀ n:Nat,Way ps (x,y) (x,y + (n:Int))
 | 0 => by rw [show (x,y + ((0:Nat):Int)) = (x,y) from Prod.ext rfl (by dsimp only; omega)]; exact .refl
 | n + 1 => .step (way_up hx y n) (by rw [mem4']; dsimp only; omega) fun z => hx _ z rfl
theorem way_west {y:Int} (hy:∀ c∈ps,c.2≠y) (x:Int):∀ n:Nat,Way ps (x,y) (x - (n:Int),y)
 | 0 => by rw [show (x - ((0:Nat):Int),y) = (x,y) from Prod.ext (by dsimp only; omega) rfl]; exact .refl
 | n + 1 => .step (way_west hy x n) (by rw [mem4']; dsimp only; omega) fun z => hy _ z rfl
theorem Way.symm {a b:Pt} (ha:a∉ps) (h:Way ps a b):Way ps b a:=by
 induction h with
 | refl => exact .refl
 | step k h h' ih => exact Way.trans (.step .refl (sym4 h) (k.off ha)) ih
theorem rim_esc (hr:Rim ps w s nx ny) (hw:∀ z,InB w s nx ny z→z∉ps→Way ps (w,s) z) (z:Pt) (hz:z∉ps):Esc ps z:=by
 have col:∀ {x:Int} (y:Int),(x≤w∨w + (nx:Int)≤x + 1)→Esc ps (x,y):=fun {x} y hx =>
  ⟨(x,y + ((s + (ny:Int) - y).toNat:Int)),way_up (fun c hc e => by have:=hr c hc; omega) y _,fun c hc => by have:=hr c hc; dsimp only; omega⟩
 have hws:(w,s)∉ps:=fun y => by have:=hr _ y; dsimp only at this; omega
 by_cases c1:z.1≤w∨w + (nx:Int)≤z.1 + 1
 ·exact col z.2 c1
 by_cases c2:s + (ny:Int)≤z.2 + 1
 ·exact ⟨z,.refl,fun c hc => by have:=hr c hc; omega⟩
 by_cases c3:z.2≤s
 ·(refine Classical.byContradiction fun k_ => ?_; obtain ⟨b,k,hb⟩:=col (x:=w) z.2 (.inl (Int.le_refl _)); refine k_ ?_; clear k_)
  have:=way_west (ps:=ps) (y:=z.2) (fun c hc e => by have:=hr c hc; omega) z.1 (z.1 - w).toNat
  rw [show z.1 - ((z.1 - w).toNat:Int) = w by omega] at this
  exact ⟨b,this.trans k,hb⟩
 ·(refine Classical.byContradiction fun k_ => ?_; obtain ⟨b,k,hb⟩:=col (x:=w) s (.inl (Int.le_refl _)); refine k_ ?_; clear k_)
  exact ⟨b,((hw z ⟨by omega,by omega⟩ hz).symm hws).trans k,hb⟩
theorem Bf.full (h:Bf ps w s nx ny met kn met.length) (hb:∀ c∈ps,InB w s nx ny c) (hr:Rim ps w s nx ny) (hl:ny * nx≤kn.length) (z:Pt) (hz:z∉ps):Esc ps z:=by
 refine rim_esc hr (fun z hb' hz' => ?_) z hz
 have:z∈kn:=Classical.byContradiction fun k => by
  have:=sub_len (xs:=z::kn) (ys:=bxL w s nx ny) (List.nodup_cons.mpr ⟨k,h.nd⟩) fun c hc => mem_bxL.mpr (by
   rcases List.mem_cons.mp hc with rfl | hc
   ·exact hb'
   ·rcases (h.iff c).mp hc with y | y
    ·exact hb c y
    ·exact (h.bx c y).1)
  rw [bxL_len,List.length_cons] at this
  omega
 exact (h.bx z (((h.iff z).mp this).resolve_left hz')).2.2
theorem Bf.lone {c:Pt} (h:Bf [c] (c.1 - 1) (c.2 - 1) 3 3 met kn met.length):9≤kn.length:=by
 have st:∀ x y x' y':Int,(c.1 + x,c.2 + y)∈met→((x' = x + 1∧y' = y)∨(x' = x∧y' = y + 1)∨(x' = x - 1∧y' = y)∨(x' = x∧y' = y - 1))→(-1≤x'∧x'≤1)→(-1≤y'∧y'≤1)→¬ (x' = 0∧y' = 0)→(c.1 + x',c.2 + y')∈met:=fun x y x' y' ha hn bx yb hne => by
  obtain ⟨i,hi⟩:=List.mem_iff_getElem?.mp ha
  have:=h.cl i (List.getElem?_eq_some_iff.mp hi).1 _ hi (c.1 + x',c.2 + y') (by
   rw [mem4']
   rcases hn with ⟨rfl,rfl⟩ | ⟨rfl,rfl⟩ | ⟨rfl,rfl⟩ | ⟨rfl,rfl⟩
   ·exact .inl ⟨(Int.add_assoc ..).symm,rfl⟩
   ·exact .inr (.inl ⟨rfl,(Int.add_assoc ..).symm⟩)
   ·exact .inr (.inr (.inl ⟨(Int.add_sub_assoc ..).symm,rfl⟩))
   ·exact .inr (.inr (.inr ⟨rfl,(Int.add_sub_assoc ..).symm⟩)))
   ⟨by clear hn yb hne; dsimp only; omega,by clear hn bx hne; dsimp only; omega⟩
  exact ((h.iff _).mp this).resolve_left fun z => hne (by
   have z:=List.mem_singleton.mp z
   exact ⟨Int.add_left_cancel ((congrArg Prod.fst z).trans (Int.add_zero _).symm),Int.add_left_cancel ((congrArg Prod.snd z).trans (Int.add_zero _).symm)⟩)
 have m0:(c.1 + -1,c.2 + -1)∈met:=by have:=h.st; rw [Int.sub_eq_add_neg,Int.sub_eq_add_neg] at this; exact this
 have m1:=st (-1) (-1) 0 (-1) m0 (by decide) (by decide) (by decide) (by decide)
 have m2:=st 0 (-1) 1 (-1) m1 (by decide) (by decide) (by decide) (by decide)
 have m3:=st 1 (-1) 1 0 m2 (by decide) (by decide) (by decide) (by decide)
 have m4:=st 1 0 1 1 m3 (by decide) (by decide) (by decide) (by decide)
 have m5:=st 1 1 0 1 m4 (by decide) (by decide) (by decide) (by decide)
 have m6:=st 0 1 (-1) 1 m5 (by decide) (by decide) (by decide) (by decide)
 have m7:=st (-1) 1 (-1) 0 m6 (by decide) (by decide) (by decide) (by decide)
 have:=sub_len (xs:=bxL (c.1 - 1) (c.2 - 1) 3 3) (ys:=kn) (bxL_nd _ _ _ _) fun p hp => (h.iff p).mpr (by
  have key:∀ x y:Int,p.1 = c.1 + x→p.2 = c.2 + y→(c.1 + x,c.2 + y)∈met→p∈met:=fun x y h1 h2 hm => by rw [show p = (c.1 + x,c.2 + y) from Prod.ext h1 h2]; exact hm
  have one:∀ {u v:Int},v - 1≤u∧u < v - 1 + (3:Nat)→u = v + -1∨u = v + 0∨u = v + 1:=fun z => by omega
  have hp:=mem_bxL.mp hp
  rcases one hp.1 with hx | hx | hx <;> rcases one hp.2 with hy | hy | hy
  ·exact .inr (key _ _ hx hy m0)
  ·exact .inr (key _ _ hx hy m7)
  ·exact .inr (key _ _ hx hy m6)
  ·exact .inr (key _ _ hx hy m1)
  ·exact .inl (List.mem_singleton.mpr (Prod.ext (hx.trans (Int.add_zero _)) (hy.trans (Int.add_zero _))))
  ·exact .inr (key _ _ hx hy m5)
  ·exact .inr (key _ _ hx hy m2)
  ·exact .inr (key _ _ hx hy m3)
  ·exact .inr (key _ _ hx hy m4))
 rw [bxL_len] at this
 exact this
end
theorem st_get {j:Nat} {d:D} (h:[D.tup [.int 1,.int 0],.tup [.int 0,.int 1],.tup [.int (-1),.int 0],.tup [.int 0,.int (-1)]][j]? = some d):j < 4∧d = .tup [.int (stp j).1,.int (stp j).2]:=by
 match j with
 | 0 => cases h; exact ⟨by omega,rfl⟩
 | 1 => cases h; exact ⟨by omega,rfl⟩
 | 2 => cases h; exact ⟨by omega,rfl⟩
 | 3 => cases h; exact ⟨by omega,rfl⟩
 | j + 4 => simp at h
theorem nb4 {c:Pt} {j:Nat} (h:j < 4):nb c j∈around4 c:=by
 rw [mem4']
 rcases c4 h with rfl | rfl | rfl | rfl
 ·exact .inl ⟨rfl,Int.add_zero _⟩
 ·exact .inr (.inl ⟨Int.add_zero _,rfl⟩)
 ·exact .inr (.inr (.inl ⟨rfl,Int.add_zero _⟩))
 ·exact .inr (.inr (.inr ⟨Int.add_zero _,rfl⟩))
def atN (n i:Nat) (σ:St3):Nat:=match σ[i]? with
 | some (some (.int k)) => n - k.toNat
 | _ => 0
section
variable (H:Hp3) (ps:List Pt) (a p5 p6:Addr) (xm xn ym yn:Int)
inductive HoA (i:Nat):St3→Hp3→Prop
 | mk {H2:Hp3} (cc:Option D) (sb:Sub3 H H2) (k5:H2 p5 = some (.lst [.tup [.int (xn - 1),.int (yn - 1)]])) (k6:H2 p6 = some (.dic (tabP ((ps.take i).foldl addN [(xn - 1,yn - 1)])))):HoA i [some (.ref a),some (.int (xm + 1)),some (.int (xn - 1)),some (.int (ym + 1)),some (.int (yn - 1)),some (.ref p5),some (.ref p6),cc,none,none,none] H2
inductive HoB (nx ny:Nat):St3→Hp3→Prop
 | mk {H3:Hp3} (met kn:List Pt) (at0:Nat) (cc dd ee:Option D) (sb:Sub3 H H3) (j5:H3 p5 = some (.lst (met.map prP))) (j6:H3 p6 = some (.dic (tabP kn))) (bf:Bf ps (xn - 1) (yn - 1) nx ny met kn at0):HoB nx ny [some (.ref a),some (.int (xm + 1)),some (.int (xn - 1)),some (.int (ym + 1)),some (.int (yn - 1)),some (.ref p5),some (.ref p6),cc,some (.int (at0:Nat)),dd,ee] H3
inductive HoC (nx ny:Nat) (p7:Addr) (c:Pt) (at0:Nat) (cc:Option D) (j:Nat):St3→Hp3→Prop
 | mk {H4:Hp3} (met kn:List Pt) (dd ee:Option D) (sb:Sub3 H H4) (i7:H4 p7 = some (.lst [.tup [.int 1,.int 0],.tup [.int 0,.int 1],.tup [.int (-1),.int 0],.tup [.int 0,.int (-1)]])) (j5:H4 p5 = some (.lst (met.map prP))) (j6:H4 p6 = some (.dic (tabP kn))) (bf:Bf ps (xn - 1) (yn - 1) nx ny met kn at0) (hc:met[at0]? = some c) (hk:∀ k,k < j→InB (xn - 1) (yn - 1) nx ny (nb c k)→nb c k∈kn):HoC nx ny p7 c at0 cc j [some (.ref a),some (.int (xm + 1)),some (.int (xn - 1)),some (.int (ym + 1)),some (.int (yn - 1)),some (.ref p5),some (.ref p6),cc,some (.int (at0:Nat)),dd,ee] H4
end
def sp_l_holed:Sp3:=fun ds H Q => ∃ a,ds = [.ref a]∧(∃ ps:List Pt,(H a = some (.lst (ps.map prP))∧ps≠[]∧ps.length≤100∧∀ x∈ps,∀ y∈ps,x.1 - y.1≤18∧x.2 - y.2≤18)∧∀ b:Bool,(b = false→∀ z,z∉ps→Esc ps z)→(ps.length = 1→b = false)→Q (.bl b) H)
theorem u_l_holed {ps:List Pt} {a:Addr} {H:Hp3} {Q:VK3} (ha:H a = some (.lst (ps.map prP))) (hn:ps≠[]) (hl:ps.length≤100) (hb:∀ x∈ps,∀ y∈ps,x.1 - y.1≤18∧x.2 - y.2≤18) (h:∀ b:Bool,(b = false→∀ z,z∉ps→Esc ps z)→(ps.length = 1→b = false)→Q (.bl b) H):sp_l_holed [.ref a] H Q:=⟨_,rfl,⟨ps,⟨ha,hn,hl,hb⟩,h⟩⟩
theorem len_l_holed:∀ (ds:List D) (H:Hp3) (Q:VK3),sp_l_holed ds H Q→ds.length = P_l_holed.length:=by
 intro ds H Q h
 (refine Classical.byContradiction fun k_ => ?_; obtain ⟨_,rfl,_⟩:=h; refine k_ ?_; clear k_)
 rfl
def lp_l_holed_0:TS3:=fo3 (il3 (v3 0)) (gn3 7) (dp3 (v3 6) (v3 7) (c3 (.bl true)))
def lp_l_holed_1:TS3:=fo3 (il3 (ls3 (cons3 (tp3 (cons3 (c3 (.int 1)) (cons3 (c3 (.int 0)) nil3))) (cons3 (tp3 (cons3 (c3 (.int 0)) (cons3 (c3 (.int 1)) nil3))) (cons3 (tp3 (cons3 (u3 r3neg (c3 (.int 1))) (cons3 (c3 (.int 0)) nil3))) (cons3 (tp3 (cons3 (c3 (.int 0)) (cons3 (u3 r3neg (c3 (.int 1))) nil3))) nil3)))))) (gn3 9) (sq3 (st3 10 (tp3 (cons3 (o3 r3add (o3 r3ix (o3 r3ix (v3 5) (v3 8)) (c3 (.int 0))) (o3 r3ix (v3 9) (c3 (.int 0)))) (cons3 (o3 r3add (o3 r3ix (o3 r3ix (v3 5) (v3 8)) (c3 (.int 1))) (o3 r3ix (v3 9) (c3 (.int 1)))) nil3))))
  (is3 (an3 (ts3 (ch3 i3le i3le (v3 2) (o3 r3ix (v3 10) (c3 (.int 0))) (v3 1))) (an3 (ts3 (ch3 i3le i3le (v3 4) (o3 r3ix (v3 10) (c3 (.int 1))) (v3 3))) (ts3 (o3 (r3inX true) (v3 10) (v3 6))))) (sq3 (dp3 (v3 6) (v3 10) (c3 (.bl true)))
  (dr3 (m3 r3app (v3 5) (cons3 (v3 10) nil3)))) nx3))
def lp_l_holed_2:TS3:=wh3 (ts3 (o3 r3lt (v3 8) (cb3 r3len (cons3 (v3 5) nil3)))) (sq3 lp_l_holed_1
  (st3 8 (o3 r3add (v3 8) (c3 (.int 1)))))
def t_l_holed:TS3:=(sq3 (st3 1 (o3 r3add (cb3 r3max (cons3 (cp3 (il3 (v3 0)) (gn3 0) yes3 (o3 r3ix (v3 0) (c3 (.int 0))) ["_law_cell"] []) nil3)) (c3 (.int 1))))
  (sq3 (st3 2 (o3 i3sub (cb3 r3min (cons3 (cp3 (il3 (v3 0)) (gn3 0) yes3 (o3 r3ix (v3 0) (c3 (.int 0))) ["_law_cell"] []) nil3)) (c3 (.int 1))))
  (sq3 (st3 3 (o3 r3add (cb3 r3max (cons3 (cp3 (il3 (v3 0)) (gn3 0) yes3 (o3 r3ix (v3 0) (c3 (.int 1))) ["_law_cell"] []) nil3)) (c3 (.int 1))))
  (sq3 (st3 4 (o3 i3sub (cb3 r3min (cons3 (cp3 (il3 (v3 0)) (gn3 0) yes3 (o3 r3ix (v3 0) (c3 (.int 1))) ["_law_cell"] []) nil3)) (c3 (.int 1))))
  (sq3 (st3 5 (ls3 (cons3 (tp3 (cons3 (v3 2) (cons3 (v3 4) nil3))) nil3)))
  (sq3 (st3 6 (dd3 (tp3 (cons3 (v3 2) (cons3 (v3 4) nil3))) (c3 (.bl true))))
  (sq3 lp_l_holed_0
  (sq3 (st3 8 (c3 (.int 0)))
  (sq3 lp_l_holed_2
  (rt3 (o3 r3lt (cb3 r3lenD (cons3 (v3 6) nil3)) (o3 i3mulW (o3 r3add (o3 i3sub (v3 1) (v3 2)) (c3 (.int 1))) (o3 r3add (o3 i3sub (v3 3) (v3 4)) (c3 (.int 1)))))))))))))))
theorem rd_l_holed:∀ (ds:List D) (H:Hp3) (Q:VK3),sp_l_holed ds H Q→t_l_holed (fin3 Q) (start3 N_l_holed ds) H:=by
 intro ds H Q h
 (refine Classical.byContradiction fun k_ => ?_; obtain ⟨a,rfl,h⟩:=h; refine k_ ?_; clear k_)
 (refine Classical.byContradiction fun k_ => ?_; obtain ⟨ps,⟨ha,hn,hl,hbd⟩,h⟩:=h; refine k_ ?_; clear k_)
 have hne1:ps.map Prod.fst≠[]:=by simpa using hn
 have hne2:ps.map Prod.snd≠[]:=by simpa using hn
 (refine Classical.byContradiction fun k_ => ?_; obtain ⟨e1,he1,ee1⟩:=List.mem_map.mp (maxL_mem' hne1); refine k_ ?_; clear k_)
 (refine Classical.byContradiction fun k_ => ?_; obtain ⟨e2,he2,ee2⟩:=List.mem_map.mp (minL_mem' hne1); refine k_ ?_; clear k_)
 (refine Classical.byContradiction fun k_ => ?_; obtain ⟨e3,he3,ee3⟩:=List.mem_map.mp (maxL_mem' hne2); refine k_ ?_; clear k_)
 (refine Classical.byContradiction fun k_ => ?_; obtain ⟨e4,he4,ee4⟩:=List.mem_map.mp (minL_mem' hne2); refine k_ ?_; clear k_)
 have b1:=(hbd e1 he1 e2 he2).1
 have b2:=(hbd e3 he3 e4 he4).2
 rw [ee1,ee2] at b1
 rw [ee3,ee4] at b2
 have b3:=minL_le' (maxL_mem' hne1)
 have b4:=minL_le' (maxL_mem' hne2)
 have cmn:∀ c∈ps,(minL (ps.map Prod.fst)≤c.1∧c.1≤maxL (ps.map Prod.fst))∧minL (ps.map Prod.snd)≤c.2∧c.2≤maxL (ps.map Prod.snd):=fun c hc => ⟨⟨minL_le' (List.mem_map.mpr ⟨c,hc,rfl⟩),maxL_ge' (List.mem_map.mpr ⟨c,hc,rfl⟩)⟩,minL_le' (List.mem_map.mpr ⟨c,hc,rfl⟩),maxL_ge' (List.mem_map.mpr ⟨c,hc,rfl⟩)⟩
 have lone:∀ c:Pt,ps = [c]→minL (ps.map Prod.fst) = c.1∧maxL (ps.map Prod.fst) = c.1∧minL (ps.map Prod.snd) = c.2∧maxL (ps.map Prod.snd) = c.2:=fun c e => by subst e; exact ⟨rfl,rfl,rfl,rfl⟩
 simp only [t_l_holed,start3,N_l_holed,List.map_cons,List.map_nil,List.length_cons,List.length_nil,Nat.reduceAdd,Nat.reduceSub,Nat.zero_add,List.replicate,List.cons_append,List.nil_append]
 walk_at "l3"
 refine Cp.map (fun p => D.int p.1) (fun H2 hs => hs _ _ ha) (by omega) ?_ ?_
 ·intro i p hp R H2 hs hR
  unfold prP
  walk_at "l3"
  exact hR H2 Sub3.refl
 intro p1 hp1
 walk_at "l3"
 refine g_max (ns:=ps.map Prod.fst) (by rw [upd3_same,List.map_map]; rfl) hne1 ?_
 walk_at "l3"
 refine Cp.map (fun p => D.int p.1) (fun H2 hs => hs _ _ (upd3_old ha hp1)) (by omega) ?_ ?_
 ·intro i p hp R H2 hs hR
  unfold prP
  walk_at "l3"
  exact hR H2 Sub3.refl
 intro p2 hp2
 walk_at "l3"
 refine g_min (ns:=ps.map Prod.fst) (by rw [upd3_same,List.map_map]; rfl) hne1 ?_
 walk_at "l3"
 refine Cp.map (fun p => D.int p.2) (fun H2 hs => hs _ _ (by walk_at "l3h")) (by omega) ?_ ?_
 ·intro i p hp R H2 hs hR
  unfold prP
  walk_at "l3"
  exact hR H2 Sub3.refl
 intro p3 hp3
 walk_at "l3"
 refine g_max (ns:=ps.map Prod.snd) (by rw [upd3_same,List.map_map]; rfl) hne2 ?_
 walk_at "l3"
 refine Cp.map (fun p => D.int p.2) (fun H2 hs => hs _ _ (by walk_at "l3h")) (by omega) ?_ ?_
 ·intro i p hp R H2 hs hR
  unfold prP
  walk_at "l3"
  exact hR H2 Sub3.refl
 intro p4 hp4
 walk_at "l3"
 refine g_min (ns:=ps.map Prod.snd) (by rw [upd3_same,List.map_map]; rfl) hne2 ?_
 have hs:Sub3 H (upd3 (upd3 (upd3 (upd3 H p1 (.lst (ps.map fun p => D.int p.1))) p2 (.lst (ps.map fun p => D.int p.1))) p3 (.lst (ps.map fun p => D.int p.2))) p4 (.lst (ps.map fun p => D.int p.2))):=(((Sub3.fresh hp1).trans (Sub3.fresh hp2)).trans (Sub3.fresh hp3)).trans (Sub3.fresh hp4)
 revert hs
 generalize upd3 (upd3 (upd3 (upd3 H p1 (.lst (ps.map fun p => D.int p.1))) p2 (.lst (ps.map fun p => D.int p.1))) p3 (.lst (ps.map fun p => D.int p.2))) p4 (.lst (ps.map fun p => D.int p.2)) = H0
 intro hs
 clear hp1 hp2 hp3 hp4 he1 he2 he3 he4 ee1 ee2 ee3 ee4 hbd hne1 hne2
 generalize maxL (ps.map Prod.fst) = xm at *
 generalize minL (ps.map Prod.fst) = xn at *
 generalize maxL (ps.map Prod.snd) = ym at *
 generalize minL (ps.map Prod.snd) = yn at *
 have enx:((xm - xn + 3).toNat:Int) = xm - xn + 3:=Int.toNat_of_nonneg (by omega)
 have eny:((ym - yn + 3).toNat:Int) = ym - yn + 3:=Int.toNat_of_nonneg (by omega)
 have hrim:Rim ps (xn - 1) (yn - 1) (xm - xn + 3).toNat (ym - yn + 3).toNat:=fun c hc => by
  (refine Classical.byContradiction fun k_ => ?_; obtain ⟨⟨c1,c2⟩,c3,c4⟩:=cmn c hc; refine k_ ?_; clear k_)
  rw [enx,eny]
  clear enx eny b1 b2 b3 b4
  exact ⟨⟨by omega,by omega⟩,by omega,by omega⟩
 have hbox:∀ c∈ps,InB (xn - 1) (yn - 1) (xm - xn + 3).toNat (ym - yn + 3).toNat c:=fun c hc => by obtain ⟨⟨c1,c2⟩,c3,c4⟩:=hrim c hc; exact ⟨⟨Int.le_of_lt c1,by omega⟩,Int.le_of_lt c3,by omega⟩
 have hws:(xn - 1,yn - 1)∉ps:=fun z => by have:=hrim _ z; dsimp only at this; omega
 have hnx:(xm - xn + 3).toNat≤21:=by omega
 have hny:(ym - yn + 3).toNat≤21:=by omega
 have hlon:∀ c:Pt,ps = [c]→xn = c.1∧(xm - xn + 3).toNat = 3∧yn = c.2∧(ym - yn + 3).toNat = 3:=fun c e => by
  (refine Classical.byContradiction fun k_ => ?_; obtain ⟨e1,e2,e3,e4⟩:=lone c e; refine k_ ?_; clear k_)
  rw [e1,e2,e3,e4,Int.sub_self,Int.sub_self]
  exact ⟨rfl,rfl,rfl,rfl⟩
 have hst:InB (xn - 1) (yn - 1) (xm - xn + 3).toNat (ym - yn + 3).toNat (xn - 1,yn - 1):=⟨⟨Int.le_refl _,by dsimp only; rw [enx]; clear enx eny; omega⟩,Int.le_refl _,by dsimp only; rw [eny]; clear enx eny; omega⟩
 clear b1 b2 b3 b4 cmn lone
 generalize (xm - xn + 3).toNat = nx at *
 generalize (ym - yn + 3).toNat = ny at *
 have harea:ny * nx≤441:=Nat.mul_le_mul hny hnx
 walk_at "l3"
 intro p5 hp5
 walk_at "l3"
 intro p6 hp6
 walk_at "l3"
 refine g_ddk upd3_same ?_
 rw [upd3_upd3]
 have n6:H p6 = none:=sub_back (hs.trans (Sub3.fresh hp5)) hp6
 have n5:H p5 = none:=sub_back hs hp5
 have n56:p5≠p6:=ne3 upd3_same hp6
 have hs6:Sub3 H (upd3 (upd3 H0 p5 (.lst [.tup [.int (xn - 1),.int (yn - 1)]])) p6 (.dic (tabP [(xn - 1,yn - 1)]))):=(hs.trans (Sub3.fresh hp5)).trans (Sub3.fresh hp6)
 have h5:upd3 (upd3 H0 p5 (.lst [.tup [.int (xn - 1),.int (yn - 1)]])) p6 (.dic (tabP [(xn - 1,yn - 1)])) p5 = some (.lst [.tup [.int (xn - 1),.int (yn - 1)]]):=upd3_old upd3_same hp6
 have h6:upd3 (upd3 H0 p5 (.lst [.tup [.int (xn - 1),.int (yn - 1)]])) p6 (.dic (tabP [(xn - 1,yn - 1)])) p6 = some (.dic (tabP [(xn - 1,yn - 1)])):=upd3_same
 revert hs6 h5 h6
 generalize upd3 (upd3 H0 p5 (.lst [.tup [.int (xn - 1),.int (yn - 1)]])) p6 (.dic (tabP [(xn - 1,yn - 1)])) = H1
 intro hs6 h5 h6
 walk_at "l3"
 unfold lp_l_holed_0
 walk_at "l3"
 refine g_ilR (hs6 _ _ ha) ?_
 refine Lp.by (HoA H ps a p5 p6 xm xn ym yn) (.mk _ hs6 h5 h6) (fun i σ H2 _ z => by cases z with | mk _ sb => exact sb _ _ ha) ?_ ?_
 ·intro i d σ H2 hd z_
  (refine Classical.byContradiction fun k_ => ?_; obtain ⟨cc,hs2,k5,k6⟩:=z_; refine k_ ?_; clear k_)
  rw [List.getElem?_map] at hd
  (refine Classical.byContradiction fun k_ => ?_; obtain ⟨c,hc,rfl⟩:=Option.map_eq_some_iff.mp hd; refine k_ ?_; clear k_)
  have hfl:=addNs_len (ps.take i) [(xn - 1,yn - 1)]
  have htl:=List.length_take_le i ps
  rw [List.length_singleton] at hfl
  have hi:=(List.getElem?_eq_some_iff.mp hc).1
  unfold prP
  walk_at "l3"
  refine g_dpk k6 (by rw [List.length_take] at hfl; omega) ?_
  walk_at "l3"
  exact .mk _ (fun b o hb => by rw [upd3_ne (ne3 hb n6)]; exact hs2 b o hb) (by rw [upd3_ne n56]; exact k5) (by rw [upd3_same,List.take_add_one,hc,List.foldl_append]; rfl)
 intro σ H2 z_
 (refine Classical.byContradiction fun k_ => ?_; obtain ⟨cc,hs2,k5,k6⟩:=z_; refine k_ ?_; clear k_)
 rw [List.length_map,List.take_length] at k6
 have hkm:∀ c,c∈ps.foldl addN [(xn - 1,yn - 1)]↔c∈ps∨c∈[(xn - 1,yn - 1)]:=fun c => by rw [mem_addNs]; exact Or.comm
 have hknd:(ps.foldl addN [(xn - 1,yn - 1)]).Nodup:=by
  have:∀ (qs acc:List Pt),acc.Nodup→(qs.foldl addN acc).Nodup:=by
   intro qs
   induction qs with
   | nil => exact fun _ z => z
   | cons q qs ih =>
    intro acc z
    refine ih _ ?_
    unfold addN
    split
    ·exact z
    ·rename_i y
     rw [List.nodup_append]
     exact ⟨z,by simp,fun a ha b hb => by rw [List.mem_singleton.mp hb]; exact fun e => y (e▸ha)⟩
  exact this ps _ (by simp)
 have hk1:1≤(ps.foldl addN [(xn - 1,yn - 1)]).length:=List.length_pos_of_mem ((hkm _).mpr (.inr (List.mem_singleton.mpr rfl)))
 generalize ps.foldl addN [(xn - 1,yn - 1)] = kn0 at *
 have hbf:Bf ps (xn - 1) (yn - 1) nx ny [(xn - 1,yn - 1)] kn0 0:=⟨by simp,hknd,hkm,fun c hc => by
  rw [List.mem_singleton.mp hc]
  exact ⟨hst,hws,.refl⟩,hk1,Nat.zero_le _,fun i hi => absurd hi (Nat.not_lt_zero _)⟩
 walk_at "l3"
 unfold lp_l_holed_2
 refine g_wh (HoB H ps a p5 p6 xm xn ym yn nx ny) (fun σ _ => atN (ny * nx) 8 σ) (.mk [(xn - 1,yn - 1)] kn0 0 _ _ _ hs2 k5 k6 hbf) ?_
 intro σ H3 z_
 (refine Classical.byContradiction fun k_ => ?_; obtain ⟨met,kn,at0,cc3,dd3,ee3,hs3,j5,j6,bf⟩:=z_; refine k_ ?_; clear k_)
 have hkl:=bf.len hbox
 have hml:=bf.ml
 have hal:=bf.al
 walk_at "l3"
 refine ifD (fun hlt => ?_) fun hlt => ?_
 ·rw [List.length_map] at hlt
  have hlt':at0 < met.length:=by omega
  have hcm:met[at0]? = some met[at0]:=List.getElem?_eq_getElem hlt'
  have hcmm:=List.mem_of_getElem? hcm
  generalize met[at0] = c at hcm hcmm
  walk_at "l3"
  unfold lp_l_holed_1
  walk_at "l3"
  intro p7 hp7
  walk_at "l3"
  have n57:p5≠p7:=ne3 j5 hp7
  have n67:p6≠p7:=ne3 j6 hp7
  have n7:H p7 = none:=sub_back hs3 hp7
  refine Lp.by (HoC H ps a p5 p6 xm xn ym yn nx ny p7 c at0 cc3) (.mk met kn _ _ (hs3.trans (Sub3.fresh hp7)) upd3_same (upd3_old j5 hp7) (upd3_old j6 hp7) bf hcm fun k hk => absurd hk (Nat.not_lt_zero _)) (fun j σ H4 _ z => by cases z with | mk _ _ _ _ _ i7 => exact i7) ?_ ?_
  ·intro j d σ H4 hd z_
   (refine Classical.byContradiction fun k_ => ?_; obtain ⟨met2,kn2,dd4,ee4,hs4,i7,i5,i6,bf2,hc2,hkk⟩:=z_; refine k_ ?_; clear k_)
   obtain ⟨hj,rfl⟩:=st_get hd
   have hkl2:=bf2.len hbox
   have hml2:=bf2.ml
   have hcm2:c∈met2:=List.mem_of_getElem? hc2
   have hat:atI (met2.map prP) (at0:Int) = some (.tup [.int c.1,.int c.2]):=by
    have hl2:=(List.getElem?_eq_some_iff.mp hc2).1
    unfold atI ixN
    rw [List.length_map,if_pos (by omega),if_pos (by omega),Option.bind_some,List.getElem?_map,Int.toNat_natCast,hc2]
    rfl
   have fin:∀ kn3:List Pt,(∀ m∈kn2,m∈kn3)→(InB (xn - 1) (yn - 1) nx ny (nb c j)→nb c j∈kn3)→∀ k,k < j + 1→InB (xn - 1) (yn - 1) nx ny (nb c k)→nb c k∈kn3:=fun kn3 h1 h2 k hk hb => by
    by_cases e:k = j
    ·subst e; exact h2 hb
    ·exact h1 _ (hkk k (by omega) hb)
   walk_at "l3"
   refine g_ixL i5 hat ?_
   walk_at "l3"
   refine g_ixL i5 hat ?_
   walk_at "l3"
   have enb:(c.1 + (stp j).1,c.2 + (stp j).2) = nb c j:=rfl
   have eIn:InB (xn - 1) (yn - 1) nx ny (nb c j)↔((xn - 1≤c.1 + (stp j).1∧c.1 + (stp j).1≤xm + 1)∧yn - 1≤c.2 + (stp j).2∧c.2 + (stp j).2≤ym + 1):=by
    rw [← enb]
    unfold InB
    dsimp only
    rw [enx,eny]
    exact and_congr (and_congr_right fun _ => by omega) (and_congr_right fun _ => by omega)
   have nope:¬ InB (xn - 1) (yn - 1) nx ny (nb c j)→∀ {dd ee:Option D},HoC H ps a p5 p6 xm xn ym yn nx ny p7 c at0 cc3 (j + 1) _ H4:=fun z {dd ee} => .mk met2 kn2 dd ee hs4 i7 i5 i6 bf2 hc2 (fin kn2 (fun m hm => hm) fun y => absurd y z)
   refine ifD (fun q1 => ?_) fun q1 => ?_
   rotate_left
   ·walk_at "l3"
    refine ifX rfl ?_
    walk_at "l3"
    exact nope fun y => q1 (eIn.mp y).1.1
   walk_at "l3"
   refine ifD (fun q2 => ?_) fun q2 => ?_
   rotate_left
   ·refine ifX rfl ?_
    walk_at "l3"
    exact nope fun y => q2 (eIn.mp y).1.2
   walk_at "l3"
   refine ifD (fun q3 => ?_) fun q3 => ?_
   rotate_left
   ·walk_at "l3"
    refine ifX rfl ?_
    walk_at "l3"
    exact nope fun y => q3 (eIn.mp y).2.1
   walk_at "l3"
   refine ifD (fun q4 => ?_) fun q4 => ?_
   rotate_left
   ·refine ifX rfl ?_
    walk_at "l3"
    exact nope fun y => q4 (eIn.mp y).2.2
   have hin:InB (xn - 1) (yn - 1) nx ny (nb c j):=eIn.mpr ⟨⟨q1,q2⟩,q3,q4⟩
   walk_at "l3"
   refine g_ninD i6 ?_
   walk_at "l3"
   refine ifN (fun hnk => ?_) fun hnk => ?_
   ·rw [enb] at hnk
    walk_at "l3"
    refine g_dpk i6 (by omega) ?_
    rw [enb,show addN kn2 (nb c j) = kn2++[nb c j] from by unfold addN; exact if_neg hnk]
    walk_at "l3"
    refine g_mtk (ds:=met2.map prP) (by rw [upd3_ne n56]; exact i5) ?_
    walk_at "l3"
    refine g_app (ds:=met2.map prP) (by rw [upd3_ne n56]; exact i5) (by rw [sizeLine_n,List.length_map]; omega) ?_
    walk_at "l3"
    refine .mk (met2++[nb c j]) (kn2++[nb c j]) _ _ (fun b o hb => ?_) ?_ ?_ ?_ (bf2.grow hcm2 (nb4 hj) hin hnk) ?_ (fin _ (fun m hm => List.mem_append_left _ hm) fun _ => by simp)
    ·rw [upd3_ne (ne3 hb n5),upd3_ne (ne3 hb n6)]; exact hs4 b o hb
    ·rw [upd3_ne (Ne.symm n57),upd3_ne (Ne.symm n67)]; exact i7
    ·rw [upd3_same,List.map_append]; rfl
    ·rw [upd3_ne (Ne.symm n56),upd3_same]
    ·rw [List.getElem?_append_left (List.getElem?_eq_some_iff.mp hc2).1]; exact hc2
   ·rw [enb] at hnk
    walk_at "l3"
    exact .mk met2 kn2 _ _ hs4 i7 i5 i6 bf2 hc2 (fin kn2 (fun m hm => hm) fun _ => hnk)
  ·intro σ H4 z_
   (refine Classical.byContradiction fun k_ => ?_; obtain ⟨met2,kn2,dd4,ee4,hs4,i7,i5,i6,bf2,hc2,hkk⟩:=z_; refine k_ ?_; clear k_)
   have bf3:=bf2.next hc2 fun n hn hb => by
    (refine Classical.byContradiction fun k_ => ?_; obtain ⟨k,hk,rfl⟩:=nb_around hn; refine k_ ?_; clear k_)
    exact hkk k hk hb
   have h3l:=bf3.len hbox
   have h3a:=bf3.al
   have h3m:=bf3.ml
   walk_at "l3"
   refine ⟨.mk met2 kn2 (at0 + 1) _ _ _ hs4 i5 i6 bf3,?_⟩
   exact Nat.sub_succ_lt_self _ _ (Nat.lt_of_lt_of_le h3a (Nat.le_trans h3m h3l))
 ·rw [List.length_map] at hlt
  have hea:at0 = met.length:=by omega
  subst hea
  walk_at "l3"
  refine g_lenD j6 ?_
  walk_at "l3"
  have e1:(xm + 1 - (xn - 1) + 1) * (ym + 1 - (yn - 1) + 1) = ((ny * nx:Nat):Int):=by
   rw [Int.natCast_mul,enx,eny,Int.mul_comm]
   congr 1 <;> omega
  rw [e1]
  refine g_fin (h _ (fun hb z hz => bf.full hbox hrim ?_ z hz) fun h1 => ?_) hs3
  ·have:=of_decide_eq_false hb
   unfold tabP at this
   rw [List.length_map] at this
   omega
  ·obtain ⟨c,rfl⟩:=List.length_eq_one_iff.mp h1
   (refine Classical.byContradiction fun k_ => ?_; obtain ⟨o1,o2,o3,o4⟩:=hlon c rfl; refine k_ ?_; clear k_)
   subst o1 o2 o3 o4
   have:=bf.lone
   refine decide_eq_false ?_
   unfold tabP
   rw [List.length_map]
   omega
def sp_corners_of:Sp3:=fun ds H Q => ∃ x y z,ds = [.tup [.int x,.int y],.str z]∧(∃ ls:List Lt,(z = wStr ls∧ls.length≤500)∧∀ p,H p = none→Q (.ref p) (upd3 H p (.lst ((path (x,y) ls).map prP))))
theorem u_corners_of {x y:Int} (ls:List Lt) {H:Hp3} {Q:VK3} (hl:ls.length≤500) (h:∀ p,H p = none→Q (.ref p) (upd3 H p (.lst ((path (x,y) ls).map prP)))):sp_corners_of [.tup [.int x,.int y],.str (wStr ls)] H Q:=⟨_,_,_,rfl,⟨ls,⟨rfl,hl⟩,h⟩⟩
theorem steps_at (l:Lt):c_STEPS.lookup (lt1 l) = some (.ktup [.int (step l).1,.int (step l).2]):=by
 revert l; intro l; match l with
 | 0 => rfl
 | 1 => rfl
 | 2 => rfl
 | 3 => rfl
theorem len_corners_of:∀ (ds:List D) (H:Hp3) (Q:VK3),sp_corners_of ds H Q→ds.length = P_corners_of.length:=by
 intro ds H Q h
 (refine Classical.byContradiction fun k_ => ?_; obtain ⟨_,_,_,rfl,_⟩:=h; refine k_ ?_; clear k_)
 rfl
def lp_corners_of_0:TS3:=fo3 (iz3 (v3 1)) (gn3 3) (dr3 (m3 r3app (v3 2) (cons3 (cb3 sp_added (cons3 (o3 r3ix (v3 2) (u3 r3neg (c3 (.int 1)))) (cons3 (kd3 c_STEPS (v3 3)) nil3))) nil3)))
def t_corners_of:TS3:=(sq3 (st3 2 (ls3 (cons3 (v3 0) nil3)))
  (sq3 lp_corners_of_0
  (rt3 (v3 2))))
theorem rd_corners_of:∀ (ds:List D) (H:Hp3) (Q:VK3),sp_corners_of ds H Q→t_corners_of (fin3 Q) (start3 N_corners_of ds) H:=by
 intro ds H Q h
 (refine Classical.byContradiction fun k_ => ?_; obtain ⟨x,y,z,rfl,h⟩:=h; refine k_ ?_; clear k_)
 (refine Classical.byContradiction fun k_ => ?_; obtain ⟨ls,⟨rfl,hl⟩,h⟩:=h; refine k_ ?_; clear k_)
 simp only [t_corners_of,start3,N_corners_of,List.map_cons,List.map_nil,List.length_cons,List.length_nil,Nat.reduceAdd,Nat.reduceSub,Nat.zero_add,List.replicate,List.cons_append,List.nil_append]
 walk_at "l3"
 intro p hp
 walk_at "l3"
 unfold lp_corners_of_0
 walk_at "l3"
 rw [lets_w]
 refine Lp.by (fun i σ H2 => H2 = upd3 H p (.lst ((path (x,y) (ls.take i)).map prP))∧∃ c,σ = [some (.tup [.int x,.int y]),some (.str (wStr ls)),some (.ref p),c]) ⟨by rw [List.take_zero]; rfl,_,rfl⟩ (fun _ _ _ _ _ => trivial) ?_ ?_
 ·intro i d σ H2 hd z_
  (refine Classical.byContradiction fun k_ => ?_; obtain ⟨rfl,c,rfl⟩:=z_; refine k_ ?_; clear k_)
  rw [List.getElem?_map,Option.map_eq_some_iff] at hd
  (refine Classical.byContradiction fun k_ => ?_; obtain ⟨l,hl2,rfl⟩:=hd; refine k_ ?_; clear k_)
  walk_at "l3"
  refine g_ixL upd3_same (path_last _ _) ?_
  walk_at "l3"
  refine g_kdk (steps_at l) ?_
  walk_at "l3"
  refine g_app upd3_same (small1000' (by rw [List.length_map,path_len,List.length_take]; omega)) ?_
  rw [upd3_upd3]
  walk_at "l3"
  have ht:ls.take (i + 1) = ls.take i++[l]:=by rw [List.take_add_one,hl2]; rfl
  refine ⟨?_,_,rfl⟩
  rw [ht,path_snoc,List.map_append]
  rfl
 ·intro σ H2 z_
  (refine Classical.byContradiction fun k_ => ?_; obtain ⟨rfl,c,rfl⟩:=z_; refine k_ ?_; clear k_)
  rw [List.length_map,List.take_of_length_le (Nat.le_refl _)]
  walk_at "l3"
  exact g_fin (h p hp) Sub3.refl
def ltD (_:Pt) (d:Nat):D:=.str (lt1 (ltN d))
def sp_letters_by_corner:Sp3:=fun ds H Q => ∃ xs,ds = [.tup xs]∧(∃ S:List Pt,(xs = S.map prP∧S.length≤20∧Dg S)∧∀ p kvs,H p = none→Lb S ltD S.length 0 kvs→Q (.ref p) (upd3 H p (.dic (tabV kvs))))
theorem u_letters_by_corner {S:List Pt} {H:Hp3} {Q:VK3} (hl:S.length≤20) (g:Dg S) (h:∀ p kvs,H p = none→Lb S ltD S.length 0 kvs→Q (.ref p) (upd3 H p (.dic (tabV kvs)))):sp_letters_by_corner [.tup (S.map prP)] H Q:=⟨_,rfl,⟨S,⟨rfl,hl,g⟩,h⟩⟩
theorem len_letters_by_corner:∀ (ds:List D) (H:Hp3) (Q:VK3),sp_letters_by_corner ds H Q→ds.length = P_letters_by_corner.length:=by
 intro ds H Q h
 (refine Classical.byContradiction fun k_ => ?_; obtain ⟨_,rfl,_⟩:=h; refine k_ ?_; clear k_)
 rfl
def lp_letters_by_corner_0:TS3:=fo3 (il3 (cb3 sp_sides_of (cons3 (v3 2) nil3))) (gn3 3) (is3 (ts3 (o3 (r3inX true) (o3 r3ix (v3 3) (c3 (.int 2))) (v3 0))) (dp3 (v3 1) (o3 r3ix (v3 3) (c3 (.int 0))) (o3 r3ix (v3 3) (c3 (.int 1)))) nx3)
def lp_letters_by_corner_1:TS3:=fo3 (it3 (v3 0)) (gn3 2) lp_letters_by_corner_0
def t_letters_by_corner:TS3:=(sq3 (st3 1 dn3)
  (sq3 lp_letters_by_corner_1
  (rt3 (v3 1))))
theorem rd_letters_by_corner:∀ (ds:List D) (H:Hp3) (Q:VK3),sp_letters_by_corner ds H Q→t_letters_by_corner (fin3 Q) (start3 N_letters_by_corner ds) H:=by
 intro ds H Q h
 (refine Classical.byContradiction fun k_ => ?_; obtain ⟨_,rfl,h⟩:=h; refine k_ ?_; clear k_)
 (refine Classical.byContradiction fun k_ => ?_; obtain ⟨S,⟨rfl,hl,g⟩,h⟩:=h; refine k_ ?_; clear k_)
 simp only [t_letters_by_corner,start3,N_letters_by_corner,List.map_cons,List.map_nil,List.length_cons,List.length_nil,Nat.reduceAdd,Nat.reduceSub,Nat.zero_add,List.replicate,List.cons_append,List.nil_append]
 walk_at "l3"
 intro p hp
 walk_at "l3"
 unfold lp_letters_by_corner_1
 walk_at "l3"
 refine Lp.by (fun i σ H2 => Sub3 H H2∧∃ kvs:List (Pt×D),∃ x y,Lb S ltD i 0 kvs∧H2 p = some (.dic (tabV kvs))∧σ = [some (.tup (S.map prP)),some (.ref p),x,y]) ⟨Sub3.fresh hp,[],_,_,Lb.nil,upd3_same,rfl⟩ (fun _ _ _ _ _ => trivial) ?_ ?_
 ·intro i d σ H2 hd z_
  (refine Classical.byContradiction fun k_ => ?_; obtain ⟨sb,kvs,x,y,hb,hH,rfl⟩:=z_; refine k_ ?_; clear k_)
  rw [List.getElem?_map,Option.map_eq_some_iff] at hd
  (refine Classical.byContradiction fun k_ => ?_; obtain ⟨c,hc,rfl⟩:=hd; refine k_ ?_; clear k_)
  have hi:=(List.getElem?_eq_some_iff.mp hc).1
  obtain ⟨c1,c2⟩:=c
  unfold prP
  walk_at "l3"
  unfold lp_letters_by_corner_0
  walk_at "l3"
  refine u_sides_of fun p2 hp2 => ?_
  walk_at "l3"
  have n2:p≠p2:=ne3 hH hp2
  refine Lp.by (fun k σ H3 => Sub3 H H3∧H3 p2 = some (.lst ((List.range 4).map (sdD (c1,c2))))∧∃ kvs:List (Pt×D),∃ y,Lb S ltD i k kvs∧H3 p = some (.dic (tabV kvs))∧σ = [some (.tup (S.map prP)),some (.ref p),some (.tup [.int c1,.int c2]),y]) ⟨sb.trans (Sub3.fresh hp2),upd3_same,kvs,_,hb,upd3_old hH hp2,rfl⟩ (fun k σ H3 _ z => z.2.1) ?_ ?_
  ·intro k d σ H3 hd z_
   (refine Classical.byContradiction fun k_ => ?_; obtain ⟨sb3,h2,kvs,y,hb,hH,rfl⟩:=z_; refine k_ ?_; clear k_)
   have hk:k < 4:=by have:=(List.getElem?_eq_some_iff.mp hd).1; simpa using this
   rw [List.getElem?_map,List.getElem?_range hk,Option.map_some] at hd
   cases hd
   unfold sdD
   walk_at "l3"
   unfold prP
   refine g_ninX (ps:=S) rfl ?_
   refine ifN (fun z => ?_) fun z => ?_
   ·walk_at "l3"
    refine g_dpV hH (by have:=hb.len; omega) ?_
    walk_at "l3"
    refine ⟨fun q o hq => by rw [upd3_ne (fun e => by rw [e,hp] at hq; cases hq)]; exact sb3 q o hq,by rw [upd3_ne n2.symm]; exact h2,_,_,hb.put g hc hk z,upd3_same,rfl⟩
   ·walk_at "l3"
    exact ⟨sb3,h2,kvs,_,hb.skip hc z,hH,rfl⟩
  ·intro σ H3 z_
   (refine Classical.byContradiction fun k_ => ?_; obtain ⟨sb3,h2,kvs,y,hb,hH,rfl⟩:=z_; refine k_ ?_; clear k_)
   walk_at "l3"
   exact ⟨sb3,kvs,_,_,hb.next,hH,rfl⟩
 ·intro σ H2 z_
  (refine Classical.byContradiction fun k_ => ?_; obtain ⟨sb,kvs,x,y,hb,hH,rfl⟩:=z_; refine k_ ?_; clear k_)
  rw [List.length_map] at hb
  walk_at "l3"
  exact g_fin (h p kvs hp hb) (sub_upd sb hH)
def sp_l_pair:Sp3:=fun ds H Q => ∃ a b c d,ds = [.tup [.int a,.int b],.tup [.int c,.int d]]∧(Q (.bl (decide ((a,b) = (c,d)))) H)
theorem u_l_pair {a b c d:Int} {H:Hp3} {Q:VK3} (h:Q (.bl (decide ((a,b) = (c,d)))) H):sp_l_pair [.tup [.int a,.int b],.tup [.int c,.int d]] H Q:=⟨_,_,_,_,rfl,h⟩
local macro_rules | `(tactic| walk_at "l3c") => `(tactic| (with_reducible refine u_l_pair ?_))
theorem len_l_pair:∀ (ds:List D) (H:Hp3) (Q:VK3),sp_l_pair ds H Q→ds.length = P_l_pair.length:=by
 intro ds H Q h
 (refine Classical.byContradiction fun k_ => ?_; obtain ⟨_,_,_,_,rfl,_⟩:=h; refine k_ ?_; clear k_)
 rfl
def t_l_pair:TS3:=(sq3 (is3 (or3 (no3 (ts3 (cb3 r3isi (cons3 (v3 0) (cons3 (c3 (.ty "tuple")) nil3))))) (ts3 (o3 r3ne (cb3 r3len (cons3 (v3 0) nil3)) (c3 (.int 2))))) (rt3 (c3 (.bl false))) nx3)
  (rt3 (av3 (cb3 sp_l_whole (cons3 (o3 r3ix (v3 0) (c3 (.int 0))) nil3)) (av3 (cb3 sp_l_whole (cons3 (o3 r3ix (v3 0) (c3 (.int 1))) nil3)) (o3 r3eq (v3 0) (v3 1))))))
theorem rd_l_pair:∀ (ds:List D) (H:Hp3) (Q:VK3),sp_l_pair ds H Q→t_l_pair (fin3 Q) (start3 N_l_pair ds) H:=by
 intro ds H Q h
 (refine Classical.byContradiction fun k_ => ?_; obtain ⟨_,_,_,_,rfl,h⟩:=h; refine k_ ?_; clear k_)
 simp only [t_l_pair,start3,N_l_pair,List.map_cons,List.map_nil,List.length_cons,List.length_nil,Nat.reduceAdd,Nat.reduceSub,Nat.zero_add,List.replicate,List.cons_append,List.nil_append]
 walk_at "l3"
 refine ifX rfl ?_
 walk_at "l3"
 refine ifN (fun z => absurd rfl z) fun _ => ?_
 walk_at "l3"
 refine ifY rfl ?_
 walk_at "l3"
 refine ifY rfl ?_
 walk_at "l3"
 exact g_fin h Sub3.refl
inductive Gw:List Pt→Prop
 | one:Gw [(0,0)]
 | add {ps:List Pt} {c d:Pt}:Gw ps→c∉ps→d∈ps→c∈around4 d→Gw (ps++[c])
section
variable {ps:List Pt}
theorem Gw.nd (g:Gw ps):ps.Nodup:=by
 induction g with
 | one => simp
 | add _ h _ _ ih =>
  rw [List.nodup_append]
  exact ⟨ih,by simp,fun a ha b hb => by rw [List.mem_singleton.mp hb]; exact fun z => h (z▸ha)⟩
theorem Gw.z (g:Gw ps):(0,0)∈ps:=by
 induction g with
 | one => simp
 | add _ _ _ _ ih => exact List.mem_append_left _ ih
theorem Gw.bnd (g:Gw ps):∀ c∈ps,(-(ps.length:Int) < c.1∧c.1 < ps.length)∧-(ps.length:Int) < c.2∧c.2 < ps.length:=by
 induction g with
 | one => intro c hc; rw [List.mem_singleton.mp hc]; simp
 | @add ps e d _ _ hd ha ih =>
  intro c hc
  rw [List.length_append,List.length_singleton]
  rcases List.mem_append.mp hc with hc | hc
  ·have:=ih c hc; omega
  ·rw [List.mem_singleton.mp hc]
   have:=ih d hd
   rw [mem4'] at ha
   omega
theorem Gw.con (g:Gw ps):∀ c∈ps,Conn ps (0,0) c:=by
 induction g with
 | one => intro c hc; rw [List.mem_singleton.mp hc]; exact .refl
 | @add ps e d _ _ hd ha ih =>
  intro c hc
  rcases List.mem_append.mp hc with hc | hc
  ·exact (ih c hc).mono fun x hx => List.mem_append_left _ hx
  ·rw [List.mem_singleton.mp hc]
   exact .step ((ih d hd).mono fun x hx => List.mem_append_left _ hx) ha (by simp)
theorem Gw.con2 (g:Gw ps):∀ a∈ps,∀ b∈ps,Conn ps a b:=fun a ha b hb => ((g.con a ha).symm g.z).trans (g.con b hb)
theorem Gw.pop {c:Pt} (g:Gw (ps++[c])) (h:ps≠[]):Gw ps:=by
 generalize e:ps++[c] = qs at g
 cases g with
 | one =>
  have:=congrArg List.length e
  rw [List.length_append,List.length_singleton,List.length_singleton] at this
  exact absurd (List.eq_nil_of_length_eq_zero (by omega)) h
 | add g _ _ _ => rw [(List.append_inj' e rfl).1]; exact g
end
def ltOf (c:Int):Lt:=match (c % 4).toNat with
 | 0 => 0
 | 1 => 1
 | 2 => 2
 | _ => 3
theorem enws_ix (c:Int):atI (Str.ofString "enws").cps.toList (c % 4) = some (cp (ltOf c)):=by
 have:c % 4 = 0∨c % 4 = 1∨c % 4 = 2∨c % 4 = 3:=by omega
 unfold ltOf
 rcases this with e | e | e | e <;> rw [e] <;> rfl
theorem step4 (l:Lt) (x y:Int):(x + (step l).1,y + (step l).2)∈around4 (x,y):=by
 rw [mem4']
 match l with
 | 0 => exact .inl ⟨rfl,Int.add_zero _⟩
 | 1 => exact .inr (.inl ⟨Int.add_zero _,rfl⟩)
 | 2 => exact .inr (.inr (.inl ⟨rfl,Int.add_zero _⟩))
 | 3 => exact .inr (.inr (.inr ⟨Int.add_zero _,rfl⟩))
def lenA (H:Hp3) (a:Addr):Nat:=match H a with
 | some (.lst l) => l.length
 | _ => 0
def sp_l_grown:Sp3:=fun ds H Q => ∃ xs at0 many,ds = [.fl xs,.int at0,.int many]∧(∃ ns:List Int,(xs = ns.map D.int∧ns.length≤63∧(0≤at0∧at0≤500)∧1≤many∧many≤10)∧∀ ps p,H p = none→Gw ps→ps.length≤10→Sc ps→Q (.ref p) (upd3 H p (.lst (ps.map prP))))
theorem u_l_grown {ns:List Int} {at0 many:Int} {H:Hp3} {Q:VK3} (hl:ns.length≤63) (h1:0≤at0∧at0≤500) (h2:1≤many∧many≤10) (h:∀ ps p,H p = none→Gw ps→ps.length≤10→Sc ps→Q (.ref p) (upd3 H p (.lst (ps.map prP)))):sp_l_grown [.fl (ns.map D.int),.int at0,.int many] H Q:=⟨_,_,_,rfl,⟨ns,⟨rfl,hl,h1,h2⟩,h⟩⟩
theorem len_l_grown:∀ (ds:List D) (H:Hp3) (Q:VK3),sp_l_grown ds H Q→ds.length = P_l_grown.length:=by
 intro ds H Q h
 (refine Classical.byContradiction fun k_ => ?_; obtain ⟨_,_,_,rfl,_⟩:=h; refine k_ ?_; clear k_)
 rfl
def lp_l_grown_0:TS3:=fo3 (ir1 (c3 (.int 4))) (gn3 8) (sq3 (st3 9 (cb3 sp_l_step (cons3 (o3 r3ix (c3 (.str "enws")) (o3 i3mod (o3 r3add (o3 i3divW (v3 5) (c3 (.int 60))) (v3 8)) (c3 (.int 4)))) nil3)))
  (sq3 (st3 10 (tp3 (cons3 (o3 r3add (v3 6) (o3 r3ix (v3 9) (c3 (.int 0)))) (cons3 (o3 r3add (v3 7) (o3 r3ix (v3 9) (c3 (.int 1)))) nil3))))
  (is3 (ts3 (o3 (r3inX true) (v3 10) (v3 3))) (sq3 (dr3 (m3 r3app (v3 3) (cons3 (v3 10) nil3)))
  br3) nx3)))
def lp_l_grown_1:TS3:=fo3 (ir1 (o3 i3sub (v3 2) (c3 (.int 1)))) (gn3 4) (sq3 (st3 5 (cb3 sp_l_cell_at (cons3 (v3 0) (cons3 (o3 r3add (v3 1) (v3 4)) nil3))))
  (sq3 (as3 (o3 r3ix (v3 3) (o3 i3mod (v3 5) (cb3 r3len (cons3 (v3 3) nil3)))) (g2_3 6 7))
  lp_l_grown_0))
def lp_l_grown_2:TS3:=wh3 (ts3 (cb3 sp_l_holed (cons3 (v3 3) nil3))) (dr3 (m3 r3pop (v3 3) nil3))
def t_l_grown:TS3:=(sq3 (st3 3 (ls3 (cons3 (tp3 (cons3 (c3 (.int 0)) (cons3 (c3 (.int 0)) nil3))) nil3)))
  (sq3 lp_l_grown_1
  (sq3 lp_l_grown_2
  (rt3 (v3 3)))))
theorem rd_l_grown:∀ (ds:List D) (H:Hp3) (Q:VK3),sp_l_grown ds H Q→t_l_grown (fin3 Q) (start3 N_l_grown ds) H:=by
 intro ds H Q h
 (refine Classical.byContradiction fun k_ => ?_; obtain ⟨xs,at0,many,rfl,h⟩:=h; refine k_ ?_; clear k_)
 (refine Classical.byContradiction fun k_ => ?_; obtain ⟨ns,⟨rfl,hl,⟨a0,a1⟩,m0,m1⟩,h⟩:=h; refine k_ ?_; clear k_)
 simp only [t_l_grown,start3,N_l_grown,List.map_cons,List.map_nil,List.length_cons,List.length_nil,Nat.reduceAdd,Nat.reduceSub,Nat.zero_add,List.replicate,List.cons_append,List.nil_append]
 walk_at "l3"
 intro p hp
 walk_at "l3"
 unfold lp_l_grown_1
 walk_at "l3"
 refine Lp.rng (fun i σ H2 => Sub3 H H2∧∃ ps:List Pt,(H2 p = some (.lst (ps.map prP))∧Gw ps∧ps.length≤i + 1)∧∃ k c x y t s n,σ = [some (.fl (ns.map D.int)),some (.int at0),some (.int many),some (.ref p),k,c,x,y,t,s,n]) ⟨Sub3.fresh hp,[(0,0)],⟨upd3_same,.one,Nat.le_refl _⟩,_,_,_,_,_,_,_,rfl⟩ ?_ ?_
 ·intro i σ H2 hi z_
  (refine Classical.byContradiction fun k_ => ?_; obtain ⟨hs,ps,⟨hH,g,hgl⟩,k,c,x,y,t,s,n,rfl⟩:=z_; refine k_ ?_; clear k_)
  have hpos:0 < ps.length:=List.length_pos_of_mem g.z
  have hl0:(0:Int) < ((ps.map prP).length:Int):=by rw [List.length_map]; omega
  walk_at "l3"
  rw [Int.zero_add]
  generalize cat ns (at0 + (i:Int)).toNat = cc
  rw [List.length_map] at *
  have n0:0≤cc % (ps.length:Int):=Int.emod_nonneg _ (by omega)
  have n1:(cc % (ps.length:Int)).toNat < ps.length:=by have:=Int.emod_lt_of_pos cc hl0; omega
  refine g_ixL hH (atI_map n0 n1) ?_
  have hqm:=List.getElem_mem n1
  generalize ps[(cc % (ps.length:Int)).toNat] = q at hqm
  obtain ⟨qx,qy⟩:=q
  unfold prP
  walk_at "l3"
  unfold lp_l_grown_0
  walk_at "l3"
  refine Lp.rng (fun j σ H3 => H3 = H2∧∃ t s n,σ = [some (.fl (ns.map D.int)),some (.int at0),some (.int many),some (.ref p),some (.int (i:Int)),some (.int cc),some (.int qx),some (.int qy),t,s,n]) ⟨rfl,_,_,_,by first | rfl | (rw [Int.zero_add])⟩ ?_ ?_
  ·intro j σ H3 hj z_
   (refine Classical.byContradiction fun k_ => ?_; obtain ⟨rfl,t,s,n,rfl⟩:=z_; refine k_ ?_; clear k_)
   walk_at "l3"
   refine g_ixZ (by rw [sizeLine_n]; decide) (enws_ix _) ?_
   generalize ltOf _ = l
   walk_at "l3"
   refine u_l_step l ?_
   walk_at "l3"
   refine g_ninX (ps:=ps) (seq_ref hH) ?_
   walk_at "l3"
   refine ifN (fun hnin => ?_) fun _ => ?_
   ·walk_at "l3"
    refine g_app hH (small1000' (by rw [List.length_map]; omega)) ?_
    walk_at "l3"
    refine ⟨fun b o hb => ?_,ps++[(qx + (step l).1,qy + (step l).2)],⟨?_,g.add hnin hqm (step4 l qx qy),by simp; omega⟩,_,_,_,_,_,_,_,rfl⟩
    ·rw [upd3_ne (ne3 hb hp)]; exact hs b o hb
    ·rw [upd3_same,List.map_append]; rfl
   ·walk_at "l3"
    exact ⟨rfl,_,_,_,rfl⟩
  ·intro σ H3 z_
   (refine Classical.byContradiction fun k_ => ?_; obtain ⟨rfl,t,s,n,rfl⟩:=z_; refine k_ ?_; clear k_)
   walk_at "l3"
   exact ⟨hs,ps,⟨hH,g,by omega⟩,_,_,_,_,_,_,_,rfl⟩
 ·intro σ H2 z_
  (refine Classical.byContradiction fun k_ => ?_; obtain ⟨hs,ps,⟨hH,g,hgl⟩,k,c,x,y,t,s,n,rfl⟩:=z_; refine k_ ?_; clear k_)
  have hpl:ps.length≤10:=by omega
  walk_at "l3"
  unfold lp_l_grown_2
  refine g_wh (fun σ H3 => Sub3 H H3∧∃ qs:List Pt,(H3 p = some (.lst (qs.map prP))∧Gw qs∧qs.length≤10)∧σ = [some (.fl (ns.map D.int)),some (.int at0),some (.int many),some (.ref p),k,c,x,y,t,s,n]) (fun _ H3 => lenA H3 p) ⟨hs,ps,⟨hH,g,hpl⟩,rfl⟩ ?_
  intro σ H3 z_
  (refine Classical.byContradiction fun k_ => ?_; obtain ⟨hs3,qs,⟨hq,g3,hl3⟩,rfl⟩:=z_; refine k_ ?_; clear k_)
  have hb3:=g3.bnd
  walk_at "l3"
  refine u_l_holed hq (List.ne_nil_of_mem g3.z) (by omega) (fun x hx y hy => by have:=hb3 x hx; have:=hb3 y hy; omega) fun b hb0 hb1 => ?_
  walk_at "l3"
  refine ifB (fun hb => ?_) fun hb => ?_
  ·have h2:qs.length≠1:=fun z => by rw [hb1 z] at hb; cases hb
   have hqn:qs≠[]:=List.ne_nil_of_mem g3.z
   obtain ⟨rs,e,rfl⟩:∃ rs e,qs = rs++[e]:=⟨qs.dropLast,qs.getLast hqn,(List.dropLast_concat_getLast hqn).symm⟩
   have hrn:rs≠[]:=fun z => h2 (by rw [z]; rfl)
   walk_at "l3"
   refine g_pop hq (y:=prP e) (by simp) ?_
   rw [show ((rs++[e]).map prP).dropLast = rs.map prP by simp]
   walk_at "l3"
   refine ⟨⟨fun b o hb => ?_,rs,⟨upd3_same,g3.pop hrn,by simp at hl3; omega⟩,rfl⟩,?_⟩
   ·rw [upd3_ne (ne3 hb hp)]; exact hs3 b o hb
   ·unfold lenA
    rw [upd3_same,hq]
    simp
  ·walk_at "l3"
   exact g_fin (h qs p hp g3 hl3 ⟨g3.con2,hb0 hb⟩) (sub_upd hs3 hq)
def sp_way_of:Sp3:=fun ds H Q => ∃ z,ds = [.str z]∧(∃ ls:List Lt,(z = wStr ls∧ls.length≤500)∧Q (.tup [.int (endp (0,0) ls).1,.int (endp (0,0) ls).2]) H)
theorem u_way_of (ls:List Lt) {H:Hp3} {Q:VK3} (hl:ls.length≤500) (h:Q (.tup [.int (endp (0,0) ls).1,.int (endp (0,0) ls).2]) H):sp_way_of [.str (wStr ls)] H Q:=⟨_,rfl,⟨ls,⟨rfl,hl⟩,h⟩⟩
theorem len_way_of:∀ (ds:List D) (H:Hp3) (Q:VK3),sp_way_of ds H Q→ds.length = P_way_of.length:=by
 intro ds H Q h
 (refine Classical.byContradiction fun k_ => ?_; obtain ⟨_,rfl,_⟩:=h; refine k_ ?_; clear k_)
 rfl
def t_way_of:TS3:=(rt3 (o3 r3ix (cb3 sp_corners_of (cons3 (tp3 (cons3 (c3 (.int 0)) (cons3 (c3 (.int 0)) nil3))) (cons3 (v3 0) nil3))) (u3 r3neg (c3 (.int 1)))))
theorem rd_way_of:∀ (ds:List D) (H:Hp3) (Q:VK3),sp_way_of ds H Q→t_way_of (fin3 Q) (start3 N_way_of ds) H:=by
 intro ds H Q h
 (refine Classical.byContradiction fun k_ => ?_; obtain ⟨z,rfl,h⟩:=h; refine k_ ?_; clear k_)
 (refine Classical.byContradiction fun k_ => ?_; obtain ⟨ls,⟨rfl,hl⟩,h⟩:=h; refine k_ ?_; clear k_)
 simp only [t_way_of,start3,N_way_of,List.map_cons,List.map_nil,List.length_cons,List.length_nil,Nat.reduceAdd,Nat.reduceSub,Nat.zero_add,List.replicate,List.cons_append,List.nil_append]
 walk_at "l3"
 refine u_corners_of ls hl fun p hp => ?_
 walk_at "l3"
 refine g_ixL upd3_same (path_last _ _) ?_
 walk_at "l3"
 exact g_fin h (Sub3.fresh hp)
def sp_area_of:Sp3:=fun ds H Q => ∃ z,ds = [.str z]∧(∃ ls:List Lt,(z = wStr ls∧ls.length≤500)∧Q (.int (ar (0,0) ls)) H)
theorem u_area_of (ls:List Lt) {H:Hp3} {Q:VK3} (hl:ls.length≤500) (h:Q (.int (ar (0,0) ls)) H):sp_area_of [.str (wStr ls)] H Q:=⟨_,rfl,⟨ls,⟨rfl,hl⟩,h⟩⟩
theorem len_area_of:∀ (ds:List D) (H:Hp3) (Q:VK3),sp_area_of ds H Q→ds.length = P_area_of.length:=by
 intro ds H Q h
 (refine Classical.byContradiction fun k_ => ?_; obtain ⟨_,rfl,_⟩:=h; refine k_ ?_; clear k_)
 rfl
def lp_area_of_0:TS3:=fo3 (izt (cb3 sp_corners_of (cons3 (tp3 (cons3 (c3 (.int 0)) (cons3 (c3 (.int 0)) nil3))) (cons3 (v3 0) nil3))) (v3 0)) (g2_3 2 3) (sq3 (is3 (ts3 (o3 r3eq (v3 3) (c3 (.str "n")))) (au3 1 r3iadd (o3 r3ix (v3 2) (c3 (.int 0)))) nx3)
  (is3 (ts3 (o3 r3eq (v3 3) (c3 (.str "s")))) (au3 1 i3isub (o3 r3ix (v3 2) (c3 (.int 0)))) nx3))
def t_area_of:TS3:=(sq3 (st3 1 (c3 (.int 0)))
  (sq3 lp_area_of_0
  (rt3 (v3 1))))
theorem rd_area_of:∀ (ds:List D) (H:Hp3) (Q:VK3),sp_area_of ds H Q→t_area_of (fin3 Q) (start3 N_area_of ds) H:=by
 intro ds H Q h
 (refine Classical.byContradiction fun k_ => ?_; obtain ⟨z,rfl,h⟩:=h; refine k_ ?_; clear k_)
 (refine Classical.byContradiction fun k_ => ?_; obtain ⟨ls,⟨rfl,hl⟩,h⟩:=h; refine k_ ?_; clear k_)
 simp only [t_area_of,start3,N_area_of,List.map_cons,List.map_nil,List.length_cons,List.length_nil,Nat.reduceAdd,Nat.reduceSub,Nat.zero_add,List.replicate,List.cons_append,List.nil_append]
 walk_at "l3"
 unfold lp_area_of_0
 walk_at "l3"
 refine u_corners_of ls hl fun p hp => ?_
 walk_at "l3"
 refine g_ztk upd3_same (asc_w ls) ?_
 rw [lets_w,zipD_map]
 refine Lp.by (fun i σ H2 => H2 = upd3 H p (.lst ((path (0,0) ls).map prP))∧∃ c d,σ = [some (.str (wStr ls)),some (.int (ar (0,0) (ls.take i))),c,d]) ⟨rfl,_,_,rfl⟩ (fun i σ H2 _ z => by rw [z.1]; exact upd3_same) ?_ ?_
 ·intro i dd σ H2 hd z_
  (refine Classical.byContradiction fun k_ => ?_; obtain ⟨rfl,c,d,rfl⟩:=z_; refine k_ ?_; clear k_)
  rw [List.getElem?_map,Option.map_eq_some_iff] at hd
  (refine Classical.byContradiction fun k_ => ?_; obtain ⟨⟨q,l⟩,hq,rfl⟩:=hd; refine k_ ?_; clear k_)
  obtain ⟨e1,e2⟩:=zip_at hq
  dsimp only at e1 e2
  subst e1
  have ht:ls.take (i + 1) = ls.take i++[l]:=by rw [List.take_add_one,e2]; rfl
  unfold prP
  walk_at "l3"
  refine g_eqN ?_
  walk_at "l3"
  rw [ht,ar_snoc]
  refine ifD (fun h1 => ?_) fun h1 => ?_
  ·walk_at "l3"
   refine g_eqS ?_
   walk_at "l3"
   refine ifD (fun h3 => absurd (h1.symm.trans h3) (by decide)) fun h3 => ?_
   walk_at "l3"
   rw [ar_1 h1]
   exact ⟨rfl,_,_,rfl⟩
  ·walk_at "l3"
   refine g_eqS ?_
   walk_at "l3"
   refine ifD (fun h3 => ?_) fun h3 => ?_
   ·walk_at "l3"
    rw [ar_3 h3,← Int.sub_eq_add_neg]
    exact ⟨rfl,_,_,rfl⟩
   ·walk_at "l3"
    rw [ar_0 h1 h3,Int.add_zero]
    exact ⟨rfl,_,_,rfl⟩
 ·intro σ H2 z_
  (refine Classical.byContradiction fun k_ => ?_; obtain ⟨rfl,c,d,rfl⟩:=z_; refine k_ ?_; clear k_)
  rw [List.length_map,zip_len,List.take_of_length_le (Nat.le_refl _)]
  walk_at "l3"
  exact g_fin h (Sub3.fresh hp)
def sp_border_of:Sp3:=fun ds H Q => ∃ xs,ds = [.tup xs]∧(∃ S s0,(xs = S.map prP∧S[0]? = some s0∧S.length≤20∧One S∧Crn S s0)∧∀ t,Rnd S s0 t→t≤80→Q (.tup [.tup [.int s0.1,.int s0.2],.str (wStr (wd S s0 t))]) H)
theorem u_border_of {S:List Pt} {s0:Pt} {H:Hp3} {Q:VK3} (h0:S[0]? = some s0) (hl:S.length≤20) (g:One S) (hcr:Crn S s0) (h:∀ t,Rnd S s0 t→t≤80→Q (.tup [.tup [.int s0.1,.int s0.2],.str (wStr (wd S s0 t))]) H):sp_border_of [.tup (S.map prP)] H Q:=⟨_,rfl,⟨S,s0,⟨rfl,h0,hl,g,hcr⟩,h⟩⟩
theorem len_border_of:∀ (ds:List D) (H:Hp3) (Q:VK3),sp_border_of ds H Q→ds.length = P_border_of.length:=by
 intro ds H Q h
 (refine Classical.byContradiction fun k_ => ?_; obtain ⟨_,rfl,_⟩:=h; refine k_ ?_; clear k_)
 rfl
def lp_border_of_0:TS3:=wh3 (or3 (ts3 (o3 r3eq (v3 3) (c3 (.str "")))) (ts3 (o3 r3ne (v3 4) (v3 2)))) (sq3 (st3 5 (dg3 (v3 1) (v3 4)))
  (sq3 (au3 3 r3iadd (v3 5))
  (st3 4 (cb3 sp_added (cons3 (v3 4) (cons3 (kd3 c_STEPS (v3 5)) nil3))))))
def t_border_of:TS3:=(sq3 (st3 1 (cb3 sp_letters_by_corner (cons3 (v3 0) nil3)))
  (sq3 (st3 2 (o3 r3ix (v3 0) (c3 (.int 0))))
  (sq3 (st3 3 (c3 (.str "")))
  (sq3 (st3 4 (v3 2))
  (sq3 lp_border_of_0
  (rt3 (tp3 (cons3 (v3 2) (cons3 (v3 3) nil3)))))))))
theorem rd_border_of:∀ (ds:List D) (H:Hp3) (Q:VK3),sp_border_of ds H Q→t_border_of (fin3 Q) (start3 N_border_of ds) H:=by
 intro ds H Q h
 (refine Classical.byContradiction fun k_ => ?_; obtain ⟨_,rfl,h⟩:=h; refine k_ ?_; clear k_)
 (refine Classical.byContradiction fun k_ => ?_; obtain ⟨S,s0,⟨rfl,h0,hl,g,hcr⟩,h⟩:=h; refine k_ ?_; clear k_)
 simp only [t_border_of,start3,N_border_of,List.map_cons,List.map_nil,List.length_cons,List.length_nil,Nat.reduceAdd,Nat.reduceSub,Nat.zero_add,List.replicate,List.cons_append,List.nil_append]
 walk_at "l3"
 refine u_letters_by_corner hl g.dg fun p kvs hp hb => ?_
 obtain ⟨t,r⟩:=g.rnd hcr
 have ht:kvs.length = t:=by have:=r.len hcr hb.nd hb.all; rw [List.length_map] at this; exact this
 have ht80:t≤80:=by have:=hb.len; omega
 have h:=h t r ht80
 walk_at "l3"
 refine g_ixT (at_first h0) ?_
 walk_at "l3"
 unfold lp_border_of_0
 refine g_wh (fun σ H2 => H2 = upd3 H p (.dic (tabV kvs))∧∃ i,i≤t∧∃ l,σ = [some (.tup (S.map prP)),some (.ref p),some (.tup [.int s0.1,.int s0.2]),some (.str (wStr (wd S s0 i))),some (.tup [.int (itr S s0 i).1,.int (itr S s0 i).2]),l]) (fun σ _ => match σ with | [_,_,_,some (.str z),_,_] => t - z.length | _ => 0) ⟨rfl,0,by omega,_,rfl⟩ ?_
 intro σ H2 z_
 (refine Classical.byContradiction fun k_ => ?_; obtain ⟨rfl,i,hi,l,rfl⟩:=z_; refine k_ ?_; clear k_)
 walk_at "l3"
 refine g_eqW (bs:=[]) ?_
 walk_at "l3"
 by_cases i0:i = 0
 ·refine ifD (fun _ => ?_) fun z => absurd (by subst i0; rfl) z
  have hit:i < t:=by have:=r.pos; omega
  walk_at "l3"
  refine g_dgk upd3_same (hb.at (crn_itr hcr i)) ?_
  unfold ltD
  walk_at "l3"
  refine g_iaddZ (by rw [wStr_len,wd_len,sizeLine_n]; show i + 1≤_; omega) ?_
  walk_at "l3"
  refine g_kdk (steps_at _) ?_
  walk_at "l3"
  refine ⟨⟨rfl,i + 1,by omega,some (.str (lt1 (ltN (outD S (itr S s0 i))))),?_⟩,?_⟩
  ·rw [show wStr (wd S s0 i)++lt1 (ltN (outD S (itr S s0 i))) = wStr (wd S s0 (i + 1)) from by rw [wd_snoc,← wStr_app]; rfl,step_ltN outD_lt]
   rfl
  ·show t - (wStr (wd S s0 i)++lt1 (ltN (outD S (itr S s0 i)))).length < t - (wStr (wd S s0 i)).length
   rw [show wStr (wd S s0 i)++lt1 (ltN (outD S (itr S s0 i))) = wStr (wd S s0 (i + 1)) from by rw [wd_snoc,← wStr_app]; rfl,wStr_len,wStr_len,wd_len,wd_len]
   omega
 ·refine ifD (fun z => absurd (congrArg List.length z) (by rw [wd_len]; exact i0)) fun _ => ?_
  walk_at "l3"
  refine ifN (fun z => ?_) fun z => ?_
  ·have hit:i < t:=by
    rcases Nat.lt_or_ge i t with y | y
    ·exact y
    ·exact absurd (by rw [show i = t from by omega]; exact r.back) z
   walk_at "l3"
   refine g_dgk upd3_same (hb.at (crn_itr hcr i)) ?_
   unfold ltD
   walk_at "l3"
   refine g_iaddZ (by rw [wStr_len,wd_len,sizeLine_n]; show i + 1≤_; omega) ?_
   walk_at "l3"
   refine g_kdk (steps_at _) ?_
   walk_at "l3"
   refine ⟨⟨rfl,i + 1,by omega,some (.str (lt1 (ltN (outD S (itr S s0 i))))),?_⟩,?_⟩
   ·rw [show wStr (wd S s0 i)++lt1 (ltN (outD S (itr S s0 i))) = wStr (wd S s0 (i + 1)) from by rw [wd_snoc,← wStr_app]; rfl,step_ltN outD_lt]
    rfl
   ·show t - (wStr (wd S s0 i)++lt1 (ltN (outD S (itr S s0 i)))).length < t - (wStr (wd S s0 i)).length
    rw [show wStr (wd S s0 i)++lt1 (ltN (outD S (itr S s0 i))) = wStr (wd S s0 (i + 1)) from by rw [wd_snoc,← wStr_app]; rfl,wStr_len,wStr_len,wd_len,wd_len]
    omega
  ·have hit:i = t:=by
    rcases Nat.lt_or_ge i t with y | y
    ·exact absurd z (r.not i (by omega) y)
    ·omega
   subst hit
   walk_at "l3"
   exact g_fin h (Sub3.fresh hp)
def sp_check_crossings:Sp3:=fun ds H Q => ∃ z,ds = [.str z]∧(∃ ls:List Lt,(z = wStr ls∧ls≠[]∧ls.length≤100∧∀ i j,i < j→j < ls.length→endp (0,0) (ls.take i)≠endp (0,0) (ls.take j))∧Q .non H)
theorem u_check_crossings {ls:List Lt} {H:Hp3} {Q:VK3} (hn:ls≠[]) (hl:ls.length≤100) (hi:∀ i j,i < j→j < ls.length→endp (0,0) (ls.take i)≠endp (0,0) (ls.take j)) (h:Q .non H):sp_check_crossings [.str (wStr ls)] H Q:=⟨_,rfl,⟨ls,⟨rfl,hn,hl,hi⟩,h⟩⟩
theorem len_check_crossings:∀ (ds:List D) (H:Hp3) (Q:VK3),sp_check_crossings ds H Q→ds.length = P_check_crossings.length:=by
 intro ds H Q h
 (refine Classical.byContradiction fun k_ => ?_; obtain ⟨_,rfl,_⟩:=h; refine k_ ?_; clear k_)
 rfl
def lp_check_crossings_0:TS3:=fo3 (ir1 (o3 i3sub (cb3 r3len (cons3 (v3 0) nil3)) (c3 (.int 1)))) (gn3 3) (sq3 (st3 4 (o3 r3ix (v3 1) (o3 r3add (v3 3) (c3 (.int 1)))))
  (sq3 (is3 (ts3 (o3 (r3inX false) (v3 4) (v3 2))) ra3 nx3)
  (dp3 (v3 2) (v3 4) (c3 (.bl true)))))
def t_check_crossings:TS3:=(sq3 (st3 1 (cb3 sp_corners_of (cons3 (tp3 (cons3 (c3 (.int 0)) (cons3 (c3 (.int 0)) nil3))) (cons3 (v3 0) nil3))))
  (sq3 (st3 2 (dd3 (o3 r3ix (v3 1) (c3 (.int 0))) (c3 (.bl true))))
  lp_check_crossings_0))
theorem rd_check_crossings:∀ (ds:List D) (H:Hp3) (Q:VK3),sp_check_crossings ds H Q→t_check_crossings (fin3 Q) (start3 N_check_crossings ds) H:=by
 intro ds H Q h
 (refine Classical.byContradiction fun k_ => ?_; obtain ⟨_,rfl,h⟩:=h; refine k_ ?_; clear k_)
 (refine Classical.byContradiction fun k_ => ?_; obtain ⟨ls,⟨rfl,hn,hl,hi⟩,h⟩:=h; refine k_ ?_; clear k_)
 have hpos:0 < ls.length:=List.length_pos_iff.mpr hn
 simp only [t_check_crossings,start3,N_check_crossings,List.map_cons,List.map_nil,List.length_cons,List.length_nil,Nat.reduceAdd,Nat.reduceSub,Nat.zero_add,List.replicate,List.cons_append,List.nil_append]
 walk_at "l3"
 refine u_corners_of ls (by omega) fun p hp => ?_
 have at_:∀ j:Nat,j≤ls.length→atI ((path (0,0) ls).map prP) (j:Int) = some (.tup [.int (endp (0,0) (ls.take j)).1,.int (endp (0,0) (ls.take j)).2]):=fun j hj => by
  unfold atI ixN
  rw [List.length_map,path_len,if_pos (by omega),if_pos (by omega),Option.bind_some,List.getElem?_map,Int.toNat_natCast,path_get,if_pos hj]
  rfl
 walk_at "l3"
 intro p2 hp2
 walk_at "l3"
 refine g_ixL (upd3_old upd3_same hp2) (at_ 0 (Nat.zero_le _)) ?_
 walk_at "l3"
 refine g_ddk upd3_same ?_
 rw [upd3_upd3]
 have n12:p≠p2:=ne3 upd3_same hp2
 have hpl:upd3 (upd3 H p (.lst ((path (0,0) ls).map prP))) p2 (.dic (tabP [(0,0)])) p = some (.lst ((path (0,0) ls).map prP)):=upd3_old upd3_same hp2
 have hs:Sub3 H (upd3 (upd3 H p (.lst ((path (0,0) ls).map prP))) p2 (.dic (tabP [(0,0)]))):=(Sub3.fresh hp).trans (Sub3.fresh hp2)
 have n2:H p2 = none:=sub_back (Sub3.fresh hp) hp2
 walk_at "l3"
 unfold lp_check_crossings_0
 walk_at "l3"
 refine g_lenW (by omega) ?_
 walk_at "l3"
 refine Lp.rng (fun i σ H2 => Sub3 H H2∧H2 p = some (.lst ((path (0,0) ls).map prP))∧H2 p2 = some (.dic (tabP ((List.range (i + 1)).map fun j => endp (0,0) (ls.take j))))∧∃ a b,σ = [some (.str (wStr ls)),some (.ref p),some (.ref p2),a,b]) ⟨hs,hpl,upd3_same,_,_,rfl⟩ ?_ ?_
 ·intro i σ H2 hlt z_
  (refine Classical.byContradiction fun k_ => ?_; obtain ⟨hs2,k1,k2,a,b,rfl⟩:=z_; refine k_ ?_; clear k_)
  have hi1:i + 1 < ls.length:=by omega
  rw [Int.zero_add]
  walk_at "l3"
  refine g_ixL k1 (i:=(i:Int) + 1) (at_ (i + 1) (Nat.le_of_lt hi1)) ?_
  walk_at "l3"
  refine g_inD k2 ?_
  have nin:(endp (0,0) (ls.take (i + 1)))∉(List.range (i + 1)).map fun j => endp (0,0) (ls.take j):=fun z => by
   (refine Classical.byContradiction fun k_ => ?_; obtain ⟨j,hj,e⟩:=List.mem_map.mp z; refine k_ ?_; clear k_)
   exact hi j (i + 1) (List.mem_range.mp hj) hi1 e
  walk_at "l3"
  refine ifD (fun z => absurd z nin) fun _ => ?_
  walk_at "l3"
  refine g_dpk k2 (by rw [List.length_map,List.length_range]; omega) ?_
  rw [show addN ((List.range (i + 1)).map fun j => endp (0,0) (ls.take j)) ((endp (0,0) (ls.take (i + 1))).1,(endp (0,0) (ls.take (i + 1))).2) = (List.range (i + 1 + 1)).map fun j => endp (0,0) (ls.take j) from by
   unfold addN
   rw [if_neg nin,List.range_succ (n:=i + 1),List.map_append]; rfl]
  walk_at "l3"
  refine ⟨fun q o hq => by rw [upd3_ne (ne3 hq n2)]; exact hs2 q o hq,by rw [upd3_ne n12]; exact k1,upd3_same,_,_,rfl⟩
 ·intro σ H2 z_
  (refine Classical.byContradiction fun k_ => ?_; obtain ⟨hs2,k1,k2,a,b,rfl⟩:=z_; refine k_ ?_; clear k_)
  walk_at "l3"
  exact g_finN h hs2
abbrev Row:=Int×Addr×List Int
def rwT (ks:List Row):TabI:=ks.map fun k => (.inl k.1,.ref k.2.1)
theorem rwT_look {ks:List Row} {y:Int}:lookI (rwT ks) (.inl y) = (ks.find? fun k => decide (k.1 = y)).map fun k => .ref k.2.1:=by
 unfold lookI rwT
 rw [List.find?_map,Option.map_map]
 have:((fun kv:L2.Key×D => decide (kv.1 = .inl y))∘fun k:Row => ((.inl k.1:L2.Key),D.ref k.2.1)) = fun k:Row => decide (k.1 = y):=by
  funext k
  exact decide_eq_decide.mpr ⟨fun z => Sum.inl.inj z,fun z => by rw [← z]⟩
 rw [this]
 rfl
theorem rwT_some {ks:List Row} {y:Int} {d:D} (h:lookI (rwT ks) (.inl y) = some d):∃ k∈ks,k.1 = y∧d = .ref k.2.1:=by
 rw [rwT_look] at h
 (refine Classical.byContradiction fun k_ => ?_; obtain ⟨k,hk,rfl⟩:=Option.map_eq_some_iff.mp h; refine k_ ?_; clear k_)
 exact ⟨k,List.mem_of_find?_eq_some hk,by simpa using List.find?_some hk,rfl⟩
theorem rwT_none {ks:List Row} {y:Int} (h:lookI (rwT ks) (.inl y) = none):∀ k∈ks,k.1≠y:=by
 rw [rwT_look,Option.map_eq_none_iff,List.find?_eq_none] at h
 intro k hk z
 exact h k hk (decide_eq_true z)
theorem rwT_put {ks:List Row} {y:Int} {r:Addr} (h:∀ k∈ks,k.1≠y) (xs:List Int):putI (rwT ks) (.inl y) (.ref r) = rwT (ks++[(y,r,xs)]):=by
 unfold putI
 rw [if_neg]
 ·unfold rwT; rw [List.map_append]; rfl
 ·intro z
  (refine Classical.byContradiction fun k_ => ?_; obtain ⟨kv,hkv,e⟩:=List.any_eq_true.mp z; refine k_ ?_; clear k_)
  (refine Classical.byContradiction fun k_ => ?_; obtain ⟨k,hk,rfl⟩:=List.mem_map.mp hkv; refine k_ ?_; clear k_)
  exact h k hk (Sum.inl.inj (of_decide_eq_true e))
theorem nd_one {α β:Type} {f:α→β}:∀ {l:List α},(l.map f).Nodup→∀ {a b:α},a∈l→b∈l→f a = f b→a = b
 | c::l,nd,a,b,ha,hb,e => by
  rw [List.map_cons,List.nodup_cons] at nd
  rcases List.mem_cons.mp ha with h1 | h1
  ·rcases List.mem_cons.mp hb with h2 | h2
   ·rw [h1,h2]
   ·exact absurd (List.mem_map.mpr ⟨b,h2,by rw [← e,h1]⟩) nd.1
  ·rcases List.mem_cons.mp hb with h2 | h2
   ·exact absurd (List.mem_map.mpr ⟨a,h1,by rw [e,h2]⟩) nd.1
   ·exact nd_one nd.2 h1 h2 e
structure Rw (H H2:Hp3) (p:Addr) (ks:List Row) (U:List Pt):Prop where
 sub:Sub3 H H2
 new:H p = none
 dic:H2 p = some (.dik (rwT ks))
 lst:∀ k∈ks,H2 k.2.1 = some (.lst (k.2.2.map D.int))∧H k.2.1 = none
 nda:(ks.map (·.2.1)).Nodup
 ndk:(ks.map (·.1)).Nodup
 mem:∀ k∈ks,∀ x,x∈k.2.2↔(x,k.1)∈U
 ndx:∀ k∈ks,k.2.2.Nodup
 all:∀ c∈U,c.2∈ks.map (·.1)
 len:ks.length≤U.length
 lnx:∀ k∈ks,k.2.2.length≤U.length
section
variable {H H2:Hp3} {p r:Addr} {ks:List Row} {U:List Pt} {x y:Int}
def rwM (y x:Int) (j:Row):Row:=if j.1 = y then (j.1,j.2.1,j.2.2++[x]) else j
theorem rwM_1 (j:Row):(rwM y x j).1 = j.1:=by unfold rwM; split <;> rfl
theorem rwM_a (j:Row):(rwM y x j).2.1 = j.2.1:=by unfold rwM; split <;> rfl
theorem Rw.more (w:Rw H H2 p ks U) (hr:H2 r = none) {k:Row} (hk:k∈ks) (nc:(x,k.1)∉U):Rw H (upd3 (upd3 H2 r (.lst [])) k.2.1 (.lst (k.2.2.map D.int++[.int x]))) p (ks.map (rwM k.1 x)) (U++[(x,k.1)]):=by
 have e1:(ks.map (rwM k.1 x)).map (·.1) = ks.map (·.1):=by rw [List.map_map]; exact List.map_congr_left fun j _ => rwM_1 j
 have e2:(ks.map (rwM k.1 x)).map (·.2.1) = ks.map (·.2.1):=by rw [List.map_map]; exact List.map_congr_left fun j _ => rwM_a j
 have npk:p≠k.2.1:=fun z => by have:=(w.lst k hk).1; rw [← z,w.dic] at this; cases this
 have old:∀ {b o},H2 b = some o→b≠k.2.1→upd3 (upd3 H2 r (.lst [])) k.2.1 (.lst (k.2.2.map D.int++[.int x])) b = some o:=fun h hn => by rw [upd3_ne hn]; exact upd3_old h hr
 refine ⟨fun b o hb => old (w.sub b o hb) (ne3 hb (w.lst k hk).2),w.new,?_,?_,by rw [e2]; exact w.nda,by rw [e1]; exact w.ndk,?_,?_,?_,?_,?_⟩
 ·rw [old w.dic npk]
  congr 2
  unfold rwT
  rw [List.map_map]
  exact List.map_congr_left fun j _ => by show _ = (Sum.inl (rwM k.1 x j).1,D.ref (rwM k.1 x j).2.1); rw [rwM_1,rwM_a]
 ·intro j' hj'
  (refine Classical.byContradiction fun k_ => ?_; obtain ⟨j,hj,rfl⟩:=List.mem_map.mp hj'; refine k_ ?_; clear k_)
  rw [rwM_a]
  refine ⟨?_,(w.lst j hj).2⟩
  by_cases e:j.1 = k.1
  ·obtain rfl:=nd_one w.ndk hj hk e
   unfold rwM
   rw [upd3_same,if_pos rfl,List.map_append]; rfl
  ·unfold rwM
   rw [if_neg e]
   exact old (w.lst j hj).1 fun z => e (congrArg (·.1) (nd_one w.nda hj hk z))
 ·intro j' hj' x'
  (refine Classical.byContradiction fun k_ => ?_; obtain ⟨j,hj,rfl⟩:=List.mem_map.mp hj'; refine k_ ?_; clear k_)
  rw [rwM_1,List.mem_append,List.mem_singleton,← w.mem j hj x']
  unfold rwM
  by_cases e:j.1 = k.1
  ·rw [if_pos e,List.mem_append,List.mem_singleton,e]
   exact or_congr_right ⟨fun z => by rw [z],fun z => (Prod.mk.inj z).1⟩
  ·rw [if_neg e]
   exact ⟨.inl,fun z => z.elim id fun z => absurd (Prod.mk.inj z).2 e⟩
 ·intro j' hj'
  (refine Classical.byContradiction fun k_ => ?_; obtain ⟨j,hj,rfl⟩:=List.mem_map.mp hj'; refine k_ ?_; clear k_)
  unfold rwM
  by_cases e:j.1 = k.1
  ·rw [if_pos e,List.nodup_append]
   exact ⟨w.ndx j hj,by simp,fun a ha b hb z => by rw [List.mem_singleton.mp hb] at z; rw [z,w.mem j hj,e] at ha; exact nc ha⟩
  ·rw [if_neg e]; exact w.ndx j hj
 ·intro c hc
  rw [e1]
  rcases List.mem_append.mp hc with hc | hc
  ·exact w.all c hc
  ·rw [List.mem_singleton.mp hc]; exact List.mem_map.mpr ⟨k,hk,rfl⟩
 ·rw [List.length_map,List.length_append]; exact Nat.le_trans w.len (Nat.le_add_right ..)
 ·intro j' hj'
  (refine Classical.byContradiction fun k_ => ?_; obtain ⟨j,hj,rfl⟩:=List.mem_map.mp hj'; refine k_ ?_; clear k_)
  have:=w.lnx j hj
  unfold rwM
  split
  ·rw [List.length_append,List.length_append]; exact Nat.add_le_add_right this 1
  ·rw [List.length_append]; exact Nat.le_trans this (Nat.le_add_right ..)
theorem Rw.row (w:Rw H H2 p ks U) (hr:H2 r = none) (hy:∀ k∈ks,k.1≠y):Rw H (upd3 (upd3 (upd3 H2 r (.lst [])) p (.dik (rwT (ks++[(y,r,[x])])))) r (.lst [.int x])) p (ks++[(y,r,[x])]) (U++[(x,y)]):=by
 have npr:p≠r:=ne3 w.dic hr
 have old:∀ {b o},H2 b = some o→b≠p→upd3 (upd3 (upd3 H2 r (.lst [])) p (.dik (rwT (ks++[(y,r,[x])])))) r (.lst [.int x]) b = some o:=fun h hn => by rw [upd3_ne (ne3 h hr),upd3_ne hn]; exact upd3_old h hr
 have nU:∀ x',(x',y)∉U:=fun x' z => by obtain ⟨k,hk,e⟩:=List.mem_map.mp (w.all _ z); exact hy k hk e
 have hr0:H r = none:=sub_back w.sub hr
 refine ⟨fun b o hb => old (w.sub b o hb) (ne3 hb w.new),w.new,by rw [upd3_ne npr,upd3_same],?_,?_,?_,?_,?_,?_,?_,?_⟩
 ·intro k hk
  rcases List.mem_append.mp hk with hk | hk
  ·exact ⟨old (w.lst k hk).1 (fun z => by have:=(w.lst k hk).1; rw [z,w.dic] at this; cases this),(w.lst k hk).2⟩
  ·rw [List.mem_singleton.mp hk]; exact ⟨upd3_same,hr0⟩
 ·rw [List.map_append,List.nodup_append]
  exact ⟨w.nda,by simp,fun a ha b hb z => by
   (refine Classical.byContradiction fun k_ => ?_; obtain ⟨k,hk,rfl⟩:=List.mem_map.mp ha; refine k_ ?_; clear k_)
   rw [List.mem_singleton.mp hb] at z
   exact ne3 (w.lst k hk).1 hr z⟩
 ·rw [List.map_append,List.nodup_append]
  exact ⟨w.ndk,by simp,fun a ha b hb z => by
   (refine Classical.byContradiction fun k_ => ?_; obtain ⟨k,hk,rfl⟩:=List.mem_map.mp ha; refine k_ ?_; clear k_)
   rw [List.mem_singleton.mp hb] at z
   exact hy k hk z⟩
 ·intro k hk x'
  rw [List.mem_append,List.mem_singleton]
  rcases List.mem_append.mp hk with hk | hk
  ·rw [← w.mem k hk x']
   exact ⟨.inl,fun z => z.elim id fun z => absurd (Prod.mk.inj z).2 (hy k hk)⟩
  ·rw [List.mem_singleton.mp hk]
   exact ⟨fun z => .inr (by rw [List.mem_singleton.mp z]),fun z => z.elim (fun z => absurd z (nU x')) fun z => by rw [(Prod.mk.inj z).1]; exact List.mem_singleton.mpr rfl⟩
 ·intro k hk
  rcases List.mem_append.mp hk with hk | hk
  ·exact w.ndx k hk
  ·rw [List.mem_singleton.mp hk]; simp
 ·intro c hc
  rw [List.map_append,List.mem_append]
  rcases List.mem_append.mp hc with hc | hc
  ·exact .inl (w.all c hc)
  ·rw [List.mem_singleton.mp hc]; exact .inr (List.mem_singleton.mpr rfl)
 ·rw [List.length_append,List.length_append]; exact Nat.add_le_add_right w.len 1
 ·intro k hk
  rw [List.length_append]
  rcases List.mem_append.mp hk with hk | hk
  ·exact Nat.le_trans (w.lnx k hk) (Nat.le_add_right ..)
  ·rw [List.mem_singleton.mp hk]; exact Nat.le_add_left ..
theorem Rw.put {tr:TA3} {σ:St3} {Q:VK3} (w:Rw H H2 p ks U) (hr:H2 r = none) (nc:(x,y)∉U) (hl:U.length < 500) (htr:∀ (H3:Hp3) (R:List D→Hp3→Prop),R [.int x] H3→tr σ H3 R) (h:∀ (H3:Hp3) (ks':List Row),Rw H H3 p ks' (U++[(x,y)])→Q .non H3) :
  sdk2 p (.int y) (.ref r) (upd3 H2 r (.lst [])) (fun d H1 => mtk r3app tr σ d H1 Q):=by
 have hkl:=w.len
 refine g_sd2 (upd3_old w.dic hr) (by unfold rwT; rw [List.length_map]; omega) (fun d hd => ?_) fun hn => ?_
 ·(refine Classical.byContradiction fun k_ => ?_; obtain ⟨k,hk,rfl,rfl⟩:=rwT_some hd; refine k_ ?_; clear k_)
  have hk2:upd3 H2 r (.lst []) k.2.1 = some (.lst (k.2.2.map D.int)):=upd3_old (w.lst k hk).1 hr
  have hxl:=w.lnx k hk
  exact g_mtk hk2 (htr _ _ (g_app hk2 (by rw [List.length_map,sizeLine_n]; omega) (h _ _ (w.more hr hk nc))))
 ·have hy:=rwT_none hn
  rw [rwT_put hy [x]]
  have e:upd3 (upd3 H2 r (.lst [])) p (.dik (rwT (ks++[(y,r,[x])]))) r = some (.lst []):=by rw [upd3_ne (ne3 w.dic hr).symm]; exact upd3_same
  exact g_mtk e (htr _ _ (g_app e (by rw [sizeLine_n]; decide) (h _ _ (w.row hr hy))))
theorem Rw.weak {H0:Hp3} (hs:Sub3 H0 H) (w:Rw H H2 p ks U):Rw H0 H2 p ks U:=⟨hs.trans w.sub,sub_back hs w.new,w.dic,fun k hk => ⟨(w.lst k hk).1,sub_back hs (w.lst k hk).2⟩,w.nda,w.ndk,w.mem,w.ndx,w.all,w.len,w.lnx⟩
end
def sp_upright_sides:Sp3:=fun ds H Q => ∃ x y z,ds = [.tup [.int x,.int y],.str z]∧(∃ S t,(z = wStr (wd S (x,y) t)∧t≤400∧(uprs S (x,y) t).Nodup)∧∀ (p:Addr) (H':Hp3) (ks:List Row),Rw H H' p ks (uprs S (x,y) t)→Q (.ref p) H')
theorem u_upright_sides {S:List Pt} {x y:Int} {t:Nat} {H:Hp3} {Q:VK3} (hl:t≤400) (nd:(uprs S (x,y) t).Nodup) (h:∀ (p:Addr) (H':Hp3) (ks:List Row),Rw H H' p ks (uprs S (x,y) t)→Q (.ref p) H'):sp_upright_sides [.tup [.int x,.int y],.str (wStr (wd S (x,y) t))] H Q:=⟨_,_,_,rfl,⟨S,t,⟨rfl,hl,nd⟩,h⟩⟩
theorem uprs_snoc (S:List Pt) (q:Pt) (n:Nat):uprs S q (n + 1) = uprs S q n++(uprA S (itr S q n)).toList:=by
 unfold uprs
 rw [List.range_succ,List.filterMap_append]
 congr 1
theorem uprs_len (S:List Pt) (q:Pt) (n:Nat):(uprs S q n).length≤n:=by
 unfold uprs
 exact Nat.le_trans (List.length_filterMap_le ..) (by rw [List.length_range]; exact Nat.le_refl _)
theorem uprs_pre (S:List Pt) (q:Pt) {i t:Nat} (h:i≤t):uprs S q i <+: uprs S q t:=by
 induction t with
 | zero => rw [Nat.le_zero.mp h]; exact List.prefix_refl _
 | succ t ih =>
  by_cases e:i = t + 1
  ·rw [e]; exact List.prefix_refl _
  ·rw [uprs_snoc]
   exact (ih (by omega)).trans (List.prefix_append ..)
theorem wd_get {S:List Pt} {q:Pt} {t i:Nat} {l:Lt} (h:(wd S q t)[i]? = some l):i < t∧l = ltN (outD S (itr S q i)):=by
 have hi:i < t:=by have:=(List.getElem?_eq_some_iff.mp h).1; rwa [wd_len] at this
 refine ⟨hi,?_⟩
 unfold wd at h
 rw [List.getElem?_map,List.getElem?_range hi,Option.map_some] at h
 exact (Option.some.inj h).symm
theorem ltN_1 {d:Nat} (h:d < 4):ltN d = 1↔d = 1:=by rcases c4 h with rfl | rfl | rfl | rfl <;> decide
theorem ltN_3 {d:Nat} (h:d < 4):ltN d = 3↔d = 3:=by rcases c4 h with rfl | rfl | rfl | rfl <;> decide
theorem len_upright_sides:∀ (ds:List D) (H:Hp3) (Q:VK3),sp_upright_sides ds H Q→ds.length = P_upright_sides.length:=by
 intro ds H Q h
 (refine Classical.byContradiction fun k_ => ?_; obtain ⟨_,_,_,rfl,_⟩:=h; refine k_ ?_; clear k_)
 rfl
def lp_upright_sides_0:TS3:=fo3 (izt (cb3 sp_corners_of (cons3 (v3 0) (cons3 (v3 1) nil3))) (v3 1)) (g2_3 3 4) (sq3 (is3 (ts3 (o3 r3eq (v3 4) (c3 (.str "n")))) (dr3 (m3 r3app (sd3 (v3 2) (o3 r3ix (v3 3) (c3 (.int 1))) (ls3 nil3)) (cons3 (o3 r3ix (v3 3) (c3 (.int 0))) nil3))) nx3)
  (is3 (ts3 (o3 r3eq (v3 4) (c3 (.str "s")))) (dr3 (m3 r3app (sd3 (v3 2) (o3 i3sub (o3 r3ix (v3 3) (c3 (.int 1))) (c3 (.int 1))) (ls3 nil3)) (cons3 (o3 r3ix (v3 3) (c3 (.int 0))) nil3))) nx3))
def t_upright_sides:TS3:=(sq3 (st3 2 dnI)
  (sq3 lp_upright_sides_0
  (rt3 (v3 2))))
theorem rd_upright_sides:∀ (ds:List D) (H:Hp3) (Q:VK3),sp_upright_sides ds H Q→t_upright_sides (fin3 Q) (start3 N_upright_sides ds) H:=by
 intro ds H Q h
 (refine Classical.byContradiction fun k_ => ?_; obtain ⟨x,y,z,rfl,h⟩:=h; refine k_ ?_; clear k_)
 (refine Classical.byContradiction fun k_ => ?_; obtain ⟨S,t,⟨rfl,hl,nd⟩,h⟩:=h; refine k_ ?_; clear k_)
 simp only [t_upright_sides,start3,N_upright_sides,List.map_cons,List.map_nil,List.length_cons,List.length_nil,Nat.reduceAdd,Nat.reduceSub,Nat.zero_add,List.replicate,List.cons_append,List.nil_append]
 walk_at "l3"
 intro p hp
 walk_at "l3"
 unfold lp_upright_sides_0
 walk_at "l3"
 refine u_corners_of _ (by rw [wd_len]; omega) fun p2 hp2 => ?_
 walk_at "l3"
 refine g_ztk upd3_same (asc_w _) ?_
 rw [lets_w,zipD_map]
 have n12:p≠p2:=ne3 upd3_same hp2
 have h20:H p2 = none:=sub_back (Sub3.fresh hp) hp2
 generalize hv:O3.lst ((path (x,y) (wd S (x,y) t)).map prP) = v
 have hs0:Sub3 (upd3 H p2 v) (upd3 (upd3 H p (.dik [])) p2 v):=fun b o hb => by
  by_cases e:b = p2
  ·rw [e,upd3_same] at hb ⊢; exact hb
  ·rw [upd3_ne e] at hb ⊢; exact upd3_old hb hp
 refine Lp.by (fun i σ H2 => (∃ ks,Rw (upd3 H p2 v) H2 p ks (uprs S (x,y) i))∧∃ c d,σ = [some (.tup [.int x,.int y]),some (.str (wStr (wd S (x,y) t))),some (.ref p),c,d]) ⟨⟨[],hs0,by rw [upd3_ne n12]; exact hp,upd3_old upd3_same hp2,by simp,by simp,by simp,by simp,by simp,(fun c hc => by cases hc),by simp,by simp⟩,_,_,rfl⟩ (fun i σ H2 _ z => by obtain ⟨⟨ks,w⟩,_⟩:=z; exact w.sub _ _ upd3_same) ?_ ?_
 ·intro i dd σ H2 hd z_
  (refine Classical.byContradiction fun k_ => ?_; obtain ⟨⟨ks,w⟩,c,d,rfl⟩:=z_; refine k_ ?_; clear k_)
  rw [List.getElem?_map,Option.map_eq_some_iff] at hd
  (refine Classical.byContradiction fun k_ => ?_; obtain ⟨⟨q,l⟩,hq,rfl⟩:=hd; refine k_ ?_; clear k_)
  obtain ⟨e1,e2⟩:=zip_at hq
  obtain ⟨hi,e3⟩:=wd_get e2
  dsimp only at e1 e3
  rw [wd_take S (x,y) (Nat.le_of_lt hi),endp_wd] at e1
  subst e1 e3
  have hd4:=outD_lt (S:=S) (p:=itr S (x,y) i)
  have hul:=uprs_len S (x,y) i
  have ndi:=(uprs_pre S (x,y) (show i + 1≤t from hi)).sublist.nodup nd
  have hsn:=uprs_snoc S (x,y) i
  unfold uprA at hsn
  rw [hsn] at ndi
  unfold prP
  walk_at "l3"
  refine g_eqN ?_
  walk_at "l3"
  refine ifD (fun h1 => ?_) fun h1 => ?_
  ·have h1':=(ltN_1 hd4).mp h1
   rw [if_pos h1'] at hsn ndi
   walk_at "l3"
   refine g_sdk w.dic ?_
   walk_at "l3"
   intro r hr
   walk_at "l3"
   refine w.put hr (fun z => (List.nodup_append.mp ndi).2.2 _ z _ (List.mem_singleton.mpr rfl) rfl) (by omega) (fun H3 R q => by walk_at "l3"; exact q) fun H3 ks' w' => ?_
   walk_at "l3"
   refine g_eqS ?_
   walk_at "l3"
   refine ifD (fun h3 => absurd (h1.symm.trans h3) (by decide)) fun h3 => ?_
   walk_at "l3"
   exact ⟨⟨ks',by rw [hsn]; exact w'⟩,_,_,rfl⟩
  ·have h1':¬ outD S (itr S (x,y) i) = 1:=fun z => h1 ((ltN_1 hd4).mpr z)
   rw [if_neg h1'] at hsn ndi
   walk_at "l3"
   refine g_eqS ?_
   walk_at "l3"
   refine ifD (fun h3 => ?_) fun h3 => ?_
   ·have h3':=(ltN_3 hd4).mp h3
    rw [if_pos h3'] at hsn ndi
    walk_at "l3"
    refine g_sdk w.dic ?_
    walk_at "l3"
    intro r hr
    walk_at "l3"
    refine w.put hr (fun z => (List.nodup_append.mp ndi).2.2 _ z _ (List.mem_singleton.mpr rfl) rfl) (by omega) (fun H3 R q => by walk_at "l3"; exact q) fun H3 ks' w' => ?_
    walk_at "l3"
    exact ⟨⟨ks',by rw [hsn]; exact w'⟩,_,_,rfl⟩
   ·rw [if_neg fun z => h3 ((ltN_3 hd4).mpr z)] at hsn
    walk_at "l3"
    exact ⟨⟨ks,by rw [hsn,show (none:Option Pt).toList = [] from rfl,List.append_nil]; exact w⟩,_,_,rfl⟩
 ·intro σ H2 z_
  (refine Classical.byContradiction fun k_ => ?_; obtain ⟨⟨ks,w⟩,c,d,rfl⟩:=z_; refine k_ ?_; clear k_)
  rw [List.length_map,zip_len,wd_len] at w
  walk_at "l3"
  exact g_fin (h p H2 ks (w.weak (Sub3.fresh h20))) Sub3.refl
def sp_l_is_piece:Sp3:=fun ds H Q => ∃ xs ys,ds = [.tup xs,.tup ys]∧(∃ ps:List Pt,(xs = ps.map prP∧ys = ps.map prP∧ps.length≤1000)∧Q (.bl true) H)
theorem u_l_is_piece {ps:List Pt} {H:Hp3} {Q:VK3} (hl:ps.length≤1000) (h:Q (.bl true) H):sp_l_is_piece [.tup (ps.map prP),.tup (ps.map prP)] H Q:=⟨_,_,rfl,⟨ps,⟨rfl,rfl,hl⟩,h⟩⟩
theorem zip_same {α:Type}:∀ {ts:List α} {p:α×α},p∈ts.zip ts→p.1 = p.2
 | [],p,h => by simp at h
 | t::ts,p,h => by
  rw [List.zip_cons_cons] at h
  rcases List.mem_cons.mp h with rfl | h
  ·rfl
  ·exact zip_same h
theorem len_l_is_piece:∀ (ds:List D) (H:Hp3) (Q:VK3),sp_l_is_piece ds H Q→ds.length = P_l_is_piece.length:=by
 intro ds H Q h
 (refine Classical.byContradiction fun k_ => ?_; obtain ⟨_,_,rfl,_⟩:=h; refine k_ ?_; clear k_)
 rfl
def t_l_is_piece:TS3:=(sq3 (is3 (or3 (no3 (ts3 (cb3 r3isi (cons3 (v3 0) (cons3 (c3 (.ty "tuple")) nil3))))) (ts3 (o3 r3ne (cb3 r3len (cons3 (v3 0) nil3)) (cb3 r3len (cons3 (v3 1) nil3))))) (rt3 (c3 (.bl false))) nx3)
  (rt3 (cb3 r3all (cons3 (cp3 (izU (v3 0) (v3 1)) (g2_3 0 1) yes3 (cb3 sp_l_pair (cons3 (v3 0) (cons3 (v3 1) nil3))) ["_law_one", "_law_other"] []) nil3))))
theorem rd_l_is_piece:∀ (ds:List D) (H:Hp3) (Q:VK3),sp_l_is_piece ds H Q→t_l_is_piece (fin3 Q) (start3 N_l_is_piece ds) H:=by
 intro ds H Q h
 (refine Classical.byContradiction fun k_ => ?_; obtain ⟨_,_,rfl,h⟩:=h; refine k_ ?_; clear k_)
 (refine Classical.byContradiction fun k_ => ?_; obtain ⟨ps,⟨rfl,rfl,hl⟩,h⟩:=h; refine k_ ?_; clear k_)
 simp only [t_l_is_piece,start3,N_l_is_piece,List.map_cons,List.map_nil,List.length_cons,List.length_nil,Nat.reduceAdd,Nat.reduceSub,Nat.zero_add,List.replicate,List.cons_append,List.nil_append]
 walk_at "l3"
 refine ifX rfl ?_
 walk_at "l3"
 refine ifN (fun z => absurd rfl z) fun _ => ?_
 walk_at "l3"
 rw [zipD_map]
 refine Cp.map (fun _ => .bl true) (fun _ _ => trivial) (by rw [List.length_zip]; omega) ?_ ?_
 ·intro i p hp R H2 hs hR
  have e:=zip_same (List.mem_of_getElem? hp)
  obtain ⟨t,u⟩:=p
  have e':t = u:=e
  subst e'
  unfold prP
  walk_at "l3"
  rw [decide_eq_true (by rfl)]
  exact hR H2 Sub3.refl
 intro p1 hp1
 walk_at "l3"
 refine g_tr (bs:=(ps.zip ps).map fun _ => true) (by rw [upd3_same,List.map_map]; rfl) ?_
 rw [show ((ps.zip ps).map fun _ => true).all id = true from by simp]
 exact g_fin h (Sub3.fresh hp1)
theorem rwT_has {ks:List Row} (nd:(ks.map (·.1)).Nodup) {k:Row} (hk:k∈ks):lookI (rwT ks) (.inl k.1) = some (.ref k.2.1):=by
 rw [rwT_look]
 cases h:ks.find? fun j => decide (j.1 = k.1) with
 | none => exact absurd (decide_eq_true rfl) (List.find?_eq_none.mp h k hk)
 | some j =>
  have e:j.1 = k.1:=by simpa using List.find?_some h
  rw [nd_one nd (List.mem_of_find?_eq_some h) hk e]; rfl
theorem fill_app:∀ {l1:List Int} (l2:List Int),l1.length % 2 = 0→fill (l1++l2) = fill l1++fill l2
 | [],_,_ => rfl
 | [_],_,h => by simp at h
 | a::b::r,l2,h => by
  show rgI a b++fill (r++l2) = rgI a b++fill r++fill l2
  rw [fill_app l2 (by simp at h; omega),List.append_assoc]
theorem fill_take {l:List Int} {j:Nat} {a b:Int} (ha:l[2 * j]? = some a) (hb:l[2 * j + 1]? = some b):fill (l.take (2 * (j + 1))) = fill (l.take (2 * j))++rgI a b:=by
 have hl:=(List.getElem?_eq_some_iff.mp hb).1
 rw [show 2 * (j + 1) = 2 * j + 1 + 1 by omega,List.take_add_one,List.take_add_one,ha,hb,List.append_assoc,fill_app _ (by rw [List.length_take]; omega)]
 congr 1
 show rgI a b++[] = rgI a b
 rw [List.append_nil]
theorem fill_sub {l:List Int} (j:Nat) (hj:2 * j≤l.length) {x:Int} (h:x∈fill (l.take (2 * j))):x∈fill l:=by
 have e:=fill_app (l1:=l.take (2 * j)) (l.drop (2 * j)) (by rw [List.length_take]; omega)
 rw [List.take_append_drop] at e
 rw [e]
 exact List.mem_append_left _ h
theorem rgI_len (a b:Int):(rgI a b).length = (b - a).toNat:=by unfold rgI; rw [List.length_map,List.length_range]
theorem row_few {S:List Pt} {y a b:Int} (h:∀ x∈rgI a b,(x,y)∈S):(b - a).toNat≤S.length:=by
 rw [← rgI_len,← List.length_map (f:=fun x => (x,y))]
 refine sub_len ?_ fun c hc => by obtain ⟨x,hx,rfl⟩:=List.mem_map.mp hc; exact h x hx
 rw [List.nodup_iff_pairwise_ne,List.pairwise_map]
 exact (rgI_lt a b).imp fun hlt z => by have:=(Prod.mk.inj z).1; omega
theorem lt_of_le_nd {l:List Int} (h:l.Pairwise (·≤·)) (nd:l.Nodup):l.Pairwise (· < ·):=(h.and (List.nodup_iff_pairwise_ne.mp nd)).imp fun z => by omega
section
variable (G:Hp3) (S:List Pt) (x y:Int) (z:Str) (p p3 p4:Addr) (ms:List Int)
inductive CwA (i:Nat):St3→Hp3→Prop
 | mk {H2:Hp3} (rws:List (Int×List Int)) (a b c:Option D) (sb:Sub3 G H2) (k4:H2 p4 = some (.lst (ms.map D.int))) (h1:rws.map (·.1) = ms.take i) (h2:∀ v∈rws,v.2.Pairwise (· < ·)∧∀ x',x'∈v.2↔Upr S x' v.1) (h3:H2 p3 = some (.lst (((rws.map rwC).flatten).map prP))) (h4:((rws.map rwC).flatten).length≤i * 10000):CwA i [some (.tup [.int x,.int y]),some (.str z),some (.ref p),some (.ref p3),a,b,c] H2
inductive CwB (cs:List Pt) (m:Int) (xs:List Int) (p5:Addr) (j:Nat):St3→Hp3→Prop
 | mk {H3:Hp3} (c:Option D) (sb:Sub3 G H3) (k4:H3 p4 = some (.lst (ms.map D.int))) (k5:H3 p5 = some (.lst (xs.map D.int))) (k3:H3 p3 = some (.lst ((cs++(fill (xs.take (2 * j))).map fun x' => (x',m)).map prP))) (kl:(fill (xs.take (2 * j))).length≤j * 100):CwB cs m xs p5 j [some (.tup [.int x,.int y]),some (.str z),some (.ref p),some (.ref p3),some (.int m),some (.ref p5),c] H3
end
def sp_cells_within:Sp3:=fun ds H Q => ∃ x y z,ds = [.tup [.int x,.int y],.str z]∧(∃ S t,(z = wStr (wd S (x,y) t)∧t≤60∧Dg S∧S.Nodup∧S.length≤100∧Crn S (x,y)∧Rnd S (x,y) t)∧∀ p,H p = none→Q (.ref p) (upd3 H p (.lst ((isort S).map prP))))
theorem u_cells_within {S:List Pt} {x y:Int} {t:Nat} {H:Hp3} {Q:VK3} (hl:t≤60) (g:Dg S) (nd:S.Nodup) (hS:S.length≤100) (hcr:Crn S (x,y)) (r:Rnd S (x,y) t) (h:∀ p,H p = none→Q (.ref p) (upd3 H p (.lst ((isort S).map prP)))):sp_cells_within [.tup [.int x,.int y],.str (wStr (wd S (x,y) t))] H Q:=⟨_,_,_,rfl,⟨S,t,⟨rfl,hl,g,nd,hS,hcr,r⟩,h⟩⟩
theorem len_cells_within:∀ (ds:List D) (H:Hp3) (Q:VK3),sp_cells_within ds H Q→ds.length = P_cells_within.length:=by
 intro ds H Q h
 (refine Classical.byContradiction fun k_ => ?_; obtain ⟨_,_,_,rfl,_⟩:=h; refine k_ ?_; clear k_)
 rfl
def lp_cells_within_0:TS3:=fo3 (iru (c3 (.int 0)) (cb3 r3len (cons3 (v3 5) nil3)) (c3 (.int 2))) (gn3 6) (dr3 (m3 r3ext (v3 3) (cons3 (cp3 (ir2 (o3 r3ix (v3 5) (v3 6)) (o3 r3ix (v3 5) (o3 r3add (v3 6) (c3 (.int 1))))) (gn3 0) yes3 (tp3 (cons3 (v3 0) (cons3 (v3 1) nil3))) ["x"] [(4, "y")]) nil3)))
def lp_cells_within_1:TS3:=fo3 (il3 (cb3 r3sortD (cons3 (v3 2) nil3))) (gn3 4) (sq3 (st3 5 (cb3 r3sortI (cons3 (gi3 (v3 2) (v3 4)) nil3)))
  lp_cells_within_0)
def t_cells_within:TS3:=(sq3 (st3 2 (cb3 sp_upright_sides (cons3 (v3 0) (cons3 (v3 1) nil3))))
  (sq3 (st3 3 (ls3 nil3))
  (sq3 lp_cells_within_1
  (rt3 (v3 3)))))
theorem rd_cells_within:∀ (ds:List D) (H:Hp3) (Q:VK3),sp_cells_within ds H Q→t_cells_within (fin3 Q) (start3 N_cells_within ds) H:=by
 intro ds H Q h
 (refine Classical.byContradiction fun k_ => ?_; obtain ⟨x,y,z,rfl,h⟩:=h; refine k_ ?_; clear k_)
 (refine Classical.byContradiction fun k_ => ?_; obtain ⟨S,t,⟨rfl,hl,g,nd,hS,hcr,r⟩,h⟩:=h; refine k_ ?_; clear k_)
 have hmu:=fun c:Pt => mem_uprs g hcr r (c:=c)
 have hul:=uprs_len S (x,y) t
 simp only [t_cells_within,start3,N_cells_within,List.map_cons,List.map_nil,List.length_cons,List.length_nil,Nat.reduceAdd,Nat.reduceSub,Nat.zero_add,List.replicate,List.cons_append,List.nil_append]
 walk_at "l3"
 refine u_upright_sides (by omega) (uprs_nd hcr r) fun p G ks w => ?_
 have hkl:=w.len
 walk_at "l3"
 intro p3 hp3
 walk_at "l3"
 unfold lp_cells_within_1
 walk_at "l3"
 refine g_sortD (ns:=ks.map (·.1)) (upd3_old w.dic hp3) (by unfold rwT; rw [List.map_map,List.map_map]; rfl) (by rw [List.length_map]; omega) fun ms p4 hpm hpw hp4 => ?_
 have n34:p3≠p4:=ne3 upd3_same hp4
 have h4:G p4 = none:=sub_back (Sub3.fresh hp3) hp4
 have hmn:ms.Nodup:=hpm.nodup_iff.mpr w.ndk
 have hml:ms.length≤60:=by rw [hpm.length_eq,List.length_map]; omega
 walk_at "l3"
 refine Lp.by (CwA G S x y _ p p3 p4 ms) (.mk [] _ _ _ ((Sub3.fresh hp3).trans (Sub3.fresh hp4)) upd3_same rfl (by simp) (upd3_old upd3_same hp4) (Nat.zero_le _)) (fun i σ H2 _ z => by cases z with | mk _ _ _ _ _ k4 => exact k4) ?_ ?_
 ·intro i d σ H2 hd z_
  (refine Classical.byContradiction fun k_ => ?_; obtain ⟨rws,a,b,c,hs,k4,hr1,hr2,k3,hrl⟩:=z_; refine k_ ?_; clear k_)
  rw [List.getElem?_map] at hd
  (refine Classical.byContradiction fun k_ => ?_; obtain ⟨m,hm,rfl⟩:=Option.map_eq_some_iff.mp hd; refine k_ ?_; clear k_)
  have hi:=(List.getElem?_eq_some_iff.mp hm).1
  (refine Classical.byContradiction fun k_ => ?_; obtain ⟨k,hk,rfl⟩:=List.mem_map.mp (hpm.mem_iff.mp (List.mem_of_getElem? hm)); refine k_ ?_; clear k_)
  have hkx:=w.lnx k hk
  walk_at "l3"
  refine g_gik (hs _ _ w.dic) (rwT_has w.ndk hk) ?_
  walk_at "l3"
  refine g_sortI (hs _ _ (w.lst k hk).1) (by omega) fun xs p5 hxp hxw hp5 => ?_
  have hxl:xs.length≤60:=by rw [hxp.length_eq]; omega
  have hx1:=lt_of_le_nd hxw (hxp.nodup_iff.mpr (w.ndx k hk))
  have hx2:∀ x',x'∈xs↔Upr S x' k.1:=fun x' => by rw [hxp.mem_iff,w.mem k hk,hmu]
  (refine Classical.byContradiction fun k_ => ?_; obtain ⟨hev,hfm,hfl⟩:=row_fill hx1 hx2; refine k_ ?_; clear k_)
  have n35:p3≠p5:=ne3 k3 hp5
  have n45:p4≠p5:=ne3 k4 hp5
  have h5:G p5 = none:=sub_back hs hp5
  walk_at "l3"
  unfold lp_cells_within_0
  walk_at "l3"
  rw [List.length_map,show ((((xs.length:Nat):Int) - 0 + 1) / 2).toNat = xs.length / 2 by omega]
  refine Lp.by (CwB G x y _ p p3 p4 ms (rws.map rwC).flatten k.1 xs p5) (.mk _ (hs.trans (Sub3.fresh hp5)) (upd3_old k4 hp5) upd3_same (by rw [upd3_old k3 hp5]; show _ = some (O3.lst ((_++[]).map prP)); rw [List.append_nil]) (Nat.zero_le _)) (fun _ _ _ _ _ => trivial) ?_ ?_
  ·intro j d σ H3 hd z_
   (refine Classical.byContradiction fun k_ => ?_; obtain ⟨c,hs3,j4,j5,j3,jl⟩:=z_; refine k_ ?_; clear k_)
   have hj:j < xs.length / 2:=by have:=(List.getElem?_eq_some_iff.mp hd).1; rwa [ung_len] at this
   rw [ung_get hj] at hd
   cases hd
   have ha:xs[2 * j]? = some xs[2 * j]:=List.getElem?_eq_getElem (by omega)
   have hb:xs[2 * j + 1]? = some xs[2 * j + 1]:=List.getElem?_eq_getElem (by omega)
   generalize xs[2 * j] = u at ha
   generalize xs[2 * j + 1] = v at hb
   have hft:=fill_take ha hb
   have hfew:(v - u).toNat≤S.length:=row_few fun x' hx' => (hfm x').mp (fill_sub (j + 1) (by omega) (by rw [hft]; exact List.mem_append_right _ hx'))
   have at_:∀ (q:Nat) (e:Int),xs[q]? = some e→atI (xs.map D.int) (q:Int) = some (.int e):=fun q e he => by
    have:=(List.getElem?_eq_some_iff.mp he).1
    unfold atI ixN
    rw [List.length_map,if_pos (by omega),if_pos (by omega),Option.bind_some,List.getElem?_map,Int.toNat_natCast,he]; rfl
   walk_at "l3"
   refine g_ixL j5 (i:=0 + 2 * (j:Int)) (by rw [show (0 + 2 * (j:Int)) = ((2 * j:Nat):Int) by omega]; exact at_ _ _ ha) ?_
   walk_at "l3"
   refine g_ixL j5 (i:=0 + 2 * (j:Int) + 1) (by rw [show (0 + 2 * (j:Int) + 1) = ((2 * j + 1:Nat):Int) by omega]; exact at_ _ _ hb) ?_
   walk_at "l3"
   refine Cp.rng (fun e => .tup [.int (u + (e:Int)),.int k.1]) (by omega) ?_ ?_
   ·intro e he R H4 hs4 hR
    walk_at "l3"
    exact hR H4 Sub3.refl
   intro p6 hp6
   have n36:p3≠p6:=ne3 j3 hp6
   walk_at "l3"
   refine g_ext (upd3_old j3 hp6) upd3_same (by rw [List.length_map,List.length_append,List.length_map,List.length_map,List.length_range,sizeLine_n]; omega) ?_
   walk_at "l3"
   refine .mk _ (fun q o hq => by rw [upd3_ne (ne3 hq hp3)]; exact upd3_old (hs3 q o hq) hp6) (by rw [upd3_ne n34.symm]; exact upd3_old j4 hp6) (by rw [upd3_ne n35.symm]; exact upd3_old j5 hp6) ?_ ?_
   ·rw [upd3_same,hft]
    unfold rgI
    simp only [List.map_append,List.map_map,List.append_assoc]
    rfl
   ·rw [hft,List.length_append,rgI_len]; omega
  ·intro σ H3 z_
   (refine Classical.byContradiction fun k_ => ?_; obtain ⟨c,hs3,j4,j5,j3,jl⟩:=z_; refine k_ ?_; clear k_)
   rw [ung_len,List.take_of_length_le (by omega)] at j3 jl
   walk_at "l3"
   have efl:((rws++[(k.1,xs)]).map rwC).flatten = (rws.map rwC).flatten++(fill xs).map fun x' => (x',k.1):=by
    rw [List.map_append,List.flatten_append]
    congr 1
    show [rwC (k.1,xs)].flatten = _
    rw [List.flatten_singleton]; rfl
   refine .mk (rws++[(k.1,xs)]) _ _ _ hs3 j4 ?_ ?_ ?_ ?_
   ·rw [List.map_append,hr1,List.take_add_one,hm]; rfl
   ·intro v hv
    rcases List.mem_append.mp hv with hv | hv
    ·exact hr2 v hv
    ·rw [List.mem_singleton.mp hv]; exact ⟨hx1,hx2⟩
   ·rw [efl]; exact j3
   ·rw [efl,List.length_append,List.length_map]; omega
 ·intro σ H2 z_
  (refine Classical.byContradiction fun k_ => ?_; obtain ⟨rws,a,b,c,hs,k4,hr1,hr2,k3,hrl⟩:=z_; refine k_ ?_; clear k_)
  rw [List.length_map,List.take_of_length_le (Nat.le_refl _)] at hr1
  have ok:RwOk S rws:=⟨by rw [← List.pairwise_map (f:=fun v:Int×List Int => v.1) (R:=(· < ·)),hr1]; exact lt_of_le_nd hpw hmn,fun v hv => (hr2 v hv).1,fun v hv => (hr2 v hv).2,fun x' y' hu => by
   have h1:=w.all _ ((hmu (x',y')).mpr hu)
   rw [← hpm.mem_iff,← hr1] at h1
   (refine Classical.byContradiction fun k_ => ?_; obtain ⟨v,hv,e⟩:=List.mem_map.mp h1; refine k_ ?_; clear k_)
   exact ⟨v,hv,e⟩⟩
  rw [rows_isort nd ok] at k3
  walk_at "l3"
  refine g_fin (h p3 (sub_back w.sub hp3)) fun q o hq => ?_
  by_cases e:q = p3
  ·rw [e,upd3_same] at hq; rw [e,k3]; exact hq
  ·rw [upd3_ne e] at hq; exact hs _ _ (w.sub _ _ hq)
def shfP (s:Pt) (p:Pt):Pt:=(p.1 + s.1,p.2 + s.2)
def pcs (s:Pt) (ps:List Pt):List Pt:=isort (ps.map (shfP s))
def sp_l_piece:Sp3:=fun ds H Q => ∃ a sx sy,ds = [.ref a,.tup [.int sx,.int sy]]∧(∃ (ps:List Pt) (T:Addr),(H a = some (.lst (ps.map prP))∧ps.length≤60∧H T = some (.tab "_law_piece"))∧∀ o:O3,Q (.tup ((pcs (sx,sy) ps).map prP)) (upd3 H T o))
theorem u_l_piece {ps:List Pt} {a T:Addr} {sx sy:Int} {H:Hp3} {Q:VK3} (ha:H a = some (.lst (ps.map prP))) (hl:ps.length≤60) (hT:H T = some (.tab "_law_piece")) (h:∀ o:O3,Q (.tup ((pcs (sx,sy) ps).map prP)) (upd3 H T o)):sp_l_piece [.ref a,.tup [.int sx,.int sy]] H Q:=⟨_,_,_,rfl,⟨ps,T,⟨ha,hl,hT⟩,h⟩⟩
theorem sub_tab {H:Hp3} {p q T:Addr} {o u v w0:O3} (hp:H p = none) (hT:H T = some w0) (hq0:upd3 H p u q = none):Sub3 (upd3 H T o) (upd3 (upd3 (upd3 H p u) T o) q v):=by
 have hq:upd3 (upd3 H p u) T o q = none:=by
  by_cases z:q = T
  ·rw [z,upd3_old hT hp] at hq0; cases hq0
  ·rw [upd3_ne z]; exact hq0
 intro b w e
 have hb:upd3 (upd3 H p u) T o b = some w:=by
  by_cases z:b = T
  ·rw [z,upd3_same] at e ⊢; exact e
  ·rw [upd3_ne z] at e ⊢; exact upd3_old e hp
 exact upd3_old hb hq
theorem len_l_piece:∀ (ds:List D) (H:Hp3) (Q:VK3),sp_l_piece ds H Q→ds.length = P_l_piece.length:=by
 intro ds H Q h
 (refine Classical.byContradiction fun k_ => ?_; obtain ⟨_,_,_,rfl,_⟩:=h; refine k_ ?_; clear k_)
 rfl
def t_l_piece:TS3:=(sq3 (st3 2 (cp3 (il3 (v3 0)) (gn3 0) yes3 (tp3 (cons3 (o3 r3add (o3 r3ix (v3 0) (c3 (.int 0))) (o3 r3ix (v3 1) (c3 (.int 0)))) (cons3 (o3 r3add (o3 r3ix (v3 0) (c3 (.int 1))) (o3 r3ix (v3 1) (c3 (.int 1)))) nil3))) ["_law_cell"] [(1, "_law_shift")]))
  (rt3 (cb3 r3tuple (cons3 (soL "_law_piece" 163 46 (v3 2)) nil3))))
theorem rd_l_piece:∀ (ds:List D) (H:Hp3) (Q:VK3),sp_l_piece ds H Q→t_l_piece (fin3 Q) (start3 N_l_piece ds) H:=by
 intro ds H Q h
 (refine Classical.byContradiction fun k_ => ?_; obtain ⟨a,sx,sy,rfl,h⟩:=h; refine k_ ?_; clear k_)
 (refine Classical.byContradiction fun k_ => ?_; obtain ⟨ps,T,⟨ha,hl,hT⟩,h⟩:=h; refine k_ ?_; clear k_)
 simp only [t_l_piece,start3,N_l_piece,List.map_cons,List.map_nil,List.length_cons,List.length_nil,Nat.reduceAdd,Nat.reduceSub,Nat.zero_add,List.replicate,List.cons_append,List.nil_append]
 walk_at "l3"
 refine Cp.map (E:=prP) (as:=ps) (fun p => prP (shfP (sx,sy) p)) (fun H2 hs2 => hs2 _ _ ha) (by omega) ?_ ?_
 ·intro i c hc R H2 hs2 hR
  unfold prP
  walk_at "l3"
  exact hR H2 Sub3.refl
 intro p hp
 walk_at "l3"
 refine g_sokL (T:=T) (ps:=ps.map (shfP (sx,sy))) (by rw [upd3_same,List.map_map]; rfl) (by rw [List.length_map]; omega) (.inl (upd3_old hT hp)) fun q hq => ?_
 walk_at "l3"
 exact g_fin (h _) (sub_tab hp hT hq)
def sp_inside_of:Sp3:=fun ds H Q => ∃ x y z,ds = [.tup [.int x,.int y],.str z]∧(∃ S t,(z = wStr (wd S (x,y) t)∧t≤60∧Dg S∧S.Nodup∧(S≠[]∧S.length≤10)∧Crn S (x,y)∧Rnd S (x,y) t)∧Q (.tup ((isort S).map prP)) H)
theorem u_inside_of {S:List Pt} {x y:Int} {t:Nat} {H:Hp3} {Q:VK3} (hl:t≤60) (g:Dg S) (nd:S.Nodup) (hn:S≠[]) (hS:S.length≤10) (hcr:Crn S (x,y)) (r:Rnd S (x,y) t) (h:Q (.tup ((isort S).map prP)) H):sp_inside_of [.tup [.int x,.int y],.str (wStr (wd S (x,y) t))] H Q:=⟨_,_,_,rfl,⟨S,t,⟨rfl,hl,g,nd,⟨hn,hS⟩,hcr,r⟩,h⟩⟩
theorem endp_mv (c d:Pt) (ls:List Lt):endp (adp d c) ls = adp d (endp c ls):=by
 induction ls generalizing c with
 | nil => rfl
 | cons l ls ih =>
  show endp (adp (step l) (adp d c)) ls = adp d (endp (adp (step l) c) ls)
  rw [← ih]
  congr 1
  exact Prod.ext (by show c.1 + d.1 + (step l).1 = c.1 + (step l).1 + d.1; omega) (by show c.2 + d.2 + (step l).2 = c.2 + (step l).2 + d.2; omega)
theorem endp_zero (q:Pt) (ls:List Lt):endp q ls = adp q (endp (0,0) ls):=by
 rw [← endp_mv]
 congr 1
 exact Prod.ext (by show q.1 = 0 + q.1; omega) (by show q.2 = 0 + q.2; omega)
theorem len_inside_of:∀ (ds:List D) (H:Hp3) (Q:VK3),sp_inside_of ds H Q→ds.length = P_inside_of.length:=by
 intro ds H Q h
 (refine Classical.byContradiction fun k_ => ?_; obtain ⟨_,_,_,rfl,_⟩:=h; refine k_ ?_; clear k_)
 rfl
def t_inside_of:TS3:=(sq3 (dr3 (cb3 sp_check_letters (cons3 (v3 1) nil3)))
  (sq3 (st3 2 (cb3 sp_way_of (cons3 (v3 1) nil3)))
  (sq3 (is3 (ts3 (o3 r3ne (v3 2) (tp3 (cons3 (c3 (.int 0)) (cons3 (c3 (.int 0)) nil3))))) ra3 nx3)
  (sq3 (dr3 (cb3 sp_check_crossings (cons3 (v3 1) nil3)))
  (sq3 (st3 3 (cb3 sp_area_of (cons3 (v3 1) nil3)))
  (sq3 (is3 (ts3 (o3 i3le (v3 3) (c3 (.int 0)))) ra3 nx3)
  (sq3 (is3 (ts3 (o3 i3gt (v3 3) (c3 (.int 10)))) ra3 nx3)
  (rt3 (cb3 r3tuple (cons3 (cb3 sp_cells_within (cons3 (v3 0) (cons3 (v3 1) nil3))) nil3))))))))))
theorem rd_inside_of:∀ (ds:List D) (H:Hp3) (Q:VK3),sp_inside_of ds H Q→t_inside_of (fin3 Q) (start3 N_inside_of ds) H:=by
 intro ds H Q h
 (refine Classical.byContradiction fun k_ => ?_; obtain ⟨x,y,z,rfl,h⟩:=h; refine k_ ?_; clear k_)
 (refine Classical.byContradiction fun k_ => ?_; obtain ⟨S,t,⟨rfl,hl,g,nd,⟨hn,hS⟩,hcr,r⟩,h⟩:=h; refine k_ ?_; clear k_)
 have hwl:=wd_len S (x,y) t
 have hne:wd S (x,y) t≠[]:=fun z => by rw [z] at hwl; have:=r.pos; rw [← hwl] at this; exact absurd this (Nat.lt_irrefl _)
 have hend:endp (0,0) (wd S (x,y) t) = (0,0):=by
  have:=endp_zero (x,y) (wd S (x,y) t)
  rw [endp_wd,r.back] at this
  have e1:x = (endp (0,0) (wd S (x,y) t)).1 + x:=congrArg Prod.fst this
  have e2:y = (endp (0,0) (wd S (x,y) t)).2 + y:=congrArg Prod.snd this
  exact Prod.ext (by show _ = (0:Int); omega) (by show _ = (0:Int); omega)
 have hinj:∀ i j,i < j→j < (wd S (x,y) t).length→endp (0,0) ((wd S (x,y) t).take i)≠endp (0,0) ((wd S (x,y) t).take j):=fun i j hij hj e => by
  rw [hwl] at hj
  refine r.inj i j hij hj ?_
  rw [← endp_wd,← endp_wd,← wd_take S (x,y) (Nat.le_of_lt hj),← wd_take S (x,y) (Nat.le_of_lt (Nat.lt_trans hij hj)),endp_zero,e,← endp_zero]
 have har:ar (0,0) (wd S (x,y) t) = S.length:=by
  have:=ar_from (x,y) (wd S (x,y) t)
  rw [area_len g nd hcr r,hend,Int.mul_zero,Int.add_zero] at this
  exact this.symm
 have hS0:0 < S.length:=List.length_pos_iff.mpr hn
 simp only [t_inside_of,start3,N_inside_of,List.map_cons,List.map_nil,List.length_cons,List.length_nil,Nat.reduceAdd,Nat.reduceSub,Nat.zero_add,List.replicate,List.cons_append,List.nil_append]
 walk_at "l3"
 refine u_check_letters hne (by omega) ?_
 walk_at "l3"
 refine u_way_of _ (by omega) ?_
 rw [hend]
 walk_at "l3"
 refine ifN (fun z => absurd rfl z) fun _ => ?_
 walk_at "l3"
 refine u_check_crossings hne (by omega) hinj ?_
 walk_at "l3"
 refine u_area_of _ (by omega) ?_
 rw [har]
 walk_at "l3"
 refine ifD (fun z => absurd z (by omega)) fun _ => ?_
 walk_at "l3"
 refine ifD (fun z => absurd z (by omega)) fun _ => ?_
 walk_at "l3"
 refine u_cells_within hl g nd (by omega) hcr r fun p hp => ?_
 walk_at "l3"
 exact g_fin h (Sub3.fresh hp)
def sp_law:Sp3:=fun ds H Q => ∃ xs,ds = [.fl xs]∧((match intsOf xs with
  | some ns => (ns.length≤63∧∃ T,H T = some (.tab "_law_piece"))∧∀ H':Hp3,Q (.bl true) H'
  | none => False))
theorem begin_law {ns:List Int} {T:Addr} {H:Hp3} (h:ns.length≤63) (hT:H T = some (.tab "_law_piece")):sp_law [.fl (ns.map D.int)] H (fun d _ => d = .bl true):=by
 refine ⟨_,rfl,?_⟩
 simp only [intsOf_map]
 exact ⟨⟨h,T,hT⟩,fun _ => trivial⟩
theorem pcs_first {ps:List Pt} (s:Pt) (g:One ps) (hn:ps≠[]):∃ s0,(pcs s ps)[0]? = some s0∧One (pcs s ps)∧Crn (pcs s ps) s0:=by
 have o:=(g.mv s).congr (T:=pcs s ps) fun x => ((isort_perm (ps.map (shfP s))).mem_iff (a:=x)).symm
 have hs:=isort_sorted (ps.map (shfP s))
 have hl:=isort_len (ps.map (shfP s))
 have e:pcs s ps = isort (ps.map (shfP s)):=rfl
 rw [← e] at hs hl
 cases h:pcs s ps with
 | nil => rw [h,List.length_map] at hl; exact absurd (List.eq_nil_of_length_eq_zero hl.symm) hn
 | cons m r =>
  rw [h] at o hs
  refine ⟨m,rfl,o,0,by omega,List.mem_cons_self,fun z => ?_⟩
  rw [rgt0] at z
  rcases List.mem_cons.mp z with z | z
  ·have:=congrArg Prod.snd z; dsimp only at this; omega
  ·have:=(List.pairwise_cons.mp hs).1 _ z
   unfold leP at this
   rw [ltc_false] at this
   dsimp only at this
   omega
theorem pcs_len (s:Pt) (ps:List Pt):(pcs s ps).length = ps.length:=by unfold pcs; rw [isort_len,List.length_map]
theorem pcs_nodup {s:Pt} {ps:List Pt} (h:ps.Nodup):(pcs s ps).Nodup:=by
 unfold pcs
 rw [(isort_perm _).nodup_iff]
 rw [List.nodup_iff_pairwise_ne] at h ⊢
 rw [List.pairwise_map]
 refine h.imp fun {p q} hn z => hn ?_
 have z1:p.1 + s.1 = q.1 + s.1:=congrArg Prod.fst z
 have z2:p.2 + s.2 = q.2 + s.2:=congrArg Prod.snd z
 exact Prod.ext (by omega) (by omega)
theorem isort_pcs (s:Pt) (ps:List Pt):isort (pcs s ps) = pcs s ps:=isort_of (List.Perm.refl _) (isort_sorted _)
theorem py_bd {a b:Int} {w:List Lt} {H:Hp3}:pyH H (.tup [.tup [.int a,.int b],.str (wStr w)]) = some (.tuple [.tuple [.int a,.int b],.str (wStr w)]):=by
 show (mapO (pyN 4) [D.tup [.int a,.int b],.str (wStr w)]).map PyData.tuple = _
 simp [mapO,pyN,strOk_w]
theorem g_eqBd {a b:Int} {w:List Lt} {H:Hp3} {Q:VK3} (q:Q (.bl true) H):r3eq (.tup [.tup [.int a,.int b],.str (wStr w)]) (.tup [.tup [.int a,.int b],.str (wStr w)]) H Q:=by
 unfold r3eq
 rw [py_bd]
 show Q (.bl (PyData.eqv _ _)) H
 rw [show PyData.eqv (.tuple [.tuple [.int a,.int b],.str (wStr w)]) (.tuple [.tuple [.int a,.int b],.str (wStr w)]) = true from by simp [PyData.eqv,PyData.eqvAll]]
 exact q
theorem len_law:∀ (ds:List D) (H:Hp3) (Q:VK3),sp_law ds H Q→ds.length = P_law.length:=by
 intro ds H Q h
 (refine Classical.byContradiction fun k_ => ?_; obtain ⟨_,rfl,_⟩:=h; refine k_ ?_; clear k_)
 rfl
def t_law:TS3:=(sq3 (st3 1 (cb3 sp_l_grown (cons3 (v3 0) (cons3 (c3 (.int 3)) (cons3 (o3 r3add (c3 (.int 1)) (o3 i3mod (cb3 sp_l_cell_at (cons3 (v3 0) (cons3 (c3 (.int 0)) nil3))) (c3 (.int 10)))) nil3)))))
  (sq3 (st3 2 (cb3 sp_l_piece (cons3 (v3 1) (cons3 (cb3 sp_l_corner (cons3 (cb3 sp_l_cell_at (cons3 (v3 0) (cons3 (c3 (.int 1)) nil3))) (cons3 (cb3 sp_l_cell_at (cons3 (v3 0) (cons3 (c3 (.int 2)) nil3))) nil3))) nil3))))
  (sq3 (as3 (cb3 sp_border_of (cons3 (v3 2) nil3)) (g2_3 3 4))
  (sq3 (is3 (no3 (ts3 (cb3 sp_l_is_piece (cons3 (cb3 sp_inside_of (cons3 (v3 3) (cons3 (v3 4) nil3))) (cons3 (v3 2) nil3))))) (rt3 (c3 (.bl false))) nx3)
  (sq3 (st3 5 (o3 i3mod (o3 i3divW (cb3 sp_l_cell_at (cons3 (v3 0) (cons3 (c3 (.int 0)) nil3))) (c3 (.int 10))) (o3 r3add (cb3 r3len (cons3 (v3 4) nil3)) (c3 (.int 1)))))
  (sq3 (st3 6 (cb3 sp_inside_of (cons3 (o3 r3ix (cb3 sp_corners_of (cons3 (v3 3) (cons3 (v3 4) nil3))) (v3 5)) (cons3 (cb3 sp_begun_at (cons3 (v3 4) (cons3 (v3 5) nil3))) nil3))))
  (rt3 (av3 (cb3 sp_l_is_piece (cons3 (v3 6) (cons3 (v3 2) nil3))) (o3 r3eq (cb3 sp_border_of (cons3 (v3 6) nil3)) (tp3 (cons3 (v3 3) (cons3 (v3 4) nil3))))))))))))
theorem rd_law:∀ (ds:List D) (H:Hp3) (Q:VK3),sp_law ds H Q→t_law (fin3 Q) (start3 N_law ds) H:=by
 intro ds H Q h
 (refine Classical.byContradiction fun k_ => ?_; obtain ⟨xs,rfl,h⟩:=h; refine k_ ?_; clear k_)
 split at h
 case h_2 => exact h.elim
 rename_i ns e
 have e':=intsOf_inv e
 subst e'
 (refine Classical.byContradiction fun k_ => ?_; obtain ⟨⟨hl,T,hT⟩,h⟩:=h; refine k_ ?_; clear k_)
 simp only [t_law,start3,N_law,List.map_cons,List.map_nil,List.length_cons,List.length_nil,Nat.reduceAdd,Nat.reduceSub,Nat.zero_add,List.replicate,List.cons_append,List.nil_append]
 walk_at "l3"
 refine u_l_grown hl ⟨by decide,by decide⟩ ⟨by omega,by omega⟩ fun ps p hp gw hpl sc => ?_
 walk_at "l3"
 refine u_l_corner fun x y => ?_
 walk_at "l3"
 refine u_l_piece upd3_same (by omega) (upd3_old hT hp) fun o => ?_
 have hne:=List.ne_nil_of_mem gw.z
 have hon:One ps:=Sc.one ps.length (Nat.le_refl _) hne sc
 (refine Classical.byContradiction fun k_ => ?_; obtain ⟨s0,h0,hO,hcr⟩:=pcs_first (x,y) hon hne; refine k_ ?_; clear k_)
 have hlS:(pcs (x,y) ps).length≤10:=by rw [pcs_len]; omega
 have nd0:(pcs (x,y) ps).Nodup:=pcs_nodup gw.nd
 have e0:pcs (x,y) ps≠[]:=fun z => by rw [z] at h0; cases h0
 have is0:=isort_pcs (x,y) ps
 generalize pcs (x,y) ps = S at *
 walk_at "l3"
 refine u_border_of h0 (by omega) hO hcr fun t r _ => ?_
 have htl:t≤40:=by have:=r.few hO.dg nd0 hcr; omega
 have htp:=r.pos
 have hwl:=wd_len S s0 t
 walk_at "l3"
 refine u_inside_of (by omega) hO.dg nd0 e0 hlS hcr r ?_
 rw [is0]
 walk_at "l3"
 refine u_l_is_piece (by omega) ?_
 walk_at "l3"
 refine ifX rfl ?_
 walk_at "l3"
 refine g_lenW (by omega) ?_
 rw [hwl]
 walk_at "l3"
 obtain ⟨pl,hpe⟩:=Int.eq_ofNat_of_zero_le (Int.emod_nonneg (cat ns (Int.toNat 0) / 10) (b:=(t:Int) + 1) (by omega))
 have hplt:pl≤t:=by have:=Int.emod_lt_of_pos (cat ns (Int.toNat 0) / 10) (b:=(t:Int) + 1) (by omega); omega
 rw [hpe]
 have at_:atI ((path (s0.1,s0.2) (wd S s0 t)).map prP) (pl:Int) = some (.tup [.int (itr S s0 pl).1,.int (itr S s0 pl).2]):=by
  unfold atI ixN
  rw [List.length_map,path_len,hwl,if_pos (by omega),if_pos (by omega),Option.bind_some,List.getElem?_map,Int.toNat_natCast,path_get,if_pos (by omega),wd_take _ _ hplt,endp_wd]
  rfl
 refine u_corners_of _ (by omega) fun p2 hp2 => ?_
 walk_at "l3"
 refine g_ixL upd3_same at_ ?_
 have rq:=r.at hO nd0 hcr pl
 have hcq:=crn_itr hcr pl
 have hbeg:beg (wd S s0 t) pl = _:=wd_beg r.back hplt
 generalize itr S s0 pl = q at rq hcq hbeg
 walk_at "l3"
 refine u_begun_at _ (by omega) (by omega) (by omega) ?_
 rw [Int.toNat_natCast,hbeg]
 walk_at "l3"
 refine u_inside_of (by omega) hO.dg nd0 e0 hlS hcq rq ?_
 rw [is0]
 walk_at "l3"
 refine u_l_is_piece (by omega) ?_
 walk_at "l3"
 refine ifY rfl ?_
 walk_at "l3"
 refine u_border_of h0 (by omega) hO hcr fun t' r' _ => ?_
 obtain rfl:t' = t:=by rw [← cnt_rnd hO.dg nd0 hcr r,cnt_rnd hO.dg nd0 hcr r']
 walk_at "l3"
 refine g_eqBd ?_
 exact g_fin (h _) Sub3.refl
def top (i:Nat):Stmt:=PySem.Challenge.pw_borderfloor_k16_whole_border_and_back.main.body.getD i (.Pass ⟨0,0,0,0⟩)
abbrev s_added:Stmt:=top 1
abbrev s_corners_of:Stmt:=top 12
abbrev s_way_of:Stmt:=top 13
abbrev s_begun_at:Stmt:=top 14
abbrev s_area_of:Stmt:=top 15
abbrev s_sides_of:Stmt:=top 17
abbrev s_letters_by_corner:Stmt:=top 18
abbrev s_border_of:Stmt:=top 19
abbrev s_check_letters:Stmt:=top 20
abbrev s_check_crossings:Stmt:=top 21
abbrev s_upright_sides:Stmt:=top 22
abbrev s_cells_within:Stmt:=top 23
abbrev s_inside_of:Stmt:=top 24
abbrev s_l_cell_at:Stmt:=top 26
abbrev s_l_corner:Stmt:=top 27
abbrev s_l_step:Stmt:=top 28
abbrev s_l_whole:Stmt:=top 29
abbrev s_l_pair:Stmt:=top 30
abbrev s_l_holed:Stmt:=top 31
abbrev s_l_grown:Stmt:=top 32
abbrev s_l_piece:Stmt:=top 33
abbrev s_l_is_piece:Stmt:=top 34
abbrev s_law:Stmt:=top 35
theorem sc_added:FnScope N_added P_added (defScope s_added):=⟨rfl,rfl,rfl,by decide +kernel,rfl,by decide +kernel,by decide +kernel⟩
theorem sc_corners_of:FnScope N_corners_of P_corners_of (defScope s_corners_of):=⟨rfl,rfl,rfl,by decide +kernel,rfl,by decide +kernel,by decide +kernel⟩
theorem sc_way_of:FnScope N_way_of P_way_of (defScope s_way_of):=⟨rfl,rfl,rfl,by decide +kernel,rfl,by decide +kernel,by decide +kernel⟩
theorem sc_begun_at:FnScope N_begun_at P_begun_at (defScope s_begun_at):=⟨rfl,rfl,rfl,by decide +kernel,rfl,by decide +kernel,by decide +kernel⟩
theorem sc_area_of:FnScope N_area_of P_area_of (defScope s_area_of):=⟨rfl,rfl,rfl,by decide +kernel,rfl,by decide +kernel,by decide +kernel⟩
theorem sc_sides_of:FnScope N_sides_of P_sides_of (defScope s_sides_of):=⟨rfl,rfl,rfl,by decide +kernel,rfl,by decide +kernel,by decide +kernel⟩
theorem sc_letters_by_corner:FnScope N_letters_by_corner P_letters_by_corner (defScope s_letters_by_corner):=⟨rfl,rfl,rfl,by decide +kernel,rfl,by decide +kernel,by decide +kernel⟩
theorem sc_border_of:FnScope N_border_of P_border_of (defScope s_border_of):=⟨rfl,rfl,rfl,by decide +kernel,rfl,by decide +kernel,by decide +kernel⟩
theorem sc_check_letters:FnScope N_check_letters P_check_letters (defScope s_check_letters):=⟨rfl,rfl,rfl,by decide +kernel,rfl,by decide +kernel,by decide +kernel⟩
theorem sc_check_crossings:FnScope N_check_crossings P_check_crossings (defScope s_check_crossings):=⟨rfl,rfl,rfl,by decide +kernel,rfl,by decide +kernel,by decide +kernel⟩
theorem sc_upright_sides:FnScope N_upright_sides P_upright_sides (defScope s_upright_sides):=⟨rfl,rfl,rfl,by decide +kernel,rfl,by decide +kernel,by decide +kernel⟩
theorem sc_cells_within:FnScope N_cells_within P_cells_within (defScope s_cells_within):=⟨rfl,rfl,rfl,by decide +kernel,rfl,by decide +kernel,by decide +kernel⟩
theorem sc_inside_of:FnScope N_inside_of P_inside_of (defScope s_inside_of):=⟨rfl,rfl,rfl,by decide +kernel,rfl,by decide +kernel,by decide +kernel⟩
theorem sc_l_cell_at:FnScope N_l_cell_at P_l_cell_at (defScope s_l_cell_at):=⟨rfl,rfl,rfl,by decide +kernel,rfl,by decide +kernel,by decide +kernel⟩
theorem sc_l_corner:FnScope N_l_corner P_l_corner (defScope s_l_corner):=⟨rfl,rfl,rfl,by decide +kernel,rfl,by decide +kernel,by decide +kernel⟩
theorem sc_l_step:FnScope N_l_step P_l_step (defScope s_l_step):=⟨rfl,rfl,rfl,by decide +kernel,rfl,by decide +kernel,by decide +kernel⟩
theorem sc_l_whole:FnScope N_l_whole P_l_whole (defScope s_l_whole):=⟨rfl,rfl,rfl,by decide +kernel,rfl,by decide +kernel,by decide +kernel⟩
theorem sc_l_pair:FnScope N_l_pair P_l_pair (defScope s_l_pair):=⟨rfl,rfl,rfl,by decide +kernel,rfl,by decide +kernel,by decide +kernel⟩
theorem sc_l_holed:FnScope N_l_holed P_l_holed (defScope s_l_holed):=⟨rfl,rfl,rfl,by decide +kernel,rfl,by decide +kernel,by decide +kernel⟩
theorem sc_l_grown:FnScope N_l_grown P_l_grown (defScope s_l_grown):=⟨rfl,rfl,rfl,by decide +kernel,rfl,by decide +kernel,by decide +kernel⟩
theorem sc_l_piece:FnScope N_l_piece P_l_piece (defScope s_l_piece):=⟨rfl,rfl,rfl,by decide +kernel,rfl,by decide +kernel,by decide +kernel⟩
theorem sc_l_is_piece:FnScope N_l_is_piece P_l_is_piece (defScope s_l_is_piece):=⟨rfl,rfl,rfl,by decide +kernel,rfl,by decide +kernel,by decide +kernel⟩
theorem sc_law:FnScope N_law P_law (defScope s_law):=⟨rfl,rfl,rfl,by decide +kernel,rfl,by decide +kernel,by decide +kernel⟩
structure Tx (K:PySem.W.Frag) (mg:Str→Option Value) (w:World):Prop where
 f_added:∃ f fd,Fun K "added" "added" s_added f fd∧mg "added" = some (.ref f)∧Binds K fd P_added []
 f_corners_of:∃ f fd,Fun K "corners_of" "corners_of" s_corners_of f fd∧mg "corners_of" = some (.ref f)∧Binds K fd P_corners_of []
 f_way_of:∃ f fd,Fun K "way_of" "way_of" s_way_of f fd∧mg "way_of" = some (.ref f)∧Binds K fd P_way_of []
 f_begun_at:∃ f fd,Fun K "begun_at" "begun_at" s_begun_at f fd∧mg "begun_at" = some (.ref f)∧Binds K fd P_begun_at []
 f_area_of:∃ f fd,Fun K "area_of" "area_of" s_area_of f fd∧mg "area_of" = some (.ref f)∧Binds K fd P_area_of []
 f_sides_of:∃ f fd,Fun K "sides_of" "sides_of" s_sides_of f fd∧mg "sides_of" = some (.ref f)∧Binds K fd P_sides_of []
 f_letters_by_corner:∃ f fd,Fun K "letters_by_corner" "letters_by_corner" s_letters_by_corner f fd∧mg "letters_by_corner" = some (.ref f)∧Binds K fd P_letters_by_corner []
 f_border_of:∃ f fd,Fun K "border_of" "border_of" s_border_of f fd∧mg "border_of" = some (.ref f)∧Binds K fd P_border_of []
 f_check_letters:∃ f fd,Fun K "check_letters" "check_letters" s_check_letters f fd∧mg "check_letters" = some (.ref f)∧Binds K fd P_check_letters []
 f_check_crossings:∃ f fd,Fun K "check_crossings" "check_crossings" s_check_crossings f fd∧mg "check_crossings" = some (.ref f)∧Binds K fd P_check_crossings []
 f_upright_sides:∃ f fd,Fun K "upright_sides" "upright_sides" s_upright_sides f fd∧mg "upright_sides" = some (.ref f)∧Binds K fd P_upright_sides []
 f_cells_within:∃ f fd,Fun K "cells_within" "cells_within" s_cells_within f fd∧mg "cells_within" = some (.ref f)∧Binds K fd P_cells_within []
 f_inside_of:∃ f fd,Fun K "inside_of" "inside_of" s_inside_of f fd∧mg "inside_of" = some (.ref f)∧Binds K fd P_inside_of []
 f_l_cell_at:∃ f fd,Fun K "_law_cell_at" "_law_cell_at" s_l_cell_at f fd∧mg "_law_cell_at" = some (.ref f)∧Binds K fd P_l_cell_at []
 f_l_corner:∃ f fd,Fun K "_law_corner" "_law_corner" s_l_corner f fd∧mg "_law_corner" = some (.ref f)∧Binds K fd P_l_corner []
 f_l_step:∃ f fd,Fun K "_law_step" "_law_step" s_l_step f fd∧mg "_law_step" = some (.ref f)∧Binds K fd P_l_step []
 f_l_whole:∃ f fd,Fun K "_law_whole" "_law_whole" s_l_whole f fd∧mg "_law_whole" = some (.ref f)∧Binds K fd P_l_whole []
 f_l_pair:∃ f fd,Fun K "_law_pair" "_law_pair" s_l_pair f fd∧mg "_law_pair" = some (.ref f)∧Binds K fd P_l_pair []
 f_l_holed:∃ f fd,Fun K "_law_holed" "_law_holed" s_l_holed f fd∧mg "_law_holed" = some (.ref f)∧Binds K fd P_l_holed []
 f_l_grown:∃ f fd,Fun K "_law_grown" "_law_grown" s_l_grown f fd∧mg "_law_grown" = some (.ref f)∧Binds K fd P_l_grown []
 f_l_piece:∃ f fd,Fun K "_law_piece" "_law_piece" s_l_piece f fd∧mg "_law_piece" = some (.ref f)∧Binds K fd P_l_piece []
 f_l_is_piece:∃ f fd,Fun K "_law_is_piece" "_law_is_piece" s_l_is_piece f fd∧mg "_law_is_piece" = some (.ref f)∧Binds K fd P_l_is_piece []
 m_all:mg "all" = none
 m_bool:mg "bool" = none
 m_enumerate:mg "enumerate" = none
 m_int:mg "int" = none
 m_isinstance:mg "isinstance" = none
 m_len:mg "len" = none
 m_max:mg "max" = none
 m_min:mg "min" = none
 m_range:mg "range" = none
 m_sorted:mg "sorted" = none
 m_tuple:mg "tuple" = none
 m_zip:mg "zip" = none
 d_STEPS:∃ a,mg "STEPS" = some (.ref a)∧DC K w a c_STEPS
 c_MOST_CELLS:∃ tk,mg "MOST_CELLS" = some (.int 10 tk)
section
variable {P:Program} {w:World} {K:PySem.W.Frag} {mg:Str→Option Value} {base:Heap}
theorem ok_added (T:Tx K mg w):Fn P w K mg base 1 "added" P_added sp_added:=by
 (refine Classical.byContradiction fun k_ => ?_; obtain ⟨f,fd,F,hm,hb⟩:=T.f_added; refine k_ ?_; clear k_)
 exact fn3 F sc_added hm hb len_added fun cdv A outer s H E hr => ⟨t_added,(s3_one (s3_ret (p3_tup (a3_cons (p3_op op3_add (p3_ix ix3 (p3_var 0) p3_int) (p3_ix ix3 (p3_var 1) p3_int)) (a3_cons (p3_op op3_add (p3_ix ix3 (p3_var 0) p3_int) (p3_ix ix3 (p3_var 1) p3_int)) a3_nil))))),rd_added⟩
theorem ok_begun_at (T:Tx K mg w):Fn P w K mg base 1 "begun_at" P_begun_at sp_begun_at:=by
 (refine Classical.byContradiction fun k_ => ?_; obtain ⟨f,fd,F,hm,hb⟩:=T.f_begun_at; refine k_ ?_; clear k_)
 exact fn3 F sc_begun_at hm hb len_begun_at fun cdv A outer s H E hr => ⟨t_begun_at,(s3_one (s3_ret (p3_op op3_add (p3_slice sl3_text (p3_var 0) (po3_some (p3_var 1)) po3_none) (p3_slice sl3_text (p3_var 0) po3_none (po3_some (p3_var 1)))))),rd_begun_at⟩
theorem ok_sides_of (T:Tx K mg w):Fn P w K mg base 1 "sides_of" P_sides_of sp_sides_of:=by
 (refine Classical.byContradiction fun k_ => ?_; obtain ⟨f,fd,F,hm,hb⟩:=T.f_sides_of; refine k_ ?_; clear k_)
 exact fn3 F sc_sides_of hm hb len_sides_of fun cdv A outer s H E hr => ⟨t_sides_of,(s3_cons (s3_set 1 sc_sides_of.nd (p3_ix ix3 (p3_var 0) p3_int))
   (s3_cons (s3_set 2 sc_sides_of.nd (p3_ix ix3 (p3_var 0) p3_int))
   (s3_one (s3_ret (p3_lst (a3_cons (p3_tup (a3_cons (p3_tup (a3_cons (p3_var 1) (a3_cons (p3_var 2) a3_nil))) (a3_cons p3_str (a3_cons (p3_tup (a3_cons (p3_var 1) (a3_cons (p3_op op3_sub (p3_var 2) p3_int) a3_nil))) a3_nil)))) (a3_cons (p3_tup (a3_cons (p3_tup (a3_cons (p3_op op3_add (p3_var 1) p3_int) (a3_cons (p3_var 2) a3_nil))) (a3_cons p3_str (a3_cons (p3_tup (a3_cons (p3_op op3_add (p3_var 1) p3_int) (a3_cons (p3_var 2) a3_nil))) a3_nil)))) (a3_cons (p3_tup (a3_cons (p3_tup (a3_cons (p3_op op3_add (p3_var 1) p3_int) (a3_cons (p3_op op3_add (p3_var 2) p3_int) a3_nil))) (a3_cons p3_str (a3_cons (p3_tup (a3_cons (p3_var 1) (a3_cons (p3_op op3_add (p3_var 2) p3_int) a3_nil))) a3_nil)))) (a3_cons (p3_tup (a3_cons (p3_tup (a3_cons (p3_var 1) (a3_cons (p3_op op3_add (p3_var 2) p3_int) a3_nil))) (a3_cons p3_str (a3_cons (p3_tup (a3_cons (p3_op op3_sub (p3_var 1) p3_int) (a3_cons (p3_var 2) a3_nil))) a3_nil)))) a3_nil))))))))),rd_sides_of⟩
theorem ok_check_letters (T:Tx K mg w):Fn P w K mg base 1 "check_letters" P_check_letters sp_check_letters:=by
 (refine Classical.byContradiction fun k_ => ?_; obtain ⟨f,fd,F,hm,hb⟩:=T.f_check_letters; refine k_ ?_; clear k_)
 exact fn3 F sc_check_letters hm hb len_check_letters fun cdv A outer s H E hr => ⟨t_check_letters,(s3_cons (s3_if (p3_tcmp (op3_eq hr.units) (p3_var 0) p3_str) (s3_one s3_never) s3_nil)
   (s3_one (s3_for PassesOwn.never rfl (i3_enumZ T.m_enumerate (p3_var 0)) (g3_pair 1 2 rfl sc_check_letters.nd) (s3_one (s3_if (p3_tnkin rfl T.d_STEPS (p3_var 2)) (s3_one s3_never) s3_nil))))),rd_check_letters⟩
theorem ok_l_cell_at (T:Tx K mg w):Fn P w K mg base 1 "_law_cell_at" P_l_cell_at sp_l_cell_at:=by
 (refine Classical.byContradiction fun k_ => ?_; obtain ⟨f,fd,F,hm,hb⟩:=T.f_l_cell_at; refine k_ ?_; clear k_)
 exact fn3 F sc_l_cell_at hm hb len_l_cell_at fun cdv A outer s H E hr => ⟨t_l_cell_at,(s3_cons (s3_if (p3_tcmp (op3_lt hr.units0) (p3_var 1) (p3_callB cb3_len rfl T.m_len (by rfl) (a3_cons (p3_var 0) a3_nil))) (s3_one (s3_ret (p3_ix ix3 (p3_var 0) (p3_var 1)))) s3_nil)
   (s3_cons (s3_if (p3_tcmp (op3_eq hr.units) (p3_callB cb3_len rfl T.m_len (by rfl) (a3_cons (p3_var 0) a3_nil)) p3_int) (s3_one (s3_ret p3_int)) s3_nil)
   (s3_one (s3_ret (p3_op op3_mod (p3_op op3_mulW (p3_ix ix3 (p3_var 0) (p3_op op3_mod (p3_var 1) (p3_callB cb3_len rfl T.m_len (by rfl) (a3_cons (p3_var 0) a3_nil)))) (p3_op op3_add p3_int (p3_op op3_mulW (p3_var 1) (p3_var 1)))) p3_int))))),rd_l_cell_at⟩
theorem ok_l_corner (T:Tx K mg w):Fn P w K mg base 1 "_law_corner" P_l_corner sp_l_corner:=by
 (refine Classical.byContradiction fun k_ => ?_; obtain ⟨f,fd,F,hm,hb⟩:=T.f_l_corner; refine k_ ?_; clear k_)
 exact fn3 F sc_l_corner hm hb len_l_corner fun cdv A outer s H E hr => ⟨t_l_corner,(s3_cons (s3_if (p3_tcmp (op3_eq hr.units) (p3_op op3_mod (p3_var 0) p3_int) p3_int) (s3_one (s3_ret (p3_tup (a3_cons (p3_op op3_sub (p3_op op3_mod (p3_op op3_fdivW (p3_var 0) p3_int) p3_int) p3_int) (a3_cons (p3_op op3_sub (p3_op op3_mod (p3_op op3_fdivW (p3_var 1) p3_int) p3_int) p3_int) a3_nil))))) s3_nil)
   (s3_one (s3_ret (p3_tup (a3_cons (p3_op op3_sub (p3_op op3_mod (p3_op op3_fdivW (p3_var 0) p3_int) (p3_op op3_add (p3_op op3_mulW p3_int (p3_op op3_pow p3_int p3_int)) p3_int)) (p3_op op3_pow p3_int p3_int)) (a3_cons (p3_op op3_sub (p3_op op3_mod (p3_var 1) (p3_op op3_add (p3_op op3_mulW p3_int (p3_op op3_pow p3_int p3_int)) p3_int)) (p3_op op3_pow p3_int p3_int)) a3_nil)))))),rd_l_corner⟩
theorem ok_l_step (T:Tx K mg w):Fn P w K mg base 1 "_law_step" P_l_step sp_l_step:=by
 (refine Classical.byContradiction fun k_ => ?_; obtain ⟨f,fd,F,hm,hb⟩:=T.f_l_step; refine k_ ?_; clear k_)
 exact fn3 F sc_l_step hm hb len_l_step fun cdv A outer s H E hr => ⟨t_l_step,(s3_one (s3_ret (p3_ix ix3 (p3_lst (a3_cons (p3_tup (a3_cons p3_int (a3_cons p3_int a3_nil))) (a3_cons (p3_tup (a3_cons p3_int (a3_cons p3_int a3_nil))) (a3_cons (p3_tup (a3_cons (p3_un un3_neg p3_int) (a3_cons p3_int a3_nil))) (a3_cons (p3_tup (a3_cons p3_int (a3_cons (p3_un un3_neg p3_int) a3_nil))) a3_nil))))) (p3_zm PySem.F.slot_str_index PySem.F.type_str_index mt3_index p3_str (a3_cons (p3_var 0) a3_nil))))),rd_l_step⟩
theorem ok_l_whole (T:Tx K mg w):Fn P w K mg base 1 "_law_whole" P_l_whole sp_l_whole:=by
 (refine Classical.byContradiction fun k_ => ?_; obtain ⟨f,fd,F,hm,hb⟩:=T.f_l_whole; refine k_ ?_; clear k_)
 exact fn3 F sc_l_whole hm hb len_l_whole fun cdv A outer s H E hr => ⟨t_l_whole,(s3_one (s3_ret (p3_and (p3_callB cb3_isi rfl T.m_isinstance (by rfl) (a3_cons (p3_var 0) (a3_cons (p3_ty rfl T.m_int (by rfl)) a3_nil))) (p3_one (p3_not (p3_callB cb3_isi rfl T.m_isinstance (by rfl) (a3_cons (p3_var 0) (a3_cons (p3_ty rfl T.m_bool (by rfl)) a3_nil)))))))),rd_l_whole⟩
theorem ok_l_holed (T:Tx K mg w):Fn P w K mg base 1 "_law_holed" P_l_holed sp_l_holed:=by
 (refine Classical.byContradiction fun k_ => ?_; obtain ⟨f,fd,F,hm,hb⟩:=T.f_l_holed; refine k_ ?_; clear k_)
 exact fn3 F sc_l_holed hm hb len_l_holed fun cdv A outer s H E hr => ⟨t_l_holed,(s3_cons (s3_set 1 sc_l_holed.nd (p3_op op3_add (p3_callB (cb3_max rfl) rfl T.m_max (by rfl) (a3_cons (p3_comp (fv:=[]) (by show CompOk (defScope s_l_holed) N_l_holed _ _ _ _; exact ⟨rfl,by decide +kernel,by decide +kernel,by decide +kernel,rfl,by decide +kernel,by decide +kernel⟩) rfl (i3_list (p3_var 0)) (fun pins cl s1 H1 fp => ifs3_nil) (fun pins cl s1 H1 fp => (p3_ix ix3 (p3_var 0) p3_int))) a3_nil)) p3_int))
   (s3_cons (s3_set 2 sc_l_holed.nd (p3_op op3_sub (p3_callB (cb3_min rfl) rfl T.m_min (by rfl) (a3_cons (p3_comp (fv:=[]) (by show CompOk (defScope s_l_holed) N_l_holed _ _ _ _; exact ⟨rfl,by decide +kernel,by decide +kernel,by decide +kernel,rfl,by decide +kernel,by decide +kernel⟩) rfl (i3_list (p3_var 0)) (fun pins cl s1 H1 fp => ifs3_nil) (fun pins cl s1 H1 fp => (p3_ix ix3 (p3_var 0) p3_int))) a3_nil)) p3_int))
   (s3_cons (s3_set 3 sc_l_holed.nd (p3_op op3_add (p3_callB (cb3_max rfl) rfl T.m_max (by rfl) (a3_cons (p3_comp (fv:=[]) (by show CompOk (defScope s_l_holed) N_l_holed _ _ _ _; exact ⟨rfl,by decide +kernel,by decide +kernel,by decide +kernel,rfl,by decide +kernel,by decide +kernel⟩) rfl (i3_list (p3_var 0)) (fun pins cl s1 H1 fp => ifs3_nil) (fun pins cl s1 H1 fp => (p3_ix ix3 (p3_var 0) p3_int))) a3_nil)) p3_int))
   (s3_cons (s3_set 4 sc_l_holed.nd (p3_op op3_sub (p3_callB (cb3_min rfl) rfl T.m_min (by rfl) (a3_cons (p3_comp (fv:=[]) (by show CompOk (defScope s_l_holed) N_l_holed _ _ _ _; exact ⟨rfl,by decide +kernel,by decide +kernel,by decide +kernel,rfl,by decide +kernel,by decide +kernel⟩) rfl (i3_list (p3_var 0)) (fun pins cl s1 H1 fp => ifs3_nil) (fun pins cl s1 H1 fp => (p3_ix ix3 (p3_var 0) p3_int))) a3_nil)) p3_int))
   (s3_cons (s3_set 5 sc_l_holed.nd (p3_lst (a3_cons (p3_tup (a3_cons (p3_var 2) (a3_cons (p3_var 4) a3_nil))) a3_nil)))
   (s3_cons (s3_set 6 sc_l_holed.nd (p3_disp1 hr.units0 (p3_tup (a3_cons (p3_var 2) (a3_cons (p3_var 4) a3_nil))) p3_bl))
   (s3_cons (s3_for PassesOwn.never rfl (i3_list (p3_var 0)) (g3_name 7 sc_l_holed.nd) (s3_one (s3_dput hr.units (p3_var 6) (p3_var 7) p3_bl)))
   (s3_cons (s3_set 8 sc_l_holed.nd p3_int)
   (s3_cons (s3_while PassesOwn.never (p3_tcmp (op3_lt hr.units0) (p3_var 8) (p3_callB cb3_len rfl T.m_len (by rfl) (a3_cons (p3_var 5) a3_nil))) (s3_cons (s3_for PassesOwn.never rfl (i3_list (p3_lst (a3_cons (p3_tup (a3_cons p3_int (a3_cons p3_int a3_nil))) (a3_cons (p3_tup (a3_cons p3_int (a3_cons p3_int a3_nil))) (a3_cons (p3_tup (a3_cons (p3_un un3_neg p3_int) (a3_cons p3_int a3_nil))) (a3_cons (p3_tup (a3_cons p3_int (a3_cons (p3_un un3_neg p3_int) a3_nil))) a3_nil)))))) (g3_name 9 sc_l_holed.nd) (s3_cons (s3_set 10 sc_l_holed.nd (p3_tup (a3_cons (p3_op op3_add (p3_ix ix3 (p3_ix ix3 (p3_var 5) (p3_var 8)) p3_int) (p3_ix ix3 (p3_var 9) p3_int)) (a3_cons (p3_op op3_add (p3_ix ix3 (p3_ix ix3 (p3_var 5) (p3_var 8)) p3_int) (p3_ix ix3 (p3_var 9) p3_int)) a3_nil))))
   (s3_one (s3_if (p3_tw (p3_wand (p3_tchain op3_le op3_le (p3_var 2) (p3_ix ix3 (p3_var 10) p3_int) (p3_var 1)) (p3_wand (p3_tchain op3_le op3_le (p3_var 4) (p3_ix ix3 (p3_var 10) p3_int) (p3_var 3)) (p3_wand1 (p3_tcmp (op3_notInX hr.units) (p3_var 10) (p3_var 6)))))) (s3_cons (s3_dput hr.units (p3_var 6) (p3_var 10) p3_bl)
   (s3_one (s3_expr (p3_bm PySem.F.slot_list_append PySem.F.type_list_append mt3_app (p3_var 5) (a3_cons (p3_var 10) a3_nil))))) s3_nil))))
   (s3_one (s3_set 8 sc_l_holed.nd (p3_op op3_add (p3_var 8) p3_int)))))
   (s3_one (s3_ret (p3_cmp (op3_lt hr.units0) (p3_callB cb3_lenD rfl T.m_len (by rfl) (a3_cons (p3_var 6) a3_nil)) (p3_op op3_mulW (p3_op op3_add (p3_op op3_sub (p3_var 1) (p3_var 2)) p3_int) (p3_op op3_add (p3_op op3_sub (p3_var 3) (p3_var 4)) p3_int)))))))))))))),rd_l_holed⟩
theorem ok_corners_of (T:Tx K mg w):Fn P w K mg base 2 "corners_of" P_corners_of sp_corners_of:=by
 (refine Classical.byContradiction fun k_ => ?_; obtain ⟨f,fd,F,hm,hb⟩:=T.f_corners_of; refine k_ ?_; clear k_)
 exact fn3 F sc_corners_of hm hb len_corners_of fun cdv A outer s H E hr => ⟨t_corners_of,(s3_cons (s3_set 2 sc_corners_of.nd (p3_lst (a3_cons (p3_var 0) a3_nil)))
   (s3_cons (s3_for PassesOwn.never rfl (i3_text (p3_var 1)) (g3_name 3 sc_corners_of.nd) (s3_one (s3_expr (p3_bm PySem.F.slot_list_append PySem.F.type_list_append mt3_app (p3_var 2) (a3_cons (p3_call (ok_added T) (hr.mono (by decide)) (a3_cons (p3_ix ix3 (p3_var 2) (p3_un un3_neg p3_int)) (a3_cons (p3_kd rfl T.d_STEPS (p3_var 3)) a3_nil))) a3_nil)))))
   (s3_one (s3_ret (p3_var 2))))),rd_corners_of⟩
theorem ok_letters_by_corner (T:Tx K mg w):Fn P w K mg base 2 "letters_by_corner" P_letters_by_corner sp_letters_by_corner:=by
 (refine Classical.byContradiction fun k_ => ?_; obtain ⟨f,fd,F,hm,hb⟩:=T.f_letters_by_corner; refine k_ ?_; clear k_)
 exact fn3 F sc_letters_by_corner hm hb len_letters_by_corner fun cdv A outer s H E hr => ⟨t_letters_by_corner,(s3_cons (s3_set 1 sc_letters_by_corner.nd p3_dnew)
   (s3_cons (s3_for PassesOwn.never rfl (i3_tup (p3_var 0)) (g3_name 2 sc_letters_by_corner.nd) (s3_one (s3_for PassesOwn.never rfl (i3_list (p3_call (ok_sides_of T) (hr.mono (by decide)) (a3_cons (p3_var 2) a3_nil))) (g3_name 3 sc_letters_by_corner.nd) (s3_one (s3_if (p3_tcmp (op3_notInX hr.units) (p3_ix ix3 (p3_var 3) p3_int) (p3_var 0)) (s3_one (s3_dput hr.units (p3_var 1) (p3_ix ix3 (p3_var 3) p3_int) (p3_ix ix3 (p3_var 3) p3_int))) s3_nil)))))
   (s3_one (s3_ret (p3_var 1))))),rd_letters_by_corner⟩
theorem ok_l_pair (T:Tx K mg w):Fn P w K mg base 2 "_law_pair" P_l_pair sp_l_pair:=by
 (refine Classical.byContradiction fun k_ => ?_; obtain ⟨f,fd,F,hm,hb⟩:=T.f_l_pair; refine k_ ?_; clear k_)
 exact fn3 F sc_l_pair hm hb len_l_pair fun cdv A outer s H E hr => ⟨t_l_pair,(s3_cons (s3_if (p3_tw (p3_wor (p3_tnot (p3_tval (p3_callB cb3_isi rfl T.m_isinstance (by rfl) (a3_cons (p3_var 0) (a3_cons (p3_ty rfl T.m_tuple (by rfl)) a3_nil))))) (p3_wor1 (p3_tcmp (op3_ne hr.units) (p3_callB cb3_len rfl T.m_len (by rfl) (a3_cons (p3_var 0) a3_nil)) p3_int)))) (s3_one (s3_ret p3_bl)) s3_nil)
   (s3_one (s3_ret (p3_and (p3_call (ok_l_whole T) (hr.mono (by decide)) (a3_cons (p3_ix ix3 (p3_var 0) p3_int) a3_nil)) (p3_and (p3_call (ok_l_whole T) (hr.mono (by decide)) (a3_cons (p3_ix ix3 (p3_var 0) p3_int) a3_nil)) (p3_one (p3_cmp (op3_eq hr.units) (p3_var 0) (p3_var 1)))))))),rd_l_pair⟩
theorem ok_l_grown (T:Tx K mg w):Fn P w K mg base 2 "_law_grown" P_l_grown sp_l_grown:=by
 (refine Classical.byContradiction fun k_ => ?_; obtain ⟨f,fd,F,hm,hb⟩:=T.f_l_grown; refine k_ ?_; clear k_)
 exact fn3 F sc_l_grown hm hb len_l_grown fun cdv A outer s H E hr => ⟨t_l_grown,(s3_cons (s3_set 3 sc_l_grown.nd (p3_lst (a3_cons (p3_tup (a3_cons p3_int (a3_cons p3_int a3_nil))) a3_nil)))
   (s3_cons (s3_for PassesOwn.never rfl (i3_rng1 T.m_range (p3_op op3_sub (p3_var 2) p3_int)) (g3_name 4 sc_l_grown.nd) (s3_cons (s3_set 5 sc_l_grown.nd (p3_call (ok_l_cell_at T) (hr.mono (by decide)) (a3_cons (p3_var 0) (a3_cons (p3_op op3_add (p3_var 1) (p3_var 4)) a3_nil))))
   (s3_cons (s3_asg (p3_ix ix3 (p3_var 3) (p3_op op3_mod (p3_var 5) (p3_callB cb3_len rfl T.m_len (by rfl) (a3_cons (p3_var 3) a3_nil)))) (g3_pair 6 7 rfl sc_l_grown.nd))
   (s3_one (s3_for PassesOwn.never rfl (i3_rng1 T.m_range p3_int) (g3_name 8 sc_l_grown.nd) (s3_cons (s3_set 9 sc_l_grown.nd (p3_call (ok_l_step T) (hr.mono (by decide)) (a3_cons (p3_ix ix3 p3_str (p3_op op3_mod (p3_op op3_add (p3_op op3_fdivW (p3_var 5) p3_int) (p3_var 8)) p3_int)) a3_nil)))
   (s3_cons (s3_set 10 sc_l_grown.nd (p3_tup (a3_cons (p3_op op3_add (p3_var 6) (p3_ix ix3 (p3_var 9) p3_int)) (a3_cons (p3_op op3_add (p3_var 7) (p3_ix ix3 (p3_var 9) p3_int)) a3_nil))))
   (s3_one (s3_if (p3_tcmp (op3_notInX hr.units) (p3_var 10) (p3_var 3)) (s3_cons (s3_expr (p3_bm PySem.F.slot_list_append PySem.F.type_list_append mt3_app (p3_var 3) (a3_cons (p3_var 10) a3_nil)))
   (s3_one s3_break)) s3_nil)))))))))
   (s3_cons (s3_while PassesOwn.never (p3_tval (p3_call (ok_l_holed T) (hr.mono (by decide)) (a3_cons (p3_var 3) a3_nil))) (s3_one (s3_expr (p3_bm0 PySem.F.slot_list_pop PySem.F.type_list_pop mt3_pop (p3_var 3)))))
   (s3_one (s3_ret (p3_var 3)))))),rd_l_grown⟩
theorem ok_way_of (T:Tx K mg w):Fn P w K mg base 3 "way_of" P_way_of sp_way_of:=by
 (refine Classical.byContradiction fun k_ => ?_; obtain ⟨f,fd,F,hm,hb⟩:=T.f_way_of; refine k_ ?_; clear k_)
 exact fn3 F sc_way_of hm hb len_way_of fun cdv A outer s H E hr => ⟨t_way_of,(s3_one (s3_ret (p3_ix ix3 (p3_call (ok_corners_of T) (hr.mono (by decide)) (a3_cons (p3_tup (a3_cons p3_int (a3_cons p3_int a3_nil))) (a3_cons (p3_var 0) a3_nil))) (p3_un un3_neg p3_int)))),rd_way_of⟩
theorem ok_area_of (T:Tx K mg w):Fn P w K mg base 3 "area_of" P_area_of sp_area_of:=by
 (refine Classical.byContradiction fun k_ => ?_; obtain ⟨f,fd,F,hm,hb⟩:=T.f_area_of; refine k_ ?_; clear k_)
 exact fn3 F sc_area_of hm hb len_area_of fun cdv A outer s H E hr => ⟨t_area_of,(s3_cons (s3_set 1 sc_area_of.nd p3_int)
   (s3_cons (s3_for PassesOwn.never rfl (i3_zip_lt T.m_zip (p3_call (ok_corners_of T) (hr.mono (by decide)) (a3_cons (p3_tup (a3_cons p3_int (a3_cons p3_int a3_nil))) (a3_cons (p3_var 0) a3_nil))) (p3_var 0)) (g3_pair 2 3 rfl sc_area_of.nd) (s3_cons (s3_if (p3_tcmp (op3_eq hr.units) (p3_var 3) p3_str) (s3_one (s3_aug (i:=1) sc_area_of.nd op3_iadd (p3_ix ix3 (p3_var 2) p3_int))) s3_nil)
   (s3_one (s3_if (p3_tcmp (op3_eq hr.units) (p3_var 3) p3_str) (s3_one (s3_aug (i:=1) sc_area_of.nd op3_isub (p3_ix ix3 (p3_var 2) p3_int))) s3_nil))))
   (s3_one (s3_ret (p3_var 1))))),rd_area_of⟩
theorem ok_border_of (T:Tx K mg w):Fn P w K mg base 3 "border_of" P_border_of sp_border_of:=by
 (refine Classical.byContradiction fun k_ => ?_; obtain ⟨f,fd,F,hm,hb⟩:=T.f_border_of; refine k_ ?_; clear k_)
 exact fn3 F sc_border_of hm hb len_border_of fun cdv A outer s H E hr => ⟨t_border_of,(s3_cons (s3_set 1 sc_border_of.nd (p3_call (ok_letters_by_corner T) (hr.mono (by decide)) (a3_cons (p3_var 0) a3_nil)))
   (s3_cons (s3_set 2 sc_border_of.nd (p3_ix ix3 (p3_var 0) p3_int))
   (s3_cons (s3_set 3 sc_border_of.nd p3_str)
   (s3_cons (s3_set 4 sc_border_of.nd (p3_var 2))
   (s3_cons (s3_while PassesOwn.never (p3_tw (p3_wor (p3_tcmp (op3_eq hr.units) (p3_var 3) p3_str) (p3_wor1 (p3_tcmp (op3_ne hr.units) (p3_var 4) (p3_var 2))))) (s3_cons (s3_set 5 sc_border_of.nd (p3_dget hr.units (p3_var 1) (p3_var 4)))
   (s3_cons (s3_aug (i:=3) sc_border_of.nd op3_iadd (p3_var 5))
   (s3_one (s3_set 4 sc_border_of.nd (p3_call (ok_added T) (hr.mono (by decide)) (a3_cons (p3_var 4) (a3_cons (p3_kd rfl T.d_STEPS (p3_var 5)) a3_nil))))))))
   (s3_one (s3_ret (p3_tup (a3_cons (p3_var 2) (a3_cons (p3_var 3) a3_nil)))))))))),rd_border_of⟩
theorem ok_check_crossings (T:Tx K mg w):Fn P w K mg base 3 "check_crossings" P_check_crossings sp_check_crossings:=by
 (refine Classical.byContradiction fun k_ => ?_; obtain ⟨f,fd,F,hm,hb⟩:=T.f_check_crossings; refine k_ ?_; clear k_)
 exact fn3 F sc_check_crossings hm hb len_check_crossings fun cdv A outer s H E hr => ⟨t_check_crossings,(s3_cons (s3_set 1 sc_check_crossings.nd (p3_call (ok_corners_of T) (hr.mono (by decide)) (a3_cons (p3_tup (a3_cons p3_int (a3_cons p3_int a3_nil))) (a3_cons (p3_var 0) a3_nil))))
   (s3_cons (s3_set 2 sc_check_crossings.nd (p3_disp1 hr.units0 (p3_ix ix3 (p3_var 1) p3_int) p3_bl))
   (s3_one (s3_for PassesOwn.never rfl (i3_rng1 T.m_range (p3_op op3_sub (p3_callB cb3_len rfl T.m_len (by rfl) (a3_cons (p3_var 0) a3_nil)) p3_int)) (g3_name 3 sc_check_crossings.nd) (s3_cons (s3_set 4 sc_check_crossings.nd (p3_ix ix3 (p3_var 1) (p3_op op3_add (p3_var 3) p3_int)))
   (s3_cons (s3_if (p3_tcmp (op3_inX hr.units) (p3_var 4) (p3_var 2)) (s3_one s3_never) s3_nil)
   (s3_one (s3_dput hr.units (p3_var 2) (p3_var 4) p3_bl)))))))),rd_check_crossings⟩
theorem ok_upright_sides (T:Tx K mg w):Fn P w K mg base 3 "upright_sides" P_upright_sides sp_upright_sides:=by
 (refine Classical.byContradiction fun k_ => ?_; obtain ⟨f,fd,F,hm,hb⟩:=T.f_upright_sides; refine k_ ?_; clear k_)
 exact fn3 F sc_upright_sides hm hb len_upright_sides fun cdv A outer s H E hr => ⟨t_upright_sides,(s3_cons (s3_set 2 sc_upright_sides.nd p3_dnI)
   (s3_cons (s3_for PassesOwn.never rfl (i3_zip_lt T.m_zip (p3_call (ok_corners_of T) (hr.mono (by decide)) (a3_cons (p3_var 0) (a3_cons (p3_var 1) a3_nil))) (p3_var 1)) (g3_pair 3 4 rfl sc_upright_sides.nd) (s3_cons (s3_if (p3_tcmp (op3_eq hr.units) (p3_var 4) p3_str) (s3_one (s3_expr (p3_bm PySem.F.slot_list_append PySem.F.type_list_append mt3_app (p3_setd (p3_var 2) (p3_ix ix3 (p3_var 3) p3_int) (p3_lst a3_nil) ⟨rfl,rfl,rfl,rfl⟩) (a3_cons (p3_ix ix3 (p3_var 3) p3_int) a3_nil)))) s3_nil)
   (s3_one (s3_if (p3_tcmp (op3_eq hr.units) (p3_var 4) p3_str) (s3_one (s3_expr (p3_bm PySem.F.slot_list_append PySem.F.type_list_append mt3_app (p3_setd (p3_var 2) (p3_op op3_sub (p3_ix ix3 (p3_var 3) p3_int) p3_int) (p3_lst a3_nil) ⟨rfl,rfl,rfl,rfl⟩) (a3_cons (p3_ix ix3 (p3_var 3) p3_int) a3_nil)))) s3_nil))))
   (s3_one (s3_ret (p3_var 2))))),rd_upright_sides⟩
theorem ok_l_is_piece (T:Tx K mg w):Fn P w K mg base 3 "_law_is_piece" P_l_is_piece sp_l_is_piece:=by
 (refine Classical.byContradiction fun k_ => ?_; obtain ⟨f,fd,F,hm,hb⟩:=T.f_l_is_piece; refine k_ ?_; clear k_)
 exact fn3 F sc_l_is_piece hm hb len_l_is_piece fun cdv A outer s H E hr => ⟨t_l_is_piece,(s3_cons (s3_if (p3_tw (p3_wor (p3_tnot (p3_tval (p3_callB cb3_isi rfl T.m_isinstance (by rfl) (a3_cons (p3_var 0) (a3_cons (p3_ty rfl T.m_tuple (by rfl)) a3_nil))))) (p3_wor1 (p3_tcmp (op3_ne hr.units) (p3_callB cb3_len rfl T.m_len (by rfl) (a3_cons (p3_var 0) a3_nil)) (p3_callB cb3_len rfl T.m_len (by rfl) (a3_cons (p3_var 1) a3_nil)))))) (s3_one (s3_ret p3_bl)) s3_nil)
   (s3_one (s3_ret (p3_callB (cb3_all rfl) rfl T.m_all (by rfl) (a3_cons (p3_comp2 (fv:=[]) (by show CompOk (defScope s_l_is_piece) N_l_is_piece _ _ _ _; exact ⟨rfl,by decide +kernel,by decide +kernel,by decide +kernel,rfl,by decide +kernel,by decide +kernel⟩) rfl (i3_zip_TT T.m_zip (p3_var 0) (p3_var 1)) (fun pins cl s1 H1 fp => ifs3_nil) (fun pins cl s1 H1 fp => (p3_call (ok_l_pair T) (hr.mono (by decide)) (a3_cons (p3_var 0) (a3_cons (p3_var 1) a3_nil))))) a3_nil))))),rd_l_is_piece⟩
theorem ok_cells_within (T:Tx K mg w):Fn P w K mg base 4 "cells_within" P_cells_within sp_cells_within:=by
 (refine Classical.byContradiction fun k_ => ?_; obtain ⟨f,fd,F,hm,hb⟩:=T.f_cells_within; refine k_ ?_; clear k_)
 exact fn3 F sc_cells_within hm hb len_cells_within fun cdv A outer s H E hr => ⟨t_cells_within,(s3_cons (s3_set 2 sc_cells_within.nd (p3_call (ok_upright_sides T) (hr.mono (by decide)) (a3_cons (p3_var 0) (a3_cons (p3_var 1) a3_nil))))
   (s3_cons (s3_set 3 sc_cells_within.nd (p3_lst a3_nil))
   (s3_cons (s3_for PassesOwn.never rfl (i3_list (p3_callB (cb3_sortD rfl) rfl T.m_sorted (by rfl) (a3_cons (p3_var 2) a3_nil))) (g3_name 4 sc_cells_within.nd) (s3_cons (s3_set 5 sc_cells_within.nd (p3_callB cb3_sortI rfl T.m_sorted (by rfl) (a3_cons (p3_dgetI hr.units (p3_var 2) (p3_var 4)) a3_nil)))
   (s3_one (s3_for PassesOwn.never rfl (i3_rngu T.m_range p3_int (p3_callB cb3_len rfl T.m_len (by rfl) (a3_cons (p3_var 5) a3_nil)) p3_int) (g3_name 6 sc_cells_within.nd) (s3_one (s3_expr (p3_bm PySem.F.slot_list_extend PySem.F.type_list_extend mt3_ext (p3_var 3) (a3_cons (p3_comp (fv:=[(4, "y")]) (by show CompOk (defScope s_cells_within) N_cells_within _ _ _ _; exact ⟨rfl,by decide +kernel,by decide +kernel,by decide +kernel,rfl,by decide +kernel,by decide +kernel⟩) rfl (i3_rng2 T.m_range (p3_ix ix3 (p3_var 5) (p3_var 6)) (p3_ix ix3 (p3_var 5) (p3_op op3_add (p3_var 6) p3_int))) (fun pins cl s1 H1 fp => ifs3_nil) (fun pins cl s1 H1 fp => (p3_tup (a3_cons (p3_var 0) (a3_cons (p3_var 1) a3_nil))))) a3_nil))))))))
   (s3_one (s3_ret (p3_var 3)))))),rd_cells_within⟩
theorem ok_l_piece (T:Tx K mg w):Fn P w K mg base 4 "_law_piece" P_l_piece sp_l_piece:=by
 (refine Classical.byContradiction fun k_ => ?_; obtain ⟨f,fd,F,hm,hb⟩:=T.f_l_piece; refine k_ ?_; clear k_)
 exact fn3c F sc_l_piece hm hb len_l_piece fun oc od sl lk A outer s H E hr => ⟨t_l_piece,(s3_cons (s3_setcomp (fv:=[(1, "_law_shift")]) 2 sc_l_piece.nd (by show CompOk (defScope s_l_piece) N_l_piece _ _ _ _; exact ⟨rfl,by decide +kernel,by decide +kernel,by decide +kernel,rfl,by decide +kernel,by decide +kernel⟩) rfl (i3_list (p3_var 0)) (fun pins cl s1 H1 fp => ifs3_nil) (fun pins cl s1 H1 fp => (p3_tup (a3_cons (p3_op op3_add (p3_ix ix3 (p3_var 0) p3_int) (p3_ix ix3 (p3_var 1) p3_int)) (a3_cons (p3_op op3_add (p3_ix ix3 (p3_var 0) p3_int) (p3_ix ix3 (p3_var 1) p3_int)) a3_nil)))))
   (s3_one (s3_ret (p3_callTy cb3_tuple rfl T.m_tuple (by rfl) (a3_cons (p3_sortedL (x := "_law_piece") (y := "_law_cell") (q:=0) hm lk rfl ⟨rfl,rfl,rfl,by decide +kernel,rfl,by decide +kernel,by decide +kernel⟩ (hr.mono (by decide)) T.m_sorted (p3_var 2) (fun _ _ _ _ _ _ => p3_tup (a3_cons (p3_ix ix3 (p3_var 0) p3_int) (a3_cons (p3_ix ix3 (p3_var 0) p3_int) a3_nil))) lam_key (fun _ _ _ _ => rfl)) a3_nil))))),rd_l_piece⟩
theorem ok_inside_of (T:Tx K mg w):Fn P w K mg base 5 "inside_of" P_inside_of sp_inside_of:=by
 (refine Classical.byContradiction fun k_ => ?_; obtain ⟨f,fd,F,hm,hb⟩:=T.f_inside_of; refine k_ ?_; clear k_)
 exact fn3 F sc_inside_of hm hb len_inside_of fun cdv A outer s H E hr => ⟨t_inside_of,(s3_cons (s3_expr (p3_call (ok_check_letters T) (hr.mono (by decide)) (a3_cons (p3_var 1) a3_nil)))
   (s3_cons (s3_set 2 sc_inside_of.nd (p3_call (ok_way_of T) (hr.mono (by decide)) (a3_cons (p3_var 1) a3_nil)))
   (s3_cons (s3_if (p3_tcmp (op3_ne hr.units) (p3_var 2) (p3_tup (a3_cons p3_int (a3_cons p3_int a3_nil)))) (s3_one s3_never) s3_nil)
   (s3_cons (s3_expr (p3_call (ok_check_crossings T) (hr.mono (by decide)) (a3_cons (p3_var 1) a3_nil)))
   (s3_cons (s3_set 3 sc_inside_of.nd (p3_call (ok_area_of T) (hr.mono (by decide)) (a3_cons (p3_var 1) a3_nil)))
   (s3_cons (s3_if (p3_tcmp op3_le (p3_var 3) p3_int) (s3_one s3_never) s3_nil)
   (s3_cons (s3_if (p3_tcmp op3_gt (p3_var 3) (p3_globE rfl T.c_MOST_CELLS)) (s3_one s3_never) s3_nil)
   (s3_one (s3_ret (p3_callTy cb3_tuple rfl T.m_tuple (by rfl) (a3_cons (p3_call (ok_cells_within T) (hr.mono (by decide)) (a3_cons (p3_var 0) (a3_cons (p3_var 1) a3_nil))) a3_nil))))))))))),rd_inside_of⟩
theorem law_ok (T:Tx K mg w) {f:Addr} {fd:FuncData} (F:Fun K "law" "law" s_law f fd):FnOk P w K mg base CX0 6 f fd P_law (liftF K sp_law) :=
 fnok3 F sc_law len_law fun cdv A outer s H E hr => ⟨t_law,(s3_cons (s3_set 1 sc_law.nd (p3_call (ok_l_grown T) (hr.mono (by decide)) (a3_cons (p3_var 0) (a3_cons p3_int (a3_cons (p3_op op3_add p3_int (p3_op op3_mod (p3_call (ok_l_cell_at T) (hr.mono (by decide)) (a3_cons (p3_var 0) (a3_cons p3_int a3_nil))) p3_int)) a3_nil)))))
   (s3_cons (s3_set 2 sc_law.nd (p3_call (ok_l_piece T) (hr.mono (by decide)) (a3_cons (p3_var 1) (a3_cons (p3_call (ok_l_corner T) (hr.mono (by decide)) (a3_cons (p3_call (ok_l_cell_at T) (hr.mono (by decide)) (a3_cons (p3_var 0) (a3_cons p3_int a3_nil))) (a3_cons (p3_call (ok_l_cell_at T) (hr.mono (by decide)) (a3_cons (p3_var 0) (a3_cons p3_int a3_nil))) a3_nil))) a3_nil))))
   (s3_cons (s3_asg (p3_call (ok_border_of T) (hr.mono (by decide)) (a3_cons (p3_var 2) a3_nil)) (g3_pair 3 4 rfl sc_law.nd))
   (s3_cons (s3_if (p3_tnot (p3_tval (p3_call (ok_l_is_piece T) (hr.mono (by decide)) (a3_cons (p3_call (ok_inside_of T) (hr.mono (by decide)) (a3_cons (p3_var 3) (a3_cons (p3_var 4) a3_nil))) (a3_cons (p3_var 2) a3_nil))))) (s3_one (s3_ret p3_bl)) s3_nil)
   (s3_cons (s3_set 5 sc_law.nd (p3_op op3_mod (p3_op op3_fdivW (p3_call (ok_l_cell_at T) (hr.mono (by decide)) (a3_cons (p3_var 0) (a3_cons p3_int a3_nil))) p3_int) (p3_op op3_add (p3_callB cb3_len rfl T.m_len (by rfl) (a3_cons (p3_var 4) a3_nil)) p3_int)))
   (s3_cons (s3_set 6 sc_law.nd (p3_call (ok_inside_of T) (hr.mono (by decide)) (a3_cons (p3_ix ix3 (p3_call (ok_corners_of T) (hr.mono (by decide)) (a3_cons (p3_var 3) (a3_cons (p3_var 4) a3_nil))) (p3_var 5)) (a3_cons (p3_call (ok_begun_at T) (hr.mono (by decide)) (a3_cons (p3_var 4) (a3_cons (p3_var 5) a3_nil))) a3_nil))))
   (s3_one (s3_ret (p3_and (p3_call (ok_l_is_piece T) (hr.mono (by decide)) (a3_cons (p3_var 6) (a3_cons (p3_var 2) a3_nil))) (p3_one (p3_cmp (op3_eq hr.units) (p3_call (ok_border_of T) (hr.mono (by decide)) (a3_cons (p3_var 6) a3_nil)) (p3_tup (a3_cons (p3_var 3) (a3_cons (p3_var 4) a3_nil)))))))))))))),rd_law⟩
end
theorem all_mk {l:PySem.W.OpenLaw} {w:World} {K:PySem.W.Frag} {h:Heap} {mg:Str→Option Value} {fa f0 f1 f2 f3 f4 f5 f6 f7 f8 f9 f10 f11 f12 f13 f14 f15 f16 f17 f18 f19 f20 f21 f22:Addr} (X:K.In h) (G:h.Ns mainGlobals mg) (hfa:mg "law" = some (.ref fa))
  {od22 an22:Option Addr} {sl22:Array (Option Value)} {oc22 kV22 dc22 pm22 cd22 ct22:Value} {fd0 fd1 fd2 fd3 fd4 fd5 fd6 fd7 fd8 fd9 fd10 fd11 fd12 fd13 fd14 fd15 fd16 fd17 fd18 fd19 fd20 fd21:FuncData}
  {tk0:Tok}
  (a0:PySem.W.nsIn K mainGlobals "added" = some (some (.ref f0))) (F0:Fun K "added" "added" s_added f0 fd0)
  (a1:PySem.W.nsIn K mainGlobals "corners_of" = some (some (.ref f1))) (F1:Fun K "corners_of" "corners_of" s_corners_of f1 fd1)
  (a2:PySem.W.nsIn K mainGlobals "way_of" = some (some (.ref f2))) (F2:Fun K "way_of" "way_of" s_way_of f2 fd2)
  (a3:PySem.W.nsIn K mainGlobals "begun_at" = some (some (.ref f3))) (F3:Fun K "begun_at" "begun_at" s_begun_at f3 fd3)
  (a4:PySem.W.nsIn K mainGlobals "area_of" = some (some (.ref f4))) (F4:Fun K "area_of" "area_of" s_area_of f4 fd4)
  (a5:PySem.W.nsIn K mainGlobals "sides_of" = some (some (.ref f5))) (F5:Fun K "sides_of" "sides_of" s_sides_of f5 fd5)
  (a6:PySem.W.nsIn K mainGlobals "letters_by_corner" = some (some (.ref f6))) (F6:Fun K "letters_by_corner" "letters_by_corner" s_letters_by_corner f6 fd6)
  (a7:PySem.W.nsIn K mainGlobals "border_of" = some (some (.ref f7))) (F7:Fun K "border_of" "border_of" s_border_of f7 fd7)
  (a8:PySem.W.nsIn K mainGlobals "check_letters" = some (some (.ref f8))) (F8:Fun K "check_letters" "check_letters" s_check_letters f8 fd8)
  (a9:PySem.W.nsIn K mainGlobals "check_crossings" = some (some (.ref f9))) (F9:Fun K "check_crossings" "check_crossings" s_check_crossings f9 fd9)
  (a10:PySem.W.nsIn K mainGlobals "upright_sides" = some (some (.ref f10))) (F10:Fun K "upright_sides" "upright_sides" s_upright_sides f10 fd10)
  (a11:PySem.W.nsIn K mainGlobals "cells_within" = some (some (.ref f11))) (F11:Fun K "cells_within" "cells_within" s_cells_within f11 fd11)
  (a12:PySem.W.nsIn K mainGlobals "inside_of" = some (some (.ref f12))) (F12:Fun K "inside_of" "inside_of" s_inside_of f12 fd12)
  (a13:PySem.W.nsIn K mainGlobals "_law_cell_at" = some (some (.ref f13))) (F13:Fun K "_law_cell_at" "_law_cell_at" s_l_cell_at f13 fd13)
  (a14:PySem.W.nsIn K mainGlobals "_law_corner" = some (some (.ref f14))) (F14:Fun K "_law_corner" "_law_corner" s_l_corner f14 fd14)
  (a15:PySem.W.nsIn K mainGlobals "_law_step" = some (some (.ref f15))) (F15:Fun K "_law_step" "_law_step" s_l_step f15 fd15)
  (a16:PySem.W.nsIn K mainGlobals "_law_whole" = some (some (.ref f16))) (F16:Fun K "_law_whole" "_law_whole" s_l_whole f16 fd16)
  (a17:PySem.W.nsIn K mainGlobals "_law_pair" = some (some (.ref f17))) (F17:Fun K "_law_pair" "_law_pair" s_l_pair f17 fd17)
  (a18:PySem.W.nsIn K mainGlobals "_law_holed" = some (some (.ref f18))) (F18:Fun K "_law_holed" "_law_holed" s_l_holed f18 fd18)
  (a19:PySem.W.nsIn K mainGlobals "_law_grown" = some (some (.ref f19))) (F19:Fun K "_law_grown" "_law_grown" s_l_grown f19 fd19)
  (a20:PySem.W.nsIn K mainGlobals "_law_piece" = some (some (.ref f20))) (F20:Fun K "_law_piece" "_law_piece" s_l_piece f20 fd20)
  (a21:PySem.W.nsIn K mainGlobals "_law_is_piece" = some (some (.ref f21))) (F21:Fun K "_law_is_piece" "_law_is_piece" s_l_is_piece f21 fd21)
  (a22:PySem.W.nsIn K mainGlobals "law" = some (some (.ref f22))) (l22:K.lookup f22 = some ⟨oc22,od22,.func (PySem.W.fnOf "law" "law" (defArgs s_law) (defBody s_law) (defScope s_law) .none kV22 dc22 pm22 an22 cd22 ct22),sl22⟩) (c22:PySem.W.codeIn K cd22 "law" = true) (k22:PySem.W.keepIn K (.ref f22) = true)
  (z0:PySem.W.nsIn K mainGlobals "all" = some none)
  (z1:PySem.W.nsIn K mainGlobals "bool" = some none)
  (z2:PySem.W.nsIn K mainGlobals "enumerate" = some none)
  (z3:PySem.W.nsIn K mainGlobals "int" = some none)
  (z4:PySem.W.nsIn K mainGlobals "isinstance" = some none)
  (z5:PySem.W.nsIn K mainGlobals "len" = some none)
  (z6:PySem.W.nsIn K mainGlobals "max" = some none)
  (z7:PySem.W.nsIn K mainGlobals "min" = some none)
  (z8:PySem.W.nsIn K mainGlobals "range" = some none)
  (z9:PySem.W.nsIn K mainGlobals "sorted" = some none)
  (z10:PySem.W.nsIn K mainGlobals "tuple" = some none)
  (z11:PySem.W.nsIn K mainGlobals "zip" = some none)
  (y0:PySem.W.nsIn K mainGlobals "MOST_CELLS" = some (some (.int 10 tk0)))
  {dA0 dB0_0 dB0_1 dB0_2 dB0_3:Addr} {dT0_0 dX0_0_0 dX0_0_1 dT0_1 dX0_1_0 dX0_1_1 dT0_2 dX0_2_0 dX0_2_1 dT0_3 dX0_3_0 dX0_3_1:Tok} {dE0 dN0_0 dN0_1 dN0_2 dN0_3:Nat}
  (dQ0:PySem.W.nsIn K mainGlobals "STEPS" = some (some (.ref dA0))) (dR0:K.lookup dA0 = some ⟨.type "dict",none,.dict #[⟨PyData.keyHash w.params "e",.str "e" dT0_0,.ref dB0_0⟩,⟨PyData.keyHash w.params "n",.str "n" dT0_1,.ref dB0_1⟩,⟨PyData.keyHash w.params "w",.str "w" dT0_2,.ref dB0_2⟩,⟨PyData.keyHash w.params "s",.str "s" dT0_3,.ref dB0_3⟩] dE0,#[]⟩) (dU0:(dA0 == sysModules) = false)
  (dS0_0:K.lookup dB0_0 = some ⟨.type "tuple",none,.seq #[.int 1 dX0_0_0,.int 0 dX0_0_1] dN0_0,#[]⟩)
  (dS0_1:K.lookup dB0_1 = some ⟨.type "tuple",none,.seq #[.int 0 dX0_1_0,.int 1 dX0_1_1] dN0_1,#[]⟩)
  (dS0_2:K.lookup dB0_2 = some ⟨.type "tuple",none,.seq #[.int (-1) dX0_2_0,.int 0 dX0_2_1] dN0_2,#[]⟩)
  (dS0_3:K.lookup dB0_3 = some ⟨.type "tuple",none,.seq #[.int 0 dX0_3_0,.int (-1) dX0_3_1] dN0_3,#[]⟩)
  : ∃ fd:FuncData,(∀ (s:Shared) (v:Value),BindsTo s fd ⟨[v],[]⟩ [("_law_script",v)])∧∀ base:Heap,K.In base→base.Ns mainGlobals mg→FnOk l.prog w K mg base CX0 6 fa fd ["_law_script"] (liftF K sp_law):=by
 have b0:=F0.binds (ps:=P_added) fun _ _ _ _ _ _ us hl => by obtain ⟨_,_,rfl⟩:=len2 hl; rfl
 have b1:=F1.binds (ps:=P_corners_of) fun _ _ _ _ _ _ us hl => by obtain ⟨_,_,rfl⟩:=len2 hl; rfl
 have b2:=F2.binds (ps:=P_way_of) fun _ _ _ _ _ _ us hl => by obtain ⟨_,rfl⟩:=len1 hl; rfl
 have b3:=F3.binds (ps:=P_begun_at) fun _ _ _ _ _ _ us hl => by obtain ⟨_,_,rfl⟩:=len2 hl; rfl
 have b4:=F4.binds (ps:=P_area_of) fun _ _ _ _ _ _ us hl => by obtain ⟨_,rfl⟩:=len1 hl; rfl
 have b5:=F5.binds (ps:=P_sides_of) fun _ _ _ _ _ _ us hl => by obtain ⟨_,rfl⟩:=len1 hl; rfl
 have b6:=F6.binds (ps:=P_letters_by_corner) fun _ _ _ _ _ _ us hl => by obtain ⟨_,rfl⟩:=len1 hl; rfl
 have b7:=F7.binds (ps:=P_border_of) fun _ _ _ _ _ _ us hl => by obtain ⟨_,rfl⟩:=len1 hl; rfl
 have b8:=F8.binds (ps:=P_check_letters) fun _ _ _ _ _ _ us hl => by obtain ⟨_,rfl⟩:=len1 hl; rfl
 have b9:=F9.binds (ps:=P_check_crossings) fun _ _ _ _ _ _ us hl => by obtain ⟨_,rfl⟩:=len1 hl; rfl
 have b10:=F10.binds (ps:=P_upright_sides) fun _ _ _ _ _ _ us hl => by obtain ⟨_,_,rfl⟩:=len2 hl; rfl
 have b11:=F11.binds (ps:=P_cells_within) fun _ _ _ _ _ _ us hl => by obtain ⟨_,_,rfl⟩:=len2 hl; rfl
 have b12:=F12.binds (ps:=P_inside_of) fun _ _ _ _ _ _ us hl => by obtain ⟨_,_,rfl⟩:=len2 hl; rfl
 have b13:=F13.binds (ps:=P_l_cell_at) fun _ _ _ _ _ _ us hl => by obtain ⟨_,_,rfl⟩:=len2 hl; rfl
 have b14:=F14.binds (ps:=P_l_corner) fun _ _ _ _ _ _ us hl => by obtain ⟨_,_,rfl⟩:=len2 hl; rfl
 have b15:=F15.binds (ps:=P_l_step) fun _ _ _ _ _ _ us hl => by obtain ⟨_,rfl⟩:=len1 hl; rfl
 have b16:=F16.binds (ps:=P_l_whole) fun _ _ _ _ _ _ us hl => by obtain ⟨_,rfl⟩:=len1 hl; rfl
 have b17:=F17.binds (ps:=P_l_pair) fun _ _ _ _ _ _ us hl => by obtain ⟨_,_,rfl⟩:=len2 hl; rfl
 have b18:=F18.binds (ps:=P_l_holed) fun _ _ _ _ _ _ us hl => by obtain ⟨_,rfl⟩:=len1 hl; rfl
 have b19:=F19.binds (ps:=P_l_grown) fun _ _ _ _ _ _ us hl => by obtain ⟨_,_,_,rfl⟩:=len3 hl; rfl
 have b20:=F20.binds (ps:=P_l_piece) fun _ _ _ _ _ _ us hl => by obtain ⟨_,_,rfl⟩:=len2 hl; rfl
 have b21:=F21.binds (ps:=P_l_is_piece) fun _ _ _ _ _ _ us hl => by obtain ⟨_,_,rfl⟩:=len2 hl; rfl
 have F22:=fun_mk (st:=s_law) l22 c22 k22
 have b22:=F22.binds (ps:=P_law) fun _ _ _ _ _ _ us hl => by obtain ⟨_,rfl⟩:=len1 hl; rfl
 have T:Tx K mg w:=⟨⟨_,_,F0,PySem.W.mg_of X G a0,b0⟩,⟨_,_,F1,PySem.W.mg_of X G a1,b1⟩,⟨_,_,F2,PySem.W.mg_of X G a2,b2⟩,⟨_,_,F3,PySem.W.mg_of X G a3,b3⟩,⟨_,_,F4,PySem.W.mg_of X G a4,b4⟩,⟨_,_,F5,PySem.W.mg_of X G a5,b5⟩,⟨_,_,F6,PySem.W.mg_of X G a6,b6⟩,⟨_,_,F7,PySem.W.mg_of X G a7,b7⟩,⟨_,_,F8,PySem.W.mg_of X G a8,b8⟩,⟨_,_,F9,PySem.W.mg_of X G a9,b9⟩,⟨_,_,F10,PySem.W.mg_of X G a10,b10⟩,⟨_,_,F11,PySem.W.mg_of X G a11,b11⟩,⟨_,_,F12,PySem.W.mg_of X G a12,b12⟩,⟨_,_,F13,PySem.W.mg_of X G a13,b13⟩,⟨_,_,F14,PySem.W.mg_of X G a14,b14⟩,⟨_,_,F15,PySem.W.mg_of X G a15,b15⟩,⟨_,_,F16,PySem.W.mg_of X G a16,b16⟩,⟨_,_,F17,PySem.W.mg_of X G a17,b17⟩,⟨_,_,F18,PySem.W.mg_of X G a18,b18⟩,⟨_,_,F19,PySem.W.mg_of X G a19,b19⟩,⟨_,_,F20,PySem.W.mg_of X G a20,b20⟩,⟨_,_,F21,PySem.W.mg_of X G a21,b21⟩,PySem.W.mg_none_of X G z0,PySem.W.mg_none_of X G z1,PySem.W.mg_none_of X G z2,PySem.W.mg_none_of X G z3,PySem.W.mg_none_of X G z4,PySem.W.mg_none_of X G z5,PySem.W.mg_none_of X G z6,PySem.W.mg_none_of X G z7,PySem.W.mg_none_of X G z8,PySem.W.mg_none_of X G z9,PySem.W.mg_none_of X G z10,PySem.W.mg_none_of X G z11,⟨_,PySem.W.mg_of X G dQ0,⟨⟨_,_,_,dR0,⟨rfl,rfl,rfl⟩,rfl,.cons (.tupI ⟨_,_,_,dS0_0,rfl,rfl,(by show 2≤sizeLine; decide),.cons ⟨_,rfl⟩ (.cons ⟨_,rfl⟩ (.nil))⟩) (.cons (.tupI ⟨_,_,_,dS0_1,rfl,rfl,(by show 2≤sizeLine; decide),.cons ⟨_,rfl⟩ (.cons ⟨_,rfl⟩ (.nil))⟩) (.cons (.tupI ⟨_,_,_,dS0_2,rfl,rfl,(by show 2≤sizeLine; decide),.cons ⟨_,rfl⟩ (.cons ⟨_,rfl⟩ (.nil))⟩) (.cons (.tupI ⟨_,_,_,dS0_3,rfl,rfl,(by show 2≤sizeLine; decide),.cons ⟨_,rfl⟩ (.cons ⟨_,rfl⟩ (.nil))⟩) (.nil))))⟩,by decide,dU0⟩⟩,⟨_,PySem.W.mg_of X G y0⟩⟩
 have e:=hfa.symm.trans (PySem.W.mg_of X G a22)
 cases e
 refine ⟨PySem.W.fnOf "law" "law" (defArgs s_law) (defBody s_law) (defScope s_law) .none kV22 dc22 pm22 an22 cd22 ct22,fun s v => .of_eq rfl,fun base _ _ => ?_⟩
 exact law_ok T F22
end Law
open PySem PySem.W PyProof.Rows
set_option maxRecDepth 100000 in
set_option maxHeartbeats 0 in
theorem PySem.Challenge.cw_borderfloor_k16_whole_border_and_back_holds : PySem.Challenge.rw_borderfloor_k16_whole_border_and_back.Holds := by
 w_on; o_law; k_head; (case hw => w_witness2)
 k_fill
 refine' L3.walk_ofT (l:=PySem.Challenge.rw_borderfloor_k16_whole_border_and_back) (n:=63) (k:=6) (x := "_law_script") (xt := "_law_piece") (sp:=Law.sp_law) rfl (by decide) rfl ⟨rfl,by decide,by decide⟩ (fun w h Y => PySem.W.km_in_of Y) ?R ?T ?B ?NB ?NT ?F ?S
 case R => rfl
 case T =>
  intro w
  refine' L3.tabIn_of ?h1 ?h2 ?h3 ?h4 ?h5
  (case h1 => k_is)
  (case h2 => k_is)
  (case h3 => rfl)
  (case h4 => k_is)
  (case h5 => rfl)
 case B => intro w; k_is
 case NB => intro w; kernel_rfl
 case NT => intro w; kernel_rfl
 case F =>
  intro w mg fa h KX G hmg
  refine' Law.all_mk KX G hmg ?a0 (L2.fun_mk ?l0 ?c0 ?k0) ?a1 (L2.fun_mk ?l1 ?c1 ?k1) ?a2 (L2.fun_mk ?l2 ?c2 ?k2) ?a3 (L2.fun_mk ?l3 ?c3 ?k3) ?a4 (L2.fun_mk ?l4 ?c4 ?k4) ?a5 (L2.fun_mk ?l5 ?c5 ?k5) ?a6 (L2.fun_mk ?l6 ?c6 ?k6) ?a7 (L2.fun_mk ?l7 ?c7 ?k7) ?a8 (L2.fun_mk ?l8 ?c8 ?k8) ?a9 (L2.fun_mk ?l9 ?c9 ?k9) ?a10 (L2.fun_mk ?l10 ?c10 ?k10) ?a11 (L2.fun_mk ?l11 ?c11 ?k11) ?a12 (L2.fun_mk ?l12 ?c12 ?k12) ?a13 (L2.fun_mk ?l13 ?c13 ?k13) ?a14 (L2.fun_mk ?l14 ?c14 ?k14) ?a15 (L2.fun_mk ?l15 ?c15 ?k15) ?a16 (L2.fun_mk ?l16 ?c16 ?k16) ?a17 (L2.fun_mk ?l17 ?c17 ?k17) ?a18 (L2.fun_mk ?l18 ?c18 ?k18) ?a19 (L2.fun_mk ?l19 ?c19 ?k19) ?a20 (L2.fun_mk ?l20 ?c20 ?k20) ?a21 (L2.fun_mk ?l21 ?c21 ?k21) ?a22 ?l22 ?c22 ?k22 ?z0 ?z1 ?z2 ?z3 ?z4 ?z5 ?z6 ?z7 ?z8 ?z9 ?z10 ?z11 ?y0 ?dQ0 ?dR0 ?dU0 ?dS0_0 ?dS0_1 ?dS0_2 ?dS0_3
  (case a0 => k_is)
  (case l0 => k_is)
  (case c0 => k_is)
  (case k0 => k_is)
  (case a1 => k_is)
  (case l1 => k_is)
  (case c1 => k_is)
  (case k1 => k_is)
  (case a2 => k_is)
  (case l2 => k_is)
  (case c2 => k_is)
  (case k2 => k_is)
  (case a3 => k_is)
  (case l3 => k_is)
  (case c3 => k_is)
  (case k3 => k_is)
  (case a4 => k_is)
  (case l4 => k_is)
  (case c4 => k_is)
  (case k4 => k_is)
  (case a5 => k_is)
  (case l5 => k_is)
  (case c5 => k_is)
  (case k5 => k_is)
  (case a6 => k_is)
  (case l6 => k_is)
  (case c6 => k_is)
  (case k6 => k_is)
  (case a7 => k_is)
  (case l7 => k_is)
  (case c7 => k_is)
  (case k7 => k_is)
  (case a8 => k_is)
  (case l8 => k_is)
  (case c8 => k_is)
  (case k8 => k_is)
  (case a9 => k_is)
  (case l9 => k_is)
  (case c9 => k_is)
  (case k9 => k_is)
  (case a10 => k_is)
  (case l10 => k_is)
  (case c10 => k_is)
  (case k10 => k_is)
  (case a11 => k_is)
  (case l11 => k_is)
  (case c11 => k_is)
  (case k11 => k_is)
  (case a12 => k_is)
  (case l12 => k_is)
  (case c12 => k_is)
  (case k12 => k_is)
  (case a13 => k_is)
  (case l13 => k_is)
  (case c13 => k_is)
  (case k13 => k_is)
  (case a14 => k_is)
  (case l14 => k_is)
  (case c14 => k_is)
  (case k14 => k_is)
  (case a15 => k_is)
  (case l15 => k_is)
  (case c15 => k_is)
  (case k15 => k_is)
  (case a16 => k_is)
  (case l16 => k_is)
  (case c16 => k_is)
  (case k16 => k_is)
  (case a17 => k_is)
  (case l17 => k_is)
  (case c17 => k_is)
  (case k17 => k_is)
  (case a18 => k_is)
  (case l18 => k_is)
  (case c18 => k_is)
  (case k18 => k_is)
  (case a19 => k_is)
  (case l19 => k_is)
  (case c19 => k_is)
  (case k19 => k_is)
  (case a20 => k_is)
  (case l20 => k_is)
  (case c20 => k_is)
  (case k20 => k_is)
  (case a21 => k_is)
  (case l21 => k_is)
  (case c21 => k_is)
  (case k21 => k_is)
  (case a22 => k_is)
  (case l22 => k_is)
  (case c22 => k_is)
  (case k22 => k_is)
  (case z0 => k_is)
  (case z1 => k_is)
  (case z2 => k_is)
  (case z3 => k_is)
  (case z4 => k_is)
  (case z5 => k_is)
  (case z6 => k_is)
  (case z7 => k_is)
  (case z8 => k_is)
  (case z9 => k_is)
  (case z10 => k_is)
  (case z11 => k_is)
  (case y0 => k_is)
  (case dQ0 => k_is)
  (case dR0 => k_is)
  (case dU0 => rfl)
  (case dS0_0 => k_is)
  (case dS0_1 => k_is)
  (case dS0_2 => k_is)
  (case dS0_3 => k_is)
 case S => exact fun H ns hl h => Law.begin_law hl h
end
