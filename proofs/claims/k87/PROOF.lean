import PyProof.Rows.All
import Wide.All
import OpenK.AllK
import Wide.FinOn
import Lean
import PyProof.EqAt
import PyProof.EqKinds
import PyProof.TupleCall
import PySem.Challenge.RW_steermill_k87_whole_cheapest
set_option Elab.async false
set_option linter.all false
set_option maxRecDepth 100000
namespace L2
open PySem PySem.Spec PyProof.Rows
noncomputable abbrev Key:=Sum Int Str
noncomputable def keyIs:Key→Value→Bool
 | .inl k,v=>Value.isInt k v
 | .inr x,v=>Value.isStrOf x v
noncomputable def keyH (w:World):Key→Int
 | .inl k=>hashInt k
 | .inr x=>hashStr w x
theorem yw:∀ {k:Key} {v:Value},keyIs k v = true→(∃ i t,k = Sum.inl i∧v = Value.int i t)∨(∃ x t,k = Sum.inr x∧v = Value.str x t)
 | .inl i,v,h=>by
  obtain ⟨t,e⟩:=Value.isInt_shape (k:=i) (v:=v) h
  exact .inl ⟨i,t,rfl,e⟩
 | .inr x,v,h=>by
  obtain ⟨t,e⟩:=Value.isStrOf_shape (x:=x) (v:=v) h
  exact .inr ⟨x,t,rfl,e⟩
theorem zhB (a b:Int):decide ((Sum.inl a:Key) = Sum.inl b) = (a == b):=by
 by_cases e:a = b
 ·subst e; simp
 ·have h:¬ (Sum.inl a:Key) = Sum.inl b:=fun q=>e (Sum.inl.inj q)
  rw [decide_eq_false h]
  exact (beq_eq_false_iff_ne.mpr e).symm
theorem zh8 (a b:Str):decide ((Sum.inr a:Key) = Sum.inr b) = decide (a = b):=by
 by_cases e:a = b
 ·subst e; simp
 ·have h:¬ (Sum.inr a:Key) = Sum.inr b:=fun q=>e (Sum.inr.inj q)
  rw [decide_eq_false h,decide_eq_false e]
theorem zhN (a:Int) (b:Str):decide ((Sum.inl a:Key) = Sum.inr b) = false:=decide_eq_false (fun q=>nomatch q)
theorem zhO (a:Str) (b:Int):decide ((Sum.inr a:Key) = Sum.inl b) = false:=decide_eq_false (fun q=>nomatch q)
noncomputable def mixKind (prog:Program) (w:World):PySem.KeyKind prog w Key where
 is:=keyIs
 hash:=keyH w
 inj:=fun v a b ha hb=>by
  rcases yw ha with ⟨i,t,rfl,rfl⟩ | ⟨x,t,rfl,rfl⟩
  ·rcases yw hb with ⟨j,u,rfl,e⟩ | ⟨y,u,rfl,e⟩
   ·injection e with e1 _; rw [e1]
   ·exact nomatch e
  ·rcases yw hb with ⟨j,u,rfl,e⟩ | ⟨y,u,rfl,e⟩
   ·exact nomatch e
   ·injection e with e1 _; rw [e1]
 byValue:=fun k v h=>by
  rcases yw h with ⟨i,t,rfl,rfl⟩ | ⟨x,t,rfl,rfl⟩ <;> rfl
 pyHash:=fun hv h=>by
  rcases yw hv with ⟨i,t,rfl,rfl⟩ | ⟨x,t,rfl,rfl⟩
  ·exact wpAny_pyHash_int h
  ·exact wpAny_pyHash_str h
 eqBool:=fun hu hv h=>by
  rcases yw hu with ⟨i,t,rfl,rfl⟩ | ⟨x,t,rfl,rfl⟩
  ·rcases yw hv with ⟨j,u,rfl,rfl⟩ | ⟨y,u,rfl,rfl⟩
   ·rw [zhB] at h; exact wpAny_eqBool_int h
   ·rw [zhN] at h; exact SeqAt.EqAt.int_str i t y u _ _ _ _ h
  ·rcases yw hv with ⟨j,u,rfl,rfl⟩ | ⟨y,u,rfl,rfl⟩
   ·rw [zhO] at h; exact SeqAt.EqAt.str_int x t j u _ _ _ _ h
   ·rw [zh8] at h; exact wpAny_eqBool_str h
 «strs»:=fun k x t v h=>by
  rcases yw h with ⟨i,u,rfl,e⟩ | ⟨y,u,rfl,e⟩
  ·exact nomatch e
  ·injection e with e1 _
   subst e1
   cases v <;> rfl
end L2
namespace L2
open PySem PySem.Spec PyProof.Rows
inductive V where
 | non | bl (b:Bool) | int (i:Int) | str (x:Str) | byt (b:Array UInt8) | flt (b:UInt64) | ref (a:Addr) | ty (n:String)
 deriving DecidableEq
noncomputable def RelV:V→Value→Prop
 | .non,u=>u = Value.none
 | .bl b,u=>u = Value.bool b
 | .int i,u=>∃ t,u = Value.int i t
 | .str x,u=>∃ t,u = Value.str x t
 | .byt b,u=>∃ t,u = Value.bytes b t
 | .flt b,u=>∃ t,u = Value.float b t
 | .ref a,u=>u = Value.ref a
 | .ty n,u=>u = Value.type n
noncomputable abbrev Vals:List V→List Value→Prop:=Paired RelV
theorem Vals.length {xs:List V} {us:List Value} (r:Vals xs us):xs.length = us.length:=Paired.length r
theorem Vals.get:∀ {xs:List V} {us:List Value} {i:Nat} {x:V},Vals xs us→xs[i]? = some x→∃ u,us[i]? = some u∧RelV x u
 | _,_,_,_,.nil,e=>by simp at e
 | _,_,0,_,.cons r _,e=>by simp at e; subst e; exact ⟨_,rfl,r⟩
 | _,_,i + 1,x,.cons _ t,e=>by
  obtain ⟨u,h1,h2⟩:=Vals.get (i:=i) (x:=x) t (by simpa using e)
  exact ⟨u,by simpa using h1,h2⟩
theorem Vals.set {x:V} {u:Value} (r:RelV x u):∀ {xs:List V} {us:List Value} (i:Nat),Vals xs us→Vals (xs.set i x) (us.set i u)
 | _,_,_,.nil=>.nil
 | _,_,0,.cons _ t=>.cons r t
 | _,_,i + 1,.cons q t=>.cons q (Vals.set r i t)
theorem Vals.append:∀ {xs ys:List V} {us ws:List Value},Vals xs us→Vals ys ws→Vals (xs ++ ys) (us ++ ws)
 | _,_,_,_,.nil,s=>s
 | _,_,_,_,.cons r t,s=>.cons r (Vals.append t s)
theorem Vals.take:∀ {xs:List V} {us:List Value} (n:Nat),Vals xs us→Vals (xs.take n) (us.take n)
 | _,_,0,_=>.nil
 | _,_,_ + 1,.nil=>.nil
 | _,_,n + 1,.cons r t=>.cons r (Vals.take n t)
theorem Vals.drop:∀ {xs:List V} {us:List Value} (n:Nat),Vals xs us→Vals (xs.drop n) (us.drop n)
 | _,_,0,r=>r
 | _,_,_ + 1,.nil=>.nil
 | _,_,n + 1,.cons _ t=>Vals.drop n t
noncomputable def RelO:Option V→Option Value→Prop
 | some v,some u=>RelV v u
 | none,none=>True
 | _,_=>False
noncomputable def KV {κ:Type}:List (κ×V)→List (κ×Value)→Prop:=Paired fun (p:κ×V) (q:κ×Value)=>p.1 = q.1∧RelV p.2 q.2
noncomputable def kV:Key→V
 | .inl i=>.int i
 | .inr x=>.str x
inductive HO where
 | lst (xs:List V)
 | tup (xs:List V)
 | dK (kvs:List (Key×V)) | dT (kvs:List (List Key×V))
 | set (S:Int→Bool) (n:Nat)
 | ins (C dx:Addr) (fs:List (Str×V))
 | own (x:Addr)
 | xd (fs:List (Str×V))
 | met (f x:Addr)
 | rng (lo hi:Int)
 | frz (o:Obj) (u:HO)
 | tbl (ps:Array Value)
 | ext (φ:Heap→Prop)
noncomputable abbrev Hp:=Addr→Option HO
noncomputable def upd (H:Hp) (a:Addr) (o:HO):Hp:=fun b=>if b = a then some o else H b
theorem zf {H:Hp} {a:Addr} {o:HO}:upd H a o a = some o:=by unfold upd; rw [if_pos rfl]
theorem zJ {H:Hp} {a b:Addr} {o:HO} (h:b≠a):upd H a o b = H b:=by unfold upd; rw [if_neg h]
theorem zY {H:Hp} {a b:Addr} {o:HO} (h:H a = some o) (h':H b = none):a≠b:=by
 intro e; subst e; rw [h] at h'; cases h'
section
variable (P:Program) (w:World)
noncomputable def ObjOk (H:Hp) (h:Heap) (a:Addr):HO→Prop
 | .lst xs=>xs.length≤sizeLine∧∃ (its:List Value) (n:Nat),Vals xs its∧h.get? a = some { cls:=.type "list",data:=.seq its.toArray n }
 | .tup xs=>xs.length≤sizeLine∧∃ its:List Value,Vals xs its∧IsTup h a its.toArray
 | .dK kvs=>kvs.length≤sizeLine∧(a == sysModules) = false∧∃ vs,KV kvs vs∧h.DictOf (mixKind P w) a vs
 | .dT kvs=>kvs.length≤sizeLine∧(a == sysModules) = false∧∃ xs:List (List Key×Addr×Value),
   Paired (fun (p:List Key×V) (q:List Key×Addr×Value)=>p.1 = q.1∧H q.2.1 = some (.tup (p.1.map kV))∧RelV p.2 q.2.2) kvs xs ∧
   ∃ o es ep,h.get? a = some o∧o.ExactDict∧o.data = .dict es ep∧es.toList = xs.map (entryOfKey (tupleKind (mixKind P w)))∧(xs.map (·.1)).Nodup
 | .set S n=>h.SetOf (intKind P w) a S n
 | .ins C dx fs=>H dx = some (.own a)∧fs.length≤1000∧dx≠a∧h.get? a = some (PySem.W.instObj C dx) ∧
   ∃ mA,h.Ns1 dx mA∧(∀ f,RelO (fs.lookup f) (mA f))∧PySem.Within mA (fs.map (·.1))
 | .own _=>∃ o,h.get? a = some o
 | .xd fs=>∃ mA,h.Ns1 a mA∧∀ f,RelO (fs.lookup f) (mA f)
 | .rng lo hi=>∃ t u v,h.get? a = some { cls:=.type "range",data:=.fields #[.int lo t,.int hi u,.int 1 v] }
 | .frz o u=>h.get? a = some o∧ObjOk H h a u
 | .tbl ps=>h.get? a = some { cls:=.none,data:=.fields ps }
 | .met f x=>h.get? a = some (PySem.W.methodObj (.ref f) (.ref x))
 | .ext φ=>φ h∧(∃ o,h.get? a = some o)∧∀ h1 h2:Heap,φ h1→(∀ o,h1.get? a = some o→h2.get? a = some o)→φ h2
noncomputable def HOk (H:Hp) (h:Heap):Prop:=∀ a o,H a = some o→ObjOk P w H h a o
end
section
variable {P:Program} {w:World} {H H':Hp} {h h':Heap} {a:Addr} {o:HO}
theorem ObjOk.lt (x:ObjOk P w H h a o):a < h.objs.size:=by
 cases o with
 | lst xs=>obtain ⟨_,_,_,_,e⟩:=x; exact Heap.lt_size e
 | tup xs=>obtain ⟨_,_,_,p⟩:=x; exact p.lt
 | dK kvs=>obtain ⟨_,_,_,_,o,_,_,e,_⟩:=x; exact Heap.lt_size e
 | dT kvs=>obtain ⟨_,_,_,_,o,_,_,e,_⟩:=x; exact Heap.lt_size e
 | set S n=>obtain ⟨o,_,_,_,e,_⟩:=x; exact Heap.lt_size e
 | ins C dx fs=>obtain ⟨_,_,_,e,_⟩:=x; exact Heap.lt_size e
 | own y=>obtain ⟨_,e⟩:=x; exact Heap.lt_size e
 | xd fs=>obtain ⟨_,⟨_,_,_,e,_⟩,_⟩:=x; exact Heap.lt_size e
 | rng lo hi=>obtain ⟨_,_,_,e⟩:=x; exact Heap.lt_size e
 | frz ob u=>obtain ⟨e,_⟩:=x; exact Heap.lt_size e
 | tbl ps=>exact Heap.lt_size (show h.get? a = some _ from x)
 | met f y=>exact Heap.lt_size (show h.get? a = some _ from x)
 | ext φ=>obtain ⟨_,⟨_,e⟩,_⟩:=x; exact Heap.lt_size e
theorem Paired.mapP {α β:Type} {F G:α→β→Prop}:∀ {l₁:List α} {l₂:List β},Paired F l₁ l₂→(∀ a b,F a b→G a b)→Paired G l₁ l₂
 | _,_,.nil,_=>.nil
 | _,_,.cons r t,f=>.cons (f _ _ r) (Paired.mapP t f)
theorem ObjOk.stay (x:ObjOk P w H h a o) (k:∀ b u,(b = a∨H b = some (.own a))→h.get? b = some u→h'.get? b = some u)
  (ho:∀ b,H b = some (.own a)→H' b = some (.own a)) (ht:∀ b xs,H b = some (.tup xs)→H' b = some (.tup xs)):ObjOk P w H' h' a o:=by
 induction o with
 | lst xs=>obtain ⟨z,its,n,r,e⟩:=x; exact ⟨z,its,n,r,k _ _ (.inl rfl) e⟩
 | tup xs=>obtain ⟨z,its,r,ob,e,c⟩:=x; exact ⟨z,its,r,ob,k _ _ (.inl rfl) e,c⟩
 | dK kvs=>obtain ⟨z,y,vs,r,ob,es,ep,e,c⟩:=x; exact ⟨z,y,vs,r,ob,es,ep,k _ _ (.inl rfl) e,c⟩
 | dT kvs =>
  obtain ⟨z,y,xs,r,ob,es,ep,e,c⟩:=x
  exact ⟨z,y,xs,Paired.mapP r fun p q z=>⟨z.1,ht _ _ z.2.1,z.2.2⟩,ob,es,ep,k _ _ (.inl rfl) e,c⟩
 | set S n=>obtain ⟨ob,es,ep,t,e,c⟩:=x; exact ⟨ob,es,ep,t,k _ _ (.inl rfl) e,c⟩
 | ins C dx fs =>
  obtain ⟨d,z,ne,e,mA,⟨od,es,ep,e2,c⟩,r⟩:=x
  exact ⟨ho _ d,z,ne,k _ _ (.inl rfl) e,mA,⟨od,es,ep,k _ _ (.inr d) e2,c⟩,r⟩
 | own y=>obtain ⟨ob,e⟩:=x; exact ⟨ob,k _ _ (.inl rfl) e⟩
 | xd fs=>obtain ⟨mA,⟨od,es,ep,e,c⟩,r⟩:=x; exact ⟨mA,⟨od,es,ep,k _ _ (.inl rfl) e,c⟩,r⟩
 | rng lo hi=>obtain ⟨t,u,v,e⟩:=x; exact ⟨t,u,v,k _ _ (.inl rfl) e⟩
 | frz ob u ih=>obtain ⟨e,q⟩:=x; exact ⟨k _ _ (.inl rfl) e,ih q⟩
 | tbl ps =>
  have e:h.get? a = some { cls:=.none,data:=.fields ps }:=x
  show h'.get? a = some { cls:=.none,data:=.fields ps }
  exact k a _ (.inl rfl) e
 | met f y =>
  have e:h.get? a = some (PySem.W.methodObj (.ref f) (.ref y)):=x
  show h'.get? a = some (PySem.W.methodObj (.ref f) (.ref y))
  exact k a _ (.inl rfl) e
 | ext φ=>obtain ⟨p,⟨o,e⟩,st⟩:=x; exact ⟨st _ _ p fun o q=>k _ _ (.inl rfl) q,⟨o,k _ _ (.inl rfl) e⟩,st⟩
theorem HOk.lt (x:HOk P w H h) (e:H a = some o):a < h.objs.size:=(x a o e).lt
theorem HOk.fresh (x:HOk P w H h) (e:h.objs.size≤a):H a = none:=by
 cases q:H a with
 | none=>rfl
 | some u=>exact absurd (Nat.lt_of_lt_of_le (x.lt q) e) (Nat.lt_irrefl _)
theorem HOk.kept (x:HOk P w H h) (k:∀ b u,h.get? b = some u→h'.get? b = some u):HOk P w H h':=fun a o e =>
 (x a o e).stay (fun b u _ q=>k b u q) (fun _ q=>q) fun _ _ q=>q
theorem HOk.laid (x:HOk P w H h) (k:∀ b u,h.get? b = some u→h'.get? b = some u) (hp:h.objs.size≤a) (new:ObjOk P w (upd H a o) h' a o):HOk P w (upd H a o) h':=fun b u e=>by
 have hn:=x.fresh hp
 by_cases hb:b = a
 ·subst hb; rw [zf] at e; cases e; exact new
 ·rw [zJ hb] at e
  exact (x b u e).stay (fun c v _ q=>k c v q) (fun c q=>by rw [zJ (zY q hn)]; exact q) fun c xs q=>by rw [zJ (zY q hn)]; exact q
end
noncomputable def Rd (H:Hp) (a:Addr) (u:HO):Prop:=H a = some u∨∃ o,H a = some (.frz o u)
theorem Rd.ok {P:Program} {w:World} {H:Hp} {h:Heap} {a:Addr} {u:HO} (r:Rd H a u) (x:HOk P w H h):ObjOk P w H h a u:=by
 rcases r with r | ⟨o,r⟩
 ·exact x a u r
 ·obtain ⟨_,q⟩:=x a _ r
  exact q
noncomputable def Mut:Option HO→Prop
 | some (.lst _)=>True
 | some (.dK _)=>True
 | some (.dT _)=>True
 | some (.set _ _)=>True
 | some (.ins _ _ _)=>True
 | some (.ext _)=>True
 | _=>False
section
variable {P:Program} {w:World} {H:Hp} {h h':Heap} {x e:Addr} {o':HO}
theorem HOk.write (ok:HOk P w H h) (mu:Mut (H x)) (he:e = x∨H e = some (.own x)) (k:∀ b u,b≠e→h.get? b = some u→h'.get? b = some u) (heo:∃ u,h'.get? e = some u)
  (new:ObjOk P w (upd H x o') h' x o'):HOk P w (upd H x o') h':=fun b u q=>by
 have nown:∀ c y,H c = some (.own y)→c≠x:=fun c y r z=>by subst z; rw [r] at mu; exact mu
 have ntup:∀ c xs,H c = some (.tup xs)→c≠x:=fun c xs r z=>by subst z; rw [r] at mu; exact mu
 by_cases hb:b = x
 ·subst hb; rw [zf] at q; cases q; exact new
 ·rw [zJ hb] at q
  by_cases hbe:b = e
  ·have q':H b = some (.own x):=by
    rcases he with z | z
    ·exact absurd (hbe.trans z) hb
    ·rw [hbe]; exact z
   rw [q] at q'; cases q'
   obtain ⟨v,hv⟩:=heo
   exact ⟨v,by rw [hbe]; exact hv⟩
  ·refine (ok b u q).stay (fun c v hc r=>k c v ?_ r) (fun c r=>by rw [zJ (nown c b r)]; exact r) fun c xs r=>by rw [zJ (ntup c xs r)]; exact r
   rcases hc with rfl | hc
   ·exact hbe
   ·rintro rfl
    rcases he with z | z
    ·exact nown c b hc z
    ·rw [hc] at z; cases z; exact hb rfl
end
structure Un (fs ex:List Addr) (H H':Hp) (h h':Heap):Prop where
 keep:∀ b o,h.get? b = some o→H b = none→b∉fs→b∉ex→h'.get? b = some o
 slot:∀ b o,h.get? b = some o→H b = none→b∈fs→b∉ex→∃ sl,h'.get? b = some { o with slots:=sl }
 free:∀ b o,h.get? b = some o→H b = none→b∉ex→H' b = none
 there:∀ b o,h.get? b = some o→b∉ex→∃ o',h'.get? b = some o'
 tups:∀ b xs,H b = some (.tup xs)→H' b = some (.tup xs)
 frzs:∀ b o u,H b = some (.frz o u)→H' b = some (.frz o u)
 tbls:∀ b ps,H b = some (.tbl ps)→∃ more,H' b = some (.tbl (ps ++ more))
section
variable {fs fs' ex ex':List Addr} {H H1 H2:Hp} {h h1 h2 h':Heap} {a x e:Addr} {o:HO}
theorem Un.any (u:Un fs ex H H1 h h1) {b:Addr} {ob:Obj} (q:h.get? b = some ob) (n:H b = none) (hx:b∉ex):∃ sl,h1.get? b = some { ob with slots:=sl }:=by
 by_cases hb:b∈fs
 ·exact u.slot b ob q n hb hx
 ·exact ⟨ob.slots,u.keep b ob q n hb hx⟩
theorem Un.kept (k:∀ b u,h.get? b = some u→h'.get? b = some u):Un fs ex H H h h' :=
 ⟨fun b ob q _ _ _=>k b ob q,fun b ob q _ _ _=>⟨ob.slots,k b ob q⟩,fun _ _ _ n _=>n,fun b ob q _=>⟨ob,k b ob q⟩,fun _ _ q=>q,fun _ _ _ q=>q,fun _ ps q=>⟨#[],by rw [q]; simp⟩⟩
theorem Un.refl:Un fs ex H H h h:=Un.kept fun _ _ q=>q
theorem Un.laid (k:∀ b u,h.get? b = some u→h'.get? b = some u) (hp:h.objs.size≤a) (hn:H a = none):Un fs ex H (upd H a o) h h' where
 keep:=fun b u q _ _ _=>k b u q
 slot:=fun b u q _ _ _=>⟨u.slots,k b u q⟩
 free:=fun b u q n _=>by rw [zJ (Nat.ne_of_lt (Nat.lt_of_lt_of_le (Heap.lt_size q) hp))]; exact n
 there:=fun b u q _=>⟨u,k b u q⟩
 tups:=fun b xs q=>by rw [zJ (zY q hn)]; exact q
 frzs:=fun b u xs q=>by rw [zJ (zY q hn)]; exact q
 tbls:=fun b ps q=>⟨#[],by rw [zJ (zY q hn),q]; simp⟩
theorem Un.write (mu:Mut (H x)) (he:e = x∨H e = some (.own x)) (k:∀ b u,b≠e→h.get? b = some u→h'.get? b = some u) (heo:∃ u,h'.get? e = some u):Un fs ex H (upd H x o) h h':=by
 have hx:∀ b,H b = none→b≠x:=fun b n z=>by subst z; rw [n] at mu; exact mu
 have hb:∀ b,H b = none→b≠e:=fun b n z=>by
  subst z
  rcases he with r | r
  ·exact hx b n r
  ·rw [n] at r; cases r
 have hm:∀ b u,H b = some u→¬ Mut (some u)→b≠x:=fun b u q nm z=>by subst z; rw [q] at mu; exact nm mu
 refine ⟨fun b u q n _ _=>k b u (hb b n) q,fun b u q n _ _=>⟨u.slots,k b u (hb b n) q⟩,fun b u q n _=>by rw [zJ (hx b n)]; exact n,fun b u q _=>?_,
  fun b xs q=>by rw [zJ (hm b _ q fun z=>z)]; exact q,fun b u xs q=>by rw [zJ (hm b _ q fun z=>z)]; exact q,fun b ps q=>⟨#[],by rw [zJ (hm b _ q fun z=>z),q]; simp⟩⟩
 by_cases hbe:b = e
 ·subst hbe; exact heo
 ·exact ⟨u,k b u hbe q⟩
end
noncomputable def trk (h:Heap) (H:Hp):List Addr:=(List.range h.objs.size).filter fun a=>(H a).isSome
noncomputable def hidT (h:Heap) (H:Hp):Heap:=PySem.W.hideAll h (trk h H)
theorem zdA (h:Heap) (H:Hp):(hidT h H).objs.size = h.objs.size:=PySem.W.hideAll_size _ _
theorem zfF {h:Heap} {H:Hp} {b:Addr} {o:Obj} (e:h.get? b = some o) (n:H b = none):(hidT h H).get? b = some o :=
 PySem.W.hideAll_get _ e fun hm=>by
  have q:(H b).isSome = true:=(List.mem_filter.mp hm).2
  rw [n] at q; simp at q
theorem zgN {h:Heap} {H:Hp} {b:Addr} {o:Obj} (e:(hidT h H).get? b = some o):h.get? b = some o∧H b = none:=by
 have e':h.get? b = some o:=PySem.W.of_hideAll (trk h H) e
 refine ⟨e',?_⟩
 cases q:H b with
 | none=>rfl
 | some x =>
  have hm:b∈trk h H:=List.mem_filter.mpr ⟨List.mem_range.mpr (Heap.lt_size e'),by simp [q]⟩
  have z:(hidT h H).get? b = none:=PySem.W.hideAll_none (trk h H) hm
  rw [z] at e; cases e
end L2
namespace L2
open PySem PySem.Spec PyProof.Rows
structure Mod (K:PySem.W.Frag) (mg:Str→Option Value) (base:Heap):Prop where
 kin:K.In base
 glob:base.Ns mainGlobals mg
 blt:∃ mb,base.Ns builtinsNs mb∧∀ x:Str,x ≠ "__name__" → mb x = bootBuiltins x
 nolimit:base.NoLimit
structure Cx where
 prog:Program
 w:World
 K:PySem.W.Frag
 mg:Str→Option Value
 base:Heap
 A:Around
 N:List Str
 s₀:Shared
 H₀:Hp
 env:Env
 outer:List Env
 stack:List Env
 ex:List Addr
 fn:Str→Bool
 calm:Bool
 pn:List (Addr×Obj)
 xe:Value→Shared→Prop
noncomputable def frs (l:List Env):List Addr:=l.filterMap (·.frame)
noncomputable abbrev Cx.fs (X:Cx):List Addr:=frs X.outer
noncomputable def Vis (sc:Scope) (x:Str):Prop:=sc.names.lookup x = some .local∨sc.names.lookup x = some .cell∨sc.names.lookup x = some .free
noncomputable def Loc (sc:Scope) (x:Str):Prop:=sc.names.lookup x = some .local∨sc.names.lookup x = some .cell
noncomputable def Look (env:Env) (h:Heap) (m:Str→Option Value) (x:Str) (u:Value):Prop :=
 (env.kindOf x = some .local∧m x = some u)∨((env.kindOf x = some .cell∨env.kindOf x = some .free)∧∃ c,env.cells.lookup x = some c∧h.IsCell c (some u))
structure Cx.Ok (X:Cx):Prop where
 mod:Mod X.K X.mg X.base
 kind:X.env.scope.kind = .function
 glob:X.env.globals = mainGlobals
 blt:X.env.builtins = builtinsNs
 above:X.s₀.heap.objs.size≤X.env.locals
 inj:∀ x y c,X.env.cells.lookup x = some c→X.env.cells.lookup y = some c→x = y
 has:∀ x,(X.env.kindOf x = some .cell∨X.env.kindOf x = some .free)→∃ c,X.env.cells.lookup x = some c
 cab:∀ x c,X.fn x = true→X.env.cells.lookup x = some c→X.s₀.heap.objs.size≤c
 hd:X.calm = true→X.A.handled = none
 frames:X.A.frames = some X.stack
 stk:X.stack = X.outer∨(X.stack = X.env :: X.outer∧X.env.frame = some X.env.locals)
 exf:∀ b∈X.ex,b≠X.env.locals∧∀ x c,X.env.cells.lookup x = some c→c≠b
 bs:∀ b o,X.base.get? b = some o→X.s₀.heap.get? b = some o∧X.H₀ b = none
 bsz:X.base.objs.size≤X.s₀.heap.objs.size
 noex:∀ b o,X.base.get? b = some o→b∉X.ex
 exfs:∀ b∈X.ex,b∉X.fs
 funs:X.s₀.heap.FunFrames X.base X.outer
 frf:∀ b∈X.fs,X.H₀ b = none
structure Inv (X:Cx) (pins:List (Addr×Obj)) (σ:List (Option V)) (H:Hp) (s:Shared):Prop where
 ok:X.Ok
 os:s.os = X.s₀.os
 bare:AllBare s.gens
 base:Un X.fs X.ex X.H₀ H X.s₀.heap s.heap
 loc:∃ m,s.heap.Ns X.env.locals m∧∀ (i:Nat) (x:Str) (v:V),X.N[i]? = some x→σ[i]? = some (some v)→Vis X.env.scope x→∃ u,RelV v u∧Look X.env s.heap m x u
 cell:∀ x c,X.env.cells.lookup x = some c→∃ v,s.heap.IsCell c v
 free:H X.env.locals = none
 freeC:∀ x c,X.env.cells.lookup x = some c→H c = none
 pin:∀ p∈X.pn ++ pins,s.heap.get? p.1 = some p.2∧H p.1 = none∧p.1≠X.env.locals∧p.1∉X.fs∧∀ v,p.2.data≠.cell v
 hok:HOk X.prog X.w H s.heap
 len:σ.length = X.N.length
section
variable {X:Cx} {pins:List (Addr×Obj)} {σ:List (Option V)} {H H':Hp} {s:Shared} {h':Heap}
theorem Cx.Ok.nofr (ok:X.Ok) {b:Addr} {o:Obj} (e:X.base.get? b = some o):b∉X.fs:=fun hb=>by
 have:=(ok.funs.mem hb).1
 rw [e] at this; cases this
theorem Inv.bs (I:Inv X pins σ H s):∀ b o,X.base.get? b = some o→s.heap.get? b = some o∧H b = none:=fun b o e =>
 ⟨I.base.keep b o (I.ok.bs b o e).1 (I.ok.bs b o e).2 (I.ok.nofr e) (I.ok.noex b o e),I.base.free b o (I.ok.bs b o e).1 (I.ok.bs b o e).2 (I.ok.noex b o e)⟩
theorem Inv.bk (I:Inv X pins σ H s):∀ b o,X.base.get? b = some o→s.heap.get? b = some o:=fun b o e=>(I.bs b o e).1
theorem Inv.mod (I:Inv X pins σ H s):Mod X.K X.mg X.base:=I.ok.mod
theorem Inv.kIn (I:Inv X pins σ H s):X.K.In s.heap:=I.ok.mod.kin.keeps I.bk
theorem Inv.nolimit (I:Inv X pins σ H s):s.heap.NoLimit:=I.ok.mod.nolimit.keeps I.bk
theorem Inv.lt (I:Inv X pins σ H s):X.env.locals < s.heap.objs.size:=let ⟨_,hn,_⟩:=I.loc; hn.lt
theorem Inv.sz (I:Inv X pins σ H s):X.s₀.heap.objs.size≤s.heap.objs.size:=Nat.le_trans I.ok.above (Nat.le_of_lt I.lt)
theorem Inv.nofs (I:Inv X pins σ H s) {a:Addr} (h:s.heap.objs.size≤a):a∉X.fs:=fun hb=>by
 obtain ⟨_,o,ho,_⟩:=I.ok.funs.mem hb
 exact absurd (Nat.lt_of_lt_of_le (Heap.lt_size ho) (Nat.le_trans I.sz h)) (Nat.lt_irrefl _)
theorem Inv.cne (I:Inv X pins σ H s):∀ x c,X.env.cells.lookup x = some c→c≠X.env.locals:=fun x c e z=>by
 obtain ⟨v,o,ho,hd⟩:=I.cell x c e
 obtain ⟨m,⟨o',es,ep,ho',hd',_⟩,_⟩:=I.loc
 rw [z,ho'] at ho; cases ho; rw [hd'] at hd; cases hd
theorem Inv.funs (I:Inv X pins σ H s):s.heap.FunFrames X.base X.outer:=by
 have all:∀ (l:List Env),(∀ b∈frs l,b∈X.fs)→X.s₀.heap.FunFrames X.base l→s.heap.FunFrames X.base l:=by
  intro l
  induction l with
  | nil=>intro _ _; trivial
  | cons env r ih =>
   intro hs hl
   obtain ⟨hk,⟨L,o,hf,hn,ho,hd⟩,hr⟩:=hl
   have hL:L∈X.fs:=hs L (by unfold frs; rw [List.filterMap_cons,hf]; exact List.mem_cons_self)
   obtain ⟨sl,e⟩:=I.base.slot L o ho (I.ok.frf L hL) hL fun z=>I.ok.exfs L z hL
   exact ⟨hk,⟨L,_,hf,hn,e,hd⟩,ih (fun b hb=>hs b (by unfold frs; rw [List.filterMap_cons,hf]; exact List.mem_cons_of_mem _ hb)) hr⟩
 exact all X.outer (fun _ hb=>hb) I.ok.funs
theorem Inv.stack (I:Inv X pins σ H s):s.heap.FunFrames X.base X.stack:=by
 rcases I.ok.stk with e | ⟨e,hf⟩
 ·rw [e]; exact I.funs
 ·rw [e]
  obtain ⟨m,hn,_⟩:=I.loc
  refine .cons (by rw [I.ok.kind]; decide) hf hn ?_ I.funs
  exact Heap.get?_none_of_le (Nat.le_trans I.ok.bsz I.ok.above)
theorem Inv.stkSub (I:Inv X pins σ H s):∀ b∈frs X.stack,b∈X.env.locals :: X.fs:=fun b hb=>by
 rcases I.ok.stk with e | ⟨e,hf⟩
 ·rw [e] at hb; exact List.mem_cons_of_mem _ hb
 ·rw [e] at hb
  unfold frs at hb
  rw [List.filterMap_cons,hf] at hb
  exact hb
theorem Inv.stkFree (I:Inv X pins σ H s):∀ b∈frs X.stack,H b = none:=fun b hb=>by
 rcases List.mem_cons.mp (I.stkSub b hb) with e | hb
 ·rw [e]; exact I.free
 ·obtain ⟨_,o,ho,_⟩:=I.ok.funs.mem hb
  exact I.base.free b o ho (I.ok.frf b hb) fun z=>I.ok.exfs b z hb
theorem Inv.step {g':Array GenState} {t':Nat} {d':Drawn} {ch:List Addr} (I:Inv X pins σ H s)
  (hch:∀ b∈ch,(b∈X.ex∨X.s₀.heap.objs.size≤b)∧b≠X.env.locals∧(∀ x c,X.env.cells.lookup x = some c→c≠b)∧∀ p∈X.pn ++ pins,p.1≠b)
  (keep:∀ b o,b≠X.env.locals→b∉X.fs→b∉ch→s.heap.get? b = some o→H b = none→h'.get? b = some o)
  (slot:∀ b o,b≠X.env.locals→b∈X.fs→b∉ch→s.heap.get? b = some o→H b = none→∃ sl,h'.get? b = some { o with slots:=sl }) (free:∀ b o,b∉ch→s.heap.get? b = some o→H b = none→H' b = none)
  (there:∀ b o,b∉ch→s.heap.get? b = some o→∃ o',h'.get? b = some o')
  (tups:∀ b xs,H b = some (.tup xs)→H' b = some (.tup xs)) (frzs:∀ b o u,H b = some (.frz o u)→H' b = some (.frz o u)) (tbls:∀ b ps,H b = some (.tbl ps)→∃ more,H' b = some (.tbl (ps ++ more)))
  (ns:∀ m,s.heap.Ns X.env.locals m→h'.Ns X.env.locals m) (hok:HOk X.prog X.w H' h') (hg:AllBare g') :
  Inv X pins σ H' { s with heap:=h',gens:=g',drawn:=d',toks:=t' }:=by
 have neL:∀ b o,X.s₀.heap.get? b = some o→b≠X.env.locals:=fun b o e=>Nat.ne_of_lt (Nat.lt_of_lt_of_le (Heap.lt_size e) I.ok.above)
 have neC:∀ b o,X.s₀.heap.get? b = some o→b∉X.ex→b∉ch:=fun b o e hx hb=>by
  rcases (hch b hb).1 with z | z
  ·exact hx z
  ·exact absurd (Nat.lt_of_lt_of_le (Heap.lt_size e) z) (Nat.lt_irrefl _)
 have cellK:∀ x c,X.env.cells.lookup x = some c→∀ v,s.heap.IsCell c v→h'.IsCell c v:=fun x c e v ⟨o,ho,hd⟩=>by
  have nch:c∉ch:=fun z=>(hch c z).2.2.1 x c e rfl
  by_cases hc:c∈X.fs
  ·obtain ⟨sl,q⟩:=slot c o (I.cne x c e) hc nch ho (I.freeC x c e)
   exact ⟨_,q,hd⟩
  ·exact ⟨o,keep c o (I.cne x c e) hc nch ho (I.freeC x c e),hd⟩
 refine ⟨I.ok,I.os,hg,⟨fun b o e n hb hx=>?_,fun b o e n hb hx=>?_,fun b o e n hx=>?_,fun b o e hx=>?_,fun b xs e=>tups b xs (I.base.tups b xs e),fun b o xs e=>frzs b o xs (I.base.frzs b o xs e),fun b ps e=>?_⟩,?_,fun x c e=>?_,?_,fun x c e=>?_,fun p hp=>?_,hok,I.len⟩
 ·exact keep b o (neL b o e) hb (neC b o e hx) (I.base.keep b o e n hb hx) (I.base.free b o e n hx)
 ·obtain ⟨sl,e1⟩:=I.base.slot b o e n hb hx
  obtain ⟨sl',e2⟩:=slot b _ (neL b o e) hb (neC b o e hx) e1 (I.base.free b o e n hx)
  exact ⟨sl',e2⟩
 ·obtain ⟨o',e1⟩:=I.base.there b o e hx
  exact free b o' (neC b o e hx) e1 (I.base.free b o e n hx)
 ·obtain ⟨o',e1⟩:=I.base.there b o e hx
  exact there b o' (neC b o e hx) e1
 ·obtain ⟨m1,e1⟩:=I.base.tbls b ps e
  obtain ⟨m2,e2⟩:=tbls b _ e1
  exact ⟨m1 ++ m2,by rw [e2,Array.append_assoc]⟩
 ·obtain ⟨m,hn,hl⟩:=I.loc
  refine ⟨m,ns m hn,fun i x v e1 e2 e3=>?_⟩
  obtain ⟨u,r,l⟩:=hl i x v e1 e2 e3
  refine ⟨u,r,?_⟩
  rcases l with l | ⟨k,c,e,z⟩
  ·exact .inl l
  ·exact .inr ⟨k,c,e,cellK x c e _ z⟩
 ·obtain ⟨v,z⟩:=I.cell x c e
  exact ⟨v,cellK x c e v z⟩
 ·obtain ⟨m,⟨o,_,_,ho,_⟩,_⟩:=I.loc
  exact free _ o (fun z=>(hch _ z).2.1 rfl) ho I.free
 ·obtain ⟨v,o,ho,hd⟩:=I.cell x c e
  exact free c o (fun z=>(hch c z).2.2.1 x c e rfl) ho (I.freeC x c e)
 ·obtain ⟨e,n,ne,nf,d⟩:=I.pin p hp
  have nch:p.1∉ch:=fun z=>(hch p.1 z).2.2.2 p hp rfl
  exact ⟨keep p.1 p.2 ne nf nch e n,free p.1 p.2 nch e n,ne,nf,d⟩
theorem Inv.un {t':Nat} (I:Inv X pins σ H s) (u:Un X.fs [] H H' s.heap h') (hok:HOk X.prog X.w H' h'):Inv X pins σ H' { s with heap:=h',toks:=t' }:=by
 obtain ⟨m,⟨o,es,ep,ho,r⟩,_⟩:=id I.loc
 obtain ⟨sl,hL⟩:=u.any ho I.free (by simp)
 exact I.step (g':=s.gens) (d':=s.drawn) (ch:=[]) (fun _ z=>nomatch z) (fun b o _ hb _ e n=>u.keep b o e n hb (by simp)) (fun b o _ hb _ e n=>u.slot b o e n hb (by simp)) (fun b o _ e n=>u.free b o e n (by simp)) (fun b o _ e=>u.there b o e (by simp)) u.tups u.frzs u.tbls (fun m' hm=>by
  obtain ⟨o',es',ep',ho',r'⟩:=hm
  rw [ho] at ho'; cases ho'
  exact ⟨_,es',ep',hL,r'⟩) hok I.bare
theorem Inv.call {g':Array GenState} {t':Nat} {d':Drawn} {ch:List Addr} (I:Inv X pins σ H s) (u:Un (frs X.stack) ch H H' s.heap h') (hok:HOk X.prog X.w H' h') (hg:AllBare g')
  (hch:∀ b∈ch,(b∈X.ex∨X.s₀.heap.objs.size≤b)∧b≠X.env.locals∧(∀ x c,X.env.cells.lookup x = some c→c≠b)∧∀ p∈X.pn ++ pins,p.1≠b) :
  Inv X pins σ H' { s with heap:=h',gens:=g',drawn:=d',toks:=t' }:=by
 obtain ⟨m,⟨o,es,ep,ho,r⟩,_⟩:=id I.loc
 obtain ⟨sl,hL⟩:=u.any ho I.free fun z=>(hch _ z).2.1 rfl
 exact I.step (ch:=ch) hch (fun b o hL hb hc e n=>u.keep b o e n (fun z=>(List.mem_cons.mp (I.stkSub b z)).elim hL hb) hc) (fun b o _ _ hc e n=>u.any e n hc) (fun b o hc e n=>u.free b o e n hc) (fun b o hc e=>u.there b o e hc) u.tups u.frzs u.tbls (fun m' hm=>by
  obtain ⟨o',es',ep',ho',r'⟩:=hm
  rw [ho] at ho'; cases ho'
  exact ⟨_,es',ep',hL,r'⟩) hok hg
theorem Inv.turned {t':Nat} {it:Addr} (I:Inv X pins σ H s) (k:∀ b o,b≠it→s.heap.get? b = some o→h'.get? b = some o) (hn:H it = none) (hL:it≠X.env.locals)
  (h1:it∈X.ex∨X.s₀.heap.objs.size≤it) (h2:∀ x c,X.env.cells.lookup x = some c→c≠it) (h3:∀ p∈X.pn ++ pins,p.1≠it):Inv X pins σ H { s with heap:=h',toks:=t' }:=by
 have nit:∀ b u,H b = some u→b≠it:=fun b u e z=>by rw [z,hn] at e; cases e
 refine I.step (g':=s.gens) (d':=s.drawn) (ch:=[it]) (fun b hb=>?_) (fun b o _ _ hc e _=>k b o (fun z=>hc (by simp [z])) e) (fun b o _ _ hc e _=>⟨o.slots,k b o (fun z=>hc (by simp [z])) e⟩) (fun _ _ _ _ n=>n)
  (fun b o hc e=>⟨o,k b o (fun z=>hc (by simp [z])) e⟩) (fun _ _ e=>e) (fun _ _ _ e=>e) (fun b ps e=>⟨#[],by rw [e]; simp⟩) (fun m hm=>?_) (fun b u e=>?_) I.bare
 ·have e:b = it:=by simpa using hb
  subst e
  exact ⟨h1,hL,h2,h3⟩
 ·obtain ⟨o,es,ep,ho,r⟩:=hm
  exact ⟨o,es,ep,k _ o (Ne.symm hL) ho,r⟩
 ·refine (I.hok b u e).stay (fun c v hc q=>k c v ?_ q) (fun _ q=>q) fun _ _ q=>q
  rcases hc with z | z
  ·rw [z]; exact nit b u e
  ·exact nit c _ z
theorem Inv.tok (I:Inv X pins σ H s) (t:Nat):Inv X pins σ H { s with toks:=t }:=I.un (h':=s.heap) (t':=t) Un.refl I.hok
theorem Inv.kept {t':Nat} (I:Inv X pins σ H s) (k:∀ b u,s.heap.get? b = some u→h'.get? b = some u):Inv X pins σ H { s with heap:=h',toks:=t' }:=I.un (Un.kept k) (I.hok.kept k)
theorem Inv.laid {a:Addr} {o:HO} {t':Nat} (I:Inv X pins σ H s) (k:∀ b u,s.heap.get? b = some u→h'.get? b = some u) (hp:s.heap.objs.size≤a) (new:ObjOk X.prog X.w (upd H a o) h' a o) :
  Inv X pins σ (upd H a o) { s with heap:=h',toks:=t' }:=I.un (Un.laid k hp (I.hok.fresh hp)) (I.hok.laid k hp new)
theorem Inv.write {x e:Addr} {o:HO} {t':Nat} (I:Inv X pins σ H s) (mu:Mut (H x)) (he:e = x∨H e = some (.own x)) (k:∀ b u,b≠e→s.heap.get? b = some u→h'.get? b = some u) (heo:∃ u,h'.get? e = some u)
  (new:ObjOk X.prog X.w (upd H x o) h' x o):Inv X pins σ (upd H x o) { s with heap:=h',toks:=t' }:=I.un (Un.write mu he k heo) (I.hok.write mu he k heo new)
theorem Inv.weak {σ':List (Option V)} (I:Inv X pins σ H s) (hl:σ'.length = σ.length) (w:∀ (i:Nat) v,σ'[i]? = some (some v)→σ[i]? = some (some v)):Inv X pins σ' H s :=
 ⟨I.ok,I.os,I.bare,I.base,let ⟨m,hn,hl'⟩:=I.loc; ⟨m,hn,fun i x v e1 e2 e3=>hl' i x v e1 (w i v e2) e3⟩,I.cell,I.free,I.freeC,I.pin,I.hok,hl.trans I.len⟩
theorem Inv.pins_of {pins':List (Addr×Obj)} (I:Inv X pins σ H s) (h:∀ p∈pins',s.heap.get? p.1 = some p.2∧H p.1 = none∧p.1≠X.env.locals∧p.1∉X.fs∧∀ v,p.2.data≠.cell v):Inv X pins' σ H s :=
 ⟨I.ok,I.os,I.bare,I.base,I.loc,I.cell,I.free,I.freeC,fun p hp=>(List.mem_append.mp hp).elim (fun z=>I.pin p (List.mem_append_left _ z)) (h p),I.hok,I.len⟩
theorem zbt {N:List Str} (hN:N.Nodup) {i j:Nat} {x:Str} (a:N[i]? = some x) (b:N[j]? = some x):i = j:=by
 obtain ⟨h1,e1⟩:=List.getElem?_eq_some_iff.mp a
 obtain ⟨h2,e2⟩:=List.getElem?_eq_some_iff.mp b
 exact (List.getElem_inj hN).mp (e1.trans e2.symm)
theorem QE {M:Model} {A:Around} {E:Value→Shared→Prop} {i:Nat} {x:Str} {v:V} {u:Value} {Q:Unit→Shared→Prop} (I:Inv X pins σ H s) (hN:X.N.Nodup) (hi:X.N[i]? = some x) (hx:Loc X.env.scope x) (r:RelV v u)
  (h:∀ s',Inv X pins (σ.set i (some v)) H s'→(∃ a,Heap.SameBut a s.heap s'.heap∧(a = X.env.locals∨X.env.cells.lookup x = some a))→Q () s') (hf:X.fn x = true∨X.env.scope.names.lookup x = some .local:=by first | exact .inl rfl | exact .inr rfl | assumption):wpAny M A (storeName X.env x u) Q E s:=by
 obtain ⟨m,hn,hl⟩:=id I.loc
 have hcls:(X.env.scope.kind == .class || (X.env.scope.kind == .module && X.env.locals != X.env.globals)) = false:=by rw [I.ok.kind]; rfl
 have hiσ:i < σ.length:=by rw [I.len]; exact (List.getElem?_eq_some_iff.mp hi).1
 have cne:=I.cne
 have tracked:∀ {a:Addr} {h':Heap},(∃ o,s.heap.get? a = some o∧H a = none)→Heap.SameBut a s.heap h'→HOk X.prog X.w H h':=fun {a h'} ha hs b ob e=>by
  obtain ⟨_,_,hfree⟩:=ha
  refine (I.hok b ob e).stay (fun c w' hc q=>(hs.2 c ?_).trans q) (fun _ q=>q) fun _ _ q=>q
  rintro rfl
  rcases hc with rfl | hc
  ·rw [hfree] at e; cases e
  ·rw [hfree] at hc; cases hc
 rcases hx with hk | hk
 ·refine wpAny_storeName_local hk hn (fun h' hn' hs=>?_) hcls
  obtain ⟨oL,_,_,hoL,_⟩:=id hn
  refine h _ ⟨I.ok,I.os,I.bare,⟨fun b o e n hb hx=>?_,fun b o e n hb hx=>?_,I.base.free,fun b o e hx=>?_,I.base.tups,I.base.frzs,I.base.tbls⟩,⟨_,hn',fun j y v' e1 e2 e3=>?_⟩,fun y c e=>?_,I.free,I.freeC,fun p hp=>?_,tracked ⟨oL,hoL,I.free⟩ hs,by simpa using I.len⟩ ⟨_,hs,.inl rfl⟩
  ·exact (hs.2 b (Nat.ne_of_lt (Nat.lt_of_lt_of_le (Heap.lt_size e) I.ok.above))).trans (I.base.keep b o e n hb hx)
  ·obtain ⟨sl,e1⟩:=I.base.slot b o e n hb hx
   exact ⟨sl,(hs.2 b (Nat.ne_of_lt (Nat.lt_of_lt_of_le (Heap.lt_size e) I.ok.above))).trans e1⟩
  ·obtain ⟨o',e1⟩:=I.base.there b o e hx
   exact ⟨o',(hs.2 b (Nat.ne_of_lt (Nat.lt_of_lt_of_le (Heap.lt_size e) I.ok.above))).trans e1⟩
  ·by_cases hj:j = i
   ·subst hj
    rw [hi] at e1; cases e1
    rw [List.getElem?_set_self hiσ] at e2
    cases e2
    exact ⟨u,r,.inl ⟨hk,by simp⟩⟩
   ·rw [List.getElem?_set_ne (Ne.symm hj)] at e2
    obtain ⟨u',r',q⟩:=hl j y v' e1 e2 e3
    refine ⟨u',r',?_⟩
    rcases q with ⟨k,e⟩ | ⟨k,c,e,z⟩
    ·refine .inl ⟨k,?_⟩
     have:y≠x:=fun e=>hj (zbt hN e1 (e ▸ hi))
     simp [this,e]
    ·exact .inr ⟨k,c,e,z.sameBut hs (cne y c e)⟩
  ·obtain ⟨w',z⟩:=I.cell y c e
   exact ⟨w',z.sameBut hs (cne y c e)⟩
  ·obtain ⟨e,n,ne,nf,d⟩:=I.pin p hp
   exact ⟨(hs.2 p.1 ne).trans e,n,ne,nf,d⟩
 ·have hfn:X.fn x = true:=by
   rcases hf with z | z
   ·exact z
   ·rw [z] at hk; cases hk
  obtain ⟨c,hc⟩:=I.ok.has x (.inl hk)
  obtain ⟨w',z⟩:=I.cell x c hc
  refine wpAny_storeName_cell I.ok.kind hk hc z (fun h' hc' hs=>?_)
  obtain ⟨oc,hoc,hocd⟩:=id z
  refine h { s with heap:=h' } ⟨I.ok,I.os,I.bare,⟨fun b o e n hb hx=>?_,fun b o e n hb hx=>?_,I.base.free,fun b o e hx=>?_,I.base.tups,I.base.frzs,I.base.tbls⟩,⟨m,hn.sameBut hs (Ne.symm (cne x c hc)),fun j y v' e1 e2 e3=>?_⟩,fun y c' e=>?_,I.free,I.freeC,fun p hp=>?_,tracked ⟨oc,hoc,I.freeC x c hc⟩ hs,by simpa using I.len⟩ ⟨c,hs,.inr hc⟩
  ·exact (hs.2 b (Nat.ne_of_lt (Nat.lt_of_lt_of_le (Heap.lt_size e) (I.ok.cab x c hfn hc)))).trans (I.base.keep b o e n hb hx)
  ·obtain ⟨sl,e1⟩:=I.base.slot b o e n hb hx
   exact ⟨sl,(hs.2 b (Nat.ne_of_lt (Nat.lt_of_lt_of_le (Heap.lt_size e) (I.ok.cab x c hfn hc)))).trans e1⟩
  ·obtain ⟨o',e1⟩:=I.base.there b o e hx
   exact ⟨o',(hs.2 b (Nat.ne_of_lt (Nat.lt_of_lt_of_le (Heap.lt_size e) (I.ok.cab x c hfn hc)))).trans e1⟩
  ·by_cases hj:j = i
   ·subst hj
    rw [hi] at e1; cases e1
    rw [List.getElem?_set_self hiσ] at e2
    cases e2
    exact ⟨u,r,.inr ⟨.inl hk,c,hc,hc'⟩⟩
   ·rw [List.getElem?_set_ne (Ne.symm hj)] at e2
    obtain ⟨u',r',q⟩:=hl j y v' e1 e2 e3
    refine ⟨u',r',?_⟩
    rcases q with q | ⟨k,c',e,z'⟩
    ·exact .inl q
    ·refine .inr ⟨k,c',e,z'.sameBut hs ?_⟩
     rintro rfl
     exact hj (zbt hN e1 (I.ok.inj _ _ _ e hc ▸ hi))
  ·by_cases hcc:c' = c
   ·subst hcc; exact ⟨_,hc'⟩
   ·obtain ⟨w2,z2⟩:=I.cell y c' e
    exact ⟨w2,z2.sameBut hs hcc⟩
  ·obtain ⟨e,n,ne,nf,d⟩:=I.pin p hp
   refine ⟨(hs.2 p.1 ?_).trans e,n,ne,nf,d⟩
   intro q
   rw [q,hoc] at e
   have q':oc = p.2:=Option.some.inj e
   exact d w' (by rw [← q']; exact hocd)
theorem Zr {M:Model} {A:Around} {E:Value→Shared→Prop} {i:Nat} {x:Str} {v:V} {u:Value} {Q:Unit→Shared→Prop} (I:Inv X pins σ H s) (hN:X.N.Nodup) (hi:X.N[i]? = some x) (hx:Loc X.env.scope x) (r:RelV v u)
  (h:∀ s',Inv X pins (σ.set i (some v)) H s'→Q () s') (hf:X.fn x = true∨X.env.scope.names.lookup x = some .local:=by first | exact .inl rfl | exact .inr rfl | assumption):wpAny M A (storeName X.env x u) Q E s :=
 QE I hN hi hx r (fun s' I' _=>h s' I') hf
theorem Inv.call' {s':Shared} {ch:List Addr} (I:Inv X pins σ H s) (ho:s'.os = s.os) (u:Un (frs X.stack) ch H H' s.heap s'.heap) (hok:HOk X.prog X.w H' s'.heap) (hg:AllBare s'.gens)
  (hch:∀ b∈ch,(b∈X.ex∨X.s₀.heap.objs.size≤b)∧b≠X.env.locals∧(∀ x c,X.env.cells.lookup x = some c→c≠b)∧∀ p∈X.pn ++ pins,p.1≠b):Inv X pins σ H' s':=by
 obtain ⟨h',g',d',t',o'⟩:=s'
 have e:o' = s.os:=ho
 subst e
 exact I.call (g':=g') (t':=t') (d':=d') u hok hg hch
end
noncomputable abbrev XK:=Value→Option Addr→Hp→Prop
noncomputable abbrev St:=List (Option V)
noncomputable abbrev VK:=V→Hp→Prop
noncomputable abbrev TE:=St→Hp→VK→Prop
noncomputable abbrev TT:=St→Hp→(Bool→Hp→Prop)→Prop
noncomputable abbrev TA:=St→Hp→(List V→Hp→Prop)→Prop
structure Ends where
 nx:St→Hp→Prop
 rt:VK
 bk:St→Hp→Prop:=fun _ _=>False
 ct:St→Hp→Prop:=fun _ _=>False
noncomputable abbrev TS:=Ends→St→Hp→Prop
noncomputable def EP (X:Cx) (pins:List (Addr×Obj)) (σ:St) (Q:VK) (u:Value) (s':Shared):Prop:=∃ v H',Inv X pins σ H' s'∧RelV v u∧Q v H'
noncomputable def TP (X:Cx) (pins:List (Addr×Obj)) (σ:St) (Q:Bool→Hp→Prop) (b:Bool) (s':Shared):Prop:=∃ H',Inv X pins σ H' s'∧Q b H'
noncomputable def AP (X:Cx) (pins:List (Addr×Obj)) (σ:St) (Q:List V→Hp→Prop) (us:List Value) (s':Shared):Prop:=∃ vs H',Inv X pins σ H' s'∧Vals vs us∧Q vs H'
noncomputable def SP (X:Cx) (pins:List (Addr×Obj)) (D:Ends) (f:Flow) (s':Shared):Prop :=
 match f with
 | .next=>∃ σ' H',Inv X pins σ' H' s'∧D.nx σ' H'
 | .brk=>∃ σ' H',Inv X pins σ' H' s'∧D.bk σ' H'
 | .cont=>∃ σ' H',Inv X pins σ' H' s'∧D.ct σ' H'
 | .ret u=>∃ v σ' H',Inv X pins σ' H' s'∧RelV v u∧D.rt v H'
noncomputable def PE (X:Cx) (e:Expr) (t:TE):Prop :=
 ∀ (pins:List (Addr×Obj)) (s:Shared) (σ:St) (H:Hp) (Q:VK),Inv X pins σ H s→t σ H Q→wpAny (model X.prog X.w) X.A (eval e X.env) (EP X pins σ Q) X.xe s
noncomputable def PT (X:Cx) (e:Expr) (t:TT):Prop :=
 ∀ (pins:List (Addr×Obj)) (s:Shared) (σ:St) (H:Hp) (Q:Bool→Hp→Prop),Inv X pins σ H s→t σ H Q→wpAny (model X.prog X.w) X.A (isTrue e X.env (eval e X.env)) (TP X pins σ Q) X.xe s
noncomputable def PW (X:Cx) (e:Expr) (t:TT):Prop :=
 ∀ (whole:Sem Value) (pins:List (Addr×Obj)) (s:Shared) (σ:St) (H:Hp) (Q:Bool→Hp→Prop),Inv X pins σ H s→t σ H Q→wpAny (model X.prog X.w) X.A (isTrue e X.env whole) (TP X pins σ Q) X.xe s
theorem PW.pt {X:Cx} {e:Expr} {t:TT} (h:PW X e t):PT X e t:=h _
noncomputable def PA (X:Cx) (es:List Expr) (t:TA):Prop :=
 ∀ (pos:Pos) (pins:List (Addr×Obj)) (s:Shared) (σ:St) (H:Hp) (Q:List V→Hp→Prop),Inv X pins σ H s→t σ H Q→wpAny (model X.prog X.w) X.A (spliced (backTo pos (starEach es X.env))) (AP X pins σ Q) X.xe s
noncomputable def PS (X:Cx) (st:Stmt) (t:TS):Prop :=
 ∀ (pins:List (Addr×Obj)) (s:Shared) (σ:St) (H:Hp) (D:Ends),Inv X pins σ H s→t D σ H→wpAny (model X.prog X.w) X.A (exec st X.env) (SP X pins D) X.xe s
noncomputable def PSs (X:Cx) (st:List Stmt) (t:TS):Prop :=
 ∀ (pins:List (Addr×Obj)) (s:Shared) (σ:St) (H:Hp) (D:Ends),Inv X pins σ H s→t D σ H→wpAny (model X.prog X.w) X.A (execs st X.env) (SP X pins D) X.xe s
theorem thn {α:Type} {t:Sem α} {Q Q':α→Shared→Prop} {M:Model} {A:Around} {E:Value→Shared→Prop} {s:Shared} (h:wpAny M A t Q E s) (hQ:∀ a s,Q a s→Q' a s):wpAny M A t Q' E s:=wpAny_mono h hQ fun _ _ x=>x
end L2
namespace L2
open PySem PySem.Spec PyProof.Rows
section
variable {X:Cx}
inductive zgn (i:Nat) (σ:St) (H:Hp) (Q:VK):Prop where
 | mk (v:V) (h0_:σ[i]? = some (some v)) (h1_:Q v H):zgn i σ H Q
noncomputable def tVar (i:Nat):TE:=fun σ H Q=>zgn i σ H Q
noncomputable def tC (v:V):TE:=fun _ H Q=>Q v H
theorem zid {i:Nat} {x:Str} {pos:Pos} (hN:X.N[i]? = some x) (hv:Vis X.env.scope x) (hd:(x == ("__debug__" : Str)) = false:=by decide) (hcd:(x == ("__classdict__" : Str)) = false:=by decide):PE X (.Name x pos) (tVar i):=by
 intro pins s σ H Q I h
 obtain ⟨v,e,h⟩:=h
 obtain ⟨m,hn,hl⟩:=I.loc
 obtain ⟨u,r,l⟩:=hl i x v hN e hv
 have fin:EP X pins σ Q u s:=⟨v,H,I,r,h⟩
 rcases l with ⟨hk,hm⟩ | ⟨hk,c,hc,hcell⟩
 ·exact wpAny_Name (wpAny_loadName_local I.ok.kind hk hn hm fin) hd
 ·rcases hk with hk | hk
  ·exact wpAny_Name (wpAny_loadName_cell I.ok.kind hk hc hcell fin) hd
  ·exact wpAny_Name (wpAny_loadName_free I.ok.kind hk hc hcell fin hcd) hd
theorem zb {i j pos}:PE X (.Constant (.int i) j pos) (tC (.int i)):=fun _ _ _ H _ I h=>wpAny_Constant_int ⟨.int i,H,I.tok _,⟨_,rfl⟩,h⟩
theorem YG {b j pos}:PE X (.Constant (.bool b) j pos) (tC (.bl b)):=fun _ _ _ H _ I h=>Constant_bool ⟨.bl b,H,I,rfl,h⟩
theorem zf0 {j pos}:PE X (.Constant .none j pos) (tC .non):=fun _ _ _ H _ I h=>Constant_none ⟨.non,H,I,rfl,h⟩
theorem Zh {x j pos}:PE X (.Constant (.str x) j pos) (tC (.str x)):=fun _ _ _ H _ I h=>Calls.Constant_str ⟨.str x,H,I.tok _,⟨_,rfl⟩,h⟩
noncomputable def Gl (X:Cx) (x:Str):Prop:=X.env.kindOf x = some .globalImplicit
theorem zgV {E:Value→Shared→Prop} {pins:List (Addr×Obj)} {s:Shared} {σ:St} {H:Hp} {x:Str} {u:Value} {pos:Pos} {Q:Value→Shared→Prop} (I:Inv X pins σ H s) (hg:Gl X x) (hm:X.mg x = some u) (h:Q u s)
  (hd:(x == ("__debug__" : Str)) = false:=by decide):wpAny (model X.prog X.w) X.A (eval (.Name x pos) X.env) Q E s :=
 Calls.Name_function_global I.ok.kind hg (Calls.loadGlobal_global (by rw [I.ok.glob]; exact I.mod.glob.keeps I.bk) hm h) hd
theorem ZU {E:Value→Shared→Prop} {pins:List (Addr×Obj)} {s:Shared} {σ:St} {H:Hp} {x:Str} {u:Value} {pos:Pos} {Q:Value→Shared→Prop} (I:Inv X pins σ H s) (hg:Gl X x) (hm:X.mg x = none) (hv:bootBuiltins x = some u) (h:Q u s)
  (hn:x ≠ "__name__" := by decide) (hd:(x == ("__debug__" : Str)) = false:=by decide):wpAny (model X.prog X.w) X.A (eval (.Name x pos) X.env) Q E s:=by
 obtain ⟨mb,h1,h2⟩:=I.mod.blt
 exact Calls.Name_function_global I.ok.kind hg (Calls.loadGlobal_builtin (by rw [I.ok.glob]; exact I.mod.glob.keeps I.bk) hm (by rw [I.ok.blt]; exact h1.keeps I.bk) ((h2 x hn).trans hv) h) hd
theorem zg6 {x:Str} {v:V} {u:Value} {pos:Pos} (hg:Gl X x) (hm:X.mg x = none) (hv:bootBuiltins x = some u) (r:RelV v u) (hn:x ≠ "__name__" := by decide) (hd:(x == ("__debug__" : Str)) = false:=by decide):PE X (.Name x pos) (tC v) :=
 fun _ _ _ H _ I h=>ZU I hg hm hv ⟨v,H,I,r,h⟩ hn hd
variable {a b:Expr} {ta tb:TE} {pos:Pos}
inductive I_tB (x:V) (H1:Hp) (Q:Bool→Hp→Prop):Prop where
 | mk (c:Bool) (h0_:x = .bl c) (h1_:Q c H1):I_tB x H1 Q
noncomputable def tB (t:TE):TT:=fun σ H Q=>t σ H fun x H1=>I_tB x H1 Q
theorem xH {e:Expr} {t:TE} (h:PE X e t) (he:∀ whole,isTrue e X.env whole = (do let v ← whole; standAt e.pos; holding [v] (truthy v)):=by intro _; rfl):PT X e (tB t):=by
 intro pins s σ H Q I hw
 refine isTrue_plain (thn (h pins s σ H _ I hw) fun v s1 ⟨x,H1,I1,r1,q1⟩=>?_) (he _)
 obtain ⟨d,rfl,q⟩:=q1
 cases r1
 exact wpAny_truthy_bool ⟨H1,I1,q⟩
variable {tA tB':TT} {rest:List Expr}
noncomputable def tOr (t u:TT):TT:=fun σ H Q=>t σ H fun c H1=>if c = true then Q true H1 else u σ H1 Q
noncomputable def tNot (t:TT):TT:=fun σ H Q=>t σ H fun c H1=>Q (!c) H1
theorem pw_or1 (ha:PT X a tA):PW X (.BoolOp .Or [a] pos) tA:=by
 intro wh pins s σ H Q I h
 refine isTrue_or (thn (ha pins s σ H Q I h) fun c s1 e=>?_)
 cases c with
 | false=>exact isTrue_or_nil e
 | true=>exact e
theorem pw_or (ha:PT X a tA) (hb:PW X (.BoolOp .Or (b :: rest) pos) tB'):PW X (.BoolOp .Or (a :: b :: rest) pos) (tOr tA tB'):=by
 intro wh pins s σ H Q I h
 refine isTrue_or (thn (ha pins s σ H _ I h) fun c s1 ⟨H1,I1,q1⟩=>?_)
 cases c with
 | true=>exact ⟨H1,I1,q1⟩
 | false=>exact hb wh pins s1 σ H1 Q I1 q1
theorem jt (ha:PT X a tA):PT X (.UnaryOp .Not a pos) (tNot tA):=by
 intro pins s σ H Q I h
 exact isTrue_not (ha pins s σ H (fun c H1=>Q (!c) H1) I h)
noncomputable def tAndV (ta tb:TE):TE:=fun σ H Q=>ta σ H fun x H1=>∃ c,x = .bl c∧if c = true then tb σ H1 Q else Q (.bl false) H1
noncomputable def tOrV (ta tb:TE):TE:=fun σ H Q=>ta σ H fun x H1=>∃ c,x = .bl c∧if c = true then Q (.bl true) H1 else tb σ H1 Q
noncomputable def tNotV (ta:TE):TE:=fun σ H Q=>ta σ H fun x H1=>∃ c,x = .bl c∧Q (.bl (!c)) H1
theorem XO {op} {t:TE} (h:PE X a t):PE X (.BoolOp op [a] pos) t:=fun pins s σ H Q I hw=>BoolOp_one (h pins s σ H Q I hw)
theorem zab (ha:PE X a ta) (hb:PE X (.BoolOp .And (b :: rest) pos) tb):PE X (.BoolOp .And (a :: b :: rest) pos) (tAndV ta tb):=by
 intro pins s σ H Q I h
 refine BoolOp_and (thn (ha pins s σ H _ I h) fun v s1 ⟨x,H1,I1,r1,q1⟩=>?_)
 obtain ⟨c,rfl,q1⟩:=q1
 cases r1
 refine wpAny_truthy_bool ?_
 cases c with
 | true=>exact hb pins s1 σ H1 Q I1 q1
 | false=>exact ⟨.bl false,H1,I1,rfl,q1⟩
theorem zic (ha:PE X a ta) (hb:PE X (.BoolOp .Or (b :: rest) pos) tb):PE X (.BoolOp .Or (a :: b :: rest) pos) (tOrV ta tb):=by
 intro pins s σ H Q I h
 refine BoolOp_or (thn (ha pins s σ H _ I h) fun v s1 ⟨x,H1,I1,r1,q1⟩=>?_)
 obtain ⟨c,rfl,q1⟩:=q1
 cases r1
 refine wpAny_truthy_bool ?_
 cases c with
 | false=>exact hb pins s1 σ H1 Q I1 q1
 | true=>exact ⟨.bl true,H1,I1,rfl,q1⟩
theorem zhy (ha:PE X a ta):PE X (.UnaryOp .Not a pos) (tNotV ta):=by
 intro pins s σ H Q I h
 refine UnaryOp_ (thn (ha pins s σ H _ I h) fun v s1 ⟨x,H1,I1,r1,q1⟩=>?_)
 obtain ⟨c,rfl,q1⟩:=q1
 cases r1
 exact not_of (wpAny_truthy_bool ⟨.bl (!c),H1,I1,rfl,q1⟩)
noncomputable def tIf (t:TT) (ta tb:TE):TE:=fun σ H Q=>t σ H fun c H1=>if c = true then ta σ H1 Q else tb σ H1 Q
theorem ze0 {c:Expr} (hc:PT X c tA) (ha:PE X a ta) (hb:PE X b tb):PE X (.IfExp c a b pos) (tIf tA ta tb):=by
 intro pins s σ H Q I h
 refine wpAny_IfExp (thn (hc pins s σ H _ I h) fun d s1 ⟨H1,I1,q1⟩=>?_)
 cases d with
 | true=>exact ha pins s1 σ H1 Q I1 q1
 | false=>exact hb pins s1 σ H1 Q I1 q1
end
end L2
namespace L2
open PySem PySem.Spec PyProof.Rows
noncomputable def SqL (K:PySem.W.Frag) (H:Hp) (a:Addr) (xs:List V):Prop :=
 Rd H a (.lst xs) ∨
  ∃ (o:Obj) (its:Array Value) (n:Nat),K.lookup a = some o∧o.cls = .type "list" ∧ o.dict = none∧o.data = .seq its n∧its.size≤sizeLine∧Vals xs its.toList
noncomputable def SqT (K:PySem.W.Frag) (H:Hp) (a:Addr) (xs:List V):Prop :=
 Rd H a (.tup xs) ∨
  ∃ (o:Obj) (its:Array Value) (n:Nat),K.lookup a = some o∧o.cls = .type "tuple" ∧ o.data = .seq its n∧its.size≤sizeLine∧Vals xs its.toList
noncomputable def absV:Value→Option V
 | .none=>some .non
 | .bool b=>some (.bl b)
 | .int i _=>some (.int i)
 | .str x _=>some (.str x)
 | .bytes b _=>some (.byt b)
 | .float b _=>some (.flt b)
 | .ref a=>some (.ref a)
 | .type n=>some (.ty n)
 | _=>none
theorem RelV.abs {x:V} {u:Value} (r:RelV x u):absV u = some x:=by
 cases x with
 | non=>cases r; rfl
 | bl _=>cases r; rfl
 | int _=>obtain ⟨t,rfl⟩:=r; rfl
 | str _=>obtain ⟨t,rfl⟩:=r; rfl
 | byt _=>obtain ⟨t,rfl⟩:=r; rfl
 | flt _=>obtain ⟨t,rfl⟩:=r; rfl
 | ref _=>cases r; rfl
 | ty _=>cases r; rfl
theorem RelV.inj {x y:V} {u:Value} (r:RelV x u) (q:RelV y u):x = y:=Option.some.inj (r.abs.symm.trans q.abs)
theorem Vals.inj:∀ {xs ys:List V} {us:List Value},Vals xs us→Vals ys us→xs = ys
 | _,_,_,.nil,.nil=>rfl
 | _,_,_,.cons r t,.cons r' t'=>by rw [r.inj r',Vals.inj t t']
section
variable {X:Cx} {pins:List (Addr×Obj)} {σ:St} {H:Hp} {s:Shared} {a:Addr} {xs ys:List V}
theorem SqL.of {K:PySem.W.Frag} (h:H a = some (.lst xs)):SqL K H a xs:=.inl (.inl h)
theorem SqT.of {K:PySem.W.Frag} (h:H a = some (.tup xs)):SqT K H a xs:=.inl (.inl h)
theorem Inv.list (I:Inv X pins σ H s) (h:SqL X.K H a xs):∃ its:List Value,Vals xs its∧PlainL s.heap a its.toArray∧xs.length≤sizeLine:=by
 rcases h with h | ⟨o,its,n,hk,hc,hd,hs,hz,r⟩
 ·obtain ⟨z,its,n,r,e⟩:=h.ok I.hok
  exact ⟨its,r,⟨_,n,e,rfl,rfl,rfl⟩,z⟩
 ·refine ⟨its.toList,r,⟨o,n,I.kIn a o hk,hc,hd,by simpa using hs⟩,?_⟩
  have e:=r.length
  simp only [Array.length_toList] at e
  omega
theorem Inv.tuple (I:Inv X pins σ H s) (h:SqT X.K H a xs):∃ its:List Value,Vals xs its∧IsTup s.heap a its.toArray∧xs.length≤sizeLine:=by
 rcases h with h | ⟨o,its,n,hk,hc,hs,hz,r⟩
 ·obtain ⟨z,its,r,p⟩:=h.ok I.hok
  exact ⟨its,r,p,z⟩
 ·refine ⟨its.toList,r,⟨o,I.kIn a o hk,hc,n,by simpa using hs⟩,?_⟩
  have e:=r.length
  simp only [Array.length_toList] at e
  omega
theorem Inv.list_inj (I:Inv X pins σ H s) (h:SqL X.K H a xs) (h':SqL X.K H a ys):xs = ys:=by
 obtain ⟨its,r,⟨o,n,e,_,_,d⟩,_⟩:=I.list h
 obtain ⟨its',r',⟨o',n',e',_,_,d'⟩,_⟩:=I.list h'
 rw [e] at e'; cases e'
 rw [d] at d'
 injection d' with d1 _
 have:its = its':=by simpa using congrArg Array.toList d1
 subst this
 exact r.inj r'
theorem Inv.tuple_inj (I:Inv X pins σ H s) (h:SqT X.K H a xs) (h':SqT X.K H a ys):xs = ys:=by
 obtain ⟨its,r,⟨o,e,_,n,d⟩,_⟩:=I.tuple h
 obtain ⟨its',r',⟨o',e',_,n',d'⟩,_⟩:=I.tuple h'
 rw [e] at e'; cases e'
 rw [d] at d'
 injection d' with d1 _
 have:its = its':=by simpa using congrArg Array.toList d1
 subst this
 exact r.inj r'
end
noncomputable abbrev Cx.wish (X:Cx) (E:Value→Shared→Prop):Cx:={ X with xe:=E }
noncomputable abbrev Cx.nox (X:Cx):Cx:=X.wish fun _ _=>False
theorem Cx.Ok.wish {X:Cx} (ok:X.Ok) (E:Value→Shared→Prop):(X.wish E).Ok :=
 ⟨ok.mod,ok.kind,ok.glob,ok.blt,ok.above,ok.inj,ok.has,ok.cab,ok.hd,ok.frames,ok.stk,ok.exf,ok.bs,ok.bsz,ok.noex,ok.exfs,ok.funs,ok.frf⟩
theorem Cx.Ok.unwish {X:Cx} {E:Value→Shared→Prop} (ok:(X.wish E).Ok):X.Ok :=
 ⟨ok.mod,ok.kind,ok.glob,ok.blt,ok.above,ok.inj,ok.has,ok.cab,ok.hd,ok.frames,ok.stk,ok.exf,ok.bs,ok.bsz,ok.noex,ok.exfs,ok.funs,ok.frf⟩
section
variable {X:Cx} {pins:List (Addr×Obj)} {σ:St} {H:Hp} {s:Shared} {E:Value→Shared→Prop}
theorem Inv.wish (I:Inv X pins σ H s) (E:Value→Shared→Prop):Inv (X.wish E) pins σ H s:=⟨I.ok.wish E,I.os,I.bare,I.base,I.loc,I.cell,I.free,I.freeC,I.pin,I.hok,I.len⟩
theorem Inv.unwish (I:Inv (X.wish E) pins σ H s):Inv X pins σ H s:=⟨I.ok.unwish,I.os,I.bare,I.base,I.loc,I.cell,I.free,I.freeC,I.pin,I.hok,I.len⟩
theorem SP.unwish {D:Ends} {f:Flow} {s':Shared} (h:SP (X.wish E) pins D f s'):SP X pins D f s':=by
 cases f with
 | next=>obtain ⟨σ',H',I,q⟩:=h; exact ⟨σ',H',I.unwish,q⟩
 | brk=>obtain ⟨σ',H',I,q⟩:=h; exact ⟨σ',H',I.unwish,q⟩
 | cont=>obtain ⟨σ',H',I,q⟩:=h; exact ⟨σ',H',I.unwish,q⟩
 | ret u=>obtain ⟨v,σ',H',I,r,q⟩:=h; exact ⟨v,σ',H',I.unwish,r,q⟩
theorem PSs.nox {st:List Stmt} {t:TS} (h:PSs X.nox st t):PSs X st t:=fun pins s σ H D I hw =>
 wpAny_mono (h pins s σ H D (I.wish _) hw) (fun _ _ q=>q.unwish) fun _ _ z=>False.elim z
end
section
variable {X:Cx} {st:Stmt} {rest:List Stmt} {t u:TS} {e:Expr} {te:TE} {pos:Pos}
noncomputable def tNext:TS:=fun D σ H=>D.nx σ H
noncomputable def tSeq (t u:TS):TS:=fun D σ H=>t { D with nx:=u D } σ H
theorem zL:PSs X [] tNext:=fun _ _ σ H _ I h=>wpAny_execs_nil ⟨σ,H,I,h⟩
theorem zc (h1:PS X st t) (h2:PSs X rest u):PSs X (st :: rest) (tSeq t u):=by
 intro pins s σ H D I h
 refine wpAny_execs_cons (thn (h1 pins s σ H { D with nx:=u D } I h) fun f s1 q=>?_)
 cases f with
 | next =>
  obtain ⟨σ',H',I',q⟩:=q
  exact h2 pins s1 σ' H' D I' q
 | ret v=>exact q
 | brk=>exact q
 | cont=>exact q
theorem zg (h1:PS X st t):PSs X [st] t:=by
 intro pins s σ H D I h
 refine wpAny_execs_cons (thn (h1 pins s σ H D I h) fun f s1 q=>?_)
 cases f with
 | next=>exact wpAny_execs_nil q
 | ret v=>exact q
 | brk=>exact q
 | cont=>exact q
theorem Inv.quiet {pins:List (Addr×Obj)} {σ:St} {H:Hp} {s:Shared} (I:Inv X pins σ H s):interactive X.env = false:=by simp [interactive,I.ok.kind]
noncomputable def tDrop (te:TE):TS:=fun D σ H=>te σ H fun _ H1=>D.nx σ H1
theorem qR (he:PE X e te) (hs:swapsWith e none pos.line X.env = pure false:=by rfl):PS X (.Expr e pos) (tDrop te):=by
 intro pins s σ H D I h
 exact wpAny_Expr_any (thn (he pins s σ H _ I h) fun v s1 ⟨x,H1,I1,r1,q1⟩=>⟨σ,H1,I1,q1⟩) I.quiet hs
noncomputable def tRet (te:TE):TS:=fun D σ H=>te σ H D.rt
theorem zk (he:PE X e te):PS X (.Return (some e) pos) (tRet te):=by
 intro pins s σ H D I h
 exact wpAny_Return_some (thn (he pins s σ H _ I h) fun v s1 ⟨x,H1,I1,r1,q1⟩=>⟨x,σ,H1,I1,r1,q1⟩)
noncomputable def tIfS (c:TT) (t u:TS):TS:=fun D σ H=>c σ H fun b H1=>if b = true then t D σ H1 else u D σ H1
theorem yi {c:Expr} {a b:List Stmt} {tc:TT} (hc:PT X c tc) (ha:PSs X a t) (hb:PSs X b u):PS X (.If c a b pos) (tIfS tc t u):=by
 intro pins s σ H D I h
 refine wpAny_If (thn (hc pins s σ H _ I h) fun d s1 ⟨H1,I1,q1⟩=>?_)
 cases d with
 | true=>exact ha pins s1 σ H1 D I1 q1
 | false=>exact hb pins s1 σ H1 D I1 q1
noncomputable def tNever:TS:=fun _ _ _=>False
theorem zfi:PS X st tNever:=fun _ _ _ _ _ _ h=>h.elim
end
noncomputable abbrev TG:=V→St→Hp→(St→Hp→Prop)→Prop
noncomputable abbrev TGs:=List V→St→Hp→(St→Hp→Prop)→Prop
noncomputable def PG (X:Cx) (target:Expr) (t:TG):Prop :=
 ∀ (pins:List (Addr×Obj)) (s:Shared) (σ:St) (H:Hp) (v:V) (u:Value) (Q:St→Hp→Prop),Inv X pins σ H s→RelV v u→t v σ H Q →
  wpAny (model X.prog X.w) X.A (assign target X.env u) (fun _ s'=>∃ σ' H',Inv X pins σ' H' s'∧Q σ' H') X.xe s
noncomputable def PGs (X:Cx) (ts:List Expr) (t:TGs):Prop :=
 ∀ (pins:List (Addr×Obj)) (s:Shared) (σ:St) (H:Hp) (vs:List V) (us:List Value) (Q:St→Hp→Prop),Inv X pins σ H s→Vals vs us→t vs σ H Q →
  wpAny (model X.prog X.w) X.A (assignInOrder ((assignEach ts X.env).map (·.2)) us) (fun _ s'=>∃ σ' H',Inv X pins σ' H' s'∧Q σ' H') X.xe s
noncomputable abbrev TSet:=V→V→V→Hp→(Hp→Prop)→Prop
noncomputable def PSet (X:Cx) (t:TSet):Prop :=
 ∀ (pins:List (Addr×Obj)) (s:Shared) (σ:St) (H:Hp) (o i v:V) (ov iv u:Value) (Q:Hp→Prop),Inv X pins σ H s→RelV o ov→RelV i iv→RelV v u→t o i v H Q →
  wpAny (model X.prog X.w) X.A (setItem ov iv u) (fun _ s'=>∃ H',Inv X pins σ H' s'∧Q H') X.xe s
noncomputable abbrev TIp:=V→V→Hp→VK→Prop
noncomputable def PIp (X:Cx) (op:Operator) (t:TIp):Prop :=
 ∀ (pins:List (Addr×Obj)) (s:Shared) (σ:St) (H:Hp) (x y:V) (v u:Value) (Q:VK),Inv X pins σ H s→RelV x v→RelV y u→t x y H Q →
  wpAny (model X.prog X.w) X.A (inplaceOp op v u) (EP X pins σ Q) X.xe s
section
variable {X:Cx} {pos:Pos}
noncomputable def gName (i:Nat):TG:=fun v σ H Q=>Q (σ.set i (some v)) H
theorem zh {i:Nat} {x:Str} (hN:X.N.Nodup) (hi:X.N[i]? = some x) (hx:Loc X.env.scope x) (hf:X.fn x = true∨X.env.scope.names.lookup x = some .local:=by first | exact .inl rfl | exact .inr rfl | assumption):PG X (.Name x pos) (gName i):=by
 intro pins s σ H v u Q I r h
 exact wpAny_assign_Name (Zr I hN hi hx r (fun s' I'=>⟨_,H,I',h⟩) hf)
noncomputable def gNil:TGs:=fun vs σ H Q=>vs = []∧Q σ H
inductive zep (t:TG) (u:TGs) (vs:List V) (σ:St) (H:Hp) (Q:St→Hp→Prop):Prop where
 | mk (v:V) (r:List V) (h0_:vs = v :: r) (h1_:t v σ H fun σ' H'=>u r σ' H' Q):zep t u vs σ H Q
noncomputable def gCons (t:TG) (u:TGs):TGs:=fun vs σ H Q=>zep t u vs σ H Q
theorem xn:PGs X [] gNil:=by
 intro pins s σ H vs us Q I r h
 obtain ⟨e,h⟩:=h
 subst e
 cases r
 exact assignInOrder_nil ⟨σ,H,I,h⟩
theorem zS {e:Expr} {es:List Expr} {t:TG} {u:TGs} (h1:PG X e t) (h2:PGs X es u)
  (hs:(assignEach (e :: es) X.env).map (·.2) = assign e X.env :: (assignEach es X.env).map (·.2):=by rfl):PGs X (e :: es) (gCons t u):=by
 intro pins s σ H vs us Q I r h
 obtain ⟨v,vr,e1,h⟩:=h
 subst e1
 cases r with
 | cons r rr =>
  rw [hs]
  refine assignInOrder_cons (thn (h1 pins s σ H _ _ _ I r h) fun _ s1 ⟨σ1,H1,I1,q1⟩=>?_)
  exact h2 pins s1 σ1 H1 _ _ Q I1 rr q1
inductive zge (K:PySem.W.Frag) (n:Nat) (t:TGs) (v:V) (σ:St) (H:Hp) (Q:St→Hp→Prop):Prop where
 | mk (a:Addr) (xs:List V) (h0_:v = .ref a) (h1_:SqT K H a xs) (h2_:xs.length = n) (h3_:t xs σ H Q):zge K n t v σ H Q
noncomputable def gTup (K:PySem.W.Frag) (n:Nat) (t:TGs):TG:=fun v σ H Q=>zge K n t v σ H Q
theorem zhK {es:List Expr} {k:Nat} {t:TGs} {n:Nat} (hc:X.calm = true) (h:PGs X es t)
  (hn:(assignEach es X.env).length = n:=by rfl) (hst:(assignEach es X.env).findIdx? (·.1) = none:=by rfl):PG X (.Tuple es k pos) (gTup X.K n t):=by
 intro pins s σ H v u Q I r hw
 obtain ⟨a,xs,e1,hq,hl,hw⟩:=hw
 subst e1
 cases r
 obtain ⟨its,rv,ht,hz⟩:=I.tuple hq
 refine assign_Tuple_tuple (I.ok.hd hc) ht (by simp [hn,← hl,rv.length]) hst fun h' hx=>?_
 have I1:Inv X pins σ H { s with heap:=h' }:=I.kept (t':=s.toks) fun b o e=>hx b o (Nat.ne_of_lt (Heap.lt_size e)) e
 exact h pins _ σ H xs _ Q I1 (by simpa using rv) hw
noncomputable def gSub (to ti:TE) (t:TSet):TG:=fun v σ H Q=>to σ H fun o H1=>ti σ H1 fun i H2=>t o i v H2 fun H3=>Q σ H3
theorem ZV {o i:Expr} {to ti:TE} {t:TSet} (ho:PE X o to) (hi:PE X i ti) (hs:PSet X t)
  (ha:∀ v,assign (.Subscript o i pos) X.env v = (do
   let ov ← holding [v] (eval o X.env)
   let iv ← holding [v,ov] (eval i X.env)
   standAt pos
   holding [v,ov,iv] (setItem ov iv v)
   release [v,ov,iv] []):=by intro _; rfl):PG X (.Subscript o i pos) (gSub to ti t):=by
 intro pins s σ H v u Q I r h
 rw [ha]
 refine wpAny_bind (wpAny_holding (thn (ho pins s σ H _ I h) fun ov s1 ⟨x,H1,I1,r1,q1⟩=>?_))
 refine wpAny_bind (wpAny_holding (thn (hi pins s1 σ H1 _ I1 q1) fun iv s2 ⟨y,H2,I2,r2,q2⟩=>?_))
 refine wpAny_bind (wpAny_standAt (wpAny_bind (wpAny_holding (thn (hs pins s2 σ H2 x y v ov iv u _ I2 r1 r2 r q2) fun _ s3 ⟨H3,I3,q3⟩=>?_))))
 exact wpAny_release ⟨σ,H3,I3,q3⟩
noncomputable def tAsg (te:TE) (g:TG):TS:=fun D σ H=>te σ H fun x H1=>g x σ H1 D.nx
theorem jS {tg e:Expr} {te:TE} {g:TG} (he:PE X e te) (hg:PG X tg g) (hs:swapsWithSole [tg] e pos.line X.env = pure false:=by rfl) (hw:swappedStores [tg] e X.env = pure none:=by rfl)
  (h1:(assignEach [tg] X.env).map (·.2) = [assign tg X.env]:=by rfl):PS X (.Assign [tg] e pos) (tAsg te g):=by
 intro pins s σ H D I h
 refine wpAny_Assign_stores (thn (he pins s σ H _ I h) fun v s1 ⟨x,H1,I1,r1,q1⟩=>?_) hs hw
 rw [h1]
 exact thn (hg pins s1 σ H1 x v _ I1 r1 q1) fun _ s2 q=>q
theorem zm {i:Nat} {x:Str} {e:Expr} {te:TE} {pos':Pos} (hN:X.N.Nodup) (hi:X.N[i]? = some x) (hx:Loc X.env.scope x) (he:PE X e te) (hs:swapsWith e (some (.Name x pos')) pos.line X.env = pure false:=by rfl) (hf:X.fn x = true∨X.env.scope.names.lookup x = some .local:=by first | exact .inl rfl | exact .inr rfl | assumption) :
  PS X (.Assign [.Name x pos'] e pos) (tAsg te (gName i)):=by
 intro pins s σ H D I h
 refine wpAny_Assign_Name (thn (he pins s σ H _ I h) fun v s1 ⟨y,H1,I1,r1,q1⟩=>?_) hs
 exact Zr I1 hN hi hx r1 (fun s2 I2=>⟨_,H1,I2,q1⟩) hf
noncomputable def tPar (i j:Nat) (ta:TA):TS:=fun D σ H=>ta σ H fun vs H1=>∃ v w,vs = [v,w]∧D.nx ((σ.set i (some v)).set j (some w)) H1
theorem zhu {i j:Nat} {x y:Str} {a b:Expr} {ta:TA} {px py pt:Pos} {kt k2 pt2} (hc:X.calm = true) (hN:X.N.Nodup) (hi:X.N[i]? = some x) (hj:X.N[j]? = some y) (hij:i≠j)
  (hx:X.env.scope.names.lookup x = some .local) (hy:X.env.scope.names.lookup y = some .local) (ha:PA X [a,b] ta)
  (hw:swappedStores [.Tuple [.Name x px,.Name y py] kt pt] (.Tuple [a,b] k2 pt2) X.env = pure (some [x,y]))
  (hs:swapsWithSole [.Tuple [.Name x px,.Name y py] kt pt] (.Tuple [a,b] k2 pt2) pos.line X.env = pure false:=by rfl) :
  PS X (.Assign [.Tuple [.Name x px,.Name y py] kt pt] (.Tuple [a,b] k2 pt2) pos) (tPar i j ta):=by
 intro pins s σ H D I h
 rw [exec_Assign_arm]
 refine wpAny_bind (wpAny_standAt ?_)
 rw [hs]
 refine wpAny_bind (wpAny_pure ?_)
 rw [if_neg (by decide)]
 refine wpAny_bind (Tuple_ (thn (ha _ pins s σ H _ I h) fun us s1 ⟨vs,H1,I1,r1,q1⟩=>?_))
 obtain ⟨v,w,e1,q1⟩:=q1
 subst e1
 obtain ⟨u1,u2,rfl,rv,rw'⟩ : ∃ u1 u2,us = [u1,u2]∧RelV v u1∧RelV w u2:=by
  cases r1 with
  | cons p q =>
   cases q with
   | cons p' q' =>
    cases q'
    exact ⟨_,_,rfl,p,p'⟩
 refine wpAny_newObj_type ?_ (by show 2≤sizeLine; decide)
 have I2:Inv X pins σ H1 { s1 with heap:=s1.heap.push { cls:=.type "tuple",data:=.seq [u1,u2].toArray } }:=I1.kept (t':=s1.toks) fun b o e=>Heap.get?_push_of_some _ e
 rw [hw]
 refine wpAny_bind (wpAny_pure ?_)
 show wpAny (model X.prog X.w) X.A (do rule "assign.swapped-stores"; let items ← unpackItems (.ref s1.heap.objs.size) 2 none; assignInOrder [fun v=>bindName X.env y v,fun v=>bindName X.env x v] items.reverse; pure Flow.next) _ _ _
 refine wpAny_bind (wpAny_rule (wpAny_bind (unpackItems_tuple (items:=#[u1,u2]) (I.ok.hd hc) (IsTup.new s1.heap _) fun h' hx'=>?_)))
 have I3:=I2.kept (h':=h') (t':=s1.toks) fun b o e=>hx' b o (Nat.ne_of_lt (Heap.lt_size e)) e
 show wpAny _ _ (assignInOrder [fun v=>bindName X.env y v,fun v=>bindName X.env x v] [u2,u1] >>= fun _=>pure Flow.next) _ _ _
 refine wpAny_bind (assignInOrder_cons (wpAny_bindName (Zr I3 hN hj (.inl hy) rw' (fun s2 I4=>?_) (.inr hy))))
 refine assignInOrder_cons (wpAny_bindName (Zr I4 hN hi (.inl hx) rv (fun s3 I5=>assignInOrder_nil (wpAny_pure ?_)) (.inr hx)))
 rw [List.set_comm _ _ (Ne.symm hij)] at I5
 exact ⟨_,H1,I5,q1⟩
noncomputable def tAug (i:Nat) (te:TE) (ti:TIp):TS:=fun D σ H=>∃ x,σ[i]? = some (some x)∧te σ H fun y H1=>ti x y H1 fun z H2=>D.nx (σ.set i (some z)) H2
theorem zh4 {i:Nat} {x:Str} {e:Expr} {te:TE} {op:Operator} {ti:TIp} {pos':Pos} (hN:X.N.Nodup) (hi:X.N[i]? = some x) (hx:Loc X.env.scope x) (he:PE X e te) (ho:PIp X op ti) (hf:X.fn x = true∨X.env.scope.names.lookup x = some .local:=by first | exact .inl rfl | exact .inr rfl | assumption) :
  PS X (.AugAssign (.Name x pos') op e pos) (tAug i te ti):=by
 intro pins s σ H D I h
 obtain ⟨v,e1,h⟩:=h
 obtain ⟨m,hn,hl⟩:=I.loc
 have vis:Vis X.env.scope x:=by rcases hx with k | k; exact .inl k; exact .inr (.inl k)
 obtain ⟨u,r,l⟩:=hl i x v hi e1 vis
 refine wpAny_AugAssign_Name ?_
 have go:wpAny (model X.prog X.w) X.A (eval e X.env) (fun w s₂=>wpAny (model X.prog X.w) X.A (inplaceOp op u w) (fun r s₃=>wpAny (model X.prog X.w) X.A (storeName X.env x r) (fun _=>SP X pins D .next) X.xe s₃) X.xe s₂) X.xe s:=by
  refine thn (he pins s σ H _ I h) fun w s1 ⟨y,H1,I1,r1,q1⟩=>?_
  refine thn (ho pins s1 σ H1 v y u w _ I1 r r1 q1) fun z s2 ⟨zv,H2,I2,r2,q2⟩=>?_
  exact Zr I2 hN hi hx r2 (fun s3 I3=>⟨_,H2,I3,q2⟩) hf
 rcases l with ⟨hk,hm⟩ | ⟨hk,c,hc,hcell⟩
 ·exact wpAny_loadName_local I.ok.kind hk hn hm go
 ·rcases hk with hk | hk
  ·exact wpAny_loadName_cell I.ok.kind hk hc hcell go
  ·rcases hx with k | k
   ·have:X.env.scope.names.lookup x = some .free:=hk
    rw [k] at this; cases this
   ·have:X.env.scope.names.lookup x = some .free:=hk
    rw [k] at this; cases this
noncomputable def ipI (f:Int→Int→Int):TIp:=fun x y H Q=>∃ i j,x = .int i∧y = .int j∧Q (.int (f i j)) H
theorem zhT:PIp X .Add (ipI fun i j=>i + j):=by
 intro pins s σ H x y v u Q I r1 r2 h
 obtain ⟨i,j,e1,e2,q⟩:=h
 subst e1; subst e2
 obtain ⟨t,rfl⟩:=r1
 obtain ⟨t',rfl⟩:=r2
 exact iadd_int ⟨.int _,H,I.tok _,⟨_,rfl⟩,q⟩
end
section
variable {X:Cx} {pos:Pos}
noncomputable def tWhile (c:TT) (tb:TS):TS:=fun D σ H=>∃ W:Nat→St→Hp→Prop,(∃ m,W m σ H)∧∀ m σ H,W m σ H →
 c σ H fun b H1=>if b = true then ∃ N:St→Hp→Prop,(∀ σ' H',N σ' H'→∃ m',m' < m∧W m' σ' H')∧tb { D with nx:=N,ct:=N,bk:=D.nx } σ H1 else D.nx σ H1
theorem Yz {c:Expr} {body:List Stmt} {tc:TT} {tb:TS} (hp:PassesOwn (model X.prog X.w) X.A X.env X.xe) (hc:PT X c tc) (hb:PSs X body tb):PS X (.While c body [] pos) (tWhile tc tb):=by
 intro pins s σ H D I h
 obtain ⟨W,⟨m0,w0⟩,turn⟩:=h
 refine wpAny_While (codeAny_whileLoop (fun n s'=>∃ σ' H',Inv X pins σ' H' s'∧W n σ' H') ?_ m0 ⟨σ,H,I,w0⟩)
 rintro n s1 ⟨σ1,H1,I1,w1⟩
 refine wpAny_passesOwn hp (thn (hc pins s1 σ1 H1 _ I1 (turn n σ1 H1 w1)) fun b s2 ⟨H2,I2,q2⟩=>?_)
 cases b with
 | true =>
  obtain ⟨N,hN,q2⟩:=q2
  rw [if_pos rfl]
  refine wpAny_passesOwn hp (thn (hb pins s2 σ1 H2 _ I2 q2) fun f s3 q3=>?_)
  cases f with
  | next =>
   obtain ⟨σ3,H3,I3,n3⟩:=q3
   obtain ⟨m',hm,w3⟩:=hN σ3 H3 n3
   exact ⟨m',hm,σ3,H3,I3,w3⟩
  | cont =>
   obtain ⟨σ3,H3,I3,n3⟩:=q3
   obtain ⟨m',hm,w3⟩:=hN σ3 H3 n3
   exact ⟨m',hm,σ3,H3,I3,w3⟩
  | brk=>exact q3
  | ret v=>exact q3
 | false =>
  rw [if_neg Bool.false_ne_true]
  exact wpAny_execs_nil ⟨σ1,H2,I2,q2⟩
end
structure It where
 go:Nat→Hp→Prop
 yld:Nat→Hp→V→Hp→Prop
 stop:Nat→Hp→Prop
noncomputable def FpOk (X:Cx) (pins:List (Addr×Obj)) (H:Hp) (b:Addr):Prop :=
 H b = none∧b≠X.env.locals∧b∉X.fs∧(b∈X.ex∨X.s₀.heap.objs.size≤b)∧(∀ x c,X.env.cells.lookup x = some c→c≠b)∧∀ p∈X.pn ++ pins,p.1≠b
theorem Inv.fpOk {X:Cx} {pins:List (Addr×Obj)} {σ:St} {H H':Hp} {s:Shared} {b:Addr} (I:Inv X pins σ H s) (hb:s.heap.objs.size≤b) (hn:H' b = none):FpOk X pins H' b:=by
 refine ⟨hn,Nat.ne_of_gt (Nat.lt_of_lt_of_le I.lt hb),I.nofs hb,.inr (Nat.le_trans I.sz hb),fun x c e z=>?_,fun p hp z=>?_⟩
 ·obtain ⟨v,q⟩:=I.cell x c e
  exact absurd (Nat.lt_of_lt_of_le q.lt (by rw [z]; exact hb)) (Nat.lt_irrefl _)
 ·exact absurd (Nat.lt_of_lt_of_le (Heap.lt_size (I.pin p hp).1) (by rw [z]; exact hb)) (Nat.lt_irrefl _)
structure Turn (P:Program) (w:World) (K:PySem.W.Frag) (tg:Expr) (J:It) (fp:List Addr) (it:Addr) (tn:Nat→Heap→Prop):Prop where
 mem:it∈fp
 obj:∀ i h,tn i h→∀ b∈fp,∃ o,h.get? b = some o∧∀ v,o.data≠.cell v
 keep:∀ i h h',tn i h→(∀ b∈fp,∀ o,h.get? b = some o→h'.get? b = some o)→tn i h'
 item:∀ (X:Cx),X.prog = P→X.w = w→X.K = K→X.calm = true→∀ (i:Nat) (pins:List (Addr×Obj)) (s:Shared) (σ:St) (H:Hp) (E:Value→Shared→Prop),Inv X pins σ H s→(∀ b∈fp,FpOk X pins H b)→tn i s.heap→J.go i H →
  wpAny (model P w) X.A (pyNext (.ref it)) (fun r s1=>∃ u,r = some u ∧
   wpAny (model P w) X.A (letOwnedTupleGo tg (.ref it) u) (fun _ s2=>∃ x H',Inv X pins σ H' s2∧RelV x u∧J.yld i H x H'∧tn (i + 1) s2.heap∧∀ b∈fp,H' b = none) E s1) E s
 done:∀ (X:Cx),X.prog = P→X.w = w→X.K = K→X.calm = true→∀ (i:Nat) (pins:List (Addr×Obj)) (s:Shared) (σ:St) (H:Hp) (E:Value→Shared→Prop),Inv X pins σ H s→(∀ b∈fp,FpOk X pins H b)→tn i s.heap→J.stop i H →
  wpAny (model P w) X.A (pyNext (.ref it)) (fun r s1=>r = none∧Inv X pins σ H s1) E s
 self:∀ (A:Around) (i:Nat) (s:Shared) (Q:Value→Shared→Prop) (E:Value→Shared→Prop),tn i s.heap→Q (.ref it) s→wpAny (model P w) A (pyIter (.ref it)) Q E s
noncomputable abbrev TI:=St→Hp→(It→Hp→Prop)→Prop
noncomputable def PIE (X:Cx) (pins:List (Addr×Obj)) (σ:St) (tg:Expr) (R:It→Hp→Prop) (itv:Value) (s2:Shared):Prop :=
 ∃ (it:Addr) (fp:List Addr) (tn:Nat→Heap→Prop) (J:It) (H':Hp),itv = .ref it∧Inv X pins σ H' s2∧Turn X.prog X.w X.K tg J fp it tn∧tn 0 s2.heap∧(∀ b∈fp,FpOk X pins H' b)∧R J H'
noncomputable def PI (X:Cx) (tg iter:Expr) (wi:TI):Prop :=
 ∀ (pins:List (Addr×Obj)) (s:Shared) (σ:St) (H:Hp) (R:It→Hp→Prop),Inv X pins σ H s→wi σ H R →
  wpAny (model X.prog X.w) X.A (eval iter X.env) (fun v s1=>wpAny (model X.prog X.w) X.A (pyIter v) (PIE X pins σ tg R) X.xe s1) X.xe s
theorem zfb {M:Model} {A:Around} {E:Value→Shared→Prop} {s:Shared} {tg:Expr} {it:Addr} {u:Value} {o:Obj} {n:String} {vs:Array Value} {Q:Unit→Shared→Prop} (ho:s.heap.get? it = some o) (hc:o.cls = .type n) (hd:o.data = .fields vs)
  (hn:["enumerate", "zip", "dict_itemiterator", "dict_reverseitemiterator", "odict_iterator", "itertools.zip_longest", "itertools.pairwise"].contains n = false) (hQ:Q () s):wpAny M A (letOwnedTupleGo tg (.ref it) u) Q E s:=by
 unfold letOwnedTupleGo
 cases tg <;> first
  | exact wpAny_pure hQ
  | (cases u <;> first
    | exact wpAny_pure hQ
    | (refine wpAny_bind (wpAny_load ho ?_)
       rw [hc,hd]
       show wpAny M A (if (["enumerate", "zip", "dict_itemiterator", "dict_reverseitemiterator", "odict_iterator", "itertools.zip_longest", "itertools.pairwise"].contains n && vs[0]? == some (rawInt _)) = true then _ else _) Q E s
       rw [if_neg (by intro h; rw [hn,Bool.false_and] at h; cases h)]
       exact wpAny_pure hQ))
noncomputable def Itl (K:PySem.W.Frag) (a:Addr):It :=
 ⟨fun i H=>∃ xs x,SqL K H a xs∧xs[i]? = some x,fun i H x H'=>H' = H∧∀ xs,SqL K H a xs→xs[i]? = some x,fun i H=>∃ xs,SqL K H a xs∧xs.length≤i⟩
noncomputable def Itt (K:PySem.W.Frag) (a:Addr):It :=
 ⟨fun i H=>∃ xs x,SqT K H a xs∧xs[i]? = some x,fun i H x H'=>H' = H∧∀ xs,SqT K H a xs→xs[i]? = some x,fun i H=>∃ xs,SqT K H a xs∧xs.length≤i⟩
noncomputable def Itr (lo:Int) (n:Nat):It:=⟨fun i _=>i < n,fun i H x H'=>H' = H∧x = .int (lo + i),fun i _=>n≤i⟩
theorem zdg {P:Program} {w:World} {K:PySem.W.Frag} {tg:Expr} (a it:Addr):Turn P w K tg (Itl K a) [it] it (fun i h=>h.IsListIter it a i) where
 mem:=by simp
 obj:=fun i h st b hb=>by
  have e:b = it:=by simpa using hb
  subst e
  obtain ⟨o,e,c,d⟩:=st
  exact ⟨o,e,fun v z=>by rw [d] at z; cases z⟩
 keep:=fun i h h' st k=>st.at fun o e=>k it (by simp) o e
 item:=by
  intro X hP hw hK hc i pins s σ H E I hf st hg
  subst hP hw hK
  obtain ⟨xs,x,hq,hx⟩:=hg
  obtain ⟨its,rv,p,hz⟩:=I.list hq
  obtain ⟨u,hu,ru⟩:=rv.get hx
  obtain ⟨f0,f1,f2,f3,f4,f5⟩:=hf it (by simp)
  refine wpAny_pyNext_list_item st p.isList (x:=u) (by simpa using hu) fun h' st' sb=>?_
  have I1:Inv X pins σ H { s with heap:=h' }:=I.turned (t':=s.toks) (fun b o hb e=>(sb.2 b hb).trans e) f0 f1 f3 f4 f5
  obtain ⟨o,e,c,d⟩:=id st'
  exact ⟨u,rfl,zfb (s:={ s with heap:=h' }) e c d (by decide) ⟨x,H,I1,ru,⟨rfl,fun ys hy=>by rw [I.list_inj hy hq]; exact hx⟩,st',fun b hb=>(hf b hb).1⟩⟩
 done:=by
  intro X hP hw hK hc i pins s σ H E I hf st hg
  subst hP hw hK
  obtain ⟨xs,hq,hx⟩:=hg
  obtain ⟨its,rv,p,hz⟩:=I.list hq
  obtain ⟨f0,f1,f2,f3,f4,f5⟩:=hf it (by simp)
  have hl:=rv.length
  exact wpAny_pyNext_list_end (I.ok.hd hc) st p.isList (by simp; omega) fun h' eb=>⟨rfl,I.turned (t':=s.toks) (fun b o hb e=>eb b o hb e) f0 f1 f3 f4 f5⟩
 self:=fun _ _ _ _ _ st h=>wpAny_pyIter_listiter st h
theorem zce {P:Program} {w:World} {K:PySem.W.Frag} {tg:Expr} (a it:Addr):Turn P w K tg (Itt K a) [it] it (fun i h=>h.IsTupleIter it a i) where
 mem:=by simp
 obj:=fun i h st b hb=>by
  have e:b = it:=by simpa using hb
  subst e
  obtain ⟨o,e,c,d⟩:=st
  exact ⟨o,e,fun v z=>by rw [d] at z; cases z⟩
 keep:=fun i h h' st k=>st.at fun o e=>k it (by simp) o e
 item:=by
  intro X hP hw hK hc i pins s σ H E I hf st hg
  subst hP hw hK
  obtain ⟨xs,x,hq,hx⟩:=hg
  obtain ⟨its,rv,p,hz⟩:=I.tuple hq
  obtain ⟨u,hu,ru⟩:=rv.get hx
  obtain ⟨f0,f1,f2,f3,f4,f5⟩:=hf it (by simp)
  refine wpAny_pyNext_tuple_item st (show s.heap.IsTuple a its.toArray from p) (x:=u) (by simpa using hu) fun h' st' sb=>?_
  have I1:Inv X pins σ H { s with heap:=h' }:=I.turned (t':=s.toks) (fun b o hb e=>(sb.2 b hb).trans e) f0 f1 f3 f4 f5
  obtain ⟨o,e,c,d⟩:=id st'
  exact ⟨u,rfl,zfb (s:={ s with heap:=h' }) e c d (by decide) ⟨x,H,I1,ru,⟨rfl,fun ys hy=>by rw [I.tuple_inj hy hq]; exact hx⟩,st',fun b hb=>(hf b hb).1⟩⟩
 done:=by
  intro X hP hw hK hc i pins s σ H E I hf st hg
  subst hP hw hK
  obtain ⟨xs,hq,hx⟩:=hg
  obtain ⟨its,rv,p,hz⟩:=I.tuple hq
  obtain ⟨f0,f1,f2,f3,f4,f5⟩:=hf it (by simp)
  have hl:=rv.length
  exact wpAny_pyNext_tuple_end (I.ok.hd hc) st (show s.heap.IsTuple a its.toArray from p) (by simp; omega) fun h' eb=>⟨rfl,I.turned (t':=s.toks) (fun b o hb e=>eb b o hb e) f0 f1 f3 f4 f5⟩
 self:=fun _ _ _ _ _ st h=>wpAny_pyIter_tupleiter st h
theorem zcf {P:Program} {w:World} {K:PySem.W.Frag} {tg:Expr} (it:Addr) (lo:Int) (n:Nat):Turn P w K tg (Itr lo n) [it] it (fun i h=>IsRangeIter h it (lo + (i:Nat) * 1) ((n:Int) - (i:Nat)) 1) where
 mem:=by simp
 obj:=fun i h st b hb=>by
  have e:b = it:=by simpa using hb
  subst e
  exact ⟨_,st,fun v z=>by
   have z':Data.fields _ = Data.cell v:=z
   cases z'⟩
 keep:=fun i h h' st k=>k it (by simp) _ st
 item:=by
  intro X hP hw hK hc i pins s σ H E I hf st hg
  subst hP hw hK
  obtain ⟨f0,f1,f2,f3,f4,f5⟩:=hf it (by simp)
  have W:=Walks.range (prog:=X.prog) (w:=X.w) (I.ok.hd hc) it lo 1 n
  refine W.item i s _ _ hg st fun v h' tk hv st' kk=>?_
  obtain ⟨t,rfl⟩:=hv
  have I1:Inv X pins σ H { s with heap:=h',toks:=tk }:=I.turned (fun b o hb e=>kk b o (by simpa using hb) e) f0 f1 f3 f4 f5
  refine ⟨_,rfl,zfb (s:={ s with heap:=h',toks:=tk }) (n := "range_iterator") st' rfl rfl (by decide) ⟨.int (lo + i),H,I1,⟨t,?_⟩,⟨rfl,rfl⟩,st',fun b hb=>(hf b hb).1⟩⟩
  rw [Int.mul_one]
 done:=by
  intro X hP hw hK hc i pins s σ H E I hf st hg
  subst hP hw hK
  obtain ⟨f0,f1,f2,f3,f4,f5⟩:=hf it (by simp)
  exact wpAny_pyNext_range_end (I.ok.hd hc) st (by have:n≤i:=hg; omega) fun h' eb=>⟨rfl,I.turned (t':=s.toks) (fun b o hb e=>eb b o hb e) f0 f1 f3 f4 f5⟩
 self:=fun _ _ _ _ _ st h=>wpAny_pyIter_rangeiter st h
end L2
namespace L2
open PySem PySem.Spec PyProof.Rows
section
variable {X:Cx} {tg:Expr}
inductive zdO (K:PySem.W.Frag) (x:V) (H1:Hp) (R:It→Hp→Prop):Prop where
 | mk (a:Addr) (h0_:x = .ref a) (h1_:(∃ xs,SqL K H1 a xs)) (h2_:R (Itl K a) H1):zdO K x H1 R
noncomputable def iList (K:PySem.W.Frag) (tl:TE):TI:=fun σ H R=>tl σ H fun x H1=>zdO K x H1 R
noncomputable def iTup (K:PySem.W.Frag) (tl:TE):TI:=fun σ H R=>tl σ H fun x H1=>∃ a,x = .ref a∧(∃ xs,SqT K H1 a xs)∧R (Itt K a) H1
theorem zgC {l:Expr} {tl:TE} (hl:PE X l tl):PI X tg l (iList X.K tl):=by
 intro pins s σ H R I h
 refine thn (hl pins s σ H _ I h) fun v s1 ⟨x,H1,I1,r1,q1⟩=>?_
 obtain ⟨a,e,⟨xs,hq⟩,q⟩:=q1
 subst e
 cases r1
 obtain ⟨its,rv,p,hz⟩:=I1.list hq
 refine wpAny_pyIter_list p.isList ?_
 refine ⟨s1.heap.objs.size,[s1.heap.objs.size],_,_,H1,rfl,I1.kept (t':=s1.toks) fun b o e=>Heap.get?_push_of_some _ e,zdg a _,⟨_,Heap.get?_push_size _ rfl,rfl,rfl⟩,fun b hb=>?_,q⟩
 have e:b = s1.heap.objs.size:=by simpa using hb
 subst e
 exact I1.fpOk (Nat.le_refl _) (I1.hok.fresh (Nat.le_refl _))
theorem zhU {l:Expr} {tl:TE} (hl:PE X l tl):PI X tg l (iTup X.K tl):=by
 intro pins s σ H R I h
 refine thn (hl pins s σ H _ I h) fun v s1 ⟨x,H1,I1,r1,q1⟩=>?_
 obtain ⟨a,e,⟨xs,hq⟩,q⟩:=q1
 subst e
 cases r1
 obtain ⟨its,rv,p,hz⟩:=I1.tuple hq
 refine wpAny_pyIter_tuple (show s1.heap.IsTuple a its.toArray from p) ?_
 refine ⟨s1.heap.objs.size,[s1.heap.objs.size],_,_,H1,rfl,I1.kept (t':=s1.toks) fun b o e=>Heap.get?_push_of_some _ e,zce a _,⟨_,Heap.get?_push_size _ rfl,rfl,rfl⟩,fun b hb=>?_,q⟩
 have e:b = s1.heap.objs.size:=by simpa using hb
 subst e
 exact I1.fpOk (Nat.le_refl _) (I1.hok.fresh (Nat.le_refl _))
theorem ze6 {pins:List (Addr×Obj)} {σ:St} {H:Hp} {s:Shared} {R:It→Hp→Prop} {E:Value→Shared→Prop} {lo hi:Int} {t u v:Tok} {tk:Nat} (I:Inv X pins σ H s) (h1 : -(2 ^ 62)≤lo) (h2:lo < 2 ^ 62) (h3 : -(2 ^ 62)≤hi) (h4:hi < 2 ^ 62)
  (q:R (Itr lo (hi - lo).toNat) H):wpAny (model X.prog X.w) X.A (pyIter (.ref s.heap.objs.size)) (PIE X pins σ tg R) E { s with heap:=s.heap.push { cls:=.type "range",data:=.fields #[.int lo t,.int hi u,.int 1 v] },toks:=tk }:=by
 refine wpAny_pyIter_range (IsRange.new ..) (small_one h1 h2 h3 h4) ?_
 have I1:Inv X pins σ H { s with heap:=s.heap.push { cls:=.type "range",data:=.fields #[.int lo t,.int hi u,.int 1 v] },toks:=tk }:=I.kept fun b o e=>Heap.get?_push_of_some _ e
 refine ⟨(s.heap.push { cls:=.type "range",data:=.fields #[.int lo t,.int hi u,.int 1 v] }).objs.size,[(s.heap.push { cls:=.type "range",data:=.fields #[.int lo t,.int hi u,.int 1 v] }).objs.size],_,_,H,rfl,
  I1.kept (t':=tk) fun b o e=>Heap.get?_push_of_some _ e,zcf _ lo (hi - lo).toNat,?_,fun b hb=>?_,q⟩
 ·have e1:lo + ((0:Nat):Int) * 1 = lo:=by simp
  have e2:(((hi - lo).toNat:Nat):Int) - ((0:Nat):Int) = Builtin.Range.rangeSize lo hi 1:=by rw [rangeSize_one]; split <;> omega
  show IsRangeIter _ _ (lo + ((0:Nat):Int) * 1) ((((hi - lo).toNat:Nat):Int) - ((0:Nat):Int)) 1
  rw [e1,e2]
  exact Heap.get?_push_size _ rfl
 ·have e:b = (s.heap.push { cls:=.type "range",data:=.fields #[.int lo t,.int hi u,.int 1 v] }).objs.size:=by simpa using hb
  subst e
  exact I1.fpOk (Nat.le_refl _) (I1.hok.fresh (Nat.le_refl _))
inductive zev (vs:List V) (H1:Hp) (R:It→Hp→Prop):Prop where
 | mk (j:Int) (h0_:vs = [.int j]) (h1_ : -(2 ^ 62)≤j) (h2_:j < 2 ^ 62) (h3_:R (Itr 0 j.toNat) H1):zev vs H1 R
noncomputable def iRng1 (ta:TA):TI:=fun σ H R=>ta σ H fun vs H1=>zev vs H1 R
theorem zR {a:Expr} {ta:TA} {p pos:Pos} (hg:Gl X "range") (hm:X.mg "range" = none) (ha:PA X [a] ta) (hs:starEach [a] X.env = [(false,eval a X.env)]:=by rfl):PI X tg (.Call (.Name "range" p) [a] [] pos) (iRng1 ta):=by
 intro pins s σ H R I h
 refine Call_ (ZU I hg hm boot_range (PyProof.Rows.callWith_type1 (thn (ha pos pins s σ H _ I h) fun us s1 ⟨vs,H1,I1,r1,q1⟩=>?_) hs rfl))
 obtain ⟨j,e,q1,q2,q⟩:=q1
 subst e
 cases r1 with
 | cons r rr =>
  cases rr
  obtain ⟨t,rfl⟩:=r
  exact call_range_1 (ze6 I1 (by omega) (by omega) q1 q2 (by simpa using q))
noncomputable def tFor (wi:TI) (g:TG) (tb:TS):TS:=fun D σ H=>wi σ H fun J H1=>∃ W:Nat→Nat→St→Hp→Prop,(∃ m,W 0 m σ H1)∧∀ i m σ H,W i m σ H →
 (J.stop i H∧D.nx σ H)∨(J.go i H∧∃ N:St→Hp→Prop,(∀ σ' H',N σ' H'→∃ m',m' < m∧W (i + 1) m' σ' H')∧∀ x H',J.yld i H x H'→g x σ H' fun σ2 H2=>tb { D with nx:=N,ct:=N,bk:=D.nx } σ2 H2)
noncomputable def pinsAt (fp:List Addr) (h:Heap):List (Addr×Obj):=fp.filterMap fun b=>(h.get? b).map fun o=>(b,o)
theorem qE {fp:List Addr} {h:Heap} {b:Addr} {o:Obj} (hb:b∈fp) (e:h.get? b = some o):(b,o)∈pinsAt fp h:=List.mem_filterMap.mpr ⟨b,hb,by rw [e]; rfl⟩
theorem zdQ {fp:List Addr} {h:Heap} {p:Addr×Obj} (hp:p∈pinsAt fp h):p.1∈fp∧h.get? p.1 = some p.2:=by
 obtain ⟨b,hb,e⟩:=List.mem_filterMap.mp hp
 cases q:h.get? b with
 | none=>rw [q] at e; cases e
 | some o =>
  rw [q] at e
  have e':(b,o) = p:=Option.some.inj e
  subst e'
  exact ⟨hb,q⟩
theorem Inv.pinned {pins:List (Addr×Obj)} {σ:St} {H:Hp} {s:Shared} {fp:List Addr} (I:Inv X pins σ H s) (hf:∀ b∈fp,FpOk X pins H b) (ho:∀ b∈fp,∃ o,s.heap.get? b = some o∧∀ v,o.data≠.cell v):Inv X (pins ++ pinsAt fp s.heap) σ H s :=
 I.pins_of fun p hp=>(List.mem_append.mp hp).elim (fun z=>I.pin p (List.mem_append_right _ z)) fun z=>by
  obtain ⟨hb,e⟩:=zdQ z
  obtain ⟨f0,f1,f2,_⟩:=hf p.1 hb
  obtain ⟨o,e',d⟩:=ho p.1 hb
  rw [e] at e'; cases e'
  exact ⟨e,f0,f1,f2,d⟩
theorem Inv.unpinned {pins pl:List (Addr×Obj)} {σ:St} {H:Hp} {s:Shared} (I:Inv X (pins ++ pl) σ H s):Inv X pins σ H s:=I.pins_of fun p hp=>I.pin p (List.mem_append_right _ (List.mem_append_left _ hp))
theorem yu {iter:Expr} {body:List Stmt} {wi:TI} {g:TG} {tb:TS} {pos:Pos} (hp:PassesOwn (model X.prog X.w) X.A X.env X.xe) (hc:X.calm = true) (hi:PI X tg iter wi) (hg:PG X tg g) (hb:PSs X body tb)
  (hs:∀ x,foldedSetIterable iter X.env x = pure x:=by intro _; rfl):PS X (.For tg iter body [] pos) (tFor wi g tb):=by
 intro pins s σ H D I h
 refine wpAny_For (thn (hi pins s σ H _ I h) fun v s1 h1=>thn h1 fun itv s2 h2=>?_) hs
 obtain ⟨it,fp,tn,J,H2,e,I2,T,st2,f2,W,⟨m0,w0⟩,turn⟩:=h2
 subst e
 have stat:∀ {H':Hp},(∀ b∈fp,H' b = none)→∀ b∈fp,FpOk X pins H' b:=fun hn b hb=>⟨hn b hb,(f2 b hb).2⟩
 refine codeAny_forLoop_any (fun n s'=>∃ i σ' H',Inv X pins σ' H' s'∧tn i s'.heap∧(∀ b∈fp,H' b = none)∧W i n σ' H') ?_ m0 ⟨0,σ,H2,I2,st2,fun b hb=>(f2 b hb).1,w0⟩
 rintro n s3 ⟨i,σ3,H3,I3,st3,fr3,w3⟩
 rcases turn i n σ3 H3 w3 with ⟨stop,qn⟩ | ⟨go,N,hN,step⟩
 ·refine wpAny_passesOwn hp (thn (T.done X rfl rfl rfl hc i pins s3 σ3 H3 X.xe I3 (stat fr3) st3 stop) fun r s4 ⟨hr,I4⟩=>?_)
  subst hr
  exact wpAny_execs_nil ⟨σ3,H3,I4,qn⟩
 ·refine wpAny_passesOwn hp (thn (T.item X rfl rfl rfl hc i pins s3 σ3 H3 X.xe I3 (stat fr3) st3 go) fun r s4 ⟨u,hr,h4⟩=>?_)
  subst hr
  refine wpAny_passesOwn hp (thn h4 fun _ s5 ⟨x,H5,I5,r5,y5,st5,fr5⟩=>?_)
  have I5':=I5.pinned (stat fr5) (T.obj _ _ st5)
  refine wpAny_passesOwn hp (thn (hg _ s5 σ3 H5 x u _ I5' r5 (step x H5 y5)) fun _ s6 ⟨σ6,H6,I6,q6⟩=>?_)
  refine wpAny_passesOwn hp (thn (hb _ s6 σ6 H6 _ I6 q6) fun f s7 q7=>?_)
  have again:∀ {σ7:St} {H7:Hp},Inv X (pins ++ pinsAt fp s5.heap) σ7 H7 s7→N σ7 H7→∃ m,m < n∧∃ i σ' H',Inv X pins σ' H' s7∧tn i s7.heap∧(∀ b∈fp,H' b = none)∧W i m σ' H':=fun {σ7 H7} I7 n7=>by
   obtain ⟨m',hm,w7⟩:=hN σ7 H7 n7
   refine ⟨m',hm,i + 1,σ7,H7,I7.unpinned,T.keep _ _ _ st5 fun b hb o e=>(I7.pin (b,o) (List.mem_append_right _ (List.mem_append_right _ (qE hb e)))).1,fun b hb=>?_,w7⟩
   obtain ⟨o,e,d⟩:=T.obj _ _ st5 b hb
   exact (I7.pin (b,o) (List.mem_append_right _ (List.mem_append_right _ (qE hb e)))).2.1
  cases f with
  | next=>obtain ⟨σ7,H7,I7,n7⟩:=q7; exact again I7 n7
  | cont=>obtain ⟨σ7,H7,I7,n7⟩:=q7; exact again I7 n7
  | brk=>obtain ⟨σ7,H7,I7,q7⟩:=q7; exact ⟨σ7,H7,I7.unpinned,q7⟩
  | ret v=>obtain ⟨x7,σ7,H7,I7,r7,q7⟩:=q7; exact ⟨x7,σ7,H7,I7.unpinned,r7,q7⟩
end
theorem yT {K:PySem.W.Frag} {a:Addr} {xs:List V} {g:TG} {tb:TS} {D:Ends} {σ:St} {H:Hp} (Pv:Nat→St→Hp→Prop) (h0:Pv 0 σ H) (hl:∀ i σ H,i≤xs.length→Pv i σ H→SqL K H a xs)
  (hs:∀ i x σ H,xs[i]? = some x→Pv i σ H→g x σ H fun σ2 H2=>tb { D with nx:=Pv (i + 1),ct:=Pv (i + 1),bk:=D.nx } σ2 H2) (hd:∀ σ H,Pv xs.length σ H→D.nx σ H) :
  ∃ W:Nat→Nat→St→Hp→Prop,(∃ m,W 0 m σ H)∧∀ i m σ H,W i m σ H →
   ((Itl K a).stop i H∧D.nx σ H)∨((Itl K a).go i H∧∃ N:St→Hp→Prop,(∀ σ' H',N σ' H'→∃ m',m' < m∧W (i + 1) m' σ' H')∧∀ x H',(Itl K a).yld i H x H'→g x σ H' fun σ2 H2=>tb { D with nx:=N,ct:=N,bk:=D.nx } σ2 H2):=by
 refine ⟨fun i m σ H=>m = xs.length - i∧i≤xs.length∧Pv i σ H,⟨xs.length,by simp,Nat.zero_le _,h0⟩,?_⟩
 rintro i m σ H ⟨rfl,hi,p⟩
 have q:=hl i σ H hi p
 by_cases hlt:i < xs.length
 ·refine .inr ⟨⟨xs,xs[i],q,by simp [hlt]⟩,Pv (i + 1),fun σ' H' p'=>⟨xs.length - (i + 1),by omega,rfl,hlt,p'⟩,fun x H' y=>?_⟩
  obtain ⟨e,y⟩:=y
  subst e
  exact hs i x σ _ (y xs q) p
 ·have e:i = xs.length:=by omega
  subst e
  exact .inl ⟨⟨xs,q,Nat.le_refl _⟩,hd σ H p⟩
theorem yz {lo:Int} {n:Nat} {g:TG} {tb:TS} {D:Ends} {σ:St} {H:Hp} (Pv:Nat→St→Hp→Prop) (h0:Pv 0 σ H)
  (hs:∀ i σ H,i < n→Pv i σ H→g (.int (lo + i)) σ H fun σ2 H2=>tb { D with nx:=Pv (i + 1),ct:=Pv (i + 1),bk:=D.nx } σ2 H2) (hd:∀ σ H,Pv n σ H→D.nx σ H) :
  ∃ W:Nat→Nat→St→Hp→Prop,(∃ m,W 0 m σ H)∧∀ i m σ H,W i m σ H →
   ((Itr lo n).stop i H∧D.nx σ H)∨((Itr lo n).go i H∧∃ N:St→Hp→Prop,(∀ σ' H',N σ' H'→∃ m',m' < m∧W (i + 1) m' σ' H')∧∀ x H',(Itr lo n).yld i H x H'→g x σ H' fun σ2 H2=>tb { D with nx:=N,ct:=N,bk:=D.nx } σ2 H2):=by
 refine ⟨fun i m σ H=>m = n - i∧i≤n∧Pv i σ H,⟨n,by simp,Nat.zero_le _,h0⟩,?_⟩
 rintro i m σ H ⟨rfl,hi,p⟩
 by_cases hlt:i < n
 ·refine .inr ⟨hlt,Pv (i + 1),fun σ' H' p'=>⟨n - (i + 1),by omega,rfl,hlt,p'⟩,fun x H' y=>?_⟩
  obtain ⟨e,y⟩:=y
  subst e y
  exact hs i σ _ hlt p
 ·have e:i = n:=by omega
  subst e
  exact .inl ⟨Nat.le_refl _,hd σ H p⟩
end L2
namespace L2
open PySem PySem.Spec PyProof.Rows
noncomputable abbrev R2:=V→V→Hp→VK→Prop
noncomputable def OpR (X:Cx) (f:Value→Value→Sem Value) (r:R2):Prop :=
 ∀ (pins:List (Addr×Obj)) (s:Shared) (σ:St) (H:Hp) (x y:V) (v u:Value) (Q:VK),Inv X pins σ H s→RelV x v→RelV y u→r x y H Q →
  wpAny (model X.prog X.w) X.A (f v u) (EP X pins σ Q) X.xe s
noncomputable def UnR (X:Cx) (f:Value→Sem Value) (r:V→Hp→VK→Prop):Prop :=
 ∀ (pins:List (Addr×Obj)) (s:Shared) (σ:St) (H:Hp) (x:V) (v:Value) (Q:VK),Inv X pins σ H s→RelV x v→r x H Q →
  wpAny (model X.prog X.w) X.A (f v) (EP X pins σ Q) X.xe s
noncomputable def CallR (X:Cx) (f:Value) (r:List V→Hp→VK→Prop):Prop :=
 ∀ (pins:List (Addr×Obj)) (s:Shared) (σ:St) (H:Hp) (xs:List V) (us:List Value) (Q:VK),Inv X pins σ H s→Vals xs us→r xs H Q →
  wpAny (model X.prog X.w) X.A (call f us) (EP X pins σ Q) X.xe s
noncomputable def tOp (r:R2) (ta tb:TE):TE:=fun σ H Q=>ta σ H fun x H1=>tb σ H1 fun y H2=>r x y H2 Q
noncomputable def tUn (r:V→Hp→VK→Prop) (ta:TE):TE:=fun σ H Q=>ta σ H fun x H1=>r x H1 Q
inductive I_rI (C:Int→Int→Prop) (g:Int→Int→V) (x y:V) (H:Hp) (Q:VK):Prop where
 | mk (i j:Int) (h0_:x = .int i) (h1_:y = .int j) (h2_:C i j) (h3_:Q (g i j) H):I_rI C g x y H Q
noncomputable def rI (C:Int→Int→Prop) (g:Int→Int→V):R2:=fun x y H Q=>I_rI C g x y H Q
inductive zhC (g:Int→Int→V) (x y:V) (H:Hp) (Q:VK):Prop where
 | mk (i j:Int) (h0_:x = .int i) (h1_:y = .int j) (h2_:Q (g i j) H):zhC g x y H Q
noncomputable def rI0 (g:Int→Int→V):R2:=fun x y H Q=>zhC g x y H Q
inductive I_rU (g:Int→V) (x:V) (H:Hp) (Q:VK):Prop where
 | mk (i:Int) (h0_:x = .int i) (h1_:Q (g i) H):I_rU g x H Q
noncomputable def rU (g:Int→V):V→Hp→VK→Prop:=fun x H Q=>I_rU g x H Q
section
variable {X:Cx} {a b c:Expr} {ta tb tc:TE} {pos:Pos}
theorem binT (ha:PE X a ta) (hb:PE X b tb) {pins:List (Addr×Obj)} {s:Shared} {σ:St} {H:Hp} {R:V→V→Hp→Prop} (I:Inv X pins σ H s)
  (h:ta σ H fun x H1=>tb σ H1 fun y H2=>R x y H2) {Q:Value→Shared→Prop} {f:Value→Value→Sem Value}
  (hf:∀ v u s2 x y H2,Inv X pins σ H2 s2→RelV x v→RelV y u→R x y H2→wpAny (model X.prog X.w) X.A (f v u) Q X.xe s2) :
  wpAny (model X.prog X.w) X.A (eval a X.env) (fun v s₁=>wpAny (model X.prog X.w) X.A (eval b X.env) (fun u s₂=>wpAny (model X.prog X.w) X.A (f v u) Q X.xe s₂) X.xe s₁) X.xe s:=by
 refine thn (ha pins s σ H _ I h) fun v s1 ⟨x,H1,I1,r1,q1⟩=>?_
 refine thn (hb pins s1 σ H1 _ I1 q1) fun u s2 ⟨y,H2,I2,r2,q2⟩=>?_
 exact hf v u s2 x y H2 I2 r1 r2 q2
theorem zi {op:Operator} {r:R2} (ho:OpR X (binaryOp op) r) (ha:PE X a ta) (hb:PE X b tb):PE X (.BinOp a op b pos) (tOp r ta tb):=by
 intro pins s σ H Q I h
 exact wpAny_BinOp (binT ha hb I h fun v u s2 x y H2 I2 rx ry q=>ho pins s2 σ H2 x y v u Q I2 rx ry q)
theorem zgA {op:UnaryOp} {r:V→Hp→VK→Prop} (ho:UnR X (unaryOp op) r) (ha:PE X a ta):PE X (.UnaryOp op a pos) (tUn r ta):=by
 intro pins s σ H Q I h
 exact UnaryOp_ (thn (ha pins s σ H _ I h) fun v s1 ⟨x,H1,I1,r1,q1⟩=>ho pins s1 σ H1 x v Q I1 r1 q1)
theorem opI {f:Value→Value→Sem Value} {C:Int→Int→Prop} {g:Int→Int→Int}
  (rule:∀ (i j:Int) (t u:Tok) (s:Shared) (Q:Value→Shared→Prop) (E:Value→Shared→Prop),C i j→Q (.int (g i j) s.toks) { s with toks:=s.toks + 1 }→wpAny (model X.prog X.w) X.A (f (.int i t) (.int j u)) Q E s) :
  OpR X f (rI C fun i j=>.int (g i j)):=by
 intro pins s σ H x y v u Q I rx ry h
 obtain ⟨i,j,rfl,rfl,hc,q⟩:=h
 obtain ⟨t,rfl⟩:=rx
 obtain ⟨t',rfl⟩:=ry
 exact rule i j t t' s _ _ hc ⟨.int (g i j),H,I.tok _,⟨_,rfl⟩,q⟩
theorem opI0 {f:Value→Value→Sem Value} {g:Int→Int→Int}
  (rule:∀ (i j:Int) (t u:Tok) (s:Shared) (Q:Value→Shared→Prop) (E:Value→Shared→Prop),Q (.int (g i j) s.toks) { s with toks:=s.toks + 1 }→wpAny (model X.prog X.w) X.A (f (.int i t) (.int j u)) Q E s) :
  OpR X f (rI0 fun i j=>.int (g i j)):=by
 intro pins s σ H x y v u Q I rx ry h
 obtain ⟨i,j,rfl,rfl,q⟩:=h
 obtain ⟨t,rfl⟩:=rx
 obtain ⟨t',rfl⟩:=ry
 exact rule i j t t' s _ _ ⟨.int (g i j),H,I.tok _,⟨_,rfl⟩,q⟩
theorem opB0 {f:Value→Value→Sem Value} {g:Int→Int→Bool}
  (rule:∀ (i j:Int) (t u:Tok) (s:Shared) (Q:Value→Shared→Prop) (E:Value→Shared→Prop),Q (.bool (g i j)) s→wpAny (model X.prog X.w) X.A (f (.int i t) (.int j u)) Q E s) :
  OpR X f (rI0 fun i j=>.bl (g i j)):=by
 intro pins s σ H x y v u Q I rx ry h
 obtain ⟨i,j,rfl,rfl,q⟩:=h
 obtain ⟨t,rfl⟩:=rx
 obtain ⟨t',rfl⟩:=ry
 exact rule i j t t' s _ _ ⟨.bl (g i j),H,I,rfl,q⟩
noncomputable def CPow (i j:Int):Prop:=0≤j∧j≤1000000∧i.natAbs < 2 ^ 64
theorem yh:OpR X (binaryOp .Add) (rI0 fun i j=>.int (i + j)):=opI0 fun _ _ _ _ _ _ _ q=>add_int q
theorem xG:OpR X (binaryOp .Sub) (rI0 fun i j=>.int (i - j)):=opI0 fun _ _ _ _ _ _ _ q=>sub_int q
theorem zN:OpR X (binaryOp .Mod) (rI (fun _ j=>j≠0) fun i j=>.int (i.fmod j)):=opI fun _ _ _ _ _ _ _ hc q=>mod_int' hc q
theorem zc8:OpR X (binaryOp .Pow) (rI CPow fun i j=>.int (i ^ j.toNat)):=opI fun _ _ _ _ _ _ _ hc q=>pow_int_small hc.1 hc.2.1 hc.2.2 q
theorem unI {f:Value→Sem Value} {g:Int→Int}
  (rule:∀ (i:Int) (t:Tok) (s:Shared) (Q:Value→Shared→Prop) (E:Value→Shared→Prop),Q (.int (g i) s.toks) { s with toks:=s.toks + 1 }→wpAny (model X.prog X.w) X.A (f (.int i t)) Q E s) :
  UnR X f (rU fun i=>.int (g i)):=by
 intro pins s σ H x v Q I rx h
 obtain ⟨i,rfl,q⟩:=h
 obtain ⟨t,rfl⟩:=rx
 exact rule i t s _ _ ⟨.int (g i),H,I.tok _,⟨_,rfl⟩,q⟩
theorem zd1:UnR X (unaryOp .USub) (rU fun i=>.int (-i)):=unI fun _ _ _ _ _ q=>neg_int q
end
noncomputable def scal:V→V→Bool
 | .non,.non=>true | .non,.int _=>true | .int _,.non=>true | .non,.bl _=>true | .bl _,.non=>true | .non,.str _=>true | .str _,.non=>true
 | .int _,.int _=>true | .bl _,.bl _=>true | .str _,.str _=>true | .byt _,.byt _=>true
 | .int _,.str _=>true | .str _,.int _=>true | .bl _,.str _=>true | .str _,.bl _=>true
 | _,_=>false
noncomputable def rEq:R2:=fun x y H Q=>scal x y = true∧Q (.bl (decide (x = y))) H
noncomputable def rNe:R2:=fun x y H Q=>scal x y = true∧Q (.bl (!decide (x = y))) H
theorem zdX {i j:Int}:decide (V.int i = V.int j) = (i == j):=by
 rw [Bool.eq_iff_iff]
 simp
theorem zfV {i j:Bool}:decide (V.bl i = V.bl j) = (i == j):=by
 rw [Bool.eq_iff_iff]
 simp
theorem zc1 {i j:Str}:decide (V.str i = V.str j) = (i == j):=by
 rw [Bool.eq_iff_iff]
 simp
theorem zd5 {i j:Array UInt8}:decide (V.byt i = V.byt j) = (i.toList == j.toList):=by
 rw [Bool.eq_iff_iff]
 cases i
 cases j
 simp
section
variable {X:Cx} {a b c:Expr} {ta tb tc:TE} {pos:Pos}
theorem yf {pins:List (Addr×Obj)} {σ:St} {H:Hp} {s:Shared} {Q:VK} {k k':Bool} (I:Inv X pins σ H s) (q:Q (.bl k) H) (e:k = k'):EP X pins σ Q (.bool k') s:=by
 subst e
 exact ⟨.bl k,H,I,rfl,q⟩
theorem xt:OpR X (compareOp .Eq) rEq:=by
 intro pins s σ H x y v u Q I rx ry h
 obtain ⟨hs,q⟩:=h
 cases x with
 | non =>
  cases rx
  cases y with
  | non=>cases ry; exact PySem.EqNone.eq_none_none (yf I q (by simp))
  | bl j=>cases ry; exact PySem.EqNone.eq_none_bool (yf I q (by simp))
  | int j=>obtain ⟨t',rfl⟩:=ry; exact PySem.EqNone.eq_none_int (yf I q (by simp))
  | str j=>obtain ⟨t',rfl⟩:=ry; exact PySem.EqNone.eq_none_str (yf I q (by simp))
  | _=>exact absurd (show false = true from hs) Bool.false_ne_true
 | bl i =>
  cases rx
  cases y with
  | non=>cases ry; exact PySem.EqNone.eq_bool_none (yf I q (by simp))
  | bl j=>cases ry; exact eq_bool (yf I q zfV)
  | str j=>obtain ⟨t',rfl⟩:=ry; exact PySem.EqMixed.eq_bool_str (yf I q (by simp))
  | _=>exact absurd (show false = true from hs) Bool.false_ne_true
 | int i =>
  obtain ⟨t,rfl⟩:=rx
  cases y with
  | non=>cases ry; exact PySem.EqNone.eq_int_none (yf I q (by simp))
  | int j=>obtain ⟨t',rfl⟩:=ry; exact eq_int (yf I q zdX)
  | str j=>obtain ⟨t',rfl⟩:=ry; exact PySem.EqMixed.eq_int_str (yf I q (by simp))
  | _=>exact absurd (show false = true from hs) Bool.false_ne_true
 | str i =>
  obtain ⟨t,rfl⟩:=rx
  cases y with
  | non=>cases ry; exact PySem.EqNone.eq_str_none (yf I q (by simp))
  | bl j=>cases ry; exact PySem.EqMixed.eq_str_bool (yf I q (by simp))
  | int j=>obtain ⟨t',rfl⟩:=ry; exact PySem.EqMixed.eq_str_int (yf I q (by simp))
  | str j=>obtain ⟨t',rfl⟩:=ry; exact eq_str (yf I q zc1)
  | _=>exact absurd (show false = true from hs) Bool.false_ne_true
 | byt i =>
  obtain ⟨t,rfl⟩:=rx
  cases y with
  | byt j=>obtain ⟨t',rfl⟩:=ry; exact PySem.W.eq_bytes (yf I q zd5)
  | _=>exact absurd (show false = true from hs) Bool.false_ne_true
 | _=>cases y <;> exact absurd (show false = true from hs) Bool.false_ne_true
theorem Yh:OpR X (compareOp .NotEq) rNe:=by
 intro pins s σ H x y v u Q I rx ry h
 obtain ⟨hs,q⟩:=h
 cases x with
 | non =>
  cases rx
  cases y with
  | non=>cases ry; exact PySem.EqNone.ne_none_none (yf I q (by simp))
  | bl j=>cases ry; exact PySem.EqNone.ne_none_bool (yf I q (by simp))
  | int j=>obtain ⟨t',rfl⟩:=ry; exact PySem.EqNone.ne_none_int (yf I q (by simp))
  | str j=>obtain ⟨t',rfl⟩:=ry; exact PySem.EqNone.ne_none_str (yf I q (by simp))
  | _=>exact absurd (show false = true from hs) Bool.false_ne_true
 | bl i =>
  cases rx
  cases y with
  | non=>cases ry; exact PySem.EqNone.ne_bool_none (yf I q (by simp))
  | bl j=>cases ry; exact ne_bool (yf I q (congrArg not zfV))
  | str j=>obtain ⟨t',rfl⟩:=ry; exact PySem.EqMixed.ne_bool_str (yf I q (by simp))
  | _=>exact absurd (show false = true from hs) Bool.false_ne_true
 | int i =>
  obtain ⟨t,rfl⟩:=rx
  cases y with
  | non=>cases ry; exact PySem.EqNone.ne_int_none (yf I q (by simp))
  | int j=>obtain ⟨t',rfl⟩:=ry; exact ne_int (yf I q (congrArg not zdX))
  | str j=>obtain ⟨t',rfl⟩:=ry; exact PySem.EqMixed.ne_int_str (yf I q (by simp))
  | _=>exact absurd (show false = true from hs) Bool.false_ne_true
 | str i =>
  obtain ⟨t,rfl⟩:=rx
  cases y with
  | non=>cases ry; exact PySem.EqNone.ne_str_none (yf I q (by simp))
  | bl j=>cases ry; exact PySem.EqMixed.ne_str_bool (yf I q (by simp))
  | int j=>obtain ⟨t',rfl⟩:=ry; exact PySem.EqMixed.ne_str_int (yf I q (by simp))
  | str j=>obtain ⟨t',rfl⟩:=ry; exact ne_str (yf I q (congrArg not zc1))
  | _=>exact absurd (show false = true from hs) Bool.false_ne_true
 | byt i =>
  obtain ⟨t,rfl⟩:=rx
  cases y with
  | byt j=>obtain ⟨t',rfl⟩:=ry; exact PySem.W.ne_bytes (yf I q (congrArg not zd5))
  | _=>exact absurd (show false = true from hs) Bool.false_ne_true
 | _=>cases y <;> exact absurd (show false = true from hs) Bool.false_ne_true
theorem zhg:OpR X (compareOp .Lt) (rI0 fun i j=>.bl (decide (i < j))):=opB0 fun _ _ _ _ _ _ _ q=>lt_int q
theorem zih:OpR X (compareOp .LtE) (rI0 fun i j=>.bl (decide (i≤j))):=opB0 fun _ _ _ _ _ _ _ q=>le_int q
theorem Yj:OpR X (compareOp .Gt) (rI0 fun i j=>.bl (decide (j < i))):=opB0 fun _ _ _ _ _ _ _ q=>gt_int q
theorem zhf:OpR X (compareOp .IsNot) (fun x y H Q=>y = .non∧Q (.bl (!decide (x = .non))) H):=by
 intro pins s σ H x y v u Q I rx ry h
 obtain ⟨rfl,q⟩:=h
 cases ry
 refine isnot_none_gen (yf I q ?_)
 cases x <;> first
  | (cases rx; rfl)
  | (obtain ⟨t,rfl⟩:=rx; rfl)
theorem nomark (b:Expr) {op:CmpOp} (h:op≠.In:=by decide) (h2:op≠.NotIn:=by decide):behindInMarks op b = false:=by
 have e1:(op == CmpOp.In) = false:=by cases op <;> first | rfl | exact absurd rfl h
 have e2:(op == CmpOp.NotIn) = false:=by cases op <;> first | rfl | exact absurd rfl h2
 cases b <;> simp [behindInMarks,e1,e2]
theorem xp {op:CmpOp} {r:R2} (ho:OpR X (compareOp op) r) (ha:PE X a ta) (hb:PE X b tb) (hm:behindInMarks op b = false):PE X (.Compare a [op] [b] pos) (tOp r ta tb):=by
 intro pins s σ H Q I h
 exact wpAny_Compare1 (binT ha hb I h fun v u s2 x y H2 I2 rx ry q=>ho pins s2 σ H2 x y v u Q I2 rx ry q) hm
inductive zez (x:V) (H':Hp) (Q:Bool→Hp→Prop):Prop where
 | mk (k:Bool) (h0_:x = .bl k) (h1_:Q k H'):zez x H' Q
noncomputable def tTest (t:TE):TT:=fun σ H Q=>t σ H fun x H'=>zez x H' Q
theorem zH {op:CmpOp} {r:R2} (ho:OpR X (compareOp op) r) (ha:PE X a ta) (hb:PE X b tb) (hm:behindInMarks op b = false):PT X (.Compare a [op] [b] pos) (tTest (tOp r ta tb)):=by
 intro pins s σ H Q I h
 refine wpAny_isTrue_Compare1 (thn (ha pins s σ H _ I h) fun v s1 ⟨x,H1,I1,r1,q1⟩=>thn (hb pins s1 σ H1 _ I1 q1) fun u s2 ⟨y,H2,I2,r2,q2⟩ =>
  thn (ho pins s2 σ H2 x y v u _ I2 r1 r2 q2) fun c s3 ⟨z,H3,I3,r3,k,e,q3⟩=>?_) hm
 subst e
 cases r3
 exact wpAny_truthy_bool ⟨H3,I3,q3⟩
noncomputable def tChain (r r':R2) (ta tb tc:TE):TE:=fun σ H Q=>ta σ H fun x H1=>tb σ H1 fun y H2=>r x y H2 fun z H3=>∃ k,z = .bl k ∧
 (if k = true then tc σ H3 fun w' H4=>r' y w' H4 Q else Q (.bl false) H3)
theorem ze9 {op op':CmpOp} {r r':R2} (ho:OpR X (compareOp op) r) (ho':OpR X (compareOp op') r') (ha:PE X a ta) (hb:PE X b tb) (hc:PE X c tc)
  (hm:lastMarks [op,op'] [b,c] = false:=by with_unfolding_all rfl):PE X (.Compare a [op,op'] [b,c] pos) (tChain r r' ta tb tc):=by
 intro pins s σ H Q I h
 refine Compare_chain (thn (ha pins s σ H _ I h) fun v s1 ⟨x,H1,I1,r1,q1⟩=>chain_link (thn (hb pins s1 σ H1 _ I1 q1) fun u s2 ⟨y,H2,I2,r2,q2⟩ =>
  thn (ho pins s2 σ H2 x y v u _ I2 r1 r2 q2) fun d s3 ⟨z,H3,I3,r3,k,e,q3⟩=>?_)) hm
 subst e
 cases r3
 refine wpAny_truthy_bool ?_
 cases k with
 | false=>exact ite_ff ⟨.bl false,H3,I3,rfl,q3⟩
 | true=>exact ite_tt (chain_last (thn (hc pins s3 σ H3 _ I3 q3) fun w' s4 ⟨z',H4,I4,r4,q4⟩=>ho' pins s4 σ H4 y z' u w' Q I4 r2 r4 q4))
theorem line63:(sizeLine:Nat) < 2 ^ 63:=by rw [sizeLine_eq]; decide
theorem vals1 {x:V} {us:List Value} (r:Vals [x] us):∃ u,us = [u]∧RelV x u:=by
 cases r with
 | cons r1 r2=>cases r2; exact ⟨_,rfl,r1⟩
theorem vals2 {x y:V} {us:List Value} (r:Vals [x,y] us):∃ u w',us = [u,w']∧RelV x u∧RelV y w':=by
 cases r with
 | cons r1 r2 =>
  cases r2 with
  | cons r3 r4=>cases r4; exact ⟨_,_,rfl,r1,r3⟩
theorem JB:CallR X (.builtin "abs") (fun xs H Q=>∃ i,xs = [.int i]∧Q (.int (if i < 0 then -i else i)) H):=by
 intro pins s σ H xs us Q I r h
 obtain ⟨i,rfl,q⟩:=h
 obtain ⟨u,rfl,t,rfl⟩:=vals1 r
 exact call_abs_int fun u tk=>⟨.int (if i < 0 then -i else i),H,I.tok _,⟨_,rfl⟩,q⟩
theorem zek (hc:X.calm = true):CallR X (.builtin "min") (fun xs H Q=>∃ i j,xs = [.int i,.int j]∧Q (.int (if j < i then j else i)) H):=by
 intro pins s σ H xs us Q I r h
 obtain ⟨i,j,rfl,q⟩:=h
 obtain ⟨u,w',rfl,⟨t,rfl⟩,⟨t',rfl⟩⟩:=vals2 r
 refine min_two_ints (I.ok.hd hc) fun h' tk k=>⟨_,H,I.kept k,?_,q⟩
 by_cases hj:j < i
 ·rw [if_pos hj,if_pos hj]; exact ⟨_,rfl⟩
 ·rw [if_neg hj,if_neg hj]; exact ⟨_,rfl⟩
theorem zdb:CallR X (.type "int") (fun xs H Q=>(∃ i,xs = [.int i]∧Q (.int i) H)∨∃ k,xs = [.bl k]∧Q (.int (if k then 1 else 0)) H):=by
 intro pins s σ H xs us Q I r h
 rcases h with ⟨i,rfl,q⟩ | ⟨k,rfl,q⟩
 ·obtain ⟨u,rfl,t,rfl⟩:=vals1 r
  exact call_int_int ⟨.int i,H,I,⟨_,rfl⟩,q⟩
 ·obtain ⟨u,rfl,r1⟩:=vals1 r
  cases r1
  exact call_int_bool ⟨.int (if k then 1 else 0),H,I.tok _,⟨_,rfl⟩,q⟩
end
end L2
namespace L2
open PySem PySem.Spec PyProof.Rows
structure ObjM (h:Heap) (x dx C:Addr) (mA:Str→Option Value):Prop where
 obj:h.get? x = some (PySem.W.instObj C dx)
 ns:h.Ns1 dx mA
 ne:dx≠x
theorem zdJ {h:Heap} {dx:Addr} {mA:Str→Option Value} (n:h.Ns1 dx mA):∃ od,h.get? dx = some od∧∀ name,PySem.W.lookIn name od = some (mA name):=by
 obtain ⟨o,es,ep,ho,hd,hk,_,hm⟩:=n
 refine ⟨o,ho,fun name=>?_⟩
 have e:=hm name
 unfold nsFind findBy at e
 rw [← Array.find?_toList] at e
 unfold PySem.W.lookIn
 rw [hd]
 dsimp only
 split
 ·rename_i y q
  rw [q] at e
  exact congrArg some e
 ·rename_i q
  rw [q] at e
  have a:es.toList.any (·.refKey) = false:=by
   rw [List.any_eq_false]
   intro y hy
   obtain ⟨z,t,hkey⟩:=hk y (Array.mem_toList_iff.mp hy)
   simp [DictEntry.refKey,hkey]
  have a':¬ es.toList.any (·.refKey) = true:=by rw [a]; exact Bool.false_ne_true
  rw [if_neg a']
  exact congrArg some e
theorem ObjM.look {h:Heap} {x dx C:Addr} {mA:Str→Option Value} (I:ObjM h x dx C mA):∃ od,PySem.W.InstAt h x (PySem.W.instObj C dx) C (some od)∧∀ name,PySem.W.lookIn name od = some (mA name) :=
 let ⟨od,ho,hl⟩:=zdJ I.ns
 ⟨od,⟨I.obj,rfl,rfl,ho⟩,hl⟩
section
variable {prog:Program} {w:World} {A:Around} {E:Value→Shared→Prop} {s:Shared} {K:PySem.W.Frag} {x dx C f:Addr} {mA:Str→Option Value} {name:Str} {v:Value}
end
section
variable {P:Program} {w:World} {H H':Hp} {h h':Heap} {a C dx:Addr} {fs fs':List (Str×V)}
theorem zgZ (hok:HOk P w H h) (e:H a = some (.ins C dx fs)):∃ mA,ObjM h a dx C mA∧(∀ f,RelO (fs.lookup f) (mA f))∧PySem.Within mA (fs.map (·.1))∧fs.length≤1000∧H dx = some (.own a):=by
 obtain ⟨d,z,ne,ob,mA,n,r,q⟩:=(show ObjOk P w H h a (.ins C dx fs) from hok a _ e)
 exact ⟨mA,⟨ob,n,ne⟩,r,q,z,d⟩
end
structure Cls (K:PySem.W.Frag) (C:Addr):Prop where
 pg:PySem.W.plainGet K C Str.empty = true
 hd:PySem.W.hasDictIn K C = true
 po:PySem.W.plainOver K C = true
 sa:PySem.W.findIn K (.ref C) "__setattr__" = some (some (.builtin "object.__setattr__"))
theorem Cls.get {K:PySem.W.Frag} {C:Addr} (c:Cls K C) (f:Str):PySem.W.plainGet K C f = true:=c.pg
section
variable {X:Cx} {pins:List (Addr×Obj)} {σ:St} {H:Hp} {s:Shared} {a C dx:Addr} {fs:List (Str×V)} {f:Str} {v:V} {A:Around} {E:Value→Shared→Prop}
end
section
variable {X:Cx} {o e value:Expr} {f:Str} {pos pos' tpos:Pos} {ta tv:TE}
end
section
variable {X:Cx} {pins:List (Addr×Obj)} {σ:St} {H:Hp} {s:Shared} {A:Around} {E:Value→Shared→Prop} {Q:Value→Shared→Prop} {c:Value} {b:Bool}
inductive TyOf (K:PySem.W.Frag) (H:Hp):V→Value→Prop where
 | non:TyOf K H .non (.type "NoneType")
 | bl (x:Bool):TyOf K H (.bl x) (.type "bool")
 | int (i:Int):TyOf K H (.int i) (.type "int")
 | str (x:Str):TyOf K H (.str x) (.type "str")
 | flt (x:UInt64):TyOf K H (.flt x) (.type "float")
 | lst {a:Addr} {xs:List V} (e:H a = some (.lst xs)):TyOf K H (.ref a) (.type "list")
 | frz {a:Addr} {o:Obj} {xs:List V} (e:H a = some (.frz o (.lst xs))):TyOf K H (.ref a) (.type "list")
 | tup {a:Addr} {xs:List V} (e:H a = some (.tup xs)):TyOf K H (.ref a) (.type "tuple")
 | dK {a:Addr} {kvs:List (Key×V)} (e:H a = some (.dK kvs)):TyOf K H (.ref a) (.type "dict")
 | dT {a:Addr} {kvs:List (List Key×V)} (e:H a = some (.dT kvs)):TyOf K H (.ref a) (.type "dict")
 | ins {a C dx:Addr} {fs:List (Str×V)} (e:H a = some (.ins C dx fs)) (cl:Cls K C) (ha:PySem.W.findIn K (.ref C) "__class__" = some (some (.builtin "object.__class__")))
   (hn:PySem.W.specialIn K (.builtin "object.__class__") "__get__" = some (some (.builtin "getset_descriptor.__get__"))) (htk:PySem.W.takesIn K (.builtin "object.__class__") = some true)
   (hm:PySem.W.mroIn K C (.type "object") = some true):TyOf K H (.ref a) (.ref C)
theorem zej {x:V} {u t:Value} (I:Inv X pins σ H s) (rx:RelV x u) (ty:TyOf X.K H x t) (e:PySem.W.kitOne X.K t c = some b) (h:∀ tk,Q (.bool b) { s with toks:=tk }) :
  wpAny (model X.prog X.w) A (call (.builtin "isinstance") [u,c]) Q E s:=by
 cases ty with
 | non=>cases (show u = Value.none from rx); exact PySem.W.kia_one PySem.W.kitx_none I.kIn True.intro e (fun z=>nomatch z) h
 | bl y=>cases (show u = Value.bool y from rx); exact PySem.W.kia_one PySem.W.kitx_bool I.kIn True.intro e (fun z=>nomatch z) h
 | int i=>obtain ⟨t,q⟩:=(show ∃ t,u = Value.int i t from rx); cases q; exact PySem.W.kia_one PySem.W.kitx_int I.kIn True.intro e (fun z=>nomatch z) h
 | str y=>obtain ⟨t,q⟩:=(show ∃ t,u = Value.str y t from rx); cases q; exact PySem.W.kia_one PySem.W.kitx_str I.kIn True.intro e (fun z=>nomatch z) h
 | flt y=>obtain ⟨t,q⟩:=(show ∃ t,u = Value.float y t from rx); cases q; exact PySem.W.kia_one PySem.W.kitx_float I.kIn True.intro e (fun z=>nomatch z) h
 | @lst a xs ea =>
  cases (show u = Value.ref a from rx)
  obtain ⟨_,_,n,_,h1⟩:=(show ObjOk X.prog X.w H s.heap a (.lst xs) from I.hok a _ ea)
  exact PySem.W.kia_one PySem.W.kitx_list I.kIn ⟨_,h1,rfl⟩ e (fun z=>nomatch z) h
 | @frz a ob xs ea =>
  cases (show u = Value.ref a from rx)
  obtain ⟨_,_,_,n,_,h1⟩:=(show ObjOk X.prog X.w H s.heap a (.frz ob (.lst xs)) from I.hok a _ ea)
  exact PySem.W.kia_one PySem.W.kitx_list I.kIn ⟨_,h1,rfl⟩ e (fun z=>nomatch z) h
 | @tup a xs ea =>
  cases (show u = Value.ref a from rx)
  obtain ⟨_,_,_,p⟩:=(show ObjOk X.prog X.w H s.heap a (.tup xs) from I.hok a _ ea)
  obtain ⟨o,h1,h2,_⟩:=p
  exact PySem.W.kia_one PySem.W.kitx_tuple I.kIn ⟨o,h1,h2⟩ e (fun z=>nomatch z) h
 | @dK a kvs ea =>
  cases (show u = Value.ref a from rx)
  obtain ⟨_,_,vs,_,p⟩:=(show ObjOk X.prog X.w H s.heap a (.dK kvs) from I.hok a _ ea)
  obtain ⟨o,es,ep,h1,h2,_⟩:=p
  exact PySem.W.kia_one PySem.W.kitx_dict I.kIn ⟨o,h1,h2.1⟩ e (fun z=>nomatch z) h
 | @dT a kvs ea =>
  cases (show u = Value.ref a from rx)
  obtain ⟨_,_,xs,_,o,es,ep,h1,h2,_⟩:=(show ObjOk X.prog X.w H s.heap a (.dT kvs) from I.hok a _ ea)
  exact PySem.W.kia_one PySem.W.kitx_dict I.kIn ⟨o,h1,h2.1⟩ e (fun z=>nomatch z) h
 | @ins a C dx fs ea cl ha hn htk hm =>
  cases (show u = Value.ref a from rx)
  obtain ⟨mA,O,_⟩:=zgZ I.hok ea
  obtain ⟨od,J,_⟩:=O.look
  exact PySem.W.kia_one (PySem.W.kitx_own (cl.get _) cl.hd ha hn htk hm) I.kIn J e (fun z=>nomatch z) h
end
end L2
namespace L2
open PySem PySem.Spec PyProof.Rows
structure Room (k:Nat) (A:Around):Prop where
 hd:A.handled = none
 dp:A.depth + 3 * k + 5 < recursionLimit
 un:A.units + 16 * k + 200 < cLine
theorem Room.mono {j k:Nat} {A:Around} (r:Room k A) (h:j≤k):Room j A:=⟨r.hd,by have:=r.dp; omega,by have:=r.un; omega⟩
theorem Room.deeper {k:Nat} {A:Around} (r:Room (k + 1) A) (env:Env):Room k (A.deeper env) :=
 ⟨r.hd,by have:=r.dp; show A.depth + 1 + 3 * k + 5 < _; omega,by have:=r.un; show A.units + 3 + 16 * k + 200 < _; omega⟩
theorem Room.depth {k:Nat} {A:Around} (r:Room k A):A.depth < recursionLimit:=by have:=r.dp; omega
theorem Room.units {k:Nat} {A:Around} (r:Room k A):A.units + 64 < cLine:=by have:=r.un; omega
noncomputable def tNil:TA:=fun _ H Q=>Q [] H
noncomputable def tCons (ta:TE) (tr:TA):TA:=fun σ H Q=>ta σ H fun x H1=>tr σ H1 fun xs H2=>Q (x :: xs) H2
section
variable {X:Cx} {e:Expr} {es:List Expr} {te:TE} {t:TA} {pos:Pos}
theorem zd:PA X [] tNil:=fun _ _ _ _ H Q I h=>Calls.spliced_nil ⟨[],H,I,.nil,h⟩
theorem za (ha:PE X e te) (hr:PA X es t) (hs:starEach (e :: es) X.env = (false,eval e X.env) :: starEach es X.env:=by rfl):PA X (e :: es) (tCons te t):=by
 intro pos pins s σ H Q I h
 rw [hs]
 show wpAny _ _ (spliced ((false,eval e X.env) :: backTo pos (starEach es X.env))) _ _ s
 refine Calls.spliced_cons (thn (ha pins s σ H _ I h) fun u s1 ⟨x,H1,I1,r1,q1⟩=>?_)
 exact thn (hr pos pins s1 σ H1 _ I1 q1) fun us s2 ⟨xs,H2,I2,r2,q2⟩=>⟨x :: xs,H2,I2,.cons r1 r2,q2⟩
noncomputable def tTup (t:TA):TE:=fun σ H Q=>t σ H fun xs H1=>xs.length≤sizeLine∧∀ p,H1 p = none→Q (.ref p) (upd H1 p (.tup xs))
noncomputable def tLst (t:TA):TE:=fun σ H Q=>t σ H fun xs H1=>xs.length≤sizeLine∧∀ p,H1 p = none→Q (.ref p) (upd H1 p (.lst xs))
theorem yv {x1} (h:PA X es t):PE X (.Tuple es x1 pos) (tTup t):=by
 intro pins s σ H Q I hq
 refine wpAny_Tuple_spliced (thn (h pos pins s σ H _ I hq) fun us s1 ⟨xs,H1,I1,r,z,q⟩=>⟨by rw [← r.length]; exact z,?_⟩)
 have hf:H1 s1.heap.objs.size = none:=I1.hok.fresh (Nat.le_refl _)
 refine ⟨.ref s1.heap.objs.size,upd H1 s1.heap.objs.size (.tup xs),I1.laid (t':=s1.toks) (fun b u e=>Heap.get?_push_of_some _ e) (Nat.le_refl _) ?_,rfl,q _ hf⟩
 exact ⟨z,us,r,⟨_,Heap.get?_push_size _ rfl,rfl,_,rfl⟩⟩
theorem yC (h:PA X es t):PE X (.List es pos) (tLst t):=by
 intro pins s σ H Q I hq
 refine wpAny_List_spliced (thn (h pos pins s σ H _ I hq) fun us s1 ⟨xs,H1,I1,r,z,q⟩=>⟨by rw [← r.length]; exact z,?_⟩)
 have hf:H1 s1.heap.objs.size = none:=I1.hok.fresh (Nat.le_refl _)
 refine ⟨.ref s1.heap.objs.size,upd H1 s1.heap.objs.size (.lst xs),I1.laid (t':=s1.toks) (fun b u e=>Heap.get?_push_of_some _ e) (Nat.le_refl _) ?_,rfl,q _ hf⟩
 exact ⟨z,us,0,r,Heap.get?_push_size _ rfl⟩
end
noncomputable abbrev Sp:=List V→Hp→VK→XK→Prop
noncomputable abbrev CXT:=List Env→Hp→Shared→XK→Value→Shared→Prop
structure Env0 (P:Program) (w:World) (K:PySem.W.Frag) (mg:Str→Option Value) (base:Heap) (A:Around) (outer:List Env) (s:Shared) (H:Hp):Prop where
 frames:A.frames = some outer
 mod:Mod K mg base
 bs:∀ b o,base.get? b = some o→s.heap.get? b = some o∧H b = none
 bsz:base.objs.size≤s.heap.objs.size
 funs:s.heap.FunFrames base outer
 frf:∀ b∈frs outer,H b = none
 hok:HOk P w H s.heap
 bare:AllBare s.gens
noncomputable def CE (outer:List Env) (P:Program) (w:World) (H:Hp) (s:Shared) (Q:VK) (u:Value) (s':Shared):Prop :=
 ∃ v H',s'.os = s.os∧AllBare s'.gens∧Un (frs outer) [] H H' s.heap s'.heap∧HOk P w H' s'.heap∧RelV v u∧Q v H'
noncomputable def CR (CX:CXT) (outer:List Env) (P:Program) (w:World) (H:Hp) (s:Shared) (Q:VK) (E:XK) (r:Result) (s':Shared):Prop :=
 match r with
 | .ok (.ret u)=>CE outer P w H s Q u s'
 | .ok _=>False
 | .error e=>CX outer H s E e s'
structure FnOk (P:Program) (w:World) (K:PySem.W.Frag) (mg:Str→Option Value) (base:Heap) (CX:CXT) (k:Nat) (f:Addr) (fd:FuncData) (ps:List Str) (sp:Sp):Prop where
 len:∀ vs H Q E,sp vs H Q E→vs.length = ps.length
 run:∀ (A:Around) (outer:List Env) (s:Shared) (H:Hp) (args:Args) (us:List Value) (vs:List V) (Q:VK) (E:XK),Room k A→Env0 P w K mg base A outer s H→BindsTo s fd args (ps.zip us)→Vals vs us→sp vs H Q E →
  codeAny (model P w) A (.call (.ref f) args) (CR CX outer P w H s Q E) s
theorem FnOk.imp {P:Program} {w:World} {K:PySem.W.Frag} {mg:Str→Option Value} {base:Heap} {CX:CXT} {k:Nat} {f:Addr} {fd:FuncData} {ps:List Str} {sp sp':Sp} (F:FnOk P w K mg base CX k f fd ps sp)
  (h:∀ vs H Q E,sp' vs H Q E→sp vs H Q E):FnOk P w K mg base CX k f fd ps sp' :=
 ⟨fun vs H Q E q=>F.len vs H Q E (h _ _ _ _ q),fun A outer s H args us vs Q E hr he hb hv hs=>F.run A outer s H args us vs Q E hr he hb hv (h _ _ _ _ hs)⟩
section
variable {X:Cx} {pins:List (Addr×Obj)} {σ:St} {H:Hp} {s s':Shared}
theorem Inv.env0 (I:Inv X pins σ H s):Env0 X.prog X.w X.K X.mg X.base X.A X.stack s H :=
 ⟨I.ok.frames,I.ok.mod,I.bs,Nat.le_trans I.ok.bsz I.sz,I.stack,I.stkFree,I.hok,I.bare⟩
theorem Inv.after {Q:VK} {u:Value} (I:Inv X pins σ H s) (h:CE X.stack X.prog X.w H s Q u s'):EP X pins σ Q u s':=by
 obtain ⟨v,H',os,bare,un,hok,r,q⟩:=h
 obtain ⟨hh,g,d,t,os'⟩:=s'
 obtain rfl:os' = s.os:=os
 exact ⟨v,H',I.call (h':=hh) (g':=g) (d':=d) (t':=t) (ch:=[]) un hok bare (fun b z=>absurd z (by simp)),r,q⟩
end
noncomputable def tCall (sp:Sp) (dvs:List V) (E:XK) (t:TA):TE:=fun σ H Q=>t σ H fun vs H1=>sp (vs ++ dvs) H1 Q E
noncomputable def Binds (K:PySem.W.Frag) (fd:FuncData) (ps:List Str) (ds:List Value):Prop :=
 ∀ (s:Shared) (us:List Value),K.In s.heap→(us ++ ds).length = ps.length→BindsTo s fd ⟨us,[]⟩ (ps.zip (us ++ ds))
theorem Binds.all {K:PySem.W.Frag} {fd:FuncData} {ps:List Str} (h:∀ us:List Value,us.length = ps.length→bindArgs fd ⟨us,[]⟩ = pure (ps.zip us)):Binds K fd ps []:=fun s us _ hl=>by
 rw [List.append_nil] at hl ⊢
 exact .of_eq (h us hl)
noncomputable def Passes (CX:CXT) (X:Cx) (E:XK):Prop:=∀ (pins:List (Addr×Obj)) (σ:St) (H:Hp) (s:Shared) (e:Value) (s':Shared),Inv X pins σ H s→CX X.stack H s E e s'→X.xe e s'
section
variable {X:Cx} {CX:CXT} {k:Nat} {f C:Addr} {fd:FuncData} {ps:List Str} {sp:Sp} {dvs:List V} {ds:List Value} {E:XK} {x m:Str} {p pos apos:Pos} {e o:Expr} {es:List Expr} {ta:TE} {t:TA}
theorem zhL {pins:List (Addr×Obj)} {σ:St} {H:Hp} {s:Shared} {Q:VK} {us:List Value} {vs:List V} (F:FnOk X.prog X.w X.K X.mg X.base CX k f fd ps sp) (hr:Room k X.A) (hb:Binds X.K fd ps ds) (hd:Vals dvs ds) (hx:Passes CX X E)
  (I:Inv X pins σ H s) (r:Vals vs us) (h:sp (vs ++ dvs) H Q E):wpAny (model X.prog X.w) X.A (call (.ref f) us) (EP X pins σ Q) X.xe s:=by
 have r2:Vals (vs ++ dvs) (us ++ ds):=r.append hd
 have hl:(us ++ ds).length = ps.length:=by rw [← r2.length]; exact F.len _ _ _ _ h
 refine wpAny_call (codeAny_mono (F.run X.A X.stack s H ⟨us,[]⟩ (us ++ ds) (vs ++ dvs) Q E hr I.env0 (hb s us I.kIn hl) r2 h) fun r s' hq=>?_)
 cases r with
 | error e=>exact hx pins σ H s e s' I hq
 | ok fl =>
  cases fl with
  | ret u=>exact I.after hq
  | next=>exact False.elim hq
  | brk=>exact False.elim hq
  | cont=>exact False.elim hq
theorem zgT (F:FnOk X.prog X.w X.K X.mg X.base CX k f fd ps sp) (hr:Room k X.A) (hg:Gl X x) (hm:X.mg x = some (.ref f)) (hk:PySem.W.keepIn X.K (.ref f) = true) (hb:Binds X.K fd ps ds) (hd:Vals dvs ds) (hx:Passes CX X E)
  (ha:PA X (e :: es) t) (hdb:(x == ("__debug__" : Str)) = false:=by decide) (he:starEach (e :: es) X.env = (false,eval e X.env) :: starEach es X.env:=by rfl) (hpl:(backTo pos (starEach es X.env)).any (·.1) = false:=by rfl) :
  PE X (.Call (.Name x p) (e :: es) [] pos) (tCall sp dvs E t):=by
 intro pins s σ H Q I h
 refine wpAny_Call_Name_kw (zgV I hg hm ?_ hdb)
 refine PySem.W.callWith_K (h₀:=X.base) I.ok.mod.kin hk (thn (ha pos pins s σ H _ I h) fun us s1 ⟨vs,H1,I1,r,q⟩=>⟨I1.kIn,?_⟩) he hpl
 exact zhL F hr hb hd hx I1 r q
end
section
variable {X:Cx} {CX:CXT} {k:Nat} {f C:Addr} {fd:FuncData} {ps ks:List Str} {sp:Sp} {E:XK} {x m:Str} {p pos apos kpos:Pos} {e o:Expr} {es:List Expr} {kws:List Keyword} {te ta:TE} {t tk:TA} {nm:Option Str}
variable {g:List Value→List Value→List Value} {gV:List V→List V→List V}
end
structure FnScope (N P:List Str) (sc:Scope):Prop where
 kind:sc.kind = .function
 co:sc.isCoroutine = false
 gen:sc.isGenerator = false
 nd:N.Nodup
 pre:N.take P.length = P
 par:∀ x∈P,sc.names.lookup x = some .local∨sc.names.lookup x = some .cell
 nofree:∀ y∈sc.names,y.2≠.free
theorem zag {kindOf:Str→Option NameKind} {x:Str}:∀ {binds:List (Str×Value)} {m:Str→Option Value},(∀ v,(x,v)∉binds)→bindL kindOf binds m x = m x
 | [],_,_=>rfl
 | (n,v) :: r,m,h=>by
  unfold bindL
  rw [zag fun w hw=>h w (List.mem_cons_of_mem _ hw)]
  split
  ·have:x≠n:=by rintro rfl; exact h v List.mem_cons_self
   simp [this]
  ·rfl
theorem QJ {kindOf:Str→Option NameKind} {x:Str}:∀ {binds:List (Str×Value)} {m:Str→Option Value},(∀ v,(x,v)∉binds)→bindC kindOf binds m x = m x
 | [],_,_=>rfl
 | (n,v) :: r,m,h=>by
  unfold bindC
  rw [QJ fun w hw=>h w (List.mem_cons_of_mem _ hw)]
  split
  ·rfl
  ·have:x≠n:=by rintro rfl; exact h v List.mem_cons_self
   simp [this]
theorem Qu {kindOf:Str→Option NameKind} {x:Str} {v:Value}:∀ {P:List Str} {vs:List Value} {i:Nat} {m:Str→Option Value},P.Nodup→P[i]? = some x→vs[i]? = some v→kindOf x = some .local →
  bindL kindOf (P.zip vs) m x = some v
 | [],_,_,_,_,h,_,_=>by simp at h
 | _ :: _,[],_,_,_,_,h,_=>by simp at h
 | p :: P,w :: vs,0,m,nd,h1,h2,hk=>by
  simp at h1 h2; subst h1; subst h2
  show bindL kindOf ((p,w) :: P.zip vs) m p = _
  unfold bindL
  rw [zag fun v hv=>(List.nodup_cons.mp nd).1 (List.of_mem_zip hv).1,if_pos hk]
  simp
 | p :: P,w :: vs,i + 1,m,nd,h1,h2,hk=>by
  show bindL kindOf ((p,w) :: P.zip vs) m x = _
  unfold bindL
  exact Qu (i:=i) (List.nodup_cons.mp nd).2 (by simpa using h1) (by simpa using h2) hk
theorem QV {kindOf:Str→Option NameKind} {x:Str} {v:Value}:∀ {P:List Str} {vs:List Value} {i:Nat} {m:Str→Option Value},P.Nodup→P[i]? = some x→vs[i]? = some v→kindOf x≠some .local →
  bindC kindOf (P.zip vs) m x = some v
 | [],_,_,_,_,h,_,_=>by simp at h
 | _ :: _,[],_,_,_,_,h,_=>by simp at h
 | p :: P,w :: vs,0,m,nd,h1,h2,hk=>by
  simp at h1 h2; subst h1; subst h2
  show bindC kindOf ((p,w) :: P.zip vs) m p = _
  unfold bindC
  rw [QJ fun v hv=>(List.nodup_cons.mp nd).1 (List.of_mem_zip hv).1,if_neg hk]
  simp
 | p :: P,w :: vs,i + 1,m,nd,h1,h2,hk=>by
  show bindC kindOf ((p,w) :: P.zip vs) m x = _
  unfold bindC
  exact QV (i:=i) (List.nodup_cons.mp nd).2 (by simpa using h1) (by simpa using h2) hk
noncomputable def start (N:List Str) (vs:List V):St:=vs.map some ++ List.replicate (N.length - vs.length) none
noncomputable def cxOf (CX:CXT) (P:Program) (w:World) (K:PySem.W.Frag) (mg:Str→Option Value) (base:Heap) (N:List Str) (qual:Str) (scope:Scope) (f:Addr) (cd:Value) (A:Around) (outer:List Env) (s:Shared) (H:Hp) (E:XK):Cx where
 prog:=P
 w:=w
 K:=K
 mg:=mg
 base:=base
 A:=A.deeper (envOfC qual scope s.heap.objs.size f cd)
 N:=N
 s₀:=s
 H₀:=H
 env:=envOfC qual scope s.heap.objs.size f cd
 outer:=outer
 stack:=envOfC qual scope s.heap.objs.size f cd :: outer
 ex:=[]
 calm:=true
 fn:=fun _=>true
 pn:=[]
 xe:=fun e s'=>wpAny (model P w) (A.deeper (envOfC qual scope s.heap.objs.size f cd)) (leaving (envOfC qual scope s.heap.objs.size f cd) e) (fun _ s''=>CX outer H s E e s'') (fun e' s''=>CX outer H s E e' s'') s'
theorem zbP {sc:Scope} {n:Nat} {x:Str} (h:sc.names.lookup x = some .cell):∃ c,(cellsFrom n sc.names []).lookup x = some c:=by
 have q:=PySem.W.cellsFrom_some sc.names n [] (.inl h)
 exact Option.isSome_iff_exists.mp q
theorem zc9 {CX:CXT} {P:Program} {w:World} {K:PySem.W.Frag} {mg:Str→Option Value} {base:Heap} {N ps:List Str} {qual:Str} {scope:Scope} {f:Addr} {cd:Value} {A:Around} {outer:List Env} {s s1:Shared} {H:Hp} {E:XK} {us:List Value} {vs:List V}
  (S:FnScope N ps scope) (hd:A.handled = none) (e0:Env0 P w K mg base A outer s H) (hl:vs.length = ps.length) (r:Vals vs us)
  (x:InCallC s s.heap.objs.size (bindL (envOfC qual scope s.heap.objs.size f cd).kindOf (ps.zip us) fun _=>none) (cellsFrom (s.heap.objs.size + 1) scope.names []) (bindC (envOfC qual scope s.heap.objs.size f cd).kindOf (ps.zip us) fun _=>none) s1) :
  Inv (cxOf CX P w K mg base N qual scope f cd A outer s H E) [] (start N vs) H s1:=by
 have hpl:ps.length≤N.length:=by have:=congrArg List.length S.pre; rw [List.length_take] at this; omega
 obtain ⟨h1,tk,rfl,hk⟩:=x.done
 have noA:∀ b:Addr,b∉(cxOf CX P w K mg base N qual scope f cd A outer s H E).ex:=fun b z=>absurd (show b∈([]:List Addr) from z) (by simp)
 refine ⟨⟨e0.mod,S.kind,rfl,rfl,Nat.le_refl _,fun y z c h1 h2=>?_,fun y hy=>?_,fun y c _ h=>?_,fun _=>hd,Around.frames_deeper e0.frames,.inr ⟨rfl,rfl⟩,fun b z=>absurd z (noA b),e0.bs,e0.bsz,fun b _ _=>noA b,fun b z=>absurd z (noA b),e0.funs,e0.frf⟩,
  rfl,e0.bare,Un.kept hk,⟨_,x.toInCall.ns,fun i y v h1 h2 h3=>?_⟩,fun y c h=>⟨_,x.cell y c h⟩,e0.hok.fresh (Nat.le_refl _),fun y c h=>?_,fun p hp=>absurd (show p∈([]:List (Addr×Obj)) from hp) (by simp),e0.hok.kept hk,?_⟩
 ·exact name_of_addr x.apart (PySem.mem_of_lookup h1) (PySem.mem_of_lookup h2)
 ·have hy:scope.names.lookup y = some .cell∨scope.names.lookup y = some .free:=hy
  rcases hy with hy | hy
  ·exact zbP hy
  ·exact absurd rfl (S.nofree _ (PySem.mem_of_lookup hy))
 ·exact Nat.le_of_lt (x.above y c (PySem.mem_of_lookup h))
 ·have hi:i < vs.length:=by
   unfold start at h2
   by_cases hi:i < vs.length
   ·exact hi
   ·rw [List.getElem?_append_right (by simpa using hi)] at h2
    rw [List.getElem?_replicate] at h2
    split at h2 <;> cases h2
  have ha:vs[i]? = some v:=by
   unfold start at h2
   rw [List.getElem?_append_left (by simpa using hi),List.getElem?_map] at h2
   cases e:vs[i]? with
   | none=>rw [e] at h2; cases h2
   | some a=>rw [e] at h2; cases h2; rfl
  obtain ⟨u,hu,rv⟩:=r.get ha
  have hp:ps[i]? = some y:=by
   rw [← S.pre,List.getElem?_take_of_lt (by omega)]; exact h1
  have ndP:ps.Nodup:=by rw [← S.pre]; exact S.nd.sublist (List.take_sublist _ _)
  refine ⟨u,rv,?_⟩
  rcases S.par y (List.mem_of_getElem? hp) with k | k
  ·exact .inl ⟨k,Qu ndP hp hu k⟩
  ·obtain ⟨c,e⟩:=zbP (n:=s.heap.objs.size + 1) k
   refine .inr ⟨.inl k,c,e,?_⟩
   have q:=x.cell y c e
   rw [QV ndP hp hu (by show scope.names.lookup y≠_; rw [k]; decide)] at q
   exact q
 ·exact e0.hok.fresh (Nat.le_of_lt (x.above y c (PySem.mem_of_lookup h)))
 ·unfold start
  show _ = N.length
  rw [List.length_append,List.length_map,List.length_replicate]
  omega
theorem zil {CX:CXT} {P:Program} {w:World} {K:PySem.W.Frag} {mg:Str→Option Value} {base:Heap} {k:Nat} {f:Addr} {name qual:Str} {params:Arguments} {body:List Stmt} {scope:Scope} {dV kV doc pm cdv ct oc:Value} {an od:Option Addr}
  {osl:Array (Option Value)} {N ps:List Str} {sp:Sp} (lk:K.lookup f = some ⟨oc,od,.func (PySem.W.fnOf name qual params body scope dV kV doc pm an cdv ct),osl⟩) (hcd:PySem.W.codeIn K cdv qual = true) (S:FnScope N ps scope)
  (len:∀ vs H Q E,sp vs H Q E→vs.length = ps.length)
  (hbody:∀ (A:Around) (outer:List Env) (s:Shared) (H:Hp) (vs:List V) (Q:VK) (E:XK),Room k (A.deeper (envOfC qual scope s.heap.objs.size f cdv))→sp vs H Q E →
   ∃ t,PSs (cxOf CX P w K mg base N qual scope f cdv A outer s H E) body t∧t { nx:=fun _ H'=>Q .non H',rt:=Q } (start N vs) H) :
  FnOk P w K mg base CX (k + 1) f (PySem.W.fnOf name qual params body scope dV kV doc pm an cdv ct) ps sp:=by
 refine ⟨len,fun A outer s H args us vs Q E hr e0 hb r hsp=>?_⟩
 have hl:=len _ _ _ _ hsp
 have KX:K.In s.heap:=e0.mod.kin.keeps fun b o e=>(e0.bs b o e).1
 have lim:s.heap.NoLimit:=e0.mod.nolimit.keeps fun b o e=>(e0.bs b o e).1
 have hkind:∀ y∈ps.zip us,scope.names.lookup y.1 = some .local∨(scope.names.lookup y.1 = some .cell∧((cellsFrom (s.heap.objs.size + 1) scope.names []).lookup y.1).isSome = true):=fun ⟨n,v⟩ hy=>by
  rcases S.par n (List.of_mem_zip hy).1 with q | q
  ·exact .inl q
  ·exact .inr ⟨q,PySem.W.cellsFrom_some _ _ _ (.inl q)⟩
 refine codeAny_call_function hr.depth (KX _ _ lk) rfl S.co S.gen rfl (PySem.W.codeRec_of KX hcd) (hb _ _ _ _ ?_)
 refine wpAny_newFunctionEnv_cells S.kind hkind fun env he s1 x=>?_
 subst he
 refine ⟨lim.keeps x.toInCall.keep,codeAny_func ?_⟩
 obtain ⟨t,ht,hq⟩:=hbody A outer s H vs Q E (hr.deeper _) hsp
 have I:Inv (cxOf CX P w K mg base N qual scope f cdv A outer s H E) [] (start N vs) H s1:=zc9 S hr.hd e0 hl r x
 refine wpAny_mono (ht [] s1 (start N vs) H _ I hq) (fun fl s' hs=>?_) fun e s' hs=>hs
 have fin:∀ {σ':St} {H':Hp} {v:V} {u:Value},Inv (cxOf CX P w K mg base N qual scope f cdv A outer s H E) [] σ' H' s'→RelV v u→Q v H'→CE outer P w H s Q u s' :=
  fun {σ' H' v u} J rv q=>⟨v,H',J.os,J.bare,J.base,J.hok,rv,q⟩
 cases fl with
 | ret u =>
  obtain ⟨v,σ',H',J,rv,q⟩:=hs
  exact fin J rv q
 | next =>
  obtain ⟨σ',H',J,q⟩:=hs
  exact fin (v:=V.non) (u:=Value.none) J rfl q
 | brk =>
  obtain ⟨_,_,_,q⟩:=hs
  exact False.elim q
 | cont =>
  obtain ⟨_,_,_,q⟩:=hs
  exact False.elim q
end L2
namespace L2
open PySem PySem.Spec PyProof.Rows
section
variable {X:Cx} {x:Str} {p pos:Pos} {e:Expr} {es:List Expr} {t:TA} {id T:String} {r:List V→Hp→VK→Prop}
noncomputable def tCB (r:List V→Hp→VK→Prop) (t:TA):TE:=fun σ H Q=>t σ H fun vs H1=>r vs H1 Q
theorem zG (hc:CallR X (.builtin id) r) (hg:Gl X x) (hm:X.mg x = none) (hv:bootBuiltins x = some (.builtin id)) (ha:PA X (e :: es) t) (hn:x ≠ "__name__" := by decide) (hdb:(x == ("__debug__" : Str)) = false:=by decide)
  (he:starEach (e :: es) X.env = (false,eval e X.env) :: starEach es X.env:=by rfl) (hpl:(backTo pos (starEach es X.env)).any (·.1) = false:=by rfl):PE X (.Call (.Name x p) (e :: es) [] pos) (tCB r t):=by
 intro pins s σ H Q I h
 refine wpAny_Call_Name_kw (ZU I hg hm hv ?_ hn hdb)
 exact PyProof.Rows.callWith_builtin1 (thn (ha pos pins s σ H _ I h) fun us s1 ⟨vs,H1,I1,r1,q1⟩=>hc pins s1 σ H1 vs us Q I1 r1 q1) he hpl
theorem jl (hc:CallR X (.type T) r) (hg:Gl X x) (hm:X.mg x = none) (hv:bootBuiltins x = some (.type T)) (ha:PA X (e :: es) t) (hn:x ≠ "__name__" := by decide) (hdb:(x == ("__debug__" : Str)) = false:=by decide)
  (he:starEach (e :: es) X.env = (false,eval e X.env) :: starEach es X.env:=by rfl) (hpl:(backTo pos (starEach es X.env)).any (·.1) = false:=by rfl):PE X (.Call (.Name x p) (e :: es) [] pos) (tCB r t):=by
 intro pins s σ H Q I h
 refine wpAny_Call_Name_kw (ZU I hg hm hv ?_ hn hdb)
 exact PyProof.Rows.callWith_type1 (thn (ha pos pins s σ H _ I h) fun us s1 ⟨vs,H1,I1,r1,q1⟩=>hc pins s1 σ H1 vs us Q I1 r1 q1) he hpl
end
end L2
namespace HT
open PySem PyProof.Rows
section
open PySem.SeqAt
open PySem.AutoSeq1 (wpAny_loadPart')
open PySem.MeetsSeq PySem.MeetsSeq2 PySem.MeetsSeq3
end
section
variable {prog:Program} {w:World} {A:Around} {E:Value→Shared→Prop} {s:Shared}
noncomputable def sIx (n d:Nat):Option Int→Nat
 | none=>d
 | some v=>if v < 0 then (v + (n:Int)).toNat else min v.toNat n
theorem Yq (n d:Nat):sIx n d none = d:=rfl
theorem ZQ (n d k:Nat):sIx n d (some (k:Int)) = min k n:=by
 show (if (k:Int) < 0 then ((k:Int) + (n:Int)).toNat else min (k:Int).toNat n) = min k n
 rw [if_neg (by omega),Int.toNat_natCast]
end
end HT
namespace L2
open PySem PySem.Spec PyProof.Rows
noncomputable abbrev TO:=St→Hp→(Option Int→Hp→Prop)→Prop
noncomputable def PO (X:Cx) (e:Option Expr) (t:TO):Prop :=
 ∀ (pins:List (Addr×Obj)) (s:Shared) (σ:St) (H:Hp) (Q:Option Int→Hp→Prop),Inv X pins σ H s→t σ H Q →
  wpAny (model X.prog X.w) X.A (evalPart e X.env) (fun u s'=>∃ o H',Inv X pins σ H' s'∧IsPart u o∧Q o H') X.xe s
noncomputable def tNoPart:TO:=fun _ H Q=>Q none H
noncomputable def tPart (t:TE):TO:=fun σ H Q=>t σ H fun x H1=>∃ i,x = .int i∧Q (some i) H1
section
variable {X:Cx} {e:Expr} {te:TE} {lo hi:Option Expr} {tl th:TO} {pos p2:Pos}
theorem ZD:PO X none tNoPart:=by
 intro pins s σ H Q I h
 rw [evalPart_none]
 exact wpAny_pure ⟨none,H,I,.none,h⟩
theorem jX (h:PE X e te):PO X (some e) (tPart te):=by
 intro pins s σ H Q I hw
 rw [evalPart_some]
 refine thn (h pins s σ H _ I hw) fun u s1 ⟨x,H1,I1,r1,q1⟩=>?_
 obtain ⟨i,rfl,q⟩:=q1
 obtain ⟨t,rfl⟩:=r1
 exact ⟨some i,H1,I1,.int i t,q⟩
noncomputable def SlR (X:Cx) (r:V→Option Int→Option Int→Hp→VK→Prop):Prop :=
 ∀ (pins:List (Addr×Obj)) (s:Shared) (σ:St) (H:Hp) (x:V) (v vl vu:Value) (lo hi:Option Int) (sl:Addr) (Q:VK),Inv X pins σ H s→RelV x v→s.heap.IsSliceOf sl vl vu .none→IsPart vl lo→IsPart vu hi→r x lo hi H Q →
  ∃ T id,typeLookup (.type T) "__getitem__" = pure (some (.builtin id))∧s.TypeIs v T∧wpAny (model X.prog X.w) X.A (getItem v (.ref sl)) (EP X pins σ Q) X.xe s
noncomputable def tSl (r:V→Option Int→Option Int→Hp→VK→Prop) (te:TE) (tl th:TO):TE:=fun σ H Q=>te σ H fun x H1=>tl σ H1 fun l H2=>th σ H2 fun u H3=>r x l u H3 Q
theorem jy {r:V→Option Int→Option Int→Hp→VK→Prop} (hr:SlR X r) (he:PE X e te) (hl:PO X lo tl) (hu:PO X hi th):PE X (.Subscript e (.Slice lo hi none p2) pos) (tSl r te tl th):=by
 intro pins s σ H Q I h
 refine Subscript_ (thn (he pins s σ H _ I h) fun v s1 ⟨x,H1,I1,r1,q1⟩=>?_)
 refine wpAny_Slice (thn (hl pins s1 σ H1 _ I1 q1) fun vl s2 ⟨l,H2,I2,pl,q2⟩=>thn (hu pins s2 σ H2 _ I2 q2) fun vu s3 ⟨u,H3,I3,pu,q3⟩=>?_)
 rw [evalPart_none]
 refine wpAny_pure ?_
 have I4:Inv X pins σ H3 { s3 with heap:=s3.heap.push { cls:=.type "slice",data:=.fields #[vl,vu,.none] } }:=I3.kept (t':=s3.toks) fun b ob q=>Heap.get?_push_of_some _ q
 obtain ⟨T,id,hT,ht,hg⟩:=hr pins { s3 with heap:=s3.heap.push { cls:=.type "slice",data:=.fields #[vl,vu,.none] } } σ H3 x v vl vu l u s3.heap.objs.size Q I4 r1 (Heap.IsSliceOf.new ..) pl pu q3
 show wpAny (model X.prog X.w) X.A (subscriptTail e (.Slice lo hi none p2) v (.ref s3.heap.objs.size)) (EP X pins σ Q) X.xe { s3 with heap:=s3.heap.push { cls:=.type "slice",data:=.fields #[vl,vu,.none] } }
 exact tail_any (ops:=[.ref s3.heap.objs.size,v]) ht hT hg (by with_unfolding_all rfl)
noncomputable def cutV (xs:List V) (lo hi:Option Int):List V:=(xs.drop (HT.sIx xs.length 0 lo)).take (HT.sIx xs.length xs.length hi - HT.sIx xs.length 0 lo)
theorem za2 (xs:List V) (lo hi:Option Int):(cutV xs lo hi).length≤xs.length:=by
 unfold cutV
 rw [List.length_take,List.length_drop]
 omega
end
end L2
namespace L2
open PySem PySem.Spec PyProof.Rows
noncomputable def ixN (n:Nat) (i:Int):Option Nat:=if 0≤i then (if i < n then some i.toNat else none) else if -(n:Int)≤i then some (i + n).toNat else none
noncomputable def atI {α:Type} (xs:List α) (i:Int):Option α:=(ixN xs.length i).bind fun j=>xs[j]?
theorem zem {n:Nat} {i:Int} {j:Nat} (h:ixN n i = some j):seqIndex? i n = some j∧j < n∧-(n:Int)≤i∧i < n:=by
 unfold ixN at h
 by_cases h0:0≤i
 ·rw [if_pos h0] at h
  by_cases h1:i < n
  ·rw [if_pos h1] at h
   have e:i.toNat = j:=Option.some.inj h
   exact ⟨by rw [seqIndex_of h0 h1,e],by omega,by omega,h1⟩
  ·rw [if_neg h1] at h; cases h
 ·rw [if_neg h0] at h
  by_cases h1 : -(n:Int)≤i
  ·rw [if_pos h1] at h
   have e:(i + n).toNat = j:=Option.some.inj h
   exact ⟨by rw [seqIndex_neg (by omega) h1,e],by omega,h1,by omega⟩
  ·rw [if_neg h1] at h; cases h
theorem zdv {α:Type} {xs:List α} {i:Int} {v:α} (h:atI xs i = some v):∃ j,seqIndex? i xs.length = some j∧xs[j]? = some v∧j < xs.length∧-(xs.length:Int)≤i∧i < xs.length:=by
 unfold atI at h
 cases e:ixN xs.length i with
 | none=>rw [e] at h; cases h
 | some j =>
  rw [e] at h
  obtain ⟨h1,h2,h3,h4⟩:=zem e
  exact ⟨j,h1,h,h2,h3,h4⟩
theorem zK {α:Type} {xs:List α} {j:Nat} {v:α} (h:xs[j]? = some v):atI xs (j:Int) = some v:=by
 have hj:j < xs.length:=(List.getElem?_eq_some_iff.mp h).1
 have e:ixN xs.length (j:Int) = some j:=by
  unfold ixN
  rw [if_pos (by omega),if_pos (by omega)]; simp
 unfold atI; rw [e]; exact h
noncomputable def PlainIx (b:Expr):Prop:=∀ o i,subscripted b false o i = operate [o,i] (getItem o i)
noncomputable def IxR (X:Cx) (r:R2):Prop :=
 ∀ (value slice:Expr) (pins:List (Addr×Obj)) (s:Shared) (σ:St) (H:Hp) (x y:V) (v u:Value) (Q:VK),Inv X pins σ H s→RelV x v→RelV y u→r x y H Q →
  subscripted slice false v u = operate [v,u] (getItem v u)→wpAny (model X.prog X.w) X.A (subscriptTail value slice v u) (EP X pins σ Q) X.xe s
noncomputable def MtR (X:Cx) (id:String) (r:V→List V→Hp→VK→Prop):Prop :=
 ∀ (pins:List (Addr×Obj)) (s:Shared) (σ:St) (H:Hp) (x:V) (xs:List V) (v:Value) (us:List Value) (Q:VK),Inv X pins σ H s→RelV x v→Vals xs us→r x xs H Q →
  wpAny (model X.prog X.w) X.A (call (.builtin id) (v :: us)) (EP X pins σ Q) X.xe s
section
variable {X:Cx} {a b:Expr} {ta tb:TE} {pos:Pos}
theorem zE {r:R2} (hr:IxR X r) (ha:PE X a ta) (hb:PE X b tb) (hs:PlainIx b):PE X (.Subscript a b pos) (tOp r ta tb):=by
 intro pins s σ H Q I h
 exact Subscript_ (binT ha hb I h fun v u s2 x y H2 I2 rx ry q=>hr a b pins s2 σ H2 x y v u Q I2 rx ry q (hs _ _))
inductive zf5 (K:PySem.W.Frag) (x y:V) (H:Hp) (Q:VK):Prop where
 | mk (p:Addr) (xs:List V) (i:Int) (v:V) (h0_:x = .ref p) (h1_:y = .int i) (h2_:SqL K H p xs) (h3_:atI xs i = some v) (h4_:Q v H):zf5 K x y H Q
noncomputable def rIxL (K:PySem.W.Frag):R2:=fun x y H Q=>zf5 K x y H Q
inductive zgh (K:PySem.W.Frag) (x y:V) (H:Hp) (Q:VK):Prop where
 | mk (p:Addr) (xs:List V) (i:Int) (v:V) (h0_:x = .ref p) (h1_:y = .int i) (h2_:SqT K H p xs) (h3_:atI xs i = some v) (h4_:Q v H):zgh K x y H Q
noncomputable def rIxT (K:PySem.W.Frag):R2:=fun x y H Q=>zgh K x y H Q
theorem zeq:IxR X (rIxL X.K):=by
 intro value slice pins s σ H x y v u Q I rx ry h hs
 obtain ⟨p,xs,i,z,rfl,rfl,hq,he,q⟩:=h
 cases rx
 obtain ⟨t,rfl⟩:=ry
 obtain ⟨its,r,pl,hz⟩:=I.list hq
 obtain ⟨j,h1,h2,h3,h4,h5⟩:=zdv he
 obtain ⟨w,ew,rw'⟩:=r.get h2
 have hl:=r.length
 have hn:=line63
 have fin:EP X pins σ Q w s:=⟨z,H,I,rw',q⟩
 by_cases h0:0≤i
 ·have hj:i.toNat = j:=by
   rw [seqIndex_of h0 h5] at h1
   exact Option.some.inj h1
  exact item_listR pl.isList h0 (by omega) (by rw [hj]; simpa using ew) fin hs
 ·have hj:(i + (its.toArray.size:Int)).toNat = j:=by
   rw [seqIndex_neg (by omega) h4] at h1
   rw [List.size_toArray,← hl]
   exact Option.some.inj h1
  exact subscriptTail_builtinR (x:=w) pl.isList.typeIs slot_list_getitem.lookup
   (wpAny_getItem_list_neg (Q:=fun r s'=>r = w∧EP X pins σ Q r s') pl.isList (by omega) (by rw [List.size_toArray] <;> omega) (by omega) (by rw [hj]; simpa using ew) ⟨rfl,fin⟩) hs
theorem zfX:IxR X (rIxT X.K):=by
 intro value slice pins s σ H x y v u Q I rx ry h hs
 obtain ⟨p,xs,i,z,rfl,rfl,hq,he,q⟩:=h
 cases rx
 obtain ⟨t,rfl⟩:=ry
 obtain ⟨its,r,pl,hz⟩:=I.tuple hq
 obtain ⟨j,h1,h2,h3,h4,h5⟩:=zdv he
 obtain ⟨w,ew,rw'⟩:=r.get h2
 have hl:=r.length
 have hn:=line63
 have fin:EP X pins σ Q w s:=⟨z,H,I,rw',q⟩
 exact subscriptTail_builtinR (x:=w) pl.typeIs slot_tuple_getitem.lookup
  (getItem_tuple (j:=j) (Q:=fun r s'=>r = w∧EP X pins σ Q r s') pl (by omega) (by omega) (by rw [List.size_toArray,← hl]; exact h1) (by simpa using ew) ⟨rfl,fin⟩) hs
theorem zcA (its:List Value) (n j:Nat) (u:Value):Obj.mapSeq (·.setIfInBounds j u) { cls:=.type "list",data:=.seq its.toArray n } = { cls:=.type "list",data:=.seq (its.set j u).toArray n }:=by
 simp [Obj.mapSeq]
theorem Inv.lst {pins:List (Addr×Obj)} {σ:St} {H:Hp} {s:Shared} {p:Addr} {xs:List V} (I:Inv X pins σ H s) (h:H p = some (.lst xs)) :
  ∃ (its:List Value) (n:Nat),Vals xs its∧s.heap.get? p = some { cls:=.type "list",data:=.seq its.toArray n }∧xs.length≤sizeLine:=by
 obtain ⟨z,its,n,r,e⟩:=I.hok p _ h
 exact ⟨its,n,r,e,z⟩
theorem Inv.lstUpd {pins:List (Addr×Obj)} {σ:St} {H:Hp} {s:Shared} {p:Addr} {xs ys:List V} {its its':List Value} {n n':Nat} {f:Obj→Obj} (I:Inv X pins σ H s) (h:H p = some (.lst xs))
  (ho:s.heap.get? p = some { cls:=.type "list",data:=.seq its.toArray n }) (hf:f { cls:=.type "list",data:=.seq its.toArray n } = { cls:=.type "list",data:=.seq its'.toArray n' }) (r:Vals ys its') (hz:ys.length≤sizeLine) (t:Nat) :
  Inv X pins σ (upd H p (.lst ys)) { s with heap:=s.heap.update p f,toks:=t }:=by
 have e:(s.heap.update p f).get? p = some { cls:=.type "list",data:=.seq its'.toArray n' }:=by
  rw [Heap.get?_update_self f ho (by rw [hf] <;> rfl),hf]
 refine I.write (x:=p) (e:=p) (by rw [h]; trivial) (.inl rfl) (fun b u hb q=>(Heap.get?_update_other _ _ (Ne.symm hb)).trans q) ⟨_,e⟩ ?_
 exact ⟨hz,its',n',r,e⟩
inductive zeD (o i v:V) (H:Hp) (Q:Hp→Prop):Prop where
 | mk (p:Addr) (xs:List V) (k:Int) (j:Nat) (h0_:o = .ref p) (h1_:i = .int k) (h2_:H p = some (.lst xs)) (h3_:ixN xs.length k = some j) (h4_:Q (upd H p (.lst (xs.set j v)))):zeD  o i v H Q
noncomputable def rSetL:V→V→V→Hp→(Hp→Prop)→Prop:=fun o i v H Q=>zeD  o i v H Q
theorem xN:PSet X rSetL:=by
 intro pins s σ H o i v ov iv u Q I ro ri rv h
 obtain ⟨p,xs,k,j,rfl,rfl,hp,hj,q⟩:=h
 cases ro
 obtain ⟨t,rfl⟩:=ri
 obtain ⟨its,n,r,ho,hz⟩:=I.lst hp
 obtain ⟨h1,h2,h3,h4⟩:=zem hj
 have hl:=r.length
 have hn:=line63
 have I':Inv X pins σ (upd H p (.lst (xs.set j v))) { s with heap:=s.heap.update p (Obj.mapSeq (·.setIfInBounds j u)) } :=
  I.lstUpd hp ho (zcA its n j u) (r.set rv j) (by rw [List.length_set]; exact hz) s.toks
 by_cases h0:0≤k
 ·have hk:k.toNat = j:=by
   rw [seqIndex_of h0 h4] at h1
   exact Option.some.inj h1
  exact PySem.W.ki_setAt ho h0 (by omega) (by rw [List.size_toArray,← hl]; exact h4) (by rw [hk]; exact ⟨_,I',q⟩)
 ·have hk:(k + (its.toArray.size:Int)).toNat = j:=by
   rw [seqIndex_neg (by omega) h3] at h1
   rw [List.size_toArray,← hl]
   exact Option.some.inj h1
  exact PySem.W.ki_setBack ho (by omega) (by rw [List.size_toArray,← hl]; exact h3) (by omega) (by rw [hk]; exact ⟨_,I',q⟩)
theorem QZ (lo hi:Option Int) (n:Nat):(sliceBounds lo hi none n).1 = ((HT.sIx n 0 lo:Nat):Int)∧(sliceBounds lo hi none n).2.1 = ((HT.sIx n n hi:Nat):Int)∧(sliceBounds lo hi none n).2.2 = 1:=by
 refine ⟨?_,?_,rfl⟩
 ·cases lo with
  | none=>simp [sliceBounds,HT.sIx]
  | some i =>
   simp only [sliceBounds,HT.sIx,Option.getD_none,show (1:Int) > 0 by decide,if_true]
   by_cases h:i < 0
   ·simp only [h,if_true] <;> omega
   ·simp only [h,if_false] <;> omega
 ·cases hi with
  | none=>simp [sliceBounds,HT.sIx]
  | some i =>
   simp only [sliceBounds,HT.sIx,Option.getD_none,show (1:Int) > 0 by decide,if_true]
   by_cases h:i < 0
   ·simp only [h,if_true] <;> omega
   ·simp only [h,if_false] <;> omega
theorem JN (its:List Value) (lo hi:Option Int):slicePick its.toArray lo hi none = ((its.drop (HT.sIx its.length 0 lo)).take (HT.sIx its.length its.length hi - HT.sIx its.length 0 lo)).toArray:=by
 obtain ⟨h1,h2,h3⟩:=QZ lo hi its.toArray.size
 unfold slicePick
 rw [h1,h2,h3]
 simp only [sliceRange_one,pick_run,List.size_toArray] <;> rfl
inductive zgk (K:PySem.W.Frag) (x:V) (lo hi:Option Int) (H:Hp) (Q:VK):Prop where
 | mk (a:Addr) (xs:List V) (h0_:x = .ref a) (h1_:SqL K H a xs) (h2_:∀ p,H p = none→Q (.ref p) (upd H p (.lst (cutV xs lo hi)))):zgk K x lo hi H Q
noncomputable def rSlL (K:PySem.W.Frag):V→Option Int→Option Int→Hp→VK→Prop:=fun x lo hi H Q=>zgk K x lo hi H Q
theorem zdc:SlR X (rSlL X.K):=by
 intro pins s σ H x v vl vu lo hi sl Q I rx hs pl pu h
 obtain ⟨a,xs,rfl,hx,q⟩:=h
 cases rx
 obtain ⟨its,r,ht,hz⟩:=I.list hx
 have hlen:=r.length
 refine ⟨"list",_,slot_list_getitem.lookup,ht.isList.typeIs,?_⟩
 refine wpAny_getItem_list_slice ht.isList hs pl pu .none (by simp) ?_ (by rw [List.size_toArray] <;> omega)
 rw [JN,← hlen]
 refine ⟨.ref s.heap.objs.size,_,I.laid (t':=s.toks) (o:=.lst (cutV xs lo hi)) (fun b ob q=>Heap.get?_push_of_some _ q) (Nat.le_refl _) ?_,rfl,q _ (I.hok.fresh (Nat.le_refl _))⟩
 exact ⟨Nat.le_trans (za2 xs lo hi) hz,_,0,(r.drop (HT.sIx xs.length 0 lo)).take (HT.sIx xs.length xs.length hi - HT.sIx xs.length 0 lo),Heap.get?_push_size _ rfl⟩
theorem QP:CallR X (.builtin "len") (fun xs H Q=>∃ p ys,xs = [.ref p]∧(SqL X.K H p ys∨SqT X.K H p ys)∧Q (.int ys.length) H):=by
 intro pins s σ H xs us Q I r h
 obtain ⟨p,ys,rfl,hq,q⟩:=h
 obtain ⟨u,rfl,rx⟩:=vals1 r
 cases rx
 have hn:=line63
 rcases hq with hq | hq
 ·obtain ⟨its,r',pl,hz⟩:=I.list hq
  have hlen:=r'.length
  exact Calls.call_len_list pl.isList (by simp only [List.size_toArray] <;> omega) ⟨.int ys.length,H,I.tok _,⟨s.toks + 1,by rw [List.size_toArray,hlen]⟩,q⟩
 ·obtain ⟨its,r',pl,hz⟩:=I.tuple hq
  have hlen:=r'.length
  exact len_tuple pl (by simp only [List.size_toArray] <;> omega) ⟨.int ys.length,H,I.tok _,⟨s.toks + 1,by rw [List.size_toArray,hlen]⟩,q⟩
theorem zaA:CallR X (.type "list") (fun xs H Q=>∃ p ys,xs = [.ref p]∧(SqL X.K H p ys∨SqT X.K H p ys)∧∀ l,H l = none→Q (.ref l) (upd H l (.lst ys))):=by
 intro pins s σ H xs us Q I r h
 obtain ⟨p,ys,rfl,hq,q⟩:=h
 obtain ⟨u,rfl,rx⟩:=vals1 r
 cases rx
 have fin:∀ (its:List Value),Vals ys its→ys.length≤sizeLine→∀ (h':Heap) (c':Nat),(∀ b o',s.heap.get? b = some o'→h'.get? b = some o') →
   h'.get? s.heap.objs.size = some { cls:=.type "list",dict:=none,data:=.seq its.toArray c',slots:=#[] }→EP X pins σ Q (.ref s.heap.objs.size) { s with heap:=h' }:=fun its r' hz h' c' kp e =>
  ⟨.ref s.heap.objs.size,_,I.laid (t':=s.toks) kp (Nat.le_refl _) (show ObjOk X.prog X.w _ h' _ (.lst ys) from ⟨hz,its,c',r',e⟩),rfl,q _ (I.hok.fresh (Nat.le_refl _))⟩
 rcases hq with hq | hq
 ·obtain ⟨its,r',pl,hz⟩:=I.list hq
  have hlen:=r'.length
  obtain ⟨o,ho,hc,n,hd⟩:=pl.isList
  exact call_list_seq p (.inl rfl) ho hc hd (fun h' c' kp e=>fin its r' hz h' c' kp e) (by simp only [List.size_toArray] <;> omega)
 ·obtain ⟨its,r',pl,hz⟩:=I.tuple hq
  have hlen:=r'.length
  obtain ⟨o,ho,hc,n,hd⟩:=pl
  exact call_list_seq p (.inr rfl) ho hc hd (fun h' c' kp e=>fin its r' hz h' c' kp e) (by simp only [List.size_toArray] <;> omega)
theorem JG:CallR X (.type "tuple") (fun xs H Q=>∃ p ys,xs = [.ref p]∧((SqL X.K H p ys∧∀ l,H l = none→Q (.ref l) (upd H l (.tup ys)))∨(SqT X.K H p ys∧Q (.ref p) H))):=by
 intro pins s σ H xs us Q I r h
 obtain ⟨p,ys,rfl,h⟩:=h
 obtain ⟨u,rfl,rx⟩:=vals1 r
 cases rx
 rcases h with ⟨hq,q⟩ | ⟨hq,q⟩
 ·obtain ⟨its,r',pl,hz⟩:=I.list hq
  have hlen:=r'.length
  refine call_tuple_list pl.isList (fun h' kp=>?_) (by simp only [List.size_toArray] <;> omega)
  have I1:Inv X pins σ H { s with heap:=h' }:=I.kept (t':=s.toks) kp
  have I2:Inv X pins σ (upd H h'.objs.size (.tup ys)) { s with heap:=h'.push { cls:=.type "tuple",data:=.seq its.toArray } } :=
   I1.laid (t':=s.toks) (fun b o e=>Heap.get?_push_of_some _ e) (Nat.le_refl _) (show ObjOk X.prog X.w _ _ _ (.tup ys) from ⟨hz,its,r',IsTup.new _ _⟩)
  exact ⟨.ref h'.objs.size,_,I2,rfl,q _ (I1.hok.fresh (Nat.le_refl _))⟩
 ·obtain ⟨its,r',pl,hz⟩:=I.tuple hq
  exact call_tuple_same pl ⟨.ref p,H,I,rfl,q⟩
noncomputable def tyV (K:PySem.W.Frag) (T:String) (x:V) (H:Hp):Prop:=match x with
 | .str _=>T = "str"
 | .int _=>T = "int"
 | .ref p=>(T = "list" ∧ ∃ xs,SqL K H p xs)∨(T = "tuple" ∧ ∃ o,K.lookup p = some o∧o.cls = .type "tuple" ∧ o.dict = none) ∨
   (T = "dict" ∧ ((∃ kvs,H p = some (.dK kvs))∨∃ kvs,H p = some (.dT kvs)))∨(T = "set" ∧ ∃ S n,H p = some (.set S n))
 | _=>False
theorem zhV {pins:List (Addr×Obj)} {σ:St} {H:Hp} {s:Shared} {T:String} {x:V} {v:Value} (I:Inv X pins σ H s) (r:RelV x v) (ty:tyV X.K T x H) :
  s.TypeIs v T∧∀ a,v = .ref a→∃ ob,s.heap.get? a = some ob∧ob.dict = none:=by
 cases x with
 | str z =>
  obtain ⟨t,rfl⟩:=r
  cases (show T = "str" from ty)
  exact ⟨typeIs_str s z t,fun _ e=>nomatch e⟩
 | int i =>
  obtain ⟨t,rfl⟩:=r
  cases (show T = "int" from ty)
  exact ⟨typeIs_int s i t,fun _ e=>nomatch e⟩
 | ref p =>
  cases r
  rcases ty with ⟨rfl,xs,hq⟩ | ⟨rfl,o,hk,hc,hd⟩ | ⟨rfl,hk⟩ | ⟨rfl,S,n,hk⟩
  ·obtain ⟨its,_,pl,_⟩:=I.list hq
   refine ⟨pl.isList.typeIs,fun a e=>?_⟩
   cases e
   obtain ⟨o,n,e,c,hd,_⟩:=pl
   exact ⟨o,e,hd⟩
  ·refine ⟨⟨o,I.kIn p o hk,hc⟩,fun a e=>?_⟩
   cases e
   exact ⟨o,I.kIn _ o hk,hd⟩
  ·have z:∃ o,s.heap.get? p = some o∧o.ExactDict:=by
    rcases hk with ⟨kvs,hk⟩ | ⟨kvs,hk⟩
    ·obtain ⟨_,_,_,_,o,_,_,e,ex,_⟩:=I.hok p _ hk
     exact ⟨o,e,ex⟩
    ·obtain ⟨_,_,_,_,o,_,_,e,ex,_⟩:=I.hok p _ hk
     exact ⟨o,e,ex⟩
   obtain ⟨o,e,ex⟩:=z
   refine ⟨⟨o,e,ex.1⟩,fun a e2=>?_⟩
   cases e2
   exact ⟨o,e,ex.2.1⟩
  ·obtain ⟨o,_,_,_,e,ex,_⟩:=I.hok p _ hk
   refine ⟨⟨o,e,ex.1⟩,fun a e2=>?_⟩
   cases e2
   exact ⟨o,e,ex.2.1⟩
 | _=>exact False.elim ty
noncomputable def tBM (K:PySem.W.Frag) (T:String) (r:V→List V→Hp→VK→Prop) (to:TE) (t:TA):TE:=fun σ H Q=>to σ H fun x H1=>tyV K T x H1∧t σ H1 fun xs H2=>r x xs H2 Q
variable {o e:Expr} {es:List Expr} {to:TE} {t:TA} {name:Str} {apos cpos:Pos} {T id:String} {r:V→List V→Hp→VK→Prop}
theorem zcn (pa:PlainAttrs T) (slot:Slot T name id) (hty:typeOf (.builtin id) = pure (.type "method_descriptor")) (hm:MtR X id r) (ho:PE X o to) (ha:PA X (e :: es) t)
  (hbase:attributeBase o name X.env (eval o X.env) = eval o X.env:=by rfl)
  (hfew:((backTo cpos (starEach (e :: es) X.env)).all (fun x=>!x.1) && (backToKw cpos (keywordEach [] X.env)).all (fun x=>x.1.isSome)
   && decide ((e :: es).length + ([]:List Keyword).length + (if ([]:List Keyword).isEmpty then 0 else 1) < 30)) = true:=by rfl)
  (hline:(apos.endLine == cpos.line) = true:=by rfl) (hs:starEach (e :: es) X.env = (false,eval e X.env) :: starEach es X.env:=by rfl) (hplain:(backTo cpos (starEach es X.env)).any (·.1) = false:=by rfl) :
  PE X (.Call (.Attribute o name apos) (e :: es) [] cpos) (tBM X.K T r to t):=by
 intro pins s σ H Q I h
 refine wpAny_Call_method_late hbase hfew hline rfl (thn (ho pins s σ H _ I h) fun v s1 ⟨x,H1,I1,r1,ty,q1⟩=>?_)
 obtain ⟨h1,h2⟩:=zhV I1 r1 ty
 refine ⟨T,id,pa,slot,hty,h1,h2,?_⟩
 have hA:=ha cpos pins s1 σ H1 _ I1 q1
 rw [hs] at hA ⊢
 refine Calls.callWith_builtin (by show (false || (backTo cpos (starEach es X.env)).any (·.1)) = false; rw [hplain] <;> rfl) (Calls.evalArgs_plain ?_)
 exact thn hA fun us s2 ⟨vs,H2,I2,r2,q2⟩=>hm pins s2 σ H2 x vs v us Q I2 r1 r2 q2
end
end L2
namespace L2
open PySem PySem.Spec PyProof.Rows
noncomputable def MtM (X:Cx) (id:String) (r:V→List V→Hp→VK→Prop):Prop :=
 ∀ (pins:List (Addr×Obj)) (s:Shared) (σ:St) (H:Hp) (x:V) (xs:List V) (v:Value) (us:List Value) (Q:VK),Inv X pins σ H s→RelV x v→Vals xs us→r x xs H Q →
  wpAny (model X.prog X.w) X.A (call (.builtin id) (v :: us)) (EP X pins σ Q) X.xe s
theorem Vals.one:∀ {x:V} {us:List Value},Vals [x] us→∃ u,us = [u]∧RelV x u
 | _,_,.cons r .nil=>⟨_,rfl,r⟩
theorem Vals.two:∀ {x y:V} {us:List Value},Vals [x,y] us→∃ u v,us = [u,v]∧RelV x u∧RelV y v
 | _,_,_,.cons r (.cons q .nil)=>⟨_,_,rfl,r,q⟩
theorem Vals.rep {xs:List V} {us:List Value} (h:Vals xs us):∀ k:Nat,Vals (List.replicate k xs).flatten (List.replicate k us).flatten
 | 0=>.nil
 | k + 1=>by
  rw [List.replicate_succ,List.replicate_succ,List.flatten_cons,List.flatten_cons]
  exact Vals.append h (Vals.rep h k)
theorem QN (its:List Value):∀ (k:Nat) (acc:List Value),
  List.foldl (fun x1 x2=>x1 ++ x2) acc.toArray (List.replicate k its.toArray) = (acc ++ (List.replicate k its).flatten).toArray
 | 0,acc=>by simp
 | k + 1,acc=>by
  have e:acc.toArray ++ its.toArray = (acc ++ its).toArray:=by simp
  have e2:(acc ++ its) ++ (List.replicate k its).flatten = acc ++ (List.replicate (k + 1) its).flatten:=by
   rw [List.replicate_succ,List.flatten_cons,List.append_assoc]
  rw [← e2,← QN its k (acc ++ its),← e,List.replicate_succ,List.foldl_cons]
section
variable {X:Cx} {pins:List (Addr×Obj)} {σ:St} {H:Hp} {s:Shared} {l b:Addr} {xs ys zs:List V}
theorem Inv.lset {its its':List Value} {n:Nat} {f:Array Value→Array Value} {t':Nat} (I:Inv X pins σ H s) (hH:H l = some (.lst xs))
  (e:s.heap.get? l = some { cls:=.type "list",data:=.seq its.toArray n }) (hf:f its.toArray = its'.toArray) (hv:Vals ys its') (hz:ys.length≤sizeLine) :
  Inv X pins σ (upd H l (.lst ys)) { s with heap:=s.heap.update l (Obj.mapSeq f),toks:=t' }:=by
 have q:=PySem.IsL.update e f
 rw [hf] at q
 refine I.write (x:=l) (e:=l) (by rw [hH]; exact trivial) (.inl rfl) (fun b' u hb hu=>(Heap.get?_update_other s.heap (Obj.mapSeq f) (Ne.symm hb)).trans hu) ⟨_,q⟩ ?_
 exact ⟨hz,its',_,hv,q⟩
theorem Inv.lnew {its:List Value} {t':Nat} (I:Inv X pins σ H s) (hv:Vals ys its) (hz:ys.length≤sizeLine) :
  Inv X pins σ (upd H s.heap.objs.size (.lst ys)) { s with heap:=s.heap.push { cls:=.type "list",data:=.seq its.toArray },toks:=t' } :=
 I.laid (fun _ _ q=>Heap.get?_push_of_some _ q) (Nat.le_refl _) ⟨hz,its,0,hv,Heap.get?_push_size _ rfl⟩
theorem Inv.fresh (I:Inv X pins σ H s):H s.heap.objs.size = none:=I.hok.fresh (Nat.le_refl _)
theorem Inv.lstM (I:Inv X pins σ H s) (hH:H l = some (.lst xs)):xs.length≤sizeLine∧∃ (its:List Value) (n:Nat),Vals xs its∧xs.length = its.length∧s.heap.get? l = some { cls:=.type "list",data:=.seq its.toArray n }:=by
 obtain ⟨z,its,n,r,e⟩:=I.hok l _ hH
 exact ⟨z,its,n,r,r.length,e⟩
theorem notLongL {n:Nat} (h:n≤sizeLine):Builtin.List.listTooLong n = false:=by
 unfold Builtin.List.listTooLong
 exact decide_eq_false (by omega)
end
section
variable {X:Cx}
inductive zao (x:V) (vs:List V) (H:Hp) (Q:VK):Prop where
 | mk (l:Addr) (xs:List V) (y:V) (h0_:x = .ref l) (h1_:vs = [y]) (h2_:H l = some (.lst xs)) (h3_:xs.length < sizeLine) (h4_:Q .non (upd H l (.lst (xs ++ [y])))):zao  x vs H Q
noncomputable def rAppend:V→List V→Hp→VK→Prop:=fun x vs H Q=>zao  x vs H Q
theorem qh:MtM X "list.append" rAppend:=by
 intro pins s σ H x vs v us Q I rx rv h
 obtain ⟨l,xs,y,rfl,rfl,hH,hz,q⟩:=h
 cases rx
 obtain ⟨u,rfl,ru⟩:=rv.one
 obtain ⟨z,its,n,r,hl,e⟩:=I.lstM hH
 refine call_meets F.slot_list_append ⟨_,e,rfl⟩ F.entry_list_append (F.args_list_append_2 _ _) (PySem.list_append l its.toArray n u (by rw [List.size_toArray]; omega)) ⟨e,?_⟩
 refine ⟨.non,_,I.lset (its':=its ++ [u]) hH e (by simp) (r.append (.cons ru .nil)) ?_,rfl,q⟩
 rw [List.length_append,List.length_singleton]
 omega
noncomputable def rExtend:V→List V→Hp→VK→Prop:=fun x vs H Q=>∃ l b xs zs,x = .ref l∧vs = [.ref b]∧H l = some (.lst xs)∧H b = some (.lst zs)∧xs.length + zs.length≤sizeLine∧Q .non (upd H l (.lst (xs ++ zs)))
theorem zey:MtM X "list.extend" rExtend:=by
 intro pins s σ H x vs v us Q I rx rv h
 obtain ⟨l,b,xs,zs,rfl,rfl,hH,hB,hz,q⟩:=h
 cases rx
 obtain ⟨u,rfl,ru⟩:=rv.one
 cases ru
 obtain ⟨z,its,n,r,hl,e⟩:=I.lstM hH
 obtain ⟨z2,its2,n2,r2,hl2,e2⟩:=I.lstM hB
 have hsz:its.toArray.size + its2.toArray.size≤sizeLine:=by rw [List.size_toArray,List.size_toArray]; omega
 have hlong:¬ (!its.toArray.isEmpty && Builtin.List.listTooLong (its.toArray.size + its2.toArray.size)) = true:=by
  rw [notLongL hsz,Bool.and_false]
  exact Bool.false_ne_true
 refine call_meets F.slot_list_extend ⟨_,e,rfl⟩ F.entry_list_extend (F.args_list_extend_2 _ _)
  (AutoSeq1.list_extend_list_list_0 l its.toArray n b its2.toArray n2 hlong (by rw [List.size_toArray]; omega) (by omega)) ⟨e,e2,?_⟩
 refine ⟨.non,_,I.lset (its':=its ++ its2) hH e (by simp) (r.append r2) ?_,rfl,q⟩
 rw [List.length_append]
 omega
inductive zgm (x y:V) (H:Hp) (Q:VK):Prop where
 | mk (l b:Addr) (xs zs:List V) (h0_:x = .ref l) (h1_:y = .ref b) (h2_:H l = some (.lst xs)) (h3_:H b = some (.lst zs)) (h4_:xs.length + zs.length≤sizeLine) (h5_:∀ p,H p = none→Q (.ref p) (upd H p (.lst (xs ++ zs)))):zgm  x y H Q
noncomputable def rCat:R2:=fun x y H Q=>zgm  x y H Q
theorem Zq:OpR X (binaryOp .Add) rCat:=by
 intro pins s σ H x y v u Q I rx ry h
 obtain ⟨l,b,xs,zs,rfl,rfl,hH,hB,hz,q⟩:=h
 cases rx
 cases ry
 obtain ⟨z,its,n,r,hl,e⟩:=I.lstM hH
 obtain ⟨z2,its2,n2,r2,hl2,e2⟩:=I.lstM hB
 refine PySem.P.add_list e e2 ?_ (by rw [List.size_toArray,List.size_toArray]; omega)
 have ea:its.toArray ++ its2.toArray = (its ++ its2).toArray:=by simp
 rw [ea]
 exact ⟨.ref _,_,I.lnew (t':=s.toks) (r.append r2) (by rw [List.length_append]; omega),rfl,q _ I.fresh⟩
noncomputable def rRep:R2:=fun x y H Q=>∃ l k xs,x = .ref l∧y = .int k∧H l = some (.lst xs)∧-(2 ^ 63)≤k∧k < 2 ^ 63∧xs.length * k.toNat≤sizeLine ∧
 ∀ p,H p = none→Q (.ref p) (upd H p (.lst (List.replicate k.toNat xs).flatten))
theorem zgH {α:Type} (xs:List α) (k:Nat):(List.replicate k xs).flatten.length = k * xs.length:=by
 induction k with
 | zero=>simp
 | succ k ih=>rw [List.replicate_succ,List.flatten_cons,List.length_append,ih,Nat.succ_mul,Nat.add_comm]
theorem zh2:OpR X (binaryOp .Mult) rRep:=by
 intro pins s σ H x y v u Q I rx ry h
 obtain ⟨l,k,xs,rfl,rfl,hH,h1,h2,hz,q⟩:=h
 cases rx
 obtain ⟨t,rfl⟩:=ry
 obtain ⟨z,its,n,r,hl,e⟩:=I.lstM hH
 have hlen:its.toArray.size * k.toNat≤sizeLine:=by rw [List.size_toArray,← hl]; exact hz
 have hcap:¬ its.toArray.size * k.toNat > (2 ^ 63 - 1) / 8:=by
  have:(sizeLine:Nat)≤(2 ^ 63 - 1) / 8:=by decide
  omega
 have hfit:¬ (!Builtin.List.listFitsIndex k) = true:=by
  rw [fitsIndex_both h1 h2]
  exact Bool.false_ne_true
 have hlong:¬ Builtin.List.listTooLong (its.toArray.size * k.toNat) = true:=by
  rw [notLongL hlen]
  exact Bool.false_ne_true
 have hnew:List.foldl (fun x1 x2=>x1 ++ x2) #[] (List.replicate (if its.toArray.isEmpty = true then 0 else k.toNat) its.toArray) = (List.replicate k.toNat its).flatten.toArray:=by
  have f0:∀ m:Nat,List.foldl (fun x1 x2=>x1 ++ x2) #[] (List.replicate m its.toArray) = (List.replicate m its).flatten.toArray:=fun m=>by
   have:=QN its m []
   rw [List.nil_append] at this
   exact this
  rw [f0]
  cases its with
  | nil=>simp
  | cons a r'=>rw [if_neg (by simp)]
 refine wpAny_binaryOp_repeat_ref (T := "list") (U := "int") (by decide) ⟨_,e,rfl⟩ (fun s'=>typeIs_int s' k t) noFill_list_mul F.fills_int_mul F.slot_int_rmul repeat_list F.slot_int_index.lookup
  (call_meets F.slot_int_rmul (typeIs_int s k t) F.entry_int_rmul (F.args_int_rmul_2 _ _) (int___rmul___int_list k t l its.toArray n)
   ⟨e,rfl,⟨_,e,rfl⟩,call_meets F.slot_list_mul ⟨_,e,rfl⟩ F.entry_list_mul (F.args_list_mul_2 _ _) (AutoListH.list___mul___list_int_3 l its.toArray n k t hfit hcap hlong) ⟨e,?_⟩⟩)
 rw [hnew]
 exact ⟨.ref _,_,I.lnew (t':=s.toks) (r.rep k.toNat) (by rw [zgH,Nat.mul_comm]; exact hz),rfl,q _ I.fresh⟩
end
section
variable {prog:Program} {w:World} {A:Around} {E:Value→Shared→Prop} {s:Shared}
end
section
variable {X:Cx}
end
end L2
namespace Att
open PySem PySem.W PySem.Calls PyProof.Rows
theorem YC {P:Params} {h:Heap}:∀ (ns:List Int) (vs:List Value),WellAll P h vs (ns.map WData.int)→IntsAre vs ns:=by
 intro ns
 induction ns with
 | nil =>
  intro vs w
  rw [List.map_nil] at w
  cases w
  exact .nil
 | cons n ns ih =>
  intro vs w
  rw [List.map_cons] at w
  cases w with
  | cons a b =>
   cases a
   exact .cons _ _ (ih _ b)
theorem zdY {l:OpenLaw} {n:Nat} (hn:l.most = some n) {P:Params} {h:Heap} {args:List WData} {vals:List Value}
  (hpre:l.row.toRowW.claim.pre args = true) (hwl:WellAll P h vals args) :
  ∃ a vs ns,vals = [Value.ref a]∧args = [WData.list (ns.map WData.int)]∧h.get? a = some { cls:=.type "list",data:=.seq vs.toArray }∧IntsAre vs ns∧ns.length≤n:=by
 have hsh:WShape.hasAll [] args [.list .int] = true:=(pre_splitW hpre).1
 have hc:l.pre.holds [] { args:=args } = true:=(pre_splitW hpre).2
 obtain ⟨d,r,rfl,h1,h2⟩:=hasAllW_cons hsh
 obtain rfl:=hasAllW_nil h2
 obtain ⟨xs,rfl,h3⟩:=hasW_list h1
 obtain ⟨ns,rfl⟩:=items_int h3
 have hlen:ns.length≤n:=by
  unfold OpenLaw.pre at hc
  have h4:(WTm.not (.lt (.lit (.int (n:Int))) (.len (.arg 0)))).holds [] { args:=[.list (ns.map .int)] } = true:=by
   have h4:=(holds_andW hc).1
   rw [hn] at h4
   exact h4
  have h5:=condW_of h4 (w_not (w_lt w_lit (w_len_list (w_arg rfl))))
  rw [List.length_map] at h5
  refine Nat.le_of_not_lt fun q=>?_
  have q':(n:Int) < ((ns.length:Nat):Int):=by omega
  first
   | (rw [decide_eq_true q'] at h5; exact absurd h5 (by decide))
   | (simp at h5; omega)
 cases hwl with
 | cons w1 w2 =>
  cases w2
  cases w1 with
  | list ho hall=>exact ⟨_,_,ns,rfl,rfl,ho,YC ns _ hall,hlen⟩
theorem zcO (l:OpenLaw) (args:List WData):l.row.toRowW.claim.post args (.bool true) args = true :=
 postW_of (r:=l.row.toRowW) (X:=(true == true))
  (show WShape.has [] (.bool true) .bool = true by first | rfl | decide | simp [WShape.has,WShape.arms,WShape.armsAll])
  (show (WTm.eq .res (.lit (.bool true))).value [] { args:=args,res:=some (.bool true),after:=args } = some (.bool (true == true)) from w_eq_bool (w_res rfl) w_lit) rfl
theorem za5 {l:OpenLaw} {n:Nat} {q:Program} {loose:List Str} {XP:(Str→Option Value)→Heap→Prop} {YP:World→Heap→Prop} {d:DefRec}
  (hn:l.most = some n) (hdf:d.params.defaults = [])
  (call:∀ (w:World) (s₀ s₁:Shared) (mg mb:Str→Option Value) (fa:Addr) (o:Obj) (pm cd doc:Value) (a:Addr) (vs:List Value) (ns:List Int),
   Ground q loose [] XP w s₀ mg mb s₁.heap→YP w s₁.heap →
   s₁.heap.get? fa = some o→o.data = .func (docDef d.name d.params d.body d.scope pm cd doc)→s₁.heap.CodeRec cd d.name→mg d.name = some (.ref fa) →
   s₁.heap.get? a = some { cls:=.type "list",data:=.seq vs.toArray }→IntsAre vs ns→ns.length≤n→s₁.gens = #[] →
   codeAny (model l.prog w) callerA (.call (.ref fa) ⟨[.ref a],[]⟩) (fun r s'=>r = .ok (.ret (.bool true))∧OldK s₁.heap s'.heap∧s'.os = s₁.os∧AllBare s'.gens) s₁) :
  WalkO q loose XP YP l.row.toRowW d [] (fun f vs=>PySem.call f vs):=by
 intro w s₀ s₁ mg mb G Y fa o pm cd doc dV kV ho hd hcd hD hmg hg args vals as hpre hlay hrd hwl hlo
 obtain rfl:dV = .none:=Dflts.none hD hdf
 obtain rfl:kV = .none:=Dflts.noKw hD
 obtain ⟨a,vs,ns,rfl,rfl,hobj,hints,hlen⟩:=zdY hn hpre hwl
 refine enter_call (codeAny_mono (call w s₀ s₁ mg mb fa o pm cd doc a vs ns G Y ho (fd_plain hd) hcd hmg hobj hints hlen hg) fun r s' hq=>?_)
 obtain ⟨rfl,h2,h3,h4⟩:=hq
 exact ⟨.inl ⟨.bool true,.bool true,[],rfl,fun _=>rfl,.bool true,zcO l _,fun _=>⟨List.Pairwise.nil,fun _ hm=>(nomatch hm)⟩⟩,h2,h3,h4⟩
section
variable {prog:Program} {w:World} {A:Around} {E:Value→Shared→Prop} {s:Shared} {K:Frag}
end
end Att
namespace L2
open PySem PySem.Spec PyProof.Rows
theorem zaa:∀ {vs:List Value} {ns:List Int},IntsAre vs ns→Vals (ns.map V.int) vs
 | _,_,.nil=>.nil
 | _,_,.cons n t h=>.cons ⟨t,rfl⟩ (zaa h)
noncomputable def Only (H:Hp):Prop:=∀ b,H b = none∨∃ o xs,H b = some (.frz o (.lst xs))
theorem ze5 {P:Program} {w:World} {K:PySem.W.Frag} {mg mb:Str→Option Value} {CX:CXT} {k:Nat} {fa a:Addr} {fd:FuncData} {x:Str} {sp:Sp} {s₁:Shared} {vs:List Value} {ns:List Int}
  (KX:K.In s₁.heap) (hns:s₁.heap.Ns mainGlobals mg) (hb:s₁.heap.Ns builtinsNs mb) (hbb:∀ x:Str,x ≠ "__name__" → mb x = bootBuiltins x) (hlim:s₁.heap.NoLimit) (hSe:s₁.heap.NoSeer) (hg:s₁.gens = #[])
  (ha:s₁.heap.get? a = some { cls:=.type "list",data:=.seq vs.toArray }) (hi:IntsAre vs ns) (hl:ns.length≤sizeLine) (hr:Room k callerA)
  (F:∀ base:Heap,K.In base→base.Ns mainGlobals mg→base.NoSeer→FnOk P w K mg base CX k fa fd [x] sp) (hbind:∀ (s:Shared) (u:Value),BindsTo s fd ⟨[u],[]⟩ [(x,u)])
  (hsp:∀ H:Hp,Only H→SqL K H a (ns.map V.int)→sp [.ref a] H (fun v _=>v = .bl true) fun _ _ _=>False)
  (hCX:∀ H e s',CX [] H s₁ (fun _ _ _=>False) e s'→False) :
  codeAny (model P w) callerA (.call (.ref fa) ⟨[.ref a],[]⟩) (fun r s'=>r = .ok (.ret (.bool true))∧OldK s₁.heap s'.heap∧s'.os = s₁.os∧AllBare s'.gens) s₁:=by
 have rv:=zaa hi
 have lenV:=hi.length
 have core:∀ H:Hp,Only H→SqL K H a (ns.map V.int)→HOk P w H s₁.heap→(∀ b,H b≠none→b = a)→(H a≠none→K.lookup a = none) →
   codeAny (model P w) callerA (.call (.ref fa) ⟨[.ref a],[]⟩) (fun r s'=>r = .ok (.ret (.bool true))∧OldK s₁.heap s'.heap∧s'.os = s₁.os∧AllBare s'.gens) s₁:=by
  intro H hO hS hok hA hK
  have base_of:∀ {b:Addr} {o:Obj},s₁.heap.get? b = some o→H b = none→(hidT s₁.heap H).get? b = some o:=fun e n=>zfF e n
  have noA:∀ {b:Addr} {o:Obj} {es:Array DictEntry} {ep:Nat},s₁.heap.get? b = some o→o.data = .dict es ep→H b = none:=fun {b o es ep} e d=>by
   cases q:H b with
   | none=>rfl
   | some u =>
    have e':b = a:=hA b (by rw [q]; simp)
    subst e'
    rw [ha] at e; cases e
    have d':Data.seq vs.toArray _ = Data.dict es ep:=d
    cases d'
  have nsK:∀ {b:Addr} {m:Str→Option Value},s₁.heap.Ns b m→(hidT s₁.heap H).Ns b m:=fun {b m} ⟨o,es,ep,e,d,r⟩=>⟨o,es,ep,base_of e (noA e d),d,r⟩
  have hKb:K.In (hidT s₁.heap H):=fun b o e=>base_of (KX b o e) (by
   cases q:H b with
   | none=>rfl
   | some u =>
    have e':b = a:=hA b (by rw [q]; simp)
    subst e'
    rw [hK (by rw [q]; simp)] at e; cases e)
  have hM:Mod K mg (hidT s₁.heap H):=⟨hKb,nsK hns,⟨mb,nsK hb,hbb⟩,let ⟨mc,h1,h2⟩:=hlim; ⟨mc,nsK h1,h2⟩⟩
  have e0:Env0 P w K mg (hidT s₁.heap H) callerA [] s₁ H:=⟨rfl,hM,fun b o e=>zgN e,Nat.le_of_eq (zdA _ _),trivial,fun b hb=>absurd (show b∈([]:List Addr) from hb) (by simp),hok,.of_eq hg⟩
  have hSb:(hidT s₁.heap H).NoSeer:=⟨(let ⟨mc,h1,h2⟩:=hSe.statics; ⟨mc,nsK h1,h2⟩),(let ⟨mc,h1,h2⟩:=hSe.mods; ⟨mc,nsK h1,h2⟩),(let ⟨mc,h1,h2⟩:=hSe.imp; ⟨mc,nsK h1,h2⟩),by
   obtain ⟨m',bm,ob,h1,h2,h3,h4,h5⟩:=hSe.main
   refine ⟨m',bm,ob,nsK h1,h2,base_of h3 ?_,h4,h5⟩
   cases q:H bm with
   | none=>rfl
   | some u =>
    have e':bm = a:=hA bm (by rw [q]; simp)
    subst e'
    rw [ha] at h3; cases h3
    exact absurd h4 (by simp)⟩
  refine codeAny_mono ((F _ hKb (nsK hns) hSb).run callerA [] s₁ H ⟨[.ref a],[]⟩ [.ref a] [.ref a] _ _ hr e0 (hbind s₁ (.ref a)) (.cons rfl .nil) (hsp H hO hS)) fun r s' h=>?_
  cases r with
  | error e=>exact (hCX H e s' h).elim
  | ok fl =>
   cases fl with
   | next=>exact False.elim h
   | brk=>exact False.elim h
   | cont=>exact False.elim h
   | ret u =>
    obtain ⟨v,H',os,bare,un,hok',r',q⟩:=h
    have q':v = .bl true:=q
    subst q'
    obtain rfl:u = Value.bool true:=r'
    refine ⟨rfl,OldK.of_keep fun b o e=>?_,os,bare⟩
    cases q:H b with
    | none=>exact un.keep b o e q (by intro z; exact absurd (show b∈([]:List Addr) from z) (by simp)) (by simp)
    | some u =>
     rcases hO b with z | ⟨ob,xs,z⟩
     ·rw [q] at z; cases z
     ·have z2:=un.frzs b ob _ z
      obtain ⟨e1,_⟩:=hok b _ z
      obtain ⟨e2,_⟩:=hok' b _ z2
      rw [e] at e1; cases e1
      exact e2
 cases hk:K.lookup a with
 | some o =>
  have e:=KX a o hk
  rw [ha] at e
  cases e
  refine core (fun _=>none) (fun _=>.inl rfl) (.inr ⟨_,vs.toArray,_,hk,rfl,rfl,rfl,by rw [List.size_toArray,lenV]; exact hl,by simpa using rv⟩) (fun b u z=>by have z':(none:Option HO) = some u:=z; cases z') (fun b z=>absurd rfl z) fun z=>absurd rfl z
 | none =>
  refine core (fun b=>if b = a then some (.frz { cls:=.type "list",data:=.seq vs.toArray } (.lst (ns.map V.int))) else none) (fun b=>?_) (.inl (.inr ⟨{ cls:=.type "list",data:=.seq vs.toArray },if_pos rfl⟩)) (fun b u z=>?_) (fun b z=>?_) fun _=>hk
  ·by_cases hb:b = a
   ·exact .inr ⟨_,_,if_pos hb⟩
   ·exact .inl (if_neg hb)
  ·by_cases hb:b = a
   ·have z':=(if_pos hb).symm.trans z
    cases z'
    subst hb
    exact ⟨ha,by rw [List.length_map]; exact hl,vs,_,rv,ha⟩
   ·have z':=(if_neg hb).symm.trans z
    cases z'
  ·by_cases hb:b = a
   ·exact hb
   ·exact absurd (if_neg hb) z
end L2
namespace L2
open PySem PySem.Spec PyProof.Rows
end L2
namespace L2
open PySem PySem.Spec PyProof.Rows
noncomputable def defArgs (s:Stmt):Arguments:=match s with
 | .FunctionDef _ a _ _ _ _ _ _ _ _=>a
 | _=>{ posonlyargs:=[],args:=[],vararg:=none,kwonlyargs:=[],kw_defaults:=[],kwarg:=none,defaults:=[] }
noncomputable def defBody (s:Stmt):List Stmt:=match s with
 | .FunctionDef _ _ b _ _ _ _ _ _ _=>b
 | _=>[]
noncomputable def defScope (s:Stmt):Scope:=match s with
 | .FunctionDef _ _ _ _ _ _ sc _ _ _=>sc
 | _=>{ kind:=.function,names:=[],isGenerator:=false,isCoroutine:=false }
noncomputable abbrev CX0:CXT:=fun _ _ _ _ _ _=>False
noncomputable abbrev E0:XK:=fun _ _ _=>False
theorem pass0 {X:Cx}:Passes CX0 X E0:=fun _ _ _ _ _ _ _ h=>h.elim
structure Fun (K:PySem.W.Frag) (x qual:Str) (st:Stmt) (f:Addr) (fd:FuncData):Prop where
 ex:∃ (oc:Value) (od:Option Addr) (kV doc pm:Value) (an:Option Addr) (cdv ct:Value) (osl:Array (Option Value)),
  fd = PySem.W.fnOf x qual (defArgs st) (defBody st) (defScope st) .none kV doc pm an cdv ct∧K.lookup f = some ⟨oc,od,.func fd,osl⟩∧PySem.W.codeIn K cdv qual = true
 kp:PySem.W.keepIn K (.ref f) = true
section
variable {P:Program} {w:World} {K:PySem.W.Frag} {mg:Str→Option Value} {base:Heap}
theorem Fun.ok {x qual:Str} {st:Stmt} {f:Addr} {fd:FuncData} {N ps:List Str} {k:Nat} {sp:Sp} (F:Fun K x qual st f fd) (S:FnScope N ps (defScope st)) (len:∀ vs H Q E,sp vs H Q E→vs.length = ps.length)
  (hbody:∀ (cdv:Value) (A:Around) (outer:List Env) (s:Shared) (H:Hp) (vs:List V) (Q:VK) (E:XK),Room k (A.deeper (envOfC qual (defScope st) s.heap.objs.size f cdv))→sp vs H Q E →
   ∃ t,PSs (cxOf CX0 P w K mg base N qual (defScope st) f cdv A outer s H E).nox (defBody st) t∧t { nx:=fun _ H'=>Q .non H',rt:=Q } (start N vs) H):FnOk P w K mg base CX0 (k + 1) f fd ps sp:=by
 obtain ⟨oc,od,kV,doc,pm,an,cdv,ct,osl,rfl,lk,hcd⟩:=F.ex
 refine zil lk hcd S len fun A outer s H vs Q E hr hsp=>?_
 obtain ⟨t,h,q⟩:=hbody cdv A outer s H vs Q E hr hsp
 exact ⟨t,h.nox,q⟩
theorem Fun.binds {x qual:Str} {st:Stmt} {f:Addr} {fd:FuncData} {ps:List Str} (F:Fun K x qual st f fd)
  (h:∀ (kV doc pm:Value) (an:Option Addr) (cdv ct:Value) (us:List Value),us.length = ps.length→bindArgs (PySem.W.fnOf x qual (defArgs st) (defBody st) (defScope st) .none kV doc pm an cdv ct) ⟨us,[]⟩ = pure (ps.zip us)):Binds K fd ps []:=by
 obtain ⟨oc,od,kV,doc,pm,an,cdv,ct,osl,rfl,lk,hcd⟩:=F.ex
 exact .all (h kV doc pm an cdv ct)
theorem zgq {x qual:Str} {st:Stmt} {f:Addr} {oc:Value} {od an:Option Addr} {osl:Array (Option Value)} {kV doc pm cdv ct:Value} (l:K.lookup f = some ⟨oc,od,.func (PySem.W.fnOf x qual (defArgs st) (defBody st) (defScope st) .none kV doc pm an cdv ct),osl⟩)
  (c:PySem.W.codeIn K cdv qual = true) (k:PySem.W.keepIn K (.ref f) = true):Fun K x qual st f (PySem.W.fnOf x qual (defArgs st) (defBody st) (defScope st) .none kV doc pm an cdv ct):=⟨⟨oc,od,kV,doc,pm,an,cdv,ct,osl,rfl,l,c⟩,k⟩
end
section
variable {X:Cx}
theorem pv (i:Nat) {x:Str} {pos:Pos} (hN:X.N[i]? = some x:=by rfl) (hv:Vis X.env.scope x:=by first | exact Or.inl rfl | exact Or.inr (Or.inl rfl) | exact Or.inr (Or.inr rfl)) (hd:(x == ("__debug__" : Str)) = false:=by decide)
  (hcd:(x == ("__classdict__" : Str)) = false:=by decide):PE X (.Name x pos) (tVar i):=zid hN hv hd hcd
end
theorem iteF {A B:Prop} (h:B):if false = true then A else B:=by
 rw [if_neg Bool.false_ne_true]
 exact h
theorem iteT {A B:Prop} (h:A):if true = true then A else B:=by
 rw [if_pos rfl]
 exact h
theorem ite2 {c A B:Prop} [Decidable c] (h1:c→A) (h2:¬ c→B):if c then A else B:=by
 by_cases h:c
 ·rw [if_pos h]
  exact h1 h
 ·rw [if_neg h]
  exact h2 h
noncomputable def Same (H H':Hp):Prop:=∀ b o,H b = some o→H' b = some o
theorem Same.refl (H:Hp):Same H H:=fun _ _ h=>h
theorem Same.trans {H H1 H2:Hp} (a:Same H H1) (b:Same H1 H2):Same H H2:=fun c o h=>b c o (a c o h)
end L2
namespace Nm
noncomputable def primeB (n:Nat):Bool:=decide (1 < n) && (List.range n).all fun d=>decide (d < 2) || decide (n % d≠0)
structure PrS (k:Int):Prop where
 lo:1 < k
 hi:k < 99
 pr:primeB k.toNat = true
structure Pr (k:Int):Prop where
 lo:1 < k
 hi:k < 2305843009213693952
 cp:∀ r:Int,0 < r→r < k→Int.gcd k r = 1
noncomputable def KindOk (k:Int):Prop:=k = 0∨Pr k
noncomputable def KindS (k:Int):Prop:=k = 0∨PrS k
theorem KindOk.lt {k:Int} (h:KindOk k):0≤k∧k < 2305843009213693952:=by
 rcases h with h | h
 ·omega
 ·have:=h.lo; have:=h.hi; omega
theorem JS:∀ k < 99,primeB k = true→∀ r < k,0 < r→Nat.gcd k r = 1:=by decide +kernel
theorem PrS.big {k:Int} (h:PrS k):Pr k:=by
 refine ⟨h.lo,by have:=h.hi; omega,fun r h0 h1=>?_⟩
 have:=JS k.toNat (by have:=h.hi; omega) h.pr r.toNat (by omega) (by omega)
 have e1:k.natAbs = k.toNat:=by omega
 have e2:r.natAbs = r.toNat:=by omega
 rw [Int.gcd_eq_natAbs_gcd_natAbs,e1,e2]; exact this
theorem KindS.ok {k:Int} (h:KindS k):KindOk k:=h.imp id PrS.big
theorem Pr.cop {k r:Int} (h:Pr k) (h0:0 < r) (h1:r < k):Int.gcd k r = 1:=h.cp r h0 h1
theorem zbK (a b:Int):Int.gcd b (a.fmod b) = Int.gcd a b:=by
 rw [Int.fmod_def,Int.gcd_sub_mul_left_right,Int.gcd_comm]
theorem zcp (a:Int) {b:Int} (hb:b≠0):(a.fmod b).natAbs < b.natAbs:=by
 rcases Int.lt_or_le 0 b with h | h
 ·have h1:=Int.fmod_nonneg_of_pos a h
  have h2:=Int.fmod_lt_of_pos a h
  omega
 ·have hb':0 < -b:=by omega
  have h1:=Int.fmod_nonneg_of_pos (-a) hb'
  have h2:=Int.fmod_lt_of_pos (-a) hb'
  have e:(-a).fmod (-b) = -(a.fmod b):=by
   rw [Int.neg_fmod_neg]
  omega
end Nm
namespace Nm
structure OvInv (p r l g ml mg:Int):Prop where
 l0:0≤l
 l1:l < 2305843009213693952
 g0:0≤g
 g1:g < 2305843009213693952
 cop:Int.gcd l g = 1
 left:p ∣ l - ml * r
 right:p ∣ g - mg * r
theorem zbV {p r:Int} (h:Pr p) (h0:0 < r) (h1:r < p):OvInv p r p r 0 1:=by
 have:=h.lo; have:=h.hi
 refine ⟨by omega,by omega,by omega,by omega,h.cop h0 h1,?_,?_⟩
 ·rw [Int.zero_mul,Int.sub_zero]; exact Int.dvd_refl p
 ·rw [Int.one_mul,Int.sub_self]; exact Int.dvd_zero p
theorem zcL {p r l g ml mg:Int} (h:OvInv p r l g ml mg) (hg:g≠0):OvInv p r g (l - l / g * g) mg (ml - l / g * mg):=by
 have g0:=h.g0
 have g1:=h.g1
 have e:l - l / g * g = l % g:=by
  have:=Int.emod_add_mul_ediv l g
  rw [Int.mul_comm (l / g) g]; omega
 have m0:=Int.emod_nonneg l hg
 have m1:=Int.emod_lt_of_pos l (show 0 < g by omega)
 refine ⟨g0,g1,by omega,by omega,?_,h.right,?_⟩
 ·rw [Int.gcd_sub_mul_right_right,Int.gcd_comm]; exact h.cop
 ·have e2:l - l / g * g - (ml - l / g * mg) * r = (l - ml * r) - l / g * (g - mg * r):=by grind
  rw [e2]
  exact Int.dvd_sub h.left (Int.dvd_mul_of_dvd_right h.right)
theorem zdo {l g:Int} (g0:0≤g) (hg:g≠0):(l - l / g * g).toNat < g.toNat:=by
 have e:l - l / g * g = l % g:=by
  have:=Int.emod_add_mul_ediv l g
  rw [Int.mul_comm (l / g) g]; omega
 have m0:=Int.emod_nonneg l hg
 have m1:=Int.emod_lt_of_pos l (show 0 < g by omega)
 omega
theorem zf8 {p r l ml mg:Int} (h:OvInv p r l 0 ml mg) (hp:0 < p):p ∣ ml % p * r - 1:=by
 have c:=h.cop
 rw [Int.gcd_zero] at c
 have e:l = 1:=by have:=h.l0; omega
 have d:=h.left
 rw [e] at d
 have e1:ml % p * r - 1 = -(1 - ml * r) - p * (ml / p) * r:=by
  have:=Int.emod_add_mul_ediv ml p
  grind
 rw [e1]
 exact Int.dvd_sub (Int.dvd_neg.mpr d) (Int.dvd_mul_of_dvd_left (Int.dvd_mul_right p _))
noncomputable def sg (t b:Int):Int:=if b < 0 then -((Int.gcd t b:Nat):Int) else ((Int.gcd t b:Nat):Int)
theorem zeH {t b:Int} (hb:b≠0):sg t b≠0:=by
 have:=Int.gcd_pos_of_ne_zero_right t hb
 unfold sg; split <;> omega
theorem zhY (t b:Int):(sg t b).natAbs = Int.gcd t b:=by
 unfold sg; split <;> omega
theorem Zn (t b:Int):sg t b ∣ t:=by
 unfold sg; split
 ·exact Int.neg_dvd.mpr (Int.gcd_dvd_left t b)
 ·exact Int.gcd_dvd_left t b
theorem Zs (t b:Int):sg t b ∣ b:=by
 unfold sg; split
 ·exact Int.neg_dvd.mpr (Int.gcd_dvd_right t b)
 ·exact Int.gcd_dvd_right t b
theorem zd2 {q:Rat} {t b:Int} (hb:b≠0) (h:q.num * b = t * q.den):Rat.divInt t b = q:=by
 rw [← Rat.num_divInt_den q]
 have hd:(q.den:Int)≠0:=by have:=q.den_nz; omega
 rw [Rat.divInt_eq_divInt_iff hb hd]
 omega
theorem Yy {t b:Int} (hb:b≠0):t.fdiv (sg t b) = (Rat.divInt t b).num∧b.fdiv (sg t b) = ((Rat.divInt t b).den:Nat):=by
 have hs:=zeH (t:=t) hb
 rw [Int.fdiv_eq_ediv_of_dvd (Zn t b),Int.fdiv_eq_ediv_of_dvd (Zs t b)]
 have et:=Int.ediv_mul_cancel (Zn t b)
 have eb:=Int.ediv_mul_cancel (Zs t b)
 have hpos:0 < b / sg t b:=by
  have hne:b / sg t b≠0:=fun z=>by rw [z,Int.zero_mul] at eb; exact hb eb.symm
  have hg:=Int.gcd_pos_of_ne_zero_right t hb
  rcases Int.lt_or_le b 0 with h | h
  ·have e:sg t b = -((Int.gcd t b:Nat):Int):=by unfold sg; rw [if_pos h]
   have:0≤b / sg t b:=Int.ediv_nonneg_of_nonpos_of_nonpos (by omega) (by omega)
   omega
  ·have e:sg t b = ((Int.gcd t b:Nat):Int):=by unfold sg; rw [if_neg (by omega)]
   have:0≤b / sg t b:=Int.ediv_nonneg (by omega) (by omega)
   omega
 have hcop:Int.gcd (t / sg t b) (b / sg t b) = 1:=by
  rw [Int.gcd_ediv (Zn t b) (Zs t b),zhY]
  exact Nat.div_self (Int.gcd_pos_of_ne_zero_right t hb)
 let q:Rat:=⟨t / sg t b,(b / sg t b).toNat,by omega,by
  show Nat.gcd (t / sg t b).natAbs (b / sg t b).toNat = 1
  have:(b / sg t b).toNat = (b / sg t b).natAbs:=by omega
  rw [this]; exact hcop⟩
 have hq:Rat.divInt t b = q:=zd2 hb (by
  show t / sg t b * b = t * (((b / sg t b).toNat:Nat):Int)
  have e:(((b / sg t b).toNat:Nat):Int) = b / sg t b:=by omega
  rw [e]
  have:t / sg t b * b = t / sg t b * (b / sg t b * sg t b):=by rw [eb]
  have:t * (b / sg t b) = t / sg t b * sg t b * (b / sg t b):=by rw [et]
  grind)
 rw [hq]
 refine ⟨rfl,?_⟩
 show b / sg t b = (((b / sg t b).toNat:Nat):Int)
 omega
theorem zdm (x y:Rat):Rat.divInt (x.num * y.den + y.num * x.den) (x.den * y.den) = x + y:=by
 rw [Rat.add_def',← Rat.divInt_ofNat]; simp
theorem zg9 (x y:Rat):Rat.divInt (x.num * y.den - y.num * x.den) (x.den * y.den) = x - y:=by
 rw [Rat.sub_def',← Rat.divInt_ofNat]; simp
theorem zbe (x y:Rat):Rat.divInt (x.num * y.num) (x.den * y.den) = x * y:=by
 rw [Rat.mul_def',← Rat.divInt_ofNat]; simp
theorem zgG (x y:Rat):Rat.divInt (x.num * y.den) (x.den * y.num) = x / y:=by
 rw [Rat.div_def,Rat.inv_def,← Rat.num_divInt_den x,Rat.divInt_mul_divInt]
 simp [Rat.num_divInt_den]
end Nm
namespace L2
open PySem PySem.Spec PyProof.Rows
theorem yt:bootBuiltins "len" = some (.builtin "len"):=by decide +kernel
theorem zc4:bootBuiltins "abs" = some (.builtin "abs"):=by decide +kernel
theorem yx:bootBuiltins "isinstance" = some (.builtin "isinstance"):=by decide +kernel
theorem zhQ:bootBuiltins "sum" = some (.builtin "sum"):=by decide +kernel
theorem zhw:bootBuiltins "min" = some (.builtin "min"):=by decide +kernel
theorem zc6:bootBuiltins "sorted" = some (.builtin "sorted"):=by decide +kernel
theorem zgo:bootBuiltins "int" = some (.type "int"):=by decide +kernel
theorem zg2:bootBuiltins "bool" = some (.type "bool"):=by decide +kernel
theorem zhF:bootBuiltins "str" = some (.type "str"):=by decide +kernel
theorem qQ:bootBuiltins "list" = some (.type "list"):=by decide +kernel
theorem JH:bootBuiltins "tuple" = some (.type "tuple"):=by decide +kernel
theorem zh9:bootBuiltins "zip" = some (.type "zip"):=by decide +kernel
noncomputable def Sm (n:Nat) (x:Int):Prop:=x.natAbs < 2 ^ n
theorem Sm.bits {n:Nat} {x:Int} (h:Sm n x):Builtin.Int.intBits x≤n:=by
 unfold Builtin.Int.intBits
 split
 ·exact Nat.zero_le _
 ·rename_i h0
  have h0':x.natAbs≠0:=by
   intro z
   have e:x = 0:=by omega
   rw [e] at h0
   exact h0 rfl
  have:=(Nat.log2_lt h0').mpr h
  omega
theorem Sm.mulOk {m n:Nat} {a b:Int} (ha:Sm m a) (hb:Sm n b) (h:m + n≤134217728):IntMulOk a b:=IntMulOk.of_le ha.bits hb.bits h
theorem Sm.mono {m n:Nat} {x:Int} (h:Sm m x) (hmn:m≤n):Sm n x:=Nat.lt_of_lt_of_le h (Nat.pow_le_pow_right (by decide) hmn)
theorem Sm.mul {m n:Nat} {a b:Int} (ha:Sm m a) (hb:Sm n b):Sm (m + n) (a * b):=by
 unfold Sm
 rw [Int.natAbs_mul,Nat.pow_add]
 exact Nat.mul_lt_mul'' ha hb
theorem Sm.add {n:Nat} {a b:Int} (ha:Sm n a) (hb:Sm n b):Sm (n + 1) (a + b):=by
 unfold Sm at *
 rw [Nat.pow_succ]
 have:=Int.natAbs_add_le a b
 omega
theorem Sm.sub {n:Nat} {a b:Int} (ha:Sm n a) (hb:Sm n b):Sm (n + 1) (a - b):=by
 unfold Sm at *
 rw [Nat.pow_succ]
 have:=Int.natAbs_sub_le a b
 omega
theorem Sm.neg {n:Nat} {a:Int} (ha:Sm n a):Sm n (-a):=by
 unfold Sm at *; rw [Int.natAbs_neg]; exact ha
theorem Sm.le {n:Nat} {a b:Int} (ha:Sm n a) (h:b.natAbs≤a.natAbs):Sm n b:=Nat.lt_of_le_of_lt h ha
section
variable {X:Cx} {a b c:Expr} {ta tb tc:TE} {pos:Pos}
theorem zU:OpR X (binaryOp .Mult) (rI IntMulOk fun i j=>.int (i * j)):=opI fun _ _ _ _ _ _ _ hc q=>mul_int q hc
noncomputable def rIsi (K:PySem.W.Frag):List V→Hp→VK→Prop:=fun xs H Q=>∃ x n t b,xs = [x,.ty n]∧TyOf K H x t∧PySem.W.kitOne K t (.type n) = some b∧Q (.bl b) H
theorem zfL:CallR X (.builtin "isinstance") (rIsi X.K):=by
 intro pins s σ H xs us Q I r h
 obtain ⟨x,n,t,b,rfl,ty,e,q⟩:=h
 obtain ⟨u,w',rfl,r1,r2⟩:=Vals.two r
 cases r2
 exact zej I r1 ty e fun tk=>⟨.bl b,H,I.tok tk,rfl,q⟩
theorem zaD {x:Str} {n:String} (hg:Gl X x) (hm:X.mg x = none) (hv:bootBuiltins x = some (.type n)) (hn:x ≠ "__name__" := by decide) (hd:(x == ("__debug__" : Str)) = false:=by decide):PE X (.Name x pos) (tC (.ty n)) :=
 zg6 hg hm hv rfl hn hd
end
structure Kn (P:Program) (w:World) (K:PySem.W.Frag) (mg:Str→Option Value) (base:Heap) (x:Str) (k:Nat) (ps:List Str) (sp:Sp):Prop where
 ex:∃ (f:Addr) (fd:FuncData),FnOk P w K mg base CX0 k f fd ps sp∧mg x = some (.ref f)∧PySem.W.keepIn K (.ref f) = true∧Binds K fd ps []
theorem zu {X:Cx} {x:Str} {k:Nat} {ps:List Str} {sp:Sp} {p pos:Pos} {e:Expr} {es:List Expr} {t:TA} (D:Kn X.prog X.w X.K X.mg X.base x k ps sp) (hr:Room k X.A) (hg:Gl X x) (ha:PA X (e :: es) t)
  (hdb:(x == ("__debug__" : Str)) = false:=by decide) (he:starEach (e :: es) X.env = (false,eval e X.env) :: starEach es X.env:=by rfl) (hpl:(backTo pos (starEach es X.env)).any (·.1) = false:=by rfl) :
  PE X (.Call (.Name x p) (e :: es) [] pos) (tCall sp [] E0 t):=by
 obtain ⟨f,fd,F,hm,hk,hb⟩:=D.ex
 exact zgT F hr hg hm hk hb .nil pass0 ha hdb he hpl
structure Df (K:PySem.W.Frag) (mg:Str→Option Value) (x:Str) (ps:List Str) (st:Stmt):Prop where
 ex:∃ (f:Addr) (fd:FuncData),Fun K x x st f fd∧mg x = some (.ref f)∧Binds K fd ps []
section
variable {P:Program} {w:World} {K:PySem.W.Frag} {mg:Str→Option Value} {base:Heap}
theorem Df.kn {x:Str} {st:Stmt} {N ps:List Str} {k:Nat} {sp:Sp} (D:Df K mg x ps st) (S:FnScope N ps (defScope st)) (len:∀ vs H Q E,sp vs H Q E→vs.length = ps.length)
  (hbody:∀ (f:Addr) (cdv:Value) (A:Around) (outer:List Env) (s:Shared) (H:Hp) (vs:List V) (Q:VK) (E:XK),Room k (A.deeper (envOfC x (defScope st) s.heap.objs.size f cdv))→sp vs H Q E →
   ∃ t,PSs (cxOf CX0 P w K mg base N x (defScope st) f cdv A outer s H E).nox (defBody st) t∧t { nx:=fun _ H'=>Q .non H',rt:=Q } (start N vs) H):Kn P w K mg base x (k + 1) ps sp:=by
 obtain ⟨f,fd,F,hm,hb⟩:=D.ex
 exact ⟨f,fd,F.ok S len (fun cdv A outer s H vs Q E hr h=>hbody f cdv A outer s H vs Q E hr h),hm,F.kp,hb⟩
theorem zii {x:Str} {ps:List Str} {st:Stmt} {h:Heap} {f:Addr} {oc:Value} {od an:Option Addr} {osl:Array (Option Value)} {kV doc pm cdv ct:Value} (X:K.In h) (G:h.Ns mainGlobals mg)
  (a:PySem.W.nsIn K mainGlobals x = some (some (.ref f)))
  (l:K.lookup f = some ⟨oc,od,.func (PySem.W.fnOf x x (defArgs st) (defBody st) (defScope st) .none kV doc pm an cdv ct),osl⟩)
  (c:PySem.W.codeIn K cdv x = true) (k:PySem.W.keepIn K (.ref f) = true)
  (hb:∀ (kV doc pm:Value) (an:Option Addr) (cdv ct:Value) (us:List Value),us.length = ps.length→bindArgs (PySem.W.fnOf x x (defArgs st) (defBody st) (defScope st) .none kV doc pm an cdv ct) ⟨us,[]⟩ = pure (ps.zip us)):Df K mg x ps st:=by
 have F:=zgq (st:=st) l c k
 exact ⟨f,_,F,PySem.W.mg_of X G a,F.binds hb⟩
end
theorem bind1 {fd:FuncData} {ps:List Str} (h:∀ a0,bindArgs fd ⟨[a0],[]⟩ = pure (ps.zip [a0])) (us:List Value) (e:us.length = 1):bindArgs fd ⟨us,[]⟩ = pure (ps.zip us):=by
 match us,e with | [a0],_=>exact h a0
theorem bind2 {fd:FuncData} {ps:List Str} (h:∀ a0 a1,bindArgs fd ⟨[a0,a1],[]⟩ = pure (ps.zip [a0,a1])) (us:List Value) (e:us.length = 2):bindArgs fd ⟨us,[]⟩ = pure (ps.zip us):=by
 match us,e with | [a0,a1],_=>exact h a0 a1
theorem bind3 {fd:FuncData} {ps:List Str} (h:∀ a0 a1 a2,bindArgs fd ⟨[a0,a1,a2],[]⟩ = pure (ps.zip [a0,a1,a2])) (us:List Value) (e:us.length = 3):bindArgs fd ⟨us,[]⟩ = pure (ps.zip us):=by
 match us,e with | [a0,a1,a2],_=>exact h a0 a1 a2
theorem bind4 {fd:FuncData} {ps:List Str} (h:∀ a0 a1 a2 a3,bindArgs fd ⟨[a0,a1,a2,a3],[]⟩ = pure (ps.zip [a0,a1,a2,a3])) (us:List Value) (e:us.length = 4):bindArgs fd ⟨us,[]⟩ = pure (ps.zip us):=by
 match us,e with | [a0,a1,a2,a3],_=>exact h a0 a1 a2 a3
theorem bind5 {fd:FuncData} {ps:List Str} (h:∀ a0 a1 a2 a3 a4,bindArgs fd ⟨[a0,a1,a2,a3,a4],[]⟩ = pure (ps.zip [a0,a1,a2,a3,a4])) (us:List Value) (e:us.length = 5):bindArgs fd ⟨us,[]⟩ = pure (ps.zip us):=by
 match us,e with | [a0,a1,a2,a3,a4],_=>exact h a0 a1 a2 a3 a4
noncomputable def spLaw (K:PySem.W.Frag):Sp:=fun vs H Q _=>∃ (a:Addr) (ns:List Int),vs = [.ref a]∧SqL K H a (ns.map V.int)∧ns.length≤63∧∀ H',Q (.bl true) H'
theorem ze {H:Hp} {p:Addr} (h:H p = none) (o:HO):Same H (upd H p o):=fun b u q=>by rw [zJ (zY q h)]; exact q
theorem zhE {K:PySem.W.Frag} {mg:Str→Option Value} {st:Stmt} {h:Heap} {f fa:Addr} {oc:Value} {od an:Option Addr} {osl:Array (Option Value)} {kV doc pm cdv ct:Value} (X:K.In h) (G:h.Ns mainGlobals mg) (hmg:mg "law" = some (.ref fa))
  (a:PySem.W.nsIn K mainGlobals "law" = some (some (.ref f)))
  (l:K.lookup f = some ⟨oc,od,.func (PySem.W.fnOf "law" "law" (defArgs st) (defBody st) (defScope st) .none kV doc pm an cdv ct),osl⟩)
  (c:PySem.W.codeIn K cdv "law" = true) (k:PySem.W.keepIn K (.ref f) = true)
  (hb:∀ (kV doc pm:Value) (an:Option Addr) (cdv ct:Value) (v:Value),bindArgs (PySem.W.fnOf "law" "law" (defArgs st) (defBody st) (defScope st) .none kV doc pm an cdv ct) ⟨[v],[]⟩ = pure [(("_law_script" : Str),v)]) :
  ∃ fd:FuncData,Fun K "law" "law" st fa fd∧∀ (s:Shared) (v:Value),BindsTo s fd ⟨[v],[]⟩ [("_law_script",v)]:=by
 have e:=hmg.symm.trans (PySem.W.mg_of X G a)
 cases e
 exact ⟨_,zgq (st:=st) l c k,fun s v=>.of_eq (hb _ _ _ _ _ _ v)⟩
end L2
namespace L2
open PySem PySem.Spec PyProof.Rows
noncomputable def fragFrom:Nat→List Obj→PySem.W.Frag
 | _,[]=>[]
 | i,o :: r=>match o.data with
  | .freed=>fragFrom (i + 1) r
  | _=>(i,o) :: fragFrom (i + 1) r
noncomputable def fragH (h:Heap):PySem.W.Frag:=fragFrom 0 h.objs.toList
theorem YS:∀ (l:List Obj) (i a:Nat) (o:Obj),(fragFrom i l).lookup a = some o→∃ j,a = i + j∧l[j]? = some o∧(∀ c d sl,o≠⟨c,d,.freed,sl⟩)
 | [],i,a,o,h=>by cases h
 | p :: r,i,a,o,h=>by
  unfold fragFrom at h
  have go:(fragFrom (i + 1) r).lookup a = some o→∃ j,a = i + j∧(p :: r)[j]? = some o∧(∀ c d sl,o≠⟨c,d,.freed,sl⟩):=fun h=>by
   obtain ⟨j,e,e',n⟩:=YS r (i + 1) a o h
   exact ⟨j + 1,by omega,by simpa using e',n⟩
  split at h
  ·exact go h
  ·rename_i hf
   rw [List.lookup_cons] at h
   split at h
   ·rename_i e
    cases h
    have e:a = i:=by simpa using e
    exact ⟨0,by omega,by simp,fun c d sl e=>hf (by rw [e])⟩
   ·exact go h
theorem zfq (h:Heap):(fragH h).In h:=fun a o e=>by
 obtain ⟨j,rfl,e',n⟩:=YS _ _ _ _ e
 unfold Heap.get?
 have e'':h.objs[0 + j]? = some o:=by
  rw [Nat.zero_add]
  simpa using e'
 rw [e'']
 obtain ⟨c,d,dt,sl⟩:=o
 cases dt <;> first | rfl | exact absurd rfl (n _ _ _)
noncomputable def fnSh (K:PySem.W.Frag) (x:Str):Option (FuncData×Bool×Bool):=match PySem.W.nsIn K mainGlobals x with
 | some (some (.ref f))=>(match K.lookup f with
  | some ⟨_,_,.func fd,_⟩=>some ({ fd with kwdefaults:=.none,doc:=.none,pyModule:=.none,annotations:=none,code:=.none,closureTuple:=.none },PySem.W.codeIn K fd.code x,PySem.W.keepIn K (.ref f))
  | _=>none)
 | _=>none
noncomputable def fnEx (x:Str) (st:Stmt):Option (FuncData×Bool×Bool):=some (PySem.W.fnOf x x (defArgs st) (defBody st) (defScope st) .none .none .none .none none .none .none,true,true)
theorem zcR {K:PySem.W.Frag} {x:Str} {st:Stmt} (e:fnSh K x = fnEx x st):∃ (f:Addr) (oc:Value) (od an:Option Addr) (osl:Array (Option Value)) (kV doc pm cdv ct:Value),
  PySem.W.nsIn K mainGlobals x = some (some (.ref f))∧K.lookup f = some ⟨oc,od,.func (PySem.W.fnOf x x (defArgs st) (defBody st) (defScope st) .none kV doc pm an cdv ct),osl⟩ ∧
  PySem.W.codeIn K cdv x = true∧PySem.W.keepIn K (.ref f) = true:=by
 unfold fnSh fnEx at e
 split at e
 ·rename_i f hf
  split at e
  ·rename_i oc od fd osl hl
   obtain ⟨nm,qn,pa,bo,sc,gl,cl,de,kd,dc,pm,an,co,ct,bi⟩:=fd
   simp only [Option.some.injEq,Prod.mk.injEq,FuncData.mk.injEq] at e
   obtain ⟨⟨rfl,rfl,rfl,rfl,rfl,rfl,rfl,rfl,-,-,-,-,-,-,rfl⟩,e1,e2⟩:=e
   exact ⟨f,oc,od,an,osl,kd,dc,pm,co,ct,hf,hl,e1,e2⟩
  ·cases e
 ·cases e
noncomputable def ctSh (K:PySem.W.Frag) (x:Str):Option Int:=match PySem.W.nsIn K mainGlobals x with
 | some (some (.int i _))=>some i
 | _=>none
section
variable {K:PySem.W.Frag} {mg:Str→Option Value} {h:Heap}
theorem zZ {x:Str} {ps:List Str} {st:Stmt} (X:K.In h) (G:h.Ns mainGlobals mg) (e:fnSh K x = fnEx x st)
  (hb:∀ (kV doc pm:Value) (an:Option Addr) (cdv ct:Value) (us:List Value),us.length = ps.length→bindArgs (PySem.W.fnOf x x (defArgs st) (defBody st) (defScope st) .none kV doc pm an cdv ct) ⟨us,[]⟩ = pure (ps.zip us)):Df K mg x ps st:=by
 obtain ⟨f,oc,od,an,osl,kV,doc,pm,cdv,ct,a,l,c,k⟩:=zcR e
 exact zii X G a l c k hb
theorem zh1 {st:Stmt} {fa:Addr} (X:K.In h) (G:h.Ns mainGlobals mg) (hmg:mg "law" = some (.ref fa)) (e:fnSh K "law" = fnEx "law" st)
  (hb:∀ (kV doc pm:Value) (an:Option Addr) (cdv ct:Value) (v:Value),bindArgs (PySem.W.fnOf "law" "law" (defArgs st) (defBody st) (defScope st) .none kV doc pm an cdv ct) ⟨[v],[]⟩ = pure [(("_law_script" : Str),v)]) :
  ∃ fd:FuncData,Fun K "law" "law" st fa fd∧∀ (s:Shared) (v:Value),BindsTo s fd ⟨[v],[]⟩ [("_law_script",v)]:=by
 obtain ⟨f,oc,od,an,osl,kV,doc,pm,cdv,ct,a,l,c,k⟩:=zcR e
 exact zhE X G hmg a l c k hb
end
noncomputable def nth {α:Type}:List α→Nat→Option α
 | [],_=>none
 | a :: _,0=>some a
 | _ :: r,n + 1=>nth r n
theorem zF {α:Type} {l l':List α} (h:l = l') (n:Nat) {a b:α} (x:nth l n = some a) (y:nth l' n = some b):a = b:=by
 subst h
 exact Option.some.inj (x.symm.trans y)
noncomputable def lawOnly (p:Program):Program:={ p with main:={ p.main with body:=p.main.body.filter fun st=>match st with
 | .FunctionDef n ..=>n == ("law" : Str)
 | _=>false } }
noncomputable def looseOf (p:Program):List Str:=(p.main.scope.names.map (·.1)).filter fun n=>!(n == ("law" : Str))
noncomputable def lawRec (p:Program):DefRec:=match PySem.W.defOf (lawOnly p) "law" with
 | some (d,_)=>d
 | none=>⟨"law",{ posonlyargs:=[],args:=[],vararg:=none,kwonlyargs:=[],kw_defaults:=[],kwarg:=none,defaults:=[] },[],{ kind:=.function,names:=[],isGenerator:=false,isCoroutine:=false },default⟩
noncomputable def runT (p:Program) (N:Nat) (w:World) (os:OsState):Option Shared :=
 PySem.W.Fast.tw14082659384304107361 PySem.W.Fast.tw14364793385576792824 p w 11 (some (.ref 6)) N ⟨PySem.W.boot_heap w.params,#[],PySem.W.boot_drawn,PySem.W.boot_toks,os⟩ (PySem.W.topStub p)
noncomputable def statT (p:Program) (w:World) (s₁:Shared):Bool:=PySem.W.staticsOk (importedModules p.main.body) (PySem.W.boot_heap w.params) s₁.heap && PySem.W.namesBound p s₁.heap && PySem.W.gensDone s₁ && PySem.W.laidKept (PySem.W.boot_heap w.params) s₁.heap
noncomputable def seenT (p:Program) (s:Shared):=PySem.W.Fast.tw4187177175401517315 (lawOnly p) (looseOf p) (importedModules p.main.body) (fun _=>true) true s
structure Behind {β:Type} (p:Program) (N:Nat) (lk:PySem.W.Frag→β) (val:β):Prop where
 st:∀ (w:World) (os:OsState),(runT p N w os).map (statT p w) = some true
 sn:∀ (w:World) (os:OsState),(runT p N w os).map (seenT p) = some (PySem.W.openGood (lawOnly p) (looseOf p))
 lk:∀ (w:World) (os:OsState),(runT p N w os).map (fun s=>lk (fragH s.heap)) = some val
theorem zdL (w:World):((PySem.W.boot_heap w.params).isNs mainGlobals && (#[]:Array GenState).size == 0) = true∧(PySem.W.boot_heap w.params).objs.size = 11∧(PySem.W.boot_heap w.params).nsMap mainGlobals "__annotations__" = some (.ref 6):=by
 refine ⟨?_,?_,?_⟩
 ·kernel_rfl
 ·kernel_rfl
 ·rw [PySem.W.Fast.te8920871248978507458]; kernel_rfl
theorem zd6 {β:Type} {p:Program} {N:Nat} {lk:PySem.W.Frag→β} {val:β} (e:PySem.W.opening p = PySem.W.plainProg p.main.scope.names) (hN:Nat.ble 600 N = true) (f:∀ s,fenceModules? p s = some s)
  (h:Behind p N lk val) :
  PySem.W.LeftO p (lawOnly p) (looseOf p) (fun _=>true) (fun s=>lk (fragH s.heap)) (fun _=>val) N:=fun w=>by
 obtain ⟨⟨hp,gs,d,k,os⟩,e1,e2⟩:=Option.map_eq_some_iff.mp (PySem.W.boot_open e hN f w)
 obtain ⟨rfl,rfl,rfl,rfl⟩ : hp = PySem.W.boot_heap w.params∧gs = #[]∧d = PySem.W.boot_drawn∧k = PySem.W.boot_toks:=by simpa using e2
 obtain ⟨z1,z2,z3⟩:=zdL w
 have zs:=h.st w os
 have zn:=h.sn w os
 have zl:=h.lk w os
 unfold seenT at zn
 unfold runT at zs zn zl
 rw [← PySem.W.Fast.te14082659384304107361,← PySem.W.Fast.te14364793385576792824] at zs zn zl
 rw [← PySem.W.Fast.te4187177175401517315] at zn
 obtain ⟨s₁,er,es⟩:=Option.map_eq_some_iff.mp zs
 rw [er] at zn zl
 unfold statT at es
 unfold PySem.W.openEnds
 rw [e1]
 show (PySem.W.topFrom treeTable p w N _).map _ = _
 unfold PySem.W.topFrom
 dsimp only
 rw [z1,z2,z3,er]
 show ((match PySem.W.staticsOk (importedModules p.main.body) (PySem.W.boot_heap w.params) s₁.heap && PySem.W.namesBound p s₁.heap && PySem.W.gensDone s₁ && PySem.W.laidKept (PySem.W.boot_heap w.params) s₁.heap with | true=>some s₁ | false=>none).map _:Option _) = _
 rw [es]
 exact congrArg some (Prod.ext (Option.some.inj zn) (Option.some.inj zl))
theorem zcw {β:Type} {l:PySem.W.OpenLaw} (k N:Nat) (lk:PySem.W.Frag→β) (val:β) (ws:PySem.W.Fast.tw9446332074065402090 l = true) (hl:l.name = "law") (hn:l.most = some 63) (hwr:l.writes = false)
  (e:PySem.W.opening l.prog = PySem.W.plainProg l.prog.main.scope.names) (hN:Nat.ble 600 N = true) (f:∀ s,fenceModules? l.prog s = some s)
  (h:Behind l.prog N lk val)
  (hd:PySem.W.defOf (lawOnly l.prog) "law" = some (lawRec l.prog,[])) (hp:l.prog.theDef "law" = some ((lawRec l.prog).params,(lawRec l.prog).body,(lawRec l.prog).scope))
  (hk:PySem.W.kwWritten? (lawRec l.prog).params.kwonlyargs (lawRec l.prog).params.kw_defaults = some []) (hdf:(lawRec l.prog).params.defaults = []) (hnm:(lawRec l.prog).name = "law")
  (ok:(PySem.W.chainsOk (lawOnly l.prog) && PySem.W.opensWell l.prog && (PySem.W.frees l.row.toRowW && l.row.within.isEmpty)) = true) (hb:l.prog.bare) (hw:l.row.toRowW.promised) (hi:PyProof.Rows.importsNone (lawOnly l.prog) = true) (hr:Room k callerA)
  (F:∀ (w:World) (mg:Str→Option Value) (fa:Addr) (h:Heap) (K:PySem.W.Frag),K.In h→lk K = val→h.Ns mainGlobals mg→mg "law" = some (.ref fa) →
   ∃ fd:FuncData,(∀ (s:Shared) (u:Value),BindsTo s fd ⟨[u],[]⟩ [("_law_script",u)])∧∀ base:Heap,K.In base→base.Ns mainGlobals mg→base.NoSeer→FnOk l.prog w K mg base CX0 k fa fd ["_law_script"] (spLaw K)):l.Holds:=by
 rw [← PySem.W.Fast.te9446332074065402090] at ws
 refine PySem.W.holds_law ws fun said=>?_
 have hl':l.row.toRowW.name = "law" := hl
 refine PySem.W.holds_open (r:=l.row) (q:=lawOnly l.prog) (loose:=looseOf l.prog) (Xt:=fun _=>true) (XP:=fun _ _=>True) (Yf:=fun s=>lk (fragH s.heap)) (Ya:=fun _=>val)
  (YP:=fun _ h=>∃ K:PySem.W.Frag,K.In h∧lk K = val) (d:=lawRec l.prog) (kwd:=[]) (N:=N) (zd6 e hN f h) (fun w s e=>⟨_,zfq _,e⟩) (fun w h h' y kp=>?_) (fun _ _=>True.intro) (fun _ _ _ _ _=>True.intro)
  (by rw [hl']; exact hd) (by rw [hl']; exact hp) hk (fun s _=>PySem.W.recFacts_of (R:=[]) rfl) ?_ said ok hb hw ?_
 ·obtain ⟨K,i,q⟩:=y
  exact ⟨K,i.keeps kp,q⟩
 ·show (!l.writes || _) = true
  rw [hwr]; rfl
 ·refine Att.za5 hn hdf fun w s₀ s₁ mg mb fa o pm cd doc a vs ns G Y ho hd hcd hmg hobj hints hlen hg=>?_
  obtain ⟨K,KX,q⟩:=Y
  rw [hnm] at hmg
  obtain ⟨fd,hb,hF⟩:=F w mg fa _ K KX q G.T.g hmg
  exact ze5 KX G.T.g G.T.b G.T.builtins G.T.nolimit (G.T.seer hi) hg hobj hints (Nat.le_trans hlen (by decide)) hr hF hb (fun H hO hS=>⟨a,ns,rfl,hS,hlen,fun _=>rfl⟩) fun H e s' z=>z
end L2
namespace KL
open PySem PySem.Spec PyProof.Rows L2
set_option maxHeartbeats 4000000
noncomputable def top (i:Nat):Stmt:=PySem.Challenge.pw_steermill_k87_whole_cheapest.main.body.getD i (.Pass ⟨0,0,0,0⟩)
noncomputable abbrev yI:Stmt:=top 1
theorem sc_common_divisor:FnScope ["one", "other", "left", "right", "rest"] ["one", "other"] (defScope yI):=⟨rfl,rfl,rfl,by decide +kernel,rfl,by decide +kernel,by decide +kernel⟩
noncomputable abbrev qF:Stmt:=top 2
theorem sc_fraction:FnScope ["top", "bottom", "divisor"] ["top", "bottom"] (defScope qF):=⟨rfl,rfl,rfl,by decide +kernel,rfl,by decide +kernel,by decide +kernel⟩
noncomputable abbrev qC:Stmt:=top 3
theorem sc_one_over:FnScope ["prime", "rest", "left", "right", "many_left", "many_right", "whole", "less", "many_less"] ["prime", "rest"] (defScope qC):=⟨rfl,rfl,rfl,by decide +kernel,rfl,by decide +kernel,by decide +kernel⟩
noncomputable abbrev Yu:Stmt:=top 4
theorem zd4:FnScope ["kind", "whole"] ["kind", "whole"] (defScope Yu):=⟨rfl,rfl,rfl,by decide +kernel,rfl,by decide +kernel,by decide +kernel⟩
noncomputable abbrev JY:Stmt:=top 5
theorem ze3:FnScope ["kind", "one", "other"] ["kind", "one", "other"] (defScope JY):=⟨rfl,rfl,rfl,by decide +kernel,rfl,by decide +kernel,by decide +kernel⟩
noncomputable abbrev zbr:Stmt:=top 6
theorem zhp:FnScope ["kind", "one", "other"] ["kind", "one", "other"] (defScope zbr):=⟨rfl,rfl,rfl,by decide +kernel,rfl,by decide +kernel,by decide +kernel⟩
noncomputable abbrev Yv:Stmt:=top 8
theorem sc_scaled:FnScope ["kind", "row", "bottom", "part"] ["kind", "row"] (defScope Yv):=⟨rfl,rfl,rfl,by decide +kernel,rfl,by decide +kernel,by decide +kernel⟩
noncomputable abbrev qt:Stmt:=top 9
theorem zaQ:FnScope ["kind", "top", "bottom"] ["kind", "top", "bottom"] (defScope qt):=⟨rfl,rfl,rfl,by decide +kernel,rfl,by decide +kernel,by decide +kernel⟩
noncomputable abbrev jN:Stmt:=top 10
theorem zad:FnScope ["one", "other"] ["one", "other"] (defScope jN):=⟨rfl,rfl,rfl,by decide +kernel,rfl,by decide +kernel,by decide +kernel⟩
noncomputable abbrev yE:Stmt:=top 11
theorem qX:FnScope ["kind", "one", "other"] ["kind", "one", "other"] (defScope yE):=⟨rfl,rfl,rfl,by decide +kernel,rfl,by decide +kernel,by decide +kernel⟩
noncomputable abbrev JA:Stmt:=top 12
theorem sc_eased:FnScope ["kind", "wholes", "divisor", "whole"] ["kind", "wholes"] (defScope JA):=⟨rfl,rfl,rfl,by decide +kernel,rfl,by decide +kernel,by decide +kernel⟩
noncomputable abbrev Zm:Stmt:=top 13
theorem zb7:FnScope ["kind", "row", "lead_row", "column"] ["kind", "row", "lead_row", "column"] (defScope Zm):=⟨rfl,rfl,rfl,by decide +kernel,rfl,by decide +kernel,by decide +kernel⟩
noncomputable abbrev Qa:Stmt:=top 14
theorem sc_swept:FnScope ["kind", "rows", "done", "waiting", "width", "column", "leading", "lead_row"] ["kind", "rows"] (defScope Qa):=⟨rfl,rfl,rfl,by decide +kernel,rfl,by decide +kernel,by decide +kernel⟩
noncomputable abbrev Zf:Stmt:=top 16
theorem zcF:FnScope ["kind", "width"] ["kind", "width"] (defScope Zf):=⟨rfl,rfl,rfl,by decide +kernel,rfl,by decide +kernel,by decide +kernel⟩
noncomputable abbrev yZ:Stmt:=top 17
theorem Xg:FnScope ["kind", "rows", "columns"] ["kind", "rows", "columns"] (defScope yZ):=⟨rfl,rfl,rfl,by decide +kernel,rfl,by decide +kernel,by decide +kernel⟩
noncomputable abbrev xO:Stmt:=top 18
theorem Qn:FnScope ["kind", "one", "other"] ["kind", "one", "other"] (defScope xO):=⟨rfl,rfl,rfl,by decide +kernel,rfl,by decide +kernel,by decide +kernel⟩
noncomputable abbrev Zb:Stmt:=top 19
theorem zcD:FnScope ["one", "other"] ["one", "other"] (defScope Zb):=⟨rfl,rfl,rfl,by decide +kernel,rfl,by decide +kernel,by decide +kernel⟩
noncomputable abbrev Yo:Stmt:=top 20
theorem zdp:FnScope ["table"] ["table"] (defScope Yo):=⟨rfl,rfl,rfl,by decide +kernel,rfl,by decide +kernel,by decide +kernel⟩
noncomputable abbrev Zl:Stmt:=top 21
theorem sc_product:FnScope ["kind", "one", "other", "columns", "told", "row", "left"] ["kind", "one", "other"] (defScope Zl):=⟨rfl,rfl,rfl,by decide +kernel,rfl,by decide +kernel,by decide +kernel⟩
noncomputable abbrev Qr:Stmt:=top 22
theorem sc_image:FnScope ["kind", "table", "row", "right"] ["kind", "table", "row"] (defScope Qr):=⟨rfl,rfl,rfl,by decide +kernel,rfl,by decide +kernel,by decide +kernel⟩
noncomputable abbrev Zc:Stmt:=top 23
theorem sc_lead_of:FnScope ["kind", "row", "nought", "place"] ["kind", "row"] (defScope Zc):=⟨rfl,rfl,rfl,by decide +kernel,rfl,by decide +kernel,by decide +kernel⟩
noncomputable abbrev jH:Stmt:=top 24
theorem sc_over_lead:FnScope ["kind", "wholes", "lead"] ["kind", "wholes"] (defScope jH):=⟨rfl,rfl,rfl,by decide +kernel,rfl,by decide +kernel,by decide +kernel⟩
noncomputable abbrev qY:Stmt:=top 25
theorem sc_reduced:FnScope ["kind", "rows", "wholes"] ["kind", "rows"] (defScope qY):=⟨rfl,rfl,rfl,by decide +kernel,rfl,by decide +kernel,by decide +kernel⟩
noncomputable abbrev yU:Stmt:=top 26
theorem sc_some_solution:FnScope ["kind", "table", "row", "width", "told", "line", "place"] ["kind", "table", "row"] (defScope yU):=⟨rfl,rfl,rfl,by decide +kernel,rfl,by decide +kernel,by decide +kernel⟩
noncomputable abbrev Ys:Stmt:=top 27
theorem sc_solved:FnScope ["kind", "table", "row", "found", "goal"] ["kind", "table", "row"] (defScope Ys):=⟨rfl,rfl,rfl,by decide +kernel,rfl,by decide +kernel,by decide +kernel⟩
noncomputable abbrev qW:Stmt:=top 29
theorem zcx:FnScope ["kind", "machine", "standing"] ["kind", "machine", "standing"] (defScope qW):=⟨rfl,rfl,rfl,by decide +kernel,rfl,by decide +kernel,by decide +kernel⟩
noncomputable abbrev jc:Stmt:=top 31
theorem sc_left_to_go:FnScope ["kind", "machine", "start", "goal", "turns", "here", "turn"] ["kind", "machine", "start", "goal", "turns"] (defScope jc):=⟨rfl,rfl,rfl,by decide +kernel,rfl,by decide +kernel,by decide +kernel⟩
noncomputable abbrev qA:Stmt:=top 32
theorem sc_moved_by:FnScope ["kind", "machine", "turns", "told", "block", "turn"] ["kind", "machine", "turns"] (defScope qA):=⟨rfl,rfl,rfl,by decide +kernel,rfl,by decide +kernel,by decide +kernel⟩
noncomputable abbrev Zg:Stmt:=top 33
theorem sc_in_turn:FnScope ["strung_out", "hands", "last_first"] ["strung_out", "hands"] (defScope Zg):=⟨rfl,rfl,rfl,by decide +kernel,rfl,by decide +kernel,by decide +kernel⟩
noncomputable abbrev JI:Stmt:=top 34
theorem sc_steer:FnScope ["kind", "machine", "start", "goal", "turns", "hands", "used", "answer"] ["kind", "machine", "start", "goal", "turns"] (defScope JI):=⟨rfl,rfl,rfl,by decide +kernel,rfl,by decide +kernel,by decide +kernel⟩
noncomputable abbrev qB:Stmt:=top 36
theorem sc_cheapest:FnScope ["machine", "start", "goal", "turns", "moved", "answer", "inputs"] ["machine", "start", "goal", "turns"] (defScope qB):=⟨rfl,rfl,rfl,by decide +kernel,rfl,by decide +kernel,by decide +kernel⟩
noncomputable abbrev xV:Stmt:=top 38
theorem Qq:FnScope ["_law_found"] ["_law_found"] (defScope xV):=⟨rfl,rfl,rfl,by decide +kernel,rfl,by decide +kernel,by decide +kernel⟩
noncomputable abbrev xl:Stmt:=top 39
theorem sc__law_divisor:FnScope ["_law_one", "_law_other"] ["_law_one", "_law_other"] (defScope xl):=⟨rfl,rfl,rfl,by decide +kernel,rfl,by decide +kernel,by decide +kernel⟩
noncomputable abbrev xS:Stmt:=top 40
theorem sc__law_mixed:FnScope ["_law_cell", "_law_k", "_law_left", "_law_j", "_law_one"] ["_law_cell", "_law_k"] (defScope xS):=⟨rfl,rfl,rfl,by decide +kernel,rfl,by decide +kernel,by decide +kernel⟩
noncomputable abbrev xX:Stmt:=top 41
theorem Jq:FnScope ["_law_prime_here", "_law_cell"] ["_law_prime_here", "_law_cell"] (defScope xX):=⟨rfl,rfl,rfl,by decide +kernel,rfl,by decide +kernel,by decide +kernel⟩
noncomputable abbrev yR:Stmt:=top 42
theorem sc__law_fraction:FnScope ["_law_top", "_law_bottom", "_law_by"] ["_law_top", "_law_bottom"] (defScope yR):=⟨rfl,rfl,rfl,by decide +kernel,rfl,by decide +kernel,by decide +kernel⟩
noncomputable abbrev jv:Stmt:=top 43
theorem zaw:FnScope ["_law_prime_here", "_law_whole_here"] ["_law_prime_here", "_law_whole_here"] (defScope jv):=⟨rfl,rfl,rfl,by decide +kernel,rfl,by decide +kernel,by decide +kernel⟩
noncomputable abbrev jP:Stmt:=top 44
theorem QF:FnScope ["_law_prime_here", "_law_one", "_law_other"] ["_law_prime_here", "_law_one", "_law_other"] (defScope jP):=⟨rfl,rfl,rfl,by decide +kernel,rfl,by decide +kernel,by decide +kernel⟩
noncomputable abbrev xW:Stmt:=top 45
theorem Ju:FnScope ["_law_prime_here", "_law_one", "_law_other"] ["_law_prime_here", "_law_one", "_law_other"] (defScope xW):=⟨rfl,rfl,rfl,by decide +kernel,rfl,by decide +kernel,by decide +kernel⟩
noncomputable abbrev jb:Stmt:=top 46
theorem Qg:FnScope ["_law_prime_here", "_law_one", "_law_other"] ["_law_prime_here", "_law_one", "_law_other"] (defScope jb):=⟨rfl,rfl,rfl,by decide +kernel,rfl,by decide +kernel,by decide +kernel⟩
noncomputable abbrev yG:Stmt:=top 47
theorem ZJ:FnScope ["_law_prime_here", "_law_found"] ["_law_prime_here", "_law_found"] (defScope yG):=⟨rfl,rfl,rfl,by decide +kernel,rfl,by decide +kernel,by decide +kernel⟩
noncomputable abbrev ja:Stmt:=top 48
theorem sc__law_image:FnScope ["_law_prime_here", "_law_table", "_law_column", "_law_told", "_law_row", "_law_one", "_law_j"] ["_law_prime_here", "_law_table", "_law_column"] (defScope ja):=⟨rfl,rfl,rfl,by decide +kernel,rfl,by decide +kernel,by decide +kernel⟩
noncomputable abbrev xA:Stmt:=top 49
theorem XF:FnScope ["_law_table"] ["_law_table"] (defScope xA):=⟨rfl,rfl,rfl,by decide +kernel,rfl,by decide +kernel,by decide +kernel⟩
noncomputable abbrev xy:Stmt:=top 51
theorem sc__law_is_row:FnScope ["_law_prime_here", "_law_found", "_law_many", "_law_one"] ["_law_prime_here", "_law_found", "_law_many"] (defScope xy):=⟨rfl,rfl,rfl,by decide +kernel,rfl,by decide +kernel,by decide +kernel⟩
noncomputable abbrev xh:Stmt:=top 52
theorem YQ:FnScope ["_law_prime_here", "_law_found", "_law_rows", "_law_columns_here"] ["_law_prime_here", "_law_found", "_law_rows", "_law_columns_here"] (defScope xh):=⟨rfl,rfl,rfl,by decide +kernel,rfl,by decide +kernel,by decide +kernel⟩
noncomputable abbrev yN:Stmt:=top 53
theorem sc__law_prime:FnScope ["_law_cell", "_law_primes"] ["_law_cell"] (defScope yN):=⟨rfl,rfl,rfl,by decide +kernel,rfl,by decide +kernel,by decide +kernel⟩
noncomputable abbrev Zi:Stmt:=top 54
theorem zcj:FnScope ["_law_prime_here", "_law_cells", "_law_k"] ["_law_prime_here", "_law_cells", "_law_k"] (defScope Zi):=⟨rfl,rfl,rfl,by decide +kernel,rfl,by decide +kernel,by decide +kernel⟩
noncomputable abbrev xQ:Stmt:=top 55
theorem sc__law_small:FnScope ["_law_prime_here", "_law_cells", "_law_k", "_law_one"] ["_law_prime_here", "_law_cells", "_law_k"] (defScope xQ):=⟨rfl,rfl,rfl,by decide +kernel,rfl,by decide +kernel,by decide +kernel⟩
noncomputable abbrev xM:Stmt:=top 56
theorem JC:FnScope ["_law_head", "_law_n", "_law_plain"] ["_law_head", "_law_n", "_law_plain"] (defScope xM):=⟨rfl,rfl,rfl,by decide +kernel,rfl,by decide +kernel,by decide +kernel⟩
noncomputable abbrev jw:Stmt:=top 57
theorem zas:FnScope ["_law_row", "_law_column"] ["_law_row", "_law_column"] (defScope jw):=⟨rfl,rfl,rfl,by decide +kernel,rfl,by decide +kernel,by decide +kernel⟩
noncomputable abbrev xb:Stmt:=top 58
theorem sc__law_blocked:FnScope ["_law_prime_here", "_law_cells", "_law_sizes", "_law_sorts_here", "_law_n", "_law_m", "_law_q", "_law_nought", "_law_tables", "_law_at_here", "_law_rows", "_law_columns_here", "_law_told", "_law_i", "_law_j", "_law_row"] ["_law_prime_here", "_law_cells", "_law_sizes", "_law_sorts_here"] (defScope xb):=⟨rfl,rfl,rfl,by decide +kernel,rfl,by decide +kernel,by decide +kernel⟩
noncomputable abbrev yH:Stmt:=top 59
theorem sc__law_exchanged:FnScope ["_law_prime_here", "_law_tables", "_law_cell", "_law_n", "_law_i", "_law_j", "_law_c", "_law_table", "_law_hands", "_law_sights", "_law_some", "_law_row"] ["_law_prime_here", "_law_tables", "_law_cell"] (defScope yH):=⟨rfl,rfl,rfl,by decide +kernel,rfl,by decide +kernel,by decide +kernel⟩
noncomputable abbrev xg:Stmt:=top 60
theorem sc__law_machine:FnScope ["_law_cells", "_law_most", "_law_head", "_law_prime_here", "_law_sizes", "_law_plain", "_law_tables", "_law_at_here", "_law_k"] ["_law_cells", "_law_most"] (defScope xg):=⟨rfl,rfl,rfl,by decide +kernel,rfl,by decide +kernel,by decide +kernel⟩
noncomputable abbrev jR:Stmt:=top 61
theorem QR:FnScope ["_law_machine_here"] ["_law_machine_here"] (defScope jR):=⟨rfl,rfl,rfl,by decide +kernel,rfl,by decide +kernel,by decide +kernel⟩
noncomputable abbrev jQ:Stmt:=top 62
theorem sc__law_next:FnScope ["_law_prime_here", "_law_machine_here", "_law_standing_here", "_law_inputs", "_law_one"] ["_law_prime_here", "_law_machine_here", "_law_standing_here", "_law_inputs"] (defScope jQ):=⟨rfl,rfl,rfl,by decide +kernel,rfl,by decide +kernel,by decide +kernel⟩
noncomputable abbrev yP:Stmt:=top 63
theorem Ym:FnScope ["_law_prime_here", "_law_cells", "_law_at_here", "_law_n"] ["_law_prime_here", "_law_cells", "_law_at_here", "_law_n"] (defScope yP):=⟨rfl,rfl,rfl,by decide +kernel,rfl,by decide +kernel,by decide +kernel⟩
noncomputable abbrev xf:Stmt:=top 64
theorem sc__law_columns:FnScope ["_law_machine_here", "_law_turns", "_law_told", "_law_there", "_law_k"] ["_law_machine_here", "_law_turns"] (defScope xf):=⟨rfl,rfl,rfl,by decide +kernel,rfl,by decide +kernel,by decide +kernel⟩
noncomputable abbrev ji:Stmt:=top 65
theorem sc__law_det:FnScope ["_law_rows", "_law_told", "_law_j", "_law_part"] ["_law_rows"] (defScope ji):=⟨rfl,rfl,rfl,by decide +kernel,rfl,by decide +kernel,by decide +kernel⟩
noncomputable abbrev xa:Stmt:=top 66
theorem sc__law_noughts:FnScope ["_law_columns_here", "_law_start", "_law_n", "_law_told", "_law_k", "_law_others"] ["_law_columns_here", "_law_start", "_law_n"] (defScope xa):=⟨rfl,rfl,rfl,by decide +kernel,rfl,by decide +kernel,by decide +kernel⟩
noncomputable abbrev qG:Stmt:=top 67
theorem sc__law_sum:FnScope ["_law_one", "_law_other", "_law_told", "_law_x", "_law_y"] ["_law_one", "_law_other"] (defScope qG):=⟨rfl,rfl,rfl,by decide +kernel,rfl,by decide +kernel,by decide +kernel⟩
noncomputable abbrev xT:Stmt:=top 68
theorem sc__law_right:FnScope ["_law_machine_here", "_law_start", "_law_goal", "_law_turns", "_law_sure", "_law_handed", "_law_told", "_law_n", "_law_row", "_law_there", "_law_one", "_law_columns_here"] ["_law_machine_here", "_law_start", "_law_goal", "_law_turns", "_law_sure"] (defScope xT):=⟨rfl,rfl,rfl,by decide +kernel,rfl,by decide +kernel,by decide +kernel⟩
noncomputable abbrev zfs:Stmt:=top 69
theorem sc_law:FnScope ["_law_script", "_law_cells", "_law_prime_here", "_law_machine_here", "_law_at_here", "_law_n", "_law_m", "_law_turns", "_law_start", "_law_there", "_law_k"] ["_law_script"] (defScope zfs):=⟨rfl,rfl,rfl,by decide +kernel,rfl,by decide +kernel,by decide +kernel⟩
end KL
namespace KL
open PySem PySem.Spec PyProof.Rows L2
noncomputable abbrev hx (x:Str) (s:Stmt):Str×Stmt:=(x,s)
noncomputable def hdX:List (Str×Stmt):=[hx "common_divisor" yI,hx "fraction" qF,hx "one_over" qC,hx "number" Yu,hx "minus" JY,hx "over" zbr,hx "scaled" Yv,hx "quotient" qt,hx "whole_sum" jN,hx "sum_of_products" yE,hx "eased" JA,hx "cleared" Zm,hx "swept" Qa,hx "noughts" Zf,hx "nought_table" yZ,hx "difference" xO,hx "abreast" Zb,hx "turned" Yo,hx "product" Zl,hx "image" Qr,hx "lead_of" Zc,hx "over_lead" jH,hx "reduced" qY,hx "some_solution" yU,hx "solved" Ys,hx "drifted" qW,hx "left_to_go" jc,hx "moved_by" qA,hx "in_turn" Zg,hx "steer" JI,hx "cheapest" qB,hx "_law_whole" xV,hx "_law_divisor" xl,hx "_law_mixed" xS,hx "_law_drawn" xX,hx "_law_fraction" yR,hx "_law_make" jv,hx "_law_plus" jP,hx "_law_times" xW,hx "_law_minus" jb,hx "_law_is_number" yG,hx "_law_image" ja,hx "_law_across" xA,hx "_law_is_row" xy,hx "_law_is_rows" xh,hx "_law_prime" yN,hx "_law_at" Zi,hx "_law_small" xQ,hx "_law_sorts" xM,hx "_law_lets" jw,hx "_law_blocked" xb,hx "_law_exchanged" yH,hx "_law_machine" xg,hx "_law_copy" jR,hx "_law_next" jQ,hx "_law_standing" yP,hx "_law_columns" xf,hx "_law_det" ji,hx "_law_noughts" xa,hx "_law_sum" qG,hx "_law_right" xT,hx "law" zfs]
noncomputable def hdY:List Str:=["abs", "all", "bool", "int", "isinstance", "len", "list", "min", "range", "reversed", "sorted", "str", "sum", "tuple", "zip"]
noncomputable def hdZ:List Str:=[]
noncomputable def hdC:List Str:=[]
noncomputable def lk (K:PySem.W.Frag):List (Option (FuncData×Bool×Bool))×List (Option (Option Value))×List (Option Addr)×List (Option Int):=(hdX.map fun x=>fnSh K x.1,hdY.map (PySem.W.nsIn K mainGlobals),hdZ.map (fun _=>none),hdC.map (ctSh K))
noncomputable def lv:List (Option (FuncData×Bool×Bool))×List (Option (Option Value))×List (Option Addr)×List (Option Int):=(hdX.map fun x=>fnEx x.1 x.2,hdY.map fun _=>some none,hdZ.map fun _=>none,[])
theorem h_ws:PySem.W.Fast.tw9446332074065402090 PySem.Challenge.rw_steermill_k87_whole_cheapest = true:=by kernel_rfl
theorem h_st (w:World) (os:OsState):(runT PySem.Challenge.rw_steermill_k87_whole_cheapest.prog 2900 w os).map (statT PySem.Challenge.rw_steermill_k87_whole_cheapest.prog w) = some true:=by kernel_rfl
theorem h_sn (w:World) (os:OsState):(runT PySem.Challenge.rw_steermill_k87_whole_cheapest.prog 2900 w os).map (seenT PySem.Challenge.rw_steermill_k87_whole_cheapest.prog) = some (PySem.W.openGood (lawOnly PySem.Challenge.rw_steermill_k87_whole_cheapest.prog) (looseOf PySem.Challenge.rw_steermill_k87_whole_cheapest.prog)):=by kernel_rfl
theorem h_lk (w:World) (os:OsState):(runT PySem.Challenge.rw_steermill_k87_whole_cheapest.prog 2900 w os).map (fun s=>lk (fragH s.heap)) = some lv:=by kernel_rfl
end KL
namespace Nm
inductive Nb where
 | q (r:Rat)
 | z (i:Int)
 deriving DecidableEq
noncomputable def Nb.ok (k:Int):Nb→Prop
 | .q _=>k = 0
 | .z i=>k≠0∧0≤i∧i < k
noncomputable def zinv (k b:Int):Int:=(((List.range k.toNat).find? fun (x:Nat)=>decide (k ∣ (x:Int) * b - 1)).getD 0:Nat)
theorem zcb {k b x y:Int} (hx0:0≤x) (hx:x < k) (hy0:0≤y) (hy:y < k) (h1:k ∣ x * b - 1) (h2:k ∣ y * b - 1):x = y:=by
 have h:k ∣ x - y:=by
  have e:x - y = y * (x * b - 1) - x * (y * b - 1):=by grind
  rw [e]
  exact Int.dvd_sub (Int.dvd_mul_of_dvd_right h1) (Int.dvd_mul_of_dvd_right h2)
 obtain ⟨c,hc⟩:=h
 rcases Int.lt_or_le c 0 with h | h
 ·have:k * c≤k * (-1):=Int.mul_le_mul_of_nonneg_left (by omega) (by omega)
  omega
 ·rcases Int.lt_or_le 0 c with h' | h'
  ·have:k * 1≤k * c:=Int.mul_le_mul_of_nonneg_left (by omega) (by omega)
   omega
  ·have:c = 0:=by omega
   rw [this,Int.mul_zero] at hc
   omega
theorem zdn {k b x:Int} (h0:0≤x) (h1:x < k) (h:k ∣ x * b - 1):zinv k b = x:=by
 unfold zinv
 cases e:(List.range k.toNat).find? fun (x:Nat)=>decide (k ∣ (x:Int) * b - 1) with
 | none =>
  rw [List.find?_eq_none] at e
  have:=e x.toNat (by rw [List.mem_range]; omega)
  rw [show ((x.toNat:Nat):Int) = x by omega] at this
  simp [h] at this
 | some y =>
  have hm:=List.mem_of_find?_eq_some e
  rw [List.mem_range] at hm
  have hp:=List.find?_some e
  have hp':k ∣ (y:Int) * b - 1:=by simpa using hp
  show ((y:Nat):Int) = x
  exact zcb (Int.natCast_nonneg y) (by omega) h0 h1 hp' h
theorem zf6 {p r:Int} (hp:0 < p):∀ (n:Nat) (l g ml mg:Int),g.toNat < n→OvInv p r l g ml mg→∃ x,0≤x∧x < p∧p ∣ x * r - 1
 | 0,_,_,_,_,h,_=>absurd h (Nat.not_lt_zero _)
 | n + 1,l,g,ml,mg,h,I=>by
  by_cases z:g = 0
  ·subst z
   exact ⟨ml % p,Int.emod_nonneg _ (by omega),Int.emod_lt_of_pos _ hp,zf8 I hp⟩
  ·exact zf6 hp n _ _ _ _ (Nat.lt_of_lt_of_le (zdo I.g0 z) (by omega)) (zcL I z)
theorem XN {k b:Int} (h:Pr k) (h0:0 < b) (h1:b < k):∃ x,0≤x∧x < k∧k ∣ x * b - 1 :=
 zf6 (by have:=h.lo; omega) _ _ _ _ _ (Nat.lt_succ_self _) (zbV h h0 h1)
noncomputable def nnum (k w:Int):Nb:=if k = 0 then .q (w:Rat) else .z (w.fmod k)
noncomputable def nadd (k:Int):Nb→Nb→Nb
 | .q a,.q b=>.q (a + b)
 | .z a,.z b=>.z ((a + b).fmod k)
 | _,_=>.z 0
noncomputable def nsub (k:Int):Nb→Nb→Nb
 | .q a,.q b=>.q (a - b)
 | .z a,.z b=>.z ((a - b).fmod k)
 | _,_=>.z 0
noncomputable def nmul (k:Int):Nb→Nb→Nb
 | .q a,.q b=>.q (a * b)
 | .z a,.z b=>.z ((a * b).fmod k)
 | _,_=>.z 0
noncomputable def ndiv (k:Int):Nb→Nb→Nb
 | .q a,.q b=>.q (a / b)
 | .z a,.z b=>.z ((a * zinv k b).fmod k)
 | _,_=>.z 0
theorem ZW (k a:Int):k ∣ a.fmod k - a:=by
 rw [Int.fmod_def]
 refine ⟨-(a.fdiv k),?_⟩
 grind
theorem Zt (r:Rat):(r.den:Int)≠0:=by have:=r.den_nz; omega
theorem den_pos (r:Rat):0 < (r.den:Int):=by have:=r.den_pos; omega
theorem zhW {r:Rat} (h:r≠0):r.num≠0:=fun z=>h (Rat.num_eq_zero.mp z)
end Nm
namespace L2
open PySem PySem.Spec PyProof.Rows
noncomputable def closOf (cells:List (Str×Addr)):List (Str×NameKind)→List (Str×Addr)→List (Str×Addr)
 | [],acc=>acc
 | (n,k) :: r,acc=>if (k == NameKind.free) = true then closOf cells r ((n,(cells.lookup n).getD 0) :: acc) else closOf cells r acc
theorem Zy {env:Env} (f:Str×NameKind→List (Str×Addr)→Sem (ForInStep (List (Str×Addr))))
  (hf:∀ name kind cs,f (name,kind) cs = if (kind == NameKind.free) = true then (do let a ← cellOf env name; pure (.yield ((name,a) :: cs))) else pure (.yield cs)) :
  ∀ (l:List (Str×NameKind)) (acc:List (Str×Addr)),(∀ x∈l,x.2 = .free→∃ c,env.cells.lookup x.1 = some c)→(forIn l acc f:Sem _) = pure (closOf env.cells l acc)
 | [],acc,_=>by rw [List.forIn_nil]; rfl
 | (n,k) :: r,acc,h=>by
  rw [List.forIn_cons,hf]
  have hr:∀ x∈r,x.2 = .free→∃ c,env.cells.lookup x.1 = some c:=fun x hx=>h x (List.mem_cons_of_mem _ hx)
  by_cases hk:(k == NameKind.free) = true
  ·obtain ⟨c,hc⟩:=h (n,k) List.mem_cons_self (by simpa using hk)
   rw [if_pos hk]
   have e:cellOf env n = pure c:=by unfold cellOf; rw [hc]
   rw [e]
   show (forIn r ((n,c) :: acc) f:Sem _) = _
   rw [Zy f hf r _ hr]
   conv=>rhs; unfold closOf
   rw [if_pos hk,hc]
   rfl
  ·rw [if_neg hk]
   show (forIn r acc f:Sem _) = _
   rw [Zy f hf r _ hr]
   conv=>rhs; unfold closOf
   rw [if_neg hk]
theorem Jx {scope:Scope} {env:Env} (h:∀ x∈scope.names,x.2 = .free→∃ c,env.cells.lookup x.1 = some c):closureFor scope env = pure (closOf env.cells scope.names []):=by
 simp only [closureFor]
 rw [Zy (env:=env) _ (fun name kind cs=>by cases hk:kind == NameKind.free <;> simp [hk]) scope.names [] h]
 rfl
theorem Zw {cells:List (Str×Addr)}:∀ {l:List (Str×NameKind)} {acc:List (Str×Addr)} {n:Str} {c:Addr},(∀ x∈l,x.2 = .free→∃ c,cells.lookup x.1 = some c)→(n,c)∈closOf cells l acc →
  (n,c)∈acc∨((n,NameKind.free)∈l∧cells.lookup n = some c)
 | [],acc,n,c,_,h=>.inl h
 | (m,k) :: r,acc,n,c,hl,h=>by
  have hr:∀ x∈r,x.2 = .free→∃ c,cells.lookup x.1 = some c:=fun x hx=>hl x (List.mem_cons_of_mem _ hx)
  unfold closOf at h
  by_cases hk:(k == NameKind.free) = true
  ·rw [if_pos hk] at h
   have hk':k = .free:=by simpa using hk
   subst hk'
   obtain ⟨c',hc'⟩:=hl (m,.free) List.mem_cons_self rfl
   rcases Zw hr h with h | ⟨h1,h2⟩
   ·rcases List.mem_cons.mp h with e | h
    ·have hc2:cells.lookup m = some c':=hc'
     rw [hc2] at e
     cases e
     exact .inr ⟨List.mem_cons_self,hc'⟩
    ·exact .inl h
   ·exact .inr ⟨List.mem_cons_of_mem _ h1,h2⟩
  ·rw [if_neg hk] at h
   rcases Zw hr h with h | ⟨h1,h2⟩
   ·exact .inl h
   ·exact .inr ⟨List.mem_cons_of_mem _ h1,h2⟩
theorem yV {α:Type}:∀ {l:List (Str×α)} {n:Str},(∃ c,(n,c)∈l)→∃ c,l.lookup n = some c
 | [],n,⟨c,h⟩=>nomatch h
 | (m,v) :: r,n,⟨c,h⟩=>by
  rw [List.lookup_cons]
  cases hb:n == m with
  | true=>exact ⟨v,rfl⟩
  | false =>
   rcases List.mem_cons.mp h with e | h
   ·cases e; simp at hb
   ·exact yV ⟨c,h⟩
theorem Zv {cells:List (Str×Addr)}:∀ {l:List (Str×NameKind)} {acc:List (Str×Addr)} {p:Str×Addr},p∈acc→p∈closOf cells l acc
 | [],acc,p,h=>h
 | (m,k) :: r,acc,p,h=>by
  unfold closOf
  split
  ·exact Zv (List.mem_cons_of_mem _ h)
  ·exact Zv h
theorem qw {cells:List (Str×Addr)}:∀ {l:List (Str×NameKind)} {acc:List (Str×Addr)} {n:Str},(n,NameKind.free)∈l→∃ c,(n,c)∈closOf cells l acc
 | (m,k) :: r,acc,n,h=>by
  unfold closOf
  rcases List.mem_cons.mp h with e | h
  ·cases e
   exact ⟨_,Zv List.mem_cons_self⟩
  ·split
   ·exact qw h
   ·exact qw h
theorem ye:∀ (l:List (Str×NameKind)) (n:Nat) (acc:List (Str×Addr)),cellsFrom n l acc = cellsFrom n l [] ++ acc
 | [],n,acc=>rfl
 | (m,k) :: r,n,acc=>by
  unfold cellsFrom
  split
  ·rw [ye r (n + 1) ((m,n) :: acc),ye r (n + 1) [(m,n)],List.append_assoc]; rfl
  ·exact ye r n acc
theorem ju:∀ {l:List (Str×NameKind)} {n:Nat} {x:Str} {c:Addr},(x,c)∈cellsFrom n l []→(x,NameKind.cell)∈l
 | (m,k) :: r,n,x,c,h=>by
  unfold cellsFrom at h
  by_cases hk:(k == NameKind.cell) = true
  ·rw [if_pos hk,ye] at h
   rcases List.mem_append.mp h with h | h
   ·exact List.mem_cons_of_mem _ (ju h)
   ·have e:(x,c) = (m,n):=by simpa using h
    cases e
    have:k = .cell:=by simpa using hk
    subst this
    exact List.mem_cons_self
  ·rw [if_neg hk] at h
   exact List.mem_cons_of_mem _ (ju h)
theorem jz:∀ {l:List (Str×NameKind)} {n:Nat} {x:Str},(x,NameKind.cell)∈l→∃ c,(x,c)∈cellsFrom n l []
 | (m,k) :: r,n,x,h=>by
  unfold cellsFrom
  rcases List.mem_cons.mp h with e | h
  ·cases e
   rw [if_pos (by decide),ye]
   exact ⟨n,List.mem_append_right _ List.mem_cons_self⟩
  ·split
   ·rw [ye]
    obtain ⟨c,hc⟩:=jz (n:=n + 1) h
    exact ⟨c,List.mem_append_left _ hc⟩
   ·exact jz h
noncomputable def blk (X:Cx) (own fre:List Str) (scope:Scope) (L:Addr) (cells:List (Str×Addr)) (s₀:Shared) (H₀:Hp) (ex:List Addr) (pn:List (Addr×Obj)):Cx where
 prog:=X.prog
 w:=X.w
 K:=X.K
 mg:=X.mg
 base:=X.base
 A:=X.A
 N:=own ++ fre
 s₀:=s₀
 H₀:=H₀
 env:=compEnvC scope cells L X.env
 outer:=X.stack
 stack:=X.stack
 ex:=ex
 fn:=fun x=>own.contains x
 calm:=X.calm
 pn:=pn
 xe:=fun _ _=>False
noncomputable def bst (own:Nat) (idx:List Nat) (σ:St):St:=List.replicate own none ++ idx.map fun i=>(σ[i]?).join
structure BlkOk (X:Cx) (own fre:List Str) (idx:List Nat) (scope:Scope):Prop where
 kind:scope.kind = .function
 free:(scope.names.all fun x=>x.2 != .free || (X.env.kindOf x.1 == some .cell || X.env.kindOf x.1 == some .free)) = true
 loc:(scope.names.all fun x=>x.2 != .local || scope.names.lookup x.1 == some .local) = true
 ownB:(scope.names.all fun x=>x.2 != .free || !own.contains x.1) = true
 freB:((fre.zip idx).all fun p=>scope.names.lookup p.1 == some .free && X.N[p.2]? == some p.1) = true
 len:fre.length = idx.length
 nd:(scope.names.map (·.1)).Nodup
theorem zhh {l:List (Str×NameKind)}:(l.map (·.1)).Nodup→∀ {x:Str} {k1 k2:NameKind},(x,k1)∈l→(x,k2)∈l→k1 = k2:=by
 induction l with
 | nil=>intro _ x k1 k2 h; exact nomatch h
 | cons p r ih =>
  intro nd x k1 k2 h1 h2
  rw [List.map_cons,List.nodup_cons] at nd
  rcases List.mem_cons.mp h1 with e1 | h1 <;> rcases List.mem_cons.mp h2 with e2 | h2
  ·rw [← e1] at e2; cases e2; rfl
  ·exact absurd (List.mem_map.mpr ⟨_,h2,by rw [← e1]⟩) nd.1
  ·exact absurd (List.mem_map.mpr ⟨_,h1,by rw [← e2]⟩) nd.1
  ·exact ih nd.2 h1 h2
section
variable {X:Cx} {own fre:List Str} {idx:List Nat} {scope:Scope} {pins:List (Addr×Obj)} {σ:St} {H:Hp} {s:Shared}
theorem BlkOk.freeC (B:BlkOk X own fre idx scope) {x:Str×NameKind} (hx:x∈scope.names) (h:x.2 = .free):X.env.kindOf x.1 = some .cell∨X.env.kindOf x.1 = some .free:=by
 have:=List.all_eq_true.mp B.free x hx
 rw [h] at this
 simpa using this
theorem BlkOk.cells (B:BlkOk X own fre idx scope) (ok:X.Ok):∀ x∈scope.names,x.2 = .free→∃ c,X.env.cells.lookup x.1 = some c:=fun x hx h=>ok.has x.1 (B.freeC hx h)
noncomputable def rl (env:Env) (p:Str×NameKind):Str×NameKind:=if (p.2 == NameKind.free && env.scope.kind == .function && env.kindOf p.1 == some .cell) = true then (p.1,NameKind.cell) else p
theorem zgd (env:Env) (p:Str×NameKind):(rl env p).1 = p.1:=by unfold rl; split <;> rfl
theorem zf9 (env:Env) (p:Str×NameKind):(rl env p).2 = p.2∨((rl env p).2 = .cell∧p.2 = .free):=by
 unfold rl
 split
 ·rename_i hc
  rw [Bool.and_eq_true,Bool.and_eq_true] at hc
  exact .inr ⟨rfl,by simpa using hc.1.1⟩
 ·exact .inl rfl
theorem jK {α:Type} (p:Str×α) (r:List (Str×α)) (x:Str):(p :: r).lookup x = if (x == p.1) = true then some p.2 else r.lookup x:=by
 rw [show p = (p.1,p.2) from rfl,List.lookup_cons]
 cases x == p.1 <;> rfl
theorem qg {env:Env}:∀ {l:List (Str×NameKind)} {x:Str} {k:NameKind},(l.map (rl env)).lookup x = some k→(l.lookup x = some k∨(k = .cell∧l.lookup x = some .free))
 | [],x,k,h=>by simp at h
 | p :: r,x,k,h=>by
  rw [List.map_cons,jK,zgd] at h
  rw [jK]
  by_cases hx:(x == p.1) = true
  ·rw [if_pos hx] at h ⊢
   rcases zf9 env p with e | ⟨e1,e2⟩
   ·rw [e] at h; exact .inl h
   ·rw [e1] at h; cases h
    rw [e2]
    exact .inr ⟨rfl,rfl⟩
  ·rw [if_neg hx] at h ⊢
   exact qg h
theorem ZT {env:Env}:∀ {l:List (Str×NameKind)} {x:Str},l.lookup x = some .free→(l.map (rl env)).lookup x = some .cell∨(l.map (rl env)).lookup x = some .free
 | [],x,h=>by simp at h
 | p :: r,x,h=>by
  rw [jK] at h
  rw [List.map_cons,jK,zgd]
  by_cases hx:(x == p.1) = true
  ·rw [if_pos hx] at h ⊢
   rcases zf9 env p with e | ⟨e1,e2⟩
   ·rw [e]; exact .inr h
   ·rw [e1]; exact .inl rfl
  ·rw [if_neg hx] at h ⊢
   exact ZT h
theorem zbX (B:BlkOk X own fre idx scope) (ok:X.Ok) {n:Nat} {x:Str} {c:Addr} (h:(cellsFrom n scope.names (closOf X.env.cells scope.names [])).lookup x = some c) :
  ((x,c)∈cellsFrom n scope.names []∧(x,NameKind.cell)∈scope.names)∨((x,NameKind.free)∈scope.names∧X.env.cells.lookup x = some c):=by
 have h1:=mem_of_lookup h
 rw [ye] at h1
 rcases List.mem_append.mp h1 with h1 | h1
 ·exact .inl ⟨h1,ju h1⟩
 ·rcases Zw (B.cells ok) h1 with h1 | h1
  ·exact nomatch h1
  ·exact .inr h1
end
section
variable {prog:Program} {w:World} {A:Around} {E:Value→Shared→Prop} {R:Result→Shared→Prop} {s:Shared}
theorem zaq {elt target iter:Expr} {ifs:List Expr} {scope:Scope} {pos:Pos} {it acc:Value} {env:Env} (I:Nat→Shared→Prop)
  (turn:∀ n s,I n s→wpAny (model prog w) A (pyNext it) (fun r s₁=>match r with
   | none=>R (.ok .next) s₁
   | some v=>wpAny (model prog w) A (letOwnedTupleGo target it v) (fun _ s₂=>wpAny (model prog w) A (assign target env v) (fun _ s₃ =>
     wpAny (model prog w) A (forIn ifs true fun c r=>if r = true then do let ok ← isTrue c env (eval c env); pure (ForInStep.yield ok) else pure (ForInStep.yield r)) (fun ok s₄ =>
      if ok = true then wpAny (model prog w) A (eval elt env) (fun x s₅ =>
       wpAny (model prog w) A (call (.builtin "list.append") [acc,x]) (fun _ s₆=>∃ m,m < n∧I m s₆) (fun _ _=>False) s₅) (fun _ _=>False) s₄
      else ∃ m,m < n∧I m s₄) (fun _ _=>False) s₃) (fun _ _=>False) s₂) (fun _ _=>False) s₁) (fun _ _=>False) s)
  (n:Nat) (h:I n s) :
  codeAny (model prog w) A (.compLoop (.ListComp elt [⟨target,iter,ifs,0⟩] scope pos) 0 it acc env) R s:=by
 refine codeAny_loop rfl I (fun n s hI=>?_) n h
 show wpAny _ A ((compTurn (.ListComp elt [⟨target,iter,ifs,0⟩] scope pos) 0 it acc env).onRaise (fun x=>do noteFrame x env; theTreesLotGoes x)) _ _ s
 refine wpAny_noted ?_
 rw [compTurn_list]
 refine wpAny_bind (wpAny_standAt (wpAny_bind (wpAny_mono (turn n s hI) (fun r s₁ h₁=>?_) fun _ _ h'=>h'.elim)))
 cases r with
 | none=>exact wpAny_pure h₁
 | some v =>
  refine wpAny_bind (wpAny_mono h₁ (fun _ s₂ h₂=>?_) fun _ _ h'=>h'.elim)
  refine wpAny_bind (wpAny_mono h₂ (fun _ s₃ h₃=>wpAny_bind (wpAny_mono h₃ (fun ok s₄ h₄=>?_) fun _ _ h'=>h'.elim)) fun _ _ h'=>h'.elim)
  cases ok with
  | false=>exact wpAny_pure ⟨rfl,h₄⟩
  | true =>
   exact wpAny_bind (wpAny_bind (wpAny_mono h₄ (fun x s₅ h₅=>wpAny_bind (wpAny_mono h₅ (fun _ s₆ h₆=>wpAny_pure (wpAny_pure ⟨rfl,h₆⟩)) fun _ _ h'=>h'.elim)) fun _ _ h'=>h'.elim))
end
section
variable {X:Cx} {own fre:List Str} {idx:List Nat} {scope:Scope} {pins:List (Addr×Obj)} {σ:St} {H:Hp} {s:Shared}
noncomputable abbrev bcells (X:Cx) (scope:Scope) (L:Addr):List (Str×Addr):=cellsFrom (L + 1) scope.names (closOf X.env.cells scope.names [])
noncomputable abbrev dictO:Obj:={ cls:=.type "dict",data:=.dict #[] }
theorem zdk {own:Nat} {idx:List Nat} {σ:St} {i:Nat} {v:V} (h:(bst own idx σ)[i]? = some (some v)):∃ j k,i = own + j∧idx[j]? = some k∧σ[k]? = some (some v):=by
 unfold bst at h
 by_cases hi:i < own
 ·rw [List.getElem?_append_left (by simpa using hi)] at h
  rw [List.getElem?_replicate] at h
  rw [if_pos hi] at h
  cases h
 ·rw [List.getElem?_append_right (by simpa using Nat.le_of_not_lt hi)] at h
  rw [List.length_replicate,List.getElem?_map] at h
  cases e:idx[i - own]? with
  | none=>rw [e] at h; cases h
  | some k =>
   rw [e] at h
   refine ⟨i - own,k,by omega,e,?_⟩
   have h':some ((σ[k]?).join) = some (some v):=h
   have h2:=Option.some.inj h'
   cases e2:σ[k]? with
   | none=>rw [e2] at h2; cases h2
   | some o=>rw [e2] at h2; rw [show o = some v from h2]
theorem zdh (B:BlkOk X own fre idx scope) (I:Inv X pins σ H s) {ex:List Addr} (hex:∀ b∈ex,FpOk X pins H b∧b < s.heap.objs.size) :
  Inv (blk X own fre scope s.heap.objs.size (bcells X scope s.heap.objs.size) s H ex (X.pn ++ pins)) [] (bst own.length idx σ) H { s with heap:=pushCells (s.heap.push dictO) scope.names }:=by
 have ok:=I.ok
 have hsz:(s.heap.push dictO).objs.size = s.heap.objs.size + 1:=Heap.size_push ..
 have keep:∀ b o,s.heap.get? b = some o→(pushCells (s.heap.push dictO) scope.names).get? b = some o:=fun b o e=>pushCells_keeps _ _ b o (Heap.get?_push_of_some _ e)
 have cok:=cellsFrom_ok scope.names (s.heap.push dictO) (s.heap.objs.size + 1) [] ⟨fun _ _ hm=>(nomatch hm),List.Pairwise.nil⟩ (by rw [hsz]; exact Nat.le_refl _)
 rw [hsz] at cok
 have freeLt:∀ x c,X.env.cells.lookup x = some c→c < s.heap.objs.size:=fun x c e=>let ⟨_,h⟩:=I.cell x c e; h.lt
 have cellC:∀ x c,(bcells X scope s.heap.objs.size).lookup x = some c→(s.heap.objs.size + 1≤c∧(pushCells (s.heap.push dictO) scope.names).IsCell c none∧(x,c)∈cellsFrom (s.heap.objs.size + 1) scope.names []∧(x,NameKind.cell)∈scope.names)∨(X.env.cells.lookup x = some c∧c < s.heap.objs.size∧(x,NameKind.free)∈scope.names):=fun x c e=>by
  rcases zbX B ok e with ⟨h1,h2⟩ | ⟨h1,h2⟩
  ·exact .inl ⟨(cok.empty x c h1).2,(cok.empty x c h1).1,h1,h2⟩
  ·exact .inr ⟨h2,freeLt x c h2,h1⟩
 have hfs:∀ b∈frs X.stack,b < s.heap.objs.size:=fun b hb=>by
  rcases List.mem_cons.mp (I.stkSub b hb) with e | hb
  ·rw [e]; exact I.lt
  ·obtain ⟨_,o,ho,_⟩:=I.ok.funs.mem hb
   exact Nat.lt_of_lt_of_le (Heap.lt_size ho) I.sz
 have OK:(blk X own fre scope s.heap.objs.size (bcells X scope s.heap.objs.size) s H ex (X.pn ++ pins)).Ok:=by
  refine ⟨ok.mod,B.kind,ok.glob,ok.blt,Nat.le_refl _,?_,?_,?_,ok.hd,ok.frames,.inl rfl,?_,fun b o e=>I.bs b o e,Nat.le_trans ok.bsz I.sz,?_,?_,I.stack,I.stkFree⟩
  ·intro x y c e1 e2
   rcases cellC x c e1 with ⟨l1,_,m1,_⟩ | ⟨f1,l1,_⟩ <;> rcases cellC y c e2 with ⟨l2,_,m2,_⟩ | ⟨f2,l2,_⟩
   ·exact name_of_addr cok.apart m1 m2
   ·exact absurd (Nat.lt_of_lt_of_le l2 (Nat.le_of_succ_le l1)) (Nat.lt_irrefl _)
   ·exact absurd (Nat.lt_of_lt_of_le l1 (Nat.le_of_succ_le l2)) (Nat.lt_irrefl _)
   ·exact ok.inj x y c f1 f2
  ·intro x hk
   have hk':(relabel scope X.env).names.lookup x = some .cell∨(relabel scope X.env).names.lookup x = some .free:=hk
   have hor:(x,NameKind.cell)∈scope.names∨(x,NameKind.free)∈scope.names:=by
    rcases hk' with h | h
    ·rcases qg h with h | ⟨_,h⟩
     ·exact .inl (mem_of_lookup h)
     ·exact .inr (mem_of_lookup h)
    ·rcases qg h with h | ⟨h,_⟩
     ·exact .inr (mem_of_lookup h)
     ·cases h
   refine yV ?_
   show ∃ c,(x,c)∈cellsFrom (s.heap.objs.size + 1) scope.names (closOf X.env.cells scope.names [])
   rw [ye]
   rcases hor with h | h
   ·obtain ⟨c,hc⟩:=jz (n:=s.heap.objs.size + 1) h
    exact ⟨c,List.mem_append_left _ hc⟩
   ·obtain ⟨c,hc⟩:=qw (cells:=X.env.cells) (acc:=[]) h
    exact ⟨c,List.mem_append_right _ hc⟩
  ·intro x c hf e
   rcases cellC x c e with ⟨l1,_⟩ | ⟨_,_,m1⟩
   ·show s.heap.objs.size≤c
    omega
   ·have:=List.all_eq_true.mp B.ownB _ m1
    have hf':own.contains x = true:=hf
    rw [hf'] at this
    simp at this
  ·intro b hb
   obtain ⟨⟨_,_,_,_,f4,_⟩,hlt⟩:=hex b hb
   refine ⟨Nat.ne_of_lt hlt,fun x c e=>?_⟩
   rcases cellC x c e with ⟨l1,_⟩ | ⟨f1,_,_⟩
   ·exact Ne.symm (Nat.ne_of_lt (Nat.lt_of_lt_of_le hlt (Nat.le_of_succ_le l1)))
   ·exact f4 x c f1
  ·intro b o e hb
   obtain ⟨⟨_,_,_,f3,_,_⟩,_⟩:=hex b hb
   rcases f3 with f3 | f3
   ·exact ok.noex b o e f3
   ·exact absurd (Heap.lt_size (ok.bs b o e).1) (Nat.not_lt.mpr f3)
  ·intro b hb hm
   obtain ⟨⟨_,f1,f2,_⟩,_⟩:=hex b hb
   rcases List.mem_cons.mp (I.stkSub b hm) with e | hm
   ·exact f1 e
   ·exact f2 hm
 refine ⟨OK,rfl,I.bare,Un.kept keep,?_,?_,I.fresh,?_,?_,I.hok.kept keep,?_⟩
 ·refine ⟨fun _=>none,(Heap.Ns.new s.heap (.type "dict")).keeps (pushCells_keeps _ _),fun i x v e1 e2 e3=>?_⟩
  obtain ⟨j,k,rfl,hj,hk⟩:=zdk e2
  have e1':(own ++ fre)[own.length + j]? = some x:=e1
  rw [List.getElem?_append_right (Nat.le_add_right _ _),Nat.add_sub_cancel_left] at e1'
  have hz:(x,k)∈fre.zip idx:=by
   refine List.mem_iff_getElem?.mpr ⟨j,?_⟩
   rw [List.getElem?_zip_eq_some]
   exact ⟨e1',hj⟩
  have hq:=List.all_eq_true.mp B.freB _ hz
  rw [Bool.and_eq_true] at hq
  have q1:scope.names.lookup x = some .free:=by simpa using hq.1
  have q2:X.N[k]? = some x:=by simpa using hq.2
  have kin:=B.freeC (mem_of_lookup q1) rfl
  have vis:Vis X.env.scope x:=.inr kin
  obtain ⟨m,hn,hl⟩:=I.loc
  obtain ⟨u,r,look⟩:=hl k x v q2 hk vis
  refine ⟨u,r,?_⟩
  obtain ⟨c,hc,hcell⟩ : ∃ c,X.env.cells.lookup x = some c∧s.heap.IsCell c (some u):=by
   rcases look with ⟨hk1,_⟩ | ⟨_,c,e,z⟩
   ·rcases kin with h | h <;> (rw [hk1] at h; cases h)
   ·exact ⟨c,e,z⟩
  refine .inr ⟨ZT q1,c,?_,hcell.keeps keep⟩
  have hl2:∃ c',(bcells X scope s.heap.objs.size).lookup x = some c':=by
   refine yV ?_
   show ∃ c,(x,c)∈cellsFrom (s.heap.objs.size + 1) scope.names (closOf X.env.cells scope.names [])
   rw [ye]
   obtain ⟨c,hc⟩:=qw (cells:=X.env.cells) (acc:=[]) (mem_of_lookup q1)
   exact ⟨c,List.mem_append_right _ hc⟩
  obtain ⟨c',hc'⟩:=hl2
  rcases zbX B ok hc' with ⟨_,h2⟩ | ⟨_,h2⟩
  ·exact nomatch zhh B.nd h2 (mem_of_lookup q1)
  ·rw [hc] at h2
   cases h2
   exact hc'
 ·intro x c e
  rcases cellC x c e with ⟨_,h,_⟩ | ⟨h,_,_⟩
  ·exact ⟨none,h⟩
  ·obtain ⟨v,z⟩:=I.cell x c h
   exact ⟨v,z.keeps keep⟩
 ·intro x c e
  rcases cellC x c e with ⟨l,_⟩ | ⟨h,_,_⟩
  ·exact I.hok.fresh (by omega)
  ·exact I.freeC x c h
 ·intro p hp
  rw [List.append_nil] at hp
  obtain ⟨h1,h2,h3,h4,h5⟩:=I.pin p hp
  refine ⟨keep _ _ h1,h2,Nat.ne_of_lt (Heap.lt_size h1),fun hm=>?_,h5⟩
  rcases List.mem_cons.mp (I.stkSub p.1 hm) with e | hm
  ·exact h3 e
  ·exact h4 hm
 ·show (bst own.length idx σ).length = (own ++ fre).length
  unfold bst
  rw [List.length_append,List.length_replicate,List.length_map,List.length_append,B.len]
theorem zgM {L D:Addr} {cells:List (Str×Addr)} {s₀ s':Shared} {H₀ H':Hp} {fp:List Addr} {pl:List (Addr×Obj)} {σb:St} {ys:List V} {its:List Value} {n:Nat} (I:Inv X pins σ H₀ s₀) (I':Inv (blk X own fre scope L cells s₀ H₀ (D :: fp) (X.pn ++ pins)) pl σb H' s')
  (hfp:∀ b∈fp,FpOk X pins H₀ b) (hD:FpOk X pins H₀ D) (hD':H' D = none) (hv:Vals ys its) (hz:ys.length≤sizeLine) (e:s'.heap.get? D = some { cls:=.type "list",data:=.seq its.toArray n }) :
  Inv X pins σ (upd H' D (.lst ys)) s':=by
 have u:=I'.base
 have nD:H₀ D = none:=hD.1
 refine I.call' (ch:=D :: fp) (H':=upd H' D (.lst ys)) I'.os ⟨u.keep,u.slot,fun b o h1 h2 h3=>?_,u.there,fun b xs h=>?_,fun b o v h=>?_,fun b ps h=>?_⟩ (fun b o h=>?_) I'.bare fun b hb=>?_
 ·rw [zJ (fun z=>h3 (by rw [z]; exact List.mem_cons_self))]
  exact u.free b o h1 h2 h3
 ·rw [zJ (zY h nD)]; exact u.tups b xs h
 ·rw [zJ (zY h nD)]; exact u.frzs b o v h
 ·rw [zJ (zY h nD)]; exact u.tbls b ps h
 ·by_cases hb:b = D
  ·subst hb
   rw [zf] at h
   cases h
   exact ⟨hz,its,n,hv,e⟩
  ·rw [zJ hb] at h
   exact (I'.hok b o h).stay (fun c v _ q=>q) (fun c q=>by rw [zJ (zY q hD')]; exact q) fun c xs q=>by rw [zJ (zY q hD')]; exact q
 ·rcases List.mem_cons.mp hb with rfl | hb
  ·obtain ⟨_,f1,_,f3,f4,f5⟩:=hD
   exact ⟨f3,f1,f4,f5⟩
  ·obtain ⟨_,f1,_,f3,f4,f5⟩:=hfp b hb
   exact ⟨f3,f1,f4,f5⟩
noncomputable def GOwn (k:Nat) (g:TG):Prop:=∀ v σ H Q,g v σ H Q→g v σ H fun σ' H'=>Q σ' H'∧σ'.drop k = σ.drop k∧σ'.length = σ.length
noncomputable def GOwns (k:Nat) (g:TGs):Prop:=∀ v σ H Q,g v σ H Q→g v σ H fun σ' H'=>Q σ' H'∧σ'.drop k = σ.drop k∧σ'.length = σ.length
theorem zo {k i:Nat} (h:i < k):GOwn k (gName i):=fun v σ H Q q=>⟨q,by rw [List.drop_set_of_lt h],List.length_set⟩
theorem jq {k:Nat}:GOwns k gNil:=fun v σ H Q ⟨e,q⟩=>⟨e,q,rfl,rfl⟩
theorem yj {k:Nat} {t:TG} {u:TGs} (ht:GOwn k t) (hm:∀ v σ H Q Q',(∀ σ' H',Q σ' H'→Q' σ' H')→t v σ H Q→t v σ H Q') (hu:GOwns k u):GOwns k (gCons t u):=fun vs σ H Q ⟨v,r,e,q⟩ =>
 ⟨v,r,e,hm _ _ _ _ _ (fun σ' H' ⟨q1,q2,q3⟩=>by
  have q4:=hu _ _ _ _ q1
  rw [q2,q3] at q4
  exact q4) (ht _ _ _ _ q)⟩
theorem yk {i:Nat}:∀ v σ H (Q Q':St→Hp→Prop),(∀ σ' H',Q σ' H'→Q' σ' H')→gName i v σ H Q→gName i v σ H Q':=fun _ _ _ _ _ h q=>h _ _ q
theorem qr {K:PySem.W.Frag} {k n:Nat} {t:TGs} (h:GOwns k t):GOwn k (gTup K n t):=fun v σ H Q ⟨a,xs,e,h1,h2,q⟩=>⟨a,xs,e,h1,h2,h _ _ _ _ q⟩
theorem zbW {own:Nat} {idx:List Nat} {σ σ':St} (hd:σ'.drop own = (bst own idx σ).drop own) (i:Nat) (v:V) (h:(bst own idx σ)[i]? = some (some v)):σ'[i]? = some (some v):=by
 obtain ⟨j,k,rfl,_,_⟩:=zdk h
 rw [← List.getElem?_drop,hd,List.getElem?_drop]
 exact h
noncomputable def tCompW (own:Nat) (idx:List Nat) (wi:TI) (g:TG) (tt:TT) (te:TE) (R:List V→Hp→Prop):St→Hp→Prop:=fun σ H=>wi σ H fun J H1=>∃ W:Nat→Nat→List V→Hp→Prop,(∃ m,W 0 m [] H1)∧∀ i m ys H,W i m ys H →
 (J.stop i H∧ys.length≤sizeLine∧R ys H) ∨
 (J.go i H∧ys.length < sizeLine∧∀ x H',J.yld i H x H'→g x (bst own idx σ) H' fun σ2 H2=>tt σ2 H2 fun b H3=>if b = true then te σ2 H3 fun y H4=>∃ m',m' < m∧W (i + 1) m' (ys ++ [y]) H4 else ∃ m',m' < m∧W (i + 1) m' ys H3)
noncomputable def PTs (Y:Cx) (ifs:List Expr) (t:TT):Prop:=∀ (pins:List (Addr×Obj)) (s:Shared) (σ:St) (H:Hp) (Q:Bool→Hp→Prop),Inv Y pins σ H s→t σ H Q →
 wpAny (model Y.prog Y.w) Y.A (forIn ifs true fun c r=>if r = true then do let ok ← isTrue c Y.env (eval c Y.env); pure (ForInStep.yield ok) else pure (ForInStep.yield r)) (TP Y pins σ Q) Y.xe s
noncomputable def tTrue:TT:=fun _ H Q=>Q true H
theorem zQ {Y:Cx}:PTs Y [] tTrue:=fun pins s σ H Q I h=>wpAny_tests_nil ⟨H,I,h⟩
theorem JX {Y:Cx} {c:Expr} {t:TT} (h:PT Y c t):PTs Y [c] t:=fun pins s σ H Q I hq=>wpAny_tests_one (h pins s σ H Q I hq)
theorem zbN {elt tg iter:Expr} {ifs:List Expr} {pos:Pos} {wi:TI} {g:TG} {tt:TT} {te:TE} {use:Option (Value→Sem Unit)} {R:List V→Hp→Prop} {Q:Value→Shared→Prop} (B:BlkOk X own fre idx scope) (hc:X.calm = true) (hi:PI X tg iter wi) (hg:GOwn own.length g)
  (hb:∀ (L:Addr) (cells:List (Str×Addr)) (s₀:Shared) (H₀:Hp) (ex:List Addr) (pn:List (Addr×Obj)),PG (blk X own fre scope L cells s₀ H₀ ex pn) tg g∧PTs (blk X own fre scope L cells s₀ H₀ ex pn) ifs tt∧PE (blk X own fre scope L cells s₀ H₀ ex pn) elt te)
  (hs:∀ x,foldedSetIterable iter X.env x = pure x) (I:Inv X pins σ H s) (h:tCompW own.length idx wi g tt te R σ H)
  (hq:∀ (ys:List V) (H':Hp) (s':Shared) (L D:Addr) (m:Str→Option Value),R ys H'→H' D = none→Inv X pins σ (upd H' D (.lst ys)) s'→s'.heap.Ns L m→upd H' D (.lst ys) L = none→FpOk X pins (upd H' D (.lst ys)) L →
   compPost (model X.prog X.w) X.A X.xe use Q (.ref D) L (.ok .next) s') :
  wpAny (model X.prog X.w) X.A (comprehension (.ListComp elt [⟨tg,iter,ifs,0⟩] scope pos) scope X.env (firstIterPos [⟨tg,iter,ifs,0⟩] pos) (newList []) false (eval iter X.env) use) Q X.xe s:=by
 have hnames:∀ x∈scope.names,x.2 = .local→scope.names.lookup x.1 = some .local:=fun x hx hl=>by
  have:=List.all_eq_true.mp B.loc x hx
  rw [hl] at this
  simpa using this
 refine wpAny_comprehension_free (use:=use) rfl hs (Jx (B.cells I.ok)) B.kind hnames (wpAny_mono (hi pins s σ H _ I h) (fun v s1 h1=>wpAny_mono h1 (fun itv s2 h2=>?_) fun _ _ e=>e) fun _ _ e=>e)
 obtain ⟨it,fp,tn,J,H2,rfl,I2,T,st2,f2,W,⟨m0,w0⟩,turn⟩:=h2
 refine wpAny_newObj_type ?_
 generalize hs3:({ s2 with heap:=s2.heap.push { cls:=.type "list",dict:=none,data:=.seq ([]:List Value).toArray } }:Shared) = s3
 have hD3:s3.heap.get? s2.heap.objs.size = some { cls:=.type "list",data:=.seq ([]:List Value).toArray 0 }:=by rw [← hs3]; exact Heap.get?_push_size _ rfl
 have keep23:∀ b o,s2.heap.get? b = some o→s3.heap.get? b = some o:=fun b o e=>by rw [← hs3]; exact Heap.get?_push_of_some _ e
 have I3:Inv X pins σ H2 s3:=by rw [← hs3]; exact I2.kept (t':=s2.toks) fun b o e=>Heap.get?_push_of_some _ e
 have sz3:s3.heap.objs.size = s2.heap.objs.size + 1:=by rw [← hs3]; exact Heap.size_push ..
 generalize hD:s2.heap.objs.size = D at *
 have nD:H2 D = none:=by rw [← hD]; exact I2.fresh
 have okD:FpOk X pins H2 D:=I2.fpOk (by rw [hD]; exact Nat.le_refl _) nD
 have ltfp:∀ b∈fp,b < D:=fun b hb=>by
  obtain ⟨o,ho,_⟩:=T.obj _ _ st2 b hb
  rw [← hD]; exact Heap.lt_size ho
 simp only [newFunctionEnv,Option.isSome_some,if_true]
 refine wpAny_bind (wpAny_alloc ?_)
 refine wpAny_bind (wpAny_layCells _ (fun name kind cells=>by cases hkc:kind == NameKind.cell <;> simp [hkc]) _ _ _ _ ?_)
 refine wpAny_bind (wpAny_pure (wpAny_pure ?_))
 have hL1:(s3.heap.push dictO).objs.size = s3.heap.objs.size + 1:=Heap.size_push ..
 have I4:=zdh (ex:=D :: fp) B I3 (fun b hb=>by
  rcases List.mem_cons.mp hb with rfl | hb
  ·exact ⟨okD,by rw [sz3]; exact Nat.lt_succ_self _⟩
  ·exact ⟨f2 b hb,by rw [sz3]; exact Nat.lt_succ_of_lt (ltfp b hb)⟩)
 generalize hs4:({ s3 with heap:=pushCells (s3.heap.push dictO) scope.names }:Shared) = s4 at I4
 have keep34:∀ b o,s3.heap.get? b = some o→s4.heap.get? b = some o:=fun b o e=>by rw [← hs4]; exact pushCells_keeps _ _ b o (Heap.get?_push_of_some _ e)
 generalize hY:blk X own fre scope s3.heap.objs.size (bcells X scope s3.heap.objs.size) s3 H2 (D :: fp) (X.pn ++ pins) = Y at I4
 have YA:Y.A = X.A:=by rw [← hY]; rfl
 have Yp:Y.prog = X.prog:=by rw [← hY]; rfl
 have Yw:Y.w = X.w:=by rw [← hY]; rfl
 have YK:Y.K = X.K:=by rw [← hY]; rfl
 have Yc:Y.calm = true:=by rw [← hY]; exact hc
 have Yx:Y.xe = fun _ _=>False:=by rw [← hY]; rfl
 have Yex:Y.ex = D :: fp:=by rw [← hY]; rfl
 have Ypn:Y.pn = X.pn ++ pins:=by rw [← hY]; rfl
 have YL:Y.env.locals = s3.heap.objs.size:=by rw [← hY]; rfl
 have hbY:PG Y tg g∧PTs Y ifs tt∧PE Y elt te:=by rw [← hY]; exact hb ..
 have nDY:D≠Y.env.locals:=by rw [YL,sz3]; exact Nat.ne_of_lt (Nat.lt_succ_self _)
 have okY:=I4.ok
 have fsD:D∉Y.fs:=okY.exfs D (by rw [Yex]; exact List.mem_cons_self)
 have pnD:∀ p∈Y.pn,p.1≠D:=by rw [Ypn]; exact okD.2.2.2.2.2
 have FO:∀ {H':Hp} {o:Obj},(∀ b∈fp,H' b = none)→∀ b∈fp,FpOk Y [(D,o)] H' b:=fun {H' o} hn b hb=>by
  have m:b∈Y.ex:=by rw [Yex]; exact List.mem_cons_of_mem _ hb
  refine ⟨hn b hb,(okY.exf b m).1,okY.exfs b m,.inl m,(okY.exf b m).2,fun p hp=>?_⟩
  rcases List.mem_append.mp hp with hp | hp
  ·rw [Ypn] at hp
   exact (f2 b hb).2.2.2.2.2 p hp
  ·have e:p = (D,o):=by simpa using hp
   rw [e]
   exact Ne.symm (Nat.ne_of_lt (ltfp b hb))
 have pinD:∀ {pl:List (Addr×Obj)} {σ':St} {H':Hp} {s':Shared} {o:Obj},Inv Y pl σ' H' s'→s'.heap.get? D = some o→H' D = none→(∀ v,o.data≠.cell v)→Inv Y [(D,o)] σ' H' s':=fun {pl σ' H' s' o} I' e hn hd=>I'.pins_of fun p hp=>by
  have e':p = (D,o):=by simpa using hp
  subst e'
  exact ⟨e,hn,nDY,fsD,hd⟩
 have loop:codeAny (model X.prog X.w) X.A (.compLoop (.ListComp elt [⟨tg,iter,ifs,0⟩] scope pos) 0 (.ref it) (.ref D) Y.env) (compPost (model X.prog X.w) X.A X.xe use Q (.ref D) s3.heap.objs.size) s4:=by
  refine zaq (fun n s'=>∃ i ys its k H',Inv Y [(D,({ cls:=.type "list",data:=.seq (its:List Value).toArray k }:Obj))] (bst own.length idx σ) H' s'∧tn i s'.heap∧(∀ b∈fp,H' b = none)∧Vals ys its∧ys.length≤sizeLine∧W i n ys H') ?_ m0
   ⟨0,[],[],0,H2,pinD I4 (keep34 _ _ hD3) nD (fun v z=>nomatch z),T.keep _ _ _ st2 fun b _ o e=>keep34 _ _ (keep23 _ _ e),fun b hb=>(f2 b hb).1,.nil,Nat.zero_le _,w0⟩
  rintro n s' ⟨i,ys,its,k,H',I',st',fr',hv,hz,w'⟩
  have pD:=I'.pin _ (List.mem_append_right _ List.mem_cons_self)
  rcases turn i n ys H' w' with ⟨stop,hl,hR⟩ | ⟨go,hl,step⟩
  ·have z:=T.done Y Yp Yw YK Yc i _ s' _ H' (fun _ _=>False) I' (FO fr') st' stop
   rw [YA] at z
   refine thn z fun r s5 ⟨hr,I5⟩=>?_
   subst hr
   have pD5:=I5.pin _ (List.mem_append_right _ List.mem_cons_self)
   have I5':=I5
   rw [← hY] at I5'
   have E:=zgM I3 I5' (fun b hb=>f2 b hb) okD pD5.2.1 hv hl pD5.1
   obtain ⟨m5,hm5,_⟩:=I5.loc
   rw [YL] at hm5
   have nL:H' s3.heap.objs.size = none:=by rw [← YL]; exact I5.free
   have nL':upd H' D (.lst ys) s3.heap.objs.size = none:=by rw [zJ (by rw [← YL]; exact Ne.symm nDY)]; exact nL
   exact hq ys H' s5 _ D m5 hR pD5.2.1 E hm5 nL' (I3.fpOk (Nat.le_refl _) nL')
  ·have z:=T.item Y Yp Yw YK Yc i _ s' _ H' (fun _ _=>False) I' (FO fr') st' go
   rw [YA] at z
   refine thn z fun r s5 ⟨u,hr,h5⟩=>?_
   subst hr
   refine thn h5 fun _ s6 ⟨x,H6,I6,r6,y6,st6,fr6⟩=>?_
   have I6':=I6.pinned (FO fr6) (T.obj _ _ st6)
   have z7:=hbY.1 _ s6 _ H6 x u _ I6' r6 (hg _ _ _ _ (step x H6 y6))
   rw [Yp,Yw,YA,Yx] at z7
   refine thn z7 fun _ s7 ⟨σ7,H7,I7,q7,d7,l7⟩=>?_
   have z8:=hbY.2.1 _ s7 σ7 H7 _ I7 q7
   rw [Yp,Yw,YA,Yx] at z8
   refine thn z8 fun ok s8 ⟨H8,I8,q8⟩=>?_
   have tnK:∀ {σ9:St} {H9:Hp} {s9:Shared},Inv Y ([(D,({ cls:=.type "list",data:=.seq its.toArray k }:Obj))] ++ pinsAt fp s6.heap) σ9 H9 s9→tn (i + 1) s9.heap∧∀ b∈fp,H9 b = none:=fun I9 =>
    ⟨T.keep _ _ _ st6 fun b hb o e=>(I9.pin (b,o) (List.mem_append_right _ (List.mem_append_right _ (qE hb e)))).1,fun b hb=>by
     obtain ⟨o,e,d⟩:=T.obj _ _ st6 b hb
     exact (I9.pin (b,o) (List.mem_append_right _ (List.mem_append_right _ (qE hb e)))).2.1⟩
   cases ok with
   | false =>
    rw [if_neg Bool.false_ne_true] at q8 ⊢
    obtain ⟨m',hm,w8⟩:=q8
    obtain ⟨t8,n8⟩:=tnK I8
    exact ⟨m',hm,i + 1,ys,its,k,H8,I8.unpinned.weak l7.symm (zbW d7),t8,n8,hv,hz,w8⟩
   | true =>
    rw [if_pos rfl] at q8 ⊢
    have z9:=hbY.2.2 _ s8 σ7 H8 _ I8 q8
    rw [Yp,Yw,YA,Yx] at z9
    refine thn z9 fun y s9 ⟨v9,H9,I9,r9,m',hm,w9⟩=>?_
    obtain ⟨t9,n9⟩:=tnK I9
    have pD9:=I9.pin (D,{ cls:=.type "list",data:=.seq its.toArray k }) (List.mem_append_right _ (List.mem_append_left _ List.mem_cons_self))
    refine append_at pD9.1 (fun h10 sb hD10=>?_) (by rw [List.size_toArray,← hv.length]; exact Nat.le_of_lt hl)
    have I9a:Inv Y [] σ7 H9 s9:=I9.pins_of fun p hp=>nomatch hp
    have I10:Inv Y [] σ7 H9 { s9 with heap:=h10 }:=I9a.turned (t':=s9.toks) (it:=D) (fun b o hb e=>sb.extBut b o hb e) pD9.2.1 nDY (.inl (by rw [Yex]; exact List.mem_cons_self)) (okY.exf D (by rw [Yex]; exact List.mem_cons_self)).2 (fun p hp=>by
     rw [List.append_nil] at hp
     exact pnD p hp)
    refine ⟨m',hm,i + 1,ys ++ [v9],its ++ [y],k + 1,H9,pinD (I10.weak l7.symm (zbW d7)) ?_ pD9.2.1 (fun v z=>nomatch z),?_,n9,hv.append (.cons r9 .nil),?_,w9⟩
    ·show h10.get? D = _
     rw [hD10,List.push_toArray]
    ·exact T.keep _ _ _ t9 fun b hb o e=>sb.extBut b o (Nat.ne_of_lt (ltfp b hb)) e
    ·rw [List.length_append,List.length_singleton]; exact hl
 have goal:codeAny (model X.prog X.w) X.A (.compStart (.ListComp elt [⟨tg,iter,ifs,0⟩] scope pos) 0 (.ref it) (.ref D) Y.env) (compPost (model X.prog X.w) X.A X.xe use Q (.ref D) s3.heap.objs.size) s4 :=
  codeAny_compStart_list loop (T.self X.A 0 s4 _ _ (T.keep _ _ _ st2 fun b _ o e=>keep34 _ _ (keep23 _ _ e)) loop)
 rw [← hY] at goal
 have hsz:({ s3 with heap:=s3.heap.push { cls:=.type "dict",data:=.dict #[] } }:Shared).heap.objs.size = s3.heap.objs.size + 1:=Heap.size_push ..
 rw [hsz]
 first
  | exact goal
  | (rw [← hs4] at goal; exact goal)
end
noncomputable def tComp (own:Nat) (idx:List Nat) (wi:TI) (g:TG) (tt:TT) (te:TE):TE:=fun σ H Q=>tCompW own idx wi g tt te (fun ys H'=>∀ p,H' p = none→Q (.ref p) (upd H' p (.lst ys))) σ H
section
variable {X:Cx} {scope:Scope}
theorem ya {elt tg iter:Expr} {ifs:List Expr} {pos:Pos} {wi:TI} {g:TG} {tt:TT} {te:TE} (own fre:List Str) (idx:List Nat) (B:BlkOk X own fre idx scope) (hc:X.calm = true) (hi:PI X tg iter wi) (hg:GOwn own.length g)
  (hb:∀ (L:Addr) (cells:List (Str×Addr)) (s₀:Shared) (H₀:Hp) (ex:List Addr) (pn:List (Addr×Obj)),PG (blk X own fre scope L cells s₀ H₀ ex pn) tg g∧PTs (blk X own fre scope L cells s₀ H₀ ex pn) ifs tt∧PE (blk X own fre scope L cells s₀ H₀ ex pn) elt te)
  (hs:∀ x,foldedSetIterable iter X.env x = pure x:=by intro _; rfl):PE X (.ListComp elt [⟨tg,iter,ifs,0⟩] scope pos) (tComp own.length idx wi g tt te):=by
 intro pins s σ H Q I h
 rw [eval_ListComp]
 refine zbN (use:=none) B hc hi hg hb hs I h fun ys H' s' L D m hR hD I' hn nL fL=>?_
 refine ⟨m,hn,fun h' hs'=>?_⟩
 obtain ⟨f0,f1,f2,f3,f4,f5⟩:=fL
 exact ⟨.ref D,_,I'.turned (t':=s'.toks) (it:=L) (fun b o hb e=>hs'.extBut b o hb e) f0 f1 f3 f4 f5,rfl,hR D hD⟩
noncomputable def tAsgC (own:Nat) (idx:List Nat) (wi:TI) (g:TG) (tt:TT) (te:TE) (i:Nat):TS:=fun D σ H=>tCompW own idx wi g tt te (fun ys H'=>∀ p,H' p = none→D.nx (σ.set i (some (.ref p))) (upd H' p (.lst ys))) σ H
theorem je {elt tg iter:Expr} {ifs:List Expr} {pos pos' spos:Pos} {wi:TI} {g:TG} {tt:TT} {te:TE} {i:Nat} {x:Str} (hN:X.N.Nodup) (hi':X.N[i]? = some x) (hx:X.env.scope.names.lookup x = some .local) (own fre:List Str) (idx:List Nat) (B:BlkOk X own fre idx scope) (hc:X.calm = true) (hi:PI X tg iter wi) (hg:GOwn own.length g)
  (hb:∀ (L:Addr) (cells:List (Str×Addr)) (s₀:Shared) (H₀:Hp) (ex:List Addr) (pn:List (Addr×Obj)),PG (blk X own fre scope L cells s₀ H₀ ex pn) tg g∧PTs (blk X own fre scope L cells s₀ H₀ ex pn) ifs tt∧PE (blk X own fre scope L cells s₀ H₀ ex pn) elt te)
  (hsw:swapsWith (.ListComp elt [⟨tg,iter,ifs,0⟩] scope pos) (some (.Name x pos')) spos.line X.env = pure true:=by rfl)
  (hs:∀ x,foldedSetIterable iter X.env x = pure x:=by intro _; rfl):PS X (.Assign [.Name x pos'] (.ListComp elt [⟨tg,iter,ifs,0⟩] scope pos) spos) (tAsgC own.length idx wi g tt te i):=by
 intro pins s σ H D I h
 rw [exec_Assign_Name_used _ _ _ _ hsw]
 refine wpAny_bind (wpAny_standAt (wpAny_bind ?_))
 show wpAny _ X.A (do let _ ← comprehension (.ListComp elt [⟨tg,iter,ifs,0⟩] scope pos) scope X.env _ (newList []) false (eval iter X.env) (some (assign (.Name x pos') X.env))) _ _ s
 refine wpAny_bind (wpAny_mono (zbN (use:=some (assign (.Name x pos') X.env)) (Q:=fun _ s'=>SP X pins D .next s') B hc hi hg hb hs I h fun ys H' s' L Da m hR hD I' hn nL fL=>?_) (fun _ s' hq=>wpAny_pure (wpAny_pure hq)) fun _ _ e=>e)
 obtain ⟨f0,f1,f2,f3,f4,f5⟩:=fL
 show wpAny _ X.A (assign (.Name x pos') X.env (.ref Da)) _ _ _
 refine wpAny_assign_Name (QE I' hN hi' (.inl hx) (show RelV (.ref Da) (.ref Da) from rfl) (fun s2 I2 ⟨a,sb,ha⟩=>?_) (.inr hx))
 have hLa:L≠a:=by
  rcases ha with rfl | ha
  ·exact f1
  ·exact Ne.symm (f4 x a ha)
 refine ⟨m,hn.sameBut sb hLa,fun h' hs'=>?_⟩
 exact ⟨_,_,I2.turned (t':=s2.toks) (it:=L) (fun b o hb e=>hs'.extBut b o hb e) f0 f1 f3 f4 f5,hR Da hD⟩
end
end L2
namespace L2
open PySem PySem.Spec PyProof.Rows
mutual
noncomputable def Rp (H:Hp):PyData→V→Prop
 | .none,v=>v = .non
 | .bool b,v=>v = .bl b
 | .int i,v=>v = .int i
 | .str x,v=>v = .str x
 | .list ds,v=>∃ a xs,v = .ref a∧H a = some (.lst xs)∧Rps H ds xs
 | .tuple ds,v=>∃ a xs,v = .ref a∧H a = some (.tup xs)∧Rps H ds xs
 | .dict _,_=>False
noncomputable def Rps (H:Hp):List PyData→List V→Prop
 | [],xs=>xs = []
 | d :: ds,xs=>∃ x r,xs = x :: r∧Rp H d x∧Rps H ds r
end
mutual
theorem Rp.mono {H H':Hp} (g:Same H H'):∀ (d:PyData) (v:V),Rp H d v→Rp H' d v
 | .none,_,h=>by simpa only [Rp] using h
 | .bool _,_,h=>by simpa only [Rp] using h
 | .int _,_,h=>by simpa only [Rp] using h
 | .str _,_,h=>by simpa only [Rp] using h
 | .list ds,v,h=>by
  simp only [Rp] at h ⊢
  obtain ⟨a,xs,e,h1,h2⟩:=h
  exact ⟨a,xs,e,g _ _ h1,Rps.mono g ds xs h2⟩
 | .tuple ds,v,h=>by
  simp only [Rp] at h ⊢
  obtain ⟨a,xs,e,h1,h2⟩:=h
  exact ⟨a,xs,e,g _ _ h1,Rps.mono g ds xs h2⟩
 | .dict _,_,h=>by simp only [Rp] at h
theorem Rps.mono {H H':Hp} (g:Same H H'):∀ (ds:List PyData) (xs:List V),Rps H ds xs→Rps H' ds xs
 | [],xs,h=>by simpa only [Rps] using h
 | d :: ds,xs,h=>by
  simp only [Rps] at h ⊢
  obtain ⟨x,r,e,h1,h2⟩:=h
  exact ⟨x,r,e,Rp.mono g d x h1,Rps.mono g ds r h2⟩
end
section
variable {X:Cx} {pins:List (Addr×Obj)} {σ:St} {H:Hp} {s:Shared}
mutual
theorem Rp.reads (I:Inv X pins σ H s):∀ (d:PyData) (v:V) (u:Value),Rp H d v→RelV v u→∃ as,Reads s.heap u d as
 | .none,v,u,h,r=>by
  simp only [Rp] at h
  subst h
  cases (show u = Value.none from r)
  exact ⟨_,.none⟩
 | .bool b,v,u,h,r=>by
  simp only [Rp] at h
  subst h
  cases (show u = Value.bool b from r)
  exact ⟨_,.bool b⟩
 | .int i,v,u,h,r=>by
  simp only [Rp] at h
  subst h
  obtain ⟨t,e⟩:=(show ∃ t,u = Value.int i t from r)
  subst e
  exact ⟨_,.int i t⟩
 | .str x,v,u,h,r=>by
  simp only [Rp] at h
  subst h
  obtain ⟨t,e⟩:=(show ∃ t,u = Value.str x t from r)
  subst e
  exact ⟨_,.str x t⟩
 | .list ds,v,u,h,r=>by
  simp only [Rp] at h
  obtain ⟨a,xs,e,h1,h2⟩:=h
  subst e
  cases (show u = Value.ref a from r)
  obtain ⟨_,its,n,hv,hg⟩:=(show ObjOk X.prog X.w H s.heap a (.lst xs) from I.hok a _ h1)
  obtain ⟨as,q⟩:=Rps.reads I ds xs its h2 hv
  exact ⟨_,.list hg rfl rfl q⟩
 | .tuple ds,v,u,h,r=>by
  simp only [Rp] at h
  obtain ⟨a,xs,e,h1,h2⟩:=h
  subst e
  cases (show u = Value.ref a from r)
  obtain ⟨_,its,hv,o,hg,hc,n,hd⟩:=(show ObjOk X.prog X.w H s.heap a (.tup xs) from I.hok a _ h1)
  obtain ⟨as,q⟩:=Rps.reads I ds xs its h2 hv
  exact ⟨_,.tuple hg hc hd q⟩
 | .dict _,v,u,h,r=>by simp only [Rp] at h
theorem Rps.reads (I:Inv X pins σ H s):∀ (ds:List PyData) (xs:List V) (us:List Value),Rps H ds xs→Vals xs us→∃ as,ReadsAll s.heap us ds as
 | [],xs,us,h,r=>by
  simp only [Rps] at h
  subst h
  cases r
  exact ⟨_,.nil⟩
 | d :: ds,xs,us,h,r=>by
  simp only [Rps] at h
  obtain ⟨x,rr,e,h1,h2⟩:=h
  subst e
  cases r with
  | cons r1 r2 =>
   obtain ⟨as,q1⟩:=Rp.reads I d x _ h1 r1
   obtain ⟨bs,q2⟩:=Rps.reads I ds rr _ h2 r2
   exact ⟨_,.cons q1 q2⟩
end
noncomputable def rEqD (f:Bool→Bool):R2:=fun x y H Q=>∃ dx dy,Rp H dx x∧Rp H dy y∧dx.canLay0 = true∧dy.canLay0 = true∧min dx.depth dy.depth≤60∧Q (.bl (f (PyData.eqv dx dy))) H
theorem Xm {k:Nat} (hr:Room k X.A):OpR X (compareOp .Eq) (rEqD id):=by
 intro pins s σ H x y v u Q I rx ry h
 obtain ⟨dx,dy,h1,h2,l1,l2,hd,q⟩:=h
 obtain ⟨as,r1⟩:=Rp.reads I dx x v h1 rx
 obtain ⟨bs,r2⟩:=Rp.reads I dy y u h2 ry
 exact SeqAt.compareEq_reads r1 r2 l1 l2 (by have:=hr.units; omega) ⟨.bl _,H,I,rfl,q⟩
theorem zbF {k:Nat} (hr:Room k X.A):OpR X (compareOp .NotEq) (rEqD not):=by
 intro pins s σ H x y v u Q I rx ry h
 obtain ⟨dx,dy,h1,h2,l1,l2,hd,q⟩:=h
 obtain ⟨as,r1⟩:=Rp.reads I dx x v h1 rx
 obtain ⟨bs,r2⟩:=Rp.reads I dy y u h2 ry
 exact SeqAt.compareNe_reads r1 r2 l1 l2 (by have:=hr.units; omega) ⟨.bl _,H,I,rfl,q⟩
end
noncomputable def Itz (K:PySem.W.Frag) (a b:Addr):It :=
 ⟨fun i H=>∃ xs ys x y,SqL K H a xs∧SqL K H b ys∧xs[i]? = some x∧ys[i]? = some y,
   fun i H v H'=>∃ T x y,v = .ref T∧H T = none∧H' = upd H T (.tup [x,y])∧(∀ xs,SqL K H a xs→xs[i]? = some x)∧(∀ ys,SqL K H b ys→ys[i]? = some y),
   fun i H=>∃ xs ys,SqL K H a xs∧SqL K H b ys∧(xs.length≤i∨ys.length≤i)⟩
noncomputable def ZipAt (z TI TO i1 i2 a b:Addr) (i:Nat) (h:Heap):Prop:=IsZip h z TI TO .none∧IsPair h TI (.ref i1) (.ref i2)∧(∃ u v,IsPair h TO u v)∧h.IsListIter i1 a i∧h.IsListIter i2 b i
theorem zfe {P:Program} {w:World} {K:PySem.W.Frag} {elts:List Expr} {k1:Nat} {pos:Pos} (z TI TO i1 i2 a b:Addr) (D:ZipApart z TI TO i1 i2 a b) :
  Turn P w K (.Tuple elts k1 pos) (Itz K a b) [z,TI,TO,i1,i2] z (ZipAt z TI TO i1 i2 a b) where
 mem:=by simp
 obj:=fun i h st c hc=>by
  obtain ⟨hz,hTI,⟨u,v,hTO⟩,⟨o1,e1,_,d1⟩,⟨o2,e2,_,d2⟩⟩:=st
  simp only [List.mem_cons,List.not_mem_nil,or_false] at hc
  rcases hc with rfl | rfl | rfl | rfl | rfl
  ·exact ⟨_,hz,fun v z=>nomatch z⟩
  ·exact ⟨_,hTI,fun v z=>nomatch z⟩
  ·exact ⟨_,hTO,fun v z=>nomatch z⟩
  ·exact ⟨o1,e1,fun v z=>by rw [d1] at z; cases z⟩
  ·exact ⟨o2,e2,fun v z=>by rw [d2] at z; cases z⟩
 keep:=fun i h h' st k=>by
  obtain ⟨hz,hTI,⟨u,v,hTO⟩,h1,h2⟩:=st
  exact ⟨k z (by simp) _ hz,k TI (by simp) _ hTI,⟨u,v,k TO (by simp) _ hTO⟩,h1.at fun o e=>k i1 (by simp) o e,h2.at fun o e=>k i2 (by simp) o e⟩
 item:=by
  intro X hP hw hK hc i pins s σ H E I hf st hg
  subst hP hw hK
  obtain ⟨hz,hTI,⟨u0,v0,hTO⟩,h1,h2⟩:=st
  obtain ⟨xs,ys,x,y,q1,q2,ex,ey⟩:=hg
  obtain ⟨its1,rv1,p1,_⟩:=I.list q1
  obtain ⟨its2,rv2,p2,_⟩:=I.list q2
  obtain ⟨u,hu,ru⟩:=rv1.get ex
  obtain ⟨u',hu',ru'⟩:=rv2.get ey
  refine wpAny_pyNext_zip_item D hz hTI hTO h1 h2 p1.isList p2.isList (x:=u) (y:=u') (by simpa using hu) (by simpa using hu') fun h' z' TO' i1' i2' T' sz keep=>?_
  refine ⟨_,rfl,wpAny_letOwnedTupleGo_zip (s:={ s with heap:=h' }) z' fun h'' z'' sb=>?_⟩
  have hlt:∀ c o,s.heap.get? c = some o→c < s.heap.objs.size:=fun c o e=>Heap.lt_size e
  have zlt:=hlt _ _ hz
  have TOlt:=hlt _ _ hTO
  have TIlt:=hlt _ _ hTI
  have i1lt:i1 < s.heap.objs.size:=let ⟨o,e,_⟩:=h1; hlt _ _ e
  have i2lt:i2 < s.heap.objs.size:=let ⟨o,e,_⟩:=h2; hlt _ _ e
  have fz:=hf z (by simp)
  have fTO:=hf TO (by simp)
  have f1:=hf i1 (by simp)
  have f2:=hf i2 (by simp)
  have nT:H s.heap.objs.size = none:=I.fresh
  have keep2:∀ c o,c≠z→c≠TO→c≠i1→c≠i2→s.heap.get? c = some o→h''.get? c = some o:=fun c o c1 c2 c3 c4 e=>sb.extBut c o c1 (keep c o c1 c2 c3 c4 e)
  have hT:h''.get? s.heap.objs.size = some { cls:=.type "tuple",data:=.seq #[u,u'] }:=sb.extBut _ _ (Nat.ne_of_gt zlt) T'
  have TOK:IsTup h'' s.heap.objs.size [u,u'].toArray:=⟨_,hT,rfl,_,rfl⟩
  refine ⟨.ref s.heap.objs.size,upd H s.heap.objs.size (.tup [x,y]),?_,rfl,⟨_,x,y,rfl,nT,rfl,fun zs h=>by rw [I.list_inj h q1]; exact ex,fun zs h=>by rw [I.list_inj h q2]; exact ey⟩,⟨z'',?_,⟨u,u',?_⟩,?_,?_⟩,?_⟩
  ·have nch:∀ c,H c≠none→c≠z∧c≠TO∧c≠i1∧c≠i2:=fun c hc=>⟨fun e=>hc (by rw [e]; exact fz.1),fun e=>hc (by rw [e]; exact fTO.1),fun e=>hc (by rw [e]; exact f1.1),fun e=>hc (by rw [e]; exact f2.1)⟩
   refine Inv.step (s:=s) (g':=s.gens) (d':=s.drawn) (t':=s.toks) (ch:=[z,TO,i1,i2]) (h':=h'') I (fun b hb=>?_) (fun b o _ _ hc e _=>?_) (fun b o _ _ hc e _=>⟨o.slots,?_⟩) (fun b o _ e n=>?_) (fun b o hc e=>⟨o,?_⟩) (fun b xs e=>?_) (fun b o v e=>?_) (fun b ps e=>⟨#[],?_⟩) (fun m hm=>?_) (fun b o e=>?_) I.bare
   ·simp only [List.mem_cons,List.not_mem_nil,or_false] at hb
    rcases hb with rfl | rfl | rfl | rfl
    ·exact ⟨fz.2.2.2.1,fz.2.1,fz.2.2.2.2.1,fz.2.2.2.2.2⟩
    ·exact ⟨fTO.2.2.2.1,fTO.2.1,fTO.2.2.2.2.1,fTO.2.2.2.2.2⟩
    ·exact ⟨f1.2.2.2.1,f1.2.1,f1.2.2.2.2.1,f1.2.2.2.2.2⟩
    ·exact ⟨f2.2.2.2.1,f2.2.1,f2.2.2.2.2.1,f2.2.2.2.2.2⟩
   ·simp only [List.mem_cons,List.not_mem_nil,or_false,not_or] at hc
    exact keep2 b o hc.1 hc.2.1 hc.2.2.1 hc.2.2.2 e
   ·simp only [List.mem_cons,List.not_mem_nil,or_false,not_or] at hc
    exact keep2 b o hc.1 hc.2.1 hc.2.2.1 hc.2.2.2 e
   ·rw [zJ (Nat.ne_of_lt (Heap.lt_size e))]; exact n
   ·simp only [List.mem_cons,List.not_mem_nil,or_false,not_or] at hc
    exact keep2 b o hc.1 hc.2.1 hc.2.2.1 hc.2.2.2 e
   ·rw [zJ (zY e nT)]; exact e
   ·rw [zJ (zY e nT)]; exact e
   ·rw [zJ (zY e nT)]; simpa using e
   ·obtain ⟨o,es,ep,ho,r⟩:=hm
    exact ⟨o,es,ep,keep2 _ o (Ne.symm fz.2.1) (Ne.symm fTO.2.1) (Ne.symm f1.2.1) (Ne.symm f2.2.1) ho,r⟩
   ·by_cases hb:b = s.heap.objs.size
    ·subst hb
     rw [zf] at e
     cases e
     exact ⟨by show 2≤sizeLine; decide,[u,u'],.cons ru (.cons ru' .nil),TOK⟩
    ·rw [zJ hb] at e
     refine (I.hok b o e).stay (fun c v hc q=>?_) (fun c q=>by rw [zJ (zY q nT)]; exact q) fun c xs q=>by rw [zJ (zY q nT)]; exact q
     have hne:H c≠none:=by
      rcases hc with rfl | hc
      ·rw [e]; exact fun z=>nomatch z
      ·rw [hc]; exact fun z=>nomatch z
     obtain ⟨c1,c2,c3,c4⟩:=nch c hne
     exact keep2 c v c1 c2 c3 c4 q
  ·exact sb.extBut _ _ D.TIz (keep _ _ D.TIz D.TITO D.TIi1 D.TIi2 hTI)
  ·exact sb.extBut _ _ D.TOz TO'
  ·exact i1'.at fun o e=>sb.extBut _ _ D.i1z e
  ·exact i2'.at fun o e=>sb.extBut _ _ D.i2z e
  ·intro b hb
   rw [zJ ?_]
   ·exact (hf b hb).1
   ·simp only [List.mem_cons,List.not_mem_nil,or_false] at hb
    rcases hb with rfl | rfl | rfl | rfl | rfl
    ·exact Nat.ne_of_lt zlt
    ·exact Nat.ne_of_lt TIlt
    ·exact Nat.ne_of_lt TOlt
    ·exact Nat.ne_of_lt i1lt
    ·exact Nat.ne_of_lt i2lt
 done:=by
  intro X hP hw hK hc i pins s σ H E I hf st hg
  subst hP hw hK
  obtain ⟨hz,hTI,⟨u0,v0,hTO⟩,h1,h2⟩:=st
  obtain ⟨xs,ys,q1,q2,hx⟩:=hg
  obtain ⟨its1,rv1,p1,_⟩:=I.list q1
  obtain ⟨its2,rv2,p2,_⟩:=I.list q2
  have l1:=rv1.length
  have l2:=rv2.length
  have fz:=hf z (by simp)
  have fTO:=hf TO (by simp)
  have f1:=hf i1 (by simp)
  have f2:=hf i2 (by simp)
  refine wpAny_pyNext_zip_end (I.ok.hd hc) D hz hTI hTO h1 h2 p1.isList p2.isList (by
   rcases hx with hx | hx
   ·exact .inl (by simp; omega)
   ·exact .inr (by simp; omega)) fun h' keep=>⟨rfl,?_⟩
  have nch:∀ c,H c≠none→c≠z∧c≠TO∧c≠i1∧c≠i2:=fun c hc=>⟨fun e=>hc (by rw [e]; exact fz.1),fun e=>hc (by rw [e]; exact fTO.1),fun e=>hc (by rw [e]; exact f1.1),fun e=>hc (by rw [e]; exact f2.1)⟩
  refine Inv.step (s:=s) (g':=s.gens) (d':=s.drawn) (t':=s.toks) (ch:=[z,TO,i1,i2]) (h':=h') I (fun b hb=>?_) (fun b o _ _ hc e _=>?_) (fun b o _ _ hc e _=>⟨o.slots,?_⟩) (fun b o _ e n=>n) (fun b o hc e=>⟨o,?_⟩) (fun b xs e=>e) (fun b o v e=>e) (fun b ps e=>⟨#[],by simpa using e⟩) (fun m hm=>?_) (fun b o e=>?_) I.bare
  ·simp only [List.mem_cons,List.not_mem_nil,or_false] at hb
   rcases hb with rfl | rfl | rfl | rfl
   ·exact ⟨fz.2.2.2.1,fz.2.1,fz.2.2.2.2.1,fz.2.2.2.2.2⟩
   ·exact ⟨fTO.2.2.2.1,fTO.2.1,fTO.2.2.2.2.1,fTO.2.2.2.2.2⟩
   ·exact ⟨f1.2.2.2.1,f1.2.1,f1.2.2.2.2.1,f1.2.2.2.2.2⟩
   ·exact ⟨f2.2.2.2.1,f2.2.1,f2.2.2.2.2.1,f2.2.2.2.2.2⟩
  ·simp only [List.mem_cons,List.not_mem_nil,or_false,not_or] at hc
   exact keep b o hc.1 hc.2.1 hc.2.2.1 hc.2.2.2 e
  ·simp only [List.mem_cons,List.not_mem_nil,or_false,not_or] at hc
   exact keep b o hc.1 hc.2.1 hc.2.2.1 hc.2.2.2 e
  ·simp only [List.mem_cons,List.not_mem_nil,or_false,not_or] at hc
   exact keep b o hc.1 hc.2.1 hc.2.2.1 hc.2.2.2 e
  ·obtain ⟨o,es,ep,ho,r⟩:=hm
   exact ⟨o,es,ep,keep _ o (Ne.symm fz.2.1) (Ne.symm fTO.2.1) (Ne.symm f1.2.1) (Ne.symm f2.2.1) ho,r⟩
  ·refine (I.hok b o e).stay (fun c v hc q=>?_) (fun c q=>q) fun c xs q=>q
   have hne:H c≠none:=by
    rcases hc with rfl | hc
    ·rw [e]; exact fun z=>nomatch z
    ·rw [hc]; exact fun z=>nomatch z
   obtain ⟨c1,c2,c3,c4⟩:=nch c hne
   exact keep c v c1 c2 c3 c4 q
 self:=fun _ _ _ _ _ st h=>wpAny_pyIter_zip st.1 h
section
variable {X:Cx}
noncomputable def iZip (K:PySem.W.Frag) (ta:TA):TI:=fun σ H R=>ta σ H fun vs H1=>∃ a b xs ys,vs = [.ref a,.ref b]∧SqL K H1 a xs∧SqL K H1 b ys∧R (Itz K a b) H1
theorem zia {a b:Expr} {ta:TA} {p pos:Pos} {elts:List Expr} {k1:Nat} {tpos:Pos} (hg:Gl X "zip") (hm:X.mg "zip" = none) (ha:PA X [a,b] ta) (hs:starEach [a,b] X.env = [(false,eval a X.env),(false,eval b X.env)]:=by rfl) (hs2:starEach [b] X.env = [(false,eval b X.env)]:=by rfl) :
  PI X (.Tuple elts k1 tpos) (.Call (.Name "zip" p) [a,b] [] pos) (iZip X.K ta):=by
 intro pins s σ H R I h
 refine wpAny_Call_Name_kw (ZU I hg hm zh9 ?_)
 refine PyProof.Rows.callWith_type1 (thn (ha pos pins s σ H _ I h) fun us s1 ⟨vs,H1,I1,r1,q1⟩=>?_) (by rw [hs,hs2]) (by rw [hs2]; rfl)
 obtain ⟨a1,b1,xs,ys,rfl,h1,h2,q⟩:=q1
 obtain ⟨u,w',rfl,ra,rb⟩:=Vals.two r1
 cases ra
 cases rb
 obtain ⟨its1,rv1,p1,_⟩:=I1.list h1
 obtain ⟨its2,rv2,p2,_⟩:=I1.list h2
 have l1:a1 < s1.heap.objs.size:=let ⟨_,e,_⟩:=p1.isList; Heap.lt_size e
 have l2:b1 < s1.heap.objs.size:=let ⟨_,e,_⟩:=p2.isList; Heap.lt_size e
 refine call_zip_2 p1.isList p2.isList fun h' hz hTI hTO hi1 hi2 hsz keep=>?_
 have I2:Inv X pins σ H1 { s1 with heap:=h' }:=I1.kept (t':=s1.toks) keep
 refine wpAny_pyIter_zip (s:={ s1 with heap:=h' }) hz ?_
 refine ⟨_,_,_,_,H1,rfl,I2,zfe _ _ _ _ _ a1 b1 (zipApart_new l1 l2),⟨hz,hTI,⟨_,_,hTO⟩,hi1,hi2⟩,fun b hb=>?_,q⟩
 have hb':s1.heap.objs.size≤b:=by
  simp only [List.mem_cons,List.not_mem_nil,or_false] at hb
  rcases hb with rfl | rfl | rfl | rfl | rfl <;> omega
 exact I1.fpOk hb' (I1.hok.fresh hb')
theorem Xy (ns:List Int):∀ j,j≤ns.length→preSum (fun i=>ns.getD i 0) j = (ns.take j).sum
 | 0,_=>by simp [preSum]
 | j + 1,h=>by
  have hj:j < ns.length:=h
  rw [preSum,Xy ns j (Nat.le_of_lt hj),List.take_succ_eq_append_getElem hj,List.sum_append]
  simp [List.getD,hj]
theorem zew (hc:X.calm = true):CallR X (.builtin "sum") (fun xs H Q=>∃ p ns,xs = [.ref p]∧SqL X.K H p ((ns:List Int).map V.int)∧Q (.int ns.sum) H):=by
 intro pins s σ H xs us Q I r h
 obtain ⟨p,ns,rfl,hq,q⟩:=h
 obtain ⟨u,rfl,ru⟩:=Vals.one r
 cases ru
 obtain ⟨its,rv,pl,_⟩:=I.list hq
 have hh:X.A.in1.handled = none:=I.ok.hd hc
 have lt:p < s.heap.objs.size:=let ⟨_,e,_⟩:=pl.isList; Heap.lt_size e
 have hl:its.length = ns.length:=by rw [← rv.length,List.length_map]
 refine call_sum_walkG (wpAny_pyIter_list pl.isList ?_)
 refine ⟨s.heap.objs.size,_,_,_,_,_,fun i=>ns.getD i 0,rfl,Walks.list hh s.heap.objs.size p (Nat.ne_of_lt lt) its.toArray,⟨⟨_,Heap.get?_push_size _ rfl,rfl,rfl⟩,pl.isList.at fun o e=>Heap.get?_push_of_some _ e⟩,fun b hb=>?_,fun i v hv=>?_,fun h' tk t' keep=>?_⟩
 ·simp only [List.mem_cons,List.not_mem_nil,or_false] at hb
  rcases hb with rfl | rfl
  ·rw [Heap.size_push]; exact Nat.lt_succ_self _
  ·rw [Heap.size_push]; exact Nat.lt_succ_of_lt lt
 ·have hv':its[i]? = some v:=by simpa using hv
  have hi:i < ns.length:=by rw [← hl]; exact (List.getElem?_eq_some_iff.mp hv').1
  obtain ⟨u,hu,ru⟩:=rv.get (i:=i) (x:=.int ns[i]) (by rw [List.getElem?_map,List.getElem?_eq_getElem hi]; rfl)
  rw [hu] at hv'
  cases hv'
  obtain ⟨t,e⟩:=ru
  refine ⟨t,?_⟩
  rw [e]
  simp [List.getD,hi]
 ·have e:preSum (fun i=>ns.getD i 0) its.toArray.size = ns.sum:=by
   rw [List.size_toArray,hl,Xy ns _ (Nat.le_refl _),List.take_length]
  rw [e]
  refine ⟨.int ns.sum,H,?_,⟨t',rfl⟩,q⟩
  exact I.kept (h':=h') (t':=tk) fun b o eb=>keep b o (by simp only [List.mem_cons,List.not_mem_nil,or_false]; exact Nat.ne_of_lt (Heap.lt_size eb)) (Heap.get?_push_of_some _ eb)
end
end L2
namespace L2
open PySem PySem.Spec PyProof.Rows Nm
noncomputable def toD:Nb→PyData
 | .q r=>.tuple [.int r.num,.int (r.den:Int)]
 | .z i=>.int i
noncomputable def RN (H:Hp) (x:Nb) (v:V):Prop:=Rp H (toD x) v
theorem RN.q {H:Hp} {r:Rat} {v:V} (h:RN H (.q r) v):∃ a,v = .ref a∧H a = some (.tup [.int r.num,.int (r.den:Int)]):=by
 simp only [RN,toD,Rp,Rps] at h
 obtain ⟨a,xs,e,h1,x,r1,e1,e2,y,r2,e3,e4,e5⟩:=h
 subst e5 e4 e3 e2 e1
 exact ⟨a,e,h1⟩
theorem RN.of_q {H:Hp} {r:Rat} {a:Addr} (h:H a = some (.tup [.int r.num,.int (r.den:Int)])):RN H (.q r) (.ref a):=by
 simp only [RN,toD,Rp,Rps]
 exact ⟨a,_,rfl,h,_,_,rfl,rfl,_,_,rfl,rfl,rfl⟩
theorem RN.z {H:Hp} {i:Int} {v:V} (h:RN H (.z i) v):v = .int i:=by
 simpa only [RN,toD,Rp] using h
theorem RN.of_z {H:Hp} {i:Int}:RN H (.z i) (.int i):=by
 simp only [RN,toD,Rp]
theorem RN.mono {H H':Hp} {x:Nb} {v:V} (h:RN H x v) (g:Same H H'):RN H' x v:=Rp.mono g _ _ h
theorem xD (x:Nb):(toD x).canLay0 = true:=by
 cases x <;> rfl
theorem jj (x:Nb):(toD x).depth≤1:=by
 cases x <;> simp [toD,PyData.depth,PyData.depthAll]
theorem zbc (x y:Nb):PyData.eqv (toD x) (toD y) = decide (x = y):=by
 cases x with
 | q r =>
  cases y with
  | q s =>
   show ((r.num == s.num) && (((r.den:Int) == (s.den:Int)) && true)) = decide (Nb.q r = Nb.q s)
   by_cases h:r = s
   ·subst h; simp
   ·have h':¬ Nb.q r = Nb.q s:=fun z=>h (Nb.q.inj z)
    rw [decide_eq_false h']
    rw [Bool.and_eq_false_iff]
    by_cases h1:r.num = s.num
    ·right
     rw [Bool.and_true]
     have:¬ (r.den:Int) = (s.den:Int):=fun z=>h (Rat.ext h1 (by omega))
     simp [this]
    ·left; simp [h1]
  | z j=>simp [toD,PyData.eqv]
 | z i =>
  cases y with
  | q s=>simp [toD,PyData.eqv]
  | z j =>
   show (i == j) = decide (Nb.z i = Nb.z j)
   by_cases h:i = j
   ·subst h; simp
   ·have h':¬ Nb.z i = Nb.z j:=fun z=>h (Nb.z.inj z)
    rw [decide_eq_false h']; simp [h]
noncomputable def nsm (n:Nat):Nb→Prop
 | .q r=>Sm n r.num∧Sm n (r.den:Int)
 | .z i=>Sm n i
theorem nsm.mono {m n:Nat} {x:Nb} (h:nsm m x) (hmn:m≤n):nsm n x:=by
 cases x with
 | q r=>exact ⟨Sm.mono h.1 hmn,Sm.mono h.2 hmn⟩
 | z i=>exact Sm.mono (show Sm m i from h) hmn
theorem Xp {k i:Int} (h0:0≤i) (h1:i < k) (h9:k < 2305843009213693952):Sm 61 i:=by
 unfold Sm
 have:(2:Nat) ^ 61 = 2305843009213693952:=by decide
 omega
theorem Qf {t b:Int} (hb:b≠0):((Rat.divInt t b).den:Int).natAbs≤b.natAbs:=by
 have h:=(Yy (t:=t) hb).2
 rw [← h,Int.fdiv_eq_ediv_of_dvd (Zs t b)]
 have e:=Int.ediv_mul_cancel (Zs t b)
 have h1:(b / sg t b * sg t b).natAbs = b.natAbs:=by rw [e]
 rw [Int.natAbs_mul] at h1
 have h2:0 < (sg t b).natAbs:=Int.natAbs_pos.mpr (zeH hb)
 rw [← h1]
 exact Nat.le_mul_of_pos_right _ h2
theorem Qb {t b:Int} (hb:b≠0):(Rat.divInt t b).num.natAbs≤t.natAbs:=by
 have h:=(Yy (t:=t) hb).1
 rw [← h,Int.fdiv_eq_ediv_of_dvd (Zn t b)]
 have e:=Int.ediv_mul_cancel (Zn t b)
 have h1:(t / sg t b * sg t b).natAbs = t.natAbs:=by rw [e]
 rw [Int.natAbs_mul] at h1
 have h2:0 < (sg t b).natAbs:=Int.natAbs_pos.mpr (zeH hb)
 rw [← h1]
 exact Nat.le_mul_of_pos_right _ h2
theorem Xz {m n:Nat} {t b:Int} (hb:b≠0) (ht:Sm m t) (hs:Sm n b):Sm m (Rat.divInt t b).num∧Sm n ((Rat.divInt t b).den:Int):=⟨ht.le (Qb hb),hs.le (Qf hb)⟩
theorem zdF {k:Int} (hk:k≠0) (k0:0≤k) (a:Int):Nb.ok k (.z (a.fmod k)):=⟨hk,Int.fmod_nonneg_of_pos a (by omega),Int.fmod_lt_of_pos a (by omega)⟩
theorem Xv {k:Int} {x y:Nb} (hx:x.ok k) (hy:y.ok k):(k = 0∧∃ r s,x = .q r∧y = .q s)∨(k≠0∧∃ i j,x = .z i∧y = .z j∧0≤i∧i < k∧0≤j∧j < k):=by
 cases x with
 | q r =>
  cases y with
  | q s=>exact .inl ⟨hx,r,s,rfl,rfl⟩
  | z j=>exact absurd (show k = 0 from hx) hy.1
 | z i =>
  cases y with
  | q s=>exact absurd (show k = 0 from hy) hx.1
  | z j=>exact .inr ⟨hx.1,i,j,rfl,rfl,hx.2.1,hx.2.2,hy.2.1,hy.2.2⟩
section
variable {k:Int} {x y:Nb}
theorem zgt (k0:0≤k) (hx:x.ok k) (hy:y.ok k):(nadd k x y).ok k:=by
 rcases Xv hx hy with ⟨h,r,s,rfl,rfl⟩ | ⟨h,i,j,rfl,rfl,_⟩
 ·exact h
 ·exact zdF h k0 _
theorem zaH (k0:0≤k) (hx:x.ok k) (hy:y.ok k):(nsub k x y).ok k:=by
 rcases Xv hx hy with ⟨h,r,s,rfl,rfl⟩ | ⟨h,i,j,rfl,rfl,_⟩
 ·exact h
 ·exact zdF h k0 _
theorem zij {n:Nat} (hk:KindOk k) (h:k≠0) (hn:61≤n) (a:Int):nsm n (.z (a.fmod k)):=by
 have hl:=hk.lt
 have h0:=Int.fmod_nonneg_of_pos a (show 0 < k by omega)
 have h1:=Int.fmod_lt_of_pos a (show 0 < k by omega)
 exact (Xp h0 h1 hl.2).mono hn
theorem qL (r s:Rat):(r.den:Int) * (s.den:Int)≠0:=Int.mul_ne_zero (Zt r) (Zt s)
theorem zg1 {m:Nat} (hk:KindOk k) (hx:x.ok k) (hy:y.ok k) (sx:nsm m x) (sy:nsm m y) (hm:61≤m):nsm (m + m) (nmul k x y):=by
 rcases Xv hx hy with ⟨h,r,s,rfl,rfl⟩ | ⟨h,i,j,rfl,rfl,_⟩
 ·show Sm _ (r * s).num∧Sm _ ((r * s).den:Int)
  rw [← zbe]
  exact Xz (qL r s) (sx.1.mul sy.1) (sx.2.mul sy.2)
 ·exact zij hk h (by omega) _
end
end L2
namespace L2
open PySem PySem.Spec PyProof.Rows Nm
section
variable {α β:Type} {R S:α→β→Prop}
theorem zj:∀ {xs:List α} {ys:List β},Paired R xs ys→xs.length = ys.length
 | _,_,.nil=>rfl
 | _,_,.cons _ t=>congrArg (· + 1) (zj t)
theorem xI (f:∀ a b,R a b→S a b):∀ {xs:List α} {ys:List β},Paired R xs ys→Paired S xs ys
 | _,_,.nil=>.nil
 | _,_,.cons r t=>.cons (f _ _ r) (xI f t)
theorem qI:∀ {xs xs':List α} {ys ys':List β},Paired R xs ys→Paired R xs' ys'→Paired R (xs ++ xs') (ys ++ ys')
 | _,_,_,_,.nil,s=>s
 | _,_,_,_,.cons r t,s=>.cons r (qI t s)
theorem yb {xs:List α} {ys:List β} {a:α} {b:β} (h:Paired R xs ys) (r:R a b):Paired R (xs ++ [a]) (ys ++ [b]):=qI h (.cons r .nil)
theorem yM:∀ {xs:List α} {ys:List β} {i:Nat} {a:α},Paired R xs ys→xs[i]? = some a→∃ b,ys[i]? = some b∧R a b
 | _,_,_,_,.nil,e=>by simp at e
 | _,_,0,_,.cons r _,e=>by simp at e; subst e; exact ⟨_,rfl,r⟩
 | _,_,i + 1,a,.cons _ t,e=>by
  obtain ⟨b,h1,h2⟩:=yM (i:=i) (a:=a) t (by simpa using e)
  exact ⟨b,by simpa using h1,h2⟩
theorem zW:∀ {xs:List α} {ys:List β} {i:Nat} {b:β},Paired R xs ys→ys[i]? = some b→∃ a,xs[i]? = some a∧R a b
 | _,_,_,_,.nil,e=>by simp at e
 | _,_,0,_,.cons r _,e=>by simp at e; subst e; exact ⟨_,rfl,r⟩
 | _,_,i + 1,b,.cons _ t,e=>by
  obtain ⟨a,h1,h2⟩:=zW (i:=i) (b:=b) t (by simpa using e)
  exact ⟨a,by simpa using h1,h2⟩
theorem zae:∀ {xs:List α} {ys:List β} {b:β},Paired R xs ys→b∈ys→∃ a∈xs,R a b
 | _,_,_,.nil,e=>nomatch e
 | _,_,b,.cons r t,e=>by
  rcases List.mem_cons.mp e with rfl | e
  ·exact ⟨_,List.mem_cons_self,r⟩
  ·obtain ⟨a,h1,h2⟩:=zae t e
   exact ⟨a,List.mem_cons_of_mem _ h1,h2⟩
end
theorem zD {α:Type} {l:List α} {i:Nat} {x:α} (h:l[i]? = some x):l.take (i + 1) = l.take i ++ [x]:=by
 obtain ⟨hi,e⟩:=List.getElem?_eq_some_iff.mp h
 rw [List.take_succ_eq_append_getElem hi,e]
noncomputable def RowAt (H:Hp) (xs:List Nb) (a:Addr):Prop:=∃ vs,H a = some (.lst vs)∧Paired (RN H) xs vs
noncomputable def TabAt (H:Hp) (M:List (List Nb)) (top:Addr) (ras:List Addr):Prop:=H top = some (.lst (ras.map V.ref))∧Paired (RowAt H) M ras
theorem yO {H H':Hp} (g:Same H H') {xs:List Nb} {vs:List V} (h:Paired (RN H) xs vs):Paired (RN H') xs vs:=xI (fun _ _ r=>r.mono g) h
theorem RowAt.mono {H H':Hp} {xs:List Nb} {a:Addr} (h:RowAt H xs a) (g:Same H H'):RowAt H' xs a :=
 let ⟨vs,h1,h2⟩:=h
 ⟨vs,g _ _ h1,yO g h2⟩
theorem TabAt.mono {H H':Hp} {M:List (List Nb)} {top:Addr} {ras:List Addr} (h:TabAt H M top ras) (g:Same H H'):TabAt H' M top ras:=⟨g _ _ h.1,xI (fun _ _ r=>r.mono g) h.2⟩
theorem TabAt.row {H:Hp} {M:List (List Nb)} {top:Addr} {ras:List Addr} {i:Nat} {v:V} (h:TabAt H M top ras) (e:(ras.map V.ref)[i]? = some v):∃ xs a,M[i]? = some xs∧ras[i]? = some a∧v = .ref a∧RowAt H xs a:=by
 rw [List.getElem?_map] at e
 obtain ⟨a,ha,rfl⟩:=Option.map_eq_some_iff.mp e
 obtain ⟨xs,hx,r⟩:=zW h.2 ha
 exact ⟨xs,a,hx,ha,rfl,r⟩
noncomputable def rowD (xs:List Nb):PyData:=.list (xs.map toD)
noncomputable def tabD (M:List (List Nb)):PyData:=.list (M.map rowD)
theorem zer {H:Hp}:∀ {xs:List Nb} {vs:List V},Paired (RN H) xs vs→Rps H (xs.map toD) vs
 | _,_,.nil=>by simp [Rps]
 | _,_,.cons r t=>by
  simp only [List.map_cons,Rps]
  exact ⟨_,_,rfl,r,zer t⟩
theorem RowAt.rp {H:Hp} {xs:List Nb} {a:Addr} (h:RowAt H xs a):Rp H (rowD xs) (.ref a):=by
 obtain ⟨vs,h1,h2⟩:=h
 simp only [rowD,Rp]
 exact ⟨a,vs,rfl,h1,zer h2⟩
theorem zbI {H:Hp}:∀ {M:List (List Nb)} {ras:List Addr},Paired (RowAt H) M ras→Rps H (M.map rowD) (ras.map V.ref)
 | _,_,.nil=>by simp [Rps]
 | _,_,.cons r t=>by
  simp only [List.map_cons,Rps]
  exact ⟨_,_,rfl,r.rp,zbI t⟩
theorem TabAt.rp {H:Hp} {M:List (List Nb)} {top:Addr} {ras:List Addr} (h:TabAt H M top ras):Rp H (tabD M) (.ref top):=by
 simp only [tabD,Rp]
 exact ⟨top,_,rfl,h.1,zbI h.2⟩
theorem ZR {α:Type} (f:α→PyData) (h:∀ x,(f x).canLay0 = true):∀ l:List α,PyData.canLayAll0 (l.map f) = true
 | []=>rfl
 | x :: r=>by
  show ((f x).canLay0 && PyData.canLayAll0 (r.map f)) = true
  rw [h x,ZR f h r]; rfl
theorem jV {α:Type} (f:α→PyData) (n:Nat) (h:∀ x,(f x).depth≤n):∀ l:List α,PyData.depthAll (l.map f)≤n
 | []=>Nat.zero_le _
 | x :: r=>by
  show max (f x).depth (PyData.depthAll (r.map f))≤n
  exact Nat.max_le.mpr ⟨h x,jV f n h r⟩
theorem Ze (xs:List Nb):(rowD xs).canLay0 = true:=ZR toD xD xs
theorem qx (xs:List Nb):(rowD xs).depth≤2:=Nat.succ_le_succ (jV toD 1 jj xs)
theorem Qh (M:List (List Nb)):(tabD M).canLay0 = true:=ZR rowD Ze M
theorem ZC (M:List (List Nb)):(tabD M).depth≤3:=Nat.succ_le_succ (jV rowD 2 qx M)
theorem ZK {α:Type} (f:α→PyData) (h:∀ x,PyData.eqv (f x) (f x) = true):∀ l:List α,PyData.eqvAll (l.map f) (l.map f) = true
 | []=>rfl
 | x :: r=>by
  show (PyData.eqv (f x) (f x) && PyData.eqvAll (r.map f) (r.map f)) = true
  rw [h x,ZK f h r]; rfl
theorem qU (x:Nb):PyData.eqv (toD x) (toD x) = true:=by rw [zbc]; simp
theorem qZ (xs:List Nb):PyData.eqv (rowD xs) (rowD xs) = true:=ZK toD qU xs
theorem Xu (M:List (List Nb)):PyData.eqv (tabD M) (tabD M) = true:=ZK rowD qZ M
noncomputable def Nxt (n i:Nat) (J:Prop):Prop:=∃ m',m' < n - i∧m' = n - (i + 1)∧i + 1≤n∧J
theorem nxt {n i:Nat} {J:Prop} (h:i < n) (j:J):Nxt n i J:=⟨n - (i + 1),by omega,rfl,h,j⟩
section
variable {K:PySem.W.Frag} {g:TG} {tt:TT} {te:TE} {R:List V→Hp→Prop} {H:Hp} {σb:St}
theorem zT {a:Addr} {xs:List V} (J:Nat→List V→Hp→Prop) (h0:J 0 [] H) (hl:∀ (i:Nat) (ys:List V) (H':Hp),i≤xs.length→J i ys H'→SqL K H' a xs∧ys.length < sizeLine)
  (hs:∀ (i:Nat) (x:V) (ys:List V) (H':Hp),xs[i]? = some x→i < xs.length→J i ys H'→g x σb H' fun σ2 H2=>tt σ2 H2 fun b H3=>if b = true then te σ2 H3 fun y H4=>Nxt xs.length i (J (i + 1) (ys ++ [y]) H4) else Nxt xs.length i (J (i + 1) ys H3))
  (hd:∀ (ys:List V) (H':Hp),J xs.length ys H'→R ys H') :
  ∃ W:Nat→Nat→List V→Hp→Prop,(∃ m,W 0 m [] H)∧∀ i m ys H,W i m ys H →
   ((Itl K a).stop i H∧ys.length≤sizeLine∧R ys H) ∨
   ((Itl K a).go i H∧ys.length < sizeLine∧∀ x H',(Itl K a).yld i H x H'→g x σb H' fun σ2 H2=>tt σ2 H2 fun b H3=>if b = true then te σ2 H3 fun y H4=>∃ m',m' < m∧W (i + 1) m' (ys ++ [y]) H4 else ∃ m',m' < m∧W (i + 1) m' ys H3):=by
 refine ⟨fun i m ys H=>m = xs.length - i∧i≤xs.length∧J i ys H,⟨xs.length,by simp,Nat.zero_le _,h0⟩,?_⟩
 rintro i m ys H1 ⟨rfl,hi,j⟩
 obtain ⟨q,hz⟩:=hl i ys H1 hi j
 by_cases hlt:i < xs.length
 ·refine .inr ⟨⟨xs,xs[i],q,by simp [hlt]⟩,hz,fun x H' y=>?_⟩
  obtain ⟨e,y⟩:=y
  subst e
  exact hs i x ys _ (y xs q) hlt j
 ·have e:i = xs.length:=by omega
  subst e
  exact .inl ⟨⟨xs,q,Nat.le_refl _⟩,Nat.le_of_lt hz,hd ys H1 j⟩
theorem yA {lo:Int} {n:Nat} (J:Nat→List V→Hp→Prop) (h0:J 0 [] H) (hl:∀ (i:Nat) (ys:List V) (H':Hp),i≤n→J i ys H'→ys.length < sizeLine)
  (hs:∀ (i:Nat) (ys:List V) (H':Hp),i < n→J i ys H'→g (.int (lo + i)) σb H' fun σ2 H2=>tt σ2 H2 fun b H3=>if b = true then te σ2 H3 fun y H4=>Nxt n i (J (i + 1) (ys ++ [y]) H4) else Nxt n i (J (i + 1) ys H3))
  (hd:∀ (ys:List V) (H':Hp),J n ys H'→R ys H') :
  ∃ W:Nat→Nat→List V→Hp→Prop,(∃ m,W 0 m [] H)∧∀ i m ys H,W i m ys H →
   ((Itr lo n).stop i H∧ys.length≤sizeLine∧R ys H) ∨
   ((Itr lo n).go i H∧ys.length < sizeLine∧∀ x H',(Itr lo n).yld i H x H'→g x σb H' fun σ2 H2=>tt σ2 H2 fun b H3=>if b = true then te σ2 H3 fun y H4=>∃ m',m' < m∧W (i + 1) m' (ys ++ [y]) H4 else ∃ m',m' < m∧W (i + 1) m' ys H3):=by
 refine ⟨fun i m ys H=>m = n - i∧i≤n∧J i ys H,⟨n,by simp,Nat.zero_le _,h0⟩,?_⟩
 rintro i m ys H1 ⟨rfl,hi,j⟩
 have hz:=hl i ys H1 hi j
 by_cases hlt:i < n
 ·refine .inr ⟨hlt,hz,fun x H' y=>?_⟩
  obtain ⟨e,y⟩:=y
  subst e y
  exact hs i ys _ hlt j
 ·have e:i = n:=by omega
  subst e
  exact .inl ⟨Nat.le_refl _,Nat.le_of_lt hz,hd ys H1 j⟩
theorem qu {a b:Addr} {xs zs:List V} (he:xs.length = zs.length) (J:Nat→List V→Hp→Prop) (h0:J 0 [] H) (hl:∀ (i:Nat) (ys:List V) (H':Hp),i≤xs.length→J i ys H'→SqL K H' a xs∧SqL K H' b zs∧ys.length < sizeLine)
  (hs:∀ (i:Nat) (x z:V) (T:Addr) (ys:List V) (H':Hp),xs[i]? = some x→zs[i]? = some z→i < xs.length→H' T = none→J i ys H'→g (.ref T) σb (upd H' T (.tup [x,z])) fun σ2 H2=>tt σ2 H2 fun b H3=>if b = true then te σ2 H3 fun y H4=>Nxt xs.length i (J (i + 1) (ys ++ [y]) H4) else Nxt xs.length i (J (i + 1) ys H3))
  (hd:∀ (ys:List V) (H':Hp),J xs.length ys H'→R ys H') :
  ∃ W:Nat→Nat→List V→Hp→Prop,(∃ m,W 0 m [] H)∧∀ i m ys H,W i m ys H →
   ((Itz K a b).stop i H∧ys.length≤sizeLine∧R ys H) ∨
   ((Itz K a b).go i H∧ys.length < sizeLine∧∀ x H',(Itz K a b).yld i H x H'→g x σb H' fun σ2 H2=>tt σ2 H2 fun b H3=>if b = true then te σ2 H3 fun y H4=>∃ m',m' < m∧W (i + 1) m' (ys ++ [y]) H4 else ∃ m',m' < m∧W (i + 1) m' ys H3):=by
 refine ⟨fun i m ys H=>m = xs.length - i∧i≤xs.length∧J i ys H,⟨xs.length,by simp,Nat.zero_le _,h0⟩,?_⟩
 rintro i m ys H1 ⟨rfl,hi,j⟩
 obtain ⟨q1,q2,hz⟩:=hl i ys H1 hi j
 by_cases hlt:i < xs.length
 ·refine .inr ⟨⟨xs,zs,xs[i],zs[i]'(by omega),q1,q2,by simp [hlt],by simp [show i < zs.length by omega]⟩,hz,fun x H' y=>?_⟩
  obtain ⟨T,u,v,rfl,hT,rfl,y1,y2⟩:=y
  exact hs i u v T ys _ (y1 xs q1) (y2 zs q2) hlt hT j
 ·have e:i = xs.length:=by omega
  subst e
  exact .inl ⟨⟨xs,zs,q1,q2,.inl (Nat.le_refl _)⟩,Nat.le_of_lt hz,hd ys H1 j⟩
end
theorem zg8 {K:PySem.W.Frag} {a b:Addr} {xs zs:List V} {g:TG} {tb:TS} {D:Ends} {σ:St} {H:Hp} (he:xs.length = zs.length) (Pv:Nat→St→Hp→Prop) (h0:Pv 0 σ H) (hl:∀ i σ H,i≤xs.length→Pv i σ H→SqL K H a xs∧SqL K H b zs)
  (hs:∀ (i:Nat) (x z:V) (T:Addr) (σ:St) (H:Hp),xs[i]? = some x→zs[i]? = some z→H T = none→Pv i σ H→g (.ref T) σ (upd H T (.tup [x,z])) fun σ2 H2=>tb { D with nx:=Pv (i + 1),ct:=Pv (i + 1),bk:=D.nx } σ2 H2) (hd:∀ σ H,Pv xs.length σ H→D.nx σ H) :
  ∃ W:Nat→Nat→St→Hp→Prop,(∃ m,W 0 m σ H)∧∀ i m σ H,W i m σ H →
   ((Itz K a b).stop i H∧D.nx σ H)∨((Itz K a b).go i H∧∃ N:St→Hp→Prop,(∀ σ' H',N σ' H'→∃ m',m' < m∧W (i + 1) m' σ' H')∧∀ x H',(Itz K a b).yld i H x H'→g x σ H' fun σ2 H2=>tb { D with nx:=N,ct:=N,bk:=D.nx } σ2 H2):=by
 refine ⟨fun i m σ H=>m = xs.length - i∧i≤xs.length∧Pv i σ H,⟨xs.length,by simp,Nat.zero_le _,h0⟩,?_⟩
 rintro i m σ H ⟨rfl,hi,p⟩
 obtain ⟨q1,q2⟩:=hl i σ H hi p
 by_cases hlt:i < xs.length
 ·refine .inr ⟨⟨xs,zs,xs[i],zs[i]'(by omega),q1,q2,by simp [hlt],by simp [show i < zs.length by omega]⟩,Pv (i + 1),fun σ' H' p'=>⟨xs.length - (i + 1),by omega,rfl,hlt,p'⟩,fun x H' y=>?_⟩
  obtain ⟨T,u,v,rfl,hT,rfl,y1,y2⟩:=y
  exact hs i u v T σ _ (y1 xs q1) (y2 zs q2) hT p
 ·have e:i = xs.length:=by omega
  subst e
  exact .inl ⟨⟨xs,zs,q1,q2,.inl (Nat.le_refl _)⟩,hd σ H p⟩
end L2
namespace La
open Lean.Grind
section
variable {F:Type} [Field F]
inductive Span (S:(Nat→F)→Prop):(Nat→F)→Prop
 | zero:Span S (fun _=>0)
 | step (c:F) {r v:Nat→F} (h:S r) (t:Span S v):Span S (fun j=>c * r j + v j)
variable {S T:(Nat→F)→Prop} {u v:Nat→F}
theorem Span.cast (h:Span S u) (e:∀ j,u j = v j):Span S v:=by
 have:u = v:=funext e
 rw [← this]; exact h
theorem Span.of (h:S v):Span S v:=(Span.step 1 h .zero).cast fun j=>by grind
theorem Span.add (h:Span S u) (g:Span S v):Span S (fun j=>u j + v j):=by
 induction h with
 | zero=>exact g.cast fun j=>by grind
 | step c hr _ ih=>exact (Span.step c hr ih).cast fun j=>by grind
theorem Span.smul (c:F) (h:Span S v):Span S (fun j=>c * v j):=by
 induction h with
 | zero=>exact Span.zero.cast fun j=>by grind
 | step d hr _ ih=>exact (Span.step (c * d) hr ih).cast fun j=>by grind
theorem Span.lin (a b:F) (h:Span S u) (g:Span S v):Span S (fun j=>a * u j + b * v j):=(h.smul a).add (g.smul b)
theorem Span.bind (f:∀ r,S r→Span T r) (h:Span S v):Span T v:=by
 induction h with
 | zero=>exact .zero
 | step c hr _ ih=>exact ((f _ hr).smul c).add ih
theorem Span.mono (f:∀ r,S r→T r) (h:Span S v):Span T v:=h.bind fun r q=>.of (f r q)
theorem Span.all {P:(Nat→F)→Prop} (h:Span S v) (z:P fun _=>0) (s:∀ c r v,S r→P v→P (fun j=>c * r j + v j)):P v:=by
 induction h with
 | zero=>exact z
 | step c hr _ ih=>exact s c _ _ hr ih
theorem Span.zero_at {i:Nat} (h:Span S v) (z:∀ r,S r→r i = 0):v i = 0 :=
 h.all (P:=fun v=>v i = 0) rfl fun c r v hr hv=>by
  show c * r i + v i = 0
  rw [z r hr,hv]; grind
noncomputable abbrev Pv (F:Type):=Nat×(Nat→F)
noncomputable def Rows (P:List (Pv F)):(Nat→F)→Prop:=fun r=>∃ p∈P,p.2 = r
structure Rr (n:Nat) (P:List (Pv F)):Prop where
 inc:P.Pairwise fun a b=>a.1 < b.1
 lt:∀ p∈P,p.1 < n
 out:∀ p∈P,∀ j,n≤j→p.2 j = 0
 bef:∀ p∈P,∀ j,j < p.1→p.2 j = 0
 one:∀ p∈P,p.2 p.1 = 1
 oth:∀ p∈P,∀ q∈P,p.1≠q.1→p.2 q.1 = 0
noncomputable def comb:List (Pv F)→(Nat→F)→Nat→F
 | [],_,_=>0
 | p :: P,v,j=>v p.1 * p.2 j + comb P v j
theorem zbz (c:F) (u v:Nat→F) (j:Nat):∀ P:List (Pv F),comb P (fun i=>c * u i + v i) j = c * comb P u j + comb P v j
 | []=>by simp only [comb]; grind
 | p :: P=>by simp only [comb]; rw [zbz c u v j P]; grind
theorem jo (v:Nat→F) (j:Nat):∀ P:List (Pv F),(∀ p∈P,v p.1 * p.2 j = 0)→comb P v j = 0
 | [],_=>rfl
 | p :: P,h=>by
  simp only [comb]
  rw [h p List.mem_cons_self,jo v j P fun q hq=>h q (List.mem_cons_of_mem _ hq)]; grind
theorem QA (v:Nat→F):∀ P:List (Pv F),Span (Rows P) (comb P v)
 | []=>Span.zero.cast fun _=>rfl
 | p :: P=>by
  have h:=(QA v P).mono (T:=Rows (p :: P)) fun r ⟨q,hq,e⟩=>⟨q,List.mem_cons_of_mem _ hq,e⟩
  exact (Span.step (v p.1) (r:=p.2) (S:=Rows (p :: P)) ⟨p,List.mem_cons_self,rfl⟩ h).cast fun j=>rfl
theorem Xw {v:Nat→F} {p:Pv F} (j:Nat):∀ P:List (Pv F),P.Pairwise (fun a b=>a.1 < b.1)→p∈P→v p.1 = 1→(∀ q∈P,q.1≠p.1→v q.1 = 0)→comb P v j = p.2 j
 | [],_,h,_,_=>nomatch h
 | q :: P,inc,h,h1,h0=>by
  rw [List.pairwise_cons] at inc
  simp only [comb]
  rcases List.mem_cons.mp h with e | h
  ·subst e
   rw [jo v j P fun r hr=>by rw [h0 r (List.mem_cons_of_mem _ hr) (Nat.ne_of_gt (inc.1 r hr))]; grind]
   rw [h1]; grind
  ·rw [h0 q List.mem_cons_self (Nat.ne_of_lt (inc.1 p h)),Xw j P inc.2 h h1 fun r hr=>h0 r (List.mem_cons_of_mem _ hr)]; grind
variable {n:Nat} {P Q:List (Pv F)}
theorem Rr.self (R:Rr n P) {p:Pv F} (h:p∈P) (j:Nat):comb P p.2 j = p.2 j:=Xw j P R.inc h (R.one p h) fun q hq ne=>R.oth p h q hq (Ne.symm ne)
theorem Rr.comb (R:Rr n P) (h:Span (Rows P) v):∀ j,La.comb P v j = v j:=fun j =>
 h.all (P:=fun v=>La.comb P v j = v j) (jo _ j P fun p _=>by grind) fun c r v ⟨p,hp,e⟩ hv=>by
  rw [zbz,hv,← e,R.self hp j]
theorem Rr.lead (R:Rr n P) {i:Nat} (h:Span (Rows P) v) (z:∀ j,j < i→v j = 0) (ne:v i≠0):∃ p∈P,p.1 = i:=by
 refine Classical.byContradiction fun no=>ne ?_
 rw [← R.comb h i]
 refine jo _ i P fun p hp=>?_
 rcases Nat.lt_trichotomy p.1 i with g | g | g
 ·rw [z p.1 g]; grind
 ·exact absurd ⟨p,hp,g⟩ no
 ·rw [R.bef p hp i g]; grind
theorem XY:∀ {P Q:List (Pv F)},P.Pairwise (fun a b=>a.1 < b.1)→Q.Pairwise (fun a b=>a.1 < b.1)→(∀ p∈P,p∈Q)→(∀ q∈Q,q∈P)→P = Q
 | [],[],_,_,_,_=>rfl
 | [],q :: _,_,_,_,h=>nomatch h q List.mem_cons_self
 | p :: _,[],_,_,h,_=>nomatch h p List.mem_cons_self
 | p :: P,q :: Q,hP,hQ,h1,h2=>by
  rw [List.pairwise_cons] at hP hQ
  have e:p = q:=by
   rcases List.mem_cons.mp (h1 p List.mem_cons_self) with e | m
   ·exact e
   ·rcases List.mem_cons.mp (h2 q List.mem_cons_self) with e | m'
    ·exact e.symm
    ·have:=hP.1 q m'; have:=hQ.1 p m; omega
  subst e
  rw [XY hP.2 hQ.2 (fun r hr=>?_) (fun r hr=>?_)]
  ·rcases List.mem_cons.mp (h1 r (List.mem_cons_of_mem _ hr)) with e | m
   ·subst e; exact absurd (hP.1 r hr) (Nat.lt_irrefl _)
   ·exact m
  ·rcases List.mem_cons.mp (h2 r (List.mem_cons_of_mem _ hr)) with e | m
   ·subst e; exact absurd (hQ.1 r hr) (Nat.lt_irrefl _)
   ·exact m
theorem Rr.leads (R:Rr n P) (R':Rr n Q) (sub:∀ v,Span (Rows P) v→Span (Rows Q) v) {p:Pv F} (hp:p∈P):∃ q∈Q,q.1 = p.1 :=
 R'.lead (sub _ (.of ⟨p,hp,rfl⟩)) (fun j hj=>R.bef p hp j hj) (by rw [R.one p hp]; grind)
theorem Rr.mem_of (R:Rr n P) (R':Rr n Q) (s1:∀ v,Span (Rows P) v→Span (Rows Q) v) (s2:∀ v,Span (Rows Q) v→Span (Rows P) v) {p:Pv F} (hp:p∈P):p∈Q:=by
 obtain ⟨q,hq,e⟩:=R.leads R' s1 hp
 have:p = q:=by
  refine Prod.ext e.symm (funext fun j=>?_)
  rw [← R'.comb (s1 _ (.of ⟨p,hp,rfl⟩)) j]
  refine Xw j Q R'.inc hq (by rw [e]; exact R.one p hp) fun r hr ne=>?_
  obtain ⟨p',hp',e'⟩:=R'.leads R s2 hr
  rw [← e']
  exact R.oth p hp p' hp' fun z=>ne (by rw [← e',← z,e])
 rw [this]; exact hq
theorem Rr.unique (R:Rr n P) (R':Rr n Q) (s1:∀ v,Span (Rows P) v→Span (Rows Q) v) (s2:∀ v,Span (Rows Q) v→Span (Rows P) v):P = Q :=
 XY R.inc R'.inc (fun _ h=>R.mem_of R' s1 s2 h) fun _ h=>R'.mem_of R s2 s1 h
structure Sw (n c:Nat) (O:(Nat→F)→Prop) (D:List (Pv F)) (W:List (Nat→F)):Prop where
 inc:D.Pairwise fun a b=>a.1 < b.1
 lt:∀ p∈D,p.1 < c
 bef:∀ p∈D,∀ j,j < p.1→p.2 j = 0
 one:∀ p∈D,p.2 p.1≠0
 oth:∀ p∈D,∀ q∈D,p.1≠q.1→p.2 q.1 = 0
 nil:∀ w∈W,∀ j,j < c→w j = 0
 to:∀ r,O r→Span (fun r=>Rows D r∨r∈W) r
 fro:∀ r,(Rows D r∨r∈W)→Span O r
theorem zfJ (n:Nat) (W:List (Nat→F)) (O:(Nat→F)→Prop) (h1:∀ r,O r→Span (·∈W) r) (h2:∀ r∈W,Span O r):Sw n 0 O ([]:List (Pv F)) W where
 inc:=.nil
 lt:=fun p h=>nomatch h
 bef:=fun p h=>nomatch h
 one:=fun p h=>nomatch h
 oth:=fun p h=>nomatch h
 nil:=fun w _ j h=>absurd h (Nat.not_lt_zero j)
 to:=fun r h=>(h1 r h).mono fun _=>.inr
 fro:=fun r h=>h.elim (fun ⟨p,hp,_⟩=>nomatch hp) (h2 r)
variable {c:Nat} {O:(Nat→F)→Prop} {D D':List (Pv F)} {W W':List (Nat→F)}
theorem Sw.skip (s:Sw n c O D W) (h:∀ w∈W,w c = 0):Sw n (c + 1) O D W :=
 { s with
  lt:=fun p hp=>Nat.lt_succ_of_lt (s.lt p hp)
  nil:=fun w hw j hj=>by
   rcases Nat.lt_succ_iff_lt_or_eq.mp hj with g | g
   ·exact s.nil w hw j g
   ·rw [g]; exact h w hw }
noncomputable def Clr (c:Nat) (l r r':Nat→F):Prop:=(∃ a b:F,a≠0∧∀ j,r' j = a * r j + b * l j)∧r' c = 0
theorem Clr.back {l r r':Nat→F} (h:Clr c l r r') {S:(Nat→F)→Prop} (hl:Span S l) (hr:Span S r'):Span S r:=by
 obtain ⟨⟨a,b,ha,e⟩,_⟩:=h
 exact (hr.lin (1 / a) (-b / a) hl).cast fun j=>by rw [e j]; grind
theorem Clr.to {l r r':Nat→F} (h:Clr c l r r') {S:(Nat→F)→Prop} (hl:Span S l) (hr:Span S r):Span S r':=by
 obtain ⟨⟨a,b,ha,e⟩,_⟩:=h
 exact (hr.lin a b hl).cast fun j=>by rw [e j]
theorem Sw.turn {α:Type} {E:List α} {a b:α→Pv F} (s:Sw n c O (E.map a) W) {l:Nat→F} (hl:l∈W) (lc:l c≠0) (hf:∀ e∈E,(b e).1 = (a e).1∧Clr c l (a e).2 (b e).2)
  (hW:∀ w∈W',(w∈W∧w c = 0)∨∃ r∈W,Clr c l r w) (hW2:∀ w∈W,w∈W'∨w = l∨∃ w'∈W',Clr c l w w'):Sw n (c + 1) O (E.map b ++ [(c,l)]) W':=by
 have lz:∀ j,j < c→l j = 0:=s.nil l hl
 have ina:∀ e∈E,a e∈E.map a:=fun e he=>List.mem_map.mpr ⟨e,he,rfl⟩
 have alt:∀ e∈E,(a e).1 < c:=fun e he=>s.lt _ (ina e he)
 have fz:∀ e∈E,∀ j,j < c→(a e).2 j = 0→(b e).2 j = 0:=fun e he j hj z=>by
  obtain ⟨_,⟨x,y,ha,q⟩,_⟩:=hf e he
  rw [q j,z,lz j hj]; grind
 have mem:∀ q∈E.map b ++ [(c,l)],(∃ e∈E,q = b e)∨q = (c,l):=fun q hq=>by
  rcases List.mem_append.mp hq with h | h
  ·obtain ⟨p,hp,e⟩:=List.mem_map.mp h
   exact .inl ⟨p,hp,e.symm⟩
  ·exact .inr (List.mem_singleton.mp h)
 have inl:(c,l)∈E.map b ++ [(c,l)]:=List.mem_append_right _ (List.mem_singleton.mpr rfl)
 have ind:∀ e∈E,b e∈E.map b ++ [(c,l)]:=fun e he=>List.mem_append_left _ (List.mem_map.mpr ⟨e,he,rfl⟩)
 refine ⟨?_,fun q hq=>?_,fun q hq j hj=>?_,fun q hq=>?_,fun q hq q' hq' ne=>?_,fun w hw j hj=>?_,fun r hr=>?_,fun r hr=>?_⟩
 ·rw [List.pairwise_append]
  refine ⟨?_,List.pairwise_singleton _ _,fun x hx y hy=>?_⟩
  ·have h:=s.inc
   rw [List.pairwise_map] at h ⊢
   refine h.imp_of_mem fun {x y} hx hy q=>?_
   rw [(hf x hx).1,(hf y hy).1]; exact q
  ·obtain ⟨p,hp,e⟩:=List.mem_map.mp hx
   rw [List.mem_singleton.mp hy,← e,(hf p hp).1]; exact alt p hp
 ·rcases mem q hq with ⟨p,hp,rfl⟩ | rfl
  ·rw [(hf p hp).1]; exact Nat.lt_succ_of_lt (alt p hp)
  ·exact Nat.lt_succ_self _
 ·rcases mem q hq with ⟨p,hp,rfl⟩ | rfl
  ·rw [(hf p hp).1] at hj
   exact fz p hp j (Nat.lt_trans hj (alt p hp)) (s.bef _ (ina p hp) j hj)
  ·exact lz j hj
 ·rcases mem q hq with ⟨p,hp,rfl⟩ | rfl
  ·obtain ⟨e1,⟨x,y,ha,e⟩,_⟩:=hf p hp
   rw [e1,e,lz _ (alt p hp)]
   have:=s.one _ (ina p hp)
   intro z
   grind
  ·exact lc
 ·rcases mem q hq with ⟨p,hp,rfl⟩ | rfl
  ·rcases mem q' hq' with ⟨p',hp',rfl⟩ | rfl
   ·rw [(hf p hp).1,(hf p' hp').1] at ne
    rw [(hf p' hp').1]
    exact fz p hp _ (alt p' hp') (s.oth _ (ina p hp) _ (ina p' hp') ne)
   ·exact (hf p hp).2.2
  ·rcases mem q' hq' with ⟨p',hp',rfl⟩ | rfl
   ·rw [(hf p' hp').1]; exact lz _ (alt p' hp')
   ·exact absurd rfl ne
 ·rcases hW w hw with ⟨h,z⟩ | ⟨r,hr,⟨⟨x,y,ha,e⟩,z⟩⟩
  ·rcases Nat.lt_succ_iff_lt_or_eq.mp hj with g | g
   ·exact s.nil w h j g
   ·rw [g]; exact z
  ·rcases Nat.lt_succ_iff_lt_or_eq.mp hj with g | g
   ·rw [e j,s.nil r hr j g,lz j g]; grind
   ·rw [g]; exact z
 ·refine (s.to r hr).bind fun u hu=>?_
  have L:Span (fun r=>Rows (E.map b ++ [(c,l)]) r∨r∈W') l:=.of (.inl ⟨_,inl,rfl⟩)
  rcases hu with ⟨q,hq,rfl⟩ | hu
  ·obtain ⟨p,hp,rfl⟩:=List.mem_map.mp hq
   exact (hf p hp).2.back L (.of (.inl ⟨_,ind p hp,rfl⟩))
  ·rcases hW2 u hu with h | h | ⟨w',h,k⟩
   ·exact .of (.inr h)
   ·rw [h]; exact L
   ·exact k.back L (.of (.inr h))
 ·have L:Span O l:=s.fro l (.inr hl)
  rcases hr with ⟨q,hq,rfl⟩ | hr
  ·rcases mem q hq with ⟨p,hp,rfl⟩ | rfl
   ·exact (hf p hp).2.to L (s.fro _ (.inl ⟨_,ina p hp,rfl⟩))
   ·exact L
  ·rcases hW r hr with ⟨h,_⟩ | ⟨u,hu,k⟩
   ·exact s.fro _ (.inr h)
   ·exact k.to L (s.fro _ (.inr hu))
theorem Sw.done (s:Sw n n O D W) (ow:∀ w∈W,∀ j,n≤j→w j = 0) (od:∀ p∈D,∀ j,n≤j→p.2 j = 0):Rr n (D.map fun p=>(p.1,fun j=>p.2 j / p.2 p.1)) ∧
  (∀ v,Span (Rows (D.map fun p=>(p.1,fun j=>p.2 j / p.2 p.1))) v→Span O v)∧(∀ v,Span O v→Span (Rows (D.map fun p=>(p.1,fun j=>p.2 j / p.2 p.1))) v):=by
 have wz:∀ w∈W,∀ j,w j = 0:=fun w hw j=>by
  rcases Nat.lt_or_ge j n with g | g
  ·exact s.nil w hw j g
  ·exact ow w hw j g
 refine ⟨⟨?_,fun q hq=>?_,fun q hq j hj=>?_,fun q hq j hj=>?_,fun q hq=>?_,fun q hq q' hq' ne=>?_⟩,fun v hv=>?_,fun v hv=>?_⟩
 ·rw [List.pairwise_map]; exact s.inc
 ·obtain ⟨p,hp,rfl⟩:=List.mem_map.mp hq; exact s.lt p hp
 ·obtain ⟨p,hp,rfl⟩:=List.mem_map.mp hq
  show p.2 j / p.2 p.1 = 0
  rw [od p hp j hj]; grind
 ·obtain ⟨p,hp,rfl⟩:=List.mem_map.mp hq
  show p.2 j / p.2 p.1 = 0
  rw [s.bef p hp j hj]; grind
 ·obtain ⟨p,hp,rfl⟩:=List.mem_map.mp hq
  show p.2 p.1 / p.2 p.1 = 1
  have:=s.one p hp
  grind
 ·obtain ⟨p,hp,rfl⟩:=List.mem_map.mp hq
  obtain ⟨p',hp',rfl⟩:=List.mem_map.mp hq'
  show p.2 p'.1 / p.2 p.1 = 0
  rw [s.oth p hp p' hp' ne]; grind
 ·refine hv.bind fun r ⟨q,hq,e⟩=>?_
  obtain ⟨p,hp,rfl⟩:=List.mem_map.mp hq
  rw [← e]
  exact ((s.fro p.2 (.inl ⟨p,hp,rfl⟩)).smul (1 / p.2 p.1)).cast fun j=>by grind
 ·refine (hv.bind s.to).bind fun r hr=>?_
  rcases hr with ⟨p,hp,rfl⟩ | hr
  ·have:=s.one p hp
   have h:Span (Rows (D.map fun p=>(p.1,fun j=>p.2 j / p.2 p.1))) (fun j=>p.2 j / p.2 p.1):=Span.of ⟨_,List.mem_map.mpr ⟨p,hp,rfl⟩,rfl⟩
   exact (h.smul (p.2 p.1)).cast fun j=>by grind
  ·exact Span.zero.cast fun j=>(wz r hr j).symm
end
end La
namespace La
open Lean.Grind Nm
noncomputable def ι {F:Type} [CommRing F] (w:Int):F:=(Ring.intCast:IntCast F).intCast w
section
variable {F:Type} [CommRing F]
theorem ι_add (x y:Int):(ι (x + y):F) = ι x + ι y:=Ring.intCast_add x y
theorem ι_mul (x y:Int):(ι (x * y):F) = ι x * ι y:=Ring.intCast_mul x y
theorem ι_sub (x y:Int):(ι (x - y):F) = ι x - ι y:=Ring.intCast_sub x y
theorem ι_zero:(ι 0:F) = 0:=Ring.intCast_zero
theorem ι_one:(ι 1:F) = 1:=Ring.intCast_one
end
structure Kf (k:Int) (F:Type) [Field F] where
 to:Nb→F
 of:F→Nb
 ok:∀ x,(of x).ok k
 to_of:∀ x,to (of x) = x
 of_to:∀ x,x.ok k→of (to x) = x
 add:∀ {x y},x.ok k→y.ok k→to (nadd k x y) = to x + to y
 sub:∀ {x y},x.ok k→y.ok k→to (nsub k x y) = to x - to y
 mul:∀ {x y},x.ok k→y.ok k→to (nmul k x y) = to x * to y
 div:∀ {x y},x.ok k→y.ok k→y≠nnum k 0→to (ndiv k x y) = to x / to y
 num:∀ w:Int,to (nnum k w) = ι w
 zero:∀ w:Int,(ι w:F) = 0↔k ∣ w
 rat:∀ r:Rat,k = 0→to (.q r) * ι (r.den:Int) = ι r.num
 rest:∀ i:Int,k≠0→to (.z i) = ι i
noncomputable def zpw {F:Type} [CommRing F] (inv:F→F) (a:F):Int→F
 | .ofNat n=>a ^ n
 | .negSucc n=>inv (a ^ (n + 1))
@[reducible] noncomputable def fieldOf {F:Type} [CommRing F] (h01:(0:F)≠1) (hinv:∀ a:F,∃ b:F,(a = 0→b = 0)∧(a≠0→a * b = 1)):Field F :=
 have un:∀ a b c:F,a * b = 1→a * c = 1→b = c:=fun a b c h1 h2=>by
  have:b = b * (a * c):=by rw [h2]; grind
  have:c = c * (a * b):=by rw [h1]; grind
  grind
 let inv:F→F:=fun a=>Classical.choose (hinv a)
 have i0:∀ a,a = 0→inv a = 0:=fun a=>(Classical.choose_spec (hinv a)).1
 have i1:∀ a,a≠0→a * inv a = 1:=fun a=>(Classical.choose_spec (hinv a)).2
 have ii:∀ a,inv (inv a) = a:=fun a=>by
  by_cases h:a = 0
  ·rw [i0 a h,i0 0 rfl,h]
  ·have h':inv a≠0:=fun z=>by
    have:=i1 a h
    rw [z] at this
    exact h01 (by rw [← this]; grind)
   have e1:=i1 a h
   have e2:=i1 _ h'
   exact un (inv a) _ _ e2 (by rw [← e1]; grind)
 letI:Inv F:=⟨inv⟩
 letI:Div F:=⟨fun a b=>a * inv b⟩
 letI:HPow F Int F:=⟨zpw inv⟩
 {zpow:=⟨zpw inv⟩
  div_eq_mul_inv:=fun a b=>rfl
  zero_ne_one:=h01
  inv_zero:=i0 0 rfl
  mul_inv_cancel:=fun {a} h=>i1 a h
  zpow_zero:=fun a=>Semiring.pow_zero a
  zpow_succ:=fun a n=>Semiring.pow_succ a n
  zpow_neg:=fun a n=>by
   show zpw inv a (-n) = inv (zpw inv a n)
   match n with
   | .ofNat 0 =>
    show a ^ 0 = inv (a ^ 0)
    rw [Semiring.pow_zero]
    have:=i1 1 (Ne.symm h01)
    exact un 1 _ _ (by grind) this
   | .ofNat (m + 1)=>rfl
   | .negSucc m =>
    show a ^ (m + 1) = inv (inv (a ^ (m + 1)))
    rw [ii] }
noncomputable def kfRat:Kf 0 Rat where
 to:=fun x=>match x with | .q r=>r | .z _=>0
 of:=.q
 ok:=fun _=>rfl
 to_of:=fun _=>rfl
 of_to:=fun x h=>by cases x with
  | q r=>rfl
  | z i=>exact absurd rfl h.1
 add:=fun {x y} hx hy=>by
  cases x with
  | z i=>exact absurd rfl hx.1
  | q r=>cases y with
   | z i=>exact absurd rfl hy.1
   | q s=>rfl
 sub:=fun {x y} hx hy=>by
  cases x with
  | z i=>exact absurd rfl hx.1
  | q r=>cases y with
   | z i=>exact absurd rfl hy.1
   | q s=>rfl
 mul:=fun {x y} hx hy=>by
  cases x with
  | z i=>exact absurd rfl hx.1
  | q r=>cases y with
   | z i=>exact absurd rfl hy.1
   | q s=>rfl
 div:=fun {x y} hx hy _=>by
  cases x with
  | z i=>exact absurd rfl hx.1
  | q r=>cases y with
   | z i=>exact absurd rfl hy.1
   | q s=>rfl
 num:=fun w=>rfl
 zero:=fun w=>by
  rw [Int.zero_dvd]
  exact Rat.intCast_eq_zero_iff
 rat:=fun r _=>by
  show r * ((r.den:Int):Rat) = ((r.num:Int):Rat)
  have e:Rat.divInt r.num r.den * Rat.divInt (r.den:Int) 1 = Rat.divInt r.num 1:=by
   rw [Rat.divInt_mul_divInt,Rat.divInt_eq_divInt_iff (by have:=Zt r; omega) (by decide)]
   grind
  have o:∀ a:Int,Rat.divInt a 1 = (a:Rat):=fun a=>by
   rw [Rat.divInt_eq_div]
   show (a:Rat) / 1 = a
   grind
  rw [Rat.num_divInt_den,o,o] at e
  exact e
 rest:=fun i h=>absurd rfl h
theorem zdN {F:Type} [Field F] {a b z:F} (h:z * b = 1):a * z = a / b:=by
 have n:b≠0:=fun e=>by rw [e] at h; grind
 grind
section
variable {k:Int} {p:Nat} [NeZero p]
theorem zik (hp:(p:Int) = k):(ι k:Fin p) = 0:=by
 subst hp
 show Fin.intCast (p:Int) = 0
 unfold Fin.intCast
 rw [if_pos (Int.natCast_nonneg p)]
 refine Fin.ext ?_
 show (p:Int).natAbs % p = 0 % p
 simp
theorem zeG (hp:(p:Int) = k) {w:Int} (h:k ∣ w):(ι w:Fin p) = 0:=by
 obtain ⟨c,rfl⟩:=h
 rw [ι_mul,zik hp]; grind
theorem Zj (hp:(p:Int) = k) {a b:Int} (h:k ∣ a - b):(ι a:Fin p) = ι b:=by
 have:=zeG hp h
 rw [ι_sub] at this
 grind
theorem zeB (hp:(p:Int) = k) {i:Int} (h0:0≤i) (h1:i < k):((ι i:Fin p).val:Int) = i:=by
 show ((Fin.intCast i:Fin p).val:Int) = i
 unfold Fin.intCast
 rw [if_pos h0]
 show ((i.natAbs % p:Nat):Int) = i
 rw [Nat.mod_eq_of_lt (by omega)]; omega
theorem fin_ι (x:Fin p):(ι (x.val:Int):Fin p) = x:=by
 show (Fin.intCast (x.val:Int):Fin p) = x
 unfold Fin.intCast
 rw [if_pos (Int.natCast_nonneg _)]
 refine Fin.ext ?_
 show (x.val:Int).natAbs % p = x.val
 rw [Int.natAbs_natCast,Nat.mod_eq_of_lt x.isLt]
theorem zbs (hp:(p:Int) = k) (w:Int):(ι w:Fin p) = 0↔k ∣ w:=by
 refine ⟨fun h=>?_,zeG hp⟩
 have k0:0 < k:=by have:=NeZero.ne p; omega
 have e:(ι w:Fin p) = ι (w % k):=Zj hp ⟨w / k,by have:=Int.emod_add_mul_ediv w k; omega⟩
 have v:=zeB (p:=p) hp (Int.emod_nonneg w (by omega)) (Int.emod_lt_of_pos w k0)
 rw [← e,h] at v
 have:w % k = 0:=by rw [← v]; rfl
 exact Int.dvd_of_emod_eq_zero this
theorem zgE (h:Pr k) (hp:(p:Int) = k) (a:Fin p):∃ b:Fin p,(a = 0→b = 0)∧(a≠0→a * b = 1):=by
 by_cases z:a = 0
 ·exact ⟨0,fun _=>rfl,fun n=>absurd z n⟩
 ·have a0:0 < (a.val:Int):=by
   have:a.val≠0:=fun e=>z (Fin.ext e)
   omega
  obtain ⟨x,x0,xk,hx⟩:=XN h a0 (by have:=a.isLt; omega)
  refine ⟨ι x,fun e=>absurd e z,fun _=>?_⟩
  have:=Zj (p:=p) hp hx
  rw [ι_mul,fin_ι,ι_one] at this
  grind
theorem zif (h:Pr k) (hp:(p:Int) = k):(0:Fin p)≠1:=fun e=>by
 have:(ι 1:Fin p) = 0:=by rw [ι_one]; exact e.symm
 have:=(zbs hp 1).mp this
 have:=Int.le_of_dvd (by decide) this
 have:=h.lo
 omega
@[reducible] noncomputable def fieldFin (h:Pr k) (hp:(p:Int) = k):Field (Fin p):=fieldOf (zif h hp) (zgE h hp)
noncomputable def kfFin (h:Pr k) (hp:(p:Int) = k) : @Kf k (Fin p) (fieldFin h hp) :=
 letI:=fieldFin h hp
 have k1:=h.lo
 have k0:k≠0:=by omega
 have fm:∀ a:Int,(ι (a.fmod k):Fin p) = ι a:=fun a=>Zj hp (ZW k a)
 {to:=fun x=>match x with | .q _=>0 | .z i=>ι i
  of:=fun x=>.z x.val
  ok:=fun x=>⟨k0,Int.natCast_nonneg _,by have:=x.isLt; omega⟩
  to_of:=fun x=>fin_ι x
  of_to:=fun x hx=>by cases x with
   | q r=>exact absurd hx k0
   | z i=>exact congrArg Nb.z (zeB hp hx.2.1 hx.2.2)
  add:=fun {x y} hx hy=>by
   cases x with
   | q r=>exact absurd hx k0
   | z i=>cases y with
    | q s=>exact absurd hy k0
    | z j=>exact (fm _).trans (ι_add i j)
  sub:=fun {x y} hx hy=>by
   cases x with
   | q r=>exact absurd hx k0
   | z i=>cases y with
    | q s=>exact absurd hy k0
    | z j=>exact (fm _).trans (ι_sub i j)
  mul:=fun {x y} hx hy=>by
   cases x with
   | q r=>exact absurd hx k0
   | z i=>cases y with
    | q s=>exact absurd hy k0
    | z j=>exact (fm _).trans (ι_mul i j)
  div:=fun {x y} hx hy ne=>by
   cases x with
   | q r=>exact absurd hx k0
   | z i=>cases y with
    | q s=>exact absurd hy k0
    | z j =>
     have j0:j≠0:=fun z=>ne (by unfold nnum; rw [if_neg k0,z,Int.zero_fmod])
     obtain ⟨x,x0,xk,hx'⟩:=XN h (show 0 < j by have:=hy.2.1; omega) hy.2.2
     have e:=Zj (p:=p) hp hx'
     rw [ι_mul,ι_one] at e
     refine Eq.trans (b:=ι i * ι x) ?_ (zdN e)
     show (ι ((i * zinv k j).fmod k):Fin p) = ι i * ι x
     rw [fm,ι_mul,zdn x0 xk hx']
  num:=fun w=>by
   unfold nnum
   rw [if_neg k0]
   exact fm w
  zero:=zbs hp
  rat:=fun r e=>absurd e k0
  rest:=fun i _=>rfl }
end
theorem yl {k:Int} (h:KindOk k):∃ (F:Type) (inst:Field F) (dec:DecidableEq F),Nonempty (Kf k F):=by
 rcases h with rfl | h
 ·exact ⟨Rat,inferInstance,inferInstance,⟨kfRat⟩⟩
 ·have k1:=h.lo
  haveI:NeZero k.toNat:=⟨by omega⟩
  have hp:((k.toNat:Nat):Int) = k:=by omega
  exact ⟨Fin k.toNat,fieldFin h hp,inferInstance,⟨kfFin h hp⟩⟩
end La
namespace La
open Lean.Grind Nm
section
variable {k:Int} {F:Type} [Field F]
noncomputable def fv (ws:List Int):Nat→F:=fun j=>ι (ws.getD j 0)
theorem zbQ {ws:List Int} {j:Nat} (h:ws.length≤j):(fv ws j:F) = 0:=by
 unfold fv
 rw [List.getD_eq_getElem?_getD,List.getElem?_eq_none h]
 exact ι_zero
noncomputable def Nf (k:Int) (ws:List Int):Prop:=k≠0→∀ w∈ws,0≤w∧w < k
theorem YT (φ:Kf k F) {ws:List Int} (h:Nf k ws) (j:Nat):(fv ws j:F) = 0↔ws.getD j 0 = 0:=by
 unfold fv
 rw [φ.zero]
 constructor
 ·intro d
  by_cases k0:k = 0
  ·rw [k0,Int.zero_dvd] at d; exact d
  ·have hw:0≤ws.getD j 0∧ws.getD j 0 < k:=by
    rcases Nat.lt_or_ge j ws.length with g | g
    ·rw [List.getD_eq_getElem?_getD,List.getElem?_eq_getElem g]
     exact h k0 _ (List.getElem_mem g)
    ·rw [List.getD_eq_getElem?_getD,List.getElem?_eq_none g]
     refine ⟨Int.le_refl _,?_⟩
     show 0 < k
     have n:0≤k:=by
      rcases Int.lt_or_le k 0 with z | z
      ·exfalso
       have:=φ.ok (φ.to (.z 0))
       generalize φ.of (φ.to (.z 0)) = x at this
       cases x with
       | q r=>exact k0 this
       | z i=>obtain ⟨_,i0,i1⟩:=this; omega
      ·exact z
     omega
   obtain ⟨c,hc⟩:=d
   rcases Int.lt_trichotomy c 0 with g | g | g
   ·have:k * c≤k * (-1):=Int.mul_le_mul_of_nonneg_left (by omega) (by omega)
    omega
   ·rw [hc,g,Int.mul_zero]
   ·have:k * 1≤k * c:=Int.mul_le_mul_of_nonneg_left (by omega) (by omega)
    omega
 ·intro e; rw [e]; exact Int.dvd_zero k
noncomputable def gcdL (ws:List Int):Nat:=ws.foldl (fun d w=>Nat.gcd d w.natAbs) 0
theorem jT:∀ (ws:List Int) (d:Nat),(ws.foldl (fun d w=>Nat.gcd d w.natAbs) d ∣ d)∧∀ w∈ws,((ws.foldl (fun d w=>Nat.gcd d w.natAbs) d:Nat):Int) ∣ w
 | [],d=>⟨Nat.dvd_refl d,fun w h=>nomatch h⟩
 | x :: ws,d=>by
  obtain ⟨h1,h2⟩:=jT ws (Nat.gcd d x.natAbs)
  refine ⟨Nat.dvd_trans h1 (Nat.gcd_dvd_left _ _),fun w hw=>?_⟩
  rcases List.mem_cons.mp hw with e | hw
  ·rw [e]
   exact Int.ofNat_dvd_left.mpr (Nat.dvd_trans h1 (Nat.gcd_dvd_right _ _))
  ·exact h2 w hw
theorem zbo {ws:List Int} {w:Int} (h:w∈ws):((gcdL ws:Nat):Int) ∣ w:=(jT ws 0).2 w h
noncomputable def easedM (k:Int) (ws:List Int):List Int:=if k≠0 then ws.map (·.fmod k) else if gcdL ws = 0 then ws else ws.map fun w=>w.fdiv ((gcdL ws:Nat):Int)
theorem Jf (ws:List Int):(easedM k ws).length = ws.length:=by
 unfold easedM; split
 ·exact List.length_map _
 ·split
  ·rfl
  ·exact List.length_map _
theorem zal (k0:0≤k) (ws:List Int):Nf k (easedM k ws):=fun h w hw=>by
 unfold easedM at hw
 rw [if_pos h] at hw
 obtain ⟨x,_,rfl⟩:=List.mem_map.mp hw
 exact ⟨Int.fmod_nonneg_of_pos x (by omega),Int.fmod_lt_of_pos x (by omega)⟩
theorem zbq {α β:Type} (f:α→β) (a:α) (b:β) (h:f a = b) (l:List α) (j:Nat):(l.map f).getD j b = f (l.getD j a):=by
 rw [List.getD_eq_getElem?_getD,List.getD_eq_getElem?_getD,List.getElem?_map,← h]
 cases l[j]? <;> rfl
theorem jL {w d:Int} (h:d ∣ w) (hd:d≠0):w.fdiv d * d = w:=by
 rw [Int.fdiv_eq_ediv_of_dvd h]; exact Int.ediv_mul_cancel h
theorem Xj (φ:Kf k F) (ws:List Int):∃ a:F,a≠0∧∀ j,fv (easedM k ws) j = a * fv ws j:=by
 have one:(1:F)≠0:=fun e=>Field.zero_ne_one e.symm
 unfold easedM
 split
 ·rename_i h
  refine ⟨1,one,fun j=>?_⟩
  unfold fv
  rw [zbq (fun w:Int=>w.fmod k) 0 0 (Int.zero_fmod k)]
  have d:=(φ.zero _).mpr (ZW k (ws.getD j 0))
  rw [ι_sub] at d
  grind
 ·rename_i h
  have k0:k = 0:=Classical.byContradiction fun z=>h z
  split
  ·exact ⟨1,one,fun j=>by grind⟩
  ·rename_i g
   have gn:(ι ((gcdL ws:Nat):Int):F)≠0:=fun z=>by
    rw [φ.zero,k0,Int.zero_dvd] at z; omega
   refine ⟨1 / ι ((gcdL ws:Nat):Int),fun z=>?_,fun j=>?_⟩
   ·have:ι ((gcdL ws:Nat):Int) * (1 / ι ((gcdL ws:Nat):Int)) = (1:F):=by grind
    rw [z] at this
    exact one (by rw [← this]; grind)
   ·unfold fv
    rw [zbq (fun w:Int=>w.fdiv ((gcdL ws:Nat):Int)) 0 0 (Int.zero_fdiv _)]
    have dv:((gcdL ws:Nat):Int) ∣ ws.getD j 0:=by
     rcases Nat.lt_or_ge j ws.length with z | z
     ·rw [List.getD_eq_getElem?_getD,List.getElem?_eq_getElem z]; exact zbo (List.getElem_mem z)
     ·rw [List.getD_eq_getElem?_getD,List.getElem?_eq_none z]; exact Int.dvd_zero _
    have e:=jL dv (by omega)
    have e2:(ι ((ws.getD j 0).fdiv ((gcdL ws:Nat):Int)):F) * ι ((gcdL ws:Nat):Int) = ι (ws.getD j 0):=by rw [← ι_mul,e]
    grind
noncomputable def mixed (row lead:List Int) (c:Nat):List Int:=List.zipWith (fun l r=>lead.getD c 0 * l - row.getD c 0 * r) row lead
noncomputable def clearedM (k:Int) (lead:List Int) (c:Nat) (row:List Int):List Int:=if row.getD c 0 = 0 then row else easedM k (mixed row lead c)
theorem qj {row lead:List Int} (h:row.length = lead.length) (c:Nat):(mixed row lead c).length = row.length:=by
 unfold mixed; rw [List.length_zipWith]; omega
theorem xU {row lead:List Int} (h:row.length = lead.length) (c:Nat):(clearedM k lead c row).length = row.length:=by
 unfold clearedM; split
 ·rfl
 ·rw [Jf,qj h]
theorem XR {row lead:List Int} (h:row.length = lead.length) (c j:Nat):(mixed row lead c).getD j 0 = lead.getD c 0 * row.getD j 0 - row.getD c 0 * lead.getD j 0:=by
 rcases Nat.lt_or_ge j row.length with g | g
 ·have g2:j < lead.length:=by omega
  unfold mixed
  rw [List.getD_eq_getElem?_getD,List.getElem?_zipWith,List.getElem?_eq_getElem g,List.getElem?_eq_getElem g2]
  show lead.getD c 0 * row[j] - row.getD c 0 * lead[j] = _
  simp [List.getD_eq_getElem?_getD,List.getElem?_eq_getElem g,List.getElem?_eq_getElem g2]
 ·have g2:lead.length≤j:=by omega
  have g3:(mixed row lead c).length≤j:=by rw [qj h]; exact g
  simp [List.getD_eq_getElem?_getD,List.getElem?_eq_none g,List.getElem?_eq_none g2,List.getElem?_eq_none g3]
theorem Xd (k0:0≤k) {row lead:List Int} (c:Nat) (h:Nf k row):Nf k (clearedM k lead c row):=by
 unfold clearedM; split
 ·exact h
 ·exact zal k0 _
theorem QI (φ:Kf k F) {row lead:List Int} (h:row.length = lead.length) {c:Nat} (lc:(fv lead c:F)≠0):Clr c (fv lead:Nat→F) (fv row) (fv (clearedM k lead c row)):=by
 unfold clearedM
 have one:(1:F)≠0:=fun e=>Field.zero_ne_one e.symm
 split
 ·rename_i z
  refine ⟨⟨1,0,one,fun j=>by grind⟩,?_⟩
  show ι (row.getD c 0) = 0
  rw [z]; exact ι_zero
 ·obtain ⟨a,ha,e⟩:=Xj φ (mixed row lead c)
  have m:∀ j,(fv (mixed row lead c) j:F) = fv lead c * fv row j - fv row c * fv lead j:=fun j=>by
   unfold fv
   rw [XR h,ι_sub,ι_mul,ι_mul]
  refine ⟨⟨a * fv lead c,-(a * fv row c),fun z=>?_,fun j=>?_⟩,?_⟩
  ·grind
  ·rw [e j,m j]; grind
  ·rw [e c,m c]; grind
noncomputable def swTurn (k:Int) (c:Nat) (s:List (Nat×List Int)×List (List Int)):List (Nat×List Int)×List (List Int) :=
 match s.2.filter (fun r=>decide (r.getD c 0≠0)) with
 | []=>s
 | l :: rest=>(s.1.map (fun p=>(p.1,clearedM k l c p.2)) ++ [(c,l)],s.2.filter (fun r=>decide (r.getD c 0 = 0)) ++ rest.map (clearedM k l c))
noncomputable def swTo (k:Int) (rows:List (List Int)):Nat→List (Nat×List Int)×List (List Int)
 | 0=>([],rows.map (easedM k))
 | c + 1=>swTurn k c (swTo k rows c)
structure Fine (k:Int) (n:Nat) (s:List (Nat×List Int)×List (List Int)):Prop where
 dl:∀ p∈s.1,p.2.length = n
 wl:∀ w∈s.2,w.length = n
 df:∀ p∈s.1,Nf k p.2
 wf:∀ w∈s.2,Nf k w
theorem Fine.turn {n c:Nat} {s:List (Nat×List Int)×List (List Int)} (k0:0≤k) (h:Fine k n s):Fine k n (swTurn k c s):=by
 unfold swTurn
 cases e:s.2.filter (fun r=>decide (r.getD c 0≠0)) with
 | nil=>exact h
 | cons l rest =>
  have sub:∀ r∈l :: rest,r∈s.2:=fun r hr=>by rw [← e] at hr; exact (List.mem_filter.mp hr).1
  have hl:=sub l List.mem_cons_self
  refine ⟨fun p hp=>?_,fun w hw=>?_,fun p hp=>?_,fun w hw=>?_⟩
  ·rcases List.mem_append.mp hp with hp | hp
   ·obtain ⟨q,hq,rfl⟩:=List.mem_map.mp hp
    show (clearedM k l c q.2).length = n
    rw [xU (by rw [h.dl q hq,h.wl l hl]),h.dl q hq]
   ·rw [List.mem_singleton.mp hp]; exact h.wl l hl
  ·rcases List.mem_append.mp hw with hw | hw
   ·exact h.wl w (List.mem_filter.mp hw).1
   ·obtain ⟨q,hq,rfl⟩:=List.mem_map.mp hw
    have:=h.wl q (sub q (List.mem_cons_of_mem _ hq))
    rw [xU (by rw [this,h.wl l hl]),this]
  ·rcases List.mem_append.mp hp with hp | hp
   ·obtain ⟨q,hq,rfl⟩:=List.mem_map.mp hp
    exact Xd k0 c (h.df q hq)
   ·rw [List.mem_singleton.mp hp]; exact h.wf l hl
  ·rcases List.mem_append.mp hw with hw | hw
   ·exact h.wf w (List.mem_filter.mp hw).1
   ·obtain ⟨q,hq,rfl⟩:=List.mem_map.mp hw
    exact Xd k0 c (h.wf q (sub q (List.mem_cons_of_mem _ hq)))
theorem Fine.to {n:Nat} {rows:List (List Int)} (k0:0≤k) (h:∀ r∈rows,r.length = n):∀ c,Fine k n (swTo k rows c)
 | 0=>by
  refine ⟨fun p hp=>(nomatch hp),fun w hw=>?_,fun p hp=>(nomatch hp),fun w hw=>?_⟩
  ·obtain ⟨r,hr,rfl⟩:=List.mem_map.mp hw
   rw [Jf,h r hr]
  ·obtain ⟨r,hr,rfl⟩:=List.mem_map.mp hw
   exact zal k0 r
 | c + 1=>(Fine.to k0 h c).turn k0
noncomputable def inF (D:List (Nat×List Int)):List (Pv F):=D.map fun p=>(p.1,fv p.2)
theorem zg0 (φ:Kf k F) (k0:0≤k) {n:Nat} {rows:List (List Int)} (h:∀ r∈rows,r.length = n):∀ c,Sw n c (fun v=>∃ r∈rows,v = (fv r:Nat→F)) (inF (swTo k rows c).1) ((swTo k rows c).2.map fv)
 | 0=>by
  refine zfJ n _ _ (fun v ⟨r,hr,e⟩=>?_) fun v hv=>?_
  ·obtain ⟨a,ha,q⟩:=Xj φ r
   have hm:(fv (easedM k r):Nat→F)∈(swTo k rows 0).2.map fv:=List.mem_map.mpr ⟨_,List.mem_map.mpr ⟨r,hr,rfl⟩,rfl⟩
   have hs:Span (fun v=>v∈(swTo k rows 0).2.map fv) (fv (easedM k r):Nat→F):=.of hm
   exact (hs.smul (1 / a)).cast fun j=>by rw [e,q j]; grind
  ·obtain ⟨w,hw,rfl⟩:=List.mem_map.mp hv
   obtain ⟨r,hr,rfl⟩:=List.mem_map.mp hw
   obtain ⟨a,ha,q⟩:=Xj φ r
   have hs:Span (fun v=>∃ r∈rows,v = (fv r:Nat→F)) (fv r):=.of ⟨r,hr,rfl⟩
   exact (hs.smul a).cast fun j=>(q j).symm
 | c + 1=>by
  have ih:=zg0 φ k0 h c
  have fine:=Fine.to k0 h c
  show Sw n (c + 1) _ (inF (swTurn k c (swTo k rows c)).1) ((swTurn k c (swTo k rows c)).2.map fv)
  generalize swTo k rows c = s at ih fine
  have zr:∀ r∈s.2,((fv r c:F) = 0↔r.getD c 0 = 0):=fun r hr=>YT φ (fine.wf r hr) c
  unfold swTurn
  cases e:s.2.filter (fun r=>decide (r.getD c 0≠0)) with
  | nil =>
   refine ih.skip fun w hw=>?_
   obtain ⟨r,hr,rfl⟩:=List.mem_map.mp hw
   rw [zr r hr]
   refine Classical.byContradiction fun z=>?_
   have:r∈s.2.filter (fun r=>decide (r.getD c 0≠0)):=List.mem_filter.mpr ⟨hr,by simpa using z⟩
   rw [e] at this
   exact nomatch this
  | cons l rest =>
   have mem:∀ r∈l :: rest,r∈s.2∧r.getD c 0≠0:=fun r hr=>by
    rw [← e] at hr
    obtain ⟨h1,h2⟩:=List.mem_filter.mp hr
    exact ⟨h1,by simpa using h2⟩
   obtain ⟨hl,lz⟩:=mem l List.mem_cons_self
   have lc:(fv l c:F)≠0:=fun z=>lz ((zr l hl).mp z)
   have ll:=fine.wl l hl
   have cl:∀ r,r.length = n→Clr c (fv l:Nat→F) (fv r) (fv (clearedM k l c r)):=fun r hr=>QI φ (by rw [hr,ll]) lc
   show Sw n (c + 1) _ (inF (s.1.map (fun p=>(p.1,clearedM k l c p.2)) ++ [(c,l)])) ((s.2.filter (fun r=>decide (r.getD c 0 = 0)) ++ rest.map (clearedM k l c)).map fv)
   have e1:(inF (s.1.map (fun p=>(p.1,clearedM k l c p.2)) ++ [(c,l)]):List (Pv F)) = s.1.map (fun p=>(p.1,fv (clearedM k l c p.2))) ++ [(c,fv l)]:=by
    unfold inF; rw [List.map_append,List.map_map]; rfl
   rw [e1]
   refine Sw.turn (E:=s.1) (a:=fun p=>(p.1,fv p.2)) (b:=fun p=>(p.1,fv (clearedM k l c p.2))) ih (List.mem_map.mpr ⟨l,hl,rfl⟩) lc (fun p hp=>⟨rfl,cl p.2 (fine.dl p hp)⟩) (fun w hw=>?_) (fun w hw=>?_)
   ·obtain ⟨r,hr,rfl⟩:=List.mem_map.mp hw
    rcases List.mem_append.mp hr with hr | hr
    ·obtain ⟨h1,h2⟩:=List.mem_filter.mp hr
     exact .inl ⟨List.mem_map.mpr ⟨r,h1,rfl⟩,(zr r h1).mpr (by simpa using h2)⟩
    ·obtain ⟨q,hq,rfl⟩:=List.mem_map.mp hr
     have hq2:=(mem q (List.mem_cons_of_mem _ hq)).1
     exact .inr ⟨fv q,List.mem_map.mpr ⟨q,hq2,rfl⟩,cl q (fine.wl q hq2)⟩
   ·obtain ⟨r,hr,rfl⟩:=List.mem_map.mp hw
    by_cases z:r.getD c 0 = 0
    ·exact .inl (List.mem_map.mpr ⟨r,List.mem_append_left _ (List.mem_filter.mpr ⟨hr,by simpa using z⟩),rfl⟩)
    ·have hm:r∈l :: rest:=by rw [← e]; exact List.mem_filter.mpr ⟨hr,by simpa using z⟩
     rcases List.mem_cons.mp hm with q | q
     ·exact .inr (.inl (by rw [q]))
     ·exact .inr (.inr ⟨_,List.mem_map.mpr ⟨_,List.mem_append_right _ (List.mem_map.mpr ⟨r,q,rfl⟩),rfl⟩,cl r (fine.wl r hr)⟩)
noncomputable abbrev RmI (F:Type) [Field F] (rows:List (List Int)):(Nat→F)→Prop:=fun v=>∃ r∈rows,v = fv r
theorem zeO (φ:Kf k F) (k0:0≤k) {n:Nat} {rows:List (List Int)} (h:∀ r∈rows,r.length = n) :
  Rr n ((swTo k rows n).1.map fun p=>(p.1,fun j=>(fv p.2 j / fv p.2 p.1:F))) ∧
  (∀ v,Span (Rows ((swTo k rows n).1.map fun p=>(p.1,fun j=>(fv p.2 j / fv p.2 p.1:F)))) v→Span (RmI F rows) v)∧(∀ v,Span (RmI F rows) v→Span (Rows ((swTo k rows n).1.map fun p=>(p.1,fun j=>(fv p.2 j / fv p.2 p.1:F)))) v):=by
 have s:=zg0 φ k0 h n
 have fine:=Fine.to k0 h n
 have d:=s.done (fun w hw j hj=>by
  obtain ⟨r,hr,rfl⟩:=List.mem_map.mp hw
  exact zbQ (by rw [fine.wl r hr]; exact hj)) (fun p hp j hj=>by
  obtain ⟨q,hq,rfl⟩:=List.mem_map.mp hp
  exact zbQ (by rw [fine.dl q hq]; exact hj))
 have e:((inF (swTo k rows n).1:List (Pv F)).map fun p=>(p.1,fun j=>p.2 j / p.2 p.1)) = (swTo k rows n).1.map fun p=>(p.1,fun j=>(fv p.2 j / fv p.2 p.1:F)):=by
  unfold inF; rw [List.map_map]; rfl
 rw [e] at d
 exact d
theorem qz (φ:Kf k F) (k0:0≤k) {n:Nat} {rows:List (List Int)} (h:∀ r∈rows,r.length = n) {p:Nat×List Int} (hp:p∈(swTo k rows n).1) :
  p.1 < n∧p.2.length = n∧p.2.getD p.1 0≠0∧∀ j,j < p.1→p.2.getD j 0 = 0:=by
 have s:=zg0 φ k0 h n
 have fine:=Fine.to k0 h n
 have hm:((p.1,fv p.2):Pv F)∈inF (swTo k rows n).1:=List.mem_map.mpr ⟨p,hp,rfl⟩
 have z:=fun j=>YT φ (fine.df p hp) j
 exact ⟨s.lt _ hm,fine.dl p hp,fun e=>s.one _ hm ((z p.1).mpr e),fun j hj=>(z j).mp (s.bef _ hm j hj)⟩
end
end La
namespace La
open Lean.Grind Nm
section
variable {k:Int} {F:Type} [Field F]
theorem zI (h:KindOk k) (w:Int):(nnum k w).ok k:=by
 unfold nnum
 split
 ·assumption
 ·rename_i n
  have:=h.lt
  exact ⟨n,Int.fmod_nonneg_of_pos w (by omega),Int.fmod_lt_of_pos w (by omega)⟩
noncomputable def OkR (k:Int) (xs:List Nb):Prop:=∀ x∈xs,x.ok k
noncomputable def nv (φ:Kf k F) (xs:List Nb):Nat→F:=fun j=>φ.to (xs.getD j (nnum k 0))
theorem Kf.num0 (φ:Kf k F):φ.to (nnum k 0) = 0:=by rw [φ.num]; exact ι_zero
theorem Kf.num1 (φ:Kf k F):φ.to (nnum k 1) = 1:=by rw [φ.num]; exact ι_one
theorem Kf.inj (φ:Kf k F) {x y:Nb} (hx:x.ok k) (hy:y.ok k) (h:φ.to x = φ.to y):x = y:=by rw [← φ.of_to x hx,← φ.of_to y hy,h]
theorem qp (φ:Kf k F) {xs:List Nb} {j:Nat} (h:xs.length≤j):nv φ xs j = 0:=by
 unfold nv
 rw [List.getD_eq_getElem?_getD,List.getElem?_eq_none h]
 exact φ.num0
theorem yp (φ:Kf k F) {xs:List Nb} {j:Nat} {x:Nb} (h:xs[j]? = some x):nv φ xs j = φ.to x:=by
 unfold nv
 rw [List.getD_eq_getElem?_getD,h]; rfl
theorem zbT (φ:Kf k F) {xs ys:List Nb} (hx:OkR k xs) (hy:OkR k ys) (hl:xs.length = ys.length) (h:∀ j,nv φ xs j = nv φ ys j):xs = ys:=by
 refine List.ext_getElem hl fun j h1 h2=>?_
 have e:=h j
 rw [yp φ (List.getElem?_eq_getElem h1),yp φ (List.getElem?_eq_getElem h2)] at e
 exact φ.inj (hx _ (List.getElem_mem h1)) (hy _ (List.getElem_mem h2)) e
noncomputable def dot:Nat→(Nat→F)→(Nat→F)→F
 | 0,_,_=>0
 | n + 1,u,v=>dot n u v + u n * v n
theorem yQ {n:Nat} {u u' v v':Nat→F} (h:∀ j,j < n→u j * v j = u' j * v' j):dot n u v = dot n u' v':=by
 induction n with
 | zero=>rfl
 | succ n ih=>simp only [dot]; rw [ih fun j hj=>h j (by omega),h n (by omega)]
theorem qq (a:F) (n:Nat) (u v:Nat→F):dot n (fun j=>a * u j) v = a * dot n u v:=by
 induction n with
 | zero=>simp only [dot]; grind
 | succ n ih=>simp only [dot]; rw [ih]; grind
theorem XA (n:Nat) (u u' v:Nat→F):dot n (fun j=>u j + u' j) v = dot n u v + dot n u' v:=by
 induction n with
 | zero=>simp only [dot]; grind
 | succ n ih=>simp only [dot]; rw [ih]; grind
theorem jF (n:Nat) (u v:Nat→F):dot n u v = dot n v u:=yQ fun j _=>by grind
theorem dot_zero (n:Nat) (u v:Nat→F) (h:∀ j,j < n→u j * v j = 0):dot n u v = 0:=by
 induction n with
 | zero=>rfl
 | succ n ih=>simp only [dot]; rw [ih fun j hj=>h j (by omega),h n (by omega)]; grind
noncomputable def ndotF (k:Int) (l:List (Nb×Nb)):Nb:=l.foldl (fun s p=>nadd k s (nmul k p.1 p.2)) (nnum k 0)
noncomputable def ndot (k:Int) (xs ys:List Nb):Nb:=ndotF k (xs.zip ys)
theorem yJ {x y:Nb} (hk:KindOk k) (hx:x.ok k) (hy:y.ok k):(nadd k x y).ok k:=by
 have hl:=hk.lt
 cases x with
 | q r=>cases y with
  | q s=>exact hx
  | z j=>exact absurd (show k = 0 from hx) hy.1
 | z i=>cases y with
  | q s=>exact absurd (show k = 0 from hy) hx.1
  | z j=>exact ⟨hx.1,Int.fmod_nonneg_of_pos _ (by have:=hx.1; omega),Int.fmod_lt_of_pos _ (by have:=hx.1; omega)⟩
theorem ym {x y:Nb} (hk:KindOk k) (hx:x.ok k) (hy:y.ok k):(nmul k x y).ok k:=by
 have hl:=hk.lt
 cases x with
 | q r=>cases y with
  | q s=>exact hx
  | z j=>exact absurd (show k = 0 from hx) hy.1
 | z i=>cases y with
  | q s=>exact absurd (show k = 0 from hy) hx.1
  | z j=>exact ⟨hx.1,Int.fmod_nonneg_of_pos _ (by have:=hx.1; omega),Int.fmod_lt_of_pos _ (by have:=hx.1; omega)⟩
theorem zd9 {x y:Nb} (hk:KindOk k) (hx:x.ok k) (hy:y.ok k):(ndiv k x y).ok k:=by
 have hl:=hk.lt
 cases x with
 | q r=>cases y with
  | q s=>exact hx
  | z j=>exact absurd (show k = 0 from hx) hy.1
 | z i=>cases y with
  | q s=>exact absurd (show k = 0 from hy) hx.1
  | z j=>exact ⟨hx.1,Int.fmod_nonneg_of_pos _ (by have:=hx.1; omega),Int.fmod_lt_of_pos _ (by have:=hx.1; omega)⟩
theorem qD (l:List (Nb×Nb)) (p:Nb×Nb):ndotF k (l ++ [p]) = nadd k (ndotF k l) (nmul k p.1 p.2):=by
 unfold ndotF; rw [List.foldl_append]; rfl
theorem jC (hk:KindOk k):∀ (l:List (Nb×Nb)),(∀ p∈l,p.1.ok k∧p.2.ok k)→(ndotF k l).ok k:=by
 intro l
 unfold ndotF
 have go:∀ (l:List (Nb×Nb)) (s:Nb),s.ok k→(∀ p∈l,p.1.ok k∧p.2.ok k)→(l.foldl (fun s p=>nadd k s (nmul k p.1 p.2)) s).ok k:=by
  intro l
  induction l with
  | nil=>intro s hs _; exact hs
  | cons p l ih=>intro s hs h; exact ih _ (yJ hk hs (ym hk (h p List.mem_cons_self).1 (h p List.mem_cons_self).2)) fun q hq=>h q (List.mem_cons_of_mem _ hq)
 exact fun h=>go l _ (zI hk 0) h
theorem zbj {xs ys:List Nb} (hx:OkR k xs) (hy:OkR k ys):∀ p∈xs.zip ys,p.1.ok k∧p.2.ok k:=fun p hp=>by
 obtain ⟨a,b⟩:=p
 obtain ⟨h1,h2⟩:=List.of_mem_zip hp
 exact ⟨hx _ h1,hy _ h2⟩
theorem yq (hk:KindOk k) {xs ys:List Nb} (hx:OkR k xs) (hy:OkR k ys):(ndot k xs ys).ok k:=jC hk _ (zbj hx hy)
theorem QQ (φ:Kf k F) (hk:KindOk k) {xs ys:List Nb} (hx:OkR k xs) (hy:OkR k ys) (hl:xs.length = ys.length):∀ i,i≤xs.length→φ.to (ndotF k ((xs.zip ys).take i)) = dot i (nv φ xs) (nv φ ys)
 | 0,_=>by
  show φ.to (nnum k 0) = 0
  exact φ.num0
 | i + 1,h=>by
  have h1:i < xs.length:=h
  have h2:i < ys.length:=by omega
  have hz:i < (xs.zip ys).length:=by rw [List.length_zip]; omega
  rw [List.take_succ_eq_append_getElem hz,qD,List.getElem_zip]
  have ih:=QQ φ hk hx hy hl i (by omega)
  have o1:=hx _ (List.getElem_mem h1)
  have o2:=hy _ (List.getElem_mem h2)
  rw [φ.add (jC hk _ fun p hp=>zbj hx hy p (List.mem_of_mem_take hp)) (ym hk o1 o2),ih,φ.mul o1 o2]
  simp only [dot]
  rw [yp φ (List.getElem?_eq_getElem h1),yp φ (List.getElem?_eq_getElem h2)]
theorem xu (φ:Kf k F) (hk:KindOk k) {xs ys:List Nb} (hx:OkR k xs) (hy:OkR k ys) (hl:xs.length = ys.length):φ.to (ndot k xs ys) = dot xs.length (nv φ xs) (nv φ ys):=by
 have h:=QQ φ hk hx hy hl xs.length (Nat.le_refl _)
 rw [List.take_of_length_le (by rw [List.length_zip]; omega)] at h
 exact h
noncomputable def scW (b:Int):Nb→Int
 | .q r=>r.num * b.fdiv (r.den:Int)
 | .z i=>i
noncomputable def dvB (b:Int):Nb→Prop
 | .q r=>(r.den:Int) ∣ b
 | .z _=>True
structure Scl (k:Int) (xs:List Nb) (ws:List Int) (b:Int):Prop where
 eq:ws = xs.map (scW b)
 pos:0 < b
 one:k≠0→b = 1
 dv:∀ x∈xs,dvB b x
theorem Scl.len {xs:List Nb} {ws:List Int} {b:Int} (s:Scl k xs ws b):ws.length = xs.length:=by rw [s.eq,List.length_map]
theorem Scl.ne (φ:Kf k F) (hk:KindOk k) {xs:List Nb} {ws:List Int} {b:Int} (s:Scl k xs ws b):(ι b:F)≠0:=fun z=>by
 rw [φ.zero] at z
 by_cases k0:k = 0
 ·rw [k0,Int.zero_dvd] at z; have:=s.pos; omega
 ·rw [s.one k0] at z
  have:=Int.le_of_dvd (by decide) z
  rcases hk with h | h
  ·exact k0 h
  ·have:=h.lo; omega
theorem zhA (φ:Kf k F) {b:Int} (one:k≠0→b = 1) {x:Nb} (hx:x.ok k) (dv:dvB b x):(ι (scW b x):F) = φ.to x * ι b:=by
 cases x with
 | q r =>
  have k0:k = 0:=hx
  have e:=φ.rat r k0
  have d:(r.den:Int) ∣ b:=dv
  have e2:=jL d (Zt r)
  show (ι (r.num * b.fdiv (r.den:Int)):F) = _
  rw [ι_mul,← e]
  have e3:(ι (b.fdiv (r.den:Int)):F) * ι (r.den:Int) = ι b:=by rw [← ι_mul,e2]
  grind
 | z i =>
  have k0:k≠0:=hx.1
  rw [φ.rest i k0,one k0,ι_one]
  show (ι i:F) = _
  grind
theorem Scl.fv (φ:Kf k F) {xs:List Nb} {ws:List Int} {b:Int} (s:Scl k xs ws b) (hx:OkR k xs) (j:Nat):(La.fv ws j:F) = nv φ xs j * ι b:=by
 rcases Nat.lt_or_ge j xs.length with g | g
 ·have e:ws[j]? = some (scW b xs[j]):=by rw [s.eq,List.getElem?_map,List.getElem?_eq_getElem g]; rfl
  rw [yp φ (List.getElem?_eq_getElem g),← zhA φ s.one (hx _ (List.getElem_mem g)) (s.dv _ (List.getElem_mem g))]
  unfold La.fv
  rw [List.getD_eq_getElem?_getD,e]; rfl
 ·rw [qp φ g,zbQ (by rw [s.len]; exact g)]; grind
theorem zg5 (n:Nat) {ws vs:List Int} (h1:ws.length = n) (h2:vs.length = n):(ι (List.zipWith (· * ·) ws vs).sum:F) = dot n (fv ws) (fv vs):=by
 have go:∀ i,i≤n→(ι ((List.zipWith (· * ·) ws vs).take i).sum:F) = dot i (fv ws) (fv vs):=by
  intro i
  induction i with
  | zero=>intro _; rw [List.take_zero,List.sum_nil]; exact ι_zero
  | succ i ih =>
   intro hi
   have hz:i < (List.zipWith (· * ·) ws vs).length:=by rw [List.length_zipWith]; omega
   rw [List.take_succ_eq_append_getElem hz,List.sum_append,ι_add,ih (by omega),List.getElem_zipWith]
   simp only [dot]
   have e1:(fv ws i:F) = ι (ws[i]'(by omega)):=by unfold fv; rw [List.getD_eq_getElem?_getD,List.getElem?_eq_getElem (by omega)]; rfl
   have e2:(fv vs i:F) = ι (vs[i]'(by omega)):=by unfold fv; rw [List.getD_eq_getElem?_getD,List.getElem?_eq_getElem (by omega)]; rfl
   rw [e1,e2,← ι_mul]
   simp
 have:=go n (Nat.le_refl _)
 rw [List.take_of_length_le (by rw [List.length_zipWith]; omega)] at this
 exact this
theorem Jr (φ:Kf k F) {b:Int} (h:(ι b:F)≠0):nnum k b≠nnum k 0:=fun z=>h (by rw [← φ.num,z,φ.num0])
theorem zh7 (hk:KindOk k) {xs ys:List Nb} {ws vs:List Int} {b c:Int} (hl:xs.length = ys.length) (s1:Scl k xs ws b) (s2:Scl k ys vs c) (hx:OkR k xs) (hy:OkR k ys) :
  nnum k (b * c)≠nnum k 0∧ndiv k (nnum k (List.zipWith (· * ·) ws vs).sum) (nnum k (b * c)) = ndot k xs ys:=by
 obtain ⟨F,_,_,⟨φ⟩⟩:=yl hk
 have n1:=s1.ne φ hk
 have n2:=s2.ne φ hk
 have n3:(ι (b * c):F)≠0:=fun z=>by rw [ι_mul] at z; grind
 have nn:=Jr φ n3
 refine ⟨nn,φ.inj (zd9 hk (zI hk _) (zI hk _)) (yq hk hx hy) ?_⟩
 rw [φ.div (zI hk _) (zI hk _) nn,φ.num,φ.num,xu φ hk hx hy hl,zg5 xs.length s1.len (by rw [s2.len,hl]),ι_mul]
 have e:dot xs.length (La.fv ws) (La.fv vs) = (ι b * ι c) * dot xs.length (nv φ xs) (nv φ ys):=by
  rw [← qq]
  exact yQ fun j _=>by rw [s1.fv φ hx,s2.fv φ hy]; grind
 rw [e]; grind
noncomputable def RmN (φ:Kf k F) (M:List (List Nb)):(Nat→F)→Prop:=fun v=>∃ r∈M,v = nv φ r
noncomputable def OkM (k:Int) (n:Nat) (M:List (List Nb)):Prop:=∀ r∈M,r.length = n∧OkR k r
structure IsR (φ:Kf k F) (n:Nat) (R:List (List Nb)) (ls:List Nat):Prop where
 ok:OkM k n R
 len:ls.length = R.length
 rr:Rr n (ls.zip (R.map (nv φ)))
structure RedOf (φ:Kf k F) (n:Nat) (M R:List (List Nb)) (ls:List Nat):Prop extends IsR φ n R ls where
 to:∀ v,Span (RmN φ M) v→Span (RmN φ R) v
 fro:∀ v,Span (RmN φ R) v→Span (RmN φ M) v
theorem Yt {φ:Kf k F} {R:List (List Nb)} {ls:List Nat} (h:ls.length = R.length) (v:Nat→F):Rows (ls.zip (R.map (nv φ))) v↔RmN φ R v:=by
 constructor
 ·rintro ⟨p,hp,rfl⟩
  obtain ⟨a,b⟩:=p
  obtain ⟨r,hr,e⟩:=List.mem_map.mp (List.of_mem_zip hp).2
  exact ⟨r,hr,e.symm⟩
 ·rintro ⟨r,hr,rfl⟩
  obtain ⟨i,hi,e⟩:=List.getElem_of_mem hr
  have h1:i < ls.length:=by omega
  have h2:i < (R.map (nv φ)).length:=by rw [List.length_map]; exact hi
  refine ⟨(ls[i],(R.map (nv φ))[i]),?_,by simp [e]⟩
  rw [← List.getElem_zip (h:=by rw [List.length_zip]; omega)]
  exact List.getElem_mem _
theorem IsR.rows {φ:Kf k F} {n:Nat} {R:List (List Nb)} {ls:List Nat} (h:IsR φ n R ls) {v:Nat→F}:Span (Rows (ls.zip (R.map (nv φ)))) v↔Span (RmN φ R) v :=
 ⟨fun q=>q.mono fun u=>(Yt h.len u).mp,fun q=>q.mono fun u=>(Yt h.len u).mpr⟩
theorem IsR.unique {φ:Kf k F} {n:Nat} {R R':List (List Nb)} {ls ls':List Nat} (h:IsR φ n R ls) (h':IsR φ n R' ls') (s1:∀ v,Span (RmN φ R) v→Span (RmN φ R') v) (s2:∀ v,Span (RmN φ R') v→Span (RmN φ R) v):R = R'∧ls = ls':=by
 have e:=h.rr.unique h'.rr (fun v q=>h'.rows.mpr (s1 v (h.rows.mp q))) (fun v q=>h.rows.mpr (s2 v (h'.rows.mp q)))
 have el:=congrArg (List.map Prod.fst) e
 have er:=congrArg (List.map Prod.snd) e
 rw [List.map_fst_zip (by rw [List.length_map]; exact Nat.le_of_eq h.len),List.map_fst_zip (by rw [List.length_map]; exact Nat.le_of_eq h'.len)] at el
 rw [List.map_snd_zip (by rw [List.length_map]; exact Nat.le_of_eq h.len.symm),List.map_snd_zip (by rw [List.length_map]; exact Nat.le_of_eq h'.len.symm)] at er
 refine ⟨?_,el⟩
 have hl:R.length = R'.length:=by have:=congrArg List.length er; simpa using this
 refine List.ext_getElem hl fun i h1 h2=>?_
 have e2:(R.map (nv φ))[i]'(by simpa using h1) = (R'.map (nv φ))[i]'(by simpa using h2):=by simp only [er]
 rw [List.getElem_map,List.getElem_map] at e2
 have o1:=h.ok _ (List.getElem_mem h1)
 have o2:=h'.ok _ (List.getElem_mem h2)
 exact zbT φ o1.2 o2.2 (by rw [o1.1,o2.1]) fun j=>by rw [e2]
theorem RedOf.unique {φ:Kf k F} {n:Nat} {M M' R R':List (List Nb)} {ls ls':List Nat} (h:RedOf φ n M R ls) (h':RedOf φ n M' R' ls') (s1:∀ v,Span (RmN φ M) v→Span (RmN φ M') v) (s2:∀ v,Span (RmN φ M') v→Span (RmN φ M) v):R = R' :=
 (h.toIsR.unique h'.toIsR (fun v q=>h'.to v (s1 v (h.fro v q))) (fun v q=>h.to v (s2 v (h'.fro v q)))).1
noncomputable def overL (k:Int) (p:Nat×List Int):List Nb:=p.2.map fun w=>ndiv k (nnum k w) (nnum k (p.2.getD p.1 0))
noncomputable def redM (k:Int) (n:Nat) (Ws:List (List Int)):List (List Nb):=(swTo k Ws n).1.map (overL k)
noncomputable def leadsM (k:Int) (n:Nat) (Ws:List (List Int)):List Nat:=(swTo k Ws n).1.map (·.1)
theorem zaF (φ:Kf k F) (hk:KindOk k) {n:Nat} {M:List (List Nb)} {Ws:List (List Int)} (ok:OkM k n M) (hl:Ws.length = M.length) (hs:∀ (i:Nat) (r:List Nb) (ws:List Int),M[i]? = some r→Ws[i]? = some ws→∃ b,Scl k r ws b) :
  RedOf φ n M (redM k n Ws) (leadsM k n Ws):=by
 have k0:=hk.lt.1
 have pair:∀ ws∈Ws,∃ r∈M,∃ b,Scl k r ws b:=fun ws hw=>by
  obtain ⟨i,hi,e⟩:=List.getElem_of_mem hw
  have h2:i < M.length:=by omega
  exact ⟨M[i],List.getElem_mem h2,hs i M[i] ws (List.getElem?_eq_getElem h2) (by rw [List.getElem?_eq_getElem hi,e])⟩
 have pair2:∀ r∈M,∃ ws∈Ws,∃ b,Scl k r ws b:=fun r hr=>by
  obtain ⟨i,hi,e⟩:=List.getElem_of_mem hr
  have h2:i < Ws.length:=by omega
  exact ⟨Ws[i],List.getElem_mem h2,hs i r Ws[i] (by rw [List.getElem?_eq_getElem hi,e]) (List.getElem?_eq_getElem h2)⟩
 have wl:∀ ws∈Ws,ws.length = n:=fun ws hw=>by
  obtain ⟨r,hr,b,s⟩:=pair ws hw
  rw [s.len,(ok r hr).1]
 obtain ⟨rr,s1,s2⟩:=zeO φ k0 wl
 have sp1:∀ v,Span (RmI F Ws) v→Span (RmN φ M) v:=fun v q=>q.bind fun u ⟨ws,hw,e⟩=>by
  obtain ⟨r,hr,b,s⟩:=pair ws hw
  have:Span (RmN φ M) (nv φ r):=.of ⟨r,hr,rfl⟩
  exact (this.smul (ι b)).cast fun j=>by rw [e,s.fv φ (ok r hr).2]; grind
 have sp2:∀ v,Span (RmN φ M) v→Span (RmI F Ws) v:=fun v q=>q.bind fun u ⟨r,hr,e⟩=>by
  obtain ⟨ws,hw,b,s⟩:=pair2 r hr
  have:Span (RmI F Ws) (La.fv ws):=.of ⟨ws,hw,rfl⟩
  have n:=s.ne φ hk
  exact (this.smul (1 / ι b)).cast fun j=>by rw [e,s.fv φ (ok r hr).2]; grind
 have rowv:∀ p∈(swTo k Ws n).1,(nv φ (overL k p):Nat→F) = fun j=>fv p.2 j / fv p.2 p.1:=fun p hp=>by
  obtain ⟨p1,p2,p3,p4⟩:=qz φ k0 wl hp
  have fine:=Fine.to k0 wl n
  have ln:(ι (p.2.getD p.1 0):F)≠0:=fun z=>p3 ((YT φ (fine.df p hp) p.1).mp z)
  funext j
  rcases Nat.lt_or_ge j p.2.length with g | g
  ·have e:(overL k p)[j]? = some (ndiv k (nnum k p.2[j]) (nnum k (p.2.getD p.1 0))):=by unfold overL; rw [List.getElem?_map,List.getElem?_eq_getElem g]; rfl
   rw [yp φ e,φ.div (zI hk _) (zI hk _) (Jr φ ln),φ.num,φ.num]
   show _ = fv p.2 j / fv p.2 p.1
   unfold fv
   rw [List.getD_eq_getElem?_getD (l:=p.2) (i:=j),List.getElem?_eq_getElem g]; rfl
  ·rw [qp φ (by unfold overL; rw [List.length_map]; exact g)]
   show _ = fv p.2 j / fv p.2 p.1
   rw [zbQ g]; grind
 have zz:(leadsM k n Ws).zip ((redM k n Ws).map (nv φ)) = (swTo k Ws n).1.map fun p=>(p.1,fun j=>(fv p.2 j / fv p.2 p.1:F)):=by
  unfold leadsM redM
  rw [List.map_map,List.zip_map',List.map_inj_left]
  intro p hp
  show (p.1,nv φ (overL k p)) = _
  rw [rowv p hp]
 have hlen:(leadsM k n Ws).length = (redM k n Ws).length:=by unfold leadsM redM; rw [List.length_map,List.length_map]
 refine ⟨⟨fun r hr=>?_,hlen,by rw [zz]; exact rr⟩,fun v q=>?_,fun v q=>?_⟩
 ·obtain ⟨p,hp,rfl⟩:=List.mem_map.mp hr
  obtain ⟨p1,p2,p3,p4⟩:=qz φ k0 wl hp
  refine ⟨by unfold overL; rw [List.length_map]; exact p2,fun x hx=>?_⟩
  obtain ⟨w,_,rfl⟩:=List.mem_map.mp hx
  exact zd9 hk (zI hk _) (zI hk _)
 ·have:=s2 v (sp2 v q)
  rw [← zz] at this
  exact this.mono fun u=>(Yt hlen u).mp
 ·refine sp1 v (s1 v ?_)
  rw [← zz]
  exact q.mono fun u=>(Yt hlen u).mpr
end
end La
namespace Nm
end Nm
namespace La
open Lean.Grind Nm
section
variable {k:Int}
theorem zec (l:List Int) (w:Int):gcdL (l ++ [w]) = Nat.gcd (gcdL l) w.natAbs:=by unfold gcdL; rw [List.foldl_append]; rfl
theorem QG (l l':List Int):gcdL (l ++ l') ∣ gcdL l:=by unfold gcdL; rw [List.foldl_append]; exact (jT l' _).1
theorem zeU {ws:List Int} {i:Nat} (h:gcdL (ws.take i) = 1):gcdL ws = 1:=by
 have:=QG (ws.take i) (ws.drop i)
 rw [List.take_append_drop,h] at this
 exact Nat.dvd_one.mp this
theorem zcd {ws:List Int} (h:gcdL ws = 1):easedM 0 ws = ws:=by
 unfold easedM
 rw [if_neg (by simp),if_neg (by omega),h]
 have:(fun w:Int=>w.fdiv ((1:Nat):Int)) = id:=funext fun w=>Int.fdiv_one w
 rw [this,List.map_id]
theorem zcu {ws:List Int} (h:gcdL ws = 0):easedM 0 ws = ws:=by
 unfold easedM
 rw [if_neg (by simp),if_pos h]
theorem zcI {ws:List Int} (h:gcdL ws≠0):easedM 0 ws = ws.map fun w=>w.fdiv ((gcdL ws:Nat):Int):=by
 unfold easedM
 rw [if_neg (by simp),if_neg h]
theorem zcv (h:k≠0) (ws:List Int):easedM k ws = ws.map (·.fmod k):=by
 unfold easedM
 rw [if_pos h]
theorem Jy (rows:List (List Int)):∀ c,(swTo k rows c).1.length + (swTo k rows c).2.length = rows.length
 | 0=>by show 0 + (rows.map (easedM k)).length = _; rw [List.length_map]; omega
 | c + 1=>by
  have ih:=Jy rows c
  show (swTurn k c (swTo k rows c)).1.length + (swTurn k c (swTo k rows c)).2.length = _
  generalize swTo k rows c = s at ih
  unfold swTurn
  cases e:s.2.filter (fun r=>decide (r.getD c 0≠0)) with
  | nil=>exact ih
  | cons l rest =>
   show (s.1.map _ ++ [(c,l)]).length + (s.2.filter _ ++ rest.map _).length = _
   have h1:(s.2.filter (fun r=>decide (r.getD c 0≠0))).length = rest.length + 1:=by rw [e]; rfl
   have h2:∀ l:List (List Int),(l.filter (fun r=>decide (r.getD c 0≠0))).length + (l.filter (fun r=>decide (r.getD c 0 = 0))).length = l.length:=by
    intro l
    induction l with
    | nil=>rfl
    | cons x l ih =>
     rw [List.filter_cons,List.filter_cons]
     by_cases z:x.getD c 0 = 0
     ·simp only [z,ne_eq,not_true_eq_false,decide_false,decide_true,if_true,List.length_cons]
      simp only [Bool.false_eq_true,if_false]
      simp only [ne_eq] at ih
      omega
     ·simp only [z,ne_eq,not_false_eq_true,decide_false,decide_true,if_true,List.length_cons]
      simp only [Bool.false_eq_true,if_false]
      simp only [ne_eq] at ih
      omega
   have h3:=h2 s.2
   simp only [List.length_append,List.length_map,List.length_cons,List.length_nil]
   omega
theorem zbx:∀ c,swTo k [] c = ([],[])
 | 0=>rfl
 | c + 1=>by
  show swTurn k c (swTo k [] c) = _
  rw [zbx c]; rfl
theorem yK {α:Type} {l:List α} {i:Nat} {x:α} (p:α→Bool) (h:l[i]? = some x):(l.take (i + 1)).filter p = (l.take i).filter p ++ (if p x = true then [x] else []):=by
 obtain ⟨hi,e⟩:=List.getElem?_eq_some_iff.mp h
 rw [List.take_succ_eq_append_getElem hi,List.filter_append,e,List.filter_cons,List.filter_nil]
theorem ze8 {ws:List Int} {p:Nat} (hp:p < ws.length) (hz:∀ j,j < p→ws.getD j 0 = 0) (hn:ws.getD p 0≠0):(ws.filter fun w=>decide (w≠0))[0]? = some (ws.getD p 0):=by
 induction ws generalizing p with
 | nil=>simp at hp
 | cons w ws ih =>
  cases p with
  | zero =>
   have h:w≠0:=by simpa using hn
   rw [List.filter_cons,if_pos (by simpa using h)]
   simp
  | succ p =>
   have h0:w = 0:=by simpa using hz 0 (Nat.succ_pos p)
   rw [List.filter_cons,if_neg (by simp [h0])]
   have:=ih (p:=p) (by simpa using hp) (fun j hj=>by have:=hz (j + 1) (by omega); simpa using this) (by simpa using hn)
   rw [this]; simp
end
end La
namespace La
open Lean.Grind Nm
noncomputable def dB (D B:Nat):Nb→Prop
 | .q r=>∃ a:Int,r * ((D:Int):Rat) = ((a:Int):Rat)∧a.natAbs≤B
 | .z _=>True
theorem dB.mul {k:Int} {D B D' B':Nat} {x y:Nb} (hx:dB D B x) (hy:dB D' B' y) (ox:x.ok k) (oy:y.ok k):dB (D * D') (B * B') (nmul k x y):=by
 cases x with
 | q r =>
  cases y with
  | q s =>
   obtain ⟨a,ea,ha⟩:=hx
   obtain ⟨b,eb,hb⟩:=hy
   refine ⟨a * b,?_,?_⟩
   ·have e1:(((D * D':Nat):Int):Rat) = ((D:Int):Rat) * ((D':Int):Rat):=by rw [Int.natCast_mul,Rat.intCast_mul]
    rw [e1,Rat.intCast_mul,← ea,← eb]
    grind
   ·rw [Int.natAbs_mul]; exact Nat.mul_le_mul ha hb
  | z j=>exact absurd (show k = 0 from ox) oy.1
 | z i =>
  cases y with
  | q s=>exact absurd (show k = 0 from oy) ox.1
  | z j=>trivial
theorem dB.add {k:Int} {D B B':Nat} {x y:Nb} (hx:dB D B x) (hy:dB D B' y) (ox:x.ok k) (oy:y.ok k):dB D (B + B') (nadd k x y):=by
 cases x with
 | q r =>
  cases y with
  | q s =>
   obtain ⟨a,ea,ha⟩:=hx
   obtain ⟨b,eb,hb⟩:=hy
   refine ⟨a + b,?_,?_⟩
   ·rw [Rat.intCast_add,← ea,← eb]
    grind
   ·have:=Int.natAbs_add_le a b; omega
  | z j=>exact absurd (show k = 0 from ox) oy.1
 | z i =>
  cases y with
  | q s=>exact absurd (show k = 0 from oy) ox.1
  | z j=>trivial
theorem dB.up {D B:Nat} {x:Nb} (hx:dB D B x) (e c:Nat) (he:e≤c):dB (e * D) (c * B) x:=by
 cases x with
 | q r =>
  obtain ⟨a,ea,ha⟩:=hx
  refine ⟨(e:Int) * a,?_,?_⟩
  ·have e1:(((e * D:Nat):Int):Rat) = ((e:Int):Rat) * ((D:Int):Rat):=by rw [Int.natCast_mul,Rat.intCast_mul]
   rw [e1,Rat.intCast_mul,← ea]
   grind
  ·rw [Int.natAbs_mul,Int.natAbs_natCast]
   exact Nat.mul_le_mul he ha
 | z i=>trivial
theorem dB.mono {D B B':Nat} {x:Nb} (hx:dB D B x) (h:B≤B'):dB D B' x:=by
 cases x with
 | q r=>obtain ⟨a,ea,ha⟩:=hx; exact ⟨a,ea,Nat.le_trans ha h⟩
 | z i=>trivial
theorem dB.num {k w:Int} {D B:Nat} (h:w.natAbs * D≤B):dB D B (nnum k w):=by
 unfold nnum
 split
 ·refine ⟨w * D,by rw [Rat.intCast_mul],?_⟩
  rw [Int.natAbs_mul,Int.natAbs_natCast]; exact h
 ·trivial
theorem dB.parts {r:Rat} {D B:Nat} (hD:D≠0) (h:dB D B (.q r)):r.den≤D∧r.num.natAbs≤B:=by
 obtain ⟨a,ea,ha⟩:=h
 have e0:=kfRat.rat r rfl
 have e0':r * ((r.den:Int):Rat) = ((r.num:Int):Rat):=e0
 have e1:r.num * (D:Int) = a * (r.den:Int):=by
  have:((r.num * (D:Int):Int):Rat) = ((a * (r.den:Int):Int):Rat):=by
   rw [Rat.intCast_mul,Rat.intCast_mul,← e0',← ea]
   grind
  exact Rat.intCast_inj.mp this
 have e2:r.num.natAbs * D = a.natAbs * r.den:=by
  have:=congrArg Int.natAbs e1
  rw [Int.natAbs_mul,Int.natAbs_mul,Int.natAbs_natCast,Int.natAbs_natCast] at this
  exact this
 have cop:Nat.Coprime r.den r.num.natAbs:=(Nat.coprime_comm.mp r.reduced)
 have dv:r.den ∣ D:=cop.dvd_of_dvd_mul_left ⟨a.natAbs,by rw [e2,Nat.mul_comm]⟩
 have le:r.den≤D:=Nat.le_of_dvd (by omega) dv
 refine ⟨le,?_⟩
 have h1:r.num.natAbs * D≤a.natAbs * D:=by rw [e2]; exact Nat.mul_le_mul_left _ le
 have h2:r.num.natAbs≤a.natAbs:=Nat.le_of_mul_le_mul_right h1 (by omega)
 omega
section
variable {k:Int} {F:Type} [Field F]
theorem yc {α:Type} {l:List α} {i:Nat} {x y:α} (h:y∈l.set i x):y = x∨y∈l:=by
 rcases List.mem_or_eq_of_mem_set h with h | h
 ·exact .inr h
 ·exact .inl h
theorem zf2 {φ:Kf k F} {f:Nb→Nb→Nb} {xs ys:List Nb} (hl:xs.length = ys.length) (g:F→F→F) (h0:g 0 0 = 0) (h:∀ x∈xs,∀ y∈ys,φ.to (f x y) = g (φ.to x) (φ.to y)) (j:Nat):nv φ (List.zipWith f xs ys) j = g (nv φ xs j) (nv φ ys j):=by
 rcases Nat.lt_or_ge j xs.length with l | l
 ·have l2:j < ys.length:=by omega
  rw [yp φ (x:=f xs[j] ys[j]) (by rw [List.getElem?_zipWith,List.getElem?_eq_getElem l,List.getElem?_eq_getElem l2]),yp φ (List.getElem?_eq_getElem l),yp φ (List.getElem?_eq_getElem l2),h _ (List.getElem_mem l) _ (List.getElem_mem l2)]
 ·rw [qp φ (by rw [List.length_zipWith]; omega),qp φ l,qp φ (by omega),h0]
end
end La
namespace La
open Lean.Grind Nm
section
variable {k:Int} {F:Type} [Field F]
theorem zeF {n l:Nat} {u v:Nat→F} (hl:l < n) (h:∀ j,j < n→j≠l→u j * v j = 0):dot n u v = u l * v l:=by
 induction n with
 | zero=>exact absurd hl (Nat.not_lt_zero l)
 | succ n ih =>
  simp only [dot]
  by_cases e:l = n
  ·subst e
   rw [dot_zero l u v fun j hj=>h j (by omega) (by omega)]; grind
  ·rw [ih (by omega) fun j hj ne=>h j (by omega) ne,h n (by omega) (Ne.symm e)]; grind
theorem QD (n:Nat) (u v w:Nat→F):dot n u (fun j=>v j + w j) = dot n u v + dot n u w:=by
 rw [jF,XA,jF n v,jF n w]
theorem Je (a:F) (n:Nat) (u v:Nat→F):dot n u (fun j=>a * v j) = a * dot n u v:=by
 rw [jF,qq,jF n v]
theorem Span.dot_zero {S:(Nat→F)→Prop} {n:Nat} {x v:Nat→F} (h:Span S v) (z:∀ r,S r→dot n r x = 0):dot n v x = 0 :=
 h.all (P:=fun v=>dot n v x = 0) (La.dot_zero n _ _ fun j _=>by grind) fun c r v hr hv=>by
  rw [XA n (fun j=>c * r j) v x,qq,z r hr,hv]; grind
noncomputable def augR (A:List (List Nb)) (b:List Nb):List (List Nb):=List.zipWith (fun r x=>r ++ [x]) A b
theorem Jt {n:Nat} {A:List (List Nb)} {b:List Nb} (oA:OkM k n A) (ob:OkR k b):OkM k (n + 1) (augR A b):=fun r hr=>by
 unfold augR at hr
 obtain ⟨i,hi,e⟩:=List.getElem_of_mem hr
 rw [List.getElem_zipWith] at e
 rw [← e]
 have o:=oA _ (List.getElem_mem (l:=A) (n:=i) (by rw [List.length_zipWith] at hi; omega))
 refine ⟨by rw [List.length_append,o.1]; rfl,fun x hx=>?_⟩
 rcases List.mem_append.mp hx with h | h
 ·exact o.2 x h
 ·rw [List.mem_singleton.mp h]
  exact ob _ (List.getElem_mem _)
theorem XW (φ:Kf k F) {r:List Nb} {x:Nb} {n:Nat} (hr:r.length = n) (j:Nat):nv φ (r ++ [x]) j = if j < n then nv φ r j else if j = n then φ.to x else 0:=by
 subst hr
 split
 ·rename_i h
  rw [yp φ (x:=r[j]) (by rw [List.getElem?_append_left h,List.getElem?_eq_getElem h]),yp φ (List.getElem?_eq_getElem h)]
 ·rename_i h
  split
  ·rename_i e
   subst e
   rw [yp φ (x:=x) (by rw [List.getElem?_append_right (Nat.le_refl _)]; simp)]
  ·exact qp φ (by rw [List.length_append]; show r.length + 1≤j; omega)
noncomputable def ext (n:Nat) (x:Nat→F):Nat→F:=fun j=>if j < n then x j else if j = n then -1 else 0
theorem zaB (n:Nat) (v x:Nat→F):dot (n + 1) v (ext n x) = dot n v x - v n:=by
 simp only [dot]
 have e:dot n v (ext n x) = dot n v x:=yQ fun j hj=>by unfold ext; rw [if_pos hj]
 rw [e]
 have:ext n x n = (-1:F):=by unfold ext; rw [if_neg (Nat.lt_irrefl n),if_pos rfl]
 rw [this]; grind
noncomputable def Sol (φ:Kf k F) (n:Nat) (A:List (List Nb)) (b:List Nb) (x:Nat→F):Prop:=∀ (i:Nat) (a:List Nb) (bi:Nb),A[i]? = some a→b[i]? = some bi→dot n (nv φ a) x = φ.to bi
theorem zdz (φ:Kf k F) {n:Nat} {A:List (List Nb)} {b:List Nb} (oA:OkM k n A) (x:Nat→F):Sol φ n A b x↔∀ r,RmN φ (augR A b) r→dot (n + 1) r (ext n x) = 0:=by
 have key:∀ (a:List Nb) (bi:Nb),a.length = n→dot (n + 1) (nv φ (a ++ [bi])) (ext n x) = dot n (nv φ a) x - φ.to bi:=fun a bi ha=>by
  rw [zaB]
  have e1:dot n (nv φ (a ++ [bi])) x = dot n (nv φ a) x:=yQ fun j hj=>by rw [XW φ ha,if_pos hj]
  have e2:nv φ (a ++ [bi]) n = φ.to bi:=by rw [XW φ ha,if_neg (Nat.lt_irrefl n),if_pos rfl]
  rw [e1,e2]
 constructor
 ·rintro h r ⟨row,hrow,rfl⟩
  unfold augR at hrow
  obtain ⟨i,hi,e⟩:=List.getElem_of_mem hrow
  rw [List.length_zipWith] at hi
  rw [List.getElem_zipWith] at e
  have h1:i < A.length:=by omega
  have h2:i < b.length:=by omega
  rw [← e,key _ _ (oA _ (List.getElem_mem h1)).1,h i A[i] b[i] (List.getElem?_eq_getElem h1) (List.getElem?_eq_getElem h2)]
  grind
 ·intro h i a bi ha hb
  have hm:a ++ [bi]∈augR A b:=List.mem_of_getElem? (i:=i) (by unfold augR; rw [List.getElem?_zipWith,ha,hb])
  have:=h _ ⟨_,hm,rfl⟩
  rw [key a bi (oA a (List.mem_of_getElem? ha)).1] at this
  grind
structure Told (k:Int) (n:Nat) (R:List (List Nb)) (ls:List Nat) (x:List Nb):Prop where
 len:x.length = n
 at_:∀ (i l:Nat) (r:List Nb) (s:Nb),ls[i]? = some l→R[i]? = some r→r[n]? = some s→x[l]? = some s
 off:∀ j,j < n→j∉ls→x[j]? = some (nnum k 0)
theorem ZH {α β:Type} {xs:List α} {ys:List β} {i:Nat} {a:α} {b:β} (h1:xs[i]? = some a) (h2:ys[i]? = some b):(a,b)∈xs.zip ys :=
 List.mem_of_getElem? (i:=i) (by rw [List.getElem?_zip_eq_some]; exact ⟨h1,h2⟩)
theorem zfA (φ:Kf k F) {n:Nat} {A R:List (List Nb)} {b x:List Nb} {ls:List Nat} (oA:OkM k n A) (red:RedOf φ (n + 1) (augR A b) R ls) (no:n∉ls) (t:Told k n R ls x):Sol φ n A b (nv φ x):=by
 rw [zdz φ oA]
 intro r hr
 have hs:Span (RmN φ R) r:=red.to r (.of hr)
 refine hs.dot_zero fun u ⟨row,hrow,e⟩=>?_
 obtain ⟨i,hi,ei⟩:=List.getElem_of_mem hrow
 have h1:i < ls.length:=by rw [red.len]; exact hi
 have hp:=ZH (xs:=ls) (ys:=R.map (nv φ)) (i:=i) (a:=ls[i]) (b:=nv φ row) (List.getElem?_eq_getElem h1) (by rw [List.getElem?_map,List.getElem?_eq_getElem hi,ei]; rfl)
 have lt:=red.rr.lt _ hp
 have ln:ls[i] < n:=by
  have:ls[i]≠n:=fun z=>no (by rw [← z]; exact List.getElem_mem h1)
  have:ls[i] < n + 1:=lt
  omega
 have rl:=(red.ok row hrow).1
 rw [e,zaB]
 obtain ⟨s,hs⟩ : ∃ s,row[n]? = some s:=⟨row[n],List.getElem?_eq_getElem (by omega)⟩
 have xs:=t.at_ i ls[i] row s (List.getElem?_eq_getElem h1) (by rw [List.getElem?_eq_getElem hi,ei]) hs
 rw [zeF (l:=ls[i]) ln fun j hj ne=>?_]
 ·have o:nv φ row ls[i] = 1:=red.rr.one _ hp
  rw [o,yp φ xs,yp φ hs]; grind
 ·by_cases hm:j∈ls
  ·obtain ⟨i',hi',e'⟩:=List.getElem_of_mem hm
   have hi2:i' < R.length:=by rw [← red.len]; exact hi'
   have hq:=ZH (xs:=ls) (ys:=R.map (nv φ)) (i:=i') (a:=j) (b:=nv φ R[i']) (by rw [List.getElem?_eq_getElem hi',e']) (by rw [List.getElem?_map,List.getElem?_eq_getElem hi2]; rfl)
   have:nv φ row j = 0:=red.rr.oth _ hp _ hq (Ne.symm ne)
   rw [this]; grind
  ·rw [yp φ (t.off j hj hm),φ.num0]; grind
theorem zfj (φ:Kf k F) {n:Nat} {A R:List (List Nb)} {b:List Nb} {ls:List Nat} (oA:OkM k n A) (red:RedOf φ (n + 1) (augR A b) R ls) (yes:n∈ls) (x:Nat→F):¬ Sol φ n A b x:=fun h=>by
 rw [zdz φ oA] at h
 obtain ⟨i,hi,ei⟩:=List.getElem_of_mem yes
 have h2:i < R.length:=by rw [← red.len]; exact hi
 have hp:=ZH (xs:=ls) (ys:=R.map (nv φ)) (i:=i) (a:=n) (b:=nv φ R[i]) (by rw [List.getElem?_eq_getElem hi,ei]) (by rw [List.getElem?_map,List.getElem?_eq_getElem h2]; rfl)
 have hs:Span (RmN φ (augR A b)) (nv φ R[i]):=red.fro _ (.of ⟨_,List.getElem_mem h2,rfl⟩)
 have z:=hs.dot_zero h
 rw [zaB,La.dot_zero n _ _ fun j hj=>?_] at z
 ·have o:nv φ R[i] n = 1:=red.rr.one _ hp
  rw [o] at z
  have:=Field.zero_ne_one (α:=F)
  grind
 ·have:nv φ R[i] j = 0:=red.rr.bef _ hp j hj
  rw [this]; grind
noncomputable def trF (n:Nat) (A:List (List Nb)):List (List Nb):=(List.range n).map fun j=>A.map fun r=>r.getD j (.z 0)
noncomputable def unitF (l:Nat) (c:F):Nat→F:=fun j=>if j = l then c else 0
theorem zeZ {n l:Nat} (hl:l < n) (u:Nat→F) (c:F):dot n u (unitF l c) = c * u l:=by
 rw [zeF hl fun j hj ne=>by unfold unitF; rw [if_neg ne]; grind]
 unfold unitF
 rw [if_pos rfl]; grind
theorem zfp (φ:Kf k F) {n j i:Nat} {A:List (List Nb)} {a:List Nb} (oA:OkM k n A) (hj:j < n) (ha:A[i]? = some a):nv φ (A.map fun r=>r.getD j (.z 0)) i = nv φ a j:=by
 have la:=(oA a (List.mem_of_getElem? ha)).1
 have hj':j < a.length:=by omega
 rw [yp φ (x:=a.getD j (.z 0)) (by rw [List.getElem?_map,ha]; rfl),yp φ (List.getElem?_eq_getElem hj'),List.getD_eq_getElem?_getD,List.getElem?_eq_getElem hj']; rfl
theorem zcN (φ:Kf k F) {n m:Nat} {A:List (List Nb)} {b:List Nb} (oA:OkM k n A) (lA:A.length = m) (lb:b.length = m) (ob:OkR k b) (no:∀ x,¬ Sol φ n A b x)
  {R:List (List Nb)} {ls:List Nat} (red:RedOf φ (m + 1) (augR (trF n A ++ [b]) (List.replicate n (nnum k 0) ++ [nnum k 1])) R ls):m∉ls:=fun yes=>by
 have key:∀ v,Span (RmN φ (augR (trF n A ++ [b]) (List.replicate n (nnum k 0) ++ [nnum k 1]))) v→∃ (x:Nat→F) (c:F),(∀ (i:Nat) (a:List Nb) (bi:Nb),A[i]? = some a→b[i]? = some bi→v i = dot n (nv φ a) x + c * φ.to bi)∧v m = c:=fun v hv =>
  hv.all (P:=fun v=>∃ (x:Nat→F) (c:F),(∀ (i:Nat) (a:List Nb) (bi:Nb),A[i]? = some a→b[i]? = some bi→v i = dot n (nv φ a) x + c * φ.to bi)∧v m = c)
   ⟨fun _=>0,0,fun i a bi _ _=>by rw [La.dot_zero n _ _ fun j _=>by grind]; grind,rfl⟩ fun c r v ⟨row,hrow,e⟩ ⟨x,d,h1,h2⟩=>by
    unfold augR at hrow
    obtain ⟨t,ht,et⟩:=List.getElem_of_mem hrow
    have ltr:(trF n A).length = n:=by unfold trF; simp
    rw [List.length_zipWith,List.length_append,List.length_append,List.length_replicate,ltr] at ht
    rw [List.getElem_zipWith] at et
    have ht1:t < n + 1:=by simp at ht; omega
    by_cases tn:t < n
    ·have e1:(trF n A ++ [b])[t]'(by rw [List.length_append,ltr]; exact ht1) = A.map fun r=>r.getD t (.z 0):=by
      rw [List.getElem_append_left (by rw [ltr]; exact tn)]; unfold trF; simp
     have e2:(List.replicate n (nnum k 0) ++ [nnum k 1])[t]'(by rw [List.length_append,List.length_replicate]; exact ht1) = nnum k 0:=by
      rw [List.getElem_append_left (by rw [List.length_replicate]; exact tn),List.getElem_replicate]
     rw [e1,e2] at et
     refine ⟨fun j=>x j + unitF t c j,d,fun i a bi ha hb=>?_,?_⟩
     ·have hi:i < m:=by rw [← lA]; exact (List.getElem?_eq_some_iff.mp ha).1
      show c * r i + v i = _
      rw [QD,zeZ tn,h1 i a bi ha hb,e,← et,XW φ (n:=m) (by rw [List.length_map]; exact lA),if_pos hi,zfp φ oA tn ha]
      grind
     ·show c * r m + v m = _
      rw [h2,e,← et,XW φ (n:=m) (by rw [List.length_map]; exact lA),if_neg (Nat.lt_irrefl m),if_pos rfl,φ.num0]; grind
    ·have etn:t = n:=by omega
     subst etn
     have e1:(trF t A ++ [b])[t]'(by rw [List.length_append,ltr]; exact ht1) = b:=by
      rw [List.getElem_append_right (by rw [ltr]; exact Nat.le_refl _)]; simp
     have e2:(List.replicate t (nnum k 0) ++ [nnum k 1])[t]'(by rw [List.length_append,List.length_replicate]; exact ht1) = nnum k 1:=by
      rw [List.getElem_append_right (by rw [List.length_replicate]; exact Nat.le_refl _)]; simp
     rw [e1,e2] at et
     refine ⟨x,d + c,fun i a bi ha hb=>?_,?_⟩
     ·have hi:i < m:=by rw [← lA]; exact (List.getElem?_eq_some_iff.mp ha).1
      show c * r i + v i = _
      rw [h1 i a bi ha hb,e,← et,XW φ lb,if_pos hi,yp φ hb]
      grind
     ·show c * r m + v m = _
      rw [h2,e,← et,XW φ lb,if_neg (Nat.lt_irrefl m),if_pos rfl,φ.num1]; grind
 obtain ⟨i,hi,ei⟩:=List.getElem_of_mem yes
 have h2:i < R.length:=by rw [← red.len]; exact hi
 have hp:=ZH (xs:=ls) (ys:=R.map (nv φ)) (i:=i) (a:=m) (b:=nv φ R[i]) (by rw [List.getElem?_eq_getElem hi,ei]) (by rw [List.getElem?_map,List.getElem?_eq_getElem h2]; rfl)
 obtain ⟨x,c,h1,hc⟩:=key _ (red.fro _ (.of ⟨_,List.getElem_mem h2,rfl⟩))
 have o:nv φ R[i] m = 1:=red.rr.one _ hp
 refine no (fun j=>-1 * x j) fun t a bi ha hb=>?_
 have ht:t < m:=by rw [← lA]; exact (List.getElem?_eq_some_iff.mp ha).1
 have z:nv φ R[i] t = 0:=red.rr.bef _ hp t ht
 have q:=h1 t a bi ha hb
 rw [z,← hc,o] at q
 rw [Je]
 grind
end
end La
namespace La
open Lean.Grind Nm
noncomputable def rowD (D B:Nat) (xs:List Nb):Prop:=∀ x∈xs,dB D (2 ^ B - 1) x
noncomputable def rowB (B:Nat) (xs:List Nb):Prop:=∃ D:Nat,D≠0∧D < 2 ^ B∧rowD D B xs
noncomputable def rowsB (B:Nat) (M:List (List Nb)):Prop:=∀ r∈M,rowB B r
theorem rowB.mono {B C:Nat} {xs:List Nb} (h:rowB B xs) (hc:B≤C):rowB C xs:=by
 obtain ⟨D,d0,d1,hd⟩:=h
 have:2 ^ B≤2 ^ C:=Nat.pow_le_pow_right (by decide) hc
 exact ⟨D,d0,by omega,fun x hx=>(hd x hx).mono (by omega)⟩
theorem rowsB.mono {B C:Nat} {M:List (List Nb)} (h:rowsB B M) (hc:B≤C):rowsB C M:=fun r hr=>(h r hr).mono hc
theorem dB.den_dvd {D B:Nat} {r:Rat} (hD:D≠0) (h:dB D B (.q r)):(r.den:Int) ∣ (D:Int):=by
 obtain ⟨a,ea,ha⟩:=h
 have e0':r * ((r.den:Int):Rat) = ((r.num:Int):Rat):=kfRat.rat r rfl
 have e1:r.num * (D:Int) = a * (r.den:Int):=by
  have:((r.num * (D:Int):Int):Rat) = ((a * (r.den:Int):Int):Rat):=by
   rw [Rat.intCast_mul,Rat.intCast_mul,← e0',← ea]
   grind
  exact Rat.intCast_inj.mp this
 have e2:r.num.natAbs * D = a.natAbs * r.den:=by
  have:=congrArg Int.natAbs e1
  rw [Int.natAbs_mul,Int.natAbs_mul,Int.natAbs_natCast,Int.natAbs_natCast] at this
  exact this
 have cop:Nat.Coprime r.den r.num.natAbs:=(Nat.coprime_comm.mp r.reduced)
 have dv:r.den ∣ D:=cop.dvd_of_dvd_mul_left ⟨a.natAbs,by rw [e2,Nat.mul_comm]⟩
 exact Int.ofNat_dvd.mpr dv
theorem zee {D B:Nat} {b:Int} {x:Nb} {k:Int} (hk:KindOk k) (ox:x.ok k) (h7:61≤B) (hD:D≠0) (h:dB D (2 ^ B - 1) x) (hb:0 < b) (hx:dvB b x) (hd:k = 0→b ∣ (D:Int)):(scW b x).natAbs < 2 ^ B:=by
 have p2:0 < 2 ^ B:=Nat.pow_pos (by decide)
 cases x with
 | q r =>
  obtain ⟨a,ea,ha⟩:=h
  obtain ⟨e,he⟩:=hd ox
  have hdv:(r.den:Int) ∣ b:=hx
  have e1:=jL hdv (Zt r)
  have e0':r * ((r.den:Int):Rat) = ((r.num:Int):Rat):=kfRat.rat r rfl
  have key:a = scW b (.q r) * e:=by
   show a = r.num * b.fdiv (r.den:Int) * e
   generalize b.fdiv (r.den:Int) = u at *
   have hDD:((D:Int):Rat) = (u:Rat) * ((r.den:Int):Rat) * (e:Rat):=by rw [he,← e1,Rat.intCast_mul,Rat.intCast_mul]
   have:((a:Int):Rat) = ((r.num * u * e:Int):Rat):=by
    rw [Rat.intCast_mul,Rat.intCast_mul,← ea,← e0',hDD]
    generalize ((r.den:Int):Rat) = dd
    grind
   exact Rat.intCast_inj.mp this
  have ene:e≠0:=fun z=>by rw [z,Int.mul_zero] at he; omega
  have:(scW b (.q r)).natAbs≤a.natAbs:=by
   rw [key,Int.natAbs_mul]
   exact Nat.le_mul_of_pos_right _ (Int.natAbs_pos.mpr ene)
  omega
 | z i =>
  have:=hk.lt
  obtain ⟨_,i0,i1⟩:=ox
  show i.natAbs < 2 ^ B
  have:2 ^ 61≤2 ^ B:=Nat.pow_le_pow_right (by decide) h7
  have:(2:Nat) ^ 61 = 2305843009213693952:=by decide
  omega
theorem zgO {b d D:Int} (hb:0 < b) (hd:0 < d) (h1:b ∣ D) (h2:d ∣ D):b.fdiv ((Int.gcd b d:Nat):Int) * d ∣ D:=by
 have g0:0 < ((Int.gcd b d:Nat):Int):=by have:=Int.gcd_pos_of_ne_zero_left d (show b≠0 by omega); omega
 have db:((Int.gcd b d:Nat):Int) ∣ b:=Int.gcd_dvd_left b d
 have dd:((Int.gcd b d:Nat):Int) ∣ d:=Int.gcd_dvd_right b d
 have e1:=jL db (by omega)
 have e2:=jL dd (by omega)
 have cop:Int.gcd (b.fdiv ((Int.gcd b d:Nat):Int)) (d.fdiv ((Int.gcd b d:Nat):Int)) = 1:=by
  rw [Int.fdiv_eq_ediv_of_dvd db,Int.fdiv_eq_ediv_of_dvd dd,Int.gcd_ediv db dd,Int.natAbs_natCast]
  exact Nat.div_self (by omega)
 generalize hx:b.fdiv ((Int.gcd b d:Nat):Int) = x at *
 generalize hy:d.fdiv ((Int.gcd b d:Nat):Int) = y at *
 generalize hg:((Int.gcd b d:Nat):Int) = g at *
 obtain ⟨s,hs⟩:=h1
 obtain ⟨t,ht⟩:=h2
 have e3:x * s = y * t:=by
  have:g * (x * s) = g * (y * t):=by
   have h:x * g * s = y * g * t:=by rw [e1,e2,← hs,← ht]
   grind
  exact Int.eq_of_mul_eq_mul_left (by omega) this
 have dv:y ∣ s:=by
  have:y ∣ x * s:=⟨t,e3⟩
  have h1:y.natAbs ∣ x.natAbs * s.natAbs:=by rw [← Int.natAbs_mul]; exact Int.natAbs_dvd_natAbs.mpr this
  have c1:Nat.Coprime y.natAbs x.natAbs:=by
   have:Nat.gcd x.natAbs y.natAbs = 1:=cop
   exact (Nat.coprime_comm.mp this)
  exact Int.natAbs_dvd_natAbs.mp (c1.dvd_of_dvd_mul_left h1)
 obtain ⟨u,hu⟩:=dv
 refine ⟨u,?_⟩
 rw [hs,hu,← e1,← e2]
 grind
theorem zct {k:Int} (hk:KindOk k) {B p:Nat} {ws:List Int} (h:∀ w∈ws,w.natAbs < 2 ^ B) (hp:p < ws.length) (ne:ws.getD p 0≠0) (nn:nnum k (ws.getD p 0)≠nnum k 0):rowB B (overL k (p,ws)):=by
 have hl:ws.getD p 0∈ws:=by
  rw [List.getD_eq_getElem?_getD,List.getElem?_eq_getElem hp]; exact List.getElem_mem hp
 have p2:0 < 2 ^ B:=Nat.pow_pos (by decide)
 have hlb:=h _ hl
 refine ⟨(ws.getD p 0).natAbs,by omega,hlb,fun x hx=>?_⟩
 unfold overL at hx
 obtain ⟨w,hw,rfl⟩:=List.mem_map.mp hx
 show dB (ws.getD p 0).natAbs (2 ^ B - 1) (ndiv k (nnum k w) (nnum k (ws.getD p 0)))
 generalize hL:ws.getD p 0 = l at *
 by_cases k0:k = 0
 ·subst k0
  have hwb:=h w hw
  have e1:nnum 0 w = .q (w:Rat):=rfl
  have e2:nnum 0 l = .q (l:Rat):=rfl
  rw [e1,e2]
  show ∃ a:Int,(w:Rat) / (l:Rat) * (((l.natAbs:Nat):Int):Rat) = ((a:Int):Rat)∧a.natAbs≤2 ^ B - 1
  have nl:(l:Rat)≠0:=fun z=>ne (Rat.intCast_eq_zero_iff.mp z)
  rcases Int.le_total 0 l with s | s
  ·refine ⟨w,?_,by omega⟩
   rw [show ((l.natAbs:Nat):Int) = l by omega]
   grind
  ·refine ⟨-w,?_,by omega⟩
   rw [show ((l.natAbs:Nat):Int) = -l by omega,Rat.intCast_neg,Rat.intCast_neg]
   grind
 ·have e1:nnum k w = .z (w.fmod k):=by unfold nnum; rw [if_neg k0]
  have e2:nnum k l = .z (l.fmod k):=by unfold nnum; rw [if_neg k0]
  rw [e1,e2]
  trivial
end La
namespace La
open Lean.Grind Nm
section
variable {k:Int} {F:Type} [Field F]
noncomputable abbrev Rm (φ:Kf k F) (M:List (List Nb)):(Nat→F)→Prop:=Span (RmN φ M)
variable {φ:Kf k F} {n:Nat} {R R' A:List (List Nb)} {ls ls':List Nat}
theorem IsR.get (h:IsR φ n R ls) {i l:Nat} {r:List Nb} (hl:ls[i]? = some l) (hr:R[i]? = some r):(l,nv φ r)∈ls.zip (R.map (nv φ)):=ZH hl (by rw [List.getElem?_map,hr]; rfl)
theorem IsR.lead_of (h:IsR φ n R ls) {l:Nat} (hl:l∈ls):∃ (i:Nat) (r:List Nb),ls[i]? = some l∧R[i]? = some r:=by
 obtain ⟨i,hi,e⟩:=List.getElem_of_mem hl
 have h2:i < R.length:=by rw [← h.len]; exact hi
 exact ⟨i,R[i],by rw [List.getElem?_eq_getElem hi,e],List.getElem?_eq_getElem h2⟩
end
end La
namespace La
open Lean.Grind Nm
section
variable {k:Int} {F:Type} [Field F] {φ:Kf k F} {n:Nat}
theorem zcl (hk:KindOk k):∀ {xs:List Nb},OkR k xs→∃ b,Scl k xs (xs.map (scW b)) b:=by
 intro xs ox
 by_cases k0:k = 0
 ·have:∃ b:Int,0 < b∧∀ x∈xs,dvB b x:=by
   induction xs with
   | nil=>exact ⟨1,by decide,fun x hx=>nomatch hx⟩
   | cons x xs ih =>
    obtain ⟨b,b0,hb⟩:=ih fun y hy=>ox y (List.mem_cons_of_mem _ hy)
    cases x with
    | z i=>exact absurd k0 (ox (.z i) List.mem_cons_self).1
    | q r =>
     refine ⟨b * (r.den:Int),Int.mul_pos b0 (den_pos r),fun y hy=>?_⟩
     rcases List.mem_cons.mp hy with e | hy
     ·rw [e]; exact Int.dvd_mul_left _ _
     ·have:=hb y hy
      cases y with
      | q s=>exact Int.dvd_trans (show (s.den:Int) ∣ b from this) (Int.dvd_mul_right _ _)
      | z j=>trivial
  obtain ⟨b,b0,hb⟩:=this
  exact ⟨b,rfl,b0,fun z=>absurd k0 z,hb⟩
 ·refine ⟨1,rfl,by decide,fun _=>rfl,fun x hx=>?_⟩
  have o:=ox x hx
  cases x with
  | q r=>exact absurd o k0
  | z i=>trivial
theorem Ja (φ:Kf k F) (hk:KindOk k) {M:List (List Nb)} (oM:OkM k n M):∃ R ls,RedOf φ n M R ls:=by
 have:∃ Ws:List (List Int),Ws.length = M.length∧∀ (i:Nat) (r:List Nb) (ws:List Int),M[i]? = some r→Ws[i]? = some ws→∃ b,Scl k r ws b:=by
  induction M with
  | nil=>exact ⟨[],rfl,fun i r ws h=>by simp at h⟩
  | cons m M ih =>
   obtain ⟨Ws,l,h⟩:=ih fun r hr=>oM r (List.mem_cons_of_mem _ hr)
   obtain ⟨b,hb⟩:=zcl hk (oM m List.mem_cons_self).2
   refine ⟨m.map (scW b) :: Ws,by simp [l],fun i r ws h1 h2=>?_⟩
   cases i with
   | zero=>simp at h1 h2; subst h1 h2; exact ⟨b,hb⟩
   | succ i=>exact h i r ws (by simpa using h1) (by simpa using h2)
 obtain ⟨Ws,l,h⟩:=this
 exact ⟨_,_,zaF φ hk oM l h⟩
theorem Xn:∀ {P Q:List Nat},P.Pairwise (· < ·)→Q.Pairwise (· < ·)→(∀ p∈P,p∈Q)→(∀ q∈Q,q∈P)→P = Q
 | [],[],_,_,_,_=>rfl
 | [],q :: _,_,_,_,h=>nomatch h q List.mem_cons_self
 | p :: _,[],_,_,h,_=>nomatch h p List.mem_cons_self
 | p :: P,q :: Q,hP,hQ,h1,h2=>by
  rw [List.pairwise_cons] at hP hQ
  have e:p = q:=by
   rcases List.mem_cons.mp (h1 p List.mem_cons_self) with e | m
   ·exact e
   ·rcases List.mem_cons.mp (h2 q List.mem_cons_self) with e | m'
    ·exact e.symm
    ·have:=hP.1 q m'; have:=hQ.1 p m; omega
  subst e
  rw [Xn hP.2 hQ.2 (fun r hr=>?_) (fun r hr=>?_)]
  ·rcases List.mem_cons.mp (h1 r (List.mem_cons_of_mem _ hr)) with e | m
   ·subst e; exact absurd (hP.1 r hr) (Nat.lt_irrefl _)
   ·exact m
  ·rcases List.mem_cons.mp (h2 r (List.mem_cons_of_mem _ hr)) with e | m
   ·subst e; exact absurd (hQ.1 r hr) (Nat.lt_irrefl _)
   ·exact m
variable {U W:List (List Nb)} {lu lw:List Nat}
theorem IsR.inc (h:IsR φ n U lu):lu.Pairwise (· < ·):=by
 have:=h.rr.inc
 rw [← List.pairwise_map (f:=Prod.fst) (R:=(· < ·)),List.map_fst_zip (by rw [List.length_map]; exact Nat.le_of_eq h.len)] at this
 exact this
theorem IsR.lead_iff (h:IsR φ n U lu) (p:Nat):p∈lu↔∃ v,Rm φ U v∧(∀ j,j < p→v j = 0)∧v p≠0:=by
 constructor
 ·intro hp
  obtain ⟨i,r,h1,h2⟩:=h.lead_of hp
  have hm:=h.get h1 h2
  have o:nv φ r p = 1:=h.rr.one _ hm
  exact ⟨nv φ r,.of ⟨r,List.mem_of_getElem? h2,rfl⟩,h.rr.bef _ hm,by rw [o]; exact fun e=>Field.zero_ne_one e.symm⟩
 ·rintro ⟨v,hv,z,ne⟩
  obtain ⟨q,hq,e⟩:=h.rr.lead (h.rows.mpr hv) z ne
  rw [← e]
  exact (List.of_mem_zip (show (q.1,q.2)∈_ from hq)).1
theorem IsR.zero (h:IsR φ n U lu) {v:Nat→F} (hv:Rm φ U v) (z:∀ l∈lu,v l = 0) (j:Nat):v j = 0:=by
 rw [← h.rr.comb (h.rows.mpr hv) j]
 exact jo v j _ fun p hp=>by
  rw [z p.1 (List.of_mem_zip (show (p.1,p.2)∈_ from hp)).1]; grind
theorem IsR.take_off (h:IsR φ n U lu) (v:Nat→F):∃ u,Rm φ U u∧∀ l∈lu,u l = v l:=by
 refine ⟨comb (lu.zip (U.map (nv φ))) v,h.rows.mp (QA v _),fun l hl=>?_⟩
 obtain ⟨i,r,h1,h2⟩:=h.lead_of hl
 have hp:=h.get h1 h2
 have gen:∀ (P:List (Pv F)),P.Pairwise (fun a b=>a.1 < b.1)→(∀ p∈P,p∈lu.zip (U.map (nv φ)))→(∃ p∈P,p.1 = l)→comb P v l = v l * 1:=by
  intro P
  induction P with
  | nil=>intro _ _ ⟨p,hp,_⟩; exact nomatch hp
  | cons p P ih =>
   intro pw hm hex
   rw [List.pairwise_cons] at pw
   have hp0:=hm p List.mem_cons_self
   simp only [comb]
   by_cases ep:p.1 = l
   ·have o:p.2 p.1 = 1:=h.rr.one _ hp0
    rw [jo v l P fun q hq=>?_]
    ·rw [← ep,o]; grind
    ·have hq0:=hm q (List.mem_cons_of_mem _ hq)
     have:p.1 < q.1:=pw.1 q hq
     have z:q.2 p.1 = 0:=h.rr.oth q hq0 p hp0 (by omega)
     rw [← ep,z]; grind
   ·obtain ⟨q,hq,eq⟩:=hex
    rcases List.mem_cons.mp hq with z | z
    ·rw [z] at eq; exact absurd eq ep
    ·have hq0:=hm q (List.mem_cons_of_mem _ z)
     have z2:p.2 q.1 = 0:=h.rr.oth p hp0 q hq0 (by rw [eq]; exact ep)
     rw [ih pw.2 (fun r hr=>hm r (List.mem_cons_of_mem _ hr)) ⟨q,z,eq⟩,← eq,z2]; grind
 rw [gen _ h.rr.inc (fun p hp=>hp) ⟨_,hp,rfl⟩]; grind
end
end La
namespace La
open Lean.Grind Nm
section
variable {k:Int} {F:Type} [Field F] {φ:Kf k F} {n:Nat}
theorem zgL {xs ys:List Nb} (j:Nat):nv φ (xs ++ ys) j = if j < xs.length then nv φ xs j else nv φ ys (j - xs.length):=by
 unfold nv
 split
 ·rename_i h; rw [List.getD_eq_getElem?_getD,List.getElem?_append_left h,← List.getD_eq_getElem?_getD]
 ·rename_i h; rw [List.getD_eq_getElem?_getD,List.getElem?_append_right (by omega),← List.getD_eq_getElem?_getD]
theorem zfg {xs:List Nb} {m j:Nat} (h:j < m):nv φ (xs.take m) j = nv φ xs j:=by
 unfold nv
 rw [List.getD_eq_getElem?_getD,List.getElem?_take_of_lt h,← List.getD_eq_getElem?_getD]
theorem zeR {xs:List Nb} {m:Nat} (j:Nat):nv φ (xs.drop m) j = nv φ xs (m + j):=by
 unfold nv
 rw [List.getD_eq_getElem?_getD,List.getElem?_drop,← List.getD_eq_getElem?_getD]
end
end La
namespace La
open Lean.Grind Nm
section
variable {k:Int} {F:Type} [Field F] {φ:Kf k F} {n:Nat}
end
end La
namespace La
open Lean.Grind Nm
section
variable {k:Int} {F:Type} [Field F] {φ:Kf k F}
theorem Qj (n:Nat) (c:Nat→F) (b:Nat→Nat→F) (a:Nat→F):∀ m,dot m a (fun i=>dot n (b i) c) = dot n (fun j=>dot m a (fun i=>b i j)) c
 | 0=>by
  rw [dot_zero n (fun j=>dot 0 a fun i=>b i j) c fun j _=>by simp only [dot]; grind]
  rfl
 | m + 1=>by
  have e:dot n (fun j=>dot (m + 1) a (fun i=>b i j)) c = dot n (fun j=>dot m a (fun i=>b i j)) c + dot n (fun j=>a m * b m j) c:=by
   rw [← XA]
   rfl
  rw [e,← Qj n c b a m,qq]
  rfl
noncomputable def imgR (k:Int) (M:List (List Nb)) (x:List Nb):List Nb:=M.map fun r=>ndot k r x
noncomputable def prodR (k:Int) (c:Nat) (M N:List (List Nb)):List (List Nb):=M.map fun r=>(trF c N).map fun col=>ndot k r col
theorem qO (hk:KindOk k) {n:Nat} {M:List (List Nb)} {x:List Nb} (oM:OkM k n M) (ox:OkR k x):(imgR k M x).length = M.length∧OkR k (imgR k M x):=by
 refine ⟨by unfold imgR; rw [List.length_map],fun y hy=>?_⟩
 unfold imgR at hy
 obtain ⟨r,hr,rfl⟩:=List.mem_map.mp hy
 exact yq hk (oM r hr).2 ox
theorem zg7 (n:Nat) (M:List (List Nb)):(trF n M).length = n:=by unfold trF; simp
theorem zhd {n i:Nat} {M:List (List Nb)} (h:i < n):(trF n M)[i]? = some (M.map fun r=>r.getD i (.z 0)):=by unfold trF; simp [h]
theorem zfY {n j:Nat} {M:List (List Nb)} (h:OkM k n M) (hj:j < n):(M.map fun r=>r.getD j (.z 0)).length = M.length∧OkR k (M.map fun r=>r.getD j (.z 0)):=by
 refine ⟨List.length_map _,fun x hx=>?_⟩
 obtain ⟨row,hrow,rfl⟩:=List.mem_map.mp hx
 obtain ⟨h1,h2⟩:=h row hrow
 have hj':j < row.length:=by omega
 rw [List.getD_eq_getElem?_getD,List.getElem?_eq_getElem hj']
 exact h2 _ (List.getElem_mem hj')
theorem zhx {n:Nat} {M:List (List Nb)} (h:OkM k n M):OkM k M.length (trF n M):=fun r hr=>by
 unfold trF at hr
 obtain ⟨j,hj,rfl⟩:=List.mem_map.mp hr
 rw [List.mem_range] at hj
 exact zfY h hj
theorem zhm (hk:KindOk k) {b c:Nat} {r x:List Nb} {N:List (List Nb)} (or:OkR k r) (lr:r.length = b) (oN:OkM k c N) (lN:N.length = b) (ox:OkR k x) (lx:x.length = c) :
  ndot k r (imgR k N x) = ndot k ((trF c N).map fun col=>ndot k r col) x:=by
 obtain ⟨F,_,_,⟨φ⟩⟩:=yl hk
 obtain ⟨li,oi⟩:=qO hk oN ox
 have oT:=zhx oN
 have oL:OkR k ((trF c N).map fun col=>ndot k r col):=fun y hy=>by
  obtain ⟨col,hcol,rfl⟩:=List.mem_map.mp hy
  exact yq hk or (oT col hcol).2
 have lL:((trF c N).map fun col=>ndot k r col).length = c:=by rw [List.length_map,zg7]
 refine φ.inj (yq hk or oi) (yq hk oL ox) ?_
 rw [xu φ hk or oi (by rw [lr,li,lN]),xu φ hk oL ox (by rw [lL,lx]),lr,lL]
 have e1:dot b (nv φ r) (nv φ (imgR k N x)) = dot b (nv φ r) (fun i=>dot c (nv φ (N.getD i [])) (nv φ x)):=yQ fun i hi=>by
  have hi':i < N.length:=by omega
  have g:N[i]? = some N[i]:=List.getElem?_eq_getElem hi'
  have ge:N.getD i [] = N[i]:=by rw [List.getD_eq_getElem?_getD,g]; rfl
  have on:=oN N[i] (List.getElem_mem hi')
  rw [yp φ (xs:=imgR k N x) (x:=ndot k N[i] x) (by unfold imgR; rw [List.getElem?_map,g]; rfl),ge,xu φ hk on.2 ox (by rw [on.1,lx]),on.1]
 rw [e1,Qj c (nv φ x) (fun i=>nv φ (N.getD i [])) (nv φ r) b]
 refine yQ fun j hj=>?_
 have g:((trF c N).map fun col=>ndot k r col)[j]? = some (ndot k r (N.map fun r=>r.getD j (.z 0))):=by rw [List.getElem?_map,zhd hj]; rfl
 have oc:=zfY oN hj
 rw [yp φ g,xu φ hk or oc.2 (by rw [lr,oc.1,lN]),lr]
 have e2:dot b (nv φ r) (nv φ (N.map fun r=>r.getD j (.z 0))) = dot b (nv φ r) (fun i=>nv φ (N.getD i []) j):=yQ fun i hi=>by
  have hi':i < N.length:=by omega
  have g:N[i]? = some N[i]:=List.getElem?_eq_getElem hi'
  have ge:N.getD i [] = N[i]:=by rw [List.getD_eq_getElem?_getD,g]; rfl
  rw [zfp φ oN hj g,ge]
 rw [e2]
theorem zaY (hk:KindOk k) {b c:Nat} {M N:List (List Nb)} {x:List Nb} (oM:OkM k b M) (oN:OkM k c N) (lN:N.length = b) (ox:OkR k x) (lx:x.length = c):imgR k M (imgR k N x) = imgR k (prodR k c M N) x:=by
 unfold imgR prodR
 rw [List.map_map]
 exact List.map_congr_left fun r hr=>zhm hk (oM r hr).2 (oM r hr).1 oN lN ox lx
end
end La
namespace La
open Lean.Grind Nm
section
variable {k:Int} {F:Type} [Field F] {φ:Kf k F} {n:Nat}
theorem Rm.app {A B:List (List Nb)} {v:Nat→F}:Rm φ (A ++ B) v↔∃ a b,Rm φ A a∧Rm φ B b∧∀ j,v j = a j + b j:=by
 constructor
 ·intro hv
  refine hv.all (P:=fun v=>∃ a b,Rm φ A a∧Rm φ B b∧∀ j,v j = a j + b j) ⟨fun _=>0,fun _=>0,.zero,.zero,fun j=>by grind⟩ fun c r v ⟨x,hx,e⟩ ⟨a,b,ha,hb,ev⟩=>?_
  rcases List.mem_append.mp hx with q | q
  ·exact ⟨fun j=>c * r j + a j,b,.step c ⟨x,q,e⟩ ha,hb,fun j=>by show c * r j + v j = c * r j + a j + b j; rw [ev j]; grind⟩
  ·exact ⟨a,fun j=>c * r j + b j,ha,.step c ⟨x,q,e⟩ hb,fun j=>by show c * r j + v j = a j + (c * r j + b j); rw [ev j]; grind⟩
 ·rintro ⟨a,b,ha,hb,ev⟩
  have h1:Rm φ (A ++ B) a:=ha.mono fun r ⟨x,hx,e⟩=>⟨x,List.mem_append_left _ hx,e⟩
  have h2:Rm φ (A ++ B) b:=hb.mono fun r ⟨x,hx,e⟩=>⟨x,List.mem_append_right _ hx,e⟩
  exact (h1.add h2).cast fun j=>(ev j).symm
noncomputable def limg (φ:Kf k F) (n:Nat) (A:List (List Nb)) (v:Nat→F):Nat→F:=fun i=>dot n (nv φ (A.getD i [])) v
theorem Qo (A:List (List Nb)) (c:F) (u v:Nat→F) (i:Nat):limg φ n A (fun j=>c * u j + v j) i = c * limg φ n A u i + limg φ n A v i:=by
 unfold limg
 rw [QD n _ (fun j=>c * u j) v,Je]
theorem jm (A:List (List Nb)) (i:Nat):limg φ n A (fun _=>0) i = 0:=dot_zero n _ _ fun j _=>by grind
theorem zga (j:Nat):nv φ [] j = 0:=qp φ (Nat.zero_le _)
theorem zdw (hk:KindOk k) {A:List (List Nb)} {x:List Nb} (oA:OkM k n A) (ox:OkR k x) (lx:x.length = n) (i:Nat):nv φ (imgR k A x) i = limg φ n A (nv φ x) i:=by
 unfold limg
 rcases Nat.lt_or_ge i A.length with h | h
 ·have g:A[i]? = some A[i]:=List.getElem?_eq_getElem h
  have ge:A.getD i [] = A[i]:=by rw [List.getD_eq_getElem?_getD,g]; rfl
  have oa:=oA A[i] (List.getElem_mem h)
  rw [yp φ (xs:=imgR k A x) (x:=ndot k A[i] x) (by unfold imgR; rw [List.getElem?_map,g]; rfl),xu φ hk oa.2 ox (by rw [oa.1,lx]),oa.1,ge]
 ·rw [qp φ (by unfold imgR; rw [List.length_map]; exact h)]
  have ge:A.getD i [] = []:=by rw [List.getD_eq_getElem?_getD,List.getElem?_eq_none h]; rfl
  rw [ge,dot_zero n _ _ fun j _=>by rw [zga]; grind]
theorem Rm.img (hk:KindOk k) {A R:List (List Nb)} (oA:OkM k n A) (oR:OkM k n R) {w:Nat→F}:Rm φ (R.map (imgR k A)) w↔∃ v,Rm φ R v∧∀ i,w i = limg φ n A v i:=by
 constructor
 ·intro h
  refine h.all (P:=fun w=>∃ v,Rm φ R v∧∀ i,w i = limg φ n A v i) ⟨fun _=>0,.zero,fun i=>(jm A i).symm⟩ fun c r w ⟨x,hx,e⟩ ⟨v,hv,ev⟩=>?_
  obtain ⟨y,hy,rfl⟩:=List.mem_map.mp hx
  have oy:=oR y hy
  refine ⟨fun j=>c * nv φ y j + v j,.step c ⟨y,hy,rfl⟩ hv,fun i=>?_⟩
  rw [Qo,← ev i,← zdw hk oA oy.2 oy.1,e]
 ·rintro ⟨v,hv,ev⟩
  have:Rm φ (R.map (imgR k A)) (limg φ n A v):=by
   refine hv.all (P:=fun v=>Rm φ (R.map (imgR k A)) (limg φ n A v)) (Span.cast .zero fun i=>(jm A i).symm) fun c r v ⟨x,hx,e⟩ hw=>?_
   have ox:=oR x hx
   refine Span.cast (.step c (r:=nv φ (imgR k A x)) ⟨_,List.mem_map.mpr ⟨x,hx,rfl⟩,rfl⟩ hw) fun i=>?_
   rw [Qo,e,zdw hk oA ox.2 ox.1]
  exact this.cast fun i=>(ev i).symm
noncomputable def kry (k:Int) (A B:List (List Nb)):Nat→List (List Nb)
 | 0=>B
 | t + 1=>B ++ (kry k A B t).map (imgR k A)
theorem YN (hk:KindOk k) {A B:List (List Nb)} (oA:OkM k n A) (lA:A.length = n) (oB:OkM k n B):∀ t,OkM k n (kry k A B t)
 | 0=>oB
 | t + 1=>fun r hr=>by
  rcases List.mem_append.mp hr with h | h
  ·exact oB r h
  ·obtain ⟨x,hx,rfl⟩:=List.mem_map.mp h
   have:=qO hk oA (YN hk oA lA oB t x hx).2
   exact ⟨by rw [this.1,lA],this.2⟩
theorem JQ (hk:KindOk k) {A B:List (List Nb)} (oA:OkM k n A) (lA:A.length = n) (oB:OkM k n B):∀ (t:Nat) (v:Nat→F),Rm φ (kry k A B t) v→Rm φ (kry k A B (t + 1)) v
 | 0,v,h=>h.mono fun r ⟨x,hx,e⟩=>⟨x,List.mem_append_left _ hx,e⟩
 | t + 1,v,h=>by
  have h':Rm φ (B ++ (kry k A B t).map (imgR k A)) v:=h
  obtain ⟨a,b,ha,hb,ev⟩:=Rm.app.mp h'
  obtain ⟨u,hu,eu⟩:=(Rm.img hk oA (YN hk oA lA oB t)).mp hb
  exact Rm.app.mpr ⟨a,b,ha,(Rm.img hk oA (YN hk oA lA oB (t + 1))).mpr ⟨u,JQ hk oA lA oB t u hu,eu⟩,ev⟩
theorem zdj (hk:KindOk k) {A B:List (List Nb)} (oA:OkM k n A) (lA:A.length = n) (oB:OkM k n B) (t:Nat):∀ (d:Nat) (v:Nat→F),Rm φ (kry k A B t) v→Rm φ (kry k A B (t + d)) v
 | 0,v,h=>h
 | d + 1,v,h=>JQ hk oA lA oB (t + d) v (zdj hk oA lA oB t d v h)
theorem JE (hk:KindOk k) {A B:List (List Nb)} (oA:OkM k n A) (lA:A.length = n) (oB:OkM k n B) {t:Nat} (s:∀ v,Rm φ (kry k A B (t + 1)) v→Rm φ (kry k A B t) v):∀ (d:Nat) (v:Nat→F),Rm φ (kry k A B (t + d)) v→Rm φ (kry k A B t) v
 | 0,v,h=>h
 | d + 1,v,h=>by
  refine s v ?_
  have h':Rm φ (B ++ (kry k A B (t + d)).map (imgR k A)) v:=h
  obtain ⟨a,b,ha,hb,ev⟩:=Rm.app.mp h'
  obtain ⟨u,hu,eu⟩:=(Rm.img hk oA (YN hk oA lA oB (t + d))).mp hb
  exact Rm.app.mpr ⟨a,b,ha,(Rm.img hk oA (YN hk oA lA oB t)).mpr ⟨u,JE hk oA lA oB s d u hu,eu⟩,ev⟩
theorem zfw (hk:KindOk k) {A B:List (List Nb)} (oA:OkM k n A) (lA:A.length = n) (oB:OkM k n B) {t:Nat} (s:∀ v,Rm φ (kry k A B (t + 1)) v→Rm φ (kry k A B t) v) {m:Nat} (hm:t≤m) (v:Nat→F):Rm φ (kry k A B m) v↔Rm φ (kry k A B t) v:=by
 obtain ⟨d,rfl⟩:=Nat.le.dest hm
 exact ⟨JE hk oA lA oB s d v,zdj hk oA lA oB t d v⟩
theorem IsR.sub_len {U W:List (List Nb)} {lu lw:List Nat} (hU:IsR φ n U lu) (hW:IsR φ n W lw) (sub:∀ v,Rm φ U v→Rm φ W v):U.length≤W.length∧(W.length≤U.length→∀ v,Rm φ W v→Rm φ U v):=by
 have inc:=hU.inc
 have inc':=hW.inc
 have sb:∀ p∈lu,p∈lw:=fun p hp=>by
  obtain ⟨v,hv,z,ne⟩:=(hU.lead_iff p).mp hp
  exact (hW.lead_iff p).mpr ⟨v,sub v hv,z,ne⟩
 have ef:lu = lw.filter fun p=>decide (p∈lu):=Xn inc (inc'.filter _) (fun p hp=>List.mem_filter.mpr ⟨sb p hp,decide_eq_true hp⟩) fun p hp=>of_decide_eq_true (List.mem_filter.mp hp).2
 have le:lu.length≤lw.length:=by rw [ef]; exact List.length_filter_le _ _
 refine ⟨by rw [← hU.len,← hW.len]; exact le,fun ge v hv=>?_⟩
 have e:(lw.filter fun p=>decide (p∈lu)).length = lw.length:=by rw [← ef]; rw [← hU.len,← hW.len] at ge; omega
 have sb':∀ p∈lw,p∈lu:=fun p hp=>of_decide_eq_true (List.length_filter_eq_length_iff.mp e p hp)
 obtain ⟨u,hu,eu⟩:=hU.take_off v
 have hd:Rm φ W (fun j=>v j + (-1) * u j):=hv.add ((sub u hu).smul (-1))
 have z:=hW.zero hd fun l hl=>by rw [eu l (sb' l hl)]; grind
 exact hu.cast fun j=>by have:=z j; grind
end
end La
namespace La
open Lean.Grind Nm
section
variable {k:Int}
theorem zcC (hk:KindOk k) {x y z:Nb} (ox:x.ok k) (oy:y.ok k) (oz:z.ok k):nadd k (nadd k x y) z = nadd k x (nadd k y z):=by
 obtain ⟨F,_,_,⟨φ⟩⟩:=yl hk
 refine φ.inj (yJ hk (yJ hk ox oy) oz) (yJ hk ox (yJ hk oy oz)) ?_
 rw [φ.add (yJ hk ox oy) oz,φ.add ox oy,φ.add ox (yJ hk oy oz),φ.add oy oz]
 grind
theorem zdu (hk:KindOk k) {x y:Nb} (ox:x.ok k) (oy:y.ok k):nadd k x y = nadd k y x:=by
 obtain ⟨F,_,_,⟨φ⟩⟩:=yl hk
 refine φ.inj (yJ hk ox oy) (yJ hk oy ox) ?_
 rw [φ.add ox oy,φ.add oy ox]
 grind
theorem zaf (hk:KindOk k) {x:Nb} (ox:x.ok k):nadd k x (nnum k 0) = x:=by
 obtain ⟨F,_,_,⟨φ⟩⟩:=yl hk
 refine φ.inj (yJ hk ox (zI hk 0)) ox ?_
 rw [φ.add ox (zI hk 0),φ.num0]
 grind
theorem zdC (hk:KindOk k) {x:Nb} (ox:x.ok k):nadd k (nnum k 0) x = x:=by rw [zdu hk (zI hk 0) ox,zaf hk ox]
theorem JK (hk:KindOk k):∀ (l:List (Nb×Nb)) (s:Nb),s.ok k→(∀ p∈l,p.1.ok k∧p.2.ok k)→l.foldl (fun s p=>nadd k s (nmul k p.1 p.2)) s = nadd k s (ndotF k l)
 | [],s,os,_=>(zaf hk os).symm
 | p :: l,s,os,h=>by
  have op:=h p List.mem_cons_self
  have om:=ym hk op.1 op.2
  have hl:∀ q∈l,q.1.ok k∧q.2.ok k:=fun q hq=>h q (List.mem_cons_of_mem _ hq)
  have e:ndotF k (p :: l) = nadd k (nmul k p.1 p.2) (ndotF k l):=by
   show l.foldl (fun s p=>nadd k s (nmul k p.1 p.2)) (nadd k (nnum k 0) (nmul k p.1 p.2)) = _
   rw [zdC hk om]
   exact JK hk l _ om hl
  rw [List.foldl_cons,JK hk l _ (yJ hk os om) hl,e,zcC hk os om (jC hk l hl)]
theorem zbO (hk:KindOk k) {a b x y:List Nb} (oa:OkR k a) (ob:OkR k b) (ox:OkR k x) (oy:OkR k y) (h:a.length = x.length):ndot k (a ++ b) (x ++ y) = nadd k (ndot k a x) (ndot k b y):=by
 have e:(a ++ b).zip (x ++ y) = a.zip x ++ b.zip y:=List.zip_append h
 show ndotF k ((a ++ b).zip (x ++ y)) = _
 rw [e]
 show (a.zip x ++ b.zip y).foldl _ _ = _
 rw [List.foldl_append]
 exact JK hk (b.zip y) (ndotF k (a.zip x)) (jC hk _ (zbj oa ox)) (zbj ob oy)
theorem zf7 (hk:KindOk k) (n:Nat):OkR k (List.replicate n (nnum k 0)):=fun x hx=>by rw [List.eq_of_mem_replicate hx]; exact zI hk 0
theorem JT (hk:KindOk k) {n:Nat} {x:List Nb} (ox:OkR k x) (h:x.length = n):ndot k (List.replicate n (nnum k 0)) x = nnum k 0:=by
 obtain ⟨F,_,_,⟨φ⟩⟩:=yl hk
 refine φ.inj (yq hk (zf7 hk n) ox) (zI hk 0) ?_
 rw [xu φ hk (zf7 hk n) ox (by simp [h]),φ.num0]
 refine dot_zero _ _ _ fun j hj=>?_
 rw [List.length_replicate] at hj
 rw [yp φ (x:=nnum k 0) (by rw [List.getElem?_replicate,if_pos hj]),φ.num0]
 grind
end
end La
namespace La
open Lean.Grind Nm
section
variable {n:Nat} {A B:List (List Int)}
end
end La
namespace L2
open PySem PySem.Spec PyProof.Rows Nm
noncomputable def TopOk (X:Cx):Prop:=∃ env l,X.stack = env :: l∧env.scope.isGenerator = false∧env.scope.isCoroutine = false∧env.builtins = builtinsNs∧env.globals = mainGlobals
theorem zV {X:Cx} {k:Nat} (hr:Room k X.A) (hk:40≤k) (hP:X.prog.given.tree = none) (hS:X.base.NoSeer) (hT:TopOk X):OpR X (binaryOp .FloorDiv) (rI (fun _ j=>j≠0) fun i j=>.int (i.fdiv j)):=by
 intro pins s σ H x y v u Q I rx ry h
 obtain ⟨i,j,rfl,rfl,hc,q⟩:=h
 obtain ⟨t,rfl⟩:=rx
 obtain ⟨t',rfl⟩:=ry
 obtain ⟨env,l,e,h1,h2,h3,h4⟩:=hT
 have hd:X.A.depth + Builtin.pylongFrames < recursionLimit:=by
  have:=hr.dp
  have:Builtin.pylongFrames = 100:=rfl
  omega
 exact floordiv_int hc ⟨.int (i.fdiv j),H,I.tok _,⟨_,rfl⟩,q⟩ (.inr (PylongRoom.of I.nolimit hd (SeerAt.of (hS.keeps I.bk) hP (I.ok.frames.trans (congrArg some e)) h1 h2 h3 h4)))
noncomputable def IRow (H:Hp) (ws:List Int) (a:Addr):Prop:=H a = some (.lst (ws.map V.int))
theorem IRow.mono {H H':Hp} {ws:List Int} {a:Addr} (h:IRow H ws a) (g:Same H H'):IRow H' ws a:=g _ _ h
structure NewT (H H':Hp) (M:List (List Nb)) (top:Addr) (ras:List Addr):Prop where
 tab:TabAt H' M top ras
 ft:H top = none
 fr:∀ r∈ras,H r = none
 nd:ras.Nodup
 nt:top∉ras
structure NewR (H H':Hp) (xs:List Nb) (a:Addr):Prop where
 row:RowAt H' xs a
 fa:H a = none
theorem Same.none {H H':Hp} (g:Same H H') {p:Addr} (h:H' p = none):H p = none:=by
 cases e:H p with
 | none=>rfl
 | some u=>rw [g _ _ e] at h; cases h
theorem xB {H H':Hp} {p:Addr} {o:HO} (g:Same H H') (h:H p = none):Same H (upd H' p o):=fun b u q=>by
 rw [zJ (zY q h)]; exact g _ _ q
theorem RowAt.len {H:Hp} {xs:List Nb} {a:Addr} (h:RowAt H xs a):∃ vs,H a = some (.lst vs)∧Paired (RN H) xs vs∧vs.length = xs.length :=
 let ⟨vs,h1,h2⟩:=h
 ⟨vs,h1,h2,(zj h2).symm⟩
theorem Yl {α β:Type} {R:α→β→Prop}:∀ {xs:List α} {ys:List β},xs.length = ys.length→(∀ (i:Nat) (a:α) (b:β),xs[i]? = some a→ys[i]? = some b→R a b)→Paired R xs ys
 | [],[],_,_=>.nil
 | [],_ :: _,h,_=>by simp at h
 | _ :: _,[],h,_=>by simp at h
 | a :: xs,b :: ys,h,f=>.cons (f 0 a b rfl rfl) (Yl (by simpa using h) fun i x y h1 h2=>f (i + 1) x y (by simpa using h1) (by simpa using h2))
theorem xY {α β:Type} {R:α→β→Prop} {xs:List α} {ys:List β} {i:Nat} {a:α} {b:β} (h:Paired R xs ys) (h1:xs[i]? = some a) (h2:ys[i]? = some b):R a b:=by
 obtain ⟨b',e,r⟩:=yM h h1
 rw [h2] at e; cases e; exact r
theorem sm_one:Sm 1 1:=by unfold Sm; decide
theorem jA (n:Nat):Sm n 0:=by unfold Sm; exact Nat.pow_pos (by decide)
theorem zbd {n:Nat} {w d:Int} (h:Sm n w) (hd:d ∣ w):Sm n (w.fdiv d):=by
 rw [Int.fdiv_eq_ediv_of_dvd hd]
 by_cases z:d = 0
 ·subst z; rw [Int.ediv_zero]; exact jA n
 ·have e:=Int.ediv_mul_cancel hd
  refine h.le ?_
  have h1:(w / d * d).natAbs = w.natAbs:=by rw [e]
  rw [Int.natAbs_mul] at h1
  rw [← h1]
  exact Nat.le_mul_of_pos_right _ (Int.natAbs_pos.mpr z)
theorem zdU {n:Nat} {w k:Int} (k0:0 < k) (k9:k < 2305843009213693952) (hn:61≤n):Sm n (w.fmod k) :=
 (Xp (Int.fmod_nonneg_of_pos w k0) (Int.fmod_lt_of_pos w k0) k9).mono hn
theorem zgi {n:Nat}:∀ {ws:List Int},(∀ w∈ws,Sm n w)→Sm (n + ws.length) ws.sum
 | [],_=>by rw [List.sum_nil]; exact jA _
 | w :: ws,h=>by
  rw [List.sum_cons]
  have h1:=zgi (ws:=ws) fun x hx=>h x (List.mem_cons_of_mem _ hx)
  have h2:=(h w List.mem_cons_self).mono (Nat.le_add_right n ws.length)
  exact (h2.add h1).mono (by rw [List.length_cons]; omega)
theorem jx {n:Nat} {k w:Int} (hk:KindOk k) (h:Sm n w) (hn:61≤n):nsm n (nnum k w):=by
 unfold nnum
 split
 ·exact ⟨h,Sm.mono (m:=1) sm_one (by omega)⟩
 ·rename_i k0
  exact zdU (by have:=hk.lt; omega) hk.lt.2 hn
noncomputable def gLst (K:PySem.W.Frag) (n:Nat) (t:TGs):TG:=fun v σ H Q=>∃ a xs,v = .ref a∧SqL K H a xs∧xs.length = n∧t xs σ H Q
theorem zhM {X:Cx} {pos:Pos} {es:List Expr} {k:Nat} {t:TGs} {n:Nat} (hc:X.calm = true) (h:PGs X es t)
  (hn:(assignEach es X.env).length = n:=by rfl) (hst:(assignEach es X.env).findIdx? (·.1) = none:=by rfl):PG X (.Tuple es k pos) (gLst X.K n t):=by
 intro pins s σ H v u Q I r hw
 obtain ⟨a,xs,e1,hq,hl,hw⟩:=hw
 subst e1
 cases r
 obtain ⟨its,rv,pl,hz⟩:=I.list hq
 have e:(assignEach es X.env).length = its.toArray.size:=by simp [hn,← hl,rv.length]
 rw [assign_Tuple]
 refine wpAny_bind (wpAny_standAt ?_)
 unfold unpack
 rw [e,hst]
 refine wpAny_bind (wpAny_holding (PySem.W.kun_itemsOf (I.ok.hd hc) pl.isList fun h' hx=>?_))
 have I1:Inv X pins σ H { s with heap:=h' }:=I.kept (t':=s.toks) fun b o e=>hx b o (Nat.ne_of_lt (Heap.lt_size e)) e
 exact h pins _ σ H xs _ Q I1 (by simpa using rv) hw
theorem zfk {b d:Int} (hb:0 < b) (hd:0 < d):0 < b.fdiv ((Int.gcd b d:Nat):Int) * d∧b ∣ b.fdiv ((Int.gcd b d:Nat):Int) * d∧d ∣ b.fdiv ((Int.gcd b d:Nat):Int) * d∧((Int.gcd b d:Nat):Int)≠0:=by
 have g0:0 < ((Int.gcd b d:Nat):Int):=by have:=Int.gcd_pos_of_ne_zero_left d (show b≠0 by omega); omega
 have db:((Int.gcd b d:Nat):Int) ∣ b:=Int.gcd_dvd_left b d
 have dd:((Int.gcd b d:Nat):Int) ∣ d:=Int.gcd_dvd_right b d
 have e1:=La.jL db (by omega)
 have e2:=La.jL dd (by omega)
 have p1:0 < b.fdiv ((Int.gcd b d:Nat):Int):=by
  rcases Int.lt_trichotomy 0 (b.fdiv ((Int.gcd b d:Nat):Int)) with h | h | h
  ·exact h
  ·rw [← h] at e1; omega
  ·have:=Int.mul_neg_of_neg_of_pos h g0; omega
 refine ⟨Int.mul_pos p1 hd,⟨d.fdiv ((Int.gcd b d:Nat):Int),?_⟩,Int.dvd_mul_left _ _,by omega⟩
 generalize b.fdiv ((Int.gcd b d:Nat):Int) = x at *
 generalize d.fdiv ((Int.gcd b d:Nat):Int) = y at *
 generalize ((Int.gcd b d:Nat):Int) = g at *
 rw [← e1,← e2]
 grind
theorem zam {k:Int} {H:Hp} (k0:k≠0):∀ {xs:List Nb} {vs:List V},La.OkR k xs→Paired (RN H) xs vs→∃ is:List Int,xs = is.map Nb.z∧vs = is.map V.int
 | _,_,_,.nil=>⟨[],rfl,rfl⟩
 | x :: xs,v :: vs,h,.cons r t=>by
  obtain ⟨is,e1,e2⟩:=zam k0 (fun y hy=>h y (List.mem_cons_of_mem _ hy)) t
  have hx:=h x List.mem_cons_self
  cases x with
  | q a=>exact absurd hx k0
  | z i=>exact ⟨i :: is,by rw [e1]; rfl,by rw [e2,r.z]; rfl⟩
theorem zeb {k:Int} (k0:k≠0) (is:List Int):La.Scl k (is.map Nb.z) is 1 :=
 ⟨by rw [List.map_map]; exact (List.map_id'' (fun _=>rfl) is).symm,by decide,fun _=>rfl,fun x hx=>by
  obtain ⟨i,_,rfl⟩:=List.mem_map.mp hx
  trivial⟩
theorem RN.upd {H:Hp} {x:Nb} {v:V} {t:Addr} {zs zs':List V} (h:RN H x v) (ht:H t = some (.lst zs)):RN (upd H t (.lst zs')) x v:=by
 cases x with
 | q r =>
  obtain ⟨a,rfl,ha⟩:=h.q
  exact RN.of_q (by rw [zJ (fun e=>by rw [e,ht] at ha; cases ha)]; exact ha)
 | z i=>rw [h.z]; exact RN.of_z
theorem RowAt.upd {H:Hp} {xs:List Nb} {a t:Addr} {zs zs':List V} (h:RowAt H xs a) (ne:a≠t) (ht:H t = some (.lst zs)):RowAt (upd H t (.lst zs')) xs a :=
 let ⟨vs,h1,h2⟩:=h
 ⟨vs,by rw [zJ ne]; exact h1,xI (fun _ _ r=>r.upd ht) h2⟩
theorem RowAt.some {H:Hp} {xs:List Nb} {a:Addr} (h:RowAt H xs a):∃ o,H a = some o:=let ⟨vs,h1,_⟩:=h; ⟨_,h1⟩
structure Grow (H H':Hp) (M:List (List Nb)) (ras:List Addr):Prop where
 same:Same H H'
 rows:Paired (RowAt H') M ras
 fr:∀ r∈ras,H r = none
 nd:ras.Nodup
theorem Grow.nil (H:Hp) {H':Hp} (g:Same H H'):Grow H H' [] []:=⟨g,.nil,fun _ h=>(nomatch h),.nil⟩
section
variable {H H' H2:Hp} {M:List (List Nb)} {ras:List Addr}
theorem Grow.mono (G:Grow H H' M ras) (g:Same H' H2):Grow H H2 M ras:=⟨G.same.trans g,xI (fun _ _ r=>r.mono g) G.rows,G.fr,G.nd⟩
theorem Grow.not_mem (G:Grow H H' M ras) {p:Addr} (hp:H' p = none):p∉ras:=fun hm=>by
 obtain ⟨xs,_,h⟩:=zae G.rows hm
 obtain ⟨o,e⟩:=h.some
 rw [hp] at e; cases e
theorem Grow.snoc (G:Grow H H' M ras) {xs:List Nb} {vs:List V} {p:Addr} (hp:H' p = none) (hr:Paired (RN H') xs vs):Grow H (upd H' p (.lst vs)) (M ++ [xs]) (ras ++ [p]):=by
 have g:=ze hp (.lst vs)
 have G':=G.mono g
 refine ⟨G'.same,yb G'.rows ⟨vs,zf,yO g hr⟩,fun r hr'=>?_,?_⟩
 ·rcases List.mem_append.mp hr' with h | h
  ·exact G.fr r h
  ·rw [List.mem_singleton.mp h]; exact G.same.none hp
 ·rw [List.nodup_append]
  refine ⟨G.nd,by simp,fun a ha b hb=>?_⟩
  rw [List.mem_singleton.mp hb]
  exact fun e=>G.not_mem hp (by rw [← e]; exact ha)
theorem Grow.done (G:Grow H H' M ras) {top:Addr} (ht:H' top = none):NewT H (upd H' top (.lst (ras.map V.ref))) M top ras :=
 ⟨⟨zf,xI (fun _ _ r=>r.mono (ze ht _)) G.rows⟩,G.same.none ht,G.fr,G.nd,G.not_mem ht⟩
theorem Grow.push (G:Grow H H' M ras) {t p:Addr} {xs:List Nb} {vs zs zs':List V} (tn:H t = none) (ht:H' t = some (.lst zs)) (tr:t∉ras) (g:Same H' H2) (hp:H2 p = none) (hr:Paired (RN H2) xs vs) :
  Grow H (upd (upd H2 p (.lst vs)) t (.lst zs')) (M ++ [xs]) (ras ++ [p])∧t∉ras ++ [p]:=by
 have G1:=(G.mono g).snoc hp hr
 have ht2:H2 t = some (.lst zs):=g _ _ ht
 have tp:t≠p:=fun e=>by rw [e,hp] at ht2; cases ht2
 have ht3:upd H2 p (.lst vs) t = some (.lst zs):=by rw [zJ tp]; exact ht2
 have nm:t∉ras ++ [p]:=fun h=>by
  rcases List.mem_append.mp h with h | h
  ·exact tr h
  ·exact tp (List.mem_singleton.mp h)
 refine ⟨⟨xB G1.same tn,?_,G1.fr,G1.nd⟩,nm⟩
 refine Yl (zj G1.rows) fun i x a h1 h2=>(xY G1.rows h1 h2).upd (fun e=>nm ?_) ht3
 rw [← e]
 exact List.mem_of_getElem? h2
end
noncomputable def SclAt (H:Hp) (k:Int) (m:Nat) (xs:List Nb) (p:Addr):Prop:=∃ l ws b,H p = some (.tup [.ref l,.int b])∧IRow H ws l∧La.Scl k xs ws b∧Sm m b∧∀ w∈ws,Sm m w
theorem SclAt.mono {H H':Hp} {k:Int} {m:Nat} {xs:List Nb} {p:Addr} (h:SclAt H k m xs p) (g:Same H H'):SclAt H' k m xs p :=
 let ⟨l,ws,b,h1,h2,r⟩:=h
 ⟨l,ws,b,g _ _ h1,h2.mono g,r⟩
noncomputable def transp (n:Nat) (M:List (List Nb)):List (List Nb):=(List.range n).map fun j=>M.map fun r=>r.getD j (.z 0)
theorem zq (n:Nat) (M:List (List Nb)):(transp n M).length = n:=by unfold transp; simp
theorem yd {n i:Nat} {M:List (List Nb)} (h:i < n):(transp n M)[i]? = some (M.map fun r=>r.getD i (.z 0)):=by unfold transp; simp [h]
theorem yF {k:Int} {n:Nat} {M:List (List Nb)} (h:La.OkM k n M):La.OkM k M.length (transp n M):=fun r hr=>by
 unfold transp at hr
 obtain ⟨j,hj,rfl⟩:=List.mem_map.mp hr
 rw [List.mem_range] at hj
 refine ⟨List.length_map _,fun x hx=>?_⟩
 obtain ⟨row,hrow,rfl⟩:=List.mem_map.mp hx
 obtain ⟨h1,h2⟩:=h row hrow
 have hj':j < row.length:=by omega
 rw [List.getD_eq_getElem?_getD,List.getElem?_eq_getElem hj']
 exact h2 _ (List.getElem_mem hj')
noncomputable def prodM (k:Int) (c:Nat) (M N:List (List Nb)):List (List Nb):=M.map fun r=>(transp c N).map fun col=>La.ndot k r col
noncomputable def imgM (k:Int) (M:List (List Nb)) (xs:List Nb):List Nb:=M.map fun r=>La.ndot k r xs
theorem tyes {σ:St} {H:Hp} {A B:Hp→Prop} (h:A H):tTrue σ H fun b H3=>if b = true then A H3 else B H3:=by
 show if true = true then A H else B H
 exact iteT h
theorem gyes {i:Nat} {x:V} {σ:St} {H:Hp} {A B:St→Hp→Prop} (h:A (σ.set i (some x)) H):gName i x σ H fun σ2 H2=>tTrue σ2 H2 fun b H3=>if b = true then A σ2 H3 else B σ2 H3:=by
 show if true = true then A (σ.set i (some x)) H else B (σ.set i (some x)) H
 exact iteT h
theorem zc5 {K:PySem.W.Frag} {te:TE} {σb:St} {t:Addr} {ras:List Addr} {M:List (List Nb)} {H:Hp} {R:List V→Hp→Prop} (hT:TabAt H M t ras) (hz:M.length < sizeLine)
  (hte:∀ (a:Addr) (us:List V) (H':Hp) (Q:VK),H' a = some (.lst us)→(∀ l,H' l = none→Q (.ref l) (upd H' l (.lst us)))→te (σb.set 0 (some (.ref a))) H' Q)
  (hd:∀ (ras2:List Addr) (H':Hp),Grow H H' M ras2→R (ras2.map V.ref) H') :
  ∃ W:Nat→Nat→List V→Hp→Prop,(∃ m,W 0 m [] H)∧∀ i m ys H,W i m ys H →
   ((Itl K t).stop i H∧ys.length≤sizeLine∧R ys H) ∨
   ((Itl K t).go i H∧ys.length < sizeLine∧∀ x H',(Itl K t).yld i H x H'→gName 0 x σb H' fun σ2 H2=>tTrue σ2 H2 fun b H3=>if b = true then te σ2 H3 fun y H4=>∃ m',m' < m∧W (i + 1) m' (ys ++ [y]) H4 else ∃ m',m' < m∧W (i + 1) m' ys H3):=by
 have hl:=zj hT.2
 refine zT (xs:=ras.map V.ref) (fun i ys H'=>∃ ras2,ys = ras2.map V.ref∧Grow H H' (M.take i) ras2) ⟨[],rfl,Grow.nil H (Same.refl H)⟩ ?_ ?_ ?_
 ·rintro i ys H' hi ⟨ras2,rfl,G⟩
  refine ⟨SqL.of (G.same _ _ hT.1),?_⟩
  have:=zj G.rows
  rw [List.length_take] at this
  rw [List.length_map]; omega
 ·rintro i v ys H' hv hi ⟨ras2,rfl,G⟩
  obtain ⟨xs,a,hx,ha,rfl,hrow⟩:=(hT.mono G.same).row hv
  obtain ⟨us,hu,pu,lu⟩:=hrow.len
  refine gyes ?_
  refine hte a us H' _ hu fun l hl'=>?_
  refine nxt hi ⟨ras2 ++ [l],by rw [List.map_append]; rfl,?_⟩
  rw [zD hx]
  exact G.snoc hl' pu
 ·rintro ys H' ⟨ras2,rfl,G⟩
  rw [List.length_map,List.take_of_length_le (by omega)] at G
  exact hd ras2 H' G
theorem Qc {H:Hp} {d:PyData} {ds:List PyData} {v:V} {vs:List V} (h:Rp H d v) (r:Rps H ds vs):Rps H (d :: ds) (v :: vs):=by
 simp only [Rps]
 exact ⟨_,_,rfl,h,r⟩
theorem zgR {H:Hp}:Rps H [] []:=by simp only [Rps]
section
variable {X:Cx} {K:PySem.W.Frag}
theorem Qp (hK:X.K = K):IxR X (rIxL K):=hK ▸ zeq
theorem zc2 (hK:X.K = K):IxR X (rIxT K):=hK ▸ zfX
theorem zeP (hK:X.K = K):SlR X (rSlL K):=hK ▸ zdc
theorem Xc (hK:X.K = K):CallR X (.builtin "len") (fun xs H Q=>∃ p ys,xs = [.ref p]∧(SqL K H p ys∨SqT K H p ys)∧Q (.int ys.length) H):=hK ▸ QP
theorem zb6 (hK:X.K = K):CallR X (.type "list") (fun xs H Q=>∃ p ys,xs = [.ref p]∧(SqL K H p ys∨SqT K H p ys)∧∀ l,H l = none→Q (.ref l) (upd H l (.lst ys))):=hK ▸ zaA
theorem xK (hK:X.K = K):CallR X (.builtin "isinstance") (rIsi K):=hK ▸ zfL
theorem zeo (hc:X.calm = true) (hK:X.K = K):CallR X (.builtin "sum") (fun xs H Q=>∃ p ns,xs = [.ref p]∧SqL K H p ((ns:List Int).map V.int)∧Q (.int ns.sum) H):=hK ▸ zew hc
theorem zdE {pos:Pos} {es:List Expr} {k:Nat} {t:TGs} (n:Nat) (hK:X.K = K) (hc:X.calm = true) (h:PGs X es t)
  (hn:(assignEach es X.env).length = n:=by rfl) (hst:(assignEach es X.env).findIdx? (·.1) = none:=by rfl):PG X (.Tuple es k pos) (gTup K n t):=hK ▸ zhK hc h hn hst
theorem zgx {pos:Pos} {es:List Expr} {k:Nat} {t:TGs} (n:Nat) (hK:X.K = K) (hc:X.calm = true) (h:PGs X es t)
  (hn:(assignEach es X.env).length = n:=by rfl) (hst:(assignEach es X.env).findIdx? (·.1) = none:=by rfl):PG X (.Tuple es k pos) (gLst K n t):=hK ▸ zhM hc h hn hst
end
end L2
namespace L2
open PySem PySem.Spec PyProof.Rows Nm
noncomputable def IRs (H:Hp) (Ws:List (List Int)) (t:Addr) (ras:List Addr):Prop:=H t = some (.lst (ras.map V.ref))∧Paired (IRow H) Ws ras
theorem qH {H H':Hp} (g:Same H H') {Ws:List (List Int)} {ras:List Addr} (h:Paired (IRow H) Ws ras):Paired (IRow H') Ws ras:=xI (fun _ _ r=>r.mono g) h
theorem IRs.mono {H H':Hp} {Ws:List (List Int)} {t:Addr} {ras:List Addr} (h:IRs H Ws t ras) (g:Same H H'):IRs H' Ws t ras:=⟨g _ _ h.1,qH g h.2⟩
theorem IRs.row {H:Hp} {Ws:List (List Int)} {t:Addr} {ras:List Addr} {i:Nat} {v:V} (h:IRs H Ws t ras) (e:(ras.map V.ref)[i]? = some v):∃ ws a,Ws[i]? = some ws∧ras[i]? = some a∧v = .ref a∧IRow H ws a:=by
 rw [List.getElem?_map] at e
 obtain ⟨a,ha,rfl⟩:=Option.map_eq_some_iff.mp e
 obtain ⟨xs,hx,r⟩:=zW h.2 ha
 exact ⟨xs,a,hx,ha,rfl,r⟩
theorem IRow.ne {H:Hp} {ws:List Int} {a t:Addr} {rs:List Addr} (h:IRow H ws a) (hw:ws≠[]) (ht:H t = some (.lst (rs.map V.ref))):a≠t:=fun e=>by
 subst e
 unfold IRow at h
 rw [ht] at h
 cases ws with
 | nil=>exact hw rfl
 | cons w ws =>
  cases rs with
  | nil=>cases h
  | cons r rs=>cases h
theorem jp {H:Hp} {t:Addr} {rs:List Addr} {o:HO} (ht:H t = some (.lst (rs.map V.ref))) {Ws:List (List Int)} {ras:List Addr} (h:Paired (IRow H) Ws ras) (hw:∀ ws∈Ws,ws≠[]):Paired (IRow (upd H t o)) Ws ras :=
 Yl (zj h) fun i ws a h1 h2=>by
  have r:=xY h h1 h2
  show upd H t o a = _
  rw [zJ (r.ne (hw ws (List.mem_of_getElem? h1)) ht)]; exact r
theorem Xo {H:Hp} {ws:List Int} {a:Addr} {j:Nat} (h:IRow H ws a) (hj:j < ws.length):atI (ws.map V.int) (0 + (j:Int)) = some (.int (ws.getD j 0)):=by
 rw [Int.zero_add]
 refine zK ?_
 rw [List.getElem?_map,List.getD_eq_getElem?_getD,List.getElem?_eq_getElem hj]; rfl
theorem cut1 (xs:List V):cutV xs (some 1) none = xs.drop 1:=by
 unfold cutV
 cases xs with
 | nil=>rfl
 | cons x xs =>
  rw [show (1:Int) = ((1:Nat):Int) from rfl,HT.ZQ,HT.Yq]
  simp
noncomputable def SzS (b:Nat) (s:List (Nat×List Int)×List (List Int)):Prop:=(∀ p∈s.1,∀ w∈p.2,Sm b w)∧∀ r∈s.2,∀ w∈r,Sm b w
theorem Jl {k:Int} (hk:KindOk k) {b:Nat} (h7:61≤b) {ws:List Int} (h:∀ w∈ws,Sm b w):∀ w∈La.easedM k ws,Sm b w:=fun w hw=>by
 unfold La.easedM at hw
 split at hw
 ·rename_i k0
  obtain ⟨x,_,rfl⟩:=List.mem_map.mp hw
  exact zdU (by have:=hk.lt; omega) hk.lt.2 h7
 ·split at hw
  ·exact h w hw
  ·obtain ⟨x,hx,rfl⟩:=List.mem_map.mp hw
   exact zbd (h x hx) (La.zbo hx)
theorem qK {b:Nat} {ws:List Int} (h:∀ w∈ws,Sm b w) (c:Nat):Sm b (ws.getD c 0):=by
 rcases Nat.lt_or_ge c ws.length with g | g
 ·rw [List.getD_eq_getElem?_getD,List.getElem?_eq_getElem g]; exact h _ (List.getElem_mem g)
 ·rw [List.getD_eq_getElem?_getD,List.getElem?_eq_none g]; exact jA b
theorem zft {b:Nat} {row lead:List Int} (hl:row.length = lead.length) (h1:∀ w∈row,Sm b w) (h2:∀ w∈lead,Sm b w) (c:Nat):∀ w∈La.mixed row lead c,Sm (2 * b + 1) w:=fun w hw=>by
 obtain ⟨j,hj,e⟩:=List.getElem_of_mem hw
 have e2:=La.XR hl c j
 rw [List.getD_eq_getElem?_getD,List.getElem?_eq_getElem hj] at e2
 have e3:w = lead.getD c 0 * row.getD j 0 - row.getD c 0 * lead.getD j 0:=by rw [← e,← e2]; rfl
 rw [e3]
 exact (((qK h2 c).mul (qK h1 j)).sub ((qK h1 c).mul (qK h2 j))).mono (by omega)
theorem XQ {k:Int} (hk:KindOk k) {b:Nat} (h7:61≤b) {row lead:List Int} (hl:row.length = lead.length) (h1:∀ w∈row,Sm b w) (h2:∀ w∈lead,Sm b w) (c:Nat):∀ w∈La.clearedM k lead c row,Sm (2 * b + 1) w:=by
 unfold La.clearedM
 split
 ·exact fun w hw=>(h1 w hw).mono (by omega)
 ·exact Jl hk (by omega) (zft hl h1 h2 c)
theorem SzS.turn {k:Int} (hk:KindOk k) {n c b:Nat} (h7:61≤b) {s:List (Nat×List Int)×List (List Int)} (f:La.Fine k n s) (h:SzS b s):SzS (2 * b + 1) (La.swTurn k c s):=by
 unfold La.swTurn
 cases e:s.2.filter (fun r=>decide (r.getD c 0≠0)) with
 | nil=>exact ⟨fun p hp w hw=>(h.1 p hp w hw).mono (by omega),fun p hp w hw=>(h.2 p hp w hw).mono (by omega)⟩
 | cons l rest =>
  have sub:∀ r∈l :: rest,r∈s.2:=fun r hr=>by rw [← e] at hr; exact (List.mem_filter.mp hr).1
  have hl:=sub l List.mem_cons_self
  refine ⟨fun p hp=>?_,fun r hr=>?_⟩
  ·rcases List.mem_append.mp hp with hp | hp
   ·obtain ⟨q,hq,rfl⟩:=List.mem_map.mp hp
    exact XQ hk h7 (by rw [f.dl q hq,f.wl l hl]) (h.1 q hq) (h.2 l hl) c
   ·rw [List.mem_singleton.mp hp]
    exact fun w hw=>(h.2 l hl w hw).mono (by omega)
  ·rcases List.mem_append.mp hr with hr | hr
   ·exact fun w hw=>(h.2 r (List.mem_filter.mp hr).1 w hw).mono (by omega)
   ·obtain ⟨q,hq,rfl⟩:=List.mem_map.mp hr
    have hq2:=sub q (List.mem_cons_of_mem _ hq)
    exact XQ hk h7 (by rw [f.wl q hq2,f.wl l hl]) (h.2 q hq2) (h.2 l hl) c
theorem zhe {k:Int} (hk:KindOk k) {n b:Nat} (h7:61≤b) {rows:List (List Int)} (hl:∀ r∈rows,r.length = n) (h:∀ r∈rows,∀ w∈r,Sm b w):∀ c,SzS ((b + 1) * 2 ^ c - 1) (La.swTo k rows c)
 | 0=>⟨fun p hp=>(nomatch hp),fun r hr w hw=>by
   obtain ⟨x,hx,rfl⟩:=List.mem_map.mp hr
   exact (Jl hk h7 (h x hx) w hw).mono (by omega)⟩
 | c + 1=>by
  have ih:=zhe hk h7 hl h c
  have h1:2 ^ c ≥ 1:=Nat.one_le_two_pow
  have h2:(b + 1) * 1≤(b + 1) * 2 ^ c:=Nat.mul_le_mul_left _ h1
  have e:(b + 1) * 2 ^ (c + 1) - 1 = 2 * ((b + 1) * 2 ^ c - 1) + 1:=by
   rw [Nat.pow_succ]
   have:(b + 1) * (2 ^ c * 2) = (b + 1) * 2 ^ c * 2:=by rw [Nat.mul_assoc]
   omega
  rw [e]
  exact SzS.turn hk (by omega) (La.Fine.to hk.lt.1 hl c) ih
end L2
namespace L2
open PySem PySem.Spec PyProof.Rows Nm
theorem zay {α β:Type} {R:α→β→Prop} {xs:List α} {ys:List β} (h:Paired R xs ys) (i:Nat) {a:α} {b:β} (r:R a b):Paired R (xs.set i a) (ys.set i b):=by
 refine Yl (by rw [List.length_set,List.length_set]; exact zj h) fun j x y h1 h2=>?_
 by_cases e:i = j
 ·subst e
  have l1:i < xs.length:=by have:=(List.getElem?_eq_some_iff.mp h1).1; rw [List.length_set] at this; exact this
  have l2:i < ys.length:=by rw [← zj h]; exact l1
  rw [List.getElem?_set_self l1] at h1
  rw [List.getElem?_set_self l2] at h2
  cases h1; cases h2; exact r
 ·rw [List.getElem?_set_ne e] at h1 h2
  exact xY h h1 h2
theorem jW {n j:Nat} (h:j < n):ixN n (j:Int) = some j:=by
 unfold ixN
 rw [if_pos (by omega),if_pos (by omega)]; simp
theorem zhD {k:Int} (hk:KindOk k) {D B m:Nat} {x:Nb} (h:La.dB D B x) (ox:x.ok k) (hD0:D≠0) (hD:D < 2 ^ m) (hB:B < 2 ^ m) (m7:61≤m):nsm m x:=by
 cases x with
 | q r =>
  obtain ⟨h1,h2⟩:=La.dB.parts hD0 h
  refine ⟨Nat.lt_of_le_of_lt h2 hB,?_⟩
  show ((r.den:Nat):Int).natAbs < 2 ^ m
  rw [Int.natAbs_natCast]
  exact Nat.lt_of_le_of_lt h1 hD
 | z i =>
  have:=hk.lt
  exact (Xp ox.2.1 ox.2.2 this.2).mono m7
theorem zax {H:Hp} {t:Addr} {zs zs':List V} (ht:H t = some (.lst zs)) {xs:List Nb} {vs:List V} (h:Paired (RN H) xs vs):Paired (RN (upd H t (.lst zs'))) xs vs:=xI (fun _ _ r=>r.upd ht) h
theorem QM {t u:TS} {D:Ends} {σ:St} {H:Hp} (N:St→Hp→Prop) (hN:∀ σ H,N σ H→u D σ H) (h:(∀ σ H,N σ H→u D σ H)→t { D with nx:=u D } σ H):tSeq t u D σ H:=h hN
end L2
namespace L2
open PySem PySem.Spec PyProof.Rows Nm
theorem zdM (v:V):∀ n:Nat,(List.replicate n [v]).flatten = List.replicate n v
 | 0=>rfl
 | n + 1=>by rw [List.replicate_succ,List.flatten_cons,zdM v n,List.replicate_succ]; rfl
theorem QS {R:Nb→V→Prop} {x:Nb} {v:V} (r:R x v):∀ n:Nat,Paired R (List.replicate n x) (List.replicate n v)
 | 0=>.nil
 | n + 1=>by rw [List.replicate_succ,List.replicate_succ]; exact .cons r (QS r n)
theorem zgy {k:Int} {F:Type} [Lean.Grind.Field F] {φ:La.Kf k F} (hk:KindOk k) {n i l:Nat} {R:List (List Nb)} {ls:List Nat} {r:List Nb} (h:La.IsR φ n R ls) (hr:R[i]? = some r) (hl:ls[i]? = some l) :
  l < n∧(∀ j,j < l→r[j]? = some (nnum k 0))∧r[l]? = some (nnum k 1):=by
 have o:=h.ok r (List.mem_of_getElem? hr)
 have hp:=La.ZH (xs:=ls) (ys:=R.map (La.nv φ)) (i:=i) (a:=l) (b:=La.nv φ r) hl (by rw [List.getElem?_map,hr]; rfl)
 have ln:l < n:=h.rr.lt _ hp
 have val:∀ j,j < n→∀ y:Nb,y.ok k→La.nv φ r j = φ.to y→r[j]? = some y:=fun j hj y oy e=>by
  have hj':j < r.length:=by rw [o.1]; exact hj
  rw [La.yp φ (List.getElem?_eq_getElem hj')] at e
  rw [List.getElem?_eq_getElem hj',φ.inj (o.2 _ (List.getElem_mem hj')) oy e]
 refine ⟨ln,fun j hj=>val j (by omega) _ (La.zI hk 0) ?_,val l ln _ (La.zI hk 1) ?_⟩
 ·rw [φ.num0]; exact h.rr.bef _ hp j hj
 ·rw [φ.num1]; exact h.rr.one _ hp
theorem zen {k:Int} {F:Type} [Lean.Grind.Field F] {φ:La.Kf k F} {n:Nat} {R:List (List Nb)} {ls:List Nat} (h:La.IsR φ n R ls):ls.Nodup:=by
 have:=h.rr.inc
 rw [← List.pairwise_map (f:=Prod.fst) (R:=(· < ·)),List.map_fst_zip (by rw [List.length_map]; exact Nat.le_of_eq h.len)] at this
 exact this.imp fun h=>Nat.ne_of_lt h
theorem num01 {k:Int} (hk:KindOk k):nnum k 1≠nnum k 0:=fun e=>by
 obtain ⟨F,_,_,⟨φ⟩⟩:=La.yl hk
 have:=congrArg φ.to e
 rw [φ.num0,φ.num1] at this
 exact Lean.Grind.Field.zero_ne_one this.symm
structure ToldI (k:Int) (n:Nat) (R:List (List Nb)) (ls:List Nat) (i:Nat) (x:List Nb):Prop where
 len:x.length = n
 at_:∀ (t l:Nat) (r:List Nb) (s:Nb),t < i→ls[t]? = some l→R[t]? = some r→r[n]? = some s→x[l]? = some s
 off:∀ j,j < n→j∉ls.take i→x[j]? = some (nnum k 0)
theorem ToldI.start (k:Int) (n:Nat) (R:List (List Nb)) (ls:List Nat):ToldI k n R ls 0 (List.replicate n (nnum k 0)) :=
 ⟨List.length_replicate,fun t l r s h=>absurd h (Nat.not_lt_zero t),fun j hj _=>by rw [List.getElem?_replicate,if_pos hj]⟩
theorem ToldI.step {k:Int} {n i l:Nat} {R:List (List Nb)} {ls:List Nat} {x r:List Nb} {s:Nb} (T:ToldI k n R ls i x) (nd:ls.Nodup) (hl:ls[i]? = some l) (hr:R[i]? = some r) (hs:r[n]? = some s) (ln:l < n):ToldI k n R ls (i + 1) (x.set l s):=by
 refine ⟨by rw [List.length_set]; exact T.len,fun t l' r' s' ht hl' hr' hs'=>?_,fun j hj nm=>?_⟩
 ·by_cases e:t = i
  ·subst e
   rw [hl] at hl'; cases hl'
   rw [hr] at hr'; cases hr'
   rw [hs] at hs'; cases hs'
   rw [List.getElem?_set_self (by rw [T.len]; exact ln)]
  ·have ne:l'≠l:=fun z=>e ((List.getElem?_inj (List.getElem?_eq_some_iff.mp hl').1 nd).mp (by rw [hl',hl,z]))
   rw [List.getElem?_set_ne (Ne.symm ne)]
   exact T.at_ t l' r' s' (by omega) hl' hr' hs'
 ·rw [zD hl] at nm
  have n1:j∉ls.take i:=fun h=>nm (List.mem_append_left _ h)
  have n2:j≠l:=fun h=>nm (List.mem_append_right _ (by rw [h]; exact List.mem_singleton.mpr rfl))
  rw [List.getElem?_set_ne (Ne.symm n2)]
  exact T.off j hj n1
theorem ToldI.told {k:Int} {n:Nat} {R:List (List Nb)} {ls:List Nat} {x:List Nb} (T:ToldI k n R ls R.length x) (hl:ls.length = R.length):La.Told k n R ls x :=
 ⟨T.len,fun i l r s h1 h2 h3=>T.at_ i l r s (List.getElem?_eq_some_iff.mp h2).1 h1 h2 h3,fun j hj nm=>T.off j hj (by rw [List.take_of_length_le (by omega)]; exact nm)⟩
theorem zgU {H:Hp} {M:List (List Nb)} {top t:Addr} {ras:List Addr} {zs zs':List V} (h:TabAt H M top ras) (n1:top≠t) (n2:t∉ras) (ht:H t = some (.lst zs)):TabAt (upd H t (.lst zs')) M top ras :=
 ⟨by rw [zJ n1]; exact h.1,Yl (zj h.2) fun i x a h1 h2=>(xY h.2 h1 h2).upd (fun e=>n2 (by rw [← e]; exact List.mem_of_getElem? h2)) ht⟩
theorem zed {k:Int} (hk:KindOk k) {n:Nat} {M:List (List Nb)} {b x:List Nb} (oM:La.OkM k n M) (ob:La.OkR k b) (ox:La.OkR k x) (lb:b.length = M.length) (lx:x.length = n) (h:∀ (F:Type) [Lean.Grind.Field F] (φ:La.Kf k F),La.Sol φ n M b (La.nv φ x)):imgM k M x = b:=by
 obtain ⟨F,_,_,⟨φ⟩⟩:=La.yl hk
 refine List.ext_getElem (by unfold imgM; rw [List.length_map]; exact lb.symm) fun i h1 h2=>?_
 unfold imgM at h1 ⊢
 rw [List.length_map] at h1
 rw [List.getElem_map]
 have or:=oM _ (List.getElem_mem h1)
 refine φ.inj (La.yq hk or.2 ox) (ob _ (List.getElem_mem h2)) ?_
 rw [La.xu φ hk or.2 ox (by rw [or.1,lx]),or.1]
 exact h F φ i _ _ (List.getElem?_eq_getElem h1) (List.getElem?_eq_getElem h2)
end L2
namespace L2
open PySem PySem.Spec PyProof.Rows Nm
theorem Jv {k:Int} (hk:KindOk k) (k0:k≠0) {x:Nb} (h:x.ok k):nsm 61 x:=by
 cases x with
 | q r=>exact absurd (show k = 0 from h) k0
 | z i=>exact Xp h.2.1 h.2.2 hk.lt.2
structure ROk (k:Int) (n m:Nat) (xs:List Nb):Prop where
 len:xs.length = n
 ok:La.OkR k xs
 sz:∀ x∈xs,nsm m x
structure TOk (k:Int) (r c m:Nat) (M:List (List Nb)):Prop where
 len:M.length = r
 ok:La.OkM k c M
 sz:∀ r∈M,∀ x∈r,nsm m x
theorem TOk.up {k:Int} {r c m m':Nat} {M:List (List Nb)} (h:TOk k r c m M) (hm:m≤m'):TOk k r c m' M:=⟨h.len,h.ok,fun r hr x hx=>(h.sz r hr x hx).mono hm⟩
theorem TOk.row {k:Int} {r c m:Nat} {M:List (List Nb)} (h:TOk k r c m M) {x:List Nb} (hx:x∈M):ROk k c m x:=⟨(h.ok x hx).1,(h.ok x hx).2,h.sz x hx⟩
theorem XZ {k:Int} {r c m:Nat} {M:List (List Nb)} (hM:TOk k r c m M):TOk k c r m (transp c M):=by
 refine ⟨zq _ _,by have:=yF hM.ok; rw [hM.len] at this; exact this,fun q hq x hx=>?_⟩
 unfold transp at hq
 obtain ⟨j,hj,rfl⟩:=List.mem_map.mp hq
 rw [List.mem_range] at hj
 obtain ⟨row,hrow,rfl⟩:=List.mem_map.mp hx
 have hj':j < row.length:=by have:=(hM.ok row hrow).1; omega
 rw [List.getD_eq_getElem?_getD,List.getElem?_eq_getElem hj']
 exact hM.sz row hrow _ (List.getElem_mem hj')
structure MOk (k:Int) (n h s m:Nat) (A B C:List (List Nb)):Prop where
 a:TOk k n n m A
 b:TOk k n h m B
 c:TOk k s n m C
structure MachAt (H:Hp) (A B C:List (List Nb)) (p ta tb tc:Addr) (ra rb rc:List Addr):Prop where
 tup:H p = some (.tup [.ref ta,.ref tb,.ref tc])
 a:TabAt H A ta ra
 b:TabAt H B tb rb
 c:TabAt H C tc rc
theorem MachAt.mono {H H':Hp} {A B C:List (List Nb)} {p ta tb tc:Addr} {ra rb rc:List Addr} (h:MachAt H A B C p ta tb tc ra rb rc) (g:Same H H'):MachAt H' A B C p ta tb tc ra rb rc:=⟨g _ _ h.tup,h.a.mono g,h.b.mono g,h.c.mono g⟩
noncomputable def machD (A B C:List (List Nb)):PyData:=.tuple [tabD A,tabD B,tabD C]
theorem zh5 {H:Hp} {ds:List PyData} {vs:List V} {a:Addr} (h:H a = some (.tup vs)) (r:Rps H ds vs):Rp H (.tuple ds) (.ref a):=by
 simp only [Rp]
 exact ⟨a,_,rfl,h,r⟩
theorem MachAt.rp {H:Hp} {A B C:List (List Nb)} {p ta tb tc:Addr} {ra rb rc:List Addr} (h:MachAt H A B C p ta tb tc ra rb rc):Rp H (machD A B C) (.ref p):=zh5 h.tup (Qc h.a.rp (Qc h.b.rp (Qc h.c.rp zgR)))
theorem zc7 (A B C:List (List Nb)):(machD A B C).canLay0 = true:=by
 show ((tabD A).canLay0 && ((tabD B).canLay0 && ((tabD C).canLay0 && true))) = true
 rw [Qh,Qh,Qh]; rfl
theorem zaT (A B C:List (List Nb)):(machD A B C).depth≤4:=by
 show max (tabD A).depth (max (tabD B).depth (max (tabD C).depth 0)) + 1≤4
 have:=ZC A
 have:=ZC B
 have:=ZC C
 omega
theorem zb9 (A B C:List (List Nb)):PyData.eqv (machD A B C) (machD A B C) = true:=by
 show (PyData.eqv (tabD A) (tabD A) && (PyData.eqv (tabD B) (tabD B) && (PyData.eqv (tabD C) (tabD C) && true))) = true
 rw [Xu,Xu,Xu]; rfl
noncomputable def augM (A B:List (List Nb)):List (List Nb):=List.zipWith (· ++ ·) A B
theorem zeY {A B:List (List Nb)} {i:Nat} {a b:List Nb} (hA:A[i]? = some a) (hB:B[i]? = some b):(augM A B)[i]? = some (a ++ b):=by unfold augM; rw [List.getElem?_zipWith,hA,hB]
end L2
namespace L2
open PySem PySem.Spec PyProof.Rows Nm
theorem TabAt.upd {H:Hp} {M:List (List Nb)} {t p:Addr} {ras:List Addr} {zs zs':List V} (h:TabAt H M t ras) (ht:t≠p) (hr:p∉ras) (hp:H p = some (.lst zs)):TabAt (upd H p (.lst zs')) M t ras:=by
 refine ⟨by rw [zJ ht]; exact h.1,Yl (zj h.2) fun i x a h1 h2=>(xY h.2 h1 h2).upd (fun e=>hr ?_) hp⟩
 rw [← e]
 exact List.mem_of_getElem? h2
theorem TabAt.rsome {H:Hp} {M:List (List Nb)} {t:Addr} {ras:List Addr} (h:TabAt H M t ras) {r:Addr} (hr:r∈ras):∃ o,H r = some o:=by
 obtain ⟨xs,_,hx⟩:=zae h.2 hr
 exact hx.some
noncomputable def adr (rs:List (List Addr)) (i j:Nat):Option Addr:=(rs[i]?).bind (·[j]?)
theorem qP {rs:List (List Addr)} {ras:List Addr} {i j:Nat} (h:i < rs.length):adr (rs ++ [ras]) i j = adr rs i j:=by unfold adr; rw [List.getElem?_append_left h]
theorem jD {rs:List (List Addr)} {ras:List Addr} {j:Nat}:adr (rs ++ [ras]) rs.length j = ras[j]?:=by unfold adr; rw [List.getElem?_append_right (Nat.le_refl _),Nat.sub_self]; rfl
theorem Qm {rs:List (List Addr)} {i j:Nat} {a:Addr} (h:adr rs i j = some a):∃ ras,rs[i]? = some ras∧ras[j]? = some a:=by
 unfold adr at h
 exact Option.bind_eq_some_iff.mp h
structure GrowTs (H H':Hp) (Ms:List (List (List Nb))) (ts:List Addr) (rs:List (List Addr)):Prop where
 same:Same H H'
 lt:ts.length = Ms.length
 lr:rs.length = Ms.length
 tabs:∀ (i:Nat) M t ras,Ms[i]? = some M→ts[i]? = some t→rs[i]? = some ras→TabAt H' M t ras
 frt:∀ t∈ts,H t = none
 frr:∀ ras∈rs,∀ r∈ras,H r = none
 nd:ts.Nodup
 sep:∀ t∈ts,∀ ras∈rs,t∉ras
 inj:∀ i j i' j' a,adr rs i j = some a→adr rs i' j' = some a→i = i'∧j = j'
theorem GrowTs.nil {H H':Hp} (g:Same H H'):GrowTs H H' [] [] [] :=
 ⟨g,rfl,rfl,fun i M t ras h=>by simp at h,fun t h=>(nomatch h),fun r h=>(nomatch h),.nil,fun t h=>(nomatch h),fun i j i' j' a h=>by simp [adr] at h⟩
section
variable {H H' H2:Hp} {Ms:List (List (List Nb))} {ts:List Addr} {rs:List (List Addr)}
theorem GrowTs.mono (G:GrowTs H H' Ms ts rs) (g:Same H' H2):GrowTs H H2 Ms ts rs:=⟨G.same.trans g,G.lt,G.lr,fun i M t ras h1 h2 h3=>(G.tabs i M t ras h1 h2 h3).mono g,G.frt,G.frr,G.nd,G.sep,G.inj⟩
theorem GrowTs.get (G:GrowTs H H' Ms ts rs) {i:Nat} (hi:i < Ms.length):∃ M t ras,Ms[i]? = some M∧ts[i]? = some t∧rs[i]? = some ras∧TabAt H' M t ras :=
 ⟨_,_,_,List.getElem?_eq_getElem hi,List.getElem?_eq_getElem (by rw [G.lt]; exact hi),List.getElem?_eq_getElem (by rw [G.lr]; exact hi),G.tabs i _ _ _ (List.getElem?_eq_getElem hi) (List.getElem?_eq_getElem (by rw [G.lt]; exact hi)) (List.getElem?_eq_getElem (by rw [G.lr]; exact hi))⟩
theorem GrowTs.tsome (G:GrowTs H H' Ms ts rs) {t:Addr} (h:t∈ts):∃ o,H' t = some o:=by
 obtain ⟨i,hi,rfl⟩:=List.getElem_of_mem h
 obtain ⟨M,t',ras,h1,h2,h3,h4⟩:=G.get (i:=i) (by rw [← G.lt]; exact hi)
 rw [List.getElem?_eq_getElem hi] at h2
 cases h2
 exact ⟨_,h4.1⟩
theorem GrowTs.rsome (G:GrowTs H H' Ms ts rs) {ras:List Addr} {r:Addr} (h:ras∈rs) (hr:r∈ras):∃ o,H' r = some o:=by
 obtain ⟨i,hi,rfl⟩:=List.getElem_of_mem h
 obtain ⟨M,t',ras',h1,h2,h3,h4⟩:=G.get (i:=i) (by rw [← G.lr]; exact hi)
 rw [List.getElem?_eq_getElem hi] at h3
 cases h3
 exact h4.rsome hr
theorem GrowTs.push (G:GrowTs H H' Ms ts rs) {M:List (List Nb)} {t:Addr} {ras:List Addr} (g:Same H' H2) (N:NewT H' H2 M t ras):GrowTs H H2 (Ms ++ [M]) (ts ++ [t]) (rs ++ [ras]):=by
 have ot:∀ x∈ts,x≠t:=fun x hx e=>by
  obtain ⟨o,ho⟩:=G.tsome hx
  rw [e,N.ft] at ho; cases ho
 have olds:∀ x∈rs,∀ r∈x,r∉ras:=fun x hx r hr h=>by
  obtain ⟨o,ho⟩:=G.rsome hx hr
  rw [N.fr r h] at ho; cases ho
 refine ⟨G.same.trans g,by simp [G.lt],by simp [G.lr],fun i M' t' ras' h1 h2 h3=>?_,fun x hx=>?_,fun x hx r hr=>?_,?_,fun x hx y hy=>?_,fun i j i' j' a h1 h2=>?_⟩
 ·rcases Nat.lt_or_ge i Ms.length with h | h
  ·rw [List.getElem?_append_left h] at h1
   rw [List.getElem?_append_left (by rw [G.lt]; exact h)] at h2
   rw [List.getElem?_append_left (by rw [G.lr]; exact h)] at h3
   exact (G.tabs i M' t' ras' h1 h2 h3).mono g
  ·have e:i = Ms.length:=by
    have:=(List.getElem?_eq_some_iff.mp h1).1
    simp at this; omega
   subst e
   rw [List.getElem?_append_right (Nat.le_refl _),Nat.sub_self] at h1
   rw [← G.lt,List.getElem?_append_right (Nat.le_refl _),Nat.sub_self] at h2
   rw [← G.lr,List.getElem?_append_right (Nat.le_refl _),Nat.sub_self] at h3
   cases h1; cases h2; cases h3
   exact N.tab
 ·rcases List.mem_append.mp hx with h | h
  ·exact G.frt x h
  ·rw [List.mem_singleton.mp h]; exact G.same.none N.ft
 ·rcases List.mem_append.mp hx with h | h
  ·exact G.frr x h r hr
  ·rw [List.mem_singleton.mp h] at hr; exact G.same.none (N.fr r hr)
 ·rw [List.nodup_append]
  exact ⟨G.nd,by simp,fun x hx y hy=>by rw [List.mem_singleton.mp hy]; exact ot x hx⟩
 ·rcases List.mem_append.mp hx with h | h
  ·rcases List.mem_append.mp hy with h' | h'
   ·exact G.sep x h y h'
   ·rw [List.mem_singleton.mp h']
    intro hm
    obtain ⟨o,ho⟩:=G.tsome h
    rw [N.fr x hm] at ho; cases ho
  ·rw [List.mem_singleton.mp h]
   rcases List.mem_append.mp hy with h' | h'
   ·intro hm
    obtain ⟨o,ho⟩:=G.rsome h' hm
    rw [N.ft] at ho; cases ho
   ·rw [List.mem_singleton.mp h']; exact N.nt
 ·have lim:∀ i j,adr (rs ++ [ras]) i j = some a→i≤rs.length:=fun i j h=>by
   obtain ⟨x,hx,_⟩:=Qm h
   have:=(List.getElem?_eq_some_iff.mp hx).1
   simp at this; omega
  have mem:∀ i j,i < rs.length→adr (rs ++ [ras]) i j = some a→∃ x∈rs,a∈x:=fun i j hi h=>by
   rw [qP hi] at h
   obtain ⟨x,hx,hx'⟩:=Qm h
   exact ⟨x,List.mem_of_getElem? hx,List.mem_of_getElem? hx'⟩
  rcases Nat.lt_or_ge i rs.length with h | h <;> rcases Nat.lt_or_ge i' rs.length with h' | h'
  ·rw [qP h] at h1
   rw [qP h'] at h2
   exact G.inj i j i' j' a h1 h2
  ·obtain ⟨x,hx,ha⟩:=mem i j h h1
   have e:i' = rs.length:=Nat.le_antisymm (lim i' j' h2) h'
   rw [e,jD] at h2
   exact absurd (List.mem_of_getElem? h2) (olds x hx a ha)
  ·obtain ⟨x,hx,ha⟩:=mem i' j' h' h2
   have e:i = rs.length:=Nat.le_antisymm (lim i j h1) h
   rw [e,jD] at h1
   exact absurd (List.mem_of_getElem? h1) (olds x hx a ha)
  ·have e:i = rs.length:=Nat.le_antisymm (lim i j h1) h
   have e':i' = rs.length:=Nat.le_antisymm (lim i' j' h2) h'
   rw [e,jD] at h1
   rw [e',jD] at h2
   exact ⟨by omega,(List.getElem?_inj (List.getElem?_eq_some_iff.mp h1).1 N.nd).mp (h1.trans h2.symm)⟩
theorem GrowTs.updAt (G:GrowTs H H' Ms ts rs) {p:Addr} {zs zs':List V} (hp:H p = none) (h:H' p = some (.lst zs)) (nt:p∉ts) (nr:∀ ras∈rs,p∉ras):GrowTs H (upd H' p (.lst zs')) Ms ts rs :=
 ⟨xB G.same hp,G.lt,G.lr,fun i M t ras h1 h2 h3=>(G.tabs i M t ras h1 h2 h3).upd (fun e=>nt (by rw [← e]; exact List.mem_of_getElem? h2)) (nr ras (List.mem_of_getElem? h3)) h,G.frt,G.frr,G.nd,G.sep,G.inj⟩
end
noncomputable def powX (k:Int) (A:List (List Nb)) (x:List Nb):Nat→List Nb
 | 0=>x
 | i + 1=>imgM k A (powX k A x i)
end L2
namespace L2
open PySem PySem.Spec PyProof.Rows Nm
end L2
namespace L2
open PySem PySem.Spec PyProof.Rows Nm
theorem zgf {k:Int} (hk:KindOk k) {n b:Nat} (h7:61≤b) {rows:List (List Int)} (hl:∀ r∈rows,r.length = n) (h:∀ r∈rows,∀ w∈r,Sm b w):∀ c,SzS ((b + 1) * 2 ^ (La.swTo k rows c).1.length - 1) (La.swTo k rows c)
 | 0=>⟨fun p hp=>(nomatch hp),fun r hr w hw=>by
   obtain ⟨x,hx,rfl⟩:=List.mem_map.mp hr
   exact (Jl hk h7 (h x hx) w hw).mono (by show b≤(b + 1) * 2 ^ 0 - 1; omega)⟩
 | c + 1=>by
  have ih:=zgf hk h7 hl h c
  have fine:=La.Fine.to hk.lt.1 hl c
  show SzS ((b + 1) * 2 ^ (La.swTurn k c (La.swTo k rows c)).1.length - 1) (La.swTurn k c (La.swTo k rows c))
  generalize La.swTo k rows c = s at ih fine
  have h1:2 ^ s.1.length ≥ 1:=Nat.one_le_two_pow
  have h2:(b + 1) * 1≤(b + 1) * 2 ^ s.1.length:=Nat.mul_le_mul_left _ h1
  cases e:s.2.filter (fun r=>decide (r.getD c 0≠0)) with
  | nil =>
   have t:La.swTurn k c s = s:=by unfold La.swTurn; simp only [e]
   rw [t]; exact ih
  | cons l rest =>
   have t:=SzS.turn (c:=c) hk (show 61≤(b + 1) * 2 ^ s.1.length - 1 by omega) fine ih
   have len:(La.swTurn k c s).1.length = s.1.length + 1:=by
    unfold La.swTurn; simp only [e]
    rw [List.length_append,List.length_map]; rfl
   rw [len]
   have e2:(b + 1) * 2 ^ (s.1.length + 1) - 1 = 2 * ((b + 1) * 2 ^ s.1.length - 1) + 1:=by
    rw [Nat.pow_succ]
    have:(b + 1) * (2 ^ s.1.length * 2) = (b + 1) * 2 ^ s.1.length * 2:=by rw [Nat.mul_assoc]
    omega
   rw [e2]; exact t
theorem zcS {k:Int} (hk:KindOk k) {n B:Nat} {M R:List (List Nb)} {ls:List Nat} (h7:61≤B) (oM:La.OkM k n M) (hM:La.rowsB B M) (red:∀ (F:Type) [Lean.Grind.Field F] (φ:La.Kf k F),La.RedOf φ n M R ls):La.rowsB ((B + 1) * 2 ^ R.length) R:=by
 obtain ⟨F0,i0,d0,⟨φ0⟩⟩:=La.yl hk
 have:∃ Ws:List (List Int),Ws.length = M.length∧(∀ (i:Nat) (r:List Nb) (ws:List Int),M[i]? = some r→Ws[i]? = some ws→∃ b,La.Scl k r ws b)∧∀ ws∈Ws,ws.length = n∧∀ w∈ws,Sm B w:=by
  clear red
  induction M with
  | nil=>exact ⟨[],rfl,fun i r ws h=>by simp at h,fun ws h=>(nomatch h)⟩
  | cons m M ih =>
   obtain ⟨Ws,l,h,hs⟩:=ih (fun r hr=>oM r (List.mem_cons_of_mem _ hr)) (fun r hr=>hM r (List.mem_cons_of_mem _ hr))
   have om:=oM m List.mem_cons_self
   obtain ⟨D,D0,D1,hD⟩:=hM m List.mem_cons_self
   by_cases k0:k = 0
   ·have dv:∀ x∈m,La.dvB (D:Int) x:=fun x hx=>by
     cases x with
     | q r=>exact La.dB.den_dvd D0 (hD _ hx)
     | z i=>trivial
    have sc:La.Scl k m (m.map (La.scW (D:Int))) (D:Int):=⟨rfl,by omega,fun z=>absurd k0 z,dv⟩
    refine ⟨m.map (La.scW (D:Int)) :: Ws,by simp [l],fun i r ws h1 h2=>?_,fun ws hw=>?_⟩
    ·cases i with
     | zero=>simp at h1 h2; subst h1 h2; exact ⟨_,sc⟩
     | succ i=>exact h i r ws (by simpa using h1) (by simpa using h2)
    ·rcases List.mem_cons.mp hw with e | hw
     ·rw [e]
      refine ⟨by rw [List.length_map]; exact om.1,fun w hw=>?_⟩
      obtain ⟨x,hx,rfl⟩:=List.mem_map.mp hw
      exact La.zee hk (om.2 x hx) h7 D0 (hD x hx) (by omega) (dv x hx) fun _=>Int.dvd_refl _
     ·exact hs ws hw
   ·have dv:∀ x∈m,La.dvB 1 x:=fun x hx=>by
     cases x with
     | q r=>exact absurd (om.2 _ hx) k0
     | z i=>trivial
    have sc:La.Scl k m (m.map (La.scW 1)) 1:=⟨rfl,by decide,fun _=>rfl,dv⟩
    refine ⟨m.map (La.scW 1) :: Ws,by simp [l],fun i r ws h1 h2=>?_,fun ws hw=>?_⟩
    ·cases i with
     | zero=>simp at h1 h2; subst h1 h2; exact ⟨_,sc⟩
     | succ i=>exact h i r ws (by simpa using h1) (by simpa using h2)
    ·rcases List.mem_cons.mp hw with e | hw
     ·rw [e]
      refine ⟨by rw [List.length_map]; exact om.1,fun w hw=>?_⟩
      obtain ⟨x,hx,rfl⟩:=List.mem_map.mp hw
      exact La.zee hk (om.2 x hx) h7 D0 (hD x hx) (by decide) (dv x hx) fun z=>absurd z k0
     ·exact hs ws hw
 obtain ⟨Ws,lW,scl,hs⟩:=this
 have r2:=La.zaF φ0 hk oM lW scl
 have eR:R = La.redM k n Ws:=(red F0 φ0).unique r2 (fun v q=>q) (fun v q=>q)
 have wl:∀ r∈Ws,r.length = n:=fun r hr=>(hs r hr).1
 have szs:=zgf hk h7 wl (fun r hr=>(hs r hr).2) n
 have fine:=La.Fine.to hk.lt.1 wl n
 have len:R.length = (La.swTo k Ws n).1.length:=by rw [eR]; unfold La.redM; rw [List.length_map]
 rw [len]
 intro r hr
 rw [eR] at hr
 unfold La.redM at hr
 obtain ⟨p,hp,rfl⟩:=List.mem_map.mp hr
 obtain ⟨h1,h2,h3,h4⟩:=La.qz φ0 hk.lt.1 wl hp
 have nn:nnum k (p.2.getD p.1 0)≠nnum k 0:=La.Jr φ0 fun z=>h3 ((La.YT φ0 (fine.df p hp) p.1).mp z)
 have b:=La.zct hk (B:=(B + 1) * 2 ^ (La.swTo k Ws n).1.length - 1) (p:=p.1) (ws:=p.2) (fun w hw=>szs.1 p hp w hw) (by omega) h3 nn
 exact b.mono (by omega)
theorem za6 {k:Int} {n C:Nat} {W:List (List Nb)} (hW:La.rowsB C W):∃ D:Nat,D≠0∧D≤2 ^ (W.length * C)∧∀ r∈W,La.rowD D (W.length * C) r:=by
 induction W with
 | nil=>exact ⟨1,by decide,by simp,fun r hr=>(nomatch hr)⟩
 | cons w W ih =>
  obtain ⟨D,d0,d1,hd⟩:=ih fun r hr=>hW r (List.mem_cons_of_mem _ hr)
  obtain ⟨E,e0,e1,he⟩:=hW w List.mem_cons_self
  have ep:2 ^ ((w :: W).length * C) = 2 ^ (W.length * C) * 2 ^ C:=by rw [← Nat.pow_add,List.length_cons,Nat.add_mul,Nat.one_mul]
  have p1:0 < 2 ^ (W.length * C):=Nat.pow_pos (by decide)
  have p2:0 < 2 ^ C:=Nat.pow_pos (by decide)
  refine ⟨E * D,Nat.mul_ne_zero e0 d0,?_,fun r hr x hx=>?_⟩
  ·rw [ep,Nat.mul_comm E D]; exact Nat.mul_le_mul d1 (by omega)
  ·rcases List.mem_cons.mp hr with e | hr
   ·rw [e] at hx
    have h:=La.dB.up (he x hx) D (2 ^ (W.length * C)) d1
    rw [Nat.mul_comm D E] at h
    refine h.mono ?_
    rw [ep,Nat.mul_sub,Nat.mul_one]
    omega
   ·have h:=La.dB.up (hd r hr x hx) E (2 ^ C) (by omega)
    refine h.mono ?_
    rw [ep,Nat.mul_sub,Nat.mul_one,Nat.mul_comm (2 ^ C)]
    omega
noncomputable def IsRa (k:Int) (n:Nat) (W:List (List Nb)) (lw:List Nat):Prop:=∀ (F:Type) [Lean.Grind.Field F] (φ:La.Kf k F),La.IsR φ n W lw
theorem zcY {k:Int} (hk:KindOk k) {n:Nat} {W:List (List Nb)} {lw:List Nat} (h:IsRa k n W lw):La.OkM k n W∧lw.length = W.length∧lw.Pairwise (· < ·)∧∀ l∈lw,l < n:=by
 obtain ⟨F,_,_,⟨φ⟩⟩:=La.yl hk
 refine ⟨(h F φ).ok,(h F φ).len,(h F φ).inc,fun l hl=>?_⟩
 obtain ⟨i,r,h1,h2⟩:=(h F φ).lead_of hl
 exact (h F φ).rr.lt _ ((h F φ).get h1 h2)
theorem Zu:∀ {l:List Nat} {m n:Nat},l.Pairwise (· < ·)→(∀ x∈l,m≤x∧x < n)→m≤n→l.length≤n - m
 | [],_,_,_,_,_=>Nat.zero_le _
 | x :: l,m,n,pw,h,mn=>by
  rw [List.pairwise_cons] at pw
  have hx:=h x List.mem_cons_self
  have:=Zu (l:=l) (m:=x + 1) (n:=n) pw.2 (fun y hy=>⟨pw.1 y hy,(h y (List.mem_cons_of_mem _ hy)).2⟩) (by omega)
  rw [List.length_cons]; omega
theorem zfE {k:Int} (hk:KindOk k) {n:Nat} {W:List (List Nb)} {lw:List Nat} (h:IsRa k n W lw):W.length≤n:=by
 obtain ⟨_,e,pw,lt⟩:=zcY hk h
 have:=Zu (m:=0) pw (fun x hx=>⟨Nat.zero_le _,lt x hx⟩) (Nat.zero_le _)
 omega
theorem zbZ {k:Int} {n:Nat} {M R:List (List Nb)} {ls:List Nat} (h:∀ (F:Type) [Lean.Grind.Field F] (φ:La.Kf k F),La.RedOf φ n M R ls):IsRa k n R ls:=fun F _ φ=>(h F φ).toIsR
theorem ZS {l:List Nat} {i:Nat} {x:Nat} (p:Nat→Bool) (h:l[i]? = some x):(l.take (i + 1)).filter p = (l.take i).filter p ++ (if p x = true then [x] else []):=La.yK p h
theorem Grow.snocR {H H1 H2:Hp} {M:List (List Nb)} {ras:List Addr} (G:Grow H H1 M ras) (g:Same H1 H2) {xs:List Nb} {p:Addr} (hr:RowAt H2 xs p) (hp:H1 p = none):Grow H H2 (M ++ [xs]) (ras ++ [p]):=by
 have G':=G.mono g
 refine ⟨G'.same,yb G'.rows hr,fun r hr'=>?_,?_⟩
 ·rcases List.mem_append.mp hr' with h | h
  ·exact G.fr r h
  ·rw [List.mem_singleton.mp h]; exact G.same.none hp
 ·rw [List.nodup_append]
  refine ⟨G.nd,by simp,fun a ha b hb e=>G.not_mem hp ?_⟩
  rw [← List.mem_singleton.mp hb,← e]; exact ha
theorem QT {k:Int} (hk:KindOk k) {n C:Nat} {W:List (List Nb)} (oW:La.OkM k n W) (h:La.rowsB C W) (c7:61≤C):∀ r∈W,∀ x∈r,nsm C x:=fun r hr x hx=>by
 obtain ⟨D,d0,d1,hd⟩:=h r hr
 have:0 < 2 ^ C:=Nat.pow_pos (by decide)
 exact zhD hk (hd x hx) ((oW r hr).2 x hx) d0 d1 (by omega) c7
end L2
namespace L2
open PySem PySem.Spec PyProof.Rows Nm
set_option maxHeartbeats 4000000
section
variable {k:Int} (hk:KindOk k) {n:Nat} {A B C J J' M M' S X:List (List Nb)}
include hk
end
end L2
namespace L2
open PySem PySem.Spec PyProof.Rows Nm
theorem XU {m:Nat}:∀ (xs:List Nb),(∀ x∈xs,nsm m x)→∃ D:Nat,D≠0∧D≤2 ^ (xs.length * m)∧∀ r:Rat,Nb.q r∈xs→r.den ∣ D
 | [],_=>⟨1,by decide,by simp,fun r h=>(nomatch h)⟩
 | x :: xs,h=>by
  obtain ⟨D,d0,dl,dd⟩:=XU xs fun y hy=>h y (List.mem_cons_of_mem _ hy)
  have pm:2 ^ ((x :: xs).length * m) = 2 ^ (xs.length * m) * 2 ^ m:=by rw [List.length_cons,Nat.add_mul,Nat.one_mul,Nat.pow_add]
  cases x with
  | z i =>
   refine ⟨D,d0,?_,fun r hr=>?_⟩
   ·rw [pm]
    exact Nat.le_trans dl (Nat.le_mul_of_pos_right _ (Nat.two_pow_pos m))
   ·rcases List.mem_cons.mp hr with e | e
    ·cases e
    ·exact dd r e
  | q s =>
   have hs:s.den < 2 ^ m:=by
    have:=(h (.q s) List.mem_cons_self).2
    unfold Sm at this
    omega
   refine ⟨D * s.den,Nat.mul_ne_zero d0 s.den_nz,?_,fun r hr=>?_⟩
   ·rw [pm]
    exact Nat.mul_le_mul dl (Nat.le_of_lt hs)
   ·rcases List.mem_cons.mp hr with e | e
    ·cases e; exact Nat.dvd_mul_left _ _
    ·exact Nat.dvd_trans (dd r e) (Nat.dvd_mul_right _ _)
theorem xP {k:Int} {n m:Nat} {xs:List Nb} (m1:1≤m) (h:ROk k n m xs):La.rowB ((n + 1) * m) xs:=by
 obtain ⟨D,d0,dl,dd⟩:=XU xs h.sz
 rw [h.len] at dl
 have pm:2 ^ ((n + 1) * m) = 2 ^ (n * m) * 2 ^ m:=by rw [Nat.add_mul,Nat.one_mul,Nat.pow_add]
 have m2:2≤2 ^ m:=Nat.pow_le_pow_right (n:=2) (by decide) m1
 have p1:0 < 2 ^ (n * m):=Nat.two_pow_pos _
 refine ⟨D,d0,?_,fun x hx=>?_⟩
 ·rw [pm]
  calc D≤2 ^ (n * m):=dl
   _ < 2 ^ (n * m) * 2:=by omega
   _≤2 ^ (n * m) * 2 ^ m:=Nat.mul_le_mul_left _ m2
 ·cases x with
  | z i=>trivial
  | q r =>
   obtain ⟨c,hc⟩:=dd r hx
   have sr:=h.sz _ hx
   refine ⟨(c:Int) * r.num,?_,?_⟩
   ·have e1:((D:Int):Rat) = ((r.den:Int):Rat) * ((c:Int):Rat):=by rw [hc,Int.natCast_mul,Rat.intCast_mul]
    have e2:r * ((r.den:Int):Rat) = ((r.num:Int):Rat):=La.kfRat.rat r rfl
    rw [e1,Rat.intCast_mul,← e2]
    grind
   ·rw [Int.natAbs_mul]
    have hn:r.num.natAbs < 2 ^ m:=sr.1
    have hc':c≤D:=by
     rw [hc]
     exact Nat.le_mul_of_pos_left _ r.den_pos
    have:((c:Int)).natAbs * r.num.natAbs≤2 ^ (n * m) * (2 ^ m - 1):=Nat.mul_le_mul (by omega) (by omega)
    have e:2 ^ (n * m) * (2 ^ m - 1) = 2 ^ (n * m) * 2 ^ m - 2 ^ (n * m):=by rw [Nat.mul_sub,Nat.mul_one]
    rw [pm]
    omega
theorem zeJ {k:Int} {r n m:Nat} {M:List (List Nb)} (m1:1≤m) (h:TOk k r n m M):La.rowsB ((n + 1) * m) M:=fun x hx=>xP m1 (h.row hx)
theorem Jb {k:Int} {n B:Nat} {M:List (List Nb)} (k0:k≠0) (oM:La.OkM k n M) (b1:1≤B):La.rowsB B M:=fun r hr=>⟨1,by decide,Nat.lt_of_lt_of_le (by decide:(1:Nat) < 2 ^ 1) (Nat.pow_le_pow_right (by decide) b1),fun x hx=>by
 have:=(oM r hr).2 x hx
 cases x with
 | z i=>trivial
 | q s=>exact absurd (show k = 0 from this) k0⟩
noncomputable def Fit (k:Int) (n:Nat):Prop:=1≤n∧(n≤3∨(k≠0∧n≤10))
theorem Fit.n10 {k:Int} {n:Nat} (h:Fit k n):n≤10:=by rcases h.2 with h | h <;> omega
theorem zaK {k:Int} {A B:List (List Nb)}:∀ (t:Nat) (r:List Nb),r∈La.kry k A B t→∃ b∈B,∃ i,i≤t∧r = powX k A b i
 | 0,r,hr=>⟨r,hr,0,Nat.le_refl _,rfl⟩
 | t + 1,r,hr=>by
  rcases List.mem_append.mp hr with h | h
  ·exact ⟨r,h,0,Nat.zero_le _,rfl⟩
  ·obtain ⟨x,hx,rfl⟩:=List.mem_map.mp h
   obtain ⟨b,hb,i,hi,rfl⟩:=zaK t x hx
   exact ⟨b,hb,i + 1,by omega,rfl⟩
end L2
namespace L2
open PySem PySem.Spec PyProof.Rows Nm
theorem xw {k:Int} {c:Nat} {M:List (List Nb)} (oM:La.OkM k c M):transp M.length (transp c M) = M:=by
 refine List.ext_getElem? fun i=>?_
 rcases Nat.lt_or_ge i M.length with h | h
 ·rw [yd h,List.getElem?_eq_getElem h]
  congr 1
  have om:=oM M[i] (List.getElem_mem h)
  refine List.ext_getElem? fun j=>?_
  rcases Nat.lt_or_ge j c with hj | hj
  ·have hj':j < M[i].length:=by omega
   rw [List.getElem?_map,yd hj,List.getElem?_eq_getElem hj']
   show some ((M.map fun r=>r.getD j (.z 0)).getD i (.z 0)) = some _
   congr 1
   rw [List.getD_eq_getElem?_getD,List.getElem?_map,List.getElem?_eq_getElem h]
   show (M[i].getD j (.z 0)) = _
   rw [List.getD_eq_getElem?_getD,List.getElem?_eq_getElem hj']; rfl
  ·rw [List.getElem?_eq_none (by rw [List.length_map,zq]; exact hj),List.getElem?_eq_none (by omega)]
 ·rw [List.getElem?_eq_none (by rw [zq]; exact h),List.getElem?_eq_none h]
end L2
namespace L2
open PySem PySem.Spec PyProof.Rows Nm
noncomputable def szk (k:Int) (m:Nat) (x:Nb):Prop:=k = 0→nsm m x
theorem szk.mono {k:Int} {m n:Nat} {x:Nb} (h:szk k m x) (hm:m≤n):szk k n x:=fun k0=>(h k0).mono hm
theorem szk.nsm {k:Int} (hk:KindOk k) {m n:Nat} {x:Nb} (o:x.ok k) (h:szk k m x) (hm:m≤n) (h7:61≤n):nsm n x:=by
 by_cases k0:k = 0
 ·exact (h k0).mono hm
 ·exact (Jv hk k0 o).mono h7
theorem zfS {k:Int} {m n:Nat} {x y:Nb} (ox:x.ok k) (oy:y.ok k) (sx:szk k m x) (sy:szk k n y):szk k (m + n + 1) (nadd k x y):=fun k0=>by
 rcases Xv ox oy with ⟨_,r,s,rfl,rfl⟩ | ⟨h,_⟩
 ·have hx:=sx k0
  have hy:=sy k0
  show Sm _ (r + s).num∧Sm _ ((r + s).den:Int)
  rw [← zdm]
  obtain ⟨h1,h2⟩:=Xz (t:=r.num * s.den + s.num * r.den) (qL r s) ((hx.1.mul hy.2).add ((hy.1.mul hx.2).mono (by omega))) (hx.2.mul hy.2)
  exact ⟨h1,h2.mono (Nat.le_succ _)⟩
 ·exact absurd k0 h
theorem JV {k:Int} {m n:Nat} {x y:Nb} (ox:x.ok k) (oy:y.ok k) (sx:szk k m x) (sy:szk k n y):szk k (m + n) (nmul k x y):=fun k0=>by
 rcases Xv ox oy with ⟨_,r,s,rfl,rfl⟩ | ⟨h,_⟩
 ·have hx:=sx k0
  have hy:=sy k0
  show Sm _ (r * s).num∧Sm _ ((r * s).den:Int)
  rw [← zbe]
  exact Xz (qL r s) (hx.1.mul hy.1) (hx.2.mul hy.2)
 ·exact absurd k0 h
section
variable {H H':Hp} {Ms:List (List (List Nb))} {ts:List Addr} {rs:List (List Addr)}
theorem zbH {i j:Nat} {ras:List Addr} {a:Addr} (h1:rs[i]? = some ras) (h2:ras[j]? = some a):adr rs i j = some a:=by unfold adr; rw [h1]; exact h2
theorem GrowTs.setRow (G:GrowTs H H' Ms ts rs) {i j:Nat} {M:List (List Nb)} {ras:List Addr} {a:Addr} (hM:Ms[i]? = some M) (hr:rs[i]? = some ras) (ha:ras[j]? = some a) {us:List V} (hu:H' a = some (.lst us)) {xs:List Nb} {vs:List V} (hv:Paired (RN H') xs vs):GrowTs H (upd H' a (.lst vs)) (Ms.set i (M.set j xs)) ts rs:=by
 have rm:=List.mem_of_getElem? hr
 have am:=List.mem_of_getElem? ha
 refine ⟨xB G.same (G.frr ras rm a am),by rw [List.length_set]; exact G.lt,by rw [List.length_set]; exact G.lr,fun i' M' t' ras' h1 h2 h3=>?_,G.frt,G.frr,G.nd,G.sep,G.inj⟩
 have nt:t'≠a:=fun e=>G.sep t' (List.mem_of_getElem? h2) ras rm (by rw [e]; exact am)
 by_cases e:i' = i
 ·subst e
  rw [hr] at h3
  cases h3
  have lM:i' < Ms.length:=(List.getElem?_eq_some_iff.mp hM).1
  rw [List.getElem?_set,if_pos rfl,if_pos lM] at h1
  cases h1
  have T:=G.tabs i' M t' ras hM h2 hr
  refine ⟨by rw [zJ nt]; exact T.1,Yl (by rw [List.length_set]; exact zj T.2) fun j' x' a' e1 e2=>?_⟩
  by_cases ej:j' = j
  ·subst ej
   rw [ha] at e2
   cases e2
   have lj:j' < M.length:=by rw [zj T.2]; exact (List.getElem?_eq_some_iff.mp ha).1
   rw [List.getElem?_set,if_pos rfl,if_pos lj] at e1
   cases e1
   exact ⟨vs,zf,xI (fun _ _ r=>r.upd hu) hv⟩
  ·rw [List.getElem?_set,if_neg (Ne.symm ej)] at e1
   exact (xY T.2 e1 e2).upd (fun z=>ej (by subst z; exact (G.inj _ _ _ _ _ (zbH hr e2) (zbH hr ha)).2)) hu
 ·rw [List.getElem?_set,if_neg (Ne.symm e)] at h1
  refine (G.tabs i' M' t' ras' h1 h2 h3).upd nt (fun hm=>e ?_) hu
  obtain ⟨j',hj',e2⟩:=List.getElem_of_mem hm
  exact (G.inj _ _ _ _ _ (zbH h3 (by rw [List.getElem?_eq_getElem hj',e2])) (zbH hr ha)).1
theorem GrowTs.setSlot (G:GrowTs H H' Ms ts rs) {i j:Nat} {M:List (List Nb)} {ras:List Addr} {t p:Addr} {xs:List Nb} (hM:Ms[i]? = some M) (ht:ts[i]? = some t) (hr:rs[i]? = some ras) (hj:j < ras.length) (hp:RowAt H' xs p) (fp:H p = none) (np:p∉ts) (nr:∀ ras∈rs,p∉ras) :
  GrowTs H (upd H' t (.lst ((ras.set j p).map V.ref))) (Ms.set i (M.set j xs)) ts (rs.set i (ras.set j p)):=by
 have tm:=List.mem_of_getElem? ht
 have rm:=List.mem_of_getElem? hr
 have T0:=G.tabs i M t ras hM ht hr
 have li:i < rs.length:=(List.getElem?_eq_some_iff.mp hr).1
 have lM:i < Ms.length:=(List.getElem?_eq_some_iff.mp hM).1
 have pt:p≠t:=fun e=>np (by rw [e]; exact tm)
 have mem':∀ x∈rs.set i (ras.set j p),∀ a∈x,a = p∨∃ y∈rs,a∈y:=fun x hx a ha=>by
  rcases La.yc hx with e | e
  ·subst e
   rcases La.yc ha with e | e
   ·exact .inl e
   ·exact .inr ⟨ras,rm,e⟩
  ·exact .inr ⟨x,e,ha⟩
 have adr':∀ i' j',adr (rs.set i (ras.set j p)) i' j' = if i' = i∧j' = j then some p else adr rs i' j':=fun i' j'=>by
  unfold adr
  rw [List.getElem?_set]
  by_cases e:i' = i
  ·subst e
   rw [if_pos rfl,if_pos li,hr]
   show (ras.set j p)[j']? = if i' = i'∧j' = j then some p else ras[j']?
   rw [List.getElem?_set]
   by_cases ej:j' = j
   ·subst ej; rw [if_pos rfl,if_pos hj,if_pos ⟨rfl,rfl⟩]
   ·rw [if_neg (Ne.symm ej),if_neg (fun h=>ej h.2)]
  ·rw [if_neg (Ne.symm e),if_neg (fun h=>e h.1)]
 have notp:∀ i' j' a,adr rs i' j' = some a→a≠p:=fun i' j' a h e=>by
  obtain ⟨x,hx,hx'⟩:=Qm h
  exact nr x (List.mem_of_getElem? hx) (by rw [← e]; exact List.mem_of_getElem? hx')
 refine ⟨xB G.same (G.frt t tm),by rw [List.length_set]; exact G.lt,by rw [List.length_set,List.length_set]; exact G.lr,fun i' M' t' ras' h1 h2 h3=>?_,G.frt,fun x hx a ha=>?_,G.nd,fun x hx y hy hm=>?_,fun i1 j1 i2 j2 a h1 h2=>?_⟩
 ·by_cases e:i' = i
  ·subst e
   rw [ht] at h2
   cases h2
   rw [List.getElem?_set,if_pos rfl,if_pos lM] at h1
   rw [List.getElem?_set,if_pos rfl,if_pos li] at h3
   cases h1; cases h3
   refine ⟨zf,Yl (by rw [List.length_set,List.length_set]; exact zj T0.2) fun j' x' a' e1 e2=>?_⟩
   by_cases ej:j' = j
   ·subst ej
    rw [List.getElem?_set,if_pos rfl,if_pos (by rw [zj T0.2]; exact hj)] at e1
    rw [List.getElem?_set,if_pos rfl,if_pos hj] at e2
    cases e1; cases e2
    exact hp.upd pt T0.1
   ·rw [List.getElem?_set,if_neg (Ne.symm ej)] at e1 e2
    exact (xY T0.2 e1 e2).upd (fun z=>G.sep t tm ras rm (by rw [← z]; exact List.mem_of_getElem? e2)) T0.1
  ·rw [List.getElem?_set,if_neg (Ne.symm e)] at h1 h3
   have n1:t'≠t:=fun z=>e (by
    subst z
    exact (List.getElem?_inj (List.getElem?_eq_some_iff.mp h2).1 G.nd).mp (h2.trans ht.symm))
   exact (G.tabs i' M' t' ras' h1 h2 h3).upd n1 (G.sep t tm ras' (List.mem_of_getElem? h3)) T0.1
 ·rcases mem' x hx a ha with e | ⟨y,hy,hay⟩
  ·rw [e]; exact fp
  ·exact G.frr y hy a hay
 ·rcases mem' y hy x hm with e | ⟨z,hz,hxz⟩
  ·exact np (by rw [← e]; exact hx)
  ·exact G.sep x hx z hz hxz
 ·rw [adr'] at h1 h2
  by_cases c1:i1 = i∧j1 = j
  ·rw [if_pos c1] at h1
   cases h1
   by_cases c2:i2 = i∧j2 = j
   ·exact ⟨c1.1.trans c2.1.symm,c1.2.trans c2.2.symm⟩
   ·rw [if_neg c2] at h2
    exact absurd rfl (notp _ _ _ h2)
  ·rw [if_neg c1] at h1
   by_cases c2:i2 = i∧j2 = j
   ·rw [if_pos c2] at h2
    cases h2
    exact absurd rfl (notp _ _ _ h1)
   ·rw [if_neg c2] at h2
    exact G.inj _ _ _ _ _ h1 h2
end
end L2
namespace L2
open PySem PySem.Spec PyProof.Rows Nm
theorem zcP:∀ {ns:List Int} {its:List Value},Vals (ns.map V.int) its→IntsAre its ns
 | [],_,h=>by cases h; exact .nil
 | n :: ns,_,h=>by
  cases h with
  | cons r t =>
   obtain ⟨tk,e⟩:=r
   subst e
   exact .cons n tk (zcP t)
theorem za7:∀ {ns:List Int} {its:List Value},IntsAre its ns→Vals (ns.map V.int) its
 | _,_,.nil=>.nil
 | _,_,.cons n tk t=>.cons ⟨tk,rfl⟩ (za7 t)
section
variable {X:Cx} {K:PySem.W.Frag}
theorem Yk:CallR X (.builtin "sorted") (fun xs H Q=>∃ p ns,xs = [.ref p]∧SqL X.K H p ((ns:List Int).map V.int)∧ns.length < 64∧∀ (l:Addr) (ns':List Int),H l = none→ns'.Perm ns→ns'.Pairwise (·≤·)→Q (.ref l) (upd H l (.lst (ns'.map V.int)))):=by
 intro pins s σ H xs us Q I r h
 obtain ⟨p,ns,rfl,hq,h64,q⟩:=h
 obtain ⟨u,rfl,rx⟩:=vals1 r
 cases rx
 obtain ⟨its,r',pl,hz⟩:=I.list hq
 have hl:=r'.length
 rw [List.length_map] at hl
 refine sorted_ints pl.isList (zcP r') (by omega) fun out ns' a1 a2 a3=>?_
 obtain ⟨e,he⟩:=sortedAll_at s.heap its out
 have hl':=(za7 a1).length
 rw [List.length_map] at hl'
 have hp:=a2.length_eq
 rw [List.length_map] at hz
 refine ⟨.ref (s.heap.objs.size + 1),_,I.laid (t':=s.toks) (fun _ _=>sortedAll_old) (Nat.le_succ _) (show ObjOk X.prog X.w _ _ _ (.lst (ns'.map V.int)) from ⟨by rw [List.length_map]; omega,out.toList,e,za7 a1,he⟩),rfl,q _ ns' (I.hok.fresh (Nat.le_succ _)) a2 a3⟩
theorem zau (hK:X.K = K):CallR X (.builtin "sorted") (fun xs H Q=>∃ p ns,xs = [.ref p]∧SqL K H p ((ns:List Int).map V.int)∧ns.length < 64∧∀ (l:Addr) (ns':List Int),H l = none→ns'.Perm ns→ns'.Pairwise (·≤·)→Q (.ref l) (upd H l (.lst (ns'.map V.int)))):=hK ▸ Yk
theorem zaS (hK:X.K = K):CallR X (.type "tuple") (fun xs H Q=>∃ p ys,xs = [.ref p]∧((SqL K H p ys∧∀ l,H l = none→Q (.ref l) (upd H l (.tup ys)))∨(SqT K H p ys∧Q (.ref p) H))):=hK ▸ JG
inductive IntEs:List Expr→List Int→Prop
 | nil:IntEs [] []
 | cons {i:Int} {j:Nat} {pos:Pos} {es:List Expr} {ns:List Int}:IntEs es ns→IntEs (.Constant (.int i) j pos :: es) (i :: ns)
noncomputable def tInts (ns:List Int):TA:=fun _ H Q=>Q (ns.map V.int) H
theorem zhj {es:List Expr} (ns:List Int) (h:IntEs es ns):PA X es (tInts ns):=by
 induction h with
 | nil=>exact zd
 | @cons i j pos es ms _ ih=>exact za (te:=tC (.int i)) (t:=tInts ms) zb ih rfl
end
end L2
namespace L2
open PySem PySem.Spec PyProof.Rows
noncomputable def K0:PySem.W.Frag:=[]
section
variable {X:Cx} {K:PySem.W.Frag}
theorem SqL.up {H:Hp} {a:Addr} {xs:List V} (h:SqL K0 H a xs):SqL K H a xs:=by
 rcases h with h | ⟨o,its,n,hl,_⟩
 ·exact .inl h
 ·cases hl
theorem SqT.up {H:Hp} {a:Addr} {xs:List V} (h:SqT K0 H a xs):SqT K H a xs:=by
 rcases h with h | ⟨o,its,n,hl,_⟩
 ·exact .inl h
 ·cases hl
theorem zhH {T:String} {x:V} {H:Hp} (h:tyV K0 T x H):tyV K T x H:=by
 cases x with
 | ref p =>
  rcases h with ⟨e,xs,hx⟩ | ⟨e,o,ho,_⟩ | h | h
  ·exact .inl ⟨e,xs,hx.up⟩
  ·cases ho
  ·exact .inr (.inr (.inl h))
  ·exact .inr (.inr (.inr h))
 | _=>exact h
noncomputable def mo (t:TE):TE:=fun σ H Q=>∃ Q0:VK,t σ H Q0∧∀ x H',Q0 x H'→Q x H'
noncomputable def moA (t:TA):TA:=fun σ H Q=>∃ Q0:List V→Hp→Prop,t σ H Q0∧∀ x H',Q0 x H'→Q x H'
theorem PE.mo {e:Expr} {t:TE} (h:PE X e t):PE X e (mo t):=fun pins s σ H Q I ⟨Q0,h0,hq⟩ =>
 thn (h pins s σ H Q0 I h0) fun v s1 ⟨x,H1,I1,r,q⟩=>⟨x,H1,I1,r,hq x H1 q⟩
theorem PA.mo {es:List Expr} {t:TA} (h:PA X es t):PA X es (moA t):=fun pos pins s σ H Q I ⟨Q0,h0,hq⟩ =>
 thn (h pos pins s σ H Q0 I h0) fun v s1 ⟨x,H1,I1,r,q⟩=>⟨x,H1,I1,r,hq x H1 q⟩
theorem zp:IxR X (rIxL K0):=fun value slice pins s σ H x y v u Q I rx ry ⟨p,xs,i,w,e1,e2,h,e3,q⟩ hs =>
 zeq value slice pins s σ H x y v u Q I rx ry ⟨p,xs,i,w,e1,e2,h.up,e3,q⟩ hs
theorem zw:IxR X (rIxT K0):=fun value slice pins s σ H x y v u Q I rx ry ⟨p,xs,i,w,e1,e2,h,e3,q⟩ hs =>
 zfX value slice pins s σ H x y v u Q I rx ry ⟨p,xs,i,w,e1,e2,h.up,e3,q⟩ hs
theorem qv:SlR X (rSlL K0):=fun pins s σ H x v vl vu lo hi sl Q I rx hs p1 p2 ⟨a,xs,e,h,q⟩ =>
 zdc pins s σ H x v vl vu lo hi sl Q I rx hs p1 p2 ⟨a,xs,e,h.up,q⟩
inductive ILen (xs:List V) (H:Hp) (Q:VK):Prop where
 | mk (p:Addr) (ys:List V) (e:xs = [.ref p]) (h:SqL K0 H p ys∨SqT K0 H p ys) (q:Q (.int (ys.length:Int)) H):ILen xs H Q
theorem zP:CallR X (.builtin "len") ILen :=
 fun pins s σ H xs us Q I vs ⟨p,ys,e,h,q⟩=>Xc (K:=X.K) rfl pins s σ H xs us Q I vs ⟨p,ys,e,h.imp SqL.up SqT.up,q⟩
theorem qs:CallR X (.type "list") (fun xs H Q=>∃ p ys,xs = [.ref p]∧(SqL K0 H p ys∨SqT K0 H p ys)∧∀ l,H l = none→Q (.ref l) (upd H l (.lst ys))) :=
 fun pins s σ H xs us Q I vs ⟨p,ys,e,h,q⟩=>zb6 (K:=X.K) rfl pins s σ H xs us Q I vs ⟨p,ys,e,h.imp SqL.up SqT.up,q⟩
theorem zdl (hc:X.calm = true):CallR X (.builtin "sum") (fun xs H Q=>∃ p ns,xs = [.ref p]∧SqL K0 H p (List.map V.int ns)∧Q (.int ns.sum) H) :=
 fun pins s σ H xs us Q I vs ⟨p,ys,e,h,q⟩=>zeo (K:=X.K) hc rfl pins s σ H xs us Q I vs ⟨p,ys,e,h.up,q⟩
theorem QY:CallR X (.builtin "sorted") (fun xs H Q=>∃ p ns,xs = [.ref p]∧SqL K0 H p (List.map V.int ns)∧ns.length < 64∧∀ (l:Addr) (ns':List Int),H l = none→ns'.Perm ns→ns'.Pairwise (·≤·)→Q (.ref l) (upd H l (.lst (ns'.map V.int)))) :=
 fun pins s σ H xs us Q I vs ⟨p,ys,e,h,q⟩=>zau (K:=X.K) rfl pins s σ H xs us Q I vs ⟨p,ys,e,h.up,q⟩
theorem zaP:CallR X (.type "tuple") (fun xs H Q=>∃ p ys,xs = [.ref p]∧((SqL K0 H p ys∧∀ l,H l = none→Q (.ref l) (upd H l (.tup ys)))∨(SqT K0 H p ys∧Q (.ref p) H))) :=
 fun pins s σ H xs us Q I vs ⟨p,ys,e,h⟩=>zaS (K:=X.K) rfl pins s σ H xs us Q I vs ⟨p,ys,e,h.imp (fun h=>⟨h.1.up,h.2⟩) (fun h=>⟨h.1.up,h.2⟩)⟩
theorem jh {pos:Pos} {es:List Expr} {k:Nat} {t:TGs} (n:Nat) (hc:X.calm = true) (hg:PGs X es t) (hn:(assignEach es X.env).length = n:=by rfl) (hs:(assignEach es X.env).findIdx? (fun x=>x.fst) = none:=by rfl):PG X (.Tuple es k pos) (gTup K0 n t) :=
 fun pins s σ H v u Q I r ⟨a,xs,e,h,l,q⟩=>zdE (K:=X.K) n rfl hc hg hn hs pins s σ H v u Q I r ⟨a,xs,e,h.up,l,q⟩
theorem zhk {pos:Pos} {es:List Expr} {k:Nat} {t:TGs} (n:Nat) (hc:X.calm = true) (hg:PGs X es t) (hn:(assignEach es X.env).length = n:=by rfl) (hs:(assignEach es X.env).findIdx? (fun x=>x.fst) = none:=by rfl):PG X (.Tuple es k pos) (gLst K0 n t) :=
 fun pins s σ H v u Q I r ⟨a,xs,e,h,q⟩=>zgx (K:=X.K) n rfl hc hg hn hs pins s σ H v u Q I r ⟨a,xs,e,h.up,q⟩
structure It.le (J0 J:It):Prop where
 go:∀ i H,J0.go i H→J.go i H
 stop:∀ i H,J0.stop i H→J.stop i H
 yld:∀ i H x H',J.yld i H x H'→J0.yld i H x H'
theorem Turn.weaken {P:Program} {w:World} {tg:Expr} {J J0:It} {fp:List Addr} {it:Addr} {tn:Nat→Heap→Prop} (T:Turn P w K tg J fp it tn) (l:It.le J0 J):Turn P w K tg J0 fp it tn where
 mem:=T.mem
 obj:=T.obj
 keep:=T.keep
 self:=T.self
 item:=fun X p1 p2 p3 p4 i pins s σ H E I f t g=>thn (T.item X p1 p2 p3 p4 i pins s σ H E I f t (l.go i H g)) fun r s1 ⟨u,e,hw⟩=>⟨u,e,thn hw fun _ s2 ⟨x,H',a,b,y,c⟩=>⟨x,H',a,b,l.yld _ _ _ _ y,c⟩⟩
 done:=fun X p1 p2 p3 p4 i pins s σ H E I f t g=>T.done X p1 p2 p3 p4 i pins s σ H E I f t (l.stop i H g)
theorem zhG (a:Addr):It.le (Itl K0 a) (Itl K a):=⟨fun i H ⟨xs,x,h,e⟩=>⟨xs,x,h.up,e⟩,fun i H ⟨xs,h,e⟩=>⟨xs,h.up,e⟩,fun i H x H' ⟨e,h⟩=>⟨e,fun xs hx=>h xs hx.up⟩⟩
theorem zhz (a:Addr):It.le (Itt K0 a) (Itt K a):=⟨fun i H ⟨xs,x,h,e⟩=>⟨xs,x,h.up,e⟩,fun i H ⟨xs,h,e⟩=>⟨xs,h.up,e⟩,fun i H x H' ⟨e,h⟩=>⟨e,fun xs hx=>h xs hx.up⟩⟩
theorem zh0 (a b:Addr):It.le (Itz K0 a b) (Itz K a b):=⟨fun i H ⟨xs,ys,x,y,h,h2,e⟩=>⟨xs,ys,x,y,h.up,h2.up,e⟩,fun i H ⟨xs,ys,h,h2,e⟩=>⟨xs,ys,h.up,h2.up,e⟩,
 fun i H v H' ⟨T,x,y,e1,e2,e3,h1,h2⟩=>⟨T,x,y,e1,e2,e3,fun xs hx=>h1 xs hx.up,fun ys hy=>h2 ys hy.up⟩⟩
theorem zeL {pins:List (Addr×Obj)} {σ:St} {tg:Expr} {R:It→Hp→Prop} {itv:Value} {s:Shared} (h:PIE X pins σ tg (fun J H=>∃ J0,It.le J0 J∧R J0 H) itv s):PIE X pins σ tg R itv s:=by
 obtain ⟨it,fp,tn,J,H',e,I2,T,t0,fo,J0,l,q⟩:=h
 exact ⟨it,fp,tn,J0,H',e,I2,T.weaken l,t0,fo,q⟩
theorem zM {tg l:Expr} {tl:TE} (hl:PE X l tl):PI X tg l (iList K0 tl):=fun pins s σ H R I h =>
 thn (zgC hl.mo pins s σ H (fun J H=>∃ J0,It.le J0 J∧R J0 H) I ⟨_,h,fun x H1 ⟨a,e,⟨xs,hx⟩,q⟩=>⟨a,e,⟨xs,hx.up⟩,_,zhG a,q⟩⟩) fun _ _ hw=>thn hw fun _ _ hp=>zeL hp
theorem zgY {tg l:Expr} {tl:TE} (hl:PE X l tl):PI X tg l (iTup K0 tl):=fun pins s σ H R I h =>
 thn (zhU hl.mo pins s σ H (fun J H=>∃ J0,It.le J0 J∧R J0 H) I ⟨_,h,fun x H1 ⟨a,e,⟨xs,hx⟩,q⟩=>⟨a,e,⟨xs,hx.up⟩,_,zhz a,q⟩⟩) fun _ _ hw=>thn hw fun _ _ hp=>zeL hp
theorem qJ {a b:Expr} {ta:TA} {p pos:Pos} {elts:List Expr} {k1:Nat} {tpos:Pos} (hg:Gl X "zip") (hm:X.mg "zip" = none) (ha:PA X [a,b] ta) (hs:starEach [a,b] X.env = [(false,eval a X.env),(false,eval b X.env)]:=by rfl) (hs2:starEach [b] X.env = [(false,eval b X.env)]:=by rfl) :
  PI X (.Tuple elts k1 tpos) (.Call (.Name "zip" p) [a,b] [] pos) (iZip K0 ta):=fun pins s σ H R I h =>
 thn (zia hg hm ha.mo hs hs2 pins s σ H (fun J H=>∃ J0,It.le J0 J∧R J0 H) I ⟨_,h,fun x H1 ⟨a,b,xs,ys,e,hx,hy,q⟩=>⟨a,b,xs,ys,e,hx.up,hy.up,_,zh0 a b,q⟩⟩) fun _ _ hw=>thn hw fun _ _ hp=>zeL hp
theorem bm0 {o e':Expr} {T:String} {r:V→List V→Hp→VK→Prop} {to:TE} {t:TA} (h:∀ to',PE X o to'→PE X e' (tBM X.K T r to' t)) (ho:PE X o to):PE X e' (tBM K0 T r to t):=fun pins s σ H Q I hh =>
 h (mo to) ho.mo pins s σ H Q I ⟨_,hh,fun x H1 ⟨a,b⟩=>⟨zhH a,b⟩⟩
end
end L2
namespace L2
open PySem PySem.Spec PyProof.Rows
section
variable {X:Cx}
inductive IAll (xs:List V) (H:Hp) (Q:VK):Prop where
 | mk (p:Addr) (bs:List Bool) (e:xs = [.ref p]) (h:H p = some (.lst (bs.map V.bl))) (q:Q (.bl (bs.all id)) H):IAll xs H Q
theorem zcM (bs:List Bool):∀ n,n = bs.length→(List.range n).all (fun i=>bs.getD i true) = bs.all id:=by
 intro n e
 subst e
 rw [Bool.eq_iff_iff,List.all_eq_true,List.all_eq_true]
 refine ⟨fun h x hx=>?_,fun h i hi=>?_⟩
 ·obtain ⟨i,hi,rfl⟩:=List.getElem_of_mem hx
  have:=h i (List.mem_range.mpr hi)
  simpa [List.getD,hi] using this
 ·have hi':=List.mem_range.mp hi
  have:=h bs[i] (List.getElem_mem hi')
  simpa [List.getD,hi'] using this
theorem QH (hc:X.calm = true):CallR X (.builtin "all") IAll:=by
 intro pins s σ H xs us Q I r h
 obtain ⟨p,bs,rfl,hq,q⟩:=h
 obtain ⟨u,rfl,ru⟩:=Vals.one r
 cases ru
 obtain ⟨its,rv,pl,_⟩:=I.list (SqL.of (K:=X.K) hq)
 have hh:X.A.in1.handled = none:=I.ok.hd hc
 have lt:p < s.heap.objs.size:=let ⟨_,e,_⟩:=pl.isList; Heap.lt_size e
 have hl:its.length = bs.length:=by rw [← rv.length,List.length_map]
 refine call_all_walk (wpAny_pyIter_list pl.isList ?_)
 refine ⟨s.heap.objs.size,_,_,_,_,_,fun i=>bs.getD i true,rfl,Walks.list hh s.heap.objs.size p (Nat.ne_of_lt lt) its.toArray,⟨⟨_,Heap.get?_push_size _ rfl,rfl,rfl⟩,pl.isList.at fun o e=>Heap.get?_push_of_some _ e⟩,fun i v s' Q' E' hv hQ=>?_,fun h' tk keep=>?_⟩
 ·have hv':its[i]? = some v:=by simpa using hv
  have hi:i < bs.length:=by rw [← hl]; exact (List.getElem?_eq_some_iff.mp hv').1
  obtain ⟨u,hu,ru⟩:=rv.get (i:=i) (x:=.bl bs[i]) (by rw [List.getElem?_map,List.getElem?_eq_getElem hi]; rfl)
  rw [hu] at hv'
  cases hv'
  cases ru
  refine wpAny_truthy_bool ?_
  simpa [List.getD,hi] using hQ
 ·rw [zcM bs _ (by rw [List.size_toArray]; exact hl)]
  refine ⟨.bl (bs.all id),H,?_,rfl,q⟩
  exact I.kept (h':=h') (t':=tk) fun b o eb=>keep b o (by simp only [List.mem_cons,List.not_mem_nil,or_false]; exact Nat.ne_of_lt (Heap.lt_size eb)) (Heap.get?_push_of_some _ eb)
end
end L2
namespace La
open Lean.Grind Nm
section
variable {k:Int} {F:Type} [Field F] {φ:Kf k F} {n:Nat}
theorem zfm (hk:KindOk k) {A B:List (List Nb)} (oA:OkM k n A) (lA:A.length = n) (oB:OkM k n B) (n1:1≤n) (v:Nat→F):Rm φ (kry k A B n) v→Rm φ (kry k A B (n - 1)) v:=by
 by_cases h:∃ s,s < n∧∀ v,Rm φ (kry k A B (s + 1)) v→Rm φ (kry k A B s) v
 ·obtain ⟨s,hs,st⟩:=h
  intro hv
  have h1:=JE hk oA lA oB st (n - s) v (by rw [show s + (n - s) = n by omega]; exact hv)
  have h2:=zdj hk oA lA oB s (n - 1 - s) v h1
  rw [show s + (n - 1 - s) = n - 1 by omega] at h2
  exact h2
 ·exfalso
  have key:∀ t,t≤n→∀ R ls,RedOf φ n (kry k A B t) R ls→t + 1≤R.length:=by
   intro t
   induction t with
   | zero =>
    intro _ R ls hR
    refine Nat.succ_le_of_lt (Nat.pos_of_ne_zero fun e=>h ⟨0,by omega,fun v hv=>?_⟩)
    have eR:R = []:=List.eq_nil_of_length_eq_zero e
    subst eR
    have zB:∀ u,Rm φ B u→∀ i,u i = 0:=fun u hu i=>(hR.to u hu).zero_at fun r ⟨x,hx,_⟩=>nomatch hx
    have hv':Rm φ (B ++ B.map (imgR k A)) v:=hv
    obtain ⟨a,b,ha,hb,ev⟩:=Rm.app.mp hv'
    obtain ⟨u,hu,eu⟩:=(Rm.img hk oA oB).mp hb
    have:∀ i,b i = 0:=fun i=>by
     rw [eu i,show u = (fun _=>0) from funext (zB u hu)]
     exact jm A i
    exact Span.cast ha fun i=>by rw [ev i,this i]; grind
   | succ t ih =>
    intro ht R ls hR
    obtain ⟨R',ls',hR'⟩:=Ja φ hk (YN hk oA lA oB t)
    have h1:=ih (by omega) R' ls' hR'
    have sub:=hR'.toIsR.sub_len hR.toIsR fun v hv=>hR.to v (JQ hk oA lA oB t v (hR'.fro v hv))
    rcases Nat.lt_or_ge R'.length R.length with g | g
    ·omega
    ·exact absurd ⟨t,by omega,fun v hv=>hR'.fro v (sub.2 g v (hR.to v hv))⟩ h
  obtain ⟨R,ls,hR⟩:=Ja φ hk (YN hk oA lA oB n)
  have h1:=key n (Nat.le_refl _) R ls hR
  have h2:ls.length≤n:=by
   have:=L2.Zu (m:=0) hR.toIsR.inc (fun x hx=>⟨Nat.zero_le _,(by
    obtain ⟨i,r,e1,e2⟩:=hR.toIsR.lead_of hx
    exact hR.rr.lt _ (hR.toIsR.get e1 e2):x < n)⟩) (Nat.zero_le _)
   omega
  have:=hR.len
  omega
end
end La
namespace L2
open PySem PySem.Spec PyProof.Rows Nm
noncomputable def nulT (k:Int) (r c:Nat):List (List Nb):=List.replicate r (List.replicate c (nnum k 0))
theorem zfx {k:Int} {r c i:Nat} (h:i < r):(nulT k r c)[i]? = some (List.replicate c (nnum k 0)):=by unfold nulT; rw [List.getElem?_replicate,if_pos h]
theorem Grow.addR {H H1 H2:Hp} {M:List (List Nb)} {ras:List Addr} (G:Grow H H1 M ras) (g:Same H1 H2) {xs:List Nb} {p:Addr} (hr:RowAt H2 xs p) (hp:H1 p = none):Grow H H2 (M ++ [xs]) (ras ++ [p]):=by
 refine ⟨G.same.trans g,yb (G.mono g).rows hr,fun r hr'=>?_,?_⟩
 ·rcases List.mem_append.mp hr' with h | h
  ·exact G.fr r h
  ·rw [List.mem_singleton.mp h]; exact G.same.none hp
 ·rw [List.nodup_append]
  refine ⟨G.nd,by simp,fun a ha b hb=>?_⟩
  rw [List.mem_singleton.mp hb]
  exact fun e=>G.not_mem hp (by rw [← e]; exact ha)
section
variable {k:Int} (hk:KindOk k)
end
end L2
open PySem PySem.Spec PyProof.Rows
theorem L2.rev_len:typeLookup (Value.type "list_reverseiterator") (Str.ofString "__len__") = pure none:=by rfl
theorem L2.rev_hint:typeLookup (Value.type "list_reverseiterator") (Str.ofString "__length_hint__") = pure (some (Value.builtin "list_reverseiterator.__length_hint__")):=by rfl
theorem L2.rev_split:splitId "list_reverseiterator.__length_hint__" = some ("list_reverseiterator", "__length_hint__"):=by rfl
theorem L2.rev_sub:isSubtype (Value.type "list_reverseiterator") (Value.type "list_reverseiterator") = pure true:=by rfl
theorem L2.hint_rev {prog:Program} {w:World} {A:Around} {E:Value→Shared→Prop} {s:Shared} {r:Addr} (h:s.TypeIs (Value.ref r) "list_reverseiterator") {Q:Bool→Shared→Prop} (q:Q false s):wpAny (model prog w) A (Builtin.List.listLengthHint (Value.ref r)) Q E s:=by
 unfold Builtin.List.listLengthHint
 refine wpAny_bind (wpAny_specialOf h L2.rev_len ?_)
 dsimp only
 rw [if_neg (by decide),if_neg (by decide)]
 refine wpAny_bind (wpAny_specialOf h L2.rev_hint ?_)
 dsimp only
 rw [L2.rev_split]
 dsimp only
 refine wpAny_bind (wpAny_isInstance h L2.rev_sub ?_)
 rw [if_neg (by decide),if_pos (by decide),if_neg (by decide)]
 exact wpAny_pure q
theorem L2.init_rev {prog:Program} {w:World} {A:Around} {s:Shared} {R:Result→Shared→Prop} (S I l:Addr) {items:Array Value} (hA:A.handled = none) (hI:s.heap.IsRevIter I l ((items.size:Int) - 1)) (hl:s.heap.IsList l items) (hne:l≠I) (hSI:S≠I) (hSl:S≠l)
  (hS:s.heap.get? S = some { cls:=Value.type "list",data:=Data.seq #[] })
  (q:∀ (s':Shared) (acc':Array Value) (c':Nat),Moved [S,I] (fun a b=>b = a) s s'→s'.heap.get? S = some { cls:=Value.type "list",data:=Data.seq acc' c' }→ItemsOf (fun i v=>items[items.size - 1 - i]? = some v) acc' items.size→R (Except.ok (Flow.ret Value.none)) s')
  (hz:items.size≤sizeLine) :
  wpAny (model prog w) A.in1 (Builtin.«list.__init__» { pos:=[Value.ref S,Value.ref I] })
   (fun fin s'=>match fin with
    | Fin.done f=>R (Except.ok f) s'
    | Fin.again c'=>c'.quiet = true∧codeAny (model prog w) A c' R s')
   (fun e s'=>R (Except.error e) s') s:=by
 unfold Builtin.«list.__init__»
 dsimp only
 rw [if_neg (by decide),if_neg (by show ¬ (1 > 1); decide)]
 refine wpAny_bind (listItems_at hS rfl ?_)
 refine wpAny_bind (listUpdate_at hS rfl ?_ (by decide) (by decide))
 refine wpAny_bind (wpAny_letGo ?_)
 unfold Builtin.List.listExtendWith
 have hT:s.TypeIs (Value.ref I) "list_reverseiterator" := let ⟨o,h1,h2,_⟩:=hI; ⟨o,h1,h2⟩
 have keep:∀ b,b≠S→∀ o,s.heap.get? b = some o→(s.heap.update S (Obj.mapSeq fun x=>#[])).get? b = some o:=fun b hb o ho=>by
  rw [Heap.get?_update_ne]
  ·exact ho
  ·first | exact hb | exact Ne.symm hb
 have hS1:∃ c,(s.heap.update S (Obj.mapSeq fun x=>#[])).get? S = some { cls:=Value.type "list",data:=Data.seq #[] c }:=by
  rw [Heap.get?_update_self _ hS rfl]
  exact ⟨_,rfl⟩
 obtain ⟨c,hS1⟩:=hS1
 have W:=(Walks.listRev (prog:=prog) (w:=w) (A:=A.in1) hA I l hne items)
 have St0:=W.frame 0 s.heap (s.heap.update S (Obj.mapSeq fun x=>#[])) ⟨Nat.zero_le _,by simpa using hI,hl⟩ fun b hb o ho=>keep b (fun e=>by
  subst e
  rcases List.mem_cons.mp hb with e | e
  ·exact hSI e
  ·exact hSl (List.mem_singleton.mp e)) o ho
 have hT1:Shared.TypeIs { heap:=s.heap.update S (Obj.mapSeq fun x=>#[]),gens:=s.gens,drawn:=s.drawn,toks:=s.toks,os:=s.os } (Value.ref I) "list_reverseiterator" := let ⟨o,h1,h2⟩:=hT; ⟨o,keep I (Ne.symm hSI) o h1,h2⟩
 have mv:∀ s',Moved [S,I] (fun a b=>b = a) { heap:=s.heap.update S (Obj.mapSeq fun x=>#[]),gens:=s.gens,drawn:=s.drawn,toks:=s.toks,os:=s.os } s'→Moved [S,I] (fun a b=>b = a) s s':=fun s' m=>by
  refine ⟨fun b o hb ho=>m.heap b o hb (keep b (fun e=>hb (by rw [e]; exact List.mem_cons_self)) o ho),m.gens,m.drawn,m.os,m.toks⟩
 generalize s.heap.update S (Obj.mapSeq fun x=>#[]) = h1 at *
 refine wpAny_bind (wpAny_typeOf hT1 ?_)
 rw [if_neg (by rw [listSameRef_of_ne (fun e=>hSI (Value.ref.inj e))]; decide)]
 refine wpAny_bind (W.self 0 _ _ _ St0 ?_)
 refine wpAny_bind (wpAny_holding (L2.hint_rev hT1 ?_))
 dsimp only
 rw [if_neg (by decide)]
 refine wpAny_pure ⟨by first | rfl | (unfold Code.quiet; decide) | (with_unfolding_all rfl) | (simp [Code.quiet]; done),?_⟩
 exact codeAny_extend_loopS W.toS hz S (by simp [hSI,hSl]) Value.none items.size 0 _ #[] c (by simp) (Nat.zero_le _) St0 hS1 ⟨rfl,fun j v h=>by simp at h⟩ (fun s' acc' c' m g it=>q s' acc' c' (mv s' m) g it)
theorem L2.call_list_rev {prog:Program} {w:World} {A:Around} {E:Value→Shared→Prop} {s:Shared} {Q:Value→Shared→Prop} (I l:Addr) {items:Array Value} (hA:A.handled = none) (hI:s.heap.IsRevIter I l ((items.size:Int) - 1)) (hl:s.heap.IsList l items) (hne:l≠I) (hz:items.size≤sizeLine)
  (q:∀ (s':Shared) (acc':Array Value) (c':Nat),(∀ (b:Addr) (o:Obj),b≠I→s.heap.get? b = some o→s'.heap.get? b = some o)→s'.gens = s.gens→s'.drawn = s.drawn→s'.os = s.os→s'.heap.get? s.heap.objs.size = some { cls:=Value.type "list",data:=Data.seq acc' c' }→ItemsOf (fun i v=>items[items.size - 1 - i]? = some v) acc' items.size→Q (Value.ref s.heap.objs.size) s') :
  wpAny (model prog w) A (call (Value.type "list") [Value.ref I]) Q E s:=by
 have kp:∀ b o,s.heap.get? b = some o→(s.heap.push { cls:=Value.type "list",data:=Data.seq #[] }).get? b = some o:=fun b o e=>Heap.get?_push_of_some _ e
 have nS:∀ b o,s.heap.get? b = some o→s.heap.objs.size≠b:=fun b o e h=>by
  have:=Heap.lt_size e
  rw [← h] at this
  exact Nat.lt_irrefl _ this
 refine callType_codes (Q₁:=fun obj s₁=>obj = Value.ref s.heap.objs.size∧s₁ = { heap:=s.heap.push { cls:=Value.type "list",data:=Data.seq #[] },gens:=s.gens,drawn:=s.drawn,toks:=s.toks,os:=s.os }) F.called_list (F.typeCall_list_1 _) F.entry_list_init (code_list_new _ ⟨rfl,rfl⟩) ?_
 rintro obj s₁ ⟨rfl,rfl⟩
 obtain ⟨oI,hI1,hI2,hI3⟩:=hI
 obtain ⟨oL,hL1,hL2⟩:=hl
 have hS:(s.heap.push { cls:=Value.type "list",data:=Data.seq #[] }).get? s.heap.objs.size = some { cls:=Value.type "list",data:=Data.seq #[] }:=Heap.get?_push_size _ rfl
 refine ⟨⟨_,hS,rfl⟩,F.args_list_init_2 _ _,?_⟩
 refine L2.init_rev (A:=A.in1) (R:=wants (fun r s₂=>r = Value.none∧Q (Value.ref s.heap.objs.size) s₂) E) s.heap.objs.size I l (items:=items) hA ⟨oI,kp _ _ hI1,hI2,hI3⟩ ⟨oL,kp _ _ hL1,hL2⟩ hne (nS _ _ hI1) (nS _ _ hL1) hS (fun s' acc' c' m g it=>?_) hz
 refine ⟨rfl,q s' acc' c' (fun b o hb ho=>m.heap b o ?_ (kp b o ho)) m.gens m.drawn m.os g it⟩
 intro hm
 rcases List.mem_cons.mp hm with e | e
 ·exact nS b o ho e.symm
 ·exact hb (List.mem_singleton.mp e)
namespace L2
section
variable {X:Cx} {K:PySem.W.Frag} {e:Expr} {t:TA} {p p2 pos pos2:Pos}
noncomputable def rLR (K:PySem.W.Frag):List V→Hp→VK→Prop:=fun xs H Q=>∃ p ys,xs = [.ref p]∧SqL K H p ys∧∀ l,H l = none→Q (.ref l) (upd H l (.lst ys.reverse))
theorem ze7 {xs:List V} {us:List Value} (r:Vals xs us):Vals xs.reverse us.reverse:=by
 induction r with
 | nil=>exact .nil
 | cons h _ ih =>
  rw [List.reverse_cons,List.reverse_cons]
  have go:∀ {a:List V} {b:List Value} {x:V} {u:Value},Vals a b→RelV x u→Vals (a ++ [x]) (b ++ [u]):=fun {a b x u} h1 h2=>by
   induction h1 with
   | nil=>exact .cons h2 .nil
   | cons h3 _ ih2=>exact .cons h3 ih2
  exact go ih h
theorem zb2 (hK:X.K = K) (hc:X.calm = true) (hg1:Gl X "list") (hm1:X.mg "list" = none) (hg2:Gl X "reversed") (hm2:X.mg "reversed" = none) (ha:PA X [e] t)
  (h1:starEach [.Call (.Name "reversed" p2) [e] [] pos2] X.env = (false,eval (.Call (.Name "reversed" p2) [e] [] pos2) X.env) :: starEach [] X.env:=by rfl)
  (h2:starEach [e] X.env = (false,eval e X.env) :: starEach [] X.env:=by rfl) (h3:(backTo pos (starEach [] X.env)).any (·.1) = false:=by rfl) (h4:(backTo pos2 (starEach [] X.env)).any (·.1) = false:=by rfl) :
  PE X (.Call (.Name "list" p) [.Call (.Name "reversed" p2) [e] [] pos2] [] pos) (tCB (rLR K) t):=by
 subst hK
 intro pins s σ H Q I h
 refine wpAny_Call_Name_kw (ZU I hg1 hm1 (u:=.type "list") qQ ?_)
 refine PyProof.Rows.callWith_type1 ?_ h1 h3
 rw [h1]
 show wpAny _ _ (spliced ((false,eval (.Call (.Name "reversed" p2) [e] [] pos2) X.env) :: backTo pos (starEach [] X.env))) _ _ s
 refine Calls.spliced_cons ?_
 refine wpAny_Call_Name_kw (ZU I hg2 hm2 (u:=.type "reversed") PyProof.Rows.boot_reversed ?_)
 refine PyProof.Rows.callWith_type1 (thn (ha pos2 pins s σ H _ I h) fun us s1 ⟨vs,H1,I1,r1,q1⟩=>?_) h2 h4
 obtain ⟨l,ys,rfl,hq,q⟩:=q1
 obtain ⟨u,rfl,rx⟩:=vals1 r1
 cases rx
 obtain ⟨its,r',pl,hz⟩:=I1.list hq
 have hlen:=r'.length
 refine call_reversed_list pl.isList ?_
 refine Calls.spliced_nil ?_
 obtain ⟨oL,hL1,hL2⟩:=pl.isList
 have kp:∀ b o,s1.heap.get? b = some o→(s1.heap.push (revObj l ((its.toArray.size:Int) - 1))).get? b = some o:=fun b o e=>Heap.get?_push_of_some _ e
 have hI:(s1.heap.push (revObj l ((its.toArray.size:Int) - 1))).get? s1.heap.objs.size = some (revObj l ((its.toArray.size:Int) - 1)):=Heap.get?_push_size _ rfl
 have nl:l≠s1.heap.objs.size:=fun e=>by have:=Heap.lt_size hL1; rw [← e] at this; exact Nat.lt_irrefl _ this
 refine L2.call_list_rev s1.heap.objs.size l (items:=its.toArray) (I.ok.hd hc) ⟨_,hI,rfl,rfl⟩ ⟨oL,kp _ _ hL1,hL2⟩ nl (by simp only [List.size_toArray]; omega) fun s' acc' c' kp' eg ed eo g it=>?_
 obtain ⟨h',g',d',t',o'⟩:=s'
 subst eg; subst ed; subst eo
 have hacc:acc' = its.reverse.toArray:=by
  obtain ⟨i1,i2⟩:=it
  refine Array.ext_getElem? fun j=>?_
  simp only [List.size_toArray] at i1 i2
  rcases Nat.lt_or_ge j its.length with hj | hj
  ·have e1:acc'[j]? = some acc'[j]:=Array.getElem?_eq_getElem (by omega)
   have e2:=i2 j _ e1
   rw [e1,← e2]
   simp only [List.getElem?_toArray]
   rw [List.getElem?_reverse hj]
  ·rw [Array.getElem?_eq_none (by omega),Array.getElem?_eq_none (by simp; omega)]
 subst hacc
 have hsz:s1.heap.objs.size≤(s1.heap.push (revObj l ((its.toArray.size:Int) - 1))).objs.size:=by
  exact Nat.le_of_lt (Heap.lt_size hI)
 refine ⟨.ref _,_,I1.laid (h':=h') (t':=t') (fun b o e=>kp' b o (fun z=>by have:=Heap.lt_size e; rw [← z] at this; exact Nat.lt_irrefl _ this) (kp b o e)) hsz (show ObjOk X.prog X.w _ h' _ (.lst ys.reverse) from ⟨by rw [List.length_reverse]; exact hz,its.reverse,c',ze7 r',g⟩),rfl,q _ (I1.hok.fresh hsz)⟩
end
end L2
namespace L2
open PySem PySem.Spec PyProof.Rows Nm
theorem zhP (xs:List V) (i j:Nat):cutV xs (some (i:Int)) (some (j:Int)) = (xs.drop i).take (j - i):=by
 unfold cutV
 rw [HT.ZQ,HT.ZQ]
 rcases Nat.lt_or_ge i xs.length with h | h
 ·rw [Nat.min_eq_left (a:=i) (Nat.le_of_lt h)]
  rcases Nat.le_total j xs.length with h2 | h2
  ·rw [Nat.min_eq_left h2]
  ·rw [Nat.min_eq_right h2,List.take_of_length_le (by rw [List.length_drop]; omega),List.take_of_length_le (by rw [List.length_drop]; omega)]
 ·rw [Nat.min_eq_right h,List.drop_of_length_le (Nat.le_refl _),List.drop_of_length_le h]; simp
end L2
namespace L2
open PySem PySem.Spec PyProof.Rows Nm
noncomputable def subR (k:Int) (xs ys:List Nb):List Nb:=List.zipWith (nsub k) xs ys
noncomputable def zerN (k:Int) (n:Nat):List Nb:=List.replicate n (nnum k 0)
noncomputable def addW (k:Int) (xs ys:List Nb):List Nb:=List.zipWith (nadd k) xs ys
section
variable {k:Int} (hk:KindOk k) {n:Nat} {x y:List Nb}
include hk
theorem zdy (ox:La.OkR k x) (oy:La.OkR k y):La.OkR k (subR k x y):=fun z hz=>by
 unfold subR at hz
 rw [← List.map_uncurry_zip_eq_zipWith] at hz
 obtain ⟨⟨a,b⟩,hp,rfl⟩:=List.mem_map.mp hz
 exact zaH hk.lt.1 (ox _ (List.of_mem_zip hp).1) (oy _ (List.of_mem_zip hp).2)
theorem zg3 (ox:La.OkR k x) (oy:La.OkR k y):La.OkR k (addW k x y):=fun z hz=>by
 unfold addW at hz
 rw [← List.map_uncurry_zip_eq_zipWith] at hz
 obtain ⟨⟨a,b⟩,hp,rfl⟩:=List.mem_map.mp hz
 exact zgt hk.lt.1 (ox _ (List.of_mem_zip hp).1) (oy _ (List.of_mem_zip hp).2)
section
variable {F:Type} [Lean.Grind.Field F] (φ:La.Kf k F)
theorem zd8 (ox:La.OkR k x) (oy:La.OkR k y) (h:x.length = y.length) (j:Nat):La.nv φ (subR k x y) j = La.nv φ x j - La.nv φ y j :=
 La.zf2 h (fun a b=>a - b) (by grind) (fun a ha b hb=>φ.sub (ox a ha) (oy b hb)) j
theorem zeg (ox:La.OkR k x) (oy:La.OkR k y) (h:x.length = y.length) (j:Nat):La.nv φ (addW k x y) j = La.nv φ x j + La.nv φ y j :=
 La.zf2 h (fun a b=>a + b) (by grind) (fun a ha b hb=>φ.add (ox a ha) (oy b hb)) j
theorem zbJ (s j:Nat):La.nv φ (zerN k s) j = 0:=by
 rcases Nat.lt_or_ge j s with h | h
 ·rw [La.yp φ (x:=nnum k 0) (by unfold zerN; rw [List.getElem?_replicate,if_pos h]),φ.num0]
 ·exact La.qp φ (by unfold zerN; rw [List.length_replicate]; exact h)
end
theorem sub_len (h:x.length = y.length):(subR k x y).length = x.length:=by unfold subR; rw [List.length_zipWith]; omega
theorem zbB (h:x.length = y.length):(addW k x y).length = x.length:=by unfold addW; rw [List.length_zipWith]; omega
section
variable {A C:List (List Nb)} (oA:La.OkM k n A) (lA:A.length = n)
include oA lA
theorem xm (ox:La.OkR k x) (lx:x.length = n):∀ i,La.OkR k (powX k A x i)∧(powX k A x i).length = n
 | 0=>⟨ox,lx⟩
 | i + 1=>by
  obtain ⟨o,l⟩:=xm ox lx i
  obtain ⟨a,b⟩:=La.qO hk oA o
  exact ⟨b,a.trans lA⟩
end
theorem zcc (ox:La.OkR k x) (oy:La.OkR k y) (h:x.length = y.length):La.ndot k x y = La.ndot k y x:=by
 obtain ⟨F,_,_,⟨φ⟩⟩:=La.yl hk
 refine φ.inj (La.yq hk ox oy) (La.yq hk oy ox) ?_
 rw [La.xu φ hk ox oy h,La.xu φ hk oy ox h.symm,h,La.jF]
end
section
variable {k:Int} (hk:KindOk k) {n:Nat}
include hk
end
end L2
namespace L2
open PySem PySem.Spec PyProof.Rows Nm
theorem zbD {k:Int} (hk:KindOk k) {D D' B B':Nat}:∀ (l:List (Nb×Nb)) (s:Nb) (c:Nat),(∀ p∈l,La.dB D B p.1∧La.dB D' B' p.2∧p.1.ok k∧p.2.ok k)→s.ok k→La.dB (D * D') c s→La.dB (D * D') (c + l.length * (B * B')) (l.foldl (fun s p=>nadd k s (nmul k p.1 p.2)) s)
 | [],s,c,_,_,h=>by rw [List.length_nil,Nat.zero_mul]; exact h
 | p :: l,s,c,hp,os,h=>by
  obtain ⟨h1,h2,o1,o2⟩:=hp p List.mem_cons_self
  have om:=La.ym hk o1 o2
  have:=zbD hk l (nadd k s (nmul k p.1 p.2)) (c + B * B') (fun q hq=>hp q (List.mem_cons_of_mem _ hq)) (La.yJ hk os om) (h.add (h1.mul h2 o1 o2) os om)
  rw [List.foldl_cons]
  refine this.mono ?_
  rw [List.length_cons,Nat.add_mul,Nat.one_mul]; omega
theorem zd0 {k:Int} (hk:KindOk k) {D D' B B' n:Nat} {x y:List Nb} (ox:La.OkR k x) (oy:La.OkR k y) (lx:x.length = n) (hx:∀ u∈x,La.dB D B u) (hy:∀ u∈y,La.dB D' B' u):La.dB (D * D') (n * (B * B')) (La.ndot k x y):=by
 unfold La.ndot La.ndotF
 have h:=zbD hk (x.zip y) (nnum k 0) 0 (fun p hp=>⟨hx _ (List.of_mem_zip hp).1,hy _ (List.of_mem_zip hp).2,ox _ (List.of_mem_zip hp).1,oy _ (List.of_mem_zip hp).2⟩) (La.zI hk 0) (La.dB.num (by simp))
 refine h.mono ?_
 rw [Nat.zero_add]
 refine Nat.mul_le_mul_right _ ?_
 rw [List.length_zip]; omega
theorem Qe {k:Int} (hk:KindOk k) {n T C D:Nat} {A:List (List Nb)} {x:List Nb} (n4:n≤4) (oA:La.OkM k n A) (d0:D≠0) (dl:D < 2 ^ T) (dA:∀ r∈A,La.rowD D T r) (ox:La.OkR k x) (hx:La.rowB C x):La.rowB (T + C + 2) (imgM k A x):=by
 obtain ⟨d,e0,el,hd⟩:=hx
 have p1:=Nat.two_pow_pos T
 have p2:=Nat.two_pow_pos C
 have e:2 ^ (T + C + 2) = 2 ^ T * 2 ^ C * 4:=by rw [Nat.pow_add,Nat.pow_add]
 have pm:0 < 2 ^ T * 2 ^ C:=Nat.mul_pos p1 p2
 refine ⟨D * d,Nat.mul_ne_zero d0 e0,?_,fun y hy=>?_⟩
 ·rw [e]
  have:D * d≤2 ^ T * 2 ^ C:=Nat.mul_le_mul (Nat.le_of_lt dl) (Nat.le_of_lt el)
  omega
 ·unfold imgM at hy
  obtain ⟨r,hr,rfl⟩:=List.mem_map.mp hy
  refine (zd0 hk (oA r hr).2 ox (oA r hr).1 (dA r hr) hd).mono ?_
  rw [e]
  have h1:(2 ^ T - 1) * (2 ^ C - 1)≤(2 ^ T - 1) * 2 ^ C:=Nat.mul_le_mul_left _ (by omega)
  have h2:(2 ^ T - 1) * 2 ^ C = 2 ^ T * 2 ^ C - 2 ^ C:=by rw [Nat.sub_mul,Nat.one_mul]
  have h3:n * ((2 ^ T - 1) * (2 ^ C - 1))≤4 * (2 ^ T * 2 ^ C - 2 ^ C):=Nat.mul_le_mul n4 (by omega)
  omega
theorem zgJ {k:Int} {r n m:Nat} {M:List (List Nb)} (m1:1≤m) (h:TOk k r n m M):∃ D:Nat,D≠0∧D < 2 ^ (r * ((n + 1) * m) + 1)∧∀ x∈M,La.rowD D (r * ((n + 1) * m) + 1) x:=by
 obtain ⟨D,d0,dl,hd⟩:=za6 (k:=k) (n:=n) (zeJ m1 h)
 rw [h.len] at dl hd
 have e:2 ^ (r * ((n + 1) * m) + 1) = 2 ^ (r * ((n + 1) * m)) * 2:=Nat.pow_succ ..
 have:=Nat.two_pow_pos (r * ((n + 1) * m))
 exact ⟨D,d0,by omega,fun x hx y hy=>(hd x hx y hy).mono (by omega)⟩
theorem Xh {k:Int} {B:Nat} {x:List Nb} (k0:k≠0) (ox:La.OkR k x) (b1:1≤B):La.rowB B x:=Jb (k:=k) (n:=x.length) (M:=[x]) k0 (fun r hr=>by rw [List.mem_singleton.mp hr]; exact ⟨rfl,ox⟩) b1 x List.mem_cons_self
theorem fit3 {k:Int} {n:Nat} (hf:Fit k n):n≤3∨k≠0:=by
 rcases hf.2 with h | h
 ·exact .inl h
 ·exact .inr h.1
theorem YX {k:Int} (hk:KindOk k) {r n C:Nat} {A:List (List Nb)} {x:List Nb} (hf:k≠0∨(r≤3∧n≤3)) (hA:TOk k r n 80 A) (ox:La.OkR k x) (hx:La.rowB C x):La.rowB (C + 963) (imgM k A x):=by
 rcases hf with h | ⟨h1,h2⟩
 ·exact Xh h (La.qO hk hA.ok ox).2 (by omega)
 ·obtain ⟨D,d0,dl,hd⟩:=zgJ (by decide) hA
  have le:r * ((n + 1) * 80)≤3 * (4 * 80):=Nat.mul_le_mul h1 (Nat.mul_le_mul_right _ (by omega))
  exact (Qe hk (by omega) hA.ok d0 dl hd ox hx).mono (by omega)
theorem qi {k:Int} (hk:KindOk k) {n C:Nat} {A:List (List Nb)} {x:List Nb} (hf:Fit k n) (hA:TOk k n n 80 A) (ox:La.OkR k x) (lx:x.length = n) (hx:La.rowB C x):∀ t,La.rowB (C + t * 963) (powX k A x t)
 | 0=>hx.mono (by omega)
 | t + 1=>by
  have ih:=qi hk hf hA ox lx hx t
  have o:=xm hk hA.ok hA.len ox lx t
  exact (YX hk (by rcases fit3 hf with h | h; exact .inr ⟨h,h⟩; exact .inl h) hA o.1 ih).mono (by omega)
theorem zbh {D B d C:Nat} {x:Nb} (h:La.dB D (2 ^ B - 1) x) (dl:d < 2 ^ C):La.dB (d * D) (2 ^ C * (2 ^ B - 1)) x:=h.up d (2 ^ C) (Nat.le_of_lt dl)
theorem zbn {k:Int} {C C':Nat} {x y:List Nb} {f:Nb→Nb→Nb} (hf:∀ (D B B':Nat) (u v:Nb),u∈x→v∈y→La.dB D B u→La.dB D B' v→La.dB D (B + B') (f u v)) (hx:La.rowB C x) (hy:La.rowB C' y):La.rowB (C + C' + 1) (List.zipWith f x y):=by
 obtain ⟨d,d0,dl,hd⟩:=hx
 obtain ⟨e,e0,el,he⟩:=hy
 have p1:=Nat.two_pow_pos C
 have p2:=Nat.two_pow_pos C'
 have ee:2 ^ (C + C' + 1) = 2 ^ C * 2 ^ C' * 2:=by rw [Nat.pow_add,Nat.pow_add]
 have pm:0 < 2 ^ C * 2 ^ C':=Nat.mul_pos p1 p2
 refine ⟨e * d,Nat.mul_ne_zero e0 d0,?_,fun z hz=>?_⟩
 ·rw [ee]
  have:e * d≤2 ^ C' * 2 ^ C:=Nat.mul_le_mul (Nat.le_of_lt el) (Nat.le_of_lt dl)
  rw [Nat.mul_comm (2 ^ C')] at this
  omega
 ·rw [← List.map_uncurry_zip_eq_zipWith] at hz
  obtain ⟨⟨u,v⟩,hp,rfl⟩:=List.mem_map.mp hz
  have m1:=(List.of_mem_zip hp).1
  have m2:=(List.of_mem_zip hp).2
  have h1:=zbh (hd u m1) el
  have h2:=zbh (he v m2) dl
  rw [Nat.mul_comm d e] at h2
  refine (hf _ _ _ u v m1 m2 h1 h2).mono ?_
  rw [ee]
  have a1:2 ^ C' * (2 ^ C - 1) = 2 ^ C * 2 ^ C' - 2 ^ C':=by rw [Nat.mul_sub,Nat.mul_one,Nat.mul_comm]
  have a2:2 ^ C * (2 ^ C' - 1) = 2 ^ C * 2 ^ C' - 2 ^ C:=by rw [Nat.mul_sub,Nat.mul_one]
  omega
theorem zh3 {k:Int} {D B B':Nat} {x y:Nb} (hx:La.dB D B x) (hy:La.dB D B' y) (ox:x.ok k) (oy:y.ok k):La.dB D (B + B') (nsub k x y):=by
 cases x with
 | q r =>
  cases y with
  | q s =>
   obtain ⟨a,ea,ha⟩:=hx
   obtain ⟨b,eb,hb⟩:=hy
   refine ⟨a - b,?_,?_⟩
   ·rw [Rat.intCast_sub,← ea,← eb]
    grind
   ·have:=Int.natAbs_sub_le a b; omega
  | z j=>exact absurd (show k = 0 from ox) oy.1
 | z i =>
  cases y with
  | q s=>exact absurd (show k = 0 from oy) ox.1
  | z j=>trivial
theorem zfN {k:Int} {C C':Nat} {x y:List Nb} (ox:La.OkR k x) (oy:La.OkR k y) (hx:La.rowB C x) (hy:La.rowB C' y):La.rowB (C + C' + 1) (subR k x y):=zbn (k:=k) (fun _ _ _ u v m1 m2 h1 h2=>zh3 h1 h2 (ox u m1) (oy v m2)) hx hy
theorem zff {k:Int} {C C':Nat} {x y:List Nb} (ox:La.OkR k x) (oy:La.OkR k y) (hx:La.rowB C x) (hy:La.rowB C' y):La.rowB (C + C' + 1) (addW k x y):=zbn (k:=k) (fun _ _ _ u v m1 m2 h1 h2=>h1.add h2 (ox u m1) (oy v m2)) hx hy
theorem xx {k:Int} (hk:KindOk k) {C:Nat} {x:List Nb} (ox:La.OkR k x) (h:La.rowB C x) (c7:61≤C):∀ y∈x,nsm C y:=QT hk (n:=x.length) (W:=[x]) (fun r hr=>by rw [List.mem_singleton.mp hr]; exact ⟨rfl,ox⟩) (fun r hr=>by rw [List.mem_singleton.mp hr]; exact h) c7 x List.mem_cons_self
theorem XT {k:Int} {n m:Nat} {x:List Nb} (m1:1≤m) (lx:x.length = n) (hf:Fit k n) (ox:La.OkR k x) (sx:∀ y∈x,szk k m y):La.rowB (4 * m) x:=by
 by_cases k0:k = 0
 ·have n3:n≤3:=by rcases fit3 hf with h | h; exact h; exact absurd k0 h
  exact (xP (k:=k) m1 ⟨lx,ox,fun y hy=>sx y hy k0⟩).mono (Nat.mul_le_mul_right _ (by omega))
 ·exact Xh k0 ox (by omega)
noncomputable def kr0 (k:Int) (A B:List (List Nb)):Nat→List (List Nb)
 | 0=>[]
 | t + 1=>La.kry k A B t
theorem zbm {k:Int} {A B:List (List Nb)} {b:List Nb} (hb:b∈B):∀ (t j:Nat),j≤t→powX k A b j∈La.kry k A B t
 | 0,0,_=>hb
 | 0,j + 1,h=>by omega
 | t + 1,0,_=>List.mem_append_left _ hb
 | t + 1,j + 1,h=>List.mem_append_right _ (List.mem_map.mpr ⟨powX k A b j,zbm hb t j (by omega),rfl⟩)
end L2
namespace L2
open PySem PySem.Spec PyProof.Rows Nm
section
variable {k:Int} (hk:KindOk k) {n s z:Nat} (z7:61≤z) {A C:List (List Nb)} (hA:TOk k n n z A) (hC:TOk k s n z C)
include hk z7 hA hC
end
theorem zfD {C C':Nat} {x y:List Nb} (hx:La.rowB C x) (hy:La.rowB C' y):La.rowB (C + C') (x ++ y):=by
 obtain ⟨d,d0,dl,hd⟩:=hx
 obtain ⟨e,e0,el,he⟩:=hy
 have p1:=Nat.two_pow_pos C
 have p2:=Nat.two_pow_pos C'
 have ee:2 ^ (C + C') = 2 ^ C * 2 ^ C':=Nat.pow_add ..
 refine ⟨e * d,Nat.mul_ne_zero e0 d0,?_,fun z hz=>?_⟩
 ·rw [ee,Nat.mul_comm (2 ^ C)]
  exact Nat.mul_lt_mul'' el dl
 ·have a1:2 ^ C' * (2 ^ C - 1) = 2 ^ C * 2 ^ C' - 2 ^ C':=by rw [Nat.mul_sub,Nat.mul_one,Nat.mul_comm]
  have a2:2 ^ C * (2 ^ C' - 1) = 2 ^ C * 2 ^ C' - 2 ^ C:=by rw [Nat.mul_sub,Nat.mul_one]
  rcases List.mem_append.mp hz with h | h
  ·refine (zbh (hd z h) el).mono ?_
   rw [ee]; omega
  ·have h2:=zbh (he z h) dl
   rw [Nat.mul_comm d e] at h2
   refine h2.mono ?_
   rw [ee]; omega
theorem zfI {k:Int} {m:Nat} {y:Nb} (m1:1≤m) (oy:y.ok k) (h:nsm m y):La.rowB (2 * m) [y]:=xP (k:=k) (n:=1) m1 ⟨rfl,fun z hz=>by rw [List.mem_singleton.mp hz]; exact oy,fun z hz=>by rw [List.mem_singleton.mp hz]; exact h⟩
theorem Qv {k:Int} {C m:Nat} {M:List (List Nb)} {b:List Nb} (m1:1≤m) (hM:La.rowsB C M) (ob:La.OkR k b) (hb:∀ y∈b,nsm m y):La.rowsB (C + 2 * m) (La.augR M b):=fun r hr=>by
 unfold La.augR at hr
 obtain ⟨i,hi,e⟩:=List.getElem_of_mem hr
 rw [List.getElem_zipWith] at e
 rw [← e]
 exact zfD (hM _ (List.getElem_mem _)) (zfI m1 (ob _ (List.getElem_mem _)) (hb _ (List.getElem_mem _)))
end L2
namespace L2
open Nm
end L2
namespace L2
open PySem PySem.Spec PyProof.Rows Nm
theorem zbG {α β:Type} {R:α→β→Prop} {xs:List α} {ys:List β} (h:Paired R xs ys) (n:Nat):Paired R (xs.take n) (ys.take n):=by
 have l:=zj h
 refine Yl (by rw [List.length_take,List.length_take,l]) fun i x a h1 h2=>?_
 rw [List.getElem?_take] at h1 h2
 split at h1
 ·rename_i hi
  rw [if_pos hi] at h2
  exact xY h h1 h2
 ·cases h1
end L2
namespace L2
open PySem PySem.Spec PyProof.Rows Nm
noncomputable def Itr3 (lo c:Int) (n:Nat):It:=⟨fun i _=>i < n,fun i H x H'=>H' = H∧x = .int (lo + i * c),fun i _=>n≤i⟩
theorem za9 {P:Program} {w:World} {K:PySem.W.Frag} {tg:Expr} (it:Addr) (lo c:Int) (n:Nat):Turn P w K tg (Itr3 lo c n) [it] it (fun i h=>IsRangeIter h it (lo + (i:Nat) * c) ((n:Int) - (i:Nat)) c) where
 mem:=by simp
 obj:=fun i h st b hb=>by
  have e:b = it:=by simpa using hb
  subst e
  exact ⟨_,st,fun v z=>by
   have z':Data.fields _ = Data.cell v:=z
   cases z'⟩
 keep:=fun i h h' st k=>k it (by simp) _ st
 item:=by
  intro X hP hw hK hc i pins s σ H E I hf st hg
  subst hP hw hK
  obtain ⟨f0,f1,f2,f3,f4,f5⟩:=hf it (by simp)
  have W:=Walks.range (prog:=X.prog) (w:=X.w) (I.ok.hd hc) it lo c n
  refine W.item i s _ _ hg st fun v h' tk hv st' kk=>?_
  obtain ⟨t,rfl⟩:=hv
  have I1:Inv X pins σ H { s with heap:=h',toks:=tk }:=I.turned (fun b o hb e=>kk b o (by simpa using hb) e) f0 f1 f3 f4 f5
  exact ⟨_,rfl,zfb (s:={ s with heap:=h',toks:=tk }) (n := "range_iterator") st' rfl rfl (by decide) ⟨.int (lo + i * c),H,I1,⟨t,rfl⟩,⟨rfl,rfl⟩,st',fun b hb=>(hf b hb).1⟩⟩
 done:=by
  intro X hP hw hK hc i pins s σ H E I hf st hg
  subst hP hw hK
  obtain ⟨f0,f1,f2,f3,f4,f5⟩:=hf it (by simp)
  exact wpAny_pyNext_range_end (I.ok.hd hc) st (by have:n≤i:=hg; omega) fun h' eb=>⟨rfl,I.turned (t':=s.toks) (fun b o hb e=>eb b o hb e) f0 f1 f3 f4 f5⟩
 self:=fun _ _ _ _ _ st h=>wpAny_pyIter_rangeiter st h
section
variable {X:Cx} {tg:Expr}
theorem zb4 {a b c:Int} {n:Nat} (ha:0≤a) (ha':a≤1000000) (hb:0≤b) (hb':b≤1000000) (hc:1≤c) (hc':c≤1000000) (hn:Builtin.Range.rangeSize a b c = (n:Int)) (hn':n≤1000000):Builtin.Range.small a b c = true:=by
 unfold Builtin.Range.small
 rw [hn]
 simp only [Builtin.Range.rangeFitsLong,Bool.and_eq_true,Bool.or_eq_true,decide_eq_true_eq,beq_iff_eq,show c > 0 by omega,if_true]
 omega
noncomputable def iRng3 (ta:TA):TI:=fun σ H R=>ta σ H fun vs H1=>∃ (i j c:Int) (n:Nat),vs = [.int i,.int j,.int c]∧(0≤i∧i≤1000000∧0≤j∧j≤1000000∧1≤c∧c≤1000000)∧Builtin.Range.rangeSize i j c = (n:Int)∧n≤1000000∧R (Itr3 i c n) H1
theorem zdB {a b d:Expr} {ta:TA} {p pos:Pos} (hg:Gl X "range") (hm:X.mg "range" = none) (ha:PA X [a,b,d] ta) (hs:starEach [a,b,d] X.env = [(false,eval a X.env),(false,eval b X.env),(false,eval d X.env)]:=by rfl) (hs2:starEach [b,d] X.env = [(false,eval b X.env),(false,eval d X.env)]:=by rfl) :
  PI X tg (.Call (.Name "range" p) [a,b,d] [] pos) (iRng3 ta):=by
 intro pins s σ H R I h
 refine Call_ (ZU I hg hm boot_range (PyProof.Rows.callWith_type1 (thn (ha pos pins s σ H _ I h) fun us s1 ⟨vs,H1,I1,r1,q1⟩=>?_) (by rw [hs,hs2]) (by rw [hs2]; rfl)))
 obtain ⟨i,j,c,n,e,⟨q1,q2,q3,q4,q5,q6⟩,hn,hn',q⟩:=q1
 subst e
 cases r1 with
 | cons r rr =>
  cases rr with
  | cons r' rr =>
   cases rr with
   | cons r'' rr =>
    cases rr
    obtain ⟨t,rfl⟩:=r
    obtain ⟨t',rfl⟩:=r'
    obtain ⟨t'',rfl⟩:=r''
    refine call_range_3 (by omega) ?_ (.inl (PyProof.noPylong_small (by omega)))
    refine wpAny_pyIter_range (IsRange.new ..) (zb4 q1 q2 q3 q4 q5 q6 hn hn') ?_
    generalize hob:({ cls:=.type "range",data:=.fields #[.int i t,.int j t',.int c t''] }:Obj) = ob
    have I2:Inv X pins σ H1 { s1 with heap:=s1.heap.push ob }:=I1.kept fun b o e=>Heap.get?_push_of_some _ e
    refine ⟨(s1.heap.push ob).objs.size,[(s1.heap.push ob).objs.size],_,_,H1,rfl,I2.kept (t':=s1.toks) fun b o e=>Heap.get?_push_of_some _ e,za9 _ i c n,?_,fun b hb=>?_,q⟩
    ·have e1:i + ((0:Nat):Int) * c = i:=by simp
     have e2:((n:Nat):Int) - ((0:Nat):Int) = Builtin.Range.rangeSize i j c:=by rw [hn]; simp
     show IsRangeIter _ _ (i + ((0:Nat):Int) * c) (((n:Nat):Int) - ((0:Nat):Int)) c
     rw [e1,e2]
     exact Heap.get?_push_size _ rfl
    ·have e:b = (s1.heap.push ob).objs.size:=by simpa using hb
     subst e
     exact I2.fpOk (Nat.le_refl _) (I2.hok.fresh (Nat.le_refl _))
theorem zdT {u h:Nat} (h1:1≤h):Builtin.Range.rangeSize 1 ((1 + u * h:Nat):Int) (h:Int) = (u:Int):=by
 unfold Builtin.Range.rangeSize
 rw [if_pos (by omega)]
 rcases Nat.eq_zero_or_pos u with e | e
 ·subst e; rw [if_neg (by simp)]; rfl
 ·have le:1 * h≤u * h:=Nat.mul_le_mul_right _ e
  rw [if_pos (by omega)]
  have:((1 + u * h:Nat):Int) - 1 - 1 = ((h - 1:Nat):Int) + ((u - 1:Nat):Int) * (h:Int):=by
   have e2:u * h = (u - 1) * h + h:=by rw [← Nat.succ_mul]; congr 1; omega
   rw [e2]; push_cast; omega
  rw [this,Int.add_mul_ediv_right _ _ (by omega),Int.ediv_eq_zero_of_lt (by omega) (by omega)]
  omega
end
theorem zaM {g:TG} {tt:TT} {te:TE} {R:List V→Hp→Prop} {H:Hp} {σb:L2.St} {lo c:Int} {n:Nat} (J:Nat→List V→Hp→Prop) (h0:J 0 [] H) (hl:∀ (i:Nat) (ys:List V) (H':Hp),i≤n→J i ys H'→ys.length < sizeLine)
  (hs:∀ (i:Nat) (ys:List V) (H':Hp),i < n→J i ys H'→g (.int (lo + i * c)) σb H' fun σ2 H2=>tt σ2 H2 fun b H3=>if b = true then te σ2 H3 fun y H4=>Nxt n i (J (i + 1) (ys ++ [y]) H4) else Nxt n i (J (i + 1) ys H3))
  (hd:∀ (ys:List V) (H':Hp),J n ys H'→R ys H') :
  ∃ W:Nat→Nat→List V→Hp→Prop,(∃ m,W 0 m [] H)∧∀ i m ys H,W i m ys H →
   ((Itr3 lo c n).stop i H∧ys.length≤sizeLine∧R ys H) ∨
   ((Itr3 lo c n).go i H∧ys.length < sizeLine∧∀ x H',(Itr3 lo c n).yld i H x H'→g x σb H' fun σ2 H2=>tt σ2 H2 fun b H3=>if b = true then te σ2 H3 fun y H4=>∃ m',m' < m∧W (i + 1) m' (ys ++ [y]) H4 else ∃ m',m' < m∧W (i + 1) m' ys H3):=by
 refine ⟨fun i m ys H=>m = n - i∧i≤n∧J i ys H,⟨n,by simp,Nat.zero_le _,h0⟩,?_⟩
 rintro i m ys H1 ⟨rfl,hi,j⟩
 have hz:=hl i ys H1 hi j
 by_cases hlt:i < n
 ·refine .inr ⟨hlt,hz,fun x H' y=>?_⟩
  obtain ⟨e,y⟩:=y
  subst e y
  exact hs i ys _ hlt j
 ·have e:i = n:=by omega
  subst e
  exact .inl ⟨Nat.le_refl _,Nat.le_of_lt hz,hd ys H1 j⟩
end L2
namespace L2
open PySem PySem.Spec PyProof.Rows Nm
theorem yB {k:Int} (hk:KindOk k) {n:Nat} {M:List (List Nb)} {x:List Nb} (oM:La.OkM k n M) (ox:La.OkR k x):(imgM k M x).length = M.length∧La.OkR k (imgM k M x):=La.qO hk oM ox
theorem yW {k:Int} {F:Type} [Lean.Grind.Field F] {φ:La.Kf k F} (hk:KindOk k) {n:Nat} {A:List (List Nb)} {x:List Nb} (oA:La.OkM k n A) (ox:La.OkR k x) (lx:x.length = n) (i:Nat):La.nv φ (imgM k A x) i = La.limg φ n A (La.nv φ x) i:=La.zdw hk oA ox lx i
theorem snocInd {α:Type} {P:List α→Prop} (h0:P []) (hs:∀ V u,P V→P (V ++ [u])) (V:List α):P V:=by
 rw [← List.reverse_reverse V]
 induction V.reverse with
 | nil=>exact h0
 | cons u V ih=>rw [List.reverse_cons]; exact hs _ u ih
noncomputable def blkT (k:Int) (h:Nat) (A B:List (List Nb)):Nat→List (List Nb)
 | 0=>B
 | t + 1=>prodM k h A (blkT k h A B t)
noncomputable def mvT (k:Int) (n h:Nat) (A B:List (List Nb)):Nat→List (List Nb)
 | 0=>nulT k n 1
 | t + 1=>augM (mvT k n h A B t) (blkT k h A B t)
noncomputable def stR (k:Int) (A B:List (List Nb)) (x:List Nb):List (List Nb)→List Nb
 | []=>x
 | u :: V=>addW k (imgM k A (stR k A B x V)) (imgM k B u)
section
variable {k:Int} {F:Type} [Lean.Grind.Field F]
noncomputable def SV (φ:La.Kf k F) (n h:Nat) (A B:List (List Nb)):List (List Nb)→Nat→F
 | []=>fun _=>0
 | u :: V=>fun j=>La.limg φ h B (La.nv φ u) j + La.limg φ n A (SV φ n h A B V) j
theorem js {φ:La.Kf k F} {n:Nat} {A:List (List Nb)} {u v:Nat→F} (h:∀ j,u j = v j) (i:Nat):La.limg φ n A u i = La.limg φ n A v i:=by
 have:u = v:=funext h
 rw [this]
theorem zb0 {φ:La.Kf k F} {n:Nat} (A:List (List Nb)) (u v:Nat→F) (i:Nat):La.limg φ n A (fun j=>u j + v j) i = La.limg φ n A u i + La.limg φ n A v i:=by
 have:=La.Qo (φ:=φ) (n:=n) A 1 u v i
 rw [js (v:=fun j=>1 * u j + v j) (fun j=>by grind),this]
 grind
variable (hk:KindOk k) {n h s m:Nat} {A B C:List (List Nb)} (hM:MOk k n h s m A B C)
include hk hM
theorem Qd (φ:La.Kf k F) {u:List Nb} (ou:La.OkR k u) (lu:u.length = h):∀ (V:List (List Nb)) (j:Nat),SV φ n h A B (V ++ [u]) j = SV φ n h A B V j + La.nv φ (powX k A (imgM k B u) V.length) j
 | [],j=>by
  show La.limg φ h B (La.nv φ u) j + La.limg φ n A (fun _=>0) j = 0 + La.nv φ (imgM k B u) j
  rw [La.jm,yW hk hM.b.ok ou lu]
  grind
 | v :: V,j=>by
  have oi:=yB hk hM.b.ok ou
  have li:(imgM k B u).length = n:=oi.1.trans hM.b.len
  have op:=xm hk hM.a.ok hM.a.len oi.2 li V.length
  show La.limg φ h B (La.nv φ v) j + La.limg φ n A (SV φ n h A B (V ++ [u])) j = La.limg φ h B (La.nv φ v) j + La.limg φ n A (SV φ n h A B V) j + La.nv φ (imgM k A (powX k A (imgM k B u) V.length)) j
  rw [js (Qd φ ou lu V),zb0,yW hk hM.a.ok op.1 op.2]
  grind
theorem XB {x:List Nb} (ox:La.OkR k x) (lx:x.length = n):∀ (V:List (List Nb)),(∀ u∈V,u.length = h∧La.OkR k u)→La.OkR k (stR k A B x V)∧(stR k A B x V).length = n
 | [],_=>⟨ox,lx⟩
 | u :: V,hV=>by
  obtain ⟨o,l⟩:=XB ox lx V fun u hu=>hV u (List.mem_cons_of_mem _ hu)
  have ou:=hV u List.mem_cons_self
  have o1:=yB hk hM.a.ok o
  have o2:=yB hk hM.b.ok ou.2
  have l1:(imgM k A (stR k A B x V)).length = n:=o1.1.trans hM.a.len
  have l2:(imgM k B u).length = n:=o2.1.trans hM.b.len
  exact ⟨zg3 hk o1.2 o2.2,(zbB hk (l1.trans l2.symm)).trans l1⟩
theorem zby (φ:La.Kf k F) {x:List Nb} (ox:La.OkR k x) (lx:x.length = n):∀ (V:List (List Nb)),(∀ u∈V,u.length = h∧La.OkR k u)→∀ j,La.nv φ (stR k A B x V) j = SV φ n h A B V j + La.nv φ (powX k A x V.length) j
 | [],_,j=>by show La.nv φ x j = 0 + La.nv φ x j; grind
 | u :: V,hV,j=>by
  have hV':∀ u∈V,u.length = h∧La.OkR k u:=fun u hu=>hV u (List.mem_cons_of_mem _ hu)
  obtain ⟨o,l⟩:=XB hk hM ox lx V hV'
  have ou:=hV u List.mem_cons_self
  have o1:=yB hk hM.a.ok o
  have o2:=yB hk hM.b.ok ou.2
  have l1:(imgM k A (stR k A B x V)).length = n:=o1.1.trans hM.a.len
  have l2:(imgM k B u).length = n:=o2.1.trans hM.b.len
  have op:=xm hk hM.a.ok hM.a.len ox lx V.length
  show La.nv φ (addW k (imgM k A (stR k A B x V)) (imgM k B u)) j = La.limg φ h B (La.nv φ u) j + La.limg φ n A (SV φ n h A B V) j + La.nv φ (imgM k A (powX k A x V.length)) j
  rw [zeg hk φ o1.2 o2.2 (l1.trans l2.symm),yW hk hM.a.ok o l,yW hk hM.b.ok ou.2 ou.1,js (zby φ ox lx V hV'),zb0,yW hk hM.a.ok op.1 op.2]
  grind
theorem zbv (φ:La.Kf k F) (V:List (List Nb)):∀ (t j:Nat),SV φ n h A B (V ++ List.replicate t (zerN k h)) j = SV φ n h A B V j
 | 0,j=>by rw [List.replicate_zero,List.append_nil]
 | t + 1,j=>by
  have oz:La.OkR k (zerN k h):=fun y hy=>by rw [List.eq_of_mem_replicate hy]; exact La.zI hk 0
  have lz:(zerN k h).length = h:=by unfold zerN; exact List.length_replicate
  rw [List.replicate_succ',← List.append_assoc,Qd hk hM φ oz lz,zbv φ V t j]
  have oi:=yB hk hM.b.ok oz
  have li:(imgM k B (zerN k h)).length = n:=oi.1.trans hM.b.len
  have z0:imgM k B (zerN k h) = zerN k n:=by
   refine La.zbT φ oi.2 (fun y hy=>by rw [List.eq_of_mem_replicate hy]; exact La.zI hk 0) (li.trans (by unfold zerN; exact List.length_replicate.symm)) fun j=>?_
   rw [yW hk hM.b.ok oz lz,zbJ hk φ,js (zbJ hk φ h),La.jm]
  rw [z0]
  have ozn:La.OkR k (zerN k n):=fun y hy=>by rw [List.eq_of_mem_replicate hy]; exact La.zI hk 0
  have lzn:(zerN k n).length = n:=by unfold zerN; exact List.length_replicate
  have key:∀ i j,La.nv φ (powX k A (zerN k n) i) j = 0:=fun i=>by
   induction i with
   | zero=>exact zbJ hk φ n
   | succ i ih =>
    intro j
    have op:=xm hk hM.a.ok hM.a.len ozn lzn i
    rw [show powX k A (zerN k n) (i + 1) = imgM k A (powX k A (zerN k n) i) from rfl,yW hk hM.a.ok op.1 op.2,js ih,La.jm]
  rw [key]; grind
theorem zfv (φ:La.Kf k F) {u:List Nb} (ou:La.OkR k u) (lu:u.length = h):La.Rm φ (transp h B) (La.nv φ (imgM k B u)):=by
 have key:∀ l,l≤h→La.Rm φ (transp h B) (fun i=>La.dot l (La.nv φ (B.getD i [])) (La.nv φ u)):=fun l=>by
  induction l with
  | zero=>intro _; exact .zero
  | succ l ih =>
   intro hl
   have hm:(B.map fun r=>r.getD l (.z 0))∈transp h B:=by
    unfold transp
    exact List.mem_map.mpr ⟨l,List.mem_range.mpr (by omega),rfl⟩
   refine (La.Span.step (La.nv φ u l) ⟨_,hm,rfl⟩ (ih (by omega))).cast fun i=>?_
   show La.nv φ u l * La.nv φ (B.map fun r=>r.getD l (.z 0)) i + La.dot l (La.nv φ (B.getD i [])) (La.nv φ u) = La.dot (l + 1) (La.nv φ (B.getD i [])) (La.nv φ u)
   have e:La.nv φ (B.map fun r=>r.getD l (.z 0)) i = La.nv φ (B.getD i []) l:=by
    rcases Nat.lt_or_ge i B.length with hi | hi
    ·rw [La.zfp φ hM.b.ok (by omega) (List.getElem?_eq_getElem hi),List.getD_eq_getElem?_getD,List.getElem?_eq_getElem hi]; rfl
    ·rw [La.qp φ (by rw [List.length_map]; exact hi),List.getD_eq_getElem?_getD,List.getElem?_eq_none hi]
     exact (La.zga l).symm
   rw [e]
   show _ = La.dot l (La.nv φ (B.getD i [])) (La.nv φ u) + La.nv φ (B.getD i []) l * La.nv φ u l
   grind
 refine (key h (Nat.le_refl _)).cast fun i=>?_
 rw [yW hk hM.b.ok ou lu]; rfl
theorem zb1 (φ:La.Kf k F) {u:List Nb} (ou:La.OkR k u) (lu:u.length = h):∀ i,La.Rm φ ((transp h B).map fun c=>powX k A c i) (La.nv φ (powX k A (imgM k B u) i))
 | 0=>by rw [show ((transp h B).map fun b=>powX k A b 0) = transp h B from List.map_id' _]; exact zfv hk hM φ ou lu
 | i + 1=>by
  have oT:=XZ hM.b
  have oi:=yB hk hM.b.ok ou
  have li:(imgM k B u).length = n:=oi.1.trans hM.b.len
  have op:=xm hk hM.a.ok hM.a.len oi.2 li i
  have oN:La.OkM k n ((transp h B).map fun c=>powX k A c i):=fun r hr=>by
   obtain ⟨c,hc,rfl⟩:=List.mem_map.mp hr
   have o:=xm hk hM.a.ok hM.a.len (oT.ok c hc).2 (oT.ok c hc).1 i
   exact ⟨o.2,o.1⟩
  have em:((transp h B).map fun c=>powX k A c (i + 1)) = ((transp h B).map fun c=>powX k A c i).map (La.imgR k A):=by rw [List.map_map]; rfl
  rw [em]
  refine (La.Rm.img hk hM.a.ok oN).mpr ⟨_,zb1 φ ou lu i,fun j=>?_⟩
  rw [show powX k A (imgM k B u) (i + 1) = imgM k A (powX k A (imgM k B u) i) from rfl,yW hk hM.a.ok op.1 op.2]
theorem zgv (φ:La.Kf k F):∀ (V:List (List Nb)),(∀ u∈V,u.length = h∧La.OkR k u)→∀ t,V.length≤t→La.Rm φ (kr0 k A (transp h B) t) (SV φ n h A B V):=fun V=>by
 refine snocInd (P:=fun V=>(∀ u∈V,u.length = h∧La.OkR k u)→∀ t,V.length≤t→La.Rm φ (kr0 k A (transp h B) t) (SV φ n h A B V)) ?_ ?_ V
 ·intro _ t _; exact .zero
 ·intro V u ih hV t ht
  rw [List.length_append,List.length_singleton] at ht
  have hu:=hV u (List.mem_append_right _ List.mem_cons_self)
  have h1:=ih (fun u hu=>hV u (List.mem_append_left _ hu)) t (by omega)
  have h2:La.Rm φ (kr0 k A (transp h B) t) (La.nv φ (powX k A (imgM k B u) V.length)):=by
   refine (zb1 hk hM φ hu.2 hu.1 V.length).mono fun v ⟨r,hr,e⟩=>⟨r,?_,e⟩
   obtain ⟨c,hc,rfl⟩:=List.mem_map.mp hr
   obtain ⟨t',rfl⟩ : ∃ t',t = t' + 1:=⟨t - 1,by omega⟩
   exact zbm hc t' V.length (by omega)
  exact (h1.add h2).cast fun j=>(Qd hk hM φ hu.2 hu.1 V j).symm
end
section
variable {k:Int} (hk:KindOk k) {n h s m:Nat} {A B C:List (List Nb)} (hM:MOk k n h s m A B C)
theorem zhc (hk:KindOk k) {a b:Nat} {M N:List (List Nb)} {x y:List Nb} (oM:La.OkM k a M) (oN:La.OkM k b N) (l:M.length = N.length) (ox:La.OkR k x) (lx:x.length = a) (oy:La.OkR k y):imgM k (augM M N) (x ++ y) = addW k (imgM k M x) (imgM k N y):=by
 refine List.ext_getElem? fun i=>?_
 unfold imgM addW augM
 rw [List.getElem?_map,List.getElem?_zipWith,List.getElem?_zipWith,List.getElem?_map,List.getElem?_map]
 rcases Nat.lt_or_ge i M.length with hi | hi
 ·rw [List.getElem?_eq_getElem hi,List.getElem?_eq_getElem (show i < N.length by omega)]
  have oa:=oM _ (List.getElem_mem hi)
  have ob:=oN _ (List.getElem_mem (show i < N.length by omega))
  exact congrArg some (La.zbO hk oa.2 ob.2 ox oy (oa.1.trans lx.symm))
 ·rw [List.getElem?_eq_none hi]; rfl
theorem zgB {M N:List (List Nb)}:transp h (prodM k h M N) = (transp h N).map (imgM k M):=by
 refine List.ext_getElem? fun j=>?_
 rcases Nat.lt_or_ge j h with hj | hj
 ·rw [yd hj,List.getElem?_map,yd hj]
  unfold prodM imgM
  rw [List.map_map]
  refine congrArg some (List.map_congr_left fun r _=>?_)
  show ((transp h N).map fun col=>La.ndot k r col).getD j (.z 0) = _
  rw [List.getD_eq_getElem?_getD,List.getElem?_map,yd hj]; rfl
 ·rw [List.getElem?_eq_none (by rw [zq]; exact hj),List.getElem?_eq_none (by rw [List.length_map,zq]; exact hj)]
theorem QK:∀ t,transp h (blkT k h A B t) = (transp h B).map fun c=>powX k A c t
 | 0=>(List.map_id' _).symm
 | t + 1=>by
  show transp h (prodM k h A (blkT k h A B t)) = _
  rw [zgB,QK t,List.map_map]; rfl
include hk hM
theorem qd:∀ t,La.OkM k h (blkT k h A B t)∧(blkT k h A B t).length = n
 | 0=>⟨hM.b.ok,hM.b.len⟩
 | t + 1=>by
  obtain ⟨o,l⟩:=qd t
  have oT:=yF o
  rw [l] at oT
  refine ⟨fun r hr=>?_,by show (prodM k h A _).length = n; unfold prodM; rw [List.length_map,hM.a.len]⟩
  have hr':r∈prodM k h A (blkT k h A B t):=hr
  unfold prodM at hr'
  obtain ⟨a,ha,rfl⟩:=List.mem_map.mp hr'
  refine ⟨by rw [List.length_map,zq],fun y hy=>?_⟩
  obtain ⟨c,hc,rfl⟩:=List.mem_map.mp hy
  exact La.yq hk (hM.a.ok a ha).2 (oT c hc).2
theorem zdR {u:List Nb} (ou:La.OkR k u) (lu:u.length = h):∀ t,imgM k (blkT k h A B t) u = powX k A (imgM k B u) t
 | 0=>rfl
 | t + 1=>by
  obtain ⟨o,l⟩:=qd hk hM t
  show imgM k (prodM k h A (blkT k h A B t)) u = imgM k A (powX k A (imgM k B u) t)
  rw [← zdR ou lu t]
  exact (La.zaY hk hM.a.ok o l ou lu).symm
theorem ZX:∀ t,La.OkM k (1 + t * h) (mvT k n h A B t)∧(mvT k n h A B t).length = n
 | 0=>by
  refine ⟨fun r hr=>?_,by show (nulT k n 1).length = n; unfold nulT; exact List.length_replicate⟩
  have hr':r∈nulT k n 1:=hr
  unfold nulT at hr'
  rw [List.eq_of_mem_replicate hr',Nat.zero_mul]
  exact ⟨List.length_replicate,fun y hy=>by rw [List.eq_of_mem_replicate hy]; exact La.zI hk 0⟩
 | t + 1=>by
  obtain ⟨o1,l1⟩:=ZX t
  obtain ⟨o2,l2⟩:=qd hk hM t
  refine ⟨fun r hr=>?_,by show (augM _ _).length = n; unfold augM; rw [List.length_zipWith,l1,l2,Nat.min_self]⟩
  have hr':r∈augM (mvT k n h A B t) (blkT k h A B t):=hr
  unfold augM at hr'
  obtain ⟨i,hi,e⟩:=List.getElem_of_mem hr'
  rw [List.getElem_zipWith] at e
  rw [← e]
  have a1:=o1 _ (List.getElem_mem (n:=i) (by rw [List.length_zipWith] at hi; omega))
  have a2:=o2 _ (List.getElem_mem (n:=i) (by rw [List.length_zipWith] at hi; omega))
  refine ⟨by rw [List.length_append,a1.1,a2.1,Nat.add_mul,Nat.one_mul]; omega,fun y hy=>?_⟩
  rcases List.mem_append.mp hy with h' | h'
  ·exact a1.2 y h'
  ·exact a2.2 y h'
theorem zgj {F:Type} [Lean.Grind.Field F] (φ:La.Kf k F) {z:Nb} (oz:z.ok k):∀ (V:List (List Nb)),(∀ u∈V,u.length = h∧La.OkR k u)→∀ j,La.nv φ (imgM k (mvT k n h A B V.length) (z :: V.flatten)) j = SV φ n h A B V j:=fun V=>by
 refine snocInd (P:=fun V=>(∀ u∈V,u.length = h∧La.OkR k u)→∀ j,La.nv φ (imgM k (mvT k n h A B V.length) (z :: V.flatten)) j = SV φ n h A B V j) ?_ ?_ V
 ·intro _ j
  show La.nv φ (imgM k (nulT k n 1) [z]) j = 0
  have e:imgM k (nulT k n 1) [z] = zerN k n:=by
   unfold imgM nulT zerN
   rw [List.map_replicate,La.JT hk (n:=1) (fun y hy=>by rw [List.mem_singleton.mp hy]; exact oz) rfl]
  rw [e,zbJ hk φ]
 ·intro V u ih hV j
  have hu:=hV u (List.mem_append_right _ List.mem_cons_self)
  have hV':∀ u∈V,u.length = h∧La.OkR k u:=fun u hu=>hV u (List.mem_append_left _ hu)
  obtain ⟨o1,l1⟩:=ZX hk hM V.length
  obtain ⟨o2,l2⟩:=qd hk hM V.length
  have oF:La.OkR k (z :: V.flatten):=fun y hy=>by
   rcases List.mem_cons.mp hy with h' | h'
   ·rw [h']; exact oz
   ·obtain ⟨r,hr,hy'⟩:=List.mem_flatten.mp h'
    exact (hV' r hr).2 y hy'
  have lF:∀ (V:List (List Nb)),(∀ u∈V,u.length = h∧La.OkR k u)→V.flatten.length = V.length * h:=fun V hV=>by
   rw [List.length_flatten]
   induction V with
   | nil=>simp
   | cons v V ih=>rw [List.map_cons,List.sum_cons,ih fun u hu=>hV u (List.mem_cons_of_mem _ hu),(hV v List.mem_cons_self).1,List.length_cons,Nat.succ_mul]; omega
  have e:(V ++ [u]).length = V.length + 1:=by rw [List.length_append]; rfl
  rw [e,List.flatten_append,List.flatten_singleton,← List.cons_append]
  show La.nv φ (imgM k (augM (mvT k n h A B V.length) (blkT k h A B V.length)) ((z :: V.flatten) ++ u)) j = _
  rw [zhc hk o1 o2 (l1.trans l2.symm) oF (by rw [List.length_cons,lF V hV']; omega) hu.2,zeg hk φ (yB hk o1 oF).2 (yB hk o2 hu.2).2 (by
   have a:=(yB hk o1 oF).1
   have b:=(yB hk o2 hu.2).1
   exact (a.trans l1).trans (b.trans l2).symm),ih hV' j,zdR hk hM hu.2 hu.1,Qd hk hM φ hu.2 hu.1]
omit hk hM in
theorem zf1 {a b:Nat} {M N:List (List Nb)} (oM:La.OkM k a M) (oN:La.OkM k b N) (l:M.length = N.length):transp (a + b) (augM M N) = transp a M ++ transp b N:=by
 have la:(augM M N).length = M.length:=by unfold augM; rw [List.length_zipWith]; omega
 refine List.ext_getElem? fun j=>?_
 have get:∀ i (hi:i < M.length),(augM M N)[i]? = some (M[i] ++ N[i]'(by omega)):=fun i hi=>by unfold augM; rw [List.getElem?_zipWith,List.getElem?_eq_getElem hi,List.getElem?_eq_getElem (show i < N.length by omega)]
 rcases Nat.lt_or_ge j a with hj | hj
 ·rw [yd (by omega),List.getElem?_append_left (by rw [zq]; exact hj),yd hj]
  refine congrArg some (List.ext_getElem? fun i=>?_)
  rw [List.getElem?_map,List.getElem?_map]
  rcases Nat.lt_or_ge i M.length with hi | hi
  ·rw [get i hi,List.getElem?_eq_getElem hi]
   have w:=(oM _ (List.getElem_mem hi)).1
   show some ((M[i] ++ N[i]).getD j (.z 0)) = some (M[i].getD j (.z 0))
   rw [List.getD_eq_getElem?_getD,List.getElem?_append_left (by omega),← List.getD_eq_getElem?_getD]
  ·rw [List.getElem?_eq_none (by omega),List.getElem?_eq_none hi]
 ·rcases Nat.lt_or_ge j (a + b) with hb | hb
  ·rw [yd hb,List.getElem?_append_right (by rw [zq]; exact hj),zq,yd (by omega)]
   refine congrArg some (List.ext_getElem? fun i=>?_)
   rw [List.getElem?_map,List.getElem?_map]
   rcases Nat.lt_or_ge i M.length with hi | hi
   ·rw [get i hi,List.getElem?_eq_getElem (show i < N.length by omega)]
    have w:=(oM _ (List.getElem_mem hi)).1
    show some ((M[i] ++ N[i]).getD j (.z 0)) = some (N[i].getD (j - a) (.z 0))
    rw [List.getD_eq_getElem?_getD,List.getElem?_append_right (by omega),w,← List.getD_eq_getElem?_getD]
   ·rw [List.getElem?_eq_none (by omega),List.getElem?_eq_none (show N.length≤i by omega)]; rfl
  ·rw [List.getElem?_eq_none (by rw [zq]; exact hb),List.getElem?_eq_none (by rw [List.length_append,zq,zq]; exact hb)]
theorem zfB:∀ t c,c∈transp (1 + t * h) (mvT k n h A B t)↔c = zerN k n∨∃ b∈transp h B,∃ i,i < t∧c = powX k A b i
 | 0,c=>by
  rw [Nat.zero_mul]
  have e:transp 1 (mvT k n h A B 0) = [zerN k n]:=by
   show transp 1 (nulT k n 1) = _
   unfold transp nulT zerN
   simp [List.range_succ]
  rw [e,List.mem_singleton]
  exact ⟨.inl,fun h=>by rcases h with h | ⟨_,_,i,hi,_⟩; exact h; exact absurd hi (Nat.not_lt_zero _)⟩
 | t + 1,c=>by
  obtain ⟨o1,l1⟩:=ZX hk hM t
  obtain ⟨o2,l2⟩:=qd hk hM t
  have e:1 + (t + 1) * h = (1 + t * h) + h:=by rw [Nat.add_mul,Nat.one_mul]; omega
  rw [e]
  show c∈transp ((1 + t * h) + h) (augM (mvT k n h A B t) (blkT k h A B t))↔_
  rw [zf1 o1 o2 (l1.trans l2.symm),List.mem_append,zfB t c,QK t]
  constructor
  ·rintro ((h' | ⟨b,hb,i,hi,e⟩) | h')
   ·exact .inl h'
   ·exact .inr ⟨b,hb,i,by omega,e⟩
   ·obtain ⟨b,hb,rfl⟩:=List.mem_map.mp h'
    exact .inr ⟨b,hb,t,by omega,rfl⟩
  ·rintro (h' | ⟨b,hb,i,hi,e⟩)
   ·exact .inl (.inl h')
   ·rcases Nat.lt_or_eq_of_le (Nat.le_of_lt_succ hi) with h' | h'
    ·exact .inl (.inr ⟨b,hb,i,h',e⟩)
    ·exact .inr (List.mem_map.mpr ⟨b,hb,by rw [e,h']⟩)
end
noncomputable def cutB (h t:Nat) (y:List Nb):List (List Nb):=(List.range t).map fun i=>(y.drop (i * h)).take h
theorem qV {h:Nat}:∀ (t:Nat) (y:List Nb),y.length = t * h→(cutB h t y).flatten = y
 | 0,y,e=>by
  rw [Nat.zero_mul] at e
  rw [List.eq_nil_of_length_eq_zero e]; rfl
 | t + 1,y,e=>by
  rw [Nat.add_mul,Nat.one_mul] at e
  unfold cutB
  rw [List.range_succ,List.map_append,List.flatten_append]
  have h1:((List.range t).map fun i=>(y.drop (i * h)).take h) = cutB h t (y.take (t * h)):=by
   unfold cutB
   refine List.map_congr_left fun i hi=>?_
   have hi':=List.mem_range.mp hi
   have le:(i + 1) * h≤t * h:=Nat.mul_le_mul_right _ hi'
   rw [Nat.add_mul,Nat.one_mul] at le
   rw [List.drop_take,List.take_take,Nat.min_eq_left (by omega)]
  rw [h1,qV t _ (by rw [List.length_take]; omega)]
  simp only [List.map_cons,List.map_nil,List.flatten_cons,List.flatten_nil,List.append_nil]
  rw [List.take_of_length_le (l:=y.drop (t * h)) (by rw [List.length_drop]; omega),List.take_append_drop]
theorem jJ {h t:Nat} {y:List Nb}:(cutB h t y).length = t:=by unfold cutB; rw [List.length_map,List.length_range]
theorem Jn {k:Int} {h t:Nat} {y:List Nb} (e:y.length = t * h) (oy:La.OkR k y):∀ u∈cutB h t y,u.length = h∧La.OkR k u:=fun u hu=>by
 unfold cutB at hu
 obtain ⟨i,hi,rfl⟩:=List.mem_map.mp hu
 have le:(i + 1) * h≤t * h:=Nat.mul_le_mul_right _ (List.mem_range.mp hi)
 rw [Nat.add_mul,Nat.one_mul] at le
 exact ⟨by rw [List.length_take,List.length_drop]; omega,fun z hz=>oy z (List.mem_of_mem_drop (List.mem_of_mem_take hz))⟩
theorem zgX {h t m:Nat} {y:List Nb} (sy:∀ z∈y,nsm m z):∀ u∈cutB h t y,∀ z∈u,nsm m z:=fun u hu z hz=>by
 unfold cutB at hu
 obtain ⟨i,hi,rfl⟩:=List.mem_map.mp hu
 exact sy z (List.mem_of_mem_drop (List.mem_of_mem_take hz))
end L2
namespace L2
open PySem PySem.Spec PyProof.Rows Nm
noncomputable def whk (k:Int) (m:Nat) (x:Nb):Prop:=k = 0→∃ i:Int,x = nnum k i∧i.natAbs < 2 ^ m
theorem whk.mono {k:Int} {m n:Nat} {x:Nb} (h:whk k m x) (hm:m≤n):whk k n x:=fun k0=>by
 obtain ⟨i,e,hi⟩:=h k0
 exact ⟨i,e,Nat.lt_of_lt_of_le hi (Nat.pow_le_pow_right (by decide) hm)⟩
theorem whk.szk {k:Int} {m:Nat} {x:Nb} (h:whk k m x) (m1:1≤m):szk k m x:=fun k0=>by
 obtain ⟨i,e,hi⟩:=h k0
 subst k0
 rw [e]
 exact ⟨hi,sm_one.mono m1⟩
theorem whk.nsm {k:Int} (hk:KindOk k) {m n:Nat} {x:Nb} (o:x.ok k) (h:whk k m x) (hm:m≤n) (h7:61≤n):nsm n x:=((h.mono hm).szk (Nat.le_trans (by decide) h7)).nsm hk o (Nat.le_refl _) h7
theorem jg {k:Int} (k0:k = 0) (i:Int):nnum k i = .q (i:Rat):=by unfold nnum; rw [if_pos k0]
theorem zdP {a b m n:Nat} (ha:a < 2 ^ m) (hb:b < 2 ^ n):a + b < 2 ^ (max m n + 1):=by
 have h1:2 ^ m≤2 ^ max m n:=Nat.pow_le_pow_right (by decide) (Nat.le_max_left _ _)
 have h2:2 ^ n≤2 ^ max m n:=Nat.pow_le_pow_right (by decide) (Nat.le_max_right _ _)
 rw [Nat.pow_succ]; omega
theorem JU {k:Int} {m n:Nat} {x y:Nb} (ox:x.ok k) (oy:y.ok k) (sx:whk k m x) (sy:whk k n y):whk k (max m n + 1) (nadd k x y):=fun k0=>by
 obtain ⟨i,rfl,hi⟩:=sx k0
 obtain ⟨j,rfl,hj⟩:=sy k0
 refine ⟨i + j,?_,Nat.lt_of_le_of_lt (Int.natAbs_add_le i j) (zdP hi hj)⟩
 rw [jg k0,jg k0,jg k0]
 show Nb.q ((i:Rat) + (j:Rat)) = _
 rw [Rat.intCast_add]
theorem zbS {k:Int} {m n:Nat} {x y:Nb} (ox:x.ok k) (oy:y.ok k) (sx:whk k m x) (sy:whk k n y):whk k (max m n + 1) (nsub k x y):=fun k0=>by
 obtain ⟨i,rfl,hi⟩:=sx k0
 obtain ⟨j,rfl,hj⟩:=sy k0
 refine ⟨i - j,?_,Nat.lt_of_le_of_lt (Int.natAbs_sub_le i j) (zdP hi hj)⟩
 rw [jg k0,jg k0,jg k0]
 show Nb.q ((i:Rat) - (j:Rat)) = _
 rw [Rat.intCast_sub]
theorem xZ {k:Int} {m n:Nat} {x y:Nb} (ox:x.ok k) (oy:y.ok k) (sx:whk k m x) (sy:whk k n y):whk k (m + n) (nmul k x y):=fun k0=>by
 obtain ⟨i,rfl,hi⟩:=sx k0
 obtain ⟨j,rfl,hj⟩:=sy k0
 refine ⟨i * j,?_,?_⟩
 ·rw [jg k0,jg k0,jg k0]
  show Nb.q ((i:Rat) * (j:Rat)) = _
  rw [Rat.intCast_mul]
 ·rw [Int.natAbs_mul,Nat.pow_add]
  exact Nat.mul_lt_mul'' hi hj
structure TW (k:Int) (r c m:Nat) (M:List (List Nb)):Prop where
 len:M.length = r
 ok:La.OkM k c M
 sz:∀ r∈M,∀ x∈r,whk k m x
theorem TW.up {k:Int} {r c m m':Nat} {M:List (List Nb)} (h:TW k r c m M) (hm:m≤m'):TW k r c m' M:=⟨h.len,h.ok,fun r hr x hx=>(h.sz r hr x hx).mono hm⟩
theorem TW.tok {k:Int} (hk:KindOk k) {r c m n:Nat} {M:List (List Nb)} (h:TW k r c m M) (hm:m≤n) (h7:61≤n):TOk k r c n M:=⟨h.len,h.ok,fun r hr x hx=>(h.sz r hr x hx).nsm hk ((h.ok r hr).2 x hx) hm h7⟩
theorem TW.set {k:Int} {r c m i:Nat} {M:List (List Nb)} {xs:List Nb} (h:TW k r c m M) (lx:xs.length = c) (ox:La.OkR k xs) (sx:∀ x∈xs,whk k m x):TW k r c m (M.set i xs):=by
 refine ⟨by rw [List.length_set]; exact h.len,fun q hq=>?_,fun q hq=>?_⟩
 all_goals
  rcases La.yc hq with e | e
 ·rw [e]; exact ⟨lx,ox⟩
 ·exact h.ok q e
 ·rw [e]; exact sx
 ·exact h.sz q e
end L2
namespace L2
open PySem PySem.Spec PyProof.Rows Nm
theorem qb {k:Int} {m:Nat} {x:Nb} (k0:k = 0) (h:whk k m x):La.dB 1 (2 ^ m - 1) x:=by
 obtain ⟨i,rfl,hi⟩:=h k0
 exact La.dB.num (by omega)
theorem zeu {k:Int} {m B:Nat} {x:Nb} (ox:x.ok k) (h:k = 0→La.dB 1 B x) (hb:B < 2 ^ m):whk k m x:=fun k0=>by
 have h:=h k0
 cases x with
 | z i=>exact absurd k0 ox.1
 | q r =>
  obtain ⟨a,ea,ha⟩:=h
  refine ⟨a,?_,by omega⟩
  rw [jg k0]
  have e1:(((1:Nat):Int):Rat) = 1:=by rfl
  rw [e1] at ea
  have:r = (a:Rat):=by rw [← ea]; grind
  rw [this]
theorem YM {k:Int} {m:Nat} {x:List Nb} (m1:1≤m) (ox:La.OkR k x) (h:∀ y∈x,whk k m y):La.rowB m x:=by
 by_cases k0:k = 0
 ·have:2 ^ 1≤2 ^ m:=Nat.pow_le_pow_right (by decide) m1
  exact ⟨1,by decide,by omega,fun y hy=>qb k0 (h y hy)⟩
 ·exact Xh k0 ox m1
theorem zbU {k:Int} (hk:KindOk k) {n a b c:Nat} {x y:List Nb} (ox:La.OkR k x) (oy:La.OkR k y) (lx:x.length = n) (hn:n≤2 ^ c) (hx:∀ u∈x,whk k a u) (hy:∀ u∈y,whk k b u):whk k (a + b + c) (La.ndot k x y):=by
 refine zeu (B:=n * ((2 ^ a - 1) * (2 ^ b - 1))) (La.yq hk ox oy) (fun k0=>?_) ?_
 ·exact zd0 hk ox oy lx (fun u hu=>qb k0 (hx u hu)) (fun u hu=>qb k0 (hy u hu))
 ·have p1:=Nat.two_pow_pos a
  have p2:=Nat.two_pow_pos b
  have p3:=Nat.two_pow_pos c
  rw [Nat.pow_add,Nat.pow_add]
  have h1:(2 ^ a - 1) * (2 ^ b - 1)≤(2 ^ a - 1) * 2 ^ b:=Nat.mul_le_mul_left _ (by omega)
  have h2:(2 ^ a - 1) * 2 ^ b = 2 ^ a * 2 ^ b - 2 ^ b:=by rw [Nat.sub_mul,Nat.one_mul]
  have h3:0 < 2 ^ a * 2 ^ b:=Nat.mul_pos p1 p2
  calc n * ((2 ^ a - 1) * (2 ^ b - 1))≤2 ^ c * (2 ^ a * 2 ^ b - 1):=Nat.mul_le_mul hn (by omega)
   _ < 2 ^ c * (2 ^ a * 2 ^ b):=Nat.mul_lt_mul_of_pos_left (by omega) p3
   _ = 2 ^ a * 2 ^ b * 2 ^ c:=Nat.mul_comm ..
theorem za0 {k:Int} (hk:KindOk k) {r n a b:Nat} {A:List (List Nb)} {x:List Nb} (n4:k = 0→n≤4) (hA:TW k r n a A) (ox:La.OkR k x) (hx:∀ u∈x,whk k b u):∀ y∈imgM k A x,whk k (a + b + 2) y:=fun y hy k0=>by
 unfold imgM at hy
 obtain ⟨q,hq,rfl⟩:=List.mem_map.mp hy
 have o:=hA.ok q hq
 exact zbU hk o.2 ox o.1 (n4 k0) (hA.sz q hq) hx k0
theorem YD {k:Int} (hk:KindOk k) {n a b:Nat} {A:List (List Nb)} {x:List Nb} (n4:k = 0→n≤4) (hA:TW k n n a A) (ox:La.OkR k x) (lx:x.length = n) (hx:∀ u∈x,whk k b u):∀ i,∀ y∈powX k A x i,whk k (b + i * (a + 2)) y
 | 0=>fun y hy=>(hx y hy).mono (by omega)
 | i + 1=>fun y hy=>by
  have o:=xm hk hA.ok hA.len ox lx i
  exact (za0 hk n4 hA o.1 (YD hk n4 hA ox lx hx i) y hy).mono (by rw [Nat.add_mul,Nat.one_mul]; omega)
theorem xC {k:Int} {c m:Nat} {M:List (List Nb)} (oM:La.OkM k c M) (h:∀ r∈M,∀ x∈r,whk k m x):∀ r∈transp c M,∀ x∈r,whk k m x:=fun r hr x hx=>by
 unfold transp at hr
 obtain ⟨j,hj,rfl⟩:=List.mem_map.mp hr
 obtain ⟨q,hq,rfl⟩:=List.mem_map.mp hx
 have hl:=(oM q hq).1
 rw [List.mem_range] at hj
 rw [List.getD_eq_getElem?_getD,List.getElem?_eq_getElem (by omega)]
 exact h q hq _ (List.getElem_mem _)
theorem zcW {k:Int} (hk:KindOk k) {n h s z a:Nat} {A B C:List (List Nb)} (hM:MOk k n h s z A B C) (n4:k = 0→n≤4) (wA:TW k n n a A) (wB:TW k n h a B) (i:Nat):∀ r∈blkT k h A B i,∀ x∈r,whk k (a + i * (a + 2)) x:=by
 obtain ⟨ob,lb⟩:=qd hk hM i
 have oT:=XZ hM.b
 have wT:=xC wB.ok wB.sz
 have cz:∀ r∈transp h (blkT k h A B i),∀ x∈r,whk k (a + i * (a + 2)) x:=fun r hr x hx=>by
  rw [QK i] at hr
  obtain ⟨c,hc,rfl⟩:=List.mem_map.mp hr
  exact YD hk n4 wA (oT.ok c hc).2 (oT.ok c hc).1 (wT c hc) i x hx
 have tt:=xC (yF ob) cz
 rw [xw ob] at tt
 exact tt
theorem zcZ {k:Int} (hk:KindOk k) {n h s z a:Nat} {A B C:List (List Nb)} (hM:MOk k n h s z A B C) (n4:k = 0→n≤4) (wA:TW k n n a A) (wB:TW k n h a B) (a1:1≤a):∀ t,∀ r∈mvT k n h A B t,∀ x∈r,whk k (a + t * (a + 2)) x
 | 0=>fun r hr x hx=>by
  have hr':r∈nulT k n 1:=hr
  unfold nulT at hr'
  rw [List.eq_of_mem_replicate hr'] at hx
  rw [List.eq_of_mem_replicate hx]
  exact fun _=>⟨0,rfl,Nat.two_pow_pos _⟩
 | t + 1=>fun r hr x hx=>by
  have hr':r∈augM (mvT k n h A B t) (blkT k h A B t):=hr
  unfold augM at hr'
  obtain ⟨i,hi,e⟩:=List.getElem_of_mem hr'
  rw [List.getElem_zipWith] at e
  rw [← e] at hx
  have up:a + t * (a + 2)≤a + (t + 1) * (a + 2):=by rw [Nat.add_mul]; omega
  rcases List.mem_append.mp hx with h' | h'
  ·exact (zcZ hk hM n4 wA wB a1 t _ (List.getElem_mem _) x h').mono up
  ·exact (zcW hk hM n4 wA wB t _ (List.getElem_mem _) x h').mono up
theorem zhn {k:Int} {m n:Nat} {x y:List Nb} (ox:La.OkR k x) (oy:La.OkR k y) (hx:∀ u∈x,whk k m u) (hy:∀ u∈y,whk k n u):∀ u∈subR k x y,whk k (max m n + 1) u:=fun u hu=>by
 unfold subR at hu
 rw [← List.map_uncurry_zip_eq_zipWith] at hu
 obtain ⟨⟨p,q⟩,hp,rfl⟩:=List.mem_map.mp hu
 have m1:=(List.of_mem_zip hp).1
 have m2:=(List.of_mem_zip hp).2
 exact zbS (ox p m1) (oy q m2) (hx p m1) (hy q m2)
theorem zho {k:Int} {m n:Nat} {x y:List Nb} (ox:La.OkR k x) (oy:La.OkR k y) (hx:∀ u∈x,whk k m u) (hy:∀ u∈y,whk k n u):∀ u∈addW k x y,whk k (max m n + 1) u:=fun u hu=>by
 unfold addW at hu
 rw [← List.map_uncurry_zip_eq_zipWith] at hu
 obtain ⟨⟨p,q⟩,hp,rfl⟩:=List.mem_map.mp hu
 have m1:=(List.of_mem_zip hp).1
 have m2:=(List.of_mem_zip hp).2
 exact JU (ox p m1) (oy q m2) (hx p m1) (hy q m2)
theorem zgw:∀ (n:Nat) (u:Nat→Rat),La.dot n u u = 0→∀ j,j < n→u j = 0:=by
 have nn:∀ (n:Nat) (u:Nat→Rat),0≤La.dot n u u:=fun n u=>by
  induction n with
  | zero=>exact Rat.le_refl
  | succ n ih =>
   show 0≤La.dot n u u + u n * u n
   have h2:0≤u n * u n:=by
    rcases Rat.le_total (a:=0) (b:=u n) with h | h
    ·exact Rat.mul_nonneg h h
    ·have h':0≤-u n:=by grind
     have:=Rat.mul_nonneg h' h'
     grind
   exact Rat.add_nonneg ih h2
 intro n u
 induction n with
 | zero=>intro _ j hj; exact absurd hj (Nat.not_lt_zero _)
 | succ n ih =>
  intro h j hj
  have h1:=nn n u
  have h2:0≤u n * u n:=by
   rcases Rat.le_total (a:=0) (b:=u n) with h | h
   ·exact Rat.mul_nonneg h h
   ·have h':0≤-u n:=by grind
    have:=Rat.mul_nonneg h' h'
    grind
  have e:La.dot n u u + u n * u n = 0:=h
  have e1:La.dot n u u = 0:=by grind
  have e2:u n * u n = 0:=by grind
  rcases Nat.lt_or_eq_of_le (Nat.le_of_lt_succ hj) with h' | h'
  ·exact ih e1 j h'
  ·rw [h']
   rcases Rat.mul_eq_zero.mp e2 with e | e <;> exact e
end L2
namespace KL
open PySem PySem.Spec PyProof.Rows L2 Nm
set_option maxHeartbeats 4000000
theorem hide {G:Prop} (h:∀ G':Prop,(G→G')→G'):G:=h G id
theorem zhX (K:PySem.W.Frag):PySem.W.kitOne K (.type "int") (.type "int") = some true:=by unfold PySem.W.kitOne; rw [if_pos (by decide)]
theorem zht (K:PySem.W.Frag):PySem.W.kitOne K (.type "int") (.type "bool") = some false:=by
 unfold PySem.W.kitOne
 rw [if_neg (by decide)]
 show (if PySem.W.kitMeta "bool" = true then PySem.W.subIn K (.type "int") (.type "bool") else none) = some false
 rw [if_pos (by decide +kernel)]
 show (PySem.fastBuiltinMro "int").map (·.contains (Value.type "bool")) = some false
 decide +kernel
theorem zd3 (K:PySem.W.Frag):PySem.W.kitOne K (.type "tuple") (.type "tuple") = some true:=by unfold PySem.W.kitOne; rw [if_pos (by decide)]
section
variable {P:Program} {w:World} {K:PySem.W.Frag} {mg:Str→Option Value} {base:Heap}
theorem jE {a b:Int} (h0:0≤a) (h1:a≤2305843009213693952):IntMulOk a b:=IntMulOk.of_left (intBits_le_64 (by omega) (by omega))
noncomputable def za4:Sp:=fun vs H Q _=>∃ (a b:Int),vs = [.int a,.int b]∧Q (.int ((Int.gcd a b:Nat):Int)) H
theorem zdx (i:Int):(if i < 0 then -i else i) = (i.natAbs:Int):=by split <;> omega
theorem zig (D:Df K mg "common_divisor" ["one", "other"] yI) (m_abs:mg "abs" = none):Kn P w K mg base "common_divisor" 1 ["one", "other"] za4:=by
 refine D.kn sc_common_divisor (fun vs H Q E h=>?_) (fun f cdv A outer s H vs Q E hr h=>?_)
 ·obtain ⟨a,b,rfl,_⟩:=h; rfl
 obtain ⟨a,b,rfl,q⟩:=h
 refine ⟨_,(zc (zm (i:=2) sc_common_divisor.nd rfl (.inl rfl) (zG JB rfl m_abs zc4 (za (pv 0) zd))) (zc (zm (i:=3) sc_common_divisor.nd rfl (.inl rfl) (zG JB rfl m_abs zc4 (za (pv 1) zd))) (zc (Yz PassesOwn.never (zH Yh (pv 3) zb (nomark _)) (zc (zm (i:=4) sc_common_divisor.nd rfl (.inl rfl) (zi zN (pv 2) (pv 3))) (zc (zm (i:=2) sc_common_divisor.nd rfl (.inl rfl) (pv 3)) (zg (zm (i:=3) sc_common_divisor.nd rfl (.inl rfl) (pv 4)))))) (zg (zk (pv 2)))))),?_⟩
 refine ⟨_,rfl,a,rfl,_,rfl,b,rfl,?_⟩
 rw [zdx,zdx]
 refine ⟨fun m σ H'=>∃ l r o,σ = [some (.int a),some (.int b),some (.int l),some (.int r),o]∧H' = H∧0≤l∧0≤r∧Int.gcd l r = Int.gcd a b∧m = r.toNat,⟨_,_,_,none,rfl,rfl,Int.natCast_nonneg _,Int.natCast_nonneg _,by simp [Int.gcd_eq_natAbs_gcd_natAbs],rfl⟩,?_⟩
 rintro m σ H' ⟨l,r,o,rfl,rfl,l0,r0,g,rfl⟩
 refine ⟨_,rfl,rfl,_,rfl,?_⟩
 refine ite2 (fun c=>?_) (fun c=>?_)
 ·have c':r≠0:=fun z=>by rw [z] at c; exact absurd c (by decide)
  have m0:=Int.fmod_nonneg_of_pos l (show 0 < r by omega)
  have m1:=Int.fmod_lt_of_pos l (show 0 < r by omega)
  refine ⟨_,fun _ _ h=>h,?_⟩
  exact ⟨_,rfl,_,rfl,_,_,rfl,rfl,c',_,rfl,_,rfl,_,by omega,r,l.fmod r,_,rfl,rfl,r0,m0,(zbK l r).trans g,rfl⟩
 ·have c':r = 0:=by
   rcases Int.lt_or_le 0 r with h | h
   ·exact absurd (by have h':¬ V.int r = V.int 0:=fun z=>(by have:=V.int.inj z; omega); rw [decide_eq_false h']; rfl) c
   ·omega
  subst c'
  refine ⟨_,rfl,?_⟩
  have e:l = ((Int.gcd a b:Nat):Int):=by rw [← g,Int.gcd_zero]; omega
  show Q (.int l) H'
  rw [e]; exact q
noncomputable def qM:Sp:=fun vs H Q _=>∃ (t b:Int),vs = [.int t,.int b]∧b≠0∧∀ v H',Same H H'→RN H' (.q (Rat.divInt t b)) v→Q v H'
theorem zbb (hP:P.given.tree = none) (hS:base.NoSeer) (D:Df K mg "fraction" ["top", "bottom"] qF) (yy:Kn P w K mg base "common_divisor" 1 ["one", "other"] za4):Kn P w K mg base "fraction" 41 ["top", "bottom"] qM:=by
 refine D.kn sc_fraction (fun vs H Q E h=>?_) (fun f cdv A outer s H vs Q E hr h=>?_)
 ·obtain ⟨a,b,rfl,_⟩:=h; rfl
 obtain ⟨t,b,rfl,hb,q⟩:=h
 refine ⟨_,(zc (zm (i:=2) sc_fraction.nd rfl (.inl rfl) (zu yy (hr.mono (by decide)) rfl (za (pv 0) (za (pv 1) zd)))) (zc (yi (zH zhg (pv 1) zb (nomark _)) (zg (zm (i:=2) sc_fraction.nd rfl (.inl rfl) (zgA zd1 (pv 2)))) zL) (zg (zk (yv (za (zi (zV hr (by decide) hP hS ⟨_,_,rfl,rfl,rfl,rfl,rfl⟩) (pv 0) (pv 2)) (za (zi (zV hr (by decide) hP hS ⟨_,_,rfl,rfl,rfl,rfl,rfl⟩) (pv 1) (pv 2)) zd))))))),?_⟩
 obtain ⟨e1,e2⟩:=Yy (t:=t) hb
 have cd:sg t b≠0:=zeH hb
 have fin:∀ p,H p = none→Q (.ref p) (upd H p (.tup [.int (t.fdiv (sg t b)),.int (b.fdiv (sg t b))])):=fun p hp=>by
  rw [e1,e2]
  exact q _ _ (ze hp _) (RN.of_q zf)
 refine ⟨_,rfl,_,rfl,t,b,rfl,?_⟩
 refine ⟨_,rfl,_,_,rfl,rfl,_,rfl,?_⟩
 refine ite2 (fun c=>?_) (fun c=>?_)
 ·have c':b < 0:=of_decide_eq_true c
  have e:sg t b = -((Int.gcd t b:Nat):Int):=by unfold sg; rw [if_pos c']
  rw [e] at cd fin
  exact ⟨_,rfl,_,rfl,_,rfl,_,rfl,_,_,rfl,rfl,cd,_,rfl,_,rfl,_,_,rfl,rfl,cd,(by show 2≤sizeLine; decide),fin⟩
 ·have c':¬ b < 0:=of_decide_eq_false (Bool.eq_false_iff.mpr c)
  have e:sg t b = ((Int.gcd t b:Nat):Int):=by unfold sg; rw [if_neg c']
  rw [e] at cd fin
  exact ⟨_,rfl,_,rfl,_,_,rfl,rfl,cd,_,rfl,_,rfl,_,_,rfl,rfl,cd,(by show 2≤sizeLine; decide),fin⟩
noncomputable def YZ:Sp:=fun vs H Q _=>∃ (p r:Int),vs = [.int p,.int r]∧Pr p∧0 < r∧r < p∧∀ x,0≤x→x < p→p ∣ x * r - 1→Q (.int x) H
theorem zba (hP:P.given.tree = none) (hS:base.NoSeer) (D:Df K mg "one_over" ["prime", "rest"] qC):Kn P w K mg base "one_over" 41 ["prime", "rest"] YZ:=by
 refine D.kn sc_one_over (fun vs H Q E h=>?_) (fun f cdv A outer s H vs Q E hr h=>?_)
 ·obtain ⟨a,b,rfl,_⟩:=h; rfl
 obtain ⟨p,r,rfl,hp,r0,rp,q⟩:=h
 refine ⟨_,(zc (zm (i:=2) sc_one_over.nd rfl (.inl rfl) (pv 0)) (zc (zm (i:=3) sc_one_over.nd rfl (.inl rfl) (pv 1)) (zc (zm (i:=4) sc_one_over.nd rfl (.inl rfl) zb) (zc (zm (i:=5) sc_one_over.nd rfl (.inl rfl) zb) (zc (Yz PassesOwn.never (zH Yh (pv 3) zb (nomark _)) (zc (zm (i:=6) sc_one_over.nd rfl (.inl rfl) (zi (zV hr (by decide) hP hS ⟨_,_,rfl,rfl,rfl,rfl,rfl⟩) (pv 2) (pv 3))) (zc (zm (i:=7) sc_one_over.nd rfl (.inl rfl) (zi xG (pv 2) (zi zU (pv 6) (pv 3)))) (zc (zm (i:=8) sc_one_over.nd rfl (.inl rfl) (zi xG (pv 4) (zi zU (pv 6) (pv 5)))) (zc (zm (i:=2) sc_one_over.nd rfl (.inl rfl) (pv 3)) (zc (zm (i:=4) sc_one_over.nd rfl (.inl rfl) (pv 5)) (zc (zm (i:=3) sc_one_over.nd rfl (.inl rfl) (pv 7)) (zg (zm (i:=5) sc_one_over.nd rfl (.inl rfl) (pv 8)))))))))) (zg (zk (zi zN (pv 4) (pv 0))))))))),?_⟩
 have p0:0 < p:=by have:=hp.lo; omega
 refine ⟨_,rfl,_,rfl,?_⟩
 refine ⟨fun m σ H'=>∃ l g ml mg o1 o2 o3,σ = [some (.int p),some (.int r),some (.int l),some (.int g),some (.int ml),some (.int mg),o1,o2,o3]∧H' = H∧OvInv p r l g ml mg∧m = g.toNat,⟨_,_,_,_,_,none,none,none,rfl,rfl,zbV hp r0 rp,rfl⟩,?_⟩
 rintro m σ H' ⟨l,g,ml,mg,o1,o2,o3,rfl,rfl,inv,rfl⟩
 have l0:=inv.l0
 have l1:=inv.l1
 have g0:=inv.g0
 have g1:=inv.g1
 refine ⟨_,rfl,rfl,_,rfl,?_⟩
 refine ite2 (fun c=>?_) (fun c=>?_)
 ·have c':g≠0:=fun z=>by rw [z] at c; exact absurd c (by decide)
  have ed:l.fdiv g = l / g:=Int.fdiv_eq_ediv_of_nonneg l g0
  have d0:0≤l.fdiv g:=by rw [ed]; exact Int.ediv_nonneg l0 g0
  have d1:l.fdiv g≤l:=by rw [ed]; exact Int.ediv_le_self g l0
  have tn:=zcL inv c'
  have tm:=zdo (l:=l) g0 c'
  rw [← ed] at tn tm
  refine ⟨_,fun _ _ h=>h,?_⟩
  refine ⟨_,rfl,_,rfl,_,_,rfl,rfl,c',?_⟩
  refine ⟨_,rfl,_,rfl,_,rfl,_,_,rfl,rfl,jE d0 (by omega),_,_,rfl,rfl,_,rfl,_,rfl,_,rfl,_,_,rfl,rfl,jE d0 (by omega),_,_,rfl,rfl,_,rfl,_,rfl,_,rfl,_,rfl,_,tm,g,_,mg,_,_,_,_,rfl,rfl,tn,rfl⟩
 ·have c':g = 0:=by
   rcases Int.lt_or_le 0 g with h | h
   ·exact absurd (by have h':¬ V.int g = V.int 0:=fun z=>(by have:=V.int.inj z; omega); rw [decide_eq_false h']; rfl) c
   ·omega
  subst c'
  refine ⟨_,rfl,_,rfl,_,_,rfl,rfl,(show p≠0 by omega),?_⟩
  have em:ml.fmod p = ml % p:=Int.fmod_eq_emod_of_nonneg ml (by omega)
  show Q (.int (ml.fmod p)) H'
  rw [em]
  exact q _ (Int.emod_nonneg _ (by omega)) (Int.emod_lt_of_pos _ p0) (zf8 inv p0)
noncomputable def jr:Sp:=fun vs H Q _=>∃ (k w:Int),vs = [.int k,.int w]∧∀ v H',Same H H'→RN H' (nnum k w) v→Q v H'
theorem zda (D:Df K mg "number" ["kind", "whole"] Yu):Kn P w K mg base "number" 1 ["kind", "whole"] jr:=by
 refine D.kn zd4 (fun vs H Q E h=>?_) (fun f cdv A outer s H vs Q E hr h=>?_)
 ·obtain ⟨k,w,rfl,_⟩:=h; rfl
 obtain ⟨k,w,rfl,q⟩:=h
 refine ⟨_,(zc (yi (zH xt (pv 0) zb (nomark _)) (zg (zk (yv (za (pv 1) (za zb zd))))) zL) (zg (zk (zi zN (pv 1) (pv 0))))),?_⟩
 refine ⟨_,rfl,rfl,_,rfl,?_⟩
 refine ite2 (fun c=>?_) (fun c=>?_)
 ·have e:k = 0:=V.int.inj (of_decide_eq_true c)
  subst e
  refine ⟨_,rfl,(by show 2≤sizeLine; decide),fun p hp=>?_⟩
  refine q _ _ (ze hp _) ?_
  show RN _ (.q (w:Rat)) _
  exact RN.of_q zf
 ·have c':¬ V.int k = V.int 0:=of_decide_eq_false (Bool.eq_false_iff.mpr c)
  have e:k≠0:=fun z=>c' (by rw [z])
  refine ⟨_,rfl,_,rfl,_,_,rfl,rfl,e,?_⟩
  refine q _ _ (Same.refl H) ?_
  unfold nnum
  rw [if_neg e]
  exact RN.of_z
structure Two (H:Hp) (k:Int) (x y:Nb) (a b:V):Prop where
 kd:KindOk k
 xo:x.ok k
 yo:y.ok k
 xs:nsm 60000000 x
 ys:nsm 60000000 y
 xr:RN H x a
 yr:RN H y b
noncomputable def xv (f:Int→Nb→Nb→Nb):Sp:=fun vs H Q _=>∃ (k:Int) (x y:Nb) (a b:V),vs = [.int k,a,b]∧Two H k x y a b∧∀ v H',Same H H'→RN H' (f k x y) v→Q v H'
theorem qS {H:Hp} {k:Int} {x y:Nb} {a b:V} (T:Two H k x y a b) :
  (k = 0∧∃ r s pa pb,x = .q r∧y = .q s∧a = .ref pa∧b = .ref pb∧H pa = some (.tup [.int r.num,.int (r.den:Int)])∧H pb = some (.tup [.int s.num,.int (s.den:Int)])∧Sm 60000000 r.num∧Sm 60000000 (r.den:Int)∧Sm 60000000 s.num∧Sm 60000000 (s.den:Int)) ∨
  (k≠0∧Pr k∧∃ i j,x = .z i∧y = .z j∧a = .int i∧b = .int j∧0≤i∧i < k∧0≤j∧j < k):=by
 obtain ⟨kd,xo,yo,xs,ys,xr,yr⟩:=T
 cases x with
 | q r =>
  have k0:k = 0:=xo
  cases y with
  | q s =>
   obtain ⟨pa,ea,ha⟩:=xr.q
   obtain ⟨pb,eb,hb⟩:=yr.q
   exact .inl ⟨k0,r,s,pa,pb,rfl,rfl,ea,eb,ha,hb,xs.1,xs.2,ys.1,ys.2⟩
  | z j=>exact absurd k0 yo.1
 | z i =>
  cases y with
  | q s=>exact absurd (show k = 0 from yo) xo.1
  | z j =>
   refine .inr ⟨xo.1,?_,i,j,rfl,rfl,xr.z,yr.z,xo.2.1,xo.2.2,yo.2.1,yo.2.2⟩
   rcases kd with h | h
   ·exact absurd h xo.1
   ·exact h
theorem yY {m n:Nat} {a b:Int} (ha:Sm m a) (hb:Sm n b) (h:m + n≤134217728:=by decide):IntMulOk a b:=ha.mulOk hb h
theorem zb3 (r s:Rat):(r.den:Int) * (s.den:Int)≠0:=Int.mul_ne_zero (Zt r) (Zt s)
noncomputable def zdK:Sp:=fun vs H Q _=>∃ (k:Int) (x y:Nb) (a b:V),vs = [.int k,a,b]∧Two H k x y a b∧y≠nnum k 0∧∀ v H',Same H H'→RN H' (ndiv k x y) v→Q v H'
theorem zha (D:Df K mg "over" ["kind", "one", "other"] zbr) (ZP:Kn P w K mg base "fraction" 41 ["top", "bottom"] qM) (xc:Kn P w K mg base "number" 1 ["kind", "whole"] jr) (zcG:Kn P w K mg base "one_over" 41 ["prime", "rest"] YZ):Kn P w K mg base "over" 42 ["kind", "one", "other"] zdK:=by
 refine D.kn zhp (fun vs H Q E h=>?_) (fun f cdv A outer s H vs Q E hr h=>?_)
 ·obtain ⟨k,x,y,a,b,rfl,_⟩:=h; rfl
 obtain ⟨k,x,y,a,b,rfl,T,ne,q⟩:=h
 refine ⟨_,(zc (yi (zH (Xm hr) (pv 2) (zu xc (hr.mono (by decide)) rfl (za (pv 0) (za zb zd))) (nomark _)) (zg zfi) zL) (zc (yi (zH xt (pv 0) zb (nomark _)) (zg (zk (zu ZP (hr.mono (by decide)) rfl (za (zi zU (zE zw (pv 1) zb (fun _ _=>rfl)) (zE zw (pv 2) zb (fun _ _=>rfl))) (za (zi zU (zE zw (pv 1) zb (fun _ _=>rfl)) (zE zw (pv 2) zb (fun _ _=>rfl))) zd))))) zL) (zg (zk (zi zN (zi zU (pv 1) (zu zcG (hr.mono (by decide)) rfl (za (pv 0) (za (pv 2) zd)))) (pv 0)))))),?_⟩
 refine ⟨_,rfl,_,rfl,k,0,rfl,fun v0 H0 g0 r0=>?_⟩
 refine ⟨toD y,toD (nnum k 0),T.yr.mono g0,r0,xD _,xD _,Nat.le_trans (Nat.min_le_left _ _) (Nat.le_trans (jj y) (by decide)),_,rfl,?_⟩
 show if PyData.eqv (toD y) (toD (nnum k 0)) = true then _ else _
 rw [zbc,decide_eq_false ne]
 refine iteF ?_
 rcases qS T with ⟨rfl,r,s,pa,pb,rfl,rfl,rfl,rfl,ha,hb,rn,rd,sn,sd⟩ | ⟨k0,hp,i,j,rfl,rfl,rfl,rfl,i0,ik,j0,jk⟩
 ·have ha':=g0 _ _ ha
  have hb':=g0 _ _ hb
  have s0:s≠0:=fun z=>ne (by rw [z]; rfl)
  refine ⟨_,rfl,rfl,_,rfl,iteT ?_⟩
  refine ⟨_,rfl,pa,_,_,_,rfl,rfl,SqT.of ha',rfl,_,rfl,pb,_,_,_,rfl,rfl,SqT.of hb',rfl,_,_,rfl,rfl,yY rn sd,_,rfl,pa,_,_,_,rfl,rfl,SqT.of ha',rfl,_,rfl,pb,_,_,_,rfl,rfl,SqT.of hb',rfl,_,_,rfl,rfl,yY rd sn,_,_,rfl,Int.mul_ne_zero (Zt r) (zhW s0),fun v H' g h=>?_⟩
  rw [zgG] at h
  exact q v H' (g0.trans g) h
 ·have j1:j≠0:=fun z=>ne (by unfold nnum; rw [if_neg k0,z,Int.zero_fmod])
  refine ⟨_,rfl,rfl,_,rfl,?_⟩
  rw [decide_eq_false (show ¬ V.int k = V.int 0 from fun z=>k0 (V.int.inj z))]
  refine iteF ?_
  refine ⟨_,rfl,_,rfl,_,rfl,k,j,rfl,hp,by omega,jk,fun x x0 xk hx=>?_⟩
  refine ⟨_,_,rfl,rfl,jE i0 (by have:=hp.hi; omega),_,rfl,_,_,rfl,rfl,k0,?_⟩
  refine q _ _ g0 ?_
  show RN _ (.z ((i * zinv k j).fmod k)) _
  rw [zdn x0 xk hx]
  exact RN.of_z
theorem zfK (D:Df K mg "minus" ["kind", "one", "other"] JY) (ZP:Kn P w K mg base "fraction" 41 ["top", "bottom"] qM):Kn P w K mg base "minus" 42 ["kind", "one", "other"] (xv nsub):=by
 refine D.kn ze3 (fun vs H Q E h=>?_) (fun f cdv A outer s H vs Q E hr h=>?_)
 ·obtain ⟨k,x,y,a,b,rfl,_⟩:=h; rfl
 obtain ⟨k,x,y,a,b,rfl,T,q⟩:=h
 refine ⟨_,(zc (yi (zH xt (pv 0) zb (nomark _)) (zg (zk (zu ZP (hr.mono (by decide)) rfl (za (zi xG (zi zU (zE zw (pv 1) zb (fun _ _=>rfl)) (zE zw (pv 2) zb (fun _ _=>rfl))) (zi zU (zE zw (pv 2) zb (fun _ _=>rfl)) (zE zw (pv 1) zb (fun _ _=>rfl)))) (za (zi zU (zE zw (pv 1) zb (fun _ _=>rfl)) (zE zw (pv 2) zb (fun _ _=>rfl))) zd))))) zL) (zg (zk (zi zN (zi xG (pv 1) (pv 2)) (pv 0))))),?_⟩
 rcases qS T with ⟨rfl,r,s,pa,pb,rfl,rfl,rfl,rfl,ha,hb,rn,rd,sn,sd⟩ | ⟨k0,hp,i,j,rfl,rfl,rfl,rfl,i0,ik,j0,jk⟩
 ·refine ⟨_,rfl,rfl,_,rfl,iteT ?_⟩
  refine ⟨_,rfl,pa,_,_,_,rfl,rfl,SqT.of ha,rfl,_,rfl,pb,_,_,_,rfl,rfl,SqT.of hb,rfl,_,_,rfl,rfl,yY rn sd,_,rfl,pb,_,_,_,rfl,rfl,SqT.of hb,rfl,_,rfl,pa,_,_,_,rfl,rfl,SqT.of ha,rfl,_,_,rfl,rfl,yY sn rd,_,_,rfl,rfl,_,rfl,pa,_,_,_,rfl,rfl,SqT.of ha,rfl,_,rfl,pb,_,_,_,rfl,rfl,SqT.of hb,rfl,_,_,rfl,rfl,yY rd sd,_,_,rfl,zb3 r s,fun v H' g h=>?_⟩
  rw [zg9] at h
  exact q v H' g h
 ·refine ⟨_,rfl,rfl,_,rfl,?_⟩
  rw [decide_eq_false (show ¬ V.int k = V.int 0 from fun z=>k0 (V.int.inj z))]
  refine iteF ?_
  refine ⟨_,rfl,_,rfl,_,_,rfl,rfl,_,rfl,_,_,rfl,rfl,k0,?_⟩
  exact q _ _ (Same.refl H) RN.of_z
theorem zhI (D:Df K mg "_law_divisor" ["_law_one", "_law_other"] xl) (m_abs:mg "abs" = none):Kn P w K mg base "_law_divisor" 1 ["_law_one", "_law_other"] za4:=by
 refine D.kn sc__law_divisor (fun vs H Q E h=>?_) (fun f cdv A outer s H vs Q E hr h=>?_)
 ·obtain ⟨a,b,rfl,_⟩:=h; rfl
 obtain ⟨a,b,rfl,q⟩:=h
 refine ⟨_,(zc (Yz PassesOwn.never (zH Yh (pv 1) zb (nomark _)) (zg (zhu (i:=0) (j:=1) rfl sc__law_divisor.nd rfl rfl (by decide) rfl rfl (za (pv 1) (za (zi zN (pv 0) (pv 1)) zd)) rfl))) (zg (zk (zG JB rfl m_abs zc4 (za (pv 0) zd))))),?_⟩
 refine ⟨fun m σ H'=>∃ l r,σ = [some (.int l),some (.int r)]∧H' = H∧Int.gcd l r = Int.gcd a b∧m = r.natAbs,⟨_,_,_,rfl,rfl,rfl,rfl⟩,?_⟩
 rintro m σ H' ⟨l,r,rfl,rfl,g,rfl⟩
 refine ⟨_,rfl,rfl,_,rfl,?_⟩
 refine ite2 (fun c=>?_) (fun c=>?_)
 ·have c':r≠0:=fun z=>by rw [z] at c; exact absurd c (by decide)
  refine ⟨_,fun _ _ h=>h,?_⟩
  exact ⟨_,rfl,_,rfl,_,rfl,_,_,rfl,rfl,c',_,_,rfl,_,zcp l c',r,l.fmod r,rfl,rfl,(zbK l r).trans g,rfl⟩
 ·have c':r = 0:=by
   by_cases h:r = 0
   ·exact h
   ·exact absurd (by have h':¬ V.int r = V.int 0:=fun z=>h (V.int.inj z); rw [decide_eq_false h']; rfl) c
  subst c'
  refine ⟨_,rfl,l,rfl,?_⟩
  have e:(if l < 0 then -l else l) = ((Int.gcd a b:Nat):Int):=by rw [zdx,← g,Int.gcd_zero]
  show Q (.int (if l < 0 then -l else l)) H'
  rw [e]; exact q
noncomputable def szM (m:Nat) (M:List (List Nb)):Prop:=∀ r∈M,∀ x∈r,nsm m x
theorem Jc {k:Int} {m n:Nat} {M:List (List Nb)} (ok:La.OkM k n M) (h:szM m M):szM m (transp n M):=fun r hr x hx=>by
 unfold transp at hr
 obtain ⟨j,hj,rfl⟩:=List.mem_map.mp hr
 rw [List.mem_range] at hj
 obtain ⟨row,hrow,rfl⟩:=List.mem_map.mp hx
 have hj':j < row.length:=by have:=(ok row hrow).1; omega
 rw [List.getD_eq_getElem?_getD,List.getElem?_eq_getElem hj']
 exact h row hrow _ (List.getElem_mem hj')
noncomputable def YW:Sp:=fun vs H Q _=>∃ (k:Int) (xs:List Nb) (a:Addr) (B:Nat),vs = [.int k,.ref a]∧KindOk k∧RowAt H xs a∧La.OkR k xs∧La.rowB B xs∧61≤B∧B≤60000000∧xs.length < sizeLine ∧
 ∀ p H',Same H H'→SclAt H' k B xs p→Q (.ref p) H'
theorem zcV (hP:P.given.tree = none) (hS:base.NoSeer) (D:Df K mg "scaled" ["kind", "row"] Yv) (yy:Kn P w K mg base "common_divisor" 1 ["one", "other"] za4) (yS:mg "list" = none):Kn P w K mg base "scaled" 41 ["kind", "row"] YW:=by
 refine D.kn sc_scaled (fun vs H Q E h=>?_) (fun f cdv A outer s H vs Q E hr h=>?_)
 ·obtain ⟨k,xs,a,B,rfl,_⟩:=h; rfl
 obtain ⟨k,xs,a,B,rfl,hk,hrow,ok,⟨Dn,dn0,dn1,hD⟩,b7,b6,hlen,q⟩:=h
 have kl:=hk.lt
 have szl:sizeLine = 16777216:=by decide
 obtain ⟨vs,ha,hp,hvl⟩:=hrow.len
 refine ⟨_,(zc (yi (zH Yh (pv 0) zb (nomark _)) (zg (zk (yv (za (jl qs rfl yS qQ (za (pv 1) zd)) (za zb zd))))) zL) (zc (zm (i:=2) sc_scaled.nd rfl (.inr rfl) zb) (zc (yu PassesOwn.never rfl (zM (pv 1)) (zh (i:=3) sc_scaled.nd rfl (.inl rfl)) (zg (zm (i:=2) sc_scaled.nd rfl (.inr rfl) (zi zU (zi (zV hr (by decide) hP hS ⟨_,_,rfl,rfl,rfl,rfl,rfl⟩) (pv 2) (zu yy (hr.mono (by decide)) rfl (za (pv 2) (za (zE zw (pv 3) zb (fun _ _=>rfl)) zd)))) (zE zw (pv 3) zb (fun _ _=>rfl)))))) (zg (zk (yv (za (ya ["part"] ["bottom"] [2] ⟨rfl,rfl,rfl,rfl,rfl,rfl,by decide +kernel⟩ rfl (zM (pv 1)) (zo (by decide)) fun _ _ _ _ _ _=>⟨(zh (i:=0) (by decide:(["part", "bottom"]:List Str).Nodup) rfl (by first | exact Or.inl rfl | exact Or.inr rfl)),zQ,(zi zU (zE zw (pv 0) zb (fun _ _=>rfl)) (zi (zV hr (by decide) hP hS ⟨_,_,rfl,rfl,rfl,rfl,rfl⟩) (pv 1) (zE zw (pv 0) zb (fun _ _=>rfl))))⟩) (za (pv 2) zd)))))))),?_⟩
 refine ⟨_,rfl,rfl,_,rfl,?_⟩
 refine ite2 (fun c=>?_) (fun c=>?_)
 ·have k0:k≠0:=fun z=>by rw [z] at c; exact absurd c (by decide)
  obtain ⟨is,rfl,rfl⟩:=zam k0 ok hp
  refine ⟨_,rfl,a,_,rfl,.inl (SqL.of ha),fun l hl=>⟨(by show 2≤sizeLine; decide),fun p hp'=>?_⟩⟩
  have n1:l≠p:=fun e=>by rw [e,zf] at hp'; cases hp'
  refine q p _ ((ze hl _).trans (ze hp' _)) ⟨l,is,1,zf,?_,zeb k0 is,?_,fun w hw=>?_⟩
  ·show upd _ _ _ l = _
   rw [zJ n1]; exact zf
  ·exact sm_one.mono (by omega)
  ·have o:=ok (.z w) (List.mem_map.mpr ⟨w,hw,rfl⟩)
   exact (Xp o.2.1 o.2.2 kl.2).mono b7
 ·have k0:k = 0:=by
   by_cases z:k = 0
   ·exact z
   ·exact absurd (by have h':¬ V.int k = V.int 0:=fun e=>z (V.int.inj e); rw [decide_eq_false h']; rfl) c
  subst k0
  have isq:∀ (i:Nat) (x:Nb),xs[i]? = some x→∃ r,x = .q r:=fun i x hx=>by
   have o:=ok x (List.mem_of_getElem? hx)
   cases x with
   | q r=>exact ⟨r,rfl⟩
   | z j=>exact absurd rfl o.1
  have dle:∀ b:Int,0 < b→b ∣ (Dn:Int)→Sm B b:=fun b b0 hb=>by
   have:=Int.le_of_dvd (by omega) hb
   show b.natAbs < 2 ^ B
   omega
  have parts:∀ r:Rat,.q r∈xs→Sm B r.num∧Sm B (r.den:Int)∧(r.den:Int) ∣ (Dn:Int):=fun r hr=>by
   obtain ⟨h1,h2⟩:=La.dB.parts dn0 (hD _ hr)
   have dv:=La.dB.den_dvd dn0 (hD _ hr)
   refine ⟨?_,dle _ (den_pos r) dv,dv⟩
   show r.num.natAbs < 2 ^ B
   have:0 < 2 ^ B:=Nat.pow_pos (by decide)
   omega
  refine ⟨_,rfl,a,rfl,⟨_,SqL.of ha⟩,?_⟩
  refine yT (xs:=vs) (fun i σ H'=>∃ b o,σ = [some (.int 0),some (.ref a),some (.int b),o]∧H' = H∧0 < b∧(∀ x∈xs.take i,La.dvB b x)∧b ∣ (Dn:Int)) ⟨1,none,rfl,rfl,by decide,fun x hx=>by simp at hx,⟨_,(Int.one_mul _).symm⟩⟩ ?_ ?_ ?_
  ·rintro i σ H' _ ⟨b,o,rfl,rfl,_⟩
   exact SqL.of ha
  ·rintro i v σ H' hv ⟨b,o,rfl,rfl,b0,dv,bD⟩
   obtain ⟨x,hx,rx⟩:=zW hp hv
   obtain ⟨r,rfl⟩:=isq i x hx
   obtain ⟨pa,rfl,hpa⟩:=rx.q
   obtain ⟨sn,sd,dD⟩:=parts r (List.mem_of_getElem? hx)
   obtain ⟨l1,l2,l3,l4⟩:=zfk b0 (den_pos r)
   have l5:=La.zgO b0 (den_pos r) bD dD
   have sf:Sm B (b.fdiv ((Int.gcd b (r.den:Int):Nat):Int)):=zbd (dle b b0 bD) (Int.gcd_dvd_left _ _)
   refine ⟨_,rfl,_,rfl,_,rfl,pa,_,_,_,rfl,rfl,SqT.of hpa,rfl,_,_,rfl,_,_,rfl,rfl,l4,?_⟩
   refine ⟨_,rfl,pa,_,_,_,rfl,rfl,SqT.of hpa,rfl,_,_,rfl,rfl,sf.mulOk sd (by omega),?_⟩
   refine ⟨_,_,rfl,rfl,l1,fun y hy=>?_,l5⟩
   rw [zD hx] at hy
   rcases List.mem_append.mp hy with hy | hy
   ·have:=dv y hy
    cases y with
    | q s=>exact Int.dvd_trans (show (s.den:Int) ∣ b from this) l2
    | z j=>trivial
   ·rw [List.mem_singleton.mp hy]; exact l3
  ·rintro σ H' ⟨b,o,rfl,rfl,b0,dv,bD⟩
   rw [hvl] at dv
   rw [List.take_length] at dv
   have sb:=dle b b0 bD
   refine ⟨_,rfl,a,rfl,⟨_,SqL.of ha⟩,?_⟩
   refine zT (xs:=vs) (fun i ys H2=>H2 = H'∧ys = ((xs.take i).map (La.scW b)).map V.int) ⟨rfl,by simp⟩ ?_ ?_ ?_
   ·rintro i ys H2 hi ⟨rfl,rfl⟩
    refine ⟨SqL.of ha,?_⟩
    rw [List.length_map,List.length_map,List.length_take]
    omega
   ·rintro i v ys H2 hv hi ⟨rfl,rfl⟩
    obtain ⟨x,hx,rx⟩:=zW hp hv
    obtain ⟨r,rfl⟩:=isq i x hx
    obtain ⟨pa,rfl,hpa⟩:=rx.q
    obtain ⟨sn,sd,dD⟩:=parts r (List.mem_of_getElem? hx)
    have dx:(r.den:Int) ∣ b:=dv _ (List.mem_of_getElem? hx)
    first | refine gyes ?_ | refine tyes ?_
    refine ⟨_,rfl,pa,_,_,_,rfl,rfl,SqT.of hpa,rfl,_,rfl,_,rfl,pa,_,_,_,rfl,rfl,SqT.of hpa,rfl,_,_,rfl,rfl,Zt r,_,_,rfl,rfl,sn.mulOk (zbd sb dx) (by omega),nxt hi ⟨rfl,?_⟩⟩
    rw [zD hx,List.map_append,List.map_append]; rfl
   ·rintro ys H2 ⟨rfl,rfl⟩ l hl
    rw [hvl,List.take_length] at *
    refine ⟨_,rfl,(by show 2≤sizeLine; decide),fun p hp'=>?_⟩
    have n1:l≠p:=fun e=>by rw [e,zf] at hp'; cases hp'
    refine q p _ ((ze hl _).trans (ze hp' _)) ⟨l,xs.map (La.scW b),b,zf,?_,⟨rfl,b0,fun z=>absurd rfl z,dv⟩,sb,fun w hw=>?_⟩
    ·show upd _ _ _ l = _
     rw [zJ n1]; exact zf
    ·obtain ⟨x,hx,rfl⟩:=List.mem_map.mp hw
     exact La.zee hk (ok x hx) b7 dn0 (hD x hx) b0 (dv x hx) fun _=>bD
noncomputable def zaG:Sp:=fun vs H Q _=>∃ (k t b:Int),vs = [.int k,.int t,.int b]∧KindOk k∧nnum k b≠nnum k 0∧Sm 60000000 t∧Sm 60000000 b∧∀ v H',Same H H'→RN H' (ndiv k (nnum k t) (nnum k b)) v→Q v H'
theorem zg4 (D:Df K mg "quotient" ["kind", "top", "bottom"] qt) (zie:Kn P w K mg base "over" 42 ["kind", "one", "other"] zdK) (xc:Kn P w K mg base "number" 1 ["kind", "whole"] jr):Kn P w K mg base "quotient" 43 ["kind", "top", "bottom"] zaG:=by
 refine D.kn zaQ (fun vs H Q E h=>?_) (fun f cdv A outer s H vs Q E hr h=>?_)
 ·obtain ⟨k,t,b,rfl,_⟩:=h; rfl
 obtain ⟨k,t,b,rfl,hk,ne,st,sb,q⟩:=h
 refine ⟨_,(zg (zk (zu zie (hr.mono (by decide)) rfl (za (pv 0) (za (zu xc (hr.mono (by decide)) rfl (za (pv 0) (za (pv 1) zd))) (za (zu xc (hr.mono (by decide)) rfl (za (pv 0) (za (pv 2) zd))) zd)))))),?_⟩
 refine ⟨_,rfl,_,rfl,_,rfl,k,t,rfl,fun v1 H1 g1 r1=>?_⟩
 refine ⟨_,rfl,_,rfl,k,b,rfl,fun v2 H2 g2 r2=>?_⟩
 refine ⟨k,_,_,v1,v2,rfl,⟨hk,La.zI hk t,La.zI hk b,jx hk st (by decide),jx hk sb (by decide),r1.mono g2,r2⟩,ne,fun v3 H3 g3 r3=>?_⟩
 exact q v3 H3 ((g1.trans g2).trans g3) r3
noncomputable def Qi:Sp:=fun vs H Q _=>∃ (k:Int) (ws:List Int) (a:Addr),vs = [.int k,.ref a]∧KindOk k∧IRow H ws a∧ws.length < sizeLine∧∀ p H',Same H H'→IRow H' (La.easedM k ws) p→Q (.ref p) H'
theorem zfQ (hP:P.given.tree = none) (hS:base.NoSeer) (D:Df K mg "eased" ["kind", "wholes"] JA) (yy:Kn P w K mg base "common_divisor" 1 ["one", "other"] za4):Kn P w K mg base "eased" 41 ["kind", "wholes"] Qi:=by
 refine D.kn sc_eased (fun vs H Q E h=>?_) (fun f cdv A outer s H vs Q E hr h=>?_)
 ·obtain ⟨k,ws,a,rfl,_⟩:=h; rfl
 obtain ⟨k,ws,a,rfl,hk,ha,hz,q⟩:=h
 refine ⟨_,(zc (yi (zH Yh (pv 0) zb (nomark _)) (zg (zk (ya ["whole"] ["kind"] [0] ⟨rfl,rfl,rfl,rfl,rfl,rfl,by decide +kernel⟩ rfl (zM (pv 1)) (zo (by decide)) fun _ _ _ _ _ _=>⟨(zh (i:=0) (by decide:(["whole", "kind"]:List Str).Nodup) rfl (by first | exact Or.inl rfl | exact Or.inr rfl)),zQ,(zi zN (pv 0) (pv 1))⟩))) zL) (zc (zm (i:=2) sc_eased.nd rfl (.inr rfl) zb) (zc (yu PassesOwn.never rfl (zM (pv 1)) (zh (i:=3) sc_eased.nd rfl (.inl rfl)) (zc (zm (i:=2) sc_eased.nd rfl (.inr rfl) (zu yy (hr.mono (by decide)) rfl (za (pv 2) (za (pv 3) zd)))) (zg (yi (zH xt (pv 2) zb (nomark _)) (zg (zk (pv 1))) zL)))) (zc (yi (zH xt (pv 2) zb (nomark _)) (zg (zk (pv 1))) zL) (zg (zk (ya ["whole"] ["divisor"] [2] ⟨rfl,rfl,rfl,rfl,rfl,rfl,by decide +kernel⟩ rfl (zM (pv 1)) (zo (by decide)) fun _ _ _ _ _ _=>⟨(zh (i:=0) (by decide:(["whole", "divisor"]:List Str).Nodup) rfl (by first | exact Or.inl rfl | exact Or.inr rfl)),zQ,(zi (zV hr (by decide) hP hS ⟨_,_,rfl,rfl,rfl,rfl,rfl⟩) (pv 0) (pv 1))⟩))))))),?_⟩
 refine ⟨_,rfl,rfl,_,rfl,?_⟩
 refine ite2 (fun c=>?_) (fun c=>?_)
 ·have k0:k≠0:=fun z=>by rw [z] at c; exact absurd c (by decide)
  refine ⟨_,rfl,a,rfl,⟨_,SqL.of ha⟩,?_⟩
  refine zT (xs:=ws.map V.int) (fun i ys H'=>H' = H∧ys = ((ws.take i).map (·.fmod k)).map V.int) ⟨rfl,by simp⟩ ?_ ?_ ?_
  ·rintro i ys H' hi ⟨rfl,rfl⟩
   refine ⟨SqL.of ha,?_⟩
   rw [List.length_map,List.length_map,List.length_take]; omega
  ·rintro i v ys H' hv hi ⟨rfl,rfl⟩
   rw [List.getElem?_map] at hv
   obtain ⟨u,hu,rfl⟩:=Option.map_eq_some_iff.mp hv
   first | refine gyes ?_ | refine tyes ?_
   refine ⟨_,rfl,_,rfl,_,_,rfl,rfl,k0,nxt hi ⟨rfl,?_⟩⟩
   rw [zD hu,List.map_append,List.map_append]; rfl
  ·rintro ys H' ⟨rfl,rfl⟩ p hp
   rw [List.length_map,List.take_length]
   refine q p _ (ze hp _) ?_
   rw [La.zcv k0]
   exact zf
 ·have k0:k = 0:=by
   by_cases z:k = 0
   ·exact z
   ·exact absurd (by have h':¬ V.int k = V.int 0:=fun e=>z (V.int.inj e); rw [decide_eq_false h']; rfl) c
  subst k0
  refine ⟨_,rfl,a,rfl,⟨_,SqL.of ha⟩,?_⟩
  refine yT (xs:=ws.map V.int) (fun i σ H'=>∃ o,σ = [some (.int 0),some (.ref a),some (.int ((La.gcdL (ws.take i):Nat):Int)),o]∧H' = H) ⟨none,rfl,rfl⟩ ?_ ?_ ?_
  ·rintro i σ H' _ ⟨o,rfl,rfl⟩
   exact SqL.of ha
  ·rintro i v σ H' hv ⟨o,rfl,rfl⟩
   rw [List.getElem?_map] at hv
   obtain ⟨u,hu,rfl⟩:=Option.map_eq_some_iff.mp hv
   have eg:((Int.gcd ((La.gcdL (ws.take i):Nat):Int) u:Nat):Int) = ((La.gcdL (ws.take (i + 1)):Nat):Int):=by
    rw [zD hu,La.zec,Int.gcd_eq_natAbs_gcd_natAbs,Int.natAbs_natCast]
   refine ⟨_,rfl,_,rfl,_,_,rfl,?_⟩
   rw [eg]
   refine ⟨_,rfl,rfl,_,rfl,?_⟩
   refine ite2 (fun c1=>?_) (fun c1=>?_)
   ·have e1:((La.gcdL (ws.take (i + 1)):Nat):Int) = 1:=V.int.inj (of_decide_eq_true c1)
    refine ⟨_,rfl,q a _ (Same.refl _) ?_⟩
    rw [La.zcd (La.zeU (i:=i + 1) (by omega))]
    exact ha
   ·exact ⟨_,rfl,rfl⟩
  ·rintro σ H' ⟨o,rfl,rfl⟩
   rw [List.length_map,List.take_length]
   refine ⟨_,rfl,rfl,_,rfl,?_⟩
   refine ite2 (fun c1=>?_) (fun c1=>?_)
   ·have e1:((La.gcdL ws:Nat):Int) = 0:=V.int.inj (of_decide_eq_true c1)
    refine ⟨_,rfl,q a _ (Same.refl _) ?_⟩
    rw [La.zcu (by omega)]
    exact ha
   ·have e1:((La.gcdL ws:Nat):Int)≠0:=fun z=>by rw [z] at c1; exact c1 (by decide)
    refine ⟨_,rfl,a,rfl,⟨_,SqL.of ha⟩,?_⟩
    refine zT (xs:=ws.map V.int) (fun i ys H2=>H2 = H'∧ys = ((ws.take i).map fun w=>w.fdiv ((La.gcdL ws:Nat):Int)).map V.int) ⟨rfl,by simp⟩ ?_ ?_ ?_
    ·rintro i ys H2 hi ⟨rfl,rfl⟩
     refine ⟨SqL.of ha,?_⟩
     rw [List.length_map,List.length_map,List.length_take]; omega
    ·rintro i v ys H2 hv hi ⟨rfl,rfl⟩
     rw [List.getElem?_map] at hv
     obtain ⟨u,hu,rfl⟩:=Option.map_eq_some_iff.mp hv
     first | refine gyes ?_ | refine tyes ?_
     refine ⟨_,rfl,_,rfl,_,_,rfl,rfl,e1,nxt hi ⟨rfl,?_⟩⟩
     rw [zD hu,List.map_append,List.map_append]; rfl
    ·rintro ys H2 ⟨rfl,rfl⟩ p hp
     rw [List.length_map,List.take_length]
     refine q p _ (ze hp _) ?_
     rw [La.zcI (by omega)]
     exact zf
noncomputable def XM:Sp:=fun vs H Q _=>∃ (k:Int) (row lead:List Int) (c:Nat) (ra la:Addr) (b:Nat),vs = [.int k,.ref ra,.ref la,.int (0 + (c:Int))]∧KindOk k∧IRow H row ra∧IRow H lead la∧row.length = lead.length∧c < row.length∧row.length < sizeLine∧(∀ w∈row,Sm b w)∧(∀ w∈lead,Sm b w)∧b≤60000000 ∧
 ∀ p H',Same H H'→IRow H' (La.clearedM k lead c row) p→Q (.ref p) H'
theorem zcs (D:Df K mg "cleared" ["kind", "row", "lead_row", "column"] Zm) (zaZ:Kn P w K mg base "eased" 41 ["kind", "wholes"] Qi) (m_zip:mg "zip" = none):Kn P w K mg base "cleared" 42 ["kind", "row", "lead_row", "column"] XM:=by
 refine D.kn zb7 (fun vs H Q E h=>?_) (fun f cdv A outer s H vs Q E hr h=>?_)
 ·obtain ⟨k,row,lead,c,ra,la,b,rfl,_⟩:=h; rfl
 obtain ⟨k,row,lead,c,ra,la,b,rfl,hk,hra,hla,hl,hc,hz,s1,s2,hb,q⟩:=h
 refine ⟨_,(zc (yi (zH xt (zE zp (pv 1) (pv 3) (fun _ _=>rfl)) zb (nomark _)) (zg (zk (pv 1))) zL) (zg (zk (zu zaZ (hr.mono (by decide)) rfl (za (pv 0) (za (ya ["left", "right"] ["lead_row", "column", "row"] [2,3,1] ⟨rfl,rfl,rfl,rfl,rfl,rfl,by decide +kernel⟩ rfl (qJ rfl m_zip (za (pv 1) (za (pv 2) zd))) (qr (yj (zo (by decide)) yk (yj (zo (by decide)) yk jq))) fun _ _ _ _ _ _=>⟨(jh 2 rfl (zS (zh (i:=0) (by decide:(["left", "right", "lead_row", "column", "row"]:List Str).Nodup) rfl (by first | exact Or.inl rfl | exact Or.inr rfl)) (zS (zh (i:=1) (by decide:(["left", "right", "lead_row", "column", "row"]:List Str).Nodup) rfl (by first | exact Or.inl rfl | exact Or.inr rfl)) xn))),zQ,(zi xG (zi zU (zE zp (pv 2) (pv 3) (fun _ _=>rfl)) (pv 0)) (zi zU (zE zp (pv 4) (pv 3) (fun _ _=>rfl)) (pv 1)))⟩) zd)))))),?_⟩
 refine ⟨_,rfl,_,rfl,ra,_,_,_,rfl,rfl,SqL.of hra,Xo hra hc,rfl,_,rfl,?_⟩
 refine ite2 (fun c1=>?_) (fun c1=>?_)
 ·have e1:row.getD c 0 = 0:=V.int.inj (of_decide_eq_true c1)
  refine ⟨_,rfl,q ra _ (Same.refl _) ?_⟩
  unfold La.clearedM
  rw [if_pos e1]
  exact hra
 ·have e1:row.getD c 0≠0:=fun z=>by rw [z] at c1; exact c1 (by decide)
  refine ⟨_,rfl,_,rfl,_,rfl,ra,la,_,_,rfl,SqL.of hra,SqL.of hla,?_⟩
  refine qu (xs:=row.map V.int) (zs:=lead.map V.int) (by rw [List.length_map,List.length_map]; omega) (fun i ys' H'=>Same H H'∧ys' = ((La.mixed row lead c).take i).map V.int) ⟨Same.refl H,by simp⟩ ?_ ?_ ?_
  ·rintro i ys' H' hi ⟨g,rfl⟩
   refine ⟨SqL.of (hra.mono g),SqL.of (hla.mono g),?_⟩
   rw [List.length_map,List.length_take,La.qj hl]
   omega
  ·rintro i x z T ys' H' hx hy hi hT ⟨g,rfl⟩
   rw [List.getElem?_map] at hx hy
   obtain ⟨u,hu,rfl⟩:=Option.map_eq_some_iff.mp hx
   obtain ⟨u',hu',rfl⟩:=Option.map_eq_some_iff.mp hy
   have g':=g.trans (ze hT (.tup [.int u,.int u']))
   refine ⟨T,_,rfl,SqT.of zf,rfl,_,_,rfl,_,_,rfl,rfl,?_⟩
   first | refine gyes ?_ | refine tyes ?_
   refine ⟨_,rfl,_,rfl,la,_,_,_,rfl,rfl,SqL.of (hla.mono g'),Xo (hla.mono g') (by omega),_,rfl,_,_,rfl,rfl,(qK s2 c).mulOk (s1 u (List.mem_of_getElem? hu)) (by omega),?_⟩
   refine ⟨_,rfl,_,rfl,ra,_,_,_,rfl,rfl,SqL.of (hra.mono g'),Xo (hra.mono g') (by omega),_,rfl,_,_,rfl,rfl,(qK s1 c).mulOk (s2 u' (List.mem_of_getElem? hu')) (by omega),_,_,rfl,rfl,nxt hi ⟨g',?_⟩⟩
   have e:(La.mixed row lead c)[i]? = some (lead.getD c 0 * u - row.getD c 0 * u'):=by unfold La.mixed; rw [List.getElem?_zipWith,hu,hu']
   rw [zD e,List.map_append]; rfl
  ·rintro ys' H' ⟨g,rfl⟩ pl hpl
   rw [List.length_map,List.take_of_length_le (by rw [La.qj hl]; exact Nat.le_refl _)]
   refine ⟨k,_,pl,rfl,hk,zf,by rw [La.qj hl]; exact hz,fun p H2 g2 hp=>?_⟩
   refine q p H2 ((g.trans (ze hpl _)).trans g2) ?_
   unfold La.clearedM
   rw [if_neg e1]
   exact hp
noncomputable def zbL:Sp:=fun vs H Q _=>∃ (k:Int) (Ws:List (List Int)) (n b:Nat) (t:Addr) (ras:List Addr),vs = [.int k,.ref t]∧KindOk k∧IRs H Ws t ras∧(∀ r∈Ws,r.length = n)∧n < sizeLine∧Ws.length≤8000000∧(∀ r∈Ws,∀ w∈r,Sm b w)∧61≤b∧(b + 1) * 2 ^ n≤60000000 ∧
 ∀ p rs H',Same H H'→IRs H' ((La.swTo k Ws n).1.map (·.2)) p rs→Q (.ref p) H'
theorem zeV (D:Df K mg "swept" ["kind", "rows"] Qa) (zaZ:Kn P w K mg base "eased" 41 ["kind", "wholes"] Qi) (Qw:Kn P w K mg base "cleared" 42 ["kind", "row", "lead_row", "column"] XM) (m_len:mg "len" = none) (zt:mg "range" = none):Kn P w K mg base "swept" 43 ["kind", "rows"] zbL:=by
 refine D.kn sc_swept (fun vs H Q E h=>?_) (fun f cdv A outer s H vs Q E hr h=>?_)
 ·obtain ⟨k,Ws,n,b,t,ras,rfl,_⟩:=h; rfl
 obtain ⟨k,Ws,n,b,t,ras,rfl,hk,hI,hl,nz,wz,sz,b7,hb,q⟩:=h
 have szl:sizeLine = 16777216:=by decide
 have lras:=zj hI.2
 refine ⟨_,(zc (zm (i:=2) sc_swept.nd rfl (.inl rfl) (yC zd)) (zc (je (i:=3) sc_swept.nd rfl rfl ["row"] ["kind"] [0] ⟨rfl,rfl,rfl,rfl,rfl,rfl,by decide +kernel⟩ rfl (zM (pv 1)) (zo (by decide)) fun _ _ _ _ _ _=>⟨(zh (i:=0) (by decide:(["row", "kind"]:List Str).Nodup) rfl (by first | exact Or.inl rfl | exact Or.inr rfl)),zQ,(zu zaZ (hr.mono (by decide)) rfl (za (pv 1) (za (pv 0) zd)))⟩) (zc (zm (i:=4) sc_swept.nd rfl (.inl rfl) (ze0 (zH Yj (zG zP rfl m_len yt (za (pv 1) zd)) zb (nomark _)) (zG zP rfl m_len yt (za (zE zp (pv 1) zb (fun _ _=>rfl)) zd)) zb)) (zc (yu PassesOwn.never rfl (zR rfl zt (za (pv 4) zd)) (zh (i:=5) sc_swept.nd rfl (.inr rfl)) (zc (je (i:=6) sc_swept.nd rfl rfl ["row"] ["column"] [5] ⟨rfl,rfl,rfl,rfl,rfl,rfl,by decide +kernel⟩ rfl (zM (pv 3)) (zo (by decide)) fun _ _ _ _ _ _=>⟨(zh (i:=0) (by decide:(["row", "column"]:List Str).Nodup) rfl (by first | exact Or.inl rfl | exact Or.inr rfl)),(JX (zH Yh (zE zp (pv 0) (pv 1) (fun _ _=>rfl)) zb (nomark _))),(pv 0)⟩) (zg (yi (zH Yj (zG zP rfl m_len yt (za (pv 6) zd)) zb (nomark _)) (zc (zm (i:=7) sc_swept.nd rfl (.inr rfl) (zE zp (pv 6) zb (fun _ _=>rfl))) (zc (je (i:=3) sc_swept.nd rfl rfl ["row"] ["column"] [5] ⟨rfl,rfl,rfl,rfl,rfl,rfl,by decide +kernel⟩ rfl (zM (pv 3)) (zo (by decide)) fun _ _ _ _ _ _=>⟨(zh (i:=0) (by decide:(["row", "column"]:List Str).Nodup) rfl (by first | exact Or.inl rfl | exact Or.inr rfl)),(JX (zH xt (zE zp (pv 0) (pv 1) (fun _ _=>rfl)) zb (nomark _))),(pv 0)⟩) (zc (qR (bm0 (fun _ h=>zcn PySem.F.plainAttrs_list PySem.F.slot_list_extend PySem.F.type_list_extend zey h (za (ya ["row"] ["kind", "lead_row", "column"] [0,7,5] ⟨rfl,rfl,rfl,rfl,rfl,rfl,by decide +kernel⟩ rfl (zM (jy qv (pv 6) (jX zb) ZD)) (zo (by decide)) fun _ _ _ _ _ _=>⟨(zh (i:=0) (by decide:(["row", "kind", "lead_row", "column"]:List Str).Nodup) rfl (by first | exact Or.inl rfl | exact Or.inr rfl)),zQ,(zu Qw (hr.mono (by decide)) rfl (za (pv 1) (za (pv 0) (za (pv 2) (za (pv 3) zd)))))⟩) zd)) (pv 3))) (zc (je (i:=2) sc_swept.nd rfl rfl ["row"] ["kind", "lead_row", "column"] [0,7,5] ⟨rfl,rfl,rfl,rfl,rfl,rfl,by decide +kernel⟩ rfl (zM (pv 2)) (zo (by decide)) fun _ _ _ _ _ _=>⟨(zh (i:=0) (by decide:(["row", "kind", "lead_row", "column"]:List Str).Nodup) rfl (by first | exact Or.inl rfl | exact Or.inr rfl)),zQ,(zu Qw (hr.mono (by decide)) rfl (za (pv 1) (za (pv 0) (za (pv 2) (za (pv 3) zd)))))⟩) (zg (qR (bm0 (fun _ h=>zcn PySem.F.plainAttrs_list PySem.F.slot_list_append PySem.F.type_list_append qh h (za (pv 7) zd)) (pv 2)))))))) zL)))) (zg (zk (pv 2))))))),?_⟩
 refine ⟨(by show 0≤sizeLine; decide),fun pd hpd=>?_⟩
 have g0:=ze hpd (.lst [])
 have hpd0:upd H pd (.lst []) pd = some (.lst []):=zf
 generalize upd H pd (.lst []) = H0 at *
 refine ⟨_,rfl,t,rfl,⟨_,SqL.of (g0 _ _ hI.1)⟩,?_⟩
 refine zT (xs:=ras.map V.ref) (fun i ys H'=>∃ rs,ys = rs.map V.ref∧Same H0 H'∧Paired (IRow H') ((Ws.map (La.easedM k)).take i) rs) ⟨[],rfl,Same.refl _,.nil⟩ ?_ ?_ ?_
 ·rintro i ys H' hi ⟨rs,rfl,g,pr⟩
  refine ⟨SqL.of (g _ _ (g0 _ _ hI.1)),?_⟩
  have:=zj pr
  rw [List.length_take,List.length_map] at this
  rw [List.length_map]; omega
 ·rintro i v ys H' hv hi ⟨rs,rfl,g,pr⟩
  obtain ⟨ws,a,hw,ha,rfl,hrow⟩:=(hI.mono (g0.trans g)).row hv
  first | refine gyes ?_ | refine tyes ?_
  refine ⟨_,rfl,_,rfl,k,ws,a,rfl,hk,hrow,by rw [hl ws (List.mem_of_getElem? hw)]; exact nz,fun p H2 g2 hp=>nxt hi ⟨rs ++ [p],by rw [List.map_append]; rfl,g.trans g2,?_⟩⟩
  have e:(Ws.map (La.easedM k))[i]? = some (La.easedM k ws):=by rw [List.getElem?_map,hw]; rfl
  rw [zD e]
  exact yb (qH g2 pr) hp
 rintro ys H' ⟨rs,rfl,g,pr⟩ pw hpw
 rw [List.length_map,List.take_of_length_le (by rw [List.length_map]; omega)] at pr
 have g1:=(g0.trans g).trans (ze hpw (.lst (rs.map V.ref)))
 have hpw1:upd H' pw (.lst (rs.map V.ref)) pw = some (.lst (rs.map V.ref)):=zf
 have pr1:=qH (ze hpw (.lst (rs.map V.ref))) pr
 have hpd1:=ze hpw (.lst (rs.map V.ref)) _ _ (g _ _ hpd0)
 generalize upd H' pw (.lst (rs.map V.ref)) = H1 at *
 clear g pr hpw g0 hpd0
 refine ⟨_,rfl,t,_,rfl,.inl (SqL.of (g1 _ _ hI.1)),_,_,rfl,rfl,_,rfl,?_⟩
 rw [List.length_map,← lras]
 refine ite2 (fun c=>?_) (fun c=>?_)
 ·have c':0 < (Ws.length:Int):=of_decide_eq_true c
  obtain ⟨r0,ras',e0⟩ : ∃ r0 ras',ras = r0 :: ras':=by
   cases ras with
   | nil=>rw [List.length_nil] at lras; omega
   | cons a b=>exact ⟨a,b,rfl⟩
  obtain ⟨w0,hw0,hr0⟩:=zW (hI.mono g1).2 (i:=0) (b:=r0) (by rw [e0]; rfl)
  have lw0:=hl w0 (List.mem_of_getElem? hw0)
  refine ⟨_,rfl,t,_,_,_,rfl,rfl,SqL.of (g1 _ _ hI.1),(by rw [e0]; exact zK (j:=0) rfl),r0,_,rfl,.inl (SqL.of hr0),?_⟩
  rw [List.length_map,lw0]
  refine ⟨_,rfl,_,rfl,(by omega),(by omega),?_⟩
  rw [Int.toNat_natCast]
  have fine:=La.Fine.to (k:=k) hk.lt.1 hl
  have szs:=zhe hk b7 hl sz
  have lens:=La.Jy (k:=k) Ws
  refine yz (lo:=0) (n:=n) (fun i σ H'=>∃ td tw rd rw o5 o6 o7,σ = [some (.int k),some (.ref t),some (.ref td),some (.ref tw),some (.int (n:Int)),o5,o6,o7]∧Same H H'∧IRs H' ((La.swTo k Ws i).1.map (·.2)) td rd∧IRs H' (La.swTo k Ws i).2 tw rw) ⟨pd,pw,[],rs,none,none,none,rfl,g1,⟨hpd1,.nil⟩,⟨hpw1,pr1⟩⟩ ?_ ?_
  ·rintro i σ H2 hi ⟨td,tw,rd,rw',o5,o6,o7,rfl,g2,hD,hW⟩
   have fi:=fine i
   have si:=szs i
   have li:=lens i
   have e1:La.swTo k Ws (i + 1) = La.swTurn k i (La.swTo k Ws i):=rfl
   rw [e1]
   generalize La.swTo k Ws i = S at *
   obtain ⟨Dn,Wt⟩:=S
   have bnd:(b + 1) * 2 ^ i - 1≤60000000:=by
    have:2 ^ i≤2 ^ n:=Nat.pow_le_pow_right (by decide) (by omega)
    have:(b + 1) * 2 ^ i≤(b + 1) * 2 ^ n:=Nat.mul_le_mul_left _ this
    omega
   generalize (b + 1) * 2 ^ i - 1 = bb at *
   dsimp only at hD hW li
   have lD:=zj hD.2
   have lW:=zj hW.2
   rw [List.length_map] at lD
   have wlen:∀ ws∈Wt,ws.length = n:=fi.wl
   have dlen:∀ ws∈Dn.map (·.2),ws.length = n:=fun ws hw=>by
    obtain ⟨p,hp,rfl⟩:=List.mem_map.mp hw
    exact fi.dl p hp
   have nn:∀ ws:List Int,ws.length = n→ws≠[]:=fun ws h e=>by rw [e] at h; simp at h; omega
   refine ⟨_,rfl,tw,rfl,⟨_,SqL.of hW.1⟩,?_⟩
   refine zT (xs:=rw'.map V.ref) (fun j ys H3=>H3 = H2∧∃ rl,ys = rl.map V.ref∧Paired (IRow H2) ((Wt.take j).filter fun r=>decide (r.getD i 0≠0)) rl) ⟨rfl,[],rfl,.nil⟩ ?_ ?_ ?_
   ·rintro j ys H3 hj ⟨rfl,rl,rfl,prl⟩
    refine ⟨SqL.of hW.1,?_⟩
    have:=zj prl
    have h2:=List.length_filter_le (fun r:List Int=>decide (r.getD i 0≠0)) (Wt.take j)
    rw [List.length_take] at h2
    rw [List.length_map]; omega
   ·rintro j v ys H3 hv hj ⟨rfl,rl,rfl,prl⟩
    obtain ⟨ws,a,hw,ha,rfl,hrow⟩:=hW.row hv
    have lw:=wlen ws (List.mem_of_getElem? hw)
    refine ⟨_,rfl,_,rfl,a,_,_,_,rfl,rfl,SqL.of hrow,Xo hrow (by omega),rfl,_,rfl,?_⟩
    refine ite2 (fun c1=>?_) (fun c1=>?_)
    ·have z:ws.getD i 0≠0:=fun z=>by rw [z] at c1; exact absurd c1 (by decide)
     refine ⟨_,rfl,nxt hj ⟨rfl,rl ++ [a],by rw [List.map_append]; rfl,?_⟩⟩
     rw [La.yK _ hw,if_pos (decide_eq_true z)]
     exact yb prl hrow
    ·have z:ws.getD i 0 = 0:=by
      by_cases z:ws.getD i 0 = 0
      ·exact z
      ·exact absurd (by have h':¬ V.int (ws.getD i 0) = V.int 0:=fun e=>z (V.int.inj e); rw [decide_eq_false h']; rfl) c1
     refine nxt hj ⟨rfl,rl,rfl,?_⟩
     rw [La.yK _ hw,if_neg (show ¬ decide (ws.getD i 0≠0) = true from fun h=>of_decide_eq_true h z),List.append_nil]
     exact prl
   rintro ys H3 ⟨rfl,rl,rfl,prl⟩ pl hpl
   rw [List.length_map,List.take_of_length_le (by omega)] at prl
   have g3:=ze hpl (.lst (rl.map V.ref))
   have hpl3:upd H3 pl (.lst (rl.map V.ref)) pl = some (.lst (rl.map V.ref)):=zf
   have prl3:=qH g3 prl
   have hD3:=hD.mono g3
   have hW3:=hW.mono g3
   have g23:=g2.trans g3
   generalize upd H3 pl (.lst (rl.map V.ref)) = H4 at *
   clear prl hpl hD hW
   have lrl:=zj prl3
   refine ⟨_,rfl,pl,_,rfl,.inl (SqL.of hpl3),_,_,rfl,rfl,_,rfl,?_⟩
   rw [List.length_map,← lrl]
   refine ite2 (fun c1=>?_) (fun c1=>?_)
   ·have c2:0 < ((Wt.filter fun r=>decide (r.getD i 0≠0)).length:Int):=of_decide_eq_true c1
    cases ef:Wt.filter (fun r=>decide (r.getD i 0≠0)) with
    | nil=>rw [ef] at c2; simp at c2
    | cons lead rest =>
     rw [ef] at prl3 lrl
     have turn:La.swTurn k i (Dn,Wt) = (Dn.map (fun p=>(p.1,La.clearedM k lead i p.2)) ++ [(i,lead)],Wt.filter (fun r=>decide (r.getD i 0 = 0)) ++ rest.map (La.clearedM k lead i)):=by
      unfold La.swTurn
      simp only [ef]
     rw [turn]
     obtain ⟨ld,rl',rfl⟩ : ∃ ld rl',rl = ld :: rl':=by
      cases rl with
      | nil=>simp at lrl
      | cons a b=>exact ⟨a,b,rfl⟩
     obtain ⟨hld,prest⟩ : IRow H4 lead ld∧Paired (IRow H4) rest rl':=by
      cases prl3 with
      | cons h t=>exact ⟨h,t⟩
     have memW:∀ r∈lead :: rest,r∈Wt:=fun r hr=>by rw [← ef] at hr; exact (List.mem_filter.mp hr).1
     have hlead:=memW lead List.mem_cons_self
     have llead:=wlen lead hlead
     have slead:=si.2 lead hlead
     have lf:=List.length_filter_le (fun r:List Int=>decide (r.getD i 0≠0)) Wt
     rw [ef,List.length_cons] at lf
     refine ⟨_,rfl,pl,_,_,_,rfl,rfl,SqL.of hpl3,zK (j:=0) rfl,?_⟩
     refine ⟨_,rfl,tw,rfl,⟨_,SqL.of hW3.1⟩,?_⟩
     refine zT (xs:=rw'.map V.ref) (fun j ys H5=>H5 = H4∧∃ rz,ys = rz.map V.ref∧Paired (IRow H4) ((Wt.take j).filter fun r=>decide (r.getD i 0 = 0)) rz) ⟨rfl,[],rfl,.nil⟩ ?_ ?_ ?_
     ·rintro j ys H5 hj ⟨rfl,rz,rfl,prz⟩
      refine ⟨SqL.of hW3.1,?_⟩
      have:=zj prz
      have h2:=List.length_filter_le (fun r:List Int=>decide (r.getD i 0 = 0)) (Wt.take j)
      rw [List.length_take] at h2
      rw [List.length_map]; omega
     ·rintro j v ys H5 hv hj ⟨rfl,rz,rfl,prz⟩
      obtain ⟨ws,a,hw,ha,rfl,hrow⟩:=hW3.row hv
      have lw:=wlen ws (List.mem_of_getElem? hw)
      refine ⟨_,rfl,_,rfl,a,_,_,_,rfl,rfl,SqL.of hrow,Xo hrow (by omega),rfl,_,rfl,?_⟩
      refine ite2 (fun c1=>?_) (fun c1=>?_)
      ·have z:ws.getD i 0 = 0:=V.int.inj (of_decide_eq_true c1)
       refine ⟨_,rfl,nxt hj ⟨rfl,rz ++ [a],by rw [List.map_append]; rfl,?_⟩⟩
       rw [La.yK _ hw,if_pos (decide_eq_true z)]
       exact yb prz hrow
      ·have z:ws.getD i 0≠0:=fun z=>by rw [z] at c1; exact c1 (by decide)
       refine nxt hj ⟨rfl,rz,rfl,?_⟩
       rw [La.yK _ hw,if_neg (show ¬ decide (ws.getD i 0 = 0) = true from fun h=>z (of_decide_eq_true h)),List.append_nil]
       exact prz
     rintro ys H5 ⟨rfl,rz,rfl,prz⟩ pz hpz
     rw [List.length_map,List.take_of_length_le (by omega)] at prz
     have g5:=ze hpz (.lst (rz.map V.ref))
     have hpz5:upd H5 pz (.lst (rz.map V.ref)) pz = some (.lst (rz.map V.ref)):=zf
     have pzH:H pz = none:=g23.none hpz
     have ntd:td≠pz:=fun e=>by rw [← e,hD3.1] at hpz; cases hpz
     have prz5:=qH g5 prz
     have prest5:=qH g5 prest
     have hld5:=hld.mono g5
     have hD5:=hD3.mono g5
     have hpl5:=g5 _ _ hpl3
     have g25:=g23.trans g5
     generalize upd H5 pz (.lst (rz.map V.ref)) = H6 at *
     clear prz hpz prest hld hD3 hpl3 g23 hW3 prl3 g3 g5 c1
     have lrz:=zj prz5
     have lfz:=List.length_filter_le (fun r:List Int=>decide (r.getD i 0 = 0)) Wt
     have zlen:∀ ws∈Wt.filter (fun r=>decide (r.getD i 0 = 0)),ws.length = n:=fun ws hw=>wlen ws (List.mem_filter.mp hw).1
     have lrest:=zj prest5
     refine ⟨_,rfl,.inl ⟨rfl,_,SqL.of hpz5⟩,_,rfl,_,rfl,pl,_,rfl,SqL.of hpl5,fun pc hpc=>?_⟩
     rw [cut1]
     have g7:=ze hpc (.lst (((ld :: rl').map V.ref).drop 1))
     have hpc7:upd H6 pc (.lst (((ld :: rl').map V.ref).drop 1)) pc = some (.lst (rl'.map V.ref)):=zf
     generalize upd H6 pc (.lst (((ld :: rl').map V.ref).drop 1)) = H7 at *
     refine ⟨pc,rfl,⟨_,SqL.of hpc7⟩,?_⟩
     refine zT (xs:=rl'.map V.ref) (fun j ys H8=>∃ rc,ys = rc.map V.ref∧Same H7 H8∧Paired (IRow H8) ((rest.map (La.clearedM k lead i)).take j) rc) ⟨[],rfl,Same.refl _,.nil⟩ ?_ ?_ ?_
     ·rintro j ys H8 hj ⟨rc,rfl,g8,prc⟩
      refine ⟨SqL.of (g8 _ _ hpc7),?_⟩
      have:=zj prc
      rw [List.length_take,List.length_map] at this
      rw [List.length_map]; omega
     ·rintro j v ys H8 hv hj ⟨rc,rfl,g8,prc⟩
      rw [List.getElem?_map] at hv
      obtain ⟨a,ha,rfl⟩:=Option.map_eq_some_iff.mp hv
      obtain ⟨ws,hw,hrow⟩:=zW prest5 ha
      have hm:=memW ws (List.mem_cons_of_mem _ (List.mem_of_getElem? hw))
      have lw:=wlen ws hm
      first | refine gyes ?_ | refine tyes ?_
      refine ⟨_,rfl,_,rfl,_,rfl,_,rfl,k,ws,lead,i,a,ld,bb,rfl,hk,hrow.mono (g7.trans g8),hld5.mono (g7.trans g8),by omega,by omega,by omega,si.2 ws hm,slead,bnd,fun p H9 g9 hp=>nxt hj ⟨rc ++ [p],by rw [List.map_append]; rfl,g8.trans g9,?_⟩⟩
      have e:(rest.map (La.clearedM k lead i))[j]? = some (La.clearedM k lead i ws):=by rw [List.getElem?_map,hw]; rfl
      rw [zD e]
      exact yb (qH g9 prc) hp
     rintro ys H8 ⟨rc,rfl,g8,prc⟩ pe hpe
     rw [List.length_map,List.take_of_length_le (by rw [List.length_map]; omega)] at prc
     have lrc:=zj prc
     rw [List.length_map] at lrc
     have g9:=(g7.trans g8).trans (ze hpe (.lst (rc.map V.ref)))
     have hpe9:upd H8 pe (.lst (rc.map V.ref)) pe = some (.lst (rc.map V.ref)):=zf
     have prc9:=qH (ze hpe (.lst (rc.map V.ref))) prc
     generalize upd H8 pe (.lst (rc.map V.ref)) = H9 at *
     clear prc hpe g8 hpc7 hpc g7
     have clen:∀ ws∈rest.map (La.clearedM k lead i),ws.length = n:=fun ws hw=>by
      obtain ⟨x,hx,rfl⟩:=List.mem_map.mp hw
      have hm:=wlen x (memW x (List.mem_cons_of_mem _ hx))
      rw [La.xU (by omega)]; exact hm
     refine ⟨pz,pe,_,_,rfl,rfl,g9 _ _ hpz5,hpe9,(by rw [List.length_map,List.length_map]; omega),?_⟩
     have hpz9:=g9 _ _ hpz5
     have prz10:=jp (o:=.lst (rz.map V.ref ++ rc.map V.ref)) hpz9 (qH g9 prz5) fun ws hw=>nn ws (zlen ws hw)
     have prc10:=jp (o:=.lst (rz.map V.ref ++ rc.map V.ref)) hpz9 prc9 fun ws hw=>nn ws (clen ws hw)
     have hld10:IRow (upd H9 pz (.lst (rz.map V.ref ++ rc.map V.ref))) lead ld:=by
      show upd H9 pz _ ld = _
      rw [zJ ((hld5.mono g9).ne (nn lead llead) hpz9)]; exact hld5.mono g9
     have hW10:upd H9 pz (.lst (rz.map V.ref ++ rc.map V.ref)) pz = some (.lst ((rz ++ rc).map V.ref)):=by rw [zf,List.map_append]
     have hD10:IRs (upd H9 pz (.lst (rz.map V.ref ++ rc.map V.ref))) (Dn.map (·.2)) td rd:=⟨by rw [zJ ntd]; exact g9 _ _ hD5.1,jp hpz9 (qH g9 hD5.2) fun ws hw=>nn ws (dlen ws hw)⟩
     have g10:Same H (upd H9 pz (.lst (rz.map V.ref ++ rc.map V.ref))):=xB (g25.trans g9) pzH
     generalize upd H9 pz (.lst (rz.map V.ref ++ rc.map V.ref)) = H10 at *
     clear hpz9 hD5 hld5 prz5 prc9 hpe9 prest5 hpl5
     refine ⟨_,rfl,td,rfl,⟨_,SqL.of hD10.1⟩,?_⟩
     refine zT (xs:=rd.map V.ref) (fun j ys H11=>∃ rn,ys = rn.map V.ref∧Same H10 H11∧Paired (IRow H11) ((Dn.map fun p=>La.clearedM k lead i p.2).take j) rn) ⟨[],rfl,Same.refl _,.nil⟩ ?_ ?_ ?_
     ·rintro j ys H11 hj ⟨rn,rfl,g11,prn⟩
      refine ⟨SqL.of (g11 _ _ hD10.1),?_⟩
      have:=zj prn
      rw [List.length_take,List.length_map] at this
      rw [List.length_map]; omega
     ·rintro j v ys H11 hv hj ⟨rn,rfl,g11,prn⟩
      obtain ⟨ws,a,hw,ha,rfl,hrow⟩:=(hD10.mono g11).row hv
      rw [List.getElem?_map] at hw
      obtain ⟨p0,hp0,rfl⟩:=Option.map_eq_some_iff.mp hw
      have hm:=List.mem_of_getElem? hp0
      have lw:=fi.dl p0 hm
      first | refine gyes ?_ | refine tyes ?_
      refine ⟨_,rfl,_,rfl,_,rfl,_,rfl,k,p0.2,lead,i,a,ld,bb,rfl,hk,hrow,hld10.mono g11,by omega,by omega,by omega,si.1 p0 hm,slead,bnd,fun p H12 g12 hp=>nxt hj ⟨rn ++ [p],by rw [List.map_append]; rfl,g11.trans g12,?_⟩⟩
      have e:(Dn.map fun p=>La.clearedM k lead i p.2)[j]? = some (La.clearedM k lead i p0.2):=by rw [List.getElem?_map,hp0]; rfl
      rw [zD e]
      exact yb (qH g12 prn) hp
     rintro ys H11 ⟨rn,rfl,g11,prn⟩ pn hpn
     rw [List.length_map,List.take_of_length_le (by rw [List.length_map]; omega)] at prn
     have lrn:=zj prn
     rw [List.length_map] at lrn
     have nlen:∀ ws∈Dn.map (fun p=>La.clearedM k lead i p.2),ws.length = n:=fun ws hw=>by
      obtain ⟨x,hx,rfl⟩:=List.mem_map.mp hw
      have hm:=fi.dl x hx
      rw [La.xU (by omega)]; exact hm
     have npz:pz≠pn:=fun e=>by rw [← e,g11 _ _ hW10] at hpn; cases hpn
     have pnH:H pn = none:=(g10.trans g11).none hpn
     have g12:=ze hpn (.lst (rn.map V.ref))
     have hpn12:upd H11 pn (.lst (rn.map V.ref)) pn = some (.lst (rn.map V.ref)):=zf
     have prn12:=qH g12 prn
     have prz12:=qH (g11.trans g12) prz10
     have prc12:=qH (g11.trans g12) prc10
     have hld12:=hld10.mono (g11.trans g12)
     have hW12:=(g11.trans g12) _ _ hW10
     have gh12:=(g10.trans g11).trans g12
     generalize upd H11 pn (.lst (rn.map V.ref)) = H12 at *
     refine ⟨_,rfl,.inl ⟨rfl,_,SqL.of hpn12⟩,_,rfl,pn,_,_,rfl,rfl,hpn12,(by rw [List.length_map]; omega),?_⟩
     refine ⟨pn,pz,rn ++ [ld],rz ++ rc,_,_,_,rfl,xB gh12 pnH,⟨?_,?_⟩,⟨?_,?_⟩⟩
     ·rw [zf,List.map_append]; rfl
     ·have e:(Dn.map (fun p=>(p.1,La.clearedM k lead i p.2)) ++ [(i,lead)]).map (·.2) = (Dn.map fun p=>La.clearedM k lead i p.2) ++ [lead]:=by
       rw [List.map_append,List.map_map]; rfl
      rw [e]
      refine yb (jp hpn12 prn12 fun ws hw=>nn ws (nlen ws hw)) ?_
      show upd H12 pn _ ld = _
      rw [zJ (hld12.ne (nn lead llead) hpn12)]; exact hld12
     ·rw [zJ npz]; exact hW12
     ·exact qI (jp hpn12 prz12 fun ws hw=>nn ws (zlen ws hw)) (jp hpn12 prc12 fun ws hw=>nn ws (clen ws hw))
   ·have c2:¬ 0 < ((Wt.filter fun r=>decide (r.getD i 0≠0)).length:Int):=of_decide_eq_false (Bool.eq_false_iff.mpr c1)
    have ef:Wt.filter (fun r=>decide (r.getD i 0≠0)) = []:=List.eq_nil_of_length_eq_zero (by omega)
    have turn:La.swTurn k i (Dn,Wt) = (Dn,Wt):=by
     unfold La.swTurn
     simp only [ef]
    rw [turn]
    exact ⟨td,tw,rd,rw',_,_,_,rfl,g23,hD3,hW3⟩
  ·rintro σ H2 ⟨td,tw,rd,rw',o5,o6,o7,rfl,g2,hD,hW⟩
   exact ⟨_,rfl,q td rd H2 g2 hD⟩
 ·have c':¬ 0 < (Ws.length:Int):=of_decide_eq_false (Bool.eq_false_iff.mpr c)
  have ew:Ws = []:=List.eq_nil_of_length_eq_zero (by omega)
  refine ⟨_,rfl,_,rfl,(by decide),(by decide),?_⟩
  refine yz (lo:=0) (n:=(0:Int).toNat) (fun i σ H'=>∃ o5 o6 o7,σ = [some (.int k),some (.ref t),some (.ref pd),some (.ref pw),some (.int 0),o5,o6,o7]∧H' = H1) ⟨none,none,none,rfl,rfl⟩ ?_ ?_
  ·intro i σ H2 hi
   exact absurd hi (Nat.not_lt_zero i)
  ·rintro σ H2 ⟨o5,o6,o7,rfl,rfl⟩
   refine ⟨_,rfl,q pd [] _ g1 ?_⟩
   rw [ew,La.zbx]
   exact ⟨hpd1,.nil⟩
noncomputable def Yd:Sp:=fun vs H Q _=>∃ (k:Int) (p:Nat) (ws:List Int) (a:Addr),vs = [.int k,.ref a]∧KindOk k∧IRow H ws a∧p < ws.length∧ws.getD p 0≠0∧(∀ j,j < p→ws.getD j 0 = 0)∧nnum k (ws.getD p 0)≠nnum k 0∧(∀ w∈ws,Sm 60000000 w)∧ws.length < sizeLine ∧
 ∀ vs' a' H',Same H H'→H' a' = none→Paired (RN H') (La.overL k (p,ws)) vs'→Q (.ref a') (upd H' a' (.lst vs'))
theorem QB (D:Df K mg "over_lead" ["kind", "wholes"] jH) (ZO:Kn P w K mg base "quotient" 43 ["kind", "top", "bottom"] zaG):Kn P w K mg base "over_lead" 44 ["kind", "wholes"] Yd:=by
 refine D.kn sc_over_lead (fun vs H Q E h=>?_) (fun f cdv A outer s H vs Q E hr h=>?_)
 ·obtain ⟨k,p,ws,a,rfl,_⟩:=h; rfl
 obtain ⟨k,p,ws,a,rfl,hk,ha,hp,hn,hz,ne,sz,hl,q⟩:=h
 refine ⟨_,(zc (zm (i:=2) sc_over_lead.nd rfl (.inr rfl) (zE zp (ya ["whole"] [] [] ⟨rfl,rfl,rfl,rfl,rfl,rfl,by decide +kernel⟩ rfl (zM (pv 1)) (zo (by decide)) fun _ _ _ _ _ _=>⟨(zh (i:=0) (by decide:(["whole"]:List Str).Nodup) rfl (by first | exact Or.inl rfl | exact Or.inr rfl)),(JX (zH Yh (pv 0) zb (nomark _))),(pv 0)⟩) zb (fun _ _=>rfl))) (zg (zk (ya ["whole"] ["kind", "lead"] [0,2] ⟨rfl,rfl,rfl,rfl,rfl,rfl,by decide +kernel⟩ rfl (zM (pv 1)) (zo (by decide)) fun _ _ _ _ _ _=>⟨(zh (i:=0) (by decide:(["whole", "kind", "lead"]:List Str).Nodup) rfl (by first | exact Or.inl rfl | exact Or.inr rfl)),zQ,(zu ZO (hr.mono (by decide)) rfl (za (pv 1) (za (pv 0) (za (pv 2) zd))))⟩)))),?_⟩
 refine ⟨_,rfl,a,rfl,⟨_,SqL.of ha⟩,?_⟩
 refine zT (xs:=ws.map V.int) (fun i ys H'=>H' = H∧ys = ((ws.take i).filter fun w=>decide (w≠0)).map V.int) ⟨rfl,by simp⟩ ?_ ?_ ?_
 ·rintro i ys H' hi ⟨rfl,rfl⟩
  refine ⟨SqL.of ha,?_⟩
  have h2:=List.length_filter_le (fun w:Int=>decide (w≠0)) (ws.take i)
  rw [List.length_take] at h2
  rw [List.length_map]; omega
 ·rintro i v ys H' hv hi ⟨rfl,rfl⟩
  rw [List.getElem?_map] at hv
  obtain ⟨u,hu,rfl⟩:=Option.map_eq_some_iff.mp hv
  refine ⟨_,rfl,rfl,_,rfl,?_⟩
  refine ite2 (fun c1=>?_) (fun c1=>?_)
  ·have z:u≠0:=fun z=>by rw [z] at c1; exact absurd c1 (by decide)
   refine ⟨_,rfl,nxt hi ⟨rfl,?_⟩⟩
   rw [La.yK _ hu,if_pos (decide_eq_true z),List.map_append]; rfl
  ·have z:u = 0:=by
    by_cases z:u = 0
    ·exact z
    ·exact absurd (by have h':¬ V.int u = V.int 0:=fun e=>z (V.int.inj e); rw [decide_eq_false h']; rfl) c1
   refine nxt hi ⟨rfl,?_⟩
   rw [La.yK _ hu,if_neg (show ¬ decide (u≠0) = true from fun h=>of_decide_eq_true h z),List.append_nil]
 rintro ys H' ⟨rfl,rfl⟩ pf hpf
 rw [List.length_map,List.take_length]
 have g1:=ze hpf (.lst ((ws.filter fun w=>decide (w≠0)).map V.int))
 refine ⟨pf,_,_,_,rfl,rfl,SqL.of zf,zK (j:=0) (by rw [List.getElem?_map,La.ze8 hp hz hn]; rfl),?_⟩
 have ha1:=ha.mono g1
 generalize upd H' pf (.lst ((ws.filter fun w=>decide (w≠0)).map V.int)) = H1 at *
 refine ⟨_,rfl,a,rfl,⟨_,SqL.of ha1⟩,?_⟩
 refine zT (xs:=ws.map V.int) (fun i ys H2=>Same H1 H2∧Paired (RN H2) ((La.overL k (p,ws)).take i) ys) ⟨Same.refl _,.nil⟩ ?_ ?_ ?_
 ·rintro i ys H2 hi ⟨g2,pr⟩
  refine ⟨SqL.of (ha1.mono g2),?_⟩
  have:=zj pr
  unfold La.overL at this
  rw [List.length_take,List.length_map] at this
  rw [List.length_map] at hi
  show ys.length < sizeLine
  have e:(p,ws).2 = ws:=rfl
  rw [e] at this
  omega
 ·rintro i v ys H2 hv hi ⟨g2,pr⟩
  rw [List.getElem?_map] at hv
  obtain ⟨u,hu,rfl⟩:=Option.map_eq_some_iff.mp hv
  first | refine gyes ?_ | refine tyes ?_
  refine ⟨_,rfl,_,rfl,_,rfl,k,u,ws.getD p 0,rfl,hk,ne,sz u (List.mem_of_getElem? hu),qK sz p,fun v3 H3 g3 r3=>nxt hi ⟨g2.trans g3,?_⟩⟩
  have e:(La.overL k (p,ws))[i]? = some (ndiv k (nnum k u) (nnum k (ws.getD p 0))):=by unfold La.overL; rw [List.getElem?_map]; show Option.map _ ws[i]? = _; rw [hu]; rfl
  rw [zD e]
  exact yb (yO g3 pr) r3
 ·rintro ys H2 ⟨g2,pr⟩ a' ha'
  rw [List.length_map,List.take_of_length_le (by unfold La.overL; rw [List.length_map]; exact Nat.le_refl _)] at pr
  exact q ys a' H2 (g1.trans g2) ha' pr
noncomputable def XX:Sp:=fun vs H Q _=>∃ (k:Int) (M:List (List Nb)) (n B:Nat) (t:Addr) (ras:List Addr),vs = [.int k,.ref t]∧KindOk k∧TabAt H M t ras∧La.OkM k n M∧La.rowsB B M∧61≤B∧(B + 1) * 2 ^ n≤60000000∧n < sizeLine∧M.length≤8000000 ∧
 ∀ R ls top rs H',Same H H'→NewT H H' R top rs→(∀ (F:Type) [Lean.Grind.Field F] (φ:La.Kf k F),La.RedOf φ n M R ls)→R.length≤M.length→Q (.ref top) H'
theorem zcz (D:Df K mg "reduced" ["kind", "rows"] qY) (jG:Kn P w K mg base "scaled" 41 ["kind", "row"] YW) (zhr:Kn P w K mg base "swept" 43 ["kind", "rows"] zbL) (zaL:Kn P w K mg base "over_lead" 44 ["kind", "wholes"] Yd):Kn P w K mg base "reduced" 45 ["kind", "rows"] XX:=by
 refine D.kn sc_reduced (fun vs H Q E h=>?_) (fun f cdv A outer s H vs Q E hr h=>?_)
 ·obtain ⟨k,M,n,B,t,ras,rfl,_⟩:=h; rfl
 obtain ⟨k,M,n,B,t,ras,rfl,hk,hT,oM,sM,b2,hb,nz,mz,q⟩:=h
 have lras:=zj hT.2
 have szl:sizeLine = 16777216:=by decide
 have b1:B≤60000000∧(B + 1) * 2 ^ n - 1≤60000000:=by
  have h1:1≤2 ^ n:=Nat.one_le_two_pow
  have h2:(B + 1) * 1≤(B + 1) * 2 ^ n:=Nat.mul_le_mul_left _ h1
  omega
 refine ⟨_,(zc (je (i:=2) sc_reduced.nd rfl rfl ["row"] ["kind"] [0] ⟨rfl,rfl,rfl,rfl,rfl,rfl,by decide +kernel⟩ rfl (zM (pv 1)) (zo (by decide)) fun _ _ _ _ _ _=>⟨(zh (i:=0) (by decide:(["row", "kind"]:List Str).Nodup) rfl (by first | exact Or.inl rfl | exact Or.inr rfl)),zQ,(zE zw (zu jG (hr.mono (by decide)) rfl (za (pv 1) (za (pv 0) zd))) zb (fun _ _=>rfl))⟩) (zg (zk (ya ["row"] ["kind"] [0] ⟨rfl,rfl,rfl,rfl,rfl,rfl,by decide +kernel⟩ rfl (zM (zu zhr (hr.mono (by decide)) rfl (za (pv 0) (za (pv 2) zd)))) (zo (by decide)) fun _ _ _ _ _ _=>⟨(zh (i:=0) (by decide:(["row", "kind"]:List Str).Nodup) rfl (by first | exact Or.inl rfl | exact Or.inr rfl)),zQ,(zu zaL (hr.mono (by decide)) rfl (za (pv 1) (za (pv 0) zd)))⟩)))),?_⟩
 refine ⟨_,rfl,t,rfl,⟨_,SqL.of hT.1⟩,?_⟩
 refine zT (xs:=ras.map V.ref) (fun i ys H'=>∃ Ws rl,ys = rl.map V.ref∧Same H H'∧Paired (IRow H') Ws rl∧Paired (fun xs ws=>(∃ b,La.Scl k xs ws b)∧∀ w∈ws,Sm (B) w) (M.take i) Ws) ⟨[],[],rfl,Same.refl _,.nil,.nil⟩ ?_ ?_ ?_
 ·rintro i ys H' hi ⟨Ws,rl,rfl,g,pr,ps⟩
  refine ⟨SqL.of (g _ _ hT.1),?_⟩
  have h1:=zj pr
  have h2:=zj ps
  rw [List.length_take] at h2
  rw [List.length_map]; omega
 ·rintro i v ys H' hv hi ⟨Ws,rl,rfl,g,pr,ps⟩
  obtain ⟨xs,a,hx,ha,rfl,hrow⟩:=(hT.mono g).row hv
  obtain ⟨lx,ox⟩:=oM xs (List.mem_of_getElem? hx)
  first | refine gyes ?_ | refine tyes ?_
  refine ⟨_,rfl,_,rfl,k,xs,a,B,rfl,hk,hrow,ox,sM xs (List.mem_of_getElem? hx),b2,b1.1,by omega,fun p H2 g2 sc=>?_⟩
  obtain ⟨l,ws,b,hp,hl,sc,sb,sw⟩:=sc
  refine ⟨p,_,_,_,rfl,rfl,SqT.of hp,rfl,nxt hi ⟨Ws ++ [ws],rl ++ [l],by rw [List.map_append]; rfl,g.trans g2,yb (qH g2 pr) hl,?_⟩⟩
  rw [zD hx]
  exact yb ps ⟨⟨b,sc⟩,sw⟩
 rintro ys H' ⟨Ws,rl,rfl,g,pr,ps⟩ pw hpw
 rw [List.length_map,List.take_of_length_le (by omega)] at ps
 have lps:=zj ps
 have g1:=g.trans (ze hpw (.lst (rl.map V.ref)))
 have hpw1:upd H' pw (.lst (rl.map V.ref)) pw = some (.lst (rl.map V.ref)):=zf
 have pr1:=qH (ze hpw (.lst (rl.map V.ref))) pr
 generalize upd H' pw (.lst (rl.map V.ref)) = H1 at *
 have wl:∀ r∈Ws,r.length = n:=fun r hr=>by
  obtain ⟨xs,hx,⟨b,sc⟩,_⟩:=zae ps hr
  rw [sc.len,(oM xs hx).1]
 have ws':∀ r∈Ws,∀ w∈r,Sm (B) w:=fun r hr=>by
  obtain ⟨xs,hx,_,h⟩:=zae ps hr
  exact h
 refine ⟨_,rfl,_,rfl,k,Ws,n,B,pw,rl,rfl,hk,⟨hpw1,pr1⟩,wl,nz,by omega,ws',b2,hb,fun pp rs H2 g2 hI=>?_⟩
 refine ⟨pp,rfl,⟨_,SqL.of hI.1⟩,?_⟩
 have red:∀ (F:Type) [Lean.Grind.Field F] (φ:La.Kf k F),La.RedOf φ n M (La.redM k n Ws) (La.leadsM k n Ws):=fun F _ φ=>La.zaF φ hk oM lps.symm fun i r ws h1 h2=>(xY ps h1 h2).1
 have fine:=La.Fine.to (k:=k) hk.lt.1 wl n
 have szs:=zhe hk b2 wl ws' n
 have lens:=La.Jy (k:=k) Ws n
 obtain ⟨F0,i0,d0,⟨φ0⟩⟩:=La.yl hk
 have lead:∀ p∈(La.swTo k Ws n).1,p.1 < n∧p.2.length = n∧p.2.getD p.1 0≠0∧(∀ j,j < p.1→p.2.getD j 0 = 0)∧nnum k (p.2.getD p.1 0)≠nnum k 0:=fun p hp=>by
  obtain ⟨h1,h2,h3,h4⟩:=La.qz φ0 hk.lt.1 wl hp
  refine ⟨h1,h2,h3,h4,La.Jr φ0 fun z=>h3 ?_⟩
  exact (La.YT φ0 (fine.df p hp) p.1).mp z
 generalize hS:(La.swTo k Ws n).1 = Dn at *
 have lrs:=zj hI.2
 rw [List.length_map] at lrs
 have eR:La.redM k n Ws = Dn.map (La.overL k):=by unfold La.redM; rw [hS]
 refine zT (xs:=rs.map V.ref) (fun i ys H3=>∃ ras2,ys = ras2.map V.ref∧Grow H2 H3 ((La.redM k n Ws).take i) ras2) ⟨[],rfl,Grow.nil H2 (Same.refl H2)⟩ ?_ ?_ ?_
 ·rintro i ys H3 hi ⟨ras2,rfl,G⟩
  refine ⟨SqL.of (G.same _ _ hI.1),?_⟩
  have:=zj G.rows
  rw [List.length_take,eR,List.length_map] at this
  rw [List.length_map]; omega
 ·rintro i v ys H3 hv hi ⟨ras2,rfl,G⟩
  obtain ⟨ws,a,hw,ha,rfl,hrow⟩:=(hI.mono G.same).row hv
  rw [List.getElem?_map] at hw
  obtain ⟨p,hp,rfl⟩:=Option.map_eq_some_iff.mp hw
  have hm:=List.mem_of_getElem? hp
  obtain ⟨l1,l2,l3,l4,l5⟩:=lead p hm
  first | refine gyes ?_ | refine tyes ?_
  refine ⟨_,rfl,_,rfl,k,p.1,p.2,a,rfl,hk,hrow,by omega,l3,l4,l5,fun w hw=>(szs.1 p (by rw [hS]; exact hm) w hw).mono (by omega),by omega,fun vs' a' H4 g4 ha' pr4=>nxt hi ⟨ras2 ++ [a'],by rw [List.map_append]; rfl,?_⟩⟩
  have e:(La.redM k n Ws)[i]? = some (La.overL k (p.1,p.2)):=by rw [eR,List.getElem?_map,hp]; rfl
  rw [zD e]
  exact (G.mono g4).snoc ha' pr4
 rintro ys H3 ⟨ras2,rfl,G⟩ top ht
 rw [List.length_map,List.take_of_length_le (by rw [eR,List.length_map]; omega)] at G
 have N:=G.done ht
 refine q (La.redM k n Ws) (La.leadsM k n Ws) top ras2 _ ((g1.trans g2).trans (G.same.trans (ze ht _))) ⟨N.tab,(g1.trans g2).none N.ft,fun r hr=>(g1.trans g2).none (N.fr r hr),N.nd,N.nt⟩ red (by rw [eR,List.length_map]; omega)
noncomputable def zde:Sp:=fun vs H Q _=>∃ (k:Int) (xs:List Nb) (a:Addr) (l:Nat) (x:Nb),vs = [.int k,.ref a]∧RowAt H xs a∧(∀ j,j < l→xs[j]? = some (nnum k 0))∧xs[l]? = some x∧x≠nnum k 0∧∀ H',Same H H'→Q (.int (l:Int)) H'
theorem zgF (D:Df K mg "lead_of" ["kind", "row"] Zc) (xc:Kn P w K mg base "number" 1 ["kind", "whole"] jr):Kn P w K mg base "lead_of" 2 ["kind", "row"] zde:=by
 refine D.kn sc_lead_of (fun vs H Q E h=>?_) (fun f cdv A outer s H vs Q E hr h=>?_)
 ·obtain ⟨k,xs,a,l,x,rfl,_⟩:=h; rfl
 obtain ⟨k,xs,a,l,x,rfl,ha,hz,hl,ne,q⟩:=h
 refine ⟨_,(zc (zm (i:=2) sc_lead_of.nd rfl (.inl rfl) (zu xc (hr.mono (by decide)) rfl (za (pv 0) (za zb zd)))) (zc (zm (i:=3) sc_lead_of.nd rfl (.inl rfl) zb) (zc (Yz PassesOwn.never (zH (Xm hr) (zE zp (pv 1) (pv 3) (fun _ _=>rfl)) (pv 2) (nomark _)) (zg (zh4 (i:=3) sc_lead_of.nd rfl (.inl rfl) zb zhT))) (zg (zk (pv 3)))))),?_⟩
 refine ⟨_,rfl,k,0,rfl,fun v0 H1 g1 r1=>?_⟩
 obtain ⟨us,hu,pu,lu⟩:=(ha.mono g1).len
 refine ⟨fun m σ H'=>∃ p:Nat,σ = [some (.int k),some (.ref a),some v0,some (.int (p:Int))]∧H' = H1∧p≤l∧m = l - p,⟨_,0,rfl,rfl,Nat.zero_le _,rfl⟩,?_⟩
 rintro m σ H' ⟨p,rfl,rfl,pl,rfl⟩
 rcases Nat.lt_or_ge p l with h | h
 ·obtain ⟨u,eu,ru⟩:=yM pu (hz p h)
  refine ⟨_,rfl,_,rfl,a,_,_,_,rfl,rfl,SqL.of hu,zK eu,_,rfl,toD (nnum k 0),toD (nnum k 0),ru,r1,xD _,xD _,Nat.le_trans (Nat.min_le_left _ _) (Nat.le_trans (jj _) (by decide)),_,rfl,?_⟩
  rw [qU]
  refine iteT ⟨_,fun _ _ h=>h,?_⟩
  exact ⟨_,rfl,_,_,rfl,rfl,_,by omega,p + 1,rfl,rfl,by omega,rfl⟩
 ·have e:p = l:=by omega
  subst e
  obtain ⟨u,eu,ru⟩:=yM pu hl
  refine ⟨_,rfl,_,rfl,a,_,_,_,rfl,rfl,SqL.of hu,zK eu,_,rfl,toD x,toD (nnum k 0),ru,r1,xD _,xD _,Nat.le_trans (Nat.min_le_left _ _) (Nat.le_trans (jj _) (by decide)),_,rfl,?_⟩
  rw [zbc,decide_eq_false ne]
  refine iteF ?_
  exact ⟨_,rfl,q _ g1⟩
noncomputable def qy:Sp:=fun vs H Q _=>∃ (k:Int) (n:Nat),vs = [.int k,.int (n:Int)]∧n≤1000∧∀ v0 pt H',Same H H'→RN H' (nnum k 0) v0→H' pt = some (.lst (List.replicate n v0))→H pt = none→Q (.ref pt) H'
theorem zcg (D:Df K mg "noughts" ["kind", "width"] Zf) (xc:Kn P w K mg base "number" 1 ["kind", "whole"] jr):Kn P w K mg base "noughts" 2 ["kind", "width"] qy:=by
 refine D.kn zcF (fun vs H Q E h=>?_) (fun f cdv A outer s H vs Q E hr h=>?_)
 ·obtain ⟨k,n,rfl,_⟩:=h; rfl
 obtain ⟨k,n,rfl,hn,q⟩:=h
 have szl:sizeLine = 16777216:=by decide
 refine ⟨_,(zg (zk (zi zh2 (yC (za (zu xc (hr.mono (by decide)) rfl (za (pv 0) (za zb zd))) zd)) (pv 1)))),?_⟩
 refine ⟨_,rfl,k,0,rfl,fun v0 H1 g1 rv0=>⟨(by show 1≤sizeLine; decide),fun p1 hp1=>?_⟩⟩
 refine ⟨_,rfl,p1,_,_,rfl,rfl,zf,(by omega),(by omega),(by show 1 * (n:Int).toNat≤sizeLine; omega),fun pt hpt=>?_⟩
 rw [zdM,Int.toNat_natCast]
 exact q v0 pt _ ((g1.trans (ze hp1 (.lst [v0]))).trans (ze hpt (.lst (List.replicate n v0)))) ((rv0.mono (ze hp1 (.lst [v0]))).mono (ze hpt (.lst (List.replicate n v0)))) zf ((g1.trans (ze hp1 (.lst [v0]))).none hpt)
noncomputable def zcU:Sp:=fun vs H Q _=>∃ (ws us:List Int) (l l':Addr) (m:Nat),vs = [.ref l,.ref l']∧IRow H ws l∧IRow H us l'∧ws.length = us.length∧(∀ w∈ws,Sm m w)∧(∀ w∈us,Sm m w)∧2 * m≤60000000∧ws.length < sizeLine ∧
 ∀ H',Same H H'→Q (.int (List.zipWith (· * ·) ws us).sum) H'
theorem zhl (D:Df K mg "whole_sum" ["one", "other"] jN) (m_sum:mg "sum" = none) (m_zip:mg "zip" = none):Kn P w K mg base "whole_sum" 1 ["one", "other"] zcU:=by
 refine D.kn zad (fun vs H Q E h=>?_) (fun f cdv A outer s H vs Q E hr h=>?_)
 ·obtain ⟨ws,us,l,l',m,rfl,_⟩:=h; rfl
 obtain ⟨ws,vs,l,l',m,rfl,hl,hl',hlen,sw,sw',hsz,hz,q⟩:=h
 refine ⟨_,(zg (zk (zG (zdl rfl) rfl m_sum zhQ (za (ya ["left", "right"] [] [] ⟨rfl,rfl,rfl,rfl,rfl,rfl,by decide +kernel⟩ rfl (qJ rfl m_zip (za (pv 0) (za (pv 1) zd))) (qr (yj (zo (by decide)) yk (yj (zo (by decide)) yk jq))) fun _ _ _ _ _ _=>⟨(jh 2 rfl (zS (zh (i:=0) (by decide:(["left", "right"]:List Str).Nodup) rfl (by first | exact Or.inl rfl | exact Or.inr rfl)) (zS (zh (i:=1) (by decide:(["left", "right"]:List Str).Nodup) rfl (by first | exact Or.inl rfl | exact Or.inr rfl)) xn))),zQ,(zi zU (pv 0) (pv 1))⟩) zd)))),?_⟩
 refine ⟨_,rfl,_,rfl,l,l',ws.map V.int,vs.map V.int,rfl,SqL.of hl,SqL.of hl',?_⟩
 refine qu (xs:=ws.map V.int) (zs:=vs.map V.int) (by rw [List.length_map,List.length_map]; omega) (fun i ys' H'=>Same H H'∧ys' = ((List.zipWith (· * ·) ws vs).take i).map V.int) ⟨Same.refl H,by simp⟩ ?_ ?_ ?_
 ·rintro i ys' H' hi ⟨g,rfl⟩
  refine ⟨SqL.of (hl.mono g),SqL.of (hl'.mono g),?_⟩
  rw [List.length_map,List.length_take,List.length_zipWith]
  omega
 ·rintro i x z T ys' H' hx hy hi hT ⟨g,rfl⟩
  rw [List.getElem?_map] at hx hy
  obtain ⟨u,hu,rfl⟩:=Option.map_eq_some_iff.mp hx
  obtain ⟨u',hu',rfl⟩:=Option.map_eq_some_iff.mp hy
  refine ⟨T,_,rfl,SqT.of zf,rfl,_,_,rfl,_,_,rfl,rfl,?_⟩
  first | refine gyes ?_ | refine tyes ?_
  refine ⟨_,rfl,_,rfl,_,_,rfl,rfl,(sw u (List.mem_of_getElem? hu)).mulOk (sw' u' (List.mem_of_getElem? hu')) (by omega),nxt hi ⟨g.trans (ze hT _),?_⟩⟩
  have e:(List.zipWith (· * ·) ws vs)[i]? = some (u * u'):=by rw [List.getElem?_zipWith,hu,hu']
  rw [zD e,List.map_append]; rfl
 ·rintro ys' H' ⟨g,rfl⟩ pl hpl
  have el:(ws.map V.int).length = (List.zipWith (· * ·) ws vs).length:=by rw [List.length_map,List.length_zipWith]; omega
  rw [el,List.take_length]
  exact ⟨pl,_,rfl,SqL.of zf,q _ (g.trans (ze hpl (.lst ((List.zipWith (· * ·) ws vs).map V.int))))⟩
noncomputable def zdD:Sp:=fun vs H Q _=>∃ (k:Int) (xs ys:List Nb) (p p':Addr) (m:Nat),vs = [.int k,.ref p,.ref p']∧KindOk k∧SclAt H k m xs p∧SclAt H k m ys p'∧La.OkR k xs∧La.OkR k ys∧xs.length = ys.length∧61≤m∧2 * m + xs.length≤60000000∧xs.length < sizeLine ∧
 ∀ v H',Same H H'→RN H' (La.ndot k xs ys) v→Q v H'
theorem zhZ (D:Df K mg "sum_of_products" ["kind", "one", "other"] yE) (ZO:Kn P w K mg base "quotient" 43 ["kind", "top", "bottom"] zaG) (zaR:Kn P w K mg base "whole_sum" 1 ["one", "other"] zcU):Kn P w K mg base "sum_of_products" 44 ["kind", "one", "other"] zdD:=by
 refine D.kn qX (fun vs H Q E h=>?_) (fun f cdv A outer s H vs Q E hr h=>?_)
 ·obtain ⟨k,xs,ys,p,p',m,rfl,_⟩:=h; rfl
 obtain ⟨k,xs,ys,p,p',m,rfl,hk,⟨l,ws,b,hp,hl,sc,sb,sw⟩,⟨l',vs,b',hp',hl',sc',sb',sw'⟩,ox,oy,hlen,m7,hsz,hz,q⟩:=h
 refine ⟨_,(zg (zk (zu ZO (hr.mono (by decide)) rfl (za (pv 0) (za (zu zaR (hr.mono (by decide)) rfl (za (zE zw (pv 1) zb (fun _ _=>rfl)) (za (zE zw (pv 2) zb (fun _ _=>rfl)) zd))) (za (zi zU (zE zw (pv 1) zb (fun _ _=>rfl)) (zE zw (pv 2) zb (fun _ _=>rfl))) zd)))))),?_⟩
 have ewl:=sc.len
 have evl:=sc'.len
 refine ⟨_,rfl,_,rfl,p,_,_,_,rfl,rfl,SqT.of hp,rfl,_,rfl,p',_,_,_,rfl,rfl,SqT.of hp',rfl,ws,vs,l,l',m,rfl,hl,hl',(by omega),sw,sw',(by omega),(by omega),fun H' g2=>?_⟩
 obtain ⟨ne,e⟩:=La.zh7 hk hlen sc sc' ox oy
 have st:Sm (m + m + (List.zipWith (· * ·) ws vs).length) (List.zipWith (· * ·) ws vs).sum:=zgi fun w hw=>by
  obtain ⟨i,hi,e⟩:=List.getElem_of_mem hw
  rw [List.getElem_zipWith] at e
  rw [← e]
  exact (sw _ (List.getElem_mem _)).mul (sw' _ (List.getElem_mem _))
 rw [List.length_zipWith] at st
 refine ⟨_,rfl,p,_,_,_,rfl,rfl,SqT.of (g2 _ _ hp),rfl,_,rfl,p',_,_,_,rfl,rfl,SqT.of (g2 _ _ hp'),rfl,_,_,rfl,rfl,sb.mulOk sb' (by omega),k,_,_,rfl,hk,ne,st.mono (by omega),(sb.mul sb').mono (by omega),fun v H2 g3 r=>?_⟩
 rw [e] at r
 exact q v H2 (g2.trans g3) r
theorem zhi {x:Str} {ps:List Str} {l:Nat} {sp sp':Sp} (D:Kn P w K mg base x l ps sp) (h:∀ vs H Q E,sp' vs H Q E→sp vs H Q E):Kn P w K mg base x l ps sp':=by
 obtain ⟨f,fd,F,r⟩:=D.ex
 exact ⟨f,fd,F.imp h,r⟩
noncomputable def ZI:Sp:=fun vs H Q _=>∃ (k:Int) (xs:List Nb) (a:Addr) (m:Nat),vs = [.int k,.ref a]∧KindOk k∧RowAt H xs a∧La.OkR k xs∧(∀ x∈xs,nsm m x)∧61≤m∧(xs.length + 2) * m≤60000000 ∧
 ∀ p H',Same H H'→SclAt H' k ((xs.length + 2) * m) xs p→Q (.ref p) H'
theorem zaz (d:Kn P w K mg base "scaled" 41 ["kind", "row"] YW):Kn P w K mg base "scaled" 41 ["kind", "row"] ZI:=zhi d fun vs H Q E h=>by
 obtain ⟨k,xs,a,m,rfl,hk,hr,ox,sx,m7,hsz,q⟩:=h
 have szl:sizeLine = 16777216:=by decide
 have h1:(xs.length + 2) * 61≤(xs.length + 2) * m:=Nat.mul_le_mul_left _ m7
 have h2:(xs.length + 1) * m≤(xs.length + 2) * m:=Nat.mul_le_mul_right _ (by omega)
 exact ⟨k,xs,a,(xs.length + 2) * m,rfl,hk,hr,ox,(xP (k:=k) (n:=xs.length) (by omega) ⟨rfl,ox,sx⟩).mono h2,by omega,hsz,by omega,q⟩
theorem zfW {n m:Nat} (h7:61≤m) (h:(n + 2) * m≤20000000):2 * ((n + 2) * m) + n≤60000000∧61≤(n + 2) * m∧n < sizeLine∧(n + 2) * m≤60000000:=by
 have h1:(n + 2) * 61≤(n + 2) * m:=Nat.mul_le_mul_left _ h7
 have:sizeLine = 16777216:=by decide
 omega
noncomputable def JP:Sp:=fun vs H Q _=>∃ (k:Int) (M:List (List Nb)) (xs:List Nb) (b m:Nat) (t1 a:Addr) (r1:List Addr),vs = [.int k,.ref t1,.ref a]∧KindOk k∧TabAt H M t1 r1∧RowAt H xs a∧La.OkM k b M∧xs.length = b∧La.OkR k xs∧szM m M∧(∀ x∈xs,nsm m x)∧61≤m∧(b + 2) * m≤20000000∧M.length < sizeLine ∧
 ∀ p H',Same H H'→NewR H H' (imgM k M xs) p→Q (.ref p) H'
theorem zfn (D:Df K mg "image" ["kind", "table", "row"] Qr) (jG:Kn P w K mg base "scaled" 41 ["kind", "row"] ZI) (yX:Kn P w K mg base "sum_of_products" 44 ["kind", "one", "other"] zdD):Kn P w K mg base "image" 45 ["kind", "table", "row"] JP:=by
 refine D.kn sc_image (fun vs H Q E h=>?_) (fun f cdv A outer s H vs Q E hr h=>?_)
 ·obtain ⟨k,M,xs,b,m,t1,a,r1,rfl,_⟩:=h; rfl
 obtain ⟨k,M,xs,b,m,t1,a,r1,rfl,hk,hM,hx,oM,lx,ox,sM,sx,m7,hsz,mz,q⟩:=h
 refine ⟨_,(zc (zm (i:=3) sc_image.nd rfl (.inr rfl) (zu jG (hr.mono (by decide)) rfl (za (pv 0) (za (pv 2) zd)))) (zg (zk (ya ["left"] ["kind", "right"] [0,3] ⟨rfl,rfl,rfl,rfl,rfl,rfl,by decide +kernel⟩ rfl (zM (pv 1)) (zo (by decide)) fun _ _ _ _ _ _=>⟨(zh (i:=0) (by decide:(["left", "kind", "right"]:List Str).Nodup) rfl (by first | exact Or.inl rfl | exact Or.inr rfl)),zQ,(zu yX (hr.mono (by decide)) rfl (za (pv 1) (za (zu jG (hr.mono (by decide)) rfl (za (pv 1) (za (pv 0) zd))) (za (pv 2) zd))))⟩)))),?_⟩
 obtain ⟨z1,z2,z3,z4⟩:=zfW m7 hsz
 refine ⟨_,rfl,_,rfl,k,xs,a,m,rfl,hk,hx,ox,sx,m7,by rw [lx]; exact z4,fun p0 H0 g0 sc0=>?_⟩
 rw [lx] at sc0
 refine ⟨_,rfl,t1,rfl,⟨_,SqL.of (g0 _ _ hM.1)⟩,?_⟩
 have hl:=zj hM.2
 refine zT (xs:=r1.map V.ref) (fun i ys H'=>Same H0 H'∧Paired (RN H') ((imgM k M xs).take i) ys) ⟨Same.refl _,.nil⟩ ?_ ?_ ?_
 ·rintro i ys H' hi ⟨g,pr⟩
  refine ⟨SqL.of (g _ _ (g0 _ _ hM.1)),?_⟩
  have:=zj pr
  unfold imgM at this
  rw [List.length_take,List.length_map] at this
  omega
 ·rintro i v ys H' hv hi ⟨g,pr⟩
  obtain ⟨row,ra,hrow,ha,rfl,hR⟩:=(hM.mono (g0.trans g)).row hv
  obtain ⟨lr,orow⟩:=oM row (List.mem_of_getElem? hrow)
  first | refine gyes ?_ | refine tyes ?_
  refine ⟨_,rfl,_,rfl,_,rfl,k,row,ra,m,rfl,hk,hR,orow,sM row (List.mem_of_getElem? hrow),m7,by rw [lr]; exact z4,fun p1 H1 g1 sc1=>?_⟩
  rw [lr] at sc1
  refine ⟨_,rfl,k,row,xs,p1,p0,(b + 2) * m,rfl,hk,sc1,sc0.mono (g.trans g1),orow,ox,by rw [lr,lx],z2,by rw [lr]; exact z1,by rw [lr]; exact z3,fun v2 H2 g2 r2=>?_⟩
  refine nxt hi ⟨(g.trans g1).trans g2,?_⟩
  have e:(imgM k M xs)[i]? = some (La.ndot k row xs):=by unfold imgM; rw [List.getElem?_map,hrow]; rfl
  rw [zD e]
  exact yb (yO (g1.trans g2) pr) r2
 ·rintro ys H' ⟨g,pr⟩ p hp
  rw [List.length_map,List.take_of_length_le (by unfold imgM; rw [List.length_map]; omega)] at pr
  exact q p _ ((g0.trans g).trans (ze hp _)) ⟨⟨ys,zf,yO (ze hp _) pr⟩,(g0.trans g).none hp⟩
noncomputable def xJ:Sp:=fun vs H Q _=>∃ (M:List (List Nb)) (n:Nat) (top:Addr) (ras:List Addr),vs = [.ref top]∧TabAt H M top ras∧M≠[]∧(∀ r∈M,r.length = n)∧n < sizeLine∧M.length < sizeLine ∧
 ∀ t ras' H',Same H H'→NewT H H' (transp n M) t ras'→Q (.ref t) H'
theorem zel (D:Df K mg "turned" ["table"] Yo) (zt:mg "range" = none) (m_len:mg "len" = none):Kn P w K mg base "turned" 1 ["table"] xJ:=by
 refine D.kn zdp (fun vs H Q E h=>?_) (fun f cdv A outer s H vs Q E hr h=>?_)
 ·obtain ⟨M,n,top,ras,rfl,_⟩:=h; rfl
 obtain ⟨M,n,top,ras,rfl,hT,hM,hn,nz,mz,q⟩:=h
 refine ⟨_,(zg (zk (ya ["column"] ["table"] [0] ⟨rfl,rfl,rfl,rfl,rfl,rfl,by decide +kernel⟩ rfl (zR rfl zt (za (zG zP rfl m_len yt (za (zE zp (pv 0) zb (fun _ _=>rfl)) zd)) zd)) (zo (by decide)) fun _ _ _ _ _ _=>⟨(zh (i:=0) (by decide:(["column", "table"]:List Str).Nodup) rfl (by first | exact Or.inl rfl | exact Or.inr rfl)),zQ,(ya ["row"] ["column"] [0] ⟨rfl,rfl,rfl,rfl,rfl,rfl,by decide +kernel⟩ rfl (zM (pv 1)) (zo (by decide)) fun _ _ _ _ _ _=>⟨(zh (i:=0) (by decide:(["row", "column"]:List Str).Nodup) rfl (by first | exact Or.inl rfl | exact Or.inr rfl)),zQ,(zE zp (pv 0) (pv 1) (fun _ _=>rfl))⟩)⟩))),?_⟩
 obtain ⟨M0,M',rfl⟩:=List.exists_cons_of_ne_nil hM
 have hras:=zj hT.2
 obtain ⟨r0,ras',e0⟩ : ∃ r0 ras',ras = r0 :: ras':=by
  cases ras with
  | nil=>simp at hras
  | cons a b=>exact ⟨a,b,rfl⟩
 obtain ⟨vs0,h0,p0,l0⟩:=(xY hT.2 (i:=0) rfl (by rw [e0]; rfl)).len
 have n0:=hn M0 List.mem_cons_self
 have szl:sizeLine = 16777216:=by decide
 refine ⟨_,rfl,top,_,_,_,rfl,rfl,SqL.of hT.1,(by rw [e0]; exact zK (j:=0) rfl),r0,_,rfl,.inl (SqL.of h0),_,rfl,(by omega),(by omega),?_⟩
 have en:(vs0.length:Int).toNat = n:=by omega
 rw [en]
 refine yA (lo:=0) (n:=n) (fun i ys H'=>∃ ras2,ys = ras2.map V.ref∧Grow H H' ((transp n (M0 :: M')).take i) ras2) ⟨[],rfl,Grow.nil H (Same.refl H)⟩ ?_ ?_ ?_
 ·rintro i ys H' hi ⟨ras2,rfl,G⟩
  have:=zj G.rows
  rw [List.length_take,zq] at this
  rw [List.length_map]; omega
 ·rintro i ys H' hi ⟨ras2,rfl,G⟩
  first | refine gyes ?_ | refine tyes ?_
  refine ⟨_,rfl,top,rfl,⟨_,SqL.of (G.same _ _ hT.1)⟩,?_⟩
  refine zT (xs:=ras.map V.ref) (fun j ys' H2=>H2 = H'∧Paired (RN H') (((M0 :: M').map fun r=>r.getD i (.z 0)).take j) ys') ⟨rfl,.nil⟩ ?_ ?_ ?_
  ·rintro j ys' H2 hj ⟨rfl,pr⟩
   refine ⟨SqL.of (G.same _ _ hT.1),?_⟩
   have:=zj pr
   rw [List.length_take,List.length_map] at this
   omega
  ·rintro j v ys' H2 hv hj ⟨rfl,pr⟩
   obtain ⟨xs,a,hx,ha,rfl,hrow⟩:=(hT.mono G.same).row hv
   obtain ⟨us,hu,pu,lu⟩:=hrow.len
   have nx:=hn xs (List.mem_of_getElem? hx)
   have hi':i < xs.length:=by omega
   obtain ⟨u,eu,ru⟩:=yM pu (List.getElem?_eq_getElem hi')
   first | refine gyes ?_ | refine tyes ?_
   refine ⟨_,rfl,_,rfl,a,_,_,_,rfl,rfl,SqL.of hu,(by rw [Int.zero_add]; exact zK eu),nxt hj ⟨rfl,?_⟩⟩
   have e:((M0 :: M').map fun r=>r.getD i (.z 0))[j]? = some (xs.getD i (.z 0)):=by rw [List.getElem?_map,hx]; rfl
   rw [zD e]
   refine yb pr ?_
   rw [List.getD_eq_getElem?_getD,List.getElem?_eq_getElem hi']; exact ru
  ·rintro ys' H2 ⟨rfl,pr⟩ p hp
   rw [List.take_of_length_le (by rw [List.length_map,List.length_map]; omega)] at pr
   refine nxt hi ⟨ras2 ++ [p],by rw [List.map_append]; rfl,?_⟩
   rw [zD (yd hi)]
   exact G.snoc hp pr
 ·rintro ys H' ⟨ras2,rfl,G⟩ t ht
  rw [List.take_of_length_le (by rw [zq]; exact Nat.le_refl _)] at G
  exact q t ras2 _ (G.same.trans (ze ht _)) (G.done ht)
noncomputable def ZM:Sp:=fun vs H Q _=>∃ (A B:List (List Nb)) (n h:Nat) (ta tb:Addr) (ra rb:List Addr),vs = [.ref ta,.ref tb]∧TabAt H A ta ra∧TabAt H B tb rb∧A.length = B.length∧(∀ r∈A,r.length = n)∧(∀ r∈B,r.length = h)∧n + h≤sizeLine∧A.length < sizeLine ∧
 ∀ p ras H',Same H H'→NewT H H' (augM A B) p ras→Q (.ref p) H'
theorem zcJ (D:Df K mg "abreast" ["one", "other"] Zb) (m_zip:mg "zip" = none):Kn P w K mg base "abreast" 1 ["one", "other"] ZM:=by
 refine D.kn zcD (fun vs H Q E h=>?_) (fun f cdv A' outer s' H vs Q E hr h=>?_)
 ·obtain ⟨A,B,n,h,ta,tb,ra,rb,rfl,_⟩:=h; rfl
 obtain ⟨A,B,n,h,ta,tb,ra,rb,rfl,hA,hB,lAB,nA,nB,nh,lA,q⟩:=h
 have szl:sizeLine = 16777216:=by decide
 refine ⟨_,(zg (zk (ya ["left", "right"] [] [] ⟨rfl,rfl,rfl,rfl,rfl,rfl,by decide +kernel⟩ rfl (qJ rfl m_zip (za (pv 0) (za (pv 1) zd))) (qr (yj (zo (by decide)) yk (yj (zo (by decide)) yk jq))) fun _ _ _ _ _ _=>⟨(jh 2 rfl (zS (zh (i:=0) (by decide:(["left", "right"]:List Str).Nodup) rfl (by first | exact Or.inl rfl | exact Or.inr rfl)) (zS (zh (i:=1) (by decide:(["left", "right"]:List Str).Nodup) rfl (by first | exact Or.inl rfl | exact Or.inr rfl)) xn))),zQ,(zi Zq (pv 0) (pv 1))⟩))),?_⟩
 have la:=zj hA.2
 have lb:=zj hB.2
 refine ⟨_,rfl,_,rfl,ta,tb,_,_,rfl,SqL.of hA.1,SqL.of hB.1,?_⟩
 refine qu (xs:=ra.map V.ref) (zs:=rb.map V.ref) (by rw [List.length_map,List.length_map]; omega) (fun i ys H'=>∃ ras,ys = ras.map V.ref∧Grow H H' ((augM A B).take i) ras) ⟨[],rfl,Grow.nil H (Same.refl H)⟩ ?_ ?_ ?_
 ·rintro i ys H' hi ⟨ras,rfl,G⟩
  refine ⟨SqL.of (G.same _ _ hA.1),SqL.of (G.same _ _ hB.1),?_⟩
  have:=zj G.rows
  rw [List.length_take] at this
  rw [List.length_map] at hi ⊢; omega
 ·rintro i x z T ys H' hx' hz' hi hT ⟨ras,rfl,G⟩
  have g':=ze hT (.tup [x,z])
  have G1:=G.mono g'
  obtain ⟨row,a,hrow,ha,rfl,hR⟩:=(hA.mono G1.same).row hx'
  obtain ⟨row2,a2,hrow2,ha2,rfl,hR2⟩:=(hB.mono G1.same).row hz'
  obtain ⟨us1,hu1,pu1,lu1⟩:=hR.len
  obtain ⟨us2,hu2,pu2,lu2⟩:=hR2.len
  have r1:=nA _ (List.mem_of_getElem? hrow)
  have r2:=nB _ (List.mem_of_getElem? hrow2)
  refine ⟨T,_,rfl,SqT.of zf,rfl,_,_,rfl,_,_,rfl,rfl,?_⟩
  generalize upd H' T (.tup [.ref a,.ref a2]) = H1 at *
  first | refine gyes ?_ | refine tyes ?_
  refine ⟨_,rfl,_,rfl,a,a2,_,_,rfl,rfl,hu1,hu2,(by rw [lu1,lu2,r1,r2]; exact nh),fun p hp=>?_⟩
  refine nxt hi ⟨ras ++ [p],by rw [List.map_append]; rfl,?_⟩
  rw [zD (zeY hrow hrow2)]
  exact G1.snoc hp (qI pu1 pu2)
 ·rintro ys H' ⟨ras,rfl,G⟩ pb hpb
  rw [List.length_map,List.take_of_length_le (by unfold augM; rw [List.length_zipWith]; omega)] at G
  have N:=G.done hpb
  have g1:=G.same.trans (ze hpb (.lst (ras.map V.ref)))
  exact q pb ras _ g1 N
noncomputable def ZL:Sp:=fun vs H Q _=>∃ (k:Int) (M N:List (List Nb)) (b c m:Nat) (t1 t2:Addr) (r1 r2:List Addr),vs = [.int k,.ref t1,.ref t2]∧KindOk k∧TabAt H M t1 r1∧TabAt H N t2 r2∧La.OkM k b M∧La.OkM k c N∧N.length = b∧0 < b∧szM m M∧szM m N∧61≤m∧(b + 2) * m≤20000000∧c < sizeLine∧M.length < sizeLine ∧
 ∀ t ras H',Same H H'→NewT H H' (prodM k c M N) t ras→Q (.ref t) H'
theorem zch (D:Df K mg "product" ["kind", "one", "other"] Zl) (xR:Kn P w K mg base "turned" 1 ["table"] xJ) (jG:Kn P w K mg base "scaled" 41 ["kind", "row"] ZI) (yX:Kn P w K mg base "sum_of_products" 44 ["kind", "one", "other"] zdD):Kn P w K mg base "product" 45 ["kind", "one", "other"] ZL:=by
 refine D.kn sc_product (fun vs H Q E h=>?_) (fun f cdv A outer s H vs Q E hr h=>?_)
 ·obtain ⟨k,M,N,b,c,m,t1,t2,r1,r2,rfl,_⟩:=h; rfl
 obtain ⟨k,M,N,b,c,m,t1,t2,r1,r2,rfl,hk,hM,hN,oM,oN,lN,b0,sM,sN,m7,hsz,cz,mz,q⟩:=h
 refine ⟨_,(zc (je (i:=3) sc_product.nd rfl rfl ["column"] ["kind"] [0] ⟨rfl,rfl,rfl,rfl,rfl,rfl,by decide +kernel⟩ rfl (zM (zu xR (hr.mono (by decide)) rfl (za (pv 2) zd))) (zo (by decide)) fun _ _ _ _ _ _=>⟨(zh (i:=0) (by decide:(["column", "kind"]:List Str).Nodup) rfl (by first | exact Or.inl rfl | exact Or.inr rfl)),zQ,(zu jG (hr.mono (by decide)) rfl (za (pv 1) (za (pv 0) zd)))⟩) (zc (zm (i:=4) sc_product.nd rfl (.inl rfl) (yC zd)) (zc (yu PassesOwn.never rfl (zM (pv 1)) (zh (i:=5) sc_product.nd rfl (.inl rfl)) (zc (zm (i:=6) sc_product.nd rfl (.inr rfl) (zu jG (hr.mono (by decide)) rfl (za (pv 0) (za (pv 5) zd)))) (zg (qR (bm0 (fun _ h=>zcn PySem.F.plainAttrs_list PySem.F.slot_list_append PySem.F.type_list_append qh h (za (ya ["column"] ["kind", "left"] [0,6] ⟨rfl,rfl,rfl,rfl,rfl,rfl,by decide +kernel⟩ rfl (zM (pv 3)) (zo (by decide)) fun _ _ _ _ _ _=>⟨(zh (i:=0) (by decide:(["column", "kind", "left"]:List Str).Nodup) rfl (by first | exact Or.inl rfl | exact Or.inr rfl)),zQ,(zu yX (hr.mono (by decide)) rfl (za (pv 1) (za (pv 2) (za (pv 0) zd))))⟩) zd)) (pv 4)))))) (zg (zk (pv 4)))))),?_⟩
 obtain ⟨z1,z2,z3,z4⟩:=zfW m7 hsz
 have oT:=yF oN
 rw [lN] at oT
 have sT:=Jc oN sN
 refine ⟨_,rfl,N,c,t2,r2,rfl,hN,(fun e=>by rw [e] at lN; simp at lN; omega),(fun r hr=>(oN r hr).1),cz,by omega,fun tt rt H1 g1 nT=>?_⟩
 refine ⟨tt,rfl,⟨_,SqL.of nT.tab.1⟩,?_⟩
 have tl:=zj nT.tab.2
 rw [zq] at tl
 refine zT (xs:=rt.map V.ref) (fun i ys H'=>∃ ps,ys = ps.map V.ref∧Same H1 H'∧Paired (fun xs p=>SclAt H' k ((b + 2) * m) xs p) ((transp c N).take i) ps) ⟨[],rfl,Same.refl _,.nil⟩ ?_ ?_ ?_
 ·rintro i ys H' hi ⟨ps,rfl,g,pr⟩
  refine ⟨SqL.of (g _ _ nT.tab.1),?_⟩
  have:=zj pr
  rw [List.length_take,zq] at this
  rw [List.length_map]; omega
 ·rintro i v ys H' hv hi ⟨ps,rfl,g,pr⟩
  obtain ⟨xs,a,hx,ha,rfl,hrow⟩:=(nT.tab.mono g).row hv
  obtain ⟨lx,ox⟩:=oT xs (List.mem_of_getElem? hx)
  first | refine gyes ?_ | refine tyes ?_
  refine ⟨_,rfl,_,rfl,k,xs,a,m,rfl,hk,hrow,ox,sT xs (List.mem_of_getElem? hx),m7,by rw [lx]; exact z4,fun p H2 g2 sc=>?_⟩
  rw [lx] at sc
  refine nxt hi ⟨ps ++ [p],by rw [List.map_append]; rfl,g.trans g2,?_⟩
  rw [zD hx]
  exact yb (xI (fun _ _ r=>r.mono g2) pr) sc
 ·rintro ys H' ⟨ps,rfl,g,pr⟩ pc hpc
  rw [List.length_map,List.take_of_length_le (by rw [zq]; omega)] at pr
  have pcl:=zj pr
  rw [zq] at pcl
  have gq:Same H (upd H' pc (.lst (ps.map V.ref))):=(g1.trans g).trans (ze hpc _)
  have prq:Paired (fun xs p=>SclAt (upd H' pc (.lst (ps.map V.ref))) k ((b + 2) * m) xs p) (transp c N) ps:=xI (fun _ _ r=>r.mono (ze hpc _)) pr
  have hpq:upd H' pc (.lst (ps.map V.ref)) pc = some (.lst (ps.map V.ref)):=zf
  generalize upd H' pc (.lst (ps.map V.ref)) = Hq at *
  refine ⟨(by show 0≤sizeLine; decide),fun pt hpt=>?_⟩
  refine ⟨_,rfl,t1,rfl,⟨_,SqL.of (ze hpt _ _ _ (gq _ _ hM.1))⟩,?_⟩
  refine yT (xs:=r1.map V.ref) (fun i σ H4=>∃ ras o5 o6,σ = [some (.int k),some (.ref t1),some (.ref t2),some (.ref pc),some (.ref pt),o5,o6]∧Grow Hq H4 ((prodM k c M N).take i) ras∧H4 pt = some (.lst (ras.map V.ref))∧pt∉ras) ⟨[],none,none,rfl,Grow.nil Hq (ze hpt _),zf,by simp⟩ ?_ ?_ ?_
  ·rintro i σ H4 _ ⟨ras,o5,o6,rfl,G,_⟩
   exact SqL.of (G.same _ _ (gq _ _ hM.1))
  ·rintro i v σ H4 hv ⟨ras,o5,o6,rfl,G,hpt4,npt4⟩
   obtain ⟨xs,a,hx,ha,rfl,hrow⟩:=(hM.mono (gq.trans G.same)).row hv
   obtain ⟨lx,ox⟩:=oM xs (List.mem_of_getElem? hx)
   refine ⟨_,rfl,_,rfl,k,xs,a,m,rfl,hk,hrow,ox,sM xs (List.mem_of_getElem? hx),m7,by rw [lx]; exact z4,fun p H5 g5 sc=>?_⟩
   rw [lx] at sc
   have gq5:=G.same.trans g5
   refine ⟨_,rfl,.inl ⟨rfl,_,SqL.of (g5 _ _ hpt4)⟩,_,rfl,pc,rfl,⟨_,SqL.of (gq5 _ _ hpq)⟩,?_⟩
   refine zT (xs:=ps.map V.ref) (fun j ys' H6=>Same H5 H6∧Paired (RN H6) (((transp c N).map fun col=>La.ndot k xs col).take j) ys') ⟨Same.refl _,.nil⟩ ?_ ?_ ?_
   ·rintro j ys' H6 hj ⟨g6,pr6⟩
    refine ⟨SqL.of (g6 _ _ (gq5 _ _ hpq)),?_⟩
    have:=zj pr6
    rw [List.length_take,List.length_map,zq] at this
    omega
   ·rintro j v ys' H6 hv' hj ⟨g6,pr6⟩
    rw [List.getElem?_map] at hv'
    obtain ⟨pj,hpj,rfl⟩:=Option.map_eq_some_iff.mp hv'
    obtain ⟨col,hcol,scj⟩:=zW prq hpj
    obtain ⟨lc,oc⟩:=oT col (List.mem_of_getElem? hcol)
    first | refine gyes ?_ | refine tyes ?_
    refine ⟨_,rfl,_,rfl,_,rfl,k,xs,col,p,pj,(b + 2) * m,rfl,hk,sc.mono g6,scj.mono (gq5.trans g6),ox,oc,by rw [lx,lc],z2,by rw [lx]; exact z1,by rw [lx]; exact z3,fun v7 H7 g7 r7=>?_⟩
    refine nxt hj ⟨g6.trans g7,?_⟩
    have e:((transp c N).map fun col=>La.ndot k xs col)[j]? = some (La.ndot k xs col):=by rw [List.getElem?_map,hcol]; rfl
    rw [zD e]
    exact yb (yO g7 pr6) r7
   ·rintro ys' H6 ⟨g6,pr6⟩ pn hpn
    rw [List.length_map,List.take_of_length_le (by rw [List.length_map,zq]; omega)] at pr6
    have g46:=g5.trans g6
    have npn:pt≠pn:=fun e=>by rw [← e,g46 _ _ hpt4] at hpn; cases hpn
    refine ⟨pt,_,_,rfl,rfl,(by rw [zJ npn]; exact g46 _ _ hpt4),?_,?_⟩
    ·have e1:=zj G.rows
     rw [List.length_take] at e1
     have e2:=(List.getElem?_eq_some_iff.mp ha).1
     have e3:=zj hM.2
     rw [List.length_map]; omega
    obtain ⟨G2,nm2⟩:=G.push (zs':=(ras.map V.ref) ++ [.ref pn]) hpt hpt4 npt4 g46 hpn pr6
    refine ⟨ras ++ [pn],_,_,rfl,?_,?_,nm2⟩
    ·have e:(prodM k c M N)[i]? = some ((transp c N).map fun col=>La.ndot k xs col):=by unfold prodM; rw [List.getElem?_map,hx]; rfl
     rw [zD e]
     exact G2
    ·rw [zf,List.map_append]; rfl
  ·rintro σ H4 ⟨ras,o5,o6,rfl,G,hpt4,npt4⟩
   rw [List.length_map,List.take_of_length_le (by unfold prodM; rw [List.length_map]; have:=zj hM.2; omega)] at G
   exact ⟨_,rfl,q pt ras H4 (gq.trans G.same) ⟨⟨hpt4,G.rows⟩,gq.none hpt,fun r hr=>gq.none (G.fr r hr),G.nd,npt4⟩⟩
theorem zcq (b:List Nb):∀ r∈transp b.length [b],r.length = 1:=fun r hr=>by
 unfold transp at hr
 obtain ⟨j,_,rfl⟩:=List.mem_map.mp hr
 rfl
theorem zhs (M:List (List Nb)) (b:List Nb):augM M (transp b.length [b]) = La.augR M b:=by
 have e:transp b.length [b] = b.map fun x=>[x]:=by
  refine List.ext_getElem? fun i=>?_
  rcases Nat.lt_or_ge i b.length with h | h
  ·rw [yd h,List.getElem?_map,List.getElem?_eq_getElem h]
   show some [b.getD i (.z 0)] = some [b[i]]
   rw [List.getD_eq_getElem?_getD,List.getElem?_eq_getElem h]; rfl
  ·rw [List.getElem?_eq_none (by rw [zq]; exact h),List.getElem?_eq_none (by rw [List.length_map]; exact h)]
 rw [e]
 unfold augM La.augR
 rw [List.zipWith_map_right]
noncomputable def zf4:Sp:=fun vs H Q _=>∃ (k:Int) (A:List (List Nb)) (b:List Nb) (n sz:Nat) (tA aB:Addr) (rA:List Addr),vs = [.int k,.ref tA,.ref aB]∧KindOk k∧TabAt H A tA rA∧RowAt H b aB∧La.OkM k n A∧La.OkR k b∧A.length = b.length∧0 < A.length∧A.length≤64∧n≤64∧La.rowsB sz (La.augR A b)∧61≤sz∧(sz + 1) * 2 ^ (n + 1)≤60000000 ∧
 (∀ x p H',Same H H'→NewR H H' x p→x.length = n→La.OkR k x→(∀ y∈x,nsm ((sz + 1) * 2 ^ (min (n + 1) A.length)) y)→(∀ (F:Type) [Lean.Grind.Field F] (φ:La.Kf k F),La.Sol φ n A b (La.nv φ x))→Q (.ref p) H') ∧
 (∀ R ls H',Same H H'→(∀ (F:Type) [Lean.Grind.Field F] (φ:La.Kf k F),La.RedOf φ (n + 1) (La.augR A b) R ls)→n∈ls→Q .non H')
theorem zib (D:Df K mg "some_solution" ["kind", "table", "row"] yU) (jZ:Kn P w K mg base "noughts" 2 ["kind", "width"] qy) (zeI:Kn P w K mg base "lead_of" 2 ["kind", "row"] zde) (zds:Kn P w K mg base "reduced" 45 ["kind", "rows"] XX) (YY:Kn P w K mg base "abreast" 1 ["one", "other"] ZM) (xR:Kn P w K mg base "turned" 1 ["table"] xJ) (m_len:mg "len" = none):Kn P w K mg base "some_solution" 46 ["kind", "table", "row"] zf4:=by
 refine D.kn sc_some_solution (fun vs H Q E h=>?_) (fun f cdv A outer s H vs Q E hr h=>?_)
 ·obtain ⟨k,A,b,n,sz,tA,aB,rA,rfl,_⟩:=h; rfl
 obtain ⟨k,M,b,n,sz,tA,aB,rA,rfl,hk,hT,hB,oA,ob,lAb,lA0,lA,n64,sAug,z7,hred,q1,q2⟩:=h
 have szl:sizeLine = 16777216:=by decide
 refine ⟨_,(zc (zm (i:=3) sc_some_solution.nd rfl (.inl rfl) (zG zP rfl m_len yt (za (zE zp (pv 1) zb (fun _ _=>rfl)) zd))) (zc (zm (i:=4) sc_some_solution.nd rfl (.inl rfl) (zu jZ (hr.mono (by decide)) rfl (za (pv 0) (za (pv 3) zd)))) (zc (yu PassesOwn.never rfl (zM (zu zds (hr.mono (by decide)) rfl (za (pv 0) (za (zu YY (hr.mono (by decide)) rfl (za (pv 1) (za (zu xR (hr.mono (by decide)) rfl (za (yC (za (pv 2) zd)) zd)) zd))) zd)))) (zh (i:=5) sc_some_solution.nd rfl (.inl rfl)) (zc (zm (i:=6) sc_some_solution.nd rfl (.inl rfl) (zu zeI (hr.mono (by decide)) rfl (za (pv 0) (za (pv 5) zd)))) (zc (yi (zH xt (pv 6) (pv 3) (nomark _)) (zg (zk zf0)) zL) (zg (jS (zE zp (pv 5) (pv 3) (fun _ _=>rfl)) (ZV (pv 4) (pv 6) xN)))))) (zg (zk (pv 4)))))),?_⟩
 have lrA:=zj hT.2
 obtain ⟨r0,rA',e0⟩ : ∃ r0 rA',rA = r0 :: rA':=by
  cases rA with
  | nil=>rw [List.length_nil] at lrA; omega
  | cons a b=>exact ⟨a,b,rfl⟩
 obtain ⟨m0,hm0,hr0⟩:=zW hT.2 (i:=0) (b:=r0) (by rw [e0]; rfl)
 obtain ⟨u0,hu0,pu0,lu0⟩:=hr0.len
 have lm0:=(oA m0 (List.mem_of_getElem? hm0)).1
 refine ⟨_,rfl,tA,_,_,_,rfl,rfl,SqL.of hT.1,(by rw [e0]; exact zK (j:=0) rfl),r0,_,rfl,.inl (SqL.of hu0),?_⟩
 rw [lu0,lm0]
 refine ⟨_,rfl,_,rfl,k,n,rfl,(by omega),fun v0 pt H2 g2 rv2 hpt2 ptH=>?_⟩
 refine ⟨_,rfl,_,rfl,_,rfl,(by show 1≤sizeLine; decide),fun p1 hp1=>?_⟩
 have g3a:=g2.trans (ze hp1 (.lst [.ref aB]))
 have T1:TabAt (upd H2 p1 (.lst [.ref aB])) [b] p1 [aB]:=⟨zf,.cons (hB.mono g3a) .nil⟩
 have s21:Same H2 (upd H2 p1 (.lst [.ref aB])):=ze hp1 (.lst [.ref aB])
 generalize upd H2 p1 (.lst [.ref aB]) = H2a at *
 refine ⟨[b],b.length,p1,[aB],rfl,T1,(by simp),(fun r hr=>by rw [List.mem_singleton.mp hr]),(by omega),(by show 1 < sizeLine; decide),fun tt rt H3 gt nT=>?_⟩
 have laug:(La.augR M b).length = M.length:=by unfold La.augR; rw [List.length_zipWith]; omega
 have eaug:augM M (transp b.length [b]) = La.augR M b:=zhs M b
 refine ⟨M,transp b.length [b],n,1,tA,tt,rA,rt,rfl,hT.mono (g3a.trans gt),nT.tab,by rw [zq]; exact lAb,fun r hr=>(oA r hr).1,zcq b,by omega,by omega,fun pa ras2 H4 ga nA=>?_⟩
 rw [eaug] at nA
 have N3:=nA.tab
 have g3:Same H2 H4:=(s21.trans gt).trans ga
 refine ⟨k,La.augR M b,n + 1,sz,pa,ras2,rfl,hk,N3,La.Jt oA ob,sAug,z7,hred,(by omega),(by omega),fun R ls top rs H5 g5 n5 red lR=>?_⟩
 have lRn:R.length≤n + 1:=zfE hk (zbZ red)
 have bR:=(zcS hk z7 (La.Jt oA ob) sAug red).mono (Nat.mul_le_mul_left _ (Nat.pow_le_pow_right (by decide) (show R.length≤min (n + 1) M.length by omega)))
 have c61:61≤(sz + 1) * 2 ^ (min (n + 1) M.length):=Nat.le_trans z7 (Nat.le_trans (Nat.le_succ _) (Nat.le_mul_of_pos_right _ (Nat.pow_pos (by decide))))
 have sR:=QT hk (zcY hk (zbZ red)).1 bR c61
 obtain ⟨F0,i0,d0,⟨φ0⟩⟩:=La.yl hk
 have red0:=red F0 φ0
 have nd:=zen red0.toIsR
 have lls:=red0.len
 have g25:=g3.trans g5
 have hpt5:=g25 _ _ hpt2
 have npt:pt∉rs:=fun hm=>by
  have:=n5.fr _ hm
  rw [g3 _ _ hpt2] at this; cases this
 have ntop:top≠pt:=fun e=>by
  have:=n5.ft
  rw [e,g3 _ _ hpt2] at this; cases this
 have lrs:=zj n5.tab.2
 refine ⟨top,rfl,⟨_,SqL.of n5.tab.1⟩,?_⟩
 refine yT (xs:=rs.map V.ref) (fun i σ H'=>∃ x us o5 o6,σ = [some (.int k),some (.ref tA),some (.ref aB),some (.int (n:Int)),some (.ref pt),o5,o6]∧Same H H'∧TabAt H' R top rs∧H' pt = some (.lst us)∧Paired (RN H') x us∧ToldI k n R ls i x∧La.OkR k x∧(∀ y∈x,nsm ((sz + 1) * 2 ^ (min (n + 1) M.length)) y)∧n∉ls.take i)
  ⟨_,_,none,none,rfl,g2.trans g25,n5.tab,hpt5,QS (rv2.mono g25) n,ToldI.start k n R ls,fun y hy=>by rw [List.eq_of_mem_replicate hy]; exact La.zI hk 0,fun y hy=>by rw [List.eq_of_mem_replicate hy]; exact (jx hk (jA 61) (by decide)).mono c61,by simp⟩ ?_ ?_ ?_
 ·rintro i σ H' _ ⟨x,us,o5,o6,rfl,g,T,_⟩
  exact SqL.of T.1
 ·rintro i v σ H6 hv ⟨x,us,o5,o6,rfl,g6,T6,hpt6,px,tI,ox,sx,nm⟩
  obtain ⟨row,a,hrow,ha,rfl,hR⟩:=T6.row hv
  have iR:i < R.length:=(List.getElem?_eq_some_iff.mp hrow).1
  obtain ⟨l,hl⟩ : ∃ l,ls[i]? = some l:=⟨ls[i]'(by omega),List.getElem?_eq_getElem (by omega)⟩
  obtain ⟨ln,lz,l1⟩:=zgy hk red0.toIsR hrow hl
  have orow:=red0.ok row (List.mem_of_getElem? hrow)
  refine ⟨_,rfl,_,rfl,k,row,a,l,_,rfl,hR,lz,l1,num01 hk,fun H7 g7=>?_⟩
  refine ⟨_,rfl,_,rfl,rfl,_,rfl,?_⟩
  refine ite2 (fun c=>?_) (fun c=>?_)
  ·have e:(l:Int) = (n:Int):=V.int.inj (of_decide_eq_true c)
   have e':l = n:=by omega
   exact q2 R ls H7 (g6.trans g7) red (by rw [← e']; exact List.mem_of_getElem? hl)
  ·have ne:l≠n:=fun z=>by rw [z] at c; exact c (by simp)
   have hnr:n < row.length:=by rw [orow.1]; omega
   obtain ⟨us7,hu7,pu7,lu7⟩:=(hR.mono g7).len
   obtain ⟨us,eu,ru⟩:=yM pu7 (List.getElem?_eq_getElem hnr)
   have hpt7:=g7 _ _ hpt6
   have lus:=zj px
   refine ⟨_,rfl,_,rfl,a,_,_,_,rfl,rfl,SqL.of hu7,zK eu,_,rfl,_,rfl,pt,_,_,l,rfl,rfl,hpt7,jW (by rw [← lus,tI.len]; omega),?_⟩
   refine ⟨x.set l row[n],_,_,_,rfl,xB (g6.trans g7) ptH,zgU (T6.mono g7) ntop npt hpt7,zf,zax hpt7 (zay (yO g7 px) l ru),tI.step nd hl hrow (List.getElem?_eq_getElem hnr) (by omega),fun y hy=>?_,fun y hy=>?_,?_⟩
   ·rcases La.yc hy with e | e
    ·rw [e]; exact orow.2 _ (List.getElem_mem hnr)
    ·exact ox y e
   ·rcases La.yc hy with e | e
    ·rw [e]; exact sR row (List.mem_of_getElem? hrow) _ (List.getElem_mem hnr)
    ·exact sx y e
   ·rw [zD hl]
    intro hm
    rcases List.mem_append.mp hm with hm | hm
    ·exact nm hm
    ·exact ne (List.mem_singleton.mp hm).symm
 ·rintro σ H6 ⟨x,us,o5,o6,rfl,g6,T6,hpt6,px,tI,ox,sx,nm⟩
  rw [List.length_map,← lrs] at tI nm
  rw [List.take_of_length_le (by omega)] at nm
  exact ⟨_,rfl,q1 x pt H6 g6 ⟨⟨us,hpt6,px⟩,ptH⟩ tI.len ox sx fun F _ φ=>La.zfA φ oA (red F φ) nm (tI.told lls)⟩
noncomputable def YR:Sp:=fun vs H Q _=>∃ (k:Int) (A:List (List Nb)) (b:List Nb) (n sz sz2:Nat) (tA aB:Addr) (rA:List Addr),vs = [.int k,.ref tA,.ref aB]∧KindOk k∧TabAt H A tA rA∧RowAt H b aB∧La.OkM k n A∧La.OkR k b∧A.length = b.length∧0 < A.length∧A.length≤63∧0 < n∧n≤63∧La.rowsB sz (La.augR A b)∧61≤sz∧(sz + 1) * 2 ^ (n + 1)≤60000000∧La.rowsB sz2 (La.augR (transp n A ++ [b]) (List.replicate n (nnum k 0) ++ [nnum k 1]))∧61≤sz2∧(sz2 + 1) * 2 ^ (A.length + 1)≤60000000 ∧
 (∀ p x a H',Same H H'→H' p = some (.tup [.str "found",.ref a])→NewR H H' x a→x.length = n→La.OkR k x→(∀ y∈x,nsm ((sz + 1) * 2 ^ (min (n + 1) A.length)) y)→(∀ (F:Type) [Lean.Grind.Field F] (φ:La.Kf k F),La.Sol φ n A b (La.nv φ x))→Q (.ref p) H') ∧
 (∀ p y a H',Same H H'→H' p = some (.tup [.str "never",.ref a])→NewR H H' y a→y.length = A.length→La.OkR k y→(∀ x∈y,nsm ((sz2 + 1) * 2 ^ (A.length + 1)) x)→(∀ (F:Type) [Lean.Grind.Field F] (φ:La.Kf k F),La.Sol φ A.length (transp n A ++ [b]) (List.replicate n (nnum k 0) ++ [nnum k 1]) (La.nv φ y))→Q (.ref p) H')
theorem zef (D:Df K mg "solved" ["kind", "table", "row"] Ys) (qk:Kn P w K mg base "some_solution" 46 ["kind", "table", "row"] zf4) (jZ:Kn P w K mg base "noughts" 2 ["kind", "width"] qy) (xc:Kn P w K mg base "number" 1 ["kind", "whole"] jr) (xR:Kn P w K mg base "turned" 1 ["table"] xJ) (m_len:mg "len" = none):Kn P w K mg base "solved" 47 ["kind", "table", "row"] YR:=by
 refine D.kn sc_solved (fun vs H Q E h=>?_) (fun f cdv A outer s H vs Q E hr h=>?_)
 ·obtain ⟨k,A,b,n,sz,sz2,tA,aB,rA,rfl,_⟩:=h; rfl
 obtain ⟨k,M,b,n,sz,sz2,tA,aB,rA,rfl,hk,hT,hB,oA,ob,lAb,lA0,lA,n0,n64,sA,z7,hr1,sB,z72,hr2,q1,q2⟩:=h
 have szl:sizeLine = 16777216:=by decide
 refine ⟨_,(zc (zm (i:=3) sc_solved.nd rfl (.inl rfl) (zu qk (hr.mono (by decide)) rfl (za (pv 0) (za (pv 1) (za (pv 2) zd))))) (zc (yi (zH zhf (pv 3) zf0 (nomark _)) (zg (zk (yv (za Zh (za (pv 3) zd))))) zL) (zc (zm (i:=4) sc_solved.nd rfl (.inl rfl) (zi Zq (zu jZ (hr.mono (by decide)) rfl (za (pv 0) (za (zG zP rfl m_len yt (za (zE zp (pv 1) zb (fun _ _=>rfl)) zd)) zd))) (yC (za (zu xc (hr.mono (by decide)) rfl (za (pv 0) (za zb zd))) zd)))) (zg (zk (yv (za Zh (za (zu qk (hr.mono (by decide)) rfl (za (pv 0) (za (zi Zq (zu xR (hr.mono (by decide)) rfl (za (pv 1) zd)) (yC (za (pv 2) zd))) (za (pv 4) zd)))) zd)))))))),?_⟩
 refine ⟨_,rfl,_,rfl,_,rfl,k,M,b,n,sz,tA,aB,rA,rfl,hk,hT,hB,oA,ob,lAb,lA0,by omega,by omega,sA,z7,hr1,fun x p H1 g1 nr lx ox sx sol=>?_,fun R ls H1 g1 red yes=>?_⟩
 ·refine ⟨_,rfl,rfl,_,rfl,iteT ?_⟩
  refine ⟨_,rfl,(by show 2≤sizeLine; decide),fun p2 hp2=>?_⟩
  exact q1 p2 x p _ (g1.trans (ze hp2 _)) zf ⟨nr.row.mono (ze hp2 _),nr.fa⟩ lx ox sx sol
 ·refine ⟨_,rfl,rfl,_,rfl,iteF ?_⟩
  have no:∀ (F:Type) [Lean.Grind.Field F] (φ:La.Kf k F) (x:Nat→F),¬ La.Sol φ n M b x:=fun F _ φ x=>La.zfj φ oA (red F φ) yes x
  have T1:=hT.mono g1
  have lrA:=zj hT.2
  obtain ⟨r0,rA',e0⟩ : ∃ r0 rA',rA = r0 :: rA':=by
   cases rA with
   | nil=>rw [List.length_nil] at lrA; omega
   | cons a b=>exact ⟨a,b,rfl⟩
  obtain ⟨m0,hm0,hr0⟩:=zW hT.2 (i:=0) (b:=r0) (by rw [e0]; rfl)
  have lm0:=(oA m0 (List.mem_of_getElem? hm0)).1
  obtain ⟨u0,hu0,pu0,lu0⟩:=(hr0.mono g1).len
  refine ⟨_,rfl,_,rfl,tA,_,_,_,rfl,rfl,SqL.of T1.1,(by rw [e0]; exact zK (j:=0) rfl),r0,_,rfl,.inl (SqL.of hu0),?_⟩
  rw [lu0,lm0]
  refine ⟨k,n,rfl,(by omega),fun v0 p4 H5 g5 rv5 hp45 p4H=>?_⟩
  have g15:=g1.trans g5
  refine ⟨_,rfl,k,1,rfl,fun v1 H6 g6 rv1=>⟨(by show 1≤sizeLine; decide),fun p7 hp7=>?_⟩⟩
  have n47:p4≠p7:=fun e=>by rw [← e,g6 _ _ hp45] at hp7; cases hp7
  refine ⟨p4,p7,_,_,rfl,rfl,(by rw [zJ n47]; exact g6 _ _ hp45),zf,(by rw [List.length_replicate]; show n + 1≤sizeLine; omega),fun p8 hp8=>?_⟩
  have g8:=(g6.trans (ze hp7 (.lst [v1]))).trans (ze hp8 (.lst (List.replicate n v0 ++ [v1])))
  have G8:RowAt (upd (upd H6 p7 (.lst [v1])) p8 (.lst (List.replicate n v0 ++ [v1]))) (List.replicate n (nnum k 0) ++ [nnum k 1]) p8 :=
   ⟨_,zf,qI (QS (rv5.mono g8) n) (.cons (rv1.mono ((ze hp7 _).trans (ze hp8 _))) .nil)⟩
  have g18:=g15.trans g8
  generalize upd (upd H6 p7 (.lst [v1])) p8 (.lst (List.replicate n v0 ++ [v1])) = H8 at *
  refine ⟨_,rfl,_,rfl,M,n,tA,rA,rfl,hT.mono g18,(fun e=>by rw [e] at lA0; simp at lA0),(fun r hr=>(oA r hr).1),by omega,by omega,fun tt rt H9 g9 nt=>?_⟩
  refine ⟨_,rfl,(by show 1≤sizeLine; decide),fun p10 hp10=>?_⟩
  have n10:tt≠p10:=fun e=>by rw [← e,nt.tab.1] at hp10; cases hp10
  have lrt:=zj nt.tab.2
  rw [zq] at lrt
  refine ⟨tt,p10,_,_,rfl,rfl,(by rw [zJ n10]; exact nt.tab.1),zf,(by rw [List.length_map]; show _ + 1≤_; omega),fun p11 hp11=>?_⟩
  have g11:=(ze hp10 (.lst [.ref aB])).trans (ze hp11 (.lst (rt.map V.ref ++ [.ref aB])))
  have T11:TabAt (upd (upd H9 p10 (.lst [.ref aB])) p11 (.lst (rt.map V.ref ++ [.ref aB]))) (transp n M ++ [b]) p11 (rt ++ [aB]) :=
   ⟨by rw [zf,List.map_append]; rfl,qI (nt.tab.mono g11).2 (.cons (((hB.mono g18).mono g9).mono g11) .nil)⟩
  generalize upd (upd H9 p10 (.lst [.ref aB])) p11 (.lst (rt.map V.ref ++ [.ref aB])) = H11 at *
  have g111:=(g18.trans g9).trans g11
  have oT:=yF oA
  have oTb:La.OkM k M.length (transp n M ++ [b]):=fun r hr=>by
   rcases List.mem_append.mp hr with h | h
   ·exact oT r h
   ·rw [List.mem_singleton.mp h]; exact ⟨lAb.symm,ob⟩
  have og:La.OkR k (List.replicate n (nnum k 0) ++ [nnum k 1]):=fun x hx=>by
   rcases List.mem_append.mp hx with h | h
   ·rw [List.eq_of_mem_replicate h]; exact La.zI hk 0
   ·rw [List.mem_singleton.mp h]; exact La.zI hk 1
  refine ⟨_,rfl,k,transp n M ++ [b],_,M.length,sz2,p11,p8,rt ++ [aB],rfl,hk,T11,(G8.mono g9).mono g11,oTb,og,(by rw [List.length_append,List.length_append,zq,List.length_replicate]; rfl),(by rw [List.length_append,zq]; omega),(by rw [List.length_append,zq]; show n + 1≤64; omega),by omega,sB,z72,hr2,fun y p H12 g12 nr ly oy sy sol=>?_,fun R2 ls2 H12 g12 red2 yes2=>?_⟩
  ·refine ⟨(by show 2≤sizeLine; decide),fun p13 hp13'=>?_⟩
   exact q2 p13 y p _ ((g111.trans g12).trans (ze hp13' _)) zf ⟨nr.row.mono (ze hp13' _),g111.none nr.fa⟩ ly oy (fun x hx=>(sy x hx).mono (Nat.mul_le_mul_left _ (Nat.pow_le_pow_right (by decide) (Nat.min_le_left _ _)))) sol
  ·exfalso
   obtain ⟨F0,i0,d0,⟨φ0⟩⟩:=La.yl hk
   exact La.zcN φ0 oA rfl lAb.symm ob (no F0 φ0) (red2 F0 φ0) yes2
noncomputable def zaU:Sp:=fun vs H Q _=>∃ (k:Int) (r c:Nat),vs = [.int k,.int (r:Int),.int (c:Int)]∧r≤1000∧c≤1000∧∀ t ras H',Same H H'→NewT H H' (nulT k r c) t ras→Q (.ref t) H'
theorem zgz (D:Df K mg "nought_table" ["kind", "rows", "columns"] yZ) (jZ:Kn P w K mg base "noughts" 2 ["kind", "width"] qy) (zt:mg "range" = none):Kn P w K mg base "nought_table" 3 ["kind", "rows", "columns"] zaU:=by
 refine D.kn Xg (fun vs H Q E h=>?_) (fun f cdv A outer s H vs Q E hr h=>?_)
 ·obtain ⟨k,r,c,rfl,_⟩:=h; rfl
 obtain ⟨k,r,c,rfl,hr',hc,q⟩:=h
 have szl:sizeLine = 16777216:=by decide
 refine ⟨_,(zg (zk (ya ["row"] ["kind", "columns"] [0,2] ⟨rfl,rfl,rfl,rfl,rfl,rfl,by decide +kernel⟩ rfl (zR rfl zt (za (pv 1) zd)) (zo (by decide)) fun _ _ _ _ _ _=>⟨(zh (i:=0) (by decide:(["row", "kind", "columns"]:List Str).Nodup) rfl (by first | exact Or.inl rfl | exact Or.inr rfl)),zQ,(zu jZ (hr.mono (by decide)) rfl (za (pv 1) (za (pv 2) zd)))⟩))),?_⟩
 have lT:(nulT k r c).length = r:=by unfold nulT; simp
 refine ⟨_,rfl,r,rfl,(by omega),(by omega),?_⟩
 rw [Int.toNat_natCast]
 refine yA (lo:=0) (n:=r) (fun i ys H'=>∃ ras2,ys = ras2.map V.ref∧Grow H H' ((nulT k r c).take i) ras2) ⟨[],rfl,Grow.nil H (Same.refl H)⟩ ?_ ?_ ?_
 ·rintro i ys H' hi ⟨ras2,rfl,G⟩
  have:=zj G.rows
  rw [List.length_take] at this
  rw [List.length_map]; omega
 ·rintro i ys H' hi ⟨ras2,rfl,G⟩
  first | refine gyes ?_ | refine tyes ?_
  refine ⟨_,rfl,_,rfl,k,c,rfl,hc,fun v0 pt H2 g2 rv hpt hn=>?_⟩
  refine nxt hi ⟨ras2 ++ [pt],by rw [List.map_append]; rfl,?_⟩
  rw [zD (zfx hi)]
  exact G.addR g2 ⟨_,hpt,QS rv c⟩ hn
 ·rintro ys H' ⟨ras2,rfl,G⟩ t ht
  rw [List.take_of_length_le (by omega)] at G
  exact q t ras2 _ (G.same.trans (ze ht _)) (G.done ht)
noncomputable def zeA:Sp:=fun vs H Q _=>∃ (k:Int) (xs ys:List Nb) (a b:Addr),vs = [.int k,.ref a,.ref b]∧KindOk k∧RowAt H xs a∧RowAt H ys b∧La.OkR k xs∧La.OkR k ys∧xs.length = ys.length∧xs.length≤1000∧(∀ x∈xs,nsm 60000000 x)∧(∀ x∈ys,nsm 60000000 x) ∧
 ∀ p H',Same H H'→NewR H H' (subR k xs ys) p→Q (.ref p) H'
theorem zhb (D:Df K mg "difference" ["kind", "one", "other"] xO) (zgI:Kn P w K mg base "minus" 42 ["kind", "one", "other"] (xv nsub)) (m_zip:mg "zip" = none):Kn P w K mg base "difference" 43 ["kind", "one", "other"] zeA:=by
 refine D.kn Qn (fun vs H Q E h=>?_) (fun f cdv A outer s H vs Q E hr h=>?_)
 ·obtain ⟨k,xs,ys,a,b,rfl,_⟩:=h; rfl
 obtain ⟨k,xs,ys,a,b,rfl,hk,hx,hy,ox,oy,lxy,l1000,sx,sy,q⟩:=h
 have szl:sizeLine = 16777216:=by decide
 obtain ⟨us1,hu1,pu1,lu1⟩:=hx.len
 obtain ⟨us2,hu2,pu2,lu2⟩:=hy.len
 have ls:=sub_len hk lxy
 refine ⟨_,(zg (zk (ya ["left", "right"] ["kind"] [0] ⟨rfl,rfl,rfl,rfl,rfl,rfl,by decide +kernel⟩ rfl (qJ rfl m_zip (za (pv 1) (za (pv 2) zd))) (qr (yj (zo (by decide)) yk (yj (zo (by decide)) yk jq))) fun _ _ _ _ _ _=>⟨(jh 2 rfl (zS (zh (i:=0) (by decide:(["left", "right", "kind"]:List Str).Nodup) rfl (by first | exact Or.inl rfl | exact Or.inr rfl)) (zS (zh (i:=1) (by decide:(["left", "right", "kind"]:List Str).Nodup) rfl (by first | exact Or.inl rfl | exact Or.inr rfl)) xn))),zQ,(zu zgI (hr.mono (by decide)) rfl (za (pv 2) (za (pv 0) (za (pv 1) zd))))⟩))),?_⟩
 refine ⟨_,rfl,_,rfl,a,b,us1,us2,rfl,SqL.of hu1,SqL.of hu2,?_⟩
 refine qu (xs:=us1) (zs:=us2) (by omega) (fun j ys' H'=>Same H H'∧Paired (RN H') ((subR k xs ys).take j) ys') ⟨Same.refl _,.nil⟩ ?_ ?_ ?_
 ·rintro j ys' H' hj ⟨g,pr⟩
  refine ⟨SqL.of (g _ _ hu1),SqL.of (g _ _ hu2),?_⟩
  have:=zj pr
  rw [List.length_take] at this
  omega
 ·rintro j x z T ys' H' hx' hz hj hT ⟨g,pr⟩
  obtain ⟨nx,ex,rx⟩:=zW pu1 hx'
  obtain ⟨nz,ez,rz⟩:=zW pu2 hz
  have gN:=ze hT (.tup [x,z])
  have gT:=g.trans gN
  refine ⟨T,_,rfl,SqT.of zf,rfl,_,_,rfl,_,_,rfl,rfl,?_⟩
  generalize upd H' T (.tup [x,z]) = H2 at *
  first | refine gyes ?_ | refine tyes ?_
  refine ⟨_,rfl,_,rfl,_,rfl,k,nx,nz,x,z,rfl,⟨hk,ox nx (List.mem_of_getElem? ex),oy nz (List.mem_of_getElem? ez),sx nx (List.mem_of_getElem? ex),sy nz (List.mem_of_getElem? ez),rx.mono gT,rz.mono gT⟩,fun v H3 g3 r3=>nxt hj ⟨gT.trans g3,?_⟩⟩
  have e:(subR k xs ys)[j]? = some (nsub k nx nz):=by unfold subR; rw [List.getElem?_zipWith,ex,ez]
  rw [zD e]
  exact yb (yO (gN.trans g3) pr) r3
 ·rintro ys' H' ⟨g,pr⟩ p hp
  rw [List.take_of_length_le (by omega)] at pr
  have g2:=ze hp (.lst ys')
  exact q p _ (g.trans g2) ⟨⟨ys',zf,yO g2 pr⟩,g.none hp⟩
noncomputable def zbp:Sp:=fun vs H Q _=>∃ (k:Int) (A B C:List (List Nb)) (xs:List Nb) (n h s m:Nat) (pm ta tb tc ax:Addr) (ra rb rc:List Addr),vs = [.int k,.ref pm,.ref ax]∧KindOk k∧MachAt H A B C pm ta tb tc ra rb rc∧RowAt H xs ax∧MOk k n h s m A B C∧ROk k n m xs∧61≤m∧(n + 2) * m≤20000000∧n≤1000 ∧
 ∀ p H',Same H H'→NewR H H' (imgM k A xs) p→Q (.ref p) H'
theorem zfo (D:Df K mg "drifted" ["kind", "machine", "standing"] qW) (Jo:Kn P w K mg base "image" 45 ["kind", "table", "row"] JP):Kn P w K mg base "drifted" 46 ["kind", "machine", "standing"] zbp:=by
 refine D.kn zcx (fun vs H Q E h=>?_) (fun f cdv A' outer s' H vs Q E hr h=>?_)
 ·obtain ⟨k,A,B,C,xs,n,h,s,m,pm,ta,tb,tc,ax,ra,rb,rc,rfl,_⟩:=h; rfl
 obtain ⟨k,A,B,C,xs,n,h,s,m,pm,ta,tb,tc,ax,ra,rb,rc,rfl,hk,hM,hx,oM,rx,m7,hsz,n1000,q⟩:=h
 have szl:sizeLine = 16777216:=by decide
 refine ⟨_,(zg (zk (zu Jo (hr.mono (by decide)) rfl (za (pv 0) (za (zE zw (pv 1) zb (fun _ _=>rfl)) (za (pv 2) zd)))))),?_⟩
 exact ⟨_,rfl,_,rfl,pm,_,_,_,rfl,rfl,SqT.of hM.tup,rfl,_,rfl,k,A,xs,n,m,ta,ax,ra,rfl,hk,hM.a,hx,oM.a.ok,rx.len,rx.ok,oM.a.sz,rx.sz,m7,hsz,(by rw [oM.a.len]; omega),q⟩
noncomputable def zaN:Sp:=fun vs H Q _=>∃ (k:Int) (A B C:List (List Nb)) (xs ys:List Nb) (n h s turns cg:Nat) (tI:Int) (pm ta tb tc a b:Addr) (ra rb rc:List Addr),vs = [.int k,.ref pm,.ref a,.ref b,.int tI]∧tI = (turns:Int)∧KindOk k∧MachAt H A B C pm ta tb tc ra rb rc∧RowAt H xs a∧RowAt H ys b∧Fit k n∧MOk k n h s 80 A B C∧La.OkR k xs∧La.OkR k ys∧xs.length = n∧ys.length = n∧La.rowB 100 xs∧La.rowB cg ys∧61≤cg∧cg≤1000000∧turns≤7 ∧
 ∀ p H',Same H H'→NewR H H' (subR k ys (powX k A xs turns)) p→Q (.ref p) H'
theorem zgS (D:Df K mg "left_to_go" ["kind", "machine", "start", "goal", "turns"] jc) (zcX:Kn P w K mg base "drifted" 46 ["kind", "machine", "standing"] zbp) (zak:Kn P w K mg base "difference" 43 ["kind", "one", "other"] zeA) (zt:mg "range" = none):Kn P w K mg base "left_to_go" 47 ["kind", "machine", "start", "goal", "turns"] zaN:=by
 refine D.kn sc_left_to_go (fun vs H Q E h=>?_) (fun f cdv A' outer s' H vs Q E hr h=>?_)
 ·obtain ⟨k,A,B,C,xs,ys,n,h,s,turns,cg,tI,pm,ta,tb,tc,a,b,ra,rb,rc,rfl,_⟩:=h; rfl
 obtain ⟨k,A,B,C,xs,ys,n,h,s,turns,cg,tI,pm,ta,tb,tc,a,b,ra,rb,rc,rfl,rfl,hk,hM,hx,hy,hf,oM,ox,oy,lx,ly,bx,by',c61,c1,t7,q⟩:=h
 have szl:sizeLine = 16777216:=by decide
 have n10:=hf.n10
 have oMz:MOk k n h s 7000 A B C:=⟨oM.a.up (by decide),oM.b.up (by decide),oM.c.up (by decide)⟩
 have bP:∀ i,i≤7→La.rowB 7000 (powX k A xs i):=fun i hi=>(qi hk hf oM.a ox lx bx i).mono (by omega)
 refine ⟨_,(zc (zm (i:=5) sc_left_to_go.nd rfl (.inl rfl) (pv 2)) (zc (yu PassesOwn.never rfl (zR rfl zt (za (pv 4) zd)) (zh (i:=6) sc_left_to_go.nd rfl (.inl rfl)) (zg (zm (i:=5) sc_left_to_go.nd rfl (.inl rfl) (zu zcX (hr.mono (by decide)) rfl (za (pv 0) (za (pv 1) (za (pv 5) zd))))))) (zg (zk (zu zak (hr.mono (by decide)) rfl (za (pv 0) (za (pv 3) (za (pv 5) zd)))))))),?_⟩
 refine ⟨_,rfl,?_⟩
 refine ⟨_,rfl,turns,rfl,by omega,by omega,?_⟩
 rw [Int.toNat_natCast]
 refine yz (lo:=0) (n:=turns) (fun t σ H'=>∃ (ph:Addr) (o6:Option V),σ = [some (.int k),some (.ref pm),some (.ref a),some (.ref b),some (.int (turns:Int)),some (.ref ph),o6]∧Same H H'∧RowAt H' (powX k A xs t) ph) ⟨a,none,rfl,Same.refl _,hx⟩ ?_ ?_
 ·rintro t σ H3 ht ⟨ph,o6,rfl,g3,hp⟩
  obtain ⟨op,lp⟩:=xm hk oM.a.ok oM.a.len ox lx t
  exact ⟨_,rfl,_,rfl,_,rfl,k,A,B,C,_,n,h,s,7000,pm,ta,tb,tc,ph,ra,rb,rc,rfl,hk,hM.mono g3,hp,oMz,⟨lp,op,xx hk op (bP t (by omega)) (by decide)⟩,by omega,(by omega),by omega,fun p' H7 g7 n7=>⟨p',_,rfl,g3.trans g7,n7.row⟩⟩
 ·rintro σ H3 ⟨ph,o6,rfl,g3,hp⟩
  obtain ⟨op,lp⟩:=xm hk oM.a.ok oM.a.len ox lx turns
  have sp':=xx hk op (bP turns t7) (by decide)
  have sy:=xx hk oy by' c61
  exact ⟨_,rfl,_,rfl,_,rfl,k,ys,powX k A xs turns,b,ph,rfl,hk,hy.mono g3,hp,oy,op,ly.trans lp.symm,by omega,(fun x hx=>(sy x hx).mono (by omega)),(fun x hx=>(sp' x hx).mono (by decide)),fun pd H4 g4 nd=>q pd H4 (g3.trans g4) ⟨nd.row,g3.none nd.fa⟩⟩
theorem zgc {k:Int} (hk:KindOk k) {n h s:Nat} {A B C:List (List Nb)} (hf:Fit k n) (oM:MOk k n h s 80 A B C) {i:Nat} (hi:k = 0→i≤2):szM 2246 (blkT k h A B i):=by
 obtain ⟨ob,lb⟩:=qd hk oM i
 have oT:=XZ oM.b
 have cz:szM 2246 (transp h (blkT k h A B i)):=fun r hr x hx=>by
  rw [QK i] at hr
  obtain ⟨c,hc,rfl⟩:=List.mem_map.mp hr
  have o:=xm hk oM.a.ok oM.a.len (oT.ok c hc).2 (oT.ok c hc).1 i
  by_cases k0:k = 0
  ·have:=hi k0
   have r0:=XT (m:=80) (by decide) (oT.ok c hc).1 hf (oT.ok c hc).2 (fun y hy _=>oT.sz c hc y hy)
   exact xx hk o.1 ((qi hk hf oM.a (oT.ok c hc).2 (oT.ok c hc).1 r0 i).mono (show _≤2246 by omega)) (by decide) x hx
  ·exact (Jv hk k0 (o.1 x hx)).mono (by decide)
 have tt:=Jc (yF ob) cz
 rw [xw ob] at tt
 exact tt
theorem zhS {k:Int} (hk:KindOk k) {n h s:Nat} {A B C:List (List Nb)} (hf:Fit k n) (oM:MOk k n h s 80 A B C):∀ t,(k = 0→t≤3)→szM 2246 (mvT k n h A B t)
 | 0,_=>fun r hr x hx=>by
  have hr':r∈nulT k n 1:=hr
  unfold nulT at hr'
  rw [List.eq_of_mem_replicate hr'] at hx
  rw [List.eq_of_mem_replicate hx]
  exact (jx hk (jA 61) (by decide)).mono (by decide)
 | t + 1,ht=>fun r hr x hx=>by
  have hr':r∈augM (mvT k n h A B t) (blkT k h A B t):=hr
  unfold augM at hr'
  obtain ⟨i,hi,e⟩:=List.getElem_of_mem hr'
  rw [List.getElem_zipWith] at e
  rw [← e] at hx
  rcases List.mem_append.mp hx with h' | h'
  ·exact zhS hk hf oM t (fun e=>by have:=ht e; omega) _ (List.getElem_mem _) x h'
  ·exact zgc hk hf oM (fun e=>by have:=ht e; omega) _ (List.getElem_mem _) x h'
noncomputable def Jm:Sp:=fun vs H Q _=>∃ (k:Int) (A B C:List (List Nb)) (n h s turns:Nat) (tI:Int) (pm ta tb tc:Addr) (ra rb rc:List Addr),vs = [.int k,.ref pm,.int tI]∧tI = (turns:Int)∧KindOk k∧MachAt H A B C pm ta tb tc ra rb rc∧Fit k n∧MOk k n h s 80 A B C∧h≤100∧turns≤10∧(∀ i,i < turns→szM 2246 (blkT k h A B i)) ∧
 ∀ t rs H',Same H H'→TabAt H' (mvT k n h A B turns) t rs→Q (.ref t) H'
theorem zfa (D:Df K mg "moved_by" ["kind", "machine", "turns"] qA) (jd:Kn P w K mg base "nought_table" 3 ["kind", "rows", "columns"] zaU) (YI:Kn P w K mg base "product" 45 ["kind", "one", "other"] ZL) (YY:Kn P w K mg base "abreast" 1 ["one", "other"] ZM) (zt:mg "range" = none) (m_len:mg "len" = none):Kn P w K mg base "moved_by" 46 ["kind", "machine", "turns"] Jm:=by
 refine D.kn sc_moved_by (fun vs H Q E h=>?_) (fun f cdv A' outer s' H vs Q E hr h=>?_)
 ·obtain ⟨k,A,B,C,n,h,s,turns,tI,pm,ta,tb,tc,ra,rb,rc,rfl,_⟩:=h; rfl
 obtain ⟨k,A,B,C,n,h,s,turns,tI,pm,ta,tb,tc,ra,rb,rc,rfl,rfl,hk,hM,hf,oM,h100,tn,sbl,q⟩:=h
 have szl:sizeLine = 16777216:=by decide
 have n10:=hf.n10
 have n1:=hf.1
 have lA:=oM.a.len
 have lB:=oM.b.len
 have lb:=zj hM.b.2
 rw [lB] at lb
 have n3:k = 0→n≤3:=fun e=>by rcases fit3 hf with h | h; exact h; exact absurd e h
 refine ⟨_,(zc (zm (i:=3) sc_moved_by.nd rfl (.inl rfl) (zu jd (hr.mono (by decide)) rfl (za (pv 0) (za (zG zP rfl m_len yt (za (zE zw (pv 1) zb (fun _ _=>rfl)) zd)) (za zb zd))))) (zc (zm (i:=4) sc_moved_by.nd rfl (.inl rfl) (zE zw (pv 1) zb (fun _ _=>rfl))) (zc (yu PassesOwn.never rfl (zR rfl zt (za (pv 2) zd)) (zh (i:=5) sc_moved_by.nd rfl (.inl rfl)) (zc (yi (zH Yj (pv 5) zb (nomark _)) (zg (zm (i:=4) sc_moved_by.nd rfl (.inl rfl) (zu YI (hr.mono (by decide)) rfl (za (pv 0) (za (zE zw (pv 1) zb (fun _ _=>rfl)) (za (pv 4) zd)))))) zL) (zg (zm (i:=3) sc_moved_by.nd rfl (.inl rfl) (zu YY (hr.mono (by decide)) rfl (za (pv 3) (za (pv 4) zd))))))) (zg (zk (pv 3)))))),?_⟩
 refine ⟨_,rfl,_,rfl,pm,_,_,_,rfl,rfl,SqT.of hM.tup,rfl,tb,_,rfl,.inl (SqL.of hM.b.1),?_⟩
 rw [List.length_map,← lb]
 refine ⟨k,n,1,rfl,by omega,by decide,fun t1 r1 H1 g1 N1=>?_⟩
 have hM1:=hM.mono g1
 refine ⟨_,rfl,pm,_,_,_,rfl,rfl,SqT.of hM1.tup,rfl,?_⟩
 refine ⟨_,rfl,turns,rfl,by omega,by omega,?_⟩
 rw [Int.toNat_natCast]
 refine yz (lo:=0) (n:=turns) (fun i σ H'=>∃ (pt pb:Addr) (rt rb':List Addr) (o5:Option V),σ = [some (.int k),some (.ref pm),some (.int (turns:Int)),some (.ref pt),some (.ref pb),o5]∧Same H H'∧TabAt H' (mvT k n h A B i) pt rt∧TabAt H' (blkT k h A B (i - 1)) pb rb') ⟨t1,tb,r1,rb,none,rfl,g1,N1.tab,hM1.b⟩ ?_ ?_
 ·rintro i σ H2 hi ⟨pt,pb,rt,rb',o5,rfl,g2,hT,hB⟩
  have hM2:=hM.mono g2
  obtain ⟨om,lm⟩:=ZX hk oM i
  obtain ⟨ob,lbk⟩:=qd hk oM i
  have iw:i * h≤10 * 100:=Nat.mul_le_mul (by omega) h100
  have put:∀ (pb2:Addr) (rb2:List Addr) (H3:Hp),Same H2 H3→TabAt H3 (blkT k h A B i) pb2 rb2→Q = Q→(∀ (pa:Addr) (ra2:List Addr) (H4:Hp),Same H3 H4→TabAt H4 (mvT k n h A B (i + 1)) pa ra2→TabAt H4 (blkT k h A B i) pb2 rb2→True):=fun _ _ _ _ _ _ _ _ _ _ _ _=>trivial
  clear put
  refine ⟨_,rfl,_,_,rfl,rfl,_,rfl,?_⟩
  rcases Nat.eq_zero_or_pos i with e0 | e0
  ·subst e0
   refine iteF ?_
   refine ⟨_,rfl,_,rfl,mvT k n h A B 0,blkT k h A B 0,1 + 0 * h,h,pt,pb,rt,rb',rfl,hT,hB,lm.trans lbk.symm,(fun r hr=>(om r hr).1),(fun r hr=>(ob r hr).1),(by omega),by omega,fun pa ra2 H4 g4 N4=>?_⟩
   exact ⟨pa,pb,ra2,rb',_,rfl,g2.trans g4,N4.tab,hB.mono g4⟩
  ·rw [decide_eq_true (show (0:Int) < 0 + (i:Int) by omega)]
   refine iteT ?_
   obtain ⟨ob0,lb0⟩:=qd hk oM (i - 1)
   have sb:=sbl (i - 1) (by omega)
   have sAm:szM 2246 A:=fun r hr x hx=>(oM.a.sz r hr x hx).mono (by decide)
   refine ⟨_,rfl,_,rfl,pm,_,_,_,rfl,rfl,SqT.of hM2.tup,rfl,_,rfl,k,A,blkT k h A B (i - 1),n,h,2246,ta,pb,ra,rb',rfl,hk,hM2.a,hB,oM.a.ok,ob0,lb0,n1,sAm,sb,by decide,(by omega),by omega,by omega,fun t3 r3 H3 g3 N3=>?_⟩
   have T3:TabAt H3 (blkT k h A B i) t3 r3:=by
    have e:prodM k h A (blkT k h A B (i - 1)) = blkT k h A B i:=by
     obtain ⟨j,rfl⟩ : ∃ j,i = j + 1:=⟨i - 1,by omega⟩
     rfl
    rw [e] at N3
    exact N3.tab
   refine ⟨_,rfl,_,rfl,mvT k n h A B i,blkT k h A B i,1 + i * h,h,pt,t3,rt,r3,rfl,hT.mono g3,T3,lm.trans lbk.symm,(fun r hr=>(om r hr).1),(fun r hr=>(ob r hr).1),(by omega),by omega,fun pa ra2 H4 g4 N4=>?_⟩
   exact ⟨pa,t3,ra2,r3,_,rfl,(g2.trans g3).trans g4,N4.tab,T3.mono g4⟩
 ·rintro σ H2 ⟨pt,pb,rt,rb',o5,rfl,g2,hT,hB⟩
  exact ⟨_,rfl,q pt rt H2 g2 hT⟩
theorem zh6 {α β:Type} {R:α→β→Prop} {xs:List α} {ys:List β} (h:Paired R xs ys) (i n:Nat):Paired R ((xs.drop i).take n) ((ys.drop i).take n):=by
 refine zbG ?_ n
 have l:=zj h
 refine Yl (by rw [List.length_drop,List.length_drop,l]) fun j x y h1 h2=>?_
 rw [List.getElem?_drop] at h1 h2
 exact xY h h1 h2
theorem zgl {α β:Type} {R:α→β→Prop}:∀ {xs:List α} {ys:List β},Paired R xs ys→Paired R xs.reverse ys.reverse
 | _,_,.nil=>.nil
 | _,_,.cons h t=>by rw [List.reverse_cons,List.reverse_cons]; exact yb (zgl t) h
noncomputable def Xe:Sp:=fun vs H Q _=>∃ (x:List Nb) (h t:Nat) (a:Addr),vs = [.ref a,.int (h:Int)]∧RowAt H x a∧x.length = 1 + t * h∧1≤h∧h≤100∧t≤100 ∧
 ∀ p rs H',Same H H'→TabAt H' (cutB h t (x.drop 1)).reverse p rs→Q (.ref p) H'
theorem zet (D:Df K mg "in_turn" ["strung_out", "hands"] Zg) (zt:mg "range" = none) (m_len:mg "len" = none) (yS:mg "list" = none) (ZF:mg "reversed" = none):Kn P w K mg base "in_turn" 1 ["strung_out", "hands"] Xe:=by
 refine D.kn sc_in_turn (fun vs H Q E h=>?_) (fun f cdv A' outer s' H vs Q E hr h=>?_)
 ·obtain ⟨x,h,t,a,rfl,_⟩:=h; rfl
 obtain ⟨x,h,t,a,rfl,hx,lx,h1,h100,t100,q⟩:=h
 have szl:sizeLine = 16777216:=by decide
 obtain ⟨us,hu,pu,lu⟩:=hx.len
 have th:t * h≤100 * 100:=Nat.mul_le_mul t100 h100
 refine ⟨_,(zc (je (i:=2) sc_in_turn.nd rfl rfl ["place"] ["strung_out", "hands"] [0,1] ⟨rfl,rfl,rfl,rfl,rfl,rfl,by decide +kernel⟩ rfl (zdB rfl zt (za zb (za (zG zP rfl m_len yt (za (pv 0) zd)) (za (pv 1) zd)))) (zo (by decide)) fun _ _ _ _ _ _=>⟨(zh (i:=0) (by decide:(["place", "strung_out", "hands"]:List Str).Nodup) rfl (by first | exact Or.inl rfl | exact Or.inr rfl)),zQ,(jy qv (pv 1) (jX (pv 0)) (jX (zi yh (pv 0) (pv 2))))⟩) (zg (zk (zb2 (K:=K) rfl rfl rfl yS rfl ZF (za (pv 2) zd))))),?_⟩
 refine ⟨_,rfl,a,_,rfl,.inl (SqL.of hu),_,rfl,1,_,(h:Int),t,rfl,⟨by decide,by decide,by omega,by omega,by omega,by omega⟩,(by rw [lu,lx]; exact zdT h1),by omega,?_⟩
 have lC:(cutB h t (x.drop 1)).length = t:=jJ
 refine zaM (lo:=1) (c:=(h:Int)) (n:=t) (fun i ys H'=>∃ ras,ys = ras.map V.ref∧Grow H H' ((cutB h t (x.drop 1)).take i) ras) ⟨[],rfl,Grow.nil H (Same.refl H)⟩ ?_ ?_ ?_
 ·rintro i ys H' hi ⟨ras,rfl,G⟩
  have:=zj G.rows
  rw [List.length_take,lC] at this
  rw [List.length_map]; omega
 ·rintro i ys H' hi ⟨ras,rfl,G⟩
  first | refine gyes ?_ | refine tyes ?_
  have hu':=G.same _ _ hu
  have e1:(1:Int) + (i:Int) * (h:Int) = ((1 + i * h:Nat):Int):=by push_cast; rfl
  rw [e1]
  refine ⟨_,rfl,_,rfl,_,rfl,_,rfl,_,rfl,_,_,rfl,rfl,_,rfl,a,_,rfl,SqL.of hu',fun p hp=>?_⟩
  rw [show ((1 + i * h:Nat):Int) + (h:Int) = ((1 + i * h + h:Nat):Int) by push_cast; rfl] at *
  rw [zhP,show 1 + i * h + h - (1 + i * h) = h by omega]
  refine nxt hi ⟨ras ++ [p],by rw [List.map_append]; rfl,?_⟩
  have e:(cutB h t (x.drop 1))[i]? = some (((x.drop (1 + i * h))).take h):=by
   unfold cutB
   rw [List.getElem?_map,List.getElem?_range hi]
   show some (((x.drop 1).drop (i * h)).take h) = _
   rw [List.drop_drop]
  rw [zD e]
  exact G.snoc hp (zh6 (yO G.same pu) (1 + i * h) h)
 ·rintro ys H' ⟨ras,rfl,G⟩ p1 hp1
  rw [List.take_of_length_le (by omega)] at G
  have N:=G.done hp1
  have g1:=G.same.trans (ze hp1 (.lst (ras.map V.ref)))
  generalize upd H' p1 (.lst (ras.map V.ref)) = H1 at *
  refine ⟨_,rfl,p1,_,rfl,SqL.of N.tab.1,fun l hl=>?_⟩
  have g2:=ze hl (.lst (ras.map V.ref).reverse)
  exact q l ras.reverse _ (g1.trans g2) ⟨by rw [zf,List.map_reverse],zgl (N.tab.mono g2).2⟩
noncomputable def szS (k:Int) (cg:Nat):Nat:=if k = 0 then 31968 + 2 * cg else 61
noncomputable def zbi:Sp:=fun vs H Q _=>∃ (k:Int) (A B C:List (List Nb)) (xs ys:List Nb) (n h s turns cg:Nat) (tI:Int) (pm ta tb tc a b:Addr) (ra rb rc:List Addr),vs = [.int k,.ref pm,.ref a,.ref b,.int tI]∧tI = (turns:Int)∧KindOk k∧MachAt H A B C pm ta tb tc ra rb rc∧RowAt H xs a∧RowAt H ys b∧Fit k n∧n≤5∧MOk k n h s 80 A B C∧La.OkR k xs∧La.OkR k ys∧xs.length = n∧ys.length = n∧La.rowB 100 xs∧La.rowB cg ys∧61≤cg∧cg≤80000∧1≤h∧h≤2∧turns≤7 ∧
 (∀ (U:List (List Nb)) (p tU:Addr) (rU:List Addr) (H':Hp),Same H H'→H' p = some (.tup [.str "inputs",.ref tU])→TabAt H' U tU rU→U.length = turns→(∀ u∈U,u.length = h∧La.OkR k u)→(∀ u∈U,∀ y∈u,szk k ((31969 + 2 * cg) * 8) y)→stR k A B xs U.reverse = ys→Q (.ref p) H') ∧
 (∀ (y:List Nb) (p py:Addr) (H':Hp),Same H H'→H' p = some (.tup [.str "never",.ref py])→RowAt H' y py→y.length = n→La.OkR k y→(∀ x∈y,szk k ((cg + 7123) * 16) x)→(∀ (F:Type) [Lean.Grind.Field F] (φ:La.Kf k F) (v:Nat→F),La.Rm φ (kr0 k A (transp h B) turns) v→La.dot n v (La.nv φ y) = 0)→(∀ (F:Type) [Lean.Grind.Field F] (φ:La.Kf k F),La.dot n (La.nv φ (subR k ys (powX k A xs turns))) (La.nv φ y) = φ.to (nnum k 1))→Q (.ref p) H')
theorem yn {H:Hp} (s:Str):Rp H (.str s) (.str s):=by simp only [Rp]
theorem zfU (D:Df K mg "steer" ["kind", "machine", "start", "goal", "turns"] JI) (JJ:Kn P w K mg base "solved" 47 ["kind", "table", "row"] YR) (ZG:Kn P w K mg base "moved_by" 46 ["kind", "machine", "turns"] Jm) (jY:Kn P w K mg base "left_to_go" 47 ["kind", "machine", "start", "goal", "turns"] zaN) (jd:Kn P w K mg base "nought_table" 3 ["kind", "rows", "columns"] zaU) (Xs:Kn P w K mg base "in_turn" 1 ["strung_out", "hands"] Xe) (m_min:mg "min" = none) (m_len:mg "len" = none):Kn P w K mg base "steer" 48 ["kind", "machine", "start", "goal", "turns"] zbi:=by
 refine D.kn sc_steer (fun vs H Q E h=>?_) (fun f cdv A' outer s' H vs Q E hr h=>?_)
 ·obtain ⟨k,A,B,C,xs,ys,n,h,s,turns,cg,tI,pm,ta,tb,tc,a,b,ra,rb,rc,rfl,_⟩:=h; rfl
 obtain ⟨k,A,B,C,xs,ys,n,h,s,turns,cg,tI,pm,ta,tb,tc,a,b,ra,rb,rc,rfl,rfl,hk,hM,hx,hy,hf,n5,oM,ox,oy,lx,ly,bx,by',c61,c8,h1,h2,t7,q1,q2⟩:=h
 have szl:sizeLine = 16777216:=by decide
 have n1:=hf.1
 have lA:=oM.a.len
 have lB:=oM.b.len
 have lb:=zj hM.b.2
 rw [lB] at lb
 have n3:k = 0→n≤3:=fun e=>by rcases fit3 hf with h | h; exact h; exact absurd e h
 refine ⟨_,(zc (zm (i:=5) sc_steer.nd rfl (.inl rfl) (zG zP rfl m_len yt (za (zE zp (zE zw (pv 1) zb (fun _ _=>rfl)) zb (fun _ _=>rfl)) zd))) (zc (zm (i:=6) sc_steer.nd rfl (.inl rfl) (zG (zek rfl) rfl m_min zhw (za (pv 4) (za (zG zP rfl m_len yt (za (pv 2) zd)) zd)))) (zc (zm (i:=7) sc_steer.nd rfl (.inl rfl) (zu JJ (hr.mono (by decide)) rfl (za (pv 0) (za (zu ZG (hr.mono (by decide)) rfl (za (pv 0) (za (pv 1) (za (pv 6) zd)))) (za (zu jY (hr.mono (by decide)) rfl (za (pv 0) (za (pv 1) (za (pv 2) (za (pv 3) (za (pv 4) zd)))))) zd))))) (zc (yi (zH (Xm hr) (zE zw (pv 7) zb (fun _ _=>rfl)) Zh (nomark _)) (zg (zk (pv 7))) zL) (zg (zk (yv (za Zh (za (zi Zq (zu jd (hr.mono (by decide)) rfl (za (pv 0) (za (zi xG (pv 4) (pv 6)) (za (pv 5) zd)))) (zu Xs (hr.mono (by decide)) rfl (za (zE zw (pv 7) zb (fun _ _=>rfl)) (za (pv 5) zd)))) zd))))))))),?_⟩
 obtain ⟨r0,rb',e0⟩ : ∃ r0 rb',rb = r0 :: rb':=by
  cases rb with
  | nil=>rw [List.length_nil] at lb; omega
  | cons a b=>exact ⟨a,b,rfl⟩
 obtain ⟨b0,hb0,hr0⟩:=zW hM.b.2 (i:=0) (b:=r0) (by rw [e0]; rfl)
 have lb0:=(oM.b.ok b0 (List.mem_of_getElem? hb0)).1
 obtain ⟨u0,hu0,pu0,lu0⟩:=hr0.len
 refine ⟨_,rfl,pm,_,_,.ref tb,rfl,rfl,SqT.of hM.tup,rfl,tb,_,_,.ref r0,rfl,rfl,SqL.of hM.b.1,(by rw [e0]; exact zK (j:=0) rfl),r0,_,rfl,.inl (SqL.of hu0),?_⟩
 rw [lu0,lb0]
 obtain ⟨ux,hux,pux,lux⟩:=hx.len
 refine ⟨_,rfl,_,rfl,a,_,rfl,.inl (SqL.of hux),_,_,rfl,?_⟩
 obtain ⟨used,eu,u1⟩ : ∃ used:Nat,(if ((ux.length:Nat):Int) < (turns:Int) then ((ux.length:Nat):Int) else (turns:Int)) = (used:Int)∧used = min turns n:=by
  refine ⟨min turns n,?_,rfl⟩
  split <;> omega
 rw [eu]
 have un:used≤n:=by omega
 have ut:used≤turns:=by omega
 refine ⟨_,rfl,_,rfl,_,rfl,_,rfl,k,A,B,C,n,h,s,used,_,pm,ta,tb,tc,ra,rb,rc,rfl,rfl,hk,hM,hf,oM,by omega,by omega,(fun i hi=>zgc hk hf oM (fun e=>by have:=n3 e; omega)),fun t2 r2 H2 g2 T2=>?_⟩
 refine ⟨_,rfl,_,rfl,_,rfl,_,rfl,_,rfl,k,A,B,C,xs,ys,n,h,s,turns,cg,_,pm,ta,tb,tc,a,b,ra,rb,rc,rfl,rfl,hk,hM.mono g2,hx.mono g2,hy.mono g2,hf,oM,ox,oy,lx,ly,bx,by',c61,by omega,t7,fun pd H3 g3 nd=>?_⟩
 obtain ⟨op,lp⟩:=xm hk oM.a.ok lA ox lx turns
 have oL:=zdy hk oy op
 have lL:=(sub_len hk (ly.trans lp.symm)).trans ly
 have bL:La.rowB (cg + 7000) (subR k ys (powX k A xs turns)):=(zfN oy op by' (qi hk hf oM.a ox lx bx turns)).mono (by omega)
 have sL:=xx hk oL bL (by omega)
 obtain ⟨om,lm⟩:=ZX hk oM used
 have uw:used * h≤5 * 2:=Nat.mul_le_mul (by omega) h2
 have sz61:61≤szS k cg:=by unfold szS; split <;> omega
 have bA:La.rowsB (szS k cg) (La.augR (mvT k n h A B used) (subR k ys (powX k A xs turns))):=by
  unfold szS
  split
  ·rename_i k0
   have n3':=n3 k0
   have rm:La.rowsB 17968 (mvT k n h A B used):=fun r hr=>by
    have hw:used * h≤3 * 2:=Nat.mul_le_mul (by omega) h2
    exact (xP (k:=k) (n:=1 + used * h) (m:=2246) (by decide) ⟨(om r hr).1,(om r hr).2,fun y hy=>zhS hk hf oM used (fun _=>by omega) r hr y hy⟩).mono (Nat.le_trans (Nat.mul_le_mul_right _ (show 1 + used * h + 1≤8 by omega)) (by decide))
   exact (Qv (by omega) rm oL sL).mono (by omega)
  ·rename_i k0
   exact Jb k0 (La.Jt om oL) (by decide)
 have hsz:(szS k cg + 1) * 2 ^ (1 + used * h + 1)≤60000000:=by
  unfold szS
  split
  ·rename_i k0
   have n3':=n3 k0
   have hw:used * h≤3 * 2:=Nat.mul_le_mul (by omega) h2
   exact Nat.le_trans (Nat.mul_le_mul (show 31968 + 2 * cg + 1≤191969 by omega) (Nat.pow_le_pow_right (n:=2) (by decide) (show 1 + used * h + 1≤8 by omega))) (by decide)
  ·exact Nat.le_trans (Nat.mul_le_mul_left _ (Nat.pow_le_pow_right (n:=2) (by decide) (show 1 + used * h + 1≤12 by omega))) (by decide)
 have oT:=XZ oM.b
 have bB:La.rowsB (cg + 7122) (La.augR (transp (1 + used * h) (mvT k n h A B used) ++ [subR k ys (powX k A xs turns)]) (List.replicate (1 + used * h) (nnum k 0) ++ [nnum k 1])):=by
  have rT:La.rowsB (cg + 7000) (transp (1 + used * h) (mvT k n h A B used) ++ [subR k ys (powX k A xs turns)]):=fun r hr=>by
   rcases List.mem_append.mp hr with h' | h'
   ·rcases (zfB hk oM used r).mp h' with e | ⟨c,hc,i,hi,e⟩
    ·rw [e]
     refine (xP (k:=k) (n:=n) (m:=61) (by decide) ⟨by unfold zerN; exact List.length_replicate,fun y hy=>by rw [List.eq_of_mem_replicate hy]; exact La.zI hk 0,fun y hy=>by rw [List.eq_of_mem_replicate hy]; exact jx hk (jA 61) (by decide)⟩).mono ?_
     exact Nat.le_trans (Nat.mul_le_mul_right _ (show n + 1≤6 by omega)) (by omega)
    ·rw [e]
     have r0':=XT (m:=80) (by decide) (oT.ok c hc).1 hf (oT.ok c hc).2 (fun y hy _=>oT.sz c hc y hy)
     exact (qi hk hf oM.a (oT.ok c hc).2 (oT.ok c hc).1 r0' i).mono (by omega)
   ·rw [List.mem_singleton.mp h']; exact bL
  refine (Qv (k:=k) (m:=61) (by decide) rT (fun x hx=>?_) (fun x hx=>?_)).mono (by omega)
  ·rcases List.mem_append.mp hx with h' | h'
   ·rw [List.eq_of_mem_replicate h']; exact La.zI hk 0
   ·rw [List.mem_singleton.mp h']; exact La.zI hk 1
  ·rcases List.mem_append.mp hx with h' | h'
   ·rw [List.eq_of_mem_replicate h']; exact jx hk (jA 61) (by decide)
   ·rw [List.mem_singleton.mp h']; exact jx hk (sm_one.mono (by decide)) (by decide)
 have p26:(2:Nat) ^ (n + 1)≤2 ^ 6:=Nat.pow_le_pow_right (by decide) (by omega)
 have hs2:(cg + 7122 + 1) * 2 ^ ((mvT k n h A B used).length + 1)≤60000000:=by
  rw [lm]
  exact Nat.le_trans (Nat.mul_le_mul (show cg + 7122 + 1≤87123 by omega) p26) (by decide)
 have g13:=g2.trans g3
 refine ⟨k,mvT k n h A B used,_,1 + used * h,szS k cg,cg + 7122,t2,pd,r2,rfl,hk,T2.mono g3,nd.row,om,oL,(by rw [lm,lL]),by omega,by omega,by omega,by omega,bA,sz61,hsz,bB,by omega,hs2,fun pz x px H4 g4 hz nx lx' ox' sx sol=>?_,fun pz y py H4 g4 hz ny ly' oy' sy sol=>?_⟩
 ·
  refine ⟨_,rfl,pz,_,_,.str "found",rfl,rfl,SqT.of hz,rfl,.str "found",.str "never",yn _,yn _,(by decide +kernel),(by decide +kernel),Nat.le_trans (Nat.min_le_left _ _) (by decide),_,rfl,?_⟩
  rw [show PyData.eqv (.str "found") (.str "never") = false by decide]
  refine iteF ?_
  have et:(turns:Int) - (used:Int) = ((turns - used:Nat):Int):=by omega
  refine ⟨_,rfl,_,rfl,_,rfl,_,_,rfl,rfl,_,rfl,?_⟩
  try dsimp only
  rw [et]
  refine ⟨k,turns - used,h,rfl,by omega,by omega,fun t5 r5 H5 g5 N5=>?_⟩
  refine ⟨_,rfl,pz,_,_,.ref px,rfl,rfl,SqT.of (g5 _ _ hz),rfl,_,rfl,x,h,used,px,rfl,nx.row.mono g5,lx',h1,by omega,by omega,fun t6 r6 H6 g6 T6=>?_⟩
  have T5:=N5.tab.mono g6
  have l5:=zj T5.2
  have l6:=zj T6.2
  have ln:(nulT k (turns - used) h).length = turns - used:=by unfold nulT; exact List.length_replicate
  have lc:(cutB h used (x.drop 1)).reverse.length = used:=by rw [List.length_reverse,jJ]
  refine ⟨t5,t6,_,_,rfl,rfl,T5.1,T6.1,(by rw [List.length_map,List.length_map]; omega),fun p7 hp7=>?_⟩
  have g7:=ze hp7 (.lst (r5.map V.ref ++ r6.map V.ref))
  have T7:TabAt (upd H6 p7 (.lst (r5.map V.ref ++ r6.map V.ref))) (nulT k (turns - used) h ++ (cutB h used (x.drop 1)).reverse) p7 (r5 ++ r6):=⟨by rw [zf,List.map_append],xI (fun _ _ r=>r.mono g7) (qI T5.2 T6.2)⟩
  generalize upd H6 p7 (.lst (r5.map V.ref ++ r6.map V.ref)) = H7 at *
  refine ⟨(by show 2≤sizeLine; decide),fun p8 hp8=>?_⟩
  have g8:=ze hp8 (.tup [.str "inputs",.ref p7])
  have ld:(x.drop 1).length = used * h:=by rw [List.length_drop]; omega
  have od:La.OkR k (x.drop 1):=fun y hy=>ox' y (List.mem_of_mem_drop hy)
  have rows:=Jn ld od
  have z0:∀ u∈nulT k (turns - used) h,u.length = h∧La.OkR k u:=fun u hu=>by
   unfold nulT at hu
   rw [List.eq_of_mem_replicate hu]
   exact ⟨List.length_replicate,fun y hy=>by rw [List.eq_of_mem_replicate hy]; exact La.zI hk 0⟩
  refine q1 _ p8 p7 _ _ (((((g13.trans g4).trans g5).trans g6).trans g7).trans g8) zf (T7.mono g8) (by rw [List.length_append,ln,lc]; omega) (fun u hu=>?_) (fun u hu y hy k0=>?_) ?_
  ·rcases List.mem_append.mp hu with h' | h'
   ·exact z0 u h'
   ·exact rows u (List.mem_reverse.mp h')
  ·rcases List.mem_append.mp hu with h' | h'
   ·unfold nulT at h'
    rw [List.eq_of_mem_replicate h'] at hy
    rw [List.eq_of_mem_replicate hy]
    exact (jx hk (jA 61) (by decide)).mono (by omega)
   ·have n3':=n3 k0
    have e:=zgX (h:=h) (t:=used) (y:=x.drop 1) (fun z hz=>sx z (List.mem_of_mem_drop hz)) u (List.mem_reverse.mp h') y hy
    refine e.mono ?_
    unfold szS
    rw [if_pos k0]
    exact Nat.mul_le_mul (by omega) (Nat.pow_le_pow_right (n:=2) (by decide) (show min (1 + used * h + 1) (mvT k n h A B used).length≤3 by omega))
  ·obtain ⟨F,_,_,⟨φ⟩⟩:=La.yl hk
   have eU:(nulT k (turns - used) h ++ (cutB h used (x.drop 1)).reverse).reverse = cutB h used (x.drop 1) ++ List.replicate (turns - used) (zerN k h):=by
    rw [List.reverse_append,List.reverse_reverse]
    unfold nulT zerN
    rw [List.reverse_replicate]
   rw [eU]
   have hV:∀ u∈cutB h used (x.drop 1) ++ List.replicate (turns - used) (zerN k h),u.length = h∧La.OkR k u:=fun u hu=>by
    rcases List.mem_append.mp hu with h' | h'
    ·exact rows u h'
    ·exact z0 u h'
   obtain ⟨os,ls⟩:=XB hk oM ox lx _ hV
   refine La.zbT φ os oy (ls.trans ly.symm) fun j=>?_
   rw [zby hk oM φ ox lx _ hV j,zbv hk oM φ _ _ j,List.length_append,jJ,List.length_replicate,show used + (turns - used) = turns by omega]
   obtain ⟨z,hzx⟩ : ∃ z,x = z :: x.drop 1:=by
    cases x with
    | nil=>simp at lx'; omega
    | cons z x=>exact ⟨z,rfl⟩
   have oz:z.ok k:=ox' z (by rw [hzx]; exact List.mem_cons_self)
   have im:=zed hk om oL ox' (by rw [lm,lL]) lx' sol
   have mi:=zgj hk oM φ oz (cutB h used (x.drop 1)) rows j
   rw [qV used _ ld,← hzx,jJ,im,zd8 hk φ oy op (ly.trans lp.symm)] at mi
   rw [← mi]
   grind
 ·
  refine ⟨_,rfl,pz,_,_,.str "never",rfl,rfl,SqT.of hz,rfl,.str "never",.str "never",yn _,yn _,(by decide +kernel),(by decide +kernel),Nat.le_trans (Nat.min_le_left _ _) (by decide),_,rfl,?_⟩
  rw [show PyData.eqv (.str "never") (.str "never") = true by decide]
  refine iteT ?_
  rw [lm] at ly' sol
  have lt:(transp (1 + used * h) (mvT k n h A B used)).length = 1 + used * h:=zq ..
  have col:∀ (F:Type) [Lean.Grind.Field F] (φ:La.Kf k F) (c:List Nb),c∈transp (1 + used * h) (mvT k n h A B used)→La.dot n (La.nv φ c) (La.nv φ y) = 0:=fun F _ φ c hc=>by
   obtain ⟨i,hi,e⟩:=List.getElem_of_mem hc
   rw [sol F φ i c (nnum k 0) (by rw [List.getElem?_append_left hi,List.getElem?_eq_getElem hi,e]) (by rw [List.getElem?_append_left (by rw [List.length_replicate]; omega),List.getElem?_replicate,if_pos (by omega)])]
   exact φ.num0
  refine ⟨_,rfl,q2 y pz py H4 (g13.trans g4) hz ny.row ly' oy' (fun x hx k0=>(sy x hx).mono ?_) (fun F _ φ v hv=>?_) (fun F _ φ=>?_)⟩
  ·have n3':=n3 k0
   exact Nat.mul_le_mul_left _ (Nat.pow_le_pow_right (n:=2) (by decide) (show (mvT k n h A B used).length + 1≤4 by omega))
  ·have key:∀ v,La.Rm φ (kr0 k A (transp h B) used) v→La.dot n v (La.nv φ y) = 0:=fun v hv=>by
    refine hv.all (P:=fun v=>La.dot n v (La.nv φ y) = 0) (La.dot_zero n _ _ fun j _=>by grind) fun c r u ⟨q,hq,er⟩ ih=>?_
    have hq':q∈transp (1 + used * h) (mvT k n h A B used):=by
     refine (zfB hk oM used q).mpr (.inr ?_)
     cases used with
     | zero=>exact nomatch hq
     | succ t =>
      obtain ⟨b,hb,i,hi,e⟩:=zaK t q hq
      exact ⟨b,hb,i,by omega,e⟩
    rw [La.XA,La.qq,ih,er,col F φ q hq']
    grind
   rcases Nat.le_total turns n with h' | h'
   ·rw [show turns = used by omega] at hv; exact key v hv
   ·have e:used = n:=by omega
    refine key v ?_
    rw [e]
    obtain ⟨t',rfl⟩ : ∃ t',turns = t' + 1:=⟨turns - 1,by omega⟩
    obtain ⟨n',hn'⟩ : ∃ n',n = n' + 1:=⟨n - 1,by omega⟩
    have st:∀ v,La.Rm φ (La.kry k A (transp h B) (n' + 1)) v→La.Rm φ (La.kry k A (transp h B) n') v:=fun v hv=>by
     have:=La.zfm hk oM.a.ok lA oT.ok n1 v (by rw [hn'] at *; exact hv)
     rw [show n - 1 = n' by omega] at this
     exact this
    have e2:kr0 k A (transp h B) n = La.kry k A (transp h B) n':=congrArg (kr0 k A (transp h B)) hn'
    rw [e2]
    exact (La.zfw hk oM.a.ok lA oT.ok st (m:=t') (by omega) v).mp hv
  ·exact sol F φ (1 + used * h) _ (nnum k 1) (by rw [List.getElem?_append_right (by omega),lt,Nat.sub_self]; rfl) (by rw [List.getElem?_append_right (by rw [List.length_replicate]; omega),List.length_replicate,Nat.sub_self]; rfl)
theorem zfr {k:Int} (hk:KindOk k) {n w:Nat} {M:List (List Nb)} (oM:La.OkM k w M) (lM:M.length = n):transp n (prodM k n M (transp w M)) = prodM k n M (transp w M):=by
 have e0:transp n (transp w M) = M:=by rw [← lM]; exact xw oM
 unfold prodM
 rw [e0]
 refine List.ext_getElem? fun j=>?_
 rcases Nat.lt_or_ge j n with hj | hj
 ·have hj':j < M.length:=by omega
  rw [yd hj,List.getElem?_map,List.getElem?_eq_getElem hj',List.map_map]
  refine congrArg some (List.map_congr_left fun r hr=>?_)
  show (M.map fun c=>La.ndot k r c).getD j (.z 0) = La.ndot k M[j] r
  rw [List.getD_eq_getElem?_getD,List.getElem?_map,List.getElem?_eq_getElem hj']
  exact zcc hk (oM r hr).2 (oM _ (List.getElem_mem hj')).2 ((oM r hr).1.trans (oM _ (List.getElem_mem hj')).1.symm)
 ·rw [List.getElem?_eq_none (by rw [zq]; exact hj),List.getElem?_eq_none (by rw [List.length_map]; omega)]
theorem zaO {k:Int} (hk:KindOk k) {n h s m t:Nat} {A B C:List (List Nb)} (oM:MOk k n h s m A B C) {xs ys x:List Nb} (ox:La.OkR k xs) (lx:xs.length = n) (oy:La.OkR k ys) (ly:ys.length = n) (ox':La.OkR k x) (lx':x.length = 1 + t * h) (im:imgM k (mvT k n h A B t) x = subR k ys (powX k A xs t)):stR k A B xs (cutB h t (x.drop 1)) = ys:=by
 obtain ⟨F,_,_,⟨φ⟩⟩:=La.yl hk
 have ld:(x.drop 1).length = t * h:=by rw [List.length_drop]; omega
 have od:La.OkR k (x.drop 1):=fun y hy=>ox' y (List.mem_of_mem_drop hy)
 have rows:=Jn ld od
 obtain ⟨op,lp⟩:=xm hk oM.a.ok oM.a.len ox lx t
 obtain ⟨os,ls⟩:=XB hk oM ox lx _ rows
 refine La.zbT φ os oy (ls.trans ly.symm) fun j=>?_
 rw [zby hk oM φ ox lx _ rows j,jJ]
 obtain ⟨z,hzx⟩ : ∃ z,x = z :: x.drop 1:=by
  cases x with
  | nil=>simp at lx'; omega
  | cons z x=>exact ⟨z,rfl⟩
 have oz:z.ok k:=ox' z (by rw [hzx]; exact List.mem_cons_self)
 have mi:=zgj hk oM φ oz (cutB h t (x.drop 1)) rows j
 rw [qV t _ ld,← hzx,jJ,im,zd8 hk φ oy op (ly.trans lp.symm)] at mi
 rw [← mi]
 grind
theorem zdr {n w:Nat} {M:List (List Nb)} (oM:La.OkM 0 w M) (lM:M.length = n) {y:List Nb} (oy:La.OkR 0 y) (ly:y.length = n) (h:∀ c∈prodM 0 n M (transp w M),La.dot n (La.nv La.kfRat c) (La.nv La.kfRat y) = 0):∀ c∈transp w M,La.dot n (La.nv La.kfRat c) (La.nv La.kfRat y) = 0:=by
 have hk:KindOk 0:=.inl rfl
 have oT:La.OkM 0 n (transp w M):=by have:=yF oM; rw [lM] at this; exact this
 have lT:(transp w M).length = w:=zq ..
 have oU:=yB hk oT oy
 have lU:(imgM 0 (transp w M) y).length = w:=oU.1.trans lT
 have ip:imgM 0 (prodM 0 n M (transp w M)) y = imgM 0 M (imgM 0 (transp w M) y):=(La.zaY hk oM oT lT oy ly).symm
 have lim:∀ i,i < n→La.limg La.kfRat w M (La.nv La.kfRat (imgM 0 (transp w M) y)) i = 0:=fun i hi=>by
  have hi':i < M.length:=by omega
  have oP:La.OkM 0 n (prodM 0 n M (transp w M)):=fun r hr=>by
   unfold prodM at hr
   obtain ⟨a,ha,rfl⟩:=List.mem_map.mp hr
   refine ⟨by rw [List.length_map,zq],fun z hz=>?_⟩
   obtain ⟨c,hc,rfl⟩:=List.mem_map.mp hz
   have oc:=yF oT c hc
   exact La.yq hk (oM a ha).2 oc.2
  rw [← yW hk oM oU.2 lU i,← ip,yW hk oP oy ly i]
  show La.dot n (La.nv La.kfRat ((prodM 0 n M (transp w M)).getD i [])) (La.nv La.kfRat y) = 0
  have hp:i < (prodM 0 n M (transp w M)).length:=by unfold prodM; rw [List.length_map]; exact hi'
  rw [List.getD_eq_getElem?_getD,List.getElem?_eq_getElem hp]
  exact h _ (List.getElem_mem hp)
 have sq:La.dot w (La.nv La.kfRat (imgM 0 (transp w M) y)) (La.nv La.kfRat (imgM 0 (transp w M) y)) = 0:=by
  have e1:La.dot n (La.nv La.kfRat y) (fun i=>La.dot w (La.nv La.kfRat (M.getD i [])) (La.nv La.kfRat (imgM 0 (transp w M) y))) = 0:=La.dot_zero n _ _ fun j hj=>by
   have:=lim j hj
   rw [show La.limg La.kfRat w M (La.nv La.kfRat (imgM 0 (transp w M) y)) j = La.dot w (La.nv La.kfRat (M.getD j [])) (La.nv La.kfRat (imgM 0 (transp w M) y)) from rfl] at this
   show La.nv La.kfRat y j * La.dot w (La.nv La.kfRat (M.getD j [])) (La.nv La.kfRat (imgM 0 (transp w M) y)) = 0
   rw [this]; grind
  rw [La.Qj] at e1
  rw [← e1]
  refine La.yQ fun j hj=>?_
  have:La.nv La.kfRat (imgM 0 (transp w M) y) j = La.dot n (La.nv La.kfRat y) (fun i=>La.nv La.kfRat (M.getD i []) j):=by
   rw [yW hk oT oy ly j,La.jF]
   show La.dot n (La.nv La.kfRat ((transp w M).getD j [])) (La.nv La.kfRat y) = _
   refine La.yQ fun i hi=>?_
   have hi':i < M.length:=by omega
   rw [List.getD_eq_getElem?_getD,yd hj,List.getD_eq_getElem?_getD,List.getElem?_eq_getElem hi']
   show La.nv La.kfRat (M.map fun r=>r.getD j (.z 0)) i * _ = _
   rw [La.zfp La.kfRat oM hj (List.getElem?_eq_getElem hi')]; rfl
  rw [this]
 intro c hc
 obtain ⟨j,hj,e⟩:=List.getElem_of_mem hc
 have hjw:j < w:=by omega
 have:=zgw w _ sq j hjw
 rw [yW hk oT oy ly j] at this
 rw [← this]
 show _ = La.dot n (La.nv La.kfRat ((transp w M).getD j [])) (La.nv La.kfRat y)
 rw [List.getD_eq_getElem?_getD,List.getElem?_eq_getElem hj,← e]; rfl
noncomputable def zbE:Sp:=fun vs H Q _=>∃ (A B C:List (List Nb)) (xs ys:List Nb) (n h s turns:Nat) (tI:Int) (pm ta tb tc a b:Addr) (ra rb rc:List Addr),vs = [.ref pm,.ref a,.ref b,.int tI]∧tI = (turns:Int)∧MachAt H A B C pm ta tb tc ra rb rc∧RowAt H xs a∧RowAt H ys b∧1≤n∧n≤3∧MOk 0 n h s 80 A B C∧TW 0 n n 14 A∧TW 0 n h 14 B∧La.OkR 0 xs∧La.OkR 0 ys∧xs.length = n∧ys.length = n∧(∀ y∈xs,whk 0 2 y)∧(∀ y∈ys,whk 0 100 y)∧1≤h∧h≤2∧turns≤4 ∧
 (∀ (x:List Nb) (p tU:Addr) (vc:V) (rU:List Addr) (H':Hp),Same H H'→H' p = some (.tup [.str "inputs",.ref tU,vc])→x.length = n→La.OkR 0 x→(∀ y∈x,nsm 1288 y)→imgM 0 (mvT 0 n h A B turns) (imgM 0 (transp (1 + turns * h) (mvT 0 n h A B turns)) x) = subR 0 ys (powX 0 A xs turns)→TabAt H' (cutB h turns ((imgM 0 (transp (1 + turns * h) (mvT 0 n h A B turns)) x).drop 1)).reverse tU rU→RN H' (La.ndot 0 (imgM 0 (transp (1 + turns * h) (mvT 0 n h A B turns)) x) (imgM 0 (transp (1 + turns * h) (mvT 0 n h A B turns)) x)) vc→Q (.ref p) H') ∧
 (∀ (y:List Nb) (p py:Addr) (H':Hp),Same H H'→H' p = some (.tup [.str "never",.ref py])→RowAt H' y py→y.length = n→La.OkR 0 y→(∀ v,La.Rm La.kfRat (kr0 0 A (transp h B) turns) v→La.dot n v (La.nv La.kfRat y) = 0)→La.dot n (La.nv La.kfRat (subR 0 ys (powX 0 A xs turns))) (La.nv La.kfRat y) = 1→Q (.ref p) H')
theorem zfH (D:Df K mg "cheapest" ["machine", "start", "goal", "turns"] qB) (ZG:Kn P w K mg base "moved_by" 46 ["kind", "machine", "turns"] Jm) (xR:Kn P w K mg base "turned" 1 ["table"] xJ) (YI:Kn P w K mg base "product" 45 ["kind", "one", "other"] ZL) (jY:Kn P w K mg base "left_to_go" 47 ["kind", "machine", "start", "goal", "turns"] zaN) (JJ:Kn P w K mg base "solved" 47 ["kind", "table", "row"] YR) (Jo:Kn P w K mg base "image" 45 ["kind", "table", "row"] JP) (Xs:Kn P w K mg base "in_turn" 1 ["strung_out", "hands"] Xe) (m_len:mg "len" = none):Kn P w K mg base "cheapest" 48 ["machine", "start", "goal", "turns"] zbE:=by
 refine D.kn sc_cheapest (fun vs H Q E h=>?_) (fun f cdv A' outer s' H vs Q E hr h=>?_)
 ·obtain ⟨A,B,C,xs,ys,n,h,s,turns,tI,pm,ta,tb,tc,a,b,ra,rb,rc,rfl,_⟩:=h; rfl
 obtain ⟨A,B,C,xs,ys,n,h,s,turns,tI,pm,ta,tb,tc,a,b,ra,rb,rc,rfl,rfl,hM,hx,hy,n1,n3,oM,wA,wB,ox,oy,lx,ly,wx,wy,h1,h2,t4,q1,q2⟩:=h
 have hk:KindOk 0:=.inl rfl
 have hf:Fit 0 n:=⟨n1,.inl n3⟩
 have szl:sizeLine = 16777216:=by decide
 have lA:=oM.a.len
 have lB:=oM.b.len
 have lb:=zj hM.b.2
 rw [lB] at lb
 have n4:(0:Int) = 0→n≤4:=fun _=>by omega
 have tw:turns * h≤4 * 2:=Nat.mul_le_mul t4 h2
 have bx:La.rowB 100 xs:=(YM (m:=2) (by decide) ox wx).mono (by decide)
 have by':La.rowB 100 ys:=YM (by decide) oy wy
 have wM:=zcZ hk oM n4 wA wB (by decide) turns
 have wM':∀ r∈mvT 0 n h A B turns,∀ x∈r,whk 0 78 x:=fun r hr x hx=>(wM r hr x hx).mono (by omega)
 obtain ⟨om,lm⟩:=ZX hk oM turns
 refine ⟨_,(zc (zm (i:=4) sc_cheapest.nd rfl (.inl rfl) (zu ZG (hr.mono (by decide)) rfl (za zb (za (pv 0) (za (pv 3) zd))))) (zc (zm (i:=5) sc_cheapest.nd rfl (.inl rfl) (zu JJ (hr.mono (by decide)) rfl (za zb (za (zu YI (hr.mono (by decide)) rfl (za zb (za (pv 4) (za (zu xR (hr.mono (by decide)) rfl (za (pv 4) zd)) zd)))) (za (zu jY (hr.mono (by decide)) rfl (za zb (za (pv 0) (za (pv 1) (za (pv 2) (za (pv 3) zd)))))) zd))))) (zc (yi (zH (Xm hr) (zE zw (pv 5) zb (fun _ _=>rfl)) Zh (nomark _)) (zg (zk (pv 5))) zL) (zc (zm (i:=6) sc_cheapest.nd rfl (.inl rfl) (zu Jo (hr.mono (by decide)) rfl (za zb (za (zu xR (hr.mono (by decide)) rfl (za (pv 4) zd)) (za (zE zw (pv 5) zb (fun _ _=>rfl)) zd))))) (zg (zk (yv (za Zh (za (zu Xs (hr.mono (by decide)) rfl (za (pv 6) (za (zG zP rfl m_len yt (za (zE zp (zE zw (pv 0) zb (fun _ _=>rfl)) zb (fun _ _=>rfl)) zd)) zd))) (za (zE zp (zu Jo (hr.mono (by decide)) rfl (za zb (za (yC (za (pv 6) zd)) (za (pv 6) zd)))) zb (fun _ _=>rfl)) zd)))))))))),?_⟩
 refine ⟨_,rfl,_,rfl,0,A,B,C,n,h,s,turns,_,pm,ta,tb,tc,ra,rb,rc,rfl,rfl,hk,hM,hf,oM,by omega,by omega,(fun i hi r hr x hx=>(zcW hk oM n4 wA wB i r hr x hx).nsm hk (((qd hk oM i).1 r hr).2 x hx) (by omega) (by decide)),fun t2 r2 H2 g2 T2=>?_⟩
 have nM:mvT 0 n h A B turns≠[]:=fun e=>by rw [e] at lm; simp at lm; omega
 refine ⟨_,rfl,_,rfl,mvT 0 n h A B turns,1 + turns * h,t2,r2,rfl,T2,nM,(fun r hr=>(om r hr).1),by omega,by omega,fun t3 r3 H3 g3 N3=>?_⟩
 have oT:La.OkM 0 n (transp (1 + turns * h) (mvT 0 n h A B turns)):=by have:=yF om; rw [lm] at this; exact this
 have lT:(transp (1 + turns * h) (mvT 0 n h A B turns)).length = 1 + turns * h:=zq ..
 have wT:=xC om wM'
 have sM:szM 2246 (mvT 0 n h A B turns):=fun r hr x hx=>(wM' r hr x hx).nsm hk ((om r hr).2 x hx) (by decide) (by decide)
 have sT:szM 2246 (transp (1 + turns * h) (mvT 0 n h A B turns)):=fun r hr x hx=>(wT r hr x hx).nsm hk ((oT r hr).2 x hx) (by decide) (by decide)
 refine ⟨0,mvT 0 n h A B turns,transp (1 + turns * h) (mvT 0 n h A B turns),1 + turns * h,n,2246,t2,t3,r2,r3,rfl,hk,T2.mono g3,N3.tab,om,oT,lT,by omega,sM,sT,by decide,(by omega),by omega,by omega,fun t4' r4 H4 g4 N4=>?_⟩
 have g24:=(g2.trans g3).trans g4
 refine ⟨_,rfl,_,rfl,_,rfl,_,rfl,0,A,B,C,xs,ys,n,h,s,turns,100,_,pm,ta,tb,tc,a,b,ra,rb,rc,rfl,rfl,hk,hM.mono g24,hx.mono g24,hy.mono g24,hf,oM,ox,oy,lx,ly,bx,by',by decide,by decide,by omega,fun pd H5 g5 nd=>?_⟩
 obtain ⟨op,lp⟩:=xm hk oM.a.ok lA ox lx turns
 have oL:=zdy hk oy op
 have lL:=(sub_len hk (ly.trans lp.symm)).trans ly
 have wL:∀ u∈subR 0 ys (powX 0 A xs turns),whk 0 160 u:=fun u hu=>(zhn oy op wy (YD hk n4 wA ox lx wx turns) u hu).mono (by omega)
 have e0:transp n (transp (1 + turns * h) (mvT 0 n h A B turns)) = mvT 0 n h A B turns:=by have:=xw om; rw [lm] at this; exact this
 have oP:La.OkM 0 n (prodM 0 n (mvT 0 n h A B turns) (transp (1 + turns * h) (mvT 0 n h A B turns))):=fun r hr=>by
  unfold prodM at hr
  rw [e0] at hr
  obtain ⟨p,hp,rfl⟩:=List.mem_map.mp hr
  refine ⟨by rw [List.length_map,lm],fun z hz=>?_⟩
  obtain ⟨c,hc,rfl⟩:=List.mem_map.mp hz
  exact La.yq hk (om p hp).2 (om c hc).2
 have wP:∀ r∈prodM 0 n (mvT 0 n h A B turns) (transp (1 + turns * h) (mvT 0 n h A B turns)),∀ z∈r,whk 0 160 z:=fun r hr z hz=>by
  unfold prodM at hr
  rw [e0] at hr
  obtain ⟨p,hp,rfl⟩:=List.mem_map.mp hr
  obtain ⟨c,hc,rfl⟩:=List.mem_map.mp hz
  exact zbU (a:=78) (b:=78) (c:=4) hk (om p hp).2 (om c hc).2 (om p hp).1 (by omega) (wM' p hp) (wM' c hc)
 have lP:(prodM 0 n (mvT 0 n h A B turns) (transp (1 + turns * h) (mvT 0 n h A B turns))).length = n:=by unfold prodM; rw [List.length_map,lm]
 have sym:=zfr hk om lm
 have augW:∀ (M:List (List Nb)) (b:List Nb),La.OkM 0 n M→La.OkR 0 b→(∀ r∈M,∀ z∈r,whk 0 160 z)→(∀ z∈b,whk 0 160 z)→La.rowsB 160 (La.augR M b):=fun M b oM' ob wM'' wb r hr=>by
  have or:=La.Jt oM' ob r hr
  refine YM (by decide) or.2 fun z hz=>?_
  unfold La.augR at hr
  obtain ⟨i,hi,e⟩:=List.getElem_of_mem hr
  rw [List.getElem_zipWith] at e
  rw [← e] at hz
  rcases List.mem_append.mp hz with h' | h'
  ·exact wM'' _ (List.getElem_mem _) z h'
  ·rw [List.mem_singleton.mp h']; exact wb _ (List.getElem_mem _)
 have z01:∀ z∈List.replicate n (nnum 0 0) ++ [nnum 0 1],whk 0 160 z:=fun z hz=>by
  rcases List.mem_append.mp hz with h' | h'
  ·rw [List.eq_of_mem_replicate h']; exact fun _=>⟨0,rfl,Nat.two_pow_pos _⟩
  ·rw [List.mem_singleton.mp h']; exact fun _=>⟨1,rfl,Nat.one_lt_two_pow (by decide)⟩
 have o01:La.OkR 0 (List.replicate n (nnum 0 0) ++ [nnum 0 1]):=fun z hz=>by
  rcases List.mem_append.mp hz with h' | h'
  ·rw [List.eq_of_mem_replicate h']; exact La.zI hk 0
  ·rw [List.mem_singleton.mp h']; exact La.zI hk 1
 have p24:(2:Nat) ^ (n + 1)≤2 ^ 4:=Nat.pow_le_pow_right (by decide) (by omega)
 have hs1:(160 + 1) * 2 ^ (n + 1)≤60000000:=Nat.le_trans (Nat.mul_le_mul_left _ p24) (by decide)
 refine ⟨0,_,_,n,160,160,t4',pd,r4,rfl,hk,N4.tab.mono g5,nd.row,oP,oL,(by rw [lP,lL]),by omega,by omega,by omega,by omega,augW _ _ oP oL wP wL,by decide,hs1,augW _ _ (fun r hr=>?_) o01 (fun r hr z hz=>?_) z01,by decide,(by rw [lP]; exact hs1),fun pz x px H6 g6 hz nx lx' ox' sx sol=>?_,fun pz y py H6 g6 hz ny ly' oy' sy sol=>?_⟩
 ·rw [sym] at hr
  rcases List.mem_append.mp hr with h' | h'
  ·exact oP r h'
  ·rw [List.mem_singleton.mp h']; exact ⟨lL,oL⟩
 ·rw [sym] at hr
  rcases List.mem_append.mp hr with h' | h'
  ·exact wP r h' z hz
  ·rw [List.mem_singleton.mp h'] at hz; exact wL z hz
 ·refine ⟨_,rfl,pz,_,_,.str "found",rfl,rfl,SqT.of hz,rfl,.str "found",.str "never",yn _,yn _,(by decide +kernel),(by decide +kernel),Nat.le_trans (Nat.min_le_left _ _) (by decide),_,rfl,?_⟩
  rw [show PyData.eqv (.str "found") (.str "never") = false by decide]
  refine iteF ?_
  have g26:=(g24.trans g5).trans g6
  have sx':∀ y∈x,nsm 1288 y:=fun y hy=>(sx y hy).mono (Nat.le_trans (Nat.mul_le_mul_left _ (Nat.pow_le_pow_right (n:=2) (by decide) (show min (n + 1) _≤3 by rw [lP]; omega))) (by decide))
  have T6:=(((T2.mono g3).mono g4).mono g5).mono g6
  refine ⟨_,rfl,mvT 0 n h A B turns,1 + turns * h,t2,r2,rfl,T6,nM,(fun r hr=>(om r hr).1),by omega,by omega,fun t7 r7 H7 g7 N7=>?_⟩
  refine ⟨_,rfl,pz,_,_,.ref px,rfl,rfl,SqT.of (g7 _ _ hz),rfl,0,transp (1 + turns * h) (mvT 0 n h A B turns),x,n,2246,t7,px,r7,rfl,hk,N7.tab,nx.row.mono g7,oT,lx',ox',sT,(fun y hy=>(sx' y hy).mono (by decide)),by decide,(by omega),by omega,fun p8 H8 g8 n8=>?_⟩
  have oI:=yB hk oT ox'
  have lI:(imgM 0 (transp (1 + turns * h) (mvT 0 n h A B turns)) x).length = 1 + turns * h:=oI.1.trans lT
  have bI:La.rowB 5240 (imgM 0 (transp (1 + turns * h) (mvT 0 n h A B turns)) x):=by
   have rx:=xP (k:=0) (m:=1288) (by decide) ⟨lx',ox',sx'⟩
   have p78:1 < 2 ^ 78:=Nat.one_lt_two_pow (by decide)
   exact (Qe (T:=78) (D:=1) hk (by omega) oT (by decide) p78 (fun r hr y hy=>qb rfl (wT r hr y hy)) ox' (rx.mono (Nat.mul_le_mul_right _ (show n + 1≤4 by omega)))).mono (by decide)
  have im:=zed hk oP oL ox' (by rw [lP,lL]) lx' sol
  have ip:imgM 0 (mvT 0 n h A B turns) (imgM 0 (transp (1 + turns * h) (mvT 0 n h A B turns)) x) = subR 0 ys (powX 0 A xs turns):=by rw [← im]; exact La.zaY hk om oT lT ox' lx'
  obtain ⟨r0,rb',e0'⟩ : ∃ r0 rb',rb = r0 :: rb':=by
   cases rb with
   | nil=>rw [List.length_nil] at lb; omega
   | cons a b=>exact ⟨a,b,rfl⟩
  have hM8:=((hM.mono g26).mono g7).mono g8
  obtain ⟨b0,hb0,hr0⟩:=zW hM8.b.2 (i:=0) (b:=r0) (by rw [e0']; rfl)
  have lb0:=(oM.b.ok b0 (List.mem_of_getElem? hb0)).1
  obtain ⟨u0,hu0,pu0,lu0⟩:=hr0.len
  refine ⟨_,rfl,_,rfl,pm,_,_,.ref tb,rfl,rfl,SqT.of hM8.tup,rfl,tb,_,_,.ref r0,rfl,rfl,SqL.of hM8.b.1,(by rw [e0']; exact zK (j:=0) rfl),r0,_,rfl,.inl (SqL.of hu0),?_⟩
  rw [lu0,lb0]
  refine ⟨_,h,turns,p8,rfl,n8.row,lI,h1,by omega,by omega,fun t9 r9 H9 g9 T9=>?_⟩
  refine ⟨_,rfl,(by show 1≤sizeLine; decide),fun pl hpl=>?_⟩
  have gl:=ze hpl (.lst [.ref p8])
  have hp9:=n8.row.mono g9
  have TL:TabAt (upd H9 pl (.lst [.ref p8])) [imgM 0 (transp (1 + turns * h) (mvT 0 n h A B turns)) x] pl [p8]:=⟨zf,.cons (hp9.mono gl) .nil⟩
  have T9l:=T9.mono gl
  generalize upd H9 pl (.lst [.ref p8]) = H10 at *
  have sI:=xx hk oI.2 bI (by decide)
  refine ⟨_,rfl,0,[imgM 0 (transp (1 + turns * h) (mvT 0 n h A B turns)) x],_,1 + turns * h,5240,pl,p8,[p8],rfl,hk,TL,hp9.mono gl,(fun r hr=>by rw [List.mem_singleton.mp hr]; exact ⟨lI,oI.2⟩),lI,oI.2,(fun r hr=>by rw [List.mem_singleton.mp hr]; exact sI),sI,by decide,(by omega),(by show 1 < sizeLine; decide),fun p11 H11 g11 n11=>?_⟩
  obtain ⟨us,hu,pu,lu⟩:=n11.row.len
  obtain ⟨vc,ev,rv⟩:=yM pu (show (imgM 0 [imgM 0 (transp (1 + turns * h) (mvT 0 n h A B turns)) x] (imgM 0 (transp (1 + turns * h) (mvT 0 n h A B turns)) x))[0]? = some _ from rfl)
  refine ⟨p11,_,_,vc,rfl,rfl,SqL.of hu,zK (j:=0) ev,(by show 3≤sizeLine; decide),fun p12 hp12=>?_⟩
  have g12:=ze hp12 (.tup [.str "inputs",.ref t9,vc])
  exact q1 x p12 t9 vc r9 _ ((((((g26.trans g7).trans g8).trans g9).trans gl).trans g11).trans g12) zf lx' ox' sx' ip ((T9l.mono g11).mono g12) (rv.mono g12)
 ·refine ⟨_,rfl,pz,_,_,.str "never",rfl,rfl,SqT.of hz,rfl,.str "never",.str "never",yn _,yn _,(by decide +kernel),(by decide +kernel),Nat.le_trans (Nat.min_le_left _ _) (by decide),_,rfl,?_⟩
  rw [show PyData.eqv (.str "never") (.str "never") = true by decide]
  refine iteT ?_
  rw [lP,sym] at sol
  rw [lP] at ly'
  have col:∀ c∈prodM 0 n (mvT 0 n h A B turns) (transp (1 + turns * h) (mvT 0 n h A B turns)),La.dot n (La.nv La.kfRat c) (La.nv La.kfRat y) = 0:=fun c hc=>by
   obtain ⟨i,hi,e⟩:=List.getElem_of_mem hc
   rw [sol Rat La.kfRat i c (nnum 0 0) (by rw [List.getElem?_append_left hi,List.getElem?_eq_getElem hi,e]) (by rw [List.getElem?_append_left (by rw [List.length_replicate]; omega),List.getElem?_replicate,if_pos (by omega)])]
   exact La.kfRat.num0
  have cz:=zdr om lm oy' ly' col
  refine ⟨_,rfl,q2 y pz py H6 ((g24.trans g5).trans g6) hz ny.row ly' oy' (fun v hv=>?_) ?_⟩
  ·refine hv.all (P:=fun v=>La.dot n v (La.nv La.kfRat y) = 0) (La.dot_zero n _ _ fun j _=>by grind) fun c r u ⟨q,hq,er⟩ ih=>?_
   have hq':q∈transp (1 + turns * h) (mvT 0 n h A B turns):=by
    refine (zfB hk oM turns q).mpr (.inr ?_)
    cases turns with
    | zero=>exact nomatch hq
    | succ t =>
     obtain ⟨b,hb,i,hi,e⟩:=zaK t q hq
     exact ⟨b,hb,i,by omega,e⟩
   rw [La.XA,La.qq,ih,er,cz q hq']
   grind
  ·rw [sol Rat La.kfRat n _ (nnum 0 1) (by rw [List.getElem?_append_right (by omega),lP,Nat.sub_self]; rfl) (by rw [List.getElem?_append_right (by rw [List.length_replicate]; omega),List.length_replicate,Nat.sub_self]; rfl),La.kfRat.num]
   exact La.ι_one
theorem zgg (K:PySem.W.Frag):PySem.W.kitOne K (.type "list") (.type "list") = some true:=by unfold PySem.W.kitOne; rw [if_pos (by decide)]
theorem jB {a b:Int} (h0 : -(2 ^ 64) < b) (h1:b < 2 ^ 64):IntMulOk a b:=IntMulOk.of_right (intBits_le_64 h0 h1)
theorem jn {a b:Int} (h0 : -(2 ^ 64) < a) (h1:a < 2 ^ 64):IntMulOk a b:=IntMulOk.of_left (intBits_le_64 h0 h1)
noncomputable def Zk:Sp:=fun vs H Q _=>∃ (t b:Int),vs = [.int t,.int b]∧0 < b∧∀ p H',Same H H'→H' p = some (.tup [.int (Rat.divInt t b).num,.int ((Rat.divInt t b).den:Int)])→Q (.ref p) H'
theorem Qy (hP:P.given.tree = none) (hS:base.NoSeer) (D:Df K mg "_law_fraction" ["_law_top", "_law_bottom"] yR) (jf:Kn P w K mg base "_law_divisor" 1 ["_law_one", "_law_other"] za4):Kn P w K mg base "_law_fraction" 41 ["_law_top", "_law_bottom"] Zk:=by
 refine D.kn sc__law_fraction (fun vs H Q E h=>?_) (fun f cdv A outer s H vs Q E hr h=>?_)
 ·obtain ⟨t,b,rfl,_⟩:=h; rfl
 obtain ⟨t,b,rfl,b0,q⟩:=h
 refine ⟨_,(zc (zm (i:=2) sc__law_fraction.nd rfl (.inl rfl) (zu jf (hr.mono (by decide)) rfl (za (pv 0) (za (pv 1) zd)))) (zg (zk (yv (za (zi (zV hr (by decide) hP hS ⟨_,_,rfl,rfl,rfl,rfl,rfl⟩) (pv 0) (pv 2)) (za (zi (zV hr (by decide) hP hS ⟨_,_,rfl,rfl,rfl,rfl,rfl⟩) (pv 1) (pv 2)) zd)))))),?_⟩
 have e:sg t b = ((Int.gcd t b:Nat):Int):=by unfold sg; rw [if_neg (by omega)]
 have ne:((Int.gcd t b:Nat):Int)≠0:=by rw [← e]; exact zeH (by omega)
 obtain ⟨e1,e2⟩:=Yy (t:=t) (b:=b) (by omega)
 rw [e] at e1 e2
 refine ⟨_,rfl,_,rfl,t,b,rfl,_,rfl,_,rfl,_,_,rfl,rfl,ne,_,rfl,_,rfl,_,_,rfl,rfl,ne,(by show 2≤sizeLine; decide),fun p hp=>?_⟩
 show Q (.ref p) (upd H p (.tup [.int (t.fdiv ((Int.gcd t b:Nat):Int)),.int (b.fdiv ((Int.gcd t b:Nat):Int))]))
 rw [e1,e2]
 exact q p _ (ze hp _) zf
noncomputable def JM:Sp:=fun vs H Q _=>∃ (c j:Int),vs = [.int c,.int j]∧0≤j∧j≤1000∧∀ m:Int,0≤m→m < 2147483648→Q (.int m) H
theorem ten7:(10:Int) ^ (7:Int).toNat = 10000000:=by decide
theorem cpow10 {j:Int} (h0:0≤j) (h1:j≤100):CPow 10 j:=⟨h0,by omega,by decide⟩
theorem ze2 (hP:P.given.tree = none) (hS:base.NoSeer) (D:Df K mg "_law_mixed" ["_law_cell", "_law_k"] xS) (zt:mg "range" = none):Kn P w K mg base "_law_mixed" 41 ["_law_cell", "_law_k"] JM:=by
 refine D.kn sc__law_mixed (fun vs H Q E h=>?_) (fun f cdv A outer s H vs Q E hr h=>?_)
 ·obtain ⟨c,j,rfl,_⟩:=h; rfl
 obtain ⟨c,j,rfl,j0,j1,q⟩:=h
 refine ⟨_,(zc (yi (zH Yj (pv 0) (zi zc8 zb zb) (nomark _)) (zc (zm (i:=2) sc__law_mixed.nd rfl (.inl rfl) (zi (zV hr (by decide) hP hS ⟨_,_,rfl,rfl,rfl,rfl,rfl⟩) (pv 0) zb)) (zc (yu PassesOwn.never rfl (zR rfl zt (za (pv 1) zd)) (zh (i:=3) sc__law_mixed.nd rfl (.inl rfl)) (zg (zm (i:=2) sc__law_mixed.nd rfl (.inl rfl) (zi (zV hr (by decide) hP hS ⟨_,_,rfl,rfl,rfl,rfl,rfl⟩) (pv 2) (zi zc8 zb zb))))) (zg (zk (zi zN (pv 2) (zi zc8 zb zb)))))) zL) (zc (zm (i:=4) sc__law_mixed.nd rfl (.inl rfl) (zi zN (zi zU (zi yh (zi yh (zi zN (pv 0) zb) (zi zU (zi zU zb (pv 1)) (pv 1))) (zi zU zb (pv 1))) zb) zb)) (zg (zk (zi zN (zi zU (pv 4) (zi yh (zi yh (zi zN (pv 4) zb) (zi zU zb (pv 1))) zb)) zb))))),?_⟩
 have n1:(2147483647:Int)≠0:=by decide
 have n2:(2147483629:Int)≠0:=by decide
 have n3:(65537:Int)≠0:=by decide
 have n4:(1000:Int)≠0:=by decide
 have n5:(10:Int) ^ (7:Int).toNat≠0:=by decide
 refine ⟨_,rfl,_,_,rfl,rfl,cpow10 (by decide) (by decide),_,_,rfl,rfl,_,rfl,?_⟩
 refine ite2 (fun cc=>?_) (fun cc=>?_)
 ·refine ⟨_,rfl,_,_,rfl,rfl,n4,?_⟩
  refine ⟨_,rfl,j,rfl,(by omega),(by omega),?_⟩
  refine yz (lo:=0) (n:=j.toNat) (fun i σ H'=>∃ lf o3 o4,σ = [some (.int c),some (.int j),some (.int lf),o3,o4]∧H' = H) ⟨_,none,none,rfl,rfl⟩ ?_ ?_
  ·rintro i σ H' hi ⟨lf,o3,o4,rfl,rfl⟩
   exact ⟨_,rfl,_,_,rfl,rfl,cpow10 (by decide) (by decide),_,_,rfl,rfl,n5,_,_,_,rfl,rfl⟩
  ·rintro σ H' ⟨lf,o3,o4,rfl,rfl⟩
   refine ⟨_,rfl,_,_,rfl,rfl,cpow10 (by decide) (by decide),_,_,rfl,rfl,n5,?_⟩
   dsimp only
   rw [ten7]
   have h0:=Int.fmod_nonneg_of_pos lf (show (0:Int) < 10000000 by decide)
   have h1:=Int.fmod_lt_of_pos lf (show (0:Int) < 10000000 by decide)
   exact q _ h0 (by omega)
 ·have f0:=Int.fmod_nonneg_of_pos c (show (0:Int) < 2147483647 by decide)
  have f1:=Int.fmod_lt_of_pos c (show (0:Int) < 2147483647 by decide)
  refine ⟨_,rfl,_,_,rfl,rfl,n1,_,rfl,_,_,rfl,rfl,jn (by decide) (by decide),_,rfl,_,_,rfl,rfl,jB (by omega) (by omega),_,_,rfl,rfl,_,rfl,_,_,rfl,rfl,jn (by decide) (by decide),_,_,rfl,rfl,_,_,rfl,rfl,jB (by decide) (by decide),_,_,rfl,rfl,n1,?_⟩
  dsimp only
  generalize ((c.fmod 2147483647 + 40503 * j * j + 17 * j) * 48271).fmod 2147483647 = o at *
  refine ⟨_,rfl,_,rfl,_,_,rfl,rfl,n3,_,rfl,_,_,rfl,rfl,jn (by decide) (by decide),_,_,rfl,rfl,_,_,rfl,rfl,_,_,rfl,rfl,jB ?_ ?_,_,_,rfl,rfl,n2,?_⟩
  ·have h0:=Int.fmod_nonneg_of_pos o (show (0:Int) < 65537 by decide)
   show -(2 ^ 64) < o.fmod 65537 + 3 * j + 1
   omega
  ·have h1:=Int.fmod_lt_of_pos o (show (0:Int) < 65537 by decide)
   show o.fmod 65537 + 3 * j + 1 < 2 ^ 64
   omega
  dsimp only
  generalize o * (o.fmod 65537 + 3 * j + 1) = x
  have h0:=Int.fmod_nonneg_of_pos x (show (0:Int) < 2147483629 by decide)
  have h1:=Int.fmod_lt_of_pos x (show (0:Int) < 2147483629 by decide)
  exact q _ h0 (by omega)
noncomputable def QX:Sp:=fun vs H Q _=>∃ (k c:Int),vs = [.int k,.int c]∧KindOk k∧∀ x v H',Same H H'→RN H' x v→x.ok k→Q v H'
theorem zfG {k c m:Int} (hk:1 < k) (h0:0≤m) (h1:m < 4) (c0:0≤c) (c1:c < k):∃ w:Int,atI [V.int 0,V.int 1,V.int (k - 1),V.int c] m = some (.int w)∧0≤w∧w < k:=by
 rcases (show m = 0∨m = 1∨m = 2∨m = 3 by omega) with rfl | rfl | rfl | rfl
 ·exact ⟨0,rfl,by omega,by omega⟩
 ·exact ⟨1,rfl,by omega,by omega⟩
 ·exact ⟨k - 1,rfl,by omega,by omega⟩
 ·exact ⟨c,rfl,c0,c1⟩
theorem zdV (hP:P.given.tree = none) (hS:base.NoSeer) (D:Df K mg "_law_drawn" ["_law_prime_here", "_law_cell"] xX) (yD:Kn P w K mg base "_law_fraction" 41 ["_law_top", "_law_bottom"] Zk):Kn P w K mg base "_law_drawn" 42 ["_law_prime_here", "_law_cell"] QX:=by
 refine D.kn Jq (fun vs H Q E h=>?_) (fun f cdv A outer s H vs Q E hr h=>?_)
 ·obtain ⟨k,c,rfl,_⟩:=h; rfl
 obtain ⟨k,c,rfl,hk,q⟩:=h
 have kl:=hk.lt
 refine ⟨_,(zc (yi (zH Yj (pv 0) zb (nomark _)) (zg (zk (zE zp (yC (za zb (za zb (za (zi xG (pv 0) zb) (za (zi zN (zi (zV hr (by decide) hP hS ⟨_,_,rfl,rfl,rfl,rfl,rfl⟩) (pv 1) zb) (pv 0)) zd))))) (zi zN (pv 1) zb) (fun _ _=>rfl)))) zL) (zc (yi (zH xt (zi zN (pv 1) zb) zb (nomark _)) (zg (zk (yv (za (zi xG (zi zN (zi (zV hr (by decide) hP hS ⟨_,_,rfl,rfl,rfl,rfl,rfl⟩) (pv 1) zb) zb) zb) (za zb zd))))) zL) (zg (zk (zu yD (hr.mono (by decide)) rfl (za (zi xG (zi zN (zi (zV hr (by decide) hP hS ⟨_,_,rfl,rfl,rfl,rfl,rfl⟩) (pv 1) zb) zb) zb) (za (zi yh zb (zi zN (zi (zV hr (by decide) hP hS ⟨_,_,rfl,rfl,rfl,rfl,rfl⟩) (pv 1) zb) zb)) zd))))))),?_⟩
 have n4:(4:Int)≠0:=by decide
 have n3:(3:Int)≠0:=by decide
 refine ⟨_,rfl,_,_,rfl,rfl,_,rfl,?_⟩
 refine ite2 (fun ck=>?_) (fun ck=>?_)
 ·have k0:0 < k:=of_decide_eq_true ck
  have k1:1 < k:=by
   rcases hk with h | h
   ·omega
   ·exact h.1
  refine ⟨_,rfl,_,_,rfl,rfl,_,rfl,_,_,rfl,rfl,n4,_,rfl,_,_,rfl,rfl,(show k≠0 by omega),(by show 4≤sizeLine; decide),fun p hp=>?_⟩
  obtain ⟨w,ew,w0,w1⟩:=zfG k1 (Int.fmod_nonneg_of_pos c (show (0:Int) < 4 by decide)) (Int.fmod_lt_of_pos c (show (0:Int) < 4 by decide)) (Int.fmod_nonneg_of_pos (c.fdiv 4) k0) (Int.fmod_lt_of_pos (c.fdiv 4) k0)
  exact ⟨_,rfl,_,_,rfl,rfl,n4,p,_,_,_,rfl,rfl,SqL.of zf,ew,q (.z w) _ _ (ze hp _) RN.of_z ⟨by omega,w0,w1⟩⟩
 ·have k0:k = 0:=by
   have:¬ 0 < k:=of_decide_eq_false (Bool.eq_false_iff.mpr ck)
   omega
  refine ⟨_,rfl,_,_,rfl,rfl,n3,rfl,_,rfl,?_⟩
  refine ite2 (fun c3=>?_) (fun c3=>?_)
  ·refine ⟨_,rfl,_,_,rfl,rfl,n3,_,_,rfl,rfl,n3,_,_,rfl,rfl,(by show 2≤sizeLine; decide),fun p hp=>?_⟩
   exact q (.q ((((c.fdiv 3).fmod 3 - 1:Int)):Rat)) _ _ (ze hp _) (RN.of_q (r:=(((c.fdiv 3).fmod 3 - 1:Int):Rat)) zf) k0
  ·have b0:=Int.fmod_nonneg_of_pos (c.fdiv 57) (show (0:Int) < 4 by decide)
   exact ⟨_,rfl,_,_,rfl,rfl,n3,_,_,rfl,rfl,(by show (19:Int)≠0; decide),_,_,rfl,rfl,_,rfl,_,_,rfl,rfl,(by show (57:Int)≠0; decide),_,_,rfl,rfl,n4,_,_,rfl,rfl,_,_,rfl,(by omega),fun p H' g hp=>q (.q _) _ H' g (RN.of_q hp) k0⟩
noncomputable def Zo:Sp:=fun vs H Q _=>∃ (k w:Int),vs = [.int k,.int w]∧KindOk k∧∀ v H',Same H H'→RN H' (nnum k w) v→Q v H'
theorem zfR (D:Df K mg "_law_make" ["_law_prime_here", "_law_whole_here"] jv):Kn P w K mg base "_law_make" 1 ["_law_prime_here", "_law_whole_here"] Zo:=by
 refine D.kn zaw (fun vs H Q E h=>?_) (fun f cdv A outer s H vs Q E hr h=>?_)
 ·obtain ⟨k,w,rfl,_⟩:=h; rfl
 obtain ⟨k,x,rfl,hk,q⟩:=h
 have kl:=hk.lt
 refine ⟨_,(zc (yi (zH xt (pv 0) zb (nomark _)) (zg (zk (yv (za (pv 1) (za zb zd))))) zL) (zg (zk (zi zN (pv 1) (pv 0))))),?_⟩
 refine ⟨_,rfl,rfl,_,rfl,?_⟩
 refine ite2 (fun c=>?_) (fun c=>?_)
 ·have k0:k = 0:=V.int.inj (of_decide_eq_true c)
  subst k0
  exact ⟨_,rfl,(by show 2≤sizeLine; decide),fun p hp=>q _ _ (ze hp _) (RN.of_q (r:=(x:Rat)) zf)⟩
 ·have k0:k≠0:=fun e=>c (by show decide (V.int k = V.int 0) = true; rw [e]; decide)
  refine ⟨_,rfl,_,rfl,_,_,rfl,rfl,k0,q _ _ (Same.refl H) ?_⟩
  unfold nnum
  rw [if_neg k0]
  exact RN.of_z
theorem zeT (D:Df K mg "_law_plus" ["_law_prime_here", "_law_one", "_law_other"] jP) (yD:Kn P w K mg base "_law_fraction" 41 ["_law_top", "_law_bottom"] Zk):Kn P w K mg base "_law_plus" 42 ["_law_prime_here", "_law_one", "_law_other"] (xv nadd):=by
 refine D.kn QF (fun vs H Q E h=>?_) (fun f cdv A outer s H vs Q E hr h=>?_)
 ·obtain ⟨k,x,y,a,b,rfl,_⟩:=h; rfl
 obtain ⟨k,x,y,a,b,rfl,T,q⟩:=h
 have kl:=T.kd.lt
 refine ⟨_,(zc (yi (zH xt (pv 0) zb (nomark _)) (zg (zk (zu yD (hr.mono (by decide)) rfl (za (zi yh (zi zU (zE zw (pv 1) zb (fun _ _=>rfl)) (zE zw (pv 2) zb (fun _ _=>rfl))) (zi zU (zE zw (pv 2) zb (fun _ _=>rfl)) (zE zw (pv 1) zb (fun _ _=>rfl)))) (za (zi zU (zE zw (pv 1) zb (fun _ _=>rfl)) (zE zw (pv 2) zb (fun _ _=>rfl))) zd))))) zL) (zg (zk (zi zN (zi yh (pv 1) (pv 2)) (pv 0))))),?_⟩
 rcases qS T with ⟨rfl,r,s,pa,pb,rfl,rfl,rfl,rfl,ha,hb,rn,rd,sn,sd⟩ | ⟨k0,hp,i,j,rfl,rfl,rfl,rfl,i0,ik,j0,jk⟩
 ·refine ⟨_,rfl,rfl,_,rfl,iteT ?_⟩
  refine ⟨_,rfl,pa,_,_,_,rfl,rfl,SqT.of ha,rfl,_,rfl,pb,_,_,_,rfl,rfl,SqT.of hb,rfl,_,_,rfl,rfl,yY rn sd,_,rfl,pb,_,_,_,rfl,rfl,SqT.of hb,rfl,_,rfl,pa,_,_,_,rfl,rfl,SqT.of ha,rfl,_,_,rfl,rfl,yY sn rd,_,_,rfl,rfl,_,rfl,pa,_,_,_,rfl,rfl,SqT.of ha,rfl,_,rfl,pb,_,_,_,rfl,rfl,SqT.of hb,rfl,_,_,rfl,rfl,yY rd sd,_,_,rfl,Int.mul_pos (den_pos r) (den_pos s),fun p H' g h=>?_⟩
  rw [zdm] at h
  exact q _ H' g (RN.of_q h)
 ·refine ⟨_,rfl,rfl,_,rfl,?_⟩
  rw [decide_eq_false (fun e=>k0 (V.int.inj e))]
  refine iteF ?_
  refine ⟨_,rfl,_,rfl,_,_,rfl,rfl,_,rfl,_,_,rfl,rfl,k0,?_⟩
  exact q _ _ (Same.refl H) RN.of_z
theorem zdf (D:Df K mg "_law_times" ["_law_prime_here", "_law_one", "_law_other"] xW) (yD:Kn P w K mg base "_law_fraction" 41 ["_law_top", "_law_bottom"] Zk):Kn P w K mg base "_law_times" 42 ["_law_prime_here", "_law_one", "_law_other"] (xv nmul):=by
 refine D.kn Ju (fun vs H Q E h=>?_) (fun f cdv A outer s H vs Q E hr h=>?_)
 ·obtain ⟨k,x,y,a,b,rfl,_⟩:=h; rfl
 obtain ⟨k,x,y,a,b,rfl,T,q⟩:=h
 have kl:=T.kd.lt
 refine ⟨_,(zc (yi (zH xt (pv 0) zb (nomark _)) (zg (zk (zu yD (hr.mono (by decide)) rfl (za (zi zU (zE zw (pv 1) zb (fun _ _=>rfl)) (zE zw (pv 2) zb (fun _ _=>rfl))) (za (zi zU (zE zw (pv 1) zb (fun _ _=>rfl)) (zE zw (pv 2) zb (fun _ _=>rfl))) zd))))) zL) (zg (zk (zi zN (zi zU (pv 1) (pv 2)) (pv 0))))),?_⟩
 rcases qS T with ⟨rfl,r,s,pa,pb,rfl,rfl,rfl,rfl,ha,hb,rn,rd,sn,sd⟩ | ⟨k0,hp,i,j,rfl,rfl,rfl,rfl,i0,ik,j0,jk⟩
 ·refine ⟨_,rfl,rfl,_,rfl,iteT ?_⟩
  refine ⟨_,rfl,pa,_,_,_,rfl,rfl,SqT.of ha,rfl,_,rfl,pb,_,_,_,rfl,rfl,SqT.of hb,rfl,_,_,rfl,rfl,yY rn sn,_,rfl,pa,_,_,_,rfl,rfl,SqT.of ha,rfl,_,rfl,pb,_,_,_,rfl,rfl,SqT.of hb,rfl,_,_,rfl,rfl,yY rd sd,_,_,rfl,Int.mul_pos (den_pos r) (den_pos s),fun p H' g h=>?_⟩
  rw [zbe] at h
  exact q _ H' g (RN.of_q h)
 ·refine ⟨_,rfl,rfl,_,rfl,?_⟩
  rw [decide_eq_false (fun e=>k0 (V.int.inj e))]
  refine iteF ?_
  refine ⟨_,rfl,_,rfl,_,_,rfl,rfl,jE i0 (by have:=hp.hi; omega),_,rfl,_,_,rfl,rfl,k0,?_⟩
  exact q _ _ (Same.refl H) RN.of_z
theorem zhv {k:Int} (hk:KindOk k) {x y:Nb} (ox:x.ok k) (oy:y.ok k):nadd k x (nmul k (nnum k (-1)) y) = nsub k x y:=by
 obtain ⟨F,_,_,⟨φ⟩⟩:=La.yl hk
 have o1:=La.zI hk (-1)
 have om:=La.ym hk o1 oy
 refine φ.inj (La.yJ hk ox om) (zaH (by have:=hk.lt; omega) ox oy) ?_
 rw [φ.add ox om,φ.mul o1 oy,φ.sub ox oy,φ.num]
 have:(La.ι (-1):F) = -1:=by
  have h1:(La.ι (-1):F) + La.ι 1 = 0:=by rw [← La.ι_add]; exact La.ι_zero
  rw [La.ι_one] at h1
  grind
 rw [this]
 grind
noncomputable def zah:Sp:=fun vs H Q _=>∃ (k:Int) (x y:Nb) (a b:V),vs = [.int k,a,b]∧KindOk k∧x.ok k∧y.ok k∧nsm 30000000 x∧nsm 30000000 y∧RN H x a∧RN H y b∧∀ v H',Same H H'→RN H' (nsub k x y) v→Q v H'
theorem zes (D:Df K mg "_law_minus" ["_law_prime_here", "_law_one", "_law_other"] jb) (yL:Kn P w K mg base "_law_make" 1 ["_law_prime_here", "_law_whole_here"] Zo) (yg:Kn P w K mg base "_law_plus" 42 ["_law_prime_here", "_law_one", "_law_other"] (xv nadd)) (zX:Kn P w K mg base "_law_times" 42 ["_law_prime_here", "_law_one", "_law_other"] (xv nmul)):Kn P w K mg base "_law_minus" 43 ["_law_prime_here", "_law_one", "_law_other"] zah:=by
 refine D.kn Qg (fun vs H Q E h=>?_) (fun f cdv A outer s H vs Q E hr h=>?_)
 ·obtain ⟨k,x,y,a,b,rfl,_⟩:=h; rfl
 obtain ⟨k,x,y,a,b,rfl,hk,ox,oy,sx,sy,rx,ry,q⟩:=h
 refine ⟨_,(zg (zk (zu yg (hr.mono (by decide)) rfl (za (pv 0) (za (pv 1) (za (zu zX (hr.mono (by decide)) rfl (za (pv 0) (za (zu yL (hr.mono (by decide)) rfl (za (pv 0) (za (zgA zd1 zb) zd))) (za (pv 2) zd)))) zd)))))),?_⟩
 have o1:=La.zI hk (-1)
 have s1:nsm 30000000 (nnum k (-1)):=jx hk (sm_one.neg.mono (by decide)) (by decide)
 refine ⟨_,rfl,_,rfl,_,rfl,_,rfl,_,rfl,k,-1,rfl,hk,fun v1 H1 g1 r1=>?_⟩
 refine ⟨_,rfl,k,nnum k (-1),y,_,_,rfl,⟨hk,o1,oy,nsm.mono s1 (by decide),nsm.mono sy (by decide),r1,ry.mono g1⟩,fun v2 H2 g2 r2=>?_⟩
 refine ⟨k,x,_,_,_,rfl,⟨hk,ox,La.ym hk o1 oy,sx.mono (by decide),(zg1 hk o1 oy s1 sy (by decide)).mono (by decide),(rx.mono g1).mono g2,r2⟩,fun v3 H3 g3 r3=>?_⟩
 rw [zhv hk ox oy] at r3
 exact q v3 H3 ((g1.trans g2).trans g3) r3
noncomputable def primesN:List Nat:=[2,3,5,7,11,13,17,19,23,29,31,37,41,43,47,53,59,61,67,71,73,79,83,89,97]
theorem zdI:∀ w∈primesN,primeB w = true∧1 < w∧w < 99:=by decide
theorem zfM {i:Nat} (h:i < 25):∃ k:Int,(([2,3,5,7,11,13,17,19,23,29,31,37,41,43,47,53,59,61,67,71,73,79,83,89,97]:List Int).map V.int)[i]? = some (.int k)∧KindS k:=by
 rw [show (([2,3,5,7,11,13,17,19,23,29,31,37,41,43,47,53,59,61,67,71,73,79,83,89,97]:List Int).map V.int) = primesN.map fun (w:Nat)=>V.int (w:Int) from rfl]
 have hi:i < primesN.length:=h
 refine ⟨(primesN[i]:Int),by rw [List.getElem?_map,List.getElem?_eq_getElem hi]; rfl,.inr ?_⟩
 obtain ⟨h1,h2,h3⟩:=zdI primesN[i] (List.getElem_mem hi)
 exact ⟨by omega,by omega,by rw [Int.toNat_natCast]; exact h1⟩
noncomputable def QU:Sp:=fun vs H Q _=>∃ (c:Int),vs = [.int c]∧∀ k H',Same H H'→KindS k→(c.fmod 3 = 0→k = 0)→Q (.int k) H'
theorem zeK (hP:P.given.tree = none) (hS:base.NoSeer) (D:Df K mg "_law_prime" ["_law_cell"] yN):Kn P w K mg base "_law_prime" 41 ["_law_cell"] QU:=by
 refine D.kn sc__law_prime (fun vs H Q E h=>?_) (fun f cdv A outer s H vs Q E hr h=>?_)
 ·obtain ⟨c,rfl,_⟩:=h; rfl
 obtain ⟨c,rfl,q⟩:=h
 obtain ⟨es,pa,pb,pc,hes,e0⟩ : ∃ (es:List Expr) (pa pb pc:Pos),IntEs es [2,3,5,7,11,13,17,19,23,29,31,37,41,43,47,53,59,61,67,71,73,79,83,89,97]∧defBody yN = Stmt.Assign (targets:=[Expr.Name "_law_primes" pa]) (value:=Expr.List es pb) (pos:=pc) :: (defBody yN).tail:=⟨_,_,_,_,by repeat constructor,rfl⟩
 rw [e0]
 refine ⟨_,(zc (zm (i:=1) sc__law_prime.nd rfl (.inl rfl) (yC (zhj [2,3,5,7,11,13,17,19,23,29,31,37,41,43,47,53,59,61,67,71,73,79,83,89,97] hes))) (zc (yi (zH xt (zi zN (pv 0) zb) zb (nomark _)) (zg (zk zb)) zL) (zg (zk (zE zp (pv 1) (zE zp (yC (za (zi zN (zi (zV hr (by decide) hP hS ⟨_,_,rfl,rfl,rfl,rfl,rfl⟩) (pv 0) zb) zb) (za (zi zN (zi (zV hr (by decide) hP hS ⟨_,_,rfl,rfl,rfl,rfl,rfl⟩) (pv 0) zb) zb) zd))) (zi xG (zi zN (pv 0) zb) zb) (fun _ _=>rfl)) (fun _ _=>rfl)))))),?_⟩
 have n3:(3:Int)≠0:=by decide
 refine ⟨(by show 25≤sizeLine; decide),fun p hp=>?_⟩
 have hpp:upd H p (.lst (([2,3,5,7,11,13,17,19,23,29,31,37,41,43,47,53,59,61,67,71,73,79,83,89,97]:List Int).map V.int)) p = some (.lst (([2,3,5,7,11,13,17,19,23,29,31,37,41,43,47,53,59,61,67,71,73,79,83,89,97]:List Int).map V.int)):=zf
 have g1:=ze hp (.lst (([2,3,5,7,11,13,17,19,23,29,31,37,41,43,47,53,59,61,67,71,73,79,83,89,97]:List Int).map V.int))
 generalize upd H p (.lst (([2,3,5,7,11,13,17,19,23,29,31,37,41,43,47,53,59,61,67,71,73,79,83,89,97]:List Int).map V.int)) = H1 at *
 refine ⟨_,rfl,_,_,rfl,rfl,n3,rfl,_,rfl,?_⟩
 refine ite2 (fun cc=>?_) (fun cc=>?_)
 ·exact q 0 _ g1 (.inl rfl) (fun _=>rfl)
 ·have c3:c.fmod 3≠0:=fun e=>cc (by show decide (V.int (c.fmod 3) = V.int 0) = true; rw [e]; decide)
  have f0:=Int.fmod_nonneg_of_pos c (show (0:Int) < 3 by decide)
  have f1:=Int.fmod_lt_of_pos c (show (0:Int) < 3 by decide)
  have a0:=Int.fmod_nonneg_of_pos (c.fdiv 3) (show (0:Int) < 4 by decide)
  have a1:=Int.fmod_lt_of_pos (c.fdiv 3) (show (0:Int) < 4 by decide)
  have b0:=Int.fmod_nonneg_of_pos (c.fdiv 3) (show (0:Int) < 25 by decide)
  have b1:=Int.fmod_lt_of_pos (c.fdiv 3) (show (0:Int) < 25 by decide)
  refine ⟨_,rfl,_,rfl,_,_,rfl,rfl,n3,_,_,rfl,rfl,(by show (4:Int)≠0; decide),_,rfl,_,_,rfl,rfl,n3,_,_,rfl,rfl,(by show (25:Int)≠0; decide),(by show 2≤sizeLine; decide),fun p2 hp2=>?_⟩
  have g2:=ze hp2 (.lst [V.int ((c.fdiv 3).fmod 4),V.int ((c.fdiv 3).fmod 25)])
  obtain ⟨i,ei,hi⟩ : ∃ i:Nat,atI [V.int ((c.fdiv 3).fmod 4),V.int ((c.fdiv 3).fmod 25)] (c.fmod 3 - 1) = some (.int (i:Int))∧i < 25:=by
   rcases (show c.fmod 3 = 1∨c.fmod 3 = 2 by omega) with e | e
   ·refine ⟨((c.fdiv 3).fmod 4).toNat,?_,by omega⟩
    rw [e,show ((((c.fdiv 3).fmod 4).toNat:Nat):Int) = (c.fdiv 3).fmod 4 by omega]
    rfl
   ·refine ⟨((c.fdiv 3).fmod 25).toNat,?_,by omega⟩
    rw [e,show ((((c.fdiv 3).fmod 25).toNat:Nat):Int) = (c.fdiv 3).fmod 25 by omega]
    rfl
  obtain ⟨k,ek,hk⟩:=zfM hi
  exact ⟨_,rfl,_,_,rfl,rfl,n3,_,_,rfl,rfl,p2,_,_,_,rfl,rfl,SqL.of zf,ei,p,_,_,_,rfl,rfl,SqL.of (g2 _ _ hpp),zK ek,q k _ (g1.trans g2) hk (fun e=>absurd e c3)⟩
noncomputable def zgs:Sp:=fun vs H Q _=>∃ (k:Int) (pc:Addr) (cs:List Int) (i:Nat) (iI:Int),vs = [.int k,.ref pc,.int iI]∧iI = (i:Int)∧KindOk k∧H pc = some (.lst (cs.map V.int))∧cs≠[]∧∀ x v H',Same H H'→RN H' x v→x.ok k→Q v H'
theorem zhJ (D:Df K mg "_law_at" ["_law_prime_here", "_law_cells", "_law_k"] Zi) (ZY:Kn P w K mg base "_law_drawn" 42 ["_law_prime_here", "_law_cell"] QX) (jU:Kn P w K mg base "_law_mixed" 41 ["_law_cell", "_law_k"] JM) (m_len:mg "len" = none):Kn P w K mg base "_law_at" 43 ["_law_prime_here", "_law_cells", "_law_k"] zgs:=by
 refine D.kn zcj (fun vs H Q E h=>?_) (fun f cdv A outer s H vs Q E hr h=>?_)
 ·obtain ⟨k,pc,cs,i,iI,rfl,_⟩:=h; rfl
 obtain ⟨k,pc,cs,i,iI,rfl,rfl,hk,hc,ne,q⟩:=h
 refine ⟨_,(zc (yi (zH zhg (pv 2) (zG zP rfl m_len yt (za (pv 1) zd)) (nomark _)) (zg (zk (zu ZY (hr.mono (by decide)) rfl (za (pv 0) (za (zE zp (pv 1) (pv 2) (fun _ _=>rfl)) zd))))) zL) (zg (zk (zu ZY (hr.mono (by decide)) rfl (za (pv 0) (za (zu jU (hr.mono (by decide)) rfl (za (zi yh (zE zp (pv 1) zb (fun _ _=>rfl)) (pv 2)) (za (zi zN (pv 2) zb) zd))) zd)))))),?_⟩
 refine ⟨_,rfl,_,rfl,pc,_,rfl,.inl (SqL.of hc),_,_,rfl,rfl,_,rfl,?_⟩
 refine ite2 (fun cc=>?_) (fun cc=>?_)
 ·have c':(i:Int) < (((cs.map V.int).length:Nat):Int):=of_decide_eq_true cc
  rw [List.length_map] at c'
  have e:(cs.map V.int)[i]? = some (.int cs[i]):=by rw [List.getElem?_map,List.getElem?_eq_getElem (by omega)]; rfl
  exact ⟨_,rfl,_,rfl,_,rfl,pc,_,_,_,rfl,rfl,SqL.of hc,zK e,k,_,rfl,hk,q⟩
 ·obtain ⟨c0,cs',rfl⟩:=List.exists_cons_of_ne_nil ne
  have f0:=Int.fmod_nonneg_of_pos (i:Int) (show (0:Int) < 30 by decide)
  have f1:=Int.fmod_lt_of_pos (i:Int) (show (0:Int) < 30 by decide)
  exact ⟨_,rfl,_,rfl,pc,_,_,_,rfl,rfl,SqL.of hc,zK (j:=0) rfl,_,rfl,_,_,rfl,rfl,_,rfl,_,_,rfl,rfl,(by show (30:Int)≠0; decide),_,_,rfl,(by omega),(by omega),fun m _ _=>⟨k,m,rfl,hk,q⟩⟩
noncomputable def Xb:Sp:=fun vs H Q _=>∃ (k:Int) (pc:Addr) (cs:List Int) (i:Nat) (iI:Int),vs = [.int k,.ref pc,.int iI]∧iI = (i:Int)∧KindOk k∧H pc = some (.lst (cs.map V.int))∧cs≠[]∧∀ x v H',Same H H'→RN H' x v→x.ok k→whk k 2 x→Q v H'
theorem zdW (D:Df K mg "_law_small" ["_law_prime_here", "_law_cells", "_law_k"] xQ) (zei:Kn P w K mg base "_law_at" 43 ["_law_prime_here", "_law_cells", "_law_k"] zgs):Kn P w K mg base "_law_small" 44 ["_law_prime_here", "_law_cells", "_law_k"] Xb:=by
 refine D.kn sc__law_small (fun vs H Q E h=>?_) (fun f cdv A outer s H vs Q E hr h=>?_)
 ·obtain ⟨k,pc,cs,i,iI,rfl,_⟩:=h; rfl
 obtain ⟨k,pc,cs,i,iI,rfl,rfl,hk,hc,ne,q⟩:=h
 refine ⟨_,(zc (zm (i:=3) sc__law_small.nd rfl (.inl rfl) (zu zei (hr.mono (by decide)) rfl (za (pv 0) (za (pv 1) (za (pv 2) zd))))) (zc (yi (zH xt (pv 0) zb (nomark _)) (zg (zk (yv (za (zi xG (zi zN (zE zw (pv 3) zb (fun _ _=>rfl)) zb) zb) (za zb zd))))) zL) (zg (zk (pv 3))))),?_⟩
 refine ⟨_,rfl,_,rfl,_,rfl,k,pc,cs,i,_,rfl,rfl,hk,hc,ne,fun x v H1 g1 rx ox=>?_⟩
 refine ⟨_,rfl,rfl,_,rfl,?_⟩
 refine ite2 (fun cc=>?_) (fun cc=>?_)
 ·have k0:k = 0:=V.int.inj (of_decide_eq_true cc)
  subst k0
  cases x with
  | z j=>exact absurd rfl ox.1
  | q r =>
   obtain ⟨p,rfl,hp⟩:=rx.q
   have f0:=Int.fmod_nonneg_of_pos r.num (show (0:Int) < 5 by decide)
   have f1:=Int.fmod_lt_of_pos r.num (show (0:Int) < 5 by decide)
   refine ⟨_,rfl,p,_,_,_,rfl,rfl,SqT.of hp,rfl,_,_,rfl,rfl,(by show (5:Int)≠0; decide),_,_,rfl,rfl,(by show 2≤sizeLine; decide),fun p2 hp2=>?_⟩
   refine q (.q ((r.num.fmod 5 - 2:Int):Rat)) _ _ (g1.trans (ze hp2 _)) (RN.of_q (r:=((r.num.fmod 5 - 2:Int):Rat)) zf) rfl fun _=>⟨r.num.fmod 5 - 2,rfl,?_⟩
   have:(2:Nat) ^ 2 = 4:=by decide
   omega
 ·have k0:k≠0:=fun e=>cc (by show decide (V.int k = V.int 0) = true; rw [e]; decide)
  exact ⟨_,rfl,q x v H1 g1 rx ox fun e=>absurd e k0⟩
noncomputable def zan:Sp:=fun vs H Q _=>∃ (h:Int) (n:Nat) (b:Bool),vs = [.int h,.int (n:Int),.bl b]∧n≤60∧∀ (ss:List Int) (l:Addr) (H':Hp),Same H H'→H' l = some (.lst (ss.map V.int))→ss.length = n→Q (.ref l) H'
theorem zeM (D:Df K mg "_law_sorts" ["_law_head", "_law_n", "_law_plain"] xM) (jU:Kn P w K mg base "_law_mixed" 41 ["_law_cell", "_law_k"] JM) (zt:mg "range" = none) (JL:mg "sorted" = none):Kn P w K mg base "_law_sorts" 42 ["_law_head", "_law_n", "_law_plain"] zan:=by
 refine D.kn JC (fun vs H Q E h=>?_) (fun f cdv A outer s H vs Q E hr h=>?_)
 ·obtain ⟨h,n,b,rfl,_⟩:=h; rfl
 obtain ⟨h,n,b,rfl,n60,q⟩:=h
 have szl:sizeLine = 16777216:=by decide
 refine ⟨_,(zc (yi (xH (pv 2)) (zg (zk (ya ["_law_k"] [] [] ⟨rfl,rfl,rfl,rfl,rfl,rfl,by decide +kernel⟩ rfl (zR rfl zt (za (pv 1) zd)) (zo (by decide)) fun _ _ _ _ _ _=>⟨(zh (i:=0) (by decide:(["_law_k"]:List Str).Nodup) rfl (by first | exact Or.inl rfl | exact Or.inr rfl)),zQ,zb⟩))) zL) (zg (zk (zG QY rfl JL zc6 (za (ya ["_law_k"] ["_law_head"] [0] ⟨rfl,rfl,rfl,rfl,rfl,rfl,by decide +kernel⟩ rfl (zR rfl zt (za (pv 1) zd)) (zo (by decide)) fun _ _ _ _ _ _=>⟨(zh (i:=0) (by decide:(["_law_k", "_law_head"]:List Str).Nodup) rfl (by first | exact Or.inl rfl | exact Or.inr rfl)),zQ,(zi zN (zu jU (hr.mono (by decide)) rfl (za (pv 1) (za (zi yh zb (pv 0)) zd))) zb)⟩) zd))))),?_⟩
 refine ⟨_,rfl,_,rfl,?_⟩
 refine ite2 (fun cc=>?_) (fun cc=>?_)
 ·refine ⟨_,rfl,n,rfl,(by omega),(by omega),?_⟩
  rw [Int.toNat_natCast]
  refine yA (lo:=0) (n:=n) (fun i ys H'=>H' = H∧ys = (List.replicate i (1:Int)).map V.int) ⟨rfl,rfl⟩ ?_ ?_ ?_
  ·rintro i ys H' hi ⟨rfl,rfl⟩
   rw [List.length_map,List.length_replicate]; omega
  ·rintro i ys H' hi ⟨rfl,rfl⟩
   first | refine gyes ?_ | refine tyes ?_
   refine nxt hi ⟨rfl,?_⟩
   rw [List.replicate_succ',List.map_append]; rfl
  ·rintro ys H' ⟨rfl,rfl⟩ p hp
   exact q _ p _ (ze hp _) zf (by rw [List.length_replicate])
 ·refine ⟨_,rfl,n,rfl,(by omega),(by omega),?_⟩
  rw [Int.toNat_natCast]
  refine yA (lo:=0) (n:=n) (fun i ys H'=>H' = H∧∃ ss:List Int,ys = ss.map V.int∧ss.length = i) ⟨rfl,[],rfl,rfl⟩ ?_ ?_ ?_
  ·rintro i ys H' hi ⟨rfl,ss,rfl,l⟩
   rw [List.length_map]; omega
  ·rintro i ys H' hi ⟨rfl,ss,rfl,l⟩
   first | refine gyes ?_ | refine tyes ?_
   refine ⟨_,rfl,_,rfl,_,_,rfl,rfl,_,_,rfl,(by omega),(by omega),fun m _ _=>⟨_,_,rfl,rfl,(by show (4:Int)≠0; decide),nxt hi ⟨rfl,ss ++ [m.fmod 4],?_,by rw [List.length_append,l]; rfl⟩⟩⟩
   rw [List.map_append]; rfl
  ·rintro ys H' ⟨rfl,ss,rfl,l⟩ p hp
   refine ⟨p,ss,rfl,SqL.of zf,(by omega),fun l2 ss' hl2 pm _=>?_⟩
   exact q ss' l2 _ ((ze hp _).trans (ze hl2 _)) zf (by rw [pm.length_eq,l])
noncomputable def zbC:Sp:=fun vs H Q _=>∃ (a b:Int),vs = [.int a,.int b]∧∀ c,Q (.bl c) H
theorem zeX (D:Df K mg "_law_lets" ["_law_row", "_law_column"] jw):Kn P w K mg base "_law_lets" 1 ["_law_row", "_law_column"] zbC:=by
 refine D.kn zas (fun vs H Q E h=>?_) (fun f cdv A outer s H vs Q E hr h=>?_)
 ·obtain ⟨a,b,rfl,_⟩:=h; rfl
 obtain ⟨a,b,rfl,q⟩:=h
 refine ⟨_,(zc (yi (zH xt (pv 0) zb (nomark _)) (zg (zk (zic (xp xt (pv 1) zb (nomark _)) (XO (xp xt (pv 1) zb (nomark _)))))) zL) (zc (yi (zH xt (pv 0) zb (nomark _)) (zg (zk (xp Yj (pv 1) zb (nomark _)))) zL) (zg (zk (zic (xp xt (pv 0) zb (nomark _)) (XO (xp xt (pv 1) zb (nomark _)))))))),?_⟩
 refine ⟨_,rfl,rfl,_,rfl,?_⟩
 refine ite2 (fun c1=>?_) (fun c1=>?_)
 ·refine ⟨_,rfl,rfl,_,rfl,?_⟩
  refine ite2 (fun c2=>?_) (fun c2=>?_)
  ·exact q _
  ·exact ⟨_,rfl,rfl,q _⟩
 ·refine ⟨_,rfl,rfl,_,rfl,?_⟩
  refine ite2 (fun c2=>?_) (fun c2=>?_)
  ·exact ⟨_,rfl,_,_,rfl,rfl,q _⟩
  ·refine ⟨_,rfl,rfl,_,rfl,?_⟩
   refine ite2 (fun c3=>?_) (fun c3=>?_)
   ·exact q _
   ·exact ⟨_,rfl,rfl,q _⟩
theorem QW {K:PySem.W.Frag} {a:Addr} {xs:List V} {g:TG} {tb:TS} {D:Ends} {σ:L2.St} {H:Hp} (Pv:Nat→L2.St→Hp→Prop) (h0:Pv 0 σ H) (hl:∀ i σ H,i≤xs.length→Pv i σ H→SqL K H a xs)
  (hs:∀ (N B:L2.St→Hp→Prop) (i:Nat) (x:V) (σ:L2.St) (H:Hp),(∀ σ' H',Pv (i + 1) σ' H'→N σ' H')→xs[i]? = some x→Pv i σ H→g x σ H fun σ2 H2=>tb { D with nx:=N,ct:=N,bk:=B } σ2 H2) (hd:∀ σ H,Pv xs.length σ H→D.nx σ H) :
  ∃ W:Nat→Nat→L2.St→Hp→Prop,(∃ m,W 0 m σ H)∧∀ i m σ H,W i m σ H →
   ((Itl K a).stop i H∧D.nx σ H)∨((Itl K a).go i H∧∃ N:L2.St→Hp→Prop,(∀ σ' H',N σ' H'→∃ m',m' < m∧W (i + 1) m' σ' H')∧∀ x H',(Itl K a).yld i H x H'→g x σ H' fun σ2 H2=>tb { D with nx:=N,ct:=N,bk:=D.nx } σ2 H2) :=
 yT Pv h0 hl (fun i x σ H hx p=>hs (Pv (i + 1)) D.nx i x σ H (fun _ _ h=>h) hx p) hd
theorem Zx {lo:Int} {n:Nat} {g:TG} {tb:TS} {D:Ends} {σ:L2.St} {H:Hp} (Pv:Nat→L2.St→Hp→Prop) (h0:Pv 0 σ H)
  (hs:∀ (N B:L2.St→Hp→Prop) (i:Nat) (σ:L2.St) (H:Hp),(∀ σ' H',Pv (i + 1) σ' H'→N σ' H')→i < n→Pv i σ H→g (.int (lo + i)) σ H fun σ2 H2=>tb { D with nx:=N,ct:=N,bk:=B } σ2 H2) (hd:∀ σ H,Pv n σ H→D.nx σ H) :
  ∃ W:Nat→Nat→L2.St→Hp→Prop,(∃ m,W 0 m σ H)∧∀ i m σ H,W i m σ H →
   ((Itr lo n).stop i H∧D.nx σ H)∨((Itr lo n).go i H∧∃ N:L2.St→Hp→Prop,(∀ σ' H',N σ' H'→∃ m',m' < m∧W (i + 1) m' σ' H')∧∀ x H',(Itr lo n).yld i H x H'→g x σ H' fun σ2 H2=>tb { D with nx:=N,ct:=N,bk:=D.nx } σ2 H2) :=
 yz Pv h0 (fun i σ H hi p=>hs (Pv (i + 1)) D.nx i σ H (fun _ _ h=>h) hi p) hd
noncomputable def YO:Sp:=fun vs H Q _=>∃ (k:Int) (pc pz ps:Addr) (cs ss:List Int) (n m q:Nat),vs = [.int k,.ref pc,.ref pz,.ref ps]∧KindOk k∧H pc = some (.lst (cs.map V.int))∧cs≠[]∧H pz = some (.tup [.int (n:Int),.int (m:Int),.int (q:Int)])∧H ps = some (.lst (ss.map V.int))∧ss.length = n∧n≤10∧m≤10∧q≤10 ∧
 ∀ (A B C:List (List Nb)) (pt pr:Addr) (ts:List Addr) (rs:List (List Addr)) (at':Nat) (H':Hp),GrowTs H H' [A,B,C] ts rs→TW k n n 2 A→TW k n m 2 B→TW k q n 2 C→H' pt = some (.lst (ts.map V.ref))→H pt = none→pt∉ts→(∀ ras∈rs,pt∉ras)→H' pr = some (.tup [.ref pt,.int (at':Int)])→Q (.ref pr) H'
noncomputable def dimR (n m q j:Nat):Nat:=if j = 2 then q else n
noncomputable def dimC (n m q j:Nat):Nat:=if j = 1 then m else n
theorem zaJ (D:Df K mg "_law_blocked" ["_law_prime_here", "_law_cells", "_law_sizes", "_law_sorts_here"] xb) (yL:Kn P w K mg base "_law_make" 1 ["_law_prime_here", "_law_whole_here"] Zo) (ql:Kn P w K mg base "_law_small" 44 ["_law_prime_here", "_law_cells", "_law_k"] Xb) (za1:Kn P w K mg base "_law_lets" 1 ["_law_row", "_law_column"] zbC) (zt:mg "range" = none):Kn P w K mg base "_law_blocked" 45 ["_law_prime_here", "_law_cells", "_law_sizes", "_law_sorts_here"] YO:=by
 refine D.kn sc__law_blocked (fun vs H Q E h=>?_) (fun f cdv A' outer s' H vs Q E hr h=>?_)
 ·obtain ⟨k,pc,pz,ps,cs,ss,n,m,q,rfl,_⟩:=h; rfl
 obtain ⟨k,pc,pz,ps,cs,ss,n,m,qn,rfl,hk,hc,ne,hz,hs,ls,n10,m10,q10,q⟩:=h
 have szl:sizeLine = 16777216:=by decide
 refine ⟨_,(zc (jS (pv 2) (jh 3 rfl (zS (zh (i:=4) sc__law_blocked.nd rfl (.inl rfl)) (zS (zh (i:=5) sc__law_blocked.nd rfl (.inl rfl)) (zS (zh (i:=6) sc__law_blocked.nd rfl (.inl rfl)) xn))))) (zc (zm (i:=7) sc__law_blocked.nd rfl (.inr rfl) (zu yL (hr.mono (by decide)) rfl (za (pv 0) (za zb zd)))) (zc (zm (i:=8) sc__law_blocked.nd rfl (.inl rfl) (yC zd)) (zc (zm (i:=9) sc__law_blocked.nd rfl (.inr rfl) zb) (zc (yu PassesOwn.never rfl (zM (yC (za (yv (za (pv 4) (za (pv 4) zd))) (za (yv (za (pv 4) (za (pv 5) zd))) (za (yv (za (pv 6) (za (pv 4) zd))) zd))))) (jh 2 rfl (zS (zh (i:=10) sc__law_blocked.nd rfl (.inl rfl)) (zS (zh (i:=11) sc__law_blocked.nd rfl (.inr rfl)) xn))) (zc (zm (i:=12) sc__law_blocked.nd rfl (.inl rfl) (yC zd)) (zc (yu PassesOwn.never rfl (zR rfl zt (za (pv 10) zd)) (zh (i:=13) sc__law_blocked.nd rfl (.inr rfl)) (zg (qR (bm0 (fun _ h=>zcn PySem.F.plainAttrs_list PySem.F.slot_list_append PySem.F.type_list_append qh h (za (ya ["_law_j"] ["_law_prime_here", "_law_cells", "_law_at_here", "_law_i", "_law_columns_here"] [0,1,9,13,11] ⟨rfl,rfl,rfl,rfl,rfl,rfl,by decide +kernel⟩ rfl (zR rfl zt (za (pv 11) zd)) (zo (by decide)) fun _ _ _ _ _ _=>⟨(zh (i:=0) (by decide:(["_law_j", "_law_prime_here", "_law_cells", "_law_at_here", "_law_i", "_law_columns_here"]:List Str).Nodup) rfl (by first | exact Or.inl rfl | exact Or.inr rfl)),zQ,(zu ql (hr.mono (by decide)) rfl (za (pv 1) (za (pv 2) (za (zi yh (zi yh (pv 3) (zi zU (pv 4) (pv 5))) (pv 0)) zd))))⟩) zd)) (pv 12))))) (zc (qR (bm0 (fun _ h=>zcn PySem.F.plainAttrs_list PySem.F.slot_list_append PySem.F.type_list_append qh h (za (pv 12) zd)) (pv 8))) (zg (zm (i:=9) sc__law_blocked.nd rfl (.inr rfl) (zi yh (pv 9) (zi zU (pv 10) (pv 11))))))))) (zc (yu PassesOwn.never rfl (zR rfl zt (za (pv 4) zd)) (zh (i:=13) sc__law_blocked.nd rfl (.inr rfl)) (zc (yu PassesOwn.never rfl (zR rfl zt (za (pv 4) zd)) (zh (i:=14) sc__law_blocked.nd rfl (.inl rfl)) (zg (yi (jt (xH (zu za1 (hr.mono (by decide)) rfl (za (zE zp (pv 3) (pv 13) (fun _ _=>rfl)) (za (zE zp (pv 3) (pv 14) (fun _ _=>rfl)) zd))))) (zg (jS (pv 7) (ZV (zE zp (zE zp (pv 8) zb (fun _ _=>rfl)) (pv 13) (fun _ _=>rfl)) (pv 14) xN))) zL))) (zc (yi (zH Yj (zE zp (pv 3) (pv 13) (fun _ _=>rfl)) zb (nomark _)) (zg (jS (ya ["_law_j"] ["_law_nought"] [7] ⟨rfl,rfl,rfl,rfl,rfl,rfl,by decide +kernel⟩ rfl (zR rfl zt (za (pv 5) zd)) (zo (by decide)) fun _ _ _ _ _ _=>⟨(zh (i:=0) (by decide:(["_law_j", "_law_nought"]:List Str).Nodup) rfl (by first | exact Or.inl rfl | exact Or.inr rfl)),zQ,(pv 1)⟩) (ZV (zE zp (pv 8) zb (fun _ _=>rfl)) (pv 13) xN))) zL) (zg (yi (zH xt (zi zN (zE zp (pv 3) (pv 13) (fun _ _=>rfl)) zb) zb (nomark _)) (zg (yu PassesOwn.never rfl (zM (zE zp (pv 8) zb (fun _ _=>rfl))) (zh (i:=15) sc__law_blocked.nd rfl (.inl rfl)) (zg (jS (pv 7) (ZV (pv 15) (pv 13) xN))))) zL))))) (zg (zk (yv (za (pv 8) (za (pv 9) zd))))))))))),?_⟩
 refine ⟨_,rfl,pz,_,rfl,SqT.of hz,rfl,_,_,rfl,_,_,rfl,_,_,rfl,rfl,?_⟩
 refine ⟨_,rfl,k,0,rfl,hk,fun v0 H1 g1 r1=>?_⟩
 refine ⟨(by show 0≤sizeLine; decide),fun pt hpt=>?_⟩
 have ptH:H pt = none:=g1.none hpt
 have g2:=ze hpt (.lst [])
 have hpt2:upd H1 pt (.lst []) pt = some (.lst []):=zf
 have r2:=r1.mono g2
 have gH2:=g1.trans g2
 generalize upd H1 pt (.lst []) = H2 at *
 clear hpt r1
 refine ⟨_,rfl,_,rfl,(by show 2≤sizeLine; decide),fun q1 hq1=>?_⟩
 have g3:=ze hq1 (.tup [.int (n:Int),.int (n:Int)])
 have e1:upd H2 q1 (.tup [.int (n:Int),.int (n:Int)]) q1 = some (.tup [.int (n:Int),.int (n:Int)]):=zf
 generalize upd H2 q1 (.tup [.int (n:Int),.int (n:Int)]) = H3 at *
 refine ⟨_,rfl,_,rfl,(by show 2≤sizeLine; decide),fun q2 hq2=>?_⟩
 have g4:=ze hq2 (.tup [.int (n:Int),.int (m:Int)])
 have e2:upd H3 q2 (.tup [.int (n:Int),.int (m:Int)]) q2 = some (.tup [.int (n:Int),.int (m:Int)]):=zf
 generalize upd H3 q2 (.tup [.int (n:Int),.int (m:Int)]) = H4 at *
 refine ⟨_,rfl,_,rfl,(by show 2≤sizeLine; decide),fun q3 hq3=>?_⟩
 have g5:=ze hq3 (.tup [.int (qn:Int),.int (n:Int)])
 have e3:upd H4 q3 (.tup [.int (qn:Int),.int (n:Int)]) q3 = some (.tup [.int (qn:Int),.int (n:Int)]):=zf
 generalize upd H4 q3 (.tup [.int (qn:Int),.int (n:Int)]) = H5 at *
 refine ⟨(by show 3≤sizeLine; decide),fun pl hpl=>?_⟩
 have g6:=ze hpl (.lst [.ref q1,.ref q2,.ref q3])
 have e4:upd H5 pl (.lst [.ref q1,.ref q2,.ref q3]) pl = some (.lst [.ref q1,.ref q2,.ref q3]):=zf
 generalize upd H5 pl (.lst [.ref q1,.ref q2,.ref q3]) = H6 at *
 have hpt6:=g6 _ _ (g5 _ _ (g4 _ _ (g3 _ _ hpt2)))
 have npl:pl≠pt:=fun e=>by rw [e,g5 _ _ (g4 _ _ (g3 _ _ hpt2))] at hpl; cases hpl
 have nq1:q1≠pt:=fun e=>by rw [e,hpt2] at hq1; cases hq1
 have nq2:q2≠pt:=fun e=>by rw [e,g3 _ _ hpt2] at hq2; cases hq2
 have nq3:q3≠pt:=fun e=>by rw [e,g4 _ _ (g3 _ _ hpt2)] at hq3; cases hq3
 have gH6:=(((gH2.trans g3).trans g4).trans g5).trans g6
 have r6:=(((r2.mono g3).mono g4).mono g5).mono g6
 have f1:=g6 _ _ (g5 _ _ (g4 _ _ e1))
 have f2:=g6 _ _ (g5 _ _ e2)
 have f3:=g6 _ _ e3
 clear g1 g2 g3 g4 g5 g6 hq1 hq2 hq3 hpl e1 e2 e3 hpt2 gH2 r2
 refine ⟨pl,rfl,⟨_,SqL.of e4⟩,?_⟩
 refine QW (xs:=[.ref q1,.ref q2,.ref q3]) (fun i σ H'=>∃ Ms ts rs,∃ at':Nat,∃ o10 o11 o12 o13 o14 o15,σ = [some (.int k),some (.ref pc),some (.ref pz),some (.ref ps),some (.int (n:Int)),some (.int (m:Int)),some (.int (qn:Int)),some v0,some (.ref pt),some (.int (at':Int)),o10,o11,o12,o13,o14,o15]∧GrowTs H H' Ms ts rs∧Ms.length = i∧(∀ j M,Ms[j]? = some M→TW k (dimR n m qn j) (dimC n m qn j) 2 M)∧H' pt = some (.lst (ts.map V.ref))∧pt∉ts∧(∀ ras∈rs,pt∉ras)∧RN H' (nnum k 0) v0∧H' pl = some (.lst [.ref q1,.ref q2,.ref q3])∧H' q1 = some (.tup [.int (n:Int),.int (n:Int)])∧H' q2 = some (.tup [.int (n:Int),.int (m:Int)])∧H' q3 = some (.tup [.int (qn:Int),.int (n:Int)]))
  ⟨[],[],[],1,none,none,none,none,none,none,rfl,GrowTs.nil gH6,rfl,fun j M h=>by simp at h,hpt6,by simp,fun ras hr=>(nomatch hr),r6,e4,f1,f2,f3⟩ ?_ ?_ ?_
 ·rintro i σ H' _ ⟨Ms,ts,rs,at',o10,o11,o12,o13,o14,o15,rfl,G,lM,dM,hpt,nt,nr,r0,hl,_⟩
  exact SqL.of hl
 ·intro N1 B1 i v σ H7 hN1 hv
  rintro ⟨Ms,ts,rs,at',o10,o11,o12,o13,o14,o15,rfl,G,lM,dM,hpt7,nt,nr,r0,hl,h1,h2,h3⟩
  obtain ⟨qa,rows,cols,rfl,hqa,er,ec,rb,cb⟩ : ∃ qa rows cols,v = .ref qa∧H7 qa = some (.tup [.int ((rows:Nat):Int),.int ((cols:Nat):Int)])∧rows = dimR n m qn i∧cols = dimC n m qn i∧rows≤10∧cols≤10:=by
   match i,hv with
   | 0,hv=>cases hv; exact ⟨q1,n,n,rfl,h1,rfl,rfl,n10,n10⟩
   | 1,hv=>cases hv; exact ⟨q2,n,m,rfl,h2,rfl,rfl,n10,m10⟩
   | 2,hv=>cases hv; exact ⟨q3,qn,n,rfl,h3,rfl,rfl,q10,n10⟩
  refine ⟨qa,_,rfl,SqT.of hqa,rfl,_,_,rfl,_,_,rfl,rfl,?_⟩
  refine ⟨(by show 0≤sizeLine; decide),fun pto hpto=>?_⟩
  have hc7:=G.same _ _ hc
  refine ⟨_,rfl,rows,rfl,(by omega),(by omega),?_⟩
  rw [Int.toNat_natCast]
  refine Zx (lo:=0) (n:=rows) (fun j σ H'=>∃ M ras o13 o14 o15,σ = [some (.int k),some (.ref pc),some (.ref pz),some (.ref ps),some (.int (n:Int)),some (.int (m:Int)),some (.int (qn:Int)),some v0,some (.ref pt),some (.int (at':Int)),some (.int (rows:Int)),some (.int (cols:Int)),some (.ref pto),o13,o14,o15]∧Grow H7 H' M ras∧H' pto = some (.lst (ras.map V.ref))∧pto∉ras∧M.length = j∧La.OkM k cols M∧(∀ r∈M,∀ x∈r,whk k 2 x)) ⟨[],[],_,_,_,rfl,Grow.nil H7 (ze hpto _),zf,by simp,rfl,fun r hr=>(nomatch hr),fun r hr=>(nomatch hr)⟩ ?_ ?_
  ·intro N2 B2 j σ H8 hN2 hj
   rintro ⟨M,ras,o13,o14,o15,rfl,G8,hpt8,npt8,l8,o8,s8⟩
   refine ⟨_,rfl,.inl ⟨rfl,_,SqL.of hpt8⟩,_,rfl,cols,rfl,(by omega),(by omega),?_⟩
   rw [Int.toNat_natCast]
   have ci0:0≤(0 + (j:Int)) * (cols:Int):=Int.mul_nonneg (by omega) (by omega)
   refine yA (lo:=0) (n:=cols) (fun l ys' H9=>∃ xs,Same H8 H9∧Paired (RN H9) xs ys'∧xs.length = l∧La.OkR k xs∧∀ x∈xs,whk k 2 x) ⟨[],Same.refl _,.nil,rfl,fun x hx=>(nomatch hx),fun x hx=>(nomatch hx)⟩ ?_ ?_ ?_
   ·rintro l ys' H9 hl' ⟨xs,g9,pr9,lx,_⟩
    have:=zj pr9
    omega
   ·rintro l ys' H9 hl' ⟨xs,g9,pr9,lx,ox,sx⟩
    have hc9:H9 pc = some (.lst (cs.map V.int)):=g9 _ _ (G8.same _ _ hc7)
    first | refine gyes ?_ | refine tyes ?_
    refine ⟨_,rfl,_,rfl,_,rfl,_,rfl,_,rfl,_,_,rfl,rfl,jn (by omega) (by omega),_,_,rfl,rfl,_,rfl,_,_,rfl,rfl,k,pc,cs,((at':Int) + (0 + (j:Int)) * (cols:Int) + (0 + (l:Int))).toNat,_,rfl,(by omega),hk,hc9,ne,fun x v' H10 g10 xr xo xs2=>?_⟩
    refine nxt hl' ⟨xs ++ [x],g9.trans g10,yb (yO g10 pr9) xr,by rw [List.length_append,lx]; rfl,fun y hy=>?_,fun y hy=>?_⟩
    ·rcases List.mem_append.mp hy with h | h
     ·exact ox y h
     ·rw [List.mem_singleton.mp h]; exact xo
    ·rcases List.mem_append.mp hy with h | h
     ·exact sx y h
     ·rw [List.mem_singleton.mp h]; exact xs2
   ·rintro ys' H9 ⟨xs,g9,pr9,lx,ox,sx⟩ pn hpn
    have npn:pto≠pn:=fun e=>by rw [← e,g9 _ _ hpt8] at hpn; cases hpn
    refine ⟨pto,_,_,rfl,rfl,(by rw [zJ npn]; exact g9 _ _ hpt8),?_,?_⟩
    ·have:=zj G8.rows
     rw [List.length_map]; omega
    obtain ⟨G9,nm9⟩:=G8.push (zs':=(ras.map V.ref) ++ [.ref pn]) hpto hpt8 npt8 g9 hpn pr9
    refine hN2 _ _ ⟨M ++ [xs],ras ++ [pn],_,_,_,rfl,G9,?_,nm9,by rw [List.length_append,l8]; rfl,fun y hy=>?_,fun y hy=>?_⟩
    ·rw [zf,List.map_append]; rfl
    ·rcases List.mem_append.mp hy with h | h
     ·exact o8 y h
     ·rw [List.mem_singleton.mp h]; exact ⟨lx,ox⟩
    ·rcases List.mem_append.mp hy with h | h
     ·exact s8 y h
     ·rw [List.mem_singleton.mp h]; exact sx
  ·rintro σ H8 ⟨M,ras,o13,o14,o15,rfl,G8,hpt8,npt8,l8,o8,s8⟩
   have g8:=G8.same
   have hptb:H8 pt = some (.lst (ts.map V.ref)):=g8 _ _ hpt7
   have N8:NewT H7 H8 M pto ras:=⟨⟨hpt8,G8.rows⟩,hpto,G8.fr,G8.nd,npt8⟩
   have lts:=G.lt
   have hi3:i < 3:=(List.getElem?_eq_some_iff.mp hv).1
   refine ⟨_,rfl,.inl ⟨rfl,_,SqL.of hptb⟩,_,rfl,pt,_,_,rfl,rfl,hptb,(by rw [List.length_map]; omega),?_⟩
   have nt8:pt≠pto:=fun e=>by have:=hpto; rw [← e,hpt7] at this; cases this
   have nr8:pt∉ras:=fun hm=>by have:=G8.fr _ hm; rw [hpt7] at this; cases this
   have nts:pt∉ts ++ [pto]:=fun hm=>by
    rcases List.mem_append.mp hm with h | h
    ·exact nt h
    ·exact nt8 (List.mem_singleton.mp h)
   have nrs:∀ x∈rs ++ [ras],pt∉x:=fun x hm=>by
    rcases List.mem_append.mp hm with h | h
    ·exact nr x h
    ·rw [List.mem_singleton.mp h]; exact nr8
   have G9:=(G.push g8 N8).updAt (zs':=(ts.map V.ref) ++ [.ref pto]) ptH hptb nts nrs
   refine ⟨_,rfl,_,rfl,_,rfl,_,_,rfl,rfl,jn (by omega) (by omega),_,_,rfl,rfl,hN1 _ _ ⟨Ms ++ [M],ts ++ [pto],rs ++ [ras],at' + rows * cols,some (.int (rows:Int)),some (.int (cols:Int)),some (.ref pto),o13,o14,o15,?_,G9,by rw [List.length_append,lM]; rfl,fun j M' hj=>?_,by rw [zf,List.map_append]; rfl,nts,nrs,(r0.mono g8).upd hptb,by rw [zJ npl]; exact g8 _ _ hl,by rw [zJ nq1]; exact g8 _ _ h1,by rw [zJ nq2]; exact g8 _ _ h2,by rw [zJ nq3]; exact g8 _ _ h3⟩⟩
   ·rw [show ((at' + rows * cols:Nat):Int) = (at':Int) + (rows:Int) * (cols:Int) by rw [Int.natCast_add,Int.natCast_mul]]
    rfl
   ·rcases Nat.lt_or_ge j Ms.length with h | h
    ·rw [List.getElem?_append_left h] at hj
     exact dM j M' hj
    ·have e:j = Ms.length:=by
      have:=(List.getElem?_eq_some_iff.mp hj).1
      simp at this; omega
     subst e
     rw [List.getElem?_append_right (Nat.le_refl _),Nat.sub_self] at hj
     cases hj
     rw [lM,← er,← ec]
     exact ⟨l8,o8,s8⟩
 rintro σ H7 ⟨Ms,ts,rs,at',o10,o11,o12,o13,o14,o15,rfl,G,lM,dM,hpt7,nt,nr,r0,_⟩
 obtain ⟨A,B,C,rfl⟩ : ∃ A B C,Ms = [A,B,C]:=by
  match Ms,lM with
  | [A,B,C],_=>exact ⟨A,B,C,rfl⟩
 have tA:TW k n n 2 A:=dM 0 A rfl
 have tB:TW k n m 2 B:=dM 1 B rfl
 have tC:TW k qn n 2 C:=dM 2 C rfl
 obtain ⟨ta,tb,tc,rfl⟩ : ∃ ta tb tc,ts = [ta,tb,tc]:=by
  match ts,G.lt with
  | [ta,tb,tc],_=>exact ⟨ta,tb,tc,rfl⟩
 clear dM lM e4 f1 f2 f3 hpt6 npl nq1 nq2 nq3 r6 gH6
 have z0:(nnum k 0).ok k:=La.zI hk 0
 have zs:whk k 2 (nnum k 0):=fun _=>⟨0,rfl,by decide⟩
 refine ⟨_,rfl,n,rfl,(by omega),(by omega),?_⟩
 rw [Int.toNat_natCast]
 refine Zx (lo:=0) (n:=n) (fun i σ H'=>∃ A B C rs o10 o11 o12 o13 o14 o15,σ = [some (.int k),some (.ref pc),some (.ref pz),some (.ref ps),some (.int (n:Int)),some (.int (m:Int)),some (.int (qn:Int)),some v0,some (.ref pt),some (.int (at':Int)),o10,o11,o12,o13,o14,o15]∧GrowTs H H' [A,B,C] [ta,tb,tc] rs∧TW k n n 2 A∧TW k n m 2 B∧TW k qn n 2 C∧H' pt = some (.lst [.ref ta,.ref tb,.ref tc])∧(∀ ras∈rs,pt∉ras)∧RN H' (nnum k 0) v0) ⟨A,B,C,rs,_,_,_,_,_,_,rfl,G,tA,tB,tC,hpt7,nr,r0⟩ ?_ ?_
 ·clear G tA tB tC hpt7 nr r0
  intro N4 B4 i σ H8 hN4 hi
  rintro ⟨A,B,C,rs,o10,o11,o12,o13,o14,o15,rfl,G,tA,tB,tC,hpt8,nr,r0⟩
  have hss:(ss.map V.int)[i]? = some (.int ss[i]):=by rw [List.getElem?_map,List.getElem?_eq_getElem (by omega)]; rfl
  refine ⟨_,rfl,n,rfl,(by omega),(by omega),?_⟩
  rw [Int.toNat_natCast]
  refine Zx (lo:=0) (n:=n) (fun j σ H'=>∃ A o14 o15,σ = [some (.int k),some (.ref pc),some (.ref pz),some (.ref ps),some (.int (n:Int)),some (.int (m:Int)),some (.int (qn:Int)),some v0,some (.ref pt),some (.int (at':Int)),o10,o11,o12,some (.int (0 + (i:Int))),o14,o15]∧GrowTs H H' [A,B,C] [ta,tb,tc] rs∧TW k n n 2 A∧H' pt = some (.lst [.ref ta,.ref tb,.ref tc])∧RN H' (nnum k 0) v0) ⟨A,_,_,rfl,G,tA,hpt8,r0⟩ ?_ ?_
  ·clear G tA hpt8 r0
   intro N5 B5 j σ H9 hN5 hj
   rintro ⟨A,o14,o15,rfl,G,tA,hpt9,r0⟩
   have hs9:=G.same _ _ hs
   have hsj:(ss.map V.int)[j]? = some (.int ss[j]):=by rw [List.getElem?_map,List.getElem?_eq_getElem (by omega)]; rfl
   refine ⟨_,rfl,_,rfl,ps,_,_,_,rfl,rfl,SqL.of hs9,(by rw [Int.zero_add]; exact zK hss),_,rfl,_,rfl,ps,_,_,_,rfl,rfl,SqL.of hs9,(by rw [Int.zero_add]; exact zK hsj),_,_,rfl,fun cb=>⟨_,rfl,?_⟩⟩
   refine ite2 (fun cc=>?_) (fun cc=>?_)
   ·obtain ⟨M',t',ras,e1,e2,e3,hT⟩:=G.get (i:=0) (by simp)
    cases e1; cases e2
    have lra:=zj hT.2
    rw [tA.len] at lra
    have hi':ras[i]? = some ras[i]:=List.getElem?_eq_getElem (by omega)
    obtain ⟨row,hrow,hR⟩:=zW hT.2 hi'
    obtain ⟨us,hu,pu,lu⟩:=hR.len
    have orow:=tA.ok row (List.mem_of_getElem? hrow)
    have nra:ras[i]≠pt:=fun e=>nr ras (List.mem_of_getElem? e3) (by rw [← e]; exact List.getElem_mem _)
    refine ⟨_,rfl,_,rfl,pt,_,_,_,rfl,rfl,SqL.of hpt9,zK (j:=0) rfl,_,rfl,ta,_,_,_,rfl,rfl,SqL.of hT.1,(by rw [Int.zero_add]; exact zK (by rw [List.getElem?_map,hi']; rfl)),_,rfl,ras[i],us,_,j,rfl,rfl,hu,(by rw [Int.zero_add]; exact jW (by rw [lu,orow.1]; exact hj)),?_⟩
    refine hN5 _ _ ⟨A.set i (row.set j (nnum k 0)),_,_,rfl,G.setRow (i:=0) rfl e3 hi' hu (zay pu j r0),tA.set (by rw [List.length_set]; exact orow.1) (fun x hx=>?_) (fun x hx=>?_),by rw [zJ (Ne.symm nra)]; exact hpt9,r0.upd hu⟩
    ·rcases La.yc hx with e | e
     ·rw [e]; exact z0
     ·exact orow.2 x e
    ·rcases La.yc hx with e | e
     ·rw [e]; exact zs
     ·exact tA.sz row (List.mem_of_getElem? hrow) x e
   ·exact hN5 _ _ ⟨A,_,_,rfl,G,tA,hpt9,r0⟩
  clear G tA hpt8 r0
  rintro σ H9 ⟨A,o14,o15,rfl,G,tA,hpt9,r0⟩
  have hs9:=G.same _ _ hs
  try dsimp only
  refine QM (fun σ H'=>∃ B rs o14,σ = [some (.int k),some (.ref pc),some (.ref pz),some (.ref ps),some (.int (n:Int)),some (.int (m:Int)),some (.int (qn:Int)),some v0,some (.ref pt),some (.int (at':Int)),o10,o11,o12,some (.int (0 + (i:Int))),o14,o15]∧GrowTs H H' [A,B,C] [ta,tb,tc] rs∧TW k n m 2 B∧H' pt = some (.lst [.ref ta,.ref tb,.ref tc])∧(∀ ras∈rs,pt∉ras)∧RN H' (nnum k 0) v0) ?_ ?_
  rotate_left
  ·intro hN
   refine ⟨_,rfl,_,rfl,ps,_,_,_,rfl,rfl,SqL.of hs9,(by rw [Int.zero_add]; exact zK hss),_,_,rfl,rfl,_,rfl,?_⟩
   refine ite2 (fun cc=>?_) (fun cc=>?_)
   ·refine ⟨_,rfl,m,rfl,(by omega),(by omega),?_⟩
    rw [Int.toNat_natCast]
    refine yA (lo:=0) (n:=m) (fun l ys' H'=>H' = H9∧ys' = List.replicate l v0) ⟨rfl,rfl⟩ ?_ ?_ ?_
    ·rintro l ys' H' hl' ⟨rfl,rfl⟩
     rw [List.length_replicate]; omega
    ·rintro l ys' H' hl' ⟨rfl,rfl⟩
     first | refine gyes ?_ | refine tyes ?_
     exact ⟨_,rfl,nxt hl' ⟨rfl,by rw [List.replicate_succ']⟩⟩
    ·rintro ys' H' ⟨rfl,rfl⟩ pn hpn
     have g10:=ze hpn (.lst (List.replicate m v0))
     have R10:RowAt (upd H' pn (.lst (List.replicate m v0))) (List.replicate m (nnum k 0)) pn:=⟨_,zf,QS (r0.mono g10) m⟩
     have G10:=G.mono g10
     have hpt10:=g10 _ _ hpt9
     have npn:pn∉[ta,tb,tc]:=fun hm=>by obtain ⟨o,ho⟩:=G.tsome hm; rw [hpn] at ho; cases ho
     have nrn:∀ ras∈rs,pn∉ras:=fun ras hr hm=>by obtain ⟨o,ho⟩:=G.rsome hr hm; rw [hpn] at ho; cases ho
     have fpn:H pn = none:=G.same.none hpn
     have r10:=r0.mono g10
     have ptn:pt≠pn:=fun e=>by rw [← e,hpt9] at hpn; cases hpn
     generalize upd H' pn (.lst (List.replicate m v0)) = H10 at *
     obtain ⟨M',t',ras,e1,e2,e3,hT⟩:=G10.get (i:=1) (by simp)
     cases e1; cases e2
     have lra:=zj hT.2
     rw [tB.len] at lra
     have hi':i < ras.length:=by omega
     refine ⟨_,rfl,pt,_,_,_,rfl,rfl,SqL.of hpt10,zK (j:=1) rfl,_,rfl,tb,_,_,i,rfl,rfl,hT.1,(by rw [Int.zero_add]; exact jW (by rw [List.length_map]; exact hi')),?_⟩
     have G11:=G10.setSlot (i:=1) (j:=i) rfl rfl e3 hi' R10 fpn npn nrn
     rw [List.map_set] at G11
     have ntb:pt≠tb:=fun e=>nt (by rw [e]; simp)
     refine hN _ _ ⟨B.set i (List.replicate m (nnum k 0)),rs.set 1 (ras.set i pn),_,rfl,G11,tB.set (by rw [List.length_replicate]) (fun x hx=>by rw [List.eq_of_mem_replicate hx]; exact z0) (fun x hx=>by rw [List.eq_of_mem_replicate hx]; exact zs),by rw [zJ ntb]; exact hpt10,fun x hx hm=>?_,r10.upd hT.1⟩
     rcases La.yc hx with e | e
     ·rw [e] at hm
      rcases La.yc hm with e' | e'
      ·exact ptn e'
      ·exact nr ras (List.mem_of_getElem? e3) e'
     ·exact nr x e hm
   ·exact hN _ _ ⟨B,rs,_,rfl,G,tB,hpt9,nr,r0⟩
  clear G tB hpt9 nr r0 hs9
  rintro σ H10 ⟨B,rs,o14,rfl,G,tB,hpt10,nr,r0⟩
  have hs10:=G.same _ _ hs
  refine ⟨_,rfl,_,rfl,ps,_,_,_,rfl,rfl,SqL.of hs10,(by rw [Int.zero_add]; exact zK hss),_,_,rfl,rfl,(by show (2:Int)≠0; decide),rfl,_,rfl,?_⟩
  refine ite2 (fun cc=>?_) (fun cc=>?_)
  ·obtain ⟨M',t',ras,e1,e2,e3,hT⟩:=G.get (i:=2) (by simp)
   cases e1; cases e2
   have lra:=zj hT.2
   rw [tC.len] at lra
   refine ⟨_,rfl,pt,_,_,_,rfl,rfl,SqL.of hpt10,zK (j:=2) rfl,tc,rfl,⟨_,SqL.of hT.1⟩,?_⟩
   refine QW (xs:=ras.map V.ref) (fun l σ H'=>∃ C o15,σ = [some (.int k),some (.ref pc),some (.ref pz),some (.ref ps),some (.int (n:Int)),some (.int (m:Int)),some (.int (qn:Int)),some v0,some (.ref pt),some (.int (at':Int)),o10,o11,o12,some (.int (0 + (i:Int))),o14,o15]∧GrowTs H H' [A,B,C] [ta,tb,tc] rs∧TW k qn n 2 C∧H' pt = some (.lst [.ref ta,.ref tb,.ref tc])∧RN H' (nnum k 0) v0) ⟨C,_,rfl,G,tC,hpt10,r0⟩ ?_ ?_ ?_
   ·rintro l σ H' _ ⟨C,o15,rfl,G,_⟩
    exact SqL.of (G.tabs 2 C tc ras rfl rfl e3).1
   ·clear G tC hpt10 r0 hT
    intro N6 B6 l v σ H' hN6 hv
    rintro ⟨C,o15,rfl,G,tC,hptl,r0⟩
    have hT:=G.tabs 2 C tc ras rfl rfl e3
    obtain ⟨row,ar,hrow,har,rfl,hR⟩:=hT.row hv
    obtain ⟨us,hu,pu,lu⟩:=hR.len
    have orow:=tC.ok row (List.mem_of_getElem? hrow)
    have nra:ar≠pt:=fun e=>nr ras (List.mem_of_getElem? e3) (by rw [← e]; exact List.mem_of_getElem? har)
    refine ⟨_,rfl,_,rfl,_,rfl,ar,us,_,i,rfl,rfl,hu,(by rw [Int.zero_add]; exact jW (by rw [lu,orow.1]; exact hi)),?_⟩
    refine hN6 _ _ ⟨C.set l (row.set i (nnum k 0)),_,rfl,G.setRow (i:=2) rfl e3 har hu (zay pu i r0),tC.set (by rw [List.length_set]; exact orow.1) (fun x hx=>?_) (fun x hx=>?_),by rw [zJ (Ne.symm nra)]; exact hptl,r0.upd hu⟩
    ·rcases La.yc hx with e | e
     ·rw [e]; exact z0
     ·exact orow.2 x e
    ·rcases La.yc hx with e | e
     ·rw [e]; exact zs
     ·exact tC.sz row (List.mem_of_getElem? hrow) x e
   ·rintro σ H' ⟨C,o15,rfl,G,tC,hptl,r0⟩
    exact hN4 _ _ ⟨A,B,C,rs,_,_,_,_,_,_,rfl,G,tA,tB,tC,hptl,nr,r0⟩
  ·exact hN4 _ _ ⟨A,B,C,rs,_,_,_,_,_,_,rfl,G,tA,tB,tC,hpt10,nr,r0⟩
 ·rintro σ H8 ⟨A,B,C,rs,o10,o11,o12,o13,o14,o15,rfl,G,tA,tB,tC,hpt8,nr,r0⟩
  refine ⟨_,rfl,_,rfl,(by show 2≤sizeLine; decide),fun pr hpr=>?_⟩
  have g9:=ze hpr (.tup [.ref pt,.int (at':Int)])
  exact q A B C pt pr [ta,tb,tc] rs at' _ (G.mono g9) tA tB tC (g9 _ _ hpt8) ptH nt nr zf
theorem zfd {α:Type} {l:List α} {i:Nat} {x:α} (h:l[i]? = some x):l.set i x = l:=by
 refine List.ext_getElem? fun j=>?_
 rw [List.getElem?_set]
 by_cases e:i = j
 ·subst e; rw [if_pos rfl,if_pos (List.getElem?_eq_some_iff.mp h).1,h]
 ·rw [if_neg e]
noncomputable def TWs (k:Int) (n m q:Nat) (f:Nat→Nat) (Ms:List (List (List Nb))):Prop:=Ms.length = 3∧∀ (I:Nat) (M:List (List Nb)),Ms[I]? = some M→TW k (dimR n m q I) (dimC n m q I) (f I) M
theorem TWs.up {k:Int} {n m q:Nat} {f g:Nat→Nat} {Ms:List (List (List Nb))} (h:TWs k n m q f Ms) (hf:∀ I,f I≤g I):TWs k n m q g Ms:=⟨h.1,fun I M hM=>(h.2 I M hM).up (hf I)⟩
theorem TWs.set {k:Int} {n m q J:Nat} {f g:Nat→Nat} {Ms:List (List (List Nb))} {M':List (List Nb)} (h:TWs k n m q f Ms) (hM:TW k (dimR n m q J) (dimC n m q J) (g J) M') (hf:∀ I,I≠J→f I≤g I):TWs k n m q g (Ms.set J M'):=by
 refine ⟨by rw [List.length_set]; exact h.1,fun I M e=>?_⟩
 by_cases c:I = J
 ·subst c
  have hl:I < Ms.length:=by have:=(List.getElem?_eq_some_iff.mp e).1; rw [List.length_set] at this; exact this
  rw [List.getElem?_set,if_pos rfl,if_pos hl] at e
  cases e
  exact hM
 ·rw [List.getElem?_set,if_neg (Ne.symm c)] at e
  exact (h.2 I M e).up (hf I c)
noncomputable def zbY:Sp:=fun vs H Q _=>∃ (k c:Int) (Ms:List (List (List Nb))) (H0:Hp) (ts:List Addr) (pt:Addr) (rs:List (List Addr)) (n m q z:Nat),vs = [.int k,.ref pt,.int c]∧KindOk k∧GrowTs H0 H Ms ts rs∧TWs k n m q (fun _=>z) Ms∧H pt = some (.lst (ts.map V.ref))∧(∀ ras∈rs,pt∉ras)∧pt∉ts∧1≤n∧n≤10∧m≤10∧q≤10∧z≤1000 ∧
 ∀ (Ms':List (List (List Nb))) (rs':List (List Addr)) (H':Hp),GrowTs H0 H' Ms' ts rs'→TWs k n m q (fun _=>z + 6) Ms'→H' pt = some (.lst (ts.map V.ref))→(∀ ras∈rs',pt∉ras)→Q .non H'
theorem pick3 {m:Int} (h0:0≤m) (h1:m < 3):∃ w:Int,atI [V.int 1,V.int (-1),V.int 2] m = some (.int w)∧(w = 1∨w = -1∨w = 2):=by
 rcases (show m = 0∨m = 1∨m = 2 by omega) with rfl | rfl | rfl
 ·exact ⟨1,rfl,by simp⟩
 ·exact ⟨-1,rfl,by simp⟩
 ·exact ⟨2,rfl,by simp⟩
theorem zfy (hP:P.given.tree = none) (hS:base.NoSeer) (D:Df K mg "_law_exchanged" ["_law_prime_here", "_law_tables", "_law_cell"] yH) (yL:Kn P w K mg base "_law_make" 1 ["_law_prime_here", "_law_whole_here"] Zo) (yg:Kn P w K mg base "_law_plus" 42 ["_law_prime_here", "_law_one", "_law_other"] (xv nadd)) (zX:Kn P w K mg base "_law_times" 42 ["_law_prime_here", "_law_one", "_law_other"] (xv nmul)) (zai:Kn P w K mg base "_law_minus" 43 ["_law_prime_here", "_law_one", "_law_other"] zah) (m_len:mg "len" = none) (m_zip:mg "zip" = none):Kn P w K mg base "_law_exchanged" 44 ["_law_prime_here", "_law_tables", "_law_cell"] zbY:=by
 refine D.kn sc__law_exchanged (fun vs H Q E h=>?_) (fun f cdv A' outer s' H vs Q E hr h=>?_)
 ·obtain ⟨k,c,Ms,H0,ts,pt,rs,n,m,q,z,rfl,_⟩:=h; rfl
 obtain ⟨k,c,Ms,H0,ts,pt,rs,n,m,qn,z,rfl,hk,G,tM,hpt,nr,nt,n1,n10,m10,q10,z1000,q⟩:=h
 have szl:sizeLine = 16777216:=by decide
 have kl:=hk.lt
 have lM3:=tM.1
 obtain ⟨ta,tb,tc,rfl⟩ : ∃ ta tb tc,ts = [ta,tb,tc]:=by
  match ts,(G.lt.trans lM3) with
  | [ta,tb,tc],_=>exact ⟨ta,tb,tc,rfl⟩
 refine ⟨_,(zc (zm (i:=3) sc__law_exchanged.nd rfl (.inl rfl) (zG zP rfl m_len yt (za (zE zp (pv 1) zb (fun _ _=>rfl)) zd))) (zc (zm (i:=4) sc__law_exchanged.nd rfl (.inl rfl) (zi zN (pv 2) (pv 3))) (zg (yi (zH Yj (pv 3) zb (nomark _)) (zc (zm (i:=5) sc__law_exchanged.nd rfl (.inl rfl) (zi zN (zi yh (zi yh (pv 4) zb) (zi zN (zi (zV hr (by decide) hP hS ⟨_,_,rfl,rfl,rfl,rfl,rfl⟩) (pv 2) zb) (zi xG (pv 3) zb))) (pv 3))) (zc (zm (i:=6) sc__law_exchanged.nd rfl (.inr rfl) (zu yL (hr.mono (by decide)) rfl (za (pv 0) (za (zE zp (yC (za zb (za (zgA zd1 zb) (za zb zd)))) (zi zN (zi (zV hr (by decide) hP hS ⟨_,_,rfl,rfl,rfl,rfl,rfl⟩) (pv 2) zb) zb) (fun _ _=>rfl)) zd)))) (zc (yi (zH Yj (pv 0) zb (nomark _)) (zg (zm (i:=6) sc__law_exchanged.nd rfl (.inr rfl) (zi zN (zi (zV hr (by decide) hP hS ⟨_,_,rfl,rfl,rfl,rfl,rfl⟩) (pv 2) zb) (pv 0)))) zL) (zc (jS (pv 1) (zhk 3 rfl (zS (zh (i:=7) sc__law_exchanged.nd rfl (.inl rfl)) (zS (zh (i:=8) sc__law_exchanged.nd rfl (.inl rfl)) (zS (zh (i:=9) sc__law_exchanged.nd rfl (.inl rfl)) xn))))) (zc (yu PassesOwn.never rfl (zM (yC (za (pv 7) (za (pv 8) zd)))) (zh (i:=10) sc__law_exchanged.nd rfl (.inl rfl)) (zg (jS (ya ["_law_x", "_law_y"] ["_law_prime_here", "_law_c"] [0,6] ⟨rfl,rfl,rfl,rfl,rfl,rfl,by decide +kernel⟩ rfl (qJ rfl m_zip (za (zE zp (pv 10) (pv 4) (fun _ _=>rfl)) (za (zE zp (pv 10) (pv 5) (fun _ _=>rfl)) zd))) (qr (yj (zo (by decide)) yk (yj (zo (by decide)) yk jq))) fun _ _ _ _ _ _=>⟨(jh 2 rfl (zS (zh (i:=0) (by decide:(["_law_x", "_law_y", "_law_prime_here", "_law_c"]:List Str).Nodup) rfl (by first | exact Or.inl rfl | exact Or.inr rfl)) (zS (zh (i:=1) (by decide:(["_law_x", "_law_y", "_law_prime_here", "_law_c"]:List Str).Nodup) rfl (by first | exact Or.inl rfl | exact Or.inr rfl)) xn))),zQ,(zu yg (hr.mono (by decide)) rfl (za (pv 2) (za (pv 0) (za (zu zX (hr.mono (by decide)) rfl (za (pv 2) (za (pv 3) (za (pv 1) zd)))) zd))))⟩) (ZV (pv 10) (pv 4) xN)))) (zg (yu PassesOwn.never rfl (zM (yC (za (pv 7) (za (pv 9) zd)))) (zh (i:=10) sc__law_exchanged.nd rfl (.inl rfl)) (zg (yu PassesOwn.never rfl (zM (pv 10)) (zh (i:=11) sc__law_exchanged.nd rfl (.inl rfl)) (zg (jS (zu zai (hr.mono (by decide)) rfl (za (pv 0) (za (zE zp (pv 11) (pv 5) (fun _ _=>rfl)) (za (zu zX (hr.mono (by decide)) rfl (za (pv 0) (za (pv 6) (za (zE zp (pv 11) (pv 4) (fun _ _=>rfl)) zd)))) zd)))) (ZV (pv 11) (pv 5) xN)))))))))))) zL)))),?_⟩
 obtain ⟨M0,t0,ra,e1,e2,ea,hTa⟩:=G.get (i:=0) (by omega)
 cases e2
 have lra:=zj hTa.2
 rw [(tM.2 0 M0 e1).len] at lra
 replace lra:n = ra.length:=lra
 refine ⟨_,rfl,pt,_,_,.ref ta,rfl,rfl,SqL.of hpt,zK (j:=0) rfl,ta,_,rfl,.inl (SqL.of hTa.1),?_⟩
 rw [List.length_map,← lra]
 refine ⟨_,rfl,_,rfl,_,_,rfl,rfl,(by show (n:Int)≠0; omega),?_⟩
 have i0:=Int.fmod_nonneg_of_pos c (show (0:Int) < (n:Int) by omega)
 have i1:=Int.fmod_lt_of_pos c (show (0:Int) < (n:Int) by omega)
 try dsimp only
 generalize c.fmod (n:Int) = iI at *
 obtain ⟨i,rfl⟩:=Int.eq_ofNat_of_zero_le i0
 have hi:i < n:=by omega
 clear hTa ea lra e1
 refine ⟨_,rfl,_,_,rfl,rfl,_,rfl,?_⟩
 refine ite2 (fun cn=>?_) (fun cn=>?_)
 rotate_left
 ·exact q Ms rs H G (tM.up fun _=>by omega) hpt nr
 have n2:(1:Int) < (n:Int):=of_decide_eq_true cn
 refine ⟨_,rfl,_,_,rfl,rfl,_,rfl,_,_,rfl,rfl,(by show (5:Int)≠0; decide),_,rfl,_,_,rfl,rfl,_,_,rfl,rfl,(by show (n:Int) - 1≠0; omega),_,_,rfl,rfl,_,rfl,_,_,rfl,rfl,(by show (n:Int)≠0; omega),?_⟩
 try dsimp only
 have j0:=Int.fmod_nonneg_of_pos ((i:Int) + 1 + (c.fdiv 5).fmod ((n:Int) - 1)) (show (0:Int) < (n:Int) by omega)
 have j1:=Int.fmod_lt_of_pos ((i:Int) + 1 + (c.fdiv 5).fmod ((n:Int) - 1)) (show (0:Int) < (n:Int) by omega)
 generalize ((i:Int) + 1 + (c.fdiv 5).fmod ((n:Int) - 1)).fmod (n:Int) = jI at *
 obtain ⟨j,rfl⟩:=Int.eq_ofNat_of_zero_le j0
 have hj:j < n:=by omega
 refine ⟨_,rfl,_,rfl,(by show 3≤sizeLine; decide),fun p3 hp3=>?_⟩
 obtain ⟨w3,ew,hw⟩:=pick3 (Int.fmod_nonneg_of_pos (c.fdiv 20) (show (0:Int) < 3 by decide)) (Int.fmod_lt_of_pos (c.fdiv 20) (show (0:Int) < 3 by decide))
 have g3:=ze hp3 (.lst [V.int 1,V.int (-1),V.int 2])
 refine ⟨_,rfl,_,_,rfl,rfl,(by show (20:Int)≠0; decide),_,_,rfl,rfl,(by show (3:Int)≠0; decide),p3,_,_,.int w3,rfl,rfl,SqL.of zf,ew,k,w3,rfl,hk,fun vc H4 g4 rc=>?_⟩
 have g34:=g3.trans g4
 generalize upd H p3 (.lst [V.int 1,V.int (-1),V.int 2]) = H3 at *
 clear hp3 g3 g4 ew
 have sw:whk k 2 (nnum k w3):=fun k0=>⟨w3,rfl,by
  have:(2:Nat) ^ 2 = 4:=by decide
  omega⟩
 try dsimp only
 refine QM (fun σ H'=>∃ x v o7 o8 o9 o10 o11,σ = [some (.int k),some (.ref pt),some (.int c),some (.int (n:Int)),some (.int (i:Int)),some (.int (j:Int)),some v,o7,o8,o9,o10,o11]∧x.ok k∧whk k 2 x∧RN H' x v∧H' = H4) ?_ ?_
 rotate_left
 ·intro hN
  refine ⟨_,rfl,_,_,rfl,rfl,_,rfl,?_⟩
  refine ite2 (fun ck=>?_) (fun ck=>?_)
  ·have k0:0 < k:=of_decide_eq_true ck
   exact ⟨_,rfl,_,_,rfl,rfl,(by show (20:Int)≠0; decide),_,rfl,_,_,rfl,rfl,(show k≠0 by omega),hN _ _ ⟨.z _,_,_,_,_,_,_,rfl,⟨by omega,Int.fmod_nonneg_of_pos _ k0,Int.fmod_lt_of_pos _ k0⟩,fun e=>by omega,RN.of_z,rfl⟩⟩
  ·exact hN _ _ ⟨nnum k w3,vc,_,_,_,_,_,rfl,La.zI hk w3,sw,rc,rfl⟩
 clear rc sw hw
 rintro σ H4' ⟨x,vc,o7,o8,o9,o10,o11,rfl,ox,sx,rc,rfl⟩
 replace G:=G.mono g34
 replace hpt:=g34 _ _ hpt
 clear g34
 refine ⟨_,rfl,pt,_,rfl,SqL.of hpt,rfl,_,_,rfl,_,_,rfl,_,_,rfl,rfl,?_⟩
 refine ⟨_,rfl,_,rfl,(by show 2≤sizeLine; decide),fun pl hpl=>?_⟩
 have g5:=ze hpl (.lst [.ref ta,.ref tb])
 have hl5:upd H4' pl (.lst [.ref ta,.ref tb]) pl = some (.lst [.ref ta,.ref tb]):=zf
 have nlt:pl∉[ta,tb,tc]:=fun hm=>by obtain ⟨o,ho⟩:=G.tsome hm; rw [hpl] at ho; cases ho
 have nlr:∀ ras∈rs,pl∉ras:=fun ras hr hm=>by obtain ⟨o,ho⟩:=G.rsome hr hm; rw [hpl] at ho; cases ho
 replace G:=G.mono g5
 replace hpt:=g5 _ _ hpt
 replace rc:=rc.mono g5
 generalize upd H4' pl (.lst [.ref ta,.ref tb]) = H5 at *
 clear g5 hpl
 refine ⟨pl,rfl,⟨_,SqL.of hl5⟩,?_⟩
 refine yT (xs:=[.ref ta,.ref tb]) (fun l σ H'=>∃ Ms rs o10 o11,σ = [some (.int k),some (.ref pt),some (.int c),some (.int (n:Int)),some (.int (i:Int)),some (.int (j:Int)),some vc,some (.ref ta),some (.ref tb),some (.ref tc),o10,o11]∧GrowTs H0 H' Ms [ta,tb,tc] rs∧TWs k n m qn (fun I=>if I < l then z + 3 else z) Ms∧H' pt = some (.lst [.ref ta,.ref tb,.ref tc])∧(∀ ras∈rs,pt∉ras)∧H' pl = some (.lst [.ref ta,.ref tb])∧(∀ ras∈rs,pl∉ras)∧RN H' x vc) ⟨Ms,rs,_,_,rfl,G,tM.up fun I=>by rw [if_neg (Nat.not_lt_zero I)]; exact Nat.le_refl _,hpt,nr,hl5,nlr,rc⟩ ?_ ?_ ?_
 ·rintro l σ H' _ ⟨Ms,rs,o10,o11,rfl,_,_,_,_,hl',_⟩
  exact SqL.of hl'
 ·clear G tM hpt nr hl5 nlr rc lM3
  rintro l v σ H6 hv ⟨Ms,rs,o10,o11,rfl,G,tM,hpt,nr,hl6,nlr,rc⟩
  have l2:l < 2:=(List.getElem?_eq_some_iff.mp hv).1
  obtain ⟨t,rfl,ht⟩ : ∃ t,v = .ref t∧[ta,tb,tc][l]? = some t:=by
   match l,hv with
   | 0,hv=>cases hv; exact ⟨ta,rfl,rfl⟩
   | 1,hv=>cases hv; exact ⟨tb,rfl,rfl⟩
  obtain ⟨M,t',ras,eM,e2,er,hT⟩:=G.get (i:=l) (by rw [tM.1]; omega)
  rw [ht] at e2
  cases e2
  have tk:TW k (dimR n m qn l) (dimC n m qn l) z M:=by
   have h:=tM.2 l M eM
   dsimp only at h
   rw [if_neg (Nat.lt_irrefl l)] at h
   exact h
  have dn:dimR n m qn l = n:=by unfold dimR; rw [if_neg (by omega)]
  have cc10:dimC n m qn l≤10:=by unfold dimC; split <;> omega
  have lras:=zj hT.2
  rw [tk.len,dn] at lras
  have ei:ras[i]? = some ras[i]:=List.getElem?_eq_getElem (by omega)
  have ej:ras[j]? = some ras[j]:=List.getElem?_eq_getElem (by omega)
  obtain ⟨xi,hxi,ri⟩:=zW hT.2 ei
  obtain ⟨xj,hxj,rj⟩:=zW hT.2 ej
  obtain ⟨ui,hui,pui,lui⟩:=ri.len
  obtain ⟨uj,huj,puj,luj⟩:=rj.len
  have oi:=tk.ok xi (List.mem_of_getElem? hxi)
  have oj:=tk.ok xj (List.mem_of_getElem? hxj)
  have si:=tk.sz xi (List.mem_of_getElem? hxi)
  have sj:=tk.sz xj (List.mem_of_getElem? hxj)
  have ll:xi.length = xj.length:=by rw [oi.1,oj.1]
  refine ⟨_,rfl,_,rfl,t,_,_,.ref ras[i],rfl,rfl,SqL.of hT.1,zK (by rw [List.getElem?_map,ei]; rfl),_,rfl,_,rfl,t,_,_,.ref ras[j],rfl,rfl,SqL.of hT.1,zK (by rw [List.getElem?_map,ej]; rfl),ras[i],ras[j],ui,uj,rfl,SqL.of hui,SqL.of huj,?_⟩
  refine qu (xs:=ui) (zs:=uj) (by rw [lui,luj]; exact ll) (fun e ys H'=>Same H6 H'∧Paired (RN H') ((List.zipWith (fun a b=>nadd k a (nmul k x b)) xi xj).take e) ys) ⟨Same.refl _,.nil⟩ ?_ ?_ ?_
  ·rintro e ys H' he ⟨g,pr⟩
   refine ⟨SqL.of (g _ _ hui),SqL.of (g _ _ huj),?_⟩
   have:=zj pr
   rw [List.length_take] at this
   rw [lui,oi.1] at he; omega
  ·rintro e a b T ys H' ha hb he hTn ⟨g,pr⟩
   have g':=g.trans (ze hTn (.tup [a,b]))
   obtain ⟨na,ena,rna⟩:=zW pui ha
   obtain ⟨nb,enb,rnb⟩:=zW puj hb
   have oa:=oi.2 na (List.mem_of_getElem? ena)
   have ob:=oj.2 nb (List.mem_of_getElem? enb)
   have sa:=si na (List.mem_of_getElem? ena)
   have sb:=sj nb (List.mem_of_getElem? enb)
   have om:=La.ym hk ox ob
   have sm:=xZ ox ob sx sb
   have pr':=yO (ze hTn (.tup [a,b])) pr
   refine ⟨T,_,rfl,SqT.of zf,rfl,_,_,rfl,_,_,rfl,rfl,?_⟩
   generalize upd H' T (.tup [a,b]) = H7 at *
   first | refine gyes ?_ | refine tyes ?_
   refine ⟨_,rfl,_,rfl,_,rfl,_,rfl,_,rfl,k,x,nb,_,_,rfl,⟨hk,ox,ob,sx.nsm hk ox (by decide) (by decide),sb.nsm hk ob (by omega) (by decide),rc.mono g',rnb.mono g'⟩,fun v8 H8 g8 r8=>?_⟩
   refine ⟨k,na,_,_,_,rfl,⟨hk,oa,om,sa.nsm hk oa (by omega) (by decide),sm.nsm hk om (by omega) (by decide),(rna.mono g').mono g8,r8⟩,fun v9 H9 g9 r9=>nxt he ⟨(g'.trans g8).trans g9,?_⟩⟩
   have ez:(List.zipWith (fun a b=>nadd k a (nmul k x b)) xi xj)[e]? = some (nadd k na (nmul k x nb)):=by rw [List.getElem?_zipWith,ena,enb]
   rw [zD ez]
   exact yb (yO (g8.trans g9) pr') r9
  rintro ys H7 ⟨g7,pr⟩ pn hpn
  rw [lui,List.take_of_length_le (by rw [List.length_zipWith]; omega)] at pr
  generalize ez:List.zipWith (fun a b=>nadd k a (nmul k x b)) xi xj = xz at *
  have memz:∀ y∈xz,y.ok k∧whk k (z + 3) y:=fun y hy=>by
   rw [← ez] at hy
   obtain ⟨e,he,rfl⟩:=List.getElem_of_mem hy
   rw [List.getElem_zipWith]
   rw [List.length_zipWith] at he
   have oa:=oi.2 _ (List.getElem_mem (show e < xi.length by omega))
   have ob:=oj.2 _ (List.getElem_mem (show e < xj.length by omega))
   have sa:=si _ (List.getElem_mem (show e < xi.length by omega))
   have sb:=sj _ (List.getElem_mem (show e < xj.length by omega))
   exact ⟨La.yJ hk oa (La.ym hk ox ob),(JU oa (La.ym hk ox ob) sa (xZ ox ob sx sb)).mono (by omega)⟩
  have lz:xz.length = dimC n m qn l:=by rw [← ez,List.length_zipWith,← ll,oi.1]; omega
  have g8:=ze hpn (.lst ys)
  have R8:RowAt (upd H7 pn (.lst ys)) xz pn:=⟨ys,zf,yO g8 pr⟩
  have G7:=G.mono g7
  have npn:pn∉[ta,tb,tc]:=fun hm=>by obtain ⟨o,ho⟩:=G7.tsome hm; rw [hpn] at ho; cases ho
  have nrn:∀ ras∈rs,pn∉ras:=fun ras hr hm=>by obtain ⟨o,ho⟩:=G7.rsome hr hm; rw [hpn] at ho; cases ho
  have fpn:H0 pn = none:=G7.same.none hpn
  have ptn:pt≠pn:=fun e=>by rw [← e,g7 _ _ hpt] at hpn; cases hpn
  have pln:pl≠pn:=fun e=>by rw [← e,g7 _ _ hl6] at hpn; cases hpn
  have G8:=G7.mono g8
  have g78:=g7.trans g8
  generalize upd H7 pn (.lst ys) = H8 at *
  have hT8:=hT.mono g78
  have tm:=List.mem_of_getElem? ht
  have ptt:pt≠t:=fun e=>nt (by rw [e]; exact tm)
  have plt:pl≠t:=fun e=>nlt (by rw [e]; exact tm)
  refine ⟨_,rfl,_,rfl,t,_,_,i,rfl,rfl,hT8.1,jW (by rw [List.length_map]; omega),?_⟩
  have G9:=G8.setSlot (i:=l) (j:=i) eM ht er (by omega) R8 fpn npn nrn
  rw [List.map_set] at G9
  have away:∀ p,p≠pn→(∀ ras∈rs,p∉ras)→∀ x'∈rs.set l (ras.set i pn),p∉x':=fun p hp hr x' hx' hm=>by
   rcases La.yc hx' with e | e
   ·rw [e] at hm
    rcases La.yc hm with e' | e'
    ·exact hp e'
    ·exact hr ras (List.mem_of_getElem? er) e'
   ·exact hr x' e hm
  refine ⟨Ms.set l (M.set i xz),rs.set l (ras.set i pn),_,_,rfl,G9,tM.set (g:=fun I=>if I < l + 1 then z + 3 else z) ?_ (fun I hI=>?_),by rw [zJ ptt]; exact g78 _ _ hpt,away pt ptn nr,by rw [zJ plt]; exact g78 _ _ hl6,away pl pln nlr,(rc.mono g78).upd hT8.1⟩
  ·rw [if_pos (Nat.lt_succ_self l)]
   exact (tk.up (show z≤z + 3 by omega)).set lz (fun y hy=>(memz y hy).1) (fun y hy=>(memz y hy).2)
  ·by_cases c1:I < l
   ·rw [if_pos c1,if_pos (by omega)]; exact Nat.le_refl _
   ·rw [if_neg c1,if_neg (by omega)]; exact Nat.le_refl _
 clear G tM hpt nr hl5 nlr rc nlt
 rintro σ H6 ⟨Ms,rs,o10,o11,rfl,G,tM0,hpt,nr,_,_,rc⟩
 have tM:TWs k n m qn (fun _=>z + 3) Ms:=tM0.up fun I=>by split <;> omega
 clear tM0
 refine ⟨_,rfl,_,rfl,(by show 2≤sizeLine; decide),fun pl hpl=>?_⟩
 have g5:=ze hpl (.lst [.ref ta,.ref tc])
 have hl5:upd H6 pl (.lst [.ref ta,.ref tc]) pl = some (.lst [.ref ta,.ref tc]):=zf
 have nlr:∀ ras∈rs,pl∉ras:=fun ras hr hm=>by obtain ⟨o,ho⟩:=G.rsome hr hm; rw [hpl] at ho; cases ho
 replace G:=G.mono g5
 replace hpt:=g5 _ _ hpt
 replace rc:=rc.mono g5
 generalize upd H6 pl (.lst [.ref ta,.ref tc]) = H7 at *
 clear g5 hpl
 refine ⟨pl,rfl,⟨_,SqL.of hl5⟩,?_⟩
 refine yT (xs:=[.ref ta,.ref tc]) (fun l σ H'=>∃ Ms o10 o11,σ = [some (.int k),some (.ref pt),some (.int c),some (.int (n:Int)),some (.int (i:Int)),some (.int (j:Int)),some vc,some (.ref ta),some (.ref tb),some (.ref tc),o10,o11]∧GrowTs H0 H' Ms [ta,tb,tc] rs∧TWs k n m qn (fun I=>if I < 2 * l then z + 6 else z + 3) Ms∧H' pt = some (.lst [.ref ta,.ref tb,.ref tc])∧H' pl = some (.lst [.ref ta,.ref tc])∧RN H' x vc) ⟨Ms,_,_,rfl,G,tM.up fun I=>by rw [if_neg (by omega)]; exact Nat.le_refl _,hpt,hl5,rc⟩ ?_ ?_ ?_
 ·rintro l σ H' _ ⟨Ms,o10,o11,rfl,_,_,_,hl',_⟩
  exact SqL.of hl'
 ·clear G tM hpt hl5 rc
  rintro l v σ H8 hv ⟨Ms,o10,o11,rfl,G,tM,hpt,hl8,rc⟩
  have l2:l < 2:=(List.getElem?_eq_some_iff.mp hv).1
  obtain ⟨t,rfl,ht⟩ : ∃ t,v = .ref t∧[ta,tb,tc][2 * l]? = some t:=by
   match l,hv with
   | 0,hv=>cases hv; exact ⟨ta,rfl,rfl⟩
   | 1,hv=>cases hv; exact ⟨tc,rfl,rfl⟩
  obtain ⟨M,t',ras,eM,e2,er,hT⟩:=G.get (i:=2 * l) (by rw [tM.1]; omega)
  rw [ht] at e2
  cases e2
  have tk:TW k (dimR n m qn (2 * l)) (dimC n m qn (2 * l)) (z + 3) M:=by
   have h:=tM.2 (2 * l) M eM
   dsimp only at h
   rw [if_neg (Nat.lt_irrefl (2 * l))] at h
   exact h
  have cn':dimC n m qn (2 * l) = n:=by unfold dimC; rw [if_neg (by omega)]
  rw [cn'] at tk
  have lras:=zj hT.2
  have rm:=List.mem_of_getElem? er
  have lMs:=tM.1
  refine ⟨_,rfl,t,rfl,⟨_,SqL.of hT.1⟩,?_⟩
  refine yT (xs:=ras.map V.ref) (fun e σ H'=>∃ Mc o11,σ = [some (.int k),some (.ref pt),some (.int c),some (.int (n:Int)),some (.int (i:Int)),some (.int (j:Int)),some vc,some (.ref ta),some (.ref tb),some (.ref tc),some (.ref t),o11]∧GrowTs H0 H' (Ms.set (2 * l) Mc) [ta,tb,tc] rs∧TW k (dimR n m qn (2 * l)) n (z + 6) Mc∧(∀ e' r,e≤e'→Mc[e']? = some r→∀ y∈r,whk k (z + 3) y)∧H' pt = some (.lst [.ref ta,.ref tb,.ref tc])∧H' pl = some (.lst [.ref ta,.ref tc])∧RN H' x vc) ⟨M,_,rfl,by rw [zfd eM]; exact G,tk.up (by omega),fun e' r _ hr=>tk.sz r (List.mem_of_getElem? hr),hpt,hl8,rc⟩ ?_ ?_ ?_
  ·rintro e σ H' _ ⟨Mc,o11,rfl,G',_⟩
   exact SqL.of (G'.tabs (2 * l) Mc t ras (by rw [List.getElem?_set,if_pos rfl,if_pos (by omega)]) ht er).1
  ·rintro e v σ H' hv ⟨Mc,o11,rfl,G',tkc,low,hpt',hl',rc'⟩
   have eMc:(Ms.set (2 * l) Mc)[2 * l]? = some Mc:=by rw [List.getElem?_set,if_pos rfl,if_pos (by omega)]
   have hT':=G'.tabs (2 * l) Mc t ras eMc ht er
   obtain ⟨row,ar,hrow,har,rfl,hR⟩:=hT'.row hv
   obtain ⟨us,hu,pu,lu⟩:=hR.len
   have orow:=tkc.ok row (List.mem_of_getElem? hrow)
   have srow:=low e row (Nat.le_refl _) hrow
   have ei:row[i]? = some row[i]:=List.getElem?_eq_getElem (by rw [orow.1]; exact hi)
   have ej:row[j]? = some row[j]:=List.getElem?_eq_getElem (by rw [orow.1]; exact hj)
   obtain ⟨vi,hvi,rvi⟩:=yM pu ei
   obtain ⟨vj,hvj,rvj⟩:=yM pu ej
   have oi:=orow.2 _ (List.mem_of_getElem? ei)
   have oj:=orow.2 _ (List.mem_of_getElem? ej)
   have si:=srow _ (List.mem_of_getElem? ei)
   have sj:=srow _ (List.mem_of_getElem? ej)
   have om:=La.ym hk ox oi
   have sm:=xZ ox oi sx si
   have nap:ar≠pt:=fun e=>nr ras rm (by rw [← e]; exact List.mem_of_getElem? har)
   have nal:ar≠pl:=fun e=>nlr ras rm (by rw [← e]; exact List.mem_of_getElem? har)
   refine ⟨_,rfl,_,rfl,_,rfl,ar,_,_,vj,rfl,rfl,SqL.of hu,zK hvj,_,rfl,_,rfl,_,rfl,_,rfl,ar,_,_,vi,rfl,rfl,SqL.of hu,zK hvi,k,x,row[i],_,_,rfl,⟨hk,ox,oi,sx.nsm hk ox (by decide) (by decide),si.nsm hk oi (by omega) (by decide),rc',rvi⟩,fun v9 H9 g9 r9=>?_⟩
   refine ⟨k,row[j],_,_,_,rfl,hk,oj,om,sj.nsm hk oj (by omega) (by decide),sm.nsm hk om (by omega) (by decide),rvj.mono g9,r9,fun v10 H10 g10 r10=>?_⟩
   have g':=g9.trans g10
   have hu':=g' _ _ hu
   refine ⟨_,rfl,_,rfl,ar,us,_,j,rfl,rfl,hu',jW (by rw [lu,orow.1]; exact hj),?_⟩
   have G10:=(G'.mono g').setRow eMc er har hu' (zay (yO g' pu) j r10)
   rw [List.set_set] at G10
   have lset:∀ y∈row.set j (nsub k row[j] (nmul k x row[i])),y.ok k∧whk k (z + 6) y:=fun y hy=>by
    rcases La.yc hy with e | e
    ·rw [e]; exact ⟨zaH (by omega) oj om,(zbS oj om sj sm).mono (by omega)⟩
    ·exact ⟨orow.2 y e,(srow y e).mono (by omega)⟩
   refine ⟨Mc.set e (row.set j (nsub k row[j] (nmul k x row[i]))),_,rfl,G10,tkc.set (by rw [List.length_set]; exact orow.1) (fun y hy=>(lset y hy).1) (fun y hy=>(lset y hy).2),fun e' r he' hr=>?_,by rw [zJ (Ne.symm nap)]; exact g' _ _ hpt',by rw [zJ (Ne.symm nal)]; exact g' _ _ hl',(rc'.mono g').upd hu'⟩
   rw [List.getElem?_set,if_neg (by omega)] at hr
   exact low e' r (by omega) hr
  ·rintro σ H' ⟨Mc,o11,rfl,G',tkc,low,hpt',hl',rc'⟩
   refine ⟨Ms.set (2 * l) Mc,_,_,rfl,G',tM.set (g:=fun I=>if I < 2 * (l + 1) then z + 6 else z + 3) ?_ (fun I hI=>?_),hpt',hl',rc'⟩
   ·rw [if_pos (by omega),cn']
    exact tkc
   ·split <;> split <;> omega
 ·rintro σ H8 ⟨Ms,o10,o11,rfl,G,tM,hpt,hl8,rc⟩
  exact q Ms rs H8 G (tM.up fun I=>by split <;> omega) hpt nr
theorem zfc (cs:List Int) (lo hi:Option Int):∃ zs:List Int,cutV (cs.map V.int) lo hi = zs.map V.int:=⟨_,by unfold cutV; rw [List.length_map,← List.map_drop,← List.map_take]⟩
noncomputable def Xx:Sp:=fun vs H Q _=>∃ (pc pq:Addr) (cs:List Int) (a b:Nat),vs = [.ref pc,.ref pq]∧H pc = some (.lst (cs.map V.int))∧cs≠[]∧cs.length≤1000∧H pq = some (.lst [.int (a:Int),.int (b:Int)])∧1≤a∧a≤3∧1≤b∧b≤10 ∧
 ∀ (k:Int) (n m q at':Nat) (A B C:List (List Nb)) (p3 pm ta tb tc:Addr) (ra rb rc:List Addr) (H':Hp),Same H H'→H' p3 = some (.tup [.int k,.ref pm,.int (at':Int)])→MachAt H' A B C pm ta tb tc ra rb rc→KindS k→Fit k n→MOk k n m q 80 A B C→(TW k n n 14 A∧TW k n m 14 B∧TW k q n 14 C∧((cs.headD 1).fmod 3 = 0→k = 0))→1≤m→m≤2→1≤q→q≤2→n≤a∨n≤b→Q (.ref p3) H'
theorem zaC (hP:P.given.tree = none) (hS:base.NoSeer) (D:Df K mg "_law_machine" ["_law_cells", "_law_most"] xg) (QL:Kn P w K mg base "_law_prime" 41 ["_law_cell"] QU) (zav:Kn P w K mg base "_law_sorts" 42 ["_law_head", "_law_n", "_law_plain"] zan) (XD:Kn P w K mg base "_law_blocked" 45 ["_law_prime_here", "_law_cells", "_law_sizes", "_law_sorts_here"] YO) (Yg:Kn P w K mg base "_law_exchanged" 44 ["_law_prime_here", "_law_tables", "_law_cell"] zbY) (m_int:mg "int" = none) (zt:mg "range" = none):Kn P w K mg base "_law_machine" 46 ["_law_cells", "_law_most"] Xx:=by
 refine D.kn sc__law_machine (fun vs H Q E h=>?_) (fun f cdv A' outer s' H vs Q E hr h=>?_)
 ·obtain ⟨pc,pq,cs,a,b,rfl,_⟩:=h; rfl
 obtain ⟨pc,pq,cs,a,b,rfl,hc,ne,c1000,hq,a1,a3,b1,b10,q⟩:=h
 have szl:sizeLine = 16777216:=by decide
 obtain ⟨c0,cs',rfl⟩:=List.exists_cons_of_ne_nil ne
 refine ⟨_,(zc (zm (i:=2) sc__law_machine.nd rfl (.inl rfl) (zE zp (pv 0) zb (fun _ _=>rfl))) (zc (zm (i:=3) sc__law_machine.nd rfl (.inl rfl) (zu QL (hr.mono (by decide)) rfl (za (pv 2) zd))) (zc (zm (i:=4) sc__law_machine.nd rfl (.inl rfl) (yv (za (zi yh zb (zi zN (zi (zV hr (by decide) hP hS ⟨_,_,rfl,rfl,rfl,rfl,rfl⟩) (pv 2) zb) (zE zp (pv 1) (jl zdb rfl m_int zgo (za (xp Yj (pv 3) zb (nomark _)) zd)) (fun _ _=>rfl)))) (za (zi yh zb (zi zN (zi (zV hr (by decide) hP hS ⟨_,_,rfl,rfl,rfl,rfl,rfl⟩) (pv 2) zb) zb)) (za (zi yh zb (zi zN (zi (zV hr (by decide) hP hS ⟨_,_,rfl,rfl,rfl,rfl,rfl⟩) (pv 2) zb) zb)) zd))))) (zc (zm (i:=5) sc__law_machine.nd rfl (.inl rfl) (xp xt (zi zN (zi (zV hr (by decide) hP hS ⟨_,_,rfl,rfl,rfl,rfl,rfl⟩) (pv 2) zb) zb) zb (nomark _))) (zc (jS (zu XD (hr.mono (by decide)) rfl (za (pv 3) (za (pv 0) (za (pv 4) (za (zu zav (hr.mono (by decide)) rfl (za (pv 2) (za (zE zw (pv 4) zb (fun _ _=>rfl)) (za (pv 5) zd)))) zd))))) (jh 2 rfl (zS (zh (i:=6) sc__law_machine.nd rfl (.inl rfl)) (zS (zh (i:=7) sc__law_machine.nd rfl (.inl rfl)) xn)))) (zc (yu PassesOwn.never rfl (zR rfl zt (za zb zd)) (zh (i:=8) sc__law_machine.nd rfl (.inl rfl)) (zg (yi (jt (xH (pv 5))) (zg (qR (zu Yg (hr.mono (by decide)) rfl (za (pv 3) (za (pv 6) (za (zi yh (zE zp (zi Zq (jy qv (pv 0) (jX (pv 7)) ZD) (yC (za zb (za zb (za zb zd))))) (pv 8) (fun _ _=>rfl)) (zi (zV hr (by decide) hP hS ⟨_,_,rfl,rfl,rfl,rfl,rfl⟩) (pv 2) zb)) zd)))))) zL))) (zg (zk (yv (za (pv 3) (za (yv (za (zE zp (pv 6) zb (fun _ _=>rfl)) (za (zE zp (pv 6) zb (fun _ _=>rfl)) (za (zE zp (pv 6) zb (fun _ _=>rfl)) zd)))) (za (zi yh (pv 7) zb) zd)))))))))))),?_⟩
 refine ⟨_,rfl,pc,_,_,_,rfl,rfl,SqL.of hc,zK (j:=0) rfl,?_⟩
 refine ⟨_,rfl,c0,rfl,fun k H1 g1 hs hk0=>?_⟩
 have hk:=hs.ok
 have kl:=hk.lt
 have hq1:=g1 _ _ hq
 obtain ⟨mo,emo,mo1,mob⟩ : ∃ mo:Nat,atI [V.int (a:Int),V.int (b:Int)] (if decide (0 < k) = true then 1 else 0) = some (.int (mo:Int))∧1≤mo∧((k = 0∧mo = a)∨(k≠0∧mo = b)):=by
  by_cases h:0 < k
  ·rw [decide_eq_true h]; exact ⟨b,rfl,b1,.inr ⟨by omega,rfl⟩⟩
  ·rw [decide_eq_false h]; exact ⟨a,rfl,a1,.inl ⟨by omega,rfl⟩⟩
 have n75:(75:Int)≠0:=by decide
 refine ⟨_,rfl,_,_,rfl,rfl,n75,_,rfl,_,rfl,_,_,rfl,rfl,.inr ⟨_,rfl,pq,_,_,.int (mo:Int),rfl,rfl,SqL.of hq1,emo,_,_,rfl,rfl,(by show (mo:Int)≠0; omega),_,_,rfl,rfl,_,rfl,_,_,rfl,rfl,(by show (375:Int)≠0; decide),_,_,rfl,rfl,(by show (2:Int)≠0; decide),_,_,rfl,rfl,_,rfl,_,_,rfl,rfl,(by show (750:Int)≠0; decide),_,_,rfl,rfl,(by show (2:Int)≠0; decide),_,_,rfl,rfl,(by show 3≤sizeLine; decide),fun pz hpz=>?_⟩⟩
 try dsimp only
 obtain ⟨n,en,n1,nm⟩ : ∃ n:Nat,1 + (c0.fdiv 75).fmod (mo:Int) = (n:Int)∧1≤n∧n≤mo:=by
  have f0:=Int.fmod_nonneg_of_pos (c0.fdiv 75) (show (0:Int) < (mo:Int) by omega)
  have f1:=Int.fmod_lt_of_pos (c0.fdiv 75) (show (0:Int) < (mo:Int) by omega)
  exact ⟨(1 + (c0.fdiv 75).fmod (mo:Int)).toNat,by omega,by omega,by omega⟩
 obtain ⟨m,em,m1,m2⟩ : ∃ m:Nat,1 + (c0.fdiv 375).fmod 2 = (m:Int)∧1≤m∧m≤2:=by
  have f0:=Int.fmod_nonneg_of_pos (c0.fdiv 375) (show (0:Int) < 2 by decide)
  have f1:=Int.fmod_lt_of_pos (c0.fdiv 375) (show (0:Int) < 2 by decide)
  exact ⟨(1 + (c0.fdiv 375).fmod 2).toNat,by omega,by omega,by omega⟩
 obtain ⟨qn,eq,q1,q2⟩ : ∃ qn:Nat,1 + (c0.fdiv 750).fmod 2 = (qn:Int)∧1≤qn∧qn≤2:=by
  have f0:=Int.fmod_nonneg_of_pos (c0.fdiv 750) (show (0:Int) < 2 by decide)
  have f1:=Int.fmod_lt_of_pos (c0.fdiv 750) (show (0:Int) < 2 by decide)
  exact ⟨(1 + (c0.fdiv 750).fmod 2).toNat,by omega,by omega,by omega⟩
 rw [en,em,eq] at *
 have g2:=ze hpz (.tup [.int (n:Int),.int (m:Int),.int (qn:Int)])
 have hz2:upd H1 pz (.tup [.int (n:Int),.int (m:Int),.int (qn:Int)]) pz = some (.tup [.int (n:Int),.int (m:Int),.int (qn:Int)]):=zf
 generalize upd H1 pz (.tup [.int (n:Int),.int (m:Int),.int (qn:Int)]) = H2 at *
 have n10:n≤10:=by rcases mob with ⟨_,h⟩ | ⟨_,h⟩ <;> omega
 refine ⟨_,rfl,_,_,rfl,rfl,(by show (1500:Int)≠0; decide),_,_,rfl,rfl,(by show (3:Int)≠0; decide),rfl,?_⟩
 try dsimp only
 generalize decide (V.int ((c0.fdiv 1500).fmod 3) = V.int 0) = pb
 refine ⟨_,rfl,_,rfl,_,rfl,_,rfl,_,rfl,pz,_,_,.int (n:Int),rfl,rfl,SqT.of hz2,rfl,_,rfl,c0,n,pb,rfl,by omega,fun ss ps H3 g3 hs3 lss=>?_⟩
 have g13:=(g1.trans g2).trans g3
 refine ⟨k,pc,pz,ps,c0 :: cs',ss,n,m,qn,rfl,hk,g13 _ _ hc,ne,g3 _ _ hz2,hs3,lss,n10,by omega,by omega,fun A B C pt pr ts rs at' H4 G tA tB tC hpt ptn nt nr hpr=>?_⟩
 refine ⟨pr,_,rfl,SqT.of hpr,rfl,_,_,rfl,_,_,rfl,rfl,?_⟩
 have T0:TWs k n m qn (fun _=>2) [A,B,C]:=⟨rfl,fun I M hM=>by
  match I,hM with
  | 0,hM=>cases hM; exact tA
  | 1,hM=>cases hM; exact tB
  | 2,hM=>cases hM; exact tC⟩
 clear tA tB tC hpr
 refine ⟨2,rfl,(by decide),(by decide),?_⟩
 refine yz (lo:=0) (n:=2) (fun l σ H'=>∃ Ms rs o8,σ = [some (.ref pc),some (.ref pq),some (.int c0),some (.int k),some (.ref pz),some (.bl pb),some (.ref pt),some (.int (at':Int)),o8]∧GrowTs H3 H' Ms ts rs∧TWs k n m qn (fun _=>if l = 0 then 2 else if l = 1 then 8 else 14) Ms∧H' pt = some (.lst (ts.map V.ref))∧(∀ ras∈rs,pt∉ras)) ⟨_,rs,none,rfl,G,T0,hpt,nr⟩ ?_ ?_
 ·clear G T0 hpt nr
  rintro l σ H5 hl ⟨Ms,rs,o8,rfl,G,T,hpt,nr⟩
  refine ⟨_,rfl,_,rfl,?_⟩
  refine ite2 (fun cb=>?_) (fun cb=>?_)
  ·have hc5:H5 pc = some (.lst ((c0 :: cs').map V.int)):=G.same _ _ (g13 _ _ hc)
   refine ⟨_,rfl,_,rfl,_,rfl,_,rfl,_,rfl,pc,_,rfl,SqL.of hc5,fun p1 hp1=>?_⟩
   obtain ⟨zs,ez⟩:=zfc (c0 :: cs') (some (at':Int)) none
   have lzs:zs.length≤1000:=by
    have:(zs.map V.int).length≤((c0 :: cs').map V.int).length:=by rw [← ez]; unfold cutV; rw [List.length_take,List.length_drop]; omega
    rw [List.length_map,List.length_map] at this
    omega
   rw [ez]
   refine ⟨(by show 3≤sizeLine; decide),fun p2 hp2=>?_⟩
   have n12:p1≠p2:=fun e=>by rw [e,zf] at hp2; cases hp2
   refine ⟨p1,p2,_,_,rfl,rfl,(by rw [zJ n12]; exact zf),zf,(by rw [List.length_map]; show zs.length + 3≤sizeLine; omega),fun p3 hp3=>?_⟩
   have e3:zs.map V.int ++ [V.int 0,V.int 0,V.int 0] = (zs ++ [0,0,0]).map V.int:=by simp
   rw [e3] at *
   have g6:=((ze hp1 (.lst (zs.map V.int))).trans (ze hp2 (.lst [V.int 0,V.int 0,V.int 0]))).trans (ze hp3 (.lst ((zs ++ [0,0,0]).map V.int)))
   have h3':upd (upd (upd H5 p1 (.lst (zs.map V.int))) p2 (.lst [V.int 0,V.int 0,V.int 0])) p3 (.lst ((zs ++ [0,0,0]).map V.int)) p3 = some (.lst ((zs ++ [0,0,0]).map V.int)):=zf
   generalize upd (upd (upd H5 p1 (.lst (zs.map V.int))) p2 (.lst [V.int 0,V.int 0,V.int 0])) p3 (.lst ((zs ++ [0,0,0]).map V.int)) = H6 at *
   have ll:l < (zs ++ [(0:Int),0,0]).length:=by rw [List.length_append]; show l < zs.length + 3; omega
   have el:((zs ++ [(0:Int),0,0]).map V.int)[l]? = some (.int (zs ++ [(0:Int),0,0])[l]):=by rw [List.getElem?_map,List.getElem?_eq_getElem ll]; rfl
   refine ⟨_,rfl,p3,_,_,.int (zs ++ [(0:Int),0,0])[l],rfl,rfl,SqL.of h3',(by rw [Int.zero_add]; exact zK el),_,rfl,_,_,rfl,rfl,(by show (4500:Int)≠0; decide),_,_,rfl,rfl,k,_,Ms,H3,ts,pt,rs,n,m,qn,_,rfl,hk,G.mono g6,T,g6 _ _ hpt,nr,nt,n1,n10,by omega,by omega,(by split <;> (try split) <;> omega),fun Ms' rs' H7 G7 T7 hpt7 nr7=>?_⟩
   refine ⟨Ms',rs',_,rfl,G7,T7.up fun _=>?_,hpt7,nr7⟩
   rcases (show l = 0∨l = 1 by omega) with e | e
   ·subst e; decide
   ·subst e; decide
  ·refine ⟨Ms,rs,_,rfl,G,T.up fun _=>?_,hpt,nr⟩
   rcases (show l = 0∨l = 1 by omega) with e | e
   ·subst e; decide
   ·subst e; decide
 ·rintro σ H5 ⟨Ms,rs,o8,rfl,G,T,hpt,nr⟩
  obtain ⟨A,B,C,rfl⟩ : ∃ A B C,Ms = [A,B,C]:=by
   match Ms,T.1 with
   | [A,B,C],_=>exact ⟨A,B,C,rfl⟩
  obtain ⟨ta,tb,tc,rfl⟩ : ∃ ta tb tc,ts = [ta,tb,tc]:=by
   match ts,G.lt with
   | [ta,tb,tc],_=>exact ⟨ta,tb,tc,rfl⟩
  obtain ⟨ra,rb,rc,rfl⟩ : ∃ ra rb rc,rs = [ra,rb,rc]:=by
   match rs,G.lr with
   | [ra,rb,rc],_=>exact ⟨ra,rb,rc,rfl⟩
  refine ⟨_,rfl,_,rfl,pt,_,_,.ref ta,rfl,rfl,SqL.of hpt,zK (j:=0) rfl,_,rfl,pt,_,_,.ref tb,rfl,rfl,SqL.of hpt,zK (j:=1) rfl,_,rfl,pt,_,_,.ref tc,rfl,rfl,SqL.of hpt,zK (j:=2) rfl,(by show 3≤sizeLine; decide),fun pm hpm=>?_⟩
  have g6:=ze hpm (.tup [.ref ta,.ref tb,.ref tc])
  have hm6:upd H5 pm (.tup [.ref ta,.ref tb,.ref tc]) pm = some (.tup [.ref ta,.ref tb,.ref tc]):=zf
  generalize upd H5 pm (.tup [.ref ta,.ref tb,.ref tc]) = H6 at *
  refine ⟨_,rfl,_,_,rfl,rfl,(by show 3≤sizeLine; decide),fun p3 hp3=>?_⟩
  have g7:=ze hp3 (.tup [.int k,.ref pm,.int ((at':Int) + 2)])
  have G7:=(G.mono g6).mono g7
  have ft:Fit k n:=⟨n1,by
   rcases mob with ⟨_,h⟩ | ⟨k0,h⟩
   ·exact .inl (by omega)
   ·exact .inr ⟨k0,by omega⟩⟩
  refine q k n m qn (at' + 2) A B C p3 pm ta tb tc ra rb rc _ (((g13.trans G.same).trans g6).trans g7) ?_ ⟨g7 _ _ hm6,G7.tabs 0 A ta ra rfl rfl rfl,G7.tabs 1 B tb rb rfl rfl rfl,G7.tabs 2 C tc rc rfl rfl rfl⟩ hs ft ⟨(T.2 0 A rfl).tok hk (by decide) (by decide),(T.2 1 B rfl).tok hk (by decide) (by decide),(T.2 2 C rfl).tok hk (by decide) (by decide)⟩ ⟨T.2 0 A rfl,T.2 1 B rfl,T.2 2 C rfl,hk0⟩ m1 m2 q1 q2 (by rcases mob with ⟨_,h⟩ | ⟨_,h⟩ <;> omega)
  rw [zf]
  rfl
theorem zd7 (D:Df K mg "_law_across" ["_law_table"] xA) (zt:mg "range" = none) (m_len:mg "len" = none):Kn P w K mg base "_law_across" 1 ["_law_table"] xJ:=by
 refine D.kn XF (fun vs H Q E h=>?_) (fun f cdv A outer s H vs Q E hr h=>?_)
 ·obtain ⟨M,n,top,ras,rfl,_⟩:=h; rfl
 obtain ⟨M,n,top,ras,rfl,hT,hM,hn,nz,mz,q⟩:=h
 refine ⟨_,(zg (zk (ya ["_law_j"] ["_law_table"] [0] ⟨rfl,rfl,rfl,rfl,rfl,rfl,by decide +kernel⟩ rfl (zR rfl zt (za (zG zP rfl m_len yt (za (zE zp (pv 0) zb (fun _ _=>rfl)) zd)) zd)) (zo (by decide)) fun _ _ _ _ _ _=>⟨(zh (i:=0) (by decide:(["_law_j", "_law_table"]:List Str).Nodup) rfl (by first | exact Or.inl rfl | exact Or.inr rfl)),zQ,(ya ["_law_row"] ["_law_j"] [0] ⟨rfl,rfl,rfl,rfl,rfl,rfl,by decide +kernel⟩ rfl (zM (pv 1)) (zo (by decide)) fun _ _ _ _ _ _=>⟨(zh (i:=0) (by decide:(["_law_row", "_law_j"]:List Str).Nodup) rfl (by first | exact Or.inl rfl | exact Or.inr rfl)),zQ,(zE zp (pv 0) (pv 1) (fun _ _=>rfl))⟩)⟩))),?_⟩
 obtain ⟨M0,M',rfl⟩:=List.exists_cons_of_ne_nil hM
 have hras:=zj hT.2
 obtain ⟨r0,ras',e0⟩ : ∃ r0 ras',ras = r0 :: ras':=by
  cases ras with
  | nil=>simp at hras
  | cons a b=>exact ⟨a,b,rfl⟩
 obtain ⟨vs0,h0,p0,l0⟩:=(xY hT.2 (i:=0) rfl (by rw [e0]; rfl)).len
 have n0:=hn M0 List.mem_cons_self
 have szl:sizeLine = 16777216:=by decide
 refine ⟨_,rfl,top,_,_,_,rfl,rfl,SqL.of hT.1,(by rw [e0]; exact zK (j:=0) rfl),r0,_,rfl,.inl (SqL.of h0),_,rfl,(by omega),(by omega),?_⟩
 have en:(vs0.length:Int).toNat = n:=by omega
 rw [en]
 refine yA (lo:=0) (n:=n) (fun i ys H'=>∃ ras2,ys = ras2.map V.ref∧Grow H H' ((transp n (M0 :: M')).take i) ras2) ⟨[],rfl,Grow.nil H (Same.refl H)⟩ ?_ ?_ ?_
 ·rintro i ys H' hi ⟨ras2,rfl,G⟩
  have:=zj G.rows
  rw [List.length_take,zq] at this
  rw [List.length_map]; omega
 ·rintro i ys H' hi ⟨ras2,rfl,G⟩
  first | refine gyes ?_ | refine tyes ?_
  refine ⟨_,rfl,top,rfl,⟨_,SqL.of (G.same _ _ hT.1)⟩,?_⟩
  refine zT (xs:=ras.map V.ref) (fun j ys' H2=>H2 = H'∧Paired (RN H') (((M0 :: M').map fun r=>r.getD i (.z 0)).take j) ys') ⟨rfl,.nil⟩ ?_ ?_ ?_
  ·rintro j ys' H2 hj ⟨rfl,pr⟩
   refine ⟨SqL.of (G.same _ _ hT.1),?_⟩
   have:=zj pr
   rw [List.length_take,List.length_map] at this
   omega
  ·rintro j v ys' H2 hv hj ⟨rfl,pr⟩
   obtain ⟨xs,a,hx,ha,rfl,hrow⟩:=(hT.mono G.same).row hv
   obtain ⟨us,hu,pu,lu⟩:=hrow.len
   have nx:=hn xs (List.mem_of_getElem? hx)
   have hi':i < xs.length:=by omega
   obtain ⟨u,eu,ru⟩:=yM pu (List.getElem?_eq_getElem hi')
   first | refine gyes ?_ | refine tyes ?_
   refine ⟨_,rfl,_,rfl,a,_,_,_,rfl,rfl,SqL.of hu,(by rw [Int.zero_add]; exact zK eu),nxt hj ⟨rfl,?_⟩⟩
   have e:((M0 :: M').map fun r=>r.getD i (.z 0))[j]? = some (xs.getD i (.z 0)):=by rw [List.getElem?_map,hx]; rfl
   rw [zD e]
   refine yb pr ?_
   rw [List.getD_eq_getElem?_getD,List.getElem?_eq_getElem hi']; exact ru
  ·rintro ys' H2 ⟨rfl,pr⟩ p hp
   rw [List.take_of_length_le (by rw [List.length_map,List.length_map]; omega)] at pr
   refine nxt hi ⟨ras2 ++ [p],by rw [List.map_append]; rfl,?_⟩
   rw [zD (yd hi)]
   exact G.snoc hp pr
 ·rintro ys H' ⟨ras2,rfl,G⟩ t ht
  rw [List.take_of_length_le (by rw [zq]; exact Nat.le_refl _)] at G
  exact q t ras2 _ (G.same.trans (ze ht _)) (G.done ht)
noncomputable def zbk:Sp:=fun vs H Q _=>∃ i:Int,vs = [.int i]∧Q (.bl true) H
theorem ze4 (D:Df K mg "_law_whole" ["_law_found"] xV) (zO:mg "isinstance" = none) (m_int:mg "int" = none) (zea:mg "bool" = none):Kn P w K mg base "_law_whole" 1 ["_law_found"] zbk:=by
 refine D.kn Qq (fun vs H Q E h=>?_) (fun f cdv A outer s H vs Q E hr h=>?_)
 ·obtain ⟨i,rfl,_⟩:=h; rfl
 obtain ⟨i,rfl,q⟩:=h
 refine ⟨_,(zg (zk (zab (zG (xK (K:=K) rfl) rfl zO yx (za (pv 0) (za (zaD rfl m_int zgo) zd))) (XO (zhy (zG (xK (K:=K) rfl) rfl zO yx (za (pv 0) (za (zaD rfl zea zg2) zd)))))))),?_⟩
 refine ⟨_,rfl,_,_,_,_,rfl,TyOf.int i,zhX K,_,rfl,iteT ?_⟩
 exact ⟨_,rfl,_,_,_,_,rfl,TyOf.int i,zht K,_,rfl,q⟩
theorem zfZ:bootBuiltins "all" = some (.builtin "all"):=by decide +kernel
noncomputable def Xq:Sp:=fun vs H Q _=>∃ (k:Int) (x:Nb) (v:V),vs = [.int k,v]∧KindOk k∧x.ok k∧RN H x v∧Q (.bl true) H
theorem zex (D:Df K mg "_law_is_number" ["_law_prime_here", "_law_found"] yG) (qo:Kn P w K mg base "_law_whole" 1 ["_law_found"] zbk) (jf:Kn P w K mg base "_law_divisor" 1 ["_law_one", "_law_other"] za4) (zO:mg "isinstance" = none) (jM:mg "tuple" = none) (m_len:mg "len" = none):Kn P w K mg base "_law_is_number" 2 ["_law_prime_here", "_law_found"] Xq:=by
 refine D.kn ZJ (fun vs H Q E h=>?_) (fun f cdv A outer s H vs Q E hr h=>?_)
 ·obtain ⟨k,x,v,rfl,_⟩:=h; rfl
 obtain ⟨k,x,v,rfl,hk,ox,rx,q⟩:=h
 have kl:=hk.lt
 refine ⟨_,(zc (yi (zH Yj (pv 0) zb (nomark _)) (zg (zk (zab (zu qo (hr.mono (by decide)) rfl (za (pv 1) zd)) (XO (ze9 zih zhg zb (pv 1) (pv 0)))))) zL) (zc (yi (PW.pt (pw_or (jt (xH (zG (xK (K:=K) rfl) rfl zO yx (za (pv 1) (za (zaD rfl jM JH) zd))))) (pw_or (zH Yh (zG zP rfl m_len yt (za (pv 1) zd)) zb (nomark _)) (pw_or (jt (xH (zu qo (hr.mono (by decide)) rfl (za (zE zw (pv 1) zb (fun _ _=>rfl)) zd)))) (pw_or1 (jt (xH (zu qo (hr.mono (by decide)) rfl (za (zE zw (pv 1) zb (fun _ _=>rfl)) zd))))))))) (zg (zk YG)) zL) (zg (zk (zab (xp Yj (zE zw (pv 1) zb (fun _ _=>rfl)) zb (nomark _)) (XO (xp xt (zu jf (hr.mono (by decide)) rfl (za (zE zw (pv 1) zb (fun _ _=>rfl)) (za (zE zw (pv 1) zb (fun _ _=>rfl)) zd))) zb (nomark _)))))))),?_⟩
 cases x with
 | z i =>
  rw [rx.z]
  have k0:k≠0:=ox.1
  refine ⟨_,rfl,_,_,rfl,rfl,_,rfl,?_⟩
  rw [decide_eq_true (show (0:Int) < k by omega)]
  refine iteT ?_
  refine ⟨_,rfl,i,rfl,_,rfl,iteT ?_⟩
  refine ⟨_,rfl,_,_,rfl,rfl,_,rfl,?_⟩
  rw [decide_eq_true (show (0:Int)≤i from ox.2.1),if_pos rfl]
  refine ⟨_,rfl,_,_,rfl,rfl,?_⟩
  show Q (.bl (decide (i < k))) H
  rw [decide_eq_true (show i < k from ox.2.2)]
  exact q
 | q r =>
  obtain ⟨p,rfl,hp⟩:=rx.q
  have k0:k = 0:=ox
  subst k0
  refine ⟨_,rfl,_,_,rfl,rfl,_,rfl,iteF ?_⟩
  refine ⟨_,rfl,_,_,_,_,rfl,TyOf.tup hp,zd3 K,_,rfl,iteF ?_⟩
  refine ⟨_,rfl,p,_,rfl,.inr (SqT.of hp),rfl,_,rfl,iteF ?_⟩
  refine ⟨_,rfl,p,_,_,_,rfl,rfl,SqT.of hp,rfl,r.num,rfl,_,rfl,iteF ?_⟩
  refine ⟨_,rfl,p,_,_,_,rfl,rfl,SqT.of hp,rfl,(r.den:Int),rfl,_,rfl,iteF ?_⟩
  refine ⟨_,rfl,p,_,_,_,rfl,rfl,SqT.of hp,rfl,_,_,rfl,rfl,_,rfl,?_⟩
  rw [decide_eq_true (show (0:Int) < (r.den:Int) from by have:=r.den_pos; omega)]
  refine iteT ?_
  refine ⟨_,rfl,p,_,_,_,rfl,rfl,SqT.of hp,rfl,_,rfl,p,_,_,_,rfl,rfl,SqT.of hp,rfl,r.num,(r.den:Int),rfl,rfl,?_⟩
  have e:((Int.gcd r.num (r.den:Int):Nat):Int) = 1:=by
   have:Int.gcd r.num (r.den:Int) = Nat.gcd r.num.natAbs r.den:=rfl
   rw [this,r.reduced]; rfl
  show Q (.bl (decide (V.int ((Int.gcd r.num (r.den:Int):Nat):Int) = V.int 1))) H
  rw [e]
  exact q
noncomputable def Xf:Sp:=fun vs H Q _=>∃ (k:Int) (xs:List Nb) (a:Addr) (m:Int),vs = [.int k,.ref a,.int m]∧KindOk k∧RowAt H xs a∧La.OkR k xs∧m = (xs.length:Int)∧Q (.bl true) H
theorem zdS (D:Df K mg "_law_is_row" ["_law_prime_here", "_law_found", "_law_many"] xy) (xq:Kn P w K mg base "_law_is_number" 2 ["_law_prime_here", "_law_found"] Xq) (zO:mg "isinstance" = none) (yS:mg "list" = none) (m_len:mg "len" = none):Kn P w K mg base "_law_is_row" 3 ["_law_prime_here", "_law_found", "_law_many"] Xf:=by
 refine D.kn sc__law_is_row (fun vs H Q E h=>?_) (fun f cdv A outer s H vs Q E hr h=>?_)
 ·obtain ⟨k,xs,a,m,rfl,_⟩:=h; rfl
 obtain ⟨k,xs,a,m,rfl,hk,hR,ox,em,q⟩:=h
 obtain ⟨us,hu,pu,lu⟩:=hR.len
 refine ⟨_,(zc (yi (PW.pt (pw_or (jt (xH (zG (xK (K:=K) rfl) rfl zO yx (za (pv 1) (za (zaD rfl yS qQ) zd))))) (pw_or1 (zH Yh (zG zP rfl m_len yt (za (pv 1) zd)) (pv 2) (nomark _))))) (zg (zk YG)) zL) (zc (yu PassesOwn.never rfl (zM (pv 1)) (zh (i:=3) sc__law_is_row.nd rfl (.inl rfl)) (zg (yi (jt (xH (zu xq (hr.mono (by decide)) rfl (za (pv 0) (za (pv 3) zd))))) (zg (zk YG)) zL))) (zg (zk YG)))),?_⟩
 refine ⟨_,rfl,_,_,_,_,rfl,TyOf.lst hu,zgg K,_,rfl,iteF ?_⟩
 refine ⟨_,rfl,a,_,rfl,.inl (SqL.of hu),_,rfl,rfl,_,rfl,?_⟩
 rw [lu,em,decide_eq_true rfl]
 refine iteF ?_
 refine ⟨_,rfl,a,rfl,⟨_,SqL.of hu⟩,?_⟩
 refine yT (xs:=us) (fun j σ H2=>∃ o3,σ = [some (.int k),some (.ref a),some (.int (xs.length:Int)),o3]∧H2 = H) ⟨_,rfl,rfl⟩ ?_ ?_ ?_
 ·rintro j σ H2 _ ⟨o3,rfl,rfl⟩
  exact SqL.of hu
 ·rintro j x σ H2 hx ⟨o3,rfl,rfl⟩
  obtain ⟨n1,e1,r1⟩:=zW pu hx
  exact ⟨_,rfl,_,rfl,k,n1,x,rfl,hk,ox n1 (List.mem_of_getElem? e1),r1,_,rfl,iteF ⟨_,rfl,rfl⟩⟩
 ·rintro σ H2 ⟨o3,rfl,rfl⟩
  exact q
noncomputable def Jg:Sp:=fun vs H Q _=>∃ (k:Int) (M:List (List Nb)) (t:Addr) (ras:List Addr) (m c:Int),vs = [.int k,.ref t,.int m,.int c]∧KindOk k∧TabAt H M t ras∧m = (M.length:Int)∧(∀ r∈M,(r.length:Int) = c∧La.OkR k r)∧M.length < sizeLine∧∀ H',Same H H'→Q (.bl true) H'
theorem JR:∀ n,(List.replicate n true).all id = true
 | 0=>rfl
 | n + 1=>by rw [List.replicate_succ,List.all_cons,JR n]; rfl
theorem zcr (D:Df K mg "_law_is_rows" ["_law_prime_here", "_law_found", "_law_rows", "_law_columns_here"] xh) (jO:Kn P w K mg base "_law_is_row" 3 ["_law_prime_here", "_law_found", "_law_many"] Xf) (zO:mg "isinstance" = none) (yS:mg "list" = none) (m_len:mg "len" = none) (m_all:mg "all" = none):Kn P w K mg base "_law_is_rows" 4 ["_law_prime_here", "_law_found", "_law_rows", "_law_columns_here"] Jg:=by
 refine D.kn YQ (fun vs H Q E h=>?_) (fun f cdv A outer s H vs Q E hr h=>?_)
 ·obtain ⟨k,M,t,ras,m,c,rfl,_⟩:=h; rfl
 obtain ⟨k,M,t,ras,m,c,rfl,hk,hT,em,oM,hz,q⟩:=h
 have lt:=zj hT.2
 refine ⟨_,(zg (zk (zab (zG (xK (K:=K) rfl) rfl zO yx (za (pv 1) (za (zaD rfl yS qQ) zd))) (zab (xp xt (zG zP rfl m_len yt (za (pv 1) zd)) (pv 2) (nomark _)) (XO (zG (QH rfl) rfl m_all zfZ (za (ya ["_law_row"] ["_law_prime_here", "_law_columns_here"] [0,3] ⟨rfl,rfl,rfl,rfl,rfl,rfl,by decide +kernel⟩ rfl (zM (pv 1)) (zo (by decide)) fun _ _ _ _ _ _=>⟨(zh (i:=0) (by decide:(["_law_row", "_law_prime_here", "_law_columns_here"]:List Str).Nodup) rfl (by first | exact Or.inl rfl | exact Or.inr rfl)),zQ,(zu jO (hr.mono (by decide)) rfl (za (pv 1) (za (pv 0) (za (pv 2) zd))))⟩) zd))))))),?_⟩
 refine ⟨_,rfl,_,_,_,_,rfl,TyOf.lst hT.1,zgg K,_,rfl,iteT ?_⟩
 refine ⟨_,rfl,t,_,rfl,.inl (SqL.of hT.1),_,rfl,rfl,_,rfl,?_⟩
 rw [List.length_map,← lt,em,decide_eq_true rfl]
 refine iteT ?_
 refine ⟨_,rfl,t,rfl,⟨_,SqL.of hT.1⟩,?_⟩
 refine zT (xs:=ras.map V.ref) (fun i ys H'=>Same H H'∧ys = (List.replicate i true).map V.bl) ⟨Same.refl H,rfl⟩ ?_ ?_ ?_
 ·rintro i ys H' hi ⟨g,rfl⟩
  refine ⟨SqL.of (g _ _ hT.1),?_⟩
  rw [List.length_map] at hi
  rw [List.length_map,List.length_replicate]; omega
 ·rintro i v ys H' hv hi ⟨g,rfl⟩
  obtain ⟨row,a,hrow,ha,rfl,hR⟩:=(hT.mono g).row hv
  have o:=oM row (List.mem_of_getElem? hrow)
  first | refine gyes ?_ | refine tyes ?_
  refine ⟨_,rfl,_,rfl,_,rfl,k,row,a,c,rfl,hk,hR,o.2,o.1.symm,nxt hi ⟨g,?_⟩⟩
  rw [List.replicate_succ',List.map_append]; rfl
 ·rintro ys H' ⟨g,rfl⟩ p hp
  refine ⟨p,List.replicate (ras.map V.ref).length true,rfl,zf,?_⟩
  rw [JR]
  exact q _ (g.trans (ze hp _))
theorem zgW {H1:Hp} {xs:List Nb} {us:List V} {x:Nb} {v:V} {pt:Addr} (hp:H1 pt = some (.lst us)) (pu:Paired (RN H1) xs us) (rx:RN H1 x v):Paired (RN (upd H1 pt (.lst (us ++ [v])))) (xs ++ [x]) (us ++ [v]) :=
 yb (xI (fun _ _ r=>r.upd hp) pu) (rx.upd hp)
theorem zbf {k:Int} {a b:Nat} (hk:KindOk k) (l:List (Nb×Nb)) (h:∀ p∈l,p.1.ok k∧p.2.ok k∧szk k a p.1∧szk k b p.2):∀ i,i≤l.length→szk k (i * (a + b + 1) + 1) (La.ndotF k (l.take i)):=by
 intro i
 induction i with
 | zero =>
  intro _ k0
  subst k0
  exact ⟨(jA _),sm_one.mono (by omega)⟩
 | succ i ih =>
  intro hi
  have hg:l[i]? = some l[i]:=List.getElem?_eq_getElem hi
  have hp:=h l[i] (List.getElem_mem hi)
  have hl:∀ q∈l.take i,_:=fun q hq=>h q (List.mem_of_mem_take hq)
  rw [zD hg,La.qD]
  have o1:=La.jC hk (l.take i) fun q hq=>⟨(hl q hq).1,(hl q hq).2.1⟩
  refine (zfS o1 (La.ym hk hp.1 hp.2.1) (ih (by omega)) (JV hp.1 hp.2.1 hp.2.2.1 hp.2.2.2)).mono ?_
  rw [Nat.add_mul]
  omega
noncomputable def Xl:Sp:=fun vs H Q _=>∃ (k:Int) (A:List (List Nb)) (x:List Nb) (n a0 b:Nat) (ta ax:Addr) (ra:List Addr),vs = [.int k,.ref ta,.ref ax]∧KindOk k∧TabAt H A ta ra∧RowAt H x ax∧La.OkM k n A∧x.length = n∧La.OkR k x∧(∀ r∈A,∀ y∈r,szk k a0 y)∧(∀ y∈x,szk k b y)∧a0 + b≤5000000∧n≤10∧A.length≤10 ∧
 ∀ p H',Same H H'→NewR H H' (imgM k A x) p→(∀ y∈imgM k A x,szk k (n * (a0 + b + 1) + 1) y)→Q (.ref p) H'
theorem zc3 (D:Df K mg "_law_image" ["_law_prime_here", "_law_table", "_law_column"] ja) (yL:Kn P w K mg base "_law_make" 1 ["_law_prime_here", "_law_whole_here"] Zo) (yg:Kn P w K mg base "_law_plus" 42 ["_law_prime_here", "_law_one", "_law_other"] (xv nadd)) (zX:Kn P w K mg base "_law_times" 42 ["_law_prime_here", "_law_one", "_law_other"] (xv nmul)) (zt:mg "range" = none) (m_len:mg "len" = none):Kn P w K mg base "_law_image" 43 ["_law_prime_here", "_law_table", "_law_column"] Xl:=by
 refine D.kn sc__law_image (fun vs H Q E h=>?_) (fun f cdv A' outer s H vs Q E hr h=>?_)
 ·obtain ⟨k,A,x,n,a0,b,ta,ax,ra,rfl,_⟩:=h; rfl
 obtain ⟨k,A,x,n,a0,b,ta,ax,ra,rfl,hk,hT,hX,oA,lx,ox,sA,sx,hb,n10,a10,q⟩:=h
 have szl:sizeLine = 16777216:=by decide
 have la:=zj hT.2
 have szf:∀ r∈A,∀ i,szk k (n * (a0 + b + 1) + 1) (La.ndotF k ((r.zip x).take i)):=fun r hr i=>by
  have lz:(r.zip x).length = n:=by rw [List.length_zip,(oA r hr).1,lx,Nat.min_self]
  have hz:∀ p∈r.zip x,p.1.ok k∧p.2.ok k∧szk k a0 p.1∧szk k b p.2:=fun p hp=>⟨(oA r hr).2 _ (List.of_mem_zip hp).1,ox _ (List.of_mem_zip hp).2,sA r hr _ (List.of_mem_zip hp).1,sx _ (List.of_mem_zip hp).2⟩
  have up:∀ i,i≤n→i * (a0 + b + 1) + 1≤n * (a0 + b + 1) + 1:=fun i hi=>by
   have:=Nat.mul_le_mul_right (a0 + b + 1) hi
   omega
  rcases Nat.le_total i n with h | h
  ·exact (zbf hk _ hz i (by omega)).mono (up i h)
  ·have:=zbf hk _ hz n (by omega)
   rw [List.take_of_length_le (by omega)] at this ⊢
   exact this.mono (up n (Nat.le_refl _))
 have big:n * (a0 + b + 1) + 1≤60000000:=by
  have:n * (a0 + b + 1)≤10 * (a0 + b + 1):=Nat.mul_le_mul_right _ n10
  omega
 refine ⟨_,(zc (zm (i:=3) sc__law_image.nd rfl (.inl rfl) (yC zd)) (zc (yu PassesOwn.never rfl (zM (pv 1)) (zh (i:=4) sc__law_image.nd rfl (.inl rfl)) (zc (zm (i:=5) sc__law_image.nd rfl (.inl rfl) (zu yL (hr.mono (by decide)) rfl (za (pv 0) (za zb zd)))) (zc (yu PassesOwn.never rfl (zR rfl zt (za (zG zP rfl m_len yt (za (pv 2) zd)) zd)) (zh (i:=6) sc__law_image.nd rfl (.inl rfl)) (zg (zm (i:=5) sc__law_image.nd rfl (.inl rfl) (zu yg (hr.mono (by decide)) rfl (za (pv 0) (za (pv 5) (za (zu zX (hr.mono (by decide)) rfl (za (pv 0) (za (zE zp (pv 4) (pv 6) (fun _ _=>rfl)) (za (zE zp (pv 2) (pv 6) (fun _ _=>rfl)) zd)))) zd))))))) (zg (qR (bm0 (fun _ h=>zcn PySem.F.plainAttrs_list PySem.F.slot_list_append PySem.F.type_list_append qh h (za (pv 5) zd)) (pv 3))))))) (zg (zk (pv 3))))),?_⟩
 refine ⟨(by show 0≤sizeLine; decide),fun pt hpt=>?_⟩
 have g0:=ze hpt (.lst [])
 have h0:upd H pt (.lst []) pt = some (.lst []):=zf
 replace hT:=hT
 refine ⟨_,rfl,ta,rfl,⟨_,SqL.of (g0 _ _ hT.1)⟩,?_⟩
 refine yT (xs:=ra.map V.ref) (fun i σ H'=>∃ us o4 o5 o6,σ = [some (.int k),some (.ref ta),some (.ref ax),some (.ref pt),o4,o5,o6]∧Same H H'∧H' pt = some (.lst us)∧Paired (RN H') ((imgM k A x).take i) us) ⟨[],none,none,none,rfl,g0,h0,.nil⟩ ?_ ?_ ?_
 ·rintro i σ H' _ ⟨us,o4,o5,o6,rfl,g,_⟩
  exact SqL.of (g _ _ hT.1)
 ·rintro i v σ H' hv ⟨us,o4,o5,o6,rfl,g,hp,pu⟩
  obtain ⟨row,a,hrow,ha,rfl,hR⟩:=(hT.mono g).row hv
  obtain ⟨rs,hrs,prs,lrs⟩:=hR.len
  obtain ⟨xs,hxs,pxs,lxs⟩:=(hX.mono g).len
  have hr':=List.mem_of_getElem? hrow
  have orow:=oA row hr'
  refine ⟨_,rfl,k,0,rfl,hk,fun v0 H1 g1 r1=>?_⟩
  refine ⟨_,rfl,ax,_,rfl,.inl (SqL.of (g1 _ _ hxs)),_,rfl,(by omega),(by omega),?_⟩
  have en:((xs.length:Int)).toNat = n:=by omega
  rw [en]
  refine yz (lo:=0) (n:=n) (fun j σ H2=>∃ w o6,σ = [some (.int k),some (.ref ta),some (.ref ax),some (.ref pt),some (.ref a),some w,o6]∧Same H' H2∧RN H2 (La.ndotF k ((row.zip x).take j)) w) ⟨v0,_,rfl,g1,r1⟩ ?_ ?_
  ·rintro j σ H2 hj ⟨w,o6,rfl,g2,rw2⟩
   have hj1:j < row.length:=by rw [orow.1]; exact hj
   have hj2:j < x.length:=by omega
   obtain ⟨u1,e1,ru1⟩:=yM prs (List.getElem?_eq_getElem hj1)
   obtain ⟨u2,e2,ru2⟩:=yM pxs (List.getElem?_eq_getElem hj2)
   have m1:=List.getElem_mem hj1
   have m2:=List.getElem_mem hj2
   have oo1:=orow.2 _ m1
   have oo2:=ox _ m2
   have on:=La.jC hk ((row.zip x).take j) fun p hp=>by
    have hz:=List.mem_of_mem_take hp
    exact ⟨orow.2 _ (List.of_mem_zip hz).1,ox _ (List.of_mem_zip hz).2⟩
   refine ⟨_,rfl,_,rfl,_,rfl,_,rfl,_,rfl,a,_,_,_,rfl,rfl,SqL.of (g2 _ _ hrs),(by rw [Int.zero_add]; exact zK e1),_,rfl,_,rfl,ax,_,_,_,rfl,rfl,SqL.of (g2 _ _ hxs),(by rw [Int.zero_add]; exact zK e2),k,row[j],x[j],u1,u2,rfl,⟨hk,oo1,oo2,(sA row hr' _ m1).nsm hk oo1 (by omega) (by decide),(sx _ m2).nsm hk oo2 (by omega) (by decide),ru1.mono g2,ru2.mono g2⟩,fun v1 H3 g3 r3=>?_⟩
   refine ⟨k,_,_,w,v1,rfl,⟨hk,on,La.ym hk oo1 oo2,(szf row hr' j).nsm hk on (by omega) (by decide),(JV oo1 oo2 (sA row hr' _ m1) (sx _ m2)).nsm hk (La.ym hk oo1 oo2) (by omega) (by decide),rw2.mono g3,r3⟩,fun v2 H4 g4 r4=>?_⟩
   refine ⟨v2,_,rfl,(g2.trans g3).trans g4,?_⟩
   have ez:(row.zip x)[j]? = some (row[j],x[j]):=by rw [List.getElem?_zip_eq_some]; exact ⟨List.getElem?_eq_getElem hj1,List.getElem?_eq_getElem hj2⟩
   rw [zD ez,La.qD]
   exact r4
  ·rintro σ H2 ⟨w,o6,rfl,g2,rw2⟩
   have el:(row.zip x).take n = row.zip x:=List.take_of_length_le (by rw [List.length_zip,orow.1,lx]; omega)
   rw [el] at rw2
   have hp2:=g2 _ _ hp
   have lus:=zj pu
   rw [List.length_take] at lus
   have lim:(imgM k A x).length = A.length:=by unfold imgM; exact List.length_map _
   refine ⟨_,rfl,.inl ⟨rfl,_,SqL.of hp2⟩,_,rfl,pt,us,w,rfl,rfl,hp2,by omega,?_⟩
   have ei:(imgM k A x)[i]? = some (La.ndot k row x):=by unfold imgM; rw [List.getElem?_map,hrow]; rfl
   refine ⟨us ++ [w],_,_,_,rfl,xB (g.trans g2) hpt,zf,?_⟩
   rw [zD ei]
   exact zgW hp2 (yO g2 pu) rw2
 ·rintro σ H' ⟨us,o4,o5,o6,rfl,g,hp,pu⟩
  rw [List.length_map,← la,List.take_of_length_le (by unfold imgM; rw [List.length_map]; exact Nat.le_refl _)] at pu
  refine ⟨_,rfl,q pt H' g ⟨⟨us,hp,pu⟩,hpt⟩ fun y hy=>?_⟩
  unfold imgM at hy
  obtain ⟨r,hr,rfl⟩:=List.mem_map.mp hy
  have:=szf r hr n
  rw [List.take_of_length_le (by rw [List.length_zip,(oA r hr).1,lx]; omega)] at this
  exact this
theorem zfh {K:PySem.W.Frag} {g:TG} {tt:TT} {te:TE} {R:List V→Hp→Prop} {H:Hp} {σb:L2.St} {a:Addr} {xs:List V} (J:Nat→List V→Hp→Prop) (h0:J 0 [] H) (hl:∀ (i:Nat) (ys:List V) (H':Hp),i≤xs.length→J i ys H'→SqT K H' a xs∧ys.length < sizeLine)
  (hs:∀ (i:Nat) (x:V) (ys:List V) (H':Hp),xs[i]? = some x→i < xs.length→J i ys H'→g x σb H' fun σ2 H2=>tt σ2 H2 fun b H3=>if b = true then te σ2 H3 fun y H4=>Nxt xs.length i (J (i + 1) (ys ++ [y]) H4) else Nxt xs.length i (J (i + 1) ys H3))
  (hd:∀ (ys:List V) (H':Hp),J xs.length ys H'→R ys H') :
  ∃ W:Nat→Nat→List V→Hp→Prop,(∃ m,W 0 m [] H)∧∀ i m ys H,W i m ys H →
   ((Itt K a).stop i H∧ys.length≤sizeLine∧R ys H) ∨
   ((Itt K a).go i H∧ys.length < sizeLine∧∀ x H',(Itt K a).yld i H x H'→g x σb H' fun σ2 H2=>tt σ2 H2 fun b H3=>if b = true then te σ2 H3 fun y H4=>∃ m',m' < m∧W (i + 1) m' (ys ++ [y]) H4 else ∃ m',m' < m∧W (i + 1) m' ys H3):=by
 refine ⟨fun i m ys H=>m = xs.length - i∧i≤xs.length∧J i ys H,⟨xs.length,by simp,Nat.zero_le _,h0⟩,?_⟩
 rintro i m ys H1 ⟨rfl,hi,j⟩
 obtain ⟨q,hz⟩:=hl i ys H1 hi j
 by_cases hlt:i < xs.length
 ·refine .inr ⟨⟨xs,xs[i],q,by simp [hlt]⟩,hz,fun x H' y=>?_⟩
  obtain ⟨e,y⟩:=y
  subst e
  exact hs i x ys _ (y xs q) hlt j
 ·have e:i = xs.length:=by omega
  subst e
  exact .inl ⟨⟨xs,q,Nat.le_refl _⟩,Nat.le_of_lt hz,hd ys H1 j⟩
noncomputable def zbl:Sp:=fun vs H Q _=>∃ (A B C:List (List Nb)) (pm ta tb tc:Addr) (ra rb rc:List Addr),vs = [.ref pm]∧MachAt H A B C pm ta tb tc ra rb rc∧A.length < sizeLine∧B.length < sizeLine∧C.length < sizeLine ∧
 ∀ pm' ta' tb' tc' ra' rb' rc' H',Same H H'→MachAt H' A B C pm' ta' tb' tc' ra' rb' rc'→Q (.ref pm') H'
theorem zfT (D:Df K mg "_law_copy" ["_law_machine_here"] jR) (jM:mg "tuple" = none) (yS:mg "list" = none):Kn P w K mg base "_law_copy" 1 ["_law_machine_here"] zbl:=by
 refine D.kn QR (fun vs H Q E h=>?_) (fun f cdv A' outer s H vs Q E hr h=>?_)
 ·obtain ⟨A,B,C,pm,ta,tb,tc,ra,rb,rc,rfl,_⟩:=h; rfl
 obtain ⟨A,B,C,pm,ta,tb,tc,ra,rb,rc,rfl,hM,zA,zB,zC,q⟩:=h
 refine ⟨_,(zg (zk (jl zaP rfl jM JH (za (ya ["_law_table"] [] [] ⟨rfl,rfl,rfl,rfl,rfl,rfl,by decide +kernel⟩ rfl (zgY (pv 0)) (zo (by decide)) fun _ _ _ _ _ _=>⟨(zh (i:=0) (by decide:(["_law_table"]:List Str).Nodup) rfl (by first | exact Or.inl rfl | exact Or.inr rfl)),zQ,(ya ["_law_row"] [] [] ⟨rfl,rfl,rfl,rfl,rfl,rfl,by decide +kernel⟩ rfl (zM (pv 0)) (zo (by decide)) fun _ _ _ _ _ _=>⟨(zh (i:=0) (by decide:(["_law_row"]:List Str).Nodup) rfl (by first | exact Or.inl rfl | exact Or.inr rfl)),zQ,(jl qs rfl yS qQ (za (pv 0) zd))⟩)⟩) zd)))),?_⟩
 refine ⟨_,rfl,pm,rfl,⟨_,SqT.of hM.tup⟩,?_⟩
 refine zfh (xs:=[.ref ta,.ref tb,.ref tc]) (fun i ys H'=>∃ ts rs,ys = ts.map V.ref∧GrowTs H H' ([A,B,C].take i) ts rs) ⟨[],[],rfl,GrowTs.nil (Same.refl H)⟩ ?_ ?_ ?_
 ·rintro i ys H' hi ⟨ts,rs,rfl,G⟩
  refine ⟨SqT.of (G.same _ _ hM.tup),?_⟩
  have:=G.lt
  rw [List.length_take] at this
  rw [List.length_map,this]
  exact Nat.lt_of_le_of_lt (Nat.min_le_right _ _) (by show 3 < sizeLine; decide)
 ·rintro i v ys H' hv hi ⟨ts,rs,rfl,G⟩
  obtain ⟨M,t,ras,eM,rfl,hT,hz⟩ : ∃ M t ras,[A,B,C][i]? = some M∧v = .ref t∧TabAt H' M t ras∧M.length < sizeLine:=by
   match i,hv with
   | 0,hv=>cases hv; exact ⟨A,ta,ra,rfl,rfl,hM.a.mono G.same,zA⟩
   | 1,hv=>cases hv; exact ⟨B,tb,rb,rfl,rfl,hM.b.mono G.same,zB⟩
   | 2,hv=>cases hv; exact ⟨C,tc,rc,rfl,rfl,hM.c.mono G.same,zC⟩
  first | refine gyes ?_ | refine tyes ?_
  refine ⟨_,rfl,t,rfl,⟨_,SqL.of hT.1⟩,?_⟩
  refine zc5 hT hz (fun a us H2 Q2 ha hq=>⟨_,rfl,a,us,rfl,.inl (SqL.of ha),hq⟩) ?_
  intro ras2 H2 G2 p hp
  have N:=G2.done hp
  refine nxt hi ⟨ts ++ [p],rs ++ [ras2],by rw [List.map_append]; rfl,?_⟩
  rw [zD eM]
  exact G.push (G2.same.trans (ze hp _)) N
 ·rintro ys H' ⟨ts,rs,rfl,G⟩ p hp
  have G':GrowTs H H' [A,B,C] ts rs:=G
  obtain ⟨t1,t2,t3,rfl⟩ : ∃ t1 t2 t3,ts = [t1,t2,t3]:=by
   match ts,G'.lt with
   | [a,b,c],_=>exact ⟨a,b,c,rfl⟩
  obtain ⟨r1,r2,r3,rfl⟩ : ∃ r1 r2 r3,rs = [r1,r2,r3]:=by
   match rs,G'.lr with
   | [a,b,c],_=>exact ⟨a,b,c,rfl⟩
  refine ⟨p,_,rfl,.inl ⟨SqL.of zf,fun l hl=>?_⟩⟩
  have g1:=ze hp (.lst ([t1,t2,t3].map V.ref))
  have g2:=ze hl (.tup ([t1,t2,t3].map V.ref))
  exact q l t1 t2 t3 r1 r2 r3 _ ((G'.same.trans g1).trans g2) ⟨zf,((G'.tabs 0 _ _ _ rfl rfl rfl).mono g1).mono g2,((G'.tabs 1 _ _ _ rfl rfl rfl).mono g1).mono g2,((G'.tabs 2 _ _ _ rfl rfl rfl).mono g1).mono g2⟩
theorem ze1 {K:PySem.W.Frag} {te:TE} {σb:L2.St} {t:Addr} {ras:List Addr} {M:List (List Nb)} {H:Hp} {R:List V→Hp→Prop} (f:List Nb→List Nb) (hT:TabAt H M t ras) (hz:M.length < sizeLine)
  (hte:∀ (r:List Nb) (a:Addr) (H':Hp) (Q:VK),r∈M→Same H H'→RowAt H' r a→(∀ (p:Addr) (us:List V) (H2:Hp),Same H' H2→H2 p = none→Paired (RN H2) (f r) us→Q (.ref p) (upd H2 p (.lst us)))→te (σb.set 0 (some (.ref a))) H' Q)
  (hd:∀ (ras2:List Addr) (H':Hp),Grow H H' (M.map f) ras2→R (ras2.map V.ref) H') :
  ∃ W:Nat→Nat→List V→Hp→Prop,(∃ m,W 0 m [] H)∧∀ i m ys H,W i m ys H →
   ((Itl K t).stop i H∧ys.length≤sizeLine∧R ys H) ∨
   ((Itl K t).go i H∧ys.length < sizeLine∧∀ x H',(Itl K t).yld i H x H'→gName 0 x σb H' fun σ2 H2=>tTrue σ2 H2 fun b H3=>if b = true then te σ2 H3 fun y H4=>∃ m',m' < m∧W (i + 1) m' (ys ++ [y]) H4 else ∃ m',m' < m∧W (i + 1) m' ys H3):=by
 have hl:=zj hT.2
 refine zT (xs:=ras.map V.ref) (fun i ys H'=>∃ ras2,ys = ras2.map V.ref∧Grow H H' ((M.map f).take i) ras2) ⟨[],rfl,Grow.nil H (Same.refl H)⟩ ?_ ?_ ?_
 ·rintro i ys H' hi ⟨ras2,rfl,G⟩
  refine ⟨SqL.of (G.same _ _ hT.1),?_⟩
  have:=zj G.rows
  rw [List.length_take,List.length_map] at this
  rw [List.length_map]; omega
 ·rintro i v ys H' hv hi ⟨ras2,rfl,G⟩
  obtain ⟨row,a,hrow,ha,rfl,hR⟩:=(hT.mono G.same).row hv
  refine gyes (hte row a H' _ (List.mem_of_getElem? hrow) G.same hR fun p us H2 g2 hp pu=>?_)
  refine nxt hi ⟨ras2 ++ [p],by rw [List.map_append]; rfl,?_⟩
  have e:(M.map f)[i]? = some (f row):=by rw [List.getElem?_map,hrow]; rfl
  rw [zD e]
  exact (G.mono g2).snoc hp pu
 ·rintro ys H' ⟨ras2,rfl,G⟩
  rw [List.length_map,← hl,List.take_of_length_le (by rw [List.length_map]; exact Nat.le_refl _)] at G
  exact hd ras2 H' G
theorem zc0 {K:PySem.W.Frag} {te:TE} {σb:L2.St} {t:Addr} {ras:List Addr} {M:List (List Nb)} {H:Hp} {R:List V→Hp→Prop} (f:List Nb→List Nb) (hT:TabAt H M t ras) (hz:M.length < sizeLine)
  (hte:∀ (r:List Nb) (a:Addr) (H':Hp) (Q:VK),r∈M→Same H H'→RowAt H' r a→(∀ (p:Addr) (H2:Hp),Same H' H2→NewR H' H2 (f r) p→Q (.ref p) H2)→te (σb.set 0 (some (.ref a))) H' Q)
  (hd:∀ (ras2:List Addr) (H':Hp),Grow H H' (M.map f) ras2→R (ras2.map V.ref) H') :
  ∃ W:Nat→Nat→List V→Hp→Prop,(∃ m,W 0 m [] H)∧∀ i m ys H,W i m ys H →
   ((Itl K t).stop i H∧ys.length≤sizeLine∧R ys H) ∨
   ((Itl K t).go i H∧ys.length < sizeLine∧∀ x H',(Itl K t).yld i H x H'→gName 0 x σb H' fun σ2 H2=>tTrue σ2 H2 fun b H3=>if b = true then te σ2 H3 fun y H4=>∃ m',m' < m∧W (i + 1) m' (ys ++ [y]) H4 else ∃ m',m' < m∧W (i + 1) m' ys H3):=by
 have hl:=zj hT.2
 refine zT (xs:=ras.map V.ref) (fun i ys H'=>∃ ras2,ys = ras2.map V.ref∧Grow H H' ((M.map f).take i) ras2) ⟨[],rfl,Grow.nil H (Same.refl H)⟩ ?_ ?_ ?_
 ·rintro i ys H' hi ⟨ras2,rfl,G⟩
  refine ⟨SqL.of (G.same _ _ hT.1),?_⟩
  have:=zj G.rows
  rw [List.length_take,List.length_map] at this
  rw [List.length_map]; omega
 ·rintro i v ys H' hv hi ⟨ras2,rfl,G⟩
  obtain ⟨row,a,hrow,ha,rfl,hR⟩:=(hT.mono G.same).row hv
  refine gyes (hte row a H' _ (List.mem_of_getElem? hrow) G.same hR fun p H2 g2 nr=>?_)
  refine nxt hi ⟨ras2 ++ [p],by rw [List.map_append]; rfl,?_⟩
  have e:(M.map f)[i]? = some (f row):=by rw [List.getElem?_map,hrow]; rfl
  rw [zD e]
  exact G.snocR g2 nr.row nr.fa
 ·rintro ys H' ⟨ras2,rfl,G⟩
  rw [List.length_map,← hl,List.take_of_length_le (by rw [List.length_map]; exact Nat.le_refl _)] at G
  exact hd ras2 H' G
theorem YF {H:Hp} {p:Addr} (w:Int) (h:H p = some (.tup [.int w,.int 1])):RN H (nnum 0 w) (.ref p):=RN.of_q (r:=((w:Int):Rat)) h
theorem hk0:KindOk 0:=.inl rfl
noncomputable def zdi:Sp:=fun vs H Q _=>∃ (x y:List Nb) (zx zy:Nat) (px py:Addr),vs = [.ref px,.ref py]∧RowAt H x px∧RowAt H y py∧x.length = y.length∧x.length≤20∧La.OkR 0 x∧La.OkR 0 y∧(∀ u∈x,nsm zx u)∧(∀ u∈y,nsm zy u)∧zx + zy≤100000 ∧
 ∀ v H',Same H H'→RN H' (La.ndot 0 x y) v→Q v H'
theorem zgu (D:Df K mg "_law_sum" ["_law_one", "_law_other"] qG) (yg:Kn P w K mg base "_law_plus" 42 ["_law_prime_here", "_law_one", "_law_other"] (xv nadd)) (zX:Kn P w K mg base "_law_times" 42 ["_law_prime_here", "_law_one", "_law_other"] (xv nmul)) (m_zip:mg "zip" = none):Kn P w K mg base "_law_sum" 43 ["_law_one", "_law_other"] zdi:=by
 refine D.kn sc__law_sum (fun vs H Q E h=>?_) (fun f cdv A' outer s' H vs Q E hr h=>?_)
 ·obtain ⟨x,y,zx,zy,px,py,rfl,_⟩:=h; rfl
 obtain ⟨x,y,zx,zy,px,py,rfl,hx,hy,lxy,l20,ox,oy,sx,sy,zz,q⟩:=h
 have hk:=hk0
 obtain ⟨us1,hu1,pu1,lu1⟩:=hx.len
 obtain ⟨us2,hu2,pu2,lu2⟩:=hy.len
 have lz:(x.zip y).length = x.length:=by rw [List.length_zip]; omega
 have hz:∀ q∈x.zip y,q.1.ok 0∧q.2.ok 0∧szk 0 zx q.1∧szk 0 zy q.2:=fun q hq=>⟨ox _ (List.of_mem_zip hq).1,oy _ (List.of_mem_zip hq).2,fun _=>sx _ (List.of_mem_zip hq).1,fun _=>sy _ (List.of_mem_zip hq).2⟩
 refine ⟨_,(zc (zm (i:=2) sc__law_sum.nd rfl (.inl rfl) (yv (za zb (za zb zd)))) (zc (yu PassesOwn.never rfl (qJ rfl m_zip (za (pv 0) (za (pv 1) zd))) (jh 2 rfl (zS (zh (i:=3) sc__law_sum.nd rfl (.inl rfl)) (zS (zh (i:=4) sc__law_sum.nd rfl (.inl rfl)) xn))) (zg (zm (i:=2) sc__law_sum.nd rfl (.inl rfl) (zu yg (hr.mono (by decide)) rfl (za zb (za (pv 2) (za (zu zX (hr.mono (by decide)) rfl (za zb (za (pv 3) (za (pv 4) zd)))) zd))))))) (zg (zk (pv 2))))),?_⟩
 refine ⟨(by show 2≤sizeLine; decide),fun p0 hp0=>?_⟩
 have g0:=ze hp0 (.tup [.int 0,.int 1])
 have r0:RN (upd H p0 (.tup [.int 0,.int 1])) (nnum 0 0) (.ref p0):=YF 0 zf
 generalize upd H p0 (.tup [.int 0,.int 1]) = H0 at *
 refine ⟨_,rfl,_,rfl,px,py,us1,us2,rfl,SqL.of (g0 _ _ hu1),SqL.of (g0 _ _ hu2),?_⟩
 refine zg8 (xs:=us1) (zs:=us2) (by omega) (fun i σ H'=>∃ (v:V) (o3 o4:Option V),σ = [some (.ref px),some (.ref py),some v,o3,o4]∧Same H H'∧RN H' (La.ndotF 0 ((x.zip y).take i)) v) ⟨.ref p0,none,none,rfl,g0,r0⟩ ?_ ?_ ?_
 ·rintro i σ H' _ ⟨v,o3,o4,rfl,g,_⟩
  exact ⟨SqL.of (g _ _ hu1),SqL.of (g _ _ hu2)⟩
 ·rintro i a b T σ H1 ha hb hT ⟨v,o3,o4,rfl,g,rv⟩
  obtain ⟨na,ea,ra⟩:=zW pu1 ha
  obtain ⟨nb,eb,rb⟩:=zW pu2 hb
  have gN:=ze hT (.tup [a,b])
  have gT:=g.trans gN
  refine ⟨T,_,rfl,SqT.of zf,rfl,_,_,rfl,_,_,rfl,rfl,?_⟩
  generalize upd H1 T (.tup [a,b]) = H2 at *
  have oa:=ox na (List.mem_of_getElem? ea)
  have ob:=oy nb (List.mem_of_getElem? eb)
  have il:i < x.length:=(List.getElem?_eq_some_iff.mp ea).1
  have sd:=zbf (k:=0) (a:=zx) (b:=zy) hk (x.zip y) hz i (by omega)
  have od:=La.jC hk ((x.zip y).take i) fun q hq=>⟨(hz q (List.mem_of_mem_take hq)).1,(hz q (List.mem_of_mem_take hq)).2.1⟩
  have im:i * (zx + zy + 1)≤20 * 100001:=Nat.mul_le_mul (by omega) (by omega)
  have om:=La.ym hk oa ob
  have sm:nsm 60000000 (nmul 0 na nb):=((JV oa ob (fun _=>sx na (List.mem_of_getElem? ea)) (fun _=>sy nb (List.mem_of_getElem? eb))) rfl).mono (by omega)
  refine ⟨_,rfl,_,rfl,_,rfl,0,na,nb,a,b,rfl,⟨hk,oa,ob,(sx na (List.mem_of_getElem? ea)).mono (by omega),(sy nb (List.mem_of_getElem? eb)).mono (by omega),ra.mono gT,rb.mono gT⟩,fun v3 H3 g3 r3=>?_⟩
  refine ⟨0,_,_,v,v3,rfl,⟨hk,od,om,(sd rfl).mono (by omega),sm,(rv.mono gN).mono g3,r3⟩,fun v4 H4 g4 r4=>?_⟩
  refine ⟨v4,_,_,rfl,(gT.trans g3).trans g4,?_⟩
  have e:(x.zip y)[i]? = some (na,nb):=by rw [List.getElem?_zip_eq_some]; exact ⟨ea,eb⟩
  rw [zD e,La.qD]
  exact r4
 ·rintro σ H1 ⟨v,o3,o4,rfl,g,rv⟩
  rw [List.take_of_length_le (by omega)] at rv
  exact ⟨_,rfl,q v H1 g rv⟩
noncomputable def colsT (k:Int) (h:Nat) (A B:List (List Nb)):Nat→List (List Nb)
 | 0=>[]
 | t + 1=>((transp h B).map fun c=>powX k A c t) ++ colsT k h A B t
theorem Za {k:Int} {h:Nat} {A B:List (List Nb)}:∀ t,(colsT k h A B t).length = t * h
 | 0=>by rw [Nat.zero_mul]; rfl
 | t + 1=>by
  show (((transp h B).map fun c=>powX k A c t) ++ colsT k h A B t).length = _
  rw [List.length_append,List.length_map,zq,Za t,Nat.add_mul,Nat.one_mul]; omega
theorem XC {k:Int} {h:Nat} {A B:List (List Nb)}:∀ t c,c∈colsT k h A B t→∃ b∈transp h B,∃ i,i < t∧c = powX k A b i
 | 0,_,hc=>nomatch hc
 | t + 1,c,hc=>by
  rcases List.mem_append.mp hc with h' | h'
  ·obtain ⟨b,hb,rfl⟩:=List.mem_map.mp h'
   exact ⟨b,hb,t,by omega,rfl⟩
  ·obtain ⟨b,hb,i,hi,e⟩:=XC t c h'
   exact ⟨b,hb,i,by omega,e⟩
noncomputable def zbu:Sp:=fun vs H Q _=>∃ (A B C:List (List Nb)) (n h s turns:Nat) (tI:Int) (pm ta tb tc:Addr) (ra rb rc:List Addr),vs = [.ref pm,.int tI]∧tI = (turns:Int)∧MachAt H A B C pm ta tb tc ra rb rc∧1≤n∧n≤3∧MOk 0 n h s 80 A B C∧TW 0 n n 14 A∧TW 0 n h 14 B∧h≤2∧turns≤4 ∧
 ∀ t rs H',Same H H'→TabAt H' (colsT 0 h A B turns) t rs→Q (.ref t) H'
theorem zfC (D:Df K mg "_law_columns" ["_law_machine_here", "_law_turns"] xf) (Jp:Kn P w K mg base "_law_across" 1 ["_law_table"] xJ) (xL:Kn P w K mg base "_law_image" 43 ["_law_prime_here", "_law_table", "_law_column"] Xl) (zt:mg "range" = none):Kn P w K mg base "_law_columns" 44 ["_law_machine_here", "_law_turns"] zbu:=by
 refine D.kn sc__law_columns (fun vs H Q E h=>?_) (fun f cdv A' outer s' H vs Q E hr h=>?_)
 ·obtain ⟨A,B,C,n,h,s,turns,tI,pm,ta,tb,tc,ra,rb,rc,rfl,_⟩:=h; rfl
 obtain ⟨A,B,C,n,h,s,turns,tI,pm,ta,tb,tc,ra,rb,rc,rfl,rfl,hM,n1,n3,oM,wA,wB,h2,t4,q⟩:=h
 have hk:=hk0
 have szl:sizeLine = 16777216:=by decide
 have lA:=oM.a.len
 have lB:=oM.b.len
 have oT:=XZ oM.b
 have lbt:=oT.len
 have n4:(0:Int) = 0→n≤4:=fun _=>by omega
 have wT:=xC wB.ok wB.sz
 have sA:∀ r∈A,∀ x∈r,szk 0 80 x:=fun r hr x hx _=>oM.a.sz r hr x hx
 have oP:∀ (c:List Nb),c∈transp h B→∀ i,La.OkR 0 (powX 0 A c i)∧(powX 0 A c i).length = n:=fun c hc i=>xm hk oM.a.ok lA (oT.ok c hc).2 (oT.ok c hc).1 i
 have sP:∀ (c:List Nb),c∈transp h B→∀ i,i≤4→∀ x∈powX 0 A c i,szk 0 78 x:=fun c hc i hi x hx=>((YD hk n4 wA (oT.ok c hc).2 (oT.ok c hc).1 (wT c hc) i x hx).mono (by omega)).szk (by decide)
 refine ⟨_,(zc (zm (i:=2) sc__law_columns.nd rfl (.inl rfl) (yC zd)) (zc (zm (i:=3) sc__law_columns.nd rfl (.inl rfl) (zu Jp (hr.mono (by decide)) rfl (za (zE zw (pv 0) zb (fun _ _=>rfl)) zd))) (zc (yu PassesOwn.never rfl (zR rfl zt (za (pv 1) zd)) (zh (i:=4) sc__law_columns.nd rfl (.inl rfl)) (zc (zm (i:=2) sc__law_columns.nd rfl (.inl rfl) (zi Zq (pv 3) (pv 2))) (zg (je (i:=3) sc__law_columns.nd rfl rfl ["_law_column"] ["_law_machine_here"] [0] ⟨rfl,rfl,rfl,rfl,rfl,rfl,by decide +kernel⟩ rfl (zM (pv 3)) (zo (by decide)) fun _ _ _ _ _ _=>⟨(zh (i:=0) (by decide:(["_law_column", "_law_machine_here"]:List Str).Nodup) rfl (by first | exact Or.inl rfl | exact Or.inr rfl)),zQ,(zu xL (hr.mono (by decide)) rfl (za zb (za (zE zw (pv 1) zb (fun _ _=>rfl)) (za (pv 0) zd))))⟩)))) (zg (zk (pv 2)))))),?_⟩
 refine ⟨(by show 0≤sizeLine; decide),fun p0 hp0=>?_⟩
 have g0:=ze hp0 (.lst [])
 have h0:upd H p0 (.lst []) p0 = some (.lst []):=zf
 generalize upd H p0 (.lst []) = H0 at *
 have hM0:=hM.mono g0
 refine ⟨_,rfl,pm,_,_,_,rfl,rfl,SqT.of hM0.tup,rfl,B,h,tb,rb,rfl,hM0.b,(fun e=>by rw [e] at lB; simp at lB; omega),(fun r hr=>(oM.b.ok r hr).1),by omega,by omega,fun t1 r1 H1 g1 N1=>?_⟩
 refine ⟨_,rfl,turns,rfl,by omega,by omega,?_⟩
 rw [Int.toNat_natCast]
 refine yz (lo:=0) (n:=turns) (fun i σ H'=>∃ (ps pt:Addr) (rs rt:List Addr) (o4:Option V),σ = [some (.ref pm),some (.int (turns:Int)),some (.ref ps),some (.ref pt),o4]∧Same H H'∧TabAt H' (colsT 0 h A B i) ps rs∧TabAt H' ((transp h B).map fun c=>powX 0 A c i) pt rt) ⟨p0,t1,[],r1,none,rfl,g0.trans g1,⟨g1 _ _ h0,.nil⟩,(by rw [show ((transp h B).map fun b=>powX 0 A b 0) = transp h B from List.map_id' _]; exact N1.tab)⟩ ?_ ?_
 ·rintro i σ H2 hi ⟨ps,pt,rs,rt,o4,rfl,g,hS,hT⟩
  have lrs:=zj hS.2
  have lrt:=zj hT.2
  rw [Za] at lrs
  rw [List.length_map,lbt] at lrt
  have ih:i * h≤4 * 2:=Nat.mul_le_mul (by omega) h2
  refine ⟨_,rfl,_,rfl,pt,ps,_,_,rfl,rfl,hT.1,hS.1,(by rw [List.length_map,List.length_map]; omega),fun p2 hp2=>?_⟩
  have g2:=ze hp2 (.lst (rt.map V.ref ++ rs.map V.ref))
  have hS2:TabAt (upd H2 p2 (.lst (rt.map V.ref ++ rs.map V.ref))) (colsT 0 h A B (i + 1)) p2 (rt ++ rs):=⟨by rw [zf,List.map_append],xI (fun _ _ r=>r.mono g2) (qI hT.2 hS.2)⟩
  have hT2:=hT.mono g2
  have gg:=g.trans g2
  generalize upd H2 p2 (.lst (rt.map V.ref ++ rs.map V.ref)) = H3 at *
  have hM3:=hM.mono gg
  refine ⟨_,rfl,pt,rfl,⟨_,SqL.of hT2.1⟩,?_⟩
  refine zc0 (imgM 0 A) hT2 (by rw [List.length_map,lbt]; omega) ?_ ?_
  ·intro r a H4 Q4 hr4 g4 hR4 hq4
   obtain ⟨c,hc,rfl⟩:=List.mem_map.mp hr4
   have o:=oP c hc i
   exact ⟨_,rfl,pm,_,_,_,rfl,rfl,SqT.of (hM3.mono g4).tup,rfl,_,rfl,0,A,_,n,80,78,ta,a,ra,rfl,hk,hM3.a.mono g4,hR4,oM.a.ok,o.2,o.1,sA,sP c hc i (by omega),by decide,by omega,by omega,fun p H5 g5 nr _=>hq4 p H5 g5 nr⟩
  intro rt2 H4 G4 p4 hp4
  have N4:=G4.done hp4
  have g4:=G4.same.trans (ze hp4 (.lst (rt2.map V.ref)))
  have em:((transp h B).map fun b=>powX 0 A b i).map (imgM 0 A) = (transp h B).map fun b=>powX 0 A b (i + 1):=by rw [List.map_map]; rfl
  rw [em] at N4
  exact ⟨p2,p4,rt ++ rs,rt2,_,rfl,gg.trans g4,hS2.mono g4,N4.tab⟩
 ·rintro σ H2 ⟨ps,pt,rs,rt,o4,rfl,g,hS,hT⟩
  exact ⟨_,rfl,q ps rs H2 g hS⟩
theorem zgQ (xs:List V) (N:Nat):cutV xs none (some (N:Int)) = xs.take N:=by
 unfold cutV
 rw [HT.Yq,Nat.sub_zero,List.drop_zero,HT.ZQ]
 rcases Nat.lt_or_ge N xs.length with h | h
 ·rw [Nat.min_eq_left (by omega)]
 ·rw [Nat.min_eq_right (by omega),List.take_of_length_le (Nat.le_refl _),List.take_of_length_le h]
theorem zar (xs:List V) (N:Nat):cutV xs (some (N:Int)) none = xs.drop N:=by
 unfold cutV
 rw [HT.ZQ]
 rcases Nat.lt_or_ge N xs.length with h | h
 ·rw [Nat.min_eq_left (by omega),List.take_of_length_le (by rw [List.length_drop]; first | exact Nat.le_refl _ | (rw [HT.Yq]; exact Nat.le_refl _) | (simp))]
 ·rw [Nat.min_eq_right (by omega),List.drop_of_length_le (Nat.le_refl _),List.drop_of_length_le h]; simp
noncomputable def mnr (j:Nat) (R:List (List Nb)):List (List Nb):=(R.drop 1).map fun r=>r.take j ++ r.drop (j + 1)
noncomputable def sgn (j:Nat):Int:=1 - 2 * ((j:Int).fmod 2)
noncomputable def ldet:Nat→List (List Nb)→Nb
 | 0,_=>nnum 0 1
 | n + 1,R=>(List.range (n + 1)).foldl (fun s j=>nadd 0 s (nmul 0 (nnum 0 (sgn j)) (nmul 0 ((R.getD 0 []).getD j (nnum 0 0)) (ldet n (mnr j R))))) (nnum 0 0)
theorem qT {n j:Nat} {R:List (List Nb)} (lR:R.length = n + 1) (hj:j < n + 1) (oR:La.OkM 0 (n + 1) R) (wR:∀ r∈R,∀ x∈r,whk 0 78 x):(mnr j R).length = n∧La.OkM 0 n (mnr j R)∧∀ r∈mnr j R,∀ x∈r,whk 0 78 x:=by
 unfold mnr
 refine ⟨by rw [List.length_map,List.length_drop]; omega,fun r hr=>?_,fun r hr x hx=>?_⟩
 all_goals
  obtain ⟨q,hq,rfl⟩:=List.mem_map.mp hr
  have hq':=List.mem_of_mem_drop hq
  have o:=oR q hq'
 ·refine ⟨by rw [List.length_append,List.length_take,List.length_drop,o.1]; omega,fun x hx=>?_⟩
  rcases List.mem_append.mp hx with h | h
  ·exact o.2 x (List.mem_of_mem_take h)
  ·exact o.2 x (List.mem_of_mem_drop h)
 ·rcases List.mem_append.mp hx with h | h
  ·exact wR q hq' x (List.mem_of_mem_take h)
  ·exact wR q hq' x (List.mem_of_mem_drop h)
theorem zbA (j:Nat):(sgn j).natAbs < 2 ^ 1:=by
 unfold sgn
 have f0:=Int.fmod_nonneg_of_pos (j:Int) (show (0:Int) < 2 by decide)
 have f1:=Int.fmod_lt_of_pos (j:Int) (show (0:Int) < 2 by decide)
 omega
theorem Yr {n:Nat} {R:List (List Nb)} (lR:R.length = n + 1) (oR:La.OkM 0 (n + 1) R) (wR:∀ r∈R,∀ x∈r,whk 0 78 x) (hd:∀ j,j < n + 1→(ldet n (mnr j R)).ok 0∧whk 0 (n * 90 + 1) (ldet n (mnr j R))):∀ t,t≤n + 1→((List.range t).foldl (fun s j=>nadd 0 s (nmul 0 (nnum 0 (sgn j)) (nmul 0 ((R.getD 0 []).getD j (nnum 0 0)) (ldet n (mnr j R))))) (nnum 0 0)).ok 0∧whk 0 (n * 90 + 81 + t) ((List.range t).foldl (fun s j=>nadd 0 s (nmul 0 (nnum 0 (sgn j)) (nmul 0 ((R.getD 0 []).getD j (nnum 0 0)) (ldet n (mnr j R))))) (nnum 0 0))
 | 0,_=>⟨La.zI hk0 0,fun _=>⟨0,rfl,Nat.two_pow_pos _⟩⟩
 | t + 1,ht=>by
  obtain ⟨o,h⟩:=Yr lR oR wR hd t (by omega)
  obtain ⟨o1,h1⟩:=hd t (by omega)
  rw [List.range_succ,List.foldl_append]
  have h0:0 < R.length:=by omega
  have or:=oR R[0] (List.getElem_mem h0)
  have e0:R.getD 0 [] = R[0]:=by rw [List.getD_eq_getElem?_getD,List.getElem?_eq_getElem h0]; rfl
  have e:(R.getD 0 []).getD t (nnum 0 0) = R[0][t]'(by rw [or.1]; omega):=by
   rw [e0,List.getD_eq_getElem?_getD,List.getElem?_eq_getElem (by rw [or.1]; omega)]; rfl
  have ox:((R.getD 0 []).getD t (nnum 0 0)).ok 0:=by rw [e]; exact or.2 _ (List.getElem_mem _)
  have wx:whk 0 78 ((R.getD 0 []).getD t (nnum 0 0)):=by rw [e]; exact wR _ (List.getElem_mem h0) _ (List.getElem_mem _)
  have os:=La.zI hk0 (sgn t)
  have ws:whk 0 1 (nnum 0 (sgn t)):=fun _=>⟨sgn t,rfl,zbA t⟩
  have om:=La.ym hk0 ox o1
  have om2:=La.ym hk0 os om
  refine ⟨La.yJ hk0 o om2,(JU o om2 h (xZ os om ws (xZ ox o1 wx h1))).mono (by omega)⟩
theorem ZB:∀ (n:Nat) (R:List (List Nb)),R.length = n→La.OkM 0 n R→(∀ r∈R,∀ x∈r,whk 0 78 x)→n≤3→(ldet n R).ok 0∧whk 0 (n * 90 + 1) (ldet n R)
 | 0,_,_,_,_,_=>⟨La.zI hk0 1,fun _=>⟨1,rfl,by decide⟩⟩
 | n + 1,R,lR,oR,wR,n3=>by
  obtain ⟨o,h⟩:=Yr lR oR wR (fun j hj=>by
   obtain ⟨l,o,w⟩:=qT lR hj oR wR
   exact ZB n _ l o w (by omega)) (n + 1) (Nat.le_refl _)
  exact ⟨o,h.mono (by omega)⟩
noncomputable def zbR (d:Nat):Sp:=fun vs H Q _=>∃ (R:List (List Nb)) (n:Nat) (p:Addr) (rs:List Addr),vs = [.ref p]∧TabAt H R p rs∧R.length = n∧La.OkM 0 n R∧(∀ r∈R,∀ x∈r,whk 0 78 x)∧n < d∧n≤3 ∧
 ∀ v H',Same H H'→RN H' (ldet n R) v→Q v H'
theorem zgK (D:Df K mg "_law_det" ["_law_rows"] ji):Kn P w K mg base "_law_det" (46 + 0) ["_law_rows"] (zbR 0):=by
 refine D.kn sc__law_det (fun vs H Q E h=>?_) (fun f cdv A outer s H vs Q E hr h=>?_)
 all_goals
  obtain ⟨R,n,p,rs,rfl,hT,lR,oR,wR,nd,_⟩:=h
  exact absurd nd (by omega)
theorem Jw (d:Nat) (D:Df K mg "_law_det" ["_law_rows"] ji) (ZE:Kn P w K mg base "_law_det" (46 + d) ["_law_rows"] (zbR d)) (yg:Kn P w K mg base "_law_plus" 42 ["_law_prime_here", "_law_one", "_law_other"] (xv nadd)) (zX:Kn P w K mg base "_law_times" 42 ["_law_prime_here", "_law_one", "_law_other"] (xv nmul)) (zt:mg "range" = none) (m_len:mg "len" = none):Kn P w K mg base "_law_det" (46 + d + 1) ["_law_rows"] (zbR (d + 1)):=by
 refine D.kn sc__law_det (fun vs H Q E h=>?_) (fun f cdv A outer s H vs Q E hr h=>?_)
 ·obtain ⟨R,n,p,rs,rfl,_⟩:=h; rfl
 obtain ⟨R,n,p,rs,rfl,hT,lR,oR,wR,nd,n3,q⟩:=h
 have hk:=hk0
 have szl:sizeLine = 16777216:=by decide
 have lt:=zj hT.2
 rw [lR] at lt
 refine ⟨_,(zc (yi (zH xt (zG zP rfl m_len yt (za (pv 0) zd)) zb (nomark _)) (zg (zk (yv (za zb (za zb zd))))) zL) (zc (zm (i:=1) sc__law_det.nd rfl (.inl rfl) (yv (za zb (za zb zd)))) (zc (yu PassesOwn.never rfl (zR rfl zt (za (zG zP rfl m_len yt (za (pv 0) zd)) zd)) (zh (i:=2) sc__law_det.nd rfl (.inr rfl)) (zc (zm (i:=3) sc__law_det.nd rfl (.inl rfl) (zu ZE (hr.mono (by omega)) rfl (za (ya ["_law_row"] ["_law_j"] [2] ⟨rfl,rfl,rfl,rfl,rfl,rfl,by decide +kernel⟩ rfl (zM (jy qv (pv 0) (jX zb) ZD)) (zo (by decide)) fun _ _ _ _ _ _=>⟨(zh (i:=0) (by decide:(["_law_row", "_law_j"]:List Str).Nodup) rfl (by first | exact Or.inl rfl | exact Or.inr rfl)),zQ,(zi Zq (jy qv (pv 0) ZD (jX (pv 1))) (jy qv (pv 0) (jX (zi yh (pv 1) zb)) ZD))⟩) zd))) (zg (zm (i:=1) sc__law_det.nd rfl (.inl rfl) (zu yg (hr.mono (by omega)) rfl (za zb (za (pv 1) (za (zu zX (hr.mono (by omega)) rfl (za zb (za (yv (za (zi xG zb (zi zU zb (zi zN (pv 2) zb))) (za zb zd))) (za (zu zX (hr.mono (by omega)) rfl (za zb (za (zE zp (zE zp (pv 0) zb (fun _ _=>rfl)) (pv 2) (fun _ _=>rfl)) (za (pv 3) zd)))) zd)))) zd)))))))) (zg (zk (pv 1)))))),?_⟩
 refine ⟨_,rfl,p,_,rfl,.inl (SqL.of hT.1),rfl,_,rfl,?_⟩
 rw [List.length_map,← lt]
 refine ite2 (fun c=>?_) (fun c=>?_)
 ·have n0:n = 0:=by have:=V.int.inj (of_decide_eq_true c); omega
  subst n0
  refine ⟨(by show 2≤sizeLine; decide),fun p1 hp1=>?_⟩
  exact q _ _ (ze hp1 _) (YF 1 zf)
 obtain ⟨n',rfl⟩ : ∃ n',n = n' + 1:=⟨n - 1,by
  have:n≠0:=fun e=>c (by rw [e]; exact decide_eq_true rfl)
  omega⟩
 refine ⟨(by show 2≤sizeLine; decide),fun p0 hp0=>?_⟩
 have g0:=ze hp0 (.tup [.int 0,.int 1])
 have r0:RN (upd H p0 (.tup [.int 0,.int 1])) (nnum 0 0) (.ref p0):=YF 0 zf
 generalize upd H p0 (.tup [.int 0,.int 1]) = H0 at *
 refine ⟨_,rfl,p,_,rfl,.inl (SqL.of (g0 _ _ hT.1)),_,rfl,(by omega),(by rw [List.length_map,← lt]; omega),?_⟩
 rw [Int.toNat_natCast,List.length_map,← lt]
 have hd:∀ j,j < n' + 1→(ldet n' (mnr j R)).ok 0∧whk 0 (n' * 90 + 1) (ldet n' (mnr j R)):=fun j hj=>by
  obtain ⟨l,o,w⟩:=qT lR hj oR wR
  exact ZB n' _ l o w (by omega)
 have fd:=Yr lR oR wR hd
 have h0R:0 < R.length:=by omega
 have or:=oR R[0] (List.getElem_mem h0R)
 refine yz (lo:=0) (n:=n' + 1) (fun j σ H'=>∃ (v:V) (o2 o3:Option V),σ = [some (.ref p),some v,o2,o3]∧Same H H'∧RN H' ((List.range j).foldl (fun s j=>nadd 0 s (nmul 0 (nnum 0 (sgn j)) (nmul 0 ((R.getD 0 []).getD j (nnum 0 0)) (ldet n' (mnr j R))))) (nnum 0 0)) v) ⟨.ref p0,none,none,rfl,g0,r0⟩ ?_ ?_
 ·rintro j σ H1 hj ⟨v,o2,o3,rfl,g1,rv⟩
  rw [Int.zero_add]
  have T1:=hT.mono g1
  obtain ⟨ml,mo,mw⟩:=qT lR hj oR wR
  refine ⟨_,rfl,_,rfl,p,_,rfl,SqL.of T1.1,fun p2 hp2=>?_⟩
  rw [show cutV (rs.map V.ref) (some 1) none = (rs.map V.ref).drop 1 from zar _ 1,← List.map_drop]
  have g2:=ze hp2 (.lst ((rs.drop 1).map V.ref))
  have T2:TabAt (upd H1 p2 (.lst ((rs.drop 1).map V.ref))) (R.drop 1) p2 (rs.drop 1):=by
   refine ⟨zf,?_⟩
   have pr:=(T1.mono g2).2
   refine Yl (by rw [List.length_drop,List.length_drop,zj pr]) fun i x y e1 e2=>?_
   rw [List.getElem?_drop] at e1 e2
   exact xY pr e1 e2
  have rv2:=rv.mono g2
  have g12:=g1.trans g2
  generalize upd H1 p2 (.lst ((rs.drop 1).map V.ref)) = H2 at *
  refine ⟨p2,rfl,⟨_,SqL.of T2.1⟩,?_⟩
  refine ze1 (fun r=>r.take j ++ r.drop (j + 1)) T2 (by rw [List.length_drop]; omega) ?_ ?_
  ·intro r a H3 Q3 hr3 g3 hR3 hq3
   obtain ⟨us,hu,pu,lu⟩:=hR3.len
   have o:=oR r (List.mem_of_mem_drop hr3)
   refine ⟨_,rfl,_,rfl,_,rfl,a,_,rfl,SqL.of hu,fun pa hpa=>?_⟩
   rw [zgQ]
   have ga:=ze hpa (.lst (us.take j))
   have ea:upd H3 pa (.lst (us.take j)) pa = some (.lst (us.take j)):=zf
   have hua:=ga _ _ hu
   have pua:=yO ga pu
   generalize upd H3 pa (.lst (us.take j)) = Ha at *
   refine ⟨_,rfl,_,rfl,_,_,rfl,rfl,_,rfl,a,_,rfl,SqL.of hua,fun pb hpb=>?_⟩
   rw [show ((j:Int) + 1) = ((j + 1:Nat):Int) by push_cast; rfl,zar] at *
   have gb:=ze hpb (.lst (us.drop (j + 1)))
   have eb:upd Ha pb (.lst (us.drop (j + 1))) pb = some (.lst (us.drop (j + 1))):=zf
   have eab:=gb _ _ ea
   have pub:=yO gb pua
   generalize upd Ha pb (.lst (us.drop (j + 1))) = Hb at *
   refine ⟨pa,pb,_,_,rfl,rfl,eab,eb,(by rw [List.length_take,List.length_drop]; omega),fun pc hpc=>?_⟩
   refine hq3 pc _ Hb (ga.trans gb) hpc (qI (zbG pub j) ?_)
   refine Yl (by rw [List.length_drop,List.length_drop,zj pub]) fun i x y e1 e2=>?_
   rw [List.getElem?_drop] at e1 e2
   exact xY pub e1 e2
  intro r3 H3 G3 p3 hp3
  have N3:=G3.done hp3
  have g3:=G3.same.trans (ze hp3 (.lst (r3.map V.ref)))
  generalize upd H3 p3 (.lst (r3.map V.ref)) = H4 at *
  have T4:TabAt H4 (mnr j R) p3 r3:=N3.tab
  refine ⟨mnr j R,n',p3,r3,rfl,T4,ml,mo,mw,by omega,by omega,fun vd H5 g5 rd=>?_⟩
  obtain ⟨od,wd⟩:=hd j hj
  have g15:=(g12.trans g3).trans g5
  have T5:=hT.mono g15
  obtain ⟨a0,ea0,ra0⟩:=yM T5.2 (List.getElem?_eq_getElem h0R)
  obtain ⟨u0,hu0,pu0,lu0⟩:=ra0.len
  have hj0:j < R[0].length:=by rw [or.1]; exact hj
  obtain ⟨vx,evx,rvx⟩:=yM pu0 (List.getElem?_eq_getElem hj0)
  have e00:R.getD 0 [] = R[0]:=by rw [List.getD_eq_getElem?_getD,List.getElem?_eq_getElem h0R]; rfl
  have ex:(R.getD 0 []).getD j (nnum 0 0) = R[0][j]:=by
   rw [e00,List.getD_eq_getElem?_getD,List.getElem?_eq_getElem hj0]; rfl
  have oxj:=or.2 _ (List.getElem_mem hj0)
  have wxj:=wR _ (List.getElem_mem h0R) _ (List.getElem_mem hj0)
  refine ⟨_,rfl,_,rfl,_,_,rfl,rfl,(by show (2:Int)≠0; decide),_,_,rfl,rfl,(IntMulOk.of_left (intBits_le_64 (by decide) (by decide))),_,_,rfl,rfl,(by show 2≤sizeLine; decide),fun ps hps=>?_⟩
  have gs:=ze hps (.tup [.int (sgn j),.int 1])
  have rs':RN (upd H5 ps (.tup [.int (sgn j),.int 1])) (nnum 0 (sgn j)) (.ref ps):=YF _ zf
  show _
  have key:∀ H6,H6 = upd H5 ps (.tup [.int (sgn j),.int 1])→True:=fun _ _=>trivial
  clear key
  refine ⟨_,rfl,p,_,_,.ref a0,rfl,rfl,SqL.of (gs _ _ T5.1),zK (j:=0) (by rw [List.getElem?_map,ea0]; rfl),_,rfl,a0,_,_,vx,rfl,rfl,SqL.of (gs _ _ hu0),zK evx,_,rfl,0,R[0][j],_,vx,vd,rfl,⟨hk,oxj,od,wxj.nsm hk oxj (by decide) (by decide),wd.nsm hk od (by omega) (by decide),rvx.mono gs,rd.mono gs⟩,fun v7 H7 g7 r7=>?_⟩
  have om:=La.ym hk oxj od
  have wm:=xZ oxj od wxj wd
  have os:=La.zI hk (sgn j)
  have ws:whk 0 1 (nnum 0 (sgn j)):=fun _=>⟨sgn j,rfl,zbA j⟩
  refine ⟨0,nnum 0 (sgn j),_,_,v7,rfl,⟨hk,os,om,ws.nsm hk os (by decide) (by decide),wm.nsm hk om (by omega) (by decide),rs'.mono g7,r7⟩,fun v8 H8 g8 r8=>?_⟩
  have om2:=La.ym hk os om
  obtain ⟨of',wf⟩:=fd j (by omega)
  refine ⟨0,_,_,v,v8,rfl,⟨hk,of',om2,wf.nsm hk of' (by omega) (by decide),(xZ os om ws wm).nsm hk om2 (by omega) (by decide),((((rv2.mono g3).mono g5).mono gs).mono g7).mono g8,r8⟩,fun v9 H9 g9 r9=>?_⟩
  refine ⟨v9,_,_,rfl,(((g15.trans gs).trans g7).trans g8).trans g9,?_⟩
  rw [List.range_succ,List.foldl_append]
  show RN H9 (nadd 0 _ (nmul 0 (nnum 0 (sgn j)) (nmul 0 ((R.getD 0 []).getD j (nnum 0 0)) (ldet n' (mnr j R))))) v9
  rw [ex]
  exact r9
 ·rintro σ H1 ⟨v,o2,o3,rfl,g1,rv⟩
  exact ⟨_,rfl,q v H1 g1 rv⟩
noncomputable def oth (n st:Nat) (Cs:List (List Nb)) (k:Nat):List (List Nb):=((List.range (n + 1)).filter fun j=>!decide (j = k)).map fun j=>Cs.getD (st + j) []
noncomputable def nou (n st:Nat) (Cs:List (List Nb)) (k:Nat):Nb:=nmul 0 (nnum 0 (sgn k)) (ldet n (oth n st Cs k))
noncomputable def nouL (n st:Nat) (Cs:List (List Nb)) (t:Nat):List Nb:=(List.range Cs.length).map fun i=>if st≤i∧i < st + t then nou n st Cs (i - st) else nnum 0 0
theorem YB {n st:Nat} {Cs:List (List Nb)} {t:Nat}:(nouL n st Cs t).length = Cs.length:=by unfold nouL; rw [List.length_map,List.length_range]
theorem zcQ {n st:Nat} {Cs:List (List Nb)} {t:Nat} (h:st + t < Cs.length):nouL n st Cs (t + 1) = (nouL n st Cs t).set (st + t) (nou n st Cs t):=by
 refine List.ext_getElem? fun i=>?_
 rw [List.getElem?_set,YB]
 unfold nouL
 rcases Nat.lt_or_ge i Cs.length with hi | hi
 ·rw [List.getElem?_map,List.getElem?_range hi,List.getElem?_map,List.getElem?_range hi]
  by_cases e:st + t = i
  ·subst e
   rw [if_pos rfl,if_pos h]
   show some (if st≤st + t∧st + t < st + (t + 1) then _ else _) = _
   rw [if_pos ⟨by omega,by omega⟩,Nat.add_sub_cancel_left]
  ·rw [if_neg e]
   show some (if st≤i∧i < st + (t + 1) then nou n st Cs (i - st) else nnum 0 0) = some (if st≤i∧i < st + t then nou n st Cs (i - st) else nnum 0 0)
   by_cases c:st≤i∧i < st + t
   ·rw [if_pos c,if_pos ⟨c.1,by omega⟩]
   ·rw [if_neg c,if_neg (fun c'=>c ⟨c'.1,by omega⟩)]
 ·rw [List.getElem?_eq_none (by rw [List.length_map,List.length_range]; exact hi),if_neg (by omega),List.getElem?_eq_none (by rw [List.length_map,List.length_range]; exact hi)]
theorem zcm:∀ (n k:Nat),n≤3→k < n + 1→((List.range (n + 1)).filter fun j=>!decide (j = k)).length = n:=by
 intro n k hn hk
 rcases (show n = 0∨n = 1∨n = 2∨n = 3 by omega) with e | e | e | e <;> subst e <;> rcases (show k = 0∨k = 1∨k = 2∨k = 3 by omega) with e | e | e | e <;> subst e <;> first | omega | decide
theorem zbw {n st k:Nat} {Cs:List (List Nb)} (n3:n≤3) (hk:k < n + 1) (hs:st + n < Cs.length) (oC:La.OkM 0 n Cs) (wC:∀ r∈Cs,∀ x∈r,whk 0 78 x):(oth n st Cs k).length = n∧La.OkM 0 n (oth n st Cs k)∧∀ r∈oth n st Cs k,∀ x∈r,whk 0 78 x:=by
 have mem:∀ r∈oth n st Cs k,r∈Cs:=fun r hr=>by
  unfold oth at hr
  obtain ⟨j,hj,rfl⟩:=List.mem_map.mp hr
  have hj':=List.mem_range.mp (List.mem_filter.mp hj).1
  rw [List.getD_eq_getElem?_getD,List.getElem?_eq_getElem (show st + j < Cs.length by omega)]
  exact List.getElem_mem _
 refine ⟨by unfold oth; rw [List.length_map]; exact zcm n k n3 hk,fun r hr=>oC r (mem r hr),fun r hr=>wC r (mem r hr)⟩
theorem zgr {n st k:Nat} {Cs:List (List Nb)} (n3:n≤3) (hk:k < n + 1) (hs:st + n < Cs.length) (oC:La.OkM 0 n Cs) (wC:∀ r∈Cs,∀ x∈r,whk 0 78 x):(nou n st Cs k).ok 0∧whk 0 280 (nou n st Cs k):=by
 obtain ⟨l,o,w⟩:=zbw n3 hk hs oC wC
 obtain ⟨od,wd⟩:=ZB n _ l o w n3
 have os:=La.zI hk0 (sgn k)
 have ws:whk 0 1 (nnum 0 (sgn k)):=fun _=>⟨sgn k,rfl,zbA k⟩
 exact ⟨La.ym hk0 os od,(xZ os od ws wd).mono (by omega)⟩
theorem zcT {n st:Nat} {Cs:List (List Nb)} (n3:n≤3) (hs:st + n < Cs.length) (oC:La.OkM 0 n Cs) (wC:∀ r∈Cs,∀ x∈r,whk 0 78 x) {t:Nat} (ht:t≤n + 1):La.OkR 0 (nouL n st Cs t)∧∀ x∈nouL n st Cs t,whk 0 280 x:=by
 refine ⟨fun x hx=>?_,fun x hx=>?_⟩
 all_goals
  unfold nouL at hx
  obtain ⟨i,hi,rfl⟩:=List.mem_map.mp hx
  try dsimp only
  split
 ·rename_i c; exact (zgr n3 (by omega) hs oC wC).1
 ·exact La.zI hk0 0
 ·rename_i c; exact (zgr n3 (by omega) hs oC wC).2
 ·exact fun _=>⟨0,rfl,Nat.two_pow_pos _⟩
noncomputable def zeN:Sp:=fun vs H Q _=>∃ (Cs:List (List Nb)) (n st:Nat) (sI:Int) (p:Addr) (rs:List Addr),vs = [.ref p,.int sI,.int (n:Int)]∧sI = (st:Int)∧TabAt H Cs p rs∧La.OkM 0 n Cs∧(∀ r∈Cs,∀ x∈r,whk 0 78 x)∧n≤3∧st + n < Cs.length∧Cs.length≤20 ∧
 ∀ t H',Same H H'→RowAt H' (nouL n st Cs (n + 1)) t→Q (.ref t) H'
theorem zgP (D:Df K mg "_law_noughts" ["_law_columns_here", "_law_start", "_law_n"] xa) (ZE:Kn P w K mg base "_law_det" 50 ["_law_rows"] (zbR 4)) (zX:Kn P w K mg base "_law_times" 42 ["_law_prime_here", "_law_one", "_law_other"] (xv nmul)) (zt:mg "range" = none):Kn P w K mg base "_law_noughts" 51 ["_law_columns_here", "_law_start", "_law_n"] zeN:=by
 refine D.kn sc__law_noughts (fun vs H Q E h=>?_) (fun f cdv A' outer s' H vs Q E hr h=>?_)
 ·obtain ⟨Cs,n,st,sI,p,rs,rfl,_⟩:=h; rfl
 obtain ⟨Cs,n,st,sI,p,rs,rfl,rfl,hT,oC,wC,n3,hs,l20,q⟩:=h
 have hk:=hk0
 have szl:sizeLine = 16777216:=by decide
 have lr:=zj hT.2
 refine ⟨_,(zc (je (i:=3) sc__law_noughts.nd rfl rfl ["_law_column"] [] [] ⟨rfl,rfl,rfl,rfl,rfl,rfl,by decide +kernel⟩ rfl (zM (pv 0)) (zo (by decide)) fun _ _ _ _ _ _=>⟨(zh (i:=0) (by decide:(["_law_column"]:List Str).Nodup) rfl (by first | exact Or.inl rfl | exact Or.inr rfl)),zQ,(yv (za zb (za zb zd)))⟩) (zc (yu PassesOwn.never rfl (zR rfl zt (za (zi yh (pv 2) zb) zd)) (zh (i:=4) sc__law_noughts.nd rfl (.inr rfl)) (zc (je (i:=5) sc__law_noughts.nd rfl rfl ["_law_j"] ["_law_columns_here", "_law_start", "_law_k"] [0,1,4] ⟨rfl,rfl,rfl,rfl,rfl,rfl,by decide +kernel⟩ rfl (zR rfl zt (za (zi yh (pv 2) zb) zd)) (zo (by decide)) fun _ _ _ _ _ _=>⟨(zh (i:=0) (by decide:(["_law_j", "_law_columns_here", "_law_start", "_law_k"]:List Str).Nodup) rfl (by first | exact Or.inl rfl | exact Or.inr rfl)),(JX (zH Yh (pv 0) (pv 3) (nomark _))),(zE zp (pv 1) (zi yh (pv 2) (pv 0)) (fun _ _=>rfl))⟩) (zg (jS (zu zX (hr.mono (by decide)) rfl (za zb (za (yv (za (zi xG zb (zi zU zb (zi zN (pv 4) zb))) (za zb zd))) (za (zu ZE (hr.mono (by decide)) rfl (za (pv 5) zd)) zd)))) (ZV (pv 3) (zi yh (pv 1) (pv 4)) xN))))) (zg (zk (pv 3))))),?_⟩
 refine ⟨_,rfl,p,rfl,⟨_,SqL.of hT.1⟩,?_⟩
 refine zT (xs:=rs.map V.ref) (fun i ys H'=>Same H H'∧Paired (RN H') (List.replicate i (nnum 0 0)) ys) ⟨Same.refl _,.nil⟩ ?_ ?_ ?_
 ·rintro i ys H' hi ⟨g,pr⟩
  refine ⟨SqL.of (g _ _ hT.1),?_⟩
  have:=zj pr
  rw [List.length_replicate] at this
  rw [List.length_map] at hi
  omega
 ·rintro i v ys H' hv hi ⟨g,pr⟩
  first | refine gyes ?_ | refine tyes ?_
  refine ⟨(by show 2≤sizeLine; decide),fun p1 hp1=>nxt hi ⟨g.trans (ze hp1 _),?_⟩⟩
  rw [List.replicate_succ']
  exact yb (yO (ze hp1 _) pr) (YF 0 zf)
 rintro ys H1 ⟨g1,pr⟩ pt hpt
 rw [List.length_map,← lr] at pr
 have g2:=ze hpt (.lst ys)
 have fpt:H pt = none:=g1.none hpt
 have e0:nouL n st Cs 0 = List.replicate Cs.length (nnum 0 0):=by
  unfold nouL
  refine List.ext_getElem? fun i=>?_
  rw [List.getElem?_map,List.getElem?_replicate]
  rcases Nat.lt_or_ge i Cs.length with hi | hi
  ·rw [List.getElem?_range hi,if_pos hi]
   show some (if st≤i∧i < st + 0 then _ else _) = _
   rw [if_neg (by omega)]
  ·rw [List.getElem?_eq_none (by rw [List.length_range]; exact hi),if_neg (by omega)]; rfl
 rw [← e0] at pr
 have pr2:=yO g2 pr
 have hp2:upd H1 pt (.lst ys) pt = some (.lst ys):=zf
 have gH:=g1.trans g2
 generalize upd H1 pt (.lst ys) = H2 at *
 refine ⟨_,rfl,_,_,rfl,rfl,_,rfl,by omega,by omega,?_⟩
 have en:(((n:Nat):Int) + 1).toNat = n + 1:=by omega
 rw [en]
 refine yz (lo:=0) (n:=n + 1) (fun t σ H'=>∃ (us:List V) (o4 o5:Option V),σ = [some (.ref p),some (.int (st:Int)),some (.int (n:Int)),some (.ref pt),o4,o5]∧Same H H'∧H' pt = some (.lst us)∧Paired (RN H') (nouL n st Cs t) us) ⟨ys,none,none,rfl,gH,hp2,pr2⟩ ?_ ?_
 ·rintro t σ H3 ht ⟨us,o4,o5,rfl,g3,hp3,pu⟩
  have T3:=hT.mono g3
  refine ⟨_,rfl,_,_,rfl,rfl,_,rfl,by omega,by omega,?_⟩
  rw [en]
  refine yA (lo:=0) (n:=n + 1) (fun i zs H'=>H' = H3∧∃ ras:List Addr,zs = ras.map V.ref∧Paired (RowAt H3) ((((List.range (n + 1)).take i).filter fun j=>!decide (j = t)).map fun j=>Cs.getD (st + j) []) ras) ⟨rfl,[],rfl,.nil⟩ ?_ ?_ ?_
  ·rintro i zs H' hi ⟨rfl,ras,rfl,pr⟩
   have:=zj pr
   have e3:=List.length_filter_le (fun j=>!decide (j = t)) ((List.range (n + 1)).take i)
   rw [List.length_take,List.length_range] at e3
   rw [List.length_map] at this
   rw [List.length_map]; omega
  ·rintro i zs H' hi ⟨rfl,ras,rfl,pr⟩
   have ei:(List.range (n + 1))[i]? = some i:=List.getElem?_range hi
   refine ⟨_,rfl,_,rfl,rfl,_,rfl,?_⟩
   by_cases c:i = t
   ·subst c
    have hc:(!decide (V.int (0 + (i:Int)) = V.int (0 + (i:Int)))) = false:=by rw [decide_eq_true rfl]; rfl
    rw [hc]
    refine iteF (nxt hi ⟨rfl,ras,rfl,?_⟩)
    rw [ZS _ ei,if_neg (by simp),List.append_nil]
    exact pr
   ·have hc:(!decide (V.int (0 + (i:Int)) = V.int (0 + (t:Int)))) = true:=by
     rw [decide_eq_false (fun e=>c (by have:=V.int.inj e; omega))]; rfl
    rw [hc]
    refine iteT ?_
    have hsi:st + i < Cs.length:=by omega
    obtain ⟨ar,ear,rar⟩:=yM T3.2 (List.getElem?_eq_getElem hsi)
    refine ⟨_,rfl,_,rfl,_,rfl,_,_,rfl,rfl,p,_,_,.ref ar,rfl,rfl,SqL.of T3.1,(by rw [show (st:Int) + (0 + (i:Int)) = ((st + i:Nat):Int) by push_cast; omega]; exact zK (by rw [List.getElem?_map,ear]; rfl)),nxt hi ⟨rfl,ras ++ [ar],by rw [List.map_append]; rfl,?_⟩⟩
    rw [ZS _ ei,if_pos (by rw [decide_eq_false c]; rfl),List.map_append]
    refine yb pr ?_
    show RowAt H' (Cs.getD (st + i) []) ar
    rw [List.getD_eq_getElem?_getD,List.getElem?_eq_getElem hsi]
    exact rar
  rintro zs H4 ⟨rfl,ras,rfl,pr⟩ po hpo
  rw [List.take_of_length_le (by rw [List.length_range]; exact Nat.le_refl _)] at pr
  have g5:=ze hpo (.lst (ras.map V.ref))
  have TO:TabAt (upd H4 po (.lst (ras.map V.ref))) (oth n st Cs t) po ras:=⟨zf,xI (fun _ _ r=>r.mono g5) pr⟩
  have hp5:=g5 _ _ hp3
  have pu5:=yO g5 pu
  generalize upd H4 po (.lst (ras.map V.ref)) = H5 at *
  obtain ⟨lo,oo,wo⟩:=zbw n3 ht hs oC wC
  refine ⟨_,rfl,_,_,rfl,rfl,(by show (2:Int)≠0; decide),_,_,rfl,rfl,(IntMulOk.of_left (intBits_le_64 (by decide) (by decide))),_,_,rfl,rfl,(by show 2≤sizeLine; decide),fun ps hps=>?_⟩
  rw [Int.zero_add] at *
  have gs:=ze hps (.tup [.int (sgn t),.int 1])
  have rs':RN (upd H5 ps (.tup [.int (sgn t),.int 1])) (nnum 0 (sgn t)) (.ref ps):=YF _ zf
  refine ⟨_,rfl,oth n st Cs t,n,po,ras,rfl,TO.mono gs,lo,oo,wo,by omega,n3,fun vd H7 g7 rd=>?_⟩
  obtain ⟨od,wd⟩:=ZB n _ lo oo wo n3
  have os:=La.zI hk (sgn t)
  have ws:whk 0 1 (nnum 0 (sgn t)):=fun _=>⟨sgn t,rfl,zbA t⟩
  refine ⟨0,nnum 0 (sgn t),_,_,vd,rfl,⟨hk,os,od,ws.nsm hk os (by decide) (by decide),wd.nsm hk od (by omega) (by decide),rs'.mono g7,rd⟩,fun v8 H8 g8 r8=>?_⟩
  have g58:=(gs.trans g7).trans g8
  have hp8:=g58 _ _ hp5
  have pu8:=yO g58 pu5
  have lus:=zj pu8
  rw [YB] at lus
  refine ⟨_,rfl,_,rfl,_,rfl,_,_,rfl,rfl,pt,us,_,st + t,rfl,rfl,hp8,(by rw [show (st:Int) + (t:Int) = ((st + t:Nat):Int) by push_cast; rfl]; exact jW (by omega)),?_⟩
  refine ⟨_,_,_,rfl,xB ((g3.trans g5).trans g58) fpt,zf,?_⟩
  rw [zcQ (by omega)]
  exact zax hp8 (zay pu8 (st + t) r8)
 ·rintro σ H3 ⟨us,o4,o5,rfl,g3,hp3,pu⟩
  exact ⟨_,rfl,q pt H3 g3 ⟨us,hp3,pu⟩⟩
noncomputable def sumF:Nat→(Nat→Rat)→Rat
 | 0,_=>0
 | t + 1,f=>sumF t f + f t
theorem zbg {n:Nat} {R:List (List Nb)} (lR:R.length = n + 1) (oR:La.OkM 0 (n + 1) R) (wR:∀ r∈R,∀ x∈r,whk 0 78 x) (n3:n + 1≤3):La.kfRat.to (ldet (n + 1) R) = sumF (n + 1) fun j=>((sgn j:Int):Rat) * (La.nv La.kfRat (R.getD 0 []) j * La.kfRat.to (ldet n (mnr j R))):=by
 have hd:∀ j,j < n + 1→(ldet n (mnr j R)).ok 0∧whk 0 (n * 90 + 1) (ldet n (mnr j R)):=fun j hj=>by
  obtain ⟨l,o,w⟩:=qT lR hj oR wR
  exact ZB n _ l o w (by omega)
 have fd:=Yr lR oR wR hd
 have h0:0 < R.length:=by omega
 have or:=oR R[0] (List.getElem_mem h0)
 have e0:R.getD 0 [] = R[0]:=by rw [List.getD_eq_getElem?_getD,List.getElem?_eq_getElem h0]; rfl
 have key:∀ t,t≤n + 1→La.kfRat.to ((List.range t).foldl (fun s j=>nadd 0 s (nmul 0 (nnum 0 (sgn j)) (nmul 0 ((R.getD 0 []).getD j (nnum 0 0)) (ldet n (mnr j R))))) (nnum 0 0)) = sumF t fun j=>((sgn j:Int):Rat) * (La.nv La.kfRat (R.getD 0 []) j * La.kfRat.to (ldet n (mnr j R))):=fun t=>by
  induction t with
  | zero=>intro _; exact La.kfRat.num0
  | succ t ih =>
   intro ht
   rw [List.range_succ,List.foldl_append]
   have hx:t < R[0].length:=by rw [or.1]; omega
   have ox:((R.getD 0 []).getD t (nnum 0 0)).ok 0:=by
    rw [e0,List.getD_eq_getElem?_getD,List.getElem?_eq_getElem hx]
    exact or.2 _ (List.getElem_mem hx)
   have od:=(hd t (by omega)).1
   have os:=La.zI hk0 (sgn t)
   have om:=La.ym hk0 ox od
   show La.kfRat.to (nadd 0 _ (nmul 0 (nnum 0 (sgn t)) (nmul 0 ((R.getD 0 []).getD t (nnum 0 0)) (ldet n (mnr t R))))) = sumF t _ + _
   rw [La.kfRat.add (fd t (by omega)).1 (La.ym hk0 os om),La.kfRat.mul os om,La.kfRat.mul ox od,ih (by omega)]
   rfl
 exact key (n + 1) (Nat.le_refl _)
theorem Jd {r:List Nb} {j:Nat} (hj:j < r.length) (i:Nat):La.nv La.kfRat (r.take j ++ r.drop (j + 1)) i = if i < j then La.nv La.kfRat r i else La.nv La.kfRat r (i + 1):=by
 have l:(r.take j).length = j:=by rw [List.length_take]; omega
 rw [La.zgL,l]
 split
 ·rename_i h; exact La.zfg h
 ·rename_i h; rw [La.zeR,show j + 1 + (i - j) = i + 1 by omega]
theorem sg0:((sgn 0:Int):Rat) = 1:=by rw [show sgn 0 = 1 by decide]; rfl
theorem sg1:((sgn 1:Int):Rat) = -1:=by rw [show sgn 1 = -1 by decide]; rfl
theorem sg2:((sgn 2:Int):Rat) = 1:=by rw [show sgn 2 = 1 by decide]; rfl
theorem sg3:((sgn 3:Int):Rat) = -1:=by rw [show sgn 3 = -1 by decide]; rfl
theorem ld1 {r:List Nb} (o:La.OkM 0 1 [r]) (w:∀ q∈[r],∀ x∈q,whk 0 78 x):La.kfRat.to (ldet 1 [r]) = La.nv La.kfRat r 0:=by
 rw [zbg (n:=0) rfl o w (by decide)]
 show (0:Rat) + ((sgn 0:Int):Rat) * (La.nv La.kfRat r 0 * La.kfRat.to (nnum 0 1)) = _
 have e:La.kfRat.to (nnum 0 1) = 1:=by rw [La.kfRat.num]; exact La.ι_one
 rw [sg0,e]; grind
theorem ld2 {r s:List Nb} (o:La.OkM 0 2 [r,s]) (w:∀ q∈[r,s],∀ x∈q,whk 0 78 x):La.kfRat.to (ldet 2 [r,s]) = La.nv La.kfRat r 0 * La.nv La.kfRat s 1 - La.nv La.kfRat r 1 * La.nv La.kfRat s 0:=by
 rw [zbg (n:=1) rfl o w (by decide)]
 have ls:s.length = 2:=(o s (by simp)).1
 have m0:=qT (n:=1) (j:=0) rfl (by decide) o w
 have m1:=qT (n:=1) (j:=1) rfl (by decide) o w
 have e0:=ld1 m0.2.1 m0.2.2
 have e1:=ld1 m1.2.1 m1.2.2
 show (0:Rat) + ((sgn 0:Int):Rat) * (La.nv La.kfRat r 0 * La.kfRat.to (ldet 1 [s.take 0 ++ s.drop 1])) + ((sgn 1:Int):Rat) * (La.nv La.kfRat r 1 * La.kfRat.to (ldet 1 [s.take 1 ++ s.drop 2])) = _
 rw [show La.kfRat.to (ldet 1 [s.take 0 ++ s.drop 1]) = La.nv La.kfRat (s.take 0 ++ s.drop 1) 0 from e0,show La.kfRat.to (ldet 1 [s.take 1 ++ s.drop 2]) = La.nv La.kfRat (s.take 1 ++ s.drop 2) 0 from e1,Jd (by omega),Jd (by omega),sg0,sg1,if_neg (by decide),if_pos (by decide)]
 grind
theorem ld3 {r s t:List Nb} (o:La.OkM 0 3 [r,s,t]) (w:∀ q∈[r,s,t],∀ x∈q,whk 0 78 x):La.kfRat.to (ldet 3 [r,s,t]) = La.nv La.kfRat r 0 * (La.nv La.kfRat s 1 * La.nv La.kfRat t 2 - La.nv La.kfRat s 2 * La.nv La.kfRat t 1) - La.nv La.kfRat r 1 * (La.nv La.kfRat s 0 * La.nv La.kfRat t 2 - La.nv La.kfRat s 2 * La.nv La.kfRat t 0) + La.nv La.kfRat r 2 * (La.nv La.kfRat s 0 * La.nv La.kfRat t 1 - La.nv La.kfRat s 1 * La.nv La.kfRat t 0):=by
 rw [zbg (n:=2) rfl o w (by decide)]
 have ls:s.length = 3:=(o s (by simp)).1
 have lt:t.length = 3:=(o t (by simp)).1
 have m0:=qT (n:=2) (j:=0) rfl (by decide) o w
 have m1:=qT (n:=2) (j:=1) rfl (by decide) o w
 have m2:=qT (n:=2) (j:=2) rfl (by decide) o w
 have e0:=ld2 m0.2.1 m0.2.2
 have e1:=ld2 m1.2.1 m1.2.2
 have e2:=ld2 m2.2.1 m2.2.2
 rw [Jd (r:=s) (by omega),Jd (r:=t) (by omega),Jd (r:=s) (by omega),Jd (r:=t) (by omega)] at e0 e1 e2
 show (0:Rat) + ((sgn 0:Int):Rat) * (La.nv La.kfRat r 0 * La.kfRat.to (ldet 2 (mnr 0 [r,s,t]))) + ((sgn 1:Int):Rat) * (La.nv La.kfRat r 1 * La.kfRat.to (ldet 2 (mnr 1 [r,s,t]))) + ((sgn 2:Int):Rat) * (La.nv La.kfRat r 2 * La.kfRat.to (ldet 2 (mnr 2 [r,s,t]))) = _
 rw [show La.kfRat.to (ldet 2 (mnr 0 [r,s,t])) = _ from e0,show La.kfRat.to (ldet 2 (mnr 1 [r,s,t])) = _ from e1,show La.kfRat.to (ldet 2 (mnr 2 [r,s,t])) = _ from e2,sg0,sg1,sg2]
 simp only [Nat.lt_irrefl,Nat.not_lt_zero,if_false,if_true,show (0:Nat) < 1 by decide,show (0:Nat) < 2 by decide,show (1:Nat) < 2 by decide]
 grind
theorem YE (u v:Nat→Rat) (s:Nat):∀ n,La.dot (s + n) u v = La.dot s u v + La.dot n (fun k=>u (s + k)) (fun k=>v (s + k))
 | 0=>by show La.dot s u v = La.dot s u v + 0; grind
 | n + 1=>by
  show La.dot (s + n) u v + u (s + n) * v (s + n) = La.dot s u v + (La.dot n (fun k=>u (s + k)) (fun k=>v (s + k)) + u (s + n) * v (s + n))
  rw [YE u v s n]; grind
theorem zci {n s e:Nat} {u v:Nat→Rat} (h:∀ i,¬ (s≤i∧i < s + n)→v i = 0):La.dot (s + n + e) u v = La.dot n (fun k=>u (s + k)) (fun k=>v (s + k)):=by
 rw [YE u v (s + n) e,YE u v s n,La.dot_zero s _ _ fun j hj=>by rw [h j (by omega)]; grind,La.dot_zero e _ _ fun j hj=>by
  show u (s + n + j) * v (s + n + j) = 0
  rw [h (s + n + j) (by omega)]; grind]
 grind
theorem cram {n st:Nat} {Cs:List (List Nb)} {x:List Nb} (n1:1≤n) (n3:n≤3) (hs:st + n < Cs.length) (oC:La.OkM 0 n Cs) (wC:∀ r∈Cs,∀ x∈r,whk 0 78 x) (ox:La.OkR 0 x) (lx:x.length = n):La.ndot 0 (Cs.map fun c=>La.ndot 0 c x) (nouL n st Cs (n + 1)) = nnum 0 0:=by
 have hk:=hk0
 obtain ⟨ov,wv⟩:=zcT n3 hs oC wC (Nat.le_refl (n + 1))
 have orow:La.OkR 0 (Cs.map fun c=>La.ndot 0 c x):=fun y hy=>by
  obtain ⟨c,hc,rfl⟩:=List.mem_map.mp hy
  exact La.yq hk (oC c hc).2 ox
 have lv:(nouL n st Cs (n + 1)).length = Cs.length:=YB
 refine La.kfRat.inj (La.yq hk orow ov) (La.zI hk 0) ?_
 rw [La.xu La.kfRat hk orow ov (by rw [List.length_map,lv]),La.kfRat.num0,List.length_map]
 have nvv:∀ i,¬ (st≤i∧i < st + (n + 1))→La.nv La.kfRat (nouL n st Cs (n + 1)) i = 0:=fun i hi=>by
  rcases Nat.lt_or_ge i Cs.length with h | h
  ·have e:(nouL n st Cs (n + 1))[i]? = some (nnum 0 0):=by
    unfold nouL
    rw [List.getElem?_map,List.getElem?_range h]
    show some (if st≤i∧i < st + (n + 1) then _ else _) = _
    rw [if_neg hi]
   rw [La.yp La.kfRat e,La.kfRat.num0]
  ·exact La.qp La.kfRat (by rw [lv]; exact h)
 obtain ⟨e,he⟩ : ∃ e,Cs.length = st + (n + 1) + e:=⟨Cs.length - (st + (n + 1)),by omega⟩
 rw [he,zci nvv]
 have get:∀ k,k < n + 1→Cs[st + k]? = some (Cs.getD (st + k) []):=fun k hk'=>by
  rw [List.getD_eq_getElem?_getD,List.getElem?_eq_getElem (show st + k < Cs.length by omega)]; rfl
 have rk:∀ k,k < n + 1→La.nv La.kfRat (Cs.map fun c=>La.ndot 0 c x) (st + k) = La.dot n (La.nv La.kfRat (Cs.getD (st + k) [])) (La.nv La.kfRat x):=fun k hk'=>by
  have g:=get k hk'
  have oc:=oC _ (List.mem_of_getElem? g)
  rw [La.yp La.kfRat (by rw [List.getElem?_map,g]; rfl),La.xu La.kfRat hk oc.2 ox (oc.1.trans lx.symm),oc.1]
 have vk:∀ k,k < n + 1→La.nv La.kfRat (nouL n st Cs (n + 1)) (st + k) = ((sgn k:Int):Rat) * La.kfRat.to (ldet n (oth n st Cs k)):=fun k hk'=>by
  have e:(nouL n st Cs (n + 1))[st + k]? = some (nou n st Cs k):=by
   unfold nouL
   rw [List.getElem?_map,List.getElem?_range (by omega)]
   show some (if st≤st + k∧st + k < st + (n + 1) then nou n st Cs (st + k - st) else _) = _
   rw [if_pos ⟨by omega,by omega⟩,Nat.add_sub_cancel_left]
  obtain ⟨lo,oo,wo⟩:=zbw n3 hk' hs oC wC
  rw [La.yp La.kfRat e]
  show La.kfRat.to (nmul 0 (nnum 0 (sgn k)) (ldet n (oth n st Cs k))) = _
  rw [La.kfRat.mul (La.zI hk (sgn k)) (ZB n _ lo oo wo n3).1]; rfl
 have ok:∀ k,k < n + 1→La.OkM 0 n (oth n st Cs k)∧∀ r∈oth n st Cs k,∀ x∈r,whk 0 78 x:=fun k hk'=>(zbw n3 hk' hs oC wC).2
 rcases (show n = 1∨n = 2∨n = 3 by omega) with e | e | e
 ·subst e
  show (0:Rat) + La.nv La.kfRat (Cs.map fun c=>La.ndot 0 c x) (st + 0) * La.nv La.kfRat (nouL 1 st Cs 2) (st + 0) + La.nv La.kfRat (Cs.map fun c=>La.ndot 0 c x) (st + 1) * La.nv La.kfRat (nouL 1 st Cs 2) (st + 1) = 0
  have d0:La.kfRat.to (ldet 1 (oth 1 st Cs 0)) = La.nv La.kfRat (Cs.getD (st + 1) []) 0:=ld1 (ok 0 (by decide)).1 (ok 0 (by decide)).2
  have d1:La.kfRat.to (ldet 1 (oth 1 st Cs 1)) = La.nv La.kfRat (Cs.getD (st + 0) []) 0:=ld1 (ok 1 (by decide)).1 (ok 1 (by decide)).2
  rw [rk 0 (by decide),rk 1 (by decide),vk 0 (by decide),vk 1 (by decide),d0,d1,sg0,sg1]
  clear rk vk ok get nvv wv ov orow lv wC oC
  simp only [La.dot]
  grind
 ·subst e
  show (0:Rat) + La.nv La.kfRat (Cs.map fun c=>La.ndot 0 c x) (st + 0) * La.nv La.kfRat (nouL 2 st Cs 3) (st + 0) + La.nv La.kfRat (Cs.map fun c=>La.ndot 0 c x) (st + 1) * La.nv La.kfRat (nouL 2 st Cs 3) (st + 1) + La.nv La.kfRat (Cs.map fun c=>La.ndot 0 c x) (st + 2) * La.nv La.kfRat (nouL 2 st Cs 3) (st + 2) = 0
  have d0:La.kfRat.to (ldet 2 (oth 2 st Cs 0)) = _:=ld2 (r:=Cs.getD (st + 1) []) (s:=Cs.getD (st + 2) []) (ok 0 (by decide)).1 (ok 0 (by decide)).2
  have d1:La.kfRat.to (ldet 2 (oth 2 st Cs 1)) = _:=ld2 (r:=Cs.getD (st + 0) []) (s:=Cs.getD (st + 2) []) (ok 1 (by decide)).1 (ok 1 (by decide)).2
  have d2:La.kfRat.to (ldet 2 (oth 2 st Cs 2)) = _:=ld2 (r:=Cs.getD (st + 0) []) (s:=Cs.getD (st + 1) []) (ok 2 (by decide)).1 (ok 2 (by decide)).2
  rw [rk 0 (by decide),rk 1 (by decide),rk 2 (by decide),vk 0 (by decide),vk 1 (by decide),vk 2 (by decide),d0,d1,d2,sg0,sg1,sg2]
  clear rk vk ok get nvv wv ov orow lv wC oC
  simp only [La.dot]
  grind
 ·subst e
  show (0:Rat) + La.nv La.kfRat (Cs.map fun c=>La.ndot 0 c x) (st + 0) * La.nv La.kfRat (nouL 3 st Cs 4) (st + 0) + La.nv La.kfRat (Cs.map fun c=>La.ndot 0 c x) (st + 1) * La.nv La.kfRat (nouL 3 st Cs 4) (st + 1) + La.nv La.kfRat (Cs.map fun c=>La.ndot 0 c x) (st + 2) * La.nv La.kfRat (nouL 3 st Cs 4) (st + 2) + La.nv La.kfRat (Cs.map fun c=>La.ndot 0 c x) (st + 3) * La.nv La.kfRat (nouL 3 st Cs 4) (st + 3) = 0
  have d0:La.kfRat.to (ldet 3 (oth 3 st Cs 0)) = _:=ld3 (r:=Cs.getD (st + 1) []) (s:=Cs.getD (st + 2) []) (t:=Cs.getD (st + 3) []) (ok 0 (by decide)).1 (ok 0 (by decide)).2
  have d1:La.kfRat.to (ldet 3 (oth 3 st Cs 1)) = _:=ld3 (r:=Cs.getD (st + 0) []) (s:=Cs.getD (st + 2) []) (t:=Cs.getD (st + 3) []) (ok 1 (by decide)).1 (ok 1 (by decide)).2
  have d2:La.kfRat.to (ldet 3 (oth 3 st Cs 2)) = _:=ld3 (r:=Cs.getD (st + 0) []) (s:=Cs.getD (st + 1) []) (t:=Cs.getD (st + 3) []) (ok 2 (by decide)).1 (ok 2 (by decide)).2
  have d3:La.kfRat.to (ldet 3 (oth 3 st Cs 3)) = _:=ld3 (r:=Cs.getD (st + 0) []) (s:=Cs.getD (st + 1) []) (t:=Cs.getD (st + 2) []) (ok 3 (by decide)).1 (ok 3 (by decide)).2
  rw [rk 0 (by decide),rk 1 (by decide),rk 2 (by decide),rk 3 (by decide),vk 0 (by decide),vk 1 (by decide),vk 2 (by decide),vk 3 (by decide),d0,d1,d2,d3,sg0,sg1,sg2,sg3]
  clear rk vk ok get nvv wv ov orow lv wC oC
  simp only [La.dot]
  grind
noncomputable def colR (k:Int) (h:Nat) (A B:List (List Nb)):Nat→List (List Nb)
 | 0=>[]
 | t + 1=>colR k h A B t ++ ((transp h B).map fun c=>powX k A c t)
theorem zbM {k:Int} {h:Nat} {A B:List (List Nb)}:∀ t,(colR k h A B t).length = t * h
 | 0=>by rw [Nat.zero_mul]; rfl
 | t + 1=>by
  show (colR k h A B t ++ ((transp h B).map fun c=>powX k A c t)).length = _
  rw [List.length_append,List.length_map,zq,zbM t,Nat.add_mul,Nat.one_mul]
theorem zf3 {k:Int} (hk:KindOk k) {n h s m:Nat} {A B C:List (List Nb)} (hM:MOk k n h s m A B C):∀ t,transp (1 + t * h) (mvT k n h A B t) = zerN k n :: colR k h A B t
 | 0=>by
  rw [Nat.zero_mul]
  show transp 1 (nulT k n 1) = _
  unfold transp nulT zerN
  simp [List.range_succ,colR]
 | t + 1=>by
  obtain ⟨o1,l1⟩:=ZX hk hM t
  obtain ⟨o2,l2⟩:=qd hk hM t
  have e:1 + (t + 1) * h = (1 + t * h) + h:=by rw [Nat.add_mul,Nat.one_mul]; omega
  rw [e]
  show transp ((1 + t * h) + h) (augM (mvT k n h A B t) (blkT k h A B t)) = _
  rw [zf1 o1 o2 (l1.trans l2.symm),zf3 hk hM t,QK t]; rfl
theorem zdd {h t:Nat} {X Y:List Nb} (lX:X.length = t * h) (lY:Y.length = h):cutB h (t + 1) (X ++ Y) = cutB h t X ++ [Y]:=by
 unfold cutB
 rw [List.range_succ,List.map_append]
 refine congr (congrArg _ (List.map_congr_left fun i hi=>?_)) ?_
 ·have le:(i + 1) * h≤t * h:=Nat.mul_le_mul_right _ (List.mem_range.mp hi)
  rw [Nat.add_mul,Nat.one_mul] at le
  rw [List.drop_append_of_le_length (by omega),List.take_append_of_le_length (by rw [List.length_drop]; omega)]
 ·show [((X ++ Y).drop (t * h)).take h] = [Y]
  rw [← lX,List.drop_left,← lY,List.take_length]
theorem zdq {k:Int} {h:Nat} {A B:List (List Nb)} (f:List Nb→Nb):∀ t,(cutB h t ((colR k h A B t).map f)).reverse.flatten = (colsT k h A B t).map f
 | 0=>rfl
 | t + 1=>by
  show (cutB h (t + 1) ((colR k h A B t ++ ((transp h B).map fun c=>powX k A c t)).map f)).reverse.flatten = (((transp h B).map fun c=>powX k A c t) ++ colsT k h A B t).map f
  rw [List.map_append,zdd (by rw [List.length_map,zbM]) (by rw [List.length_map,List.length_map,zq]),List.reverse_append,List.map_append,← zdq f t]
  rfl
theorem zeC {a b:List Nb} (oa:La.OkR 0 a) (ob:La.OkR 0 b):La.kfRat.to (La.ndot 0 (a ++ b) (a ++ b)) = La.kfRat.to (La.ndot 0 a a) + La.kfRat.to (La.ndot 0 b b):=by
 rw [La.zbO hk0 oa ob oa ob rfl,La.kfRat.add (La.yq hk0 oa oa) (La.yq hk0 ob ob)]
theorem zgb:∀ (V:List (List Nb)),(∀ u∈V,La.OkR 0 u)→La.kfRat.to (La.ndot 0 V.flatten V.flatten) = La.kfRat.to (La.ndot 0 V.reverse.flatten V.reverse.flatten)
 | [],_=>rfl
 | v :: V,h=>by
  have hV:∀ u∈V,La.OkR 0 u:=fun u hu=>h u (List.mem_cons_of_mem _ hu)
  have fl:∀ W:List (List Nb),(∀ u∈W,La.OkR 0 u)→La.OkR 0 W.flatten:=fun W hW y hy=>by
   obtain ⟨r,hr,hy'⟩:=List.mem_flatten.mp hy
   exact hW r hr y hy'
  rw [List.reverse_cons,List.flatten_append,List.flatten_cons,List.flatten_singleton,zeC (h v List.mem_cons_self) (fl V hV),zeC (fl _ fun u hu=>hV u (List.mem_reverse.mp hu)) (h v List.mem_cons_self),zgb V hV]
  grind
noncomputable def Yb:Sp:=fun vs H Q _=>∃ (k:Int) (pc:Addr) (cs:List Int) (at' n:Nat) (aI:Int),vs = [.int k,.ref pc,.int aI,.int (n:Int)]∧aI = (at':Int)∧KindOk k∧H pc = some (.lst (cs.map V.int))∧cs≠[]∧n≤100 ∧
 ∀ xs p H',Same H H'→NewR H H' xs p→xs.length = n→La.OkR k xs→(∀ x∈xs,whk k 2 x)→Q (.ref p) H'
theorem Qt (D:Df K mg "_law_standing" ["_law_prime_here", "_law_cells", "_law_at_here", "_law_n"] yP) (ql:Kn P w K mg base "_law_small" 44 ["_law_prime_here", "_law_cells", "_law_k"] Xb) (zt:mg "range" = none):Kn P w K mg base "_law_standing" 45 ["_law_prime_here", "_law_cells", "_law_at_here", "_law_n"] Yb:=by
 refine D.kn Ym (fun vs H Q E h=>?_) (fun f cdv A outer s H vs Q E hr h=>?_)
 ·obtain ⟨k,pc,cs,at',n,aI,rfl,_⟩:=h; rfl
 obtain ⟨k,pc,cs,at',n,aI,rfl,rfl,hk,hc,ne,n100,q⟩:=h
 have szl:sizeLine = 16777216:=by decide
 refine ⟨_,(zg (zk (ya ["_law_k"] ["_law_prime_here", "_law_cells", "_law_at_here"] [0,1,2] ⟨rfl,rfl,rfl,rfl,rfl,rfl,by decide +kernel⟩ rfl (zR rfl zt (za (pv 3) zd)) (zo (by decide)) fun _ _ _ _ _ _=>⟨(zh (i:=0) (by decide:(["_law_k", "_law_prime_here", "_law_cells", "_law_at_here"]:List Str).Nodup) rfl (by first | exact Or.inl rfl | exact Or.inr rfl)),zQ,(zu ql (hr.mono (by decide)) rfl (za (pv 1) (za (pv 2) (za (zi yh (pv 3) (pv 0)) zd))))⟩))),?_⟩
 refine ⟨_,rfl,n,rfl,(by omega),(by omega),?_⟩
 rw [Int.toNat_natCast]
 refine yA (lo:=0) (n:=n) (fun l ys' H9=>∃ xs,Same H H9∧Paired (RN H9) xs ys'∧xs.length = l∧La.OkR k xs∧∀ x∈xs,whk k 2 x) ⟨[],Same.refl _,.nil,rfl,fun x hx=>(nomatch hx),fun x hx=>(nomatch hx)⟩ ?_ ?_ ?_
 ·rintro l ys' H9 hl' ⟨xs,g9,pr9,lx,_⟩
  have:=zj pr9
  omega
 ·rintro l ys' H9 hl' ⟨xs,g9,pr9,lx,ox,sx⟩
  first | refine gyes ?_ | refine tyes ?_
  refine ⟨_,rfl,_,rfl,_,rfl,_,rfl,_,_,rfl,rfl,k,pc,cs,at' + l,_,rfl,(by omega),hk,g9 _ _ hc,ne,fun x v' H10 g10 xr xo xs2=>?_⟩
  refine nxt hl' ⟨xs ++ [x],g9.trans g10,yb (yO g10 pr9) xr,by rw [List.length_append,lx]; rfl,fun y hy=>?_,fun y hy=>?_⟩
  ·rcases List.mem_append.mp hy with h | h
   ·exact ox y h
   ·rw [List.mem_singleton.mp h]; exact xo
  ·rcases List.mem_append.mp hy with h | h
   ·exact sx y h
   ·rw [List.mem_singleton.mp h]; exact xs2
 ·rintro ys' H9 ⟨xs,g9,pr9,lx,ox,sx⟩ p hp
  have g:=ze hp (.lst ys')
  exact q xs p _ (g9.trans g) ⟨⟨ys',zf,yO g pr9⟩,g9.none hp⟩ lx ox sx
theorem zdG {k:Int} (hk:KindOk k) {m n:Nat} {x:Nb} (o:x.ok k) (h:szk k m x) (hm:m≤n) (h7:61≤n):nsm n x:=by
 by_cases k0:k = 0
 ·exact (h k0).mono hm
 ·exact (Jv hk k0 o).mono h7
noncomputable def handD (A B C:List (List Nb)) (xs ys:List Nb):PyData:=.list [machD A B C,rowD xs,rowD ys]
theorem XS (A B C:List (List Nb)) (xs ys:List Nb):PyData.eqv (handD A B C xs ys) (handD A B C xs ys) = true:=by
 show (PyData.eqv (machD A B C) (machD A B C) && (PyData.eqv (rowD xs) (rowD xs) && (PyData.eqv (rowD ys) (rowD ys) && true))) = true
 rw [zb9,qZ,qZ]; rfl
theorem Zd (A B C:List (List Nb)) (xs ys:List Nb):(handD A B C xs ys).canLay0 = true:=by
 show ((machD A B C).canLay0 && ((rowD xs).canLay0 && ((rowD ys).canLay0 && true))) = true
 rw [zc7,Ze,Ze]; rfl
theorem Xa (A B C:List (List Nb)) (xs ys:List Nb):(handD A B C xs ys).depth≤5:=by
 show max (machD A B C).depth (max (rowD xs).depth (max (rowD ys).depth 0)) + 1≤5
 have:=zaT A B C
 have:=qx xs
 have:=qx ys
 omega
theorem JF {H:Hp} {A B C:List (List Nb)} {xs ys:List Nb} {l pm ta tb tc a b:Addr} {ra rb rc:List Addr} (hl:H l = some (.lst [.ref pm,.ref a,.ref b])) (hM:MachAt H A B C pm ta tb tc ra rb rc) (hx:RowAt H xs a) (hy:RowAt H ys b):Rp H (handD A B C xs ys) (.ref l):=by
 show Rp H (.list [machD A B C,rowD xs,rowD ys]) _
 unfold Rp
 refine ⟨l,_,rfl,hl,?_⟩
 unfold Rps
 refine ⟨_,_,rfl,hM.rp,?_⟩
 unfold Rps
 refine ⟨_,_,rfl,hx.rp,?_⟩
 unfold Rps
 refine ⟨_,_,rfl,hy.rp,?_⟩
 unfold Rps
 rfl
noncomputable def JW:Sp:=fun vs H Q _=>∃ (k:Int) (A B C:List (List Nb)) (xs us:List Nb) (n h s:Nat) (pm ta tb tc ax au:Addr) (ra rb rc:List Addr),vs = [.int k,.ref pm,.ref ax,.ref au]∧KindOk k∧MachAt H A B C pm ta tb tc ra rb rc∧RowAt H xs ax∧RowAt H us au∧n≤10∧MOk k n h s 80 A B C∧La.OkR k xs∧La.OkR k us∧xs.length = n∧us.length = h∧(∀ x∈xs,szk k 4900000 x)∧(∀ x∈us,szk k 4900000 x)∧h≤10 ∧
 ∀ p H',Same H H'→NewR H H' (addW k (imgM k A xs) (imgM k B us)) p→Q (.ref p) H'
theorem zeW (D:Df K mg "_law_next" ["_law_prime_here", "_law_machine_here", "_law_standing_here", "_law_inputs"] jQ) (xL:Kn P w K mg base "_law_image" 43 ["_law_prime_here", "_law_table", "_law_column"] Xl) (yg:Kn P w K mg base "_law_plus" 42 ["_law_prime_here", "_law_one", "_law_other"] (xv nadd)) (m_zip:mg "zip" = none):Kn P w K mg base "_law_next" 44 ["_law_prime_here", "_law_machine_here", "_law_standing_here", "_law_inputs"] JW:=by
 refine D.kn sc__law_next (fun vs H Q E h=>?_) (fun f cdv A' outer s' H vs Q E hr h=>?_)
 ·obtain ⟨k,A,B,C,xs,us,n,h,s,pm,ta,tb,tc,ax,au,ra,rb,rc,rfl,_⟩:=h; rfl
 obtain ⟨k,A,B,C,xs,us,n,h,s,pm,ta,tb,tc,ax,au,ra,rb,rc,rfl,hk,hM,hx,hu,n10,oM,ox,ou,lx,lu,sx,su,h10,q⟩:=h
 have szl:sizeLine = 16777216:=by decide
 have lA:=oM.a.len
 have lB:=oM.b.len
 have sA:∀ r∈A,∀ x∈r,szk k 80 x:=fun r hr x hx _=>oM.a.sz r hr x hx
 have sB:∀ r∈B,∀ x∈r,szk k 80 x:=fun r hr x hx _=>oM.b.sz r hr x hx
 refine ⟨_,(zc (zm (i:=4) sc__law_next.nd rfl (.inl rfl) (zu xL (hr.mono (by decide)) rfl (za (pv 0) (za (zE zw (pv 1) zb (fun _ _=>rfl)) (za (pv 2) zd))))) (zg (zk (ya ["_law_x", "_law_y"] ["_law_prime_here"] [0] ⟨rfl,rfl,rfl,rfl,rfl,rfl,by decide +kernel⟩ rfl (qJ rfl m_zip (za (pv 4) (za (zu xL (hr.mono (by decide)) rfl (za (pv 0) (za (zE zw (pv 1) zb (fun _ _=>rfl)) (za (pv 3) zd)))) zd))) (qr (yj (zo (by decide)) yk (yj (zo (by decide)) yk jq))) fun _ _ _ _ _ _=>⟨(jh 2 rfl (zS (zh (i:=0) (by decide:(["_law_x", "_law_y", "_law_prime_here"]:List Str).Nodup) rfl (by first | exact Or.inl rfl | exact Or.inr rfl)) (zS (zh (i:=1) (by decide:(["_law_x", "_law_y", "_law_prime_here"]:List Str).Nodup) rfl (by first | exact Or.inl rfl | exact Or.inr rfl)) xn))),zQ,(zu yg (hr.mono (by decide)) rfl (za (pv 2) (za (pv 0) (za (pv 1) zd))))⟩)))),?_⟩
 refine ⟨_,rfl,_,rfl,pm,_,_,_,rfl,rfl,SqT.of hM.tup,rfl,_,rfl,k,A,xs,n,80,4900000,ta,ax,ra,rfl,hk,hM.a,hx,oM.a.ok,lx,ox,sA,sx,by decide,n10,by omega,fun p1 H1 g1 n1 s1=>?_⟩
 have hM1:=hM.mono g1
 refine ⟨_,rfl,_,rfl,_,rfl,pm,_,_,_,rfl,rfl,SqT.of hM1.tup,rfl,_,rfl,k,B,us,h,80,4900000,tb,au,rb,rfl,hk,hM1.b,hu.mono g1,oM.b.ok,lu,ou,sB,su,by decide,h10,by omega,fun p2 H2 g2 n2 s2=>?_⟩
 have g12:=g1.trans g2
 obtain ⟨us1,hu1,pu1,lu1⟩:=(n1.row.mono g2).len
 obtain ⟨us2,hu2,pu2,lu2⟩:=n2.row.len
 have o1:=La.qO hk oM.a.ok ox
 have o2:=La.qO hk oM.b.ok ou
 have l1:(imgM k A xs).length = n:=o1.1.trans lA
 have l2:(imgM k B us).length = n:=o2.1.trans lB
 have la:=zbB hk (l1.trans l2.symm)
 refine ⟨p1,p2,us1,us2,rfl,SqL.of hu1,SqL.of hu2,?_⟩
 refine qu (xs:=us1) (zs:=us2) (by omega) (fun j ys' H'=>Same H2 H'∧Paired (RN H') ((addW k (imgM k A xs) (imgM k B us)).take j) ys') ⟨Same.refl _,.nil⟩ ?_ ?_ ?_
 ·rintro j ys' H' hj ⟨g,pr⟩
  refine ⟨SqL.of (g _ _ hu1),SqL.of (g _ _ hu2),?_⟩
  have:=zj pr
  rw [List.length_take] at this
  omega
 ·rintro j x z T ys' H' hx' hz hj hT ⟨g,pr⟩
  obtain ⟨nx,ex,rx⟩:=zW pu1 hx'
  obtain ⟨nz,ez,rz⟩:=zW pu2 hz
  have gN:=ze hT (.tup [x,z])
  have gT:=g.trans gN
  refine ⟨T,_,rfl,SqT.of zf,rfl,_,_,rfl,_,_,rfl,rfl,?_⟩
  generalize upd H' T (.tup [x,z]) = H2' at *
  first | refine gyes ?_ | refine tyes ?_
  have m1:=List.mem_of_getElem? ex
  have m2:=List.mem_of_getElem? ez
  have z1:n * (80 + 4900000 + 1) + 1≤60000000:=Nat.le_trans (Nat.add_le_add_right (Nat.mul_le_mul_right _ n10) 1) (by decide)
  have z2:h * (80 + 4900000 + 1) + 1≤60000000:=Nat.le_trans (Nat.add_le_add_right (Nat.mul_le_mul_right _ h10) 1) (by decide)
  refine ⟨_,rfl,_,rfl,_,rfl,k,nx,nz,x,z,rfl,⟨hk,o1.2 nx m1,o2.2 nz m2,zdG hk (o1.2 nx m1) (s1 nx m1) z1 (by decide),zdG hk (o2.2 nz m2) (s2 nz m2) z2 (by decide),rx.mono gT,rz.mono gT⟩,fun v H3 g3 r3=>nxt hj ⟨gT.trans g3,?_⟩⟩
  have e:(addW k (imgM k A xs) (imgM k B us))[j]? = some (nadd k nx nz):=by unfold addW; rw [List.getElem?_zipWith,ex,ez]
  rw [zD e]
  exact yb (yO (gN.trans g3) pr) r3
 ·rintro ys' H' ⟨g,pr⟩ p hp
  rw [List.take_of_length_le (by omega)] at pr
  have g2':=ze hp (.lst ys')
  exact q p _ ((g12.trans g).trans g2') ⟨⟨ys',zf,yO g2' pr⟩,(g12.trans g).none hp⟩
theorem zgp (K:PySem.W.Frag):PySem.W.kitOne K (.type "str") (.type "str") = some true:=by unfold PySem.W.kitOne; rw [if_pos (by decide)]
theorem zfu {C:Nat} {x u:List Nb} (h:∀ y∈u,y∈x) (hx:La.rowB C x):La.rowB C u:=by
 obtain ⟨D,d0,dl,hd⟩:=hx
 exact ⟨D,d0,dl,fun y hy=>hd y (h y hy)⟩
noncomputable def Qz:Sp:=fun vs H Q _=>∃ (A B C:List (List Nb)) (xs ys:List Nb) (n h s turns:Nat) (sure:Bool) (tI:Int) (pm ta tb tc a b:Addr) (ra rb rc:List Addr),vs = [.ref pm,.ref a,.ref b,.int tI,.bl sure]∧tI = (turns:Int)∧MachAt H A B C pm ta tb tc ra rb rc∧RowAt H xs a∧RowAt H ys b∧1≤n∧n≤3∧MOk 0 n h s 80 A B C∧TW 0 n n 14 A∧TW 0 n h 14 B∧La.OkR 0 xs∧La.OkR 0 ys∧xs.length = n∧ys.length = n∧(∀ y∈xs,whk 0 2 y)∧(∀ y∈ys,whk 0 100 y)∧1≤h∧h≤2∧s≤10∧turns≤4∧(sure = true→∃ V:List (List Nb),V.length = turns∧(∀ u∈V,u.length = h∧La.OkR 0 u)∧stR 0 A B xs V = ys) ∧
 ∀ H',Same H H'→Q (.bl true) H'
theorem zdH (D:Df K mg "_law_right" ["_law_machine_here", "_law_start", "_law_goal", "_law_turns", "_law_sure"] xT) (za8:Kn P w K mg base "_law_copy" 1 ["_law_machine_here"] zbl) (zco:Kn P w K mg base "cheapest" 48 ["machine", "start", "goal", "turns"] zbE) (zhq:Kn P w K mg base "steer" 48 ["kind", "machine", "start", "goal", "turns"] zbi) (jO:Kn P w K mg base "_law_is_row" 3 ["_law_prime_here", "_law_found", "_law_many"] Xf) (XI:Kn P w K mg base "_law_is_rows" 4 ["_law_prime_here", "_law_found", "_law_rows", "_law_columns_here"] Jg) (xq:Kn P w K mg base "_law_is_number" 2 ["_law_prime_here", "_law_found"] Xq) (qN:Kn P w K mg base "_law_next" 44 ["_law_prime_here", "_law_machine_here", "_law_standing_here", "_law_inputs"] JW) (XV:Kn P w K mg base "_law_sum" 43 ["_law_one", "_law_other"] zdi) (XG:Kn P w K mg base "_law_columns" 44 ["_law_machine_here", "_law_turns"] zbu) (XJ:Kn P w K mg base "_law_noughts" 51 ["_law_columns_here", "_law_start", "_law_n"] zeN) (yS:mg "list" = none) (zO:mg "isinstance" = none) (jM:mg "tuple" = none) (m_str:mg "str" = none) (m_len:mg "len" = none) (zt:mg "range" = none) (m_all:mg "all" = none):Kn P w K mg base "_law_right" 52 ["_law_machine_here", "_law_start", "_law_goal", "_law_turns", "_law_sure"] Qz:=by
 refine D.kn sc__law_right (fun vs H Q E h=>?_) (fun f cdv A' outer s' H vs Q E hr h=>?_)
 ·obtain ⟨A,B,C,xs,ys,n,h,s,turns,sure,tI,pm,ta,tb,tc,a,b,ra,rb,rc,rfl,_⟩:=h; rfl
 obtain ⟨A,B,C,xs,ys,n,h,s,turns,sure,tI,pm,ta,tb,tc,a,b,ra,rb,rc,rfl,rfl,hM,hx,hy,n1,n3,oM,wA,wB,ox,oy,lx,ly,wx,wy,h1,h2,s10,t4,hsure,q⟩:=h
 have hk:=hk0
 have hf:Fit 0 n:=⟨n1,.inl n3⟩
 have szl:sizeLine = 16777216:=by decide
 have lA:=oM.a.len
 have lB:=oM.b.len
 have lC:=oM.c.len
 have lb:=zj hM.b.2
 rw [lB] at lb
 have n4:(0:Int) = 0→n≤4:=fun _=>by omega
 have bx:La.rowB 100 xs:=(YM (m:=2) (by decide) ox wx).mono (by decide)
 have by':La.rowB 100 ys:=YM (by decide) oy wy
 obtain ⟨op,lp⟩:=xm hk oM.a.ok lA ox lx turns
 refine ⟨_,(zc (zm (i:=5) sc__law_right.nd rfl (.inl rfl) (yC (za (zu za8 (hr.mono (by decide)) rfl (za (pv 0) zd)) (za (jl qs rfl yS qQ (za (pv 1) zd)) (za (jl qs rfl yS qQ (za (pv 2) zd)) zd))))) (zc (zm (i:=6) sc__law_right.nd rfl (.inl rfl) (zu zco (hr.mono (by decide)) rfl (za (zE zp (pv 5) zb (fun _ _=>rfl)) (za (zE zp (pv 5) zb (fun _ _=>rfl)) (za (zE zp (pv 5) zb (fun _ _=>rfl)) (za (pv 3) zd)))))) (zc (yi (PW.pt (pw_or (zH (zbF hr) (pv 5) (yC (za (pv 0) (za (pv 1) (za (pv 2) zd)))) (nomark _)) (pw_or (jt (xH (zG (xK (K:=K) rfl) rfl zO yx (za (pv 6) (za (zaD rfl jM JH) zd))))) (pw_or1 (jt (xH (zG (xK (K:=K) rfl) rfl zO yx (za (zE zw (pv 6) zb (fun _ _=>rfl)) (za (zaD rfl m_str zhF) zd))))))))) (zg (zk YG)) zL) (zc (zm (i:=7) sc__law_right.nd rfl (.inr rfl) (zG zP rfl m_len yt (za (pv 1) zd))) (zc (yi (zH (Xm hr) (zE zw (pv 6) zb (fun _ _=>rfl)) Zh (nomark _)) (zc (yi (PW.pt (pw_or (xH (pv 4)) (pw_or (zH Yh (zG zP rfl m_len yt (za (pv 6) zd)) zb (nomark _)) (pw_or1 (jt (xH (zu jO (hr.mono (by decide)) rfl (za zb (za (zE zw (pv 6) zb (fun _ _=>rfl)) (za (pv 7) zd)))))))))) (zg (zk YG)) zL) (zg (zk (xp (Xm hr) (zE zw (zu zhq (hr.mono (by decide)) rfl (za zb (za (pv 0) (za (pv 1) (za (pv 2) (za (pv 3) zd)))))) zb (fun _ _=>rfl)) Zh (nomark _))))) zL) (zc (yi (PW.pt (pw_or (zH (zbF hr) (zE zw (pv 6) zb (fun _ _=>rfl)) Zh (nomark _)) (pw_or (zH Yh (zG zP rfl m_len yt (za (pv 6) zd)) zb (nomark _)) (pw_or1 (jt (xH (zu XI (hr.mono (by decide)) rfl (za zb (za (zE zw (pv 6) zb (fun _ _=>rfl)) (za (pv 3) (za (zG zP rfl m_len yt (za (zE zp (zE zw (pv 0) zb (fun _ _=>rfl)) zb (fun _ _=>rfl)) zd)) zd))))))))))) (zg (zk YG)) zL) (zc (zm (i:=8) sc__law_right.nd rfl (.inr rfl) (yC zd)) (zc (zm (i:=9) sc__law_right.nd rfl (.inl rfl) (pv 1)) (zc (yu PassesOwn.never rfl (zM (zE zw (pv 6) zb (fun _ _=>rfl))) (zh (i:=10) sc__law_right.nd rfl (.inl rfl)) (zc (zm (i:=9) sc__law_right.nd rfl (.inl rfl) (zu qN (hr.mono (by decide)) rfl (za zb (za (pv 0) (za (pv 9) (za (pv 10) zd)))))) (zg (zm (i:=8) sc__law_right.nd rfl (.inr rfl) (zi Zq (pv 8) (pv 10)))))) (zc (yi (PW.pt (pw_or (zH (zbF hr) (pv 9) (pv 2) (nomark _)) (pw_or (jt (xH (zu xq (hr.mono (by decide)) rfl (za zb (za (zE zw (pv 6) zb (fun _ _=>rfl)) zd))))) (pw_or1 (zH (zbF hr) (zE zw (pv 6) zb (fun _ _=>rfl)) (zu XV (hr.mono (by decide)) rfl (za (pv 8) (za (pv 8) zd))) (nomark _)))))) (zg (zk YG)) zL) (zc (zm (i:=11) sc__law_right.nd rfl (.inr rfl) (zu XG (hr.mono (by decide)) rfl (za (pv 0) (za (pv 3) zd)))) (zg (zk (zG (QH rfl) rfl m_all zfZ (za (ya ["_law_k"] ["_law_row", "_law_columns_here", "_law_n"] [8,11,7] ⟨rfl,rfl,rfl,rfl,rfl,rfl,by decide +kernel⟩ rfl (zR rfl zt (za (zi xG (zG zP rfl m_len yt (za (pv 11) zd)) (pv 7)) zd)) (zo (by decide)) fun _ _ _ _ _ _=>⟨(zh (i:=0) (by decide:(["_law_k", "_law_row", "_law_columns_here", "_law_n"]:List Str).Nodup) rfl (by first | exact Or.inl rfl | exact Or.inr rfl)),zQ,(xp (Xm hr) (zu XV (hr.mono (by decide)) rfl (za (pv 1) (za (zu XJ (hr.mono (by decide)) rfl (za (pv 2) (za (pv 0) (za (pv 3) zd)))) zd))) (yv (za zb (za zb zd))) (nomark _))⟩) zd))))))))))))))),?_⟩
 refine ⟨_,rfl,A,B,C,pm,ta,tb,tc,ra,rb,rc,rfl,hM,by omega,by omega,by omega,fun ph ua ub uc va vb vc H1 g1 hN=>?_⟩
 obtain ⟨ux,hux,pux,lux⟩:=(hx.mono g1).len
 refine ⟨_,rfl,a,ux,rfl,.inl (SqL.of hux),fun p1 hp1=>?_⟩
 have g2:=ze hp1 (.lst ux)
 have R1:RowAt (upd H1 p1 (.lst ux)) xs p1:=⟨ux,zf,yO g2 pux⟩
 have g12:=g1.trans g2
 replace hN:=hN.mono g2
 generalize upd H1 p1 (.lst ux) = H2 at *
 obtain ⟨uy,huy,puy,luy⟩:=(hy.mono g12).len
 refine ⟨_,rfl,b,uy,rfl,.inl (SqL.of huy),fun p2 hp2=>?_⟩
 have g3:=ze hp2 (.lst uy)
 have R2:RowAt (upd H2 p2 (.lst uy)) ys p2:=⟨uy,zf,yO g3 puy⟩
 have g13:=g12.trans g3
 replace hN:=hN.mono g3
 replace R1:=R1.mono g3
 generalize upd H2 p2 (.lst uy) = H3 at *
 refine ⟨(by show 3≤sizeLine; decide),fun pl hpl=>?_⟩
 have g4:=ze hpl (.lst [.ref ph,.ref p1,.ref p2])
 have hl:upd H3 pl (.lst [.ref ph,.ref p1,.ref p2]) pl = some (.lst [.ref ph,.ref p1,.ref p2]):=zf
 have g14:=g13.trans g4
 replace hN:=hN.mono g4
 replace R1:=R1.mono g4
 replace R2:=R2.mono g4
 generalize upd H3 pl (.lst [.ref ph,.ref p1,.ref p2]) = H4 at *
 clear g1 g2 g3 g4 g12 g13 hux pux lux huy puy luy hp1 hp2 hpl ux uy
 refine ⟨_,rfl,pl,_,_,.ref ph,rfl,rfl,SqL.of hl,rfl,_,rfl,pl,_,_,.ref p1,rfl,rfl,SqL.of hl,rfl,_,rfl,pl,_,_,.ref p2,rfl,rfl,SqL.of hl,rfl,_,rfl,A,B,C,xs,ys,n,h,s,turns,_,ph,ua,ub,uc,p1,p2,va,vb,vc,rfl,rfl,hN,R1,R2,n1,n3,oM,wA,wB,ox,oy,lx,ly,wx,wy,h1,h2,t4,fun x pt tU vk rU H5 g5 ht lx' ox' sx ip TU rk=>?_,fun y pt py H5 g5 ht hpy ly' oy' per one=>?_⟩
 ·refine ⟨_,rfl,_,rfl,_,rfl,_,rfl,(by show 3≤sizeLine; decide),fun pz hpz=>?_⟩
  have g7:=ze hpz (.lst [.ref pm,.ref a,.ref b])
  have hz7:upd H5 pz (.lst [.ref pm,.ref a,.ref b]) pz = some (.lst [.ref pm,.ref a,.ref b]):=zf
  have g57:=g5.trans g7
  have g17:=g14.trans g57
  have ht7:=g7 _ _ ht
  have TU7:=TU.mono g7
  have rk7:=rk.mono g7
  generalize upd H5 pz (.lst [.ref pm,.ref a,.ref b]) = H7 at *
  refine ⟨handD A B C xs ys,handD A B C xs ys,JF (g57 _ _ hl) (hN.mono g57) (R1.mono g57) (R2.mono g57),JF hz7 (hM.mono g17) (hx.mono g17) (hy.mono g17),Zd ..,Zd ..,Nat.le_trans (Nat.min_le_left _ _) (Nat.le_trans (Xa ..) (by decide)),_,rfl,?_⟩
  rw [XS]
  refine iteF ?_
  refine ⟨_,rfl,_,_,_,_,rfl,TyOf.tup ht7,zd3 K,_,rfl,iteF ?_⟩
  refine ⟨_,rfl,pt,_,_,.str "inputs",rfl,rfl,SqT.of ht7,rfl,_,_,_,_,rfl,TyOf.str _,zgp K,_,rfl,iteF ?_⟩
  have hM7:=hM.mono g17
  have hx7:=hx.mono g17
  have hy7:=hy.mono g17
  obtain ⟨ux,hux,pux,lux⟩:=hx7.len
  refine ⟨_,rfl,a,_,rfl,.inl (SqL.of hux),?_⟩
  rw [lux,lx]
  refine ⟨_,rfl,pt,_,_,.str "inputs",rfl,rfl,SqT.of ht7,rfl,.str "inputs",.str "never",yn _,yn _,(by decide +kernel),(by decide +kernel),Nat.le_trans (Nat.min_le_left _ _) (by decide),_,rfl,?_⟩
  rw [show PyData.eqv (.str "inputs") (.str "never") = false by decide]
  refine iteF ?_
  refine ⟨_,rfl,pt,_,_,.str "inputs",rfl,rfl,SqT.of ht7,rfl,.str "inputs",.str "inputs",yn _,yn _,(by decide +kernel),(by decide +kernel),Nat.le_trans (Nat.min_le_left _ _) (by decide),_,rfl,?_⟩
  rw [show PyData.eqv (.str "inputs") (.str "inputs") = true by decide]
  refine iteF ?_
  refine ⟨_,rfl,pt,_,rfl,.inr (SqT.of ht7),rfl,_,rfl,iteF ?_⟩
  have tw:turns * h≤4 * 2:=Nat.mul_le_mul t4 h2
  obtain ⟨om,lm⟩:=ZX hk oM turns
  have wM':∀ r∈mvT 0 n h A B turns,∀ x∈r,whk 0 78 x:=fun r hr x hx=>(zcZ hk oM n4 wA wB (by decide) turns r hr x hx).mono (by omega)
  have oT:La.OkM 0 n (transp (1 + turns * h) (mvT 0 n h A B turns)):=by have:=yF om; rw [lm] at this; exact this
  have lT:(transp (1 + turns * h) (mvT 0 n h A B turns)).length = 1 + turns * h:=zq ..
  have wT:=xC om wM'
  have oI:=yB hk oT ox'
  have lI:(imgM 0 (transp (1 + turns * h) (mvT 0 n h A B turns)) x).length = 1 + turns * h:=oI.1.trans lT
  have bI:La.rowB 5240 (imgM 0 (transp (1 + turns * h) (mvT 0 n h A B turns)) x):=by
   have rx:=xP (k:=0) (m:=1288) (by decide) ⟨lx',ox',sx⟩
   have p78:1 < 2 ^ 78:=Nat.one_lt_two_pow (by decide)
   exact (Qe (T:=78) (D:=1) hk (by omega) oT (by decide) p78 (fun r hr y hy=>qb rfl (wT r hr y hy)) ox' (rx.mono (Nat.mul_le_mul_right _ (show n + 1≤4 by omega)))).mono (by decide)
  have lead:=zaO hk oM ox lx oy ly oI.2 lI ip
  have eI:imgM 0 (transp (1 + turns * h) (mvT 0 n h A B turns)) x = La.ndot 0 (zerN 0 n) x :: (colR 0 h A B turns).map fun c=>La.ndot 0 c x:=by rw [zf3 hk oM turns]; rfl
  have z0:La.ndot 0 (zerN 0 n) x = nnum 0 0:=La.JT hk ox' lx'
  have ld:((imgM 0 (transp (1 + turns * h) (mvT 0 n h A B turns)) x).drop 1).length = turns * h:=by rw [List.length_drop]; omega
  have od:La.OkR 0 ((imgM 0 (transp (1 + turns * h) (mvT 0 n h A B turns)) x).drop 1):=fun y hy=>oI.2 y (List.mem_of_mem_drop hy)
  have rows:=Jn (k:=0) ld od
  have inm:∀ u∈cutB h turns ((imgM 0 (transp (1 + turns * h) (mvT 0 n h A B turns)) x).drop 1),∀ y∈u,y∈imgM 0 (transp (1 + turns * h) (mvT 0 n h A B turns)) x:=fun u hu y hy=>by
   unfold cutB at hu
   obtain ⟨i,hi,rfl⟩:=List.mem_map.mp hu
   exact List.mem_of_mem_drop (List.mem_of_mem_drop (List.mem_of_mem_take hy))
  have fl:=qV turns _ ld
  have sI:=xx hk oI.2 bI (by decide)
  have rowE:(cutB h turns ((imgM 0 (transp (1 + turns * h) (mvT 0 n h A B turns)) x).drop 1)).reverse.flatten = (colsT 0 h A B turns).map fun c=>La.ndot 0 c x:=by
   rw [eI]
   exact zdq (fun c=>La.ndot 0 c x) turns
  have cost:La.ndot 0 (imgM 0 (transp (1 + turns * h) (mvT 0 n h A B turns)) x) (imgM 0 (transp (1 + turns * h) (mvT 0 n h A B turns)) x) = La.ndot 0 ((cutB h turns ((imgM 0 (transp (1 + turns * h) (mvT 0 n h A B turns)) x).drop 1)).reverse.flatten) ((cutB h turns ((imgM 0 (transp (1 + turns * h) (mvT 0 n h A B turns)) x).drop 1)).reverse.flatten):=by
   have oR:La.OkR 0 ((cutB h turns ((imgM 0 (transp (1 + turns * h) (mvT 0 n h A B turns)) x).drop 1)).reverse.flatten):=fun y hy=>by
    obtain ⟨r,hr,hy'⟩:=List.mem_flatten.mp hy
    exact (rows r (List.mem_reverse.mp hr)).2 y hy'
   refine La.kfRat.inj (La.yq hk oI.2 oI.2) (La.yq hk oR oR) ?_
   rw [← zgb _ fun u hu=>(rows u hu).2,fl]
   have e1:imgM 0 (transp (1 + turns * h) (mvT 0 n h A B turns)) x = [nnum 0 0] ++ (imgM 0 (transp (1 + turns * h) (mvT 0 n h A B turns)) x).drop 1:=by
    rw [eI,z0]; rfl
   have oz:La.OkR 0 [nnum 0 0]:=fun y hy=>by rw [List.mem_singleton.mp hy]; exact La.zI hk 0
   have ez:La.ndot 0 [nnum 0 0] [nnum 0 0] = nnum 0 0:=La.JT hk (n:=1) oz rfl
   conv=>lhs; rw [e1]
   rw [zeC oz od,ez,La.kfRat.num0]
   grind
  generalize hinp:imgM 0 (transp (1 + turns * h) (mvT 0 n h A B turns)) x = inp at *
  generalize hV:cutB h turns (inp.drop 1) = Vs at *
  have lV:Vs.length = turns:=by rw [← hV,jJ]
  obtain ⟨r0,rb',e0⟩ : ∃ r0 rb',rb = r0 :: rb':=by
   cases rb with
   | nil=>rw [List.length_nil] at lb; omega
   | cons a b=>exact ⟨a,b,rfl⟩
  obtain ⟨b0,hb0,hr0⟩:=zW hM7.b.2 (i:=0) (b:=r0) (by rw [e0]; rfl)
  have lb0:=(oM.b.ok b0 (List.mem_of_getElem? hb0)).1
  obtain ⟨u0,hu0,pu0,lu0⟩:=hr0.len
  have rowR:∀ u∈Vs.reverse,u.length = h∧La.OkR 0 u:=fun u hu=>rows u (List.mem_reverse.mp hu)
  refine ⟨_,rfl,pt,_,_,.ref tU,rfl,rfl,SqT.of ht7,rfl,_,rfl,_,rfl,pm,_,_,.ref tb,rfl,rfl,SqT.of hM7.tup,rfl,tb,_,_,.ref r0,rfl,rfl,SqL.of hM7.b.1,(by rw [e0]; exact zK (j:=0) rfl),r0,_,rfl,.inl (SqL.of hu0),?_⟩
  rw [lu0,lb0]
  refine ⟨0,Vs.reverse,tU,rU,_,_,rfl,hk,TU7,(by rw [List.length_reverse,lV]),(fun r hr=>⟨by rw [(rowR r hr).1],(rowR r hr).2⟩),(by rw [List.length_reverse]; omega),fun H8 g8=>?_⟩
  refine ⟨_,rfl,iteF ?_⟩
  refine ⟨(by show 0≤sizeLine; decide),fun pe hpe=>?_⟩
  have g9:=ze hpe (.lst [])
  have he9:RowAt (upd H8 pe (.lst [])) [] pe:=⟨[],zf,.nil⟩
  have g89:=g8.trans g9
  generalize upd H8 pe (.lst []) = H9 at *
  refine ⟨_,rfl,?_⟩
  have TU9:=TU7.mono g89
  have ht9:=g89 _ _ ht7
  have lrU:=zj TU9.2
  rw [List.length_reverse,lV] at lrU
  refine ⟨_,rfl,pt,_,_,.ref tU,rfl,rfl,SqT.of ht9,rfl,tU,rfl,⟨_,SqL.of TU9.1⟩,?_⟩
  refine yT (xs:=rU.map V.ref) (fun i σ H'=>∃ (po pz:Addr) (o10:Option V),σ = [some (.ref pm),some (.ref a),some (.ref b),some (.int (turns:Int)),some (.bl sure),some (.ref pl),some (.ref pt),some (.int (n:Int)),some (.ref po),some (.ref pz),o10,none]∧Same H9 H'∧RowAt H' (Vs.reverse.take i).flatten po∧RowAt H' (stR 0 A B xs (Vs.reverse.take i).reverse) pz∧La.rowB (100 + i * 7200) (stR 0 A B xs (Vs.reverse.take i).reverse)) ⟨pe,a,none,rfl,Same.refl _,he9,hx7.mono g89,bx.mono (by omega)⟩ ?_ ?_ ?_
  ·rintro i σ H' _ ⟨po,pz,o10,rfl,g,_⟩
   exact SqL.of (g _ _ TU9.1)
  ·rintro i v σ H10 hv ⟨po,pz,o10,rfl,g10,hpo,hpz',bz⟩
   obtain ⟨u,au,hu,_,rfl,hru⟩:=(TU9.mono g10).row hv
   have mu:=List.mem_of_getElem? hu
   have ou:=rowR u mu
   have il:=(List.getElem?_eq_some_iff.mp hu).1
   rw [List.length_reverse,lV] at il
   have rowV:∀ u∈(Vs.reverse.take i).reverse,u.length = h∧La.OkR 0 u:=fun u hu=>rowR u (List.mem_of_mem_take (List.mem_reverse.mp hu))
   obtain ⟨oz,lz⟩:=XB hk oM ox lx _ rowV
   have bu:La.rowB 5240 u:=zfu (inm u (List.mem_reverse.mp mu)) bI
   have sz:=xx hk oz (bz.mono (show _≤4900000 by omega)) (by decide)
   have su:=xx hk ou.2 bu (by decide)
   refine ⟨_,rfl,_,rfl,_,rfl,0,A,B,C,_,u,n,h,s,pm,ta,tb,tc,pz,au,ra,rb,rc,rfl,hk,(hM7.mono g89).mono g10,hpz',hru,by omega,oM,oz,ou.2,lz,ou.1,(fun y hy _=>sz y hy),(fun y hy _=>(su y hy).mono (by decide)),by omega,fun p11 H11 g11 n11=>?_⟩
   have e:addW 0 (imgM 0 A (stR 0 A B xs (Vs.reverse.take i).reverse)) (imgM 0 B u) = stR 0 A B xs (Vs.reverse.take (i + 1)).reverse:=by rw [zD hu,List.reverse_append]; rfl
   have o1:=yB hk oM.a.ok oz
   have o2:=yB hk oM.b.ok ou.2
   have b1:=YX hk (.inr ⟨n3,n3⟩) oM.a oz bz
   have b2:=YX hk (.inr ⟨n3,by omega⟩) oM.b ou.2 bu
   have bN:La.rowB (100 + (i + 1) * 7200) (stR 0 A B xs (Vs.reverse.take (i + 1)).reverse):=by rw [← e]; exact (zff o1.2 o2.2 b1 b2).mono (by omega)
   rw [e] at n11
   obtain ⟨w1,hw1,pw1,lw1⟩:=(hpo.mono g11).len
   obtain ⟨w2,hw2,pw2,lw2⟩:=(hru.mono g11).len
   have lfl:(Vs.reverse.take i).flatten.length≤100:=by
    have h1:∀ W:List (List Nb),(∀ u∈W,u.length≤2)→W.flatten.length≤W.length * 2:=fun W hW=>by
     induction W with
     | nil=>simp
     | cons v W ih =>
      rw [List.flatten_cons,List.length_append,List.length_cons]
      have a1:=ih fun u hu=>hW u (List.mem_cons_of_mem _ hu)
      have a2:=hW v List.mem_cons_self
      omega
    have:=h1 (Vs.reverse.take i) fun u hu=>by have:=(rowR u (List.mem_of_mem_take hu)).1; omega
    rw [List.length_take] at this
    omega
   refine ⟨_,rfl,_,rfl,po,au,_,_,rfl,rfl,hw1,hw2,(by rw [lw1,lw2,ou.1]; omega),fun p12 hp12=>?_⟩
   have g12:=ze hp12 (.lst (w1 ++ w2))
   refine ⟨p12,p11,_,rfl,(g10.trans g11).trans g12,⟨_,zf,?_⟩,n11.row.mono g12,bN⟩
   rw [zD hu,List.flatten_append,List.flatten_cons,List.flatten_nil,List.append_nil]
   exact yO g12 (qI pw1 pw2)
  rintro σ H10 ⟨po,pz,o10,rfl,g10,hpo,hpz',bz⟩
  rw [List.length_map,List.take_of_length_le (by rw [List.length_reverse,lV]; omega)] at hpo hpz'
  rw [List.reverse_reverse,lead] at hpz'
  have g710:=g89.trans g10
  have hy10:=hy7.mono g710
  have ht10:=g10 _ _ ht9
  refine ⟨_,rfl,_,rfl,rowD ys,rowD ys,hpz'.rp,hy10.rp,Ze _,Ze _,Nat.le_trans (Nat.min_le_left _ _) (Nat.le_trans (qx _) (by decide)),_,rfl,?_⟩
  rw [qZ]
  refine iteF ?_
  have ocost:=La.yq hk oI.2 oI.2
  have rk10:=rk7.mono g710
  refine ⟨_,rfl,pt,_,_,vk,rfl,rfl,SqT.of ht10,rfl,0,_,vk,rfl,hk,ocost,rk10,_,rfl,iteF ?_⟩
  have orow:La.OkR 0 Vs.reverse.flatten:=fun y hy=>by
   obtain ⟨r,hr,hy'⟩:=List.mem_flatten.mp hy
   exact (rowR r hr).2 y hy'
  have srow:∀ y∈Vs.reverse.flatten,nsm 5240 y:=fun y hy=>by
   obtain ⟨r,hr,hy'⟩:=List.mem_flatten.mp hy
   exact sI y (inm r (List.mem_reverse.mp hr) y hy')
  have lrow:Vs.reverse.flatten.length = turns * h:=by rw [rowE,List.length_map,Za]
  refine ⟨_,rfl,pt,_,_,vk,rfl,rfl,SqT.of ht10,rfl,_,rfl,_,rfl,_,_,5240,5240,po,po,rfl,hpo,hpo,rfl,by omega,orow,orow,srow,srow,by decide,fun vs2 H11 g11 rs2=>?_⟩
  rw [← cost] at rs2
  refine ⟨toD (La.ndot 0 inp inp),toD (La.ndot 0 inp inp),rk10.mono g11,rs2,xD _,xD _,Nat.le_trans (Nat.min_le_left _ _) (Nat.le_trans (jj _) (by decide)),_,rfl,?_⟩
  rw [qU]
  refine iteF ?_
  have g711:=g710.trans g11
  have hM11:=hM7.mono g711
  have hpo11:=hpo.mono g11
  refine ⟨_,rfl,_,rfl,A,B,C,n,h,s,turns,_,pm,ta,tb,tc,ra,rb,rc,rfl,rfl,hM11,n1,n3,oM,wA,wB,h2,t4,fun tc' rc' H12 g12 TC=>?_⟩
  have lCs:=Za (k:=0) (h:=h) (A:=A) (B:=B) turns
  have lrc:=zj TC.2
  have oTB:=XZ oM.b
  have wTB:=xC wB.ok wB.sz
  have oCs:La.OkM 0 n (colsT 0 h A B turns):=fun c hc=>by
   obtain ⟨c',hb,i,hi,rfl⟩:=XC turns c hc
   have o:=xm hk oM.a.ok lA (oTB.ok c' hb).2 (oTB.ok c' hb).1 i
   exact ⟨o.2,o.1⟩
  have wCs:∀ c∈colsT 0 h A B turns,∀ y∈c,whk 0 78 y:=fun c hc y hy=>by
   obtain ⟨c',hb,i,hi,rfl⟩:=XC turns c hc
   exact (YD hk n4 wA (oTB.ok c' hb).2 (oTB.ok c' hb).1 (wTB c' hb) i y hy).mono (by omega)
  refine ⟨_,rfl,tc',_,rfl,.inl (SqL.of TC.1),_,rfl,_,_,rfl,rfl,_,rfl,(by rw [List.length_map]; omega),(by rw [List.length_map]; omega),?_⟩
  try dsimp only
  rw [List.length_map,← lrc]
  generalize hN':((((colsT 0 h A B turns).length:Nat):Int) - (n:Int)).toNat = N
  refine yA (lo:=0) (n:=N) (fun i zs H'=>Same H12 H'∧zs = (List.replicate i true).map V.bl) ⟨Same.refl _,rfl⟩ ?_ ?_ ?_
  ·rintro i zs H' hi ⟨g,rfl⟩
   rw [List.length_map,List.length_replicate]; omega
  ·rintro i zs H' hi ⟨g,rfl⟩
   first | refine gyes ?_ | refine tyes ?_
   have hsi:i + n < (colsT 0 h A B turns).length:=by omega
   obtain ⟨ov,wv⟩:=zcT n3 hsi oCs wCs (Nat.le_refl (n + 1))
   refine ⟨_,rfl,_,rfl,_,rfl,_,rfl,colsT 0 h A B turns,n,i,_,tc',rc',rfl,(by omega),TC.mono g,oCs,wCs,n3,hsi,by omega,fun pv H13 g13 hv13=>?_⟩
   refine ⟨_,_,5240,280,po,pv,rfl,((hpo11.mono g12).mono g).mono g13,hv13,(by rw [lrow,YB,lCs]),by omega,orow,ov,srow,(fun y hy=>(wv y hy).nsm hk (ov y hy) (Nat.le_refl _) (by decide)),by decide,fun v14 H14 g14 r14=>?_⟩
   rw [rowE,cram n1 n3 hsi oCs wCs ox' lx'] at r14
   refine ⟨(by show 2≤sizeLine; decide),fun pq hpq=>?_⟩
   have g15:=ze hpq (.tup [.int 0,.int 1])
   refine ⟨toD (nnum 0 0),toD (nnum 0 0),r14.mono g15,YF 0 zf,xD _,xD _,Nat.le_trans (Nat.min_le_left _ _) (Nat.le_trans (jj _) (by decide)),?_⟩
   refine nxt hi ⟨((g.trans g13).trans g14).trans g15,?_⟩
   rw [List.replicate_succ',List.map_append]
   first | (rw [qU]; rfl) | (show _ ++ [V.bl (PyData.eqv (toD (nnum 0 0)) (toD (nnum 0 0)))] = _; rw [qU]; rfl)
  ·rintro zs H' ⟨g,rfl⟩ p hp
   refine ⟨p,List.replicate N true,rfl,zf,?_⟩
   rw [JR]
   exact q _ ((((g17.trans g711).trans g12).trans g).trans (ze hp _))
 ·refine ⟨_,rfl,_,rfl,_,rfl,_,rfl,(by show 3≤sizeLine; decide),fun pz hpz=>?_⟩
  have g7:=ze hpz (.lst [.ref pm,.ref a,.ref b])
  have hz7:upd H5 pz (.lst [.ref pm,.ref a,.ref b]) pz = some (.lst [.ref pm,.ref a,.ref b]):=zf
  have g57:=g5.trans g7
  have g17:=g14.trans g57
  have ht7:=g7 _ _ ht
  have hpy7:=hpy.mono g7
  generalize upd H5 pz (.lst [.ref pm,.ref a,.ref b]) = H7 at *
  refine ⟨handD A B C xs ys,handD A B C xs ys,JF (g57 _ _ hl) (hN.mono g57) (R1.mono g57) (R2.mono g57),JF hz7 (hM.mono g17) (hx.mono g17) (hy.mono g17),Zd ..,Zd ..,Nat.le_trans (Nat.min_le_left _ _) (Nat.le_trans (Xa ..) (by decide)),_,rfl,?_⟩
  rw [XS]
  refine iteF ?_
  refine ⟨_,rfl,_,_,_,_,rfl,TyOf.tup ht7,zd3 K,_,rfl,iteF ?_⟩
  refine ⟨_,rfl,pt,_,_,.str "never",rfl,rfl,SqT.of ht7,rfl,_,_,_,_,rfl,TyOf.str _,zgp K,_,rfl,iteF ?_⟩
  have hM7:=hM.mono g17
  have hx7:=hx.mono g17
  have hy7:=hy.mono g17
  obtain ⟨ux,hux,pux,lux⟩:=hx7.len
  refine ⟨_,rfl,a,_,rfl,.inl (SqL.of hux),?_⟩
  rw [lux,lx]
  refine ⟨_,rfl,pt,_,_,.str "never",rfl,rfl,SqT.of ht7,rfl,.str "never",.str "never",yn _,yn _,(by decide +kernel),(by decide +kernel),Nat.le_trans (Nat.min_le_left _ _) (by decide),_,rfl,?_⟩
  rw [show PyData.eqv (.str "never") (.str "never") = true by decide]
  refine iteT ?_
  have no:∀ W:List (List Nb),W.length = turns→(∀ u∈W,u.length = h∧La.OkR 0 u)→stR 0 A B xs W≠ys:=fun W lW oW eW=>by
   have e2:=one
   rw [per _ ((zgv hk oM La.kfRat W oW turns (by omega)).cast fun j=>by
    rw [zd8 hk La.kfRat oy op (ly.trans lp.symm),← eW,zby hk oM La.kfRat ox lx W oW j,lW]
    grind)] at e2
   exact absurd e2 (by decide)
  have nosure:sure = false:=by
   cases sure with
   | false=>rfl
   | true =>
    obtain ⟨V',lV,oV,eV⟩:=hsure rfl
    exact absurd eV (no V' lV oV)
  subst nosure
  refine ⟨_,rfl,_,rfl,iteF ?_⟩
  refine ⟨_,rfl,pt,_,rfl,.inr (SqT.of ht7),rfl,_,rfl,iteF ?_⟩
  refine ⟨_,rfl,pt,_,_,.ref py,rfl,rfl,SqT.of ht7,rfl,_,rfl,0,y,py,_,rfl,hk,hpy7,oy',(by rw [ly']),_,rfl,iteF ?_⟩
  refine ⟨_,rfl,_,rfl,_,rfl,_,rfl,0,A,B,C,xs,ys,n,h,s,turns,100,_,pm,ta,tb,tc,a,b,ra,rb,rc,rfl,rfl,hk,hM7,hx7,hy7,hf,by omega,oM,ox,oy,lx,ly,bx,by',by decide,by decide,h1,h2,by omega,fun U p8 tU rU H8 g8 _ _ lU oU _ eU=>?_,fun y2 p8 py2 H8 g8 ht8 _ _ _ _ _ _=>?_⟩
  ·exact absurd eU (no U.reverse (by rw [List.length_reverse]; exact lU) fun u hu=>oU u (List.mem_reverse.mp hu))
  ·refine ⟨p8,_,_,.str "never",rfl,rfl,SqT.of ht8,rfl,.str "never",.str "never",yn _,yn _,(by decide +kernel),(by decide +kernel),Nat.le_trans (Nat.min_le_left _ _) (by decide),?_⟩
   have e:PyData.eqv (.str "never") (.str "never") = true:=by decide
   have:=q H8 (g17.trans g8)
   first | (rw [e]; exact this) | exact (show Q (.bl (PyData.eqv (.str "never") (.str "never"))) H8 from by rw [e]; exact this)
theorem cutN {ns:List Int} (N:Nat):cutV (ns.map V.int) none (some (N:Int)) = (ns.take N).map V.int:=by
 unfold cutV
 rw [HT.Yq,Nat.sub_zero,List.drop_zero,HT.ZQ,List.length_map,List.map_take]
 rcases Nat.lt_or_ge N ns.length with h | h
 ·rw [Nat.min_eq_left (by omega)]
 ·rw [Nat.min_eq_right (by omega),List.take_of_length_le (by rw [List.length_map]; exact Nat.le_refl _),List.take_of_length_le (by rw [List.length_map]; exact h)]
theorem zfl (c:Int) {m:Nat} (h:0 < m):∃ r:Nat,c.fmod (m:Int) = (r:Int)∧r < m:=by
 have f0:=Int.fmod_nonneg_of_pos c (show (0:Int) < (m:Int) by omega)
 have f1:=Int.fmod_lt_of_pos c (show (0:Int) < (m:Int) by omega)
 exact ⟨(c.fmod (m:Int)).toNat,by omega,by omega⟩
theorem zhR (hP:P.given.tree = none) (hS:base.NoSeer) {f:Addr} {fd:FuncData} (F:Fun K "law" "law" zfs f fd) (XE:Kn P w K mg base "_law_machine" 46 ["_law_cells", "_law_most"] Xx) (xF:Kn P w K mg base "_law_standing" 45 ["_law_prime_here", "_law_cells", "_law_at_here", "_law_n"] Yb) (qN:Kn P w K mg base "_law_next" 44 ["_law_prime_here", "_law_machine_here", "_law_standing_here", "_law_inputs"] JW) (ZZ:Kn P w K mg base "_law_right" 52 ["_law_machine_here", "_law_start", "_law_goal", "_law_turns", "_law_sure"] Qz) (m_len:mg "len" = none) (zt:mg "range" = none) :
  FnOk P w K mg base CX0 53 f fd ["_law_script"] (spLaw K):=by
 refine F.ok sc_law (fun vs H Q E h=>?_) (fun cdv A' outer s' H vs Q E hr h=>?_)
 ·obtain ⟨a,ns,rfl,_⟩:=h; rfl
 obtain ⟨a,ns,rfl,hSq,h63,q⟩:=h
 have szl:sizeLine = 16777216:=by decide
 refine ⟨_,(zc (zm (i:=1) sc_law.nd rfl (.inl rfl) (zi Zq (jy (zeP (K:=K) rfl) (pv 0) ZD (jX zb)) (yC (za zb zd)))) (zc (jS (zi zU (zi (zV hr (by decide) hP hS ⟨_,_,rfl,rfl,rfl,rfl,rfl⟩) (zE (Qp (K:=K) rfl) (pv 1) zb (fun _ _=>rfl)) zb) zb) (ZV (pv 1) zb xN)) (zc (jS (zu XE (hr.mono (by decide)) rfl (za (pv 1) (za (yC (za zb (za zb zd))) zd))) (zdE (K:=K) 3 rfl rfl (zS (zh (i:=2) sc_law.nd rfl (.inl rfl)) (zS (zh (i:=3) sc_law.nd rfl (.inl rfl)) (zS (zh (i:=4) sc_law.nd rfl (.inl rfl)) xn))))) (zc (zm (i:=5) sc_law.nd rfl (.inl rfl) (zG (Xc (K:=K) rfl) rfl m_len yt (za (zE (zc2 (K:=K) rfl) (pv 3) zb (fun _ _=>rfl)) zd))) (zc (zm (i:=6) sc_law.nd rfl (.inl rfl) (zG (Xc (K:=K) rfl) rfl m_len yt (za (zE (Qp (K:=K) rfl) (zE (zc2 (K:=K) rfl) (pv 3) zb (fun _ _=>rfl)) zb (fun _ _=>rfl)) zd))) (zc (zm (i:=7) sc_law.nd rfl (.inl rfl) (zi zN (zi (zV hr (by decide) hP hS ⟨_,_,rfl,rfl,rfl,rfl,rfl⟩) (zE (Qp (K:=K) rfl) (pv 1) zb (fun _ _=>rfl)) zb) zb)) (zc (zm (i:=8) sc_law.nd rfl (.inl rfl) (zu xF (hr.mono (by decide)) rfl (za zb (za (pv 1) (za (pv 4) (za (pv 5) zd)))))) (zc (zm (i:=9) sc_law.nd rfl (.inl rfl) (pv 8)) (zc (yu PassesOwn.never rfl (zR rfl zt (za (pv 7) zd)) (zh (i:=10) sc_law.nd rfl (.inl rfl)) (zg (zm (i:=9) sc_law.nd rfl (.inl rfl) (zu qN (hr.mono (by decide)) rfl (za zb (za (pv 3) (za (pv 9) (za (zu xF (hr.mono (by decide)) rfl (za zb (za (pv 1) (za (zi yh (zi yh (pv 4) (pv 5)) (zi zU (pv 10) (pv 6))) (za (pv 6) zd))))) zd)))))))) (zc (yi (jt (xH (zu ZZ (hr.mono (by decide)) rfl (za (pv 3) (za (pv 8) (za (pv 9) (za (pv 7) (za YG zd)))))))) (zg (zk YG)) zL) (zg (zk (zu ZZ (hr.mono (by decide)) rfl (za (pv 3) (za (pv 8) (za (zu xF (hr.mono (by decide)) rfl (za zb (za (pv 1) (za (zi yh (zi yh (pv 4) (pv 5)) (zi zU (pv 7) (pv 6))) (za (pv 5) zd))))) (za (pv 7) (za YG zd)))))))))))))))))),?_⟩
 refine ⟨_,rfl,_,rfl,a,_,rfl,hSq,fun p1 hp1=>?_⟩
 refine ⟨(by show 1≤sizeLine; decide),fun p2 hp2=>?_⟩
 have n12:p1≠p2:=fun e=>by rw [e,zf] at hp2; cases hp2
 rw [show ((63:Int)) = ((63:Nat):Int) from rfl,cutN 63] at *
 refine ⟨p1,p2,_,_,rfl,rfl,(by rw [zJ n12]; exact zf),zf,?_,fun p3 hp3=>?_⟩
 ·rw [List.length_map,List.length_take]; show min 63 ns.length + 1≤sizeLine; omega
 have e3:(ns.take 63).map V.int ++ [V.int 0] = (ns.take 63 ++ [0]).map V.int:=by simp
 rw [e3]
 have hc0:upd (upd (upd H p1 (.lst ((ns.take 63).map V.int))) p2 (.lst [V.int 0])) p3 (.lst ((ns.take 63 ++ [0]).map V.int)) p3 = some (.lst ((ns.take 63 ++ [0]).map V.int)):=zf
 have lcs:(ns.take 63 ++ [(0:Int)]).length≤1000:=by rw [List.length_append,List.length_take]; show min 63 ns.length + 1≤1000; omega
 have ncs:ns.take 63 ++ [(0:Int)]≠[]:=by simp
 generalize upd (upd (upd H p1 (.lst ((ns.take 63).map V.int))) p2 (.lst [V.int 0])) p3 (.lst ((ns.take 63 ++ [0]).map V.int)) = H0 at *
 generalize ns.take 63 ++ [(0:Int)] = cs at *
 obtain ⟨c0,cs',rfl⟩:=List.exists_cons_of_ne_nil ncs
 refine ⟨_,rfl,p3,_,_,.int c0,rfl,rfl,SqL.of hc0,zK (j:=0) rfl,_,_,rfl,rfl,(by show (3:Int)≠0; decide),_,_,rfl,rfl,jB (by decide) (by decide),?_⟩
 refine ⟨_,rfl,p3,_,_,0,rfl,rfl,hc0,jW (by simp),?_⟩
 have hc1:upd H0 p3 (.lst (((c0 :: cs').map V.int).set 0 (.int (c0.fdiv 3 * 3)))) p3 = some (.lst (((c0.fdiv 3 * 3) :: cs').map V.int)):=zf
 have lcs1:((c0.fdiv 3 * 3) :: cs').length≤1000:=lcs
 have h3:(c0.fdiv 3 * 3).fmod 3 = 0:=by rw [Int.fmod_eq_emod_of_nonneg _ (by decide)]; exact Int.mul_emod_left ..
 generalize upd H0 p3 (.lst (((c0 :: cs').map V.int).set 0 (.int (c0.fdiv 3 * 3)))) = H1 at *
 clear hc0 ncs lcs
 generalize c0.fdiv 3 * 3 = c1 at *
 have ncs:c1 :: cs'≠[]:=by simp
 refine ⟨_,rfl,(by show 2≤sizeLine; decide),fun pq hpq=>?_⟩
 have g1:=ze hpq (.lst [V.int 3,V.int 3])
 refine ⟨p3,pq,c1 :: cs',3,3,rfl,g1 _ _ hc1,ncs,lcs1,zf,(by decide),(by decide),(by decide),(by decide),fun k n m s at' A B C pr pm ta tb tc ra rb rc H2 g2 hpr hM hs ft oM wM m1 m2 s1 s2 nab=>?_⟩
 obtain ⟨wA,wB,wC,k0⟩:=wM
 have k0':k = 0:=k0 h3
 subst k0'
 have hk:=hk0
 have hcc:=g2 _ _ (g1 _ _ hc1)
 clear g1 hc1
 refine ⟨pr,_,rfl,SqT.of hpr,rfl,_,_,rfl,_,_,rfl,_,_,rfl,rfl,?_⟩
 have n1:=ft.1
 have n3:n≤3:=by omega
 have n4:(0:Int) = 0→n≤4:=fun _=>by omega
 have lA:=oM.a.len
 have lB:=oM.b.len
 have la:=zj hM.a.2
 rw [oM.a.len] at la
 have lb:=zj hM.b.2
 rw [oM.b.len] at lb
 refine ⟨_,rfl,pm,_,_,.ref ta,rfl,rfl,SqT.of hM.tup,rfl,ta,_,rfl,.inl (SqL.of hM.a.1),?_⟩
 rw [List.length_map,← la]
 obtain ⟨r0,rb',e0⟩ : ∃ r0 rb',rb = r0 :: rb':=by
  cases rb with
  | nil=>rw [List.length_nil] at lb; omega
  | cons x y=>exact ⟨x,y,rfl⟩
 obtain ⟨b0,hb0,hr0⟩:=zW hM.b.2 (i:=0) (b:=r0) (by rw [e0]; rfl)
 obtain ⟨u0,hu0,pu0,lu0⟩:=hr0.len
 have lb0:=(oM.b.ok b0 (List.mem_of_getElem? hb0)).1
 refine ⟨_,rfl,pm,_,_,.ref tb,rfl,rfl,SqT.of hM.tup,rfl,tb,_,_,.ref r0,rfl,rfl,SqL.of hM.b.1,(by rw [e0]; exact zK (j:=0) rfl),r0,_,rfl,.inl (SqL.of hu0),?_⟩
 rw [lu0,lb0]
 obtain ⟨tn,et,t5⟩:=zfl (c1.fdiv 7) (show 0 < 5 by decide)
 have et':(c1.fdiv 7).fmod 5 = (tn:Int):=et
 refine ⟨_,rfl,p3,_,_,.int c1,rfl,rfl,SqL.of hcc,zK (j:=0) rfl,_,_,rfl,rfl,(by show (7:Int)≠0; decide),_,_,rfl,rfl,(by show (5:Int)≠0; decide),?_⟩
 try dsimp only
 rw [et']
 refine ⟨_,rfl,_,rfl,_,rfl,0,p3,c1 :: cs',at',n,_,rfl,rfl,hk,hcc,ncs,by omega,fun xs ax H3 g3 nx lx ox sx=>?_⟩
 have hM3:=hM.mono g3
 have hc3:=g3 _ _ hcc
 refine ⟨_,rfl,?_⟩
 refine ⟨_,rfl,tn,rfl,by omega,by omega,?_⟩
 rw [Int.toNat_natCast]
 refine yz (lo:=0) (n:=tn) (fun i σ H'=>∃ (Vs:List (List Nb)) (pz:Addr) (o10:Option V),σ = [some (.ref a),some (.ref p3),some (.int 0),some (.ref pm),some (.int (at':Int)),some (.int (n:Int)),some (.int (m:Int)),some (.int (tn:Int)),some (.ref ax),some (.ref pz),o10]∧Same H3 H'∧RowAt H' (stR 0 A B xs Vs) pz∧Vs.length = i∧(∀ u∈Vs,u.length = m∧La.OkR 0 u)∧∀ y∈stR 0 A B xs Vs,whk 0 (2 + i * 17) y) ⟨[],ax,none,rfl,Same.refl _,nx.row,rfl,(fun _ h=>nomatch h),(fun y hy=>(sx y hy).mono (by omega))⟩ ?_ ?_
 ·rintro i σ H5 hi ⟨Vs,pz,o10,rfl,g5,hz,lV,oV,wz⟩
  obtain ⟨oz,lz⟩:=XB hk oM ox lx Vs oV
  have im:i * m≤4 * 2:=Nat.mul_le_mul (by omega) m2
  have e:(at':Int) + (n:Int) + (0 + (i:Int)) * (m:Int) = ((at' + n + i * m:Nat):Int):=by
   rw [Int.zero_add]; push_cast; rfl
  refine ⟨_,rfl,_,rfl,_,rfl,_,rfl,_,rfl,_,_,rfl,rfl,_,rfl,_,rfl,_,_,rfl,rfl,(IntMulOk.of_left (intBits_le_64 (by omega) (by omega))),_,_,rfl,rfl,_,rfl,0,p3,c1 :: cs',at' + n + i * m,m,_,rfl,e,hk,g5 _ _ hc3,ncs,by omega,fun us au H6 g6 nu lu ou su=>?_⟩
  refine ⟨0,A,B,C,_,us,n,m,s,pm,ta,tb,tc,pz,au,ra,rb,rc,rfl,hk,(hM3.mono g5).mono g6,hz.mono g6,nu.row,by omega,oM,oz,ou,lz,lu,(fun x hx=>((wz x hx).szk (by omega)).mono (by omega)),(fun x hx=>((su x hx).szk (by decide)).mono (by decide)),by omega,fun p7 H7 g7 n7=>?_⟩
  have o1:=yB hk oM.a.ok oz
  have o2:=yB hk oM.b.ok ou
  have w1:=za0 hk n4 wA oz wz
  have w2:=za0 hk (fun _=>by omega) wB ou su
  refine ⟨us :: Vs,p7,_,rfl,(g5.trans g6).trans g7,n7.row,by rw [List.length_cons,lV],fun u hu=>?_,fun y hy=>(zho o1.2 o2.2 w1 w2 y hy).mono (by omega)⟩
  rcases List.mem_cons.mp hu with h' | h'
  ·rw [h']; exact ⟨lu,ou⟩
  ·exact oV u h'
 rintro σ H5 ⟨Vs,pz,o10,rfl,g5,hz,lV,oV,wz⟩
 obtain ⟨oz,lz⟩:=XB hk oM ox lx Vs oV
 have hM5:=hM3.mono g5
 have hx5:=nx.row.mono g5
 have hc5:=g5 _ _ hc3
 refine ⟨_,rfl,_,rfl,_,rfl,_,rfl,A,B,C,xs,_,n,m,s,tn,true,_,pm,ta,tb,tc,ax,pz,ra,rb,rc,rfl,rfl,hM5,hx5,hz,n1,n3,oM,wA,wB,ox,oz,lx,lz,sx,(fun y hy=>(wz y hy).mono (by omega)),m1,m2,by omega,by omega,(fun _=>⟨Vs,lV,oV,rfl⟩),fun H6 g6=>?_⟩
 refine ⟨_,rfl,iteF ?_⟩
 have e:(at':Int) + (n:Int) + (tn:Int) * (m:Int) = ((at' + n + tn * m:Nat):Int):=by push_cast; rfl
 refine ⟨_,rfl,_,rfl,_,rfl,_,rfl,_,rfl,_,_,rfl,rfl,_,rfl,_,rfl,_,_,rfl,rfl,(IntMulOk.of_left (intBits_le_64 (by omega) (by omega))),_,_,rfl,rfl,_,rfl,0,p3,c1 :: cs',at' + n + tn * m,n,_,rfl,e,hk,g6 _ _ hc5,ncs,by omega,fun ys bx H7 g7 ny ly oy sy=>?_⟩
 have g67:=g6.trans g7
 exact ⟨_,rfl,A,B,C,xs,ys,n,m,s,tn,false,_,pm,ta,tb,tc,ax,bx,ra,rb,rc,rfl,rfl,hM5.mono g67,hx5.mono g67,ny.row,n1,n3,oM,wA,wB,ox,oy,lx,ly,sx,(fun y hy=>(sy y hy).mono (by decide)),m1,m2,by omega,by omega,(fun h=>nomatch h),fun H8 _=>q H8⟩
end
end KL
open PySem PySem.W PyProof.Rows
set_option maxRecDepth 100000 in
set_option maxHeartbeats 0 in
theorem PySem.Challenge.cw_steermill_k87_whole_cheapest_holds : PySem.Challenge.rw_steermill_k87_whole_cheapest.Holds := by
 refine L2.zcw (l:=PySem.Challenge.rw_steermill_k87_whole_cheapest) 53 2900 KL.lk KL.lv KL.h_ws rfl rfl rfl (by kernel_rfl) (by decide) (fun s=>by kernel_rfl) ⟨KL.h_st,KL.h_sn,KL.h_lk⟩ (by kernel_rfl) (by kernel_rfl) (by kernel_rfl) (by kernel_rfl) (by kernel_rfl) (by kernel_rfl) ⟨rfl,rfl,rfl,rfl,rfl,by decide +kernel⟩ (by w_witness2) (by decide +kernel) ⟨rfl,by decide,by decide⟩ ?F
 case F =>
  intro w mg fa h K KX hq G hmg
  have qf:=congrArg (·.1) hq
  have qm:=congrArg (·.2.1) hq
  have qe:=congrArg (·.2.2.1) hq
  have qc:=congrArg (·.2.2.2) hq
  have ZA:L2.Df K mg "common_divisor" ["one", "other"] KL.yI:=L2.zZ KX G (L2.zF qf 0 rfl rfl) fun _ _ _ _ _ _ us hl=>L2.bind2 (fun _ _=>rfl) us hl
  have zaW:L2.Df K mg "fraction" ["top", "bottom"] KL.qF:=L2.zZ KX G (L2.zF qf 1 rfl rfl) fun _ _ _ _ _ _ us hl=>L2.bind2 (fun _ _=>rfl) us hl
  have zaE:L2.Df K mg "one_over" ["prime", "rest"] KL.qC:=L2.zZ KX G (L2.zF qf 2 rfl rfl) fun _ _ _ _ _ _ us hl=>L2.bind2 (fun _ _=>rfl) us hl
  have zeh:L2.Df K mg "number" ["kind", "whole"] KL.Yu:=L2.zZ KX G (L2.zF qf 3 rfl rfl) fun _ _ _ _ _ _ us hl=>L2.bind2 (fun _ _=>rfl) us hl
  have zfz:L2.Df K mg "minus" ["kind", "one", "other"] KL.JY:=L2.zZ KX G (L2.zF qf 4 rfl rfl) fun _ _ _ _ _ _ us hl=>L2.bind3 (fun _ _ _=>rfl) us hl
  have zgD:L2.Df K mg "over" ["kind", "one", "other"] KL.zbr:=L2.zZ KX G (L2.zF qf 5 rfl rfl) fun _ _ _ _ _ _ us hl=>L2.bind3 (fun _ _ _=>rfl) us hl
  have zdZ:L2.Df K mg "scaled" ["kind", "row"] KL.Yv:=L2.zZ KX G (L2.zF qf 6 rfl rfl) fun _ _ _ _ _ _ us hl=>L2.bind2 (fun _ _=>rfl) us hl
  have zaV:L2.Df K mg "quotient" ["kind", "top", "bottom"] KL.qt:=L2.zZ KX G (L2.zF qf 7 rfl rfl) fun _ _ _ _ _ _ us hl=>L2.bind3 (fun _ _ _=>rfl) us hl
  have zap:L2.Df K mg "whole_sum" ["one", "other"] KL.jN:=L2.zZ KX G (L2.zF qf 8 rfl rfl) fun _ _ _ _ _ _ us hl=>L2.bind2 (fun _ _=>rfl) us hl
  have Zp:L2.Df K mg "sum_of_products" ["kind", "one", "other"] KL.yE:=L2.zZ KX G (L2.zF qf 9 rfl rfl) fun _ _ _ _ _ _ us hl=>L2.bind3 (fun _ _ _=>rfl) us hl
  have zfP:L2.Df K mg "eased" ["kind", "wholes"] KL.JA:=L2.zZ KX G (L2.zF qf 10 rfl rfl) fun _ _ _ _ _ _ us hl=>L2.bind2 (fun _ _=>rfl) us hl
  have zca:L2.Df K mg "cleared" ["kind", "row", "lead_row", "column"] KL.Zm:=L2.zZ KX G (L2.zF qf 11 rfl rfl) fun _ _ _ _ _ _ us hl=>L2.bind4 (fun _ _ _ _=>rfl) us hl
  have zeS:L2.Df K mg "swept" ["kind", "rows"] KL.Qa:=L2.zZ KX G (L2.zF qf 12 rfl rfl) fun _ _ _ _ _ _ us hl=>L2.bind2 (fun _ _=>rfl) us hl
  have zcK:L2.Df K mg "noughts" ["kind", "width"] KL.Zf:=L2.zZ KX G (L2.zF qf 13 rfl rfl) fun _ _ _ _ _ _ us hl=>L2.bind2 (fun _ _=>rfl) us hl
  have Xk:L2.Df K mg "nought_table" ["kind", "rows", "columns"] KL.yZ:=L2.zZ KX G (L2.zF qf 14 rfl rfl) fun _ _ _ _ _ _ us hl=>L2.bind3 (fun _ _ _=>rfl) us hl
  have Ql:L2.Df K mg "difference" ["kind", "one", "other"] KL.xO:=L2.zZ KX G (L2.zF qf 15 rfl rfl) fun _ _ _ _ _ _ us hl=>L2.bind3 (fun _ _ _=>rfl) us hl
  have zcH:L2.Df K mg "abreast" ["one", "other"] KL.Zb:=L2.zZ KX G (L2.zF qf 16 rfl rfl) fun _ _ _ _ _ _ us hl=>L2.bind2 (fun _ _=>rfl) us hl
  have zeE:L2.Df K mg "turned" ["table"] KL.Yo:=L2.zZ KX G (L2.zF qf 17 rfl rfl) fun _ _ _ _ _ _ us hl=>L2.bind1 (fun _=>rfl) us hl
  have zb5:L2.Df K mg "product" ["kind", "one", "other"] KL.Zl:=L2.zZ KX G (L2.zF qf 18 rfl rfl) fun _ _ _ _ _ _ us hl=>L2.bind3 (fun _ _ _=>rfl) us hl
  have zeQ:L2.Df K mg "image" ["kind", "table", "row"] KL.Qr:=L2.zZ KX G (L2.zF qf 19 rfl rfl) fun _ _ _ _ _ _ us hl=>L2.bind3 (fun _ _ _=>rfl) us hl
  have zcB:L2.Df K mg "lead_of" ["kind", "row"] KL.Zc:=L2.zZ KX G (L2.zF qf 20 rfl rfl) fun _ _ _ _ _ _ us hl=>L2.bind2 (fun _ _=>rfl) us hl
  have zac:L2.Df K mg "over_lead" ["kind", "wholes"] KL.jH:=L2.zZ KX G (L2.zF qf 21 rfl rfl) fun _ _ _ _ _ _ us hl=>L2.bind2 (fun _ _=>rfl) us hl
  have zcy:L2.Df K mg "reduced" ["kind", "rows"] KL.qY:=L2.zZ KX G (L2.zF qf 22 rfl rfl) fun _ _ _ _ _ _ us hl=>L2.bind2 (fun _ _=>rfl) us hl
  have Ye:L2.Df K mg "some_solution" ["kind", "table", "row"] KL.yU:=L2.zZ KX G (L2.zF qf 23 rfl rfl) fun _ _ _ _ _ _ us hl=>L2.bind3 (fun _ _ _=>rfl) us hl
  have zdt:L2.Df K mg "solved" ["kind", "table", "row"] KL.Ys:=L2.zZ KX G (L2.zF qf 24 rfl rfl) fun _ _ _ _ _ _ us hl=>L2.bind3 (fun _ _ _=>rfl) us hl
  have zck:L2.Df K mg "drifted" ["kind", "machine", "standing"] KL.qW:=L2.zZ KX G (L2.zF qf 25 rfl rfl) fun _ _ _ _ _ _ us hl=>L2.bind3 (fun _ _ _=>rfl) us hl
  have Jj:L2.Df K mg "left_to_go" ["kind", "machine", "start", "goal", "turns"] KL.jc:=L2.zZ KX G (L2.zF qf 26 rfl rfl) fun _ _ _ _ _ _ us hl=>L2.bind5 (fun _ _ _ _ _=>rfl) us hl
  have za3:L2.Df K mg "moved_by" ["kind", "machine", "turns"] KL.qA:=L2.zZ KX G (L2.zF qf 27 rfl rfl) fun _ _ _ _ _ _ us hl=>L2.bind3 (fun _ _ _=>rfl) us hl
  have zcE:L2.Df K mg "in_turn" ["strung_out", "hands"] KL.Zg:=L2.zZ KX G (L2.zF qf 28 rfl rfl) fun _ _ _ _ _ _ us hl=>L2.bind2 (fun _ _=>rfl) us hl
  have zfO:L2.Df K mg "steer" ["kind", "machine", "start", "goal", "turns"] KL.JI:=L2.zZ KX G (L2.zF qf 29 rfl rfl) fun _ _ _ _ _ _ us hl=>L2.bind5 (fun _ _ _ _ _=>rfl) us hl
  have zaX:L2.Df K mg "cheapest" ["machine", "start", "goal", "turns"] KL.qB:=L2.zZ KX G (L2.zF qf 30 rfl rfl) fun _ _ _ _ _ _ us hl=>L2.bind4 (fun _ _ _ _=>rfl) us hl
  have JD:L2.Df K mg "_law_whole" ["_law_found"] KL.xV:=L2.zZ KX G (L2.zF qf 31 rfl rfl) fun _ _ _ _ _ _ us hl=>L2.bind1 (fun _=>rfl) us hl
  have YJ:L2.Df K mg "_law_divisor" ["_law_one", "_law_other"] KL.xl:=L2.zZ KX G (L2.zF qf 32 rfl rfl) fun _ _ _ _ _ _ us hl=>L2.bind2 (fun _ _=>rfl) us hl
  have Jk:L2.Df K mg "_law_mixed" ["_law_cell", "_law_k"] KL.xS:=L2.zZ KX G (L2.zF qf 33 rfl rfl) fun _ _ _ _ _ _ us hl=>L2.bind2 (fun _ _=>rfl) us hl
  have Js:L2.Df K mg "_law_drawn" ["_law_prime_here", "_law_cell"] KL.xX:=L2.zZ KX G (L2.zF qf 34 rfl rfl) fun _ _ _ _ _ _ us hl=>L2.bind2 (fun _ _=>rfl) us hl
  have Yi:L2.Df K mg "_law_fraction" ["_law_top", "_law_bottom"] KL.yR:=L2.zZ KX G (L2.zF qf 35 rfl rfl) fun _ _ _ _ _ _ us hl=>L2.bind2 (fun _ _=>rfl) us hl
  have Qx:L2.Df K mg "_law_make" ["_law_prime_here", "_law_whole_here"] KL.jv:=L2.zZ KX G (L2.zF qf 36 rfl rfl) fun _ _ _ _ _ _ us hl=>L2.bind2 (fun _ _=>rfl) us hl
  have zat:L2.Df K mg "_law_plus" ["_law_prime_here", "_law_one", "_law_other"] KL.jP:=L2.zZ KX G (L2.zF qf 37 rfl rfl) fun _ _ _ _ _ _ us hl=>L2.bind3 (fun _ _ _=>rfl) us hl
  have JZ:L2.Df K mg "_law_times" ["_law_prime_here", "_law_one", "_law_other"] KL.xW:=L2.zZ KX G (L2.zF qf 38 rfl rfl) fun _ _ _ _ _ _ us hl=>L2.bind3 (fun _ _ _=>rfl) us hl
  have Qk:L2.Df K mg "_law_minus" ["_law_prime_here", "_law_one", "_law_other"] KL.jb:=L2.zZ KX G (L2.zF qf 39 rfl rfl) fun _ _ _ _ _ _ us hl=>L2.bind3 (fun _ _ _=>rfl) us hl
  have ZN:L2.Df K mg "_law_is_number" ["_law_prime_here", "_law_found"] KL.yG:=L2.zZ KX G (L2.zF qf 40 rfl rfl) fun _ _ _ _ _ _ us hl=>L2.bind2 (fun _ _=>rfl) us hl
  have Jz:L2.Df K mg "_law_image" ["_law_prime_here", "_law_table", "_law_column"] KL.ja:=L2.zZ KX G (L2.zF qf 41 rfl rfl) fun _ _ _ _ _ _ us hl=>L2.bind3 (fun _ _ _=>rfl) us hl
  have XL:L2.Df K mg "_law_across" ["_law_table"] KL.xA:=L2.zZ KX G (L2.zF qf 42 rfl rfl) fun _ _ _ _ _ _ us hl=>L2.bind1 (fun _=>rfl) us hl
  have XH:L2.Df K mg "_law_is_row" ["_law_prime_here", "_law_found", "_law_many"] KL.xy:=L2.zZ KX G (L2.zF qf 43 rfl rfl) fun _ _ _ _ _ _ us hl=>L2.bind3 (fun _ _ _=>rfl) us hl
  have YU:L2.Df K mg "_law_is_rows" ["_law_prime_here", "_law_found", "_law_rows", "_law_columns_here"] KL.xh:=L2.zZ KX G (L2.zF qf 44 rfl rfl) fun _ _ _ _ _ _ us hl=>L2.bind4 (fun _ _ _ _=>rfl) us hl
  have Qs:L2.Df K mg "_law_prime" ["_law_cell"] KL.yN:=L2.zZ KX G (L2.zF qf 45 rfl rfl) fun _ _ _ _ _ _ us hl=>L2.bind1 (fun _=>rfl) us hl
  have zb8:L2.Df K mg "_law_at" ["_law_prime_here", "_law_cells", "_law_k"] KL.Zi:=L2.zZ KX G (L2.zF qf 46 rfl rfl) fun _ _ _ _ _ _ us hl=>L2.bind3 (fun _ _ _=>rfl) us hl
  have Ji:L2.Df K mg "_law_small" ["_law_prime_here", "_law_cells", "_law_k"] KL.xQ:=L2.zZ KX G (L2.zF qf 47 rfl rfl) fun _ _ _ _ _ _ us hl=>L2.bind3 (fun _ _ _=>rfl) us hl
  have Jh:L2.Df K mg "_law_sorts" ["_law_head", "_law_n", "_law_plain"] KL.xM:=L2.zZ KX G (L2.zF qf 48 rfl rfl) fun _ _ _ _ _ _ us hl=>L2.bind3 (fun _ _ _=>rfl) us hl
  have QC:L2.Df K mg "_law_lets" ["_law_row", "_law_column"] KL.jw:=L2.zZ KX G (L2.zF qf 49 rfl rfl) fun _ _ _ _ _ _ us hl=>L2.bind2 (fun _ _=>rfl) us hl
  have YH:L2.Df K mg "_law_blocked" ["_law_prime_here", "_law_cells", "_law_sizes", "_law_sorts_here"] KL.xb:=L2.zZ KX G (L2.zF qf 50 rfl rfl) fun _ _ _ _ _ _ us hl=>L2.bind4 (fun _ _ _ _=>rfl) us hl
  have Zz:L2.Df K mg "_law_exchanged" ["_law_prime_here", "_law_tables", "_law_cell"] KL.yH:=L2.zZ KX G (L2.zF qf 51 rfl rfl) fun _ _ _ _ _ _ us hl=>L2.bind3 (fun _ _ _=>rfl) us hl
  have Xr:L2.Df K mg "_law_machine" ["_law_cells", "_law_most"] KL.xg:=L2.zZ KX G (L2.zF qf 52 rfl rfl) fun _ _ _ _ _ _ us hl=>L2.bind2 (fun _ _=>rfl) us hl
  have QO:L2.Df K mg "_law_copy" ["_law_machine_here"] KL.jR:=L2.zZ KX G (L2.zF qf 53 rfl rfl) fun _ _ _ _ _ _ us hl=>L2.bind1 (fun _=>rfl) us hl
  have zaj:L2.Df K mg "_law_next" ["_law_prime_here", "_law_machine_here", "_law_standing_here", "_law_inputs"] KL.jQ:=L2.zZ KX G (L2.zF qf 54 rfl rfl) fun _ _ _ _ _ _ us hl=>L2.bind4 (fun _ _ _ _=>rfl) us hl
  have Yn:L2.Df K mg "_law_standing" ["_law_prime_here", "_law_cells", "_law_at_here", "_law_n"] KL.yP:=L2.zZ KX G (L2.zF qf 55 rfl rfl) fun _ _ _ _ _ _ us hl=>L2.bind4 (fun _ _ _ _=>rfl) us hl
  have Xi:L2.Df K mg "_law_columns" ["_law_machine_here", "_law_turns"] KL.xf:=L2.zZ KX G (L2.zF qf 56 rfl rfl) fun _ _ _ _ _ _ us hl=>L2.bind2 (fun _ _=>rfl) us hl
  have xE:L2.Df K mg "_law_det" ["_law_rows"] KL.ji:=L2.zZ KX G (L2.zF qf 57 rfl rfl) fun _ _ _ _ _ _ us hl=>L2.bind1 (fun _=>rfl) us hl
  have YV:L2.Df K mg "_law_noughts" ["_law_columns_here", "_law_start", "_law_n"] KL.xa:=L2.zZ KX G (L2.zF qf 58 rfl rfl) fun _ _ _ _ _ _ us hl=>L2.bind3 (fun _ _ _=>rfl) us hl
  have zaI:L2.Df K mg "_law_sum" ["_law_one", "_law_other"] KL.qG:=L2.zZ KX G (L2.zF qf 59 rfl rfl) fun _ _ _ _ _ _ us hl=>L2.bind2 (fun _ _=>rfl) us hl
  have JO:L2.Df K mg "_law_right" ["_law_machine_here", "_law_start", "_law_goal", "_law_turns", "_law_sure"] KL.xT:=L2.zZ KX G (L2.zF qf 60 rfl rfl) fun _ _ _ _ _ _ us hl=>L2.bind5 (fun _ _ _ _ _=>rfl) us hl
  have m_abs:mg "abs" = none:=PySem.W.mg_none_of KX G (L2.zF qm 0 rfl rfl)
  have m_all:mg "all" = none:=PySem.W.mg_none_of KX G (L2.zF qm 1 rfl rfl)
  have zea:mg "bool" = none:=PySem.W.mg_none_of KX G (L2.zF qm 2 rfl rfl)
  have m_int:mg "int" = none:=PySem.W.mg_none_of KX G (L2.zF qm 3 rfl rfl)
  have zO:mg "isinstance" = none:=PySem.W.mg_none_of KX G (L2.zF qm 4 rfl rfl)
  have m_len:mg "len" = none:=PySem.W.mg_none_of KX G (L2.zF qm 5 rfl rfl)
  have yS:mg "list" = none:=PySem.W.mg_none_of KX G (L2.zF qm 6 rfl rfl)
  have m_min:mg "min" = none:=PySem.W.mg_none_of KX G (L2.zF qm 7 rfl rfl)
  have zt:mg "range" = none:=PySem.W.mg_none_of KX G (L2.zF qm 8 rfl rfl)
  have ZF:mg "reversed" = none:=PySem.W.mg_none_of KX G (L2.zF qm 9 rfl rfl)
  have JL:mg "sorted" = none:=PySem.W.mg_none_of KX G (L2.zF qm 10 rfl rfl)
  have m_str:mg "str" = none:=PySem.W.mg_none_of KX G (L2.zF qm 11 rfl rfl)
  have m_sum:mg "sum" = none:=PySem.W.mg_none_of KX G (L2.zF qm 12 rfl rfl)
  have jM:mg "tuple" = none:=PySem.W.mg_none_of KX G (L2.zF qm 13 rfl rfl)
  have m_zip:mg "zip" = none:=PySem.W.mg_none_of KX G (L2.zF qm 14 rfl rfl)
  obtain ⟨fd,FL,hb⟩:=L2.zh1 (st:=KL.zfs) KX G hmg (L2.zF qf 61 rfl rfl) (fun _ _ _ _ _ _ _=>rfl)
  refine ⟨fd,hb,fun base _ _ hS=>?_⟩
  have hP:(PySem.Challenge.rw_steermill_k87_whole_cheapest).prog.given.tree = none:=rfl
  have a1:=KL.zig (P:=(PySem.Challenge.rw_steermill_k87_whole_cheapest).prog) (w:=w) (base:=base) ZA m_abs
  have a2:=KL.zbb hP hS zaW a1
  have a3:=KL.zba (P:=(PySem.Challenge.rw_steermill_k87_whole_cheapest).prog) (w:=w) (base:=base) hP hS zaE
  have a4:=KL.zda (P:=(PySem.Challenge.rw_steermill_k87_whole_cheapest).prog) (w:=w) (base:=base) zeh
  have a7:=KL.zfK zfz a2
  have a8:=KL.zha zgD a2 a4 a3
  have a9:=KL.zcV hP hS zdZ a1 yS
  have a10:=KL.zg4 zaV a8 a4
  have a11:=KL.zfQ hP hS zfP a1
  have a12:=KL.zcs zca a11 m_zip
  have a13:=KL.zeV zeS a11 a12 m_len zt
  have a14:=KL.QB zac a10
  have a15:=KL.zcz zcy a9 a13 a14
  have a17:=KL.zgF zcB a4
  have a23:=KL.zcg zcK a4
  have a23w:=KL.zhl (P:=(PySem.Challenge.rw_steermill_k87_whole_cheapest).prog) (w:=w) (base:=base) zap m_sum m_zip
  have a24:=KL.zhZ Zp a10 a23w
  have a25:=KL.zfn zeQ (KL.zaz a9) a24
  have a26:=KL.zel (P:=(PySem.Challenge.rw_steermill_k87_whole_cheapest).prog) (w:=w) (base:=base) zeE zt m_len
  have e1:=KL.zcJ (P:=(PySem.Challenge.rw_steermill_k87_whole_cheapest).prog) (w:=w) (base:=base) zcH m_zip
  have e2:=KL.zch zb5 a26 (KL.zaz a9) a24
  have e3:=KL.zib Ye a23 a17 a15 e1 a26 m_len
  have e4:=KL.zef zdt e3 a23 a4 a26 m_len
  have e5:=KL.zgz Xk a23 zt
  have c1:=KL.zhb Ql a7 m_zip
  have c2:=KL.zfo zck a25
  have e6:=KL.zgS Jj c2 c1 zt
  have e7:=KL.zfa za3 e5 e2 e1 zt m_len
  have e8:=KL.zet (P:=(PySem.Challenge.rw_steermill_k87_whole_cheapest).prog) (w:=w) (base:=base) zcE zt m_len yS ZF
  have e9:=KL.zfU zfO e4 e7 e6 e5 e8 m_min m_len
  have b4:=KL.zhI (P:=(PySem.Challenge.rw_steermill_k87_whole_cheapest).prog) (w:=w) (base:=base) YJ m_abs
  have b6:=KL.Qy hP hS Yi b4
  have b5:=KL.ze2 (P:=(PySem.Challenge.rw_steermill_k87_whole_cheapest).prog) (w:=w) (base:=base) hP hS Jk zt
  have b7:=KL.zdV hP hS Js b6
  have b8:=KL.zfR (P:=(PySem.Challenge.rw_steermill_k87_whole_cheapest).prog) (w:=w) (base:=base) Qx
  have b9:=KL.zeT zat b6
  have b10:=KL.zdf JZ b6
  have b11:=KL.zes Qk b8 b9 b10
  have b12:=KL.zeK (P:=(PySem.Challenge.rw_steermill_k87_whole_cheapest).prog) (w:=w) (base:=base) hP hS Qs
  have b13:=KL.zhJ zb8 b7 b5 m_len
  have b14:=KL.zdW Ji b13
  have b15:=KL.zeM Jh b5 zt JL
  have b16:=KL.zeX (P:=(PySem.Challenge.rw_steermill_k87_whole_cheapest).prog) (w:=w) (base:=base) QC
  have b17:=KL.zaJ YH b8 b14 b16 zt
  have b18:=KL.zfy hP hS Zz b8 b9 b10 b11 m_len m_zip
  have b19:=KL.zaC hP hS Xr b12 b15 b17 b18 m_int zt
  have b20:=KL.zd7 (P:=(PySem.Challenge.rw_steermill_k87_whole_cheapest).prog) (w:=w) (base:=base) XL zt m_len
  have b21:=KL.ze4 (P:=(PySem.Challenge.rw_steermill_k87_whole_cheapest).prog) (w:=w) (base:=base) JD zO m_int zea
  have b22:=KL.zex ZN b21 b4 zO jM m_len
  have b23:=KL.zdS XH b22 zO yS m_len
  have b24:=KL.zcr YU b23 zO yS m_len m_all
  have b26:=KL.zc3 Jz b8 b9 b10 zt m_len
  have b27:=KL.zfT (P:=(PySem.Challenge.rw_steermill_k87_whole_cheapest).prog) (w:=w) (base:=base) QO jM yS
  have c5:=KL.Qt Yn b14 zt
  have c6:=KL.zeW zaj b26 b9 m_zip
  have f1:=KL.zfH zaX e7 a26 e2 e6 e4 a25 e8 m_len
  have f2:=KL.zgu zaI b9 b10 m_zip
  have f3:=KL.zfC Xi b20 b26 zt
  have d0:=KL.zgK (P:=(PySem.Challenge.rw_steermill_k87_whole_cheapest).prog) (w:=w) (base:=base) xE
  have d1:=KL.Jw 0 xE d0 b9 b10 zt m_len
  have d2:=KL.Jw 1 xE d1 b9 b10 zt m_len
  have d3:=KL.Jw 2 xE d2 b9 b10 zt m_len
  have d4:=KL.Jw 3 xE d3 b9 b10 zt m_len
  have f4:=KL.zgP YV d4 b10 zt
  have f5:=KL.zdH JO b27 f1 e9 b23 b24 b22 c6 f2 f3 f4 yS zO jM m_str m_len zt m_all
  exact KL.zhR hP hS FL b19 c5 c6 f5 m_len zt
#print axioms PySem.Challenge.cw_steermill_k87_whole_cheapest_holds
