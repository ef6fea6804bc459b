import PyProof.Rows.All
import Wide.All
import OpenK.AllK
import Wide.FinOn
import Lean
import PyProof.EqAt
import PyProof.EqKinds
import PyProof.TupleCall
import PySem.Challenge.RW_steermill_k62_whole_put_together
noncomputable section
local macro_rules | `(tactic| omega) => `(tactic| lia)
open List renaming getElem?_eq_getElem->wa,getD_eq_getElem?_getD->wb,length_map->wc,mem_of_getElem?->wd,getElem_mem->we,getElem?_map->wf,take_of_length_le->wg,length_take->wj,mem_map->wk,getElem?_eq_some_iff->wm,mem_singleton->wn,mem_append->wo,mem_cons_self->wq,length_zipWith->wr,map_append->wt,length_append->wu,replicate->ww,size_toArray->wx,mem_cons->wy,mem_cons_of_mem->wD,mem_of_mem_take->wE,getElem_of_mem->wV,map_congr_left->wW,mem_append_right->wY,range->wZ,getElem?_range->ve,getElem?_set->vf,getElem?_append_right->vg,length_replicate->vh,zipWith->vm,of_mem_zip->vn,getElem?_append_left->vo,map_map->vq,length_set->vv,getElem_zipWith->vy,getElem?_eq_none->vA,length_reverse->vE,not_mem_nil->vF,length->vG,getElem?_zipWith->vH,mem_range->vI,mem_of_mem_drop->vJ,eq_of_mem_replicate->vL,length_drop->vO,replicate_succ->vP,map_take->vR,getElem?_reverse->vS,map_cons->vV,flatten_cons->vZ,map_drop->uf,take_succ_eq_append_getElem->uh,range_succ->ul,drop_of_length_le->uq,exists_cons_of_ne_nil->ut,length_zip->uu,mem_append_left->uw,replicate_succ'->ux,all_eq_true->uy,map_uncurry_zip_eq_zipWith->uA,getElem?_replicate->uB,getElem?_set_self->uE,length_range->uK,take_length->uN,mem_flatten->uO,length_cons->uP,mem_reverse->uR,nodup_cons->uT,getElem?_drop->gh,getElem?_set_ne->gp,append_nil->gt,map_nil->gw,filterMap_cons->gC,drop_zero->gG,getElem?_take->gH,getElem?_zip_eq_some->gM,nodup_append->gO,lookup_cons->gR,ext_getElem->gV,map_reverse->gZ,getElem_map->Ga,getElem?_cons_succ->Gc,foldl_cons->Ge,length_nil->Gh,length_singleton->Gi,mem_iff_getElem?->Gk,getD->Gm,take_append_drop->Gq,mem_filterMap->Gs,append_assoc->Gx,ext_getElem?->GB,getElem?_inj->GC,reverse_cons->GD,mem_filter->GO,nil_append->GP,sum_append->GR,foldl->GT,sum_nil->wai,map_set->wak
open Nat renaming le_refl->wl,mul_le_mul_right->wH,lt_of_lt_of_le->wO,lt_or_ge->wS,ne_of_lt->vk,le_trans->vp,add_sub_cancel_left->vz,zero_add->vC,reduceAdd->vD,lt_or_eq_of_le->vK,zero_le->vN,le_of_lt_succ->vU,succ_mul->vW,lt_irrefl->vY,le_of_lt->ud,pow_le_pow_right->ue,mul_le_mul->ug,le_mul_of_pos_right->um,mul_le_mul_left->uz,not_lt_zero->uF,min_le_left->uG,min_eq_left->uH,lt_succ_self->uM,min_eq_right->uQ,two_pow_pos->uX,lt_of_le_of_lt->gf,le_of_succ_le->gk,pow_add->gm,le_add_right->gn,le_antisymm->gv,sub_self->gy,le_total->gA,le_succ->gI,add_mul->gJ,coprime_comm->gW,mul_comm->Gb,one_mul->Gp,pow_succ->Gv,sub_zero->Gw,lt_succ_of_lt->Gz,le_of_not_lt->GG,mul_lt_mul''->GI,succ_le_succ->GJ,mod_eq_of_lt->GK,pow_pos->GM,zero_lt_one->GS,gcd->GU,ne_of_gt->GW,add_comm->GZ,div_self->waf,zero_mul->waj
open Int renaming fmod_nonneg_of_pos->wp,fmod_lt_of_pos->wv,toNat_natCast->wJ,gcd->vd,zero_add->vt,natAbs_mul->vM,fdiv_eq_ediv_of_dvd->vT,natAbs_natCast->uk,ediv_mul_cancel->uo,natCast_nonneg->ur,emod_lt_of_pos->uD,gcd_pos_of_ne_zero_right->uI,emod_add_mul_ediv->uJ,gcd_dvd_left->uL,emod_nonneg->uU,mul_ne_zero->uV,natCast_mul->uW,dvd_mul_of_dvd_right->uY,lt_or_le->gi,gcd_dvd_right->gj,mul_le_mul_of_nonneg_left->gu,gcd_eq_natAbs_gcd_natAbs->gD,natAbs_pos->gE,gcd_pos_of_ne_zero_left->gF,fmod_eq_emod_of_nonneg->gK,natAbs_add_le->gL,eq_ofNat_of_zero_le->Gd,natAbs_dvd_natAbs->Go,le_of_dvd->Gr,gcd_zero->Gu,natAbs_sub_le->Gy,dvd_sub->GH,mul_pos->GN,ediv_nonneg->GQ,zero_fmod->GV,fmod_def->waa,gcd_comm->wab,zero_mul->wac,mul_comm->wad,gcd_ediv->wae,mul_zero->wag,zero_dvd->wah,one_mul->wal,neg_dvd->wam
open Bool renaming false_ne_true->wX,eq_false_iff->uv,eq_iff_iff->uS,and_eq_true->gS
open Rat renaming intCast_mul->vw,divInt->vQ,intCast_eq_zero_iff->uC,num_divInt_den->uZ,divInt_eq_divInt_iff->gP,divInt_ofNat->gQ,intCast_add->Gf,intCast_inj->Gg,divInt_mul_divInt->Gj,divInt_eq_div->GA
open Option renaming map_eq_some_iff->vB,getD_none->GE
open Classical renaming choose_spec->Gn
set_option Elab.async false
set_option linter.all false
set_option maxRecDepth 100000
namespace L2
open PySem PySem.Spec PyProof.Rows
abbrev Key:=Sum Int Str
def keyIs:Key->Value->Bool
 | .inl k,v=>Value.isInt k v
 | .inr x,v=>Value.isStrOf x v
def keyH(w:World):Key->Int
 | .inl k=>hashInt k
 | .inr x=>hashStr w x
theorem yy:∀ {k:Key} {v:Value},keyIs k v=true->(∃ i t,k=Sum.inl i/\v=Value.int i t)\/(∃ x t,k=Sum.inr x/\v=Value.str x t)
 | .inl i,v,h=>by
  obtain⟨t,e⟩:=Value.isInt_shape (k:=i) (v:=v) h;exact .inl ⟨i,t,rfl,e⟩
 | .inr x,v,h=>by
  obtain⟨t,e⟩:=Value.isStrOf_shape (x:=x) (v:=v) h;exact .inr ⟨x,t,rfl,e⟩
theorem zgP(a b:Int):decide ((Sum.inl a:Key)=Sum.inl b) =(a == b):=by
 by_cases e:a=b
 ·subst e;simp
 ·have h:¬(Sum.inl a:Key)=Sum.inl b:=fun q=>e (Sum.inl.inj q)
  rw[decide_eq_false h];exact(beq_eq_false_iff_ne.mpr e).symm
theorem zhJ(a b:Str):decide ((Sum.inr a:Key)=Sum.inr b)=decide (a=b):=by
 by_cases e:a=b
 ·subst e;simp
 ·have h:¬(Sum.inr a:Key)=Sum.inr b:=fun q=>e (Sum.inr.inj q)
  rw[decide_eq_false h,decide_eq_false e]
theorem zhD(a:Int)(b:Str):decide ((Sum.inl a:Key)=Sum.inr b)=false:=decide_eq_false (fun q=>nomatch q)
theorem zhA(a:Str)(b:Int):decide ((Sum.inr a:Key)=Sum.inl b)=false:=decide_eq_false (fun q=>nomatch q)
def mixKind(prog:Program)(w:World):PySem.KeyKind prog w Key where
 is:=keyIs
 hash:=keyH w
 inj:=fun v a b ha hb=>by
  rcases yy ha with⟨i,t,rfl,rfl⟩|⟨x,t,rfl,rfl⟩
  ·rcases yy hb with⟨j,u,rfl,e⟩|⟨y,u,rfl,e⟩
   ·injection e with e1 _;rw[e1]
   ·exact nomatch e
  ·rcases yy hb with⟨j,u,rfl,e⟩|⟨y,u,rfl,e⟩
   ·exact nomatch e
   ·injection e with e1 _;rw[e1]
 byValue:=fun k v h=>by
  rcases yy h with⟨i,t,rfl,rfl⟩|⟨x,t,rfl,rfl⟩ <;> rfl
 pyHash:=fun hv h=>by
  rcases yy hv with⟨i,t,rfl,rfl⟩|⟨x,t,rfl,rfl⟩
  ·exact wpAny_pyHash_int h
  ·exact wpAny_pyHash_str h
 eqBool:=fun hu hv h=>by
  rcases yy hu with⟨i,t,rfl,rfl⟩|⟨x,t,rfl,rfl⟩
  ·rcases yy hv with⟨j,u,rfl,rfl⟩|⟨y,u,rfl,rfl⟩
   ·rw[zgP]at h;exact wpAny_eqBool_int h
   ·rw[zhD]at h;exact SeqAt.EqAt.int_str i t y u _ _ _ _ h
  ·rcases yy hv with⟨j,u,rfl,rfl⟩|⟨y,u,rfl,rfl⟩
   ·rw[zhA]at h;exact SeqAt.EqAt.str_int x t j u _ _ _ _ h
   ·rw[zhJ]at h;exact wpAny_eqBool_str h
 «strs»:=fun k x t v h=>by
  rcases yy h with⟨i,u,rfl,e⟩|⟨y,u,rfl,e⟩
  ·exact nomatch e
  ·injection e with e1 _
   subst e1;cases v <;> rfl
end L2
namespace L2
open PySem PySem.Spec PyProof.Rows
inductive V where
 | non|bl (b:Bool) | int (i:Int) | str (x:Str) | byt (b:Array UInt8) | flt (b:UInt64) | ref (a:Addr) | ty (n:String)
 deriving DecidableEq
def RelV:V->Value->Prop
 | .non,u=>u=Value.none
 | .bl b,u=>u=Value.bool b
 | .int i,u=>∃ t,u=Value.int i t
 | .str x,u=>∃ t,u=Value.str x t
 | .byt b,u=>∃ t,u=Value.bytes b t
 | .flt b,u=>∃ t,u=Value.float b t
 | .ref a,u=>u=Value.ref a
 | .ty n,u=>u=Value.type n
abbrev Vals:List V->List Value->Prop:=Paired RelV
theorem Vals.length{xs:List V}{us:List Value}(r:Vals xs us):xs.length=us.length:=Paired.length r
theorem Vals.get:∀ {xs:List V} {us:List Value} {i:Nat} {x:V},Vals xs us->xs[i]?=some x->∃ u,us[i]?=some u/\RelV x u
 | _,_,_,_,.nil,e=>by simp at e
 | _,_,0,_,.cons r _,e=>by simp at e;subst e;exact⟨_,rfl,r⟩
 | _,_,i+1,x,.cons _ t,e=>by
  obtain⟨u,h1,h2⟩:=Vals.get (i:=i) (x:=x) t (by simpa using e);exact⟨u,by simpa using h1,h2⟩
theorem Vals.set{x:V}{u:Value}(r:RelV x u):∀ {xs:List V} {us:List Value} (i:Nat),Vals xs us->Vals (xs.set i x) (us.set i u)
 | _,_,_,.nil=>.nil
 | _,_,0,.cons _ t=>.cons r t
 | _,_,i+1,.cons q t=>.cons q (Vals.set r i t)
theorem Vals.append:∀ {xs ys:List V} {us ws:List Value},Vals xs us->Vals ys ws->Vals (xs++ys) (us++ws)
 | _,_,_,_,.nil,s=>s
 | _,_,_,_,.cons r t,s=>.cons r (Vals.append t s)
theorem Vals.take:∀ {xs:List V} {us:List Value} (n:Nat),Vals xs us->Vals (xs.take n) (us.take n)
 | _,_,0,_=>.nil
 | _,_,_+1,.nil=>.nil
 | _,_,n+1,.cons r t=>.cons r (Vals.take n t)
theorem Vals.drop:∀ {xs:List V} {us:List Value} (n:Nat),Vals xs us->Vals (xs.drop n) (us.drop n)
 | _,_,0,r=>r
 | _,_,_+1,.nil=>.nil
 | _,_,n+1,.cons _ t=>Vals.drop n t
def RelO:Option V->Option Value->Prop
 | some v,some u=>RelV v u
 | none,none=>True
 | _,_=>False
def KV{κ:Type}:List (κ×V)->List (κ×Value)->Prop:=Paired fun(p:κ×V) (q:κ×Value)=>p.1=q.1/\RelV p.2 q.2
def kV:Key->V
 | .inl i=>.int i
 | .inr x=>.str x
inductive HO where
 | lst (xs:List V)
 | tup (xs:List V)
 | dK (kvs:List (Key×V)) | dT (kvs:List (List Key×V))
 | set (S:Int->Bool) (n:Nat)
 | ins (C dx:Addr) (fs:List (Str×V))
 | own (x:Addr)
 | xd (fs:List (Str×V))
 | met (f x:Addr)
 | rng (lo hi:Int)
 | frz (o:Obj) (u:HO)
 | tbl (ps:Array Value)
 | ext (φ:Heap->Prop)
abbrev Hp:=Addr->Option HO
def upd(H:Hp)(a:Addr)(o:HO):Hp:=fun b=>if b=a then some o else H b
theorem ze{H:Hp}{a:Addr}{o:HO}:upd H a o a=some o:=by unfold upd;rw[if_pos rfl]
theorem zH{H:Hp}{a b:Addr}{o:HO}(h:b≠a):upd H a o b=H b:=by unfold upd;rw[if_neg h]
theorem zT{H:Hp}{a b:Addr}{o:HO}(h:H a=some o)(h':H b=none):a≠b:=by
 intro e;subst e;rw[h]at h';cases h'
section
variable(P:Program)(w:World)
def kap(H:Hp)(h:Heap)(a:Addr):HO->Prop
 | .lst xs=>xs.length<=sizeLine/\∃(its:List Value)(n:Nat),Vals xs its/\h.get? a=some { cls:=.type "list",data:=.seq its.toArray n }
 | .tup xs=>xs.length<=sizeLine/\∃ its:List Value,Vals xs its/\IsTup h a its.toArray
 | .dK kvs=>kvs.length<=sizeLine/\(a == sysModules)=false/\∃ vs,KV kvs vs/\h.DictOf (mixKind P w) a vs
 | .dT kvs=>kvs.length<=sizeLine/\(a == sysModules)=false/\∃ xs:List (List Key×Addr×Value),
   Paired (fun(p:List Key×V) (q:List Key×Addr×Value)=>p.1=q.1/\H q.2.1=some (.tup (p.1.map kV))/\RelV p.2 q.2.2) kvs xs /\
   ∃ o es ep,h.get? a=some o/\o.ExactDict/\o.data=.dict es ep/\es.toList=xs.map (entryOfKey (tupleKind (mixKind P w)))/\(xs.map (·.1)).Nodup
 | .set S n=>h.SetOf (intKind P w) a S n
 | .ins C dx fs=>H dx=some (.own a)/\fs.length<=1000/\dx≠a/\h.get? a=some (PySem.W.instObj C dx) /\
   ∃ mA,h.Ns1 dx mA/\(∀ f,RelO (fs.lookup f) (mA f))/\PySem.Within mA (fs.map (·.1))
 | .own _=>∃ o,h.get? a=some o
 | .xd fs=>∃ mA,h.Ns1 a mA/\∀ f,RelO (fs.lookup f) (mA f)
 | .rng lo hi=>∃ t u v,h.get? a=some { cls:=.type "range",data:=.fields #[.int lo t,.int hi u,.int 1 v] }
 | .frz o u=>h.get? a=some o/\kap H h a u
 | .tbl ps=>h.get? a=some { cls:=.none,data:=.fields ps }
 | .met f x=>h.get? a=some (PySem.W.methodObj (.ref f) (.ref x))
 | .ext φ=>φ h/\(∃ o,h.get? a=some o)/\∀ h1 h2:Heap,φ h1->(∀ o,h1.get? a=some o->h2.get? a=some o)->φ h2
def HOk(H:Hp)(h:Heap):Prop:=∀ a o,H a=some o->kap P w H h a o
end
section
variable{P:Program}{w:World}{H H':Hp}{h h':Heap}{a:Addr}{o:HO}
theorem kap.lt(x:kap P w H h a o):a<h.objs.size:=by
 cases o with
 | lst xs=>obtain⟨_,_,_,_,e⟩:=x;exact Heap.lt_size e
 | tup xs=>obtain⟨_,_,_,p⟩:=x;exact p.lt
 | dK kvs=>obtain⟨_,_,_,_,o,_,_,e,_⟩:=x;exact Heap.lt_size e
 | dT kvs=>obtain⟨_,_,_,_,o,_,_,e,_⟩:=x;exact Heap.lt_size e
 | set S n=>obtain⟨o,_,_,_,e,_⟩:=x;exact Heap.lt_size e
 | ins C dx fs=>obtain⟨_,_,_,e,_⟩:=x;exact Heap.lt_size e
 | own y=>obtain⟨_,e⟩:=x;exact Heap.lt_size e
 | xd fs=>obtain⟨_,⟨_,_,_,e,_⟩,_⟩:=x;exact Heap.lt_size e
 | rng lo hi=>obtain⟨_,_,_,e⟩:=x;exact Heap.lt_size e
 | frz ob u=>obtain⟨e,_⟩:=x;exact Heap.lt_size e
 | tbl ps=>exact Heap.lt_size (show h.get? a=some _ from x)
 | met f y=>exact Heap.lt_size (show h.get? a=some _ from x)
 | ext φ=>obtain⟨_,⟨_,e⟩,_⟩:=x;exact Heap.lt_size e
theorem Paired.mapP{α β:Type}{F G:α->β->Prop}:∀ {l₁:List α} {l₂:List β},Paired F l₁ l₂->(∀ a b,F a b->G a b)->Paired G l₁ l₂
 | _,_,.nil,_=>.nil
 | _,_,.cons r t,f=>.cons (f _ _ r) (Paired.mapP t f)
theorem kap.stay(x:kap P w H h a o)(k:∀ b u,(b=a\/H b=some (.own a))->h.get? b=some u->h'.get? b=some u)
  (ho:∀ b,H b=some (.own a)->H' b=some (.own a)) (ht:∀ b xs,H b=some (.tup xs)->H' b=some (.tup xs)):kap P w H' h' a o:=by
 induction o with
 | lst xs=>obtain⟨z,its,n,r,e⟩:=x;exact⟨z,its,n,r,k _ _ (.inl rfl) e⟩
 | tup xs=>obtain⟨z,its,r,ob,e,c⟩:=x;exact⟨z,its,r,ob,k _ _ (.inl rfl) e,c⟩
 | dK kvs=>obtain⟨z,y,vs,r,ob,es,ep,e,c⟩:=x;exact⟨z,y,vs,r,ob,es,ep,k _ _ (.inl rfl) e,c⟩
 | dT kvs =>
  obtain⟨z,y,xs,r,ob,es,ep,e,c⟩:=x;exact⟨z,y,xs,Paired.mapP r fun p q z=>⟨z.1,ht _ _ z.2.1,z.2.2⟩,ob,es,ep,k _ _ (.inl rfl) e,c⟩
 | set S n=>obtain⟨ob,es,ep,t,e,c⟩:=x;exact⟨ob,es,ep,t,k _ _ (.inl rfl) e,c⟩
 | ins C dx fs =>
  obtain⟨d,z,ne,e,mA,⟨od,es,ep,e2,c⟩,r⟩:=x;exact⟨ho _ d,z,ne,k _ _ (.inl rfl) e,mA,⟨od,es,ep,k _ _ (.inr d) e2,c⟩,r⟩
 | own y=>obtain⟨ob,e⟩:=x;exact⟨ob,k _ _ (.inl rfl) e⟩
 | xd fs=>obtain⟨mA,⟨od,es,ep,e,c⟩,r⟩:=x;exact⟨mA,⟨od,es,ep,k _ _ (.inl rfl) e,c⟩,r⟩
 | rng lo hi=>obtain⟨t,u,v,e⟩:=x;exact⟨t,u,v,k _ _ (.inl rfl) e⟩
 | frz ob u ih=>obtain⟨e,q⟩:=x;exact⟨k _ _ (.inl rfl) e,ih q⟩
 | tbl ps =>
  have e:h.get? a=some { cls:=.none,data:=.fields ps }:=x;show h'.get? a=some { cls:=.none,data:=.fields ps };exact k a _ (.inl rfl) e
 | met f y =>
  have e:h.get? a=some (PySem.W.methodObj (.ref f) (.ref y)):=x;show h'.get? a=some (PySem.W.methodObj (.ref f) (.ref y));exact k a _ (.inl rfl) e
 | ext φ=>obtain⟨p,⟨o,e⟩,st⟩:=x;exact⟨st _ _ p fun o q=>k _ _ (.inl rfl) q,⟨o,k _ _ (.inl rfl) e⟩,st⟩
theorem HOk.lt(x:HOk P w H h)(e:H a=some o):a<h.objs.size:=(x a o e).lt
theorem HOk.fresh(x:HOk P w H h)(e:h.objs.size<=a):H a=none:=by
 cases q:H a with
 | none=>rfl
 | some u=>exact absurd (wO (x.lt q) e) (vY _)
theorem HOk.kept(x:HOk P w H h)(k:∀ b u,h.get? b=some u->h'.get? b=some u):HOk P w H h':=fun a o e =>
 (x a o e).stay (fun b u _ q=>k b u q) (fun _ q=>q) fun _ _ q=>q
theorem HOk.laid(x:HOk P w H h)(k:∀ b u,h.get? b=some u->h'.get? b=some u)(hp:h.objs.size<=a)(new:kap P w (upd H a o) h' a o):HOk P w (upd H a o) h':=fun b u e=>by
 have hn:=x.fresh hp
 by_cases hb:b=a
 ·subst hb;rw[ze]at e;cases e;exact new
 ·rw[zH hb]at e;exact(x b u e).stay (fun c v _ q=>k c v q) (fun c q=>by rw[zH (zT q hn)];exact q) fun c xs q=>by rw[zH (zT q hn)];exact q
end
def Rd(H:Hp)(a:Addr)(u:HO):Prop:=H a=some u\/∃ o,H a=some (.frz o u)
theorem Rd.ok{P:Program}{w:World}{H:Hp}{h:Heap}{a:Addr}{u:HO}(r:Rd H a u)(x:HOk P w H h):kap P w H h a u:=by
 rcases r with r|⟨o,r⟩
 ·exact x a u r
 ·obtain⟨_,q⟩:=x a _ r;exact q
def Mut:Option HO->Prop
 | some (.lst _)=>True
 | some (.dK _)=>True
 | some (.dT _)=>True
 | some (.set _ _)=>True
 | some (.ins _ _ _)=>True
 | some (.ext _)=>True
 | _=>False
section
variable{P:Program}{w:World}{H:Hp}{h h':Heap}{x e:Addr}{o':HO}
theorem HOk.write(ok:HOk P w H h)(mu:Mut (H x))(he:e=x\/H e=some (.own x))(k:∀ b u,b≠e->h.get? b=some u->h'.get? b=some u)(heo:∃ u,h'.get? e=some u)
  (new:kap P w (upd H x o') h' x o'):HOk P w (upd H x o') h':=fun b u q=>by
 have nown:∀ c y,H c=some (.own y)->c≠x:=fun c y r z=>by subst z;rw[r]at mu;exact mu
 have ntup:∀ c xs,H c=some (.tup xs)->c≠x:=fun c xs r z=>by subst z;rw[r]at mu;exact mu
 by_cases hb:b=x
 ·subst hb;rw[ze]at q;cases q;exact new
 ·rw[zH hb]at q
  by_cases hbe:b=e
  ·have q':H b=some (.own x):=by
    rcases he with z|z
    ·exact absurd (hbe.trans z) hb
    ·rw[hbe];exact z
   rw[q]at q';cases q';obtain⟨v,hv⟩:=heo;exact⟨v,by rw[hbe];exact hv⟩
  ·refine(ok b u q).stay (fun c v hc r=>k c v ?_ r) (fun c r=>by rw[zH (nown c b r)];exact r) fun c xs r=>by rw[zH (ntup c xs r)];exact r
   rcases hc with rfl|hc
   ·exact hbe
   ·rintro rfl
    rcases he with z|z
    ·exact nown c b hc z
    ·rw[hc]at z;cases z;exact hb rfl
end
structure Un(fs ex:List Addr)(H H':Hp)(h h':Heap):Prop where
 keep:∀ b o,h.get? b=some o->H b=none->b∉fs->b∉ex->h'.get? b=some o
 slot:∀ b o,h.get? b=some o->H b=none->b∈fs->b∉ex->∃ sl,h'.get? b=some { o with slots:=sl }
 free:∀ b o,h.get? b=some o->H b=none->b∉ex->H' b=none
 there:∀ b o,h.get? b=some o->b∉ex->∃ o',h'.get? b=some o'
 tups:∀ b xs,H b=some (.tup xs)->H' b=some (.tup xs)
 frzs:∀ b o u,H b=some (.frz o u)->H' b=some (.frz o u)
 tbls:∀ b ps,H b=some (.tbl ps)->∃ more,H' b=some (.tbl (ps++more))
section
variable{fs fs' ex ex':List Addr}{H H1 H2:Hp}{h h1 h2 h':Heap}{a x e:Addr}{o:HO}
theorem Un.any(u:Un fs ex H H1 h h1){b:Addr}{ob:Obj}(q:h.get? b=some ob)(n:H b=none)(hx:b∉ex):∃ sl,h1.get? b=some { ob with slots:=sl }:=by
 by_cases hb:b∈fs
 ·exact u.slot b ob q n hb hx
 ·exact⟨ob.slots,u.keep b ob q n hb hx⟩
theorem Un.kept(k:∀ b u,h.get? b=some u->h'.get? b=some u):Un fs ex H H h h' :=
 ⟨fun b ob q _ _ _=>k b ob q,fun b ob q _ _ _=>⟨ob.slots,k b ob q⟩,fun _ _ _ n _=>n,fun b ob q _=>⟨ob,k b ob q⟩,fun _ _ q=>q,fun _ _ _ q=>q,fun _ ps q=>⟨#[],by rw[q];simp⟩⟩
theorem Un.refl:Un fs ex H H h h:=Un.kept fun _ _ q=>q
theorem Un.laid(k:∀ b u,h.get? b=some u->h'.get? b=some u)(hp:h.objs.size<=a)(hn:H a=none):Un fs ex H (upd H a o) h h' where
 keep:=fun b u q _ _ _=>k b u q
 slot:=fun b u q _ _ _=>⟨u.slots,k b u q⟩
 free:=fun b u q n _=>by rw[zH (vk (wO (Heap.lt_size q) hp))];exact n
 there:=fun b u q _=>⟨u,k b u q⟩
 tups:=fun b xs q=>by rw[zH (zT q hn)];exact q
 frzs:=fun b u xs q=>by rw[zH (zT q hn)];exact q
 tbls:=fun b ps q=>⟨#[],by rw[zH (zT q hn),q];simp⟩
theorem Un.write(mu:Mut (H x))(he:e=x\/H e=some (.own x))(k:∀ b u,b≠e->h.get? b=some u->h'.get? b=some u)(heo:∃ u,h'.get? e=some u):Un fs ex H (upd H x o) h h':=by
 have hx:∀ b,H b=none->b≠x:=fun b n z=>by subst z;rw[n]at mu;exact mu
 have hb:∀ b,H b=none->b≠e:=fun b n z=>by
  subst z
  rcases he with r|r
  ·exact hx b n r
  ·rw[n]at r;cases r
 have hm:∀ b u,H b=some u->¬ Mut (some u)->b≠x:=fun b u q nm z=>by subst z;rw[q]at mu;exact nm mu
 refine⟨fun b u q n _ _=>k b u (hb b n) q,fun b u q n _ _=>⟨u.slots,k b u (hb b n) q⟩,fun b u q n _=>by rw[zH (hx b n)];exact n,fun b u q _=>?_,
  fun b xs q=>by rw[zH (hm b _ q fun z=>z)];exact q,fun b u xs q=>by rw[zH (hm b _ q fun z=>z)];exact q,fun b ps q=>⟨#[],by rw[zH (hm b _ q fun z=>z),q];simp⟩⟩
 by_cases hbe:b=e
 ·subst hbe;exact heo
 ·exact⟨u,k b u hbe q⟩
end
def trk(h:Heap)(H:Hp):List Addr:=(wZ h.objs.size).filter fun a=>(H a).isSome
def hidT(h:Heap)(H:Hp):Heap:=PySem.W.hideAll h (trk h H)
theorem zdC(h:Heap)(H:Hp):(hidT h H).objs.size=h.objs.size:=PySem.W.hideAll_size _ _
theorem zeY{h:Heap}{H:Hp}{b:Addr}{o:Obj}(e:h.get? b=some o)(n:H b=none):(hidT h H).get? b=some o :=
 PySem.W.hideAll_get _ e fun hm=>by
  have q:(H b).isSome=true:=(GO.mp hm).2;rw[n]at q;simp at q
theorem zgx{h:Heap}{H:Hp}{b:Addr}{o:Obj}(e:(hidT h H).get? b=some o):h.get? b=some o/\H b=none:=by
 have e':h.get? b=some o:=PySem.W.of_hideAll (trk h H) e;refine⟨e',?_⟩;cases q:H b with
 | none=>rfl
 | some x =>
  have hm:b∈trk h H:=GO.mpr ⟨vI.mpr (Heap.lt_size e'),by simp[q]⟩;have z:(hidT h H).get? b=none:=PySem.W.hideAll_none (trk h H) hm;rw[z]at e;cases e
end L2
namespace L2
open PySem PySem.Spec PyProof.Rows
structure Mod(K:PySem.W.Frag)(mg:Str->Option Value)(base:Heap):Prop where
 kin:K.In base
 glob:base.Ns mainGlobals mg
 blt:∃ mb,base.Ns builtinsNs mb/\∀ x:Str,x ≠ "__name__" -> mb x=bootBuiltins x
 nolimit:base.NoLimit
structure Cx where
 prog:Program
 w:World
 K:PySem.W.Frag
 mg:Str->Option Value
 base:Heap
 A:Around
 N:List Str
 s₀:Shared
 H₀:Hp
 env:Env
 outer:List Env
 stack:List Env
 ex:List Addr
 fn:Str->Bool
 calm:Bool
 pn:List (Addr×Obj)
 xe:Value->Shared->Prop
def frs(l:List Env):List Addr:=l.filterMap (·.frame)
abbrev Cx.fs(X:Cx):List Addr:=frs X.outer
def Vis(sc:Scope)(x:Str):Prop:=sc.names.lookup x=some .local\/sc.names.lookup x=some .cell\/sc.names.lookup x=some .free
def Loc(sc:Scope)(x:Str):Prop:=sc.names.lookup x=some .local\/sc.names.lookup x=some .cell
def Look(env:Env)(h:Heap)(m:Str->Option Value)(x:Str)(u:Value):Prop :=
 (env.kindOf x=some .local/\m x=some u)\/((env.kindOf x=some .cell\/env.kindOf x=some .free)/\∃ c,env.cells.lookup x=some c/\h.IsCell c (some u))
structure Cx.Ok(X:Cx):Prop where
 mod:Mod X.K X.mg X.base
 kind:X.env.scope.kind=.function
 glob:X.env.globals=mainGlobals
 blt:X.env.builtins=builtinsNs
 above:X.s₀.heap.objs.size<=X.env.locals
 inj:∀ x y c,X.env.cells.lookup x=some c->X.env.cells.lookup y=some c->x=y
 has:∀ x,(X.env.kindOf x=some .cell\/X.env.kindOf x=some .free)->∃ c,X.env.cells.lookup x=some c
 cab:∀ x c,X.fn x=true->X.env.cells.lookup x=some c->X.s₀.heap.objs.size<=c
 hd:X.calm=true->X.A.handled=none
 frames:X.A.frames=some X.stack
 stk:X.stack=X.outer\/(X.stack=X.env::X.outer/\X.env.frame=some X.env.locals)
 exf:∀ b∈X.ex,b≠X.env.locals/\∀ x c,X.env.cells.lookup x=some c->c≠b
 bs:∀ b o,X.base.get? b=some o->X.s₀.heap.get? b=some o/\X.H₀ b=none
 bsz:X.base.objs.size<=X.s₀.heap.objs.size
 noex:∀ b o,X.base.get? b=some o->b∉X.ex
 exfs:∀ b∈X.ex,b∉X.fs
 funs:X.s₀.heap.FunFrames X.base X.outer
 frf:∀ b∈X.fs,X.H₀ b=none
structure Inv(X:Cx)(pins:List (Addr×Obj))(σ:List (Option V))(H:Hp)(s:Shared):Prop where
 ok:X.Ok
 os:s.os=X.s₀.os
 bare:AllBare s.gens
 base:Un X.fs X.ex X.H₀ H X.s₀.heap s.heap
 loc:∃ m,s.heap.Ns X.env.locals m/\∀(i:Nat)(x:Str)(v:V),X.N[i]?=some x->σ[i]?=some (some v)->Vis X.env.scope x->∃ u,RelV v u/\Look X.env s.heap m x u
 cell:∀ x c,X.env.cells.lookup x=some c->∃ v,s.heap.IsCell c v
 free:H X.env.locals=none
 freeC:∀ x c,X.env.cells.lookup x=some c->H c=none
 pin:∀ p∈X.pn++pins,s.heap.get? p.1=some p.2/\H p.1=none/\p.1≠X.env.locals/\p.1∉X.fs/\∀ v,p.2.data≠.cell v
 hok:HOk X.prog X.w H s.heap
 len:σ.length=X.N.length
section
variable{X:Cx}{pins:List (Addr×Obj)}{σ:List (Option V)}{H H':Hp}{s:Shared}{h':Heap}
theorem Cx.Ok.nofr(ok:X.Ok){b:Addr}{o:Obj}(e:X.base.get? b=some o):b∉X.fs:=fun hb=>by
 have:=(ok.funs.mem hb).1;rw[e]at this;cases this
theorem Inv.bs(I:Inv X pins σ H s):∀ b o,X.base.get? b=some o->s.heap.get? b=some o/\H b=none:=fun b o e =>
 ⟨I.base.keep b o (I.ok.bs b o e).1 (I.ok.bs b o e).2 (I.ok.nofr e) (I.ok.noex b o e),I.base.free b o (I.ok.bs b o e).1 (I.ok.bs b o e).2 (I.ok.noex b o e)⟩
theorem Inv.bk(I:Inv X pins σ H s):∀ b o,X.base.get? b=some o->s.heap.get? b=some o:=fun b o e=>(I.bs b o e).1
theorem Inv.mod(I:Inv X pins σ H s):Mod X.K X.mg X.base:=I.ok.mod
theorem Inv.kIn(I:Inv X pins σ H s):X.K.In s.heap:=I.ok.mod.kin.keeps I.bk
theorem Inv.nolimit(I:Inv X pins σ H s):s.heap.NoLimit:=I.ok.mod.nolimit.keeps I.bk
theorem Inv.lt(I:Inv X pins σ H s):X.env.locals<s.heap.objs.size:=let ⟨_,hn,_⟩:=I.loc;hn.lt
theorem Inv.sz(I:Inv X pins σ H s):X.s₀.heap.objs.size<=s.heap.objs.size:=vp I.ok.above (ud I.lt)
theorem Inv.nofs(I:Inv X pins σ H s){a:Addr}(h:s.heap.objs.size<=a):a∉X.fs:=fun hb=>by
 obtain⟨_,o,ho,_⟩:=I.ok.funs.mem hb;exact absurd (wO (Heap.lt_size ho) (vp I.sz h)) (vY _)
theorem Inv.cne(I:Inv X pins σ H s):∀ x c,X.env.cells.lookup x=some c->c≠X.env.locals:=fun x c e z=>by
 obtain⟨v,o,ho,hd⟩:=I.cell x c e;obtain⟨m,⟨o',es,ep,ho',hd',_⟩,_⟩:=I.loc;rw[z,ho']at ho;cases ho;rw[hd']at hd;cases hd
theorem Inv.funs(I:Inv X pins σ H s):s.heap.FunFrames X.base X.outer:=by
 have all:∀(l:List Env),(∀ b∈frs l,b∈X.fs)->X.s₀.heap.FunFrames X.base l->s.heap.FunFrames X.base l:=by
  intro l
  induction l with
  | nil=>intro _ _;trivial
  | cons env r ih =>
   intro hs hl;obtain⟨hk,⟨L,o,hf,hn,ho,hd⟩,hr⟩:=hl;have hL:L∈X.fs:=hs L (by unfold frs;rw[gC,hf];exact wq);obtain⟨sl,e⟩:=I.base.slot L o ho (I.ok.frf L hL) hL fun z=>I.ok.exfs L z hL
   exact⟨hk,⟨L,_,hf,hn,e,hd⟩,ih (fun b hb=>hs b (by unfold frs;rw[gC,hf];exact wD _ hb)) hr⟩
 exact all X.outer (fun _ hb=>hb) I.ok.funs
theorem Inv.stack(I:Inv X pins σ H s):s.heap.FunFrames X.base X.stack:=by
 rcases I.ok.stk with e|⟨e,hf⟩
 ·rw[e];exact I.funs
 ·rw[e];obtain⟨m,hn,_⟩:=I.loc;refine .cons (by rw[I.ok.kind];decide) hf hn ?_ I.funs;exact Heap.get?_none_of_le (vp I.ok.bsz I.ok.above)
theorem Inv.stkSub(I:Inv X pins σ H s):∀ b∈frs X.stack,b∈X.env.locals::X.fs:=fun b hb=>by
 rcases I.ok.stk with e|⟨e,hf⟩
 ·rw[e]at hb;exact wD _ hb
 ·rw[e]at hb;unfold frs at hb;rw[gC,hf]at hb;exact hb
theorem Inv.stkFree(I:Inv X pins σ H s):∀ b∈frs X.stack,H b=none:=fun b hb=>by
 rcases wy.mp (I.stkSub b hb)with e|hb
 ·rw[e];exact I.free
 ·obtain⟨_,o,ho,_⟩:=I.ok.funs.mem hb;exact I.base.free b o ho (I.ok.frf b hb) fun z=>I.ok.exfs b z hb
theorem Inv.step{g':Array GenState}{t':Nat}{d':Drawn}{ch:List Addr}(I:Inv X pins σ H s)
  (hch:∀ b∈ch,(b∈X.ex\/X.s₀.heap.objs.size<=b)/\b≠X.env.locals/\(∀ x c,X.env.cells.lookup x=some c->c≠b)/\∀ p∈X.pn++pins,p.1≠b)
  (keep:∀ b o,b≠X.env.locals->b∉X.fs->b∉ch->s.heap.get? b=some o->H b=none->h'.get? b=some o)
  (slot:∀ b o,b≠X.env.locals->b∈X.fs->b∉ch->s.heap.get? b=some o->H b=none->∃ sl,h'.get? b=some { o with slots:=sl }) (free:∀ b o,b∉ch->s.heap.get? b=some o->H b=none->H' b=none)
  (there:∀ b o,b∉ch->s.heap.get? b=some o->∃ o',h'.get? b=some o')
  (tups:∀ b xs,H b=some (.tup xs)->H' b=some (.tup xs)) (frzs:∀ b o u,H b=some (.frz o u)->H' b=some (.frz o u)) (tbls:∀ b ps,H b=some (.tbl ps)->∃ more,H' b=some (.tbl (ps++more)))
  (ns:∀ m,s.heap.Ns X.env.locals m->h'.Ns X.env.locals m) (hok:HOk X.prog X.w H' h') (hg:AllBare g') :
  Inv X pins σ H' { s with heap:=h',gens:=g',drawn:=d',toks:=t' }:=by
 have neL:∀ b o,X.s₀.heap.get? b=some o->b≠X.env.locals:=fun b o e=>vk (wO (Heap.lt_size e) I.ok.above)
 have neC:∀ b o,X.s₀.heap.get? b=some o->b∉X.ex->b∉ch:=fun b o e hx hb=>by
  rcases (hch b hb).1 with z|z
  ·exact hx z
  ·exact absurd (wO (Heap.lt_size e) z) (vY _)
 have cellK:∀ x c,X.env.cells.lookup x=some c->∀ v,s.heap.IsCell c v->h'.IsCell c v:=fun x c e v ⟨o,ho,hd⟩=>by
  have nch:c∉ch:=fun z=>(hch c z).2.2.1 x c e rfl
  by_cases hc:c∈X.fs
  ·obtain⟨sl,q⟩:=slot c o (I.cne x c e) hc nch ho (I.freeC x c e);exact⟨_,q,hd⟩
  ·exact⟨o,keep c o (I.cne x c e) hc nch ho (I.freeC x c e),hd⟩
 refine⟨I.ok,I.os,hg,⟨fun b o e n hb hx=>?_,fun b o e n hb hx=>?_,fun b o e n hx=>?_,fun b o e hx=>?_,fun b xs e=>tups b xs (I.base.tups b xs e),fun b o xs e=>frzs b o xs (I.base.frzs b o xs e),fun b ps e=>?_⟩,?_,fun x c e=>?_,?_,fun x c e=>?_,fun p hp=>?_,hok,I.len⟩
 ·exact keep b o (neL b o e) hb (neC b o e hx) (I.base.keep b o e n hb hx) (I.base.free b o e n hx)
 ·obtain⟨sl,e1⟩:=I.base.slot b o e n hb hx;obtain⟨sl',e2⟩:=slot b _ (neL b o e) hb (neC b o e hx) e1 (I.base.free b o e n hx);exact⟨sl',e2⟩
 ·obtain⟨o',e1⟩:=I.base.there b o e hx;exact free b o' (neC b o e hx) e1 (I.base.free b o e n hx)
 ·obtain⟨o',e1⟩:=I.base.there b o e hx;exact there b o' (neC b o e hx) e1
 ·obtain⟨m1,e1⟩:=I.base.tbls b ps e;obtain⟨m2,e2⟩:=tbls b _ e1;exact⟨m1++m2,by rw[e2,Array.append_assoc]⟩
 ·obtain⟨m,hn,hl⟩:=I.loc;refine⟨m,ns m hn,fun i x v e1 e2 e3=>?_⟩;obtain⟨u,r,l⟩:=hl i x v e1 e2 e3;refine⟨u,r,?_⟩
  rcases l with l|⟨k,c,e,z⟩
  ·exact .inl l
  ·exact .inr ⟨k,c,e,cellK x c e _ z⟩
 ·obtain⟨v,z⟩:=I.cell x c e;exact⟨v,cellK x c e v z⟩
 ·obtain⟨m,⟨o,_,_,ho,_⟩,_⟩:=I.loc;exact free _ o (fun z=>(hch _ z).2.1 rfl) ho I.free
 ·obtain⟨v,o,ho,hd⟩:=I.cell x c e;exact free c o (fun z=>(hch c z).2.2.1 x c e rfl) ho (I.freeC x c e)
 ·obtain⟨e,n,ne,nf,d⟩:=I.pin p hp;have nch:p.1∉ch:=fun z=>(hch p.1 z).2.2.2 p hp rfl
  exact⟨keep p.1 p.2 ne nf nch e n,free p.1 p.2 nch e n,ne,nf,d⟩
theorem Inv.un{t':Nat}(I:Inv X pins σ H s)(u:Un X.fs [] H H' s.heap h')(hok:HOk X.prog X.w H' h'):Inv X pins σ H' { s with heap:=h',toks:=t' }:=by
 obtain⟨m,⟨o,es,ep,ho,r⟩,_⟩:=id I.loc;obtain⟨sl,hL⟩:=u.any ho I.free (by simp);exact I.step (g':=s.gens) (d':=s.drawn) (ch:=[]) (fun _ z=>nomatch z) (fun b o _ hb _ e n=>u.keep b o e n hb (by simp)) (fun b o _ hb _ e n=>u.slot b o e n hb (by simp)) (fun b o _ e n=>u.free b o e n (by simp)) (fun b o _ e=>u.there b o e (by simp)) u.tups u.frzs u.tbls (fun m' hm=>by
  obtain⟨o',es',ep',ho',r'⟩:=hm;rw[ho]at ho';cases ho';exact⟨_,es',ep',hL,r'⟩) hok I.bare
theorem Inv.call{g':Array GenState}{t':Nat}{d':Drawn}{ch:List Addr}(I:Inv X pins σ H s)(u:Un (frs X.stack) ch H H' s.heap h')(hok:HOk X.prog X.w H' h')(hg:AllBare g')
  (hch:∀ b∈ch,(b∈X.ex\/X.s₀.heap.objs.size<=b)/\b≠X.env.locals/\(∀ x c,X.env.cells.lookup x=some c->c≠b)/\∀ p∈X.pn++pins,p.1≠b) :
  Inv X pins σ H' { s with heap:=h',gens:=g',drawn:=d',toks:=t' }:=by
 obtain⟨m,⟨o,es,ep,ho,r⟩,_⟩:=id I.loc;obtain⟨sl,hL⟩:=u.any ho I.free fun z=>(hch _ z).2.1 rfl
 exact I.step (ch:=ch) hch (fun b o hL hb hc e n=>u.keep b o e n (fun z=>(wy.mp (I.stkSub b z)).elim hL hb) hc) (fun b o _ _ hc e n=>u.any e n hc) (fun b o hc e n=>u.free b o e n hc) (fun b o hc e=>u.there b o e hc) u.tups u.frzs u.tbls (fun m' hm=>by
  obtain⟨o',es',ep',ho',r'⟩:=hm;rw[ho]at ho';cases ho';exact⟨_,es',ep',hL,r'⟩) hok hg
theorem Inv.turned{t':Nat}{it:Addr}(I:Inv X pins σ H s)(k:∀ b o,b≠it->s.heap.get? b=some o->h'.get? b=some o)(hn:H it=none)(hL:it≠X.env.locals)
  (h1:it∈X.ex\/X.s₀.heap.objs.size<=it) (h2:∀ x c,X.env.cells.lookup x=some c->c≠it) (h3:∀ p∈X.pn++pins,p.1≠it):Inv X pins σ H { s with heap:=h',toks:=t' }:=by
 have nit:∀ b u,H b=some u->b≠it:=fun b u e z=>by rw[z,hn]at e;cases e
 refine I.step (g':=s.gens) (d':=s.drawn) (ch:=[it]) (fun b hb=>?_) (fun b o _ _ hc e _=>k b o (fun z=>hc (by simp[z])) e) (fun b o _ _ hc e _=>⟨o.slots,k b o (fun z=>hc (by simp[z])) e⟩) (fun _ _ _ _ n=>n)
  (fun b o hc e=>⟨o,k b o (fun z=>hc (by simp[z])) e⟩) (fun _ _ e=>e) (fun _ _ _ e=>e) (fun b ps e=>⟨#[],by rw[e];simp⟩) (fun m hm=>?_) (fun b u e=>?_) I.bare
 ·have e:b=it:=by simpa using hb
  subst e;exact⟨h1,hL,h2,h3⟩
 ·obtain⟨o,es,ep,ho,r⟩:=hm;exact⟨o,es,ep,k _ o (Ne.symm hL) ho,r⟩
 ·refine(I.hok b u e).stay (fun c v hc q=>k c v ?_ q) (fun _ q=>q) fun _ _ q=>q
  rcases hc with z|z
  ·rw[z];exact nit b u e
  ·exact nit c _ z
theorem Inv.tok(I:Inv X pins σ H s)(t:Nat):Inv X pins σ H { s with toks:=t }:=I.un (h':=s.heap) (t':=t) Un.refl I.hok
theorem Inv.kept{t':Nat}(I:Inv X pins σ H s)(k:∀ b u,s.heap.get? b=some u->h'.get? b=some u):Inv X pins σ H { s with heap:=h',toks:=t' }:=I.un (Un.kept k) (I.hok.kept k)
theorem Inv.laid{a:Addr}{o:HO}{t':Nat}(I:Inv X pins σ H s)(k:∀ b u,s.heap.get? b=some u->h'.get? b=some u)(hp:s.heap.objs.size<=a)(new:kap X.prog X.w (upd H a o) h' a o) :
  Inv X pins σ (upd H a o) { s with heap:=h',toks:=t' }:=I.un (Un.laid k hp (I.hok.fresh hp)) (I.hok.laid k hp new)
theorem Inv.write{x e:Addr}{o:HO}{t':Nat}(I:Inv X pins σ H s)(mu:Mut (H x))(he:e=x\/H e=some (.own x))(k:∀ b u,b≠e->s.heap.get? b=some u->h'.get? b=some u)(heo:∃ u,h'.get? e=some u)
  (new:kap X.prog X.w (upd H x o) h' x o):Inv X pins σ (upd H x o) { s with heap:=h',toks:=t' }:=I.un (Un.write mu he k heo) (I.hok.write mu he k heo new)
theorem Inv.weak{σ':List (Option V)}(I:Inv X pins σ H s)(hl:σ'.length=σ.length)(w:∀(i:Nat) v,σ'[i]?=some (some v)->σ[i]?=some (some v)):Inv X pins σ' H s :=
 ⟨I.ok,I.os,I.bare,I.base,let ⟨m,hn,hl'⟩:=I.loc;⟨m,hn,fun i x v e1 e2 e3=>hl' i x v e1 (w i v e2) e3⟩,I.cell,I.free,I.freeC,I.pin,I.hok,hl.trans I.len⟩
theorem Inv.pins_of{pins':List (Addr×Obj)}(I:Inv X pins σ H s)(h:∀ p∈pins',s.heap.get? p.1=some p.2/\H p.1=none/\p.1≠X.env.locals/\p.1∉X.fs/\∀ v,p.2.data≠.cell v):Inv X pins' σ H s :=
 ⟨I.ok,I.os,I.bare,I.base,I.loc,I.cell,I.free,I.freeC,fun p hp=>(wo.mp hp).elim (fun z=>I.pin p (uw _ z)) (h p),I.hok,I.len⟩
theorem za0{N:List Str}(hN:N.Nodup){i j:Nat}{x:Str}(a:N[i]?=some x)(b:N[j]?=some x):i=j:=by
 obtain⟨h1,e1⟩:=wm.mp a;obtain⟨h2,e2⟩:=wm.mp b;exact(List.getElem_inj hN).mp (e1.trans e2.symm)
theorem Qk{M:Model}{A:Around}{E:Value->Shared->Prop}{i:Nat}{x:Str}{v:V}{u:Value}{Q:Unit->Shared->Prop}(I:Inv X pins σ H s)(hN:X.N.Nodup)(hi:X.N[i]?=some x)(hx:Loc X.env.scope x)(r:RelV v u)
  (h:∀ s',Inv X pins (σ.set i (some v)) H s'->(∃ a,Heap.SameBut a s.heap s'.heap/\(a=X.env.locals\/X.env.cells.lookup x=some a))->Q () s') (hf:X.fn x=true\/X.env.scope.names.lookup x=some .local:=by first|exact .inl rfl|exact .inr rfl|assumption):wpAny M A (storeName X.env x u) Q E s:=by
 obtain⟨m,hn,hl⟩:=id I.loc;have hcls:(X.env.scope.kind == .class || (X.env.scope.kind == .module && X.env.locals != X.env.globals))=false:=by rw[I.ok.kind];rfl
 have hiσ:i<σ.length:=by rw[I.len];exact(wm.mp hi).1
 have cne:=I.cne;have tracked:∀ {a:Addr} {h':Heap},(∃ o,s.heap.get? a=some o/\H a=none)->Heap.SameBut a s.heap h'->HOk X.prog X.w H h':=fun {a h'} ha hs b ob e=>by
  obtain⟨_,_,hfree⟩:=ha;refine(I.hok b ob e).stay (fun c w' hc q=>(hs.2 c ?_).trans q) (fun _ q=>q) fun _ _ q=>q
  rintro rfl
  rcases hc with rfl|hc
  ·rw[hfree]at e;cases e
  ·rw[hfree]at hc;cases hc
 rcases hx with hk|hk
 ·refine wpAny_storeName_local hk hn (fun h' hn' hs=>?_) hcls;obtain⟨oL,_,_,hoL,_⟩:=id hn;refine h _ ⟨I.ok,I.os,I.bare,⟨fun b o e n hb hx=>?_,fun b o e n hb hx=>?_,I.base.free,fun b o e hx=>?_,I.base.tups,I.base.frzs,I.base.tbls⟩,⟨_,hn',fun j y v' e1 e2 e3=>?_⟩,fun y c e=>?_,I.free,I.freeC,fun p hp=>?_,tracked ⟨oL,hoL,I.free⟩ hs,by simpa using I.len⟩ ⟨_,hs,.inl rfl⟩
  ·exact(hs.2 b (vk (wO (Heap.lt_size e) I.ok.above))).trans (I.base.keep b o e n hb hx)
  ·obtain⟨sl,e1⟩:=I.base.slot b o e n hb hx;exact⟨sl,(hs.2 b (vk (wO (Heap.lt_size e) I.ok.above))).trans e1⟩
  ·obtain⟨o',e1⟩:=I.base.there b o e hx;exact⟨o',(hs.2 b (vk (wO (Heap.lt_size e) I.ok.above))).trans e1⟩
  ·by_cases hj:j=i
   ·subst hj;rw[hi]at e1;cases e1;rw[uE hiσ]at e2;cases e2;exact⟨u,r,.inl ⟨hk,by simp⟩⟩
   ·rw[gp (Ne.symm hj)]at e2;obtain⟨u',r',q⟩:=hl j y v' e1 e2 e3;refine⟨u',r',?_⟩
    rcases q with⟨k,e⟩|⟨k,c,e,z⟩
    ·refine .inl ⟨k,?_⟩;have:y≠x:=fun e=>hj (za0 hN e1 (e ▸ hi))
     simp[this,e]
    ·exact .inr ⟨k,c,e,z.sameBut hs (cne y c e)⟩
  ·obtain⟨w',z⟩:=I.cell y c e;exact⟨w',z.sameBut hs (cne y c e)⟩
  ·obtain⟨e,n,ne,nf,d⟩:=I.pin p hp;exact⟨(hs.2 p.1 ne).trans e,n,ne,nf,d⟩
 ·have hfn:X.fn x=true:=by
   rcases hf with z|z
   ·exact z
   ·rw[z]at hk;cases hk
  obtain⟨c,hc⟩:=I.ok.has x (.inl hk);obtain⟨w',z⟩:=I.cell x c hc;refine wpAny_storeName_cell I.ok.kind hk hc z (fun h' hc' hs=>?_);obtain⟨oc,hoc,hocd⟩:=id z;refine h { s with heap:=h' } ⟨I.ok,I.os,I.bare,⟨fun b o e n hb hx=>?_,fun b o e n hb hx=>?_,I.base.free,fun b o e hx=>?_,I.base.tups,I.base.frzs,I.base.tbls⟩,⟨m,hn.sameBut hs (Ne.symm (cne x c hc)),fun j y v' e1 e2 e3=>?_⟩,fun y c' e=>?_,I.free,I.freeC,fun p hp=>?_,tracked ⟨oc,hoc,I.freeC x c hc⟩ hs,by simpa using I.len⟩ ⟨c,hs,.inr hc⟩
  ·exact(hs.2 b (vk (wO (Heap.lt_size e) (I.ok.cab x c hfn hc)))).trans (I.base.keep b o e n hb hx)
  ·obtain⟨sl,e1⟩:=I.base.slot b o e n hb hx;exact⟨sl,(hs.2 b (vk (wO (Heap.lt_size e) (I.ok.cab x c hfn hc)))).trans e1⟩
  ·obtain⟨o',e1⟩:=I.base.there b o e hx;exact⟨o',(hs.2 b (vk (wO (Heap.lt_size e) (I.ok.cab x c hfn hc)))).trans e1⟩
  ·by_cases hj:j=i
   ·subst hj;rw[hi]at e1;cases e1;rw[uE hiσ]at e2;cases e2;exact⟨u,r,.inr ⟨.inl hk,c,hc,hc'⟩⟩
   ·rw[gp (Ne.symm hj)]at e2;obtain⟨u',r',q⟩:=hl j y v' e1 e2 e3;refine⟨u',r',?_⟩
    rcases q with q|⟨k,c',e,z'⟩
    ·exact .inl q
    ·refine .inr ⟨k,c',e,z'.sameBut hs ?_⟩
     rintro rfl
     exact hj (za0 hN e1 (I.ok.inj _ _ _ e hc ▸ hi))
  ·by_cases hcc:c'=c
   ·subst hcc;exact⟨_,hc'⟩
   ·obtain⟨w2,z2⟩:=I.cell y c' e;exact⟨w2,z2.sameBut hs hcc⟩
  ·obtain⟨e,n,ne,nf,d⟩:=I.pin p hp;refine⟨(hs.2 p.1 ?_).trans e,n,ne,nf,d⟩;intro q;rw[q,hoc]at e;have q':oc=p.2:=Option.some.inj e;exact d w' (by rw[← q'];exact hocd)
theorem Zv{M:Model}{A:Around}{E:Value->Shared->Prop}{i:Nat}{x:Str}{v:V}{u:Value}{Q:Unit->Shared->Prop}(I:Inv X pins σ H s)(hN:X.N.Nodup)(hi:X.N[i]?=some x)(hx:Loc X.env.scope x)(r:RelV v u)
  (h:∀ s',Inv X pins (σ.set i (some v)) H s'->Q () s') (hf:X.fn x=true\/X.env.scope.names.lookup x=some .local:=by first|exact .inl rfl|exact .inr rfl|assumption):wpAny M A (storeName X.env x u) Q E s :=
 Qk I hN hi hx r (fun s' I' _=>h s' I') hf
theorem Inv.call'{s':Shared}{ch:List Addr}(I:Inv X pins σ H s)(ho:s'.os=s.os)(u:Un (frs X.stack) ch H H' s.heap s'.heap)(hok:HOk X.prog X.w H' s'.heap)(hg:AllBare s'.gens)
  (hch:∀ b∈ch,(b∈X.ex\/X.s₀.heap.objs.size<=b)/\b≠X.env.locals/\(∀ x c,X.env.cells.lookup x=some c->c≠b)/\∀ p∈X.pn++pins,p.1≠b):Inv X pins σ H' s':=by
 obtain⟨h',g',d',t',o'⟩:=s';have e:o'=s.os:=ho;subst e;exact I.call (g':=g') (t':=t') (d':=d') u hok hg hch
end
abbrev XK:=Value->Option Addr->Hp->Prop
abbrev St:=List (Option V)
abbrev VK:=V->Hp->Prop
abbrev TE:=St->Hp->VK->Prop
abbrev TT:=St->Hp->(Bool->Hp->Prop)->Prop
abbrev TA:=St->Hp->(List V->Hp->Prop)->Prop
structure Ends where
 nx:St->Hp->Prop
 rt:VK
 bk:St->Hp->Prop:=fun _ _=>False
 ct:St->Hp->Prop:=fun _ _=>False
abbrev TS:=Ends->St->Hp->Prop
def EP(X:Cx)(pins:List (Addr×Obj))(σ:St)(Q:VK)(u:Value)(s':Shared):Prop:=∃ v H',Inv X pins σ H' s'/\RelV v u/\Q v H'
def TP(X:Cx)(pins:List (Addr×Obj))(σ:St)(Q:Bool->Hp->Prop)(b:Bool)(s':Shared):Prop:=∃ H',Inv X pins σ H' s'/\Q b H'
def AP(X:Cx)(pins:List (Addr×Obj))(σ:St)(Q:List V->Hp->Prop)(us:List Value)(s':Shared):Prop:=∃ vs H',Inv X pins σ H' s'/\Vals vs us/\Q vs H'
def SP(X:Cx)(pins:List (Addr×Obj))(D:Ends)(f:Flow)(s':Shared):Prop :=
 match f with
 | .next=>∃ σ' H',Inv X pins σ' H' s'/\D.nx σ' H'
 | .brk=>∃ σ' H',Inv X pins σ' H' s'/\D.bk σ' H'
 | .cont=>∃ σ' H',Inv X pins σ' H' s'/\D.ct σ' H'
 | .ret u=>∃ v σ' H',Inv X pins σ' H' s'/\RelV v u/\D.rt v H'
def PE(X:Cx)(e:Expr)(t:TE):Prop :=
 ∀(pins:List (Addr×Obj))(s:Shared)(σ:St)(H:Hp)(Q:VK),Inv X pins σ H s->t σ H Q->wpAny (model X.prog X.w) X.A (eval e X.env) (EP X pins σ Q) X.xe s
def PT(X:Cx)(e:Expr)(t:TT):Prop :=
 ∀(pins:List (Addr×Obj))(s:Shared)(σ:St)(H:Hp)(Q:Bool->Hp->Prop),Inv X pins σ H s->t σ H Q->wpAny (model X.prog X.w) X.A (isTrue e X.env (eval e X.env)) (TP X pins σ Q) X.xe s
def PW(X:Cx)(e:Expr)(t:TT):Prop :=
 ∀(whole:Sem Value)(pins:List (Addr×Obj))(s:Shared)(σ:St)(H:Hp)(Q:Bool->Hp->Prop),Inv X pins σ H s->t σ H Q->wpAny (model X.prog X.w) X.A (isTrue e X.env whole) (TP X pins σ Q) X.xe s
theorem PW.pt{X:Cx}{e:Expr}{t:TT}(h:PW X e t):PT X e t:=h _
def PA(X:Cx)(es:List Expr)(t:TA):Prop :=
 ∀(pos:Pos)(pins:List (Addr×Obj))(s:Shared)(σ:St)(H:Hp)(Q:List V->Hp->Prop),Inv X pins σ H s->t σ H Q->wpAny (model X.prog X.w) X.A (spliced (backTo pos (starEach es X.env))) (AP X pins σ Q) X.xe s
def PS(X:Cx)(st:Stmt)(t:TS):Prop :=
 ∀(pins:List (Addr×Obj))(s:Shared)(σ:St)(H:Hp)(D:Ends),Inv X pins σ H s->t D σ H->wpAny (model X.prog X.w) X.A (exec st X.env) (SP X pins D) X.xe s
def PSs(X:Cx)(st:List Stmt)(t:TS):Prop :=
 ∀(pins:List (Addr×Obj))(s:Shared)(σ:St)(H:Hp)(D:Ends),Inv X pins σ H s->t D σ H->wpAny (model X.prog X.w) X.A (execs st X.env) (SP X pins D) X.xe s
theorem thn{α:Type}{t:Sem α}{Q Q':α->Shared->Prop}{M:Model}{A:Around}{E:Value->Shared->Prop}{s:Shared}(h:wpAny M A t Q E s)(hQ:∀ a s,Q a s->Q' a s):wpAny M A t Q' E s:=wpAny_mono h hQ fun _ _ x=>x
end L2
namespace L2
open PySem PySem.Spec PyProof.Rows
section
variable{X:Cx}
inductive zff(i:Nat)(σ:St)(H:Hp)(Q:VK):Prop where
 | mk (v:V) (h0_:σ[i]?=some (some v)) (h1_:Q v H):zff i σ H Q
def tVar(i:Nat):TE:=fun σ H Q=>zff i σ H Q
def tC(v:V):TE:=fun _ H Q=>Q v H
theorem zhE {i:Nat} {x:Str} {pos:Pos} (hN:X.N[i]?=some x) (hv:Vis X.env.scope x) (hd:(x ==("__debug__" : Str))=false:=by decide) (hcd:(x ==("__classdict__" : Str))=false:=by decide):PE X (.Name x pos) (tVar i):=by
 intro pins s σ H Q I h;obtain⟨v,e,h⟩:=h;obtain⟨m,hn,hl⟩:=I.loc;obtain⟨u,r,l⟩:=hl i x v hN e hv;have fin:EP X pins σ Q u s:=⟨v,H,I,r,h⟩
 rcases l with⟨hk,hm⟩|⟨hk,c,hc,hcell⟩
 ·exact wpAny_Name (wpAny_loadName_local I.ok.kind hk hn hm fin) hd
 ·rcases hk with hk|hk
  ·exact wpAny_Name (wpAny_loadName_cell I.ok.kind hk hc hcell fin) hd
  ·exact wpAny_Name (wpAny_loadName_free I.ok.kind hk hc hcell fin hcd) hd
theorem zd{i j pos}:PE X (.Constant (.int i) j pos) (tC (.int i)):=fun _ _ _ H _ I h=>wpAny_Constant_int ⟨.int i,H,I.tok _,⟨_,rfl⟩,h⟩
theorem zb6{b j pos}:PE X (.Constant (.bool b) j pos) (tC (.bl b)):=fun _ _ _ H _ I h=>Constant_bool ⟨.bl b,H,I,rfl,h⟩
def Gl(X:Cx)(x:Str):Prop:=X.env.kindOf x=some .globalImplicit
theorem zfV{E:Value->Shared->Prop}{pins:List (Addr×Obj)}{s:Shared}{σ:St}{H:Hp}{x:Str}{u:Value}{pos:Pos}{Q:Value->Shared->Prop}(I:Inv X pins σ H s)(hg:Gl X x)(hm:X.mg x=some u)(h:Q u s)
  (hd:(x ==("__debug__" : Str))=false:=by decide):wpAny (model X.prog X.w) X.A (eval (.Name x pos) X.env) Q E s :=
 Calls.Name_function_global I.ok.kind hg (Calls.loadGlobal_global (by rw[I.ok.glob];exact I.mod.glob.keeps I.bk) hm h) hd
theorem YY{E:Value->Shared->Prop}{pins:List (Addr×Obj)}{s:Shared}{σ:St}{H:Hp}{x:Str}{u:Value}{pos:Pos}{Q:Value->Shared->Prop}(I:Inv X pins σ H s)(hg:Gl X x)(hm:X.mg x=none)(hv:bootBuiltins x=some u)(h:Q u s)
  (hn:x ≠ "__name__" := by decide) (hd:(x ==("__debug__" : Str))=false:=by decide):wpAny (model X.prog X.w) X.A (eval (.Name x pos) X.env) Q E s:=by
 obtain⟨mb,h1,h2⟩:=I.mod.blt;exact Calls.Name_function_global I.ok.kind hg (Calls.loadGlobal_builtin (by rw[I.ok.glob];exact I.mod.glob.keeps I.bk) hm (by rw[I.ok.blt];exact h1.keeps I.bk) ((h2 x hn).trans hv) h) hd
theorem zgg {x:Str} {v:V} {u:Value} {pos:Pos} (hg:Gl X x) (hm:X.mg x=none) (hv:bootBuiltins x=some u) (r:RelV v u) (hn:x ≠ "__name__" := by decide) (hd:(x ==("__debug__" : Str))=false:=by decide):PE X (.Name x pos) (tC v) :=
 fun _ _ _ H _ I h=>YY I hg hm hv ⟨v,H,I,r,h⟩ hn hd
variable{a b:Expr}{ta tb:TE}{pos:Pos}
inductive I_tB(x:V)(H1:Hp)(Q:Bool->Hp->Prop):Prop where
 | mk (c:Bool) (h0_:x=.bl c) (h1_:Q c H1):I_tB x H1 Q
def tB(t:TE):TT:=fun σ H Q=>t σ H fun x H1=>I_tB x H1 Q
theorem Za{e:Expr}{t:TE}(h:PE X e t)(he:∀ whole,isTrue e X.env whole =(do let v ← whole;standAt e.pos;holding [v] (truthy v)):=by intro _;rfl):PT X e (tB t):=by
 intro pins s σ H Q I hw;refine isTrue_plain (thn (h pins s σ H _ I hw) fun v s1 ⟨x,H1,I1,r1,q1⟩=>?_) (he _);obtain⟨d,rfl,q⟩:=q1;cases r1;exact wpAny_truthy_bool ⟨H1,I1,q⟩
variable{tA tB':TT}{rest:List Expr}
def tOr(t u:TT):TT:=fun σ H Q=>t σ H fun c H1=>if c=true then Q true H1 else u σ H1 Q
def tNot(t:TT):TT:=fun σ H Q=>t σ H fun c H1=>Q (!c) H1
theorem pw_or1(ha:PT X a tA):PW X (.BoolOp .Or [a] pos) tA:=by
 intro wh pins s σ H Q I h;refine isTrue_or (thn (ha pins s σ H Q I h) fun c s1 e=>?_);cases c with
 | false=>exact isTrue_or_nil e
 | true=>exact e
theorem pw_or(ha:PT X a tA)(hb:PW X (.BoolOp .Or (b::rest) pos) tB'):PW X (.BoolOp .Or (a::b::rest) pos) (tOr tA tB'):=by
 intro wh pins s σ H Q I h;refine isTrue_or (thn (ha pins s σ H _ I h) fun c s1 ⟨H1,I1,q1⟩=>?_);cases c with
 | true=>exact⟨H1,I1,q1⟩
 | false=>exact hb wh pins s1 σ H1 Q I1 q1
theorem Yn(ha:PT X a tA):PT X (.UnaryOp .Not a pos) (tNot tA):=by
 intro pins s σ H Q I h;exact isTrue_not (ha pins s σ H (fun c H1=>Q (!c) H1) I h)
def tAndV(ta tb:TE):TE:=fun σ H Q=>ta σ H fun x H1=>∃ c,x=.bl c/\if c=true then tb σ H1 Q else Q (.bl false) H1
def tOrV(ta tb:TE):TE:=fun σ H Q=>ta σ H fun x H1=>∃ c,x=.bl c/\if c=true then Q (.bl true) H1 else tb σ H1 Q
def tNotV(ta:TE):TE:=fun σ H Q=>ta σ H fun x H1=>∃ c,x=.bl c/\Q (.bl (!c)) H1
theorem XQ{op}{t:TE}(h:PE X a t):PE X (.BoolOp op [a] pos) t:=fun pins s σ H Q I hw=>BoolOp_one (h pins s σ H Q I hw)
theorem QJ(ha:PE X a ta)(hb:PE X (.BoolOp .And (b::rest) pos) tb):PE X (.BoolOp .And (a::b::rest) pos) (tAndV ta tb):=by
 intro pins s σ H Q I h;refine BoolOp_and (thn (ha pins s σ H _ I h) fun v s1 ⟨x,H1,I1,r1,q1⟩=>?_);obtain⟨c,rfl,q1⟩:=q1;cases r1;refine wpAny_truthy_bool ?_;cases c with
 | true=>exact hb pins s1 σ H1 Q I1 q1
 | false=>exact⟨.bl false,H1,I1,rfl,q1⟩
theorem zg9(ha:PE X a ta)(hb:PE X (.BoolOp .Or (b::rest) pos) tb):PE X (.BoolOp .Or (a::b::rest) pos) (tOrV ta tb):=by
 intro pins s σ H Q I h;refine BoolOp_or (thn (ha pins s σ H _ I h) fun v s1 ⟨x,H1,I1,r1,q1⟩=>?_);obtain⟨c,rfl,q1⟩:=q1;cases r1;refine wpAny_truthy_bool ?_;cases c with
 | false=>exact hb pins s1 σ H1 Q I1 q1
 | true=>exact⟨.bl true,H1,I1,rfl,q1⟩
theorem zg8(ha:PE X a ta):PE X (.UnaryOp .Not a pos) (tNotV ta):=by
 intro pins s σ H Q I h;refine UnaryOp_ (thn (ha pins s σ H _ I h) fun v s1 ⟨x,H1,I1,r1,q1⟩=>?_);obtain⟨c,rfl,q1⟩:=q1;cases r1;exact not_of (wpAny_truthy_bool ⟨.bl (!c),H1,I1,rfl,q1⟩)
end
end L2
namespace L2
open PySem PySem.Spec PyProof.Rows
def SqL(K:PySem.W.Frag)(H:Hp)(a:Addr)(xs:List V):Prop :=
 Rd H a (.lst xs) \/
  ∃(o:Obj)(its:Array Value)(n:Nat),K.lookup a=some o/\o.cls=.type "list" /\ o.dict=none/\o.data=.seq its n/\its.size<=sizeLine/\Vals xs its.toList
def SqT(K:PySem.W.Frag)(H:Hp)(a:Addr)(xs:List V):Prop :=
 Rd H a (.tup xs) \/
  ∃(o:Obj)(its:Array Value)(n:Nat),K.lookup a=some o/\o.cls=.type "tuple" /\ o.data=.seq its n/\its.size<=sizeLine/\Vals xs its.toList
def absV:Value->Option V
 | .none=>some .non
 | .bool b=>some (.bl b)
 | .int i _=>some (.int i)
 | .str x _=>some (.str x)
 | .bytes b _=>some (.byt b)
 | .float b _=>some (.flt b)
 | .ref a=>some (.ref a)
 | .type n=>some (.ty n)
 | _=>none
theorem RelV.abs{x:V}{u:Value}(r:RelV x u):absV u=some x:=by
 cases x with
 | non=>cases r;rfl
 | bl _=>cases r;rfl
 | int _=>obtain⟨t,rfl⟩:=r;rfl
 | str _=>obtain⟨t,rfl⟩:=r;rfl
 | byt _=>obtain⟨t,rfl⟩:=r;rfl
 | flt _=>obtain⟨t,rfl⟩:=r;rfl
 | ref _=>cases r;rfl
 | ty _=>cases r;rfl
theorem RelV.inj{x y:V}{u:Value}(r:RelV x u)(q:RelV y u):x=y:=Option.some.inj (r.abs.symm.trans q.abs)
theorem Vals.inj:∀ {xs ys:List V} {us:List Value},Vals xs us->Vals ys us->xs=ys
 | _,_,_,.nil,.nil=>rfl
 | _,_,_,.cons r t,.cons r' t'=>by rw[r.inj r',Vals.inj t t']
section
variable{X:Cx}{pins:List (Addr×Obj)}{σ:St}{H:Hp}{s:Shared}{a:Addr}{xs ys:List V}
theorem SqL.of{K:PySem.W.Frag}(h:H a=some (.lst xs)):SqL K H a xs:=.inl (.inl h)
theorem SqT.of{K:PySem.W.Frag}(h:H a=some (.tup xs)):SqT K H a xs:=.inl (.inl h)
theorem Inv.list(I:Inv X pins σ H s)(h:SqL X.K H a xs):∃ its:List Value,Vals xs its/\PlainL s.heap a its.toArray/\xs.length<=sizeLine:=by
 rcases h with h|⟨o,its,n,hk,hc,hd,hs,hz,r⟩
 ·obtain⟨z,its,n,r,e⟩:=h.ok I.hok;exact⟨its,r,⟨_,n,e,rfl,rfl,rfl⟩,z⟩
 ·refine⟨its.toList,r,⟨o,n,I.kIn a o hk,hc,hd,by simpa using hs⟩,?_⟩;have e:=r.length;simp only[Array.length_toList]at e;omega
theorem Inv.tuple(I:Inv X pins σ H s)(h:SqT X.K H a xs):∃ its:List Value,Vals xs its/\IsTup s.heap a its.toArray/\xs.length<=sizeLine:=by
 rcases h with h|⟨o,its,n,hk,hc,hs,hz,r⟩
 ·obtain⟨z,its,r,p⟩:=h.ok I.hok;exact⟨its,r,p,z⟩
 ·refine⟨its.toList,r,⟨o,I.kIn a o hk,hc,n,by simpa using hs⟩,?_⟩;have e:=r.length;simp only[Array.length_toList]at e;omega
theorem Inv.list_inj(I:Inv X pins σ H s)(h:SqL X.K H a xs)(h':SqL X.K H a ys):xs=ys:=by
 obtain⟨its,r,⟨o,n,e,_,_,d⟩,_⟩:=I.list h;obtain⟨its',r',⟨o',n',e',_,_,d'⟩,_⟩:=I.list h';rw[e]at e';cases e';rw[d]at d'
 injection d' with d1 _
 have:its=its':=by simpa using congrArg Array.toList d1
 subst this;exact r.inj r'
theorem Inv.tuple_inj(I:Inv X pins σ H s)(h:SqT X.K H a xs)(h':SqT X.K H a ys):xs=ys:=by
 obtain⟨its,r,⟨o,e,_,n,d⟩,_⟩:=I.tuple h;obtain⟨its',r',⟨o',e',_,n',d'⟩,_⟩:=I.tuple h';rw[e]at e';cases e';rw[d]at d'
 injection d' with d1 _
 have:its=its':=by simpa using congrArg Array.toList d1
 subst this;exact r.inj r'
end
abbrev Cx.wish(X:Cx)(E:Value->Shared->Prop):Cx:={ X with xe:=E }
abbrev Cx.nox(X:Cx):Cx:=X.wish fun _ _=>False
theorem Cx.Ok.wish{X:Cx}(ok:X.Ok)(E:Value->Shared->Prop):(X.wish E).Ok :=
 ⟨ok.mod,ok.kind,ok.glob,ok.blt,ok.above,ok.inj,ok.has,ok.cab,ok.hd,ok.frames,ok.stk,ok.exf,ok.bs,ok.bsz,ok.noex,ok.exfs,ok.funs,ok.frf⟩
theorem Cx.Ok.unwish{X:Cx}{E:Value->Shared->Prop}(ok:(X.wish E).Ok):X.Ok :=
 ⟨ok.mod,ok.kind,ok.glob,ok.blt,ok.above,ok.inj,ok.has,ok.cab,ok.hd,ok.frames,ok.stk,ok.exf,ok.bs,ok.bsz,ok.noex,ok.exfs,ok.funs,ok.frf⟩
section
variable{X:Cx}{pins:List (Addr×Obj)}{σ:St}{H:Hp}{s:Shared}{E:Value->Shared->Prop}
theorem Inv.wish(I:Inv X pins σ H s)(E:Value->Shared->Prop):Inv (X.wish E) pins σ H s:=⟨I.ok.wish E,I.os,I.bare,I.base,I.loc,I.cell,I.free,I.freeC,I.pin,I.hok,I.len⟩
theorem Inv.unwish(I:Inv (X.wish E) pins σ H s):Inv X pins σ H s:=⟨I.ok.unwish,I.os,I.bare,I.base,I.loc,I.cell,I.free,I.freeC,I.pin,I.hok,I.len⟩
theorem SP.unwish{D:Ends}{f:Flow}{s':Shared}(h:SP (X.wish E) pins D f s'):SP X pins D f s':=by
 cases f with
 | next=>obtain⟨σ',H',I,q⟩:=h;exact⟨σ',H',I.unwish,q⟩
 | brk=>obtain⟨σ',H',I,q⟩:=h;exact⟨σ',H',I.unwish,q⟩
 | cont=>obtain⟨σ',H',I,q⟩:=h;exact⟨σ',H',I.unwish,q⟩
 | ret u=>obtain⟨v,σ',H',I,r,q⟩:=h;exact⟨v,σ',H',I.unwish,r,q⟩
theorem PSs.nox{st:List Stmt}{t:TS}(h:PSs X.nox st t):PSs X st t:=fun pins s σ H D I hw =>
 wpAny_mono (h pins s σ H D (I.wish _) hw) (fun _ _ q=>q.unwish) fun _ _ z=>False.elim z
end
section
variable{X:Cx}{st:Stmt}{rest:List Stmt}{t u:TS}{e:Expr}{te:TE}{pos:Pos}
def tNext:TS:=fun D σ H=>D.nx σ H
def tSeq(t u:TS):TS:=fun D σ H=>t { D with nx:=u D } σ H
theorem zO:PSs X [] tNext:=fun _ _ σ H _ I h=>wpAny_execs_nil ⟨σ,H,I,h⟩
theorem zc(h1:PS X st t)(h2:PSs X rest u):PSs X (st::rest) (tSeq t u):=by
 intro pins s σ H D I h;refine wpAny_execs_cons (thn (h1 pins s σ H { D with nx:=u D } I h) fun f s1 q=>?_);cases f with
 | next =>
  obtain⟨σ',H',I',q⟩:=q;exact h2 pins s1 σ' H' D I' q
 | ret v=>exact q
 | brk=>exact q
 | cont=>exact q
theorem zg(h1:PS X st t):PSs X [st] t:=by
 intro pins s σ H D I h;refine wpAny_execs_cons (thn (h1 pins s σ H D I h) fun f s1 q=>?_);cases f with
 | next=>exact wpAny_execs_nil q
 | ret v=>exact q
 | brk=>exact q
 | cont=>exact q
theorem Inv.quiet{pins:List (Addr×Obj)}{σ:St}{H:Hp}{s:Shared}(I:Inv X pins σ H s):interactive X.env=false:=by simp[interactive,I.ok.kind]
def tDrop(te:TE):TS:=fun D σ H=>te σ H fun _ H1=>D.nx σ H1
theorem xI(he:PE X e te)(hs:swapsWith e none pos.line X.env=pure false:=by rfl):PS X (.Expr e pos) (tDrop te):=by
 intro pins s σ H D I h;exact wpAny_Expr_any (thn (he pins s σ H _ I h) fun v s1 ⟨x,H1,I1,r1,q1⟩=>⟨σ,H1,I1,q1⟩) I.quiet hs
def tRet(te:TE):TS:=fun D σ H=>te σ H D.rt
theorem zo(he:PE X e te):PS X (.Return (some e) pos) (tRet te):=by
 intro pins s σ H D I h;exact wpAny_Return_some (thn (he pins s σ H _ I h) fun v s1 ⟨x,H1,I1,r1,q1⟩=>⟨x,σ,H1,I1,r1,q1⟩)
def tIfS(c:TT)(t u:TS):TS:=fun D σ H=>c σ H fun b H1=>if b=true then t D σ H1 else u D σ H1
theorem yD{c:Expr}{a b:List Stmt}{tc:TT}(hc:PT X c tc)(ha:PSs X a t)(hb:PSs X b u):PS X (.If c a b pos) (tIfS tc t u):=by
 intro pins s σ H D I h;refine wpAny_If (thn (hc pins s σ H _ I h) fun d s1 ⟨H1,I1,q1⟩=>?_);cases d with
 | true=>exact ha pins s1 σ H1 D I1 q1
 | false=>exact hb pins s1 σ H1 D I1 q1
def tNever:TS:=fun _ _ _=>False
theorem zfa:PS X st tNever:=fun _ _ _ _ _ _ h=>h.elim
end
abbrev TG:=V->St->Hp->(St->Hp->Prop)->Prop
abbrev TGs:=List V->St->Hp->(St->Hp->Prop)->Prop
def PG(X:Cx)(target:Expr)(t:TG):Prop :=
 ∀(pins:List (Addr×Obj))(s:Shared)(σ:St)(H:Hp)(v:V)(u:Value)(Q:St->Hp->Prop),Inv X pins σ H s->RelV v u->t v σ H Q ->
  wpAny (model X.prog X.w) X.A (assign target X.env u) (fun _ s'=>∃ σ' H',Inv X pins σ' H' s'/\Q σ' H') X.xe s
def PGs(X:Cx)(ts:List Expr)(t:TGs):Prop :=
 ∀(pins:List (Addr×Obj))(s:Shared)(σ:St)(H:Hp)(vs:List V)(us:List Value)(Q:St->Hp->Prop),Inv X pins σ H s->Vals vs us->t vs σ H Q ->
  wpAny (model X.prog X.w) X.A (assignInOrder ((assignEach ts X.env).map (·.2)) us) (fun _ s'=>∃ σ' H',Inv X pins σ' H' s'/\Q σ' H') X.xe s
abbrev TSet:=V->V->V->Hp->(Hp->Prop)->Prop
def PSet(X:Cx)(t:TSet):Prop :=
 ∀(pins:List (Addr×Obj))(s:Shared)(σ:St)(H:Hp)(o i v:V)(ov iv u:Value)(Q:Hp->Prop),Inv X pins σ H s->RelV o ov->RelV i iv->RelV v u->t o i v H Q ->
  wpAny (model X.prog X.w) X.A (setItem ov iv u) (fun _ s'=>∃ H',Inv X pins σ H' s'/\Q H') X.xe s
abbrev TIp:=V->V->Hp->VK->Prop
def PIp(X:Cx)(op:Operator)(t:TIp):Prop :=
 ∀(pins:List (Addr×Obj))(s:Shared)(σ:St)(H:Hp)(x y:V)(v u:Value)(Q:VK),Inv X pins σ H s->RelV x v->RelV y u->t x y H Q ->
  wpAny (model X.prog X.w) X.A (inplaceOp op v u) (EP X pins σ Q) X.xe s
section
variable{X:Cx}{pos:Pos}
def gName(i:Nat):TG:=fun v σ H Q=>Q (σ.set i (some v)) H
theorem zt{i:Nat}{x:Str}(hN:X.N.Nodup)(hi:X.N[i]?=some x)(hx:Loc X.env.scope x)(hf:X.fn x=true\/X.env.scope.names.lookup x=some .local:=by first|exact .inl rfl|exact .inr rfl|assumption):PG X (.Name x pos) (gName i):=by
 intro pins s σ H v u Q I r h;exact wpAny_assign_Name (Zv I hN hi hx r (fun s' I'=>⟨_,H,I',h⟩) hf)
def gNil:TGs:=fun vs σ H Q=>vs=[]/\Q σ H
inductive zdT(t:TG)(u:TGs)(vs:List V)(σ:St)(H:Hp)(Q:St->Hp->Prop):Prop where
 | mk (v:V) (r:List V) (h0_:vs=v::r) (h1_:t v σ H fun σ' H'=>u r σ' H' Q):zdT t u vs σ H Q
def gCons(t:TG)(u:TGs):TGs:=fun vs σ H Q=>zdT t u vs σ H Q
theorem xp:PGs X [] gNil:=by
 intro pins s σ H vs us Q I r h;obtain⟨e,h⟩:=h;subst e;cases r;exact assignInOrder_nil ⟨σ,H,I,h⟩
theorem zK{e:Expr}{es:List Expr}{t:TG}{u:TGs}(h1:PG X e t)(h2:PGs X es u)
  (hs:(assignEach (e::es) X.env).map (·.2)=assign e X.env ::(assignEach es X.env).map (·.2):=by rfl):PGs X (e::es) (gCons t u):=by
 intro pins s σ H vs us Q I r h;obtain⟨v,vr,e1,h⟩:=h;subst e1;cases r with
 | cons r rr =>
  rw[hs];refine assignInOrder_cons (thn (h1 pins s σ H _ _ _ I r h) fun _ s1 ⟨σ1,H1,I1,q1⟩=>?_);exact h2 pins s1 σ1 H1 _ _ Q I1 rr q1
inductive zfp(K:PySem.W.Frag)(n:Nat)(t:TGs)(v:V)(σ:St)(H:Hp)(Q:St->Hp->Prop):Prop where
 | mk (a:Addr) (xs:List V) (h0_:v=.ref a) (h1_:SqT K H a xs) (h2_:xs.length=n) (h3_:t xs σ H Q):zfp K n t v σ H Q
def gTup(K:PySem.W.Frag)(n:Nat)(t:TGs):TG:=fun v σ H Q=>zfp K n t v σ H Q
theorem zhf{es:List Expr}{k:Nat}{t:TGs}{n:Nat}(hc:X.calm=true)(h:PGs X es t)
  (hn:(assignEach es X.env).length=n:=by rfl) (hst:(assignEach es X.env).findIdx? (·.1)=none:=by rfl):PG X (.Tuple es k pos) (gTup X.K n t):=by
 intro pins s σ H v u Q I r hw;obtain⟨a,xs,e1,hq,hl,hw⟩:=hw;subst e1;cases r;obtain⟨its,rv,ht,hz⟩:=I.tuple hq;refine assign_Tuple_tuple (I.ok.hd hc) ht (by simp[hn,← hl,rv.length]) hst fun h' hx=>?_
 have I1:Inv X pins σ H { s with heap:=h' }:=I.kept (t':=s.toks) fun b o e=>hx b o (vk (Heap.lt_size e)) e
 exact h pins _ σ H xs _ Q I1 (by simpa using rv) hw
def gSub(to ti:TE)(t:TSet):TG:=fun v σ H Q=>to σ H fun o H1=>ti σ H1 fun i H2=>t o i v H2 fun H3=>Q σ H3
theorem XV{o i:Expr}{to ti:TE}{t:TSet}(ho:PE X o to)(hi:PE X i ti)(hs:PSet X t)
  (ha:∀ v,assign (.Subscript o i pos) X.env v =(do
   let ov ← holding [v] (eval o X.env)
   let iv ← holding [v,ov] (eval i X.env)
   standAt pos
   holding [v,ov,iv] (setItem ov iv v)
   release [v,ov,iv] []):=by intro _;rfl):PG X (.Subscript o i pos) (gSub to ti t):=by
 intro pins s σ H v u Q I r h;rw[ha];refine wpAny_bind (wpAny_holding (thn (ho pins s σ H _ I h) fun ov s1 ⟨x,H1,I1,r1,q1⟩=>?_));refine wpAny_bind (wpAny_holding (thn (hi pins s1 σ H1 _ I1 q1) fun iv s2 ⟨y,H2,I2,r2,q2⟩=>?_));refine wpAny_bind (wpAny_standAt (wpAny_bind (wpAny_holding (thn (hs pins s2 σ H2 x y v ov iv u _ I2 r1 r2 r q2) fun _ s3 ⟨H3,I3,q3⟩=>?_))));exact wpAny_release ⟨σ,H3,I3,q3⟩
def tAsg(te:TE)(g:TG):TS:=fun D σ H=>te σ H fun x H1=>g x σ H1 D.nx
theorem qK{tg e:Expr}{te:TE}{g:TG}(he:PE X e te)(hg:PG X tg g)(hs:swapsWithSole [tg] e pos.line X.env=pure false:=by rfl)(hw:swappedStores [tg] e X.env=pure none:=by rfl)
  (h1:(assignEach [tg] X.env).map (·.2)=[assign tg X.env]:=by rfl):PS X (.Assign [tg] e pos) (tAsg te g):=by
 intro pins s σ H D I h;refine wpAny_Assign_stores (thn (he pins s σ H _ I h) fun v s1 ⟨x,H1,I1,r1,q1⟩=>?_) hs hw;rw[h1];exact thn (hg pins s1 σ H1 x v _ I1 r1 q1) fun _ s2 q=>q
theorem zk{i:Nat}{x:Str}{e:Expr}{te:TE}{pos':Pos}(hN:X.N.Nodup)(hi:X.N[i]?=some x)(hx:Loc X.env.scope x)(he:PE X e te)(hs:swapsWith e (some (.Name x pos')) pos.line X.env=pure false:=by rfl)(hf:X.fn x=true\/X.env.scope.names.lookup x=some .local:=by first|exact .inl rfl|exact .inr rfl|assumption) :
  PS X (.Assign [.Name x pos'] e pos) (tAsg te (gName i)):=by
 intro pins s σ H D I h;refine wpAny_Assign_Name (thn (he pins s σ H _ I h) fun v s1 ⟨y,H1,I1,r1,q1⟩=>?_) hs;exact Zv I1 hN hi hx r1 (fun s2 I2=>⟨_,H1,I2,q1⟩) hf
def tPar(i j:Nat)(ta:TA):TS:=fun D σ H=>ta σ H fun vs H1=>∃ v w,vs=[v,w]/\D.nx ((σ.set i (some v)).set j (some w)) H1
theorem zgO{i j:Nat}{x y:Str}{a b:Expr}{ta:TA}{px py pt:Pos}{kt k2 pt2}(hc:X.calm=true)(hN:X.N.Nodup)(hi:X.N[i]?=some x)(hj:X.N[j]?=some y)(hij:i≠j)
  (hx:X.env.scope.names.lookup x=some .local) (hy:X.env.scope.names.lookup y=some .local) (ha:PA X [a,b] ta)
  (hw:swappedStores [.Tuple [.Name x px,.Name y py] kt pt] (.Tuple [a,b] k2 pt2) X.env=pure (some [x,y]))
  (hs:swapsWithSole [.Tuple [.Name x px,.Name y py] kt pt] (.Tuple [a,b] k2 pt2) pos.line X.env=pure false:=by rfl) :
  PS X (.Assign [.Tuple [.Name x px,.Name y py] kt pt] (.Tuple [a,b] k2 pt2) pos) (tPar i j ta):=by
 intro pins s σ H D I h;rw[exec_Assign_arm];refine wpAny_bind (wpAny_standAt ?_);rw[hs];refine wpAny_bind (wpAny_pure ?_);rw[if_neg (by decide)];refine wpAny_bind (Tuple_ (thn (ha _ pins s σ H _ I h) fun us s1 ⟨vs,H1,I1,r1,q1⟩=>?_));obtain⟨v,w,e1,q1⟩:=q1;subst e1;obtain⟨u1,u2,rfl,rv,rw'⟩ : ∃ u1 u2,us=[u1,u2]/\RelV v u1/\RelV w u2:=by
  cases r1 with
  | cons p q =>
   cases q with
   | cons p' q' =>
    cases q';exact⟨_,_,rfl,p,p'⟩
 refine wpAny_newObj_type ?_ (by show 2<=sizeLine;decide);have I2:Inv X pins σ H1 { s1 with heap:=s1.heap.push { cls:=.type "tuple",data:=.seq [u1,u2].toArray } }:=I1.kept (t':=s1.toks) fun b o e=>Heap.get?_push_of_some _ e
 rw[hw];refine wpAny_bind (wpAny_pure ?_);show wpAny (model X.prog X.w) X.A (do rule "assign.swapped-stores";let items ← unpackItems (.ref s1.heap.objs.size) 2 none;assignInOrder [fun v=>bindName X.env y v,fun v=>bindName X.env x v] items.reverse;pure Flow.next) _ _ _;refine wpAny_bind (wpAny_rule (wpAny_bind (unpackItems_tuple (items:=#[u1,u2]) (I.ok.hd hc) (IsTup.new s1.heap _) fun h' hx'=>?_)));have I3:=I2.kept (h':=h') (t':=s1.toks) fun b o e=>hx' b o (vk (Heap.lt_size e)) e
 show wpAny _ _ (assignInOrder [fun v=>bindName X.env y v,fun v=>bindName X.env x v] [u2,u1] >>= fun _=>pure Flow.next) _ _ _;refine wpAny_bind (assignInOrder_cons (wpAny_bindName (Zv I3 hN hj (.inl hy) rw' (fun s2 I4=>?_) (.inr hy))));refine assignInOrder_cons (wpAny_bindName (Zv I4 hN hi (.inl hx) rv (fun s3 I5=>assignInOrder_nil (wpAny_pure ?_)) (.inr hx)));rw[List.set_comm _ _ (Ne.symm hij)]at I5;exact⟨_,H1,I5,q1⟩
def tAug(i:Nat)(te:TE)(ti:TIp):TS:=fun D σ H=>∃ x,σ[i]?=some (some x)/\te σ H fun y H1=>ti x y H1 fun z H2=>D.nx (σ.set i (some z)) H2
theorem zhe{i:Nat}{x:Str}{e:Expr}{te:TE}{op:Operator}{ti:TIp}{pos':Pos}(hN:X.N.Nodup)(hi:X.N[i]?=some x)(hx:Loc X.env.scope x)(he:PE X e te)(ho:PIp X op ti)(hf:X.fn x=true\/X.env.scope.names.lookup x=some .local:=by first|exact .inl rfl|exact .inr rfl|assumption) :
  PS X (.AugAssign (.Name x pos') op e pos) (tAug i te ti):=by
 intro pins s σ H D I h;obtain⟨v,e1,h⟩:=h;obtain⟨m,hn,hl⟩:=I.loc;have vis:Vis X.env.scope x:=by rcases hx with k|k;exact .inl k;exact .inr (.inl k)
 obtain⟨u,r,l⟩:=hl i x v hi e1 vis;refine wpAny_AugAssign_Name ?_;have go:wpAny (model X.prog X.w) X.A (eval e X.env) (fun w s₂=>wpAny (model X.prog X.w) X.A (inplaceOp op u w) (fun r s₃=>wpAny (model X.prog X.w) X.A (storeName X.env x r) (fun _=>SP X pins D .next) X.xe s₃) X.xe s₂) X.xe s:=by
  refine thn (he pins s σ H _ I h) fun w s1 ⟨y,H1,I1,r1,q1⟩=>?_
  refine thn (ho pins s1 σ H1 v y u w _ I1 r r1 q1) fun z s2 ⟨zv,H2,I2,r2,q2⟩=>?_
  exact Zv I2 hN hi hx r2 (fun s3 I3=>⟨_,H2,I3,q2⟩) hf
 rcases l with⟨hk,hm⟩|⟨hk,c,hc,hcell⟩
 ·exact wpAny_loadName_local I.ok.kind hk hn hm go
 ·rcases hk with hk|hk
  ·exact wpAny_loadName_cell I.ok.kind hk hc hcell go
  ·rcases hx with k|k
   ·have:X.env.scope.names.lookup x=some .free:=hk;rw[k]at this;cases this
   ·have:X.env.scope.names.lookup x=some .free:=hk;rw[k]at this;cases this
end
section
variable{X:Cx}{pos:Pos}
def tWhile(c:TT)(tb:TS):TS:=fun D σ H=>∃ W:Nat->St->Hp->Prop,(∃ m,W m σ H)/\∀ m σ H,W m σ H ->
 c σ H fun b H1=>if b=true then ∃ N:St->Hp->Prop,(∀ σ' H',N σ' H'->∃ m',m'<m/\W m' σ' H')/\tb { D with nx:=N,ct:=N,bk:=D.nx } σ H1 else D.nx σ H1
theorem JL{c:Expr}{body:List Stmt}{tc:TT}{tb:TS}(hp:PassesOwn (model X.prog X.w) X.A X.env X.xe)(hc:PT X c tc)(hb:PSs X body tb):PS X (.While c body [] pos) (tWhile tc tb):=by
 intro pins s σ H D I h;obtain⟨W,⟨m0,w0⟩,turn⟩:=h;refine wpAny_While (codeAny_whileLoop (fun n s'=>∃ σ' H',Inv X pins σ' H' s'/\W n σ' H') ?_ m0 ⟨σ,H,I,w0⟩)
 rintro n s1 ⟨σ1,H1,I1,w1⟩
 refine wpAny_passesOwn hp (thn (hc pins s1 σ1 H1 _ I1 (turn n σ1 H1 w1)) fun b s2 ⟨H2,I2,q2⟩=>?_);cases b with
 | true =>
  obtain⟨N,hN,q2⟩:=q2;rw[if_pos rfl];refine wpAny_passesOwn hp (thn (hb pins s2 σ1 H2 _ I2 q2) fun f s3 q3=>?_);cases f with
  | next =>
   obtain⟨σ3,H3,I3,n3⟩:=q3;obtain⟨m',hm,w3⟩:=hN σ3 H3 n3;exact⟨m',hm,σ3,H3,I3,w3⟩
  | cont =>
   obtain⟨σ3,H3,I3,n3⟩:=q3;obtain⟨m',hm,w3⟩:=hN σ3 H3 n3;exact⟨m',hm,σ3,H3,I3,w3⟩
  | brk=>exact q3
  | ret v=>exact q3
 | false =>
  rw[if_neg wX];exact wpAny_execs_nil ⟨σ1,H2,I2,q2⟩
end
structure It where
 go:Nat->Hp->Prop
 yld:Nat->Hp->V->Hp->Prop
 stop:Nat->Hp->Prop
def FpOk(X:Cx)(pins:List (Addr×Obj))(H:Hp)(b:Addr):Prop :=
 H b=none/\b≠X.env.locals/\b∉X.fs/\(b∈X.ex\/X.s₀.heap.objs.size<=b)/\(∀ x c,X.env.cells.lookup x=some c->c≠b)/\∀ p∈X.pn++pins,p.1≠b
theorem Inv.fpOk{X:Cx}{pins:List (Addr×Obj)}{σ:St}{H H':Hp}{s:Shared}{b:Addr}(I:Inv X pins σ H s)(hb:s.heap.objs.size<=b)(hn:H' b=none):FpOk X pins H' b:=by
 refine⟨hn,GW (wO I.lt hb),I.nofs hb,.inr (vp I.sz hb),fun x c e z=>?_,fun p hp z=>?_⟩
 ·obtain⟨v,q⟩:=I.cell x c e;exact absurd (wO q.lt (by rw[z];exact hb)) (vY _)
 ·exact absurd (wO (Heap.lt_size (I.pin p hp).1) (by rw[z];exact hb)) (vY _)
structure Turn(P:Program)(w:World)(K:PySem.W.Frag)(tg:Expr)(J:It)(fp:List Addr)(it:Addr)(tn:Nat->Heap->Prop):Prop where
 mem:it∈fp
 obj:∀ i h,tn i h->∀ b∈fp,∃ o,h.get? b=some o/\∀ v,o.data≠.cell v
 keep:∀ i h h',tn i h->(∀ b∈fp,∀ o,h.get? b=some o->h'.get? b=some o)->tn i h'
 item:∀(X:Cx),X.prog=P->X.w=w->X.K=K->X.calm=true->∀(i:Nat)(pins:List (Addr×Obj))(s:Shared)(σ:St)(H:Hp)(E:Value->Shared->Prop),Inv X pins σ H s->(∀ b∈fp,FpOk X pins H b)->tn i s.heap->J.go i H ->
  wpAny (model P w) X.A (pyNext (.ref it)) (fun r s1=>∃ u,r=some u /\
   wpAny (model P w) X.A (letOwnedTupleGo tg (.ref it) u) (fun _ s2=>∃ x H',Inv X pins σ H' s2/\RelV x u/\J.yld i H x H'/\tn (i+1) s2.heap/\∀ b∈fp,H' b=none) E s1) E s
 done:∀(X:Cx),X.prog=P->X.w=w->X.K=K->X.calm=true->∀(i:Nat)(pins:List (Addr×Obj))(s:Shared)(σ:St)(H:Hp)(E:Value->Shared->Prop),Inv X pins σ H s->(∀ b∈fp,FpOk X pins H b)->tn i s.heap->J.stop i H ->
  wpAny (model P w) X.A (pyNext (.ref it)) (fun r s1=>r=none/\Inv X pins σ H s1) E s
 self:∀(A:Around)(i:Nat)(s:Shared)(Q:Value->Shared->Prop)(E:Value->Shared->Prop),tn i s.heap->Q (.ref it) s->wpAny (model P w) A (pyIter (.ref it)) Q E s
abbrev TI:=St->Hp->(It->Hp->Prop)->Prop
def PIE(X:Cx)(pins:List (Addr×Obj))(σ:St)(tg:Expr)(R:It->Hp->Prop)(itv:Value)(s2:Shared):Prop :=
 ∃(it:Addr)(fp:List Addr)(tn:Nat->Heap->Prop)(J:It)(H':Hp),itv=.ref it/\Inv X pins σ H' s2/\Turn X.prog X.w X.K tg J fp it tn/\tn 0 s2.heap/\(∀ b∈fp,FpOk X pins H' b)/\R J H'
def PI(X:Cx)(tg iter:Expr)(wi:TI):Prop :=
 ∀(pins:List (Addr×Obj))(s:Shared)(σ:St)(H:Hp)(R:It->Hp->Prop),Inv X pins σ H s->wi σ H R ->
  wpAny (model X.prog X.w) X.A (eval iter X.env) (fun v s1=>wpAny (model X.prog X.w) X.A (pyIter v) (PIE X pins σ tg R) X.xe s1) X.xe s
theorem zf7{M:Model}{A:Around}{E:Value->Shared->Prop}{s:Shared}{tg:Expr}{it:Addr}{u:Value}{o:Obj}{n:String}{vs:Array Value}{Q:Unit->Shared->Prop}(ho:s.heap.get? it=some o)(hc:o.cls=.type n)(hd:o.data=.fields vs)
  (hn:["enumerate", "zip", "dict_itemiterator", "dict_reverseitemiterator", "odict_iterator", "itertools.zip_longest", "itertools.pairwise"].contains n=false) (hQ:Q () s):wpAny M A (letOwnedTupleGo tg (.ref it) u) Q E s:=by
 unfold letOwnedTupleGo;cases tg <;> first
  | exact wpAny_pure hQ
  | (cases u <;> first
    | exact wpAny_pure hQ
    | (refine wpAny_bind (wpAny_load ho ?_)
       rw[hc,hd];show wpAny M A (if (["enumerate", "zip", "dict_itemiterator", "dict_reverseitemiterator", "odict_iterator", "itertools.zip_longest", "itertools.pairwise"].contains n && vs[0]? == some (rawInt _))=true then _ else _) Q E s;rw[if_neg (by intro h;rw[hn,Bool.false_and]at h;cases h)];exact wpAny_pure hQ))
def Itl(K:PySem.W.Frag)(a:Addr):It :=
 ⟨fun i H=>∃ xs x,SqL K H a xs/\xs[i]?=some x,fun i H x H'=>H'=H/\∀ xs,SqL K H a xs->xs[i]?=some x,fun i H=>∃ xs,SqL K H a xs/\xs.length<=i⟩
def Itt(K:PySem.W.Frag)(a:Addr):It :=
 ⟨fun i H=>∃ xs x,SqT K H a xs/\xs[i]?=some x,fun i H x H'=>H'=H/\∀ xs,SqT K H a xs->xs[i]?=some x,fun i H=>∃ xs,SqT K H a xs/\xs.length<=i⟩
def Itr(lo:Int)(n:Nat):It:=⟨fun i _=>i<n,fun i H x H'=>H'=H/\x=.int (lo+i),fun i _=>n<=i⟩
theorem zc5{P:Program}{w:World}{K:PySem.W.Frag}{tg:Expr}(a it:Addr):Turn P w K tg (Itl K a) [it] it (fun i h=>h.IsListIter it a i) where
 mem:=by simp
 obj:=fun i h st b hb=>by
  have e:b=it:=by simpa using hb
  subst e;obtain⟨o,e,c,d⟩:=st;exact⟨o,e,fun v z=>by rw[d]at z;cases z⟩
 keep:=fun i h h' st k=>st.at fun o e=>k it (by simp) o e
 item:=by
  intro X hP hw hK hc i pins s σ H E I hf st hg;subst hP hw hK;obtain⟨xs,x,hq,hx⟩:=hg;obtain⟨its,rv,p,hz⟩:=I.list hq;obtain⟨u,hu,ru⟩:=rv.get hx;obtain⟨f0,f1,f2,f3,f4,f5⟩:=hf it (by simp);refine wpAny_pyNext_list_item st p.isList (x:=u) (by simpa using hu) fun h' st' sb=>?_
  have I1:Inv X pins σ H { s with heap:=h' }:=I.turned (t':=s.toks) (fun b o hb e=>(sb.2 b hb).trans e) f0 f1 f3 f4 f5;obtain⟨o,e,c,d⟩:=id st';exact⟨u,rfl,zf7 (s:={ s with heap:=h' }) e c d (by decide) ⟨x,H,I1,ru,⟨rfl,fun ys hy=>by rw[I.list_inj hy hq];exact hx⟩,st',fun b hb=>(hf b hb).1⟩⟩
 done:=by
  intro X hP hw hK hc i pins s σ H E I hf st hg;subst hP hw hK;obtain⟨xs,hq,hx⟩:=hg;obtain⟨its,rv,p,hz⟩:=I.list hq;obtain⟨f0,f1,f2,f3,f4,f5⟩:=hf it (by simp);have hl:=rv.length;exact wpAny_pyNext_list_end (I.ok.hd hc) st p.isList (by simp;omega) fun h' eb=>⟨rfl,I.turned (t':=s.toks) (fun b o hb e=>eb b o hb e) f0 f1 f3 f4 f5⟩
 self:=fun _ _ _ _ _ st h=>wpAny_pyIter_listiter st h
theorem zbY{P:Program}{w:World}{K:PySem.W.Frag}{tg:Expr}(a it:Addr):Turn P w K tg (Itt K a) [it] it (fun i h=>h.IsTupleIter it a i) where
 mem:=by simp
 obj:=fun i h st b hb=>by
  have e:b=it:=by simpa using hb
  subst e;obtain⟨o,e,c,d⟩:=st;exact⟨o,e,fun v z=>by rw[d]at z;cases z⟩
 keep:=fun i h h' st k=>st.at fun o e=>k it (by simp) o e
 item:=by
  intro X hP hw hK hc i pins s σ H E I hf st hg;subst hP hw hK;obtain⟨xs,x,hq,hx⟩:=hg;obtain⟨its,rv,p,hz⟩:=I.tuple hq;obtain⟨u,hu,ru⟩:=rv.get hx;obtain⟨f0,f1,f2,f3,f4,f5⟩:=hf it (by simp);refine wpAny_pyNext_tuple_item st (show s.heap.IsTuple a its.toArray from p) (x:=u) (by simpa using hu) fun h' st' sb=>?_
  have I1:Inv X pins σ H { s with heap:=h' }:=I.turned (t':=s.toks) (fun b o hb e=>(sb.2 b hb).trans e) f0 f1 f3 f4 f5;obtain⟨o,e,c,d⟩:=id st';exact⟨u,rfl,zf7 (s:={ s with heap:=h' }) e c d (by decide) ⟨x,H,I1,ru,⟨rfl,fun ys hy=>by rw[I.tuple_inj hy hq];exact hx⟩,st',fun b hb=>(hf b hb).1⟩⟩
 done:=by
  intro X hP hw hK hc i pins s σ H E I hf st hg;subst hP hw hK;obtain⟨xs,hq,hx⟩:=hg;obtain⟨its,rv,p,hz⟩:=I.tuple hq;obtain⟨f0,f1,f2,f3,f4,f5⟩:=hf it (by simp);have hl:=rv.length;exact wpAny_pyNext_tuple_end (I.ok.hd hc) st (show s.heap.IsTuple a its.toArray from p) (by simp;omega) fun h' eb=>⟨rfl,I.turned (t':=s.toks) (fun b o hb e=>eb b o hb e) f0 f1 f3 f4 f5⟩
 self:=fun _ _ _ _ _ st h=>wpAny_pyIter_tupleiter st h
theorem zb3{P:Program}{w:World}{K:PySem.W.Frag}{tg:Expr}(it:Addr)(lo:Int)(n:Nat):Turn P w K tg (Itr lo n) [it] it (fun i h=>IsRangeIter h it (lo +(i:Nat)*1) ((n:Int) - (i:Nat)) 1) where
 mem:=by simp
 obj:=fun i h st b hb=>by
  have e:b=it:=by simpa using hb
  subst e;exact⟨_,st,fun v z=>by
   have z':Data.fields _=Data.cell v:=z;cases z'⟩
 keep:=fun i h h' st k=>k it (by simp) _ st
 item:=by
  intro X hP hw hK hc i pins s σ H E I hf st hg;subst hP hw hK;obtain⟨f0,f1,f2,f3,f4,f5⟩:=hf it (by simp);have W:=Walks.range (prog:=X.prog) (w:=X.w) (I.ok.hd hc) it lo 1 n;refine W.item i s _ _ hg st fun v h' tk hv st' kk=>?_
  obtain⟨t,rfl⟩:=hv;have I1:Inv X pins σ H { s with heap:=h',toks:=tk }:=I.turned (fun b o hb e=>kk b o (by simpa using hb) e) f0 f1 f3 f4 f5;refine⟨_,rfl,zf7 (s:={ s with heap:=h',toks:=tk }) (n := "range_iterator") st' rfl rfl (by decide) ⟨.int (lo+i),H,I1,⟨t,?_⟩,⟨rfl,rfl⟩,st',fun b hb=>(hf b hb).1⟩⟩;rw[Int.mul_one]
 done:=by
  intro X hP hw hK hc i pins s σ H E I hf st hg;subst hP hw hK;obtain⟨f0,f1,f2,f3,f4,f5⟩:=hf it (by simp);exact wpAny_pyNext_range_end (I.ok.hd hc) st (by have:n<=i:=hg;omega) fun h' eb=>⟨rfl,I.turned (t':=s.toks) (fun b o hb e=>eb b o hb e) f0 f1 f3 f4 f5⟩
 self:=fun _ _ _ _ _ st h=>wpAny_pyIter_rangeiter st h
end L2
namespace L2
open PySem PySem.Spec PyProof.Rows
section
variable{X:Cx}{tg:Expr}
inductive zej(K:PySem.W.Frag)(x:V)(H1:Hp)(R:It->Hp->Prop):Prop where
 | mk (a:Addr) (h0_:x=.ref a) (h1_:(∃ xs,SqL K H1 a xs)) (h2_:R (Itl K a) H1):zej K x H1 R
def iList(K:PySem.W.Frag)(tl:TE):TI:=fun σ H R=>tl σ H fun x H1=>zej K x H1 R
def iTup(K:PySem.W.Frag)(tl:TE):TI:=fun σ H R=>tl σ H fun x H1=>∃ a,x=.ref a/\(∃ xs,SqT K H1 a xs)/\R (Itt K a) H1
theorem zcF{l:Expr}{tl:TE}(hl:PE X l tl):PI X tg l (iList X.K tl):=by
 intro pins s σ H R I h;refine thn (hl pins s σ H _ I h) fun v s1 ⟨x,H1,I1,r1,q1⟩=>?_
 obtain⟨a,e,⟨xs,hq⟩,q⟩:=q1;subst e;cases r1;obtain⟨its,rv,p,hz⟩:=I1.list hq;refine wpAny_pyIter_list p.isList ?_;refine⟨s1.heap.objs.size,[s1.heap.objs.size],_,_,H1,rfl,I1.kept (t':=s1.toks) fun b o e=>Heap.get?_push_of_some _ e,zc5 a _,⟨_,Heap.get?_push_size _ rfl,rfl,rfl⟩,fun b hb=>?_,q⟩;have e:b=s1.heap.objs.size:=by simpa using hb
 subst e;exact I1.fpOk (wl _) (I1.hok.fresh (wl _))
theorem zgI{l:Expr}{tl:TE}(hl:PE X l tl):PI X tg l (iTup X.K tl):=by
 intro pins s σ H R I h;refine thn (hl pins s σ H _ I h) fun v s1 ⟨x,H1,I1,r1,q1⟩=>?_
 obtain⟨a,e,⟨xs,hq⟩,q⟩:=q1;subst e;cases r1;obtain⟨its,rv,p,hz⟩:=I1.tuple hq;refine wpAny_pyIter_tuple (show s1.heap.IsTuple a its.toArray from p) ?_;refine⟨s1.heap.objs.size,[s1.heap.objs.size],_,_,H1,rfl,I1.kept (t':=s1.toks) fun b o e=>Heap.get?_push_of_some _ e,zbY a _,⟨_,Heap.get?_push_size _ rfl,rfl,rfl⟩,fun b hb=>?_,q⟩;have e:b=s1.heap.objs.size:=by simpa using hb
 subst e;exact I1.fpOk (wl _) (I1.hok.fresh (wl _))
theorem zeF{pins:List (Addr×Obj)}{σ:St}{H:Hp}{s:Shared}{R:It->Hp->Prop}{E:Value->Shared->Prop}{lo hi:Int}{t u v:Tok}{tk:Nat}(I:Inv X pins σ H s)(h1 : -(2^62)<=lo)(h2:lo<2^62)(h3 : -(2^62)<=hi)(h4:hi<2^62)
  (q:R (Itr lo (hi - lo).toNat) H):wpAny (model X.prog X.w) X.A (pyIter (.ref s.heap.objs.size)) (PIE X pins σ tg R) E { s with heap:=s.heap.push { cls:=.type "range",data:=.fields #[.int lo t,.int hi u,.int 1 v] },toks:=tk }:=by
 refine wpAny_pyIter_range (IsRange.new ..) (small_one h1 h2 h3 h4) ?_;have I1:Inv X pins σ H { s with heap:=s.heap.push { cls:=.type "range",data:=.fields #[.int lo t,.int hi u,.int 1 v] },toks:=tk }:=I.kept fun b o e=>Heap.get?_push_of_some _ e
 refine⟨(s.heap.push { cls:=.type "range",data:=.fields #[.int lo t,.int hi u,.int 1 v] }).objs.size,[(s.heap.push { cls:=.type "range",data:=.fields #[.int lo t,.int hi u,.int 1 v] }).objs.size],_,_,H,rfl,
  I1.kept (t':=tk) fun b o e=>Heap.get?_push_of_some _ e,zb3 _ lo (hi - lo).toNat,?_,fun b hb=>?_,q⟩
 ·have e1:lo +((0:Nat):Int)*1=lo:=by simp
  have e2:(((hi - lo).toNat:Nat):Int) - ((0:Nat):Int)=Builtin.Range.rangeSize lo hi 1:=by rw[rangeSize_one];split <;> omega
  show IsRangeIter _ _ (lo +((0:Nat):Int)*1) ((((hi - lo).toNat:Nat):Int) - ((0:Nat):Int)) 1;rw[e1,e2];exact Heap.get?_push_size _ rfl
 ·have e:b =(s.heap.push { cls:=.type "range",data:=.fields #[.int lo t,.int hi u,.int 1 v] }).objs.size:=by simpa using hb
  subst e;exact I1.fpOk (wl _) (I1.hok.fresh (wl _))
inductive zcD(vs:List V)(H1:Hp)(R:It->Hp->Prop):Prop where
 | mk (j:Int) (h0_:vs=[.int j]) (h1_ : -(2^62)<=j) (h2_:j<2^62) (h3_:R (Itr 0 j.toNat) H1):zcD vs H1 R
def iRng1(ta:TA):TI:=fun σ H R=>ta σ H fun vs H1=>zcD vs H1 R
theorem zF {a:Expr} {ta:TA} {p pos:Pos} (hg:Gl X "range") (hm:X.mg "range" = none) (ha:PA X [a] ta) (hs:starEach [a] X.env=[(false,eval a X.env)]:=by rfl):PI X tg (.Call (.Name "range" p) [a] [] pos) (iRng1 ta):=by
 intro pins s σ H R I h;refine Call_ (YY I hg hm boot_range (PyProof.Rows.callWith_type1 (thn (ha pos pins s σ H _ I h) fun us s1 ⟨vs,H1,I1,r1,q1⟩=>?_) hs rfl));obtain⟨j,e,q1,q2,q⟩:=q1;subst e;cases r1 with
 | cons r rr =>
  cases rr;obtain⟨t,rfl⟩:=r;exact call_range_1 (zeF I1 (by omega) (by omega) q1 q2 (by simpa using q))
def tFor(wi:TI)(g:TG)(tb:TS):TS:=fun D σ H=>wi σ H fun J H1=>∃ W:Nat->Nat->St->Hp->Prop,(∃ m,W 0 m σ H1)/\∀ i m σ H,W i m σ H ->
 (J.stop i H/\D.nx σ H)\/(J.go i H/\∃ N:St->Hp->Prop,(∀ σ' H',N σ' H'->∃ m',m'<m/\W (i+1) m' σ' H')/\∀ x H',J.yld i H x H'->g x σ H' fun σ2 H2=>tb { D with nx:=N,ct:=N,bk:=D.nx } σ2 H2)
def pinsAt(fp:List Addr)(h:Heap):List (Addr×Obj):=fp.filterMap fun b=>(h.get? b).map fun o=>(b,o)
theorem qE{fp:List Addr}{h:Heap}{b:Addr}{o:Obj}(hb:b∈fp)(e:h.get? b=some o):(b,o)∈pinsAt fp h:=Gs.mpr ⟨b,hb,by rw[e];rfl⟩
theorem zcV{fp:List Addr}{h:Heap}{p:Addr×Obj}(hp:p∈pinsAt fp h):p.1∈fp/\h.get? p.1=some p.2:=by
 obtain⟨b,hb,e⟩:=Gs.mp hp;cases q:h.get? b with
 | none=>rw[q]at e;cases e
 | some o =>
  rw[q]at e;have e':(b,o)=p:=Option.some.inj e;subst e';exact⟨hb,q⟩
theorem Inv.pinned{pins:List (Addr×Obj)}{σ:St}{H:Hp}{s:Shared}{fp:List Addr}(I:Inv X pins σ H s)(hf:∀ b∈fp,FpOk X pins H b)(ho:∀ b∈fp,∃ o,s.heap.get? b=some o/\∀ v,o.data≠.cell v):Inv X (pins++pinsAt fp s.heap) σ H s :=
 I.pins_of fun p hp=>(wo.mp hp).elim (fun z=>I.pin p (wY _ z)) fun z=>by
  obtain⟨hb,e⟩:=zcV z;obtain⟨f0,f1,f2,_⟩:=hf p.1 hb;obtain⟨o,e',d⟩:=ho p.1 hb;rw[e]at e';cases e';exact⟨e,f0,f1,f2,d⟩
theorem Inv.unpinned{pins pl:List (Addr×Obj)}{σ:St}{H:Hp}{s:Shared}(I:Inv X (pins++pl) σ H s):Inv X pins σ H s:=I.pins_of fun p hp=>I.pin p (wY _ (uw _ hp))
theorem yw{iter:Expr}{body:List Stmt}{wi:TI}{g:TG}{tb:TS}{pos:Pos}(hp:PassesOwn (model X.prog X.w) X.A X.env X.xe)(hc:X.calm=true)(hi:PI X tg iter wi)(hg:PG X tg g)(hb:PSs X body tb)
  (hs:∀ x,foldedSetIterable iter X.env x=pure x:=by intro _;rfl):PS X (.For tg iter body [] pos) (tFor wi g tb):=by
 intro pins s σ H D I h;refine wpAny_For (thn (hi pins s σ H _ I h) fun v s1 h1=>thn h1 fun itv s2 h2=>?_) hs;obtain⟨it,fp,tn,J,H2,e,I2,T,st2,f2,W,⟨m0,w0⟩,turn⟩:=h2;subst e;have stat:∀ {H':Hp},(∀ b∈fp,H' b=none)->∀ b∈fp,FpOk X pins H' b:=fun hn b hb=>⟨hn b hb,(f2 b hb).2⟩
 refine codeAny_forLoop_any (fun n s'=>∃ i σ' H',Inv X pins σ' H' s'/\tn i s'.heap/\(∀ b∈fp,H' b=none)/\W i n σ' H') ?_ m0 ⟨0,σ,H2,I2,st2,fun b hb=>(f2 b hb).1,w0⟩
 rintro n s3 ⟨i,σ3,H3,I3,st3,fr3,w3⟩
 rcases turn i n σ3 H3 w3 with⟨stop,qn⟩|⟨go,N,hN,step⟩
 ·refine wpAny_passesOwn hp (thn (T.done X rfl rfl rfl hc i pins s3 σ3 H3 X.xe I3 (stat fr3) st3 stop) fun r s4 ⟨hr,I4⟩=>?_);subst hr;exact wpAny_execs_nil ⟨σ3,H3,I4,qn⟩
 ·refine wpAny_passesOwn hp (thn (T.item X rfl rfl rfl hc i pins s3 σ3 H3 X.xe I3 (stat fr3) st3 go) fun r s4 ⟨u,hr,h4⟩=>?_);subst hr;refine wpAny_passesOwn hp (thn h4 fun _ s5 ⟨x,H5,I5,r5,y5,st5,fr5⟩=>?_);have I5':=I5.pinned (stat fr5) (T.obj _ _ st5);refine wpAny_passesOwn hp (thn (hg _ s5 σ3 H5 x u _ I5' r5 (step x H5 y5)) fun _ s6 ⟨σ6,H6,I6,q6⟩=>?_);refine wpAny_passesOwn hp (thn (hb _ s6 σ6 H6 _ I6 q6) fun f s7 q7=>?_);have again:∀ {σ7:St} {H7:Hp},Inv X (pins++pinsAt fp s5.heap) σ7 H7 s7->N σ7 H7->∃ m,m<n/\∃ i σ' H',Inv X pins σ' H' s7/\tn i s7.heap/\(∀ b∈fp,H' b=none)/\W i m σ' H':=fun {σ7 H7} I7 n7=>by
   obtain⟨m',hm,w7⟩:=hN σ7 H7 n7;refine⟨m',hm,i+1,σ7,H7,I7.unpinned,T.keep _ _ _ st5 fun b hb o e=>(I7.pin (b,o) (wY _ (wY _ (qE hb e)))).1,fun b hb=>?_,w7⟩;obtain⟨o,e,d⟩:=T.obj _ _ st5 b hb;exact(I7.pin (b,o) (wY _ (wY _ (qE hb e)))).2.1
  cases f with
  | next=>obtain⟨σ7,H7,I7,n7⟩:=q7;exact again I7 n7
  | cont=>obtain⟨σ7,H7,I7,n7⟩:=q7;exact again I7 n7
  | brk=>obtain⟨σ7,H7,I7,q7⟩:=q7;exact⟨σ7,H7,I7.unpinned,q7⟩
  | ret v=>obtain⟨x7,σ7,H7,I7,r7,q7⟩:=q7;exact⟨x7,σ7,H7,I7.unpinned,r7,q7⟩
end
theorem xw{K:PySem.W.Frag}{a:Addr}{xs:List V}{g:TG}{tb:TS}{D:Ends}{σ:St}{H:Hp}(Pv:Nat->St->Hp->Prop)(h0:Pv 0 σ H)(hl:∀ i σ H,i<=xs.length->Pv i σ H->SqL K H a xs)
  (hs:∀ i x σ H,xs[i]?=some x->Pv i σ H->g x σ H fun σ2 H2=>tb { D with nx:=Pv (i+1),ct:=Pv (i+1),bk:=D.nx } σ2 H2) (hd:∀ σ H,Pv xs.length σ H->D.nx σ H) :
  ∃ W:Nat->Nat->St->Hp->Prop,(∃ m,W 0 m σ H)/\∀ i m σ H,W i m σ H ->
   ((Itl K a).stop i H/\D.nx σ H)\/((Itl K a).go i H/\∃ N:St->Hp->Prop,(∀ σ' H',N σ' H'->∃ m',m'<m/\W (i+1) m' σ' H')/\∀ x H',(Itl K a).yld i H x H'->g x σ H' fun σ2 H2=>tb { D with nx:=N,ct:=N,bk:=D.nx } σ2 H2):=by
 refine⟨fun i m σ H=>m=xs.length - i/\i<=xs.length/\Pv i σ H,⟨xs.length,by simp,vN _,h0⟩,?_⟩
 rintro i m σ H ⟨rfl,hi,p⟩
 have q:=hl i σ H hi p
 by_cases hlt:i<xs.length
 ·refine .inr ⟨⟨xs,xs[i],q,by simp[hlt]⟩,Pv (i+1),fun σ' H' p'=>⟨xs.length - (i+1),by omega,rfl,hlt,p'⟩,fun x H' y=>?_⟩;obtain⟨e,y⟩:=y;subst e;exact hs i x σ _ (y xs q) p
 ·have e:i=xs.length:=by omega
  subst e;exact .inl ⟨⟨xs,q,wl _⟩,hd σ H p⟩
theorem yv{lo:Int}{n:Nat}{g:TG}{tb:TS}{D:Ends}{σ:St}{H:Hp}(Pv:Nat->St->Hp->Prop)(h0:Pv 0 σ H)
  (hs:∀ i σ H,i<n->Pv i σ H->g (.int (lo+i)) σ H fun σ2 H2=>tb { D with nx:=Pv (i+1),ct:=Pv (i+1),bk:=D.nx } σ2 H2) (hd:∀ σ H,Pv n σ H->D.nx σ H) :
  ∃ W:Nat->Nat->St->Hp->Prop,(∃ m,W 0 m σ H)/\∀ i m σ H,W i m σ H ->
   ((Itr lo n).stop i H/\D.nx σ H)\/((Itr lo n).go i H/\∃ N:St->Hp->Prop,(∀ σ' H',N σ' H'->∃ m',m'<m/\W (i+1) m' σ' H')/\∀ x H',(Itr lo n).yld i H x H'->g x σ H' fun σ2 H2=>tb { D with nx:=N,ct:=N,bk:=D.nx } σ2 H2):=by
 refine⟨fun i m σ H=>m=n - i/\i<=n/\Pv i σ H,⟨n,by simp,vN _,h0⟩,?_⟩
 rintro i m σ H ⟨rfl,hi,p⟩
 by_cases hlt:i<n
 ·refine .inr ⟨hlt,Pv (i+1),fun σ' H' p'=>⟨n - (i+1),by omega,rfl,hlt,p'⟩,fun x H' y=>?_⟩;obtain⟨e,y⟩:=y;subst e y;exact hs i σ _ hlt p
 ·have e:i=n:=by omega
  subst e;exact .inl ⟨wl _,hd σ H p⟩
end L2
namespace L2
open PySem PySem.Spec PyProof.Rows
abbrev R2:=V->V->Hp->VK->Prop
def OpR(X:Cx)(f:Value->Value->Sem Value)(r:R2):Prop :=
 ∀(pins:List (Addr×Obj))(s:Shared)(σ:St)(H:Hp)(x y:V)(v u:Value)(Q:VK),Inv X pins σ H s->RelV x v->RelV y u->r x y H Q ->
  wpAny (model X.prog X.w) X.A (f v u) (EP X pins σ Q) X.xe s
def UnR(X:Cx)(f:Value->Sem Value)(r:V->Hp->VK->Prop):Prop :=
 ∀(pins:List (Addr×Obj))(s:Shared)(σ:St)(H:Hp)(x:V)(v:Value)(Q:VK),Inv X pins σ H s->RelV x v->r x H Q ->
  wpAny (model X.prog X.w) X.A (f v) (EP X pins σ Q) X.xe s
def kaq(X:Cx)(f:Value)(r:List V->Hp->VK->Prop):Prop :=
 ∀(pins:List (Addr×Obj))(s:Shared)(σ:St)(H:Hp)(xs:List V)(us:List Value)(Q:VK),Inv X pins σ H s->Vals xs us->r xs H Q ->
  wpAny (model X.prog X.w) X.A (call f us) (EP X pins σ Q) X.xe s
def tOp(r:R2)(ta tb:TE):TE:=fun σ H Q=>ta σ H fun x H1=>tb σ H1 fun y H2=>r x y H2 Q
def tUn(r:V->Hp->VK->Prop)(ta:TE):TE:=fun σ H Q=>ta σ H fun x H1=>r x H1 Q
inductive I_rI(C:Int->Int->Prop)(g:Int->Int->V)(x y:V)(H:Hp)(Q:VK):Prop where
 | mk (i j:Int) (h0_:x=.int i) (h1_:y=.int j) (h2_:C i j) (h3_:Q (g i j) H):I_rI C g x y H Q
def rI(C:Int->Int->Prop)(g:Int->Int->V):R2:=fun x y H Q=>I_rI C g x y H Q
inductive zgX(g:Int->Int->V)(x y:V)(H:Hp)(Q:VK):Prop where
 | mk (i j:Int) (h0_:x=.int i) (h1_:y=.int j) (h2_:Q (g i j) H):zgX g x y H Q
def rI0(g:Int->Int->V):R2:=fun x y H Q=>zgX g x y H Q
inductive I_rU(g:Int->V)(x:V)(H:Hp)(Q:VK):Prop where
 | mk (i:Int) (h0_:x=.int i) (h1_:Q (g i) H):I_rU g x H Q
def rU(g:Int->V):V->Hp->VK->Prop:=fun x H Q=>I_rU g x H Q
section
variable{X:Cx}{a b c:Expr}{ta tb tc:TE}{pos:Pos}
theorem binT(ha:PE X a ta)(hb:PE X b tb){pins:List (Addr×Obj)}{s:Shared}{σ:St}{H:Hp}{R:V->V->Hp->Prop}(I:Inv X pins σ H s)
  (h:ta σ H fun x H1=>tb σ H1 fun y H2=>R x y H2) {Q:Value->Shared->Prop} {f:Value->Value->Sem Value}
  (hf:∀ v u s2 x y H2,Inv X pins σ H2 s2->RelV x v->RelV y u->R x y H2->wpAny (model X.prog X.w) X.A (f v u) Q X.xe s2) :
  wpAny (model X.prog X.w) X.A (eval a X.env) (fun v s₁=>wpAny (model X.prog X.w) X.A (eval b X.env) (fun u s₂=>wpAny (model X.prog X.w) X.A (f v u) Q X.xe s₂) X.xe s₁) X.xe s:=by
 refine thn (ha pins s σ H _ I h) fun v s1 ⟨x,H1,I1,r1,q1⟩=>?_
 refine thn (hb pins s1 σ H1 _ I1 q1) fun u s2 ⟨y,H2,I2,r2,q2⟩=>?_
 exact hf v u s2 x y H2 I2 r1 r2 q2
theorem zh{op:Operator}{r:R2}(ho:OpR X (binaryOp op) r)(ha:PE X a ta)(hb:PE X b tb):PE X (.BinOp a op b pos) (tOp r ta tb):=by
 intro pins s σ H Q I h;exact wpAny_BinOp (binT ha hb I h fun v u s2 x y H2 I2 rx ry q=>ho pins s2 σ H2 x y v u Q I2 rx ry q)
theorem zdJ{op:UnaryOp}{r:V->Hp->VK->Prop}(ho:UnR X (unaryOp op) r)(ha:PE X a ta):PE X (.UnaryOp op a pos) (tUn r ta):=by
 intro pins s σ H Q I h;exact UnaryOp_ (thn (ha pins s σ H _ I h) fun v s1 ⟨x,H1,I1,r1,q1⟩=>ho pins s1 σ H1 x v Q I1 r1 q1)
theorem opI{f:Value->Value->Sem Value}{C:Int->Int->Prop}{g:Int->Int->Int}
  (rule:∀(i j:Int)(t u:Tok)(s:Shared)(Q:Value->Shared->Prop)(E:Value->Shared->Prop),C i j->Q (.int (g i j) s.toks) { s with toks:=s.toks+1 }->wpAny (model X.prog X.w) X.A (f (.int i t) (.int j u)) Q E s) :
  OpR X f (rI C fun i j=>.int (g i j)):=by
 intro pins s σ H x y v u Q I rx ry h;obtain⟨i,j,rfl,rfl,hc,q⟩:=h;obtain⟨t,rfl⟩:=rx;obtain⟨t',rfl⟩:=ry;exact rule i j t t' s _ _ hc ⟨.int (g i j),H,I.tok _,⟨_,rfl⟩,q⟩
theorem opI0{f:Value->Value->Sem Value}{g:Int->Int->Int}
  (rule:∀(i j:Int)(t u:Tok)(s:Shared)(Q:Value->Shared->Prop)(E:Value->Shared->Prop),Q (.int (g i j) s.toks) { s with toks:=s.toks+1 }->wpAny (model X.prog X.w) X.A (f (.int i t) (.int j u)) Q E s) :
  OpR X f (rI0 fun i j=>.int (g i j)):=by
 intro pins s σ H x y v u Q I rx ry h;obtain⟨i,j,rfl,rfl,q⟩:=h;obtain⟨t,rfl⟩:=rx;obtain⟨t',rfl⟩:=ry;exact rule i j t t' s _ _ ⟨.int (g i j),H,I.tok _,⟨_,rfl⟩,q⟩
theorem opB0{f:Value->Value->Sem Value}{g:Int->Int->Bool}
  (rule:∀(i j:Int)(t u:Tok)(s:Shared)(Q:Value->Shared->Prop)(E:Value->Shared->Prop),Q (.bool (g i j)) s->wpAny (model X.prog X.w) X.A (f (.int i t) (.int j u)) Q E s) :
  OpR X f (rI0 fun i j=>.bl (g i j)):=by
 intro pins s σ H x y v u Q I rx ry h;obtain⟨i,j,rfl,rfl,q⟩:=h;obtain⟨t,rfl⟩:=rx;obtain⟨t',rfl⟩:=ry;exact rule i j t t' s _ _ ⟨.bl (g i j),H,I,rfl,q⟩
def CPow(i j:Int):Prop:=0<=j/\j<=1000000/\i.natAbs<2^64
theorem ye:OpR X (binaryOp .Add) (rI0 fun i j=>.int (i+j)):=opI0 fun _ _ _ _ _ _ _ q=>add_int q
theorem jA:OpR X (binaryOp .Sub) (rI0 fun i j=>.int (i - j)):=opI0 fun _ _ _ _ _ _ _ q=>sub_int q
theorem zN:OpR X (binaryOp .Mod) (rI (fun _ j=>j≠0) fun i j=>.int (i.fmod j)):=opI fun _ _ _ _ _ _ _ hc q=>mod_int' hc q
theorem zd9:OpR X (binaryOp .Pow) (rI CPow fun i j=>.int (i^j.toNat)):=opI fun _ _ _ _ _ _ _ hc q=>pow_int_small hc.1 hc.2.1 hc.2.2 q
theorem unI{f:Value->Sem Value}{g:Int->Int}
  (rule:∀(i:Int)(t:Tok)(s:Shared)(Q:Value->Shared->Prop)(E:Value->Shared->Prop),Q (.int (g i) s.toks) { s with toks:=s.toks+1 }->wpAny (model X.prog X.w) X.A (f (.int i t)) Q E s) :
  UnR X f (rU fun i=>.int (g i)):=by
 intro pins s σ H x v Q I rx h;obtain⟨i,rfl,q⟩:=h;obtain⟨t,rfl⟩:=rx;exact rule i t s _ _ ⟨.int (g i),H,I.tok _,⟨_,rfl⟩,q⟩
theorem Qm:UnR X (unaryOp .USub) (rU fun i=>.int (-i)):=unI fun _ _ _ _ _ q=>neg_int q
end
def scal:V->V->Bool
 | .non,.non=>true | .non,.int _=>true | .int _,.non=>true | .non,.bl _=>true | .bl _,.non=>true | .non,.str _=>true | .str _,.non=>true
 | .int _,.int _=>true | .bl _,.bl _=>true | .str _,.str _=>true | .byt _,.byt _=>true
 | .int _,.str _=>true | .str _,.int _=>true | .bl _,.str _=>true | .str _,.bl _=>true
 | _,_=>false
def rEq:R2:=fun x y H Q=>scal x y=true/\Q (.bl (decide (x=y))) H
def rNe:R2:=fun x y H Q=>scal x y=true/\Q (.bl (!decide (x=y))) H
theorem zdH{i j:Int}:decide (V.int i=V.int j) =(i == j):=by
 rw[uS];simp
theorem zft{i j:Bool}:decide (V.bl i=V.bl j) =(i == j):=by
 rw[uS];simp
theorem zdF{i j:Str}:decide (V.str i=V.str j) =(i == j):=by
 rw[uS];simp
theorem zdp{i j:Array UInt8}:decide (V.byt i=V.byt j) =(i.toList == j.toList):=by
 rw[uS];cases i;cases j;simp
section
variable{X:Cx}{a b c:Expr}{ta tb tc:TE}{pos:Pos}
theorem yk{pins:List (Addr×Obj)}{σ:St}{H:Hp}{s:Shared}{Q:VK}{k k':Bool}(I:Inv X pins σ H s)(q:Q (.bl k) H)(e:k=k'):EP X pins σ Q (.bool k') s:=by
 subst e;exact⟨.bl k,H,I,rfl,q⟩
theorem xX:OpR X (compareOp .Eq) rEq:=by
 intro pins s σ H x y v u Q I rx ry h;obtain⟨hs,q⟩:=h;cases x with
 | non =>
  cases rx;cases y with
  | non=>cases ry;exact PySem.EqNone.eq_none_none (yk I q (by simp))
  | bl j=>cases ry;exact PySem.EqNone.eq_none_bool (yk I q (by simp))
  | int j=>obtain⟨t',rfl⟩:=ry;exact PySem.EqNone.eq_none_int (yk I q (by simp))
  | str j=>obtain⟨t',rfl⟩:=ry;exact PySem.EqNone.eq_none_str (yk I q (by simp))
  | _=>exact absurd (show false=true from hs) wX
 | bl i =>
  cases rx;cases y with
  | non=>cases ry;exact PySem.EqNone.eq_bool_none (yk I q (by simp))
  | bl j=>cases ry;exact eq_bool (yk I q zft)
  | str j=>obtain⟨t',rfl⟩:=ry;exact PySem.EqMixed.eq_bool_str (yk I q (by simp))
  | _=>exact absurd (show false=true from hs) wX
 | int i =>
  obtain⟨t,rfl⟩:=rx;cases y with
  | non=>cases ry;exact PySem.EqNone.eq_int_none (yk I q (by simp))
  | int j=>obtain⟨t',rfl⟩:=ry;exact eq_int (yk I q zdH)
  | str j=>obtain⟨t',rfl⟩:=ry;exact PySem.EqMixed.eq_int_str (yk I q (by simp))
  | _=>exact absurd (show false=true from hs) wX
 | str i =>
  obtain⟨t,rfl⟩:=rx;cases y with
  | non=>cases ry;exact PySem.EqNone.eq_str_none (yk I q (by simp))
  | bl j=>cases ry;exact PySem.EqMixed.eq_str_bool (yk I q (by simp))
  | int j=>obtain⟨t',rfl⟩:=ry;exact PySem.EqMixed.eq_str_int (yk I q (by simp))
  | str j=>obtain⟨t',rfl⟩:=ry;exact eq_str (yk I q zdF)
  | _=>exact absurd (show false=true from hs) wX
 | byt i =>
  obtain⟨t,rfl⟩:=rx;cases y with
  | byt j=>obtain⟨t',rfl⟩:=ry;exact PySem.W.eq_bytes (yk I q zdp)
  | _=>exact absurd (show false=true from hs) wX
 | _=>cases y <;> exact absurd (show false=true from hs) wX
theorem zbW:OpR X (compareOp .NotEq) rNe:=by
 intro pins s σ H x y v u Q I rx ry h;obtain⟨hs,q⟩:=h;cases x with
 | non =>
  cases rx;cases y with
  | non=>cases ry;exact PySem.EqNone.ne_none_none (yk I q (by simp))
  | bl j=>cases ry;exact PySem.EqNone.ne_none_bool (yk I q (by simp))
  | int j=>obtain⟨t',rfl⟩:=ry;exact PySem.EqNone.ne_none_int (yk I q (by simp))
  | str j=>obtain⟨t',rfl⟩:=ry;exact PySem.EqNone.ne_none_str (yk I q (by simp))
  | _=>exact absurd (show false=true from hs) wX
 | bl i =>
  cases rx;cases y with
  | non=>cases ry;exact PySem.EqNone.ne_bool_none (yk I q (by simp))
  | bl j=>cases ry;exact ne_bool (yk I q (congrArg not zft))
  | str j=>obtain⟨t',rfl⟩:=ry;exact PySem.EqMixed.ne_bool_str (yk I q (by simp))
  | _=>exact absurd (show false=true from hs) wX
 | int i =>
  obtain⟨t,rfl⟩:=rx;cases y with
  | non=>cases ry;exact PySem.EqNone.ne_int_none (yk I q (by simp))
  | int j=>obtain⟨t',rfl⟩:=ry;exact ne_int (yk I q (congrArg not zdH))
  | str j=>obtain⟨t',rfl⟩:=ry;exact PySem.EqMixed.ne_int_str (yk I q (by simp))
  | _=>exact absurd (show false=true from hs) wX
 | str i =>
  obtain⟨t,rfl⟩:=rx;cases y with
  | non=>cases ry;exact PySem.EqNone.ne_str_none (yk I q (by simp))
  | bl j=>cases ry;exact PySem.EqMixed.ne_str_bool (yk I q (by simp))
  | int j=>obtain⟨t',rfl⟩:=ry;exact PySem.EqMixed.ne_str_int (yk I q (by simp))
  | str j=>obtain⟨t',rfl⟩:=ry;exact ne_str (yk I q (congrArg not zdF))
  | _=>exact absurd (show false=true from hs) wX
 | byt i =>
  obtain⟨t,rfl⟩:=rx;cases y with
  | byt j=>obtain⟨t',rfl⟩:=ry;exact PySem.W.ne_bytes (yk I q (congrArg not zdp))
  | _=>exact absurd (show false=true from hs) wX
 | _=>cases y <;> exact absurd (show false=true from hs) wX
theorem zcf:OpR X (compareOp .Lt) (rI0 fun i j=>.bl (decide (i<j))):=opB0 fun _ _ _ _ _ _ _ q=>lt_int q
theorem zh2:OpR X (compareOp .LtE) (rI0 fun i j=>.bl (decide (i<=j))):=opB0 fun _ _ _ _ _ _ _ q=>le_int q
theorem Xx:OpR X (compareOp .Gt) (rI0 fun i j=>.bl (decide (j<i))):=opB0 fun _ _ _ _ _ _ _ q=>gt_int q
theorem kae(b:Expr){op:CmpOp}(h:op≠.In:=by decide)(h2:op≠.NotIn:=by decide):behindInMarks op b=false:=by
 have e1:(op == CmpOp.In)=false:=by cases op <;> first|rfl|exact absurd rfl h
 have e2:(op == CmpOp.NotIn)=false:=by cases op <;> first|rfl|exact absurd rfl h2
 cases b <;> simp[behindInMarks,e1,e2]
theorem xb{op:CmpOp}{r:R2}(ho:OpR X (compareOp op) r)(ha:PE X a ta)(hb:PE X b tb)(hm:behindInMarks op b=false):PE X (.Compare a [op] [b] pos) (tOp r ta tb):=by
 intro pins s σ H Q I h;exact wpAny_Compare1 (binT ha hb I h fun v u s2 x y H2 I2 rx ry q=>ho pins s2 σ H2 x y v u Q I2 rx ry q) hm
inductive zdP(x:V)(H':Hp)(Q:Bool->Hp->Prop):Prop where
 | mk (k:Bool) (h0_:x=.bl k) (h1_:Q k H'):zdP x H' Q
def tTest(t:TE):TT:=fun σ H Q=>t σ H fun x H'=>zdP x H' Q
theorem zQ{op:CmpOp}{r:R2}(ho:OpR X (compareOp op) r)(ha:PE X a ta)(hb:PE X b tb)(hm:behindInMarks op b=false):PT X (.Compare a [op] [b] pos) (tTest (tOp r ta tb)):=by
 intro pins s σ H Q I h;refine wpAny_isTrue_Compare1 (thn (ha pins s σ H _ I h) fun v s1 ⟨x,H1,I1,r1,q1⟩=>thn (hb pins s1 σ H1 _ I1 q1) fun u s2 ⟨y,H2,I2,r2,q2⟩ =>
  thn (ho pins s2 σ H2 x y v u _ I2 r1 r2 q2) fun c s3 ⟨z,H3,I3,r3,k,e,q3⟩=>?_) hm
 subst e;cases r3;exact wpAny_truthy_bool ⟨H3,I3,q3⟩
def tChain(r r':R2)(ta tb tc:TE):TE:=fun σ H Q=>ta σ H fun x H1=>tb σ H1 fun y H2=>r x y H2 fun z H3=>∃ k,z=.bl k /\
 (if k=true then tc σ H3 fun w' H4=>r' y w' H4 Q else Q (.bl false) H3)
theorem ze4{op op':CmpOp}{r r':R2}(ho:OpR X (compareOp op) r)(ho':OpR X (compareOp op') r')(ha:PE X a ta)(hb:PE X b tb)(hc:PE X c tc)
  (hm:lastMarks [op,op'] [b,c]=false:=by with_unfolding_all rfl):PE X (.Compare a [op,op'] [b,c] pos) (tChain r r' ta tb tc):=by
 intro pins s σ H Q I h;refine Compare_chain (thn (ha pins s σ H _ I h) fun v s1 ⟨x,H1,I1,r1,q1⟩=>chain_link (thn (hb pins s1 σ H1 _ I1 q1) fun u s2 ⟨y,H2,I2,r2,q2⟩ =>
  thn (ho pins s2 σ H2 x y v u _ I2 r1 r2 q2) fun d s3 ⟨z,H3,I3,r3,k,e,q3⟩=>?_)) hm
 subst e;cases r3;refine wpAny_truthy_bool ?_;cases k with
 | false=>exact ite_ff ⟨.bl false,H3,I3,rfl,q3⟩
 | true=>exact ite_tt (chain_last (thn (hc pins s3 σ H3 _ I3 q3) fun w' s4 ⟨z',H4,I4,r4,q4⟩=>ho' pins s4 σ H4 y z' u w' Q I4 r2 r4 q4))
theorem line63:(sizeLine:Nat)<2^63:=by rw[sizeLine_eq];decide
theorem vals1{x:V}{us:List Value}(r:Vals [x] us):∃ u,us=[u]/\RelV x u:=by
 cases r with
 | cons r1 r2=>cases r2;exact⟨_,rfl,r1⟩
theorem vals2{x y:V}{us:List Value}(r:Vals [x,y] us):∃ u w',us=[u,w']/\RelV x u/\RelV y w':=by
 cases r with
 | cons r1 r2 =>
  cases r2 with
  | cons r3 r4=>cases r4;exact⟨_,_,rfl,r1,r3⟩
theorem XY:kaq X (.builtin "abs") (fun xs H Q=>∃ i,xs=[.int i]/\Q (.int (if i<0 then -i else i)) H):=by
 intro pins s σ H xs us Q I r h;obtain⟨i,rfl,q⟩:=h;obtain⟨u,rfl,t,rfl⟩:=vals1 r;exact call_abs_int fun u tk=>⟨.int (if i<0 then -i else i),H,I.tok _,⟨_,rfl⟩,q⟩
theorem Qv (hc:X.calm=true):kaq X (.builtin "max") (fun xs H Q=>∃ i j,xs=[.int i,.int j]/\Q (.int (if j > i then j else i)) H):=by
 intro pins s σ H xs us Q I r h;obtain⟨i,j,rfl,q⟩:=h;obtain⟨u,w',rfl,⟨t,rfl⟩,⟨t',rfl⟩⟩:=vals2 r;refine max_two_ints (I.ok.hd hc) fun h' tk k=>⟨_,H,I.kept k,?_,q⟩
 by_cases hj:j > i
 ·rw[if_pos hj,if_pos hj];exact⟨_,rfl⟩
 ·rw[if_neg hj,if_neg hj];exact⟨_,rfl⟩
theorem Zd:kaq X (.type "int") (fun xs H Q=>(∃ i,xs=[.int i]/\Q (.int i) H)\/∃ k,xs=[.bl k]/\Q (.int (if k then 1 else 0)) H):=by
 intro pins s σ H xs us Q I r h
 rcases h with⟨i,rfl,q⟩|⟨k,rfl,q⟩
 ·obtain⟨u,rfl,t,rfl⟩:=vals1 r;exact call_int_int ⟨.int i,H,I,⟨_,rfl⟩,q⟩
 ·obtain⟨u,rfl,r1⟩:=vals1 r;cases r1;exact call_int_bool ⟨.int (if k then 1 else 0),H,I.tok _,⟨_,rfl⟩,q⟩
end
end L2
namespace L2
open PySem PySem.Spec PyProof.Rows
structure ObjM(h:Heap)(x dx C:Addr)(mA:Str->Option Value):Prop where
 obj:h.get? x=some (PySem.W.instObj C dx)
 ns:h.Ns1 dx mA
 ne:dx≠x
theorem zdU{h:Heap}{dx:Addr}{mA:Str->Option Value}(n:h.Ns1 dx mA):∃ od,h.get? dx=some od/\∀ name,PySem.W.lookIn name od=some (mA name):=by
 obtain⟨o,es,ep,ho,hd,hk,_,hm⟩:=n;refine⟨o,ho,fun name=>?_⟩;have e:=hm name;unfold nsFind findBy at e;rw[← Array.find?_toList]at e;unfold PySem.W.lookIn;rw[hd]
 dsimp only
 split
 ·rename_i y q;rw[q]at e;exact congrArg some e
 ·rename_i q;rw[q]at e;have a:es.toList.any (·.refKey)=false:=by
   rw[List.any_eq_false];intro y hy;obtain⟨z,t,hkey⟩:=hk y (Array.mem_toList_iff.mp hy);simp[DictEntry.refKey,hkey]
  have a':¬ es.toList.any (·.refKey)=true:=by rw[a];exact wX
  rw[if_neg a'];exact congrArg some e
theorem ObjM.look{h:Heap}{x dx C:Addr}{mA:Str->Option Value}(I:ObjM h x dx C mA):∃ od,PySem.W.InstAt h x (PySem.W.instObj C dx) C (some od)/\∀ name,PySem.W.lookIn name od=some (mA name) :=
 let ⟨od,ho,hl⟩:=zdU I.ns
 ⟨od,⟨I.obj,rfl,rfl,ho⟩,hl⟩
section
variable{P:Program}{w:World}{H H':Hp}{h h':Heap}{a C dx:Addr}{fs fs':List (Str×V)}
theorem zga(hok:HOk P w H h)(e:H a=some (.ins C dx fs)):∃ mA,ObjM h a dx C mA/\(∀ f,RelO (fs.lookup f) (mA f))/\PySem.Within mA (fs.map (·.1))/\fs.length<=1000/\H dx=some (.own a):=by
 obtain⟨d,z,ne,ob,mA,n,r,q⟩:=(show kap P w H h a (.ins C dx fs)from hok a _ e);exact⟨mA,⟨ob,n,ne⟩,r,q,z,d⟩
end
structure Cls(K:PySem.W.Frag)(C:Addr):Prop where
 pg:PySem.W.plainGet K C Str.empty=true
 hd:PySem.W.hasDictIn K C=true
 po:PySem.W.plainOver K C=true
 sa:PySem.W.findIn K (.ref C) "__setattr__" = some (some (.builtin "object.__setattr__"))
theorem Cls.get{K:PySem.W.Frag}{C:Addr}(c:Cls K C)(f:Str):PySem.W.plainGet K C f=true:=c.pg
section
variable{X:Cx}{pins:List (Addr×Obj)}{σ:St}{H:Hp}{s:Shared}{A:Around}{E:Value->Shared->Prop}{Q:Value->Shared->Prop}{c:Value}{b:Bool}
inductive TyOf(K:PySem.W.Frag)(H:Hp):V->Value->Prop where
 | non:TyOf K H .non (.type "NoneType")
 | bl (x:Bool):TyOf K H (.bl x) (.type "bool")
 | int (i:Int):TyOf K H (.int i) (.type "int")
 | str (x:Str):TyOf K H (.str x) (.type "str")
 | flt (x:UInt64):TyOf K H (.flt x) (.type "float")
 | lst {a:Addr} {xs:List V} (e:H a=some (.lst xs)):TyOf K H (.ref a) (.type "list")
 | frz {a:Addr} {o:Obj} {xs:List V} (e:H a=some (.frz o (.lst xs))):TyOf K H (.ref a) (.type "list")
 | tup {a:Addr} {xs:List V} (e:H a=some (.tup xs)):TyOf K H (.ref a) (.type "tuple")
 | dK {a:Addr} {kvs:List (Key×V)} (e:H a=some (.dK kvs)):TyOf K H (.ref a) (.type "dict")
 | dT {a:Addr} {kvs:List (List Key×V)} (e:H a=some (.dT kvs)):TyOf K H (.ref a) (.type "dict")
 | ins {a C dx:Addr} {fs:List (Str×V)} (e:H a=some (.ins C dx fs)) (cl:Cls K C) (ha:PySem.W.findIn K (.ref C) "__class__" = some (some (.builtin "object.__class__")))
   (hn:PySem.W.specialIn K (.builtin "object.__class__") "__get__" = some (some (.builtin "getset_descriptor.__get__"))) (htk:PySem.W.takesIn K (.builtin "object.__class__")=some true)
   (hm:PySem.W.mroIn K C (.type "object")=some true):TyOf K H (.ref a) (.ref C)
theorem zcW{x:V}{u t:Value}(I:Inv X pins σ H s)(rx:RelV x u)(ty:TyOf X.K H x t)(e:PySem.W.kitOne X.K t c=some b)(h:∀ tk,Q (.bool b) { s with toks:=tk }) :
  wpAny (model X.prog X.w) A (call (.builtin "isinstance") [u,c]) Q E s:=by
 cases ty with
 | non=>cases (show u=Value.none from rx);exact PySem.W.kia_one PySem.W.kitx_none I.kIn True.intro e (fun z=>nomatch z) h
 | bl y=>cases (show u=Value.bool y from rx);exact PySem.W.kia_one PySem.W.kitx_bool I.kIn True.intro e (fun z=>nomatch z) h
 | int i=>obtain⟨t,q⟩:=(show ∃ t,u=Value.int i t from rx);cases q;exact PySem.W.kia_one PySem.W.kitx_int I.kIn True.intro e (fun z=>nomatch z) h
 | str y=>obtain⟨t,q⟩:=(show ∃ t,u=Value.str y t from rx);cases q;exact PySem.W.kia_one PySem.W.kitx_str I.kIn True.intro e (fun z=>nomatch z) h
 | flt y=>obtain⟨t,q⟩:=(show ∃ t,u=Value.float y t from rx);cases q;exact PySem.W.kia_one PySem.W.kitx_float I.kIn True.intro e (fun z=>nomatch z) h
 | @lst a xs ea =>
  cases (show u=Value.ref a from rx);obtain⟨_,_,n,_,h1⟩:=(show kap X.prog X.w H s.heap a (.lst xs)from I.hok a _ ea);exact PySem.W.kia_one PySem.W.kitx_list I.kIn ⟨_,h1,rfl⟩ e (fun z=>nomatch z) h
 | @frz a ob xs ea =>
  cases (show u=Value.ref a from rx);obtain⟨_,_,_,n,_,h1⟩:=(show kap X.prog X.w H s.heap a (.frz ob (.lst xs))from I.hok a _ ea);exact PySem.W.kia_one PySem.W.kitx_list I.kIn ⟨_,h1,rfl⟩ e (fun z=>nomatch z) h
 | @tup a xs ea =>
  cases (show u=Value.ref a from rx);obtain⟨_,_,_,p⟩:=(show kap X.prog X.w H s.heap a (.tup xs)from I.hok a _ ea);obtain⟨o,h1,h2,_⟩:=p;exact PySem.W.kia_one PySem.W.kitx_tuple I.kIn ⟨o,h1,h2⟩ e (fun z=>nomatch z) h
 | @dK a kvs ea =>
  cases (show u=Value.ref a from rx);obtain⟨_,_,vs,_,p⟩:=(show kap X.prog X.w H s.heap a (.dK kvs)from I.hok a _ ea);obtain⟨o,es,ep,h1,h2,_⟩:=p;exact PySem.W.kia_one PySem.W.kitx_dict I.kIn ⟨o,h1,h2.1⟩ e (fun z=>nomatch z) h
 | @dT a kvs ea =>
  cases (show u=Value.ref a from rx);obtain⟨_,_,xs,_,o,es,ep,h1,h2,_⟩:=(show kap X.prog X.w H s.heap a (.dT kvs)from I.hok a _ ea);exact PySem.W.kia_one PySem.W.kitx_dict I.kIn ⟨o,h1,h2.1⟩ e (fun z=>nomatch z) h
 | @ins a C dx fs ea cl ha hn htk hm =>
  cases (show u=Value.ref a from rx);obtain⟨mA,O,_⟩:=zga I.hok ea;obtain⟨od,J,_⟩:=O.look;exact PySem.W.kia_one (PySem.W.kitx_own (cl.get _) cl.hd ha hn htk hm) I.kIn J e (fun z=>nomatch z) h
end
end L2
namespace L2
open PySem PySem.Spec PyProof.Rows
structure Room(k:Nat)(A:Around):Prop where
 hd:A.handled=none
 dp:A.depth+3*k+5<recursionLimit
 un:A.units+16*k+200<cLine
theorem Room.mono{j k:Nat}{A:Around}(r:Room k A)(h:j<=k):Room j A:=⟨r.hd,by have:=r.dp;omega,by have:=r.un;omega⟩
theorem Room.deeper{k:Nat}{A:Around}(r:Room (k+1) A)(env:Env):Room k (A.deeper env) :=
 ⟨r.hd,by have:=r.dp;show A.depth+1+3*k+5<_;omega,by have:=r.un;show A.units+3+16*k+200<_;omega⟩
theorem Room.depth{k:Nat}{A:Around}(r:Room k A):A.depth<recursionLimit:=by have:=r.dp;omega
theorem Room.units{k:Nat}{A:Around}(r:Room k A):A.units+64<cLine:=by have:=r.un;omega
def tNil:TA:=fun _ H Q=>Q [] H
def tCons(ta:TE)(tr:TA):TA:=fun σ H Q=>ta σ H fun x H1=>tr σ H1 fun xs H2=>Q (x::xs) H2
section
variable{X:Cx}{e:Expr}{es:List Expr}{te:TE}{t:TA}{pos:Pos}
theorem zb:PA X [] tNil:=fun _ _ _ _ H Q I h=>Calls.spliced_nil ⟨[],H,I,.nil,h⟩
theorem za(ha:PE X e te)(hr:PA X es t)(hs:starEach (e::es) X.env =(false,eval e X.env)::starEach es X.env:=by rfl):PA X (e::es) (tCons te t):=by
 intro pos pins s σ H Q I h;rw[hs];show wpAny _ _ (spliced ((false,eval e X.env)::backTo pos (starEach es X.env))) _ _ s;refine Calls.spliced_cons (thn (ha pins s σ H _ I h) fun u s1 ⟨x,H1,I1,r1,q1⟩=>?_);exact thn (hr pos pins s1 σ H1 _ I1 q1) fun us s2 ⟨xs,H2,I2,r2,q2⟩=>⟨x::xs,H2,I2,.cons r1 r2,q2⟩
def tTup(t:TA):TE:=fun σ H Q=>t σ H fun xs H1=>xs.length<=sizeLine/\∀ p,H1 p=none->Q (.ref p) (upd H1 p (.tup xs))
def tLst(t:TA):TE:=fun σ H Q=>t σ H fun xs H1=>xs.length<=sizeLine/\∀ p,H1 p=none->Q (.ref p) (upd H1 p (.lst xs))
theorem xL{x1}(h:PA X es t):PE X (.Tuple es x1 pos) (tTup t):=by
 intro pins s σ H Q I hq;refine wpAny_Tuple_spliced (thn (h pos pins s σ H _ I hq) fun us s1 ⟨xs,H1,I1,r,z,q⟩=>⟨by rw[← r.length];exact z,?_⟩);have hf:H1 s1.heap.objs.size=none:=I1.hok.fresh (wl _);refine⟨.ref s1.heap.objs.size,upd H1 s1.heap.objs.size (.tup xs),I1.laid (t':=s1.toks) (fun b u e=>Heap.get?_push_of_some _ e) (wl _) ?_,rfl,q _ hf⟩;exact⟨z,us,r,⟨_,Heap.get?_push_size _ rfl,rfl,_,rfl⟩⟩
theorem yn(h:PA X es t):PE X (.List es pos) (tLst t):=by
 intro pins s σ H Q I hq;refine wpAny_List_spliced (thn (h pos pins s σ H _ I hq) fun us s1 ⟨xs,H1,I1,r,z,q⟩=>⟨by rw[← r.length];exact z,?_⟩);have hf:H1 s1.heap.objs.size=none:=I1.hok.fresh (wl _);refine⟨.ref s1.heap.objs.size,upd H1 s1.heap.objs.size (.lst xs),I1.laid (t':=s1.toks) (fun b u e=>Heap.get?_push_of_some _ e) (wl _) ?_,rfl,q _ hf⟩;exact⟨z,us,0,r,Heap.get?_push_size _ rfl⟩
end
abbrev Sp:=List V->Hp->VK->XK->Prop
abbrev CXT:=List Env->Hp->Shared->XK->Value->Shared->Prop
structure Env0(P:Program)(w:World)(K:PySem.W.Frag)(mg:Str->Option Value)(base:Heap)(A:Around)(outer:List Env)(s:Shared)(H:Hp):Prop where
 frames:A.frames=some outer
 mod:Mod K mg base
 bs:∀ b o,base.get? b=some o->s.heap.get? b=some o/\H b=none
 bsz:base.objs.size<=s.heap.objs.size
 funs:s.heap.FunFrames base outer
 frf:∀ b∈frs outer,H b=none
 hok:HOk P w H s.heap
 bare:AllBare s.gens
def CE(outer:List Env)(P:Program)(w:World)(H:Hp)(s:Shared)(Q:VK)(u:Value)(s':Shared):Prop :=
 ∃ v H',s'.os=s.os/\AllBare s'.gens/\Un (frs outer) [] H H' s.heap s'.heap/\HOk P w H' s'.heap/\RelV v u/\Q v H'
def CR(CX:CXT)(outer:List Env)(P:Program)(w:World)(H:Hp)(s:Shared)(Q:VK)(E:XK)(r:Result)(s':Shared):Prop :=
 match r with
 | .ok (.ret u)=>CE outer P w H s Q u s'
 | .ok _=>False
 | .error e=>CX outer H s E e s'
structure FnOk(P:Program)(w:World)(K:PySem.W.Frag)(mg:Str->Option Value)(base:Heap)(CX:CXT)(k:Nat)(f:Addr)(fd:FuncData)(ps:List Str)(sp:Sp):Prop where
 len:∀ vs H Q E,sp vs H Q E->vs.length=ps.length
 run:∀(A:Around)(outer:List Env)(s:Shared)(H:Hp)(args:Args)(us:List Value)(vs:List V)(Q:VK)(E:XK),Room k A->Env0 P w K mg base A outer s H->BindsTo s fd args (ps.zip us)->Vals vs us->sp vs H Q E ->
  codeAny (model P w) A (.call (.ref f) args) (CR CX outer P w H s Q E) s
theorem FnOk.imp{P:Program}{w:World}{K:PySem.W.Frag}{mg:Str->Option Value}{base:Heap}{CX:CXT}{k:Nat}{f:Addr}{fd:FuncData}{ps:List Str}{sp sp':Sp}(F:FnOk P w K mg base CX k f fd ps sp)
  (h:∀ vs H Q E,sp' vs H Q E->sp vs H Q E):FnOk P w K mg base CX k f fd ps sp' :=
 ⟨fun vs H Q E q=>F.len vs H Q E (h _ _ _ _ q),fun A outer s H args us vs Q E hr he hb hv hs=>F.run A outer s H args us vs Q E hr he hb hv (h _ _ _ _ hs)⟩
section
variable{X:Cx}{pins:List (Addr×Obj)}{σ:St}{H:Hp}{s s':Shared}
theorem Inv.env0(I:Inv X pins σ H s):Env0 X.prog X.w X.K X.mg X.base X.A X.stack s H :=
 ⟨I.ok.frames,I.ok.mod,I.bs,vp I.ok.bsz I.sz,I.stack,I.stkFree,I.hok,I.bare⟩
theorem Inv.after{Q:VK}{u:Value}(I:Inv X pins σ H s)(h:CE X.stack X.prog X.w H s Q u s'):EP X pins σ Q u s':=by
 obtain⟨v,H',os,bare,un,hok,r,q⟩:=h;obtain⟨hh,g,d,t,os'⟩:=s';obtain rfl:os'=s.os:=os;exact⟨v,H',I.call (h':=hh) (g':=g) (d':=d) (t':=t) (ch:=[]) un hok bare (fun b z=>absurd z (by simp)),r,q⟩
end
def tCall(sp:Sp)(dvs:List V)(E:XK)(t:TA):TE:=fun σ H Q=>t σ H fun vs H1=>sp (vs++dvs) H1 Q E
def Binds(K:PySem.W.Frag)(fd:FuncData)(ps:List Str)(ds:List Value):Prop :=
 ∀(s:Shared)(us:List Value),K.In s.heap->(us++ds).length=ps.length->BindsTo s fd ⟨us,[]⟩ (ps.zip (us++ds))
theorem Binds.all{K:PySem.W.Frag}{fd:FuncData}{ps:List Str}(h:∀ us:List Value,us.length=ps.length->bindArgs fd ⟨us,[]⟩=pure (ps.zip us)):Binds K fd ps []:=fun s us _ hl=>by
 rw[gt]at hl ⊢;exact .of_eq (h us hl)
def Passes(CX:CXT)(X:Cx)(E:XK):Prop:=∀(pins:List (Addr×Obj))(σ:St)(H:Hp)(s:Shared)(e:Value)(s':Shared),Inv X pins σ H s->CX X.stack H s E e s'->X.xe e s'
section
variable{X:Cx}{CX:CXT}{k:Nat}{f C:Addr}{fd:FuncData}{ps:List Str}{sp:Sp}{dvs:List V}{ds:List Value}{E:XK}{x m:Str}{p pos apos:Pos}{e o:Expr}{es:List Expr}{ta:TE}{t:TA}
theorem zgV{pins:List (Addr×Obj)}{σ:St}{H:Hp}{s:Shared}{Q:VK}{us:List Value}{vs:List V}(F:FnOk X.prog X.w X.K X.mg X.base CX k f fd ps sp)(hr:Room k X.A)(hb:Binds X.K fd ps ds)(hd:Vals dvs ds)(hx:Passes CX X E)
  (I:Inv X pins σ H s) (r:Vals vs us) (h:sp (vs++dvs) H Q E):wpAny (model X.prog X.w) X.A (call (.ref f) us) (EP X pins σ Q) X.xe s:=by
 have r2:Vals (vs++dvs) (us++ds):=r.append hd;have hl:(us++ds).length=ps.length:=by rw[← r2.length];exact F.len _ _ _ _ h
 refine wpAny_call (codeAny_mono (F.run X.A X.stack s H ⟨us,[]⟩ (us++ds) (vs++dvs) Q E hr I.env0 (hb s us I.kIn hl) r2 h) fun r s' hq=>?_);cases r with
 | error e=>exact hx pins σ H s e s' I hq
 | ok fl =>
  cases fl with
  | ret u=>exact I.after hq
  | next=>exact False.elim hq
  | brk=>exact False.elim hq
  | cont=>exact False.elim hq
theorem zgG(F:FnOk X.prog X.w X.K X.mg X.base CX k f fd ps sp)(hr:Room k X.A)(hg:Gl X x)(hm:X.mg x=some (.ref f))(hk:PySem.W.keepIn X.K (.ref f)=true)(hb:Binds X.K fd ps ds)(hd:Vals dvs ds)(hx:Passes CX X E)
  (ha:PA X (e::es) t) (hdb:(x ==("__debug__" : Str))=false:=by decide) (he:starEach (e::es) X.env =(false,eval e X.env)::starEach es X.env:=by rfl) (hpl:(backTo pos (starEach es X.env)).any (·.1)=false:=by rfl) :
  PE X (.Call (.Name x p) (e::es) [] pos) (tCall sp dvs E t):=by
 intro pins s σ H Q I h;refine wpAny_Call_Name_kw (zfV I hg hm ?_ hdb);refine PySem.W.callWith_K (h₀:=X.base) I.ok.mod.kin hk (thn (ha pos pins s σ H _ I h) fun us s1 ⟨vs,H1,I1,r,q⟩=>⟨I1.kIn,?_⟩) he hpl;exact zgV F hr hb hd hx I1 r q
end
structure kac(N P:List Str)(sc:Scope):Prop where
 kind:sc.kind=.function
 co:sc.isCoroutine=false
 gen:sc.isGenerator=false
 nd:N.Nodup
 pre:N.take P.length=P
 par:∀ x∈P,sc.names.lookup x=some .local\/sc.names.lookup x=some .cell
 nofree:∀ y∈sc.names,y.2≠.free
theorem Qi{kindOf:Str->Option NameKind}{x:Str}:∀ {binds:List (Str×Value)} {m:Str->Option Value},(∀ v,(x,v)∉binds)->bindL kindOf binds m x=m x
 | [],_,_=>rfl
 | (n,v)::r,m,h=>by
  unfold bindL;rw[Qi fun w hw=>h w (wD _ hw)]
  split
  ·have:x≠n:=by rintro rfl;exact h v wq
   simp[this]
  ·rfl
theorem Qu{kindOf:Str->Option NameKind}{x:Str}:∀ {binds:List (Str×Value)} {m:Str->Option Value},(∀ v,(x,v)∉binds)->bindC kindOf binds m x=m x
 | [],_,_=>rfl
 | (n,v)::r,m,h=>by
  unfold bindC;rw[Qu fun w hw=>h w (wD _ hw)]
  split
  ·rfl
  ·have:x≠n:=by rintro rfl;exact h v wq
   simp[this]
theorem QK{kindOf:Str->Option NameKind}{x:Str}{v:Value}:∀ {P:List Str} {vs:List Value} {i:Nat} {m:Str->Option Value},P.Nodup->P[i]?=some x->vs[i]?=some v->kindOf x=some .local ->
  bindL kindOf (P.zip vs) m x=some v
 | [],_,_,_,_,h,_,_=>by simp at h
 | _::_,[],_,_,_,_,h,_=>by simp at h
 | p::P,w::vs,0,m,nd,h1,h2,hk=>by
  simp at h1 h2;subst h1;subst h2;show bindL kindOf ((p,w)::P.zip vs) m p=_;unfold bindL;rw[Qi fun v hv=>(uT.mp nd).1 (vn hv).1,if_pos hk];simp
 | p::P,w::vs,i+1,m,nd,h1,h2,hk=>by
  show bindL kindOf ((p,w)::P.zip vs) m x=_;unfold bindL;exact QK (i:=i) (uT.mp nd).2 (by simpa using h1) (by simpa using h2) hk
theorem QL{kindOf:Str->Option NameKind}{x:Str}{v:Value}:∀ {P:List Str} {vs:List Value} {i:Nat} {m:Str->Option Value},P.Nodup->P[i]?=some x->vs[i]?=some v->kindOf x≠some .local ->
  bindC kindOf (P.zip vs) m x=some v
 | [],_,_,_,_,h,_,_=>by simp at h
 | _::_,[],_,_,_,_,h,_=>by simp at h
 | p::P,w::vs,0,m,nd,h1,h2,hk=>by
  simp at h1 h2;subst h1;subst h2;show bindC kindOf ((p,w)::P.zip vs) m p=_;unfold bindC;rw[Qu fun v hv=>(uT.mp nd).1 (vn hv).1,if_neg hk];simp
 | p::P,w::vs,i+1,m,nd,h1,h2,hk=>by
  show bindC kindOf ((p,w)::P.zip vs) m x=_;unfold bindC;exact QL (i:=i) (uT.mp nd).2 (by simpa using h1) (by simpa using h2) hk
def start(N:List Str)(vs:List V):St:=vs.map some++ww (N.length - vs.length) none
def cxOf(CX:CXT)(P:Program)(w:World)(K:PySem.W.Frag)(mg:Str->Option Value)(base:Heap)(N:List Str)(qual:Str)(scope:Scope)(f:Addr)(cd:Value)(A:Around)(outer:List Env)(s:Shared)(H:Hp)(E:XK):Cx where
 prog:=P
 w:=w
 K:=K
 mg:=mg
 base:=base
 A:=A.deeper (envOfC qual scope s.heap.objs.size f cd)
 N:=N
 s₀:=s
 H₀:=H
 env:=envOfC qual scope s.heap.objs.size f cd
 outer:=outer
 stack:=envOfC qual scope s.heap.objs.size f cd::outer
 ex:=[]
 calm:=true
 fn:=fun _=>true
 pn:=[]
 xe:=fun e s'=>wpAny (model P w) (A.deeper (envOfC qual scope s.heap.objs.size f cd)) (leaving (envOfC qual scope s.heap.objs.size f cd) e) (fun _ s''=>CX outer H s E e s'') (fun e' s''=>CX outer H s E e' s'') s'
theorem zaY{sc:Scope}{n:Nat}{x:Str}(h:sc.names.lookup x=some .cell):∃ c,(cellsFrom n sc.names []).lookup x=some c:=by
 have q:=PySem.W.cellsFrom_some sc.names n [] (.inl h);exact Option.isSome_iff_exists.mp q
theorem zcv{CX:CXT}{P:Program}{w:World}{K:PySem.W.Frag}{mg:Str->Option Value}{base:Heap}{N ps:List Str}{qual:Str}{scope:Scope}{f:Addr}{cd:Value}{A:Around}{outer:List Env}{s s1:Shared}{H:Hp}{E:XK}{us:List Value}{vs:List V}
  (S:kac N ps scope) (hd:A.handled=none) (e0:Env0 P w K mg base A outer s H) (hl:vs.length=ps.length) (r:Vals vs us)
  (x:InCallC s s.heap.objs.size (bindL (envOfC qual scope s.heap.objs.size f cd).kindOf (ps.zip us) fun _=>none) (cellsFrom (s.heap.objs.size+1) scope.names []) (bindC (envOfC qual scope s.heap.objs.size f cd).kindOf (ps.zip us) fun _=>none) s1) :
  Inv (cxOf CX P w K mg base N qual scope f cd A outer s H E) [] (start N vs) H s1:=by
 have hpl:ps.length<=N.length:=by have:=congrArg vG S.pre;rw[wj]at this;omega
 obtain⟨h1,tk,rfl,hk⟩:=x.done;have noA:∀ b:Addr,b∉(cxOf CX P w K mg base N qual scope f cd A outer s H E).ex:=fun b z=>absurd (show b∈([]:List Addr)from z) (by simp)
 refine⟨⟨e0.mod,S.kind,rfl,rfl,wl _,fun y z c h1 h2=>?_,fun y hy=>?_,fun y c _ h=>?_,fun _=>hd,Around.frames_deeper e0.frames,.inr ⟨rfl,rfl⟩,fun b z=>absurd z (noA b),e0.bs,e0.bsz,fun b _ _=>noA b,fun b z=>absurd z (noA b),e0.funs,e0.frf⟩,
  rfl,e0.bare,Un.kept hk,⟨_,x.toInCall.ns,fun i y v h1 h2 h3=>?_⟩,fun y c h=>⟨_,x.cell y c h⟩,e0.hok.fresh (wl _),fun y c h=>?_,fun p hp=>absurd (show p∈([]:List (Addr×Obj))from hp) (by simp),e0.hok.kept hk,?_⟩
 ·exact name_of_addr x.apart (PySem.mem_of_lookup h1) (PySem.mem_of_lookup h2)
 ·have hy:scope.names.lookup y=some .cell\/scope.names.lookup y=some .free:=hy
  rcases hy with hy|hy
  ·exact zaY hy
  ·exact absurd rfl (S.nofree _ (PySem.mem_of_lookup hy))
 ·exact ud (x.above y c (PySem.mem_of_lookup h))
 ·have hi:i<vs.length:=by
   unfold start at h2
   by_cases hi:i<vs.length
   ·exact hi
   ·rw[vg (by simpa using hi)]at h2;rw[uB]at h2
    split at h2 <;> cases h2
  have ha:vs[i]?=some v:=by
   unfold start at h2;rw[vo (by simpa using hi),wf]at h2;cases e:vs[i]? with
   | none=>rw[e]at h2;cases h2
   | some a=>rw[e]at h2;cases h2;rfl
  obtain⟨u,hu,rv⟩:=r.get ha;have hp:ps[i]?=some y:=by
   rw[← S.pre,List.getElem?_take_of_lt (by omega)];exact h1
  have ndP:ps.Nodup:=by rw[← S.pre];exact S.nd.sublist (List.take_sublist _ _)
  refine⟨u,rv,?_⟩
  rcases S.par y (wd hp)with k|k
  ·exact .inl ⟨k,QK ndP hp hu k⟩
  ·obtain⟨c,e⟩:=zaY (n:=s.heap.objs.size+1) k;refine .inr ⟨.inl k,c,e,?_⟩;have q:=x.cell y c e;rw[QL ndP hp hu (by show scope.names.lookup y≠_;rw[k];decide)]at q;exact q
 ·exact e0.hok.fresh (ud (x.above y c (PySem.mem_of_lookup h)))
 ·unfold start;show _=N.length;rw[wu,wc,vh];omega
theorem zhX{CX:CXT}{P:Program}{w:World}{K:PySem.W.Frag}{mg:Str->Option Value}{base:Heap}{k:Nat}{f:Addr}{name qual:Str}{params:Arguments}{body:List Stmt}{scope:Scope}{dV kV doc pm cdv ct oc:Value}{an od:Option Addr}
  {osl:Array (Option Value)} {N ps:List Str} {sp:Sp} (lk:K.lookup f=some ⟨oc,od,.func (PySem.W.fnOf name qual params body scope dV kV doc pm an cdv ct),osl⟩) (hcd:PySem.W.codeIn K cdv qual=true) (S:kac N ps scope)
  (len:∀ vs H Q E,sp vs H Q E->vs.length=ps.length)
  (hbody:∀(A:Around)(outer:List Env)(s:Shared)(H:Hp)(vs:List V)(Q:VK)(E:XK),Room k (A.deeper (envOfC qual scope s.heap.objs.size f cdv))->sp vs H Q E ->
   ∃ t,PSs (cxOf CX P w K mg base N qual scope f cdv A outer s H E) body t/\t { nx:=fun _ H'=>Q .non H',rt:=Q } (start N vs) H) :
  FnOk P w K mg base CX (k+1) f (PySem.W.fnOf name qual params body scope dV kV doc pm an cdv ct) ps sp:=by
 refine⟨len,fun A outer s H args us vs Q E hr e0 hb r hsp=>?_⟩;have hl:=len _ _ _ _ hsp;have KX:K.In s.heap:=e0.mod.kin.keeps fun b o e=>(e0.bs b o e).1
 have lim:s.heap.NoLimit:=e0.mod.nolimit.keeps fun b o e=>(e0.bs b o e).1
 have hkind:∀ y∈ps.zip us,scope.names.lookup y.1=some .local\/(scope.names.lookup y.1=some .cell/\((cellsFrom (s.heap.objs.size+1) scope.names []).lookup y.1).isSome=true):=fun⟨n,v⟩ hy=>by
  rcases S.par n (vn hy).1 with q|q
  ·exact .inl q
  ·exact .inr ⟨q,PySem.W.cellsFrom_some _ _ _ (.inl q)⟩
 refine codeAny_call_function hr.depth (KX _ _ lk) rfl S.co S.gen rfl (PySem.W.codeRec_of KX hcd) (hb _ _ _ _ ?_);refine wpAny_newFunctionEnv_cells S.kind hkind fun env he s1 x=>?_
 subst he;refine⟨lim.keeps x.toInCall.keep,codeAny_func ?_⟩;obtain⟨t,ht,hq⟩:=hbody A outer s H vs Q E (hr.deeper _) hsp;have I:Inv (cxOf CX P w K mg base N qual scope f cdv A outer s H E) [] (start N vs) H s1:=zcv S hr.hd e0 hl r x;refine wpAny_mono (ht [] s1 (start N vs) H _ I hq) (fun fl s' hs=>?_) fun e s' hs=>hs
 have fin:∀ {σ':St} {H':Hp} {v:V} {u:Value},Inv (cxOf CX P w K mg base N qual scope f cdv A outer s H E) [] σ' H' s'->RelV v u->Q v H'->CE outer P w H s Q u s' :=
  fun {σ' H' v u} J rv q=>⟨v,H',J.os,J.bare,J.base,J.hok,rv,q⟩
 cases fl with
 | ret u =>
  obtain⟨v,σ',H',J,rv,q⟩:=hs;exact fin J rv q
 | next =>
  obtain⟨σ',H',J,q⟩:=hs;exact fin (v:=V.non) (u:=Value.none) J rfl q
 | brk =>
  obtain⟨_,_,_,q⟩:=hs;exact False.elim q
 | cont =>
  obtain⟨_,_,_,q⟩:=hs;exact False.elim q
end L2
namespace L2
open PySem PySem.Spec PyProof.Rows
section
variable{X:Cx}{x:Str}{p pos:Pos}{e:Expr}{es:List Expr}{t:TA}{id T:String}{r:List V->Hp->VK->Prop}
def tCB(r:List V->Hp->VK->Prop)(t:TA):TE:=fun σ H Q=>t σ H fun vs H1=>r vs H1 Q
theorem zy (hc:kaq X (.builtin id) r) (hg:Gl X x) (hm:X.mg x=none) (hv:bootBuiltins x=some (.builtin id)) (ha:PA X (e::es) t) (hn:x ≠ "__name__" := by decide) (hdb:(x ==("__debug__" : Str))=false:=by decide)
  (he:starEach (e::es) X.env =(false,eval e X.env)::starEach es X.env:=by rfl) (hpl:(backTo pos (starEach es X.env)).any (·.1)=false:=by rfl):PE X (.Call (.Name x p) (e::es) [] pos) (tCB r t):=by
 intro pins s σ H Q I h;refine wpAny_Call_Name_kw (YY I hg hm hv ?_ hn hdb);exact PyProof.Rows.callWith_builtin1 (thn (ha pos pins s σ H _ I h) fun us s1 ⟨vs,H1,I1,r1,q1⟩=>hc pins s1 σ H1 vs us Q I1 r1 q1) he hpl
theorem xa (hc:kaq X (.type T) r) (hg:Gl X x) (hm:X.mg x=none) (hv:bootBuiltins x=some (.type T)) (ha:PA X (e::es) t) (hn:x ≠ "__name__" := by decide) (hdb:(x ==("__debug__" : Str))=false:=by decide)
  (he:starEach (e::es) X.env =(false,eval e X.env)::starEach es X.env:=by rfl) (hpl:(backTo pos (starEach es X.env)).any (·.1)=false:=by rfl):PE X (.Call (.Name x p) (e::es) [] pos) (tCB r t):=by
 intro pins s σ H Q I h;refine wpAny_Call_Name_kw (YY I hg hm hv ?_ hn hdb);exact PyProof.Rows.callWith_type1 (thn (ha pos pins s σ H _ I h) fun us s1 ⟨vs,H1,I1,r1,q1⟩=>hc pins s1 σ H1 vs us Q I1 r1 q1) he hpl
end
end L2
namespace HT
open PySem PyProof.Rows
section
variable{prog:Program}{w:World}{A:Around}{E:Value->Shared->Prop}{s:Shared}
def sIx(n d:Nat):Option Int->Nat
 | none=>d
 | some v=>if v<0 then(v +(n:Int)).toNat else min v.toNat n
theorem YD(n d:Nat):sIx n d none=d:=rfl
theorem ZZ(n d k:Nat):sIx n d (some (k:Int))=min k n:=by
 show(if (k:Int)<0 then((k:Int) +(n:Int)).toNat else min (k:Int).toNat n)=min k n;rw[if_neg (by omega),wJ]
end
end HT
namespace L2
open PySem PySem.Spec PyProof.Rows
abbrev TO:=St->Hp->(Option Int->Hp->Prop)->Prop
def PO(X:Cx)(e:Option Expr)(t:TO):Prop :=
 ∀(pins:List (Addr×Obj))(s:Shared)(σ:St)(H:Hp)(Q:Option Int->Hp->Prop),Inv X pins σ H s->t σ H Q ->
  wpAny (model X.prog X.w) X.A (evalPart e X.env) (fun u s'=>∃ o H',Inv X pins σ H' s'/\IsPart u o/\Q o H') X.xe s
def tNoPart:TO:=fun _ H Q=>Q none H
def tPart(t:TE):TO:=fun σ H Q=>t σ H fun x H1=>∃ i,x=.int i/\Q (some i) H1
section
variable{X:Cx}{e:Expr}{te:TE}{lo hi:Option Expr}{tl th:TO}{pos p2:Pos}
theorem xt:PO X none tNoPart:=by
 intro pins s σ H Q I h;rw[evalPart_none];exact wpAny_pure ⟨none,H,I,.none,h⟩
theorem yW(h:PE X e te):PO X (some e) (tPart te):=by
 intro pins s σ H Q I hw;rw[evalPart_some];refine thn (h pins s σ H _ I hw) fun u s1 ⟨x,H1,I1,r1,q1⟩=>?_
 obtain⟨i,rfl,q⟩:=q1;obtain⟨t,rfl⟩:=r1;exact⟨some i,H1,I1,.int i t,q⟩
def SlR(X:Cx)(r:V->Option Int->Option Int->Hp->VK->Prop):Prop :=
 ∀(pins:List (Addr×Obj))(s:Shared)(σ:St)(H:Hp)(x:V)(v vl vu:Value)(lo hi:Option Int)(sl:Addr)(Q:VK),Inv X pins σ H s->RelV x v->s.heap.IsSliceOf sl vl vu .none->IsPart vl lo->IsPart vu hi->r x lo hi H Q ->
  ∃ T id,typeLookup (.type T) "__getitem__" = pure (some (.builtin id))/\s.TypeIs v T/\wpAny (model X.prog X.w) X.A (getItem v (.ref sl)) (EP X pins σ Q) X.xe s
def tSl(r:V->Option Int->Option Int->Hp->VK->Prop)(te:TE)(tl th:TO):TE:=fun σ H Q=>te σ H fun x H1=>tl σ H1 fun l H2=>th σ H2 fun u H3=>r x l u H3 Q
theorem yB{r:V->Option Int->Option Int->Hp->VK->Prop}(hr:SlR X r)(he:PE X e te)(hl:PO X lo tl)(hu:PO X hi th):PE X (.Subscript e (.Slice lo hi none p2) pos) (tSl r te tl th):=by
 intro pins s σ H Q I h;refine Subscript_ (thn (he pins s σ H _ I h) fun v s1 ⟨x,H1,I1,r1,q1⟩=>?_);refine wpAny_Slice (thn (hl pins s1 σ H1 _ I1 q1) fun vl s2 ⟨l,H2,I2,pl,q2⟩=>thn (hu pins s2 σ H2 _ I2 q2) fun vu s3 ⟨u,H3,I3,pu,q3⟩=>?_);rw[evalPart_none];refine wpAny_pure ?_;have I4:Inv X pins σ H3 { s3 with heap:=s3.heap.push { cls:=.type "slice",data:=.fields #[vl,vu,.none] } }:=I3.kept (t':=s3.toks) fun b ob q=>Heap.get?_push_of_some _ q
 obtain⟨T,id,hT,ht,hg⟩:=hr pins { s3 with heap:=s3.heap.push { cls:=.type "slice",data:=.fields #[vl,vu,.none] } } σ H3 x v vl vu l u s3.heap.objs.size Q I4 r1 (Heap.IsSliceOf.new ..) pl pu q3;show wpAny (model X.prog X.w) X.A (subscriptTail e (.Slice lo hi none p2) v (.ref s3.heap.objs.size)) (EP X pins σ Q) X.xe { s3 with heap:=s3.heap.push { cls:=.type "slice",data:=.fields #[vl,vu,.none] } };exact tail_any (ops:=[.ref s3.heap.objs.size,v]) ht hT hg (by with_unfolding_all rfl)
def cutV(xs:List V)(lo hi:Option Int):List V:=(xs.drop (HT.sIx xs.length 0 lo)).take (HT.sIx xs.length xs.length hi - HT.sIx xs.length 0 lo)
theorem zaJ(xs:List V)(lo hi:Option Int):(cutV xs lo hi).length<=xs.length:=by
 unfold cutV;rw[wj,vO];omega
end
end L2
namespace L2
open PySem PySem.Spec PyProof.Rows
def ixN(n:Nat)(i:Int):Option Nat:=if 0<=i then(if i<n then some i.toNat else none)else if -(n:Int)<=i then some (i+n).toNat else none
def atI{α:Type}(xs:List α)(i:Int):Option α:=(ixN xs.length i).bind fun j=>xs[j]?
theorem zcx{n:Nat}{i:Int}{j:Nat}(h:ixN n i=some j):seqIndex? i n=some j/\j<n/\-(n:Int)<=i/\i<n:=by
 unfold ixN at h
 by_cases h0:0<=i
 ·rw[if_pos h0]at h
  by_cases h1:i<n
  ·rw[if_pos h1]at h;have e:i.toNat=j:=Option.some.inj h;exact⟨by rw[seqIndex_of h0 h1,e],by omega,by omega,h1⟩
  ·rw[if_neg h1]at h;cases h
 ·rw[if_neg h0]at h
  by_cases h1 : -(n:Int)<=i
  ·rw[if_pos h1]at h;have e:(i+n).toNat=j:=Option.some.inj h;exact⟨by rw[seqIndex_neg (by omega) h1,e],by omega,h1,by omega⟩
  ·rw[if_neg h1]at h;cases h
theorem zcO{α:Type}{xs:List α}{i:Int}{v:α}(h:atI xs i=some v):∃ j,seqIndex? i xs.length=some j/\xs[j]?=some v/\j<xs.length/\-(xs.length:Int)<=i/\i<xs.length:=by
 unfold atI at h;cases e:ixN xs.length i with
 | none=>rw[e]at h;cases h
 | some j =>
  rw[e]at h;obtain⟨h1,h2,h3,h4⟩:=zcx e;exact⟨j,h1,h,h2,h3,h4⟩
theorem zG{α:Type}{xs:List α}{j:Nat}{v:α}(h:xs[j]?=some v):atI xs (j:Int)=some v:=by
 have hj:j<xs.length:=(wm.mp h).1;have e:ixN xs.length (j:Int)=some j:=by
  unfold ixN;rw[if_pos (by omega),if_pos (by omega)];simp
 unfold atI;rw[e];exact h
def PlainIx(b:Expr):Prop:=∀ o i,subscripted b false o i=operate [o,i] (getItem o i)
def IxR(X:Cx)(r:R2):Prop :=
 ∀(value slice:Expr)(pins:List (Addr×Obj))(s:Shared)(σ:St)(H:Hp)(x y:V)(v u:Value)(Q:VK),Inv X pins σ H s->RelV x v->RelV y u->r x y H Q ->
  subscripted slice false v u=operate [v,u] (getItem v u)->wpAny (model X.prog X.w) X.A (subscriptTail value slice v u) (EP X pins σ Q) X.xe s
def MtR(X:Cx)(id:String)(r:V->List V->Hp->VK->Prop):Prop :=
 ∀(pins:List (Addr×Obj))(s:Shared)(σ:St)(H:Hp)(x:V)(xs:List V)(v:Value)(us:List Value)(Q:VK),Inv X pins σ H s->RelV x v->Vals xs us->r x xs H Q ->
  wpAny (model X.prog X.w) X.A (call (.builtin id) (v::us)) (EP X pins σ Q) X.xe s
section
variable{X:Cx}{a b:Expr}{ta tb:TE}{pos:Pos}
theorem zhS{r:R2}(hr:IxR X r)(ha:PE X a ta)(hb:PE X b tb)(hs:PlainIx b):PE X (.Subscript a b pos) (tOp r ta tb):=by
 intro pins s σ H Q I h;exact Subscript_ (binT ha hb I h fun v u s2 x y H2 I2 rx ry q=>hr a b pins s2 σ H2 x y v u Q I2 rx ry q (hs _ _))
inductive zfK(K:PySem.W.Frag)(x y:V)(H:Hp)(Q:VK):Prop where
 | mk (p:Addr) (xs:List V) (i:Int) (v:V) (h0_:x=.ref p) (h1_:y=.int i) (h2_:SqL K H p xs) (h3_:atI xs i=some v) (h4_:Q v H):zfK K x y H Q
def rIxL(K:PySem.W.Frag):R2:=fun x y H Q=>zfK K x y H Q
inductive zfy(K:PySem.W.Frag)(x y:V)(H:Hp)(Q:VK):Prop where
 | mk (p:Addr) (xs:List V) (i:Int) (v:V) (h0_:x=.ref p) (h1_:y=.int i) (h2_:SqT K H p xs) (h3_:atI xs i=some v) (h4_:Q v H):zfy K x y H Q
def rIxT(K:PySem.W.Frag):R2:=fun x y H Q=>zfy K x y H Q
theorem zdc:IxR X (rIxL X.K):=by
 intro value slice pins s σ H x y v u Q I rx ry h hs;obtain⟨p,xs,i,z,rfl,rfl,hq,he,q⟩:=h;cases rx;obtain⟨t,rfl⟩:=ry;obtain⟨its,r,pl,hz⟩:=I.list hq;obtain⟨j,h1,h2,h3,h4,h5⟩:=zcO he;obtain⟨w,ew,rw'⟩:=r.get h2;have hl:=r.length;have hn:=line63;have fin:EP X pins σ Q w s:=⟨z,H,I,rw',q⟩
 by_cases h0:0<=i
 ·have hj:i.toNat=j:=by
   rw[seqIndex_of h0 h5]at h1;exact Option.some.inj h1
  exact item_listR pl.isList h0 (by omega) (by rw[hj];simpa using ew) fin hs
 ·have hj:(i +(its.toArray.size:Int)).toNat=j:=by
   rw[seqIndex_neg (by omega) h4]at h1;rw[wx,← hl];exact Option.some.inj h1
  exact subscriptTail_builtinR (x:=w) pl.isList.typeIs slot_list_getitem.lookup
   (wpAny_getItem_list_neg (Q:=fun r s'=>r=w/\EP X pins σ Q r s') pl.isList (by omega) (by rw[wx] <;> omega) (by omega) (by rw[hj];simpa using ew) ⟨rfl,fin⟩) hs
theorem zfA:IxR X (rIxT X.K):=by
 intro value slice pins s σ H x y v u Q I rx ry h hs;obtain⟨p,xs,i,z,rfl,rfl,hq,he,q⟩:=h;cases rx;obtain⟨t,rfl⟩:=ry;obtain⟨its,r,pl,hz⟩:=I.tuple hq;obtain⟨j,h1,h2,h3,h4,h5⟩:=zcO he;obtain⟨w,ew,rw'⟩:=r.get h2;have hl:=r.length;have hn:=line63;have fin:EP X pins σ Q w s:=⟨z,H,I,rw',q⟩;exact subscriptTail_builtinR (x:=w) pl.typeIs slot_tuple_getitem.lookup
  (getItem_tuple (j:=j) (Q:=fun r s'=>r=w/\EP X pins σ Q r s') pl (by omega) (by omega) (by rw[wx,← hl];exact h1) (by simpa using ew) ⟨rfl,fin⟩) hs
theorem zcd (its:List Value) (n j:Nat) (u:Value):Obj.mapSeq (·.setIfInBounds j u) { cls:=.type "list",data:=.seq its.toArray n }={ cls:=.type "list",data:=.seq (its.set j u).toArray n }:=by
 simp[Obj.mapSeq]
theorem Inv.lst{pins:List (Addr×Obj)}{σ:St}{H:Hp}{s:Shared}{p:Addr}{xs:List V}(I:Inv X pins σ H s)(h:H p=some (.lst xs)) :
  ∃(its:List Value)(n:Nat),Vals xs its/\s.heap.get? p=some { cls:=.type "list",data:=.seq its.toArray n }/\xs.length<=sizeLine:=by
 obtain⟨z,its,n,r,e⟩:=I.hok p _ h;exact⟨its,n,r,e,z⟩
theorem Inv.lstUpd{pins:List (Addr×Obj)}{σ:St}{H:Hp}{s:Shared}{p:Addr}{xs ys:List V}{its its':List Value}{n n':Nat}{f:Obj->Obj}(I:Inv X pins σ H s)(h:H p=some (.lst xs))
  (ho:s.heap.get? p=some { cls:=.type "list",data:=.seq its.toArray n }) (hf:f { cls:=.type "list",data:=.seq its.toArray n }={ cls:=.type "list",data:=.seq its'.toArray n' }) (r:Vals ys its') (hz:ys.length<=sizeLine) (t:Nat) :
  Inv X pins σ (upd H p (.lst ys)) { s with heap:=s.heap.update p f,toks:=t }:=by
 have e:(s.heap.update p f).get? p=some { cls:=.type "list",data:=.seq its'.toArray n' }:=by
  rw[Heap.get?_update_self f ho (by rw[hf] <;> rfl),hf]
 refine I.write (x:=p) (e:=p) (by rw[h];trivial) (.inl rfl) (fun b u hb q=>(Heap.get?_update_other _ _ (Ne.symm hb)).trans q) ⟨_,e⟩ ?_;exact⟨hz,its',n',r,e⟩
inductive zd0(o i v:V)(H:Hp)(Q:Hp->Prop):Prop where
 | mk (p:Addr) (xs:List V) (k:Int) (j:Nat) (h0_:o=.ref p) (h1_:i=.int k) (h2_:H p=some (.lst xs)) (h3_:ixN xs.length k=some j) (h4_:Q (upd H p (.lst (xs.set j v)))):zd0  o i v H Q
def rSetL:V->V->V->Hp->(Hp->Prop)->Prop:=fun o i v H Q=>zd0  o i v H Q
theorem qH:PSet X rSetL:=by
 intro pins s σ H o i v ov iv u Q I ro ri rv h;obtain⟨p,xs,k,j,rfl,rfl,hp,hj,q⟩:=h;cases ro;obtain⟨t,rfl⟩:=ri;obtain⟨its,n,r,ho,hz⟩:=I.lst hp;obtain⟨h1,h2,h3,h4⟩:=zcx hj;have hl:=r.length;have hn:=line63;have I':Inv X pins σ (upd H p (.lst (xs.set j v))) { s with heap:=s.heap.update p (Obj.mapSeq (·.setIfInBounds j u)) } :=
  I.lstUpd hp ho (zcd its n j u) (r.set rv j) (by rw[vv];exact hz) s.toks
 by_cases h0:0<=k
 ·have hk:k.toNat=j:=by
   rw[seqIndex_of h0 h4]at h1;exact Option.some.inj h1
  exact PySem.W.ki_setAt ho h0 (by omega) (by rw[wx,← hl];exact h4) (by rw[hk];exact⟨_,I',q⟩)
 ·have hk:(k +(its.toArray.size:Int)).toNat=j:=by
   rw[seqIndex_neg (by omega) h3]at h1;rw[wx,← hl];exact Option.some.inj h1
  exact PySem.W.ki_setBack ho (by omega) (by rw[wx,← hl];exact h3) (by omega) (by rw[hk];exact⟨_,I',q⟩)
theorem zai(lo hi:Option Int)(n:Nat):(sliceBounds lo hi none n).1 =((HT.sIx n 0 lo:Nat):Int)/\(sliceBounds lo hi none n).2.1 =((HT.sIx n n hi:Nat):Int)/\(sliceBounds lo hi none n).2.2=1:=by
 refine⟨?_,?_,rfl⟩
 ·cases lo with
  | none=>simp[sliceBounds,HT.sIx]
  | some i =>
   simp only[sliceBounds,HT.sIx,GE,show(1:Int) > 0 by decide,if_true]
   by_cases h:i<0
   ·simp only[h,if_true] <;> omega
   ·simp only[h,if_false] <;> omega
 ·cases hi with
  | none=>simp[sliceBounds,HT.sIx]
  | some i =>
   simp only[sliceBounds,HT.sIx,GE,show(1:Int) > 0 by decide,if_true]
   by_cases h:i<0
   ·simp only[h,if_true] <;> omega
   ·simp only[h,if_false] <;> omega
theorem JY(its:List Value)(lo hi:Option Int):slicePick its.toArray lo hi none =((its.drop (HT.sIx its.length 0 lo)).take (HT.sIx its.length its.length hi - HT.sIx its.length 0 lo)).toArray:=by
 obtain⟨h1,h2,h3⟩:=zai lo hi its.toArray.size;unfold slicePick;rw[h1,h2,h3];simp only[sliceRange_one,pick_run,wx] <;> rfl
inductive zfg(K:PySem.W.Frag)(x:V)(lo hi:Option Int)(H:Hp)(Q:VK):Prop where
 | mk (a:Addr) (xs:List V) (h0_:x=.ref a) (h1_:SqL K H a xs) (h2_:∀ p,H p=none->Q (.ref p) (upd H p (.lst (cutV xs lo hi)))):zfg K x lo hi H Q
def rSlL(K:PySem.W.Frag):V->Option Int->Option Int->Hp->VK->Prop:=fun x lo hi H Q=>zfg K x lo hi H Q
theorem zdI:SlR X (rSlL X.K):=by
 intro pins s σ H x v vl vu lo hi sl Q I rx hs pl pu h;obtain⟨a,xs,rfl,hx,q⟩:=h;cases rx;obtain⟨its,r,ht,hz⟩:=I.list hx;have hlen:=r.length;refine⟨"list",_,slot_list_getitem.lookup,ht.isList.typeIs,?_⟩;refine wpAny_getItem_list_slice ht.isList hs pl pu .none (by simp) ?_ (by rw[wx] <;> omega);rw[JY,← hlen];refine⟨.ref s.heap.objs.size,_,I.laid (t':=s.toks) (o:=.lst (cutV xs lo hi)) (fun b ob q=>Heap.get?_push_of_some _ q) (wl _) ?_,rfl,q _ (I.hok.fresh (wl _))⟩;exact⟨vp (zaJ xs lo hi) hz,_,0,(r.drop (HT.sIx xs.length 0 lo)).take (HT.sIx xs.length xs.length hi - HT.sIx xs.length 0 lo),Heap.get?_push_size _ rfl⟩
theorem zac:kaq X (.builtin "len") (fun xs H Q=>∃ p ys,xs=[.ref p]/\(SqL X.K H p ys\/SqT X.K H p ys)/\Q (.int ys.length) H):=by
 intro pins s σ H xs us Q I r h;obtain⟨p,ys,rfl,hq,q⟩:=h;obtain⟨u,rfl,rx⟩:=vals1 r;cases rx;have hn:=line63
 rcases hq with hq|hq
 ·obtain⟨its,r',pl,hz⟩:=I.list hq;have hlen:=r'.length;exact Calls.call_len_list pl.isList (by simp only[wx] <;> omega) ⟨.int ys.length,H,I.tok _,⟨s.toks+1,by rw[wx,hlen]⟩,q⟩
 ·obtain⟨its,r',pl,hz⟩:=I.tuple hq;have hlen:=r'.length;exact len_tuple pl (by simp only[wx] <;> omega) ⟨.int ys.length,H,I.tok _,⟨s.toks+1,by rw[wx,hlen]⟩,q⟩
theorem zag:kaq X (.type "list") (fun xs H Q=>∃ p ys,xs=[.ref p]/\(SqL X.K H p ys\/SqT X.K H p ys)/\∀ l,H l=none->Q (.ref l) (upd H l (.lst ys))):=by
 intro pins s σ H xs us Q I r h;obtain⟨p,ys,rfl,hq,q⟩:=h;obtain⟨u,rfl,rx⟩:=vals1 r;cases rx;have fin:∀(its:List Value),Vals ys its->ys.length<=sizeLine->∀(h':Heap)(c':Nat),(∀ b o',s.heap.get? b=some o'->h'.get? b=some o') ->
   h'.get? s.heap.objs.size=some { cls:=.type "list",dict:=none,data:=.seq its.toArray c',slots:=#[] }->EP X pins σ Q (.ref s.heap.objs.size) { s with heap:=h' }:=fun its r' hz h' c' kp e =>
  ⟨.ref s.heap.objs.size,_,I.laid (t':=s.toks) kp (wl _) (show kap X.prog X.w _ h' _ (.lst ys)from⟨hz,its,c',r',e⟩),rfl,q _ (I.hok.fresh (wl _))⟩
 rcases hq with hq|hq
 ·obtain⟨its,r',pl,hz⟩:=I.list hq;have hlen:=r'.length;obtain⟨o,ho,hc,n,hd⟩:=pl.isList;exact call_list_seq p (.inl rfl) ho hc hd (fun h' c' kp e=>fin its r' hz h' c' kp e) (by simp only[wx] <;> omega)
 ·obtain⟨its,r',pl,hz⟩:=I.tuple hq;have hlen:=r'.length;obtain⟨o,ho,hc,n,hd⟩:=pl;exact call_list_seq p (.inr rfl) ho hc hd (fun h' c' kp e=>fin its r' hz h' c' kp e) (by simp only[wx] <;> omega)
theorem Jf:kaq X (.type "tuple") (fun xs H Q=>∃ p ys,xs=[.ref p]/\((SqL X.K H p ys/\∀ l,H l=none->Q (.ref l) (upd H l (.tup ys)))\/(SqT X.K H p ys/\Q (.ref p) H))):=by
 intro pins s σ H xs us Q I r h;obtain⟨p,ys,rfl,h⟩:=h;obtain⟨u,rfl,rx⟩:=vals1 r;cases rx
 rcases h with⟨hq,q⟩|⟨hq,q⟩
 ·obtain⟨its,r',pl,hz⟩:=I.list hq;have hlen:=r'.length;refine call_tuple_list pl.isList (fun h' kp=>?_) (by simp only[wx] <;> omega);have I1:Inv X pins σ H { s with heap:=h' }:=I.kept (t':=s.toks) kp;have I2:Inv X pins σ (upd H h'.objs.size (.tup ys)) { s with heap:=h'.push { cls:=.type "tuple",data:=.seq its.toArray } } :=
   I1.laid (t':=s.toks) (fun b o e=>Heap.get?_push_of_some _ e) (wl _) (show kap X.prog X.w _ _ _ (.tup ys)from⟨hz,its,r',IsTup.new _ _⟩)
  exact⟨.ref h'.objs.size,_,I2,rfl,q _ (I1.hok.fresh (wl _))⟩
 ·obtain⟨its,r',pl,hz⟩:=I.tuple hq;exact call_tuple_same pl ⟨.ref p,H,I,rfl,q⟩
def tyV(K:PySem.W.Frag)(T:String)(x:V)(H:Hp):Prop:=match x with
 | .str _=>T = "str"
 | .int _=>T = "int"
 | .ref p=>(T = "list" /\ ∃ xs,SqL K H p xs)\/(T = "tuple" /\ ∃ o,K.lookup p=some o/\o.cls=.type "tuple" /\ o.dict=none) \/
   (T = "dict" /\ ((∃ kvs,H p=some (.dK kvs))\/∃ kvs,H p=some (.dT kvs)))\/(T = "set" /\ ∃ S n,H p=some (.set S n))
 | _=>False
theorem zgY{pins:List (Addr×Obj)}{σ:St}{H:Hp}{s:Shared}{T:String}{x:V}{v:Value}(I:Inv X pins σ H s)(r:RelV x v)(ty:tyV X.K T x H) :
  s.TypeIs v T/\∀ a,v=.ref a->∃ ob,s.heap.get? a=some ob/\ob.dict=none:=by
 cases x with
 | str z =>
  obtain⟨t,rfl⟩:=r;cases (show T = "str" from ty);exact⟨typeIs_str s z t,fun _ e=>nomatch e⟩
 | int i =>
  obtain⟨t,rfl⟩:=r;cases (show T = "int" from ty);exact⟨typeIs_int s i t,fun _ e=>nomatch e⟩
 | ref p =>
  cases r
  rcases ty with⟨rfl,xs,hq⟩|⟨rfl,o,hk,hc,hd⟩|⟨rfl,hk⟩|⟨rfl,S,n,hk⟩
  ·obtain⟨its,_,pl,_⟩:=I.list hq;refine⟨pl.isList.typeIs,fun a e=>?_⟩;cases e;obtain⟨o,n,e,c,hd,_⟩:=pl;exact⟨o,e,hd⟩
  ·refine⟨⟨o,I.kIn p o hk,hc⟩,fun a e=>?_⟩;cases e;exact⟨o,I.kIn _ o hk,hd⟩
  ·have z:∃ o,s.heap.get? p=some o/\o.ExactDict:=by
    rcases hk with⟨kvs,hk⟩|⟨kvs,hk⟩
    ·obtain⟨_,_,_,_,o,_,_,e,ex,_⟩:=I.hok p _ hk;exact⟨o,e,ex⟩
    ·obtain⟨_,_,_,_,o,_,_,e,ex,_⟩:=I.hok p _ hk;exact⟨o,e,ex⟩
   obtain⟨o,e,ex⟩:=z;refine⟨⟨o,e,ex.1⟩,fun a e2=>?_⟩;cases e2;exact⟨o,e,ex.2.1⟩
  ·obtain⟨o,_,_,_,e,ex,_⟩:=I.hok p _ hk;refine⟨⟨o,e,ex.1⟩,fun a e2=>?_⟩;cases e2;exact⟨o,e,ex.2.1⟩
 | _=>exact False.elim ty
def tBM(K:PySem.W.Frag)(T:String)(r:V->List V->Hp->VK->Prop)(to:TE)(t:TA):TE:=fun σ H Q=>to σ H fun x H1=>tyV K T x H1/\t σ H1 fun xs H2=>r x xs H2 Q
variable{o e:Expr}{es:List Expr}{to:TE}{t:TA}{name:Str}{apos cpos:Pos}{T id:String}{r:V->List V->Hp->VK->Prop}
theorem Xu (pa:PlainAttrs T) (slot:Slot T name id) (hty:typeOf (.builtin id)=pure (.type "method_descriptor")) (hm:MtR X id r) (ho:PE X o to) (ha:PA X (e::es) t)
  (hbase:attributeBase o name X.env (eval o X.env)=eval o X.env:=by rfl)
  (hfew:((backTo cpos (starEach (e::es) X.env)).all (fun x=>!x.1) && (backToKw cpos (keywordEach [] X.env)).all (fun x=>x.1.isSome)
   && decide ((e::es).length +([]:List Keyword).length +(if ([]:List Keyword).isEmpty then 0 else 1)<30))=true:=by rfl)
  (hline:(apos.endLine == cpos.line)=true:=by rfl) (hs:starEach (e::es) X.env =(false,eval e X.env)::starEach es X.env:=by rfl) (hplain:(backTo cpos (starEach es X.env)).any (·.1)=false:=by rfl) :
  PE X (.Call (.Attribute o name apos) (e::es) [] cpos) (tBM X.K T r to t):=by
 intro pins s σ H Q I h;refine wpAny_Call_method_late hbase hfew hline rfl (thn (ho pins s σ H _ I h) fun v s1 ⟨x,H1,I1,r1,ty,q1⟩=>?_);obtain⟨h1,h2⟩:=zgY I1 r1 ty;refine⟨T,id,pa,slot,hty,h1,h2,?_⟩;have hA:=ha cpos pins s1 σ H1 _ I1 q1;rw[hs]at hA ⊢;refine Calls.callWith_builtin (by show(false || (backTo cpos (starEach es X.env)).any (·.1))=false;rw[hplain] <;> rfl) (Calls.evalArgs_plain ?_);exact thn hA fun us s2 ⟨vs,H2,I2,r2,q2⟩=>hm pins s2 σ H2 x vs v us Q I2 r1 r2 q2
end
end L2
namespace L2
open PySem PySem.Spec PyProof.Rows
def MtM(X:Cx)(id:String)(r:V->List V->Hp->VK->Prop):Prop :=
 ∀(pins:List (Addr×Obj))(s:Shared)(σ:St)(H:Hp)(x:V)(xs:List V)(v:Value)(us:List Value)(Q:VK),Inv X pins σ H s->RelV x v->Vals xs us->r x xs H Q ->
  wpAny (model X.prog X.w) X.A (call (.builtin id) (v::us)) (EP X pins σ Q) X.xe s
theorem Vals.one:∀ {x:V} {us:List Value},Vals [x] us->∃ u,us=[u]/\RelV x u
 | _,_,.cons r .nil=>⟨_,rfl,r⟩
theorem Vals.two:∀ {x y:V} {us:List Value},Vals [x,y] us->∃ u v,us=[u,v]/\RelV x u/\RelV y v
 | _,_,_,.cons r (.cons q .nil)=>⟨_,_,rfl,r,q⟩
theorem Vals.rep{xs:List V}{us:List Value}(h:Vals xs us):∀ k:Nat,Vals (ww k xs).flatten (ww k us).flatten
 | 0=>.nil
 | k+1=>by
  rw[vP,vP,vZ,vZ];exact Vals.append h (Vals.rep h k)
theorem QH(its:List Value):∀(k:Nat)(acc:List Value),
  GT (fun x1 x2=>x1++x2) acc.toArray (ww k its.toArray) =(acc ++(ww k its).flatten).toArray
 | 0,acc=>by simp
 | k+1,acc=>by
  have e:acc.toArray++its.toArray =(acc++its).toArray:=by simp
  have e2:(acc++its) ++(ww k its).flatten=acc ++(ww (k+1) its).flatten:=by
   rw[vP,vZ,Gx]
  rw[← e2,← QH its k (acc++its),← e,vP,Ge]
section
variable{X:Cx}{pins:List (Addr×Obj)}{σ:St}{H:Hp}{s:Shared}{l b:Addr}{xs ys zs:List V}
theorem Inv.lset{its its':List Value}{n:Nat}{f:Array Value->Array Value}{t':Nat}(I:Inv X pins σ H s)(hH:H l=some (.lst xs))
  (e:s.heap.get? l=some { cls:=.type "list",data:=.seq its.toArray n }) (hf:f its.toArray=its'.toArray) (hv:Vals ys its') (hz:ys.length<=sizeLine) :
  Inv X pins σ (upd H l (.lst ys)) { s with heap:=s.heap.update l (Obj.mapSeq f),toks:=t' }:=by
 have q:=PySem.IsL.update e f;rw[hf]at q;refine I.write (x:=l) (e:=l) (by rw[hH];exact trivial) (.inl rfl) (fun b' u hb hu=>(Heap.get?_update_other s.heap (Obj.mapSeq f) (Ne.symm hb)).trans hu) ⟨_,q⟩ ?_;exact⟨hz,its',_,hv,q⟩
theorem Inv.lnew{its:List Value}{t':Nat}(I:Inv X pins σ H s)(hv:Vals ys its)(hz:ys.length<=sizeLine) :
  Inv X pins σ (upd H s.heap.objs.size (.lst ys)) { s with heap:=s.heap.push { cls:=.type "list",data:=.seq its.toArray },toks:=t' } :=
 I.laid (fun _ _ q=>Heap.get?_push_of_some _ q) (wl _) ⟨hz,its,0,hv,Heap.get?_push_size _ rfl⟩
theorem Inv.fresh(I:Inv X pins σ H s):H s.heap.objs.size=none:=I.hok.fresh (wl _)
theorem Inv.lstM (I:Inv X pins σ H s) (hH:H l=some (.lst xs)):xs.length<=sizeLine/\∃(its:List Value)(n:Nat),Vals xs its/\xs.length=its.length/\s.heap.get? l=some { cls:=.type "list",data:=.seq its.toArray n }:=by
 obtain⟨z,its,n,r,e⟩:=I.hok l _ hH;exact⟨z,its,n,r,r.length,e⟩
theorem notLongL{n:Nat}(h:n<=sizeLine):Builtin.List.listTooLong n=false:=by
 unfold Builtin.List.listTooLong;exact decide_eq_false (by omega)
end
section
variable{X:Cx}
inductive QX(x:V)(vs:List V)(H:Hp)(Q:VK):Prop where
 | mk (l:Addr) (xs:List V) (y:V) (h0_:x=.ref l) (h1_:vs=[y]) (h2_:H l=some (.lst xs)) (h3_:xs.length<sizeLine) (h4_:Q .non (upd H l (.lst (xs++[y])))):QX  x vs H Q
def rAppend:V->List V->Hp->VK->Prop:=fun x vs H Q=>QX  x vs H Q
theorem yN:MtM X "list.append" rAppend:=by
 intro pins s σ H x vs v us Q I rx rv h;obtain⟨l,xs,y,rfl,rfl,hH,hz,q⟩:=h;cases rx;obtain⟨u,rfl,ru⟩:=rv.one;obtain⟨z,its,n,r,hl,e⟩:=I.lstM hH;refine call_meets F.slot_list_append ⟨_,e,rfl⟩ F.entry_list_append (F.args_list_append_2 _ _) (PySem.list_append l its.toArray n u (by rw[wx];omega)) ⟨e,?_⟩;refine⟨.non,_,I.lset (its':=its++[u]) hH e (by simp) (r.append (.cons ru .nil)) ?_,rfl,q⟩;rw[wu,Gi];omega
def rExtend:V->List V->Hp->VK->Prop:=fun x vs H Q=>∃ l b xs zs,x=.ref l/\vs=[.ref b]/\H l=some (.lst xs)/\H b=some (.lst zs)/\xs.length+zs.length<=sizeLine/\Q .non (upd H l (.lst (xs++zs)))
theorem zc0:MtM X "list.extend" rExtend:=by
 intro pins s σ H x vs v us Q I rx rv h;obtain⟨l,b,xs,zs,rfl,rfl,hH,hB,hz,q⟩:=h;cases rx;obtain⟨u,rfl,ru⟩:=rv.one;cases ru;obtain⟨z,its,n,r,hl,e⟩:=I.lstM hH;obtain⟨z2,its2,n2,r2,hl2,e2⟩:=I.lstM hB;have hsz:its.toArray.size+its2.toArray.size<=sizeLine:=by rw[wx,wx];omega
 have hlong:¬(!its.toArray.isEmpty && Builtin.List.listTooLong (its.toArray.size+its2.toArray.size))=true:=by
  rw[notLongL hsz,Bool.and_false];exact wX
 refine call_meets F.slot_list_extend ⟨_,e,rfl⟩ F.entry_list_extend (F.args_list_extend_2 _ _)
  (AutoSeq1.list_extend_list_list_0 l its.toArray n b its2.toArray n2 hlong (by rw[wx];omega) (by omega)) ⟨e,e2,?_⟩
 refine⟨.non,_,I.lset (its':=its++its2) hH e (by simp) (r.append r2) ?_,rfl,q⟩;rw[wu];omega
inductive zfL(x y:V)(H:Hp)(Q:VK):Prop where
 | mk (l b:Addr) (xs zs:List V) (h0_:x=.ref l) (h1_:y=.ref b) (h2_:H l=some (.lst xs)) (h3_:H b=some (.lst zs)) (h4_:xs.length+zs.length<=sizeLine) (h5_:∀ p,H p=none->Q (.ref p) (upd H p (.lst (xs++zs)))):zfL  x y H Q
def rCat:R2:=fun x y H Q=>zfL  x y H Q
theorem qW:OpR X (binaryOp .Add) rCat:=by
 intro pins s σ H x y v u Q I rx ry h;obtain⟨l,b,xs,zs,rfl,rfl,hH,hB,hz,q⟩:=h;cases rx;cases ry;obtain⟨z,its,n,r,hl,e⟩:=I.lstM hH;obtain⟨z2,its2,n2,r2,hl2,e2⟩:=I.lstM hB;refine PySem.P.add_list e e2 ?_ (by rw[wx,wx];omega);have ea:its.toArray++its2.toArray =(its++its2).toArray:=by simp
 rw[ea];exact⟨.ref _,_,I.lnew (t':=s.toks) (r.append r2) (by rw[wu];omega),rfl,q _ I.fresh⟩
def rRep:R2:=fun x y H Q=>∃ l k xs,x=.ref l/\y=.int k/\H l=some (.lst xs)/\-(2^63)<=k/\k<2^63/\xs.length*k.toNat<=sizeLine /\
 ∀ p,H p=none->Q (.ref p) (upd H p (.lst (ww k.toNat xs).flatten))
theorem zfU{α:Type}(xs:List α)(k:Nat):(ww k xs).flatten.length=k*xs.length:=by
 induction k with
 | zero=>simp
 | succ k ih=>rw[vP,vZ,wu,ih,vW,GZ]
theorem zhk:OpR X (binaryOp .Mult) rRep:=by
 intro pins s σ H x y v u Q I rx ry h;obtain⟨l,k,xs,rfl,rfl,hH,h1,h2,hz,q⟩:=h;cases rx;obtain⟨t,rfl⟩:=ry;obtain⟨z,its,n,r,hl,e⟩:=I.lstM hH;have hlen:its.toArray.size*k.toNat<=sizeLine:=by rw[wx,← hl];exact hz
 have hcap:¬ its.toArray.size*k.toNat >(2^63 - 1) / 8:=by
  have:(sizeLine:Nat)<=(2^63 - 1) / 8:=by decide
  omega
 have hfit:¬(!Builtin.List.listFitsIndex k)=true:=by
  rw[fitsIndex_both h1 h2];exact wX
 have hlong:¬ Builtin.List.listTooLong (its.toArray.size*k.toNat)=true:=by
  rw[notLongL hlen];exact wX
 have hnew:GT (fun x1 x2=>x1++x2) #[] (ww (if its.toArray.isEmpty=true then 0 else k.toNat) its.toArray) =(ww k.toNat its).flatten.toArray:=by
  have f0:∀ m:Nat,GT (fun x1 x2=>x1++x2) #[] (ww m its.toArray) =(ww m its).flatten.toArray:=fun m=>by
   have:=QH its m [];rw[GP]at this;exact this
  rw[f0];cases its with
  | nil=>simp
  | cons a r'=>rw[if_neg (by simp)]
 refine wpAny_binaryOp_repeat_ref (T := "list") (U := "int") (by decide) ⟨_,e,rfl⟩ (fun s'=>typeIs_int s' k t) noFill_list_mul F.fills_int_mul F.slot_int_rmul repeat_list F.slot_int_index.lookup
  (call_meets F.slot_int_rmul (typeIs_int s k t) F.entry_int_rmul (F.args_int_rmul_2 _ _) (int___rmul___int_list k t l its.toArray n)
   ⟨e,rfl,⟨_,e,rfl⟩,call_meets F.slot_list_mul ⟨_,e,rfl⟩ F.entry_list_mul (F.args_list_mul_2 _ _) (AutoListH.list___mul___list_int_3 l its.toArray n k t hfit hcap hlong) ⟨e,?_⟩⟩)
 rw[hnew];exact⟨.ref _,_,I.lnew (t':=s.toks) (r.rep k.toNat) (by rw[zfU,Gb];exact hz),rfl,q _ I.fresh⟩
end
end L2
namespace Att
open PySem PySem.W PySem.Calls PyProof.Rows
theorem Xl{P:Params}{h:Heap}:∀(ns:List Int)(vs:List Value),WellAll P h vs (ns.map WData.int)->IntsAre vs ns:=by
 intro ns
 induction ns with
 | nil =>
  intro vs w;rw[gw]at w;cases w;exact .nil
 | cons n ns ih =>
  intro vs w;rw[vV]at w;cases w with
  | cons a b =>
   cases a;exact .cons _ _ (ih _ b)
theorem zdR{l:OpenLaw}{n:Nat}(hn:l.most=some n){P:Params}{h:Heap}{args:List WData}{vals:List Value}
  (hpre:l.row.toRowW.claim.pre args=true) (hwl:WellAll P h vals args) :
  ∃ a vs ns,vals=[Value.ref a]/\args=[WData.list (ns.map WData.int)]/\h.get? a=some { cls:=.type "list",data:=.seq vs.toArray }/\IntsAre vs ns/\ns.length<=n:=by
 have hsh:WShape.hasAll [] args [.list .int]=true:=(pre_splitW hpre).1;have hc:l.pre.holds [] { args:=args }=true:=(pre_splitW hpre).2;obtain⟨d,r,rfl,h1,h2⟩:=hasAllW_cons hsh;obtain rfl:=hasAllW_nil h2;obtain⟨xs,rfl,h3⟩:=hasW_list h1;obtain⟨ns,rfl⟩:=items_int h3;have hlen:ns.length<=n:=by
  unfold OpenLaw.pre at hc;have h4:(WTm.not (.lt (.lit (.int (n:Int))) (.len (.arg 0)))).holds [] { args:=[.list (ns.map .int)] }=true:=by
   have h4:=(holds_andW hc).1;rw[hn]at h4;exact h4
  have h5:=condW_of h4 (w_not (w_lt w_lit (w_len_list (w_arg rfl))));rw[wc]at h5;refine GG fun q=>?_
  have q':(n:Int) <((ns.length:Nat):Int):=by omega
  first
   | (rw[decide_eq_true q']at h5;exact absurd h5 (by decide))
   | (simp at h5;omega)
 cases hwl with
 | cons w1 w2 =>
  cases w2;cases w1 with
  | list ho hall=>exact⟨_,_,ns,rfl,rfl,ho,Xl ns _ hall,hlen⟩
theorem zd5(l:OpenLaw)(args:List WData):l.row.toRowW.claim.post args (.bool true) args=true :=
 postW_of (r:=l.row.toRowW) (X:=(true == true))
  (show WShape.has [] (.bool true) .bool=true by first|rfl|decide|simp[WShape.has,WShape.arms,WShape.armsAll])
  (show(WTm.eq .res (.lit (.bool true))).value [] { args:=args,res:=some (.bool true),after:=args }=some (.bool (true == true))from w_eq_bool (w_res rfl) w_lit) rfl
theorem zar{l:OpenLaw}{n:Nat}{q:Program}{loose:List Str}{XP:(Str->Option Value)->Heap->Prop}{YP:World->Heap->Prop}{d:DefRec}
  (hn:l.most=some n) (hdf:d.params.defaults=[])
  (call:∀(w:World)(s₀ s₁:Shared)(mg mb:Str->Option Value)(fa:Addr)(o:Obj)(pm cd doc:Value)(a:Addr)(vs:List Value)(ns:List Int),
   Ground q loose [] XP w s₀ mg mb s₁.heap->YP w s₁.heap ->
   s₁.heap.get? fa=some o->o.data=.func (docDef d.name d.params d.body d.scope pm cd doc)->s₁.heap.CodeRec cd d.name->mg d.name=some (.ref fa) ->
   s₁.heap.get? a=some { cls:=.type "list",data:=.seq vs.toArray }->IntsAre vs ns->ns.length<=n->s₁.gens=#[] ->
   codeAny (model l.prog w) callerA (.call (.ref fa) ⟨[.ref a],[]⟩) (fun r s'=>r=.ok (.ret (.bool true))/\OldK s₁.heap s'.heap/\s'.os=s₁.os/\AllBare s'.gens) s₁) :
  WalkO q loose XP YP l.row.toRowW d [] (fun f vs=>PySem.call f vs):=by
 intro w s₀ s₁ mg mb G Y fa o pm cd doc dV kV ho hd hcd hD hmg hg args vals as hpre hlay hrd hwl hlo;obtain rfl:dV=.none:=Dflts.none hD hdf;obtain rfl:kV=.none:=Dflts.noKw hD;obtain⟨a,vs,ns,rfl,rfl,hobj,hints,hlen⟩:=zdR hn hpre hwl;refine enter_call (codeAny_mono (call w s₀ s₁ mg mb fa o pm cd doc a vs ns G Y ho (fd_plain hd) hcd hmg hobj hints hlen hg) fun r s' hq=>?_);obtain⟨rfl,h2,h3,h4⟩:=hq;exact⟨.inl ⟨.bool true,.bool true,[],rfl,fun _=>rfl,.bool true,zd5 l _,fun _=>⟨List.Pairwise.nil,fun _ hm=>(nomatch hm)⟩⟩,h2,h3,h4⟩
end Att
namespace L2
open PySem PySem.Spec PyProof.Rows
theorem zad:∀ {vs:List Value} {ns:List Int},IntsAre vs ns->Vals (ns.map V.int) vs
 | _,_,.nil=>.nil
 | _,_,.cons n t h=>.cons ⟨t,rfl⟩ (zad h)
def Only(H:Hp):Prop:=∀ b,H b=none\/∃ o xs,H b=some (.frz o (.lst xs))
theorem zet{P:Program}{w:World}{K:PySem.W.Frag}{mg mb:Str->Option Value}{CX:CXT}{k:Nat}{fa a:Addr}{fd:FuncData}{x:Str}{sp:Sp}{s₁:Shared}{vs:List Value}{ns:List Int}
  (KX:K.In s₁.heap) (hns:s₁.heap.Ns mainGlobals mg) (hb:s₁.heap.Ns builtinsNs mb) (hbb:∀ x:Str,x ≠ "__name__" -> mb x=bootBuiltins x) (hlim:s₁.heap.NoLimit) (hSe:s₁.heap.NoSeer) (hg:s₁.gens=#[])
  (ha:s₁.heap.get? a=some { cls:=.type "list",data:=.seq vs.toArray }) (hi:IntsAre vs ns) (hl:ns.length<=sizeLine) (hr:Room k callerA)
  (F:∀ base:Heap,K.In base->base.Ns mainGlobals mg->base.NoSeer->FnOk P w K mg base CX k fa fd [x] sp) (hbind:∀(s:Shared)(u:Value),BindsTo s fd ⟨[u],[]⟩ [(x,u)])
  (hsp:∀ H:Hp,Only H->SqL K H a (ns.map V.int)->sp [.ref a] H (fun v _=>v=.bl true) fun _ _ _=>False)
  (hCX:∀ H e s',CX [] H s₁ (fun _ _ _=>False) e s'->False) :
  codeAny (model P w) callerA (.call (.ref fa) ⟨[.ref a],[]⟩) (fun r s'=>r=.ok (.ret (.bool true))/\OldK s₁.heap s'.heap/\s'.os=s₁.os/\AllBare s'.gens) s₁:=by
 have rv:=zad hi;have lenV:=hi.length;have core:∀ H:Hp,Only H->SqL K H a (ns.map V.int)->HOk P w H s₁.heap->(∀ b,H b≠none->b=a)->(H a≠none->K.lookup a=none) ->
   codeAny (model P w) callerA (.call (.ref fa) ⟨[.ref a],[]⟩) (fun r s'=>r=.ok (.ret (.bool true))/\OldK s₁.heap s'.heap/\s'.os=s₁.os/\AllBare s'.gens) s₁:=by
  intro H hO hS hok hA hK;have base_of:∀ {b:Addr} {o:Obj},s₁.heap.get? b=some o->H b=none->(hidT s₁.heap H).get? b=some o:=fun e n=>zeY e n
  have noA:∀ {b:Addr} {o:Obj} {es:Array DictEntry} {ep:Nat},s₁.heap.get? b=some o->o.data=.dict es ep->H b=none:=fun {b o es ep} e d=>by
   cases q:H b with
   | none=>rfl
   | some u =>
    have e':b=a:=hA b (by rw[q];simp);subst e';rw[ha]at e;cases e;have d':Data.seq vs.toArray _=Data.dict es ep:=d;cases d'
  have nsK:∀ {b:Addr} {m:Str->Option Value},s₁.heap.Ns b m->(hidT s₁.heap H).Ns b m:=fun {b m} ⟨o,es,ep,e,d,r⟩=>⟨o,es,ep,base_of e (noA e d),d,r⟩
  have hKb:K.In (hidT s₁.heap H):=fun b o e=>base_of (KX b o e) (by
   cases q:H b with
   | none=>rfl
   | some u =>
    have e':b=a:=hA b (by rw[q];simp);subst e';rw[hK (by rw[q];simp)]at e;cases e)
  have hM:Mod K mg (hidT s₁.heap H):=⟨hKb,nsK hns,⟨mb,nsK hb,hbb⟩,let ⟨mc,h1,h2⟩:=hlim;⟨mc,nsK h1,h2⟩⟩;have e0:Env0 P w K mg (hidT s₁.heap H) callerA [] s₁ H:=⟨rfl,hM,fun b o e=>zgx e,Nat.le_of_eq (zdC _ _),trivial,fun b hb=>absurd (show b∈([]:List Addr)from hb) (by simp),hok,.of_eq hg⟩;have hSb:(hidT s₁.heap H).NoSeer:=⟨(let ⟨mc,h1,h2⟩:=hSe.statics;⟨mc,nsK h1,h2⟩),(let ⟨mc,h1,h2⟩:=hSe.mods;⟨mc,nsK h1,h2⟩),(let ⟨mc,h1,h2⟩:=hSe.imp;⟨mc,nsK h1,h2⟩),by
   obtain⟨m',bm,ob,h1,h2,h3,h4,h5⟩:=hSe.main;refine⟨m',bm,ob,nsK h1,h2,base_of h3 ?_,h4,h5⟩;cases q:H bm with
   | none=>rfl
   | some u =>
    have e':bm=a:=hA bm (by rw[q];simp);subst e';rw[ha]at h3;cases h3;exact absurd h4 (by simp)⟩
  refine codeAny_mono ((F _ hKb (nsK hns) hSb).run callerA [] s₁ H ⟨[.ref a],[]⟩ [.ref a] [.ref a] _ _ hr e0 (hbind s₁ (.ref a)) (.cons rfl .nil) (hsp H hO hS)) fun r s' h=>?_
  cases r with
  | error e=>exact(hCX H e s' h).elim
  | ok fl =>
   cases fl with
   | next=>exact False.elim h
   | brk=>exact False.elim h
   | cont=>exact False.elim h
   | ret u =>
    obtain⟨v,H',os,bare,un,hok',r',q⟩:=h;have q':v=.bl true:=q;subst q';obtain rfl:u=Value.bool true:=r';refine⟨rfl,OldK.of_keep fun b o e=>?_,os,bare⟩;cases q:H b with
    | none=>exact un.keep b o e q (by intro z;exact absurd (show b∈([]:List Addr)from z) (by simp)) (by simp)
    | some u =>
     rcases hO b with z|⟨ob,xs,z⟩
     ·rw[q]at z;cases z
     ·have z2:=un.frzs b ob _ z;obtain⟨e1,_⟩:=hok b _ z;obtain⟨e2,_⟩:=hok' b _ z2;rw[e]at e1;cases e1;exact e2
 cases hk:K.lookup a with
 | some o =>
  have e:=KX a o hk;rw[ha]at e;cases e;refine core (fun _=>none) (fun _=>.inl rfl) (.inr ⟨_,vs.toArray,_,hk,rfl,rfl,rfl,by rw[wx,lenV];exact hl,by simpa using rv⟩) (fun b u z=>by have z':(none:Option HO)=some u:=z;cases z') (fun b z=>absurd rfl z) fun z=>absurd rfl z
 | none =>
  refine core (fun b=>if b=a then some (.frz { cls:=.type "list",data:=.seq vs.toArray } (.lst (ns.map V.int)))else none) (fun b=>?_) (.inl (.inr ⟨{ cls:=.type "list",data:=.seq vs.toArray },if_pos rfl⟩)) (fun b u z=>?_) (fun b z=>?_) fun _=>hk
  ·by_cases hb:b=a
   ·exact .inr ⟨_,_,if_pos hb⟩
   ·exact .inl (if_neg hb)
  ·by_cases hb:b=a
   ·have z':=(if_pos hb).symm.trans z;cases z';subst hb;exact⟨ha,by rw[wc];exact hl,vs,_,rv,ha⟩
   ·have z':=(if_neg hb).symm.trans z;cases z'
  ·by_cases hb:b=a
   ·exact hb
   ·exact absurd (if_neg hb) z
end L2
namespace L2
open PySem PySem.Spec PyProof.Rows
end L2
namespace L2
open PySem PySem.Spec PyProof.Rows
def kam(s:Stmt):Arguments:=match s with
 | .FunctionDef _ a _ _ _ _ _ _ _ _=>a
 | _=>{ posonlyargs:=[],args:=[],vararg:=none,kwonlyargs:=[],kw_defaults:=[],kwarg:=none,defaults:=[] }
def kaj(s:Stmt):List Stmt:=match s with
 | .FunctionDef _ _ b _ _ _ _ _ _ _=>b
 | _=>[]
def kaa(s:Stmt):Scope:=match s with
 | .FunctionDef _ _ _ _ _ _ sc _ _ _=>sc
 | _=>{ kind:=.function,names:=[],isGenerator:=false,isCoroutine:=false }
abbrev CX0:CXT:=fun _ _ _ _ _ _=>False
abbrev E0:XK:=fun _ _ _=>False
theorem pass0{X:Cx}:Passes CX0 X E0:=fun _ _ _ _ _ _ _ h=>h.elim
structure Fun(K:PySem.W.Frag)(x qual:Str)(st:Stmt)(f:Addr)(fd:FuncData):Prop where
 ex:∃(oc:Value)(od:Option Addr)(kV doc pm:Value)(an:Option Addr)(cdv ct:Value)(osl:Array (Option Value)),
  fd=PySem.W.fnOf x qual (kam st) (kaj st) (kaa st) .none kV doc pm an cdv ct/\K.lookup f=some ⟨oc,od,.func fd,osl⟩/\PySem.W.codeIn K cdv qual=true
 kp:PySem.W.keepIn K (.ref f)=true
section
variable{P:Program}{w:World}{K:PySem.W.Frag}{mg:Str->Option Value}{base:Heap}
theorem Fun.ok{x qual:Str}{st:Stmt}{f:Addr}{fd:FuncData}{N ps:List Str}{k:Nat}{sp:Sp}(F:Fun K x qual st f fd)(S:kac N ps (kaa st))(len:∀ vs H Q E,sp vs H Q E->vs.length=ps.length)
  (hbody:∀(cdv:Value)(A:Around)(outer:List Env)(s:Shared)(H:Hp)(vs:List V)(Q:VK)(E:XK),Room k (A.deeper (envOfC qual (kaa st) s.heap.objs.size f cdv))->sp vs H Q E ->
   ∃ t,PSs (cxOf CX0 P w K mg base N qual (kaa st) f cdv A outer s H E).nox (kaj st) t/\t { nx:=fun _ H'=>Q .non H',rt:=Q } (start N vs) H):FnOk P w K mg base CX0 (k+1) f fd ps sp:=by
 obtain⟨oc,od,kV,doc,pm,an,cdv,ct,osl,rfl,lk,hcd⟩:=F.ex;refine zhX lk hcd S len fun A outer s H vs Q E hr hsp=>?_
 obtain⟨t,h,q⟩:=hbody cdv A outer s H vs Q E hr hsp;exact⟨t,h.nox,q⟩
theorem Fun.binds{x qual:Str}{st:Stmt}{f:Addr}{fd:FuncData}{ps:List Str}(F:Fun K x qual st f fd)
  (h:∀(kV doc pm:Value)(an:Option Addr)(cdv ct:Value)(us:List Value),us.length=ps.length->bindArgs (PySem.W.fnOf x qual (kam st) (kaj st) (kaa st) .none kV doc pm an cdv ct) ⟨us,[]⟩=pure (ps.zip us)):Binds K fd ps []:=by
 obtain⟨oc,od,kV,doc,pm,an,cdv,ct,osl,rfl,lk,hcd⟩:=F.ex;exact .all (h kV doc pm an cdv ct)
theorem zfw{x qual:Str}{st:Stmt}{f:Addr}{oc:Value}{od an:Option Addr}{osl:Array (Option Value)}{kV doc pm cdv ct:Value}(l:K.lookup f=some ⟨oc,od,.func (PySem.W.fnOf x qual (kam st) (kaj st) (kaa st) .none kV doc pm an cdv ct),osl⟩)
  (c:PySem.W.codeIn K cdv qual=true) (k:PySem.W.keepIn K (.ref f)=true):Fun K x qual st f (PySem.W.fnOf x qual (kam st) (kaj st) (kaa st) .none kV doc pm an cdv ct):=⟨⟨oc,od,kV,doc,pm,an,cdv,ct,osl,rfl,l,c⟩,k⟩
end
section
variable{X:Cx}
theorem pv (i:Nat) {x:Str} {pos:Pos} (hN:X.N[i]?=some x:=by rfl) (hv:Vis X.env.scope x:=by first|exact Or.inl rfl|exact Or.inr (Or.inl rfl) | exact Or.inr (Or.inr rfl)) (hd:(x ==("__debug__" : Str))=false:=by decide)
  (hcd:(x ==("__classdict__" : Str))=false:=by decide):PE X (.Name x pos) (tVar i):=zhE hN hv hd hcd
end
theorem iteF{A B:Prop}(h:B):if false=true then A else B:=by
 rw[if_neg wX];exact h
theorem iteT{A B:Prop}(h:A):if true=true then A else B:=by
 rw[if_pos rfl];exact h
theorem ite2{c A B:Prop}[Decidable c](h1:c->A)(h2:¬ c->B):if c then A else B:=by
 by_cases h:c
 ·rw[if_pos h];exact h1 h
 ·rw[if_neg h];exact h2 h
def Same(H H':Hp):Prop:=∀ b o,H b=some o->H' b=some o
theorem Same.refl(H:Hp):Same H H:=fun _ _ h=>h
theorem Same.trans{H H1 H2:Hp}(a:Same H H1)(b:Same H1 H2):Same H H2:=fun c o h=>b c o (a c o h)
end L2
namespace Nm
def primeB(n:Nat):Bool:=decide (1<n) && (wZ n).all fun d=>decide (d<2) || decide (n % d≠0)
structure PrS(k:Int):Prop where
 lo:1<k
 hi:k<99
 pr:primeB k.toNat=true
structure Pr(k:Int):Prop where
 lo:1<k
 hi:k<2305843009213693952
 cp:∀ r:Int,0<r->r<k->vd k r=1
def kab(k:Int):Prop:=k=0\/Pr k
def KindS(k:Int):Prop:=k=0\/PrS k
theorem kab.lt{k:Int}(h:kab k):0<=k/\k<2305843009213693952:=by
 rcases h with h|h
 ·omega
 ·have:=h.lo;have:=h.hi;omega
theorem JW:∀ k<99,primeB k=true->∀ r<k,0<r->GU k r=1:=by decide +kernel
theorem PrS.big{k:Int}(h:PrS k):Pr k:=by
 refine⟨h.lo,by have:=h.hi;omega,fun r h0 h1=>?_⟩;have:=JW k.toNat (by have:=h.hi;omega) h.pr r.toNat (by omega) (by omega);have e1:k.natAbs=k.toNat:=by omega
 have e2:r.natAbs=r.toNat:=by omega
 rw[gD,e1,e2];exact this
theorem KindS.ok{k:Int}(h:KindS k):kab k:=h.imp id PrS.big
theorem Pr.cop{k r:Int}(h:Pr k)(h0:0<r)(h1:r<k):vd k r=1:=h.cp r h0 h1
theorem zbH(a b:Int):vd b (a.fmod b)=vd a b:=by
 rw[waa,Int.gcd_sub_mul_left_right,wab]
theorem zbU(a:Int){b:Int}(hb:b≠0):(a.fmod b).natAbs<b.natAbs:=by
 rcases gi 0 b with h|h
 ·have h1:=wp a h;have h2:=wv a h;omega
 ·have hb':0 < -b:=by omega
  have h1:=wp (-a) hb';have h2:=wv (-a) hb';have e:(-a).fmod (-b) = -(a.fmod b):=by
   rw[Int.neg_fmod_neg]
  omega
end Nm
namespace Nm
structure OvInv(p r l g ml mg:Int):Prop where
 l0:0<=l
 l1:l<2305843009213693952
 g0:0<=g
 g1:g<2305843009213693952
 cop:vd l g=1
 left:p ∣ l - ml*r
 right:p ∣ g - mg*r
theorem zbA{p r:Int}(h:Pr p)(h0:0<r)(h1:r<p):OvInv p r p r 0 1:=by
 have:=h.lo;have:=h.hi;refine⟨by omega,by omega,by omega,by omega,h.cop h0 h1,?_,?_⟩
 ·rw[wac,Int.sub_zero];exact Int.dvd_refl p
 ·rw[wal,Int.sub_self];exact Int.dvd_zero p
theorem zda{p r l g ml mg:Int}(h:OvInv p r l g ml mg)(hg:g≠0):OvInv p r g (l - l / g*g) mg (ml - l / g*mg):=by
 have g0:=h.g0;have g1:=h.g1;have e:l - l / g*g=l % g:=by
  have:=uJ l g;rw[wad (l / g) g];omega
 have m0:=uU l hg;have m1:=uD l (show 0<g by omega);refine⟨g0,g1,by omega,by omega,?_,h.right,?_⟩
 ·rw[Int.gcd_sub_mul_right_right,wab];exact h.cop
 ·have e2:l - l / g*g - (ml - l / g*mg)*r =(l - ml*r) - l / g *(g - mg*r):=by grind
  rw[e2];exact GH h.left (uY h.right)
theorem zc4{l g:Int}(g0:0<=g)(hg:g≠0):(l - l / g*g).toNat<g.toNat:=by
 have e:l - l / g*g=l % g:=by
  have:=uJ l g;rw[wad (l / g) g];omega
 have m0:=uU l hg;have m1:=uD l (show 0<g by omega);omega
theorem zfc{p r l ml mg:Int}(h:OvInv p r l 0 ml mg)(hp:0<p):p ∣ ml % p*r - 1:=by
 have c:=h.cop;rw[Gu]at c;have e:l=1:=by have:=h.l0;omega
 have d:=h.left;rw[e]at d;have e1:ml % p*r - 1 = -(1 - ml*r) - p *(ml / p)*r:=by
  have:=uJ ml p
  grind
 rw[e1];exact GH (Int.dvd_neg.mpr d) (Int.dvd_mul_of_dvd_left (Int.dvd_mul_right p _))
def sg(t b:Int):Int:=if b<0 then -((vd t b:Nat):Int)else((vd t b:Nat):Int)
theorem zcm{t b:Int}(hb:b≠0):sg t b≠0:=by
 have:=uI t hb;unfold sg;split <;> omega
theorem zg2(t b:Int):(sg t b).natAbs=vd t b:=by
 unfold sg;split <;> omega
theorem qX(t b:Int):sg t b ∣ t:=by
 unfold sg;split
 ·exact wam.mpr (uL t b)
 ·exact uL t b
theorem Ze(t b:Int):sg t b ∣ b:=by
 unfold sg;split
 ·exact wam.mpr (gj t b)
 ·exact gj t b
theorem zc1{q:Rat}{t b:Int}(hb:b≠0)(h:q.num*b=t*q.den):vQ t b=q:=by
 rw[← uZ q];have hd:(q.den:Int)≠0:=by have:=q.den_nz;omega
 rw[gP hb hd];omega
theorem YO{t b:Int}(hb:b≠0):t.fdiv (sg t b) =(vQ t b).num/\b.fdiv (sg t b) =((vQ t b).den:Nat):=by
 have hs:=zcm (t:=t) hb;rw[vT (qX t b),vT (Ze t b)];have et:=uo (qX t b);have eb:=uo (Ze t b);have hpos:0<b / sg t b:=by
  have hne:b / sg t b≠0:=fun z=>by rw[z,wac]at eb;exact hb eb.symm
  have hg:=uI t hb
  rcases gi b 0 with h|h
  ·have e:sg t b = -((vd t b:Nat):Int):=by unfold sg;rw[if_pos h]
   have:0<=b / sg t b:=Int.ediv_nonneg_of_nonpos_of_nonpos (by omega) (by omega);omega
  ·have e:sg t b =((vd t b:Nat):Int):=by unfold sg;rw[if_neg (by omega)]
   have:0<=b / sg t b:=GQ (by omega) (by omega);omega
 have hcop:vd (t / sg t b) (b / sg t b)=1:=by
  rw[wae (qX t b) (Ze t b),zg2];exact waf (uI t hb)
 let q:Rat:=⟨t / sg t b,(b / sg t b).toNat,by omega,by
  show GU (t / sg t b).natAbs (b / sg t b).toNat=1;have:(b / sg t b).toNat =(b / sg t b).natAbs:=by omega
  rw[this];exact hcop⟩
 have hq:vQ t b=q:=zc1 hb (by
  show t / sg t b*b=t *(((b / sg t b).toNat:Nat):Int);have e:(((b / sg t b).toNat:Nat):Int)=b / sg t b:=by omega
  rw[e];have:t / sg t b*b=t / sg t b *(b / sg t b*sg t b):=by rw[eb]
  have:t *(b / sg t b)=t / sg t b*sg t b *(b / sg t b):=by rw[et]
  grind)
 rw[hq];refine⟨rfl,?_⟩;show b / sg t b =(((b / sg t b).toNat:Nat):Int);omega
theorem zei(x y:Rat):vQ (x.num*y.den+y.num*x.den) (x.den*y.den)=x+y:=by
 rw[Rat.add_def',← gQ];simp
theorem zaj(x y:Rat):vQ (x.num*y.den - y.num*x.den) (x.den*y.den)=x - y:=by
 rw[Rat.sub_def',← gQ];simp
theorem zaP(x y:Rat):vQ (x.num*y.num) (x.den*y.den)=x*y:=by
 rw[Rat.mul_def',← gQ];simp
theorem zgl(x y:Rat):vQ (x.num*y.den) (x.den*y.num)=x / y:=by
 rw[Rat.div_def,Rat.inv_def,← uZ x,Gj];simp[uZ]
end Nm
namespace L2
open PySem PySem.Spec PyProof.Rows
theorem ym:bootBuiltins "len" = some (.builtin "len"):=by decide +kernel
theorem zef:bootBuiltins "abs" = some (.builtin "abs"):=by decide +kernel
theorem xf:bootBuiltins "isinstance" = some (.builtin "isinstance"):=by decide +kernel
theorem zfu:bootBuiltins "sum" = some (.builtin "sum"):=by decide +kernel
theorem zfh:bootBuiltins "max" = some (.builtin "max"):=by decide +kernel
theorem zcz:bootBuiltins "sorted" = some (.builtin "sorted"):=by decide +kernel
theorem zah:bootBuiltins "int" = some (.type "int"):=by decide +kernel
theorem zf8:bootBuiltins "bool" = some (.type "bool"):=by decide +kernel
theorem qN:bootBuiltins "list" = some (.type "list"):=by decide +kernel
theorem zbw:bootBuiltins "tuple" = some (.type "tuple"):=by decide +kernel
theorem zhi:bootBuiltins "zip" = some (.type "zip"):=by decide +kernel
def Sm(n:Nat)(x:Int):Prop:=x.natAbs<2^n
theorem Sm.bits{n:Nat}{x:Int}(h:Sm n x):Builtin.Int.intBits x<=n:=by
 unfold Builtin.Int.intBits
 split
 ·exact vN _
 ·rename_i h0;have h0':x.natAbs≠0:=by
   intro z;have e:x=0:=by omega
   rw[e]at h0;exact h0 rfl
  have:=(Nat.log2_lt h0').mpr h;omega
theorem Sm.mulOk{m n:Nat}{a b:Int}(ha:Sm m a)(hb:Sm n b)(h:m+n<=134217728):IntMulOk a b:=IntMulOk.of_le ha.bits hb.bits h
theorem Sm.mono{m n:Nat}{x:Int}(h:Sm m x)(hmn:m<=n):Sm n x:=wO h (ue (by decide) hmn)
theorem Sm.mul{m n:Nat}{a b:Int}(ha:Sm m a)(hb:Sm n b):Sm (m+n) (a*b):=by
 unfold Sm;rw[vM,gm];exact GI ha hb
theorem Sm.add{n:Nat}{a b:Int}(ha:Sm n a)(hb:Sm n b):Sm (n+1) (a+b):=by
 unfold Sm at *;rw[Gv];have:=gL a b;omega
theorem Sm.sub{n:Nat}{a b:Int}(ha:Sm n a)(hb:Sm n b):Sm (n+1) (a - b):=by
 unfold Sm at *;rw[Gv];have:=Gy a b;omega
theorem Sm.neg{n:Nat}{a:Int}(ha:Sm n a):Sm n (-a):=by
 unfold Sm at *;rw[Int.natAbs_neg];exact ha
theorem Sm.le{n:Nat}{a b:Int}(ha:Sm n a)(h:b.natAbs<=a.natAbs):Sm n b:=gf h ha
section
variable{X:Cx}{a b c:Expr}{ta tb tc:TE}{pos:Pos}
theorem zL:OpR X (binaryOp .Mult) (rI IntMulOk fun i j=>.int (i*j)):=opI fun _ _ _ _ _ _ _ hc q=>mul_int q hc
def rIsi(K:PySem.W.Frag):List V->Hp->VK->Prop:=fun xs H Q=>∃ x n t b,xs=[x,.ty n]/\TyOf K H x t/\PySem.W.kitOne K t (.type n)=some b/\Q (.bl b) H
theorem zes:kaq X (.builtin "isinstance") (rIsi X.K):=by
 intro pins s σ H xs us Q I r h;obtain⟨x,n,t,b,rfl,ty,e,q⟩:=h;obtain⟨u,w',rfl,r1,r2⟩:=Vals.two r;cases r2;exact zcW I r1 ty e fun tk=>⟨.bl b,H,I.tok tk,rfl,q⟩
theorem zcj {x:Str} {n:String} (hg:Gl X x) (hm:X.mg x=none) (hv:bootBuiltins x=some (.type n)) (hn:x ≠ "__name__" := by decide) (hd:(x ==("__debug__" : Str))=false:=by decide):PE X (.Name x pos) (tC (.ty n)) :=
 zgg hg hm hv rfl hn hd
end
structure Kn(P:Program)(w:World)(K:PySem.W.Frag)(mg:Str->Option Value)(base:Heap)(x:Str)(k:Nat)(ps:List Str)(sp:Sp):Prop where
 ex:∃(f:Addr)(fd:FuncData),FnOk P w K mg base CX0 k f fd ps sp/\mg x=some (.ref f)/\PySem.W.keepIn K (.ref f)=true/\Binds K fd ps []
theorem zak{X:Cx}{x:Str}{k:Nat}{ps:List Str}{sp:Sp}{p pos:Pos}{e:Expr}{es:List Expr}{t:TA}(D:Kn X.prog X.w X.K X.mg X.base x k ps sp)(hr:Room k X.A)(hg:Gl X x)(ha:PA X (e::es) t)
  (hdb:(x ==("__debug__" : Str))=false:=by decide) (he:starEach (e::es) X.env =(false,eval e X.env)::starEach es X.env:=by rfl) (hpl:(backTo pos (starEach es X.env)).any (·.1)=false:=by rfl) :
  PE X (.Call (.Name x p) (e::es) [] pos) (tCall sp [] E0 t):=by
 obtain⟨f,fd,F,hm,hk,hb⟩:=D.ex;exact zgG F hr hg hm hk hb .nil pass0 ha hdb he hpl
structure Df(K:PySem.W.Frag)(mg:Str->Option Value)(x:Str)(ps:List Str)(st:Stmt):Prop where
 ex:∃(f:Addr)(fd:FuncData),Fun K x x st f fd/\mg x=some (.ref f)/\Binds K fd ps []
section
variable{P:Program}{w:World}{K:PySem.W.Frag}{mg:Str->Option Value}{base:Heap}
theorem Df.kn{x:Str}{st:Stmt}{N ps:List Str}{k:Nat}{sp:Sp}(D:Df K mg x ps st)(S:kac N ps (kaa st))(len:∀ vs H Q E,sp vs H Q E->vs.length=ps.length)
  (hbody:∀(f:Addr)(cdv:Value)(A:Around)(outer:List Env)(s:Shared)(H:Hp)(vs:List V)(Q:VK)(E:XK),Room k (A.deeper (envOfC x (kaa st) s.heap.objs.size f cdv))->sp vs H Q E ->
   ∃ t,PSs (cxOf CX0 P w K mg base N x (kaa st) f cdv A outer s H E).nox (kaj st) t/\t { nx:=fun _ H'=>Q .non H',rt:=Q } (start N vs) H):Kn P w K mg base x (k+1) ps sp:=by
 obtain⟨f,fd,F,hm,hb⟩:=D.ex;exact⟨f,fd,F.ok S len (fun cdv A outer s H vs Q E hr h=>hbody f cdv A outer s H vs Q E hr h),hm,F.kp,hb⟩
theorem zhW{x:Str}{ps:List Str}{st:Stmt}{h:Heap}{f:Addr}{oc:Value}{od an:Option Addr}{osl:Array (Option Value)}{kV doc pm cdv ct:Value}(X:K.In h)(G:h.Ns mainGlobals mg)
  (a:PySem.W.nsIn K mainGlobals x=some (some (.ref f)))
  (l:K.lookup f=some ⟨oc,od,.func (PySem.W.fnOf x x (kam st) (kaj st) (kaa st) .none kV doc pm an cdv ct),osl⟩)
  (c:PySem.W.codeIn K cdv x=true) (k:PySem.W.keepIn K (.ref f)=true)
  (hb:∀(kV doc pm:Value)(an:Option Addr)(cdv ct:Value)(us:List Value),us.length=ps.length->bindArgs (PySem.W.fnOf x x (kam st) (kaj st) (kaa st) .none kV doc pm an cdv ct) ⟨us,[]⟩=pure (ps.zip us)):Df K mg x ps st:=by
 have F:=zfw (st:=st) l c k;exact⟨f,_,F,PySem.W.mg_of X G a,F.binds hb⟩
end
theorem bind1{fd:FuncData}{ps:List Str}(h:∀ a0,bindArgs fd ⟨[a0],[]⟩=pure (ps.zip [a0]))(us:List Value)(e:us.length=1):bindArgs fd ⟨us,[]⟩=pure (ps.zip us):=by
 match us,e with | [a0],_=>exact h a0
theorem kao{fd:FuncData}{ps:List Str}(h:∀ a0 a1,bindArgs fd ⟨[a0,a1],[]⟩=pure (ps.zip [a0,a1]))(us:List Value)(e:us.length=2):bindArgs fd ⟨us,[]⟩=pure (ps.zip us):=by
 match us,e with | [a0,a1],_=>exact h a0 a1
theorem bind3{fd:FuncData}{ps:List Str}(h:∀ a0 a1 a2,bindArgs fd ⟨[a0,a1,a2],[]⟩=pure (ps.zip [a0,a1,a2]))(us:List Value)(e:us.length=3):bindArgs fd ⟨us,[]⟩=pure (ps.zip us):=by
 match us,e with | [a0,a1,a2],_=>exact h a0 a1 a2
theorem bind4{fd:FuncData}{ps:List Str}(h:∀ a0 a1 a2 a3,bindArgs fd ⟨[a0,a1,a2,a3],[]⟩=pure (ps.zip [a0,a1,a2,a3]))(us:List Value)(e:us.length=4):bindArgs fd ⟨us,[]⟩=pure (ps.zip us):=by
 match us,e with | [a0,a1,a2,a3],_=>exact h a0 a1 a2 a3
theorem bind6{fd:FuncData}{ps:List Str}(h:∀ a0 a1 a2 a3 a4 a5,bindArgs fd ⟨[a0,a1,a2,a3,a4,a5],[]⟩=pure (ps.zip [a0,a1,a2,a3,a4,a5]))(us:List Value)(e:us.length=6):bindArgs fd ⟨us,[]⟩=pure (ps.zip us):=by
 match us,e with | [a0,a1,a2,a3,a4,a5],_=>exact h a0 a1 a2 a3 a4 a5
def spLaw(K:PySem.W.Frag):Sp:=fun vs H Q _=>∃(a:Addr)(ns:List Int),vs=[.ref a]/\SqL K H a (ns.map V.int)/\ns.length<=63/\∀ H',Q (.bl true) H'
theorem zf{H:Hp}{p:Addr}(h:H p=none)(o:HO):Same H (upd H p o):=fun b u q=>by rw[zH (zT q h)];exact q
theorem zhx {K:PySem.W.Frag} {mg:Str->Option Value} {st:Stmt} {h:Heap} {f fa:Addr} {oc:Value} {od an:Option Addr} {osl:Array (Option Value)} {kV doc pm cdv ct:Value} (X:K.In h) (G:h.Ns mainGlobals mg) (hmg:mg "law" = some (.ref fa))
  (a:PySem.W.nsIn K mainGlobals "law" = some (some (.ref f)))
  (l:K.lookup f=some ⟨oc,od,.func (PySem.W.fnOf "law" "law" (kam st) (kaj st) (kaa st) .none kV doc pm an cdv ct),osl⟩)
  (c:PySem.W.codeIn K cdv "law" = true) (k:PySem.W.keepIn K (.ref f)=true)
  (hb:∀(kV doc pm:Value)(an:Option Addr)(cdv ct:Value)(v:Value),bindArgs (PySem.W.fnOf "law" "law" (kam st) (kaj st) (kaa st) .none kV doc pm an cdv ct) ⟨[v],[]⟩=pure [(("_law_script" : Str),v)]) :
  ∃ fd:FuncData,Fun K "law" "law" st fa fd/\∀(s:Shared)(v:Value),BindsTo s fd ⟨[v],[]⟩ [("_law_script",v)]:=by
 have e:=hmg.symm.trans (PySem.W.mg_of X G a);cases e;exact⟨_,zfw (st:=st) l c k,fun s v=>.of_eq (hb _ _ _ _ _ _ v)⟩
end L2
namespace L2
open PySem PySem.Spec PyProof.Rows
def fragFrom:Nat->List Obj->PySem.W.Frag
 | _,[]=>[]
 | i,o::r=>match o.data with
  | .freed=>fragFrom (i+1) r
  | _=>(i,o)::fragFrom (i+1) r
def fragH(h:Heap):PySem.W.Frag:=fragFrom 0 h.objs.toList
theorem Xv:∀(l:List Obj)(i a:Nat)(o:Obj),(fragFrom i l).lookup a=some o->∃ j,a=i+j/\l[j]?=some o/\(∀ c d sl,o≠⟨c,d,.freed,sl⟩)
 | [],i,a,o,h=>by cases h
 | p::r,i,a,o,h=>by
  unfold fragFrom at h;have go:(fragFrom (i+1) r).lookup a=some o->∃ j,a=i+j/\(p::r)[j]?=some o/\(∀ c d sl,o≠⟨c,d,.freed,sl⟩):=fun h=>by
   obtain⟨j,e,e',n⟩:=Xv r (i+1) a o h;exact⟨j+1,by omega,by simpa using e',n⟩
  split at h
  ·exact go h
  ·rename_i hf;rw[gR]at h
   split at h
   ·rename_i e;cases h;have e:a=i:=by simpa using e
    exact⟨0,by omega,by simp,fun c d sl e=>hf (by rw[e])⟩
   ·exact go h
theorem zep(h:Heap):(fragH h).In h:=fun a o e=>by
 obtain⟨j,rfl,e',n⟩:=Xv _ _ _ _ e;unfold Heap.get?;have e'':h.objs[0+j]?=some o:=by
  rw[vC]
  simpa using e'
 rw[e''];obtain⟨c,d,dt,sl⟩:=o;cases dt <;> first|rfl|exact absurd rfl (n _ _ _)
def fnSh(K:PySem.W.Frag)(x:Str):Option (FuncData×Bool×Bool):=match PySem.W.nsIn K mainGlobals x with
 | some (some (.ref f))=>(match K.lookup f with
  | some ⟨_,_,.func fd,_⟩=>some ({ fd with kwdefaults:=.none,doc:=.none,pyModule:=.none,annotations:=none,code:=.none,closureTuple:=.none },PySem.W.codeIn K fd.code x,PySem.W.keepIn K (.ref f))
  | _=>none)
 | _=>none
def fnEx(x:Str)(st:Stmt):Option (FuncData×Bool×Bool):=some (PySem.W.fnOf x x (kam st) (kaj st) (kaa st) .none .none .none .none none .none .none,true,true)
theorem zd4{K:PySem.W.Frag}{x:Str}{st:Stmt}(e:fnSh K x=fnEx x st):∃(f:Addr)(oc:Value)(od an:Option Addr)(osl:Array (Option Value))(kV doc pm cdv ct:Value),
  PySem.W.nsIn K mainGlobals x=some (some (.ref f))/\K.lookup f=some ⟨oc,od,.func (PySem.W.fnOf x x (kam st) (kaj st) (kaa st) .none kV doc pm an cdv ct),osl⟩ /\
  PySem.W.codeIn K cdv x=true/\PySem.W.keepIn K (.ref f)=true:=by
 unfold fnSh fnEx at e
 split at e
 ·rename_i f hf
  split at e
  ·rename_i oc od fd osl hl;obtain⟨nm,qn,pa,bo,sc,gl,cl,de,kd,dc,pm,an,co,ct,bi⟩:=fd;simp only[Option.some.injEq,Prod.mk.injEq,FuncData.mk.injEq]at e;obtain⟨⟨rfl,rfl,rfl,rfl,rfl,rfl,rfl,rfl,-,-,-,-,-,-,rfl⟩,e1,e2⟩:=e;exact⟨f,oc,od,an,osl,kd,dc,pm,co,ct,hf,hl,e1,e2⟩
  ·cases e
 ·cases e
def ctSh(K:PySem.W.Frag)(x:Str):Option Int:=match PySem.W.nsIn K mainGlobals x with
 | some (some (.int i _))=>some i
 | _=>none
section
variable{K:PySem.W.Frag}{mg:Str->Option Value}{h:Heap}
theorem ya{x:Str}{ps:List Str}{st:Stmt}(X:K.In h)(G:h.Ns mainGlobals mg)(e:fnSh K x=fnEx x st)
  (hb:∀(kV doc pm:Value)(an:Option Addr)(cdv ct:Value)(us:List Value),us.length=ps.length->bindArgs (PySem.W.fnOf x x (kam st) (kaj st) (kaa st) .none kV doc pm an cdv ct) ⟨us,[]⟩=pure (ps.zip us)):Df K mg x ps st:=by
 obtain⟨f,oc,od,an,osl,kV,doc,pm,cdv,ct,a,l,c,k⟩:=zd4 e;exact zhW X G a l c k hb
theorem zhC {st:Stmt} {fa:Addr} (X:K.In h) (G:h.Ns mainGlobals mg) (hmg:mg "law" = some (.ref fa)) (e:fnSh K "law" = fnEx "law" st)
  (hb:∀(kV doc pm:Value)(an:Option Addr)(cdv ct:Value)(v:Value),bindArgs (PySem.W.fnOf "law" "law" (kam st) (kaj st) (kaa st) .none kV doc pm an cdv ct) ⟨[v],[]⟩=pure [(("_law_script" : Str),v)]) :
  ∃ fd:FuncData,Fun K "law" "law" st fa fd/\∀(s:Shared)(v:Value),BindsTo s fd ⟨[v],[]⟩ [("_law_script",v)]:=by
 obtain⟨f,oc,od,an,osl,kV,doc,pm,cdv,ct,a,l,c,k⟩:=zd4 e;exact zhx X G hmg a l c k hb
end
def nth{α:Type}:List α->Nat->Option α
 | [],_=>none
 | a::_,0=>some a
 | _::r,n+1=>nth r n
theorem zx{α:Type}{l l':List α}(h:l=l')(n:Nat){a b:α}(x:nth l n=some a)(y:nth l' n=some b):a=b:=by
 subst h;exact Option.some.inj (x.symm.trans y)
def lawOnly(p:Program):Program:={ p with main:={ p.main with body:=p.main.body.filter fun st=>match st with
 | .FunctionDef n ..=>n ==("law" : Str)
 | _=>false } }
def looseOf (p:Program):List Str:=(p.main.scope.names.map (·.1)).filter fun n=>!(n ==("law" : Str))
def lawRec (p:Program):DefRec:=match PySem.W.defOf (lawOnly p) "law" with
 | some (d,_)=>d
 | none=>⟨"law",{ posonlyargs:=[],args:=[],vararg:=none,kwonlyargs:=[],kw_defaults:=[],kwarg:=none,defaults:=[] },[],{ kind:=.function,names:=[],isGenerator:=false,isCoroutine:=false },default⟩
def runT(p:Program)(N:Nat)(w:World)(os:OsState):Option Shared :=
 PySem.W.Fast.tw14082659384304107361 PySem.W.Fast.tw14364793385576792824 p w 11 (some (.ref 6)) N ⟨PySem.W.boot_heap w.params,#[],PySem.W.boot_drawn,PySem.W.boot_toks,os⟩ (PySem.W.topStub p)
def statT(p:Program)(w:World)(s₁:Shared):Bool:=PySem.W.staticsOk (importedModules p.main.body) (PySem.W.boot_heap w.params) s₁.heap && PySem.W.namesBound p s₁.heap && PySem.W.gensDone s₁ && PySem.W.laidKept (PySem.W.boot_heap w.params) s₁.heap
def seenT(p:Program)(s:Shared):=PySem.W.Fast.tw4187177175401517315 (lawOnly p) (looseOf p) (importedModules p.main.body) (fun _=>true) true s
structure Behind{β:Type}(p:Program)(N:Nat)(lk:PySem.W.Frag->β)(val:β):Prop where
 st:∀(w:World)(os:OsState),(runT p N w os).map (statT p w)=some true
 sn:∀(w:World)(os:OsState),(runT p N w os).map (seenT p)=some (PySem.W.openGood (lawOnly p) (looseOf p))
 lk:∀(w:World)(os:OsState),(runT p N w os).map (fun s=>lk (fragH s.heap))=some val
theorem zek (w:World):((PySem.W.boot_heap w.params).isNs mainGlobals && (#[]:Array GenState).size == 0)=true/\(PySem.W.boot_heap w.params).objs.size=11/\(PySem.W.boot_heap w.params).nsMap mainGlobals "__annotations__" = some (.ref 6):=by
 refine⟨?_,?_,?_⟩
 ·kernel_rfl
 ·kernel_rfl
 ·rw[PySem.W.Fast.te8920871248978507458];kernel_rfl
theorem zd3{β:Type}{p:Program}{N:Nat}{lk:PySem.W.Frag->β}{val:β}(e:PySem.W.opening p=PySem.W.plainProg p.main.scope.names)(hN:Nat.ble 600 N=true)(f:∀ s,fenceModules? p s=some s)
  (h:Behind p N lk val) :
  PySem.W.LeftO p (lawOnly p) (looseOf p) (fun _=>true) (fun s=>lk (fragH s.heap)) (fun _=>val) N:=fun w=>by
 obtain⟨⟨hp,gs,d,k,os⟩,e1,e2⟩:=vB.mp (PySem.W.boot_open e hN f w);obtain⟨rfl,rfl,rfl,rfl⟩ : hp=PySem.W.boot_heap w.params/\gs=#[]/\d=PySem.W.boot_drawn/\k=PySem.W.boot_toks:=by simpa using e2
 obtain⟨z1,z2,z3⟩:=zek w;have zs:=h.st w os;have zn:=h.sn w os;have zl:=h.lk w os;unfold seenT at zn;unfold runT at zs zn zl;rw[← PySem.W.Fast.te14082659384304107361,← PySem.W.Fast.te14364793385576792824]at zs zn zl;rw[← PySem.W.Fast.te4187177175401517315]at zn;obtain⟨s₁,er,es⟩:=vB.mp zs;rw[er]at zn zl;unfold statT at es;unfold PySem.W.openEnds;rw[e1];show(PySem.W.topFrom treeTable p w N _).map _=_;unfold PySem.W.topFrom
 dsimp only
 rw[z1,z2,z3,er];show((match PySem.W.staticsOk (importedModules p.main.body) (PySem.W.boot_heap w.params) s₁.heap && PySem.W.namesBound p s₁.heap && PySem.W.gensDone s₁ && PySem.W.laidKept (PySem.W.boot_heap w.params) s₁.heap with|true=>some s₁|false=>none).map _:Option _)=_;rw[es];exact congrArg some (Prod.ext (Option.some.inj zn) (Option.some.inj zl))
theorem zbR {β:Type} {l:PySem.W.OpenLaw} (k N:Nat) (lk:PySem.W.Frag->β) (val:β) (ws:PySem.W.Fast.tw9446332074065402090 l=true) (hl:l.name = "law") (hn:l.most=some 63) (hwr:l.writes=false)
  (e:PySem.W.opening l.prog=PySem.W.plainProg l.prog.main.scope.names) (hN:Nat.ble 600 N=true) (f:∀ s,fenceModules? l.prog s=some s)
  (h:Behind l.prog N lk val)
  (hd:PySem.W.defOf (lawOnly l.prog) "law" = some (lawRec l.prog,[])) (hp:l.prog.theDef "law" = some ((lawRec l.prog).params,(lawRec l.prog).body,(lawRec l.prog).scope))
  (hk:PySem.W.kwWritten? (lawRec l.prog).params.kwonlyargs (lawRec l.prog).params.kw_defaults=some []) (hdf:(lawRec l.prog).params.defaults=[]) (hnm:(lawRec l.prog).name = "law")
  (ok:(PySem.W.chainsOk (lawOnly l.prog) && PySem.W.opensWell l.prog && (PySem.W.frees l.row.toRowW && l.row.within.isEmpty))=true) (hb:l.prog.bare) (hw:l.row.toRowW.promised) (hi:PyProof.Rows.importsNone (lawOnly l.prog)=true) (hr:Room k callerA)
  (F:∀(w:World)(mg:Str->Option Value)(fa:Addr)(h:Heap)(K:PySem.W.Frag),K.In h->lk K=val->h.Ns mainGlobals mg->mg "law" = some (.ref fa) ->
   ∃ fd:FuncData,(∀(s:Shared)(u:Value),BindsTo s fd ⟨[u],[]⟩ [("_law_script",u)])/\∀ base:Heap,K.In base->base.Ns mainGlobals mg->base.NoSeer->FnOk l.prog w K mg base CX0 k fa fd ["_law_script"] (spLaw K)):l.Holds:=by
 rw[← PySem.W.Fast.te9446332074065402090]at ws;refine PySem.W.holds_law ws fun said=>?_
 have hl':l.row.toRowW.name = "law" := hl;refine PySem.W.holds_open (r:=l.row) (q:=lawOnly l.prog) (loose:=looseOf l.prog) (Xt:=fun _=>true) (XP:=fun _ _=>True) (Yf:=fun s=>lk (fragH s.heap)) (Ya:=fun _=>val)
  (YP:=fun _ h=>∃ K:PySem.W.Frag,K.In h/\lk K=val) (d:=lawRec l.prog) (kwd:=[]) (N:=N) (zd3 e hN f h) (fun w s e=>⟨_,zep _,e⟩) (fun w h h' y kp=>?_) (fun _ _=>True.intro) (fun _ _ _ _ _=>True.intro)
  (by rw[hl'];exact hd) (by rw[hl'];exact hp) hk (fun s _=>PySem.W.recFacts_of (R:=[]) rfl) ?_ said ok hb hw ?_
 ·obtain⟨K,i,q⟩:=y;exact⟨K,i.keeps kp,q⟩
 ·show(!l.writes || _)=true;rw[hwr];rfl
 ·refine Att.zar hn hdf fun w s₀ s₁ mg mb fa o pm cd doc a vs ns G Y ho hd hcd hmg hobj hints hlen hg=>?_
  obtain⟨K,KX,q⟩:=Y;rw[hnm]at hmg;obtain⟨fd,hb,hF⟩:=F w mg fa _ K KX q G.T.g hmg;exact zet KX G.T.g G.T.b G.T.builtins G.T.nolimit (G.T.seer hi) hg hobj hints (vp hlen (by decide)) hr hF hb (fun H hO hS=>⟨a,ns,rfl,hS,hlen,fun _=>rfl⟩) fun H e s' z=>z
end L2
namespace KL
open PySem PySem.Spec PyProof.Rows L2
abbrev Sh:List Str:=["one", "other"]
abbrev Si:List Str:=["top", "bottom"]
abbrev Sj:List Str:=["prime", "rest"]
abbrev Sk:List Str:=["kind", "whole"]
abbrev Sl:List Str:=["kind", "one", "other"]
abbrev Sn:List Str:=["_law_one", "_law_other"]
abbrev So:List Str:=["kind", "row"]
abbrev Sq:List Str:=["kind", "top", "bottom"]
abbrev Sr:List Str:=["kind", "width"]
abbrev Ss:List Str:=["kind", "size"]
abbrev Su:List Str:=["kind", "machine", "F"]
abbrev Sv:List Str:=["_law_top", "_law_bottom"]
abbrev Sw:List Str:=["_law_cell", "_law_k"]
abbrev Sx:List Str:=["_law_prime_here", "_law_cell"]
abbrev Sy:List Str:=["_law_prime_here", "_law_whole_here"]
abbrev Sz:List Str:=["_law_prime_here", "_law_one", "_law_other"]
abbrev SA:List Str:=["rows", "row"]
abbrev SB:List Str:=["rows"]
abbrev SC:List Str:=["kind", "table"]
abbrev SD:List Str:=["rows", "size"]
abbrev SE:List Str:=["_law_prime_here", "_law_cells", "_law_k"]
abbrev SF:List Str:=["_law_head", "_law_n", "_law_plain"]
abbrev SG:List Str:=["_law_row", "_law_column"]
abbrev SH:List Str:=["_law_prime_here", "_law_cells", "_law_sizes", "_law_sorts_here"]
abbrev SI:List Str:=["_law_prime_here", "_law_tables", "_law_cell"]
abbrev SJ:List Str:=["_law_cells", "_law_most"]
abbrev SK:List Str:=["_law_prime_here", "_law_cells", "_law_at_here", "_law_n"]
abbrev SL:List Str:=["_law_prime_here", "_law_found"]
abbrev SM:List Str:=["_law_prime_here", "_law_found", "_law_many"]
abbrev SN:List Str:=["_law_prime_here", "_law_found", "_law_rows", "_law_columns"]
abbrev SO:List Str:=["_law_prime_here", "_law_table", "_law_column"]
abbrev SQ:List Str:=["_law_machine_here"]
abbrev SR:List Str:=["_law_prime_here", "_law_rows"]
abbrev SS:List Str:=["_law_prime_here", "_law_table"]
abbrev ST:List Str:=["kind", "machine", "F", "L"]
abbrev SU:List Str:=["_law_prime_here", "_law_machine_here", "_law_rule", "_law_watcher", "_law_standing_here", "_law_guess"]
theorem SV:sizeLine=16777216:=by decide
set_option maxHeartbeats 4000000
def top(i:Nat):Stmt:=PySem.Challenge.pw_steermill_k62_whole_put_together.main.body.getD i (.Pass ⟨0,0,0,0⟩)
abbrev yO:Stmt:=top 1
theorem so:kac ["one", "other", "left", "right", "rest"] ["one", "other"] (kaa yO):=⟨rfl,rfl,rfl,by decide +kernel,rfl,by decide +kernel,by decide +kernel⟩
abbrev qB:Stmt:=top 2
theorem sZ:kac ["top", "bottom", "divisor"] ["top", "bottom"] (kaa qB):=⟨rfl,rfl,rfl,by decide +kernel,rfl,by decide +kernel,by decide +kernel⟩
abbrev qF:Stmt:=top 3
theorem Sb:kac ["prime", "rest", "left", "right", "many_left", "many_right", "whole", "less", "many_less"] ["prime", "rest"] (kaa qF):=⟨rfl,rfl,rfl,by decide +kernel,rfl,by decide +kernel,by decide +kernel⟩
abbrev YS:Stmt:=top 4
theorem zee:kac ["kind", "whole"] ["kind", "whole"] (kaa YS):=⟨rfl,rfl,rfl,by decide +kernel,rfl,by decide +kernel,by decide +kernel⟩
abbrev Qc:Stmt:=top 5
theorem ze8:kac ["kind", "one", "other"] ["kind", "one", "other"] (kaa Qc):=⟨rfl,rfl,rfl,by decide +kernel,rfl,by decide +kernel,by decide +kernel⟩
abbrev zbB:Stmt:=top 6
theorem zgF:kac ["kind", "one", "other"] ["kind", "one", "other"] (kaa zbB):=⟨rfl,rfl,rfl,by decide +kernel,rfl,by decide +kernel,by decide +kernel⟩
abbrev YQ:Stmt:=top 8
theorem Sd:kac ["kind", "row", "bottom", "part"] ["kind", "row"] (kaa YQ):=⟨rfl,rfl,rfl,by decide +kernel,rfl,by decide +kernel,by decide +kernel⟩
abbrev qA:Stmt:=top 9
theorem zax:kac ["kind", "top", "bottom"] ["kind", "top", "bottom"] (kaa qA):=⟨rfl,rfl,rfl,by decide +kernel,rfl,by decide +kernel,by decide +kernel⟩
abbrev xU:Stmt:=top 10
theorem Yi:kac ["one", "other"] ["one", "other"] (kaa xU):=⟨rfl,rfl,rfl,by decide +kernel,rfl,by decide +kernel,by decide +kernel⟩
abbrev xN:Stmt:=top 11
theorem XD:kac ["rows", "row"] ["rows", "row"] (kaa xN):=⟨rfl,rfl,rfl,by decide +kernel,rfl,by decide +kernel,by decide +kernel⟩
abbrev yF:Stmt:=top 12
theorem Zg:kac ["kind", "one", "other"] ["kind", "one", "other"] (kaa yF):=⟨rfl,rfl,rfl,by decide +kernel,rfl,by decide +kernel,by decide +kernel⟩
abbrev Zq:Stmt:=top 14
theorem zb2:kac ["kind", "width"] ["kind", "width"] (kaa Zq):=⟨rfl,rfl,rfl,by decide +kernel,rfl,by decide +kernel,by decide +kernel⟩
abbrev jh:Stmt:=top 15
theorem Jd:kac ["kind", "one", "other"] ["kind", "one", "other"] (kaa jh):=⟨rfl,rfl,rfl,by decide +kernel,rfl,by decide +kernel,by decide +kernel⟩
abbrev qC:Stmt:=top 16
theorem zaK:kac ["kind", "table"] ["kind", "table"] (kaa qC):=⟨rfl,rfl,rfl,by decide +kernel,rfl,by decide +kernel,by decide +kernel⟩
abbrev Zb:Stmt:=top 17
theorem zbM:kac ["one", "other"] ["one", "other"] (kaa Zb):=⟨rfl,rfl,rfl,by decide +kernel,rfl,by decide +kernel,by decide +kernel⟩
abbrev YI:Stmt:=top 18
theorem Se:kac ["rows", "told", "row"] ["rows"] (kaa YI):=⟨rfl,rfl,rfl,by decide +kernel,rfl,by decide +kernel,by decide +kernel⟩
abbrev Yz:Stmt:=top 19
theorem zdd:kac ["table"] ["table"] (kaa Yz):=⟨rfl,rfl,rfl,by decide +kernel,rfl,by decide +kernel,by decide +kernel⟩
abbrev Zz:Stmt:=top 20
theorem Sc:kac ["kind", "one", "other", "columns", "told", "row", "left"] ["kind", "one", "other"] (kaa Zz):=⟨rfl,rfl,rfl,by decide +kernel,rfl,by decide +kernel,by decide +kernel⟩
abbrev zbm:Stmt:=top 21
theorem zf2:kac ["kind", "size"] ["kind", "size"] (kaa zbm):=⟨rfl,rfl,rfl,by decide +kernel,rfl,by decide +kernel,by decide +kernel⟩
abbrev yJ:Stmt:=top 22
theorem sh:kac ["kind", "table", "width", "pair"] ["kind", "table"] (kaa yJ):=⟨rfl,rfl,rfl,by decide +kernel,rfl,by decide +kernel,by decide +kernel⟩
abbrev qU:Stmt:=top 24
theorem zbX:kac ["machine"] ["machine"] (kaa qU):=⟨rfl,rfl,rfl,by decide +kernel,rfl,by decide +kernel,by decide +kernel⟩
abbrev yR:Stmt:=top 26
theorem sk:kac ["rows", "size", "inner", "below", "beside", "told", "step"] ["rows", "size"] (kaa yR):=⟨rfl,rfl,rfl,by decide +kernel,rfl,by decide +kernel,by decide +kernel⟩
abbrev xR:Stmt:=top 27
theorem sL:kac ["rows", "told", "size", "backward"] ["rows"] (kaa xR):=⟨rfl,rfl,rfl,by decide +kernel,rfl,by decide +kernel,by decide +kernel⟩
abbrev Jt:Stmt:=top 28
theorem Sf:kac ["kind", "table", "pair", "told", "bottom", "whole"] ["kind", "table"] (kaa Jt):=⟨rfl,rfl,rfl,by decide +kernel,rfl,by decide +kernel,by decide +kernel⟩
abbrev Jr:Stmt:=top 30
theorem zeM:kac ["kind", "machine", "F"] ["kind", "machine", "F"] (kaa Jr):=⟨rfl,rfl,rfl,by decide +kernel,rfl,by decide +kernel,by decide +kernel⟩
abbrev xD:Stmt:=top 32
theorem sH:kac ["kind", "machine", "F", "L", "by_guess", "missed", "inner", "below"] ["kind", "machine", "F", "L"] (kaa xD):=⟨rfl,rfl,rfl,by decide +kernel,rfl,by decide +kernel,by decide +kernel⟩
abbrev jj:Stmt:=top 34
theorem JI:kac ["_law_found"] ["_law_found"] (kaa jj):=⟨rfl,rfl,rfl,by decide +kernel,rfl,by decide +kernel,by decide +kernel⟩
abbrev xv:Stmt:=top 35
theorem sJ:kac ["_law_one", "_law_other"] ["_law_one", "_law_other"] (kaa xv):=⟨rfl,rfl,rfl,by decide +kernel,rfl,by decide +kernel,by decide +kernel⟩
abbrev jm:Stmt:=top 36
theorem sR:kac ["_law_cell", "_law_k", "_law_left", "_law_j", "_law_one"] ["_law_cell", "_law_k"] (kaa jm):=⟨rfl,rfl,rfl,by decide +kernel,rfl,by decide +kernel,by decide +kernel⟩
abbrev jr:Stmt:=top 37
theorem Jc:kac ["_law_prime_here", "_law_cell"] ["_law_prime_here", "_law_cell"] (kaa jr):=⟨rfl,rfl,rfl,by decide +kernel,rfl,by decide +kernel,by decide +kernel⟩
abbrev xn:Stmt:=top 38
theorem sE:kac ["_law_top", "_law_bottom", "_law_by"] ["_law_top", "_law_bottom"] (kaa xn):=⟨rfl,rfl,rfl,by decide +kernel,rfl,by decide +kernel,by decide +kernel⟩
abbrev jQ:Stmt:=top 39
theorem QB:kac ["_law_prime_here", "_law_whole_here"] ["_law_prime_here", "_law_whole_here"] (kaa jQ):=⟨rfl,rfl,rfl,by decide +kernel,rfl,by decide +kernel,by decide +kernel⟩
abbrev jR:Stmt:=top 40
theorem QP:kac ["_law_prime_here", "_law_one", "_law_other"] ["_law_prime_here", "_law_one", "_law_other"] (kaa jR):=⟨rfl,rfl,rfl,by decide +kernel,rfl,by decide +kernel,by decide +kernel⟩
abbrev ja:Stmt:=top 41
theorem JQ:kac ["_law_prime_here", "_law_one", "_law_other"] ["_law_prime_here", "_law_one", "_law_other"] (kaa ja):=⟨rfl,rfl,rfl,by decide +kernel,rfl,by decide +kernel,by decide +kernel⟩
abbrev je:Stmt:=top 42
theorem Jj:kac ["_law_prime_here", "_law_one", "_law_other"] ["_law_prime_here", "_law_one", "_law_other"] (kaa je):=⟨rfl,rfl,rfl,by decide +kernel,rfl,by decide +kernel,by decide +kernel⟩
abbrev yQ:Stmt:=top 43
theorem ZK:kac ["_law_prime_here", "_law_found"] ["_law_prime_here", "_law_found"] (kaa yQ):=⟨rfl,rfl,rfl,by decide +kernel,rfl,by decide +kernel,by decide +kernel⟩
abbrev jn:Stmt:=top 44
theorem sQ:kac ["_law_prime_here", "_law_table", "_law_column", "_law_told", "_law_row", "_law_one", "_law_j"] ["_law_prime_here", "_law_table", "_law_column"] (kaa jn):=⟨rfl,rfl,rfl,by decide +kernel,rfl,by decide +kernel,by decide +kernel⟩
abbrev xP:Stmt:=top 45
theorem XB:kac ["_law_table"] ["_law_table"] (kaa xP):=⟨rfl,rfl,rfl,by decide +kernel,rfl,by decide +kernel,by decide +kernel⟩
abbrev xx:Stmt:=top 46
theorem Xn:kac ["_law_prime_here", "_law_one", "_law_other"] ["_law_prime_here", "_law_one", "_law_other"] (kaa xx):=⟨rfl,rfl,rfl,by decide +kernel,rfl,by decide +kernel,by decide +kernel⟩
abbrev xQ:Stmt:=top 47
theorem sO:kac ["_law_prime_here", "_law_found", "_law_many", "_law_one"] ["_law_prime_here", "_law_found", "_law_many"] (kaa xQ):=⟨rfl,rfl,rfl,by decide +kernel,rfl,by decide +kernel,by decide +kernel⟩
abbrev xB:Stmt:=top 48
theorem YV:kac ["_law_prime_here", "_law_found", "_law_rows", "_law_columns"] ["_law_prime_here", "_law_found", "_law_rows", "_law_columns"] (kaa xB):=⟨rfl,rfl,rfl,by decide +kernel,rfl,by decide +kernel,by decide +kernel⟩
abbrev yY:Stmt:=top 51
theorem sU:kac ["_law_cell", "_law_primes"] ["_law_cell"] (kaa yY):=⟨rfl,rfl,rfl,by decide +kernel,rfl,by decide +kernel,by decide +kernel⟩
abbrev Zy:Stmt:=top 52
theorem zbO:kac ["_law_prime_here", "_law_cells", "_law_k"] ["_law_prime_here", "_law_cells", "_law_k"] (kaa Zy):=⟨rfl,rfl,rfl,by decide +kernel,rfl,by decide +kernel,by decide +kernel⟩
abbrev jb:Stmt:=top 53
theorem sS:kac ["_law_prime_here", "_law_cells", "_law_k", "_law_one"] ["_law_prime_here", "_law_cells", "_law_k"] (kaa jb):=⟨rfl,rfl,rfl,by decide +kernel,rfl,by decide +kernel,by decide +kernel⟩
abbrev jf:Stmt:=top 54
theorem JB:kac ["_law_head", "_law_n", "_law_plain"] ["_law_head", "_law_n", "_law_plain"] (kaa jf):=⟨rfl,rfl,rfl,by decide +kernel,rfl,by decide +kernel,by decide +kernel⟩
abbrev jH:Stmt:=top 55
theorem QE:kac ["_law_row", "_law_column"] ["_law_row", "_law_column"] (kaa jH):=⟨rfl,rfl,rfl,by decide +kernel,rfl,by decide +kernel,by decide +kernel⟩
abbrev xy:Stmt:=top 56
theorem sF:kac ["_law_prime_here", "_law_cells", "_law_sizes", "_law_sorts_here", "_law_n", "_law_m", "_law_q", "_law_nought", "_law_tables", "_law_at_here", "_law_rows", "_law_columns", "_law_told", "_law_i", "_law_j", "_law_row"] ["_law_prime_here", "_law_cells", "_law_sizes", "_law_sorts_here"] (kaa xy):=⟨rfl,rfl,rfl,by decide +kernel,rfl,by decide +kernel,by decide +kernel⟩
abbrev yP:Stmt:=top 57
theorem sD:kac ["_law_prime_here", "_law_tables", "_law_cell", "_law_n", "_law_i", "_law_j", "_law_c", "_law_table", "_law_hands", "_law_sights", "_law_some", "_law_row"] ["_law_prime_here", "_law_tables", "_law_cell"] (kaa yP):=⟨rfl,rfl,rfl,by decide +kernel,rfl,by decide +kernel,by decide +kernel⟩
abbrev xC:Stmt:=top 58
theorem sK:kac ["_law_cells", "_law_most", "_law_head", "_law_prime_here", "_law_sizes", "_law_plain", "_law_tables", "_law_at_here", "_law_k"] ["_law_cells", "_law_most"] (kaa xC):=⟨rfl,rfl,rfl,by decide +kernel,rfl,by decide +kernel,by decide +kernel⟩
abbrev jL:Stmt:=top 59
theorem QQ:kac ["_law_machine_here"] ["_law_machine_here"] (kaa jL):=⟨rfl,rfl,rfl,by decide +kernel,rfl,by decide +kernel,by decide +kernel⟩
abbrev yS:Stmt:=top 60
theorem sC:kac ["_law_prime_here", "_law_one", "_law_other", "_law_told", "_law_k", "_law_sum_here"] ["_law_prime_here", "_law_one", "_law_other"] (kaa yS):=⟨rfl,rfl,rfl,by decide +kernel,rfl,by decide +kernel,by decide +kernel⟩
abbrev yI:Stmt:=top 61
theorem se:kac ["_law_prime_here", "_law_one", "_law_other", "_law_told", "_law_i", "_law_j"] ["_law_prime_here", "_law_one", "_law_other"] (kaa yI):=⟨rfl,rfl,rfl,by decide +kernel,rfl,by decide +kernel,by decide +kernel⟩
abbrev jz:Stmt:=top 62
theorem Sa:kac ["_law_prime_here", "_law_rows", "_law_told", "_law_j", "_law_part"] ["_law_prime_here", "_law_rows"] (kaa jz):=⟨rfl,rfl,rfl,by decide +kernel,rfl,by decide +kernel,by decide +kernel⟩
abbrev ji:Stmt:=top 63
theorem sX:kac ["_law_prime_here", "_law_table", "_law_rows", "_law_i", "_law_row", "_law_j", "_law_one"] ["_law_prime_here", "_law_table"] (kaa ji):=⟨rfl,rfl,rfl,by decide +kernel,rfl,by decide +kernel,by decide +kernel⟩
abbrev xc:Stmt:=top 64
theorem Yt:kac ["_law_prime_here", "_law_cells", "_law_at_here", "_law_n"] ["_law_prime_here", "_law_cells", "_law_at_here", "_law_n"] (kaa xc):=⟨rfl,rfl,rfl,by decide +kernel,rfl,by decide +kernel,by decide +kernel⟩
abbrev qI:Stmt:=top 65
theorem zap:kac ["_law_prime_here", "_law_one", "_law_other"] ["_law_prime_here", "_law_one", "_law_other"] (kaa qI):=⟨rfl,rfl,rfl,by decide +kernel,rfl,by decide +kernel,by decide +kernel⟩
abbrev yT:Stmt:=top 66
theorem ZR:kac ["_law_prime_here", "_law_one", "_law_other"] ["_law_prime_here", "_law_one", "_law_other"] (kaa yT):=⟨rfl,rfl,rfl,by decide +kernel,rfl,by decide +kernel,by decide +kernel⟩
abbrev jJ:Stmt:=top 67
theorem sY:kac ["_law_prime_here", "_law_machine_here", "_law_rule", "_law_watcher", "_law_standing_here", "_law_guess", "_law_put", "_law_told", "_law_seen", "_law_x", "_law_y", "_law_there"] ["_law_prime_here", "_law_machine_here", "_law_rule", "_law_watcher", "_law_standing_here", "_law_guess"] (kaa jJ):=⟨rfl,rfl,rfl,by decide +kernel,rfl,by decide +kernel,by decide +kernel⟩
abbrev zeU:Stmt:=top 68
theorem Sg:kac ["_law_script", "_law_cells", "_law_prime_here", "_law_machine_here", "_law_at_here", "_law_n", "_law_m", "_law_q", "_law_rule", "_law_watcher", "_law_handed", "_law_table", "_law_k", "_law_both", "_law_one", "_law_other"] ["_law_script"] (kaa zeU):=⟨rfl,rfl,rfl,by decide +kernel,rfl,by decide +kernel,by decide +kernel⟩
end KL
namespace KL
open PySem PySem.Spec PyProof.Rows L2
abbrev hx(x:Str)(s:Stmt):Str×Stmt:=(x,s)
def hdX:List (Str×Stmt):=[hx "common_divisor" yO,hx "fraction" qB,hx "one_over" qF,hx "number" YS,hx "minus" Qc,hx "over" zbB,hx "scaled" YQ,hx "quotient" qA,hx "whole_sum" xU,hx "whole_image" xN,hx "sum_of_products" yF,hx "noughts" Zq,hx "difference" jh,hx "negative" qC,hx "abreast" Zb,hx "strung" YI,hx "turned" Yz,hx "product" Zz,hx "unit" zbm,hx "over_one_bottom" yJ,hx "leading" qU,hx "border_factors" yR,hx "whole_great" xR,hx "great" Jt,hx "ruled" Jr,hx "put_together" xD,hx "_law_whole" jj,hx "_law_divisor" xv,hx "_law_mixed" jm,hx "_law_drawn" jr,hx "_law_fraction" xn,hx "_law_make" jQ,hx "_law_plus" jR,hx "_law_times" ja,hx "_law_minus" je,hx "_law_is_number" yQ,hx "_law_image" jn,hx "_law_across" xP,hx "_law_product" xx,hx "_law_is_row" xQ,hx "_law_is_rows" xB,hx "_law_prime" yY,hx "_law_at" Zy,hx "_law_small" jb,hx "_law_sorts" jf,hx "_law_lets" jH,hx "_law_blocked" xy,hx "_law_exchanged" yP,hx "_law_machine" xC,hx "_law_copy" jL,hx "_law_poly_plus" yS,hx "_law_poly_times" yI,hx "_law_det" jz,hx "_law_great" ji,hx "_law_standing" xc,hx "_law_sum" qI,hx "_law_table_sum" yT,hx "_law_goes" jJ,hx "law" zeU]
def hdY:List Str:=["abs", "all", "bool", "int", "isinstance", "len", "list", "max", "range", "reversed", "sorted", "sum", "tuple", "zip"]
def hdZ:List Str:=[]
def hdC:List Str:=[]
def lk(K:PySem.W.Frag):List (Option (FuncData×Bool×Bool))×List (Option (Option Value))×List (Option Addr)×List (Option Int):=(hdX.map fun x=>fnSh K x.1,hdY.map (PySem.W.nsIn K mainGlobals),hdZ.map (fun _=>none),hdC.map (ctSh K))
def lv:List (Option (FuncData×Bool×Bool))×List (Option (Option Value))×List (Option Addr)×List (Option Int):=(hdX.map fun x=>fnEx x.1 x.2,hdY.map fun _=>some none,hdZ.map fun _=>none,[])
theorem h_ws:PySem.W.Fast.tw9446332074065402090 PySem.Challenge.rw_steermill_k62_whole_put_together=true:=by kernel_rfl
theorem h_st(w:World)(os:OsState):(runT PySem.Challenge.rw_steermill_k62_whole_put_together.prog 3200 w os).map (statT PySem.Challenge.rw_steermill_k62_whole_put_together.prog w)=some true:=by kernel_rfl
theorem h_sn(w:World)(os:OsState):(runT PySem.Challenge.rw_steermill_k62_whole_put_together.prog 3200 w os).map (seenT PySem.Challenge.rw_steermill_k62_whole_put_together.prog)=some (PySem.W.openGood (lawOnly PySem.Challenge.rw_steermill_k62_whole_put_together.prog) (looseOf PySem.Challenge.rw_steermill_k62_whole_put_together.prog)):=by kernel_rfl
theorem h_lk(w:World)(os:OsState):(runT PySem.Challenge.rw_steermill_k62_whole_put_together.prog 3200 w os).map (fun s=>lk (fragH s.heap))=some lv:=by kernel_rfl
end KL
namespace Nm
inductive Nb where
 | q (r:Rat)
 | z (i:Int)
 deriving DecidableEq
abbrev TB:=List (List Nb)
def Nb.ok(k:Int):Nb->Prop
 | .q _=>k=0
 | .z i=>k≠0/\0<=i/\i<k
def zinv(k b:Int):Int:=(((wZ k.toNat).find? fun(x:Nat)=>decide (k ∣ (x:Int)*b - 1)).getD 0:Nat)
theorem zch{k b x y:Int}(hx0:0<=x)(hx:x<k)(hy0:0<=y)(hy:y<k)(h1:k ∣ x*b - 1)(h2:k ∣ y*b - 1):x=y:=by
 have h:k ∣ x - y:=by
  have e:x - y=y *(x*b - 1) - x *(y*b - 1):=by grind
  rw[e];exact GH (uY h1) (uY h2)
 obtain⟨c,hc⟩:=h
 rcases gi c 0 with h|h
 ·have:k*c<=k *(-1):=gu (by omega) (by omega);omega
 ·rcases gi 0 c with h'|h'
  ·have:k*1<=k*c:=gu (by omega) (by omega);omega
  ·have:c=0:=by omega
   rw[this,wag]at hc;omega
theorem zdk{k b x:Int}(h0:0<=x)(h1:x<k)(h:k ∣ x*b - 1):zinv k b=x:=by
 unfold zinv;cases e:(wZ k.toNat).find? fun(x:Nat)=>decide (k ∣ (x:Int)*b - 1)with
 | none =>
  rw[List.find?_eq_none]at e;have:=e x.toNat (by rw[vI];omega);rw[show((x.toNat:Nat):Int)=x by omega]at this;simp[h]at this
 | some y =>
  have hm:=List.mem_of_find?_eq_some e;rw[vI]at hm;have hp:=List.find?_some e;have hp':k ∣ (y:Int)*b - 1:=by simpa using hp
  show((y:Nat):Int)=x;exact zch (ur y) (by omega) h0 h1 hp' h
theorem zfx{p r:Int}(hp:0<p):∀(n:Nat)(l g ml mg:Int),g.toNat<n->OvInv p r l g ml mg->∃ x,0<=x/\x<p/\p ∣ x*r - 1
 | 0,_,_,_,_,h,_=>absurd h (uF _)
 | n+1,l,g,ml,mg,h,I=>by
  by_cases z:g=0
  ·subst z;exact⟨ml % p,uU _ (by omega),uD _ hp,zfc I hp⟩
  ·exact zfx hp n _ _ _ _ (wO (zc4 I.g0 z) (by omega)) (zda I z)
theorem XR{k b:Int}(h:Pr k)(h0:0<b)(h1:b<k):∃ x,0<=x/\x<k/\k ∣ x*b - 1 :=
 zfx (by have:=h.lo;omega) _ _ _ _ _ (uM _) (zbA h h0 h1)
def nnum(k w:Int):Nb:=if k=0 then .q (w:Rat)else .z (w.fmod k)
def nadd(k:Int):Nb->Nb->Nb
 | .q a,.q b=>.q (a+b)
 | .z a,.z b=>.z ((a+b).fmod k)
 | _,_=>.z 0
def nsub(k:Int):Nb->Nb->Nb
 | .q a,.q b=>.q (a - b)
 | .z a,.z b=>.z ((a - b).fmod k)
 | _,_=>.z 0
def nmul(k:Int):Nb->Nb->Nb
 | .q a,.q b=>.q (a*b)
 | .z a,.z b=>.z ((a*b).fmod k)
 | _,_=>.z 0
def ndiv(k:Int):Nb->Nb->Nb
 | .q a,.q b=>.q (a / b)
 | .z a,.z b=>.z ((a*zinv k b).fmod k)
 | _,_=>.z 0
theorem QG(k a:Int):k ∣ a.fmod k - a:=by
 rw[waa];refine⟨-(a.fdiv k),?_⟩
 grind
theorem xV(r:Rat):(r.den:Int)≠0:=by have:=r.den_nz;omega
theorem den_pos(r:Rat):0 <(r.den:Int):=by have:=r.den_pos;omega
theorem zhm{r:Rat}(h:r≠0):r.num≠0:=fun z=>h (Rat.num_eq_zero.mp z)
end Nm
namespace L2
open PySem PySem.Spec PyProof.Rows
def kan(cells:List (Str×Addr)):List (Str×NameKind)->List (Str×Addr)->List (Str×Addr)
 | [],acc=>acc
 | (n,k)::r,acc=>if (k == NameKind.free)=true then kan cells r ((n,(cells.lookup n).getD 0)::acc)else kan cells r acc
theorem Yd{env:Env}(f:Str×NameKind->List (Str×Addr)->Sem (ForInStep (List (Str×Addr))))
  (hf:∀ name kind cs,f (name,kind) cs=if (kind == NameKind.free)=true then(do let a ← cellOf env name;pure (.yield ((name,a)::cs)))else pure (.yield cs)) :
  ∀(l:List (Str×NameKind))(acc:List (Str×Addr)),(∀ x∈l,x.2=.free->∃ c,env.cells.lookup x.1=some c)->(forIn l acc f:Sem _)=pure (kan env.cells l acc)
 | [],acc,_=>by rw[List.forIn_nil];rfl
 | (n,k)::r,acc,h=>by
  rw[List.forIn_cons,hf];have hr:∀ x∈r,x.2=.free->∃ c,env.cells.lookup x.1=some c:=fun x hx=>h x (wD _ hx)
  by_cases hk:(k == NameKind.free)=true
  ·obtain⟨c,hc⟩:=h (n,k) wq (by simpa using hk);rw[if_pos hk];have e:cellOf env n=pure c:=by unfold cellOf;rw[hc]
   rw[e];show(forIn r ((n,c)::acc) f:Sem _)=_;rw[Yd f hf r _ hr]
   conv=>rhs;unfold kan
   rw[if_pos hk,hc]
   rfl
  ·rw[if_neg hk];show(forIn r acc f:Sem _)=_;rw[Yd f hf r _ hr]
   conv=>rhs;unfold kan
   rw[if_neg hk]
theorem Jv{scope:Scope}{env:Env}(h:∀ x∈scope.names,x.2=.free->∃ c,env.cells.lookup x.1=some c):closureFor scope env=pure (kan env.cells scope.names []):=by
 simp only[closureFor];rw[Yd (env:=env) _ (fun name kind cs=>by cases hk:kind == NameKind.free <;> simp[hk]) scope.names [] h]
 rfl
theorem Yg{cells:List (Str×Addr)}:∀ {l:List (Str×NameKind)} {acc:List (Str×Addr)} {n:Str} {c:Addr},(∀ x∈l,x.2=.free->∃ c,cells.lookup x.1=some c)->(n,c)∈kan cells l acc ->
  (n,c)∈acc\/((n,NameKind.free)∈l/\cells.lookup n=some c)
 | [],acc,n,c,_,h=>.inl h
 | (m,k)::r,acc,n,c,hl,h=>by
  have hr:∀ x∈r,x.2=.free->∃ c,cells.lookup x.1=some c:=fun x hx=>hl x (wD _ hx)
  unfold kan at h
  by_cases hk:(k == NameKind.free)=true
  ·rw[if_pos hk]at h;have hk':k=.free:=by simpa using hk
   subst hk';obtain⟨c',hc'⟩:=hl (m,.free) wq rfl
   rcases Yg hr h with h|⟨h1,h2⟩
   ·rcases wy.mp h with e|h
    ·have hc2:cells.lookup m=some c':=hc';rw[hc2]at e;cases e;exact .inr ⟨wq,hc'⟩
    ·exact .inl h
   ·exact .inr ⟨wD _ h1,h2⟩
  ·rw[if_neg hk]at h
   rcases Yg hr h with h|⟨h1,h2⟩
   ·exact .inl h
   ·exact .inr ⟨wD _ h1,h2⟩
theorem xg{α:Type}:∀ {l:List (Str×α)} {n:Str},(∃ c,(n,c)∈l)->∃ c,l.lookup n=some c
 | [],n,⟨c,h⟩=>nomatch h
 | (m,v)::r,n,⟨c,h⟩=>by
  rw[gR];cases hb:n == m with
  | true=>exact⟨v,rfl⟩
  | false =>
   rcases wy.mp h with e|h
   ·cases e;simp at hb
   ·exact xg ⟨c,h⟩
theorem ZA{cells:List (Str×Addr)}:∀ {l:List (Str×NameKind)} {acc:List (Str×Addr)} {p:Str×Addr},p∈acc->p∈kan cells l acc
 | [],acc,p,h=>h
 | (m,k)::r,acc,p,h=>by
  unfold kan
  split
  ·exact ZA (wD _ h)
  ·exact ZA h
theorem qz{cells:List (Str×Addr)}:∀ {l:List (Str×NameKind)} {acc:List (Str×Addr)} {n:Str},(n,NameKind.free)∈l->∃ c,(n,c)∈kan cells l acc
 | (m,k)::r,acc,n,h=>by
  unfold kan
  rcases wy.mp h with e|h
  ·cases e;exact⟨_,ZA wq⟩
  ·split
   ·exact qz h
   ·exact qz h
theorem yf:∀(l:List (Str×NameKind))(n:Nat)(acc:List (Str×Addr)),cellsFrom n l acc=cellsFrom n l []++acc
 | [],n,acc=>rfl
 | (m,k)::r,n,acc=>by
  unfold cellsFrom
  split
  ·rw[yf r (n+1) ((m,n)::acc),yf r (n+1) [(m,n)],Gx];rfl
  ·exact yf r n acc
theorem jW:∀ {l:List (Str×NameKind)} {n:Nat} {x:Str} {c:Addr},(x,c)∈cellsFrom n l []->(x,NameKind.cell)∈l
 | (m,k)::r,n,x,c,h=>by
  unfold cellsFrom at h
  by_cases hk:(k == NameKind.cell)=true
  ·rw[if_pos hk,yf]at h
   rcases wo.mp h with h|h
   ·exact wD _ (jW h)
   ·have e:(x,c) =(m,n):=by simpa using h
    cases e;have:k=.cell:=by simpa using hk
    subst this;exact wq
  ·rw[if_neg hk]at h;exact wD _ (jW h)
theorem jV:∀ {l:List (Str×NameKind)} {n:Nat} {x:Str},(x,NameKind.cell)∈l->∃ c,(x,c)∈cellsFrom n l []
 | (m,k)::r,n,x,h=>by
  unfold cellsFrom
  rcases wy.mp h with e|h
  ·cases e;rw[if_pos (by decide),yf];exact⟨n,wY _ wq⟩
  ·split
   ·rw[yf];obtain⟨c,hc⟩:=jV (n:=n+1) h;exact⟨c,uw _ hc⟩
   ·exact jV h
def blk(X:Cx)(own fre:List Str)(scope:Scope)(L:Addr)(cells:List (Str×Addr))(s₀:Shared)(H₀:Hp)(ex:List Addr)(pn:List (Addr×Obj)):Cx where
 prog:=X.prog
 w:=X.w
 K:=X.K
 mg:=X.mg
 base:=X.base
 A:=X.A
 N:=own++fre
 s₀:=s₀
 H₀:=H₀
 env:=compEnvC scope cells L X.env
 outer:=X.stack
 stack:=X.stack
 ex:=ex
 fn:=fun x=>own.contains x
 calm:=X.calm
 pn:=pn
 xe:=fun _ _=>False
def bst(own:Nat)(idx:List Nat)(σ:St):St:=ww own none++idx.map fun i=>(σ[i]?).join
structure BlkOk(X:Cx)(own fre:List Str)(idx:List Nat)(scope:Scope):Prop where
 kind:scope.kind=.function
 free:(scope.names.all fun x=>x.2 != .free || (X.env.kindOf x.1 == some .cell || X.env.kindOf x.1 == some .free))=true
 loc:(scope.names.all fun x=>x.2 != .local || scope.names.lookup x.1 == some .local)=true
 ownB:(scope.names.all fun x=>x.2 != .free || !own.contains x.1)=true
 freB:((fre.zip idx).all fun p=>scope.names.lookup p.1 == some .free && X.N[p.2]? == some p.1)=true
 len:fre.length=idx.length
 nd:(scope.names.map (·.1)).Nodup
theorem zge{l:List (Str×NameKind)}:(l.map (·.1)).Nodup->∀ {x:Str} {k1 k2:NameKind},(x,k1)∈l->(x,k2)∈l->k1=k2:=by
 induction l with
 | nil=>intro _ x k1 k2 h;exact nomatch h
 | cons p r ih =>
  intro nd x k1 k2 h1 h2;rw[vV,uT]at nd
  rcases wy.mp h1 with e1|h1 <;> rcases wy.mp h2 with e2|h2
  ·rw[← e1]at e2;cases e2;rfl
  ·exact absurd (wk.mpr ⟨_,h2,by rw[← e1]⟩) nd.1
  ·exact absurd (wk.mpr ⟨_,h1,by rw[← e2]⟩) nd.1
  ·exact ih nd.2 h1 h2
section
variable{X:Cx}{own fre:List Str}{idx:List Nat}{scope:Scope}{pins:List (Addr×Obj)}{σ:St}{H:Hp}{s:Shared}
theorem BlkOk.freeC(B:BlkOk X own fre idx scope){x:Str×NameKind}(hx:x∈scope.names)(h:x.2=.free):X.env.kindOf x.1=some .cell\/X.env.kindOf x.1=some .free:=by
 have:=uy.mp B.free x hx;rw[h]at this
 simpa using this
theorem BlkOk.cells(B:BlkOk X own fre idx scope)(ok:X.Ok):∀ x∈scope.names,x.2=.free->∃ c,X.env.cells.lookup x.1=some c:=fun x hx h=>ok.has x.1 (B.freeC hx h)
def rl(env:Env)(p:Str×NameKind):Str×NameKind:=if (p.2 == NameKind.free && env.scope.kind == .function && env.kindOf p.1 == some .cell)=true then(p.1,NameKind.cell)else p
theorem zfe(env:Env)(p:Str×NameKind):(rl env p).1=p.1:=by unfold rl;split <;> rfl
theorem zfG(env:Env)(p:Str×NameKind):(rl env p).2=p.2\/((rl env p).2=.cell/\p.2=.free):=by
 unfold rl
 split
 ·rename_i hc;rw[gS,gS]at hc;exact .inr ⟨rfl,by simpa using hc.1.1⟩
 ·exact .inl rfl
theorem jF{α:Type}(p:Str×α)(r:List (Str×α))(x:Str):(p::r).lookup x=if (x == p.1)=true then some p.2 else r.lookup x:=by
 rw[show p =(p.1,p.2)from rfl,gR];cases x == p.1 <;> rfl
theorem qx{env:Env}:∀ {l:List (Str×NameKind)} {x:Str} {k:NameKind},(l.map (rl env)).lookup x=some k->(l.lookup x=some k\/(k=.cell/\l.lookup x=some .free))
 | [],x,k,h=>by simp at h
 | p::r,x,k,h=>by
  rw[vV,jF,zfe]at h;rw[jF]
  by_cases hx:(x == p.1)=true
  ·rw[if_pos hx]at h ⊢
   rcases zfG env p with e|⟨e1,e2⟩
   ·rw[e]at h;exact .inl h
   ·rw[e1]at h;cases h;rw[e2];exact .inr ⟨rfl,rfl⟩
  ·rw[if_neg hx]at h ⊢;exact qx h
theorem Yh{env:Env}:∀ {l:List (Str×NameKind)} {x:Str},l.lookup x=some .free->(l.map (rl env)).lookup x=some .cell\/(l.map (rl env)).lookup x=some .free
 | [],x,h=>by simp at h
 | p::r,x,h=>by
  rw[jF]at h;rw[vV,jF,zfe]
  by_cases hx:(x == p.1)=true
  ·rw[if_pos hx]at h ⊢
   rcases zfG env p with e|⟨e1,e2⟩
   ·rw[e];exact .inr h
   ·rw[e1];exact .inl rfl
  ·rw[if_neg hx]at h ⊢;exact Yh h
theorem za2(B:BlkOk X own fre idx scope)(ok:X.Ok){n:Nat}{x:Str}{c:Addr}(h:(cellsFrom n scope.names (kan X.env.cells scope.names [])).lookup x=some c) :
  ((x,c)∈cellsFrom n scope.names []/\(x,NameKind.cell)∈scope.names)\/((x,NameKind.free)∈scope.names/\X.env.cells.lookup x=some c):=by
 have h1:=mem_of_lookup h;rw[yf]at h1
 rcases wo.mp h1 with h1|h1
 ·exact .inl ⟨h1,jW h1⟩
 ·rcases Yg (B.cells ok) h1 with h1|h1
  ·exact nomatch h1
  ·exact .inr h1
end
section
variable{prog:Program}{w:World}{A:Around}{E:Value->Shared->Prop}{R:Result->Shared->Prop}{s:Shared}
theorem QR{elt target iter:Expr}{ifs:List Expr}{scope:Scope}{pos:Pos}{it acc:Value}{env:Env}(I:Nat->Shared->Prop)
  (turn:∀ n s,I n s->wpAny (model prog w) A (pyNext it) (fun r s₁=>match r with
   | none=>R (.ok .next) s₁
   | some v=>wpAny (model prog w) A (letOwnedTupleGo target it v) (fun _ s₂=>wpAny (model prog w) A (assign target env v) (fun _ s₃ =>
     wpAny (model prog w) A (forIn ifs true fun c r=>if r=true then do let ok ← isTrue c env (eval c env);pure (ForInStep.yield ok)else pure (ForInStep.yield r)) (fun ok s₄ =>
      if ok=true then wpAny (model prog w) A (eval elt env) (fun x s₅ =>
       wpAny (model prog w) A (call (.builtin "list.append") [acc,x]) (fun _ s₆=>∃ m,m<n/\I m s₆) (fun _ _=>False) s₅) (fun _ _=>False) s₄
      else ∃ m,m<n/\I m s₄) (fun _ _=>False) s₃) (fun _ _=>False) s₂) (fun _ _=>False) s₁) (fun _ _=>False) s)
  (n:Nat) (h:I n s) :
  codeAny (model prog w) A (.compLoop (.ListComp elt [⟨target,iter,ifs,0⟩] scope pos) 0 it acc env) R s:=by
 refine codeAny_loop rfl I (fun n s hI=>?_) n h;show wpAny _ A ((compTurn (.ListComp elt [⟨target,iter,ifs,0⟩] scope pos) 0 it acc env).onRaise (fun x=>do noteFrame x env;theTreesLotGoes x)) _ _ s;refine wpAny_noted ?_;rw[compTurn_list];refine wpAny_bind (wpAny_standAt (wpAny_bind (wpAny_mono (turn n s hI) (fun r s₁ h₁=>?_) fun _ _ h'=>h'.elim)));cases r with
 | none=>exact wpAny_pure h₁
 | some v =>
  refine wpAny_bind (wpAny_mono h₁ (fun _ s₂ h₂=>?_) fun _ _ h'=>h'.elim);refine wpAny_bind (wpAny_mono h₂ (fun _ s₃ h₃=>wpAny_bind (wpAny_mono h₃ (fun ok s₄ h₄=>?_) fun _ _ h'=>h'.elim)) fun _ _ h'=>h'.elim);cases ok with
  | false=>exact wpAny_pure ⟨rfl,h₄⟩
  | true =>
   exact wpAny_bind (wpAny_bind (wpAny_mono h₄ (fun x s₅ h₅=>wpAny_bind (wpAny_mono h₅ (fun _ s₆ h₆=>wpAny_pure (wpAny_pure ⟨rfl,h₆⟩)) fun _ _ h'=>h'.elim)) fun _ _ h'=>h'.elim))
end
section
variable{X:Cx}{own fre:List Str}{idx:List Nat}{scope:Scope}{pins:List (Addr×Obj)}{σ:St}{H:Hp}{s:Shared}
abbrev bcells(X:Cx)(scope:Scope)(L:Addr):List (Str×Addr):=cellsFrom (L+1) scope.names (kan X.env.cells scope.names [])
abbrev dictO:Obj:={ cls:=.type "dict",data:=.dict #[] }
theorem zdg{own:Nat}{idx:List Nat}{σ:St}{i:Nat}{v:V}(h:(bst own idx σ)[i]?=some (some v)):∃ j k,i=own+j/\idx[j]?=some k/\σ[k]?=some (some v):=by
 unfold bst at h
 by_cases hi:i<own
 ·rw[vo (by simpa using hi)]at h;rw[uB]at h;rw[if_pos hi]at h;cases h
 ·rw[vg (by simpa using GG hi)]at h;rw[vh,wf]at h;cases e:idx[i - own]? with
  | none=>rw[e]at h;cases h
  | some k =>
   rw[e]at h;refine⟨i - own,k,by omega,e,?_⟩;have h':some ((σ[k]?).join)=some (some v):=h;have h2:=Option.some.inj h';cases e2:σ[k]? with
   | none=>rw[e2]at h2;cases h2
   | some o=>rw[e2]at h2;rw[show o=some v from h2]
theorem zcU(B:BlkOk X own fre idx scope)(I:Inv X pins σ H s){ex:List Addr}(hex:∀ b∈ex,FpOk X pins H b/\b<s.heap.objs.size) :
  Inv (blk X own fre scope s.heap.objs.size (bcells X scope s.heap.objs.size) s H ex (X.pn++pins)) [] (bst own.length idx σ) H { s with heap:=pushCells (s.heap.push dictO) scope.names }:=by
 have ok:=I.ok;have hsz:(s.heap.push dictO).objs.size=s.heap.objs.size+1:=Heap.size_push ..;have keep:∀ b o,s.heap.get? b=some o->(pushCells (s.heap.push dictO) scope.names).get? b=some o:=fun b o e=>pushCells_keeps _ _ b o (Heap.get?_push_of_some _ e)
 have cok:=cellsFrom_ok scope.names (s.heap.push dictO) (s.heap.objs.size+1) [] ⟨fun _ _ hm=>(nomatch hm),List.Pairwise.nil⟩ (by rw[hsz];exact wl _);rw[hsz]at cok;have freeLt:∀ x c,X.env.cells.lookup x=some c->c<s.heap.objs.size:=fun x c e=>let ⟨_,h⟩:=I.cell x c e;h.lt
 have cellC:∀ x c,(bcells X scope s.heap.objs.size).lookup x=some c->(s.heap.objs.size+1<=c/\(pushCells (s.heap.push dictO) scope.names).IsCell c none/\(x,c)∈cellsFrom (s.heap.objs.size+1) scope.names []/\(x,NameKind.cell)∈scope.names)\/(X.env.cells.lookup x=some c/\c<s.heap.objs.size/\(x,NameKind.free)∈scope.names):=fun x c e=>by
  rcases za2 B ok e with⟨h1,h2⟩|⟨h1,h2⟩
  ·exact .inl ⟨(cok.empty x c h1).2,(cok.empty x c h1).1,h1,h2⟩
  ·exact .inr ⟨h2,freeLt x c h2,h1⟩
 have hfs:∀ b∈frs X.stack,b<s.heap.objs.size:=fun b hb=>by
  rcases wy.mp (I.stkSub b hb)with e|hb
  ·rw[e];exact I.lt
  ·obtain⟨_,o,ho,_⟩:=I.ok.funs.mem hb;exact wO (Heap.lt_size ho) I.sz
 have OK:(blk X own fre scope s.heap.objs.size (bcells X scope s.heap.objs.size) s H ex (X.pn++pins)).Ok:=by
  refine⟨ok.mod,B.kind,ok.glob,ok.blt,wl _,?_,?_,?_,ok.hd,ok.frames,.inl rfl,?_,fun b o e=>I.bs b o e,vp ok.bsz I.sz,?_,?_,I.stack,I.stkFree⟩
  ·intro x y c e1 e2
   rcases cellC x c e1 with⟨l1,_,m1,_⟩|⟨f1,l1,_⟩ <;> rcases cellC y c e2 with⟨l2,_,m2,_⟩|⟨f2,l2,_⟩
   ·exact name_of_addr cok.apart m1 m2
   ·exact absurd (wO l2 (gk l1)) (vY _)
   ·exact absurd (wO l1 (gk l2)) (vY _)
   ·exact ok.inj x y c f1 f2
  ·intro x hk;have hk':(relabel scope X.env).names.lookup x=some .cell\/(relabel scope X.env).names.lookup x=some .free:=hk;have hor:(x,NameKind.cell)∈scope.names\/(x,NameKind.free)∈scope.names:=by
    rcases hk' with h|h
    ·rcases qx h with h|⟨_,h⟩
     ·exact .inl (mem_of_lookup h)
     ·exact .inr (mem_of_lookup h)
    ·rcases qx h with h|⟨h,_⟩
     ·exact .inr (mem_of_lookup h)
     ·cases h
   refine xg ?_;show ∃ c,(x,c)∈cellsFrom (s.heap.objs.size+1) scope.names (kan X.env.cells scope.names []);rw[yf]
   rcases hor with h|h
   ·obtain⟨c,hc⟩:=jV (n:=s.heap.objs.size+1) h;exact⟨c,uw _ hc⟩
   ·obtain⟨c,hc⟩:=qz (cells:=X.env.cells) (acc:=[]) h;exact⟨c,wY _ hc⟩
  ·intro x c hf e
   rcases cellC x c e with⟨l1,_⟩|⟨_,_,m1⟩
   ·show s.heap.objs.size<=c;omega
   ·have:=uy.mp B.ownB _ m1;have hf':own.contains x=true:=hf;rw[hf']at this;simp at this
  ·intro b hb;obtain⟨⟨_,_,_,_,f4,_⟩,hlt⟩:=hex b hb;refine⟨vk hlt,fun x c e=>?_⟩
   rcases cellC x c e with⟨l1,_⟩|⟨f1,_,_⟩
   ·exact Ne.symm (vk (wO hlt (gk l1)))
   ·exact f4 x c f1
  ·intro b o e hb;obtain⟨⟨_,_,_,f3,_,_⟩,_⟩:=hex b hb
   rcases f3 with f3|f3
   ·exact ok.noex b o e f3
   ·exact absurd (Heap.lt_size (ok.bs b o e).1) (Nat.not_lt.mpr f3)
  ·intro b hb hm;obtain⟨⟨_,f1,f2,_⟩,_⟩:=hex b hb
   rcases wy.mp (I.stkSub b hm)with e|hm
   ·exact f1 e
   ·exact f2 hm
 refine⟨OK,rfl,I.bare,Un.kept keep,?_,?_,I.fresh,?_,?_,I.hok.kept keep,?_⟩
 ·refine⟨fun _=>none,(Heap.Ns.new s.heap (.type "dict")).keeps (pushCells_keeps _ _),fun i x v e1 e2 e3=>?_⟩;obtain⟨j,k,rfl,hj,hk⟩:=zdg e2;have e1':(own++fre)[own.length+j]?=some x:=e1;rw[vg (gn _ _),vz]at e1';have hz:(x,k)∈fre.zip idx:=by
   refine Gk.mpr ⟨j,?_⟩;rw[gM];exact⟨e1',hj⟩
  have hq:=uy.mp B.freB _ hz;rw[gS]at hq;have q1:scope.names.lookup x=some .free:=by simpa using hq.1
  have q2:X.N[k]?=some x:=by simpa using hq.2
  have kin:=B.freeC (mem_of_lookup q1) rfl;have vis:Vis X.env.scope x:=.inr kin;obtain⟨m,hn,hl⟩:=I.loc;obtain⟨u,r,look⟩:=hl k x v q2 hk vis;refine⟨u,r,?_⟩;obtain⟨c,hc,hcell⟩ : ∃ c,X.env.cells.lookup x=some c/\s.heap.IsCell c (some u):=by
   rcases look with⟨hk1,_⟩|⟨_,c,e,z⟩
   ·rcases kin with h|h <;>(rw[hk1]at h;cases h)
   ·exact⟨c,e,z⟩
  refine .inr ⟨Yh q1,c,?_,hcell.keeps keep⟩;have hl2:∃ c',(bcells X scope s.heap.objs.size).lookup x=some c':=by
   refine xg ?_;show ∃ c,(x,c)∈cellsFrom (s.heap.objs.size+1) scope.names (kan X.env.cells scope.names []);rw[yf];obtain⟨c,hc⟩:=qz (cells:=X.env.cells) (acc:=[]) (mem_of_lookup q1);exact⟨c,wY _ hc⟩
  obtain⟨c',hc'⟩:=hl2
  rcases za2 B ok hc' with⟨_,h2⟩|⟨_,h2⟩
  ·exact nomatch zge B.nd h2 (mem_of_lookup q1)
  ·rw[hc]at h2;cases h2;exact hc'
 ·intro x c e
  rcases cellC x c e with⟨_,h,_⟩|⟨h,_,_⟩
  ·exact⟨none,h⟩
  ·obtain⟨v,z⟩:=I.cell x c h;exact⟨v,z.keeps keep⟩
 ·intro x c e
  rcases cellC x c e with⟨l,_⟩|⟨h,_,_⟩
  ·exact I.hok.fresh (by omega)
  ·exact I.freeC x c h
 ·intro p hp;rw[gt]at hp;obtain⟨h1,h2,h3,h4,h5⟩:=I.pin p hp;refine⟨keep _ _ h1,h2,vk (Heap.lt_size h1),fun hm=>?_,h5⟩
  rcases wy.mp (I.stkSub p.1 hm)with e|hm
  ·exact h3 e
  ·exact h4 hm
 ·show(bst own.length idx σ).length =(own++fre).length;unfold bst;rw[wu,vh,wc,wu,B.len]
theorem zfX{L D:Addr}{cells:List (Str×Addr)}{s₀ s':Shared}{H₀ H':Hp}{fp:List Addr}{pl:List (Addr×Obj)}{σb:St}{ys:List V}{its:List Value}{n:Nat}(I:Inv X pins σ H₀ s₀)(I':Inv (blk X own fre scope L cells s₀ H₀ (D::fp) (X.pn++pins)) pl σb H' s')
  (hfp:∀ b∈fp,FpOk X pins H₀ b) (hD:FpOk X pins H₀ D) (hD':H' D=none) (hv:Vals ys its) (hz:ys.length<=sizeLine) (e:s'.heap.get? D=some { cls:=.type "list",data:=.seq its.toArray n }) :
  Inv X pins σ (upd H' D (.lst ys)) s':=by
 have u:=I'.base;have nD:H₀ D=none:=hD.1;refine I.call' (ch:=D::fp) (H':=upd H' D (.lst ys)) I'.os ⟨u.keep,u.slot,fun b o h1 h2 h3=>?_,u.there,fun b xs h=>?_,fun b o v h=>?_,fun b ps h=>?_⟩ (fun b o h=>?_) I'.bare fun b hb=>?_
 ·rw[zH (fun z=>h3 (by rw[z];exact wq))];exact u.free b o h1 h2 h3
 ·rw[zH (zT h nD)];exact u.tups b xs h
 ·rw[zH (zT h nD)];exact u.frzs b o v h
 ·rw[zH (zT h nD)];exact u.tbls b ps h
 ·by_cases hb:b=D
  ·subst hb;rw[ze]at h;cases h;exact⟨hz,its,n,hv,e⟩
  ·rw[zH hb]at h;exact(I'.hok b o h).stay (fun c v _ q=>q) (fun c q=>by rw[zH (zT q hD')];exact q) fun c xs q=>by rw[zH (zT q hD')];exact q
 ·rcases wy.mp hb with rfl|hb
  ·obtain⟨_,f1,_,f3,f4,f5⟩:=hD;exact⟨f3,f1,f4,f5⟩
  ·obtain⟨_,f1,_,f3,f4,f5⟩:=hfp b hb;exact⟨f3,f1,f4,f5⟩
def GOwn(k:Nat)(g:TG):Prop:=∀ v σ H Q,g v σ H Q->g v σ H fun σ' H'=>Q σ' H'/\σ'.drop k=σ.drop k/\σ'.length=σ.length
def GOwns(k:Nat)(g:TGs):Prop:=∀ v σ H Q,g v σ H Q->g v σ H fun σ' H'=>Q σ' H'/\σ'.drop k=σ.drop k/\σ'.length=σ.length
theorem yb{k i:Nat}(h:i<k):GOwn k (gName i):=fun v σ H Q q=>⟨q,by rw[List.drop_set_of_lt h],vv⟩
theorem xG{k:Nat}:GOwns k gNil:=fun v σ H Q ⟨e,q⟩=>⟨e,q,rfl,rfl⟩
theorem zX{k:Nat}{t:TG}{u:TGs}(ht:GOwn k t)(hm:∀ v σ H Q Q',(∀ σ' H',Q σ' H'->Q' σ' H')->t v σ H Q->t v σ H Q')(hu:GOwns k u):GOwns k (gCons t u):=fun vs σ H Q ⟨v,r,e,q⟩ =>
 ⟨v,r,e,hm _ _ _ _ _ (fun σ' H' ⟨q1,q2,q3⟩=>by
  have q4:=hu _ _ _ _ q1;rw[q2,q3]at q4;exact q4) (ht _ _ _ _ q)⟩
theorem zY{i:Nat}:∀ v σ H (Q Q':St->Hp->Prop),(∀ σ' H',Q σ' H'->Q' σ' H')->gName i v σ H Q->gName i v σ H Q':=fun _ _ _ _ _ h q=>h _ _ q
theorem jc{K:PySem.W.Frag}{k n:Nat}{t:TGs}(h:GOwns k t):GOwn k (gTup K n t):=fun v σ H Q ⟨a,xs,e,h1,h2,q⟩=>⟨a,xs,e,h1,h2,h _ _ _ _ q⟩
theorem zbC{own:Nat}{idx:List Nat}{σ σ':St}(hd:σ'.drop own =(bst own idx σ).drop own)(i:Nat)(v:V)(h:(bst own idx σ)[i]?=some (some v)):σ'[i]?=some (some v):=by
 obtain⟨j,k,rfl,_,_⟩:=zdg h;rw[← gh,hd,gh];exact h
def tCompW(own:Nat)(idx:List Nat)(wi:TI)(g:TG)(tt:TT)(te:TE)(R:List V->Hp->Prop):St->Hp->Prop:=fun σ H=>wi σ H fun J H1=>∃ W:Nat->Nat->List V->Hp->Prop,(∃ m,W 0 m [] H1)/\∀ i m ys H,W i m ys H ->
 (J.stop i H/\ys.length<=sizeLine/\R ys H) \/
 (J.go i H/\ys.length<sizeLine/\∀ x H',J.yld i H x H'->g x (bst own idx σ) H' fun σ2 H2=>tt σ2 H2 fun b H3=>if b=true then te σ2 H3 fun y H4=>∃ m',m'<m/\W (i+1) m' (ys++[y]) H4 else ∃ m',m'<m/\W (i+1) m' ys H3)
def PTs(Y:Cx)(ifs:List Expr)(t:TT):Prop:=∀(pins:List (Addr×Obj))(s:Shared)(σ:St)(H:Hp)(Q:Bool->Hp->Prop),Inv Y pins σ H s->t σ H Q ->
 wpAny (model Y.prog Y.w) Y.A (forIn ifs true fun c r=>if r=true then do let ok ← isTrue c Y.env (eval c Y.env);pure (ForInStep.yield ok)else pure (ForInStep.yield r)) (TP Y pins σ Q) Y.xe s
def tTrue:TT:=fun _ H Q=>Q true H
theorem zI{Y:Cx}:PTs Y [] tTrue:=fun pins s σ H Q I h=>wpAny_tests_nil ⟨H,I,h⟩
theorem zbz{elt tg iter:Expr}{ifs:List Expr}{pos:Pos}{wi:TI}{g:TG}{tt:TT}{te:TE}{use:Option (Value->Sem Unit)}{R:List V->Hp->Prop}{Q:Value->Shared->Prop}(B:BlkOk X own fre idx scope)(hc:X.calm=true)(hi:PI X tg iter wi)(hg:GOwn own.length g)
  (hb:∀(L:Addr)(cells:List (Str×Addr))(s₀:Shared)(H₀:Hp)(ex:List Addr)(pn:List (Addr×Obj)),PG (blk X own fre scope L cells s₀ H₀ ex pn) tg g/\PTs (blk X own fre scope L cells s₀ H₀ ex pn) ifs tt/\PE (blk X own fre scope L cells s₀ H₀ ex pn) elt te)
  (hs:∀ x,foldedSetIterable iter X.env x=pure x) (I:Inv X pins σ H s) (h:tCompW own.length idx wi g tt te R σ H)
  (hq:∀(ys:List V)(H':Hp)(s':Shared)(L D:Addr)(m:Str->Option Value),R ys H'->H' D=none->Inv X pins σ (upd H' D (.lst ys)) s'->s'.heap.Ns L m->upd H' D (.lst ys) L=none->FpOk X pins (upd H' D (.lst ys)) L ->
   compPost (model X.prog X.w) X.A X.xe use Q (.ref D) L (.ok .next) s') :
  wpAny (model X.prog X.w) X.A (comprehension (.ListComp elt [⟨tg,iter,ifs,0⟩] scope pos) scope X.env (firstIterPos [⟨tg,iter,ifs,0⟩] pos) (newList []) false (eval iter X.env) use) Q X.xe s:=by
 have hnames:∀ x∈scope.names,x.2=.local->scope.names.lookup x.1=some .local:=fun x hx hl=>by
  have:=uy.mp B.loc x hx;rw[hl]at this
  simpa using this
 refine wpAny_comprehension_free (use:=use) rfl hs (Jv (B.cells I.ok)) B.kind hnames (wpAny_mono (hi pins s σ H _ I h) (fun v s1 h1=>wpAny_mono h1 (fun itv s2 h2=>?_) fun _ _ e=>e) fun _ _ e=>e);obtain⟨it,fp,tn,J,H2,rfl,I2,T,st2,f2,W,⟨m0,w0⟩,turn⟩:=h2;refine wpAny_newObj_type ?_;generalize hs3:({ s2 with heap:=s2.heap.push { cls:=.type "list",dict:=none,data:=.seq ([]:List Value).toArray } }:Shared)=s3;have hD3:s3.heap.get? s2.heap.objs.size=some { cls:=.type "list",data:=.seq ([]:List Value).toArray 0 }:=by rw[← hs3];exact Heap.get?_push_size _ rfl
 have keep23:∀ b o,s2.heap.get? b=some o->s3.heap.get? b=some o:=fun b o e=>by rw[← hs3];exact Heap.get?_push_of_some _ e
 have I3:Inv X pins σ H2 s3:=by rw[← hs3];exact I2.kept (t':=s2.toks) fun b o e=>Heap.get?_push_of_some _ e
 have sz3:s3.heap.objs.size=s2.heap.objs.size+1:=by rw[← hs3];exact Heap.size_push ..
 generalize hD:s2.heap.objs.size=D at *;have nD:H2 D=none:=by rw[← hD];exact I2.fresh
 have okD:FpOk X pins H2 D:=I2.fpOk (by rw[hD];exact wl _) nD;have ltfp:∀ b∈fp,b<D:=fun b hb=>by
  obtain⟨o,ho,_⟩:=T.obj _ _ st2 b hb;rw[← hD];exact Heap.lt_size ho
 simp only[newFunctionEnv,Option.isSome_some,if_true];refine wpAny_bind (wpAny_alloc ?_);refine wpAny_bind (wpAny_layCells _ (fun name kind cells=>by cases hkc:kind == NameKind.cell <;> simp[hkc]) _ _ _ _ ?_);refine wpAny_bind (wpAny_pure (wpAny_pure ?_));have hL1:(s3.heap.push dictO).objs.size=s3.heap.objs.size+1:=Heap.size_push ..;have I4:=zcU (ex:=D::fp) B I3 (fun b hb=>by
  rcases wy.mp hb with rfl|hb
  ·exact⟨okD,by rw[sz3];exact uM _⟩
  ·exact⟨f2 b hb,by rw[sz3];exact Gz (ltfp b hb)⟩)
 generalize hs4:({ s3 with heap:=pushCells (s3.heap.push dictO) scope.names }:Shared)=s4 at I4;have keep34:∀ b o,s3.heap.get? b=some o->s4.heap.get? b=some o:=fun b o e=>by rw[← hs4];exact pushCells_keeps _ _ b o (Heap.get?_push_of_some _ e)
 generalize hY:blk X own fre scope s3.heap.objs.size (bcells X scope s3.heap.objs.size) s3 H2 (D::fp) (X.pn++pins)=Y at I4;have YA:Y.A=X.A:=by rw[← hY];rfl
 have Yp:Y.prog=X.prog:=by rw[← hY];rfl
 have Yw:Y.w=X.w:=by rw[← hY];rfl
 have YK:Y.K=X.K:=by rw[← hY];rfl
 have Yc:Y.calm=true:=by rw[← hY];exact hc
 have Yx:Y.xe=fun _ _=>False:=by rw[← hY];rfl
 have Yex:Y.ex=D::fp:=by rw[← hY];rfl
 have Ypn:Y.pn=X.pn++pins:=by rw[← hY];rfl
 have YL:Y.env.locals=s3.heap.objs.size:=by rw[← hY];rfl
 have hbY:PG Y tg g/\PTs Y ifs tt/\PE Y elt te:=by rw[← hY];exact hb ..
 have nDY:D≠Y.env.locals:=by rw[YL,sz3];exact vk (uM _)
 have okY:=I4.ok;have fsD:D∉Y.fs:=okY.exfs D (by rw[Yex];exact wq);have pnD:∀ p∈Y.pn,p.1≠D:=by rw[Ypn];exact okD.2.2.2.2.2
 have FO:∀ {H':Hp} {o:Obj},(∀ b∈fp,H' b=none)->∀ b∈fp,FpOk Y [(D,o)] H' b:=fun {H' o} hn b hb=>by
  have m:b∈Y.ex:=by rw[Yex];exact wD _ hb
  refine⟨hn b hb,(okY.exf b m).1,okY.exfs b m,.inl m,(okY.exf b m).2,fun p hp=>?_⟩
  rcases wo.mp hp with hp|hp
  ·rw[Ypn]at hp;exact(f2 b hb).2.2.2.2.2 p hp
  ·have e:p =(D,o):=by simpa using hp
   rw[e];exact Ne.symm (vk (ltfp b hb))
 have pinD:∀ {pl:List (Addr×Obj)} {σ':St} {H':Hp} {s':Shared} {o:Obj},Inv Y pl σ' H' s'->s'.heap.get? D=some o->H' D=none->(∀ v,o.data≠.cell v)->Inv Y [(D,o)] σ' H' s':=fun {pl σ' H' s' o} I' e hn hd=>I'.pins_of fun p hp=>by
  have e':p =(D,o):=by simpa using hp
  subst e';exact⟨e,hn,nDY,fsD,hd⟩
 have loop:codeAny (model X.prog X.w) X.A (.compLoop (.ListComp elt [⟨tg,iter,ifs,0⟩] scope pos) 0 (.ref it) (.ref D) Y.env) (compPost (model X.prog X.w) X.A X.xe use Q (.ref D) s3.heap.objs.size) s4:=by
  refine QR (fun n s'=>∃ i ys its k H',Inv Y [(D,({ cls:=.type "list",data:=.seq (its:List Value).toArray k }:Obj))] (bst own.length idx σ) H' s'/\tn i s'.heap/\(∀ b∈fp,H' b=none)/\Vals ys its/\ys.length<=sizeLine/\W i n ys H') ?_ m0
   ⟨0,[],[],0,H2,pinD I4 (keep34 _ _ hD3) nD (fun v z=>nomatch z),T.keep _ _ _ st2 fun b _ o e=>keep34 _ _ (keep23 _ _ e),fun b hb=>(f2 b hb).1,.nil,vN _,w0⟩
  rintro n s' ⟨i,ys,its,k,H',I',st',fr',hv,hz,w'⟩
  have pD:=I'.pin _ (wY _ wq)
  rcases turn i n ys H' w' with⟨stop,hl,hR⟩|⟨go,hl,step⟩
  ·have z:=T.done Y Yp Yw YK Yc i _ s' _ H' (fun _ _=>False) I' (FO fr') st' stop;rw[YA]at z;refine thn z fun r s5 ⟨hr,I5⟩=>?_
   subst hr;have pD5:=I5.pin _ (wY _ wq);have I5':=I5;rw[← hY]at I5';have E:=zfX I3 I5' (fun b hb=>f2 b hb) okD pD5.2.1 hv hl pD5.1;obtain⟨m5,hm5,_⟩:=I5.loc;rw[YL]at hm5;have nL:H' s3.heap.objs.size=none:=by rw[← YL];exact I5.free
   have nL':upd H' D (.lst ys) s3.heap.objs.size=none:=by rw[zH (by rw[← YL];exact Ne.symm nDY)];exact nL
   exact hq ys H' s5 _ D m5 hR pD5.2.1 E hm5 nL' (I3.fpOk (wl _) nL')
  ·have z:=T.item Y Yp Yw YK Yc i _ s' _ H' (fun _ _=>False) I' (FO fr') st' go;rw[YA]at z;refine thn z fun r s5 ⟨u,hr,h5⟩=>?_
   subst hr;refine thn h5 fun _ s6 ⟨x,H6,I6,r6,y6,st6,fr6⟩=>?_
   have I6':=I6.pinned (FO fr6) (T.obj _ _ st6);have z7:=hbY.1 _ s6 _ H6 x u _ I6' r6 (hg _ _ _ _ (step x H6 y6));rw[Yp,Yw,YA,Yx]at z7;refine thn z7 fun _ s7 ⟨σ7,H7,I7,q7,d7,l7⟩=>?_
   have z8:=hbY.2.1 _ s7 σ7 H7 _ I7 q7;rw[Yp,Yw,YA,Yx]at z8;refine thn z8 fun ok s8 ⟨H8,I8,q8⟩=>?_
   have tnK:∀ {σ9:St} {H9:Hp} {s9:Shared},Inv Y ([(D,({ cls:=.type "list",data:=.seq its.toArray k }:Obj))]++pinsAt fp s6.heap) σ9 H9 s9->tn (i+1) s9.heap/\∀ b∈fp,H9 b=none:=fun I9 =>
    ⟨T.keep _ _ _ st6 fun b hb o e=>(I9.pin (b,o) (wY _ (wY _ (qE hb e)))).1,fun b hb=>by
     obtain⟨o,e,d⟩:=T.obj _ _ st6 b hb;exact(I9.pin (b,o) (wY _ (wY _ (qE hb e)))).2.1⟩
   cases ok with
   | false =>
    rw[if_neg wX]at q8 ⊢;obtain⟨m',hm,w8⟩:=q8;obtain⟨t8,n8⟩:=tnK I8;exact⟨m',hm,i+1,ys,its,k,H8,I8.unpinned.weak l7.symm (zbC d7),t8,n8,hv,hz,w8⟩
   | true =>
    rw[if_pos rfl]at q8 ⊢;have z9:=hbY.2.2 _ s8 σ7 H8 _ I8 q8;rw[Yp,Yw,YA,Yx]at z9;refine thn z9 fun y s9 ⟨v9,H9,I9,r9,m',hm,w9⟩=>?_
    obtain⟨t9,n9⟩:=tnK I9;have pD9:=I9.pin (D,{ cls:=.type "list",data:=.seq its.toArray k }) (wY _ (uw _ wq));refine append_at pD9.1 (fun h10 sb hD10=>?_) (by rw[wx,← hv.length];exact ud hl);have I9a:Inv Y [] σ7 H9 s9:=I9.pins_of fun p hp=>nomatch hp
    have I10:Inv Y [] σ7 H9 { s9 with heap:=h10 }:=I9a.turned (t':=s9.toks) (it:=D) (fun b o hb e=>sb.extBut b o hb e) pD9.2.1 nDY (.inl (by rw[Yex];exact wq)) (okY.exf D (by rw[Yex];exact wq)).2 (fun p hp=>by
     rw[gt]at hp;exact pnD p hp)
    refine⟨m',hm,i+1,ys++[v9],its++[y],k+1,H9,pinD (I10.weak l7.symm (zbC d7)) ?_ pD9.2.1 (fun v z=>nomatch z),?_,n9,hv.append (.cons r9 .nil),?_,w9⟩
    ·show h10.get? D=_;rw[hD10,List.push_toArray]
    ·exact T.keep _ _ _ t9 fun b hb o e=>sb.extBut b o (vk (ltfp b hb)) e
    ·rw[wu,Gi];exact hl
 have goal:codeAny (model X.prog X.w) X.A (.compStart (.ListComp elt [⟨tg,iter,ifs,0⟩] scope pos) 0 (.ref it) (.ref D) Y.env) (compPost (model X.prog X.w) X.A X.xe use Q (.ref D) s3.heap.objs.size) s4 :=
  codeAny_compStart_list loop (T.self X.A 0 s4 _ _ (T.keep _ _ _ st2 fun b _ o e=>keep34 _ _ (keep23 _ _ e)) loop)
 rw[← hY]at goal;have hsz:({ s3 with heap:=s3.heap.push { cls:=.type "dict",data:=.dict #[] } }:Shared).heap.objs.size=s3.heap.objs.size+1:=Heap.size_push ..;rw[hsz]
 first
  | exact goal
  | (rw[← hs4]at goal;exact goal)
end
def tComp(own:Nat)(idx:List Nat)(wi:TI)(g:TG)(tt:TT)(te:TE):TE:=fun σ H Q=>tCompW own idx wi g tt te (fun ys H'=>∀ p,H' p=none->Q (.ref p) (upd H' p (.lst ys))) σ H
section
variable{X:Cx}{scope:Scope}
theorem qq{elt tg iter:Expr}{ifs:List Expr}{pos:Pos}{wi:TI}{g:TG}{tt:TT}{te:TE}(own fre:List Str)(idx:List Nat)(B:BlkOk X own fre idx scope)(hc:X.calm=true)(hi:PI X tg iter wi)(hg:GOwn own.length g)
  (hb:∀(L:Addr)(cells:List (Str×Addr))(s₀:Shared)(H₀:Hp)(ex:List Addr)(pn:List (Addr×Obj)),PG (blk X own fre scope L cells s₀ H₀ ex pn) tg g/\PTs (blk X own fre scope L cells s₀ H₀ ex pn) ifs tt/\PE (blk X own fre scope L cells s₀ H₀ ex pn) elt te)
  (hs:∀ x,foldedSetIterable iter X.env x=pure x:=by intro _;rfl):PE X (.ListComp elt [⟨tg,iter,ifs,0⟩] scope pos) (tComp own.length idx wi g tt te):=by
 intro pins s σ H Q I h;rw[eval_ListComp];refine zbz (use:=none) B hc hi hg hb hs I h fun ys H' s' L D m hR hD I' hn nL fL=>?_
 refine⟨m,hn,fun h' hs'=>?_⟩;obtain⟨f0,f1,f2,f3,f4,f5⟩:=fL;exact⟨.ref D,_,I'.turned (t':=s'.toks) (it:=L) (fun b o hb e=>hs'.extBut b o hb e) f0 f1 f3 f4 f5,rfl,hR D hD⟩
def tAsgC(own:Nat)(idx:List Nat)(wi:TI)(g:TG)(tt:TT)(te:TE)(i:Nat):TS:=fun D σ H=>tCompW own idx wi g tt te (fun ys H'=>∀ p,H' p=none->D.nx (σ.set i (some (.ref p))) (upd H' p (.lst ys))) σ H
theorem zcs{elt tg iter:Expr}{ifs:List Expr}{pos pos' spos:Pos}{wi:TI}{g:TG}{tt:TT}{te:TE}{i:Nat}{x:Str}(hN:X.N.Nodup)(hi':X.N[i]?=some x)(hx:X.env.scope.names.lookup x=some .local)(own fre:List Str)(idx:List Nat)(B:BlkOk X own fre idx scope)(hc:X.calm=true)(hi:PI X tg iter wi)(hg:GOwn own.length g)
  (hb:∀(L:Addr)(cells:List (Str×Addr))(s₀:Shared)(H₀:Hp)(ex:List Addr)(pn:List (Addr×Obj)),PG (blk X own fre scope L cells s₀ H₀ ex pn) tg g/\PTs (blk X own fre scope L cells s₀ H₀ ex pn) ifs tt/\PE (blk X own fre scope L cells s₀ H₀ ex pn) elt te)
  (hsw:swapsWith (.ListComp elt [⟨tg,iter,ifs,0⟩] scope pos) (some (.Name x pos')) spos.line X.env=pure true:=by rfl)
  (hs:∀ x,foldedSetIterable iter X.env x=pure x:=by intro _;rfl):PS X (.Assign [.Name x pos'] (.ListComp elt [⟨tg,iter,ifs,0⟩] scope pos) spos) (tAsgC own.length idx wi g tt te i):=by
 intro pins s σ H D I h;rw[exec_Assign_Name_used _ _ _ _ hsw];refine wpAny_bind (wpAny_standAt (wpAny_bind ?_));show wpAny _ X.A (do let _ ← comprehension (.ListComp elt [⟨tg,iter,ifs,0⟩] scope pos) scope X.env _ (newList []) false (eval iter X.env) (some (assign (.Name x pos') X.env))) _ _ s;refine wpAny_bind (wpAny_mono (zbz (use:=some (assign (.Name x pos') X.env)) (Q:=fun _ s'=>SP X pins D .next s') B hc hi hg hb hs I h fun ys H' s' L Da m hR hD I' hn nL fL=>?_) (fun _ s' hq=>wpAny_pure (wpAny_pure hq)) fun _ _ e=>e);obtain⟨f0,f1,f2,f3,f4,f5⟩:=fL;show wpAny _ X.A (assign (.Name x pos') X.env (.ref Da)) _ _ _;refine wpAny_assign_Name (Qk I' hN hi' (.inl hx) (show RelV (.ref Da) (.ref Da)from rfl) (fun s2 I2 ⟨a,sb,ha⟩=>?_) (.inr hx));have hLa:L≠a:=by
  rcases ha with rfl|ha
  ·exact f1
  ·exact Ne.symm (f4 x a ha)
 refine⟨m,hn.sameBut sb hLa,fun h' hs'=>?_⟩;exact⟨_,_,I2.turned (t':=s2.toks) (it:=L) (fun b o hb e=>hs'.extBut b o hb e) f0 f1 f3 f4 f5,hR Da hD⟩
end
end L2
namespace L2
open PySem PySem.Spec PyProof.Rows
mutual
def Rp(H:Hp):PyData->V->Prop
 | .none,v=>v=.non
 | .bool b,v=>v=.bl b
 | .int i,v=>v=.int i
 | .str x,v=>v=.str x
 | .list ds,v=>∃ a xs,v=.ref a/\H a=some (.lst xs)/\Rps H ds xs
 | .tuple ds,v=>∃ a xs,v=.ref a/\H a=some (.tup xs)/\Rps H ds xs
 | .dict _,_=>False
def Rps(H:Hp):List PyData->List V->Prop
 | [],xs=>xs=[]
 | d::ds,xs=>∃ x r,xs=x::r/\Rp H d x/\Rps H ds r
end
mutual
theorem Rp.mono{H H':Hp}(g:Same H H'):∀(d:PyData)(v:V),Rp H d v->Rp H' d v
 | .none,_,h=>by simpa only [Rp] using h
 | .bool _,_,h=>by simpa only [Rp] using h
 | .int _,_,h=>by simpa only [Rp] using h
 | .str _,_,h=>by simpa only [Rp] using h
 | .list ds,v,h=>by
  simp only[Rp]at h ⊢;obtain⟨a,xs,e,h1,h2⟩:=h;exact⟨a,xs,e,g _ _ h1,Rps.mono g ds xs h2⟩
 | .tuple ds,v,h=>by
  simp only[Rp]at h ⊢;obtain⟨a,xs,e,h1,h2⟩:=h;exact⟨a,xs,e,g _ _ h1,Rps.mono g ds xs h2⟩
 | .dict _,_,h=>by simp only[Rp]at h
theorem Rps.mono{H H':Hp}(g:Same H H'):∀(ds:List PyData)(xs:List V),Rps H ds xs->Rps H' ds xs
 | [],xs,h=>by simpa only [Rps] using h
 | d::ds,xs,h=>by
  simp only[Rps]at h ⊢;obtain⟨x,r,e,h1,h2⟩:=h;exact⟨x,r,e,Rp.mono g d x h1,Rps.mono g ds r h2⟩
end
section
variable{X:Cx}{pins:List (Addr×Obj)}{σ:St}{H:Hp}{s:Shared}
mutual
theorem Rp.reads(I:Inv X pins σ H s):∀(d:PyData)(v:V)(u:Value),Rp H d v->RelV v u->∃ as,Reads s.heap u d as
 | .none,v,u,h,r=>by
  simp only[Rp]at h;subst h;cases (show u=Value.none from r);exact⟨_,.none⟩
 | .bool b,v,u,h,r=>by
  simp only[Rp]at h;subst h;cases (show u=Value.bool b from r);exact⟨_,.bool b⟩
 | .int i,v,u,h,r=>by
  simp only[Rp]at h;subst h;obtain⟨t,e⟩:=(show ∃ t,u=Value.int i t from r);subst e;exact⟨_,.int i t⟩
 | .str x,v,u,h,r=>by
  simp only[Rp]at h;subst h;obtain⟨t,e⟩:=(show ∃ t,u=Value.str x t from r);subst e;exact⟨_,.str x t⟩
 | .list ds,v,u,h,r=>by
  simp only[Rp]at h;obtain⟨a,xs,e,h1,h2⟩:=h;subst e;cases (show u=Value.ref a from r);obtain⟨_,its,n,hv,hg⟩:=(show kap X.prog X.w H s.heap a (.lst xs)from I.hok a _ h1);obtain⟨as,q⟩:=Rps.reads I ds xs its h2 hv;exact⟨_,.list hg rfl rfl q⟩
 | .tuple ds,v,u,h,r=>by
  simp only[Rp]at h;obtain⟨a,xs,e,h1,h2⟩:=h;subst e;cases (show u=Value.ref a from r);obtain⟨_,its,hv,o,hg,hc,n,hd⟩:=(show kap X.prog X.w H s.heap a (.tup xs)from I.hok a _ h1);obtain⟨as,q⟩:=Rps.reads I ds xs its h2 hv;exact⟨_,.tuple hg hc hd q⟩
 | .dict _,v,u,h,r=>by simp only[Rp]at h
theorem Rps.reads(I:Inv X pins σ H s):∀(ds:List PyData)(xs:List V)(us:List Value),Rps H ds xs->Vals xs us->∃ as,ReadsAll s.heap us ds as
 | [],xs,us,h,r=>by
  simp only[Rps]at h;subst h;cases r;exact⟨_,.nil⟩
 | d::ds,xs,us,h,r=>by
  simp only[Rps]at h;obtain⟨x,rr,e,h1,h2⟩:=h;subst e;cases r with
  | cons r1 r2 =>
   obtain⟨as,q1⟩:=Rp.reads I d x _ h1 r1;obtain⟨bs,q2⟩:=Rps.reads I ds rr _ h2 r2;exact⟨_,.cons q1 q2⟩
end
def rEqD(f:Bool->Bool):R2:=fun x y H Q=>∃ dx dy,Rp H dx x/\Rp H dy y/\dx.canLay0=true/\dy.canLay0=true/\min dx.depth dy.depth<=60/\Q (.bl (f (PyData.eqv dx dy))) H
theorem zfl{k:Nat}(hr:Room k X.A):OpR X (compareOp .Eq) (rEqD id):=by
 intro pins s σ H x y v u Q I rx ry h;obtain⟨dx,dy,h1,h2,l1,l2,hd,q⟩:=h;obtain⟨as,r1⟩:=Rp.reads I dx x v h1 rx;obtain⟨bs,r2⟩:=Rp.reads I dy y u h2 ry;exact SeqAt.compareEq_reads r1 r2 l1 l2 (by have:=hr.units;omega) ⟨.bl _,H,I,rfl,q⟩
theorem zfE{k:Nat}(hr:Room k X.A):OpR X (compareOp .NotEq) (rEqD not):=by
 intro pins s σ H x y v u Q I rx ry h;obtain⟨dx,dy,h1,h2,l1,l2,hd,q⟩:=h;obtain⟨as,r1⟩:=Rp.reads I dx x v h1 rx;obtain⟨bs,r2⟩:=Rp.reads I dy y u h2 ry;exact SeqAt.compareNe_reads r1 r2 l1 l2 (by have:=hr.units;omega) ⟨.bl _,H,I,rfl,q⟩
end
def Itz(K:PySem.W.Frag)(a b:Addr):It :=
 ⟨fun i H=>∃ xs ys x y,SqL K H a xs/\SqL K H b ys/\xs[i]?=some x/\ys[i]?=some y,
   fun i H v H'=>∃ T x y,v=.ref T/\H T=none/\H'=upd H T (.tup [x,y])/\(∀ xs,SqL K H a xs->xs[i]?=some x)/\(∀ ys,SqL K H b ys->ys[i]?=some y),
   fun i H=>∃ xs ys,SqL K H a xs/\SqL K H b ys/\(xs.length<=i\/ys.length<=i)⟩
def ZipAt(z TI TO i1 i2 a b:Addr)(i:Nat)(h:Heap):Prop:=IsZip h z TI TO .none/\IsPair h TI (.ref i1) (.ref i2)/\(∃ u v,IsPair h TO u v)/\h.IsListIter i1 a i/\h.IsListIter i2 b i
theorem zew{P:Program}{w:World}{K:PySem.W.Frag}{elts:List Expr}{k1:Nat}{pos:Pos}(z TI TO i1 i2 a b:Addr)(D:ZipApart z TI TO i1 i2 a b) :
  Turn P w K (.Tuple elts k1 pos) (Itz K a b) [z,TI,TO,i1,i2] z (ZipAt z TI TO i1 i2 a b) where
 mem:=by simp
 obj:=fun i h st c hc=>by
  obtain⟨hz,hTI,⟨u,v,hTO⟩,⟨o1,e1,_,d1⟩,⟨o2,e2,_,d2⟩⟩:=st;simp only[wy,vF,or_false]at hc
  rcases hc with rfl|rfl|rfl|rfl|rfl
  ·exact⟨_,hz,fun v z=>nomatch z⟩
  ·exact⟨_,hTI,fun v z=>nomatch z⟩
  ·exact⟨_,hTO,fun v z=>nomatch z⟩
  ·exact⟨o1,e1,fun v z=>by rw[d1]at z;cases z⟩
  ·exact⟨o2,e2,fun v z=>by rw[d2]at z;cases z⟩
 keep:=fun i h h' st k=>by
  obtain⟨hz,hTI,⟨u,v,hTO⟩,h1,h2⟩:=st;exact⟨k z (by simp) _ hz,k TI (by simp) _ hTI,⟨u,v,k TO (by simp) _ hTO⟩,h1.at fun o e=>k i1 (by simp) o e,h2.at fun o e=>k i2 (by simp) o e⟩
 item:=by
  intro X hP hw hK hc i pins s σ H E I hf st hg;subst hP hw hK;obtain⟨hz,hTI,⟨u0,v0,hTO⟩,h1,h2⟩:=st;obtain⟨xs,ys,x,y,q1,q2,ex,ey⟩:=hg;obtain⟨its1,rv1,p1,_⟩:=I.list q1;obtain⟨its2,rv2,p2,_⟩:=I.list q2;obtain⟨u,hu,ru⟩:=rv1.get ex;obtain⟨u',hu',ru'⟩:=rv2.get ey;refine wpAny_pyNext_zip_item D hz hTI hTO h1 h2 p1.isList p2.isList (x:=u) (y:=u') (by simpa using hu) (by simpa using hu') fun h' z' TO' i1' i2' T' sz keep=>?_
  refine⟨_,rfl,wpAny_letOwnedTupleGo_zip (s:={ s with heap:=h' }) z' fun h'' z'' sb=>?_⟩;have hlt:∀ c o,s.heap.get? c=some o->c<s.heap.objs.size:=fun c o e=>Heap.lt_size e
  have zlt:=hlt _ _ hz;have TOlt:=hlt _ _ hTO;have TIlt:=hlt _ _ hTI;have i1lt:i1<s.heap.objs.size:=let ⟨o,e,_⟩:=h1;hlt _ _ e
  have i2lt:i2<s.heap.objs.size:=let ⟨o,e,_⟩:=h2;hlt _ _ e
  have fz:=hf z (by simp);have fTO:=hf TO (by simp);have f1:=hf i1 (by simp);have f2:=hf i2 (by simp);have nT:H s.heap.objs.size=none:=I.fresh;have keep2:∀ c o,c≠z->c≠TO->c≠i1->c≠i2->s.heap.get? c=some o->h''.get? c=some o:=fun c o c1 c2 c3 c4 e=>sb.extBut c o c1 (keep c o c1 c2 c3 c4 e)
  have hT:h''.get? s.heap.objs.size=some { cls:=.type "tuple",data:=.seq #[u,u'] }:=sb.extBut _ _ (GW zlt) T';have TOK:IsTup h'' s.heap.objs.size [u,u'].toArray:=⟨_,hT,rfl,_,rfl⟩;refine⟨.ref s.heap.objs.size,upd H s.heap.objs.size (.tup [x,y]),?_,rfl,⟨_,x,y,rfl,nT,rfl,fun zs h=>by rw[I.list_inj h q1];exact ex,fun zs h=>by rw[I.list_inj h q2];exact ey⟩,⟨z'',?_,⟨u,u',?_⟩,?_,?_⟩,?_⟩
  ·have nch:∀ c,H c≠none->c≠z/\c≠TO/\c≠i1/\c≠i2:=fun c hc=>⟨fun e=>hc (by rw[e];exact fz.1),fun e=>hc (by rw[e];exact fTO.1),fun e=>hc (by rw[e];exact f1.1),fun e=>hc (by rw[e];exact f2.1)⟩
   refine Inv.step (s:=s) (g':=s.gens) (d':=s.drawn) (t':=s.toks) (ch:=[z,TO,i1,i2]) (h':=h'') I (fun b hb=>?_) (fun b o _ _ hc e _=>?_) (fun b o _ _ hc e _=>⟨o.slots,?_⟩) (fun b o _ e n=>?_) (fun b o hc e=>⟨o,?_⟩) (fun b xs e=>?_) (fun b o v e=>?_) (fun b ps e=>⟨#[],?_⟩) (fun m hm=>?_) (fun b o e=>?_) I.bare
   ·simp only[wy,vF,or_false]at hb
    rcases hb with rfl|rfl|rfl|rfl
    ·exact⟨fz.2.2.2.1,fz.2.1,fz.2.2.2.2.1,fz.2.2.2.2.2⟩
    ·exact⟨fTO.2.2.2.1,fTO.2.1,fTO.2.2.2.2.1,fTO.2.2.2.2.2⟩
    ·exact⟨f1.2.2.2.1,f1.2.1,f1.2.2.2.2.1,f1.2.2.2.2.2⟩
    ·exact⟨f2.2.2.2.1,f2.2.1,f2.2.2.2.2.1,f2.2.2.2.2.2⟩
   ·simp only[wy,vF,or_false,not_or]at hc;exact keep2 b o hc.1 hc.2.1 hc.2.2.1 hc.2.2.2 e
   ·simp only[wy,vF,or_false,not_or]at hc;exact keep2 b o hc.1 hc.2.1 hc.2.2.1 hc.2.2.2 e
   ·rw[zH (vk (Heap.lt_size e))];exact n
   ·simp only[wy,vF,or_false,not_or]at hc;exact keep2 b o hc.1 hc.2.1 hc.2.2.1 hc.2.2.2 e
   ·rw[zH (zT e nT)];exact e
   ·rw[zH (zT e nT)];exact e
   ·rw[zH (zT e nT)];simpa using e
   ·obtain⟨o,es,ep,ho,r⟩:=hm;exact⟨o,es,ep,keep2 _ o (Ne.symm fz.2.1) (Ne.symm fTO.2.1) (Ne.symm f1.2.1) (Ne.symm f2.2.1) ho,r⟩
   ·by_cases hb:b=s.heap.objs.size
    ·subst hb;rw[ze]at e;cases e;exact⟨by show 2<=sizeLine;decide,[u,u'],.cons ru (.cons ru' .nil),TOK⟩
    ·rw[zH hb]at e;refine(I.hok b o e).stay (fun c v hc q=>?_) (fun c q=>by rw[zH (zT q nT)];exact q) fun c xs q=>by rw[zH (zT q nT)];exact q
     have hne:H c≠none:=by
      rcases hc with rfl|hc
      ·rw[e];exact fun z=>nomatch z
      ·rw[hc];exact fun z=>nomatch z
     obtain⟨c1,c2,c3,c4⟩:=nch c hne;exact keep2 c v c1 c2 c3 c4 q
  ·exact sb.extBut _ _ D.TIz (keep _ _ D.TIz D.TITO D.TIi1 D.TIi2 hTI)
  ·exact sb.extBut _ _ D.TOz TO'
  ·exact i1'.at fun o e=>sb.extBut _ _ D.i1z e
  ·exact i2'.at fun o e=>sb.extBut _ _ D.i2z e
  ·intro b hb;rw[zH ?_]
   ·exact(hf b hb).1
   ·simp only[wy,vF,or_false]at hb
    rcases hb with rfl|rfl|rfl|rfl|rfl
    ·exact vk zlt
    ·exact vk TIlt
    ·exact vk TOlt
    ·exact vk i1lt
    ·exact vk i2lt
 done:=by
  intro X hP hw hK hc i pins s σ H E I hf st hg;subst hP hw hK;obtain⟨hz,hTI,⟨u0,v0,hTO⟩,h1,h2⟩:=st;obtain⟨xs,ys,q1,q2,hx⟩:=hg;obtain⟨its1,rv1,p1,_⟩:=I.list q1;obtain⟨its2,rv2,p2,_⟩:=I.list q2;have l1:=rv1.length;have l2:=rv2.length;have fz:=hf z (by simp);have fTO:=hf TO (by simp);have f1:=hf i1 (by simp);have f2:=hf i2 (by simp);refine wpAny_pyNext_zip_end (I.ok.hd hc) D hz hTI hTO h1 h2 p1.isList p2.isList (by
   rcases hx with hx|hx
   ·exact .inl (by simp;omega)
   ·exact .inr (by simp;omega)) fun h' keep=>⟨rfl,?_⟩
  have nch:∀ c,H c≠none->c≠z/\c≠TO/\c≠i1/\c≠i2:=fun c hc=>⟨fun e=>hc (by rw[e];exact fz.1),fun e=>hc (by rw[e];exact fTO.1),fun e=>hc (by rw[e];exact f1.1),fun e=>hc (by rw[e];exact f2.1)⟩
  refine Inv.step (s:=s) (g':=s.gens) (d':=s.drawn) (t':=s.toks) (ch:=[z,TO,i1,i2]) (h':=h') I (fun b hb=>?_) (fun b o _ _ hc e _=>?_) (fun b o _ _ hc e _=>⟨o.slots,?_⟩) (fun b o _ e n=>n) (fun b o hc e=>⟨o,?_⟩) (fun b xs e=>e) (fun b o v e=>e) (fun b ps e=>⟨#[],by simpa using e⟩) (fun m hm=>?_) (fun b o e=>?_) I.bare
  ·simp only[wy,vF,or_false]at hb
   rcases hb with rfl|rfl|rfl|rfl
   ·exact⟨fz.2.2.2.1,fz.2.1,fz.2.2.2.2.1,fz.2.2.2.2.2⟩
   ·exact⟨fTO.2.2.2.1,fTO.2.1,fTO.2.2.2.2.1,fTO.2.2.2.2.2⟩
   ·exact⟨f1.2.2.2.1,f1.2.1,f1.2.2.2.2.1,f1.2.2.2.2.2⟩
   ·exact⟨f2.2.2.2.1,f2.2.1,f2.2.2.2.2.1,f2.2.2.2.2.2⟩
  ·simp only[wy,vF,or_false,not_or]at hc;exact keep b o hc.1 hc.2.1 hc.2.2.1 hc.2.2.2 e
  ·simp only[wy,vF,or_false,not_or]at hc;exact keep b o hc.1 hc.2.1 hc.2.2.1 hc.2.2.2 e
  ·simp only[wy,vF,or_false,not_or]at hc;exact keep b o hc.1 hc.2.1 hc.2.2.1 hc.2.2.2 e
  ·obtain⟨o,es,ep,ho,r⟩:=hm;exact⟨o,es,ep,keep _ o (Ne.symm fz.2.1) (Ne.symm fTO.2.1) (Ne.symm f1.2.1) (Ne.symm f2.2.1) ho,r⟩
  ·refine(I.hok b o e).stay (fun c v hc q=>?_) (fun c q=>q) fun c xs q=>q
   have hne:H c≠none:=by
    rcases hc with rfl|hc
    ·rw[e];exact fun z=>nomatch z
    ·rw[hc];exact fun z=>nomatch z
   obtain⟨c1,c2,c3,c4⟩:=nch c hne;exact keep c v c1 c2 c3 c4 q
 self:=fun _ _ _ _ _ st h=>wpAny_pyIter_zip st.1 h
section
variable{X:Cx}
def iZip(K:PySem.W.Frag)(ta:TA):TI:=fun σ H R=>ta σ H fun vs H1=>∃ a b xs ys,vs=[.ref a,.ref b]/\SqL K H1 a xs/\SqL K H1 b ys/\R (Itz K a b) H1
theorem zhz {a b:Expr} {ta:TA} {p pos:Pos} {elts:List Expr} {k1:Nat} {tpos:Pos} (hg:Gl X "zip") (hm:X.mg "zip" = none) (ha:PA X [a,b] ta) (hs:starEach [a,b] X.env=[(false,eval a X.env),(false,eval b X.env)]:=by rfl) (hs2:starEach [b] X.env=[(false,eval b X.env)]:=by rfl) :
  PI X (.Tuple elts k1 tpos) (.Call (.Name "zip" p) [a,b] [] pos) (iZip X.K ta):=by
 intro pins s σ H R I h;refine wpAny_Call_Name_kw (YY I hg hm zhi ?_);refine PyProof.Rows.callWith_type1 (thn (ha pos pins s σ H _ I h) fun us s1 ⟨vs,H1,I1,r1,q1⟩=>?_) (by rw[hs,hs2]) (by rw[hs2];rfl);obtain⟨a1,b1,xs,ys,rfl,h1,h2,q⟩:=q1;obtain⟨u,w',rfl,ra,rb⟩:=Vals.two r1;cases ra;cases rb;obtain⟨its1,rv1,p1,_⟩:=I1.list h1;obtain⟨its2,rv2,p2,_⟩:=I1.list h2;have l1:a1<s1.heap.objs.size:=let ⟨_,e,_⟩:=p1.isList;Heap.lt_size e
 have l2:b1<s1.heap.objs.size:=let ⟨_,e,_⟩:=p2.isList;Heap.lt_size e
 refine call_zip_2 p1.isList p2.isList fun h' hz hTI hTO hi1 hi2 hsz keep=>?_
 have I2:Inv X pins σ H1 { s1 with heap:=h' }:=I1.kept (t':=s1.toks) keep;refine wpAny_pyIter_zip (s:={ s1 with heap:=h' }) hz ?_;refine⟨_,_,_,_,H1,rfl,I2,zew _ _ _ _ _ a1 b1 (zipApart_new l1 l2),⟨hz,hTI,⟨_,_,hTO⟩,hi1,hi2⟩,fun b hb=>?_,q⟩;have hb':s1.heap.objs.size<=b:=by
  simp only[wy,vF,or_false]at hb
  rcases hb with rfl|rfl|rfl|rfl|rfl <;> omega
 exact I1.fpOk hb' (I1.hok.fresh hb')
theorem Xe(ns:List Int):∀ j,j<=ns.length->preSum (fun i=>ns.getD i 0) j =(ns.take j).sum
 | 0,_=>by simp[preSum]
 | j+1,h=>by
  have hj:j<ns.length:=h;rw[preSum,Xe ns j (ud hj),uh hj,GR];simp[Gm,hj]
theorem zdG (hc:X.calm=true):kaq X (.builtin "sum") (fun xs H Q=>∃ p ns,xs=[.ref p]/\SqL X.K H p ((ns:List Int).map V.int)/\Q (.int ns.sum) H):=by
 intro pins s σ H xs us Q I r h;obtain⟨p,ns,rfl,hq,q⟩:=h;obtain⟨u,rfl,ru⟩:=Vals.one r;cases ru;obtain⟨its,rv,pl,_⟩:=I.list hq;have hh:X.A.in1.handled=none:=I.ok.hd hc;have lt:p<s.heap.objs.size:=let ⟨_,e,_⟩:=pl.isList;Heap.lt_size e
 have hl:its.length=ns.length:=by rw[← rv.length,wc]
 refine call_sum_walkG (wpAny_pyIter_list pl.isList ?_);refine⟨s.heap.objs.size,_,_,_,_,_,fun i=>ns.getD i 0,rfl,Walks.list hh s.heap.objs.size p (vk lt) its.toArray,⟨⟨_,Heap.get?_push_size _ rfl,rfl,rfl⟩,pl.isList.at fun o e=>Heap.get?_push_of_some _ e⟩,fun b hb=>?_,fun i v hv=>?_,fun h' tk t' keep=>?_⟩
 ·simp only[wy,vF,or_false]at hb
  rcases hb with rfl|rfl
  ·rw[Heap.size_push];exact uM _
  ·rw[Heap.size_push];exact Gz lt
 ·have hv':its[i]?=some v:=by simpa using hv
  have hi:i<ns.length:=by rw[← hl];exact(wm.mp hv').1
  obtain⟨u,hu,ru⟩:=rv.get (i:=i) (x:=.int ns[i]) (by rw[wf,wa hi];rfl);rw[hu]at hv';cases hv';obtain⟨t,e⟩:=ru;refine⟨t,?_⟩;rw[e];simp[Gm,hi]
 ·have e:preSum (fun i=>ns.getD i 0) its.toArray.size=ns.sum:=by
   rw[wx,hl,Xe ns _ (wl _),uN]
  rw[e];refine⟨.int ns.sum,H,?_,⟨t',rfl⟩,q⟩;exact I.kept (h':=h') (t':=tk) fun b o eb=>keep b o (by simp only[wy,vF,or_false];exact vk (Heap.lt_size eb)) (Heap.get?_push_of_some _ eb)
end
end L2
namespace L2
open PySem PySem.Spec PyProof.Rows Nm
def toD:Nb->PyData
 | .q r=>.tuple [.int r.num,.int (r.den:Int)]
 | .z i=>.int i
def RN(H:Hp)(x:Nb)(v:V):Prop:=Rp H (toD x) v
theorem RN.q{H:Hp}{r:Rat}{v:V}(h:RN H (.q r) v):∃ a,v=.ref a/\H a=some (.tup [.int r.num,.int (r.den:Int)]):=by
 simp only[RN,toD,Rp,Rps]at h;obtain⟨a,xs,e,h1,x,r1,e1,e2,y,r2,e3,e4,e5⟩:=h;subst e5 e4 e3 e2 e1;exact⟨a,e,h1⟩
theorem RN.of_q{H:Hp}{r:Rat}{a:Addr}(h:H a=some (.tup [.int r.num,.int (r.den:Int)])):RN H (.q r) (.ref a):=by
 simp only[RN,toD,Rp,Rps];exact⟨a,_,rfl,h,_,_,rfl,rfl,_,_,rfl,rfl,rfl⟩
theorem RN.z{H:Hp}{i:Int}{v:V}(h:RN H (.z i) v):v=.int i:=by
 simpa only [RN,toD,Rp] using h
theorem RN.of_z{H:Hp}{i:Int}:RN H (.z i) (.int i):=by
 simp only[RN,toD,Rp]
theorem RN.mono{H H':Hp}{x:Nb}{v:V}(h:RN H x v)(g:Same H H'):RN H' x v:=Rp.mono g _ _ h
theorem zaA(x:Nb):(toD x).canLay0=true:=by
 cases x <;> rfl
theorem QD(x:Nb):(toD x).depth<=1:=by
 cases x <;> simp[toD,PyData.depth,PyData.depthAll]
theorem zdA(x y:Nb):PyData.eqv (toD x) (toD y)=decide (x=y):=by
 cases x with
 | q r =>
  cases y with
  | q s =>
   show((r.num == s.num) && (((r.den:Int) ==(s.den:Int)) && true))=decide (Nb.q r=Nb.q s)
   by_cases h:r=s
   ·subst h;simp
   ·have h':¬ Nb.q r=Nb.q s:=fun z=>h (Nb.q.inj z)
    rw[decide_eq_false h'];rw[Bool.and_eq_false_iff]
    by_cases h1:r.num=s.num
    ·right
     rw[Bool.and_true];have:¬(r.den:Int) =(s.den:Int):=fun z=>h (Rat.ext h1 (by omega))
     simp[this]
    ·left;simp[h1]
  | z j=>simp[toD,PyData.eqv]
 | z i =>
  cases y with
  | q s=>simp[toD,PyData.eqv]
  | z j =>
   show(i == j)=decide (Nb.z i=Nb.z j)
   by_cases h:i=j
   ·subst h;simp
   ·have h':¬ Nb.z i=Nb.z j:=fun z=>h (Nb.z.inj z)
    rw[decide_eq_false h'];simp[h]
def nsm(n:Nat):Nb->Prop
 | .q r=>Sm n r.num/\Sm n (r.den:Int)
 | .z i=>Sm n i
theorem nsm.mono{m n:Nat}{x:Nb}(h:nsm m x)(hmn:m<=n):nsm n x:=by
 cases x with
 | q r=>exact⟨Sm.mono h.1 hmn,Sm.mono h.2 hmn⟩
 | z i=>exact Sm.mono (show Sm m i from h) hmn
theorem Qb{k i:Int}(h0:0<=i)(h1:i<k)(h9:k<2305843009213693952):Sm 61 i:=by
 unfold Sm;have:(2:Nat)^61=2305843009213693952:=by decide
 omega
theorem Ji{t b:Int}(hb:b≠0):((vQ t b).den:Int).natAbs<=b.natAbs:=by
 have h:=(YO (t:=t) hb).2;rw[← h,vT (Ze t b)];have e:=uo (Ze t b);have h1:(b / sg t b*sg t b).natAbs=b.natAbs:=by rw[e]
 rw[vM]at h1;have h2:0 <(sg t b).natAbs:=gE.mpr (zcm hb);rw[← h1];exact um _ h2
theorem JN{t b:Int}(hb:b≠0):(vQ t b).num.natAbs<=t.natAbs:=by
 have h:=(YO (t:=t) hb).1;rw[← h,vT (qX t b)];have e:=uo (qX t b);have h1:(t / sg t b*sg t b).natAbs=t.natAbs:=by rw[e]
 rw[vM]at h1;have h2:0 <(sg t b).natAbs:=gE.mpr (zcm hb);rw[← h1];exact um _ h2
theorem jD{m n:Nat}{t b:Int}(hb:b≠0)(ht:Sm m t)(hs:Sm n b):Sm m (vQ t b).num/\Sm n ((vQ t b).den:Int):=⟨ht.le (JN hb),hs.le (Ji hb)⟩
theorem zgv{k:Int}(hk:k≠0)(k0:0<=k)(a:Int):Nb.ok k (.z (a.fmod k)):=⟨hk,wp a (by omega),wv a (by omega)⟩
theorem qT{k:Int}{x y:Nb}(hx:x.ok k)(hy:y.ok k):(k=0/\∃ r s,x=.q r/\y=.q s)\/(k≠0/\∃ i j,x=.z i/\y=.z j/\0<=i/\i<k/\0<=j/\j<k):=by
 cases x with
 | q r =>
  cases y with
  | q s=>exact .inl ⟨hx,r,s,rfl,rfl⟩
  | z j=>exact absurd (show k=0 from hx) hy.1
 | z i =>
  cases y with
  | q s=>exact absurd (show k=0 from hy) hx.1
  | z j=>exact .inr ⟨hx.1,i,j,rfl,rfl,hx.2.1,hx.2.2,hy.2.1,hy.2.2⟩
section
variable{k:Int}{x y:Nb}
theorem Jm(k0:0<=k)(hx:x.ok k)(hy:y.ok k):(nsub k x y).ok k:=by
 rcases qT hx hy with⟨h,r,s,rfl,rfl⟩|⟨h,i,j,rfl,rfl,_⟩
 ·exact h
 ·exact zgv h k0 _
theorem zgp{n:Nat}(hk:kab k)(h:k≠0)(hn:61<=n)(a:Int):nsm n (.z (a.fmod k)):=by
 have hl:=hk.lt;have h0:=wp a (show 0<k by omega);have h1:=wv a (show 0<k by omega);exact(Qb h0 h1 hl.2).mono hn
theorem xT(r s:Rat):(r.den:Int) *(s.den:Int)≠0:=uV (xV r) (xV s)
theorem zdV{m:Nat}(hk:kab k)(hx:x.ok k)(hy:y.ok k)(sx:nsm m x)(sy:nsm m y)(hm:61<=m):nsm (m+m+1) (nsub k x y):=by
 rcases qT hx hy with⟨h,r,s,rfl,rfl⟩|⟨h,i,j,rfl,rfl,_⟩
 ·show Sm _ (r - s).num/\Sm _ ((r - s).den:Int);rw[← zaj];obtain⟨h1,h2⟩:=jD (t:=r.num*s.den - s.num*r.den) (xT r s) ((sx.1.mul sy.2).sub (sy.1.mul sx.2)) (sx.2.mul sy.2);exact⟨h1,h2.mono (gI _)⟩
 ·exact zgp hk h (by omega) _
theorem zgk{m:Nat}(hk:kab k)(hx:x.ok k)(hy:y.ok k)(sx:nsm m x)(sy:nsm m y)(hm:61<=m):nsm (m+m) (nmul k x y):=by
 rcases qT hx hy with⟨h,r,s,rfl,rfl⟩|⟨h,i,j,rfl,rfl,_⟩
 ·show Sm _ (r*s).num/\Sm _ ((r*s).den:Int);rw[← zaP];exact jD (xT r s) (sx.1.mul sy.1) (sx.2.mul sy.2)
 ·exact zgp hk h (by omega) _
end
end L2
namespace L2
open PySem PySem.Spec PyProof.Rows Nm
section
variable{α β:Type}{R S:α->β->Prop}
theorem zj:∀ {xs:List α} {ys:List β},Paired R xs ys->xs.length=ys.length
 | _,_,.nil=>rfl
 | _,_,.cons _ t=>congrArg (·+1) (zj t)
theorem yZ(f:∀ a b,R a b->S a b):∀ {xs:List α} {ys:List β},Paired R xs ys->Paired S xs ys
 | _,_,.nil=>.nil
 | _,_,.cons r t=>.cons (f _ _ r) (yZ f t)
theorem Zi:∀ {xs xs':List α} {ys ys':List β},Paired R xs ys->Paired R xs' ys'->Paired R (xs++xs') (ys++ys')
 | _,_,_,_,.nil,s=>s
 | _,_,_,_,.cons r t,s=>.cons r (Zi t s)
theorem yu{xs:List α}{ys:List β}{a:α}{b:β}(h:Paired R xs ys)(r:R a b):Paired R (xs++[a]) (ys++[b]):=Zi h (.cons r .nil)
theorem yU:∀ {xs:List α} {ys:List β} {i:Nat} {a:α},Paired R xs ys->xs[i]?=some a->∃ b,ys[i]?=some b/\R a b
 | _,_,_,_,.nil,e=>by simp at e
 | _,_,0,_,.cons r _,e=>by simp at e;subst e;exact⟨_,rfl,r⟩
 | _,_,i+1,a,.cons _ t,e=>by
  obtain⟨b,h1,h2⟩:=yU (i:=i) (a:=a) t (by simpa using e);exact⟨b,by simpa using h1,h2⟩
theorem zU:∀ {xs:List α} {ys:List β} {i:Nat} {b:β},Paired R xs ys->ys[i]?=some b->∃ a,xs[i]?=some a/\R a b
 | _,_,_,_,.nil,e=>by simp at e
 | _,_,0,_,.cons r _,e=>by simp at e;subst e;exact⟨_,rfl,r⟩
 | _,_,i+1,b,.cons _ t,e=>by
  obtain⟨a,h1,h2⟩:=zU (i:=i) (b:=b) t (by simpa using e);exact⟨a,by simpa using h1,h2⟩
theorem zdB:∀ {xs:List α} {ys:List β} {b:β},Paired R xs ys->b∈ys->∃ a∈xs,R a b
 | _,_,_,.nil,e=>nomatch e
 | _,_,b,.cons r t,e=>by
  rcases wy.mp e with rfl|e
  ·exact⟨_,wq,r⟩
  ·obtain⟨a,h1,h2⟩:=zdB t e;exact⟨a,wD _ h1,h2⟩
end
theorem zr{α:Type}{l:List α}{i:Nat}{x:α}(h:l[i]?=some x):l.take (i+1)=l.take i++[x]:=by
 obtain⟨hi,e⟩:=wm.mp h;rw[uh hi,e]
def kai(H:Hp)(xs:List Nb)(a:Addr):Prop:=∃ vs,H a=some (.lst vs)/\Paired (RN H) xs vs
def kah(H:Hp)(M:TB)(top:Addr)(ras:List Addr):Prop:=H top=some (.lst (ras.map V.ref))/\Paired (kai H) M ras
theorem yz{H H':Hp}(g:Same H H'){xs:List Nb}{vs:List V}(h:Paired (RN H) xs vs):Paired (RN H') xs vs:=yZ (fun _ _ r=>r.mono g) h
theorem kai.mono{H H':Hp}{xs:List Nb}{a:Addr}(h:kai H xs a)(g:Same H H'):kai H' xs a :=
 let ⟨vs,h1,h2⟩:=h
 ⟨vs,g _ _ h1,yz g h2⟩
theorem kah.mono{H H':Hp}{M:TB}{top:Addr}{ras:List Addr}(h:kah H M top ras)(g:Same H H'):kah H' M top ras:=⟨g _ _ h.1,yZ (fun _ _ r=>r.mono g) h.2⟩
theorem kah.row{H:Hp}{M:TB}{top:Addr}{ras:List Addr}{i:Nat}{v:V}(h:kah H M top ras)(e:(ras.map V.ref)[i]?=some v):∃ xs a,M[i]?=some xs/\ras[i]?=some a/\v=.ref a/\kai H xs a:=by
 rw[wf]at e;obtain⟨a,ha,rfl⟩:=vB.mp e;obtain⟨xs,hx,r⟩:=zU h.2 ha;exact⟨xs,a,hx,ha,rfl,r⟩
def rowD(xs:List Nb):PyData:=.list (xs.map toD)
def tabD(M:TB):PyData:=.list (M.map rowD)
theorem zdf{H:Hp}:∀ {xs:List Nb} {vs:List V},Paired (RN H) xs vs->Rps H (xs.map toD) vs
 | _,_,.nil=>by simp[Rps]
 | _,_,.cons r t=>by
  simp only[vV,Rps];exact⟨_,_,rfl,r,zdf t⟩
theorem kai.rp{H:Hp}{xs:List Nb}{a:Addr}(h:kai H xs a):Rp H (rowD xs) (.ref a):=by
 obtain⟨vs,h1,h2⟩:=h;simp only[rowD,Rp];exact⟨a,vs,rfl,h1,zdf h2⟩
theorem zbn{H:Hp}:∀ {M:TB} {ras:List Addr},Paired (kai H) M ras->Rps H (M.map rowD) (ras.map V.ref)
 | _,_,.nil=>by simp[Rps]
 | _,_,.cons r t=>by
  simp only[vV,Rps];exact⟨_,_,rfl,r.rp,zbn t⟩
theorem kah.rp{H:Hp}{M:TB}{top:Addr}{ras:List Addr}(h:kah H M top ras):Rp H (tabD M) (.ref top):=by
 simp only[tabD,Rp];exact⟨top,_,rfl,h.1,zbn h.2⟩
theorem ZY{α:Type}(f:α->PyData)(h:∀ x,(f x).canLay0=true):∀ l:List α,PyData.canLayAll0 (l.map f)=true
 | []=>rfl
 | x::r=>by
  show((f x).canLay0 && PyData.canLayAll0 (r.map f))=true;rw[h x,ZY f h r];rfl
theorem ql{α:Type}(f:α->PyData)(n:Nat)(h:∀ x,(f x).depth<=n):∀ l:List α,PyData.depthAll (l.map f)<=n
 | []=>vN _
 | x::r=>by
  show max (f x).depth (PyData.depthAll (r.map f))<=n;exact Nat.max_le.mpr ⟨h x,ql f n h r⟩
theorem jS(xs:List Nb):(rowD xs).canLay0=true:=ZY toD zaA xs
theorem qG(xs:List Nb):(rowD xs).depth<=2:=GJ (ql toD 1 QD xs)
theorem qV(M:TB):(tabD M).canLay0=true:=ZY rowD jS M
theorem jB(M:TB):(tabD M).depth<=3:=GJ (ql rowD 2 qG M)
theorem Yb{α:Type}(f:α->PyData)(h:∀ x,PyData.eqv (f x) (f x)=true):∀ l:List α,PyData.eqvAll (l.map f) (l.map f)=true
 | []=>rfl
 | x::r=>by
  show(PyData.eqv (f x) (f x) && PyData.eqvAll (r.map f) (r.map f))=true;rw[h x,Yb f h r];rfl
theorem zeZ(x:Nb):PyData.eqv (toD x) (toD x)=true:=by rw[zdA];simp
theorem Zr(xs:List Nb):PyData.eqv (rowD xs) (rowD xs)=true:=Yb toD zeZ xs
theorem qr(M:TB):PyData.eqv (tabD M) (tabD M)=true:=Yb rowD Zr M
def Nxt(n i:Nat)(J:Prop):Prop:=∃ m',m'<n - i/\m'=n - (i+1)/\i+1<=n/\J
theorem nxt{n i:Nat}{J:Prop}(h:i<n)(j:J):Nxt n i J:=⟨n - (i+1),by omega,rfl,h,j⟩
section
variable{K:PySem.W.Frag}{g:TG}{tt:TT}{te:TE}{R:List V->Hp->Prop}{H:Hp}{σb:St}
theorem yt{a:Addr}{xs:List V}(J:Nat->List V->Hp->Prop)(h0:J 0 [] H)(hl:∀(i:Nat)(ys:List V)(H':Hp),i<=xs.length->J i ys H'->SqL K H' a xs/\ys.length<sizeLine)
  (hs:∀(i:Nat)(x:V)(ys:List V)(H':Hp),xs[i]?=some x->i<xs.length->J i ys H'->g x σb H' fun σ2 H2=>tt σ2 H2 fun b H3=>if b=true then te σ2 H3 fun y H4=>Nxt xs.length i (J (i+1) (ys++[y]) H4)else Nxt xs.length i (J (i+1) ys H3))
  (hd:∀(ys:List V)(H':Hp),J xs.length ys H'->R ys H') :
  ∃ W:Nat->Nat->List V->Hp->Prop,(∃ m,W 0 m [] H)/\∀ i m ys H,W i m ys H ->
   ((Itl K a).stop i H/\ys.length<=sizeLine/\R ys H) \/
   ((Itl K a).go i H/\ys.length<sizeLine/\∀ x H',(Itl K a).yld i H x H'->g x σb H' fun σ2 H2=>tt σ2 H2 fun b H3=>if b=true then te σ2 H3 fun y H4=>∃ m',m'<m/\W (i+1) m' (ys++[y]) H4 else ∃ m',m'<m/\W (i+1) m' ys H3):=by
 refine⟨fun i m ys H=>m=xs.length - i/\i<=xs.length/\J i ys H,⟨xs.length,by simp,vN _,h0⟩,?_⟩
 rintro i m ys H1 ⟨rfl,hi,j⟩
 obtain⟨q,hz⟩:=hl i ys H1 hi j
 by_cases hlt:i<xs.length
 ·refine .inr ⟨⟨xs,xs[i],q,by simp[hlt]⟩,hz,fun x H' y=>?_⟩;obtain⟨e,y⟩:=y;subst e;exact hs i x ys _ (y xs q) hlt j
 ·have e:i=xs.length:=by omega
  subst e;exact .inl ⟨⟨xs,q,wl _⟩,ud hz,hd ys H1 j⟩
theorem zZ{lo:Int}{n:Nat}(J:Nat->List V->Hp->Prop)(h0:J 0 [] H)(hl:∀(i:Nat)(ys:List V)(H':Hp),i<=n->J i ys H'->ys.length<sizeLine)
  (hs:∀(i:Nat)(ys:List V)(H':Hp),i<n->J i ys H'->g (.int (lo+i)) σb H' fun σ2 H2=>tt σ2 H2 fun b H3=>if b=true then te σ2 H3 fun y H4=>Nxt n i (J (i+1) (ys++[y]) H4)else Nxt n i (J (i+1) ys H3))
  (hd:∀(ys:List V)(H':Hp),J n ys H'->R ys H') :
  ∃ W:Nat->Nat->List V->Hp->Prop,(∃ m,W 0 m [] H)/\∀ i m ys H,W i m ys H ->
   ((Itr lo n).stop i H/\ys.length<=sizeLine/\R ys H) \/
   ((Itr lo n).go i H/\ys.length<sizeLine/\∀ x H',(Itr lo n).yld i H x H'->g x σb H' fun σ2 H2=>tt σ2 H2 fun b H3=>if b=true then te σ2 H3 fun y H4=>∃ m',m'<m/\W (i+1) m' (ys++[y]) H4 else ∃ m',m'<m/\W (i+1) m' ys H3):=by
 refine⟨fun i m ys H=>m=n - i/\i<=n/\J i ys H,⟨n,by simp,vN _,h0⟩,?_⟩
 rintro i m ys H1 ⟨rfl,hi,j⟩
 have hz:=hl i ys H1 hi j
 by_cases hlt:i<n
 ·refine .inr ⟨hlt,hz,fun x H' y=>?_⟩;obtain⟨e,y⟩:=y;subst e y;exact hs i ys _ hlt j
 ·have e:i=n:=by omega
  subst e;exact .inl ⟨wl _,ud hz,hd ys H1 j⟩
theorem jP{a b:Addr}{xs zs:List V}(he:xs.length=zs.length)(J:Nat->List V->Hp->Prop)(h0:J 0 [] H)(hl:∀(i:Nat)(ys:List V)(H':Hp),i<=xs.length->J i ys H'->SqL K H' a xs/\SqL K H' b zs/\ys.length<sizeLine)
  (hs:∀(i:Nat)(x z:V)(T:Addr)(ys:List V)(H':Hp),xs[i]?=some x->zs[i]?=some z->i<xs.length->H' T=none->J i ys H'->g (.ref T) σb (upd H' T (.tup [x,z])) fun σ2 H2=>tt σ2 H2 fun b H3=>if b=true then te σ2 H3 fun y H4=>Nxt xs.length i (J (i+1) (ys++[y]) H4)else Nxt xs.length i (J (i+1) ys H3))
  (hd:∀(ys:List V)(H':Hp),J xs.length ys H'->R ys H') :
  ∃ W:Nat->Nat->List V->Hp->Prop,(∃ m,W 0 m [] H)/\∀ i m ys H,W i m ys H ->
   ((Itz K a b).stop i H/\ys.length<=sizeLine/\R ys H) \/
   ((Itz K a b).go i H/\ys.length<sizeLine/\∀ x H',(Itz K a b).yld i H x H'->g x σb H' fun σ2 H2=>tt σ2 H2 fun b H3=>if b=true then te σ2 H3 fun y H4=>∃ m',m'<m/\W (i+1) m' (ys++[y]) H4 else ∃ m',m'<m/\W (i+1) m' ys H3):=by
 refine⟨fun i m ys H=>m=xs.length - i/\i<=xs.length/\J i ys H,⟨xs.length,by simp,vN _,h0⟩,?_⟩
 rintro i m ys H1 ⟨rfl,hi,j⟩
 obtain⟨q1,q2,hz⟩:=hl i ys H1 hi j
 by_cases hlt:i<xs.length
 ·refine .inr ⟨⟨xs,zs,xs[i],zs[i]'(by omega),q1,q2,by simp[hlt],by simp[show i<zs.length by omega]⟩,hz,fun x H' y=>?_⟩;obtain⟨T,u,v,rfl,hT,rfl,y1,y2⟩:=y;exact hs i u v T ys _ (y1 xs q1) (y2 zs q2) hlt hT j
 ·have e:i=xs.length:=by omega
  subst e;exact .inl ⟨⟨xs,zs,q1,q2,.inl (wl _)⟩,ud hz,hd ys H1 j⟩
end
theorem zfT{K:PySem.W.Frag}{a b:Addr}{xs zs:List V}{g:TG}{tb:TS}{D:Ends}{σ:St}{H:Hp}(he:xs.length=zs.length)(Pv:Nat->St->Hp->Prop)(h0:Pv 0 σ H)(hl:∀ i σ H,i<=xs.length->Pv i σ H->SqL K H a xs/\SqL K H b zs)
  (hs:∀(i:Nat)(x z:V)(T:Addr)(σ:St)(H:Hp),xs[i]?=some x->zs[i]?=some z->H T=none->Pv i σ H->g (.ref T) σ (upd H T (.tup [x,z])) fun σ2 H2=>tb { D with nx:=Pv (i+1),ct:=Pv (i+1),bk:=D.nx } σ2 H2) (hd:∀ σ H,Pv xs.length σ H->D.nx σ H) :
  ∃ W:Nat->Nat->St->Hp->Prop,(∃ m,W 0 m σ H)/\∀ i m σ H,W i m σ H ->
   ((Itz K a b).stop i H/\D.nx σ H)\/((Itz K a b).go i H/\∃ N:St->Hp->Prop,(∀ σ' H',N σ' H'->∃ m',m'<m/\W (i+1) m' σ' H')/\∀ x H',(Itz K a b).yld i H x H'->g x σ H' fun σ2 H2=>tb { D with nx:=N,ct:=N,bk:=D.nx } σ2 H2):=by
 refine⟨fun i m σ H=>m=xs.length - i/\i<=xs.length/\Pv i σ H,⟨xs.length,by simp,vN _,h0⟩,?_⟩
 rintro i m σ H ⟨rfl,hi,p⟩
 obtain⟨q1,q2⟩:=hl i σ H hi p
 by_cases hlt:i<xs.length
 ·refine .inr ⟨⟨xs,zs,xs[i],zs[i]'(by omega),q1,q2,by simp[hlt],by simp[show i<zs.length by omega]⟩,Pv (i+1),fun σ' H' p'=>⟨xs.length - (i+1),by omega,rfl,hlt,p'⟩,fun x H' y=>?_⟩;obtain⟨T,u,v,rfl,hT,rfl,y1,y2⟩:=y;exact hs i u v T σ _ (y1 xs q1) (y2 zs q2) hT p
 ·have e:i=xs.length:=by omega
  subst e;exact .inl ⟨⟨xs,zs,q1,q2,.inl (wl _)⟩,hd σ H p⟩
end L2
namespace La
open Lean.Grind
section
variable{F:Type}[Field F]
variable{S T:(Nat->F)->Prop}{u v:Nat->F}
abbrev Pv(F:Type):=Nat×(Nat->F)
variable{n:Nat}{P Q:List (Pv F)}
variable{c:Nat}{O:(Nat->F)->Prop}{D D':List (Pv F)}{W W':List (Nat->F)}
end
end La
namespace La
open Lean.Grind Nm
def ι{F:Type}[CommRing F](w:Int):F:=(Ring.intCast:IntCast F).intCast w
section
variable{F:Type}[CommRing F]
theorem ι_add(x y:Int):(ι (x+y):F)=ι x+ι y:=Ring.intCast_add x y
theorem ι_mul(x y:Int):(ι (x*y):F)=ι x*ι y:=Ring.intCast_mul x y
theorem ι_sub(x y:Int):(ι (x - y):F)=ι x - ι y:=Ring.intCast_sub x y
theorem ι_neg(x:Int):(ι (-x):F) = -ι x:=Ring.intCast_neg x
theorem ι_zero:(ι 0:F)=0:=Ring.intCast_zero
theorem ι_one:(ι 1:F)=1:=Ring.intCast_one
end
structure Kf(k:Int)(F:Type)[Field F] where
 to:Nb->F
 of:F->Nb
 ok:∀ x,(of x).ok k
 to_of:∀ x,to (of x)=x
 of_to:∀ x,x.ok k->of (to x)=x
 add:∀ {x y},x.ok k->y.ok k->to (nadd k x y)=to x+to y
 sub:∀ {x y},x.ok k->y.ok k->to (nsub k x y)=to x - to y
 mul:∀ {x y},x.ok k->y.ok k->to (nmul k x y)=to x*to y
 div:∀ {x y},x.ok k->y.ok k->y≠nnum k 0->to (ndiv k x y)=to x / to y
 num:∀ w:Int,to (nnum k w)=ι w
 zero:∀ w:Int,(ι w:F)=0↔k ∣ w
 rat:∀ r:Rat,k=0->to (.q r)*ι (r.den:Int)=ι r.num
 rest:∀ i:Int,k≠0->to (.z i)=ι i
def zpw{F:Type}[CommRing F](inv:F->F)(a:F):Int->F
 | .ofNat n=>a^n
 | .negSucc n=>inv (a^(n+1))
@[reducible] noncomputable def fieldOf {F:Type} [CommRing F] (h01:(0:F)≠1) (hinv:∀ a:F,∃ b:F,(a=0->b=0)/\(a≠0->a*b=1)):Field F :=
 have un:∀ a b c:F,a*b=1->a*c=1->b=c:=fun a b c h1 h2=>by
  have:b=b *(a*c):=by rw[h2];grind
  have:c=c *(a*b):=by rw[h1];grind
  grind
 let inv:F->F:=fun a=>Classical.choose (hinv a)
 have i0:∀ a,a=0->inv a=0:=fun a=>(Gn (hinv a)).1
 have i1:∀ a,a≠0->a*inv a=1:=fun a=>(Gn (hinv a)).2
 have ii:∀ a,inv (inv a)=a:=fun a=>by
  by_cases h:a=0
  ·rw[i0 a h,i0 0 rfl,h]
  ·have h':inv a≠0:=fun z=>by
    have:=i1 a h;rw[z]at this;exact h01 (by rw[← this];grind)
   have e1:=i1 a h;have e2:=i1 _ h';exact un (inv a) _ _ e2 (by rw[← e1];grind)
 letI:Inv F:=⟨inv⟩
 letI:Div F:=⟨fun a b=>a*inv b⟩
 letI:HPow F Int F:=⟨zpw inv⟩
 {zpow:=⟨zpw inv⟩
  div_eq_mul_inv:=fun a b=>rfl
  zero_ne_one:=h01
  inv_zero:=i0 0 rfl
  mul_inv_cancel:=fun {a} h=>i1 a h
  zpow_zero:=fun a=>Semiring.pow_zero a
  zpow_succ:=fun a n=>Semiring.pow_succ a n
  zpow_neg:=fun a n=>by
   show zpw inv a (-n)=inv (zpw inv a n)
   match n with
   | .ofNat 0 =>
    show a^0=inv (a^0);rw[Semiring.pow_zero];have:=i1 1 (Ne.symm h01);exact un 1 _ _ (by grind) this
   | .ofNat (m+1)=>rfl
   | .negSucc m =>
    show a^(m+1)=inv (inv (a^(m+1)));rw[ii] }
def kfRat:Kf 0 Rat where
 to:=fun x=>match x with | .q r=>r | .z _=>0
 of:=.q
 ok:=fun _=>rfl
 to_of:=fun _=>rfl
 of_to:=fun x h=>by cases x with
  | q r=>rfl
  | z i=>exact absurd rfl h.1
 add:=fun {x y} hx hy=>by
  cases x with
  | z i=>exact absurd rfl hx.1
  | q r=>cases y with
   | z i=>exact absurd rfl hy.1
   | q s=>rfl
 sub:=fun {x y} hx hy=>by
  cases x with
  | z i=>exact absurd rfl hx.1
  | q r=>cases y with
   | z i=>exact absurd rfl hy.1
   | q s=>rfl
 mul:=fun {x y} hx hy=>by
  cases x with
  | z i=>exact absurd rfl hx.1
  | q r=>cases y with
   | z i=>exact absurd rfl hy.1
   | q s=>rfl
 div:=fun {x y} hx hy _=>by
  cases x with
  | z i=>exact absurd rfl hx.1
  | q r=>cases y with
   | z i=>exact absurd rfl hy.1
   | q s=>rfl
 num:=fun w=>rfl
 zero:=fun w=>by
  rw[wah];exact uC
 rat:=fun r _=>by
  show r *((r.den:Int):Rat) =((r.num:Int):Rat);have e:vQ r.num r.den*vQ (r.den:Int) 1=vQ r.num 1:=by
   rw[Gj,gP (by have:=xV r;omega) (by decide)]
   grind
  have o:∀ a:Int,vQ a 1 =(a:Rat):=fun a=>by
   rw[GA];show(a:Rat) / 1=a
   grind
  rw[uZ,o,o]at e;exact e
 rest:=fun i h=>absurd rfl h
theorem zdZ{F:Type}[Field F]{a b z:F}(h:z*b=1):a*z=a / b:=by
 have n:b≠0:=fun e=>by rw[e]at h;grind
 grind
section
variable{k:Int}{p:Nat}[NeZero p]
theorem zh1(hp:(p:Int)=k):(ι k:Fin p)=0:=by
 subst hp;show Fin.intCast (p:Int)=0;unfold Fin.intCast;rw[if_pos (ur p)];refine Fin.ext ?_;show(p:Int).natAbs % p=0 % p;simp
theorem zdm(hp:(p:Int)=k){w:Int}(h:k ∣ w):(ι w:Fin p)=0:=by
 obtain⟨c,rfl⟩:=h;rw[ι_mul,zh1 hp];grind
theorem Zh(hp:(p:Int)=k){a b:Int}(h:k ∣ a - b):(ι a:Fin p)=ι b:=by
 have:=zdm hp h;rw[ι_sub]at this
 grind
theorem zcG(hp:(p:Int)=k){i:Int}(h0:0<=i)(h1:i<k):((ι i:Fin p).val:Int)=i:=by
 show((Fin.intCast i:Fin p).val:Int)=i;unfold Fin.intCast;rw[if_pos h0];show((i.natAbs % p:Nat):Int)=i;rw[GK (by omega)];omega
theorem fin_ι(x:Fin p):(ι (x.val:Int):Fin p)=x:=by
 show(Fin.intCast (x.val:Int):Fin p)=x;unfold Fin.intCast;rw[if_pos (ur _)];refine Fin.ext ?_;show(x.val:Int).natAbs % p=x.val;rw[uk,GK x.isLt]
theorem za9(hp:(p:Int)=k)(w:Int):(ι w:Fin p)=0↔k ∣ w:=by
 refine⟨fun h=>?_,zdm hp⟩;have k0:0<k:=by have:=NeZero.ne p;omega
 have e:(ι w:Fin p)=ι (w % k):=Zh hp ⟨w / k,by have:=uJ w k;omega⟩;have v:=zcG (p:=p) hp (uU w (by omega)) (uD w k0);rw[← e,h]at v;have:w % k=0:=by rw[← v];rfl
 exact Int.dvd_of_emod_eq_zero this
theorem zf5(h:Pr k)(hp:(p:Int)=k)(a:Fin p):∃ b:Fin p,(a=0->b=0)/\(a≠0->a*b=1):=by
 by_cases z:a=0
 ·exact⟨0,fun _=>rfl,fun n=>absurd z n⟩
 ·have a0:0 <(a.val:Int):=by
   have:a.val≠0:=fun e=>z (Fin.ext e)
   omega
  obtain⟨x,x0,xk,hx⟩:=XR h a0 (by have:=a.isLt;omega);refine⟨ι x,fun e=>absurd e z,fun _=>?_⟩;have:=Zh (p:=p) hp hx;rw[ι_mul,fin_ι,ι_one]at this
  grind
theorem zhs(h:Pr k)(hp:(p:Int)=k):(0:Fin p)≠1:=fun e=>by
 have:(ι 1:Fin p)=0:=by rw[ι_one];exact e.symm
 have:=(za9 hp 1).mp this;have:=Gr (by decide) this;have:=h.lo;omega
@[reducible] noncomputable def fieldFin (h:Pr k) (hp:(p:Int)=k):Field (Fin p):=fieldOf (zhs h hp) (zf5 h hp)
def kfFin(h:Pr k)(hp:(p:Int)=k) : @Kf k (Fin p) (fieldFin h hp) :=
 letI:=fieldFin h hp
 have k1:=h.lo;have k0:k≠0:=by omega
 have fm:∀ a:Int,(ι (a.fmod k):Fin p)=ι a:=fun a=>Zh hp (QG k a)
 {to:=fun x=>match x with | .q _=>0 | .z i=>ι i
  of:=fun x=>.z x.val
  ok:=fun x=>⟨k0,ur _,by have:=x.isLt;omega⟩
  to_of:=fun x=>fin_ι x
  of_to:=fun x hx=>by cases x with
   | q r=>exact absurd hx k0
   | z i=>exact congrArg Nb.z (zcG hp hx.2.1 hx.2.2)
  add:=fun {x y} hx hy=>by
   cases x with
   | q r=>exact absurd hx k0
   | z i=>cases y with
    | q s=>exact absurd hy k0
    | z j=>exact(fm _).trans (ι_add i j)
  sub:=fun {x y} hx hy=>by
   cases x with
   | q r=>exact absurd hx k0
   | z i=>cases y with
    | q s=>exact absurd hy k0
    | z j=>exact(fm _).trans (ι_sub i j)
  mul:=fun {x y} hx hy=>by
   cases x with
   | q r=>exact absurd hx k0
   | z i=>cases y with
    | q s=>exact absurd hy k0
    | z j=>exact(fm _).trans (ι_mul i j)
  div:=fun {x y} hx hy ne=>by
   cases x with
   | q r=>exact absurd hx k0
   | z i=>cases y with
    | q s=>exact absurd hy k0
    | z j =>
     have j0:j≠0:=fun z=>ne (by unfold nnum;rw[if_neg k0,z,GV])
     obtain⟨x,x0,xk,hx'⟩:=XR h (show 0<j by have:=hy.2.1;omega) hy.2.2;have e:=Zh (p:=p) hp hx';rw[ι_mul,ι_one]at e;refine Eq.trans (b:=ι i*ι x) ?_ (zdZ e);show(ι ((i*zinv k j).fmod k):Fin p)=ι i*ι x;rw[fm,ι_mul,zdk x0 xk hx']
  num:=fun w=>by
   unfold nnum;rw[if_neg k0];exact fm w
  zero:=za9 hp
  rat:=fun r e=>absurd e k0
  rest:=fun i _=>rfl }
end
theorem qD{k:Int}(h:kab k):∃(F:Type)(inst:Field F)(dec:DecidableEq F),Nonempty (Kf k F):=by
 rcases h with rfl|h
 ·exact⟨Rat,inferInstance,inferInstance,⟨kfRat⟩⟩
 ·have k1:=h.lo;haveI:NeZero k.toNat:=⟨by omega⟩;have hp:((k.toNat:Nat):Int)=k:=by omega
  exact⟨Fin k.toNat,fieldFin h hp,inferInstance,⟨kfFin h hp⟩⟩
end La
namespace La
open Lean.Grind Nm
section
variable{k:Int}{F:Type}[Field F]
def fv(ws:List Int):Nat->F:=fun j=>ι (ws.getD j 0)
theorem zhy{ws:List Int}{j:Nat}(h:ws.length<=j):(fv ws j:F)=0:=by
 unfold fv;rw[wb,vA h];exact ι_zero
theorem qy{w d:Int}(h:d ∣ w)(hd:d≠0):w.fdiv d*d=w:=by
 rw[vT h];exact uo h
end
end La
namespace La
open Lean.Grind Nm
section
variable{k:Int}{F:Type}[Field F]
theorem zR(h:kab k)(w:Int):(nnum k w).ok k:=by
 unfold nnum
 split
 ·assumption
 ·rename_i n;have:=h.lt;exact⟨n,wp w (by omega),wv w (by omega)⟩
def OkR(k:Int)(xs:List Nb):Prop:=∀ x∈xs,x.ok k
def nv(φ:Kf k F)(xs:List Nb):Nat->F:=fun j=>φ.to (xs.getD j (nnum k 0))
theorem Kf.num0(φ:Kf k F):φ.to (nnum k 0)=0:=by rw[φ.num];exact ι_zero
theorem Kf.num1(φ:Kf k F):φ.to (nnum k 1)=1:=by rw[φ.num];exact ι_one
theorem Kf.inj(φ:Kf k F){x y:Nb}(hx:x.ok k)(hy:y.ok k)(h:φ.to x=φ.to y):x=y:=by rw[← φ.of_to x hx,← φ.of_to y hy,h]
theorem yl(φ:Kf k F){xs:List Nb}{j:Nat}(h:xs.length<=j):nv φ xs j=0:=by
 unfold nv;rw[wb,vA h];exact φ.num0
theorem yp(φ:Kf k F){xs:List Nb}{j:Nat}{x:Nb}(h:xs[j]?=some x):nv φ xs j=φ.to x:=by
 unfold nv;rw[wb,h];rfl
theorem zfi(φ:Kf k F){xs ys:List Nb}(hx:OkR k xs)(hy:OkR k ys)(hl:xs.length=ys.length)(h:∀ j,nv φ xs j=nv φ ys j):xs=ys:=by
 refine gV hl fun j h1 h2=>?_
 have e:=h j;rw[yp φ (wa h1),yp φ (wa h2)]at e;exact φ.inj (hx _ (we h1)) (hy _ (we h2)) e
def dot:Nat->(Nat->F)->(Nat->F)->F
 | 0,_,_=>0
 | n+1,u,v=>dot n u v+u n*v n
theorem yA{n:Nat}{u u' v v':Nat->F}(h:∀ j,j<n->u j*v j=u' j*v' j):dot n u v=dot n u' v':=by
 induction n with
 | zero=>rfl
 | succ n ih=>simp only[dot];rw[ih fun j hj=>h j (by omega),h n (by omega)]
theorem YB(a:F)(n:Nat)(u v:Nat->F):dot n (fun j=>a*u j) v=a*dot n u v:=by
 induction n with
 | zero=>simp only[dot];grind
 | succ n ih=>simp only[dot];rw[ih];grind
theorem Jq(n:Nat)(u u' v:Nat->F):dot n (fun j=>u j+u' j) v=dot n u v+dot n u' v:=by
 induction n with
 | zero=>simp only[dot];grind
 | succ n ih=>simp only[dot];rw[ih];grind
theorem qZ(n:Nat)(u v:Nat->F):dot n u v=dot n v u:=yA fun j _=>by grind
theorem Js(n:Nat)(u v:Nat->F)(h:∀ j,j<n->u j*v j=0):dot n u v=0:=by
 induction n with
 | zero=>rfl
 | succ n ih=>simp only[dot];rw[ih fun j hj=>h j (by omega),h n (by omega)];grind
def ndotF(k:Int)(l:List (Nb×Nb)):Nb:=l.foldl (fun s p=>nadd k s (nmul k p.1 p.2)) (nnum k 0)
def ndot(k:Int)(xs ys:List Nb):Nb:=ndotF k (xs.zip ys)
theorem jU{x y:Nb}(hk:kab k)(hx:x.ok k)(hy:y.ok k):(nadd k x y).ok k:=by
 have hl:=hk.lt;cases x with
 | q r=>cases y with
  | q s=>exact hx
  | z j=>exact absurd (show k=0 from hx) hy.1
 | z i=>cases y with
  | q s=>exact absurd (show k=0 from hy) hx.1
  | z j=>exact⟨hx.1,wp _ (by have:=hx.1;omega),wv _ (by have:=hx.1;omega)⟩
theorem xm{x y:Nb}(hk:kab k)(hx:x.ok k)(hy:y.ok k):(nmul k x y).ok k:=by
 have hl:=hk.lt;cases x with
 | q r=>cases y with
  | q s=>exact hx
  | z j=>exact absurd (show k=0 from hx) hy.1
 | z i=>cases y with
  | q s=>exact absurd (show k=0 from hy) hx.1
  | z j=>exact⟨hx.1,wp _ (by have:=hx.1;omega),wv _ (by have:=hx.1;omega)⟩
theorem zcH{x y:Nb}(hk:kab k)(hx:x.ok k)(hy:y.ok k):(ndiv k x y).ok k:=by
 have hl:=hk.lt;cases x with
 | q r=>cases y with
  | q s=>exact hx
  | z j=>exact absurd (show k=0 from hx) hy.1
 | z i=>cases y with
  | q s=>exact absurd (show k=0 from hy) hx.1
  | z j=>exact⟨hx.1,wp _ (by have:=hx.1;omega),wv _ (by have:=hx.1;omega)⟩
theorem ZO(l:List (Nb×Nb))(p:Nb×Nb):ndotF k (l++[p])=nadd k (ndotF k l) (nmul k p.1 p.2):=by
 unfold ndotF;rw[List.foldl_append];rfl
theorem YR(hk:kab k):∀(l:List (Nb×Nb)),(∀ p∈l,p.1.ok k/\p.2.ok k)->(ndotF k l).ok k:=by
 intro l;unfold ndotF;have go:∀(l:List (Nb×Nb))(s:Nb),s.ok k->(∀ p∈l,p.1.ok k/\p.2.ok k)->(l.foldl (fun s p=>nadd k s (nmul k p.1 p.2)) s).ok k:=by
  intro l
  induction l with
  | nil=>intro s hs _;exact hs
  | cons p l ih=>intro s hs h;exact ih _ (jU hk hs (xm hk (h p wq).1 (h p wq).2)) fun q hq=>h q (wD _ hq)
 exact fun h=>go l _ (zR hk 0) h
theorem zfo{xs ys:List Nb}(hx:OkR k xs)(hy:OkR k ys):∀ p∈xs.zip ys,p.1.ok k/\p.2.ok k:=fun p hp=>by
 obtain⟨a,b⟩:=p;obtain⟨h1,h2⟩:=vn hp;exact⟨hx _ h1,hy _ h2⟩
theorem Xd(hk:kab k){xs ys:List Nb}(hx:OkR k xs)(hy:OkR k ys):(ndot k xs ys).ok k:=YR hk _ (zfo hx hy)
theorem QC(φ:Kf k F)(hk:kab k){xs ys:List Nb}(hx:OkR k xs)(hy:OkR k ys)(hl:xs.length=ys.length):∀ i,i<=xs.length->φ.to (ndotF k ((xs.zip ys).take i))=dot i (nv φ xs) (nv φ ys)
 | 0,_=>by
  show φ.to (nnum k 0)=0;exact φ.num0
 | i+1,h=>by
  have h1:i<xs.length:=h;have h2:i<ys.length:=by omega
  have hz:i <(xs.zip ys).length:=by rw[uu];omega
  rw[uh hz,ZO,List.getElem_zip];have ih:=QC φ hk hx hy hl i (by omega);have o1:=hx _ (we h1);have o2:=hy _ (we h2);rw[φ.add (YR hk _ fun p hp=>zfo hx hy p (wE hp)) (xm hk o1 o2),ih,φ.mul o1 o2];simp only[dot];rw[yp φ (wa h1),yp φ (wa h2)]
theorem zao(φ:Kf k F)(hk:kab k){xs ys:List Nb}(hx:OkR k xs)(hy:OkR k ys)(hl:xs.length=ys.length):φ.to (ndot k xs ys)=dot xs.length (nv φ xs) (nv φ ys):=by
 have h:=QC φ hk hx hy hl xs.length (wl _);rw[wg (by rw[uu];omega)]at h;exact h
def scW(b:Int):Nb->Int
 | .q r=>r.num*b.fdiv (r.den:Int)
 | .z i=>i
def dvB(b:Int):Nb->Prop
 | .q r=>(r.den:Int) ∣ b
 | .z _=>True
structure Scl(k:Int)(xs:List Nb)(ws:List Int)(b:Int):Prop where
 eq:ws=xs.map (scW b)
 pos:0<b
 one:k≠0->b=1
 dv:∀ x∈xs,dvB b x
theorem Scl.len{xs:List Nb}{ws:List Int}{b:Int}(s:Scl k xs ws b):ws.length=xs.length:=by rw[s.eq,wc]
theorem Scl.ne(φ:Kf k F)(hk:kab k){xs:List Nb}{ws:List Int}{b:Int}(s:Scl k xs ws b):(ι b:F)≠0:=fun z=>by
 rw[φ.zero]at z
 by_cases k0:k=0
 ·rw[k0,wah]at z;have:=s.pos;omega
 ·rw[s.one k0]at z;have:=Gr (by decide) z
  rcases hk with h|h
  ·exact k0 h
  ·have:=h.lo;omega
theorem zd1(φ:Kf k F){b:Int}(one:k≠0->b=1){x:Nb}(hx:x.ok k)(dv:dvB b x):(ι (scW b x):F)=φ.to x*ι b:=by
 cases x with
 | q r =>
  have k0:k=0:=hx;have e:=φ.rat r k0;have d:(r.den:Int) ∣ b:=dv;have e2:=qy d (xV r);show(ι (r.num*b.fdiv (r.den:Int)):F)=_;rw[ι_mul,← e];have e3:(ι (b.fdiv (r.den:Int)):F)*ι (r.den:Int)=ι b:=by rw[← ι_mul,e2]
  grind
 | z i =>
  have k0:k≠0:=hx.1;rw[φ.rest i k0,one k0,ι_one];show(ι i:F)=_
  grind
theorem Scl.fv(φ:Kf k F){xs:List Nb}{ws:List Int}{b:Int}(s:Scl k xs ws b)(hx:OkR k xs)(j:Nat):(La.fv ws j:F)=nv φ xs j*ι b:=by
 rcases wS j xs.length with g|g
 ·have e:ws[j]?=some (scW b xs[j]):=by rw[s.eq,wf,wa g];rfl
  rw[yp φ (wa g),← zd1 φ s.one (hx _ (we g)) (s.dv _ (we g))];unfold La.fv;rw[wb,e];rfl
 ·rw[yl φ g,zhy (by rw[s.len];exact g)];grind
theorem zgD(n:Nat){ws vs:List Int}(h1:ws.length=n)(h2:vs.length=n):(ι (vm (·*·) ws vs).sum:F)=dot n (fv ws) (fv vs):=by
 have go:∀ i,i<=n->(ι ((vm (·*·) ws vs).take i).sum:F)=dot i (fv ws) (fv vs):=by
  intro i
  induction i with
  | zero=>intro _;rw[List.take_zero,wai];exact ι_zero
  | succ i ih =>
   intro hi;have hz:i <(vm (·*·) ws vs).length:=by rw[wr];omega
   rw[uh hz,GR,ι_add,ih (by omega),vy];simp only[dot];have e1:(fv ws i:F)=ι (ws[i]'(by omega)):=by unfold fv;rw[wb,wa (by omega)];rfl
   have e2:(fv vs i:F)=ι (vs[i]'(by omega)):=by unfold fv;rw[wb,wa (by omega)];rfl
   rw[e1,e2,← ι_mul];simp
 have:=go n (wl _);rw[wg (by rw[wr];omega)]at this;exact this
theorem zfR(φ:Kf k F){b:Int}(h:(ι b:F)≠0):nnum k b≠nnum k 0:=fun z=>h (by rw[← φ.num,z,φ.num0])
theorem zg4(hk:kab k){xs ys:List Nb}{ws vs:List Int}{b c:Int}(hl:xs.length=ys.length)(s1:Scl k xs ws b)(s2:Scl k ys vs c)(hx:OkR k xs)(hy:OkR k ys) :
  nnum k (b*c)≠nnum k 0/\ndiv k (nnum k (vm (·*·) ws vs).sum) (nnum k (b*c))=ndot k xs ys:=by
 obtain⟨F,_,_,⟨φ⟩⟩:=qD hk;have n1:=s1.ne φ hk;have n2:=s2.ne φ hk;have n3:(ι (b*c):F)≠0:=fun z=>by rw[ι_mul]at z;grind
 have nn:=zfR φ n3;refine⟨nn,φ.inj (zcH hk (zR hk _) (zR hk _)) (Xd hk hx hy) ?_⟩;rw[φ.div (zR hk _) (zR hk _) nn,φ.num,φ.num,zao φ hk hx hy hl,zgD xs.length s1.len (by rw[s2.len,hl]),ι_mul];have e:dot xs.length (La.fv ws) (La.fv vs) =(ι b*ι c)*dot xs.length (nv φ xs) (nv φ ys):=by
  rw[← YB];exact yA fun j _=>by rw[s1.fv φ hx,s2.fv φ hy];grind
 rw[e];grind
def OkM(k:Int)(n:Nat)(M:TB):Prop:=∀ r∈M,r.length=n/\OkR k r
end
end La
namespace Nm
end Nm
namespace La
open Lean.Grind Nm
end La
namespace La
open Lean.Grind Nm
def dB(D B:Nat):Nb->Prop
 | .q r=>∃ a:Int,r *((D:Int):Rat) =((a:Int):Rat)/\a.natAbs<=B
 | .z _=>True
theorem dB.mul{k:Int}{D B D' B':Nat}{x y:Nb}(hx:dB D B x)(hy:dB D' B' y)(ox:x.ok k)(oy:y.ok k):dB (D*D') (B*B') (nmul k x y):=by
 cases x with
 | q r =>
  cases y with
  | q s =>
   obtain⟨a,ea,ha⟩:=hx;obtain⟨b,eb,hb⟩:=hy;refine⟨a*b,?_,?_⟩
   ·have e1:(((D*D':Nat):Int):Rat) =((D:Int):Rat) *((D':Int):Rat):=by rw[uW,vw]
    rw[e1,vw,← ea,← eb]
    grind
   ·rw[vM];exact ug ha hb
  | z j=>exact absurd (show k=0 from ox) oy.1
 | z i =>
  cases y with
  | q s=>exact absurd (show k=0 from oy) ox.1
  | z j=>trivial
theorem dB.add{k:Int}{D B B':Nat}{x y:Nb}(hx:dB D B x)(hy:dB D B' y)(ox:x.ok k)(oy:y.ok k):dB D (B+B') (nadd k x y):=by
 cases x with
 | q r =>
  cases y with
  | q s =>
   obtain⟨a,ea,ha⟩:=hx;obtain⟨b,eb,hb⟩:=hy;refine⟨a+b,?_,?_⟩
   ·rw[Gf,← ea,← eb]
    grind
   ·have:=gL a b;omega
  | z j=>exact absurd (show k=0 from ox) oy.1
 | z i =>
  cases y with
  | q s=>exact absurd (show k=0 from oy) ox.1
  | z j=>trivial
theorem dB.mono{D B B':Nat}{x:Nb}(hx:dB D B x)(h:B<=B'):dB D B' x:=by
 cases x with
 | q r=>obtain⟨a,ea,ha⟩:=hx;exact⟨a,ea,vp ha h⟩
 | z i=>trivial
theorem dB.num{k w:Int}{D B:Nat}(h:w.natAbs*D<=B):dB D B (nnum k w):=by
 unfold nnum
 split
 ·refine⟨w*D,by rw[vw],?_⟩;rw[vM,uk];exact h
 ·trivial
theorem dB.parts{r:Rat}{D B:Nat}(hD:D≠0)(h:dB D B (.q r)):r.den<=D/\r.num.natAbs<=B:=by
 obtain⟨a,ea,ha⟩:=h;have e0:=kfRat.rat r rfl;have e0':r *((r.den:Int):Rat) =((r.num:Int):Rat):=e0;have e1:r.num *(D:Int)=a *(r.den:Int):=by
  have:((r.num *(D:Int):Int):Rat) =((a *(r.den:Int):Int):Rat):=by
   rw[vw,vw,← e0',← ea]
   grind
  exact Gg.mp this
 have e2:r.num.natAbs*D=a.natAbs*r.den:=by
  have:=congrArg Int.natAbs e1;rw[vM,vM,uk,uk]at this;exact this
 have cop:Nat.Coprime r.den r.num.natAbs:=(gW.mp r.reduced);have dv:r.den ∣ D:=cop.dvd_of_dvd_mul_left ⟨a.natAbs,by rw[e2,Gb]⟩;have le:r.den<=D:=Nat.le_of_dvd (by omega) dv;refine⟨le,?_⟩;have h1:r.num.natAbs*D<=a.natAbs*D:=by rw[e2];exact uz _ le
 have h2:r.num.natAbs<=a.natAbs:=Nat.le_of_mul_le_mul_right h1 (by omega);omega
section
variable{k:Int}{F:Type}[Field F]
theorem yd{α:Type}{l:List α}{i:Nat}{x y:α}(h:y∈l.set i x):y=x\/y∈l:=by
 rcases List.mem_or_eq_of_mem_set h with h|h
 ·exact .inr h
 ·exact .inl h
theorem zhQ{φ:Kf k F}{f:Nb->Nb->Nb}{xs ys:List Nb}(hl:xs.length=ys.length)(g:F->F->F)(h0:g 0 0=0)(h:∀ x∈xs,∀ y∈ys,φ.to (f x y)=g (φ.to x) (φ.to y))(j:Nat):nv φ (vm f xs ys) j=g (nv φ xs j) (nv φ ys j):=by
 rcases wS j xs.length with l|l
 ·have l2:j<ys.length:=by omega
  rw[yp φ (x:=f xs[j] ys[j]) (by rw[vH,wa l,wa l2]),yp φ (wa l),yp φ (wa l2),h _ (we l) _ (we l2)]
 ·rw[yl φ (by rw[wr];omega),yl φ l,yl φ (by omega),h0]
end
end La
namespace La
open Lean.Grind Nm
section
variable{k:Int}{F:Type}[Field F]
theorem zgz{n l:Nat}{u v:Nat->F}(hl:l<n)(h:∀ j,j<n->j≠l->u j*v j=0):dot n u v=u l*v l:=by
 induction n with
 | zero=>exact absurd hl (uF l)
 | succ n ih =>
  simp only[dot]
  by_cases e:l=n
  ·subst e;rw[Js l u v fun j hj=>h j (by omega) (by omega)];grind
  ·rw[ih (by omega) fun j hj ne=>h j (by omega) ne,h n (by omega) (Ne.symm e)];grind
theorem zdz(n:Nat)(u v w:Nat->F):dot n u (fun j=>v j+w j)=dot n u v+dot n u w:=by
 rw[qZ,Jq,qZ n v,qZ n w]
theorem zbS(a:F)(n:Nat)(u v:Nat->F):dot n u (fun j=>a*v j)=a*dot n u v:=by
 rw[qZ,YB,qZ n v]
def trF(n:Nat)(A:TB):TB:=(wZ n).map fun j=>A.map fun r=>r.getD j (.z 0)
def unitF(l:Nat)(c:F):Nat->F:=fun j=>if j=l then c else 0
end
end La
namespace La
open Lean.Grind Nm
def rowD(D B:Nat)(xs:List Nb):Prop:=∀ x∈xs,dB D (2^B - 1) x
def rowB(B:Nat)(xs:List Nb):Prop:=∃ D:Nat,D≠0/\D<2^B/\rowD D B xs
theorem rowB.mono{B C:Nat}{xs:List Nb}(h:rowB B xs)(hc:B<=C):rowB C xs:=by
 obtain⟨D,d0,d1,hd⟩:=h;have:2^B<=2^C:=ue (by decide) hc;exact⟨D,d0,by omega,fun x hx=>(hd x hx).mono (by omega)⟩
theorem dB.den_dvd{D B:Nat}{r:Rat}(hD:D≠0)(h:dB D B (.q r)):(r.den:Int) ∣ (D:Int):=by
 obtain⟨a,ea,ha⟩:=h;have e0':r *((r.den:Int):Rat) =((r.num:Int):Rat):=kfRat.rat r rfl;have e1:r.num *(D:Int)=a *(r.den:Int):=by
  have:((r.num *(D:Int):Int):Rat) =((a *(r.den:Int):Int):Rat):=by
   rw[vw,vw,← e0',← ea]
   grind
  exact Gg.mp this
 have e2:r.num.natAbs*D=a.natAbs*r.den:=by
  have:=congrArg Int.natAbs e1;rw[vM,vM,uk,uk]at this;exact this
 have cop:Nat.Coprime r.den r.num.natAbs:=(gW.mp r.reduced);have dv:r.den ∣ D:=cop.dvd_of_dvd_mul_left ⟨a.natAbs,by rw[e2,Gb]⟩;exact Int.ofNat_dvd.mpr dv
theorem zhp{D B:Nat}{b:Int}{x:Nb}{k:Int}(hk:kab k)(ox:x.ok k)(h7:61<=B)(hD:D≠0)(h:dB D (2^B - 1) x)(hb:0<b)(hx:dvB b x)(hd:k=0->b ∣ (D:Int)):(scW b x).natAbs<2^B:=by
 have p2:0<2^B:=GM (by decide);cases x with
 | q r =>
  obtain⟨a,ea,ha⟩:=h;obtain⟨e,he⟩:=hd ox;have hdv:(r.den:Int) ∣ b:=hx;have e1:=qy hdv (xV r);have e0':r *((r.den:Int):Rat) =((r.num:Int):Rat):=kfRat.rat r rfl;have key:a=scW b (.q r)*e:=by
   show a=r.num*b.fdiv (r.den:Int)*e;generalize b.fdiv (r.den:Int)=u at *;have hDD:((D:Int):Rat) =(u:Rat) *((r.den:Int):Rat) *(e:Rat):=by rw[he,← e1,vw,vw]
   have:((a:Int):Rat) =((r.num*u*e:Int):Rat):=by
    rw[vw,vw,← ea,← e0',hDD];generalize ((r.den:Int):Rat)=dd
    grind
   exact Gg.mp this
  have ene:e≠0:=fun z=>by rw[z,wag]at he;omega
  have:(scW b (.q r)).natAbs<=a.natAbs:=by
   rw[key,vM];exact um _ (gE.mpr ene)
  omega
 | z i =>
  have:=hk.lt;obtain⟨_,i0,i1⟩:=ox;show i.natAbs<2^B;have:2^61<=2^B:=ue (by decide) h7;have:(2:Nat)^61=2305843009213693952:=by decide
  omega
theorem zfS{b d D:Int}(hb:0<b)(hd:0<d)(h1:b ∣ D)(h2:d ∣ D):b.fdiv ((vd b d:Nat):Int)*d ∣ D:=by
 have g0:0 <((vd b d:Nat):Int):=by have:=gF d (show b≠0 by omega);omega
 have db:((vd b d:Nat):Int) ∣ b:=uL b d;have dd:((vd b d:Nat):Int) ∣ d:=gj b d;have e1:=qy db (by omega);have e2:=qy dd (by omega);have cop:vd (b.fdiv ((vd b d:Nat):Int)) (d.fdiv ((vd b d:Nat):Int))=1:=by
  rw[vT db,vT dd,wae db dd,uk];exact waf (by omega)
 generalize hx:b.fdiv ((vd b d:Nat):Int)=x at *;generalize hy:d.fdiv ((vd b d:Nat):Int)=y at *;generalize hg:((vd b d:Nat):Int)=g at *;obtain⟨s,hs⟩:=h1;obtain⟨t,ht⟩:=h2;have e3:x*s=y*t:=by
  have:g *(x*s)=g *(y*t):=by
   have h:x*g*s=y*g*t:=by rw[e1,e2,← hs,← ht]
   grind
  exact Int.eq_of_mul_eq_mul_left (by omega) this
 have dv:y ∣ s:=by
  have:y ∣ x*s:=⟨t,e3⟩;have h1:y.natAbs ∣ x.natAbs*s.natAbs:=by rw[← vM];exact Go.mpr this
  have c1:Nat.Coprime y.natAbs x.natAbs:=by
   have:GU x.natAbs y.natAbs=1:=cop;exact(gW.mp this)
  exact Go.mp (c1.dvd_of_dvd_mul_left h1)
 obtain⟨u,hu⟩:=dv;refine⟨u,?_⟩;rw[hs,hu,← e1,← e2]
 grind
end La
namespace La
open Lean.Grind Nm
end La
namespace La
open Lean.Grind Nm
end La
namespace La
open Lean.Grind Nm
section
variable{k:Int}{F:Type}[Field F]{φ:Kf k F}{n:Nat}
theorem Xp{xs ys:List Nb}(j:Nat):nv φ (xs++ys) j=if j<xs.length then nv φ xs j else nv φ ys (j - xs.length):=by
 unfold nv
 split
 ·rename_i h;rw[wb,vo h,← wb]
 ·rename_i h;rw[wb,vg (by omega),← wb]
def kak(k:Int)(n i:Nat):List Nb:=(wZ n).map fun j=>if i=j then nnum k 1 else nnum k 0
def kal(k:Int)(n:Nat):TB:=(wZ n).map (kak k n)
theorem zca(hk:kab k)(n i:Nat):(kak k n i).length=n/\OkR k (kak k n i):=by
 refine⟨by unfold kak;simp,fun x hx=>?_⟩;obtain⟨j,_,rfl⟩:=wk.mp hx
 split
 ·exact zR hk 1
 ·exact zR hk 0
theorem zdO{i:Nat}(h:i<n):(kal k n)[i]?=some (kak k n i):=by unfold kal;rw[wf,ve h];rfl
theorem YN(hk:kab k)(n:Nat):OkM k n (kal k n)/\(kal k n).length=n:=by
 refine⟨fun r hr=>?_,by unfold kal;simp⟩;obtain⟨i,_,rfl⟩:=wk.mp hr;exact zca hk n i
theorem zgb{i:Nat}(hi:i<n)(j:Nat):nv φ (kak k n i) j=unitF i 1 j:=by
 unfold unitF
 rcases wS j n with h|h
 ·rw[yp φ (x:=if i=j then nnum k 1 else nnum k 0) (by unfold kak;rw[wf,ve h];rfl)]
  split
  ·rename_i e;subst e;rw[if_pos rfl];exact φ.num1
  ·rename_i e;rw[if_neg (Ne.symm e)];exact φ.num0
 ·rw[yl φ (by unfold kak;simp;exact h),if_neg (by omega)]
end
end La
namespace La
open Lean.Grind Nm
end La
namespace La
open Lean.Grind Nm
section
variable{k:Int}{F:Type}[Field F]{φ:Kf k F}
theorem Jy(n:Nat)(c:Nat->F)(b:Nat->Nat->F)(a:Nat->F):∀ m,dot m a (fun i=>dot n (b i) c)=dot n (fun j=>dot m a (fun i=>b i j)) c
 | 0=>by
  rw[Js n (fun j=>dot 0 a fun i=>b i j) c fun j _=>by simp only[dot];grind]
  rfl
 | m+1=>by
  have e:dot n (fun j=>dot (m+1) a (fun i=>b i j)) c=dot n (fun j=>dot m a (fun i=>b i j)) c+dot n (fun j=>a m*b m j) c:=by
   rw[← Jq]
   rfl
  rw[e,← Jy n c b a m,YB]
  rfl
def imgR(k:Int)(M:TB)(x:List Nb):List Nb:=M.map fun r=>ndot k r x
theorem zgA{n i:Nat}{M:TB}(h:i<n):(trF n M)[i]?=some (M.map fun r=>r.getD i (.z 0)):=by unfold trF;simp[h]
end
end La
namespace La
open Lean.Grind Nm
end La
namespace La
open Lean.Grind Nm
section
variable{k:Int}{F:Type}[Field F]{φ:Kf k F}{n:Nat}
theorem zgr{xs:List Nb}{j:Nat}(hj:j<xs.length):φ.to (xs.getD j (.z 0))=nv φ xs j:=by
 rw[yp φ (wa hj),wb,wa hj];rfl
end
end La
namespace La
open Lean.Grind Nm
section
variable{k:Int}{F:Type}[Field F]{φ:Kf k F}{n:Nat}
def limg(φ:Kf k F)(n:Nat)(A:TB)(v:Nat->F):Nat->F:=fun i=>dot n (nv φ (A.getD i [])) v
theorem zfI(j:Nat):nv φ [] j=0:=yl φ (vN _)
theorem zhN(hk:kab k){A:TB}{x:List Nb}(oA:OkM k n A)(ox:OkR k x)(lx:x.length=n)(i:Nat):nv φ (imgR k A x) i=limg φ n A (nv φ x) i:=by
 unfold limg
 rcases wS i A.length with h|h
 ·have g:A[i]?=some A[i]:=wa h;have ge:A.getD i []=A[i]:=by rw[wb,g];rfl
  have oa:=oA A[i] (we h);rw[yp φ (xs:=imgR k A x) (x:=ndot k A[i] x) (by unfold imgR;rw[wf,g];rfl),zao φ hk oa.2 ox (by rw[oa.1,lx]),oa.1,ge]
 ·rw[yl φ (by unfold imgR;rw[wc];exact h)];have ge:A.getD i []=[]:=by rw[wb,vA h];rfl
  rw[ge,Js n _ _ fun j _=>by rw[zfI];grind]
end
end La
namespace La
open Lean.Grind Nm
section
variable{k:Int}
def addR(k:Int)(u v:List Nb):List Nb:=vm (nadd k) u v
theorem xO{u v:List Nb}(h:u.length=v.length):(addR k u v).length=u.length:=by unfold addR;rw[wr];omega
theorem YW(hk:kab k){u v:List Nb}(ou:OkR k u)(ov:OkR k v):OkR k (addR k u v):=fun x hx=>by
 unfold addR at hx;obtain⟨i,hi,rfl⟩:=wV hx;rw[vy];exact jU hk (ou _ (we _)) (ov _ (we _))
theorem zbx{u v:List Nb}{i:Nat}{x y:Nb}(hu:u[i]?=some x)(hv:v[i]?=some y):(addR k u v)[i]?=some (nadd k x y):=by unfold addR;rw[vH,hu,hv]
theorem Jw{F:Type}[Field F](φ:Kf k F){u v:List Nb}(ou:OkR k u)(ov:OkR k v)(h:u.length=v.length)(j:Nat):nv φ (addR k u v) j=nv φ u j+nv φ v j:=by
 rcases wS j u.length with hj|hj
 ·have e1:=wa hj;have e2:=wa (l:=v) (i:=j) (by omega);rw[yp φ (zbx e1 e2),yp φ e1,yp φ e2,φ.add (ou _ (we _)) (ov _ (we _))]
 ·rw[yl φ (xs:=u) hj,yl φ (xs:=v) (by omega),yl φ (by rw[xO h];exact hj)]
  grind
end
end La
namespace La
open Lean.Grind Nm
end La
namespace La
open Lean.Grind Nm
end La
namespace La
open Lean.Grind Nm
section
variable{k:Int}{n:Nat}{F:Type}[Field F]{φ:Kf k F}
theorem zdj{c i j:Nat}{M:TB}(oM:OkM k c M)(hj:j<c):nv φ ((trF c M).getD j []) i=nv φ (M.getD i []) j:=by
 have e:(trF c M).getD j []=M.map fun r=>r.getD j (.z 0):=by rw[wb,zgA hj];rfl
 rw[e]
 rcases wS i M.length with h|h
 ·have g:M.getD i []=M[i]:=by rw[wb,wa h];rfl
  have o:=oM M[i] (we h);rw[yp φ (x:=M[i].getD j (.z 0)) (by rw[wf,wa h];rfl),g,zgr (by rw[o.1];exact hj)]
 ·rw[yl φ (by rw[wc];exact h),wb,vA h];exact(zfI j).symm
end
end La
namespace La
open Lean.Grind Nm
end La
namespace La
open Lean.Grind Nm
section
variable{R:Type}[CommRing R]
def rdot:List R->List R->R
 | a::as,b::bs=>a*b+rdot as bs
 | _,_=>0
def bpow(inner:List (List R))(v:List R):Nat->List R
 | 0=>v
 | i+1=>inner.map fun r=>rdot r (bpow inner v i)
def bfac(W:List (List R))(s:Nat):List R :=
 1 ::(-((W.getD s []).getD s 0)) ::(wZ s).map fun st=>-(rdot ((W.getD s []).take s) (bpow ((W.take s).map (·.take s)) ((W.take s).map (·.getD s 0)) st))
def wgr(W:List (List R)):Nat->List R
 | 0=>[1]
 | s+1=>(wZ (s+2)).map fun pl=>rdot (wgr W s) ((bfac W s).reverse.drop (s+1 - pl))
end
structure Hm{R S:Type}[CommRing R][CommRing S](f:R->S):Prop where
 zero:f 0=0
 one:f 1=1
 add:∀ a b,f (a+b)=f a+f b
 mul:∀ a b,f (a*b)=f a*f b
 neg:∀ a,f (-a) = -f a
section
variable{R S:Type}[CommRing R][CommRing S]{f:R->S}
theorem YH(h:Hm f):∀(as bs:List R),f (rdot as bs)=rdot (as.map f) (bs.map f)
 | [],_=>h.zero
 | _::_,[]=>h.zero
 | a::as,b::bs=>by
  show f (a*b+rdot as bs)=f a*f b+rdot (as.map f) (bs.map f);rw[h.add,h.mul,YH h as bs]
theorem zbg(h:Hm f)(inner:List (List R))(v:List R):∀ i,(bpow inner v i).map f=bpow (inner.map (·.map f)) (v.map f) i
 | 0=>rfl
 | i+1=>by
  show((inner.map fun r=>rdot r (bpow inner v i)).map f) =(inner.map (·.map f)).map fun r=>rdot r (bpow _ _ i)
  rw[vq,vq];refine wW fun r _=>?_
  show f (rdot r _)=rdot (r.map f) _;rw[YH h,zbg h inner v i]
theorem Qo(h:Hm f)(xs:List R)(i:Nat):f (xs.getD i 0) =(xs.map f).getD i 0:=by
 rw[wb,wb,wf];cases xs[i]? with
 | none=>exact h.zero
 | some x=>rfl
theorem zcK(W:List (List R))(i:Nat):(W.getD i []).map f =(W.map (·.map f)).getD i []:=by
 rw[wb,wb,wf];cases W[i]? with
 | none=>rfl
 | some x=>rfl
theorem zeu(h:Hm f)(W:List (List R))(s:Nat):(bfac W s).map f=bfac (W.map (·.map f)) s:=by
 unfold bfac;rw[vV,vV,h.one,h.neg,Qo h,zcK,vq]
 congr 2
 refine wW fun st _=>?_
 show f (-_) = -_;rw[h.neg,YH h,zbg h,vR,zcK]
 congr 3
 ·rw[vq,← vR,vq];refine wW fun r _=>?_
  exact vR
 ·rw[vq,← vR,vq];refine wW fun r _=>?_
  exact Qo h r s
theorem Xf(h:Hm f)(W:List (List R)):∀ s,(wgr W s).map f=wgr (W.map (·.map f)) s
 | 0=>by show [f 1]=[1];rw[h.one]
 | s+1=>by
  show((wZ (s+2)).map _).map f =(wZ (s+2)).map _;rw[vq];refine wW fun pl _=>?_
  show f (rdot _ _)=rdot _ _;rw[YH h,Xf h W s,uf,gZ,zeu h]
end
section
variable{R:Type}[CommRing R]
def sgn(j:Nat):R:=if j % 2=0 then 1 else -1
def csum(f:Nat->R):Nat->R
 | 0=>0
 | j+1=>csum f j+f j
def minor(j:Nat)(rows:List (List R)):List (List R):=(rows.drop 1).map fun r=>r.take j++r.drop (j+1)
def cdet:Nat->List (List R)->R
 | 0,_=>1
 | d+1,rows=>csum (fun j=>sgn j *((rows.getD 0 []).getD j 0*cdet d (minor j rows))) (d+1)
theorem great1(x a:R):cdet 1 [[x + -a]] =(wgr [[a]] 1).getD 0 0*x +(wgr [[a]] 1).getD 1 0:=by
 simp[cdet,csum,minor,sgn,wgr,bfac,rdot,ul,bpow]
 grind
theorem great2(x a b c d:R):cdet 2 [[x + -a,-b],[-c,x + -d]] =(wgr [[a,b],[c,d]] 2).getD 0 0 *(x*x) +(wgr [[a,b],[c,d]] 2).getD 1 0*x +(wgr [[a,b],[c,d]] 2).getD 2 0:=by
 simp[cdet,csum,minor,sgn,wgr,bfac,rdot,ul,bpow]
 grind
theorem great3(x a b c d e f g h i:R):cdet 3 [[x + -a,-b,-c],[-d,x + -e,-f],[-g,-h,x + -i]] =(wgr [[a,b,c],[d,e,f],[g,h,i]] 3).getD 0 0 *(x *(x*x)) +(wgr [[a,b,c],[d,e,f],[g,h,i]] 3).getD 1 0 *(x*x) +(wgr [[a,b,c],[d,e,f],[g,h,i]] 3).getD 2 0*x +(wgr [[a,b,c],[d,e,f],[g,h,i]] 3).getD 3 0:=by
 simp[cdet,csum,minor,sgn,wgr,bfac,rdot,ul,bpow]
 grind
set_option maxHeartbeats 4000000 in
theorem great4(x a00 a01 a02 a03 a10 a11 a12 a13 a20 a21 a22 a23 a30 a31 a32 a33:R):cdet 4 [[x + -a00,-a01,-a02,-a03],[-a10,x + -a11,-a12,-a13],[-a20,-a21,x + -a22,-a23],[-a30,-a31,-a32,x + -a33]] =(wgr [[a00,a01,a02,a03],[a10,a11,a12,a13],[a20,a21,a22,a23],[a30,a31,a32,a33]] 4).getD 0 0 *(x *(x *(x*x))) +(wgr [[a00,a01,a02,a03],[a10,a11,a12,a13],[a20,a21,a22,a23],[a30,a31,a32,a33]] 4).getD 1 0 *(x *(x*x)) +(wgr [[a00,a01,a02,a03],[a10,a11,a12,a13],[a20,a21,a22,a23],[a30,a31,a32,a33]] 4).getD 2 0 *(x*x) +(wgr [[a00,a01,a02,a03],[a10,a11,a12,a13],[a20,a21,a22,a23],[a30,a31,a32,a33]] 4).getD 3 0*x +(wgr [[a00,a01,a02,a03],[a10,a11,a12,a13],[a20,a21,a22,a23],[a30,a31,a32,a33]] 4).getD 4 0:=by
 simp[cdet,csum,minor,sgn,wgr,bfac,rdot,ul,bpow]
 grind
set_option maxHeartbeats 4000000 in
theorem scal1(z a:R):wgr [[z*a]] 1=[1 *(wgr [[a]] 1).getD 0 0,z *(wgr [[a]] 1).getD 1 0]:=by
 simp[wgr,bfac,rdot,ul,bpow]
 grind
set_option maxHeartbeats 4000000 in
theorem scal2(z a b c d:R):wgr [[z*a,z*b],[z*c,z*d]] 2=[1 *(wgr [[a,b],[c,d]] 2).getD 0 0,z *(wgr [[a,b],[c,d]] 2).getD 1 0,z*z *(wgr [[a,b],[c,d]] 2).getD 2 0]:=by
 simp[wgr,bfac,rdot,ul,bpow]
 grind
set_option maxHeartbeats 4000000 in
theorem scal3(z a b c d e f g h i:R):wgr [[z*a,z*b,z*c],[z*d,z*e,z*f],[z*g,z*h,z*i]] 3=[1 *(wgr [[a,b,c],[d,e,f],[g,h,i]] 3).getD 0 0,z *(wgr [[a,b,c],[d,e,f],[g,h,i]] 3).getD 1 0,z*z *(wgr [[a,b,c],[d,e,f],[g,h,i]] 3).getD 2 0,z *(z*z) *(wgr [[a,b,c],[d,e,f],[g,h,i]] 3).getD 3 0]:=by
 simp[wgr,bfac,rdot,ul,bpow]
 grind
set_option maxHeartbeats 4000000 in
theorem scal4(z a00 a01 a02 a03 a10 a11 a12 a13 a20 a21 a22 a23 a30 a31 a32 a33:R):wgr [[z*a00,z*a01,z*a02,z*a03],[z*a10,z*a11,z*a12,z*a13],[z*a20,z*a21,z*a22,z*a23],[z*a30,z*a31,z*a32,z*a33]] 4=[1 *(wgr [[a00,a01,a02,a03],[a10,a11,a12,a13],[a20,a21,a22,a23],[a30,a31,a32,a33]] 4).getD 0 0,z *(wgr [[a00,a01,a02,a03],[a10,a11,a12,a13],[a20,a21,a22,a23],[a30,a31,a32,a33]] 4).getD 1 0,z*z *(wgr [[a00,a01,a02,a03],[a10,a11,a12,a13],[a20,a21,a22,a23],[a30,a31,a32,a33]] 4).getD 2 0,z *(z*z) *(wgr [[a00,a01,a02,a03],[a10,a11,a12,a13],[a20,a21,a22,a23],[a30,a31,a32,a33]] 4).getD 3 0,z *(z *(z*z)) *(wgr [[a00,a01,a02,a03],[a10,a11,a12,a13],[a20,a21,a22,a23],[a30,a31,a32,a33]] 4).getD 4 0]:=by
 simp[wgr,bfac,rdot,ul,bpow]
 grind
end
section
variable{R:Type}[CommRing R]
def PSr(R:Type):=Nat->R
def ptl(p:PSr R):PSr R:=fun n=>p (n+1)
def pmu:Nat->PSr R->PSr R->R
 | 0,p,q=>p 0*q 0
 | n+1,p,q=>p 0*q (n+1)+pmu n (ptl p) q
def cst(c:R):PSr R
 | 0=>c
 | _+1=>0
theorem Zj:∀(n:Nat)(p p' q:PSr R),pmu n (fun i=>p i+p' i) q=pmu n p q+pmu n p' q
 | 0,p,p',q=>by show(p 0+p' 0)*q 0=p 0*q 0+p' 0*q 0;grind
 | n+1,p,p',q=>by
  show(p 0+p' 0)*q (n+1)+pmu n (fun i=>ptl p i+ptl p' i) q=_;rw[Zj n];show _=p 0*q (n+1)+pmu n (ptl p) q +(p' 0*q (n+1)+pmu n (ptl p') q)
  grind
theorem zba:∀(n:Nat)(c:R)(p q:PSr R),pmu n (fun i=>c*p i) q=c*pmu n p q
 | 0,c,p,q=>by show(c*p 0)*q 0=c *(p 0*q 0);grind
 | n+1,c,p,q=>by
  show(c*p 0)*q (n+1)+pmu n (fun i=>c*ptl p i) q=c *(p 0*q (n+1)+pmu n (ptl p) q);rw[zba n]
  grind
theorem Qt:∀(n:Nat)(p q:PSr R),pmu (n+1) p q=p (n+1)*q 0+pmu n p (ptl q)
 | 0,p,q=>by show p 0*q 1+p 1*q 0=p 1*q 0+p 0*q 1;grind
 | n+1,p,q=>by
  show p 0*q (n+2)+pmu (n+1) (ptl p) q=p (n+2)*q 0 +(p 0*q (n+2)+pmu n (ptl p) (ptl q));rw[Qt n (ptl p) q];show p 0*q (n+2) +(p (n+2)*q 0+_)=_
  grind
theorem jO:∀(n:Nat)(p q:PSr R),pmu n p q=pmu n q p
 | 0,p,q=>by show p 0*q 0=q 0*p 0;grind
 | n+1,p,q=>by
  rw[Qt n p q,jO n p (ptl q)];show p (n+1)*q 0+_=q 0*p (n+1)+pmu n (ptl q) p
  grind
theorem zaa:∀(n:Nat)(p q r:PSr R),pmu n (fun i=>pmu i p q) r=pmu n p (fun i=>pmu i q r)
 | 0,p,q,r=>by show(p 0*q 0)*r 0=p 0 *(q 0*r 0);grind
 | n+1,p,q,r=>by
  show(p 0*q 0)*r (n+1)+pmu n (fun i=>p 0*q (i+1)+pmu i (ptl p) q) r=p 0 *(q 0*r (n+1)+pmu n (ptl q) r)+pmu n (ptl p) (fun i=>pmu i q r);rw[Zj n (fun i=>p 0*q (i+1)) (fun i=>pmu i (ptl p) q) r,zaa n (ptl p) q r];have:=zba n (p 0) (ptl q) r;have e:pmu n (fun i=>p 0*q (i+1)) r=p 0*pmu n (ptl q) r:=this;rw[e]
  grind
theorem YC:∀(n:Nat)(q:PSr R),pmu n (fun _=>0) q=0
 | 0,q=>by show 0*q 0=0;grind
 | n+1,q=>by
  show 0*q (n+1)+pmu n (fun _=>0) q=0;rw[YC n q];grind
theorem xW:∀(n:Nat)(c:R)(q:PSr R),pmu n (cst c) q=c*q n
 | 0,c,q=>rfl
 | n+1,c,q=>by
  show c*q (n+1)+pmu n (fun _=>0) q=c*q (n+1);rw[YC];grind
end
end La
namespace La
open Lean.Grind Nm
section
variable{R:Type}[CommRing R]
local instance natC:NatCast R:=Semiring.natCast
local instance intC:IntCast R:=Ring.intCast
theorem zcC(a b:R)(n:Nat):cst (a+b) n=cst a n+cst b n:=by
 cases n with
 | zero=>rfl
 | succ n=>show(0:R)=0+0;grind
theorem zdu(a:R)(n:Nat):cst (-a) n = -cst a n:=by
 cases n with
 | zero=>rfl
 | succ n=>show(0:R) = -0;grind
theorem zf1(a b:R)(n:Nat):cst (a*b) n=pmu n (cst a) (cst b):=by
 rw[xW];cases n with
 | zero=>rfl
 | succ n=>show(0:R)=a*0;grind
def ppw(p:PSr R):Nat->PSr R
 | 0=>cst 1
 | n+1=>fun i=>pmu i (ppw p n) p
@[reducible] noncomputable def psRing:CommRing (PSr R) where
 add p q:=fun i=>p i+q i
 mul p q:=fun i=>pmu i p q
 natCast:=⟨fun n=>cst (n:R)⟩
 ofNat n:=⟨cst (n:R)⟩
 nsmul:=⟨fun n p=>fun i=>pmu i (cst (n:R)) p⟩
 npow:=⟨fun p n=>ppw p n⟩
 add_zero p:=by
  funext i
  show p i+cst ((0:Nat):R) i=p i;have:(((0:Nat):R))=0:=Semiring.natCast_zero;rw[this];cases i <;>(show p _ +(0:R)=p _;grind)
 add_comm p q:=by funext i;show p i+q i=q i+p i;grind
 add_assoc p q r:=by funext i;show p i+q i+r i=p i +(q i+r i);grind
 mul_assoc p q r:=by funext i;exact zaa i p q r
 mul_one p:=by
  funext i
  show pmu i p (cst ((1:Nat):R))=p i;have:(((1:Nat):R))=1:=Semiring.natCast_one;rw[this,jO,xW];grind
 one_mul p:=by
  funext i
  show pmu i (cst ((1:Nat):R)) p=p i;have:(((1:Nat):R))=1:=Semiring.natCast_one;rw[this,xW];grind
 left_distrib p q r:=by
  funext i
  exact(jO i p _).trans ((Zj i q r p).trans (by rw[jO i q p,jO i r p];rfl))
 right_distrib p q r:=by funext i;exact Zj i p q r
 zero_mul p:=by
  funext i
  show pmu i (cst ((0:Nat):R)) p=cst ((0:Nat):R) i;have:(((0:Nat):R))=0:=Semiring.natCast_zero;rw[this,xW];cases i <;>(show(0:R)*p _=0;grind)
 mul_zero p:=by
  funext i
  show pmu i p (cst ((0:Nat):R))=cst ((0:Nat):R) i;have:(((0:Nat):R))=0:=Semiring.natCast_zero;rw[this,jO,xW];cases i <;>(show(0:R)*p _=0;grind)
 pow_zero p:=by
  funext i
  show cst (1:R) i=cst ((1:Nat):R) i;have:(((1:Nat):R))=1:=Semiring.natCast_one;rw[this]
 pow_succ p n:=rfl
 ofNat_succ n:=by
  funext i
  show cst ((n+1:Nat):R) i=cst ((n:Nat):R) i+cst ((1:Nat):R) i;rw[← zcC,Semiring.natCast_succ,Semiring.natCast_one]
 ofNat_eq_natCast n:=rfl
 nsmul_eq_natCast_mul n p:=rfl
 neg p:=fun i=>-p i
 sub p q:=fun i=>p i + -q i
 intCast:=⟨fun n=>cst ((n:Int):R)⟩
 zsmul:=⟨fun n p=>fun i=>pmu i (cst ((n:Int):R)) p⟩
 neg_add_cancel p:=by
  funext i
  show -p i+p i=cst ((0:Nat):R) i;have:(((0:Nat):R))=0:=Semiring.natCast_zero;rw[this];cases i <;>(show -p _+p _ =(0:R);grind)
 sub_eq_add_neg p q:=rfl
 neg_zsmul n p:=by
  funext i
  show pmu i (cst (((-n:Int)):R)) p = -pmu i (cst ((n:Int):R)) p;rw[xW,xW,Ring.intCast_neg];grind
 zsmul_natCast_eq_nsmul n p:=by
  funext i
  show pmu i (cst (((n:Nat):Int):R)) p=pmu i (cst ((n:Nat):R)) p;rw[xW,xW,Ring.intCast_natCast]
 intCast_ofNat n:=by
  funext i
  show cst (((OfNat.ofNat n:Int)):R) i=cst ((n:Nat):R) i;rw[Ring.intCast_ofNat,Semiring.ofNat_eq_natCast]
 intCast_neg n:=by
  funext i
  show cst (((-n:Int)):R) i = -cst ((n:Int):R) i;rw[Ring.intCast_neg,zdu]
 mul_comm p q:=by funext i;exact jO i p q
noncomputable instance psI:CommRing (PSr R):=psRing
theorem jE:Hm (cst:R->PSr R):=by
 have z:((0:Nat):R)=0:=Semiring.natCast_zero;have o:((1:Nat):R)=1:=Semiring.natCast_one;refine⟨?_,?_,fun a b=>?_,fun a b=>?_,fun a=>?_⟩
 ·show cst (0:R)=cst ((0:Nat):R);rw[z]
 ·show cst (1:R)=cst ((1:Nat):R);rw[o]
 ·funext n;exact zcC a b n
 ·funext n;exact zf1 a b n
 ·funext n;exact zdu a n
def pX:PSr R
 | 1=>1
 | _=>0
theorem zh7:ptl (pX:PSr R)=cst 1:=by
 funext n
 cases n with
 | zero=>rfl
 | succ n=>rfl
theorem zfB(p q:PSr R)(n:Nat):(p*q) n=pmu n p q:=rfl
theorem yg(p q:PSr R)(n:Nat):(p+q) n=p n+q n:=rfl
theorem Zk(p:PSr R)(n:Nat):(-p) n = -p n:=rfl
theorem X_0(p:PSr R):((pX:PSr R)*p:PSr R) 0=0:=by show(0:R)*p 0=0;grind
theorem X_s(p:PSr R)(n:Nat):((pX:PSr R)*p:PSr R) (n+1)=p n:=by
 show(0:R)*p (n+1)+pmu n (ptl pX) p=p n;rw[zh7,xW];grind
theorem X_1(p:PSr R):((pX:PSr R)*p:PSr R) 1=p 0:=X_s p 0
theorem X_j1(p:PSr R)(j:Nat):((pX:PSr R)*p:PSr R) (j+1)=p (j+0):=X_s p (j+0)
theorem X_2(p:PSr R):((pX:PSr R)*p:PSr R) 2=p 1:=X_s p 1
theorem X_j2(p:PSr R)(j:Nat):((pX:PSr R)*p:PSr R) (j+2)=p (j+1):=X_s p (j+1)
theorem X_3(p:PSr R):((pX:PSr R)*p:PSr R) 3=p 2:=X_s p 2
theorem X_j3(p:PSr R)(j:Nat):((pX:PSr R)*p:PSr R) (j+3)=p (j+2):=X_s p (j+2)
theorem X_4(p:PSr R):((pX:PSr R)*p:PSr R) 4=p 3:=X_s p 3
theorem X_j4(p:PSr R)(j:Nat):((pX:PSr R)*p:PSr R) (j+4)=p (j+3):=X_s p (j+3)
theorem X_5(p:PSr R):((pX:PSr R)*p:PSr R) 5=p 4:=X_s p 4
theorem X_j5(p:PSr R)(j:Nat):((pX:PSr R)*p:PSr R) (j+5)=p (j+4):=X_s p (j+4)
theorem c_at(c:R)(p:PSr R)(n:Nat):(cst c*p) n=c*p n:=xW n c p
def pol(cs:List R):PSr R:=fun j=>cs.getD j 0
theorem JO(t:R):pol [-t] = -(cst t):=by
 funext n
 rw[Zk];cases n with
 | zero=>rfl
 | succ n=>show(0:R) = -0;grind
theorem Jh(t:R):pol [-t,1]=pX + -(cst t):=by
 funext n
 rw[yg,Zk]
 match n with
 | 0=>show -t=0 + -t;grind
 | 1=>show(1:R)=1 + -0;grind
 | n+2=>show(0:R)=0 + -0;grind
theorem zbh(W:List (List R))(s i:Nat):(wgr (W.map (·.map cst)) s).getD i 0 =(cst ((wgr W s).getD i 0):PSr R):=by
 rw[← Xf jE,← Qo jE]
theorem pol1(c0 c1:R):cst c0 *(pX)+cst c1=pol [c1,c0]:=by
 funext j
 match j with
 | 0=>simp only[yg,c_at,X_0,X_1,X_2,X_3,X_4,X_5,X_j2,X_j3,X_j4,X_j5,vC,vD];show c0 *(0:R)+c1=c1;grind
 | 1=>simp only[yg,c_at,X_0,X_1,X_2,X_3,X_4,X_5,X_j2,X_j3,X_j4,X_j5,vC,vD];show c0 *(1:R) +(0:R)=c0;grind
 | j+2=>simp only[yg,c_at,X_0,X_1,X_2,X_3,X_4,X_5,X_j2,X_j3,X_j4,X_j5,vC,vD];show c0 *(0:R) +(0:R) =(0:R);grind
theorem law1(a00:R):cdet 1 ([[pol [-a00,1]]]:List (List (PSr R)))=pol [(wgr [[a00]] 1).getD 1 0,(wgr [[a00]] 1).getD 0 0]:=by
 simp only[JO,Jh];have h:=great1 (pX:PSr R) (cst a00);have e:=fun i=>zbh [[a00]] 1 i
 simp only[vV,gw]at e;rw[e 0,e 1]at h;rw[h];exact pol1 _ _
theorem pol2(c0 c1 c2:R):cst c0 *(pX*pX)+cst c1 *(pX)+cst c2=pol [c2,c1,c0]:=by
 funext j
 match j with
 | 0=>simp only[yg,c_at,X_0,X_1,X_2,X_3,X_4,X_5,X_j2,X_j3,X_j4,X_j5,vC,vD];show c0 *(0:R)+c1 *(0:R)+c2=c2;grind
 | 1=>simp only[yg,c_at,X_0,X_1,X_2,X_3,X_4,X_5,X_j2,X_j3,X_j4,X_j5,vC,vD];show c0 *(0:R)+c1 *(1:R) +(0:R)=c1;grind
 | 2=>simp only[yg,c_at,X_0,X_1,X_2,X_3,X_4,X_5,X_j2,X_j3,X_j4,X_j5,vC,vD];show c0 *(1:R)+c1 *(0:R) +(0:R)=c0;grind
 | j+3=>simp only[yg,c_at,X_0,X_1,X_2,X_3,X_4,X_5,X_j2,X_j3,X_j4,X_j5,vC,vD];show c0 *(0:R)+c1 *(0:R) +(0:R) =(0:R);grind
theorem law2(a00 a01 a10 a11:R):cdet 2 ([[pol [-a00,1],pol [-a01]],[pol [-a10],pol [-a11,1]]]:List (List (PSr R)))=pol [(wgr [[a00,a01],[a10,a11]] 2).getD 2 0,(wgr [[a00,a01],[a10,a11]] 2).getD 1 0,(wgr [[a00,a01],[a10,a11]] 2).getD 0 0]:=by
 simp only[JO,Jh];have h:=great2 (pX:PSr R) (cst a00) (cst a01) (cst a10) (cst a11);have e:=fun i=>zbh [[a00,a01],[a10,a11]] 2 i
 simp only[vV,gw]at e;rw[e 0,e 1,e 2]at h;rw[h];exact pol2 _ _ _
theorem pol3(c0 c1 c2 c3:R):cst c0 *(pX *(pX*pX))+cst c1 *(pX*pX)+cst c2 *(pX)+cst c3=pol [c3,c2,c1,c0]:=by
 funext j
 match j with
 | 0=>simp only[yg,c_at,X_0,X_1,X_2,X_3,X_4,X_5,X_j2,X_j3,X_j4,X_j5,vC,vD];show c0 *(0:R)+c1 *(0:R)+c2 *(0:R)+c3=c3;grind
 | 1=>simp only[yg,c_at,X_0,X_1,X_2,X_3,X_4,X_5,X_j2,X_j3,X_j4,X_j5,vC,vD];show c0 *(0:R)+c1 *(0:R)+c2 *(1:R) +(0:R)=c2;grind
 | 2=>simp only[yg,c_at,X_0,X_1,X_2,X_3,X_4,X_5,X_j2,X_j3,X_j4,X_j5,vC,vD];show c0 *(0:R)+c1 *(1:R)+c2 *(0:R) +(0:R)=c1;grind
 | 3=>simp only[yg,c_at,X_0,X_1,X_2,X_3,X_4,X_5,X_j2,X_j3,X_j4,X_j5,vC,vD];show c0 *(1:R)+c1 *(0:R)+c2 *(0:R) +(0:R)=c0;grind
 | j+4=>simp only[yg,c_at,X_0,X_1,X_2,X_3,X_4,X_5,X_j2,X_j3,X_j4,X_j5,vC,vD];show c0 *(0:R)+c1 *(0:R)+c2 *(0:R) +(0:R) =(0:R);grind
theorem law3(a00 a01 a02 a10 a11 a12 a20 a21 a22:R):cdet 3 ([[pol [-a00,1],pol [-a01],pol [-a02]],[pol [-a10],pol [-a11,1],pol [-a12]],[pol [-a20],pol [-a21],pol [-a22,1]]]:List (List (PSr R)))=pol [(wgr [[a00,a01,a02],[a10,a11,a12],[a20,a21,a22]] 3).getD 3 0,(wgr [[a00,a01,a02],[a10,a11,a12],[a20,a21,a22]] 3).getD 2 0,(wgr [[a00,a01,a02],[a10,a11,a12],[a20,a21,a22]] 3).getD 1 0,(wgr [[a00,a01,a02],[a10,a11,a12],[a20,a21,a22]] 3).getD 0 0]:=by
 simp only[JO,Jh];have h:=great3 (pX:PSr R) (cst a00) (cst a01) (cst a02) (cst a10) (cst a11) (cst a12) (cst a20) (cst a21) (cst a22);have e:=fun i=>zbh [[a00,a01,a02],[a10,a11,a12],[a20,a21,a22]] 3 i
 simp only[vV,gw]at e;rw[e 0,e 1,e 2,e 3]at h;rw[h];exact pol3 _ _ _ _
theorem pol4(c0 c1 c2 c3 c4:R):cst c0 *(pX *(pX *(pX*pX)))+cst c1 *(pX *(pX*pX))+cst c2 *(pX*pX)+cst c3 *(pX)+cst c4=pol [c4,c3,c2,c1,c0]:=by
 funext j
 match j with
 | 0=>simp only[yg,c_at,X_0,X_1,X_2,X_3,X_4,X_5,X_j2,X_j3,X_j4,X_j5,vC,vD];show c0 *(0:R)+c1 *(0:R)+c2 *(0:R)+c3 *(0:R)+c4=c4;grind
 | 1=>simp only[yg,c_at,X_0,X_1,X_2,X_3,X_4,X_5,X_j2,X_j3,X_j4,X_j5,vC,vD];show c0 *(0:R)+c1 *(0:R)+c2 *(0:R)+c3 *(1:R) +(0:R)=c3;grind
 | 2=>simp only[yg,c_at,X_0,X_1,X_2,X_3,X_4,X_5,X_j2,X_j3,X_j4,X_j5,vC,vD];show c0 *(0:R)+c1 *(0:R)+c2 *(1:R)+c3 *(0:R) +(0:R)=c2;grind
 | 3=>simp only[yg,c_at,X_0,X_1,X_2,X_3,X_4,X_5,X_j2,X_j3,X_j4,X_j5,vC,vD];show c0 *(0:R)+c1 *(1:R)+c2 *(0:R)+c3 *(0:R) +(0:R)=c1;grind
 | 4=>simp only[yg,c_at,X_0,X_1,X_2,X_3,X_4,X_5,X_j2,X_j3,X_j4,X_j5,vC,vD];show c0 *(1:R)+c1 *(0:R)+c2 *(0:R)+c3 *(0:R) +(0:R)=c0;grind
 | j+5=>simp only[yg,c_at,X_0,X_1,X_2,X_3,X_4,X_5,X_j2,X_j3,X_j4,X_j5,vC,vD];show c0 *(0:R)+c1 *(0:R)+c2 *(0:R)+c3 *(0:R) +(0:R) =(0:R);grind
theorem law4(a00 a01 a02 a03 a10 a11 a12 a13 a20 a21 a22 a23 a30 a31 a32 a33:R):cdet 4 ([[pol [-a00,1],pol [-a01],pol [-a02],pol [-a03]],[pol [-a10],pol [-a11,1],pol [-a12],pol [-a13]],[pol [-a20],pol [-a21],pol [-a22,1],pol [-a23]],[pol [-a30],pol [-a31],pol [-a32],pol [-a33,1]]]:List (List (PSr R)))=pol [(wgr [[a00,a01,a02,a03],[a10,a11,a12,a13],[a20,a21,a22,a23],[a30,a31,a32,a33]] 4).getD 4 0,(wgr [[a00,a01,a02,a03],[a10,a11,a12,a13],[a20,a21,a22,a23],[a30,a31,a32,a33]] 4).getD 3 0,(wgr [[a00,a01,a02,a03],[a10,a11,a12,a13],[a20,a21,a22,a23],[a30,a31,a32,a33]] 4).getD 2 0,(wgr [[a00,a01,a02,a03],[a10,a11,a12,a13],[a20,a21,a22,a23],[a30,a31,a32,a33]] 4).getD 1 0,(wgr [[a00,a01,a02,a03],[a10,a11,a12,a13],[a20,a21,a22,a23],[a30,a31,a32,a33]] 4).getD 0 0]:=by
 simp only[JO,Jh];have h:=great4 (pX:PSr R) (cst a00) (cst a01) (cst a02) (cst a03) (cst a10) (cst a11) (cst a12) (cst a13) (cst a20) (cst a21) (cst a22) (cst a23) (cst a30) (cst a31) (cst a32) (cst a33);have e:=fun i=>zbh [[a00,a01,a02,a03],[a10,a11,a12,a13],[a20,a21,a22,a23],[a30,a31,a32,a33]] 4 i
 simp only[vV,gw]at e;rw[e 0,e 1,e 2,e 3,e 4]at h;rw[h];exact pol4 _ _ _ _ _
end
end La
namespace La
open Lean.Grind Nm
section
variable{k:Int}{F:Type}[Field F]
theorem ex1{α:Type}{T:List (List α)}(l:T.length=1)(h:∀ r∈T,r.length=1):∃ a,T=[[a]]:=by
 match T,l with
 | [r0],_ =>
  match r0,h r0 (by simp)with
  | [a],_=>exact⟨a,rfl⟩
theorem ex2{α:Type}{T:List (List α)}(l:T.length=2)(h:∀ r∈T,r.length=2):∃ a b c d,T=[[a,b],[c,d]]:=by
 match T,l with
 | [r0,r1],_ =>
  match r0,h r0 (by simp),r1,h r1 (by simp)with
  | [a,b],_,[c,d],_=>exact⟨a,b,c,d,rfl⟩
theorem ex3{α:Type}{T:List (List α)}(l:T.length=3)(h:∀ r∈T,r.length=3):∃ a b c d e f g i j,T=[[a,b,c],[d,e,f],[g,i,j]]:=by
 match T,l with
 | [r0,r1,r2],_ =>
  match r0,h r0 (by simp),r1,h r1 (by simp),r2,h r2 (by simp)with
  | [a,b,c],_,[d,e,f],_,[g,i,j],_=>exact⟨a,b,c,d,e,f,g,i,j,rfl⟩
theorem ex4{α:Type}{T:List (List α)}(l:T.length=4)(h:∀ r∈T,r.length=4):∃ a00 a01 a02 a03 a10 a11 a12 a13 a20 a21 a22 a23 a30 a31 a32 a33,T=[[a00,a01,a02,a03],[a10,a11,a12,a13],[a20,a21,a22,a23],[a30,a31,a32,a33]]:=by
 match T,l with
 | [r0,r1,r2,r3],_ =>
  match r0,h r0 (by simp),r1,h r1 (by simp),r2,h r2 (by simp),r3,h r3 (by simp)with
  | [a,b,c,d],_,[e,f,g,i],_,[j,m,n,o],_,[p,q,r,s],_=>exact⟨a,b,c,d,e,f,g,i,j,m,n,o,p,q,r,s,rfl⟩
def zq(z:F):Nat->F
 | 0=>1
 | i+1=>zq z i*z
def bp(b:Int):Nat->Int
 | 0=>1
 | i+1=>bp b i*b
theorem ι_bp(b:Int):∀ i,(ι (bp b i):F)=zq (ι b) i
 | 0=>ι_one
 | i+1=>by show(ι (bp b i*b):F)=zq (ι b) i*ι b;rw[ι_mul,ι_bp b i]
theorem zgt{z:F}(h:z≠0):∀ i,zq z i≠0
 | 0=>by show(1:F)≠0;grind
 | i+1=>fun e=>by
  have e':zq z i*z=0:=e;have:=zgt h i
  grind
theorem yC(W:List (List F))(s:Nat):(wgr W s).length=s+1:=by
 cases s with
 | zero=>rfl
 | succ s=>show((wZ (s+2)).map _).length=_;simp
theorem zeg(z:F){n:Nat}(n1:1<=n)(n4:n<=4){T:List (List F)}(l:T.length=n)(h:∀ r∈T,r.length=n):∀ i,i<=n->(wgr (T.map fun r=>r.map fun x=>z*x) n).getD i 0=zq z i *(wgr T n).getD i 0:=fun i hi=>by
 rcases (show n=1\/n=2\/n=3\/n=4 by omega)with e|e|e|e <;> subst e
 ·obtain⟨a,rfl⟩:=ex1 l h;rw[show([[a]]:List (List F)).map (fun r=>r.map fun x=>z*x)=[[z*a]] from rfl,scal1]
  match i,hi with
  | 0,_=>show 1*_=1*_;rfl
  | 1,_=>show z*_=1*z*_;grind
 ·obtain⟨a,b,c,d,rfl⟩:=ex2 l h;rw[show([[a,b],[c,d]]:List (List F)).map (fun r=>r.map fun x=>z*x)=[[z*a,z*b],[z*c,z*d]] from rfl,scal2]
  match i,hi with
  | 0,_=>show 1*_=1*_;rfl
  | 1,_=>show z*_=1*z*_;grind
  | 2,_=>show z*z*_=1*z*z*_;grind
 ·obtain⟨a,b,c,d,e,f,g,x,y,rfl⟩:=ex3 l h;rw[show([[a,b,c],[d,e,f],[g,x,y]]:List (List F)).map (fun r=>r.map fun x=>z*x)=[[z*a,z*b,z*c],[z*d,z*e,z*f],[z*g,z*x,z*y]] from rfl,scal3]
  match i,hi with
  | 0,_=>show 1*_=1*_;rfl
  | 1,_=>show z*_=1*z*_;grind
  | 2,_=>show z*z*_=1*z*z*_;grind
  | 3,_=>show z *(z*z)*_=1*z*z*z*_;grind
 ·obtain⟨a00,a01,a02,a03,a10,a11,a12,a13,a20,a21,a22,a23,a30,a31,a32,a33,rfl⟩:=ex4 l h;rw[show([[a00,a01,a02,a03],[a10,a11,a12,a13],[a20,a21,a22,a23],[a30,a31,a32,a33]]:List (List F)).map (fun r=>r.map fun x=>z*x)=[[z*a00,z*a01,z*a02,z*a03],[z*a10,z*a11,z*a12,z*a13],[z*a20,z*a21,z*a22,z*a23],[z*a30,z*a31,z*a32,z*a33]] from rfl,scal4]
  match i,hi with
  | 0,_=>show 1*_=1*_;rfl
  | 1,_=>show z*_=1*z*_;grind
  | 2,_=>show z*z*_=1*z*z*_;grind
  | 3,_=>show z *(z*z)*_=1*z*z*z*_;grind
  | 4,_=>show z *(z *(z*z))*_=1*z*z*z*z*_;grind
theorem hm_ι:Hm (ι:Int->F):=⟨ι_zero,ι_one,ι_add,ι_mul,ι_neg⟩
end
def GrP(k:Int)(n:Nat)(M:TB)(xs:List Nb):Prop:=∀(F:Type) [Field F] (φ:Kf k F) (j:Nat),nv φ xs j =((wgr (M.map fun r=>r.map φ.to) n).reverse).getD j 0
def grN(k b:Int)(ws:List Int)(n:Nat):List Nb:=(wZ (n+1)).map fun j=>ndiv k (nnum k (ws.getD j 0)) (nnum k (bp b j))
theorem qM{k b:Int}{ws:List Int}{n:Nat}:(grN k b ws n).length=n+1:=by unfold grN;simp
theorem zgq{k:Int}(hk:kab k){xs:List Nb}{ws:List Int}{b:Int}(s:Scl k xs ws b)(j:Nat):nnum k (bp b j)≠nnum k 0:=fun e=>by
 obtain⟨F,_,_,⟨φ⟩⟩:=qD hk;have h:=congrArg φ.to e;rw[φ.num,φ.num,ι_bp,ι_zero]at h;exact zgt (s.ne φ hk) j h
theorem zhg{k:Int}(hk:kab k){b:Int}{ws:List Int}{n:Nat}:OkR k (grN k b ws n):=fun x hx=>by
 unfold grN at hx;obtain⟨j,_,rfl⟩:=wk.mp hx;exact zcH hk (zR hk _) (zR hk _)
theorem zgT{k:Int}(hk:kab k){n:Nat}{M:TB}(n1:1<=n)(n4:n<=4)(lM:M.length=n)(oM:OkM k n M){b:Int}(s:Scl k M.flatten (M.flatten.map (scW b)) b):GrP k n M (grN k b (wgr (M.map fun r=>r.map (scW b)) n) n).reverse:=by
 intro F _ φ j;have zn:=s.ne φ hk;have eW:(M.map fun r=>r.map (scW b)).map (fun r=>r.map (ι:Int->F)) =(M.map fun r=>r.map φ.to).map fun r=>r.map fun x=>ι b*x:=by
  rw[vq,vq];refine wW fun r hr=>?_
  show(r.map (scW b)).map ι =(r.map φ.to).map fun x=>ι b*x
  rw[vq,vq];refine wW fun x hx=>?_
  show(ι (scW b x):F)=ι b*φ.to x;rw[zd1 φ s.one ((oM r hr).2 x hx) (s.dv x (uO.mpr ⟨r,hr,hx⟩))]
  grind
 have eg:∀ i,i<=n->(ι ((wgr (M.map fun r=>r.map (scW b)) n).getD i 0):F)=zq (ι b) i *(wgr (M.map fun r=>r.map φ.to) n).getD i 0:=fun i hi=>by
  rw[Qo hm_ι,Xf hm_ι,eW];exact zeg (ι b) n1 n4 (by rw[wc,lM]) (fun r hr=>by
   obtain⟨r',hr',rfl⟩:=wk.mp hr;rw[wc,(oM r' hr').1]) i hi
 rcases wS j (n+1)with hj|hj
 ·have l1:j <(grN k b (wgr (M.map fun r=>r.map (scW b)) n) n).length:=by rw[qM];exact hj
  have l2:j <(wgr (M.map fun r=>r.map φ.to) n).length:=by rw[yC];exact hj
  rw[yp φ (x:=ndiv k (nnum k ((wgr (M.map fun r=>r.map (scW b)) n).getD (n - j) 0)) (nnum k (bp b (n - j)))) (by
   rw[vS l1,qM];unfold grN;rw[wf,show n+1 - 1 - j=n - j by omega,ve (by omega)];rfl)]
  rw[φ.div (zR hk _) (zR hk _) (zgq hk s _),φ.num,φ.num,eg (n - j) (by omega),ι_bp];have e2:(wgr (M.map fun r=>r.map φ.to) n).reverse.getD j 0 =(wgr (M.map fun r=>r.map φ.to) n).getD (n - j) 0:=by
   rw[wb,vS l2,yC,show n+1 - 1 - j=n - j by omega,← wb]
  rw[e2];have:=zgt zn (n - j)
  grind
 ·rw[yl φ (by rw[vE,qM];exact hj),wb,vA (by rw[vE,yC];exact hj)]
  rfl
end La
namespace La
open Lean.Grind Nm
section
variable{F:Type}[CommRing F]
def mulT(P Q:Nat->F):Nat->Nat->F
 | 0,_=>0
 | i+1,m=>mulT P Q i m+P i *(if i<=m then Q (m - i)else 0)
theorem QY(P Q:Nat->F):∀ n,mulT P Q (n+1) 0=P 0*Q 0
 | 0=>by show(0:F)+P 0*Q 0=P 0*Q 0;grind
 | n+1=>by
  show mulT P Q (n+1) 0+P (n+1) *(if n+1<=0 then _ else 0)=_;rw[QY P Q n,if_neg (by omega)];grind
theorem XN(P Q:Nat->F)(m:Nat):∀ n,mulT P Q (n+1) (m+1)=P 0*Q (m+1)+mulT (fun i=>P (i+1)) Q n m
 | 0=>by show(0:F)+P 0*Q (m+1)=P 0*Q (m+1)+0;grind
 | n+1=>by
  show mulT P Q (n+1) (m+1)+P (n+1) *(if n+1<=m+1 then Q (m+1 - (n+1))else 0)=P 0*Q (m+1) +(mulT (fun i=>P (i+1)) Q n m+P (n+1) *(if n<=m then Q (m - n)else 0));rw[XN P Q m n]
  by_cases c:n<=m
  ·rw[if_pos c,if_pos (by omega),show m+1 - (n+1)=m - n by omega];grind
  ·rw[if_neg c,if_neg (by omega)];grind
theorem zaW:∀(n m:Nat)(P Q:Nat->F),(∀ i,n<=i->P i=0)->pmu m P Q=mulT P Q n m
 | 0,m,P,Q,h=>by
  have:P=fun _=>0:=funext fun i=>h i (vN _)
  rw[this];exact YC m Q
 | n+1,0,P,Q,h=>(QY P Q n).symm
 | n+1,m+1,P,Q,h=>by
  rw[XN];show P 0*Q (m+1)+pmu m (ptl P) Q=_;rw[zaW n m (ptl P) Q (fun i hi=>h (i+1) (by omega))]
  rfl
end
end La
namespace La
open Lean.Grind Nm
theorem zgn{k:Int}{F:Type}[Field F]{φ:Kf k F}{xs:List Nb}{j q:Nat}{y:Nb}(hj:j<xs.length):nv φ (xs.set j y) q=if q=j then φ.to y else nv φ xs q:=by
 unfold nv;rw[wb,wb,vf]
 by_cases c:q=j
 ·subst c;rw[if_pos rfl,if_pos hj,if_pos rfl];rfl
 ·rw[if_neg (Ne.symm c),if_neg c]
end La
namespace La
open Lean.Grind Nm
def pnv{k:Int}{F:Type}[Field F](φ:Kf k F)(xs:List Nb):PSr F:=fun j=>nv φ xs j
end La
namespace La
open Lean.Grind Nm
def grRow(k:Int)(M:TB)(i j:Nat):List Nb:=if i=j then [nsub k (nnum k 0) ((M.getD i []).getD j (.z 0)),nnum k 1] else [nsub k (nnum k 0) ((M.getD i []).getD j (.z 0))]
def grR(k:Int)(M:TB)(n:Nat):List (TB):=(wZ n).map fun i=>(wZ n).map fun j=>grRow k M i j
section
variable{k:Int}{F:Type}[Field F]
theorem yq(φ:Kf k F)(hk:kab k){x:Nb}(ox:x.ok k):pnv φ [nsub k (nnum k 0) x]=pol [-(φ.to x)]:=by
 have e:φ.to (nsub k (nnum k 0) x) = -(φ.to x):=by rw[φ.sub (zR hk 0) ox,φ.num0];grind
 funext j
 match j with
 | 0=>exact e
 | j+1=>exact yl φ (by simp)
theorem ju(φ:Kf k F)(hk:kab k){x:Nb}(ox:x.ok k):pnv φ [nsub k (nnum k 0) x,nnum k 1]=pol [-(φ.to x),1]:=by
 have e:φ.to (nsub k (nnum k 0) x) = -(φ.to x):=by rw[φ.sub (zR hk 0) ox,φ.num0];grind
 have e1:φ.to (nnum k 1)=1:=by rw[φ.num,ι_one]
 funext j
 match j with
 | 0=>exact e
 | 1=>exact e1
 | j+2=>exact yl φ (by simp)
theorem zhV{α:Type}{l:List α}(h:l.length=2):∃ a b,l=[a,b]:=by match l,h with | [a,b],_=>exact⟨a,b,rfl⟩
theorem zh0{α:Type}{l:List α}(h:l.length=3):∃ a b c,l=[a,b,c]:=by match l,h with | [a,b,c],_=>exact⟨a,b,c,rfl⟩
theorem zh4{α:Type}{l:List α}(h:l.length=4):∃ a b c d,l=[a,b,c,d]:=by match l,h with | [a,b,c,d],_=>exact⟨a,b,c,d,rfl⟩
theorem zhT{α:Type}{l:List α}(h:l.length=5):∃ a b c d e,l=[a,b,c,d,e]:=by match l,h with | [a,b,c,d,e],_=>exact⟨a,b,c,d,e,rfl⟩
theorem zgs(φ:Kf k F)(hk:kab k){n:Nat}{M:TB}(n1:1<=n)(n4:n<=4)(lM:M.length=n)(oM:OkM k n M):cdet n ((grR k M n).map fun r=>r.map fun x=>pnv φ x)=fun j=>((wgr (M.map fun r=>r.map φ.to) n).reverse).getD j 0:=by
 have hl:∀ r∈M,r.length=n:=fun r hr=>(oM r hr).1
 have hx:∀ r∈M,∀ x∈r,x.ok k:=fun r hr=>(oM r hr).2
 rcases (show n=1\/n=2\/n=3\/n=4 by omega)with e|e|e|e <;> subst e
 ·obtain⟨a,rfl⟩:=ex1 lM hl;have oa:=hx [a] (by simp) a (by simp);show cdet 1 [[pnv φ [nsub k (nnum k 0) a,nnum k 1]]]=_;rw[ju φ hk oa,law1];obtain⟨c0,c1,ec⟩:=zhV (yC [[φ.to a]] 1);show pol _=fun j=>(wgr [[φ.to a]] 1).reverse.getD j 0
  rw[ec];rfl
 ·obtain⟨a,b,c,d,rfl⟩:=ex2 lM hl;have oa:=hx [a,b] (by simp) a (by simp);have ob:=hx [a,b] (by simp) b (by simp);have oc:=hx [c,d] (by simp) c (by simp);have od:=hx [c,d] (by simp) d (by simp);show cdet 2 [[pnv φ [nsub k (nnum k 0) a,nnum k 1],pnv φ [nsub k (nnum k 0) b]],[pnv φ [nsub k (nnum k 0) c],pnv φ [nsub k (nnum k 0) d,nnum k 1]]]=_;rw[ju φ hk oa,yq φ hk ob,yq φ hk oc,ju φ hk od,law2];obtain⟨c0,c1,c2,ec⟩:=zh0 (yC [[φ.to a,φ.to b],[φ.to c,φ.to d]] 2);show pol _=fun j=>(wgr [[φ.to a,φ.to b],[φ.to c,φ.to d]] 2).reverse.getD j 0
  rw[ec];rfl
 ·obtain⟨a,b,c,d,e,f,g,x,y,rfl⟩:=ex3 lM hl;have oa:=hx [a,b,c] (by simp) a (by simp);have ob:=hx [a,b,c] (by simp) b (by simp);have oc:=hx [a,b,c] (by simp) c (by simp);have od:=hx [d,e,f] (by simp) d (by simp);have oe:=hx [d,e,f] (by simp) e (by simp);have of:=hx [d,e,f] (by simp) f (by simp);have og:=hx [g,x,y] (by simp) g (by simp);have ox:=hx [g,x,y] (by simp) x (by simp);have oy:=hx [g,x,y] (by simp) y (by simp);show cdet 3 [[pnv φ [nsub k (nnum k 0) a,nnum k 1],pnv φ [nsub k (nnum k 0) b],pnv φ [nsub k (nnum k 0) c]],[pnv φ [nsub k (nnum k 0) d],pnv φ [nsub k (nnum k 0) e,nnum k 1],pnv φ [nsub k (nnum k 0) f]],[pnv φ [nsub k (nnum k 0) g],pnv φ [nsub k (nnum k 0) x],pnv φ [nsub k (nnum k 0) y,nnum k 1]]]=_;rw[ju φ hk oa,yq φ hk ob,yq φ hk oc,yq φ hk od,ju φ hk oe,yq φ hk of,yq φ hk og,yq φ hk ox,ju φ hk oy,law3];obtain⟨c0,c1,c2,c3,ec⟩:=zh4 (yC [[φ.to a,φ.to b,φ.to c],[φ.to d,φ.to e,φ.to f],[φ.to g,φ.to x,φ.to y]] 3);show pol _=fun j=>(wgr [[φ.to a,φ.to b,φ.to c],[φ.to d,φ.to e,φ.to f],[φ.to g,φ.to x,φ.to y]] 3).reverse.getD j 0
  rw[ec];rfl
 ·obtain⟨a00,a01,a02,a03,a10,a11,a12,a13,a20,a21,a22,a23,a30,a31,a32,a33,rfl⟩:=ex4 lM hl;have o0:=hx [a00,a01,a02,a03] (by simp);have o1:=hx [a10,a11,a12,a13] (by simp);have o2:=hx [a20,a21,a22,a23] (by simp);have o3:=hx [a30,a31,a32,a33] (by simp);show cdet 4 [[pnv φ [nsub k (nnum k 0) a00,nnum k 1],pnv φ [nsub k (nnum k 0) a01],pnv φ [nsub k (nnum k 0) a02],pnv φ [nsub k (nnum k 0) a03]],[pnv φ [nsub k (nnum k 0) a10],pnv φ [nsub k (nnum k 0) a11,nnum k 1],pnv φ [nsub k (nnum k 0) a12],pnv φ [nsub k (nnum k 0) a13]],[pnv φ [nsub k (nnum k 0) a20],pnv φ [nsub k (nnum k 0) a21],pnv φ [nsub k (nnum k 0) a22,nnum k 1],pnv φ [nsub k (nnum k 0) a23]],[pnv φ [nsub k (nnum k 0) a30],pnv φ [nsub k (nnum k 0) a31],pnv φ [nsub k (nnum k 0) a32],pnv φ [nsub k (nnum k 0) a33,nnum k 1]]]=_;rw[ju φ hk (o0 a00 (by simp)),yq φ hk (o0 a01 (by simp)),yq φ hk (o0 a02 (by simp)),yq φ hk (o0 a03 (by simp)),yq φ hk (o1 a10 (by simp)),ju φ hk (o1 a11 (by simp)),yq φ hk (o1 a12 (by simp)),yq φ hk (o1 a13 (by simp)),yq φ hk (o2 a20 (by simp)),yq φ hk (o2 a21 (by simp)),ju φ hk (o2 a22 (by simp)),yq φ hk (o2 a23 (by simp)),yq φ hk (o3 a30 (by simp)),yq φ hk (o3 a31 (by simp)),yq φ hk (o3 a32 (by simp)),ju φ hk (o3 a33 (by simp)),law4];obtain⟨c0,c1,c2,c3,c4,ec⟩:=zhT (yC [[φ.to a00,φ.to a01,φ.to a02,φ.to a03],[φ.to a10,φ.to a11,φ.to a12,φ.to a13],[φ.to a20,φ.to a21,φ.to a22,φ.to a23],[φ.to a30,φ.to a31,φ.to a32,φ.to a33]] 4);show pol _=fun j=>(wgr [[φ.to a00,φ.to a01,φ.to a02,φ.to a03],[φ.to a10,φ.to a11,φ.to a12,φ.to a13],[φ.to a20,φ.to a21,φ.to a22,φ.to a23],[φ.to a30,φ.to a31,φ.to a32,φ.to a33]] 4).reverse.getD j 0
  rw[ec];rfl
end
end La
namespace La
open Lean.Grind Nm
end La
namespace Dt
open Lean.Grind
section
variable{R:Type}[CommRing R]
def sg(f:Nat->R):Nat->R
 | 0=>0
 | n+1=>sg f n+f n
theorem zm{f g:Nat->R}:∀ n,(∀ i,i<n->f i=g i)->sg f n=sg g n
 | 0,_=>rfl
 | n+1,h=>by
  show sg f n+f n=sg g n+g n;rw[zm n (fun i hi=>h i (by omega)),h n (by omega)]
theorem xM(f g:Nat->R):∀ n,sg (fun i=>f i+g i) n=sg f n+sg g n
 | 0=>by show(0:R)=0+0;grind
 | n+1=>by
  show sg (fun i=>f i+g i) n +(f n+g n) =(sg f n+f n) +(sg g n+g n);rw[xM f g n];grind
theorem jZ(c:R)(f:Nat->R):∀ n,sg (fun i=>c*f i) n=c*sg f n
 | 0=>by show(0:R)=c*0;grind
 | n+1=>by
  show sg (fun i=>c*f i) n+c*f n=c *(sg f n+f n);rw[jZ c f n];grind
theorem XH(c:R)(f:Nat->R)(n:Nat):sg (fun i=>f i*c) n=sg f n*c:=by
 rw[show(fun i=>f i*c)=fun i=>c*f i from funext fun i=>by grind,jZ];grind
theorem zds(n:Nat):sg (fun _=>(0:R)) n=0:=by
 induction n with
 | zero=>rfl
 | succ n ih=>show sg (fun _=>(0:R)) n+0=0;rw[ih];grind
theorem sg_0{f:Nat->R}{n:Nat}(h:∀ i,i<n->f i=0):sg f n=0:=by rw[zm n h,zds]
theorem zam(f:Nat->Nat->R)(m:Nat):∀ n,sg (fun i=>sg (fun j=>f i j) m) n=sg (fun j=>sg (fun i=>f i j) n) m
 | 0=>(zds m).symm
 | n+1=>by
  show sg (fun i=>sg (fun j=>f i j) m) n+sg (fun j=>f n j) m=sg (fun j=>sg (fun i=>f i j) n+f n j) m;rw[zam f m n,xM]
def idm(i j:Nat):R:=if i=j then 1 else 0
theorem yi(i:Nat):(idm i i:R)=1:=if_pos rfl
theorem yj{i j:Nat}(h:i≠j):(idm i j:R)=0:=if_neg h
theorem qj{i:Nat}(f:Nat->R):∀ n,i<n->sg (fun l=>idm i l*f l) n=f i
 | n+1,h=>by
  show sg (fun l=>idm i l*f l) n+idm i n*f n=f i
  rcases vK (vU h)with g|g
  ·rw[qj f n g,yj (by omega)];grind
  ·subst g;rw[sg_0 fun l hl=>by rw[yj (by omega)];grind,yi];grind
theorem zeo(i j:Nat):(idm i j:R)=idm j i:=by
 unfold idm
 by_cases h:i=j
 ·rw[if_pos h,if_pos h.symm]
 ·rw[if_neg h,if_neg (fun e=>h e.symm)]
theorem Qs{i:Nat}(f:Nat->R)(n:Nat)(h:i<n):sg (fun l=>f l*idm l i) n=f i:=by
 rw[zm n (g:=fun l=>idm i l*f l) (fun l _=>by rw[zeo l i];grind),qj f n h]
def mm(n:Nat)(X Y:Nat->Nat->R):Nat->Nat->R:=fun i j=>sg (fun l=>X i l*Y l j) n
theorem XM(n:Nat)(X Y:Nat->Nat->R)(w:Nat->R)(i:Nat):sg (fun j=>mm n X Y i j*w j) n=sg (fun l=>X i l*sg (fun j=>Y l j*w j) n) n:=by
 have e:∀ j,mm n X Y i j*w j=sg (fun l=>X i l *(Y l j*w j)) n:=fun j=>by
  show sg _ n*w j=_;rw[← XH];exact zm n fun l _=>by grind
 rw[zm n fun j _=>e j,zam];exact zm n fun l _=>jZ _ _ n
theorem zhu(n:Nat)(X Y:Nat->Nat->R)(v:Nat->R)(j:Nat):sg (fun i=>v i*mm n X Y i j) n=sg (fun l=>sg (fun i=>v i*X i l) n*Y l j) n:=by
 have e:∀ i,v i*mm n X Y i j=sg (fun l=>v i*X i l*Y l j) n:=fun i=>by
  show v i*sg _ n=_;rw[← jZ];exact zm n fun l _=>by grind
 rw[zm n fun i _=>e i,zam];exact zm n fun l _=>XH _ _ n
theorem JS(n:Nat)(X Y Z:Nat->Nat->R)(i j:Nat):mm n (mm n X Y) Z i j=mm n X (mm n Y Z) i j:=XM n X Y (fun l=>Z l j) i
theorem Qa{n:Nat}{X X' Y Y':Nat->Nat->R}(h:∀ i j,i<n->j<n->X i j=X' i j)(g:∀ i j,i<n->j<n->Y i j=Y' i j){i j:Nat}(hi:i<n)(hj:j<n):mm n X Y i j=mm n X' Y' i j:=zm n fun l hl=>by rw[h i l hi hl,g l j hl hj]
theorem zhO{n:Nat}{X:Nat->Nat->R}{i j:Nat}(hi:i<n):mm n idm X i j=X i j:=qj _ n hi
theorem zfs{n:Nat}{X:Nat->Nat->R}{i j:Nat}(hj:j<n):mm n X idm i j=X i j:=Qs _ n hj
structure Loc(J:R->Prop):Prop where
 zero:J 0
 add:∀ {a b},J a->J b->J (a+b)
 mul:∀(c:R) {a},J a->J (c*a)
 inv:∀ {a},J a->∃ b,(1+a)*b=1
variable{J:R->Prop}(L:Loc J)
include L
theorem Loc.neg{a:R}(h:J a):J (-a):=by
 have:=L.mul (-1) h;rw[show -1*a = -a by grind]at this;exact this
theorem Loc.mulr(c:R){a:R}(h:J a):J (a*c):=by rw[show a*c=c*a by grind];exact L.mul c h
theorem Loc.sub{a b:R}(h:J a)(g:J b):J (a - b):=by rw[show a - b=a + -b by grind];exact L.add h (L.neg g)
theorem Loc.sum{f:Nat->R}:∀ n,(∀ i,i<n->J (f i))->J (sg f n)
 | 0,_=>L.zero
 | n+1,h=>L.add (Loc.sum n fun i hi=>h i (by omega)) (h n (by omega))
omit L
def Nr(J:R->Prop)(n:Nat)(X:Nat->Nat->R):Prop:=∀ i j,i<n->j<n->J (X i j - idm i j)
structure Bk(n:Nat)(X G:Nat->Nat->R):Prop where
 r:∀ i j,i<n->j<n->mm n X G i j=idm i j
 l:∀ i j,i<n->j<n->mm n G X i j=idm i j
include L
theorem Nr.mm{n:Nat}{X Y:Nat->Nat->R}(hX:Nr J n X)(hY:Nr J n Y):Nr J n (mm n X Y):=fun i j hi hj=>by
 have e:Dt.mm n X Y i j - idm i j=sg (fun l=>(X i l - idm i l)*Y l j) n +(Y i j - idm i j):=by
  have:sg (fun l=>(X i l - idm i l)*Y l j) n=Dt.mm n X Y i j - Y i j:=by
   rw[zm n (g:=fun l=>X i l*Y l j +(-1) *(idm i l*Y l j)) (fun l _=>by grind),xM,jZ,qj _ n hi];show Dt.mm n X Y i j+_=_
   grind
  rw[this];grind
 rw[e];exact L.add (L.sum n fun l hl=>L.mulr _ (hX i l hi hl)) (hY i j hi hj)
theorem Nr.off{n:Nat}{X:Nat->Nat->R}(h:Nr J n X){i j:Nat}(hi:i<n)(hj:j<n)(ne:i≠j):J (X i j):=by
 have:=h i j hi hj;rw[yj ne,show X i j - 0=X i j by grind]at this;exact this
theorem QI:∀(n:Nat)(X:Nat->Nat->R),Nr J n X->∃ G,Bk n X G/\Nr J n G
 | 0,X,_=>⟨X,⟨fun _ _ h=>absurd h (uF _),fun _ _ h=>absurd h (uF _)⟩,fun _ _ h=>absurd h (uF _)⟩
 | n+1,X,hX=>by
  obtain⟨G,hG,nG⟩:=QI n X fun i j hi hj=>hX i j (by omega) (by omega)
  let w:Nat->R:=fun i=>sg (fun l=>G i l*X l n) n
  let v:Nat->R:=fun j=>sg (fun l=>X n l*G l j) n
  let σ:R:=X n n - sg (fun i=>X n i*w i) n
  have jw:∀ i,i<n->J (w i):=fun i hi=>L.sum n fun l hl=>L.mul _ (hX.off L (by omega) (by omega) (by omega))
  have jv:∀ j,j<n->J (v j):=fun j hj=>L.sum n fun l hl=>L.mulr _ (hX.off L (by omega) (by omega) (by omega))
  have js:J (σ - 1):=by
   have h1:=hX n n (by omega) (by omega);rw[yi]at h1;have h2:J (sg (fun i=>X n i*w i) n):=L.sum n fun l hl=>L.mul _ (jw l hl)
   have:=L.sub h1 h2;rw[show X n n - 1 - sg (fun i=>X n i*w i) n=σ - 1 by show _=X n n - sg (fun i=>X n i*w i) n - 1;grind]at this;exact this
  obtain⟨τ,hτ⟩:=L.inv js;have st:σ*τ=1:=by rw[← hτ];grind
  have Xw:∀ i,i<n->sg (fun l=>X i l*w l) n=X i n:=fun i hi=>by
   have:=XM n X G (fun l=>X l n) i;rw[zm n (g:=fun j=>idm i j*X j n) (fun j hj=>by rw[hG.r i j hi hj]),qj _ n hi]at this;exact this.symm
  have vX:∀ j,j<n->sg (fun l=>v l*X l j) n=X n j:=fun j hj=>by
   have:=zhu n G X (fun l=>X n l) j;rw[zm n (g:=fun i=>X n i*idm i j) (fun i hi=>by rw[hG.l i j hi hj]),Qs _ n hj]at this;exact this.symm
  have vc:sg (fun l=>v l*X l n) n=sg (fun i=>X n i*w i) n:=(XM n (fun _ l=>X n l) G (fun l=>X l n) 0)
  let H:Nat->Nat->R:=fun i j=>if i<n then(if j<n then G i j+w i *(τ*v j)else -(w i*τ))else(if j<n then -(τ*v j)else τ)
  have h1:∀ i j,i<n->j<n->H i j=G i j+w i *(τ*v j):=fun i j hi hj=>by show(if i<n then _ else _)=_;rw[if_pos hi,if_pos hj]
  have h2:∀ i,i<n->H i n = -(w i*τ):=fun i hi=>by show(if i<n then _ else _)=_;rw[if_pos hi,if_neg (by omega)]
  have h3:∀ j,j<n->H n j = -(τ*v j):=fun j hj=>by show(if n<n then _ else _)=_;rw[if_neg (by omega),if_pos hj]
  have h4:H n n=τ:=by show(if n<n then _ else _)=_;rw[if_neg (by omega),if_neg (by omega)]
  refine⟨H,⟨fun i j hi hj=>?_,fun i j hi hj=>?_⟩,fun i j hi hj=>?_⟩
  ·show sg (fun l=>X i l*H l j) n+X i n*H n j=idm i j
   rcases vK (vU hj)with hj|hj
   ·rw[h3 j hj,zm n (g:=fun l=>X i l*G l j +(X i l*w l) *(τ*v j)) (fun l hl=>by rw[h1 l j hl hj];grind),xM,XH]
    rcases vK (vU hi)with hi|hi
    ·have:=hG.r i j hi hj;rw[Xw i hi,show sg (fun l=>X i l*G l j) n=idm i j from this];grind
    ·subst hi;show v j+sg (fun l=>X i l*w l) i *(τ*v j)+_=_;rw[yj (by omega)];have:σ=X i i - sg (fun l=>X i l*w l) i:=rfl
     grind
   ·subst hj;rw[h4,zm j (g:=fun l=>(X i l*w l) *(-τ)) (fun l hl=>by rw[h2 l hl];grind),XH]
    rcases vK (vU hi)with hi|hi
    ·rw[Xw i hi,yj (by omega)];grind
    ·subst hi;rw[yi];have:σ=X i i - sg (fun l=>X i l*w l) i:=rfl
     grind
  ·show sg (fun l=>H i l*X l j) n+H i n*X n j=idm i j
   rcases vK (vU hi)with hi|hi
   ·rw[h2 i hi,zm n (g:=fun l=>G i l*X l j +(w i*τ) *(v l*X l j)) (fun l hl=>by rw[h1 i l hi hl];grind),xM,jZ]
    rcases vK (vU hj)with hj|hj
    ·have:=hG.l i j hi hj;rw[vX j hj,show sg (fun l=>G i l*X l j) n=idm i j from this];grind
    ·subst hj;rw[vc];show w i +(w i*τ)*sg (fun l=>X j l*w l) j+_=_;rw[yj (by omega)];have:σ=X j j - sg (fun l=>X j l*w l) j:=rfl
     grind
   ·subst hi;rw[h4,zm i (g:=fun l=>(-τ) *(v l*X l j)) (fun l hl=>by rw[h3 l hl];grind),jZ]
    rcases vK (vU hj)with hj|hj
    ·rw[vX j hj,yj (by omega)];grind
    ·subst hj;rw[vc,yi];have:σ=X j j - sg (fun l=>X j l*w l) j:=rfl
     grind
  ·rcases vK (vU hi)with hi|hi
   ·rcases vK (vU hj)with hj|hj
    ·rw[h1 i j hi hj,show G i j+w i *(τ*v j) - idm i j =(G i j - idm i j)+w i *(τ*v j) by grind];exact L.add (nG i j hi hj) (L.mulr _ (jw i hi))
    ·subst hj;rw[h2 i hi,yj (by omega),show -(w i*τ) - 0 = -(w i*τ) by grind];exact L.neg (L.mulr _ (jw i hi))
   ·subst hi
    rcases vK (vU hj)with hj|hj
    ·rw[h3 j hj,yj (by omega),show -(τ*v j) - 0 = -(τ*v j) by grind];exact L.neg (L.mul _ (jv j hj))
    ·subst hj;rw[h4,yi,show τ - 1 = -(τ *(σ - 1)) by grind];exact L.neg (L.mul _ js)
omit L
inductive Dl:Nat->(Nat->Nat->R)->R->Prop
 | nil (X:Nat->Nat->R):Dl 0 X 1
 | cons {n:Nat} {X:Nat->Nat->R} {d:R} (w:Nat->R) (h:Dl n X d) (hw:∀ i,i<n->sg (fun l=>X i l*w l) n=X i n):Dl (n+1) X (d *(X n n - sg (fun i=>X n i*w i) n))
theorem Dl.congr{X Y:Nat->Nat->R}:∀ {n:Nat} {d:R},Dl n X d->(∀ i j,i<n->j<n->X i j=Y i j)->Dl n Y d
 | 0,_,.nil _,_=>.nil Y
 | n+1,_,.cons (d:=d) w h hw,e=>by
  have:=Dl.cons w (h.congr fun i j hi hj=>e i j (by omega) (by omega)) (X:=Y) (fun i hi=>by
   rw[← e i n (by omega) (by omega),← hw i hi];exact zm n fun l hl=>by rw[e i l (by omega) (by omega)])
  rw[← e n n (by omega) (by omega),zm n (g:=fun i=>X n i*w i) (fun l hl=>by rw[e n l (by omega) (by omega)])]at this;exact this
theorem za1{n:Nat}{X G:Nat->Nat->R}(h:Bk n X G){w c:Nat->R}(hw:∀ i,i<n->sg (fun l=>X i l*w l) n=c i){i:Nat}(hi:i<n):w i=sg (fun l=>G i l*c l) n:=by
 have:=XM n G X w i;rw[zm n (g:=fun j=>idm i j*w j) (fun j hj=>by rw[h.l i j hi hj]),qj _ n hi]at this;rw[this];exact zm n fun l hl=>by rw[hw l hl]
theorem zcA{n:Nat}{X G:Nat->Nat->R}(h:Bk n X G)(c:Nat->R){i:Nat}(hi:i<n):sg (fun l=>X i l*sg (fun j=>G l j*c j) n) n=c i:=by
 rw[← XM,zm n (g:=fun j=>idm i j*c j) (fun j hj=>by rw[h.r i j hi hj]),qj _ n hi]
include L
theorem Dl.uniq{X:Nat->Nat->R}:∀ {n:Nat} {d e:R},Nr J n X->Dl n X d->Dl n X e->d=e
 | 0,_,_,_,.nil _,.nil _=>rfl
 | n+1,_,_,hX,.cons w h hw,.cons w' h' hw'=>by
  have hn:Nr J n X:=fun i j hi hj=>hX i j (by omega) (by omega)
  obtain⟨G,hG,_⟩:=QI L n X hn;rw[Dl.uniq hn h h',zm n (g:=fun i=>X n i*w' i) (fun i hi=>by rw[za1 hG hw hi,za1 hG hw' hi])]
theorem Dl.ex{X:Nat->Nat->R}:∀ {n:Nat},Nr J n X->∃ d,Dl n X d/\J (d - 1)
 | 0,_=>⟨1,.nil X,by rw[show(1:R) - 1=0 by grind];exact L.zero⟩
 | n+1,hX=>by
  have hn:Nr J n X:=fun i j hi hj=>hX i j (by omega) (by omega)
  obtain⟨d,hd,jd⟩:=Dl.ex hn;obtain⟨G,hG,_⟩:=QI L n X hn;refine⟨_,.cons (fun i=>sg (fun l=>G i l*X l n) n) hd fun i hi=>zcA hG (fun l=>X l n) hi,?_⟩;have h1:=hX n n (by omega) (by omega);rw[yi]at h1;have h2:J (sg (fun i=>X n i*sg (fun l=>G i l*X l n) n) n):=L.sum n fun l hl=>L.mulr _ (hX.off L (by omega) (by omega) (by omega))
  generalize sg (fun i=>X n i*sg (fun l=>G i l*X l n) n) n=z at *;rw[show d *(X n n - z) - 1 =(X n n - z) *(d - 1) +((X n n - 1) - z) by grind];exact L.add (L.mul _ jd) (L.sub h1 h2)
theorem JG(u v:Nat->R):∀ n,(∀ i,i<n->J (u i))->Dl n (fun i j=>idm i j+u i*v j) (1+sg (fun i=>v i*u i) n)
 | 0,_=>by
  have:=Dl.nil (R:=R) (fun i j=>idm i j+u i*v j);rw[show(1:R)+sg (fun i=>v i*u i) 0=1 by show(1:R)+0=1;grind];exact this
 | n+1,hu=>by
  have ih:=JG u v n fun i hi=>hu i (by omega)
  have jt:J (sg (fun i=>v i*u i) n):=L.sum n fun i hi=>L.mul _ (hu i (by omega))
  obtain⟨κ,hκ⟩:=L.inv jt;have:=Dl.cons (fun i=>u i *(v n*κ)) ih fun i hi=>by
   show sg (fun l=>(idm i l+u i*v l) *(u l *(v n*κ))) n=idm i n+u i*v n;rw[zm n (g:=fun l=>idm i l *(u l *(v n*κ)) +(u i *(v n*κ)) *(v l*u l)) (fun l _=>by grind),xM,qj _ n hi,jZ,yj (by omega)];generalize sg (fun i=>v i*u i) n=t at *
   grind
  have e:(1+sg (fun i=>v i*u i) n) *((fun i j=>idm i j+u i*v j) n n - sg (fun i=>(fun i j=>idm i j+u i*v j) n i *(u i *(v n*κ))) n)=1+sg (fun i=>v i*u i) (n+1):=by
   show(1+sg (fun i=>v i*u i) n) *(idm n n+u n*v n - sg (fun i=>(idm n i+u n*v i) *(u i *(v n*κ))) n)=1 +(sg (fun i=>v i*u i) n+v n*u n);rw[zm n (f:=fun i=>(idm n i+u n*v i) *(u i *(v n*κ))) (g:=fun i=>(u n *(v n*κ)) *(v i*u i)) (fun i hi=>by show(idm n i+u n*v i) *(u i *(v n*κ))=_;rw[yj (by omega)];grind),jZ,yi];generalize sg (fun i=>v i*u i) n=t at *
   grind
  rw[e]at this;exact this
theorem Dl.mul:∀ {n:Nat} {X Y:Nat->Nat->R} {a b:R},Nr J n X->Nr J n Y->Dl n X a->Dl n Y b->Dl n (mm n X Y) (a*b)
 | 0,X,Y,_,_,_,_,.nil _,.nil _=>by
  rw[show(1:R)*1=1 by grind];exact .nil _
 | n+1,X,Y,_,_,hX,hY,.cons (d:=a) g hA hg,.cons (d:=b) h hB hh=>by
  have nX:Nr J n X:=fun i j hi hj=>hX i j (by omega) (by omega)
  have nY:Nr J n Y:=fun i j hi hj=>hY i j (by omega) (by omega)
  obtain⟨GX,bX,gX⟩:=QI L n X nX;obtain⟨GY,bY,gY⟩:=QI L n Y nY;have jg:∀ i,i<n->J (g i):=fun i hi=>by
   rw[za1 bX hg hi];exact L.sum n fun l hl=>L.mul _ (hX.off L (by omega) (by omega) (by omega))
  let p:Nat->R:=fun i=>sg (fun l=>GY i l*g l) n
  have jp:∀ i,i<n->J (p i):=fun i hi=>L.sum n fun l hl=>L.mul _ (jg l hl)
  have Yp:∀ i,i<n->sg (fun l=>Y i l*p l) n=g i:=fun i hi=>zcA bY g hi
  have r1:=JG L p (fun j=>Y n j) n jp
  let θ:R:=sg (fun i=>Y n i*p i) n
  have jθ:J θ:=L.sum n fun i hi=>L.mul _ (jp i hi)
  obtain⟨κ,hκ⟩:=L.inv jθ
  let E:Nat->Nat->R:=fun i j=>idm i j+p i*Y n j
  have nE:Nr J n E:=fun i j hi hj=>by
   show J (idm i j+p i*Y n j - idm i j);rw[show idm i j+p i*Y n j - idm i j=p i*Y n j by grind];exact L.mulr _ (jp i hi)
  have d3:=Dl.mul (nX.mm L nY) nE (Dl.mul nX nY hA hB) r1;have YE:∀ i j,i<n->j<n->mm n Y E i j=Y i j+g i*Y n j:=fun i j hi hj=>by
   show sg (fun l=>Y i l *(idm l j+p l*Y n j)) n=_;rw[zm n (g:=fun l=>Y i l*idm l j +(Y i l*p l)*Y n j) (fun l _=>by grind),xM,Qs _ n hj,XH,Yp i hi]
  have d4:=d3.congr (Y:=mm (n+1) X Y) fun i j hi hj=>by
   rw[JS];show sg (fun l=>X i l*mm n Y E l j) n=sg (fun l=>X i l*Y l j) n+X i n*Y n j;rw[zm n (g:=fun l=>X i l*Y l j +(X i l*g l)*Y n j) (fun l hl=>by rw[YE l j hl hj];grind),xM,XH,hg i hi]
  let ρ:R:=Y n n - sg (fun i=>Y n i*h i) n
  let w:Nat->R:=fun i=>h i+p i *(ρ*κ)
  have Yw:∀ l,l<n->sg (fun j=>Y l j*w j) n=Y l n+g l *(ρ*κ):=fun l hl=>by
   show sg (fun j=>Y l j *(h j+p j *(ρ*κ))) n=_;rw[zm n (g:=fun j=>Y l j*h j +(Y l j*p j) *(ρ*κ)) (fun j _=>by grind),xM,XH,hh l hl,Yp l hl]
  have qw:sg (fun j=>Y n j*w j) n=sg (fun j=>Y n j*h j) n+θ *(ρ*κ):=by
   show sg (fun j=>Y n j *(h j+p j *(ρ*κ))) n=_;rw[zm n (g:=fun j=>Y n j*h j +(Y n j*p j) *(ρ*κ)) (fun j _=>by grind),xM,XH]
  have row:∀ i,sg (fun j=>mm (n+1) X Y i j*w j) n=sg (fun l=>X i l*Y l n) n+sg (fun l=>X i l*g l) n *(ρ*κ)+X i n *(sg (fun j=>Y n j*h j) n+θ *(ρ*κ)):=fun i=>by
   show sg (fun j=>(mm n X Y i j+X i n*Y n j)*w j) n=_;rw[zm n (g:=fun j=>mm n X Y i j*w j+X i n *(Y n j*w j)) (fun j _=>by grind),xM,jZ,qw,XM,zm n (g:=fun l=>X i l*Y l n +(X i l*g l) *(ρ*κ)) (fun l hl=>by rw[Yw l hl];grind),xM,XH]
  have d5:=Dl.cons w d4 fun i hi=>by
   rw[row i,hg i hi];show _=sg (fun l=>X i l*Y l n) n+X i n*Y n n;have:ρ=Y n n - sg (fun i=>Y n i*h i) n:=rfl
   grind
  have e:a*b *(1+sg (fun i=>Y n i*p i) n) *(mm (n+1) X Y n n - sg (fun i=>mm (n+1) X Y n i*w i) n)=a *(X n n - sg (fun i=>X n i*g i) n) *(b *(Y n n - sg (fun i=>Y n i*h i) n)):=by
   rw[row n];show a*b *(1+θ) *(sg (fun l=>X n l*Y l n) n+X n n*Y n n - _)=a*_ *(b*ρ);have e1:ρ=Y n n - sg (fun i=>Y n i*h i) n:=rfl;generalize sg (fun i=>X n i*g i) n=rg at *;generalize sg (fun l=>X n l*Y l n) n=re at *;generalize sg (fun i=>Y n i*h i) n=qh at *
   grind
  rw[e]at d5;exact d5
end
end Dt
namespace Dt
open Lean.Grind La
section
variable{R:Type}[CommRing R]
theorem Qf:(1:PSr R) 0=1:=by
 have:=(jE (R:=R)).one;rw[← this];rfl
theorem Xb(n:Nat):(1:PSr R) (n+1)=0:=by
 have:=(jE (R:=R)).one;rw[← this];rfl
theorem zcy(n:Nat):(0:PSr R) n=0:=by
 have:=(jE (R:=R)).zero;rw[← this];cases n <;> rfl
theorem zdS(f:Nat->PSr R)(t:Nat):∀ n,(sg f n) t=sg (fun i=>f i t) n
 | 0=>zcy t
 | n+1=>by
  show(sg f n+f n) t=sg (fun i=>f i t) n+f n t;rw[yg,zdS f t n]
theorem QO:∀(n:Nat)(p q q':PSr R),(∀ i,i<=n->q i=q' i)->pmu n p q=pmu n p q'
 | 0,p,q,q',h=>by show p 0*q 0=p 0*q' 0;rw[h 0 (wl _)]
 | n+1,p,q,q',h=>by
  show p 0*q (n+1)+pmu n (ptl p) q=p 0*q' (n+1)+pmu n (ptl p) q';rw[h (n+1) (wl _),QO n (ptl p) q q' fun i hi=>h i (by omega)]
def bkQ(p:PSr R):Nat->PSr R
 | 0=>fun _=>1
 | n+1=>fun i=>if i<=n then bkQ p n i else -(pmu n (ptl p) (bkQ p n))
theorem zfq(p:PSr R):∀(m i:Nat),i<=m->bkQ p m i=bkQ p i i
 | 0,i,h=>by rw[show i=0 by omega]
 | m+1,i,h=>by
  rcases vK h with g|g
  ·show(if i<=m then bkQ p m i else _)=_;rw[if_pos (by omega),zfq p m i (by omega)]
  ·rw[g]
theorem zfP{p:PSr R}(h:p 0=1):∃ q:PSr R,p*q=1:=by
 refine⟨(fun i=>bkQ p i i:Nat->R),funext fun n=>?_⟩;show pmu n p (fun i=>bkQ p i i) =(1:PSr R) n;cases n with
 | zero =>
  rw[Qf];show p 0*1=1;rw[h];grind
 | succ n =>
  rw[Xb];show p 0*bkQ p (n+1) (n+1)+pmu n (ptl p) (fun i=>bkQ p i i)=0;rw[h,QO n (ptl p) (fun i=>bkQ p i i) (bkQ p n) fun i hi=>(zfq p n i hi).symm];have:bkQ p (n+1) (n+1) = -(pmu n (ptl p) (bkQ p n)):=by
   show(if n+1<=n then _ else _)=_;rw[if_neg (by omega)]
  rw[this];grind
def J0(p:PSr R):Prop:=p 0=0
theorem loc0:Loc (J0 (R:=R)) :=
 ⟨zcy 0,fun {a b} h g=>by show(a+b) 0=0;rw[yg,h,g];grind,fun c {a} h=>by show(c*a) 0=0;rw[zfB];show c 0*a 0=0;rw[h];grind,fun {a} h=>zfP (by rw[yg,Qf,h];grind)⟩
def NM(M:Nat->Nat->R):Nat->Nat->PSr R:=fun i j=>idm i j + -(pX*cst (M i j))
theorem NM_nr(M:Nat->Nat->R)(n:Nat):Nr J0 n (NM M):=fun i j _ _=>by
 show(idm i j + -(pX*cst (M i j)) - idm i j:PSr R) 0=0;rw[show idm i j + -(pX*cst (M i j)) - idm i j = -(pX*cst (M i j)) by grind,Zk,X_0];grind
theorem zbj(M:Nat->Nat->R){i j:Nat}(h:i≠j):NM M i j = -(pX*cst (M i j)):=by
 show idm i j+_=_;rw[yj h];grind
theorem zcR:∀(n:Nat)(M:Nat->Nat->R)(f:PSr R),Dl n (NM M) f->∀ t,n<t->f t=0
 | 0,M,_,.nil _,t,ht=>by
  cases t with
  | zero=>omega
  | succ t=>exact Xb t
 | n+1,M,_,.cons (d:=d) w h hw,t,ht=>by
  have L:=loc0 (R:=R);have nn:=NM_nr M n;obtain⟨G,bG,nG⟩:=QI L n (NM M) nn;have dd:=zcR n M d h;have jw:∀ i,i<n->J0 (w i):=fun i hi=>by
   rw[za1 bG hw hi];exact L.sum n fun l hl=>L.mul _ ((NM_nr M (n+1)).off L (by omega) (by omega) (by omega))
  have dw:∀ i,i<n->∀ t,n<t->(d*w i) t=0:=fun i hi t ht=>by
   have r1:=JG L w (fun j=>idm i j) n jw;rw[qj _ n hi]at r1;have nE:Nr J0 n (fun a j=>idm a j+w a*idm i j):=fun a j ha hj=>by
    rw[show idm a j+w a*idm i j - idm a j=w a*idm i j by grind];exact L.mulr _ (jw a ha)
   have d2:=(Dl.mul L nn nE h r1).congr (Y:=NM fun a j=>M a j+M a n *(if j=i then 1 else 0)) fun a j ha hj=>by
    show sg (fun l=>NM M a l *(idm l j+w l*idm i j)) n=_;rw[zm n (g:=fun l=>NM M a l*idm l j +(NM M a l*w l)*idm i j) (fun l _=>by grind),xM,Qs _ n hj,XH,hw a ha,zbj M (show a≠n by omega)];show idm a j + -(pX*cst (M a j)) + -(pX*cst (M a n))*idm i j=idm a j + -(pX*cst (M a j+M a n *(if j=i then 1 else 0)));rw[(jE (R:=R)).add,(jE (R:=R)).mul]
    by_cases e:j=i
    ·subst e;rw[yi,if_pos rfl,(jE (R:=R)).one];grind
    ·rw[yj (fun z=>e z.symm),if_neg e,(jE (R:=R)).zero];grind
   have e2:=zcR n _ _ d2 t ht;rw[show d *(1+w i)=d+d*w i by grind,yg,dd t ht]at e2;rw[← e2];grind
  obtain⟨t,rfl⟩ : ∃ t',t=t'+1:=⟨t - 1,by omega⟩;have e1:d *(NM M n n - sg (fun i=>NM M n i*w i) n)=d + -(pX *(cst (M n n)*d))+pX*sg (fun i=>cst (M n i) *(d*w i)) n:=by
   rw[zm n (g:=fun i=>(-pX) *(cst (M n i)*w i)) (fun i hi=>by rw[zbj M (show n≠i by omega)];grind),jZ];have e2:sg (fun i=>cst (M n i) *(d*w i)) n=d*sg (fun i=>cst (M n i)*w i) n:=by
    rw[← jZ];exact zm n fun i _=>by grind
   rw[e2];show d *(idm n n + -(pX*cst (M n n)) - _)=_;rw[yi];grind
  rw[e1,yg,yg,Zk,X_s,X_s,dd (t+1) (by omega),c_at,dd t (by omega),zdS,sg_0 fun i hi=>by rw[c_at,dw i hi t (by omega)];grind]
  grind
end
end Dt
namespace Dt
open Lean.Grind La
section
variable{R:Type}[CommRing R]
theorem zbE(f:Nat->R):∀ n,sg f (n+1)=f 0+sg (fun i=>f (i+1)) n
 | 0=>by show(0:R)+f 0=f 0+0;grind
 | n+1=>by
  show sg f (n+1)+f (n+1)=f 0 +(sg (fun i=>f (i+1)) n+f (n+1));rw[zbE f n];grind
theorem zaS:∀(n:Nat)(as bs:List R),as.length=n->bs.length=n->rdot as bs=sg (fun i=>as.getD i 0*bs.getD i 0) n
 | 0,[],[],_,_=>rfl
 | n+1,a::as,b::bs,h,g=>by
  rw[zbE];show a*b+rdot as bs=_;rw[zaS n as bs (by simpa using h) (by simpa using g)];rfl
theorem zbi:∀(n:Nat)(as:List R)(q:PSr R),pmu n (fun j=>as.getD j 0) q=rdot as ((wZ (n+1)).map fun i=>q (n - i))
 | 0,[],q=>by show(0:R)*q 0=0;grind
 | 0,a::as,q=>by
  show a*q 0=a*q 0+rdot as [];cases as <;>(show _=_+0;grind)
 | n+1,[],q=>by
  have:(fun j=>([]:List R).getD j 0)=fun _=>(0:R):=funext fun j=>by simp
  rw[this,YC];rfl
 | n+1,a::as,q=>by
  rw[List.range_succ_eq_map,vV,vq];show a*q (n+1)+pmu n (fun j=>as.getD j 0) q=a*q (n+1 - 0)+rdot as _;rw[zbi n as q]
  congr 2
  refine wW fun i _=>?_
  show q (n - i)=q (n+1 - (i+1));rw[show n+1 - (i+1)=n - i by omega]
def tab(W:List (List R)):Nat->Nat->R:=fun i j=>(W.getD i []).getD j 0
def pvT(M:Nat->Nat->R)(s:Nat):Nat->Nat->R
 | 0=>fun i=>M i s
 | t+1=>fun i=>sg (fun l=>M i l*pvT M s t l) s
def wT(M:Nat->Nat->R)(s i:Nat):PSr R
 | 0=>0
 | t+1=>-(pvT M s t i)
theorem zhY(M:Nat->Nat->R)(s:Nat){i:Nat}(hi:i<s):sg (fun l=>NM M i l*wT M s l) s=NM M i s:=by
 have e:sg (fun l=>NM M i l*wT M s l) s=wT M s i + -(pX*sg (fun l=>cst (M i l)*wT M s l) s):=by
  rw[zm s (g:=fun l=>idm i l*wT M s l +(-pX) *(cst (M i l)*wT M s l)) (fun l _=>by show(idm i l + -(pX*cst (M i l)))*_=_;grind),xM,qj _ s hi,jZ];grind
 rw[e,zbj M (show i≠s by omega)]
 funext t
 rw[yg,Zk,Zk];cases t with
 | zero =>
  rw[X_0,X_0];show(0:R) + -0 = -0
  grind
 | succ t =>
  rw[X_s,X_s,zdS];cases t with
  | zero =>
   rw[sg_0 fun l _=>by rw[c_at];show _ *(0:R)=0;grind];show -(M i s) + -0 = -(M i s)
   grind
  | succ t =>
   rw[zm s (g:=fun l=>(-1) *(M i l*pvT M s t l)) (fun l _=>by rw[c_at];show _ * -(pvT M s t l)=_;grind),jZ];show -(sg (fun l=>M i l*pvT M s t l) s)+_ = -0
   grind
def sgT(M:Nat->Nat->R)(s:Nat):PSr R:=NM M s s - sg (fun i=>NM M s i*wT M s i) s
theorem zhl(M:Nat->Nat->R)(s:Nat):sgT M s 0=1/\sgT M s 1 = -(M s s)/\∀ t,sgT M s (t+2) = -(sg (fun i=>M s i*pvT M s t i) s):=by
 have e:sgT M s=1 + -(pX*cst (M s s))+pX*sg (fun i=>cst (M s i)*wT M s i) s:=by
  show idm s s + -(pX*cst (M s s)) - sg (fun i=>NM M s i*wT M s i) s=_;rw[zm s (g:=fun i=>(-pX) *(cst (M s i)*wT M s i)) (fun i hi=>by rw[zbj M (show s≠i by omega)];grind),jZ,yi];grind
 refine⟨?_,?_,fun t=>?_⟩
 ·rw[e,yg,yg,Zk,X_0,X_0,Qf];grind
 ·rw[e,yg,yg,Zk,X_1,X_1,Xb,zdS,sg_0 fun i _=>by rw[c_at];show _ *(0:R)=0;grind];show(0:R) + -(M s s)+0=_
  grind
 ·rw[e,yg,yg,Zk,X_s,X_s,Xb,zdS,zm s (g:=fun i=>(-1) *(M s i*pvT M s t i)) (fun i _=>by rw[c_at];show _ * -(pvT M s t i)=_;grind),jZ];show(0:R) + -0+_=_
  grind
section
variable{W:List (List R)}{s:Nat}(lW:s<W.length)(lr:∀ r∈W,s<r.length)
include lW lr
theorem zbb{i:Nat}(hi:i<=s):((W.getD i []).take s).length=s/\∀ l,l<s->((W.getD i []).take s).getD l 0=tab W i l:=by
 have h:i<W.length:=by omega
 have e:W.getD i []=W[i]:=by rw[wb,wa h];rfl
 have:=lr _ (we h);refine⟨by rw[e,wj];omega,fun l hl=>?_⟩;show _ =(W.getD i []).getD l 0;generalize W.getD i []=r;rw[wb,gH,if_pos hl,wb]
theorem za7{α:Type}(g:List R->α):(W.take s).map g =(wZ s).map fun i=>g (W.getD i []):=by
 refine gV (by rw[wc,wj,wc,uK];omega) fun i h1 h2=>?_
 have hi:i<W.length:=by rw[wc,uK]at h2;omega
 rw[Ga,List.getElem_take,Ga,List.getElem_range,wb,wa hi]
 rfl
theorem zci:∀ t,bpow ((W.take s).map (·.take s)) ((W.take s).map (·.getD s 0)) t =(wZ s).map (pvT (tab W) s t)
 | 0=>za7 lW lr (·.getD s 0)
 | t+1=>by
  show((W.take s).map (·.take s)).map (fun r=>rdot r (bpow _ _ t))=_;rw[zci t,vq,za7 lW lr];refine wW fun i hi=>?_
  have hi':=vI.mp hi;obtain⟨l1,e1⟩:=zbb lW lr (i:=i) (by omega);show rdot ((W.getD i []).take s) _=sg (fun l=>tab W i l*pvT (tab W) s t l) s;rw[zaS s _ _ l1 (by rw[wc,uK])];refine zm s fun l hl=>?_
  rw[e1 l hl,wb,wf,ve hl];rfl
theorem zeQ:(bfac W s).length=s+2/\∀ j,j<=s+1->(bfac W s)[j]?=some (sgT (tab W) s j):=by
 refine⟨by unfold bfac;simp,fun j hj=>?_⟩;obtain⟨a0,a1,a2⟩:=zhl (tab W) s;unfold bfac
 match j,hj with
 | 0,_=>rw[a0];rfl
 | 1,_=>rw[a1];rfl
 | j+2,hj =>
  show((wZ s).map _)[j]?=_;rw[wf,ve (by omega),a2 j];show some (-(rdot ((W.getD s []).take s) _))=_;obtain⟨l1,e1⟩:=zbb lW lr (i:=s) (wl s);rw[zci lW lr j,zaS s _ _ l1 (by rw[wc,uK])]
  congr 2
  refine zm s fun l hl=>?_
  rw[e1 l hl,wb,wf,ve hl];rfl
end
theorem zeG(W:List (List R))(s:Nat):(wgr W s).length=s+1:=by
 cases s with
 | zero=>rfl
 | succ s=>simp[wgr]
theorem dl_wgr{W:List (List R)}:∀(s:Nat),s<=W.length->(∀ r∈W,s<=r.length)->∀ f,Dl s (NM (tab W)) f->∀ t,f t =(wgr W s).getD t 0
 | 0,_,_,_,.nil _,t=>by
  cases t with
  | zero=>exact Qf
  | succ t=>rw[Xb];rfl
 | s+1,lW,lr,f,hf,t=>by
  have L:=loc0 (R:=R);obtain⟨d,hd,_⟩:=Dl.ex L (NM_nr (tab W) s);have ih:=dl_wgr s (by omega) (fun r hr=>gk (lr r hr)) d hd;have ed:d=fun j=>(wgr W s).getD j 0:=funext ih
  have c:=Dl.cons (wT (tab W) s) hd fun i hi=>zhY (tab W) s hi
  have ef:f=d*sgT (tab W) s:=Dl.uniq L (NM_nr (tab W) (s+1)) hf c
  rcases wS t (s+2)with ht|ht
  ·obtain⟨bl,bg⟩:=zeQ (W:=W) (s:=s) lW lr;have e1:(wgr W (s+1)).getD t 0=rdot (wgr W s) ((bfac W s).reverse.drop (s+1 - t)):=by
    show((wZ (s+2)).map _).getD t 0=_;rw[wb,wf,ve ht];rfl
   have e2:(bfac W s).reverse.drop (s+1 - t) =(wZ (t+1)).map fun i=>sgT (tab W) s (t - i):=by
    refine GB fun i=>?_
    rw[gh,wf]
    rcases wS i (t+1)with hi|hi
    ·rw[ve hi,vS (by omega),bl,show s+2 - 1 - (s+1 - t+i)=t - i by omega,bg _ (by omega)]
     rfl
    ·rw[vA (by rw[vE];omega),vA (by rw[uK];exact hi)]
     rfl
   rw[e1,e2,ef,zfB,ed,zbi]
  ·rw[zcR (s+1) _ f hf t (by omega),wb,vA (by rw[zeG];omega)]
   rfl
end
end Dt
namespace Dt
open Lean.Grind La
section
variable{R:Type}[CommRing R]{J:R->Prop}(L:Loc J)
theorem Jb(f:Nat->R)(n:Nat):∀ m,sg f (n+m)=sg f n+sg (fun i=>f (n+i)) m
 | 0=>by show sg f n=sg f n+0;grind
 | m+1=>by
  show sg f (n+m)+f (n+m)=sg f n +(sg (fun i=>f (n+i)) m+f (n+m));rw[Jb f n m];grind
include L
theorem zhc{n:Nat}{Y:Nat->Nat->R}{d:R}(h:Dl n Y d):∀ m,Nr J (n+m) Y->(∀ i j,n<=i->i<n+m->j<n+m->Y i j=idm i j)->Dl (n+m) Y d
 | 0,_,_=>h
 | m+1,hN,e=>by
  have ih:=zhc h m (fun i j hi hj=>hN i j (by omega) (by omega)) fun i j h1 h2 h3=>e i j h1 (by omega) (by omega)
  obtain⟨G,bG,_⟩:=QI L (n+m) Y fun i j hi hj=>hN i j (by omega) (by omega)
  have c:=Dl.cons (fun i=>sg (fun l=>G i l*Y l (n+m)) (n+m)) ih fun i hi=>zcA bG (fun l=>Y l (n+m)) hi
  rw[e (n+m) (n+m) (by omega) (by omega) (by omega),yi,sg_0 fun i hi=>by rw[e (n+m) i (by omega) (by omega) (by omega),yj (by omega)];grind]at c;rw[show d *(1 - 0)=d by grind]at c;exact c
omit L
theorem zfF{n:Nat}{X Z:Nat->Nat->R}:∀ {m:Nat} {d:R},Dl m X d->(∀ i j,i<n->j<n+m->Z i j=idm i j)->(∀ i j,i<m->j<m->Z (n+i) (n+j)=X i j)->Dl (n+m) Z d
 | 0,_,.nil _,e,_=>by
  have:∀ k,k<=n->Dl k Z (1:R):=by
   intro k
   induction k with
   | zero=>exact fun _=>.nil Z
   | succ k ih =>
    intro hk;have c:=Dl.cons (fun _=>0) (ih (by omega)) fun i hi=>by rw[e i k (by omega) (by omega),yj (by omega)];exact sg_0 fun l _=>by grind
    rw[e k k (by omega) (by omega),yi,sg_0 fun i _=>by grind]at c;rw[show(1:R) *(1 - 0)=1 by grind]at c;exact c
  exact this n (wl n)
 | m+1,_,.cons (d:=d) w h hw,e,f=>by
  have ih:=zfF (Z:=Z) h (fun i j hi hj=>e i j hi (by omega)) fun i j hi hj=>f i j (by omega) (by omega)
  have sp:∀ i,sg (fun l=>Z i l *(if l<n then 0 else w (l - n))) (n+m)=sg (fun l=>Z i (n+l)*w l) m:=fun i=>by
   rw[Jb,sg_0 fun l hl=>by rw[if_pos hl];grind];rw[zm m (g:=fun l=>Z i (n+l)*w l) fun l _=>by rw[if_neg (by omega),show n+l - n=l by omega]]
   grind
  have c:=Dl.cons (fun l=>if l<n then 0 else w (l - n)) ih fun i hi=>by
   rw[sp i]
   rcases wS i n with g|g
   ·rw[e i (n+m) g (by omega),yj (by omega)];exact sg_0 fun l hl=>by rw[e i (n+l) g (by omega),yj (by omega)];grind
   ·obtain⟨i',rfl⟩ : ∃ i',i=n+i':=⟨i - n,by omega⟩;rw[f i' m (by omega) (by omega),← hw i' (by omega)];exact zm m fun l hl=>by rw[f i' l (by omega) (by omega)]
  rw[sp (n+m),f m m (by omega) (by omega),zm m (g:=fun i=>X m i*w i) fun l hl=>by rw[f m l (by omega) (by omega)]]at c;exact c
theorem zhd:∀ n,Dl n (idm:Nat->Nat->R) 1
 | 0=>.nil _
 | n+1=>by
  have c:=Dl.cons (fun _=>(0:R)) (zhd n) fun i hi=>by rw[yj (by omega)];exact sg_0 fun l _=>by grind
  rw[yi,sg_0 fun i _=>by grind,show(1:R) *(1 - 0)=1 by grind]at c;exact c
end
section
variable{R:Type}[CommRing R]
theorem zeJ(n:Nat)(X Y Z:Nat->Nat->R)(i j:Nat):mm n X (fun a b=>Y a b+Z a b) i j=mm n X Y i j+mm n X Z i j:=by
 show sg (fun l=>X i l *(Y l j+Z l j)) n=_;rw[zm n (g:=fun l=>X i l*Y l j+X i l*Z l j) (fun l _=>by grind),xM];rfl
theorem zbk(n:Nat)(X Y Z:Nat->Nat->R)(i j:Nat):mm n (fun a b=>X a b+Y a b) Z i j=mm n X Z i j+mm n Y Z i j:=by
 show sg (fun l=>(X i l+Y i l)*Z l j) n=_;rw[zm n (g:=fun l=>X i l*Z l j+Y i l*Z l j) (fun l _=>by grind),xM];rfl
def putT(n:Nat)(A G K:Nat->Nat->R):Nat->Nat->R:=fun i j=>if i<n then(if j<n then A i j else G i (j - n))else(if j<n then -(K (i - n) j)else A (i - n) (j - n)+G (i - n) (j - n)+K (i - n) (j - n))
theorem dl_put(n:Nat)(A G K:Nat->Nat->R){f1 f2:PSr R}(h1:Dl n (NM fun i j=>A i j+G i j) f1)(h2:Dl n (NM fun i j=>A i j+K i j) f2):Dl (n+n) (NM (putT n A G K)) (f1*f2):=by
 have L:=loc0 (R:=R);have hm:=jE (R:=R)
 let X:Nat->Nat->PSr R:=NM fun i j=>A i j+G i j+K i j
 have nX:Nr J0 n X:=NM_nr _ n;obtain⟨P,bP,nP⟩:=QI L n X nX;obtain⟨x,hx,_⟩:=Dl.ex L nX;obtain⟨x',hx',_⟩:=Dl.ex L nP;have one:x*x'=1:=Dl.uniq L (nX.mm L nP) (Dl.mul L nX nP hx hx') ((zhd n).congr fun i j hi hj=>(bP.r i j hi hj).symm)
 let N1:Nat->Nat->PSr R:=NM fun i j=>A i j+G i j
 let N2:Nat->Nat->PSr R:=NM fun i j=>A i j+K i j
 let yG:Nat->Nat->PSr R:=fun i j=>pX*cst (G i j)
 let yK:Nat->Nat->PSr R:=fun i j=>pX*cst (K i j)
 have e1:N1=fun i j=>X i j+yK i j:=funext fun i=>funext fun j=>by
  show idm i j + -(pX*cst (A i j+G i j))=idm i j + -(pX*cst (A i j+G i j+K i j))+pX*cst (K i j);rw[hm.add (A i j+G i j)];grind
 have e2:N2=fun i j=>X i j+yG i j:=funext fun i=>funext fun j=>by
  show idm i j + -(pX*cst (A i j+K i j))=idm i j + -(pX*cst (A i j+G i j+K i j))+pX*cst (G i j);rw[hm.add (A i j+G i j),hm.add,hm.add];grind
 let S:Nat->Nat->PSr R:=mm n (mm n N2 P) N1
 have n1:Nr J0 n N1:=NM_nr _ n;have n2:Nr J0 n N2:=NM_nr _ n;have hS:Dl n S (f2*x'*f1):=Dl.mul L (n2.mm L nP) n1 (Dl.mul L n2 nP h2 hx') h1;have eS:∀ i j,i<n->j<n->S i j=X i j+yK i j+yG i j+mm n (mm n yG P) yK i j:=fun i j hi hj=>by
  have a1:∀ a b,a<n->b<n->mm n N2 P a b=idm a b+mm n yG P a b:=fun a b ha hb=>by
   rw[e2,zbk,bP.r a b ha hb]
  have a2:S i j=mm n (fun a b=>idm a b+mm n yG P a b) N1 i j:=Qa a1 (fun _ _ _ _=>rfl) hi hj;rw[a2,zbk,zhO hi,e1,zeJ];have a3:mm n (mm n yG P) X i j=yG i j:=by
   rw[JS,Qa (X':=yG) (Y':=idm) (fun _ _ _ _=>rfl) (fun a b ha hb=>bP.l a b ha hb) hi hj,zfs hj]
  rw[a3];grind
 let U:Nat->Nat->PSr R:=fun i j=>if i<n then(if j<n then S i j else -(mm n yG P i (j - n)))else idm i j
 let Z:Nat->Nat->PSr R:=fun i j=>if i<n then idm i j else(if j<n then yK (i - n) j else X (i - n) (j - n))
 have u1:∀ i j,i<n->j<n->U i j=S i j:=fun i j hi hj=>by show(if i<n then _ else _)=_;rw[if_pos hi,if_pos hj]
 have u2:∀ i j,i<n->U i (n+j) = -(mm n yG P i j):=fun i j hi=>by show(if i<n then _ else _)=_;rw[if_pos hi,if_neg (by omega),show n+j - n=j by omega]
 have u3:∀ i j,n<=i->U i j=idm i j:=fun i j hi=>by show(if i<n then _ else _)=_;rw[if_neg (by omega)]
 have z1:∀ i j,i<n->Z i j=idm i j:=fun i j hi=>by show(if i<n then _ else _)=_;rw[if_pos hi]
 have z2:∀ i j,j<n->Z (n+i) j=yK i j:=fun i j hj=>by show(if n+i<n then _ else _)=_;rw[if_neg (by omega),if_pos hj,show n+i - n=i by omega]
 have z3:∀ i j,Z (n+i) (n+j)=X i j:=fun i j=>by show(if n+i<n then _ else _)=_;rw[if_neg (by omega),if_neg (by omega),show n+i - n=i by omega,show n+j - n=j by omega]
 have jG:∀ i j,J0 (yG i j):=fun i j=>X_0 _
 have jK:∀ i j,J0 (yK i j):=fun i j=>X_0 _
 have nU:Nr J0 (n+n) U:=fun i j hi hj=>by
  rcases wS i n with g|g
  ·rcases wS j n with g2|g2
   ·rw[u1 i j g g2];exact((n2.mm L nP).mm L n1) i j g g2
   ·obtain⟨j',rfl⟩ : ∃ j',j=n+j':=⟨j - n,by omega⟩;rw[u2 i j' g,yj (by omega),show -(mm n yG P i j') - 0 = -(mm n yG P i j') by grind];exact L.neg (L.sum n fun l _=>L.mulr _ (jG i l))
  ·rw[u3 i j g,show(idm i j:PSr R) - idm i j=0 by grind];exact L.zero
 have nZ:Nr J0 (n+n) Z:=fun i j hi hj=>by
  rcases wS i n with g|g
  ·rw[z1 i j g,show(idm i j:PSr R) - idm i j=0 by grind];exact L.zero
  ·obtain⟨i',rfl⟩ : ∃ i',i=n+i':=⟨i - n,by omega⟩
   rcases wS j n with g2|g2
   ·rw[z2 i' j g2,yj (by omega),show yK i' j - 0=yK i' j by grind];exact jK _ _
   ·obtain⟨j',rfl⟩ : ∃ j',j=n+j':=⟨j - n,by omega⟩;rw[z3 i' j'];have:=nX i' j' (by omega) (by omega)
    by_cases e:i'=j'
    ·subst e;rw[yi]at this ⊢;exact this
    ·rw[yj e]at this;rw[yj (by omega)];exact this
 have dU:Dl (n+n) U (f2*x'*f1):=zhc L (hS.congr fun i j hi hj=>(u1 i j hi hj).symm) n nU fun i j h1 _ _=>u3 i j h1
 have dZ:Dl (n+n) Z x:=zfF hx (fun i j hi _=>z1 i j hi) fun i j _ _=>z3 i j
 have d:=Dl.mul L nU nZ dU dZ;rw[show f2*x'*f1*x=f1*f2 *(x*x') by grind,one,show f1*f2*1=f1*f2 by grind]at d;refine d.congr fun i j hi hj=>?_
 show sg (fun l=>U i l*Z l j) (n+n)=idm i j + -(pX*cst (putT n A G K i j));rw[Jb];have t1:i<n->j<n->putT n A G K i j=A i j:=fun a b=>by show(if i<n then _ else _)=_;rw[if_pos a,if_pos b]
 rcases wS i n with g|g
 ·rw[zm n (g:=fun l=>U i l*idm l j) (fun l hl=>by rw[z1 l j hl])]
  rcases wS j n with g2|g2
  ·rw[Qs _ n g2,u1 i j g g2,zm n (g:=fun l=>(-1) *(mm n yG P i l*yK l j)) (fun l hl=>by rw[u2 i l g,z2 l j g2];grind),jZ,eS i j g g2,t1 g g2];show idm i j + -(pX*cst (A i j+G i j+K i j))+pX*cst (K i j)+pX*cst (G i j)+sg (fun l=>mm n yG P i l*yK l j) n + -1*sg (fun l=>mm n yG P i l*yK l j) n=_;rw[hm.add (A i j+G i j),hm.add];grind
  ·obtain⟨j',rfl⟩ : ∃ j',j=n+j':=⟨j - n,by omega⟩;rw[sg_0 fun l hl=>by rw[yj (by omega)];grind,zm n (g:=fun l=>(-1) *(mm n yG P i l*X l j')) (fun l hl=>by rw[u2 i l g,z3 l j'];grind),jZ];have a3:mm n (mm n yG P) X i j'=yG i j':=by
    rw[JS,Qa (X':=yG) (Y':=idm) (fun _ _ _ _=>rfl) (fun a b ha hb=>bP.l a b ha hb) g (show j'<n by omega),zfs (by omega)]
   have t2:putT n A G K i (n+j')=G i j':=by show(if i<n then _ else _)=_;rw[if_pos g,if_neg (by omega),show n+j' - n=j' by omega]
   rw[show sg (fun l=>mm n yG P i l*X l j') n=yG i j' from a3,t2,yj (by omega)]
   grind
 ·obtain⟨i',rfl⟩ : ∃ i',i=n+i':=⟨i - n,by omega⟩;rw[sg_0 fun l hl=>by rw[u3 (n+i') l g,yj (by omega)];grind,zm n (g:=fun l=>idm i' l*Z (n+l) j) (fun l hl=>by
   rw[u3 (n+i') (n+l) g]
   congr 1
   by_cases e:i'=l
   ·subst e;rw[yi,yi]
   ·rw[yj e,yj (by omega)]),qj _ n (by omega)]
  rcases wS j n with g2|g2
  ·have t3:putT n A G K (n+i') j = -(K i' j):=by show(if n+i'<n then _ else _)=_;rw[if_neg (by omega),if_pos g2,show n+i' - n=i' by omega]
   rw[z2 i' j g2,t3,yj (by omega),hm.neg];show 0+pX*cst (K i' j)=_
   grind
  ·obtain⟨j',rfl⟩ : ∃ j',j=n+j':=⟨j - n,by omega⟩;have t4:putT n A G K (n+i') (n+j')=A i' j'+G i' j'+K i' j':=by show(if n+i'<n then _ else _)=_;rw[if_neg (by omega),if_neg (by omega),show n+i' - n=i' by omega,show n+j' - n=j' by omega]
   rw[z3 i' j',t4];show 0 +(idm i' j'+_)=idm (n+i') (n+j')+_
   by_cases e:i'=j'
   ·subst e;rw[yi,yi];grind
   ·rw[yj e,yj (by omega)];grind
end
end Dt
namespace L2
open PySem PySem.Spec PyProof.Rows Nm
def TopOk(X:Cx):Prop:=∃ env l,X.stack=env::l/\env.scope.isGenerator=false/\env.scope.isCoroutine=false/\env.builtins=builtinsNs/\env.globals=mainGlobals
theorem zW{X:Cx}{k:Nat}(hr:Room k X.A)(hk:40<=k)(hP:X.prog.given.tree=none)(hS:X.base.NoSeer)(hT:TopOk X):OpR X (binaryOp .FloorDiv) (rI (fun _ j=>j≠0) fun i j=>.int (i.fdiv j)):=by
 intro pins s σ H x y v u Q I rx ry h;obtain⟨i,j,rfl,rfl,hc,q⟩:=h;obtain⟨t,rfl⟩:=rx;obtain⟨t',rfl⟩:=ry;obtain⟨env,l,e,h1,h2,h3,h4⟩:=hT;have hd:X.A.depth+Builtin.pylongFrames<recursionLimit:=by
  have:=hr.dp;have:Builtin.pylongFrames=100:=rfl;omega
 exact floordiv_int hc ⟨.int (i.fdiv j),H,I.tok _,⟨_,rfl⟩,q⟩ (.inr (PylongRoom.of I.nolimit hd (SeerAt.of (hS.keeps I.bk) hP (I.ok.frames.trans (congrArg some e)) h1 h2 h3 h4)))
def IRow(H:Hp)(ws:List Int)(a:Addr):Prop:=H a=some (.lst (ws.map V.int))
theorem IRow.mono{H H':Hp}{ws:List Int}{a:Addr}(h:IRow H ws a)(g:Same H H'):IRow H' ws a:=g _ _ h
structure NewT(H H':Hp)(M:TB)(top:Addr)(ras:List Addr):Prop where
 tab:kah H' M top ras
 ft:H top=none
 fr:∀ r∈ras,H r=none
 nd:ras.Nodup
 nt:top∉ras
structure NewR(H H':Hp)(xs:List Nb)(a:Addr):Prop where
 row:kai H' xs a
 fa:H a=none
theorem Same.none{H H':Hp}(g:Same H H'){p:Addr}(h:H' p=none):H p=none:=by
 cases e:H p with
 | none=>rfl
 | some u=>rw[g _ _ e]at h;cases h
theorem xl{H H':Hp}{p:Addr}{o:HO}(g:Same H H')(h:H p=none):Same H (upd H' p o):=fun b u q=>by
 rw[zH (zT q h)];exact g _ _ q
theorem kai.len{H:Hp}{xs:List Nb}{a:Addr}(h:kai H xs a):∃ vs,H a=some (.lst vs)/\Paired (RN H) xs vs/\vs.length=xs.length :=
 let ⟨vs,h1,h2⟩:=h
 ⟨vs,h1,h2,(zj h2).symm⟩
theorem Xr{α β:Type}{R:α->β->Prop}:∀ {xs:List α} {ys:List β},xs.length=ys.length->(∀(i:Nat)(a:α)(b:β),xs[i]?=some a->ys[i]?=some b->R a b)->Paired R xs ys
 | [],[],_,_=>.nil
 | [],_::_,h,_=>by simp at h
 | _::_,[],h,_=>by simp at h
 | a::xs,b::ys,h,f=>.cons (f 0 a b rfl rfl) (Xr (by simpa using h) fun i x y h1 h2=>f (i+1) x y (by simpa using h1) (by simpa using h2))
theorem qv{α β:Type}{R:α->β->Prop}{xs:List α}{ys:List β}{i:Nat}{a:α}{b:β}(h:Paired R xs ys)(h1:xs[i]?=some a)(h2:ys[i]?=some b):R a b:=by
 obtain⟨b',e,r⟩:=yU h h1;rw[h2]at e;cases e;exact r
theorem sm_one:Sm 1 1:=by unfold Sm;decide
theorem xh(n:Nat):Sm n 0:=by unfold Sm;exact GM (by decide)
theorem zdL{n:Nat}{w d:Int}(h:Sm n w)(hd:d ∣ w):Sm n (w.fdiv d):=by
 rw[vT hd]
 by_cases z:d=0
 ·subst z;rw[Int.ediv_zero];exact xh n
 ·have e:=uo hd;refine h.le ?_;have h1:(w / d*d).natAbs=w.natAbs:=by rw[e]
  rw[vM]at h1;rw[← h1];exact um _ (gE.mpr z)
theorem zgd{n:Nat}{w k:Int}(k0:0<k)(k9:k<2305843009213693952)(hn:61<=n):Sm n (w.fmod k) :=
 (Qb (wp w k0) (wv w k0) k9).mono hn
theorem zfm{n:Nat}:∀ {ws:List Int},(∀ w∈ws,Sm n w)->Sm (n+ws.length) ws.sum
 | [],_=>by rw[wai];exact xh _
 | w::ws,h=>by
  rw[List.sum_cons];have h1:=zfm (ws:=ws) fun x hx=>h x (wD _ hx)
  have h2:=(h w wq).mono (gn n ws.length);exact(h2.add h1).mono (by rw[uP];omega)
theorem yM{n:Nat}{k w:Int}(hk:kab k)(h:Sm n w)(hn:61<=n):nsm n (nnum k w):=by
 unfold nnum
 split
 ·exact⟨h,Sm.mono (m:=1) sm_one (by omega)⟩
 ·rename_i k0;exact zgd (by have:=hk.lt;omega) hk.lt.2 hn
def gLst(K:PySem.W.Frag)(n:Nat)(t:TGs):TG:=fun v σ H Q=>∃ a xs,v=.ref a/\SqL K H a xs/\xs.length=n/\t xs σ H Q
theorem zgK{X:Cx}{pos:Pos}{es:List Expr}{k:Nat}{t:TGs}{n:Nat}(hc:X.calm=true)(h:PGs X es t)
  (hn:(assignEach es X.env).length=n:=by rfl) (hst:(assignEach es X.env).findIdx? (·.1)=none:=by rfl):PG X (.Tuple es k pos) (gLst X.K n t):=by
 intro pins s σ H v u Q I r hw;obtain⟨a,xs,e1,hq,hl,hw⟩:=hw;subst e1;cases r;obtain⟨its,rv,pl,hz⟩:=I.list hq;have e:(assignEach es X.env).length=its.toArray.size:=by simp[hn,← hl,rv.length]
 rw[assign_Tuple];refine wpAny_bind (wpAny_standAt ?_);unfold unpack;rw[e,hst];refine wpAny_bind (wpAny_holding (PySem.W.kun_itemsOf (I.ok.hd hc) pl.isList fun h' hx=>?_));have I1:Inv X pins σ H { s with heap:=h' }:=I.kept (t':=s.toks) fun b o e=>hx b o (vk (Heap.lt_size e)) e
 exact h pins _ σ H xs _ Q I1 (by simpa using rv) hw
theorem zeH{b d:Int}(hb:0<b)(hd:0<d):0<b.fdiv ((vd b d:Nat):Int)*d/\b ∣ b.fdiv ((vd b d:Nat):Int)*d/\d ∣ b.fdiv ((vd b d:Nat):Int)*d/\((vd b d:Nat):Int)≠0:=by
 have g0:0 <((vd b d:Nat):Int):=by have:=gF d (show b≠0 by omega);omega
 have db:((vd b d:Nat):Int) ∣ b:=uL b d;have dd:((vd b d:Nat):Int) ∣ d:=gj b d;have e1:=La.qy db (by omega);have e2:=La.qy dd (by omega);have p1:0<b.fdiv ((vd b d:Nat):Int):=by
  rcases Int.lt_trichotomy 0 (b.fdiv ((vd b d:Nat):Int))with h|h|h
  ·exact h
  ·rw[← h]at e1;omega
  ·have:=Int.mul_neg_of_neg_of_pos h g0;omega
 refine⟨GN p1 hd,⟨d.fdiv ((vd b d:Nat):Int),?_⟩,Int.dvd_mul_left _ _,by omega⟩;generalize b.fdiv ((vd b d:Nat):Int)=x at *;generalize d.fdiv ((vd b d:Nat):Int)=y at *;generalize ((vd b d:Nat):Int)=g at *;rw[← e1,← e2]
 grind
theorem QU{k:Int}{H:Hp}(k0:k≠0):∀ {xs:List Nb} {vs:List V},La.OkR k xs->Paired (RN H) xs vs->∃ is:List Int,xs=is.map Nb.z/\vs=is.map V.int
 | _,_,_,.nil=>⟨[],rfl,rfl⟩
 | x::xs,v::vs,h,.cons r t=>by
  obtain⟨is,e1,e2⟩:=QU k0 (fun y hy=>h y (wD _ hy)) t;have hx:=h x wq;cases x with
  | q a=>exact absurd hx k0
  | z i=>exact⟨i::is,by rw[e1];rfl,by rw[e2,r.z];rfl⟩
theorem zd2{k:Int}(k0:k≠0)(is:List Int):La.Scl k (is.map Nb.z) is 1 :=
 ⟨by rw[vq];exact(List.map_id'' (fun _=>rfl) is).symm,by decide,fun _=>rfl,fun x hx=>by
  obtain⟨i,_,rfl⟩:=wk.mp hx
  trivial⟩
theorem RN.upd{H:Hp}{x:Nb}{v:V}{t:Addr}{zs zs':List V}(h:RN H x v)(ht:H t=some (.lst zs)):RN (upd H t (.lst zs')) x v:=by
 cases x with
 | q r =>
  obtain⟨a,rfl,ha⟩:=h.q;exact RN.of_q (by rw[zH (fun e=>by rw[e,ht]at ha;cases ha)];exact ha)
 | z i=>rw[h.z];exact RN.of_z
theorem kai.upd{H:Hp}{xs:List Nb}{a t:Addr}{zs zs':List V}(h:kai H xs a)(ne:a≠t)(ht:H t=some (.lst zs)):kai (upd H t (.lst zs')) xs a :=
 let ⟨vs,h1,h2⟩:=h
 ⟨vs,by rw[zH ne];exact h1,yZ (fun _ _ r=>r.upd ht) h2⟩
theorem kai.some{H:Hp}{xs:List Nb}{a:Addr}(h:kai H xs a):∃ o,H a=some o:=let ⟨vs,h1,_⟩:=h;⟨_,h1⟩
structure Grow(H H':Hp)(M:TB)(ras:List Addr):Prop where
 same:Same H H'
 rows:Paired (kai H') M ras
 fr:∀ r∈ras,H r=none
 nd:ras.Nodup
theorem Grow.nil(H:Hp){H':Hp}(g:Same H H'):Grow H H' [] []:=⟨g,.nil,fun _ h=>(nomatch h),.nil⟩
section
variable{H H' H2:Hp}{M:TB}{ras:List Addr}
theorem Grow.mono(G:Grow H H' M ras)(g:Same H' H2):Grow H H2 M ras:=⟨G.same.trans g,yZ (fun _ _ r=>r.mono g) G.rows,G.fr,G.nd⟩
theorem Grow.not_mem(G:Grow H H' M ras){p:Addr}(hp:H' p=none):p∉ras:=fun hm=>by
 obtain⟨xs,_,h⟩:=zdB G.rows hm;obtain⟨o,e⟩:=h.some;rw[hp]at e;cases e
theorem Grow.snoc(G:Grow H H' M ras){xs:List Nb}{vs:List V}{p:Addr}(hp:H' p=none)(hr:Paired (RN H') xs vs):Grow H (upd H' p (.lst vs)) (M++[xs]) (ras++[p]):=by
 have g:=zf hp (.lst vs);have G':=G.mono g;refine⟨G'.same,yu G'.rows ⟨vs,ze,yz g hr⟩,fun r hr'=>?_,?_⟩
 ·rcases wo.mp hr' with h|h
  ·exact G.fr r h
  ·rw[wn.mp h];exact G.same.none hp
 ·rw[gO];refine⟨G.nd,by simp,fun a ha b hb=>?_⟩;rw[wn.mp hb];exact fun e=>G.not_mem hp (by rw[← e];exact ha)
theorem Grow.done(G:Grow H H' M ras){top:Addr}(ht:H' top=none):NewT H (upd H' top (.lst (ras.map V.ref))) M top ras :=
 ⟨⟨ze,yZ (fun _ _ r=>r.mono (zf ht _)) G.rows⟩,G.same.none ht,G.fr,G.nd,G.not_mem ht⟩
theorem Grow.push(G:Grow H H' M ras){t p:Addr}{xs:List Nb}{vs zs zs':List V}(tn:H t=none)(ht:H' t=some (.lst zs))(tr:t∉ras)(g:Same H' H2)(hp:H2 p=none)(hr:Paired (RN H2) xs vs) :
  Grow H (upd (upd H2 p (.lst vs)) t (.lst zs')) (M++[xs]) (ras++[p])/\t∉ras++[p]:=by
 have G1:=(G.mono g).snoc hp hr;have ht2:H2 t=some (.lst zs):=g _ _ ht;have tp:t≠p:=fun e=>by rw[e,hp]at ht2;cases ht2
 have ht3:upd H2 p (.lst vs) t=some (.lst zs):=by rw[zH tp];exact ht2
 have nm:t∉ras++[p]:=fun h=>by
  rcases wo.mp h with h|h
  ·exact tr h
  ·exact tp (wn.mp h)
 refine⟨⟨xl G1.same tn,?_,G1.fr,G1.nd⟩,nm⟩;refine Xr (zj G1.rows) fun i x a h1 h2=>(qv G1.rows h1 h2).upd (fun e=>nm ?_) ht3
 rw[← e];exact wd h2
end
def SclAt(H:Hp)(k:Int)(m:Nat)(xs:List Nb)(p:Addr):Prop:=∃ l ws b,H p=some (.tup [.ref l,.int b])/\IRow H ws l/\La.Scl k xs ws b/\Sm m b/\∀ w∈ws,Sm m w
theorem SclAt.mono{H H':Hp}{k:Int}{m:Nat}{xs:List Nb}{p:Addr}(h:SclAt H k m xs p)(g:Same H H'):SclAt H' k m xs p :=
 let ⟨l,ws,b,h1,h2,r⟩:=h
 ⟨l,ws,b,g _ _ h1,h2.mono g,r⟩
def kag(n:Nat)(M:TB):TB:=(wZ n).map fun j=>M.map fun r=>r.getD j (.z 0)
theorem zP(n:Nat)(M:TB):(kag n M).length=n:=by unfold kag;simp
theorem ZH{n i:Nat}{M:TB}(h:i<n):(kag n M)[i]?=some (M.map fun r=>r.getD i (.z 0)):=by unfold kag;simp[h]
theorem qo{k:Int}{n:Nat}{M:TB}(h:La.OkM k n M):La.OkM k M.length (kag n M):=fun r hr=>by
 unfold kag at hr;obtain⟨j,hj,rfl⟩:=wk.mp hr;rw[vI]at hj;refine⟨wc _,fun x hx=>?_⟩;obtain⟨row,hrow,rfl⟩:=wk.mp hx;obtain⟨h1,h2⟩:=h row hrow;have hj':j<row.length:=by omega
 rw[wb,wa hj'];exact h2 _ (we hj')
def kad(k:Int)(c:Nat)(M N:TB):TB:=M.map fun r=>(kag c N).map fun col=>La.ndot k r col
def imgM(k:Int)(M:TB)(xs:List Nb):List Nb:=M.map fun r=>La.ndot k r xs
theorem tyes{σ:St}{H:Hp}{A B:Hp->Prop}(h:A H):tTrue σ H fun b H3=>if b=true then A H3 else B H3:=by
 show if true=true then A H else B H
 exact iteT h
theorem gyes{i:Nat}{x:V}{σ:St}{H:Hp}{A B:St->Hp->Prop}(h:A (σ.set i (some x)) H):gName i x σ H fun σ2 H2=>tTrue σ2 H2 fun b H3=>if b=true then A σ2 H3 else B σ2 H3:=by
 show if true=true then A (σ.set i (some x)) H else B (σ.set i (some x)) H
 exact iteT h
theorem Xj{K:PySem.W.Frag}{te:TE}{σb:St}{t:Addr}{ras:List Addr}{M:TB}{H:Hp}{R:List V->Hp->Prop}(hT:kah H M t ras)(hz:M.length<sizeLine)
  (hte:∀(a:Addr)(us:List V)(H':Hp)(Q:VK),H' a=some (.lst us)->(∀ l,H' l=none->Q (.ref l) (upd H' l (.lst us)))->te (σb.set 0 (some (.ref a))) H' Q)
  (hd:∀(ras2:List Addr)(H':Hp),Grow H H' M ras2->R (ras2.map V.ref) H') :
  ∃ W:Nat->Nat->List V->Hp->Prop,(∃ m,W 0 m [] H)/\∀ i m ys H,W i m ys H ->
   ((Itl K t).stop i H/\ys.length<=sizeLine/\R ys H) \/
   ((Itl K t).go i H/\ys.length<sizeLine/\∀ x H',(Itl K t).yld i H x H'->gName 0 x σb H' fun σ2 H2=>tTrue σ2 H2 fun b H3=>if b=true then te σ2 H3 fun y H4=>∃ m',m'<m/\W (i+1) m' (ys++[y]) H4 else ∃ m',m'<m/\W (i+1) m' ys H3):=by
 have hl:=zj hT.2;refine yt (xs:=ras.map V.ref) (fun i ys H'=>∃ ras2,ys=ras2.map V.ref/\Grow H H' (M.take i) ras2) ⟨[],rfl,Grow.nil H (Same.refl H)⟩ ?_ ?_ ?_
 ·rintro i ys H' hi ⟨ras2,rfl,G⟩
  refine⟨SqL.of (G.same _ _ hT.1),?_⟩;have:=zj G.rows;rw[wj]at this;rw[wc];omega
 ·rintro i v ys H' hv hi ⟨ras2,rfl,G⟩
  obtain⟨xs,a,hx,ha,rfl,hrow⟩:=(hT.mono G.same).row hv;obtain⟨us,hu,pu,lu⟩:=hrow.len;refine gyes ?_;refine hte a us H' _ hu fun l hl'=>?_
  refine nxt hi ⟨ras2++[l],by rw[wt];rfl,?_⟩;rw[zr hx];exact G.snoc hl' pu
 ·rintro ys H' ⟨ras2,rfl,G⟩
  rw[wc,wg (by omega)]at G;exact hd ras2 H' G
theorem zfQ{H:Hp}{ds:List PyData}{vs:List V}{a:Addr}(h:H a=some (.lst vs))(r:Rps H ds vs):Rp H (.list ds) (.ref a):=by
 simp only[Rp];exact⟨a,_,rfl,h,r⟩
theorem qJ{H:Hp}{d:PyData}{ds:List PyData}{v:V}{vs:List V}(h:Rp H d v)(r:Rps H ds vs):Rps H (d::ds) (v::vs):=by
 simp only[Rps];exact⟨_,_,rfl,h,r⟩
theorem zcY{H:Hp}:Rps H [] []:=by simp only[Rps]
section
variable{X:Cx}{K:PySem.W.Frag}
theorem YG(hK:X.K=K):IxR X (rIxL K):=hK ▸ zdc
theorem qP(hK:X.K=K):IxR X (rIxT K):=hK ▸ zfA
theorem Jk(hK:X.K=K):SlR X (rSlL K):=hK ▸ zdI
theorem Zn (hK:X.K=K):kaq X (.builtin "len") (fun xs H Q=>∃ p ys,xs=[.ref p]/\(SqL K H p ys\/SqT K H p ys)/\Q (.int ys.length) H):=hK ▸ zac
theorem ZI (hK:X.K=K):kaq X (.type "list") (fun xs H Q=>∃ p ys,xs=[.ref p]/\(SqL K H p ys\/SqT K H p ys)/\∀ l,H l=none->Q (.ref l) (upd H l (.lst ys))):=hK ▸ zag
theorem qg (hK:X.K=K):kaq X (.builtin "isinstance") (rIsi K):=hK ▸ zes
theorem zdy (hc:X.calm=true) (hK:X.K=K):kaq X (.builtin "sum") (fun xs H Q=>∃ p ns,xs=[.ref p]/\SqL K H p ((ns:List Int).map V.int)/\Q (.int ns.sum) H):=hK ▸ zdG hc
theorem zbs{tg l:Expr}{tl:TE}(hK:X.K=K)(hl:PE X l tl):PI X tg l (iList K tl):=hK ▸ zcF hl
theorem zdh{pos:Pos}{es:List Expr}{k:Nat}{t:TGs}(n:Nat)(hK:X.K=K)(hc:X.calm=true)(h:PGs X es t)
  (hn:(assignEach es X.env).length=n:=by rfl) (hst:(assignEach es X.env).findIdx? (·.1)=none:=by rfl):PG X (.Tuple es k pos) (gTup K n t):=hK ▸ zhf hc h hn hst
theorem zgf{pos:Pos}{es:List Expr}{k:Nat}{t:TGs}(n:Nat)(hK:X.K=K)(hc:X.calm=true)(h:PGs X es t)
  (hn:(assignEach es X.env).length=n:=by rfl) (hst:(assignEach es X.env).findIdx? (·.1)=none:=by rfl):PG X (.Tuple es k pos) (gLst K n t):=hK ▸ zgK hc h hn hst
end
end L2
namespace L2
open PySem PySem.Spec PyProof.Rows Nm
end L2
namespace L2
open PySem PySem.Spec PyProof.Rows Nm
theorem zbl{α β:Type}{R:α->β->Prop}{xs:List α}{ys:List β}(h:Paired R xs ys)(i:Nat){a:α}{b:β}(r:R a b):Paired R (xs.set i a) (ys.set i b):=by
 refine Xr (by rw[vv,vv];exact zj h) fun j x y h1 h2=>?_
 by_cases e:i=j
 ·subst e;have l1:i<xs.length:=by have:=(wm.mp h1).1;rw[vv]at this;exact this
  have l2:i<ys.length:=by rw[← zj h];exact l1
  rw[uE l1]at h1;rw[uE l2]at h2;cases h1;cases h2;exact r
 ·rw[gp e]at h1 h2;exact qv h h1 h2
theorem ZE{n j:Nat}(h:j<n):ixN n (j:Int)=some j:=by
 unfold ixN;rw[if_pos (by omega),if_pos (by omega)];simp
theorem jC{H:Hp}{t:Addr}{zs zs':List V}(ht:H t=some (.lst zs)){xs:List Nb}{vs:List V}(h:Paired (RN H) xs vs):Paired (RN (upd H t (.lst zs'))) xs vs:=yZ (fun _ _ r=>r.upd ht) h
theorem qd{t u:TS}{D:Ends}{σ:St}{H:Hp}(N:St->Hp->Prop)(hN:∀ σ H,N σ H->u D σ H)(h:(∀ σ H,N σ H->u D σ H)->t { D with nx:=u D } σ H):tSeq t u D σ H:=h hN
end L2
namespace L2
open PySem PySem.Spec PyProof.Rows Nm
theorem zcM(v:V):∀ n:Nat,(ww n [v]).flatten=ww n v
 | 0=>rfl
 | n+1=>by rw[vP,vZ,zcM v n,vP];rfl
theorem zdE{R:Nb->V->Prop}{x:Nb}{v:V}(r:R x v):∀ n:Nat,Paired R (ww n x) (ww n v)
 | 0=>.nil
 | n+1=>by rw[vP,vP];exact .cons r (zdE r n)
theorem zcL(r x y:Rat):vQ (r.num*x.den*y.den+x.num*y.num*r.den) (r.den*x.den*y.den)=r+x*y:=by
 rw[GA];have h1:r *((r.den:Int):Rat) =((r.num:Int):Rat):=La.kfRat.rat r rfl;have h2:x *((x.den:Int):Rat) =((x.num:Int):Rat):=La.kfRat.rat x rfl;have h3:y *((y.den:Int):Rat) =((y.num:Int):Rat):=La.kfRat.rat y rfl;have n1:((r.den:Int):Rat)≠0:=fun z=>xV r (uC.mp z)
 have n2:((x.den:Int):Rat)≠0:=fun z=>xV x (uC.mp z)
 have n3:((y.den:Int):Rat)≠0:=fun z=>xV y (uC.mp z)
 rw[Gf,vw,vw,vw,vw,vw,vw];generalize ((r.den:Int):Rat)=a at *;generalize ((x.den:Int):Rat)=b at *;generalize ((y.den:Int):Rat)=c at *;generalize ((r.num:Int):Rat)=a' at *;generalize ((x.num:Int):Rat)=b' at *;generalize ((y.num:Int):Rat)=c' at *
 grind
end L2
namespace L2
open PySem PySem.Spec PyProof.Rows Nm
theorem za3{k:Int}(hk:kab k){m n:Nat}(m7:61<=m):∀(l:List (Nb×Nb)),(∀ p∈l,p.1.ok k/\p.2.ok k/\nsm m p.1/\nsm n p.2)->∀ s:Nb,s.ok k->∀ T,61<=T->nsm T s->nsm (T+l.length *(m+n+1)) (l.foldl (fun s p=>nadd k s (nmul k p.1 p.2)) s)
 | [],_,s,_,T,_,h=>by simpa using h
 | p::l,hl,s,os,T,t7,h=>by
  obtain⟨o1,o2,s1,s2⟩:=hl p wq;have om:=La.xm hk o1 o2;have step:nsm (T +(m+n+1)) (nadd k s (nmul k p.1 p.2)):=by
   obtain⟨x,y⟩:=p
   rcases qT o1 o2 with⟨k0,r,t,rfl,rfl⟩|⟨k0,i,j,rfl,rfl,_⟩
   ·cases s with
    | z i=>exact absurd k0 os.1
    | q u =>
     show Sm _ (u+r*t).num/\Sm _ ((u+r*t).den:Int);rw[← zcL];have hb:(u.den:Int)*r.den*t.den≠0:=uV (uV (xV u) (xV r)) (xV t);have st:Sm (T+m+n+1) (u.num*r.den*t.den+r.num*t.num*u.den):=((h.1.mul s1.2).mul s2.2).add (((s1.1.mul s2.1).mul h.2).mono (by omega));have d:=jD hb st ((h.2.mul s1.2).mul s2.2);exact⟨d.1.mono (by omega),d.2.mono (by omega)⟩
   ·cases s with
    | q u=>exact absurd (show k=0 from os) k0
    | z u=>exact(zgp hk k0 (by omega) _:nsm (T +(m+n+1)) (.z _))
  have:=za3 hk m7 l (fun q hq=>hl q (wD _ hq)) _ (La.jU hk os om) _ (by omega) step;rw[Ge];refine this.mono ?_;rw[uP,gJ];omega
theorem zb5{k:Int}(hk:kab k){m n:Nat}(m7:61<=m){xs ys:List Nb}(ox:La.OkR k xs)(oy:La.OkR k ys)(sx:∀ x∈xs,nsm m x)(sy:∀ y∈ys,nsm n y):nsm (61+xs.length *(m+n+1)) (La.ndot k xs ys):=by
 unfold La.ndot La.ndotF;have h:=za3 hk (n:=n) m7 (xs.zip ys) (fun p hp=>by
  obtain⟨a,b⟩:=p;obtain⟨h1,h2⟩:=vn hp;exact⟨ox _ h1,oy _ h2,sx _ h1,sy _ h2⟩) (nnum k 0) (La.zR hk 0) 61 (by decide) (yM hk (xh 61) (by decide))
 refine h.mono ?_;rw[uu];have:min xs.length ys.length *(m+n+1)<=xs.length *(m+n+1):=wH _ (uG _ _);omega
theorem Ja{k:Int}(hk:kab k)(k0:k≠0){x:Nb}(h:x.ok k):nsm 61 x:=by
 cases x with
 | q r=>exact absurd (show k=0 from h) k0
 | z i=>exact Qb h.2.1 h.2.2 hk.lt.2
structure ROk(k:Int)(n m:Nat)(xs:List Nb):Prop where
 len:xs.length=n
 ok:La.OkR k xs
 sz:∀ x∈xs,nsm m x
structure TOk(k:Int)(r c m:Nat)(M:TB):Prop where
 len:M.length=r
 ok:La.OkM k c M
 sz:∀ r∈M,∀ x∈r,nsm m x
theorem TOk.up{k:Int}{r c m m':Nat}{M:TB}(h:TOk k r c m M)(hm:m<=m'):TOk k r c m' M:=⟨h.len,h.ok,fun r hr x hx=>(h.sz r hr x hx).mono hm⟩
theorem TOk.row{k:Int}{r c m:Nat}{M:TB}(h:TOk k r c m M){x:List Nb}(hx:x∈M):ROk k c m x:=⟨(h.ok x hx).1,(h.ok x hx).2,h.sz x hx⟩
theorem ROk.app{k:Int}{n n' m:Nat}{xs ys:List Nb}(h:ROk k n m xs)(h':ROk k n' m ys):ROk k (n+n') m (xs++ys) :=
 ⟨by rw[wu,h.len,h'.len],fun x hx=>(wo.mp hx).elim (h.ok x) (h'.ok x),fun x hx=>(wo.mp hx).elim (h.sz x) (h'.sz x)⟩
theorem zhL{k:Int}{r c m:Nat}{M:TB}(hM:TOk k r c m M):TOk k c r m (kag c M):=by
 refine⟨zP _ _,by have:=qo hM.ok;rw[hM.len]at this;exact this,fun q hq x hx=>?_⟩;unfold kag at hq;obtain⟨j,hj,rfl⟩:=wk.mp hq;rw[vI]at hj;obtain⟨row,hrow,rfl⟩:=wk.mp hx;have hj':j<row.length:=by have:=(hM.ok row hrow).1;omega
 rw[wb,wa hj'];exact hM.sz row hrow _ (we hj')
theorem jl{k:Int}(hk:kab k){r b c m m':Nat}(m7:61<=m){M N:TB}(hM:TOk k r b m M)(hN:TOk k b c m' N):TOk k r c (61+b *(m+m'+1)) (kad k c M N):=by
 have hT:=zhL hN;refine⟨by unfold kad;rw[wc,hM.len],fun q hq=>?_,fun q hq x hx=>?_⟩
 all_goals
  unfold kad at hq;obtain⟨row,hr,rfl⟩:=wk.mp hq
 ·refine⟨by rw[wc,zP],fun x hx=>?_⟩;obtain⟨col,hc,rfl⟩:=wk.mp hx;exact La.Xd hk (hM.ok row hr).2 (hT.ok col hc).2
 ·obtain⟨col,hc,rfl⟩:=wk.mp hx;have:=zb5 hk m7 (hM.ok row hr).2 (hT.ok col hc).2 (hM.sz row hr) (hT.sz col hc);rw[(hM.ok row hr).1]at this;exact this
structure MOk(k:Int)(n h s m:Nat)(A B C:TB):Prop where
 a:TOk k n n m A
 b:TOk k n h m B
 c:TOk k s n m C
structure MachAt(H:Hp)(A B C:TB)(p ta tb tc:Addr)(ra rb rc:List Addr):Prop where
 tup:H p=some (.tup [.ref ta,.ref tb,.ref tc])
 a:kah H A ta ra
 b:kah H B tb rb
 c:kah H C tc rc
theorem MachAt.mono{H H':Hp}{A B C:TB}{p ta tb tc:Addr}{ra rb rc:List Addr}(h:MachAt H A B C p ta tb tc ra rb rc)(g:Same H H'):MachAt H' A B C p ta tb tc ra rb rc:=⟨g _ _ h.tup,h.a.mono g,h.b.mono g,h.c.mono g⟩
def machD(A B C:TB):PyData:=.tuple [tabD A,tabD B,tabD C]
theorem zhv{H:Hp}{ds:List PyData}{vs:List V}{a:Addr}(h:H a=some (.tup vs))(r:Rps H ds vs):Rp H (.tuple ds) (.ref a):=by
 simp only[Rp];exact⟨a,_,rfl,h,r⟩
theorem MachAt.rp{H:Hp}{A B C:TB}{p ta tb tc:Addr}{ra rb rc:List Addr}(h:MachAt H A B C p ta tb tc ra rb rc):Rp H (machD A B C) (.ref p):=zhv h.tup (qJ h.a.rp (qJ h.b.rp (qJ h.c.rp zcY)))
theorem zcP(A B C:TB):(machD A B C).canLay0=true:=by
 show((tabD A).canLay0 && ((tabD B).canLay0 && ((tabD C).canLay0 && true)))=true;rw[qV,qV,qV];rfl
theorem zaN(A B C:TB):(machD A B C).depth<=4:=by
 show max (tabD A).depth (max (tabD B).depth (max (tabD C).depth 0))+1<=4;have:=jB A;have:=jB B;have:=jB C;omega
theorem zb0(A B C:TB):PyData.eqv (machD A B C) (machD A B C)=true:=by
 show(PyData.eqv (tabD A) (tabD A) && (PyData.eqv (tabD B) (tabD B) && (PyData.eqv (tabD C) (tabD C) && true)))=true;rw[qr,qr,qr];rfl
def augM(A B:TB):TB:=vm (·++·) A B
theorem JX{A B:TB}{i:Nat}{a b:List Nb}(hA:A[i]?=some a)(hB:B[i]?=some b):(augM A B)[i]?=some (a++b):=by unfold augM;rw[vH,hA,hB]
theorem JR{k:Int}{r c c' m:Nat}{A B:TB}(hA:TOk k r c m A)(hB:TOk k r c' m B):TOk k r (c+c') m (augM A B):=by
 have row:∀ q∈augM A B,ROk k (c+c') m q:=fun q hq=>by
  obtain⟨i,hi⟩:=Gk.mp hq;have hl:i <(augM A B).length:=(wm.mp hi).1;unfold augM at hl;rw[wr,hA.len,hB.len]at hl;have i1:i<A.length:=by rw[hA.len];omega
  have i2:i<B.length:=by rw[hB.len];omega
  rw[JX (wa i1) (wa i2)]at hi;cases hi;exact(hA.row (we i1)).app (hB.row (we i2))
 exact⟨by unfold augM;rw[wr,hA.len,hB.len];omega,fun q hq=>⟨(row q hq).len,(row q hq).ok⟩,fun q hq=>(row q hq).sz⟩
end L2
namespace L2
open PySem PySem.Spec PyProof.Rows Nm
theorem kah.upd{H:Hp}{M:TB}{t p:Addr}{ras:List Addr}{zs zs':List V}(h:kah H M t ras)(ht:t≠p)(hr:p∉ras)(hp:H p=some (.lst zs)):kah (upd H p (.lst zs')) M t ras:=by
 refine⟨by rw[zH ht];exact h.1,Xr (zj h.2) fun i x a h1 h2=>(qv h.2 h1 h2).upd (fun e=>hr ?_) hp⟩;rw[← e];exact wd h2
theorem kah.rsome{H:Hp}{M:TB}{t:Addr}{ras:List Addr}(h:kah H M t ras){r:Addr}(hr:r∈ras):∃ o,H r=some o:=by
 obtain⟨xs,_,hx⟩:=zdB h.2 hr;exact hx.some
def adr(rs:List (List Addr))(i j:Nat):Option Addr:=(rs[i]?).bind (·[j]?)
theorem qS{rs:List (List Addr)}{ras:List Addr}{i j:Nat}(h:i<rs.length):adr (rs++[ras]) i j=adr rs i j:=by unfold adr;rw[vo h]
theorem jM{rs:List (List Addr)}{ras:List Addr}{j:Nat}:adr (rs++[ras]) rs.length j=ras[j]?:=by unfold adr;rw[vg (wl _),gy];rfl
theorem XZ{rs:List (List Addr)}{i j:Nat}{a:Addr}(h:adr rs i j=some a):∃ ras,rs[i]?=some ras/\ras[j]?=some a:=by
 unfold adr at h;exact Option.bind_eq_some_iff.mp h
structure kaf(H H':Hp)(Ms:List (TB))(ts:List Addr)(rs:List (List Addr)):Prop where
 same:Same H H'
 lt:ts.length=Ms.length
 lr:rs.length=Ms.length
 tabs:∀(i:Nat) M t ras,Ms[i]?=some M->ts[i]?=some t->rs[i]?=some ras->kah H' M t ras
 frt:∀ t∈ts,H t=none
 frr:∀ ras∈rs,∀ r∈ras,H r=none
 nd:ts.Nodup
 sep:∀ t∈ts,∀ ras∈rs,t∉ras
 inj:∀ i j i' j' a,adr rs i j=some a->adr rs i' j'=some a->i=i'/\j=j'
theorem kaf.nil{H H':Hp}(g:Same H H'):kaf H H' [] [] [] :=
 ⟨g,rfl,rfl,fun i M t ras h=>by simp at h,fun t h=>(nomatch h),fun r h=>(nomatch h),.nil,fun t h=>(nomatch h),fun i j i' j' a h=>by simp[adr]at h⟩
section
variable{H H' H2:Hp}{Ms:List (TB)}{ts:List Addr}{rs:List (List Addr)}
theorem kaf.mono(G:kaf H H' Ms ts rs)(g:Same H' H2):kaf H H2 Ms ts rs:=⟨G.same.trans g,G.lt,G.lr,fun i M t ras h1 h2 h3=>(G.tabs i M t ras h1 h2 h3).mono g,G.frt,G.frr,G.nd,G.sep,G.inj⟩
theorem kaf.get(G:kaf H H' Ms ts rs){i:Nat}(hi:i<Ms.length):∃ M t ras,Ms[i]?=some M/\ts[i]?=some t/\rs[i]?=some ras/\kah H' M t ras :=
 ⟨_,_,_,wa hi,wa (by rw[G.lt];exact hi),wa (by rw[G.lr];exact hi),G.tabs i _ _ _ (wa hi) (wa (by rw[G.lt];exact hi)) (wa (by rw[G.lr];exact hi))⟩
theorem kaf.tsome(G:kaf H H' Ms ts rs){t:Addr}(h:t∈ts):∃ o,H' t=some o:=by
 obtain⟨i,hi,rfl⟩:=wV h;obtain⟨M,t',ras,h1,h2,h3,h4⟩:=G.get (i:=i) (by rw[← G.lt];exact hi);rw[wa hi]at h2;cases h2;exact⟨_,h4.1⟩
theorem kaf.rsome(G:kaf H H' Ms ts rs){ras:List Addr}{r:Addr}(h:ras∈rs)(hr:r∈ras):∃ o,H' r=some o:=by
 obtain⟨i,hi,rfl⟩:=wV h;obtain⟨M,t',ras',h1,h2,h3,h4⟩:=G.get (i:=i) (by rw[← G.lr];exact hi);rw[wa hi]at h3;cases h3;exact h4.rsome hr
theorem kaf.push(G:kaf H H' Ms ts rs){M:TB}{t:Addr}{ras:List Addr}(g:Same H' H2)(N:NewT H' H2 M t ras):kaf H H2 (Ms++[M]) (ts++[t]) (rs++[ras]):=by
 have ot:∀ x∈ts,x≠t:=fun x hx e=>by
  obtain⟨o,ho⟩:=G.tsome hx;rw[e,N.ft]at ho;cases ho
 have olds:∀ x∈rs,∀ r∈x,r∉ras:=fun x hx r hr h=>by
  obtain⟨o,ho⟩:=G.rsome hx hr;rw[N.fr r h]at ho;cases ho
 refine⟨G.same.trans g,by simp[G.lt],by simp[G.lr],fun i M' t' ras' h1 h2 h3=>?_,fun x hx=>?_,fun x hx r hr=>?_,?_,fun x hx y hy=>?_,fun i j i' j' a h1 h2=>?_⟩
 ·rcases wS i Ms.length with h|h
  ·rw[vo h]at h1;rw[vo (by rw[G.lt];exact h)]at h2;rw[vo (by rw[G.lr];exact h)]at h3;exact(G.tabs i M' t' ras' h1 h2 h3).mono g
  ·have e:i=Ms.length:=by
    have:=(wm.mp h1).1;simp at this;omega
   subst e;rw[vg (wl _),gy]at h1;rw[← G.lt,vg (wl _),gy]at h2;rw[← G.lr,vg (wl _),gy]at h3;cases h1;cases h2;cases h3;exact N.tab
 ·rcases wo.mp hx with h|h
  ·exact G.frt x h
  ·rw[wn.mp h];exact G.same.none N.ft
 ·rcases wo.mp hx with h|h
  ·exact G.frr x h r hr
  ·rw[wn.mp h]at hr;exact G.same.none (N.fr r hr)
 ·rw[gO];exact⟨G.nd,by simp,fun x hx y hy=>by rw[wn.mp hy];exact ot x hx⟩
 ·rcases wo.mp hx with h|h
  ·rcases wo.mp hy with h'|h'
   ·exact G.sep x h y h'
   ·rw[wn.mp h'];intro hm;obtain⟨o,ho⟩:=G.tsome h;rw[N.fr x hm]at ho;cases ho
  ·rw[wn.mp h]
   rcases wo.mp hy with h'|h'
   ·intro hm;obtain⟨o,ho⟩:=G.rsome h' hm;rw[N.ft]at ho;cases ho
   ·rw[wn.mp h'];exact N.nt
 ·have lim:∀ i j,adr (rs++[ras]) i j=some a->i<=rs.length:=fun i j h=>by
   obtain⟨x,hx,_⟩:=XZ h;have:=(wm.mp hx).1;simp at this;omega
  have mem:∀ i j,i<rs.length->adr (rs++[ras]) i j=some a->∃ x∈rs,a∈x:=fun i j hi h=>by
   rw[qS hi]at h;obtain⟨x,hx,hx'⟩:=XZ h;exact⟨x,wd hx,wd hx'⟩
  rcases wS i rs.length with h|h <;> rcases wS i' rs.length with h'|h'
  ·rw[qS h]at h1;rw[qS h']at h2;exact G.inj i j i' j' a h1 h2
  ·obtain⟨x,hx,ha⟩:=mem i j h h1;have e:i'=rs.length:=gv (lim i' j' h2) h';rw[e,jM]at h2;exact absurd (wd h2) (olds x hx a ha)
  ·obtain⟨x,hx,ha⟩:=mem i' j' h' h2;have e:i=rs.length:=gv (lim i j h1) h;rw[e,jM]at h1;exact absurd (wd h1) (olds x hx a ha)
  ·have e:i=rs.length:=gv (lim i j h1) h;have e':i'=rs.length:=gv (lim i' j' h2) h';rw[e,jM]at h1;rw[e',jM]at h2;exact⟨by omega,(GC (wm.mp h1).1 N.nd).mp (h1.trans h2.symm)⟩
theorem kaf.updAt(G:kaf H H' Ms ts rs){p:Addr}{zs zs':List V}(hp:H p=none)(h:H' p=some (.lst zs))(nt:p∉ts)(nr:∀ ras∈rs,p∉ras):kaf H (upd H' p (.lst zs')) Ms ts rs :=
 ⟨xl G.same hp,G.lt,G.lr,fun i M t ras h1 h2 h3=>(G.tabs i M t ras h1 h2 h3).upd (fun e=>nt (by rw[← e];exact wd h2)) (nr ras (wd h3)) h,G.frt,G.frr,G.nd,G.sep,G.inj⟩
end
end L2
namespace L2
open PySem PySem.Spec PyProof.Rows Nm
end L2
namespace L2
open PySem PySem.Spec PyProof.Rows Nm
theorem Grow.snocR{H H1 H2:Hp}{M:TB}{ras:List Addr}(G:Grow H H1 M ras)(g:Same H1 H2){xs:List Nb}{p:Addr}(hr:kai H2 xs p)(hp:H1 p=none):Grow H H2 (M++[xs]) (ras++[p]):=by
 have G':=G.mono g;refine⟨G'.same,yu G'.rows hr,fun r hr'=>?_,?_⟩
 ·rcases wo.mp hr' with h|h
  ·exact G.fr r h
  ·rw[wn.mp h];exact G.same.none hp
 ·rw[gO];refine⟨G.nd,by simp,fun a ha b hb e=>G.not_mem hp ?_⟩;rw[← wn.mp hb,← e];exact ha
end L2
namespace L2
open PySem PySem.Spec PyProof.Rows Nm
set_option maxHeartbeats 4000000
end L2
namespace L2
open PySem PySem.Spec PyProof.Rows Nm
theorem XL{m:Nat}:∀(xs:List Nb),(∀ x∈xs,nsm m x)->∃ D:Nat,D≠0/\D<=2^(xs.length*m)/\∀ r:Rat,Nb.q r∈xs->r.den ∣ D
 | [],_=>⟨1,by decide,by simp,fun r h=>(nomatch h)⟩
 | x::xs,h=>by
  obtain⟨D,d0,dl,dd⟩:=XL xs fun y hy=>h y (wD _ hy)
  have pm:2^((x::xs).length*m)=2^(xs.length*m)*2^m:=by rw[uP,gJ,Gp,gm]
  cases x with
  | z i =>
   refine⟨D,d0,?_,fun r hr=>?_⟩
   ·rw[pm];exact vp dl (um _ (uX m))
   ·rcases wy.mp hr with e|e
    ·cases e
    ·exact dd r e
  | q s =>
   have hs:s.den<2^m:=by
    have:=(h (.q s) wq).2;unfold Sm at this;omega
   refine⟨D*s.den,Nat.mul_ne_zero d0 s.den_nz,?_,fun r hr=>?_⟩
   ·rw[pm];exact ug dl (ud hs)
   ·rcases wy.mp hr with e|e
    ·cases e;exact Nat.dvd_mul_left _ _
    ·exact Nat.dvd_trans (dd r e) (Nat.dvd_mul_right _ _)
theorem zeE{k:Int}{n m:Nat}{xs:List Nb}(m1:1<=m)(h:ROk k n m xs):La.rowB ((n+1)*m) xs:=by
 obtain⟨D,d0,dl,dd⟩:=XL xs h.sz;rw[h.len]at dl;have pm:2^((n+1)*m)=2^(n*m)*2^m:=by rw[gJ,Gp,gm]
 have m2:2<=2^m:=ue (n:=2) (by decide) m1;have p1:0<2^(n*m):=uX _;refine⟨D,d0,?_,fun x hx=>?_⟩
 ·rw[pm]
  calc D<=2^(n*m):=dl
   _<2^(n*m)*2:=by omega
   _<=2^(n*m)*2^m:=uz _ m2
 ·cases x with
  | z i=>trivial
  | q r =>
   obtain⟨c,hc⟩:=dd r hx;have sr:=h.sz _ hx;refine⟨(c:Int)*r.num,?_,?_⟩
   ·have e1:((D:Int):Rat) =((r.den:Int):Rat) *((c:Int):Rat):=by rw[hc,uW,vw]
    have e2:r *((r.den:Int):Rat) =((r.num:Int):Rat):=La.kfRat.rat r rfl;rw[e1,vw,← e2]
    grind
   ·rw[vM];have hn:r.num.natAbs<2^m:=sr.1;have hc':c<=D:=by
     rw[hc];exact Nat.le_mul_of_pos_left _ r.den_pos
    have:((c:Int)).natAbs*r.num.natAbs<=2^(n*m) *(2^m - 1):=ug (by omega) (by omega);have e:2^(n*m) *(2^m - 1)=2^(n*m)*2^m - 2^(n*m):=by rw[Nat.mul_sub,Nat.mul_one]
    rw[pm];omega
def Fit(k:Int)(n:Nat):Prop:=1<=n/\(n<=3\/(k≠0/\n<=10))
end L2
namespace L2
open PySem PySem.Spec PyProof.Rows Nm
end L2
namespace L2
open PySem PySem.Spec PyProof.Rows Nm
def szk(k:Int)(m:Nat)(x:Nb):Prop:=k=0->nsm m x
theorem szk.mono{k:Int}{m n:Nat}{x:Nb}(h:szk k m x)(hm:m<=n):szk k n x:=fun k0=>(h k0).mono hm
theorem szk.nsm{k:Int}(hk:kab k){m n:Nat}{x:Nb}(o:x.ok k)(h:szk k m x)(hm:m<=n)(h7:61<=n):nsm n x:=by
 by_cases k0:k=0
 ·exact(h k0).mono hm
 ·exact(Ja hk k0 o).mono h7
theorem YM{k:Int}{m n:Nat}{x y:Nb}(ox:x.ok k)(oy:y.ok k)(sx:szk k m x)(sy:szk k n y):szk k (m+n+1) (nadd k x y):=fun k0=>by
 rcases qT ox oy with⟨_,r,s,rfl,rfl⟩|⟨h,_⟩
 ·have hx:=sx k0;have hy:=sy k0;show Sm _ (r+s).num/\Sm _ ((r+s).den:Int);rw[← zei];obtain⟨h1,h2⟩:=jD (t:=r.num*s.den+s.num*r.den) (xT r s) ((hx.1.mul hy.2).add ((hy.1.mul hx.2).mono (by omega))) (hx.2.mul hy.2);exact⟨h1,h2.mono (gI _)⟩
 ·exact absurd k0 h
theorem JJ{k:Int}{m n:Nat}{x y:Nb}(ox:x.ok k)(oy:y.ok k)(sx:szk k m x)(sy:szk k n y):szk k (m+n) (nmul k x y):=fun k0=>by
 rcases qT ox oy with⟨_,r,s,rfl,rfl⟩|⟨h,_⟩
 ·have hx:=sx k0;have hy:=sy k0;show Sm _ (r*s).num/\Sm _ ((r*s).den:Int);rw[← zaP];exact jD (xT r s) (hx.1.mul hy.1) (hx.2.mul hy.2)
 ·exact absurd k0 h
section
variable{H H':Hp}{Ms:List (TB)}{ts:List Addr}{rs:List (List Addr)}
theorem zbt{i j:Nat}{ras:List Addr}{a:Addr}(h1:rs[i]?=some ras)(h2:ras[j]?=some a):adr rs i j=some a:=by unfold adr;rw[h1];exact h2
theorem kaf.setRow(G:kaf H H' Ms ts rs){i j:Nat}{M:TB}{ras:List Addr}{a:Addr}(hM:Ms[i]?=some M)(hr:rs[i]?=some ras)(ha:ras[j]?=some a){us:List V}(hu:H' a=some (.lst us)){xs:List Nb}{vs:List V}(hv:Paired (RN H') xs vs):kaf H (upd H' a (.lst vs)) (Ms.set i (M.set j xs)) ts rs:=by
 have rm:=wd hr;have am:=wd ha;refine⟨xl G.same (G.frr ras rm a am),by rw[vv];exact G.lt,by rw[vv];exact G.lr,fun i' M' t' ras' h1 h2 h3=>?_,G.frt,G.frr,G.nd,G.sep,G.inj⟩;have nt:t'≠a:=fun e=>G.sep t' (wd h2) ras rm (by rw[e];exact am)
 by_cases e:i'=i
 ·subst e;rw[hr]at h3;cases h3;have lM:i'<Ms.length:=(wm.mp hM).1;rw[vf,if_pos rfl,if_pos lM]at h1;cases h1;have T:=G.tabs i' M t' ras hM h2 hr;refine⟨by rw[zH nt];exact T.1,Xr (by rw[vv];exact zj T.2) fun j' x' a' e1 e2=>?_⟩
  by_cases ej:j'=j
  ·subst ej;rw[ha]at e2;cases e2;have lj:j'<M.length:=by rw[zj T.2];exact(wm.mp ha).1
   rw[vf,if_pos rfl,if_pos lj]at e1;cases e1;exact⟨vs,ze,yZ (fun _ _ r=>r.upd hu) hv⟩
  ·rw[vf,if_neg (Ne.symm ej)]at e1;exact(qv T.2 e1 e2).upd (fun z=>ej (by subst z;exact(G.inj _ _ _ _ _ (zbt hr e2) (zbt hr ha)).2)) hu
 ·rw[vf,if_neg (Ne.symm e)]at h1;refine(G.tabs i' M' t' ras' h1 h2 h3).upd nt (fun hm=>e ?_) hu;obtain⟨j',hj',e2⟩:=wV hm;exact(G.inj _ _ _ _ _ (zbt h3 (by rw[wa hj',e2])) (zbt hr ha)).1
theorem kaf.setSlot(G:kaf H H' Ms ts rs){i j:Nat}{M:TB}{ras:List Addr}{t p:Addr}{xs:List Nb}(hM:Ms[i]?=some M)(ht:ts[i]?=some t)(hr:rs[i]?=some ras)(hj:j<ras.length)(hp:kai H' xs p)(fp:H p=none)(np:p∉ts)(nr:∀ ras∈rs,p∉ras) :
  kaf H (upd H' t (.lst ((ras.set j p).map V.ref))) (Ms.set i (M.set j xs)) ts (rs.set i (ras.set j p)):=by
 have tm:=wd ht;have rm:=wd hr;have T0:=G.tabs i M t ras hM ht hr;have li:i<rs.length:=(wm.mp hr).1;have lM:i<Ms.length:=(wm.mp hM).1;have pt:p≠t:=fun e=>np (by rw[e];exact tm)
 have mem':∀ x∈rs.set i (ras.set j p),∀ a∈x,a=p\/∃ y∈rs,a∈y:=fun x hx a ha=>by
  rcases La.yd hx with e|e
  ·subst e
   rcases La.yd ha with e|e
   ·exact .inl e
   ·exact .inr ⟨ras,rm,e⟩
  ·exact .inr ⟨x,e,ha⟩
 have adr':∀ i' j',adr (rs.set i (ras.set j p)) i' j'=if i'=i/\j'=j then some p else adr rs i' j':=fun i' j'=>by
  unfold adr;rw[vf]
  by_cases e:i'=i
  ·subst e;rw[if_pos rfl,if_pos li,hr];show(ras.set j p)[j']?=if i'=i'/\j'=j then some p else ras[j']?
   rw[vf]
   by_cases ej:j'=j
   ·subst ej;rw[if_pos rfl,if_pos hj,if_pos ⟨rfl,rfl⟩]
   ·rw[if_neg (Ne.symm ej),if_neg (fun h=>ej h.2)]
  ·rw[if_neg (Ne.symm e),if_neg (fun h=>e h.1)]
 have notp:∀ i' j' a,adr rs i' j'=some a->a≠p:=fun i' j' a h e=>by
  obtain⟨x,hx,hx'⟩:=XZ h;exact nr x (wd hx) (by rw[← e];exact wd hx')
 refine⟨xl G.same (G.frt t tm),by rw[vv];exact G.lt,by rw[vv,vv];exact G.lr,fun i' M' t' ras' h1 h2 h3=>?_,G.frt,fun x hx a ha=>?_,G.nd,fun x hx y hy hm=>?_,fun i1 j1 i2 j2 a h1 h2=>?_⟩
 ·by_cases e:i'=i
  ·subst e;rw[ht]at h2;cases h2;rw[vf,if_pos rfl,if_pos lM]at h1;rw[vf,if_pos rfl,if_pos li]at h3;cases h1;cases h3;refine⟨ze,Xr (by rw[vv,vv];exact zj T0.2) fun j' x' a' e1 e2=>?_⟩
   by_cases ej:j'=j
   ·subst ej;rw[vf,if_pos rfl,if_pos (by rw[zj T0.2];exact hj)]at e1;rw[vf,if_pos rfl,if_pos hj]at e2;cases e1;cases e2;exact hp.upd pt T0.1
   ·rw[vf,if_neg (Ne.symm ej)]at e1 e2;exact(qv T0.2 e1 e2).upd (fun z=>G.sep t tm ras rm (by rw[← z];exact wd e2)) T0.1
  ·rw[vf,if_neg (Ne.symm e)]at h1 h3;have n1:t'≠t:=fun z=>e (by
    subst z;exact(GC (wm.mp h2).1 G.nd).mp (h2.trans ht.symm))
   exact(G.tabs i' M' t' ras' h1 h2 h3).upd n1 (G.sep t tm ras' (wd h3)) T0.1
 ·rcases mem' x hx a ha with e|⟨y,hy,hay⟩
  ·rw[e];exact fp
  ·exact G.frr y hy a hay
 ·rcases mem' y hy x hm with e|⟨z,hz,hxz⟩
  ·exact np (by rw[← e];exact hx)
  ·exact G.sep x hx z hz hxz
 ·rw[adr']at h1 h2
  by_cases c1:i1=i/\j1=j
  ·rw[if_pos c1]at h1;cases h1
   by_cases c2:i2=i/\j2=j
   ·exact⟨c1.1.trans c2.1.symm,c1.2.trans c2.2.symm⟩
   ·rw[if_neg c2]at h2;exact absurd rfl (notp _ _ _ h2)
  ·rw[if_neg c1]at h1
   by_cases c2:i2=i/\j2=j
   ·rw[if_pos c2]at h2;cases h2;exact absurd rfl (notp _ _ _ h1)
   ·rw[if_neg c2]at h2;exact G.inj _ _ _ _ _ h1 h2
end
end L2
namespace L2
open PySem PySem.Spec PyProof.Rows Nm
theorem zcq:∀ {ns:List Int} {its:List Value},Vals (ns.map V.int) its->IntsAre its ns
 | [],_,h=>by cases h;exact .nil
 | n::ns,_,h=>by
  cases h with
  | cons r t =>
   obtain⟨tk,e⟩:=r;subst e;exact .cons n tk (zcq t)
theorem zat:∀ {ns:List Int} {its:List Value},IntsAre its ns->Vals (ns.map V.int) its
 | _,_,.nil=>.nil
 | _,_,.cons n tk t=>.cons ⟨tk,rfl⟩ (zat t)
section
variable{X:Cx}{K:PySem.W.Frag}
theorem Yo:kaq X (.builtin "sorted") (fun xs H Q=>∃ p ns,xs=[.ref p]/\SqL X.K H p ((ns:List Int).map V.int)/\ns.length<64/\∀(l:Addr)(ns':List Int),H l=none->ns'.Perm ns->ns'.Pairwise (·<=·)->Q (.ref l) (upd H l (.lst (ns'.map V.int)))):=by
 intro pins s σ H xs us Q I r h;obtain⟨p,ns,rfl,hq,h64,q⟩:=h;obtain⟨u,rfl,rx⟩:=vals1 r;cases rx;obtain⟨its,r',pl,hz⟩:=I.list hq;have hl:=r'.length;rw[wc]at hl;refine sorted_ints pl.isList (zcq r') (by omega) fun out ns' a1 a2 a3=>?_
 obtain⟨e,he⟩:=sortedAll_at s.heap its out;have hl':=(zat a1).length;rw[wc]at hl';have hp:=a2.length_eq;rw[wc]at hz;refine⟨.ref (s.heap.objs.size+1),_,I.laid (t':=s.toks) (fun _ _=>sortedAll_old) (gI _) (show kap X.prog X.w _ _ _ (.lst (ns'.map V.int))from⟨by rw[wc];omega,out.toList,e,zat a1,he⟩),rfl,q _ ns' (I.hok.fresh (gI _)) a2 a3⟩
theorem QA (hK:X.K=K):kaq X (.builtin "sorted") (fun xs H Q=>∃ p ns,xs=[.ref p]/\SqL K H p ((ns:List Int).map V.int)/\ns.length<64/\∀(l:Addr)(ns':List Int),H l=none->ns'.Perm ns->ns'.Pairwise (·<=·)->Q (.ref l) (upd H l (.lst (ns'.map V.int)))):=hK ▸ Yo
theorem zan (hK:X.K=K):kaq X (.type "tuple") (fun xs H Q=>∃ p ys,xs=[.ref p]/\((SqL K H p ys/\∀ l,H l=none->Q (.ref l) (upd H l (.tup ys)))\/(SqT K H p ys/\Q (.ref p) H))):=hK ▸ Jf
inductive IntEs:List Expr->List Int->Prop
 | nil:IntEs [] []
 | cons {i:Int} {j:Nat} {pos:Pos} {es:List Expr} {ns:List Int}:IntEs es ns->IntEs (.Constant (.int i) j pos::es) (i::ns)
def tInts(ns:List Int):TA:=fun _ H Q=>Q (ns.map V.int) H
theorem zgH{es:List Expr}(ns:List Int)(h:IntEs es ns):PA X es (tInts ns):=by
 induction h with
 | nil=>exact zb
 | @cons i j pos es ms _ ih=>exact za (te:=tC (.int i)) (t:=tInts ms) zd ih rfl
end
end L2
namespace L2
open PySem PySem.Spec PyProof.Rows
def K0:PySem.W.Frag:=[]
section
variable{X:Cx}{K:PySem.W.Frag}
theorem SqL.up{H:Hp}{a:Addr}{xs:List V}(h:SqL K0 H a xs):SqL K H a xs:=by
 rcases h with h|⟨o,its,n,hl,_⟩
 ·exact .inl h
 ·cases hl
theorem SqT.up{H:Hp}{a:Addr}{xs:List V}(h:SqT K0 H a xs):SqT K H a xs:=by
 rcases h with h|⟨o,its,n,hl,_⟩
 ·exact .inl h
 ·cases hl
theorem zgQ{T:String}{x:V}{H:Hp}(h:tyV K0 T x H):tyV K T x H:=by
 cases x with
 | ref p =>
  rcases h with⟨e,xs,hx⟩|⟨e,o,ho,_⟩|h|h
  ·exact .inl ⟨e,xs,hx.up⟩
  ·cases ho
  ·exact .inr (.inr (.inl h))
  ·exact .inr (.inr (.inr h))
 | _=>exact h
def mo(t:TE):TE:=fun σ H Q=>∃ Q0:VK,t σ H Q0/\∀ x H',Q0 x H'->Q x H'
def moA(t:TA):TA:=fun σ H Q=>∃ Q0:List V->Hp->Prop,t σ H Q0/\∀ x H',Q0 x H'->Q x H'
theorem PE.mo{e:Expr}{t:TE}(h:PE X e t):PE X e (mo t):=fun pins s σ H Q I ⟨Q0,h0,hq⟩ =>
 thn (h pins s σ H Q0 I h0) fun v s1 ⟨x,H1,I1,r,q⟩=>⟨x,H1,I1,r,hq x H1 q⟩
theorem PA.mo{es:List Expr}{t:TA}(h:PA X es t):PA X es (moA t):=fun pos pins s σ H Q I ⟨Q0,h0,hq⟩ =>
 thn (h pos pins s σ H Q0 I h0) fun v s1 ⟨x,H1,I1,r,q⟩=>⟨x,H1,I1,r,hq x H1 q⟩
theorem zw:IxR X (rIxL K0):=fun value slice pins s σ H x y v u Q I rx ry ⟨p,xs,i,w,e1,e2,h,e3,q⟩ hs =>
 zdc value slice pins s σ H x y v u Q I rx ry ⟨p,xs,i,w,e1,e2,h.up,e3,q⟩ hs
theorem zE:IxR X (rIxT K0):=fun value slice pins s σ H x y v u Q I rx ry ⟨p,xs,i,w,e1,e2,h,e3,q⟩ hs =>
 zfA value slice pins s σ H x y v u Q I rx ry ⟨p,xs,i,w,e1,e2,h.up,e3,q⟩ hs
theorem xq:SlR X (rSlL K0):=fun pins s σ H x v vl vu lo hi sl Q I rx hs p1 p2 ⟨a,xs,e,h,q⟩ =>
 zdI pins s σ H x v vl vu lo hi sl Q I rx hs p1 p2 ⟨a,xs,e,h.up,q⟩
inductive ILen(xs:List V)(H:Hp)(Q:VK):Prop where
 | mk (p:Addr) (ys:List V) (e:xs=[.ref p]) (h:SqL K0 H p ys\/SqT K0 H p ys) (q:Q (.int (ys.length:Int)) H):ILen xs H Q
theorem zJ:kaq X (.builtin "len") ILen :=
 fun pins s σ H xs us Q I vs ⟨p,ys,e,h,q⟩=>Zn (K:=X.K) rfl pins s σ H xs us Q I vs ⟨p,ys,e,h.imp SqL.up SqT.up,q⟩
theorem XJ:kaq X (.type "list") (fun xs H Q=>∃ p ys,xs=[.ref p]/\(SqL K0 H p ys\/SqT K0 H p ys)/\∀ l,H l=none->Q (.ref l) (upd H l (.lst ys))) :=
 fun pins s σ H xs us Q I vs ⟨p,ys,e,h,q⟩=>ZI (K:=X.K) rfl pins s σ H xs us Q I vs ⟨p,ys,e,h.imp SqL.up SqT.up,q⟩
theorem Qr (hc:X.calm=true):kaq X (.builtin "sum") (fun xs H Q=>∃ p ns,xs=[.ref p]/\SqL K0 H p (List.map V.int ns)/\Q (.int ns.sum) H) :=
 fun pins s σ H xs us Q I vs ⟨p,ys,e,h,q⟩=>zdy (K:=X.K) hc rfl pins s σ H xs us Q I vs ⟨p,ys,e,h.up,q⟩
theorem Qp:kaq X (.builtin "sorted") (fun xs H Q=>∃ p ns,xs=[.ref p]/\SqL K0 H p (List.map V.int ns)/\ns.length<64/\∀(l:Addr)(ns':List Int),H l=none->ns'.Perm ns->ns'.Pairwise (·<=·)->Q (.ref l) (upd H l (.lst (ns'.map V.int)))) :=
 fun pins s σ H xs us Q I vs ⟨p,ys,e,h,q⟩=>QA (K:=X.K) rfl pins s σ H xs us Q I vs ⟨p,ys,e,h.up,q⟩
theorem zaI:kaq X (.type "tuple") (fun xs H Q=>∃ p ys,xs=[.ref p]/\((SqL K0 H p ys/\∀ l,H l=none->Q (.ref l) (upd H l (.tup ys)))\/(SqT K0 H p ys/\Q (.ref p) H))) :=
 fun pins s σ H xs us Q I vs ⟨p,ys,e,h⟩=>zan (K:=X.K) rfl pins s σ H xs us Q I vs ⟨p,ys,e,h.imp (fun h=>⟨h.1.up,h.2⟩) (fun h=>⟨h.1.up,h.2⟩)⟩
theorem xJ{pos:Pos}{es:List Expr}{k:Nat}{t:TGs}(n:Nat)(hc:X.calm=true)(hg:PGs X es t)(hn:(assignEach es X.env).length=n:=by rfl)(hs:(assignEach es X.env).findIdx? (fun x=>x.fst)=none:=by rfl):PG X (.Tuple es k pos) (gTup K0 n t) :=
 fun pins s σ H v u Q I r ⟨a,xs,e,h,l,q⟩=>zdh (K:=X.K) n rfl hc hg hn hs pins s σ H v u Q I r ⟨a,xs,e,h.up,l,q⟩
theorem zgC{pos:Pos}{es:List Expr}{k:Nat}{t:TGs}(n:Nat)(hc:X.calm=true)(hg:PGs X es t)(hn:(assignEach es X.env).length=n:=by rfl)(hs:(assignEach es X.env).findIdx? (fun x=>x.fst)=none:=by rfl):PG X (.Tuple es k pos) (gLst K0 n t) :=
 fun pins s σ H v u Q I r ⟨a,xs,e,h,q⟩=>zgf (K:=X.K) n rfl hc hg hn hs pins s σ H v u Q I r ⟨a,xs,e,h.up,q⟩
structure It.le(J0 J:It):Prop where
 go:∀ i H,J0.go i H->J.go i H
 stop:∀ i H,J0.stop i H->J.stop i H
 yld:∀ i H x H',J.yld i H x H'->J0.yld i H x H'
theorem Turn.weaken{P:Program}{w:World}{tg:Expr}{J J0:It}{fp:List Addr}{it:Addr}{tn:Nat->Heap->Prop}(T:Turn P w K tg J fp it tn)(l:It.le J0 J):Turn P w K tg J0 fp it tn where
 mem:=T.mem
 obj:=T.obj
 keep:=T.keep
 self:=T.self
 item:=fun X p1 p2 p3 p4 i pins s σ H E I f t g=>thn (T.item X p1 p2 p3 p4 i pins s σ H E I f t (l.go i H g)) fun r s1 ⟨u,e,hw⟩=>⟨u,e,thn hw fun _ s2 ⟨x,H',a,b,y,c⟩=>⟨x,H',a,b,l.yld _ _ _ _ y,c⟩⟩
 done:=fun X p1 p2 p3 p4 i pins s σ H E I f t g=>T.done X p1 p2 p3 p4 i pins s σ H E I f t (l.stop i H g)
theorem zgZ(a:Addr):It.le (Itl K0 a) (Itl K a):=⟨fun i H ⟨xs,x,h,e⟩=>⟨xs,x,h.up,e⟩,fun i H ⟨xs,h,e⟩=>⟨xs,h.up,e⟩,fun i H x H' ⟨e,h⟩=>⟨e,fun xs hx=>h xs hx.up⟩⟩
theorem zhP(a:Addr):It.le (Itt K0 a) (Itt K a):=⟨fun i H ⟨xs,x,h,e⟩=>⟨xs,x,h.up,e⟩,fun i H ⟨xs,h,e⟩=>⟨xs,h.up,e⟩,fun i H x H' ⟨e,h⟩=>⟨e,fun xs hx=>h xs hx.up⟩⟩
theorem zhM(a b:Addr):It.le (Itz K0 a b) (Itz K a b):=⟨fun i H ⟨xs,ys,x,y,h,h2,e⟩=>⟨xs,ys,x,y,h.up,h2.up,e⟩,fun i H ⟨xs,ys,h,h2,e⟩=>⟨xs,ys,h.up,h2.up,e⟩,
 fun i H v H' ⟨T,x,y,e1,e2,e3,h1,h2⟩=>⟨T,x,y,e1,e2,e3,fun xs hx=>h1 xs hx.up,fun ys hy=>h2 ys hy.up⟩⟩
theorem zc3{pins:List (Addr×Obj)}{σ:St}{tg:Expr}{R:It->Hp->Prop}{itv:Value}{s:Shared}(h:PIE X pins σ tg (fun J H=>∃ J0,It.le J0 J/\R J0 H) itv s):PIE X pins σ tg R itv s:=by
 obtain⟨it,fp,tn,J,H',e,I2,T,t0,fo,J0,l,q⟩:=h;exact⟨it,fp,tn,J0,H',e,I2,T.weaken l,t0,fo,q⟩
theorem zV{tg l:Expr}{tl:TE}(hl:PE X l tl):PI X tg l (iList K0 tl):=fun pins s σ H R I h =>
 thn (zcF hl.mo pins s σ H (fun J H=>∃ J0,It.le J0 J/\R J0 H) I ⟨_,h,fun x H1 ⟨a,e,⟨xs,hx⟩,q⟩=>⟨a,e,⟨xs,hx.up⟩,_,zgZ a,q⟩⟩) fun _ _ hw=>thn hw fun _ _ hp=>zc3 hp
theorem zf0{tg l:Expr}{tl:TE}(hl:PE X l tl):PI X tg l (iTup K0 tl):=fun pins s σ H R I h =>
 thn (zgI hl.mo pins s σ H (fun J H=>∃ J0,It.le J0 J/\R J0 H) I ⟨_,h,fun x H1 ⟨a,e,⟨xs,hx⟩,q⟩=>⟨a,e,⟨xs,hx.up⟩,_,zhP a,q⟩⟩) fun _ _ hw=>thn hw fun _ _ hp=>zc3 hp
theorem jN {a b:Expr} {ta:TA} {p pos:Pos} {elts:List Expr} {k1:Nat} {tpos:Pos} (hg:Gl X "zip") (hm:X.mg "zip" = none) (ha:PA X [a,b] ta) (hs:starEach [a,b] X.env=[(false,eval a X.env),(false,eval b X.env)]:=by rfl) (hs2:starEach [b] X.env=[(false,eval b X.env)]:=by rfl) :
  PI X (.Tuple elts k1 tpos) (.Call (.Name "zip" p) [a,b] [] pos) (iZip K0 ta):=fun pins s σ H R I h =>
 thn (zhz hg hm ha.mo hs hs2 pins s σ H (fun J H=>∃ J0,It.le J0 J/\R J0 H) I ⟨_,h,fun x H1 ⟨a,b,xs,ys,e,hx,hy,q⟩=>⟨a,b,xs,ys,e,hx.up,hy.up,_,zhM a b,q⟩⟩) fun _ _ hw=>thn hw fun _ _ hp=>zc3 hp
theorem bm0{o e':Expr}{T:String}{r:V->List V->Hp->VK->Prop}{to:TE}{t:TA}(h:∀ to',PE X o to'->PE X e' (tBM X.K T r to' t))(ho:PE X o to):PE X e' (tBM K0 T r to t):=fun pins s σ H Q I hh =>
 h (mo to) ho.mo pins s σ H Q I ⟨_,hh,fun x H1 ⟨a,b⟩=>⟨zgQ a,b⟩⟩
end
end L2
namespace L2
open PySem PySem.Spec PyProof.Rows
section
variable{X:Cx}{scope:Scope}
theorem zu{x:Str}{k j:Nat}{ps:List Str}{sp:Sp}{p pos:Pos}{e:Expr}{es:List Expr}{t:TA}(D:Kn X.prog X.w X.K X.mg X.base x k ps sp)(hr:Room j X.A)(ha:PA X (e::es) t)(hj:k<=j:=by decide)(hg:Gl X x:=by rfl)
  (hdb:(x ==("__debug__" : Str))=false:=by decide) (he:starEach (e::es) X.env =(false,eval e X.env)::starEach es X.env:=by rfl) (hpl:(backTo pos (starEach es X.env)).any (·.1)=false:=by rfl) :
  PE X (.Call (.Name x p) (e::es) [] pos) (tCall sp [] E0 t):=zak D (hr.mono hj) hg ha hdb he hpl
theorem xK{y:Str}{elt iter:Expr}{ifs:List Expr}{pos posn:Pos}{wi:TI}{tt:TT}{te:TE}(fre:List Str)(idx:List Nat)(hi:PI X (.Name y posn) iter wi)
  (hb:∀(L:Addr)(cells:List (Str×Addr))(s₀:Shared)(H₀:Hp)(ex:List Addr)(pn:List (Addr×Obj)),PTs (blk X [y] fre scope L cells s₀ H₀ ex pn) ifs tt/\PE (blk X [y] fre scope L cells s₀ H₀ ex pn) elt te)
  (B:BlkOk X [y] fre idx scope:=by exact⟨rfl,rfl,rfl,rfl,rfl,rfl,by decide +kernel⟩) (hc:X.calm=true:=by rfl)
  (hg:∀(L:Addr)(cells:List (Str×Addr))(s₀:Shared)(H₀:Hp)(ex:List Addr)(pn:List (Addr×Obj)),PG (blk X [y] fre scope L cells s₀ H₀ ex pn) (.Name y posn) (gName 0):=by exact fun _ _ _ _ _ _=>zt (i:=0) (by dsimp only [blk];decide) rfl (by first|exact Or.inl rfl|exact Or.inr rfl))
  (hs:∀ x,foldedSetIterable iter X.env x=pure x:=by intro _;rfl):PE X (.ListComp elt [⟨.Name y posn,iter,ifs,0⟩] scope pos) (tComp [y].length idx wi (gName 0) tt te) :=
 qq [y] fre idx B hc hi (yb (GS)) (fun a b c d e f=>⟨hg a b c d e f,hb a b c d e f⟩) hs
theorem zaw{y:Str}{elt iter:Expr}{ifs:List Expr}{pos pos' spos posn:Pos}{wi:TI}{tt:TT}{te:TE}(i:Nat){x:Str}(hN:X.N.Nodup)(fre:List Str)(idx:List Nat)(hi:PI X (.Name y posn) iter wi)
  (hb:∀(L:Addr)(cells:List (Str×Addr))(s₀:Shared)(H₀:Hp)(ex:List Addr)(pn:List (Addr×Obj)),PTs (blk X [y] fre scope L cells s₀ H₀ ex pn) ifs tt/\PE (blk X [y] fre scope L cells s₀ H₀ ex pn) elt te)
  (hi':X.N[i]?=some x:=by rfl) (hx:X.env.scope.names.lookup x=some .local:=by rfl)
  (B:BlkOk X [y] fre idx scope:=by exact⟨rfl,rfl,rfl,rfl,rfl,rfl,by decide +kernel⟩) (hc:X.calm=true:=by rfl)
  (hg:∀(L:Addr)(cells:List (Str×Addr))(s₀:Shared)(H₀:Hp)(ex:List Addr)(pn:List (Addr×Obj)),PG (blk X [y] fre scope L cells s₀ H₀ ex pn) (.Name y posn) (gName 0):=by exact fun _ _ _ _ _ _=>zt (i:=0) (by dsimp only [blk];decide) rfl (by first|exact Or.inl rfl|exact Or.inr rfl))
  (hsw:swapsWith (.ListComp elt [⟨.Name y posn,iter,ifs,0⟩] scope pos) (some (.Name x pos')) spos.line X.env=pure true:=by rfl)
  (hs:∀ x,foldedSetIterable iter X.env x=pure x:=by intro _;rfl):PS X (.Assign [.Name x pos'] (.ListComp elt [⟨.Name y posn,iter,ifs,0⟩] scope pos) spos) (tAsgC [y].length idx wi (gName 0) tt te i) :=
 zcs hN hi' hx [y] fre idx B hc hi (yb (GS)) (fun a b c d e f=>⟨hg a b c d e f,hb a b c d e f⟩) hsw hs
theorem zD{a b:Expr}{pos:Pos}{ta tb:TE}{r:R2}(hr:IxR X r)(ha:PE X a ta)(hb:PE X b tb)(hs:PlainIx b:=by exact fun _ _=>rfl):PE X (.Subscript a b pos) (tOp r ta tb):=zhS hr ha hb hs
end
end L2
namespace L2
open PySem PySem.Spec PyProof.Rows
section
variable{X:Cx}
inductive IAll(xs:List V)(H:Hp)(Q:VK):Prop where
 | mk (p:Addr) (bs:List Bool) (e:xs=[.ref p]) (h:H p=some (.lst (bs.map V.bl))) (q:Q (.bl (bs.all id)) H):IAll xs H Q
theorem zcu(bs:List Bool):∀ n,n=bs.length->(wZ n).all (fun i=>bs.getD i true)=bs.all id:=by
 intro n e;subst e;rw[uS,uy,uy];refine⟨fun h x hx=>?_,fun h i hi=>?_⟩
 ·obtain⟨i,hi,rfl⟩:=wV hx;have:=h i (vI.mpr hi)
  simpa [Gm,hi] using this
 ·have hi':=vI.mp hi;have:=h bs[i] (we hi')
  simpa [Gm,hi'] using this
theorem zdi (hc:X.calm=true):kaq X (.builtin "all") IAll:=by
 intro pins s σ H xs us Q I r h;obtain⟨p,bs,rfl,hq,q⟩:=h;obtain⟨u,rfl,ru⟩:=Vals.one r;cases ru;obtain⟨its,rv,pl,_⟩:=I.list (SqL.of (K:=X.K) hq);have hh:X.A.in1.handled=none:=I.ok.hd hc;have lt:p<s.heap.objs.size:=let ⟨_,e,_⟩:=pl.isList;Heap.lt_size e
 have hl:its.length=bs.length:=by rw[← rv.length,wc]
 refine call_all_walk (wpAny_pyIter_list pl.isList ?_);refine⟨s.heap.objs.size,_,_,_,_,_,fun i=>bs.getD i true,rfl,Walks.list hh s.heap.objs.size p (vk lt) its.toArray,⟨⟨_,Heap.get?_push_size _ rfl,rfl,rfl⟩,pl.isList.at fun o e=>Heap.get?_push_of_some _ e⟩,fun i v s' Q' E' hv hQ=>?_,fun h' tk keep=>?_⟩
 ·have hv':its[i]?=some v:=by simpa using hv
  have hi:i<bs.length:=by rw[← hl];exact(wm.mp hv').1
  obtain⟨u,hu,ru⟩:=rv.get (i:=i) (x:=.bl bs[i]) (by rw[wf,wa hi];rfl);rw[hu]at hv';cases hv';cases ru;refine wpAny_truthy_bool ?_
  simpa [Gm,hi] using hQ
 ·rw[zcu bs _ (by rw[wx];exact hl)];refine⟨.bl (bs.all id),H,?_,rfl,q⟩;exact I.kept (h':=h') (t':=tk) fun b o eb=>keep b o (by simp only[wy,vF,or_false];exact vk (Heap.lt_size eb)) (Heap.get?_push_of_some _ eb)
end
end L2
namespace La
open Lean.Grind Nm
end La
namespace L2
open PySem PySem.Spec PyProof.Rows Nm
theorem Qe{k:Int}(hk:kab k)(n:Nat):TOk k n n 61 (La.kal k n):=by
 refine⟨(La.YN hk n).2,(La.YN hk n).1,fun q hq x hx=>?_⟩;unfold La.kal at hq;obtain⟨i,_,rfl⟩:=wk.mp hq;unfold La.kak at hx;obtain⟨j,_,rfl⟩:=wk.mp hx
 split
 ·exact yM hk (sm_one.mono (by decide)) (by decide)
 ·exact yM hk (xh 61) (by decide)
theorem zaL{k:Int}{r r' c m:Nat}{M N:TB}(hM:TOk k r c m M)(hN:TOk k r' c m N):TOk k (r+r') c m (M++N) :=
 ⟨by rw[wu,hM.len,hN.len],fun q hq=>(wo.mp hq).elim (hM.ok q) (hN.ok q),fun q hq=>(wo.mp hq).elim (hM.sz q) (hN.sz q)⟩
theorem zde{H:Hp}{M N:TB}{t1 t2 t:Addr}{r1 r2:List Addr}(h1:kah H M t1 r1)(h2:kah H N t2 r2)(ht:H t=none):kah (upd H t (.lst (r1.map V.ref++r2.map V.ref))) (M++N) t (r1++r2):=by
 have g:=zf ht (.lst (r1.map V.ref++r2.map V.ref));exact⟨by rw[ze,wt],Zi (h1.mono g).2 (h2.mono g).2⟩
section
variable{k:Int}(hk:kab k)
theorem TOk.get{r c m:Nat}{M:TB}(h:TOk k r c m M){i:Nat}(hi:i<r):∃ a,M[i]?=some a/\ROk k c m a:=by
 have hl:i<M.length:=by rw[h.len];exact hi
 exact⟨M[i],wa hl,h.row (we hl)⟩
def rulM(k:Int)(n:Nat)(A B F:TB):TB:=kad k n (augM A B) (La.kal k n++F)
end
end L2
open PySem PySem.Spec PyProof.Rows
theorem L2.rev_len:typeLookup (Value.type "list_reverseiterator") (Str.ofString "__len__")=pure none:=by rfl
theorem L2.rev_hint:typeLookup (Value.type "list_reverseiterator") (Str.ofString "__length_hint__")=pure (some (Value.builtin "list_reverseiterator.__length_hint__")):=by rfl
theorem L2.rev_split:splitId "list_reverseiterator.__length_hint__" = some ("list_reverseiterator", "__length_hint__"):=by rfl
theorem L2.rev_sub:isSubtype (Value.type "list_reverseiterator") (Value.type "list_reverseiterator")=pure true:=by rfl
theorem L2.hint_rev {prog:Program} {w:World} {A:Around} {E:Value->Shared->Prop} {s:Shared} {r:Addr} (h:s.TypeIs (Value.ref r) "list_reverseiterator") {Q:Bool->Shared->Prop} (q:Q false s):wpAny (model prog w) A (Builtin.List.listLengthHint (Value.ref r)) Q E s:=by
 unfold Builtin.List.listLengthHint;refine wpAny_bind (wpAny_specialOf h L2.rev_len ?_)
 dsimp only
 rw[if_neg (by decide),if_neg (by decide)];refine wpAny_bind (wpAny_specialOf h L2.rev_hint ?_)
 dsimp only
 rw[L2.rev_split]
 dsimp only
 refine wpAny_bind (wpAny_isInstance h L2.rev_sub ?_);rw[if_neg (by decide),if_pos (by decide),if_neg (by decide)];exact wpAny_pure q
theorem L2.init_rev{prog:Program}{w:World}{A:Around}{s:Shared}{R:Result->Shared->Prop}(S I l:Addr){items:Array Value}(hA:A.handled=none)(hI:s.heap.IsRevIter I l ((items.size:Int) - 1))(hl:s.heap.IsList l items)(hne:l≠I)(hSI:S≠I)(hSl:S≠l)
  (hS:s.heap.get? S=some { cls:=Value.type "list",data:=Data.seq #[] })
  (q:∀(s':Shared)(acc':Array Value)(c':Nat),Moved [S,I] (fun a b=>b=a) s s'->s'.heap.get? S=some { cls:=Value.type "list",data:=Data.seq acc' c' }->ItemsOf (fun i v=>items[items.size - 1 - i]?=some v) acc' items.size->R (Except.ok (Flow.ret Value.none)) s')
  (hz:items.size<=sizeLine) :
  wpAny (model prog w) A.in1 (Builtin.«list.__init__» { pos:=[Value.ref S,Value.ref I] })
   (fun fin s'=>match fin with
    | Fin.done f=>R (Except.ok f) s'
    | Fin.again c'=>c'.quiet=true/\codeAny (model prog w) A c' R s')
   (fun e s'=>R (Except.error e) s') s:=by
 unfold Builtin.«list.__init__»
 dsimp only
 rw[if_neg (by decide),if_neg (by show ¬(1 > 1);decide)];refine wpAny_bind (listItems_at hS rfl ?_);refine wpAny_bind (listUpdate_at hS rfl ?_ (by decide) (by decide));refine wpAny_bind (wpAny_letGo ?_);unfold Builtin.List.listExtendWith;have hT:s.TypeIs (Value.ref I) "list_reverseiterator" := let ⟨o,h1,h2,_⟩:=hI;⟨o,h1,h2⟩
 have keep:∀ b,b≠S->∀ o,s.heap.get? b=some o->(s.heap.update S (Obj.mapSeq fun x=>#[])).get? b=some o:=fun b hb o ho=>by
  rw[Heap.get?_update_ne]
  ·exact ho
  ·first|exact hb|exact Ne.symm hb
 have hS1:∃ c,(s.heap.update S (Obj.mapSeq fun x=>#[])).get? S=some { cls:=Value.type "list",data:=Data.seq #[] c }:=by
  rw[Heap.get?_update_self _ hS rfl];exact⟨_,rfl⟩
 obtain⟨c,hS1⟩:=hS1;have W:=(Walks.listRev (prog:=prog) (w:=w) (A:=A.in1) hA I l hne items);have St0:=W.frame 0 s.heap (s.heap.update S (Obj.mapSeq fun x=>#[])) ⟨vN _,by simpa using hI,hl⟩ fun b hb o ho=>keep b (fun e=>by
  subst e
  rcases wy.mp hb with e|e
  ·exact hSI e
  ·exact hSl (wn.mp e)) o ho
 have hT1:Shared.TypeIs { heap:=s.heap.update S (Obj.mapSeq fun x=>#[]),gens:=s.gens,drawn:=s.drawn,toks:=s.toks,os:=s.os } (Value.ref I) "list_reverseiterator" := let ⟨o,h1,h2⟩:=hT;⟨o,keep I (Ne.symm hSI) o h1,h2⟩
 have mv:∀ s',Moved [S,I] (fun a b=>b=a) { heap:=s.heap.update S (Obj.mapSeq fun x=>#[]),gens:=s.gens,drawn:=s.drawn,toks:=s.toks,os:=s.os } s'->Moved [S,I] (fun a b=>b=a) s s':=fun s' m=>by
  refine⟨fun b o hb ho=>m.heap b o hb (keep b (fun e=>hb (by rw[e];exact wq)) o ho),m.gens,m.drawn,m.os,m.toks⟩
 generalize s.heap.update S (Obj.mapSeq fun x=>#[])=h1 at *;refine wpAny_bind (wpAny_typeOf hT1 ?_);rw[if_neg (by rw[listSameRef_of_ne (fun e=>hSI (Value.ref.inj e))];decide)];refine wpAny_bind (W.self 0 _ _ _ St0 ?_);refine wpAny_bind (wpAny_holding (L2.hint_rev hT1 ?_))
 dsimp only
 rw[if_neg (by decide)];refine wpAny_pure ⟨by first|rfl | (unfold Code.quiet;decide) | (with_unfolding_all rfl) | (simp[Code.quiet];done),?_⟩;exact codeAny_extend_loopS W.toS hz S (by simp[hSI,hSl]) Value.none items.size 0 _ #[] c (by simp) (vN _) St0 hS1 ⟨rfl,fun j v h=>by simp at h⟩ (fun s' acc' c' m g it=>q s' acc' c' (mv s' m) g it)
theorem L2.call_list_rev{prog:Program}{w:World}{A:Around}{E:Value->Shared->Prop}{s:Shared}{Q:Value->Shared->Prop}(I l:Addr){items:Array Value}(hA:A.handled=none)(hI:s.heap.IsRevIter I l ((items.size:Int) - 1))(hl:s.heap.IsList l items)(hne:l≠I)(hz:items.size<=sizeLine)
  (q:∀(s':Shared)(acc':Array Value)(c':Nat),(∀(b:Addr)(o:Obj),b≠I->s.heap.get? b=some o->s'.heap.get? b=some o)->s'.gens=s.gens->s'.drawn=s.drawn->s'.os=s.os->s'.heap.get? s.heap.objs.size=some { cls:=Value.type "list",data:=Data.seq acc' c' }->ItemsOf (fun i v=>items[items.size - 1 - i]?=some v) acc' items.size->Q (Value.ref s.heap.objs.size) s') :
  wpAny (model prog w) A (call (Value.type "list") [Value.ref I]) Q E s:=by
 have kp:∀ b o,s.heap.get? b=some o->(s.heap.push { cls:=Value.type "list",data:=Data.seq #[] }).get? b=some o:=fun b o e=>Heap.get?_push_of_some _ e
 have nS:∀ b o,s.heap.get? b=some o->s.heap.objs.size≠b:=fun b o e h=>by
  have:=Heap.lt_size e;rw[← h]at this;exact vY _ this
 refine callType_codes (Q₁:=fun obj s₁=>obj=Value.ref s.heap.objs.size/\s₁={ heap:=s.heap.push { cls:=Value.type "list",data:=Data.seq #[] },gens:=s.gens,drawn:=s.drawn,toks:=s.toks,os:=s.os }) F.called_list (F.typeCall_list_1 _) F.entry_list_init (code_list_new _ ⟨rfl,rfl⟩) ?_
 rintro obj s₁ ⟨rfl,rfl⟩
 obtain⟨oI,hI1,hI2,hI3⟩:=hI;obtain⟨oL,hL1,hL2⟩:=hl;have hS:(s.heap.push { cls:=Value.type "list",data:=Data.seq #[] }).get? s.heap.objs.size=some { cls:=Value.type "list",data:=Data.seq #[] }:=Heap.get?_push_size _ rfl;refine⟨⟨_,hS,rfl⟩,F.args_list_init_2 _ _,?_⟩;refine L2.init_rev (A:=A.in1) (R:=wants (fun r s₂=>r=Value.none/\Q (Value.ref s.heap.objs.size) s₂) E) s.heap.objs.size I l (items:=items) hA ⟨oI,kp _ _ hI1,hI2,hI3⟩ ⟨oL,kp _ _ hL1,hL2⟩ hne (nS _ _ hI1) (nS _ _ hL1) hS (fun s' acc' c' m g it=>?_) hz;refine⟨rfl,q s' acc' c' (fun b o hb ho=>m.heap b o ?_ (kp b o ho)) m.gens m.drawn m.os g it⟩;intro hm
 rcases wy.mp hm with e|e
 ·exact nS b o ho e.symm
 ·exact hb (wn.mp e)
namespace L2
section
variable{X:Cx}{K:PySem.W.Frag}{e:Expr}{t:TA}{p p2 pos pos2:Pos}
def rLR(K:PySem.W.Frag):List V->Hp->VK->Prop:=fun xs H Q=>∃ p ys,xs=[.ref p]/\SqL K H p ys/\∀ l,H l=none->Q (.ref l) (upd H l (.lst ys.reverse))
theorem zex{xs:List V}{us:List Value}(r:Vals xs us):Vals xs.reverse us.reverse:=by
 induction r with
 | nil=>exact .nil
 | cons h _ ih =>
  rw[GD,GD];have go:∀ {a:List V} {b:List Value} {x:V} {u:Value},Vals a b->RelV x u->Vals (a++[x]) (b++[u]):=fun {a b x u} h1 h2=>by
   induction h1 with
   | nil=>exact .cons h2 .nil
   | cons h3 _ ih2=>exact .cons h3 ih2
  exact go ih h
theorem XS (hK:X.K=K) (hc:X.calm=true) (hg1:Gl X "list") (hm1:X.mg "list" = none) (hg2:Gl X "reversed") (hm2:X.mg "reversed" = none) (ha:PA X [e] t)
  (h1:starEach [.Call (.Name "reversed" p2) [e] [] pos2] X.env =(false,eval (.Call (.Name "reversed" p2) [e] [] pos2) X.env)::starEach [] X.env:=by rfl)
  (h2:starEach [e] X.env =(false,eval e X.env)::starEach [] X.env:=by rfl) (h3:(backTo pos (starEach [] X.env)).any (·.1)=false:=by rfl) (h4:(backTo pos2 (starEach [] X.env)).any (·.1)=false:=by rfl) :
  PE X (.Call (.Name "list" p) [.Call (.Name "reversed" p2) [e] [] pos2] [] pos) (tCB (rLR K) t):=by
 subst hK;intro pins s σ H Q I h;refine wpAny_Call_Name_kw (YY I hg1 hm1 (u:=.type "list") qN ?_);refine PyProof.Rows.callWith_type1 ?_ h1 h3;rw[h1];show wpAny _ _ (spliced ((false,eval (.Call (.Name "reversed" p2) [e] [] pos2) X.env)::backTo pos (starEach [] X.env))) _ _ s;refine Calls.spliced_cons ?_;refine wpAny_Call_Name_kw (YY I hg2 hm2 (u:=.type "reversed") PyProof.Rows.boot_reversed ?_);refine PyProof.Rows.callWith_type1 (thn (ha pos2 pins s σ H _ I h) fun us s1 ⟨vs,H1,I1,r1,q1⟩=>?_) h2 h4;obtain⟨l,ys,rfl,hq,q⟩:=q1;obtain⟨u,rfl,rx⟩:=vals1 r1;cases rx;obtain⟨its,r',pl,hz⟩:=I1.list hq;have hlen:=r'.length;refine call_reversed_list pl.isList ?_;refine Calls.spliced_nil ?_;obtain⟨oL,hL1,hL2⟩:=pl.isList;have kp:∀ b o,s1.heap.get? b=some o->(s1.heap.push (revObj l ((its.toArray.size:Int) - 1))).get? b=some o:=fun b o e=>Heap.get?_push_of_some _ e
 have hI:(s1.heap.push (revObj l ((its.toArray.size:Int) - 1))).get? s1.heap.objs.size=some (revObj l ((its.toArray.size:Int) - 1)):=Heap.get?_push_size _ rfl;have nl:l≠s1.heap.objs.size:=fun e=>by have:=Heap.lt_size hL1;rw[← e]at this;exact vY _ this
 refine L2.call_list_rev s1.heap.objs.size l (items:=its.toArray) (I.ok.hd hc) ⟨_,hI,rfl,rfl⟩ ⟨oL,kp _ _ hL1,hL2⟩ nl (by simp only[wx];omega) fun s' acc' c' kp' eg ed eo g it=>?_
 obtain⟨h',g',d',t',o'⟩:=s';subst eg;subst ed;subst eo;have hacc:acc'=its.reverse.toArray:=by
  obtain⟨i1,i2⟩:=it;refine Array.ext_getElem? fun j=>?_
  simp only[wx]at i1 i2
  rcases wS j its.length with hj|hj
  ·have e1:acc'[j]?=some acc'[j]:=Array.getElem?_eq_getElem (by omega);have e2:=i2 j _ e1;rw[e1,← e2];simp only[List.getElem?_toArray];rw[vS hj]
  ·rw[Array.getElem?_eq_none (by omega),Array.getElem?_eq_none (by simp;omega)]
 subst hacc;have hsz:s1.heap.objs.size<=(s1.heap.push (revObj l ((its.toArray.size:Int) - 1))).objs.size:=by
  exact ud (Heap.lt_size hI)
 refine⟨.ref _,_,I1.laid (h':=h') (t':=t') (fun b o e=>kp' b o (fun z=>by have:=Heap.lt_size e;rw[← z]at this;exact vY _ this) (kp b o e)) hsz (show kap X.prog X.w _ h' _ (.lst ys.reverse)from⟨by rw[vE];exact hz,its.reverse,c',zex r',g⟩),rfl,q _ (I1.hok.fresh hsz)⟩
theorem zg3:PIp X .Mult (fun x y H Q=>∃ i j,x=.int i/\y=.int j/\IntMulOk i j/\Q (.int (i*j)) H):=by
 intro pins s σ H x y v u Q I r1 r2 h;obtain⟨i,j,e1,e2,ok,q⟩:=h;subst e1;subst e2;obtain⟨t,rfl⟩:=r1;obtain⟨t',rfl⟩:=r2;exact imul_int ⟨.int _,H,I.tok _,⟨_,rfl⟩,q⟩ ok
end
end L2
namespace L2
open PySem PySem.Spec PyProof.Rows Nm
theorem zhF(xs:List V)(i j:Nat):cutV xs (some (i:Int)) (some (j:Int)) =(xs.drop i).take (j - i):=by
 unfold cutV;rw[HT.ZZ,HT.ZZ]
 rcases wS i xs.length with h|h
 ·rw[uH (a:=i) (ud h)]
  rcases gA j xs.length with h2|h2
  ·rw[uH h2]
  ·rw[uQ h2,wg (by rw[vO];omega),wg (by rw[vO];omega)]
 ·rw[uQ h,uq (wl _),uq h];simp
theorem Zo(xs:List V)(i:Nat):cutV xs (some (i:Int)) none=xs.drop i:=by
 unfold cutV;rw[HT.ZZ,HT.YD]
 rcases gA i xs.length with h|h
 ·rw[uH h,wg (by rw[vO];omega)]
 ·rw[uQ h,uq (wl _),uq h];simp
theorem XO(xs:List V)(j:Nat):cutV xs none (some (j:Int))=xs.take j:=by
 unfold cutV;rw[HT.YD,Gw,gG,HT.ZZ]
 rcases gA j xs.length with h|h
 ·rw[uH h]
 ·rw[uQ h,wg (wl _),wg h]
section
variable{K:PySem.W.Frag}{g:TG}{tt:TT}{te:TE}{R:List V->Hp->Prop}{H:Hp}{σb:St}
theorem zdK{a b:Addr}{xs zs:List V}(n:Nat)(hn:n=min xs.length zs.length)(J:Nat->List V->Hp->Prop)(h0:J 0 [] H)(hl:∀(i:Nat)(ys:List V)(H':Hp),i<=n->J i ys H'->SqL K H' a xs/\SqL K H' b zs/\ys.length<sizeLine)
  (hs:∀(i:Nat)(x z:V)(T:Addr)(ys:List V)(H':Hp),xs[i]?=some x->zs[i]?=some z->i<n->H' T=none->J i ys H'->g (.ref T) σb (upd H' T (.tup [x,z])) fun σ2 H2=>tt σ2 H2 fun b H3=>if b=true then te σ2 H3 fun y H4=>Nxt n i (J (i+1) (ys++[y]) H4)else Nxt n i (J (i+1) ys H3))
  (hd:∀(ys:List V)(H':Hp),J n ys H'->R ys H') :
  ∃ W:Nat->Nat->List V->Hp->Prop,(∃ m,W 0 m [] H)/\∀ i m ys H,W i m ys H ->
   ((Itz K a b).stop i H/\ys.length<=sizeLine/\R ys H) \/
   ((Itz K a b).go i H/\ys.length<sizeLine/\∀ x H',(Itz K a b).yld i H x H'->g x σb H' fun σ2 H2=>tt σ2 H2 fun b H3=>if b=true then te σ2 H3 fun y H4=>∃ m',m'<m/\W (i+1) m' (ys++[y]) H4 else ∃ m',m'<m/\W (i+1) m' ys H3):=by
 refine⟨fun i m ys H=>m=n - i/\i<=n/\J i ys H,⟨n,by simp,vN _,h0⟩,?_⟩
 rintro i m ys H1 ⟨rfl,hi,j⟩
 obtain⟨q1,q2,hz⟩:=hl i ys H1 hi j
 by_cases hlt:i<n
 ·have l1:i<xs.length:=by omega
  have l2:i<zs.length:=by omega
  refine .inr ⟨⟨xs,zs,xs[i],zs[i],q1,q2,by simp[l1],by simp[l2]⟩,hz,fun x H' y=>?_⟩;obtain⟨T,u,v,rfl,hT,rfl,y1,y2⟩:=y;exact hs i u v T ys _ (y1 xs q1) (y2 zs q2) hlt hT j
 ·have e:i=n:=by omega
  subst e;refine .inl ⟨⟨xs,zs,q1,q2,?_⟩,ud hz,hd ys H1 j⟩
  rcases gA xs.length zs.length with h|h
  ·exact .inl (by omega)
  ·exact .inr (by omega)
end
theorem zbc:∀(ws us:List Int),(vm (·*·) ws us).sum=La.rdot ws us
 | [],_=>by cases ‹List Int› <;> rfl
 | _::_,[]=>rfl
 | a::as,b::bs=>by
  show a*b +(vm (·*·) as bs).sum=a*b+La.rdot as bs;rw[zbc as bs]
theorem qR{m m':Nat}:∀(ws us:List Int),(∀ w∈ws,Sm m w)->(∀ w∈us,Sm m' w)->Sm (m+m'+ws.length) (La.rdot ws us)
 | [],us,_,_=>by cases us <;> exact xh _
 | _::_,[],_,_=>xh _
 | a::as,b::bs,h1,h2=>by
  have ih:=qR as bs (fun w hw=>h1 w (wD _ hw)) (fun w hw=>h2 w (wD _ hw));show Sm ((m+m'+as.length)+1) (a*b+La.rdot as bs);exact(((h1 a wq).mul (h2 b wq)).mono (gn _ _)).add ih
theorem zaH{α β:Type}{R:α->β->Prop}{xs:List α}{ys:List β}(h:Paired R xs ys)(n:Nat):Paired R (xs.take n) (ys.take n):=by
 have l:=zj h;refine Xr (by rw[wj,wj,l]) fun i x a h1 h2=>?_
 rw[gH]at h1 h2
 split at h1
 ·rename_i hi;rw[if_pos hi]at h2;exact qv h h1 h2
 ·cases h1
theorem zb1{α β:Type}{R:α->β->Prop}{xs:List α}{ys:List β}(h:Paired R xs ys):Paired R xs.reverse ys.reverse:=by
 have l:=zj h;refine Xr (by rw[vE,vE,l]) fun i x a h1 h2=>?_
 have hi:i<xs.length:=by have:=(wm.mp h1).1;rw[vE]at this;exact this
 rw[vS hi]at h1;rw[vS (by omega),← l]at h2;exact qv h h1 h2
def ITab(H:Hp)(W:List (List Int))(t:Addr)(ls:List Addr):Prop:=H t=some (.lst (ls.map V.ref))/\Paired (IRow H) W ls
theorem ITab.mono{H H':Hp}{W:List (List Int)}{t:Addr}{ls:List Addr}(h:ITab H W t ls)(g:Same H H'):ITab H' W t ls:=⟨g _ _ h.1,yZ (fun _ _ r=>r.mono g) h.2⟩
theorem ITab.row{H:Hp}{W:List (List Int)}{t:Addr}{ls:List Addr}(h:ITab H W t ls){i:Nat}{v:V}(e:(ls.map V.ref)[i]?=some v):∃ ws a,W[i]?=some ws/\ls[i]?=some a/\v=.ref a/\IRow H ws a:=by
 rw[wf]at e;obtain⟨a,ha,rfl⟩:=vB.mp e;obtain⟨ws,hw,r⟩:=zU h.2 ha;exact⟨ws,a,hw,ha,rfl,r⟩
theorem ITab.snoc{H H':Hp}{W:List (List Int)}{ls:List Addr}(h:Paired (IRow H) W ls)(g:Same H H'){ws:List Int}{a:Addr}(r:IRow H' ws a):Paired (IRow H') (W++[ws]) (ls++[a]):=yu (yZ (fun _ _ r=>r.mono g) h) r
section
variable{m:Nat}
theorem zc8{inner:List (List Int)}{v:List Int}(h1:∀ r∈inner,r.length<=4/\∀ w∈r,Sm m w)(h2:∀ w∈v,Sm m w):∀ i,∀ w∈La.bpow inner v i,Sm ((i+1) *(m+4)) w
 | 0,w,hw=>(h2 w hw).mono (by omega)
 | i+1,w,hw=>by
  have hw':w∈inner.map fun r=>La.rdot r (La.bpow inner v i):=hw
  obtain⟨r,hr,rfl⟩:=wk.mp hw';refine(qR r _ (h1 r hr).2 (zc8 h1 h2 i)).mono ?_;have:=(h1 r hr).1;rw[show(i+1+1) *(m+4) =(i+1) *(m+4) +(m+4) by rw[vW]];omega
theorem zgm{W:List (List Int)}(h:∀ r∈W,r.length<=4/\∀ w∈r,Sm m w){s:Nat}(s3:s<=3):∀ w∈La.bfac W s,Sm (5 *(m+4)) w:=fun w hw=>by
 have row:∀ r,r∈W\/r=[]->∀ x∈r,Sm m x:=fun r hr x hx=>by
  rcases hr with hr|hr
  ·exact(h r hr).2 x hx
  ·rw[hr]at hx;cases hx
 have gd:∀ i,W.getD i []∈W\/W.getD i []=[]:=fun i=>by
  rw[wb];cases e:W[i]? with
  | none=>exact .inr rfl
  | some r=>exact .inl (wd e)
 have gx:∀(r:List Int),(∀ x∈r,Sm m x)->∀ i,Sm m (r.getD i 0):=fun r hr i=>by
  rw[wb];cases e:r[i]? with
  | none=>exact xh _
  | some x=>exact hr x (wd e)
 unfold La.bfac at hw
 rcases wy.mp hw with e|hw
 ·rw[e];exact sm_one.mono (by omega)
 rcases wy.mp hw with e|hw
 ·rw[e];exact(gx _ (row _ (gd s)) s).neg.mono (by omega)
 obtain⟨st,hst,rfl⟩:=wk.mp hw;rw[vI]at hst;refine Sm.neg ?_;have l4:((W.getD s []).take s).length<=3:=by rw[wj];omega
 refine(qR _ _ (fun x hx=>row _ (gd s) x (wE hx)) (zc8 (m:=m) (inner:=(W.take s).map (·.take s)) (v:=(W.take s).map (·.getD s 0)) (fun r hr=>?_) (fun x hx=>?_) st)).mono ?_
 ·obtain⟨r',hr',rfl⟩:=wk.mp hr;have hm:=h r' (wE hr');exact⟨by rw[wj];omega,fun x hx=>hm.2 x (wE hx)⟩
 ·obtain⟨r',hr',rfl⟩:=wk.mp hx;exact gx _ (h r' (wE hr')).2 s
 ·have:(st+1) *(m+4)<=3 *(m+4):=wH _ (by omega);omega
theorem ZB(W:List (List Int)):∀ s,(La.wgr W s).length=s+1
 | 0=>rfl
 | s+1=>by show((wZ (s+2)).map _).length=_;simp
theorem zeL(W:List (List Int))(s:Nat):(La.bfac W s).length=s+2:=by unfold La.bfac;simp
theorem zfk{W:List (List Int)}(h:∀ r∈W,r.length<=4/\∀ w∈r,Sm m w):∀ s,s<=4->∀ w∈La.wgr W s,Sm (1+s *(5 *(m+4)+6)) w
 | 0,_,w,hw=>by
  rw[wn.mp hw];exact sm_one.mono (by omega)
 | s+1,hs,w,hw=>by
  have hw':w∈(wZ (s+2)).map fun pl=>La.rdot (La.wgr W s) ((La.bfac W s).reverse.drop (s+1 - pl)):=hw
  obtain⟨pl,_,rfl⟩:=wk.mp hw';refine(qR _ _ (zfk h s (by omega)) (fun x hx=>zgm h (by omega) x (uR.mp (vJ hx)))).mono ?_;rw[ZB,show(s+1) *(5 *(m+4)+6)=s *(5 *(m+4)+6) +(5 *(m+4)+6) by rw[vW]];omega
end
end L2
namespace L2
open PySem PySem.Spec PyProof.Rows Nm
def subR(k:Int)(xs ys:List Nb):List Nb:=vm (nsub k) xs ys
def zerN(k:Int)(n:Nat):List Nb:=ww n (nnum k 0)
def addW(k:Int)(xs ys:List Nb):List Nb:=vm (nadd k) xs ys
section
variable{k:Int}(hk:kab k){n:Nat}{x y:List Nb}
include hk
theorem JM(ox:La.OkR k x)(oy:La.OkR k y):La.OkR k (subR k x y):=fun z hz=>by
 unfold subR at hz;rw[← uA]at hz;obtain⟨⟨a,b⟩,hp,rfl⟩:=wk.mp hz;exact Jm hk.lt.1 (ox _ (vn hp).1) (oy _ (vn hp).2)
section
variable{F:Type}[Lean.Grind.Field F](φ:La.Kf k F)
theorem zdM(ox:La.OkR k x)(oy:La.OkR k y)(h:x.length=y.length)(j:Nat):La.nv φ (subR k x y) j=La.nv φ x j - La.nv φ y j :=
 La.zhQ h (fun a b=>a - b) (by grind) (fun a ha b hb=>φ.sub (ox a ha) (oy b hb)) j
theorem zg1(s j:Nat):La.nv φ (zerN k s) j=0:=by
 rcases wS j s with h|h
 ·rw[La.yp φ (x:=nnum k 0) (by unfold zerN;rw[uB,if_pos h]),φ.num0]
 ·exact La.yl φ (by unfold zerN;rw[vh];exact h)
end
theorem ZX(h:x.length=y.length):(subR k x y).length=x.length:=by unfold subR;rw[wr];omega
end
end L2
namespace L2
open PySem PySem.Spec PyProof.Rows Nm
theorem zbd{k:Int}(hk:kab k){D D' B B':Nat}:∀(l:List (Nb×Nb))(s:Nb)(c:Nat),(∀ p∈l,La.dB D B p.1/\La.dB D' B' p.2/\p.1.ok k/\p.2.ok k)->s.ok k->La.dB (D*D') c s->La.dB (D*D') (c+l.length *(B*B')) (l.foldl (fun s p=>nadd k s (nmul k p.1 p.2)) s)
 | [],s,c,_,_,h=>by rw[Gh,waj];exact h
 | p::l,s,c,hp,os,h=>by
  obtain⟨h1,h2,o1,o2⟩:=hp p wq;have om:=La.xm hk o1 o2;have:=zbd hk l (nadd k s (nmul k p.1 p.2)) (c+B*B') (fun q hq=>hp q (wD _ hq)) (La.jU hk os om) (h.add (h1.mul h2 o1 o2) os om);rw[Ge];refine this.mono ?_;rw[uP,gJ,Gp];omega
theorem zgj{k:Int}(hk:kab k){D D' B B' n:Nat}{x y:List Nb}(ox:La.OkR k x)(oy:La.OkR k y)(lx:x.length=n)(hx:∀ u∈x,La.dB D B u)(hy:∀ u∈y,La.dB D' B' u):La.dB (D*D') (n *(B*B')) (La.ndot k x y):=by
 unfold La.ndot La.ndotF;have h:=zbd hk (x.zip y) (nnum k 0) 0 (fun p hp=>⟨hx _ (vn hp).1,hy _ (vn hp).2,ox _ (vn hp).1,oy _ (vn hp).2⟩) (La.zR hk 0) (La.dB.num (by simp));refine h.mono ?_;rw[vC];refine wH _ ?_;rw[uu];omega
end L2
namespace L2
open PySem PySem.Spec PyProof.Rows Nm
end L2
namespace L2
open Nm
end L2
namespace L2
open PySem PySem.Spec PyProof.Rows Nm
theorem zbo{α β:Type}{R:α->β->Prop}{xs:List α}{ys:List β}(h:Paired R xs ys)(n:Nat):Paired R (xs.take n) (ys.take n):=by
 have l:=zj h;refine Xr (by rw[wj,wj,l]) fun i x a h1 h2=>?_
 rw[gH]at h1 h2
 split at h1
 ·rename_i hi;rw[if_pos hi]at h2;exact qv h h1 h2
 ·cases h1
end L2
namespace L2
open PySem PySem.Spec PyProof.Rows Nm
end L2
namespace L2
open PySem PySem.Spec PyProof.Rows Nm
theorem qk{k:Int}{F:Type}[Lean.Grind.Field F]{φ:La.Kf k F}(hk:kab k){n:Nat}{A:TB}{x:List Nb}(oA:La.OkM k n A)(ox:La.OkR k x)(lx:x.length=n)(i:Nat):La.nv φ (imgM k A x) i=La.limg φ n A (La.nv φ x) i:=La.zhN hk oA ox lx i
end L2
namespace L2
open PySem PySem.Spec PyProof.Rows Nm
def whk(k:Int)(m:Nat)(x:Nb):Prop:=k=0->∃ i:Int,x=nnum k i/\i.natAbs<2^m
theorem whk.mono{k:Int}{m n:Nat}{x:Nb}(h:whk k m x)(hm:m<=n):whk k n x:=fun k0=>by
 obtain⟨i,e,hi⟩:=h k0;exact⟨i,e,wO hi (ue (by decide) hm)⟩
theorem whk.szk{k:Int}{m:Nat}{x:Nb}(h:whk k m x)(m1:1<=m):szk k m x:=fun k0=>by
 obtain⟨i,e,hi⟩:=h k0;subst k0;rw[e];exact⟨hi,sm_one.mono m1⟩
theorem whk.nsm{k:Int}(hk:kab k){m n:Nat}{x:Nb}(o:x.ok k)(h:whk k m x)(hm:m<=n)(h7:61<=n):nsm n x:=((h.mono hm).szk (vp (by decide) h7)).nsm hk o (wl _) h7
theorem xY{k:Int}(k0:k=0)(i:Int):nnum k i=.q (i:Rat):=by unfold nnum;rw[if_pos k0]
theorem zdN{a b m n:Nat}(ha:a<2^m)(hb:b<2^n):a+b<2^(max m n+1):=by
 have h1:2^m<=2^max m n:=ue (by decide) (Nat.le_max_left _ _);have h2:2^n<=2^max m n:=ue (by decide) (Nat.le_max_right _ _);rw[Gv];omega
theorem zbr{k:Int}{m n:Nat}{x y:Nb}(ox:x.ok k)(oy:y.ok k)(sx:whk k m x)(sy:whk k n y):whk k (max m n+1) (nadd k x y):=fun k0=>by
 obtain⟨i,rfl,hi⟩:=sx k0;obtain⟨j,rfl,hj⟩:=sy k0;refine⟨i+j,?_,gf (gL i j) (zdN hi hj)⟩;rw[xY k0,xY k0,xY k0];show Nb.q ((i:Rat) +(j:Rat))=_;rw[Gf]
theorem zaZ{k:Int}{m n:Nat}{x y:Nb}(ox:x.ok k)(oy:y.ok k)(sx:whk k m x)(sy:whk k n y):whk k (max m n+1) (nsub k x y):=fun k0=>by
 obtain⟨i,rfl,hi⟩:=sx k0;obtain⟨j,rfl,hj⟩:=sy k0;refine⟨i - j,?_,gf (Gy i j) (zdN hi hj)⟩;rw[xY k0,xY k0,xY k0];show Nb.q ((i:Rat) - (j:Rat))=_;rw[Rat.intCast_sub]
theorem Jl{k:Int}{m n:Nat}{x y:Nb}(ox:x.ok k)(oy:y.ok k)(sx:whk k m x)(sy:whk k n y):whk k (m+n) (nmul k x y):=fun k0=>by
 obtain⟨i,rfl,hi⟩:=sx k0;obtain⟨j,rfl,hj⟩:=sy k0;refine⟨i*j,?_,?_⟩
 ·rw[xY k0,xY k0,xY k0];show Nb.q ((i:Rat) *(j:Rat))=_;rw[vw]
 ·rw[vM,gm];exact GI hi hj
structure TW(k:Int)(r c m:Nat)(M:TB):Prop where
 len:M.length=r
 ok:La.OkM k c M
 sz:∀ r∈M,∀ x∈r,whk k m x
theorem TW.up{k:Int}{r c m m':Nat}{M:TB}(h:TW k r c m M)(hm:m<=m'):TW k r c m' M:=⟨h.len,h.ok,fun r hr x hx=>(h.sz r hr x hx).mono hm⟩
theorem TW.tok{k:Int}(hk:kab k){r c m n:Nat}{M:TB}(h:TW k r c m M)(hm:m<=n)(h7:61<=n):TOk k r c n M:=⟨h.len,h.ok,fun r hr x hx=>(h.sz r hr x hx).nsm hk ((h.ok r hr).2 x hx) hm h7⟩
theorem TW.set{k:Int}{r c m i:Nat}{M:TB}{xs:List Nb}(h:TW k r c m M)(lx:xs.length=c)(ox:La.OkR k xs)(sx:∀ x∈xs,whk k m x):TW k r c m (M.set i xs):=by
 refine⟨by rw[vv];exact h.len,fun q hq=>?_,fun q hq=>?_⟩
 all_goals
  rcases La.yd hq with e|e
 ·rw[e];exact⟨lx,ox⟩
 ·exact h.ok q e
 ·rw[e];exact sx
 ·exact h.sz q e
end L2
namespace L2
open PySem PySem.Spec PyProof.Rows Nm
theorem Qy{k:Int}{m:Nat}{x:Nb}(k0:k=0)(h:whk k m x):La.dB 1 (2^m - 1) x:=by
 obtain⟨i,rfl,hi⟩:=h k0;exact La.dB.num (by omega)
theorem zdt{k:Int}{m B:Nat}{x:Nb}(ox:x.ok k)(h:k=0->La.dB 1 B x)(hb:B<2^m):whk k m x:=fun k0=>by
 have h:=h k0;cases x with
 | z i=>exact absurd k0 ox.1
 | q r =>
  obtain⟨a,ea,ha⟩:=h;refine⟨a,?_,by omega⟩;rw[xY k0];have e1:(((1:Nat):Int):Rat)=1:=by rfl
  rw[e1]at ea;have:r =(a:Rat):=by rw[← ea];grind
  rw[this]
theorem zeV{k:Int}(hk:kab k){n a b c:Nat}{x y:List Nb}(ox:La.OkR k x)(oy:La.OkR k y)(lx:x.length=n)(hn:n<=2^c)(hx:∀ u∈x,whk k a u)(hy:∀ u∈y,whk k b u):whk k (a+b+c) (La.ndot k x y):=by
 refine zdt (B:=n *((2^a - 1) *(2^b - 1))) (La.Xd hk ox oy) (fun k0=>?_) ?_
 ·exact zgj hk ox oy lx (fun u hu=>Qy k0 (hx u hu)) (fun u hu=>Qy k0 (hy u hu))
 ·have p1:=uX a;have p2:=uX b;have p3:=uX c;rw[gm,gm];have h1:(2^a - 1) *(2^b - 1)<=(2^a - 1)*2^b:=uz _ (by omega);have h2:(2^a - 1)*2^b=2^a*2^b - 2^b:=by rw[Nat.sub_mul,Gp]
  have h3:0<2^a*2^b:=Nat.mul_pos p1 p2
  calc n *((2^a - 1) *(2^b - 1))<=2^c *(2^a*2^b - 1):=ug hn (by omega)
   _<2^c *(2^a*2^b):=Nat.mul_lt_mul_of_pos_left (by omega) p3
   _=2^a*2^b*2^c:=Gb ..
theorem zbL{k:Int}{c m:Nat}{M:TB}(oM:La.OkM k c M)(h:∀ r∈M,∀ x∈r,whk k m x):∀ r∈kag c M,∀ x∈r,whk k m x:=fun r hr x hx=>by
 unfold kag at hr;obtain⟨j,hj,rfl⟩:=wk.mp hr;obtain⟨q,hq,rfl⟩:=wk.mp hx;have hl:=(oM q hq).1;rw[vI]at hj;rw[wb,wa (by omega)];exact h q hq _ (we _)
theorem zcn{k:Int}{m n:Nat}{x y:List Nb}(ox:La.OkR k x)(oy:La.OkR k y)(hx:∀ u∈x,whk k m u)(hy:∀ u∈y,whk k n u):∀ u∈subR k x y,whk k (max m n+1) u:=fun u hu=>by
 unfold subR at hu;rw[← uA]at hu;obtain⟨⟨p,q⟩,hp,rfl⟩:=wk.mp hu;have m1:=(vn hp).1;have m2:=(vn hp).2;exact zaZ (ox p m1) (oy q m2) (hx p m1) (hy q m2)
theorem zfN{k:Int}{m n:Nat}{x y:List Nb}(ox:La.OkR k x)(oy:La.OkR k y)(hx:∀ u∈x,whk k m u)(hy:∀ u∈y,whk k n u):∀ u∈addW k x y,whk k (max m n+1) u:=fun u hu=>by
 unfold addW at hu;rw[← uA]at hu;obtain⟨⟨p,q⟩,hp,rfl⟩:=wk.mp hu;have m1:=(vn hp).1;have m2:=(vn hp).2;exact zbr (ox p m1) (oy q m2) (hx p m1) (hy q m2)
end L2
namespace L2
open PySem PySem.Spec PyProof.Rows Nm
end L2
namespace L2
open PySem PySem.Spec PyProof.Rows Nm
end L2
namespace L2
open PySem PySem.Spec PyProof.Rows Nm
section
variable{F:Type}[Lean.Grind.Field F]
theorem zcN(u v:Nat->F)(p:Nat):∀ q,La.dot (p+q) u v=La.dot p u v+La.dot q (fun j=>u (p+j)) (fun j=>v (p+j))
 | 0=>by show _=_+0;rw[Nat.add_zero];grind
 | q+1=>by
  show La.dot (p+q) u v+u (p+q)*v (p+q)=La.dot p u v +(La.dot q (fun j=>u (p+j)) (fun j=>v (p+j))+u (p+q)*v (p+q));rw[zcN u v p q];grind
end
end L2
namespace L2
open PySem PySem.Spec PyProof.Rows Nm
theorem getT{h l:Nat}(M:TB)(hl:l<h):(kag h M)[l]?=some ((kag h M).getD l []):=by
 have hl':l <(kag h M).length:=by rw[zP];exact hl
 rw[wb,wa hl'];rfl
end L2
namespace L2
open PySem PySem.Spec PyProof.Rows Nm
end L2
namespace L2
open PySem PySem.Spec PyProof.Rows Nm
end L2
namespace L2
open PySem PySem.Spec PyProof.Rows Nm
end L2
namespace L2
open PySem PySem.Spec PyProof.Rows Nm
end L2
namespace L2
open PySem PySem.Spec PyProof.Rows Nm
section
variable{k:Int}(hk:kab k){n:Nat}{F:Type}[Lean.Grind.Field F](φ:La.Kf k F)
include hk
theorem zhZ{M:TB}{xs:List Nb}(g:La.GrP k n M xs){i:Nat}(hi:i<=n):La.nv φ xs i =(La.wgr (M.map fun r=>r.map φ.to) n).getD (n - i) 0:=by
 rw[g F φ i,wb,wb,vS (by rw[La.yC];omega),La.yC]
 rfl
end
end L2
namespace L2
open PySem PySem.Spec PyProof.Rows Nm
end L2
namespace L2
open PySem PySem.Spec PyProof.Rows Nm
end L2
namespace L2
open PySem PySem.Spec PyProof.Rows Nm
def toI:Nb->Int
 | .q r=>r.num
 | .z i=>i
theorem zcw{k:Int}(k0:k=0){m:Nat}{x:Nb}(h:whk k m x):x=nnum k (toI x)/\Sm m (toI x):=by
 obtain⟨i,e,hi⟩:=h k0;have e2:toI x=i:=by
  rw[e,xY k0];show((i:Rat)).num=i;exact Rat.num_intCast i
 rw[e2];exact⟨e,hi⟩
def adT(k:Int)(M N:TB):TB:=vm (La.addR k) M N
theorem zdW{k:Int}{M N:TB}{i:Nat}{a b:List Nb}(h1:M[i]?=some a)(h2:N[i]?=some b):(adT k M N)[i]?=some (La.addR k a b):=by unfold adT;rw[vH,h1,h2]
end L2
namespace L2
open PySem PySem.Spec PyProof.Rows Nm
section
variable{m:Nat}
theorem Ju{inner:List (List Int)}{v:List Int}(h1:∀ r∈inner,r.length<=8/\∀ w∈r,Sm m w)(h2:∀ w∈v,Sm m w):∀ i,∀ w∈La.bpow inner v i,Sm ((i+1) *(m+8)) w
 | 0,w,hw=>(h2 w hw).mono (by omega)
 | i+1,w,hw=>by
  have hw':w∈inner.map fun r=>La.rdot r (La.bpow inner v i):=hw
  obtain⟨r,hr,rfl⟩:=wk.mp hw';refine(qR r _ (h1 r hr).2 (Ju h1 h2 i)).mono ?_;have:=(h1 r hr).1;rw[show(i+1+1) *(m+8) =(i+1) *(m+8) +(m+8) by rw[vW]];omega
theorem zbf{W:List (List Int)}(h:∀ r∈W,r.length<=8/\∀ w∈r,Sm m w){s:Nat}(s3:s<=7):∀ w∈La.bfac W s,Sm (9 *(m+8)) w:=fun w hw=>by
 have row:∀ r,r∈W\/r=[]->∀ x∈r,Sm m x:=fun r hr x hx=>by
  rcases hr with hr|hr
  ·exact(h r hr).2 x hx
  ·rw[hr]at hx;cases hx
 have gd:∀ i,W.getD i []∈W\/W.getD i []=[]:=fun i=>by
  rw[wb];cases e:W[i]? with
  | none=>exact .inr rfl
  | some r=>exact .inl (wd e)
 have gx:∀(r:List Int),(∀ x∈r,Sm m x)->∀ i,Sm m (r.getD i 0):=fun r hr i=>by
  rw[wb];cases e:r[i]? with
  | none=>exact xh _
  | some x=>exact hr x (wd e)
 unfold La.bfac at hw
 rcases wy.mp hw with e|hw
 ·rw[e];exact sm_one.mono (by omega)
 rcases wy.mp hw with e|hw
 ·rw[e];exact(gx _ (row _ (gd s)) s).neg.mono (by omega)
 obtain⟨st,hst,rfl⟩:=wk.mp hw;rw[vI]at hst;refine Sm.neg ?_;have l4:((W.getD s []).take s).length<=7:=by rw[wj];omega
 refine(qR _ _ (fun x hx=>row _ (gd s) x (wE hx)) (Ju (m:=m) (inner:=(W.take s).map (·.take s)) (v:=(W.take s).map (·.getD s 0)) (fun r hr=>?_) (fun x hx=>?_) st)).mono ?_
 ·obtain⟨r',hr',rfl⟩:=wk.mp hr;have hm:=h r' (wE hr');exact⟨by rw[wj];omega,fun x hx=>hm.2 x (wE hx)⟩
 ·obtain⟨r',hr',rfl⟩:=wk.mp hx;exact gx _ (h r' (wE hr')).2 s
 ·have:(st+1) *(m+8)<=7 *(m+8):=wH _ (by omega);omega
theorem zau{W:List (List Int)}(h:∀ r∈W,r.length<=8/\∀ w∈r,Sm m w):∀ s,s<=8->∀ w∈La.wgr W s,Sm (1+s *(9 *(m+8)+10)) w
 | 0,_,w,hw=>by
  rw[wn.mp hw];exact sm_one.mono (by omega)
 | s+1,hs,w,hw=>by
  have hw':w∈(wZ (s+2)).map fun pl=>La.rdot (La.wgr W s) ((La.bfac W s).reverse.drop (s+1 - pl)):=hw
  obtain⟨pl,_,rfl⟩:=wk.mp hw';refine(qR _ _ (zau h s (by omega)) (fun x hx=>zbf h (by omega) x (uR.mp (vJ hx)))).mono ?_;rw[ZB,show(s+1) *(9 *(m+8)+10)=s *(9 *(m+8)+10) +(9 *(m+8)+10) by rw[vW]];omega
end
end L2
namespace La
open Lean.Grind Nm
theorem zfn{F:Type}[Field F]:∀ i,zq (1:F) i=1
 | 0=>rfl
 | i+1=>by show zq 1 i*1 =(1:F);rw[zfn i];grind
theorem zfZ{k:Int}(hk:kab k){n:Nat}{M:TB}(n1:1<=n)(n4:k=0->n<=4)(lM:M.length=n)(oM:OkM k n M){b:Int}(s:Scl k M.flatten (M.flatten.map (scW b)) b):GrP k n M (grN k b (wgr (M.map fun r=>r.map (scW b)) n) n).reverse:=by
 by_cases k0:k=0
 ·exact zgT hk n1 (n4 k0) lM oM s
 intro F _ φ j;have zn:=s.ne φ hk;have b1:=s.one k0;have eW:(M.map fun r=>r.map (scW b)).map (fun r=>r.map (ι:Int->F))=M.map fun r=>r.map φ.to:=by
  rw[vq];refine wW fun r hr=>?_
  show(r.map (scW b)).map ι=r.map φ.to;rw[vq];refine wW fun x hx=>?_
  show(ι (scW b x):F)=φ.to x;rw[zd1 φ s.one ((oM r hr).2 x hx) (s.dv x (uO.mpr ⟨r,hr,hx⟩)),b1,ι_one]
  grind
 have eg:∀ i,i<=n->(ι ((wgr (M.map fun r=>r.map (scW b)) n).getD i 0):F) =(wgr (M.map fun r=>r.map φ.to) n).getD i 0:=fun i hi=>by
  rw[Qo hm_ι,Xf hm_ι,eW]
 rcases wS j (n+1)with hj|hj
 ·have l1:j <(grN k b (wgr (M.map fun r=>r.map (scW b)) n) n).length:=by rw[qM];exact hj
  have l2:j <(wgr (M.map fun r=>r.map φ.to) n).length:=by rw[yC];exact hj
  rw[yp φ (x:=ndiv k (nnum k ((wgr (M.map fun r=>r.map (scW b)) n).getD (n - j) 0)) (nnum k (bp b (n - j)))) (by
   rw[vS l1,qM];unfold grN;rw[wf,show n+1 - 1 - j=n - j by omega,ve (by omega)];rfl)]
  rw[φ.div (zR hk _) (zR hk _) (zgq hk s _),φ.num,φ.num,eg (n - j) (by omega),ι_bp,b1,ι_one,zfn];have e2:(wgr (M.map fun r=>r.map φ.to) n).reverse.getD j 0 =(wgr (M.map fun r=>r.map φ.to) n).getD (n - j) 0:=by
   rw[wb,vS l2,yC,show n+1 - 1 - j=n - j by omega,← wb]
  rw[e2]
  grind
 ·rw[yl φ (by rw[vE,qM];exact hj),wb,vA (by rw[vE,yC];exact hj)]
  rfl
end La
namespace L2
open PySem PySem.Spec PyProof.Rows Nm
def tv{k:Int}{F:Type}[Lean.Grind.Field F](φ:La.Kf k F)(T:TB):Nat->Nat->F:=fun i j=>La.nv φ (T.getD i []) j
section
variable{k:Int}(hk:kab k){F:Type}[Lean.Grind.Field F](φ:La.Kf k F)
theorem zg6(T:TB):Dt.tab (T.map fun r=>r.map φ.to)=tv φ T:=funext fun i=>funext fun j=>by
 show((T.map fun r=>r.map φ.to).getD i []).getD j 0=φ.to ((T.getD i []).getD j (nnum k 0));have e:(T.map fun r=>r.map φ.to).getD i [] =(T.getD i []).map φ.to:=by
  rw[wb,wf,wb];cases T[i]? <;> simp
 rw[e];generalize T.getD i []=r;rw[wb,wf,wb];cases r[j]? with
 | none=>exact φ.num0.symm
 | some x=>rfl
include hk
theorem JH{a b c:Nat}{M N:TB}(oM:La.OkM k b M)(oN:La.OkM k c N)(lN:N.length=b){i j:Nat}(hi:i<M.length)(hj:j<c):tv φ (kad k c M N) i j=La.dot b (La.nv φ (M.getD i [])) (fun l=>La.nv φ (N.getD l []) j):=by
 have om:=oM _ (we hi);have gT:=getT N hj;have oT:=qo oN;have oc:=oT _ (wd gT);rw[lN]at oc;have er:(kad k c M N).getD i [] =(kag c N).map fun col=>La.ndot k M[i] col:=by
  unfold kad;rw[wb,wf,wa hi];rfl
 have e3:M.getD i []=M[i]:=by rw[wb,wa hi];rfl
 show La.nv φ ((kad k c M N).getD i []) j=_;rw[er,La.yp φ (show((kag c N).map fun col=>La.ndot k M[i] col)[j]?=some (La.ndot k M[i] ((kag c N).getD j [])) by rw[wf,gT];rfl),La.zao φ hk om.2 oc.2 (by rw[om.1,oc.1]),om.1,e3];exact La.yA fun l _=>by
  have:La.nv φ ((kag c N).getD j []) l=La.nv φ (N.getD l []) j:=La.zdj oN hj;rw[this]
theorem zhr{n h:Nat}{A B Fr:TB}(oA:La.OkM k n A)(lA:A.length=n)(oB:La.OkM k h B)(lB:B.length=n)(oF:La.OkM k n Fr)(lF:Fr.length=h){i j:Nat}(hi:i<n)(hj:j<n):tv φ (rulM k n A B Fr) i j=tv φ A i j+tv φ (kad k n B Fr) i j:=by
 have oI:=La.YN hk n;have oU:La.OkM k n (La.kal k n++Fr):=fun r hr=>by
  rcases wo.mp hr with g|g
  ·exact oI.1 r g
  ·exact oF r g
 have lU:(La.kal k n++Fr).length=n+h:=by rw[wu,oI.2,lF]
 have oG:La.OkM k (n+h) (augM A B):=fun r hr=>by
  unfold augM at hr;obtain⟨q,hq,e⟩:=wV hr;rw[vy]at e;rw[wr]at hq;have o1:=oA _ (we (l:=A) (n:=q) (by omega));have o2:=oB _ (we (l:=B) (n:=q) (by omega));rw[← e];exact⟨by rw[wu,o1.1,o2.1],fun x hx=>(wo.mp hx).elim (o1.2 x) (o2.2 x)⟩
 have lG:(augM A B).length=n:=by unfold augM;rw[wr];omega
 have e1:=JH (a:=n) hk φ oG oU lU (i:=i) (j:=j) (by omega) hj;rw[show rulM k n A B Fr=kad k n (augM A B) (La.kal k n++Fr)from rfl,e1,JH (a:=n) hk φ oB oF lF (by omega) hj];have ha:i<A.length:=by omega
 have hb:i<B.length:=by omega
 have eg:(augM A B).getD i []=A[i]++B[i]:=by rw[wb,JX (wa ha) (wa hb)];rfl
 have ea:A.getD i []=A[i]:=by rw[wb,wa ha];rfl
 have eb:B.getD i []=B[i]:=by rw[wb,wa hb];rfl
 have la:=(oA _ (we ha)).1;have lb:=(oB _ (we hb)).1;have sp:∀(u v:Nat->F) m,La.dot (n+m) u v=La.dot n u v+La.dot m (fun l=>u (n+l)) (fun l=>v (n+l)):=by
  intro u v m
  induction m with
  | zero=>show La.dot n u v=La.dot n u v+0;grind
  | succ m ih =>
   show La.dot (n+m) u v+u (n+m)*v (n+m)=La.dot n u v +(La.dot m _ _+u (n+m)*v (n+m));rw[ih];grind
 rw[sp,eg,eb];have nvU:∀ p j,p<n->La.nv φ ((La.kal k n).getD p []) j=if j=p then 1 else 0:=fun p j hp=>by
  have e:(La.kal k n).getD p []=La.kak k n p:=by
   unfold La.kal;rw[wb,wf,ve hp];rfl
  rw[e,La.zgb hp]
  rfl
 have nl:∀ l,l<n->La.nv φ (A[i]++B[i]) l=La.nv φ A[i] l:=fun l hl=>by
  have h1:l<A[i].length:=by omega
  rw[La.yp φ (show(A[i]++B[i])[l]?=some A[i][l] by rw[vo h1];exact wa h1),La.yp φ (wa h1)]
 have nr:∀ l,l<h->La.nv φ (A[i]++B[i]) (n+l)=La.nv φ B[i] l:=fun l hl=>by
  have h1:l<B[i].length:=by omega
  rw[La.yp φ (show(A[i]++B[i])[n+l]?=some B[i][l] by rw[vg (by omega),la,vz];exact wa h1),La.yp φ (wa h1)]
 congr 1
 ·rw[La.zgz (l:=j) hj fun q hq ne=>by
   have t2:(La.kal k n++Fr).getD q [] =(La.kal k n).getD q []:=by rw[wb,vo (by rw[oI.2];exact hq),wb]
   rw[t2,nvU q j hq,if_neg (fun e=>ne e.symm)];grind]
  have t2:(La.kal k n++Fr).getD j [] =(La.kal k n).getD j []:=by rw[wb,vo (by rw[oI.2];exact hj),wb]
  rw[t2,nvU j j hj,if_pos rfl,nl j hj];show _=La.nv φ (A.getD i []) j;rw[ea];grind
 ·refine La.yA fun l hl=>?_
  have t2:(La.kal k n++Fr).getD (n+l) []=Fr.getD l []:=by rw[wb,vg (by rw[oI.2];omega),oI.2,vz,wb]
  rw[nr l hl,t2]
theorem zeA{n:Nat}{A B:TB}(oA:La.OkM k n A)(lA:A.length=n)(oB:La.OkM k n B)(lB:B.length=n):La.OkM k n (adT k A B)/\(adT k A B).length=n/\∀ i j,i<n->tv φ (adT k A B) i j=tv φ A i j+tv φ B i j:=by
 refine⟨fun r hr=>?_,by unfold adT;rw[wr];omega,fun i j hi=>?_⟩
 ·unfold adT at hr;obtain⟨i,hi,e⟩:=wV hr;rw[vy]at e;rw[wr]at hi;have o1:=oA _ (we (l:=A) (n:=i) (by omega));have o2:=oB _ (we (l:=B) (n:=i) (by omega));rw[← e];exact⟨(La.xO (o1.1.trans o2.1.symm)).trans o1.1,La.YW hk o1.2 o2.2⟩
 ·have ha:i<A.length:=by omega
  have hp:i<B.length:=by omega
  have o1:=oA _ (we ha);have o2:=oB _ (we hp);have e1:(adT k A B).getD i []=La.addR k A[i] B[i]:=by rw[wb,zdW (wa ha) (wa hp)];rfl
  have e2:A.getD i []=A[i]:=by rw[wb,wa ha];rfl
  have e3:B.getD i []=B[i]:=by rw[wb,wa hp];rfl
  show La.nv φ _ j=La.nv φ _ j+La.nv φ _ j;rw[e1,La.Jw φ o1.2 o2.2 (o1.1.trans o2.1.symm),e2,e3]
omit hk
theorem zf4{R:Type}[Lean.Grind.CommRing R](p q p' q':La.PSr R){n:Nat}(n1:1<=n)(n4:n<=4)(zp:∀ t,n<t->p t=0)(zq:∀ t,n<t->q t=0)(zp':∀ t,n<t->p' t=0)(zq':∀ t,n<t->q' t=0)(ep:∀ i,i<=n->p' i=p (n - i))(eq:∀ i,i<=n->q' i=q (n - i)){j:Nat}(hj:j<=n+n):La.pmu j p' q'=La.pmu (n+n - j) p q:=by
 have z0:La.pmu 0 p q=p 0*q 0:=rfl
 rcases (by omega:n=1\/n=2\/n=3\/n=4)with rfl|rfl|rfl|rfl
 ·have a:=ep 0 (by omega);have b:=ep 1 (by omega);have c:=eq 0 (by omega);have d:=eq 1 (by omega);have z1:=zp 2 (by omega);have z2:=zq 2 (by omega);have z3:=zp' 2 (by omega);have z4:=zq' 2 (by omega)
  rcases (by omega:j=0\/j=1\/j=2)with rfl|rfl|rfl <;> simp only[La.pmu,La.ptl] <;> grind
 ·have a:=ep 0 (by omega);have b:=ep 1 (by omega);have b2:=ep 2 (by omega);have c:=eq 0 (by omega);have d:=eq 1 (by omega);have d2:=eq 2 (by omega);have z1:=zp 3 (by omega);have z2:=zq 3 (by omega);have z3:=zp' 3 (by omega);have z4:=zq' 3 (by omega);have y1:=zp 4 (by omega);have y2:=zq 4 (by omega);have y3:=zp' 4 (by omega);have y4:=zq' 4 (by omega)
  rcases (by omega:j=0\/j=1\/j=2\/j=3\/j=4)with rfl|rfl|rfl|rfl|rfl <;> simp only[La.pmu,La.ptl] <;> grind
 ·have a:=ep 0 (by omega);have b:=ep 1 (by omega);have b2:=ep 2 (by omega);have b3:=ep 3 (by omega);have c:=eq 0 (by omega);have d:=eq 1 (by omega);have d2:=eq 2 (by omega);have d3:=eq 3 (by omega);have z1:=zp 4 (by omega);have z2:=zq 4 (by omega);have z3:=zp' 4 (by omega);have z4:=zq' 4 (by omega);have y1:=zp 5 (by omega);have y2:=zq 5 (by omega);have y3:=zp' 5 (by omega);have y4:=zq' 5 (by omega);have x1:=zp 6 (by omega);have x2:=zq 6 (by omega);have x3:=zp' 6 (by omega);have x4:=zq' 6 (by omega)
  rcases (by omega:j=0\/j=1\/j=2\/j=3\/j=4\/j=5\/j=6)with rfl|rfl|rfl|rfl|rfl|rfl|rfl <;> simp only[La.pmu,La.ptl] <;> grind
 ·have a:=ep 0 (by omega);have b:=ep 1 (by omega);have b2:=ep 2 (by omega);have b3:=ep 3 (by omega);have b4:=ep 4 (by omega);have c:=eq 0 (by omega);have d:=eq 1 (by omega);have d2:=eq 2 (by omega);have d3:=eq 3 (by omega);have d4:=eq 4 (by omega);have z1:=zp 5 (by omega);have z2:=zq 5 (by omega);have z3:=zp' 5 (by omega);have z4:=zq' 5 (by omega);have y1:=zp 6 (by omega);have y2:=zq 6 (by omega);have y3:=zp' 6 (by omega);have y4:=zq' 6 (by omega);have x1:=zp 7 (by omega);have x2:=zq 7 (by omega);have x3:=zp' 7 (by omega);have x4:=zq' 7 (by omega);have w1:=zp 8 (by omega);have w2:=zq 8 (by omega);have w3:=zp' 8 (by omega);have w4:=zq' 8 (by omega)
  rcases (by omega:j=0\/j=1\/j=2\/j=3\/j=4\/j=5\/j=6\/j=7\/j=8)with rfl|rfl|rfl|rfl|rfl|rfl|rfl|rfl|rfl <;> simp only[La.pmu,La.ptl] <;> grind
end
theorem zfY{k:Int}(hk:kab k){F:Type}[Lean.Grind.Field F](φ:La.Kf k F){n:Nat}{M:TB}(oM:La.OkM k n M)(lM:M.length=n){xs:List Nb}(g:La.GrP k n M xs){f:La.PSr F}(h:Dt.Dl n (Dt.NM (tv φ M)) f):(∀ i,i<=n->La.nv φ xs i=f (n - i))/\(∀ i,n<i->La.nv φ xs i=0)/\∀ t,n<t->f t=0:=by
 have hw:=Dt.dl_wgr (W:=M.map fun r=>r.map φ.to) n (by rw[wc,lM];exact wl n) (fun r hr=>by
  obtain⟨x,hx,rfl⟩:=wk.mp hr;rw[wc,(oM x hx).1];exact wl n) f (by rw[zg6];exact h)
 refine⟨fun i hi=>by rw[zhZ hk φ g hi,hw],fun i hi=>?_,fun t ht=>by rw[hw t,wb,vA (by rw[La.yC];omega)];rfl⟩;rw[g F φ i,wb,vA (by rw[vE,La.yC];omega)];rfl
theorem zdn{k:Int}(hk:kab k){n:Nat}(n1:1<=n)(n4:n<=4){A G L M1 M2 T:TB}(o1:La.OkM k n M1)(l1:M1.length=n)(o2:La.OkM k n M2)(l2:M2.length=n)(oT:La.OkM k (n+n) T)(lT:T.length=n+n)
  (e1:∀(F:Type) [Lean.Grind.Field F] (φ:La.Kf k F) (i j:Nat),i<n->j<n->tv φ M1 i j=tv φ A i j+tv φ G i j) (e2:∀(F:Type) [Lean.Grind.Field F] (φ:La.Kf k F) (i j:Nat),i<n->j<n->tv φ M2 i j=tv φ A i j+tv φ L i j)
  (eT:∀(F:Type) [Lean.Grind.Field F] (φ:La.Kf k F) (i j:Nat),i<n+n->j<n+n->tv φ T i j=Dt.putT n (tv φ A) (tv φ G) (tv φ L) i j) {y1 y2 xs zs:List Nb} (g1:La.GrP k n M1 y1) (g2:La.GrP k n M2 y2) (g:La.GrP k (n+n) T xs) (ox:La.OkR k xs) (oz:La.OkR k zs) (lx:xs.length=n+n+1) (lz:zs.length=n+n+1)
  (ez:∀(F:Type) [Lean.Grind.Field F] (φ:La.Kf k F) (j:Nat),La.nv φ zs j=La.pmu j (La.nv φ y1) (La.nv φ y2)):xs=zs:=by
 obtain⟨F,_,_,⟨φ⟩⟩:=La.qD hk;have Lc:=Dt.loc0 (R:=F);obtain⟨f1,h1,_⟩:=Dt.Dl.ex Lc (Dt.NM_nr (tv φ M1) n);obtain⟨f2,h2,_⟩:=Dt.Dl.ex Lc (Dt.NM_nr (tv φ M2) n);have nmc:∀ {P Q:Nat->Nat->F} {i j:Nat},P i j=Q i j->Dt.NM P i j=Dt.NM Q i j:=fun {P Q i j} e=>by show _ + -(La.pX*La.cst (P i j))=_ + -(La.pX*La.cst (Q i j));rw[e]
 have h1':=h1.congr (Y:=Dt.NM fun i j=>tv φ A i j+tv φ G i j) fun i j hi hj=>nmc (e1 F φ i j hi hj)
 have h2':=h2.congr (Y:=Dt.NM fun i j=>tv φ A i j+tv φ L i j) fun i j hi hj=>nmc (e2 F φ i j hi hj)
 have hT:=(Dt.dl_put n (tv φ A) (tv φ G) (tv φ L) h1' h2').congr (Y:=Dt.NM (tv φ T)) fun i j hi hj=>nmc (eT F φ i j hi hj).symm
 obtain⟨a1,a2,a3⟩:=zfY hk φ o1 l1 g1 h1;obtain⟨b1,b2,b3⟩:=zfY hk φ o2 l2 g2 h2;obtain⟨c1,c2,c3⟩:=zfY hk φ oT lT g hT;refine La.zfi φ ox oz (lx.trans lz.symm) fun j=>?_
 rcases wS j (n+n+1)with hj|hj
 ·rw[c1 j (by omega),ez F φ j];exact(zf4 f1 f2 (La.nv φ y1) (La.nv φ y2) n1 n4 a3 b3 a2 b2 a1 b1 (show j<=n+n by omega)).symm
 ·rw[La.yl φ (by omega),La.yl φ (by omega)]
end L2
namespace L2
open PySem PySem.Spec PyProof.Rows Nm
def ngT(k:Int)(n:Nat)(M:TB):TB:=M.map fun r=>subR k (zerN k n) r
def blT(k:Int)(M N:TB):TB:=vm (fun l r=>l++subR k r l) M N
def ptT(k:Int)(n:Nat)(A B C Fr Lw:TB):TB:=augM A (kad k n B Fr)++blT k (ngT k n (kad k n Lw C)) (rulM k n A B Fr)
def goR(k:Int)(A B C Fr Lw:TB)(x g:List Nb):List Nb:=La.addR k (imgM k A x) (imgM k B (imgM k Fr g))++La.addR k (La.addR k (imgM k A g) (imgM k B (imgM k Fr g))) (imgM k Lw (subR k (imgM k C g) (imgM k C x)))
theorem zdQ{k:Int}(hk:kab k)(n:Nat):La.OkR k (zerN k n)/\(zerN k n).length=n:=⟨fun y hy=>by rw[vL hy];exact La.zR hk 0,by unfold zerN;rw[vh]⟩
theorem Jn{M:TB}{i:Nat}(h:i<M.length):M.getD i []=M[i]:=by rw[wb,wa h];rfl
theorem zab{k:Int}(hk:kab k){n:Nat}(n4:n<=4){M:TB}(oM:La.OkM k n M)(wM:∀ r∈M,∀ x∈r,whk k 20 x){xs:List Nb}(ox:La.OkR k xs)(lx:xs.length=n+1)(g:La.GrP k n M xs):∀ x∈xs,nsm 1008 x:=fun x hx=>by
 by_cases k0:k=0
 ·subst k0;obtain⟨j,hj,ej⟩:=wV hx
  let W:List (List Int):=M.map fun r=>r.map toI
  have e1:(M.map fun r=>r.map La.kfRat.to)=W.map fun r=>r.map (La.ι:Int->Rat):=by
   show _ =(M.map fun r=>r.map toI).map _;rw[vq];refine wW fun r hr=>?_
   show r.map _ =(r.map toI).map _;rw[vq];refine wW fun y hy=>?_
   have:=(zcw rfl (wM r hr y hy)).1;show La.kfRat.to y=La.ι (toI y);rw[← La.kfRat.num (toI y),← this]
  have e2:=g Rat La.kfRat j;rw[e1,← La.Xf La.hm_ι W n,← gZ,La.yp La.kfRat (wa hj),ej]at e2;have lW:((La.wgr W n).reverse).length=n+1:=by rw[vE,ZB]
  have hj2:j <((La.wgr W n).reverse).length:=by omega
  have e3:(((La.wgr W n).reverse).map (La.ι:Int->Rat)).getD j 0=La.ι (((La.wgr W n).reverse)[j]):=by
   rw[wb,wf,wa hj2];rfl
  rw[e3,← La.kfRat.num]at e2;have e4:=La.kfRat.inj (ox x hx) (La.zR hk _) e2;rw[e4];have mem:((La.wgr W n).reverse)[j]∈La.wgr W n:=uR.mp (we hj2);have sm:=zfk (m:=20) (W:=W) (fun r hr=>by
   obtain⟨q,hq,rfl⟩:=wk.mp hr;refine⟨by rw[wc,(oM q hq).1];exact n4,fun w hw=>?_⟩;obtain⟨y,hy,rfl⟩:=wk.mp hw;exact(zcw rfl (wM q hq y hy)).2) n n4 _ mem
  refine yM hk (sm.mono ?_) (by decide);have:n *(5 *(20+4)+6)<=4 *(5 *(20+4)+6):=wH _ n4;omega
 ·exact(Ja hk k0 (ox x hx)).mono (by decide)
theorem Zc{k:Int}(hk:kab k){a b c d e:Nat}{M N:TB}(oM:La.OkM k d M)(oN:La.OkM k c N)(hd:d<=2^e)(wM:∀ r∈M,∀ x∈r,whk k a x)(wN:∀ r∈N,∀ x∈r,whk k b x):∀ r∈kad k c M N,∀ x∈r,whk k (a+b+e) x:=fun r hr x hx=>by
 unfold kad at hr;obtain⟨m,hm,rfl⟩:=wk.mp hr;obtain⟨q,hq,rfl⟩:=wk.mp hx;exact zeV hk (oM m hm).2 (qo oN q hq).2 (oM m hm).1 hd (wM m hm) (zbL oN wN q hq)
theorem zfr{k:Int}{a b n:Nat}{M N:TB}(oM:La.OkM k n M)(oN:La.OkM k n N)(wM:∀ r∈M,∀ x∈r,whk k a x)(wN:∀ r∈N,∀ x∈r,whk k b x):∀ r∈adT k M N,∀ x∈r,whk k (max a b+1) x:=fun r hr x hx=>by
 unfold adT at hr;obtain⟨i,hi,e⟩:=wV hr;rw[vy]at e;rw[wr]at hi;have m1:=we (l:=M) (n:=i) (by omega);have m2:=we (l:=N) (n:=i) (by omega);rw[← e]at hx;exact zfN (oM _ m1).2 (oN _ m2).2 (wM _ m1) (wN _ m2) x hx
theorem ze6{k:Int}(n:Nat):∀ r∈La.kal k n,∀ x∈r,whk k 2 x:=fun r hr x hx=>by
 unfold La.kal at hr;obtain⟨i,_,rfl⟩:=wk.mp hr;unfold La.kak at hx;obtain⟨j,_,rfl⟩:=wk.mp hx;intro k0
 split
 ·exact⟨1,rfl,by decide⟩
 ·exact⟨0,rfl,by decide⟩
section
variable{k:Int}(hk:kab k){n h s m:Nat}(m7:61<=m){A B C Fr Lw:TB}(tA:TOk k n n m A)(tB:TOk k n h m B)(tC:TOk k s n m C)(tF:TOk k h n m Fr)(tL:TOk k n s m Lw)
include hk m7 tA tB tC tF tL
theorem zhq:La.OkM k (n+n) (ptT k n A B C Fr Lw)/\(ptT k n A B C Fr Lw).length=n+n/\(∀(F:Type) [Lean.Grind.Field F] (φ:La.Kf k F) (i j:Nat),i<n+n->j<n+n->tv φ (ptT k n A B C Fr Lw) i j=Dt.putT n (tv φ A) (tv φ (kad k n B Fr)) (tv φ (kad k n Lw C)) i j) /\
  (h<=4->s<=4->n<=4->(∀ r∈A,∀ x∈r,whk k 14 x)->(∀ r∈B,∀ x∈r,whk k 14 x)->(∀ r∈C,∀ x∈r,whk k 14 x)->(∀ r∈Fr,∀ x∈r,whk k 2 x)->(∀ r∈Lw,∀ x∈r,whk k 2 x)->∀ r∈ptT k n A B C Fr Lw,∀ x∈r,whk k 20 x):=by
 have tG:=jl hk m7 tB tF;have tK:=jl hk m7 tL tC;have tI:=zaL ((Qe hk n).up m7) tF;have tU:=JR tA tB;have tR:TOk k n n _ (rulM k n A B Fr):=jl hk m7 tU tI;obtain⟨oz,lz⟩:=zdQ hk n;have lN:(ngT k n (kad k n Lw C)).length=n:=by unfold ngT;rw[wc];exact tK.len
 have gN:∀ {i:Nat} (hi:i<n),(ngT k n (kad k n Lw C))[i]'(by omega)=subR k (zerN k n) ((kad k n Lw C)[i]'(by rw[tK.len];exact hi)):=fun {i} hi=>Ga (fun r=>subR k (zerN k n) r)
 have oN:La.OkM k n (ngT k n (kad k n Lw C)):=fun r hr=>by
  obtain⟨x,hx,rfl⟩:=wk.mp hr;have o:=tK.ok x hx;exact⟨(ZX hk (lz.trans o.1.symm)).trans lz,JM hk oz o.2⟩
 have lU:(augM A (kad k n B Fr)).length=n:=by unfold augM;rw[wr,tA.len,tG.len];omega
 have lb:(blT k (ngT k n (kad k n Lw C)) (rulM k n A B Fr)).length=n:=by unfold blT;rw[wr,lN,tR.len];omega
 have lT:(ptT k n A B C Fr Lw).length=n+n:=by unfold ptT;rw[wu,lU,lb]
 have gU:∀ {i:Nat} (hi:i<n),(augM A (kad k n B Fr))[i]'(by omega)=A[i]'(by rw[tA.len];exact hi) ++(kad k n B Fr)[i]'(by rw[tG.len];exact hi):=fun {i} hi=>vy
 have gB:∀ {i:Nat} (hi:i<n),(blT k (ngT k n (kad k n Lw C)) (rulM k n A B Fr))[i]'(by omega) =(ngT k n (kad k n Lw C))[i]'(by omega)++subR k ((rulM k n A B Fr)[i]'(by rw[tR.len];exact hi)) ((ngT k n (kad k n Lw C))[i]'(by omega)):=fun {i} hi=>vy
 have oB':∀ {i:Nat} (hi:i<n),((ngT k n (kad k n Lw C))[i]'(by omega)).length=n/\La.OkR k ((ngT k n (kad k n Lw C))[i]'(by omega)):=fun hi=>oN _ (we _)
 have oR':∀ {i:Nat} (hi:i<n),((rulM k n A B Fr)[i]'(by rw[tR.len];exact hi)).length=n/\La.OkR k ((rulM k n A B Fr)[i]'(by rw[tR.len];exact hi)):=fun hi=>tR.ok _ (we _)
 have oA':∀ {i:Nat} (hi:i<n),(A[i]'(by rw[tA.len];exact hi)).length=n/\La.OkR k (A[i]'(by rw[tA.len];exact hi)):=fun hi=>tA.ok _ (we _)
 have oG':∀ {i:Nat} (hi:i<n),((kad k n B Fr)[i]'(by rw[tG.len];exact hi)).length=n/\La.OkR k ((kad k n B Fr)[i]'(by rw[tG.len];exact hi)):=fun hi=>tG.ok _ (we _)
 have oK':∀ {i:Nat} (hi:i<n),((kad k n Lw C)[i]'(by rw[tK.len];exact hi)).length=n/\La.OkR k ((kad k n Lw C)[i]'(by rw[tK.len];exact hi)):=fun hi=>tK.ok _ (we _)
 refine⟨fun r hr=>?_,lT,fun F _ φ i j hi hj=>?_,fun h4 s4 n4 wA wB wC wF wL r hr x hx=>?_⟩
 ·rcases wo.mp hr with g|g
  ·obtain⟨i,hi,rfl⟩:=wV g;have hi':i<n:=by omega
   rw[gU hi'];exact⟨by rw[wu,(oA' hi').1,(oG' hi').1],fun x hx=>(wo.mp hx).elim ((oA' hi').2 x) ((oG' hi').2 x)⟩
  ·obtain⟨i,hi,rfl⟩:=wV g;have hi':i<n:=by omega
   rw[gB hi'];have o1:=oB' hi';have o2:=oR' hi';exact⟨by rw[wu,o1.1,ZX hk (o2.1.trans o1.1.symm),o2.1],fun x hx=>(wo.mp hx).elim (o1.2 x) (JM hk o2.2 o1.2 x)⟩
 ·unfold Dt.putT
  rcases wS i n with hi'|hi'
  ·rw[if_pos hi'];have e:(ptT k n A B C Fr Lw).getD i []=A[i]'(by rw[tA.len];exact hi') ++(kad k n B Fr)[i]'(by rw[tG.len];exact hi'):=by
    rw[wb];show(augM A (kad k n B Fr)++blT k (ngT k n (kad k n Lw C)) (rulM k n A B Fr))[i]?.getD []=_;rw[vo (by omega),wa (by omega),← gU hi'];rfl
   show La.nv φ _ j=_;rw[e,La.Xp,(oA' hi').1]
   split
   ·show _=La.nv φ (A.getD i []) j;rw[Jn (by rw[tA.len];exact hi')]
   ·show _=La.nv φ ((kad k n B Fr).getD i []) (j - n);rw[Jn (by rw[tG.len];exact hi')]
  ·rw[if_neg (by omega)];obtain⟨i',rfl⟩ : ∃ i',i=n+i':=⟨i - n,by omega⟩;have hi2:i'<n:=by omega
   rw[vz];have e:(ptT k n A B C Fr Lw).getD (n+i') [] =(ngT k n (kad k n Lw C))[i']'(by omega)++subR k ((rulM k n A B Fr)[i']'(by rw[tR.len];exact hi2)) ((ngT k n (kad k n Lw C))[i']'(by omega)):=by
    rw[← gB hi2,wb];show(augM A (kad k n B Fr)++blT k (ngT k n (kad k n Lw C)) (rulM k n A B Fr))[n+i']?.getD []=_;rw[vg (by omega),lU,vz,wa (by omega)];rfl
   have o1:=oB' hi2;have o2:=oR' hi2;have o3:=oK' hi2;show La.nv φ _ j=_;have eN:∀ q,La.nv φ ((ngT k n (kad k n Lw C))[i']'(by omega)) q = -(tv φ (kad k n Lw C) i' q):=fun q=>by
    rw[gN hi2,zdM hk φ oz o3.2 (lz.trans o3.1.symm),zg1 hk φ];show _ = -(La.nv φ ((kad k n Lw C).getD i' []) q);rw[Jn (by rw[tK.len];exact hi2)];grind
   rw[e,La.Xp,o1.1]
   split
   ·exact eN j
   ·have hj':j - n<n:=by omega
    rw[zdM hk φ o2.2 o1.2 (o2.1.trans o1.1.symm),eN,← zhr hk φ tA.ok tA.len tB.ok tB.len tF.ok tF.len hi2 hj'];show _=La.nv φ ((rulM k n A B Fr).getD i' []) (j - n)+_;rw[Jn (by rw[tR.len];exact hi2)];grind
 ·have wG:=Zc hk tB.ok tF.ok (show h<=2^2 by omega) wB wF;have wK:=Zc hk tL.ok tC.ok (show s<=2^2 by omega) wL wC;have wU:∀ r∈augM A B,∀ x∈r,whk k 14 x:=fun r hr x hx=>by
   unfold augM at hr;obtain⟨i,hi,e⟩:=wV hr;rw[vy]at e;rw[wr]at hi;rw[← e]at hx
   rcases wo.mp hx with g|g
   ·exact wA _ (we _) x g
   ·exact wB _ (we _) x g
  have wI:∀ r∈La.kal k n++Fr,∀ x∈r,whk k 2 x:=fun r hr x hx=>by
   rcases wo.mp hr with g|g
   ·exact ze6 n r g x hx
   ·exact wF r g x hx
  have wR:∀ r∈rulM k n A B Fr,∀ x∈r,whk k 19 x:=Zc hk tU.ok tI.ok (show n+h<=2^3 by omega) wU wI;have wz:∀ x∈zerN k n,whk k 0 x:=fun x hx=>by
   rw[vL hx];exact fun _=>⟨0,rfl,by decide⟩
  have wN:∀ r∈ngT k n (kad k n Lw C),∀ x∈r,whk k 19 x:=fun r hr x hx=>by
   obtain⟨y,hy,rfl⟩:=wk.mp hr;exact zcn oz (tK.ok y hy).2 wz (wK y hy) x hx
  rcases wo.mp hr with g|g
  ·obtain⟨i,hi,rfl⟩:=wV g;have hi':i<n:=by omega
   rw[gU hi']at hx
   rcases wo.mp hx with g2|g2
   ·exact(wA _ (we _) x g2).mono (by decide)
   ·exact(wG _ (we _) x g2).mono (by decide)
  ·obtain⟨i,hi,rfl⟩:=wV g;have hi':i<n:=by omega
   rw[gB hi']at hx
   rcases wo.mp hx with g2|g2
   ·exact(wN _ (we _) x g2).mono (by decide)
   ·exact zcn (oR' hi').2 (oB' hi').2 (wR _ (we _)) (wN _ (we _)) x g2
theorem zgN{x g:List Nb}(ox:La.OkR k x)(lx:x.length=n)(og:La.OkR k g)(lg:g.length=n):(La.OkR k (imgM k A x)/\(imgM k A x).length=n)/\(La.OkR k (imgM k B (imgM k Fr g))/\(imgM k B (imgM k Fr g)).length=n)/\(La.OkR k (imgM k Fr g)/\(imgM k Fr g).length=h)/\(La.OkR k (imgM k A g)/\(imgM k A g).length=n)/\(La.OkR k (imgM k C g)/\(imgM k C g).length=s)/\(La.OkR k (imgM k C x)/\(imgM k C x).length=s)/\(La.OkR k (subR k (imgM k C g) (imgM k C x))/\(subR k (imgM k C g) (imgM k C x)).length=s)/\(La.OkR k (imgM k Lw (subR k (imgM k C g) (imgM k C x)))/\(imgM k Lw (subR k (imgM k C g) (imgM k C x))).length=n):=by
 have im:∀ {r c:Nat} {M:TB} {y:List Nb},TOk k r c m M->La.OkR k y->La.OkR k (imgM k M y)/\(imgM k M y).length=r:=fun {r c M y} t oy=>⟨fun z hz=>by
  obtain⟨q,hq,rfl⟩:=wk.mp hz;exact La.Xd hk (t.ok q hq).2 oy,by rw[← t.len];exact wc _⟩
 have f:=im tF og;have c1:=im tC og;have c2:=im tC ox;have d:La.OkR k (subR k (imgM k C g) (imgM k C x))/\(subR k (imgM k C g) (imgM k C x)).length=s:=⟨JM hk c1.1 c2.1,(ZX hk (c1.2.trans c2.2.symm)).trans c1.2⟩;exact⟨im tA ox,im tB f.1,f,im tA og,c1,c2,d,im tL d.1⟩
theorem zgU{x g:List Nb}(ox:La.OkR k x)(lx:x.length=n)(og:La.OkR k g)(lg:g.length=n):imgM k (ptT k n A B C Fr Lw) (x++g)=goR k A B C Fr Lw x g:=by
 obtain⟨F,_,_,⟨φ⟩⟩:=La.qD hk;obtain⟨oT,lT,eT,_⟩:=zhq hk m7 tA tB tC tF tL;obtain⟨⟨o1,l1⟩,⟨o2,l2⟩,⟨o3,l3⟩,⟨o4,l4⟩,⟨o5,l5⟩,⟨o6,l6⟩,⟨o7,l7⟩,⟨o8,l8⟩⟩:=zgN hk m7 tA tB tC tF tL ox lx og lg;have oxg:La.OkR k (x++g):=fun y hy=>(wo.mp hy).elim (ox y) (og y)
 have lxg:(x++g).length=n+n:=by rw[wu,lx,lg]
 have a1:=La.YW hk o1 o2;have b1:=(La.xO (k:=k) (l1.trans l2.symm)).trans l1;have a2:=La.YW hk o4 o2;have b2:=(La.xO (k:=k) (l4.trans l2.symm)).trans l4;have a3:=La.YW hk a2 o8;have b3:=(La.xO (k:=k) (b2.trans l8.symm)).trans b2;have oTi:La.OkR k (imgM k (ptT k n A B C Fr Lw) (x++g)):=fun z hz=>by
  obtain⟨q,hq,rfl⟩:=wk.mp hz;exact La.Xd hk (oT q hq).2 oxg
 have lTi:(imgM k (ptT k n A B C Fr Lw) (x++g)).length=n+n:=by rw[← lT];exact wc _
 have lgo:(goR k A B C Fr Lw x g).length=n+n:=by unfold goR;rw[wu,b1,b3]
 refine La.zfi φ oTi (fun y hy=>(wo.mp hy).elim (a1 y) (a3 y)) (lTi.trans lgo.symm) fun i=>?_
 rcases wS i (n+n)with hi|hi
 ·rw[qk hk oT oxg lxg];show La.dot (n+n) (fun j=>tv φ (ptT k n A B C Fr Lw) i j) (La.nv φ (x++g))=_;have sx:∀ j,j<n->La.nv φ (x++g) j=La.nv φ x j:=fun j hj=>by rw[La.Xp,if_pos (by omega)]
  have sg:∀ j,La.nv φ (x++g) (n+j)=La.nv φ g j:=fun j=>by rw[La.Xp,if_neg (by omega),lx,vz]
  have pG:∀ i',i'<n->∀ u:Nat->F,La.dot n (fun j=>tv φ (kad k n B Fr) i' j) u=La.dot h (La.nv φ (B.getD i' [])) (fun l=>La.dot n (La.nv φ (Fr.getD l [])) u):=fun i' hi' u=>by
   rw[La.Jy];exact La.yA fun j hj=>by rw[JH (a:=n) hk φ tB.ok tF.ok tF.len (by rw[tB.len];exact hi') hj]
  have pK:∀ i',i'<n->∀ u:Nat->F,La.dot n (fun j=>tv φ (kad k n Lw C) i' j) u=La.dot s (La.nv φ (Lw.getD i' [])) (fun l=>La.dot n (La.nv φ (C.getD l [])) u):=fun i' hi' u=>by
   rw[La.Jy];exact La.yA fun j hj=>by rw[JH (a:=n) hk φ tL.ok tC.ok tC.len (by rw[tL.len];exact hi') hj]
  have nBF:∀ i',i'<n->La.nv φ (imgM k B (imgM k Fr g)) i'=La.dot n (fun j=>tv φ (kad k n B Fr) i' j) (La.nv φ g):=fun i' hi'=>by
   rw[pG i' hi',qk hk tB.ok o3 l3];show La.dot h _ _=_;exact La.yA fun l _=>by rw[qk hk tF.ok og lg];rfl
  rw[zcN];unfold goR;rw[La.Xp,b1]
  rcases wS i n with hi'|hi'
  ·rw[if_pos hi',La.Jw φ o1 o2 (l1.trans l2.symm),nBF i hi',qk hk tA.ok ox lx];show _=La.dot n (fun j=>tv φ A i j) (La.nv φ x)+_
   congr 1
   ·refine La.yA fun j hj=>?_
    rw[sx j hj,eT F φ i j hi (by omega)];unfold Dt.putT;rw[if_pos hi',if_pos hj]
   ·refine La.yA fun j hj=>?_
    rw[sg j,eT F φ i (n+j) hi (by omega)];unfold Dt.putT;rw[if_pos hi',if_neg (by omega),vz]
  ·rw[if_neg (by omega)];obtain⟨i',rfl⟩ : ∃ i',i=n+i':=⟨i - n,by omega⟩;have hi2:i'<n:=by omega
   rw[vz,La.Jw φ a2 o8 (b2.trans l8.symm),La.Jw φ o4 o2 (l4.trans l2.symm),nBF i' hi2,qk hk tA.ok og lg,qk hk tL.ok o7 l7];show _=La.dot n (fun j=>tv φ A i' j) (La.nv φ g)+_+La.dot s (La.nv φ (Lw.getD i' [])) (La.nv φ (subR k (imgM k C g) (imgM k C x)));have e8:La.dot s (La.nv φ (Lw.getD i' [])) (La.nv φ (subR k (imgM k C g) (imgM k C x)))=La.dot n (fun j=>tv φ (kad k n Lw C) i' j) (La.nv φ g) + -1*La.dot n (fun j=>tv φ (kad k n Lw C) i' j) (La.nv φ x):=by
    rw[pK i' hi2,pK i' hi2,← La.zbS,← La.zdz];refine La.yA fun l _=>?_
    rw[zdM hk φ o5 o6 (l5.trans l6.symm),qk hk tC.ok og lg,qk hk tC.ok ox lx];show _ *(La.dot n _ _ - La.dot n _ _)=_
    grind
   have e1:La.dot n (fun j=>tv φ (ptT k n A B C Fr Lw) (n+i') j) (La.nv φ (x++g)) = -1*La.dot n (fun j=>tv φ (kad k n Lw C) i' j) (La.nv φ x):=by
    rw[← La.YB];refine La.yA fun j hj=>?_
    rw[sx j hj,eT F φ (n+i') j hi (by omega)];unfold Dt.putT;rw[if_neg (by omega),if_pos hj,vz]
    grind
   have e2:La.dot n (fun j=>tv φ (ptT k n A B C Fr Lw) (n+i') (n+j)) (fun j=>La.nv φ (x++g) (n+j))=La.dot n (fun j=>tv φ A i' j) (La.nv φ g)+La.dot n (fun j=>tv φ (kad k n B Fr) i' j) (La.nv φ g)+La.dot n (fun j=>tv φ (kad k n Lw C) i' j) (La.nv φ g):=by
    rw[← La.Jq,← La.Jq];refine La.yA fun j hj=>?_
    rw[sg j,eT F φ (n+i') (n+j) hi (by omega)];unfold Dt.putT;rw[if_neg (by omega),if_neg (by omega),vz,vz]
   rw[e1,e2,e8];grind
 ·rw[La.yl φ (by omega),La.yl φ (by omega)]
end
end L2
namespace KL
open PySem PySem.Spec PyProof.Rows L2 Nm
set_option maxHeartbeats 4000000
theorem zg0 (K:PySem.W.Frag):PySem.W.kitOne K (.type "int") (.type "int")=some true:=by unfold PySem.W.kitOne;rw[if_pos (by decide)]
theorem zgM (K:PySem.W.Frag):PySem.W.kitOne K (.type "int") (.type "bool")=some false:=by
 unfold PySem.W.kitOne;rw[if_neg (by decide)];show(if PySem.W.kitMeta "bool" = true then PySem.W.subIn K (.type "int") (.type "bool")else none)=some false;rw[if_pos (by decide +kernel)];show(PySem.fastBuiltinMro "int").map (·.contains (Value.type "bool"))=some false
 decide +kernel
theorem zgL (K:PySem.W.Frag):PySem.W.kitOne K (.type "tuple") (.type "tuple")=some true:=by unfold PySem.W.kitOne;rw[if_pos (by decide)]
section
variable{P:Program}{w:World}{K:PySem.W.Frag}{mg:Str->Option Value}{base:Heap}
theorem jT{a b:Int}(h0:0<=a)(h1:a<=2305843009213693952):IntMulOk a b:=IntMulOk.of_left (intBits_le_64 (by omega) (by omega))
def zbP:Sp:=fun vs H Q _=>∃(a b:Int),vs=[.int a,.int b]/\Q (.int ((vd a b:Nat):Int)) H
theorem zdX(i:Int):(if i<0 then -i else i) =(i.natAbs:Int):=by split <;> omega
theorem zh5 (D:Df K mg "common_divisor" Sh yO) (m_abs:mg "abs" = none):Kn P w K mg base "common_divisor" 1 Sh zbP:=by
 refine D.kn so (fun vs H Q E h=>?_) (fun f cdv A outer s H vs Q E hr h=>?_)
 ·obtain⟨a,b,rfl,_⟩:=h;rfl
 obtain⟨a,b,rfl,q⟩:=h;refine⟨_,(zc (zk (i:=2) so.nd rfl (.inl rfl) (zy XY rfl m_abs zef (za (pv 0) zb))) (zc (zk (i:=3) so.nd rfl (.inl rfl) (zy XY rfl m_abs zef (za (pv 1) zb))) (zc (JL PassesOwn.never (zQ zbW (pv 3) zd (kae _)) (zc (zk (i:=4) so.nd rfl (.inl rfl) (zh zN (pv 2) (pv 3))) (zc (zk (i:=2) so.nd rfl (.inl rfl) (pv 3)) (zg (zk (i:=3) so.nd rfl (.inl rfl) (pv 4)))))) (zg (zo (pv 2)))))),?_⟩;refine⟨_,rfl,a,rfl,_,rfl,b,rfl,?_⟩;rw[zdX,zdX];refine⟨fun m σ H'=>∃ l r o,σ=[some (.int a),some (.int b),some (.int l),some (.int r),o]/\H'=H/\0<=l/\0<=r/\vd l r=vd a b/\m=r.toNat,⟨_,_,_,none,rfl,rfl,ur _,ur _,by simp[gD],rfl⟩,?_⟩
 rintro m σ H' ⟨l,r,o,rfl,rfl,l0,r0,g,rfl⟩
 refine⟨_,rfl,rfl,_,rfl,?_⟩;refine ite2 (fun c=>?_) (fun c=>?_)
 ·have c':r≠0:=fun z=>by rw[z]at c;exact absurd c (by decide)
  have m0:=wp l (show 0<r by omega);have m1:=wv l (show 0<r by omega);refine⟨_,fun _ _ h=>h,?_⟩;exact⟨_,rfl,_,rfl,_,_,rfl,rfl,c',_,rfl,_,rfl,_,by omega,r,l.fmod r,_,rfl,rfl,r0,m0,(zbH l r).trans g,rfl⟩
 ·have c':r=0:=by
   rcases gi 0 r with h|h
   ·exact absurd (by have h':¬ V.int r=V.int 0:=fun z=>(by have:=V.int.inj z;omega);rw[decide_eq_false h'];rfl) c
   ·omega
  subst c';refine⟨_,rfl,?_⟩;have e:l =((vd a b:Nat):Int):=by rw[← g,Gu];omega
  show Q (.int l) H';rw[e];exact q
def qQ:Sp:=fun vs H Q _=>∃(t b:Int),vs=[.int t,.int b]/\b≠0/\∀ v H',Same H H'->RN H' (.q (vQ t b)) v->Q v H'
theorem zaU (hP:P.given.tree=none) (hS:base.NoSeer) (D:Df K mg "fraction" Si qB) (xH:Kn P w K mg base "common_divisor" 1 Sh zbP):Kn P w K mg base "fraction" 41 Si qQ:=by
 refine D.kn sZ (fun vs H Q E h=>?_) (fun f cdv A outer s H vs Q E hr h=>?_)
 ·obtain⟨a,b,rfl,_⟩:=h;rfl
 obtain⟨t,b,rfl,hb,q⟩:=h;refine⟨_,(zc (zk (i:=2) sZ.nd rfl (.inl rfl) (zu xH hr (za (pv 0) (za (pv 1) zb)))) (zc (yD (zQ zcf (pv 1) zd (kae _)) (zg (zk (i:=2) sZ.nd rfl (.inl rfl) (zdJ Qm (pv 2)))) zO) (zg (zo (xL (za (zh (zW hr (by decide) hP hS ⟨_,_,rfl,rfl,rfl,rfl,rfl⟩) (pv 0) (pv 2)) (za (zh (zW hr (by decide) hP hS ⟨_,_,rfl,rfl,rfl,rfl,rfl⟩) (pv 1) (pv 2)) zb))))))),?_⟩;obtain⟨e1,e2⟩:=YO (t:=t) hb;have cd:sg t b≠0:=zcm hb;have fin:∀ p,H p=none->Q (.ref p) (upd H p (.tup [.int (t.fdiv (sg t b)),.int (b.fdiv (sg t b))])):=fun p hp=>by
  rw[e1,e2];exact q _ _ (zf hp _) (RN.of_q ze)
 refine⟨_,rfl,_,rfl,t,b,rfl,?_⟩;refine⟨_,rfl,_,_,rfl,rfl,_,rfl,?_⟩;refine ite2 (fun c=>?_) (fun c=>?_)
 ·have c':b<0:=of_decide_eq_true c;have e:sg t b = -((vd t b:Nat):Int):=by unfold sg;rw[if_pos c']
  rw[e]at cd fin;exact⟨_,rfl,_,rfl,_,rfl,_,rfl,_,_,rfl,rfl,cd,_,rfl,_,rfl,_,_,rfl,rfl,cd,(by show 2<=sizeLine;decide),fin⟩
 ·have c':¬ b<0:=of_decide_eq_false (uv.mpr c);have e:sg t b =((vd t b:Nat):Int):=by unfold sg;rw[if_neg c']
  rw[e]at cd fin;exact⟨_,rfl,_,rfl,_,_,rfl,rfl,cd,_,rfl,_,rfl,_,_,rfl,rfl,cd,(by show 2<=sizeLine;decide),fin⟩
def Xm:Sp:=fun vs H Q _=>∃(p r:Int),vs=[.int p,.int r]/\Pr p/\0<r/\r<p/\∀ x,0<=x->x<p->p ∣ x*r - 1->Q (.int x) H
theorem zaV (hP:P.given.tree=none) (hS:base.NoSeer) (D:Df K mg "one_over" Sj qF):Kn P w K mg base "one_over" 41 Sj Xm:=by
 refine D.kn Sb (fun vs H Q E h=>?_) (fun f cdv A outer s H vs Q E hr h=>?_)
 ·obtain⟨a,b,rfl,_⟩:=h;rfl
 obtain⟨p,r,rfl,hp,r0,rp,q⟩:=h;refine⟨_,(zc (zk (i:=2) Sb.nd rfl (.inl rfl) (pv 0)) (zc (zk (i:=3) Sb.nd rfl (.inl rfl) (pv 1)) (zc (zk (i:=4) Sb.nd rfl (.inl rfl) zd) (zc (zk (i:=5) Sb.nd rfl (.inl rfl) zd) (zc (JL PassesOwn.never (zQ zbW (pv 3) zd (kae _)) (zc (zk (i:=6) Sb.nd rfl (.inl rfl) (zh (zW hr (by decide) hP hS ⟨_,_,rfl,rfl,rfl,rfl,rfl⟩) (pv 2) (pv 3))) (zc (zk (i:=7) Sb.nd rfl (.inl rfl) (zh jA (pv 2) (zh zL (pv 6) (pv 3)))) (zc (zk (i:=8) Sb.nd rfl (.inl rfl) (zh jA (pv 4) (zh zL (pv 6) (pv 5)))) (zc (zk (i:=2) Sb.nd rfl (.inl rfl) (pv 3)) (zc (zk (i:=4) Sb.nd rfl (.inl rfl) (pv 5)) (zc (zk (i:=3) Sb.nd rfl (.inl rfl) (pv 7)) (zg (zk (i:=5) Sb.nd rfl (.inl rfl) (pv 8)))))))))) (zg (zo (zh zN (pv 4) (pv 0))))))))),?_⟩;have p0:0<p:=by have:=hp.lo;omega
 refine⟨_,rfl,_,rfl,?_⟩;refine⟨fun m σ H'=>∃ l g ml mg o1 o2 o3,σ=[some (.int p),some (.int r),some (.int l),some (.int g),some (.int ml),some (.int mg),o1,o2,o3]/\H'=H/\OvInv p r l g ml mg/\m=g.toNat,⟨_,_,_,_,_,none,none,none,rfl,rfl,zbA hp r0 rp,rfl⟩,?_⟩
 rintro m σ H' ⟨l,g,ml,mg,o1,o2,o3,rfl,rfl,inv,rfl⟩
 have l0:=inv.l0;have l1:=inv.l1;have g0:=inv.g0;have g1:=inv.g1;refine⟨_,rfl,rfl,_,rfl,?_⟩;refine ite2 (fun c=>?_) (fun c=>?_)
 ·have c':g≠0:=fun z=>by rw[z]at c;exact absurd c (by decide)
  have ed:l.fdiv g=l / g:=Int.fdiv_eq_ediv_of_nonneg l g0;have d0:0<=l.fdiv g:=by rw[ed];exact GQ l0 g0
  have d1:l.fdiv g<=l:=by rw[ed];exact Int.ediv_le_self g l0
  have tn:=zda inv c';have tm:=zc4 (l:=l) g0 c';rw[← ed]at tn tm;refine⟨_,fun _ _ h=>h,?_⟩;refine⟨_,rfl,_,rfl,_,_,rfl,rfl,c',?_⟩;refine⟨_,rfl,_,rfl,_,rfl,_,_,rfl,rfl,jT d0 (by omega),_,_,rfl,rfl,_,rfl,_,rfl,_,rfl,_,_,rfl,rfl,jT d0 (by omega),_,_,rfl,rfl,_,rfl,_,rfl,_,rfl,_,rfl,_,tm,g,_,mg,_,_,_,_,rfl,rfl,tn,rfl⟩
 ·have c':g=0:=by
   rcases gi 0 g with h|h
   ·exact absurd (by have h':¬ V.int g=V.int 0:=fun z=>(by have:=V.int.inj z;omega);rw[decide_eq_false h'];rfl) c
   ·omega
  subst c';refine⟨_,rfl,_,rfl,_,_,rfl,rfl,(show p≠0 by omega),?_⟩;have em:ml.fmod p=ml % p:=gK ml (by omega);show Q (.int (ml.fmod p)) H';rw[em];exact q _ (uU _ (by omega)) (uD _ p0) (zfc inv p0)
def qi:Sp:=fun vs H Q _=>∃(k w:Int),vs=[.int k,.int w]/\∀ v H',Same H H'->RN H' (nnum k w) v->Q v H'
theorem zco (D:Df K mg "number" Sk YS):Kn P w K mg base "number" 1 Sk qi:=by
 refine D.kn zee (fun vs H Q E h=>?_) (fun f cdv A outer s H vs Q E hr h=>?_)
 ·obtain⟨k,w,rfl,_⟩:=h;rfl
 obtain⟨k,w,rfl,q⟩:=h;refine⟨_,(zc (yD (zQ xX (pv 0) zd (kae _)) (zg (zo (xL (za (pv 1) (za zd zb))))) zO) (zg (zo (zh zN (pv 1) (pv 0))))),?_⟩;refine⟨_,rfl,rfl,_,rfl,?_⟩;refine ite2 (fun c=>?_) (fun c=>?_)
 ·have e:k=0:=V.int.inj (of_decide_eq_true c);subst e;refine⟨_,rfl,(by show 2<=sizeLine;decide),fun p hp=>?_⟩;refine q _ _ (zf hp _) ?_;show RN _ (.q (w:Rat)) _;exact RN.of_q ze
 ·have c':¬ V.int k=V.int 0:=of_decide_eq_false (uv.mpr c);have e:k≠0:=fun z=>c' (by rw[z])
  refine⟨_,rfl,_,rfl,_,_,rfl,rfl,e,?_⟩;refine q _ _ (Same.refl H) ?_;unfold nnum;rw[if_neg e];exact RN.of_z
structure Two(H:Hp)(k:Int)(x y:Nb)(a b:V):Prop where
 kd:kab k
 xo:x.ok k
 yo:y.ok k
 xs:nsm 60000000 x
 ys:nsm 60000000 y
 xr:RN H x a
 yr:RN H y b
def jo(f:Int->Nb->Nb->Nb):Sp:=fun vs H Q _=>∃(k:Int)(x y:Nb)(a b:V),vs=[.int k,a,b]/\Two H k x y a b/\∀ v H',Same H H'->RN H' (f k x y) v->Q v H'
theorem Zw{H:Hp}{k:Int}{x y:Nb}{a b:V}(T:Two H k x y a b) :
  (k=0/\∃ r s pa pb,x=.q r/\y=.q s/\a=.ref pa/\b=.ref pb/\H pa=some (.tup [.int r.num,.int (r.den:Int)])/\H pb=some (.tup [.int s.num,.int (s.den:Int)])/\Sm 60000000 r.num/\Sm 60000000 (r.den:Int)/\Sm 60000000 s.num/\Sm 60000000 (s.den:Int)) \/
  (k≠0/\Pr k/\∃ i j,x=.z i/\y=.z j/\a=.int i/\b=.int j/\0<=i/\i<k/\0<=j/\j<k):=by
 obtain⟨kd,xo,yo,xs,ys,xr,yr⟩:=T;cases x with
 | q r =>
  have k0:k=0:=xo;cases y with
  | q s =>
   obtain⟨pa,ea,ha⟩:=xr.q;obtain⟨pb,eb,hb⟩:=yr.q;exact .inl ⟨k0,r,s,pa,pb,rfl,rfl,ea,eb,ha,hb,xs.1,xs.2,ys.1,ys.2⟩
  | z j=>exact absurd k0 yo.1
 | z i =>
  cases y with
  | q s=>exact absurd (show k=0 from yo) xo.1
  | z j =>
   refine .inr ⟨xo.1,?_,i,j,rfl,rfl,xr.z,yr.z,xo.2.1,xo.2.2,yo.2.1,yo.2.2⟩
   rcases kd with h|h
   ·exact absurd h xo.1
   ·exact h
theorem xA{m n:Nat}{a b:Int}(ha:Sm m a)(hb:Sm n b)(h:m+n<=134217728:=by decide):IntMulOk a b:=ha.mulOk hb h
theorem zbQ(r s:Rat):(r.den:Int) *(s.den:Int)≠0:=uV (xV r) (xV s)
def zc7:Sp:=fun vs H Q _=>∃(k:Int)(x y:Nb)(a b:V),vs=[.int k,a,b]/\Two H k x y a b/\y≠nnum k 0/\∀ v H',Same H H'->RN H' (ndiv k x y) v->Q v H'
theorem zf6 (D:Df K mg "over" Sl zbB) (ZT:Kn P w K mg base "fraction" 41 Si qQ) (jq:Kn P w K mg base "number" 1 Sk qi) (zbT:Kn P w K mg base "one_over" 41 Sj Xm):Kn P w K mg base "over" 42 Sl zc7:=by
 refine D.kn zgF (fun vs H Q E h=>?_) (fun f cdv A outer s H vs Q E hr h=>?_)
 ·obtain⟨k,x,y,a,b,rfl,_⟩:=h;rfl
 obtain⟨k,x,y,a,b,rfl,T,ne,q⟩:=h;refine⟨_,(zc (yD (zQ (zfl hr) (pv 2) (zu jq hr (za (pv 0) (za zd zb))) (kae _)) (zg zfa) zO) (zc (yD (zQ xX (pv 0) zd (kae _)) (zg (zo (zu ZT hr (za (zh zL (zD zE (pv 1) zd) (zD zE (pv 2) zd)) (za (zh zL (zD zE (pv 1) zd) (zD zE (pv 2) zd)) zb))))) zO) (zg (zo (zh zN (zh zL (pv 1) (zu zbT hr (za (pv 0) (za (pv 2) zb)))) (pv 0)))))),?_⟩;refine⟨_,rfl,_,rfl,k,0,rfl,fun v0 H0 g0 r0=>?_⟩;refine⟨toD y,toD (nnum k 0),T.yr.mono g0,r0,zaA _,zaA _,vp (uG _ _) (vp (QD y) (by decide)),_,rfl,?_⟩;show if PyData.eqv (toD y) (toD (nnum k 0))=true then _ else _
 rw[zdA,decide_eq_false ne];refine iteF ?_
 rcases Zw T with⟨rfl,r,s,pa,pb,rfl,rfl,rfl,rfl,ha,hb,rn,rd,sn,sd⟩|⟨k0,hp,i,j,rfl,rfl,rfl,rfl,i0,ik,j0,jk⟩
 ·have ha':=g0 _ _ ha;have hb':=g0 _ _ hb;have s0:s≠0:=fun z=>ne (by rw[z];rfl)
  refine⟨_,rfl,rfl,_,rfl,iteT ?_⟩;refine⟨_,rfl,pa,_,_,_,rfl,rfl,SqT.of ha',rfl,_,rfl,pb,_,_,_,rfl,rfl,SqT.of hb',rfl,_,_,rfl,rfl,xA rn sd,_,rfl,pa,_,_,_,rfl,rfl,SqT.of ha',rfl,_,rfl,pb,_,_,_,rfl,rfl,SqT.of hb',rfl,_,_,rfl,rfl,xA rd sn,_,_,rfl,uV (xV r) (zhm s0),fun v H' g h=>?_⟩;rw[zgl]at h;exact q v H' (g0.trans g) h
 ·have j1:j≠0:=fun z=>ne (by unfold nnum;rw[if_neg k0,z,GV])
  refine⟨_,rfl,rfl,_,rfl,?_⟩;rw[decide_eq_false (show ¬ V.int k=V.int 0 from fun z=>k0 (V.int.inj z))];refine iteF ?_;refine⟨_,rfl,_,rfl,_,rfl,k,j,rfl,hp,by omega,jk,fun x x0 xk hx=>?_⟩;refine⟨_,_,rfl,rfl,jT i0 (by have:=hp.hi;omega),_,rfl,_,_,rfl,rfl,k0,?_⟩;refine q _ _ g0 ?_;show RN _ (.z ((i*zinv k j).fmod k)) _;rw[zdk x0 xk hx];exact RN.of_z
theorem zeW (D:Df K mg "minus" Sl Qc) (ZT:Kn P w K mg base "fraction" 41 Si qQ):Kn P w K mg base "minus" 42 Sl (jo nsub):=by
 refine D.kn ze8 (fun vs H Q E h=>?_) (fun f cdv A outer s H vs Q E hr h=>?_)
 ·obtain⟨k,x,y,a,b,rfl,_⟩:=h;rfl
 obtain⟨k,x,y,a,b,rfl,T,q⟩:=h;refine⟨_,(zc (yD (zQ xX (pv 0) zd (kae _)) (zg (zo (zu ZT hr (za (zh jA (zh zL (zD zE (pv 1) zd) (zD zE (pv 2) zd)) (zh zL (zD zE (pv 2) zd) (zD zE (pv 1) zd))) (za (zh zL (zD zE (pv 1) zd) (zD zE (pv 2) zd)) zb))))) zO) (zg (zo (zh zN (zh jA (pv 1) (pv 2)) (pv 0))))),?_⟩
 rcases Zw T with⟨rfl,r,s,pa,pb,rfl,rfl,rfl,rfl,ha,hb,rn,rd,sn,sd⟩|⟨k0,hp,i,j,rfl,rfl,rfl,rfl,i0,ik,j0,jk⟩
 ·refine⟨_,rfl,rfl,_,rfl,iteT ?_⟩;refine⟨_,rfl,pa,_,_,_,rfl,rfl,SqT.of ha,rfl,_,rfl,pb,_,_,_,rfl,rfl,SqT.of hb,rfl,_,_,rfl,rfl,xA rn sd,_,rfl,pb,_,_,_,rfl,rfl,SqT.of hb,rfl,_,rfl,pa,_,_,_,rfl,rfl,SqT.of ha,rfl,_,_,rfl,rfl,xA sn rd,_,_,rfl,rfl,_,rfl,pa,_,_,_,rfl,rfl,SqT.of ha,rfl,_,rfl,pb,_,_,_,rfl,rfl,SqT.of hb,rfl,_,_,rfl,rfl,xA rd sd,_,_,rfl,zbQ r s,fun v H' g h=>?_⟩;rw[zaj]at h;exact q v H' g h
 ·refine⟨_,rfl,rfl,_,rfl,?_⟩;rw[decide_eq_false (show ¬ V.int k=V.int 0 from fun z=>k0 (V.int.inj z))];refine iteF ?_;refine⟨_,rfl,_,rfl,_,_,rfl,rfl,_,rfl,_,_,rfl,rfl,k0,?_⟩;exact q _ _ (Same.refl H) RN.of_z
theorem zgW (D:Df K mg "_law_divisor" Sn xv) (m_abs:mg "abs" = none):Kn P w K mg base "_law_divisor" 1 Sn zbP:=by
 refine D.kn sJ (fun vs H Q E h=>?_) (fun f cdv A outer s H vs Q E hr h=>?_)
 ·obtain⟨a,b,rfl,_⟩:=h;rfl
 obtain⟨a,b,rfl,q⟩:=h;refine⟨_,(zc (JL PassesOwn.never (zQ zbW (pv 1) zd (kae _)) (zg (zgO (i:=0) (j:=1) rfl sJ.nd rfl rfl (by decide) rfl rfl (za (pv 1) (za (zh zN (pv 0) (pv 1)) zb)) rfl))) (zg (zo (zy XY rfl m_abs zef (za (pv 0) zb))))),?_⟩;refine⟨fun m σ H'=>∃ l r,σ=[some (.int l),some (.int r)]/\H'=H/\vd l r=vd a b/\m=r.natAbs,⟨_,_,_,rfl,rfl,rfl,rfl⟩,?_⟩
 rintro m σ H' ⟨l,r,rfl,rfl,g,rfl⟩
 refine⟨_,rfl,rfl,_,rfl,?_⟩;refine ite2 (fun c=>?_) (fun c=>?_)
 ·have c':r≠0:=fun z=>by rw[z]at c;exact absurd c (by decide)
  refine⟨_,fun _ _ h=>h,?_⟩;exact⟨_,rfl,_,rfl,_,rfl,_,_,rfl,rfl,c',_,_,rfl,_,zbU l c',r,l.fmod r,rfl,rfl,(zbH l r).trans g,rfl⟩
 ·have c':r=0:=by
   by_cases h:r=0
   ·exact h
   ·exact absurd (by have h':¬ V.int r=V.int 0:=fun z=>h (V.int.inj z);rw[decide_eq_false h'];rfl) c
  subst c';refine⟨_,rfl,l,rfl,?_⟩;have e:(if l<0 then -l else l) =((vd a b:Nat):Int):=by rw[zdX,← g,Gu]
  show Q (.int (if l<0 then -l else l)) H';rw[e];exact q
def szM(m:Nat)(M:TB):Prop:=∀ r∈M,∀ x∈r,nsm m x
theorem zbJ{k:Int}{m n:Nat}{M:TB}(ok:La.OkM k n M)(h:szM m M):szM m (kag n M):=fun r hr x hx=>by
 unfold kag at hr;obtain⟨j,hj,rfl⟩:=wk.mp hr;rw[vI]at hj;obtain⟨row,hrow,rfl⟩:=wk.mp hx;have hj':j<row.length:=by have:=(ok row hrow).1;omega
 rw[wb,wa hj'];exact h row hrow _ (we hj')
def Qj:Sp:=fun vs H Q _=>∃(k:Int)(xs:List Nb)(a:Addr)(B:Nat),vs=[.int k,.ref a]/\kab k/\kai H xs a/\La.OkR k xs/\La.rowB B xs/\61<=B/\B<=60000000/\xs.length<sizeLine /\
 ∀ p H',Same H H'->SclAt H' k B xs p->Q (.ref p) H'
theorem zc6 (hP:P.given.tree=none) (hS:base.NoSeer) (D:Df K mg "scaled" So YQ) (xH:Kn P w K mg base "common_divisor" 1 Sh zbP) (yL:mg "list" = none):Kn P w K mg base "scaled" 41 So Qj:=by
 refine D.kn Sd (fun vs H Q E h=>?_) (fun f cdv A outer s H vs Q E hr h=>?_)
 ·obtain⟨k,xs,a,B,rfl,_⟩:=h;rfl
 obtain⟨k,xs,a,B,rfl,hk,hrow,ok,⟨Dn,dn0,dn1,hD⟩,b7,b6,hlen,q⟩:=h;have kl:=hk.lt;have szl:=SV
 obtain⟨vs,ha,hp,hvl⟩:=hrow.len;refine⟨_,(zc (yD (zQ zbW (pv 0) zd (kae _)) (zg (zo (xL (za (xa XJ rfl yL qN (za (pv 1) zb)) (za zd zb))))) zO) (zc (zk (i:=2) Sd.nd rfl (.inr rfl) zd) (zc (yw PassesOwn.never rfl (zV (pv 1)) (zt (i:=3) Sd.nd rfl (.inl rfl)) (zg (zk (i:=2) Sd.nd rfl (.inr rfl) (zh zL (zh (zW hr (by decide) hP hS ⟨_,_,rfl,rfl,rfl,rfl,rfl⟩) (pv 2) (zu xH hr (za (pv 2) (za (zD zE (pv 3) zd) zb)))) (zD zE (pv 3) zd))))) (zg (zo (xL (za (xK ["bottom"] [2] (zV (pv 1)) fun _ _ _ _ _ _=>⟨zI,(zh zL (zD zE (pv 0) zd) (zh (zW hr (by decide) hP hS ⟨_,_,rfl,rfl,rfl,rfl,rfl⟩) (pv 1) (zD zE (pv 0) zd)))⟩) (za (pv 2) zb)))))))),?_⟩;refine⟨_,rfl,rfl,_,rfl,?_⟩;refine ite2 (fun c=>?_) (fun c=>?_)
 ·have k0:k≠0:=fun z=>by rw[z]at c;exact absurd c (by decide)
  obtain⟨is,rfl,rfl⟩:=QU k0 ok hp;refine⟨_,rfl,a,_,rfl,.inl (SqL.of ha),fun l hl=>⟨(by show 2<=sizeLine;decide),fun p hp'=>?_⟩⟩;have n1:l≠p:=fun e=>by rw[e,ze]at hp';cases hp'
  refine q p _ ((zf hl _).trans (zf hp' _)) ⟨l,is,1,ze,?_,zd2 k0 is,?_,fun w hw=>?_⟩
  ·show upd _ _ _ l=_;rw[zH n1];exact ze
  ·exact sm_one.mono (by omega)
  ·have o:=ok (.z w) (wk.mpr ⟨w,hw,rfl⟩);exact(Qb o.2.1 o.2.2 kl.2).mono b7
 ·have k0:k=0:=by
   by_cases z:k=0
   ·exact z
   ·exact absurd (by have h':¬ V.int k=V.int 0:=fun e=>z (V.int.inj e);rw[decide_eq_false h'];rfl) c
  subst k0;have isq:∀(i:Nat)(x:Nb),xs[i]?=some x->∃ r,x=.q r:=fun i x hx=>by
   have o:=ok x (wd hx);cases x with
   | q r=>exact⟨r,rfl⟩
   | z j=>exact absurd rfl o.1
  have dle:∀ b:Int,0<b->b ∣ (Dn:Int)->Sm B b:=fun b b0 hb=>by
   have:=Gr (by omega) hb;show b.natAbs<2^B;omega
  have parts:∀ r:Rat,.q r∈xs->Sm B r.num/\Sm B (r.den:Int)/\(r.den:Int) ∣ (Dn:Int):=fun r hr=>by
   obtain⟨h1,h2⟩:=La.dB.parts dn0 (hD _ hr);have dv:=La.dB.den_dvd dn0 (hD _ hr);refine⟨?_,dle _ (den_pos r) dv,dv⟩;show r.num.natAbs<2^B;have:0<2^B:=GM (by decide);omega
  refine⟨_,rfl,a,rfl,⟨_,SqL.of ha⟩,?_⟩;refine xw (xs:=vs) (fun i σ H'=>∃ b o,σ=[some (.int 0),some (.ref a),some (.int b),o]/\H'=H/\0<b/\(∀ x∈xs.take i,La.dvB b x)/\b ∣ (Dn:Int)) ⟨1,none,rfl,rfl,by decide,fun x hx=>by simp at hx,⟨_,(wal _).symm⟩⟩ ?_ ?_ ?_
  ·rintro i σ H' _ ⟨b,o,rfl,rfl,_⟩
   exact SqL.of ha
  ·rintro i v σ H' hv ⟨b,o,rfl,rfl,b0,dv,bD⟩
   obtain⟨x,hx,rx⟩:=zU hp hv;obtain⟨r,rfl⟩:=isq i x hx;obtain⟨pa,rfl,hpa⟩:=rx.q;obtain⟨sn,sd,dD⟩:=parts r (wd hx);obtain⟨l1,l2,l3,l4⟩:=zeH b0 (den_pos r);have l5:=La.zfS b0 (den_pos r) bD dD;have sf:Sm B (b.fdiv ((vd b (r.den:Int):Nat):Int)):=zdL (dle b b0 bD) (uL _ _);refine⟨_,rfl,_,rfl,_,rfl,pa,_,_,_,rfl,rfl,SqT.of hpa,rfl,_,_,rfl,_,_,rfl,rfl,l4,?_⟩;refine⟨_,rfl,pa,_,_,_,rfl,rfl,SqT.of hpa,rfl,_,_,rfl,rfl,sf.mulOk sd (by omega),?_⟩;refine⟨_,_,rfl,rfl,l1,fun y hy=>?_,l5⟩;rw[zr hx]at hy
   rcases wo.mp hy with hy|hy
   ·have:=dv y hy;cases y with
    | q s=>exact Int.dvd_trans (show(s.den:Int) ∣ b from this) l2
    | z j=>trivial
   ·rw[wn.mp hy];exact l3
  ·rintro σ H' ⟨b,o,rfl,rfl,b0,dv,bD⟩
   rw[hvl]at dv;rw[uN]at dv;have sb:=dle b b0 bD;refine⟨_,rfl,a,rfl,⟨_,SqL.of ha⟩,?_⟩;refine yt (xs:=vs) (fun i ys H2=>H2=H'/\ys =((xs.take i).map (La.scW b)).map V.int) ⟨rfl,by simp⟩ ?_ ?_ ?_
   ·rintro i ys H2 hi ⟨rfl,rfl⟩
    refine⟨SqL.of ha,?_⟩;rw[wc,wc,wj];omega
   ·rintro i v ys H2 hv hi ⟨rfl,rfl⟩
    obtain⟨x,hx,rx⟩:=zU hp hv;obtain⟨r,rfl⟩:=isq i x hx;obtain⟨pa,rfl,hpa⟩:=rx.q;obtain⟨sn,sd,dD⟩:=parts r (wd hx);have dx:(r.den:Int) ∣ b:=dv _ (wd hx)
    first|refine gyes ?_|refine tyes ?_
    refine⟨_,rfl,pa,_,_,_,rfl,rfl,SqT.of hpa,rfl,_,rfl,_,rfl,pa,_,_,_,rfl,rfl,SqT.of hpa,rfl,_,_,rfl,rfl,xV r,_,_,rfl,rfl,sn.mulOk (zdL sb dx) (by omega),nxt hi ⟨rfl,?_⟩⟩;rw[zr hx,wt,wt];rfl
   ·rintro ys H2 ⟨rfl,rfl⟩ l hl
    rw[hvl,uN]at *;refine⟨_,rfl,(by show 2<=sizeLine;decide),fun p hp'=>?_⟩;have n1:l≠p:=fun e=>by rw[e,ze]at hp';cases hp'
    refine q p _ ((zf hl _).trans (zf hp' _)) ⟨l,xs.map (La.scW b),b,ze,?_,⟨rfl,b0,fun z=>absurd rfl z,dv⟩,sb,fun w hw=>?_⟩
    ·show upd _ _ _ l=_;rw[zH n1];exact ze
    ·obtain⟨x,hx,rfl⟩:=wk.mp hw;exact La.zhp hk (ok x hx) b7 dn0 (hD x hx) b0 (dv x hx) fun _=>bD
def zay:Sp:=fun vs H Q _=>∃(k t b:Int),vs=[.int k,.int t,.int b]/\kab k/\nnum k b≠nnum k 0/\Sm 60000000 t/\Sm 60000000 b/\∀ v H',Same H H'->RN H' (ndiv k (nnum k t) (nnum k b)) v->Q v H'
theorem zgE (D:Df K mg "quotient" Sq qA) (zho:Kn P w K mg base "over" 42 Sl zc7) (jq:Kn P w K mg base "number" 1 Sk qi):Kn P w K mg base "quotient" 43 Sq zay:=by
 refine D.kn zax (fun vs H Q E h=>?_) (fun f cdv A outer s H vs Q E hr h=>?_)
 ·obtain⟨k,t,b,rfl,_⟩:=h;rfl
 obtain⟨k,t,b,rfl,hk,ne,st,sb,q⟩:=h;refine⟨_,(zg (zo (zu zho hr (za (pv 0) (za (zu jq hr (za (pv 0) (za (pv 1) zb))) (za (zu jq hr (za (pv 0) (za (pv 2) zb))) zb)))))),?_⟩;refine⟨_,rfl,_,rfl,_,rfl,k,t,rfl,fun v1 H1 g1 r1=>?_⟩;refine⟨_,rfl,_,rfl,k,b,rfl,fun v2 H2 g2 r2=>?_⟩;refine⟨k,_,_,v1,v2,rfl,⟨hk,La.zR hk t,La.zR hk b,yM hk st (by decide),yM hk sb (by decide),r1.mono g2,r2⟩,ne,fun v3 H3 g3 r3=>?_⟩;exact q v3 H3 ((g1.trans g2).trans g3) r3
def XT:Sp:=fun vs H Q _=>∃(k:Int)(n:Nat),vs=[.int k,.int (n:Int)]/\n<=1000/\∀ v0 pt H',Same H H'->RN H' (nnum k 0) v0->H' pt=some (.lst (ww n v0))->H pt=none->Q (.ref pt) H'
theorem zcg (D:Df K mg "noughts" Sr Zq) (jq:Kn P w K mg base "number" 1 Sk qi):Kn P w K mg base "noughts" 2 Sr XT:=by
 refine D.kn zb2 (fun vs H Q E h=>?_) (fun f cdv A outer s H vs Q E hr h=>?_)
 ·obtain⟨k,n,rfl,_⟩:=h;rfl
 obtain⟨k,n,rfl,hn,q⟩:=h;have szl:=SV
 refine⟨_,(zg (zo (zh zhk (yn (za (zu jq hr (za (pv 0) (za zd zb))) zb)) (pv 1)))),?_⟩;refine⟨_,rfl,k,0,rfl,fun v0 H1 g1 rv0=>⟨(by show 1<=sizeLine;decide),fun p1 hp1=>?_⟩⟩;refine⟨_,rfl,p1,_,_,rfl,rfl,ze,(by omega),(by omega),(by show 1 *(n:Int).toNat<=sizeLine;omega),fun pt hpt=>?_⟩;rw[zcM,wJ];exact q v0 pt _ ((g1.trans (zf hp1 (.lst [v0]))).trans (zf hpt (.lst (ww n v0)))) ((rv0.mono (zf hp1 (.lst [v0]))).mono (zf hpt (.lst (ww n v0)))) ze ((g1.trans (zf hp1 (.lst [v0]))).none hpt)
def zcI:Sp:=fun vs H Q _=>∃(ws us:List Int)(l l':Addr)(m:Nat),vs=[.ref l,.ref l']/\IRow H ws l/\IRow H us l'/\ws.length=us.length/\(∀ w∈ws,Sm m w)/\(∀ w∈us,Sm m w)/\2*m<=60000000/\ws.length<sizeLine /\
 ∀ H',Same H H'->Q (.int (vm (·*·) ws us).sum) H'
theorem zfM (D:Df K mg "whole_sum" Sh xU) (m_sum:mg "sum" = none) (m_zip:mg "zip" = none):Kn P w K mg base "whole_sum" 1 Sh zcI:=by
 refine D.kn Yi (fun vs H Q E h=>?_) (fun f cdv A outer s H vs Q E hr h=>?_)
 ·obtain⟨ws,us,l,l',m,rfl,_⟩:=h;rfl
 obtain⟨ws,vs,l,l',m,rfl,hl,hl',hlen,sw,sw',hsz,hz,q⟩:=h;refine⟨_,(zg (zo (zy (Qr rfl) rfl m_sum zfu (za (qq ["left", "right"] [] [] ⟨rfl,rfl,rfl,rfl,rfl,rfl,by decide +kernel⟩ rfl (jN rfl m_zip (za (pv 0) (za (pv 1) zb))) (jc (zX (yb (by decide)) zY (zX (yb (by decide)) zY xG))) fun _ _ _ _ _ _=>⟨(xJ 2 rfl (zK (zt (i:=0) (by decide:(["left", "right"]:List Str).Nodup) rfl (by first|exact Or.inl rfl|exact Or.inr rfl)) (zK (zt (i:=1) (by decide:(["left", "right"]:List Str).Nodup) rfl (by first|exact Or.inl rfl|exact Or.inr rfl)) xp))),zI,(zh zL (pv 0) (pv 1))⟩) zb)))),?_⟩;refine⟨_,rfl,_,rfl,l,l',ws.map V.int,vs.map V.int,rfl,SqL.of hl,SqL.of hl',?_⟩;refine jP (xs:=ws.map V.int) (zs:=vs.map V.int) (by rw[wc,wc];omega) (fun i ys' H'=>Same H H'/\ys' =((vm (·*·) ws vs).take i).map V.int) ⟨Same.refl H,by simp⟩ ?_ ?_ ?_
 ·rintro i ys' H' hi ⟨g,rfl⟩
  refine⟨SqL.of (hl.mono g),SqL.of (hl'.mono g),?_⟩;rw[wc,wj,wr];omega
 ·rintro i x z T ys' H' hx hy hi hT ⟨g,rfl⟩
  rw[wf]at hx hy;obtain⟨u,hu,rfl⟩:=vB.mp hx;obtain⟨u',hu',rfl⟩:=vB.mp hy;refine⟨T,_,rfl,SqT.of ze,rfl,_,_,rfl,_,_,rfl,rfl,?_⟩
  first|refine gyes ?_|refine tyes ?_
  refine⟨_,rfl,_,rfl,_,_,rfl,rfl,(sw u (wd hu)).mulOk (sw' u' (wd hu')) (by omega),nxt hi ⟨g.trans (zf hT _),?_⟩⟩;have e:(vm (·*·) ws vs)[i]?=some (u*u'):=by rw[vH,hu,hu']
  rw[zr e,wt];rfl
 ·rintro ys' H' ⟨g,rfl⟩ pl hpl
  have el:(ws.map V.int).length =(vm (·*·) ws vs).length:=by rw[wc,wr];omega
  rw[el,uN];exact⟨pl,_,rfl,SqL.of ze,q _ (g.trans (zf hpl (.lst ((vm (·*·) ws vs).map V.int))))⟩
def zfv:Sp:=fun vs H Q _=>∃(k:Int)(xs ys:List Nb)(p p':Addr)(m:Nat),vs=[.int k,.ref p,.ref p']/\kab k/\SclAt H k m xs p/\SclAt H k m ys p'/\La.OkR k xs/\La.OkR k ys/\xs.length=ys.length/\61<=m/\2*m+xs.length<=60000000/\xs.length<sizeLine /\
 ∀ v H',Same H H'->RN H' (La.ndot k xs ys) v->Q v H'
theorem zgR (D:Df K mg "sum_of_products" Sl yF) (ZS:Kn P w K mg base "quotient" 43 Sq zay) (yV:Kn P w K mg base "whole_sum" 1 Sh zcI):Kn P w K mg base "sum_of_products" 44 Sl zfv:=by
 refine D.kn Zg (fun vs H Q E h=>?_) (fun f cdv A outer s H vs Q E hr h=>?_)
 ·obtain⟨k,xs,ys,p,p',m,rfl,_⟩:=h;rfl
 obtain⟨k,xs,ys,p,p',m,rfl,hk,⟨l,ws,b,hp,hl,sc,sb,sw⟩,⟨l',vs,b',hp',hl',sc',sb',sw'⟩,ox,oy,hlen,m7,hsz,hz,q⟩:=h;refine⟨_,(zg (zo (zu ZS hr (za (pv 0) (za (zu yV hr (za (zD zE (pv 1) zd) (za (zD zE (pv 2) zd) zb))) (za (zh zL (zD zE (pv 1) zd) (zD zE (pv 2) zd)) zb)))))),?_⟩;have ewl:=sc.len;have evl:=sc'.len;refine⟨_,rfl,_,rfl,p,_,_,_,rfl,rfl,SqT.of hp,rfl,_,rfl,p',_,_,_,rfl,rfl,SqT.of hp',rfl,ws,vs,l,l',m,rfl,hl,hl',(by omega),sw,sw',(by omega),(by omega),fun H' g2=>?_⟩;obtain⟨ne,e⟩:=La.zg4 hk hlen sc sc' ox oy;have st:Sm (m+m +(vm (·*·) ws vs).length) (vm (·*·) ws vs).sum:=zfm fun w hw=>by
  obtain⟨i,hi,e⟩:=wV hw;rw[vy]at e;rw[← e];exact(sw _ (we _)).mul (sw' _ (we _))
 rw[wr]at st;refine⟨_,rfl,p,_,_,_,rfl,rfl,SqT.of (g2 _ _ hp),rfl,_,rfl,p',_,_,_,rfl,rfl,SqT.of (g2 _ _ hp'),rfl,_,_,rfl,rfl,sb.mulOk sb' (by omega),k,_,_,rfl,hk,ne,st.mono (by omega),(sb.mul sb').mono (by omega),fun v H2 g3 r=>?_⟩;rw[e]at r;exact q v H2 (g2.trans g3) r
theorem zgy{x:Str}{ps:List Str}{l:Nat}{sp sp':Sp}(D:Kn P w K mg base x l ps sp)(h:∀ vs H Q E,sp' vs H Q E->sp vs H Q E):Kn P w K mg base x l ps sp':=by
 obtain⟨f,fd,F,r⟩:=D.ex;exact⟨f,fd,F.imp h,r⟩
def ZW:Sp:=fun vs H Q _=>∃(k:Int)(xs:List Nb)(a:Addr)(m:Nat),vs=[.int k,.ref a]/\kab k/\kai H xs a/\La.OkR k xs/\(∀ x∈xs,nsm m x)/\61<=m/\(xs.length+2)*m<=60000000 /\
 ∀ p H',Same H H'->SclAt H' k ((xs.length+2)*m) xs p->Q (.ref p) H'
theorem Qz (d:Kn P w K mg base "scaled" 41 So Qj):Kn P w K mg base "scaled" 41 So ZW:=zgy d fun vs H Q E h=>by
 obtain⟨k,xs,a,m,rfl,hk,hr,ox,sx,m7,hsz,q⟩:=h;have szl:=SV
 have h1:(xs.length+2)*61<=(xs.length+2)*m:=uz _ m7;have h2:(xs.length+1)*m<=(xs.length+2)*m:=wH _ (by omega);exact⟨k,xs,a,(xs.length+2)*m,rfl,hk,hr,ox,(zeE (k:=k) (n:=xs.length) (by omega) ⟨rfl,ox,sx⟩).mono h2,by omega,hsz,by omega,q⟩
theorem zct{n m:Nat}(h7:61<=m)(h:(n+2)*m<=20000000):2 *((n+2)*m)+n<=60000000/\61<=(n+2)*m/\n<sizeLine/\(n+2)*m<=60000000:=by
 have h1:(n+2)*61<=(n+2)*m:=uz _ h7;have:sizeLine=16777216:=by decide
 omega
def Zp:Sp:=fun vs H Q _=>∃(M:TB)(n:Nat)(top:Addr)(ras:List Addr),vs=[.ref top]/\kah H M top ras/\M≠[]/\(∀ r∈M,r.length=n)/\n<sizeLine/\M.length<sizeLine /\
 ∀ t ras' H',Same H H'->NewT H H' (kag n M) t ras'->Q (.ref t) H'
theorem zc2 (D:Df K mg "turned" ["table"] Yz) (zi:mg "range" = none) (m_len:mg "len" = none):Kn P w K mg base "turned" 1 ["table"] Zp:=by
 refine D.kn zdd (fun vs H Q E h=>?_) (fun f cdv A outer s H vs Q E hr h=>?_)
 ·obtain⟨M,n,top,ras,rfl,_⟩:=h;rfl
 obtain⟨M,n,top,ras,rfl,hT,hM,hn,nz,mz,q⟩:=h;refine⟨_,(zg (zo (xK ["table"] [0] (zF rfl zi (za (zy zJ rfl m_len ym (za (zD zw (pv 0) zd) zb)) zb)) fun _ _ _ _ _ _=>⟨zI,(xK ["column"] [0] (zV (pv 1)) fun _ _ _ _ _ _=>⟨zI,(zD zw (pv 0) (pv 1))⟩)⟩))),?_⟩;obtain⟨M0,M',rfl⟩:=ut hM;have hras:=zj hT.2;obtain⟨r0,ras',e0⟩ : ∃ r0 ras',ras=r0::ras':=by
  cases ras with
  | nil=>simp at hras
  | cons a b=>exact⟨a,b,rfl⟩
 obtain⟨vs0,h0,p0,l0⟩:=(qv hT.2 (i:=0) rfl (by rw[e0];rfl)).len;have n0:=hn M0 wq;have szl:=SV
 refine⟨_,rfl,top,_,_,_,rfl,rfl,SqL.of hT.1,(by rw[e0];exact zG (j:=0) rfl),r0,_,rfl,.inl (SqL.of h0),_,rfl,(by omega),(by omega),?_⟩;have en:(vs0.length:Int).toNat=n:=by omega
 rw[en];refine zZ (lo:=0) (n:=n) (fun i ys H'=>∃ ras2,ys=ras2.map V.ref/\Grow H H' ((kag n (M0::M')).take i) ras2) ⟨[],rfl,Grow.nil H (Same.refl H)⟩ ?_ ?_ ?_
 ·rintro i ys H' hi ⟨ras2,rfl,G⟩
  have:=zj G.rows;rw[wj,zP]at this;rw[wc];omega
 ·rintro i ys H' hi ⟨ras2,rfl,G⟩
  first|refine gyes ?_|refine tyes ?_
  refine⟨_,rfl,top,rfl,⟨_,SqL.of (G.same _ _ hT.1)⟩,?_⟩;refine yt (xs:=ras.map V.ref) (fun j ys' H2=>H2=H'/\Paired (RN H') (((M0::M').map fun r=>r.getD i (.z 0)).take j) ys') ⟨rfl,.nil⟩ ?_ ?_ ?_
  ·rintro j ys' H2 hj ⟨rfl,pr⟩
   refine⟨SqL.of (G.same _ _ hT.1),?_⟩;have:=zj pr;rw[wj,wc]at this;omega
  ·rintro j v ys' H2 hv hj ⟨rfl,pr⟩
   obtain⟨xs,a,hx,ha,rfl,hrow⟩:=(hT.mono G.same).row hv;obtain⟨us,hu,pu,lu⟩:=hrow.len;have nx:=hn xs (wd hx);have hi':i<xs.length:=by omega
   obtain⟨u,eu,ru⟩:=yU pu (wa hi')
   first|refine gyes ?_|refine tyes ?_
   refine⟨_,rfl,_,rfl,a,_,_,_,rfl,rfl,SqL.of hu,(by rw[vt];exact zG eu),nxt hj ⟨rfl,?_⟩⟩;have e:((M0::M').map fun r=>r.getD i (.z 0))[j]?=some (xs.getD i (.z 0)):=by rw[wf,hx];rfl
   rw[zr e];refine yu pr ?_;rw[wb,wa hi'];exact ru
  ·rintro ys' H2 ⟨rfl,pr⟩ p hp
   rw[wg (by rw[wc,wc];omega)]at pr;refine nxt hi ⟨ras2++[p],by rw[wt];rfl,?_⟩;rw[zr (ZH hi)];exact G.snoc hp pr
 ·rintro ys H' ⟨ras2,rfl,G⟩ t ht
  rw[wg (by rw[zP];exact wl _)]at G;exact q t ras2 _ (G.same.trans (zf ht _)) (G.done ht)
def zc9:Sp:=fun vs H Q _=>∃(k:Int)(n:Nat),vs=[.int k,.int (n:Int)]/\n<=1000/\∀ t ras H',Same H H'->NewT H H' (La.kal k n) t ras->Q (.ref t) H'
theorem zgw (D:Df K mg "unit" Ss zbm) (jq:Kn P w K mg base "number" 1 Sk qi) (zi:mg "range" = none) (m_int:mg "int" = none):Kn P w K mg base "unit" 2 Ss zc9:=by
 refine D.kn zf2 (fun vs H Q E h=>?_) (fun f cdv A outer s H vs Q E hr h=>?_)
 ·obtain⟨k,n,rfl,_⟩:=h;rfl
 obtain⟨k,n,rfl,hn,q⟩:=h;have szl:=SV
 refine⟨_,(zg (zo (xK ["size", "kind"] [1,0] (zF rfl zi (za (pv 1) zb)) fun _ _ _ _ _ _=>⟨zI,(xK ["kind", "row"] [2,0] (zF rfl zi (za (pv 1) zb)) fun _ _ _ _ _ _=>⟨zI,(zu jq hr (za (pv 1) (za (xa Zd rfl m_int zah (za (xb xX (pv 2) (pv 0) (kae _)) zb)) zb)))⟩)⟩))),?_⟩;have lT:(La.kal k n).length=n:=by unfold La.kal;simp
 refine⟨_,rfl,n,rfl,(by omega),(by omega),?_⟩;rw[wJ];refine zZ (lo:=0) (n:=n) (fun i ys H'=>∃ ras2,ys=ras2.map V.ref/\Grow H H' ((La.kal k n).take i) ras2) ⟨[],rfl,Grow.nil H (Same.refl H)⟩ ?_ ?_ ?_
 ·rintro i ys H' hi ⟨ras2,rfl,G⟩
  have:=zj G.rows;rw[wj]at this;rw[wc];omega
 ·rintro i ys H' hi ⟨ras2,rfl,G⟩
  first|refine gyes ?_|refine tyes ?_
  refine⟨_,rfl,n,rfl,(by omega),(by omega),?_⟩;rw[wJ];have lR:(La.kak k n i).length=n:=by unfold La.kak;simp
  refine zZ (lo:=0) (n:=n) (fun j ys' H6=>Same H' H6/\Paired (RN H6) ((La.kak k n i).take j) ys') ⟨Same.refl _,.nil⟩ ?_ ?_ ?_
  ·rintro j ys' H6 hj ⟨g6,pr6⟩
   have:=zj pr6;rw[wj]at this;omega
  ·rintro j ys' H6 hj ⟨g6,pr6⟩
   first|refine gyes ?_|refine tyes ?_
   refine⟨_,rfl,_,rfl,_,rfl,rfl,.inr ⟨_,rfl,k,_,rfl,fun v H7 g7 r7=>nxt hj ⟨g6.trans g7,?_⟩⟩⟩;have e:(La.kak k n i)[j]?=some (if i=j then nnum k 1 else nnum k 0):=by unfold La.kak;rw[wf,ve hj];rfl
   rw[zr e];refine yu (yz g7 pr6) ?_
   by_cases c:i=j
   ·rw[if_pos c];rw[c,decide_eq_true rfl]at r7;exact r7
   ·rw[if_neg c];rw[decide_eq_false (fun z=>c (by have:=V.int.inj z;omega))]at r7;exact r7
  ·rintro ys' H6 ⟨g6,pr6⟩ p hp
   rw[wg (by omega)]at pr6;refine nxt hi ⟨ras2++[p],by rw[wt];rfl,?_⟩;rw[zr (La.zdO hi)];exact(G.mono g6).snoc hp pr6
 ·rintro ys H' ⟨ras2,rfl,G⟩ t ht
  rw[wg (by omega)]at G;exact q t ras2 _ (G.same.trans (zf ht _)) (G.done ht)
def ZC:Sp:=fun vs H Q _=>∃(A B:TB)(n h:Nat)(ta tb:Addr)(ra rb:List Addr),vs=[.ref ta,.ref tb]/\kah H A ta ra/\kah H B tb rb/\A.length=B.length/\(∀ r∈A,r.length=n)/\(∀ r∈B,r.length=h)/\n+h<=sizeLine/\A.length<sizeLine /\
 ∀ p ras H',Same H H'->NewT H H' (augM A B) p ras->Q (.ref p) H'
theorem zbZ (D:Df K mg "abreast" Sh Zb) (m_zip:mg "zip" = none):Kn P w K mg base "abreast" 1 Sh ZC:=by
 refine D.kn zbM (fun vs H Q E h=>?_) (fun f cdv A' outer s' H vs Q E hr h=>?_)
 ·obtain⟨A,B,n,h,ta,tb,ra,rb,rfl,_⟩:=h;rfl
 obtain⟨A,B,n,h,ta,tb,ra,rb,rfl,hA,hB,lAB,nA,nB,nh,lA,q⟩:=h;have szl:=SV
 refine⟨_,(zg (zo (qq ["left", "right"] [] [] ⟨rfl,rfl,rfl,rfl,rfl,rfl,by decide +kernel⟩ rfl (jN rfl m_zip (za (pv 0) (za (pv 1) zb))) (jc (zX (yb (by decide)) zY (zX (yb (by decide)) zY xG))) fun _ _ _ _ _ _=>⟨(xJ 2 rfl (zK (zt (i:=0) (by decide:(["left", "right"]:List Str).Nodup) rfl (by first|exact Or.inl rfl|exact Or.inr rfl)) (zK (zt (i:=1) (by decide:(["left", "right"]:List Str).Nodup) rfl (by first|exact Or.inl rfl|exact Or.inr rfl)) xp))),zI,(zh qW (pv 0) (pv 1))⟩))),?_⟩;have la:=zj hA.2;have lb:=zj hB.2;refine⟨_,rfl,_,rfl,ta,tb,_,_,rfl,SqL.of hA.1,SqL.of hB.1,?_⟩;refine jP (xs:=ra.map V.ref) (zs:=rb.map V.ref) (by rw[wc,wc];omega) (fun i ys H'=>∃ ras,ys=ras.map V.ref/\Grow H H' ((augM A B).take i) ras) ⟨[],rfl,Grow.nil H (Same.refl H)⟩ ?_ ?_ ?_
 ·rintro i ys H' hi ⟨ras,rfl,G⟩
  refine⟨SqL.of (G.same _ _ hA.1),SqL.of (G.same _ _ hB.1),?_⟩;have:=zj G.rows;rw[wj]at this;rw[wc]at hi ⊢;omega
 ·rintro i x z T ys H' hx' hz' hi hT ⟨ras,rfl,G⟩
  have g':=zf hT (.tup [x,z]);have G1:=G.mono g';obtain⟨row,a,hrow,ha,rfl,hR⟩:=(hA.mono G1.same).row hx';obtain⟨row2,a2,hrow2,ha2,rfl,hR2⟩:=(hB.mono G1.same).row hz';obtain⟨us1,hu1,pu1,lu1⟩:=hR.len;obtain⟨us2,hu2,pu2,lu2⟩:=hR2.len;have r1:=nA _ (wd hrow);have r2:=nB _ (wd hrow2);refine⟨T,_,rfl,SqT.of ze,rfl,_,_,rfl,_,_,rfl,rfl,?_⟩;generalize upd H' T (.tup [.ref a,.ref a2])=H1 at *
  first|refine gyes ?_|refine tyes ?_
  refine⟨_,rfl,_,rfl,a,a2,_,_,rfl,rfl,hu1,hu2,(by rw[lu1,lu2,r1,r2];exact nh),fun p hp=>?_⟩;refine nxt hi ⟨ras++[p],by rw[wt];rfl,?_⟩;rw[zr (JX hrow hrow2)];exact G1.snoc hp (Zi pu1 pu2)
 ·rintro ys H' ⟨ras,rfl,G⟩ pb hpb
  rw[wc,wg (by unfold augM;rw[wr];omega)]at G;have N:=G.done hpb;have g1:=G.same.trans (zf hpb (.lst (ras.map V.ref)));exact q pb ras _ g1 N
def ZP:Sp:=fun vs H Q _=>∃(k:Int)(M N:TB)(b c m:Nat)(t1 t2:Addr)(r1 r2:List Addr),vs=[.int k,.ref t1,.ref t2]/\kab k/\kah H M t1 r1/\kah H N t2 r2/\La.OkM k b M/\La.OkM k c N/\N.length=b/\0<b/\szM m M/\szM m N/\61<=m/\(b+2)*m<=20000000/\c<sizeLine/\M.length<sizeLine /\
 ∀ t ras H',Same H H'->NewT H H' (kad k c M N) t ras->Q (.ref t) H'
theorem zbK (D:Df K mg "product" Sl Zz) (zev:Kn P w K mg base "turned" 1 ["table"] Zp) (YJ:Kn P w K mg base "scaled" 41 So ZW) (ZG:Kn P w K mg base "sum_of_products" 44 Sl zfv):Kn P w K mg base "product" 45 Sl ZP:=by
 refine D.kn Sc (fun vs H Q E h=>?_) (fun f cdv A outer s H vs Q E hr h=>?_)
 ·obtain⟨k,M,N,b,c,m,t1,t2,r1,r2,rfl,_⟩:=h;rfl
 obtain⟨k,M,N,b,c,m,t1,t2,r1,r2,rfl,hk,hM,hN,oM,oN,lN,b0,sM,sN,m7,hsz,cz,mz,q⟩:=h;refine⟨_,(zc (zaw 3 Sc.nd ["kind"] [0] (zV (zu zev hr (za (pv 2) zb))) fun _ _ _ _ _ _=>⟨zI,(zu YJ hr (za (pv 1) (za (pv 0) zb)))⟩) (zc (zk (i:=4) Sc.nd rfl (.inl rfl) (yn zb)) (zc (yw PassesOwn.never rfl (zV (pv 1)) (zt (i:=5) Sc.nd rfl (.inl rfl)) (zc (zk (i:=6) Sc.nd rfl (.inr rfl) (zu YJ hr (za (pv 0) (za (pv 5) zb)))) (zg (xI (bm0 (fun _ h=>Xu PySem.F.plainAttrs_list PySem.F.slot_list_append PySem.F.type_list_append yN h (za (xK ["kind", "left"] [0,6] (zV (pv 3)) fun _ _ _ _ _ _=>⟨zI,(zu ZG hr (za (pv 1) (za (pv 2) (za (pv 0) zb))))⟩) zb)) (pv 4)))))) (zg (zo (pv 4)))))),?_⟩;obtain⟨z1,z2,z3,z4⟩:=zct m7 hsz;have oT:=qo oN;rw[lN]at oT;have sT:=zbJ oN sN;refine⟨_,rfl,N,c,t2,r2,rfl,hN,(fun e=>by rw[e]at lN;simp at lN;omega),(fun r hr=>(oN r hr).1),cz,by omega,fun tt rt H1 g1 nT=>?_⟩;refine⟨tt,rfl,⟨_,SqL.of nT.tab.1⟩,?_⟩;have tl:=zj nT.tab.2;rw[zP]at tl;refine yt (xs:=rt.map V.ref) (fun i ys H'=>∃ ps,ys=ps.map V.ref/\Same H1 H'/\Paired (fun xs p=>SclAt H' k ((b+2)*m) xs p) ((kag c N).take i) ps) ⟨[],rfl,Same.refl _,.nil⟩ ?_ ?_ ?_
 ·rintro i ys H' hi ⟨ps,rfl,g,pr⟩
  refine⟨SqL.of (g _ _ nT.tab.1),?_⟩;have:=zj pr;rw[wj,zP]at this;rw[wc];omega
 ·rintro i v ys H' hv hi ⟨ps,rfl,g,pr⟩
  obtain⟨xs,a,hx,ha,rfl,hrow⟩:=(nT.tab.mono g).row hv;obtain⟨lx,ox⟩:=oT xs (wd hx)
  first|refine gyes ?_|refine tyes ?_
  refine⟨_,rfl,_,rfl,k,xs,a,m,rfl,hk,hrow,ox,sT xs (wd hx),m7,by rw[lx];exact z4,fun p H2 g2 sc=>?_⟩;rw[lx]at sc;refine nxt hi ⟨ps++[p],by rw[wt];rfl,g.trans g2,?_⟩;rw[zr hx];exact yu (yZ (fun _ _ r=>r.mono g2) pr) sc
 ·rintro ys H' ⟨ps,rfl,g,pr⟩ pc hpc
  rw[wc,wg (by rw[zP];omega)]at pr;have pcl:=zj pr;rw[zP]at pcl;have gq:Same H (upd H' pc (.lst (ps.map V.ref))):=(g1.trans g).trans (zf hpc _);have prq:Paired (fun xs p=>SclAt (upd H' pc (.lst (ps.map V.ref))) k ((b+2)*m) xs p) (kag c N) ps:=yZ (fun _ _ r=>r.mono (zf hpc _)) pr;have hpq:upd H' pc (.lst (ps.map V.ref)) pc=some (.lst (ps.map V.ref)):=ze;generalize upd H' pc (.lst (ps.map V.ref))=Hq at *;refine⟨(by show 0<=sizeLine;decide),fun pt hpt=>?_⟩;refine⟨_,rfl,t1,rfl,⟨_,SqL.of (zf hpt _ _ _ (gq _ _ hM.1))⟩,?_⟩;refine xw (xs:=r1.map V.ref) (fun i σ H4=>∃ ras o5 o6,σ=[some (.int k),some (.ref t1),some (.ref t2),some (.ref pc),some (.ref pt),o5,o6]/\Grow Hq H4 ((kad k c M N).take i) ras/\H4 pt=some (.lst (ras.map V.ref))/\pt∉ras) ⟨[],none,none,rfl,Grow.nil Hq (zf hpt _),ze,by simp⟩ ?_ ?_ ?_
  ·rintro i σ H4 _ ⟨ras,o5,o6,rfl,G,_⟩
   exact SqL.of (G.same _ _ (gq _ _ hM.1))
  ·rintro i v σ H4 hv ⟨ras,o5,o6,rfl,G,hpt4,npt4⟩
   obtain⟨xs,a,hx,ha,rfl,hrow⟩:=(hM.mono (gq.trans G.same)).row hv;obtain⟨lx,ox⟩:=oM xs (wd hx);refine⟨_,rfl,_,rfl,k,xs,a,m,rfl,hk,hrow,ox,sM xs (wd hx),m7,by rw[lx];exact z4,fun p H5 g5 sc=>?_⟩;rw[lx]at sc;have gq5:=G.same.trans g5;refine⟨_,rfl,.inl ⟨rfl,_,SqL.of (g5 _ _ hpt4)⟩,_,rfl,pc,rfl,⟨_,SqL.of (gq5 _ _ hpq)⟩,?_⟩;refine yt (xs:=ps.map V.ref) (fun j ys' H6=>Same H5 H6/\Paired (RN H6) (((kag c N).map fun col=>La.ndot k xs col).take j) ys') ⟨Same.refl _,.nil⟩ ?_ ?_ ?_
   ·rintro j ys' H6 hj ⟨g6,pr6⟩
    refine⟨SqL.of (g6 _ _ (gq5 _ _ hpq)),?_⟩;have:=zj pr6;rw[wj,wc,zP]at this;omega
   ·rintro j v ys' H6 hv' hj ⟨g6,pr6⟩
    rw[wf]at hv';obtain⟨pj,hpj,rfl⟩:=vB.mp hv';obtain⟨col,hcol,scj⟩:=zU prq hpj;obtain⟨lc,oc⟩:=oT col (wd hcol)
    first|refine gyes ?_|refine tyes ?_
    refine⟨_,rfl,_,rfl,_,rfl,k,xs,col,p,pj,(b+2)*m,rfl,hk,sc.mono g6,scj.mono (gq5.trans g6),ox,oc,by rw[lx,lc],z2,by rw[lx];exact z1,by rw[lx];exact z3,fun v7 H7 g7 r7=>?_⟩;refine nxt hj ⟨g6.trans g7,?_⟩;have e:((kag c N).map fun col=>La.ndot k xs col)[j]?=some (La.ndot k xs col):=by rw[wf,hcol];rfl
    rw[zr e];exact yu (yz g7 pr6) r7
   ·rintro ys' H6 ⟨g6,pr6⟩ pn hpn
    rw[wc,wg (by rw[wc,zP];omega)]at pr6;have g46:=g5.trans g6;have npn:pt≠pn:=fun e=>by rw[← e,g46 _ _ hpt4]at hpn;cases hpn
    refine⟨pt,_,_,rfl,rfl,(by rw[zH npn];exact g46 _ _ hpt4),?_,?_⟩
    ·have e1:=zj G.rows;rw[wj]at e1;have e2:=(wm.mp ha).1;have e3:=zj hM.2;rw[wc];omega
    obtain⟨G2,nm2⟩:=G.push (zs':=(ras.map V.ref)++[.ref pn]) hpt hpt4 npt4 g46 hpn pr6;refine⟨ras++[pn],_,_,rfl,?_,?_,nm2⟩
    ·have e:(kad k c M N)[i]?=some ((kag c N).map fun col=>La.ndot k xs col):=by unfold kad;rw[wf,hx];rfl
     rw[zr e];exact G2
    ·rw[ze,wt];rfl
  ·rintro σ H4 ⟨ras,o5,o6,rfl,G,hpt4,npt4⟩
   rw[wc,wg (by unfold kad;rw[wc];have:=zj hM.2;omega)]at G;exact⟨_,rfl,q pt ras H4 (gq.trans G.same) ⟨⟨hpt4,G.rows⟩,gq.none hpt,fun r hr=>gq.none (G.fr r hr),G.nd,npt4⟩⟩
def XU:Sp:=fun vs H Q _=>∃(k:Int)(A B C:TB)(n h s m:Nat)(pm ta tb tc:Addr)(ra rb rc:List Addr),vs=[.ref pm]/\MachAt H A B C pm ta tb tc ra rb rc/\MOk k n h s m A B C/\(n+h+2)*m<=20000000/\61<=m /\
 ∀ p ras H',Same H H'->NewT H H' (augM A B) p ras->Q (.ref p) H'
theorem zb4 (D:Df K mg "leading" ["machine"] qU) (Xk:Kn P w K mg base "abreast" 1 Sh ZC):Kn P w K mg base "leading" 2 ["machine"] XU:=by
 refine D.kn zbX (fun vs H Q E h=>?_) (fun f cdv A' outer s' H vs Q E hr h=>?_)
 ·obtain⟨k,A,B,C,n,h,s,m,pm,ta,tb,tc,ra,rb,rc,rfl,_⟩:=h;rfl
 obtain⟨k,A,B,C,n,h,s,m,pm,ta,tb,tc,ra,rb,rc,rfl,hM,oM,hsz,m7,q⟩:=h;obtain⟨z1,z2,z3,z4⟩:=zct m7 hsz;have szl:=SV
 refine⟨_,(zg (zo (zu Xk hr (za (zD zE (pv 0) zd) (za (zD zE (pv 0) zd) zb))))),?_⟩;exact⟨_,rfl,pm,_,_,_,rfl,rfl,SqT.of hM.tup,rfl,_,rfl,pm,_,_,_,rfl,rfl,SqT.of hM.tup,rfl,A,B,n,h,ta,tb,ra,rb,rfl,hM.a,hM.b,by rw[oM.a.len,oM.b.len],fun r hr=>(oM.a.ok r hr).1,fun r hr=>(oM.b.ok r hr).1,by omega,by rw[oM.a.len];omega,q⟩
def zaQ:Sp:=fun vs H Q _=>∃(k:Int)(xs ys:List Nb)(a b:Addr),vs=[.int k,.ref a,.ref b]/\kab k/\kai H xs a/\kai H ys b/\La.OkR k xs/\La.OkR k ys/\xs.length=ys.length/\xs.length<=1000/\(∀ x∈xs,nsm 60000000 x)/\(∀ x∈ys,nsm 60000000 x) /\
 ∀ p H',Same H H'->NewR H H' (subR k xs ys) p->Q (.ref p) H'
theorem zgc (D:Df K mg "difference" Sl jh) (zfW:Kn P w K mg base "minus" 42 Sl (jo nsub)) (m_zip:mg "zip" = none):Kn P w K mg base "difference" 43 Sl zaQ:=by
 refine D.kn Jd (fun vs H Q E h=>?_) (fun f cdv A outer s H vs Q E hr h=>?_)
 ·obtain⟨k,xs,ys,a,b,rfl,_⟩:=h;rfl
 obtain⟨k,xs,ys,a,b,rfl,hk,hx,hy,ox,oy,lxy,l1000,sx,sy,q⟩:=h;have szl:=SV
 obtain⟨us1,hu1,pu1,lu1⟩:=hx.len;obtain⟨us2,hu2,pu2,lu2⟩:=hy.len;have ls:=ZX hk lxy;refine⟨_,(zg (zo (qq ["left", "right"] ["kind"] [0] ⟨rfl,rfl,rfl,rfl,rfl,rfl,by decide +kernel⟩ rfl (jN rfl m_zip (za (pv 1) (za (pv 2) zb))) (jc (zX (yb (by decide)) zY (zX (yb (by decide)) zY xG))) fun _ _ _ _ _ _=>⟨(xJ 2 rfl (zK (zt (i:=0) (by decide:(["left", "right", "kind"]:List Str).Nodup) rfl (by first|exact Or.inl rfl|exact Or.inr rfl)) (zK (zt (i:=1) (by decide:(["left", "right", "kind"]:List Str).Nodup) rfl (by first|exact Or.inl rfl|exact Or.inr rfl)) xp))),zI,(zu zfW hr (za (pv 2) (za (pv 0) (za (pv 1) zb))))⟩))),?_⟩;refine⟨_,rfl,_,rfl,a,b,us1,us2,rfl,SqL.of hu1,SqL.of hu2,?_⟩;refine jP (xs:=us1) (zs:=us2) (by omega) (fun j ys' H'=>Same H H'/\Paired (RN H') ((subR k xs ys).take j) ys') ⟨Same.refl _,.nil⟩ ?_ ?_ ?_
 ·rintro j ys' H' hj ⟨g,pr⟩
  refine⟨SqL.of (g _ _ hu1),SqL.of (g _ _ hu2),?_⟩;have:=zj pr;rw[wj]at this;omega
 ·rintro j x z T ys' H' hx' hz hj hT ⟨g,pr⟩
  obtain⟨nx,ex,rx⟩:=zU pu1 hx';obtain⟨nz,ez,rz⟩:=zU pu2 hz;have gN:=zf hT (.tup [x,z]);have gT:=g.trans gN;refine⟨T,_,rfl,SqT.of ze,rfl,_,_,rfl,_,_,rfl,rfl,?_⟩;generalize upd H' T (.tup [x,z])=H2 at *
  first|refine gyes ?_|refine tyes ?_
  refine⟨_,rfl,_,rfl,_,rfl,k,nx,nz,x,z,rfl,⟨hk,ox nx (wd ex),oy nz (wd ez),sx nx (wd ex),sy nz (wd ez),rx.mono gT,rz.mono gT⟩,fun v H3 g3 r3=>nxt hj ⟨gT.trans g3,?_⟩⟩;have e:(subR k xs ys)[j]?=some (nsub k nx nz):=by unfold subR;rw[vH,ex,ez]
  rw[zr e];exact yu (yz (gN.trans g3) pr) r3
 ·rintro ys' H' ⟨g,pr⟩ p hp
  rw[wg (by omega)]at pr;have g2:=zf hp (.lst ys');exact q p _ (g.trans g2) ⟨⟨ys',ze,yz g2 pr⟩,g.none hp⟩
def zbu:Sp:=fun vs H Q _=>∃(k:Int)(A B C F:TB)(n h s m:Nat)(pm ta tb tc tf:Addr)(ra rb rc rf:List Addr),vs=[.int k,.ref pm,.ref tf]/\kab k/\MachAt H A B C pm ta tb tc ra rb rc/\kah H F tf rf/\MOk k n h s m A B C/\TOk k h n m F/\1<=n/\n<=1000/\61<=m/\(n+h+2)*m<=20000000 /\
 ∀ t ras H',Same H H'->NewT H H' (rulM k n A B F) t ras->Q (.ref t) H'
theorem zeC (D:Df K mg "ruled" Su Jr) (Zx:Kn P w K mg base "product" 45 Sl ZP) (zcS:Kn P w K mg base "leading" 2 ["machine"] XU) (zhw:Kn P w K mg base "unit" 2 Ss zc9) (m_len:mg "len" = none):Kn P w K mg base "ruled" 46 Su zbu:=by
 refine D.kn zeM (fun vs H Q E h=>?_) (fun f cdv A' outer s' H vs Q E hr h=>?_)
 ·obtain⟨k,A,B,C,F,n,h,s,m,pm,ta,tb,tc,tf,ra,rb,rc,rf,rfl,_⟩:=h;rfl
 obtain⟨k,A,B,C,F,n,h,s,m,pm,ta,tb,tc,tf,ra,rb,rc,rf,rfl,hk,hM,hF,oM,oF,n1,n1000,m7,hsz,q⟩:=h;obtain⟨z1,z2,z3,z4⟩:=zct m7 hsz;have szl:=SV
 refine⟨_,(zg (zo (zu Zx hr (za (pv 0) (za (zu zcS hr (za (pv 1) zb)) (za (zh qW (zu zhw hr (za (pv 0) (za (zy zJ rfl m_len ym (za (zD zE (pv 1) zd) zb)) zb))) (pv 2)) zb)))))),?_⟩;have la:=zj hM.a.2;rw[oM.a.len]at la;have oAB:=JR oM.a oM.b;have oI:=zaL ((Qe hk n).up m7) oF;refine⟨_,rfl,_,rfl,k,A,B,C,n,h,s,m,pm,ta,tb,tc,ra,rb,rc,rfl,hM,oM,hsz,m7,fun t1 r1 H1 g1 N1=>?_⟩;have M1:=hM.mono g1;refine⟨_,rfl,_,rfl,pm,_,_,_,rfl,rfl,SqT.of M1.tup,rfl,ta,_,rfl,.inl (SqL.of M1.a.1),k,n,(by rw[wc,← la];rfl),n1000,fun t2 r2 H2 g2 N2=>?_⟩;have l2:=zj N2.tab.2;rw[(La.YN hk n).2]at l2;have lf:=zj hF.2;rw[oF.len]at lf;have F2:=(hF.mono g1).mono g2;refine⟨_,rfl,t2,tf,_,_,rfl,rfl,N2.tab.1,F2.1,(by rw[wc,wc];omega),fun t3 ht3=>?_⟩;have T3:=zde N2.tab F2 ht3;have g3:=zf ht3 (.lst (r2.map V.ref++rf.map V.ref));generalize upd H2 t3 (.lst (r2.map V.ref++rf.map V.ref))=H3 at *;have g13:=(g1.trans g2).trans g3;refine⟨k,augM A B,La.kal k n++F,n+h,n,m,t1,t3,r1,r2++rf,rfl,hk,N1.tab.mono (g2.trans g3),T3,oAB.ok,oI.ok,oI.len,(by omega),oAB.sz,oI.sz,m7,hsz,(by omega),(by rw[oAB.len];omega),fun t ras H' g' N=>?_⟩;exact q t ras H' (g13.trans g') ⟨N.tab,g13.none N.ft,fun r hr=>g13.none (N.fr r hr),N.nd,N.nt⟩
theorem zfD (K:PySem.W.Frag):PySem.W.kitOne K (.type "list") (.type "list")=some true:=by unfold PySem.W.kitOne;rw[if_pos (by decide)]
theorem qO{a b:Int}(h0 : -(2^64)<b)(h1:b<2^64):IntMulOk a b:=IntMulOk.of_right (intBits_le_64 h0 h1)
theorem yX{a b:Int}(h0 : -(2^64)<a)(h1:a<2^64):IntMulOk a b:=IntMulOk.of_left (intBits_le_64 h0 h1)
def Zm:Sp:=fun vs H Q _=>∃(t b:Int),vs=[.int t,.int b]/\0<b/\∀ p H',Same H H'->H' p=some (.tup [.int (vQ t b).num,.int ((vQ t b).den:Int)])->Q (.ref p) H'
theorem QZ (hP:P.given.tree=none) (hS:base.NoSeer) (D:Df K mg "_law_fraction" Sv xn) (jx:Kn P w K mg base "_law_divisor" 1 Sn zbP):Kn P w K mg base "_law_fraction" 41 Sv Zm:=by
 refine D.kn sE (fun vs H Q E h=>?_) (fun f cdv A outer s H vs Q E hr h=>?_)
 ·obtain⟨t,b,rfl,_⟩:=h;rfl
 obtain⟨t,b,rfl,b0,q⟩:=h;refine⟨_,(zc (zk (i:=2) sE.nd rfl (.inl rfl) (zu jx hr (za (pv 0) (za (pv 1) zb)))) (zg (zo (xL (za (zh (zW hr (by decide) hP hS ⟨_,_,rfl,rfl,rfl,rfl,rfl⟩) (pv 0) (pv 2)) (za (zh (zW hr (by decide) hP hS ⟨_,_,rfl,rfl,rfl,rfl,rfl⟩) (pv 1) (pv 2)) zb)))))),?_⟩;have e:sg t b =((vd t b:Nat):Int):=by unfold sg;rw[if_neg (by omega)]
 have ne:((vd t b:Nat):Int)≠0:=by rw[← e];exact zcm (by omega)
 obtain⟨e1,e2⟩:=YO (t:=t) (b:=b) (by omega);rw[e]at e1 e2;refine⟨_,rfl,_,rfl,t,b,rfl,_,rfl,_,rfl,_,_,rfl,rfl,ne,_,rfl,_,rfl,_,_,rfl,rfl,ne,(by show 2<=sizeLine;decide),fun p hp=>?_⟩;show Q (.ref p) (upd H p (.tup [.int (t.fdiv ((vd t b:Nat):Int)),.int (b.fdiv ((vd t b:Nat):Int))]));rw[e1,e2];exact q p _ (zf hp _) ze
def JC:Sp:=fun vs H Q _=>∃(c j:Int),vs=[.int c,.int j]/\0<=j/\j<=1000/\∀ m:Int,0<=m->m<2147483648->Q (.int m) H
theorem ten7:(10:Int)^(7:Int).toNat=10000000:=by decide
theorem cpow10{j:Int}(h0:0<=j)(h1:j<=100):CPow 10 j:=⟨h0,by omega,by decide⟩
theorem zeX (hP:P.given.tree=none) (hS:base.NoSeer) (D:Df K mg "_law_mixed" Sw jm) (zi:mg "range" = none):Kn P w K mg base "_law_mixed" 41 Sw JC:=by
 refine D.kn sR (fun vs H Q E h=>?_) (fun f cdv A outer s H vs Q E hr h=>?_)
 ·obtain⟨c,j,rfl,_⟩:=h;rfl
 obtain⟨c,j,rfl,j0,j1,q⟩:=h;refine⟨_,(zc (yD (zQ Xx (pv 0) (zh zd9 zd zd) (kae _)) (zc (zk (i:=2) sR.nd rfl (.inl rfl) (zh (zW hr (by decide) hP hS ⟨_,_,rfl,rfl,rfl,rfl,rfl⟩) (pv 0) zd)) (zc (yw PassesOwn.never rfl (zF rfl zi (za (pv 1) zb)) (zt (i:=3) sR.nd rfl (.inl rfl)) (zg (zk (i:=2) sR.nd rfl (.inl rfl) (zh (zW hr (by decide) hP hS ⟨_,_,rfl,rfl,rfl,rfl,rfl⟩) (pv 2) (zh zd9 zd zd))))) (zg (zo (zh zN (pv 2) (zh zd9 zd zd)))))) zO) (zc (zk (i:=4) sR.nd rfl (.inl rfl) (zh zN (zh zL (zh ye (zh ye (zh zN (pv 0) zd) (zh zL (zh zL zd (pv 1)) (pv 1))) (zh zL zd (pv 1))) zd) zd)) (zg (zo (zh zN (zh zL (pv 4) (zh ye (zh ye (zh zN (pv 4) zd) (zh zL zd (pv 1))) zd)) zd))))),?_⟩;have n1:(2147483647:Int)≠0:=by decide
 have n2:(2147483629:Int)≠0:=by decide
 have n3:(65537:Int)≠0:=by decide
 have n4:(1000:Int)≠0:=by decide
 have n5:(10:Int)^(7:Int).toNat≠0:=by decide
 refine⟨_,rfl,_,_,rfl,rfl,cpow10 (by decide) (by decide),_,_,rfl,rfl,_,rfl,?_⟩;refine ite2 (fun cc=>?_) (fun cc=>?_)
 ·refine⟨_,rfl,_,_,rfl,rfl,n4,?_⟩;refine⟨_,rfl,j,rfl,(by omega),(by omega),?_⟩;refine yv (lo:=0) (n:=j.toNat) (fun i σ H'=>∃ lf o3 o4,σ=[some (.int c),some (.int j),some (.int lf),o3,o4]/\H'=H) ⟨_,none,none,rfl,rfl⟩ ?_ ?_
  ·rintro i σ H' hi ⟨lf,o3,o4,rfl,rfl⟩
   exact⟨_,rfl,_,_,rfl,rfl,cpow10 (by decide) (by decide),_,_,rfl,rfl,n5,_,_,_,rfl,rfl⟩
  ·rintro σ H' ⟨lf,o3,o4,rfl,rfl⟩
   refine⟨_,rfl,_,_,rfl,rfl,cpow10 (by decide) (by decide),_,_,rfl,rfl,n5,?_⟩
   dsimp only
   rw[ten7];have h0:=wp lf (show(0:Int)<10000000 by decide);have h1:=wv lf (show(0:Int)<10000000 by decide);exact q _ h0 (by omega)
 ·have f0:=wp c (show(0:Int)<2147483647 by decide);have f1:=wv c (show(0:Int)<2147483647 by decide);refine⟨_,rfl,_,_,rfl,rfl,n1,_,rfl,_,_,rfl,rfl,yX (by decide) (by decide),_,rfl,_,_,rfl,rfl,qO (by omega) (by omega),_,_,rfl,rfl,_,rfl,_,_,rfl,rfl,yX (by decide) (by decide),_,_,rfl,rfl,_,_,rfl,rfl,qO (by decide) (by decide),_,_,rfl,rfl,n1,?_⟩
  dsimp only
  generalize ((c.fmod 2147483647+40503*j*j+17*j)*48271).fmod 2147483647=o at *;refine⟨_,rfl,_,rfl,_,_,rfl,rfl,n3,_,rfl,_,_,rfl,rfl,yX (by decide) (by decide),_,_,rfl,rfl,_,_,rfl,rfl,_,_,rfl,rfl,qO ?_ ?_,_,_,rfl,rfl,n2,?_⟩
  ·have h0:=wp o (show(0:Int)<65537 by decide);show -(2^64)<o.fmod 65537+3*j+1;omega
  ·have h1:=wv o (show(0:Int)<65537 by decide);show o.fmod 65537+3*j+1<2^64;omega
  dsimp only
  generalize o *(o.fmod 65537+3*j+1)=x;have h0:=wp x (show(0:Int)<2147483629 by decide);have h1:=wv x (show(0:Int)<2147483629 by decide);exact q _ h0 (by omega)
def Qg:Sp:=fun vs H Q _=>∃(k c:Int),vs=[.int k,.int c]/\kab k/\∀ x v H',Same H H'->RN H' x v->x.ok k->Q v H'
theorem zeK{k c m:Int}(hk:1<k)(h0:0<=m)(h1:m<4)(c0:0<=c)(c1:c<k):∃ w:Int,atI [V.int 0,V.int 1,V.int (k - 1),V.int c] m=some (.int w)/\0<=w/\w<k:=by
 rcases (show m=0\/m=1\/m=2\/m=3 by omega)with rfl|rfl|rfl|rfl
 ·exact⟨0,rfl,by omega,by omega⟩
 ·exact⟨1,rfl,by omega,by omega⟩
 ·exact⟨k - 1,rfl,by omega,by omega⟩
 ·exact⟨c,rfl,c0,c1⟩
theorem zcl (hP:P.given.tree=none) (hS:base.NoSeer) (D:Df K mg "_law_drawn" Sx jr) (yE:Kn P w K mg base "_law_fraction" 41 Sv Zm):Kn P w K mg base "_law_drawn" 42 Sx Qg:=by
 refine D.kn Jc (fun vs H Q E h=>?_) (fun f cdv A outer s H vs Q E hr h=>?_)
 ·obtain⟨k,c,rfl,_⟩:=h;rfl
 obtain⟨k,c,rfl,hk,q⟩:=h;have kl:=hk.lt;refine⟨_,(zc (yD (zQ Xx (pv 0) zd (kae _)) (zg (zo (zD zw (yn (za zd (za zd (za (zh jA (pv 0) zd) (za (zh zN (zh (zW hr (by decide) hP hS ⟨_,_,rfl,rfl,rfl,rfl,rfl⟩) (pv 1) zd) (pv 0)) zb))))) (zh zN (pv 1) zd)))) zO) (zc (yD (zQ xX (zh zN (pv 1) zd) zd (kae _)) (zg (zo (xL (za (zh jA (zh zN (zh (zW hr (by decide) hP hS ⟨_,_,rfl,rfl,rfl,rfl,rfl⟩) (pv 1) zd) zd) zd) (za zd zb))))) zO) (zg (zo (zu yE hr (za (zh jA (zh zN (zh (zW hr (by decide) hP hS ⟨_,_,rfl,rfl,rfl,rfl,rfl⟩) (pv 1) zd) zd) zd) (za (zh ye zd (zh zN (zh (zW hr (by decide) hP hS ⟨_,_,rfl,rfl,rfl,rfl,rfl⟩) (pv 1) zd) zd)) zb))))))),?_⟩;have n4:(4:Int)≠0:=by decide
 have n3:(3:Int)≠0:=by decide
 refine⟨_,rfl,_,_,rfl,rfl,_,rfl,?_⟩;refine ite2 (fun ck=>?_) (fun ck=>?_)
 ·have k0:0<k:=of_decide_eq_true ck;have k1:1<k:=by
   rcases hk with h|h
   ·omega
   ·exact h.1
  refine⟨_,rfl,_,_,rfl,rfl,_,rfl,_,_,rfl,rfl,n4,_,rfl,_,_,rfl,rfl,(show k≠0 by omega),(by show 4<=sizeLine;decide),fun p hp=>?_⟩;obtain⟨w,ew,w0,w1⟩:=zeK k1 (wp c (show(0:Int)<4 by decide)) (wv c (show(0:Int)<4 by decide)) (wp (c.fdiv 4) k0) (wv (c.fdiv 4) k0);exact⟨_,rfl,_,_,rfl,rfl,n4,p,_,_,_,rfl,rfl,SqL.of ze,ew,q (.z w) _ _ (zf hp _) RN.of_z ⟨by omega,w0,w1⟩⟩
 ·have k0:k=0:=by
   have:¬ 0<k:=of_decide_eq_false (uv.mpr ck);omega
  refine⟨_,rfl,_,_,rfl,rfl,n3,rfl,_,rfl,?_⟩;refine ite2 (fun c3=>?_) (fun c3=>?_)
  ·refine⟨_,rfl,_,_,rfl,rfl,n3,_,_,rfl,rfl,n3,_,_,rfl,rfl,(by show 2<=sizeLine;decide),fun p hp=>?_⟩;exact q (.q ((((c.fdiv 3).fmod 3 - 1:Int)):Rat)) _ _ (zf hp _) (RN.of_q (r:=(((c.fdiv 3).fmod 3 - 1:Int):Rat)) ze) k0
  ·have b0:=wp (c.fdiv 57) (show(0:Int)<4 by decide);exact⟨_,rfl,_,_,rfl,rfl,n3,_,_,rfl,rfl,(by show(19:Int)≠0;decide),_,_,rfl,rfl,_,rfl,_,_,rfl,rfl,(by show(57:Int)≠0;decide),_,_,rfl,rfl,n4,_,_,rfl,rfl,_,_,rfl,(by omega),fun p H' g hp=>q (.q _) _ H' g (RN.of_q hp) k0⟩
def xE:Sp:=fun vs H Q _=>∃(k w:Int),vs=[.int k,.int w]/\kab k/\∀ v H',Same H H'->RN H' (nnum k w) v->Q v H'
theorem ze1 (D:Df K mg "_law_make" Sy jQ):Kn P w K mg base "_law_make" 1 Sy xE:=by
 refine D.kn QB (fun vs H Q E h=>?_) (fun f cdv A outer s H vs Q E hr h=>?_)
 ·obtain⟨k,w,rfl,_⟩:=h;rfl
 obtain⟨k,x,rfl,hk,q⟩:=h;have kl:=hk.lt;refine⟨_,(zc (yD (zQ xX (pv 0) zd (kae _)) (zg (zo (xL (za (pv 1) (za zd zb))))) zO) (zg (zo (zh zN (pv 1) (pv 0))))),?_⟩;refine⟨_,rfl,rfl,_,rfl,?_⟩;refine ite2 (fun c=>?_) (fun c=>?_)
 ·have k0:k=0:=V.int.inj (of_decide_eq_true c);subst k0;exact⟨_,rfl,(by show 2<=sizeLine;decide),fun p hp=>q _ _ (zf hp _) (RN.of_q (r:=(x:Rat)) ze)⟩
 ·have k0:k≠0:=fun e=>c (by show decide (V.int k=V.int 0)=true;rw[e];decide)
  refine⟨_,rfl,_,rfl,_,_,rfl,rfl,k0,q _ _ (Same.refl H) ?_⟩;unfold nnum;rw[if_neg k0];exact RN.of_z
theorem ze5 (D:Df K mg "_law_plus" Sz jR) (yE:Kn P w K mg base "_law_fraction" 41 Sv Zm):Kn P w K mg base "_law_plus" 42 Sz (jo nadd):=by
 refine D.kn QP (fun vs H Q E h=>?_) (fun f cdv A outer s H vs Q E hr h=>?_)
 ·obtain⟨k,x,y,a,b,rfl,_⟩:=h;rfl
 obtain⟨k,x,y,a,b,rfl,T,q⟩:=h;have kl:=T.kd.lt;refine⟨_,(zc (yD (zQ xX (pv 0) zd (kae _)) (zg (zo (zu yE hr (za (zh ye (zh zL (zD zE (pv 1) zd) (zD zE (pv 2) zd)) (zh zL (zD zE (pv 2) zd) (zD zE (pv 1) zd))) (za (zh zL (zD zE (pv 1) zd) (zD zE (pv 2) zd)) zb))))) zO) (zg (zo (zh zN (zh ye (pv 1) (pv 2)) (pv 0))))),?_⟩
 rcases Zw T with⟨rfl,r,s,pa,pb,rfl,rfl,rfl,rfl,ha,hb,rn,rd,sn,sd⟩|⟨k0,hp,i,j,rfl,rfl,rfl,rfl,i0,ik,j0,jk⟩
 ·refine⟨_,rfl,rfl,_,rfl,iteT ?_⟩;refine⟨_,rfl,pa,_,_,_,rfl,rfl,SqT.of ha,rfl,_,rfl,pb,_,_,_,rfl,rfl,SqT.of hb,rfl,_,_,rfl,rfl,xA rn sd,_,rfl,pb,_,_,_,rfl,rfl,SqT.of hb,rfl,_,rfl,pa,_,_,_,rfl,rfl,SqT.of ha,rfl,_,_,rfl,rfl,xA sn rd,_,_,rfl,rfl,_,rfl,pa,_,_,_,rfl,rfl,SqT.of ha,rfl,_,rfl,pb,_,_,_,rfl,rfl,SqT.of hb,rfl,_,_,rfl,rfl,xA rd sd,_,_,rfl,GN (den_pos r) (den_pos s),fun p H' g h=>?_⟩;rw[zei]at h;exact q _ H' g (RN.of_q h)
 ·refine⟨_,rfl,rfl,_,rfl,?_⟩;rw[decide_eq_false (fun e=>k0 (V.int.inj e))];refine iteF ?_;refine⟨_,rfl,_,rfl,_,_,rfl,rfl,_,rfl,_,_,rfl,rfl,k0,?_⟩;exact q _ _ (Same.refl H) RN.of_z
theorem zcZ (D:Df K mg "_law_times" Sz ja) (yE:Kn P w K mg base "_law_fraction" 41 Sv Zm):Kn P w K mg base "_law_times" 42 Sz (jo nmul):=by
 refine D.kn JQ (fun vs H Q E h=>?_) (fun f cdv A outer s H vs Q E hr h=>?_)
 ·obtain⟨k,x,y,a,b,rfl,_⟩:=h;rfl
 obtain⟨k,x,y,a,b,rfl,T,q⟩:=h;have kl:=T.kd.lt;refine⟨_,(zc (yD (zQ xX (pv 0) zd (kae _)) (zg (zo (zu yE hr (za (zh zL (zD zE (pv 1) zd) (zD zE (pv 2) zd)) (za (zh zL (zD zE (pv 1) zd) (zD zE (pv 2) zd)) zb))))) zO) (zg (zo (zh zN (zh zL (pv 1) (pv 2)) (pv 0))))),?_⟩
 rcases Zw T with⟨rfl,r,s,pa,pb,rfl,rfl,rfl,rfl,ha,hb,rn,rd,sn,sd⟩|⟨k0,hp,i,j,rfl,rfl,rfl,rfl,i0,ik,j0,jk⟩
 ·refine⟨_,rfl,rfl,_,rfl,iteT ?_⟩;refine⟨_,rfl,pa,_,_,_,rfl,rfl,SqT.of ha,rfl,_,rfl,pb,_,_,_,rfl,rfl,SqT.of hb,rfl,_,_,rfl,rfl,xA rn sn,_,rfl,pa,_,_,_,rfl,rfl,SqT.of ha,rfl,_,rfl,pb,_,_,_,rfl,rfl,SqT.of hb,rfl,_,_,rfl,rfl,xA rd sd,_,_,rfl,GN (den_pos r) (den_pos s),fun p H' g h=>?_⟩;rw[zaP]at h;exact q _ H' g (RN.of_q h)
 ·refine⟨_,rfl,rfl,_,rfl,?_⟩;rw[decide_eq_false (fun e=>k0 (V.int.inj e))];refine iteF ?_;refine⟨_,rfl,_,rfl,_,_,rfl,rfl,jT i0 (by have:=hp.hi;omega),_,rfl,_,_,rfl,rfl,k0,?_⟩;exact q _ _ (Same.refl H) RN.of_z
theorem zhB{k:Int}(hk:kab k){x y:Nb}(ox:x.ok k)(oy:y.ok k):nadd k x (nmul k (nnum k (-1)) y)=nsub k x y:=by
 obtain⟨F,_,_,⟨φ⟩⟩:=La.qD hk;have o1:=La.zR hk (-1);have om:=La.xm hk o1 oy;refine φ.inj (La.jU hk ox om) (Jm (by have:=hk.lt;omega) ox oy) ?_;rw[φ.add ox om,φ.mul o1 oy,φ.sub ox oy,φ.num];have:(La.ι (-1):F) = -1:=by
  have h1:(La.ι (-1):F)+La.ι 1=0:=by rw[← La.ι_add];exact La.ι_zero
  rw[La.ι_one]at h1
  grind
 rw[this]
 grind
def Zf:Sp:=fun vs H Q _=>∃(k:Int)(x y:Nb)(a b:V),vs=[.int k,a,b]/\kab k/\x.ok k/\y.ok k/\nsm 30000000 x/\nsm 30000000 y/\RN H x a/\RN H y b/\∀ v H',Same H H'->RN H' (nsub k x y) v->Q v H'
theorem zdo (D:Df K mg "_law_minus" Sz je) (zM:Kn P w K mg base "_law_make" 1 Sy xE) (yh:Kn P w K mg base "_law_plus" 42 Sz (jo nadd)) (yx:Kn P w K mg base "_law_times" 42 Sz (jo nmul)):Kn P w K mg base "_law_minus" 43 Sz Zf:=by
 refine D.kn Jj (fun vs H Q E h=>?_) (fun f cdv A outer s H vs Q E hr h=>?_)
 ·obtain⟨k,x,y,a,b,rfl,_⟩:=h;rfl
 obtain⟨k,x,y,a,b,rfl,hk,ox,oy,sx,sy,rx,ry,q⟩:=h;refine⟨_,(zg (zo (zu yh hr (za (pv 0) (za (pv 1) (za (zu yx hr (za (pv 0) (za (zu zM hr (za (pv 0) (za (zdJ Qm zd) zb))) (za (pv 2) zb)))) zb)))))),?_⟩;have o1:=La.zR hk (-1);have s1:nsm 30000000 (nnum k (-1)):=yM hk (sm_one.neg.mono (by decide)) (by decide);refine⟨_,rfl,_,rfl,_,rfl,_,rfl,_,rfl,k,-1,rfl,hk,fun v1 H1 g1 r1=>?_⟩;refine⟨_,rfl,k,nnum k (-1),y,_,_,rfl,⟨hk,o1,oy,nsm.mono s1 (by decide),nsm.mono sy (by decide),r1,ry.mono g1⟩,fun v2 H2 g2 r2=>?_⟩;refine⟨k,x,_,_,_,rfl,⟨hk,ox,La.xm hk o1 oy,sx.mono (by decide),(zgk hk o1 oy s1 sy (by decide)).mono (by decide),(rx.mono g1).mono g2,r2⟩,fun v3 H3 g3 r3=>?_⟩;rw[zhB hk ox oy]at r3;exact q v3 H3 ((g1.trans g2).trans g3) r3
def YF:Sp:=fun vs H Q _=>∃(ws us:List Int)(l l':Addr)(m:Nat),vs=[.ref l,.ref l']/\IRow H ws l/\IRow H us l'/\(∀ w∈ws,Sm m w)/\(∀ w∈us,Sm m w)/\2*m<=60000000/\ws.length<sizeLine /\
 ∀ H',Same H H'->Q (.int (La.rdot ws us)) H'
theorem ze0 (D:Df K mg "whole_sum" Sh xU) (m_sum:mg "sum" = none) (m_zip:mg "zip" = none):Kn P w K mg base "whole_sum" 1 Sh YF:=by
 refine D.kn Yi (fun vs H Q E h=>?_) (fun f cdv A outer s H vs Q E hr h=>?_)
 ·obtain⟨ws,us,l,l',m,rfl,_⟩:=h;rfl
 obtain⟨ws,vs,l,l',m,rfl,hl,hl',sw,sw',hsz,hz,q⟩:=h;refine⟨_,(zg (zo (zy (Qr rfl) rfl m_sum zfu (za (qq ["left", "right"] [] [] ⟨rfl,rfl,rfl,rfl,rfl,rfl,by decide +kernel⟩ rfl (jN rfl m_zip (za (pv 0) (za (pv 1) zb))) (jc (zX (yb (by decide)) zY (zX (yb (by decide)) zY xG))) fun _ _ _ _ _ _=>⟨(xJ 2 rfl (zK (zt (i:=0) (by decide:(["left", "right"]:List Str).Nodup) rfl (by first|exact Or.inl rfl|exact Or.inr rfl)) (zK (zt (i:=1) (by decide:(["left", "right"]:List Str).Nodup) rfl (by first|exact Or.inl rfl|exact Or.inr rfl)) xp))),zI,(zh zL (pv 0) (pv 1))⟩) zb)))),?_⟩;refine⟨_,rfl,_,rfl,l,l',ws.map V.int,vs.map V.int,rfl,SqL.of hl,SqL.of hl',?_⟩;have lz:(vm (·*·) ws vs).length=min ws.length vs.length:=wr;refine zdK (xs:=ws.map V.int) (zs:=vs.map V.int) (min ws.length vs.length) (by rw[wc,wc]) (fun i ys' H'=>Same H H'/\ys' =((vm (·*·) ws vs).take i).map V.int) ⟨Same.refl H,by simp⟩ ?_ ?_ ?_
 ·rintro i ys' H' hi ⟨g,rfl⟩
  refine⟨SqL.of (hl.mono g),SqL.of (hl'.mono g),?_⟩;rw[wc,wj,lz];omega
 ·rintro i x z T ys' H' hx hy hi hT ⟨g,rfl⟩
  rw[wf]at hx hy;obtain⟨u,hu,rfl⟩:=vB.mp hx;obtain⟨u',hu',rfl⟩:=vB.mp hy;refine⟨T,_,rfl,SqT.of ze,rfl,_,_,rfl,_,_,rfl,rfl,?_⟩
  first|refine gyes ?_|refine tyes ?_
  refine⟨_,rfl,_,rfl,_,_,rfl,rfl,(sw u (wd hu)).mulOk (sw' u' (wd hu')) (by omega),nxt hi ⟨g.trans (zf hT _),?_⟩⟩;have e:(vm (·*·) ws vs)[i]?=some (u*u'):=by rw[vH,hu,hu']
  rw[zr e,wt];rfl
 ·rintro ys' H' ⟨g,rfl⟩ pl hpl
  rw[← lz,uN];refine⟨pl,_,rfl,SqL.of ze,?_⟩;rw[zbc];exact q _ (g.trans (zf hpl (.lst ((vm (·*·) ws vs).map V.int))))
def zck:Sp:=fun vs H Q _=>∃(W:List (List Int))(v:List Int)(t a:Addr)(ls:List Addr)(m:Nat),vs=[.ref t,.ref a]/\ITab H W t ls/\IRow H v a/\(∀ r∈W,r.length<1000/\∀ w∈r,Sm m w)/\(∀ w∈v,Sm m w)/\2*m<=60000000/\W.length<1000 /\
 ∀ p H',Same H H'->IRow H' (W.map fun r=>La.rdot r v) p->H p=none->Q (.ref p) H'
theorem zf3 (D:Df K mg "whole_image" SA xN) (yV:Kn P w K mg base "whole_sum" 1 Sh YF):Kn P w K mg base "whole_image" 2 SA zck:=by
 refine D.kn XD (fun vs H Q E h=>?_) (fun f cdv A outer s H vs Q E hr h=>?_)
 ·obtain⟨W,v,t,a,ls,m,rfl,_⟩:=h;rfl
 obtain⟨W,v,t,a,ls,m,rfl,hT,hv,sW,sv,hsz,lW,q⟩:=h;have szl:=SV
 refine⟨_,(zg (zo (xK ["row"] [1] (zV (pv 0)) fun _ _ _ _ _ _=>⟨zI,(zu yV hr (za (pv 0) (za (pv 1) zb)))⟩))),?_⟩;have ll:=zj hT.2;have lM:(W.map fun r=>La.rdot r v).length=W.length:=wc _;refine⟨_,rfl,t,rfl,⟨_,SqL.of hT.1⟩,?_⟩;refine yt (xs:=ls.map V.ref) (fun i ys H'=>Same H H'/\ys =((W.map fun r=>La.rdot r v).take i).map V.int) ⟨Same.refl H,by simp⟩ ?_ ?_ ?_
 ·rintro i ys H' hi ⟨g,rfl⟩
  refine⟨SqL.of (g _ _ hT.1),?_⟩;rw[wc,wj,lM];omega
 ·rintro i x ys H' hx hi ⟨g,rfl⟩
  obtain⟨ws,b,hw,hb,rfl,r⟩:=(hT.mono g).row hx;have s1:=sW ws (wd hw)
  first|refine gyes ?_|refine tyes ?_
  refine⟨_,rfl,_,rfl,ws,v,b,a,m,rfl,r,hv.mono g,s1.2,sv,hsz,(by omega),fun H2 g2=>nxt hi ⟨g.trans g2,?_⟩⟩;rw[zr (x:=La.rdot ws v) (by rw[wf,hw];rfl),wt];rfl
 ·rintro ys H' ⟨g,rfl⟩ p hp
  rw[wc,wg (by rw[lM];omega)];exact q p _ (g.trans (zf hp _)) ze (g.none hp)
def QM:Sp:=fun vs H Q _=>∃(M:TB)(n:Nat)(t:Addr)(ras:List Addr),vs=[.ref t]/\kah H M t ras/\(∀ r∈M,r.length=n)/\n<=100/\M.length<=100/\∀ p H',Same H H'->NewR H H' M.flatten p->Q (.ref p) H'
theorem Jo{n:Nat}:∀(M:TB),(∀ r∈M,r.length=n)->M.flatten.length=M.length*n
 | [],_=>by simp
 | r::M,h=>by
  rw[vZ,wu,Jo M (fun r hr=>h r (wD _ hr)),h r wq,uP,vW];omega
theorem zec (D:Df K mg "strung" SB YI):Kn P w K mg base "strung" 1 SB QM:=by
 refine D.kn Se (fun vs H Q E h=>?_) (fun f cdv A outer s H vs Q E hr h=>?_)
 ·obtain⟨M,n,t,ras,rfl,_⟩:=h;rfl
 obtain⟨M,n,t,ras,rfl,hT,hn,n100,m100,q⟩:=h;have szl:=SV
 have lr:=zj hT.2;refine⟨_,(zc (zk (i:=1) Se.nd rfl (.inl rfl) (yn zb)) (zc (yw PassesOwn.never rfl (zV (pv 0)) (zt (i:=2) Se.nd rfl (.inl rfl)) (zg (xI (bm0 (fun _ h=>Xu PySem.F.plainAttrs_list PySem.F.slot_list_extend PySem.F.type_list_extend zc0 h (za (pv 2) zb)) (pv 1))))) (zg (zo (pv 1))))),?_⟩;refine⟨(by show 0<=sizeLine;decide),fun pt hpt=>?_⟩;have g0:=zf hpt (.lst []);refine⟨_,rfl,t,rfl,⟨_,SqL.of (g0 _ _ hT.1)⟩,?_⟩;refine xw (xs:=ras.map V.ref) (fun i σ H'=>∃ us o2,σ=[some (.ref t),some (.ref pt),o2]/\Same H H'/\H' pt=some (.lst us)/\Paired (RN H') (M.take i).flatten us) ⟨[],none,rfl,g0,ze,.nil⟩ ?_ ?_ ?_
 ·rintro i σ H' _ ⟨us,o2,rfl,g,_⟩
  exact SqL.of (g _ _ hT.1)
 ·rintro i v σ H' hv ⟨us,o2,rfl,g,hp,pu⟩
  obtain⟨row,a,hrow,ha,rfl,hR⟩:=(hT.mono g).row hv;obtain⟨zs,hz,pz,lz⟩:=hR.len;have lrow:=hn row (wd hrow);have lu:=zj pu;rw[Jo (n:=n) (M.take i) (fun r hr=>hn r (wE hr)),wj]at lu;have il:=(wm.mp hrow).1;have b1:min i M.length*n<=100*100:=ug (by omega) n100;refine⟨_,rfl,.inl ⟨rfl,_,SqL.of hp⟩,_,rfl,pt,a,us,zs,rfl,rfl,hp,hz,(by omega),us++zs,_,rfl,xl g hpt,ze,?_⟩;rw[zr hrow,List.flatten_append,vZ,List.flatten_nil,gt];exact jC hp (Zi pu pz)
 ·rintro σ H' ⟨us,o2,rfl,g,hp,pu⟩
  rw[wc,wg (by omega)]at pu;exact⟨_,rfl,q pt H' g ⟨⟨us,hp,pu⟩,hpt⟩⟩
theorem zby{n:Nat}:∀(M:TB)(i:Nat)(r:List Nb),(∀ r∈M,r.length=n)->M[i]?=some r->(M.flatten.drop (i*n)).take n=r
 | [],i,r,_,h=>by simp at h
 | r0::M,0,r,hn,h=>by
  have e:r0=r:=by simpa using h
  rw[waj,gG,vZ,List.take_append_of_le_length (by rw[hn r0 wq];exact wl _),wg (by rw[hn r0 wq];exact wl _),e]
 | r0::M,i+1,r,hn,h=>by
  have l0:=hn r0 wq;rw[vZ,vW,GZ (i*n) n,← List.drop_drop];have e:List.drop n r0=[]:=uq (by omega);rw[List.drop_append_of_le_length (by omega),e,GP];exact zby M i r (fun r hr=>hn r (wD _ hr)) (by simpa using h)
def zfd:Sp:=fun vs H Q _=>∃(k:Int)(M:TB)(n m:Nat)(t:Addr)(ras:List Addr),vs=[.int k,.ref t]/\kab k/\kah H M t ras/\TOk k n n m M/\1<=n/\n<=8/\61<=m/\m<=1000 /\
 ∀ p t' b ls H',Same H H'->H' p=some (.tup [.ref t',.int b])->ITab H' (M.map fun r=>r.map (La.scW b)) t' ls->La.Scl k M.flatten (M.flatten.map (La.scW b)) b->Sm 66000 b->(∀ x∈M.flatten,Sm 66000 (La.scW b x))->Q (.ref p) H'
theorem zhj (D:Df K mg "over_one_bottom" SC yJ) (YJ:Kn P w K mg base "scaled" 41 So ZW) (ze2:Kn P w K mg base "strung" 1 SB QM) (m_len:mg "len" = none) (zi:mg "range" = none):Kn P w K mg base "over_one_bottom" 42 SC zfd:=by
 refine D.kn sh (fun vs H Q E h=>?_) (fun f cdv A outer s H vs Q E hr h=>?_)
 ·obtain⟨k,M,n,m,t,ras,rfl,_⟩:=h;rfl
 obtain⟨k,M,n,m,t,ras,rfl,hk,hT,oM,n1,n4,m7,m1000,q⟩:=h;have szl:=SV
 refine⟨_,(zc (zk (i:=2) sh.nd rfl (.inr rfl) (zy zJ rfl m_len ym (za (zD zw (pv 1) zd) zb))) (zc (zk (i:=3) sh.nd rfl (.inr rfl) (zu YJ hr (za (pv 0) (za (zu ze2 hr (za (pv 1) zb)) zb)))) (zg (zo (xL (za (xK ["pair", "width"] [3,2] (zF rfl zi (za (zy zJ rfl m_len ym (za (pv 1) zb)) zb)) fun _ _ _ _ _ _=>⟨zI,(yB xq (zD zE (pv 1) zd) (yW (zh zL (pv 0) (pv 2))) (yW (zh zL (zh ye (pv 0) zd) (pv 2))))⟩) (za (zD zE (pv 3) zd) zb))))))),?_⟩;have lr:=zj hT.2;rw[oM.len]at lr;obtain⟨r0,ras',e0⟩ : ∃ r0 ras',ras=r0::ras':=by
  cases ras with
  | nil=>rw[Gh]at lr;omega
  | cons a b=>exact⟨a,b,rfl⟩
 obtain⟨x0,hx0,hr0⟩:=zU hT.2 (i:=0) (b:=r0) (by rw[e0];rfl);obtain⟨u0,hu0,pu0,lu0⟩:=hr0.len;have lx0:=(oM.ok x0 (wd hx0)).1;have rn:∀ r∈M,r.length=n:=fun r hr=>(oM.ok r hr).1
 have fl:=Jo M rn;rw[oM.len]at fl;have nn:n*n<=64:=ug n4 n4;refine⟨_,rfl,t,_,_,_,rfl,rfl,SqL.of hT.1,(by rw[e0];exact zG (j:=0) rfl),r0,_,rfl,.inl (SqL.of hu0),?_⟩;rw[lu0,lx0];have okf:La.OkR k M.flatten:=fun x hx=>by
  obtain⟨r,hr,hx'⟩:=uO.mp hx;exact(oM.ok r hr).2 x hx'
 refine⟨_,rfl,_,rfl,M,n,t,ras,rfl,hT,rn,(by omega),(by rw[oM.len];omega),fun p1 H1 g1 N1=>?_⟩;refine⟨k,M.flatten,p1,m,rfl,hk,N1.row,okf,(fun x hx=>by
  obtain⟨r,hr,hx'⟩:=uO.mp hx;exact oM.sz r hr x hx'),m7,(by rw[fl];have:(n*n+2)*m<=66*1000:=ug (by omega) m1000;omega),fun pp H2 g2 sc=>?_⟩
 have b18:(M.flatten.length+2)*m<=66000:=by rw[fl];exact vp (ug (show n*n+2<=66 by omega) m1000) (by decide)
 obtain⟨l,ws,b,hp,hl,sc,sb,sw⟩:=sc;have ew:=sc.eq;subst ew;have g12:=g1.trans g2;refine⟨_,rfl,t,_,rfl,.inl (SqL.of (g12 _ _ hT.1)),_,rfl,(by omega),(by rw[wc,← lr];omega),?_⟩;rw[wJ,wc,← lr];have lW:(M.map fun r=>r.map (La.scW b)).length=n:=by rw[wc];exact oM.len
 refine zZ (lo:=0) (n:=n) (fun i ys H'=>∃ ls,ys=ls.map V.ref/\Same H2 H'/\Paired (IRow H') ((M.map fun r=>r.map (La.scW b)).take i) ls) ⟨[],rfl,Same.refl _,.nil⟩ ?_ ?_ ?_
 ·rintro i ys H' hi ⟨ls,rfl,g,pr⟩
  have:=zj pr;rw[wj]at this;rw[wc];omega
 ·rintro i ys H' hi ⟨ls,rfl,g,pr⟩
  first|refine gyes ?_|refine tyes ?_
  rw[vt];refine⟨_,rfl,pp,_,_,_,rfl,rfl,SqT.of (g _ _ hp),rfl,_,rfl,_,rfl,_,_,rfl,rfl,yX (by omega) (by omega),_,rfl,_,rfl,_,_,rfl,rfl,_,rfl,_,_,rfl,rfl,yX (by omega) (by omega),_,rfl,l,_,rfl,SqL.of (hl.mono g),fun p3 hp3=>?_⟩;obtain⟨r,hr,_⟩:=oM.get hi;have ec:cutV ((M.flatten.map (La.scW b)).map V.int) (some ((i:Int) *(n:Int))) (some (((i:Int)+1) *(n:Int))) =(r.map (La.scW b)).map V.int:=by
   rw[show(i:Int) *(n:Int) =((i*n:Nat):Int) by rw[uW],show((i:Int)+1) *(n:Int) =(((i+1)*n:Nat):Int) by rw[uW];rfl,zhF,← uf,← vR,← uf,← vR,show(i+1)*n - i*n=n by rw[vW];omega,zby M i r rn hr]
  rw[ec];refine nxt hi ⟨ls++[p3],by rw[wt];rfl,g.trans (zf hp3 _),?_⟩;rw[zr (x:=r.map (La.scW b)) (by rw[wf,hr];rfl)];exact ITab.snoc pr (zf hp3 _) ze
 ·rintro ys H' ⟨ls,rfl,g,pr⟩ t' ht'
  rw[wg (by omega)]at pr;have g3:=zf ht' (.lst (ls.map V.ref));have T3:ITab (upd H' t' (.lst (ls.map V.ref))) (M.map fun r=>r.map (La.scW b)) t' ls:=⟨ze,yZ (fun _ _ r=>r.mono g3) pr⟩;generalize upd H' t' (.lst (ls.map V.ref))=H3 at *;refine⟨_,rfl,pp,_,_,_,rfl,rfl,SqT.of (g3 _ _ (g _ _ hp)),rfl,(by show 2<=sizeLine;decide),fun p hp'=>?_⟩;have g4:=zf hp' (.tup [.ref t',.int b]);exact q p t' b ls _ (((g12.trans g).trans g3).trans g4) ze (T3.mono g4) sc (sb.mono b18) (fun x hx=>(sw _ (wk.mpr ⟨x,hx,rfl⟩)).mono b18)
def WOk(m n:Nat)(W:List (List Int)):Prop:=W.length=n/\∀ r∈W,r.length=n/\∀ w∈r,Sm m w
theorem ze9(W:List (List Int))(s:Nat)(i:Nat)(hi:i<s):(La.bfac W s).take (i+2+1) =(La.bfac W s).take (i+2)++[-(La.rdot ((W.getD s []).take s) (La.bpow ((W.take s).map (·.take s)) ((W.take s).map (·.getD s 0)) i))]:=by
 refine zr (i:=i+2) ?_;unfold La.bfac;rw[Gc,Gc,wf,ve hi];rfl
def zha:Sp:=fun vs H Q _=>∃(W:List (List Int))(n s:Nat)(t:Addr)(ls:List Addr),vs=[.ref t,.int (s:Int)]/\ITab H W t ls/\WOk 66000 n W/\n<=8/\s<n /\
 ∀ p H',Same H H'->IRow H' (La.bfac W s) p->Q (.ref p) H'
theorem zhR (D:Df K mg "border_factors" SD yR) (yV:Kn P w K mg base "whole_sum" 1 Sh YF) (XX:Kn P w K mg base "whole_image" 2 SA zck) (zi:mg "range" = none):Kn P w K mg base "border_factors" 3 SD zha:=by
 refine D.kn sk (fun vs H Q E h=>?_) (fun f cdv A outer s' H vs Q E hr h=>?_)
 ·obtain⟨W,n,s,t,ls,rfl,_⟩:=h;rfl
 obtain⟨W,n,s,t,ls,rfl,hT,oW,n4,sn,q⟩:=h;obtain⟨lW,oW⟩:=oW;have szl:=SV
 refine⟨_,(zc (zaw 2 sk.nd ["size"] [1] (zV (yB xq (pv 0) xt (yW (pv 1)))) fun _ _ _ _ _ _=>⟨zI,(yB xq (pv 0) xt (yW (pv 1)))⟩) (zc (zk (i:=3) sk.nd rfl (.inl rfl) (yB xq (zD zw (pv 0) (pv 1)) xt (yW (pv 1)))) (zc (zaw 4 sk.nd ["size"] [1] (zV (yB xq (pv 0) xt (yW (pv 1)))) fun _ _ _ _ _ _=>⟨zI,(zD zw (pv 0) (pv 1))⟩) (zc (zk (i:=5) sk.nd rfl (.inl rfl) (yn (za zd (za (zdJ Qm (zD zw (zD zw (pv 0) (pv 1)) (pv 1))) zb)))) (zc (yw PassesOwn.never rfl (zF rfl zi (za (pv 1) zb)) (zt (i:=6) sk.nd rfl (.inl rfl)) (zc (yD (zQ Xx (pv 6) zd (kae _)) (zg (zk (i:=4) sk.nd rfl (.inl rfl) (zu XX hr (za (pv 2) (za (pv 4) zb))))) zO) (zg (xI (bm0 (fun _ h=>Xu PySem.F.plainAttrs_list PySem.F.slot_list_append PySem.F.type_list_append yN h (za (zdJ Qm (zu yV hr (za (pv 3) (za (pv 4) zb)))) zb)) (pv 5)))))) (zg (zo (pv 5)))))))),?_⟩;have ll:=zj hT.2;rw[lW]at ll;have lTk:(W.take s).length=s:=by rw[wj];omega
 refine⟨_,rfl,_,rfl,_,rfl,t,_,rfl,SqL.of hT.1,fun p1 hp1=>?_⟩;rw[XO,← vR];have g1:=zf hp1 (.lst ((ls.take s).map V.ref));have e1:upd H p1 (.lst ((ls.take s).map V.ref)) p1=some (.lst ((ls.take s).map V.ref)):=ze;have T1:ITab (upd H p1 (.lst ((ls.take s).map V.ref))) (W.take s) p1 (ls.take s):=⟨ze,yZ (fun _ _ r=>r.mono g1) (zaH hT.2 s)⟩;generalize upd H p1 (.lst ((ls.take s).map V.ref))=H1 at *;refine⟨p1,rfl,⟨_,SqL.of e1⟩,?_⟩;have lI:((W.take s).map (·.take s)).length=s:=by rw[wc];exact lTk
 refine yt (xs:=(ls.take s).map V.ref) (fun i ys H'=>∃ zs,ys=zs.map V.ref/\Same H1 H'/\Paired (IRow H') (((W.take s).map (·.take s)).take i) zs) ⟨[],rfl,Same.refl _,.nil⟩ ?_ ?_ ?_
 ·rintro i ys H' hi ⟨zs,rfl,g,pr⟩
  refine⟨SqL.of (g _ _ e1),?_⟩;have:=zj pr;rw[wj]at this;rw[wc];omega
 ·rintro i x ys H' hx hi ⟨zs,rfl,g,pr⟩
  obtain⟨ws,b,hw,hb,rfl,r⟩:=(T1.mono g).row hx
  first|refine gyes ?_|refine tyes ?_
  refine⟨_,rfl,_,rfl,_,rfl,b,_,rfl,SqL.of r,fun p3 hp3=>?_⟩;rw[XO,← vR];refine nxt hi ⟨zs++[p3],by rw[wt];rfl,g.trans (zf hp3 _),?_⟩;rw[zr (x:=ws.take s) (by rw[wf,hw];rfl)];exact ITab.snoc pr (zf hp3 _) ze
 rintro ys H2 ⟨zs,rfl,g2,pr2⟩ pI hpI
 rw[wc,wg (by rw[lI,wj];omega)]at pr2;have g3:=zf hpI (.lst (zs.map V.ref));have TI:ITab (upd H2 pI (.lst (zs.map V.ref))) ((W.take s).map (·.take s)) pI zs:=⟨ze,yZ (fun _ _ r=>r.mono g3) pr2⟩;generalize upd H2 pI (.lst (zs.map V.ref))=H3 at *;have g03:=(g1.trans g2).trans g3;clear e1 T1 g1 g2 pr2 hpI g3 hp1;obtain⟨b0,hb0⟩ : ∃ b0,ls[s]?=some b0:=⟨ls[s]'(by omega),wa (by omega)⟩;obtain⟨ws,hws,rws⟩:=zU hT.2 hb0;have gds:W.getD s []=ws:=by rw[wb,hws];rfl
 have ows:=oW ws (wd hws);refine⟨_,rfl,_,rfl,t,_,_,_,rfl,rfl,SqL.of (g03 _ _ hT.1),zG (by rw[wf,hb0];rfl),_,rfl,_,rfl,b0,_,rfl,SqL.of (rws.mono g03),fun pB hpB=>?_⟩;rw[XO,← vR];have g4:=zf hpB (.lst ((ws.take s).map V.int));have RB:IRow (upd H3 pB (.lst ((ws.take s).map V.int))) (ws.take s) pB:=ze;generalize upd H3 pB (.lst ((ws.take s).map V.int))=H4 at *;have g04:=g03.trans g4;replace TI:=TI.mono g4;refine⟨_,rfl,_,rfl,_,rfl,t,_,rfl,SqL.of (g04 _ _ hT.1),fun p5 hp5=>?_⟩;rw[XO,← vR];have g5:=zf hp5 (.lst ((ls.take s).map V.ref));have e5:upd H4 p5 (.lst ((ls.take s).map V.ref)) p5=some (.lst ((ls.take s).map V.ref)):=ze;have T5:ITab (upd H4 p5 (.lst ((ls.take s).map V.ref))) (W.take s) p5 (ls.take s):=⟨ze,yZ (fun _ _ r=>r.mono (g04.trans g5)) (zaH hT.2 s)⟩;generalize upd H4 p5 (.lst ((ls.take s).map V.ref))=H5 at *;refine⟨p5,rfl,⟨_,SqL.of e5⟩,?_⟩;have lV:((W.take s).map (·.getD s 0)).length=s:=by rw[wc];exact lTk
 refine yt (xs:=(ls.take s).map V.ref) (fun i ys H'=>H'=H5/\ys =(((W.take s).map (·.getD s 0)).take i).map V.int) ⟨rfl,by simp⟩ ?_ ?_ ?_
 ·rintro i ys H' hi ⟨rfl,rfl⟩
  refine⟨SqL.of e5,?_⟩;rw[wc,wj];omega
 ·rintro i x ys H' hx hi ⟨rfl,rfl⟩
  obtain⟨us,b,hw,hb,rfl,r⟩:=T5.row hx;have ou:=oW us (wE (wd hw));have hs':us[s]?=some us[s]:=wa (by omega)
  first|refine gyes ?_|refine tyes ?_
  refine⟨_,rfl,_,rfl,b,_,_,_,rfl,rfl,SqL.of r,zG (by rw[wf,hs'];rfl),nxt hi ⟨rfl,?_⟩⟩;rw[zr (x:=us[s]) (by rw[wf,hw];show some (us.getD s 0)=_;rw[wb,hs'];rfl),wt];rfl
 rintro ys H6 ⟨rfl,rfl⟩ pV hpV
 rw[wc,wg (by rw[lV,wj];omega)];have g6:=zf hpV (.lst (((W.take s).map (·.getD s 0)).map V.int));have RV:IRow (upd H6 pV (.lst (((W.take s).map (·.getD s 0)).map V.int))) ((W.take s).map (·.getD s 0)) pV:=ze;generalize upd H6 pV (.lst (((W.take s).map (·.getD s 0)).map V.int))=H7 at *;have g57:=g5.trans g6;have g07:=g04.trans g57;replace TI:=TI.mono g57;replace RB:=RB.mono g57;clear e5 T5 g4 g5 g6 g57 hp5 hpV hpB;obtain⟨wss,hss⟩ : ∃ x,ws[s]?=some x:=⟨_,wa (show s<ws.length by omega)⟩;have gss:(W.getD s []).getD s 0=wss:=by rw[gds,wb,hss];rfl
 refine⟨_,rfl,_,rfl,t,_,_,_,rfl,rfl,SqL.of (g07 _ _ hT.1),zG (by rw[wf,hb0];rfl),_,rfl,b0,_,_,_,rfl,rfl,SqL.of (rws.mono g07),zG (by rw[wf,hss];rfl),_,rfl,(by show 2<=sizeLine;decide),fun pt hpt=>?_⟩;have g8:=zf hpt (.lst [.int 1,.int (-wss)]);have et:upd H7 pt (.lst [.int 1,.int (-wss)]) pt=some (.lst (((La.bfac W s).take (0+2)).map V.int)):=by
  rw[ze];unfold La.bfac;rw[gss];rfl
 have Hpt:H pt=none:=g07.none hpt;have npV:pV≠pt:=fun e=>by have h:=RV;unfold IRow at h;rw[e,hpt]at h;cases h
 have sV:∀ w∈(W.take s).map (·.getD s 0),Sm 66000 w:=fun w hw=>by
  obtain⟨r,hr,rfl⟩:=wk.mp hw;have o:=oW r (wE hr);rw[wb,wa (show s<r.length by omega)];exact o.2 _ (we _)
 have sI:∀ r∈(W.take s).map (·.take s),r.length<=8/\∀ w∈r,Sm 66000 w:=fun r hr=>by
  obtain⟨r',hr',rfl⟩:=wk.mp hr;have o:=oW r' (wE hr');exact⟨by rw[wj];omega,fun w hw=>o.2 w (wE hw)⟩
 have sP:∀ i,i<=8->∀ w∈La.bpow ((W.take s).map (·.take s)) ((W.take s).map (·.getD s 0)) i,Sm 600000 w:=fun i hi w hw=>(Ju sI sV i w hw).mono (by have:(i+1) *(66000+8)<=9 *(66000+8):=wH _ (by omega);omega)
 generalize eI:(W.take s).map (·.take s)=inn at *;generalize eV:(W.take s).map (·.getD s 0)=bes at *;refine⟨_,rfl,s,rfl,(by omega),(by omega),?_⟩;rw[wJ];refine yv (lo:=0) (n:=s) (fun i σ H'=>∃ pV o6,σ=[some (.ref t),some (.int (s:Int)),some (.ref pI),some (.ref pB),some (.ref pV),some (.ref pt),o6]/\Same H7 H'/\IRow H' (La.bpow inn bes (i - 1)) pV/\pV≠pt/\H' pt=some (.lst (((La.bfac W s).take (i+2)).map V.int))) ⟨pV,none,rfl,g8,RV.mono g8,npV,et⟩ ?_ ?_
 ·rintro i σ H8 hi ⟨pV,o6,rfl,g8',RV8,npV8,et8⟩
  rw[vt]
  try dsimp only
  refine qd (fun σ H'=>∃ pV,σ=[some (.ref t),some (.int (s:Int)),some (.ref pI),some (.ref pB),some (.ref pV),some (.ref pt),some (.int (i:Int))]/\Same H8 H'/\IRow H' (La.bpow inn bes i) pV/\pV≠pt) ?_ ?_
  rotate_left
  ·intro hN;refine⟨_,rfl,_,_,rfl,rfl,_,rfl,?_⟩;refine ite2 (fun cc=>?_) (fun cc=>?_)
   ·have i0:0<i:=by have:(0:Int) <(i:Int):=of_decide_eq_true cc;omega
    obtain⟨i',rfl⟩ : ∃ i',i=i'+1:=⟨i - 1,by omega⟩;rw[Nat.add_sub_cancel]at RV8;refine⟨_,rfl,_,rfl,inn,La.bpow inn bes i',pI,pV,zs,600000,rfl,TI.mono g8',RV8,(fun r hr=>⟨by have:=(sI r hr).1;omega,fun w hw=>((sI r hr).2 w hw).mono (by decide)⟩),sP i' (by omega),(by decide),(by rw[← lI]at sn;omega),fun p9 H9 g9 R9 n9=>?_⟩;exact hN _ _ ⟨p9,rfl,g9,R9,fun e=>by rw[e,et8]at n9;cases n9⟩
   ·have i0:i=0:=by
     have:¬(0:Int) <(i:Int):=of_decide_eq_false (uv.mpr cc);omega
    subst i0;exact hN _ _ ⟨pV,rfl,Same.refl _,RV8,npV8⟩
  clear RV8 npV8
  rintro σ H9 ⟨pV,rfl,g9,RV9,npV9⟩
  have g79:=g8'.trans g9;have et9:=g9 _ _ et8;refine⟨_,rfl,.inl ⟨rfl,_,SqL.of et9⟩,_,rfl,_,rfl,ws.take s,La.bpow inn bes i,pB,pV,600000,rfl,RB.mono g79,RV9,(fun w hw=>(ows.2 w (wE hw)).mono (by decide)),sP i (by omega),(by decide),(by rw[wj];omega),fun Ha ga=>?_⟩;have eta:=ga _ _ et9;refine⟨_,rfl,pt,_,_,rfl,rfl,eta,(by rw[wc,wj];omega),?_⟩;refine⟨pV,_,rfl,xl (g79.trans ga) hpt,(show IRow _ _ _ from by unfold IRow;rw[zH npV9];exact RV9.mono ga),npV9,?_⟩;have hb:=ze9 W s i hi;rw[gds,eI,eV]at hb;rw[ze,show i+1+2=i+2+1 by omega,hb,wt];rfl
 ·rintro σ H8 ⟨pV,o6,rfl,g8',RV8,npV8,et8⟩
  rw[wg (by rw[zeL];exact wl _)]at et8;exact⟨_,rfl,q pt H8 (g07.trans g8') et8⟩
def zhh:Sp:=fun vs H Q _=>∃(W:List (List Int))(n:Nat)(t:Addr)(ls:List Addr),vs=[.ref t]/\ITab H W t ls/\WOk 66000 n W/\1<=n/\n<=8 /\
 ∀ p H',Same H H'->IRow H' (La.wgr W n) p->Q (.ref p) H'
theorem zh3 (D:Df K mg "whole_great" SB xR) (yV:Kn P w K mg base "whole_sum" 1 Sh YF) (Yu:Kn P w K mg base "border_factors" 3 SD zha) (zi:mg "range" = none) (m_len:mg "len" = none) (yL:mg "list" = none) (xS:mg "reversed" = none):Kn P w K mg base "whole_great" 4 SB zhh:=by
 refine D.kn sL (fun vs H Q E h=>?_) (fun f cdv A outer s' H vs Q E hr h=>?_)
 ·obtain⟨W,n,t,ls,rfl,_⟩:=h;rfl
 obtain⟨W,n,t,ls,rfl,hT,oW,n1,n4,q⟩:=h;have szl:=SV
 refine⟨_,(zc (zk (i:=1) sL.nd rfl (.inr rfl) (yn (za zd zb))) (zc (yw PassesOwn.never rfl (zF rfl zi (za (zy zJ rfl m_len ym (za (pv 0) zb)) zb)) (zt (i:=2) sL.nd rfl (.inr rfl)) (zc (zk (i:=3) sL.nd rfl (.inr rfl) (XS (K:=K) rfl rfl rfl yL rfl xS (za (zu Yu hr (za (pv 0) (za (pv 2) zb))) zb))) (zg (zk (i:=1) sL.nd rfl (.inr rfl) (xK ["told", "backward", "size"] [1,3,2] (zF rfl zi (za (zh ye (pv 2) zd) zb)) fun _ _ _ _ _ _=>⟨zI,(zu yV hr (za (pv 1) (za (yB xq (pv 2) (yW (zh jA (zh ye (pv 3) zd) (pv 0))) xt) zb)))⟩))))) (zg (zo (pv 1))))),?_⟩;have ll:=zj hT.2;rw[oW.1]at ll;have o4:∀ r∈W,r.length<=8/\∀ w∈r,Sm 66000 w:=fun r hr=>⟨by rw[(oW.2 r hr).1];exact n4,(oW.2 r hr).2⟩
 have sG:∀ s,s<=8->∀ w∈La.wgr W s,Sm 5000000 w:=fun s hs w hw=>(zau o4 s hs w hw).mono (by have:s *(9 *(66000+8)+10)<=8 *(9 *(66000+8)+10):=wH _ hs;omega)
 have sB:∀ s,s<=7->∀ w∈La.bfac W s,Sm 5000000 w:=fun s hs w hw=>(zbf o4 hs w hw).mono (by decide)
 refine⟨(by show 1<=sizeLine;decide),fun p0 hp0=>?_⟩;have g0:=zf hp0 (.lst [.int 1]);refine⟨_,rfl,t,_,rfl,.inl (SqL.of (g0 _ _ hT.1)),_,rfl,(by omega),(by rw[wc,← ll];omega),?_⟩;rw[wJ,wc,← ll];refine yv (lo:=0) (n:=n) (fun i σ H'=>∃ pt o2 o3,σ=[some (.ref t),some (.ref pt),o2,o3]/\Same H H'/\IRow H' (La.wgr W i) pt) ⟨p0,none,none,rfl,g0,ze⟩ ?_ ?_
 ·rintro i σ H1 hi ⟨pt,o2,o3,rfl,g1,R1⟩
  rw[vt];refine⟨_,rfl,_,rfl,W,n,i,t,ls,rfl,hT.mono g1,oW,n4,hi,fun p2 H2 g2 R2=>?_⟩;refine⟨p2,_,rfl,SqL.of R2,fun p3 hp3=>?_⟩;rw[← gZ];have g3:=zf hp3 (.lst ((La.bfac W i).reverse.map V.int));have R3:IRow (upd H2 p3 (.lst ((La.bfac W i).reverse.map V.int))) (La.bfac W i).reverse p3:=ze;generalize upd H2 p3 (.lst ((La.bfac W i).reverse.map V.int))=H3 at *;have g13:=g2.trans g3;refine⟨_,rfl,_,_,rfl,rfl,_,rfl,(by omega),(by omega),?_⟩;rw[show(i:Int)+2 =((i+2:Nat):Int) by omega,wJ];refine zZ (lo:=0) (n:=i+2) (fun j ys H'=>Same H3 H'/\ys =((La.wgr W (i+1)).take j).map V.int) ⟨Same.refl _,by simp⟩ ?_ ?_ ?_
  ·rintro j ys H' hj ⟨g,rfl⟩
   rw[wc,wj];omega
  ·rintro j ys H' hj ⟨g,rfl⟩
   first|refine gyes ?_|refine tyes ?_
   rw[vt];refine⟨_,rfl,_,rfl,_,rfl,_,_,rfl,rfl,_,rfl,_,_,rfl,rfl,_,rfl,p3,_,rfl,SqL.of (R3.mono g),fun p4 hp4=>?_⟩;rw[show(i:Int)+1 - (j:Int) =((i+1 - j:Nat):Int) by omega,Zo,← uf];have g4:=zf hp4 (.lst (((La.bfac W i).reverse.drop (i+1 - j)).map V.int));have R4:IRow (upd H' p4 (.lst (((La.bfac W i).reverse.drop (i+1 - j)).map V.int))) ((La.bfac W i).reverse.drop (i+1 - j)) p4:=ze;generalize upd H' p4 (.lst (((La.bfac W i).reverse.drop (i+1 - j)).map V.int))=H4 at *;refine⟨La.wgr W i,(La.bfac W i).reverse.drop (i+1 - j),pt,p4,5000000,rfl,R1.mono ((g13.trans g).trans g4),R4,sG i (by omega),(fun w hw=>sB i (by omega) w (uR.mp (vJ hw))),(by decide),(by rw[ZB];omega),fun H5 g5=>nxt hj ⟨(g.trans g4).trans g5,?_⟩⟩;have e:(La.wgr W (i+1))[j]?=some (La.rdot (La.wgr W i) ((La.bfac W i).reverse.drop (i+1 - j))):=by
    show((wZ (i+2)).map _)[j]?=_;rw[wf,ve hj];rfl
   rw[zr e,wt];rfl
  ·rintro ys H' ⟨g,rfl⟩ p5 hp5
   rw[wg (by rw[ZB];omega)];exact⟨p5,_,_,rfl,((g1.trans g13).trans g).trans (zf hp5 _),ze⟩
 ·rintro σ H1 ⟨pt,o2,o3,rfl,g1,R1⟩
  exact⟨_,rfl,q pt H1 g1 R1⟩
theorem zhI{m:Nat}{b:Int}(h:Sm m b):∀ i,Sm (1+i*m) (La.bp b i)
 | 0=>sm_one.mono (by omega)
 | i+1=>by
  show Sm (1 +(i+1)*m) (La.bp b i*b);refine((zhI h i).mul h).mono ?_;rw[vW];omega
def zbp:Sp:=fun vs H Q _=>∃(k:Int)(M:TB)(n m:Nat)(t:Addr)(ras:List Addr),vs=[.int k,.ref t]/\kab k/\kah H M t ras/\TOk k n n m M/\1<=n/\n<=8/\(k=0->n<=4)/\61<=m/\m<=1000 /\
 ∀ xs p H',Same H H'->NewR H H' xs p->xs.length=n+1->La.OkR k xs->La.GrP k n M xs->Q (.ref p) H'
theorem ze3 (D:Df K mg "great" SC Jt) (ZQ:Kn P w K mg base "over_one_bottom" 42 SC zfd) (Jz:Kn P w K mg base "whole_great" 4 SB zhh) (ZS:Kn P w K mg base "quotient" 43 Sq zay) (yL:mg "list" = none) (xS:mg "reversed" = none):Kn P w K mg base "great" 44 SC zbp:=by
 refine D.kn Sf (fun vs H Q E h=>?_) (fun f cdv A outer s H vs Q E hr h=>?_)
 ·obtain⟨k,M,n,m,t,ras,rfl,_⟩:=h;rfl
 obtain⟨k,M,n,m,t,ras,rfl,hk,hT,oM,n1,n4,n44,m7,m1000,q⟩:=h;have szl:=SV
 refine⟨_,(zc (zk (i:=2) Sf.nd rfl (.inl rfl) (zu ZQ hr (za (pv 0) (za (pv 1) zb)))) (zc (zk (i:=3) Sf.nd rfl (.inl rfl) (yn zb)) (zc (zk (i:=4) Sf.nd rfl (.inl rfl) zd) (zc (yw PassesOwn.never rfl (zV (zu Jz hr (za (zD zE (pv 2) zd) zb))) (zt (i:=5) Sf.nd rfl (.inl rfl)) (zc (xI (bm0 (fun _ h=>Xu PySem.F.plainAttrs_list PySem.F.slot_list_append PySem.F.type_list_append yN h (za (zu ZS hr (za (pv 0) (za (pv 5) (za (pv 4) zb)))) zb)) (pv 3))) (zg (zhe (i:=4) Sf.nd rfl (.inl rfl) (zD zE (pv 2) zd) zg3)))) (zg (zo (XS (K:=K) rfl rfl rfl yL rfl xS (za (pv 3) zb)))))))),?_⟩;refine⟨_,rfl,_,rfl,k,M,n,m,t,ras,rfl,hk,hT,oM,n1,n4,m7,m1000,fun pp t' b ls H1 g1 hpp T1 sc sb sw=>?_⟩;have gr:=La.zfZ hk n1 n44 oM.len oM.ok sc;refine⟨(by show 0<=sizeLine;decide),fun pt hpt=>?_⟩;have g2:=zf hpt (.lst []);have ht2:upd H1 pt (.lst []) pt=some (.lst []):=ze;generalize upd H1 pt (.lst [])=H2 at *;have oW:WOk 66000 n (M.map fun r=>r.map (La.scW b)):=by
  refine⟨by rw[wc];exact oM.len,fun r hr=>?_⟩;obtain⟨r',hr',rfl⟩:=wk.mp hr;refine⟨by rw[wc];exact(oM.ok r' hr').1,fun w hw=>?_⟩;obtain⟨x,hx,rfl⟩:=wk.mp hw;exact sw x (uO.mpr ⟨r',hr',hx⟩)
 have o4:∀ r∈M.map fun r=>r.map (La.scW b),r.length<=8/\∀ w∈r,Sm 66000 w:=fun r hr=>⟨by rw[(oW.2 r hr).1];exact n4,(oW.2 r hr).2⟩
 have sG:∀ w∈La.wgr (M.map fun r=>r.map (La.scW b)) n,Sm 5000000 w:=fun w hw=>(zau o4 n n4 w hw).mono (by have:n *(9 *(66000+8)+10)<=8 *(9 *(66000+8)+10):=wH _ n4;omega)
 have lG:=ZB (M.map fun r=>r.map (La.scW b)) n;refine⟨_,rfl,pp,_,_,_,rfl,rfl,SqT.of (g2 _ _ hpp),rfl,M.map fun r=>r.map (La.scW b),n,t',ls,rfl,T1.mono g2,oW,n1,n4,fun pw H3 g3 R3=>?_⟩;have g13:=g2.trans g3;refine⟨pw,rfl,⟨_,SqL.of R3⟩,?_⟩;generalize La.wgr (M.map fun r=>r.map (La.scW b)) n=ws at *;have lN:(La.grN k b ws n).length=n+1:=La.qM;refine xw (xs:=ws.map V.int) (fun i σ H'=>∃ us o5,σ=[some (.int k),some (.ref t),some (.ref pp),some (.ref pt),some (.int (La.bp b i)),o5]/\Same H1 H'/\H' pw=some (.lst (ws.map V.int))/\H' pt=some (.lst us)/\Paired (RN H') ((La.grN k b ws n).take i) us) ⟨[],none,rfl,g13,R3,g3 _ _ ht2,.nil⟩ ?_ ?_ ?_
 ·rintro i σ H' _ ⟨us,o5,rfl,g,hw,_⟩
  exact SqL.of hw
 ·rintro i v σ H4 hv ⟨us,o5,rfl,g4,hw4,ht4,pu4⟩
  rw[wf]at hv;obtain⟨x,hx,rfl⟩:=vB.mp hv;have il:i<n+1:=by rw[← lG];exact(wm.mp hx).1
  have sbp:=(zhI sb i).mono (show 1+i*66000<=600000 by have:i*66000<=8*66000:=wH _ (by omega);omega);refine⟨_,rfl,.inl ⟨rfl,_,SqL.of ht4⟩,_,rfl,_,rfl,_,rfl,k,x,La.bp b i,rfl,hk,La.zgq hk sc i,(sG x (wd hx)).mono (by decide),sbp.mono (by decide),fun v5 H5 g5 r5=>?_⟩;have ht5:=g5 _ _ ht4;have lu:=zj pu4;rw[wj]at lu;have nwt:pw≠pt:=fun e=>by
   rw[e,ht4]at hw4;have:=g3 _ _ ht2;rw[e]at R3;unfold IRow at R3;rw[this]at R3;cases ws with
   | nil=>simp at hx
   | cons a b=>cases R3
  refine⟨pt,us,_,rfl,rfl,ht5,(by omega),?_⟩;have npp:pp≠pt:=fun e=>by rw[e,hpt]at hpp;cases hpp
  have hpp5:upd H5 pt (.lst (us++[v5])) pp=some (.tup [.ref t',.int b]):=by rw[zH npp];exact g5 _ _ (g4 _ _ hpp)
  refine⟨_,rfl,_,rfl,pp,_,_,_,rfl,rfl,SqT.of hpp5,rfl,_,_,rfl,rfl,(sbp.mulOk sb (by decide)),?_⟩;refine⟨us++[v5],_,rfl,xl (g4.trans g5) hpt,by rw[zH nwt];exact g5 _ _ hw4,ze,?_⟩;have e:(La.grN k b ws n)[i]?=some (ndiv k (nnum k x) (nnum k (La.bp b i))):=by
   unfold La.grN;rw[wf,ve il];show some (ndiv k (nnum k (ws.getD i 0)) _)=_;rw[wb,hx];rfl
  rw[zr e];exact jC ht5 (yu (yz g5 pu4) r5)
 ·rintro σ H4 ⟨us,o5,rfl,g4,hw4,ht4,pu4⟩
  rw[wc,wg (by omega)]at pu4;refine⟨_,rfl,pt,us,rfl,SqL.of ht4,fun pr hpr=>?_⟩;have g5:=zf hpr (.lst us.reverse);exact q (La.grN k b ws n).reverse pr _ ((g1.trans g4).trans g5) ⟨⟨_,ze,yz g5 (zb1 pu4)⟩,g1.none (g4.none hpr)⟩ (by rw[vE,lN]) (fun x hx=>La.zhg hk x (uR.mp hx)) gr
def primesN:List Nat:=[2,3,5,7,11,13,17,19,23,29,31,37,41,43,47,53,59,61,67,71,73,79,83,89,97]
theorem zd7:∀ w∈primesN,primeB w=true/\1<w/\w<99:=by decide
theorem zem{i:Nat}(h:i<25):∃ k:Int,(([2,3,5,7,11,13,17,19,23,29,31,37,41,43,47,53,59,61,67,71,73,79,83,89,97]:List Int).map V.int)[i]?=some (.int k)/\KindS k:=by
 rw[show(([2,3,5,7,11,13,17,19,23,29,31,37,41,43,47,53,59,61,67,71,73,79,83,89,97]:List Int).map V.int)=primesN.map fun(w:Nat)=>V.int (w:Int)from rfl];have hi:i<primesN.length:=h;refine⟨(primesN[i]:Int),by rw[wf,wa hi];rfl,.inr ?_⟩;obtain⟨h1,h2,h3⟩:=zd7 primesN[i] (we hi);exact⟨by omega,by omega,by rw[wJ];exact h1⟩
def Qx:Sp:=fun vs H Q _=>∃(c:Int),vs=[.int c]/\∀ k H',Same H H'->KindS k->(c.fmod 3=0->k=0)->Q (.int k) H'
theorem zcJ (hP:P.given.tree=none) (hS:base.NoSeer) (D:Df K mg "_law_prime" ["_law_cell"] yY):Kn P w K mg base "_law_prime" 41 ["_law_cell"] Qx:=by
 refine D.kn sU (fun vs H Q E h=>?_) (fun f cdv A outer s H vs Q E hr h=>?_)
 ·obtain⟨c,rfl,_⟩:=h;rfl
 obtain⟨c,rfl,q⟩:=h;obtain⟨es,pa,pb,pc,hes,e0⟩ : ∃(es:List Expr)(pa pb pc:Pos),IntEs es [2,3,5,7,11,13,17,19,23,29,31,37,41,43,47,53,59,61,67,71,73,79,83,89,97]/\kaj yY=Stmt.Assign (targets:=[Expr.Name "_law_primes" pa]) (value:=Expr.List es pb) (pos:=pc) ::(kaj yY).tail:=⟨_,_,_,_,by repeat constructor,rfl⟩;rw[e0];refine⟨_,(zc (zk (i:=1) sU.nd rfl (.inl rfl) (yn (zgH [2,3,5,7,11,13,17,19,23,29,31,37,41,43,47,53,59,61,67,71,73,79,83,89,97] hes))) (zc (yD (zQ xX (zh zN (pv 0) zd) zd (kae _)) (zg (zo zd)) zO) (zg (zo (zD zw (pv 1) (zD zw (yn (za (zh zN (zh (zW hr (by decide) hP hS ⟨_,_,rfl,rfl,rfl,rfl,rfl⟩) (pv 0) zd) zd) (za (zh zN (zh (zW hr (by decide) hP hS ⟨_,_,rfl,rfl,rfl,rfl,rfl⟩) (pv 0) zd) zd) zb))) (zh jA (zh zN (pv 0) zd) zd))))))),?_⟩;have n3:(3:Int)≠0:=by decide
 refine⟨(by show 25<=sizeLine;decide),fun p hp=>?_⟩;have hpp:upd H p (.lst (([2,3,5,7,11,13,17,19,23,29,31,37,41,43,47,53,59,61,67,71,73,79,83,89,97]:List Int).map V.int)) p=some (.lst (([2,3,5,7,11,13,17,19,23,29,31,37,41,43,47,53,59,61,67,71,73,79,83,89,97]:List Int).map V.int)):=ze;have g1:=zf hp (.lst (([2,3,5,7,11,13,17,19,23,29,31,37,41,43,47,53,59,61,67,71,73,79,83,89,97]:List Int).map V.int));generalize upd H p (.lst (([2,3,5,7,11,13,17,19,23,29,31,37,41,43,47,53,59,61,67,71,73,79,83,89,97]:List Int).map V.int))=H1 at *;refine⟨_,rfl,_,_,rfl,rfl,n3,rfl,_,rfl,?_⟩;refine ite2 (fun cc=>?_) (fun cc=>?_)
 ·exact q 0 _ g1 (.inl rfl) (fun _=>rfl)
 ·have c3:c.fmod 3≠0:=fun e=>cc (by show decide (V.int (c.fmod 3)=V.int 0)=true;rw[e];decide)
  have f0:=wp c (show(0:Int)<3 by decide);have f1:=wv c (show(0:Int)<3 by decide);have a0:=wp (c.fdiv 3) (show(0:Int)<4 by decide);have a1:=wv (c.fdiv 3) (show(0:Int)<4 by decide);have b0:=wp (c.fdiv 3) (show(0:Int)<25 by decide);have b1:=wv (c.fdiv 3) (show(0:Int)<25 by decide);refine⟨_,rfl,_,rfl,_,_,rfl,rfl,n3,_,_,rfl,rfl,(by show(4:Int)≠0;decide),_,rfl,_,_,rfl,rfl,n3,_,_,rfl,rfl,(by show(25:Int)≠0;decide),(by show 2<=sizeLine;decide),fun p2 hp2=>?_⟩;have g2:=zf hp2 (.lst [V.int ((c.fdiv 3).fmod 4),V.int ((c.fdiv 3).fmod 25)]);obtain⟨i,ei,hi⟩ : ∃ i:Nat,atI [V.int ((c.fdiv 3).fmod 4),V.int ((c.fdiv 3).fmod 25)] (c.fmod 3 - 1)=some (.int (i:Int))/\i<25:=by
   rcases (show c.fmod 3=1\/c.fmod 3=2 by omega)with e|e
   ·refine⟨((c.fdiv 3).fmod 4).toNat,?_,by omega⟩;rw[e,show((((c.fdiv 3).fmod 4).toNat:Nat):Int) =(c.fdiv 3).fmod 4 by omega]
    rfl
   ·refine⟨((c.fdiv 3).fmod 25).toNat,?_,by omega⟩;rw[e,show((((c.fdiv 3).fmod 25).toNat:Nat):Int) =(c.fdiv 3).fmod 25 by omega]
    rfl
  obtain⟨k,ek,hk⟩:=zem hi;exact⟨_,rfl,_,_,rfl,rfl,n3,_,_,rfl,rfl,p2,_,_,_,rfl,rfl,SqL.of ze,ei,p,_,_,_,rfl,rfl,SqL.of (g2 _ _ hpp),zG ek,q k _ (g1.trans g2) hk (fun e=>absurd e c3)⟩
def zfz:Sp:=fun vs H Q _=>∃(k:Int)(pc:Addr)(cs:List Int)(i:Nat)(iI:Int),vs=[.int k,.ref pc,.int iI]/\iI =(i:Int)/\kab k/\H pc=some (.lst (cs.map V.int))/\cs≠[]/\∀ x v H',Same H H'->RN H' x v->x.ok k->Q v H'
theorem zhK (D:Df K mg "_law_at" SE Zy) (Yk:Kn P w K mg base "_law_drawn" 42 Sx Qg) (qp:Kn P w K mg base "_law_mixed" 41 Sw JC) (m_len:mg "len" = none):Kn P w K mg base "_law_at" 43 SE zfz:=by
 refine D.kn zbO (fun vs H Q E h=>?_) (fun f cdv A outer s H vs Q E hr h=>?_)
 ·obtain⟨k,pc,cs,i,iI,rfl,_⟩:=h;rfl
 obtain⟨k,pc,cs,i,iI,rfl,rfl,hk,hc,ne,q⟩:=h;refine⟨_,(zc (yD (zQ zcf (pv 2) (zy zJ rfl m_len ym (za (pv 1) zb)) (kae _)) (zg (zo (zu Yk hr (za (pv 0) (za (zD zw (pv 1) (pv 2)) zb))))) zO) (zg (zo (zu Yk hr (za (pv 0) (za (zu qp hr (za (zh ye (zD zw (pv 1) zd) (pv 2)) (za (zh zN (pv 2) zd) zb))) zb)))))),?_⟩;refine⟨_,rfl,_,rfl,pc,_,rfl,.inl (SqL.of hc),_,_,rfl,rfl,_,rfl,?_⟩;refine ite2 (fun cc=>?_) (fun cc=>?_)
 ·have c':(i:Int) <(((cs.map V.int).length:Nat):Int):=of_decide_eq_true cc;rw[wc]at c';have e:(cs.map V.int)[i]?=some (.int cs[i]):=by rw[wf,wa (by omega)];rfl
  exact⟨_,rfl,_,rfl,_,rfl,pc,_,_,_,rfl,rfl,SqL.of hc,zG e,k,_,rfl,hk,q⟩
 ·obtain⟨c0,cs',rfl⟩:=ut ne;have f0:=wp (i:Int) (show(0:Int)<30 by decide);have f1:=wv (i:Int) (show(0:Int)<30 by decide);exact⟨_,rfl,_,rfl,pc,_,_,_,rfl,rfl,SqL.of hc,zG (j:=0) rfl,_,rfl,_,_,rfl,rfl,_,rfl,_,_,rfl,rfl,(by show(30:Int)≠0;decide),_,_,rfl,(by omega),(by omega),fun m _ _=>⟨k,m,rfl,hk,q⟩⟩
def Xi:Sp:=fun vs H Q _=>∃(k:Int)(pc:Addr)(cs:List Int)(i:Nat)(iI:Int),vs=[.int k,.ref pc,.int iI]/\iI =(i:Int)/\kab k/\H pc=some (.lst (cs.map V.int))/\cs≠[]/\∀ x v H',Same H H'->RN H' x v->x.ok k->whk k 2 x->Q v H'
theorem zdl (D:Df K mg "_law_small" SE jb) (zdD:Kn P w K mg base "_law_at" 43 SE zfz):Kn P w K mg base "_law_small" 44 SE Xi:=by
 refine D.kn sS (fun vs H Q E h=>?_) (fun f cdv A outer s H vs Q E hr h=>?_)
 ·obtain⟨k,pc,cs,i,iI,rfl,_⟩:=h;rfl
 obtain⟨k,pc,cs,i,iI,rfl,rfl,hk,hc,ne,q⟩:=h;refine⟨_,(zc (zk (i:=3) sS.nd rfl (.inl rfl) (zu zdD hr (za (pv 0) (za (pv 1) (za (pv 2) zb))))) (zc (yD (zQ xX (pv 0) zd (kae _)) (zg (zo (xL (za (zh jA (zh zN (zD zE (pv 3) zd) zd) zd) (za zd zb))))) zO) (zg (zo (pv 3))))),?_⟩;refine⟨_,rfl,_,rfl,_,rfl,k,pc,cs,i,_,rfl,rfl,hk,hc,ne,fun x v H1 g1 rx ox=>?_⟩;refine⟨_,rfl,rfl,_,rfl,?_⟩;refine ite2 (fun cc=>?_) (fun cc=>?_)
 ·have k0:k=0:=V.int.inj (of_decide_eq_true cc);subst k0;cases x with
  | z j=>exact absurd rfl ox.1
  | q r =>
   obtain⟨p,rfl,hp⟩:=rx.q;have f0:=wp r.num (show(0:Int)<5 by decide);have f1:=wv r.num (show(0:Int)<5 by decide);refine⟨_,rfl,p,_,_,_,rfl,rfl,SqT.of hp,rfl,_,_,rfl,rfl,(by show(5:Int)≠0;decide),_,_,rfl,rfl,(by show 2<=sizeLine;decide),fun p2 hp2=>?_⟩;refine q (.q ((r.num.fmod 5 - 2:Int):Rat)) _ _ (g1.trans (zf hp2 _)) (RN.of_q (r:=((r.num.fmod 5 - 2:Int):Rat)) ze) rfl fun _=>⟨r.num.fmod 5 - 2,rfl,?_⟩
   have:(2:Nat)^2=4:=by decide
   omega
 ·have k0:k≠0:=fun e=>cc (by show decide (V.int k=V.int 0)=true;rw[e];decide)
  exact⟨_,rfl,q x v H1 g1 rx ox fun e=>absurd e k0⟩
def QS:Sp:=fun vs H Q _=>∃(h:Int)(n:Nat)(b:Bool),vs=[.int h,.int (n:Int),.bl b]/\n<=60/\∀(ss:List Int)(l:Addr)(H':Hp),Same H H'->H' l=some (.lst (ss.map V.int))->ss.length=n->Q (.ref l) H'
theorem zcB (D:Df K mg "_law_sorts" SF jf) (qp:Kn P w K mg base "_law_mixed" 41 Sw JC) (zi:mg "range" = none) (JT:mg "sorted" = none):Kn P w K mg base "_law_sorts" 42 SF QS:=by
 refine D.kn JB (fun vs H Q E h=>?_) (fun f cdv A outer s H vs Q E hr h=>?_)
 ·obtain⟨h,n,b,rfl,_⟩:=h;rfl
 obtain⟨h,n,b,rfl,n60,q⟩:=h;have szl:=SV
 refine⟨_,(zc (yD (Za (pv 2)) (zg (zo (xK [] [] (zF rfl zi (za (pv 1) zb)) fun _ _ _ _ _ _=>⟨zI,zd⟩))) zO) (zg (zo (zy Qp rfl JT zcz (za (xK ["_law_head"] [0] (zF rfl zi (za (pv 1) zb)) fun _ _ _ _ _ _=>⟨zI,(zh zN (zu qp hr (za (pv 1) (za (zh ye zd (pv 0)) zb))) zd)⟩) zb))))),?_⟩;refine⟨_,rfl,_,rfl,?_⟩;refine ite2 (fun cc=>?_) (fun cc=>?_)
 ·refine⟨_,rfl,n,rfl,(by omega),(by omega),?_⟩;rw[wJ];refine zZ (lo:=0) (n:=n) (fun i ys H'=>H'=H/\ys =(ww i (1:Int)).map V.int) ⟨rfl,rfl⟩ ?_ ?_ ?_
  ·rintro i ys H' hi ⟨rfl,rfl⟩
   rw[wc,vh];omega
  ·rintro i ys H' hi ⟨rfl,rfl⟩
   first|refine gyes ?_|refine tyes ?_
   refine nxt hi ⟨rfl,?_⟩;rw[ux,wt];rfl
  ·rintro ys H' ⟨rfl,rfl⟩ p hp
   exact q _ p _ (zf hp _) ze (by rw[vh])
 ·refine⟨_,rfl,n,rfl,(by omega),(by omega),?_⟩;rw[wJ];refine zZ (lo:=0) (n:=n) (fun i ys H'=>H'=H/\∃ ss:List Int,ys=ss.map V.int/\ss.length=i) ⟨rfl,[],rfl,rfl⟩ ?_ ?_ ?_
  ·rintro i ys H' hi ⟨rfl,ss,rfl,l⟩
   rw[wc];omega
  ·rintro i ys H' hi ⟨rfl,ss,rfl,l⟩
   first|refine gyes ?_|refine tyes ?_
   refine⟨_,rfl,_,rfl,_,_,rfl,rfl,_,_,rfl,(by omega),(by omega),fun m _ _=>⟨_,_,rfl,rfl,(by show(4:Int)≠0;decide),nxt hi ⟨rfl,ss++[m.fmod 4],?_,by rw[wu,l];rfl⟩⟩⟩;rw[wt];rfl
  ·rintro ys H' ⟨rfl,ss,rfl,l⟩ p hp
   refine⟨p,ss,rfl,SqL.of ze,(by omega),fun l2 ss' hl2 pm _=>?_⟩;exact q ss' l2 _ ((zf hp _).trans (zf hl2 _)) ze (by rw[pm.length_eq,l])
def zbF:Sp:=fun vs H Q _=>∃(a b:Int),vs=[.int a,.int b]/\∀ c,Q (.bl c) H
theorem zeO (D:Df K mg "_law_lets" SG jH):Kn P w K mg base "_law_lets" 1 SG zbF:=by
 refine D.kn QE (fun vs H Q E h=>?_) (fun f cdv A outer s H vs Q E hr h=>?_)
 ·obtain⟨a,b,rfl,_⟩:=h;rfl
 obtain⟨a,b,rfl,q⟩:=h;refine⟨_,(zc (yD (zQ xX (pv 0) zd (kae _)) (zg (zo (zg9 (xb xX (pv 1) zd (kae _)) (XQ (xb xX (pv 1) zd (kae _)))))) zO) (zc (yD (zQ xX (pv 0) zd (kae _)) (zg (zo (xb Xx (pv 1) zd (kae _)))) zO) (zg (zo (zg9 (xb xX (pv 0) zd (kae _)) (XQ (xb xX (pv 1) zd (kae _)))))))),?_⟩;refine⟨_,rfl,rfl,_,rfl,?_⟩;refine ite2 (fun c1=>?_) (fun c1=>?_)
 ·refine⟨_,rfl,rfl,_,rfl,?_⟩;refine ite2 (fun c2=>?_) (fun c2=>?_)
  ·exact q _
  ·exact⟨_,rfl,rfl,q _⟩
 ·refine⟨_,rfl,rfl,_,rfl,?_⟩;refine ite2 (fun c2=>?_) (fun c2=>?_)
  ·exact⟨_,rfl,_,_,rfl,rfl,q _⟩
  ·refine⟨_,rfl,rfl,_,rfl,?_⟩;refine ite2 (fun c3=>?_) (fun c3=>?_)
   ·exact q _
   ·exact⟨_,rfl,rfl,q _⟩
theorem QV{K:PySem.W.Frag}{a:Addr}{xs:List V}{g:TG}{tb:TS}{D:Ends}{σ:L2.St}{H:Hp}(Pv:Nat->L2.St->Hp->Prop)(h0:Pv 0 σ H)(hl:∀ i σ H,i<=xs.length->Pv i σ H->SqL K H a xs)
  (hs:∀(N B:L2.St->Hp->Prop)(i:Nat)(x:V)(σ:L2.St)(H:Hp),(∀ σ' H',Pv (i+1) σ' H'->N σ' H')->xs[i]?=some x->Pv i σ H->g x σ H fun σ2 H2=>tb { D with nx:=N,ct:=N,bk:=B } σ2 H2) (hd:∀ σ H,Pv xs.length σ H->D.nx σ H) :
  ∃ W:Nat->Nat->L2.St->Hp->Prop,(∃ m,W 0 m σ H)/\∀ i m σ H,W i m σ H ->
   ((Itl K a).stop i H/\D.nx σ H)\/((Itl K a).go i H/\∃ N:L2.St->Hp->Prop,(∀ σ' H',N σ' H'->∃ m',m'<m/\W (i+1) m' σ' H')/\∀ x H',(Itl K a).yld i H x H'->g x σ H' fun σ2 H2=>tb { D with nx:=N,ct:=N,bk:=D.nx } σ2 H2) :=
 xw Pv h0 hl (fun i x σ H hx p=>hs (Pv (i+1)) D.nx i x σ H (fun _ _ h=>h) hx p) hd
theorem ZU{lo:Int}{n:Nat}{g:TG}{tb:TS}{D:Ends}{σ:L2.St}{H:Hp}(Pv:Nat->L2.St->Hp->Prop)(h0:Pv 0 σ H)
  (hs:∀(N B:L2.St->Hp->Prop)(i:Nat)(σ:L2.St)(H:Hp),(∀ σ' H',Pv (i+1) σ' H'->N σ' H')->i<n->Pv i σ H->g (.int (lo+i)) σ H fun σ2 H2=>tb { D with nx:=N,ct:=N,bk:=B } σ2 H2) (hd:∀ σ H,Pv n σ H->D.nx σ H) :
  ∃ W:Nat->Nat->L2.St->Hp->Prop,(∃ m,W 0 m σ H)/\∀ i m σ H,W i m σ H ->
   ((Itr lo n).stop i H/\D.nx σ H)\/((Itr lo n).go i H/\∃ N:L2.St->Hp->Prop,(∀ σ' H',N σ' H'->∃ m',m'<m/\W (i+1) m' σ' H')/\∀ x H',(Itr lo n).yld i H x H'->g x σ H' fun σ2 H2=>tb { D with nx:=N,ct:=N,bk:=D.nx } σ2 H2) :=
 yv Pv h0 (fun i σ H hi p=>hs (Pv (i+1)) D.nx i σ H (fun _ _ h=>h) hi p) hd
def Xo:Sp:=fun vs H Q _=>∃(k:Int)(pc pz ps:Addr)(cs ss:List Int)(n m q:Nat),vs=[.int k,.ref pc,.ref pz,.ref ps]/\kab k/\H pc=some (.lst (cs.map V.int))/\cs≠[]/\H pz=some (.tup [.int (n:Int),.int (m:Int),.int (q:Int)])/\H ps=some (.lst (ss.map V.int))/\ss.length=n/\n<=10/\m<=10/\q<=10 /\
 ∀(A B C:TB)(pt pr:Addr)(ts:List Addr)(rs:List (List Addr))(at':Nat)(H':Hp),kaf H H' [A,B,C] ts rs->TW k n n 2 A->TW k n m 2 B->TW k q n 2 C->H' pt=some (.lst (ts.map V.ref))->H pt=none->pt∉ts->(∀ ras∈rs,pt∉ras)->H' pr=some (.tup [.ref pt,.int (at':Int)])->Q (.ref pr) H'
def dimR(n m q j:Nat):Nat:=if j=2 then q else n
def dimC(n m q j:Nat):Nat:=if j=1 then m else n
theorem zaF (D:Df K mg "_law_blocked" SH xy) (zM:Kn P w K mg base "_law_make" 1 Sy xE) (qt:Kn P w K mg base "_law_small" 44 SE Xi) (zaT:Kn P w K mg base "_law_lets" 1 SG zbF) (zi:mg "range" = none):Kn P w K mg base "_law_blocked" 45 SH Xo:=by
 refine D.kn sF (fun vs H Q E h=>?_) (fun f cdv A' outer s' H vs Q E hr h=>?_)
 ·obtain⟨k,pc,pz,ps,cs,ss,n,m,q,rfl,_⟩:=h;rfl
 obtain⟨k,pc,pz,ps,cs,ss,n,m,qn,rfl,hk,hc,ne,hz,hs,ls,n10,m10,q10,q⟩:=h;have szl:=SV
 refine⟨_,(zc (qK (pv 2) (xJ 3 rfl (zK (zt (i:=4) sF.nd rfl (.inl rfl)) (zK (zt (i:=5) sF.nd rfl (.inl rfl)) (zK (zt (i:=6) sF.nd rfl (.inl rfl)) xp))))) (zc (zk (i:=7) sF.nd rfl (.inr rfl) (zu zM hr (za (pv 0) (za zd zb)))) (zc (zk (i:=8) sF.nd rfl (.inl rfl) (yn zb)) (zc (zk (i:=9) sF.nd rfl (.inr rfl) zd) (zc (yw PassesOwn.never rfl (zV (yn (za (xL (za (pv 4) (za (pv 4) zb))) (za (xL (za (pv 4) (za (pv 5) zb))) (za (xL (za (pv 6) (za (pv 4) zb))) zb))))) (xJ 2 rfl (zK (zt (i:=10) sF.nd rfl (.inl rfl)) (zK (zt (i:=11) sF.nd rfl (.inr rfl)) xp))) (zc (zk (i:=12) sF.nd rfl (.inl rfl) (yn zb)) (zc (yw PassesOwn.never rfl (zF rfl zi (za (pv 10) zb)) (zt (i:=13) sF.nd rfl (.inr rfl)) (zg (xI (bm0 (fun _ h=>Xu PySem.F.plainAttrs_list PySem.F.slot_list_append PySem.F.type_list_append yN h (za (xK ["_law_prime_here", "_law_cells", "_law_at_here", "_law_i", "_law_columns"] [0,1,9,13,11] (zF rfl zi (za (pv 11) zb)) fun _ _ _ _ _ _=>⟨zI,(zu qt hr (za (pv 1) (za (pv 2) (za (zh ye (zh ye (pv 3) (zh zL (pv 4) (pv 5))) (pv 0)) zb))))⟩) zb)) (pv 12))))) (zc (xI (bm0 (fun _ h=>Xu PySem.F.plainAttrs_list PySem.F.slot_list_append PySem.F.type_list_append yN h (za (pv 12) zb)) (pv 8))) (zg (zk (i:=9) sF.nd rfl (.inr rfl) (zh ye (pv 9) (zh zL (pv 10) (pv 11))))))))) (zc (yw PassesOwn.never rfl (zF rfl zi (za (pv 4) zb)) (zt (i:=13) sF.nd rfl (.inr rfl)) (zc (yw PassesOwn.never rfl (zF rfl zi (za (pv 4) zb)) (zt (i:=14) sF.nd rfl (.inl rfl)) (zg (yD (Yn (Za (zu zaT hr (za (zD zw (pv 3) (pv 13)) (za (zD zw (pv 3) (pv 14)) zb))))) (zg (qK (pv 7) (XV (zD zw (zD zw (pv 8) zd) (pv 13)) (pv 14) qH))) zO))) (zc (yD (zQ Xx (zD zw (pv 3) (pv 13)) zd (kae _)) (zg (qK (xK ["_law_nought"] [7] (zF rfl zi (za (pv 5) zb)) fun _ _ _ _ _ _=>⟨zI,(pv 1)⟩) (XV (zD zw (pv 8) zd) (pv 13) qH))) zO) (zg (yD (zQ xX (zh zN (zD zw (pv 3) (pv 13)) zd) zd (kae _)) (zg (yw PassesOwn.never rfl (zV (zD zw (pv 8) zd)) (zt (i:=15) sF.nd rfl (.inl rfl)) (zg (qK (pv 7) (XV (pv 15) (pv 13) qH))))) zO))))) (zg (zo (xL (za (pv 8) (za (pv 9) zb))))))))))),?_⟩;refine⟨_,rfl,pz,_,rfl,SqT.of hz,rfl,_,_,rfl,_,_,rfl,_,_,rfl,rfl,?_⟩;refine⟨_,rfl,k,0,rfl,hk,fun v0 H1 g1 r1=>?_⟩;refine⟨(by show 0<=sizeLine;decide),fun pt hpt=>?_⟩;have ptH:H pt=none:=g1.none hpt;have g2:=zf hpt (.lst []);have hpt2:upd H1 pt (.lst []) pt=some (.lst []):=ze;have r2:=r1.mono g2;have gH2:=g1.trans g2;generalize upd H1 pt (.lst [])=H2 at *;clear hpt r1;refine⟨_,rfl,_,rfl,(by show 2<=sizeLine;decide),fun q1 hq1=>?_⟩;have g3:=zf hq1 (.tup [.int (n:Int),.int (n:Int)]);have e1:upd H2 q1 (.tup [.int (n:Int),.int (n:Int)]) q1=some (.tup [.int (n:Int),.int (n:Int)]):=ze;generalize upd H2 q1 (.tup [.int (n:Int),.int (n:Int)])=H3 at *;refine⟨_,rfl,_,rfl,(by show 2<=sizeLine;decide),fun q2 hq2=>?_⟩;have g4:=zf hq2 (.tup [.int (n:Int),.int (m:Int)]);have e2:upd H3 q2 (.tup [.int (n:Int),.int (m:Int)]) q2=some (.tup [.int (n:Int),.int (m:Int)]):=ze;generalize upd H3 q2 (.tup [.int (n:Int),.int (m:Int)])=H4 at *;refine⟨_,rfl,_,rfl,(by show 2<=sizeLine;decide),fun q3 hq3=>?_⟩;have g5:=zf hq3 (.tup [.int (qn:Int),.int (n:Int)]);have e3:upd H4 q3 (.tup [.int (qn:Int),.int (n:Int)]) q3=some (.tup [.int (qn:Int),.int (n:Int)]):=ze;generalize upd H4 q3 (.tup [.int (qn:Int),.int (n:Int)])=H5 at *;refine⟨(by show 3<=sizeLine;decide),fun pl hpl=>?_⟩;have g6:=zf hpl (.lst [.ref q1,.ref q2,.ref q3]);have e4:upd H5 pl (.lst [.ref q1,.ref q2,.ref q3]) pl=some (.lst [.ref q1,.ref q2,.ref q3]):=ze;generalize upd H5 pl (.lst [.ref q1,.ref q2,.ref q3])=H6 at *;have hpt6:=g6 _ _ (g5 _ _ (g4 _ _ (g3 _ _ hpt2)));have npl:pl≠pt:=fun e=>by rw[e,g5 _ _ (g4 _ _ (g3 _ _ hpt2))]at hpl;cases hpl
 have nq1:q1≠pt:=fun e=>by rw[e,hpt2]at hq1;cases hq1
 have nq2:q2≠pt:=fun e=>by rw[e,g3 _ _ hpt2]at hq2;cases hq2
 have nq3:q3≠pt:=fun e=>by rw[e,g4 _ _ (g3 _ _ hpt2)]at hq3;cases hq3
 have gH6:=(((gH2.trans g3).trans g4).trans g5).trans g6;have r6:=(((r2.mono g3).mono g4).mono g5).mono g6;have f1:=g6 _ _ (g5 _ _ (g4 _ _ e1));have f2:=g6 _ _ (g5 _ _ e2);have f3:=g6 _ _ e3;clear g1 g2 g3 g4 g5 g6 hq1 hq2 hq3 hpl e1 e2 e3 hpt2 gH2 r2;refine⟨pl,rfl,⟨_,SqL.of e4⟩,?_⟩;refine QV (xs:=[.ref q1,.ref q2,.ref q3]) (fun i σ H'=>∃ Ms ts rs,∃ at':Nat,∃ o10 o11 o12 o13 o14 o15,σ=[some (.int k),some (.ref pc),some (.ref pz),some (.ref ps),some (.int (n:Int)),some (.int (m:Int)),some (.int (qn:Int)),some v0,some (.ref pt),some (.int (at':Int)),o10,o11,o12,o13,o14,o15]/\kaf H H' Ms ts rs/\Ms.length=i/\(∀ j M,Ms[j]?=some M->TW k (dimR n m qn j) (dimC n m qn j) 2 M)/\H' pt=some (.lst (ts.map V.ref))/\pt∉ts/\(∀ ras∈rs,pt∉ras)/\RN H' (nnum k 0) v0/\H' pl=some (.lst [.ref q1,.ref q2,.ref q3])/\H' q1=some (.tup [.int (n:Int),.int (n:Int)])/\H' q2=some (.tup [.int (n:Int),.int (m:Int)])/\H' q3=some (.tup [.int (qn:Int),.int (n:Int)]))
  ⟨[],[],[],1,none,none,none,none,none,none,rfl,kaf.nil gH6,rfl,fun j M h=>by simp at h,hpt6,by simp,fun ras hr=>(nomatch hr),r6,e4,f1,f2,f3⟩ ?_ ?_ ?_
 ·rintro i σ H' _ ⟨Ms,ts,rs,at',o10,o11,o12,o13,o14,o15,rfl,G,lM,dM,hpt,nt,nr,r0,hl,_⟩
  exact SqL.of hl
 ·intro N1 B1 i v σ H7 hN1 hv
  rintro ⟨Ms,ts,rs,at',o10,o11,o12,o13,o14,o15,rfl,G,lM,dM,hpt7,nt,nr,r0,hl,h1,h2,h3⟩
  obtain⟨qa,rows,cols,rfl,hqa,er,ec,rb,cb⟩ : ∃ qa rows cols,v=.ref qa/\H7 qa=some (.tup [.int ((rows:Nat):Int),.int ((cols:Nat):Int)])/\rows=dimR n m qn i/\cols=dimC n m qn i/\rows<=10/\cols<=10:=by
   match i,hv with
   | 0,hv=>cases hv;exact⟨q1,n,n,rfl,h1,rfl,rfl,n10,n10⟩
   | 1,hv=>cases hv;exact⟨q2,n,m,rfl,h2,rfl,rfl,n10,m10⟩
   | 2,hv=>cases hv;exact⟨q3,qn,n,rfl,h3,rfl,rfl,q10,n10⟩
  refine⟨qa,_,rfl,SqT.of hqa,rfl,_,_,rfl,_,_,rfl,rfl,?_⟩;refine⟨(by show 0<=sizeLine;decide),fun pto hpto=>?_⟩;have hc7:=G.same _ _ hc;refine⟨_,rfl,rows,rfl,(by omega),(by omega),?_⟩;rw[wJ];refine ZU (lo:=0) (n:=rows) (fun j σ H'=>∃ M ras o13 o14 o15,σ=[some (.int k),some (.ref pc),some (.ref pz),some (.ref ps),some (.int (n:Int)),some (.int (m:Int)),some (.int (qn:Int)),some v0,some (.ref pt),some (.int (at':Int)),some (.int (rows:Int)),some (.int (cols:Int)),some (.ref pto),o13,o14,o15]/\Grow H7 H' M ras/\H' pto=some (.lst (ras.map V.ref))/\pto∉ras/\M.length=j/\La.OkM k cols M/\(∀ r∈M,∀ x∈r,whk k 2 x)) ⟨[],[],_,_,_,rfl,Grow.nil H7 (zf hpto _),ze,by simp,rfl,fun r hr=>(nomatch hr),fun r hr=>(nomatch hr)⟩ ?_ ?_
  ·intro N2 B2 j σ H8 hN2 hj
   rintro ⟨M,ras,o13,o14,o15,rfl,G8,hpt8,npt8,l8,o8,s8⟩
   refine⟨_,rfl,.inl ⟨rfl,_,SqL.of hpt8⟩,_,rfl,cols,rfl,(by omega),(by omega),?_⟩;rw[wJ];have ci0:0<=(0 +(j:Int)) *(cols:Int):=Int.mul_nonneg (by omega) (by omega);refine zZ (lo:=0) (n:=cols) (fun l ys' H9=>∃ xs,Same H8 H9/\Paired (RN H9) xs ys'/\xs.length=l/\La.OkR k xs/\∀ x∈xs,whk k 2 x) ⟨[],Same.refl _,.nil,rfl,fun x hx=>(nomatch hx),fun x hx=>(nomatch hx)⟩ ?_ ?_ ?_
   ·rintro l ys' H9 hl' ⟨xs,g9,pr9,lx,_⟩
    have:=zj pr9;omega
   ·rintro l ys' H9 hl' ⟨xs,g9,pr9,lx,ox,sx⟩
    have hc9:H9 pc=some (.lst (cs.map V.int)):=g9 _ _ (G8.same _ _ hc7)
    first|refine gyes ?_|refine tyes ?_
    refine⟨_,rfl,_,rfl,_,rfl,_,rfl,_,rfl,_,_,rfl,rfl,yX (by omega) (by omega),_,_,rfl,rfl,_,rfl,_,_,rfl,rfl,k,pc,cs,((at':Int) +(0 +(j:Int)) *(cols:Int) +(0 +(l:Int))).toNat,_,rfl,(by omega),hk,hc9,ne,fun x v' H10 g10 xr xo xs2=>?_⟩;refine nxt hl' ⟨xs++[x],g9.trans g10,yu (yz g10 pr9) xr,by rw[wu,lx];rfl,fun y hy=>?_,fun y hy=>?_⟩
    ·rcases wo.mp hy with h|h
     ·exact ox y h
     ·rw[wn.mp h];exact xo
    ·rcases wo.mp hy with h|h
     ·exact sx y h
     ·rw[wn.mp h];exact xs2
   ·rintro ys' H9 ⟨xs,g9,pr9,lx,ox,sx⟩ pn hpn
    have npn:pto≠pn:=fun e=>by rw[← e,g9 _ _ hpt8]at hpn;cases hpn
    refine⟨pto,_,_,rfl,rfl,(by rw[zH npn];exact g9 _ _ hpt8),?_,?_⟩
    ·have:=zj G8.rows;rw[wc];omega
    obtain⟨G9,nm9⟩:=G8.push (zs':=(ras.map V.ref)++[.ref pn]) hpto hpt8 npt8 g9 hpn pr9;refine hN2 _ _ ⟨M++[xs],ras++[pn],_,_,_,rfl,G9,?_,nm9,by rw[wu,l8];rfl,fun y hy=>?_,fun y hy=>?_⟩
    ·rw[ze,wt];rfl
    ·rcases wo.mp hy with h|h
     ·exact o8 y h
     ·rw[wn.mp h];exact⟨lx,ox⟩
    ·rcases wo.mp hy with h|h
     ·exact s8 y h
     ·rw[wn.mp h];exact sx
  ·rintro σ H8 ⟨M,ras,o13,o14,o15,rfl,G8,hpt8,npt8,l8,o8,s8⟩
   have g8:=G8.same;have hptb:H8 pt=some (.lst (ts.map V.ref)):=g8 _ _ hpt7;have N8:NewT H7 H8 M pto ras:=⟨⟨hpt8,G8.rows⟩,hpto,G8.fr,G8.nd,npt8⟩;have lts:=G.lt;have hi3:i<3:=(wm.mp hv).1;refine⟨_,rfl,.inl ⟨rfl,_,SqL.of hptb⟩,_,rfl,pt,_,_,rfl,rfl,hptb,(by rw[wc];omega),?_⟩;have nt8:pt≠pto:=fun e=>by have:=hpto;rw[← e,hpt7]at this;cases this
   have nr8:pt∉ras:=fun hm=>by have:=G8.fr _ hm;rw[hpt7]at this;cases this
   have nts:pt∉ts++[pto]:=fun hm=>by
    rcases wo.mp hm with h|h
    ·exact nt h
    ·exact nt8 (wn.mp h)
   have nrs:∀ x∈rs++[ras],pt∉x:=fun x hm=>by
    rcases wo.mp hm with h|h
    ·exact nr x h
    ·rw[wn.mp h];exact nr8
   have G9:=(G.push g8 N8).updAt (zs':=(ts.map V.ref)++[.ref pto]) ptH hptb nts nrs;refine⟨_,rfl,_,rfl,_,rfl,_,_,rfl,rfl,yX (by omega) (by omega),_,_,rfl,rfl,hN1 _ _ ⟨Ms++[M],ts++[pto],rs++[ras],at'+rows*cols,some (.int (rows:Int)),some (.int (cols:Int)),some (.ref pto),o13,o14,o15,?_,G9,by rw[wu,lM];rfl,fun j M' hj=>?_,by rw[ze,wt];rfl,nts,nrs,(r0.mono g8).upd hptb,by rw[zH npl];exact g8 _ _ hl,by rw[zH nq1];exact g8 _ _ h1,by rw[zH nq2];exact g8 _ _ h2,by rw[zH nq3];exact g8 _ _ h3⟩⟩
   ·rw[show((at'+rows*cols:Nat):Int) =(at':Int) +(rows:Int) *(cols:Int) by rw[Int.natCast_add,uW]]
    rfl
   ·rcases wS j Ms.length with h|h
    ·rw[vo h]at hj;exact dM j M' hj
    ·have e:j=Ms.length:=by
      have:=(wm.mp hj).1;simp at this;omega
     subst e;rw[vg (wl _),gy]at hj;cases hj;rw[lM,← er,← ec];exact⟨l8,o8,s8⟩
 rintro σ H7 ⟨Ms,ts,rs,at',o10,o11,o12,o13,o14,o15,rfl,G,lM,dM,hpt7,nt,nr,r0,_⟩
 obtain⟨A,B,C,rfl⟩ : ∃ A B C,Ms=[A,B,C]:=by
  match Ms,lM with
  | [A,B,C],_=>exact⟨A,B,C,rfl⟩
 have tA:TW k n n 2 A:=dM 0 A rfl;have tB:TW k n m 2 B:=dM 1 B rfl;have tC:TW k qn n 2 C:=dM 2 C rfl;obtain⟨ta,tb,tc,rfl⟩ : ∃ ta tb tc,ts=[ta,tb,tc]:=by
  match ts,G.lt with
  | [ta,tb,tc],_=>exact⟨ta,tb,tc,rfl⟩
 clear dM lM e4 f1 f2 f3 hpt6 npl nq1 nq2 nq3 r6 gH6;have z0:(nnum k 0).ok k:=La.zR hk 0;have zs:whk k 2 (nnum k 0):=fun _=>⟨0,rfl,by decide⟩
 refine⟨_,rfl,n,rfl,(by omega),(by omega),?_⟩;rw[wJ];refine ZU (lo:=0) (n:=n) (fun i σ H'=>∃ A B C rs o10 o11 o12 o13 o14 o15,σ=[some (.int k),some (.ref pc),some (.ref pz),some (.ref ps),some (.int (n:Int)),some (.int (m:Int)),some (.int (qn:Int)),some v0,some (.ref pt),some (.int (at':Int)),o10,o11,o12,o13,o14,o15]/\kaf H H' [A,B,C] [ta,tb,tc] rs/\TW k n n 2 A/\TW k n m 2 B/\TW k qn n 2 C/\H' pt=some (.lst [.ref ta,.ref tb,.ref tc])/\(∀ ras∈rs,pt∉ras)/\RN H' (nnum k 0) v0) ⟨A,B,C,rs,_,_,_,_,_,_,rfl,G,tA,tB,tC,hpt7,nr,r0⟩ ?_ ?_
 ·clear G tA tB tC hpt7 nr r0;intro N4 B4 i σ H8 hN4 hi
  rintro ⟨A,B,C,rs,o10,o11,o12,o13,o14,o15,rfl,G,tA,tB,tC,hpt8,nr,r0⟩
  have hss:(ss.map V.int)[i]?=some (.int ss[i]):=by rw[wf,wa (by omega)];rfl
  refine⟨_,rfl,n,rfl,(by omega),(by omega),?_⟩;rw[wJ];refine ZU (lo:=0) (n:=n) (fun j σ H'=>∃ A o14 o15,σ=[some (.int k),some (.ref pc),some (.ref pz),some (.ref ps),some (.int (n:Int)),some (.int (m:Int)),some (.int (qn:Int)),some v0,some (.ref pt),some (.int (at':Int)),o10,o11,o12,some (.int (0 +(i:Int))),o14,o15]/\kaf H H' [A,B,C] [ta,tb,tc] rs/\TW k n n 2 A/\H' pt=some (.lst [.ref ta,.ref tb,.ref tc])/\RN H' (nnum k 0) v0) ⟨A,_,_,rfl,G,tA,hpt8,r0⟩ ?_ ?_
  ·clear G tA hpt8 r0;intro N5 B5 j σ H9 hN5 hj
   rintro ⟨A,o14,o15,rfl,G,tA,hpt9,r0⟩
   have hs9:=G.same _ _ hs;have hsj:(ss.map V.int)[j]?=some (.int ss[j]):=by rw[wf,wa (by omega)];rfl
   refine⟨_,rfl,_,rfl,ps,_,_,_,rfl,rfl,SqL.of hs9,(by rw[vt];exact zG hss),_,rfl,_,rfl,ps,_,_,_,rfl,rfl,SqL.of hs9,(by rw[vt];exact zG hsj),_,_,rfl,fun cb=>⟨_,rfl,?_⟩⟩;refine ite2 (fun cc=>?_) (fun cc=>?_)
   ·obtain⟨M',t',ras,e1,e2,e3,hT⟩:=G.get (i:=0) (by simp);cases e1;cases e2;have lra:=zj hT.2;rw[tA.len]at lra;have hi':ras[i]?=some ras[i]:=wa (by omega);obtain⟨row,hrow,hR⟩:=zU hT.2 hi';obtain⟨us,hu,pu,lu⟩:=hR.len;have orow:=tA.ok row (wd hrow);have nra:ras[i]≠pt:=fun e=>nr ras (wd e3) (by rw[← e];exact we _)
    refine⟨_,rfl,_,rfl,pt,_,_,_,rfl,rfl,SqL.of hpt9,zG (j:=0) rfl,_,rfl,ta,_,_,_,rfl,rfl,SqL.of hT.1,(by rw[vt];exact zG (by rw[wf,hi'];rfl)),_,rfl,ras[i],us,_,j,rfl,rfl,hu,(by rw[vt];exact ZE (by rw[lu,orow.1];exact hj)),?_⟩;refine hN5 _ _ ⟨A.set i (row.set j (nnum k 0)),_,_,rfl,G.setRow (i:=0) rfl e3 hi' hu (zbl pu j r0),tA.set (by rw[vv];exact orow.1) (fun x hx=>?_) (fun x hx=>?_),by rw[zH (Ne.symm nra)];exact hpt9,r0.upd hu⟩
    ·rcases La.yd hx with e|e
     ·rw[e];exact z0
     ·exact orow.2 x e
    ·rcases La.yd hx with e|e
     ·rw[e];exact zs
     ·exact tA.sz row (wd hrow) x e
   ·exact hN5 _ _ ⟨A,_,_,rfl,G,tA,hpt9,r0⟩
  clear G tA hpt8 r0
  rintro σ H9 ⟨A,o14,o15,rfl,G,tA,hpt9,r0⟩
  have hs9:=G.same _ _ hs
  try dsimp only
  refine qd (fun σ H'=>∃ B rs o14,σ=[some (.int k),some (.ref pc),some (.ref pz),some (.ref ps),some (.int (n:Int)),some (.int (m:Int)),some (.int (qn:Int)),some v0,some (.ref pt),some (.int (at':Int)),o10,o11,o12,some (.int (0 +(i:Int))),o14,o15]/\kaf H H' [A,B,C] [ta,tb,tc] rs/\TW k n m 2 B/\H' pt=some (.lst [.ref ta,.ref tb,.ref tc])/\(∀ ras∈rs,pt∉ras)/\RN H' (nnum k 0) v0) ?_ ?_
  rotate_left
  ·intro hN;refine⟨_,rfl,_,rfl,ps,_,_,_,rfl,rfl,SqL.of hs9,(by rw[vt];exact zG hss),_,_,rfl,rfl,_,rfl,?_⟩;refine ite2 (fun cc=>?_) (fun cc=>?_)
   ·refine⟨_,rfl,m,rfl,(by omega),(by omega),?_⟩;rw[wJ];refine zZ (lo:=0) (n:=m) (fun l ys' H'=>H'=H9/\ys'=ww l v0) ⟨rfl,rfl⟩ ?_ ?_ ?_
    ·rintro l ys' H' hl' ⟨rfl,rfl⟩
     rw[vh];omega
    ·rintro l ys' H' hl' ⟨rfl,rfl⟩
     first|refine gyes ?_|refine tyes ?_
     exact⟨_,rfl,nxt hl' ⟨rfl,by rw[ux]⟩⟩
    ·rintro ys' H' ⟨rfl,rfl⟩ pn hpn
     have g10:=zf hpn (.lst (ww m v0));have R10:kai (upd H' pn (.lst (ww m v0))) (ww m (nnum k 0)) pn:=⟨_,ze,zdE (r0.mono g10) m⟩;have G10:=G.mono g10;have hpt10:=g10 _ _ hpt9;have npn:pn∉[ta,tb,tc]:=fun hm=>by obtain⟨o,ho⟩:=G.tsome hm;rw[hpn]at ho;cases ho
     have nrn:∀ ras∈rs,pn∉ras:=fun ras hr hm=>by obtain⟨o,ho⟩:=G.rsome hr hm;rw[hpn]at ho;cases ho
     have fpn:H pn=none:=G.same.none hpn;have r10:=r0.mono g10;have ptn:pt≠pn:=fun e=>by rw[← e,hpt9]at hpn;cases hpn
     generalize upd H' pn (.lst (ww m v0))=H10 at *;obtain⟨M',t',ras,e1,e2,e3,hT⟩:=G10.get (i:=1) (by simp);cases e1;cases e2;have lra:=zj hT.2;rw[tB.len]at lra;have hi':i<ras.length:=by omega
     refine⟨_,rfl,pt,_,_,_,rfl,rfl,SqL.of hpt10,zG (j:=1) rfl,_,rfl,tb,_,_,i,rfl,rfl,hT.1,(by rw[vt];exact ZE (by rw[wc];exact hi')),?_⟩;have G11:=G10.setSlot (i:=1) (j:=i) rfl rfl e3 hi' R10 fpn npn nrn;rw[wak]at G11;have ntb:pt≠tb:=fun e=>nt (by rw[e];simp)
     refine hN _ _ ⟨B.set i (ww m (nnum k 0)),rs.set 1 (ras.set i pn),_,rfl,G11,tB.set (by rw[vh]) (fun x hx=>by rw[vL hx];exact z0) (fun x hx=>by rw[vL hx];exact zs),by rw[zH ntb];exact hpt10,fun x hx hm=>?_,r10.upd hT.1⟩
     rcases La.yd hx with e|e
     ·rw[e]at hm
      rcases La.yd hm with e'|e'
      ·exact ptn e'
      ·exact nr ras (wd e3) e'
     ·exact nr x e hm
   ·exact hN _ _ ⟨B,rs,_,rfl,G,tB,hpt9,nr,r0⟩
  clear G tB hpt9 nr r0 hs9
  rintro σ H10 ⟨B,rs,o14,rfl,G,tB,hpt10,nr,r0⟩
  have hs10:=G.same _ _ hs;refine⟨_,rfl,_,rfl,ps,_,_,_,rfl,rfl,SqL.of hs10,(by rw[vt];exact zG hss),_,_,rfl,rfl,(by show(2:Int)≠0;decide),rfl,_,rfl,?_⟩;refine ite2 (fun cc=>?_) (fun cc=>?_)
  ·obtain⟨M',t',ras,e1,e2,e3,hT⟩:=G.get (i:=2) (by simp);cases e1;cases e2;have lra:=zj hT.2;rw[tC.len]at lra;refine⟨_,rfl,pt,_,_,_,rfl,rfl,SqL.of hpt10,zG (j:=2) rfl,tc,rfl,⟨_,SqL.of hT.1⟩,?_⟩;refine QV (xs:=ras.map V.ref) (fun l σ H'=>∃ C o15,σ=[some (.int k),some (.ref pc),some (.ref pz),some (.ref ps),some (.int (n:Int)),some (.int (m:Int)),some (.int (qn:Int)),some v0,some (.ref pt),some (.int (at':Int)),o10,o11,o12,some (.int (0 +(i:Int))),o14,o15]/\kaf H H' [A,B,C] [ta,tb,tc] rs/\TW k qn n 2 C/\H' pt=some (.lst [.ref ta,.ref tb,.ref tc])/\RN H' (nnum k 0) v0) ⟨C,_,rfl,G,tC,hpt10,r0⟩ ?_ ?_ ?_
   ·rintro l σ H' _ ⟨C,o15,rfl,G,_⟩
    exact SqL.of (G.tabs 2 C tc ras rfl rfl e3).1
   ·clear G tC hpt10 r0 hT;intro N6 B6 l v σ H' hN6 hv
    rintro ⟨C,o15,rfl,G,tC,hptl,r0⟩
    have hT:=G.tabs 2 C tc ras rfl rfl e3;obtain⟨row,ar,hrow,har,rfl,hR⟩:=hT.row hv;obtain⟨us,hu,pu,lu⟩:=hR.len;have orow:=tC.ok row (wd hrow);have nra:ar≠pt:=fun e=>nr ras (wd e3) (by rw[← e];exact wd har)
    refine⟨_,rfl,_,rfl,_,rfl,ar,us,_,i,rfl,rfl,hu,(by rw[vt];exact ZE (by rw[lu,orow.1];exact hi)),?_⟩;refine hN6 _ _ ⟨C.set l (row.set i (nnum k 0)),_,rfl,G.setRow (i:=2) rfl e3 har hu (zbl pu i r0),tC.set (by rw[vv];exact orow.1) (fun x hx=>?_) (fun x hx=>?_),by rw[zH (Ne.symm nra)];exact hptl,r0.upd hu⟩
    ·rcases La.yd hx with e|e
     ·rw[e];exact z0
     ·exact orow.2 x e
    ·rcases La.yd hx with e|e
     ·rw[e];exact zs
     ·exact tC.sz row (wd hrow) x e
   ·rintro σ H' ⟨C,o15,rfl,G,tC,hptl,r0⟩
    exact hN4 _ _ ⟨A,B,C,rs,_,_,_,_,_,_,rfl,G,tA,tB,tC,hptl,nr,r0⟩
  ·exact hN4 _ _ ⟨A,B,C,rs,_,_,_,_,_,_,rfl,G,tA,tB,tC,hpt10,nr,r0⟩
 ·rintro σ H8 ⟨A,B,C,rs,o10,o11,o12,o13,o14,o15,rfl,G,tA,tB,tC,hpt8,nr,r0⟩
  refine⟨_,rfl,_,rfl,(by show 2<=sizeLine;decide),fun pr hpr=>?_⟩;have g9:=zf hpr (.tup [.ref pt,.int (at':Int)]);exact q A B C pt pr [ta,tb,tc] rs at' _ (G.mono g9) tA tB tC (g9 _ _ hpt8) ptH nt nr ze
theorem zey{k:Int}{m n:Nat}{x y:Nb}(ox:x.ok k)(oy:y.ok k)(sx:szk k m x)(sy:szk k n y):szk k (m+n+1) (nsub k x y):=fun k0=>by
 rcases qT ox oy with⟨_,r,s,rfl,rfl⟩|⟨h,_⟩
 ·have hx:=sx k0;have hy:=sy k0;show Sm _ (r - s).num/\Sm _ ((r - s).den:Int);rw[← zaj];obtain⟨h1,h2⟩:=jD (t:=r.num*s.den - s.num*r.den) (xT r s) ((hx.1.mul hy.2).sub ((hy.1.mul hx.2).mono (by omega))) (hx.2.mul hy.2);exact⟨h1,h2.mono (gI _)⟩
 ·exact absurd k0 h
theorem zen{α:Type}{l:List α}{i:Nat}{x:α}(h:l[i]?=some x):l.set i x=l:=by
 refine GB fun j=>?_
 rw[vf]
 by_cases e:i=j
 ·subst e;rw[if_pos rfl,if_pos (wm.mp h).1,h]
 ·rw[if_neg e]
def TWs(k:Int)(n m q:Nat)(f:Nat->Nat)(Ms:List (TB)):Prop:=Ms.length=3/\∀(I:Nat)(M:TB),Ms[I]?=some M->TW k (dimR n m q I) (dimC n m q I) (f I) M
theorem TWs.up{k:Int}{n m q:Nat}{f g:Nat->Nat}{Ms:List (TB)}(h:TWs k n m q f Ms)(hf:∀ I,f I<=g I):TWs k n m q g Ms:=⟨h.1,fun I M hM=>(h.2 I M hM).up (hf I)⟩
theorem TWs.set{k:Int}{n m q J:Nat}{f g:Nat->Nat}{Ms:List (TB)}{M':TB}(h:TWs k n m q f Ms)(hM:TW k (dimR n m q J) (dimC n m q J) (g J) M')(hf:∀ I,I≠J->f I<=g I):TWs k n m q g (Ms.set J M'):=by
 refine⟨by rw[vv];exact h.1,fun I M e=>?_⟩
 by_cases c:I=J
 ·subst c;have hl:I<Ms.length:=by have:=(wm.mp e).1;rw[vv]at this;exact this
  rw[vf,if_pos rfl,if_pos hl]at e;cases e;exact hM
 ·rw[vf,if_neg (Ne.symm c)]at e;exact(h.2 I M e).up (hf I c)
def zbq:Sp:=fun vs H Q _=>∃(k c:Int)(Ms:List (TB))(H0:Hp)(ts:List Addr)(pt:Addr)(rs:List (List Addr))(n m q z:Nat),vs=[.int k,.ref pt,.int c]/\kab k/\kaf H0 H Ms ts rs/\TWs k n m q (fun _=>z) Ms/\H pt=some (.lst (ts.map V.ref))/\(∀ ras∈rs,pt∉ras)/\pt∉ts/\1<=n/\n<=10/\m<=10/\q<=10/\z<=1000 /\
 ∀(Ms':List (TB))(rs':List (List Addr))(H':Hp),kaf H0 H' Ms' ts rs'->TWs k n m q (fun _=>z+6) Ms'->H' pt=some (.lst (ts.map V.ref))->(∀ ras∈rs',pt∉ras)->Q .non H'
theorem pick3{m:Int}(h0:0<=m)(h1:m<3):∃ w:Int,atI [V.int 1,V.int (-1),V.int 2] m=some (.int w)/\(w=1\/w = -1\/w=2):=by
 rcases (show m=0\/m=1\/m=2 by omega)with rfl|rfl|rfl
 ·exact⟨1,rfl,by simp⟩
 ·exact⟨-1,rfl,by simp⟩
 ·exact⟨2,rfl,by simp⟩
theorem zeN (hP:P.given.tree=none) (hS:base.NoSeer) (D:Df K mg "_law_exchanged" SI yP) (zM:Kn P w K mg base "_law_make" 1 Sy xE) (yh:Kn P w K mg base "_law_plus" 42 Sz (jo nadd)) (yx:Kn P w K mg base "_law_times" 42 Sz (jo nmul)) (xF:Kn P w K mg base "_law_minus" 43 Sz Zf) (m_len:mg "len" = none) (m_zip:mg "zip" = none):Kn P w K mg base "_law_exchanged" 44 SI zbq:=by
 refine D.kn sD (fun vs H Q E h=>?_) (fun f cdv A' outer s' H vs Q E hr h=>?_)
 ·obtain⟨k,c,Ms,H0,ts,pt,rs,n,m,q,z,rfl,_⟩:=h;rfl
 obtain⟨k,c,Ms,H0,ts,pt,rs,n,m,qn,z,rfl,hk,G,tM,hpt,nr,nt,n1,n10,m10,q10,z1000,q⟩:=h;have szl:=SV
 have kl:=hk.lt;have lM3:=tM.1;obtain⟨ta,tb,tc,rfl⟩ : ∃ ta tb tc,ts=[ta,tb,tc]:=by
  match ts,(G.lt.trans lM3)with
  | [ta,tb,tc],_=>exact⟨ta,tb,tc,rfl⟩
 refine⟨_,(zc (zk (i:=3) sD.nd rfl (.inl rfl) (zy zJ rfl m_len ym (za (zD zw (pv 1) zd) zb))) (zc (zk (i:=4) sD.nd rfl (.inl rfl) (zh zN (pv 2) (pv 3))) (zg (yD (zQ Xx (pv 3) zd (kae _)) (zc (zk (i:=5) sD.nd rfl (.inl rfl) (zh zN (zh ye (zh ye (pv 4) zd) (zh zN (zh (zW hr (by decide) hP hS ⟨_,_,rfl,rfl,rfl,rfl,rfl⟩) (pv 2) zd) (zh jA (pv 3) zd))) (pv 3))) (zc (zk (i:=6) sD.nd rfl (.inr rfl) (zu zM hr (za (pv 0) (za (zD zw (yn (za zd (za (zdJ Qm zd) (za zd zb)))) (zh zN (zh (zW hr (by decide) hP hS ⟨_,_,rfl,rfl,rfl,rfl,rfl⟩) (pv 2) zd) zd)) zb)))) (zc (yD (zQ Xx (pv 0) zd (kae _)) (zg (zk (i:=6) sD.nd rfl (.inr rfl) (zh zN (zh (zW hr (by decide) hP hS ⟨_,_,rfl,rfl,rfl,rfl,rfl⟩) (pv 2) zd) (pv 0)))) zO) (zc (qK (pv 1) (zgC 3 rfl (zK (zt (i:=7) sD.nd rfl (.inl rfl)) (zK (zt (i:=8) sD.nd rfl (.inl rfl)) (zK (zt (i:=9) sD.nd rfl (.inl rfl)) xp))))) (zc (yw PassesOwn.never rfl (zV (yn (za (pv 7) (za (pv 8) zb)))) (zt (i:=10) sD.nd rfl (.inl rfl)) (zg (qK (qq ["_law_x", "_law_y"] ["_law_prime_here", "_law_c"] [0,6] ⟨rfl,rfl,rfl,rfl,rfl,rfl,by decide +kernel⟩ rfl (jN rfl m_zip (za (zD zw (pv 10) (pv 4)) (za (zD zw (pv 10) (pv 5)) zb))) (jc (zX (yb (by decide)) zY (zX (yb (by decide)) zY xG))) fun _ _ _ _ _ _=>⟨(xJ 2 rfl (zK (zt (i:=0) (by decide:(["_law_x", "_law_y", "_law_prime_here", "_law_c"]:List Str).Nodup) rfl (by first|exact Or.inl rfl|exact Or.inr rfl)) (zK (zt (i:=1) (by decide:(["_law_x", "_law_y", "_law_prime_here", "_law_c"]:List Str).Nodup) rfl (by first|exact Or.inl rfl|exact Or.inr rfl)) xp))),zI,(zu yh hr (za (pv 2) (za (pv 0) (za (zu yx hr (za (pv 2) (za (pv 3) (za (pv 1) zb)))) zb))))⟩) (XV (pv 10) (pv 4) qH)))) (zg (yw PassesOwn.never rfl (zV (yn (za (pv 7) (za (pv 9) zb)))) (zt (i:=10) sD.nd rfl (.inl rfl)) (zg (yw PassesOwn.never rfl (zV (pv 10)) (zt (i:=11) sD.nd rfl (.inl rfl)) (zg (qK (zu xF hr (za (pv 0) (za (zD zw (pv 11) (pv 5)) (za (zu yx hr (za (pv 0) (za (pv 6) (za (zD zw (pv 11) (pv 4)) zb)))) zb)))) (XV (pv 11) (pv 5) qH)))))))))))) zO)))),?_⟩;obtain⟨M0,t0,ra,e1,e2,ea,hTa⟩:=G.get (i:=0) (by omega);cases e2;have lra:=zj hTa.2;rw[(tM.2 0 M0 e1).len]at lra;replace lra:n=ra.length:=lra;refine⟨_,rfl,pt,_,_,.ref ta,rfl,rfl,SqL.of hpt,zG (j:=0) rfl,ta,_,rfl,.inl (SqL.of hTa.1),?_⟩;rw[wc,← lra];refine⟨_,rfl,_,rfl,_,_,rfl,rfl,(by show(n:Int)≠0;omega),?_⟩;have i0:=wp c (show(0:Int) <(n:Int) by omega);have i1:=wv c (show(0:Int) <(n:Int) by omega)
 try dsimp only
 generalize c.fmod (n:Int)=iI at *;obtain⟨i,rfl⟩:=Gd i0;have hi:i<n:=by omega
 clear hTa ea lra e1;refine⟨_,rfl,_,_,rfl,rfl,_,rfl,?_⟩;refine ite2 (fun cn=>?_) (fun cn=>?_)
 rotate_left
 ·exact q Ms rs H G (tM.up fun _=>by omega) hpt nr
 have n2:(1:Int) <(n:Int):=of_decide_eq_true cn;refine⟨_,rfl,_,_,rfl,rfl,_,rfl,_,_,rfl,rfl,(by show(5:Int)≠0;decide),_,rfl,_,_,rfl,rfl,_,_,rfl,rfl,(by show(n:Int) - 1≠0;omega),_,_,rfl,rfl,_,rfl,_,_,rfl,rfl,(by show(n:Int)≠0;omega),?_⟩
 try dsimp only
 have j0:=wp ((i:Int)+1 +(c.fdiv 5).fmod ((n:Int) - 1)) (show(0:Int) <(n:Int) by omega);have j1:=wv ((i:Int)+1 +(c.fdiv 5).fmod ((n:Int) - 1)) (show(0:Int) <(n:Int) by omega);generalize ((i:Int)+1 +(c.fdiv 5).fmod ((n:Int) - 1)).fmod (n:Int)=jI at *;obtain⟨j,rfl⟩:=Gd j0;have hj:j<n:=by omega
 refine⟨_,rfl,_,rfl,(by show 3<=sizeLine;decide),fun p3 hp3=>?_⟩;obtain⟨w3,ew,hw⟩:=pick3 (wp (c.fdiv 20) (show(0:Int)<3 by decide)) (wv (c.fdiv 20) (show(0:Int)<3 by decide));have g3:=zf hp3 (.lst [V.int 1,V.int (-1),V.int 2]);refine⟨_,rfl,_,_,rfl,rfl,(by show(20:Int)≠0;decide),_,_,rfl,rfl,(by show(3:Int)≠0;decide),p3,_,_,.int w3,rfl,rfl,SqL.of ze,ew,k,w3,rfl,hk,fun vc H4 g4 rc=>?_⟩;have g34:=g3.trans g4;generalize upd H p3 (.lst [V.int 1,V.int (-1),V.int 2])=H3 at *;clear hp3 g3 g4 ew;have sw:whk k 2 (nnum k w3):=fun k0=>⟨w3,rfl,by
  have:(2:Nat)^2=4:=by decide
  omega⟩
 try dsimp only
 refine qd (fun σ H'=>∃ x v o7 o8 o9 o10 o11,σ=[some (.int k),some (.ref pt),some (.int c),some (.int (n:Int)),some (.int (i:Int)),some (.int (j:Int)),some v,o7,o8,o9,o10,o11]/\x.ok k/\whk k 2 x/\RN H' x v/\H'=H4) ?_ ?_
 rotate_left
 ·intro hN;refine⟨_,rfl,_,_,rfl,rfl,_,rfl,?_⟩;refine ite2 (fun ck=>?_) (fun ck=>?_)
  ·have k0:0<k:=of_decide_eq_true ck;exact⟨_,rfl,_,_,rfl,rfl,(by show(20:Int)≠0;decide),_,rfl,_,_,rfl,rfl,(show k≠0 by omega),hN _ _ ⟨.z _,_,_,_,_,_,_,rfl,⟨by omega,wp _ k0,wv _ k0⟩,fun e=>by omega,RN.of_z,rfl⟩⟩
  ·exact hN _ _ ⟨nnum k w3,vc,_,_,_,_,_,rfl,La.zR hk w3,sw,rc,rfl⟩
 clear rc sw hw
 rintro σ H4' ⟨x,vc,o7,o8,o9,o10,o11,rfl,ox,sx,rc,rfl⟩
 replace G:=G.mono g34;replace hpt:=g34 _ _ hpt;clear g34;refine⟨_,rfl,pt,_,rfl,SqL.of hpt,rfl,_,_,rfl,_,_,rfl,_,_,rfl,rfl,?_⟩;refine⟨_,rfl,_,rfl,(by show 2<=sizeLine;decide),fun pl hpl=>?_⟩;have g5:=zf hpl (.lst [.ref ta,.ref tb]);have hl5:upd H4' pl (.lst [.ref ta,.ref tb]) pl=some (.lst [.ref ta,.ref tb]):=ze;have nlt:pl∉[ta,tb,tc]:=fun hm=>by obtain⟨o,ho⟩:=G.tsome hm;rw[hpl]at ho;cases ho
 have nlr:∀ ras∈rs,pl∉ras:=fun ras hr hm=>by obtain⟨o,ho⟩:=G.rsome hr hm;rw[hpl]at ho;cases ho
 replace G:=G.mono g5;replace hpt:=g5 _ _ hpt;replace rc:=rc.mono g5;generalize upd H4' pl (.lst [.ref ta,.ref tb])=H5 at *;clear g5 hpl;refine⟨pl,rfl,⟨_,SqL.of hl5⟩,?_⟩;refine xw (xs:=[.ref ta,.ref tb]) (fun l σ H'=>∃ Ms rs o10 o11,σ=[some (.int k),some (.ref pt),some (.int c),some (.int (n:Int)),some (.int (i:Int)),some (.int (j:Int)),some vc,some (.ref ta),some (.ref tb),some (.ref tc),o10,o11]/\kaf H0 H' Ms [ta,tb,tc] rs/\TWs k n m qn (fun I=>if I<l then z+3 else z) Ms/\H' pt=some (.lst [.ref ta,.ref tb,.ref tc])/\(∀ ras∈rs,pt∉ras)/\H' pl=some (.lst [.ref ta,.ref tb])/\(∀ ras∈rs,pl∉ras)/\RN H' x vc) ⟨Ms,rs,_,_,rfl,G,tM.up fun I=>by rw[if_neg (uF I)];exact wl _,hpt,nr,hl5,nlr,rc⟩ ?_ ?_ ?_
 ·rintro l σ H' _ ⟨Ms,rs,o10,o11,rfl,_,_,_,_,hl',_⟩
  exact SqL.of hl'
 ·clear G tM hpt nr hl5 nlr rc lM3
  rintro l v σ H6 hv ⟨Ms,rs,o10,o11,rfl,G,tM,hpt,nr,hl6,nlr,rc⟩
  have l2:l<2:=(wm.mp hv).1;obtain⟨t,rfl,ht⟩ : ∃ t,v=.ref t/\[ta,tb,tc][l]?=some t:=by
   match l,hv with
   | 0,hv=>cases hv;exact⟨ta,rfl,rfl⟩
   | 1,hv=>cases hv;exact⟨tb,rfl,rfl⟩
  obtain⟨M,t',ras,eM,e2,er,hT⟩:=G.get (i:=l) (by rw[tM.1];omega);rw[ht]at e2;cases e2;have tk:TW k (dimR n m qn l) (dimC n m qn l) z M:=by
   have h:=tM.2 l M eM
   dsimp only at h
   rw[if_neg (vY l)]at h;exact h
  have dn:dimR n m qn l=n:=by unfold dimR;rw[if_neg (by omega)]
  have cc10:dimC n m qn l<=10:=by unfold dimC;split <;> omega
  have lras:=zj hT.2;rw[tk.len,dn]at lras;have ei:ras[i]?=some ras[i]:=wa (by omega);have ej:ras[j]?=some ras[j]:=wa (by omega);obtain⟨xi,hxi,ri⟩:=zU hT.2 ei;obtain⟨xj,hxj,rj⟩:=zU hT.2 ej;obtain⟨ui,hui,pui,lui⟩:=ri.len;obtain⟨uj,huj,puj,luj⟩:=rj.len;have oi:=tk.ok xi (wd hxi);have oj:=tk.ok xj (wd hxj);have si:=tk.sz xi (wd hxi);have sj:=tk.sz xj (wd hxj);have ll:xi.length=xj.length:=by rw[oi.1,oj.1]
  refine⟨_,rfl,_,rfl,t,_,_,.ref ras[i],rfl,rfl,SqL.of hT.1,zG (by rw[wf,ei];rfl),_,rfl,_,rfl,t,_,_,.ref ras[j],rfl,rfl,SqL.of hT.1,zG (by rw[wf,ej];rfl),ras[i],ras[j],ui,uj,rfl,SqL.of hui,SqL.of huj,?_⟩;refine jP (xs:=ui) (zs:=uj) (by rw[lui,luj];exact ll) (fun e ys H'=>Same H6 H'/\Paired (RN H') ((vm (fun a b=>nadd k a (nmul k x b)) xi xj).take e) ys) ⟨Same.refl _,.nil⟩ ?_ ?_ ?_
  ·rintro e ys H' he ⟨g,pr⟩
   refine⟨SqL.of (g _ _ hui),SqL.of (g _ _ huj),?_⟩;have:=zj pr;rw[wj]at this;rw[lui,oi.1]at he;omega
  ·rintro e a b T ys H' ha hb he hTn ⟨g,pr⟩
   have g':=g.trans (zf hTn (.tup [a,b]));obtain⟨na,ena,rna⟩:=zU pui ha;obtain⟨nb,enb,rnb⟩:=zU puj hb;have oa:=oi.2 na (wd ena);have ob:=oj.2 nb (wd enb);have sa:=si na (wd ena);have sb:=sj nb (wd enb);have om:=La.xm hk ox ob;have sm:=Jl ox ob sx sb;have pr':=yz (zf hTn (.tup [a,b])) pr;refine⟨T,_,rfl,SqT.of ze,rfl,_,_,rfl,_,_,rfl,rfl,?_⟩;generalize upd H' T (.tup [a,b])=H7 at *
   first|refine gyes ?_|refine tyes ?_
   refine⟨_,rfl,_,rfl,_,rfl,_,rfl,_,rfl,k,x,nb,_,_,rfl,⟨hk,ox,ob,sx.nsm hk ox (by decide) (by decide),sb.nsm hk ob (by omega) (by decide),rc.mono g',rnb.mono g'⟩,fun v8 H8 g8 r8=>?_⟩;refine⟨k,na,_,_,_,rfl,⟨hk,oa,om,sa.nsm hk oa (by omega) (by decide),sm.nsm hk om (by omega) (by decide),(rna.mono g').mono g8,r8⟩,fun v9 H9 g9 r9=>nxt he ⟨(g'.trans g8).trans g9,?_⟩⟩;have ez:(vm (fun a b=>nadd k a (nmul k x b)) xi xj)[e]?=some (nadd k na (nmul k x nb)):=by rw[vH,ena,enb]
   rw[zr ez];exact yu (yz (g8.trans g9) pr') r9
  rintro ys H7 ⟨g7,pr⟩ pn hpn
  rw[lui,wg (by rw[wr];omega)]at pr;generalize ez:vm (fun a b=>nadd k a (nmul k x b)) xi xj=xz at *;have memz:∀ y∈xz,y.ok k/\whk k (z+3) y:=fun y hy=>by
   rw[← ez]at hy;obtain⟨e,he,rfl⟩:=wV hy;rw[vy];rw[wr]at he;have oa:=oi.2 _ (we (show e<xi.length by omega));have ob:=oj.2 _ (we (show e<xj.length by omega));have sa:=si _ (we (show e<xi.length by omega));have sb:=sj _ (we (show e<xj.length by omega));exact⟨La.jU hk oa (La.xm hk ox ob),(zbr oa (La.xm hk ox ob) sa (Jl ox ob sx sb)).mono (by omega)⟩
  have lz:xz.length=dimC n m qn l:=by rw[← ez,wr,← ll,oi.1];omega
  have g8:=zf hpn (.lst ys);have R8:kai (upd H7 pn (.lst ys)) xz pn:=⟨ys,ze,yz g8 pr⟩;have G7:=G.mono g7;have npn:pn∉[ta,tb,tc]:=fun hm=>by obtain⟨o,ho⟩:=G7.tsome hm;rw[hpn]at ho;cases ho
  have nrn:∀ ras∈rs,pn∉ras:=fun ras hr hm=>by obtain⟨o,ho⟩:=G7.rsome hr hm;rw[hpn]at ho;cases ho
  have fpn:H0 pn=none:=G7.same.none hpn;have ptn:pt≠pn:=fun e=>by rw[← e,g7 _ _ hpt]at hpn;cases hpn
  have pln:pl≠pn:=fun e=>by rw[← e,g7 _ _ hl6]at hpn;cases hpn
  have G8:=G7.mono g8;have g78:=g7.trans g8;generalize upd H7 pn (.lst ys)=H8 at *;have hT8:=hT.mono g78;have tm:=wd ht;have ptt:pt≠t:=fun e=>nt (by rw[e];exact tm)
  have plt:pl≠t:=fun e=>nlt (by rw[e];exact tm)
  refine⟨_,rfl,_,rfl,t,_,_,i,rfl,rfl,hT8.1,ZE (by rw[wc];omega),?_⟩;have G9:=G8.setSlot (i:=l) (j:=i) eM ht er (by omega) R8 fpn npn nrn;rw[wak]at G9;have away:∀ p,p≠pn->(∀ ras∈rs,p∉ras)->∀ x'∈rs.set l (ras.set i pn),p∉x':=fun p hp hr x' hx' hm=>by
   rcases La.yd hx' with e|e
   ·rw[e]at hm
    rcases La.yd hm with e'|e'
    ·exact hp e'
    ·exact hr ras (wd er) e'
   ·exact hr x' e hm
  refine⟨Ms.set l (M.set i xz),rs.set l (ras.set i pn),_,_,rfl,G9,tM.set (g:=fun I=>if I<l+1 then z+3 else z) ?_ (fun I hI=>?_),by rw[zH ptt];exact g78 _ _ hpt,away pt ptn nr,by rw[zH plt];exact g78 _ _ hl6,away pl pln nlr,(rc.mono g78).upd hT8.1⟩
  ·rw[if_pos (uM l)];exact(tk.up (show z<=z+3 by omega)).set lz (fun y hy=>(memz y hy).1) (fun y hy=>(memz y hy).2)
  ·by_cases c1:I<l
   ·rw[if_pos c1,if_pos (by omega)];exact wl _
   ·rw[if_neg c1,if_neg (by omega)];exact wl _
 clear G tM hpt nr hl5 nlr rc nlt
 rintro σ H6 ⟨Ms,rs,o10,o11,rfl,G,tM0,hpt,nr,_,_,rc⟩
 have tM:TWs k n m qn (fun _=>z+3) Ms:=tM0.up fun I=>by split <;> omega
 clear tM0;refine⟨_,rfl,_,rfl,(by show 2<=sizeLine;decide),fun pl hpl=>?_⟩;have g5:=zf hpl (.lst [.ref ta,.ref tc]);have hl5:upd H6 pl (.lst [.ref ta,.ref tc]) pl=some (.lst [.ref ta,.ref tc]):=ze;have nlr:∀ ras∈rs,pl∉ras:=fun ras hr hm=>by obtain⟨o,ho⟩:=G.rsome hr hm;rw[hpl]at ho;cases ho
 replace G:=G.mono g5;replace hpt:=g5 _ _ hpt;replace rc:=rc.mono g5;generalize upd H6 pl (.lst [.ref ta,.ref tc])=H7 at *;clear g5 hpl;refine⟨pl,rfl,⟨_,SqL.of hl5⟩,?_⟩;refine xw (xs:=[.ref ta,.ref tc]) (fun l σ H'=>∃ Ms o10 o11,σ=[some (.int k),some (.ref pt),some (.int c),some (.int (n:Int)),some (.int (i:Int)),some (.int (j:Int)),some vc,some (.ref ta),some (.ref tb),some (.ref tc),o10,o11]/\kaf H0 H' Ms [ta,tb,tc] rs/\TWs k n m qn (fun I=>if I<2*l then z+6 else z+3) Ms/\H' pt=some (.lst [.ref ta,.ref tb,.ref tc])/\H' pl=some (.lst [.ref ta,.ref tc])/\RN H' x vc) ⟨Ms,_,_,rfl,G,tM.up fun I=>by rw[if_neg (by omega)];exact wl _,hpt,hl5,rc⟩ ?_ ?_ ?_
 ·rintro l σ H' _ ⟨Ms,o10,o11,rfl,_,_,_,hl',_⟩
  exact SqL.of hl'
 ·clear G tM hpt hl5 rc
  rintro l v σ H8 hv ⟨Ms,o10,o11,rfl,G,tM,hpt,hl8,rc⟩
  have l2:l<2:=(wm.mp hv).1;obtain⟨t,rfl,ht⟩ : ∃ t,v=.ref t/\[ta,tb,tc][2*l]?=some t:=by
   match l,hv with
   | 0,hv=>cases hv;exact⟨ta,rfl,rfl⟩
   | 1,hv=>cases hv;exact⟨tc,rfl,rfl⟩
  obtain⟨M,t',ras,eM,e2,er,hT⟩:=G.get (i:=2*l) (by rw[tM.1];omega);rw[ht]at e2;cases e2;have tk:TW k (dimR n m qn (2*l)) (dimC n m qn (2*l)) (z+3) M:=by
   have h:=tM.2 (2*l) M eM
   dsimp only at h
   rw[if_neg (vY (2*l))]at h;exact h
  have cn':dimC n m qn (2*l)=n:=by unfold dimC;rw[if_neg (by omega)]
  rw[cn']at tk;have lras:=zj hT.2;have rm:=wd er;have lMs:=tM.1;refine⟨_,rfl,t,rfl,⟨_,SqL.of hT.1⟩,?_⟩;refine xw (xs:=ras.map V.ref) (fun e σ H'=>∃ Mc o11,σ=[some (.int k),some (.ref pt),some (.int c),some (.int (n:Int)),some (.int (i:Int)),some (.int (j:Int)),some vc,some (.ref ta),some (.ref tb),some (.ref tc),some (.ref t),o11]/\kaf H0 H' (Ms.set (2*l) Mc) [ta,tb,tc] rs/\TW k (dimR n m qn (2*l)) n (z+6) Mc/\(∀ e' r,e<=e'->Mc[e']?=some r->∀ y∈r,whk k (z+3) y)/\H' pt=some (.lst [.ref ta,.ref tb,.ref tc])/\H' pl=some (.lst [.ref ta,.ref tc])/\RN H' x vc) ⟨M,_,rfl,by rw[zen eM];exact G,tk.up (by omega),fun e' r _ hr=>tk.sz r (wd hr),hpt,hl8,rc⟩ ?_ ?_ ?_
  ·rintro e σ H' _ ⟨Mc,o11,rfl,G',_⟩
   exact SqL.of (G'.tabs (2*l) Mc t ras (by rw[vf,if_pos rfl,if_pos (by omega)]) ht er).1
  ·rintro e v σ H' hv ⟨Mc,o11,rfl,G',tkc,low,hpt',hl',rc'⟩
   have eMc:(Ms.set (2*l) Mc)[2*l]?=some Mc:=by rw[vf,if_pos rfl,if_pos (by omega)]
   have hT':=G'.tabs (2*l) Mc t ras eMc ht er;obtain⟨row,ar,hrow,har,rfl,hR⟩:=hT'.row hv;obtain⟨us,hu,pu,lu⟩:=hR.len;have orow:=tkc.ok row (wd hrow);have srow:=low e row (wl _) hrow;have ei:row[i]?=some row[i]:=wa (by rw[orow.1];exact hi);have ej:row[j]?=some row[j]:=wa (by rw[orow.1];exact hj);obtain⟨vi,hvi,rvi⟩:=yU pu ei;obtain⟨vj,hvj,rvj⟩:=yU pu ej;have oi:=orow.2 _ (wd ei);have oj:=orow.2 _ (wd ej);have si:=srow _ (wd ei);have sj:=srow _ (wd ej);have om:=La.xm hk ox oi;have sm:=Jl ox oi sx si;have nap:ar≠pt:=fun e=>nr ras rm (by rw[← e];exact wd har)
   have nal:ar≠pl:=fun e=>nlr ras rm (by rw[← e];exact wd har)
   refine⟨_,rfl,_,rfl,_,rfl,ar,_,_,vj,rfl,rfl,SqL.of hu,zG hvj,_,rfl,_,rfl,_,rfl,_,rfl,ar,_,_,vi,rfl,rfl,SqL.of hu,zG hvi,k,x,row[i],_,_,rfl,⟨hk,ox,oi,sx.nsm hk ox (by decide) (by decide),si.nsm hk oi (by omega) (by decide),rc',rvi⟩,fun v9 H9 g9 r9=>?_⟩;refine⟨k,row[j],_,_,_,rfl,hk,oj,om,sj.nsm hk oj (by omega) (by decide),sm.nsm hk om (by omega) (by decide),rvj.mono g9,r9,fun v10 H10 g10 r10=>?_⟩;have g':=g9.trans g10;have hu':=g' _ _ hu;refine⟨_,rfl,_,rfl,ar,us,_,j,rfl,rfl,hu',ZE (by rw[lu,orow.1];exact hj),?_⟩;have G10:=(G'.mono g').setRow eMc er har hu' (zbl (yz g' pu) j r10);rw[List.set_set]at G10;have lset:∀ y∈row.set j (nsub k row[j] (nmul k x row[i])),y.ok k/\whk k (z+6) y:=fun y hy=>by
    rcases La.yd hy with e|e
    ·rw[e];exact⟨Jm (by omega) oj om,(zaZ oj om sj sm).mono (by omega)⟩
    ·exact⟨orow.2 y e,(srow y e).mono (by omega)⟩
   refine⟨Mc.set e (row.set j (nsub k row[j] (nmul k x row[i]))),_,rfl,G10,tkc.set (by rw[vv];exact orow.1) (fun y hy=>(lset y hy).1) (fun y hy=>(lset y hy).2),fun e' r he' hr=>?_,by rw[zH (Ne.symm nap)];exact g' _ _ hpt',by rw[zH (Ne.symm nal)];exact g' _ _ hl',(rc'.mono g').upd hu'⟩;rw[vf,if_neg (by omega)]at hr;exact low e' r (by omega) hr
  ·rintro σ H' ⟨Mc,o11,rfl,G',tkc,low,hpt',hl',rc'⟩
   refine⟨Ms.set (2*l) Mc,_,_,rfl,G',tM.set (g:=fun I=>if I<2 *(l+1)then z+6 else z+3) ?_ (fun I hI=>?_),hpt',hl',rc'⟩
   ·rw[if_pos (by omega),cn'];exact tkc
   ·split <;> split <;> omega
 ·rintro σ H8 ⟨Ms,o10,o11,rfl,G,tM,hpt,hl8,rc⟩
  exact q Ms rs H8 G (tM.up fun I=>by split <;> omega) hpt nr
theorem zeq(cs:List Int)(lo hi:Option Int):∃ zs:List Int,cutV (cs.map V.int) lo hi=zs.map V.int:=⟨_,by unfold cutV;rw[wc,← uf,← vR]⟩
def YX:Sp:=fun vs H Q _=>∃(pc pq:Addr)(cs:List Int)(a b:Nat),vs=[.ref pc,.ref pq]/\H pc=some (.lst (cs.map V.int))/\cs≠[]/\cs.length<=1000/\H pq=some (.lst [.int (a:Int),.int (b:Int)])/\1<=a/\a<=3/\1<=b/\b<=10 /\
 ∀(k:Int)(n m q at':Nat)(A B C:TB)(p3 pm ta tb tc:Addr)(ra rb rc:List Addr)(H':Hp),Same H H'->H' p3=some (.tup [.int k,.ref pm,.int (at':Int)])->MachAt H' A B C pm ta tb tc ra rb rc->KindS k->Fit k n->MOk k n m q 80 A B C->(TW k n n 14 A/\TW k n m 14 B/\TW k q n 14 C/\((cs.headD 1).fmod 3=0->k=0))->1<=m->m<=2->1<=q->q<=2->(k=0/\n<=a)\/(k≠0/\n<=b)->Q (.ref p3) H'
theorem zaz (hP:P.given.tree=none) (hS:base.NoSeer) (D:Df K mg "_law_machine" SJ xC) (QF:Kn P w K mg base "_law_prime" 41 ["_law_cell"] Qx) (QN:Kn P w K mg base "_law_sorts" 42 SF QS) (XF:Kn P w K mg base "_law_blocked" 45 SH Xo) (Yq:Kn P w K mg base "_law_exchanged" 44 SI zbq) (m_int:mg "int" = none) (zi:mg "range" = none):Kn P w K mg base "_law_machine" 46 SJ YX:=by
 refine D.kn sK (fun vs H Q E h=>?_) (fun f cdv A' outer s' H vs Q E hr h=>?_)
 ·obtain⟨pc,pq,cs,a,b,rfl,_⟩:=h;rfl
 obtain⟨pc,pq,cs,a,b,rfl,hc,ne,c1000,hq,a1,a3,b1,b10,q⟩:=h;have szl:=SV
 obtain⟨c0,cs',rfl⟩:=ut ne;refine⟨_,(zc (zk (i:=2) sK.nd rfl (.inl rfl) (zD zw (pv 0) zd)) (zc (zk (i:=3) sK.nd rfl (.inl rfl) (zu QF hr (za (pv 2) zb))) (zc (zk (i:=4) sK.nd rfl (.inl rfl) (xL (za (zh ye zd (zh zN (zh (zW hr (by decide) hP hS ⟨_,_,rfl,rfl,rfl,rfl,rfl⟩) (pv 2) zd) (zD zw (pv 1) (xa Zd rfl m_int zah (za (xb Xx (pv 3) zd (kae _)) zb))))) (za (zh ye zd (zh zN (zh (zW hr (by decide) hP hS ⟨_,_,rfl,rfl,rfl,rfl,rfl⟩) (pv 2) zd) zd)) (za (zh ye zd (zh zN (zh (zW hr (by decide) hP hS ⟨_,_,rfl,rfl,rfl,rfl,rfl⟩) (pv 2) zd) zd)) zb))))) (zc (zk (i:=5) sK.nd rfl (.inl rfl) (xb xX (zh zN (zh (zW hr (by decide) hP hS ⟨_,_,rfl,rfl,rfl,rfl,rfl⟩) (pv 2) zd) zd) zd (kae _))) (zc (qK (zu XF hr (za (pv 3) (za (pv 0) (za (pv 4) (za (zu QN hr (za (pv 2) (za (zD zE (pv 4) zd) (za (pv 5) zb)))) zb))))) (xJ 2 rfl (zK (zt (i:=6) sK.nd rfl (.inl rfl)) (zK (zt (i:=7) sK.nd rfl (.inl rfl)) xp)))) (zc (yw PassesOwn.never rfl (zF rfl zi (za zd zb)) (zt (i:=8) sK.nd rfl (.inl rfl)) (zg (yD (Yn (Za (pv 5))) (zg (xI (zu Yq hr (za (pv 3) (za (pv 6) (za (zh ye (zD zw (zh qW (yB xq (pv 0) (yW (pv 7)) xt) (yn (za zd (za zd (za zd zb))))) (pv 8)) (zh (zW hr (by decide) hP hS ⟨_,_,rfl,rfl,rfl,rfl,rfl⟩) (pv 2) zd)) zb)))))) zO))) (zg (zo (xL (za (pv 3) (za (xL (za (zD zw (pv 6) zd) (za (zD zw (pv 6) zd) (za (zD zw (pv 6) zd) zb)))) (za (zh ye (pv 7) zd) zb)))))))))))),?_⟩;refine⟨_,rfl,pc,_,_,_,rfl,rfl,SqL.of hc,zG (j:=0) rfl,?_⟩;refine⟨_,rfl,c0,rfl,fun k H1 g1 hs hk0=>?_⟩;have hk:=hs.ok;have kl:=hk.lt;have hq1:=g1 _ _ hq;obtain⟨mo,emo,mo1,mob⟩ : ∃ mo:Nat,atI [V.int (a:Int),V.int (b:Int)] (if decide (0<k)=true then 1 else 0)=some (.int (mo:Int))/\1<=mo/\((k=0/\mo=a)\/(k≠0/\mo=b)):=by
  by_cases h:0<k
  ·rw[decide_eq_true h];exact⟨b,rfl,b1,.inr ⟨by omega,rfl⟩⟩
  ·rw[decide_eq_false h];exact⟨a,rfl,a1,.inl ⟨by omega,rfl⟩⟩
 have n75:(75:Int)≠0:=by decide
 refine⟨_,rfl,_,_,rfl,rfl,n75,_,rfl,_,rfl,_,_,rfl,rfl,.inr ⟨_,rfl,pq,_,_,.int (mo:Int),rfl,rfl,SqL.of hq1,emo,_,_,rfl,rfl,(by show(mo:Int)≠0;omega),_,_,rfl,rfl,_,rfl,_,_,rfl,rfl,(by show(375:Int)≠0;decide),_,_,rfl,rfl,(by show(2:Int)≠0;decide),_,_,rfl,rfl,_,rfl,_,_,rfl,rfl,(by show(750:Int)≠0;decide),_,_,rfl,rfl,(by show(2:Int)≠0;decide),_,_,rfl,rfl,(by show 3<=sizeLine;decide),fun pz hpz=>?_⟩⟩
 try dsimp only
 obtain⟨n,en,n1,nm⟩ : ∃ n:Nat,1 +(c0.fdiv 75).fmod (mo:Int) =(n:Int)/\1<=n/\n<=mo:=by
  have f0:=wp (c0.fdiv 75) (show(0:Int) <(mo:Int) by omega);have f1:=wv (c0.fdiv 75) (show(0:Int) <(mo:Int) by omega);exact⟨(1 +(c0.fdiv 75).fmod (mo:Int)).toNat,by omega,by omega,by omega⟩
 obtain⟨m,em,m1,m2⟩ : ∃ m:Nat,1 +(c0.fdiv 375).fmod 2 =(m:Int)/\1<=m/\m<=2:=by
  have f0:=wp (c0.fdiv 375) (show(0:Int)<2 by decide);have f1:=wv (c0.fdiv 375) (show(0:Int)<2 by decide);exact⟨(1 +(c0.fdiv 375).fmod 2).toNat,by omega,by omega,by omega⟩
 obtain⟨qn,eq,q1,q2⟩ : ∃ qn:Nat,1 +(c0.fdiv 750).fmod 2 =(qn:Int)/\1<=qn/\qn<=2:=by
  have f0:=wp (c0.fdiv 750) (show(0:Int)<2 by decide);have f1:=wv (c0.fdiv 750) (show(0:Int)<2 by decide);exact⟨(1 +(c0.fdiv 750).fmod 2).toNat,by omega,by omega,by omega⟩
 rw[en,em,eq]at *;have g2:=zf hpz (.tup [.int (n:Int),.int (m:Int),.int (qn:Int)]);have hz2:upd H1 pz (.tup [.int (n:Int),.int (m:Int),.int (qn:Int)]) pz=some (.tup [.int (n:Int),.int (m:Int),.int (qn:Int)]):=ze;generalize upd H1 pz (.tup [.int (n:Int),.int (m:Int),.int (qn:Int)])=H2 at *;have n10:n<=10:=by rcases mob with⟨_,h⟩|⟨_,h⟩ <;> omega
 refine⟨_,rfl,_,_,rfl,rfl,(by show(1500:Int)≠0;decide),_,_,rfl,rfl,(by show(3:Int)≠0;decide),rfl,?_⟩
 try dsimp only
 generalize decide (V.int ((c0.fdiv 1500).fmod 3)=V.int 0)=pb;refine⟨_,rfl,_,rfl,_,rfl,_,rfl,_,rfl,pz,_,_,.int (n:Int),rfl,rfl,SqT.of hz2,rfl,_,rfl,c0,n,pb,rfl,by omega,fun ss ps H3 g3 hs3 lss=>?_⟩;have g13:=(g1.trans g2).trans g3;refine⟨k,pc,pz,ps,c0::cs',ss,n,m,qn,rfl,hk,g13 _ _ hc,ne,g3 _ _ hz2,hs3,lss,n10,by omega,by omega,fun A B C pt pr ts rs at' H4 G tA tB tC hpt ptn nt nr hpr=>?_⟩;refine⟨pr,_,rfl,SqT.of hpr,rfl,_,_,rfl,_,_,rfl,rfl,?_⟩;have T0:TWs k n m qn (fun _=>2) [A,B,C]:=⟨rfl,fun I M hM=>by
  match I,hM with
  | 0,hM=>cases hM;exact tA
  | 1,hM=>cases hM;exact tB
  | 2,hM=>cases hM;exact tC⟩
 clear tA tB tC hpr;refine⟨2,rfl,(by decide),(by decide),?_⟩;refine yv (lo:=0) (n:=2) (fun l σ H'=>∃ Ms rs o8,σ=[some (.ref pc),some (.ref pq),some (.int c0),some (.int k),some (.ref pz),some (.bl pb),some (.ref pt),some (.int (at':Int)),o8]/\kaf H3 H' Ms ts rs/\TWs k n m qn (fun _=>if l=0 then 2 else if l=1 then 8 else 14) Ms/\H' pt=some (.lst (ts.map V.ref))/\(∀ ras∈rs,pt∉ras)) ⟨_,rs,none,rfl,G,T0,hpt,nr⟩ ?_ ?_
 ·clear G T0 hpt nr
  rintro l σ H5 hl ⟨Ms,rs,o8,rfl,G,T,hpt,nr⟩
  refine⟨_,rfl,_,rfl,?_⟩;refine ite2 (fun cb=>?_) (fun cb=>?_)
  ·have hc5:H5 pc=some (.lst ((c0::cs').map V.int)):=G.same _ _ (g13 _ _ hc);refine⟨_,rfl,_,rfl,_,rfl,_,rfl,_,rfl,pc,_,rfl,SqL.of hc5,fun p1 hp1=>?_⟩;obtain⟨zs,ez⟩:=zeq (c0::cs') (some (at':Int)) none;have lzs:zs.length<=1000:=by
    have:(zs.map V.int).length<=((c0::cs').map V.int).length:=by rw[← ez];unfold cutV;rw[wj,vO];omega
    rw[wc,wc]at this;omega
   rw[ez];refine⟨(by show 3<=sizeLine;decide),fun p2 hp2=>?_⟩;have n12:p1≠p2:=fun e=>by rw[e,ze]at hp2;cases hp2
   refine⟨p1,p2,_,_,rfl,rfl,(by rw[zH n12];exact ze),ze,(by rw[wc];show zs.length+3<=sizeLine;omega),fun p3 hp3=>?_⟩;have e3:zs.map V.int++[V.int 0,V.int 0,V.int 0] =(zs++[0,0,0]).map V.int:=by simp
   rw[e3]at *;have g6:=((zf hp1 (.lst (zs.map V.int))).trans (zf hp2 (.lst [V.int 0,V.int 0,V.int 0]))).trans (zf hp3 (.lst ((zs++[0,0,0]).map V.int)));have h3':upd (upd (upd H5 p1 (.lst (zs.map V.int))) p2 (.lst [V.int 0,V.int 0,V.int 0])) p3 (.lst ((zs++[0,0,0]).map V.int)) p3=some (.lst ((zs++[0,0,0]).map V.int)):=ze;generalize upd (upd (upd H5 p1 (.lst (zs.map V.int))) p2 (.lst [V.int 0,V.int 0,V.int 0])) p3 (.lst ((zs++[0,0,0]).map V.int))=H6 at *;have ll:l <(zs++[(0:Int),0,0]).length:=by rw[wu];show l<zs.length+3;omega
   have el:((zs++[(0:Int),0,0]).map V.int)[l]?=some (.int (zs++[(0:Int),0,0])[l]):=by rw[wf,wa ll];rfl
   refine⟨_,rfl,p3,_,_,.int (zs++[(0:Int),0,0])[l],rfl,rfl,SqL.of h3',(by rw[vt];exact zG el),_,rfl,_,_,rfl,rfl,(by show(4500:Int)≠0;decide),_,_,rfl,rfl,k,_,Ms,H3,ts,pt,rs,n,m,qn,_,rfl,hk,G.mono g6,T,g6 _ _ hpt,nr,nt,n1,n10,by omega,by omega,(by split <;>(try split) <;> omega),fun Ms' rs' H7 G7 T7 hpt7 nr7=>?_⟩;refine⟨Ms',rs',_,rfl,G7,T7.up fun _=>?_,hpt7,nr7⟩
   rcases (show l=0\/l=1 by omega)with e|e
   ·subst e;decide
   ·subst e;decide
  ·refine⟨Ms,rs,_,rfl,G,T.up fun _=>?_,hpt,nr⟩
   rcases (show l=0\/l=1 by omega)with e|e
   ·subst e;decide
   ·subst e;decide
 ·rintro σ H5 ⟨Ms,rs,o8,rfl,G,T,hpt,nr⟩
  obtain⟨A,B,C,rfl⟩ : ∃ A B C,Ms=[A,B,C]:=by
   match Ms,T.1 with
   | [A,B,C],_=>exact⟨A,B,C,rfl⟩
  obtain⟨ta,tb,tc,rfl⟩ : ∃ ta tb tc,ts=[ta,tb,tc]:=by
   match ts,G.lt with
   | [ta,tb,tc],_=>exact⟨ta,tb,tc,rfl⟩
  obtain⟨ra,rb,rc,rfl⟩ : ∃ ra rb rc,rs=[ra,rb,rc]:=by
   match rs,G.lr with
   | [ra,rb,rc],_=>exact⟨ra,rb,rc,rfl⟩
  refine⟨_,rfl,_,rfl,pt,_,_,.ref ta,rfl,rfl,SqL.of hpt,zG (j:=0) rfl,_,rfl,pt,_,_,.ref tb,rfl,rfl,SqL.of hpt,zG (j:=1) rfl,_,rfl,pt,_,_,.ref tc,rfl,rfl,SqL.of hpt,zG (j:=2) rfl,(by show 3<=sizeLine;decide),fun pm hpm=>?_⟩;have g6:=zf hpm (.tup [.ref ta,.ref tb,.ref tc]);have hm6:upd H5 pm (.tup [.ref ta,.ref tb,.ref tc]) pm=some (.tup [.ref ta,.ref tb,.ref tc]):=ze;generalize upd H5 pm (.tup [.ref ta,.ref tb,.ref tc])=H6 at *;refine⟨_,rfl,_,_,rfl,rfl,(by show 3<=sizeLine;decide),fun p3 hp3=>?_⟩;have g7:=zf hp3 (.tup [.int k,.ref pm,.int ((at':Int)+2)]);have G7:=(G.mono g6).mono g7;have ft:Fit k n:=⟨n1,by
   rcases mob with⟨_,h⟩|⟨k0,h⟩
   ·exact .inl (by omega)
   ·exact .inr ⟨k0,by omega⟩⟩
  refine q k n m qn (at'+2) A B C p3 pm ta tb tc ra rb rc _ (((g13.trans G.same).trans g6).trans g7) ?_ ⟨g7 _ _ hm6,G7.tabs 0 A ta ra rfl rfl rfl,G7.tabs 1 B tb rb rfl rfl rfl,G7.tabs 2 C tc rc rfl rfl rfl⟩ hs ft ⟨(T.2 0 A rfl).tok hk (by decide) (by decide),(T.2 1 B rfl).tok hk (by decide) (by decide),(T.2 2 C rfl).tok hk (by decide) (by decide)⟩ ⟨T.2 0 A rfl,T.2 1 B rfl,T.2 2 C rfl,hk0⟩ m1 m2 q1 q2 (mob.imp (fun h=>⟨h.1,by have:=h.2;omega⟩) (fun h=>⟨h.1,by have:=h.2;omega⟩));rw[ze]
  rfl
def Yl:Sp:=fun vs H Q _=>∃(k:Int)(pc:Addr)(cs:List Int)(at' n:Nat)(aI:Int),vs=[.int k,.ref pc,.int aI,.int (n:Int)]/\aI =(at':Int)/\kab k/\H pc=some (.lst (cs.map V.int))/\cs≠[]/\n<=100 /\
 ∀ xs p H',Same H H'->NewR H H' xs p->xs.length=n->La.OkR k xs->(∀ x∈xs,whk k 2 x)->Q (.ref p) H'
theorem Qw (D:Df K mg "_law_standing" SK xc) (qt:Kn P w K mg base "_law_small" 44 SE Xi) (zi:mg "range" = none):Kn P w K mg base "_law_standing" 45 SK Yl:=by
 refine D.kn Yt (fun vs H Q E h=>?_) (fun f cdv A outer s H vs Q E hr h=>?_)
 ·obtain⟨k,pc,cs,at',n,aI,rfl,_⟩:=h;rfl
 obtain⟨k,pc,cs,at',n,aI,rfl,rfl,hk,hc,ne,n100,q⟩:=h;have szl:=SV
 refine⟨_,(zg (zo (xK ["_law_prime_here", "_law_cells", "_law_at_here"] [0,1,2] (zF rfl zi (za (pv 3) zb)) fun _ _ _ _ _ _=>⟨zI,(zu qt hr (za (pv 1) (za (pv 2) (za (zh ye (pv 3) (pv 0)) zb))))⟩))),?_⟩;refine⟨_,rfl,n,rfl,(by omega),(by omega),?_⟩;rw[wJ];refine zZ (lo:=0) (n:=n) (fun l ys' H9=>∃ xs,Same H H9/\Paired (RN H9) xs ys'/\xs.length=l/\La.OkR k xs/\∀ x∈xs,whk k 2 x) ⟨[],Same.refl _,.nil,rfl,fun x hx=>(nomatch hx),fun x hx=>(nomatch hx)⟩ ?_ ?_ ?_
 ·rintro l ys' H9 hl' ⟨xs,g9,pr9,lx,_⟩
  have:=zj pr9;omega
 ·rintro l ys' H9 hl' ⟨xs,g9,pr9,lx,ox,sx⟩
  first|refine gyes ?_|refine tyes ?_
  refine⟨_,rfl,_,rfl,_,rfl,_,rfl,_,_,rfl,rfl,k,pc,cs,at'+l,_,rfl,(by omega),hk,g9 _ _ hc,ne,fun x v' H10 g10 xr xo xs2=>?_⟩;refine nxt hl' ⟨xs++[x],g9.trans g10,yu (yz g10 pr9) xr,by rw[wu,lx];rfl,fun y hy=>?_,fun y hy=>?_⟩
  ·rcases wo.mp hy with h|h
   ·exact ox y h
   ·rw[wn.mp h];exact xo
  ·rcases wo.mp hy with h|h
   ·exact sx y h
   ·rw[wn.mp h];exact xs2
 ·rintro ys' H9 ⟨xs,g9,pr9,lx,ox,sx⟩ p hp
  have g:=zf hp (.lst ys');exact q xs p _ (g9.trans g) ⟨⟨ys',ze,yz g pr9⟩,g9.none hp⟩ lx ox sx
theorem zdb (D:Df K mg "_law_across" ["_law_table"] xP) (zi:mg "range" = none) (m_len:mg "len" = none):Kn P w K mg base "_law_across" 1 ["_law_table"] Zp:=by
 refine D.kn XB (fun vs H Q E h=>?_) (fun f cdv A outer s H vs Q E hr h=>?_)
 ·obtain⟨M,n,top,ras,rfl,_⟩:=h;rfl
 obtain⟨M,n,top,ras,rfl,hT,hM,hn,nz,mz,q⟩:=h;refine⟨_,(zg (zo (xK ["_law_table"] [0] (zF rfl zi (za (zy zJ rfl m_len ym (za (zD zw (pv 0) zd) zb)) zb)) fun _ _ _ _ _ _=>⟨zI,(xK ["_law_j"] [0] (zV (pv 1)) fun _ _ _ _ _ _=>⟨zI,(zD zw (pv 0) (pv 1))⟩)⟩))),?_⟩;obtain⟨M0,M',rfl⟩:=ut hM;have hras:=zj hT.2;obtain⟨r0,ras',e0⟩ : ∃ r0 ras',ras=r0::ras':=by
  cases ras with
  | nil=>simp at hras
  | cons a b=>exact⟨a,b,rfl⟩
 obtain⟨vs0,h0,p0,l0⟩:=(qv hT.2 (i:=0) rfl (by rw[e0];rfl)).len;have n0:=hn M0 wq;have szl:=SV
 refine⟨_,rfl,top,_,_,_,rfl,rfl,SqL.of hT.1,(by rw[e0];exact zG (j:=0) rfl),r0,_,rfl,.inl (SqL.of h0),_,rfl,(by omega),(by omega),?_⟩;have en:(vs0.length:Int).toNat=n:=by omega
 rw[en];refine zZ (lo:=0) (n:=n) (fun i ys H'=>∃ ras2,ys=ras2.map V.ref/\Grow H H' ((kag n (M0::M')).take i) ras2) ⟨[],rfl,Grow.nil H (Same.refl H)⟩ ?_ ?_ ?_
 ·rintro i ys H' hi ⟨ras2,rfl,G⟩
  have:=zj G.rows;rw[wj,zP]at this;rw[wc];omega
 ·rintro i ys H' hi ⟨ras2,rfl,G⟩
  first|refine gyes ?_|refine tyes ?_
  refine⟨_,rfl,top,rfl,⟨_,SqL.of (G.same _ _ hT.1)⟩,?_⟩;refine yt (xs:=ras.map V.ref) (fun j ys' H2=>H2=H'/\Paired (RN H') (((M0::M').map fun r=>r.getD i (.z 0)).take j) ys') ⟨rfl,.nil⟩ ?_ ?_ ?_
  ·rintro j ys' H2 hj ⟨rfl,pr⟩
   refine⟨SqL.of (G.same _ _ hT.1),?_⟩;have:=zj pr;rw[wj,wc]at this;omega
  ·rintro j v ys' H2 hv hj ⟨rfl,pr⟩
   obtain⟨xs,a,hx,ha,rfl,hrow⟩:=(hT.mono G.same).row hv;obtain⟨us,hu,pu,lu⟩:=hrow.len;have nx:=hn xs (wd hx);have hi':i<xs.length:=by omega
   obtain⟨u,eu,ru⟩:=yU pu (wa hi')
   first|refine gyes ?_|refine tyes ?_
   refine⟨_,rfl,_,rfl,a,_,_,_,rfl,rfl,SqL.of hu,(by rw[vt];exact zG eu),nxt hj ⟨rfl,?_⟩⟩;have e:((M0::M').map fun r=>r.getD i (.z 0))[j]?=some (xs.getD i (.z 0)):=by rw[wf,hx];rfl
   rw[zr e];refine yu pr ?_;rw[wb,wa hi'];exact ru
  ·rintro ys' H2 ⟨rfl,pr⟩ p hp
   rw[wg (by rw[wc,wc];omega)]at pr;refine nxt hi ⟨ras2++[p],by rw[wt];rfl,?_⟩;rw[zr (ZH hi)];exact G.snoc hp pr
 ·rintro ys H' ⟨ras2,rfl,G⟩ t ht
  rw[wg (by rw[zP];exact wl _)]at G;exact q t ras2 _ (G.same.trans (zf ht _)) (G.done ht)
def zbe:Sp:=fun vs H Q _=>∃ i:Int,vs=[.int i]/\Q (.bl true) H
theorem zez (D:Df K mg "_law_whole" ["_law_found"] jj) (zS:mg "isinstance" = none) (m_int:mg "int" = none) (zdr:mg "bool" = none):Kn P w K mg base "_law_whole" 1 ["_law_found"] zbe:=by
 refine D.kn JI (fun vs H Q E h=>?_) (fun f cdv A outer s H vs Q E hr h=>?_)
 ·obtain⟨i,rfl,_⟩:=h;rfl
 obtain⟨i,rfl,q⟩:=h;refine⟨_,(zg (zo (QJ (zy (qg (K:=K) rfl) rfl zS xf (za (pv 0) (za (zcj rfl m_int zah) zb))) (XQ (zg8 (zy (qg (K:=K) rfl) rfl zS xf (za (pv 0) (za (zcj rfl zdr zf8) zb)))))))),?_⟩;refine⟨_,rfl,_,_,_,_,rfl,TyOf.int i,zg0 K,_,rfl,iteT ?_⟩;exact⟨_,rfl,_,_,_,_,rfl,TyOf.int i,zgM K,_,rfl,q⟩
theorem zg7:bootBuiltins "all" = some (.builtin "all"):=by decide +kernel
def zaf:Sp:=fun vs H Q _=>∃(k:Int)(x:Nb)(v:V),vs=[.int k,v]/\kab k/\x.ok k/\RN H x v/\Q (.bl true) H
theorem zdw (D:Df K mg "_law_is_number" SL yQ) (qu:Kn P w K mg base "_law_whole" 1 ["_law_found"] zbe) (jx:Kn P w K mg base "_law_divisor" 1 Sn zbP) (zS:mg "isinstance" = none) (ZF:mg "tuple" = none) (m_len:mg "len" = none):Kn P w K mg base "_law_is_number" 2 SL zaf:=by
 refine D.kn ZK (fun vs H Q E h=>?_) (fun f cdv A outer s H vs Q E hr h=>?_)
 ·obtain⟨k,x,v,rfl,_⟩:=h;rfl
 obtain⟨k,x,v,rfl,hk,ox,rx,q⟩:=h;have kl:=hk.lt;refine⟨_,(zc (yD (zQ Xx (pv 0) zd (kae _)) (zg (zo (QJ (zu qu hr (za (pv 1) zb)) (XQ (ze4 zh2 zcf zd (pv 1) (pv 0)))))) zO) (zc (yD (PW.pt (pw_or (Yn (Za (zy (qg (K:=K) rfl) rfl zS xf (za (pv 1) (za (zcj rfl ZF zbw) zb))))) (pw_or (zQ zbW (zy zJ rfl m_len ym (za (pv 1) zb)) zd (kae _)) (pw_or (Yn (Za (zu qu hr (za (zD zE (pv 1) zd) zb)))) (pw_or1 (Yn (Za (zu qu hr (za (zD zE (pv 1) zd) zb))))))))) (zg (zo zb6)) zO) (zg (zo (QJ (xb Xx (zD zE (pv 1) zd) zd (kae _)) (XQ (xb xX (zu jx hr (za (zD zE (pv 1) zd) (za (zD zE (pv 1) zd) zb))) zd (kae _)))))))),?_⟩;cases x with
 | z i =>
  rw[rx.z];have k0:k≠0:=ox.1;refine⟨_,rfl,_,_,rfl,rfl,_,rfl,?_⟩;rw[decide_eq_true (show(0:Int)<k by omega)];refine iteT ?_;refine⟨_,rfl,i,rfl,_,rfl,iteT ?_⟩;refine⟨_,rfl,_,_,rfl,rfl,_,rfl,?_⟩;rw[decide_eq_true (show(0:Int)<=i from ox.2.1),if_pos rfl];refine⟨_,rfl,_,_,rfl,rfl,?_⟩;show Q (.bl (decide (i<k))) H;rw[decide_eq_true (show i<k from ox.2.2)];exact q
 | q r =>
  obtain⟨p,rfl,hp⟩:=rx.q;have k0:k=0:=ox;subst k0;refine⟨_,rfl,_,_,rfl,rfl,_,rfl,iteF ?_⟩;refine⟨_,rfl,_,_,_,_,rfl,TyOf.tup hp,zgL K,_,rfl,iteF ?_⟩;refine⟨_,rfl,p,_,rfl,.inr (SqT.of hp),rfl,_,rfl,iteF ?_⟩;refine⟨_,rfl,p,_,_,_,rfl,rfl,SqT.of hp,rfl,r.num,rfl,_,rfl,iteF ?_⟩;refine⟨_,rfl,p,_,_,_,rfl,rfl,SqT.of hp,rfl,(r.den:Int),rfl,_,rfl,iteF ?_⟩;refine⟨_,rfl,p,_,_,_,rfl,rfl,SqT.of hp,rfl,_,_,rfl,rfl,_,rfl,?_⟩;rw[decide_eq_true (show(0:Int) <(r.den:Int)from by have:=r.den_pos;omega)];refine iteT ?_;refine⟨_,rfl,p,_,_,_,rfl,rfl,SqT.of hp,rfl,_,rfl,p,_,_,_,rfl,rfl,SqT.of hp,rfl,r.num,(r.den:Int),rfl,rfl,?_⟩;have e:((vd r.num (r.den:Int):Nat):Int)=1:=by
   have:vd r.num (r.den:Int)=GU r.num.natAbs r.den:=rfl;rw[this,r.reduced];rfl
  show Q (.bl (decide (V.int ((vd r.num (r.den:Int):Nat):Int)=V.int 1))) H;rw[e];exact q
def QT:Sp:=fun vs H Q _=>∃(k:Int)(xs:List Nb)(a:Addr)(m:Int),vs=[.int k,.ref a,.int m]/\kab k/\kai H xs a/\La.OkR k xs/\m =(xs.length:Int)/\Q (.bl true) H
theorem zd6 (D:Df K mg "_law_is_row" SM xQ) (Yr:Kn P w K mg base "_law_is_number" 2 SL zaf) (zS:mg "isinstance" = none) (yL:mg "list" = none) (m_len:mg "len" = none):Kn P w K mg base "_law_is_row" 3 SM QT:=by
 refine D.kn sO (fun vs H Q E h=>?_) (fun f cdv A outer s H vs Q E hr h=>?_)
 ·obtain⟨k,xs,a,m,rfl,_⟩:=h;rfl
 obtain⟨k,xs,a,m,rfl,hk,hR,ox,em,q⟩:=h;obtain⟨us,hu,pu,lu⟩:=hR.len;refine⟨_,(zc (yD (PW.pt (pw_or (Yn (Za (zy (qg (K:=K) rfl) rfl zS xf (za (pv 1) (za (zcj rfl yL qN) zb))))) (pw_or1 (zQ zbW (zy zJ rfl m_len ym (za (pv 1) zb)) (pv 2) (kae _))))) (zg (zo zb6)) zO) (zc (yw PassesOwn.never rfl (zV (pv 1)) (zt (i:=3) sO.nd rfl (.inl rfl)) (zg (yD (Yn (Za (zu Yr hr (za (pv 0) (za (pv 3) zb))))) (zg (zo zb6)) zO))) (zg (zo zb6)))),?_⟩;refine⟨_,rfl,_,_,_,_,rfl,TyOf.lst hu,zfD K,_,rfl,iteF ?_⟩;refine⟨_,rfl,a,_,rfl,.inl (SqL.of hu),_,rfl,rfl,_,rfl,?_⟩;rw[lu,em,decide_eq_true rfl];refine iteF ?_;refine⟨_,rfl,a,rfl,⟨_,SqL.of hu⟩,?_⟩;refine xw (xs:=us) (fun j σ H2=>∃ o3,σ=[some (.int k),some (.ref a),some (.int (xs.length:Int)),o3]/\H2=H) ⟨_,rfl,rfl⟩ ?_ ?_ ?_
 ·rintro j σ H2 _ ⟨o3,rfl,rfl⟩
  exact SqL.of hu
 ·rintro j x σ H2 hx ⟨o3,rfl,rfl⟩
  obtain⟨n1,e1,r1⟩:=zU pu hx;exact⟨_,rfl,_,rfl,k,n1,x,rfl,hk,ox n1 (wd e1),r1,_,rfl,iteF ⟨_,rfl,rfl⟩⟩
 ·rintro σ H2 ⟨o3,rfl,rfl⟩
  exact q
def XW:Sp:=fun vs H Q _=>∃(k:Int)(M:TB)(t:Addr)(ras:List Addr)(m c:Int),vs=[.int k,.ref t,.int m,.int c]/\kab k/\kah H M t ras/\m =(M.length:Int)/\(∀ r∈M,(r.length:Int)=c/\La.OkR k r)/\M.length<sizeLine/\∀ H',Same H H'->Q (.bl true) H'
theorem za6:∀ n,(ww n true).all id=true
 | 0=>rfl
 | n+1=>by rw[vP,List.all_cons,za6 n];rfl
theorem zb8 (D:Df K mg "_law_is_rows" SN xB) (JZ:Kn P w K mg base "_law_is_row" 3 SM QT) (zS:mg "isinstance" = none) (yL:mg "list" = none) (m_len:mg "len" = none) (m_all:mg "all" = none):Kn P w K mg base "_law_is_rows" 4 SN XW:=by
 refine D.kn YV (fun vs H Q E h=>?_) (fun f cdv A outer s H vs Q E hr h=>?_)
 ·obtain⟨k,M,t,ras,m,c,rfl,_⟩:=h;rfl
 obtain⟨k,M,t,ras,m,c,rfl,hk,hT,em,oM,hz,q⟩:=h;have lt:=zj hT.2;refine⟨_,(zg (zo (QJ (zy (qg (K:=K) rfl) rfl zS xf (za (pv 1) (za (zcj rfl yL qN) zb))) (QJ (xb xX (zy zJ rfl m_len ym (za (pv 1) zb)) (pv 2) (kae _)) (XQ (zy (zdi rfl) rfl m_all zg7 (za (xK ["_law_prime_here", "_law_columns"] [0,3] (zV (pv 1)) fun _ _ _ _ _ _=>⟨zI,(zu JZ hr (za (pv 1) (za (pv 0) (za (pv 2) zb))))⟩) zb))))))),?_⟩;refine⟨_,rfl,_,_,_,_,rfl,TyOf.lst hT.1,zfD K,_,rfl,iteT ?_⟩;refine⟨_,rfl,t,_,rfl,.inl (SqL.of hT.1),_,rfl,rfl,_,rfl,?_⟩;rw[wc,← lt,em,decide_eq_true rfl];refine iteT ?_;refine⟨_,rfl,t,rfl,⟨_,SqL.of hT.1⟩,?_⟩;refine yt (xs:=ras.map V.ref) (fun i ys H'=>Same H H'/\ys =(ww i true).map V.bl) ⟨Same.refl H,rfl⟩ ?_ ?_ ?_
 ·rintro i ys H' hi ⟨g,rfl⟩
  refine⟨SqL.of (g _ _ hT.1),?_⟩;rw[wc]at hi;rw[wc,vh];omega
 ·rintro i v ys H' hv hi ⟨g,rfl⟩
  obtain⟨row,a,hrow,ha,rfl,hR⟩:=(hT.mono g).row hv;have o:=oM row (wd hrow)
  first|refine gyes ?_|refine tyes ?_
  refine⟨_,rfl,_,rfl,_,rfl,k,row,a,c,rfl,hk,hR,o.2,o.1.symm,nxt hi ⟨g,?_⟩⟩;rw[ux,wt];rfl
 ·rintro ys H' ⟨g,rfl⟩ p hp
  refine⟨p,ww (ras.map V.ref).length true,rfl,ze,?_⟩;rw[za6];exact q _ (g.trans (zf hp _))
theorem zeb{H1:Hp}{xs:List Nb}{us:List V}{x:Nb}{v:V}{pt:Addr}(hp:H1 pt=some (.lst us))(pu:Paired (RN H1) xs us)(rx:RN H1 x v):Paired (RN (upd H1 pt (.lst (us++[v])))) (xs++[x]) (us++[v]) :=
 yu (yZ (fun _ _ r=>r.upd hp) pu) (rx.upd hp)
theorem zcQ{k:Int}{a b:Nat}(hk:kab k)(l:List (Nb×Nb))(h:∀ p∈l,p.1.ok k/\p.2.ok k/\szk k a p.1/\szk k b p.2):∀ i,i<=l.length->szk k (i *(a+b+1)+1) (La.ndotF k (l.take i)):=by
 intro i
 induction i with
 | zero =>
  intro _ k0;subst k0;exact⟨(xh _),sm_one.mono (by omega)⟩
 | succ i ih =>
  intro hi;have hg:l[i]?=some l[i]:=wa hi;have hp:=h l[i] (we hi);have hl:∀ q∈l.take i,_:=fun q hq=>h q (wE hq)
  rw[zr hg,La.ZO];have o1:=La.YR hk (l.take i) fun q hq=>⟨(hl q hq).1,(hl q hq).2.1⟩
  refine(YM o1 (La.xm hk hp.1 hp.2.1) (ih (by omega)) (JJ hp.1 hp.2.1 hp.2.2.1 hp.2.2.2)).mono ?_;rw[gJ];omega
def Zl:Sp:=fun vs H Q _=>∃(k:Int)(A:TB)(x:List Nb)(n a0 b:Nat)(ta ax:Addr)(ra:List Addr),vs=[.int k,.ref ta,.ref ax]/\kab k/\kah H A ta ra/\kai H x ax/\La.OkM k n A/\x.length=n/\La.OkR k x/\(∀ r∈A,∀ y∈r,szk k a0 y)/\(∀ y∈x,szk k b y)/\a0+b<=5000000/\n<=10/\A.length<=10 /\
 ∀ p H',Same H H'->NewR H H' (imgM k A x) p->(∀ y∈imgM k A x,szk k (n *(a0+b+1)+1) y)->Q (.ref p) H'
theorem zdx (D:Df K mg "_law_image" SO jn) (zM:Kn P w K mg base "_law_make" 1 Sy xE) (yh:Kn P w K mg base "_law_plus" 42 Sz (jo nadd)) (yx:Kn P w K mg base "_law_times" 42 Sz (jo nmul)) (zi:mg "range" = none) (m_len:mg "len" = none):Kn P w K mg base "_law_image" 43 SO Zl:=by
 refine D.kn sQ (fun vs H Q E h=>?_) (fun f cdv A' outer s H vs Q E hr h=>?_)
 ·obtain⟨k,A,x,n,a0,b,ta,ax,ra,rfl,_⟩:=h;rfl
 obtain⟨k,A,x,n,a0,b,ta,ax,ra,rfl,hk,hT,hX,oA,lx,ox,sA,sx,hb,n10,a10,q⟩:=h;have szl:=SV
 have la:=zj hT.2;have szf:∀ r∈A,∀ i,szk k (n *(a0+b+1)+1) (La.ndotF k ((r.zip x).take i)):=fun r hr i=>by
  have lz:(r.zip x).length=n:=by rw[uu,(oA r hr).1,lx,Nat.min_self]
  have hz:∀ p∈r.zip x,p.1.ok k/\p.2.ok k/\szk k a0 p.1/\szk k b p.2:=fun p hp=>⟨(oA r hr).2 _ (vn hp).1,ox _ (vn hp).2,sA r hr _ (vn hp).1,sx _ (vn hp).2⟩
  have up:∀ i,i<=n->i *(a0+b+1)+1<=n *(a0+b+1)+1:=fun i hi=>by
   have:=wH (a0+b+1) hi;omega
  rcases gA i n with h|h
  ·exact(zcQ hk _ hz i (by omega)).mono (up i h)
  ·have:=zcQ hk _ hz n (by omega);rw[wg (by omega)]at this ⊢;exact this.mono (up n (wl _))
 have big:n *(a0+b+1)+1<=60000000:=by
  have:n *(a0+b+1)<=10 *(a0+b+1):=wH _ n10;omega
 refine⟨_,(zc (zk (i:=3) sQ.nd rfl (.inl rfl) (yn zb)) (zc (yw PassesOwn.never rfl (zV (pv 1)) (zt (i:=4) sQ.nd rfl (.inl rfl)) (zc (zk (i:=5) sQ.nd rfl (.inl rfl) (zu zM hr (za (pv 0) (za zd zb)))) (zc (yw PassesOwn.never rfl (zF rfl zi (za (zy zJ rfl m_len ym (za (pv 2) zb)) zb)) (zt (i:=6) sQ.nd rfl (.inl rfl)) (zg (zk (i:=5) sQ.nd rfl (.inl rfl) (zu yh hr (za (pv 0) (za (pv 5) (za (zu yx hr (za (pv 0) (za (zD zw (pv 4) (pv 6)) (za (zD zw (pv 2) (pv 6)) zb)))) zb))))))) (zg (xI (bm0 (fun _ h=>Xu PySem.F.plainAttrs_list PySem.F.slot_list_append PySem.F.type_list_append yN h (za (pv 5) zb)) (pv 3))))))) (zg (zo (pv 3))))),?_⟩;refine⟨(by show 0<=sizeLine;decide),fun pt hpt=>?_⟩;have g0:=zf hpt (.lst []);have h0:upd H pt (.lst []) pt=some (.lst []):=ze;replace hT:=hT;refine⟨_,rfl,ta,rfl,⟨_,SqL.of (g0 _ _ hT.1)⟩,?_⟩;refine xw (xs:=ra.map V.ref) (fun i σ H'=>∃ us o4 o5 o6,σ=[some (.int k),some (.ref ta),some (.ref ax),some (.ref pt),o4,o5,o6]/\Same H H'/\H' pt=some (.lst us)/\Paired (RN H') ((imgM k A x).take i) us) ⟨[],none,none,none,rfl,g0,h0,.nil⟩ ?_ ?_ ?_
 ·rintro i σ H' _ ⟨us,o4,o5,o6,rfl,g,_⟩
  exact SqL.of (g _ _ hT.1)
 ·rintro i v σ H' hv ⟨us,o4,o5,o6,rfl,g,hp,pu⟩
  obtain⟨row,a,hrow,ha,rfl,hR⟩:=(hT.mono g).row hv;obtain⟨rs,hrs,prs,lrs⟩:=hR.len;obtain⟨xs,hxs,pxs,lxs⟩:=(hX.mono g).len;have hr':=wd hrow;have orow:=oA row hr';refine⟨_,rfl,k,0,rfl,hk,fun v0 H1 g1 r1=>?_⟩;refine⟨_,rfl,ax,_,rfl,.inl (SqL.of (g1 _ _ hxs)),_,rfl,(by omega),(by omega),?_⟩;have en:((xs.length:Int)).toNat=n:=by omega
  rw[en];refine yv (lo:=0) (n:=n) (fun j σ H2=>∃ w o6,σ=[some (.int k),some (.ref ta),some (.ref ax),some (.ref pt),some (.ref a),some w,o6]/\Same H' H2/\RN H2 (La.ndotF k ((row.zip x).take j)) w) ⟨v0,_,rfl,g1,r1⟩ ?_ ?_
  ·rintro j σ H2 hj ⟨w,o6,rfl,g2,rw2⟩
   have hj1:j<row.length:=by rw[orow.1];exact hj
   have hj2:j<x.length:=by omega
   obtain⟨u1,e1,ru1⟩:=yU prs (wa hj1);obtain⟨u2,e2,ru2⟩:=yU pxs (wa hj2);have m1:=we hj1;have m2:=we hj2;have oo1:=orow.2 _ m1;have oo2:=ox _ m2;have on:=La.YR hk ((row.zip x).take j) fun p hp=>by
    have hz:=wE hp;exact⟨orow.2 _ (vn hz).1,ox _ (vn hz).2⟩
   refine⟨_,rfl,_,rfl,_,rfl,_,rfl,_,rfl,a,_,_,_,rfl,rfl,SqL.of (g2 _ _ hrs),(by rw[vt];exact zG e1),_,rfl,_,rfl,ax,_,_,_,rfl,rfl,SqL.of (g2 _ _ hxs),(by rw[vt];exact zG e2),k,row[j],x[j],u1,u2,rfl,⟨hk,oo1,oo2,(sA row hr' _ m1).nsm hk oo1 (by omega) (by decide),(sx _ m2).nsm hk oo2 (by omega) (by decide),ru1.mono g2,ru2.mono g2⟩,fun v1 H3 g3 r3=>?_⟩;refine⟨k,_,_,w,v1,rfl,⟨hk,on,La.xm hk oo1 oo2,(szf row hr' j).nsm hk on (by omega) (by decide),(JJ oo1 oo2 (sA row hr' _ m1) (sx _ m2)).nsm hk (La.xm hk oo1 oo2) (by omega) (by decide),rw2.mono g3,r3⟩,fun v2 H4 g4 r4=>?_⟩;refine⟨v2,_,rfl,(g2.trans g3).trans g4,?_⟩;have ez:(row.zip x)[j]?=some (row[j],x[j]):=by rw[gM];exact⟨wa hj1,wa hj2⟩
   rw[zr ez,La.ZO];exact r4
  ·rintro σ H2 ⟨w,o6,rfl,g2,rw2⟩
   have el:(row.zip x).take n=row.zip x:=wg (by rw[uu,orow.1,lx];omega);rw[el]at rw2;have hp2:=g2 _ _ hp;have lus:=zj pu;rw[wj]at lus;have lim:(imgM k A x).length=A.length:=by unfold imgM;exact wc _
   refine⟨_,rfl,.inl ⟨rfl,_,SqL.of hp2⟩,_,rfl,pt,us,w,rfl,rfl,hp2,by omega,?_⟩;have ei:(imgM k A x)[i]?=some (La.ndot k row x):=by unfold imgM;rw[wf,hrow];rfl
   refine⟨us++[w],_,_,_,rfl,xl (g.trans g2) hpt,ze,?_⟩;rw[zr ei];exact zeb hp2 (yz g2 pu) rw2
 ·rintro σ H' ⟨us,o4,o5,o6,rfl,g,hp,pu⟩
  rw[wc,← la,wg (by unfold imgM;rw[wc];exact wl _)]at pu;refine⟨_,rfl,q pt H' g ⟨⟨us,hp,pu⟩,hpt⟩ fun y hy=>?_⟩;unfold imgM at hy;obtain⟨r,hr,rfl⟩:=wk.mp hy;have:=szf r hr n;rw[wg (by rw[uu,(oA r hr).1,lx];omega)]at this;exact this
theorem zeR{K:PySem.W.Frag}{g:TG}{tt:TT}{te:TE}{R:List V->Hp->Prop}{H:Hp}{σb:L2.St}{a:Addr}{xs:List V}(J:Nat->List V->Hp->Prop)(h0:J 0 [] H)(hl:∀(i:Nat)(ys:List V)(H':Hp),i<=xs.length->J i ys H'->SqT K H' a xs/\ys.length<sizeLine)
  (hs:∀(i:Nat)(x:V)(ys:List V)(H':Hp),xs[i]?=some x->i<xs.length->J i ys H'->g x σb H' fun σ2 H2=>tt σ2 H2 fun b H3=>if b=true then te σ2 H3 fun y H4=>Nxt xs.length i (J (i+1) (ys++[y]) H4)else Nxt xs.length i (J (i+1) ys H3))
  (hd:∀(ys:List V)(H':Hp),J xs.length ys H'->R ys H') :
  ∃ W:Nat->Nat->List V->Hp->Prop,(∃ m,W 0 m [] H)/\∀ i m ys H,W i m ys H ->
   ((Itt K a).stop i H/\ys.length<=sizeLine/\R ys H) \/
   ((Itt K a).go i H/\ys.length<sizeLine/\∀ x H',(Itt K a).yld i H x H'->g x σb H' fun σ2 H2=>tt σ2 H2 fun b H3=>if b=true then te σ2 H3 fun y H4=>∃ m',m'<m/\W (i+1) m' (ys++[y]) H4 else ∃ m',m'<m/\W (i+1) m' ys H3):=by
 refine⟨fun i m ys H=>m=xs.length - i/\i<=xs.length/\J i ys H,⟨xs.length,by simp,vN _,h0⟩,?_⟩
 rintro i m ys H1 ⟨rfl,hi,j⟩
 obtain⟨q,hz⟩:=hl i ys H1 hi j
 by_cases hlt:i<xs.length
 ·refine .inr ⟨⟨xs,xs[i],q,by simp[hlt]⟩,hz,fun x H' y=>?_⟩;obtain⟨e,y⟩:=y;subst e;exact hs i x ys _ (y xs q) hlt j
 ·have e:i=xs.length:=by omega
  subst e;exact .inl ⟨⟨xs,q,wl _⟩,ud hz,hd ys H1 j⟩
def za5:Sp:=fun vs H Q _=>∃(A B C:TB)(pm ta tb tc:Addr)(ra rb rc:List Addr),vs=[.ref pm]/\MachAt H A B C pm ta tb tc ra rb rc/\A.length<sizeLine/\B.length<sizeLine/\C.length<sizeLine /\
 ∀ pm' ta' tb' tc' ra' rb' rc' H',Same H H'->MachAt H' A B C pm' ta' tb' tc' ra' rb' rc'->Q (.ref pm') H'
theorem zeT (D:Df K mg "_law_copy" SQ jL) (ZF:mg "tuple" = none) (yL:mg "list" = none):Kn P w K mg base "_law_copy" 1 SQ za5:=by
 refine D.kn QQ (fun vs H Q E h=>?_) (fun f cdv A' outer s H vs Q E hr h=>?_)
 ·obtain⟨A,B,C,pm,ta,tb,tc,ra,rb,rc,rfl,_⟩:=h;rfl
 obtain⟨A,B,C,pm,ta,tb,tc,ra,rb,rc,rfl,hM,zA,zB,zC,q⟩:=h;refine⟨_,(zg (zo (xa zaI rfl ZF zbw (za (xK [] [] (zf0 (pv 0)) fun _ _ _ _ _ _=>⟨zI,(xK [] [] (zV (pv 0)) fun _ _ _ _ _ _=>⟨zI,(xa XJ rfl yL qN (za (pv 0) zb))⟩)⟩) zb)))),?_⟩;refine⟨_,rfl,pm,rfl,⟨_,SqT.of hM.tup⟩,?_⟩;refine zeR (xs:=[.ref ta,.ref tb,.ref tc]) (fun i ys H'=>∃ ts rs,ys=ts.map V.ref/\kaf H H' ([A,B,C].take i) ts rs) ⟨[],[],rfl,kaf.nil (Same.refl H)⟩ ?_ ?_ ?_
 ·rintro i ys H' hi ⟨ts,rs,rfl,G⟩
  refine⟨SqT.of (G.same _ _ hM.tup),?_⟩;have:=G.lt;rw[wj]at this;rw[wc,this];exact gf (Nat.min_le_right _ _) (by show 3<sizeLine;decide)
 ·rintro i v ys H' hv hi ⟨ts,rs,rfl,G⟩
  obtain⟨M,t,ras,eM,rfl,hT,hz⟩ : ∃ M t ras,[A,B,C][i]?=some M/\v=.ref t/\kah H' M t ras/\M.length<sizeLine:=by
   match i,hv with
   | 0,hv=>cases hv;exact⟨A,ta,ra,rfl,rfl,hM.a.mono G.same,zA⟩
   | 1,hv=>cases hv;exact⟨B,tb,rb,rfl,rfl,hM.b.mono G.same,zB⟩
   | 2,hv=>cases hv;exact⟨C,tc,rc,rfl,rfl,hM.c.mono G.same,zC⟩
  first|refine gyes ?_|refine tyes ?_
  refine⟨_,rfl,t,rfl,⟨_,SqL.of hT.1⟩,?_⟩;refine Xj hT hz (fun a us H2 Q2 ha hq=>⟨_,rfl,a,us,rfl,.inl (SqL.of ha),hq⟩) ?_;intro ras2 H2 G2 p hp;have N:=G2.done hp;refine nxt hi ⟨ts++[p],rs++[ras2],by rw[wt];rfl,?_⟩;rw[zr eM];exact G.push (G2.same.trans (zf hp _)) N
 ·rintro ys H' ⟨ts,rs,rfl,G⟩ p hp
  have G':kaf H H' [A,B,C] ts rs:=G;obtain⟨t1,t2,t3,rfl⟩ : ∃ t1 t2 t3,ts=[t1,t2,t3]:=by
   match ts,G'.lt with
   | [a,b,c],_=>exact⟨a,b,c,rfl⟩
  obtain⟨r1,r2,r3,rfl⟩ : ∃ r1 r2 r3,rs=[r1,r2,r3]:=by
   match rs,G'.lr with
   | [a,b,c],_=>exact⟨a,b,c,rfl⟩
  refine⟨p,_,rfl,.inl ⟨SqL.of ze,fun l hl=>?_⟩⟩;have g1:=zf hp (.lst ([t1,t2,t3].map V.ref));have g2:=zf hl (.tup ([t1,t2,t3].map V.ref));exact q l t1 t2 t3 r1 r2 r3 _ ((G'.same.trans g1).trans g2) ⟨ze,((G'.tabs 0 _ _ _ rfl rfl rfl).mono g1).mono g2,((G'.tabs 1 _ _ _ rfl rfl rfl).mono g1).mono g2,((G'.tabs 2 _ _ _ rfl rfl rfl).mono g1).mono g2⟩
theorem zcE{K:PySem.W.Frag}{te:TE}{σb:L2.St}{t:Addr}{ras:List Addr}{M:TB}{H:Hp}{R:List V->Hp->Prop}(f:List Nb->List Nb)(hT:kah H M t ras)(hz:M.length<sizeLine)
  (hte:∀(r:List Nb)(a:Addr)(H':Hp)(Q:VK),r∈M->Same H H'->kai H' r a->(∀(p:Addr)(H2:Hp),Same H' H2->NewR H' H2 (f r) p->Q (.ref p) H2)->te (σb.set 0 (some (.ref a))) H' Q)
  (hd:∀(ras2:List Addr)(H':Hp),Grow H H' (M.map f) ras2->R (ras2.map V.ref) H') :
  ∃ W:Nat->Nat->List V->Hp->Prop,(∃ m,W 0 m [] H)/\∀ i m ys H,W i m ys H ->
   ((Itl K t).stop i H/\ys.length<=sizeLine/\R ys H) \/
   ((Itl K t).go i H/\ys.length<sizeLine/\∀ x H',(Itl K t).yld i H x H'->gName 0 x σb H' fun σ2 H2=>tTrue σ2 H2 fun b H3=>if b=true then te σ2 H3 fun y H4=>∃ m',m'<m/\W (i+1) m' (ys++[y]) H4 else ∃ m',m'<m/\W (i+1) m' ys H3):=by
 have hl:=zj hT.2;refine yt (xs:=ras.map V.ref) (fun i ys H'=>∃ ras2,ys=ras2.map V.ref/\Grow H H' ((M.map f).take i) ras2) ⟨[],rfl,Grow.nil H (Same.refl H)⟩ ?_ ?_ ?_
 ·rintro i ys H' hi ⟨ras2,rfl,G⟩
  refine⟨SqL.of (G.same _ _ hT.1),?_⟩;have:=zj G.rows;rw[wj,wc]at this;rw[wc];omega
 ·rintro i v ys H' hv hi ⟨ras2,rfl,G⟩
  obtain⟨row,a,hrow,ha,rfl,hR⟩:=(hT.mono G.same).row hv;refine gyes (hte row a H' _ (wd hrow) G.same hR fun p H2 g2 nr=>?_);refine nxt hi ⟨ras2++[p],by rw[wt];rfl,?_⟩;have e:(M.map f)[i]?=some (f row):=by rw[wf,hrow];rfl
  rw[zr e];exact G.snocR g2 nr.row nr.fa
 ·rintro ys H' ⟨ras2,rfl,G⟩
  rw[wc,← hl,wg (by rw[wc];exact wl _)]at G;exact hd ras2 H' G
theorem zhb{k:Int}{c:Nat}{M N:TB}:kag M.length ((kag c N).map (imgM k M))=kad k c M N:=by
 refine gV (by rw[zP];unfold kad;rw[wc]) fun j h1 h2=>?_
 rw[zP]at h1;have e1:=ZH (M:=(kag c N).map (imgM k M)) h1;have e2:(kad k c M N)[j]?=some ((kag c N).map fun col=>La.ndot k M[j] col):=by unfold kad;rw[wf,wa h1];rfl
 rw[wa (by rw[zP];exact h1)]at e1;rw[wa h2]at e2;rw[Option.some.inj e1,Option.some.inj e2,vq];refine wW fun col _=>?_
 show(imgM k M col).getD j (.z 0)=_;rw[wb];unfold imgM;rw[wf,wa h1];rfl
def YZ:Sp:=fun vs H Q _=>∃(k:Int)(M N:TB)(b c a0 b0:Nat)(tM tN:Addr)(rM rN:List Addr),vs=[.int k,.ref tM,.ref tN]/\kab k/\kah H M tM rM/\kah H N tN rN/\La.OkM k b M/\La.OkM k c N/\N.length=b/\(∀ r∈M,∀ y∈r,szk k a0 y)/\(∀ r∈N,∀ y∈r,szk k b0 y)/\a0+b0<=5000000/\1<=b/\b<=10/\1<=c/\c<=10/\M.length<=10 /\
 ∀ t rs H',Same H H'->NewT H H' (kad k c M N) t rs->Q (.ref t) H'
theorem zaE (D:Df K mg "_law_product" Sz xx) (qY:Kn P w K mg base "_law_across" 1 ["_law_table"] Zp) (yc:Kn P w K mg base "_law_image" 43 SO Zl):Kn P w K mg base "_law_product" 44 Sz YZ:=by
 refine D.kn Xn (fun vs H Q E h=>?_) (fun f cdv A' outer s H vs Q E hr h=>?_)
 ·obtain⟨k,M,N,b,c,a0,b0,tM,tN,rM,rN,rfl,_⟩:=h;rfl
 obtain⟨k,M,N,b,c,a0,b0,tM,tN,rM,rN,rfl,hk,hM,hN,oM,oN,lN,sM,sN,ab,b1,b10,c1,c10,r10,q⟩:=h;have szl:=SV
 refine⟨_,(zg (zo (zu qY hr (za (xK ["_law_prime_here", "_law_one"] [0,1] (zV (zu qY hr (za (pv 2) zb))) fun _ _ _ _ _ _=>⟨zI,(zu yc hr (za (pv 1) (za (pv 2) (za (pv 0) zb))))⟩) zb)))),?_⟩;have nN:N≠[]:=fun e=>by rw[e]at lN;simp at lN;omega
 refine⟨_,rfl,N,c,tN,rN,rfl,hN,nN,(fun r hr=>(oN r hr).1),by omega,by omega,fun t1 r1 H1 g1 n1=>?_⟩;have oT:=qo oN;have sT:∀ r∈kag c N,∀ y∈r,szk k b0 y:=fun r hr y hy=>by
  unfold kag at hr;obtain⟨j,hj,rfl⟩:=wk.mp hr;obtain⟨x,hx,rfl⟩:=wk.mp hy;have hl:=(oN x hx).1;rw[vI]at hj;rw[wb,wa (by omega)];exact sN x hx _ (we _)
 refine⟨t1,rfl,⟨_,SqL.of n1.tab.1⟩,?_⟩;refine zcE (imgM k M) n1.tab (by rw[zP];omega) ?_ ?_
 ·intro r a H4 Q4 hr4 g4 hR4 hq4;have orr:=oT r hr4;exact⟨_,rfl,_,rfl,_,rfl,k,M,r,b,a0,b0,tM,a,rM,rfl,hk,(hM.mono g1).mono g4,hR4,oM,orr.1.trans lN,orr.2,sM,sT r hr4,vp ab (by decide),b10,r10,fun p H5 g5 nr _=>hq4 p H5 g5 nr⟩
 intro rt2 H4 G4 p4 hp4;have N4:=G4.done hp4;have g4:=G4.same.trans (zf hp4 (.lst (rt2.map V.ref)));generalize upd H4 p4 (.lst (rt2.map V.ref))=H5 at *;have len:∀ r∈(kag c N).map (imgM k M),r.length=M.length:=fun r hr=>by
  obtain⟨x,_,rfl⟩:=wk.mp hr;unfold imgM;exact wc _
 refine⟨(kag c N).map (imgM k M),M.length,p4,rt2,rfl,N4.tab,(fun e=>by have:=congrArg vG e;rw[wc,zP]at this;simp at this;omega),len,by omega,by rw[wc,zP];omega,fun t rs H6 g6 n6=>?_⟩;rw[zhb]at n6;have g:=g1.trans g4;exact q t rs H6 (g.trans g6) ⟨n6.tab,g.none n6.ft,fun r hr=>g.none (n6.fr r hr),n6.nd,n6.nt⟩
def ppL(k:Int)(p q:List Nb):List Nb:=(wZ (max p.length q.length)).map fun j=>if j<q.length then nadd k (p.getD j (nnum k 0)) (q.getD j (nnum k 0))else p.getD j (nnum k 0)
theorem jX{k:Int}(hk:kab k){p:List Nb}(h:La.OkR k p)(j:Nat):(p.getD j (nnum k 0)).ok k:=by
 rw[wb];cases e:p[j]? with
 | none=>exact La.zR hk 0
 | some x=>exact h x (wd e)
theorem JV{k:Int}(hk:kab k){p:List Nb}{m:Nat}(m7:61<=m)(h:∀ x∈p,szk k m x)(j:Nat):szk k m (p.getD j (nnum k 0)):=by
 rw[wb];cases e:p[j]? with
 | none=>exact fun _=>yM hk (xh m) m7
 | some x=>exact h x (wd e)
theorem zaG{k:Int}{p q:List Nb}:(ppL k p q).length=max p.length q.length:=by unfold ppL;simp
theorem zdq{k:Int}{p q:List Nb}{j:Nat}(h:j<max p.length q.length):(ppL k p q)[j]?=some (if j<q.length then nadd k (p.getD j (nnum k 0)) (q.getD j (nnum k 0))else p.getD j (nnum k 0)):=by
 unfold ppL;rw[wf,ve h];rfl
theorem zhH{k:Int}(hk:kab k){p q:List Nb}(hp:La.OkR k p)(hq:La.OkR k q):La.OkR k (ppL k p q):=fun x hx=>by
 unfold ppL at hx;obtain⟨j,_,rfl⟩:=wk.mp hx
 split
 ·exact La.jU hk (jX hk hp j) (jX hk hq j)
 ·exact jX hk hp j
theorem zhG{k:Int}(hk:kab k){p q:List Nb}{m1 m2:Nat}(a7:61<=m1)(b7:61<=m2)(hp:La.OkR k p)(hq:La.OkR k q)(sp:∀ x∈p,szk k m1 x)(sq:∀ x∈q,szk k m2 x):∀ x∈ppL k p q,szk k (m1+m2+1) x:=fun x hx=>by
 unfold ppL at hx;obtain⟨j,_,rfl⟩:=wk.mp hx
 split
 ·exact YM (jX hk hp j) (jX hk hq j) (JV hk a7 sp j) (JV hk b7 sq j)
 ·exact(JV hk a7 sp j).mono (by omega)
theorem zgS{k:Int}(hk:kab k){p q:List Nb}(hp:La.OkR k p)(hq:La.OkR k q){F:Type}[Lean.Grind.Field F](φ:La.Kf k F)(j:Nat):La.nv φ (ppL k p q) j=La.nv φ p j+La.nv φ q j:=by
 rcases wS j (max p.length q.length)with h|h
 ·rw[La.yp φ (zdq h)]
  by_cases c:j<q.length
  ·rw[if_pos c,φ.add (jX hk hp j) (jX hk hq j)];rfl
  ·rw[if_neg c,La.yl φ (xs:=q) (by omega)];show La.nv φ p j=La.nv φ p j+0
   grind
 ·rw[La.yl φ (by rw[zaG];exact h),La.yl φ (xs:=p) (by omega),La.yl φ (xs:=q) (by omega)]
  grind
def zaX:Sp:=fun vs H Q _=>∃(k:Int)(p q:List Nb)(m1 m2:Nat)(a b:Addr),vs=[.int k,.ref a,.ref b]/\kab k/\kai H p a/\kai H q b/\La.OkR k p/\La.OkR k q/\(∀ x∈p,szk k m1 x)/\(∀ x∈q,szk k m2 x)/\61<=m1/\61<=m2/\(k=0->m1<=60000000/\m2<=60000000)/\p.length<=100/\q.length<=100 /\
 ∀ r H',Same H H'->NewR H H' (ppL k p q) r->Q (.ref r) H'
theorem nsm60{k:Int}(hk:kab k){m:Nat}{x:Nb}(o:x.ok k)(h:szk k m x)(b:k=0->m<=60000000):nsm 60000000 x:=by
 by_cases k0:k=0
 ·exact(h k0).mono (b k0)
 ·exact(Ja hk k0 o).mono (by decide)
theorem zeP (D:Df K mg "_law_poly_plus" Sz yS) (zM:Kn P w K mg base "_law_make" 1 Sy xE) (yh:Kn P w K mg base "_law_plus" 42 Sz (jo nadd)) (zi:mg "range" = none) (m_len:mg "len" = none) (m_max:mg "max" = none):Kn P w K mg base "_law_poly_plus" 43 Sz zaX:=by
 refine D.kn sC (fun vs H Q E h=>?_) (fun f cdv A outer s H vs Q E hr h=>?_)
 ·obtain⟨k,p,q,m1,m2,a,b,rfl,_⟩:=h;rfl
 obtain⟨k,p,q',m1,m2,a,b,rfl,hk,ha,hb,op,oq,sp,sq,a7,b7,bd,lp,lq,q⟩:=h;have szl:=SV
 obtain⟨ua,hua,pua,lua⟩:=ha.len;obtain⟨ub,hub,pub,lub⟩:=hb.len;refine⟨_,(zc (zk (i:=3) sC.nd rfl (.inl rfl) (yn zb)) (zc (yw PassesOwn.never rfl (zF rfl zi (za (zy (Qv rfl) rfl m_max zfh (za (zy zJ rfl m_len ym (za (pv 1) zb)) (za (zy zJ rfl m_len ym (za (pv 2) zb)) zb))) zb)) (zt (i:=4) sC.nd rfl (.inl rfl)) (zc (zk (i:=5) sC.nd rfl (.inl rfl) (zu zM hr (za (pv 0) (za zd zb)))) (zc (yD (zQ zcf (pv 4) (zy zJ rfl m_len ym (za (pv 1) zb)) (kae _)) (zg (zk (i:=5) sC.nd rfl (.inl rfl) (zD zw (pv 1) (pv 4)))) zO) (zc (yD (zQ zcf (pv 4) (zy zJ rfl m_len ym (za (pv 2) zb)) (kae _)) (zg (zk (i:=5) sC.nd rfl (.inl rfl) (zu yh hr (za (pv 0) (za (pv 5) (za (zD zw (pv 2) (pv 4)) zb)))))) zO) (zg (xI (bm0 (fun _ h=>Xu PySem.F.plainAttrs_list PySem.F.slot_list_append PySem.F.type_list_append yN h (za (pv 5) zb)) (pv 3)))))))) (zg (zo (pv 3))))),?_⟩;refine⟨(by show 0<=sizeLine;decide),fun pt hpt=>?_⟩;have g0:=zf hpt (.lst []);refine⟨_,rfl,a,_,rfl,.inl (SqL.of (g0 _ _ hua)),_,rfl,b,_,rfl,.inl (SqL.of (g0 _ _ hub)),_,_,rfl,_,rfl,(by split <;> omega),(by split <;> omega),?_⟩;have eN:(if (ub.length:Int) >(ua.length:Int)then(ub.length:Int)else(ua.length:Int)).toNat=max p.length q'.length:=by split <;> omega
 rw[eN];have lL:=zaG (k:=k) (p:=p) (q:=q');refine yv (lo:=0) (n:=max p.length q'.length) (fun i σ H'=>∃ us o4 o5,σ=[some (.int k),some (.ref a),some (.ref b),some (.ref pt),o4,o5]/\Same H H'/\H' pt=some (.lst us)/\Paired (RN H') ((ppL k p q').take i) us) ⟨[],none,none,rfl,g0,ze,.nil⟩ ?_ ?_
 ·rintro i σ H1 hi ⟨us,o4,o5,rfl,g1,ht1,pu1⟩
  rw[vt];refine⟨_,rfl,k,0,rfl,hk,fun v2 H2 g2 r2=>?_⟩
  try dsimp only
  refine qd (fun σ H'=>∃ v,σ=[some (.int k),some (.ref a),some (.ref b),some (.ref pt),some (.int (i:Int)),some v]/\Same H1 H'/\RN H' (p.getD i (nnum k 0)) v) ?_ ?_
  rotate_left
  ·intro hN;refine⟨_,rfl,_,rfl,a,_,rfl,.inl (SqL.of (g2 _ _ (g1 _ _ hua))),_,_,rfl,rfl,_,rfl,?_⟩;refine ite2 (fun cc=>?_) (fun cc=>?_)
   ·have ci:i<ua.length:=by have:(i:Int) <(ua.length:Int):=of_decide_eq_true cc;omega
    obtain⟨x,hx,rx⟩:=zU pua (wa ci);refine⟨_,rfl,_,rfl,a,_,_,_,rfl,rfl,SqL.of (g2 _ _ (g1 _ _ hua)),zG (wa ci),hN _ _ ⟨_,rfl,g2,?_⟩⟩;rw[wb,hx];exact(rx.mono g1).mono g2
   ·have ci:¬ i<ua.length:=by have:¬(i:Int) <(ua.length:Int):=of_decide_eq_false (uv.mpr cc);omega
    refine hN _ _ ⟨_,rfl,g2,?_⟩;rw[wb,vA (by omega)];exact r2
  rintro σ H3 ⟨v3,rfl,g3,r3⟩
  have g03:=g1.trans g3
  try dsimp only
  refine qd (fun σ H'=>∃ v,σ=[some (.int k),some (.ref a),some (.ref b),some (.ref pt),some (.int (i:Int)),some v]/\Same H3 H'/\RN H' (if i<q'.length then nadd k (p.getD i (nnum k 0)) (q'.getD i (nnum k 0))else p.getD i (nnum k 0)) v) ?_ ?_
  rotate_left
  ·intro hN;refine⟨_,rfl,_,rfl,b,_,rfl,.inl (SqL.of (g03 _ _ hub)),_,_,rfl,rfl,_,rfl,?_⟩;refine ite2 (fun cc=>?_) (fun cc=>?_)
   ·have ci:i<ub.length:=by have:(i:Int) <(ub.length:Int):=of_decide_eq_true cc;omega
    obtain⟨x,hx,rx⟩:=zU pub (wa ci);have ex:q'.getD i (nnum k 0)=x:=by rw[wb,hx];rfl
    refine⟨_,rfl,_,rfl,_,rfl,_,rfl,b,_,_,_,rfl,rfl,SqL.of (g03 _ _ hub),zG (wa ci),k,p.getD i (nnum k 0),x,_,_,rfl,⟨hk,jX hk op i,oq x (wd hx),nsm60 hk (jX hk op i) (JV hk a7 sp i) (fun h=>(bd h).1),nsm60 hk (oq x (wd hx)) (sq x (wd hx)) (fun h=>(bd h).2),r3,rx.mono g03⟩,fun v4 H4 g4 r4=>hN _ _ ⟨_,rfl,g4,?_⟩⟩;rw[if_pos (by omega),ex];exact r4
   ·have ci:¬ i<ub.length:=by have:¬(i:Int) <(ub.length:Int):=of_decide_eq_false (uv.mpr cc);omega
    refine hN _ _ ⟨_,rfl,Same.refl _,?_⟩;rw[if_neg (by omega)];exact r3
  rintro σ H4 ⟨v4,rfl,g4,r4⟩
  have ht4:=g4 _ _ (g3 _ _ ht1);have lu:=zj pu1;rw[wj]at lu;refine⟨_,rfl,.inl ⟨rfl,_,SqL.of ht4⟩,_,rfl,pt,us,_,rfl,rfl,ht4,(by omega),?_⟩;refine⟨us++[v4],_,_,rfl,xl (g03.trans g4) hpt,ze,?_⟩;rw[zr (zdq hi)];exact jC ht4 (yu (yz (g3.trans g4) pu1) r4)
 ·rintro σ H1 ⟨us,o4,o5,rfl,g1,ht1,pu1⟩
  rw[wg (by omega)]at pu1;exact⟨_,rfl,q pt H1 g1 ⟨⟨us,ht1,pu1⟩,hpt⟩⟩
def Xq:Sp:=fun vs H Q _=>∃(k:Int)(p q:List Nb)(m1 m2:Nat)(a b:Addr),vs=[.int k,.ref a,.ref b]/\kab k/\kai H p a/\kai H q b/\La.OkR k p/\La.OkR k q/\(∀ x∈p,szk k m1 x)/\(∀ x∈q,szk k m2 x)/\61<=m1/\61<=m2/\(k=0->61+p.length*q.length *(m1+m2+1)<=60000000)/\1<=p.length/\1<=q.length/\p.length<=10/\q.length<=10 /\
 ∀ xs r H',Same H H'->NewR H H' xs r->xs.length=p.length+q.length - 1->La.OkR k xs->(∀ x∈xs,szk k (61+p.length*q.length *(m1+m2+1)) x)->(∀(F:Type) [Lean.Grind.Field F] (φ:La.Kf k F) (j:Nat),La.nv φ xs j=La.pmu j (La.nv φ p) (La.nv φ q))->Q (.ref r) H'
theorem zcT (D:Df K mg "_law_poly_times" Sz yI) (zM:Kn P w K mg base "_law_make" 1 Sy xE) (yh:Kn P w K mg base "_law_plus" 42 Sz (jo nadd)) (yx:Kn P w K mg base "_law_times" 42 Sz (jo nmul)) (zi:mg "range" = none) (m_len:mg "len" = none) (m_max:mg "max" = none):Kn P w K mg base "_law_poly_times" 43 Sz Xq:=by
 refine D.kn se (fun vs H Q E h=>?_) (fun f cdv A outer s H vs Q E hr h=>?_)
 ·obtain⟨k,p,q,m1,m2,a,b,rfl,_⟩:=h;rfl
 obtain⟨k,p,q',m1,m2,a,b,rfl,hk,ha,hb,op,oq,sp,sq,a7,b7,bd,lp1,lq1,lp,lq,q⟩:=h;have szl:=SV
 obtain⟨ua,hua,pua,lua⟩:=ha.len;obtain⟨ub,hub,pub,lub⟩:=hb.len;refine⟨_,(zc (zaw 3 se.nd ["_law_prime_here"] [0] (zF rfl zi (za (zy (Qv rfl) rfl m_max zfh (za zd (za (zh jA (zh ye (zy zJ rfl m_len ym (za (pv 1) zb)) (zy zJ rfl m_len ym (za (pv 2) zb))) zd) zb))) zb)) fun _ _ _ _ _ _=>⟨zI,(zu zM hr (za (pv 1) (za zd zb)))⟩) (zc (yw PassesOwn.never rfl (zF rfl zi (za (zy zJ rfl m_len ym (za (pv 1) zb)) zb)) (zt (i:=4) se.nd rfl (.inl rfl)) (zg (yw PassesOwn.never rfl (zF rfl zi (za (zy zJ rfl m_len ym (za (pv 2) zb)) zb)) (zt (i:=5) se.nd rfl (.inl rfl)) (zg (qK (zu yh hr (za (pv 0) (za (zD zw (pv 3) (zh ye (pv 4) (pv 5))) (za (zu yx hr (za (pv 0) (za (zD zw (pv 1) (pv 4)) (za (zD zw (pv 2) (pv 5)) zb)))) zb)))) (XV (pv 3) (zh ye (pv 4) (pv 5)) qH)))))) (zg (zo (pv 3))))),?_⟩;refine⟨_,rfl,a,_,rfl,.inl (SqL.of hua),_,rfl,b,_,rfl,.inl (SqL.of hub),_,_,rfl,rfl,_,_,rfl,rfl,_,_,rfl,_,rfl,(by split <;> omega),(by split <;> omega),?_⟩;have eN:(if (ua.length:Int) +(ub.length:Int) - 1 > 0 then(ua.length:Int) +(ub.length:Int) - 1 else 0).toNat=p.length+q'.length - 1:=by split <;> omega
 rw[eN];refine zZ (lo:=0) (n:=p.length+q'.length - 1) (fun i ys H'=>Same H H'/\Paired (RN H') (ww i (nnum k 0)) ys) ⟨Same.refl _,.nil⟩ ?_ ?_ ?_
 ·rintro i ys H' hi ⟨g,pr⟩
  have:=zj pr;rw[vh]at this;omega
 ·rintro i ys H' hi ⟨g,pr⟩
  first|refine gyes ?_|refine tyes ?_
  refine⟨_,rfl,k,0,rfl,hk,fun v H2 g2 r2=>nxt hi ⟨g.trans g2,?_⟩⟩;rw[ux];exact yu (yz g2 pr) r2
 rintro ys H1 ⟨g1,pr1⟩ pt hpt
 have ptH:H pt=none:=g1.none hpt;have g2:=zf hpt (.lst ys);have z0:∀(F:Type) [Lean.Grind.Field F] (φ:La.Kf k F) (m:Nat),La.nv φ (ww (p.length+q'.length - 1) (nnum k 0)) m=La.mulT (La.nv φ p) (La.nv φ q') 0 m +(if 0<=m/\m<0+0 then La.nv φ p 0*La.nv φ q' (m - 0)else 0):=fun F _ φ m=>by
  rw[if_neg (by omega)];have e:La.nv φ (ww (p.length+q'.length - 1) (nnum k 0)) m=0:=by
   rcases wS m (p.length+q'.length - 1)with h|h
   ·rw[La.yp φ (x:=nnum k 0) (by rw[uB,if_pos h])];exact φ.num0
   ·exact La.yl φ (by rw[vh];exact h)
  rw[e];show(0:F)=0+0
  grind
 refine⟨_,rfl,a,_,rfl,.inl (SqL.of (g2 _ _ (g1 _ _ hua))),_,rfl,(by omega),(by omega),?_⟩;rw[wJ,lua];refine yv (lo:=0) (n:=p.length) (fun i σ H'=>∃ xs us o4 o5,σ=[some (.int k),some (.ref a),some (.ref b),some (.ref pt),o4,o5]/\Same H H'/\H' pt=some (.lst us)/\Paired (RN H') xs us/\xs.length=p.length+q'.length - 1/\La.OkR k xs/\(∀ x∈xs,szk k (61+i*q'.length *(m1+m2+1)) x)/\(∀(F:Type) [Lean.Grind.Field F] (φ:La.Kf k F) (m:Nat),La.nv φ xs m=La.mulT (La.nv φ p) (La.nv φ q') i m)) ⟨_,ys,none,none,rfl,g1.trans g2,ze,yz g2 pr1,by rw[vh],fun x hx=>by rw[vL hx];exact La.zR hk 0,fun x hx=>by rw[vL hx];exact fun _=>yM hk (xh _) (by omega),fun F _ φ m=>by rw[z0 F φ m,if_neg (by omega)];grind⟩ ?_ ?_
 ·rintro i σ H2 hi ⟨xs,us,o4,o5,rfl,g2',ht2,pu2,lx2,ox2,sx2,nx2⟩
  rw[vt];refine⟨_,rfl,b,_,rfl,.inl (SqL.of (g2' _ _ hub)),_,rfl,(by omega),(by omega),?_⟩;rw[wJ,lub];refine yv (lo:=0) (n:=q'.length) (fun j σ H'=>∃ xs us o5,σ=[some (.int k),some (.ref a),some (.ref b),some (.ref pt),some (.int (i:Int)),o5]/\Same H H'/\H' pt=some (.lst us)/\Paired (RN H') xs us/\xs.length=p.length+q'.length - 1/\La.OkR k xs/\(∀ x∈xs,szk k (61 +(i*q'.length+j) *(m1+m2+1)) x)/\(∀(F:Type) [Lean.Grind.Field F] (φ:La.Kf k F) (m:Nat),La.nv φ xs m=La.mulT (La.nv φ p) (La.nv φ q') i m +(if i<=m/\m<i+j then La.nv φ p i*La.nv φ q' (m - i)else 0))) ⟨xs,us,o5,rfl,g2',ht2,pu2,lx2,ox2,sx2,fun F _ φ m=>by rw[nx2 F φ m,if_neg (by omega)];grind⟩ ?_ ?_
  ·rintro j σ H3 hj ⟨xs,us,o5,rfl,g3,ht3,pu3,lx3,ox3,sx3,nx3⟩
   rw[vt];have lu3:=zj pu3;have ij:i+j<xs.length:=by omega
   obtain⟨u,eu,ru⟩:=yU pu3 (wa ij);obtain⟨va,ea,rva⟩:=yU pua (wa hi);obtain⟨vb,eb,rvb⟩:=yU pub (wa hj);have o1:=op _ (we hi);have o2:=oq _ (we hj);have o3:=ox3 _ (we ij);have om:=La.xm hk o1 o2;have sm:=JJ o1 o2 (sp _ (we hi)) (sq _ (we hj));have s3:=sx3 _ (we ij);have hb1:(i*q'.length+j)+1<=p.length*q'.length:=by
    have:(i+1)*q'.length<=p.length*q'.length:=wH _ (by omega);rw[vW]at this;omega
   have hb2:((i*q'.length+j)+1) *(m1+m2+1)<=p.length*q'.length *(m1+m2+1):=wH _ hb1;have hb3:((i*q'.length+j)+1) *(m1+m2+1) =(i*q'.length+j) *(m1+m2+1) +(m1+m2+1):=vW _ _;refine⟨_,rfl,_,rfl,_,rfl,_,rfl,_,_,rfl,rfl,pt,_,_,_,rfl,rfl,SqL.of ht3,(by rw[show(i:Int) +(j:Int) =((i+j:Nat):Int) by omega];exact zG eu),_,rfl,_,rfl,_,rfl,a,_,_,_,rfl,rfl,SqL.of (g3 _ _ hua),zG ea,_,rfl,_,rfl,b,_,_,_,rfl,rfl,SqL.of (g3 _ _ hub),zG eb,k,p[i],q'[j],_,_,rfl,⟨hk,o1,o2,nsm60 hk o1 (sp _ (we hi)) (fun h=>by have:=bd h;omega),nsm60 hk o2 (sq _ (we hj)) (fun h=>by have:=bd h;omega),rva.mono g3,rvb.mono g3⟩,fun v4 H4 g4 r4=>?_⟩;refine⟨k,xs[i+j],nmul k p[i] q'[j],_,_,rfl,⟨hk,o3,om,nsm60 hk o3 s3 (fun h=>by have:=bd h;omega),nsm60 hk om sm (fun h=>by have:=bd h;omega),ru.mono g4,r4⟩,fun v5 H5 g5 r5=>?_⟩;have g35:=g4.trans g5;have ht5:=g35 _ _ ht3;refine⟨_,rfl,_,rfl,_,rfl,_,_,rfl,rfl,pt,us,_,i+j,rfl,rfl,ht5,(by rw[show(i:Int) +(j:Int) =((i+j:Nat):Int) by omega];exact ZE (by omega)),?_⟩;refine⟨xs.set (i+j) (nadd k xs[i+j] (nmul k p[i] q'[j])),us.set (i+j) v5,_,rfl,xl (g3.trans g35) ptH,ze,jC ht5 (zbl (yz g35 pu3) (i+j) r5),by rw[vv];exact lx3,fun x hx=>?_,fun x hx=>?_,fun F _ φ m=>?_⟩
   ·rcases La.yd hx with e|e
    ·rw[e];exact La.jU hk o3 om
    ·exact ox3 x e
   ·rcases La.yd hx with e|e
    ·rw[e];refine(YM o3 om s3 sm).mono ?_;rw[show i*q'.length +(j+1) =(i*q'.length+j)+1 by omega,hb3];omega
    ·exact(sx3 x e).mono (by rw[show i*q'.length +(j+1) =(i*q'.length+j)+1 by omega,hb3];omega)
   ·rw[La.zgn ij,φ.add o3 om,φ.mul o1 o2,nx3 F φ m];have e3:φ.to xs[i+j]=La.mulT (La.nv φ p) (La.nv φ q') i (i+j):=by
     have:=nx3 F φ (i+j);rw[La.yp φ (wa ij),if_neg (by omega)]at this;rw[this];grind
    by_cases c:m=i+j
    ·subst c;rw[if_pos rfl,if_pos (by omega),e3,show i+j - i=j by omega,La.yp φ (wa hi),La.yp φ (wa hj)]
    ·rw[if_neg c]
     by_cases c2:i<=m/\m<i+j
     ·rw[if_pos c2,if_pos (by omega)]
     ·rw[if_neg c2,if_neg (by omega)]
  ·rintro σ H3 ⟨xs,us,o5,rfl,g3,ht3,pu3,lx3,ox3,sx3,nx3⟩
   refine⟨xs,us,_,_,rfl,g3,ht3,pu3,lx3,ox3,fun x hx=>(sx3 x hx).mono (by rw[vW];exact wl _),fun F _ φ m=>?_⟩;rw[nx3 F φ m];show _=La.mulT (La.nv φ p) (La.nv φ q') i m+La.nv φ p i *(if i<=m then La.nv φ q' (m - i)else 0)
   by_cases c:i<=m
   ·rw[if_pos c]
    by_cases c2:m<i+q'.length
    ·rw[if_pos ⟨c,c2⟩]
    ·rw[if_neg (by omega),La.yl φ (xs:=q') (by omega)];grind
   ·rw[if_neg c,if_neg (by omega)];grind
 ·rintro σ H2 ⟨xs,us,o4,o5,rfl,g2',ht2,pu2,lx2,ox2,sx2,nx2⟩
  exact⟨_,rfl,q xs pt H2 g2' ⟨⟨us,ht2,pu2⟩,ptH⟩ lx2 ox2 sx2 fun F _ φ j=>by rw[nx2 F φ j];exact(La.zaW p.length j _ _ (fun i hi=>La.yl φ hi)).symm⟩
def RsAt(H:Hp)(R:List (TB))(p:Addr)(ts:List Addr):Prop:=H p=some (.lst (ts.map V.ref))/\Paired (fun M t=>∃ ras,kah H M t ras) R ts
theorem RsAt.mono{H H':Hp}{R:List (TB)}{p:Addr}{ts:List Addr}(h:RsAt H R p ts)(g:Same H H'):RsAt H' R p ts:=⟨g _ _ h.1,yZ (fun _ _ ⟨ras,r⟩=>⟨ras,r.mono g⟩) h.2⟩
theorem Jx{α β:Type}{R:α->β->Prop}{xs:List α}{ys:List β}(h:Paired R xs ys)(n:Nat):Paired R (xs.drop n) (ys.drop n):=by
 have l:=zj h;refine Xr (by rw[vO,vO,l]) fun i x a h1 h2=>?_
 rw[gh]at h1 h2;exact qv h h1 h2
def mnr{α:Type}(j:Nat)(rows:List (List α)):List (List α):=(rows.drop 1).map fun r=>r.take j++r.drop (j+1)
theorem zf9{α β:Type}[Lean.Grind.CommRing β](f:α->β)(j:Nat)(rows:List (List α)):La.minor j (rows.map fun r=>r.map f) =(mnr j rows).map fun r=>r.map f:=by
 unfold La.minor mnr;rw[← uf,vq,vq];refine wW fun r _=>?_
 show(r.map f).take j ++(r.map f).drop (j+1) =(r.take j++r.drop (j+1)).map f;rw[wt,vR,uf]
theorem zbD{α β:Type}(f:α->β)(j:Nat)(rows:List (List α)):mnr j (rows.map fun r=>r.map f) =(mnr j rows).map fun r=>r.map f:=by
 unfold mnr;rw[← uf,vq,vq];refine wW fun r _=>?_
 show(r.map f).take j ++(r.map f).drop (j+1) =(r.take j++r.drop (j+1)).map f;rw[wt,vR,uf]
def lmax(f:Nat->Nat):Nat->Nat
 | 0=>0
 | j+1=>max (lmax f j) (f j)
def ldet:Nat->List (List Nat)->Nat
 | 0,_=>1
 | d+1,S=>lmax (fun j=>(S.getD 0 []).getD j 0+ldet d (mnr j S) - 1) (d+1)
theorem zaC{f:Nat->Nat}{lo hi:Nat}:∀ n,(∀ j,j<n->lo<=f j/\f j<=hi)->(0<n->lo<=lmax f n)/\lmax f n<=hi
 | 0,_=>⟨fun h=>absurd h (by omega),vN _⟩
 | n+1,h=>by
  have ih:=zaC n fun j hj=>h j (by omega)
  have hn:=h n (by omega);show(0<n+1->lo<=max (lmax f n) (f n))/\max (lmax f n) (f n)<=hi;have:=ih.2;omega
theorem zeh{α:Type}{P:α->Prop}{n j:Nat}{R:List (List α)}(l:R.length=n+1)(hj:j<n+1)(h:∀ r∈R,r.length=n+1/\∀ x∈r,P x):(mnr j R).length=n/\∀ r∈mnr j R,r.length=n/\∀ x∈r,P x:=by
 refine⟨by unfold mnr;rw[wc,vO];omega,fun r hr=>?_⟩;unfold mnr at hr;obtain⟨r',hr',rfl⟩:=wk.mp hr;have o:=h r' (vJ hr');refine⟨by rw[wu,wj,vO];omega,fun x hx=>?_⟩
 rcases wo.mp hx with e|e
 ·exact o.2 x (wE e)
 ·exact o.2 x (vJ e)
theorem zas:∀(d:Nat)(S:List (List Nat)),S.length=d->(∀ r∈S,r.length=d/\∀ x∈r,1<=x/\x<=2)->1<=ldet d S/\ldet d S<=d+1
 | 0,_,_,_=>⟨wl _,wl _⟩
 | d+1,S,l,h=>by
  have key:∀ j,j<d+1->1<=(S.getD 0 []).getD j 0+ldet d (mnr j S) - 1/\(S.getD 0 []).getD j 0+ldet d (mnr j S) - 1<=d+2:=fun j hj=>by
   obtain⟨m1,m2⟩:=zeh l hj h;have ih:=zas d (mnr j S) m1 m2;have h0:0<S.length:=by omega
   have e0:S.getD 0 []=S[0]:=by rw[wb,wa h0];rfl
   have o:=h S[0] (we h0);have hj':j<S[0].length:=by omega
   have e1:(S.getD 0 []).getD j 0=S[0][j]:=by rw[e0,wb,wa hj'];rfl
   have:=o.2 _ (we hj');rw[e1];omega
  have:=zaC (d+1) key;exact⟨this.1 (by omega),this.2⟩
def sdT1(s n:Nat):Nat:=61+2 *(n+1) *(1000+s+1)
def sdT2(s n:Nat):Nat:=61 +(n+2) *(61+sdT1 s n+1)
def sd:Nat->Nat
 | 0=>61
 | n+1=>61 +(n+1) *(sdT2 (sd n) n+1)
theorem zh6:∀ n,n<=2->sdT1 (sd n) n<=60000000/\sdT2 (sd n) n<=60000000/\sd (n+1)<=60000000:=by decide
theorem zhU:∀ n,61<=sd n
 | 0=>wl _
 | n+1=>gn _ _
def PolyOk(k:Int)(x:List Nb):Prop:=1<=x.length/\x.length<=2/\La.OkR k x/\∀ y∈x,szk k 1000 y
def DetP(k:Int)(n:Nat)(R:List (TB))(xs:List Nb):Prop:=∀(F:Type) [Lean.Grind.Field F] (φ:La.Kf k F),La.pnv φ xs=La.cdet n (R.map fun r=>r.map fun x=>La.pnv φ x)
def za8(d:Nat):Sp:=fun vs H Q _=>∃(k:Int)(R:List (TB))(n:Nat)(p:Addr)(ts:List Addr),vs=[.int k,.ref p]/\kab k/\RsAt H R p ts/\R.length=n/\(∀ r∈R,r.length=n/\∀ x∈r,PolyOk k x)/\n<d/\n<=4/\(k=0->n<=3) /\
 ∀ xs a H',Same H H'->NewR H H' xs a->xs.length=ldet n (R.map fun r=>r.map vG)->La.OkR k xs->(∀ y∈xs,szk k (sd n) y)->DetP k n R xs->Q (.ref a) H'
theorem zgu (D:Df K mg "_law_det" SR jz):Kn P w K mg base "_law_det" (46+0) ["_law_prime_here", "_law_rows"] (za8 0):=by
 refine D.kn Sa (fun vs H Q E h=>?_) (fun f cdv A outer s H vs Q E hr h=>?_)
 all_goals
  obtain⟨k,R,n,p,ts,rfl,hk,hR,lR,oR,nd,_⟩:=h;exact absurd nd (by omega)
theorem za4{k:Int}{n:Nat}{R:List (TB)}(h:∀ r∈R,r.length=n/\∀ x∈r,PolyOk k x):∀ r∈R.map (fun r=>r.map vG),r.length=n/\∀ x∈r,1<=x/\x<=2:=fun r hr=>by
 obtain⟨r',hr',rfl⟩:=wk.mp hr;refine⟨by rw[wc];exact(h r' hr').1,fun x hx=>?_⟩;obtain⟨y,hy,rfl⟩:=wk.mp hx;have:=(h r' hr').2 y hy;exact⟨this.1,this.2.1⟩
theorem zfC{k:Int}{F:Type}[Lean.Grind.Field F](φ:La.Kf k F)(c:Nb):La.pnv φ [c]=La.cst (φ.to c):=by
 funext j
 cases j with
 | zero=>rfl
 | succ j=>exact La.yl φ (by simp)
theorem zhn{k:Int}(hk:kab k){F:Type}[Lean.Grind.Field F](φ:La.Kf k F)(j:Nat):(La.cst (φ.to (nnum k (1 - 2 *((j:Int).fmod 2)))):La.PSr F)=La.sgn j:=by
 rw[φ.num];unfold La.sgn;have e:(j:Int).fmod 2 =((j % 2:Nat):Int):=by rw[gK _ (by decide)];omega
 rw[e];have hm:=La.jE (R:=F)
 rcases Nat.mod_two_eq_zero_or_one j with h|h
 ·rw[h,if_pos rfl];rw[show(1:Int) - 2 *((0:Nat):Int)=1 by decide,La.ι_one];exact hm.one
 ·rw[h,if_neg (by decide)];rw[show(1:Int) - 2 *((1:Nat):Int) = -1 by decide,La.ι_neg,La.ι_one,hm.neg,hm.one]
theorem Xs (d:Nat) (D:Df K mg "_law_det" SR jz) (Ye:Kn P w K mg base "_law_det" (46+d) ["_law_prime_here", "_law_rows"] (za8 d)) (zM:Kn P w K mg base "_law_make" 1 Sy xE) (Ys:Kn P w K mg base "_law_poly_plus" 43 Sz zaX) (yH:Kn P w K mg base "_law_poly_times" 43 Sz Xq) (zi:mg "range" = none) (m_len:mg "len" = none):Kn P w K mg base "_law_det" (46+d+1) ["_law_prime_here", "_law_rows"] (za8 (d+1)):=by
 refine D.kn Sa (fun vs H Q E h=>?_) (fun f cdv A outer s H vs Q E hr h=>?_)
 ·obtain⟨k,R,n,p,ts,rfl,_⟩:=h;rfl
 obtain⟨k,R,n,p,ts,rfl,hk,hR,lR,oR,nd,n4,n3,q⟩:=h;have szl:=SV
 have lt:=zj hR.2;rw[lR]at lt;refine⟨_,(zc (yD (zQ xX (zy zJ rfl m_len ym (za (pv 1) zb)) zd (kae _)) (zg (zo (yn (za (zak zM (hr.mono (by omega)) rfl (za (pv 0) (za zd zb))) zb)))) zO) (zc (zk (i:=2) Sa.nd rfl (.inl rfl) (yn zb)) (zc (yw PassesOwn.never rfl (zF rfl zi (za (zy zJ rfl m_len ym (za (pv 1) zb)) zb)) (zt (i:=3) Sa.nd rfl (.inr rfl)) (zc (zk (i:=4) Sa.nd rfl (.inl rfl) (zak Ye (hr.mono (by omega)) rfl (za (pv 0) (za (xK ["_law_j"] [3] (zV (yB xq (pv 1) (yW zd) xt)) fun _ _ _ _ _ _=>⟨zI,(zh qW (yB xq (pv 0) xt (yW (pv 1))) (yB xq (pv 0) (yW (zh ye (pv 1) zd)) xt))⟩) zb)))) (zc (zk (i:=4) Sa.nd rfl (.inl rfl) (zak yH (hr.mono (by omega)) rfl (za (pv 0) (za (zD zw (zD zw (pv 1) zd) (pv 3)) (za (pv 4) zb))))) (zc (zk (i:=4) Sa.nd rfl (.inl rfl) (zak yH (hr.mono (by omega)) rfl (za (pv 0) (za (yn (za (zak zM (hr.mono (by omega)) rfl (za (pv 0) (za (zh jA zd (zh zL zd (zh zN (pv 3) zd))) zb))) zb)) (za (pv 4) zb))))) (zg (zk (i:=2) Sa.nd rfl (.inl rfl) (zak Ys (hr.mono (by omega)) rfl (za (pv 0) (za (pv 2) (za (pv 4) zb)))))))))) (zg (zo (pv 2)))))),?_⟩;refine⟨_,rfl,p,_,rfl,.inl (SqL.of hR.1),rfl,_,rfl,?_⟩;rw[wc,← lt];refine ite2 (fun c=>?_) (fun c=>?_)
 ·have n0:n=0:=by have:=V.int.inj (of_decide_eq_true c);omega
  subst n0;refine⟨_,rfl,k,1,rfl,hk,fun v H1 g1 r1=>⟨(by show 1<=sizeLine;decide),fun pl hpl=>?_⟩⟩;have g2:=zf hpl (.lst [v]);refine q [nnum k 1] pl _ (g1.trans g2) ⟨⟨[v],ze,.cons (r1.mono g2) .nil⟩,g1.none hpl⟩ rfl (fun x hx=>by rw[wn.mp hx];exact La.zR hk 1) (fun x hx=>by rw[wn.mp hx];exact fun _=>yM hk (sm_one.mono (by decide)) (by decide)) fun F _ φ=>?_
  show _ =(1:La.PSr F);rw[zfC,φ.num,La.ι_one];exact(La.jE (R:=F)).one
 obtain⟨n',rfl⟩ : ∃ n',n=n'+1:=⟨n - 1,by
  have:n≠0:=fun e=>c (by rw[e];exact decide_eq_true rfl)
  omega⟩
 have lo:=zhU n';refine⟨(by show 0<=sizeLine;decide),fun pt hpt=>?_⟩;have g0:=zf hpt (.lst []);refine⟨_,rfl,p,_,rfl,.inl (SqL.of (g0 _ _ hR.1)),_,rfl,(by omega),(by rw[wc,← lt];omega),?_⟩;rw[wJ,wc,← lt];have bd:k=0->sdT1 (sd n') n'<=60000000/\sdT2 (sd n') n'<=60000000/\sd (n'+1)<=60000000:=fun h=>zh6 n' (by have:=n3 h;omega)
 have h0R:0<R.length:=by omega
 have g0R:R[0]?=some R[0]:=wa h0R;obtain⟨t0,et0,ras0,T0⟩:=yU hR.2 g0R;have o0:=oR R[0] (we h0R);refine yv (lo:=0) (n:=n'+1) (fun j σ H'=>∃ xs a o3 o4,σ=[some (.int k),some (.ref p),some (.ref a),o3,o4]/\Same H H'/\NewR H H' xs a/\xs.length=lmax (fun j=>((R.map fun r=>r.map vG).getD 0 []).getD j 0+ldet n' (mnr j (R.map fun r=>r.map vG)) - 1) j/\La.OkR k xs/\(∀ y∈xs,szk k (61+j *(sdT2 (sd n') n'+1)) y)/\(∀(F:Type) [Lean.Grind.Field F] (φ:La.Kf k F),La.pnv φ xs=La.csum (fun j=>La.sgn j *(((R.map fun r=>r.map fun x=>La.pnv φ x).getD 0 []).getD j 0*La.cdet n' (La.minor j (R.map fun r=>r.map fun x=>La.pnv φ x)))) j)) ⟨[],pt,none,none,rfl,g0,⟨⟨[],ze,.nil⟩,hpt⟩,rfl,fun x hx=>(nomatch hx),fun x hx=>(nomatch hx),fun F _ φ=>by
  show _ =(0:La.PSr F);rw[← (La.jE (R:=F)).zero]
  funext j
  show La.nv φ [] j=_;rw[La.yl φ (vN _)];cases j <;> rfl⟩ ?_ ?_
 ·rintro j σ H1 hj ⟨xs,a,o3,o4,rfl,g1,N1,l1,ox1,sx1,nx1⟩
  rw[vt];have R1:=hR.mono g1;obtain⟨ml,mo⟩:=zeh lR hj oR;refine⟨_,rfl,_,rfl,_,rfl,p,_,rfl,SqL.of R1.1,fun p2 hp2=>?_⟩;rw[show cutV (ts.map V.ref) (some 1) none =(ts.map V.ref).drop 1 from Zo _ 1,← uf];have g2:=zf hp2 (.lst ((ts.drop 1).map V.ref));have e2:upd H1 p2 (.lst ((ts.drop 1).map V.ref)) p2=some (.lst ((ts.drop 1).map V.ref)):=ze;have D2:Paired (fun M t=>∃ ras,kah (upd H1 p2 (.lst ((ts.drop 1).map V.ref))) M t ras) (R.drop 1) (ts.drop 1):=Jx (R1.mono g2).2 1;generalize upd H1 p2 (.lst ((ts.drop 1).map V.ref))=H2 at *;refine⟨p2,rfl,⟨_,SqL.of e2⟩,?_⟩;have lD:=zj D2;have lmn:(mnr j R).length =(R.drop 1).length:=by unfold mnr;rw[wc]
  refine yt (xs:=(ts.drop 1).map V.ref) (fun i ys H'=>∃ ts',ys=ts'.map V.ref/\Same H2 H'/\Paired (fun M t=>∃ ras,kah H' M t ras) ((mnr j R).take i) ts') ⟨[],rfl,Same.refl _,.nil⟩ ?_ ?_ ?_
  ·rintro i ys H' hi ⟨ts',rfl,g,pr⟩
   refine⟨SqL.of (g _ _ e2),?_⟩;have:=zj pr;rw[wj]at this;rw[wc];omega
  ·rintro i v ys H' hv hi ⟨ts',rfl,g,pr⟩
   rw[wf]at hv;obtain⟨t,ht,rfl⟩:=vB.mp hv;obtain⟨M,hM,ras,T⟩:=zU D2 ht;have T':=T.mono g;have lras:=zj T'.2;have oMr:=oR M (vJ (wd hM))
   first|refine gyes ?_|refine tyes ?_
   refine⟨_,rfl,_,rfl,_,rfl,t,_,rfl,SqL.of T'.1,fun pa hpa=>?_⟩;rw[XO,← vR];have ga:=zf hpa (.lst ((ras.take j).map V.ref));have ea:upd H' pa (.lst ((ras.take j).map V.ref)) pa=some (.lst ((ras.take j).map V.ref)):=ze;have Ta:=T'.mono ga;generalize upd H' pa (.lst ((ras.take j).map V.ref))=Ha at *;refine⟨_,rfl,_,rfl,_,_,rfl,rfl,_,rfl,t,_,rfl,SqL.of Ta.1,fun pb hpb=>?_⟩;rw[show(j:Int)+1 =((j+1:Nat):Int) by omega,Zo,← uf];have gb:=zf hpb (.lst ((ras.drop (j+1)).map V.ref));have eb:upd Ha pb (.lst ((ras.drop (j+1)).map V.ref)) pb=some (.lst ((ras.drop (j+1)).map V.ref)):=ze;have Tb:=Ta.mono gb;have ea':=gb _ _ ea;generalize upd Ha pb (.lst ((ras.drop (j+1)).map V.ref))=Hb at *;refine⟨pa,pb,_,_,rfl,rfl,ea',eb,(by rw[wc,wc,wj,vO];omega),fun pc hpc=>?_⟩;have gc:=zf hpc (.lst ((ras.take j).map V.ref ++(ras.drop (j+1)).map V.ref));have gg:=(ga.trans gb).trans gc;refine nxt hi ⟨ts'++[pc],by rw[wt];rfl,g.trans gg,?_⟩;rw[zr (x:=M.take j++M.drop (j+1)) (by unfold mnr;rw[wf,hM];rfl)];exact yu (yZ (fun _ _ ⟨ras,r⟩=>⟨ras,r.mono gg⟩) pr) ⟨ras.take j++ras.drop (j+1),by rw[ze,wt],Zi (zaH (Tb.mono gc).2 j) (Jx (Tb.mono gc).2 (j+1))⟩
  rintro ys H3 ⟨ts',rfl,g3,pr3⟩ pm hpm
  rw[wc,wg (by omega)]at pr3;have g4:=zf hpm (.lst (ts'.map V.ref));have RM:RsAt (upd H3 pm (.lst (ts'.map V.ref))) (mnr j R) pm ts':=⟨ze,yZ (fun _ _ ⟨ras,r⟩=>⟨ras,r.mono g4⟩) pr3⟩;generalize upd H3 pm (.lst (ts'.map V.ref))=H4 at *;have g14:=(g2.trans g3).trans g4;refine⟨k,mnr j R,n',pm,ts',rfl,hk,RM,ml,mo,(by omega),(by omega),(fun h=>by have:=n3 h;omega),fun ds ad H5 g5 N5 ld od sds cd=>?_⟩;have g15:=g14.trans g5;have bl:=zas n' ((mnr j R).map fun r=>r.map vG) (by rw[wc];exact ml) (za4 mo);rw[← ld]at bl;have hjr:j<R[0].length:=by omega
  obtain⟨ax,eax,RX⟩:=yU T0.2 (wa hjr);have oX:=o0.2 _ (we hjr);have g05:=g1.trans g15;have hb1:R[0][j].length*ds.length *(1000+sd n'+1)<=2 *(n'+1) *(1000+sd n'+1):=wH _ (ug oX.2.1 bl.2);refine⟨_,rfl,_,rfl,p,_,_,_,rfl,rfl,SqL.of (hR.mono g05).1,zG (j:=0) (by rw[wf,et0];rfl),_,rfl,t0,_,_,_,rfl,rfl,SqL.of (T0.mono g05).1,zG (by rw[wf,eax];rfl),_,rfl,k,R[0][j],ds,1000,sd n',ax,ad,rfl,hk,RX.mono g05,N5.row,oX.2.2.1,od,oX.2.2.2,sds,(by decide),lo,(fun h=>by have:=(bd h).1;unfold sdT1 at this;omega),oX.1,bl.1,(by have:=oX.2.1;omega),(by omega),fun x1 a1 H6 g6 N6 l6 o6 s6 c6=>?_⟩;have g06:=g05.trans g6;refine⟨_,rfl,_,rfl,_,rfl,_,_,rfl,rfl,(by show(2:Int)≠0;decide),_,_,rfl,rfl,yX (by decide) (by decide),_,_,rfl,rfl,k,_,rfl,hk,fun v7 H7 g7 r7=>⟨(by show 1<=sizeLine;decide),fun pl hpl=>?_⟩⟩;have g8:=zf hpl (.lst [v7]);have R8:kai (upd H7 pl (.lst [v7])) [nnum k (1 - 2 *((j:Int).fmod 2))] pl:=⟨[v7],ze,.cons (r7.mono g8) .nil⟩;generalize upd H7 pl (.lst [v7])=H8 at *;have g78:=g7.trans g8;have l61:1<=x1.length:=by have:=oX.1;omega
  have l62:x1.length<=n'+2:=by have:=oX.2.1;omega
  have s6':∀ y∈x1,szk k (sdT1 (sd n') n') y:=fun y hy=>(s6 y hy).mono (by unfold sdT1;omega)
  have hb2:1*x1.length *(61+sdT1 (sd n') n'+1)<=(n'+2) *(61+sdT1 (sd n') n'+1):=wH _ (by omega);refine⟨_,rfl,k,[nnum k (1 - 2 *((j:Int).fmod 2))],x1,61,sdT1 (sd n') n',pl,a1,rfl,hk,R8,N6.row.mono g78,(fun x hx=>by rw[wn.mp hx];exact La.zR hk _),o6,(fun x hx=>by
   rw[wn.mp hx];refine fun _=>yM hk ?_ (by decide)
   have f0:=wp (j:Int) (show(0:Int)<2 by decide);have f1:=wv (j:Int) (show(0:Int)<2 by decide);unfold Sm;have:(2:Nat)^61=2305843009213693952:=by decide
   omega),s6',(by decide),(by unfold sdT1;omega),(fun h=>by have:=(bd h).2.1;unfold sdT2 at this;show 61+1*x1.length*_<=_;omega),(by show 1<=1;decide),l61,(by show 1<=10;decide),(by omega),fun x2 a2 H9 g9 N9 l9 o9 s9 c9=>?_⟩
  have g69:=g78.trans g9;have s9':∀ y∈x2,szk k (sdT2 (sd n') n') y:=fun y hy=>(s9 y hy).mono (by show 61+1*x1.length*_<=_;unfold sdT2;omega)
  have l9':x2.length=R[0][j].length+ds.length - 1:=by rw[l9,l6];show 1+_ - 1=_;omega
  have hb3:j *(sdT2 (sd n') n'+1) +(sdT2 (sd n') n'+1)<=(n'+1) *(sdT2 (sd n') n'+1):=by
   have:(j+1) *(sdT2 (sd n') n'+1)<=(n'+1) *(sdT2 (sd n') n'+1):=wH _ (by omega);rw[vW]at this;exact this
  have g19:=(g15.trans g6).trans g69;have lx1:xs.length<=n'+2:=by
   rw[l1];refine(zaC (lo:=0) (hi:=n'+2) j fun j' hj'=>⟨vN _,?_⟩).2;obtain⟨ml',mo'⟩:=zeh lR (show j'<n'+1 by omega) oR;have b':=zas n' ((mnr j' R).map fun r=>r.map vG) (by rw[wc];exact ml') (za4 mo');rw[zbD];have e0:(R.map fun r=>r.map vG).getD 0 []=R[0].map vG:=by rw[wb,wf,g0R];rfl
   have hj'':j'<R[0].length:=by omega
   have e1:(R[0].map vG).getD j' 0=R[0][j'].length:=by rw[wb,wf,wa hj''];rfl
   rw[e0,e1];have:=(o0.2 _ (we hj'')).2.1;omega
  refine⟨_,rfl,_,rfl,_,rfl,k,xs,x2,61+j *(sdT2 (sd n') n'+1),sdT2 (sd n') n',a,a2,rfl,hk,N1.row.mono g19,N9.row,ox1,o9,sx1,s9',(by omega),(by unfold sdT2;omega),(fun h=>by have b:=bd h;have e:sd (n'+1)=61 +(n'+1) *(sdT2 (sd n') n'+1):=rfl;rw[e]at b;omega),(by omega),(by omega),fun r Hz gz Nz=>?_⟩;have e0:(R.map fun r=>r.map vG).getD 0 []=R[0].map vG:=by rw[wb,wf,g0R];rfl
  have e1:(R[0].map vG).getD j 0=R[0][j].length:=by rw[wb,wf,wa hjr];rfl
  refine⟨ppL k xs x2,r,_,_,rfl,(g1.trans g19).trans gz,⟨Nz.row,(g1.trans g19).none Nz.fa⟩,?_,zhH hk ox1 o9,fun y hy=>?_,fun F _ φ=>?_⟩
  ·have ef:((R.map fun r=>r.map vG).getD 0 []).getD j 0+ldet n' (mnr j (R.map fun r=>r.map vG)) - 1=x2.length:=by rw[e0,e1,zbD,← ld,l9']
   rw[zaG];show max xs.length x2.length=max (lmax _ j) (((R.map fun r=>r.map vG).getD 0 []).getD j 0+ldet n' (mnr j (R.map fun r=>r.map vG)) - 1);rw[ef,l1]
  ·refine(zhG hk (by omega) (by unfold sdT2;omega) ox1 o9 sx1 s9' y hy).mono ?_;rw[vW];omega
  ·show La.pnv φ (ppL k xs x2)=La.csum _ j+_;rw[← nx1 F φ];show La.pnv φ (ppL k xs x2)=La.pnv φ xs+La.sgn j *(((R.map fun r=>r.map fun x=>La.pnv φ x).getD 0 []).getD j 0*La.cdet n' (La.minor j (R.map fun r=>r.map fun x=>La.pnv φ x)));have f0:(R.map fun r=>r.map fun x=>La.pnv φ x).getD 0 []=R[0].map fun x=>La.pnv φ x:=by rw[wb,wf,g0R];rfl
   have f1:(R[0].map fun x=>La.pnv φ x).getD j 0=La.pnv φ R[0][j]:=by rw[wb,wf,wa hjr];rfl
   have f2:La.minor j (R.map fun r=>r.map fun x=>La.pnv φ x) =(mnr j R).map fun r=>r.map fun x=>La.pnv φ x:=zf9 (fun x=>La.pnv φ x) j R
   rw[f0,f1,f2,← cd F φ,← zhn hk φ j,← zfC]
   funext m
   show La.nv φ (ppL k xs x2) m=La.nv φ xs m+La.pmu m (La.pnv φ _) (fun i=>La.pmu i (La.nv φ R[0][j]) (La.nv φ ds));rw[zgS hk ox1 o9 φ m,c9 F φ m];have e6:La.nv φ x1=fun i=>La.pmu i (La.nv φ R[0][j]) (La.nv φ ds):=funext fun i=>c6 F φ i
   rw[e6]
   rfl
 ·rintro σ H1 ⟨xs,a,o3,o4,rfl,g1,N1,l1,ox1,sx1,nx1⟩
  exact⟨_,rfl,q xs a H1 g1 N1 l1 ox1 sx1 fun F _ φ=>nx1 F φ⟩
theorem zcp(k:Int)(M:TB)(i j:Nat):(La.grRow k M i j).length=if i=j then 2 else 1:=by unfold La.grRow;split <;> rfl
def shp(n:Nat):List (List Nat):=(wZ n).map fun i=>(wZ n).map fun j=>if i=j then 2 else 1
theorem zea(k:Int)(M:TB)(n:Nat):((La.grR k M n).map fun r=>r.map vG)=shp n:=by
 unfold La.grR shp;rw[vq];refine wW fun i _=>?_
 show((wZ n).map _).map vG=_;rw[vq];exact wW fun j _=>zcp k M i j
theorem zeS:∀ n,n<=4->ldet n (shp n)=n+1:=by decide
theorem zeB{k:Int}(hk:kab k){n:Nat}{M:TB}(oM:TOk k n n 900 M){i j:Nat}(hi:i<n)(hj:j<n):PolyOk k (La.grRow k M i j):=by
 obtain⟨r,hr,rr⟩:=oM.get hi;have hj':j<r.length:=by rw[rr.len];exact hj
 have e:(M.getD i []).getD j (.z 0)=r[j]:=by rw[show M.getD i []=r by rw[wb,hr];rfl,wb,wa hj'];rfl
 have o:=rr.ok _ (we hj');have s:=rr.sz _ (we hj');have on:=La.zR hk 0;have kl:=hk.lt;have os:(nsub k (nnum k 0) r[j]).ok k:=Jm (by omega) on o;have ss:szk k 1000 (nsub k (nnum k 0) r[j]):=(zey on o (fun _=>yM hk (xh 61) (by decide)) (fun _=>s)).mono (by decide);unfold La.grRow;rw[e]
 split
 ·refine⟨by show 1<=2;decide,wl _,fun x hx=>?_,fun x hx=>?_⟩
  all_goals rcases wy.mp hx with e|e
  ·rw[e];exact os
  ·rw[wn.mp e];exact La.zR hk 1
  ·rw[e];exact ss
  ·rw[wn.mp e];exact fun _=>yM hk (sm_one.mono (by decide)) (by decide)
 ·refine⟨wl _,by show 1<=2;decide,fun x hx=>?_,fun x hx=>?_⟩
  ·rw[wn.mp hx];exact os
  ·rw[wn.mp hx];exact ss
def zae:Sp:=fun vs H Q _=>∃(k:Int)(M:TB)(n:Nat)(t:Addr)(ras:List Addr),vs=[.int k,.ref t]/\kab k/\kah H M t ras/\TOk k n n 900 M/\1<=n/\n<=4/\(k=0->n<=3) /\
 ∀ xs p H',Same H H'->kai H' xs p->xs.length=n+1->La.OkR k xs->La.GrP k n M xs->Q (.ref p) H'
theorem zdv (D:Df K mg "_law_great" SS ji) (Ye:Kn P w K mg base "_law_det" 51 SR (za8 5)) (zM:Kn P w K mg base "_law_make" 1 Sy xE) (xF:Kn P w K mg base "_law_minus" 43 Sz Zf) (zi:mg "range" = none) (m_len:mg "len" = none) (m_int:mg "int" = none):Kn P w K mg base "_law_great" 52 SS zae:=by
 refine D.kn sX (fun vs H Q E h=>?_) (fun f cdv A outer s H vs Q E hr h=>?_)
 ·obtain⟨k,M,n,t,ras,rfl,_⟩:=h;rfl
 obtain⟨k,M,n,t,ras,rfl,hk,hT,oM,n1,n4,n3,q⟩:=h;have szl:=SV
 have lr:=zj hT.2;rw[oM.len]at lr;refine⟨_,(zc (zk (i:=2) sX.nd rfl (.inl rfl) (yn zb)) (zc (yw PassesOwn.never rfl (zF rfl zi (za (zy zJ rfl m_len ym (za (pv 1) zb)) zb)) (zt (i:=3) sX.nd rfl (.inl rfl)) (zc (zk (i:=4) sX.nd rfl (.inl rfl) (yn zb)) (zc (yw PassesOwn.never rfl (zF rfl zi (za (zy zJ rfl m_len ym (za (pv 1) zb)) zb)) (zt (i:=5) sX.nd rfl (.inl rfl)) (zc (zk (i:=6) sX.nd rfl (.inl rfl) (zu xF hr (za (pv 0) (za (zu zM hr (za (pv 0) (za zd zb))) (za (zD zw (zD zw (pv 1) (pv 3)) (pv 5)) zb))))) (zg (xI (bm0 (fun _ h=>Xu PySem.F.plainAttrs_list PySem.F.slot_list_append PySem.F.type_list_append yN h (za (zh qW (yn (za (pv 6) zb)) (xK ["_law_prime_here"] [0] (zF rfl zi (za (xa Zd rfl m_int zah (za (xb xX (pv 3) (pv 5) (kae _)) zb)) zb)) fun _ _ _ _ _ _=>⟨zI,(zu zM hr (za (pv 1) (za zd zb)))⟩)) zb)) (pv 4)))))) (zg (xI (bm0 (fun _ h=>Xu PySem.F.plainAttrs_list PySem.F.slot_list_append PySem.F.type_list_append yN h (za (pv 4) zb)) (pv 2))))))) (zg (zo (yB xq (zu Ye hr (za (pv 0) (za (pv 2) zb))) xt (yW (zh ye (zy zJ rfl m_len ym (za (pv 1) zb)) zd))))))),?_⟩;refine⟨(by show 0<=sizeLine;decide),fun pt hpt=>?_⟩;have g0:=zf hpt (.lst []);refine⟨_,rfl,t,_,rfl,.inl (SqL.of (g0 _ _ hT.1)),_,rfl,(by omega),(by rw[wc,← lr];omega),?_⟩;rw[wJ,wc,← lr];have lG:(La.grR k M n).length=n:=by unfold La.grR;simp
 refine yv (lo:=0) (n:=n) (fun i σ H'=>∃ ts rs o3 o4 o5 o6,σ=[some (.int k),some (.ref t),some (.ref pt),o3,o4,o5,o6]/\kaf H H' ((La.grR k M n).take i) ts rs/\H' pt=some (.lst (ts.map V.ref))/\pt∉ts/\(∀ ras∈rs,pt∉ras)) ⟨[],[],none,none,none,none,rfl,kaf.nil g0,ze,by simp,fun r hr=>(nomatch hr)⟩ ?_ ?_
 ·rintro i σ H1 hi ⟨ts,rs,o3,o4,o5,o6,rfl,G1,ht1,nt1,nr1⟩
  rw[vt];refine⟨(by show 0<=sizeLine;decide),fun pw hpw=>?_⟩;have g2:=zf hpw (.lst []);have g02:=G1.same.trans g2;refine⟨_,rfl,t,_,rfl,.inl (SqL.of (g02 _ _ hT.1)),_,rfl,(by omega),(by rw[wc,← lr];omega),?_⟩;rw[wJ,wc,← lr];obtain⟨row,hrow,rrow⟩:=oM.get hi;have eRow:(La.grR k M n)[i]?=some ((wZ n).map fun j=>La.grRow k M i j):=by unfold La.grR;rw[wf,ve hi];rfl
  have lRow:((wZ n).map fun j=>La.grRow k M i j).length=n:=by simp
  refine yv (lo:=0) (n:=n) (fun j σ H'=>∃ qs o5 o6,σ=[some (.int k),some (.ref t),some (.ref pt),some (.int (i:Int)),some (.ref pw),o5,o6]/\Grow H1 H' (((wZ n).map fun j=>La.grRow k M i j).take j) qs/\H' pw=some (.lst (qs.map V.ref))/\pw∉qs) ⟨[],o5,o6,rfl,Grow.nil H1 g2,ze,by simp⟩ ?_ ?_
  ·rintro j σ H3 hj ⟨qs,o5,o6,rfl,G3,hw3,nw3⟩
   rw[vt];have g03:=G1.same.trans G3.same;have T3:=hT.mono g03;obtain⟨ar,ear,RR⟩:=yU T3.2 hrow;obtain⟨us,hus,pus,lus⟩:=RR.len;have hj':j<row.length:=by rw[rrow.len];exact hj
   obtain⟨vx,evx,rvx⟩:=yU pus (wa hj');have ox:=rrow.ok _ (we hj');have sx:=rrow.sz _ (we hj');have ex:(M.getD i []).getD j (.z 0)=row[j]:=by rw[show M.getD i []=row by rw[wb,hrow];rfl,wb,wa hj'];rfl
   refine⟨_,rfl,_,rfl,k,0,rfl,hk,fun v4 H4 g4 r4=>?_⟩;have T4:=T3.mono g4;refine⟨_,rfl,_,rfl,t,_,_,_,rfl,rfl,SqL.of T4.1,zG (by rw[wf,ear];rfl),_,rfl,ar,_,_,_,rfl,rfl,SqL.of (g4 _ _ hus),zG evx,k,nnum k 0,row[j],_,_,rfl,hk,La.zR hk 0,ox,yM hk (xh _) (by decide),sx.mono (by decide),r4,rvx.mono g4,fun v5 H5 g5 r5=>?_⟩;have g35:=g4.trans g5;have hw5:=g35 _ _ hw3;refine⟨_,rfl,.inl ⟨rfl,_,SqL.of hw5⟩,_,rfl,(by show 1<=sizeLine;decide),fun pa hpa=>?_⟩;have g6:=zf hpa (.lst [v5]);have ea:upd H5 pa (.lst [v5]) pa=some (.lst [v5]):=ze;have r6:=r5.mono g6;generalize upd H5 pa (.lst [v5])=H6 at *;refine⟨_,rfl,_,rfl,rfl,.inr ⟨_,rfl,_,rfl,(by split <;> omega),(by split <;> omega),?_⟩⟩;have ec:(if decide (V.int (i:Int)=V.int (j:Int))=true then(1:Int)else 0).toNat=if i=j then 1 else 0:=by
    by_cases c:i=j
    ·rw[if_pos c,c,decide_eq_true rfl];rfl
    ·rw[if_neg c,decide_eq_false (fun z=>c (by have:=V.int.inj z;omega))];rfl
   rw[ec];refine zZ (lo:=0) (n:=if i=j then 1 else 0) (fun l ys H'=>Same H6 H'/\Paired (RN H') (ww l (nnum k 1)) ys) ⟨Same.refl _,.nil⟩ ?_ ?_ ?_
   ·rintro l ys H' hl ⟨g,pr⟩
    have:=zj pr;rw[vh]at this
    split at hl <;> omega
   ·rintro l ys H' hl ⟨g,pr⟩
    first|refine gyes ?_|refine tyes ?_
    refine⟨_,rfl,k,1,rfl,hk,fun v H2 g2 r2=>nxt hl ⟨g.trans g2,?_⟩⟩;rw[ux];exact yu (yz g2 pr) r2
   rintro ys H7 ⟨g7,pr7⟩ pb hpb
   have g8:=zf hpb (.lst ys);have g78:=g7.trans g8;have ea8:=g78 _ _ ea;have lys:=zj pr7;rw[vh]at lys;have l1:ys.length<=1:=by rw[← lys];split <;> omega
   refine⟨pa,pb,_,_,rfl,rfl,ea8,ze,(by show 1+ys.length<=sizeLine;omega),fun pc hpc=>?_⟩;have g38:=(g35.trans g6).trans g78;have hw8:=g38 _ _ hw3;have pr8:Paired (RN (upd H7 pb (.lst ys))) (La.grRow k M i j) ([v5]++ys):=by
    have e:La.grRow k M i j=[nsub k (nnum k 0) row[j]]++ww (if i=j then 1 else 0) (nnum k 1):=by
     unfold La.grRow;rw[ex]
     split <;> rfl
    rw[e];exact Zi (.cons (r6.mono g78) .nil) (yz g8 pr7)
   have lqs:=zj G3.rows;rw[wj]at lqs;have npc:pw≠pc:=fun e=>by rw[← e,hw8]at hpc;cases hpc
   refine⟨pw,_,_,rfl,rfl,(by rw[zH npc];exact hw8),(by rw[wc];omega),?_⟩;obtain⟨G9,n9⟩:=G3.push (zs':=(qs.map V.ref)++[.ref pc]) hpw hw3 nw3 g38 hpc pr8;refine⟨qs++[pc],_,_,rfl,?_,?_,n9⟩
   ·rw[zr (x:=La.grRow k M i j) (by rw[wf,ve hj];rfl)];exact G9
   ·rw[ze,wt];rfl
  ·rintro σ H3 ⟨qs,o5,o6,rfl,G3,hw3,nw3⟩
   rw[wg (by omega)]at G3;have N3:NewT H1 H3 ((wZ n).map fun j=>La.grRow k M i j) pw qs:=⟨⟨hw3,G3.rows⟩,hpw,G3.fr,G3.nd,nw3⟩;have ht3:=G3.same _ _ ht1;have lts:=G1.lt;rw[wj]at lts;refine⟨_,rfl,.inl ⟨rfl,_,SqL.of ht3⟩,_,rfl,pt,_,_,rfl,rfl,ht3,(by rw[wc];omega),?_⟩;have nt6:pt≠pw:=fun e=>by rw[← e,ht1]at hpw;cases hpw
   have nr6:pt∉qs:=fun hm=>by have:=G3.fr _ hm;rw[ht1]at this;cases this
   have nts:pt∉ts++[pw]:=fun hm=>by
    rcases wo.mp hm with h|h
    ·exact nt1 h
    ·exact nt6 (wn.mp h)
   have nrs:∀ ras∈rs++[qs],pt∉ras:=fun ras hm=>by
    rcases wo.mp hm with h|h
    ·exact nr1 ras h
    ·rw[wn.mp h];exact nr6
   have G6:=G1.push G3.same N3;rw[← zr eRow]at G6;refine⟨ts++[pw],rs++[qs],_,_,_,_,rfl,G6.updAt hpt ht3 nts nrs,?_,nts,nrs⟩;rw[ze,wt];rfl
 ·rintro σ H1 ⟨ts,rs,o3,o4,o5,o6,rfl,G1,ht1,nt1,nr1⟩
  rw[wg (by omega)]at G1;have RR:RsAt H1 (La.grR k M n) pt ts:=⟨ht1,Xr (by rw[G1.lt]) fun i M' t' h1 h2=>by
   obtain⟨M2,t2,ras2,f1,f2,f3,f4⟩:=G1.get (wm.mp h1).1;rw[h1]at f1;rw[h2]at f2;cases f1;cases f2;exact⟨ras2,f4⟩⟩
  have oR:∀ r∈La.grR k M n,r.length=n/\∀ x∈r,PolyOk k x:=fun r hr=>by
   unfold La.grR at hr;obtain⟨i,hi,rfl⟩:=wk.mp hr;refine⟨by simp,fun x hx=>?_⟩;obtain⟨j,hj,rfl⟩:=wk.mp hx;exact zeB hk oM (vI.mp hi) (vI.mp hj)
  refine⟨_,rfl,_,rfl,k,La.grR k M n,n,pt,ts,rfl,hk,RR,lG,oR,(by omega),n4,n3,fun xs a H2 g2 N2 l2 ox2 sx2 c2=>?_⟩;rw[zea,zeS n n4]at l2;have g02:=G1.same.trans g2;obtain⟨us,hus,pus,lus⟩:=N2.row.len;refine⟨_,rfl,t,_,rfl,.inl (SqL.of (g02 _ _ hT.1)),_,_,rfl,rfl,_,rfl,a,_,rfl,SqL.of hus,fun p3 hp3=>?_⟩;rw[wc,← lr,show(n:Int)+1 =((n+1:Nat):Int) by omega,XO,wg (by omega)];have g3:=zf hp3 (.lst us);exact q xs p3 _ (g02.trans g3) ⟨us,ze,yz g3 pus⟩ l2 ox2 fun F _ φ j=>by
   have:=congrFun (c2 F φ) j;rw[La.zgs φ hk n1 n4 oM.len oM.ok]at this;exact this
def zfH:Sp:=fun vs H Q _=>∃(k:Int)(M:TB)(n:Nat)(t:Addr)(ras:List Addr),vs=[.int k,.ref t]/\kab k/\kah H M t ras/\La.OkM k n M/\(∀ r∈M,∀ x∈r,nsm 1000000 x)/\n<=100/\M.length<=100 /\
 ∀ t' ras' H',Same H H'->NewT H H' (ngT k n M) t' ras'->Q (.ref t') H'
theorem zg5 (D:Df K mg "negative" SC qC) (qb:Kn P w K mg base "difference" 43 Sl zaQ) (zcr:Kn P w K mg base "noughts" 2 Sr XT) (m_len:mg "len" = none):Kn P w K mg base "negative" 44 SC zfH:=by
 refine D.kn zaK (fun vs H Q E h=>?_) (fun f cdv A' outer s' H vs Q E hr h=>?_)
 ·obtain⟨k,M,n,t,ras,rfl,_⟩:=h;rfl
 obtain⟨k,M,n,t,ras,rfl,hk,hT,oM,sM,n100,m100,q⟩:=h;have szl:=SV
 obtain⟨oz,lz⟩:=zdQ hk n;refine⟨_,(zg (zo (xK ["kind"] [0] (zV (pv 1)) fun _ _ _ _ _ _=>⟨zI,(zu qb hr (za (pv 1) (za (zu zcr hr (za (pv 1) (za (zy zJ rfl m_len ym (za (pv 0) zb)) zb))) (za (pv 0) zb))))⟩))),?_⟩;refine⟨_,rfl,t,rfl,⟨_,SqL.of hT.1⟩,?_⟩;have hl:=zj hT.2;refine yt (xs:=ras.map V.ref) (fun i ys H'=>∃ ras2,ys=ras2.map V.ref/\Grow H H' ((ngT k n M).take i) ras2) ⟨[],rfl,Grow.nil H (Same.refl H)⟩ ?_ ?_ ?_
 ·rintro i ys H' hi ⟨ras2,rfl,G⟩
  refine⟨SqL.of (G.same _ _ hT.1),?_⟩;have:=zj G.rows;unfold ngT at this;rw[wj,wc]at this;rw[wc];omega
 ·rintro i v ys H' hv hi ⟨ras2,rfl,G⟩
  obtain⟨row,a,hrow,ha,rfl,hR⟩:=(hT.mono G.same).row hv;obtain⟨us,hu,pu,lu⟩:=hR.len;have o:=oM row (wd hrow)
  first|refine gyes ?_|refine tyes ?_
  refine⟨_,rfl,_,rfl,_,rfl,a,_,rfl,.inl (SqL.of hu),?_⟩;rw[lu,o.1];refine⟨k,n,rfl,by omega,fun v0 pz H1 g1 r0 hz fz=>?_⟩;have hz':kai H1 (zerN k n) pz:=⟨_,hz,zdE r0 n⟩;refine⟨_,rfl,k,zerN k n,row,pz,a,rfl,hk,hz',hR.mono g1,oz,o.2,lz.trans o.1.symm,by omega,(fun x hx=>by rw[vL hx];exact yM hk ((show Sm 80 0 by unfold Sm;decide).mono (by decide)) (by decide)),(fun x hx=>(sM row (wd hrow) x hx).mono (by decide)),fun p H2 g2 N2=>?_⟩;refine nxt hi ⟨ras2++[p],by rw[wt];rfl,?_⟩;have e:(ngT k n M)[i]?=some (subR k (zerN k n) row):=by unfold ngT;rw[wf,hrow];rfl
  rw[zr e];exact G.snocR (g1.trans g2) N2.row (g1.none N2.fa)
 ·rintro ys H' ⟨ras2,rfl,G⟩ t' ht'
  rw[wc,wg (by unfold ngT;rw[wc];omega)]at G;exact q t' ras2 _ (G.same.trans (zf ht' _)) (G.done ht')
def zfj:Sp:=fun vs H Q _=>∃(k:Int)(A B C Fr Lw:TB)(n h s:Nat)(pm ta tb tc tf tl:Addr)(ra rb rc rf rl:List Addr),vs=[.int k,.ref pm,.ref tf,.ref tl]/\kab k/\MachAt H A B C pm ta tb tc ra rb rc/\kah H Fr tf rf/\kah H Lw tl rl/\MOk k n h s 80 A B C/\TOk k h n 80 Fr/\TOk k n s 80 Lw/\1<=n/\n<=4/\1<=h/\h<=4/\1<=s/\s<=4 /\
 ∀ t ras H',Same H H'->kah H' (ptT k n A B C Fr Lw) t ras->Q (.ref t) H'
theorem zht (D:Df K mg "put_together" ST xD) (Zx:Kn P w K mg base "product" 45 Sl ZP) (zbV:Kn P w K mg base "negative" 44 SC zfH) (zgh:Kn P w K mg base "ruled" 46 Su zbu) (qb:Kn P w K mg base "difference" 43 Sl zaQ) (Xk:Kn P w K mg base "abreast" 1 Sh ZC) (m_zip:mg "zip" = none):Kn P w K mg base "put_together" 47 ST zfj:=by
 refine D.kn sH (fun vs H Q E h=>?_) (fun f cdv A' outer s' H vs Q E hr h=>?_)
 ·obtain⟨k,A,B,C,Fr,Lw,n,h,s,pm,ta,tb,tc,tf,tl,ra,rb,rc,rf,rl,rfl,_⟩:=h;rfl
 obtain⟨k,A,B,C,Fr,Lw,n,h,s,pm,ta,tb,tc,tf,tl,ra,rb,rc,rf,rl,rfl,hk,hM,hF,hL,oM,oF,oL,n1,n4,h1,h4,s1,s4,q⟩:=h;have szl:=SV
 have z1:(h+2)*80<=20000000:=vp (wH _ (show h+2<=6 by omega)) (by decide);have z2:(s+2)*80<=20000000:=vp (wH _ (show s+2<=6 by omega)) (by decide);have z3:(n+h+2)*80<=20000000:=vp (wH _ (show n+h+2<=10 by omega)) (by decide);have tG:=jl hk (by decide) oM.b oF;have tL:=jl hk (by decide) oL oM.c;have oAB:=JR oM.a oM.b;have oI:=zaL ((Qe hk n).up (show 61<=80 by decide)) oF;have tR:TOk k n n (61 +(n+h) *(80+80+1)) (rulM k n A B Fr):=jl hk (by decide) oAB oI;have bL:61+s *(80+80+1)<=1000000:=by omega
 have bR:61 +(n+h) *(80+80+1)<=60000000:=by omega
 obtain⟨oz,lz⟩:=zdQ hk n;have oN:La.OkM k n (ngT k n (kad k n Lw C)):=fun r hr=>by
  obtain⟨x,hx,rfl⟩:=wk.mp hr;have o:=tL.ok x hx;exact⟨(ZX hk (lz.trans o.1.symm)).trans lz,JM hk oz o.2⟩
 have sN:∀ r∈ngT k n (kad k n Lw C),∀ x∈r,nsm 60000000 x:=fun r hr y hy=>by
  obtain⟨x,hx,rfl⟩:=wk.mp hr;have o:=tL.ok x hx;unfold subR at hy;obtain⟨i,hi,e⟩:=wV hy;rw[vy]at e;rw[wr]at hi;have m1:=we (l:=zerN k n) (n:=i) (by omega);have m2:=we (l:=x) (n:=i) (by omega);rw[← e];exact(zdV hk (oz _ m1) (o.2 _ m2) (yM hk (show Sm 1000000 0 from xh _) (by decide) |> fun h=>by rw[vL m1];exact h) ((tL.sz x hx _ m2).mono bL) (by decide)).mono (by decide)
 have lN:(ngT k n (kad k n Lw C)).length=n:=by unfold ngT;rw[wc];exact tL.len
 refine⟨_,(zc (zk (i:=4) sH.nd rfl (.inl rfl) (zu Zx hr (za (pv 0) (za (zD zE (pv 1) zd) (za (pv 2) zb))))) (zc (zk (i:=5) sH.nd rfl (.inl rfl) (zu zbV hr (za (pv 0) (za (zu Zx hr (za (pv 0) (za (pv 3) (za (zD zE (pv 1) zd) zb)))) zb)))) (zc (zk (i:=6) sH.nd rfl (.inl rfl) (zu zgh hr (za (pv 0) (za (pv 1) (za (pv 2) zb))))) (zc (zcs (i:=7) sH.nd rfl rfl ["left", "right"] ["kind"] [0] ⟨rfl,rfl,rfl,rfl,rfl,rfl,by decide +kernel⟩ rfl (jN rfl m_zip (za (pv 5) (za (pv 6) zb))) (jc (zX (yb (by decide)) zY (zX (yb (by decide)) zY xG))) fun _ _ _ _ _ _=>⟨(xJ 2 rfl (zK (zt (i:=0) (by decide:(["left", "right", "kind"]:List Str).Nodup) rfl (by first|exact Or.inl rfl|exact Or.inr rfl)) (zK (zt (i:=1) (by decide:(["left", "right", "kind"]:List Str).Nodup) rfl (by first|exact Or.inl rfl|exact Or.inr rfl)) xp))),zI,(zh qW (pv 0) (zu qb hr (za (pv 2) (za (pv 1) (za (pv 0) zb)))))⟩) (zg (zo (zh qW (zu Xk hr (za (zD zE (pv 1) zd) (za (pv 4) zb))) (pv 7)))))))),?_⟩;refine⟨_,rfl,_,rfl,pm,_,_,.ref tb,rfl,rfl,SqT.of hM.tup,rfl,_,rfl,k,B,Fr,h,n,80,tb,tf,rb,rf,rfl,hk,hM.b,hF,oM.b.ok,oF.ok,oF.len,by omega,oM.b.sz,oF.sz,by decide,z1,by omega,(by rw[oM.b.len];omega),fun tg rg H1 g1 NG=>?_⟩;have hM1:=hM.mono g1;have hL1:=hL.mono g1;refine⟨_,rfl,_,rfl,_,rfl,_,rfl,pm,_,_,.ref tc,rfl,rfl,SqT.of hM1.tup,rfl,k,Lw,C,s,n,80,tl,tc,rl,rc,rfl,hk,hL1,hM1.c,oL.ok,oM.c.ok,oM.c.len,by omega,oL.sz,oM.c.sz,by decide,z2,by omega,(by rw[oL.len];omega),fun tp rp H2 g2 NP=>?_⟩;refine⟨k,kad k n Lw C,n,tp,rp,rfl,hk,NP.tab,tL.ok,(fun r hr x hx=>(tL.sz r hr x hx).mono bL),by omega,(by rw[tL.len];omega),fun tn rn H3 g3 NN=>?_⟩;have g13:=g2.trans g3;have hM3:=hM1.mono g13;have hF3:=(hF.mono g1).mono g13;refine⟨_,rfl,_,rfl,_,rfl,k,A,B,C,Fr,n,h,s,80,pm,ta,tb,tc,tf,ra,rb,rc,rf,rfl,hk,hM3,hF3,oM,oF,n1,by omega,by decide,z3,fun ti ri H4 g4 NI=>?_⟩;have hN4:=NN.tab.mono g4;have l1:=zj hN4.2;rw[lN]at l1;have l2:=zj NI.tab.2;rw[tR.len]at l2;have lb:(blT k (ngT k n (kad k n Lw C)) (rulM k n A B Fr)).length=n:=by unfold blT;rw[wr,lN,tR.len];omega
 refine⟨_,rfl,_,rfl,tn,ti,_,_,rfl,SqL.of hN4.1,SqL.of NI.tab.1,?_⟩;refine jP (xs:=rn.map V.ref) (zs:=ri.map V.ref) (by rw[wc,wc];omega) (fun i ys H'=>∃ ras,ys=ras.map V.ref/\Grow H4 H' ((blT k (ngT k n (kad k n Lw C)) (rulM k n A B Fr)).take i) ras) ⟨[],rfl,Grow.nil H4 (Same.refl H4)⟩ ?_ ?_ ?_
 ·rintro i ys H' hi ⟨ras,rfl,G⟩
  refine⟨SqL.of (G.same _ _ hN4.1),SqL.of (G.same _ _ NI.tab.1),?_⟩;have:=zj G.rows;rw[wj]at this;rw[wc]at hi ⊢;omega
 ·rintro i x z T ys H' hx' hz' hi hT ⟨ras,rfl,G⟩
  have g':=zf hT (.tup [x,z]);have G1:=G.mono g';obtain⟨row,a,hrow,ha,rfl,hR⟩:=(hN4.mono G1.same).row hx';obtain⟨row2,a2,hrow2,ha2,rfl,hR2⟩:=(NI.tab.mono G1.same).row hz';obtain⟨us1,hu1,pu1,lu1⟩:=hR.len;have mr:=wd hrow;have o1:=oN row mr;have o2:=tR.row (wd hrow2);have lo2:=o2.len;refine⟨T,_,rfl,SqT.of ze,rfl,_,_,rfl,_,_,rfl,rfl,?_⟩;generalize upd H' T (.tup [.ref a,.ref a2])=H5 at *
  first|refine gyes ?_|refine tyes ?_
  refine⟨_,rfl,_,rfl,_,rfl,_,rfl,k,row2,row,a2,a,rfl,hk,hR2,hR,o2.ok,o1.2,lo2.trans o1.1.symm,by omega,(fun y hy=>(o2.sz y hy).mono bR),sN row mr,fun pd H6 g6 ND=>?_⟩;obtain⟨us2,hu2,pu2,lu2⟩:=ND.row.len;have ls:=(ZX hk (lo2.trans o1.1.symm)).trans lo2;refine⟨a,pd,us1,us2,rfl,rfl,g6 _ _ hu1,hu2,(by rw[lu1,lu2,o1.1,ls];omega),fun p hp=>nxt hi ⟨ras++[p],by rw[wt];rfl,?_⟩⟩;have e:(blT k (ngT k n (kad k n Lw C)) (rulM k n A B Fr))[i]?=some (row++subR k row2 row):=by unfold blT;rw[vH,hrow,hrow2]
  rw[zr e];exact(G1.mono g6).snoc hp (Zi (yz g6 pu1) pu2)
 ·rintro ys H5 ⟨ras,rfl,G⟩ pb hpb
  rw[wc,wg (by omega)]at G;have NB:=G.done hpb;have g5:=G.same.trans (zf hpb (.lst (ras.map V.ref)));generalize upd H5 pb (.lst (ras.map V.ref))=H6 at *;have g16:=(g13.trans g4).trans g5;have hM6:=hM1.mono g16;have hG6:=NG.tab.mono g16;refine⟨_,rfl,pm,_,_,.ref ta,rfl,rfl,SqT.of hM6.tup,rfl,_,rfl,A,kad k n B Fr,n,n,ta,tg,ra,rg,rfl,hM6.a,hG6,oM.a.len.trans tG.len.symm,(fun r hr=>(oM.a.ok r hr).1),(fun r hr=>(tG.ok r hr).1),by omega,(by rw[oM.a.len];omega),fun tu ru H7 g7 NU=>?_⟩;have hB7:=NB.tab.mono g7;have lu:=zj NU.tab.2;have lu':(augM A (kad k n B Fr)).length=n:=by unfold augM;rw[wr,oM.a.len,tG.len];omega
  rw[lu']at lu;have lbb:=zj hB7.2;rw[lb]at lbb;refine⟨_,rfl,tu,pb,_,_,rfl,rfl,NU.tab.1,hB7.1,(by rw[wc,wc];omega),fun pr hpr=>?_⟩;exact q pr (ru++ras) _ ((g1.trans (g16.trans g7)).trans (zf hpr _)) (zde NU.tab hB7 hpr)
def zaB:Sp:=fun vs H Q _=>∃(k:Int)(xs ys:List Nb)(a b:Addr),vs=[.int k,.ref a,.ref b]/\kab k/\kai H xs a/\kai H ys b/\La.OkR k xs/\La.OkR k ys/\xs.length=ys.length/\xs.length<=1000/\(∀ x∈xs,nsm 60000000 x)/\(∀ x∈ys,nsm 60000000 x) /\
 ∀ p H',Same H H'->NewR H H' (La.addR k xs ys) p->Q (.ref p) H'
theorem zfO (D:Df K mg "_law_sum" Sz qI) (yh:Kn P w K mg base "_law_plus" 42 Sz (jo nadd)) (m_zip:mg "zip" = none):Kn P w K mg base "_law_sum" 43 Sz zaB:=by
 refine D.kn zap (fun vs H Q E h=>?_) (fun f cdv A outer s H vs Q E hr h=>?_)
 ·obtain⟨k,xs,ys,a,b,rfl,_⟩:=h;rfl
 obtain⟨k,xs,ys,a,b,rfl,hk,hx,hy,ox,oy,lxy,l1000,sx,sy,q⟩:=h;have szl:=SV
 obtain⟨us1,hu1,pu1,lu1⟩:=hx.len;obtain⟨us2,hu2,pu2,lu2⟩:=hy.len;have ls:(La.addR k xs ys).length=xs.length:=La.xO lxy;refine⟨_,(zg (zo (qq ["_law_x", "_law_y"] ["_law_prime_here"] [0] ⟨rfl,rfl,rfl,rfl,rfl,rfl,by decide +kernel⟩ rfl (jN rfl m_zip (za (pv 1) (za (pv 2) zb))) (jc (zX (yb (by decide)) zY (zX (yb (by decide)) zY xG))) fun _ _ _ _ _ _=>⟨(xJ 2 rfl (zK (zt (i:=0) (by decide:(["_law_x", "_law_y", "_law_prime_here"]:List Str).Nodup) rfl (by first|exact Or.inl rfl|exact Or.inr rfl)) (zK (zt (i:=1) (by decide:(["_law_x", "_law_y", "_law_prime_here"]:List Str).Nodup) rfl (by first|exact Or.inl rfl|exact Or.inr rfl)) xp))),zI,(zu yh hr (za (pv 2) (za (pv 0) (za (pv 1) zb))))⟩))),?_⟩;refine⟨_,rfl,_,rfl,a,b,us1,us2,rfl,SqL.of hu1,SqL.of hu2,?_⟩;refine jP (xs:=us1) (zs:=us2) (by omega) (fun j ys' H'=>Same H H'/\Paired (RN H') ((La.addR k xs ys).take j) ys') ⟨Same.refl _,.nil⟩ ?_ ?_ ?_
 ·rintro j ys' H' hj ⟨g,pr⟩
  refine⟨SqL.of (g _ _ hu1),SqL.of (g _ _ hu2),?_⟩;have:=zj pr;rw[wj]at this;omega
 ·rintro j x z T ys' H' hx' hz hj hT ⟨g,pr⟩
  obtain⟨nx,ex,rx⟩:=zU pu1 hx';obtain⟨nz,ez,rz⟩:=zU pu2 hz;have gN:=zf hT (.tup [x,z]);have gT:=g.trans gN;refine⟨T,_,rfl,SqT.of ze,rfl,_,_,rfl,_,_,rfl,rfl,?_⟩;generalize upd H' T (.tup [x,z])=H2 at *
  first|refine gyes ?_|refine tyes ?_
  refine⟨_,rfl,_,rfl,_,rfl,k,nx,nz,x,z,rfl,⟨hk,ox nx (wd ex),oy nz (wd ez),sx nx (wd ex),sy nz (wd ez),rx.mono gT,rz.mono gT⟩,fun v H3 g3 r3=>nxt hj ⟨gT.trans g3,?_⟩⟩;have e:(La.addR k xs ys)[j]?=some (nadd k nx nz):=La.zbx ex ez;rw[zr e];exact yu (yz (gN.trans g3) pr) r3
 ·rintro ys' H' ⟨g,pr⟩ p hp
  rw[wg (by omega)]at pr;have g2:=zf hp (.lst ys');exact q p _ (g.trans g2) ⟨⟨ys',ze,yz g2 pr⟩,g.none hp⟩
def zbG:Sp:=fun vs H Q _=>∃(k:Int)(M N:TB)(n:Nat)(ta tb:Addr)(ra rb:List Addr),vs=[.int k,.ref ta,.ref tb]/\kab k/\kah H M ta ra/\kah H N tb rb/\La.OkM k n M/\La.OkM k n N/\M.length=N.length/\n<=1000/\M.length<=1000/\(∀ r∈M,∀ x∈r,nsm 60000000 x)/\(∀ r∈N,∀ x∈r,nsm 60000000 x) /\
 ∀ t ras H',Same H H'->kah H' (adT k M N) t ras->Q (.ref t) H'
theorem zer (D:Df K mg "_law_table_sum" Sz yT) (jy:Kn P w K mg base "_law_sum" 43 Sz zaB) (m_zip:mg "zip" = none):Kn P w K mg base "_law_table_sum" 44 Sz zbG:=by
 refine D.kn ZR (fun vs H Q E h=>?_) (fun f cdv A' outer s' H vs Q E hr h=>?_)
 ·obtain⟨k,M,N,n,ta,tb,ra,rb,rfl,_⟩:=h;rfl
 obtain⟨k,M,N,n,ta,tb,ra,rb,rfl,hk,hM,hN,oM,oN,lMN,n1000,m1000,sM,sN,q⟩:=h;have szl:=SV
 have lT:(adT k M N).length=M.length:=by unfold adT;rw[wr];omega
 have l1:=zj hM.2;have l2:=zj hN.2;refine⟨_,(zg (zo (qq ["_law_row", "_law_more"] ["_law_prime_here"] [0] ⟨rfl,rfl,rfl,rfl,rfl,rfl,by decide +kernel⟩ rfl (jN rfl m_zip (za (pv 1) (za (pv 2) zb))) (jc (zX (yb (by decide)) zY (zX (yb (by decide)) zY xG))) fun _ _ _ _ _ _=>⟨(xJ 2 rfl (zK (zt (i:=0) (by decide:(["_law_row", "_law_more", "_law_prime_here"]:List Str).Nodup) rfl (by first|exact Or.inl rfl|exact Or.inr rfl)) (zK (zt (i:=1) (by decide:(["_law_row", "_law_more", "_law_prime_here"]:List Str).Nodup) rfl (by first|exact Or.inl rfl|exact Or.inr rfl)) xp))),zI,(zu jy hr (za (pv 2) (za (pv 0) (za (pv 1) zb))))⟩))),?_⟩;refine⟨_,rfl,_,rfl,ta,tb,_,_,rfl,SqL.of hM.1,SqL.of hN.1,?_⟩;refine jP (xs:=ra.map V.ref) (zs:=rb.map V.ref) (by rw[wc,wc];omega) (fun i ys H'=>∃ ras,ys=ras.map V.ref/\Grow H H' ((adT k M N).take i) ras) ⟨[],rfl,Grow.nil H (Same.refl H)⟩ ?_ ?_ ?_
 ·rintro i ys H' hi ⟨ras,rfl,G⟩
  refine⟨SqL.of (G.same _ _ hM.1),SqL.of (G.same _ _ hN.1),?_⟩;have:=zj G.rows;rw[wj]at this;rw[wc]at hi ⊢;omega
 ·rintro i x z T ys H' hx' hz' hi hT ⟨ras,rfl,G⟩
  have g':=zf hT (.tup [x,z]);have G1:=G.mono g';obtain⟨row,a,hrow,ha,rfl,hR⟩:=(hM.mono G1.same).row hx';obtain⟨row2,a2,hrow2,ha2,rfl,hR2⟩:=(hN.mono G1.same).row hz';have m1:=wd hrow;have m2:=wd hrow2;have o1:=oM row m1;have o2:=oN row2 m2;refine⟨T,_,rfl,SqT.of ze,rfl,_,_,rfl,_,_,rfl,rfl,?_⟩;generalize upd H' T (.tup [.ref a,.ref a2])=H2 at *
  first|refine gyes ?_|refine tyes ?_
  refine⟨_,rfl,_,rfl,_,rfl,k,row,row2,a,a2,rfl,hk,hR,hR2,o1.2,o2.2,o1.1.trans o2.1.symm,(by rw[o1.1];omega),sM row m1,sN row2 m2,fun p H6 g6 N6=>?_⟩;refine nxt hi ⟨ras++[p],by rw[wt];rfl,?_⟩;rw[zr (zdW hrow hrow2)];exact G1.snocR g6 N6.row N6.fa
 ·rintro ys H' ⟨ras,rfl,G⟩ pb hpb
  rw[wc,wg (by omega)]at G;exact q pb ras _ (G.same.trans (zf hpb (.lst (ras.map V.ref)))) (G.done hpb).tab
def zbv:Sp:=fun vs H Q _=>∃(k:Int)(A B C Fr Lw:TB)(x g:List Nb)(n h s:Nat)(pm ta tb tc tf tl px pg:Addr)(ra rb rc rf rl:List Addr),vs=[.int k,.ref pm,.ref tf,.ref tl,.ref px,.ref pg]/\kab k/\MachAt H A B C pm ta tb tc ra rb rc/\kah H Fr tf rf/\kah H Lw tl rl/\kai H x px/\kai H g pg/\MOk k n h s 80 A B C/\TOk k h n 80 Fr/\TOk k n s 80 Lw/\(La.OkR k x/\x.length=n/\∀ y∈x,szk k 80 y)/\(La.OkR k g/\g.length=n/\∀ y∈g,szk k 80 y)/\n<=4/\h<=4/\s<=4 /\
 ∀ p H',Same H H'->kai H' (goR k A B C Fr Lw x g) p->Q (.ref p) H'
theorem zfb (D:Df K mg "_law_goes" SU jJ) (yc:Kn P w K mg base "_law_image" 43 SO Zl) (jy:Kn P w K mg base "_law_sum" 43 Sz zaB) (xF:Kn P w K mg base "_law_minus" 43 Sz Zf) (m_zip:mg "zip" = none):Kn P w K mg base "_law_goes" 44 SU zbv:=by
 refine D.kn sY (fun vs H Q E h=>?_) (fun f cdv A' outer s' H vs Q E hr h=>?_)
 ·obtain⟨k,A,B,C,Fr,Lw,x,g,n,h,s,pm,ta,tb,tc,tf,tl,px,pg,ra,rb,rc,rf,rl,rfl,_⟩:=h;rfl
 obtain⟨k,A,B,C,Fr,Lw,x,g,n,h,s,pm,ta,tb,tc,tf,tl,px,pg,ra,rb,rc,rf,rl,rfl,hk,hM,hF,hL,hx,hg,oM,oF,oL,⟨ox,lx,sx⟩,⟨og,lg,sg⟩,n4,h4,s4,q⟩:=h;have szl:=SV
 obtain⟨⟨o1,l1⟩,⟨o2,l2⟩,⟨o3,l3⟩,⟨o4,l4⟩,⟨o5,l5⟩,⟨o6,l6⟩,⟨o7,l7⟩,⟨o8,l8⟩⟩:=zgN hk (by decide) oM.a oM.b oM.c oF oL ox lx og lg;have big:∀ {y:List Nb} {m:Nat},La.OkR k y->(∀ z∈y,szk k m z)->m<=20000000->∀ z∈y,nsm 20000000 z:=fun o s hm z hz=>(s z hz).nsm hk (o z hz) hm (by decide)
 have b1:=La.xO (k:=k) (l1.trans l2.symm);have a2:=La.YW hk o4 o2;have b2:=(La.xO (k:=k) (l4.trans l2.symm)).trans l4;refine⟨_,(zc (zk (i:=6) sY.nd rfl (.inl rfl) (zu yc hr (za (pv 0) (za (zD zE (pv 1) zd) (za (zu yc hr (za (pv 0) (za (pv 2) (za (pv 5) zb)))) zb))))) (zc (zk (i:=7) sY.nd rfl (.inl rfl) (zu jy hr (za (pv 0) (za (zu yc hr (za (pv 0) (za (zD zE (pv 1) zd) (za (pv 4) zb)))) (za (pv 6) zb))))) (zc (zk (i:=8) sY.nd rfl (.inl rfl) (yn zb)) (zc (yw PassesOwn.never rfl (jN rfl m_zip (za (zu yc hr (za (pv 0) (za (zD zE (pv 1) zd) (za (pv 5) zb)))) (za (zu yc hr (za (pv 0) (za (zD zE (pv 1) zd) (za (pv 4) zb)))) zb))) (xJ 2 rfl (zK (zt (i:=9) sY.nd rfl (.inl rfl)) (zK (zt (i:=10) sY.nd rfl (.inl rfl)) xp))) (zg (xI (bm0 (fun _ h=>Xu PySem.F.plainAttrs_list PySem.F.slot_list_append PySem.F.type_list_append yN h (za (zu xF hr (za (pv 0) (za (pv 9) (za (pv 10) zb)))) zb)) (pv 8))))) (zc (zk (i:=11) sY.nd rfl (.inl rfl) (zu jy hr (za (pv 0) (za (zu yc hr (za (pv 0) (za (zD zE (pv 1) zd) (za (pv 5) zb)))) (za (pv 6) zb))))) (zg (zo (zh qW (pv 7) (zu jy hr (za (pv 0) (za (pv 11) (za (zu yc hr (za (pv 0) (za (pv 3) (za (pv 8) zb)))) zb)))))))))))),?_⟩;refine⟨_,rfl,_,rfl,pm,_,_,.ref tb,rfl,rfl,SqT.of hM.tup,rfl,_,rfl,_,rfl,_,rfl,k,Fr,g,n,80,80,tf,pg,rf,rfl,hk,hF,hg,oF.ok,lg,og,(fun r hr y hy _=>oF.sz r hr y hy),sg,by decide,by omega,(by rw[oF.len];omega),fun p1 H1 g1 N1 s1=>?_⟩;have s3:∀ y∈imgM k Fr g,szk k 700 y:=fun y hy=>(s1 y hy).mono (by omega)
 clear s1;have hM1:=hM.mono g1;refine⟨k,B,imgM k Fr g,h,80,700,tb,p1,rb,rfl,hk,hM1.b,N1.row,oM.b.ok,l3,o3,(fun r hr y hy _=>oM.b.sz r hr y hy),s3,by decide,by omega,(by rw[oM.b.len];omega),fun p2 H2 g2 N2 s2'=>?_⟩;have s2:∀ y∈imgM k B (imgM k Fr g),szk k 4000 y:=fun y hy=>(s2' y hy).mono (by omega)
 clear s2';have g12:=g1.trans g2;have hM2:=hM.mono g12;have hx2:=hx.mono g12;have hg2:=hg.mono g12;have hp2:=N2.row;refine⟨_,rfl,_,rfl,_,rfl,pm,_,_,.ref ta,rfl,rfl,SqT.of hM2.tup,rfl,_,rfl,k,A,x,n,80,80,ta,px,ra,rfl,hk,hM2.a,hx2,oM.a.ok,lx,ox,(fun r hr y hy _=>oM.a.sz r hr y hy),sx,by decide,by omega,(by rw[oM.a.len];omega),fun p3 H3 g3 N3 s3'=>?_⟩;have s1:∀ y∈imgM k A x,szk k 700 y:=fun y hy=>(s3' y hy).mono (by omega)
 clear s3';refine⟨_,rfl,k,imgM k A x,imgM k B (imgM k Fr g),p3,p2,rfl,hk,N3.row,hp2.mono g3,o1,o2,l1.trans l2.symm,by omega,(fun z hz=>(big o1 s1 (by decide) z hz).mono (by decide)),(fun z hz=>(big o2 s2 (by decide) z hz).mono (by decide)),fun p4 H4 g4 N4=>?_⟩;have g24:=g3.trans g4;refine⟨(by show 0<=sizeLine;decide),fun pz hpz=>?_⟩;have g5:=zf hpz (.lst []);have hz5:upd H4 pz (.lst []) pz=some (.lst []):=ze;generalize upd H4 pz (.lst [])=H5 at *;have g25:=g24.trans g5;have hM5:=hM2.mono g25;refine⟨_,rfl,_,rfl,pm,_,_,.ref tc,rfl,rfl,SqT.of hM5.tup,rfl,_,rfl,k,C,g,n,80,80,tc,pg,rc,rfl,hk,hM5.c,hg2.mono g25,oM.c.ok,lg,og,(fun r hr y hy _=>oM.c.sz r hr y hy),sg,by decide,by omega,(by rw[oM.c.len];omega),fun p6 H6 g6 N6 s6'=>?_⟩;have s5:∀ y∈imgM k C g,szk k 700 y:=fun y hy=>(s6' y hy).mono (by omega)
 clear s6';have hM6:=hM5.mono g6;refine⟨_,rfl,_,rfl,pm,_,_,.ref tc,rfl,rfl,SqT.of hM6.tup,rfl,_,rfl,k,C,x,n,80,80,tc,px,rc,rfl,hk,hM6.c,(hx2.mono g25).mono g6,oM.c.ok,lx,ox,(fun r hr y hy _=>oM.c.sz r hr y hy),sx,by decide,by omega,(by rw[oM.c.len];omega),fun p7 H7 g7 N7 s7'=>?_⟩;have s6:∀ y∈imgM k C x,szk k 700 y:=fun y hy=>(s7' y hy).mono (by omega)
 clear s7';have hz7:=g7 _ _ (g6 _ _ hz5);have h6:=N6.row.mono g7;obtain⟨us1,hu1,pu1,lu1⟩:=h6.len;obtain⟨us2,hu2,pu2,lu2⟩:=N7.row.len;have n6:p6≠pz:=fun e=>by
  have:=N6.fa;rw[e,hz5]at this;cases this
 have n7:p7≠pz:=fun e=>by
  have:=N7.fa;rw[e,g6 _ _ hz5]at this;cases this
 have pzH4:=hpz;refine⟨p6,p7,us1,us2,rfl,SqL.of hu1,SqL.of hu2,?_⟩;have ls:=l7;refine zfT (xs:=us1) (zs:=us2) (by omega) (fun i σ H'=>∃ us o9 o10,σ=[some (.int k),some (.ref pm),some (.ref tf),some (.ref tl),some (.ref px),some (.ref pg),some (.ref p2),some (.ref p4),some (.ref pz),o9,o10,none]/\Same H4 H'/\H' p6=some (.lst us1)/\H' p7=some (.lst us2)/\Paired (RN H') (imgM k C g) us1/\Paired (RN H') (imgM k C x) us2/\H' pz=some (.lst us)/\Paired (RN H') ((subR k (imgM k C g) (imgM k C x)).take i) us) ⟨[],none,none,rfl,g5.trans (g6.trans g7),hu1,hu2,pu1,pu2,hz7,.nil⟩ ?_ ?_ ?_
 ·rintro i σ H' _ ⟨us,o9,o10,rfl,_,h1,h2,_⟩
  exact⟨SqL.of h1,SqL.of h2⟩
 ·rintro i a b T σ H' ha hb hT ⟨us,o9,o10,rfl,gg,h1,h2,q1,q2,hz,pu⟩
  obtain⟨na,ea,rna⟩:=zU q1 ha;obtain⟨nb,eb,rnb⟩:=zU q2 hb;have gN:=zf hT (.tup [a,b]);refine⟨T,_,rfl,SqT.of ze,rfl,_,_,rfl,_,_,rfl,rfl,?_⟩;generalize upd H' T (.tup [a,b])=H8 at *;have oa:=o5 na (wd ea);have ob:=o6 nb (wd eb);refine⟨_,rfl,.inl ⟨rfl,_,SqL.of (gN _ _ hz)⟩,_,rfl,_,rfl,_,rfl,k,na,nb,a,b,rfl,hk,oa,ob,(big o5 s5 (by decide) na (wd ea)).mono (by decide),(big o6 s6 (by decide) nb (wd eb)).mono (by decide),rna.mono gN,rnb.mono gN,fun v9 H9 g9 r9=>?_⟩;have hz9:=g9 _ _ (gN _ _ hz);have lu:=zj pu;rw[wj]at lu;refine⟨pz,us,_,rfl,rfl,hz9,(by omega),?_⟩;have gg9:=(gg.trans gN).trans g9;refine⟨us++[v9],_,_,rfl,xl gg9 pzH4,(by rw[zH n6];exact g9 _ _ (gN _ _ h1)),(by rw[zH n7];exact g9 _ _ (gN _ _ h2)),jC hz9 (yz (gN.trans g9) q1),jC hz9 (yz (gN.trans g9) q2),ze,?_⟩;have e:(subR k (imgM k C g) (imgM k C x))[i]?=some (nsub k na nb):=by unfold subR;rw[vH,ea,eb]
  rw[zr e];exact zeb hz9 (yz (gN.trans g9) pu) r9
 rintro σ H8 ⟨us,o9,o10,rfl,g8,h1,h2,_,_,hz8,pu⟩
 rw[wg (by omega)]at pu;have hS8:kai H8 (subR k (imgM k C g) (imgM k C x)) pz:=⟨us,hz8,pu⟩;have s7:∀ y∈subR k (imgM k C g) (imgM k C x),szk k 20000 y:=fun y hy=>by
  unfold subR at hy;obtain⟨i,hi,e⟩:=wV hy;rw[vy]at e;rw[wr]at hi;have m1:=we (l:=imgM k C g) (n:=i) (by omega);have m2:=we (l:=imgM k C x) (n:=i) (by omega);rw[← e];intro k0;exact(zdV hk (o5 _ m1) (o6 _ m2) ((s5 _ m1).nsm hk (o5 _ m1) (show 700<=700 by decide) (by decide)) ((s6 _ m2).nsm hk (o6 _ m2) (show 700<=700 by decide) (by decide)) (by decide)).mono (by decide)
 have g28:=g24.trans g8;have hM8:=hM2.mono g28;have hp8:=hp2.mono g28;refine⟨_,rfl,_,rfl,_,rfl,pm,_,_,.ref ta,rfl,rfl,SqT.of hM8.tup,rfl,_,rfl,k,A,g,n,80,80,ta,pg,ra,rfl,hk,hM8.a,hg2.mono g28,oM.a.ok,lg,og,(fun r hr y hy _=>oM.a.sz r hr y hy),sg,by decide,by omega,(by rw[oM.a.len];omega),fun p9 H9 g9 N9 s9'=>?_⟩;have s4':∀ y∈imgM k A g,szk k 700 y:=fun y hy=>(s9' y hy).mono (by omega)
 clear s9';refine⟨_,rfl,k,imgM k A g,imgM k B (imgM k Fr g),p9,p2,rfl,hk,N9.row,hp8.mono g9,o4,o2,l4.trans l2.symm,by omega,(fun z hz=>(big o4 s4' (by decide) z hz).mono (by decide)),(fun z hz=>(big o2 s2 (by decide) z hz).mono (by decide)),fun p10 H10 g10 N10=>?_⟩;have g810:=g9.trans g10;have sA2:∀ z∈La.addR k (imgM k A g) (imgM k B (imgM k Fr g)),nsm 60000000 z:=fun y hy=>by
  unfold La.addR at hy;obtain⟨i,hi,e⟩:=wV hy;rw[vy]at e;rw[wr]at hi;have m1:=we (l:=imgM k A g) (n:=i) (by omega);have m2:=we (l:=imgM k B (imgM k Fr g)) (n:=i) (by omega);rw[← e];exact(YM (o4 _ m1) (o2 _ m2) (s4' _ m1) (s2 _ m2)).nsm hk (La.jU hk (o4 _ m1) (o2 _ m2)) (by decide) (by decide)
 have hL10:=((hL.mono g12).mono g28).mono g810;refine⟨_,rfl,_,rfl,_,rfl,_,rfl,_,rfl,_,rfl,k,Lw,subR k (imgM k C g) (imgM k C x),s,80,20000,tl,pz,rl,rfl,hk,hL10,hS8.mono g810,oL.ok,l7,o7,(fun r hr y hy _=>oL.sz r hr y hy),s7,by decide,by omega,(by rw[oL.len];omega),fun p11 H11 g11 N11 s11'=>?_⟩;have s8:∀ y∈imgM k Lw (subR k (imgM k C g) (imgM k C x)),szk k 100000 y:=fun y hy=>(s11' y hy).mono (by omega)
 clear s11';refine⟨k,La.addR k (imgM k A g) (imgM k B (imgM k Fr g)),imgM k Lw (subR k (imgM k C g) (imgM k C x)),p10,p11,rfl,hk,N10.row.mono g11,N11.row,a2,o8,b2.trans l8.symm,by omega,sA2,(fun z hz=>(big o8 s8 (by decide) z hz).mono (by decide)),fun p12 H12 g12' N12=>?_⟩;have g812:=(g810.trans g11).trans g12';have h4':=(N4.row.mono g8).mono g812;obtain⟨v1,hv1,pv1,lv1⟩:=h4'.len;obtain⟨v2,hv2,pv2,lv2⟩:=N12.row.len;have b3:=(La.xO (k:=k) (b2.trans l8.symm)).trans b2;refine⟨p4,p12,v1,v2,rfl,rfl,hv1,hv2,(by omega),fun pr hpr=>?_⟩;have gl:=zf hpr (.lst (v1++v2));exact q pr _ (((g12.trans g28).trans g812).trans gl) ⟨_,ze,yz gl (Zi pv1 pv2)⟩
theorem cutN{ns:List Int}(N:Nat):cutV (ns.map V.int) none (some (N:Int)) =(ns.take N).map V.int:=by
 unfold cutV;rw[HT.YD,Gw,gG,HT.ZZ,wc,vR]
 rcases wS N ns.length with h|h
 ·rw[uH (by omega)]
 ·rw[uQ (by omega),wg (by rw[wc];exact wl _),wg (by rw[wc];exact h)]
theorem cut0{xs:List V}(q:Nat)(h:q<=xs.length):cutV xs none (some (q:Int))=xs.take q:=by
 unfold cutV;rw[HT.YD,Gw,gG,HT.ZZ,uH h]
def putD(A B C Fr Lw:TB):PyData:=.list [machD A B C,tabD Fr,tabD Lw]
theorem zd8(A B C Fr Lw:TB):PyData.eqv (putD A B C Fr Lw) (putD A B C Fr Lw)=true:=by
 show(PyData.eqv (machD A B C) (machD A B C) && (PyData.eqv (tabD Fr) (tabD Fr) && (PyData.eqv (tabD Lw) (tabD Lw) && true)))=true;rw[zb0,qr,qr];rfl
theorem zbI(A B C Fr Lw:TB):(putD A B C Fr Lw).canLay0=true:=by
 show((machD A B C).canLay0 && ((tabD Fr).canLay0 && ((tabD Lw).canLay0 && true)))=true;rw[zcP,qV,qV];rfl
theorem zcb(A B C Fr Lw:TB):(putD A B C Fr Lw).depth<=5:=by
 show max (machD A B C).depth (max (tabD Fr).depth (max (tabD Lw).depth 0))+1<=5;have:=zaN A B C;have:=jB Fr;have:=jB Lw;omega
theorem zfJ{H:Hp}{A B C Fr Lw:TB}{l pm ta tb tc a b:Addr}{ra rb rc rf rl:List Addr}(hl:H l=some (.lst [.ref pm,.ref a,.ref b]))(hM:MachAt H A B C pm ta tb tc ra rb rc)(hx:kah H Fr a rf)(hy:kah H Lw b rl):Rp H (putD A B C Fr Lw) (.ref l):=zfQ hl (qJ hM.rp (qJ hx.rp (qJ hy.rp zcY)))
theorem zgJ {f:Addr} {fd:FuncData} (F:Fun K "law" "law" zeU f fd) (Xz:Kn P w K mg base "_law_machine" 46 SJ YX) (xZ:Kn P w K mg base "_law_standing" 45 SK Yl) (zaD:Kn P w K mg base "_law_copy" 1 SQ za5) (XG:Kn P w K mg base "put_together" 47 ST zfj) (Xy:Kn P w K mg base "_law_is_rows" 4 SN XW) (zM:Kn P w K mg base "_law_make" 1 Sy xE) (yc:Kn P w K mg base "_law_image" 43 SO Zl) (zal:Kn P w K mg base "_law_goes" 44 SU zbv) (qL:Kn P w K mg base "_law_product" 44 Sz YZ) (jY:Kn P w K mg base "_law_table_sum" 44 Sz zbG) (Ym:Kn P w K mg base "_law_great" 52 SS zae) (zgi:Kn P w K mg base "great" 44 SC zbp) (yH:Kn P w K mg base "_law_poly_times" 43 Sz Xq) (m_len:mg "len" = none) (zi:mg "range" = none) (yL:mg "list" = none) (m_int:mg "int" = none) :
  FnOk P w K mg base CX0 53 f fd ["_law_script"] (spLaw K):=by
 refine F.ok Sg (fun vs H Q E h=>?_) (fun cdv A' outer s' H vs Q E hr h=>?_)
 ·obtain⟨asc,ns,rfl,_⟩:=h;rfl
 obtain⟨asc,ns,rfl,hSq,h63,q⟩:=h;have szl:=SV
 refine⟨_,(zc (zk (i:=1) Sg.nd rfl (.inr rfl) (zh qW (yB (Jk (K:=K) rfl) (pv 0) xt (yW zd)) (yn (za zd zb)))) (zc (qK (zu Xz hr (za (pv 1) (za (yn (za zd (za zd zb))) zb))) (zdh (K:=K) 3 rfl rfl (zK (zt (i:=2) Sg.nd rfl (.inr rfl)) (zK (zt (i:=3) Sg.nd rfl (.inl rfl)) (zK (zt (i:=4) Sg.nd rfl (.inr rfl)) xp))))) (zc (zk (i:=5) Sg.nd rfl (.inr rfl) (zy (Zn (K:=K) rfl) rfl m_len ym (za (zD (qP (K:=K) rfl) (pv 3) zd) zb))) (zc (zk (i:=6) Sg.nd rfl (.inr rfl) (zy (Zn (K:=K) rfl) rfl m_len ym (za (zD (YG (K:=K) rfl) (zD (qP (K:=K) rfl) (pv 3) zd) zd) zb))) (zc (zk (i:=7) Sg.nd rfl (.inr rfl) (zy (Zn (K:=K) rfl) rfl m_len ym (za (zD (qP (K:=K) rfl) (pv 3) zd) zb))) (zc (zaw 8 Sg.nd ["_law_prime_here", "_law_cells", "_law_at_here", "_law_n"] [2,1,4,5] (zF rfl zi (za (pv 6) zb)) fun _ _ _ _ _ _=>⟨zI,(zu xZ hr (za (pv 1) (za (pv 2) (za (zh ye (pv 3) (zh zL (pv 0) (pv 4))) (za (pv 4) zb)))))⟩) (zc (zaw 9 Sg.nd ["_law_prime_here", "_law_cells", "_law_at_here", "_law_m", "_law_n", "_law_q"] [2,1,4,6,5,7] (zF rfl zi (za (pv 5) zb)) fun _ _ _ _ _ _=>⟨zI,(zu xZ hr (za (pv 1) (za (pv 2) (za (zh ye (zh ye (pv 3) (zh zL (pv 4) (pv 5))) (zh zL (pv 0) (pv 6))) (za (pv 6) zb)))))⟩) (zc (zk (i:=10) Sg.nd rfl (.inl rfl) (yn (za (zu zaD hr (za (pv 3) zb)) (za (xK [] [] (zbs (K:=K) rfl (pv 8)) fun _ _ _ _ _ _=>⟨zI,(xa (ZI (K:=K) rfl) rfl yL qN (za (pv 0) zb))⟩) (za (xK [] [] (zbs (K:=K) rfl (pv 9)) fun _ _ _ _ _ _=>⟨zI,(xa (ZI (K:=K) rfl) rfl yL qN (za (pv 0) zb))⟩) zb))))) (zc (zk (i:=11) Sg.nd rfl (.inl rfl) (zu XG hr (za (pv 2) (za (zD (YG (K:=K) rfl) (pv 10) zd) (za (zD (YG (K:=K) rfl) (pv 10) zd) (za (zD (YG (K:=K) rfl) (pv 10) zd) zb)))))) (zc (yD (PW.pt (pw_or (Yn (Za (zu Xy hr (za (pv 2) (za (pv 11) (za (zh zL zd (pv 5)) (za (zh zL zd (pv 5)) zb))))))) (pw_or1 (zQ (zfE hr) (pv 10) (yn (za (pv 3) (za (pv 8) (za (pv 9) zb)))) (kae _))))) (zg (zo zb6)) zO) (zc (yw PassesOwn.never rfl (zF rfl zi (za (zh ye (zh zL zd (pv 5)) zd) zb)) (zt (i:=12) Sg.nd rfl (.inr rfl)) (zc (zk (i:=13) Sg.nd rfl (.inl rfl) (zu xZ hr (za (pv 2) (za (pv 1) (za (zh ye (pv 4) (pv 12)) (za (zh zL zd (pv 5)) zb)))))) (zc (yD (zQ zcf (pv 12) (zh zL zd (pv 5)) (kae _)) (zg (zaw 13 Sg.nd ["_law_prime_here", "_law_k"] [2,12] (zF rfl zi (za (zh zL zd (pv 5)) zb)) fun _ _ _ _ _ _=>⟨zI,(zu zM hr (za (pv 1) (za (xa Zd rfl m_int zah (za (xb xX (pv 0) (pv 2) (kae _)) zb)) zb)))⟩)) zO) (zg (yD (zQ (zfE hr) (zu yc hr (za (pv 2) (za (pv 11) (za (pv 13) zb)))) (zu zal hr (za (pv 2) (za (pv 3) (za (pv 8) (za (pv 9) (za (yB (Jk (K:=K) rfl) (pv 13) xt (yW (pv 5))) (za (yB (Jk (K:=K) rfl) (pv 13) (yW (pv 5)) xt) zb))))))) (kae _)) (zg (zo zb6)) zO))))) (zc (zk (i:=14) Sg.nd rfl (.inl rfl) (zu Ym hr (za (pv 2) (za (zu jY hr (za (pv 2) (za (zD (qP (K:=K) rfl) (pv 3) zd) (za (zu qL hr (za (pv 2) (za (zD (qP (K:=K) rfl) (pv 3) zd) (za (pv 8) zb)))) zb)))) zb)))) (zc (zk (i:=15) Sg.nd rfl (.inl rfl) (zu Ym hr (za (pv 2) (za (zu jY hr (za (pv 2) (za (zD (qP (K:=K) rfl) (pv 3) zd) (za (zu qL hr (za (pv 2) (za (pv 9) (za (zD (qP (K:=K) rfl) (pv 3) zd) zb)))) zb)))) zb)))) (zg (zo (xb (zfl hr) (zu zgi hr (za (pv 2) (za (pv 11) zb))) (zu yH hr (za (pv 2) (za (pv 14) (za (pv 15) zb)))) (kae _))))))))))))))))),?_⟩;refine⟨_,rfl,_,rfl,asc,_,rfl,hSq,fun p1 hp1=>?_⟩;refine⟨(by show 1<=sizeLine;decide),fun p2 hp2=>?_⟩;have n12:p1≠p2:=fun e=>by rw[e,ze]at hp2;cases hp2
 rw[show((63:Int)) =((63:Nat):Int)from rfl,cutN 63]at *;refine⟨p1,p2,_,_,rfl,rfl,(by rw[zH n12];exact ze),ze,?_,fun p3 hp3=>?_⟩
 ·rw[wc,wj];show min 63 ns.length+1<=sizeLine;omega
 have e3:(ns.take 63).map V.int++[V.int 0] =(ns.take 63++[0]).map V.int:=by simp
 rw[e3];have hc0:upd (upd (upd H p1 (.lst ((ns.take 63).map V.int))) p2 (.lst [V.int 0])) p3 (.lst ((ns.take 63++[0]).map V.int)) p3=some (.lst ((ns.take 63++[0]).map V.int)):=ze;have lcs:(ns.take 63++[(0:Int)]).length<=1000:=by rw[wu,wj];show min 63 ns.length+1<=1000;omega
 have ncs:ns.take 63++[(0:Int)]≠[]:=by simp
 generalize upd (upd (upd H p1 (.lst ((ns.take 63).map V.int))) p2 (.lst [V.int 0])) p3 (.lst ((ns.take 63++[0]).map V.int))=H0 at *;generalize ns.take 63++[(0:Int)]=cs at *;refine⟨_,rfl,(by show 2<=sizeLine;decide),fun pq hpq=>?_⟩;have g1:=zf hpq (.lst [V.int 2,V.int 4]);refine⟨p3,pq,cs,2,4,rfl,g1 _ _ hc0,ncs,lcs,ze,(by decide),(by decide),(by decide),(by decide),fun k n m s at' A B C pr pm ta tb tc ra rb rc H2 g2 hpr hM hs ft oM wM m1 m2 s1 s2 nab=>?_⟩;have hk:=hs.ok;have hc2:=g2 _ _ (g1 _ _ hc0);clear g1 hc0;refine⟨pr,_,rfl,SqT.of hpr,rfl,_,_,rfl,_,_,rfl,_,_,rfl,rfl,?_⟩;have n1:=ft.1;have n4:n<=4:=by rcases nab with h|h <;> omega
 have n2:k=0->n<=2:=fun e=>by
  rcases nab with h|h
  ·exact h.2
  ·exact absurd e h.1
 obtain⟨wA,wB,wC,_⟩:=wM;have lA:=oM.a.len;have lB:=oM.b.len;have lC:=oM.c.len;have la:=zj hM.a.2;rw[lA]at la;have lb:=zj hM.b.2;rw[lB]at lb;have lc:=zj hM.c.2;rw[lC]at lc;refine⟨_,rfl,pm,_,_,.ref ta,rfl,rfl,SqT.of hM.tup,rfl,ta,_,rfl,.inl (SqL.of hM.a.1),?_⟩;rw[wc,← la];obtain⟨r0,rb',e0⟩ : ∃ r0 rb',rb=r0::rb':=by
  cases rb with
  | nil=>rw[Gh]at lb;omega
  | cons x y=>exact⟨x,y,rfl⟩
 obtain⟨b0,hb0,hr0⟩:=zU hM.b.2 (i:=0) (b:=r0) (by rw[e0];rfl);obtain⟨u0,hu0,pu0,lu0⟩:=hr0.len;have lb0:=(oM.b.ok b0 (wd hb0)).1;refine⟨_,rfl,pm,_,_,.ref tb,rfl,rfl,SqT.of hM.tup,rfl,tb,_,_,.ref r0,rfl,rfl,SqL.of hM.b.1,(by rw[e0];exact zG (j:=0) rfl),r0,_,rfl,.inl (SqL.of hu0),?_⟩;rw[lu0,lb0];refine⟨_,rfl,pm,_,_,.ref tc,rfl,rfl,SqT.of hM.tup,rfl,tc,_,rfl,.inl (SqL.of hM.c.1),?_⟩;rw[wc,← lc];refine⟨_,rfl,m,rfl,(by omega),(by omega),?_⟩;rw[wJ];refine zZ (lo:=0) (n:=m) (fun l ys' H9=>∃ xss ras,ys'=ras.map V.ref/\Grow H2 H9 xss ras/\xss.length=l/\∀ r∈xss,r.length=n/\La.OkR k r/\∀ x∈r,whk k 2 x) ⟨[],[],rfl,Grow.nil H2 (Same.refl _),rfl,fun r hr=>(nomatch hr)⟩ ?_ ?_ ?_
 ·rintro l ys' H9 hl' ⟨xss,ras,rfl,G,lx,_⟩
  have:=zj G.rows;rw[wc];omega
 ·rintro l ys' H9 hl' ⟨xss,ras,rfl,G,lx,ox⟩
  have e:(at':Int) +(0 +(l:Int)) *(n:Int) =((at'+l*n:Nat):Int):=by
   rw[vt];push_cast;rfl
  first|refine gyes ?_|refine tyes ?_
  refine⟨_,rfl,_,rfl,_,rfl,_,rfl,_,rfl,_,_,rfl,rfl,(IntMulOk.of_left (intBits_le_64 (by omega) (by omega))),_,_,rfl,rfl,_,rfl,k,p3,cs,at'+l*n,n,_,rfl,e,hk,G.same _ _ hc2,ncs,by omega,fun us au H6 g6 nu lu ou su=>?_⟩;refine nxt hl' ⟨xss++[us],ras++[au],by rw[wt];rfl,G.snocR g6 nu.row nu.fa,by rw[wu,lx];rfl,fun r hr=>?_⟩
  rcases wo.mp hr with h|h
  ·exact ox r h
  ·rw[wn.mp h];exact⟨lu,ou,su⟩
 rintro ys6 H6 ⟨Fr,rf,rfl,GF,lF,oF⟩ tf htf
 have NF:=GF.done htf;have g3:=GF.same.trans (zf htf (.lst (rf.map V.ref)));generalize upd H6 tf (.lst (rf.map V.ref))=H3 at *;refine⟨_,rfl,n,rfl,(by omega),(by omega),?_⟩;rw[wJ];refine zZ (lo:=0) (n:=n) (fun l ys' H9=>∃ xss ras,ys'=ras.map V.ref/\Grow H3 H9 xss ras/\xss.length=l/\∀ r∈xss,r.length=s/\La.OkR k r/\∀ x∈r,whk k 2 x) ⟨[],[],rfl,Grow.nil H3 (Same.refl _),rfl,fun r hr=>(nomatch hr)⟩ ?_ ?_ ?_
 ·rintro l ys' H9 hl' ⟨xss,ras,rfl,G,lx,_⟩
  have:=zj G.rows;rw[wc];omega
 ·rintro l ys' H9 hl' ⟨xss,ras,rfl,G,lx,ox⟩
  have e:(at':Int) +(m:Int) *(n:Int) +(0 +(l:Int)) *(s:Int) =((at'+m*n+l*s:Nat):Int):=by
   rw[vt];push_cast;rfl
  first|refine gyes ?_|refine tyes ?_
  refine⟨_,rfl,_,rfl,_,rfl,_,rfl,_,rfl,_,_,rfl,rfl,(IntMulOk.of_left (intBits_le_64 (by omega) (by omega))),_,_,rfl,rfl,_,rfl,_,rfl,_,_,rfl,rfl,(IntMulOk.of_left (intBits_le_64 (by omega) (by omega))),_,_,rfl,rfl,_,rfl,k,p3,cs,at'+m*n+l*s,s,_,rfl,e,hk,G.same _ _ (g3 _ _ hc2),ncs,by omega,fun us au H6 g6 nu lu ou su=>?_⟩;refine nxt hl' ⟨xss++[us],ras++[au],by rw[wt];rfl,G.snocR g6 nu.row nu.fa,by rw[wu,lx];rfl,fun r hr=>?_⟩
  rcases wo.mp hr with h|h
  ·exact ox r h
  ·rw[wn.mp h];exact⟨lu,ou,su⟩
 rintro ys6 H6 ⟨Lw,rl,rfl,GL,lL,oL⟩ tl htl
 have NL:=GL.done htl;have g4:=GL.same.trans (zf htl (.lst (rl.map V.ref)));generalize upd H6 tl (.lst (rl.map V.ref))=H4 at *;have g24:=g3.trans g4;have hM4:=hM.mono g24;have hF4:=NF.tab.mono g4;have hL4:=NL.tab;have hc4:=g24 _ _ hc2;have okF:La.OkM k n Fr:=fun r hr=>⟨(oF r hr).1,(oF r hr).2.1⟩
 have okL:La.OkM k s Lw:=fun r hr=>⟨(oL r hr).1,(oL r hr).2.1⟩
 have wF:∀ r∈Fr,∀ x∈r,whk k 2 x:=fun r hr=>(oF r hr).2.2
 have wL:∀ r∈Lw,∀ x∈r,whk k 2 x:=fun r hr=>(oL r hr).2.2
 have tF:TOk k m n 80 Fr:=⟨lF,okF,fun r hr x hx=>(wF r hr x hx).nsm hk ((okF r hr).2 x hx) (by decide) (by decide)⟩;have tL:TOk k n s 80 Lw:=⟨lL,okL,fun r hr x hx=>(wL r hr x hx).nsm hk ((okL r hr).2 x hx) (by decide) (by decide)⟩;clear oF oL GF GL NF NL g24 g3 g4 hc2 hM hpr;refine⟨_,rfl,A,B,C,pm,ta,tb,tc,ra,rb,rc,rfl,hM4,by omega,by omega,by omega,fun ph ua ub uc va vb vc H5 g5 hN=>?_⟩;have hF5:=hF4.mono g5;refine⟨_,rfl,tf,rfl,⟨_,SqL.of hF5.1⟩,?_⟩;refine Xj hF5 (by omega) (fun a us H2 Q2 ha hq=>⟨_,rfl,a,us,rfl,.inl (SqL.of ha),hq⟩) ?_;intro rf2 H6 G6 tf2 htf2;have N6:=G6.done htf2;have g6:=g5.trans (G6.same.trans (zf htf2 (.lst (rf2.map V.ref))));have hN6:=hN.mono (G6.same.trans (zf htf2 (.lst (rf2.map V.ref))));generalize upd H6 tf2 (.lst (rf2.map V.ref))=H7 at *;have hL7:=hL4.mono g6;refine⟨_,rfl,tl,rfl,⟨_,SqL.of hL7.1⟩,?_⟩;refine Xj hL7 (by omega) (fun a us H2 Q2 ha hq=>⟨_,rfl,a,us,rfl,.inl (SqL.of ha),hq⟩) ?_;intro rl2 H8 G8 tl2 htl2;have N8:=G8.done htl2;have g8:=G8.same.trans (zf htl2 (.lst (rl2.map V.ref)));generalize upd H8 tl2 (.lst (rl2.map V.ref))=H9 at *;refine⟨(by show 3<=sizeLine;decide),fun phd hphd=>?_⟩;have g9:=zf hphd (.lst [.ref ph,.ref tf2,.ref tl2]);have hhd:upd H9 phd (.lst [.ref ph,.ref tf2,.ref tl2]) phd=some (.lst [.ref ph,.ref tf2,.ref tl2]):=ze;generalize upd H9 phd (.lst [.ref ph,.ref tf2,.ref tl2])=Ha at *;have g4a:=(g6.trans g8).trans g9;have hNa:=(hN6.mono g8).mono g9;have hFa:=(N6.tab.mono g8).mono g9;have hLa:=N8.tab.mono g9;refine⟨_,rfl,_,rfl,phd,_,_,.ref ph,rfl,rfl,SqL.of hhd,zG (j:=0) rfl,_,rfl,phd,_,_,.ref tf2,rfl,rfl,SqL.of hhd,zG (j:=1) rfl,_,rfl,phd,_,_,.ref tl2,rfl,rfl,SqL.of hhd,zG (j:=2) rfl,k,A,B,C,Fr,Lw,n,m,s,ph,ua,ub,uc,tf2,tl2,va,vb,vc,rf2,rl2,rfl,hk,hNa,hFa,hLa,oM,tF,tL,n1,n4,m1,by omega,s1,by omega,fun tt rt Hb gb hT=>?_⟩;obtain⟨oT,lT,eT,wT⟩:=zhq hk (by decide) oM.a oM.b oM.c tF tL;have wT:=wT (by omega) (by omega) n4 wA.sz wB.sz wC.sz wF wL;have eI:=fun {x g:List Nb}=>zgU hk (by decide) oM.a oM.b oM.c tF tL (x:=x) (g:=g)
 refine⟨_,rfl,_,rfl,_,rfl,_,_,rfl,rfl,(IntMulOk.of_left (intBits_le_64 (by decide) (by decide))),_,rfl,_,_,rfl,rfl,(IntMulOk.of_left (intBits_le_64 (by decide) (by decide))),k,ptT k n A B C Fr Lw,tt,rt,_,_,rfl,hk,hT,(by rw[lT];push_cast;omega),(fun r hr=>⟨by rw[(oT r hr).1];push_cast;omega,(oT r hr).2⟩),(by omega),fun Hc gc=>?_⟩;refine⟨_,rfl,iteF ?_⟩;have gac:=gb.trans gc;have g4c:=g4a.trans gac;refine⟨_,rfl,_,rfl,_,rfl,_,rfl,(by show 3<=sizeLine;decide),fun pl hpl=>?_⟩;have gd:=zf hpl (.lst [.ref pm,.ref tf,.ref tl]);have hpl':upd Hc pl (.lst [.ref pm,.ref tf,.ref tl]) pl=some (.lst [.ref pm,.ref tf,.ref tl]):=ze;generalize upd Hc pl (.lst [.ref pm,.ref tf,.ref tl])=Hd at *;have g4d:=g4c.trans gd;have gad:=gac.trans gd;have hMd:=hM4.mono g4d;have hFd:=hF4.mono g4d;have hLd:=hL4.mono g4d;have hcd:=g4d _ _ hc4;have hTd:=(hT.mono gc).mono gd;refine⟨putD A B C Fr Lw,putD A B C Fr Lw,zfJ (gad _ _ hhd) (hNa.mono gad) (hFa.mono gad) (hLa.mono gad),zfJ hpl' hMd hFd hLd,zbI A B C Fr Lw,zbI A B C Fr Lw,vp (uG _ _) (vp (zcb A B C Fr Lw) (by decide)),_,rfl,?_⟩;rw[zd8];refine iteF ?_;clear hhd hNa hFa hLa hpl' gd gc gb gad gac g4a g4c hM4 hF4 hL4 hc4 hT g4d;have sT:∀ r∈ptT k n A B C Fr Lw,∀ y∈r,szk k 80 y:=fun r hr y hy=>((wT r hr y hy).mono (by decide)).szk (by decide)
 refine⟨_,rfl,_,_,rfl,rfl,(IntMulOk.of_left (intBits_le_64 (by decide) (by decide))),_,_,rfl,rfl,_,rfl,(by omega),(by omega),?_⟩;rw[show(2 *(n:Int)+1).toNat=2*n+1 by omega];refine yv (lo:=0) (n:=2*n+1) (fun i σ H'=>∃ o12 o13,σ=[some (.ref asc),some (.ref p3),some (.int k),some (.ref pm),some (.int (at':Int)),some (.int (n:Int)),some (.int (m:Int)),some (.int (s:Int)),some (.ref tf),some (.ref tl),some (.ref phd),some (.ref tt),o12,o13,none,none]/\Same Hd H') ⟨none,none,rfl,Same.refl _⟩ ?_ ?_
 ·rintro i σ H' hi ⟨o12,o13,rfl,g'⟩
  rw[vt];refine⟨_,rfl,_,rfl,_,rfl,_,rfl,_,_,rfl,rfl,_,rfl,_,_,rfl,rfl,(IntMulOk.of_left (intBits_le_64 (by decide) (by decide))),k,p3,cs,at'+i,2*n,_,rfl,(by push_cast;rfl),hk,g' _ _ hcd,ncs,by omega,fun both pb H6 g6 nb lbo obo sbo=>?_⟩;replace nb:=nb.row;replace g6:=g'.trans g6;refine⟨_,rfl,_,rfl,_,_,rfl,rfl,(IntMulOk.of_left (intBits_le_64 (by decide) (by decide))),_,_,rfl,rfl,_,rfl,?_⟩;refine ite2 (fun d=>?_) (fun d=>?_)
  ·refine⟨_,rfl,_,_,rfl,rfl,(IntMulOk.of_left (intBits_le_64 (by decide) (by decide))),_,rfl,(by omega),(by omega),?_⟩;rw[show(2 *(n:Int)).toNat=2*n by omega];clear nb lbo obo sbo;refine zZ (lo:=0) (n:=2*n) (fun l ys' H9=>∃ xs,Same H6 H9/\Paired (RN H9) xs ys'/\xs.length=l/\La.OkR k xs/\∀ x∈xs,whk k 2 x) ⟨[],Same.refl _,.nil,rfl,fun x hx=>(nomatch hx),fun x hx=>(nomatch hx)⟩ ?_ ?_ ?_
   ·rintro l ys' H9 hl' ⟨xs,g9,pr9,lx,_⟩
    have:=zj pr9;omega
   ·rintro l ys' H9 hl' ⟨xs,g9,pr9,lx,ox,sx⟩
    first|refine gyes ?_|refine tyes ?_
    refine⟨_,rfl,_,rfl,_,rfl,rfl,.inr ⟨_,rfl,k,_,rfl,hk,fun v H10 g10 xr=>?_⟩⟩;refine nxt hl' ⟨xs++[_],g9.trans g10,yu (yz g10 pr9) xr,by rw[wu,lx];rfl,fun y hy=>?_,fun y hy=>?_⟩
    ·rcases wo.mp hy with h|h
     ·exact ox y h
     ·rw[wn.mp h];exact La.zR hk _
    ·rcases wo.mp hy with h|h
     ·exact sx y h
     ·rw[wn.mp h];exact fun _=>⟨_,rfl,by split <;> decide⟩
   rintro ys' H9 ⟨both,g9,pr9,lbo,obo,sbo⟩ pb hpb
   have gl:=zf hpb (.lst ys');have nb:kai (upd H9 pb (.lst ys')) both pb:=⟨_,ze,yz gl pr9⟩;replace g6:=(g6.trans g9).trans gl;generalize upd H9 pb (.lst ys')=H6 at *;refine⟨_,rfl,_,rfl,_,rfl,k,ptT k n A B C Fr Lw,both,n+n,80,80,tt,pb,rt,rfl,hk,hTd.mono g6,nb,oT,(by omega),obo,sT,(fun y hy=>((sbo y hy).mono (by decide)).szk (by decide)),by decide,by omega,(by rw[lT];omega),fun p7 H7 g7 N7 _=>?_⟩;have nb7:=nb.mono g7;obtain⟨ub,hub,pub,lub⟩:=nb7.len;refine⟨_,rfl,_,rfl,_,rfl,_,rfl,_,rfl,_,rfl,_,rfl,pb,_,rfl,SqL.of hub,fun ps1 hps1=>?_⟩;rw[cut0 n (by omega)];have g8:=zf hps1 (.lst (ub.take n));have hs1:kai (upd H7 ps1 (.lst (ub.take n))) (both.take n) ps1:=⟨_,ze,yz g8 (zbo pub n)⟩;generalize upd H7 ps1 (.lst (ub.take n))=H8 at *;refine⟨_,rfl,_,rfl,_,rfl,pb,_,rfl,SqL.of (g8 _ _ hub),fun ps2 hps2=>?_⟩;rw[Zo ub n];have g9:=zf hps2 (.lst (ub.drop n));have hs2:kai (upd H8 ps2 (.lst (ub.drop n))) (both.drop n) ps2:=⟨_,ze,yz g9 (yz g8 (Jx pub n))⟩;generalize upd H8 ps2 (.lst (ub.drop n))=H9' at *;have g69:=(g7.trans g8).trans g9;have gd9:=g6.trans g69;have o1:La.OkR k (both.take n):=fun y hy=>obo y (wE hy)
   have o2:La.OkR k (both.drop n):=fun y hy=>obo y (vJ hy)
   have l1:(both.take n).length=n:=by rw[wj];omega
   have l2:(both.drop n).length=n:=by rw[vO];omega
   refine⟨k,A,B,C,Fr,Lw,both.take n,both.drop n,n,m,s,pm,ta,tb,tc,tf,tl,ps1,ps2,ra,rb,rc,rf,rl,rfl,hk,hMd.mono gd9,hFd.mono gd9,hLd.mono gd9,hs1.mono g9,hs2,oM,tF,tL,⟨o1,l1,fun y hy=>((sbo y (wE hy)).mono (by decide)).szk (by decide)⟩,⟨o2,l2,fun y hy=>((sbo y (vJ hy)).mono (by decide)).szk (by decide)⟩,n4,by omega,by omega,fun p10 H10 g10 h10=>?_⟩;have hv:kai H10 (goR k A B C Fr Lw (both.take n) (both.drop n)) p7:=by
    rw[← eI o1 l1 o2 l2,Gq];exact((N7.row.mono g8).mono g9).mono g10
   refine⟨rowD _,rowD _,hv.rp,h10.rp,jS _,jS _,vp (uG _ _) (vp (qG _) (by decide)),_,rfl,?_⟩;rw[Zr];refine iteF ?_;exact⟨_,_,rfl,gd9.trans g10⟩
  refine⟨_,rfl,_,rfl,_,rfl,k,ptT k n A B C Fr Lw,both,n+n,80,80,tt,pb,rt,rfl,hk,hTd.mono g6,nb,oT,(by omega),obo,sT,(fun y hy=>((sbo y hy).mono (by decide)).szk (by decide)),by decide,by omega,(by rw[lT];omega),fun p7 H7 g7 N7 _=>?_⟩;have nb7:=nb.mono g7;obtain⟨ub,hub,pub,lub⟩:=nb7.len;refine⟨_,rfl,_,rfl,_,rfl,_,rfl,_,rfl,_,rfl,_,rfl,pb,_,rfl,SqL.of hub,fun ps1 hps1=>?_⟩;rw[cut0 n (by omega)];have g8:=zf hps1 (.lst (ub.take n));have hs1:kai (upd H7 ps1 (.lst (ub.take n))) (both.take n) ps1:=⟨_,ze,yz g8 (zbo pub n)⟩;generalize upd H7 ps1 (.lst (ub.take n))=H8 at *;refine⟨_,rfl,_,rfl,_,rfl,pb,_,rfl,SqL.of (g8 _ _ hub),fun ps2 hps2=>?_⟩;rw[Zo ub n];have g9:=zf hps2 (.lst (ub.drop n));have hs2:kai (upd H8 ps2 (.lst (ub.drop n))) (both.drop n) ps2:=⟨_,ze,yz g9 (yz g8 (Jx pub n))⟩;generalize upd H8 ps2 (.lst (ub.drop n))=H9' at *;have g69:=(g7.trans g8).trans g9;have gd9:=g6.trans g69;have o1:La.OkR k (both.take n):=fun y hy=>obo y (wE hy)
  have o2:La.OkR k (both.drop n):=fun y hy=>obo y (vJ hy)
  have l1:(both.take n).length=n:=by rw[wj];omega
  have l2:(both.drop n).length=n:=by rw[vO];omega
  refine⟨k,A,B,C,Fr,Lw,both.take n,both.drop n,n,m,s,pm,ta,tb,tc,tf,tl,ps1,ps2,ra,rb,rc,rf,rl,rfl,hk,hMd.mono gd9,hFd.mono gd9,hLd.mono gd9,hs1.mono g9,hs2,oM,tF,tL,⟨o1,l1,fun y hy=>((sbo y (wE hy)).mono (by decide)).szk (by decide)⟩,⟨o2,l2,fun y hy=>((sbo y (vJ hy)).mono (by decide)).szk (by decide)⟩,n4,by omega,by omega,fun p10 H10 g10 h10=>?_⟩;have hv:kai H10 (goR k A B C Fr Lw (both.take n) (both.drop n)) p7:=by
   rw[← eI o1 l1 o2 l2,Gq];exact((N7.row.mono g8).mono g9).mono g10
  refine⟨rowD _,rowD _,hv.rp,h10.rp,jS _,jS _,vp (uG _ _) (vp (qG _) (by decide)),_,rfl,?_⟩;rw[Zr];refine iteF ?_;exact⟨_,_,rfl,gd9.trans g10⟩
 rintro σ H6 ⟨o12,o13,rfl,g6⟩
 have hM6:=hMd.mono g6;have hF6:=hFd.mono g6;have hL6:=hLd.mono g6;have hT6:=hTd.mono g6;clear hMd hFd hLd hTd hcd g6;have tP:=jl hk (by decide) oM.b tF;have tQ:=jl hk (by decide) tL oM.c;have wP:=Zc hk oM.b.ok okF (show m<=2^1 by omega) wB.sz wF;have wQ:=Zc hk okL oM.c.ok (show s<=2^1 by omega) wL wC.sz;have n3:k=0->n<=3:=fun e=>by have:=n2 e;omega
 refine⟨_,rfl,_,rfl,_,rfl,pm,_,_,.ref ta,rfl,rfl,SqT.of hM6.tup,rfl,_,rfl,_,rfl,pm,_,_,.ref tb,rfl,rfl,SqT.of hM6.tup,rfl,_,rfl,k,B,Fr,m,n,80,80,tb,tf,rb,rf,rfl,hk,hM6.b,hF6,oM.b.ok,okF,lF,(fun r hr y hy _=>oM.b.sz r hr y hy),(fun r hr y hy _=>tF.sz r hr y hy),by decide,m1,by omega,n1,by omega,(by rw[lB];omega),fun tp rp H7 g7 N7=>?_⟩;have hM7:=hM6.mono g7;refine⟨k,A,kad k n B Fr,n,ta,tp,ra,rp,rfl,hk,hM7.a,N7.tab,oM.a.ok,tP.ok,lA.trans tP.len.symm,by omega,(by rw[lA];omega),(fun r hr x hx=>(oM.a.sz r hr x hx).mono (by decide)),(fun r hr x hx=>(wP r hr x hx).nsm hk ((tP.ok r hr).2 x hx) (by decide) (by decide)),fun t1 r1 H8 g8 hT8=>?_⟩;obtain⟨F0,_,_,⟨φ0⟩⟩:=La.qD hk;obtain⟨oM1,lM1,_⟩:=zeA hk φ0 oM.a.ok lA tP.ok tP.len;have wM1:∀ r∈adT k A (kad k n B Fr),∀ x∈r,whk k 20 x:=fun r hr x hx=>(zfr oM.a.ok tP.ok wA.sz wP r hr x hx).mono (by decide)
 refine⟨k,adT k A (kad k n B Fr),n,t1,r1,rfl,hk,hT8,⟨lM1,oM1,fun r hr x hx=>(wM1 r hr x hx).nsm hk ((oM1 r hr).2 x hx) (by decide) (by decide)⟩,n1,n4,n3,fun y1 py1 H9 g9 hy1 ly1 oy1 gr1=>?_⟩;have g69:=(g7.trans g8).trans g9;have hM9:=hM6.mono g69;have hL9:=hL6.mono g69;have hT9:=hT6.mono g69;refine⟨_,rfl,_,rfl,_,rfl,pm,_,_,.ref ta,rfl,rfl,SqT.of hM9.tup,rfl,_,rfl,_,rfl,_,rfl,pm,_,_,.ref tc,rfl,rfl,SqT.of hM9.tup,rfl,k,Lw,C,s,n,80,80,tl,tc,rl,rc,rfl,hk,hL9,hM9.c,okL,oM.c.ok,lC,(fun r hr y hy _=>tL.sz r hr y hy),(fun r hr y hy _=>oM.c.sz r hr y hy),by decide,s1,by omega,n1,by omega,(by rw[lL];omega),fun tp2 rp2 H10 g10 N10=>?_⟩;have hM10:=hM9.mono g10;refine⟨k,A,kad k n Lw C,n,ta,tp2,ra,rp2,rfl,hk,hM10.a,N10.tab,oM.a.ok,tQ.ok,lA.trans tQ.len.symm,by omega,(by rw[lA];omega),(fun r hr x hx=>(oM.a.sz r hr x hx).mono (by decide)),(fun r hr x hx=>(wQ r hr x hx).nsm hk ((tQ.ok r hr).2 x hx) (by decide) (by decide)),fun t2 r2 H11 g11 hT11=>?_⟩;obtain⟨oM2,lM2,_⟩:=zeA hk φ0 oM.a.ok lA tQ.ok tQ.len;have wM2:∀ r∈adT k A (kad k n Lw C),∀ x∈r,whk k 20 x:=fun r hr x hx=>(zfr oM.a.ok tQ.ok wA.sz wQ r hr x hx).mono (by decide)
 refine⟨k,adT k A (kad k n Lw C),n,t2,r2,rfl,hk,hT11,⟨lM2,oM2,fun r hr x hx=>(wM2 r hr x hx).nsm hk ((oM2 r hr).2 x hx) (by decide) (by decide)⟩,n1,n4,n3,fun y2 py2 H12 g12 hy2 ly2 oy2 gr2=>?_⟩;have g912:=(g10.trans g11).trans g12;refine⟨_,rfl,_,rfl,k,ptT k n A B C Fr Lw,n+n,61,tt,rt,rfl,hk,hT9.mono g912,⟨lT,oT,fun r hr x hx=>(wT r hr x hx).nsm hk ((oT r hr).2 x hx) (by decide) (by decide)⟩,by omega,by omega,(fun e=>by have:=n2 e;omega),by decide,by decide,fun xs px H13 g13 Nx lx ox gr=>?_⟩;have sy1:=zab hk n4 oM1 wM1 oy1 ly1 gr1;have sy2:=zab hk n4 oM2 wM2 oy2 ly2 gr2;have zz:y1.length*y2.length<=5*5:=ug (by omega) (by omega);have zz2:y1.length*y2.length *(1008+1008+1)<=5*5 *(1008+1008+1):=wH _ zz;refine⟨_,rfl,_,rfl,_,rfl,k,y1,y2,1008,1008,py1,py2,rfl,hk,(hy1.mono g912).mono g13,hy2.mono g13,oy1,oy2,(fun x hx _=>sy1 x hx),(fun x hx _=>sy2 x hx),by decide,by decide,(fun _=>by omega),by omega,by omega,by omega,by omega,fun zs pz H14 g14 Nz lz oz _ ez=>?_⟩;have e:=zdn hk n1 n4 oM1 lM1 oM2 lM2 oT lT (fun F _ φ i j hi _=>(zeA hk φ oM.a.ok lA tP.ok tP.len).2.2 i j hi) (fun F _ φ i j hi _=>(zeA hk φ oM.a.ok lA tQ.ok tQ.len).2.2 i j hi) eT gr1 gr2 gr ox oz lx (by omega) ez;subst e;refine⟨rowD xs,rowD xs,(Nx.row.mono g14).rp,Nz.row.rp,jS _,jS _,vp (uG _ _) (vp (qG _) (by decide)),?_⟩;rw[Zr];exact q _
end
end KL
open PySem PySem.W PyProof.Rows
abbrev zPr:=(PySem.Challenge.rw_steermill_k62_whole_put_together).prog
set_option maxRecDepth 100000 in
set_option maxHeartbeats 0 in
theorem PySem.Challenge.cw_steermill_k62_whole_put_together_holds : PySem.Challenge.rw_steermill_k62_whole_put_together.Holds := by
 refine L2.zbR (l:=PySem.Challenge.rw_steermill_k62_whole_put_together) 53 3200 KL.lk KL.lv KL.h_ws rfl rfl rfl (by kernel_rfl) (by decide) (fun s=>by kernel_rfl) ⟨KL.h_st,KL.h_sn,KL.h_lk⟩ (by kernel_rfl) (by kernel_rfl) (by kernel_rfl) (by kernel_rfl) (by kernel_rfl) (by kernel_rfl) ⟨rfl,rfl,rfl,rfl,rfl,by decide +kernel⟩ (by w_witness2) (by decide +kernel) ⟨rfl,by decide,by decide⟩ ?F
 case F =>
  intro w mg fa h K KX hq G hmg
  have qf:=congrArg (·.1) hq
  have qm:=congrArg (·.2.1) hq
  have qe:=congrArg (·.2.2.1) hq
  have qc:=congrArg (·.2.2.2) hq
  have ZV:L2.Df K mg "common_divisor" ["one", "other"] KL.yO:=L2.ya KX G (L2.zx qf 0 rfl rfl) fun _ _ _ _ _ _ us hl=>L2.kao (fun _ _=>rfl) us hl
  have zaO:L2.Df K mg "fraction" ["top", "bottom"] KL.qB:=L2.ya KX G (L2.zx qf 1 rfl rfl) fun _ _ _ _ _ _ us hl=>L2.kao (fun _ _=>rfl) us hl
  have zaq:L2.Df K mg "one_over" ["prime", "rest"] KL.qF:=L2.ya KX G (L2.zx qf 2 rfl rfl) fun _ _ _ _ _ _ us hl=>L2.kao (fun _ _=>rfl) us hl
  have zed:L2.Df K mg "number" ["kind", "whole"] KL.YS:=L2.ya KX G (L2.zx qf 3 rfl rfl) fun _ _ _ _ _ _ us hl=>L2.kao (fun _ _=>rfl) us hl
  have zeD:L2.Df K mg "minus" ["kind", "one", "other"] KL.Qc:=L2.ya KX G (L2.zx qf 4 rfl rfl) fun _ _ _ _ _ _ us hl=>L2.bind3 (fun _ _ _=>rfl) us hl
  have zgB:L2.Df K mg "over" ["kind", "one", "other"] KL.zbB:=L2.ya KX G (L2.zx qf 5 rfl rfl) fun _ _ _ _ _ _ us hl=>L2.bind3 (fun _ _ _=>rfl) us hl
  have zel:L2.Df K mg "scaled" ["kind", "row"] KL.YQ:=L2.ya KX G (L2.zx qf 6 rfl rfl) fun _ _ _ _ _ _ us hl=>L2.kao (fun _ _=>rfl) us hl
  have zav:L2.Df K mg "quotient" ["kind", "top", "bottom"] KL.qA:=L2.ya KX G (L2.zx qf 7 rfl rfl) fun _ _ _ _ _ _ us hl=>L2.bind3 (fun _ _ _=>rfl) us hl
  have Yj:L2.Df K mg "whole_sum" ["one", "other"] KL.xU:=L2.ya KX G (L2.zx qf 8 rfl rfl) fun _ _ _ _ _ _ us hl=>L2.kao (fun _ _=>rfl) us hl
  have XI:L2.Df K mg "whole_image" ["rows", "row"] KL.xN:=L2.ya KX G (L2.zx qf 9 rfl rfl) fun _ _ _ _ _ _ us hl=>L2.kao (fun _ _=>rfl) us hl
  have Zt:L2.Df K mg "sum_of_products" ["kind", "one", "other"] KL.yF:=L2.ya KX G (L2.zx qf 10 rfl rfl) fun _ _ _ _ _ _ us hl=>L2.bind3 (fun _ _ _=>rfl) us hl
  have zcc:L2.Df K mg "noughts" ["kind", "width"] KL.Zq:=L2.ya KX G (L2.zx qf 11 rfl rfl) fun _ _ _ _ _ _ us hl=>L2.kao (fun _ _=>rfl) us hl
  have Je:L2.Df K mg "difference" ["kind", "one", "other"] KL.jh:=L2.ya KX G (L2.zx qf 12 rfl rfl) fun _ _ _ _ _ _ us hl=>L2.bind3 (fun _ _ _=>rfl) us hl
  have zaM:L2.Df K mg "negative" ["kind", "table"] KL.qC:=L2.ya KX G (L2.zx qf 13 rfl rfl) fun _ _ _ _ _ _ us hl=>L2.kao (fun _ _=>rfl) us hl
  have zb9:L2.Df K mg "abreast" ["one", "other"] KL.Zb:=L2.ya KX G (L2.zx qf 14 rfl rfl) fun _ _ _ _ _ _ us hl=>L2.kao (fun _ _=>rfl) us hl
  have zcX:L2.Df K mg "strung" ["rows"] KL.YI:=L2.ya KX G (L2.zx qf 15 rfl rfl) fun _ _ _ _ _ _ us hl=>L2.bind1 (fun _=>rfl) us hl
  have zdY:L2.Df K mg "turned" ["table"] KL.Yz:=L2.ya KX G (L2.zx qf 16 rfl rfl) fun _ _ _ _ _ _ us hl=>L2.bind1 (fun _=>rfl) us hl
  have zb7:L2.Df K mg "product" ["kind", "one", "other"] KL.Zz:=L2.ya KX G (L2.zx qf 17 rfl rfl) fun _ _ _ _ _ _ us hl=>L2.bind3 (fun _ _ _=>rfl) us hl
  have zgo:L2.Df K mg "unit" ["kind", "size"] KL.zbm:=L2.ya KX G (L2.zx qf 18 rfl rfl) fun _ _ _ _ _ _ us hl=>L2.kao (fun _ _=>rfl) us hl
  have Zu:L2.Df K mg "over_one_bottom" ["kind", "table"] KL.yJ:=L2.ya KX G (L2.zx qf 19 rfl rfl) fun _ _ _ _ _ _ us hl=>L2.kao (fun _ _=>rfl) us hl
  have zbN:L2.Df K mg "leading" ["machine"] KL.qU:=L2.ya KX G (L2.zx qf 20 rfl rfl) fun _ _ _ _ _ _ us hl=>L2.bind1 (fun _=>rfl) us hl
  have ZL:L2.Df K mg "border_factors" ["rows", "size"] KL.yR:=L2.ya KX G (L2.zx qf 21 rfl rfl) fun _ _ _ _ _ _ us hl=>L2.kao (fun _ _=>rfl) us hl
  have XA:L2.Df K mg "whole_great" ["rows"] KL.xR:=L2.ya KX G (L2.zx qf 22 rfl rfl) fun _ _ _ _ _ _ us hl=>L2.bind1 (fun _=>rfl) us hl
  have zeI:L2.Df K mg "great" ["kind", "table"] KL.Jt:=L2.ya KX G (L2.zx qf 23 rfl rfl) fun _ _ _ _ _ _ us hl=>L2.kao (fun _ _=>rfl) us hl
  have ze7:L2.Df K mg "ruled" ["kind", "machine", "F"] KL.Jr:=L2.ya KX G (L2.zx qf 24 rfl rfl) fun _ _ _ _ _ _ us hl=>L2.bind3 (fun _ _ _=>rfl) us hl
  have Xh:L2.Df K mg "put_together" ["kind", "machine", "F", "L"] KL.xD:=L2.ya KX G (L2.zx qf 25 rfl rfl) fun _ _ _ _ _ _ us hl=>L2.bind4 (fun _ _ _ _=>rfl) us hl
  have JA:L2.Df K mg "_law_whole" ["_law_found"] KL.jj:=L2.ya KX G (L2.zx qf 26 rfl rfl) fun _ _ _ _ _ _ us hl=>L2.bind1 (fun _=>rfl) us hl
  have Xa:L2.Df K mg "_law_divisor" ["_law_one", "_law_other"] KL.xv:=L2.ya KX G (L2.zx qf 27 rfl rfl) fun _ _ _ _ _ _ us hl=>L2.kao (fun _ _=>rfl) us hl
  have JD:L2.Df K mg "_law_mixed" ["_law_cell", "_law_k"] KL.jm:=L2.ya KX G (L2.zx qf 28 rfl rfl) fun _ _ _ _ _ _ us hl=>L2.kao (fun _ _=>rfl) us hl
  have JP:L2.Df K mg "_law_drawn" ["_law_prime_here", "_law_cell"] KL.jr:=L2.ya KX G (L2.zx qf 29 rfl rfl) fun _ _ _ _ _ _ us hl=>L2.kao (fun _ _=>rfl) us hl
  have Yv:L2.Df K mg "_law_fraction" ["_law_top", "_law_bottom"] KL.xn:=L2.ya KX G (L2.zx qf 30 rfl rfl) fun _ _ _ _ _ _ us hl=>L2.kao (fun _ _=>rfl) us hl
  have Qq:L2.Df K mg "_law_make" ["_law_prime_here", "_law_whole_here"] KL.jQ:=L2.ya KX G (L2.zx qf 31 rfl rfl) fun _ _ _ _ _ _ us hl=>L2.kao (fun _ _=>rfl) us hl
  have Qn:L2.Df K mg "_law_plus" ["_law_prime_here", "_law_one", "_law_other"] KL.jR:=L2.ya KX G (L2.zx qf 32 rfl rfl) fun _ _ _ _ _ _ us hl=>L2.bind3 (fun _ _ _=>rfl) us hl
  have Jg:L2.Df K mg "_law_times" ["_law_prime_here", "_law_one", "_law_other"] KL.ja:=L2.ya KX G (L2.zx qf 33 rfl rfl) fun _ _ _ _ _ _ us hl=>L2.bind3 (fun _ _ _=>rfl) us hl
  have JE:L2.Df K mg "_law_minus" ["_law_prime_here", "_law_one", "_law_other"] KL.je:=L2.ya KX G (L2.zx qf 34 rfl rfl) fun _ _ _ _ _ _ us hl=>L2.bind3 (fun _ _ _=>rfl) us hl
  have ZM:L2.Df K mg "_law_is_number" ["_law_prime_here", "_law_found"] KL.yQ:=L2.ya KX G (L2.zx qf 35 rfl rfl) fun _ _ _ _ _ _ us hl=>L2.kao (fun _ _=>rfl) us hl
  have Jp:L2.Df K mg "_law_image" ["_law_prime_here", "_law_table", "_law_column"] KL.jn:=L2.ya KX G (L2.zx qf 36 rfl rfl) fun _ _ _ _ _ _ us hl=>L2.bind3 (fun _ _ _=>rfl) us hl
  have XC:L2.Df K mg "_law_across" ["_law_table"] KL.xP:=L2.ya KX G (L2.zx qf 37 rfl rfl) fun _ _ _ _ _ _ us hl=>L2.bind1 (fun _=>rfl) us hl
  have Xc:L2.Df K mg "_law_product" ["_law_prime_here", "_law_one", "_law_other"] KL.xx:=L2.ya KX G (L2.zx qf 38 rfl rfl) fun _ _ _ _ _ _ us hl=>L2.bind3 (fun _ _ _=>rfl) us hl
  have XE:L2.Df K mg "_law_is_row" ["_law_prime_here", "_law_found", "_law_many"] KL.xQ:=L2.ya KX G (L2.zx qf 39 rfl rfl) fun _ _ _ _ _ _ us hl=>L2.bind3 (fun _ _ _=>rfl) us hl
  have YU:L2.Df K mg "_law_is_rows" ["_law_prime_here", "_law_found", "_law_rows", "_law_columns"] KL.xB:=L2.ya KX G (L2.zx qf 40 rfl rfl) fun _ _ _ _ _ _ us hl=>L2.bind4 (fun _ _ _ _=>rfl) us hl
  have JF:L2.Df K mg "_law_prime" ["_law_cell"] KL.yY:=L2.ya KX G (L2.zx qf 41 rfl rfl) fun _ _ _ _ _ _ us hl=>L2.bind1 (fun _=>rfl) us hl
  have zce:L2.Df K mg "_law_at" ["_law_prime_here", "_law_cells", "_law_k"] KL.Zy:=L2.ya KX G (L2.zx qf 42 rfl rfl) fun _ _ _ _ _ _ us hl=>L2.bind3 (fun _ _ _=>rfl) us hl
  have Qd:L2.Df K mg "_law_small" ["_law_prime_here", "_law_cells", "_law_k"] KL.jb:=L2.ya KX G (L2.zx qf 43 rfl rfl) fun _ _ _ _ _ _ us hl=>L2.bind3 (fun _ _ _=>rfl) us hl
  have JK:L2.Df K mg "_law_sorts" ["_law_head", "_law_n", "_law_plain"] KL.jf:=L2.ya KX G (L2.zx qf 44 rfl rfl) fun _ _ _ _ _ _ us hl=>L2.bind3 (fun _ _ _=>rfl) us hl
  have QW:L2.Df K mg "_law_lets" ["_law_row", "_law_column"] KL.jH:=L2.ya KX G (L2.zx qf 45 rfl rfl) fun _ _ _ _ _ _ us hl=>L2.kao (fun _ _=>rfl) us hl
  have Xg:L2.Df K mg "_law_blocked" ["_law_prime_here", "_law_cells", "_law_sizes", "_law_sorts_here"] KL.xy:=L2.ya KX G (L2.zx qf 46 rfl rfl) fun _ _ _ _ _ _ us hl=>L2.bind4 (fun _ _ _ _=>rfl) us hl
  have ZJ:L2.Df K mg "_law_exchanged" ["_law_prime_here", "_law_tables", "_law_cell"] KL.yP:=L2.ya KX G (L2.zx qf 47 rfl rfl) fun _ _ _ _ _ _ us hl=>L2.bind3 (fun _ _ _=>rfl) us hl
  have YT:L2.Df K mg "_law_machine" ["_law_cells", "_law_most"] KL.xC:=L2.ya KX G (L2.zx qf 48 rfl rfl) fun _ _ _ _ _ _ us hl=>L2.kao (fun _ _=>rfl) us hl
  have Ql:L2.Df K mg "_law_copy" ["_law_machine_here"] KL.jL:=L2.ya KX G (L2.zx qf 49 rfl rfl) fun _ _ _ _ _ _ us hl=>L2.bind1 (fun _=>rfl) us hl
  have ZN:L2.Df K mg "_law_poly_plus" ["_law_prime_here", "_law_one", "_law_other"] KL.yS:=L2.ya KX G (L2.zx qf 50 rfl rfl) fun _ _ _ _ _ _ us hl=>L2.bind3 (fun _ _ _=>rfl) us hl
  have Zs:L2.Df K mg "_law_poly_times" ["_law_prime_here", "_law_one", "_law_other"] KL.yI:=L2.ya KX G (L2.zx qf 51 rfl rfl) fun _ _ _ _ _ _ us hl=>L2.bind3 (fun _ _ _=>rfl) us hl
  have xu:L2.Df K mg "_law_det" ["_law_prime_here", "_law_rows"] KL.jz:=L2.ya KX G (L2.zx qf 52 rfl rfl) fun _ _ _ _ _ _ us hl=>L2.kao (fun _ _=>rfl) us hl
  have JU:L2.Df K mg "_law_great" ["_law_prime_here", "_law_table"] KL.ji:=L2.ya KX G (L2.zx qf 53 rfl rfl) fun _ _ _ _ _ _ us hl=>L2.kao (fun _ _=>rfl) us hl
  have Yy:L2.Df K mg "_law_standing" ["_law_prime_here", "_law_cells", "_law_at_here", "_law_n"] KL.xc:=L2.ya KX G (L2.zx qf 54 rfl rfl) fun _ _ _ _ _ _ us hl=>L2.bind4 (fun _ _ _ _=>rfl) us hl
  have zaR:L2.Df K mg "_law_sum" ["_law_prime_here", "_law_one", "_law_other"] KL.qI:=L2.ya KX G (L2.zx qf 55 rfl rfl) fun _ _ _ _ _ _ us hl=>L2.bind3 (fun _ _ _=>rfl) us hl
  have ZD:L2.Df K mg "_law_table_sum" ["_law_prime_here", "_law_one", "_law_other"] KL.yT:=L2.ya KX G (L2.zx qf 56 rfl rfl) fun _ _ _ _ _ _ us hl=>L2.bind3 (fun _ _ _=>rfl) us hl
  have Qh:L2.Df K mg "_law_goes" ["_law_prime_here", "_law_machine_here", "_law_rule", "_law_watcher", "_law_standing_here", "_law_guess"] KL.jJ:=L2.ya KX G (L2.zx qf 57 rfl rfl) fun _ _ _ _ _ _ us hl=>L2.bind6 (fun _ _ _ _ _ _=>rfl) us hl
  have m_abs:mg "abs" = none:=PySem.W.mg_none_of KX G (L2.zx qm 0 rfl rfl)
  have m_all:mg "all" = none:=PySem.W.mg_none_of KX G (L2.zx qm 1 rfl rfl)
  have zdr:mg "bool" = none:=PySem.W.mg_none_of KX G (L2.zx qm 2 rfl rfl)
  have m_int:mg "int" = none:=PySem.W.mg_none_of KX G (L2.zx qm 3 rfl rfl)
  have zS:mg "isinstance" = none:=PySem.W.mg_none_of KX G (L2.zx qm 4 rfl rfl)
  have m_len:mg "len" = none:=PySem.W.mg_none_of KX G (L2.zx qm 5 rfl rfl)
  have yL:mg "list" = none:=PySem.W.mg_none_of KX G (L2.zx qm 6 rfl rfl)
  have m_max:mg "max" = none:=PySem.W.mg_none_of KX G (L2.zx qm 7 rfl rfl)
  have zi:mg "range" = none:=PySem.W.mg_none_of KX G (L2.zx qm 8 rfl rfl)
  have xS:mg "reversed" = none:=PySem.W.mg_none_of KX G (L2.zx qm 9 rfl rfl)
  have JT:mg "sorted" = none:=PySem.W.mg_none_of KX G (L2.zx qm 10 rfl rfl)
  have m_sum:mg "sum" = none:=PySem.W.mg_none_of KX G (L2.zx qm 11 rfl rfl)
  have ZF:mg "tuple" = none:=PySem.W.mg_none_of KX G (L2.zx qm 12 rfl rfl)
  have m_zip:mg "zip" = none:=PySem.W.mg_none_of KX G (L2.zx qm 13 rfl rfl)
  obtain⟨fd,FL,hb⟩:=L2.zhC (st:=KL.zeU) KX G hmg (L2.zx qf 58 rfl rfl) (fun _ _ _ _ _ _ _=>rfl)
  refine⟨fd,hb,fun base _ _ hS=>?_⟩
  have hP:(PySem.Challenge.rw_steermill_k62_whole_put_together).prog.given.tree=none:=rfl
  have a1:=KL.zh5 (P:=zPr) (w:=w) (base:=base) ZV m_abs
  have a2:=KL.zaU hP hS zaO a1
  have a3:=KL.zaV (P:=zPr) (w:=w) (base:=base) hP hS zaq
  have a4:=KL.zco (P:=zPr) (w:=w) (base:=base) zed
  have a7:=KL.zeW zeD a2
  have a8:=KL.zf6 zgB a2 a4 a3
  have a9:=KL.zc6 hP hS zel a1 yL
  have a10:=KL.zgE zav a8 a4
  have a23:=KL.zcg zcc a4
  have a23w:=KL.zfM (P:=zPr) (w:=w) (base:=base) Yj m_sum m_zip
  have a23u:=KL.ze0 (P:=zPr) (w:=w) (base:=base) Yj m_sum m_zip
  have a24:=KL.zgR Zt a10 a23w
  have a26:=KL.zc2 (P:=zPr) (w:=w) (base:=base) zdY zi m_len
  have a28u:=KL.zgw zgo a4 zi m_int
  have e1:=KL.zbZ (P:=zPr) (w:=w) (base:=base) zb9 m_zip
  have e7:=KL.zbK zb7 a26 (KL.Qz a9) a24
  have e8:=KL.zb4 zbN e1
  have e9:=KL.zgc Je a7 m_zip
  have e10:=KL.zg5 zaM e9 a23 m_len
  have e13:=KL.zeC ze7 e7 e8 a28u m_len
  have e14:=KL.zht Xh e7 e10 e13 e9 e1 m_zip
  have f1:=KL.zf3 XI a23u
  have f2:=KL.zec (P:=zPr) (w:=w) (base:=base) zcX
  have f3:=KL.zhj Zu (KL.Qz a9) f2 m_len zi
  have f4:=KL.zhR ZL a23u f1 zi
  have f5:=KL.zh3 XA a23u f4 zi m_len yL xS
  have f6:=KL.ze3 zeI f3 f5 a10 yL xS
  have b4:=KL.zgW (P:=zPr) (w:=w) (base:=base) Xa m_abs
  have b6:=KL.QZ hP hS Yv b4
  have b5:=KL.zeX (P:=zPr) (w:=w) (base:=base) hP hS JD zi
  have b7:=KL.zcl hP hS JP b6
  have b8:=KL.ze1 (P:=zPr) (w:=w) (base:=base) Qq
  have b9:=KL.ze5 Qn b6
  have b10:=KL.zcZ Jg b6
  have b11:=KL.zdo JE b8 b9 b10
  have b12:=KL.zcJ (P:=zPr) (w:=w) (base:=base) hP hS JF
  have b13:=KL.zhK zce b7 b5 m_len
  have b14:=KL.zdl Qd b13
  have b15:=KL.zcB JK b5 zi JT
  have b16:=KL.zeO (P:=zPr) (w:=w) (base:=base) QW
  have b17:=KL.zaF Xg b8 b14 b16 zi
  have b18:=KL.zeN hP hS ZJ b8 b9 b10 b11 m_len m_zip
  have b19:=KL.zaz hP hS YT b12 b15 b17 b18 m_int zi
  have b20:=KL.zdb (P:=zPr) (w:=w) (base:=base) XC zi m_len
  have b21:=KL.zez (P:=zPr) (w:=w) (base:=base) JA zS m_int zdr
  have b22:=KL.zdw ZM b21 b4 zS ZF m_len
  have b23:=KL.zd6 XE b22 zS yL m_len
  have b24:=KL.zb8 YU b23 zS yL m_len m_all
  have b25:=KL.zeT (P:=zPr) (w:=w) (base:=base) Ql ZF yL
  have b26:=KL.zdx Jp b8 b9 b10 zi m_len
  have b27:=KL.Qw Yy b14 zi
  have b30:=KL.zaE Xc b20 b26
  have c28:=KL.zeP ZN b8 b9 zi m_len m_max
  have c29:=KL.zcT Zs b8 b9 b10 zi m_len m_max
  have c0:=KL.zgu (P:=zPr) (w:=w) (base:=base) xu
  have c1:=KL.Xs 0 xu c0 b8 c28 c29 zi m_len
  have c2:=KL.Xs 1 xu c1 b8 c28 c29 zi m_len
  have c3:=KL.Xs 2 xu c2 b8 c28 c29 zi m_len
  have c4:=KL.Xs 3 xu c3 b8 c28 c29 zi m_len
  have c5:=KL.Xs 4 xu c4 b8 c28 c29 zi m_len
  have c6:=KL.zdv JU c5 b8 b11 zi m_len m_int
  have c7:=KL.zfO zaR b9 m_zip
  have c8:=KL.zer ZD c7 m_zip
  have c9:=KL.zfb Qh b26 c7 b11 m_zip
  exact KL.zgJ FL b19 b27 b25 e14 b24 b8 b26 c9 b30 c8 c6 f6 c29 m_len zi yL m_int
#print axioms PySem.Challenge.cw_steermill_k62_whole_put_together_holds
