import PyProof.Rows.All
import Wide.All
import OpenK.AllK
import Wide.FinOn
import Lean
import PyProof.EqAt
import PyProof.EqKinds
import PyProof.TupleCall
import PySem.Challenge.RW_steermill_k41_partings
open List renaming length_map->wa,getElem?_eq_getElem->wb,mem_of_getElem?->wc,getD_eq_getElem?_getD->we,getElem?_map->wg,mem_map->wj,getElem_mem->wk,mem_cons_self->wm,getElem?_eq_some_iff->wo,take_of_length_le->wp,mem_append->wq,mem_cons_of_mem->wr,mem_singleton->wt,length_take->wv,map_append->ww,length_append->wx,mem_append_right->wy,replicate->wD,mem_append_left->wE,mem_cons->wH,getElem_of_mem->wI,getElem?_eq_none->wJ,size_toArray->wK,length_replicate->wQ,of_mem_zip->wR,mem_filter->wW,length_zipWith->wX,range->wY,getElem?_append->vd,length_set->vf,getElem?_set->vk,not_mem_nil->vn,take_length->vo,mem_range->vp,getElem?_range->vv,getElem?_append_right->vw,zipWith->vA,length_range->vB,replicate_succ->vC,getElem?_append_left->vE,take_succ_eq_append_getElem->vG,length_zip->vI,getElem?_zipWith->vJ,length_cons->vK,length_filter_le->vL,append_nil->vP,map_map->vV,getElem?_set_ne->vW,drop->vX,getElem?_set_self->vY,flatten_cons->vZ,eq_nil_of_length_eq_zero->ue,pairwise_cons->uh,replicate_succ'->uk,getElem?_replicate->ul,idxOf_lt_length_of_mem->uo,map_congr_left->uq,length_drop->ut,getElem_zipWith->uw,pairwise_map->uz,all_eq_true->uG,filter_cons->uH,drop_of_length_le->uI,exists_cons_of_ne_nil->uM,getElem?_zip_eq_some->uQ,getElem?_inj->uR,ext_getElem?->uS,mem_of_mem_take->uT,map_fst_zip->uU,pairwise_lt_range->uY,append_assoc->gb,take->gh,map_cons->gw,getD->gx,nodup_cons->gA,eq_of_mem_replicate->gS,getElem?_drop->gW,map_id'->gX,nodup_append->gZ,length->Ga,ext_getElem->Gc,getElem_map->Gd,eraseIdx_sublist->Gf,length_nil->Gh,filterMap_cons->Gp,foldl_append->Gy,map_take->Gz,getElem?_take_of_lt->GA,lookup_cons->GD,getElem_zip->GH,mem_flatten->GL,any_eq_true->GM,pairwise_singleton->GP,foldl_cons->GR,nil_append->GS,length_pos_of_mem->GY,length_singleton->GZ,drop_zero->wag,pairwise_append->wah,mem_of_mem_drop->wai,all_cons->wak,any_cons->wal,map_drop->waq,map->war,mem_filterMap->was,any_eq_false->way,map_snd_zip->waL,sum_append->waQ,foldl->waT,take_zero->waU,sum_nil->wa5,map_set->wa9
open Nat renaming le_refl->wu,le_trans->wF,lt_or_ge->wN,ne_of_lt->wS,lt_of_lt_of_le->wV,pow_le_pow_right->wZ,mul_le_mul_left->vh,mul_le_mul_right->vm,mul_le_mul->vt,zero_le->vz,min_le_left->vD,not_lt_zero->vH,lt_or_eq_of_le->vO,lt_succ_self->vS,lt_irrefl->vT,le_of_lt_succ->ud,lt_of_le_of_lt->ug,one_mul->um,le_of_lt->ur,pow_add->uu,add_mul->uv,lt_succ_of_lt->uy,le_mul_of_pos_right->uB,gcd->uD,one_le_two_pow->uK,mul_comm->uN,add_sub_cancel_left->uV,pow_pos->gf,le_of_eq->gj,pow_succ->gm,min_self->gq,min_eq_right->gv,mul_assoc->gy,pow_mod->gD,mul_one->gK,two_pow_pos->gM,min_eq_left->gO,lt_succ_iff_lt_or_eq->gQ,dvd_trans->Gb,mul_mod->Ge,le_antisymm->Gi,zero_add->Gk,sub_self->Go,eq_zero_or_pos->Gr,le_of_succ_le->Gw,gcd_dvd_right->Gx,mod_eq_of_lt->GE,gcd_dvd_left->GF,coprime_comm->GK,min_le_right->GN,succ_mul->GO,zero_mul->GQ,div_add_mod->GT,pow_mul->wac,mul_sub->wad,le_succ->waf,le_of_dvd->wao,mod_lt->wap,ne_of_gt->wau,pow_zero->wax,lt_trichotomy->waB,dvd_mul_right->waE,le_of_not_lt->waG,mul_lt_mul''->waI,le_add_right->waJ,succ_le_succ->waK,mul_ne_zero->waR,div_lt_self->waS,add_comm->waW,div_self->wa3,lt_trans->wa4,gcd_comm->wa6,le_total->wa7,sub_zero->wa8,one_pow->wbd,gcd_rec->wbe,pow_two->wbf,pow_one->wbg,mul_pos->wbh
open Int renaming fmod_nonneg_of_pos->wG,fmod_lt_of_pos->wL,toNat_natCast->wP,zero_add->wT,gcd->ve,natAbs_mul->vx,fdiv_eq_ediv_of_dvd->vM,natAbs_natCast->vN,mul_le_mul_of_nonneg_left->ux,gcd_eq_natAbs_gcd_natAbs->uE,ediv_mul_cancel->uF,natCast_nonneg->uJ,fmod_eq_emod_of_nonneg->uL,natCast_mul->uP,eq_ofNat_of_zero_le->uW,emod_lt_of_pos->uX,gcd_pos_of_ne_zero_right->uZ,emod_add_mul_ediv->gd,natAbs_pos->gi,lt_or_le->gk,gcd_dvd_left->gu,emod_nonneg->gB,mul_ne_zero->gC,dvd_mul_of_dvd_right->gP,gcd_dvd_right->gY,mul_zero->Gm,zero_dvd->Gn,gcd_pos_of_ne_zero_left->Gq,mul_pos->Gs,fdiv_eq_ediv_of_nonneg->Gu,natAbs_add_le->Gv,natAbs_dvd_natAbs->wae,le_of_dvd->wam,zero_fmod->wan,dvd_zero->wav,gcd_zero->waw,dvd_mul_right->waz,natAbs_sub_le->waA,lt_trichotomy->waD,dvd_sub->waH,dvd_mul_left->waM,natCast_emod->waN,ediv_nonneg->waO,dvd_trans->waV,fmod_def->waX,gcd_comm->waY,zero_mul->waZ,dvd_refl->wa0,mul_comm->wa1,gcd_ediv->wa2,one_mul->wba,neg_dvd->wbb
open Bool renaming false_ne_true->wO,eq_false_iff->uA,eq_iff_iff->uO,and_eq_true->gr,or_eq_false_iff->waj,false_eq_true->wat
open Option renaming map_eq_some_iff->wU,getD_none->waF
open Rat renaming intCast_mul->vg,divInt->vF,intCast_eq_zero_iff->uC,num_divInt_den->gU,divInt_eq_divInt_iff->GB,divInt_ofNat->GC,intCast_add->GU,intCast_inj->GV,intCast_neg->GW,divInt_mul_divInt->waa,divInt_eq_div->waC,num_eq_zero->waP,inv_def->wbc
open Classical renaming byContradiction->vQ,not_forall->Gg,choose_spec->wab
set_option Elab.async false
set_option linter.all false
set_option maxRecDepth 100000
namespace L2
open PySem PySem.Spec PyProof.Rows
noncomputable abbrev Key:=Sum Int Str
noncomputable def keyIs:Key->Value->Bool
 | .inl k,v=>Value.isInt k v
 | .inr x,v=>Value.isStrOf x v
noncomputable def keyH(w:World):Key->Int
 | .inl k=>hashInt k
 | .inr x=>hashStr w x
theorem yD:∀ {k:Key} {v:Value},keyIs k v=true->(∃ i t,k=Sum.inl i/\v=Value.int i t)\/(∃ x t,k=Sum.inr x/\v=Value.str x t)
 | .inl i,v,h=>by
  obtain⟨t,e⟩:=Value.isInt_shape (k:=i) (v:=v) h;exact .inl ⟨i,t,rfl,e⟩
 | .inr x,v,h=>by
  obtain⟨t,e⟩:=Value.isStrOf_shape (x:=x) (v:=v) h;exact .inr ⟨x,t,rfl,e⟩
theorem zjN(a b:Int):decide ((Sum.inl a:Key)=Sum.inl b) =(a == b):=by
 by_cases e:a=b
 ·subst e; simp
 ·have h:¬(Sum.inl a:Key)=Sum.inl b:=fun q=>e (Sum.inl.inj q)
  rw [decide_eq_false h];exact(beq_eq_false_iff_ne.mpr e).symm
theorem zjm(a b:Str):decide ((Sum.inr a:Key)=Sum.inr b)=decide (a=b):=by
 by_cases e:a=b
 ·subst e; simp
 ·have h:¬(Sum.inr a:Key)=Sum.inr b:=fun q=>e (Sum.inr.inj q)
  rw [decide_eq_false h,decide_eq_false e]
theorem ziT(a:Int)(b:Str):decide ((Sum.inl a:Key)=Sum.inr b)=false:=decide_eq_false (fun q=>nomatch q)
theorem zjg(a:Str)(b:Int):decide ((Sum.inr a:Key)=Sum.inl b)=false:=decide_eq_false (fun q=>nomatch q)
noncomputable def mixKind(prog:Program)(w:World):PySem.KeyKind prog w Key where
 is:=keyIs
 hash:=keyH w
 inj:=fun v a b ha hb=>by
  rcases yD ha with⟨i,t,rfl,rfl⟩ | ⟨x,t,rfl,rfl⟩
  ·rcases yD hb with⟨j,u,rfl,e⟩ | ⟨y,u,rfl,e⟩
   ·injection e with e1 _; rw [e1]
   ·exact nomatch e
  ·rcases yD hb with⟨j,u,rfl,e⟩ | ⟨y,u,rfl,e⟩
   ·exact nomatch e
   ·injection e with e1 _; rw [e1]
 byValue:=fun k v h=>by
  rcases yD h with⟨i,t,rfl,rfl⟩ | ⟨x,t,rfl,rfl⟩ <;> rfl
 pyHash:=fun hv h=>by
  rcases yD hv with⟨i,t,rfl,rfl⟩ | ⟨x,t,rfl,rfl⟩
  ·exact wpAny_pyHash_int h
  ·exact wpAny_pyHash_str h
 eqBool:=fun hu hv h=>by
  rcases yD hu with⟨i,t,rfl,rfl⟩ | ⟨x,t,rfl,rfl⟩
  ·rcases yD hv with⟨j,u,rfl,rfl⟩ | ⟨y,u,rfl,rfl⟩
   ·rw [zjN] at h; exact wpAny_eqBool_int h
   ·rw [ziT] at h; exact SeqAt.EqAt.int_str i t y u _ _ _ _ h
  ·rcases yD hv with⟨j,u,rfl,rfl⟩ | ⟨y,u,rfl,rfl⟩
   ·rw [zjg] at h; exact SeqAt.EqAt.str_int x t j u _ _ _ _ h
   ·rw [zjm] at h; exact wpAny_eqBool_str h
 «strs»:=fun k x t v h=>by
  rcases yD h with⟨i,u,rfl,e⟩ | ⟨y,u,rfl,e⟩
  ·exact nomatch e
  ·injection e with e1 _
   subst e1;cases v <;> rfl
end L2
namespace L2
open PySem PySem.Spec PyProof.Rows
inductive V where
 | non | bl (b:Bool) | int (i:Int) | str (x:Str) | byt (b:Array UInt8) | flt (b:UInt64) | ref (a:Addr) | ty (n:String)
 deriving DecidableEq
noncomputable def RelV:V->Value->Prop
 | .non,u=>u=Value.none
 | .bl b,u=>u=Value.bool b
 | .int i,u=>∃ t,u=Value.int i t
 | .str x,u=>∃ t,u=Value.str x t
 | .byt b,u=>∃ t,u=Value.bytes b t
 | .flt b,u=>∃ t,u=Value.float b t
 | .ref a,u=>u=Value.ref a
 | .ty n,u=>u=Value.type n
noncomputable abbrev Vals:List V->List Value->Prop:=Paired RelV
theorem Vals.length{xs:List V}{us:List Value}(r:Vals xs us):xs.length=us.length:=Paired.length r
theorem Vals.get:∀ {xs:List V} {us:List Value} {i:Nat} {x:V},Vals xs us->xs[i]?=some x->∃ u,us[i]?=some u/\RelV x u
 | _,_,_,_,.nil,e=>by simp at e
 | _,_,0,_,.cons r _,e=>by simp at e; subst e; exact⟨_,rfl,r⟩
 | _,_,i+1,x,.cons _ t,e=>by
  obtain⟨u,h1,h2⟩:=Vals.get (i:=i) (x:=x) t (by simpa using e);exact⟨u,by simpa using h1,h2⟩
theorem Vals.set{x:V}{u:Value}(r:RelV x u):∀ {xs:List V} {us:List Value} (i:Nat),Vals xs us->Vals (xs.set i x) (us.set i u)
 | _,_,_,.nil=>.nil
 | _,_,0,.cons _ t=>.cons r t
 | _,_,i+1,.cons q t=>.cons q (Vals.set r i t)
theorem Vals.append:∀ {xs ys:List V} {us ws:List Value},Vals xs us->Vals ys ws->Vals (xs++ys) (us++ws)
 | _,_,_,_,.nil,s=>s
 | _,_,_,_,.cons r t,s=>.cons r (Vals.append t s)
theorem Vals.take:∀ {xs:List V} {us:List Value} (n:Nat),Vals xs us->Vals (xs.take n) (us.take n)
 | _,_,0,_=>.nil
 | _,_,_+1,.nil=>.nil
 | _,_,n+1,.cons r t=>.cons r (Vals.take n t)
theorem Vals.drop:∀ {xs:List V} {us:List Value} (n:Nat),Vals xs us->Vals (xs.drop n) (us.drop n)
 | _,_,0,r=>r
 | _,_,_+1,.nil=>.nil
 | _,_,n+1,.cons _ t=>Vals.drop n t
noncomputable def RelO:Option V->Option Value->Prop
 | some v,some u=>RelV v u
 | none,none=>True
 | _,_=>False
noncomputable def KV{κ:Type}:List (κ×V)->List (κ×Value)->Prop:=Paired fun(p:κ×V) (q:κ×Value)=>p.1=q.1/\RelV p.2 q.2
noncomputable def kV:Key->V
 | .inl i=>.int i
 | .inr x=>.str x
inductive HO where
 | lst (xs:List V)
 | tup (xs:List V)
 | dK (kvs:List (Key×V)) | dT (kvs:List (List Key×V))
 | set (S:Int->Bool) (n:Nat)
 | ins (C dx:Addr) (fs:List (Str×V))
 | own (x:Addr)
 | xd (fs:List (Str×V))
 | met (f x:Addr)
 | rng (lo hi:Int)
 | frz (o:Obj) (u:HO)
 | tbl (ps:Array Value)
 | ext (φ:Heap->Prop)
noncomputable abbrev Hp:=Addr->Option HO
noncomputable def upd(H:Hp)(a:Addr)(o:HO):Hp:=fun b=>if b=a then some o else H b
theorem zh{H:Hp}{a:Addr}{o:HO}:upd H a o a=some o:=by unfold upd; rw [if_pos rfl]
theorem zR{H:Hp}{a b:Addr}{o:HO}(h:b≠a):upd H a o b=H b:=by unfold upd; rw [if_neg h]
theorem yd{H:Hp}{a b:Addr}{o:HO}(h:H a=some o)(h':H b=none):a≠b:=by
 intro e; subst e; rw [h] at h'; cases h'
section
variable(P:Program)(w:World)
noncomputable def ObjOk(H:Hp)(h:Heap)(a:Addr):HO->Prop
 | .lst xs=>xs.length<=sizeLine/\∃(its:List Value)(n:Nat),Vals xs its/\h.get? a=some { cls:=.type "list",data:=.seq its.toArray n }
 | .tup xs=>xs.length<=sizeLine/\∃ its:List Value,Vals xs its/\IsTup h a its.toArray
 | .dK kvs=>kvs.length<=sizeLine/\(a == sysModules)=false/\∃ vs,KV kvs vs/\h.DictOf (mixKind P w) a vs
 | .dT kvs=>kvs.length<=sizeLine/\(a == sysModules)=false/\∃ xs:List (List Key×Addr×Value),
   Paired (fun(p:List Key×V) (q:List Key×Addr×Value)=>p.1=q.1/\H q.2.1=some (.tup (p.1.map kV))/\RelV p.2 q.2.2) kvs xs /\
   ∃ o es ep,h.get? a=some o/\o.ExactDict/\o.data=.dict es ep/\es.toList=xs.map (entryOfKey (tupleKind (mixKind P w)))/\(xs.map (·.1)).Nodup
 | .set S n=>h.SetOf (intKind P w) a S n
 | .ins C dx fs=>H dx=some (.own a)/\fs.length<=1000/\dx≠a/\h.get? a=some (PySem.W.instObj C dx) /\
   ∃ mA,h.Ns1 dx mA/\(∀ f,RelO (fs.lookup f) (mA f))/\PySem.Within mA (fs.map (·.1))
 | .own _=>∃ o,h.get? a=some o
 | .xd fs=>∃ mA,h.Ns1 a mA/\∀ f,RelO (fs.lookup f) (mA f)
 | .rng lo hi=>∃ t u v,h.get? a=some { cls:=.type "range",data:=.fields #[.int lo t,.int hi u,.int 1 v] }
 | .frz o u=>h.get? a=some o/\ObjOk H h a u
 | .tbl ps=>h.get? a=some { cls:=.none,data:=.fields ps }
 | .met f x=>h.get? a=some (PySem.W.methodObj (.ref f) (.ref x))
 | .ext φ=>φ h/\(∃ o,h.get? a=some o)/\∀ h1 h2:Heap,φ h1->(∀ o,h1.get? a=some o->h2.get? a=some o)->φ h2
noncomputable def HOk(H:Hp)(h:Heap):Prop:=∀ a o,H a=some o->ObjOk P w H h a o
end
section
variable{P:Program}{w:World}{H H':Hp}{h h':Heap}{a:Addr}{o:HO}
theorem ObjOk.lt(x:ObjOk P w H h a o):a<h.objs.size:=by
 cases o with
 | lst xs=>obtain⟨_,_,_,_,e⟩:=x; exact Heap.lt_size e
 | tup xs=>obtain⟨_,_,_,p⟩:=x; exact p.lt
 | dK kvs=>obtain⟨_,_,_,_,o,_,_,e,_⟩:=x; exact Heap.lt_size e
 | dT kvs=>obtain⟨_,_,_,_,o,_,_,e,_⟩:=x; exact Heap.lt_size e
 | set S n=>obtain⟨o,_,_,_,e,_⟩:=x; exact Heap.lt_size e
 | ins C dx fs=>obtain⟨_,_,_,e,_⟩:=x; exact Heap.lt_size e
 | own y=>obtain⟨_,e⟩:=x; exact Heap.lt_size e
 | xd fs=>obtain⟨_,⟨_,_,_,e,_⟩,_⟩:=x; exact Heap.lt_size e
 | rng lo hi=>obtain⟨_,_,_,e⟩:=x; exact Heap.lt_size e
 | frz ob u=>obtain⟨e,_⟩:=x; exact Heap.lt_size e
 | tbl ps=>exact Heap.lt_size (show h.get? a=some _ from x)
 | met f y=>exact Heap.lt_size (show h.get? a=some _ from x)
 | ext φ=>obtain⟨_,⟨_,e⟩,_⟩:=x; exact Heap.lt_size e
theorem Paired.mapP{α β:Type}{F G:α->β->Prop}:∀ {l₁:List α} {l₂:List β},Paired F l₁ l₂->(∀ a b,F a b->G a b)->Paired G l₁ l₂
 | _,_,.nil,_=>.nil
 | _,_,.cons r t,f=>.cons (f _ _ r) (Paired.mapP t f)
theorem ObjOk.stay(x:ObjOk P w H h a o)(k:∀ b u,(b=a\/H b=some (.own a))->h.get? b=some u->h'.get? b=some u)
  (ho:∀ b,H b=some (.own a)->H' b=some (.own a)) (ht:∀ b xs,H b=some (.tup xs)->H' b=some (.tup xs)):ObjOk P w H' h' a o:=by
 induction o with
 | lst xs=>obtain⟨z,its,n,r,e⟩:=x; exact⟨z,its,n,r,k _ _ (.inl rfl) e⟩
 | tup xs=>obtain⟨z,its,r,ob,e,c⟩:=x; exact⟨z,its,r,ob,k _ _ (.inl rfl) e,c⟩
 | dK kvs=>obtain⟨z,y,vs,r,ob,es,ep,e,c⟩:=x; exact⟨z,y,vs,r,ob,es,ep,k _ _ (.inl rfl) e,c⟩
 | dT kvs =>
  obtain⟨z,y,xs,r,ob,es,ep,e,c⟩:=x;exact⟨z,y,xs,Paired.mapP r fun p q z=>⟨z.1,ht _ _ z.2.1,z.2.2⟩,ob,es,ep,k _ _ (.inl rfl) e,c⟩
 | set S n=>obtain⟨ob,es,ep,t,e,c⟩:=x; exact⟨ob,es,ep,t,k _ _ (.inl rfl) e,c⟩
 | ins C dx fs =>
  obtain⟨d,z,ne,e,mA,⟨od,es,ep,e2,c⟩,r⟩:=x;exact⟨ho _ d,z,ne,k _ _ (.inl rfl) e,mA,⟨od,es,ep,k _ _ (.inr d) e2,c⟩,r⟩
 | own y=>obtain⟨ob,e⟩:=x; exact⟨ob,k _ _ (.inl rfl) e⟩
 | xd fs=>obtain⟨mA,⟨od,es,ep,e,c⟩,r⟩:=x; exact⟨mA,⟨od,es,ep,k _ _ (.inl rfl) e,c⟩,r⟩
 | rng lo hi=>obtain⟨t,u,v,e⟩:=x; exact⟨t,u,v,k _ _ (.inl rfl) e⟩
 | frz ob u ih=>obtain⟨e,q⟩:=x; exact⟨k _ _ (.inl rfl) e,ih q⟩
 | tbl ps =>
  have e:h.get? a=some { cls:=.none,data:=.fields ps }:=x;show h'.get? a=some { cls:=.none,data:=.fields ps };exact k a _ (.inl rfl) e
 | met f y =>
  have e:h.get? a=some (PySem.W.methodObj (.ref f) (.ref y)):=x;show h'.get? a=some (PySem.W.methodObj (.ref f) (.ref y));exact k a _ (.inl rfl) e
 | ext φ=>obtain⟨p,⟨o,e⟩,st⟩:=x; exact⟨st _ _ p fun o q=>k _ _ (.inl rfl) q,⟨o,k _ _ (.inl rfl) e⟩,st⟩
theorem HOk.lt(x:HOk P w H h)(e:H a=some o):a<h.objs.size:=(x a o e).lt
theorem HOk.fresh(x:HOk P w H h)(e:h.objs.size<=a):H a=none:=by
 cases q:H a with
 | none=>rfl
 | some u=>exact absurd (wV (x.lt q) e) (vT _)
theorem HOk.kept(x:HOk P w H h)(k:∀ b u,h.get? b=some u->h'.get? b=some u):HOk P w H h':=fun a o e =>
 (x a o e).stay (fun b u _ q=>k b u q) (fun _ q=>q) fun _ _ q=>q
theorem HOk.laid(x:HOk P w H h)(k:∀ b u,h.get? b=some u->h'.get? b=some u)(hp:h.objs.size<=a)(new:ObjOk P w (upd H a o) h' a o):HOk P w (upd H a o) h':=fun b u e=>by
 have hn:=x.fresh hp
 by_cases hb:b=a
 ·subst hb; rw [zh] at e; cases e; exact new
 ·rw [zR hb] at e;exact(x b u e).stay (fun c v _ q=>k c v q) (fun c q=>by rw [zR (yd q hn)]; exact q) fun c xs q=>by rw [zR (yd q hn)]; exact q
end
noncomputable def Rd(H:Hp)(a:Addr)(u:HO):Prop:=H a=some u\/∃ o,H a=some (.frz o u)
theorem Rd.ok{P:Program}{w:World}{H:Hp}{h:Heap}{a:Addr}{u:HO}(r:Rd H a u)(x:HOk P w H h):ObjOk P w H h a u:=by
 rcases r with r | ⟨o,r⟩
 ·exact x a u r
 ·obtain⟨_,q⟩:=x a _ r;exact q
noncomputable def Mut:Option HO->Prop
 | some (.lst _)=>True
 | some (.dK _)=>True
 | some (.dT _)=>True
 | some (.set _ _)=>True
 | some (.ins _ _ _)=>True
 | some (.ext _)=>True
 | _=>False
section
variable{P:Program}{w:World}{H:Hp}{h h':Heap}{x e:Addr}{o':HO}
theorem HOk.write(ok:HOk P w H h)(mu:Mut (H x))(he:e=x\/H e=some (.own x))(k:∀ b u,b≠e->h.get? b=some u->h'.get? b=some u)(heo:∃ u,h'.get? e=some u)
  (new:ObjOk P w (upd H x o') h' x o'):HOk P w (upd H x o') h':=fun b u q=>by
 have nown:∀ c y,H c=some (.own y)->c≠x:=fun c y r z=>by subst z; rw [r] at mu; exact mu
 have ntup:∀ c xs,H c=some (.tup xs)->c≠x:=fun c xs r z=>by subst z; rw [r] at mu; exact mu
 by_cases hb:b=x
 ·subst hb; rw [zh] at q; cases q; exact new
 ·rw [zR hb] at q
  by_cases hbe:b=e
  ·have q':H b=some (.own x):=by
    rcases he with z | z
    ·exact absurd (hbe.trans z) hb
    ·rw [hbe]; exact z
   rw [q] at q'; cases q';obtain⟨v,hv⟩:=heo;exact⟨v,by rw [hbe]; exact hv⟩
  ·refine(ok b u q).stay (fun c v hc r=>k c v ?_ r) (fun c r=>by rw [zR (nown c b r)]; exact r) fun c xs r=>by rw [zR (ntup c xs r)]; exact r
   rcases hc with rfl | hc
   ·exact hbe
   ·rintro rfl
    rcases he with z | z
    ·exact nown c b hc z
    ·rw [hc] at z; cases z; exact hb rfl
end
structure Un(fs ex:List Addr)(H H':Hp)(h h':Heap):Prop where
 keep:∀ b o,h.get? b=some o->H b=none->b∉fs->b∉ex->h'.get? b=some o
 slot:∀ b o,h.get? b=some o->H b=none->b∈fs->b∉ex->∃ sl,h'.get? b=some { o with slots:=sl }
 free:∀ b o,h.get? b=some o->H b=none->b∉ex->H' b=none
 there:∀ b o,h.get? b=some o->b∉ex->∃ o',h'.get? b=some o'
 tups:∀ b xs,H b=some (.tup xs)->H' b=some (.tup xs)
 frzs:∀ b o u,H b=some (.frz o u)->H' b=some (.frz o u)
 tbls:∀ b ps,H b=some (.tbl ps)->∃ more,H' b=some (.tbl (ps++more))
section
variable{fs fs' ex ex':List Addr}{H H1 H2:Hp}{h h1 h2 h':Heap}{a x e:Addr}{o:HO}
theorem Un.any(u:Un fs ex H H1 h h1){b:Addr}{ob:Obj}(q:h.get? b=some ob)(n:H b=none)(hx:b∉ex):∃ sl,h1.get? b=some { ob with slots:=sl }:=by
 by_cases hb:b∈fs
 ·exact u.slot b ob q n hb hx
 ·exact⟨ob.slots,u.keep b ob q n hb hx⟩
theorem Un.kept(k:∀ b u,h.get? b=some u->h'.get? b=some u):Un fs ex H H h h' :=
 ⟨fun b ob q _ _ _=>k b ob q,fun b ob q _ _ _=>⟨ob.slots,k b ob q⟩,fun _ _ _ n _=>n,fun b ob q _=>⟨ob,k b ob q⟩,fun _ _ q=>q,fun _ _ _ q=>q,fun _ ps q=>⟨#[],by rw [q]; simp⟩⟩
theorem Un.refl:Un fs ex H H h h:=Un.kept fun _ _ q=>q
theorem Un.laid(k:∀ b u,h.get? b=some u->h'.get? b=some u)(hp:h.objs.size<=a)(hn:H a=none):Un fs ex H (upd H a o) h h' where
 keep:=fun b u q _ _ _=>k b u q
 slot:=fun b u q _ _ _=>⟨u.slots,k b u q⟩
 free:=fun b u q n _=>by rw [zR (wS (wV (Heap.lt_size q) hp))]; exact n
 there:=fun b u q _=>⟨u,k b u q⟩
 tups:=fun b xs q=>by rw [zR (yd q hn)]; exact q
 frzs:=fun b u xs q=>by rw [zR (yd q hn)]; exact q
 tbls:=fun b ps q=>⟨#[],by rw [zR (yd q hn),q]; simp⟩
theorem Un.write(mu:Mut (H x))(he:e=x\/H e=some (.own x))(k:∀ b u,b≠e->h.get? b=some u->h'.get? b=some u)(heo:∃ u,h'.get? e=some u):Un fs ex H (upd H x o) h h':=by
 have hx:∀ b,H b=none->b≠x:=fun b n z=>by subst z; rw [n] at mu; exact mu
 have hb:∀ b,H b=none->b≠e:=fun b n z=>by
  subst z
  rcases he with r | r
  ·exact hx b n r
  ·rw [n] at r; cases r
 have hm:∀ b u,H b=some u->¬ Mut (some u)->b≠x:=fun b u q nm z=>by subst z; rw [q] at mu; exact nm mu
 refine⟨fun b u q n _ _=>k b u (hb b n) q,fun b u q n _ _=>⟨u.slots,k b u (hb b n) q⟩,fun b u q n _=>by rw [zR (hx b n)]; exact n,fun b u q _=>?_,
  fun b xs q=>by rw [zR (hm b _ q fun z=>z)]; exact q,fun b u xs q=>by rw [zR (hm b _ q fun z=>z)]; exact q,fun b ps q=>⟨#[],by rw [zR (hm b _ q fun z=>z),q]; simp⟩⟩
 by_cases hbe:b=e
 ·subst hbe; exact heo
 ·exact⟨u,k b u hbe q⟩
end
noncomputable def trk(h:Heap)(H:Hp):List Addr:=(wY h.objs.size).filter fun a=>(H a).isSome
noncomputable def hidT(h:Heap)(H:Hp):Heap:=PySem.W.hideAll h (trk h H)
theorem zfb(h:Heap)(H:Hp):(hidT h H).objs.size=h.objs.size:=PySem.W.hideAll_size _ _
theorem zhe{h:Heap}{H:Hp}{b:Addr}{o:Obj}(e:h.get? b=some o)(n:H b=none):(hidT h H).get? b=some o :=
 PySem.W.hideAll_get _ e fun hm=>by
  have q:(H b).isSome=true:=(wW.mp hm).2;rw [n] at q; simp at q
theorem zik{h:Heap}{H:Hp}{b:Addr}{o:Obj}(e:(hidT h H).get? b=some o):h.get? b=some o/\H b=none:=by
 have e':h.get? b=some o:=PySem.W.of_hideAll (trk h H) e;refine⟨e',?_⟩;cases q:H b with
 | none=>rfl
 | some x =>
  have hm:b∈trk h H:=wW.mpr ⟨vp.mpr (Heap.lt_size e'),by simp [q]⟩;have z:(hidT h H).get? b=none:=PySem.W.hideAll_none (trk h H) hm;rw [z] at e; cases e
end L2
namespace L2
open PySem PySem.Spec PyProof.Rows
structure Mod(K:PySem.W.Frag)(mg:Str->Option Value)(base:Heap):Prop where
 kin:K.In base
 glob:base.Ns mainGlobals mg
 blt:∃ mb,base.Ns builtinsNs mb/\∀ x:Str,x ≠ "__name__" -> mb x=bootBuiltins x
 nolimit:base.NoLimit
structure Cx where
 prog:Program
 w:World
 K:PySem.W.Frag
 mg:Str->Option Value
 base:Heap
 A:Around
 N:List Str
 s₀:Shared
 H₀:Hp
 env:Env
 outer:List Env
 stack:List Env
 ex:List Addr
 fn:Str->Bool
 calm:Bool
 pn:List (Addr×Obj)
 xe:Value->Shared->Prop
noncomputable def frs(l:List Env):List Addr:=l.filterMap (·.frame)
noncomputable abbrev Cx.fs(X:Cx):List Addr:=frs X.outer
noncomputable def Vis(sc:Scope)(x:Str):Prop:=sc.names.lookup x=some .local\/sc.names.lookup x=some .cell\/sc.names.lookup x=some .free
noncomputable def Loc(sc:Scope)(x:Str):Prop:=sc.names.lookup x=some .local\/sc.names.lookup x=some .cell
noncomputable def Look(env:Env)(h:Heap)(m:Str->Option Value)(x:Str)(u:Value):Prop :=
 (env.kindOf x=some .local/\m x=some u)\/((env.kindOf x=some .cell\/env.kindOf x=some .free)/\∃ c,env.cells.lookup x=some c/\h.IsCell c (some u))
structure Cx.Ok(X:Cx):Prop where
 mod:Mod X.K X.mg X.base
 kind:X.env.scope.kind=.function
 glob:X.env.globals=mainGlobals
 blt:X.env.builtins=builtinsNs
 above:X.s₀.heap.objs.size<=X.env.locals
 inj:∀ x y c,X.env.cells.lookup x=some c->X.env.cells.lookup y=some c->x=y
 has:∀ x,(X.env.kindOf x=some .cell\/X.env.kindOf x=some .free)->∃ c,X.env.cells.lookup x=some c
 cab:∀ x c,X.fn x=true->X.env.cells.lookup x=some c->X.s₀.heap.objs.size<=c
 hd:X.calm=true->X.A.handled=none
 frames:X.A.frames=some X.stack
 stk:X.stack=X.outer\/(X.stack=X.env::X.outer/\X.env.frame=some X.env.locals)
 exf:∀ b∈X.ex,b≠X.env.locals/\∀ x c,X.env.cells.lookup x=some c->c≠b
 bs:∀ b o,X.base.get? b=some o->X.s₀.heap.get? b=some o/\X.H₀ b=none
 bsz:X.base.objs.size<=X.s₀.heap.objs.size
 noex:∀ b o,X.base.get? b=some o->b∉X.ex
 exfs:∀ b∈X.ex,b∉X.fs
 funs:X.s₀.heap.FunFrames X.base X.outer
 frf:∀ b∈X.fs,X.H₀ b=none
structure Inv(X:Cx)(pins:List (Addr×Obj))(σ:List (Option V))(H:Hp)(s:Shared):Prop where
 ok:X.Ok
 os:s.os=X.s₀.os
 bare:AllBare s.gens
 base:Un X.fs X.ex X.H₀ H X.s₀.heap s.heap
 loc:∃ m,s.heap.Ns X.env.locals m/\∀(i:Nat)(x:Str)(v:V),X.N[i]?=some x->σ[i]?=some (some v)->Vis X.env.scope x->∃ u,RelV v u/\Look X.env s.heap m x u
 cell:∀ x c,X.env.cells.lookup x=some c->∃ v,s.heap.IsCell c v
 free:H X.env.locals=none
 freeC:∀ x c,X.env.cells.lookup x=some c->H c=none
 pin:∀ p∈X.pn++pins,s.heap.get? p.1=some p.2/\H p.1=none/\p.1≠X.env.locals/\p.1∉X.fs/\∀ v,p.2.data≠.cell v
 hok:HOk X.prog X.w H s.heap
 len:σ.length=X.N.length
section
variable{X:Cx}{pins:List (Addr×Obj)}{σ:List (Option V)}{H H':Hp}{s:Shared}{h':Heap}
theorem Cx.Ok.nofr(ok:X.Ok){b:Addr}{o:Obj}(e:X.base.get? b=some o):b∉X.fs:=fun hb=>by
 have:=(ok.funs.mem hb).1;rw [e] at this; cases this
theorem Inv.bs(I:Inv X pins σ H s):∀ b o,X.base.get? b=some o->s.heap.get? b=some o/\H b=none:=fun b o e =>
 ⟨I.base.keep b o (I.ok.bs b o e).1 (I.ok.bs b o e).2 (I.ok.nofr e) (I.ok.noex b o e),I.base.free b o (I.ok.bs b o e).1 (I.ok.bs b o e).2 (I.ok.noex b o e)⟩
theorem Inv.bk(I:Inv X pins σ H s):∀ b o,X.base.get? b=some o->s.heap.get? b=some o:=fun b o e=>(I.bs b o e).1
theorem Inv.mod(I:Inv X pins σ H s):Mod X.K X.mg X.base:=I.ok.mod
theorem Inv.kIn(I:Inv X pins σ H s):X.K.In s.heap:=I.ok.mod.kin.keeps I.bk
theorem Inv.nolimit(I:Inv X pins σ H s):s.heap.NoLimit:=I.ok.mod.nolimit.keeps I.bk
theorem Inv.lt(I:Inv X pins σ H s):X.env.locals<s.heap.objs.size:=let ⟨_,hn,_⟩:=I.loc; hn.lt
theorem Inv.sz(I:Inv X pins σ H s):X.s₀.heap.objs.size<=s.heap.objs.size:=wF I.ok.above (ur I.lt)
theorem Inv.nofs(I:Inv X pins σ H s){a:Addr}(h:s.heap.objs.size<=a):a∉X.fs:=fun hb=>by
 obtain⟨_,o,ho,_⟩:=I.ok.funs.mem hb;exact absurd (wV (Heap.lt_size ho) (wF I.sz h)) (vT _)
theorem Inv.cne(I:Inv X pins σ H s):∀ x c,X.env.cells.lookup x=some c->c≠X.env.locals:=fun x c e z=>by
 obtain⟨v,o,ho,hd⟩:=I.cell x c e;obtain⟨m,⟨o',es,ep,ho',hd',_⟩,_⟩:=I.loc;rw [z,ho'] at ho; cases ho; rw [hd'] at hd; cases hd
theorem Inv.funs(I:Inv X pins σ H s):s.heap.FunFrames X.base X.outer:=by
 have all:∀(l:List Env),(∀ b∈frs l,b∈X.fs)->X.s₀.heap.FunFrames X.base l->s.heap.FunFrames X.base l:=by
  intro l
  induction l with
  | nil=>intro _ _; trivial
  | cons env r ih =>
   intro hs hl;obtain⟨hk,⟨L,o,hf,hn,ho,hd⟩,hr⟩:=hl;have hL:L∈X.fs:=hs L (by unfold frs; rw [Gp,hf]; exact wm);obtain⟨sl,e⟩:=I.base.slot L o ho (I.ok.frf L hL) hL fun z=>I.ok.exfs L z hL
   exact⟨hk,⟨L,_,hf,hn,e,hd⟩,ih (fun b hb=>hs b (by unfold frs; rw [Gp,hf]; exact wr _ hb)) hr⟩
 exact all X.outer (fun _ hb=>hb) I.ok.funs
theorem Inv.stack(I:Inv X pins σ H s):s.heap.FunFrames X.base X.stack:=by
 rcases I.ok.stk with e | ⟨e,hf⟩
 ·rw [e]; exact I.funs
 ·rw [e];obtain⟨m,hn,_⟩:=I.loc;refine .cons (by rw [I.ok.kind]; decide) hf hn ?_ I.funs;exact Heap.get?_none_of_le (wF I.ok.bsz I.ok.above)
theorem Inv.stkSub(I:Inv X pins σ H s):∀ b∈frs X.stack,b∈X.env.locals::X.fs:=fun b hb=>by
 rcases I.ok.stk with e | ⟨e,hf⟩
 ·rw [e] at hb; exact wr _ hb
 ·rw [e] at hb;unfold frs at hb;rw [Gp,hf] at hb;exact hb
theorem Inv.stkFree(I:Inv X pins σ H s):∀ b∈frs X.stack,H b=none:=fun b hb=>by
 rcases wH.mp (I.stkSub b hb)with e | hb
 ·rw [e]; exact I.free
 ·obtain⟨_,o,ho,_⟩:=I.ok.funs.mem hb;exact I.base.free b o ho (I.ok.frf b hb) fun z=>I.ok.exfs b z hb
theorem Inv.step{g':Array GenState}{t':Nat}{d':Drawn}{ch:List Addr}(I:Inv X pins σ H s)
  (hch:∀ b∈ch,(b∈X.ex\/X.s₀.heap.objs.size<=b)/\b≠X.env.locals/\(∀ x c,X.env.cells.lookup x=some c->c≠b)/\∀ p∈X.pn++pins,p.1≠b)
  (keep:∀ b o,b≠X.env.locals->b∉X.fs->b∉ch->s.heap.get? b=some o->H b=none->h'.get? b=some o)
  (slot:∀ b o,b≠X.env.locals->b∈X.fs->b∉ch->s.heap.get? b=some o->H b=none->∃ sl,h'.get? b=some { o with slots:=sl }) (free:∀ b o,b∉ch->s.heap.get? b=some o->H b=none->H' b=none)
  (there:∀ b o,b∉ch->s.heap.get? b=some o->∃ o',h'.get? b=some o')
  (tups:∀ b xs,H b=some (.tup xs)->H' b=some (.tup xs)) (frzs:∀ b o u,H b=some (.frz o u)->H' b=some (.frz o u)) (tbls:∀ b ps,H b=some (.tbl ps)->∃ more,H' b=some (.tbl (ps++more)))
  (ns:∀ m,s.heap.Ns X.env.locals m->h'.Ns X.env.locals m) (hok:HOk X.prog X.w H' h') (hg:AllBare g') :
  Inv X pins σ H' { s with heap:=h',gens:=g',drawn:=d',toks:=t' }:=by
 have neL:∀ b o,X.s₀.heap.get? b=some o->b≠X.env.locals:=fun b o e=>wS (wV (Heap.lt_size e) I.ok.above)
 have neC:∀ b o,X.s₀.heap.get? b=some o->b∉X.ex->b∉ch:=fun b o e hx hb=>by
  rcases (hch b hb).1 with z | z
  ·exact hx z
  ·exact absurd (wV (Heap.lt_size e) z) (vT _)
 have cellK:∀ x c,X.env.cells.lookup x=some c->∀ v,s.heap.IsCell c v->h'.IsCell c v:=fun x c e v ⟨o,ho,hd⟩=>by
  have nch:c∉ch:=fun z=>(hch c z).2.2.1 x c e rfl
  by_cases hc:c∈X.fs
  ·obtain⟨sl,q⟩:=slot c o (I.cne x c e) hc nch ho (I.freeC x c e);exact⟨_,q,hd⟩
  ·exact⟨o,keep c o (I.cne x c e) hc nch ho (I.freeC x c e),hd⟩
 refine⟨I.ok,I.os,hg,⟨fun b o e n hb hx=>?_,fun b o e n hb hx=>?_,fun b o e n hx=>?_,fun b o e hx=>?_,fun b xs e=>tups b xs (I.base.tups b xs e),fun b o xs e=>frzs b o xs (I.base.frzs b o xs e),fun b ps e=>?_⟩,?_,fun x c e=>?_,?_,fun x c e=>?_,fun p hp=>?_,hok,I.len⟩
 ·exact keep b o (neL b o e) hb (neC b o e hx) (I.base.keep b o e n hb hx) (I.base.free b o e n hx)
 ·obtain⟨sl,e1⟩:=I.base.slot b o e n hb hx;obtain⟨sl',e2⟩:=slot b _ (neL b o e) hb (neC b o e hx) e1 (I.base.free b o e n hx);exact⟨sl',e2⟩
 ·obtain⟨o',e1⟩:=I.base.there b o e hx;exact free b o' (neC b o e hx) e1 (I.base.free b o e n hx)
 ·obtain⟨o',e1⟩:=I.base.there b o e hx;exact there b o' (neC b o e hx) e1
 ·obtain⟨m1,e1⟩:=I.base.tbls b ps e;obtain⟨m2,e2⟩:=tbls b _ e1;exact⟨m1++m2,by rw [e2,Array.append_assoc]⟩
 ·obtain⟨m,hn,hl⟩:=I.loc;refine⟨m,ns m hn,fun i x v e1 e2 e3=>?_⟩;obtain⟨u,r,l⟩:=hl i x v e1 e2 e3;refine⟨u,r,?_⟩
  rcases l with l | ⟨k,c,e,z⟩
  ·exact .inl l
  ·exact .inr ⟨k,c,e,cellK x c e _ z⟩
 ·obtain⟨v,z⟩:=I.cell x c e;exact⟨v,cellK x c e v z⟩
 ·obtain⟨m,⟨o,_,_,ho,_⟩,_⟩:=I.loc;exact free _ o (fun z=>(hch _ z).2.1 rfl) ho I.free
 ·obtain⟨v,o,ho,hd⟩:=I.cell x c e;exact free c o (fun z=>(hch c z).2.2.1 x c e rfl) ho (I.freeC x c e)
 ·obtain⟨e,n,ne,nf,d⟩:=I.pin p hp;have nch:p.1∉ch:=fun z=>(hch p.1 z).2.2.2 p hp rfl
  exact⟨keep p.1 p.2 ne nf nch e n,free p.1 p.2 nch e n,ne,nf,d⟩
theorem Inv.un{t':Nat}(I:Inv X pins σ H s)(u:Un X.fs [] H H' s.heap h')(hok:HOk X.prog X.w H' h'):Inv X pins σ H' { s with heap:=h',toks:=t' }:=by
 obtain⟨m,⟨o,es,ep,ho,r⟩,_⟩:=id I.loc;obtain⟨sl,hL⟩:=u.any ho I.free (by simp);exact I.step (g':=s.gens) (d':=s.drawn) (ch:=[]) (fun _ z=>nomatch z) (fun b o _ hb _ e n=>u.keep b o e n hb (by simp)) (fun b o _ hb _ e n=>u.slot b o e n hb (by simp)) (fun b o _ e n=>u.free b o e n (by simp)) (fun b o _ e=>u.there b o e (by simp)) u.tups u.frzs u.tbls (fun m' hm=>by
  obtain⟨o',es',ep',ho',r'⟩:=hm;rw [ho] at ho'; cases ho';exact⟨_,es',ep',hL,r'⟩) hok I.bare
theorem Inv.call{g':Array GenState}{t':Nat}{d':Drawn}{ch:List Addr}(I:Inv X pins σ H s)(u:Un (frs X.stack) ch H H' s.heap h')(hok:HOk X.prog X.w H' h')(hg:AllBare g')
  (hch:∀ b∈ch,(b∈X.ex\/X.s₀.heap.objs.size<=b)/\b≠X.env.locals/\(∀ x c,X.env.cells.lookup x=some c->c≠b)/\∀ p∈X.pn++pins,p.1≠b) :
  Inv X pins σ H' { s with heap:=h',gens:=g',drawn:=d',toks:=t' }:=by
 obtain⟨m,⟨o,es,ep,ho,r⟩,_⟩:=id I.loc;obtain⟨sl,hL⟩:=u.any ho I.free fun z=>(hch _ z).2.1 rfl
 exact I.step (ch:=ch) hch (fun b o hL hb hc e n=>u.keep b o e n (fun z=>(wH.mp (I.stkSub b z)).elim hL hb) hc) (fun b o _ _ hc e n=>u.any e n hc) (fun b o hc e n=>u.free b o e n hc) (fun b o hc e=>u.there b o e hc) u.tups u.frzs u.tbls (fun m' hm=>by
  obtain⟨o',es',ep',ho',r'⟩:=hm;rw [ho] at ho'; cases ho';exact⟨_,es',ep',hL,r'⟩) hok hg
theorem Inv.turned{t':Nat}{it:Addr}(I:Inv X pins σ H s)(k:∀ b o,b≠it->s.heap.get? b=some o->h'.get? b=some o)(hn:H it=none)(hL:it≠X.env.locals)
  (h1:it∈X.ex\/X.s₀.heap.objs.size<=it) (h2:∀ x c,X.env.cells.lookup x=some c->c≠it) (h3:∀ p∈X.pn++pins,p.1≠it):Inv X pins σ H { s with heap:=h',toks:=t' }:=by
 have nit:∀ b u,H b=some u->b≠it:=fun b u e z=>by rw [z,hn] at e; cases e
 refine I.step (g':=s.gens) (d':=s.drawn) (ch:=[it]) (fun b hb=>?_) (fun b o _ _ hc e _=>k b o (fun z=>hc (by simp [z])) e) (fun b o _ _ hc e _=>⟨o.slots,k b o (fun z=>hc (by simp [z])) e⟩) (fun _ _ _ _ n=>n)
  (fun b o hc e=>⟨o,k b o (fun z=>hc (by simp [z])) e⟩) (fun _ _ e=>e) (fun _ _ _ e=>e) (fun b ps e=>⟨#[],by rw [e]; simp⟩) (fun m hm=>?_) (fun b u e=>?_) I.bare
 ·have e:b=it:=by simpa using hb
  subst e;exact⟨h1,hL,h2,h3⟩
 ·obtain⟨o,es,ep,ho,r⟩:=hm;exact⟨o,es,ep,k _ o (Ne.symm hL) ho,r⟩
 ·refine(I.hok b u e).stay (fun c v hc q=>k c v ?_ q) (fun _ q=>q) fun _ _ q=>q
  rcases hc with z | z
  ·rw [z]; exact nit b u e
  ·exact nit c _ z
theorem Inv.tok(I:Inv X pins σ H s)(t:Nat):Inv X pins σ H { s with toks:=t }:=I.un (h':=s.heap) (t':=t) Un.refl I.hok
theorem Inv.kept{t':Nat}(I:Inv X pins σ H s)(k:∀ b u,s.heap.get? b=some u->h'.get? b=some u):Inv X pins σ H { s with heap:=h',toks:=t' }:=I.un (Un.kept k) (I.hok.kept k)
theorem Inv.laid{a:Addr}{o:HO}{t':Nat}(I:Inv X pins σ H s)(k:∀ b u,s.heap.get? b=some u->h'.get? b=some u)(hp:s.heap.objs.size<=a)(new:ObjOk X.prog X.w (upd H a o) h' a o) :
  Inv X pins σ (upd H a o) { s with heap:=h',toks:=t' }:=I.un (Un.laid k hp (I.hok.fresh hp)) (I.hok.laid k hp new)
theorem Inv.write{x e:Addr}{o:HO}{t':Nat}(I:Inv X pins σ H s)(mu:Mut (H x))(he:e=x\/H e=some (.own x))(k:∀ b u,b≠e->s.heap.get? b=some u->h'.get? b=some u)(heo:∃ u,h'.get? e=some u)
  (new:ObjOk X.prog X.w (upd H x o) h' x o):Inv X pins σ (upd H x o) { s with heap:=h',toks:=t' }:=I.un (Un.write mu he k heo) (I.hok.write mu he k heo new)
theorem Inv.weak{σ':List (Option V)}(I:Inv X pins σ H s)(hl:σ'.length=σ.length)(w:∀(i:Nat) v,σ'[i]?=some (some v)->σ[i]?=some (some v)):Inv X pins σ' H s :=
 ⟨I.ok,I.os,I.bare,I.base,let ⟨m,hn,hl'⟩:=I.loc;⟨m,hn,fun i x v e1 e2 e3=>hl' i x v e1 (w i v e2) e3⟩,I.cell,I.free,I.freeC,I.pin,I.hok,hl.trans I.len⟩
theorem Inv.pins_of{pins':List (Addr×Obj)}(I:Inv X pins σ H s)(h:∀ p∈pins',s.heap.get? p.1=some p.2/\H p.1=none/\p.1≠X.env.locals/\p.1∉X.fs/\∀ v,p.2.data≠.cell v):Inv X pins' σ H s :=
 ⟨I.ok,I.os,I.bare,I.base,I.loc,I.cell,I.free,I.freeC,fun p hp=>(wq.mp hp).elim (fun z=>I.pin p (wE _ z)) (h p),I.hok,I.len⟩
theorem zdd{N:List Str}(hN:N.Nodup){i j:Nat}{x:Str}(a:N[i]?=some x)(b:N[j]?=some x):i=j:=by
 obtain⟨h1,e1⟩:=wo.mp a;obtain⟨h2,e2⟩:=wo.mp b;exact(List.getElem_inj hN).mp (e1.trans e2.symm)
theorem zbQ{M:Model}{A:Around}{E:Value->Shared->Prop}{i:Nat}{x:Str}{v:V}{u:Value}{Q:Unit->Shared->Prop}(I:Inv X pins σ H s)(hN:X.N.Nodup)(hi:X.N[i]?=some x)(hx:Loc X.env.scope x)(r:RelV v u)
  (h:∀ s',Inv X pins (σ.set i (some v)) H s'->(∃ a,Heap.SameBut a s.heap s'.heap/\(a=X.env.locals\/X.env.cells.lookup x=some a))->Q () s') (hf:X.fn x=true\/X.env.scope.names.lookup x=some .local:=by first | exact .inl rfl | exact .inr rfl | assumption):wpAny M A (storeName X.env x u) Q E s:=by
 obtain⟨m,hn,hl⟩:=id I.loc;have hcls:(X.env.scope.kind == .class || (X.env.scope.kind == .module && X.env.locals != X.env.globals))=false:=by rw [I.ok.kind]; rfl
 have hiσ:i<σ.length:=by rw [I.len]; exact(wo.mp hi).1
 have cne:=I.cne;have tracked:∀ {a:Addr} {h':Heap},(∃ o,s.heap.get? a=some o/\H a=none)->Heap.SameBut a s.heap h'->HOk X.prog X.w H h':=fun {a h'} ha hs b ob e=>by
  obtain⟨_,_,hfree⟩:=ha;refine(I.hok b ob e).stay (fun c w' hc q=>(hs.2 c ?_).trans q) (fun _ q=>q) fun _ _ q=>q
  rintro rfl
  rcases hc with rfl | hc
  ·rw [hfree] at e; cases e
  ·rw [hfree] at hc; cases hc
 rcases hx with hk | hk
 ·refine wpAny_storeName_local hk hn (fun h' hn' hs=>?_) hcls;obtain⟨oL,_,_,hoL,_⟩:=id hn;refine h _ ⟨I.ok,I.os,I.bare,⟨fun b o e n hb hx=>?_,fun b o e n hb hx=>?_,I.base.free,fun b o e hx=>?_,I.base.tups,I.base.frzs,I.base.tbls⟩,⟨_,hn',fun j y v' e1 e2 e3=>?_⟩,fun y c e=>?_,I.free,I.freeC,fun p hp=>?_,tracked ⟨oL,hoL,I.free⟩ hs,by simpa using I.len⟩ ⟨_,hs,.inl rfl⟩
  ·exact(hs.2 b (wS (wV (Heap.lt_size e) I.ok.above))).trans (I.base.keep b o e n hb hx)
  ·obtain⟨sl,e1⟩:=I.base.slot b o e n hb hx;exact⟨sl,(hs.2 b (wS (wV (Heap.lt_size e) I.ok.above))).trans e1⟩
  ·obtain⟨o',e1⟩:=I.base.there b o e hx;exact⟨o',(hs.2 b (wS (wV (Heap.lt_size e) I.ok.above))).trans e1⟩
  ·by_cases hj:j=i
   ·subst hj;rw [hi] at e1; cases e1;rw [vY hiσ] at e2;cases e2;exact⟨u,r,.inl ⟨hk,by simp⟩⟩
   ·rw [vW (Ne.symm hj)] at e2;obtain⟨u',r',q⟩:=hl j y v' e1 e2 e3;refine⟨u',r',?_⟩
    rcases q with⟨k,e⟩ | ⟨k,c,e,z⟩
    ·refine .inl ⟨k,?_⟩;have:y≠x:=fun e=>hj (zdd hN e1 (e ▸ hi))
     simp [this,e]
    ·exact .inr ⟨k,c,e,z.sameBut hs (cne y c e)⟩
  ·obtain⟨w',z⟩:=I.cell y c e;exact⟨w',z.sameBut hs (cne y c e)⟩
  ·obtain⟨e,n,ne,nf,d⟩:=I.pin p hp;exact⟨(hs.2 p.1 ne).trans e,n,ne,nf,d⟩
 ·have hfn:X.fn x=true:=by
   rcases hf with z | z
   ·exact z
   ·rw [z] at hk; cases hk
  obtain⟨c,hc⟩:=I.ok.has x (.inl hk);obtain⟨w',z⟩:=I.cell x c hc;refine wpAny_storeName_cell I.ok.kind hk hc z (fun h' hc' hs=>?_);obtain⟨oc,hoc,hocd⟩:=id z;refine h { s with heap:=h' } ⟨I.ok,I.os,I.bare,⟨fun b o e n hb hx=>?_,fun b o e n hb hx=>?_,I.base.free,fun b o e hx=>?_,I.base.tups,I.base.frzs,I.base.tbls⟩,⟨m,hn.sameBut hs (Ne.symm (cne x c hc)),fun j y v' e1 e2 e3=>?_⟩,fun y c' e=>?_,I.free,I.freeC,fun p hp=>?_,tracked ⟨oc,hoc,I.freeC x c hc⟩ hs,by simpa using I.len⟩ ⟨c,hs,.inr hc⟩
  ·exact(hs.2 b (wS (wV (Heap.lt_size e) (I.ok.cab x c hfn hc)))).trans (I.base.keep b o e n hb hx)
  ·obtain⟨sl,e1⟩:=I.base.slot b o e n hb hx;exact⟨sl,(hs.2 b (wS (wV (Heap.lt_size e) (I.ok.cab x c hfn hc)))).trans e1⟩
  ·obtain⟨o',e1⟩:=I.base.there b o e hx;exact⟨o',(hs.2 b (wS (wV (Heap.lt_size e) (I.ok.cab x c hfn hc)))).trans e1⟩
  ·by_cases hj:j=i
   ·subst hj;rw [hi] at e1; cases e1;rw [vY hiσ] at e2;cases e2;exact⟨u,r,.inr ⟨.inl hk,c,hc,hc'⟩⟩
   ·rw [vW (Ne.symm hj)] at e2;obtain⟨u',r',q⟩:=hl j y v' e1 e2 e3;refine⟨u',r',?_⟩
    rcases q with q | ⟨k,c',e,z'⟩
    ·exact .inl q
    ·refine .inr ⟨k,c',e,z'.sameBut hs ?_⟩
     rintro rfl
     exact hj (zdd hN e1 (I.ok.inj _ _ _ e hc ▸ hi))
  ·by_cases hcc:c'=c
   ·subst hcc; exact⟨_,hc'⟩
   ·obtain⟨w2,z2⟩:=I.cell y c' e;exact⟨w2,z2.sameBut hs hcc⟩
  ·obtain⟨e,n,ne,nf,d⟩:=I.pin p hp;refine⟨(hs.2 p.1 ?_).trans e,n,ne,nf,d⟩;intro q;rw [q,hoc] at e;have q':oc=p.2:=Option.some.inj e;exact d w' (by rw [← q']; exact hocd)
theorem ZG{M:Model}{A:Around}{E:Value->Shared->Prop}{i:Nat}{x:Str}{v:V}{u:Value}{Q:Unit->Shared->Prop}(I:Inv X pins σ H s)(hN:X.N.Nodup)(hi:X.N[i]?=some x)(hx:Loc X.env.scope x)(r:RelV v u)
  (h:∀ s',Inv X pins (σ.set i (some v)) H s'->Q () s') (hf:X.fn x=true\/X.env.scope.names.lookup x=some .local:=by first | exact .inl rfl | exact .inr rfl | assumption):wpAny M A (storeName X.env x u) Q E s :=
 zbQ I hN hi hx r (fun s' I' _=>h s' I') hf
theorem Inv.call'{s':Shared}{ch:List Addr}(I:Inv X pins σ H s)(ho:s'.os=s.os)(u:Un (frs X.stack) ch H H' s.heap s'.heap)(hok:HOk X.prog X.w H' s'.heap)(hg:AllBare s'.gens)
  (hch:∀ b∈ch,(b∈X.ex\/X.s₀.heap.objs.size<=b)/\b≠X.env.locals/\(∀ x c,X.env.cells.lookup x=some c->c≠b)/\∀ p∈X.pn++pins,p.1≠b):Inv X pins σ H' s':=by
 obtain⟨h',g',d',t',o'⟩:=s';have e:o'=s.os:=ho;subst e;exact I.call (g':=g') (t':=t') (d':=d') u hok hg hch
end
noncomputable abbrev XK:=Value->Option Addr->Hp->Prop
noncomputable abbrev St:=List (Option V)
noncomputable abbrev VK:=V->Hp->Prop
noncomputable abbrev TE:=St->Hp->VK->Prop
noncomputable abbrev TT:=St->Hp->(Bool->Hp->Prop)->Prop
noncomputable abbrev TA:=St->Hp->(List V->Hp->Prop)->Prop
structure Ends where
 nx:St->Hp->Prop
 rt:VK
 bk:St->Hp->Prop:=fun _ _=>False
 ct:St->Hp->Prop:=fun _ _=>False
noncomputable abbrev TS:=Ends->St->Hp->Prop
noncomputable def EP(X:Cx)(pins:List (Addr×Obj))(σ:St)(Q:VK)(u:Value)(s':Shared):Prop:=∃ v H',Inv X pins σ H' s'/\RelV v u/\Q v H'
noncomputable def TP(X:Cx)(pins:List (Addr×Obj))(σ:St)(Q:Bool->Hp->Prop)(b:Bool)(s':Shared):Prop:=∃ H',Inv X pins σ H' s'/\Q b H'
noncomputable def AP(X:Cx)(pins:List (Addr×Obj))(σ:St)(Q:List V->Hp->Prop)(us:List Value)(s':Shared):Prop:=∃ vs H',Inv X pins σ H' s'/\Vals vs us/\Q vs H'
noncomputable def SP(X:Cx)(pins:List (Addr×Obj))(D:Ends)(f:Flow)(s':Shared):Prop :=
 match f with
 | .next=>∃ σ' H',Inv X pins σ' H' s'/\D.nx σ' H'
 | .brk=>∃ σ' H',Inv X pins σ' H' s'/\D.bk σ' H'
 | .cont=>∃ σ' H',Inv X pins σ' H' s'/\D.ct σ' H'
 | .ret u=>∃ v σ' H',Inv X pins σ' H' s'/\RelV v u/\D.rt v H'
noncomputable def PE(X:Cx)(e:Expr)(t:TE):Prop :=
 ∀(pins:List (Addr×Obj))(s:Shared)(σ:St)(H:Hp)(Q:VK),Inv X pins σ H s->t σ H Q->wpAny (model X.prog X.w) X.A (eval e X.env) (EP X pins σ Q) X.xe s
noncomputable def PT(X:Cx)(e:Expr)(t:TT):Prop :=
 ∀(pins:List (Addr×Obj))(s:Shared)(σ:St)(H:Hp)(Q:Bool->Hp->Prop),Inv X pins σ H s->t σ H Q->wpAny (model X.prog X.w) X.A (isTrue e X.env (eval e X.env)) (TP X pins σ Q) X.xe s
noncomputable def PW(X:Cx)(e:Expr)(t:TT):Prop :=
 ∀(whole:Sem Value)(pins:List (Addr×Obj))(s:Shared)(σ:St)(H:Hp)(Q:Bool->Hp->Prop),Inv X pins σ H s->t σ H Q->wpAny (model X.prog X.w) X.A (isTrue e X.env whole) (TP X pins σ Q) X.xe s
theorem PW.pt{X:Cx}{e:Expr}{t:TT}(h:PW X e t):PT X e t:=h _
noncomputable def PA(X:Cx)(es:List Expr)(t:TA):Prop :=
 ∀(pos:Pos)(pins:List (Addr×Obj))(s:Shared)(σ:St)(H:Hp)(Q:List V->Hp->Prop),Inv X pins σ H s->t σ H Q->wpAny (model X.prog X.w) X.A (spliced (backTo pos (starEach es X.env))) (AP X pins σ Q) X.xe s
noncomputable def PS(X:Cx)(st:Stmt)(t:TS):Prop :=
 ∀(pins:List (Addr×Obj))(s:Shared)(σ:St)(H:Hp)(D:Ends),Inv X pins σ H s->t D σ H->wpAny (model X.prog X.w) X.A (exec st X.env) (SP X pins D) X.xe s
noncomputable def PSs(X:Cx)(st:List Stmt)(t:TS):Prop :=
 ∀(pins:List (Addr×Obj))(s:Shared)(σ:St)(H:Hp)(D:Ends),Inv X pins σ H s->t D σ H->wpAny (model X.prog X.w) X.A (execs st X.env) (SP X pins D) X.xe s
theorem thn{α:Type}{t:Sem α}{Q Q':α->Shared->Prop}{M:Model}{A:Around}{E:Value->Shared->Prop}{s:Shared}(h:wpAny M A t Q E s)(hQ:∀ a s,Q a s->Q' a s):wpAny M A t Q' E s:=wpAny_mono h hQ fun _ _ x=>x
end L2
namespace L2
open PySem PySem.Spec PyProof.Rows
section
variable{X:Cx}
inductive zhB(i:Nat)(σ:St)(H:Hp)(Q:VK):Prop where
 | mk (v:V) (h0_:σ[i]?=some (some v)) (h1_:Q v H):zhB i σ H Q
noncomputable def tVar(i:Nat):TE:=fun σ H Q=>zhB i σ H Q
noncomputable def tC(v:V):TE:=fun _ H Q=>Q v H
theorem zjs {i:Nat} {x:Str} {pos:Pos} (hN:X.N[i]?=some x) (hv:Vis X.env.scope x) (hd:(x ==("__debug__" : Str))=false:=by decide) (hcd:(x ==("__classdict__" : Str))=false:=by decide):PE X (.Name x pos) (tVar i):=by
 intro pins s σ H Q I h;obtain⟨v,e,h⟩:=h;obtain⟨m,hn,hl⟩:=I.loc;obtain⟨u,r,l⟩:=hl i x v hN e hv;have fin:EP X pins σ Q u s:=⟨v,H,I,r,h⟩
 rcases l with⟨hk,hm⟩ | ⟨hk,c,hc,hcell⟩
 ·exact wpAny_Name (wpAny_loadName_local I.ok.kind hk hn hm fin) hd
 ·rcases hk with hk | hk
  ·exact wpAny_Name (wpAny_loadName_cell I.ok.kind hk hc hcell fin) hd
  ·exact wpAny_Name (wpAny_loadName_free I.ok.kind hk hc hcell fin hcd) hd
theorem ze{i j pos}:PE X (.Constant (.int i) j pos) (tC (.int i)):=fun _ _ _ H _ I h=>wpAny_Constant_int ⟨.int i,H,I.tok _,⟨_,rfl⟩,h⟩
theorem ZP{b j pos}:PE X (.Constant (.bool b) j pos) (tC (.bl b)):=fun _ _ _ H _ I h=>Constant_bool ⟨.bl b,H,I,rfl,h⟩
noncomputable def Gl(X:Cx)(x:Str):Prop:=X.env.kindOf x=some .globalImplicit
theorem zfC{E:Value->Shared->Prop}{pins:List (Addr×Obj)}{s:Shared}{σ:St}{H:Hp}{x:Str}{u:Value}{pos:Pos}{Q:Value->Shared->Prop}(I:Inv X pins σ H s)(hg:Gl X x)(hm:X.mg x=some u)(h:Q u s)
  (hd:(x ==("__debug__" : Str))=false:=by decide):wpAny (model X.prog X.w) X.A (eval (.Name x pos) X.env) Q E s :=
 Calls.Name_function_global I.ok.kind hg (Calls.loadGlobal_global (by rw [I.ok.glob]; exact I.mod.glob.keeps I.bk) hm h) hd
theorem za7{E:Value->Shared->Prop}{pins:List (Addr×Obj)}{s:Shared}{σ:St}{H:Hp}{x:Str}{u:Value}{pos:Pos}{Q:Value->Shared->Prop}(I:Inv X pins σ H s)(hg:Gl X x)(hm:X.mg x=none)(hv:bootBuiltins x=some u)(h:Q u s)
  (hn:x ≠ "__name__" := by decide) (hd:(x ==("__debug__" : Str))=false:=by decide):wpAny (model X.prog X.w) X.A (eval (.Name x pos) X.env) Q E s:=by
 obtain⟨mb,h1,h2⟩:=I.mod.blt;exact Calls.Name_function_global I.ok.kind hg (Calls.loadGlobal_builtin (by rw [I.ok.glob]; exact I.mod.glob.keeps I.bk) hm (by rw [I.ok.blt]; exact h1.keeps I.bk) ((h2 x hn).trans hv) h) hd
theorem ze0 {x:Str} {v:V} {u:Value} {pos:Pos} (hg:Gl X x) (hm:X.mg x=some u) (r:RelV v u) (hd:(x ==("__debug__" : Str))=false:=by decide):PE X (.Name x pos) (tC v) :=
 fun _ _ _ H _ I h=>zfC I hg hm ⟨v,H,I,r,h⟩ hd
theorem zie {x:Str} {v:V} {u:Value} {pos:Pos} (hg:Gl X x) (hm:X.mg x=none) (hv:bootBuiltins x=some u) (r:RelV v u) (hn:x ≠ "__name__" := by decide) (hd:(x ==("__debug__" : Str))=false:=by decide):PE X (.Name x pos) (tC v) :=
 fun _ _ _ H _ I h=>za7 I hg hm hv ⟨v,H,I,r,h⟩ hn hd
variable{a b:Expr}{ta tb:TE}{pos:Pos}
inductive I_tB(x:V)(H1:Hp)(Q:Bool->Hp->Prop):Prop where
 | mk (c:Bool) (h0_:x=.bl c) (h1_:Q c H1):I_tB x H1 Q
noncomputable def tB(t:TE):TT:=fun σ H Q=>t σ H fun x H1=>I_tB x H1 Q
theorem xZ{e:Expr}{t:TE}(h:PE X e t)(he:∀ whole,isTrue e X.env whole =(do let v ← whole; standAt e.pos; holding [v] (truthy v)):=by intro _; rfl):PT X e (tB t):=by
 intro pins s σ H Q I hw;refine isTrue_plain (thn (h pins s σ H _ I hw) fun v s1 ⟨x,H1,I1,r1,q1⟩=>?_) (he _);obtain⟨d,rfl,q⟩:=q1;cases r1;exact wpAny_truthy_bool ⟨H1,I1,q⟩
variable{tA tB':TT}{rest:List Expr}
noncomputable def tAnd(t u:TT):TT:=fun σ H Q=>t σ H fun c H1=>if c=true then u σ H1 Q else Q false H1
noncomputable def tOr(t u:TT):TT:=fun σ H Q=>t σ H fun c H1=>if c=true then Q true H1 else u σ H1 Q
noncomputable def tNot(t:TT):TT:=fun σ H Q=>t σ H fun c H1=>Q (!c) H1
theorem pw_and1(ha:PT X a tA):PW X (.BoolOp .And [a] pos) tA:=by
 intro wh pins s σ H Q I h;refine isTrue_and (thn (ha pins s σ H Q I h) fun c s1 e=>?_);cases c with
 | true=>exact isTrue_and_nil e
 | false=>exact e
theorem pw_or1(ha:PT X a tA):PW X (.BoolOp .Or [a] pos) tA:=by
 intro wh pins s σ H Q I h;refine isTrue_or (thn (ha pins s σ H Q I h) fun c s1 e=>?_);cases c with
 | false=>exact isTrue_or_nil e
 | true=>exact e
theorem pw_and(ha:PT X a tA)(hb:PW X (.BoolOp .And (b::rest) pos) tB'):PW X (.BoolOp .And (a::b::rest) pos) (tAnd tA tB'):=by
 intro wh pins s σ H Q I h;refine isTrue_and (thn (ha pins s σ H _ I h) fun c s1 ⟨H1,I1,q1⟩=>?_);cases c with
 | true=>exact hb wh pins s1 σ H1 Q I1 q1
 | false=>exact⟨H1,I1,q1⟩
theorem pw_or(ha:PT X a tA)(hb:PW X (.BoolOp .Or (b::rest) pos) tB'):PW X (.BoolOp .Or (a::b::rest) pos) (tOr tA tB'):=by
 intro wh pins s σ H Q I h;refine isTrue_or (thn (ha pins s σ H _ I h) fun c s1 ⟨H1,I1,q1⟩=>?_);cases c with
 | true=>exact⟨H1,I1,q1⟩
 | false=>exact hb wh pins s1 σ H1 Q I1 q1
theorem jS(ha:PT X a tA):PT X (.UnaryOp .Not a pos) (tNot tA):=by
 intro pins s σ H Q I h;exact isTrue_not (ha pins s σ H (fun c H1=>Q (!c) H1) I h)
noncomputable def tAndV(ta tb:TE):TE:=fun σ H Q=>ta σ H fun x H1=>∃ c,x=.bl c/\if c=true then tb σ H1 Q else Q (.bl false) H1
noncomputable def tOrV(ta tb:TE):TE:=fun σ H Q=>ta σ H fun x H1=>∃ c,x=.bl c/\if c=true then Q (.bl true) H1 else tb σ H1 Q
noncomputable def tNotV(ta:TE):TE:=fun σ H Q=>ta σ H fun x H1=>∃ c,x=.bl c/\Q (.bl (!c)) H1
theorem ZO{op}{t:TE}(h:PE X a t):PE X (.BoolOp op [a] pos) t:=fun pins s σ H Q I hw=>BoolOp_one (h pins s σ H Q I hw)
theorem JV(ha:PE X a ta)(hb:PE X (.BoolOp .And (b::rest) pos) tb):PE X (.BoolOp .And (a::b::rest) pos) (tAndV ta tb):=by
 intro pins s σ H Q I h;refine BoolOp_and (thn (ha pins s σ H _ I h) fun v s1 ⟨x,H1,I1,r1,q1⟩=>?_);obtain⟨c,rfl,q1⟩:=q1;cases r1;refine wpAny_truthy_bool ?_;cases c with
 | true=>exact hb pins s1 σ H1 Q I1 q1
 | false=>exact⟨.bl false,H1,I1,rfl,q1⟩
theorem zgF(ha:PE X a ta)(hb:PE X (.BoolOp .Or (b::rest) pos) tb):PE X (.BoolOp .Or (a::b::rest) pos) (tOrV ta tb):=by
 intro pins s σ H Q I h;refine BoolOp_or (thn (ha pins s σ H _ I h) fun v s1 ⟨x,H1,I1,r1,q1⟩=>?_);obtain⟨c,rfl,q1⟩:=q1;cases r1;refine wpAny_truthy_bool ?_;cases c with
 | false=>exact hb pins s1 σ H1 Q I1 q1
 | true=>exact⟨.bl true,H1,I1,rfl,q1⟩
theorem zi0(ha:PE X a ta):PE X (.UnaryOp .Not a pos) (tNotV ta):=by
 intro pins s σ H Q I h;refine UnaryOp_ (thn (ha pins s σ H _ I h) fun v s1 ⟨x,H1,I1,r1,q1⟩=>?_);obtain⟨c,rfl,q1⟩:=q1;cases r1;exact not_of (wpAny_truthy_bool ⟨.bl (!c),H1,I1,rfl,q1⟩)
noncomputable def tIf(t:TT)(ta tb:TE):TE:=fun σ H Q=>t σ H fun c H1=>if c=true then ta σ H1 Q else tb σ H1 Q
theorem zg2{c:Expr}(hc:PT X c tA)(ha:PE X a ta)(hb:PE X b tb):PE X (.IfExp c a b pos) (tIf tA ta tb):=by
 intro pins s σ H Q I h;refine wpAny_IfExp (thn (hc pins s σ H _ I h) fun d s1 ⟨H1,I1,q1⟩=>?_);cases d with
 | true=>exact ha pins s1 σ H1 Q I1 q1
 | false=>exact hb pins s1 σ H1 Q I1 q1
end
end L2
namespace L2
open PySem PySem.Spec PyProof.Rows
noncomputable def SqL(K:PySem.W.Frag)(H:Hp)(a:Addr)(xs:List V):Prop :=
 Rd H a (.lst xs) \/
  ∃(o:Obj)(its:Array Value)(n:Nat),K.lookup a=some o/\o.cls=.type "list" /\ o.dict=none/\o.data=.seq its n/\its.size<=sizeLine/\Vals xs its.toList
noncomputable def SqT(K:PySem.W.Frag)(H:Hp)(a:Addr)(xs:List V):Prop :=
 Rd H a (.tup xs) \/
  ∃(o:Obj)(its:Array Value)(n:Nat),K.lookup a=some o/\o.cls=.type "tuple" /\ o.data=.seq its n/\its.size<=sizeLine/\Vals xs its.toList
noncomputable def absV:Value->Option V
 | .none=>some .non
 | .bool b=>some (.bl b)
 | .int i _=>some (.int i)
 | .str x _=>some (.str x)
 | .bytes b _=>some (.byt b)
 | .float b _=>some (.flt b)
 | .ref a=>some (.ref a)
 | .type n=>some (.ty n)
 | _=>none
theorem RelV.abs{x:V}{u:Value}(r:RelV x u):absV u=some x:=by
 cases x with
 | non=>cases r; rfl
 | bl _=>cases r; rfl
 | int _=>obtain⟨t,rfl⟩:=r; rfl
 | str _=>obtain⟨t,rfl⟩:=r; rfl
 | byt _=>obtain⟨t,rfl⟩:=r; rfl
 | flt _=>obtain⟨t,rfl⟩:=r; rfl
 | ref _=>cases r; rfl
 | ty _=>cases r; rfl
theorem RelV.inj{x y:V}{u:Value}(r:RelV x u)(q:RelV y u):x=y:=Option.some.inj (r.abs.symm.trans q.abs)
theorem Vals.inj:∀ {xs ys:List V} {us:List Value},Vals xs us->Vals ys us->xs=ys
 | _,_,_,.nil,.nil=>rfl
 | _,_,_,.cons r t,.cons r' t'=>by rw [r.inj r',Vals.inj t t']
section
variable{X:Cx}{pins:List (Addr×Obj)}{σ:St}{H:Hp}{s:Shared}{a:Addr}{xs ys:List V}
theorem SqL.of{K:PySem.W.Frag}(h:H a=some (.lst xs)):SqL K H a xs:=.inl (.inl h)
theorem SqT.of{K:PySem.W.Frag}(h:H a=some (.tup xs)):SqT K H a xs:=.inl (.inl h)
theorem Inv.list(I:Inv X pins σ H s)(h:SqL X.K H a xs):∃ its:List Value,Vals xs its/\PlainL s.heap a its.toArray/\xs.length<=sizeLine:=by
 rcases h with h | ⟨o,its,n,hk,hc,hd,hs,hz,r⟩
 ·obtain⟨z,its,n,r,e⟩:=h.ok I.hok;exact⟨its,r,⟨_,n,e,rfl,rfl,rfl⟩,z⟩
 ·refine⟨its.toList,r,⟨o,n,I.kIn a o hk,hc,hd,by simpa using hs⟩,?_⟩;have e:=r.length;simp only [Array.length_toList] at e;omega
theorem Inv.tuple(I:Inv X pins σ H s)(h:SqT X.K H a xs):∃ its:List Value,Vals xs its/\IsTup s.heap a its.toArray/\xs.length<=sizeLine:=by
 rcases h with h | ⟨o,its,n,hk,hc,hs,hz,r⟩
 ·obtain⟨z,its,r,p⟩:=h.ok I.hok;exact⟨its,r,p,z⟩
 ·refine⟨its.toList,r,⟨o,I.kIn a o hk,hc,n,by simpa using hs⟩,?_⟩;have e:=r.length;simp only [Array.length_toList] at e;omega
theorem Inv.list_inj(I:Inv X pins σ H s)(h:SqL X.K H a xs)(h':SqL X.K H a ys):xs=ys:=by
 obtain⟨its,r,⟨o,n,e,_,_,d⟩,_⟩:=I.list h;obtain⟨its',r',⟨o',n',e',_,_,d'⟩,_⟩:=I.list h';rw [e] at e'; cases e';rw [d] at d'
 injection d' with d1 _
 have:its=its':=by simpa using congrArg Array.toList d1
 subst this;exact r.inj r'
theorem Inv.tuple_inj(I:Inv X pins σ H s)(h:SqT X.K H a xs)(h':SqT X.K H a ys):xs=ys:=by
 obtain⟨its,r,⟨o,e,_,n,d⟩,_⟩:=I.tuple h;obtain⟨its',r',⟨o',e',_,n',d'⟩,_⟩:=I.tuple h';rw [e] at e'; cases e';rw [d] at d'
 injection d' with d1 _
 have:its=its':=by simpa using congrArg Array.toList d1
 subst this;exact r.inj r'
end
noncomputable abbrev Cx.wish(X:Cx)(E:Value->Shared->Prop):Cx:={ X with xe:=E }
noncomputable abbrev Cx.nox(X:Cx):Cx:=X.wish fun _ _=>False
theorem Cx.Ok.wish{X:Cx}(ok:X.Ok)(E:Value->Shared->Prop):(X.wish E).Ok :=
 ⟨ok.mod,ok.kind,ok.glob,ok.blt,ok.above,ok.inj,ok.has,ok.cab,ok.hd,ok.frames,ok.stk,ok.exf,ok.bs,ok.bsz,ok.noex,ok.exfs,ok.funs,ok.frf⟩
theorem Cx.Ok.unwish{X:Cx}{E:Value->Shared->Prop}(ok:(X.wish E).Ok):X.Ok :=
 ⟨ok.mod,ok.kind,ok.glob,ok.blt,ok.above,ok.inj,ok.has,ok.cab,ok.hd,ok.frames,ok.stk,ok.exf,ok.bs,ok.bsz,ok.noex,ok.exfs,ok.funs,ok.frf⟩
section
variable{X:Cx}{pins:List (Addr×Obj)}{σ:St}{H:Hp}{s:Shared}{E:Value->Shared->Prop}
theorem Inv.wish(I:Inv X pins σ H s)(E:Value->Shared->Prop):Inv (X.wish E) pins σ H s:=⟨I.ok.wish E,I.os,I.bare,I.base,I.loc,I.cell,I.free,I.freeC,I.pin,I.hok,I.len⟩
theorem Inv.unwish(I:Inv (X.wish E) pins σ H s):Inv X pins σ H s:=⟨I.ok.unwish,I.os,I.bare,I.base,I.loc,I.cell,I.free,I.freeC,I.pin,I.hok,I.len⟩
theorem SP.unwish{D:Ends}{f:Flow}{s':Shared}(h:SP (X.wish E) pins D f s'):SP X pins D f s':=by
 cases f with
 | next=>obtain⟨σ',H',I,q⟩:=h; exact⟨σ',H',I.unwish,q⟩
 | brk=>obtain⟨σ',H',I,q⟩:=h; exact⟨σ',H',I.unwish,q⟩
 | cont=>obtain⟨σ',H',I,q⟩:=h; exact⟨σ',H',I.unwish,q⟩
 | ret u=>obtain⟨v,σ',H',I,r,q⟩:=h; exact⟨v,σ',H',I.unwish,r,q⟩
theorem PSs.nox{st:List Stmt}{t:TS}(h:PSs X.nox st t):PSs X st t:=fun pins s σ H D I hw =>
 wpAny_mono (h pins s σ H D (I.wish _) hw) (fun _ _ q=>q.unwish) fun _ _ z=>False.elim z
end
section
variable{X:Cx}{st:Stmt}{rest:List Stmt}{t u:TS}{e:Expr}{te:TE}{pos:Pos}
noncomputable def tNext:TS:=fun D σ H=>D.nx σ H
noncomputable def tSeq(t u:TS):TS:=fun D σ H=>t { D with nx:=u D } σ H
theorem zK:PSs X [] tNext:=fun _ _ σ H _ I h=>wpAny_execs_nil ⟨σ,H,I,h⟩
theorem zc(h1:PS X st t)(h2:PSs X rest u):PSs X (st::rest) (tSeq t u):=by
 intro pins s σ H D I h;refine wpAny_execs_cons (thn (h1 pins s σ H { D with nx:=u D } I h) fun f s1 q=>?_);cases f with
 | next =>
  obtain⟨σ',H',I',q⟩:=q;exact h2 pins s1 σ' H' D I' q
 | ret v=>exact q
 | brk=>exact q
 | cont=>exact q
theorem zg(h1:PS X st t):PSs X [st] t:=by
 intro pins s σ H D I h;refine wpAny_execs_cons (thn (h1 pins s σ H D I h) fun f s1 q=>?_);cases f with
 | next=>exact wpAny_execs_nil q
 | ret v=>exact q
 | brk=>exact q
 | cont=>exact q
theorem Inv.quiet{pins:List (Addr×Obj)}{σ:St}{H:Hp}{s:Shared}(I:Inv X pins σ H s):interactive X.env=false:=by simp [interactive,I.ok.kind]
noncomputable def tDrop(te:TE):TS:=fun D σ H=>te σ H fun _ H1=>D.nx σ H1
theorem xV(he:PE X e te)(hs:swapsWith e none pos.line X.env=pure false:=by rfl):PS X (.Expr e pos) (tDrop te):=by
 intro pins s σ H D I h;exact wpAny_Expr_any (thn (he pins s σ H _ I h) fun v s1 ⟨x,H1,I1,r1,q1⟩=>⟨σ,H1,I1,q1⟩) I.quiet hs
noncomputable def tRet(te:TE):TS:=fun D σ H=>te σ H D.rt
theorem zp(he:PE X e te):PS X (.Return (some e) pos) (tRet te):=by
 intro pins s σ H D I h;exact wpAny_Return_some (thn (he pins s σ H _ I h) fun v s1 ⟨x,H1,I1,r1,q1⟩=>⟨x,σ,H1,I1,r1,q1⟩)
noncomputable def tIfS(c:TT)(t u:TS):TS:=fun D σ H=>c σ H fun b H1=>if b=true then t D σ H1 else u D σ H1
theorem yj{c:Expr}{a b:List Stmt}{tc:TT}(hc:PT X c tc)(ha:PSs X a t)(hb:PSs X b u):PS X (.If c a b pos) (tIfS tc t u):=by
 intro pins s σ H D I h;refine wpAny_If (thn (hc pins s σ H _ I h) fun d s1 ⟨H1,I1,q1⟩=>?_);cases d with
 | true=>exact ha pins s1 σ H1 D I1 q1
 | false=>exact hb pins s1 σ H1 D I1 q1
noncomputable def tNever:TS:=fun _ _ _=>False
theorem zdj:PS X st tNever:=fun _ _ _ _ _ _ h=>h.elim
end
noncomputable abbrev TG:=V->St->Hp->(St->Hp->Prop)->Prop
noncomputable abbrev TGs:=List V->St->Hp->(St->Hp->Prop)->Prop
noncomputable def PG(X:Cx)(target:Expr)(t:TG):Prop :=
 ∀(pins:List (Addr×Obj))(s:Shared)(σ:St)(H:Hp)(v:V)(u:Value)(Q:St->Hp->Prop),Inv X pins σ H s->RelV v u->t v σ H Q ->
  wpAny (model X.prog X.w) X.A (assign target X.env u) (fun _ s'=>∃ σ' H',Inv X pins σ' H' s'/\Q σ' H') X.xe s
noncomputable def PGs(X:Cx)(ts:List Expr)(t:TGs):Prop :=
 ∀(pins:List (Addr×Obj))(s:Shared)(σ:St)(H:Hp)(vs:List V)(us:List Value)(Q:St->Hp->Prop),Inv X pins σ H s->Vals vs us->t vs σ H Q ->
  wpAny (model X.prog X.w) X.A (assignInOrder ((assignEach ts X.env).map (·.2)) us) (fun _ s'=>∃ σ' H',Inv X pins σ' H' s'/\Q σ' H') X.xe s
noncomputable abbrev TSet:=V->V->V->Hp->(Hp->Prop)->Prop
noncomputable def PSet(X:Cx)(t:TSet):Prop :=
 ∀(pins:List (Addr×Obj))(s:Shared)(σ:St)(H:Hp)(o i v:V)(ov iv u:Value)(Q:Hp->Prop),Inv X pins σ H s->RelV o ov->RelV i iv->RelV v u->t o i v H Q ->
  wpAny (model X.prog X.w) X.A (setItem ov iv u) (fun _ s'=>∃ H',Inv X pins σ H' s'/\Q H') X.xe s
noncomputable abbrev TIp:=V->V->Hp->VK->Prop
noncomputable def PIp(X:Cx)(op:Operator)(t:TIp):Prop :=
 ∀(pins:List (Addr×Obj))(s:Shared)(σ:St)(H:Hp)(x y:V)(v u:Value)(Q:VK),Inv X pins σ H s->RelV x v->RelV y u->t x y H Q ->
  wpAny (model X.prog X.w) X.A (inplaceOp op v u) (EP X pins σ Q) X.xe s
section
variable{X:Cx}{pos:Pos}
noncomputable def gName(i:Nat):TG:=fun v σ H Q=>Q (σ.set i (some v)) H
theorem zi{i:Nat}{x:Str}(hN:X.N.Nodup)(hi:X.N[i]?=some x)(hx:Loc X.env.scope x)(hf:X.fn x=true\/X.env.scope.names.lookup x=some .local:=by first | exact .inl rfl | exact .inr rfl | assumption):PG X (.Name x pos) (gName i):=by
 intro pins s σ H v u Q I r h;exact wpAny_assign_Name (ZG I hN hi hx r (fun s' I'=>⟨_,H,I',h⟩) hf)
noncomputable def gNil:TGs:=fun vs σ H Q=>vs=[]/\Q σ H
inductive zeH(t:TG)(u:TGs)(vs:List V)(σ:St)(H:Hp)(Q:St->Hp->Prop):Prop where
 | mk (v:V) (r:List V) (h0_:vs=v::r) (h1_:t v σ H fun σ' H'=>u r σ' H' Q):zeH t u vs σ H Q
noncomputable def gCons(t:TG)(u:TGs):TGs:=fun vs σ H Q=>zeH t u vs σ H Q
theorem xB:PGs X [] gNil:=by
 intro pins s σ H vs us Q I r h;obtain⟨e,h⟩:=h;subst e;cases r;exact assignInOrder_nil ⟨σ,H,I,h⟩
theorem zT{e:Expr}{es:List Expr}{t:TG}{u:TGs}(h1:PG X e t)(h2:PGs X es u)
  (hs:(assignEach (e::es) X.env).map (·.2)=assign e X.env ::(assignEach es X.env).map (·.2):=by rfl):PGs X (e::es) (gCons t u):=by
 intro pins s σ H vs us Q I r h;obtain⟨v,vr,e1,h⟩:=h;subst e1;cases r with
 | cons r rr =>
  rw [hs];refine assignInOrder_cons (thn (h1 pins s σ H _ _ _ I r h) fun _ s1 ⟨σ1,H1,I1,q1⟩=>?_);exact h2 pins s1 σ1 H1 _ _ Q I1 rr q1
inductive zhU(K:PySem.W.Frag)(n:Nat)(t:TGs)(v:V)(σ:St)(H:Hp)(Q:St->Hp->Prop):Prop where
 | mk (a:Addr) (xs:List V) (h0_:v=.ref a) (h1_:SqT K H a xs) (h2_:xs.length=n) (h3_:t xs σ H Q):zhU K n t v σ H Q
noncomputable def gTup(K:PySem.W.Frag)(n:Nat)(t:TGs):TG:=fun v σ H Q=>zhU K n t v σ H Q
theorem zjd{es:List Expr}{k:Nat}{t:TGs}{n:Nat}(hc:X.calm=true)(h:PGs X es t)
  (hn:(assignEach es X.env).length=n:=by rfl) (hst:(assignEach es X.env).findIdx? (·.1)=none:=by rfl):PG X (.Tuple es k pos) (gTup X.K n t):=by
 intro pins s σ H v u Q I r hw;obtain⟨a,xs,e1,hq,hl,hw⟩:=hw;subst e1;cases r;obtain⟨its,rv,ht,hz⟩:=I.tuple hq;refine assign_Tuple_tuple (I.ok.hd hc) ht (by simp [hn,← hl,rv.length]) hst fun h' hx=>?_
 have I1:Inv X pins σ H { s with heap:=h' }:=I.kept (t':=s.toks) fun b o e=>hx b o (wS (Heap.lt_size e)) e
 exact h pins _ σ H xs _ Q I1 (by simpa using rv) hw
noncomputable def gSub(to ti:TE)(t:TSet):TG:=fun v σ H Q=>to σ H fun o H1=>ti σ H1 fun i H2=>t o i v H2 fun H3=>Q σ H3
theorem YT{o i:Expr}{to ti:TE}{t:TSet}(ho:PE X o to)(hi:PE X i ti)(hs:PSet X t)
  (ha:∀ v,assign (.Subscript o i pos) X.env v =(do
   let ov ← holding [v] (eval o X.env)
   let iv ← holding [v,ov] (eval i X.env)
   standAt pos
   holding [v,ov,iv] (setItem ov iv v)
   release [v,ov,iv] []):=by intro _; rfl):PG X (.Subscript o i pos) (gSub to ti t):=by
 intro pins s σ H v u Q I r h;rw [ha];refine wpAny_bind (wpAny_holding (thn (ho pins s σ H _ I h) fun ov s1 ⟨x,H1,I1,r1,q1⟩=>?_));refine wpAny_bind (wpAny_holding (thn (hi pins s1 σ H1 _ I1 q1) fun iv s2 ⟨y,H2,I2,r2,q2⟩=>?_));refine wpAny_bind (wpAny_standAt (wpAny_bind (wpAny_holding (thn (hs pins s2 σ H2 x y v ov iv u _ I2 r1 r2 r q2) fun _ s3 ⟨H3,I3,q3⟩=>?_))));exact wpAny_release ⟨σ,H3,I3,q3⟩
noncomputable def tAsg(te:TE)(g:TG):TS:=fun D σ H=>te σ H fun x H1=>g x σ H1 D.nx
theorem jA{tg e:Expr}{te:TE}{g:TG}(he:PE X e te)(hg:PG X tg g)(hs:swapsWithSole [tg] e pos.line X.env=pure false:=by rfl)(hw:swappedStores [tg] e X.env=pure none:=by rfl)
  (h1:(assignEach [tg] X.env).map (·.2)=[assign tg X.env]:=by rfl):PS X (.Assign [tg] e pos) (tAsg te g):=by
 intro pins s σ H D I h;refine wpAny_Assign_stores (thn (he pins s σ H _ I h) fun v s1 ⟨x,H1,I1,r1,q1⟩=>?_) hs hw;rw [h1];exact thn (hg pins s1 σ H1 x v _ I1 r1 q1) fun _ s2 q=>q
theorem zm{i:Nat}{x:Str}{e:Expr}{te:TE}{pos':Pos}(hN:X.N.Nodup)(hi:X.N[i]?=some x)(hx:Loc X.env.scope x)(he:PE X e te)(hs:swapsWith e (some (.Name x pos')) pos.line X.env=pure false:=by rfl)(hf:X.fn x=true\/X.env.scope.names.lookup x=some .local:=by first | exact .inl rfl | exact .inr rfl | assumption) :
  PS X (.Assign [.Name x pos'] e pos) (tAsg te (gName i)):=by
 intro pins s σ H D I h;refine wpAny_Assign_Name (thn (he pins s σ H _ I h) fun v s1 ⟨y,H1,I1,r1,q1⟩=>?_) hs;exact ZG I1 hN hi hx r1 (fun s2 I2=>⟨_,H1,I2,q1⟩) hf
noncomputable def tPar(i j:Nat)(ta:TA):TS:=fun D σ H=>ta σ H fun vs H1=>∃ v w,vs=[v,w]/\D.nx ((σ.set i (some v)).set j (some w)) H1
theorem zjE{i j:Nat}{x y:Str}{a b:Expr}{ta:TA}{px py pt:Pos}{kt k2 pt2}(hc:X.calm=true)(hN:X.N.Nodup)(hi:X.N[i]?=some x)(hj:X.N[j]?=some y)(hij:i≠j)
  (hx:X.env.scope.names.lookup x=some .local) (hy:X.env.scope.names.lookup y=some .local) (ha:PA X [a,b] ta)
  (hw:swappedStores [.Tuple [.Name x px,.Name y py] kt pt] (.Tuple [a,b] k2 pt2) X.env=pure (some [x,y]))
  (hs:swapsWithSole [.Tuple [.Name x px,.Name y py] kt pt] (.Tuple [a,b] k2 pt2) pos.line X.env=pure false:=by rfl) :
  PS X (.Assign [.Tuple [.Name x px,.Name y py] kt pt] (.Tuple [a,b] k2 pt2) pos) (tPar i j ta):=by
 intro pins s σ H D I h;rw [exec_Assign_arm];refine wpAny_bind (wpAny_standAt ?_);rw [hs];refine wpAny_bind (wpAny_pure ?_);rw [if_neg (by decide)];refine wpAny_bind (Tuple_ (thn (ha _ pins s σ H _ I h) fun us s1 ⟨vs,H1,I1,r1,q1⟩=>?_));obtain⟨v,w,e1,q1⟩:=q1;subst e1;obtain⟨u1,u2,rfl,rv,rw'⟩ : ∃ u1 u2,us=[u1,u2]/\RelV v u1/\RelV w u2:=by
  cases r1 with
  | cons p q =>
   cases q with
   | cons p' q' =>
    cases q';exact⟨_,_,rfl,p,p'⟩
 refine wpAny_newObj_type ?_ (by show 2<=sizeLine; decide);have I2:Inv X pins σ H1 { s1 with heap:=s1.heap.push { cls:=.type "tuple",data:=.seq [u1,u2].toArray } }:=I1.kept (t':=s1.toks) fun b o e=>Heap.get?_push_of_some _ e
 rw [hw];refine wpAny_bind (wpAny_pure ?_);show wpAny (model X.prog X.w) X.A (do rule "assign.swapped-stores"; let items ← unpackItems (.ref s1.heap.objs.size) 2 none; assignInOrder [fun v=>bindName X.env y v,fun v=>bindName X.env x v] items.reverse; pure Flow.next) _ _ _;refine wpAny_bind (wpAny_rule (wpAny_bind (unpackItems_tuple (items:=#[u1,u2]) (I.ok.hd hc) (IsTup.new s1.heap _) fun h' hx'=>?_)));have I3:=I2.kept (h':=h') (t':=s1.toks) fun b o e=>hx' b o (wS (Heap.lt_size e)) e
 show wpAny _ _ (assignInOrder [fun v=>bindName X.env y v,fun v=>bindName X.env x v] [u2,u1] >>= fun _=>pure Flow.next) _ _ _;refine wpAny_bind (assignInOrder_cons (wpAny_bindName (ZG I3 hN hj (.inl hy) rw' (fun s2 I4=>?_) (.inr hy))));refine assignInOrder_cons (wpAny_bindName (ZG I4 hN hi (.inl hx) rv (fun s3 I5=>assignInOrder_nil (wpAny_pure ?_)) (.inr hx)));rw [List.set_comm _ _ (Ne.symm hij)] at I5;exact⟨_,H1,I5,q1⟩
noncomputable def tAug(i:Nat)(te:TE)(ti:TIp):TS:=fun D σ H=>∃ x,σ[i]?=some (some x)/\te σ H fun y H1=>ti x y H1 fun z H2=>D.nx (σ.set i (some z)) H2
theorem zi6{i:Nat}{x:Str}{e:Expr}{te:TE}{op:Operator}{ti:TIp}{pos':Pos}(hN:X.N.Nodup)(hi:X.N[i]?=some x)(hx:Loc X.env.scope x)(he:PE X e te)(ho:PIp X op ti)(hf:X.fn x=true\/X.env.scope.names.lookup x=some .local:=by first | exact .inl rfl | exact .inr rfl | assumption) :
  PS X (.AugAssign (.Name x pos') op e pos) (tAug i te ti):=by
 intro pins s σ H D I h;obtain⟨v,e1,h⟩:=h;obtain⟨m,hn,hl⟩:=I.loc;have vis:Vis X.env.scope x:=by rcases hx with k | k; exact .inl k; exact .inr (.inl k)
 obtain⟨u,r,l⟩:=hl i x v hi e1 vis;refine wpAny_AugAssign_Name ?_;have go:wpAny (model X.prog X.w) X.A (eval e X.env) (fun w s₂=>wpAny (model X.prog X.w) X.A (inplaceOp op u w) (fun r s₃=>wpAny (model X.prog X.w) X.A (storeName X.env x r) (fun _=>SP X pins D .next) X.xe s₃) X.xe s₂) X.xe s:=by
  refine thn (he pins s σ H _ I h) fun w s1 ⟨y,H1,I1,r1,q1⟩=>?_
  refine thn (ho pins s1 σ H1 v y u w _ I1 r r1 q1) fun z s2 ⟨zv,H2,I2,r2,q2⟩=>?_
  exact ZG I2 hN hi hx r2 (fun s3 I3=>⟨_,H2,I3,q2⟩) hf
 rcases l with⟨hk,hm⟩ | ⟨hk,c,hc,hcell⟩
 ·exact wpAny_loadName_local I.ok.kind hk hn hm go
 ·rcases hk with hk | hk
  ·exact wpAny_loadName_cell I.ok.kind hk hc hcell go
  ·rcases hx with k | k
   ·have:X.env.scope.names.lookup x=some .free:=hk;rw [k] at this; cases this
   ·have:X.env.scope.names.lookup x=some .free:=hk;rw [k] at this; cases this
noncomputable def ipI(f:Int->Int->Int):TIp:=fun x y H Q=>∃ i j,x=.int i/\y=.int j/\Q (.int (f i j)) H
theorem zjF:PIp X .Add (ipI fun i j=>i+j):=by
 intro pins s σ H x y v u Q I r1 r2 h;obtain⟨i,j,e1,e2,q⟩:=h;subst e1; subst e2;obtain⟨t,rfl⟩:=r1;obtain⟨t',rfl⟩:=r2;exact iadd_int ⟨.int _,H,I.tok _,⟨_,rfl⟩,q⟩
end
section
variable{X:Cx}{pos:Pos}
noncomputable def tWhile(c:TT)(tb:TS):TS:=fun D σ H=>∃ W:Nat->St->Hp->Prop,(∃ m,W m σ H)/\∀ m σ H,W m σ H ->
 c σ H fun b H1=>if b=true then ∃ N:St->Hp->Prop,(∀ σ' H',N σ' H'->∃ m',m'<m/\W m' σ' H')/\tb { D with nx:=N,ct:=N,bk:=D.nx } σ H1 else D.nx σ H1
theorem qp{c:Expr}{body:List Stmt}{tc:TT}{tb:TS}(hp:PassesOwn (model X.prog X.w) X.A X.env X.xe)(hc:PT X c tc)(hb:PSs X body tb):PS X (.While c body [] pos) (tWhile tc tb):=by
 intro pins s σ H D I h;obtain⟨W,⟨m0,w0⟩,turn⟩:=h;refine wpAny_While (codeAny_whileLoop (fun n s'=>∃ σ' H',Inv X pins σ' H' s'/\W n σ' H') ?_ m0 ⟨σ,H,I,w0⟩)
 rintro n s1 ⟨σ1,H1,I1,w1⟩
 refine wpAny_passesOwn hp (thn (hc pins s1 σ1 H1 _ I1 (turn n σ1 H1 w1)) fun b s2 ⟨H2,I2,q2⟩=>?_);cases b with
 | true =>
  obtain⟨N,hN,q2⟩:=q2;rw [if_pos rfl];refine wpAny_passesOwn hp (thn (hb pins s2 σ1 H2 _ I2 q2) fun f s3 q3=>?_);cases f with
  | next =>
   obtain⟨σ3,H3,I3,n3⟩:=q3;obtain⟨m',hm,w3⟩:=hN σ3 H3 n3;exact⟨m',hm,σ3,H3,I3,w3⟩
  | cont =>
   obtain⟨σ3,H3,I3,n3⟩:=q3;obtain⟨m',hm,w3⟩:=hN σ3 H3 n3;exact⟨m',hm,σ3,H3,I3,w3⟩
  | brk=>exact q3
  | ret v=>exact q3
 | false =>
  rw [if_neg wO];exact wpAny_execs_nil ⟨σ1,H2,I2,q2⟩
end
structure It where
 go:Nat->Hp->Prop
 yld:Nat->Hp->V->Hp->Prop
 stop:Nat->Hp->Prop
noncomputable def FpOk(X:Cx)(pins:List (Addr×Obj))(H:Hp)(b:Addr):Prop :=
 H b=none/\b≠X.env.locals/\b∉X.fs/\(b∈X.ex\/X.s₀.heap.objs.size<=b)/\(∀ x c,X.env.cells.lookup x=some c->c≠b)/\∀ p∈X.pn++pins,p.1≠b
theorem Inv.fpOk{X:Cx}{pins:List (Addr×Obj)}{σ:St}{H H':Hp}{s:Shared}{b:Addr}(I:Inv X pins σ H s)(hb:s.heap.objs.size<=b)(hn:H' b=none):FpOk X pins H' b:=by
 refine⟨hn,wau (wV I.lt hb),I.nofs hb,.inr (wF I.sz hb),fun x c e z=>?_,fun p hp z=>?_⟩
 ·obtain⟨v,q⟩:=I.cell x c e;exact absurd (wV q.lt (by rw [z]; exact hb)) (vT _)
 ·exact absurd (wV (Heap.lt_size (I.pin p hp).1) (by rw [z]; exact hb)) (vT _)
structure Turn(P:Program)(w:World)(K:PySem.W.Frag)(tg:Expr)(J:It)(fp:List Addr)(it:Addr)(tn:Nat->Heap->Prop):Prop where
 mem:it∈fp
 obj:∀ i h,tn i h->∀ b∈fp,∃ o,h.get? b=some o/\∀ v,o.data≠.cell v
 keep:∀ i h h',tn i h->(∀ b∈fp,∀ o,h.get? b=some o->h'.get? b=some o)->tn i h'
 item:∀(X:Cx),X.prog=P->X.w=w->X.K=K->X.calm=true->∀(i:Nat)(pins:List (Addr×Obj))(s:Shared)(σ:St)(H:Hp)(E:Value->Shared->Prop),Inv X pins σ H s->(∀ b∈fp,FpOk X pins H b)->tn i s.heap->J.go i H ->
  wpAny (model P w) X.A (pyNext (.ref it)) (fun r s1=>∃ u,r=some u /\
   wpAny (model P w) X.A (letOwnedTupleGo tg (.ref it) u) (fun _ s2=>∃ x H',Inv X pins σ H' s2/\RelV x u/\J.yld i H x H'/\tn (i+1) s2.heap/\∀ b∈fp,H' b=none) E s1) E s
 done:∀(X:Cx),X.prog=P->X.w=w->X.K=K->X.calm=true->∀(i:Nat)(pins:List (Addr×Obj))(s:Shared)(σ:St)(H:Hp)(E:Value->Shared->Prop),Inv X pins σ H s->(∀ b∈fp,FpOk X pins H b)->tn i s.heap->J.stop i H ->
  wpAny (model P w) X.A (pyNext (.ref it)) (fun r s1=>r=none/\Inv X pins σ H s1) E s
 self:∀(A:Around)(i:Nat)(s:Shared)(Q:Value->Shared->Prop)(E:Value->Shared->Prop),tn i s.heap->Q (.ref it) s->wpAny (model P w) A (pyIter (.ref it)) Q E s
noncomputable abbrev TI:=St->Hp->(It->Hp->Prop)->Prop
noncomputable def PIE(X:Cx)(pins:List (Addr×Obj))(σ:St)(tg:Expr)(R:It->Hp->Prop)(itv:Value)(s2:Shared):Prop :=
 ∃(it:Addr)(fp:List Addr)(tn:Nat->Heap->Prop)(J:It)(H':Hp),itv=.ref it/\Inv X pins σ H' s2/\Turn X.prog X.w X.K tg J fp it tn/\tn 0 s2.heap/\(∀ b∈fp,FpOk X pins H' b)/\R J H'
noncomputable def PI(X:Cx)(tg iter:Expr)(wi:TI):Prop :=
 ∀(pins:List (Addr×Obj))(s:Shared)(σ:St)(H:Hp)(R:It->Hp->Prop),Inv X pins σ H s->wi σ H R ->
  wpAny (model X.prog X.w) X.A (eval iter X.env) (fun v s1=>wpAny (model X.prog X.w) X.A (pyIter v) (PIE X pins σ tg R) X.xe s1) X.xe s
theorem zix{M:Model}{A:Around}{E:Value->Shared->Prop}{s:Shared}{tg:Expr}{it:Addr}{u:Value}{o:Obj}{n:String}{vs:Array Value}{Q:Unit->Shared->Prop}(ho:s.heap.get? it=some o)(hc:o.cls=.type n)(hd:o.data=.fields vs)
  (hn:["enumerate", "zip", "dict_itemiterator", "dict_reverseitemiterator", "odict_iterator", "itertools.zip_longest", "itertools.pairwise"].contains n=false) (hQ:Q () s):wpAny M A (letOwnedTupleGo tg (.ref it) u) Q E s:=by
 unfold letOwnedTupleGo;cases tg <;> first
  | exact wpAny_pure hQ
  | (cases u <;> first
    | exact wpAny_pure hQ
    | (refine wpAny_bind (wpAny_load ho ?_)
       rw [hc,hd];show wpAny M A (if (["enumerate", "zip", "dict_itemiterator", "dict_reverseitemiterator", "odict_iterator", "itertools.zip_longest", "itertools.pairwise"].contains n && vs[0]? == some (rawInt _))=true then _ else _) Q E s;rw [if_neg (by intro h; rw [hn,Bool.false_and] at h; cases h)];exact wpAny_pure hQ))
noncomputable def Itl(K:PySem.W.Frag)(a:Addr):It :=
 ⟨fun i H=>∃ xs x,SqL K H a xs/\xs[i]?=some x,fun i H x H'=>H'=H/\∀ xs,SqL K H a xs->xs[i]?=some x,fun i H=>∃ xs,SqL K H a xs/\xs.length<=i⟩
noncomputable def Itt(K:PySem.W.Frag)(a:Addr):It :=
 ⟨fun i H=>∃ xs x,SqT K H a xs/\xs[i]?=some x,fun i H x H'=>H'=H/\∀ xs,SqT K H a xs->xs[i]?=some x,fun i H=>∃ xs,SqT K H a xs/\xs.length<=i⟩
noncomputable def Itr(lo:Int)(n:Nat):It:=⟨fun i _=>i<n,fun i H x H'=>H'=H/\x=.int (lo+i),fun i _=>n<=i⟩
theorem zel{P:Program}{w:World}{K:PySem.W.Frag}{tg:Expr}(a it:Addr):Turn P w K tg (Itl K a) [it] it (fun i h=>h.IsListIter it a i) where
 mem:=by simp
 obj:=fun i h st b hb=>by
  have e:b=it:=by simpa using hb
  subst e;obtain⟨o,e,c,d⟩:=st;exact⟨o,e,fun v z=>by rw [d] at z; cases z⟩
 keep:=fun i h h' st k=>st.at fun o e=>k it (by simp) o e
 item:=by
  intro X hP hw hK hc i pins s σ H E I hf st hg;subst hP hw hK;obtain⟨xs,x,hq,hx⟩:=hg;obtain⟨its,rv,p,hz⟩:=I.list hq;obtain⟨u,hu,ru⟩:=rv.get hx;obtain⟨f0,f1,f2,f3,f4,f5⟩:=hf it (by simp);refine wpAny_pyNext_list_item st p.isList (x:=u) (by simpa using hu) fun h' st' sb=>?_
  have I1:Inv X pins σ H { s with heap:=h' }:=I.turned (t':=s.toks) (fun b o hb e=>(sb.2 b hb).trans e) f0 f1 f3 f4 f5;obtain⟨o,e,c,d⟩:=id st';exact⟨u,rfl,zix (s:={ s with heap:=h' }) e c d (by decide) ⟨x,H,I1,ru,⟨rfl,fun ys hy=>by rw [I.list_inj hy hq]; exact hx⟩,st',fun b hb=>(hf b hb).1⟩⟩
 done:=by
  intro X hP hw hK hc i pins s σ H E I hf st hg;subst hP hw hK;obtain⟨xs,hq,hx⟩:=hg;obtain⟨its,rv,p,hz⟩:=I.list hq;obtain⟨f0,f1,f2,f3,f4,f5⟩:=hf it (by simp);have hl:=rv.length;exact wpAny_pyNext_list_end (I.ok.hd hc) st p.isList (by simp; omega) fun h' eb=>⟨rfl,I.turned (t':=s.toks) (fun b o hb e=>eb b o hb e) f0 f1 f3 f4 f5⟩
 self:=fun _ _ _ _ _ st h=>wpAny_pyIter_listiter st h
theorem zdX{P:Program}{w:World}{K:PySem.W.Frag}{tg:Expr}(a it:Addr):Turn P w K tg (Itt K a) [it] it (fun i h=>h.IsTupleIter it a i) where
 mem:=by simp
 obj:=fun i h st b hb=>by
  have e:b=it:=by simpa using hb
  subst e;obtain⟨o,e,c,d⟩:=st;exact⟨o,e,fun v z=>by rw [d] at z; cases z⟩
 keep:=fun i h h' st k=>st.at fun o e=>k it (by simp) o e
 item:=by
  intro X hP hw hK hc i pins s σ H E I hf st hg;subst hP hw hK;obtain⟨xs,x,hq,hx⟩:=hg;obtain⟨its,rv,p,hz⟩:=I.tuple hq;obtain⟨u,hu,ru⟩:=rv.get hx;obtain⟨f0,f1,f2,f3,f4,f5⟩:=hf it (by simp);refine wpAny_pyNext_tuple_item st (show s.heap.IsTuple a its.toArray from p) (x:=u) (by simpa using hu) fun h' st' sb=>?_
  have I1:Inv X pins σ H { s with heap:=h' }:=I.turned (t':=s.toks) (fun b o hb e=>(sb.2 b hb).trans e) f0 f1 f3 f4 f5;obtain⟨o,e,c,d⟩:=id st';exact⟨u,rfl,zix (s:={ s with heap:=h' }) e c d (by decide) ⟨x,H,I1,ru,⟨rfl,fun ys hy=>by rw [I.tuple_inj hy hq]; exact hx⟩,st',fun b hb=>(hf b hb).1⟩⟩
 done:=by
  intro X hP hw hK hc i pins s σ H E I hf st hg;subst hP hw hK;obtain⟨xs,hq,hx⟩:=hg;obtain⟨its,rv,p,hz⟩:=I.tuple hq;obtain⟨f0,f1,f2,f3,f4,f5⟩:=hf it (by simp);have hl:=rv.length;exact wpAny_pyNext_tuple_end (I.ok.hd hc) st (show s.heap.IsTuple a its.toArray from p) (by simp; omega) fun h' eb=>⟨rfl,I.turned (t':=s.toks) (fun b o hb e=>eb b o hb e) f0 f1 f3 f4 f5⟩
 self:=fun _ _ _ _ _ st h=>wpAny_pyIter_tupleiter st h
theorem zdV{P:Program}{w:World}{K:PySem.W.Frag}{tg:Expr}(it:Addr)(lo:Int)(n:Nat):Turn P w K tg (Itr lo n) [it] it (fun i h=>IsRangeIter h it (lo +(i:Nat)*1) ((n:Int) - (i:Nat)) 1) where
 mem:=by simp
 obj:=fun i h st b hb=>by
  have e:b=it:=by simpa using hb
  subst e;exact⟨_,st,fun v z=>by
   have z':Data.fields _=Data.cell v:=z;cases z'⟩
 keep:=fun i h h' st k=>k it (by simp) _ st
 item:=by
  intro X hP hw hK hc i pins s σ H E I hf st hg;subst hP hw hK;obtain⟨f0,f1,f2,f3,f4,f5⟩:=hf it (by simp);have W:=Walks.range (prog:=X.prog) (w:=X.w) (I.ok.hd hc) it lo 1 n;refine W.item i s _ _ hg st fun v h' tk hv st' kk=>?_
  obtain⟨t,rfl⟩:=hv;have I1:Inv X pins σ H { s with heap:=h',toks:=tk }:=I.turned (fun b o hb e=>kk b o (by simpa using hb) e) f0 f1 f3 f4 f5;refine⟨_,rfl,zix (s:={ s with heap:=h',toks:=tk }) (n := "range_iterator") st' rfl rfl (by decide) ⟨.int (lo+i),H,I1,⟨t,?_⟩,⟨rfl,rfl⟩,st',fun b hb=>(hf b hb).1⟩⟩;rw [Int.mul_one]
 done:=by
  intro X hP hw hK hc i pins s σ H E I hf st hg;subst hP hw hK;obtain⟨f0,f1,f2,f3,f4,f5⟩:=hf it (by simp);exact wpAny_pyNext_range_end (I.ok.hd hc) st (by have:n<=i:=hg; omega) fun h' eb=>⟨rfl,I.turned (t':=s.toks) (fun b o hb e=>eb b o hb e) f0 f1 f3 f4 f5⟩
 self:=fun _ _ _ _ _ st h=>wpAny_pyIter_rangeiter st h
end L2
namespace L2
open PySem PySem.Spec PyProof.Rows
section
variable{X:Cx}{tg:Expr}
inductive zf9(K:PySem.W.Frag)(x:V)(H1:Hp)(R:It->Hp->Prop):Prop where
 | mk (a:Addr) (h0_:x=.ref a) (h1_:(∃ xs,SqL K H1 a xs)) (h2_:R (Itl K a) H1):zf9 K x H1 R
noncomputable def iList(K:PySem.W.Frag)(tl:TE):TI:=fun σ H R=>tl σ H fun x H1=>zf9 K x H1 R
noncomputable def iTup(K:PySem.W.Frag)(tl:TE):TI:=fun σ H R=>tl σ H fun x H1=>∃ a,x=.ref a/\(∃ xs,SqT K H1 a xs)/\R (Itt K a) H1
theorem zii{l:Expr}{tl:TE}(hl:PE X l tl):PI X tg l (iList X.K tl):=by
 intro pins s σ H R I h;refine thn (hl pins s σ H _ I h) fun v s1 ⟨x,H1,I1,r1,q1⟩=>?_
 obtain⟨a,e,⟨xs,hq⟩,q⟩:=q1;subst e;cases r1;obtain⟨its,rv,p,hz⟩:=I1.list hq;refine wpAny_pyIter_list p.isList ?_;refine⟨s1.heap.objs.size,[s1.heap.objs.size],_,_,H1,rfl,I1.kept (t':=s1.toks) fun b o e=>Heap.get?_push_of_some _ e,zel a _,⟨_,Heap.get?_push_size _ rfl,rfl,rfl⟩,fun b hb=>?_,q⟩;have e:b=s1.heap.objs.size:=by simpa using hb
 subst e;exact I1.fpOk (wu _) (I1.hok.fresh (wu _))
theorem zhA{l:Expr}{tl:TE}(hl:PE X l tl):PI X tg l (iTup X.K tl):=by
 intro pins s σ H R I h;refine thn (hl pins s σ H _ I h) fun v s1 ⟨x,H1,I1,r1,q1⟩=>?_
 obtain⟨a,e,⟨xs,hq⟩,q⟩:=q1;subst e;cases r1;obtain⟨its,rv,p,hz⟩:=I1.tuple hq;refine wpAny_pyIter_tuple (show s1.heap.IsTuple a its.toArray from p) ?_;refine⟨s1.heap.objs.size,[s1.heap.objs.size],_,_,H1,rfl,I1.kept (t':=s1.toks) fun b o e=>Heap.get?_push_of_some _ e,zdX a _,⟨_,Heap.get?_push_size _ rfl,rfl,rfl⟩,fun b hb=>?_,q⟩;have e:b=s1.heap.objs.size:=by simpa using hb
 subst e;exact I1.fpOk (wu _) (I1.hok.fresh (wu _))
theorem zhp{pins:List (Addr×Obj)}{σ:St}{H:Hp}{s:Shared}{R:It->Hp->Prop}{E:Value->Shared->Prop}{lo hi:Int}{t u v:Tok}{tk:Nat}(I:Inv X pins σ H s)(h1 : -(2^62)<=lo)(h2:lo<2^62)(h3 : -(2^62)<=hi)(h4:hi<2^62)
  (q:R (Itr lo (hi - lo).toNat) H):wpAny (model X.prog X.w) X.A (pyIter (.ref s.heap.objs.size)) (PIE X pins σ tg R) E { s with heap:=s.heap.push { cls:=.type "range",data:=.fields #[.int lo t,.int hi u,.int 1 v] },toks:=tk }:=by
 refine wpAny_pyIter_range (IsRange.new ..) (small_one h1 h2 h3 h4) ?_;have I1:Inv X pins σ H { s with heap:=s.heap.push { cls:=.type "range",data:=.fields #[.int lo t,.int hi u,.int 1 v] },toks:=tk }:=I.kept fun b o e=>Heap.get?_push_of_some _ e
 refine⟨(s.heap.push { cls:=.type "range",data:=.fields #[.int lo t,.int hi u,.int 1 v] }).objs.size,[(s.heap.push { cls:=.type "range",data:=.fields #[.int lo t,.int hi u,.int 1 v] }).objs.size],_,_,H,rfl,
  I1.kept (t':=tk) fun b o e=>Heap.get?_push_of_some _ e,zdV _ lo (hi - lo).toNat,?_,fun b hb=>?_,q⟩
 ·have e1:lo +((0:Nat):Int)*1=lo:=by simp
  have e2:(((hi - lo).toNat:Nat):Int) - ((0:Nat):Int)=Builtin.Range.rangeSize lo hi 1:=by rw [rangeSize_one]; split <;> omega
  show IsRangeIter _ _ (lo +((0:Nat):Int)*1) ((((hi - lo).toNat:Nat):Int) - ((0:Nat):Int)) 1;rw [e1,e2];exact Heap.get?_push_size _ rfl
 ·have e:b =(s.heap.push { cls:=.type "range",data:=.fields #[.int lo t,.int hi u,.int 1 v] }).objs.size:=by simpa using hb
  subst e;exact I1.fpOk (wu _) (I1.hok.fresh (wu _))
inductive zfx(vs:List V)(H1:Hp)(R:It->Hp->Prop):Prop where
 | mk (j:Int) (h0_:vs=[.int j]) (h1_ : -(2^62)<=j) (h2_:j<2^62) (h3_:R (Itr 0 j.toNat) H1):zfx vs H1 R
noncomputable def iRng1(ta:TA):TI:=fun σ H R=>ta σ H fun vs H1=>zfx vs H1 R
theorem zM {a:Expr} {ta:TA} {p pos:Pos} (hg:Gl X "range") (hm:X.mg "range" = none) (ha:PA X [a] ta) (hs:starEach [a] X.env=[(false,eval a X.env)]:=by rfl):PI X tg (.Call (.Name "range" p) [a] [] pos) (iRng1 ta):=by
 intro pins s σ H R I h;refine Call_ (za7 I hg hm boot_range (PyProof.Rows.callWith_type1 (thn (ha pos pins s σ H _ I h) fun us s1 ⟨vs,H1,I1,r1,q1⟩=>?_) hs rfl));obtain⟨j,e,q1,q2,q⟩:=q1;subst e;cases r1 with
 | cons r rr =>
  cases rr;obtain⟨t,rfl⟩:=r;exact call_range_1 (zhp I1 (by omega) (by omega) q1 q2 (by simpa using q))
noncomputable def tFor(wi:TI)(g:TG)(tb:TS):TS:=fun D σ H=>wi σ H fun J H1=>∃ W:Nat->Nat->St->Hp->Prop,(∃ m,W 0 m σ H1)/\∀ i m σ H,W i m σ H ->
 (J.stop i H/\D.nx σ H)\/(J.go i H/\∃ N:St->Hp->Prop,(∀ σ' H',N σ' H'->∃ m',m'<m/\W (i+1) m' σ' H')/\∀ x H',J.yld i H x H'->g x σ H' fun σ2 H2=>tb { D with nx:=N,ct:=N,bk:=D.nx } σ2 H2)
noncomputable def pinsAt(fp:List Addr)(h:Heap):List (Addr×Obj):=fp.filterMap fun b=>(h.get? b).map fun o=>(b,o)
theorem qY{fp:List Addr}{h:Heap}{b:Addr}{o:Obj}(hb:b∈fp)(e:h.get? b=some o):(b,o)∈pinsAt fp h:=was.mpr ⟨b,hb,by rw [e]; rfl⟩
theorem zeq{fp:List Addr}{h:Heap}{p:Addr×Obj}(hp:p∈pinsAt fp h):p.1∈fp/\h.get? p.1=some p.2:=by
 obtain⟨b,hb,e⟩:=was.mp hp;cases q:h.get? b with
 | none=>rw [q] at e; cases e
 | some o =>
  rw [q] at e;have e':(b,o)=p:=Option.some.inj e;subst e';exact⟨hb,q⟩
theorem Inv.pinned{pins:List (Addr×Obj)}{σ:St}{H:Hp}{s:Shared}{fp:List Addr}(I:Inv X pins σ H s)(hf:∀ b∈fp,FpOk X pins H b)(ho:∀ b∈fp,∃ o,s.heap.get? b=some o/\∀ v,o.data≠.cell v):Inv X (pins++pinsAt fp s.heap) σ H s :=
 I.pins_of fun p hp=>(wq.mp hp).elim (fun z=>I.pin p (wy _ z)) fun z=>by
  obtain⟨hb,e⟩:=zeq z;obtain⟨f0,f1,f2,_⟩:=hf p.1 hb;obtain⟨o,e',d⟩:=ho p.1 hb;rw [e] at e'; cases e';exact⟨e,f0,f1,f2,d⟩
theorem Inv.unpinned{pins pl:List (Addr×Obj)}{σ:St}{H:Hp}{s:Shared}(I:Inv X (pins++pl) σ H s):Inv X pins σ H s:=I.pins_of fun p hp=>I.pin p (wy _ (wE _ hp))
theorem yA{iter:Expr}{body:List Stmt}{wi:TI}{g:TG}{tb:TS}{pos:Pos}(hp:PassesOwn (model X.prog X.w) X.A X.env X.xe)(hc:X.calm=true)(hi:PI X tg iter wi)(hg:PG X tg g)(hb:PSs X body tb)
  (hs:∀ x,foldedSetIterable iter X.env x=pure x:=by intro _; rfl):PS X (.For tg iter body [] pos) (tFor wi g tb):=by
 intro pins s σ H D I h;refine wpAny_For (thn (hi pins s σ H _ I h) fun v s1 h1=>thn h1 fun itv s2 h2=>?_) hs;obtain⟨it,fp,tn,J,H2,e,I2,T,st2,f2,W,⟨m0,w0⟩,turn⟩:=h2;subst e;have stat:∀ {H':Hp},(∀ b∈fp,H' b=none)->∀ b∈fp,FpOk X pins H' b:=fun hn b hb=>⟨hn b hb,(f2 b hb).2⟩
 refine codeAny_forLoop_any (fun n s'=>∃ i σ' H',Inv X pins σ' H' s'/\tn i s'.heap/\(∀ b∈fp,H' b=none)/\W i n σ' H') ?_ m0 ⟨0,σ,H2,I2,st2,fun b hb=>(f2 b hb).1,w0⟩
 rintro n s3 ⟨i,σ3,H3,I3,st3,fr3,w3⟩
 rcases turn i n σ3 H3 w3 with⟨stop,qn⟩ | ⟨go,N,hN,step⟩
 ·refine wpAny_passesOwn hp (thn (T.done X rfl rfl rfl hc i pins s3 σ3 H3 X.xe I3 (stat fr3) st3 stop) fun r s4 ⟨hr,I4⟩=>?_);subst hr;exact wpAny_execs_nil ⟨σ3,H3,I4,qn⟩
 ·refine wpAny_passesOwn hp (thn (T.item X rfl rfl rfl hc i pins s3 σ3 H3 X.xe I3 (stat fr3) st3 go) fun r s4 ⟨u,hr,h4⟩=>?_);subst hr;refine wpAny_passesOwn hp (thn h4 fun _ s5 ⟨x,H5,I5,r5,y5,st5,fr5⟩=>?_);have I5':=I5.pinned (stat fr5) (T.obj _ _ st5);refine wpAny_passesOwn hp (thn (hg _ s5 σ3 H5 x u _ I5' r5 (step x H5 y5)) fun _ s6 ⟨σ6,H6,I6,q6⟩=>?_);refine wpAny_passesOwn hp (thn (hb _ s6 σ6 H6 _ I6 q6) fun f s7 q7=>?_);have again:∀ {σ7:St} {H7:Hp},Inv X (pins++pinsAt fp s5.heap) σ7 H7 s7->N σ7 H7->∃ m,m<n/\∃ i σ' H',Inv X pins σ' H' s7/\tn i s7.heap/\(∀ b∈fp,H' b=none)/\W i m σ' H':=fun {σ7 H7} I7 n7=>by
   obtain⟨m',hm,w7⟩:=hN σ7 H7 n7;refine⟨m',hm,i+1,σ7,H7,I7.unpinned,T.keep _ _ _ st5 fun b hb o e=>(I7.pin (b,o) (wy _ (wy _ (qY hb e)))).1,fun b hb=>?_,w7⟩;obtain⟨o,e,d⟩:=T.obj _ _ st5 b hb;exact(I7.pin (b,o) (wy _ (wy _ (qY hb e)))).2.1
  cases f with
  | next=>obtain⟨σ7,H7,I7,n7⟩:=q7; exact again I7 n7
  | cont=>obtain⟨σ7,H7,I7,n7⟩:=q7; exact again I7 n7
  | brk=>obtain⟨σ7,H7,I7,q7⟩:=q7; exact⟨σ7,H7,I7.unpinned,q7⟩
  | ret v=>obtain⟨x7,σ7,H7,I7,r7,q7⟩:=q7; exact⟨x7,σ7,H7,I7.unpinned,r7,q7⟩
end
theorem xg{K:PySem.W.Frag}{a:Addr}{xs:List V}{g:TG}{tb:TS}{D:Ends}{σ:St}{H:Hp}(Pv:Nat->St->Hp->Prop)(h0:Pv 0 σ H)(hl:∀ i σ H,i<=xs.length->Pv i σ H->SqL K H a xs)
  (hs:∀ i x σ H,xs[i]?=some x->Pv i σ H->g x σ H fun σ2 H2=>tb { D with nx:=Pv (i+1),ct:=Pv (i+1),bk:=D.nx } σ2 H2) (hd:∀ σ H,Pv xs.length σ H->D.nx σ H) :
  ∃ W:Nat->Nat->St->Hp->Prop,(∃ m,W 0 m σ H)/\∀ i m σ H,W i m σ H ->
   ((Itl K a).stop i H/\D.nx σ H)\/((Itl K a).go i H/\∃ N:St->Hp->Prop,(∀ σ' H',N σ' H'->∃ m',m'<m/\W (i+1) m' σ' H')/\∀ x H',(Itl K a).yld i H x H'->g x σ H' fun σ2 H2=>tb { D with nx:=N,ct:=N,bk:=D.nx } σ2 H2):=by
 refine⟨fun i m σ H=>m=xs.length - i/\i<=xs.length/\Pv i σ H,⟨xs.length,by simp,vz _,h0⟩,?_⟩
 rintro i m σ H ⟨rfl,hi,p⟩
 have q:=hl i σ H hi p
 by_cases hlt:i<xs.length
 ·refine .inr ⟨⟨xs,xs[i],q,by simp [hlt]⟩,Pv (i+1),fun σ' H' p'=>⟨xs.length - (i+1),by omega,rfl,hlt,p'⟩,fun x H' y=>?_⟩;obtain⟨e,y⟩:=y;subst e;exact hs i x σ _ (y xs q) p
 ·have e:i=xs.length:=by omega
  subst e;exact .inl ⟨⟨xs,q,wu _⟩,hd σ H p⟩
theorem yC{lo:Int}{n:Nat}{g:TG}{tb:TS}{D:Ends}{σ:St}{H:Hp}(Pv:Nat->St->Hp->Prop)(h0:Pv 0 σ H)
  (hs:∀ i σ H,i<n->Pv i σ H->g (.int (lo+i)) σ H fun σ2 H2=>tb { D with nx:=Pv (i+1),ct:=Pv (i+1),bk:=D.nx } σ2 H2) (hd:∀ σ H,Pv n σ H->D.nx σ H) :
  ∃ W:Nat->Nat->St->Hp->Prop,(∃ m,W 0 m σ H)/\∀ i m σ H,W i m σ H ->
   ((Itr lo n).stop i H/\D.nx σ H)\/((Itr lo n).go i H/\∃ N:St->Hp->Prop,(∀ σ' H',N σ' H'->∃ m',m'<m/\W (i+1) m' σ' H')/\∀ x H',(Itr lo n).yld i H x H'->g x σ H' fun σ2 H2=>tb { D with nx:=N,ct:=N,bk:=D.nx } σ2 H2):=by
 refine⟨fun i m σ H=>m=n - i/\i<=n/\Pv i σ H,⟨n,by simp,vz _,h0⟩,?_⟩
 rintro i m σ H ⟨rfl,hi,p⟩
 by_cases hlt:i<n
 ·refine .inr ⟨hlt,Pv (i+1),fun σ' H' p'=>⟨n - (i+1),by omega,rfl,hlt,p'⟩,fun x H' y=>?_⟩;obtain⟨e,y⟩:=y;subst e y;exact hs i σ _ hlt p
 ·have e:i=n:=by omega
  subst e;exact .inl ⟨wu _,hd σ H p⟩
end L2
namespace L2
open PySem PySem.Spec PyProof.Rows
noncomputable abbrev R2:=V->V->Hp->VK->Prop
noncomputable def OpR(X:Cx)(f:Value->Value->Sem Value)(r:R2):Prop :=
 ∀(pins:List (Addr×Obj))(s:Shared)(σ:St)(H:Hp)(x y:V)(v u:Value)(Q:VK),Inv X pins σ H s->RelV x v->RelV y u->r x y H Q ->
  wpAny (model X.prog X.w) X.A (f v u) (EP X pins σ Q) X.xe s
noncomputable def UnR(X:Cx)(f:Value->Sem Value)(r:V->Hp->VK->Prop):Prop :=
 ∀(pins:List (Addr×Obj))(s:Shared)(σ:St)(H:Hp)(x:V)(v:Value)(Q:VK),Inv X pins σ H s->RelV x v->r x H Q ->
  wpAny (model X.prog X.w) X.A (f v) (EP X pins σ Q) X.xe s
noncomputable def CallR(X:Cx)(f:Value)(r:List V->Hp->VK->Prop):Prop :=
 ∀(pins:List (Addr×Obj))(s:Shared)(σ:St)(H:Hp)(xs:List V)(us:List Value)(Q:VK),Inv X pins σ H s->Vals xs us->r xs H Q ->
  wpAny (model X.prog X.w) X.A (call f us) (EP X pins σ Q) X.xe s
noncomputable def tOp(r:R2)(ta tb:TE):TE:=fun σ H Q=>ta σ H fun x H1=>tb σ H1 fun y H2=>r x y H2 Q
noncomputable def tUn(r:V->Hp->VK->Prop)(ta:TE):TE:=fun σ H Q=>ta σ H fun x H1=>r x H1 Q
inductive I_rI(C:Int->Int->Prop)(g:Int->Int->V)(x y:V)(H:Hp)(Q:VK):Prop where
 | mk (i j:Int) (h0_:x=.int i) (h1_:y=.int j) (h2_:C i j) (h3_:Q (g i j) H):I_rI C g x y H Q
noncomputable def rI(C:Int->Int->Prop)(g:Int->Int->V):R2:=fun x y H Q=>I_rI C g x y H Q
inductive zjo(g:Int->Int->V)(x y:V)(H:Hp)(Q:VK):Prop where
 | mk (i j:Int) (h0_:x=.int i) (h1_:y=.int j) (h2_:Q (g i j) H):zjo g x y H Q
noncomputable def rI0(g:Int->Int->V):R2:=fun x y H Q=>zjo g x y H Q
inductive I_rU(g:Int->V)(x:V)(H:Hp)(Q:VK):Prop where
 | mk (i:Int) (h0_:x=.int i) (h1_:Q (g i) H):I_rU g x H Q
noncomputable def rU(g:Int->V):V->Hp->VK->Prop:=fun x H Q=>I_rU g x H Q
section
variable{X:Cx}{a b c:Expr}{ta tb tc:TE}{pos:Pos}
theorem binT(ha:PE X a ta)(hb:PE X b tb){pins:List (Addr×Obj)}{s:Shared}{σ:St}{H:Hp}{R:V->V->Hp->Prop}(I:Inv X pins σ H s)
  (h:ta σ H fun x H1=>tb σ H1 fun y H2=>R x y H2) {Q:Value->Shared->Prop} {f:Value->Value->Sem Value}
  (hf:∀ v u s2 x y H2,Inv X pins σ H2 s2->RelV x v->RelV y u->R x y H2->wpAny (model X.prog X.w) X.A (f v u) Q X.xe s2) :
  wpAny (model X.prog X.w) X.A (eval a X.env) (fun v s₁=>wpAny (model X.prog X.w) X.A (eval b X.env) (fun u s₂=>wpAny (model X.prog X.w) X.A (f v u) Q X.xe s₂) X.xe s₁) X.xe s:=by
 refine thn (ha pins s σ H _ I h) fun v s1 ⟨x,H1,I1,r1,q1⟩=>?_
 refine thn (hb pins s1 σ H1 _ I1 q1) fun u s2 ⟨y,H2,I2,r2,q2⟩=>?_
 exact hf v u s2 x y H2 I2 r1 r2 q2
theorem zq{op:Operator}{r:R2}(ho:OpR X (binaryOp op) r)(ha:PE X a ta)(hb:PE X b tb):PE X (.BinOp a op b pos) (tOp r ta tb):=by
 intro pins s σ H Q I h;exact wpAny_BinOp (binT ha hb I h fun v u s2 x y H2 I2 rx ry q=>ho pins s2 σ H2 x y v u Q I2 rx ry q)
theorem ziI{op:UnaryOp}{r:V->Hp->VK->Prop}(ho:UnR X (unaryOp op) r)(ha:PE X a ta):PE X (.UnaryOp op a pos) (tUn r ta):=by
 intro pins s σ H Q I h;exact UnaryOp_ (thn (ha pins s σ H _ I h) fun v s1 ⟨x,H1,I1,r1,q1⟩=>ho pins s1 σ H1 x v Q I1 r1 q1)
theorem opI{f:Value->Value->Sem Value}{C:Int->Int->Prop}{g:Int->Int->Int}
  (rule:∀(i j:Int)(t u:Tok)(s:Shared)(Q:Value->Shared->Prop)(E:Value->Shared->Prop),C i j->Q (.int (g i j) s.toks) { s with toks:=s.toks+1 }->wpAny (model X.prog X.w) X.A (f (.int i t) (.int j u)) Q E s) :
  OpR X f (rI C fun i j=>.int (g i j)):=by
 intro pins s σ H x y v u Q I rx ry h;obtain⟨i,j,rfl,rfl,hc,q⟩:=h;obtain⟨t,rfl⟩:=rx;obtain⟨t',rfl⟩:=ry;exact rule i j t t' s _ _ hc ⟨.int (g i j),H,I.tok _,⟨_,rfl⟩,q⟩
theorem opI0{f:Value->Value->Sem Value}{g:Int->Int->Int}
  (rule:∀(i j:Int)(t u:Tok)(s:Shared)(Q:Value->Shared->Prop)(E:Value->Shared->Prop),Q (.int (g i j) s.toks) { s with toks:=s.toks+1 }->wpAny (model X.prog X.w) X.A (f (.int i t) (.int j u)) Q E s) :
  OpR X f (rI0 fun i j=>.int (g i j)):=by
 intro pins s σ H x y v u Q I rx ry h;obtain⟨i,j,rfl,rfl,q⟩:=h;obtain⟨t,rfl⟩:=rx;obtain⟨t',rfl⟩:=ry;exact rule i j t t' s _ _ ⟨.int (g i j),H,I.tok _,⟨_,rfl⟩,q⟩
theorem opB0{f:Value->Value->Sem Value}{g:Int->Int->Bool}
  (rule:∀(i j:Int)(t u:Tok)(s:Shared)(Q:Value->Shared->Prop)(E:Value->Shared->Prop),Q (.bool (g i j)) s->wpAny (model X.prog X.w) X.A (f (.int i t) (.int j u)) Q E s) :
  OpR X f (rI0 fun i j=>.bl (g i j)):=by
 intro pins s σ H x y v u Q I rx ry h;obtain⟨i,j,rfl,rfl,q⟩:=h;obtain⟨t,rfl⟩:=rx;obtain⟨t',rfl⟩:=ry;exact rule i j t t' s _ _ ⟨.bl (g i j),H,I,rfl,q⟩
noncomputable def CPow(i j:Int):Prop:=0<=j/\j<=1000000/\i.natAbs<2^64
theorem yZ:OpR X (binaryOp .Add) (rI0 fun i j=>.int (i+j)):=opI0 fun _ _ _ _ _ _ _ q=>add_int q
theorem qA:OpR X (binaryOp .Sub) (rI0 fun i j=>.int (i - j)):=opI0 fun _ _ _ _ _ _ _ q=>sub_int q
theorem zQ:OpR X (binaryOp .Mod) (rI (fun _ j=>j≠0) fun i j=>.int (i.fmod j)):=opI fun _ _ _ _ _ _ _ hc q=>mod_int' hc q
theorem zeG:OpR X (binaryOp .Pow) (rI CPow fun i j=>.int (i^j.toNat)):=opI fun _ _ _ _ _ _ _ hc q=>pow_int_small hc.1 hc.2.1 hc.2.2 q
theorem unI{f:Value->Sem Value}{g:Int->Int}
  (rule:∀(i:Int)(t:Tok)(s:Shared)(Q:Value->Shared->Prop)(E:Value->Shared->Prop),Q (.int (g i) s.toks) { s with toks:=s.toks+1 }->wpAny (model X.prog X.w) X.A (f (.int i t)) Q E s) :
  UnR X f (rU fun i=>.int (g i)):=by
 intro pins s σ H x v Q I rx h;obtain⟨i,rfl,q⟩:=h;obtain⟨t,rfl⟩:=rx;exact rule i t s _ _ ⟨.int (g i),H,I.tok _,⟨_,rfl⟩,q⟩
theorem zfk:UnR X (unaryOp .USub) (rU fun i=>.int (-i)):=unI fun _ _ _ _ _ q=>neg_int q
end
noncomputable def scal:V->V->Bool
 | .non,.non=>true | .non,.int _=>true | .int _,.non=>true | .non,.bl _=>true | .bl _,.non=>true | .non,.str _=>true | .str _,.non=>true
 | .int _,.int _=>true | .bl _,.bl _=>true | .str _,.str _=>true | .byt _,.byt _=>true
 | .int _,.str _=>true | .str _,.int _=>true | .bl _,.str _=>true | .str _,.bl _=>true
 | _,_=>false
noncomputable def rEq:R2:=fun x y H Q=>scal x y=true/\Q (.bl (decide (x=y))) H
noncomputable def rNe:R2:=fun x y H Q=>scal x y=true/\Q (.bl (!decide (x=y))) H
theorem zeg{i j:Int}:decide (V.int i=V.int j) =(i == j):=by
 rw [uO];simp
theorem zht{i j:Bool}:decide (V.bl i=V.bl j) =(i == j):=by
 rw [uO];simp
theorem zgf{i j:Str}:decide (V.str i=V.str j) =(i == j):=by
 rw [uO];simp
theorem zfX{i j:Array UInt8}:decide (V.byt i=V.byt j) =(i.toList == j.toList):=by
 rw [uO];cases i;cases j;simp
section
variable{X:Cx}{a b c:Expr}{ta tb tc:TE}{pos:Pos}
theorem yt{pins:List (Addr×Obj)}{σ:St}{H:Hp}{s:Shared}{Q:VK}{k k':Bool}(I:Inv X pins σ H s)(q:Q (.bl k) H)(e:k=k'):EP X pins σ Q (.bool k') s:=by
 subst e;exact⟨.bl k,H,I,rfl,q⟩
theorem yI:OpR X (compareOp .Eq) rEq:=by
 intro pins s σ H x y v u Q I rx ry h;obtain⟨hs,q⟩:=h;cases x with
 | non =>
  cases rx;cases y with
  | non=>cases ry; exact PySem.EqNone.eq_none_none (yt I q (by simp))
  | bl j=>cases ry; exact PySem.EqNone.eq_none_bool (yt I q (by simp))
  | int j=>obtain⟨t',rfl⟩:=ry; exact PySem.EqNone.eq_none_int (yt I q (by simp))
  | str j=>obtain⟨t',rfl⟩:=ry; exact PySem.EqNone.eq_none_str (yt I q (by simp))
  | _=>exact absurd (show false=true from hs) wO
 | bl i =>
  cases rx;cases y with
  | non=>cases ry; exact PySem.EqNone.eq_bool_none (yt I q (by simp))
  | bl j=>cases ry; exact eq_bool (yt I q zht)
  | str j=>obtain⟨t',rfl⟩:=ry; exact PySem.EqMixed.eq_bool_str (yt I q (by simp))
  | _=>exact absurd (show false=true from hs) wO
 | int i =>
  obtain⟨t,rfl⟩:=rx;cases y with
  | non=>cases ry; exact PySem.EqNone.eq_int_none (yt I q (by simp))
  | int j=>obtain⟨t',rfl⟩:=ry; exact eq_int (yt I q zeg)
  | str j=>obtain⟨t',rfl⟩:=ry; exact PySem.EqMixed.eq_int_str (yt I q (by simp))
  | _=>exact absurd (show false=true from hs) wO
 | str i =>
  obtain⟨t,rfl⟩:=rx;cases y with
  | non=>cases ry; exact PySem.EqNone.eq_str_none (yt I q (by simp))
  | bl j=>cases ry; exact PySem.EqMixed.eq_str_bool (yt I q (by simp))
  | int j=>obtain⟨t',rfl⟩:=ry; exact PySem.EqMixed.eq_str_int (yt I q (by simp))
  | str j=>obtain⟨t',rfl⟩:=ry; exact eq_str (yt I q zgf)
  | _=>exact absurd (show false=true from hs) wO
 | byt i =>
  obtain⟨t,rfl⟩:=rx;cases y with
  | byt j=>obtain⟨t',rfl⟩:=ry; exact PySem.W.eq_bytes (yt I q zfX)
  | _=>exact absurd (show false=true from hs) wO
 | _=>cases y <;> exact absurd (show false=true from hs) wO
theorem Xh:OpR X (compareOp .NotEq) rNe:=by
 intro pins s σ H x y v u Q I rx ry h;obtain⟨hs,q⟩:=h;cases x with
 | non =>
  cases rx;cases y with
  | non=>cases ry; exact PySem.EqNone.ne_none_none (yt I q (by simp))
  | bl j=>cases ry; exact PySem.EqNone.ne_none_bool (yt I q (by simp))
  | int j=>obtain⟨t',rfl⟩:=ry; exact PySem.EqNone.ne_none_int (yt I q (by simp))
  | str j=>obtain⟨t',rfl⟩:=ry; exact PySem.EqNone.ne_none_str (yt I q (by simp))
  | _=>exact absurd (show false=true from hs) wO
 | bl i =>
  cases rx;cases y with
  | non=>cases ry; exact PySem.EqNone.ne_bool_none (yt I q (by simp))
  | bl j=>cases ry; exact ne_bool (yt I q (congrArg not zht))
  | str j=>obtain⟨t',rfl⟩:=ry; exact PySem.EqMixed.ne_bool_str (yt I q (by simp))
  | _=>exact absurd (show false=true from hs) wO
 | int i =>
  obtain⟨t,rfl⟩:=rx;cases y with
  | non=>cases ry; exact PySem.EqNone.ne_int_none (yt I q (by simp))
  | int j=>obtain⟨t',rfl⟩:=ry; exact ne_int (yt I q (congrArg not zeg))
  | str j=>obtain⟨t',rfl⟩:=ry; exact PySem.EqMixed.ne_int_str (yt I q (by simp))
  | _=>exact absurd (show false=true from hs) wO
 | str i =>
  obtain⟨t,rfl⟩:=rx;cases y with
  | non=>cases ry; exact PySem.EqNone.ne_str_none (yt I q (by simp))
  | bl j=>cases ry; exact PySem.EqMixed.ne_str_bool (yt I q (by simp))
  | int j=>obtain⟨t',rfl⟩:=ry; exact PySem.EqMixed.ne_str_int (yt I q (by simp))
  | str j=>obtain⟨t',rfl⟩:=ry; exact ne_str (yt I q (congrArg not zgf))
  | _=>exact absurd (show false=true from hs) wO
 | byt i =>
  obtain⟨t,rfl⟩:=rx;cases y with
  | byt j=>obtain⟨t',rfl⟩:=ry; exact PySem.W.ne_bytes (yt I q (congrArg not zfX))
  | _=>exact absurd (show false=true from hs) wO
 | _=>cases y <;> exact absurd (show false=true from hs) wO
theorem zfG:OpR X (compareOp .Lt) (rI0 fun i j=>.bl (decide (i<j))):=opB0 fun _ _ _ _ _ _ _ q=>lt_int q
theorem zjV:OpR X (compareOp .LtE) (rI0 fun i j=>.bl (decide (i<=j))):=opB0 fun _ _ _ _ _ _ _ q=>le_int q
theorem qB:OpR X (compareOp .Gt) (rI0 fun i j=>.bl (decide (j<i))):=opB0 fun _ _ _ _ _ _ _ q=>gt_int q
theorem zjW:OpR X (compareOp .GtE) (rI0 fun i j=>.bl (decide (j<=i))):=opB0 fun _ _ _ _ _ _ _ q=>ge_int q
theorem nomark(b:Expr){op:CmpOp}(h:op≠.In:=by decide)(h2:op≠.NotIn:=by decide):behindInMarks op b=false:=by
 have e1:(op == CmpOp.In)=false:=by cases op <;> first | rfl | exact absurd rfl h
 have e2:(op == CmpOp.NotIn)=false:=by cases op <;> first | rfl | exact absurd rfl h2
 cases b <;> simp [behindInMarks,e1,e2]
theorem yx{op:CmpOp}{r:R2}(ho:OpR X (compareOp op) r)(ha:PE X a ta)(hb:PE X b tb)(hm:behindInMarks op b=false):PE X (.Compare a [op] [b] pos) (tOp r ta tb):=by
 intro pins s σ H Q I h;exact wpAny_Compare1 (binT ha hb I h fun v u s2 x y H2 I2 rx ry q=>ho pins s2 σ H2 x y v u Q I2 rx ry q) hm
inductive zfY(x:V)(H':Hp)(Q:Bool->Hp->Prop):Prop where
 | mk (k:Bool) (h0_:x=.bl k) (h1_:Q k H'):zfY x H' Q
noncomputable def tTest(t:TE):TT:=fun σ H Q=>t σ H fun x H'=>zfY x H' Q
theorem zD{op:CmpOp}{r:R2}(ho:OpR X (compareOp op) r)(ha:PE X a ta)(hb:PE X b tb)(hm:behindInMarks op b=false):PT X (.Compare a [op] [b] pos) (tTest (tOp r ta tb)):=by
 intro pins s σ H Q I h;refine wpAny_isTrue_Compare1 (thn (ha pins s σ H _ I h) fun v s1 ⟨x,H1,I1,r1,q1⟩=>thn (hb pins s1 σ H1 _ I1 q1) fun u s2 ⟨y,H2,I2,r2,q2⟩ =>
  thn (ho pins s2 σ H2 x y v u _ I2 r1 r2 q2) fun c s3 ⟨z,H3,I3,r3,k,e,q3⟩=>?_) hm
 subst e;cases r3;exact wpAny_truthy_bool ⟨H3,I3,q3⟩
noncomputable def tChain(r r':R2)(ta tb tc:TE):TE:=fun σ H Q=>ta σ H fun x H1=>tb σ H1 fun y H2=>r x y H2 fun z H3=>∃ k,z=.bl k /\
 (if k=true then tc σ H3 fun w' H4=>r' y w' H4 Q else Q (.bl false) H3)
theorem zg8{op op':CmpOp}{r r':R2}(ho:OpR X (compareOp op) r)(ho':OpR X (compareOp op') r')(ha:PE X a ta)(hb:PE X b tb)(hc:PE X c tc)
  (hm:lastMarks [op,op'] [b,c]=false:=by with_unfolding_all rfl):PE X (.Compare a [op,op'] [b,c] pos) (tChain r r' ta tb tc):=by
 intro pins s σ H Q I h;refine Compare_chain (thn (ha pins s σ H _ I h) fun v s1 ⟨x,H1,I1,r1,q1⟩=>chain_link (thn (hb pins s1 σ H1 _ I1 q1) fun u s2 ⟨y,H2,I2,r2,q2⟩ =>
  thn (ho pins s2 σ H2 x y v u _ I2 r1 r2 q2) fun d s3 ⟨z,H3,I3,r3,k,e,q3⟩=>?_)) hm
 subst e;cases r3;refine wpAny_truthy_bool ?_;cases k with
 | false=>exact ite_ff ⟨.bl false,H3,I3,rfl,q3⟩
 | true=>exact ite_tt (chain_last (thn (hc pins s3 σ H3 _ I3 q3) fun w' s4 ⟨z',H4,I4,r4,q4⟩=>ho' pins s4 σ H4 y z' u w' Q I4 r2 r4 q4))
theorem line63:(sizeLine:Nat)<2^63:=by rw [sizeLine_eq]; decide
theorem vals1{x:V}{us:List Value}(r:Vals [x] us):∃ u,us=[u]/\RelV x u:=by
 cases r with
 | cons r1 r2=>cases r2; exact⟨_,rfl,r1⟩
theorem QG:CallR X (.builtin "abs") (fun xs H Q=>∃ i,xs=[.int i]/\Q (.int (if i<0 then -i else i)) H):=by
 intro pins s σ H xs us Q I r h;obtain⟨i,rfl,q⟩:=h;obtain⟨u,rfl,t,rfl⟩:=vals1 r;exact call_abs_int fun u tk=>⟨.int (if i<0 then -i else i),H,I.tok _,⟨_,rfl⟩,q⟩
theorem ZY:CallR X (.type "int") (fun xs H Q=>(∃ i,xs=[.int i]/\Q (.int i) H)\/∃ k,xs=[.bl k]/\Q (.int (if k then 1 else 0)) H):=by
 intro pins s σ H xs us Q I r h
 rcases h with⟨i,rfl,q⟩ | ⟨k,rfl,q⟩
 ·obtain⟨u,rfl,t,rfl⟩:=vals1 r;exact call_int_int ⟨.int i,H,I,⟨_,rfl⟩,q⟩
 ·obtain⟨u,rfl,r1⟩:=vals1 r;cases r1;exact call_int_bool ⟨.int (if k then 1 else 0),H,I.tok _,⟨_,rfl⟩,q⟩
end
end L2
namespace L2
open PySem PySem.Spec PyProof.Rows
structure ObjM(h:Heap)(x dx C:Addr)(mA:Str->Option Value):Prop where
 obj:h.get? x=some (PySem.W.instObj C dx)
 ns:h.Ns1 dx mA
 ne:dx≠x
theorem zeA{h:Heap}{dx:Addr}{mA:Str->Option Value}(n:h.Ns1 dx mA):∃ od,h.get? dx=some od/\∀ name,PySem.W.lookIn name od=some (mA name):=by
 obtain⟨o,es,ep,ho,hd,hk,_,hm⟩:=n;refine⟨o,ho,fun name=>?_⟩;have e:=hm name;unfold nsFind findBy at e;rw [← Array.find?_toList] at e;unfold PySem.W.lookIn;rw [hd]
 dsimp only
 split
 ·rename_i y q;rw [q] at e;exact congrArg some e
 ·rename_i q;rw [q] at e;have a:es.toList.any (·.refKey)=false:=by
   rw [way];intro y hy;obtain⟨z,t,hkey⟩:=hk y (Array.mem_toList_iff.mp hy);simp [DictEntry.refKey,hkey]
  have a':¬ es.toList.any (·.refKey)=true:=by rw [a]; exact wO
  rw [if_neg a'];exact congrArg some e
theorem ObjM.look{h:Heap}{x dx C:Addr}{mA:Str->Option Value}(I:ObjM h x dx C mA):∃ od,PySem.W.InstAt h x (PySem.W.instObj C dx) C (some od)/\∀ name,PySem.W.lookIn name od=some (mA name) :=
 let ⟨od,ho,hl⟩:=zeA I.ns
 ⟨od,⟨I.obj,rfl,rfl,ho⟩,hl⟩
section
variable{prog:Program}{w:World}{A:Around}{E:Value->Shared->Prop}{s:Shared}{K:PySem.W.Frag}{x dx C f:Addr}{mA:Str->Option Value}{name:Str}{v:Value}
end
section
variable{P:Program}{w:World}{H H':Hp}{h h':Heap}{a C dx:Addr}{fs fs':List (Str×V)}
theorem zin(hok:HOk P w H h)(e:H a=some (.ins C dx fs)):∃ mA,ObjM h a dx C mA/\(∀ f,RelO (fs.lookup f) (mA f))/\PySem.Within mA (fs.map (·.1))/\fs.length<=1000/\H dx=some (.own a):=by
 obtain⟨d,z,ne,ob,mA,n,r,q⟩:=(show ObjOk P w H h a (.ins C dx fs)from hok a _ e);exact⟨mA,⟨ob,n,ne⟩,r,q,z,d⟩
end
structure Cls(K:PySem.W.Frag)(C:Addr):Prop where
 pg:PySem.W.plainGet K C Str.empty=true
 hd:PySem.W.hasDictIn K C=true
 po:PySem.W.plainOver K C=true
 sa:PySem.W.findIn K (.ref C) "__setattr__" = some (some (.builtin "object.__setattr__"))
theorem Cls.get{K:PySem.W.Frag}{C:Addr}(c:Cls K C)(f:Str):PySem.W.plainGet K C f=true:=c.pg
section
variable{X:Cx}{pins:List (Addr×Obj)}{σ:St}{H:Hp}{s:Shared}{a C dx:Addr}{fs:List (Str×V)}{f:Str}{v:V}{A:Around}{E:Value->Shared->Prop}
end
section
variable{X:Cx}{o e value:Expr}{f:Str}{pos pos' tpos:Pos}{ta tv:TE}
end
section
variable{X:Cx}{pins:List (Addr×Obj)}{σ:St}{H:Hp}{s:Shared}{A:Around}{E:Value->Shared->Prop}{Q:Value->Shared->Prop}{c:Value}{b:Bool}
inductive TyOf(K:PySem.W.Frag)(H:Hp):V->Value->Prop where
 | non:TyOf K H .non (.type "NoneType")
 | bl (x:Bool):TyOf K H (.bl x) (.type "bool")
 | int (i:Int):TyOf K H (.int i) (.type "int")
 | str (x:Str):TyOf K H (.str x) (.type "str")
 | flt (x:UInt64):TyOf K H (.flt x) (.type "float")
 | lst {a:Addr} {xs:List V} (e:H a=some (.lst xs)):TyOf K H (.ref a) (.type "list")
 | frz {a:Addr} {o:Obj} {xs:List V} (e:H a=some (.frz o (.lst xs))):TyOf K H (.ref a) (.type "list")
 | tup {a:Addr} {xs:List V} (e:H a=some (.tup xs)):TyOf K H (.ref a) (.type "tuple")
 | dK {a:Addr} {kvs:List (Key×V)} (e:H a=some (.dK kvs)):TyOf K H (.ref a) (.type "dict")
 | dT {a:Addr} {kvs:List (List Key×V)} (e:H a=some (.dT kvs)):TyOf K H (.ref a) (.type "dict")
 | ins {a C dx:Addr} {fs:List (Str×V)} (e:H a=some (.ins C dx fs)) (cl:Cls K C) (ha:PySem.W.findIn K (.ref C) "__class__" = some (some (.builtin "object.__class__")))
   (hn:PySem.W.specialIn K (.builtin "object.__class__") "__get__" = some (some (.builtin "getset_descriptor.__get__"))) (htk:PySem.W.takesIn K (.builtin "object.__class__")=some true)
   (hm:PySem.W.mroIn K C (.type "object")=some true):TyOf K H (.ref a) (.ref C)
theorem zeO{x:V}{u t:Value}(I:Inv X pins σ H s)(rx:RelV x u)(ty:TyOf X.K H x t)(e:PySem.W.kitOne X.K t c=some b)(h:∀ tk,Q (.bool b) { s with toks:=tk }) :
  wpAny (model X.prog X.w) A (call (.builtin "isinstance") [u,c]) Q E s:=by
 cases ty with
 | non=>cases (show u=Value.none from rx); exact PySem.W.kia_one PySem.W.kitx_none I.kIn True.intro e (fun z=>nomatch z) h
 | bl y=>cases (show u=Value.bool y from rx); exact PySem.W.kia_one PySem.W.kitx_bool I.kIn True.intro e (fun z=>nomatch z) h
 | int i=>obtain⟨t,q⟩:=(show ∃ t,u=Value.int i t from rx); cases q; exact PySem.W.kia_one PySem.W.kitx_int I.kIn True.intro e (fun z=>nomatch z) h
 | str y=>obtain⟨t,q⟩:=(show ∃ t,u=Value.str y t from rx); cases q; exact PySem.W.kia_one PySem.W.kitx_str I.kIn True.intro e (fun z=>nomatch z) h
 | flt y=>obtain⟨t,q⟩:=(show ∃ t,u=Value.float y t from rx); cases q; exact PySem.W.kia_one PySem.W.kitx_float I.kIn True.intro e (fun z=>nomatch z) h
 | @lst a xs ea =>
  cases (show u=Value.ref a from rx);obtain⟨_,_,n,_,h1⟩:=(show ObjOk X.prog X.w H s.heap a (.lst xs)from I.hok a _ ea);exact PySem.W.kia_one PySem.W.kitx_list I.kIn ⟨_,h1,rfl⟩ e (fun z=>nomatch z) h
 | @frz a ob xs ea =>
  cases (show u=Value.ref a from rx);obtain⟨_,_,_,n,_,h1⟩:=(show ObjOk X.prog X.w H s.heap a (.frz ob (.lst xs))from I.hok a _ ea);exact PySem.W.kia_one PySem.W.kitx_list I.kIn ⟨_,h1,rfl⟩ e (fun z=>nomatch z) h
 | @tup a xs ea =>
  cases (show u=Value.ref a from rx);obtain⟨_,_,_,p⟩:=(show ObjOk X.prog X.w H s.heap a (.tup xs)from I.hok a _ ea);obtain⟨o,h1,h2,_⟩:=p;exact PySem.W.kia_one PySem.W.kitx_tuple I.kIn ⟨o,h1,h2⟩ e (fun z=>nomatch z) h
 | @dK a kvs ea =>
  cases (show u=Value.ref a from rx);obtain⟨_,_,vs,_,p⟩:=(show ObjOk X.prog X.w H s.heap a (.dK kvs)from I.hok a _ ea);obtain⟨o,es,ep,h1,h2,_⟩:=p;exact PySem.W.kia_one PySem.W.kitx_dict I.kIn ⟨o,h1,h2.1⟩ e (fun z=>nomatch z) h
 | @dT a kvs ea =>
  cases (show u=Value.ref a from rx);obtain⟨_,_,xs,_,o,es,ep,h1,h2,_⟩:=(show ObjOk X.prog X.w H s.heap a (.dT kvs)from I.hok a _ ea);exact PySem.W.kia_one PySem.W.kitx_dict I.kIn ⟨o,h1,h2.1⟩ e (fun z=>nomatch z) h
 | @ins a C dx fs ea cl ha hn htk hm =>
  cases (show u=Value.ref a from rx);obtain⟨mA,O,_⟩:=zin I.hok ea;obtain⟨od,J,_⟩:=O.look;exact PySem.W.kia_one (PySem.W.kitx_own (cl.get _) cl.hd ha hn htk hm) I.kIn J e (fun z=>nomatch z) h
end
end L2
namespace L2
open PySem PySem.Spec PyProof.Rows
structure Room(k:Nat)(A:Around):Prop where
 hd:A.handled=none
 dp:A.depth+3*k+5<recursionLimit
 un:A.units+16*k+200<cLine
theorem Room.mono{j k:Nat}{A:Around}(r:Room k A)(h:j<=k):Room j A:=⟨r.hd,by have:=r.dp; omega,by have:=r.un; omega⟩
theorem Room.deeper{k:Nat}{A:Around}(r:Room (k+1) A)(env:Env):Room k (A.deeper env) :=
 ⟨r.hd,by have:=r.dp; show A.depth+1+3*k+5<_; omega,by have:=r.un; show A.units+3+16*k+200<_; omega⟩
theorem Room.depth{k:Nat}{A:Around}(r:Room k A):A.depth<recursionLimit:=by have:=r.dp; omega
theorem Room.units{k:Nat}{A:Around}(r:Room k A):A.units+64<cLine:=by have:=r.un; omega
noncomputable def tNil:TA:=fun _ H Q=>Q [] H
noncomputable def tCons(ta:TE)(tr:TA):TA:=fun σ H Q=>ta σ H fun x H1=>tr σ H1 fun xs H2=>Q (x::xs) H2
section
variable{X:Cx}{e:Expr}{es:List Expr}{te:TE}{t:TA}{pos:Pos}
theorem zd:PA X [] tNil:=fun _ _ _ _ H Q I h=>Calls.spliced_nil ⟨[],H,I,.nil,h⟩
theorem za(ha:PE X e te)(hr:PA X es t)(hs:starEach (e::es) X.env =(false,eval e X.env)::starEach es X.env:=by rfl):PA X (e::es) (tCons te t):=by
 intro pos pins s σ H Q I h;rw [hs];show wpAny _ _ (spliced ((false,eval e X.env)::backTo pos (starEach es X.env))) _ _ s;refine Calls.spliced_cons (thn (ha pins s σ H _ I h) fun u s1 ⟨x,H1,I1,r1,q1⟩=>?_);exact thn (hr pos pins s1 σ H1 _ I1 q1) fun us s2 ⟨xs,H2,I2,r2,q2⟩=>⟨x::xs,H2,I2,.cons r1 r2,q2⟩
noncomputable def tTup(t:TA):TE:=fun σ H Q=>t σ H fun xs H1=>xs.length<=sizeLine/\∀ p,H1 p=none->Q (.ref p) (upd H1 p (.tup xs))
noncomputable def tLst(t:TA):TE:=fun σ H Q=>t σ H fun xs H1=>xs.length<=sizeLine/\∀ p,H1 p=none->Q (.ref p) (upd H1 p (.lst xs))
theorem xP{x1}(h:PA X es t):PE X (.Tuple es x1 pos) (tTup t):=by
 intro pins s σ H Q I hq;refine wpAny_Tuple_spliced (thn (h pos pins s σ H _ I hq) fun us s1 ⟨xs,H1,I1,r,z,q⟩=>⟨by rw [← r.length]; exact z,?_⟩);have hf:H1 s1.heap.objs.size=none:=I1.hok.fresh (wu _);refine⟨.ref s1.heap.objs.size,upd H1 s1.heap.objs.size (.tup xs),I1.laid (t':=s1.toks) (fun b u e=>Heap.get?_push_of_some _ e) (wu _) ?_,rfl,q _ hf⟩;exact⟨z,us,r,⟨_,Heap.get?_push_size _ rfl,rfl,_,rfl⟩⟩
theorem yF(h:PA X es t):PE X (.List es pos) (tLst t):=by
 intro pins s σ H Q I hq;refine wpAny_List_spliced (thn (h pos pins s σ H _ I hq) fun us s1 ⟨xs,H1,I1,r,z,q⟩=>⟨by rw [← r.length]; exact z,?_⟩);have hf:H1 s1.heap.objs.size=none:=I1.hok.fresh (wu _);refine⟨.ref s1.heap.objs.size,upd H1 s1.heap.objs.size (.lst xs),I1.laid (t':=s1.toks) (fun b u e=>Heap.get?_push_of_some _ e) (wu _) ?_,rfl,q _ hf⟩;exact⟨z,us,0,r,Heap.get?_push_size _ rfl⟩
end
noncomputable abbrev Sp:=List V->Hp->VK->XK->Prop
noncomputable abbrev CXT:=List Env->Hp->Shared->XK->Value->Shared->Prop
structure Env0(P:Program)(w:World)(K:PySem.W.Frag)(mg:Str->Option Value)(base:Heap)(A:Around)(outer:List Env)(s:Shared)(H:Hp):Prop where
 frames:A.frames=some outer
 mod:Mod K mg base
 bs:∀ b o,base.get? b=some o->s.heap.get? b=some o/\H b=none
 bsz:base.objs.size<=s.heap.objs.size
 funs:s.heap.FunFrames base outer
 frf:∀ b∈frs outer,H b=none
 hok:HOk P w H s.heap
 bare:AllBare s.gens
noncomputable def CE(outer:List Env)(P:Program)(w:World)(H:Hp)(s:Shared)(Q:VK)(u:Value)(s':Shared):Prop :=
 ∃ v H',s'.os=s.os/\AllBare s'.gens/\Un (frs outer) [] H H' s.heap s'.heap/\HOk P w H' s'.heap/\RelV v u/\Q v H'
noncomputable def CR(CX:CXT)(outer:List Env)(P:Program)(w:World)(H:Hp)(s:Shared)(Q:VK)(E:XK)(r:Result)(s':Shared):Prop :=
 match r with
 | .ok (.ret u)=>CE outer P w H s Q u s'
 | .ok _=>False
 | .error e=>CX outer H s E e s'
structure FnOk(P:Program)(w:World)(K:PySem.W.Frag)(mg:Str->Option Value)(base:Heap)(CX:CXT)(k:Nat)(f:Addr)(fd:FuncData)(ps:List Str)(sp:Sp):Prop where
 len:∀ vs H Q E,sp vs H Q E->vs.length=ps.length
 run:∀(A:Around)(outer:List Env)(s:Shared)(H:Hp)(args:Args)(us:List Value)(vs:List V)(Q:VK)(E:XK),Room k A->Env0 P w K mg base A outer s H->BindsTo s fd args (ps.zip us)->Vals vs us->sp vs H Q E ->
  codeAny (model P w) A (.call (.ref f) args) (CR CX outer P w H s Q E) s
theorem FnOk.imp{P:Program}{w:World}{K:PySem.W.Frag}{mg:Str->Option Value}{base:Heap}{CX:CXT}{k:Nat}{f:Addr}{fd:FuncData}{ps:List Str}{sp sp':Sp}(F:FnOk P w K mg base CX k f fd ps sp)
  (h:∀ vs H Q E,sp' vs H Q E->sp vs H Q E):FnOk P w K mg base CX k f fd ps sp' :=
 ⟨fun vs H Q E q=>F.len vs H Q E (h _ _ _ _ q),fun A outer s H args us vs Q E hr he hb hv hs=>F.run A outer s H args us vs Q E hr he hb hv (h _ _ _ _ hs)⟩
section
variable{X:Cx}{pins:List (Addr×Obj)}{σ:St}{H:Hp}{s s':Shared}
theorem Inv.env0(I:Inv X pins σ H s):Env0 X.prog X.w X.K X.mg X.base X.A X.stack s H :=
 ⟨I.ok.frames,I.ok.mod,I.bs,wF I.ok.bsz I.sz,I.stack,I.stkFree,I.hok,I.bare⟩
theorem Inv.after{Q:VK}{u:Value}(I:Inv X pins σ H s)(h:CE X.stack X.prog X.w H s Q u s'):EP X pins σ Q u s':=by
 obtain⟨v,H',os,bare,un,hok,r,q⟩:=h;obtain⟨hh,g,d,t,os'⟩:=s';obtain rfl:os'=s.os:=os;exact⟨v,H',I.call (h':=hh) (g':=g) (d':=d) (t':=t) (ch:=[]) un hok bare (fun b z=>absurd z (by simp)),r,q⟩
end
noncomputable def tCall(sp:Sp)(dvs:List V)(E:XK)(t:TA):TE:=fun σ H Q=>t σ H fun vs H1=>sp (vs++dvs) H1 Q E
noncomputable def Binds(K:PySem.W.Frag)(fd:FuncData)(ps:List Str)(ds:List Value):Prop :=
 ∀(s:Shared)(us:List Value),K.In s.heap->(us++ds).length=ps.length->BindsTo s fd ⟨us,[]⟩ (ps.zip (us++ds))
theorem Binds.all{K:PySem.W.Frag}{fd:FuncData}{ps:List Str}(h:∀ us:List Value,us.length=ps.length->bindArgs fd ⟨us,[]⟩=pure (ps.zip us)):Binds K fd ps []:=fun s us _ hl=>by
 rw [vP] at hl ⊢;exact .of_eq (h us hl)
noncomputable def Passes(CX:CXT)(X:Cx)(E:XK):Prop:=∀(pins:List (Addr×Obj))(σ:St)(H:Hp)(s:Shared)(e:Value)(s':Shared),Inv X pins σ H s->CX X.stack H s E e s'->X.xe e s'
section
variable{X:Cx}{CX:CXT}{k:Nat}{f C:Addr}{fd:FuncData}{ps:List Str}{sp:Sp}{dvs:List V}{ds:List Value}{E:XK}{x m:Str}{p pos apos:Pos}{e o:Expr}{es:List Expr}{ta:TE}{t:TA}
theorem zjq{pins:List (Addr×Obj)}{σ:St}{H:Hp}{s:Shared}{Q:VK}{us:List Value}{vs:List V}(F:FnOk X.prog X.w X.K X.mg X.base CX k f fd ps sp)(hr:Room k X.A)(hb:Binds X.K fd ps ds)(hd:Vals dvs ds)(hx:Passes CX X E)
  (I:Inv X pins σ H s) (r:Vals vs us) (h:sp (vs++dvs) H Q E):wpAny (model X.prog X.w) X.A (call (.ref f) us) (EP X pins σ Q) X.xe s:=by
 have r2:Vals (vs++dvs) (us++ds):=r.append hd;have hl:(us++ds).length=ps.length:=by rw [← r2.length]; exact F.len _ _ _ _ h
 refine wpAny_call (codeAny_mono (F.run X.A X.stack s H ⟨us,[]⟩ (us++ds) (vs++dvs) Q E hr I.env0 (hb s us I.kIn hl) r2 h) fun r s' hq=>?_);cases r with
 | error e=>exact hx pins σ H s e s' I hq
 | ok fl =>
  cases fl with
  | ret u=>exact I.after hq
  | next=>exact False.elim hq
  | brk=>exact False.elim hq
  | cont=>exact False.elim hq
theorem zh0(F:FnOk X.prog X.w X.K X.mg X.base CX k f fd ps sp)(hr:Room k X.A)(hg:Gl X x)(hm:X.mg x=some (.ref f))(hk:PySem.W.keepIn X.K (.ref f)=true)(hb:Binds X.K fd ps ds)(hd:Vals dvs ds)(hx:Passes CX X E)
  (ha:PA X (e::es) t) (hdb:(x ==("__debug__" : Str))=false:=by decide) (he:starEach (e::es) X.env =(false,eval e X.env)::starEach es X.env:=by rfl) (hpl:(backTo pos (starEach es X.env)).any (·.1)=false:=by rfl) :
  PE X (.Call (.Name x p) (e::es) [] pos) (tCall sp dvs E t):=by
 intro pins s σ H Q I h;refine wpAny_Call_Name_kw (zfC I hg hm ?_ hdb);refine PySem.W.callWith_K (h₀:=X.base) I.ok.mod.kin hk (thn (ha pos pins s σ H _ I h) fun us s1 ⟨vs,H1,I1,r,q⟩=>⟨I1.kIn,?_⟩) he hpl;exact zjq F hr hb hd hx I1 r q
end
section
variable{X:Cx}{CX:CXT}{k:Nat}{f C:Addr}{fd:FuncData}{ps ks:List Str}{sp:Sp}{E:XK}{x m:Str}{p pos apos kpos:Pos}{e o:Expr}{es:List Expr}{kws:List Keyword}{te ta:TE}{t tk:TA}{nm:Option Str}
variable{g:List Value->List Value->List Value}{gV:List V->List V->List V}
end
structure FnScope(N P:List Str)(sc:Scope):Prop where
 kind:sc.kind=.function
 co:sc.isCoroutine=false
 gen:sc.isGenerator=false
 nd:N.Nodup
 pre:N.take P.length=P
 par:∀ x∈P,sc.names.lookup x=some .local\/sc.names.lookup x=some .cell
 nofree:∀ y∈sc.names,y.2≠.free
theorem zbO{kindOf:Str->Option NameKind}{x:Str}:∀ {binds:List (Str×Value)} {m:Str->Option Value},(∀ v,(x,v)∉binds)->bindL kindOf binds m x=m x
 | [],_,_=>rfl
 | (n,v)::r,m,h=>by
  unfold bindL;rw [zbO fun w hw=>h w (wr _ hw)]
  split
  ·have:x≠n:=by rintro rfl; exact h v wm
   simp [this]
  ·rfl
theorem zbm{kindOf:Str->Option NameKind}{x:Str}:∀ {binds:List (Str×Value)} {m:Str->Option Value},(∀ v,(x,v)∉binds)->bindC kindOf binds m x=m x
 | [],_,_=>rfl
 | (n,v)::r,m,h=>by
  unfold bindC;rw [zbm fun w hw=>h w (wr _ hw)]
  split
  ·rfl
  ·have:x≠n:=by rintro rfl; exact h v wm
   simp [this]
theorem za0{kindOf:Str->Option NameKind}{x:Str}{v:Value}:∀ {P:List Str} {vs:List Value} {i:Nat} {m:Str->Option Value},P.Nodup->P[i]?=some x->vs[i]?=some v->kindOf x=some .local ->
  bindL kindOf (P.zip vs) m x=some v
 | [],_,_,_,_,h,_,_=>by simp at h
 | _::_,[],_,_,_,_,h,_=>by simp at h
 | p::P,w::vs,0,m,nd,h1,h2,hk=>by
  simp at h1 h2; subst h1; subst h2;show bindL kindOf ((p,w)::P.zip vs) m p=_;unfold bindL;rw [zbO fun v hv=>(gA.mp nd).1 (wR hv).1,if_pos hk];simp
 | p::P,w::vs,i+1,m,nd,h1,h2,hk=>by
  show bindL kindOf ((p,w)::P.zip vs) m x=_;unfold bindL;exact za0 (i:=i) (gA.mp nd).2 (by simpa using h1) (by simpa using h2) hk
theorem zaS{kindOf:Str->Option NameKind}{x:Str}{v:Value}:∀ {P:List Str} {vs:List Value} {i:Nat} {m:Str->Option Value},P.Nodup->P[i]?=some x->vs[i]?=some v->kindOf x≠some .local ->
  bindC kindOf (P.zip vs) m x=some v
 | [],_,_,_,_,h,_,_=>by simp at h
 | _::_,[],_,_,_,_,h,_=>by simp at h
 | p::P,w::vs,0,m,nd,h1,h2,hk=>by
  simp at h1 h2; subst h1; subst h2;show bindC kindOf ((p,w)::P.zip vs) m p=_;unfold bindC;rw [zbm fun v hv=>(gA.mp nd).1 (wR hv).1,if_neg hk];simp
 | p::P,w::vs,i+1,m,nd,h1,h2,hk=>by
  show bindC kindOf ((p,w)::P.zip vs) m x=_;unfold bindC;exact zaS (i:=i) (gA.mp nd).2 (by simpa using h1) (by simpa using h2) hk
noncomputable def start(N:List Str)(vs:List V):St:=vs.map some++wD (N.length - vs.length) none
noncomputable def cxOf(CX:CXT)(P:Program)(w:World)(K:PySem.W.Frag)(mg:Str->Option Value)(base:Heap)(N:List Str)(qual:Str)(scope:Scope)(f:Addr)(cd:Value)(A:Around)(outer:List Env)(s:Shared)(H:Hp)(E:XK):Cx where
 prog:=P
 w:=w
 K:=K
 mg:=mg
 base:=base
 A:=A.deeper (envOfC qual scope s.heap.objs.size f cd)
 N:=N
 s₀:=s
 H₀:=H
 env:=envOfC qual scope s.heap.objs.size f cd
 outer:=outer
 stack:=envOfC qual scope s.heap.objs.size f cd::outer
 ex:=[]
 calm:=true
 fn:=fun _=>true
 pn:=[]
 xe:=fun e s'=>wpAny (model P w) (A.deeper (envOfC qual scope s.heap.objs.size f cd)) (leaving (envOfC qual scope s.heap.objs.size f cd) e) (fun _ s''=>CX outer H s E e s'') (fun e' s''=>CX outer H s E e' s'') s'
theorem zcY{sc:Scope}{n:Nat}{x:Str}(h:sc.names.lookup x=some .cell):∃ c,(cellsFrom n sc.names []).lookup x=some c:=by
 have q:=PySem.W.cellsFrom_some sc.names n [] (.inl h);exact Option.isSome_iff_exists.mp q
theorem zeY{CX:CXT}{P:Program}{w:World}{K:PySem.W.Frag}{mg:Str->Option Value}{base:Heap}{N ps:List Str}{qual:Str}{scope:Scope}{f:Addr}{cd:Value}{A:Around}{outer:List Env}{s s1:Shared}{H:Hp}{E:XK}{us:List Value}{vs:List V}
  (S:FnScope N ps scope) (hd:A.handled=none) (e0:Env0 P w K mg base A outer s H) (hl:vs.length=ps.length) (r:Vals vs us)
  (x:InCallC s s.heap.objs.size (bindL (envOfC qual scope s.heap.objs.size f cd).kindOf (ps.zip us) fun _=>none) (cellsFrom (s.heap.objs.size+1) scope.names []) (bindC (envOfC qual scope s.heap.objs.size f cd).kindOf (ps.zip us) fun _=>none) s1) :
  Inv (cxOf CX P w K mg base N qual scope f cd A outer s H E) [] (start N vs) H s1:=by
 have hpl:ps.length<=N.length:=by have:=congrArg Ga S.pre; rw [wv] at this; omega
 obtain⟨h1,tk,rfl,hk⟩:=x.done;have noA:∀ b:Addr,b∉(cxOf CX P w K mg base N qual scope f cd A outer s H E).ex:=fun b z=>absurd (show b∈([]:List Addr)from z) (by simp)
 refine⟨⟨e0.mod,S.kind,rfl,rfl,wu _,fun y z c h1 h2=>?_,fun y hy=>?_,fun y c _ h=>?_,fun _=>hd,Around.frames_deeper e0.frames,.inr ⟨rfl,rfl⟩,fun b z=>absurd z (noA b),e0.bs,e0.bsz,fun b _ _=>noA b,fun b z=>absurd z (noA b),e0.funs,e0.frf⟩,
  rfl,e0.bare,Un.kept hk,⟨_,x.toInCall.ns,fun i y v h1 h2 h3=>?_⟩,fun y c h=>⟨_,x.cell y c h⟩,e0.hok.fresh (wu _),fun y c h=>?_,fun p hp=>absurd (show p∈([]:List (Addr×Obj))from hp) (by simp),e0.hok.kept hk,?_⟩
 ·exact name_of_addr x.apart (PySem.mem_of_lookup h1) (PySem.mem_of_lookup h2)
 ·have hy:scope.names.lookup y=some .cell\/scope.names.lookup y=some .free:=hy
  rcases hy with hy | hy
  ·exact zcY hy
  ·exact absurd rfl (S.nofree _ (PySem.mem_of_lookup hy))
 ·exact ur (x.above y c (PySem.mem_of_lookup h))
 ·have hi:i<vs.length:=by
   unfold start at h2
   by_cases hi:i<vs.length
   ·exact hi
   ·rw [vw (by simpa using hi)] at h2;rw [ul] at h2
    split at h2 <;> cases h2
  have ha:vs[i]?=some v:=by
   unfold start at h2;rw [vE (by simpa using hi),wg] at h2;cases e:vs[i]? with
   | none=>rw [e] at h2; cases h2
   | some a=>rw [e] at h2; cases h2; rfl
  obtain⟨u,hu,rv⟩:=r.get ha;have hp:ps[i]?=some y:=by
   rw [← S.pre,GA (by omega)]; exact h1
  have ndP:ps.Nodup:=by rw [← S.pre]; exact S.nd.sublist (List.take_sublist _ _)
  refine⟨u,rv,?_⟩
  rcases S.par y (wc hp)with k | k
  ·exact .inl ⟨k,za0 ndP hp hu k⟩
  ·obtain⟨c,e⟩:=zcY (n:=s.heap.objs.size+1) k;refine .inr ⟨.inl k,c,e,?_⟩;have q:=x.cell y c e;rw [zaS ndP hp hu (by show scope.names.lookup y≠_; rw [k]; decide)] at q;exact q
 ·exact e0.hok.fresh (ur (x.above y c (PySem.mem_of_lookup h)))
 ·unfold start;show _=N.length;rw [wx,wa,wQ];omega
theorem zjP{CX:CXT}{P:Program}{w:World}{K:PySem.W.Frag}{mg:Str->Option Value}{base:Heap}{k:Nat}{f:Addr}{name qual:Str}{params:Arguments}{body:List Stmt}{scope:Scope}{dV kV doc pm cdv ct oc:Value}{an od:Option Addr}
  {osl:Array (Option Value)} {N ps:List Str} {sp:Sp} (lk:K.lookup f=some ⟨oc,od,.func (PySem.W.fnOf name qual params body scope dV kV doc pm an cdv ct),osl⟩) (hcd:PySem.W.codeIn K cdv qual=true) (S:FnScope N ps scope)
  (len:∀ vs H Q E,sp vs H Q E->vs.length=ps.length)
  (hbody:∀(A:Around)(outer:List Env)(s:Shared)(H:Hp)(vs:List V)(Q:VK)(E:XK),Room k (A.deeper (envOfC qual scope s.heap.objs.size f cdv))->sp vs H Q E ->
   ∃ t,PSs (cxOf CX P w K mg base N qual scope f cdv A outer s H E) body t/\t { nx:=fun _ H'=>Q .non H',rt:=Q } (start N vs) H) :
  FnOk P w K mg base CX (k+1) f (PySem.W.fnOf name qual params body scope dV kV doc pm an cdv ct) ps sp:=by
 refine⟨len,fun A outer s H args us vs Q E hr e0 hb r hsp=>?_⟩;have hl:=len _ _ _ _ hsp;have KX:K.In s.heap:=e0.mod.kin.keeps fun b o e=>(e0.bs b o e).1
 have lim:s.heap.NoLimit:=e0.mod.nolimit.keeps fun b o e=>(e0.bs b o e).1
 have hkind:∀ y∈ps.zip us,scope.names.lookup y.1=some .local\/(scope.names.lookup y.1=some .cell/\((cellsFrom (s.heap.objs.size+1) scope.names []).lookup y.1).isSome=true):=fun⟨n,v⟩ hy=>by
  rcases S.par n (wR hy).1 with q | q
  ·exact .inl q
  ·exact .inr ⟨q,PySem.W.cellsFrom_some _ _ _ (.inl q)⟩
 refine codeAny_call_function hr.depth (KX _ _ lk) rfl S.co S.gen rfl (PySem.W.codeRec_of KX hcd) (hb _ _ _ _ ?_);refine wpAny_newFunctionEnv_cells S.kind hkind fun env he s1 x=>?_
 subst he;refine⟨lim.keeps x.toInCall.keep,codeAny_func ?_⟩;obtain⟨t,ht,hq⟩:=hbody A outer s H vs Q E (hr.deeper _) hsp;have I:Inv (cxOf CX P w K mg base N qual scope f cdv A outer s H E) [] (start N vs) H s1:=zeY S hr.hd e0 hl r x;refine wpAny_mono (ht [] s1 (start N vs) H _ I hq) (fun fl s' hs=>?_) fun e s' hs=>hs
 have fin:∀ {σ':St} {H':Hp} {v:V} {u:Value},Inv (cxOf CX P w K mg base N qual scope f cdv A outer s H E) [] σ' H' s'->RelV v u->Q v H'->CE outer P w H s Q u s' :=
  fun {σ' H' v u} J rv q=>⟨v,H',J.os,J.bare,J.base,J.hok,rv,q⟩
 cases fl with
 | ret u =>
  obtain⟨v,σ',H',J,rv,q⟩:=hs;exact fin J rv q
 | next =>
  obtain⟨σ',H',J,q⟩:=hs;exact fin (v:=V.non) (u:=Value.none) J rfl q
 | brk =>
  obtain⟨_,_,_,q⟩:=hs;exact False.elim q
 | cont =>
  obtain⟨_,_,_,q⟩:=hs;exact False.elim q
end L2
namespace L2
open PySem PySem.Spec PyProof.Rows
section
variable{X:Cx}{x:Str}{p pos:Pos}{e:Expr}{es:List Expr}{t:TA}{id T:String}{r:List V->Hp->VK->Prop}
noncomputable def tCB(r:List V->Hp->VK->Prop)(t:TA):TE:=fun σ H Q=>t σ H fun vs H1=>r vs H1 Q
theorem zE (hc:CallR X (.builtin id) r) (hg:Gl X x) (hm:X.mg x=none) (hv:bootBuiltins x=some (.builtin id)) (ha:PA X (e::es) t) (hn:x ≠ "__name__" := by decide) (hdb:(x ==("__debug__" : Str))=false:=by decide)
  (he:starEach (e::es) X.env =(false,eval e X.env)::starEach es X.env:=by rfl) (hpl:(backTo pos (starEach es X.env)).any (·.1)=false:=by rfl):PE X (.Call (.Name x p) (e::es) [] pos) (tCB r t):=by
 intro pins s σ H Q I h;refine wpAny_Call_Name_kw (za7 I hg hm hv ?_ hn hdb);exact PyProof.Rows.callWith_builtin1 (thn (ha pos pins s σ H _ I h) fun us s1 ⟨vs,H1,I1,r1,q1⟩=>hc pins s1 σ H1 vs us Q I1 r1 q1) he hpl
theorem yX (hc:CallR X (.type T) r) (hg:Gl X x) (hm:X.mg x=none) (hv:bootBuiltins x=some (.type T)) (ha:PA X (e::es) t) (hn:x ≠ "__name__" := by decide) (hdb:(x ==("__debug__" : Str))=false:=by decide)
  (he:starEach (e::es) X.env =(false,eval e X.env)::starEach es X.env:=by rfl) (hpl:(backTo pos (starEach es X.env)).any (·.1)=false:=by rfl):PE X (.Call (.Name x p) (e::es) [] pos) (tCB r t):=by
 intro pins s σ H Q I h;refine wpAny_Call_Name_kw (za7 I hg hm hv ?_ hn hdb);exact PyProof.Rows.callWith_type1 (thn (ha pos pins s σ H _ I h) fun us s1 ⟨vs,H1,I1,r1,q1⟩=>hc pins s1 σ H1 vs us Q I1 r1 q1) he hpl
end
end L2
namespace HT
open PySem PyProof.Rows
section
open PySem.SeqAt
open PySem.AutoSeq1 (wpAny_loadPart')
open PySem.MeetsSeq PySem.MeetsSeq2 PySem.MeetsSeq3
end
section
variable{prog:Program}{w:World}{A:Around}{E:Value->Shared->Prop}{s:Shared}
noncomputable def sIx(n d:Nat):Option Int->Nat
 | none=>d
 | some v=>if v<0 then(v +(n:Int)).toNat else min v.toNat n
theorem Xs(n d:Nat):sIx n d none=d:=rfl
theorem Ym(n d k:Nat):sIx n d (some (k:Int))=min k n:=by
 show(if (k:Int)<0 then((k:Int) +(n:Int)).toNat else min (k:Int).toNat n)=min k n;rw [if_neg (by omega),wP]
end
end HT
namespace L2
open PySem PySem.Spec PyProof.Rows
noncomputable abbrev TO:=St->Hp->(Option Int->Hp->Prop)->Prop
noncomputable def PO(X:Cx)(e:Option Expr)(t:TO):Prop :=
 ∀(pins:List (Addr×Obj))(s:Shared)(σ:St)(H:Hp)(Q:Option Int->Hp->Prop),Inv X pins σ H s->t σ H Q ->
  wpAny (model X.prog X.w) X.A (evalPart e X.env) (fun u s'=>∃ o H',Inv X pins σ H' s'/\IsPart u o/\Q o H') X.xe s
noncomputable def tNoPart:TO:=fun _ H Q=>Q none H
noncomputable def tPart(t:TE):TO:=fun σ H Q=>t σ H fun x H1=>∃ i,x=.int i/\Q (some i) H1
section
variable{X:Cx}{e:Expr}{te:TE}{lo hi:Option Expr}{tl th:TO}{pos p2:Pos}
theorem Xx:PO X none tNoPart:=by
 intro pins s σ H Q I h;rw [evalPart_none];exact wpAny_pure ⟨none,H,I,.none,h⟩
theorem Zy(h:PE X e te):PO X (some e) (tPart te):=by
 intro pins s σ H Q I hw;rw [evalPart_some];refine thn (h pins s σ H _ I hw) fun u s1 ⟨x,H1,I1,r1,q1⟩=>?_
 obtain⟨i,rfl,q⟩:=q1;obtain⟨t,rfl⟩:=r1;exact⟨some i,H1,I1,.int i t,q⟩
noncomputable def SlR(X:Cx)(r:V->Option Int->Option Int->Hp->VK->Prop):Prop :=
 ∀(pins:List (Addr×Obj))(s:Shared)(σ:St)(H:Hp)(x:V)(v vl vu:Value)(lo hi:Option Int)(sl:Addr)(Q:VK),Inv X pins σ H s->RelV x v->s.heap.IsSliceOf sl vl vu .none->IsPart vl lo->IsPart vu hi->r x lo hi H Q ->
  ∃ T id,typeLookup (.type T) "__getitem__" = pure (some (.builtin id))/\s.TypeIs v T/\wpAny (model X.prog X.w) X.A (getItem v (.ref sl)) (EP X pins σ Q) X.xe s
noncomputable def tSl(r:V->Option Int->Option Int->Hp->VK->Prop)(te:TE)(tl th:TO):TE:=fun σ H Q=>te σ H fun x H1=>tl σ H1 fun l H2=>th σ H2 fun u H3=>r x l u H3 Q
theorem Zf{r:V->Option Int->Option Int->Hp->VK->Prop}(hr:SlR X r)(he:PE X e te)(hl:PO X lo tl)(hu:PO X hi th):PE X (.Subscript e (.Slice lo hi none p2) pos) (tSl r te tl th):=by
 intro pins s σ H Q I h;refine Subscript_ (thn (he pins s σ H _ I h) fun v s1 ⟨x,H1,I1,r1,q1⟩=>?_);refine wpAny_Slice (thn (hl pins s1 σ H1 _ I1 q1) fun vl s2 ⟨l,H2,I2,pl,q2⟩=>thn (hu pins s2 σ H2 _ I2 q2) fun vu s3 ⟨u,H3,I3,pu,q3⟩=>?_);rw [evalPart_none];refine wpAny_pure ?_;have I4:Inv X pins σ H3 { s3 with heap:=s3.heap.push { cls:=.type "slice",data:=.fields #[vl,vu,.none] } }:=I3.kept (t':=s3.toks) fun b ob q=>Heap.get?_push_of_some _ q
 obtain⟨T,id,hT,ht,hg⟩:=hr pins { s3 with heap:=s3.heap.push { cls:=.type "slice",data:=.fields #[vl,vu,.none] } } σ H3 x v vl vu l u s3.heap.objs.size Q I4 r1 (Heap.IsSliceOf.new ..) pl pu q3;show wpAny (model X.prog X.w) X.A (subscriptTail e (.Slice lo hi none p2) v (.ref s3.heap.objs.size)) (EP X pins σ Q) X.xe { s3 with heap:=s3.heap.push { cls:=.type "slice",data:=.fields #[vl,vu,.none] } };exact tail_any (ops:=[.ref s3.heap.objs.size,v]) ht hT hg (by with_unfolding_all rfl)
noncomputable def cutV(xs:List V)(lo hi:Option Int):List V:=(xs.drop (HT.sIx xs.length 0 lo)).take (HT.sIx xs.length xs.length hi - HT.sIx xs.length 0 lo)
theorem zcg(xs:List V)(lo hi:Option Int):(cutV xs lo hi).length<=xs.length:=by
 unfold cutV;rw [wv,ut];omega
end
end L2
namespace L2
open PySem PySem.Spec PyProof.Rows
noncomputable def ixN(n:Nat)(i:Int):Option Nat:=if 0<=i then(if i<n then some i.toNat else none)else if -(n:Int)<=i then some (i+n).toNat else none
noncomputable def atI{α:Type}(xs:List α)(i:Int):Option α:=(ixN xs.length i).bind fun j=>xs[j]?
theorem zeW{n:Nat}{i:Int}{j:Nat}(h:ixN n i=some j):seqIndex? i n=some j/\j<n/\-(n:Int)<=i/\i<n:=by
 unfold ixN at h
 by_cases h0:0<=i
 ·rw [if_pos h0] at h
  by_cases h1:i<n
  ·rw [if_pos h1] at h;have e:i.toNat=j:=Option.some.inj h;exact⟨by rw [seqIndex_of h0 h1,e],by omega,by omega,h1⟩
  ·rw [if_neg h1] at h; cases h
 ·rw [if_neg h0] at h
  by_cases h1 : -(n:Int)<=i
  ·rw [if_pos h1] at h;have e:(i+n).toNat=j:=Option.some.inj h;exact⟨by rw [seqIndex_neg (by omega) h1,e],by omega,h1,by omega⟩
  ·rw [if_neg h1] at h; cases h
theorem zgi{α:Type}{xs:List α}{i:Int}{v:α}(h:atI xs i=some v):∃ j,seqIndex? i xs.length=some j/\xs[j]?=some v/\j<xs.length/\-(xs.length:Int)<=i/\i<xs.length:=by
 unfold atI at h;cases e:ixN xs.length i with
 | none=>rw [e] at h; cases h
 | some j =>
  rw [e] at h;obtain⟨h1,h2,h3,h4⟩:=zeW e;exact⟨j,h1,h,h2,h3,h4⟩
theorem zH{α:Type}{xs:List α}{j:Nat}{v:α}(h:xs[j]?=some v):atI xs (j:Int)=some v:=by
 have hj:j<xs.length:=(wo.mp h).1;have e:ixN xs.length (j:Int)=some j:=by
  unfold ixN;rw [if_pos (by omega),if_pos (by omega)]; simp
 unfold atI; rw [e]; exact h
noncomputable def PlainIx(b:Expr):Prop:=∀ o i,subscripted b false o i=operate [o,i] (getItem o i)
noncomputable def IxR(X:Cx)(r:R2):Prop :=
 ∀(value slice:Expr)(pins:List (Addr×Obj))(s:Shared)(σ:St)(H:Hp)(x y:V)(v u:Value)(Q:VK),Inv X pins σ H s->RelV x v->RelV y u->r x y H Q ->
  subscripted slice false v u=operate [v,u] (getItem v u)->wpAny (model X.prog X.w) X.A (subscriptTail value slice v u) (EP X pins σ Q) X.xe s
noncomputable def MtR(X:Cx)(id:String)(r:V->List V->Hp->VK->Prop):Prop :=
 ∀(pins:List (Addr×Obj))(s:Shared)(σ:St)(H:Hp)(x:V)(xs:List V)(v:Value)(us:List Value)(Q:VK),Inv X pins σ H s->RelV x v->Vals xs us->r x xs H Q ->
  wpAny (model X.prog X.w) X.A (call (.builtin id) (v::us)) (EP X pins σ Q) X.xe s
section
variable{X:Cx}{a b:Expr}{ta tb:TE}{pos:Pos}
theorem zG{r:R2}(hr:IxR X r)(ha:PE X a ta)(hb:PE X b tb)(hs:PlainIx b):PE X (.Subscript a b pos) (tOp r ta tb):=by
 intro pins s σ H Q I h;exact Subscript_ (binT ha hb I h fun v u s2 x y H2 I2 rx ry q=>hr a b pins s2 σ H2 x y v u Q I2 rx ry q (hs _ _))
inductive zhF(K:PySem.W.Frag)(x y:V)(H:Hp)(Q:VK):Prop where
 | mk (p:Addr) (xs:List V) (i:Int) (v:V) (h0_:x=.ref p) (h1_:y=.int i) (h2_:SqL K H p xs) (h3_:atI xs i=some v) (h4_:Q v H):zhF K x y H Q
noncomputable def rIxL(K:PySem.W.Frag):R2:=fun x y H Q=>zhF K x y H Q
inductive zhC(K:PySem.W.Frag)(x y:V)(H:Hp)(Q:VK):Prop where
 | mk (p:Addr) (xs:List V) (i:Int) (v:V) (h0_:x=.ref p) (h1_:y=.int i) (h2_:SqT K H p xs) (h3_:atI xs i=some v) (h4_:Q v H):zhC K x y H Q
noncomputable def rIxT(K:PySem.W.Frag):R2:=fun x y H Q=>zhC K x y H Q
theorem zf1:IxR X (rIxL X.K):=by
 intro value slice pins s σ H x y v u Q I rx ry h hs;obtain⟨p,xs,i,z,rfl,rfl,hq,he,q⟩:=h;cases rx;obtain⟨t,rfl⟩:=ry;obtain⟨its,r,pl,hz⟩:=I.list hq;obtain⟨j,h1,h2,h3,h4,h5⟩:=zgi he;obtain⟨w,ew,rw'⟩:=r.get h2;have hl:=r.length;have hn:=line63;have fin:EP X pins σ Q w s:=⟨z,H,I,rw',q⟩
 by_cases h0:0<=i
 ·have hj:i.toNat=j:=by
   rw [seqIndex_of h0 h5] at h1;exact Option.some.inj h1
  exact item_listR pl.isList h0 (by omega) (by rw [hj]; simpa using ew) fin hs
 ·have hj:(i +(its.toArray.size:Int)).toNat=j:=by
   rw [seqIndex_neg (by omega) h4] at h1;rw [wK,← hl];exact Option.some.inj h1
  exact subscriptTail_builtinR (x:=w) pl.isList.typeIs slot_list_getitem.lookup
   (wpAny_getItem_list_neg (Q:=fun r s'=>r=w/\EP X pins σ Q r s') pl.isList (by omega) (by rw [wK] <;> omega) (by omega) (by rw [hj]; simpa using ew) ⟨rfl,fin⟩) hs
theorem zhO:IxR X (rIxT X.K):=by
 intro value slice pins s σ H x y v u Q I rx ry h hs;obtain⟨p,xs,i,z,rfl,rfl,hq,he,q⟩:=h;cases rx;obtain⟨t,rfl⟩:=ry;obtain⟨its,r,pl,hz⟩:=I.tuple hq;obtain⟨j,h1,h2,h3,h4,h5⟩:=zgi he;obtain⟨w,ew,rw'⟩:=r.get h2;have hl:=r.length;have hn:=line63;have fin:EP X pins σ Q w s:=⟨z,H,I,rw',q⟩;exact subscriptTail_builtinR (x:=w) pl.typeIs slot_tuple_getitem.lookup
  (getItem_tuple (j:=j) (Q:=fun r s'=>r=w/\EP X pins σ Q r s') pl (by omega) (by omega) (by rw [wK,← hl]; exact h1) (by simpa using ew) ⟨rfl,fin⟩) hs
theorem zdY (its:List Value) (n j:Nat) (u:Value):Obj.mapSeq (·.setIfInBounds j u) { cls:=.type "list",data:=.seq its.toArray n }={ cls:=.type "list",data:=.seq (its.set j u).toArray n }:=by
 simp [Obj.mapSeq]
theorem Inv.lst{pins:List (Addr×Obj)}{σ:St}{H:Hp}{s:Shared}{p:Addr}{xs:List V}(I:Inv X pins σ H s)(h:H p=some (.lst xs)) :
  ∃(its:List Value)(n:Nat),Vals xs its/\s.heap.get? p=some { cls:=.type "list",data:=.seq its.toArray n }/\xs.length<=sizeLine:=by
 obtain⟨z,its,n,r,e⟩:=I.hok p _ h;exact⟨its,n,r,e,z⟩
theorem Inv.lstUpd{pins:List (Addr×Obj)}{σ:St}{H:Hp}{s:Shared}{p:Addr}{xs ys:List V}{its its':List Value}{n n':Nat}{f:Obj->Obj}(I:Inv X pins σ H s)(h:H p=some (.lst xs))
  (ho:s.heap.get? p=some { cls:=.type "list",data:=.seq its.toArray n }) (hf:f { cls:=.type "list",data:=.seq its.toArray n }={ cls:=.type "list",data:=.seq its'.toArray n' }) (r:Vals ys its') (hz:ys.length<=sizeLine) (t:Nat) :
  Inv X pins σ (upd H p (.lst ys)) { s with heap:=s.heap.update p f,toks:=t }:=by
 have e:(s.heap.update p f).get? p=some { cls:=.type "list",data:=.seq its'.toArray n' }:=by
  rw [Heap.get?_update_self f ho (by rw [hf] <;> rfl),hf]
 refine I.write (x:=p) (e:=p) (by rw [h]; trivial) (.inl rfl) (fun b u hb q=>(Heap.get?_update_other _ _ (Ne.symm hb)).trans q) ⟨_,e⟩ ?_;exact⟨hz,its',n',r,e⟩
inductive ze3(o i v:V)(H:Hp)(Q:Hp->Prop):Prop where
 | mk (p:Addr) (xs:List V) (k:Int) (j:Nat) (h0_:o=.ref p) (h1_:i=.int k) (h2_:H p=some (.lst xs)) (h3_:ixN xs.length k=some j) (h4_:Q (upd H p (.lst (xs.set j v)))):ze3  o i v H Q
noncomputable def rSetL:V->V->V->Hp->(Hp->Prop)->Prop:=fun o i v H Q=>ze3  o i v H Q
theorem jE:PSet X rSetL:=by
 intro pins s σ H o i v ov iv u Q I ro ri rv h;obtain⟨p,xs,k,j,rfl,rfl,hp,hj,q⟩:=h;cases ro;obtain⟨t,rfl⟩:=ri;obtain⟨its,n,r,ho,hz⟩:=I.lst hp;obtain⟨h1,h2,h3,h4⟩:=zeW hj;have hl:=r.length;have hn:=line63;have I':Inv X pins σ (upd H p (.lst (xs.set j v))) { s with heap:=s.heap.update p (Obj.mapSeq (·.setIfInBounds j u)) } :=
  I.lstUpd hp ho (zdY its n j u) (r.set rv j) (by rw [vf]; exact hz) s.toks
 by_cases h0:0<=k
 ·have hk:k.toNat=j:=by
   rw [seqIndex_of h0 h4] at h1;exact Option.some.inj h1
  exact PySem.W.ki_setAt ho h0 (by omega) (by rw [wK,← hl]; exact h4) (by rw [hk]; exact⟨_,I',q⟩)
 ·have hk:(k +(its.toArray.size:Int)).toNat=j:=by
   rw [seqIndex_neg (by omega) h3] at h1;rw [wK,← hl];exact Option.some.inj h1
  exact PySem.W.ki_setBack ho (by omega) (by rw [wK,← hl]; exact h3) (by omega) (by rw [hk]; exact⟨_,I',q⟩)
theorem zbs(lo hi:Option Int)(n:Nat):(sliceBounds lo hi none n).1 =((HT.sIx n 0 lo:Nat):Int)/\(sliceBounds lo hi none n).2.1 =((HT.sIx n n hi:Nat):Int)/\(sliceBounds lo hi none n).2.2=1:=by
 refine⟨?_,?_,rfl⟩
 ·cases lo with
  | none=>simp [sliceBounds,HT.sIx]
  | some i =>
   simp only [sliceBounds,HT.sIx,waF,show(1:Int) > 0 by decide,if_true]
   by_cases h:i<0
   ·simp only [h,if_true] <;> omega
   ·simp only [h,if_false] <;> omega
 ·cases hi with
  | none=>simp [sliceBounds,HT.sIx]
  | some i =>
   simp only [sliceBounds,HT.sIx,waF,show(1:Int) > 0 by decide,if_true]
   by_cases h:i<0
   ·simp only [h,if_true] <;> omega
   ·simp only [h,if_false] <;> omega
theorem QZ(its:List Value)(lo hi:Option Int):slicePick its.toArray lo hi none =((its.drop (HT.sIx its.length 0 lo)).take (HT.sIx its.length its.length hi - HT.sIx its.length 0 lo)).toArray:=by
 obtain⟨h1,h2,h3⟩:=zbs lo hi its.toArray.size;unfold slicePick;rw [h1,h2,h3];simp only [sliceRange_one,pick_run,wK] <;> rfl
inductive zhN(K:PySem.W.Frag)(x:V)(lo hi:Option Int)(H:Hp)(Q:VK):Prop where
 | mk (a:Addr) (xs:List V) (h0_:x=.ref a) (h1_:SqL K H a xs) (h2_:∀ p,H p=none->Q (.ref p) (upd H p (.lst (cutV xs lo hi)))):zhN K x lo hi H Q
noncomputable def rSlL(K:PySem.W.Frag):V->Option Int->Option Int->Hp->VK->Prop:=fun x lo hi H Q=>zhN K x lo hi H Q
theorem zeI:SlR X (rSlL X.K):=by
 intro pins s σ H x v vl vu lo hi sl Q I rx hs pl pu h;obtain⟨a,xs,rfl,hx,q⟩:=h;cases rx;obtain⟨its,r,ht,hz⟩:=I.list hx;have hlen:=r.length;refine⟨"list",_,slot_list_getitem.lookup,ht.isList.typeIs,?_⟩;refine wpAny_getItem_list_slice ht.isList hs pl pu .none (by simp) ?_ (by rw [wK] <;> omega);rw [QZ,← hlen];refine⟨.ref s.heap.objs.size,_,I.laid (t':=s.toks) (o:=.lst (cutV xs lo hi)) (fun b ob q=>Heap.get?_push_of_some _ q) (wu _) ?_,rfl,q _ (I.hok.fresh (wu _))⟩;exact⟨wF (zcg xs lo hi) hz,_,0,(r.drop (HT.sIx xs.length 0 lo)).take (HT.sIx xs.length xs.length hi - HT.sIx xs.length 0 lo),Heap.get?_push_size _ rfl⟩
noncomputable def flatV:V->Bool
 | .non=>true
 | .bl _=>true
 | .int _=>true
 | .str _=>true
 | _=>false
noncomputable def eqV:V->V->Bool
 | .non,.non=>true
 | .bl a,.bl b=>a == b
 | .bl a,.int b=>(if a then 1 else 0) == b
 | .int a,.bl b=>a ==(if b then 1 else 0)
 | .int a,.int b=>a == b
 | .str a,.str b=>a == b
 | _,_=>false
theorem zjG{A:Around}{s:Shared}{y x:V}{u v:Value}(ry:RelV y u)(rx:RelV x v)(fy:flatV y=true)(fx:flatV x=true):SeqAt.EqAt A s u v (eqV y x):=by
 cases y with
 | non =>
  cases ry;cases x with
  | non=>cases rx; exact SeqAt.EqAt.same _
  | bl b=>cases rx; exact SeqAt.EqAt.none_bool b
  | int b=>obtain⟨t,rfl⟩:=rx; exact SeqAt.EqAt.none_int b t
  | str b=>obtain⟨t,rfl⟩:=rx; exact SeqAt.EqAt.none_str b t
  | _=>exact absurd (show false=true from fx) wO
 | bl a =>
  cases ry;cases x with
  | non=>cases rx; exact SeqAt.EqAt.bool_none a
  | bl b=>cases rx; exact SeqAt.EqAt.bool_bool a b
  | int b=>obtain⟨t,rfl⟩:=rx; exact SeqAt.EqAt.bool_int a b t
  | str b=>obtain⟨t,rfl⟩:=rx; exact SeqAt.EqAt.bool_str a b t
  | _=>exact absurd (show false=true from fx) wO
 | int a =>
  obtain⟨t',rfl⟩:=ry;cases x with
  | non=>cases rx; exact SeqAt.EqAt.int_none a t'
  | bl b=>cases rx; exact SeqAt.EqAt.int_bool a t' b
  | int b=>obtain⟨t,rfl⟩:=rx; exact SeqAt.EqAt.int_int a t' b t
  | str b=>obtain⟨t,rfl⟩:=rx; exact SeqAt.EqAt.int_str a t' b t
  | _=>exact absurd (show false=true from fx) wO
 | str a =>
  obtain⟨t',rfl⟩:=ry;cases x with
  | non=>cases rx; exact SeqAt.EqAt.str_none a t'
  | bl b=>cases rx; exact SeqAt.EqAt.str_bool a t' b
  | int b=>obtain⟨t,rfl⟩:=rx; exact SeqAt.EqAt.str_int a t' b t
  | str b=>obtain⟨t,rfl⟩:=rx; exact SeqAt.EqAt.str_str a t' b t
  | _=>exact absurd (show false=true from fx) wO
 | _=>exact absurd (show false=true from fy) wO
noncomputable def eqU(x:V)(u:Value):Bool:=match u with
 | .none=>eqV .non x
 | .bool b=>eqV (.bl b) x
 | .int i _=>eqV (.int i) x
 | .str z _=>eqV (.str z) x
 | _=>false
theorem zhL{x y:V}{u:Value}(r:RelV y u)(f:flatV y=true):eqU x u=eqV y x:=by
 cases y with
 | non=>cases r; rfl
 | bl b=>cases r; rfl
 | int i=>obtain⟨t,rfl⟩:=r; rfl
 | str z=>obtain⟨t,rfl⟩:=r; rfl
 | _=>exact absurd (show false=true from f) wO
theorem zbW{x:V}:∀ {xs:List V} {us:List Value},Vals xs us->xs.all flatV=true->us.any (eqU x)=xs.any fun y=>eqV y x
 | _,_,.nil,_=>rfl
 | y::xs,u::us,.cons r t,f=>by
  rw [wak,gr] at f;rw [wal,wal,zhL r f.1,zbW t f.2]
theorem zaj{A:Around}{s:Shared}{x:V}{v:Value}(rx:RelV x v)(fx:flatV x=true):∀ {xs:List V} {us:List Value},Vals xs us->xs.all flatV=true->∀ u∈us,SeqAt.EqAt A s u v (eqU x u)
 | _,_,.nil,_=>fun u hu=>by cases hu
 | y::xs,u::us,.cons r t,f=>fun u' hu=>by
  rw [wak,gr] at f
  rcases wH.mp hu with rfl | hu
  ·rw [zhL r f.1]; exact zjG r rx f.1 fx
  ·exact zaj rx fx t f.2 u' hu
noncomputable def inV(x:V)(xs:List V):Bool:=xs.any fun y=>eqV y x
noncomputable def rIn(K:PySem.W.Frag)(neg:Bool):R2:=fun x y H Q=>∃ p xs,y=.ref p/\(SqL K H p xs\/SqT K H p xs)/\flatV x=true/\xs.all flatV=true/\Q (.bl (if neg then !inV x xs else inV x xs)) H
theorem zbw:OpR X (compareOp .NotIn) (rIn X.K true):=by
 intro pins s σ H x y v u Q I rx ry h;obtain⟨p,xs,rfl,hq,fx,fs,q⟩:=h;cases ry
 rcases hq with hq | hq
 ·obtain⟨its,r,pl,hz⟩:=I.list hq;refine SeqAt.notIn_listAt (eqU x) pl.isList (fun w hw=>zaj rx fx r fs w (by simpa using hw)) ⟨.bl _,H,I,rfl,?_⟩;rw [show its.toArray.any (eqU x)=its.any (eqU x) by simp,zbW r fs];exact q
 ·obtain⟨its,r,pl,hz⟩:=I.tuple hq;refine SeqAt.notIn_tupleAt (eqU x) pl (fun w hw=>zaj rx fx r fs w (by simpa using hw)) ⟨.bl _,H,I,rfl,?_⟩;rw [show its.toArray.any (eqU x)=its.any (eqU x) by simp,zbW r fs];exact q
theorem zbL:CallR X (.builtin "len") (fun xs H Q=>∃ p ys,xs=[.ref p]/\(SqL X.K H p ys\/SqT X.K H p ys)/\Q (.int ys.length) H):=by
 intro pins s σ H xs us Q I r h;obtain⟨p,ys,rfl,hq,q⟩:=h;obtain⟨u,rfl,rx⟩:=vals1 r;cases rx;have hn:=line63
 rcases hq with hq | hq
 ·obtain⟨its,r',pl,hz⟩:=I.list hq;have hlen:=r'.length;exact Calls.call_len_list pl.isList (by simp only [wK] <;> omega) ⟨.int ys.length,H,I.tok _,⟨s.toks+1,by rw [wK,hlen]⟩,q⟩
 ·obtain⟨its,r',pl,hz⟩:=I.tuple hq;have hlen:=r'.length;exact len_tuple pl (by simp only [wK] <;> omega) ⟨.int ys.length,H,I.tok _,⟨s.toks+1,by rw [wK,hlen]⟩,q⟩
theorem zaX:CallR X (.type "list") (fun xs H Q=>∃ p ys,xs=[.ref p]/\(SqL X.K H p ys\/SqT X.K H p ys)/\∀ l,H l=none->Q (.ref l) (upd H l (.lst ys))):=by
 intro pins s σ H xs us Q I r h;obtain⟨p,ys,rfl,hq,q⟩:=h;obtain⟨u,rfl,rx⟩:=vals1 r;cases rx;have fin:∀(its:List Value),Vals ys its->ys.length<=sizeLine->∀(h':Heap)(c':Nat),(∀ b o',s.heap.get? b=some o'->h'.get? b=some o') ->
   h'.get? s.heap.objs.size=some { cls:=.type "list",dict:=none,data:=.seq its.toArray c',slots:=#[] }->EP X pins σ Q (.ref s.heap.objs.size) { s with heap:=h' }:=fun its r' hz h' c' kp e =>
  ⟨.ref s.heap.objs.size,_,I.laid (t':=s.toks) kp (wu _) (show ObjOk X.prog X.w _ h' _ (.lst ys)from⟨hz,its,c',r',e⟩),rfl,q _ (I.hok.fresh (wu _))⟩
 rcases hq with hq | hq
 ·obtain⟨its,r',pl,hz⟩:=I.list hq;have hlen:=r'.length;obtain⟨o,ho,hc,n,hd⟩:=pl.isList;exact call_list_seq p (.inl rfl) ho hc hd (fun h' c' kp e=>fin its r' hz h' c' kp e) (by simp only [wK] <;> omega)
 ·obtain⟨its,r',pl,hz⟩:=I.tuple hq;have hlen:=r'.length;obtain⟨o,ho,hc,n,hd⟩:=pl;exact call_list_seq p (.inr rfl) ho hc hd (fun h' c' kp e=>fin its r' hz h' c' kp e) (by simp only [wK] <;> omega)
theorem zad:CallR X (.type "tuple") (fun xs H Q=>∃ p ys,xs=[.ref p]/\((SqL X.K H p ys/\∀ l,H l=none->Q (.ref l) (upd H l (.tup ys)))\/(SqT X.K H p ys/\Q (.ref p) H))):=by
 intro pins s σ H xs us Q I r h;obtain⟨p,ys,rfl,h⟩:=h;obtain⟨u,rfl,rx⟩:=vals1 r;cases rx
 rcases h with⟨hq,q⟩ | ⟨hq,q⟩
 ·obtain⟨its,r',pl,hz⟩:=I.list hq;have hlen:=r'.length;refine call_tuple_list pl.isList (fun h' kp=>?_) (by simp only [wK] <;> omega);have I1:Inv X pins σ H { s with heap:=h' }:=I.kept (t':=s.toks) kp;have I2:Inv X pins σ (upd H h'.objs.size (.tup ys)) { s with heap:=h'.push { cls:=.type "tuple",data:=.seq its.toArray } } :=
   I1.laid (t':=s.toks) (fun b o e=>Heap.get?_push_of_some _ e) (wu _) (show ObjOk X.prog X.w _ _ _ (.tup ys)from⟨hz,its,r',IsTup.new _ _⟩)
  exact⟨.ref h'.objs.size,_,I2,rfl,q _ (I1.hok.fresh (wu _))⟩
 ·obtain⟨its,r',pl,hz⟩:=I.tuple hq;exact call_tuple_same pl ⟨.ref p,H,I,rfl,q⟩
noncomputable def tyV(K:PySem.W.Frag)(T:String)(x:V)(H:Hp):Prop:=match x with
 | .str _=>T = "str"
 | .int _=>T = "int"
 | .ref p=>(T = "list" /\ ∃ xs,SqL K H p xs)\/(T = "tuple" /\ ∃ o,K.lookup p=some o/\o.cls=.type "tuple" /\ o.dict=none) \/
   (T = "dict" /\ ((∃ kvs,H p=some (.dK kvs))\/∃ kvs,H p=some (.dT kvs)))\/(T = "set" /\ ∃ S n,H p=some (.set S n))
 | _=>False
theorem zjy{pins:List (Addr×Obj)}{σ:St}{H:Hp}{s:Shared}{T:String}{x:V}{v:Value}(I:Inv X pins σ H s)(r:RelV x v)(ty:tyV X.K T x H) :
  s.TypeIs v T/\∀ a,v=.ref a->∃ ob,s.heap.get? a=some ob/\ob.dict=none:=by
 cases x with
 | str z =>
  obtain⟨t,rfl⟩:=r;cases (show T = "str" from ty);exact⟨typeIs_str s z t,fun _ e=>nomatch e⟩
 | int i =>
  obtain⟨t,rfl⟩:=r;cases (show T = "int" from ty);exact⟨typeIs_int s i t,fun _ e=>nomatch e⟩
 | ref p =>
  cases r
  rcases ty with⟨rfl,xs,hq⟩ | ⟨rfl,o,hk,hc,hd⟩ | ⟨rfl,hk⟩ | ⟨rfl,S,n,hk⟩
  ·obtain⟨its,_,pl,_⟩:=I.list hq;refine⟨pl.isList.typeIs,fun a e=>?_⟩;cases e;obtain⟨o,n,e,c,hd,_⟩:=pl;exact⟨o,e,hd⟩
  ·refine⟨⟨o,I.kIn p o hk,hc⟩,fun a e=>?_⟩;cases e;exact⟨o,I.kIn _ o hk,hd⟩
  ·have z:∃ o,s.heap.get? p=some o/\o.ExactDict:=by
    rcases hk with⟨kvs,hk⟩ | ⟨kvs,hk⟩
    ·obtain⟨_,_,_,_,o,_,_,e,ex,_⟩:=I.hok p _ hk;exact⟨o,e,ex⟩
    ·obtain⟨_,_,_,_,o,_,_,e,ex,_⟩:=I.hok p _ hk;exact⟨o,e,ex⟩
   obtain⟨o,e,ex⟩:=z;refine⟨⟨o,e,ex.1⟩,fun a e2=>?_⟩;cases e2;exact⟨o,e,ex.2.1⟩
  ·obtain⟨o,_,_,_,e,ex,_⟩:=I.hok p _ hk;refine⟨⟨o,e,ex.1⟩,fun a e2=>?_⟩;cases e2;exact⟨o,e,ex.2.1⟩
 | _=>exact False.elim ty
noncomputable def tBM(K:PySem.W.Frag)(T:String)(r:V->List V->Hp->VK->Prop)(to:TE)(t:TA):TE:=fun σ H Q=>to σ H fun x H1=>tyV K T x H1/\t σ H1 fun xs H2=>r x xs H2 Q
variable{o e:Expr}{es:List Expr}{to:TE}{t:TA}{name:Str}{apos cpos:Pos}{T id:String}{r:V->List V->Hp->VK->Prop}
theorem XG (pa:PlainAttrs T) (slot:Slot T name id) (hty:typeOf (.builtin id)=pure (.type "method_descriptor")) (hm:MtR X id r) (ho:PE X o to) (ha:PA X (e::es) t)
  (hbase:attributeBase o name X.env (eval o X.env)=eval o X.env:=by rfl)
  (hfew:((backTo cpos (starEach (e::es) X.env)).all (fun x=>!x.1) && (backToKw cpos (keywordEach [] X.env)).all (fun x=>x.1.isSome)
   && decide ((e::es).length +([]:List Keyword).length +(if ([]:List Keyword).isEmpty then 0 else 1)<30))=true:=by rfl)
  (hline:(apos.endLine == cpos.line)=true:=by rfl) (hs:starEach (e::es) X.env =(false,eval e X.env)::starEach es X.env:=by rfl) (hplain:(backTo cpos (starEach es X.env)).any (·.1)=false:=by rfl) :
  PE X (.Call (.Attribute o name apos) (e::es) [] cpos) (tBM X.K T r to t):=by
 intro pins s σ H Q I h;refine wpAny_Call_method_late hbase hfew hline rfl (thn (ho pins s σ H _ I h) fun v s1 ⟨x,H1,I1,r1,ty,q1⟩=>?_);obtain⟨h1,h2⟩:=zjy I1 r1 ty;refine⟨T,id,pa,slot,hty,h1,h2,?_⟩;have hA:=ha cpos pins s1 σ H1 _ I1 q1;rw [hs] at hA ⊢;refine Calls.callWith_builtin (by show(false || (backTo cpos (starEach es X.env)).any (·.1))=false; rw [hplain] <;> rfl) (Calls.evalArgs_plain ?_);exact thn hA fun us s2 ⟨vs,H2,I2,r2,q2⟩=>hm pins s2 σ H2 x vs v us Q I2 r1 r2 q2
end
end L2
namespace L2
open PySem PySem.Spec PyProof.Rows
noncomputable def MtM(X:Cx)(id:String)(r:V->List V->Hp->VK->Prop):Prop :=
 ∀(pins:List (Addr×Obj))(s:Shared)(σ:St)(H:Hp)(x:V)(xs:List V)(v:Value)(us:List Value)(Q:VK),Inv X pins σ H s->RelV x v->Vals xs us->r x xs H Q ->
  wpAny (model X.prog X.w) X.A (call (.builtin id) (v::us)) (EP X pins σ Q) X.xe s
theorem Vals.one:∀ {x:V} {us:List Value},Vals [x] us->∃ u,us=[u]/\RelV x u
 | _,_,.cons r .nil=>⟨_,rfl,r⟩
theorem Vals.two:∀ {x y:V} {us:List Value},Vals [x,y] us->∃ u v,us=[u,v]/\RelV x u/\RelV y v
 | _,_,_,.cons r (.cons q .nil)=>⟨_,_,rfl,r,q⟩
theorem Vals.rep{xs:List V}{us:List Value}(h:Vals xs us):∀ k:Nat,Vals (wD k xs).flatten (wD k us).flatten
 | 0=>.nil
 | k+1=>by
  rw [vC,vC,vZ,vZ];exact Vals.append h (Vals.rep h k)
theorem zbK(its:List Value):∀(k:Nat)(acc:List Value),
  waT (fun x1 x2=>x1++x2) acc.toArray (wD k its.toArray) =(acc ++(wD k its).flatten).toArray
 | 0,acc=>by simp
 | k+1,acc=>by
  have e:acc.toArray++its.toArray =(acc++its).toArray:=by simp
  have e2:(acc++its) ++(wD k its).flatten=acc ++(wD (k+1) its).flatten:=by
   rw [vC,vZ,gb]
  rw [← e2,← zbK its k (acc++its),← e,vC,GR]
section
variable{X:Cx}{pins:List (Addr×Obj)}{σ:St}{H:Hp}{s:Shared}{l b:Addr}{xs ys zs:List V}
theorem Inv.lset{its its':List Value}{n:Nat}{f:Array Value->Array Value}{t':Nat}(I:Inv X pins σ H s)(hH:H l=some (.lst xs))
  (e:s.heap.get? l=some { cls:=.type "list",data:=.seq its.toArray n }) (hf:f its.toArray=its'.toArray) (hv:Vals ys its') (hz:ys.length<=sizeLine) :
  Inv X pins σ (upd H l (.lst ys)) { s with heap:=s.heap.update l (Obj.mapSeq f),toks:=t' }:=by
 have q:=PySem.IsL.update e f;rw [hf] at q;refine I.write (x:=l) (e:=l) (by rw [hH]; exact trivial) (.inl rfl) (fun b' u hb hu=>(Heap.get?_update_other s.heap (Obj.mapSeq f) (Ne.symm hb)).trans hu) ⟨_,q⟩ ?_;exact⟨hz,its',_,hv,q⟩
theorem Inv.lnew{its:List Value}{t':Nat}(I:Inv X pins σ H s)(hv:Vals ys its)(hz:ys.length<=sizeLine) :
  Inv X pins σ (upd H s.heap.objs.size (.lst ys)) { s with heap:=s.heap.push { cls:=.type "list",data:=.seq its.toArray },toks:=t' } :=
 I.laid (fun _ _ q=>Heap.get?_push_of_some _ q) (wu _) ⟨hz,its,0,hv,Heap.get?_push_size _ rfl⟩
theorem Inv.fresh(I:Inv X pins σ H s):H s.heap.objs.size=none:=I.hok.fresh (wu _)
theorem Inv.lstM (I:Inv X pins σ H s) (hH:H l=some (.lst xs)):xs.length<=sizeLine/\∃(its:List Value)(n:Nat),Vals xs its/\xs.length=its.length/\s.heap.get? l=some { cls:=.type "list",data:=.seq its.toArray n }:=by
 obtain⟨z,its,n,r,e⟩:=I.hok l _ hH;exact⟨z,its,n,r,r.length,e⟩
theorem notLongL{n:Nat}(h:n<=sizeLine):Builtin.List.listTooLong n=false:=by
 unfold Builtin.List.listTooLong;exact decide_eq_false (by omega)
end
section
variable{X:Cx}
inductive zaJ(x:V)(vs:List V)(H:Hp)(Q:VK):Prop where
 | mk (l:Addr) (xs:List V) (y:V) (h0_:x=.ref l) (h1_:vs=[y]) (h2_:H l=some (.lst xs)) (h3_:xs.length<sizeLine) (h4_:Q .non (upd H l (.lst (xs++[y])))):zaJ  x vs H Q
noncomputable def rAppend:V->List V->Hp->VK->Prop:=fun x vs H Q=>zaJ  x vs H Q
theorem xS:MtM X "list.append" rAppend:=by
 intro pins s σ H x vs v us Q I rx rv h;obtain⟨l,xs,y,rfl,rfl,hH,hz,q⟩:=h;cases rx;obtain⟨u,rfl,ru⟩:=rv.one;obtain⟨z,its,n,r,hl,e⟩:=I.lstM hH;refine call_meets F.slot_list_append ⟨_,e,rfl⟩ F.entry_list_append (F.args_list_append_2 _ _) (PySem.list_append l its.toArray n u (by rw [wK]; omega)) ⟨e,?_⟩;refine⟨.non,_,I.lset (its':=its++[u]) hH e (by simp) (r.append (.cons ru .nil)) ?_,rfl,q⟩;rw [wx,GZ];omega
noncomputable def rExtend:V->List V->Hp->VK->Prop:=fun x vs H Q=>∃ l b xs zs,x=.ref l/\vs=[.ref b]/\H l=some (.lst xs)/\H b=some (.lst zs)/\xs.length+zs.length<=sizeLine/\Q .non (upd H l (.lst (xs++zs)))
theorem za2:MtM X "list.extend" rExtend:=by
 intro pins s σ H x vs v us Q I rx rv h;obtain⟨l,b,xs,zs,rfl,rfl,hH,hB,hz,q⟩:=h;cases rx;obtain⟨u,rfl,ru⟩:=rv.one;cases ru;obtain⟨z,its,n,r,hl,e⟩:=I.lstM hH;obtain⟨z2,its2,n2,r2,hl2,e2⟩:=I.lstM hB;have hsz:its.toArray.size+its2.toArray.size<=sizeLine:=by rw [wK,wK]; omega
 have hlong:¬(!its.toArray.isEmpty && Builtin.List.listTooLong (its.toArray.size+its2.toArray.size))=true:=by
  rw [notLongL hsz,Bool.and_false];exact wO
 refine call_meets F.slot_list_extend ⟨_,e,rfl⟩ F.entry_list_extend (F.args_list_extend_2 _ _)
  (AutoSeq1.list_extend_list_list_0 l its.toArray n b its2.toArray n2 hlong (by rw [wK]; omega) (by omega)) ⟨e,e2,?_⟩
 refine⟨.non,_,I.lset (its':=its++its2) hH e (by simp) (r.append r2) ?_,rfl,q⟩;rw [wx];omega
inductive zhP(x y:V)(H:Hp)(Q:VK):Prop where
 | mk (l b:Addr) (xs zs:List V) (h0_:x=.ref l) (h1_:y=.ref b) (h2_:H l=some (.lst xs)) (h3_:H b=some (.lst zs)) (h4_:xs.length+zs.length<=sizeLine) (h5_:∀ p,H p=none->Q (.ref p) (upd H p (.lst (xs++zs)))):zhP  x y H Q
noncomputable def rCat:R2:=fun x y H Q=>zhP  x y H Q
theorem Zr:OpR X (binaryOp .Add) rCat:=by
 intro pins s σ H x y v u Q I rx ry h;obtain⟨l,b,xs,zs,rfl,rfl,hH,hB,hz,q⟩:=h;cases rx;cases ry;obtain⟨z,its,n,r,hl,e⟩:=I.lstM hH;obtain⟨z2,its2,n2,r2,hl2,e2⟩:=I.lstM hB;refine PySem.P.add_list e e2 ?_ (by rw [wK,wK]; omega);have ea:its.toArray++its2.toArray =(its++its2).toArray:=by simp
 rw [ea];exact⟨.ref _,_,I.lnew (t':=s.toks) (r.append r2) (by rw [wx]; omega),rfl,q _ I.fresh⟩
noncomputable def rRep:R2:=fun x y H Q=>∃ l k xs,x=.ref l/\y=.int k/\H l=some (.lst xs)/\-(2^63)<=k/\k<2^63/\xs.length*k.toNat<=sizeLine /\
 ∀ p,H p=none->Q (.ref p) (upd H p (.lst (wD k.toNat xs).flatten))
theorem zhY{α:Type}(xs:List α)(k:Nat):(wD k xs).flatten.length=k*xs.length:=by
 induction k with
 | zero=>simp
 | succ k ih=>rw [vC,vZ,wx,ih,GO,waW]
theorem zjt:OpR X (binaryOp .Mult) rRep:=by
 intro pins s σ H x y v u Q I rx ry h;obtain⟨l,k,xs,rfl,rfl,hH,h1,h2,hz,q⟩:=h;cases rx;obtain⟨t,rfl⟩:=ry;obtain⟨z,its,n,r,hl,e⟩:=I.lstM hH;have hlen:its.toArray.size*k.toNat<=sizeLine:=by rw [wK,← hl]; exact hz
 have hcap:¬ its.toArray.size*k.toNat >(2^63 - 1) / 8:=by
  have:(sizeLine:Nat)<=(2^63 - 1) / 8:=by decide
  omega
 have hfit:¬(!Builtin.List.listFitsIndex k)=true:=by
  rw [fitsIndex_both h1 h2];exact wO
 have hlong:¬ Builtin.List.listTooLong (its.toArray.size*k.toNat)=true:=by
  rw [notLongL hlen];exact wO
 have hnew:waT (fun x1 x2=>x1++x2) #[] (wD (if its.toArray.isEmpty=true then 0 else k.toNat) its.toArray) =(wD k.toNat its).flatten.toArray:=by
  have f0:∀ m:Nat,waT (fun x1 x2=>x1++x2) #[] (wD m its.toArray) =(wD m its).flatten.toArray:=fun m=>by
   have:=zbK its m [];rw [GS] at this;exact this
  rw [f0];cases its with
  | nil=>simp
  | cons a r'=>rw [if_neg (by simp)]
 refine wpAny_binaryOp_repeat_ref (T := "list") (U := "int") (by decide) ⟨_,e,rfl⟩ (fun s'=>typeIs_int s' k t) noFill_list_mul F.fills_int_mul F.slot_int_rmul repeat_list F.slot_int_index.lookup
  (call_meets F.slot_int_rmul (typeIs_int s k t) F.entry_int_rmul (F.args_int_rmul_2 _ _) (int___rmul___int_list k t l its.toArray n)
   ⟨e,rfl,⟨_,e,rfl⟩,call_meets F.slot_list_mul ⟨_,e,rfl⟩ F.entry_list_mul (F.args_list_mul_2 _ _) (AutoListH.list___mul___list_int_3 l its.toArray n k t hfit hcap hlong) ⟨e,?_⟩⟩)
 rw [hnew];exact⟨.ref _,_,I.lnew (t':=s.toks) (r.rep k.toNat) (by rw [zhY,uN]; exact hz),rfl,q _ I.fresh⟩
end
section
variable{prog:Program}{w:World}{A:Around}{E:Value->Shared->Prop}{s:Shared}
end
section
variable{X:Cx}
end
end L2
namespace Att
open PySem PySem.W PySem.Calls PyProof.Rows
theorem Jy{P:Params}{h:Heap}:∀(ns:List Int)(vs:List Value),WellAll P h vs (ns.map WData.int)->IntsAre vs ns:=by
 intro ns
 induction ns with
 | nil =>
  intro vs w;rw [List.map_nil] at w;cases w;exact .nil
 | cons n ns ih =>
  intro vs w;rw [gw] at w;cases w with
  | cons a b =>
   cases a;exact .cons _ _ (ih _ b)
theorem zew{l:OpenLaw}{n:Nat}(hn:l.most=some n){P:Params}{h:Heap}{args:List WData}{vals:List Value}
  (hpre:l.row.toRowW.claim.pre args=true) (hwl:WellAll P h vals args) :
  ∃ a vs ns,vals=[Value.ref a]/\args=[WData.list (ns.map WData.int)]/\h.get? a=some { cls:=.type "list",data:=.seq vs.toArray }/\IntsAre vs ns/\ns.length<=n:=by
 have hsh:WShape.hasAll [] args [.list .int]=true:=(pre_splitW hpre).1;have hc:l.pre.holds [] { args:=args }=true:=(pre_splitW hpre).2;obtain⟨d,r,rfl,h1,h2⟩:=hasAllW_cons hsh;obtain rfl:=hasAllW_nil h2;obtain⟨xs,rfl,h3⟩:=hasW_list h1;obtain⟨ns,rfl⟩:=items_int h3;have hlen:ns.length<=n:=by
  unfold OpenLaw.pre at hc;have h4:(WTm.not (.lt (.lit (.int (n:Int))) (.len (.arg 0)))).holds [] { args:=[.list (ns.map .int)] }=true:=by
   have h4:=(holds_andW hc).1;rw [hn] at h4;exact h4
  have h5:=condW_of h4 (w_not (w_lt w_lit (w_len_list (w_arg rfl))));rw [wa] at h5;refine waG fun q=>?_
  have q':(n:Int) <((ns.length:Nat):Int):=by omega
  first
   | (rw [decide_eq_true q'] at h5; exact absurd h5 (by decide))
   | (simp at h5; omega)
 cases hwl with
 | cons w1 w2 =>
  cases w2;cases w1 with
  | list ho hall=>exact⟨_,_,ns,rfl,rfl,ho,Jy ns _ hall,hlen⟩
theorem zgd(l:OpenLaw)(args:List WData):l.row.toRowW.claim.post args (.bool true) args=true :=
 postW_of (r:=l.row.toRowW) (X:=(true == true))
  (show WShape.has [] (.bool true) .bool=true by first | rfl | decide | simp [WShape.has,WShape.arms,WShape.armsAll])
  (show(WTm.eq .res (.lit (.bool true))).value [] { args:=args,res:=some (.bool true),after:=args }=some (.bool (true == true))from w_eq_bool (w_res rfl) w_lit) rfl
theorem zb4{l:OpenLaw}{n:Nat}{q:Program}{loose:List Str}{XP:(Str->Option Value)->Heap->Prop}{YP:World->Heap->Prop}{d:DefRec}
  (hn:l.most=some n) (hdf:d.params.defaults=[])
  (call:∀(w:World)(s₀ s₁:Shared)(mg mb:Str->Option Value)(fa:Addr)(o:Obj)(pm cd doc:Value)(a:Addr)(vs:List Value)(ns:List Int),
   Ground q loose [] XP w s₀ mg mb s₁.heap->YP w s₁.heap ->
   s₁.heap.get? fa=some o->o.data=.func (docDef d.name d.params d.body d.scope pm cd doc)->s₁.heap.CodeRec cd d.name->mg d.name=some (.ref fa) ->
   s₁.heap.get? a=some { cls:=.type "list",data:=.seq vs.toArray }->IntsAre vs ns->ns.length<=n->s₁.gens=#[] ->
   codeAny (model l.prog w) callerA (.call (.ref fa) ⟨[.ref a],[]⟩) (fun r s'=>r=.ok (.ret (.bool true))/\OldK s₁.heap s'.heap/\s'.os=s₁.os/\AllBare s'.gens) s₁) :
  WalkO q loose XP YP l.row.toRowW d [] (fun f vs=>PySem.call f vs):=by
 intro w s₀ s₁ mg mb G Y fa o pm cd doc dV kV ho hd hcd hD hmg hg args vals as hpre hlay hrd hwl hlo;obtain rfl:dV=.none:=Dflts.none hD hdf;obtain rfl:kV=.none:=Dflts.noKw hD;obtain⟨a,vs,ns,rfl,rfl,hobj,hints,hlen⟩:=zew hn hpre hwl;refine enter_call (codeAny_mono (call w s₀ s₁ mg mb fa o pm cd doc a vs ns G Y ho (fd_plain hd) hcd hmg hobj hints hlen hg) fun r s' hq=>?_);obtain⟨rfl,h2,h3,h4⟩:=hq;exact⟨.inl ⟨.bool true,.bool true,[],rfl,fun _=>rfl,.bool true,zgd l _,fun _=>⟨List.Pairwise.nil,fun _ hm=>(nomatch hm)⟩⟩,h2,h3,h4⟩
section
variable{prog:Program}{w:World}{A:Around}{E:Value->Shared->Prop}{s:Shared}{K:Frag}
end
end Att
namespace L2
open PySem PySem.Spec PyProof.Rows
theorem zaP:∀ {vs:List Value} {ns:List Int},IntsAre vs ns->Vals (ns.map V.int) vs
 | _,_,.nil=>.nil
 | _,_,.cons n t h=>.cons ⟨t,rfl⟩ (zaP h)
noncomputable def Only(H:Hp):Prop:=∀ b,H b=none\/∃ o xs,H b=some (.frz o (.lst xs))
theorem zgS{P:Program}{w:World}{K:PySem.W.Frag}{mg mb:Str->Option Value}{CX:CXT}{k:Nat}{fa a:Addr}{fd:FuncData}{x:Str}{sp:Sp}{s₁:Shared}{vs:List Value}{ns:List Int}
  (KX:K.In s₁.heap) (hns:s₁.heap.Ns mainGlobals mg) (hb:s₁.heap.Ns builtinsNs mb) (hbb:∀ x:Str,x ≠ "__name__" -> mb x=bootBuiltins x) (hlim:s₁.heap.NoLimit) (hSe:s₁.heap.NoSeer) (hg:s₁.gens=#[])
  (ha:s₁.heap.get? a=some { cls:=.type "list",data:=.seq vs.toArray }) (hi:IntsAre vs ns) (hl:ns.length<=sizeLine) (hr:Room k callerA)
  (F:∀ base:Heap,K.In base->base.Ns mainGlobals mg->base.NoSeer->FnOk P w K mg base CX k fa fd [x] sp) (hbind:∀(s:Shared)(u:Value),BindsTo s fd ⟨[u],[]⟩ [(x,u)])
  (hsp:∀ H:Hp,Only H->SqL K H a (ns.map V.int)->sp [.ref a] H (fun v _=>v=.bl true) fun _ _ _=>False)
  (hCX:∀ H e s',CX [] H s₁ (fun _ _ _=>False) e s'->False) :
  codeAny (model P w) callerA (.call (.ref fa) ⟨[.ref a],[]⟩) (fun r s'=>r=.ok (.ret (.bool true))/\OldK s₁.heap s'.heap/\s'.os=s₁.os/\AllBare s'.gens) s₁:=by
 have rv:=zaP hi;have lenV:=hi.length;have core:∀ H:Hp,Only H->SqL K H a (ns.map V.int)->HOk P w H s₁.heap->(∀ b,H b≠none->b=a)->(H a≠none->K.lookup a=none) ->
   codeAny (model P w) callerA (.call (.ref fa) ⟨[.ref a],[]⟩) (fun r s'=>r=.ok (.ret (.bool true))/\OldK s₁.heap s'.heap/\s'.os=s₁.os/\AllBare s'.gens) s₁:=by
  intro H hO hS hok hA hK;have base_of:∀ {b:Addr} {o:Obj},s₁.heap.get? b=some o->H b=none->(hidT s₁.heap H).get? b=some o:=fun e n=>zhe e n
  have noA:∀ {b:Addr} {o:Obj} {es:Array DictEntry} {ep:Nat},s₁.heap.get? b=some o->o.data=.dict es ep->H b=none:=fun {b o es ep} e d=>by
   cases q:H b with
   | none=>rfl
   | some u =>
    have e':b=a:=hA b (by rw [q]; simp);subst e';rw [ha] at e; cases e;have d':Data.seq vs.toArray _=Data.dict es ep:=d;cases d'
  have nsK:∀ {b:Addr} {m:Str->Option Value},s₁.heap.Ns b m->(hidT s₁.heap H).Ns b m:=fun {b m} ⟨o,es,ep,e,d,r⟩=>⟨o,es,ep,base_of e (noA e d),d,r⟩
  have hKb:K.In (hidT s₁.heap H):=fun b o e=>base_of (KX b o e) (by
   cases q:H b with
   | none=>rfl
   | some u =>
    have e':b=a:=hA b (by rw [q]; simp);subst e';rw [hK (by rw [q]; simp)] at e; cases e)
  have hM:Mod K mg (hidT s₁.heap H):=⟨hKb,nsK hns,⟨mb,nsK hb,hbb⟩,let ⟨mc,h1,h2⟩:=hlim;⟨mc,nsK h1,h2⟩⟩;have e0:Env0 P w K mg (hidT s₁.heap H) callerA [] s₁ H:=⟨rfl,hM,fun b o e=>zik e,gj (zfb _ _),trivial,fun b hb=>absurd (show b∈([]:List Addr)from hb) (by simp),hok,.of_eq hg⟩;have hSb:(hidT s₁.heap H).NoSeer:=⟨(let ⟨mc,h1,h2⟩:=hSe.statics;⟨mc,nsK h1,h2⟩),(let ⟨mc,h1,h2⟩:=hSe.mods;⟨mc,nsK h1,h2⟩),(let ⟨mc,h1,h2⟩:=hSe.imp;⟨mc,nsK h1,h2⟩),by
   obtain⟨m',bm,ob,h1,h2,h3,h4,h5⟩:=hSe.main;refine⟨m',bm,ob,nsK h1,h2,base_of h3 ?_,h4,h5⟩;cases q:H bm with
   | none=>rfl
   | some u =>
    have e':bm=a:=hA bm (by rw [q]; simp);subst e';rw [ha] at h3; cases h3;exact absurd h4 (by simp)⟩
  refine codeAny_mono ((F _ hKb (nsK hns) hSb).run callerA [] s₁ H ⟨[.ref a],[]⟩ [.ref a] [.ref a] _ _ hr e0 (hbind s₁ (.ref a)) (.cons rfl .nil) (hsp H hO hS)) fun r s' h=>?_
  cases r with
  | error e=>exact(hCX H e s' h).elim
  | ok fl =>
   cases fl with
   | next=>exact False.elim h
   | brk=>exact False.elim h
   | cont=>exact False.elim h
   | ret u =>
    obtain⟨v,H',os,bare,un,hok',r',q⟩:=h;have q':v=.bl true:=q;subst q';obtain rfl:u=Value.bool true:=r';refine⟨rfl,OldK.of_keep fun b o e=>?_,os,bare⟩;cases q:H b with
    | none=>exact un.keep b o e q (by intro z; exact absurd (show b∈([]:List Addr)from z) (by simp)) (by simp)
    | some u =>
     rcases hO b with z | ⟨ob,xs,z⟩
     ·rw [q] at z; cases z
     ·have z2:=un.frzs b ob _ z;obtain⟨e1,_⟩:=hok b _ z;obtain⟨e2,_⟩:=hok' b _ z2;rw [e] at e1; cases e1;exact e2
 cases hk:K.lookup a with
 | some o =>
  have e:=KX a o hk;rw [ha] at e;cases e;refine core (fun _=>none) (fun _=>.inl rfl) (.inr ⟨_,vs.toArray,_,hk,rfl,rfl,rfl,by rw [wK,lenV]; exact hl,by simpa using rv⟩) (fun b u z=>by have z':(none:Option HO)=some u:=z; cases z') (fun b z=>absurd rfl z) fun z=>absurd rfl z
 | none =>
  refine core (fun b=>if b=a then some (.frz { cls:=.type "list",data:=.seq vs.toArray } (.lst (ns.map V.int)))else none) (fun b=>?_) (.inl (.inr ⟨{ cls:=.type "list",data:=.seq vs.toArray },if_pos rfl⟩)) (fun b u z=>?_) (fun b z=>?_) fun _=>hk
  ·by_cases hb:b=a
   ·exact .inr ⟨_,_,if_pos hb⟩
   ·exact .inl (if_neg hb)
  ·by_cases hb:b=a
   ·have z':=(if_pos hb).symm.trans z;cases z';subst hb;exact⟨ha,by rw [wa]; exact hl,vs,_,rv,ha⟩
   ·have z':=(if_neg hb).symm.trans z;cases z'
  ·by_cases hb:b=a
   ·exact hb
   ·exact absurd (if_neg hb) z
end L2
namespace L2
open PySem PySem.Spec PyProof.Rows
end L2
namespace L2
open PySem PySem.Spec PyProof.Rows
noncomputable def defArgs(s:Stmt):Arguments:=match s with
 | .FunctionDef _ a _ _ _ _ _ _ _ _=>a
 | _=>{ posonlyargs:=[],args:=[],vararg:=none,kwonlyargs:=[],kw_defaults:=[],kwarg:=none,defaults:=[] }
noncomputable def defBody(s:Stmt):List Stmt:=match s with
 | .FunctionDef _ _ b _ _ _ _ _ _ _=>b
 | _=>[]
noncomputable def defScope(s:Stmt):Scope:=match s with
 | .FunctionDef _ _ _ _ _ _ sc _ _ _=>sc
 | _=>{ kind:=.function,names:=[],isGenerator:=false,isCoroutine:=false }
noncomputable abbrev CX0:CXT:=fun _ _ _ _ _ _=>False
noncomputable abbrev E0:XK:=fun _ _ _=>False
theorem pass0{X:Cx}:Passes CX0 X E0:=fun _ _ _ _ _ _ _ h=>h.elim
structure Fun(K:PySem.W.Frag)(x qual:Str)(st:Stmt)(f:Addr)(fd:FuncData):Prop where
 ex:∃(oc:Value)(od:Option Addr)(kV doc pm:Value)(an:Option Addr)(cdv ct:Value)(osl:Array (Option Value)),
  fd=PySem.W.fnOf x qual (defArgs st) (defBody st) (defScope st) .none kV doc pm an cdv ct/\K.lookup f=some ⟨oc,od,.func fd,osl⟩/\PySem.W.codeIn K cdv qual=true
 kp:PySem.W.keepIn K (.ref f)=true
section
variable{P:Program}{w:World}{K:PySem.W.Frag}{mg:Str->Option Value}{base:Heap}
theorem Fun.ok{x qual:Str}{st:Stmt}{f:Addr}{fd:FuncData}{N ps:List Str}{k:Nat}{sp:Sp}(F:Fun K x qual st f fd)(S:FnScope N ps (defScope st))(len:∀ vs H Q E,sp vs H Q E->vs.length=ps.length)
  (hbody:∀(cdv:Value)(A:Around)(outer:List Env)(s:Shared)(H:Hp)(vs:List V)(Q:VK)(E:XK),Room k (A.deeper (envOfC qual (defScope st) s.heap.objs.size f cdv))->sp vs H Q E ->
   ∃ t,PSs (cxOf CX0 P w K mg base N qual (defScope st) f cdv A outer s H E).nox (defBody st) t/\t { nx:=fun _ H'=>Q .non H',rt:=Q } (start N vs) H):FnOk P w K mg base CX0 (k+1) f fd ps sp:=by
 obtain⟨oc,od,kV,doc,pm,an,cdv,ct,osl,rfl,lk,hcd⟩:=F.ex;refine zjP lk hcd S len fun A outer s H vs Q E hr hsp=>?_
 obtain⟨t,h,q⟩:=hbody cdv A outer s H vs Q E hr hsp;exact⟨t,h.nox,q⟩
theorem Fun.binds{x qual:Str}{st:Stmt}{f:Addr}{fd:FuncData}{ps:List Str}(F:Fun K x qual st f fd)
  (h:∀(kV doc pm:Value)(an:Option Addr)(cdv ct:Value)(us:List Value),us.length=ps.length->bindArgs (PySem.W.fnOf x qual (defArgs st) (defBody st) (defScope st) .none kV doc pm an cdv ct) ⟨us,[]⟩=pure (ps.zip us)):Binds K fd ps []:=by
 obtain⟨oc,od,kV,doc,pm,an,cdv,ct,osl,rfl,lk,hcd⟩:=F.ex;exact .all (h kV doc pm an cdv ct)
theorem zhw{x qual:Str}{st:Stmt}{f:Addr}{oc:Value}{od an:Option Addr}{osl:Array (Option Value)}{kV doc pm cdv ct:Value}(l:K.lookup f=some ⟨oc,od,.func (PySem.W.fnOf x qual (defArgs st) (defBody st) (defScope st) .none kV doc pm an cdv ct),osl⟩)
  (c:PySem.W.codeIn K cdv qual=true) (k:PySem.W.keepIn K (.ref f)=true):Fun K x qual st f (PySem.W.fnOf x qual (defArgs st) (defBody st) (defScope st) .none kV doc pm an cdv ct):=⟨⟨oc,od,kV,doc,pm,an,cdv,ct,osl,rfl,l,c⟩,k⟩
end
section
variable{X:Cx}
theorem pv (i:Nat) {x:Str} {pos:Pos} (hN:X.N[i]?=some x:=by rfl) (hv:Vis X.env.scope x:=by first | exact Or.inl rfl | exact Or.inr (Or.inl rfl) | exact Or.inr (Or.inr rfl)) (hd:(x ==("__debug__" : Str))=false:=by decide)
  (hcd:(x ==("__classdict__" : Str))=false:=by decide):PE X (.Name x pos) (tVar i):=zjs hN hv hd hcd
end
theorem iteF{A B:Prop}(h:B):if false=true then A else B:=by
 rw [if_neg wO];exact h
theorem iteT{A B:Prop}(h:A):if true=true then A else B:=by
 rw [if_pos rfl];exact h
theorem ite2{c A B:Prop}[Decidable c](h1:c->A)(h2:¬ c->B):if c then A else B:=by
 by_cases h:c
 ·rw [if_pos h];exact h1 h
 ·rw [if_neg h];exact h2 h
noncomputable def Same(H H':Hp):Prop:=∀ b o,H b=some o->H' b=some o
theorem Same.refl(H:Hp):Same H H:=fun _ _ h=>h
theorem Same.trans{H H1 H2:Hp}(a:Same H H1)(b:Same H1 H2):Same H H2:=fun c o h=>b c o (a c o h)
end L2
namespace Nm
noncomputable def primeB(n:Nat):Bool:=decide (1<n) && (wY n).all fun d=>decide (d<2) || decide (n % d≠0)
structure PrS(k:Int):Prop where
 lo:1<k
 hi:k<99
 pr:primeB k.toNat=true
structure Pr(k:Int):Prop where
 lo:1<k
 hi:k<2305843009213693952
 cp:∀ r:Int,0<r->r<k->ve k r=1
noncomputable def KindOk(k:Int):Prop:=k=0\/Pr k
noncomputable def KindS(k:Int):Prop:=k=0\/PrS k
theorem KindOk.lt{k:Int}(h:KindOk k):0<=k/\k<2305843009213693952:=by
 rcases h with h | h
 ·omega
 ·have:=h.lo; have:=h.hi; omega
theorem QY:∀ k<99,primeB k=true->∀ r<k,0<r->uD k r=1:=by decide +kernel
theorem PrS.big{k:Int}(h:PrS k):Pr k:=by
 refine⟨h.lo,by have:=h.hi; omega,fun r h0 h1=>?_⟩;have:=QY k.toNat (by have:=h.hi; omega) h.pr r.toNat (by omega) (by omega);have e1:k.natAbs=k.toNat:=by omega
 have e2:r.natAbs=r.toNat:=by omega
 rw [uE,e1,e2]; exact this
theorem KindS.ok{k:Int}(h:KindS k):KindOk k:=h.imp id PrS.big
theorem Pr.cop{k r:Int}(h:Pr k)(h0:0<r)(h1:r<k):ve k r=1:=h.cp r h0 h1
theorem zdn(a b:Int):ve b (a.fmod b)=ve a b:=by
 rw [waX,Int.gcd_sub_mul_left_right,waY]
theorem zdA(a:Int){b:Int}(hb:b≠0):(a.fmod b).natAbs<b.natAbs:=by
 rcases gk 0 b with h | h
 ·have h1:=wG a h;have h2:=wL a h;omega
 ·have hb':0 < -b:=by omega
  have h1:=wG (-a) hb';have h2:=wL (-a) hb';have e:(-a).fmod (-b) = -(a.fmod b):=by
   rw [Int.neg_fmod_neg]
  omega
end Nm
namespace Nm
structure OvInv(p r l g ml mg:Int):Prop where
 l0:0<=l
 l1:l<2305843009213693952
 g0:0<=g
 g1:g<2305843009213693952
 cop:ve l g=1
 left:p ∣ l - ml*r
 right:p ∣ g - mg*r
theorem zcI{p r:Int}(h:Pr p)(h0:0<r)(h1:r<p):OvInv p r p r 0 1:=by
 have:=h.lo; have:=h.hi;refine⟨by omega,by omega,by omega,by omega,h.cop h0 h1,?_,?_⟩
 ·rw [waZ,Int.sub_zero]; exact wa0 p
 ·rw [wba,Int.sub_self]; exact wav p
theorem zge{p r l g ml mg:Int}(h:OvInv p r l g ml mg)(hg:g≠0):OvInv p r g (l - l / g*g) mg (ml - l / g*mg):=by
 have g0:=h.g0;have g1:=h.g1;have e:l - l / g*g=l % g:=by
  have:=gd l g;rw [wa1 (l / g) g]; omega
 have m0:=gB l hg;have m1:=uX l (show 0<g by omega);refine⟨g0,g1,by omega,by omega,?_,h.right,?_⟩
 ·rw [Int.gcd_sub_mul_right_right,waY]; exact h.cop
 ·have e2:l - l / g*g - (ml - l / g*mg)*r =(l - ml*r) - l / g *(g - mg*r):=by grind
  rw [e2];exact waH h.left (gP h.right)
theorem zfq{l g:Int}(g0:0<=g)(hg:g≠0):(l - l / g*g).toNat<g.toNat:=by
 have e:l - l / g*g=l % g:=by
  have:=gd l g;rw [wa1 (l / g) g]; omega
 have m0:=gB l hg;have m1:=uX l (show 0<g by omega);omega
theorem zhS{p r l ml mg:Int}(h:OvInv p r l 0 ml mg)(hp:0<p):p ∣ ml % p*r - 1:=by
 have c:=h.cop;rw [waw] at c;have e:l=1:=by have:=h.l0; omega
 have d:=h.left;rw [e] at d;have e1:ml % p*r - 1 = -(1 - ml*r) - p *(ml / p)*r:=by
  have:=gd ml p
  grind
 rw [e1];exact waH (Int.dvd_neg.mpr d) (Int.dvd_mul_of_dvd_left (waz p _))
noncomputable def sg(t b:Int):Int:=if b<0 then -((ve t b:Nat):Int)else((ve t b:Nat):Int)
theorem zgb{t b:Int}(hb:b≠0):sg t b≠0:=by
 have:=uZ t hb;unfold sg; split <;> omega
theorem zjp(t b:Int):(sg t b).natAbs=ve t b:=by
 unfold sg; split <;> omega
theorem Ye(t b:Int):sg t b ∣ t:=by
 unfold sg; split
 ·exact wbb.mpr (gu t b)
 ·exact gu t b
theorem ZM(t b:Int):sg t b ∣ b:=by
 unfold sg; split
 ·exact wbb.mpr (gY t b)
 ·exact gY t b
theorem zeQ{q:Rat}{t b:Int}(hb:b≠0)(h:q.num*b=t*q.den):vF t b=q:=by
 rw [← gU q];have hd:(q.den:Int)≠0:=by have:=q.den_nz; omega
 rw [GB hb hd];omega
theorem Xo{t b:Int}(hb:b≠0):t.fdiv (sg t b) =(vF t b).num/\b.fdiv (sg t b) =((vF t b).den:Nat):=by
 have hs:=zgb (t:=t) hb;rw [vM (Ye t b),vM (ZM t b)];have et:=uF (Ye t b);have eb:=uF (ZM t b);have hpos:0<b / sg t b:=by
  have hne:b / sg t b≠0:=fun z=>by rw [z,waZ] at eb; exact hb eb.symm
  have hg:=uZ t hb
  rcases gk b 0 with h | h
  ·have e:sg t b = -((ve t b:Nat):Int):=by unfold sg; rw [if_pos h]
   have:0<=b / sg t b:=Int.ediv_nonneg_of_nonpos_of_nonpos (by omega) (by omega);omega
  ·have e:sg t b =((ve t b:Nat):Int):=by unfold sg; rw [if_neg (by omega)]
   have:0<=b / sg t b:=waO (by omega) (by omega);omega
 have hcop:ve (t / sg t b) (b / sg t b)=1:=by
  rw [wa2 (Ye t b) (ZM t b),zjp];exact wa3 (uZ t hb)
 let q:Rat:=⟨t / sg t b,(b / sg t b).toNat,by omega,by
  show uD (t / sg t b).natAbs (b / sg t b).toNat=1;have:(b / sg t b).toNat =(b / sg t b).natAbs:=by omega
  rw [this]; exact hcop⟩
 have hq:vF t b=q:=zeQ hb (by
  show t / sg t b*b=t *(((b / sg t b).toNat:Nat):Int);have e:(((b / sg t b).toNat:Nat):Int)=b / sg t b:=by omega
  rw [e];have:t / sg t b*b=t / sg t b *(b / sg t b*sg t b):=by rw [eb]
  have:t *(b / sg t b)=t / sg t b*sg t b *(b / sg t b):=by rw [et]
  grind)
 rw [hq];refine⟨rfl,?_⟩;show b / sg t b =(((b / sg t b).toNat:Nat):Int);omega
theorem zez(x y:Rat):vF (x.num*y.den+y.num*x.den) (x.den*y.den)=x+y:=by
 rw [Rat.add_def',← GC]; simp
theorem zeo(x y:Rat):vF (x.num*y.den - y.num*x.den) (x.den*y.den)=x - y:=by
 rw [Rat.sub_def',← GC]; simp
theorem zcb(x y:Rat):vF (x.num*y.num) (x.den*y.den)=x*y:=by
 rw [Rat.mul_def',← GC]; simp
theorem zh6(x y:Rat):vF (x.num*y.den) (x.den*y.num)=x / y:=by
 rw [Rat.div_def,wbc,← gU x,waa];simp [gU]
end Nm
namespace L2
open PySem PySem.Spec PyProof.Rows
theorem yk:bootBuiltins "len" = some (.builtin "len"):=by decide +kernel
theorem zfH:bootBuiltins "abs" = some (.builtin "abs"):=by decide +kernel
theorem yE:bootBuiltins "isinstance" = some (.builtin "isinstance"):=by decide +kernel
theorem zhM:bootBuiltins "sum" = some (.builtin "sum"):=by decide +kernel
theorem zfo:bootBuiltins "sorted" = some (.builtin "sorted"):=by decide +kernel
theorem zaR:bootBuiltins "int" = some (.type "int"):=by decide +kernel
theorem ziN:bootBuiltins "bool" = some (.type "bool"):=by decide +kernel
theorem YH:bootBuiltins "list" = some (.type "list"):=by decide +kernel
theorem Yb:bootBuiltins "tuple" = some (.type "tuple"):=by decide +kernel
theorem zjK:bootBuiltins "zip" = some (.type "zip"):=by decide +kernel
noncomputable def Sm(n:Nat)(x:Int):Prop:=x.natAbs<2^n
theorem Sm.bits{n:Nat}{x:Int}(h:Sm n x):Builtin.Int.intBits x<=n:=by
 unfold Builtin.Int.intBits
 split
 ·exact vz _
 ·rename_i h0;have h0':x.natAbs≠0:=by
   intro z;have e:x=0:=by omega
   rw [e] at h0;exact h0 rfl
  have:=(Nat.log2_lt h0').mpr h;omega
theorem Sm.mulOk{m n:Nat}{a b:Int}(ha:Sm m a)(hb:Sm n b)(h:m+n<=134217728):IntMulOk a b:=IntMulOk.of_le ha.bits hb.bits h
theorem Sm.mono{m n:Nat}{x:Int}(h:Sm m x)(hmn:m<=n):Sm n x:=wV h (wZ (by decide) hmn)
theorem Sm.mul{m n:Nat}{a b:Int}(ha:Sm m a)(hb:Sm n b):Sm (m+n) (a*b):=by
 unfold Sm;rw [vx,uu];exact waI ha hb
theorem Sm.add{n:Nat}{a b:Int}(ha:Sm n a)(hb:Sm n b):Sm (n+1) (a+b):=by
 unfold Sm at *;rw [gm];have:=Gv a b;omega
theorem Sm.sub{n:Nat}{a b:Int}(ha:Sm n a)(hb:Sm n b):Sm (n+1) (a - b):=by
 unfold Sm at *;rw [gm];have:=waA a b;omega
theorem Sm.neg{n:Nat}{a:Int}(ha:Sm n a):Sm n (-a):=by
 unfold Sm at *; rw [Int.natAbs_neg]; exact ha
theorem Sm.le{n:Nat}{a b:Int}(ha:Sm n a)(h:b.natAbs<=a.natAbs):Sm n b:=ug h ha
section
variable{X:Cx}{a b c:Expr}{ta tb tc:TE}{pos:Pos}
theorem zX:OpR X (binaryOp .Mult) (rI IntMulOk fun i j=>.int (i*j)):=opI fun _ _ _ _ _ _ _ hc q=>mul_int q hc
noncomputable def rIsi(K:PySem.W.Frag):List V->Hp->VK->Prop:=fun xs H Q=>∃ x n t b,xs=[x,.ty n]/\TyOf K H x t/\PySem.W.kitOne K t (.type n)=some b/\Q (.bl b) H
theorem zg4:CallR X (.builtin "isinstance") (rIsi X.K):=by
 intro pins s σ H xs us Q I r h;obtain⟨x,n,t,b,rfl,ty,e,q⟩:=h;obtain⟨u,w',rfl,r1,r2⟩:=Vals.two r;cases r2;exact zeO I r1 ty e fun tk=>⟨.bl b,H,I.tok tk,rfl,q⟩
theorem zcj {x:Str} {n:String} (hg:Gl X x) (hm:X.mg x=none) (hv:bootBuiltins x=some (.type n)) (hn:x ≠ "__name__" := by decide) (hd:(x ==("__debug__" : Str))=false:=by decide):PE X (.Name x pos) (tC (.ty n)) :=
 zie hg hm hv rfl hn hd
end
structure Kn(P:Program)(w:World)(K:PySem.W.Frag)(mg:Str->Option Value)(base:Heap)(x:Str)(k:Nat)(ps:List Str)(sp:Sp):Prop where
 ex:∃(f:Addr)(fd:FuncData),FnOk P w K mg base CX0 k f fd ps sp/\mg x=some (.ref f)/\PySem.W.keepIn K (.ref f)=true/\Binds K fd ps []
theorem zt{X:Cx}{x:Str}{k:Nat}{ps:List Str}{sp:Sp}{p pos:Pos}{e:Expr}{es:List Expr}{t:TA}(D:Kn X.prog X.w X.K X.mg X.base x k ps sp)(hr:Room k X.A)(hg:Gl X x)(ha:PA X (e::es) t)
  (hdb:(x ==("__debug__" : Str))=false:=by decide) (he:starEach (e::es) X.env =(false,eval e X.env)::starEach es X.env:=by rfl) (hpl:(backTo pos (starEach es X.env)).any (·.1)=false:=by rfl) :
  PE X (.Call (.Name x p) (e::es) [] pos) (tCall sp [] E0 t):=by
 obtain⟨f,fd,F,hm,hk,hb⟩:=D.ex;exact zh0 F hr hg hm hk hb .nil pass0 ha hdb he hpl
structure Df(K:PySem.W.Frag)(mg:Str->Option Value)(x:Str)(ps:List Str)(st:Stmt):Prop where
 ex:∃(f:Addr)(fd:FuncData),Fun K x x st f fd/\mg x=some (.ref f)/\Binds K fd ps []
section
variable{P:Program}{w:World}{K:PySem.W.Frag}{mg:Str->Option Value}{base:Heap}
theorem Df.kn{x:Str}{st:Stmt}{N ps:List Str}{k:Nat}{sp:Sp}(D:Df K mg x ps st)(S:FnScope N ps (defScope st))(len:∀ vs H Q E,sp vs H Q E->vs.length=ps.length)
  (hbody:∀(f:Addr)(cdv:Value)(A:Around)(outer:List Env)(s:Shared)(H:Hp)(vs:List V)(Q:VK)(E:XK),Room k (A.deeper (envOfC x (defScope st) s.heap.objs.size f cdv))->sp vs H Q E ->
   ∃ t,PSs (cxOf CX0 P w K mg base N x (defScope st) f cdv A outer s H E).nox (defBody st) t/\t { nx:=fun _ H'=>Q .non H',rt:=Q } (start N vs) H):Kn P w K mg base x (k+1) ps sp:=by
 obtain⟨f,fd,F,hm,hb⟩:=D.ex;exact⟨f,fd,F.ok S len (fun cdv A outer s H vs Q E hr h=>hbody f cdv A outer s H vs Q E hr h),hm,F.kp,hb⟩
theorem zjT{x:Str}{ps:List Str}{st:Stmt}{h:Heap}{f:Addr}{oc:Value}{od an:Option Addr}{osl:Array (Option Value)}{kV doc pm cdv ct:Value}(X:K.In h)(G:h.Ns mainGlobals mg)
  (a:PySem.W.nsIn K mainGlobals x=some (some (.ref f)))
  (l:K.lookup f=some ⟨oc,od,.func (PySem.W.fnOf x x (defArgs st) (defBody st) (defScope st) .none kV doc pm an cdv ct),osl⟩)
  (c:PySem.W.codeIn K cdv x=true) (k:PySem.W.keepIn K (.ref f)=true)
  (hb:∀(kV doc pm:Value)(an:Option Addr)(cdv ct:Value)(us:List Value),us.length=ps.length->bindArgs (PySem.W.fnOf x x (defArgs st) (defBody st) (defScope st) .none kV doc pm an cdv ct) ⟨us,[]⟩=pure (ps.zip us)):Df K mg x ps st:=by
 have F:=zhw (st:=st) l c k;exact⟨f,_,F,PySem.W.mg_of X G a,F.binds hb⟩
end
theorem bind1{fd:FuncData}{ps:List Str}(h:∀ a0,bindArgs fd ⟨[a0],[]⟩=pure (ps.zip [a0]))(us:List Value)(e:us.length=1):bindArgs fd ⟨us,[]⟩=pure (ps.zip us):=by
 match us,e with | [a0],_=>exact h a0
theorem bind2{fd:FuncData}{ps:List Str}(h:∀ a0 a1,bindArgs fd ⟨[a0,a1],[]⟩=pure (ps.zip [a0,a1]))(us:List Value)(e:us.length=2):bindArgs fd ⟨us,[]⟩=pure (ps.zip us):=by
 match us,e with | [a0,a1],_=>exact h a0 a1
theorem bind3{fd:FuncData}{ps:List Str}(h:∀ a0 a1 a2,bindArgs fd ⟨[a0,a1,a2],[]⟩=pure (ps.zip [a0,a1,a2]))(us:List Value)(e:us.length=3):bindArgs fd ⟨us,[]⟩=pure (ps.zip us):=by
 match us,e with | [a0,a1,a2],_=>exact h a0 a1 a2
theorem bind4{fd:FuncData}{ps:List Str}(h:∀ a0 a1 a2 a3,bindArgs fd ⟨[a0,a1,a2,a3],[]⟩=pure (ps.zip [a0,a1,a2,a3]))(us:List Value)(e:us.length=4):bindArgs fd ⟨us,[]⟩=pure (ps.zip us):=by
 match us,e with | [a0,a1,a2,a3],_=>exact h a0 a1 a2 a3
theorem bind5{fd:FuncData}{ps:List Str}(h:∀ a0 a1 a2 a3 a4,bindArgs fd ⟨[a0,a1,a2,a3,a4],[]⟩=pure (ps.zip [a0,a1,a2,a3,a4]))(us:List Value)(e:us.length=5):bindArgs fd ⟨us,[]⟩=pure (ps.zip us):=by
 match us,e with | [a0,a1,a2,a3,a4],_=>exact h a0 a1 a2 a3 a4
noncomputable def spLaw(K:PySem.W.Frag):Sp:=fun vs H Q _=>∃(a:Addr)(ns:List Int),vs=[.ref a]/\SqL K H a (ns.map V.int)/\ns.length<=63/\∀ H',Q (.bl true) H'
theorem zf{H:Hp}{p:Addr}(h:H p=none)(o:HO):Same H (upd H p o):=fun b u q=>by rw [zR (yd q h)]; exact q
theorem zjb {K:PySem.W.Frag} {mg:Str->Option Value} {st:Stmt} {h:Heap} {f fa:Addr} {oc:Value} {od an:Option Addr} {osl:Array (Option Value)} {kV doc pm cdv ct:Value} (X:K.In h) (G:h.Ns mainGlobals mg) (hmg:mg "law" = some (.ref fa))
  (a:PySem.W.nsIn K mainGlobals "law" = some (some (.ref f)))
  (l:K.lookup f=some ⟨oc,od,.func (PySem.W.fnOf "law" "law" (defArgs st) (defBody st) (defScope st) .none kV doc pm an cdv ct),osl⟩)
  (c:PySem.W.codeIn K cdv "law" = true) (k:PySem.W.keepIn K (.ref f)=true)
  (hb:∀(kV doc pm:Value)(an:Option Addr)(cdv ct:Value)(v:Value),bindArgs (PySem.W.fnOf "law" "law" (defArgs st) (defBody st) (defScope st) .none kV doc pm an cdv ct) ⟨[v],[]⟩=pure [(("_law_script" : Str),v)]) :
  ∃ fd:FuncData,Fun K "law" "law" st fa fd/\∀(s:Shared)(v:Value),BindsTo s fd ⟨[v],[]⟩ [("_law_script",v)]:=by
 have e:=hmg.symm.trans (PySem.W.mg_of X G a);cases e;exact⟨_,zhw (st:=st) l c k,fun s v=>.of_eq (hb _ _ _ _ _ _ v)⟩
end L2
namespace L2
open PySem PySem.Spec PyProof.Rows
noncomputable def fragFrom:Nat->List Obj->PySem.W.Frag
 | _,[]=>[]
 | i,o::r=>match o.data with
  | .freed=>fragFrom (i+1) r
  | _=>(i,o)::fragFrom (i+1) r
noncomputable def fragH(h:Heap):PySem.W.Frag:=fragFrom 0 h.objs.toList
theorem Jq:∀(l:List Obj)(i a:Nat)(o:Obj),(fragFrom i l).lookup a=some o->∃ j,a=i+j/\l[j]?=some o/\(∀ c d sl,o≠⟨c,d,.freed,sl⟩)
 | [],i,a,o,h=>by cases h
 | p::r,i,a,o,h=>by
  unfold fragFrom at h;have go:(fragFrom (i+1) r).lookup a=some o->∃ j,a=i+j/\(p::r)[j]?=some o/\(∀ c d sl,o≠⟨c,d,.freed,sl⟩):=fun h=>by
   obtain⟨j,e,e',n⟩:=Jq r (i+1) a o h;exact⟨j+1,by omega,by simpa using e',n⟩
  split at h
  ·exact go h
  ·rename_i hf;rw [GD] at h
   split at h
   ·rename_i e;cases h;have e:a=i:=by simpa using e
    exact⟨0,by omega,by simp,fun c d sl e=>hf (by rw [e])⟩
   ·exact go h
theorem zgW(h:Heap):(fragH h).In h:=fun a o e=>by
 obtain⟨j,rfl,e',n⟩:=Jq _ _ _ _ e;unfold Heap.get?;have e'':h.objs[0+j]?=some o:=by
  rw [Gk]
  simpa using e'
 rw [e''];obtain⟨c,d,dt,sl⟩:=o;cases dt <;> first | rfl | exact absurd rfl (n _ _ _)
noncomputable def fnSh(K:PySem.W.Frag)(x:Str):Option (FuncData×Bool×Bool):=match PySem.W.nsIn K mainGlobals x with
 | some (some (.ref f))=>(match K.lookup f with
  | some ⟨_,_,.func fd,_⟩=>some ({ fd with kwdefaults:=.none,doc:=.none,pyModule:=.none,annotations:=none,code:=.none,closureTuple:=.none },PySem.W.codeIn K fd.code x,PySem.W.keepIn K (.ref f))
  | _=>none)
 | _=>none
noncomputable def fnEx(x:Str)(st:Stmt):Option (FuncData×Bool×Bool):=some (PySem.W.fnOf x x (defArgs st) (defBody st) (defScope st) .none .none .none .none none .none .none,true,true)
theorem zeK{K:PySem.W.Frag}{x:Str}{st:Stmt}(e:fnSh K x=fnEx x st):∃(f:Addr)(oc:Value)(od an:Option Addr)(osl:Array (Option Value))(kV doc pm cdv ct:Value),
  PySem.W.nsIn K mainGlobals x=some (some (.ref f))/\K.lookup f=some ⟨oc,od,.func (PySem.W.fnOf x x (defArgs st) (defBody st) (defScope st) .none kV doc pm an cdv ct),osl⟩ /\
  PySem.W.codeIn K cdv x=true/\PySem.W.keepIn K (.ref f)=true:=by
 unfold fnSh fnEx at e
 split at e
 ·rename_i f hf
  split at e
  ·rename_i oc od fd osl hl;obtain⟨nm,qn,pa,bo,sc,gl,cl,de,kd,dc,pm,an,co,ct,bi⟩:=fd;simp only [Option.some.injEq,Prod.mk.injEq,FuncData.mk.injEq] at e;obtain⟨⟨rfl,rfl,rfl,rfl,rfl,rfl,rfl,rfl,-,-,-,-,-,-,rfl⟩,e1,e2⟩:=e;exact⟨f,oc,od,an,osl,kd,dc,pm,co,ct,hf,hl,e1,e2⟩
  ·cases e
 ·cases e
noncomputable def ctSh(K:PySem.W.Frag)(x:Str):Option Int:=match PySem.W.nsIn K mainGlobals x with
 | some (some (.int i _))=>some i
 | _=>none
section
variable{K:PySem.W.Frag}{mg:Str->Option Value}{h:Heap}
theorem zjX{x:Str}{i:Int}(X:K.In h)(G:h.Ns mainGlobals mg)(e:ctSh K x=some i):∃ t,mg x=some (.int i t):=by
 unfold ctSh at e
 split at e
 ·rename_i j t hn;cases e;exact⟨t,PySem.W.mg_of X G hn⟩
 ·cases e
theorem zY{x:Str}{ps:List Str}{st:Stmt}(X:K.In h)(G:h.Ns mainGlobals mg)(e:fnSh K x=fnEx x st)
  (hb:∀(kV doc pm:Value)(an:Option Addr)(cdv ct:Value)(us:List Value),us.length=ps.length->bindArgs (PySem.W.fnOf x x (defArgs st) (defBody st) (defScope st) .none kV doc pm an cdv ct) ⟨us,[]⟩=pure (ps.zip us)):Df K mg x ps st:=by
 obtain⟨f,oc,od,an,osl,kV,doc,pm,cdv,ct,a,l,c,k⟩:=zeK e;exact zjT X G a l c k hb
theorem zjf {st:Stmt} {fa:Addr} (X:K.In h) (G:h.Ns mainGlobals mg) (hmg:mg "law" = some (.ref fa)) (e:fnSh K "law" = fnEx "law" st)
  (hb:∀(kV doc pm:Value)(an:Option Addr)(cdv ct:Value)(v:Value),bindArgs (PySem.W.fnOf "law" "law" (defArgs st) (defBody st) (defScope st) .none kV doc pm an cdv ct) ⟨[v],[]⟩=pure [(("_law_script" : Str),v)]) :
  ∃ fd:FuncData,Fun K "law" "law" st fa fd/\∀(s:Shared)(v:Value),BindsTo s fd ⟨[v],[]⟩ [("_law_script",v)]:=by
 obtain⟨f,oc,od,an,osl,kV,doc,pm,cdv,ct,a,l,c,k⟩:=zeK e;exact zjb X G hmg a l c k hb
end
noncomputable def nth{α:Type}:List α->Nat->Option α
 | [],_=>none
 | a::_,0=>some a
 | _::r,n+1=>nth r n
theorem zF{α:Type}{l l':List α}(h:l=l')(n:Nat){a b:α}(x:nth l n=some a)(y:nth l' n=some b):a=b:=by
 subst h;exact Option.some.inj (x.symm.trans y)
noncomputable def lawOnly(p:Program):Program:={ p with main:={ p.main with body:=p.main.body.filter fun st=>match st with
 | .FunctionDef n ..=>n ==("law" : Str)
 | _=>false } }
noncomputable def looseOf (p:Program):List Str:=(p.main.scope.names.map (·.1)).filter fun n=>!(n ==("law" : Str))
noncomputable def lawRec (p:Program):DefRec:=match PySem.W.defOf (lawOnly p) "law" with
 | some (d,_)=>d
 | none=>⟨"law",{ posonlyargs:=[],args:=[],vararg:=none,kwonlyargs:=[],kw_defaults:=[],kwarg:=none,defaults:=[] },[],{ kind:=.function,names:=[],isGenerator:=false,isCoroutine:=false },default⟩
noncomputable def runT(p:Program)(N:Nat)(w:World)(os:OsState):Option Shared :=
 PySem.W.Fast.tw14082659384304107361 PySem.W.Fast.tw14364793385576792824 p w 11 (some (.ref 6)) N ⟨PySem.W.boot_heap w.params,#[],PySem.W.boot_drawn,PySem.W.boot_toks,os⟩ (PySem.W.topStub p)
noncomputable def statT(p:Program)(w:World)(s₁:Shared):Bool:=PySem.W.staticsOk (importedModules p.main.body) (PySem.W.boot_heap w.params) s₁.heap && PySem.W.namesBound p s₁.heap && PySem.W.gensDone s₁ && PySem.W.laidKept (PySem.W.boot_heap w.params) s₁.heap
noncomputable def seenT(p:Program)(s:Shared):=PySem.W.Fast.tw4187177175401517315 (lawOnly p) (looseOf p) (importedModules p.main.body) (fun _=>true) true s
structure Behind{β:Type}(p:Program)(N:Nat)(lk:PySem.W.Frag->β)(val:β):Prop where
 st:∀(w:World)(os:OsState),(runT p N w os).map (statT p w)=some true
 sn:∀(w:World)(os:OsState),(runT p N w os).map (seenT p)=some (PySem.W.openGood (lawOnly p) (looseOf p))
 lk:∀(w:World)(os:OsState),(runT p N w os).map (fun s=>lk (fragH s.heap))=some val
theorem zeR (w:World):((PySem.W.boot_heap w.params).isNs mainGlobals && (#[]:Array GenState).size == 0)=true/\(PySem.W.boot_heap w.params).objs.size=11/\(PySem.W.boot_heap w.params).nsMap mainGlobals "__annotations__" = some (.ref 6):=by
 refine⟨?_,?_,?_⟩
 ·kernel_rfl
 ·kernel_rfl
 ·rw [PySem.W.Fast.te8920871248978507458]; kernel_rfl
theorem ze6{β:Type}{p:Program}{N:Nat}{lk:PySem.W.Frag->β}{val:β}(e:PySem.W.opening p=PySem.W.plainProg p.main.scope.names)(hN:Nat.ble 600 N=true)(f:∀ s,fenceModules? p s=some s)
  (h:Behind p N lk val) :
  PySem.W.LeftO p (lawOnly p) (looseOf p) (fun _=>true) (fun s=>lk (fragH s.heap)) (fun _=>val) N:=fun w=>by
 obtain⟨⟨hp,gs,d,k,os⟩,e1,e2⟩:=wU.mp (PySem.W.boot_open e hN f w);obtain⟨rfl,rfl,rfl,rfl⟩ : hp=PySem.W.boot_heap w.params/\gs=#[]/\d=PySem.W.boot_drawn/\k=PySem.W.boot_toks:=by simpa using e2
 obtain⟨z1,z2,z3⟩:=zeR w;have zs:=h.st w os;have zn:=h.sn w os;have zl:=h.lk w os;unfold seenT at zn;unfold runT at zs zn zl;rw [← PySem.W.Fast.te14082659384304107361,← PySem.W.Fast.te14364793385576792824] at zs zn zl;rw [← PySem.W.Fast.te4187177175401517315] at zn;obtain⟨s₁,er,es⟩:=wU.mp zs;rw [er] at zn zl;unfold statT at es;unfold PySem.W.openEnds;rw [e1];show(PySem.W.topFrom treeTable p w N _).map _=_;unfold PySem.W.topFrom
 dsimp only
 rw [z1,z2,z3,er];show((match PySem.W.staticsOk (importedModules p.main.body) (PySem.W.boot_heap w.params) s₁.heap && PySem.W.namesBound p s₁.heap && PySem.W.gensDone s₁ && PySem.W.laidKept (PySem.W.boot_heap w.params) s₁.heap with | true=>some s₁ | false=>none).map _:Option _)=_;rw [es];exact congrArg some (Prod.ext (Option.some.inj zn) (Option.some.inj zl))
theorem zdC {β:Type} {l:PySem.W.OpenLaw} (k N:Nat) (lk:PySem.W.Frag->β) (val:β) (ws:PySem.W.Fast.tw9446332074065402090 l=true) (hl:l.name = "law") (hn:l.most=some 63) (hwr:l.writes=false)
  (e:PySem.W.opening l.prog=PySem.W.plainProg l.prog.main.scope.names) (hN:Nat.ble 600 N=true) (f:∀ s,fenceModules? l.prog s=some s)
  (h:Behind l.prog N lk val)
  (hd:PySem.W.defOf (lawOnly l.prog) "law" = some (lawRec l.prog,[])) (hp:l.prog.theDef "law" = some ((lawRec l.prog).params,(lawRec l.prog).body,(lawRec l.prog).scope))
  (hk:PySem.W.kwWritten? (lawRec l.prog).params.kwonlyargs (lawRec l.prog).params.kw_defaults=some []) (hdf:(lawRec l.prog).params.defaults=[]) (hnm:(lawRec l.prog).name = "law")
  (ok:(PySem.W.chainsOk (lawOnly l.prog) && PySem.W.opensWell l.prog && (PySem.W.frees l.row.toRowW && l.row.within.isEmpty))=true) (hb:l.prog.bare) (hw:l.row.toRowW.promised) (hi:PyProof.Rows.importsNone (lawOnly l.prog)=true) (hr:Room k callerA)
  (F:∀(w:World)(mg:Str->Option Value)(fa:Addr)(h:Heap)(K:PySem.W.Frag),K.In h->lk K=val->h.Ns mainGlobals mg->mg "law" = some (.ref fa) ->
   ∃ fd:FuncData,(∀(s:Shared)(u:Value),BindsTo s fd ⟨[u],[]⟩ [("_law_script",u)])/\∀ base:Heap,K.In base->base.Ns mainGlobals mg->base.NoSeer->FnOk l.prog w K mg base CX0 k fa fd ["_law_script"] (spLaw K)):l.Holds:=by
 rw [← PySem.W.Fast.te9446332074065402090] at ws;refine PySem.W.holds_law ws fun said=>?_
 have hl':l.row.toRowW.name = "law" := hl;refine PySem.W.holds_open (r:=l.row) (q:=lawOnly l.prog) (loose:=looseOf l.prog) (Xt:=fun _=>true) (XP:=fun _ _=>True) (Yf:=fun s=>lk (fragH s.heap)) (Ya:=fun _=>val)
  (YP:=fun _ h=>∃ K:PySem.W.Frag,K.In h/\lk K=val) (d:=lawRec l.prog) (kwd:=[]) (N:=N) (ze6 e hN f h) (fun w s e=>⟨_,zgW _,e⟩) (fun w h h' y kp=>?_) (fun _ _=>True.intro) (fun _ _ _ _ _=>True.intro)
  (by rw [hl']; exact hd) (by rw [hl']; exact hp) hk (fun s _=>PySem.W.recFacts_of (R:=[]) rfl) ?_ said ok hb hw ?_
 ·obtain⟨K,i,q⟩:=y;exact⟨K,i.keeps kp,q⟩
 ·show(!l.writes || _)=true;rw [hwr]; rfl
 ·refine Att.zb4 hn hdf fun w s₀ s₁ mg mb fa o pm cd doc a vs ns G Y ho hd hcd hmg hobj hints hlen hg=>?_
  obtain⟨K,KX,q⟩:=Y;rw [hnm] at hmg;obtain⟨fd,hb,hF⟩:=F w mg fa _ K KX q G.T.g hmg;exact zgS KX G.T.g G.T.b G.T.builtins G.T.nolimit (G.T.seer hi) hg hobj hints (wF hlen (by decide)) hr hF hb (fun H hO hS=>⟨a,ns,rfl,hS,hlen,fun _=>rfl⟩) fun H e s' z=>z
end L2
namespace KL
open PySem PySem.Spec PyProof.Rows L2
set_option maxHeartbeats 4000000
noncomputable def top(i:Nat):Stmt:=PySem.Challenge.pw_steermill_k41_partings.main.body.getD i (.Pass ⟨0,0,0,0⟩)
noncomputable abbrev xb:Stmt:=top 4
theorem sc_common_divisor:FnScope ["one", "other", "left", "right", "rest"] ["one", "other"] (defScope xb):=⟨rfl,rfl,rfl,by decide +kernel,rfl,by decide +kernel,by decide +kernel⟩
noncomputable abbrev Zl:Stmt:=top 5
theorem sc_fraction:FnScope ["top", "bottom", "divisor"] ["top", "bottom"] (defScope Zl):=⟨rfl,rfl,rfl,by decide +kernel,rfl,by decide +kernel,by decide +kernel⟩
noncomputable abbrev qZ:Stmt:=top 6
theorem sc_one_over:FnScope ["prime", "rest", "left", "right", "many_left", "many_right", "whole", "less", "many_less"] ["prime", "rest"] (defScope qZ):=⟨rfl,rfl,rfl,by decide +kernel,rfl,by decide +kernel,by decide +kernel⟩
noncomputable abbrev Xi:Stmt:=top 7
theorem zfy:FnScope ["kind", "whole"] ["kind", "whole"] (defScope Xi):=⟨rfl,rfl,rfl,by decide +kernel,rfl,by decide +kernel,by decide +kernel⟩
noncomputable abbrev QW:Stmt:=top 8
theorem zgV:FnScope ["kind", "one", "other"] ["kind", "one", "other"] (defScope QW):=⟨rfl,rfl,rfl,by decide +kernel,rfl,by decide +kernel,by decide +kernel⟩
noncomputable abbrev zc3:Stmt:=top 9
theorem ziO:FnScope ["kind", "one", "other"] ["kind", "one", "other"] (defScope zc3):=⟨rfl,rfl,rfl,by decide +kernel,rfl,by decide +kernel,by decide +kernel⟩
noncomputable abbrev Xw:Stmt:=top 11
theorem sc_scaled:FnScope ["kind", "row", "bottom", "part"] ["kind", "row"] (defScope Xw):=⟨rfl,rfl,rfl,by decide +kernel,rfl,by decide +kernel,by decide +kernel⟩
noncomputable abbrev Za:Stmt:=top 12
theorem zcC:FnScope ["kind", "top", "bottom"] ["kind", "top", "bottom"] (defScope Za):=⟨rfl,rfl,rfl,by decide +kernel,rfl,by decide +kernel,by decide +kernel⟩
noncomputable abbrev qi:Stmt:=top 13
theorem zbj:FnScope ["one", "other"] ["one", "other"] (defScope qi):=⟨rfl,rfl,rfl,by decide +kernel,rfl,by decide +kernel,by decide +kernel⟩
noncomputable abbrev yV:Stmt:=top 14
theorem ZL:FnScope ["kind", "one", "other"] ["kind", "one", "other"] (defScope yV):=⟨rfl,rfl,rfl,by decide +kernel,rfl,by decide +kernel,by decide +kernel⟩
noncomputable abbrev zac:Stmt:=top 15
theorem sc_eased:FnScope ["kind", "wholes", "divisor", "whole"] ["kind", "wholes"] (defScope zac):=⟨rfl,rfl,rfl,by decide +kernel,rfl,by decide +kernel,by decide +kernel⟩
noncomputable abbrev ZR:Stmt:=top 16
theorem zd6:FnScope ["kind", "row", "lead_row", "column"] ["kind", "row", "lead_row", "column"] (defScope ZR):=⟨rfl,rfl,rfl,by decide +kernel,rfl,by decide +kernel,by decide +kernel⟩
noncomputable abbrev zan:Stmt:=top 17
theorem sc_swept:FnScope ["kind", "rows", "done", "waiting", "width", "column", "leading", "lead_row"] ["kind", "rows"] (defScope zan):=⟨rfl,rfl,rfl,by decide +kernel,rfl,by decide +kernel,by decide +kernel⟩
noncomputable abbrev ZF:Stmt:=top 19
theorem zdM:FnScope ["kind", "width"] ["kind", "width"] (defScope ZF):=⟨rfl,rfl,rfl,by decide +kernel,rfl,by decide +kernel,by decide +kernel⟩
noncomputable abbrev Yg:Stmt:=top 20
theorem zdF:FnScope ["one", "other"] ["one", "other"] (defScope Yg):=⟨rfl,rfl,rfl,by decide +kernel,rfl,by decide +kernel,by decide +kernel⟩
noncomputable abbrev Xk:Stmt:=top 21
theorem sc_strung:FnScope ["rows", "told", "row"] ["rows"] (defScope Xk):=⟨rfl,rfl,rfl,by decide +kernel,rfl,by decide +kernel,by decide +kernel⟩
noncomputable abbrev Xm:Stmt:=top 22
theorem zf6:FnScope ["table"] ["table"] (defScope Xm):=⟨rfl,rfl,rfl,by decide +kernel,rfl,by decide +kernel,by decide +kernel⟩
noncomputable abbrev QL:Stmt:=top 23
theorem sc_image:FnScope ["kind", "table", "row", "right"] ["kind", "table", "row"] (defScope QL):=⟨rfl,rfl,rfl,by decide +kernel,rfl,by decide +kernel,by decide +kernel⟩
noncomputable abbrev zcG:Stmt:=top 24
theorem ziQ:FnScope ["kind", "size"] ["kind", "size"] (defScope zcG):=⟨rfl,rfl,rfl,by decide +kernel,rfl,by decide +kernel,by decide +kernel⟩
noncomputable abbrev yQ:Stmt:=top 25
theorem sc_over_one_bottom:FnScope ["kind", "table", "width", "pair"] ["kind", "table"] (defScope yQ):=⟨rfl,rfl,rfl,by decide +kernel,rfl,by decide +kernel,by decide +kernel⟩
noncomputable abbrev Yd:Stmt:=top 26
theorem sc_lead_of:FnScope ["kind", "row", "nought", "place"] ["kind", "row"] (defScope Yd):=⟨rfl,rfl,rfl,by decide +kernel,rfl,by decide +kernel,by decide +kernel⟩
noncomputable abbrev qx:Stmt:=top 27
theorem sc_over_lead:FnScope ["kind", "wholes", "lead"] ["kind", "wholes"] (defScope qx):=⟨rfl,rfl,rfl,by decide +kernel,rfl,by decide +kernel,by decide +kernel⟩
noncomputable abbrev ZB:Stmt:=top 28
theorem sc_reduced:FnScope ["kind", "rows", "wholes"] ["kind", "rows"] (defScope ZB):=⟨rfl,rfl,rfl,by decide +kernel,rfl,by decide +kernel,by decide +kernel⟩
noncomputable abbrev zc5:Stmt:=top 29
theorem sc_back:FnScope ["kind", "table", "size", "units", "rows"] ["kind", "table"] (defScope zc5):=⟨rfl,rfl,rfl,by decide +kernel,rfl,by decide +kernel,by decide +kernel⟩
noncomputable abbrev Xv:Stmt:=top 32
theorem zeD:FnScope ["kind", "one", "other"] ["kind", "one", "other"] (defScope Xv):=⟨rfl,rfl,rfl,by decide +kernel,rfl,by decide +kernel,by decide +kernel⟩
noncomputable abbrev jz:Stmt:=top 33
theorem sc_against_by:FnScope ["kind", "n", "rows", "free", "told", "row"] ["kind", "n", "rows", "free"] (defScope jz):=⟨rfl,rfl,rfl,by decide +kernel,rfl,by decide +kernel,by decide +kernel⟩
noncomputable abbrev ZV:Stmt:=top 34
theorem sc_against:FnScope ["kind", "n", "room", "rows", "leads"] ["kind", "n", "room"] (defScope ZV):=⟨rfl,rfl,rfl,by decide +kernel,rfl,by decide +kernel,by decide +kernel⟩
noncomputable abbrev zgT:Stmt:=top 35
theorem ziU:FnScope ["kind", "n", "one", "other"] ["kind", "n", "one", "other"] (defScope zgT):=⟨rfl,rfl,rfl,by decide +kernel,rfl,by decide +kernel,by decide +kernel⟩
noncomputable abbrev Yh:Stmt:=top 36
theorem zec:FnScope ["kind", "table", "rows", "room"] ["kind", "table", "rows", "room"] (defScope Yh):=⟨rfl,rfl,rfl,by decide +kernel,rfl,by decide +kernel,by decide +kernel⟩
noncomputable abbrev jv:Stmt:=top 37
theorem sc_grown_room:FnScope ["kind", "table", "rows", "room", "wider"] ["kind", "table", "rows"] (defScope jv):=⟨rfl,rfl,rfl,by decide +kernel,rfl,by decide +kernel,by decide +kernel⟩
noncomputable abbrev Zo:Stmt:=top 38
theorem zbU:FnScope ["table"] ["table"] (defScope Zo):=⟨rfl,rfl,rfl,by decide +kernel,rfl,by decide +kernel,by decide +kernel⟩
noncomputable abbrev jr:Stmt:=top 39
theorem sc_least_room:FnScope ["kind", "table", "rows", "n"] ["kind", "table", "rows"] (defScope jr):=⟨rfl,rfl,rfl,by decide +kernel,rfl,by decide +kernel,by decide +kernel⟩
noncomputable abbrev jc:Stmt:=top 41
theorem JG:FnScope ["kind", "machine"] ["kind", "machine"] (defScope jc):=⟨rfl,rfl,rfl,by decide +kernel,rfl,by decide +kernel,by decide +kernel⟩
noncomputable abbrev xH:Stmt:=top 43
theorem XX:FnScope ["kind", "machine"] ["kind", "machine"] (defScope xH):=⟨rfl,rfl,rfl,by decide +kernel,rfl,by decide +kernel,by decide +kernel⟩
noncomputable abbrev Xj:Stmt:=top 45
theorem sc_picked:FnScope ["kind", "room", "rows", "told", "wide", "row", "wider"] ["kind", "room", "rows"] (defScope Xj):=⟨rfl,rfl,rfl,by decide +kernel,rfl,by decide +kernel,by decide +kernel⟩
noncomputable abbrev qk:Stmt:=top 46
theorem sc_stretches:FnScope ["kind", "machine", "n", "steered", "unseen", "both", "others"] ["kind", "machine"] (defScope qk):=⟨rfl,rfl,rfl,by decide +kernel,rfl,by decide +kernel,by decide +kernel⟩
noncomputable abbrev ZJ:Stmt:=top 47
theorem sc_parting:FnScope ["kind", "machine", "four", "T"] ["kind", "machine"] (defScope ZJ):=⟨rfl,rfl,rfl,by decide +kernel,rfl,by decide +kernel,by decide +kernel⟩
noncomputable abbrev jF:Stmt:=top 49
theorem zap:FnScope ["_law_found"] ["_law_found"] (defScope jF):=⟨rfl,rfl,rfl,by decide +kernel,rfl,by decide +kernel,by decide +kernel⟩
noncomputable abbrev xF:Stmt:=top 50
theorem sc__law_divisor:FnScope ["_law_one", "_law_other"] ["_law_one", "_law_other"] (defScope xF):=⟨rfl,rfl,rfl,by decide +kernel,rfl,by decide +kernel,by decide +kernel⟩
noncomputable abbrev jD:Stmt:=top 51
theorem sc__law_mixed:FnScope ["_law_cell", "_law_k", "_law_left", "_law_j", "_law_one"] ["_law_cell", "_law_k"] (defScope jD):=⟨rfl,rfl,rfl,by decide +kernel,rfl,by decide +kernel,by decide +kernel⟩
noncomputable abbrev jy:Stmt:=top 52
theorem QF:FnScope ["_law_prime_here", "_law_cell"] ["_law_prime_here", "_law_cell"] (defScope jy):=⟨rfl,rfl,rfl,by decide +kernel,rfl,by decide +kernel,by decide +kernel⟩
noncomputable abbrev xw:Stmt:=top 53
theorem sc__law_fraction:FnScope ["_law_top", "_law_bottom", "_law_by"] ["_law_top", "_law_bottom"] (defScope xw):=⟨rfl,rfl,rfl,by decide +kernel,rfl,by decide +kernel,by decide +kernel⟩
noncomputable abbrev qg:Stmt:=top 54
theorem zbR:FnScope ["_law_prime_here", "_law_whole_here"] ["_law_prime_here", "_law_whole_here"] (defScope qg):=⟨rfl,rfl,rfl,by decide +kernel,rfl,by decide +kernel,by decide +kernel⟩
noncomputable abbrev ql:Stmt:=top 55
theorem za6:FnScope ["_law_prime_here", "_law_one", "_law_other"] ["_law_prime_here", "_law_one", "_law_other"] (defScope ql):=⟨rfl,rfl,rfl,by decide +kernel,rfl,by decide +kernel,by decide +kernel⟩
noncomputable abbrev jw:Stmt:=top 56
theorem zaA:FnScope ["_law_prime_here", "_law_one", "_law_other"] ["_law_prime_here", "_law_one", "_law_other"] (defScope jw):=⟨rfl,rfl,rfl,by decide +kernel,rfl,by decide +kernel,by decide +kernel⟩
noncomputable abbrev jB:Stmt:=top 57
theorem zat:FnScope ["_law_prime_here", "_law_one", "_law_other"] ["_law_prime_here", "_law_one", "_law_other"] (defScope jB):=⟨rfl,rfl,rfl,by decide +kernel,rfl,by decide +kernel,by decide +kernel⟩
noncomputable abbrev xc:Stmt:=top 58
theorem YB:FnScope ["_law_prime_here", "_law_found"] ["_law_prime_here", "_law_found"] (defScope xc):=⟨rfl,rfl,rfl,by decide +kernel,rfl,by decide +kernel,by decide +kernel⟩
noncomputable abbrev js:Stmt:=top 59
theorem sc__law_image:FnScope ["_law_prime_here", "_law_table", "_law_column", "_law_told", "_law_row", "_law_one", "_law_j"] ["_law_prime_here", "_law_table", "_law_column"] (defScope js):=⟨rfl,rfl,rfl,by decide +kernel,rfl,by decide +kernel,by decide +kernel⟩
noncomputable abbrev je:Stmt:=top 60
theorem JN:FnScope ["_law_table"] ["_law_table"] (defScope je):=⟨rfl,rfl,rfl,by decide +kernel,rfl,by decide +kernel,by decide +kernel⟩
noncomputable abbrev xE:Stmt:=top 61
theorem XY:FnScope ["_law_prime_here", "_law_one", "_law_other"] ["_law_prime_here", "_law_one", "_law_other"] (defScope xE):=⟨rfl,rfl,rfl,by decide +kernel,rfl,by decide +kernel,by decide +kernel⟩
noncomputable abbrev jf:Stmt:=top 62
theorem sc__law_is_row:FnScope ["_law_prime_here", "_law_found", "_law_many", "_law_one"] ["_law_prime_here", "_law_found", "_law_many"] (defScope jf):=⟨rfl,rfl,rfl,by decide +kernel,rfl,by decide +kernel,by decide +kernel⟩
noncomputable abbrev xL:Stmt:=top 63
theorem Jk:FnScope ["_law_prime_here", "_law_found", "_law_rows", "_law_columns"] ["_law_prime_here", "_law_found", "_law_rows", "_law_columns"] (defScope xL):=⟨rfl,rfl,rfl,by decide +kernel,rfl,by decide +kernel,by decide +kernel⟩
noncomputable abbrev qh:Stmt:=top 64
theorem sc__law_back:FnScope ["_law_prime_here", "_law_one", "_law_told", "_law_left"] ["_law_prime_here", "_law_one"] (defScope qh):=⟨rfl,rfl,rfl,by decide +kernel,rfl,by decide +kernel,by decide +kernel⟩
noncomputable abbrev xK:Stmt:=top 65
theorem sc__law_reduced:FnScope ["_law_prime_here", "_law_rows", "_law_nought", "_law_left", "_law_told", "_law_at_here", "_law_some", "_law_first", "_law_by"] ["_law_prime_here", "_law_rows"] (defScope xK):=⟨rfl,rfl,rfl,by decide +kernel,rfl,by decide +kernel,by decide +kernel⟩
noncomputable abbrev xp:Stmt:=top 66
theorem sc__law_prime:FnScope ["_law_cell", "_law_primes"] ["_law_cell"] (defScope xp):=⟨rfl,rfl,rfl,by decide +kernel,rfl,by decide +kernel,by decide +kernel⟩
noncomputable abbrev ZE:Stmt:=top 67
theorem zd8:FnScope ["_law_prime_here", "_law_cells", "_law_k"] ["_law_prime_here", "_law_cells", "_law_k"] (defScope ZE):=⟨rfl,rfl,rfl,by decide +kernel,rfl,by decide +kernel,by decide +kernel⟩
noncomputable abbrev jq:Stmt:=top 68
theorem sc__law_small:FnScope ["_law_prime_here", "_law_cells", "_law_k", "_law_one"] ["_law_prime_here", "_law_cells", "_law_k"] (defScope jq):=⟨rfl,rfl,rfl,by decide +kernel,rfl,by decide +kernel,by decide +kernel⟩
noncomputable abbrev jG:Stmt:=top 69
theorem zah:FnScope ["_law_head", "_law_n", "_law_plain"] ["_law_head", "_law_n", "_law_plain"] (defScope jG):=⟨rfl,rfl,rfl,by decide +kernel,rfl,by decide +kernel,by decide +kernel⟩
noncomputable abbrev jj:Stmt:=top 70
theorem YS:FnScope ["_law_row", "_law_column"] ["_law_row", "_law_column"] (defScope jj):=⟨rfl,rfl,rfl,by decide +kernel,rfl,by decide +kernel,by decide +kernel⟩
noncomputable abbrev xM:Stmt:=top 71
theorem sc__law_blocked:FnScope ["_law_prime_here", "_law_cells", "_law_sizes", "_law_sorts_here", "_law_n", "_law_m", "_law_q", "_law_nought", "_law_tables", "_law_at_here", "_law_rows", "_law_columns", "_law_told", "_law_i", "_law_j", "_law_row"] ["_law_prime_here", "_law_cells", "_law_sizes", "_law_sorts_here"] (defScope xM):=⟨rfl,rfl,rfl,by decide +kernel,rfl,by decide +kernel,by decide +kernel⟩
noncomputable abbrev xh:Stmt:=top 72
theorem sc__law_exchanged:FnScope ["_law_prime_here", "_law_tables", "_law_cell", "_law_n", "_law_i", "_law_j", "_law_c", "_law_table", "_law_hands", "_law_sights_here", "_law_some", "_law_row"] ["_law_prime_here", "_law_tables", "_law_cell"] (defScope xh):=⟨rfl,rfl,rfl,by decide +kernel,rfl,by decide +kernel,by decide +kernel⟩
noncomputable abbrev xG:Stmt:=top 73
theorem sc__law_machine:FnScope ["_law_cells", "_law_most", "_law_head", "_law_prime_here", "_law_sizes", "_law_plain", "_law_tables", "_law_at_here", "_law_k"] ["_law_cells", "_law_most"] (defScope xG):=⟨rfl,rfl,rfl,by decide +kernel,rfl,by decide +kernel,by decide +kernel⟩
noncomputable abbrev jU:Stmt:=top 74
theorem zbE:FnScope ["_law_machine_here"] ["_law_machine_here"] (defScope jU):=⟨rfl,rfl,rfl,by decide +kernel,rfl,by decide +kernel,by decide +kernel⟩
noncomputable abbrev jZ:Stmt:=top 75
theorem za4:FnScope ["_law_prime_here", "_law_size"] ["_law_prime_here", "_law_size"] (defScope jZ):=⟨rfl,rfl,rfl,by decide +kernel,rfl,by decide +kernel,by decide +kernel⟩
noncomputable abbrev xJ:Stmt:=top 76
theorem sc__law_steered:FnScope ["_law_prime_here", "_law_machine_here", "_law_table", "_law_hands", "_law_sights_here", "_law_some", "_law_there", "_law_k"] ["_law_prime_here", "_law_machine_here"] (defScope xJ):=⟨rfl,rfl,rfl,by decide +kernel,rfl,by decide +kernel,by decide +kernel⟩
noncomputable abbrev jb:Stmt:=top 77
theorem sc__law_sights:FnScope ["_law_prime_here", "_law_machine_here", "_law_many", "_law_told", "_law_there", "_law_k"] ["_law_prime_here", "_law_machine_here", "_law_many"] (defScope jb):=⟨rfl,rfl,rfl,by decide +kernel,rfl,by decide +kernel,by decide +kernel⟩
noncomputable abbrev jd:Stmt:=top 78
theorem sc__law_kernel:FnScope ["_law_prime_here", "_law_rows", "_law_n", "_law_some", "_law_leads", "_law_row", "_law_told", "_law_j", "_law_one", "_law_i"] ["_law_prime_here", "_law_rows", "_law_n"] (defScope jd):=⟨rfl,rfl,rfl,by decide +kernel,rfl,by decide +kernel,by decide +kernel⟩
noncomputable abbrev xa:Stmt:=top 79
theorem sc__law_stretches:FnScope ["_law_sizes", "_law_told", "_law_k"] ["_law_sizes"] (defScope xa):=⟨rfl,rfl,rfl,by decide +kernel,rfl,by decide +kernel,by decide +kernel⟩
noncomputable abbrev xN:Stmt:=top 80
theorem sc__law_noughts:FnScope ["_law_prime_here", "_law_machine_here", "_law_turn", "_law_backward", "_law_places", "_law_nought", "_law_table", "_law_hands", "_law_sights_here", "_law_i", "_law_j"] ["_law_prime_here", "_law_machine_here", "_law_turn", "_law_backward", "_law_places"] (defScope xN):=⟨rfl,rfl,rfl,by decide +kernel,rfl,by decide +kernel,by decide +kernel⟩
noncomputable abbrev zgG:Stmt:=top 81
theorem sc_law:FnScope ["_law_script", "_law_cells", "_law_prime_here", "_law_machine_here", "_law_at_here", "_law_n", "_law_handed", "_law_told", "_law_turn", "_law_backward", "_law_sizes", "_law_places", "_law_columns", "_law_unseen"] ["_law_script"] (defScope zgG):=⟨rfl,rfl,rfl,by decide +kernel,rfl,by decide +kernel,by decide +kernel⟩
end KL
namespace KL
open PySem PySem.Spec PyProof.Rows L2
noncomputable abbrev hx(x:Str)(s:Stmt):Str×Stmt:=(x,s)
noncomputable def hdX:List (Str×Stmt):=[hx "common_divisor" xb,hx "fraction" Zl,hx "one_over" qZ,hx "number" Xi,hx "minus" QW,hx "over" zc3,hx "scaled" Xw,hx "quotient" Za,hx "whole_sum" qi,hx "sum_of_products" yV,hx "eased" zac,hx "cleared" ZR,hx "swept" zan,hx "noughts" ZF,hx "abreast" Yg,hx "strung" Xk,hx "turned" Xm,hx "image" QL,hx "unit" zcG,hx "over_one_bottom" yQ,hx "lead_of" Yd,hx "over_lead" qx,hx "reduced" ZB,hx "back" zc5,hx "joined" Xv,hx "against_by" jz,hx "against" ZV,hx "met" zgT,hx "widened" Yh,hx "grown_room" jv,hx "rests_of" Zo,hx "least_room" jr,hx "unseen_room" jc,hx "steered_room" xH,hx "picked" Xj,hx "stretches" qk,hx "parting" ZJ,hx "_law_whole" jF,hx "_law_divisor" xF,hx "_law_mixed" jD,hx "_law_drawn" jy,hx "_law_fraction" xw,hx "_law_make" qg,hx "_law_plus" ql,hx "_law_times" jw,hx "_law_minus" jB,hx "_law_is_number" xc,hx "_law_image" js,hx "_law_across" je,hx "_law_product" xE,hx "_law_is_row" jf,hx "_law_is_rows" xL,hx "_law_back" qh,hx "_law_reduced" xK,hx "_law_prime" xp,hx "_law_at" ZE,hx "_law_small" jq,hx "_law_sorts" jG,hx "_law_lets" jj,hx "_law_blocked" xM,hx "_law_exchanged" xh,hx "_law_machine" xG,hx "_law_copy" jU,hx "_law_unit" jZ,hx "_law_steered" xJ,hx "_law_sights" jb,hx "_law_kernel" jd,hx "_law_stretches" xa,hx "_law_noughts" xN,hx "law" zgG]
noncomputable def hdY:List Str:=["abs", "all", "any", "bool", "int", "isinstance", "len", "list", "range", "sorted", "sum", "tuple", "zip"]
noncomputable def hdZ:List Str:=[]
noncomputable def hdC:List Str:=["GREAT_PRIME"]
noncomputable def lk(K:PySem.W.Frag):List (Option (FuncData×Bool×Bool))×List (Option (Option Value))×List (Option Addr)×List (Option Int):=(hdX.map fun x=>fnSh K x.1,hdY.map (PySem.W.nsIn K mainGlobals),hdZ.map (fun _=>none),hdC.map (ctSh K))
noncomputable def lv:List (Option (FuncData×Bool×Bool))×List (Option (Option Value))×List (Option Addr)×List (Option Int):=(hdX.map fun x=>fnEx x.1 x.2,hdY.map fun _=>some none,hdZ.map fun _=>none,[some 2305843009213693951])
theorem h_ws:PySem.W.Fast.tw9446332074065402090 PySem.Challenge.rw_steermill_k41_partings=true:=by kernel_rfl
theorem h_st(w:World)(os:OsState):(runT PySem.Challenge.rw_steermill_k41_partings.prog 3000 w os).map (statT PySem.Challenge.rw_steermill_k41_partings.prog w)=some true:=by kernel_rfl
theorem h_sn(w:World)(os:OsState):(runT PySem.Challenge.rw_steermill_k41_partings.prog 3000 w os).map (seenT PySem.Challenge.rw_steermill_k41_partings.prog)=some (PySem.W.openGood (lawOnly PySem.Challenge.rw_steermill_k41_partings.prog) (looseOf PySem.Challenge.rw_steermill_k41_partings.prog)):=by kernel_rfl
theorem h_lk(w:World)(os:OsState):(runT PySem.Challenge.rw_steermill_k41_partings.prog 3000 w os).map (fun s=>lk (fragH s.heap))=some lv:=by kernel_rfl
end KL
namespace Nm
inductive Nb where
 | q (r:Rat)
 | z (i:Int)
 deriving DecidableEq
noncomputable def Nb.ok(k:Int):Nb->Prop
 | .q _=>k=0
 | .z i=>k≠0/\0<=i/\i<k
noncomputable def zinv(k b:Int):Int:=(((wY k.toNat).find? fun(x:Nat)=>decide (k ∣ (x:Int)*b - 1)).getD 0:Nat)
theorem zdv{k b x y:Int}(hx0:0<=x)(hx:x<k)(hy0:0<=y)(hy:y<k)(h1:k ∣ x*b - 1)(h2:k ∣ y*b - 1):x=y:=by
 have h:k ∣ x - y:=by
  have e:x - y=y *(x*b - 1) - x *(y*b - 1):=by grind
  rw [e];exact waH (gP h1) (gP h2)
 obtain⟨c,hc⟩:=h
 rcases gk c 0 with h | h
 ·have:k*c<=k *(-1):=ux (by omega) (by omega);omega
 ·rcases gk 0 c with h' | h'
  ·have:k*1<=k*c:=ux (by omega) (by omega);omega
  ·have:c=0:=by omega
   rw [this,Gm] at hc;omega
theorem zf7{k b x:Int}(h0:0<=x)(h1:x<k)(h:k ∣ x*b - 1):zinv k b=x:=by
 unfold zinv;cases e:(wY k.toNat).find? fun(x:Nat)=>decide (k ∣ (x:Int)*b - 1)with
 | none =>
  rw [List.find?_eq_none] at e;have:=e x.toNat (by rw [vp]; omega);rw [show((x.toNat:Nat):Int)=x by omega] at this;simp [h] at this
 | some y =>
  have hm:=List.mem_of_find?_eq_some e;rw [vp] at hm;have hp:=List.find?_some e;have hp':k ∣ (y:Int)*b - 1:=by simpa using hp
  show((y:Nat):Int)=x;exact zdv (uJ y) (by omega) h0 h1 hp' h
theorem zhK{p r:Int}(hp:0<p):∀(n:Nat)(l g ml mg:Int),g.toNat<n->OvInv p r l g ml mg->∃ x,0<=x/\x<p/\p ∣ x*r - 1
 | 0,_,_,_,_,h,_=>absurd h (vH _)
 | n+1,l,g,ml,mg,h,I=>by
  by_cases z:g=0
  ·subst z;exact⟨ml % p,gB _ (by omega),uX _ hp,zhS I hp⟩
  ·exact zhK hp n _ _ _ _ (wV (zfq I.g0 z) (by omega)) (zge I z)
theorem Qk{k b:Int}(h:Pr k)(h0:0<b)(h1:b<k):∃ x,0<=x/\x<k/\k ∣ x*b - 1 :=
 zhK (by have:=h.lo; omega) _ _ _ _ _ (vS _) (zcI h h0 h1)
noncomputable def nnum(k w:Int):Nb:=if k=0 then .q (w:Rat)else .z (w.fmod k)
noncomputable def nadd(k:Int):Nb->Nb->Nb
 | .q a,.q b=>.q (a+b)
 | .z a,.z b=>.z ((a+b).fmod k)
 | _,_=>.z 0
noncomputable def nsub(k:Int):Nb->Nb->Nb
 | .q a,.q b=>.q (a - b)
 | .z a,.z b=>.z ((a - b).fmod k)
 | _,_=>.z 0
noncomputable def nmul(k:Int):Nb->Nb->Nb
 | .q a,.q b=>.q (a*b)
 | .z a,.z b=>.z ((a*b).fmod k)
 | _,_=>.z 0
noncomputable def ndiv(k:Int):Nb->Nb->Nb
 | .q a,.q b=>.q (a / b)
 | .z a,.z b=>.z ((a*zinv k b).fmod k)
 | _,_=>.z 0
theorem YZ(k a:Int):k ∣ a.fmod k - a:=by
 rw [waX];refine⟨-(a.fdiv k),?_⟩
 grind
theorem jo(r:Rat):(r.den:Int)≠0:=by have:=r.den_nz; omega
theorem den_pos(r:Rat):0 <(r.den:Int):=by have:=r.den_pos; omega
theorem zjl{r:Rat}(h:r≠0):r.num≠0:=fun z=>h (waP.mp z)
end Nm
namespace L2
open PySem PySem.Spec PyProof.Rows
noncomputable def closOf(cells:List (Str×Addr)):List (Str×NameKind)->List (Str×Addr)->List (Str×Addr)
 | [],acc=>acc
 | (n,k)::r,acc=>if (k == NameKind.free)=true then closOf cells r ((n,(cells.lookup n).getD 0)::acc)else closOf cells r acc
theorem YG{env:Env}(f:Str×NameKind->List (Str×Addr)->Sem (ForInStep (List (Str×Addr))))
  (hf:∀ name kind cs,f (name,kind) cs=if (kind == NameKind.free)=true then(do let a ← cellOf env name; pure (.yield ((name,a)::cs)))else pure (.yield cs)) :
  ∀(l:List (Str×NameKind))(acc:List (Str×Addr)),(∀ x∈l,x.2=.free->∃ c,env.cells.lookup x.1=some c)->(forIn l acc f:Sem _)=pure (closOf env.cells l acc)
 | [],acc,_=>by rw [List.forIn_nil]; rfl
 | (n,k)::r,acc,h=>by
  rw [List.forIn_cons,hf];have hr:∀ x∈r,x.2=.free->∃ c,env.cells.lookup x.1=some c:=fun x hx=>h x (wr _ hx)
  by_cases hk:(k == NameKind.free)=true
  ·obtain⟨c,hc⟩:=h (n,k) wm (by simpa using hk);rw [if_pos hk];have e:cellOf env n=pure c:=by unfold cellOf; rw [hc]
   rw [e];show(forIn r ((n,c)::acc) f:Sem _)=_;rw [YG f hf r _ hr]
   conv=>rhs; unfold closOf
   rw [if_pos hk,hc]
   rfl
  ·rw [if_neg hk];show(forIn r acc f:Sem _)=_;rw [YG f hf r _ hr]
   conv=>rhs; unfold closOf
   rw [if_neg hk]
theorem zaf{scope:Scope}{env:Env}(h:∀ x∈scope.names,x.2=.free->∃ c,env.cells.lookup x.1=some c):closureFor scope env=pure (closOf env.cells scope.names []):=by
 simp only [closureFor];rw [YG (env:=env) _ (fun name kind cs=>by cases hk:kind == NameKind.free <;> simp [hk]) scope.names [] h]
 rfl
theorem YC{cells:List (Str×Addr)}:∀ {l:List (Str×NameKind)} {acc:List (Str×Addr)} {n:Str} {c:Addr},(∀ x∈l,x.2=.free->∃ c,cells.lookup x.1=some c)->(n,c)∈closOf cells l acc ->
  (n,c)∈acc\/((n,NameKind.free)∈l/\cells.lookup n=some c)
 | [],acc,n,c,_,h=>.inl h
 | (m,k)::r,acc,n,c,hl,h=>by
  have hr:∀ x∈r,x.2=.free->∃ c,cells.lookup x.1=some c:=fun x hx=>hl x (wr _ hx)
  unfold closOf at h
  by_cases hk:(k == NameKind.free)=true
  ·rw [if_pos hk] at h;have hk':k=.free:=by simpa using hk
   subst hk';obtain⟨c',hc'⟩:=hl (m,.free) wm rfl
   rcases YC hr h with h | ⟨h1,h2⟩
   ·rcases wH.mp h with e | h
    ·have hc2:cells.lookup m=some c':=hc';rw [hc2] at e;cases e;exact .inr ⟨wm,hc'⟩
    ·exact .inl h
   ·exact .inr ⟨wr _ h1,h2⟩
  ·rw [if_neg hk] at h
   rcases YC hr h with h | ⟨h1,h2⟩
   ·exact .inl h
   ·exact .inr ⟨wr _ h1,h2⟩
theorem xu{α:Type}:∀ {l:List (Str×α)} {n:Str},(∃ c,(n,c)∈l)->∃ c,l.lookup n=some c
 | [],n,⟨c,h⟩=>nomatch h
 | (m,v)::r,n,⟨c,h⟩=>by
  rw [GD];cases hb:n == m with
  | true=>exact⟨v,rfl⟩
  | false =>
   rcases wH.mp h with e | h
   ·cases e; simp at hb
   ·exact xu ⟨c,h⟩
theorem Yy{cells:List (Str×Addr)}:∀ {l:List (Str×NameKind)} {acc:List (Str×Addr)} {p:Str×Addr},p∈acc->p∈closOf cells l acc
 | [],acc,p,h=>h
 | (m,k)::r,acc,p,h=>by
  unfold closOf
  split
  ·exact Yy (wr _ h)
  ·exact Yy h
theorem Zm{cells:List (Str×Addr)}:∀ {l:List (Str×NameKind)} {acc:List (Str×Addr)} {n:Str},(n,NameKind.free)∈l->∃ c,(n,c)∈closOf cells l acc
 | (m,k)::r,acc,n,h=>by
  unfold closOf
  rcases wH.mp h with e | h
  ·cases e;exact⟨_,Yy wm⟩
  ·split
   ·exact Zm h
   ·exact Zm h
theorem yl:∀(l:List (Str×NameKind))(n:Nat)(acc:List (Str×Addr)),cellsFrom n l acc=cellsFrom n l []++acc
 | [],n,acc=>rfl
 | (m,k)::r,n,acc=>by
  unfold cellsFrom
  split
  ·rw [yl r (n+1) ((m,n)::acc),yl r (n+1) [(m,n)],gb]; rfl
  ·exact yl r n acc
theorem qu:∀ {l:List (Str×NameKind)} {n:Nat} {x:Str} {c:Addr},(x,c)∈cellsFrom n l []->(x,NameKind.cell)∈l
 | (m,k)::r,n,x,c,h=>by
  unfold cellsFrom at h
  by_cases hk:(k == NameKind.cell)=true
  ·rw [if_pos hk,yl] at h
   rcases wq.mp h with h | h
   ·exact wr _ (qu h)
   ·have e:(x,c) =(m,n):=by simpa using h
    cases e;have:k=.cell:=by simpa using hk
    subst this;exact wm
  ·rw [if_neg hk] at h;exact wr _ (qu h)
theorem qq:∀ {l:List (Str×NameKind)} {n:Nat} {x:Str},(x,NameKind.cell)∈l->∃ c,(x,c)∈cellsFrom n l []
 | (m,k)::r,n,x,h=>by
  unfold cellsFrom
  rcases wH.mp h with e | h
  ·cases e;rw [if_pos (by decide),yl];exact⟨n,wy _ wm⟩
  ·split
   ·rw [yl];obtain⟨c,hc⟩:=qq (n:=n+1) h;exact⟨c,wE _ hc⟩
   ·exact qq h
noncomputable def blk(X:Cx)(own fre:List Str)(scope:Scope)(L:Addr)(cells:List (Str×Addr))(s₀:Shared)(H₀:Hp)(ex:List Addr)(pn:List (Addr×Obj)):Cx where
 prog:=X.prog
 w:=X.w
 K:=X.K
 mg:=X.mg
 base:=X.base
 A:=X.A
 N:=own++fre
 s₀:=s₀
 H₀:=H₀
 env:=compEnvC scope cells L X.env
 outer:=X.stack
 stack:=X.stack
 ex:=ex
 fn:=fun x=>own.contains x
 calm:=X.calm
 pn:=pn
 xe:=fun _ _=>False
noncomputable def bst(own:Nat)(idx:List Nat)(σ:St):St:=wD own none++idx.map fun i=>(σ[i]?).join
structure BlkOk(X:Cx)(own fre:List Str)(idx:List Nat)(scope:Scope):Prop where
 kind:scope.kind=.function
 free:(scope.names.all fun x=>x.2 != .free || (X.env.kindOf x.1 == some .cell || X.env.kindOf x.1 == some .free))=true
 loc:(scope.names.all fun x=>x.2 != .local || scope.names.lookup x.1 == some .local)=true
 ownB:(scope.names.all fun x=>x.2 != .free || !own.contains x.1)=true
 freB:((fre.zip idx).all fun p=>scope.names.lookup p.1 == some .free && X.N[p.2]? == some p.1)=true
 len:fre.length=idx.length
 nd:(scope.names.map (·.1)).Nodup
theorem zij{l:List (Str×NameKind)}:(l.map (·.1)).Nodup->∀ {x:Str} {k1 k2:NameKind},(x,k1)∈l->(x,k2)∈l->k1=k2:=by
 induction l with
 | nil=>intro _ x k1 k2 h; exact nomatch h
 | cons p r ih =>
  intro nd x k1 k2 h1 h2;rw [gw,gA] at nd
  rcases wH.mp h1 with e1 | h1 <;> rcases wH.mp h2 with e2 | h2
  ·rw [← e1] at e2; cases e2; rfl
  ·exact absurd (wj.mpr ⟨_,h2,by rw [← e1]⟩) nd.1
  ·exact absurd (wj.mpr ⟨_,h1,by rw [← e2]⟩) nd.1
  ·exact ih nd.2 h1 h2
section
variable{X:Cx}{own fre:List Str}{idx:List Nat}{scope:Scope}{pins:List (Addr×Obj)}{σ:St}{H:Hp}{s:Shared}
theorem BlkOk.freeC(B:BlkOk X own fre idx scope){x:Str×NameKind}(hx:x∈scope.names)(h:x.2=.free):X.env.kindOf x.1=some .cell\/X.env.kindOf x.1=some .free:=by
 have:=uG.mp B.free x hx;rw [h] at this
 simpa using this
theorem BlkOk.cells(B:BlkOk X own fre idx scope)(ok:X.Ok):∀ x∈scope.names,x.2=.free->∃ c,X.env.cells.lookup x.1=some c:=fun x hx h=>ok.has x.1 (B.freeC hx h)
noncomputable def rl(env:Env)(p:Str×NameKind):Str×NameKind:=if (p.2 == NameKind.free && env.scope.kind == .function && env.kindOf p.1 == some .cell)=true then(p.1,NameKind.cell)else p
theorem zhX(env:Env)(p:Str×NameKind):(rl env p).1=p.1:=by unfold rl; split <;> rfl
theorem zhy(env:Env)(p:Str×NameKind):(rl env p).2=p.2\/((rl env p).2=.cell/\p.2=.free):=by
 unfold rl
 split
 ·rename_i hc;rw [gr,gr] at hc;exact .inr ⟨rfl,by simpa using hc.1.1⟩
 ·exact .inl rfl
theorem jV{α:Type}(p:Str×α)(r:List (Str×α))(x:Str):(p::r).lookup x=if (x == p.1)=true then some p.2 else r.lookup x:=by
 rw [show p =(p.1,p.2)from rfl,GD];cases x == p.1 <;> rfl
theorem qT{env:Env}:∀ {l:List (Str×NameKind)} {x:Str} {k:NameKind},(l.map (rl env)).lookup x=some k->(l.lookup x=some k\/(k=.cell/\l.lookup x=some .free))
 | [],x,k,h=>by simp at h
 | p::r,x,k,h=>by
  rw [gw,jV,zhX] at h;rw [jV]
  by_cases hx:(x == p.1)=true
  ·rw [if_pos hx] at h ⊢
   rcases zhy env p with e | ⟨e1,e2⟩
   ·rw [e] at h; exact .inl h
   ·rw [e1] at h; cases h;rw [e2];exact .inr ⟨rfl,rfl⟩
  ·rw [if_neg hx] at h ⊢;exact qT h
theorem YV{env:Env}:∀ {l:List (Str×NameKind)} {x:Str},l.lookup x=some .free->(l.map (rl env)).lookup x=some .cell\/(l.map (rl env)).lookup x=some .free
 | [],x,h=>by simp at h
 | p::r,x,h=>by
  rw [jV] at h;rw [gw,jV,zhX]
  by_cases hx:(x == p.1)=true
  ·rw [if_pos hx] at h ⊢
   rcases zhy env p with e | ⟨e1,e2⟩
   ·rw [e]; exact .inr h
   ·rw [e1]; exact .inl rfl
  ·rw [if_neg hx] at h ⊢;exact YV h
theorem zcP(B:BlkOk X own fre idx scope)(ok:X.Ok){n:Nat}{x:Str}{c:Addr}(h:(cellsFrom n scope.names (closOf X.env.cells scope.names [])).lookup x=some c) :
  ((x,c)∈cellsFrom n scope.names []/\(x,NameKind.cell)∈scope.names)\/((x,NameKind.free)∈scope.names/\X.env.cells.lookup x=some c):=by
 have h1:=mem_of_lookup h;rw [yl] at h1
 rcases wq.mp h1 with h1 | h1
 ·exact .inl ⟨h1,qu h1⟩
 ·rcases YC (B.cells ok) h1 with h1 | h1
  ·exact nomatch h1
  ·exact .inr h1
end
section
variable{prog:Program}{w:World}{A:Around}{E:Value->Shared->Prop}{R:Result->Shared->Prop}{s:Shared}
theorem zbG{elt target iter:Expr}{ifs:List Expr}{scope:Scope}{pos:Pos}{it acc:Value}{env:Env}(I:Nat->Shared->Prop)
  (turn:∀ n s,I n s->wpAny (model prog w) A (pyNext it) (fun r s₁=>match r with
   | none=>R (.ok .next) s₁
   | some v=>wpAny (model prog w) A (letOwnedTupleGo target it v) (fun _ s₂=>wpAny (model prog w) A (assign target env v) (fun _ s₃ =>
     wpAny (model prog w) A (forIn ifs true fun c r=>if r=true then do let ok ← isTrue c env (eval c env); pure (ForInStep.yield ok)else pure (ForInStep.yield r)) (fun ok s₄ =>
      if ok=true then wpAny (model prog w) A (eval elt env) (fun x s₅ =>
       wpAny (model prog w) A (call (.builtin "list.append") [acc,x]) (fun _ s₆=>∃ m,m<n/\I m s₆) (fun _ _=>False) s₅) (fun _ _=>False) s₄
      else ∃ m,m<n/\I m s₄) (fun _ _=>False) s₃) (fun _ _=>False) s₂) (fun _ _=>False) s₁) (fun _ _=>False) s)
  (n:Nat) (h:I n s) :
  codeAny (model prog w) A (.compLoop (.ListComp elt [⟨target,iter,ifs,0⟩] scope pos) 0 it acc env) R s:=by
 refine codeAny_loop rfl I (fun n s hI=>?_) n h;show wpAny _ A ((compTurn (.ListComp elt [⟨target,iter,ifs,0⟩] scope pos) 0 it acc env).onRaise (fun x=>do noteFrame x env; theTreesLotGoes x)) _ _ s;refine wpAny_noted ?_;rw [compTurn_list];refine wpAny_bind (wpAny_standAt (wpAny_bind (wpAny_mono (turn n s hI) (fun r s₁ h₁=>?_) fun _ _ h'=>h'.elim)));cases r with
 | none=>exact wpAny_pure h₁
 | some v =>
  refine wpAny_bind (wpAny_mono h₁ (fun _ s₂ h₂=>?_) fun _ _ h'=>h'.elim);refine wpAny_bind (wpAny_mono h₂ (fun _ s₃ h₃=>wpAny_bind (wpAny_mono h₃ (fun ok s₄ h₄=>?_) fun _ _ h'=>h'.elim)) fun _ _ h'=>h'.elim);cases ok with
  | false=>exact wpAny_pure ⟨rfl,h₄⟩
  | true =>
   exact wpAny_bind (wpAny_bind (wpAny_mono h₄ (fun x s₅ h₅=>wpAny_bind (wpAny_mono h₅ (fun _ s₆ h₆=>wpAny_pure (wpAny_pure ⟨rfl,h₆⟩)) fun _ _ h'=>h'.elim)) fun _ _ h'=>h'.elim))
end
section
variable{X:Cx}{own fre:List Str}{idx:List Nat}{scope:Scope}{pins:List (Addr×Obj)}{σ:St}{H:Hp}{s:Shared}
noncomputable abbrev bcells(X:Cx)(scope:Scope)(L:Addr):List (Str×Addr):=cellsFrom (L+1) scope.names (closOf X.env.cells scope.names [])
noncomputable abbrev dictO:Obj:={ cls:=.type "dict",data:=.dict #[] }
theorem ze7{own:Nat}{idx:List Nat}{σ:St}{i:Nat}{v:V}(h:(bst own idx σ)[i]?=some (some v)):∃ j k,i=own+j/\idx[j]?=some k/\σ[k]?=some (some v):=by
 unfold bst at h
 by_cases hi:i<own
 ·rw [vE (by simpa using hi)] at h;rw [ul] at h;rw [if_pos hi] at h;cases h
 ·rw [vw (by simpa using waG hi)] at h;rw [wQ,wg] at h;cases e:idx[i - own]? with
  | none=>rw [e] at h; cases h
  | some k =>
   rw [e] at h;refine⟨i - own,k,by omega,e,?_⟩;have h':some ((σ[k]?).join)=some (some v):=h;have h2:=Option.some.inj h';cases e2:σ[k]? with
   | none=>rw [e2] at h2; cases h2
   | some o=>rw [e2] at h2; rw [show o=some v from h2]
theorem zeZ(B:BlkOk X own fre idx scope)(I:Inv X pins σ H s){ex:List Addr}(hex:∀ b∈ex,FpOk X pins H b/\b<s.heap.objs.size) :
  Inv (blk X own fre scope s.heap.objs.size (bcells X scope s.heap.objs.size) s H ex (X.pn++pins)) [] (bst own.length idx σ) H { s with heap:=pushCells (s.heap.push dictO) scope.names }:=by
 have ok:=I.ok;have hsz:(s.heap.push dictO).objs.size=s.heap.objs.size+1:=Heap.size_push ..;have keep:∀ b o,s.heap.get? b=some o->(pushCells (s.heap.push dictO) scope.names).get? b=some o:=fun b o e=>pushCells_keeps _ _ b o (Heap.get?_push_of_some _ e)
 have cok:=cellsFrom_ok scope.names (s.heap.push dictO) (s.heap.objs.size+1) [] ⟨fun _ _ hm=>(nomatch hm),List.Pairwise.nil⟩ (by rw [hsz]; exact wu _);rw [hsz] at cok;have freeLt:∀ x c,X.env.cells.lookup x=some c->c<s.heap.objs.size:=fun x c e=>let ⟨_,h⟩:=I.cell x c e; h.lt
 have cellC:∀ x c,(bcells X scope s.heap.objs.size).lookup x=some c->(s.heap.objs.size+1<=c/\(pushCells (s.heap.push dictO) scope.names).IsCell c none/\(x,c)∈cellsFrom (s.heap.objs.size+1) scope.names []/\(x,NameKind.cell)∈scope.names)\/(X.env.cells.lookup x=some c/\c<s.heap.objs.size/\(x,NameKind.free)∈scope.names):=fun x c e=>by
  rcases zcP B ok e with⟨h1,h2⟩ | ⟨h1,h2⟩
  ·exact .inl ⟨(cok.empty x c h1).2,(cok.empty x c h1).1,h1,h2⟩
  ·exact .inr ⟨h2,freeLt x c h2,h1⟩
 have hfs:∀ b∈frs X.stack,b<s.heap.objs.size:=fun b hb=>by
  rcases wH.mp (I.stkSub b hb)with e | hb
  ·rw [e]; exact I.lt
  ·obtain⟨_,o,ho,_⟩:=I.ok.funs.mem hb;exact wV (Heap.lt_size ho) I.sz
 have OK:(blk X own fre scope s.heap.objs.size (bcells X scope s.heap.objs.size) s H ex (X.pn++pins)).Ok:=by
  refine⟨ok.mod,B.kind,ok.glob,ok.blt,wu _,?_,?_,?_,ok.hd,ok.frames,.inl rfl,?_,fun b o e=>I.bs b o e,wF ok.bsz I.sz,?_,?_,I.stack,I.stkFree⟩
  ·intro x y c e1 e2
   rcases cellC x c e1 with⟨l1,_,m1,_⟩ | ⟨f1,l1,_⟩ <;> rcases cellC y c e2 with⟨l2,_,m2,_⟩ | ⟨f2,l2,_⟩
   ·exact name_of_addr cok.apart m1 m2
   ·exact absurd (wV l2 (Gw l1)) (vT _)
   ·exact absurd (wV l1 (Gw l2)) (vT _)
   ·exact ok.inj x y c f1 f2
  ·intro x hk;have hk':(relabel scope X.env).names.lookup x=some .cell\/(relabel scope X.env).names.lookup x=some .free:=hk;have hor:(x,NameKind.cell)∈scope.names\/(x,NameKind.free)∈scope.names:=by
    rcases hk' with h | h
    ·rcases qT h with h | ⟨_,h⟩
     ·exact .inl (mem_of_lookup h)
     ·exact .inr (mem_of_lookup h)
    ·rcases qT h with h | ⟨h,_⟩
     ·exact .inr (mem_of_lookup h)
     ·cases h
   refine xu ?_;show ∃ c,(x,c)∈cellsFrom (s.heap.objs.size+1) scope.names (closOf X.env.cells scope.names []);rw [yl]
   rcases hor with h | h
   ·obtain⟨c,hc⟩:=qq (n:=s.heap.objs.size+1) h;exact⟨c,wE _ hc⟩
   ·obtain⟨c,hc⟩:=Zm (cells:=X.env.cells) (acc:=[]) h;exact⟨c,wy _ hc⟩
  ·intro x c hf e
   rcases cellC x c e with⟨l1,_⟩ | ⟨_,_,m1⟩
   ·show s.heap.objs.size<=c;omega
   ·have:=uG.mp B.ownB _ m1;have hf':own.contains x=true:=hf;rw [hf'] at this;simp at this
  ·intro b hb;obtain⟨⟨_,_,_,_,f4,_⟩,hlt⟩:=hex b hb;refine⟨wS hlt,fun x c e=>?_⟩
   rcases cellC x c e with⟨l1,_⟩ | ⟨f1,_,_⟩
   ·exact Ne.symm (wS (wV hlt (Gw l1)))
   ·exact f4 x c f1
  ·intro b o e hb;obtain⟨⟨_,_,_,f3,_,_⟩,_⟩:=hex b hb
   rcases f3 with f3 | f3
   ·exact ok.noex b o e f3
   ·exact absurd (Heap.lt_size (ok.bs b o e).1) (Nat.not_lt.mpr f3)
  ·intro b hb hm;obtain⟨⟨_,f1,f2,_⟩,_⟩:=hex b hb
   rcases wH.mp (I.stkSub b hm)with e | hm
   ·exact f1 e
   ·exact f2 hm
 refine⟨OK,rfl,I.bare,Un.kept keep,?_,?_,I.fresh,?_,?_,I.hok.kept keep,?_⟩
 ·refine⟨fun _=>none,(Heap.Ns.new s.heap (.type "dict")).keeps (pushCells_keeps _ _),fun i x v e1 e2 e3=>?_⟩;obtain⟨j,k,rfl,hj,hk⟩:=ze7 e2;have e1':(own++fre)[own.length+j]?=some x:=e1;rw [vw (waJ _ _),uV] at e1';have hz:(x,k)∈fre.zip idx:=by
   refine List.mem_iff_getElem?.mpr ⟨j,?_⟩;rw [uQ];exact⟨e1',hj⟩
  have hq:=uG.mp B.freB _ hz;rw [gr] at hq;have q1:scope.names.lookup x=some .free:=by simpa using hq.1
  have q2:X.N[k]?=some x:=by simpa using hq.2
  have kin:=B.freeC (mem_of_lookup q1) rfl;have vis:Vis X.env.scope x:=.inr kin;obtain⟨m,hn,hl⟩:=I.loc;obtain⟨u,r,look⟩:=hl k x v q2 hk vis;refine⟨u,r,?_⟩;obtain⟨c,hc,hcell⟩ : ∃ c,X.env.cells.lookup x=some c/\s.heap.IsCell c (some u):=by
   rcases look with⟨hk1,_⟩ | ⟨_,c,e,z⟩
   ·rcases kin with h | h <;>(rw [hk1] at h; cases h)
   ·exact⟨c,e,z⟩
  refine .inr ⟨YV q1,c,?_,hcell.keeps keep⟩;have hl2:∃ c',(bcells X scope s.heap.objs.size).lookup x=some c':=by
   refine xu ?_;show ∃ c,(x,c)∈cellsFrom (s.heap.objs.size+1) scope.names (closOf X.env.cells scope.names []);rw [yl];obtain⟨c,hc⟩:=Zm (cells:=X.env.cells) (acc:=[]) (mem_of_lookup q1);exact⟨c,wy _ hc⟩
  obtain⟨c',hc'⟩:=hl2
  rcases zcP B ok hc' with⟨_,h2⟩ | ⟨_,h2⟩
  ·exact nomatch zij B.nd h2 (mem_of_lookup q1)
  ·rw [hc] at h2;cases h2;exact hc'
 ·intro x c e
  rcases cellC x c e with⟨_,h,_⟩ | ⟨h,_,_⟩
  ·exact⟨none,h⟩
  ·obtain⟨v,z⟩:=I.cell x c h;exact⟨v,z.keeps keep⟩
 ·intro x c e
  rcases cellC x c e with⟨l,_⟩ | ⟨h,_,_⟩
  ·exact I.hok.fresh (by omega)
  ·exact I.freeC x c h
 ·intro p hp;rw [vP] at hp;obtain⟨h1,h2,h3,h4,h5⟩:=I.pin p hp;refine⟨keep _ _ h1,h2,wS (Heap.lt_size h1),fun hm=>?_,h5⟩
  rcases wH.mp (I.stkSub p.1 hm)with e | hm
  ·exact h3 e
  ·exact h4 hm
 ·show(bst own.length idx σ).length =(own++fre).length;unfold bst;rw [wx,wQ,wa,wx,B.len]
theorem ziw{L D:Addr}{cells:List (Str×Addr)}{s₀ s':Shared}{H₀ H':Hp}{fp:List Addr}{pl:List (Addr×Obj)}{σb:St}{ys:List V}{its:List Value}{n:Nat}(I:Inv X pins σ H₀ s₀)(I':Inv (blk X own fre scope L cells s₀ H₀ (D::fp) (X.pn++pins)) pl σb H' s')
  (hfp:∀ b∈fp,FpOk X pins H₀ b) (hD:FpOk X pins H₀ D) (hD':H' D=none) (hv:Vals ys its) (hz:ys.length<=sizeLine) (e:s'.heap.get? D=some { cls:=.type "list",data:=.seq its.toArray n }) :
  Inv X pins σ (upd H' D (.lst ys)) s':=by
 have u:=I'.base;have nD:H₀ D=none:=hD.1;refine I.call' (ch:=D::fp) (H':=upd H' D (.lst ys)) I'.os ⟨u.keep,u.slot,fun b o h1 h2 h3=>?_,u.there,fun b xs h=>?_,fun b o v h=>?_,fun b ps h=>?_⟩ (fun b o h=>?_) I'.bare fun b hb=>?_
 ·rw [zR (fun z=>h3 (by rw [z]; exact wm))];exact u.free b o h1 h2 h3
 ·rw [zR (yd h nD)]; exact u.tups b xs h
 ·rw [zR (yd h nD)]; exact u.frzs b o v h
 ·rw [zR (yd h nD)]; exact u.tbls b ps h
 ·by_cases hb:b=D
  ·subst hb;rw [zh] at h;cases h;exact⟨hz,its,n,hv,e⟩
  ·rw [zR hb] at h;exact(I'.hok b o h).stay (fun c v _ q=>q) (fun c q=>by rw [zR (yd q hD')]; exact q) fun c xs q=>by rw [zR (yd q hD')]; exact q
 ·rcases wH.mp hb with rfl | hb
  ·obtain⟨_,f1,_,f3,f4,f5⟩:=hD;exact⟨f3,f1,f4,f5⟩
  ·obtain⟨_,f1,_,f3,f4,f5⟩:=hfp b hb;exact⟨f3,f1,f4,f5⟩
noncomputable def GOwn(k:Nat)(g:TG):Prop:=∀ v σ H Q,g v σ H Q->g v σ H fun σ' H'=>Q σ' H'/\σ'.drop k=σ.drop k/\σ'.length=σ.length
noncomputable def GOwns(k:Nat)(g:TGs):Prop:=∀ v σ H Q,g v σ H Q->g v σ H fun σ' H'=>Q σ' H'/\σ'.drop k=σ.drop k/\σ'.length=σ.length
theorem zj{k i:Nat}(h:i<k):GOwn k (gName i):=fun v σ H Q q=>⟨q,by rw [List.drop_set_of_lt h],vf⟩
theorem jM{k:Nat}:GOwns k gNil:=fun v σ H Q ⟨e,q⟩=>⟨e,q,rfl,rfl⟩
theorem yu{k:Nat}{t:TG}{u:TGs}(ht:GOwn k t)(hm:∀ v σ H Q Q',(∀ σ' H',Q σ' H'->Q' σ' H')->t v σ H Q->t v σ H Q')(hu:GOwns k u):GOwns k (gCons t u):=fun vs σ H Q ⟨v,r,e,q⟩ =>
 ⟨v,r,e,hm _ _ _ _ _ (fun σ' H' ⟨q1,q2,q3⟩=>by
  have q4:=hu _ _ _ _ q1;rw [q2,q3] at q4;exact q4) (ht _ _ _ _ q)⟩
theorem yv{i:Nat}:∀ v σ H (Q Q':St->Hp->Prop),(∀ σ' H',Q σ' H'->Q' σ' H')->gName i v σ H Q->gName i v σ H Q':=fun _ _ _ _ _ h q=>h _ _ q
theorem Zc{K:PySem.W.Frag}{k n:Nat}{t:TGs}(h:GOwns k t):GOwn k (gTup K n t):=fun v σ H Q ⟨a,xs,e,h1,h2,q⟩=>⟨a,xs,e,h1,h2,h _ _ _ _ q⟩
theorem zc0{own:Nat}{idx:List Nat}{σ σ':St}(hd:σ'.drop own =(bst own idx σ).drop own)(i:Nat)(v:V)(h:(bst own idx σ)[i]?=some (some v)):σ'[i]?=some (some v):=by
 obtain⟨j,k,rfl,_,_⟩:=ze7 h;rw [← gW,hd,gW];exact h
noncomputable def tCompW(own:Nat)(idx:List Nat)(wi:TI)(g:TG)(tt:TT)(te:TE)(R:List V->Hp->Prop):St->Hp->Prop:=fun σ H=>wi σ H fun J H1=>∃ W:Nat->Nat->List V->Hp->Prop,(∃ m,W 0 m [] H1)/\∀ i m ys H,W i m ys H ->
 (J.stop i H/\ys.length<=sizeLine/\R ys H) \/
 (J.go i H/\ys.length<sizeLine/\∀ x H',J.yld i H x H'->g x (bst own idx σ) H' fun σ2 H2=>tt σ2 H2 fun b H3=>if b=true then te σ2 H3 fun y H4=>∃ m',m'<m/\W (i+1) m' (ys++[y]) H4 else ∃ m',m'<m/\W (i+1) m' ys H3)
noncomputable def PTs(Y:Cx)(ifs:List Expr)(t:TT):Prop:=∀(pins:List (Addr×Obj))(s:Shared)(σ:St)(H:Hp)(Q:Bool->Hp->Prop),Inv Y pins σ H s->t σ H Q ->
 wpAny (model Y.prog Y.w) Y.A (forIn ifs true fun c r=>if r=true then do let ok ← isTrue c Y.env (eval c Y.env); pure (ForInStep.yield ok)else pure (ForInStep.yield r)) (TP Y pins σ Q) Y.xe s
noncomputable def tTrue:TT:=fun _ H Q=>Q true H
theorem zL{Y:Cx}:PTs Y [] tTrue:=fun pins s σ H Q I h=>wpAny_tests_nil ⟨H,I,h⟩
theorem qD{Y:Cx}{c:Expr}{t:TT}(h:PT Y c t):PTs Y [c] t:=fun pins s σ H Q I hq=>wpAny_tests_one (h pins s σ H Q I hq)
theorem zcH{elt tg iter:Expr}{ifs:List Expr}{pos:Pos}{wi:TI}{g:TG}{tt:TT}{te:TE}{use:Option (Value->Sem Unit)}{R:List V->Hp->Prop}{Q:Value->Shared->Prop}(B:BlkOk X own fre idx scope)(hc:X.calm=true)(hi:PI X tg iter wi)(hg:GOwn own.length g)
  (hb:∀(L:Addr)(cells:List (Str×Addr))(s₀:Shared)(H₀:Hp)(ex:List Addr)(pn:List (Addr×Obj)),PG (blk X own fre scope L cells s₀ H₀ ex pn) tg g/\PTs (blk X own fre scope L cells s₀ H₀ ex pn) ifs tt/\PE (blk X own fre scope L cells s₀ H₀ ex pn) elt te)
  (hs:∀ x,foldedSetIterable iter X.env x=pure x) (I:Inv X pins σ H s) (h:tCompW own.length idx wi g tt te R σ H)
  (hq:∀(ys:List V)(H':Hp)(s':Shared)(L D:Addr)(m:Str->Option Value),R ys H'->H' D=none->Inv X pins σ (upd H' D (.lst ys)) s'->s'.heap.Ns L m->upd H' D (.lst ys) L=none->FpOk X pins (upd H' D (.lst ys)) L ->
   compPost (model X.prog X.w) X.A X.xe use Q (.ref D) L (.ok .next) s') :
  wpAny (model X.prog X.w) X.A (comprehension (.ListComp elt [⟨tg,iter,ifs,0⟩] scope pos) scope X.env (firstIterPos [⟨tg,iter,ifs,0⟩] pos) (newList []) false (eval iter X.env) use) Q X.xe s:=by
 have hnames:∀ x∈scope.names,x.2=.local->scope.names.lookup x.1=some .local:=fun x hx hl=>by
  have:=uG.mp B.loc x hx;rw [hl] at this
  simpa using this
 refine wpAny_comprehension_free (use:=use) rfl hs (zaf (B.cells I.ok)) B.kind hnames (wpAny_mono (hi pins s σ H _ I h) (fun v s1 h1=>wpAny_mono h1 (fun itv s2 h2=>?_) fun _ _ e=>e) fun _ _ e=>e);obtain⟨it,fp,tn,J,H2,rfl,I2,T,st2,f2,W,⟨m0,w0⟩,turn⟩:=h2;refine wpAny_newObj_type ?_;generalize hs3:({ s2 with heap:=s2.heap.push { cls:=.type "list",dict:=none,data:=.seq ([]:List Value).toArray } }:Shared)=s3;have hD3:s3.heap.get? s2.heap.objs.size=some { cls:=.type "list",data:=.seq ([]:List Value).toArray 0 }:=by rw [← hs3]; exact Heap.get?_push_size _ rfl
 have keep23:∀ b o,s2.heap.get? b=some o->s3.heap.get? b=some o:=fun b o e=>by rw [← hs3]; exact Heap.get?_push_of_some _ e
 have I3:Inv X pins σ H2 s3:=by rw [← hs3]; exact I2.kept (t':=s2.toks) fun b o e=>Heap.get?_push_of_some _ e
 have sz3:s3.heap.objs.size=s2.heap.objs.size+1:=by rw [← hs3]; exact Heap.size_push ..
 generalize hD:s2.heap.objs.size=D at *;have nD:H2 D=none:=by rw [← hD]; exact I2.fresh
 have okD:FpOk X pins H2 D:=I2.fpOk (by rw [hD]; exact wu _) nD;have ltfp:∀ b∈fp,b<D:=fun b hb=>by
  obtain⟨o,ho,_⟩:=T.obj _ _ st2 b hb;rw [← hD]; exact Heap.lt_size ho
 simp only [newFunctionEnv,Option.isSome_some,if_true];refine wpAny_bind (wpAny_alloc ?_);refine wpAny_bind (wpAny_layCells _ (fun name kind cells=>by cases hkc:kind == NameKind.cell <;> simp [hkc]) _ _ _ _ ?_);refine wpAny_bind (wpAny_pure (wpAny_pure ?_));have hL1:(s3.heap.push dictO).objs.size=s3.heap.objs.size+1:=Heap.size_push ..;have I4:=zeZ (ex:=D::fp) B I3 (fun b hb=>by
  rcases wH.mp hb with rfl | hb
  ·exact⟨okD,by rw [sz3]; exact vS _⟩
  ·exact⟨f2 b hb,by rw [sz3]; exact uy (ltfp b hb)⟩)
 generalize hs4:({ s3 with heap:=pushCells (s3.heap.push dictO) scope.names }:Shared)=s4 at I4;have keep34:∀ b o,s3.heap.get? b=some o->s4.heap.get? b=some o:=fun b o e=>by rw [← hs4]; exact pushCells_keeps _ _ b o (Heap.get?_push_of_some _ e)
 generalize hY:blk X own fre scope s3.heap.objs.size (bcells X scope s3.heap.objs.size) s3 H2 (D::fp) (X.pn++pins)=Y at I4;have YA:Y.A=X.A:=by rw [← hY]; rfl
 have Yp:Y.prog=X.prog:=by rw [← hY]; rfl
 have Yw:Y.w=X.w:=by rw [← hY]; rfl
 have YK:Y.K=X.K:=by rw [← hY]; rfl
 have Yc:Y.calm=true:=by rw [← hY]; exact hc
 have Yx:Y.xe=fun _ _=>False:=by rw [← hY]; rfl
 have Yex:Y.ex=D::fp:=by rw [← hY]; rfl
 have Ypn:Y.pn=X.pn++pins:=by rw [← hY]; rfl
 have YL:Y.env.locals=s3.heap.objs.size:=by rw [← hY]; rfl
 have hbY:PG Y tg g/\PTs Y ifs tt/\PE Y elt te:=by rw [← hY]; exact hb ..
 have nDY:D≠Y.env.locals:=by rw [YL,sz3]; exact wS (vS _)
 have okY:=I4.ok;have fsD:D∉Y.fs:=okY.exfs D (by rw [Yex]; exact wm);have pnD:∀ p∈Y.pn,p.1≠D:=by rw [Ypn]; exact okD.2.2.2.2.2
 have FO:∀ {H':Hp} {o:Obj},(∀ b∈fp,H' b=none)->∀ b∈fp,FpOk Y [(D,o)] H' b:=fun {H' o} hn b hb=>by
  have m:b∈Y.ex:=by rw [Yex]; exact wr _ hb
  refine⟨hn b hb,(okY.exf b m).1,okY.exfs b m,.inl m,(okY.exf b m).2,fun p hp=>?_⟩
  rcases wq.mp hp with hp | hp
  ·rw [Ypn] at hp;exact(f2 b hb).2.2.2.2.2 p hp
  ·have e:p =(D,o):=by simpa using hp
   rw [e];exact Ne.symm (wS (ltfp b hb))
 have pinD:∀ {pl:List (Addr×Obj)} {σ':St} {H':Hp} {s':Shared} {o:Obj},Inv Y pl σ' H' s'->s'.heap.get? D=some o->H' D=none->(∀ v,o.data≠.cell v)->Inv Y [(D,o)] σ' H' s':=fun {pl σ' H' s' o} I' e hn hd=>I'.pins_of fun p hp=>by
  have e':p =(D,o):=by simpa using hp
  subst e';exact⟨e,hn,nDY,fsD,hd⟩
 have loop:codeAny (model X.prog X.w) X.A (.compLoop (.ListComp elt [⟨tg,iter,ifs,0⟩] scope pos) 0 (.ref it) (.ref D) Y.env) (compPost (model X.prog X.w) X.A X.xe use Q (.ref D) s3.heap.objs.size) s4:=by
  refine zbG (fun n s'=>∃ i ys its k H',Inv Y [(D,({ cls:=.type "list",data:=.seq (its:List Value).toArray k }:Obj))] (bst own.length idx σ) H' s'/\tn i s'.heap/\(∀ b∈fp,H' b=none)/\Vals ys its/\ys.length<=sizeLine/\W i n ys H') ?_ m0
   ⟨0,[],[],0,H2,pinD I4 (keep34 _ _ hD3) nD (fun v z=>nomatch z),T.keep _ _ _ st2 fun b _ o e=>keep34 _ _ (keep23 _ _ e),fun b hb=>(f2 b hb).1,.nil,vz _,w0⟩
  rintro n s' ⟨i,ys,its,k,H',I',st',fr',hv,hz,w'⟩
  have pD:=I'.pin _ (wy _ wm)
  rcases turn i n ys H' w' with⟨stop,hl,hR⟩ | ⟨go,hl,step⟩
  ·have z:=T.done Y Yp Yw YK Yc i _ s' _ H' (fun _ _=>False) I' (FO fr') st' stop;rw [YA] at z;refine thn z fun r s5 ⟨hr,I5⟩=>?_
   subst hr;have pD5:=I5.pin _ (wy _ wm);have I5':=I5;rw [← hY] at I5';have E:=ziw I3 I5' (fun b hb=>f2 b hb) okD pD5.2.1 hv hl pD5.1;obtain⟨m5,hm5,_⟩:=I5.loc;rw [YL] at hm5;have nL:H' s3.heap.objs.size=none:=by rw [← YL]; exact I5.free
   have nL':upd H' D (.lst ys) s3.heap.objs.size=none:=by rw [zR (by rw [← YL]; exact Ne.symm nDY)]; exact nL
   exact hq ys H' s5 _ D m5 hR pD5.2.1 E hm5 nL' (I3.fpOk (wu _) nL')
  ·have z:=T.item Y Yp Yw YK Yc i _ s' _ H' (fun _ _=>False) I' (FO fr') st' go;rw [YA] at z;refine thn z fun r s5 ⟨u,hr,h5⟩=>?_
   subst hr;refine thn h5 fun _ s6 ⟨x,H6,I6,r6,y6,st6,fr6⟩=>?_
   have I6':=I6.pinned (FO fr6) (T.obj _ _ st6);have z7:=hbY.1 _ s6 _ H6 x u _ I6' r6 (hg _ _ _ _ (step x H6 y6));rw [Yp,Yw,YA,Yx] at z7;refine thn z7 fun _ s7 ⟨σ7,H7,I7,q7,d7,l7⟩=>?_
   have z8:=hbY.2.1 _ s7 σ7 H7 _ I7 q7;rw [Yp,Yw,YA,Yx] at z8;refine thn z8 fun ok s8 ⟨H8,I8,q8⟩=>?_
   have tnK:∀ {σ9:St} {H9:Hp} {s9:Shared},Inv Y ([(D,({ cls:=.type "list",data:=.seq its.toArray k }:Obj))]++pinsAt fp s6.heap) σ9 H9 s9->tn (i+1) s9.heap/\∀ b∈fp,H9 b=none:=fun I9 =>
    ⟨T.keep _ _ _ st6 fun b hb o e=>(I9.pin (b,o) (wy _ (wy _ (qY hb e)))).1,fun b hb=>by
     obtain⟨o,e,d⟩:=T.obj _ _ st6 b hb;exact(I9.pin (b,o) (wy _ (wy _ (qY hb e)))).2.1⟩
   cases ok with
   | false =>
    rw [if_neg wO] at q8 ⊢;obtain⟨m',hm,w8⟩:=q8;obtain⟨t8,n8⟩:=tnK I8;exact⟨m',hm,i+1,ys,its,k,H8,I8.unpinned.weak l7.symm (zc0 d7),t8,n8,hv,hz,w8⟩
   | true =>
    rw [if_pos rfl] at q8 ⊢;have z9:=hbY.2.2 _ s8 σ7 H8 _ I8 q8;rw [Yp,Yw,YA,Yx] at z9;refine thn z9 fun y s9 ⟨v9,H9,I9,r9,m',hm,w9⟩=>?_
    obtain⟨t9,n9⟩:=tnK I9;have pD9:=I9.pin (D,{ cls:=.type "list",data:=.seq its.toArray k }) (wy _ (wE _ wm));refine append_at pD9.1 (fun h10 sb hD10=>?_) (by rw [wK,← hv.length]; exact ur hl);have I9a:Inv Y [] σ7 H9 s9:=I9.pins_of fun p hp=>nomatch hp
    have I10:Inv Y [] σ7 H9 { s9 with heap:=h10 }:=I9a.turned (t':=s9.toks) (it:=D) (fun b o hb e=>sb.extBut b o hb e) pD9.2.1 nDY (.inl (by rw [Yex]; exact wm)) (okY.exf D (by rw [Yex]; exact wm)).2 (fun p hp=>by
     rw [vP] at hp;exact pnD p hp)
    refine⟨m',hm,i+1,ys++[v9],its++[y],k+1,H9,pinD (I10.weak l7.symm (zc0 d7)) ?_ pD9.2.1 (fun v z=>nomatch z),?_,n9,hv.append (.cons r9 .nil),?_,w9⟩
    ·show h10.get? D=_;rw [hD10,List.push_toArray]
    ·exact T.keep _ _ _ t9 fun b hb o e=>sb.extBut b o (wS (ltfp b hb)) e
    ·rw [wx,GZ]; exact hl
 have goal:codeAny (model X.prog X.w) X.A (.compStart (.ListComp elt [⟨tg,iter,ifs,0⟩] scope pos) 0 (.ref it) (.ref D) Y.env) (compPost (model X.prog X.w) X.A X.xe use Q (.ref D) s3.heap.objs.size) s4 :=
  codeAny_compStart_list loop (T.self X.A 0 s4 _ _ (T.keep _ _ _ st2 fun b _ o e=>keep34 _ _ (keep23 _ _ e)) loop)
 rw [← hY] at goal;have hsz:({ s3 with heap:=s3.heap.push { cls:=.type "dict",data:=.dict #[] } }:Shared).heap.objs.size=s3.heap.objs.size+1:=Heap.size_push ..;rw [hsz]
 first
  | exact goal
  | (rw [← hs4] at goal; exact goal)
end
noncomputable def tComp(own:Nat)(idx:List Nat)(wi:TI)(g:TG)(tt:TT)(te:TE):TE:=fun σ H Q=>tCompW own idx wi g tt te (fun ys H'=>∀ p,H' p=none->Q (.ref p) (upd H' p (.lst ys))) σ H
section
variable{X:Cx}{scope:Scope}
theorem zN{elt tg iter:Expr}{ifs:List Expr}{pos:Pos}{wi:TI}{g:TG}{tt:TT}{te:TE}(own fre:List Str)(idx:List Nat)(B:BlkOk X own fre idx scope)(hc:X.calm=true)(hi:PI X tg iter wi)(hg:GOwn own.length g)
  (hb:∀(L:Addr)(cells:List (Str×Addr))(s₀:Shared)(H₀:Hp)(ex:List Addr)(pn:List (Addr×Obj)),PG (blk X own fre scope L cells s₀ H₀ ex pn) tg g/\PTs (blk X own fre scope L cells s₀ H₀ ex pn) ifs tt/\PE (blk X own fre scope L cells s₀ H₀ ex pn) elt te)
  (hs:∀ x,foldedSetIterable iter X.env x=pure x:=by intro _; rfl):PE X (.ListComp elt [⟨tg,iter,ifs,0⟩] scope pos) (tComp own.length idx wi g tt te):=by
 intro pins s σ H Q I h;rw [eval_ListComp];refine zcH (use:=none) B hc hi hg hb hs I h fun ys H' s' L D m hR hD I' hn nL fL=>?_
 refine⟨m,hn,fun h' hs'=>?_⟩;obtain⟨f0,f1,f2,f3,f4,f5⟩:=fL;exact⟨.ref D,_,I'.turned (t':=s'.toks) (it:=L) (fun b o hb e=>hs'.extBut b o hb e) f0 f1 f3 f4 f5,rfl,hR D hD⟩
noncomputable def tAsgC(own:Nat)(idx:List Nat)(wi:TI)(g:TG)(tt:TT)(te:TE)(i:Nat):TS:=fun D σ H=>tCompW own idx wi g tt te (fun ys H'=>∀ p,H' p=none->D.nx (σ.set i (some (.ref p))) (upd H' p (.lst ys))) σ H
theorem xY{elt tg iter:Expr}{ifs:List Expr}{pos pos' spos:Pos}{wi:TI}{g:TG}{tt:TT}{te:TE}{i:Nat}{x:Str}(hN:X.N.Nodup)(hi':X.N[i]?=some x)(hx:X.env.scope.names.lookup x=some .local)(own fre:List Str)(idx:List Nat)(B:BlkOk X own fre idx scope)(hc:X.calm=true)(hi:PI X tg iter wi)(hg:GOwn own.length g)
  (hb:∀(L:Addr)(cells:List (Str×Addr))(s₀:Shared)(H₀:Hp)(ex:List Addr)(pn:List (Addr×Obj)),PG (blk X own fre scope L cells s₀ H₀ ex pn) tg g/\PTs (blk X own fre scope L cells s₀ H₀ ex pn) ifs tt/\PE (blk X own fre scope L cells s₀ H₀ ex pn) elt te)
  (hsw:swapsWith (.ListComp elt [⟨tg,iter,ifs,0⟩] scope pos) (some (.Name x pos')) spos.line X.env=pure true:=by rfl)
  (hs:∀ x,foldedSetIterable iter X.env x=pure x:=by intro _; rfl):PS X (.Assign [.Name x pos'] (.ListComp elt [⟨tg,iter,ifs,0⟩] scope pos) spos) (tAsgC own.length idx wi g tt te i):=by
 intro pins s σ H D I h;rw [exec_Assign_Name_used _ _ _ _ hsw];refine wpAny_bind (wpAny_standAt (wpAny_bind ?_));show wpAny _ X.A (do let _ ← comprehension (.ListComp elt [⟨tg,iter,ifs,0⟩] scope pos) scope X.env _ (newList []) false (eval iter X.env) (some (assign (.Name x pos') X.env))) _ _ s;refine wpAny_bind (wpAny_mono (zcH (use:=some (assign (.Name x pos') X.env)) (Q:=fun _ s'=>SP X pins D .next s') B hc hi hg hb hs I h fun ys H' s' L Da m hR hD I' hn nL fL=>?_) (fun _ s' hq=>wpAny_pure (wpAny_pure hq)) fun _ _ e=>e);obtain⟨f0,f1,f2,f3,f4,f5⟩:=fL;show wpAny _ X.A (assign (.Name x pos') X.env (.ref Da)) _ _ _;refine wpAny_assign_Name (zbQ I' hN hi' (.inl hx) (show RelV (.ref Da) (.ref Da)from rfl) (fun s2 I2 ⟨a,sb,ha⟩=>?_) (.inr hx));have hLa:L≠a:=by
  rcases ha with rfl | ha
  ·exact f1
  ·exact Ne.symm (f4 x a ha)
 refine⟨m,hn.sameBut sb hLa,fun h' hs'=>?_⟩;exact⟨_,_,I2.turned (t':=s2.toks) (it:=L) (fun b o hb e=>hs'.extBut b o hb e) f0 f1 f3 f4 f5,hR Da hD⟩
end
end L2
namespace L2
open PySem PySem.Spec PyProof.Rows
mutual
noncomputable def Rp(H:Hp):PyData->V->Prop
 | .none,v=>v=.non
 | .bool b,v=>v=.bl b
 | .int i,v=>v=.int i
 | .str x,v=>v=.str x
 | .list ds,v=>∃ a xs,v=.ref a/\H a=some (.lst xs)/\Rps H ds xs
 | .tuple ds,v=>∃ a xs,v=.ref a/\H a=some (.tup xs)/\Rps H ds xs
 | .dict _,_=>False
noncomputable def Rps(H:Hp):List PyData->List V->Prop
 | [],xs=>xs=[]
 | d::ds,xs=>∃ x r,xs=x::r/\Rp H d x/\Rps H ds r
end
mutual
theorem Rp.mono{H H':Hp}(g:Same H H'):∀(d:PyData)(v:V),Rp H d v->Rp H' d v
 | .none,_,h=>by simpa only [Rp] using h
 | .bool _,_,h=>by simpa only [Rp] using h
 | .int _,_,h=>by simpa only [Rp] using h
 | .str _,_,h=>by simpa only [Rp] using h
 | .list ds,v,h=>by
  simp only [Rp] at h ⊢;obtain⟨a,xs,e,h1,h2⟩:=h;exact⟨a,xs,e,g _ _ h1,Rps.mono g ds xs h2⟩
 | .tuple ds,v,h=>by
  simp only [Rp] at h ⊢;obtain⟨a,xs,e,h1,h2⟩:=h;exact⟨a,xs,e,g _ _ h1,Rps.mono g ds xs h2⟩
 | .dict _,_,h=>by simp only [Rp] at h
theorem Rps.mono{H H':Hp}(g:Same H H'):∀(ds:List PyData)(xs:List V),Rps H ds xs->Rps H' ds xs
 | [],xs,h=>by simpa only [Rps] using h
 | d::ds,xs,h=>by
  simp only [Rps] at h ⊢;obtain⟨x,r,e,h1,h2⟩:=h;exact⟨x,r,e,Rp.mono g d x h1,Rps.mono g ds r h2⟩
end
section
variable{X:Cx}{pins:List (Addr×Obj)}{σ:St}{H:Hp}{s:Shared}
mutual
theorem Rp.reads(I:Inv X pins σ H s):∀(d:PyData)(v:V)(u:Value),Rp H d v->RelV v u->∃ as,Reads s.heap u d as
 | .none,v,u,h,r=>by
  simp only [Rp] at h;subst h;cases (show u=Value.none from r);exact⟨_,.none⟩
 | .bool b,v,u,h,r=>by
  simp only [Rp] at h;subst h;cases (show u=Value.bool b from r);exact⟨_,.bool b⟩
 | .int i,v,u,h,r=>by
  simp only [Rp] at h;subst h;obtain⟨t,e⟩:=(show ∃ t,u=Value.int i t from r);subst e;exact⟨_,.int i t⟩
 | .str x,v,u,h,r=>by
  simp only [Rp] at h;subst h;obtain⟨t,e⟩:=(show ∃ t,u=Value.str x t from r);subst e;exact⟨_,.str x t⟩
 | .list ds,v,u,h,r=>by
  simp only [Rp] at h;obtain⟨a,xs,e,h1,h2⟩:=h;subst e;cases (show u=Value.ref a from r);obtain⟨_,its,n,hv,hg⟩:=(show ObjOk X.prog X.w H s.heap a (.lst xs)from I.hok a _ h1);obtain⟨as,q⟩:=Rps.reads I ds xs its h2 hv;exact⟨_,.list hg rfl rfl q⟩
 | .tuple ds,v,u,h,r=>by
  simp only [Rp] at h;obtain⟨a,xs,e,h1,h2⟩:=h;subst e;cases (show u=Value.ref a from r);obtain⟨_,its,hv,o,hg,hc,n,hd⟩:=(show ObjOk X.prog X.w H s.heap a (.tup xs)from I.hok a _ h1);obtain⟨as,q⟩:=Rps.reads I ds xs its h2 hv;exact⟨_,.tuple hg hc hd q⟩
 | .dict _,v,u,h,r=>by simp only [Rp] at h
theorem Rps.reads(I:Inv X pins σ H s):∀(ds:List PyData)(xs:List V)(us:List Value),Rps H ds xs->Vals xs us->∃ as,ReadsAll s.heap us ds as
 | [],xs,us,h,r=>by
  simp only [Rps] at h;subst h;cases r;exact⟨_,.nil⟩
 | d::ds,xs,us,h,r=>by
  simp only [Rps] at h;obtain⟨x,rr,e,h1,h2⟩:=h;subst e;cases r with
  | cons r1 r2 =>
   obtain⟨as,q1⟩:=Rp.reads I d x _ h1 r1;obtain⟨bs,q2⟩:=Rps.reads I ds rr _ h2 r2;exact⟨_,.cons q1 q2⟩
end
noncomputable def rEqD(f:Bool->Bool):R2:=fun x y H Q=>∃ dx dy,Rp H dx x/\Rp H dy y/\dx.canLay0=true/\dy.canLay0=true/\min dx.depth dy.depth<=60/\Q (.bl (f (PyData.eqv dx dy))) H
theorem zhG{k:Nat}(hr:Room k X.A):OpR X (compareOp .Eq) (rEqD id):=by
 intro pins s σ H x y v u Q I rx ry h;obtain⟨dx,dy,h1,h2,l1,l2,hd,q⟩:=h;obtain⟨as,r1⟩:=Rp.reads I dx x v h1 rx;obtain⟨bs,r2⟩:=Rp.reads I dy y u h2 ry;exact SeqAt.compareEq_reads r1 r2 l1 l2 (by have:=hr.units; omega) ⟨.bl _,H,I,rfl,q⟩
theorem Zs{k:Nat}(hr:Room k X.A):OpR X (compareOp .NotEq) (rEqD not):=by
 intro pins s σ H x y v u Q I rx ry h;obtain⟨dx,dy,h1,h2,l1,l2,hd,q⟩:=h;obtain⟨as,r1⟩:=Rp.reads I dx x v h1 rx;obtain⟨bs,r2⟩:=Rp.reads I dy y u h2 ry;exact SeqAt.compareNe_reads r1 r2 l1 l2 (by have:=hr.units; omega) ⟨.bl _,H,I,rfl,q⟩
end
noncomputable def Itz(K:PySem.W.Frag)(a b:Addr):It :=
 ⟨fun i H=>∃ xs ys x y,SqL K H a xs/\SqL K H b ys/\xs[i]?=some x/\ys[i]?=some y,
   fun i H v H'=>∃ T x y,v=.ref T/\H T=none/\H'=upd H T (.tup [x,y])/\(∀ xs,SqL K H a xs->xs[i]?=some x)/\(∀ ys,SqL K H b ys->ys[i]?=some y),
   fun i H=>∃ xs ys,SqL K H a xs/\SqL K H b ys/\(xs.length<=i\/ys.length<=i)⟩
noncomputable def ZipAt(z TI TO i1 i2 a b:Addr)(i:Nat)(h:Heap):Prop:=IsZip h z TI TO .none/\IsPair h TI (.ref i1) (.ref i2)/\(∃ u v,IsPair h TO u v)/\h.IsListIter i1 a i/\h.IsListIter i2 b i
theorem zgw{P:Program}{w:World}{K:PySem.W.Frag}{elts:List Expr}{k1:Nat}{pos:Pos}(z TI TO i1 i2 a b:Addr)(D:ZipApart z TI TO i1 i2 a b) :
  Turn P w K (.Tuple elts k1 pos) (Itz K a b) [z,TI,TO,i1,i2] z (ZipAt z TI TO i1 i2 a b) where
 mem:=by simp
 obj:=fun i h st c hc=>by
  obtain⟨hz,hTI,⟨u,v,hTO⟩,⟨o1,e1,_,d1⟩,⟨o2,e2,_,d2⟩⟩:=st;simp only [wH,vn,or_false] at hc
  rcases hc with rfl | rfl | rfl | rfl | rfl
  ·exact⟨_,hz,fun v z=>nomatch z⟩
  ·exact⟨_,hTI,fun v z=>nomatch z⟩
  ·exact⟨_,hTO,fun v z=>nomatch z⟩
  ·exact⟨o1,e1,fun v z=>by rw [d1] at z; cases z⟩
  ·exact⟨o2,e2,fun v z=>by rw [d2] at z; cases z⟩
 keep:=fun i h h' st k=>by
  obtain⟨hz,hTI,⟨u,v,hTO⟩,h1,h2⟩:=st;exact⟨k z (by simp) _ hz,k TI (by simp) _ hTI,⟨u,v,k TO (by simp) _ hTO⟩,h1.at fun o e=>k i1 (by simp) o e,h2.at fun o e=>k i2 (by simp) o e⟩
 item:=by
  intro X hP hw hK hc i pins s σ H E I hf st hg;subst hP hw hK;obtain⟨hz,hTI,⟨u0,v0,hTO⟩,h1,h2⟩:=st;obtain⟨xs,ys,x,y,q1,q2,ex,ey⟩:=hg;obtain⟨its1,rv1,p1,_⟩:=I.list q1;obtain⟨its2,rv2,p2,_⟩:=I.list q2;obtain⟨u,hu,ru⟩:=rv1.get ex;obtain⟨u',hu',ru'⟩:=rv2.get ey;refine wpAny_pyNext_zip_item D hz hTI hTO h1 h2 p1.isList p2.isList (x:=u) (y:=u') (by simpa using hu) (by simpa using hu') fun h' z' TO' i1' i2' T' sz keep=>?_
  refine⟨_,rfl,wpAny_letOwnedTupleGo_zip (s:={ s with heap:=h' }) z' fun h'' z'' sb=>?_⟩;have hlt:∀ c o,s.heap.get? c=some o->c<s.heap.objs.size:=fun c o e=>Heap.lt_size e
  have zlt:=hlt _ _ hz;have TOlt:=hlt _ _ hTO;have TIlt:=hlt _ _ hTI;have i1lt:i1<s.heap.objs.size:=let ⟨o,e,_⟩:=h1; hlt _ _ e
  have i2lt:i2<s.heap.objs.size:=let ⟨o,e,_⟩:=h2; hlt _ _ e
  have fz:=hf z (by simp);have fTO:=hf TO (by simp);have f1:=hf i1 (by simp);have f2:=hf i2 (by simp);have nT:H s.heap.objs.size=none:=I.fresh;have keep2:∀ c o,c≠z->c≠TO->c≠i1->c≠i2->s.heap.get? c=some o->h''.get? c=some o:=fun c o c1 c2 c3 c4 e=>sb.extBut c o c1 (keep c o c1 c2 c3 c4 e)
  have hT:h''.get? s.heap.objs.size=some { cls:=.type "tuple",data:=.seq #[u,u'] }:=sb.extBut _ _ (wau zlt) T';have TOK:IsTup h'' s.heap.objs.size [u,u'].toArray:=⟨_,hT,rfl,_,rfl⟩;refine⟨.ref s.heap.objs.size,upd H s.heap.objs.size (.tup [x,y]),?_,rfl,⟨_,x,y,rfl,nT,rfl,fun zs h=>by rw [I.list_inj h q1]; exact ex,fun zs h=>by rw [I.list_inj h q2]; exact ey⟩,⟨z'',?_,⟨u,u',?_⟩,?_,?_⟩,?_⟩
  ·have nch:∀ c,H c≠none->c≠z/\c≠TO/\c≠i1/\c≠i2:=fun c hc=>⟨fun e=>hc (by rw [e]; exact fz.1),fun e=>hc (by rw [e]; exact fTO.1),fun e=>hc (by rw [e]; exact f1.1),fun e=>hc (by rw [e]; exact f2.1)⟩
   refine Inv.step (s:=s) (g':=s.gens) (d':=s.drawn) (t':=s.toks) (ch:=[z,TO,i1,i2]) (h':=h'') I (fun b hb=>?_) (fun b o _ _ hc e _=>?_) (fun b o _ _ hc e _=>⟨o.slots,?_⟩) (fun b o _ e n=>?_) (fun b o hc e=>⟨o,?_⟩) (fun b xs e=>?_) (fun b o v e=>?_) (fun b ps e=>⟨#[],?_⟩) (fun m hm=>?_) (fun b o e=>?_) I.bare
   ·simp only [wH,vn,or_false] at hb
    rcases hb with rfl | rfl | rfl | rfl
    ·exact⟨fz.2.2.2.1,fz.2.1,fz.2.2.2.2.1,fz.2.2.2.2.2⟩
    ·exact⟨fTO.2.2.2.1,fTO.2.1,fTO.2.2.2.2.1,fTO.2.2.2.2.2⟩
    ·exact⟨f1.2.2.2.1,f1.2.1,f1.2.2.2.2.1,f1.2.2.2.2.2⟩
    ·exact⟨f2.2.2.2.1,f2.2.1,f2.2.2.2.2.1,f2.2.2.2.2.2⟩
   ·simp only [wH,vn,or_false,not_or] at hc;exact keep2 b o hc.1 hc.2.1 hc.2.2.1 hc.2.2.2 e
   ·simp only [wH,vn,or_false,not_or] at hc;exact keep2 b o hc.1 hc.2.1 hc.2.2.1 hc.2.2.2 e
   ·rw [zR (wS (Heap.lt_size e))]; exact n
   ·simp only [wH,vn,or_false,not_or] at hc;exact keep2 b o hc.1 hc.2.1 hc.2.2.1 hc.2.2.2 e
   ·rw [zR (yd e nT)]; exact e
   ·rw [zR (yd e nT)]; exact e
   ·rw [zR (yd e nT)]; simpa using e
   ·obtain⟨o,es,ep,ho,r⟩:=hm;exact⟨o,es,ep,keep2 _ o (Ne.symm fz.2.1) (Ne.symm fTO.2.1) (Ne.symm f1.2.1) (Ne.symm f2.2.1) ho,r⟩
   ·by_cases hb:b=s.heap.objs.size
    ·subst hb;rw [zh] at e;cases e;exact⟨by show 2<=sizeLine; decide,[u,u'],.cons ru (.cons ru' .nil),TOK⟩
    ·rw [zR hb] at e;refine(I.hok b o e).stay (fun c v hc q=>?_) (fun c q=>by rw [zR (yd q nT)]; exact q) fun c xs q=>by rw [zR (yd q nT)]; exact q
     have hne:H c≠none:=by
      rcases hc with rfl | hc
      ·rw [e]; exact fun z=>nomatch z
      ·rw [hc]; exact fun z=>nomatch z
     obtain⟨c1,c2,c3,c4⟩:=nch c hne;exact keep2 c v c1 c2 c3 c4 q
  ·exact sb.extBut _ _ D.TIz (keep _ _ D.TIz D.TITO D.TIi1 D.TIi2 hTI)
  ·exact sb.extBut _ _ D.TOz TO'
  ·exact i1'.at fun o e=>sb.extBut _ _ D.i1z e
  ·exact i2'.at fun o e=>sb.extBut _ _ D.i2z e
  ·intro b hb;rw [zR ?_]
   ·exact(hf b hb).1
   ·simp only [wH,vn,or_false] at hb
    rcases hb with rfl | rfl | rfl | rfl | rfl
    ·exact wS zlt
    ·exact wS TIlt
    ·exact wS TOlt
    ·exact wS i1lt
    ·exact wS i2lt
 done:=by
  intro X hP hw hK hc i pins s σ H E I hf st hg;subst hP hw hK;obtain⟨hz,hTI,⟨u0,v0,hTO⟩,h1,h2⟩:=st;obtain⟨xs,ys,q1,q2,hx⟩:=hg;obtain⟨its1,rv1,p1,_⟩:=I.list q1;obtain⟨its2,rv2,p2,_⟩:=I.list q2;have l1:=rv1.length;have l2:=rv2.length;have fz:=hf z (by simp);have fTO:=hf TO (by simp);have f1:=hf i1 (by simp);have f2:=hf i2 (by simp);refine wpAny_pyNext_zip_end (I.ok.hd hc) D hz hTI hTO h1 h2 p1.isList p2.isList (by
   rcases hx with hx | hx
   ·exact .inl (by simp; omega)
   ·exact .inr (by simp; omega)) fun h' keep=>⟨rfl,?_⟩
  have nch:∀ c,H c≠none->c≠z/\c≠TO/\c≠i1/\c≠i2:=fun c hc=>⟨fun e=>hc (by rw [e]; exact fz.1),fun e=>hc (by rw [e]; exact fTO.1),fun e=>hc (by rw [e]; exact f1.1),fun e=>hc (by rw [e]; exact f2.1)⟩
  refine Inv.step (s:=s) (g':=s.gens) (d':=s.drawn) (t':=s.toks) (ch:=[z,TO,i1,i2]) (h':=h') I (fun b hb=>?_) (fun b o _ _ hc e _=>?_) (fun b o _ _ hc e _=>⟨o.slots,?_⟩) (fun b o _ e n=>n) (fun b o hc e=>⟨o,?_⟩) (fun b xs e=>e) (fun b o v e=>e) (fun b ps e=>⟨#[],by simpa using e⟩) (fun m hm=>?_) (fun b o e=>?_) I.bare
  ·simp only [wH,vn,or_false] at hb
   rcases hb with rfl | rfl | rfl | rfl
   ·exact⟨fz.2.2.2.1,fz.2.1,fz.2.2.2.2.1,fz.2.2.2.2.2⟩
   ·exact⟨fTO.2.2.2.1,fTO.2.1,fTO.2.2.2.2.1,fTO.2.2.2.2.2⟩
   ·exact⟨f1.2.2.2.1,f1.2.1,f1.2.2.2.2.1,f1.2.2.2.2.2⟩
   ·exact⟨f2.2.2.2.1,f2.2.1,f2.2.2.2.2.1,f2.2.2.2.2.2⟩
  ·simp only [wH,vn,or_false,not_or] at hc;exact keep b o hc.1 hc.2.1 hc.2.2.1 hc.2.2.2 e
  ·simp only [wH,vn,or_false,not_or] at hc;exact keep b o hc.1 hc.2.1 hc.2.2.1 hc.2.2.2 e
  ·simp only [wH,vn,or_false,not_or] at hc;exact keep b o hc.1 hc.2.1 hc.2.2.1 hc.2.2.2 e
  ·obtain⟨o,es,ep,ho,r⟩:=hm;exact⟨o,es,ep,keep _ o (Ne.symm fz.2.1) (Ne.symm fTO.2.1) (Ne.symm f1.2.1) (Ne.symm f2.2.1) ho,r⟩
  ·refine(I.hok b o e).stay (fun c v hc q=>?_) (fun c q=>q) fun c xs q=>q
   have hne:H c≠none:=by
    rcases hc with rfl | hc
    ·rw [e]; exact fun z=>nomatch z
    ·rw [hc]; exact fun z=>nomatch z
   obtain⟨c1,c2,c3,c4⟩:=nch c hne;exact keep c v c1 c2 c3 c4 q
 self:=fun _ _ _ _ _ st h=>wpAny_pyIter_zip st.1 h
section
variable{X:Cx}
noncomputable def iZip(K:PySem.W.Frag)(ta:TA):TI:=fun σ H R=>ta σ H fun vs H1=>∃ a b xs ys,vs=[.ref a,.ref b]/\SqL K H1 a xs/\SqL K H1 b ys/\R (Itz K a b) H1
theorem zjk {a b:Expr} {ta:TA} {p pos:Pos} {elts:List Expr} {k1:Nat} {tpos:Pos} (hg:Gl X "zip") (hm:X.mg "zip" = none) (ha:PA X [a,b] ta) (hs:starEach [a,b] X.env=[(false,eval a X.env),(false,eval b X.env)]:=by rfl) (hs2:starEach [b] X.env=[(false,eval b X.env)]:=by rfl) :
  PI X (.Tuple elts k1 tpos) (.Call (.Name "zip" p) [a,b] [] pos) (iZip X.K ta):=by
 intro pins s σ H R I h;refine wpAny_Call_Name_kw (za7 I hg hm zjK ?_);refine PyProof.Rows.callWith_type1 (thn (ha pos pins s σ H _ I h) fun us s1 ⟨vs,H1,I1,r1,q1⟩=>?_) (by rw [hs,hs2]) (by rw [hs2]; rfl);obtain⟨a1,b1,xs,ys,rfl,h1,h2,q⟩:=q1;obtain⟨u,w',rfl,ra,rb⟩:=Vals.two r1;cases ra;cases rb;obtain⟨its1,rv1,p1,_⟩:=I1.list h1;obtain⟨its2,rv2,p2,_⟩:=I1.list h2;have l1:a1<s1.heap.objs.size:=let ⟨_,e,_⟩:=p1.isList; Heap.lt_size e
 have l2:b1<s1.heap.objs.size:=let ⟨_,e,_⟩:=p2.isList; Heap.lt_size e
 refine call_zip_2 p1.isList p2.isList fun h' hz hTI hTO hi1 hi2 hsz keep=>?_
 have I2:Inv X pins σ H1 { s1 with heap:=h' }:=I1.kept (t':=s1.toks) keep;refine wpAny_pyIter_zip (s:={ s1 with heap:=h' }) hz ?_;refine⟨_,_,_,_,H1,rfl,I2,zgw _ _ _ _ _ a1 b1 (zipApart_new l1 l2),⟨hz,hTI,⟨_,_,hTO⟩,hi1,hi2⟩,fun b hb=>?_,q⟩;have hb':s1.heap.objs.size<=b:=by
  simp only [wH,vn,or_false] at hb
  rcases hb with rfl | rfl | rfl | rfl | rfl <;> omega
 exact I1.fpOk hb' (I1.hok.fresh hb')
theorem ZA(ns:List Int):∀ j,j<=ns.length->preSum (fun i=>ns.getD i 0) j =(ns.take j).sum
 | 0,_=>by simp [preSum]
 | j+1,h=>by
  have hj:j<ns.length:=h;rw [preSum,ZA ns j (ur hj),vG hj,waQ];simp [gx,hj]
theorem zfc (hc:X.calm=true):CallR X (.builtin "sum") (fun xs H Q=>∃ p ns,xs=[.ref p]/\SqL X.K H p ((ns:List Int).map V.int)/\Q (.int ns.sum) H):=by
 intro pins s σ H xs us Q I r h;obtain⟨p,ns,rfl,hq,q⟩:=h;obtain⟨u,rfl,ru⟩:=Vals.one r;cases ru;obtain⟨its,rv,pl,_⟩:=I.list hq;have hh:X.A.in1.handled=none:=I.ok.hd hc;have lt:p<s.heap.objs.size:=let ⟨_,e,_⟩:=pl.isList; Heap.lt_size e
 have hl:its.length=ns.length:=by rw [← rv.length,wa]
 refine call_sum_walkG (wpAny_pyIter_list pl.isList ?_);refine⟨s.heap.objs.size,_,_,_,_,_,fun i=>ns.getD i 0,rfl,Walks.list hh s.heap.objs.size p (wS lt) its.toArray,⟨⟨_,Heap.get?_push_size _ rfl,rfl,rfl⟩,pl.isList.at fun o e=>Heap.get?_push_of_some _ e⟩,fun b hb=>?_,fun i v hv=>?_,fun h' tk t' keep=>?_⟩
 ·simp only [wH,vn,or_false] at hb
  rcases hb with rfl | rfl
  ·rw [Heap.size_push]; exact vS _
  ·rw [Heap.size_push]; exact uy lt
 ·have hv':its[i]?=some v:=by simpa using hv
  have hi:i<ns.length:=by rw [← hl]; exact(wo.mp hv').1
  obtain⟨u,hu,ru⟩:=rv.get (i:=i) (x:=.int ns[i]) (by rw [wg,wb hi]; rfl);rw [hu] at hv';cases hv';obtain⟨t,e⟩:=ru;refine⟨t,?_⟩;rw [e];simp [gx,hi]
 ·have e:preSum (fun i=>ns.getD i 0) its.toArray.size=ns.sum:=by
   rw [wK,hl,ZA ns _ (wu _),vo]
  rw [e];refine⟨.int ns.sum,H,?_,⟨t',rfl⟩,q⟩;exact I.kept (h':=h') (t':=tk) fun b o eb=>keep b o (by simp only [wH,vn,or_false]; exact wS (Heap.lt_size eb)) (Heap.get?_push_of_some _ eb)
end
end L2
namespace L2
open PySem PySem.Spec PyProof.Rows Nm
noncomputable def toD:Nb->PyData
 | .q r=>.tuple [.int r.num,.int (r.den:Int)]
 | .z i=>.int i
noncomputable def RN(H:Hp)(x:Nb)(v:V):Prop:=Rp H (toD x) v
theorem RN.q{H:Hp}{r:Rat}{v:V}(h:RN H (.q r) v):∃ a,v=.ref a/\H a=some (.tup [.int r.num,.int (r.den:Int)]):=by
 simp only [RN,toD,Rp,Rps] at h;obtain⟨a,xs,e,h1,x,r1,e1,e2,y,r2,e3,e4,e5⟩:=h;subst e5 e4 e3 e2 e1;exact⟨a,e,h1⟩
theorem RN.of_q{H:Hp}{r:Rat}{a:Addr}(h:H a=some (.tup [.int r.num,.int (r.den:Int)])):RN H (.q r) (.ref a):=by
 simp only [RN,toD,Rp,Rps];exact⟨a,_,rfl,h,_,_,rfl,rfl,_,_,rfl,rfl,rfl⟩
theorem RN.z{H:Hp}{i:Int}{v:V}(h:RN H (.z i) v):v=.int i:=by
 simpa only [RN,toD,Rp] using h
theorem RN.of_z{H:Hp}{i:Int}:RN H (.z i) (.int i):=by
 simp only [RN,toD,Rp]
theorem RN.mono{H H':Hp}{x:Nb}{v:V}(h:RN H x v)(g:Same H H'):RN H' x v:=Rp.mono g _ _ h
theorem yN(x:Nb):(toD x).canLay0=true:=by
 cases x <;> rfl
theorem xt(x:Nb):(toD x).depth<=1:=by
 cases x <;> simp [toD,PyData.depth,PyData.depthAll]
theorem jH(x y:Nb):PyData.eqv (toD x) (toD y)=decide (x=y):=by
 cases x with
 | q r =>
  cases y with
  | q s =>
   show((r.num == s.num) && (((r.den:Int) ==(s.den:Int)) && true))=decide (Nb.q r=Nb.q s)
   by_cases h:r=s
   ·subst h; simp
   ·have h':¬ Nb.q r=Nb.q s:=fun z=>h (Nb.q.inj z)
    rw [decide_eq_false h'];rw [Bool.and_eq_false_iff]
    by_cases h1:r.num=s.num
    ·right
     rw [Bool.and_true];have:¬(r.den:Int) =(s.den:Int):=fun z=>h (Rat.ext h1 (by omega))
     simp [this]
    ·left; simp [h1]
  | z j=>simp [toD,PyData.eqv]
 | z i =>
  cases y with
  | q s=>simp [toD,PyData.eqv]
  | z j =>
   show(i == j)=decide (Nb.z i=Nb.z j)
   by_cases h:i=j
   ·subst h; simp
   ·have h':¬ Nb.z i=Nb.z j:=fun z=>h (Nb.z.inj z)
    rw [decide_eq_false h']; simp [h]
noncomputable def nsm(n:Nat):Nb->Prop
 | .q r=>Sm n r.num/\Sm n (r.den:Int)
 | .z i=>Sm n i
theorem nsm.mono{m n:Nat}{x:Nb}(h:nsm m x)(hmn:m<=n):nsm n x:=by
 cases x with
 | q r=>exact⟨Sm.mono h.1 hmn,Sm.mono h.2 hmn⟩
 | z i=>exact Sm.mono (show Sm m i from h) hmn
theorem Xz{k i:Int}(h0:0<=i)(h1:i<k)(h9:k<2305843009213693952):Sm 61 i:=by
 unfold Sm;have:(2:Nat)^61=2305843009213693952:=by decide
 omega
theorem QH{t b:Int}(hb:b≠0):((vF t b).den:Int).natAbs<=b.natAbs:=by
 have h:=(Xo (t:=t) hb).2;rw [← h,vM (ZM t b)];have e:=uF (ZM t b);have h1:(b / sg t b*sg t b).natAbs=b.natAbs:=by rw [e]
 rw [vx] at h1;have h2:0 <(sg t b).natAbs:=gi.mpr (zgb hb);rw [← h1];exact uB _ h2
theorem zam{t b:Int}(hb:b≠0):(vF t b).num.natAbs<=t.natAbs:=by
 have h:=(Xo (t:=t) hb).1;rw [← h,vM (Ye t b)];have e:=uF (Ye t b);have h1:(t / sg t b*sg t b).natAbs=t.natAbs:=by rw [e]
 rw [vx] at h1;have h2:0 <(sg t b).natAbs:=gi.mpr (zgb hb);rw [← h1];exact uB _ h2
theorem qO{m n:Nat}{t b:Int}(hb:b≠0)(ht:Sm m t)(hs:Sm n b):Sm m (vF t b).num/\Sm n ((vF t b).den:Int):=⟨ht.le (zam hb),hs.le (QH hb)⟩
theorem ze1{k:Int}(hk:k≠0)(k0:0<=k)(a:Int):Nb.ok k (.z (a.fmod k)):=⟨hk,wG a (by omega),wL a (by omega)⟩
theorem Zw{k:Int}{x y:Nb}(hx:x.ok k)(hy:y.ok k):(k=0/\∃ r s,x=.q r/\y=.q s)\/(k≠0/\∃ i j,x=.z i/\y=.z j/\0<=i/\i<k/\0<=j/\j<k):=by
 cases x with
 | q r =>
  cases y with
  | q s=>exact .inl ⟨hx,r,s,rfl,rfl⟩
  | z j=>exact absurd (show k=0 from hx) hy.1
 | z i =>
  cases y with
  | q s=>exact absurd (show k=0 from hy) hx.1
  | z j=>exact .inr ⟨hx.1,i,j,rfl,rfl,hx.2.1,hx.2.2,hy.2.1,hy.2.2⟩
section
variable{k:Int}{x y:Nb}
theorem XE(k0:0<=k)(hx:x.ok k)(hy:y.ok k):(nsub k x y).ok k:=by
 rcases Zw hx hy with⟨h,r,s,rfl,rfl⟩ | ⟨h,i,j,rfl,rfl,_⟩
 ·exact h
 ·exact ze1 h k0 _
theorem zcx(k0:0<=k)(hx:x.ok k)(hy:y.ok k):(nmul k x y).ok k:=by
 rcases Zw hx hy with⟨h,r,s,rfl,rfl⟩ | ⟨h,i,j,rfl,rfl,_⟩
 ·exact h
 ·exact ze1 h k0 _
theorem ziX{n:Nat}(hk:KindOk k)(h:k≠0)(hn:61<=n)(a:Int):nsm n (.z (a.fmod k)):=by
 have hl:=hk.lt;have h0:=wG a (show 0<k by omega);have h1:=wL a (show 0<k by omega);exact(Xz h0 h1 hl.2).mono hn
theorem jY(r s:Rat):(r.den:Int) *(s.den:Int)≠0:=gC (jo r) (jo s)
theorem zis{m:Nat}(hk:KindOk k)(hx:x.ok k)(hy:y.ok k)(sx:nsm m x)(sy:nsm m y)(hm:61<=m):nsm (m+m) (nmul k x y):=by
 rcases Zw hx hy with⟨h,r,s,rfl,rfl⟩ | ⟨h,i,j,rfl,rfl,_⟩
 ·show Sm _ (r*s).num/\Sm _ ((r*s).den:Int);rw [← zcb];exact qO (jY r s) (sx.1.mul sy.1) (sx.2.mul sy.2)
 ·exact ziX hk h (by omega) _
end
end L2
namespace L2
open PySem PySem.Spec PyProof.Rows Nm
section
variable{α β:Type}{R S:α->β->Prop}
theorem zk:∀ {xs:List α} {ys:List β},Paired R xs ys->xs.length=ys.length
 | _,_,.nil=>rfl
 | _,_,.cons _ t=>congrArg (·+1) (zk t)
theorem xR(f:∀ a b,R a b->S a b):∀ {xs:List α} {ys:List β},Paired R xs ys->Paired S xs ys
 | _,_,.nil=>.nil
 | _,_,.cons r t=>.cons (f _ _ r) (xR f t)
theorem qG:∀ {xs xs':List α} {ys ys':List β},Paired R xs ys->Paired R xs' ys'->Paired R (xs++xs') (ys++ys')
 | _,_,_,_,.nil,s=>s
 | _,_,_,_,.cons r t,s=>.cons r (qG t s)
theorem zZ{xs:List α}{ys:List β}{a:α}{b:β}(h:Paired R xs ys)(r:R a b):Paired R (xs++[a]) (ys++[b]):=qG h (.cons r .nil)
theorem yi:∀ {xs:List α} {ys:List β} {i:Nat} {a:α},Paired R xs ys->xs[i]?=some a->∃ b,ys[i]?=some b/\R a b
 | _,_,_,_,.nil,e=>by simp at e
 | _,_,0,_,.cons r _,e=>by simp at e; subst e; exact⟨_,rfl,r⟩
 | _,_,i+1,a,.cons _ t,e=>by
  obtain⟨b,h1,h2⟩:=yi (i:=i) (a:=a) t (by simpa using e);exact⟨b,by simpa using h1,h2⟩
theorem ye:∀ {xs:List α} {ys:List β} {i:Nat} {b:β},Paired R xs ys->ys[i]?=some b->∃ a,xs[i]?=some a/\R a b
 | _,_,_,_,.nil,e=>by simp at e
 | _,_,0,_,.cons r _,e=>by simp at e; subst e; exact⟨_,rfl,r⟩
 | _,_,i+1,b,.cons _ t,e=>by
  obtain⟨a,h1,h2⟩:=ye (i:=i) (b:=b) t (by simpa using e);exact⟨a,by simpa using h1,h2⟩
theorem Yi:∀ {xs:List α} {ys:List β} {b:β},Paired R xs ys->b∈ys->∃ a∈xs,R a b
 | _,_,_,.nil,e=>nomatch e
 | _,_,b,.cons r t,e=>by
  rcases wH.mp e with rfl | e
  ·exact⟨_,wm,r⟩
  ·obtain⟨a,h1,h2⟩:=Yi t e;exact⟨a,wr _ h1,h2⟩
end
theorem zw{α:Type}{l:List α}{i:Nat}{x:α}(h:l[i]?=some x):l.take (i+1)=l.take i++[x]:=by
 obtain⟨hi,e⟩:=wo.mp h;rw [vG hi,e]
noncomputable def RowAt(H:Hp)(xs:List Nb)(a:Addr):Prop:=∃ vs,H a=some (.lst vs)/\Paired (RN H) xs vs
noncomputable def TabAt(H:Hp)(M:List (List Nb))(top:Addr)(ras:List Addr):Prop:=H top=some (.lst (ras.map V.ref))/\Paired (RowAt H) M ras
theorem jm{H H':Hp}(g:Same H H'){xs:List Nb}{vs:List V}(h:Paired (RN H) xs vs):Paired (RN H') xs vs:=xR (fun _ _ r=>r.mono g) h
theorem RowAt.mono{H H':Hp}{xs:List Nb}{a:Addr}(h:RowAt H xs a)(g:Same H H'):RowAt H' xs a :=
 let ⟨vs,h1,h2⟩:=h
 ⟨vs,g _ _ h1,jm g h2⟩
theorem TabAt.mono{H H':Hp}{M:List (List Nb)}{top:Addr}{ras:List Addr}(h:TabAt H M top ras)(g:Same H H'):TabAt H' M top ras:=⟨g _ _ h.1,xR (fun _ _ r=>r.mono g) h.2⟩
theorem TabAt.row{H:Hp}{M:List (List Nb)}{top:Addr}{ras:List Addr}{i:Nat}{v:V}(h:TabAt H M top ras)(e:(ras.map V.ref)[i]?=some v):∃ xs a,M[i]?=some xs/\ras[i]?=some a/\v=.ref a/\RowAt H xs a:=by
 rw [wg] at e;obtain⟨a,ha,rfl⟩:=wU.mp e;obtain⟨xs,hx,r⟩:=ye h.2 ha;exact⟨xs,a,hx,ha,rfl,r⟩
noncomputable def rowD(xs:List Nb):PyData:=.list (xs.map toD)
noncomputable def tabD(M:List (List Nb)):PyData:=.list (M.map rowD)
theorem zeV{H:Hp}:∀ {xs:List Nb} {vs:List V},Paired (RN H) xs vs->Rps H (xs.map toD) vs
 | _,_,.nil=>by simp [Rps]
 | _,_,.cons r t=>by
  simp only [gw,Rps];exact⟨_,_,rfl,r,zeV t⟩
theorem RowAt.rp{H:Hp}{xs:List Nb}{a:Addr}(h:RowAt H xs a):Rp H (rowD xs) (.ref a):=by
 obtain⟨vs,h1,h2⟩:=h;simp only [rowD,Rp];exact⟨a,vs,rfl,h1,zeV h2⟩
theorem zdi{H:Hp}:∀ {M:List (List Nb)} {ras:List Addr},Paired (RowAt H) M ras->Rps H (M.map rowD) (ras.map V.ref)
 | _,_,.nil=>by simp [Rps]
 | _,_,.cons r t=>by
  simp only [gw,Rps];exact⟨_,_,rfl,r.rp,zdi t⟩
theorem TabAt.rp{H:Hp}{M:List (List Nb)}{top:Addr}{ras:List Addr}(h:TabAt H M top ras):Rp H (tabD M) (.ref top):=by
 simp only [tabD,Rp];exact⟨top,_,rfl,h.1,zdi h.2⟩
theorem Yq{α:Type}(f:α->PyData)(h:∀ x,(f x).canLay0=true):∀ l:List α,PyData.canLayAll0 (l.map f)=true
 | []=>rfl
 | x::r=>by
  show((f x).canLay0 && PyData.canLayAll0 (r.map f))=true;rw [h x,Yq f h r]; rfl
theorem qU{α:Type}(f:α->PyData)(n:Nat)(h:∀ x,(f x).depth<=n):∀ l:List α,PyData.depthAll (l.map f)<=n
 | []=>vz _
 | x::r=>by
  show max (f x).depth (PyData.depthAll (r.map f))<=n;exact Nat.max_le.mpr ⟨h x,qU f n h r⟩
theorem zab(xs:List Nb):(rowD xs).canLay0=true:=Yq toD yN xs
theorem JZ(xs:List Nb):(rowD xs).depth<=2:=waK (qU toD 1 xt xs)
theorem xx(M:List (List Nb)):(tabD M).canLay0=true:=Yq rowD zab M
theorem xD(M:List (List Nb)):(tabD M).depth<=3:=waK (qU rowD 2 JZ M)
theorem YE{α:Type}(f:α->PyData)(h:∀ x,PyData.eqv (f x) (f x)=true):∀ l:List α,PyData.eqvAll (l.map f) (l.map f)=true
 | []=>rfl
 | x::r=>by
  show(PyData.eqv (f x) (f x) && PyData.eqvAll (r.map f) (r.map f))=true;rw [h x,YE f h r]; rfl
theorem zcR(x:Nb):PyData.eqv (toD x) (toD x)=true:=by rw [jH]; simp
theorem zfl(xs:List Nb):PyData.eqv (rowD xs) (rowD xs)=true:=YE toD zcR xs
theorem Ji(M:List (List Nb)):PyData.eqv (tabD M) (tabD M)=true:=YE rowD zfl M
noncomputable def Nxt(n i:Nat)(J:Prop):Prop:=∃ m',m'<n - i/\m'=n - (i+1)/\i+1<=n/\J
theorem nxt{n i:Nat}{J:Prop}(h:i<n)(j:J):Nxt n i J:=⟨n - (i+1),by omega,rfl,h,j⟩
section
variable{K:PySem.W.Frag}{g:TG}{tt:TT}{te:TE}{R:List V->Hp->Prop}{H:Hp}{σb:St}
theorem zP{a:Addr}{xs:List V}(J:Nat->List V->Hp->Prop)(h0:J 0 [] H)(hl:∀(i:Nat)(ys:List V)(H':Hp),i<=xs.length->J i ys H'->SqL K H' a xs/\ys.length<sizeLine)
  (hs:∀(i:Nat)(x:V)(ys:List V)(H':Hp),xs[i]?=some x->i<xs.length->J i ys H'->g x σb H' fun σ2 H2=>tt σ2 H2 fun b H3=>if b=true then te σ2 H3 fun y H4=>Nxt xs.length i (J (i+1) (ys++[y]) H4)else Nxt xs.length i (J (i+1) ys H3))
  (hd:∀(ys:List V)(H':Hp),J xs.length ys H'->R ys H') :
  ∃ W:Nat->Nat->List V->Hp->Prop,(∃ m,W 0 m [] H)/\∀ i m ys H,W i m ys H ->
   ((Itl K a).stop i H/\ys.length<=sizeLine/\R ys H) \/
   ((Itl K a).go i H/\ys.length<sizeLine/\∀ x H',(Itl K a).yld i H x H'->g x σb H' fun σ2 H2=>tt σ2 H2 fun b H3=>if b=true then te σ2 H3 fun y H4=>∃ m',m'<m/\W (i+1) m' (ys++[y]) H4 else ∃ m',m'<m/\W (i+1) m' ys H3):=by
 refine⟨fun i m ys H=>m=xs.length - i/\i<=xs.length/\J i ys H,⟨xs.length,by simp,vz _,h0⟩,?_⟩
 rintro i m ys H1 ⟨rfl,hi,j⟩
 obtain⟨q,hz⟩:=hl i ys H1 hi j
 by_cases hlt:i<xs.length
 ·refine .inr ⟨⟨xs,xs[i],q,by simp [hlt]⟩,hz,fun x H' y=>?_⟩;obtain⟨e,y⟩:=y;subst e;exact hs i x ys _ (y xs q) hlt j
 ·have e:i=xs.length:=by omega
  subst e;exact .inl ⟨⟨xs,q,wu _⟩,ur hz,hd ys H1 j⟩
theorem yb{lo:Int}{n:Nat}(J:Nat->List V->Hp->Prop)(h0:J 0 [] H)(hl:∀(i:Nat)(ys:List V)(H':Hp),i<=n->J i ys H'->ys.length<sizeLine)
  (hs:∀(i:Nat)(ys:List V)(H':Hp),i<n->J i ys H'->g (.int (lo+i)) σb H' fun σ2 H2=>tt σ2 H2 fun b H3=>if b=true then te σ2 H3 fun y H4=>Nxt n i (J (i+1) (ys++[y]) H4)else Nxt n i (J (i+1) ys H3))
  (hd:∀(ys:List V)(H':Hp),J n ys H'->R ys H') :
  ∃ W:Nat->Nat->List V->Hp->Prop,(∃ m,W 0 m [] H)/\∀ i m ys H,W i m ys H ->
   ((Itr lo n).stop i H/\ys.length<=sizeLine/\R ys H) \/
   ((Itr lo n).go i H/\ys.length<sizeLine/\∀ x H',(Itr lo n).yld i H x H'->g x σb H' fun σ2 H2=>tt σ2 H2 fun b H3=>if b=true then te σ2 H3 fun y H4=>∃ m',m'<m/\W (i+1) m' (ys++[y]) H4 else ∃ m',m'<m/\W (i+1) m' ys H3):=by
 refine⟨fun i m ys H=>m=n - i/\i<=n/\J i ys H,⟨n,by simp,vz _,h0⟩,?_⟩
 rintro i m ys H1 ⟨rfl,hi,j⟩
 have hz:=hl i ys H1 hi j
 by_cases hlt:i<n
 ·refine .inr ⟨hlt,hz,fun x H' y=>?_⟩;obtain⟨e,y⟩:=y;subst e y;exact hs i ys _ hlt j
 ·have e:i=n:=by omega
  subst e;exact .inl ⟨wu _,ur hz,hd ys H1 j⟩
theorem Zb{a b:Addr}{xs zs:List V}(he:xs.length=zs.length)(J:Nat->List V->Hp->Prop)(h0:J 0 [] H)(hl:∀(i:Nat)(ys:List V)(H':Hp),i<=xs.length->J i ys H'->SqL K H' a xs/\SqL K H' b zs/\ys.length<sizeLine)
  (hs:∀(i:Nat)(x z:V)(T:Addr)(ys:List V)(H':Hp),xs[i]?=some x->zs[i]?=some z->i<xs.length->H' T=none->J i ys H'->g (.ref T) σb (upd H' T (.tup [x,z])) fun σ2 H2=>tt σ2 H2 fun b H3=>if b=true then te σ2 H3 fun y H4=>Nxt xs.length i (J (i+1) (ys++[y]) H4)else Nxt xs.length i (J (i+1) ys H3))
  (hd:∀(ys:List V)(H':Hp),J xs.length ys H'->R ys H') :
  ∃ W:Nat->Nat->List V->Hp->Prop,(∃ m,W 0 m [] H)/\∀ i m ys H,W i m ys H ->
   ((Itz K a b).stop i H/\ys.length<=sizeLine/\R ys H) \/
   ((Itz K a b).go i H/\ys.length<sizeLine/\∀ x H',(Itz K a b).yld i H x H'->g x σb H' fun σ2 H2=>tt σ2 H2 fun b H3=>if b=true then te σ2 H3 fun y H4=>∃ m',m'<m/\W (i+1) m' (ys++[y]) H4 else ∃ m',m'<m/\W (i+1) m' ys H3):=by
 refine⟨fun i m ys H=>m=xs.length - i/\i<=xs.length/\J i ys H,⟨xs.length,by simp,vz _,h0⟩,?_⟩
 rintro i m ys H1 ⟨rfl,hi,j⟩
 obtain⟨q1,q2,hz⟩:=hl i ys H1 hi j
 by_cases hlt:i<xs.length
 ·refine .inr ⟨⟨xs,zs,xs[i],zs[i]'(by omega),q1,q2,by simp [hlt],by simp [show i<zs.length by omega]⟩,hz,fun x H' y=>?_⟩;obtain⟨T,u,v,rfl,hT,rfl,y1,y2⟩:=y;exact hs i u v T ys _ (y1 xs q1) (y2 zs q2) hlt hT j
 ·have e:i=xs.length:=by omega
  subst e;exact .inl ⟨⟨xs,zs,q1,q2,.inl (wu _)⟩,ur hz,hd ys H1 j⟩
end
end L2
namespace La
open Lean.Grind
section
variable{F:Type}[Field F]
inductive Span(S:(Nat->F)->Prop):(Nat->F)->Prop
 | zero:Span S (fun _=>0)
 | step (c:F) {r v:Nat->F} (h:S r) (t:Span S v):Span S (fun j=>c*r j+v j)
variable{S T:(Nat->F)->Prop}{u v:Nat->F}
theorem Span.cast(h:Span S u)(e:∀ j,u j=v j):Span S v:=by
 have:u=v:=funext e;rw [← this]; exact h
theorem Span.of(h:S v):Span S v:=(Span.step 1 h .zero).cast fun j=>by grind
theorem Span.add(h:Span S u)(g:Span S v):Span S (fun j=>u j+v j):=by
 induction h with
 | zero=>exact g.cast fun j=>by grind
 | step c hr _ ih=>exact(Span.step c hr ih).cast fun j=>by grind
theorem Span.smul(c:F)(h:Span S v):Span S (fun j=>c*v j):=by
 induction h with
 | zero=>exact Span.zero.cast fun j=>by grind
 | step d hr _ ih=>exact(Span.step (c*d) hr ih).cast fun j=>by grind
theorem Span.lin(a b:F)(h:Span S u)(g:Span S v):Span S (fun j=>a*u j+b*v j):=(h.smul a).add (g.smul b)
theorem Span.bind(f:∀ r,S r->Span T r)(h:Span S v):Span T v:=by
 induction h with
 | zero=>exact .zero
 | step c hr _ ih=>exact((f _ hr).smul c).add ih
theorem Span.mono(f:∀ r,S r->T r)(h:Span S v):Span T v:=h.bind fun r q=>.of (f r q)
theorem Span.all{P:(Nat->F)->Prop}(h:Span S v)(z:P fun _=>0)(s:∀ c r v,S r->P v->P (fun j=>c*r j+v j)):P v:=by
 induction h with
 | zero=>exact z
 | step c hr _ ih=>exact s c _ _ hr ih
theorem Span.zero_at{i:Nat}(h:Span S v)(z:∀ r,S r->r i=0):v i=0 :=
 h.all (P:=fun v=>v i=0) rfl fun c r v hr hv=>by
  show c*r i+v i=0;rw [z r hr,hv]; grind
noncomputable abbrev Pv(F:Type):=Nat×(Nat->F)
noncomputable def Rows(P:List (Pv F)):(Nat->F)->Prop:=fun r=>∃ p∈P,p.2=r
structure Rr(n:Nat)(P:List (Pv F)):Prop where
 inc:P.Pairwise fun a b=>a.1<b.1
 lt:∀ p∈P,p.1<n
 out:∀ p∈P,∀ j,n<=j->p.2 j=0
 bef:∀ p∈P,∀ j,j<p.1->p.2 j=0
 one:∀ p∈P,p.2 p.1=1
 oth:∀ p∈P,∀ q∈P,p.1≠q.1->p.2 q.1=0
noncomputable def comb:List (Pv F)->(Nat->F)->Nat->F
 | [],_,_=>0
 | p::P,v,j=>v p.1*p.2 j+comb P v j
theorem zdh(c:F)(u v:Nat->F)(j:Nat):∀ P:List (Pv F),comb P (fun i=>c*u i+v i) j=c*comb P u j+comb P v j
 | []=>by simp only [comb]; grind
 | p::P=>by simp only [comb]; rw [zdh c u v j P]; grind
theorem yY(v:Nat->F)(j:Nat):∀ P:List (Pv F),(∀ p∈P,v p.1*p.2 j=0)->comb P v j=0
 | [],_=>rfl
 | p::P,h=>by
  simp only [comb];rw [h p wm,yY v j P fun q hq=>h q (wr _ hq)]; grind
theorem Yk(v:Nat->F):∀ P:List (Pv F),Span (Rows P) (comb P v)
 | []=>Span.zero.cast fun _=>rfl
 | p::P=>by
  have h:=(Yk v P).mono (T:=Rows (p::P)) fun r ⟨q,hq,e⟩=>⟨q,wr _ hq,e⟩
  exact(Span.step (v p.1) (r:=p.2) (S:=Rows (p::P)) ⟨p,wm,rfl⟩ h).cast fun j=>rfl
theorem XW{v:Nat->F}{p:Pv F}(j:Nat):∀ P:List (Pv F),P.Pairwise (fun a b=>a.1<b.1)->p∈P->v p.1=1->(∀ q∈P,q.1≠p.1->v q.1=0)->comb P v j=p.2 j
 | [],_,h,_,_=>nomatch h
 | q::P,inc,h,h1,h0=>by
  rw [uh] at inc;simp only [comb]
  rcases wH.mp h with e | h
  ·subst e;rw [yY v j P fun r hr=>by rw [h0 r (wr _ hr) (wau (inc.1 r hr))]; grind];rw [h1]; grind
  ·rw [h0 q wm (wS (inc.1 p h)),XW j P inc.2 h h1 fun r hr=>h0 r (wr _ hr)]; grind
variable{n:Nat}{P Q:List (Pv F)}
theorem Rr.self(R:Rr n P){p:Pv F}(h:p∈P)(j:Nat):comb P p.2 j=p.2 j:=XW j P R.inc h (R.one p h) fun q hq ne=>R.oth p h q hq (Ne.symm ne)
theorem Rr.comb(R:Rr n P)(h:Span (Rows P) v):∀ j,La.comb P v j=v j:=fun j =>
 h.all (P:=fun v=>La.comb P v j=v j) (yY _ j P fun p _=>by grind) fun c r v ⟨p,hp,e⟩ hv=>by
  rw [zdh,hv,← e,R.self hp j]
theorem Rr.out_of(R:Rr n P)(h:Span (Rows P) v)(j:Nat)(hj:n<=j):v j=0:=h.zero_at fun r ⟨p,hp,e⟩=>by rw [← e]; exact R.out p hp j hj
theorem Rr.lead(R:Rr n P){i:Nat}(h:Span (Rows P) v)(z:∀ j,j<i->v j=0)(ne:v i≠0):∃ p∈P,p.1=i:=by
 refine vQ fun no=>ne ?_
 rw [← R.comb h i];refine yY _ i P fun p hp=>?_
 rcases waB p.1 i with g | g | g
 ·rw [z p.1 g]; grind
 ·exact absurd ⟨p,hp,g⟩ no
 ·rw [R.bef p hp i g]; grind
theorem JW:∀ {P Q:List (Pv F)},P.Pairwise (fun a b=>a.1<b.1)->Q.Pairwise (fun a b=>a.1<b.1)->(∀ p∈P,p∈Q)->(∀ q∈Q,q∈P)->P=Q
 | [],[],_,_,_,_=>rfl
 | [],q::_,_,_,_,h=>nomatch h q wm
 | p::_,[],_,_,h,_=>nomatch h p wm
 | p::P,q::Q,hP,hQ,h1,h2=>by
  rw [uh] at hP hQ;have e:p=q:=by
   rcases wH.mp (h1 p wm)with e | m
   ·exact e
   ·rcases wH.mp (h2 q wm)with e | m'
    ·exact e.symm
    ·have:=hP.1 q m'; have:=hQ.1 p m; omega
  subst e;rw [JW hP.2 hQ.2 (fun r hr=>?_) (fun r hr=>?_)]
  ·rcases wH.mp (h1 r (wr _ hr))with e | m
   ·subst e; exact absurd (hP.1 r hr) (vT _)
   ·exact m
  ·rcases wH.mp (h2 r (wr _ hr))with e | m
   ·subst e; exact absurd (hQ.1 r hr) (vT _)
   ·exact m
theorem Rr.leads(R:Rr n P)(R':Rr n Q)(sub:∀ v,Span (Rows P) v->Span (Rows Q) v){p:Pv F}(hp:p∈P):∃ q∈Q,q.1=p.1 :=
 R'.lead (sub _ (.of ⟨p,hp,rfl⟩)) (fun j hj=>R.bef p hp j hj) (by rw [R.one p hp]; grind)
theorem Rr.mem_of(R:Rr n P)(R':Rr n Q)(s1:∀ v,Span (Rows P) v->Span (Rows Q) v)(s2:∀ v,Span (Rows Q) v->Span (Rows P) v){p:Pv F}(hp:p∈P):p∈Q:=by
 obtain⟨q,hq,e⟩:=R.leads R' s1 hp;have:p=q:=by
  refine Prod.ext e.symm (funext fun j=>?_);rw [← R'.comb (s1 _ (.of ⟨p,hp,rfl⟩)) j];refine XW j Q R'.inc hq (by rw [e]; exact R.one p hp) fun r hr ne=>?_
  obtain⟨p',hp',e'⟩:=R'.leads R s2 hr;rw [← e'];exact R.oth p hp p' hp' fun z=>ne (by rw [← e',← z,e])
 rw [this]; exact hq
theorem Rr.unique(R:Rr n P)(R':Rr n Q)(s1:∀ v,Span (Rows P) v->Span (Rows Q) v)(s2:∀ v,Span (Rows Q) v->Span (Rows P) v):P=Q :=
 JW R.inc R'.inc (fun _ h=>R.mem_of R' s1 s2 h) fun _ h=>R'.mem_of R s2 s1 h
structure Sw(n c:Nat)(O:(Nat->F)->Prop)(D:List (Pv F))(W:List (Nat->F)):Prop where
 inc:D.Pairwise fun a b=>a.1<b.1
 lt:∀ p∈D,p.1<c
 bef:∀ p∈D,∀ j,j<p.1->p.2 j=0
 one:∀ p∈D,p.2 p.1≠0
 oth:∀ p∈D,∀ q∈D,p.1≠q.1->p.2 q.1=0
 nil:∀ w∈W,∀ j,j<c->w j=0
 to:∀ r,O r->Span (fun r=>Rows D r\/r∈W) r
 fro:∀ r,(Rows D r\/r∈W)->Span O r
theorem zgO(n:Nat)(W:List (Nat->F))(O:(Nat->F)->Prop)(h1:∀ r,O r->Span (·∈W) r)(h2:∀ r∈W,Span O r):Sw n 0 O ([]:List (Pv F)) W where
 inc:=.nil
 lt:=fun p h=>nomatch h
 bef:=fun p h=>nomatch h
 one:=fun p h=>nomatch h
 oth:=fun p h=>nomatch h
 nil:=fun w _ j h=>absurd h (vH j)
 to:=fun r h=>(h1 r h).mono fun _=>.inr
 fro:=fun r h=>h.elim (fun⟨p,hp,_⟩=>nomatch hp) (h2 r)
variable{c:Nat}{O:(Nat->F)->Prop}{D D':List (Pv F)}{W W':List (Nat->F)}
theorem Sw.skip(s:Sw n c O D W)(h:∀ w∈W,w c=0):Sw n (c+1) O D W :=
 { s with
  lt:=fun p hp=>uy (s.lt p hp)
  nil:=fun w hw j hj=>by
   rcases gQ.mp hj with g | g
   ·exact s.nil w hw j g
   ·rw [g]; exact h w hw }
noncomputable def Clr(c:Nat)(l r r':Nat->F):Prop:=(∃ a b:F,a≠0/\∀ j,r' j=a*r j+b*l j)/\r' c=0
theorem Clr.back{l r r':Nat->F}(h:Clr c l r r'){S:(Nat->F)->Prop}(hl:Span S l)(hr:Span S r'):Span S r:=by
 obtain⟨⟨a,b,ha,e⟩,_⟩:=h;exact(hr.lin (1 / a) (-b / a) hl).cast fun j=>by rw [e j]; grind
theorem Clr.to{l r r':Nat->F}(h:Clr c l r r'){S:(Nat->F)->Prop}(hl:Span S l)(hr:Span S r):Span S r':=by
 obtain⟨⟨a,b,ha,e⟩,_⟩:=h;exact(hr.lin a b hl).cast fun j=>by rw [e j]
theorem Sw.turn{α:Type}{E:List α}{a b:α->Pv F}(s:Sw n c O (E.map a) W){l:Nat->F}(hl:l∈W)(lc:l c≠0)(hf:∀ e∈E,(b e).1 =(a e).1/\Clr c l (a e).2 (b e).2)
  (hW:∀ w∈W',(w∈W/\w c=0)\/∃ r∈W,Clr c l r w) (hW2:∀ w∈W,w∈W'\/w=l\/∃ w'∈W',Clr c l w w'):Sw n (c+1) O (E.map b++[(c,l)]) W':=by
 have lz:∀ j,j<c->l j=0:=s.nil l hl;have ina:∀ e∈E,a e∈E.map a:=fun e he=>wj.mpr ⟨e,he,rfl⟩
 have alt:∀ e∈E,(a e).1<c:=fun e he=>s.lt _ (ina e he)
 have fz:∀ e∈E,∀ j,j<c->(a e).2 j=0->(b e).2 j=0:=fun e he j hj z=>by
  obtain⟨_,⟨x,y,ha,q⟩,_⟩:=hf e he;rw [q j,z,lz j hj]; grind
 have mem:∀ q∈E.map b++[(c,l)],(∃ e∈E,q=b e)\/q =(c,l):=fun q hq=>by
  rcases wq.mp hq with h | h
  ·obtain⟨p,hp,e⟩:=wj.mp h;exact .inl ⟨p,hp,e.symm⟩
  ·exact .inr (wt.mp h)
 have inl:(c,l)∈E.map b++[(c,l)]:=wy _ (wt.mpr rfl);have ind:∀ e∈E,b e∈E.map b++[(c,l)]:=fun e he=>wE _ (wj.mpr ⟨e,he,rfl⟩)
 refine⟨?_,fun q hq=>?_,fun q hq j hj=>?_,fun q hq=>?_,fun q hq q' hq' ne=>?_,fun w hw j hj=>?_,fun r hr=>?_,fun r hr=>?_⟩
 ·rw [wah];refine⟨?_,GP _ _,fun x hx y hy=>?_⟩
  ·have h:=s.inc;rw [uz] at h ⊢;refine h.imp_of_mem fun {x y} hx hy q=>?_
   rw [(hf x hx).1,(hf y hy).1]; exact q
  ·obtain⟨p,hp,e⟩:=wj.mp hx;rw [wt.mp hy,← e,(hf p hp).1]; exact alt p hp
 ·rcases mem q hq with⟨p,hp,rfl⟩ | rfl
  ·rw [(hf p hp).1]; exact uy (alt p hp)
  ·exact vS _
 ·rcases mem q hq with⟨p,hp,rfl⟩ | rfl
  ·rw [(hf p hp).1] at hj;exact fz p hp j (wa4 hj (alt p hp)) (s.bef _ (ina p hp) j hj)
  ·exact lz j hj
 ·rcases mem q hq with⟨p,hp,rfl⟩ | rfl
  ·obtain⟨e1,⟨x,y,ha,e⟩,_⟩:=hf p hp;rw [e1,e,lz _ (alt p hp)];have:=s.one _ (ina p hp);intro z
   grind
  ·exact lc
 ·rcases mem q hq with⟨p,hp,rfl⟩ | rfl
  ·rcases mem q' hq' with⟨p',hp',rfl⟩ | rfl
   ·rw [(hf p hp).1,(hf p' hp').1] at ne;rw [(hf p' hp').1];exact fz p hp _ (alt p' hp') (s.oth _ (ina p hp) _ (ina p' hp') ne)
   ·exact(hf p hp).2.2
  ·rcases mem q' hq' with⟨p',hp',rfl⟩ | rfl
   ·rw [(hf p' hp').1]; exact lz _ (alt p' hp')
   ·exact absurd rfl ne
 ·rcases hW w hw with⟨h,z⟩ | ⟨r,hr,⟨⟨x,y,ha,e⟩,z⟩⟩
  ·rcases gQ.mp hj with g | g
   ·exact s.nil w h j g
   ·rw [g]; exact z
  ·rcases gQ.mp hj with g | g
   ·rw [e j,s.nil r hr j g,lz j g]; grind
   ·rw [g]; exact z
 ·refine(s.to r hr).bind fun u hu=>?_
  have L:Span (fun r=>Rows (E.map b++[(c,l)]) r\/r∈W') l:=.of (.inl ⟨_,inl,rfl⟩)
  rcases hu with⟨q,hq,rfl⟩ | hu
  ·obtain⟨p,hp,rfl⟩:=wj.mp hq;exact(hf p hp).2.back L (.of (.inl ⟨_,ind p hp,rfl⟩))
  ·rcases hW2 u hu with h | h | ⟨w',h,k⟩
   ·exact .of (.inr h)
   ·rw [h]; exact L
   ·exact k.back L (.of (.inr h))
 ·have L:Span O l:=s.fro l (.inr hl)
  rcases hr with⟨q,hq,rfl⟩ | hr
  ·rcases mem q hq with⟨p,hp,rfl⟩ | rfl
   ·exact(hf p hp).2.to L (s.fro _ (.inl ⟨_,ina p hp,rfl⟩))
   ·exact L
  ·rcases hW r hr with⟨h,_⟩ | ⟨u,hu,k⟩
   ·exact s.fro _ (.inr h)
   ·exact k.to L (s.fro _ (.inr hu))
theorem Sw.done(s:Sw n n O D W)(ow:∀ w∈W,∀ j,n<=j->w j=0)(od:∀ p∈D,∀ j,n<=j->p.2 j=0):Rr n (D.map fun p=>(p.1,fun j=>p.2 j / p.2 p.1)) /\
  (∀ v,Span (Rows (D.map fun p=>(p.1,fun j=>p.2 j / p.2 p.1))) v->Span O v)/\(∀ v,Span O v->Span (Rows (D.map fun p=>(p.1,fun j=>p.2 j / p.2 p.1))) v):=by
 have wz:∀ w∈W,∀ j,w j=0:=fun w hw j=>by
  rcases wN j n with g | g
  ·exact s.nil w hw j g
  ·exact ow w hw j g
 refine⟨⟨?_,fun q hq=>?_,fun q hq j hj=>?_,fun q hq j hj=>?_,fun q hq=>?_,fun q hq q' hq' ne=>?_⟩,fun v hv=>?_,fun v hv=>?_⟩
 ·rw [uz]; exact s.inc
 ·obtain⟨p,hp,rfl⟩:=wj.mp hq; exact s.lt p hp
 ·obtain⟨p,hp,rfl⟩:=wj.mp hq;show p.2 j / p.2 p.1=0;rw [od p hp j hj]; grind
 ·obtain⟨p,hp,rfl⟩:=wj.mp hq;show p.2 j / p.2 p.1=0;rw [s.bef p hp j hj]; grind
 ·obtain⟨p,hp,rfl⟩:=wj.mp hq;show p.2 p.1 / p.2 p.1=1;have:=s.one p hp
  grind
 ·obtain⟨p,hp,rfl⟩:=wj.mp hq;obtain⟨p',hp',rfl⟩:=wj.mp hq';show p.2 p'.1 / p.2 p.1=0;rw [s.oth p hp p' hp' ne]; grind
 ·refine hv.bind fun r ⟨q,hq,e⟩=>?_
  obtain⟨p,hp,rfl⟩:=wj.mp hq;rw [← e];exact((s.fro p.2 (.inl ⟨p,hp,rfl⟩)).smul (1 / p.2 p.1)).cast fun j=>by grind
 ·refine(hv.bind s.to).bind fun r hr=>?_
  rcases hr with⟨p,hp,rfl⟩ | hr
  ·have:=s.one p hp;have h:Span (Rows (D.map fun p=>(p.1,fun j=>p.2 j / p.2 p.1))) (fun j=>p.2 j / p.2 p.1):=Span.of ⟨_,wj.mpr ⟨p,hp,rfl⟩,rfl⟩;exact(h.smul (p.2 p.1)).cast fun j=>by grind
  ·exact Span.zero.cast fun j=>(wz r hr j).symm
end
end La
namespace La
open Lean.Grind Nm
noncomputable def ι{F:Type}[CommRing F](w:Int):F:=(Ring.intCast:IntCast F).intCast w
section
variable{F:Type}[CommRing F]
theorem ι_add(x y:Int):(ι (x+y):F)=ι x+ι y:=Ring.intCast_add x y
theorem ι_mul(x y:Int):(ι (x*y):F)=ι x*ι y:=Ring.intCast_mul x y
theorem ι_sub(x y:Int):(ι (x - y):F)=ι x - ι y:=Ring.intCast_sub x y
theorem ι_zero:(ι 0:F)=0:=Ring.intCast_zero
theorem ι_one:(ι 1:F)=1:=Ring.intCast_one
end
structure Kf(k:Int)(F:Type)[Field F] where
 to:Nb->F
 of:F->Nb
 ok:∀ x,(of x).ok k
 to_of:∀ x,to (of x)=x
 of_to:∀ x,x.ok k->of (to x)=x
 add:∀ {x y},x.ok k->y.ok k->to (nadd k x y)=to x+to y
 sub:∀ {x y},x.ok k->y.ok k->to (nsub k x y)=to x - to y
 mul:∀ {x y},x.ok k->y.ok k->to (nmul k x y)=to x*to y
 div:∀ {x y},x.ok k->y.ok k->y≠nnum k 0->to (ndiv k x y)=to x / to y
 num:∀ w:Int,to (nnum k w)=ι w
 zero:∀ w:Int,(ι w:F)=0↔k ∣ w
 rat:∀ r:Rat,k=0->to (.q r)*ι (r.den:Int)=ι r.num
 rest:∀ i:Int,k≠0->to (.z i)=ι i
noncomputable def zpw{F:Type}[CommRing F](inv:F->F)(a:F):Int->F
 | .ofNat n=>a^n
 | .negSucc n=>inv (a^(n+1))
@[reducible] noncomputable def fieldOf {F:Type} [CommRing F] (h01:(0:F)≠1) (hinv:∀ a:F,∃ b:F,(a=0->b=0)/\(a≠0->a*b=1)):Field F :=
 have un:∀ a b c:F,a*b=1->a*c=1->b=c:=fun a b c h1 h2=>by
  have:b=b *(a*c):=by rw [h2]; grind
  have:c=c *(a*b):=by rw [h1]; grind
  grind
 let inv:F->F:=fun a=>Classical.choose (hinv a)
 have i0:∀ a,a=0->inv a=0:=fun a=>(wab (hinv a)).1
 have i1:∀ a,a≠0->a*inv a=1:=fun a=>(wab (hinv a)).2
 have ii:∀ a,inv (inv a)=a:=fun a=>by
  by_cases h:a=0
  ·rw [i0 a h,i0 0 rfl,h]
  ·have h':inv a≠0:=fun z=>by
    have:=i1 a h;rw [z] at this;exact h01 (by rw [← this]; grind)
   have e1:=i1 a h;have e2:=i1 _ h';exact un (inv a) _ _ e2 (by rw [← e1]; grind)
 letI:Inv F:=⟨inv⟩
 letI:Div F:=⟨fun a b=>a*inv b⟩
 letI:HPow F Int F:=⟨zpw inv⟩
 {zpow:=⟨zpw inv⟩
  div_eq_mul_inv:=fun a b=>rfl
  zero_ne_one:=h01
  inv_zero:=i0 0 rfl
  mul_inv_cancel:=fun {a} h=>i1 a h
  zpow_zero:=fun a=>Semiring.pow_zero a
  zpow_succ:=fun a n=>Semiring.pow_succ a n
  zpow_neg:=fun a n=>by
   show zpw inv a (-n)=inv (zpw inv a n)
   match n with
   | .ofNat 0 =>
    show a^0=inv (a^0);rw [Semiring.pow_zero];have:=i1 1 (Ne.symm h01);exact un 1 _ _ (by grind) this
   | .ofNat (m+1)=>rfl
   | .negSucc m =>
    show a^(m+1)=inv (inv (a^(m+1)));rw [ii] }
noncomputable def kfRat:Kf 0 Rat where
 to:=fun x=>match x with | .q r=>r | .z _=>0
 of:=.q
 ok:=fun _=>rfl
 to_of:=fun _=>rfl
 of_to:=fun x h=>by cases x with
  | q r=>rfl
  | z i=>exact absurd rfl h.1
 add:=fun {x y} hx hy=>by
  cases x with
  | z i=>exact absurd rfl hx.1
  | q r=>cases y with
   | z i=>exact absurd rfl hy.1
   | q s=>rfl
 sub:=fun {x y} hx hy=>by
  cases x with
  | z i=>exact absurd rfl hx.1
  | q r=>cases y with
   | z i=>exact absurd rfl hy.1
   | q s=>rfl
 mul:=fun {x y} hx hy=>by
  cases x with
  | z i=>exact absurd rfl hx.1
  | q r=>cases y with
   | z i=>exact absurd rfl hy.1
   | q s=>rfl
 div:=fun {x y} hx hy _=>by
  cases x with
  | z i=>exact absurd rfl hx.1
  | q r=>cases y with
   | z i=>exact absurd rfl hy.1
   | q s=>rfl
 num:=fun w=>rfl
 zero:=fun w=>by
  rw [Gn];exact uC
 rat:=fun r _=>by
  show r *((r.den:Int):Rat) =((r.num:Int):Rat);have e:vF r.num r.den*vF (r.den:Int) 1=vF r.num 1:=by
   rw [waa,GB (by have:=jo r; omega) (by decide)]
   grind
  have o:∀ a:Int,vF a 1 =(a:Rat):=fun a=>by
   rw [waC];show(a:Rat) / 1=a
   grind
  rw [gU,o,o] at e;exact e
 rest:=fun i h=>absurd rfl h
theorem zeN{F:Type}[Field F]{a b z:F}(h:z*b=1):a*z=a / b:=by
 have n:b≠0:=fun e=>by rw [e] at h; grind
 grind
section
variable{k:Int}{p:Nat}[NeZero p]
theorem zjS(hp:(p:Int)=k):(ι k:Fin p)=0:=by
 subst hp;show Fin.intCast (p:Int)=0;unfold Fin.intCast;rw [if_pos (uJ p)];refine Fin.ext ?_;show(p:Int).natAbs % p=0 % p;simp
theorem ze4(hp:(p:Int)=k){w:Int}(h:k ∣ w):(ι w:Fin p)=0:=by
 obtain⟨c,rfl⟩:=h;rw [ι_mul,zjS hp]; grind
theorem ZH(hp:(p:Int)=k){a b:Int}(h:k ∣ a - b):(ι a:Fin p)=ι b:=by
 have:=ze4 hp h;rw [ι_sub] at this
 grind
theorem zeL(hp:(p:Int)=k){i:Int}(h0:0<=i)(h1:i<k):((ι i:Fin p).val:Int)=i:=by
 show((Fin.intCast i:Fin p).val:Int)=i;unfold Fin.intCast;rw [if_pos h0];show((i.natAbs % p:Nat):Int)=i;rw [GE (by omega)]; omega
theorem fin_ι(x:Fin p):(ι (x.val:Int):Fin p)=x:=by
 show(Fin.intCast (x.val:Int):Fin p)=x;unfold Fin.intCast;rw [if_pos (uJ _)];refine Fin.ext ?_;show(x.val:Int).natAbs % p=x.val;rw [vN,GE x.isLt]
theorem zc1(hp:(p:Int)=k)(w:Int):(ι w:Fin p)=0↔k ∣ w:=by
 refine⟨fun h=>?_,ze4 hp⟩;have k0:0<k:=by have:=NeZero.ne p; omega
 have e:(ι w:Fin p)=ι (w % k):=ZH hp ⟨w / k,by have:=gd w k; omega⟩;have v:=zeL (p:=p) hp (gB w (by omega)) (uX w k0);rw [← e,h] at v;have:w % k=0:=by rw [← v]; rfl
 exact Int.dvd_of_emod_eq_zero this
theorem ziA(h:Pr k)(hp:(p:Int)=k)(a:Fin p):∃ b:Fin p,(a=0->b=0)/\(a≠0->a*b=1):=by
 by_cases z:a=0
 ·exact⟨0,fun _=>rfl,fun n=>absurd z n⟩
 ·have a0:0 <(a.val:Int):=by
   have:a.val≠0:=fun e=>z (Fin.ext e)
   omega
  obtain⟨x,x0,xk,hx⟩:=Qk h a0 (by have:=a.isLt; omega);refine⟨ι x,fun e=>absurd e z,fun _=>?_⟩;have:=ZH (p:=p) hp hx;rw [ι_mul,fin_ι,ι_one] at this
  grind
theorem zjO(h:Pr k)(hp:(p:Int)=k):(0:Fin p)≠1:=fun e=>by
 have:(ι 1:Fin p)=0:=by rw [ι_one]; exact e.symm
 have:=(zc1 hp 1).mp this;have:=wam (by decide) this;have:=h.lo;omega
@[reducible] noncomputable def fieldFin (h:Pr k) (hp:(p:Int)=k):Field (Fin p):=fieldOf (zjO h hp) (ziA h hp)
noncomputable def kfFin(h:Pr k)(hp:(p:Int)=k) : @Kf k (Fin p) (fieldFin h hp) :=
 letI:=fieldFin h hp
 have k1:=h.lo;have k0:k≠0:=by omega
 have fm:∀ a:Int,(ι (a.fmod k):Fin p)=ι a:=fun a=>ZH hp (YZ k a)
 {to:=fun x=>match x with | .q _=>0 | .z i=>ι i
  of:=fun x=>.z x.val
  ok:=fun x=>⟨k0,uJ _,by have:=x.isLt; omega⟩
  to_of:=fun x=>fin_ι x
  of_to:=fun x hx=>by cases x with
   | q r=>exact absurd hx k0
   | z i=>exact congrArg Nb.z (zeL hp hx.2.1 hx.2.2)
  add:=fun {x y} hx hy=>by
   cases x with
   | q r=>exact absurd hx k0
   | z i=>cases y with
    | q s=>exact absurd hy k0
    | z j=>exact(fm _).trans (ι_add i j)
  sub:=fun {x y} hx hy=>by
   cases x with
   | q r=>exact absurd hx k0
   | z i=>cases y with
    | q s=>exact absurd hy k0
    | z j=>exact(fm _).trans (ι_sub i j)
  mul:=fun {x y} hx hy=>by
   cases x with
   | q r=>exact absurd hx k0
   | z i=>cases y with
    | q s=>exact absurd hy k0
    | z j=>exact(fm _).trans (ι_mul i j)
  div:=fun {x y} hx hy ne=>by
   cases x with
   | q r=>exact absurd hx k0
   | z i=>cases y with
    | q s=>exact absurd hy k0
    | z j =>
     have j0:j≠0:=fun z=>ne (by unfold nnum; rw [if_neg k0,z,wan])
     obtain⟨x,x0,xk,hx'⟩:=Qk h (show 0<j by have:=hy.2.1; omega) hy.2.2;have e:=ZH (p:=p) hp hx';rw [ι_mul,ι_one] at e;refine Eq.trans (b:=ι i*ι x) ?_ (zeN e);show(ι ((i*zinv k j).fmod k):Fin p)=ι i*ι x;rw [fm,ι_mul,zf7 x0 xk hx']
  num:=fun w=>by
   unfold nnum;rw [if_neg k0];exact fm w
  zero:=zc1 hp
  rat:=fun r e=>absurd e k0
  rest:=fun i _=>rfl }
end
theorem yf{k:Int}(h:KindOk k):∃(F:Type)(inst:Field F)(dec:DecidableEq F),Nonempty (Kf k F):=by
 rcases h with rfl | h
 ·exact⟨Rat,inferInstance,inferInstance,⟨kfRat⟩⟩
 ·have k1:=h.lo;haveI:NeZero k.toNat:=⟨by omega⟩;have hp:((k.toNat:Nat):Int)=k:=by omega
  exact⟨Fin k.toNat,fieldFin h hp,inferInstance,⟨kfFin h hp⟩⟩
end La
namespace La
open Lean.Grind Nm
section
variable{k:Int}{F:Type}[Field F]
noncomputable def fv(ws:List Int):Nat->F:=fun j=>ι (ws.getD j 0)
theorem zcZ{ws:List Int}{j:Nat}(h:ws.length<=j):(fv ws j:F)=0:=by
 unfold fv;rw [we,wJ h];exact ι_zero
noncomputable def Nf(k:Int)(ws:List Int):Prop:=k≠0->∀ w∈ws,0<=w/\w<k
theorem XV(φ:Kf k F){ws:List Int}(h:Nf k ws)(j:Nat):(fv ws j:F)=0↔ws.getD j 0=0:=by
 unfold fv;rw [φ.zero]
 constructor
 ·intro d
  by_cases k0:k=0
  ·rw [k0,Gn] at d; exact d
  ·have hw:0<=ws.getD j 0/\ws.getD j 0<k:=by
    rcases wN j ws.length with g | g
    ·rw [we,wb g];exact h k0 _ (wk g)
    ·rw [we,wJ g];refine⟨Int.le_refl _,?_⟩;show 0<k;have n:0<=k:=by
      rcases gk k 0 with z | z
      ·exfalso
       have:=φ.ok (φ.to (.z 0));generalize φ.of (φ.to (.z 0))=x at this;cases x with
       | q r=>exact k0 this
       | z i=>obtain⟨_,i0,i1⟩:=this; omega
      ·exact z
     omega
   obtain⟨c,hc⟩:=d
   rcases waD c 0 with g | g | g
   ·have:k*c<=k *(-1):=ux (by omega) (by omega);omega
   ·rw [hc,g,Gm]
   ·have:k*1<=k*c:=ux (by omega) (by omega);omega
 ·intro e; rw [e]; exact wav k
noncomputable def gcdL(ws:List Int):Nat:=ws.foldl (fun d w=>uD d w.natAbs) 0
theorem qQ:∀(ws:List Int)(d:Nat),(ws.foldl (fun d w=>uD d w.natAbs) d ∣ d)/\∀ w∈ws,((ws.foldl (fun d w=>uD d w.natAbs) d:Nat):Int) ∣ w
 | [],d=>⟨Nat.dvd_refl d,fun w h=>nomatch h⟩
 | x::ws,d=>by
  obtain⟨h1,h2⟩:=qQ ws (uD d x.natAbs);refine⟨Gb h1 (GF _ _),fun w hw=>?_⟩
  rcases wH.mp hw with e | hw
  ·rw [e];exact Int.ofNat_dvd_left.mpr (Gb h1 (Gx _ _))
  ·exact h2 w hw
theorem zcM{ws:List Int}{w:Int}(h:w∈ws):((gcdL ws:Nat):Int) ∣ w:=(qQ ws 0).2 w h
noncomputable def easedM(k:Int)(ws:List Int):List Int:=if k≠0 then ws.map (·.fmod k)else if gcdL ws=0 then ws else ws.map fun w=>w.fdiv ((gcdL ws:Nat):Int)
theorem Qh(ws:List Int):(easedM k ws).length=ws.length:=by
 unfold easedM; split
 ·exact wa _
 ·split
  ·rfl
  ·exact wa _
theorem zbr(k0:0<=k)(ws:List Int):Nf k (easedM k ws):=fun h w hw=>by
 unfold easedM at hw;rw [if_pos h] at hw;obtain⟨x,_,rfl⟩:=wj.mp hw;exact⟨wG x (by omega),wL x (by omega)⟩
theorem zdo{α β:Type}(f:α->β)(a:α)(b:β)(h:f a=b)(l:List α)(j:Nat):(l.map f).getD j b=f (l.getD j a):=by
 rw [we,we,wg,← h];cases l[j]? <;> rfl
theorem qv{w d:Int}(h:d ∣ w)(hd:d≠0):w.fdiv d*d=w:=by
 rw [vM h]; exact uF h
theorem XO(φ:Kf k F)(ws:List Int):∃ a:F,a≠0/\∀ j,fv (easedM k ws) j=a*fv ws j:=by
 have one:(1:F)≠0:=fun e=>Field.zero_ne_one e.symm
 unfold easedM
 split
 ·rename_i h;refine⟨1,one,fun j=>?_⟩;unfold fv;rw [zdo (fun w:Int=>w.fmod k) 0 0 (wan k)];have d:=(φ.zero _).mpr (YZ k (ws.getD j 0));rw [ι_sub] at d
  grind
 ·rename_i h;have k0:k=0:=vQ fun z=>h z
  split
  ·exact⟨1,one,fun j=>by grind⟩
  ·rename_i g;have gn:(ι ((gcdL ws:Nat):Int):F)≠0:=fun z=>by
    rw [φ.zero,k0,Gn] at z; omega
   refine⟨1 / ι ((gcdL ws:Nat):Int),fun z=>?_,fun j=>?_⟩
   ·have:ι ((gcdL ws:Nat):Int) *(1 / ι ((gcdL ws:Nat):Int)) =(1:F):=by grind
    rw [z] at this;exact one (by rw [← this]; grind)
   ·unfold fv;rw [zdo (fun w:Int=>w.fdiv ((gcdL ws:Nat):Int)) 0 0 (Int.zero_fdiv _)];have dv:((gcdL ws:Nat):Int) ∣ ws.getD j 0:=by
     rcases wN j ws.length with z | z
     ·rw [we,wb z]; exact zcM (wk z)
     ·rw [we,wJ z]; exact wav _
    have e:=qv dv (by omega);have e2:(ι ((ws.getD j 0).fdiv ((gcdL ws:Nat):Int)):F)*ι ((gcdL ws:Nat):Int)=ι (ws.getD j 0):=by rw [← ι_mul,e]
    grind
noncomputable def mixed(row lead:List Int)(c:Nat):List Int:=vA (fun l r=>lead.getD c 0*l - row.getD c 0*r) row lead
noncomputable def clearedM(k:Int)(lead:List Int)(c:Nat)(row:List Int):List Int:=if row.getD c 0=0 then row else easedM k (mixed row lead c)
theorem qN{row lead:List Int}(h:row.length=lead.length)(c:Nat):(mixed row lead c).length=row.length:=by
 unfold mixed; rw [wX]; omega
theorem jx{row lead:List Int}(h:row.length=lead.length)(c:Nat):(clearedM k lead c row).length=row.length:=by
 unfold clearedM; split
 ·rfl
 ·rw [Qh,qN h]
theorem Qa{row lead:List Int}(h:row.length=lead.length)(c j:Nat):(mixed row lead c).getD j 0=lead.getD c 0*row.getD j 0 - row.getD c 0*lead.getD j 0:=by
 rcases wN j row.length with g | g
 ·have g2:j<lead.length:=by omega
  unfold mixed;rw [we,vJ,wb g,wb g2];show lead.getD c 0*row[j] - row.getD c 0*lead[j]=_;simp [we,wb g,wb g2]
 ·have g2:lead.length<=j:=by omega
  have g3:(mixed row lead c).length<=j:=by rw [qN h]; exact g
  simp [we,wJ g,wJ g2,wJ g3]
theorem XC(k0:0<=k){row lead:List Int}(c:Nat)(h:Nf k row):Nf k (clearedM k lead c row):=by
 unfold clearedM; split
 ·exact h
 ·exact zbr k0 _
theorem zaD(φ:Kf k F){row lead:List Int}(h:row.length=lead.length){c:Nat}(lc:(fv lead c:F)≠0):Clr c (fv lead:Nat->F) (fv row) (fv (clearedM k lead c row)):=by
 unfold clearedM;have one:(1:F)≠0:=fun e=>Field.zero_ne_one e.symm
 split
 ·rename_i z;refine⟨⟨1,0,one,fun j=>by grind⟩,?_⟩;show ι (row.getD c 0)=0;rw [z]; exact ι_zero
 ·obtain⟨a,ha,e⟩:=XO φ (mixed row lead c);have m:∀ j,(fv (mixed row lead c) j:F)=fv lead c*fv row j - fv row c*fv lead j:=fun j=>by
   unfold fv;rw [Qa h,ι_sub,ι_mul,ι_mul]
  refine⟨⟨a*fv lead c,-(a*fv row c),fun z=>?_,fun j=>?_⟩,?_⟩
  ·grind
  ·rw [e j,m j]; grind
  ·rw [e c,m c]; grind
noncomputable def swTurn(k:Int)(c:Nat)(s:List (Nat×List Int)×List (List Int)):List (Nat×List Int)×List (List Int) :=
 match s.2.filter (fun r=>decide (r.getD c 0≠0))with
 | []=>s
 | l::rest=>(s.1.map (fun p=>(p.1,clearedM k l c p.2))++[(c,l)],s.2.filter (fun r=>decide (r.getD c 0=0))++rest.map (clearedM k l c))
noncomputable def swTo(k:Int)(rows:List (List Int)):Nat->List (Nat×List Int)×List (List Int)
 | 0=>([],rows.map (easedM k))
 | c+1=>swTurn k c (swTo k rows c)
structure Fine(k:Int)(n:Nat)(s:List (Nat×List Int)×List (List Int)):Prop where
 dl:∀ p∈s.1,p.2.length=n
 wl:∀ w∈s.2,w.length=n
 df:∀ p∈s.1,Nf k p.2
 wf:∀ w∈s.2,Nf k w
theorem Fine.turn{n c:Nat}{s:List (Nat×List Int)×List (List Int)}(k0:0<=k)(h:Fine k n s):Fine k n (swTurn k c s):=by
 unfold swTurn;cases e:s.2.filter (fun r=>decide (r.getD c 0≠0))with
 | nil=>exact h
 | cons l rest =>
  have sub:∀ r∈l::rest,r∈s.2:=fun r hr=>by rw [← e] at hr; exact(wW.mp hr).1
  have hl:=sub l wm;refine⟨fun p hp=>?_,fun w hw=>?_,fun p hp=>?_,fun w hw=>?_⟩
  ·rcases wq.mp hp with hp | hp
   ·obtain⟨q,hq,rfl⟩:=wj.mp hp;show(clearedM k l c q.2).length=n;rw [jx (by rw [h.dl q hq,h.wl l hl]),h.dl q hq]
   ·rw [wt.mp hp]; exact h.wl l hl
  ·rcases wq.mp hw with hw | hw
   ·exact h.wl w (wW.mp hw).1
   ·obtain⟨q,hq,rfl⟩:=wj.mp hw;have:=h.wl q (sub q (wr _ hq));rw [jx (by rw [this,h.wl l hl]),this]
  ·rcases wq.mp hp with hp | hp
   ·obtain⟨q,hq,rfl⟩:=wj.mp hp;exact XC k0 c (h.df q hq)
   ·rw [wt.mp hp]; exact h.wf l hl
  ·rcases wq.mp hw with hw | hw
   ·exact h.wf w (wW.mp hw).1
   ·obtain⟨q,hq,rfl⟩:=wj.mp hw;exact XC k0 c (h.wf q (sub q (wr _ hq)))
theorem Fine.to{n:Nat}{rows:List (List Int)}(k0:0<=k)(h:∀ r∈rows,r.length=n):∀ c,Fine k n (swTo k rows c)
 | 0=>by
  refine⟨fun p hp=>(nomatch hp),fun w hw=>?_,fun p hp=>(nomatch hp),fun w hw=>?_⟩
  ·obtain⟨r,hr,rfl⟩:=wj.mp hw;rw [Qh,h r hr]
  ·obtain⟨r,hr,rfl⟩:=wj.mp hw;exact zbr k0 r
 | c+1=>(Fine.to k0 h c).turn k0
noncomputable def inF(D:List (Nat×List Int)):List (Pv F):=D.map fun p=>(p.1,fv p.2)
theorem zia(φ:Kf k F)(k0:0<=k){n:Nat}{rows:List (List Int)}(h:∀ r∈rows,r.length=n):∀ c,Sw n c (fun v=>∃ r∈rows,v =(fv r:Nat->F)) (inF (swTo k rows c).1) ((swTo k rows c).2.map fv)
 | 0=>by
  refine zgO n _ _ (fun v ⟨r,hr,e⟩=>?_) fun v hv=>?_
  ·obtain⟨a,ha,q⟩:=XO φ r;have hm:(fv (easedM k r):Nat->F)∈(swTo k rows 0).2.map fv:=wj.mpr ⟨_,wj.mpr ⟨r,hr,rfl⟩,rfl⟩;have hs:Span (fun v=>v∈(swTo k rows 0).2.map fv) (fv (easedM k r):Nat->F):=.of hm;exact(hs.smul (1 / a)).cast fun j=>by rw [e,q j]; grind
  ·obtain⟨w,hw,rfl⟩:=wj.mp hv;obtain⟨r,hr,rfl⟩:=wj.mp hw;obtain⟨a,ha,q⟩:=XO φ r;have hs:Span (fun v=>∃ r∈rows,v =(fv r:Nat->F)) (fv r):=.of ⟨r,hr,rfl⟩;exact(hs.smul a).cast fun j=>(q j).symm
 | c+1=>by
  have ih:=zia φ k0 h c;have fine:=Fine.to k0 h c;show Sw n (c+1) _ (inF (swTurn k c (swTo k rows c)).1) ((swTurn k c (swTo k rows c)).2.map fv);generalize swTo k rows c=s at ih fine;have zr:∀ r∈s.2,((fv r c:F)=0↔r.getD c 0=0):=fun r hr=>XV φ (fine.wf r hr) c
  unfold swTurn;cases e:s.2.filter (fun r=>decide (r.getD c 0≠0))with
  | nil =>
   refine ih.skip fun w hw=>?_
   obtain⟨r,hr,rfl⟩:=wj.mp hw;rw [zr r hr];refine vQ fun z=>?_
   have:r∈s.2.filter (fun r=>decide (r.getD c 0≠0)):=wW.mpr ⟨hr,by simpa using z⟩;rw [e] at this;exact nomatch this
  | cons l rest =>
   have mem:∀ r∈l::rest,r∈s.2/\r.getD c 0≠0:=fun r hr=>by
    rw [← e] at hr;obtain⟨h1,h2⟩:=wW.mp hr;exact⟨h1,by simpa using h2⟩
   obtain⟨hl,lz⟩:=mem l wm;have lc:(fv l c:F)≠0:=fun z=>lz ((zr l hl).mp z)
   have ll:=fine.wl l hl;have cl:∀ r,r.length=n->Clr c (fv l:Nat->F) (fv r) (fv (clearedM k l c r)):=fun r hr=>zaD φ (by rw [hr,ll]) lc
   show Sw n (c+1) _ (inF (s.1.map (fun p=>(p.1,clearedM k l c p.2))++[(c,l)])) ((s.2.filter (fun r=>decide (r.getD c 0=0))++rest.map (clearedM k l c)).map fv);have e1:(inF (s.1.map (fun p=>(p.1,clearedM k l c p.2))++[(c,l)]):List (Pv F))=s.1.map (fun p=>(p.1,fv (clearedM k l c p.2)))++[(c,fv l)]:=by
    unfold inF; rw [ww,vV]; rfl
   rw [e1];refine Sw.turn (E:=s.1) (a:=fun p=>(p.1,fv p.2)) (b:=fun p=>(p.1,fv (clearedM k l c p.2))) ih (wj.mpr ⟨l,hl,rfl⟩) lc (fun p hp=>⟨rfl,cl p.2 (fine.dl p hp)⟩) (fun w hw=>?_) (fun w hw=>?_)
   ·obtain⟨r,hr,rfl⟩:=wj.mp hw
    rcases wq.mp hr with hr | hr
    ·obtain⟨h1,h2⟩:=wW.mp hr;exact .inl ⟨wj.mpr ⟨r,h1,rfl⟩,(zr r h1).mpr (by simpa using h2)⟩
    ·obtain⟨q,hq,rfl⟩:=wj.mp hr;have hq2:=(mem q (wr _ hq)).1;exact .inr ⟨fv q,wj.mpr ⟨q,hq2,rfl⟩,cl q (fine.wl q hq2)⟩
   ·obtain⟨r,hr,rfl⟩:=wj.mp hw
    by_cases z:r.getD c 0=0
    ·exact .inl (wj.mpr ⟨r,wE _ (wW.mpr ⟨hr,by simpa using z⟩),rfl⟩)
    ·have hm:r∈l::rest:=by rw [← e]; exact wW.mpr ⟨hr,by simpa using z⟩
     rcases wH.mp hm with q | q
     ·exact .inr (.inl (by rw [q]))
     ·exact .inr (.inr ⟨_,wj.mpr ⟨_,wy _ (wj.mpr ⟨r,q,rfl⟩),rfl⟩,cl r (fine.wl r hr)⟩)
noncomputable abbrev RmI(F:Type)[Field F](rows:List (List Int)):(Nat->F)->Prop:=fun v=>∃ r∈rows,v=fv r
theorem zgp(φ:Kf k F)(k0:0<=k){n:Nat}{rows:List (List Int)}(h:∀ r∈rows,r.length=n) :
  Rr n ((swTo k rows n).1.map fun p=>(p.1,fun j=>(fv p.2 j / fv p.2 p.1:F))) /\
  (∀ v,Span (Rows ((swTo k rows n).1.map fun p=>(p.1,fun j=>(fv p.2 j / fv p.2 p.1:F)))) v->Span (RmI F rows) v)/\(∀ v,Span (RmI F rows) v->Span (Rows ((swTo k rows n).1.map fun p=>(p.1,fun j=>(fv p.2 j / fv p.2 p.1:F)))) v):=by
 have s:=zia φ k0 h n;have fine:=Fine.to k0 h n;have d:=s.done (fun w hw j hj=>by
  obtain⟨r,hr,rfl⟩:=wj.mp hw;exact zcZ (by rw [fine.wl r hr]; exact hj)) (fun p hp j hj=>by
  obtain⟨q,hq,rfl⟩:=wj.mp hp;exact zcZ (by rw [fine.dl q hq]; exact hj))
 have e:((inF (swTo k rows n).1:List (Pv F)).map fun p=>(p.1,fun j=>p.2 j / p.2 p.1)) =(swTo k rows n).1.map fun p=>(p.1,fun j=>(fv p.2 j / fv p.2 p.1:F)):=by
  unfold inF; rw [vV]; rfl
 rw [e] at d;exact d
theorem Zg(φ:Kf k F)(k0:0<=k){n:Nat}{rows:List (List Int)}(h:∀ r∈rows,r.length=n){p:Nat×List Int}(hp:p∈(swTo k rows n).1) :
  p.1<n/\p.2.length=n/\p.2.getD p.1 0≠0/\∀ j,j<p.1->p.2.getD j 0=0:=by
 have s:=zia φ k0 h n;have fine:=Fine.to k0 h n;have hm:((p.1,fv p.2):Pv F)∈inF (swTo k rows n).1:=wj.mpr ⟨p,hp,rfl⟩;have z:=fun j=>XV φ (fine.df p hp) j
 exact⟨s.lt _ hm,fine.dl p hp,fun e=>s.one _ hm ((z p.1).mpr e),fun j hj=>(z j).mp (s.bef _ hm j hj)⟩
end
end La
namespace La
open Lean.Grind Nm
section
variable{k:Int}{F:Type}[Field F]
theorem zU(h:KindOk k)(w:Int):(nnum k w).ok k:=by
 unfold nnum
 split
 ·assumption
 ·rename_i n;have:=h.lt;exact⟨n,wG w (by omega),wL w (by omega)⟩
noncomputable def OkR(k:Int)(xs:List Nb):Prop:=∀ x∈xs,x.ok k
noncomputable def nv(φ:Kf k F)(xs:List Nb):Nat->F:=fun j=>φ.to (xs.getD j (nnum k 0))
theorem Kf.num0(φ:Kf k F):φ.to (nnum k 0)=0:=by rw [φ.num]; exact ι_zero
theorem Kf.num1(φ:Kf k F):φ.to (nnum k 1)=1:=by rw [φ.num]; exact ι_one
theorem Kf.inj(φ:Kf k F){x y:Nb}(hx:x.ok k)(hy:y.ok k)(h:φ.to x=φ.to y):x=y:=by rw [← φ.of_to x hx,← φ.of_to y hy,h]
theorem Kf.zero_iff(φ:Kf k F)(hk:KindOk k){x:Nb}(hx:x.ok k):φ.to x=0↔x=nnum k 0 :=
 ⟨fun h=>φ.inj hx (zU hk 0) (by rw [h,φ.num0]),fun h=>by rw [h,φ.num0]⟩
theorem yW(φ:Kf k F){xs:List Nb}{j:Nat}(h:xs.length<=j):nv φ xs j=0:=by
 unfold nv;rw [we,wJ h];exact φ.num0
theorem yB(φ:Kf k F){xs:List Nb}{j:Nat}{x:Nb}(h:xs[j]?=some x):nv φ xs j=φ.to x:=by
 unfold nv;rw [we,h]; rfl
theorem zfm(φ:Kf k F){xs ys:List Nb}(hx:OkR k xs)(hy:OkR k ys)(hl:xs.length=ys.length)(h:∀ j,nv φ xs j=nv φ ys j):xs=ys:=by
 refine Gc hl fun j h1 h2=>?_
 have e:=h j;rw [yB φ (wb h1),yB φ (wb h2)] at e;exact φ.inj (hx _ (wk h1)) (hy _ (wk h2)) e
noncomputable def dot:Nat->(Nat->F)->(Nat->F)->F
 | 0,_,_=>0
 | n+1,u,v=>dot n u v+u n*v n
theorem yc{n:Nat}{u u' v v':Nat->F}(h:∀ j,j<n->u j*v j=u' j*v' j):dot n u v=dot n u' v':=by
 induction n with
 | zero=>rfl
 | succ n ih=>simp only [dot]; rw [ih fun j hj=>h j (by omega),h n (by omega)]
theorem qo(a:F)(n:Nat)(u v:Nat->F):dot n (fun j=>a*u j) v=a*dot n u v:=by
 induction n with
 | zero=>simp only [dot]; grind
 | succ n ih=>simp only [dot]; rw [ih]; grind
theorem zay(n:Nat)(u u' v:Nat->F):dot n (fun j=>u j+u' j) v=dot n u v+dot n u' v:=by
 induction n with
 | zero=>simp only [dot]; grind
 | succ n ih=>simp only [dot]; rw [ih]; grind
theorem ym(n:Nat)(u v:Nat->F):dot n u v=dot n v u:=yc fun j _=>by grind
theorem dot_zero(n:Nat)(u v:Nat->F)(h:∀ j,j<n->u j*v j=0):dot n u v=0:=by
 induction n with
 | zero=>rfl
 | succ n ih=>simp only [dot]; rw [ih fun j hj=>h j (by omega),h n (by omega)]; grind
noncomputable def ndotF(k:Int)(l:List (Nb×Nb)):Nb:=l.foldl (fun s p=>nadd k s (nmul k p.1 p.2)) (nnum k 0)
noncomputable def ndot(k:Int)(xs ys:List Nb):Nb:=ndotF k (xs.zip ys)
theorem XD{x y:Nb}(hk:KindOk k)(hx:x.ok k)(hy:y.ok k):(nadd k x y).ok k:=by
 have hl:=hk.lt;cases x with
 | q r=>cases y with
  | q s=>exact hx
  | z j=>exact absurd (show k=0 from hx) hy.1
 | z i=>cases y with
  | q s=>exact absurd (show k=0 from hy) hx.1
  | z j=>exact⟨hx.1,wG _ (by have:=hx.1; omega),wL _ (by have:=hx.1; omega)⟩
theorem yM{x y:Nb}(hk:KindOk k)(hx:x.ok k)(hy:y.ok k):(nmul k x y).ok k:=by
 have hl:=hk.lt;cases x with
 | q r=>cases y with
  | q s=>exact hx
  | z j=>exact absurd (show k=0 from hx) hy.1
 | z i=>cases y with
  | q s=>exact absurd (show k=0 from hy) hx.1
  | z j=>exact⟨hx.1,wG _ (by have:=hx.1; omega),wL _ (by have:=hx.1; omega)⟩
theorem zfO{x y:Nb}(hk:KindOk k)(hx:x.ok k)(hy:y.ok k):(ndiv k x y).ok k:=by
 have hl:=hk.lt;cases x with
 | q r=>cases y with
  | q s=>exact hx
  | z j=>exact absurd (show k=0 from hx) hy.1
 | z i=>cases y with
  | q s=>exact absurd (show k=0 from hy) hx.1
  | z j=>exact⟨hx.1,wG _ (by have:=hx.1; omega),wL _ (by have:=hx.1; omega)⟩
theorem YO(l:List (Nb×Nb))(p:Nb×Nb):ndotF k (l++[p])=nadd k (ndotF k l) (nmul k p.1 p.2):=by
 unfold ndotF; rw [Gy]; rfl
theorem Xp(hk:KindOk k):∀(l:List (Nb×Nb)),(∀ p∈l,p.1.ok k/\p.2.ok k)->(ndotF k l).ok k:=by
 intro l;unfold ndotF;have go:∀(l:List (Nb×Nb))(s:Nb),s.ok k->(∀ p∈l,p.1.ok k/\p.2.ok k)->(l.foldl (fun s p=>nadd k s (nmul k p.1 p.2)) s).ok k:=by
  intro l
  induction l with
  | nil=>intro s hs _; exact hs
  | cons p l ih=>intro s hs h; exact ih _ (XD hk hs (yM hk (h p wm).1 (h p wm).2)) fun q hq=>h q (wr _ hq)
 exact fun h=>go l _ (zU hk 0) h
theorem zhD{xs ys:List Nb}(hx:OkR k xs)(hy:OkR k ys):∀ p∈xs.zip ys,p.1.ok k/\p.2.ok k:=fun p hp=>by
 obtain⟨a,b⟩:=p;obtain⟨h1,h2⟩:=wR hp;exact⟨hx _ h1,hy _ h2⟩
theorem xv(hk:KindOk k){xs ys:List Nb}(hx:OkR k xs)(hy:OkR k ys):(ndot k xs ys).ok k:=Xp hk _ (zhD hx hy)
theorem zaK(φ:Kf k F)(hk:KindOk k){xs ys:List Nb}(hx:OkR k xs)(hy:OkR k ys)(hl:xs.length=ys.length):∀ i,i<=xs.length->φ.to (ndotF k ((xs.zip ys).take i))=dot i (nv φ xs) (nv φ ys)
 | 0,_=>by
  show φ.to (nnum k 0)=0;exact φ.num0
 | i+1,h=>by
  have h1:i<xs.length:=h;have h2:i<ys.length:=by omega
  have hz:i <(xs.zip ys).length:=by rw [vI]; omega
  rw [vG hz,YO,GH];have ih:=zaK φ hk hx hy hl i (by omega);have o1:=hx _ (wk h1);have o2:=hy _ (wk h2);rw [φ.add (Xp hk _ fun p hp=>zhD hx hy p (uT hp)) (yM hk o1 o2),ih,φ.mul o1 o2];simp only [dot];rw [yB φ (wb h1),yB φ (wb h2)]
theorem xU(φ:Kf k F)(hk:KindOk k){xs ys:List Nb}(hx:OkR k xs)(hy:OkR k ys)(hl:xs.length=ys.length):φ.to (ndot k xs ys)=dot xs.length (nv φ xs) (nv φ ys):=by
 have h:=zaK φ hk hx hy hl xs.length (wu _);rw [wp (by rw [vI]; omega)] at h;exact h
noncomputable def scW(b:Int):Nb->Int
 | .q r=>r.num*b.fdiv (r.den:Int)
 | .z i=>i
noncomputable def dvB(b:Int):Nb->Prop
 | .q r=>(r.den:Int) ∣ b
 | .z _=>True
structure Scl(k:Int)(xs:List Nb)(ws:List Int)(b:Int):Prop where
 eq:ws=xs.map (scW b)
 pos:0<b
 one:k≠0->b=1
 dv:∀ x∈xs,dvB b x
theorem Scl.len{xs:List Nb}{ws:List Int}{b:Int}(s:Scl k xs ws b):ws.length=xs.length:=by rw [s.eq,wa]
theorem Scl.ne(φ:Kf k F)(hk:KindOk k){xs:List Nb}{ws:List Int}{b:Int}(s:Scl k xs ws b):(ι b:F)≠0:=fun z=>by
 rw [φ.zero] at z
 by_cases k0:k=0
 ·rw [k0,Gn] at z; have:=s.pos; omega
 ·rw [s.one k0] at z;have:=wam (by decide) z
  rcases hk with h | h
  ·exact k0 h
  ·have:=h.lo; omega
theorem zjn(φ:Kf k F){b:Int}(one:k≠0->b=1){x:Nb}(hx:x.ok k)(dv:dvB b x):(ι (scW b x):F)=φ.to x*ι b:=by
 cases x with
 | q r =>
  have k0:k=0:=hx;have e:=φ.rat r k0;have d:(r.den:Int) ∣ b:=dv;have e2:=qv d (jo r);show(ι (r.num*b.fdiv (r.den:Int)):F)=_;rw [ι_mul,← e];have e3:(ι (b.fdiv (r.den:Int)):F)*ι (r.den:Int)=ι b:=by rw [← ι_mul,e2]
  grind
 | z i =>
  have k0:k≠0:=hx.1;rw [φ.rest i k0,one k0,ι_one];show(ι i:F)=_
  grind
theorem Scl.fv(φ:Kf k F){xs:List Nb}{ws:List Int}{b:Int}(s:Scl k xs ws b)(hx:OkR k xs)(j:Nat):(La.fv ws j:F)=nv φ xs j*ι b:=by
 rcases wN j xs.length with g | g
 ·have e:ws[j]?=some (scW b xs[j]):=by rw [s.eq,wg,wb g]; rfl
  rw [yB φ (wb g),← zjn φ s.one (hx _ (wk g)) (s.dv _ (wk g))];unfold La.fv;rw [we,e]; rfl
 ·rw [yW φ g,zcZ (by rw [s.len]; exact g)]; grind
theorem zig(n:Nat){ws vs:List Int}(h1:ws.length=n)(h2:vs.length=n):(ι (vA (·*·) ws vs).sum:F)=dot n (fv ws) (fv vs):=by
 have go:∀ i,i<=n->(ι ((vA (·*·) ws vs).take i).sum:F)=dot i (fv ws) (fv vs):=by
  intro i
  induction i with
  | zero=>intro _; rw [waU,wa5]; exact ι_zero
  | succ i ih =>
   intro hi;have hz:i <(vA (·*·) ws vs).length:=by rw [wX]; omega
   rw [vG hz,waQ,ι_add,ih (by omega),uw];simp only [dot];have e1:(fv ws i:F)=ι (ws[i]'(by omega)):=by unfold fv; rw [we,wb (by omega)]; rfl
   have e2:(fv vs i:F)=ι (vs[i]'(by omega)):=by unfold fv; rw [we,wb (by omega)]; rfl
   rw [e1,e2,← ι_mul];simp
 have:=go n (wu _);rw [wp (by rw [wX]; omega)] at this;exact this
theorem zao(φ:Kf k F){b:Int}(h:(ι b:F)≠0):nnum k b≠nnum k 0:=fun z=>h (by rw [← φ.num,z,φ.num0])
theorem zji(hk:KindOk k){xs ys:List Nb}{ws vs:List Int}{b c:Int}(hl:xs.length=ys.length)(s1:Scl k xs ws b)(s2:Scl k ys vs c)(hx:OkR k xs)(hy:OkR k ys) :
  nnum k (b*c)≠nnum k 0/\ndiv k (nnum k (vA (·*·) ws vs).sum) (nnum k (b*c))=ndot k xs ys:=by
 obtain⟨F,_,_,⟨φ⟩⟩:=yf hk;have n1:=s1.ne φ hk;have n2:=s2.ne φ hk;have n3:(ι (b*c):F)≠0:=fun z=>by rw [ι_mul] at z; grind
 have nn:=zao φ n3;refine⟨nn,φ.inj (zfO hk (zU hk _) (zU hk _)) (xv hk hx hy) ?_⟩;rw [φ.div (zU hk _) (zU hk _) nn,φ.num,φ.num,xU φ hk hx hy hl,zig xs.length s1.len (by rw [s2.len,hl]),ι_mul];have e:dot xs.length (La.fv ws) (La.fv vs) =(ι b*ι c)*dot xs.length (nv φ xs) (nv φ ys):=by
  rw [← qo];exact yc fun j _=>by rw [s1.fv φ hx,s2.fv φ hy]; grind
 rw [e]; grind
noncomputable def RmN(φ:Kf k F)(M:List (List Nb)):(Nat->F)->Prop:=fun v=>∃ r∈M,v=nv φ r
noncomputable def OkM(k:Int)(n:Nat)(M:List (List Nb)):Prop:=∀ r∈M,r.length=n/\OkR k r
structure IsR(φ:Kf k F)(n:Nat)(R:List (List Nb))(ls:List Nat):Prop where
 ok:OkM k n R
 len:ls.length=R.length
 rr:Rr n (ls.zip (R.map (nv φ)))
structure RedOf(φ:Kf k F)(n:Nat)(M R:List (List Nb))(ls:List Nat):Prop extends IsR φ n R ls where
 to:∀ v,Span (RmN φ M) v->Span (RmN φ R) v
 fro:∀ v,Span (RmN φ R) v->Span (RmN φ M) v
theorem ZU{φ:Kf k F}{R:List (List Nb)}{ls:List Nat}(h:ls.length=R.length)(v:Nat->F):Rows (ls.zip (R.map (nv φ))) v↔RmN φ R v:=by
 constructor
 ·rintro ⟨p,hp,rfl⟩
  obtain⟨a,b⟩:=p;obtain⟨r,hr,e⟩:=wj.mp (wR hp).2;exact⟨r,hr,e.symm⟩
 ·rintro ⟨r,hr,rfl⟩
  obtain⟨i,hi,e⟩:=wI hr;have h1:i<ls.length:=by omega
  have h2:i <(R.map (nv φ)).length:=by rw [wa]; exact hi
  refine⟨(ls[i],(R.map (nv φ))[i]),?_,by simp [e]⟩;rw [← GH (h:=by rw [vI]; omega)];exact wk _
theorem IsR.rows{φ:Kf k F}{n:Nat}{R:List (List Nb)}{ls:List Nat}(h:IsR φ n R ls){v:Nat->F}:Span (Rows (ls.zip (R.map (nv φ)))) v↔Span (RmN φ R) v :=
 ⟨fun q=>q.mono fun u=>(ZU h.len u).mp,fun q=>q.mono fun u=>(ZU h.len u).mpr⟩
theorem IsR.unique{φ:Kf k F}{n:Nat}{R R':List (List Nb)}{ls ls':List Nat}(h:IsR φ n R ls)(h':IsR φ n R' ls')(s1:∀ v,Span (RmN φ R) v->Span (RmN φ R') v)(s2:∀ v,Span (RmN φ R') v->Span (RmN φ R) v):R=R'/\ls=ls':=by
 have e:=h.rr.unique h'.rr (fun v q=>h'.rows.mpr (s1 v (h.rows.mp q))) (fun v q=>h.rows.mpr (s2 v (h'.rows.mp q)));have el:=congrArg (war Prod.fst) e;have er:=congrArg (war Prod.snd) e;rw [uU (by rw [wa]; exact gj h.len),uU (by rw [wa]; exact gj h'.len)] at el;rw [waL (by rw [wa]; exact gj h.len.symm),waL (by rw [wa]; exact gj h'.len.symm)] at er;refine⟨?_,el⟩;have hl:R.length=R'.length:=by have:=congrArg Ga er; simpa using this
 refine Gc hl fun i h1 h2=>?_
 have e2:(R.map (nv φ))[i]'(by simpa using h1) =(R'.map (nv φ))[i]'(by simpa using h2):=by simp only [er]
 rw [Gd,Gd] at e2;have o1:=h.ok _ (wk h1);have o2:=h'.ok _ (wk h2);exact zfm φ o1.2 o2.2 (by rw [o1.1,o2.1]) fun j=>by rw [e2]
theorem RedOf.unique{φ:Kf k F}{n:Nat}{M M' R R':List (List Nb)}{ls ls':List Nat}(h:RedOf φ n M R ls)(h':RedOf φ n M' R' ls')(s1:∀ v,Span (RmN φ M) v->Span (RmN φ M') v)(s2:∀ v,Span (RmN φ M') v->Span (RmN φ M) v):R=R' :=
 (h.toIsR.unique h'.toIsR (fun v q=>h'.to v (s1 v (h.fro v q))) (fun v q=>h.to v (s2 v (h'.fro v q)))).1
theorem IsR.red{φ:Kf k F}{n:Nat}{R:List (List Nb)}{ls:List Nat}(h:IsR φ n R ls):RedOf φ n R R ls:={ h with to:=fun _ q=>q,fro:=fun _ q=>q }
noncomputable def overL(k:Int)(p:Nat×List Int):List Nb:=p.2.map fun w=>ndiv k (nnum k w) (nnum k (p.2.getD p.1 0))
noncomputable def redM(k:Int)(n:Nat)(Ws:List (List Int)):List (List Nb):=(swTo k Ws n).1.map (overL k)
noncomputable def leadsM(k:Int)(n:Nat)(Ws:List (List Int)):List Nat:=(swTo k Ws n).1.map (·.1)
theorem Jw(φ:Kf k F)(hk:KindOk k){n:Nat}{M:List (List Nb)}{Ws:List (List Int)}(ok:OkM k n M)(hl:Ws.length=M.length)(hs:∀(i:Nat)(r:List Nb)(ws:List Int),M[i]?=some r->Ws[i]?=some ws->∃ b,Scl k r ws b) :
  RedOf φ n M (redM k n Ws) (leadsM k n Ws):=by
 have k0:=hk.lt.1;have pair:∀ ws∈Ws,∃ r∈M,∃ b,Scl k r ws b:=fun ws hw=>by
  obtain⟨i,hi,e⟩:=wI hw;have h2:i<M.length:=by omega
  exact⟨M[i],wk h2,hs i M[i] ws (wb h2) (by rw [wb hi,e])⟩
 have pair2:∀ r∈M,∃ ws∈Ws,∃ b,Scl k r ws b:=fun r hr=>by
  obtain⟨i,hi,e⟩:=wI hr;have h2:i<Ws.length:=by omega
  exact⟨Ws[i],wk h2,hs i r Ws[i] (by rw [wb hi,e]) (wb h2)⟩
 have wl:∀ ws∈Ws,ws.length=n:=fun ws hw=>by
  obtain⟨r,hr,b,s⟩:=pair ws hw;rw [s.len,(ok r hr).1]
 obtain⟨rr,s1,s2⟩:=zgp φ k0 wl;have sp1:∀ v,Span (RmI F Ws) v->Span (RmN φ M) v:=fun v q=>q.bind fun u ⟨ws,hw,e⟩=>by
  obtain⟨r,hr,b,s⟩:=pair ws hw;have:Span (RmN φ M) (nv φ r):=.of ⟨r,hr,rfl⟩;exact(this.smul (ι b)).cast fun j=>by rw [e,s.fv φ (ok r hr).2]; grind
 have sp2:∀ v,Span (RmN φ M) v->Span (RmI F Ws) v:=fun v q=>q.bind fun u ⟨r,hr,e⟩=>by
  obtain⟨ws,hw,b,s⟩:=pair2 r hr;have:Span (RmI F Ws) (La.fv ws):=.of ⟨ws,hw,rfl⟩;have n:=s.ne φ hk;exact(this.smul (1 / ι b)).cast fun j=>by rw [e,s.fv φ (ok r hr).2]; grind
 have rowv:∀ p∈(swTo k Ws n).1,(nv φ (overL k p):Nat->F)=fun j=>fv p.2 j / fv p.2 p.1:=fun p hp=>by
  obtain⟨p1,p2,p3,p4⟩:=Zg φ k0 wl hp;have fine:=Fine.to k0 wl n;have ln:(ι (p.2.getD p.1 0):F)≠0:=fun z=>p3 ((XV φ (fine.df p hp) p.1).mp z)
  funext j
  rcases wN j p.2.length with g | g
  ·have e:(overL k p)[j]?=some (ndiv k (nnum k p.2[j]) (nnum k (p.2.getD p.1 0))):=by unfold overL; rw [wg,wb g]; rfl
   rw [yB φ e,φ.div (zU hk _) (zU hk _) (zao φ ln),φ.num,φ.num];show _=fv p.2 j / fv p.2 p.1;unfold fv;rw [we (l:=p.2) (i:=j),wb g]; rfl
  ·rw [yW φ (by unfold overL; rw [wa]; exact g)];show _=fv p.2 j / fv p.2 p.1;rw [zcZ g]; grind
 have zz:(leadsM k n Ws).zip ((redM k n Ws).map (nv φ)) =(swTo k Ws n).1.map fun p=>(p.1,fun j=>(fv p.2 j / fv p.2 p.1:F)):=by
  unfold leadsM redM;rw [vV,List.zip_map',List.map_inj_left];intro p hp;show(p.1,nv φ (overL k p))=_;rw [rowv p hp]
 have hlen:(leadsM k n Ws).length =(redM k n Ws).length:=by unfold leadsM redM; rw [wa,wa]
 refine⟨⟨fun r hr=>?_,hlen,by rw [zz]; exact rr⟩,fun v q=>?_,fun v q=>?_⟩
 ·obtain⟨p,hp,rfl⟩:=wj.mp hr;obtain⟨p1,p2,p3,p4⟩:=Zg φ k0 wl hp;refine⟨by unfold overL; rw [wa]; exact p2,fun x hx=>?_⟩;obtain⟨w,_,rfl⟩:=wj.mp hx;exact zfO hk (zU hk _) (zU hk _)
 ·have:=s2 v (sp2 v q);rw [← zz] at this;exact this.mono fun u=>(ZU hlen u).mp
 ·refine sp1 v (s1 v ?_);rw [← zz];exact q.mono fun u=>(ZU hlen u).mpr
end
end La
namespace Nm
theorem php:∀(n:Nat)(f:Nat->Nat),(∀ i,i<n+1->f i<n)->∃ i j,i<j/\j<n+1/\f i=f j
 | 0,f,h=>absurd (h 0 (by omega)) (by omega)
 | n+1,f,h=>by
  by_cases c:∃ i,i<n+1/\f i=f (n+1)
  ·obtain⟨i,hi,e⟩:=c;exact⟨i,n+1,hi,by omega,e⟩
  have c':∀ i,i<n+1->f i≠f (n+1):=fun i hi e=>c ⟨i,hi,e⟩
  have hv:=h (n+1) (by omega);obtain⟨i,j,hij,hj,e⟩:=php n (fun i=>if f i=n then f (n+1)else f i) (fun i hi=>by
   have h1:=h i (by omega);have h2:=c' i hi
   split <;> omega)
  refine⟨i,j,hij,by omega,?_⟩;have hi:=c' i (by omega);have hj':=c' j (by omega)
  split at e <;> split at e <;> omega
theorem onto{n:Nat}{f:Nat->Nat}(hf:∀ i,i<n->f i<n)(inj:∀ i j,i<j->j<n->f i≠f j){r:Nat}(hr:r<n):∃ i,i<n/\f i=r:=by
 cases Classical.em (∃ i,i<n/\f i=r)with
 | inl h=>exact h
 | inr h =>
  exfalso
  obtain⟨m,rfl⟩ : ∃ m,n=m+1:=⟨n - 1,by omega⟩;obtain⟨i,j,hij,hj,e⟩:=php m (fun i=>if f i=m then r else f i) (fun i hi=>by
   have h1:=hf i (by omega);have h2:f i≠r:=fun e=>h ⟨i,by omega,e⟩
   split <;> omega)
  have h1:f i≠r:=fun e=>h ⟨i,by omega,e⟩
  have h2:f j≠r:=fun e=>h ⟨j,by omega,e⟩
  have h3:=inj i j hij (by omega)
  split at e <;> split at e <;> omega
theorem zb5{p a x y:Nat}(hx:a^x % p=1 % p)(hy:a^y % p=1 % p):a^(x % y) % p=1 % p:=by
 have e:a^x =(a^y)^(x / y)*a^(x % y):=by rw [← wac,← uu,GT]
 have h1:(a^y)^(x / y) % p=1 % p:=by rw [gD,hy,← gD,wbd]
 rw [e,Ge,h1,← Ge,um] at hx;exact hx
theorem ziG{p a:Nat}:∀ x y,a^x % p=1 % p->a^y % p=1 % p->a^(uD x y) % p=1 % p:=fun x y=>by
 induction x,y using uD.induction with
 | H0 n=>intro _ h; rw [Nat.gcd_zero_left]; exact h
 | H1 m n hm ih =>
  intro hx hy;rw [wbe];exact ih (zb5 hy hx) hx
theorem zen{Q q' M g:Nat}(hQ:∀ h,h<=Q->h ∣ Q->h=Q\/h ∣ q')(Q0:0<Q)(hg:g ∣ Q*M)(hn:¬ g ∣ q'*M):Q ∣ g:=by
 have h1:uD g Q ∣ Q:=Gx _ _
 rcases hQ _ (wao Q0 h1) h1 with e | e
 ·rw [← e]; exact GF _ _
 ·exfalso
  apply hn
  have h2:g ∣ uD (g*M) (Q*M):=Nat.dvd_gcd (waE _ _) hg;rw [Nat.gcd_mul_right] at h2;exact Gb h2 (Nat.mul_dvd_mul_right e M)
noncomputable def pw(p:Nat):Nat->Nat->Nat->Nat
 | 0,_,_=>1 % p
 | f+1,a,n=>if n=0 then 1 % p else if n % 2=1 then pw p f (a*a % p) (n / 2)*a % p else pw p f (a*a % p) (n / 2)
theorem pw_eq(p:Nat):∀ f a n,n<2^f->pw p f a n=a^n % p
 | 0,a,n,h=>by
  have:n=0:=by simpa using h
  subst this; rfl
 | f+1,a,n,h=>by
  have e:a^n =(a*a)^(n / 2)*a^(n % 2):=by rw [← wbf,← wac,← uu,GT]
  have ih:=pw_eq p f (a*a % p) (n / 2) (by rw [gm] at h; omega);unfold pw
  split
  ·rename_i z; subst z; rfl
  ·split
   ·rename_i z;rw [ih,← gD,e,z,wbg,Nat.mod_mul_mod]
   ·rename_i z;rw [ih,← gD,e,show n % 2=0 by omega,wax,gK]
noncomputable def gp:Nat:=2305843009213693951
theorem zim(N:Nat)(h:N=2305843009213693950):37^N % gp=1 % gp:=by
 rw [← pw_eq gp 61 37 N (by rw [h]; decide),h]; decide +kernel
theorem zjQ(N:Nat)(h:N=2305843009213693950):∀ q∈[2,3,5,7,11,13,31,41,61,151,331,1321],37^(N / q) % gp≠1 % gp:=by
 intro q hq;rw [← pw_eq gp 61 37 _ (ug (Nat.div_le_self _ _) (by rw [h]; decide))];subst h
 revert q
 decide +kernel
set_option maxHeartbeats 1000000 in
theorem zi8{d:Nat}(h0:0<d)(h1:d<2305843009213693950)(h:37^d % gp=1 % gp):False:=by
 obtain⟨N,hN⟩ : ∃ N,N=2305843009213693950:=⟨_,rfl⟩;have hg:=ziG d N h (zim N hN);have dl:uD d N ∣ N:=Gx _ _;have dd:uD d N ∣ d:=GF _ _;generalize uD d N=g at *;have no:∀ q∈[2,3,5,7,11,13,31,41,61,151,331,1321],∀ y,y*q=N->0<q->¬ g ∣ y:=fun q hq y hy q0 ⟨m,e⟩=>by
  refine zjQ N hN q hq ?_;rw [← hy,Nat.mul_div_cancel _ q0,e,wac,gD,hg,← gD,wbd]
 have fl:∀ Q q' M q:Nat,q∈[2,3,5,7,11,13,31,41,61,151,331,1321]->(∀ h,h<=Q->h ∣ Q->h=Q\/h ∣ q')->0<Q->0<q->Q*M=N->q'*M*q=N->Q ∣ g:=fun Q q' M q hq h Q0 q0 e1 e2 =>
  zen h Q0 (by rw [e1]; exact dl) (no q hq _ e2 q0)
 clear hg h no dl;subst hN;have a1:2 ∣ g:=fl 2 1 1152921504606846975 2 (by decide) (by decide +kernel) (by decide) (by decide) (by decide) (by decide);have a2:9 ∣ g:=fl 9 3 256204778801521550 3 (by decide) (by decide +kernel) (by decide) (by decide) (by decide) (by decide);have a3:25 ∣ g:=fl 25 5 92233720368547758 5 (by decide) (by decide +kernel) (by decide) (by decide) (by decide) (by decide);have a4:7 ∣ g:=fl 7 1 329406144173384850 7 (by decide) (by decide +kernel) (by decide) (by decide) (by decide) (by decide);have a5:11 ∣ g:=fl 11 1 209622091746699450 11 (by decide) (by decide +kernel) (by decide) (by decide) (by decide) (by decide);have a6:13 ∣ g:=fl 13 1 177372539170284150 13 (by decide) (by decide +kernel) (by decide) (by decide) (by decide) (by decide);have a7:31 ∣ g:=fl 31 1 74382032555280450 31 (by decide) (by decide +kernel) (by decide) (by decide) (by decide) (by decide);have a8:41 ∣ g:=fl 41 1 56240073395455950 41 (by decide) (by decide +kernel) (by decide) (by decide) (by decide) (by decide);have a9:61 ∣ g:=fl 61 1 37800705069076950 61 (by decide) (by decide +kernel) (by decide) (by decide) (by decide) (by decide);have a10:151 ∣ g:=fl 151 1 15270483504726450 151 (by decide) (by decide +kernel) (by decide) (by decide) (by decide) (by decide);have a11:331 ∣ g:=fl 331 1 6966293079195450 331 (by decide) (by decide +kernel) (by decide) (by decide) (by decide) (by decide);have a12:1321 ∣ g:=fl 1321 1 1745528394559950 1321 (by decide) (by decide +kernel) (by decide) (by decide) (by decide) (by decide);clear fl;have mk:∀ x y z:Nat,Nat.Coprime x y->x*y=z->x ∣ g->y ∣ g->z ∣ g:=fun x y z h e p q=>e ▸ Nat.Coprime.mul_dvd_of_dvd_of_dvd h p q
 have c:=mk 2 9 18 (by decide +kernel) (by decide) a1 a2;have c:=mk 18 25 450 (by decide +kernel) (by decide) c a3;have c:=mk 450 7 3150 (by decide +kernel) (by decide) c a4;have c:=mk 3150 11 34650 (by decide +kernel) (by decide) c a5;have c:=mk 34650 13 450450 (by decide +kernel) (by decide) c a6;have c:=mk 450450 31 13963950 (by decide +kernel) (by decide) c a7;have c:=mk 13963950 41 572521950 (by decide +kernel) (by decide) c a8;have c:=mk 572521950 61 34923838950 (by decide +kernel) (by decide) c a9;have c:=mk 34923838950 151 5273499681450 (by decide +kernel) (by decide) c a10;have c:=mk 5273499681450 331 1745528394559950 (by decide +kernel) (by decide) c a11;have c:=mk 1745528394559950 1321 2305843009213693950 (by decide +kernel) (by decide) c a12;have e:2305843009213693950 ∣ g:=c;exact absurd (wao h0 (Gb e dd)) (Nat.not_le_of_lt h1)
theorem zhx(i:Nat):uD gp (37^i % gp)=1:=by
 rw [wa6,← wbe,wa6];exact Nat.Coprime.pow_left i (by decide +kernel)
theorem zgC(r:Nat)(h0:0<r)(h1:r<gp):uD gp r=1:=by
 have cancel:∀ i j,i<j->j<2305843009213693950->37^i % gp≠37^j % gp:=fun i j hij hj e=>by
  have e1:37^j=37^i*37^(j - i):=by rw [← uu]; congr 1; omega
  have d:gp ∣ 37^j - 37^i:=Nat.dvd_of_mod_eq_zero (Nat.sub_mod_eq_zero_of_mod_eq e.symm);rw [e1,show 37^i*37^(j - i) - 37^i=37^i *(37^(j - i) - 1) by rw [wad,gK]] at d;have c:Nat.Coprime gp (37^i):=(Nat.Coprime.pow_left i (by decide +kernel:Nat.Coprime 37 gp)).symm;have d':=c.dvd_of_dvd_mul_left d;refine zi8 (d:=j - i) (by omega) (by omega) ?_;obtain⟨c,hc⟩:=d';have h1:1<=37^(j - i):=Nat.one_le_pow _ _ (by decide);rw [show 37^(j - i)=1+gp*c by omega,Nat.add_mul_mod_self_left]
 have pos:∀ i,0<37^i % gp:=fun i=>by
  have:=zhx i
  rcases Gr (37^i % gp)with z | z
  ·rw [z,Nat.gcd_zero_right] at this; exact absurd this (by decide)
  ·exact z
 obtain⟨i,_,e⟩:=onto (n:=2305843009213693950) (f:=fun i=>37^i % gp - 1) (fun i _=>by
   have h:37^i % gp<2305843009213693951:=wap _ (by decide);have:=pos i;show 37^i % gp - 1<_;omega) (fun i j hij hj e=>by
   have:=pos i;have:=pos j;have:=cancel i j hij hj;omega) (r:=r - 1) (by have:r<2305843009213693951:=h1; omega)
 have:=pos i;have e':37^i % gp=r:=by omega
 rw [← e'];exact zhx i
theorem zjr:Pr 2305843009213693951:=⟨by decide,by decide,fun r h0 h1=>by
 have:=zgC r.toNat (by omega) (by show r.toNat<2305843009213693951; omega);rw [uE,show r.natAbs=r.toNat by omega];exact this⟩
end Nm
namespace La
open Lean.Grind Nm
section
variable{k:Int}
theorem zfh(l:List Int)(w:Int):gcdL (l++[w])=uD (gcdL l) w.natAbs:=by unfold gcdL; rw [Gy]; rfl
theorem zbD(l l':List Int):gcdL (l++l') ∣ gcdL l:=by unfold gcdL; rw [Gy]; exact(qQ l' _).1
theorem zg0{ws:List Int}{i:Nat}(h:gcdL (ws.take i)=1):gcdL ws=1:=by
 have:=zbD (ws.take i) (ws.drop i);rw [List.take_append_drop,h] at this;exact Nat.dvd_one.mp this
theorem zdL{ws:List Int}(h:gcdL ws=1):easedM 0 ws=ws:=by
 unfold easedM;rw [if_neg (by simp),if_neg (by omega),h];have:(fun w:Int=>w.fdiv ((1:Nat):Int))=id:=funext fun w=>Int.fdiv_one w
 rw [this,List.map_id]
theorem zdu{ws:List Int}(h:gcdL ws=0):easedM 0 ws=ws:=by
 unfold easedM;rw [if_neg (by simp),if_pos h]
theorem zea{ws:List Int}(h:gcdL ws≠0):easedM 0 ws=ws.map fun w=>w.fdiv ((gcdL ws:Nat):Int):=by
 unfold easedM;rw [if_neg (by simp),if_neg h]
theorem zed(h:k≠0)(ws:List Int):easedM k ws=ws.map (·.fmod k):=by
 unfold easedM;rw [if_pos h]
theorem ZK(rows:List (List Int)):∀ c,(swTo k rows c).1.length +(swTo k rows c).2.length=rows.length
 | 0=>by show 0 +(rows.map (easedM k)).length=_; rw [wa]; omega
 | c+1=>by
  have ih:=ZK rows c;show(swTurn k c (swTo k rows c)).1.length +(swTurn k c (swTo k rows c)).2.length=_;generalize swTo k rows c=s at ih;unfold swTurn;cases e:s.2.filter (fun r=>decide (r.getD c 0≠0))with
  | nil=>exact ih
  | cons l rest =>
   show(s.1.map _++[(c,l)]).length +(s.2.filter _++rest.map _).length=_;have h1:(s.2.filter (fun r=>decide (r.getD c 0≠0))).length=rest.length+1:=by rw [e]; rfl
   have h2:∀ l:List (List Int),(l.filter (fun r=>decide (r.getD c 0≠0))).length +(l.filter (fun r=>decide (r.getD c 0=0))).length=l.length:=by
    intro l
    induction l with
    | nil=>rfl
    | cons x l ih =>
     rw [uH,uH]
     by_cases z:x.getD c 0=0
     ·simp only [z,ne_eq,not_true_eq_false,decide_false,decide_true,if_true,vK];simp only [wat,if_false];simp only [ne_eq] at ih;omega
     ·simp only [z,ne_eq,not_false_eq_true,decide_false,decide_true,if_true,vK];simp only [wat,if_false];simp only [ne_eq] at ih;omega
   have h3:=h2 s.2;simp only [wx,wa,vK,Gh];omega
theorem zcT:∀ c,swTo k [] c =([],[])
 | 0=>rfl
 | c+1=>by
  show swTurn k c (swTo k [] c)=_;rw [zcT c]; rfl
theorem xm{α:Type}{l:List α}{i:Nat}{x:α}(p:α->Bool)(h:l[i]?=some x):(l.take (i+1)).filter p =(l.take i).filter p ++(if p x=true then [x] else []):=by
 obtain⟨hi,e⟩:=wo.mp h;rw [vG hi,List.filter_append,e,uH,List.filter_nil]
theorem zhi{ws:List Int}{p:Nat}(hp:p<ws.length)(hz:∀ j,j<p->ws.getD j 0=0)(hn:ws.getD p 0≠0):(ws.filter fun w=>decide (w≠0))[0]?=some (ws.getD p 0):=by
 induction ws generalizing p with
 | nil=>simp at hp
 | cons w ws ih =>
  cases p with
  | zero =>
   have h:w≠0:=by simpa using hn
   rw [uH,if_pos (by simpa using h)];simp
  | succ p =>
   have h0:w=0:=by simpa using hz 0 (Nat.succ_pos p)
   rw [uH,if_neg (by simp [h0])];have:=ih (p:=p) (by simpa using hp) (fun j hj=>by have:=hz (j+1) (by omega); simpa using this) (by simpa using hn);rw [this]; simp
end
end La
namespace La
open Lean.Grind Nm
noncomputable def dB(D B:Nat):Nb->Prop
 | .q r=>∃ a:Int,r *((D:Int):Rat) =((a:Int):Rat)/\a.natAbs<=B
 | .z _=>True
theorem dB.mul{k:Int}{D B D' B':Nat}{x y:Nb}(hx:dB D B x)(hy:dB D' B' y)(ox:x.ok k)(oy:y.ok k):dB (D*D') (B*B') (nmul k x y):=by
 cases x with
 | q r =>
  cases y with
  | q s =>
   obtain⟨a,ea,ha⟩:=hx;obtain⟨b,eb,hb⟩:=hy;refine⟨a*b,?_,?_⟩
   ·have e1:(((D*D':Nat):Int):Rat) =((D:Int):Rat) *((D':Int):Rat):=by rw [uP,vg]
    rw [e1,vg,← ea,← eb]
    grind
   ·rw [vx]; exact vt ha hb
  | z j=>exact absurd (show k=0 from ox) oy.1
 | z i =>
  cases y with
  | q s=>exact absurd (show k=0 from oy) ox.1
  | z j=>trivial
theorem dB.add{k:Int}{D B B':Nat}{x y:Nb}(hx:dB D B x)(hy:dB D B' y)(ox:x.ok k)(oy:y.ok k):dB D (B+B') (nadd k x y):=by
 cases x with
 | q r =>
  cases y with
  | q s =>
   obtain⟨a,ea,ha⟩:=hx;obtain⟨b,eb,hb⟩:=hy;refine⟨a+b,?_,?_⟩
   ·rw [GU,← ea,← eb]
    grind
   ·have:=Gv a b; omega
  | z j=>exact absurd (show k=0 from ox) oy.1
 | z i =>
  cases y with
  | q s=>exact absurd (show k=0 from oy) ox.1
  | z j=>trivial
theorem dB.up{D B:Nat}{x:Nb}(hx:dB D B x)(e c:Nat)(he:e<=c):dB (e*D) (c*B) x:=by
 cases x with
 | q r =>
  obtain⟨a,ea,ha⟩:=hx;refine⟨(e:Int)*a,?_,?_⟩
  ·have e1:(((e*D:Nat):Int):Rat) =((e:Int):Rat) *((D:Int):Rat):=by rw [uP,vg]
   rw [e1,vg,← ea]
   grind
  ·rw [vx,vN];exact vt he ha
 | z i=>trivial
theorem dB.mono{D B B':Nat}{x:Nb}(hx:dB D B x)(h:B<=B'):dB D B' x:=by
 cases x with
 | q r=>obtain⟨a,ea,ha⟩:=hx; exact⟨a,ea,wF ha h⟩
 | z i=>trivial
theorem dB.num{k w:Int}{D B:Nat}(h:w.natAbs*D<=B):dB D B (nnum k w):=by
 unfold nnum
 split
 ·refine⟨w*D,by rw [vg],?_⟩;rw [vx,vN]; exact h
 ·trivial
theorem dB.parts{r:Rat}{D B:Nat}(hD:D≠0)(h:dB D B (.q r)):r.den<=D/\r.num.natAbs<=B:=by
 obtain⟨a,ea,ha⟩:=h;have e0:=kfRat.rat r rfl;have e0':r *((r.den:Int):Rat) =((r.num:Int):Rat):=e0;have e1:r.num *(D:Int)=a *(r.den:Int):=by
  have:((r.num *(D:Int):Int):Rat) =((a *(r.den:Int):Int):Rat):=by
   rw [vg,vg,← e0',← ea]
   grind
  exact GV.mp this
 have e2:r.num.natAbs*D=a.natAbs*r.den:=by
  have:=congrArg Int.natAbs e1;rw [vx,vx,vN,vN] at this;exact this
 have cop:Nat.Coprime r.den r.num.natAbs:=(GK.mp r.reduced);have dv:r.den ∣ D:=cop.dvd_of_dvd_mul_left ⟨a.natAbs,by rw [e2,uN]⟩;have le:r.den<=D:=wao (by omega) dv;refine⟨le,?_⟩;have h1:r.num.natAbs*D<=a.natAbs*D:=by rw [e2]; exact vh _ le
 have h2:r.num.natAbs<=a.natAbs:=Nat.le_of_mul_le_mul_right h1 (by omega);omega
section
variable{k:Int}{F:Type}[Field F]
noncomputable def SameRm(k:Int)(M N:List (List Nb)):Prop:=∀(F:Type) [Field F] (φ:Kf k F) (v:Nat->F),Span (RmN φ M) v↔Span (RmN φ N) v
theorem SameRm.refl(M:List (List Nb)):SameRm k M M:=fun F _ φ v=>Iff.rfl
theorem yh{α:Type}{l:List α}{i:Nat}{x y:α}(h:y∈l.set i x):y=x\/y∈l:=by
 rcases List.mem_or_eq_of_mem_set h with h | h
 ·exact .inr h
 ·exact .inl h
theorem zjw{φ:Kf k F}{f:Nb->Nb}{xs:List Nb}(g:F->F)(h0:g 0=0)(h:∀ x∈xs,φ.to (f x)=g (φ.to x))(j:Nat):nv φ (xs.map f) j=g (nv φ xs j):=by
 rcases wN j xs.length with l | l
 ·rw [yB φ (x:=f xs[j]) (by rw [wg,wb l]; rfl),yB φ (wb l),h _ (wk l)]
 ·rw [yW φ (by rw [wa]; exact l),yW φ l,h0]
theorem ziW{φ:Kf k F}{f:Nb->Nb->Nb}{xs ys:List Nb}(hl:xs.length=ys.length)(g:F->F->F)(h0:g 0 0=0)(h:∀ x∈xs,∀ y∈ys,φ.to (f x y)=g (φ.to x) (φ.to y))(j:Nat):nv φ (vA f xs ys) j=g (nv φ xs j) (nv φ ys j):=by
 rcases wN j xs.length with l | l
 ·have l2:j<ys.length:=by omega
  rw [yB φ (x:=f xs[j] ys[j]) (by rw [vJ,wb l,wb l2]),yB φ (wb l),yB φ (wb l2),h _ (wk l) _ (wk l2)]
 ·rw [yW φ (by rw [wX]; omega),yW φ l,yW φ (by omega),h0]
theorem zi9(hk:KindOk k){n:Nat}{M R D:List (List Nb)}{ls ld:List Nat}(h:∀(F:Type) [Field F] (φ:Kf k F),RedOf φ n M R ls)(hD:∀(F:Type) [Field F] (φ:Kf k F),IsR φ n D ld)(s:SameRm k D M):R=D:=by
 obtain⟨F,_,_,⟨φ⟩⟩:=yf hk;exact(h F φ).unique (hD F φ).red (fun v q=>(s F φ v).mpr q) (fun v q=>(s F φ v).mp q)
end
end La
namespace La
open Lean.Grind Nm
section
variable{k:Int}{F:Type}[Field F]
theorem zbX{n l:Nat}{u v:Nat->F}(hl:l<n)(h:∀ j,j<n->j≠l->u j*v j=0):dot n u v=u l*v l:=by
 induction n with
 | zero=>exact absurd hl (vH l)
 | succ n ih =>
  simp only [dot]
  by_cases e:l=n
  ·subst e;rw [dot_zero l u v fun j hj=>h j (by omega) (by omega)]; grind
  ·rw [ih (by omega) fun j hj ne=>h j (by omega) ne,h n (by omega) (Ne.symm e)]; grind
theorem ZN(n:Nat)(u v w:Nat->F):dot n u (fun j=>v j+w j)=dot n u v+dot n u w:=by
 rw [ym,zay,ym n v,ym n w]
theorem Qc(a:F)(n:Nat)(u v:Nat->F):dot n u (fun j=>a*v j)=a*dot n u v:=by
 rw [ym,qo,ym n v]
theorem Span.dot_zero{S:(Nat->F)->Prop}{n:Nat}{x v:Nat->F}(h:Span S v)(z:∀ r,S r->dot n r x=0):dot n v x=0 :=
 h.all (P:=fun v=>dot n v x=0) (La.dot_zero n _ _ fun j _=>by grind) fun c r v hr hv=>by
  rw [zay n (fun j=>c*r j) v x,qo,z r hr,hv]; grind
theorem zbZ{α β:Type}{xs:List α}{ys:List β}{i:Nat}{a:α}{b:β}(h1:xs[i]?=some a)(h2:ys[i]?=some b):(a,b)∈xs.zip ys :=
 wc (i:=i) (by rw [uQ]; exact⟨h1,h2⟩)
noncomputable def trF(n:Nat)(A:List (List Nb)):List (List Nb):=(wY n).map fun j=>A.map fun r=>r.getD j (.z 0)
noncomputable def unitF(l:Nat)(c:F):Nat->F:=fun j=>if j=l then c else 0
theorem jg{n l:Nat}(hl:l<n)(u:Nat->F)(c:F):dot n u (unitF l c)=c*u l:=by
 rw [zbX hl fun j hj ne=>by unfold unitF; rw [if_neg ne]; grind];unfold unitF;rw [if_pos rfl]; grind
theorem zi3(φ:Kf k F){n j i:Nat}{A:List (List Nb)}{a:List Nb}(oA:OkM k n A)(hj:j<n)(ha:A[i]?=some a):nv φ (A.map fun r=>r.getD j (.z 0)) i=nv φ a j:=by
 have la:=(oA a (wc ha)).1;have hj':j<a.length:=by omega
 rw [yB φ (x:=a.getD j (.z 0)) (by rw [wg,ha]; rfl),yB φ (wb hj'),we,wb hj']; rfl
end
end La
namespace La
open Lean.Grind Nm
noncomputable def rowD(D B:Nat)(xs:List Nb):Prop:=∀ x∈xs,dB D (2^B - 1) x
noncomputable def rowB(B:Nat)(xs:List Nb):Prop:=∃ D:Nat,D≠0/\D<2^B/\rowD D B xs
noncomputable def rowsB(B:Nat)(M:List (List Nb)):Prop:=∀ r∈M,rowB B r
theorem rowB.mono{B C:Nat}{xs:List Nb}(h:rowB B xs)(hc:B<=C):rowB C xs:=by
 obtain⟨D,d0,d1,hd⟩:=h;have:2^B<=2^C:=wZ (by decide) hc;exact⟨D,d0,by omega,fun x hx=>(hd x hx).mono (by omega)⟩
theorem rowsB.mono{B C:Nat}{M:List (List Nb)}(h:rowsB B M)(hc:B<=C):rowsB C M:=fun r hr=>(h r hr).mono hc
theorem rowsB.app{B:Nat}{M N:List (List Nb)}(h:rowsB B M)(g:rowsB B N):rowsB B (M++N):=fun r hr=>by
 rcases wq.mp hr with q | q
 ·exact h r q
 ·exact g r q
theorem dB.den_dvd{D B:Nat}{r:Rat}(hD:D≠0)(h:dB D B (.q r)):(r.den:Int) ∣ (D:Int):=by
 obtain⟨a,ea,ha⟩:=h;have e0':r *((r.den:Int):Rat) =((r.num:Int):Rat):=kfRat.rat r rfl;have e1:r.num *(D:Int)=a *(r.den:Int):=by
  have:((r.num *(D:Int):Int):Rat) =((a *(r.den:Int):Int):Rat):=by
   rw [vg,vg,← e0',← ea]
   grind
  exact GV.mp this
 have e2:r.num.natAbs*D=a.natAbs*r.den:=by
  have:=congrArg Int.natAbs e1;rw [vx,vx,vN,vN] at this;exact this
 have cop:Nat.Coprime r.den r.num.natAbs:=(GK.mp r.reduced);have dv:r.den ∣ D:=cop.dvd_of_dvd_mul_left ⟨a.natAbs,by rw [e2,uN]⟩;exact Int.ofNat_dvd.mpr dv
theorem zfJ{D B:Nat}{b:Int}{x:Nb}{k:Int}(hk:KindOk k)(ox:x.ok k)(h7:61<=B)(hD:D≠0)(h:dB D (2^B - 1) x)(hb:0<b)(hx:dvB b x)(hd:k=0->b ∣ (D:Int)):(scW b x).natAbs<2^B:=by
 have p2:0<2^B:=gf (by decide);cases x with
 | q r =>
  obtain⟨a,ea,ha⟩:=h;obtain⟨e,he⟩:=hd ox;have hdv:(r.den:Int) ∣ b:=hx;have e1:=qv hdv (jo r);have e0':r *((r.den:Int):Rat) =((r.num:Int):Rat):=kfRat.rat r rfl;have key:a=scW b (.q r)*e:=by
   show a=r.num*b.fdiv (r.den:Int)*e;generalize b.fdiv (r.den:Int)=u at *;have hDD:((D:Int):Rat) =(u:Rat) *((r.den:Int):Rat) *(e:Rat):=by rw [he,← e1,vg,vg]
   have:((a:Int):Rat) =((r.num*u*e:Int):Rat):=by
    rw [vg,vg,← ea,← e0',hDD];generalize ((r.den:Int):Rat)=dd
    grind
   exact GV.mp this
  have ene:e≠0:=fun z=>by rw [z,Gm] at he; omega
  have:(scW b (.q r)).natAbs<=a.natAbs:=by
   rw [key,vx];exact uB _ (gi.mpr ene)
  omega
 | z i =>
  have:=hk.lt;obtain⟨_,i0,i1⟩:=ox;show i.natAbs<2^B;have:2^61<=2^B:=wZ (by decide) h7;have:(2:Nat)^61=2305843009213693952:=by decide
  omega
theorem ziB{b d D:Int}(hb:0<b)(hd:0<d)(h1:b ∣ D)(h2:d ∣ D):b.fdiv ((ve b d:Nat):Int)*d ∣ D:=by
 have g0:0 <((ve b d:Nat):Int):=by have:=Gq d (show b≠0 by omega); omega
 have db:((ve b d:Nat):Int) ∣ b:=gu b d;have dd:((ve b d:Nat):Int) ∣ d:=gY b d;have e1:=qv db (by omega);have e2:=qv dd (by omega);have cop:ve (b.fdiv ((ve b d:Nat):Int)) (d.fdiv ((ve b d:Nat):Int))=1:=by
  rw [vM db,vM dd,wa2 db dd,vN];exact wa3 (by omega)
 generalize hx:b.fdiv ((ve b d:Nat):Int)=x at *;generalize hy:d.fdiv ((ve b d:Nat):Int)=y at *;generalize hg:((ve b d:Nat):Int)=g at *;obtain⟨s,hs⟩:=h1;obtain⟨t,ht⟩:=h2;have e3:x*s=y*t:=by
  have:g *(x*s)=g *(y*t):=by
   have h:x*g*s=y*g*t:=by rw [e1,e2,← hs,← ht]
   grind
  exact Int.eq_of_mul_eq_mul_left (by omega) this
 have dv:y ∣ s:=by
  have:y ∣ x*s:=⟨t,e3⟩;have h1:y.natAbs ∣ x.natAbs*s.natAbs:=by rw [← vx]; exact wae.mpr this
  have c1:Nat.Coprime y.natAbs x.natAbs:=by
   have:uD x.natAbs y.natAbs=1:=cop;exact(GK.mp this)
  exact wae.mp (c1.dvd_of_dvd_mul_left h1)
 obtain⟨u,hu⟩:=dv;refine⟨u,?_⟩;rw [hs,hu,← e1,← e2]
 grind
theorem zeb{k:Int}(hk:KindOk k){B p:Nat}{ws:List Int}(h:∀ w∈ws,w.natAbs<2^B)(hp:p<ws.length)(ne:ws.getD p 0≠0)(nn:nnum k (ws.getD p 0)≠nnum k 0):rowB B (overL k (p,ws)):=by
 have hl:ws.getD p 0∈ws:=by
  rw [we,wb hp]; exact wk hp
 have p2:0<2^B:=gf (by decide);have hlb:=h _ hl;refine⟨(ws.getD p 0).natAbs,by omega,hlb,fun x hx=>?_⟩;unfold overL at hx;obtain⟨w,hw,rfl⟩:=wj.mp hx;show dB (ws.getD p 0).natAbs (2^B - 1) (ndiv k (nnum k w) (nnum k (ws.getD p 0)));generalize hL:ws.getD p 0=l at *
 by_cases k0:k=0
 ·subst k0;have hwb:=h w hw;have e1:nnum 0 w=.q (w:Rat):=rfl;have e2:nnum 0 l=.q (l:Rat):=rfl;rw [e1,e2];show ∃ a:Int,(w:Rat) / (l:Rat) *(((l.natAbs:Nat):Int):Rat) =((a:Int):Rat)/\a.natAbs<=2^B - 1;have nl:(l:Rat)≠0:=fun z=>ne (uC.mp z)
  rcases Int.le_total 0 l with s | s
  ·refine⟨w,?_,by omega⟩;rw [show((l.natAbs:Nat):Int)=l by omega]
   grind
  ·refine⟨-w,?_,by omega⟩;rw [show((l.natAbs:Nat):Int) = -l by omega,GW,GW]
   grind
 ·have e1:nnum k w=.z (w.fmod k):=by unfold nnum; rw [if_neg k0]
  have e2:nnum k l=.z (l.fmod k):=by unfold nnum; rw [if_neg k0]
  rw [e1,e2]
  trivial
end La
namespace La
open Lean.Grind Nm
section
variable{k:Int}{F:Type}[Field F]
noncomputable abbrev Rm(φ:Kf k F)(M:List (List Nb)):(Nat->F)->Prop:=Span (RmN φ M)
noncomputable def perp(n:Nat)(U:(Nat->F)->Prop):(Nat->F)->Prop:=fun v=>(∀ j,n<=j->v j=0)/\∀ u,U u->dot n u v=0
variable{φ:Kf k F}{n:Nat}{R R' A:List (List Nb)}{ls ls':List Nat}
theorem IsR.supp(h:IsR φ n R ls){v:Nat->F}(hv:Rm φ R v)(j:Nat)(hj:n<=j):v j=0:=h.rr.out_of (h.rows.mpr hv) j hj
theorem IsR.ext(h:IsR φ n R ls)(h':IsR φ n R' ls')(e:∀ v,Rm φ R v↔Rm φ R' v):R=R':=(h.unique h' (fun v=>(e v).mp) (fun v=>(e v).mpr)).1
structure AgR(k:Int)(n:Nat)(R:List (List Nb))(ls:List Nat)(f:Nat)(xs:List Nb):Prop where
 len:xs.length=n
 ok:OkR k xs
 one:xs[f]?=some (nnum k 1)
 at_:∀(i l:Nat)(r:List Nb)(y:Nb),ls[i]?=some l->R[i]?=some r->r[f]?=some y->xs[l]?=some (nsub k (nnum k 0) y)
 off:∀ j,j<n->j≠f->j∉ls->xs[j]?=some (nnum k 0)
theorem IsR.get(h:IsR φ n R ls){i l:Nat}{r:List Nb}(hl:ls[i]?=some l)(hr:R[i]?=some r):(l,nv φ r)∈ls.zip (R.map (nv φ)):=zbZ hl (by rw [wg,hr]; rfl)
theorem IsR.lead_of(h:IsR φ n R ls){l:Nat}(hl:l∈ls):∃(i:Nat)(r:List Nb),ls[i]?=some l/\R[i]?=some r:=by
 obtain⟨i,hi,e⟩:=wI hl;have h2:i<R.length:=by rw [← h.len]; exact hi
 exact⟨i,R[i],by rw [wb hi,e],wb h2⟩
theorem IsR.row_of(h:IsR φ n R ls){r:List Nb}(hr:r∈R):∃(i l:Nat),ls[i]?=some l/\R[i]?=some r:=by
 obtain⟨i,hi,e⟩:=wI hr;have h2:i<ls.length:=by rw [h.len]; exact hi
 exact⟨i,ls[i],wb h2,by rw [wb hi,e]⟩
theorem AgR.val(h:IsR φ n R ls){f:Nat}{xs:List Nb}(hk:KindOk k)(hf:f<n)(g:AgR k n R ls f xs) :
  nv φ xs f=1/\(∀(i l:Nat)(r:List Nb),ls[i]?=some l->R[i]?=some r->nv φ xs l = - nv φ r f)/\(∀ j,j≠f->j∉ls->nv φ xs j=0):=by
 refine⟨by rw [yB φ g.one,φ.num1],fun i l r hl hr=>?_,fun j hj hn=>?_⟩
 ·have orr:=h.ok r (wc hr);have hf':f<r.length:=by rw [orr.1]; exact hf
  rw [yB φ (g.at_ i l r _ hl hr (wb hf')),φ.sub (zU hk 0) (orr.2 _ (wk hf')),φ.num0,yB φ (wb hf')]
  grind
 ·rcases wN j n with z | z
  ·rw [yB φ (g.off j z hj hn),φ.num0]
  ·exact yW φ (by rw [g.len]; exact z)
theorem zem(n:Nat)(u v w:Nat->F):dot n u (fun j=>v j - w j)=dot n u v - dot n u w:=by
 have:(fun j=>v j - w j)=fun j=>v j +(-1)*w j:=funext fun j=>by grind
 rw [this,ZN n u v (fun j=>(-1)*w j),Qc]; grind
theorem Span.dot_zero_r{S:(Nat->F)->Prop}{x v:Nat->F}(h:Span S v)(z:∀ r,S r->dot n x r=0):dot n x v=0:=by
 rw [ym]; exact h.dot_zero fun r hr=>by rw [ym]; exact z r hr
theorem ziV(h:IsR φ n R ls)(hk:KindOk k){f:Nat}{xs:List Nb}(hf:f<n)(nf:f∉ls)(g:AgR k n R ls f xs){r:List Nb}(hr:r∈R):dot n (nv φ r) (nv φ xs)=0:=by
 obtain⟨v1,v2,v3⟩:=g.val h hk hf;obtain⟨i,l,hl,hi⟩:=h.row_of hr;have hp:=h.get hl hi;have ln:l<n:=h.rr.lt _ hp;have lf:l≠f:=fun e=>nf (by rw [← e]; exact wc hl)
 have e:dot n (nv φ r) (nv φ xs)=dot n (nv φ r) (unitF f 1)+dot n (nv φ r) (unitF l (- nv φ r f)):=by
  rw [← ZN];refine yc fun j hj=>?_
  unfold unitF
  by_cases e1:j=f
  ·subst e1;rw [if_pos rfl,if_neg (Ne.symm lf),v1]; grind
  ·by_cases e2:j=l
   ·subst e2;rw [if_neg lf,if_pos rfl,v2 i j r hl hi]; grind
   ·rw [if_neg e1,if_neg e2]
    by_cases hm:j∈ls
    ·obtain⟨i',r',hl',hi'⟩:=h.lead_of hm;have:nv φ r j=0:=h.rr.oth _ hp _ (h.get hl' hi') (Ne.symm e2);rw [this]; grind
    ·rw [v3 j e1 hm]; grind
 have o:nv φ r l=1:=h.rr.one _ hp;rw [e,jg hf,jg ln,o]; grind
theorem qI(h:IsR φ n R ls)(hk:KindOk k){fs:List Nat}(inc:fs.Pairwise (·<·))(hfs:∀ f,f∈fs↔f<n/\f∉ls)(la:fs.length=A.length)(hA:∀(i f:Nat)(xs:List Nb),fs[i]?=some f->A[i]?=some xs->AgR k n R ls f xs)(v:Nat->F) :
  Rm φ A v↔perp n (Rm φ R) v:=by
 have rowA:∀ xs∈A,∃ f∈fs,AgR k n R ls f xs:=fun xs hx=>by
  obtain⟨i,hi,e⟩:=wI hx;have h2:i<fs.length:=by omega
  exact⟨fs[i],wk h2,hA i fs[i] xs (wb h2) (by rw [wb hi,e])⟩
 have to:∀ w,Rm φ A w->perp n (Rm φ R) w:=fun w hw=>by
  refine⟨fun j hj=>hw.zero_at fun r ⟨xs,hx,e⟩=>?_,fun u hu=>?_⟩
  ·obtain⟨f,_,g⟩:=rowA xs hx;rw [e]; exact yW φ (by rw [g.len]; exact hj)
  ·refine hu.dot_zero fun r ⟨row,hrow,e⟩=>?_
   rw [e];refine hw.dot_zero_r fun s ⟨xs,hx,e'⟩=>?_
   obtain⟨f,hf,g⟩:=rowA xs hx;have:=(hfs f).mp hf;rw [e']; exact ziV h hk this.1 this.2 g hrow
 refine⟨to v,fun hv=>?_⟩
 let PA:List (Pv F):=fs.zip (A.map (nv φ))
 have incA:PA.Pairwise fun a b=>a.1<b.1:=by
  show(fs.zip (A.map (nv φ))).Pairwise fun a b=>a.1<b.1
  rw [← uz (f:=Prod.fst) (R:=(·<·)),uU (by rw [wa]; omega)];exact inc
 have memPA:∀ p∈PA,∃ xs,p.2=nv φ xs/\AgR k n R ls p.1 xs/\p.1∈fs:=fun p hp=>by
  obtain⟨i,hi,e⟩:=wI hp;have hi':i <(fs.zip (A.map (nv φ))).length:=hi;rw [vI,wa] at hi';have h1:i<fs.length:=by omega
  have h2:i<A.length:=by omega
  have e':(fs.zip (A.map (nv φ)))[i]=p:=e;rw [GH,Gd] at e';refine⟨A[i],by rw [← e'],?_,by rw [← e']; exact wk h1⟩;rw [← e'];exact hA i _ _ (wb h1) (wb h2)
 have cA:Rm φ A (comb PA v):=(Yk v PA).mono fun r ⟨p,hp,e⟩=>(ZU (φ:=φ) la r).mp ⟨p,hp,e⟩
 have pc:=to _ cA;have wz:∀ j,v j - comb PA v j=0:=by
  have free:∀ f,f∈fs->comb PA v f=v f:=fun f hf=>by
   obtain⟨i,hi,e⟩:=wI hf;have h2:i<A.length:=by omega
   have hm:(f,nv φ A[i])∈PA:=zbZ (xs:=fs) (ys:=A.map (nv φ)) (i:=i) (by rw [wb hi,e]) (by rw [wg,wb h2]; rfl);have hfl:=(hfs f).mp hf;have key:comb PA v f=v f*1:=by
    have gen:∀(P:List (Pv F)),P.Pairwise (fun a b=>a.1<b.1)->(∀ p∈P,∃ xs,p.2=nv φ xs/\AgR k n R ls p.1 xs/\p.1∈fs)->(∃ p∈P,p.1=f)->comb P v f=v f*1:=by
     intro P
     induction P with
     | nil=>intro _ _ ⟨p,hp,_⟩; exact nomatch hp
     | cons p P ih =>
      intro pw hm hex;rw [uh] at pw;obtain⟨xs,ex,g,pf⟩:=hm p wm;have vals:=g.val h hk ((hfs p.1).mp pf).1;simp only [comb]
      by_cases ep:p.1=f
      ·rw [yY v f P fun q hq=>?_]
       ·rw [ex,← ep,vals.1]; grind
       ·obtain⟨ys,ey,g',qf⟩:=hm q (wr _ hq);have vq:=g'.val h hk ((hfs q.1).mp qf).1;have:p.1<q.1:=pw.1 q hq;rw [ey,vq.2.2 f (by omega) hfl.2]; grind
      ·obtain⟨q,hq,eq⟩:=hex
       rcases wH.mp hq with z | z
       ·rw [z] at eq; exact absurd eq ep
       ·rw [ih pw.2 (fun r hr=>hm r (wr _ hr)) ⟨q,z,eq⟩,ex,vals.2.2 f (Ne.symm ep) hfl.2]; grind
    exact gen PA incA memPA ⟨_,hm,rfl⟩
   rw [key]; grind
  intro j
  rcases wN j n with hj | hj
  ·by_cases hm:j∈ls
   ·obtain⟨i,r,hl,hr⟩:=h.lead_of hm;have hp:=h.get hl hr;have d0:dot n (nv φ r) (fun j=>v j - comb PA v j)=0:=by
     have h1:dot n (nv φ r) v=0:=hv.2 _ (.of ⟨r,wc hr,rfl⟩);have h2:dot n (nv φ r) (comb PA v)=0:=pc.2 _ (.of ⟨r,wc hr,rfl⟩);rw [zem,h1,h2]; grind
    rw [zbX hj fun t ht ne=>?_] at d0
    ·have o:nv φ r j=1:=h.rr.one _ hp;rw [o] at d0
     grind
    ·by_cases tm:t∈ls
     ·obtain⟨i',r',hl',hi'⟩:=h.lead_of tm;have:nv φ r t=0:=h.rr.oth _ hp _ (h.get hl' hi') (Ne.symm ne);rw [this]; grind
     ·rw [free t ((hfs t).mpr ⟨ht,tm⟩)]; grind
   ·rw [free j ((hfs j).mpr ⟨hj,hm⟩)]; grind
  ·rw [hv.1 j hj,pc.1 j hj]; grind
 exact cA.cast fun j=>by have:=wz j; grind
theorem jT(h:IsR φ n R ls)(hk:KindOk k)(v:Nat->F):perp n (perp n (Rm φ R)) v↔Rm φ R v:=by
 constructor
 ·intro hv;have cR:Rm φ R (comb (ls.zip (R.map (nv φ))) v):=h.rows.mp (Yk v _);have ag:∀ f,f<n->f∉ls->∃ a:Nat->F,perp n (Rm φ R) a/\a f=1/\∀ j,j≠f->j∉ls->a j=0:=fun f hf nf=>by
   let a:Nat->F:=fun j=>if j=f then 1 else comb (ls.zip (R.map (nv φ))) (fun _=>0) j +(if hj:j∈ls then - (nv φ ((R.getD (ls.idxOf j) [])) f)else 0)
   have a0:∀ j,j≠f->j∉ls->a j=0:=fun j hj hn=>by
    show(if j=f then 1 else _)=_;rw [if_neg hj,dif_neg hn,yY _ j _ fun p _=>by grind]; grind
   have al:∀(i l:Nat)(r:List Nb),ls[i]?=some l->R[i]?=some r->a l = - nv φ r f:=fun i l r hl hr=>by
    have lf:l≠f:=fun e=>nf (by rw [← e]; exact wc hl)
    have hm:=wc hl;have nd:ls.Nodup:=by
     have:=h.rr.inc;rw [← uz (f:=Prod.fst) (R:=(·<·)),uU (by rw [wa]; exact gj h.len)] at this;exact this.imp fun h=>wS h
    have ei:ls.idxOf l=i:=by
     have h1:ls[ls.idxOf l]?=some l:=by rw [wb (uo hm)]; simp
     exact(uR (uo hm) nd).mp (h1.trans hl.symm)
    show(if l=f then 1 else _)=_;rw [if_neg lf,dif_pos hm,yY _ l _ fun p _=>by grind,ei,we,hr];show 0 + -(nv φ r f)=_
    grind
   refine⟨a,⟨fun j hj=>a0 j (by omega) fun hm=>?_,fun u hu=>?_⟩,by show(if f=f then 1 else _)=_; rw [if_pos rfl],a0⟩
   ·obtain⟨i,r,hl,hr⟩:=h.lead_of hm;have:j<n:=h.rr.lt _ (h.get hl hr);omega
   ·refine hu.dot_zero fun s ⟨r,hr,e⟩=>?_
    rw [e];obtain⟨i,l,hl,hi⟩:=h.row_of hr;have hp:=h.get hl hi;have ln:l<n:=h.rr.lt _ hp;have lf:l≠f:=fun e=>nf (by rw [← e]; exact wc hl)
    have af:a f=1:=by show(if f=f then 1 else _)=_; rw [if_pos rfl]
    have e:dot n (nv φ r) a=dot n (nv φ r) (unitF f 1)+dot n (nv φ r) (unitF l (- nv φ r f)):=by
     rw [← ZN];refine yc fun j hj=>?_
     unfold unitF
     by_cases e1:j=f
     ·subst e1;rw [if_pos rfl,if_neg (Ne.symm lf),af]; grind
     ·by_cases e2:j=l
      ·subst e2;rw [if_neg lf,if_pos rfl,al i j r hl hi]; grind
      ·rw [if_neg e1,if_neg e2]
       by_cases hm:j∈ls
       ·obtain⟨i',r',hl',hi'⟩:=h.lead_of hm;have:nv φ r j=0:=h.rr.oth _ hp _ (h.get hl' hi') (Ne.symm e2);rw [this]; grind
       ·rw [a0 j e1 hm]; grind
    have o:nv φ r l=1:=h.rr.one _ hp;rw [e,jg hf,jg ln,o]; grind
  have lead:∀ l,l∈ls->comb (ls.zip (R.map (nv φ))) v l=v l:=fun l hl=>by
   obtain⟨i,r,h1,h2⟩:=h.lead_of hl;have hp:=h.get h1 h2;have gen:∀(P:List (Pv F)),P.Pairwise (fun a b=>a.1<b.1)->(∀ p∈P,p∈ls.zip (R.map (nv φ)))->(∃ p∈P,p.1=l)->comb P v l=v l*1:=by
    intro P
    induction P with
    | nil=>intro _ _ ⟨p,hp,_⟩; exact nomatch hp
    | cons p P ih =>
     intro pw hm hex;rw [uh] at pw;have hp0:=hm p wm;simp only [comb]
     by_cases ep:p.1=l
     ·have o:p.2 p.1=1:=h.rr.one _ hp0;rw [yY v l P fun q hq=>?_]
      ·rw [← ep,o]; grind
      ·have hq0:=hm q (wr _ hq);have:p.1<q.1:=pw.1 q hq;have z:q.2 p.1=0:=h.rr.oth q hq0 p hp0 (by omega);rw [← ep,z]; grind
     ·obtain⟨q,hq,eq⟩:=hex
      rcases wH.mp hq with z | z
      ·rw [z] at eq; exact absurd eq ep
      ·have hq0:=hm q (wr _ z);have z2:p.2 q.1=0:=h.rr.oth p hp0 q hq0 (by rw [eq]; exact ep);rw [ih pw.2 (fun r hr=>hm r (wr _ hr)) ⟨q,z,eq⟩,← eq,z2]; grind
   rw [gen _ h.rr.inc (fun p hp=>hp) ⟨_,hp,rfl⟩]; grind
  refine cR.cast fun j=>?_
  rcases wN j n with hj | hj
  ·by_cases hm:j∈ls
   ·exact lead j hm
   ·obtain⟨a,pa,af,a0⟩:=ag j hj hm;have d0:dot n a (fun j=>v j - comb (ls.zip (R.map (nv φ))) v j)=0:=by
     have h1:dot n a v=0:=hv.2 a pa;have h2:dot n a (comb (ls.zip (R.map (nv φ))) v)=0:=by rw [ym]; exact pa.2 _ cR
     rw [zem,h1,h2]; grind
    rw [zbX hj fun t ht ne=>?_,af] at d0
    ·grind
    ·by_cases tm:t∈ls
     ·rw [lead t tm]; grind
     ·rw [a0 t ne tm]; grind
  ·rw [h.supp cR j hj,hv.1 j hj]
 ·intro hv;exact⟨fun j hj=>h.supp hv j hj,fun u hu=>by rw [ym]; exact hu.2 v hv⟩
end
end La
namespace La
open Lean.Grind Nm
section
variable{k:Int}{F:Type}[Field F]{φ:Kf k F}{n:Nat}
theorem Ze(hk:KindOk k):∀ {xs:List Nb},OkR k xs->∃ b,Scl k xs (xs.map (scW b)) b:=by
 intro xs ox
 by_cases k0:k=0
 ·have:∃ b:Int,0<b/\∀ x∈xs,dvB b x:=by
   induction xs with
   | nil=>exact⟨1,by decide,fun x hx=>nomatch hx⟩
   | cons x xs ih =>
    obtain⟨b,b0,hb⟩:=ih fun y hy=>ox y (wr _ hy)
    cases x with
    | z i=>exact absurd k0 (ox (.z i) wm).1
    | q r =>
     refine⟨b *(r.den:Int),Gs b0 (den_pos r),fun y hy=>?_⟩
     rcases wH.mp hy with e | hy
     ·rw [e]; exact waM _ _
     ·have:=hb y hy;cases y with
      | q s=>exact waV (show(s.den:Int) ∣ b from this) (waz _ _)
      | z j=>trivial
  obtain⟨b,b0,hb⟩:=this;exact⟨b,rfl,b0,fun z=>absurd k0 z,hb⟩
 ·refine⟨1,rfl,by decide,fun _=>rfl,fun x hx=>?_⟩;have o:=ox x hx;cases x with
  | q r=>exact absurd o k0
  | z i=>trivial
theorem jR(φ:Kf k F)(hk:KindOk k){M:List (List Nb)}(oM:OkM k n M):∃ R ls,RedOf φ n M R ls:=by
 have:∃ Ws:List (List Int),Ws.length=M.length/\∀(i:Nat)(r:List Nb)(ws:List Int),M[i]?=some r->Ws[i]?=some ws->∃ b,Scl k r ws b:=by
  induction M with
  | nil=>exact⟨[],rfl,fun i r ws h=>by simp at h⟩
  | cons m M ih =>
   obtain⟨Ws,l,h⟩:=ih fun r hr=>oM r (wr _ hr)
   obtain⟨b,hb⟩:=Ze hk (oM m wm).2;refine⟨m.map (scW b)::Ws,by simp [l],fun i r ws h1 h2=>?_⟩;cases i with
   | zero=>simp at h1 h2; subst h1 h2; exact⟨b,hb⟩
   | succ i=>exact h i r ws (by simpa using h1) (by simpa using h2)
 obtain⟨Ws,l,h⟩:=this;exact⟨_,_,Jw φ hk oM l h⟩
noncomputable def ofV(φ:Kf k F)(n:Nat)(v:Nat->F):List Nb:=(wY n).map fun j=>φ.of (v j)
theorem zfA(v:Nat->F):(ofV φ n v).length=n/\OkR k (ofV φ n v):=by
 refine⟨by unfold ofV; simp,fun x hx=>?_⟩;unfold ofV at hx;obtain⟨j,_,rfl⟩:=wj.mp hx;exact φ.ok _
theorem zf8{v:Nat->F}(hv:∀ j,n<=j->v j=0)(j:Nat):nv φ (ofV φ n v) j=v j:=by
 rcases wN j n with h | h
 ·rw [yB φ (x:=φ.of (v j)) (by unfold ofV; rw [wg,vv h]; rfl),φ.to_of]
 ·rw [yW φ (by rw [(zfA (φ:=φ) v).1]; exact h),hv j h]
theorem jn:∀ {P Q:List Nat},P.Pairwise (·<·)->Q.Pairwise (·<·)->(∀ p∈P,p∈Q)->(∀ q∈Q,q∈P)->P=Q
 | [],[],_,_,_,_=>rfl
 | [],q::_,_,_,_,h=>nomatch h q wm
 | p::_,[],_,_,h,_=>nomatch h p wm
 | p::P,q::Q,hP,hQ,h1,h2=>by
  rw [uh] at hP hQ;have e:p=q:=by
   rcases wH.mp (h1 p wm)with e | m
   ·exact e
   ·rcases wH.mp (h2 q wm)with e | m'
    ·exact e.symm
    ·have:=hP.1 q m'; have:=hQ.1 p m; omega
  subst e;rw [jn hP.2 hQ.2 (fun r hr=>?_) (fun r hr=>?_)]
  ·rcases wH.mp (h1 r (wr _ hr))with e | m
   ·subst e; exact absurd (hP.1 r hr) (vT _)
   ·exact m
  ·rcases wH.mp (h2 r (wr _ hr))with e | m
   ·subst e; exact absurd (hQ.1 r hr) (vT _)
   ·exact m
theorem jC(p:Nat->Bool):∀ l:List Nat,(l.filter p).length +(l.filter fun x=>!p x).length=l.length
 | []=>rfl
 | x::l=>by
  have ih:=jC p l;rw [uH,uH];cases h:p x <;> simp <;> omega
theorem zgX{P Q:List Nat}(hP:P.Pairwise (·<·))(hQ:Q.Pairwise (·<·))(sub:∀ p∈P,p∈Q)(ex:∃ q∈Q,q∉P)(un:∀ p∈Q,∀ q∈Q,p∉P->q∉P->p=q):Q.length=P.length+1:=by
 have e1:Q.filter (fun x=>decide (x∈P))=P:=jn (hQ.filter _) hP (fun p hp=>by simpa using (wW.mp hp).2) (fun p hp=>wW.mpr ⟨sub p hp,by simpa using hp⟩);have e2:(Q.filter fun x=>!decide (x∈P)).length=1:=by
  obtain⟨q,hq,nq⟩:=ex;have hm:q∈Q.filter fun x=>!decide (x∈P):=wW.mpr ⟨hq,by simpa using nq⟩
  have nd:(Q.filter fun x=>!decide (x∈P)).Pairwise (·<·):=hQ.filter _;cases hf:Q.filter fun x=>!decide (x∈P)with
  | nil=>rw [hf] at hm; exact nomatch hm
  | cons a l =>
   cases l with
   | nil=>rfl
   | cons b l =>
    rw [hf] at nd;have ma:a∈Q.filter fun x=>!decide (x∈P):=by rw [hf]; exact wm
    have mb:b∈Q.filter fun x=>!decide (x∈P):=by rw [hf]; exact wr _ wm
    have ha:=wW.mp ma;have hb:=wW.mp mb;have:=un a ha.1 b hb.1 (by simpa using ha.2) (by simpa using hb.2);rw [uh] at nd;have:=nd.1 b wm;omega
 have:=jC (fun x=>decide (x∈P)) Q;rw [e1] at this;omega
variable{U W:List (List Nb)}{lu lw:List Nat}
theorem IsR.inc(h:IsR φ n U lu):lu.Pairwise (·<·):=by
 have:=h.rr.inc;rw [← uz (f:=Prod.fst) (R:=(·<·)),uU (by rw [wa]; exact gj h.len)] at this;exact this
theorem IsR.lead_iff(h:IsR φ n U lu)(p:Nat):p∈lu↔∃ v,Rm φ U v/\(∀ j,j<p->v j=0)/\v p≠0:=by
 constructor
 ·intro hp;obtain⟨i,r,h1,h2⟩:=h.lead_of hp;have hm:=h.get h1 h2;have o:nv φ r p=1:=h.rr.one _ hm;exact⟨nv φ r,.of ⟨r,wc h2,rfl⟩,h.rr.bef _ hm,by rw [o]; exact fun e=>Field.zero_ne_one e.symm⟩
 ·rintro ⟨v,hv,z,ne⟩
  obtain⟨q,hq,e⟩:=h.rr.lead (h.rows.mpr hv) z ne;rw [← e];exact(wR (show(q.1,q.2)∈_ from hq)).1
theorem IsR.zero(h:IsR φ n U lu){v:Nat->F}(hv:Rm φ U v)(z:∀ l∈lu,v l=0)(j:Nat):v j=0:=by
 rw [← h.rr.comb (h.rows.mpr hv) j];exact yY v j _ fun p hp=>by
  rw [z p.1 (wR (show(p.1,p.2)∈_ from hp)).1]; grind
theorem IsR.take_off(h:IsR φ n U lu)(v:Nat->F):∃ u,Rm φ U u/\∀ l∈lu,u l=v l:=by
 refine⟨comb (lu.zip (U.map (nv φ))) v,h.rows.mp (Yk v _),fun l hl=>?_⟩;obtain⟨i,r,h1,h2⟩:=h.lead_of hl;have hp:=h.get h1 h2;have gen:∀(P:List (Pv F)),P.Pairwise (fun a b=>a.1<b.1)->(∀ p∈P,p∈lu.zip (U.map (nv φ)))->(∃ p∈P,p.1=l)->comb P v l=v l*1:=by
  intro P
  induction P with
  | nil=>intro _ _ ⟨p,hp,_⟩; exact nomatch hp
  | cons p P ih =>
   intro pw hm hex;rw [uh] at pw;have hp0:=hm p wm;simp only [comb]
   by_cases ep:p.1=l
   ·have o:p.2 p.1=1:=h.rr.one _ hp0;rw [yY v l P fun q hq=>?_]
    ·rw [← ep,o]; grind
    ·have hq0:=hm q (wr _ hq);have:p.1<q.1:=pw.1 q hq;have z:q.2 p.1=0:=h.rr.oth q hq0 p hp0 (by omega);rw [← ep,z]; grind
   ·obtain⟨q,hq,eq⟩:=hex
    rcases wH.mp hq with z | z
    ·rw [z] at eq; exact absurd eq ep
    ·have hq0:=hm q (wr _ z);have z2:p.2 q.1=0:=h.rr.oth p hp0 q hq0 (by rw [eq]; exact ep);rw [ih pw.2 (fun r hr=>hm r (wr _ hr)) ⟨q,z,eq⟩,← eq,z2]; grind
 rw [gen _ h.rr.inc (fun p hp=>hp) ⟨_,hp,rfl⟩]; grind
theorem zb3(h:IsR φ n U lu)(h':IsR φ n W lw){x:Nat->F}(hx:¬ Rm φ U x)(e:∀ v,Rm φ W v↔∃ u c,Rm φ U u/\∀ j,v j=u j+c*x j):W.length=U.length+1:=by
 rw [← h.len,← h'.len];have sub:∀ u,Rm φ U u->Rm φ W u:=fun u hu=>(e u).mpr ⟨u,0,hu,fun j=>by grind⟩
 have xW:Rm φ W x:=(e x).mpr ⟨fun _=>0,1,.zero,fun j=>by grind⟩;refine zgX h.inc h'.inc (fun p hp=>?_) ?_ fun p hp q hq np nq=>?_
 ·obtain⟨v,hv,z,ne⟩:=(h.lead_iff p).mp hp;exact(h'.lead_iff p).mpr ⟨v,sub v hv,z,ne⟩
 ·
  refine vQ fun no=>hx ?_
  obtain⟨u,hu,eu⟩:=h.take_off x;have d:Rm φ W (fun j=>1*x j +(-1)*u j):=xW.lin 1 (-1) (sub u hu);have dz:=h'.zero d fun l hl=>by
   have:l∈lu:=vQ fun z=>no ⟨l,hl,z⟩
   rw [eu l this]; grind
  exact hu.cast fun j=>by have:=dz j; grind
 ·
  have main:∀ p q,p∈lw->q∈lw->p∉lu->q∉lu->p<q->False:=fun p q hp hq np nq lt=>by
   obtain⟨i,r,h1,h2⟩:=h'.lead_of hp;obtain⟨i',s,h3,h4⟩:=h'.lead_of hq;have mp:=h'.get h1 h2;have mq:=h'.get h3 h4;obtain⟨u,c,hu,eu⟩:=(e _).mp (.of ⟨r,wc h2,rfl⟩);obtain⟨v,d,hv,ev⟩:=(e _).mp (.of ⟨s,wc h4,rfl⟩);have rp:nv φ r p=1:=h'.rr.one _ mp;have sq:nv φ s q=1:=h'.rr.one _ mq;have rb:∀ j,j<p->nv φ r j=0:=h'.rr.bef _ mp;have sb:∀ j,j<q->nv φ s j=0:=h'.rr.bef _ mq;have one:(1:F)≠0:=fun e=>Field.zero_ne_one e.symm
   by_cases d0:d=0
   ·refine nq ((h.lead_iff q).mpr ⟨v,hv,fun j hj=>?_,?_⟩)
    ·have:=ev j; rw [sb j hj,d0] at this; grind
    ·have:=ev q; rw [sq,d0] at this;intro z; rw [z] at this; grind
   ·
    refine np ((h.lead_iff p).mpr ⟨fun j=>1*u j +(-(c / d))*v j,hu.lin 1 _ hv,fun j hj=>?_,?_⟩)
    ·have a:=eu j; have b:=ev j;rw [rb j hj] at a;rw [sb j (by omega)] at b;show 1*u j +(-(c / d))*v j=0;have a':u j = -(c*x j):=by grind
     have b':v j = -(d*x j):=by grind
     rw [a',b']; grind
    ·have a:=eu p; have b:=ev p;rw [rp] at a;rw [sb p lt] at b;show 1*u p +(-(c / d))*v p≠0;have a':u p=1 - c*x p:=by grind
     have b':v p = -(d*x p):=by grind
     rw [a',b'];intro z;have:(1:F)=0:=by grind
     exact one this
  rcases waB p q with g | g | g
  ·exact(main p q hp hq np nq g).elim
  ·exact g
  ·exact(main q p hq hp nq np g).elim
theorem zcr(hk:KindOk k){A B J M:List (List Nb)}{la lb lj lm:List Nat}(hA:IsR φ n A la)(hB:IsR φ n B lb)(hJ:IsR φ n J lj)(hM:IsR φ n M lm)
  (ej:∀ v,Rm φ J v↔∃ a b,Rm φ A a/\Rm φ B b/\∀ j,v j=a j+b j) (em:∀ v,Rm φ M v↔Rm φ A v/\Rm φ B v):J.length+M.length=A.length+B.length:=by
 have step:∀ i,i<=B.length->∃ J' lj' M' lm',IsR φ n J' lj'/\IsR φ n M' lm'/\(∀ v,Rm φ J' v↔∃ a b,Rm φ A a/\Rm φ (B.take i) b/\∀ j,v j=a j+b j)/\(∀ v,Rm φ M' v↔Rm φ A v/\Rm φ (B.take i) v)/\J'.length+M'.length=A.length+i:=by
  intro i
  induction i with
  | zero =>
   intro _;have nilR:IsR φ n ([]:List (List Nb)) ([]:List Nat):=⟨fun r hr=>(nomatch hr),rfl,⟨.nil,fun p hp=>(nomatch hp),fun p hp=>(nomatch hp),fun p hp=>(nomatch hp),fun p hp=>(nomatch hp),fun p hp=>(nomatch hp)⟩⟩;have nilZ:∀ v,Rm φ ([]:List (List Nb)) v->∀ j,v j=0:=fun v hv j=>hv.zero_at fun r ⟨x,hx,_⟩=>nomatch hx
   refine⟨A,la,[],[],hA,nilR,fun v=>?_,fun v=>?_,by simp⟩
   ·constructor
    ·intro hv; exact⟨v,fun _=>0,hv,.zero,fun j=>by grind⟩
    ·rintro ⟨a,b,ha,hb,e⟩
     exact ha.cast fun j=>by rw [e j,nilZ b hb j]; grind
   ·constructor
    ·intro hv;exact⟨Span.zero.cast fun j=>(nilZ v hv j).symm,hv⟩
    ·exact fun h=>h.2
  | succ i ih =>
   intro hi;obtain⟨J',lj',M',lm',iJ,iM,eJ,eM,len⟩:=ih (by omega);have hi':i<B.length:=hi;obtain⟨l,hl⟩ : ∃ l,lb[i]?=some l:=⟨lb[i]'(by rw [hB.len]; exact hi'),wb _⟩;have hb:=wb hi';have hp:=hB.get hl hb;generalize hbv:nv φ B[i]=b at *;have etake:B.take (i+1)=B.take i++[B[i]]:=vG hi';have eB:∀ v,Rm φ (B.take (i+1)) v↔∃ u c,Rm φ (B.take i) u/\∀ j,v j=u j+c*b j:=fun v=>by
    rw [etake]
    constructor
    ·intro hv;refine hv.all (P:=fun v=>∃ u c,Rm φ (B.take i) u/\∀ j,v j=u j+c*b j) ⟨fun _=>0,0,.zero,fun j=>by grind⟩ fun c r v ⟨row,hrow,e⟩ ⟨u,d,hu,eu⟩=>?_
     rcases wq.mp hrow with q | q
     ·exact⟨fun j=>c*r j+u j,d,.step c ⟨row,q,e⟩ hu,fun j=>by show c*r j+v j=c*r j+u j+d*_; rw [eu j]; grind⟩
     ·rw [wt.mp q] at e;exact⟨u,c+d,hu,fun j=>by show c*r j+v j=_; rw [eu j,e,hbv]; grind⟩
    ·rintro ⟨u,c,hu,eu⟩
     have h1:Rm φ (B.take i++[B[i]]) u:=hu.mono fun r ⟨x,hx,e⟩=>⟨x,wE _ hx,e⟩
     have h2:Rm φ (B.take i++[B[i]]) b:=.of ⟨B[i],wy _ (wt.mpr rfl),hbv.symm⟩;exact(h1.lin 1 c h2).cast fun j=>by rw [eu j]; grind
   have bl:b l=1:=hB.rr.one _ hp;have nB:¬ Rm φ (B.take i) b:=fun h=>by
    have z:b l=0:=h.zero_at fun r ⟨x,hx,e⟩=>by
     obtain⟨t,ht,et⟩:=wI hx;have ht':t<i:=by rw [wv] at ht; omega
     have ht2:t<B.length:=by omega
     have hx':B[t]?=some x:=by rw [wb ht2]; rw [List.getElem_take] at et; rw [et]
     obtain⟨l',hl'⟩ : ∃ l',lb[t]?=some l':=⟨lb[t]'(by rw [hB.len]; exact ht2),wb _⟩;have hq:=hB.get hl' hx';have ne:l'≠l:=fun z=>by
      have nd:lb.Nodup:=hB.inc.imp fun h=>wS h
      have q:lb[t]?=lb[i]?:=by rw [hl',hl,z]
      have:=(uR (wo.mp hl').1 nd).mp q;omega
     rw [e]; exact hB.rr.oth _ hq _ hp ne
    rw [bl] at z;exact Field.zero_ne_one z.symm
   have bs:∀ j,n<=j->b j=0:=hB.rr.out _ hp;have mkR:∀(U:List (List Nb))(lu:List Nat)(x:Nat->F),IsR φ n U lu->(∀ j,n<=j->x j=0)->∃ W lw,IsR φ n W lw/\∀ v,Rm φ W v↔∃ u c,Rm φ U u/\∀ j,v j=u j+c*x j:=fun U lu x hU xs=>by
    have oM:OkM k n (U++[ofV φ n x]):=fun r hr=>by
     rcases wq.mp hr with q | q
     ·exact hU.ok r q
     ·rw [wt.mp q]; exact zfA x
    obtain⟨W,lw,red⟩:=jR φ hk oM;refine⟨W,lw,red.toIsR,fun v=>⟨fun hv=>?_,fun⟨u,c,hu,eu⟩=>?_⟩⟩
    ·refine(red.fro v hv).all (P:=fun v=>∃ u c,Rm φ U u/\∀ j,v j=u j+c*x j) ⟨fun _=>0,0,.zero,fun j=>by grind⟩ fun c r v ⟨row,hrow,e⟩ ⟨u,d,hu,eu⟩=>?_
     rcases wq.mp hrow with q | q
     ·exact⟨fun j=>c*r j+u j,d,.step c ⟨row,q,e⟩ hu,fun j=>by show c*r j+v j=c*r j+u j+d*_; rw [eu j]; grind⟩
     ·rw [wt.mp q] at e;exact⟨u,c+d,hu,fun j=>by show c*r j+v j=_; rw [eu j,e,zf8 xs]; grind⟩
    ·refine red.to v ?_;have h1:Rm φ (U++[ofV φ n x]) u:=hu.mono fun r ⟨y,hy,e⟩=>⟨y,wE _ hy,e⟩
     have h2:Rm φ (U++[ofV φ n x]) (nv φ (ofV φ n x)):=.of ⟨_,wy _ (wt.mpr rfl),rfl⟩;exact(h1.lin 1 c h2).cast fun j=>by rw [eu j,zf8 xs]; grind
   by_cases bJ:Rm φ J' b
   ·obtain⟨a,u,ha,hu,eb⟩:=(eJ b).mp bJ;have as:∀ j,n<=j->a j=0:=fun j hj=>hA.supp ha j hj
    have aB:Rm φ (B.take (i+1)) a:=(eB a).mpr ⟨fun j=>(-1)*u j,1,hu.smul (-1),fun j=>by rw [eb j]; grind⟩;have nM:¬ Rm φ M' a:=fun h=>nB (((((eM a).mp h).2).add hu).cast fun j=>(eb j).symm)
    obtain⟨M2,lm2,iM2,eM2⟩:=mkR M' lm' a iM as;have l2:=zb3 iM iM2 nM eM2;refine⟨J',lj',M2,lm2,iJ,iM2,fun v=>?_,fun v=>?_,by omega⟩
    ·rw [eJ v]
     constructor
     ·rintro ⟨a',b',ha',hb',e⟩
      exact⟨a',b',ha',(eB b').mpr ⟨b',0,hb',fun j=>by grind⟩,e⟩
     ·rintro ⟨a',b',ha',hb',e⟩
      obtain⟨u',c,hu',eu'⟩:=(eB b').mp hb';exact⟨fun j=>1*a' j+c*a j,fun j=>1*u' j+c*u j,ha'.lin 1 c ha,hu'.lin 1 c hu,fun j=>by rw [e j,eu' j,eb j]; grind⟩
    ·rw [eM2 v]
     constructor
     ·rintro ⟨m,c,hm,e⟩
      have hm':=(eM m).mp hm;refine⟨(hm'.1.lin 1 c ha).cast fun j=>by rw [e j]; grind,?_⟩;have:Rm φ (B.take (i+1)) m:=(eB m).mpr ⟨m,0,hm'.2,fun j=>by grind⟩;exact(this.lin 1 c aB).cast fun j=>by rw [e j]; grind
     ·rintro ⟨hvA,hvB⟩
      obtain⟨u',c,hu',eu'⟩:=(eB v).mp hvB;refine⟨fun j=>1*v j +(-c)*a j,c,(eM _).mpr ⟨hvA.lin 1 (-c) ha,?_⟩,fun j=>by grind⟩;exact(hu'.lin 1 c hu).cast fun j=>by rw [eu' j,eb j]; grind
   ·obtain⟨J2,lj2,iJ2,eJ2⟩:=mkR J' lj' b iJ bs;have l2:=zb3 iJ iJ2 bJ eJ2;refine⟨J2,lj2,M',lm',iJ2,iM,fun v=>?_,fun v=>?_,by omega⟩
    ·rw [eJ2 v]
     constructor
     ·rintro ⟨w,c,hw,e⟩
      obtain⟨a',b',ha',hb',e'⟩:=(eJ w).mp hw;exact⟨a',fun j=>b' j+c*b j,ha',(eB _).mpr ⟨b',c,hb',fun j=>rfl⟩,fun j=>by rw [e j,e' j]; grind⟩
     ·rintro ⟨a',b',ha',hb',e⟩
      obtain⟨u',c,hu',eu'⟩:=(eB b').mp hb';exact⟨fun j=>a' j+u' j,c,(eJ _).mpr ⟨a',u',ha',hu',fun j=>rfl⟩,fun j=>by rw [e j,eu' j]; grind⟩
    ·rw [eM v]
     constructor
     ·rintro ⟨h1,h2⟩
      exact⟨h1,(eB v).mpr ⟨v,0,h2,fun j=>by grind⟩⟩
     ·rintro ⟨h1,h2⟩
      obtain⟨u',c,hu',eu'⟩:=(eB v).mp h2
      by_cases c0:c=0
      ·exact⟨h1,hu'.cast fun j=>by rw [eu' j,c0]; grind⟩
      ·exfalso
       refine bJ ((eJ b).mpr ⟨fun j=>(1 / c)*v j,fun j=>(-(1 / c))*u' j,h1.smul _,hu'.smul _,fun j=>?_⟩);show b j=1 / c*v j + -(1 / c)*u' j;rw [eu' j]; grind
 obtain⟨J',lj',M',lm',iJ,iM,eJ,eM,len⟩:=step B.length (wu _);rw [vo] at eJ eM;have e1:J=J':=hJ.ext iJ fun v=>by rw [ej v,eJ v]
 have e2:M=M':=hM.ext iM fun v=>by rw [em v,eM v]
 rw [e1,e2]; exact len
end
end La
namespace La
open Lean.Grind Nm
section
variable{k:Int}{F:Type}[Field F]{φ:Kf k F}{n:Nat}
theorem Span.read{S:(Nat->F)->Prop}{v:Nat->F}{t:Nat}{f:Nat->Nat}{g:Nat->F}(h:Span S v)(hr:∀ r,S r->r t=dot n (fun i=>r (f i)) g):v t=dot n (fun i=>v (f i)) g:=by
 refine h.all (P:=fun v=>v t=dot n (fun i=>v (f i)) g) ?_ fun c r v q e=>?_
 ·exact(La.dot_zero n _ g fun j _=>by grind).symm
 ·show c*r t+v t=dot n (fun i=>c*r (f i)+v (f i)) g;rw [zay n (fun i=>c*r (f i)) (fun i=>v (f i)),qo c n (fun i=>r (f i)),← hr r q,← e]
theorem zf4{xs ys:List Nb}(j:Nat):nv φ (xs++ys) j=if j<xs.length then nv φ xs j else nv φ ys (j - xs.length):=by
 unfold nv
 split
 ·rename_i h; rw [we,vE h,← we]
 ·rename_i h; rw [we,vw (by omega),← we]
theorem QJ{xs:List Nb}{m j:Nat}(h:j<m):nv φ (xs.take m) j=nv φ xs j:=by
 unfold nv;rw [we,GA h,← we]
theorem zc8{xs:List Nb}{m:Nat}(j:Nat):nv φ (xs.drop m) j=nv φ xs (m+j):=by
 unfold nv;rw [we,gW,← we]
noncomputable def unitRow(k:Int)(n i:Nat):List Nb:=(wY n).map fun j=>if i=j then nnum k 1 else nnum k 0
noncomputable def unitM(k:Int)(n:Nat):List (List Nb):=(wY n).map (unitRow k n)
theorem Zn(hk:KindOk k)(n i:Nat):(unitRow k n i).length=n/\OkR k (unitRow k n i):=by
 refine⟨by unfold unitRow; simp,fun x hx=>?_⟩;obtain⟨j,_,rfl⟩:=wj.mp hx
 split
 ·exact zU hk 1
 ·exact zU hk 0
theorem yO{i:Nat}(h:i<n):(unitM k n)[i]?=some (unitRow k n i):=by unfold unitM; rw [wg,vv h]; rfl
theorem yy(hk:KindOk k)(n:Nat):OkM k n (unitM k n)/\(unitM k n).length=n:=by
 refine⟨fun r hr=>?_,by unfold unitM; simp⟩;obtain⟨i,_,rfl⟩:=wj.mp hr;exact Zn hk n i
theorem jW{i:Nat}(hi:i<n)(j:Nat):nv φ (unitRow k n i) j=unitF i 1 j:=by
 unfold unitF
 rcases wN j n with h | h
 ·rw [yB φ (x:=if i=j then nnum k 1 else nnum k 0) (by unfold unitRow; rw [wg,vv h]; rfl)]
  split
  ·rename_i e; subst e; rw [if_pos rfl]; exact φ.num1
  ·rename_i e; rw [if_neg (Ne.symm e)]; exact φ.num0
 ·rw [yW φ (by unfold unitRow; simp; exact h),if_neg (by omega)]
noncomputable def besideM(k:Int)(n:Nat)(M:List (List Nb)):List (List Nb):=vA (·++·) M (unitM k n)
theorem Yn{M:List (List Nb)}(lM:M.length=n){i:Nat}{m:List Nb}(h:M[i]?=some m):(besideM k n M)[i]?=some (m++unitRow k n i):=by
 have hi:i<n:=by rw [← lM]; exact(wo.mp h).1
 unfold besideM;rw [vJ,h,yO hi]
theorem Qe{M:List (List Nb)}(lM:M.length=n){r:List Nb}(h:r∈besideM k n M):∃ i m,i<n/\M[i]?=some m/\r=m++unitRow k n i:=by
 obtain⟨i,hi,e⟩:=wI h;have l:i<n:=by
  unfold besideM at hi;rw [wX] at hi;omega
 refine⟨i,M[i],l,wb (by omega),?_⟩;have:=Yn (k:=k) lM (wb (show i<M.length by omega));rw [wb hi,e] at this;exact Option.some.inj this
theorem qR(hk:KindOk k){M:List (List Nb)}(oM:OkM k n M)(lM:M.length=n):OkM k (n+n) (besideM k n M)/\(besideM k n M).length=n:=by
 refine⟨fun r hr=>?_,by unfold besideM; rw [wX,(yy hk n).2]; omega⟩;obtain⟨i,m,hi,hm,rfl⟩:=Qe lM hr;have o:=oM m (wc hm);have u:=Zn hk n i;refine⟨by rw [wx,o.1,u.1],fun x hx=>?_⟩
 rcases wq.mp hx with h | h
 ·exact o.2 x h
 ·exact u.2 x h
theorem JB(hk:KindOk k){M:List (List Nb)}(oM:OkM k n M){i:Nat}{m:List Nb}(h:M[i]?=some m)(hi:i<n):(∀ j,j<n->nv φ (m++unitRow k n i) j=nv φ m j)/\∀ t,nv φ (m++unitRow k n i) (n+t)=unitF i 1 t:=by
 have o:=oM m (wc h);refine⟨fun j hj=>by rw [zf4,if_pos (by omega)],fun t=>?_⟩;rw [zf4,if_neg (by omega),o.1,uV,jW hi]
theorem zcw(hk:KindOk k){M:List (List Nb)}(oM:OkM k n M)(lM:M.length=n){v:Nat->F}(hv:Rm φ (besideM k n M) v){j:Nat}(hj:j<n):v j=dot n (fun i=>v (n+i)) (fun i=>nv φ (M.getD i []) j):=by
 refine Span.read hv fun r ⟨x,hx,e⟩=>?_
 obtain⟨i,m,hi,hm,rfl⟩:=Qe lM hx;obtain⟨h1,h2⟩:=JB (φ:=φ) hk oM hm hi;rw [e,h1 j hj,show(fun t=>nv φ (m++unitRow k n i) (n+t))=unitF i 1 from funext h2,ym,jg hi];have:M.getD i []=m:=by rw [we,hm]; rfl
 rw [this]; grind
theorem zdT(hk:KindOk k){R:List (List Nb)}(hU:R.map (gh n)=unitM k n){v:Nat->F}(hv:Rm φ R v)(t:Nat):v (n+t)=dot n v (fun p=>nv φ (R.getD p []) (n+t)):=by
 refine Span.read (f:=fun p=>p) hv fun r ⟨x,hx,e⟩=>?_
 obtain⟨p,hp,ep⟩:=wI hx;have lR:R.length=n:=by have:=congrArg Ga hU; rw [wa,(yy hk n).2] at this; exact this
 have hpn:p<n:=by omega
 have eu:x.take n=unitRow k n p:=by
  have:=congrArg (fun l=>l[p]?) hU;simp only [wg] at this;rw [wb hp,ep,yO hpn] at this;exact Option.some.inj this
 have:R.getD p []=x:=by rw [we,wb hp,ep]; rfl
 rw [e];have h1:dot n (fun i=>nv φ x i) (fun p=>nv φ (R.getD p []) (n+t))=dot n (unitF p 1) (fun p=>nv φ (R.getD p []) (n+t)):=yc fun j hj=>by rw [← jW (φ:=φ) hpn,← eu,QJ hj]
 rw [h1,ym,jg hpn,this]; grind
end
end La
namespace La
open Lean.Grind Nm
section
variable{k:Int}{F:Type}[Field F]{φ:Kf k F}{n:Nat}
theorem zg6(φ:Kf k F)(hk:KindOk k){M R:List (List Nb)}{ls:List Nat}(oM:OkM k n M)(red:RedOf φ n M R ls):R.length<=M.length:=by
 have:∃ Ws:List (List Int),Ws.length=M.length/\∀(i:Nat)(r:List Nb)(ws:List Int),M[i]?=some r->Ws[i]?=some ws->∃ b,Scl k r ws b:=by
  clear red
  induction M with
  | nil=>exact⟨[],rfl,fun i r ws h=>by simp at h⟩
  | cons m M ih =>
   obtain⟨Ws,l,h⟩:=ih fun r hr=>oM r (wr _ hr)
   obtain⟨b,hb⟩:=Ze hk (oM m wm).2;refine⟨m.map (scW b)::Ws,by simp [l],fun i r ws h1 h2=>?_⟩;cases i with
   | zero=>simp at h1 h2; subst h1 h2; exact⟨b,hb⟩
   | succ i=>exact h i r ws (by simpa using h1) (by simpa using h2)
 obtain⟨Ws,l,h⟩:=this;have eR:R=redM k n Ws:=red.unique (Jw φ hk oM l h) (fun v q=>q) (fun v q=>q);have:=ZK (k:=k) Ws n;rw [eR]; unfold redM; rw [wa]; omega
theorem zgL{ls:List Nat}(inc:ls.Pairwise (·<·))(all:∀ p,p<n->p∈ls)(len:ls.length<=n):ls=wY n:=by
 have h1:ls.filter (fun x=>decide (x<n))=wY n:=jn (inc.filter _) uY (fun p hp=>by
  rw [wW] at hp; exact vp.mpr (of_decide_eq_true hp.2)) (fun q hq=>by
  have:=vp.mp hq;rw [wW]; exact⟨all q this,decide_eq_true this⟩)
 have h2:=jC (fun x=>decide (x<n)) ls;rw [h1,vB] at h2;have h3:ls.filter (fun x=>!decide (x<n))=[]:=ue (by omega);rw [List.filter_eq_nil_iff] at h3;rw [← h1];refine(List.filter_eq_self.mpr fun x hx=>?_).symm;have:=h3 x hx
 simpa using this
theorem zcn(hk:KindOk k){M:List (List Nb)}(oM:OkM k n M)(lM:M.length=n){v:Nat->F}(h:Rm φ M v):∃ w,Rm φ (besideM k n M) w/\∀ j,j<n->w j=v j:=by
 refine h.all (P:=fun v=>∃ w,Rm φ (besideM k n M) w/\∀ j,j<n->w j=v j) ⟨fun _=>0,.zero,fun _ _=>rfl⟩ fun c r v ⟨x,hx,e⟩ ⟨w,hw,ew⟩=>?_
 obtain⟨i,hi,ei⟩:=wI hx;have hg:M[i]?=some x:=by rw [wb hi,ei]
 have b:=Yn (k:=k) lM hg;refine⟨fun j=>c*nv φ (x++unitRow k n i) j+w j,.step c ⟨_,wc b,rfl⟩ hw,fun j hj=>?_⟩
 dsimp only
 rw [(JB (φ:=φ) hk oM hg (by omega)).1 j hj,ew j hj,e]
theorem zgj{M:List (List Nb)}(oM:OkM k n M){v:Nat->F}(h:Rm φ M v){j:Nat}(hj:n<=j):v j=0 :=
 Span.zero_at h fun r ⟨x,hx,e⟩=>by rw [e,yW φ (by rw [(oM x hx).1]; exact hj)]
theorem zaH(hk:KindOk k){M R:List (List Nb)}{ls:List Nat}(oM:OkM k n M)(lM:M.length=n)(red:RedOf φ (n+n) (besideM k n M) R ls)(all:∀ p,p<n->∃ v,Rm φ M v/\(∀ j,j<p->v j=0)/\v p≠0):R.map (gh n)=unitM k n:=by
 have lR:=zg6 φ hk (qR hk oM lM).1 red;rw [(qR hk oM lM).2] at lR;have h:=red.toIsR;have el:ls=wY n:=zgL h.inc (fun p hp=>by
  obtain⟨v,hv,z,ne⟩:=all p hp;obtain⟨w,hw,e⟩:=zcn hk oM lM hv;exact(h.lead_iff p).mpr ⟨w,red.to w hw,fun j hj=>by rw [e j (by omega),z j hj],by rw [e p hp]; exact ne⟩) (by rw [h.len]; exact lR)
 have hl:R.length=n:=by rw [← h.len,el,vB]
 refine Gc (by rw [wa,hl,(yy hk n).2]) fun p h1 h2=>?_
 have hp:p<n:=by rw [wa] at h1; omega
 have e2:(unitM k n)[p]=unitRow k n p:=by
  have:=yO (k:=k) hp;rw [wb h2] at this;exact Option.some.inj this
 rw [Gd,e2];have o:=h.ok _ (wk (show p<R.length by omega));have u:=Zn hk n p;refine zfm φ (fun x hx=>o.2 x (uT hx)) u.2 (by rw [wv,o.1,u.1]; omega) fun j=>?_
 have lp:∀ q,q<n->ls[q]?=some q:=fun q hq=>by rw [el,vv hq]
 rcases wN j n with hj | hj
 ·rw [QJ hj,jW hp];have m1:=h.get (lp p hp) (wb (show p<R.length by omega));have m2:=h.get (lp j hj) (wb (show j<R.length by omega));unfold unitF
  split
  ·rename_i e; subst e; exact h.rr.one _ m1
  ·rename_i e; exact h.rr.oth _ m1 _ m2 (Ne.symm e)
 ·rw [yW φ (by rw [wv]; omega),yW φ (by rw [u.1]; exact hj)]
theorem ZX(φ:Kf k F)(hk:KindOk k)(n:Nat):IsR φ n (unitM k n) (wY n):=by
 have mem:∀ p∈(wY n).zip ((unitM k n).map (nv φ)),p.1<n/\p.2=unitF p.1 1:=fun p hp=>by
  obtain⟨i,hi,e⟩:=wI hp;have hin:i<n:=by rw [vI,vB] at hi; omega
  have:((wY n).zip ((unitM k n).map (nv φ)))[i]?=some (i,nv φ (unitRow k n i)):=by
   rw [uQ];exact⟨vv hin,by rw [wg,yO hin]; rfl⟩
  rw [wb hi,e] at this;rw [Option.some.inj this];exact⟨hin,funext fun j=>jW hin j⟩
 refine⟨(yy hk n).1,by rw [vB,(yy hk n).2],?_,fun p hp=>(mem p hp).1,fun p hp j hj=>?_,fun p hp j hj=>?_,fun p hp=>?_,fun p hp q hq ne=>?_⟩
 ·rw [← uz (f:=Prod.fst) (R:=(·<·)),uU (by rw [wa,vB,(yy hk n).2]; exact wu _)];exact uY
 ·rw [(mem p hp).2]; unfold unitF; rw [if_neg (by have:=(mem p hp).1; omega)]
 ·rw [(mem p hp).2]; unfold unitF; rw [if_neg (by omega)]
 ·rw [(mem p hp).2]; unfold unitF; rw [if_pos rfl]
 ·rw [(mem p hp).2]; unfold unitF; rw [if_neg (Ne.symm ne)]
end
end La
namespace La
open Lean.Grind Nm
section
variable{k:Int}{F:Type}[Field F]{φ:Kf k F}
theorem QC(n:Nat)(c:Nat->F)(b:Nat->Nat->F)(a:Nat->F):∀ m,dot m a (fun i=>dot n (b i) c)=dot n (fun j=>dot m a (fun i=>b i j)) c
 | 0=>by
  rw [dot_zero n (fun j=>dot 0 a fun i=>b i j) c fun j _=>by simp only [dot]; grind]
  rfl
 | m+1=>by
  have e:dot n (fun j=>dot (m+1) a (fun i=>b i j)) c=dot n (fun j=>dot m a (fun i=>b i j)) c+dot n (fun j=>a m*b m j) c:=by
   rw [← zay]
   rfl
  rw [e,← QC n c b a m,qo]
  rfl
noncomputable def imgR(k:Int)(M:List (List Nb))(x:List Nb):List Nb:=M.map fun r=>ndot k r x
noncomputable def prodR(k:Int)(c:Nat)(M N:List (List Nb)):List (List Nb):=M.map fun r=>(trF c N).map fun col=>ndot k r col
theorem Yt(hk:KindOk k){n:Nat}{M:List (List Nb)}{x:List Nb}(oM:OkM k n M)(ox:OkR k x):(imgR k M x).length=M.length/\OkR k (imgR k M x):=by
 refine⟨by unfold imgR; rw [wa],fun y hy=>?_⟩;unfold imgR at hy;obtain⟨r,hr,rfl⟩:=wj.mp hy;exact xv hk (oM r hr).2 ox
theorem qH(n:Nat)(M:List (List Nb)):(trF n M).length=n:=by unfold trF; simp
theorem Yv{n i:Nat}{M:List (List Nb)}(h:i<n):(trF n M)[i]?=some (M.map fun r=>r.getD i (.z 0)):=by unfold trF; simp [h]
theorem zfa{n j:Nat}{M:List (List Nb)}(h:OkM k n M)(hj:j<n):(M.map fun r=>r.getD j (.z 0)).length=M.length/\OkR k (M.map fun r=>r.getD j (.z 0)):=by
 refine⟨wa _,fun x hx=>?_⟩;obtain⟨row,hrow,rfl⟩:=wj.mp hx;obtain⟨h1,h2⟩:=h row hrow;have hj':j<row.length:=by omega
 rw [we,wb hj'];exact h2 _ (wk hj')
theorem zbz{n:Nat}{M:List (List Nb)}(h:OkM k n M):OkM k M.length (trF n M):=fun r hr=>by
 unfold trF at hr;obtain⟨j,hj,rfl⟩:=wj.mp hr;rw [vp] at hj;exact zfa h hj
theorem jt(hk:KindOk k){b c:Nat}{M N:List (List Nb)}(oM:OkM k b M)(oN:OkM k c N):(prodR k c M N).length=M.length/\OkM k c (prodR k c M N):=by
 refine⟨by unfold prodR; rw [wa],fun r hr=>?_⟩;unfold prodR at hr;obtain⟨m,hm,rfl⟩:=wj.mp hr;refine⟨by rw [wa,qH],fun x hx=>?_⟩;obtain⟨col,hcol,rfl⟩:=wj.mp hx;exact xv hk (oM m hm).2 (zbz oN col hcol).2
theorem zh1(hk:KindOk k){b c:Nat}{r x:List Nb}{N:List (List Nb)}(or:OkR k r)(lr:r.length=b)(oN:OkM k c N)(lN:N.length=b)(ox:OkR k x)(lx:x.length=c) :
  ndot k r (imgR k N x)=ndot k ((trF c N).map fun col=>ndot k r col) x:=by
 obtain⟨F,_,_,⟨φ⟩⟩:=yf hk;obtain⟨li,oi⟩:=Yt hk oN ox;have oT:=zbz oN;have oL:OkR k ((trF c N).map fun col=>ndot k r col):=fun y hy=>by
  obtain⟨col,hcol,rfl⟩:=wj.mp hy;exact xv hk or (oT col hcol).2
 have lL:((trF c N).map fun col=>ndot k r col).length=c:=by rw [wa,qH]
 refine φ.inj (xv hk or oi) (xv hk oL ox) ?_;rw [xU φ hk or oi (by rw [lr,li,lN]),xU φ hk oL ox (by rw [lL,lx]),lr,lL];have e1:dot b (nv φ r) (nv φ (imgR k N x))=dot b (nv φ r) (fun i=>dot c (nv φ (N.getD i [])) (nv φ x)):=yc fun i hi=>by
  have hi':i<N.length:=by omega
  have g:N[i]?=some N[i]:=wb hi';have ge:N.getD i []=N[i]:=by rw [we,g]; rfl
  have on:=oN N[i] (wk hi');rw [yB φ (xs:=imgR k N x) (x:=ndot k N[i] x) (by unfold imgR; rw [wg,g]; rfl),ge,xU φ hk on.2 ox (by rw [on.1,lx]),on.1]
 rw [e1,QC c (nv φ x) (fun i=>nv φ (N.getD i [])) (nv φ r) b];refine yc fun j hj=>?_
 have g:((trF c N).map fun col=>ndot k r col)[j]?=some (ndot k r (N.map fun r=>r.getD j (.z 0))):=by rw [wg,Yv hj]; rfl
 have oc:=zfa oN hj;rw [yB φ g,xU φ hk or oc.2 (by rw [lr,oc.1,lN]),lr];have e2:dot b (nv φ r) (nv φ (N.map fun r=>r.getD j (.z 0)))=dot b (nv φ r) (fun i=>nv φ (N.getD i []) j):=yc fun i hi=>by
  have hi':i<N.length:=by omega
  have g:N[i]?=some N[i]:=wb hi';have ge:N.getD i []=N[i]:=by rw [we,g]; rfl
  rw [zi3 φ oN hj g,ge]
 rw [e2]
theorem zgt{b d j:Nat}{N P:List (List Nb)}(hj:j<d):((prodR k d N P).map fun r=>r.getD j (.z 0))=imgR k N (P.map fun r=>r.getD j (.z 0)):=by
 unfold prodR imgR;rw [vV];refine uq fun r _=>?_
 show((trF d P).map fun col=>ndot k r col).getD j (.z 0)=_;rw [we,wg,Yv hj]; rfl
theorem zdq{d:Nat}{N P:List (List Nb)}:trF d (prodR k d N P) =(trF d P).map (imgR k N):=by
 refine uS fun j=>?_
 rcases wN j d with h | h
 ·rw [Yv h,wg,Yv h,zgt (b:=0) h]; rfl
 ·rw [wJ (by rw [qH]; exact h),wJ (by rw [wa,qH]; exact h)]
theorem zdD(hk:KindOk k){b c d:Nat}{M N Q:List (List Nb)}(oM:OkM k b M)(oN:OkM k c N)(lN:N.length=b)(oQ:OkM k d Q)(lQ:Q.length=c):prodR k d (prodR k c M N) Q=prodR k d M (prodR k d N Q):=by
 unfold prodR;rw [vV];refine uq fun r hr=>?_
 show(trF d Q).map (fun col=>ndot k ((trF c N).map fun col=>ndot k r col) col) =(trF d (prodR k d N Q)).map fun col=>ndot k r col
 rw [zdq,vV];refine uq fun col hcol=>?_
 have oc:=zbz oQ col hcol;exact(zh1 hk (oM r hr).2 (oM r hr).1 oN lN oc.2 (by rw [oc.1,lQ])).symm
end
end La
namespace La
open Lean.Grind Nm
section
variable{k:Int}{F:Type}[Field F]{φ:Kf k F}
noncomputable def Unit2(n:Nat)(T S:Nat->Nat->F):Prop:=∀ p q,p<n->q<n->dot n (T p) (fun l=>S l q)=if p=q then 1 else 0
noncomputable def PairU(k:Int)(n:Nat)(T S:List (List Nb)):Prop:=∀(F:Type) [Field F] (φ:Kf k F),Unit2 n (fun p=>nv φ (T.getD p [])) (fun l q=>nv φ (S.getD l []) q)
theorem PairU.prod(hk:KindOk k){n:Nat}{T S:List (List Nb)}(h:PairU k n T S)(oT:OkM k n T)(lT:T.length=n)(oS:OkM k n S)(lS:S.length=n):prodR k n T S=unitM k n:=by
 obtain⟨F,_,_,⟨φ⟩⟩:=yf hk;have lP:=jt hk oT oS;have lU:=yy hk n;refine uS fun p=>?_
 rcases wN p n with hp | hp
 ·have hp':p<T.length:=by omega
  unfold prodR;rw [wg,wb hp',yO hp];show some _=some _
  congr 1
  have oc:=zbz oS;have op:=oT T[p] (wk hp');have ou:=Zn hk n p;refine zfm φ (fun x hx=>?_) ou.2 (by rw [wa,qH,ou.1]) fun q=>?_
  ·obtain⟨col,hcol,rfl⟩:=wj.mp hx;exact xv hk op.2 (oc col hcol).2
  ·rcases wN q n with hq | hq
   ·rw [yB φ (x:=ndot k T[p] (S.map fun r=>r.getD q (.z 0))) (by rw [wg,Yv hq]; rfl),jW hp];have ocq:=zfa oS hq;rw [xU φ hk op.2 ocq.2 (by rw [op.1,ocq.1,lS]),op.1];have e:dot n (nv φ (T.getD p [])) (fun l=>nv φ (S.getD l []) q)=if p=q then 1 else 0:=h F φ p q hp hq
    have gp:T.getD p []=T[p]:=by rw [we,wb hp']; rfl
    rw [gp] at e;have e2:dot n (nv φ T[p]) (nv φ (S.map fun r=>r.getD q (.z 0)))=dot n (nv φ T[p]) (fun l=>nv φ (S.getD l []) q):=yc fun l hl=>by
     have hl':l<S.length:=by omega
     have g:S[l]?=some S[l]:=wb hl';have ge:S.getD l []=S[l]:=by rw [we,g]; rfl
     rw [zi3 φ oS hq g,ge]
    rw [e2,e];unfold unitF
    by_cases c:p=q
    ·rw [if_pos c,if_pos c.symm]
    ·rw [if_neg c,if_neg (Ne.symm c)]
   ·rw [yW φ (by rw [wa,qH]; exact hq),yW φ (by rw [ou.1]; exact hq)]
 ·rw [wJ (by rw [lP.1]; omega),wJ (by rw [lU.2]; exact hp)]
end
end La
namespace La
open Lean.Grind Nm
section
variable{k:Int}{F:Type}[Field F]{φ:Kf k F}{n:Nat}
theorem zei{S:List (List Nb)}{f:List Nb->List Nb}{l:Nat}(hl:l<S.length):(S.map f).getD l []=f (S.getD l []):=by
 rw [we,wg,we,wb hl]; rfl
theorem ziL{xs:List Nb}{j:Nat}(hj:j<xs.length):φ.to (xs.getD j (.z 0))=nv φ xs j:=by
 rw [yB φ (wb hj),we,wb hj]; rfl
theorem yL{S:List (List Nb)}{i:Nat}(hi:i<S.length):S[i]?=some (S.getD i []):=by rw [we,wb hi]; rfl
end
end La
namespace La
open Lean.Grind Nm
section
variable{k:Int}{F:Type}[Field F]{φ:Kf k F}{n:Nat}
theorem Rm.app{A B:List (List Nb)}{v:Nat->F}:Rm φ (A++B) v↔∃ a b,Rm φ A a/\Rm φ B b/\∀ j,v j=a j+b j:=by
 constructor
 ·intro hv;refine hv.all (P:=fun v=>∃ a b,Rm φ A a/\Rm φ B b/\∀ j,v j=a j+b j) ⟨fun _=>0,fun _=>0,.zero,.zero,fun j=>by grind⟩ fun c r v ⟨x,hx,e⟩ ⟨a,b,ha,hb,ev⟩=>?_
  rcases wq.mp hx with q | q
  ·exact⟨fun j=>c*r j+a j,b,.step c ⟨x,q,e⟩ ha,hb,fun j=>by show c*r j+v j=c*r j+a j+b j; rw [ev j]; grind⟩
  ·exact⟨a,fun j=>c*r j+b j,ha,.step c ⟨x,q,e⟩ hb,fun j=>by show c*r j+v j=a j +(c*r j+b j); rw [ev j]; grind⟩
 ·rintro ⟨a,b,ha,hb,ev⟩
  have h1:Rm φ (A++B) a:=ha.mono fun r ⟨x,hx,e⟩=>⟨x,wE _ hx,e⟩
  have h2:Rm φ (A++B) b:=hb.mono fun r ⟨x,hx,e⟩=>⟨x,wy _ hx,e⟩
  exact(h1.add h2).cast fun j=>(ev j).symm
noncomputable def limg(φ:Kf k F)(n:Nat)(A:List (List Nb))(v:Nat->F):Nat->F:=fun i=>dot n (nv φ (A.getD i [])) v
theorem zdc(A:List (List Nb))(c:F)(u v:Nat->F)(i:Nat):limg φ n A (fun j=>c*u j+v j) i=c*limg φ n A u i+limg φ n A v i:=by
 unfold limg;rw [ZN n _ (fun j=>c*u j) v,Qc]
theorem XI(A:List (List Nb))(i:Nat):limg φ n A (fun _=>0) i=0:=dot_zero n _ _ fun j _=>by grind
theorem JC(j:Nat):nv φ [] j=0:=yW φ (vz _)
theorem zbx(hk:KindOk k){A:List (List Nb)}{x:List Nb}(oA:OkM k n A)(ox:OkR k x)(lx:x.length=n)(i:Nat):nv φ (imgR k A x) i=limg φ n A (nv φ x) i:=by
 unfold limg
 rcases wN i A.length with h | h
 ·have g:A[i]?=some A[i]:=wb h;have ge:A.getD i []=A[i]:=by rw [we,g]; rfl
  have oa:=oA A[i] (wk h);rw [yB φ (xs:=imgR k A x) (x:=ndot k A[i] x) (by unfold imgR; rw [wg,g]; rfl),xU φ hk oa.2 ox (by rw [oa.1,lx]),oa.1,ge]
 ·rw [yW φ (by unfold imgR; rw [wa]; exact h)];have ge:A.getD i []=[]:=by rw [we,wJ h]; rfl
  rw [ge,dot_zero n _ _ fun j _=>by rw [JC]; grind]
theorem Rm.img(hk:KindOk k){A R:List (List Nb)}(oA:OkM k n A)(oR:OkM k n R){w:Nat->F}:Rm φ (R.map (imgR k A)) w↔∃ v,Rm φ R v/\∀ i,w i=limg φ n A v i:=by
 constructor
 ·intro h;refine h.all (P:=fun w=>∃ v,Rm φ R v/\∀ i,w i=limg φ n A v i) ⟨fun _=>0,.zero,fun i=>(XI A i).symm⟩ fun c r w ⟨x,hx,e⟩ ⟨v,hv,ev⟩=>?_
  obtain⟨y,hy,rfl⟩:=wj.mp hx;have oy:=oR y hy;refine⟨fun j=>c*nv φ y j+v j,.step c ⟨y,hy,rfl⟩ hv,fun i=>?_⟩;rw [zdc,← ev i,← zbx hk oA oy.2 oy.1,e]
 ·rintro ⟨v,hv,ev⟩
  have:Rm φ (R.map (imgR k A)) (limg φ n A v):=by
   refine hv.all (P:=fun v=>Rm φ (R.map (imgR k A)) (limg φ n A v)) (Span.cast .zero fun i=>(XI A i).symm) fun c r v ⟨x,hx,e⟩ hw=>?_
   have ox:=oR x hx;refine Span.cast (.step c (r:=nv φ (imgR k A x)) ⟨_,wj.mpr ⟨x,hx,rfl⟩,rfl⟩ hw) fun i=>?_
   rw [zdc,e,zbx hk oA ox.2 ox.1]
  exact this.cast fun i=>(ev i).symm
noncomputable def kry(k:Int)(A B:List (List Nb)):Nat->List (List Nb)
 | 0=>B
 | t+1=>B ++(kry k A B t).map (imgR k A)
theorem xy(hk:KindOk k){A B:List (List Nb)}(oA:OkM k n A)(lA:A.length=n)(oB:OkM k n B):∀ t,OkM k n (kry k A B t)
 | 0=>oB
 | t+1=>fun r hr=>by
  rcases wq.mp hr with h | h
  ·exact oB r h
  ·obtain⟨x,hx,rfl⟩:=wj.mp h;have:=Yt hk oA (xy hk oA lA oB t x hx).2;exact⟨by rw [this.1,lA],this.2⟩
theorem zcQ(hk:KindOk k){A B R:List (List Nb)}(oA:OkM k n A)(lA:A.length=n)(oB:OkM k n B)(oR:OkM k n R){t:Nat}(e:∀ v,Rm φ R v↔Rm φ (kry k A B t) v)(v:Nat->F):Rm φ (B++R.map (imgR k A)) v↔Rm φ (kry k A B (t+1)) v:=by
 show _↔Rm φ (B ++(kry k A B t).map (imgR k A)) v;rw [Rm.app,Rm.app]
 constructor
 ·rintro ⟨a,b,ha,hb,ev⟩
  obtain⟨u,hu,eu⟩:=(Rm.img hk oA oR).mp hb;exact⟨a,b,ha,(Rm.img hk oA (xy hk oA lA oB t)).mpr ⟨u,(e u).mp hu,eu⟩,ev⟩
 ·rintro ⟨a,b,ha,hb,ev⟩
  obtain⟨u,hu,eu⟩:=(Rm.img hk oA (xy hk oA lA oB t)).mp hb;exact⟨a,b,ha,(Rm.img hk oA oR).mpr ⟨u,(e u).mpr hu,eu⟩,ev⟩
theorem qj(hk:KindOk k){A B:List (List Nb)}(oA:OkM k n A)(lA:A.length=n)(oB:OkM k n B):∀(t:Nat)(v:Nat->F),Rm φ (kry k A B t) v->Rm φ (kry k A B (t+1)) v
 | 0,v,h=>h.mono fun r ⟨x,hx,e⟩=>⟨x,wE _ hx,e⟩
 | t+1,v,h=>by
  have h':Rm φ (B ++(kry k A B t).map (imgR k A)) v:=h;obtain⟨a,b,ha,hb,ev⟩:=Rm.app.mp h';obtain⟨u,hu,eu⟩:=(Rm.img hk oA (xy hk oA lA oB t)).mp hb;exact Rm.app.mpr ⟨a,b,ha,(Rm.img hk oA (xy hk oA lA oB (t+1))).mpr ⟨u,qj hk oA lA oB t u hu,eu⟩,ev⟩
theorem zba(hk:KindOk k){A B:List (List Nb)}(oA:OkM k n A)(lA:A.length=n)(oB:OkM k n B)(t:Nat):∀(d:Nat)(v:Nat->F),Rm φ (kry k A B t) v->Rm φ (kry k A B (t+d)) v
 | 0,v,h=>h
 | d+1,v,h=>qj hk oA lA oB (t+d) v (zba hk oA lA oB t d v h)
theorem QQ(hk:KindOk k){A B:List (List Nb)}(oA:OkM k n A)(lA:A.length=n)(oB:OkM k n B){t:Nat}(s:∀ v,Rm φ (kry k A B (t+1)) v->Rm φ (kry k A B t) v):∀(d:Nat)(v:Nat->F),Rm φ (kry k A B (t+d)) v->Rm φ (kry k A B t) v
 | 0,v,h=>h
 | d+1,v,h=>by
  refine s v ?_;have h':Rm φ (B ++(kry k A B (t+d)).map (imgR k A)) v:=h;obtain⟨a,b,ha,hb,ev⟩:=Rm.app.mp h';obtain⟨u,hu,eu⟩:=(Rm.img hk oA (xy hk oA lA oB (t+d))).mp hb;exact Rm.app.mpr ⟨a,b,ha,(Rm.img hk oA (xy hk oA lA oB t)).mpr ⟨u,QQ hk oA lA oB s d u hu,eu⟩,ev⟩
theorem zho(hk:KindOk k){A B:List (List Nb)}(oA:OkM k n A)(lA:A.length=n)(oB:OkM k n B){t:Nat}(s:∀ v,Rm φ (kry k A B (t+1)) v->Rm φ (kry k A B t) v){m:Nat}(hm:t<=m)(v:Nat->F):Rm φ (kry k A B m) v↔Rm φ (kry k A B t) v:=by
 obtain⟨d,rfl⟩:=Nat.le.dest hm;exact⟨QQ hk oA lA oB s d v,zba hk oA lA oB t d v⟩
theorem zd4(hk:KindOk k){A B:List (List Nb)}(oA:OkM k n A)(lA:A.length=n)(oB:OkM k n B){t:Nat}(s:∀ v,Rm φ (kry k A B (t+1)) v->Rm φ (kry k A B t) v){v:Nat->F}(h:Rm φ (kry k A B t) v):Rm φ (kry k A B t) (limg φ n A v) :=
 s _ (Rm.app.mpr ⟨fun _=>0,limg φ n A v,.zero,(Rm.img hk oA (xy hk oA lA oB t)).mpr ⟨v,h,fun _=>rfl⟩,fun j=>by grind⟩)
theorem IsR.sub_len{U W:List (List Nb)}{lu lw:List Nat}(hU:IsR φ n U lu)(hW:IsR φ n W lw)(sub:∀ v,Rm φ U v->Rm φ W v):U.length<=W.length/\(W.length<=U.length->∀ v,Rm φ W v->Rm φ U v):=by
 have inc:=hU.inc;have inc':=hW.inc;have sb:∀ p∈lu,p∈lw:=fun p hp=>by
  obtain⟨v,hv,z,ne⟩:=(hU.lead_iff p).mp hp;exact(hW.lead_iff p).mpr ⟨v,sub v hv,z,ne⟩
 have ef:lu=lw.filter fun p=>decide (p∈lu):=jn inc (inc'.filter _) (fun p hp=>wW.mpr ⟨sb p hp,decide_eq_true hp⟩) fun p hp=>of_decide_eq_true (wW.mp hp).2
 have le:lu.length<=lw.length:=by rw [ef]; exact vL _ _
 refine⟨by rw [← hU.len,← hW.len]; exact le,fun ge v hv=>?_⟩;have e:(lw.filter fun p=>decide (p∈lu)).length=lw.length:=by rw [← ef]; rw [← hU.len,← hW.len] at ge; omega
 have sb':∀ p∈lw,p∈lu:=fun p hp=>of_decide_eq_true (List.length_filter_eq_length_iff.mp e p hp)
 obtain⟨u,hu,eu⟩:=hU.take_off v;have hd:Rm φ W (fun j=>v j +(-1)*u j):=hv.add ((sub u hu).smul (-1));have z:=hW.zero hd fun l hl=>by rw [eu l (sb' l hl)]; grind
 exact hu.cast fun j=>by have:=z j; grind
end
end La
namespace La
open Lean.Grind Nm
section
variable{k:Int}
end
end La
namespace La
open Lean.Grind Nm
section
variable{k:Int}{n:Nat}{F:Type}[Field F]{φ:Kf k F}
theorem zbc{R:List (List Nb)}{p:Nat}(hp:p<R.length):(R.map (vX n)).getD p [] =(R.getD p []).drop n:=zei hp
theorem zcu{M R:List (List Nb)}{ls:List Nat}(hk:KindOk k)(red:RedOf φ (n+n) (besideM k n M) R ls)(hU:R.map (gh n)=unitM k n):OkM k n (R.map (vX n))/\R.length=n:=by
 have lR:R.length=n:=by have:=congrArg Ga hU; rw [wa,(yy hk n).2] at this; exact this
 refine⟨fun r hr=>?_,lR⟩;obtain⟨x,hx,rfl⟩:=wj.mp hr;have o:=red.ok x hx;exact⟨by rw [ut,o.1]; omega,fun y hy=>o.2 y (wai hy)⟩
theorem row_of{R:List (List Nb)}{p:Nat}(hp:p<R.length):Rm φ R (nv φ (R.getD p [])):=.of ⟨_,by rw [we,wb hp]; exact wk hp,rfl⟩
theorem zgn{M R:List (List Nb)}{ls:List Nat}(hk:KindOk k)(oM:OkM k n M)(lM:M.length=n)(red:RedOf φ (n+n) (besideM k n M) R ls)(hU:R.map (gh n)=unitM k n):Unit2 n (fun p=>nv φ ((R.map (vX n)).getD p [])) (fun l q=>nv φ (M.getD l []) q):=fun p q hp hq=>by
 have lR:=(zcu hk red hU).2;have h:=zcw hk oM lM (red.fro _ (row_of (φ:=φ) (R:=R) (p:=p) (by omega))) hq;have eu:(R.getD p []).take n=unitRow k n p:=by
  have:=congrArg (fun l=>l[p]?) hU;simp only [wg] at this;rw [yL (by omega),yO hp] at this;exact Option.some.inj this
 show dot n (nv φ ((R.map (vX n)).getD p [])) (fun l=>nv φ (M.getD l []) q)=_;rw [zbc (by omega)];have e:(fun i=>nv φ ((R.getD p []).drop n) i)=fun i=>nv φ (R.getD p []) (n+i):=funext fun i=>zc8 i
 show dot n (fun i=>nv φ ((R.getD p []).drop n) i) _=_;rw [e,← h,← QJ (m:=n) hq,eu,jW hp];unfold unitF
 by_cases c:p=q
 ·rw [if_pos c,if_pos c.symm]
 ·rw [if_neg c,if_neg (fun z=>c z.symm)]
theorem Qi{M R:List (List Nb)}{ls:List Nat}(hk:KindOk k)(oM:OkM k n M)(lM:M.length=n)(red:RedOf φ (n+n) (besideM k n M) R ls)(hU:R.map (gh n)=unitM k n):Unit2 n (fun p=>nv φ (M.getD p [])) (fun l q=>nv φ ((R.map (vX n)).getD l []) q):=fun p q hp hq=>by
 have lR:=(zcu hk red hU).2;have hm:=yL (S:=M) (i:=p) (by omega);have hb:=Yn (k:=k) lM hm;have h:=zdT hk hU (red.to _ (.of ⟨_,wc hb,rfl⟩)) q;obtain⟨h1,h2⟩:=JB (φ:=φ) hk oM hm hp;rw [h2 q] at h;have e1:dot n (nv φ (M.getD p []++unitRow k n p)) (fun p=>nv φ (R.getD p []) (n+q))=dot n (nv φ (M.getD p [])) (fun l=>nv φ ((R.map (vX n)).getD l []) q):=yc fun j hj=>by
  rw [h1 j hj,zbc (by omega),zc8]
 show dot n (nv φ (M.getD p [])) (fun l=>nv φ ((R.map (vX n)).getD l []) q)=_;rw [← e1,← h];unfold unitF
 by_cases c:p=q
 ·rw [if_pos c,if_pos c.symm]
 ·rw [if_neg c,if_neg (fun z=>c z.symm)]
end
section
variable{k:Int}{n:Nat}
theorem zfZ{M R:List (List Nb)}{ls:List Nat}(hk:KindOk k)(oM:OkM k n M)(lM:M.length=n)(red:∀(F:Type) [Field F] (φ:Kf k F),RedOf φ (n+n) (besideM k n M) R ls)(hU:R.map (gh n)=unitM k n):PairU k n M (R.map (vX n))/\PairU k n (R.map (vX n)) M :=
 ⟨fun F _ φ=>Qi hk oM lM (red F φ) hU,fun F _ φ=>zgn hk oM lM (red F φ) hU⟩
end
end La
namespace La
open Lean.Grind Nm
noncomputable def zdot:Nat->(Nat->Int)->(Nat->Int)->Int
 | 0,_,_=>0
 | n+1,u,v=>zdot n u v+u n*v n
theorem XB{F:Type}[Field F](u v:Nat->Int):∀ n,(ι (zdot n u v):F)=dot n (fun j=>ι (u j)) (fun j=>ι (v j))
 | 0=>ι_zero
 | n+1=>by
  show(ι (zdot n u v+u n*v n):F)=dot n _ _+ι (u n)*ι (v n);rw [ι_add,ι_mul,XB u v n]
theorem zaM(p:Int)(u y z:Nat->Int):∀ n,(∀ j,j<n->y j=p*z j)->zdot n u y=p*zdot n u z
 | 0,_=>by show(0:Int)=p*0; omega
 | n+1,h=>by
  show zdot n u y+u n*y n=p *(zdot n u z+u n*z n);rw [zaM p u y z n fun j hj=>h j (by omega),h n (by omega)]
  grind
noncomputable def zr(ws:List Int):Nat->Int:=fun j=>ws.getD j 0
noncomputable def Kz(n:Nat)(A B:List (List Int)):Nat->(Nat->Int)->Prop
 | 0,v=>∃ r∈B,v=zr r
 | t+1,v=>(∃ r∈B,v=zr r)\/∃ u,Kz n A B t u/\v=fun i=>zdot n (zr (A.getD i [])) u
section
variable{n:Nat}{A B:List (List Int)}
theorem ziM{p:Int}{F:Type}[Field F](φ:Kf p F)(hp:KindOk p)(lA:A.length=n)(wA:∀ r∈A,r.length=n)(wB:∀ r∈B,r.length=n) :
  ∀(t:Nat)(r:List Nb),r∈kry p (A.map (·.map (nnum p))) (B.map (·.map (nnum p))) t->∃ v,Kz n A B t v/\∀ i,nv φ r i=ι (v i):=by
 have row:∀(ws:List Int)(j:Nat),nv φ (ws.map (nnum p)) j=ι (zr ws j):=fun ws j=>by
  unfold zr;rw [we];cases h:ws[j]? with
  | none=>rw [yW φ (by rw [wa]; exact List.getElem?_eq_none_iff.mp h)]; exact ι_zero.symm
  | some x=>rw [yB φ (x:=nnum p x) (by rw [wg,h]; rfl),φ.num]; rfl
 have okB:∀(M:List (List Int)),(∀ r∈M,r.length=n)->OkM p n (M.map (·.map (nnum p))):=fun M h r hr=>by
  obtain⟨ws,hw,rfl⟩:=wj.mp hr;refine⟨by rw [wa]; exact h ws hw,fun x hx=>?_⟩;obtain⟨w,_,rfl⟩:=wj.mp hx;exact zU hp w
 have oA:=okB A wA;have oB:=okB B wB;intro t
 induction t with
 | zero =>
  intro r hr;obtain⟨ws,hw,rfl⟩:=wj.mp hr;exact⟨zr ws,⟨ws,hw,rfl⟩,row ws⟩
 | succ t ih =>
  intro r hr
  rcases wq.mp hr with h | h
  ·obtain⟨ws,hw,rfl⟩:=wj.mp h;exact⟨zr ws,.inl ⟨ws,hw,rfl⟩,row ws⟩
  ·obtain⟨x,hx,rfl⟩:=wj.mp h;obtain⟨u,hu,e⟩:=ih x hx;have ox:=xy hp oA (by rw [wa]; exact lA) oB t x hx;refine⟨_,.inr ⟨u,hu,rfl⟩,fun i=>?_⟩;rw [zbx hp oA ox.2 ox.1];show dot n _ _=ι (zdot n _ u);rw [XB];refine yc fun j _=>?_
   rw [e j]
   congr 1
   have:(A.map (·.map (nnum p))).getD i [] =(A.getD i []).map (nnum p):=by
    rw [we,we,wg];cases A[i]? <;> rfl
   rw [this];exact row _ j
theorem ziP{F:Type}[Field F](φ:Kf 0 F){A0 B0:List (List Nb)}(oA:OkM 0 n A0)(lA:A0.length=n)(oB:OkM 0 n B0){a b:Int}(hA:Scl 0 A0.flatten (A0.flatten.map (scW a)) a)(hB:Scl 0 B0.flatten (B0.flatten.map (scW b)) b) :
  ∀(t:Nat)(v:Nat->Int),Kz n (A0.map (·.map (scW a))) (B0.map (·.map (scW b))) t v->∃ r∈kry 0 A0 B0 t,∃ c:F,∀ i,(ι (v i):F)=c*nv φ r i:=by
 have row:∀(M:List (List Nb))(b:Int),OkM 0 n M->Scl 0 M.flatten (M.flatten.map (scW b)) b->∀ r∈M,∀ j,(ι (zr (r.map (scW b)) j):F)=ι b*nv φ r j:=fun M b oM s r hr j=>by
  have sr:Scl 0 r (r.map (scW b)) b:=⟨rfl,s.pos,s.one,fun x hx=>s.dv x (GL.mpr ⟨r,hr,hx⟩)⟩;have:=sr.fv φ (oM r hr).2 j;show(La.fv (r.map (scW b)) j:F)=_;rw [this]; grind
 intro t
 induction t with
 | zero =>
  rintro v ⟨ws,hw,rfl⟩
  obtain⟨r,hr,rfl⟩:=wj.mp hw;exact⟨r,hr,ι b,row B0 b oB hB r hr⟩
 | succ t ih =>
  rintro v (⟨ws,hw,rfl⟩ | ⟨u,hu,rfl⟩)
  ·obtain⟨r,hr,rfl⟩:=wj.mp hw;exact⟨r,wE _ hr,ι b,row B0 b oB hB r hr⟩
  ·obtain⟨r,hr,c,e⟩:=ih u hu;have or:=xy (.inl rfl) oA lA oB t r hr;refine⟨imgR 0 A0 r,wy _ (wj.mpr ⟨r,hr,rfl⟩),ι a*c,fun i=>?_⟩;rw [zbx (.inl rfl) oA or.2 or.1];show(ι (zdot n _ u):F)=_*dot n _ _;rw [XB,← qo];refine yc fun j _=>?_
   rw [e j];have:(ι (zr ((A0.map (·.map (scW a))).getD i []) j):F)=ι a*nv φ (A0.getD i []) j:=by
    rw [we,we,wg];cases h:A0[i]? with
    | none =>
     show(ι (zr [] j):F)=ι a*nv φ [] j;rw [JC,show zr [] j=0 from rfl,ι_zero]; grind
    | some r=>exact row A0 a oA hA r (wc h) j
   rw [this]; grind
theorem zje{p:Int}{F:Type}[Field F](φ:Kf p F)(hp:KindOk p)(lA:A.length=n)(wA:∀ r∈A,r.length=n)(wB:∀ r∈B,r.length=n)
  (full:∀ j,j<n->Rm φ (kry p (A.map (·.map (nnum p))) (B.map (·.map (nnum p))) n) (unitF j 1)) {y:Nat->Int} (h:∀ v,Kz n A B n v->zdot n v y=0) (j:Nat) (hj:j<n):p ∣ y j:=by
 rw [← φ.zero];have z:dot n (fun i=>ι (y i)) (unitF j 1) =(0:F):=(full j hj).dot_zero_r fun r ⟨x,hx,e⟩=>by
  obtain⟨v,hv,ev⟩:=ziM φ hp lA wA wB n x hx;have:=h v hv;rw [e,ym,← show dot n (fun i=>ι (v i)) (fun i=>ι (y i))=dot n (nv φ x) (fun i=>(ι (y i):F))from yc fun i _=>by rw [ev i],← XB,this];exact ι_zero
 rw [jg hj] at z
 grind
theorem zgh{p:Int}(p1:1<p)(dv:∀ y:Nat->Int,(∀ v,Kz n A B n v->zdot n v y=0)->∀ j,j<n->p ∣ y j):∀(m:Nat)(y:Nat->Int),(∀ v,Kz n A B n v->zdot n v y=0)->∀ j,j<n->(y j).natAbs<m->y j=0
 | 0,y,h,j,hj,hm=>absurd hm (vH _)
 | m+1,y,h,j,hj,hm=>by
  by_cases z:y j=0
  ·exact z
  have e:∀ i,i<n->y i=p *(y i / p):=fun i hi=>(Int.mul_ediv_cancel' (dv y h i hi)).symm
  have h':∀ v,Kz n A B n v->zdot n v (fun i=>y i / p)=0:=fun v hv=>by
   have:=h v hv;rw [zaM p v y (fun i=>y i / p) n e] at this
   rcases Int.mul_eq_zero.mp this with q | q
   ·omega
   ·exact q
  have lt:(y j / p).natAbs<m:=by
   have e1:=e j hj;have e2:(y j).natAbs=p.natAbs *(y j / p).natAbs:=by rw [← vx,← e1]
   have q0:y j / p≠0:=fun q=>z (by rw [e1,q,Gm])
   have:2 *(y j / p).natAbs<=p.natAbs *(y j / p).natAbs:=vm _ (by omega);have:0 <(y j / p).natAbs:=gi.mpr q0;omega
  have:=zgh p1 dv m (fun i=>y i / p) h' j hj lt;rw [e j hj,this,Gm]
end
theorem zaW{n:Nat}{p:Int}(hp:Pr p){A0 B0:List (List Nb)}(oA:OkM 0 n A0)(lA:A0.length=n)(oB:OkM 0 n B0){a b:Int}(hA:Scl 0 A0.flatten (A0.flatten.map (scW a)) a)(hB:Scl 0 B0.flatten (B0.flatten.map (scW b)) b)
  (full:∀(F:Type) [Field F] (φ:Kf p F) (j:Nat),j<n->Rm φ (kry p ((A0.map (·.map (scW a))).map (·.map (nnum p))) ((B0.map (·.map (scW b))).map (·.map (nnum p))) n) (unitF j 1))
  {F:Type} [Field F] (φ:Kf 0 F) (v:Nat->F) (hv:∀ j,n<=j->v j=0):Rm φ (kry 0 A0 B0 n) v:=by
 obtain⟨Fp,_,_,⟨φp⟩⟩:=yf (k:=p) (.inr hp);have wd:∀(M:List (List Nb))(b:Int),OkM 0 n M->∀ r∈M.map (·.map (scW b)),r.length=n:=fun M b oM r hr=>by
  obtain⟨x,hx,rfl⟩:=wj.mp hr;rw [wa]; exact(oM x hx).1
 have dv:=fun(y:Nat->Int) h j hj=>zje (y:=y) φp (.inr hp) (by rw [wa]; exact lA) (wd A0 a oA) (wd B0 b oB) (full Fp φp) h j hj
 obtain⟨W,ls,red⟩:=jR φ (.inl rfl) (xy (.inl rfl) oA lA oB n);refine red.fro v ((jT red.toIsR (.inl rfl) v).mp ⟨hv,fun u hu=>?_⟩);have zu:∀ j,j<n->u j=0:=fun j hj=>by
  obtain⟨lx,ox⟩:=zfA (φ:=φ) (n:=n) u;obtain⟨c,sc⟩:=Ze (k:=0) (.inl rfl) ox;have nvx:=zf8 (φ:=φ) (n:=n) (v:=u) hu.1;have fvx:=fun i=>sc.fv φ ox i
  have z:∀ v,Kz n (A0.map (·.map (scW a))) (B0.map (·.map (scW b))) n v->zdot n v (zr ((ofV φ n u).map (scW c)))=0:=fun v hv=>by
   obtain⟨r,hr,d,e⟩:=ziP φ oA lA oB hA hB n v hv;have o:=hu.2 (nv φ r) (red.to _ (.of ⟨r,hr,rfl⟩));have:(ι (zdot n v (zr ((ofV φ n u).map (scW c)))):F)=0:=by
    rw [XB];have e2:dot n (fun j=>(ι (v j):F)) (fun j=>ι (zr ((ofV φ n u).map (scW c)) j))=d*ι c*dot n (nv φ r) u:=by
     rw [← qo];refine yc fun i _=>?_
     have:=fvx i;rw [nvx i] at this;show ι (v i)*La.fv ((ofV φ n u).map (scW c)) i=_;rw [e i,this]; grind
    rw [e2,o]; grind
   rw [φ.zero] at this;exact Gn.mp this
  have y0:=zgh (p:=p) hp.lo dv _ _ z j hj (vS _);have:=fvx j;rw [nvx j] at this;have e:(La.fv ((ofV φ n u).map (scW c)) j:F)=0:=by
   show(ι (zr ((ofV φ n u).map (scW c)) j):F)=0;rw [y0]; exact ι_zero
  rw [e] at this;have ne:=sc.ne φ (.inl rfl)
  grind
 exact dot_zero n _ _ fun j hj=>by rw [zu j hj]; grind
end La
namespace La
open Lean.Grind Nm
section
variable{k:Int}{n:Nat}{F:Type}[Field F]{φ:Kf k F}
theorem rm_one1{r:List Nb}{v:Nat->F}:Rm φ [r] v↔∃ c:F,∀ j,v j=c*nv φ r j:=by
 constructor
 ·intro h;refine h.all (P:=fun v=>∃ c:F,∀ j,v j=c*nv φ r j) ⟨0,fun j=>by grind⟩ fun c r' v ⟨x,hx,e⟩ ⟨d,ev⟩=>?_
  rw [wt.mp hx] at e;exact⟨c+d,fun j=>by show c*r' j+v j=_; rw [e,ev j]; grind⟩
 ·rintro ⟨c,e⟩
  have g:Rm φ [r] (nv φ r):=.of ⟨r,wt.mpr rfl,rfl⟩;exact(g.smul c).cast fun j=>(e j).symm
theorem rm_app1{M:List (List Nb)}{x:List Nb}{v:Nat->F}:Rm φ (M++[x]) v↔∃ u c,Rm φ M u/\∀ j,v j=u j+c*nv φ x j:=by
 rw [Rm.app]
 constructor
 ·rintro ⟨a,b,ha,hb,e⟩
  obtain⟨c,ec⟩:=rm_one1.mp hb;exact⟨a,c,ha,fun j=>by rw [e j,ec j]⟩
 ·rintro ⟨u,c,hu,e⟩
  exact⟨u,fun j=>c*nv φ x j,hu,rm_one1.mpr ⟨c,fun _=>rfl⟩,e⟩
theorem qS{M N:List (List Nb)}{v:Nat->F}(h:∀ r∈M,r∈N)(hv:Rm φ M v):Rm φ N v:=hv.mono fun _ ⟨x,hx,e⟩=>⟨x,h x hx,e⟩
theorem ZQ{c i j:Nat}{M:List (List Nb)}(oM:OkM k c M)(hj:j<c):nv φ ((trF c M).getD j []) i=nv φ (M.getD i []) j:=by
 have e:(trF c M).getD j []=M.map fun r=>r.getD j (.z 0):=by rw [we,Yv hj]; rfl
 rw [e]
 rcases wN i M.length with h | h
 ·have g:M.getD i []=M[i]:=by rw [we,wb h]; rfl
  have o:=oM M[i] (wk h);rw [yB φ (x:=M[i].getD j (.z 0)) (by rw [wg,wb h]; rfl),g,ziL (by rw [o.1]; exact hj)]
 ·rw [yW φ (by rw [wa]; exact h),we,wJ h];exact(JC j).symm
theorem zfE(T:List (List Nb))(c:Nat->F):∀ m,Rm φ T (fun j=>dot m c (fun l=>nv φ (T.getD l []) j))
 | 0=>Span.cast .zero fun j=>rfl
 | m+1=>by
  have ih:=zfE T c m
  rcases wN m T.length with h | h
  ·have g:Rm φ T (nv φ (T.getD m [])):=row_of h;exact(ih.add (g.smul (c m))).cast fun j=>rfl
  ·refine ih.cast fun j=>?_
   show _=dot m c _+c m*nv φ (T.getD m []) j;rw [we,wJ h];have:nv φ ((none:Option (List Nb)).getD []) j=0:=JC j;rw [this]; grind
theorem zdH{A:List (List Nb)}(oA:OkM k n A)(lA:A.length=n)(u v:Nat->F):dot n (limg φ n (trF n A) u) v=dot n u (limg φ n A v):=by
 unfold limg;rw [QC n v (fun i=>nv φ (A.getD i [])) u n];refine yc fun j hj=>?_
 congr 1
 rw [ym n u];refine yc fun i _=>?_
 rw [ZQ oA hj]
end
section
variable{k:Int}{n:Nat}
theorem Ju(hk:KindOk k){X R:List (List Nb)}{ls:List Nat}(oX:OkM k n X)(lX:X.length=n)(all:∀(F:Type) [Field F] (φ:Kf k F) (p:Nat),p<n->Rm φ X (unitF p 1))(red:∀(F:Type) [Field F] (φ:Kf k F),RedOf φ (n+n) (besideM k n (trF n X)) R ls):R.map (gh n)=unitM k n:=by
 obtain⟨F,_,_,⟨φ⟩⟩:=yf hk;obtain⟨R0,l0,red0⟩:=jR φ hk (qR hk oX lX).1;have one:∀ p:Nat,(unitF (F:=F) p 1) p≠0/\∀ j,j<p->(unitF (F:=F) p 1) j=0:=fun p=>by
  constructor
  ·unfold unitF; rw [if_pos rfl]; exact Field.zero_ne_one.symm
  ·intro j hj; unfold unitF; rw [if_neg (by omega)]
 have h0:=zaH hk oX lX red0 fun p hp=>⟨unitF p 1,all F φ p hp,(one p).2,(one p).1⟩
 have br:=Qi hk oX lX red0 h0;have oT:OkM k n (trF n X):=by have:=zbz oX; rw [lX] at this; exact this
 refine zaH hk oT (qH n X) (red F φ) fun q hq=>⟨unitF q 1,?_,(one q).2,(one q).1⟩
 refine(zfE (φ:=φ) (trF n X) (fun l=>nv φ ((R0.map (vX n)).getD l []) q) n).cast fun j=>?_
 rcases wN j n with hj | hj
 ·rw [ym];have:=br j q hj hq;have e:dot n (fun l=>nv φ ((trF n X).getD l []) j) (fun l=>nv φ ((R0.map (vX n)).getD l []) q)=dot n (nv φ (X.getD j [])) (fun l=>nv φ ((R0.map (vX n)).getD l []) q):=yc fun l hl=>by rw [ZQ oX hl]
  rw [e,this];unfold unitF
  rfl
 ·have z:∀ l,nv φ ((trF n X).getD l []) j=0:=fun l=>by
   rcases wN l n with hl | hl
   ·rw [ZQ oX hl,we,wJ (by omega)]; exact JC l
   ·rw [we,wJ (by rw [qH]; exact hl)]; exact JC j
  rw [dot_zero n _ _ fun l _=>by rw [z l]; grind];unfold unitF; rw [if_neg (by omega)]
end
end La
namespace L2
open PySem PySem.Spec PyProof.Rows Nm
noncomputable def TopOk(X:Cx):Prop:=∃ env l,X.stack=env::l/\env.scope.isGenerator=false/\env.scope.isCoroutine=false/\env.builtins=builtinsNs/\env.globals=mainGlobals
theorem ya{X:Cx}{k:Nat}(hr:Room k X.A)(hk:40<=k)(hP:X.prog.given.tree=none)(hS:X.base.NoSeer)(hT:TopOk X):OpR X (binaryOp .FloorDiv) (rI (fun _ j=>j≠0) fun i j=>.int (i.fdiv j)):=by
 intro pins s σ H x y v u Q I rx ry h;obtain⟨i,j,rfl,rfl,hc,q⟩:=h;obtain⟨t,rfl⟩:=rx;obtain⟨t',rfl⟩:=ry;obtain⟨env,l,e,h1,h2,h3,h4⟩:=hT;have hd:X.A.depth+Builtin.pylongFrames<recursionLimit:=by
  have:=hr.dp;have:Builtin.pylongFrames=100:=rfl;omega
 exact floordiv_int hc ⟨.int (i.fdiv j),H,I.tok _,⟨_,rfl⟩,q⟩ (.inr (PylongRoom.of I.nolimit hd (SeerAt.of (hS.keeps I.bk) hP (I.ok.frames.trans (congrArg some e)) h1 h2 h3 h4)))
noncomputable def IRow(H:Hp)(ws:List Int)(a:Addr):Prop:=H a=some (.lst (ws.map V.int))
theorem IRow.mono{H H':Hp}{ws:List Int}{a:Addr}(h:IRow H ws a)(g:Same H H'):IRow H' ws a:=g _ _ h
structure NewT(H H':Hp)(M:List (List Nb))(top:Addr)(ras:List Addr):Prop where
 tab:TabAt H' M top ras
 ft:H top=none
 fr:∀ r∈ras,H r=none
 nd:ras.Nodup
 nt:top∉ras
structure NewR(H H':Hp)(xs:List Nb)(a:Addr):Prop where
 row:RowAt H' xs a
 fa:H a=none
theorem Same.none{H H':Hp}(g:Same H H'){p:Addr}(h:H' p=none):H p=none:=by
 cases e:H p with
 | none=>rfl
 | some u=>rw [g _ _ e] at h; cases h
theorem yz{H H':Hp}{p:Addr}{o:HO}(g:Same H H')(h:H p=none):Same H (upd H' p o):=fun b u q=>by
 rw [zR (yd q h)]; exact g _ _ q
theorem RowAt.len{H:Hp}{xs:List Nb}{a:Addr}(h:RowAt H xs a):∃ vs,H a=some (.lst vs)/\Paired (RN H) xs vs/\vs.length=xs.length :=
 let ⟨vs,h1,h2⟩:=h
 ⟨vs,h1,h2,(zk h2).symm⟩
theorem XR{α β:Type}{R:α->β->Prop}:∀ {xs:List α} {ys:List β},xs.length=ys.length->(∀(i:Nat)(a:α)(b:β),xs[i]?=some a->ys[i]?=some b->R a b)->Paired R xs ys
 | [],[],_,_=>.nil
 | [],_::_,h,_=>by simp at h
 | _::_,[],h,_=>by simp at h
 | a::xs,b::ys,h,f=>.cons (f 0 a b rfl rfl) (XR (by simpa using h) fun i x y h1 h2=>f (i+1) x y (by simpa using h1) (by simpa using h2))
theorem ja{α β:Type}{R:α->β->Prop}{xs:List α}{ys:List β}{i:Nat}{a:α}{b:β}(h:Paired R xs ys)(h1:xs[i]?=some a)(h2:ys[i]?=some b):R a b:=by
 obtain⟨b',e,r⟩:=yi h h1;rw [h2] at e; cases e; exact r
theorem sm_one:Sm 1 1:=by unfold Sm; decide
theorem qr(n:Nat):Sm n 0:=by unfold Sm; exact gf (by decide)
theorem zb9{n:Nat}{w d:Int}(h:Sm n w)(hd:d ∣ w):Sm n (w.fdiv d):=by
 rw [vM hd]
 by_cases z:d=0
 ·subst z; rw [Int.ediv_zero]; exact qr n
 ·have e:=uF hd;refine h.le ?_;have h1:(w / d*d).natAbs=w.natAbs:=by rw [e]
  rw [vx] at h1;rw [← h1];exact uB _ (gi.mpr z)
theorem zeX{n:Nat}{w k:Int}(k0:0<k)(k9:k<2305843009213693952)(hn:61<=n):Sm n (w.fmod k) :=
 (Xz (wG w k0) (wL w k0) k9).mono hn
theorem zhI{n:Nat}:∀ {ws:List Int},(∀ w∈ws,Sm n w)->Sm (n+ws.length) ws.sum
 | [],_=>by rw [wa5]; exact qr _
 | w::ws,h=>by
  rw [List.sum_cons];have h1:=zhI (ws:=ws) fun x hx=>h x (wr _ hx)
  have h2:=(h w wm).mono (waJ n ws.length);exact(h2.add h1).mono (by rw [vK]; omega)
theorem qW{n:Nat}{k w:Int}(hk:KindOk k)(h:Sm n w)(hn:61<=n):nsm n (nnum k w):=by
 unfold nnum
 split
 ·exact⟨h,Sm.mono (m:=1) sm_one (by omega)⟩
 ·rename_i k0;exact zeX (by have:=hk.lt; omega) hk.lt.2 hn
noncomputable def gLst(K:PySem.W.Frag)(n:Nat)(t:TGs):TG:=fun v σ H Q=>∃ a xs,v=.ref a/\SqL K H a xs/\xs.length=n/\t xs σ H Q
theorem zi1{X:Cx}{pos:Pos}{es:List Expr}{k:Nat}{t:TGs}{n:Nat}(hc:X.calm=true)(h:PGs X es t)
  (hn:(assignEach es X.env).length=n:=by rfl) (hst:(assignEach es X.env).findIdx? (·.1)=none:=by rfl):PG X (.Tuple es k pos) (gLst X.K n t):=by
 intro pins s σ H v u Q I r hw;obtain⟨a,xs,e1,hq,hl,hw⟩:=hw;subst e1;cases r;obtain⟨its,rv,pl,hz⟩:=I.list hq;have e:(assignEach es X.env).length=its.toArray.size:=by simp [hn,← hl,rv.length]
 rw [assign_Tuple];refine wpAny_bind (wpAny_standAt ?_);unfold unpack;rw [e,hst];refine wpAny_bind (wpAny_holding (PySem.W.kun_itemsOf (I.ok.hd hc) pl.isList fun h' hx=>?_));have I1:Inv X pins σ H { s with heap:=h' }:=I.kept (t':=s.toks) fun b o e=>hx b o (wS (Heap.lt_size e)) e
 exact h pins _ σ H xs _ Q I1 (by simpa using rv) hw
theorem zgZ{b d:Int}(hb:0<b)(hd:0<d):0<b.fdiv ((ve b d:Nat):Int)*d/\b ∣ b.fdiv ((ve b d:Nat):Int)*d/\d ∣ b.fdiv ((ve b d:Nat):Int)*d/\((ve b d:Nat):Int)≠0:=by
 have g0:0 <((ve b d:Nat):Int):=by have:=Gq d (show b≠0 by omega); omega
 have db:((ve b d:Nat):Int) ∣ b:=gu b d;have dd:((ve b d:Nat):Int) ∣ d:=gY b d;have e1:=La.qv db (by omega);have e2:=La.qv dd (by omega);have p1:0<b.fdiv ((ve b d:Nat):Int):=by
  rcases waD 0 (b.fdiv ((ve b d:Nat):Int))with h | h | h
  ·exact h
  ·rw [← h] at e1; omega
  ·have:=Int.mul_neg_of_neg_of_pos h g0; omega
 refine⟨Gs p1 hd,⟨d.fdiv ((ve b d:Nat):Int),?_⟩,waM _ _,by omega⟩;generalize b.fdiv ((ve b d:Nat):Int)=x at *;generalize d.fdiv ((ve b d:Nat):Int)=y at *;generalize ((ve b d:Nat):Int)=g at *;rw [← e1,← e2]
 grind
theorem zbC{k:Int}{H:Hp}(k0:k≠0):∀ {xs:List Nb} {vs:List V},La.OkR k xs->Paired (RN H) xs vs->∃ is:List Int,xs=is.map Nb.z/\vs=is.map V.int
 | _,_,_,.nil=>⟨[],rfl,rfl⟩
 | x::xs,v::vs,h,.cons r t=>by
  obtain⟨is,e1,e2⟩:=zbC k0 (fun y hy=>h y (wr _ hy)) t;have hx:=h x wm;cases x with
  | q a=>exact absurd hx k0
  | z i=>exact⟨i::is,by rw [e1]; rfl,by rw [e2,r.z]; rfl⟩
theorem zfP{k:Int}(k0:k≠0)(is:List Int):La.Scl k (is.map Nb.z) is 1 :=
 ⟨by rw [vV]; exact(List.map_id'' (fun _=>rfl) is).symm,by decide,fun _=>rfl,fun x hx=>by
  obtain⟨i,_,rfl⟩:=wj.mp hx
  trivial⟩
theorem RN.upd{H:Hp}{x:Nb}{v:V}{t:Addr}{zs zs':List V}(h:RN H x v)(ht:H t=some (.lst zs)):RN (upd H t (.lst zs')) x v:=by
 cases x with
 | q r =>
  obtain⟨a,rfl,ha⟩:=h.q;exact RN.of_q (by rw [zR (fun e=>by rw [e,ht] at ha; cases ha)]; exact ha)
 | z i=>rw [h.z]; exact RN.of_z
theorem RowAt.upd{H:Hp}{xs:List Nb}{a t:Addr}{zs zs':List V}(h:RowAt H xs a)(ne:a≠t)(ht:H t=some (.lst zs)):RowAt (upd H t (.lst zs')) xs a :=
 let ⟨vs,h1,h2⟩:=h
 ⟨vs,by rw [zR ne]; exact h1,xR (fun _ _ r=>r.upd ht) h2⟩
theorem RowAt.some{H:Hp}{xs:List Nb}{a:Addr}(h:RowAt H xs a):∃ o,H a=some o:=let ⟨vs,h1,_⟩:=h;⟨_,h1⟩
structure Grow(H H':Hp)(M:List (List Nb))(ras:List Addr):Prop where
 same:Same H H'
 rows:Paired (RowAt H') M ras
 fr:∀ r∈ras,H r=none
 nd:ras.Nodup
theorem Grow.nil(H:Hp){H':Hp}(g:Same H H'):Grow H H' [] []:=⟨g,.nil,fun _ h=>(nomatch h),.nil⟩
section
variable{H H' H2:Hp}{M:List (List Nb)}{ras:List Addr}
theorem Grow.mono(G:Grow H H' M ras)(g:Same H' H2):Grow H H2 M ras:=⟨G.same.trans g,xR (fun _ _ r=>r.mono g) G.rows,G.fr,G.nd⟩
theorem Grow.not_mem(G:Grow H H' M ras){p:Addr}(hp:H' p=none):p∉ras:=fun hm=>by
 obtain⟨xs,_,h⟩:=Yi G.rows hm;obtain⟨o,e⟩:=h.some;rw [hp] at e; cases e
theorem Grow.snoc(G:Grow H H' M ras){xs:List Nb}{vs:List V}{p:Addr}(hp:H' p=none)(hr:Paired (RN H') xs vs):Grow H (upd H' p (.lst vs)) (M++[xs]) (ras++[p]):=by
 have g:=zf hp (.lst vs);have G':=G.mono g;refine⟨G'.same,zZ G'.rows ⟨vs,zh,jm g hr⟩,fun r hr'=>?_,?_⟩
 ·rcases wq.mp hr' with h | h
  ·exact G.fr r h
  ·rw [wt.mp h]; exact G.same.none hp
 ·rw [gZ];refine⟨G.nd,by simp,fun a ha b hb=>?_⟩;rw [wt.mp hb];exact fun e=>G.not_mem hp (by rw [← e]; exact ha)
theorem Grow.done(G:Grow H H' M ras){top:Addr}(ht:H' top=none):NewT H (upd H' top (.lst (ras.map V.ref))) M top ras :=
 ⟨⟨zh,xR (fun _ _ r=>r.mono (zf ht _)) G.rows⟩,G.same.none ht,G.fr,G.nd,G.not_mem ht⟩
theorem Grow.push(G:Grow H H' M ras){t p:Addr}{xs:List Nb}{vs zs zs':List V}(tn:H t=none)(ht:H' t=some (.lst zs))(tr:t∉ras)(g:Same H' H2)(hp:H2 p=none)(hr:Paired (RN H2) xs vs) :
  Grow H (upd (upd H2 p (.lst vs)) t (.lst zs')) (M++[xs]) (ras++[p])/\t∉ras++[p]:=by
 have G1:=(G.mono g).snoc hp hr;have ht2:H2 t=some (.lst zs):=g _ _ ht;have tp:t≠p:=fun e=>by rw [e,hp] at ht2; cases ht2
 have ht3:upd H2 p (.lst vs) t=some (.lst zs):=by rw [zR tp]; exact ht2
 have nm:t∉ras++[p]:=fun h=>by
  rcases wq.mp h with h | h
  ·exact tr h
  ·exact tp (wt.mp h)
 refine⟨⟨yz G1.same tn,?_,G1.fr,G1.nd⟩,nm⟩;refine XR (zk G1.rows) fun i x a h1 h2=>(ja G1.rows h1 h2).upd (fun e=>nm ?_) ht3
 rw [← e];exact wc h2
end
noncomputable def SclAt(H:Hp)(k:Int)(m:Nat)(xs:List Nb)(p:Addr):Prop:=∃ l ws b,H p=some (.tup [.ref l,.int b])/\IRow H ws l/\La.Scl k xs ws b/\Sm m b/\∀ w∈ws,Sm m w
theorem SclAt.mono{H H':Hp}{k:Int}{m:Nat}{xs:List Nb}{p:Addr}(h:SclAt H k m xs p)(g:Same H H'):SclAt H' k m xs p :=
 let ⟨l,ws,b,h1,h2,r⟩:=h
 ⟨l,ws,b,g _ _ h1,h2.mono g,r⟩
noncomputable def transp(n:Nat)(M:List (List Nb)):List (List Nb):=(wY n).map fun j=>M.map fun r=>r.getD j (.z 0)
theorem zV(n:Nat)(M:List (List Nb)):(transp n M).length=n:=by unfold transp; simp
theorem jP{n i:Nat}{M:List (List Nb)}(h:i<n):(transp n M)[i]?=some (M.map fun r=>r.getD i (.z 0)):=by unfold transp; simp [h]
theorem yG{k:Int}{n:Nat}{M:List (List Nb)}(h:La.OkM k n M):La.OkM k M.length (transp n M):=fun r hr=>by
 unfold transp at hr;obtain⟨j,hj,rfl⟩:=wj.mp hr;rw [vp] at hj;refine⟨wa _,fun x hx=>?_⟩;obtain⟨row,hrow,rfl⟩:=wj.mp hx;obtain⟨h1,h2⟩:=h row hrow;have hj':j<row.length:=by omega
 rw [we,wb hj'];exact h2 _ (wk hj')
noncomputable def prodM(k:Int)(c:Nat)(M N:List (List Nb)):List (List Nb):=M.map fun r=>(transp c N).map fun col=>La.ndot k r col
noncomputable def imgM(k:Int)(M:List (List Nb))(xs:List Nb):List Nb:=M.map fun r=>La.ndot k r xs
theorem tyes{σ:St}{H:Hp}{A B:Hp->Prop}(h:A H):tTrue σ H fun b H3=>if b=true then A H3 else B H3:=by
 show if true=true then A H else B H
 exact iteT h
theorem gyes{i:Nat}{x:V}{σ:St}{H:Hp}{A B:St->Hp->Prop}(h:A (σ.set i (some x)) H):gName i x σ H fun σ2 H2=>tTrue σ2 H2 fun b H3=>if b=true then A σ2 H3 else B σ2 H3:=by
 show if true=true then A (σ.set i (some x)) H else B (σ.set i (some x)) H
 exact iteT h
theorem Jf{K:PySem.W.Frag}{te:TE}{σb:St}{t:Addr}{ras:List Addr}{M:List (List Nb)}{H:Hp}{R:List V->Hp->Prop}(hT:TabAt H M t ras)(hz:M.length<sizeLine)
  (hte:∀(a:Addr)(us:List V)(H':Hp)(Q:VK),H' a=some (.lst us)->(∀ l,H' l=none->Q (.ref l) (upd H' l (.lst us)))->te (σb.set 0 (some (.ref a))) H' Q)
  (hd:∀(ras2:List Addr)(H':Hp),Grow H H' M ras2->R (ras2.map V.ref) H') :
  ∃ W:Nat->Nat->List V->Hp->Prop,(∃ m,W 0 m [] H)/\∀ i m ys H,W i m ys H ->
   ((Itl K t).stop i H/\ys.length<=sizeLine/\R ys H) \/
   ((Itl K t).go i H/\ys.length<sizeLine/\∀ x H',(Itl K t).yld i H x H'->gName 0 x σb H' fun σ2 H2=>tTrue σ2 H2 fun b H3=>if b=true then te σ2 H3 fun y H4=>∃ m',m'<m/\W (i+1) m' (ys++[y]) H4 else ∃ m',m'<m/\W (i+1) m' ys H3):=by
 have hl:=zk hT.2;refine zP (xs:=ras.map V.ref) (fun i ys H'=>∃ ras2,ys=ras2.map V.ref/\Grow H H' (M.take i) ras2) ⟨[],rfl,Grow.nil H (Same.refl H)⟩ ?_ ?_ ?_
 ·rintro i ys H' hi ⟨ras2,rfl,G⟩
  refine⟨SqL.of (G.same _ _ hT.1),?_⟩;have:=zk G.rows;rw [wv] at this;rw [wa]; omega
 ·rintro i v ys H' hv hi ⟨ras2,rfl,G⟩
  obtain⟨xs,a,hx,ha,rfl,hrow⟩:=(hT.mono G.same).row hv;obtain⟨us,hu,pu,lu⟩:=hrow.len;refine gyes ?_;refine hte a us H' _ hu fun l hl'=>?_
  refine nxt hi ⟨ras2++[l],by rw [ww]; rfl,?_⟩;rw [zw hx];exact G.snoc hl' pu
 ·rintro ys H' ⟨ras2,rfl,G⟩
  rw [wa,wp (by omega)] at G;exact hd ras2 H' G
theorem zae{H:Hp}{d:PyData}{ds:List PyData}{v:V}{vs:List V}(h:Rp H d v)(r:Rps H ds vs):Rps H (d::ds) (v::vs):=by
 simp only [Rps];exact⟨_,_,rfl,h,r⟩
theorem zid{H:Hp}:Rps H [] []:=by simp only [Rps]
section
variable{X:Cx}{K:PySem.W.Frag}
theorem Xr(hK:X.K=K):IxR X (rIxL K):=hK ▸ zf1
theorem zfd(hK:X.K=K):IxR X (rIxT K):=hK ▸ zhO
theorem zhb(hK:X.K=K):SlR X (rSlL K):=hK ▸ zeI
theorem ZI (hK:X.K=K):CallR X (.builtin "len") (fun xs H Q=>∃ p ys,xs=[.ref p]/\(SqL K H p ys\/SqT K H p ys)/\Q (.int ys.length) H):=hK ▸ zbL
theorem zdy (hK:X.K=K):CallR X (.type "list") (fun xs H Q=>∃ p ys,xs=[.ref p]/\(SqL K H p ys\/SqT K H p ys)/\∀ l,H l=none->Q (.ref l) (upd H l (.lst ys))):=hK ▸ zaX
theorem ji (hK:X.K=K):CallR X (.builtin "isinstance") (rIsi K):=hK ▸ zg4
theorem zfv (hc:X.calm=true) (hK:X.K=K):CallR X (.builtin "sum") (fun xs H Q=>∃ p ns,xs=[.ref p]/\SqL K H p ((ns:List Int).map V.int)/\Q (.int ns.sum) H):=hK ▸ zfc hc
theorem ze2(hK:X.K=K):OpR X (compareOp .NotIn) (rIn K true):=hK ▸ zbw
theorem zcs{pos:Pos}{es:List Expr}{k:Nat}{t:TGs}(n:Nat)(hK:X.K=K)(hc:X.calm=true)(h:PGs X es t)
  (hn:(assignEach es X.env).length=n:=by rfl) (hst:(assignEach es X.env).findIdx? (·.1)=none:=by rfl):PG X (.Tuple es k pos) (gTup K n t):=hK ▸ zjd hc h hn hst
theorem ziH{pos:Pos}{es:List Expr}{k:Nat}{t:TGs}(n:Nat)(hK:X.K=K)(hc:X.calm=true)(h:PGs X es t)
  (hn:(assignEach es X.env).length=n:=by rfl) (hst:(assignEach es X.env).findIdx? (·.1)=none:=by rfl):PG X (.Tuple es k pos) (gLst K n t):=hK ▸ zi1 hc h hn hst
end
end L2
namespace L2
open PySem PySem.Spec PyProof.Rows Nm
noncomputable def IRs(H:Hp)(Ws:List (List Int))(t:Addr)(ras:List Addr):Prop:=H t=some (.lst (ras.map V.ref))/\Paired (IRow H) Ws ras
theorem Zp{H H':Hp}(g:Same H H'){Ws:List (List Int)}{ras:List Addr}(h:Paired (IRow H) Ws ras):Paired (IRow H') Ws ras:=xR (fun _ _ r=>r.mono g) h
theorem IRs.mono{H H':Hp}{Ws:List (List Int)}{t:Addr}{ras:List Addr}(h:IRs H Ws t ras)(g:Same H H'):IRs H' Ws t ras:=⟨g _ _ h.1,Zp g h.2⟩
theorem IRs.row{H:Hp}{Ws:List (List Int)}{t:Addr}{ras:List Addr}{i:Nat}{v:V}(h:IRs H Ws t ras)(e:(ras.map V.ref)[i]?=some v):∃ ws a,Ws[i]?=some ws/\ras[i]?=some a/\v=.ref a/\IRow H ws a:=by
 rw [wg] at e;obtain⟨a,ha,rfl⟩:=wU.mp e;obtain⟨xs,hx,r⟩:=ye h.2 ha;exact⟨xs,a,hx,ha,rfl,r⟩
theorem IRow.ne{H:Hp}{ws:List Int}{a t:Addr}{rs:List Addr}(h:IRow H ws a)(hw:ws≠[])(ht:H t=some (.lst (rs.map V.ref))):a≠t:=fun e=>by
 subst e;unfold IRow at h;rw [ht] at h;cases ws with
 | nil=>exact hw rfl
 | cons w ws =>
  cases rs with
  | nil=>cases h
  | cons r rs=>cases h
theorem jQ{H:Hp}{t:Addr}{rs:List Addr}{o:HO}(ht:H t=some (.lst (rs.map V.ref))){Ws:List (List Int)}{ras:List Addr}(h:Paired (IRow H) Ws ras)(hw:∀ ws∈Ws,ws≠[]):Paired (IRow (upd H t o)) Ws ras :=
 XR (zk h) fun i ws a h1 h2=>by
  have r:=ja h h1 h2;show upd H t o a=_;rw [zR (r.ne (hw ws (wc h1)) ht)]; exact r
theorem Jb{H:Hp}{ws:List Int}{a:Addr}{j:Nat}(h:IRow H ws a)(hj:j<ws.length):atI (ws.map V.int) (0 +(j:Int))=some (.int (ws.getD j 0)):=by
 rw [wT];refine zH ?_;rw [wg,we,wb hj]; rfl
theorem cut1(xs:List V):cutV xs (some 1) none=xs.drop 1:=by
 unfold cutV;cases xs with
 | nil=>rfl
 | cons x xs =>
  rw [show(1:Int) =((1:Nat):Int)from rfl,HT.Ym,HT.Xs];simp
noncomputable def SzS(b:Nat)(s:List (Nat×List Int)×List (List Int)):Prop:=(∀ p∈s.1,∀ w∈p.2,Sm b w)/\∀ r∈s.2,∀ w∈r,Sm b w
theorem QP{k:Int}(hk:KindOk k){b:Nat}(h7:61<=b){ws:List Int}(h:∀ w∈ws,Sm b w):∀ w∈La.easedM k ws,Sm b w:=fun w hw=>by
 unfold La.easedM at hw
 split at hw
 ·rename_i k0;obtain⟨x,_,rfl⟩:=wj.mp hw;exact zeX (by have:=hk.lt; omega) hk.lt.2 h7
 ·split at hw
  ·exact h w hw
  ·obtain⟨x,hx,rfl⟩:=wj.mp hw;exact zb9 (h x hx) (La.zcM hx)
theorem Zv{b:Nat}{ws:List Int}(h:∀ w∈ws,Sm b w)(c:Nat):Sm b (ws.getD c 0):=by
 rcases wN c ws.length with g | g
 ·rw [we,wb g]; exact h _ (wk g)
 ·rw [we,wJ g]; exact qr b
theorem zhg{b:Nat}{row lead:List Int}(hl:row.length=lead.length)(h1:∀ w∈row,Sm b w)(h2:∀ w∈lead,Sm b w)(c:Nat):∀ w∈La.mixed row lead c,Sm (2*b+1) w:=fun w hw=>by
 obtain⟨j,hj,e⟩:=wI hw;have e2:=La.Qa hl c j;rw [we,wb hj] at e2;have e3:w=lead.getD c 0*row.getD j 0 - row.getD c 0*lead.getD j 0:=by rw [← e,← e2]; rfl
 rw [e3];exact(((Zv h2 c).mul (Zv h1 j)).sub ((Zv h1 c).mul (Zv h2 j))).mono (by omega)
theorem JS{k:Int}(hk:KindOk k){b:Nat}(h7:61<=b){row lead:List Int}(hl:row.length=lead.length)(h1:∀ w∈row,Sm b w)(h2:∀ w∈lead,Sm b w)(c:Nat):∀ w∈La.clearedM k lead c row,Sm (2*b+1) w:=by
 unfold La.clearedM
 split
 ·exact fun w hw=>(h1 w hw).mono (by omega)
 ·exact QP hk (by omega) (zhg hl h1 h2 c)
theorem SzS.turn{k:Int}(hk:KindOk k){n c b:Nat}(h7:61<=b){s:List (Nat×List Int)×List (List Int)}(f:La.Fine k n s)(h:SzS b s):SzS (2*b+1) (La.swTurn k c s):=by
 unfold La.swTurn;cases e:s.2.filter (fun r=>decide (r.getD c 0≠0))with
 | nil=>exact⟨fun p hp w hw=>(h.1 p hp w hw).mono (by omega),fun p hp w hw=>(h.2 p hp w hw).mono (by omega)⟩
 | cons l rest =>
  have sub:∀ r∈l::rest,r∈s.2:=fun r hr=>by rw [← e] at hr; exact(wW.mp hr).1
  have hl:=sub l wm;refine⟨fun p hp=>?_,fun r hr=>?_⟩
  ·rcases wq.mp hp with hp | hp
   ·obtain⟨q,hq,rfl⟩:=wj.mp hp;exact JS hk h7 (by rw [f.dl q hq,f.wl l hl]) (h.1 q hq) (h.2 l hl) c
   ·rw [wt.mp hp];exact fun w hw=>(h.2 l hl w hw).mono (by omega)
  ·rcases wq.mp hr with hr | hr
   ·exact fun w hw=>(h.2 r (wW.mp hr).1 w hw).mono (by omega)
   ·obtain⟨q,hq,rfl⟩:=wj.mp hr;have hq2:=sub q (wr _ hq);exact JS hk h7 (by rw [f.wl q hq2,f.wl l hl]) (h.2 q hq2) (h.2 l hl) c
theorem ziy{k:Int}(hk:KindOk k){n b:Nat}(h7:61<=b){rows:List (List Int)}(hl:∀ r∈rows,r.length=n)(h:∀ r∈rows,∀ w∈r,Sm b w):∀ c,SzS ((b+1)*2^c - 1) (La.swTo k rows c)
 | 0=>⟨fun p hp=>(nomatch hp),fun r hr w hw=>by
   obtain⟨x,hx,rfl⟩:=wj.mp hr;exact(QP hk h7 (h x hx) w hw).mono (by omega)⟩
 | c+1=>by
  have ih:=ziy hk h7 hl h c;have h1:2^c ≥ 1:=uK;have h2:(b+1)*1<=(b+1)*2^c:=vh _ h1;have e:(b+1)*2^(c+1) - 1=2 *((b+1)*2^c - 1)+1:=by
   rw [gm];have:(b+1) *(2^c*2) =(b+1)*2^c*2:=by rw [gy]
   omega
  rw [e];exact SzS.turn hk (by omega) (La.Fine.to hk.lt.1 hl c) ih
end L2
namespace L2
open PySem PySem.Spec PyProof.Rows Nm
theorem JX{α β:Type}{R:α->β->Prop}{xs:List α}{ys:List β}(h:Paired R xs ys)(i:Nat){a:α}{b:β}(r:R a b):Paired R (xs.set i a) (ys.set i b):=by
 refine XR (by rw [vf,vf]; exact zk h) fun j x y h1 h2=>?_
 by_cases e:i=j
 ·subst e;have l1:i<xs.length:=by have:=(wo.mp h1).1; rw [vf] at this; exact this
  have l2:i<ys.length:=by rw [← zk h]; exact l1
  rw [vY l1] at h1;rw [vY l2] at h2;cases h1; cases h2; exact r
 ·rw [vW e] at h1 h2;exact ja h h1 h2
theorem qy{H:Hp}{M:List (List Nb)}{t p:Addr}{ras:List Addr}(hT:TabAt H M t ras)(hp:H p=none):p∉ras:=fun hm=>by
 obtain⟨xs,_,h⟩:=Yi hT.2 hm;obtain⟨o,e⟩:=h.some;rw [hp] at e; cases e
theorem qL{n j:Nat}(h:j<n):ixN n (j:Int)=some j:=by
 unfold ixN;rw [if_pos (by omega),if_pos (by omega)]; simp
theorem zjH{k:Int}(hk:KindOk k){D B m:Nat}{x:Nb}(h:La.dB D B x)(ox:x.ok k)(hD0:D≠0)(hD:D<2^m)(hB:B<2^m)(m7:61<=m):nsm m x:=by
 cases x with
 | q r =>
  obtain⟨h1,h2⟩:=La.dB.parts hD0 h;refine⟨ug h2 hB,?_⟩;show((r.den:Nat):Int).natAbs<2^m;rw [vN];exact ug h1 hD
 | z i =>
  have:=hk.lt;exact(Xz ox.2.1 ox.2.2 this.2).mono m7
theorem ZZ{H:Hp}{t:Addr}{zs zs':List V}(ht:H t=some (.lst zs)){xs:List Nb}{vs:List V}(h:Paired (RN H) xs vs):Paired (RN (upd H t (.lst zs'))) xs vs:=xR (fun _ _ r=>r.upd ht) h
noncomputable def natV(L:List Nat):List V:=L.map fun(l:Nat)=>V.int (l:Int)
theorem zbI(L:List Nat):(natV L).all flatV=true:=by
 unfold natV;rw [List.all_map];exact uG.mpr fun _ _=>rfl
theorem zeT(j:Nat)(L:List Nat):inV (.int (j:Int)) (natV L)=decide (j∈L):=by
 unfold inV natV;rw [List.any_map]
 by_cases h:j∈L
 ·rw [decide_eq_true h,GM];exact⟨j,h,by show((j:Int) ==(j:Int))=true; simp⟩
 ·rw [decide_eq_false h,way];intro x hx;show ¬((x:Int) ==(j:Int))=true;intro e;have:(x:Int) =(j:Int):=by simpa using e
  exact h (by rw [show j=x by omega]; exact hx)
theorem XH{t u:TS}{D:Ends}{σ:St}{H:Hp}(N:St->Hp->Prop)(hN:∀ σ H,N σ H->u D σ H)(h:(∀ σ H,N σ H->u D σ H)->t { D with nx:=u D } σ H):tSeq t u D σ H:=h hN
end L2
namespace L2
open PySem PySem.Spec PyProof.Rows Nm
theorem zfz(v:V):∀ n:Nat,(wD n [v]).flatten=wD n v
 | 0=>rfl
 | n+1=>by rw [vC,vZ,zfz v n,vC]; rfl
theorem zev{R:Nb->V->Prop}{x:Nb}{v:V}(r:R x v):∀ n:Nat,Paired R (wD n x) (wD n v)
 | 0=>.nil
 | n+1=>by rw [vC,vC]; exact .cons r (zev r n)
theorem QI{k:Int}{F:Type}[Lean.Grind.Field F]{φ:La.Kf k F}(hk:KindOk k){n i l:Nat}{R:List (List Nb)}{ls:List Nat}{r:List Nb}(h:La.IsR φ n R ls)(hr:R[i]?=some r)(hl:ls[i]?=some l) :
  l<n/\(∀ j,j<l->r[j]?=some (nnum k 0))/\r[l]?=some (nnum k 1):=by
 have o:=h.ok r (wc hr);have hp:=La.zbZ (xs:=ls) (ys:=R.map (La.nv φ)) (i:=i) (a:=l) (b:=La.nv φ r) hl (by rw [wg,hr]; rfl);have ln:l<n:=h.rr.lt _ hp;have val:∀ j,j<n->∀ y:Nb,y.ok k->La.nv φ r j=φ.to y->r[j]?=some y:=fun j hj y oy e=>by
  have hj':j<r.length:=by rw [o.1]; exact hj
  rw [La.yB φ (wb hj')] at e;rw [wb hj',φ.inj (o.2 _ (wk hj')) oy e]
 refine⟨ln,fun j hj=>val j (by omega) _ (La.zU hk 0) ?_,val l ln _ (La.zU hk 1) ?_⟩
 ·rw [φ.num0]; exact h.rr.bef _ hp j hj
 ·rw [φ.num1]; exact h.rr.one _ hp
theorem num01{k:Int}(hk:KindOk k):nnum k 1≠nnum k 0:=fun e=>by
 obtain⟨F,_,_,⟨φ⟩⟩:=La.yf hk;have:=congrArg φ.to e;rw [φ.num0,φ.num1] at this;exact Lean.Grind.Field.zero_ne_one this.symm
theorem zeJ(r x y:Rat):vF (r.num*x.den*y.den+x.num*y.num*r.den) (r.den*x.den*y.den)=r+x*y:=by
 rw [waC];have h1:r *((r.den:Int):Rat) =((r.num:Int):Rat):=La.kfRat.rat r rfl;have h2:x *((x.den:Int):Rat) =((x.num:Int):Rat):=La.kfRat.rat x rfl;have h3:y *((y.den:Int):Rat) =((y.num:Int):Rat):=La.kfRat.rat y rfl;have n1:((r.den:Int):Rat)≠0:=fun z=>jo r (uC.mp z)
 have n2:((x.den:Int):Rat)≠0:=fun z=>jo x (uC.mp z)
 have n3:((y.den:Int):Rat)≠0:=fun z=>jo y (uC.mp z)
 rw [GU,vg,vg,vg,vg,vg,vg];generalize ((r.den:Int):Rat)=a at *;generalize ((x.den:Int):Rat)=b at *;generalize ((y.den:Int):Rat)=c at *;generalize ((r.num:Int):Rat)=a' at *;generalize ((x.num:Int):Rat)=b' at *;generalize ((y.num:Int):Rat)=c' at *
 grind
end L2
namespace L2
open PySem PySem.Spec PyProof.Rows Nm
theorem zcF{k:Int}(hk:KindOk k){m n:Nat}(m7:61<=m):∀(l:List (Nb×Nb)),(∀ p∈l,p.1.ok k/\p.2.ok k/\nsm m p.1/\nsm n p.2)->∀ s:Nb,s.ok k->∀ T,61<=T->nsm T s->nsm (T+l.length *(m+n+1)) (l.foldl (fun s p=>nadd k s (nmul k p.1 p.2)) s)
 | [],_,s,_,T,_,h=>by simpa using h
 | p::l,hl,s,os,T,t7,h=>by
  obtain⟨o1,o2,s1,s2⟩:=hl p wm;have om:=La.yM hk o1 o2;have step:nsm (T +(m+n+1)) (nadd k s (nmul k p.1 p.2)):=by
   obtain⟨x,y⟩:=p
   rcases Zw o1 o2 with⟨k0,r,t,rfl,rfl⟩ | ⟨k0,i,j,rfl,rfl,_⟩
   ·cases s with
    | z i=>exact absurd k0 os.1
    | q u =>
     show Sm _ (u+r*t).num/\Sm _ ((u+r*t).den:Int);rw [← zeJ];have hb:(u.den:Int)*r.den*t.den≠0:=gC (gC (jo u) (jo r)) (jo t);have st:Sm (T+m+n+1) (u.num*r.den*t.den+r.num*t.num*u.den):=((h.1.mul s1.2).mul s2.2).add (((s1.1.mul s2.1).mul h.2).mono (by omega));have d:=qO hb st ((h.2.mul s1.2).mul s2.2);exact⟨d.1.mono (by omega),d.2.mono (by omega)⟩
   ·cases s with
    | q u=>exact absurd (show k=0 from os) k0
    | z u=>exact(ziX hk k0 (by omega) _:nsm (T +(m+n+1)) (.z _))
  have:=zcF hk m7 l (fun q hq=>hl q (wr _ hq)) _ (La.XD hk os om) _ (by omega) step;rw [GR];refine this.mono ?_;rw [vK,uv];omega
theorem zd3{k:Int}(hk:KindOk k){m n:Nat}(m7:61<=m){xs ys:List Nb}(ox:La.OkR k xs)(oy:La.OkR k ys)(sx:∀ x∈xs,nsm m x)(sy:∀ y∈ys,nsm n y):nsm (61+xs.length *(m+n+1)) (La.ndot k xs ys):=by
 unfold La.ndot La.ndotF;have h:=zcF hk (n:=n) m7 (xs.zip ys) (fun p hp=>by
  obtain⟨a,b⟩:=p;obtain⟨h1,h2⟩:=wR hp;exact⟨ox _ h1,oy _ h2,sx _ h1,sy _ h2⟩) (nnum k 0) (La.zU hk 0) 61 (by decide) (qW hk (qr 61) (by decide))
 refine h.mono ?_;rw [vI];have:min xs.length ys.length *(m+n+1)<=xs.length *(m+n+1):=vm _ (vD _ _);omega
theorem zav{k:Int}(hk:KindOk k)(k0:k≠0){x:Nb}(h:x.ok k):nsm 61 x:=by
 cases x with
 | q r=>exact absurd (show k=0 from h) k0
 | z i=>exact Xz h.2.1 h.2.2 hk.lt.2
structure ROk(k:Int)(n m:Nat)(xs:List Nb):Prop where
 len:xs.length=n
 ok:La.OkR k xs
 sz:∀ x∈xs,nsm m x
structure TOk(k:Int)(r c m:Nat)(M:List (List Nb)):Prop where
 len:M.length=r
 ok:La.OkM k c M
 sz:∀ r∈M,∀ x∈r,nsm m x
theorem TOk.up{k:Int}{r c m m':Nat}{M:List (List Nb)}(h:TOk k r c m M)(hm:m<=m'):TOk k r c m' M:=⟨h.len,h.ok,fun r hr x hx=>(h.sz r hr x hx).mono hm⟩
theorem TOk.row{k:Int}{r c m:Nat}{M:List (List Nb)}(h:TOk k r c m M){x:List Nb}(hx:x∈M):ROk k c m x:=⟨(h.ok x hx).1,(h.ok x hx).2,h.sz x hx⟩
theorem zfr{k:Int}(hk:KindOk k){r c m m':Nat}(m7:61<=m){M:List (List Nb)}{x:List Nb}(hM:TOk k r c m M)(hx:ROk k c m' x):ROk k r (61+c *(m+m'+1)) (imgM k M x):=by
 refine⟨by unfold imgM; rw [wa,hM.len],fun y hy=>?_,fun y hy=>?_⟩
 all_goals
  unfold imgM at hy;obtain⟨row,hr,rfl⟩:=wj.mp hy
 ·exact La.xv hk (hM.ok row hr).2 hx.ok
 ·have:=zd3 hk m7 (hM.ok row hr).2 hx.ok (hM.sz row hr) hx.sz;rw [(hM.ok row hr).1] at this;exact this
theorem XM{k:Int}{r c m:Nat}{M:List (List Nb)}(hM:TOk k r c m M):TOk k c r m (transp c M):=by
 refine⟨zV _ _,by have:=yG hM.ok; rw [hM.len] at this; exact this,fun q hq x hx=>?_⟩;unfold transp at hq;obtain⟨j,hj,rfl⟩:=wj.mp hq;rw [vp] at hj;obtain⟨row,hrow,rfl⟩:=wj.mp hx;have hj':j<row.length:=by have:=(hM.ok row hrow).1; omega
 rw [we,wb hj'];exact hM.sz row hrow _ (wk hj')
structure MOk(k:Int)(n h s m:Nat)(A B C:List (List Nb)):Prop where
 a:TOk k n n m A
 b:TOk k n h m B
 c:TOk k s n m C
structure MachAt(H:Hp)(A B C:List (List Nb))(p ta tb tc:Addr)(ra rb rc:List Addr):Prop where
 tup:H p=some (.tup [.ref ta,.ref tb,.ref tc])
 a:TabAt H A ta ra
 b:TabAt H B tb rb
 c:TabAt H C tc rc
theorem MachAt.mono{H H':Hp}{A B C:List (List Nb)}{p ta tb tc:Addr}{ra rb rc:List Addr}(h:MachAt H A B C p ta tb tc ra rb rc)(g:Same H H'):MachAt H' A B C p ta tb tc ra rb rc:=⟨g _ _ h.tup,h.a.mono g,h.b.mono g,h.c.mono g⟩
noncomputable def machD(A B C:List (List Nb)):PyData:=.tuple [tabD A,tabD B,tabD C]
theorem zjh{H:Hp}{ds:List PyData}{vs:List V}{a:Addr}(h:H a=some (.tup vs))(r:Rps H ds vs):Rp H (.tuple ds) (.ref a):=by
 simp only [Rp];exact⟨a,_,rfl,h,r⟩
theorem MachAt.rp{H:Hp}{A B C:List (List Nb)}{p ta tb tc:Addr}{ra rb rc:List Addr}(h:MachAt H A B C p ta tb tc ra rb rc):Rp H (machD A B C) (.ref p):=zjh h.tup (zae h.a.rp (zae h.b.rp (zae h.c.rp zid)))
theorem zbJ(A B C:List (List Nb)):(machD A B C).canLay0=true:=by
 show((tabD A).canLay0 && ((tabD B).canLay0 && ((tabD C).canLay0 && true)))=true;rw [xx,xx,xx]; rfl
theorem zcy(A B C:List (List Nb)):(machD A B C).depth<=4:=by
 show max (tabD A).depth (max (tabD B).depth (max (tabD C).depth 0))+1<=4;have:=xD A;have:=xD B;have:=xD C;omega
theorem zd2(A B C:List (List Nb)):PyData.eqv (machD A B C) (machD A B C)=true:=by
 show(PyData.eqv (tabD A) (tabD A) && (PyData.eqv (tabD B) (tabD B) && (PyData.eqv (tabD C) (tabD C) && true)))=true;rw [Ji,Ji,Ji]; rfl
noncomputable def augM(A B:List (List Nb)):List (List Nb):=vA (·++·) A B
theorem zhf{A B:List (List Nb)}{i:Nat}{a b:List Nb}(hA:A[i]?=some a)(hB:B[i]?=some b):(augM A B)[i]?=some (a++b):=by unfold augM; rw [vJ,hA,hB]
theorem Grow.pushR{H H' H2:Hp}{M:List (List Nb)}{ras:List Addr}(G:Grow H H' M ras){t p:Addr}{xs:List Nb}{zs zs':List V}(tn:H t=none)(ht:H' t=some (.lst zs))(tr:t∉ras)(g:Same H' H2)(hp:H' p=none)(hr:RowAt H2 xs p) :
  Grow H (upd H2 t (.lst zs')) (M++[xs]) (ras++[p])/\t∉ras++[p]:=by
 have ht2:H2 t=some (.lst zs):=g _ _ ht;have tp:t≠p:=fun e=>by rw [e,hp] at ht; cases ht
 have nm:t∉ras++[p]:=fun h=>by
  rcases wq.mp h with h | h
  ·exact tr h
  ·exact tp (wt.mp h)
 have R:Paired (RowAt H2) (M++[xs]) (ras++[p]):=zZ (G.mono g).rows hr;refine⟨⟨yz (G.same.trans g) tn,?_,fun r hr'=>?_,?_⟩,nm⟩
 ·refine XR (zk R) fun i x a h1 h2=>(ja R h1 h2).upd (fun e=>nm ?_) ht2
  rw [← e];exact wc h2
 ·rcases wq.mp hr' with h | h
  ·exact G.fr r h
  ·rw [wt.mp h]; exact G.same.none hp
 ·rw [gZ];refine⟨G.nd,by simp,fun a ha b hb=>?_⟩;rw [wt.mp hb];exact fun e=>G.not_mem hp (by rw [← e]; exact ha)
end L2
namespace L2
open PySem PySem.Spec PyProof.Rows Nm
theorem TabAt.upd{H:Hp}{M:List (List Nb)}{t p:Addr}{ras:List Addr}{zs zs':List V}(h:TabAt H M t ras)(ht:t≠p)(hr:p∉ras)(hp:H p=some (.lst zs)):TabAt (upd H p (.lst zs')) M t ras:=by
 refine⟨by rw [zR ht]; exact h.1,XR (zk h.2) fun i x a h1 h2=>(ja h.2 h1 h2).upd (fun e=>hr ?_) hp⟩;rw [← e];exact wc h2
theorem TabAt.rsome{H:Hp}{M:List (List Nb)}{t:Addr}{ras:List Addr}(h:TabAt H M t ras){r:Addr}(hr:r∈ras):∃ o,H r=some o:=by
 obtain⟨xs,_,hx⟩:=Yi h.2 hr;exact hx.some
noncomputable def adr(rs:List (List Addr))(i j:Nat):Option Addr:=(rs[i]?).bind (·[j]?)
theorem Zt{rs:List (List Addr)}{ras:List Addr}{i j:Nat}(h:i<rs.length):adr (rs++[ras]) i j=adr rs i j:=by unfold adr; rw [vE h]
theorem jX{rs:List (List Addr)}{ras:List Addr}{j:Nat}:adr (rs++[ras]) rs.length j=ras[j]?:=by unfold adr; rw [vw (wu _),Go]; rfl
theorem QT{rs:List (List Addr)}{i j:Nat}{a:Addr}(h:adr rs i j=some a):∃ ras,rs[i]?=some ras/\ras[j]?=some a:=by
 unfold adr at h;exact Option.bind_eq_some_iff.mp h
structure GrowTs(H H':Hp)(Ms:List (List (List Nb)))(ts:List Addr)(rs:List (List Addr)):Prop where
 same:Same H H'
 lt:ts.length=Ms.length
 lr:rs.length=Ms.length
 tabs:∀(i:Nat) M t ras,Ms[i]?=some M->ts[i]?=some t->rs[i]?=some ras->TabAt H' M t ras
 frt:∀ t∈ts,H t=none
 frr:∀ ras∈rs,∀ r∈ras,H r=none
 nd:ts.Nodup
 sep:∀ t∈ts,∀ ras∈rs,t∉ras
 inj:∀ i j i' j' a,adr rs i j=some a->adr rs i' j'=some a->i=i'/\j=j'
theorem GrowTs.nil{H H':Hp}(g:Same H H'):GrowTs H H' [] [] [] :=
 ⟨g,rfl,rfl,fun i M t ras h=>by simp at h,fun t h=>(nomatch h),fun r h=>(nomatch h),.nil,fun t h=>(nomatch h),fun i j i' j' a h=>by simp [adr] at h⟩
section
variable{H H' H2:Hp}{Ms:List (List (List Nb))}{ts:List Addr}{rs:List (List Addr)}
theorem GrowTs.mono(G:GrowTs H H' Ms ts rs)(g:Same H' H2):GrowTs H H2 Ms ts rs:=⟨G.same.trans g,G.lt,G.lr,fun i M t ras h1 h2 h3=>(G.tabs i M t ras h1 h2 h3).mono g,G.frt,G.frr,G.nd,G.sep,G.inj⟩
theorem GrowTs.get(G:GrowTs H H' Ms ts rs){i:Nat}(hi:i<Ms.length):∃ M t ras,Ms[i]?=some M/\ts[i]?=some t/\rs[i]?=some ras/\TabAt H' M t ras :=
 ⟨_,_,_,wb hi,wb (by rw [G.lt]; exact hi),wb (by rw [G.lr]; exact hi),G.tabs i _ _ _ (wb hi) (wb (by rw [G.lt]; exact hi)) (wb (by rw [G.lr]; exact hi))⟩
theorem GrowTs.tsome(G:GrowTs H H' Ms ts rs){t:Addr}(h:t∈ts):∃ o,H' t=some o:=by
 obtain⟨i,hi,rfl⟩:=wI h;obtain⟨M,t',ras,h1,h2,h3,h4⟩:=G.get (i:=i) (by rw [← G.lt]; exact hi);rw [wb hi] at h2;cases h2;exact⟨_,h4.1⟩
theorem GrowTs.rsome(G:GrowTs H H' Ms ts rs){ras:List Addr}{r:Addr}(h:ras∈rs)(hr:r∈ras):∃ o,H' r=some o:=by
 obtain⟨i,hi,rfl⟩:=wI h;obtain⟨M,t',ras',h1,h2,h3,h4⟩:=G.get (i:=i) (by rw [← G.lr]; exact hi);rw [wb hi] at h3;cases h3;exact h4.rsome hr
theorem GrowTs.push(G:GrowTs H H' Ms ts rs){M:List (List Nb)}{t:Addr}{ras:List Addr}(g:Same H' H2)(N:NewT H' H2 M t ras):GrowTs H H2 (Ms++[M]) (ts++[t]) (rs++[ras]):=by
 have ot:∀ x∈ts,x≠t:=fun x hx e=>by
  obtain⟨o,ho⟩:=G.tsome hx;rw [e,N.ft] at ho; cases ho
 have olds:∀ x∈rs,∀ r∈x,r∉ras:=fun x hx r hr h=>by
  obtain⟨o,ho⟩:=G.rsome hx hr;rw [N.fr r h] at ho; cases ho
 refine⟨G.same.trans g,by simp [G.lt],by simp [G.lr],fun i M' t' ras' h1 h2 h3=>?_,fun x hx=>?_,fun x hx r hr=>?_,?_,fun x hx y hy=>?_,fun i j i' j' a h1 h2=>?_⟩
 ·rcases wN i Ms.length with h | h
  ·rw [vE h] at h1;rw [vE (by rw [G.lt]; exact h)] at h2;rw [vE (by rw [G.lr]; exact h)] at h3;exact(G.tabs i M' t' ras' h1 h2 h3).mono g
  ·have e:i=Ms.length:=by
    have:=(wo.mp h1).1;simp at this; omega
   subst e;rw [vw (wu _),Go] at h1;rw [← G.lt,vw (wu _),Go] at h2;rw [← G.lr,vw (wu _),Go] at h3;cases h1; cases h2; cases h3;exact N.tab
 ·rcases wq.mp hx with h | h
  ·exact G.frt x h
  ·rw [wt.mp h]; exact G.same.none N.ft
 ·rcases wq.mp hx with h | h
  ·exact G.frr x h r hr
  ·rw [wt.mp h] at hr; exact G.same.none (N.fr r hr)
 ·rw [gZ];exact⟨G.nd,by simp,fun x hx y hy=>by rw [wt.mp hy]; exact ot x hx⟩
 ·rcases wq.mp hx with h | h
  ·rcases wq.mp hy with h' | h'
   ·exact G.sep x h y h'
   ·rw [wt.mp h'];intro hm;obtain⟨o,ho⟩:=G.tsome h;rw [N.fr x hm] at ho; cases ho
  ·rw [wt.mp h]
   rcases wq.mp hy with h' | h'
   ·intro hm;obtain⟨o,ho⟩:=G.rsome h' hm;rw [N.ft] at ho; cases ho
   ·rw [wt.mp h']; exact N.nt
 ·have lim:∀ i j,adr (rs++[ras]) i j=some a->i<=rs.length:=fun i j h=>by
   obtain⟨x,hx,_⟩:=QT h;have:=(wo.mp hx).1;simp at this; omega
  have mem:∀ i j,i<rs.length->adr (rs++[ras]) i j=some a->∃ x∈rs,a∈x:=fun i j hi h=>by
   rw [Zt hi] at h;obtain⟨x,hx,hx'⟩:=QT h;exact⟨x,wc hx,wc hx'⟩
  rcases wN i rs.length with h | h <;> rcases wN i' rs.length with h' | h'
  ·rw [Zt h] at h1;rw [Zt h'] at h2;exact G.inj i j i' j' a h1 h2
  ·obtain⟨x,hx,ha⟩:=mem i j h h1;have e:i'=rs.length:=Gi (lim i' j' h2) h';rw [e,jX] at h2;exact absurd (wc h2) (olds x hx a ha)
  ·obtain⟨x,hx,ha⟩:=mem i' j' h' h2;have e:i=rs.length:=Gi (lim i j h1) h;rw [e,jX] at h1;exact absurd (wc h1) (olds x hx a ha)
  ·have e:i=rs.length:=Gi (lim i j h1) h;have e':i'=rs.length:=Gi (lim i' j' h2) h';rw [e,jX] at h1;rw [e',jX] at h2;exact⟨by omega,(uR (wo.mp h1).1 N.nd).mp (h1.trans h2.symm)⟩
theorem GrowTs.updAt(G:GrowTs H H' Ms ts rs){p:Addr}{zs zs':List V}(hp:H p=none)(h:H' p=some (.lst zs))(nt:p∉ts)(nr:∀ ras∈rs,p∉ras):GrowTs H (upd H' p (.lst zs')) Ms ts rs :=
 ⟨yz G.same hp,G.lt,G.lr,fun i M t ras h1 h2 h3=>(G.tabs i M t ras h1 h2 h3).upd (fun e=>nt (by rw [← e]; exact wc h2)) (nr ras (wc h3)) h,G.frt,G.frr,G.nd,G.sep,G.inj⟩
end
noncomputable def powX(k:Int)(A:List (List Nb))(x:List Nb):Nat->List Nb
 | 0=>x
 | i+1=>imgM k A (powX k A x i)
noncomputable def szP(n z:Nat):Nat->Nat
 | 0=>z
 | i+1=>61+n *(z+szP n z i+1)
theorem zju{n z:Nat}(h:61<=z):∀ i,61<=szP n z i
 | 0=>h
 | i+1=>by simp only [szP]; omega
theorem zdp{k:Int}(hk:KindOk k){n z:Nat}(z7:61<=z){A:List (List Nb)}{x:List Nb}(hA:TOk k n n z A)(hx:ROk k n z x):∀ i,ROk k n (szP n z i) (powX k A x i)
 | 0=>hx
 | i+1=>zfr hk z7 hA (zdp hk z7 hA hx i)
end L2
namespace L2
open PySem PySem.Spec PyProof.Rows Nm
end L2
namespace L2
open PySem PySem.Spec PyProof.Rows Nm
theorem zhW{k:Int}(hk:KindOk k){n b:Nat}(h7:61<=b){rows:List (List Int)}(hl:∀ r∈rows,r.length=n)(h:∀ r∈rows,∀ w∈r,Sm b w):∀ c,SzS ((b+1)*2^(La.swTo k rows c).1.length - 1) (La.swTo k rows c)
 | 0=>⟨fun p hp=>(nomatch hp),fun r hr w hw=>by
   obtain⟨x,hx,rfl⟩:=wj.mp hr;exact(QP hk h7 (h x hx) w hw).mono (by show b<=(b+1)*2^0 - 1; omega)⟩
 | c+1=>by
  have ih:=zhW hk h7 hl h c;have fine:=La.Fine.to hk.lt.1 hl c;show SzS ((b+1)*2^(La.swTurn k c (La.swTo k rows c)).1.length - 1) (La.swTurn k c (La.swTo k rows c));generalize La.swTo k rows c=s at ih fine;have h1:2^s.1.length ≥ 1:=uK;have h2:(b+1)*1<=(b+1)*2^s.1.length:=vh _ h1;cases e:s.2.filter (fun r=>decide (r.getD c 0≠0))with
  | nil =>
   have t:La.swTurn k c s=s:=by unfold La.swTurn; simp only [e]
   rw [t]; exact ih
  | cons l rest =>
   have t:=SzS.turn (c:=c) hk (show 61<=(b+1)*2^s.1.length - 1 by omega) fine ih;have len:(La.swTurn k c s).1.length=s.1.length+1:=by
    unfold La.swTurn; simp only [e];rw [wx,wa]; rfl
   rw [len];have e2:(b+1)*2^(s.1.length+1) - 1=2 *((b+1)*2^s.1.length - 1)+1:=by
    rw [gm];have:(b+1) *(2^s.1.length*2) =(b+1)*2^s.1.length*2:=by rw [gy]
    omega
   rw [e2]; exact t
theorem Jg{k:Int}(hk:KindOk k){n B:Nat}{M R:List (List Nb)}{ls:List Nat}(h7:61<=B)(oM:La.OkM k n M)(hM:La.rowsB B M)(red:∀(F:Type) [Lean.Grind.Field F] (φ:La.Kf k F),La.RedOf φ n M R ls):La.rowsB ((B+1)*2^R.length) R:=by
 obtain⟨F0,i0,d0,⟨φ0⟩⟩:=La.yf hk;have:∃ Ws:List (List Int),Ws.length=M.length/\(∀(i:Nat)(r:List Nb)(ws:List Int),M[i]?=some r->Ws[i]?=some ws->∃ b,La.Scl k r ws b)/\∀ ws∈Ws,ws.length=n/\∀ w∈ws,Sm B w:=by
  clear red
  induction M with
  | nil=>exact⟨[],rfl,fun i r ws h=>by simp at h,fun ws h=>(nomatch h)⟩
  | cons m M ih =>
   obtain⟨Ws,l,h,hs⟩:=ih (fun r hr=>oM r (wr _ hr)) (fun r hr=>hM r (wr _ hr));have om:=oM m wm;obtain⟨D,D0,D1,hD⟩:=hM m wm
   by_cases k0:k=0
   ·have dv:∀ x∈m,La.dvB (D:Int) x:=fun x hx=>by
     cases x with
     | q r=>exact La.dB.den_dvd D0 (hD _ hx)
     | z i=>trivial
    have sc:La.Scl k m (m.map (La.scW (D:Int))) (D:Int):=⟨rfl,by omega,fun z=>absurd k0 z,dv⟩;refine⟨m.map (La.scW (D:Int))::Ws,by simp [l],fun i r ws h1 h2=>?_,fun ws hw=>?_⟩
    ·cases i with
     | zero=>simp at h1 h2; subst h1 h2; exact⟨_,sc⟩
     | succ i=>exact h i r ws (by simpa using h1) (by simpa using h2)
    ·rcases wH.mp hw with e | hw
     ·rw [e];refine⟨by rw [wa]; exact om.1,fun w hw=>?_⟩;obtain⟨x,hx,rfl⟩:=wj.mp hw;exact La.zfJ hk (om.2 x hx) h7 D0 (hD x hx) (by omega) (dv x hx) fun _=>wa0 _
     ·exact hs ws hw
   ·have dv:∀ x∈m,La.dvB 1 x:=fun x hx=>by
     cases x with
     | q r=>exact absurd (om.2 _ hx) k0
     | z i=>trivial
    have sc:La.Scl k m (m.map (La.scW 1)) 1:=⟨rfl,by decide,fun _=>rfl,dv⟩;refine⟨m.map (La.scW 1)::Ws,by simp [l],fun i r ws h1 h2=>?_,fun ws hw=>?_⟩
    ·cases i with
     | zero=>simp at h1 h2; subst h1 h2; exact⟨_,sc⟩
     | succ i=>exact h i r ws (by simpa using h1) (by simpa using h2)
    ·rcases wH.mp hw with e | hw
     ·rw [e];refine⟨by rw [wa]; exact om.1,fun w hw=>?_⟩;obtain⟨x,hx,rfl⟩:=wj.mp hw;exact La.zfJ hk (om.2 x hx) h7 D0 (hD x hx) (by decide) (dv x hx) fun z=>absurd z k0
     ·exact hs ws hw
 obtain⟨Ws,lW,scl,hs⟩:=this;have r2:=La.Jw φ0 hk oM lW scl;have eR:R=La.redM k n Ws:=(red F0 φ0).unique r2 (fun v q=>q) (fun v q=>q);have wl:∀ r∈Ws,r.length=n:=fun r hr=>(hs r hr).1
 have szs:=zhW hk h7 wl (fun r hr=>(hs r hr).2) n;have fine:=La.Fine.to hk.lt.1 wl n;have len:R.length =(La.swTo k Ws n).1.length:=by rw [eR]; unfold La.redM; rw [wa]
 rw [len];intro r hr;rw [eR] at hr;unfold La.redM at hr;obtain⟨p,hp,rfl⟩:=wj.mp hr;obtain⟨h1,h2,h3,h4⟩:=La.Zg φ0 hk.lt.1 wl hp;have nn:nnum k (p.2.getD p.1 0)≠nnum k 0:=La.zao φ0 fun z=>h3 ((La.XV φ0 (fine.df p hp) p.1).mp z)
 have b:=La.zeb hk (B:=(B+1)*2^(La.swTo k Ws n).1.length - 1) (p:=p.1) (ws:=p.2) (fun w hw=>szs.1 p hp w hw) (by omega) h3 nn;exact b.mono (by omega)
theorem zb7{k:Int}{n C:Nat}{W:List (List Nb)}(hW:La.rowsB C W):∃ D:Nat,D≠0/\D<=2^(W.length*C)/\∀ r∈W,La.rowD D (W.length*C) r:=by
 induction W with
 | nil=>exact⟨1,by decide,by simp,fun r hr=>(nomatch hr)⟩
 | cons w W ih =>
  obtain⟨D,d0,d1,hd⟩:=ih fun r hr=>hW r (wr _ hr)
  obtain⟨E,e0,e1,he⟩:=hW w wm;have ep:2^((w::W).length*C)=2^(W.length*C)*2^C:=by rw [← uu,vK,uv,um]
  have p1:0<2^(W.length*C):=gf (by decide);have p2:0<2^C:=gf (by decide);refine⟨E*D,waR e0 d0,?_,fun r hr x hx=>?_⟩
  ·rw [ep,uN E D]; exact vt d1 (by omega)
  ·rcases wH.mp hr with e | hr
   ·rw [e] at hx;have h:=La.dB.up (he x hx) D (2^(W.length*C)) d1;rw [uN D E] at h;refine h.mono ?_;rw [ep,wad,gK];omega
   ·have h:=La.dB.up (hd r hr x hx) E (2^C) (by omega);refine h.mono ?_;rw [ep,wad,gK,uN (2^C)];omega
theorem zjJ{k:Int}(hk:KindOk k){D B:Nat}{y:Nb}(h:La.dB D B y)(oy:y.ok k):La.dB D B (nsub k (nnum k 0) y):=by
 cases y with
 | q r =>
  have k0:k=0:=oy;subst k0;obtain⟨a,ea,ha⟩:=h;show ∃ a:Int,(((0:Int):Rat) - r) *((D:Int):Rat) =((a:Int):Rat)/\a.natAbs<=B;refine⟨-a,?_,by omega⟩;rw [GW,← ea];show((0:Rat) - r) *((D:Int):Rat)=_
  grind
 | z i =>
  have e:nnum k 0=.z ((0:Int).fmod k):=by unfold nnum; rw [if_neg oy.1]
  rw [e]
  trivial
theorem zfB{k:Int}(hk:KindOk k){n C f:Nat}{W:List (List Nb)}{lw:List Nat}{xs:List Nb}(hW:La.rowsB C W)(oW:La.OkM k n W)(hl:lw.length=W.length)(c7:61<=C)(wn:W.length<n)(hf:f<n)(g:La.AgR k n W lw f xs):La.rowB (n*C) xs:=by
 obtain⟨D,d0,d1,hd⟩:=zb7 (k:=k) (n:=n) hW;have le1:W.length*C+C<=n*C:=by
  have:(W.length+1)*C<=n*C:=vm _ (by omega);rw [uv] at this; omega
 have lt:2^(W.length*C)<2^(n*C):=Nat.pow_lt_pow_right (by decide) (by omega);refine⟨D,d0,by omega,fun x hx=>?_⟩;obtain⟨j,hj,e⟩:=wI hx;have hx':xs[j]?=some x:=by rw [wb hj,e]
 have hjn:j<n:=by rw [← g.len]; exact hj
 by_cases ef:j=f
 ·subst ef;rw [g.one] at hx';cases hx';refine La.dB.num ?_;show 1*D<=_;omega
 ·by_cases hm:j∈lw
  ·obtain⟨i,hi,ei⟩:=wI hm;have h2:i<W.length:=by omega
   have ow:=oW _ (wk h2);have hf':f<W[i].length:=by rw [ow.1]; exact hf
   have:=g.at_ i j W[i] W[i][f] (by rw [wb hi,ei]) (wb h2) (wb hf');rw [hx'] at this;cases this;exact(zjJ hk (hd _ (wk h2) _ (wk hf')) (ow.2 _ (wk hf'))).mono (by omega)
  ·rw [g.off j hjn ef hm] at hx';cases hx';exact La.dB.num (by simp)
noncomputable def IsRa(k:Int)(n:Nat)(W:List (List Nb))(lw:List Nat):Prop:=∀(F:Type) [Lean.Grind.Field F] (φ:La.Kf k F),La.IsR φ n W lw
theorem yg{k:Int}(hk:KindOk k){n:Nat}{W:List (List Nb)}{lw:List Nat}(h:IsRa k n W lw):La.OkM k n W/\lw.length=W.length/\lw.Pairwise (·<·)/\∀ l∈lw,l<n:=by
 obtain⟨F,_,_,⟨φ⟩⟩:=La.yf hk;refine⟨(h F φ).ok,(h F φ).len,(h F φ).inc,fun l hl=>?_⟩;obtain⟨i,r,h1,h2⟩:=(h F φ).lead_of hl;exact(h F φ).rr.lt _ ((h F φ).get h1 h2)
theorem Yu:∀ {l:List Nat} {m n:Nat},l.Pairwise (·<·)->(∀ x∈l,m<=x/\x<n)->m<=n->l.length<=n - m
 | [],_,_,_,_,_=>vz _
 | x::l,m,n,pw,h,mn=>by
  rw [uh] at pw;have hx:=h x wm;have:=Yu (l:=l) (m:=x+1) (n:=n) pw.2 (fun y hy=>⟨pw.1 y hy,(h y (wr _ hy)).2⟩) (by omega);rw [vK]; omega
theorem yK{k:Int}(hk:KindOk k){n:Nat}{W:List (List Nb)}{lw:List Nat}(h:IsRa k n W lw):W.length<=n:=by
 obtain⟨_,e,pw,lt⟩:=yg hk h;have:=Yu (m:=0) pw (fun x hx=>⟨vz _,lt x hx⟩) (vz _);omega
theorem yJ{k:Int}{n:Nat}{M R:List (List Nb)}{ls:List Nat}(h:∀(F:Type) [Lean.Grind.Field F] (φ:La.Kf k F),La.RedOf φ n M R ls):IsRa k n R ls:=fun F _ φ=>(h F φ).toIsR
theorem Xn{k:Int}(hk:KindOk k){n:Nat}{W W':List (List Nb)}{lw lw':List Nat}(h:IsRa k n W lw)(h':IsRa k n W' lw')(e:∀(F:Type) [Lean.Grind.Field F] (φ:La.Kf k F) (v:Nat->F),La.Rm φ W v↔La.Rm φ W' v):W=W':=by
 obtain⟨F,_,_,⟨φ⟩⟩:=La.yf hk;exact(h F φ).ext (h' F φ) (e F φ)
noncomputable def freeOf(n:Nat)(ls:List Nat):List Nat:=(wY n).filter fun f=>!decide (f∈ls)
theorem zax(n:Nat)(ls:List Nat):(freeOf n ls).Pairwise (·<·):=(uY (n:=n)).filter _
theorem qz(n:Nat)(ls:List Nat)(f:Nat):f∈freeOf n ls↔f<n/\f∉ls:=by
 unfold freeOf;rw [wW,vp];simp
theorem Qu{k:Int}(hk:KindOk k){n:Nat}{W:List (List Nb)}{lw:List Nat}(h:IsRa k n W lw):(freeOf n lw).length+W.length=n:=by
 obtain⟨_,e,pw,lt⟩:=yg hk h;have h1:=La.jC (fun x=>decide (x∈lw)) (wY n);have h2:(wY n).filter (fun x=>decide (x∈lw))=lw:=La.jn ((uY (n:=n)).filter _) pw (fun p hp=>by simpa using (wW.mp hp).2) (fun p hp=>wW.mpr ⟨vp.mpr (lt p hp),by simpa using hp⟩);rw [h2,vB] at h1;unfold freeOf;omega
theorem xn{l:List Nat}{i:Nat}{x:Nat}(p:Nat->Bool)(h:l[i]?=some x):(l.take (i+1)).filter p =(l.take i).filter p ++(if p x=true then [x] else []):=La.xm p h
theorem Grow.snocR{H H1 H2:Hp}{M:List (List Nb)}{ras:List Addr}(G:Grow H H1 M ras)(g:Same H1 H2){xs:List Nb}{p:Addr}(hr:RowAt H2 xs p)(hp:H1 p=none):Grow H H2 (M++[xs]) (ras++[p]):=by
 have G':=G.mono g;refine⟨G'.same,zZ G'.rows hr,fun r hr'=>?_,?_⟩
 ·rcases wq.mp hr' with h | h
  ·exact G.fr r h
  ·rw [wt.mp h]; exact G.same.none hp
 ·rw [gZ];refine⟨G.nd,by simp,fun a ha b hb e=>G.not_mem hp ?_⟩;rw [← wt.mp hb,← e]; exact ha
structure AgI(k:Int)(n:Nat)(R:List (List Nb))(ls:List Nat)(f i:Nat)(xs:List Nb):Prop where
 len:xs.length=n
 ok:La.OkR k xs
 one:xs[f]?=some (nnum k 1)
 at_:∀(t l:Nat)(r:List Nb)(y:Nb),t<i->ls[t]?=some l->R[t]?=some r->r[f]?=some y->xs[l]?=some (nsub k (nnum k 0) y)
 off:∀ j,j<n->j≠f->j∉ls.take i->xs[j]?=some (nnum k 0)
theorem AgI.start{k:Int}(hk:KindOk k){n f:Nat}(hf:f<n)(R:List (List Nb))(ls:List Nat):AgI k n R ls f 0 ((wD n (nnum k 0)).set f (nnum k 1)):=by
 refine⟨by rw [vf,wQ],fun x hx=>?_,vY (by rw [wQ]; exact hf),fun t l r y h=>absurd h (vH t),fun j hj ne _=>?_⟩
 ·rcases La.yh hx with e | e
  ·rw [e]; exact La.zU hk 1
  ·rw [gS e]; exact La.zU hk 0
 ·rw [vW (Ne.symm ne),ul,if_pos hj]
theorem AgI.step{k:Int}(hk:KindOk k){n f i l:Nat}{R:List (List Nb)}{ls:List Nat}{xs r:List Nb}{y:Nb}(T:AgI k n R ls f i xs)(nd:ls.Nodup)(nf:f∉ls)(hl:ls[i]?=some l)(hr:R[i]?=some r)(hy:r[f]?=some y)(oy:y.ok k)(ln:l<n):AgI k n R ls f (i+1) (xs.set l (nsub k (nnum k 0) y)):=by
 have lf:l≠f:=fun e=>nf (by rw [← e]; exact wc hl)
 refine⟨by rw [vf]; exact T.len,fun x hx=>?_,by rw [vW lf]; exact T.one,fun t l' r' y' ht hl' hr' hy'=>?_,fun j hj ne nm=>?_⟩
 ·rcases La.yh hx with e | e
  ·rw [e]; exact XE hk.lt.1 (La.zU hk 0) oy
  ·exact T.ok x e
 ·by_cases e:t=i
  ·subst e;rw [hl] at hl'; cases hl';rw [hr] at hr'; cases hr';rw [hy] at hy'; cases hy';rw [vY (by rw [T.len]; exact ln)]
  ·have ne:l'≠l:=fun z=>e ((uR (wo.mp hl').1 nd).mp (by rw [hl',hl,z]))
   rw [vW (Ne.symm ne)];exact T.at_ t l' r' y' (by omega) hl' hr' hy'
 ·rw [zw hl] at nm;have n1:j∉ls.take i:=fun h=>nm (wE _ h)
  have n2:j≠l:=fun h=>nm (wy _ (by rw [h]; exact wt.mpr rfl))
  rw [vW (Ne.symm n2)];exact T.off j hj ne n1
theorem AgI.done{k:Int}{n f:Nat}{R:List (List Nb)}{ls:List Nat}{xs:List Nb}(T:AgI k n R ls f R.length xs)(hl:ls.length=R.length):La.AgR k n R ls f xs :=
 ⟨T.len,T.ok,T.one,fun i l r y h1 h2 h3=>T.at_ i l r y (wo.mp h2).1 h1 h2 h3,fun j hj ne nm=>T.off j hj ne (by rw [wp (by omega)]; exact nm)⟩
theorem qF{k:Int}(hk:KindOk k){n C:Nat}{W:List (List Nb)}(oW:La.OkM k n W)(h:La.rowsB C W)(c7:61<=C):∀ r∈W,∀ x∈r,nsm C x:=fun r hr x hx=>by
 obtain⟨D,d0,d1,hd⟩:=h r hr;have:0<2^C:=gf (by decide);exact zjH hk (hd x hx) ((oW r hr).2 x hx) d0 d1 (by omega) c7
theorem ziD{k:Int}(hk:KindOk k){n:Nat}{W1 W2 A1 A2 J:List (List Nb)}{l1 l2 lj:List Nat}(i1:IsRa k n W1 l1)(i2:IsRa k n W2 l2)
  (p1:∀(F:Type) [Lean.Grind.Field F] (φ:La.Kf k F) (v:Nat->F),La.Rm φ A1 v↔La.perp n (La.Rm φ W1) v) (p2:∀(F:Type) [Lean.Grind.Field F] (φ:La.Kf k F) (v:Nat->F),La.Rm φ A2 v↔La.perp n (La.Rm φ W2) v)
  (red:∀(F:Type) [Lean.Grind.Field F] (φ:La.Kf k F),La.RedOf φ n (A1++A2) J lj) (F:Type) [Lean.Grind.Field F] (φ:La.Kf k F) (v:Nat->F):La.perp n (La.Rm φ J) v↔La.Rm φ W1 v/\La.Rm φ W2 v:=by
 have s1:∀ u,La.Rm φ A1 u->La.Rm φ J u:=fun u hu=>(red F φ).to u (hu.mono fun r ⟨x,hx,e⟩=>⟨x,wE _ hx,e⟩)
 have s2:∀ u,La.Rm φ A2 u->La.Rm φ J u:=fun u hu=>(red F φ).to u (hu.mono fun r ⟨x,hx,e⟩=>⟨x,wy _ hx,e⟩)
 constructor
 ·rintro ⟨z,h⟩
  exact⟨(La.jT (i1 F φ) hk v).mp ⟨z,fun u hu=>h u (s1 u ((p1 F φ u).mpr hu))⟩,(La.jT (i2 F φ) hk v).mp ⟨z,fun u hu=>h u (s2 u ((p2 F φ u).mpr hu))⟩⟩
 ·rintro ⟨h1,h2⟩
  refine⟨fun j hj=>(i1 F φ).supp h1 j hj,fun u hu=>((red F φ).fro u hu).dot_zero fun r ⟨x,hx,e⟩=>?_⟩
  rcases wq.mp hx with q | q
  ·rw [e,La.ym];exact((p1 F φ _).mp (.of ⟨x,q,rfl⟩)).2 v h1
  ·rw [e,La.ym];exact((p2 F φ _).mp (.of ⟨x,q,rfl⟩)).2 v h2
noncomputable def SameR(k:Int)(W M:List (List Nb)):Prop:=∀(F:Type) [Lean.Grind.Field F] (φ:La.Kf k F) (v:Nat->F),La.Rm φ W v↔La.Rm φ M v
noncomputable def Gen(k:Int)(n g:Nat)(W:List (List Nb)):Prop:=∃ M,La.OkM k n M/\La.rowsB g M/\SameR k W M
theorem zaw{k:Int}{n:Nat}{W M:List (List Nb)}{lw:List Nat}(h:IsRa k n W lw)(e:SameR k W M):∀(F:Type) [Lean.Grind.Field F] (φ:La.Kf k F),La.RedOf φ n M W lw:=fun F _ φ=>{ (h F φ)with to:=fun v q=>(e F φ v).mpr q,fro:=fun v q=>(e F φ v).mp q }
theorem zc2{k:Int}(hk:KindOk k){n g:Nat}{W:List (List Nb)}{lw:List Nat}(h:IsRa k n W lw)(g7:61<=g)(hg:Gen k n g W):La.rowsB ((g+1)*2^W.length) W:=by
 obtain⟨M,oM,cM,e⟩:=hg;exact Jg hk g7 oM cM (zaw h e)
theorem Zi{k:Int}(hk:KindOk k){n g:Nat}{W:List (List Nb)}{lw:List Nat}(h:IsRa k n W lw)(g7:61<=g)(hg:Gen k n g W):La.rowsB ((g+1)*2^n) W :=
 (zc2 hk h g7 hg).mono (vh _ (wZ (by decide) (yK hk h)))
theorem ze8{k:Int}(hk:KindOk k){n:Nat}{M R:List (List Nb)}{ls:List Nat}(oM:La.OkM k n M)(red:∀(F:Type) [Lean.Grind.Field F] (φ:La.Kf k F),La.RedOf φ n M R ls):R.length<=M.length:=by
 obtain⟨F,_,_,⟨φ⟩⟩:=La.yf hk;have:∃ Ws:List (List Int),Ws.length=M.length/\∀(i:Nat)(r:List Nb)(ws:List Int),M[i]?=some r->Ws[i]?=some ws->∃ b,La.Scl k r ws b:=by
  clear red
  induction M with
  | nil=>exact⟨[],rfl,fun i r ws h=>by simp at h⟩
  | cons m M ih =>
   obtain⟨Ws,l,h⟩:=ih fun r hr=>oM r (wr _ hr)
   obtain⟨b,hb⟩:=La.Ze hk (oM m wm).2;refine⟨m.map (La.scW b)::Ws,by simp [l],fun i r ws h1 h2=>?_⟩;cases i with
   | zero=>simp at h1 h2; subst h1 h2; exact⟨b,hb⟩
   | succ i=>exact h i r ws (by simpa using h1) (by simpa using h2)
 obtain⟨Ws,l,h⟩:=this;have eR:R=La.redM k n Ws:=(red F φ).unique (La.Jw φ hk oM l h) (fun v q=>q) (fun v q=>q);have:=La.ZK (k:=k) Ws n;rw [eR]; unfold La.redM; rw [wa]; omega
noncomputable def agL(k:Int)(n:Nat)(W:List (List Nb))(lw:List Nat)(f:Nat):List Nb:=(wY n).map fun j=>if j=f then nnum k 1 else if j∈lw then nsub k (nnum k 0) ((W.getD (lw.idxOf j) []).getD f (nnum k 0))else nnum k 0
theorem zc7{k:Int}(hk:KindOk k){n f:Nat}{W:List (List Nb)}{lw:List Nat}(h:IsRa k n W lw)(hf:f<n)(nf:f∉lw):La.AgR k n W lw f (agL k n W lw f):=by
 obtain⟨oW,ll,inc,lt⟩:=yg hk h;have nd:lw.Nodup:=inc.imp fun h=>wS h
 have get:∀ j,j<n->(agL k n W lw f)[j]?=some (if j=f then nnum k 1 else if j∈lw then nsub k (nnum k 0) ((W.getD (lw.idxOf j) []).getD f (nnum k 0))else nnum k 0):=fun j hj=>by
  unfold agL; rw [wg,vv hj]; rfl
 refine⟨by unfold agL; simp,fun x hx=>?_,by rw [get f hf,if_pos rfl],fun i l r y hl hr hy=>?_,fun j hj ne nm=>by rw [get j hj,if_neg ne,if_neg nm]⟩
 ·unfold agL at hx;obtain⟨j,_,rfl⟩:=wj.mp hx
  split
  ·exact La.zU hk 1
  ·split
   ·rename_i hm;refine XE hk.lt.1 (La.zU hk 0) ?_;have hi:lw.idxOf j<W.length:=by rw [← ll]; exact uo hm
    rw [we (l:=W),wb hi];show((W[lw.idxOf j]).getD f (nnum k 0)).ok k;rw [we];have o:=oW _ (wk hi);rw [wb (by rw [o.1]; exact hf)];exact o.2 _ (wk _)
   ·exact La.zU hk 0
 ·have lf:l≠f:=fun e=>nf (by rw [← e]; exact wc hl)
  have hm:=wc hl;have ei:lw.idxOf l=i:=by
   have h1:lw[lw.idxOf l]?=some l:=by rw [wb (uo hm)]; simp
   exact(uR (uo hm) nd).mp (h1.trans hl.symm)
  rw [get l (lt l hm),if_neg lf,if_pos hm,ei,we (l:=W),hr];show some (nsub k (nnum k 0) (r.getD f (nnum k 0)))=_;rw [we,hy]; rfl
theorem XZ{k:Int}(hk:KindOk k){n g:Nat}{W A:List (List Nb)}{lw la:List Nat}(n1:1<=n)(h:IsRa k n W lw)(g7:61<=g)(hg:Gen k n g W)(hA:IsRa k n A la)(e:∀(F:Type) [Lean.Grind.Field F] (φ:La.Kf k F) (v:Nat->F),La.Rm φ A v↔La.perp n (La.Rm φ W) v):La.rowsB ((n *(g+1)+1)*2^n) A:=by
 obtain⟨oW,ll,inc,lt⟩:=yg hk h;have cW:=zc2 hk h g7 hg;have fl:=Qu hk h;have p1:1<=2^W.length:=uK;have c7:61<=(g+1)*2^W.length:=by have:(g+1)*1<=(g+1)*2^W.length:=vh _ p1; omega
 let A0:=(freeOf n lw).map (agL k n W lw)
 have ag:∀(i f:Nat)(xs:List Nb),(freeOf n lw)[i]?=some f->A0[i]?=some xs->La.AgR k n W lw f xs:=fun i f xs h1 h2=>by
  have h2':((freeOf n lw).map (agL k n W lw))[i]?=some xs:=h2;rw [wg,h1] at h2';have:agL k n W lw f=xs:=Option.some.inj h2';rw [← this];have:=(qz n lw f).mp (wc h1);exact zc7 hk h this.1 this.2
 have oA0:La.OkM k n A0:=fun r hr=>by
  obtain⟨f,hf,e⟩:=wj.mp hr;have:=(qz n lw f).mp hf;rw [← e];exact⟨(zc7 hk h this.1 this.2).len,(zc7 hk h this.1 this.2).ok⟩
 have cA0:La.rowsB (n *((g+1)*2^W.length)) A0:=fun r hr=>by
  obtain⟨f,hf,e⟩:=wj.mp hr;have hf':=(qz n lw f).mp hf;have:0 <(freeOf n lw).length:=GY hf;rw [← e];exact zfB hk cW oW ll c7 (by omega) hf'.1 (zc7 hk h hf'.1 hf'.2)
 have same:SameR k A A0:=fun F _ φ v=>(e F φ v).trans (La.qI (h F φ) hk (zax n lw) (qz n lw) (by show _ =((freeOf n lw).map (agL k n W lw)).length; rw [wa]) ag v).symm
 have red:=zaw hA same;have n7:61<=n *((g+1)*2^W.length):=by have:1 *((g+1)*2^W.length)<=n *((g+1)*2^W.length):=vm _ n1; omega
 have sz:=Jg hk n7 oA0 cA0 red;have lA:=ze8 hk oA0 red;have lA0:A0.length =(freeOf n lw).length:=by show((freeOf n lw).map (agL k n W lw)).length=_; rw [wa]
 refine sz.mono ?_;have h1:n *((g+1)*2^W.length)+1<=(n *(g+1)+1)*2^W.length:=by
  have hp:1<=2^W.length:=uK;have:(n *(g+1)+1)*2^W.length=n *((g+1)*2^W.length)+2^W.length:=by
   rw [uv (n *(g+1)) 1,um,gy]
  omega
 have h2:2^A.length<=2^(n - W.length):=wZ (by decide) (by omega);have h3:(n *((g+1)*2^W.length)+1)*2^A.length<=(n *(g+1)+1)*2^W.length*2^(n - W.length):=vt h1 h2;have h4:(n *(g+1)+1)*2^W.length*2^(n - W.length) =(n *(g+1)+1)*2^n:=by
  rw [gy,← uu];have:=yK hk h;rw [show W.length +(n - W.length)=n by omega]
 omega
theorem zeB{k:Int}{n g:Nat}{A B R:List (List Nb)}{ls:List Nat}(hA:Gen k n g A)(hB:Gen k n g B)(red:∀(F:Type) [Lean.Grind.Field F] (φ:La.Kf k F),La.RedOf φ n (A++B) R ls):Gen k n g R:=by
 obtain⟨M,oM,cM,eM⟩:=hA;obtain⟨N,oN,cN,eN⟩:=hB;refine⟨M++N,fun r hr=>(wq.mp hr).elim (oM r) (oN r),cM.app cN,fun F _ φ v=>?_⟩;have mono:∀(X Y X' Y':List (List Nb)),(∀ u,La.Rm φ X u->La.Rm φ X' u)->(∀ u,La.Rm φ Y u->La.Rm φ Y' u)->∀ u,La.Rm φ (X++Y) u->La.Rm φ (X'++Y') u:=fun X Y X' Y' h1 h2 u hu=>hu.bind fun r ⟨x,hx,e⟩=>by
  rw [e]
  rcases wq.mp hx with q | q
  ·exact(h1 _ (.of ⟨x,q,rfl⟩)).mono fun s ⟨y,hy,ey⟩=>⟨y,wE _ hy,ey⟩
  ·exact(h2 _ (.of ⟨x,q,rfl⟩)).mono fun s ⟨y,hy,ey⟩=>⟨y,wy _ hy,ey⟩
 exact⟨fun h=>mono A B M N (fun u=>(eM F φ u).mp) (fun u=>(eN F φ u).mp) v ((red F φ).fro v h),fun h=>(red F φ).to v (mono M N A B (fun u=>(eM F φ u).mpr) (fun u=>(eN F φ u).mpr) v h)⟩
end L2
namespace L2
open PySem PySem.Spec PyProof.Rows Nm
set_option maxHeartbeats 4000000
noncomputable def PerpOf(k:Int)(n:Nat)(A W:List (List Nb)):Prop:=∀(F:Type) [Lean.Grind.Field F] (φ:La.Kf k F) (v:Nat->F),La.Rm φ A v↔La.perp n (La.Rm φ W) v
noncomputable def MetOf(k:Int)(M A B:List (List Nb)):Prop:=∀(F:Type) [Lean.Grind.Field F] (φ:La.Kf k F) (v:Nat->F),La.Rm φ M v↔La.Rm φ A v/\La.Rm φ B v
noncomputable def SumOf(k:Int)(J A B:List (List Nb)):Prop:=∀(F:Type) [Lean.Grind.Field F] (φ:La.Kf k F) (v:Nat->F),La.Rm φ J v↔∃ a b,La.Rm φ A a/\La.Rm φ B b/\∀ j,v j=a j+b j
noncomputable def RdR(k:Int)(n:Nat)(W:List (List Nb)):Prop:=∃ lw,IsRa k n W lw
theorem zhT{k:Int}(hk:KindOk k){n:Nat}{W W':List (List Nb)}(h:RdR k n W)(h':RdR k n W')(e:∀(F:Type) [Lean.Grind.Field F] (φ:La.Kf k F) (v:Nat->F),La.Rm φ W v↔La.Rm φ W' v):W=W':=by
 obtain⟨l,h⟩:=h;obtain⟨l',h'⟩:=h';exact Xn hk h h' e
theorem zcL{k:Int}{n g:Nat}{W:List (List Nb)}(oW:La.OkM k n W)(h:La.rowsB g W):Gen k n g W:=⟨W,oW,h,fun F _ φ v=>Iff.rfl⟩
theorem zjY{k:Int}(hk:KindOk k){n:Nat}{A B W:List (List Nb)}(hW:RdR k n W)(hB:RdR k n B)(e1:PerpOf k n A W)(e2:PerpOf k n B A):B=W:=by
 refine zhT hk hB hW fun F _ φ v=>?_
 obtain⟨lw,hW⟩:=hW;refine(e2 F φ v).trans (Iff.trans ?_ (La.jT (hW F φ) hk v));exact⟨fun⟨z,h⟩=>⟨z,fun u hu=>h u ((e1 F φ u).mpr hu)⟩,fun⟨z,h⟩=>⟨z,fun u hu=>h u ((e1 F φ u).mp hu)⟩⟩
section
variable{k:Int}(hk:KindOk k){n:Nat}{A B C J J' M M' S X:List (List Nb)}
include hk
theorem dims(hA:RdR k n A)(hB:RdR k n B)(hJ:RdR k n J)(hM:RdR k n M)(e:SumOf k J A B)(e':MetOf k M A B):J.length+M.length=A.length+B.length:=by
 obtain⟨F,_,_,⟨φ⟩⟩:=La.yf hk;obtain⟨la,hA⟩:=hA;obtain⟨lb,hB⟩:=hB;obtain⟨lj,hJ⟩:=hJ;obtain⟨lm,hM⟩:=hM;exact La.zcr hk (hA F φ) (hB F φ) (hJ F φ) (hM F φ) (e F φ) (e' F φ)
end
end L2
namespace L2
open PySem PySem.Spec PyProof.Rows Nm
theorem Qm{m:Nat}:∀(xs:List Nb),(∀ x∈xs,nsm m x)->∃ D:Nat,D≠0/\D<=2^(xs.length*m)/\∀ r:Rat,Nb.q r∈xs->r.den ∣ D
 | [],_=>⟨1,by decide,by simp,fun r h=>(nomatch h)⟩
 | x::xs,h=>by
  obtain⟨D,d0,dl,dd⟩:=Qm xs fun y hy=>h y (wr _ hy)
  have pm:2^((x::xs).length*m)=2^(xs.length*m)*2^m:=by rw [vK,uv,um,uu]
  cases x with
  | z i =>
   refine⟨D,d0,?_,fun r hr=>?_⟩
   ·rw [pm];exact wF dl (uB _ (gM m))
   ·rcases wH.mp hr with e | e
    ·cases e
    ·exact dd r e
  | q s =>
   have hs:s.den<2^m:=by
    have:=(h (.q s) wm).2;unfold Sm at this;omega
   refine⟨D*s.den,waR d0 s.den_nz,?_,fun r hr=>?_⟩
   ·rw [pm];exact vt dl (ur hs)
   ·rcases wH.mp hr with e | e
    ·cases e; exact Nat.dvd_mul_left _ _
    ·exact Gb (dd r e) (waE _ _)
theorem Xl{k:Int}{n m:Nat}{xs:List Nb}(m1:1<=m)(h:ROk k n m xs):La.rowB ((n+1)*m) xs:=by
 obtain⟨D,d0,dl,dd⟩:=Qm xs h.sz;rw [h.len] at dl;have pm:2^((n+1)*m)=2^(n*m)*2^m:=by rw [uv,um,uu]
 have m2:2<=2^m:=wZ (n:=2) (by decide) m1;have p1:0<2^(n*m):=gM _;refine⟨D,d0,?_,fun x hx=>?_⟩
 ·rw [pm]
  calc D<=2^(n*m):=dl
   _<2^(n*m)*2:=by omega
   _<=2^(n*m)*2^m:=vh _ m2
 ·cases x with
  | z i=>trivial
  | q r =>
   obtain⟨c,hc⟩:=dd r hx;have sr:=h.sz _ hx;refine⟨(c:Int)*r.num,?_,?_⟩
   ·have e1:((D:Int):Rat) =((r.den:Int):Rat) *((c:Int):Rat):=by rw [hc,uP,vg]
    have e2:r *((r.den:Int):Rat) =((r.num:Int):Rat):=La.kfRat.rat r rfl;rw [e1,vg,← e2]
    grind
   ·rw [vx];have hn:r.num.natAbs<2^m:=sr.1;have hc':c<=D:=by
     rw [hc];exact Nat.le_mul_of_pos_left _ r.den_pos
    have:((c:Int)).natAbs*r.num.natAbs<=2^(n*m) *(2^m - 1):=vt (by omega) (by omega);have e:2^(n*m) *(2^m - 1)=2^(n*m)*2^m - 2^(n*m):=by rw [wad,gK]
    rw [pm];omega
theorem zaY{k:Int}{r n m:Nat}{M:List (List Nb)}(m1:1<=m)(h:TOk k r n m M):La.rowsB ((n+1)*m) M:=fun x hx=>Xl m1 (h.row hx)
theorem Zh{k:Int}{n B:Nat}{M:List (List Nb)}(k0:k≠0)(oM:La.OkM k n M)(b1:1<=B):La.rowsB B M:=fun r hr=>⟨1,by decide,wV (by decide:(1:Nat)<2^1) (wZ (by decide) b1),fun x hx=>by
 have:=(oM r hr).2 x hx;cases x with
 | z i=>trivial
 | q s=>exact absurd (show k=0 from this) k0⟩
noncomputable def Fit(k:Int)(n:Nat):Prop:=1<=n/\(n<=3\/(k≠0/\n<=10))
theorem Fit.n10{k:Int}{n:Nat}(h:Fit k n):n<=10:=by rcases h.2 with h | h <;> omega
theorem XN{k:Int}{A B:List (List Nb)}:∀(t:Nat)(r:List Nb),r∈La.kry k A B t->∃ b∈B,∃ i,i<=t/\r=powX k A b i
 | 0,r,hr=>⟨r,hr,0,wu _,rfl⟩
 | t+1,r,hr=>by
  rcases wq.mp hr with h | h
  ·exact⟨r,h,0,vz _,rfl⟩
  ·obtain⟨x,hx,rfl⟩:=wj.mp h;obtain⟨b,hb,i,hi,rfl⟩:=XN t x hx;exact⟨b,hb,i+1,by omega,rfl⟩
theorem szP3:∀ n,n<4->∀ i,i<5->(n+1)*szP n 80 i<=74560:=by decide
theorem zfI{k:Int}(hk:KindOk k){n b t:Nat}{A B:List (List Nb)}(hf:Fit k n)(hA:TOk k n n 80 A)(hB:TOk k b n 80 B)(ht:t<=n+1):La.rowsB 74560 (La.kry k A B t):=by
 rcases hf.2 with h | h
 ·intro r hr;obtain⟨x,hx,i,hi,rfl⟩:=XN t r hr;exact(Xl (wF (by decide) (zju (n:=n) (z:=80) (by decide) i)) (zdp hk (by decide) hA (hB.row hx) i)).mono (szP3 n (by omega) i (by omega))
 ·exact Zh h.1 (La.xy hk hA.ok hA.len hB.ok t) (by decide)
noncomputable def capC(n c:Nat):Nat:=if n<=3 then c else 61
theorem pow2{n m:Nat}(h:n<=m):2^n<=2^m:=wZ (by decide) h
theorem cap7{n c:Nat}(h:61<=c):61<=capC n c:=by unfold capC; split <;> omega
theorem cap1{k:Int}{n c:Nat}(hf:Fit k n)(h:(c+1)*8<=60000000):(capC n c+1)*2^n<=60000000:=by
 unfold capC
 split
 ·rename_i h3;exact wF (vh _ (pow2 h3)) h
 ·exact wF (vh _ (pow2 hf.n10)) (by decide)
theorem cap2{k:Int}{n c:Nat}(hf:Fit k n)(h:(3*c+1)*8<=60000000):(n*capC n c+1)*2^n<=60000000:=by
 unfold capC
 split
 ·rename_i h3;have:n*c<=3*c:=vm _ h3;exact wF (vt (show n*c+1<=3*c+1 by omega) (pow2 h3)) h
 ·have:=hf.n10;exact wF (vt (show n*61+1<=611 by omega) (pow2 hf.n10)) (by decide)
theorem xf{k:Int}{n c:Nat}{M:List (List Nb)}(hf:Fit k n)(oM:La.OkM k n M)(h:n<=3->La.rowsB c M):La.rowsB (capC n c) M:=by
 unfold capC
 split
 ·rename_i h3; exact h h3
 ·rcases hf.2 with h' | h'
  ·omega
  ·exact Zh h'.1 oM (by decide)
theorem pow8{n:Nat}(h:n<=3):2^n<=8:=pow2 h
theorem Js{k:Int}(hk:KindOk k){n b t:Nat}{A B R:List (List Nb)}(hf:Fit k n)(hA:TOk k n n 80 A)(hB:TOk k b n 80 B)(ht:t<=n+1)(hR:RdR k n R)(e:SameR k R (La.kry k A B t)):TOk k R.length n 596488 R/\La.rowsB (capC n 596488) R:=by
 obtain⟨ls,iR⟩:=hR;have oR:=(yg hk iR).1;have g:Gen k n 74560 R:=⟨_,La.xy hk hA.ok hA.len hB.ok t,zfI hk hf hA hB ht,e⟩;have rb:La.rowsB (capC n 596488) R:=xf hf oR fun h=>(Zi hk iR (by decide) g).mono (vh 74561 (pow8 h))
 have cl:capC n 596488<=596488:=by unfold capC; split <;> omega
 exact⟨⟨rfl,oR,qF hk oR (rb.mono cl) (by decide)⟩,rb⟩
theorem zft{k:Int}(hk:KindOk k){n:Nat}{A R:List (List Nb)}(hf:Fit k n)(hA:TOk k n n 80 A)(hR:TOk k R.length n 596488 R):La.OkM k n (R.map (imgM k A))/\La.rowsB (capC n 7159072) (R.map (imgM k A)):=by
 have row:∀ x∈R,ROk k n (61+n *(80+596488+1)) (imgM k A x):=fun x hx=>zfr hk (by decide) hA (hR.row hx)
 have ok:La.OkM k n (R.map (imgM k A)):=fun r hr=>by
  obtain⟨x,hx,rfl⟩:=wj.mp hr;exact⟨(row x hx).len,(row x hx).ok⟩
 refine⟨ok,xf hf ok fun h r hr=>?_⟩;obtain⟨x,hx,rfl⟩:=wj.mp hr;refine(Xl (by omega) (row x hx)).mono ?_
 rcases (show n=0\/n=1\/n=2\/n=3 by omega)with e | e | e | e <;> subst e <;> decide
theorem JQ{k:Int}{n b:Nat}{B:List (List Nb)}(hf:Fit k n)(hB:TOk k b n 80 B):La.rowsB (capC n 7159072) B:=xf hf hB.ok fun h=>(zaY (by decide) hB).mono (wF (vm _ (show n+1<=4 by omega)) (by decide))
structure LeastOf(k:Int)(n:Nat)(A B R:List (List Nb)):Prop where
 rd:RdR k n R
 eq:SameR k R (La.kry k A B n)
structure LrI(k:Int)(n:Nat)(A B R W:List (List Nb))(t:Nat):Prop where
 rR:RdR k n R
 rW:RdR k n W
 eR:SameR k R (La.kry k A B t)
 eW:SameR k W (La.kry k A B (t+1))
 le:t<=R.length
theorem LrI.sub{k:Int}(hk:KindOk k){n b:Nat}{A B R W:List (List Nb)}{t:Nat}(I:LrI k n A B R W t)(hA:TOk k n n 80 A)(hB:TOk k b n 80 B){F:Type}[Lean.Grind.Field F](φ:La.Kf k F):R.length<=W.length/\(W.length<=R.length->∀ v,La.Rm φ W v->La.Rm φ R v):=by
 obtain⟨lr,iR⟩:=I.rR;obtain⟨lw,iW⟩:=I.rW;exact(iR F φ).sub_len (iW F φ) fun v hv=>(I.eW F φ v).mpr (La.qj hk hA.ok hA.len hB.ok t v ((I.eR F φ v).mp hv))
theorem LrI.done{k:Int}(hk:KindOk k){n b:Nat}{A B R W:List (List Nb)}{t:Nat}(I:LrI k n A B R W t)(hA:TOk k n n 80 A)(hB:TOk k b n 80 B)(h:¬ R.length<W.length):LeastOf k n A B R:=by
 refine⟨I.rR,fun F _ φ v=>?_⟩;have s:∀ v,La.Rm φ (La.kry k A B (t+1)) v->La.Rm φ (La.kry k A B t) v:=fun v hv=>(I.eR F φ v).mp ((I.sub hk hA hB φ).2 (by omega) v ((I.eW F φ v).mpr hv))
 exact(I.eR F φ v).trans (La.zho hk hA.ok hA.len hB.ok s (by obtain⟨lr,iR⟩:=I.rR; have:=yK hk iR; have:=I.le; omega) v).symm
theorem LrI.step{k:Int}(hk:KindOk k){n b:Nat}{A B R W W':List (List Nb)}{t:Nat}(I:LrI k n A B R W t)(hA:TOk k n n 80 A)(hB:TOk k b n 80 B)(h:R.length<W.length)(rW':RdR k n W')(e:SameR k W' (B++W.map (imgM k A))):LrI k n A B W W' (t+1):=by
 obtain⟨lw,iW⟩:=I.rW;have lW:=yK hk iW;have oW:=(yg hk iW).1;refine⟨I.rW,rW',I.eW,fun F _ φ v=>(e F φ v).trans (La.zcQ hk hA.ok hA.len hB.ok oW (I.eW F φ) v),by have:=I.le; omega⟩
end L2
namespace L2
open PySem PySem.Spec PyProof.Rows Nm
theorem qt{k:Int}{c:Nat}{M:List (List Nb)}(oM:La.OkM k c M):transp M.length (transp c M)=M:=by
 refine uS fun i=>?_
 rcases wN i M.length with h | h
 ·rw [jP h,wb h]
  congr 1
  have om:=oM M[i] (wk h);refine uS fun j=>?_
  rcases wN j c with hj | hj
  ·have hj':j<M[i].length:=by omega
   rw [wg,jP hj,wb hj'];show some ((M.map fun r=>r.getD j (.z 0)).getD i (.z 0))=some _
   congr 1
   rw [we,wg,wb h];show(M[i].getD j (.z 0))=_;rw [we,wb hj']; rfl
  ·rw [wJ (by rw [wa,zV]; exact hj),wJ (by omega)]
 ·rw [wJ (by rw [zV]; exact h),wJ h]
end L2
namespace L2
open PySem PySem.Spec PyProof.Rows Nm
noncomputable def szk(k:Int)(m:Nat)(x:Nb):Prop:=k=0->nsm m x
theorem szk.mono{k:Int}{m n:Nat}{x:Nb}(h:szk k m x)(hm:m<=n):szk k n x:=fun k0=>(h k0).mono hm
theorem szk.nsm{k:Int}(hk:KindOk k){m n:Nat}{x:Nb}(o:x.ok k)(h:szk k m x)(hm:m<=n)(h7:61<=n):nsm n x:=by
 by_cases k0:k=0
 ·exact(h k0).mono hm
 ·exact(zav hk k0 o).mono h7
theorem zhn{k:Int}{m n:Nat}{x y:Nb}(ox:x.ok k)(oy:y.ok k)(sx:szk k m x)(sy:szk k n y):szk k (m+n+1) (nadd k x y):=fun k0=>by
 rcases Zw ox oy with⟨_,r,s,rfl,rfl⟩ | ⟨h,_⟩
 ·have hx:=sx k0;have hy:=sy k0;show Sm _ (r+s).num/\Sm _ ((r+s).den:Int);rw [← zez];obtain⟨h1,h2⟩:=qO (t:=r.num*s.den+s.num*r.den) (jY r s) ((hx.1.mul hy.2).add ((hy.1.mul hx.2).mono (by omega))) (hx.2.mul hy.2);exact⟨h1,h2.mono (waf _)⟩
 ·exact absurd k0 h
theorem Zj{k:Int}{m n:Nat}{x y:Nb}(ox:x.ok k)(oy:y.ok k)(sx:szk k m x)(sy:szk k n y):szk k (m+n) (nmul k x y):=fun k0=>by
 rcases Zw ox oy with⟨_,r,s,rfl,rfl⟩ | ⟨h,_⟩
 ·have hx:=sx k0;have hy:=sy k0;show Sm _ (r*s).num/\Sm _ ((r*s).den:Int);rw [← zcb];exact qO (jY r s) (hx.1.mul hy.1) (hx.2.mul hy.2)
 ·exact absurd k0 h
section
variable{H H':Hp}{Ms:List (List (List Nb))}{ts:List Addr}{rs:List (List Addr)}
theorem zc9{i j:Nat}{ras:List Addr}{a:Addr}(h1:rs[i]?=some ras)(h2:ras[j]?=some a):adr rs i j=some a:=by unfold adr; rw [h1]; exact h2
theorem GrowTs.setRow(G:GrowTs H H' Ms ts rs){i j:Nat}{M:List (List Nb)}{ras:List Addr}{a:Addr}(hM:Ms[i]?=some M)(hr:rs[i]?=some ras)(ha:ras[j]?=some a){us:List V}(hu:H' a=some (.lst us)){xs:List Nb}{vs:List V}(hv:Paired (RN H') xs vs):GrowTs H (upd H' a (.lst vs)) (Ms.set i (M.set j xs)) ts rs:=by
 have rm:=wc hr;have am:=wc ha;refine⟨yz G.same (G.frr ras rm a am),by rw [vf]; exact G.lt,by rw [vf]; exact G.lr,fun i' M' t' ras' h1 h2 h3=>?_,G.frt,G.frr,G.nd,G.sep,G.inj⟩;have nt:t'≠a:=fun e=>G.sep t' (wc h2) ras rm (by rw [e]; exact am)
 by_cases e:i'=i
 ·subst e;rw [hr] at h3;cases h3;have lM:i'<Ms.length:=(wo.mp hM).1;rw [vk,if_pos rfl,if_pos lM] at h1;cases h1;have T:=G.tabs i' M t' ras hM h2 hr;refine⟨by rw [zR nt]; exact T.1,XR (by rw [vf]; exact zk T.2) fun j' x' a' e1 e2=>?_⟩
  by_cases ej:j'=j
  ·subst ej;rw [ha] at e2;cases e2;have lj:j'<M.length:=by rw [zk T.2]; exact(wo.mp ha).1
   rw [vk,if_pos rfl,if_pos lj] at e1;cases e1;exact⟨vs,zh,xR (fun _ _ r=>r.upd hu) hv⟩
  ·rw [vk,if_neg (Ne.symm ej)] at e1;exact(ja T.2 e1 e2).upd (fun z=>ej (by subst z; exact(G.inj _ _ _ _ _ (zc9 hr e2) (zc9 hr ha)).2)) hu
 ·rw [vk,if_neg (Ne.symm e)] at h1;refine(G.tabs i' M' t' ras' h1 h2 h3).upd nt (fun hm=>e ?_) hu;obtain⟨j',hj',e2⟩:=wI hm;exact(G.inj _ _ _ _ _ (zc9 h3 (by rw [wb hj',e2])) (zc9 hr ha)).1
theorem GrowTs.setSlot(G:GrowTs H H' Ms ts rs){i j:Nat}{M:List (List Nb)}{ras:List Addr}{t p:Addr}{xs:List Nb}(hM:Ms[i]?=some M)(ht:ts[i]?=some t)(hr:rs[i]?=some ras)(hj:j<ras.length)(hp:RowAt H' xs p)(fp:H p=none)(np:p∉ts)(nr:∀ ras∈rs,p∉ras) :
  GrowTs H (upd H' t (.lst ((ras.set j p).map V.ref))) (Ms.set i (M.set j xs)) ts (rs.set i (ras.set j p)):=by
 have tm:=wc ht;have rm:=wc hr;have T0:=G.tabs i M t ras hM ht hr;have li:i<rs.length:=(wo.mp hr).1;have lM:i<Ms.length:=(wo.mp hM).1;have pt:p≠t:=fun e=>np (by rw [e]; exact tm)
 have mem':∀ x∈rs.set i (ras.set j p),∀ a∈x,a=p\/∃ y∈rs,a∈y:=fun x hx a ha=>by
  rcases La.yh hx with e | e
  ·subst e
   rcases La.yh ha with e | e
   ·exact .inl e
   ·exact .inr ⟨ras,rm,e⟩
  ·exact .inr ⟨x,e,ha⟩
 have adr':∀ i' j',adr (rs.set i (ras.set j p)) i' j'=if i'=i/\j'=j then some p else adr rs i' j':=fun i' j'=>by
  unfold adr;rw [vk]
  by_cases e:i'=i
  ·subst e;rw [if_pos rfl,if_pos li,hr];show(ras.set j p)[j']?=if i'=i'/\j'=j then some p else ras[j']?
   rw [vk]
   by_cases ej:j'=j
   ·subst ej; rw [if_pos rfl,if_pos hj,if_pos ⟨rfl,rfl⟩]
   ·rw [if_neg (Ne.symm ej),if_neg (fun h=>ej h.2)]
  ·rw [if_neg (Ne.symm e),if_neg (fun h=>e h.1)]
 have notp:∀ i' j' a,adr rs i' j'=some a->a≠p:=fun i' j' a h e=>by
  obtain⟨x,hx,hx'⟩:=QT h;exact nr x (wc hx) (by rw [← e]; exact wc hx')
 refine⟨yz G.same (G.frt t tm),by rw [vf]; exact G.lt,by rw [vf,vf]; exact G.lr,fun i' M' t' ras' h1 h2 h3=>?_,G.frt,fun x hx a ha=>?_,G.nd,fun x hx y hy hm=>?_,fun i1 j1 i2 j2 a h1 h2=>?_⟩
 ·by_cases e:i'=i
  ·subst e;rw [ht] at h2;cases h2;rw [vk,if_pos rfl,if_pos lM] at h1;rw [vk,if_pos rfl,if_pos li] at h3;cases h1; cases h3;refine⟨zh,XR (by rw [vf,vf]; exact zk T0.2) fun j' x' a' e1 e2=>?_⟩
   by_cases ej:j'=j
   ·subst ej;rw [vk,if_pos rfl,if_pos (by rw [zk T0.2]; exact hj)] at e1;rw [vk,if_pos rfl,if_pos hj] at e2;cases e1; cases e2;exact hp.upd pt T0.1
   ·rw [vk,if_neg (Ne.symm ej)] at e1 e2;exact(ja T0.2 e1 e2).upd (fun z=>G.sep t tm ras rm (by rw [← z]; exact wc e2)) T0.1
  ·rw [vk,if_neg (Ne.symm e)] at h1 h3;have n1:t'≠t:=fun z=>e (by
    subst z;exact(uR (wo.mp h2).1 G.nd).mp (h2.trans ht.symm))
   exact(G.tabs i' M' t' ras' h1 h2 h3).upd n1 (G.sep t tm ras' (wc h3)) T0.1
 ·rcases mem' x hx a ha with e | ⟨y,hy,hay⟩
  ·rw [e]; exact fp
  ·exact G.frr y hy a hay
 ·rcases mem' y hy x hm with e | ⟨z,hz,hxz⟩
  ·exact np (by rw [← e]; exact hx)
  ·exact G.sep x hx z hz hxz
 ·rw [adr'] at h1 h2
  by_cases c1:i1=i/\j1=j
  ·rw [if_pos c1] at h1;cases h1
   by_cases c2:i2=i/\j2=j
   ·exact⟨c1.1.trans c2.1.symm,c1.2.trans c2.2.symm⟩
   ·rw [if_neg c2] at h2;exact absurd rfl (notp _ _ _ h2)
  ·rw [if_neg c1] at h1
   by_cases c2:i2=i/\j2=j
   ·rw [if_pos c2] at h2;cases h2;exact absurd rfl (notp _ _ _ h1)
   ·rw [if_neg c2] at h2;exact G.inj _ _ _ _ _ h1 h2
end
end L2
namespace L2
open PySem PySem.Spec PyProof.Rows Nm
theorem zer:∀ {ns:List Int} {its:List Value},Vals (ns.map V.int) its->IntsAre its ns
 | [],_,h=>by cases h; exact .nil
 | n::ns,_,h=>by
  cases h with
  | cons r t =>
   obtain⟨tk,e⟩:=r;subst e;exact .cons n tk (zer t)
theorem zck:∀ {ns:List Int} {its:List Value},IntsAre its ns->Vals (ns.map V.int) its
 | _,_,.nil=>.nil
 | _,_,.cons n tk t=>.cons ⟨tk,rfl⟩ (zck t)
section
variable{X:Cx}{K:PySem.W.Frag}
theorem Xg:CallR X (.builtin "sorted") (fun xs H Q=>∃ p ns,xs=[.ref p]/\SqL X.K H p ((ns:List Int).map V.int)/\ns.length<64/\∀(l:Addr)(ns':List Int),H l=none->ns'.Perm ns->ns'.Pairwise (·<=·)->Q (.ref l) (upd H l (.lst (ns'.map V.int)))):=by
 intro pins s σ H xs us Q I r h;obtain⟨p,ns,rfl,hq,h64,q⟩:=h;obtain⟨u,rfl,rx⟩:=vals1 r;cases rx;obtain⟨its,r',pl,hz⟩:=I.list hq;have hl:=r'.length;rw [wa] at hl;refine sorted_ints pl.isList (zer r') (by omega) fun out ns' a1 a2 a3=>?_
 obtain⟨e,he⟩:=sortedAll_at s.heap its out;have hl':=(zck a1).length;rw [wa] at hl';have hp:=a2.length_eq;rw [wa] at hz;refine⟨.ref (s.heap.objs.size+1),_,I.laid (t':=s.toks) (fun _ _=>sortedAll_old) (waf _) (show ObjOk X.prog X.w _ _ _ (.lst (ns'.map V.int))from⟨by rw [wa]; omega,out.toList,e,zck a1,he⟩),rfl,q _ ns' (I.hok.fresh (waf _)) a2 a3⟩
theorem zbh (hK:X.K=K):CallR X (.builtin "sorted") (fun xs H Q=>∃ p ns,xs=[.ref p]/\SqL K H p ((ns:List Int).map V.int)/\ns.length<64/\∀(l:Addr)(ns':List Int),H l=none->ns'.Perm ns->ns'.Pairwise (·<=·)->Q (.ref l) (upd H l (.lst (ns'.map V.int)))):=hK ▸ Xg
theorem zca (hK:X.K=K):CallR X (.type "tuple") (fun xs H Q=>∃ p ys,xs=[.ref p]/\((SqL K H p ys/\∀ l,H l=none->Q (.ref l) (upd H l (.tup ys)))\/(SqT K H p ys/\Q (.ref p) H))):=hK ▸ zad
inductive IntEs:List Expr->List Int->Prop
 | nil:IntEs [] []
 | cons {i:Int} {j:Nat} {pos:Pos} {es:List Expr} {ns:List Int}:IntEs es ns->IntEs (.Constant (.int i) j pos::es) (i::ns)
noncomputable def tInts(ns:List Int):TA:=fun _ H Q=>Q (ns.map V.int) H
theorem ziv{es:List Expr}(ns:List Int)(h:IntEs es ns):PA X es (tInts ns):=by
 induction h with
 | nil=>exact zd
 | @cons i j pos es ms _ ih=>exact za (te:=tC (.int i)) (t:=tInts ms) ze ih rfl
end
end L2
namespace L2
open PySem PySem.Spec PyProof.Rows
noncomputable def K0:PySem.W.Frag:=[]
section
variable{X:Cx}{K:PySem.W.Frag}
theorem SqL.up{H:Hp}{a:Addr}{xs:List V}(h:SqL K0 H a xs):SqL K H a xs:=by
 rcases h with h | ⟨o,its,n,hl,_⟩
 ·exact .inl h
 ·cases hl
theorem SqT.up{H:Hp}{a:Addr}{xs:List V}(h:SqT K0 H a xs):SqT K H a xs:=by
 rcases h with h | ⟨o,its,n,hl,_⟩
 ·exact .inl h
 ·cases hl
theorem zjx{T:String}{x:V}{H:Hp}(h:tyV K0 T x H):tyV K T x H:=by
 cases x with
 | ref p =>
  rcases h with⟨e,xs,hx⟩ | ⟨e,o,ho,_⟩ | h | h
  ·exact .inl ⟨e,xs,hx.up⟩
  ·cases ho
  ·exact .inr (.inr (.inl h))
  ·exact .inr (.inr (.inr h))
 | _=>exact h
noncomputable def mo(t:TE):TE:=fun σ H Q=>∃ Q0:VK,t σ H Q0/\∀ x H',Q0 x H'->Q x H'
noncomputable def moA(t:TA):TA:=fun σ H Q=>∃ Q0:List V->Hp->Prop,t σ H Q0/\∀ x H',Q0 x H'->Q x H'
theorem PE.mo{e:Expr}{t:TE}(h:PE X e t):PE X e (mo t):=fun pins s σ H Q I ⟨Q0,h0,hq⟩ =>
 thn (h pins s σ H Q0 I h0) fun v s1 ⟨x,H1,I1,r,q⟩=>⟨x,H1,I1,r,hq x H1 q⟩
theorem PA.mo{es:List Expr}{t:TA}(h:PA X es t):PA X es (moA t):=fun pos pins s σ H Q I ⟨Q0,h0,hq⟩ =>
 thn (h pos pins s σ H Q0 I h0) fun v s1 ⟨x,H1,I1,r,q⟩=>⟨x,H1,I1,r,hq x H1 q⟩
theorem zo:IxR X (rIxL K0):=fun value slice pins s σ H x y v u Q I rx ry ⟨p,xs,i,w,e1,e2,h,e3,q⟩ hs =>
 zf1 value slice pins s σ H x y v u Q I rx ry ⟨p,xs,i,w,e1,e2,h.up,e3,q⟩ hs
theorem zJ:IxR X (rIxT K0):=fun value slice pins s σ H x y v u Q I rx ry ⟨p,xs,i,w,e1,e2,h,e3,q⟩ hs =>
 zhO value slice pins s σ H x y v u Q I rx ry ⟨p,xs,i,w,e1,e2,h.up,e3,q⟩ hs
theorem ZW:SlR X (rSlL K0):=fun pins s σ H x v vl vu lo hi sl Q I rx hs p1 p2 ⟨a,xs,e,h,q⟩ =>
 zeI pins s σ H x v vl vu lo hi sl Q I rx hs p1 p2 ⟨a,xs,e,h.up,q⟩
inductive ILen(xs:List V)(H:Hp)(Q:VK):Prop where
 | mk (p:Addr) (ys:List V) (e:xs=[.ref p]) (h:SqL K0 H p ys\/SqT K0 H p ys) (q:Q (.int (ys.length:Int)) H):ILen xs H Q
theorem zO:CallR X (.builtin "len") ILen :=
 fun pins s σ H xs us Q I vs ⟨p,ys,e,h,q⟩=>ZI (K:=X.K) rfl pins s σ H xs us Q I vs ⟨p,ys,e,h.imp SqL.up SqT.up,q⟩
theorem Zk:CallR X (.type "list") (fun xs H Q=>∃ p ys,xs=[.ref p]/\(SqL K0 H p ys\/SqT K0 H p ys)/\∀ l,H l=none->Q (.ref l) (upd H l (.lst ys))) :=
 fun pins s σ H xs us Q I vs ⟨p,ys,e,h,q⟩=>zdy (K:=X.K) rfl pins s σ H xs us Q I vs ⟨p,ys,e,h.imp SqL.up SqT.up,q⟩
theorem zfQ (hc:X.calm=true):CallR X (.builtin "sum") (fun xs H Q=>∃ p ns,xs=[.ref p]/\SqL K0 H p (war V.int ns)/\Q (.int ns.sum) H) :=
 fun pins s σ H xs us Q I vs ⟨p,ys,e,h,q⟩=>zfv (K:=X.K) hc rfl pins s σ H xs us Q I vs ⟨p,ys,e,h.up,q⟩
theorem zaG:CallR X (.builtin "sorted") (fun xs H Q=>∃ p ns,xs=[.ref p]/\SqL K0 H p (war V.int ns)/\ns.length<64/\∀(l:Addr)(ns':List Int),H l=none->ns'.Perm ns->ns'.Pairwise (·<=·)->Q (.ref l) (upd H l (.lst (ns'.map V.int)))) :=
 fun pins s σ H xs us Q I vs ⟨p,ys,e,h,q⟩=>zbh (K:=X.K) rfl pins s σ H xs us Q I vs ⟨p,ys,e,h.up,q⟩
theorem XT:CallR X (.type "tuple") (fun xs H Q=>∃ p ys,xs=[.ref p]/\((SqL K0 H p ys/\∀ l,H l=none->Q (.ref l) (upd H l (.tup ys)))\/(SqT K0 H p ys/\Q (.ref p) H))) :=
 fun pins s σ H xs us Q I vs ⟨p,ys,e,h⟩=>zca (K:=X.K) rfl pins s σ H xs us Q I vs ⟨p,ys,e,h.imp (fun h=>⟨h.1.up,h.2⟩) (fun h=>⟨h.1.up,h.2⟩)⟩
theorem zbH:OpR X (compareOp .NotIn) (rIn K0 true):=fun pins s σ H x y v u Q I rx ry ⟨p,xs,e,h,q⟩ =>
 ze2 (K:=X.K) rfl pins s σ H x y v u Q I rx ry ⟨p,xs,e,h.imp SqL.up SqT.up,q⟩
theorem jL{pos:Pos}{es:List Expr}{k:Nat}{t:TGs}(n:Nat)(hc:X.calm=true)(hg:PGs X es t)(hn:(assignEach es X.env).length=n:=by rfl)(hs:(assignEach es X.env).findIdx? (fun x=>x.fst)=none:=by rfl):PG X (.Tuple es k pos) (gTup K0 n t) :=
 fun pins s σ H v u Q I r ⟨a,xs,e,h,l,q⟩=>zcs (K:=X.K) n rfl hc hg hn hs pins s σ H v u Q I r ⟨a,xs,e,h.up,l,q⟩
theorem zit{pos:Pos}{es:List Expr}{k:Nat}{t:TGs}(n:Nat)(hc:X.calm=true)(hg:PGs X es t)(hn:(assignEach es X.env).length=n:=by rfl)(hs:(assignEach es X.env).findIdx? (fun x=>x.fst)=none:=by rfl):PG X (.Tuple es k pos) (gLst K0 n t) :=
 fun pins s σ H v u Q I r ⟨a,xs,e,h,q⟩=>ziH (K:=X.K) n rfl hc hg hn hs pins s σ H v u Q I r ⟨a,xs,e,h.up,q⟩
structure It.le(J0 J:It):Prop where
 go:∀ i H,J0.go i H->J.go i H
 stop:∀ i H,J0.stop i H->J.stop i H
 yld:∀ i H x H',J.yld i H x H'->J0.yld i H x H'
theorem Turn.weaken{P:Program}{w:World}{tg:Expr}{J J0:It}{fp:List Addr}{it:Addr}{tn:Nat->Heap->Prop}(T:Turn P w K tg J fp it tn)(l:It.le J0 J):Turn P w K tg J0 fp it tn where
 mem:=T.mem
 obj:=T.obj
 keep:=T.keep
 self:=T.self
 item:=fun X p1 p2 p3 p4 i pins s σ H E I f t g=>thn (T.item X p1 p2 p3 p4 i pins s σ H E I f t (l.go i H g)) fun r s1 ⟨u,e,hw⟩=>⟨u,e,thn hw fun _ s2 ⟨x,H',a,b,y,c⟩=>⟨x,H',a,b,l.yld _ _ _ _ y,c⟩⟩
 done:=fun X p1 p2 p3 p4 i pins s σ H E I f t g=>T.done X p1 p2 p3 p4 i pins s σ H E I f t (l.stop i H g)
theorem zjC(a:Addr):It.le (Itl K0 a) (Itl K a):=⟨fun i H ⟨xs,x,h,e⟩=>⟨xs,x,h.up,e⟩,fun i H ⟨xs,h,e⟩=>⟨xs,h.up,e⟩,fun i H x H' ⟨e,h⟩=>⟨e,fun xs hx=>h xs hx.up⟩⟩
theorem ziR(a:Addr):It.le (Itt K0 a) (Itt K a):=⟨fun i H ⟨xs,x,h,e⟩=>⟨xs,x,h.up,e⟩,fun i H ⟨xs,h,e⟩=>⟨xs,h.up,e⟩,fun i H x H' ⟨e,h⟩=>⟨e,fun xs hx=>h xs hx.up⟩⟩
theorem ziY(a b:Addr):It.le (Itz K0 a b) (Itz K a b):=⟨fun i H ⟨xs,ys,x,y,h,h2,e⟩=>⟨xs,ys,x,y,h.up,h2.up,e⟩,fun i H ⟨xs,ys,h,h2,e⟩=>⟨xs,ys,h.up,h2.up,e⟩,
 fun i H v H' ⟨T,x,y,e1,e2,e3,h1,h2⟩=>⟨T,x,y,e1,e2,e3,fun xs hx=>h1 xs hx.up,fun ys hy=>h2 ys hy.up⟩⟩
theorem zeM{pins:List (Addr×Obj)}{σ:St}{tg:Expr}{R:It->Hp->Prop}{itv:Value}{s:Shared}(h:PIE X pins σ tg (fun J H=>∃ J0,It.le J0 J/\R J0 H) itv s):PIE X pins σ tg R itv s:=by
 obtain⟨it,fp,tn,J,H',e,I2,T,t0,fo,J0,l,q⟩:=h;exact⟨it,fp,tn,J0,H',e,I2,T.weaken l,t0,fo,q⟩
theorem zI{tg l:Expr}{tl:TE}(hl:PE X l tl):PI X tg l (iList K0 tl):=fun pins s σ H R I h =>
 thn (zii hl.mo pins s σ H (fun J H=>∃ J0,It.le J0 J/\R J0 H) I ⟨_,h,fun x H1 ⟨a,e,⟨xs,hx⟩,q⟩=>⟨a,e,⟨xs,hx.up⟩,_,zjC a,q⟩⟩) fun _ _ hw=>thn hw fun _ _ hp=>zeM hp
theorem zh5{tg l:Expr}{tl:TE}(hl:PE X l tl):PI X tg l (iTup K0 tl):=fun pins s σ H R I h =>
 thn (zhA hl.mo pins s σ H (fun J H=>∃ J0,It.le J0 J/\R J0 H) I ⟨_,h,fun x H1 ⟨a,e,⟨xs,hx⟩,q⟩=>⟨a,e,⟨xs,hx.up⟩,_,ziR a,q⟩⟩) fun _ _ hw=>thn hw fun _ _ hp=>zeM hp
theorem Ys {a b:Expr} {ta:TA} {p pos:Pos} {elts:List Expr} {k1:Nat} {tpos:Pos} (hg:Gl X "zip") (hm:X.mg "zip" = none) (ha:PA X [a,b] ta) (hs:starEach [a,b] X.env=[(false,eval a X.env),(false,eval b X.env)]:=by rfl) (hs2:starEach [b] X.env=[(false,eval b X.env)]:=by rfl) :
  PI X (.Tuple elts k1 tpos) (.Call (.Name "zip" p) [a,b] [] pos) (iZip K0 ta):=fun pins s σ H R I h =>
 thn (zjk hg hm ha.mo hs hs2 pins s σ H (fun J H=>∃ J0,It.le J0 J/\R J0 H) I ⟨_,h,fun x H1 ⟨a,b,xs,ys,e,hx,hy,q⟩=>⟨a,b,xs,ys,e,hx.up,hy.up,_,ziY a b,q⟩⟩) fun _ _ hw=>thn hw fun _ _ hp=>zeM hp
theorem bm0{o e':Expr}{T:String}{r:V->List V->Hp->VK->Prop}{to:TE}{t:TA}(h:∀ to',PE X o to'->PE X e' (tBM X.K T r to' t))(ho:PE X o to):PE X e' (tBM K0 T r to t):=fun pins s σ H Q I hh =>
 h (mo to) ho.mo pins s σ H Q I ⟨_,hh,fun x H1 ⟨a,b⟩=>⟨zjx a,b⟩⟩
end
end L2
namespace L2
open PySem PySem.Spec PyProof.Rows
noncomputable def RemS(l:Addr)(items:Array Value)(n:Nat)(x:Value)(j i:Nat):PySem.Spec:=fun A R s =>
 s.heap.get? l=some { cls:=Value.type "list",data:=Data.seq items n }/\j<items.size/\items.size<=sizeLine/\A.units+63<cLine /\
 (∃ dx bs,Reads s.heap x dx bs/\dx.canLay0=true/\dx.depth<=60/\∀ m v,i<=m->m<=j->items[m]?=some v->∃ d as,Reads s.heap v d as/\d.canLay0=true/\PyData.eqv d dx=decide (m=j)) /\
 R (Except.ok (Flow.ret Value.none)) { s with heap:=s.heap.update l (Obj.mapSeq fun xs=>xs.eraseIdxIfInBounds j) }
theorem zaN(l:Addr)(items:Array Value)(n:Nat)(x:Value)(j:Nat):∀ k i:Nat,i+k=j->Meets (Builtin.«list.remove.loop» { pos:=[Value.ref l,x,rawInt (i:Int)] }) (RemS l items n x j i):=by
 intro k
 induction k with
 | zero =>
  intro i e prog w A R s ⟨hg,hj,hz,hu,⟨dx,bs,rx,cx,px,hm⟩,hR⟩;obtain rfl:i=j:=by omega
  have hi:items[i]?=some items[i]:=Array.getElem?_eq_getElem hj;obtain⟨d,as,r,c,ev⟩:=hm i _ (wu _) (wu _) hi;unfold Builtin.«list.remove.loop» rawInt;refine wpAny_bind (listItems_at hg rfl ?_);simp only [wP,hi];refine wpAny_bind (SeqAt.eqBoolOverData prog w A.in1 _ s _ _ d dx as bs _ r rx c cx (by show A.units+1+_<_; omega) ?_);rw [ev,decide_eq_true rfl,if_pos rfl];refine wpAny_bind (listUpdate_at hg rfl ?_ hz ?_)
  ·exact wpAny_pure hR
  ·show(items.eraseIdxIfInBounds i).size<=_;have:(items.eraseIdxIfInBounds i).size<=items.size:=by
    unfold Array.eraseIdxIfInBounds
    split
    all_goals (rw [Array.size_eraseIdx]; omega)
   omega
 | succ k ih =>
  intro i e prog w A R s ⟨hg,hj,hz,hu,⟨dx,bs,rx,cx,px,hm⟩,hR⟩;have hlt:i<items.size:=by omega
  have hi:items[i]?=some items[i]:=Array.getElem?_eq_getElem hlt;obtain⟨d,as,r,c,ev⟩:=hm i _ (wu _) (by omega) hi;unfold Builtin.«list.remove.loop» rawInt;refine wpAny_bind (listItems_at hg rfl ?_);simp only [wP,hi];refine wpAny_bind (SeqAt.eqBoolOverData prog w A.in1 _ s _ _ d dx as bs _ r rx c cx (by show A.units+1+_<_; omega) ?_);rw [ev,decide_eq_false (by omega),if_neg (by decide)];exact MeetsSeq.meets_again rfl MeetsSeq.plain_remove_loop MeetsSeq.entry_remove_loop (ih (i+1) (by omega)) prog w A R s ⟨hg,hj,hz,hu,⟨dx,bs,rx,cx,px,fun m v h1 h2 h3=>hm m v (by omega) h2 h3⟩,hR⟩
theorem removeD(l:Addr)(items:Array Value)(n:Nat)(x:Value)(j:Nat):Meets (Builtin.«list.remove» { pos:=[Value.ref l,x] }) (RemS l items n x j 0) :=
 MeetsSeq.meets_again rfl MeetsSeq.plain_remove_loop MeetsSeq.entry_remove_loop (zaN l items n x j j 0 (by omega))
theorem zcS{α β:Type}{R:α->β->Prop}{xs:List α}{ys:List β}(h:Paired R xs ys):∀ j,Paired R (xs.eraseIdx j) (ys.eraseIdx j):=by
 induction h with
 | nil=>intro j; exact .nil
 | cons r _ ih=>intro j; cases j with
  | zero=>assumption
  | succ j=>exact .cons r (ih j)
section
variable{X:Cx}
inductive IRem(x:V)(vs:List V)(H:Hp)(Q:VK):Prop where
 | mk (l:Addr) (xs:List V) (y:V) (j:Nat) (dy:PyData) (h0_:x=.ref l) (h1_:vs=[y]) (h2_:H l=some (.lst xs)) (h3_:j<xs.length) (h4_:Rp H dy y) (h5_:dy.canLay0=true) (h6_:dy.depth<=60)
   (h7_:∀ m z,m<=j->xs[m]?=some z->∃ d,Rp H d z/\d.canLay0=true/\PyData.eqv d dy=decide (m=j)) (h8_:Q .non (upd H l (.lst (xs.eraseIdx j)))):IRem x vs H Q
theorem zf0 {k:Nat} (hr:Room k X.A):MtM X "list.remove" IRem:=by
 intro pins s σ H x vs v us Q I rx rv h;obtain⟨l,xs,y,j,dy,rfl,rfl,hH,hj,hy,cy,py,hm,q⟩:=h;cases rx;obtain⟨u,rfl,ru⟩:=rv.one;obtain⟨z,its,n,r,hl,e⟩:=I.lstM hH;obtain⟨bs,ry⟩:=Rp.reads I dy y u hy ru;refine call_meets F.slot_list_remove ⟨_,e,rfl⟩ F.entry_list_remove (F.args_list_remove_2 _ _) (removeD l its.toArray n u j) ⟨e,by rw [wK]; omega,by rw [wK]; omega,by have:=hr.units; omega,⟨dy,bs,ry,cy,py,fun m v _ hmj hv=>?_⟩,?_⟩
 ·rw [List.getElem?_toArray] at hv;obtain⟨zz,hzz,rz⟩:=ye r hv;obtain⟨d,hd,cd,ed⟩:=hm m zz hmj hzz;obtain⟨as,ra⟩:=Rp.reads I d zz v hd rz;exact⟨d,as,ra,cd,ed⟩
 ·refine⟨.non,_,I.lset (its':=its.eraseIdx j) (ys:=xs.eraseIdx j) hH e ?_ ?_ ?_,rfl,q⟩
  ·show its.toArray.eraseIdxIfInBounds j=_;rw [Array.eraseIdxIfInBounds];rw [dif_pos (by rw [wK]; omega)];simp
  ·exact zcS r j
  ·rw [List.length_eraseIdx]; split <;> omega
inductive IAll(xs:List V)(H:Hp)(Q:VK):Prop where
 | mk (p:Addr) (bs:List Bool) (e:xs=[.ref p]) (h:H p=some (.lst (bs.map V.bl))) (q:Q (.bl (bs.all id)) H):IAll xs H Q
theorem zej(bs:List Bool):∀ n,n=bs.length->(wY n).all (fun i=>bs.getD i true)=bs.all id:=by
 intro n e;subst e;rw [uO,uG,uG];refine⟨fun h x hx=>?_,fun h i hi=>?_⟩
 ·obtain⟨i,hi,rfl⟩:=wI hx;have:=h i (vp.mpr hi)
  simpa [gx,hi] using this
 ·have hi':=vp.mp hi;have:=h bs[i] (wk hi')
  simpa [gx,hi'] using this
theorem zby (hc:X.calm=true):CallR X (.builtin "all") IAll:=by
 intro pins s σ H xs us Q I r h;obtain⟨p,bs,rfl,hq,q⟩:=h;obtain⟨u,rfl,ru⟩:=Vals.one r;cases ru;obtain⟨its,rv,pl,_⟩:=I.list (SqL.of (K:=X.K) hq);have hh:X.A.in1.handled=none:=I.ok.hd hc;have lt:p<s.heap.objs.size:=let ⟨_,e,_⟩:=pl.isList; Heap.lt_size e
 have hl:its.length=bs.length:=by rw [← rv.length,wa]
 refine call_all_walk (wpAny_pyIter_list pl.isList ?_);refine⟨s.heap.objs.size,_,_,_,_,_,fun i=>bs.getD i true,rfl,Walks.list hh s.heap.objs.size p (wS lt) its.toArray,⟨⟨_,Heap.get?_push_size _ rfl,rfl,rfl⟩,pl.isList.at fun o e=>Heap.get?_push_of_some _ e⟩,fun i v s' Q' E' hv hQ=>?_,fun h' tk keep=>?_⟩
 ·have hv':its[i]?=some v:=by simpa using hv
  have hi:i<bs.length:=by rw [← hl]; exact(wo.mp hv').1
  obtain⟨u,hu,ru⟩:=rv.get (i:=i) (x:=.bl bs[i]) (by rw [wg,wb hi]; rfl);rw [hu] at hv';cases hv';cases ru;refine wpAny_truthy_bool ?_
  simpa [gx,hi] using hQ
 ·rw [zej bs _ (by rw [wK]; exact hl)];refine⟨.bl (bs.all id),H,?_,rfl,q⟩;exact I.kept (h':=h') (t':=tk) fun b o eb=>keep b o (by simp only [wH,vn,or_false]; exact wS (Heap.lt_size eb)) (Heap.get?_push_of_some _ eb)
end
end L2
namespace La
open Lean.Grind Nm
section
variable{k:Int}{F:Type}[Field F]{φ:Kf k F}{n:Nat}
theorem Rr.snoc{P:List (Pv F)}(R:Rr n P){c:Nat}(lt:∀ q∈P,q.1<c)(hc:c<n){f:Nat->F}(f0:∀ j,j<c->f j=0)(f1:f c=1)(fo:∀ j,n<=j->f j=0) :
  Rr n (P.map (fun q=>(q.1,fun j=>q.2 j - q.2 c*f j))++[(c,f)]):=by
 have cases:∀ q∈P.map (fun q=>(q.1,fun j=>q.2 j - q.2 c*f j))++[(c,f)],(∃ p∈P,q =(p.1,fun j=>p.2 j - p.2 c*f j))\/q =(c,f):=fun q hq=>by
  rcases wq.mp hq with h | h
  ·obtain⟨p,hp,e⟩:=wj.mp h;exact .inl ⟨p,hp,e.symm⟩
  ·exact .inr (wt.mp h)
 refine⟨?_,fun q hq=>?_,fun q hq j hj=>?_,fun q hq j hj=>?_,fun q hq=>?_,fun q hq r hr ne=>?_⟩
 ·rw [wah];refine⟨?_,GP _ _,fun a ha b hb=>?_⟩
  ·rw [uz];exact R.inc
  ·obtain⟨p,hp,rfl⟩:=wj.mp ha;rw [wt.mp hb];exact lt p hp
 ·rcases cases q hq with⟨p,hp,rfl⟩ | rfl
  ·exact R.lt p hp
  ·exact hc
 ·rcases cases q hq with⟨p,hp,rfl⟩ | rfl
  ·show p.2 j - p.2 c*f j=0;rw [R.out p hp j hj,fo j hj]; grind
  ·exact fo j hj
 ·rcases cases q hq with⟨p,hp,rfl⟩ | rfl
  ·show p.2 j - p.2 c*f j=0;have hj':j<p.1:=hj;rw [R.bef p hp j hj',f0 j (wa4 hj' (lt p hp))]; grind
  ·exact f0 j hj
 ·rcases cases q hq with⟨p,hp,rfl⟩ | rfl
  ·show p.2 p.1 - p.2 c*f p.1=1;rw [R.one p hp,f0 _ (lt p hp)]; grind
  ·exact f1
 ·rcases cases q hq with⟨p,hp,rfl⟩ | rfl
  ·rcases cases r hr with⟨p',hp',rfl⟩ | rfl
   ·show p.2 p'.1 - p.2 c*f p'.1=0;rw [R.oth p hp p' hp' ne,f0 _ (lt p' hp')]; grind
   ·show p.2 c - p.2 c*f c=0;rw [f1]; grind
  ·rcases cases r hr with⟨p',hp',rfl⟩ | rfl
   ·exact f0 _ (lt p' hp')
   ·exact absurd rfl ne
noncomputable def gjR(k:Int)(c:Nat)(f r:List Nb):List Nb:=vA (fun x y=>nsub k x (nmul k (r.getD c (nnum k 0)) y)) r f
theorem zhQ(hk:KindOk k){c:Nat}{f r:List Nb}(of:OkR k f)(or:OkR k r)(hl:r.length=f.length):(gjR k c f r).length=r.length/\OkR k (gjR k c f r):=by
 have rc:(r.getD c (nnum k 0)).ok k:=by
  rcases wN c r.length with h | h
  ·rw [we,wb h]; exact or _ (wk h)
  ·rw [we,wJ h]; exact zU hk 0
 refine⟨by unfold gjR; rw [wX,hl,gq],fun x hx=>?_⟩;unfold gjR at hx;obtain⟨i,hi,e⟩:=wI hx;rw [uw] at e;rw [← e];exact L2.XE hk.lt.1 (or _ (wk _)) (L2.zcx hk.lt.1 rc (of _ (wk _)))
theorem zhR(hk:KindOk k){c:Nat}{f r:List Nb}(of:OkR k f)(or:OkR k r)(hl:r.length=f.length)(j:Nat):nv φ (gjR k c f r) j=nv φ r j - nv φ r c*nv φ f j:=by
 have rc:(r.getD c (nnum k 0)).ok k:=by
  rcases wN c r.length with h | h
  ·rw [we,wb h]; exact or _ (wk h)
  ·rw [we,wJ h]; exact zU hk 0
 exact ziW hl (fun x y=>x - nv φ r c*y) (by grind) (fun x hx y hy=>by
  rw [φ.sub (or x hx) (L2.zcx hk.lt.1 rc (of y hy)),φ.mul rc (of y hy)]; rfl) j
structure Gj(φ:Kf k F)(n c:Nat)(M told left:List (List Nb))(ls:List Nat):Prop where
 okt:OkM k n told
 okl:OkM k n left
 len:ls.length=told.length
 rr:Rr n (ls.zip (told.map (nv φ)))
 lt:∀ l∈ls,l<c
 zl:∀ r∈left,∀ j,j<c->nv φ r j=0
 sp:∀ v,Rm φ (told++left) v↔Rm φ M v
theorem Gj.start{M:List (List Nb)}(oM:OkM k n M):Gj φ n 0 M [] M [] where
 okt:=fun _ h=>(nomatch h)
 okl:=oM
 len:=rfl
 rr:=by
  show Rr n [];exact⟨.nil,(fun _ h=>nomatch h),(fun _ h=>nomatch h),(fun _ h=>nomatch h),(fun _ h=>nomatch h),(fun _ h=>nomatch h)⟩
 lt:=fun _ h=>(nomatch h)
 zl:=fun _ _ _ h=>absurd h (vH _)
 sp:=fun _=>Iff.rfl
theorem Gj.skip{c:Nat}{M told left:List (List Nb)}{ls:List Nat}(G:Gj φ n c M told left ls)(z:∀ r∈left,nv φ r c=0):Gj φ n (c+1) M told left ls :=
 ⟨G.okt,G.okl,G.len,G.rr,fun l hl=>uy (G.lt l hl),fun r hr j hj=>(by
  rcases vO (ud hj)with h | h
  ·exact G.zl r hr j h
  ·rw [h]; exact z r hr),G.sp⟩
theorem zbu{α:Type}{l:List α}{j:Nat}{p r:α}(hp:l[j]?=some p)(hr:r∈l):r=p\/r∈l.eraseIdx j:=by
 obtain⟨hj,e⟩:=wo.mp hp;obtain⟨i,hi,ei⟩:=wI hr
 by_cases h:i=j
 ·subst h; rw [e] at ei; exact .inl ei.symm
 ·right
  rw [List.eraseIdx_eq_take_drop_succ]
  rcases Nat.lt_or_gt_of_ne h with g | g
  ·exact wE _ (by rw [List.mem_take_iff_getElem]; exact⟨i,by omega,ei⟩)
  ·exact wy _ (by rw [List.mem_drop_iff_getElem]; exact⟨i - (j+1),by omega,by rw [← ei]; congr 1; omega⟩)
theorem Gj.turn(hk:KindOk k){c j:Nat}{M told left:List (List Nb)}{ls:List Nat}{p:List Nb}{b:Nb}(G:Gj φ n c M told left ls)(hc:c<n)(hp:left[j]?=some p)(ob:b.ok k)(eb:φ.to b*nv φ p c=1) :
  Gj φ n (c+1) M (told.map (gjR k c (p.map (nmul k b)))++[p.map (nmul k b)]) ((left.eraseIdx j).map (gjR k c (p.map (nmul k b)))) (ls++[c]):=by
 have pm:=wc hp;have op:=G.okl p pm;have ef:∀ i,nv φ (p.map (nmul k b)) i=φ.to b*nv φ p i:=fun i=>zjw (fun x=>φ.to b*x) (by grind) (fun x hx=>φ.mul ob (op.2 x hx)) i
 have lf:(p.map (nmul k b)).length=n:=by rw [wa]; exact op.1
 have of:OkR k (p.map (nmul k b)):=fun x hx=>by
  obtain⟨y,hy,rfl⟩:=wj.mp hx;exact L2.zcx hk.lt.1 ob (op.2 y hy)
 have f0:∀ i,i<c->nv φ (p.map (nmul k b)) i=0:=fun i hi=>by rw [ef,G.zl p pm i hi]; grind
 have f1:nv φ (p.map (nmul k b)) c=1:=by rw [ef]; exact eb
 have e2:∀ i,nv φ p i=nv φ p c*nv φ (p.map (nmul k b)) i:=fun i=>by rw [ef]; grind
 have se:=Gf (l:=left) j;generalize p.map (nmul k b)=f at *;have oe:∀ r∈left.eraseIdx j,r∈left:=fun r hr=>se.subset hr
 have gt:∀ r∈told,nv φ (gjR k c f r)=fun i=>nv φ r i - nv φ r c*nv φ f i:=fun r hr=>funext fun i=>zhR hk of (G.okt r hr).2 (by rw [(G.okt r hr).1,lf]) i
 have gl:∀ r∈left,nv φ (gjR k c f r)=fun i=>nv φ r i - nv φ r c*nv φ f i:=fun r hr=>funext fun i=>zhR hk of (G.okl r hr).2 (by rw [(G.okl r hr).1,lf]) i
 have fin:Rm φ (told++left) (nv φ f):=by
  have h:Rm φ (told++left) (nv φ p):=.of ⟨p,wy _ pm,rfl⟩;exact(h.smul (φ.to b)).cast fun i=>(ef i).symm
 refine⟨fun r hr=>?_,fun r hr=>?_,?_,?_,fun l hl=>?_,fun r hr i hi=>?_,fun v=>?_⟩
 ·rcases wq.mp hr with h | h
  ·obtain⟨t,ht,rfl⟩:=wj.mp h;have ot:=G.okt t ht;have:=zhQ hk (c:=c) of ot.2 (by rw [ot.1,lf]);exact⟨by rw [this.1]; exact ot.1,this.2⟩
  ·rw [wt.mp h]; exact⟨lf,of⟩
 ·obtain⟨t,ht,rfl⟩:=wj.mp hr;have ot:=G.okl t (oe t ht);have:=zhQ hk (c:=c) of ot.2 (by rw [ot.1,lf]);exact⟨by rw [this.1]; exact ot.1,this.2⟩
 ·rw [wx,wx,wa,G.len]; rfl
 ·have em:(told.map (gjR k c f)++[f]).map (nv φ) =(told.map (nv φ)).map (fun u=>fun i=>u i - u c*nv φ f i)++[nv φ f]:=by
   rw [ww,vV,vV];refine congrArg (·++_) (uq fun r hr=>?_);exact gt r hr
  rw [em,List.zip_append (by rw [wa,wa]; exact G.len),List.zip_map_right];exact G.rr.snoc (fun q hq=>G.lt _ (wR hq).1) hc f0 f1 fun i hi=>yW φ (by rw [lf]; exact hi)
 ·rcases wq.mp hl with h | h
  ·exact uy (G.lt l h)
  ·rw [wt.mp h]; exact vS c
 ·obtain⟨t,ht,rfl⟩:=wj.mp hr;rw [gl t (oe t ht)];show nv φ t i - nv φ t c*nv φ f i=0
  rcases vO (ud hi)with h | h
  ·rw [G.zl t (oe t ht) i h,f0 i h]; grind
  ·rw [h,f1]; grind
 ·rw [← G.sp v];have sub:∀(u w:Nat->F)(a:F)(N:List (List Nb)),Rm φ N u->Rm φ N w->Rm φ N (fun i=>u i - a*w i):=fun u w a N hu hw=>(hu.add (hw.smul (-a))).cast fun i=>by grind
  constructor
  ·refine fun h=>h.bind fun u ⟨r,hr,e⟩=>?_
   subst e
   rcases wq.mp hr with h | h
   ·rcases wq.mp h with h | h
    ·obtain⟨t,ht,rfl⟩:=wj.mp h;rw [gt t ht];exact sub _ _ _ _ (.of ⟨t,wE _ ht,rfl⟩) fin
    ·rw [wt.mp h]; exact fin
   ·obtain⟨t,ht,rfl⟩:=wj.mp h;rw [gl t (oe t ht)];exact sub _ _ _ _ (.of ⟨t,wy _ (oe t ht),rfl⟩) fin
  ·have fin':Rm φ (told.map (gjR k c f)++[f] ++(left.eraseIdx j).map (gjR k c f)) (nv φ f):=.of ⟨f,wE _ (wy _ (wt.mpr rfl)),rfl⟩;refine fun h=>h.bind fun u ⟨r,hr,e⟩=>?_
   subst e;have back:∀ r,nv φ (gjR k c f r) =(fun i=>nv φ r i - nv φ r c*nv φ f i)->gjR k c f r∈told.map (gjR k c f)++[f] ++(left.eraseIdx j).map (gjR k c f)->Rm φ (told.map (gjR k c f)++[f] ++(left.eraseIdx j).map (gjR k c f)) (nv φ r):=fun r e hm=>by
    have h1:Rm φ (told.map (gjR k c f)++[f] ++(left.eraseIdx j).map (gjR k c f)) (nv φ (gjR k c f r)):=.of ⟨_,hm,rfl⟩;rw [e] at h1;exact(h1.add (fin'.smul (nv φ r c))).cast fun i=>by grind
   rcases wq.mp hr with h | h
   ·exact back r (gt r h) (wE _ (wE _ (wj.mpr ⟨r,h,rfl⟩)))
   ·rcases zbu hp h with e | e
    ·rw [e];exact(fin'.smul (nv φ p c)).cast fun i=>(e2 i).symm
    ·exact back r (gl r h) (wy _ (wj.mpr ⟨r,e,rfl⟩))
theorem Gj.done{c:Nat}{M told left:List (List Nb)}{ls:List Nat}(G:Gj φ n c M told left ls)(h:left=[]\/n<=c):IsR φ n told ls/\∀ v,Rm φ told v↔Rm φ M v:=by
 refine⟨⟨G.okt,G.len,G.rr⟩,fun v=>?_⟩;rw [← G.sp v];have z:∀ r∈left,∀ i,nv φ r i=0:=fun r hr i=>by
  rcases h with h | h
  ·rw [h] at hr; exact nomatch hr
  ·rcases wN i c with g | g
   ·exact G.zl r hr i g
   ·exact yW φ (by rw [(G.okl r hr).1]; omega)
 constructor
 ·exact fun q=>q.mono fun r ⟨x,hx,e⟩=>⟨x,wE _ hx,e⟩
 ·intro q;obtain⟨a,b,ha,hb,ev⟩:=Rm.app.mp q;have zb:∀ i,b i=0:=fun i=>hb.zero_at fun r ⟨x,hx,e⟩=>by rw [e]; exact z x hx i
  exact ha.cast fun i=>by rw [ev i,zb i]; grind
theorem QD(hk:KindOk k){A B:List (List Nb)}(oA:OkM k n A)(lA:A.length=n)(oB:OkM k n B)(n1:1<=n)(v:Nat->F):Rm φ (kry k A B n) v->Rm φ (kry k A B (n - 1)) v:=by
 by_cases h:∃ s,s<n/\∀ v,Rm φ (kry k A B (s+1)) v->Rm φ (kry k A B s) v
 ·obtain⟨s,hs,st⟩:=h;intro hv;have h1:=QQ hk oA lA oB st (n - s) v (by rw [show s +(n - s)=n by omega]; exact hv);have h2:=zba hk oA lA oB s (n - 1 - s) v h1;rw [show s +(n - 1 - s)=n - 1 by omega] at h2;exact h2
 ·exfalso
  have key:∀ t,t<=n->∀ R ls,RedOf φ n (kry k A B t) R ls->t+1<=R.length:=by
   intro t
   induction t with
   | zero =>
    intro _ R ls hR;refine Nat.succ_le_of_lt (Nat.pos_of_ne_zero fun e=>h ⟨0,by omega,fun v hv=>?_⟩);have eR:R=[]:=ue e;subst eR;have zB:∀ u,Rm φ B u->∀ i,u i=0:=fun u hu i=>(hR.to u hu).zero_at fun r ⟨x,hx,_⟩=>nomatch hx
    have hv':Rm φ (B++B.map (imgR k A)) v:=hv;obtain⟨a,b,ha,hb,ev⟩:=Rm.app.mp hv';obtain⟨u,hu,eu⟩:=(Rm.img hk oA oB).mp hb;have:∀ i,b i=0:=fun i=>by
     rw [eu i,show u =(fun _=>0)from funext (zB u hu)];exact XI A i
    exact Span.cast ha fun i=>by rw [ev i,this i]; grind
   | succ t ih =>
    intro ht R ls hR;obtain⟨R',ls',hR'⟩:=jR φ hk (xy hk oA lA oB t);have h1:=ih (by omega) R' ls' hR';have sub:=hR'.toIsR.sub_len hR.toIsR fun v hv=>hR.to v (qj hk oA lA oB t v (hR'.fro v hv))
    rcases wN R'.length R.length with g | g
    ·omega
    ·exact absurd ⟨t,by omega,fun v hv=>hR'.fro v (sub.2 g v (hR.to v hv))⟩ h
  obtain⟨R,ls,hR⟩:=jR φ hk (xy hk oA lA oB n);have h1:=key n (wu _) R ls hR;have h2:ls.length<=n:=by
   have:=L2.Yu (m:=0) hR.toIsR.inc (fun x hx=>⟨vz _,(by
    obtain⟨i,r,e1,e2⟩:=hR.toIsR.lead_of hx;exact hR.rr.lt _ (hR.toIsR.get e1 e2):x<n)⟩) (vz _)
   omega
  have:=hR.len;omega
end
end La
namespace L2
open PySem PySem.Spec PyProof.Rows Nm
theorem zhj{k:Int}(hk:KindOk k)(n:Nat):TOk k n n 61 (La.unitM k n):=by
 refine⟨(La.yy hk n).2,(La.yy hk n).1,fun q hq x hx=>?_⟩;unfold La.unitM at hq;obtain⟨i,_,rfl⟩:=wj.mp hq;unfold La.unitRow at hx;obtain⟨j,_,rfl⟩:=wj.mp hx
 split
 ·exact qW hk (sm_one.mono (by decide)) (by decide)
 ·exact qW hk (qr 61) (by decide)
section
variable{k:Int}(hk:KindOk k)
theorem TOk.get{r c m:Nat}{M:List (List Nb)}(h:TOk k r c m M){i:Nat}(hi:i<r):∃ a,M[i]?=some a/\ROk k c m a:=by
 have hl:i<M.length:=by rw [h.len]; exact hi
 exact⟨M[i],wb hl,h.row (wk hl)⟩
end
end L2
open PySem PySem.Spec PyProof.Rows
namespace L2
section
variable{X:Cx}{K:PySem.W.Frag}{e:Expr}{t:TA}{p p2 pos pos2:Pos}
end
end L2
namespace L2
open PySem PySem.Spec PyProof.Rows Nm
theorem zjD(xs:List V)(i j:Nat):cutV xs (some (i:Int)) (some (j:Int)) =(xs.drop i).take (j - i):=by
 unfold cutV;rw [HT.Ym,HT.Ym]
 rcases wN i xs.length with h | h
 ·rw [gO (a:=i) (ur h)]
  rcases wa7 j xs.length with h2 | h2
  ·rw [gO h2]
  ·rw [gv h2,wp (by rw [ut]; omega),wp (by rw [ut]; omega)]
 ·rw [gv h,uI (wu _),uI h]; simp
noncomputable def ITab(H:Hp)(W:List (List Int))(t:Addr)(ls:List Addr):Prop:=H t=some (.lst (ls.map V.ref))/\Paired (IRow H) W ls
theorem ITab.mono{H H':Hp}{W:List (List Int)}{t:Addr}{ls:List Addr}(h:ITab H W t ls)(g:Same H H'):ITab H' W t ls:=⟨g _ _ h.1,xR (fun _ _ r=>r.mono g) h.2⟩
theorem ITab.row{H:Hp}{W:List (List Int)}{t:Addr}{ls:List Addr}(h:ITab H W t ls){i:Nat}{v:V}(e:(ls.map V.ref)[i]?=some v):∃ ws a,W[i]?=some ws/\ls[i]?=some a/\v=.ref a/\IRow H ws a:=by
 rw [wg] at e;obtain⟨a,ha,rfl⟩:=wU.mp e;obtain⟨ws,hw,r⟩:=ye h.2 ha;exact⟨ws,a,hw,ha,rfl,r⟩
theorem ITab.snoc{H H':Hp}{W:List (List Int)}{ls:List Addr}(h:Paired (IRow H) W ls)(g:Same H H'){ws:List Int}{a:Addr}(r:IRow H' ws a):Paired (IRow H') (W++[ws]) (ls++[a]):=zZ (xR (fun _ _ r=>r.mono g) h) r
end L2
namespace L2
open PySem PySem.Spec PyProof.Rows Nm
section
variable{k:Int}(hk:KindOk k){n:Nat}{x y:List Nb}
include hk
section
variable{F:Type}[Lean.Grind.Field F](φ:La.Kf k F)
end
section
variable{A C:List (List Nb)}(oA:La.OkM k n A)(lA:A.length=n)
include oA lA
theorem zfN(ox:La.OkR k x)(lx:x.length=n):∀ i,La.OkR k (powX k A x i)/\(powX k A x i).length=n
 | 0=>⟨ox,lx⟩
 | i+1=>by
  obtain⟨o,l⟩:=zfN ox lx i;obtain⟨a,b⟩:=La.Yt hk oA o;exact⟨b,a.trans lA⟩
end
end
section
variable{k:Int}(hk:KindOk k){n:Nat}
include hk
end
end L2
namespace L2
open PySem PySem.Spec PyProof.Rows Nm
theorem zcJ{k:Int}(hk:KindOk k){D D' B B':Nat}:∀(l:List (Nb×Nb))(s:Nb)(c:Nat),(∀ p∈l,La.dB D B p.1/\La.dB D' B' p.2/\p.1.ok k/\p.2.ok k)->s.ok k->La.dB (D*D') c s->La.dB (D*D') (c+l.length *(B*B')) (l.foldl (fun s p=>nadd k s (nmul k p.1 p.2)) s)
 | [],s,c,_,_,h=>by rw [Gh,GQ]; exact h
 | p::l,s,c,hp,os,h=>by
  obtain⟨h1,h2,o1,o2⟩:=hp p wm;have om:=La.yM hk o1 o2;have:=zcJ hk l (nadd k s (nmul k p.1 p.2)) (c+B*B') (fun q hq=>hp q (wr _ hq)) (La.XD hk os om) (h.add (h1.mul h2 o1 o2) os om);rw [GR];refine this.mono ?_;rw [vK,uv,um]; omega
theorem ziC{k:Int}(hk:KindOk k){D D' B B' n:Nat}{x y:List Nb}(ox:La.OkR k x)(oy:La.OkR k y)(lx:x.length=n)(hx:∀ u∈x,La.dB D B u)(hy:∀ u∈y,La.dB D' B' u):La.dB (D*D') (n *(B*B')) (La.ndot k x y):=by
 unfold La.ndot La.ndotF;have h:=zcJ hk (x.zip y) (nnum k 0) 0 (fun p hp=>⟨hx _ (wR hp).1,hy _ (wR hp).2,ox _ (wR hp).1,oy _ (wR hp).2⟩) (La.zU hk 0) (La.dB.num (by simp));refine h.mono ?_;rw [Gk];refine vm _ ?_;rw [vI]; omega
theorem zfT{k:Int}{B:Nat}{x:List Nb}(k0:k≠0)(ox:La.OkR k x)(b1:1<=B):La.rowB B x:=Zh (k:=k) (n:=x.length) (M:=[x]) k0 (fun r hr=>by rw [wt.mp hr]; exact⟨rfl,ox⟩) b1 x wm
theorem zcX{k:Int}(hk:KindOk k){n:Nat}{R W M:List (List Nb)}{lr lw:List Nat}{x:List Nb}(iR:IsRa k n R lr)(iW:IsRa k n W lw)(eR:SameR k R (M++[x]))(eW:SameR k W M):R.length=W.length↔∀(F:Type) [Lean.Grind.Field F] (φ:La.Kf k F),La.Rm φ M (La.nv φ x):=by
 have mx:∀(F:Type) [Lean.Grind.Field F] (φ:La.Kf k F),La.Rm φ R (La.nv φ x):=fun F _ φ=>(eR F φ _).mpr (.of ⟨x,wy _ wm,rfl⟩)
 have sub:∀(F:Type) [Lean.Grind.Field F] (φ:La.Kf k F) (v:Nat->F),La.Rm φ W v->La.Rm φ R v:=fun F _ φ v h=>(eR F φ v).mpr (((eW F φ v).mp h).mono fun u ⟨r,hr,e⟩=>⟨r,wE _ hr,e⟩)
 constructor
 ·intro h F _ φ;exact(eW F φ _).mp (((iW F φ).sub_len (iR F φ) (sub F φ)).2 (by omega) _ (mx F φ))
 ·intro h;have:R=W:=Xn hk iR iW fun F _ φ v=>⟨fun hv=>?_,sub F φ v⟩
  ·rw [this]
  ·refine(eW F φ v).mpr (((eR F φ v).mp hv).bind fun u ⟨r,hr,e⟩=>?_)
   rcases wq.mp hr with h' | h'
   ·exact .of ⟨r,h',e⟩
   ·rw [wt.mp h'] at e;rw [e]; exact h F φ
end L2
namespace L2
open PySem PySem.Spec PyProof.Rows Nm
section
variable{k:Int}(hk:KindOk k){n s z:Nat}(z7:61<=z){A C:List (List Nb)}(hA:TOk k n n z A)(hC:TOk k s n z C)
include hk z7 hA hC
end
end L2
namespace L2
open Nm
end L2
namespace L2
open PySem PySem.Spec PyProof.Rows Nm
theorem XF{α:Type}[DecidableEq α](f:α->PyData)(h:∀ x y,PyData.eqv (f x) (f y)=decide (x=y)):∀ l l':List α,PyData.eqvAll (l.map f) (l'.map f)=decide (l=l')
 | [],[]=>rfl
 | [],_::_=>rfl
 | _::_,[]=>rfl
 | x::l,y::l'=>by
  show(PyData.eqv (f x) (f y) && PyData.eqvAll (l.map f) (l'.map f))=_;rw [h,XF f h l l',uO];simp
theorem Qv(M N:List (List Nb)):PyData.eqv (tabD M) (tabD N)=decide (M=N):=XF rowD (fun xs ys=>XF toD jH xs ys) M N
theorem zg1{α β:Type}{R:α->β->Prop}{xs:List α}{ys:List β}(h:Paired R xs ys)(n:Nat):Paired R (xs.take n) (ys.take n):=by
 have l:=zk h;refine XR (by rw [wv,wv,l]) fun i x a h1 h2=>?_
 rw [List.getElem?_take] at h1 h2
 split at h1
 ·rename_i hi;rw [if_pos hi] at h2;exact ja h h1 h2
 ·cases h1
end L2
namespace L2
open PySem PySem.Spec PyProof.Rows Nm
section
variable{X:Cx}{tg:Expr}
end
end L2
namespace L2
open PySem PySem.Spec PyProof.Rows Nm
section
variable{k:Int}{F:Type}[Lean.Grind.Field F]
variable(hk:KindOk k){n h s m:Nat}{A B C:List (List Nb)}(hM:MOk k n h s m A B C)
include hk hM
end
section
variable{k:Int}(hk:KindOk k){n h s m:Nat}{A B C:List (List Nb)}(hM:MOk k n h s m A B C)
end
end L2
namespace L2
open PySem PySem.Spec PyProof.Rows Nm
noncomputable def whk(k:Int)(m:Nat)(x:Nb):Prop:=k=0->∃ i:Int,x=nnum k i/\i.natAbs<2^m
theorem whk.mono{k:Int}{m n:Nat}{x:Nb}(h:whk k m x)(hm:m<=n):whk k n x:=fun k0=>by
 obtain⟨i,e,hi⟩:=h k0;exact⟨i,e,wV hi (wZ (by decide) hm)⟩
theorem whk.szk{k:Int}{m:Nat}{x:Nb}(h:whk k m x)(m1:1<=m):szk k m x:=fun k0=>by
 obtain⟨i,e,hi⟩:=h k0;subst k0;rw [e];exact⟨hi,sm_one.mono m1⟩
theorem whk.nsm{k:Int}(hk:KindOk k){m n:Nat}{x:Nb}(o:x.ok k)(h:whk k m x)(hm:m<=n)(h7:61<=n):nsm n x:=((h.mono hm).szk (wF (by decide) h7)).nsm hk o (wu _) h7
theorem jK{k:Int}(k0:k=0)(i:Int):nnum k i=.q (i:Rat):=by unfold nnum; rw [if_pos k0]
theorem zfw{a b m n:Nat}(ha:a<2^m)(hb:b<2^n):a+b<2^(max m n+1):=by
 have h1:2^m<=2^max m n:=wZ (by decide) (Nat.le_max_left _ _);have h2:2^n<=2^max m n:=wZ (by decide) (Nat.le_max_right _ _);rw [gm]; omega
theorem zhd{k:Int}{m n:Nat}{x y:Nb}(ox:x.ok k)(oy:y.ok k)(sx:whk k m x)(sy:whk k n y):whk k (max m n+1) (nadd k x y):=fun k0=>by
 obtain⟨i,rfl,hi⟩:=sx k0;obtain⟨j,rfl,hj⟩:=sy k0;refine⟨i+j,?_,ug (Gv i j) (zfw hi hj)⟩;rw [jK k0,jK k0,jK k0];show Nb.q ((i:Rat) +(j:Rat))=_;rw [GU]
theorem zg7{k:Int}{m n:Nat}{x y:Nb}(ox:x.ok k)(oy:y.ok k)(sx:whk k m x)(sy:whk k n y):whk k (max m n+1) (nsub k x y):=fun k0=>by
 obtain⟨i,rfl,hi⟩:=sx k0;obtain⟨j,rfl,hj⟩:=sy k0;refine⟨i - j,?_,ug (waA i j) (zfw hi hj)⟩;rw [jK k0,jK k0,jK k0];show Nb.q ((i:Rat) - (j:Rat))=_;rw [Rat.intCast_sub]
theorem zaq{k:Int}{m n:Nat}{x y:Nb}(ox:x.ok k)(oy:y.ok k)(sx:whk k m x)(sy:whk k n y):whk k (m+n) (nmul k x y):=fun k0=>by
 obtain⟨i,rfl,hi⟩:=sx k0;obtain⟨j,rfl,hj⟩:=sy k0;refine⟨i*j,?_,?_⟩
 ·rw [jK k0,jK k0,jK k0];show Nb.q ((i:Rat) *(j:Rat))=_;rw [vg]
 ·rw [vx,uu];exact waI hi hj
structure TW(k:Int)(r c m:Nat)(M:List (List Nb)):Prop where
 len:M.length=r
 ok:La.OkM k c M
 sz:∀ r∈M,∀ x∈r,whk k m x
theorem TW.up{k:Int}{r c m m':Nat}{M:List (List Nb)}(h:TW k r c m M)(hm:m<=m'):TW k r c m' M:=⟨h.len,h.ok,fun r hr x hx=>(h.sz r hr x hx).mono hm⟩
theorem TW.tok{k:Int}(hk:KindOk k){r c m n:Nat}{M:List (List Nb)}(h:TW k r c m M)(hm:m<=n)(h7:61<=n):TOk k r c n M:=⟨h.len,h.ok,fun r hr x hx=>(h.sz r hr x hx).nsm hk ((h.ok r hr).2 x hx) hm h7⟩
theorem TW.set{k:Int}{r c m i:Nat}{M:List (List Nb)}{xs:List Nb}(h:TW k r c m M)(lx:xs.length=c)(ox:La.OkR k xs)(sx:∀ x∈xs,whk k m x):TW k r c m (M.set i xs):=by
 refine⟨by rw [vf]; exact h.len,fun q hq=>?_,fun q hq=>?_⟩
 all_goals
  rcases La.yh hq with e | e
 ·rw [e]; exact⟨lx,ox⟩
 ·exact h.ok q e
 ·rw [e]; exact sx
 ·exact h.sz q e
end L2
namespace L2
open PySem PySem.Spec PyProof.Rows Nm
theorem Ja{k:Int}{m:Nat}{x:Nb}(k0:k=0)(h:whk k m x):La.dB 1 (2^m - 1) x:=by
 obtain⟨i,rfl,hi⟩:=h k0;exact La.dB.num (by omega)
theorem zfe{k:Int}{m B:Nat}{x:Nb}(ox:x.ok k)(h:k=0->La.dB 1 B x)(hb:B<2^m):whk k m x:=fun k0=>by
 have h:=h k0;cases x with
 | z i=>exact absurd k0 ox.1
 | q r =>
  obtain⟨a,ea,ha⟩:=h;refine⟨a,?_,by omega⟩;rw [jK k0];have e1:(((1:Nat):Int):Rat)=1:=by rfl
  rw [e1] at ea;have:r =(a:Rat):=by rw [← ea]; grind
  rw [this]
theorem zh2{k:Int}{m:Nat}{x:List Nb}(m1:1<=m)(ox:La.OkR k x)(h:∀ y∈x,whk k m y):La.rowB m x:=by
 by_cases k0:k=0
 ·have:2^1<=2^m:=wZ (by decide) m1;exact⟨1,by decide,by omega,fun y hy=>Ja k0 (h y hy)⟩
 ·exact zfT k0 ox m1
theorem zgs{k:Int}(hk:KindOk k){n a b c:Nat}{x y:List Nb}(ox:La.OkR k x)(oy:La.OkR k y)(lx:x.length=n)(hn:n<=2^c)(hx:∀ u∈x,whk k a u)(hy:∀ u∈y,whk k b u):whk k (a+b+c) (La.ndot k x y):=by
 refine zfe (B:=n *((2^a - 1) *(2^b - 1))) (La.xv hk ox oy) (fun k0=>?_) ?_
 ·exact ziC hk ox oy lx (fun u hu=>Ja k0 (hx u hu)) (fun u hu=>Ja k0 (hy u hu))
 ·have p1:=gM a;have p2:=gM b;have p3:=gM c;rw [uu,uu];have h1:(2^a - 1) *(2^b - 1)<=(2^a - 1)*2^b:=vh _ (by omega);have h2:(2^a - 1)*2^b=2^a*2^b - 2^b:=by rw [Nat.sub_mul,um]
  have h3:0<2^a*2^b:=wbh p1 p2
  calc n *((2^a - 1) *(2^b - 1))<=2^c *(2^a*2^b - 1):=vt hn (by omega)
   _<2^c *(2^a*2^b):=Nat.mul_lt_mul_of_pos_left (by omega) p3
   _=2^a*2^b*2^c:=uN ..
theorem zic{k:Int}(hk:KindOk k){r n a b:Nat}{A:List (List Nb)}{x:List Nb}(n4:k=0->n<=4)(hA:TW k r n a A)(ox:La.OkR k x)(hx:∀ u∈x,whk k b u):∀ y∈imgM k A x,whk k (a+b+2) y:=fun y hy k0=>by
 unfold imgM at hy;obtain⟨q,hq,rfl⟩:=wj.mp hy;have o:=hA.ok q hq;exact zgs hk o.2 ox o.1 (n4 k0) (hA.sz q hq) hx k0
theorem zep{k:Int}(hk:KindOk k){n a b:Nat}{A:List (List Nb)}{x:List Nb}(n4:k=0->n<=4)(hA:TW k n n a A)(ox:La.OkR k x)(lx:x.length=n)(hx:∀ u∈x,whk k b u):∀ i,∀ y∈powX k A x i,whk k (b+i *(a+2)) y
 | 0=>fun y hy=>(hx y hy).mono (by omega)
 | i+1=>fun y hy=>by
  have o:=zfN hk hA.ok hA.len ox lx i;exact(zic hk n4 hA o.1 (zep hk n4 hA ox lx hx i) y hy).mono (by rw [uv,um]; omega)
theorem JU{k:Int}{c m:Nat}{M:List (List Nb)}(oM:La.OkM k c M)(h:∀ r∈M,∀ x∈r,whk k m x):∀ r∈transp c M,∀ x∈r,whk k m x:=fun r hr x hx=>by
 unfold transp at hr;obtain⟨j,hj,rfl⟩:=wj.mp hr;obtain⟨q,hq,rfl⟩:=wj.mp hx;have hl:=(oM q hq).1;rw [vp] at hj;rw [we,wb (by omega)];exact h q hq _ (wk _)
end L2
namespace L2
open PySem PySem.Spec PyProof.Rows Nm
section
variable{X:Cx}
theorem zfj(bs:List Bool)(n:Nat)(h:n=bs.length):(wY n).any (fun i=>bs.getD i false)=bs.any id:=by
 subst h;rw [uO,GM,GM]
 constructor
 ·rintro ⟨i,hi,e⟩
  have hi':=vp.mp hi;refine⟨bs[i],wk hi',?_⟩
  simpa [gx,hi'] using e
 ·rintro ⟨b,hb,e⟩
  obtain⟨i,hi,rfl⟩:=wI hb;exact⟨i,vp.mpr hi,by simpa [gx,hi] using e⟩
theorem zaI (hc:X.calm=true):CallR X (.builtin "any") (fun xs H Q=>∃(p:Addr)(bs:List Bool),xs=[.ref p]/\H p=some (.lst (bs.map V.bl))/\Q (.bl (bs.any id)) H):=by
 intro pins s σ H xs us Q I r h;obtain⟨p,bs,rfl,hq,q⟩:=h;obtain⟨u,rfl,ru⟩:=Vals.one r;cases ru;obtain⟨its,rv,pl,_⟩:=I.list (SqL.of (K:=X.K) hq);have hh:X.A.in1.handled=none:=I.ok.hd hc;have lt:p<s.heap.objs.size:=let ⟨_,e,_⟩:=pl.isList; Heap.lt_size e
 have hl:its.length=bs.length:=by rw [← rv.length,wa]
 refine call_any_walk (wpAny_pyIter_list pl.isList ?_);refine⟨s.heap.objs.size,_,_,_,_,_,fun i=>bs.getD i false,rfl,Walks.list hh s.heap.objs.size p (wS lt) its.toArray,⟨⟨_,Heap.get?_push_size _ rfl,rfl,rfl⟩,pl.isList.at fun o e=>Heap.get?_push_of_some _ e⟩,fun i v s' Q' E' hv hQ=>?_,fun h' tk keep=>?_⟩
 ·have hv':its[i]?=some v:=by simpa using hv
  have hi:i<bs.length:=by rw [← hl]; exact(wo.mp hv').1
  obtain⟨u,hu,ru⟩:=rv.get (i:=i) (x:=.bl bs[i]) (by rw [wg,wb hi]; rfl);rw [hu] at hv';cases hv';cases ru;refine wpAny_truthy_bool ?_
  simpa [gx,hi] using hQ
 ·rw [zfj bs _ (by rw [wK]; exact hl)];refine⟨.bl (bs.any id),H,?_,rfl,q⟩;exact I.kept (h':=h') (t':=tk) fun b o eb=>keep b o (by simp only [wH,vn,or_false]; exact wS (Heap.lt_size eb)) (Heap.get?_push_of_some _ eb)
theorem zfs (hc:X.calm=true):CallR X (.builtin "sum") (fun xs H Q=>∃(p:Addr)(ns:List Int),xs=[.ref p]/\H p=some (.tup (ns.map V.int))/\Q (.int ns.sum) H):=by
 intro pins s σ H xs us Q I r h;obtain⟨p,ns,rfl,hq,q⟩:=h;obtain⟨u,rfl,ru⟩:=Vals.one r;cases ru;obtain⟨its,rv,pl,_⟩:=I.tuple (SqT.of (K:=X.K) hq);have pl':s.heap.IsTuple p its.toArray:=pl;have hh:X.A.in1.handled=none:=I.ok.hd hc;have lt:p<s.heap.objs.size:=let ⟨_,e,_⟩:=pl'; Heap.lt_size e
 have hl:its.length=ns.length:=by rw [← rv.length,wa]
 refine call_sum_walkG (wpAny_pyIter_tuple pl' ?_);refine⟨s.heap.objs.size,_,_,_,_,_,fun i=>ns.getD i 0,rfl,Walks.tuple hh s.heap.objs.size p (wS lt) its.toArray,⟨⟨_,Heap.get?_push_size _ rfl,rfl,rfl⟩,pl'.at fun o e=>Heap.get?_push_of_some _ e⟩,fun b hb=>?_,fun i v hv=>?_,fun h' tk t' keep=>?_⟩
 ·simp only [wH,vn,or_false] at hb
  rcases hb with rfl | rfl
  ·rw [Heap.size_push]; exact vS _
  ·rw [Heap.size_push]; exact uy lt
 ·have hv':its[i]?=some v:=by simpa using hv
  have hi:i<ns.length:=by rw [← hl]; exact(wo.mp hv').1
  obtain⟨u,hu,ru⟩:=rv.get (i:=i) (x:=.int ns[i]) (by rw [wg,wb hi]; rfl);rw [hu] at hv';cases hv';obtain⟨t,e⟩:=ru;refine⟨t,?_⟩;rw [e];simp [gx,hi]
 ·have e:preSum (fun i=>ns.getD i 0) its.toArray.size=ns.sum:=by
   rw [wK,hl,ZA ns _ (wu _),vo]
  rw [e];refine⟨.int ns.sum,H,?_,⟨t',rfl⟩,q⟩;exact I.kept (h':=h') (t':=tk) fun b o eb=>keep b o (by simp only [wH,vn,or_false]; exact wS (Heap.lt_size eb)) (Heap.get?_push_of_some _ eb)
end
section
variable{k:Int}{n:Nat}
theorem zdg{V M N:List (List Nb)}(h:SameR k V M):SameR k (V++N) (M++N):=fun F _ φ v=>by
 rw [La.Rm.app,La.Rm.app];exact⟨fun⟨a,b,ha,hb,e⟩=>⟨a,b,(h F φ a).mp ha,hb,e⟩,fun⟨a,b,ha,hb,e⟩=>⟨a,b,(h F φ a).mpr ha,hb,e⟩⟩
theorem QO{M R:List (List Nb)}{ls:List Nat}(red:∀(F:Type) [Lean.Grind.Field F] (φ:La.Kf k F),La.RedOf φ n M R ls):SameR k R M:=fun F _ φ v=>⟨(red F φ).fro v,(red F φ).to v⟩
structure PkI(k:Int)(n:Nat)(W X E V:List (List Nb))(i:Nat):Prop where
 rd:RdR k n V
 sub:∀ r∈E,r∈X
 eE:SameR k V (W++E)
 len:V.length=W.length+E.length
 eX:SameR k V (W++X.take i)
theorem PkI.start{W:List (List Nb)}(h:RdR k n W)(X:List (List Nb)):PkI k n W X [] W 0 :=
 ⟨h,(fun _ h=>nomatch h),(fun F _ φ v=>by rw [vP]),rfl,(fun F _ φ v=>by rw [waU,vP])⟩
theorem PkI.more(hk:KindOk k){W X E V R:List (List Nb)}{ls:List Nat}{i:Nat}{x:List Nb}(I:PkI k n W X E V i)(hx:X[i]?=some x)(red:∀(F:Type) [Lean.Grind.Field F] (φ:La.Kf k F),La.RedOf φ n (V++[x]) R ls)(h:V.length<R.length):PkI k n W X (E++[x]) R (i+1):=by
 have iR:=yJ red;have eR:=QO red;obtain⟨lv,iV⟩:=I.rd;have ne:¬ ∀(F:Type) [Lean.Grind.Field F] (φ:La.Kf k F),La.Rm φ V (La.nv φ x):=fun all=>by
  have:=(zcX hk iR iV eR (fun _ _ _ _=>Iff.rfl)).mpr all;omega
 obtain⟨F,h1⟩:=Gg.mp ne;obtain⟨inst,h2⟩:=Gg.mp h1;obtain⟨φ,h3⟩:=Gg.mp h2;have l:=La.zb3 (iV F φ) (iR F φ) h3 fun v=>(eR F φ v).trans La.rm_app1
 refine⟨⟨ls,iR⟩,fun r hr=>?_,fun F _ φ v=>?_,by rw [l,I.len,wx]; rfl,fun F _ φ v=>?_⟩
 ·rcases wq.mp hr with q | q
  ·exact I.sub r q
  ·rw [wt.mp q]; exact wc hx
 ·rw [← gb];exact(eR F φ v).trans (zdg I.eE F φ v)
 ·rw [zw hx,← gb];exact(eR F φ v).trans (zdg I.eX F φ v)
theorem PkI.same(hk:KindOk k){W X E V R:List (List Nb)}{ls:List Nat}{i:Nat}{x:List Nb}(I:PkI k n W X E V i)(hx:X[i]?=some x)(red:∀(F:Type) [Lean.Grind.Field F] (φ:La.Kf k F),La.RedOf φ n (V++[x]) R ls)(h:¬ V.length<R.length):PkI k n W X E V (i+1):=by
 have iR:=yJ red;have eR:=QO red;obtain⟨lv,iV⟩:=I.rd;obtain⟨F0,_,_,⟨φ0⟩⟩:=La.yf hk;have le:=((iV F0 φ0).sub_len (iR F0 φ0) fun v hv=>(eR F0 φ0 v).mpr (La.qS (fun r hr=>wE _ hr) hv)).1;have all:=(zcX hk iR iV eR (fun _ _ _ _=>Iff.rfl)).mp (by omega);refine⟨I.rd,I.sub,I.eE,I.len,fun F _ φ v=>?_⟩;rw [zw hx,← gb]
 constructor
 ·exact fun hv=>La.qS (fun r hr=>wE _ hr) ((I.eX F φ v).mp hv)
 ·intro hv;obtain⟨u,c,hu,e⟩:=La.rm_app1.mp hv;exact(((I.eX F φ u).mpr hu).add ((all F φ).smul c)).cast fun j=>(e j).symm
theorem PkI.gen{W X E V:List (List Nb)}{i g:Nat}(I:PkI k n W X E V i)(oW:La.OkM k n W)(oX:La.OkM k n X)(cW:La.rowsB g W)(cX:La.rowsB g X):Gen k n g V :=
 ⟨W++E,fun r hr=>(wq.mp hr).elim (oW r) fun h=>oX r (I.sub r h),cW.app fun r hr=>cX r (I.sub r hr),I.eE⟩
structure Quad(k:Int)(n:Nat)(R U M E1 E2 E3:List (List Nb)):Prop where
 ok:La.OkM k n (M++E1++E2++E3)
 len:M.length+E1.length+E2.length+E3.length=n
 r:SameR k R (M++E1)
 u:SameR k U (M++E2)
 all:∀(F:Type) [Lean.Grind.Field F] (φ:La.Kf k F) (p:Nat),p<n->La.Rm φ (M++E1++E2++E3) (La.unitF p 1)
theorem zbP(hk:KindOk k){F:Type}[Lean.Grind.Field F](φ:La.Kf k F)(v:Nat->F)(hv:∀ j,n<=j->v j=0):La.Rm φ (La.unitM k n) v:=by
 refine(La.jT (La.ZX φ hk n) hk v).mp ⟨hv,fun u hu=>?_⟩;refine La.dot_zero n _ _ fun j hj=>?_
 have z:=hu.2 _ (.of ⟨_,wc (La.yO (k:=k) hj),rfl⟩);rw [La.ym,La.yc (u':=u) (v':=La.unitF j 1) fun i _=>by rw [La.jW hj i],La.jg hj] at z
 grind
theorem QU(hk:KindOk k){M R E V:List (List Nb)}(rR:RdR k n R)(sub:∀(F:Type) [Lean.Grind.Field F] (φ:La.Kf k F) (v:Nat->F),La.Rm φ M v->La.Rm φ R v)(I:PkI k n M R E V R.length):SameR k R (M++E)/\M.length+E.length=R.length:=by
 have e:V=R:=zhT hk I.rd rR fun F _ φ v=>by
  have h:=I.eX F φ v;rw [vo] at h;refine h.trans ⟨fun hv=>?_,fun hv=>La.qS (fun r hr=>wy _ hr) hv⟩;obtain⟨a,b,ha,hb,ev⟩:=La.Rm.app.mp hv;exact((sub F φ a ha).add hb).cast fun j=>(ev j).symm
 subst e;exact⟨I.eE,I.len.symm⟩
theorem zib(hk:KindOk k){R U M J E1 E2 E3 V1 V2 V3:List (List Nb)}(rR:RdR k n R)(rU:RdR k n U)(rM:RdR k n M)(rJ:RdR k n J)(met:MetOf k M R U)(eJ:SameR k J (R++U))(p1:PkI k n M R E1 V1 R.length)(p2:PkI k n M U E2 V2 U.length)(p3:PkI k n J (La.unitM k n) E3 V3 n):Quad k n R U M E1 E2 E3:=by
 obtain⟨s1,l1⟩:=QU hk rR (fun F _ φ v h=>((met F φ v).mp h).1) p1;obtain⟨s2,l2⟩:=QU hk rU (fun F _ φ v h=>((met F φ v).mp h).2) p2;have lU:=(La.yy hk n).2;have oU:=(La.yy hk n).1;have ok:∀ {W:List (List Nb)},RdR k n W->La.OkM k n W:=fun⟨_,h⟩=>(yg hk h).1
 have p3':PkI k n J (La.unitM k n) E3 V3 (La.unitM k n).length:=by rw [lU]; exact p3
 obtain⟨s3,l3⟩:=QU hk (M:=J) ⟨_,fun F _ φ=>La.ZX φ hk n⟩ (fun F _ φ v h=>zbP hk φ v fun j hj=>La.zgj (ok rJ) h hj) p3';have d:=dims hk rR rU rJ rM (fun F _ φ v=>(eJ F φ v).trans La.Rm.app) met;refine⟨fun r hr=>?_,by omega,s1,s2,fun F _ φ p hp=>?_⟩
 ·rcases wq.mp hr with h | h
  ·rcases wq.mp h with h | h
   ·rcases wq.mp h with h | h
    ·exact ok rM r h
    ·exact ok rR r (p1.sub r h)
   ·exact ok rU r (p2.sub r h)
  ·exact oU r (p3.sub r h)
 ·have h0:La.Rm φ (La.unitM k n) (La.unitF p 1):=zbP hk φ _ fun j hj=>by unfold La.unitF; rw [if_neg (by omega)]
  obtain⟨a,b,ha,hb,e⟩:=La.Rm.app.mp ((s3 F φ _).mp h0);obtain⟨c,d,hc,hd,e'⟩:=La.Rm.app.mp ((eJ F φ _).mp ha);have h1:La.Rm φ (M++E1++E2++E3) c:=La.qS (fun r hr=>wE _ (wE _ hr)) ((s1 F φ c).mp hc);have h2:La.Rm φ (M++E1++E2++E3) d:=La.qS (fun r hr=>by
   rcases wq.mp hr with h | h
   ·exact wE _ (wE _ (wE _ h))
   ·exact wE _ (wy _ h)) ((s2 F φ d).mp hd)
  have h3:La.Rm φ (M++E1++E2++E3) b:=La.qS (fun r hr=>wy _ hr) hb;exact((h1.add h2).add h3).cast fun j=>by rw [e j,e' j]
end
end L2
namespace L2
open PySem PySem.Spec PyProof.Rows Nm
section
variable{k:Int}{n:Nat}
noncomputable def plc(a b c d:Nat):List Int:=wD a 0++wD b 1++wD c 2++wD d 3
theorem Jz(a b c d:Nat):(plc a b c d).length=a+b+c+d:=by unfold plc; simp only [wx,wQ]
theorem Jx{a b c d i:Nat}{p:Int}(h:(plc a b c d)[i]?=some p):(p=0/\i<a)\/(p=1/\a<=i/\i<a+b)\/(p=2/\a+b<=i/\i<a+b+c)\/(p=3/\a+b+c<=i/\i<a+b+c+d):=by
 unfold plc at h;rw [vd,vd,vd] at h;simp only [wx,wQ,ul] at h
 grind
theorem plc_at{a b c d i:Nat}:(i<a->(plc a b c d)[i]?=some 0)/\(a<=i->i<a+b->(plc a b c d)[i]?=some 1)/\(a+b<=i->i<a+b+c->(plc a b c d)[i]?=some 2):=by
 unfold plc;rw [vd,vd,vd];simp only [wx,wQ,ul]
 grind
theorem zcK{M E1 E2 E3:List (List Nb)}{i:Nat}{r:List Nb}(h:(M++E1++E2++E3)[i]?=some r):(i<M.length->r∈M)/\(M.length<=i->i<M.length+E1.length->r∈E1)/\(M.length+E1.length<=i->i<M.length+E1.length+E2.length->r∈E2):=by
 rw [vd,vd,vd] at h;simp only [wx] at h;refine⟨fun h1=>?_,fun h1 h2=>?_,fun h1 h2=>?_⟩
 ·rw [if_pos (by omega),if_pos (by omega),if_pos h1] at h; exact wc h
 ·rw [if_pos (by omega),if_pos (by omega),if_neg (by omega)] at h; exact wc h
 ·rw [if_pos (by omega),if_neg (by omega)] at h; exact wc h
theorem qC{M E1 E2 E3:List (List Nb)}{r:List Nb}:(r∈M->∃ i,i<M.length/\(M++E1++E2++E3)[i]?=some r)/\(r∈E1->∃ i,M.length<=i/\i<M.length+E1.length/\(M++E1++E2++E3)[i]?=some r)/\(r∈E2->∃ i,M.length+E1.length<=i/\i<M.length+E1.length+E2.length/\(M++E1++E2++E3)[i]?=some r):=by
 refine⟨fun h=>?_,fun h=>?_,fun h=>?_⟩
 ·obtain⟨i,hi,e⟩:=wI h;refine⟨i,hi,?_⟩;rw [vd,vd,vd];simp only [wx];rw [if_pos (by omega),if_pos (by omega),if_pos hi,wb hi,e]
 ·obtain⟨i,hi,e⟩:=wI h;refine⟨M.length+i,by omega,by omega,?_⟩;rw [vd,vd,vd];simp only [wx];rw [if_pos (by omega),if_pos (by omega),if_neg (by omega),uV,wb hi,e]
 ·obtain⟨i,hi,e⟩:=wI h;refine⟨M.length+E1.length+i,by omega,by omega,?_⟩;rw [vd,vd];simp only [wx];rw [if_pos (by omega),if_neg (by omega),uV,wb hi,e]
structure PlF(k:Int)(n:Nat)(R U X S:List (List Nb))(P:List Int):Prop where
 len:P.length=n
 rng:∀ p∈P,p=0\/p=1\/p=2\/p=3
 inR:∀(i:Nat)(p:Int)(r:List Nb),P[i]?=some p->p<2->X[i]?=some r->∀(F:Type) [Lean.Grind.Field F] (φ:La.Kf k F),La.Rm φ R (La.nv φ r)
 inU:∀(i:Nat)(p:Int)(r:List Nb),P[i]?=some p->(p=0\/p=2)->X[i]?=some r->∀(F:Type) [Lean.Grind.Field F] (φ:La.Kf k F),La.Rm φ U (La.nv φ r)
 offR:∀(i:Nat)(p:Int)(s:List Nb),P[i]?=some p->1<p->S[i]?=some s->∀(F:Type) [Lean.Grind.Field F] (φ:La.Kf k F) (v:Nat->F),La.Rm φ R v->La.dot n (La.nv φ s) v=0
 offU:∀(i:Nat)(p:Int)(s:List Nb),P[i]?=some p->(p=1\/p=3)->S[i]?=some s->∀(F:Type) [Lean.Grind.Field F] (φ:La.Kf k F) (v:Nat->F),La.Rm φ U v->La.dot n (La.nv φ s) v=0
 spR:∀ Y:List (List Nb),(∀(i:Nat)(p:Int)(r:List Nb),P[i]?=some p->p<2->X[i]?=some r->r∈Y)->∀(F:Type) [Lean.Grind.Field F] (φ:La.Kf k F) (v:Nat->F),La.Rm φ R v->La.Rm φ Y v
 spU:∀ Y:List (List Nb),(∀(i:Nat)(p:Int)(r:List Nb),P[i]?=some p->(p=0\/p=2)->X[i]?=some r->r∈Y)->∀(F:Type) [Lean.Grind.Field F] (φ:La.Kf k F) (v:Nat->F),La.Rm φ U v->La.Rm φ Y v
theorem Xu{X S:List (List Nb)}(oX:La.OkM k n X)(lX:X.length=n)(lS:S.length=n)(pr:La.PairU k n S (transp n X)){i q:Nat}{s r:List Nb}(hs:S[i]?=some s)(hr:X[q]?=some r)(ne:i≠q){F:Type}[Lean.Grind.Field F](φ:La.Kf k F):La.dot n (La.nv φ s) (La.nv φ r)=0:=by
 have hi:i<n:=by rw [← lS]; exact(wo.mp hs).1
 have hq:q<n:=by rw [← lX]; exact(wo.mp hr).1
 have h:=pr F φ i q hi hq;rw [if_neg ne] at h;have e1:S.getD i []=s:=by rw [we,hs]; rfl
 have e2:X.getD q []=r:=by rw [we,hr]; rfl
 rw [← h];refine La.yc fun l hl=>?_
 show _=La.nv φ (S.getD i []) l*La.nv φ ((La.trF n X).getD l []) q;rw [e1];rw [La.ZQ oX hl,e2]
theorem zjA{R U M E1 E2 E3 S:List (List Nb)}(Qd:Quad k n R U M E1 E2 E3)(lS:S.length=n)(pr:La.PairU k n S (transp n (M++E1++E2++E3))):PlF k n R U (M++E1++E2++E3) S (plc M.length E1.length E2.length E3.length):=by
 have lX:(M++E1++E2++E3).length=n:=by rw [wx,wx,wx]; exact Qd.len
 refine⟨by rw [Jz]; exact Qd.len,fun p hp=>?_,fun i p r hp p2 hr F _ φ=>?_,fun i p r hp p2 hr F _ φ=>?_,fun i p s hp p2 hs F _ φ v hv=>?_,fun i p s hp p2 hs F _ φ v hv=>?_,fun Y hY F _ φ v hv=>?_,fun Y hY F _ φ v hv=>?_⟩
 ·obtain⟨i,hi,e⟩:=wI hp;have:=Jx (a:=M.length) (b:=E1.length) (c:=E2.length) (d:=E3.length) (i:=i) (p:=p) (by rw [wb hi,e]);omega
 ·refine(Qd.r F φ _).mpr (.of ⟨r,?_,rfl⟩);have g:=Jx hp;have f:=zcK hr
  rcases wN i M.length with h | h
  ·exact wE _ (f.1 h)
  ·exact wy _ (f.2.1 h (by omega))
 ·refine(Qd.u F φ _).mpr (.of ⟨r,?_,rfl⟩);have g:=Jx hp;have f:=zcK hr
  rcases wN i M.length with h | h
  ·exact wE _ (f.1 h)
  ·exact wy _ (f.2.2 (by omega) (by omega))
 ·have g:=Jx hp;refine La.Span.dot_zero_r ((Qd.r F φ v).mp hv) fun u ⟨r,hr,e⟩=>?_
  rw [e]
  rcases wq.mp hr with h | h
  ·obtain⟨q,hq,er⟩:=(qC (E1:=E1) (E2:=E2) (E3:=E3)).1 h;exact Xu Qd.ok lX lS pr hs er (by omega) φ
  ·obtain⟨q,hq,hq',er⟩:=(qC (M:=M) (E2:=E2) (E3:=E3)).2.1 h;exact Xu Qd.ok lX lS pr hs er (by omega) φ
 ·have g:=Jx hp;refine La.Span.dot_zero_r ((Qd.u F φ v).mp hv) fun u ⟨r,hr,e⟩=>?_
  rw [e]
  rcases wq.mp hr with h | h
  ·obtain⟨q,hq,er⟩:=(qC (E1:=E1) (E2:=E2) (E3:=E3)).1 h;exact Xu Qd.ok lX lS pr hs er (by omega) φ
  ·obtain⟨q,hq,hq',er⟩:=(qC (M:=M) (E1:=E1) (E3:=E3)).2.2 h;exact Xu Qd.ok lX lS pr hs er (by omega) φ
 ·refine La.qS (fun r hr=>?_) ((Qd.r F φ v).mp hv)
  rcases wq.mp hr with h | h
  ·obtain⟨q,hq,er⟩:=(qC (E1:=E1) (E2:=E2) (E3:=E3)).1 h;exact hY q 0 r (plc_at.1 hq) (by decide) er
  ·obtain⟨q,hq,hq',er⟩:=(qC (M:=M) (E2:=E2) (E3:=E3)).2.1 h;exact hY q 1 r (plc_at.2.1 hq hq') (by decide) er
 ·refine La.qS (fun r hr=>?_) ((Qd.u F φ v).mp hv)
  rcases wq.mp hr with h | h
  ·obtain⟨q,hq,er⟩:=(qC (E1:=E1) (E2:=E2) (E3:=E3)).1 h;exact hY q 0 r (plc_at.1 hq) (.inl rfl) er
  ·obtain⟨q,hq,hq',er⟩:=(qC (M:=M) (E1:=E1) (E3:=E3)).2.2 h;exact hY q 2 r (plc_at.2.2 hq hq') (.inr rfl) er
theorem Qo(hk:KindOk k){b z:Nat}{A B R:List (List Nb)}(n1:1<=n)(oA:La.OkM k n A)(lA:A.length=n)(oB:La.OkM k n B)(L:LeastOf k n A B R){F:Type}[Lean.Grind.Field F](φ:La.Kf k F){v:Nat->F}(hv:La.Rm φ R v):La.Rm φ R (La.limg φ n A v):=by
 have en:n - 1+1=n:=by omega
 have s:∀ v,La.Rm φ (La.kry k A B (n - 1+1)) v->La.Rm φ (La.kry k A B (n - 1)) v:=fun v h=>by
  rw [en] at h;exact La.QD hk oA lA oB n1 v h
 have h1:=s v (by rw [en]; exact(L.eq F φ v).mp hv);have h2:=La.qj hk oA lA oB (n - 1) _ (La.zd4 hk oA lA oB s h1);rw [en] at h2;exact(L.eq F φ _).mpr h2
theorem zbT(hk:KindOk k){A C L U:List (List Nb)}(n1:1<=n)(oA:La.OkM k n A)(lA:A.length=n)(oC:La.OkM k n C)(hL:LeastOf k n (transp n A) C L)(pU:PerpOf k n U L){F:Type}[Lean.Grind.Field F](φ:La.Kf k F){v:Nat->F}(hv:La.Rm φ U v):La.Rm φ U (La.limg φ n A v):=by
 obtain⟨z,h⟩:=(pU F φ v).mp hv;have oT:La.OkM k n (transp n A):=by have:=yG oA; rw [lA] at this; exact this
 refine(pU F φ _).mpr ⟨fun j hj=>?_,fun u hu=>?_⟩
 ·unfold La.limg;refine La.dot_zero n _ _ fun i _=>?_
  rw [we,wJ (by omega)];have:La.nv φ ((none:Option (List Nb)).getD []) i=0:=La.JC i;rw [this]; grind
 ·rw [← La.zdH oA lA u v];exact h _ (Qo hk (b:=0) (z:=0) n1 oT (zV n A) oC hL φ hu)
theorem QM(hk:KindOk k){x:Nb}(ox:x.ok k)(h:∀(F:Type) [Lean.Grind.Field F] (φ:La.Kf k F),φ.to x=0):x=nnum k 0:=by
 obtain⟨F,_,_,⟨φ⟩⟩:=La.yf hk;exact φ.inj ox (La.zU hk 0) (by rw [h F φ,φ.num0])
noncomputable def letsB(p q:Int):Bool:=if p=1 then decide (q=1) || decide (q=3)else if p=2 then decide (1<q)else decide (p=0) || decide (q=3)
structure Part(k:Int)(n h:Nat)(A B C R L U:List (List Nb)):Prop where
 n1:1<=n
 oA:La.OkM k n A
 lA:A.length=n
 oB:La.OkM k h B
 lB:B.length=n
 oC:La.OkM k n C
 r:LeastOf k n A (transp h B) R
 l:LeastOf k n (transp n A) C L
 u:PerpOf k n U L
section
variable(hk:KindOk k){h:Nat}{A B C R L U X S:List (List Nb)}{P:List Int}(Pt:Part k n h A B C R L U)(Pl:PlF k n R U X S P)(oX:La.OkM k n X)(lX:X.length=n)(oS:La.OkM k n S)(lS:S.length=n)
include hk Pt Pl oX lX oS lS
theorem zdz{i j:Nat}{p q:Int}{r:List Nb}{x:Nb}(hp:P[i]?=some p)(hq:P[j]?=some q)(nl:letsB p q=false)(hr:(prodM k n (prodM k n S A) (transp n X))[i]?=some r)(hx:r[j]?=some x):x=nnum k 0:=by
 have oT:La.OkM k n (transp n X):=by have:=yG oX; rw [lX] at this; exact this
 have e0:prodM k n (prodM k n S A) (transp n X)=prodM k n S (prodM k n A (transp n X)):=La.zdD hk oS Pt.oA Pt.lA oT (zV n X);have e1:transp n (prodM k n A (transp n X))=X.map (imgM k A):=by
  have:=La.zdq (k:=k) (d:=n) (N:=A) (P:=transp n X);have tt:=qt oX;rw [lX] at tt;refine Eq.trans this ?_;show(transp n (transp n X)).map _=_;rw [tt]; rfl
 obtain⟨s,hs⟩ : ∃ s,S[i]?=some s:=by
  have hi:i<n:=by rw [← Pl.len]; exact(wo.mp hp).1
  exact⟨S[i]'(by omega),wb (by omega)⟩
 obtain⟨y,hy⟩ : ∃ y,X[j]?=some y:=by
  have hj:j<n:=by rw [← Pl.len]; exact(wo.mp hq).1
  exact⟨X[j]'(by omega),wb (by omega)⟩
 have os:=oS s (wc hs);have oy:=oX y (wc hy);have er:r =(X.map (imgM k A)).map fun c=>La.ndot k s c:=by
  rw [e0] at hr;unfold prodM at hr;rw [wg,hs] at hr;have:=Option.some.inj hr;rw [← this];show war _ (transp n (prodM k n A (transp n X)))=_;rw [e1]
 have ex:x=La.ndot k s (imgM k A y):=by
  rw [er,vV,wg,hy] at hx;exact(Option.some.inj hx).symm
 have oi:(imgM k A y).length=A.length/\La.OkR k (imgM k A y):=La.Yt hk Pt.oA oy.2;rw [ex];refine QM hk (La.xv hk os.2 oi.2) fun F _ φ=>?_
 have li:s.length =(imgM k A y).length:=by rw [os.1]; exact(oi.1.trans Pt.lA).symm
 rw [La.xU φ hk os.2 oi.2 li,os.1];have en:La.nv φ (imgM k A y)=La.limg φ n A (La.nv φ y):=funext fun i=>La.zbx hk Pt.oA oy.2 oy.1 i
 show La.dot n (La.nv φ s) (La.nv φ (imgM k A y))=0;rw [en];have rp:=Pl.rng p (wc hp);have rq:=Pl.rng q (wc hq);have oT2:La.OkM k n (transp h B):=by have:=yG Pt.oB; rw [Pt.lB] at this; exact this
 have vR:q<2->La.Rm φ R (La.limg φ n A (La.nv φ y)):=fun hq2=>Qo hk (b:=0) (z:=0) Pt.n1 Pt.oA Pt.lA oT2 Pt.r φ (Pl.inR j q y hq hq2 hy F φ)
 have vU:(q=0\/q=2)->La.Rm φ U (La.limg φ n A (La.nv φ y)):=fun hq2=>zbT hk Pt.n1 Pt.oA Pt.lA Pt.oC Pt.l Pt.u φ (Pl.inU j q y hq hq2 hy F φ)
 rcases rp with e | e | e | e
 ·subst e; exact absurd nl (by unfold letsB; simp)
 ·subst e;refine Pl.offU i 1 s hp (.inl rfl) hs F φ _ (vU ?_);unfold letsB at nl;rw [if_pos rfl] at nl;have:=waj.mp nl;have h1:=of_decide_eq_false this.1;have h2:=of_decide_eq_false this.2;omega
 ·subst e;refine Pl.offR i 2 s hp (by decide) hs F φ _ (vR ?_);unfold letsB at nl;rw [if_neg (by decide),if_pos rfl] at nl;have h1:=of_decide_eq_false nl;omega
 ·subst e;unfold letsB at nl;rw [if_neg (by decide),if_neg (by decide)] at nl;have h1:=of_decide_eq_false (waj.mp nl).2
  by_cases q2:q<2
  ·exact Pl.offR i 3 s hp (by decide) hs F φ _ (vR q2)
  ·exact Pl.offU i 3 s hp (.inr rfl) hs F φ _ (vU (by omega))
theorem zbM{i:Nat}{p:Int}{r:List Nb}{x:Nb}(hp:P[i]?=some p)(p1:1<p)(hr:(prodM k h S B)[i]?=some r)(hx:x∈r):x=nnum k 0:=by
 obtain⟨s,hs⟩ : ∃ s,S[i]?=some s:=by
  have hi:i<n:=by rw [← Pl.len]; exact(wo.mp hp).1
  exact⟨S[i]'(by omega),wb (by omega)⟩
 have os:=oS s (wc hs);unfold prodM at hr;rw [wg,hs] at hr;have er:=Option.some.inj hr;rw [← er] at hx;obtain⟨c,hc,rfl⟩:=wj.mp hx;have oT:La.OkM k n (transp h B):=by have:=yG Pt.oB; rw [Pt.lB] at this; exact this
 have oc:=oT c hc;refine QM hk (La.xv hk os.2 oc.2) fun F _ φ=>?_
 rw [La.xU φ hk os.2 oc.2 (by rw [os.1,oc.1]),os.1];refine Pl.offR i p s hp p1 hs F φ _ ((Pt.r.eq F φ _).mpr ?_);have:=La.zba hk Pt.oA Pt.lA oT 0 n (La.nv φ c) (.of ⟨c,hc,rfl⟩);rw [Gk] at this;exact this
theorem Qw{i:Nat}{p:Int}{r:List Nb}{x:Nb}(hp:P[i]?=some p)(p0:p=0\/p=2)(hr:r∈prodM k n C (transp n X))(hx:r[i]?=some x):x=nnum k 0:=by
 obtain⟨y,hy⟩ : ∃ y,X[i]?=some y:=by
  have hi:i<n:=by rw [← Pl.len]; exact(wo.mp hp).1
  exact⟨X[i]'(by omega),wb (by omega)⟩
 have oy:=oX y (wc hy);unfold prodM at hr;obtain⟨c,hc,er⟩:=wj.mp hr;have oc:=Pt.oC c hc;have tt:=qt oX;rw [lX] at tt;rw [← er,tt,wg,hy] at hx;have ex:=(Option.some.inj hx).symm;rw [ex];refine QM hk (La.xv hk oc.2 oy.2) fun F _ φ=>?_
 rw [La.xU φ hk oc.2 oy.2 (by rw [oc.1,oy.1]),oc.1];have oT:La.OkM k n (transp n A):=by have:=yG Pt.oA; rw [Pt.lA] at this; exact this
 have hL:La.Rm φ L (La.nv φ c):=by
  have:=La.zba hk oT (zV n A) Pt.oC 0 n (La.nv φ c) (.of ⟨c,hc,rfl⟩);rw [Gk] at this;exact(Pt.l.eq F φ _).mpr this
 exact((Pt.u F φ _).mp (Pl.inU i p y hp p0 hy F φ)).2 _ hL
end
end
end L2
namespace KL
open PySem PySem.Spec PyProof.Rows L2 Nm
set_option maxHeartbeats 4000000
theorem hide{G:Prop}(h:∀ G':Prop,(G->G')->G'):G:=h G id
theorem ziZ (K:PySem.W.Frag):PySem.W.kitOne K (.type "int") (.type "int")=some true:=by unfold PySem.W.kitOne; rw [if_pos (by decide)]
theorem zjz (K:PySem.W.Frag):PySem.W.kitOne K (.type "int") (.type "bool")=some false:=by
 unfold PySem.W.kitOne;rw [if_neg (by decide)];show(if PySem.W.kitMeta "bool" = true then PySem.W.subIn K (.type "int") (.type "bool")else none)=some false;rw [if_pos (by decide +kernel)];show(PySem.fastBuiltinMro "int").map (·.contains (Value.type "bool"))=some false
 decide +kernel
theorem zfn (K:PySem.W.Frag):PySem.W.kitOne K (.type "tuple") (.type "tuple")=some true:=by unfold PySem.W.kitOne; rw [if_pos (by decide)]
section
variable{P:Program}{w:World}{K:PySem.W.Frag}{mg:Str->Option Value}{base:Heap}
theorem xl{a b:Int}(h0:0<=a)(h1:a<=2305843009213693952):IntMulOk a b:=IntMulOk.of_left (intBits_le_64 (by omega) (by omega))
noncomputable def zct:Sp:=fun vs H Q _=>∃(a b:Int),vs=[.int a,.int b]/\Q (.int ((ve a b:Nat):Int)) H
theorem zgl(i:Int):(if i<0 then -i else i) =(i.natAbs:Int):=by split <;> omega
theorem zjU (D:Df K mg "common_divisor" ["one", "other"] xb) (m_abs:mg "abs" = none):Kn P w K mg base "common_divisor" 1 ["one", "other"] zct:=by
 refine D.kn sc_common_divisor (fun vs H Q E h=>?_) (fun f cdv A outer s H vs Q E hr h=>?_)
 ·obtain⟨a,b,rfl,_⟩:=h; rfl
 obtain⟨a,b,rfl,q⟩:=h;refine⟨_,(zc (zm (i:=2) sc_common_divisor.nd rfl (.inl rfl) (zE QG rfl m_abs zfH (za (pv 0) zd))) (zc (zm (i:=3) sc_common_divisor.nd rfl (.inl rfl) (zE QG rfl m_abs zfH (za (pv 1) zd))) (zc (qp PassesOwn.never (zD Xh (pv 3) ze (nomark _)) (zc (zm (i:=4) sc_common_divisor.nd rfl (.inl rfl) (zq zQ (pv 2) (pv 3))) (zc (zm (i:=2) sc_common_divisor.nd rfl (.inl rfl) (pv 3)) (zg (zm (i:=3) sc_common_divisor.nd rfl (.inl rfl) (pv 4)))))) (zg (zp (pv 2)))))),?_⟩;refine⟨_,rfl,a,rfl,_,rfl,b,rfl,?_⟩;rw [zgl,zgl];refine⟨fun m σ H'=>∃ l r o,σ=[some (.int a),some (.int b),some (.int l),some (.int r),o]/\H'=H/\0<=l/\0<=r/\ve l r=ve a b/\m=r.toNat,⟨_,_,_,none,rfl,rfl,uJ _,uJ _,by simp [uE],rfl⟩,?_⟩
 rintro m σ H' ⟨l,r,o,rfl,rfl,l0,r0,g,rfl⟩
 refine⟨_,rfl,rfl,_,rfl,?_⟩;refine ite2 (fun c=>?_) (fun c=>?_)
 ·have c':r≠0:=fun z=>by rw [z] at c; exact absurd c (by decide)
  have m0:=wG l (show 0<r by omega);have m1:=wL l (show 0<r by omega);refine⟨_,fun _ _ h=>h,?_⟩;exact⟨_,rfl,_,rfl,_,_,rfl,rfl,c',_,rfl,_,rfl,_,by omega,r,l.fmod r,_,rfl,rfl,r0,m0,(zdn l r).trans g,rfl⟩
 ·have c':r=0:=by
   rcases gk 0 r with h | h
   ·exact absurd (by have h':¬ V.int r=V.int 0:=fun z=>(by have:=V.int.inj z; omega); rw [decide_eq_false h']; rfl) c
   ·omega
  subst c';refine⟨_,rfl,?_⟩;have e:l =((ve a b:Nat):Int):=by rw [← g,waw]; omega
  show Q (.int l) H';rw [e]; exact q
noncomputable def Zz:Sp:=fun vs H Q _=>∃(t b:Int),vs=[.int t,.int b]/\b≠0/\∀ v H',Same H H'->RN H' (.q (vF t b)) v->Q v H'
theorem zcB (hP:P.given.tree=none) (hS:base.NoSeer) (D:Df K mg "fraction" ["top", "bottom"] Zl) (yH:Kn P w K mg base "common_divisor" 1 ["one", "other"] zct):Kn P w K mg base "fraction" 41 ["top", "bottom"] Zz:=by
 refine D.kn sc_fraction (fun vs H Q E h=>?_) (fun f cdv A outer s H vs Q E hr h=>?_)
 ·obtain⟨a,b,rfl,_⟩:=h; rfl
 obtain⟨t,b,rfl,hb,q⟩:=h;refine⟨_,(zc (zm (i:=2) sc_fraction.nd rfl (.inl rfl) (zt yH (hr.mono (by decide)) rfl (za (pv 0) (za (pv 1) zd)))) (zc (yj (zD zfG (pv 1) ze (nomark _)) (zg (zm (i:=2) sc_fraction.nd rfl (.inl rfl) (ziI zfk (pv 2)))) zK) (zg (zp (xP (za (zq (ya hr (by decide) hP hS ⟨_,_,rfl,rfl,rfl,rfl,rfl⟩) (pv 0) (pv 2)) (za (zq (ya hr (by decide) hP hS ⟨_,_,rfl,rfl,rfl,rfl,rfl⟩) (pv 1) (pv 2)) zd))))))),?_⟩;obtain⟨e1,e2⟩:=Xo (t:=t) hb;have cd:sg t b≠0:=zgb hb;have fin:∀ p,H p=none->Q (.ref p) (upd H p (.tup [.int (t.fdiv (sg t b)),.int (b.fdiv (sg t b))])):=fun p hp=>by
  rw [e1,e2];exact q _ _ (zf hp _) (RN.of_q zh)
 refine⟨_,rfl,_,rfl,t,b,rfl,?_⟩;refine⟨_,rfl,_,_,rfl,rfl,_,rfl,?_⟩;refine ite2 (fun c=>?_) (fun c=>?_)
 ·have c':b<0:=of_decide_eq_true c;have e:sg t b = -((ve t b:Nat):Int):=by unfold sg; rw [if_pos c']
  rw [e] at cd fin;exact⟨_,rfl,_,rfl,_,rfl,_,rfl,_,_,rfl,rfl,cd,_,rfl,_,rfl,_,_,rfl,rfl,cd,(by show 2<=sizeLine; decide),fin⟩
 ·have c':¬ b<0:=of_decide_eq_false (uA.mpr c);have e:sg t b =((ve t b:Nat):Int):=by unfold sg; rw [if_neg c']
  rw [e] at cd fin;exact⟨_,rfl,_,rfl,_,_,rfl,rfl,cd,_,rfl,_,rfl,_,_,rfl,rfl,cd,(by show 2<=sizeLine; decide),fin⟩
noncomputable def XA:Sp:=fun vs H Q _=>∃(p r:Int),vs=[.int p,.int r]/\Pr p/\0<r/\r<p/\∀ x,0<=x->x<p->p ∣ x*r - 1->Q (.int x) H
theorem zcq (hP:P.given.tree=none) (hS:base.NoSeer) (D:Df K mg "one_over" ["prime", "rest"] qZ):Kn P w K mg base "one_over" 41 ["prime", "rest"] XA:=by
 refine D.kn sc_one_over (fun vs H Q E h=>?_) (fun f cdv A outer s H vs Q E hr h=>?_)
 ·obtain⟨a,b,rfl,_⟩:=h; rfl
 obtain⟨p,r,rfl,hp,r0,rp,q⟩:=h;refine⟨_,(zc (zm (i:=2) sc_one_over.nd rfl (.inl rfl) (pv 0)) (zc (zm (i:=3) sc_one_over.nd rfl (.inl rfl) (pv 1)) (zc (zm (i:=4) sc_one_over.nd rfl (.inl rfl) ze) (zc (zm (i:=5) sc_one_over.nd rfl (.inl rfl) ze) (zc (qp PassesOwn.never (zD Xh (pv 3) ze (nomark _)) (zc (zm (i:=6) sc_one_over.nd rfl (.inl rfl) (zq (ya hr (by decide) hP hS ⟨_,_,rfl,rfl,rfl,rfl,rfl⟩) (pv 2) (pv 3))) (zc (zm (i:=7) sc_one_over.nd rfl (.inl rfl) (zq qA (pv 2) (zq zX (pv 6) (pv 3)))) (zc (zm (i:=8) sc_one_over.nd rfl (.inl rfl) (zq qA (pv 4) (zq zX (pv 6) (pv 5)))) (zc (zm (i:=2) sc_one_over.nd rfl (.inl rfl) (pv 3)) (zc (zm (i:=4) sc_one_over.nd rfl (.inl rfl) (pv 5)) (zc (zm (i:=3) sc_one_over.nd rfl (.inl rfl) (pv 7)) (zg (zm (i:=5) sc_one_over.nd rfl (.inl rfl) (pv 8)))))))))) (zg (zp (zq zQ (pv 4) (pv 0))))))))),?_⟩;have p0:0<p:=by have:=hp.lo; omega
 refine⟨_,rfl,_,rfl,?_⟩;refine⟨fun m σ H'=>∃ l g ml mg o1 o2 o3,σ=[some (.int p),some (.int r),some (.int l),some (.int g),some (.int ml),some (.int mg),o1,o2,o3]/\H'=H/\OvInv p r l g ml mg/\m=g.toNat,⟨_,_,_,_,_,none,none,none,rfl,rfl,zcI hp r0 rp,rfl⟩,?_⟩
 rintro m σ H' ⟨l,g,ml,mg,o1,o2,o3,rfl,rfl,inv,rfl⟩
 have l0:=inv.l0;have l1:=inv.l1;have g0:=inv.g0;have g1:=inv.g1;refine⟨_,rfl,rfl,_,rfl,?_⟩;refine ite2 (fun c=>?_) (fun c=>?_)
 ·have c':g≠0:=fun z=>by rw [z] at c; exact absurd c (by decide)
  have ed:l.fdiv g=l / g:=Gu l g0;have d0:0<=l.fdiv g:=by rw [ed]; exact waO l0 g0
  have d1:l.fdiv g<=l:=by rw [ed]; exact Int.ediv_le_self g l0
  have tn:=zge inv c';have tm:=zfq (l:=l) g0 c';rw [← ed] at tn tm;refine⟨_,fun _ _ h=>h,?_⟩;refine⟨_,rfl,_,rfl,_,_,rfl,rfl,c',?_⟩;refine⟨_,rfl,_,rfl,_,rfl,_,_,rfl,rfl,xl d0 (by omega),_,_,rfl,rfl,_,rfl,_,rfl,_,rfl,_,_,rfl,rfl,xl d0 (by omega),_,_,rfl,rfl,_,rfl,_,rfl,_,rfl,_,rfl,_,tm,g,_,mg,_,_,_,_,rfl,rfl,tn,rfl⟩
 ·have c':g=0:=by
   rcases gk 0 g with h | h
   ·exact absurd (by have h':¬ V.int g=V.int 0:=fun z=>(by have:=V.int.inj z; omega); rw [decide_eq_false h']; rfl) c
   ·omega
  subst c';refine⟨_,rfl,_,rfl,_,_,rfl,rfl,(show p≠0 by omega),?_⟩;have em:ml.fmod p=ml % p:=uL ml (by omega);show Q (.int (ml.fmod p)) H';rw [em];exact q _ (gB _ (by omega)) (uX _ p0) (zhS inv p0)
noncomputable def jp:Sp:=fun vs H Q _=>∃(k w:Int),vs=[.int k,.int w]/\∀ v H',Same H H'->RN H' (nnum k w) v->Q v H'
theorem ze5 (D:Df K mg "number" ["kind", "whole"] Xi):Kn P w K mg base "number" 1 ["kind", "whole"] jp:=by
 refine D.kn zfy (fun vs H Q E h=>?_) (fun f cdv A outer s H vs Q E hr h=>?_)
 ·obtain⟨k,w,rfl,_⟩:=h; rfl
 obtain⟨k,w,rfl,q⟩:=h;refine⟨_,(zc (yj (zD yI (pv 0) ze (nomark _)) (zg (zp (xP (za (pv 1) (za ze zd))))) zK) (zg (zp (zq zQ (pv 1) (pv 0))))),?_⟩;refine⟨_,rfl,rfl,_,rfl,?_⟩;refine ite2 (fun c=>?_) (fun c=>?_)
 ·have e:k=0:=V.int.inj (of_decide_eq_true c);subst e;refine⟨_,rfl,(by show 2<=sizeLine; decide),fun p hp=>?_⟩;refine q _ _ (zf hp _) ?_;show RN _ (.q (w:Rat)) _;exact RN.of_q zh
 ·have c':¬ V.int k=V.int 0:=of_decide_eq_false (uA.mpr c);have e:k≠0:=fun z=>c' (by rw [z])
  refine⟨_,rfl,_,rfl,_,_,rfl,rfl,e,?_⟩;refine q _ _ (Same.refl H) ?_;unfold nnum;rw [if_neg e];exact RN.of_z
structure Two(H:Hp)(k:Int)(x y:Nb)(a b:V):Prop where
 kd:KindOk k
 xo:x.ok k
 yo:y.ok k
 xs:nsm 60000000 x
 ys:nsm 60000000 y
 xr:RN H x a
 yr:RN H y b
noncomputable def qV(f:Int->Nb->Nb->Nb):Sp:=fun vs H Q _=>∃(k:Int)(x y:Nb)(a b:V),vs=[.int k,a,b]/\Two H k x y a b/\∀ v H',Same H H'->RN H' (f k x y) v->Q v H'
theorem ZS{H:Hp}{k:Int}{x y:Nb}{a b:V}(T:Two H k x y a b) :
  (k=0/\∃ r s pa pb,x=.q r/\y=.q s/\a=.ref pa/\b=.ref pb/\H pa=some (.tup [.int r.num,.int (r.den:Int)])/\H pb=some (.tup [.int s.num,.int (s.den:Int)])/\Sm 60000000 r.num/\Sm 60000000 (r.den:Int)/\Sm 60000000 s.num/\Sm 60000000 (s.den:Int)) \/
  (k≠0/\Pr k/\∃ i j,x=.z i/\y=.z j/\a=.int i/\b=.int j/\0<=i/\i<k/\0<=j/\j<k):=by
 obtain⟨kd,xo,yo,xs,ys,xr,yr⟩:=T;cases x with
 | q r =>
  have k0:k=0:=xo;cases y with
  | q s =>
   obtain⟨pa,ea,ha⟩:=xr.q;obtain⟨pb,eb,hb⟩:=yr.q;exact .inl ⟨k0,r,s,pa,pb,rfl,rfl,ea,eb,ha,hb,xs.1,xs.2,ys.1,ys.2⟩
  | z j=>exact absurd k0 yo.1
 | z i =>
  cases y with
  | q s=>exact absurd (show k=0 from yo) xo.1
  | z j =>
   refine .inr ⟨xo.1,?_,i,j,rfl,rfl,xr.z,yr.z,xo.2.1,xo.2.2,yo.2.1,yo.2.2⟩
   rcases kd with h | h
   ·exact absurd h xo.1
   ·exact h
theorem xI{m n:Nat}{a b:Int}(ha:Sm m a)(hb:Sm n b)(h:m+n<=134217728:=by decide):IntMulOk a b:=ha.mulOk hb h
theorem zdU(r s:Rat):(r.den:Int) *(s.den:Int)≠0:=gC (jo r) (jo s)
noncomputable def zfg:Sp:=fun vs H Q _=>∃(k:Int)(x y:Nb)(a b:V),vs=[.int k,a,b]/\Two H k x y a b/\y≠nnum k 0/\∀ v H',Same H H'->RN H' (ndiv k x y) v->Q v H'
theorem zh8 (D:Df K mg "over" ["kind", "one", "other"] zc3) (YJ:Kn P w K mg base "fraction" 41 ["top", "bottom"] Zz) (yP:Kn P w K mg base "number" 1 ["kind", "whole"] jp) (zd9:Kn P w K mg base "one_over" 41 ["prime", "rest"] XA):Kn P w K mg base "over" 42 ["kind", "one", "other"] zfg:=by
 refine D.kn ziO (fun vs H Q E h=>?_) (fun f cdv A outer s H vs Q E hr h=>?_)
 ·obtain⟨k,x,y,a,b,rfl,_⟩:=h; rfl
 obtain⟨k,x,y,a,b,rfl,T,ne,q⟩:=h;refine⟨_,(zc (yj (zD (zhG hr) (pv 2) (zt yP (hr.mono (by decide)) rfl (za (pv 0) (za ze zd))) (nomark _)) (zg zdj) zK) (zc (yj (zD yI (pv 0) ze (nomark _)) (zg (zp (zt YJ (hr.mono (by decide)) rfl (za (zq zX (zG zJ (pv 1) ze (fun _ _=>rfl)) (zG zJ (pv 2) ze (fun _ _=>rfl))) (za (zq zX (zG zJ (pv 1) ze (fun _ _=>rfl)) (zG zJ (pv 2) ze (fun _ _=>rfl))) zd))))) zK) (zg (zp (zq zQ (zq zX (pv 1) (zt zd9 (hr.mono (by decide)) rfl (za (pv 0) (za (pv 2) zd)))) (pv 0)))))),?_⟩;refine⟨_,rfl,_,rfl,k,0,rfl,fun v0 H0 g0 r0=>?_⟩;refine⟨toD y,toD (nnum k 0),T.yr.mono g0,r0,yN _,yN _,wF (vD _ _) (wF (xt y) (by decide)),_,rfl,?_⟩;show if PyData.eqv (toD y) (toD (nnum k 0))=true then _ else _
 rw [jH,decide_eq_false ne];refine iteF ?_
 rcases ZS T with⟨rfl,r,s,pa,pb,rfl,rfl,rfl,rfl,ha,hb,rn,rd,sn,sd⟩ | ⟨k0,hp,i,j,rfl,rfl,rfl,rfl,i0,ik,j0,jk⟩
 ·have ha':=g0 _ _ ha;have hb':=g0 _ _ hb;have s0:s≠0:=fun z=>ne (by rw [z]; rfl)
  refine⟨_,rfl,rfl,_,rfl,iteT ?_⟩;refine⟨_,rfl,pa,_,_,_,rfl,rfl,SqT.of ha',rfl,_,rfl,pb,_,_,_,rfl,rfl,SqT.of hb',rfl,_,_,rfl,rfl,xI rn sd,_,rfl,pa,_,_,_,rfl,rfl,SqT.of ha',rfl,_,rfl,pb,_,_,_,rfl,rfl,SqT.of hb',rfl,_,_,rfl,rfl,xI rd sn,_,_,rfl,gC (jo r) (zjl s0),fun v H' g h=>?_⟩;rw [zh6] at h;exact q v H' (g0.trans g) h
 ·have j1:j≠0:=fun z=>ne (by unfold nnum; rw [if_neg k0,z,wan])
  refine⟨_,rfl,rfl,_,rfl,?_⟩;rw [decide_eq_false (show ¬ V.int k=V.int 0 from fun z=>k0 (V.int.inj z))];refine iteF ?_;refine⟨_,rfl,_,rfl,_,rfl,k,j,rfl,hp,by omega,jk,fun x x0 xk hx=>?_⟩;refine⟨_,_,rfl,rfl,xl i0 (by have:=hp.hi; omega),_,rfl,_,_,rfl,rfl,k0,?_⟩;refine q _ _ g0 ?_;show RN _ (.z ((i*zinv k j).fmod k)) _;rw [zf7 x0 xk hx];exact RN.of_z
theorem zgD (D:Df K mg "minus" ["kind", "one", "other"] QW) (YJ:Kn P w K mg base "fraction" 41 ["top", "bottom"] Zz):Kn P w K mg base "minus" 42 ["kind", "one", "other"] (qV nsub):=by
 refine D.kn zgV (fun vs H Q E h=>?_) (fun f cdv A outer s H vs Q E hr h=>?_)
 ·obtain⟨k,x,y,a,b,rfl,_⟩:=h; rfl
 obtain⟨k,x,y,a,b,rfl,T,q⟩:=h;refine⟨_,(zc (yj (zD yI (pv 0) ze (nomark _)) (zg (zp (zt YJ (hr.mono (by decide)) rfl (za (zq qA (zq zX (zG zJ (pv 1) ze (fun _ _=>rfl)) (zG zJ (pv 2) ze (fun _ _=>rfl))) (zq zX (zG zJ (pv 2) ze (fun _ _=>rfl)) (zG zJ (pv 1) ze (fun _ _=>rfl)))) (za (zq zX (zG zJ (pv 1) ze (fun _ _=>rfl)) (zG zJ (pv 2) ze (fun _ _=>rfl))) zd))))) zK) (zg (zp (zq zQ (zq qA (pv 1) (pv 2)) (pv 0))))),?_⟩
 rcases ZS T with⟨rfl,r,s,pa,pb,rfl,rfl,rfl,rfl,ha,hb,rn,rd,sn,sd⟩ | ⟨k0,hp,i,j,rfl,rfl,rfl,rfl,i0,ik,j0,jk⟩
 ·refine⟨_,rfl,rfl,_,rfl,iteT ?_⟩;refine⟨_,rfl,pa,_,_,_,rfl,rfl,SqT.of ha,rfl,_,rfl,pb,_,_,_,rfl,rfl,SqT.of hb,rfl,_,_,rfl,rfl,xI rn sd,_,rfl,pb,_,_,_,rfl,rfl,SqT.of hb,rfl,_,rfl,pa,_,_,_,rfl,rfl,SqT.of ha,rfl,_,_,rfl,rfl,xI sn rd,_,_,rfl,rfl,_,rfl,pa,_,_,_,rfl,rfl,SqT.of ha,rfl,_,rfl,pb,_,_,_,rfl,rfl,SqT.of hb,rfl,_,_,rfl,rfl,xI rd sd,_,_,rfl,zdU r s,fun v H' g h=>?_⟩;rw [zeo] at h;exact q v H' g h
 ·refine⟨_,rfl,rfl,_,rfl,?_⟩;rw [decide_eq_false (show ¬ V.int k=V.int 0 from fun z=>k0 (V.int.inj z))];refine iteF ?_;refine⟨_,rfl,_,rfl,_,_,rfl,rfl,_,rfl,_,_,rfl,rfl,k0,?_⟩;exact q _ _ (Same.refl H) RN.of_z
theorem zjB (D:Df K mg "_law_divisor" ["_law_one", "_law_other"] xF) (m_abs:mg "abs" = none):Kn P w K mg base "_law_divisor" 1 ["_law_one", "_law_other"] zct:=by
 refine D.kn sc__law_divisor (fun vs H Q E h=>?_) (fun f cdv A outer s H vs Q E hr h=>?_)
 ·obtain⟨a,b,rfl,_⟩:=h; rfl
 obtain⟨a,b,rfl,q⟩:=h;refine⟨_,(zc (qp PassesOwn.never (zD Xh (pv 1) ze (nomark _)) (zg (zjE (i:=0) (j:=1) rfl sc__law_divisor.nd rfl rfl (by decide) rfl rfl (za (pv 1) (za (zq zQ (pv 0) (pv 1)) zd)) rfl))) (zg (zp (zE QG rfl m_abs zfH (za (pv 0) zd))))),?_⟩;refine⟨fun m σ H'=>∃ l r,σ=[some (.int l),some (.int r)]/\H'=H/\ve l r=ve a b/\m=r.natAbs,⟨_,_,_,rfl,rfl,rfl,rfl⟩,?_⟩
 rintro m σ H' ⟨l,r,rfl,rfl,g,rfl⟩
 refine⟨_,rfl,rfl,_,rfl,?_⟩;refine ite2 (fun c=>?_) (fun c=>?_)
 ·have c':r≠0:=fun z=>by rw [z] at c; exact absurd c (by decide)
  refine⟨_,fun _ _ h=>h,?_⟩;exact⟨_,rfl,_,rfl,_,rfl,_,_,rfl,rfl,c',_,_,rfl,_,zdA l c',r,l.fmod r,rfl,rfl,(zdn l r).trans g,rfl⟩
 ·have c':r=0:=by
   by_cases h:r=0
   ·exact h
   ·exact absurd (by have h':¬ V.int r=V.int 0:=fun z=>h (V.int.inj z); rw [decide_eq_false h']; rfl) c
  subst c';refine⟨_,rfl,l,rfl,?_⟩;have e:(if l<0 then -l else l) =((ve a b:Nat):Int):=by rw [zgl,← g,waw]
  show Q (.int (if l<0 then -l else l)) H';rw [e]; exact q
noncomputable def szM(m:Nat)(M:List (List Nb)):Prop:=∀ r∈M,∀ x∈r,nsm m x
noncomputable def Xy:Sp:=fun vs H Q _=>∃(k:Int)(xs:List Nb)(a:Addr)(B:Nat),vs=[.int k,.ref a]/\KindOk k/\RowAt H xs a/\La.OkR k xs/\La.rowB B xs/\61<=B/\B<=60000000/\xs.length<sizeLine /\
 ∀ p H',Same H H'->SclAt H' k B xs p->Q (.ref p) H'
theorem zfM (hP:P.given.tree=none) (hS:base.NoSeer) (D:Df K mg "scaled" ["kind", "row"] Xw) (yH:Kn P w K mg base "common_divisor" 1 ["one", "other"] zct) (xA:mg "list" = none):Kn P w K mg base "scaled" 41 ["kind", "row"] Xy:=by
 refine D.kn sc_scaled (fun vs H Q E h=>?_) (fun f cdv A outer s H vs Q E hr h=>?_)
 ·obtain⟨k,xs,a,B,rfl,_⟩:=h; rfl
 obtain⟨k,xs,a,B,rfl,hk,hrow,ok,⟨Dn,dn0,dn1,hD⟩,b7,b6,hlen,q⟩:=h;have kl:=hk.lt;have szl:sizeLine=16777216:=by decide
 obtain⟨vs,ha,hp,hvl⟩:=hrow.len;refine⟨_,(zc (yj (zD Xh (pv 0) ze (nomark _)) (zg (zp (xP (za (yX Zk rfl xA YH (za (pv 1) zd)) (za ze zd))))) zK) (zc (zm (i:=2) sc_scaled.nd rfl (.inr rfl) ze) (zc (yA PassesOwn.never rfl (zI (pv 1)) (zi (i:=3) sc_scaled.nd rfl (.inl rfl)) (zg (zm (i:=2) sc_scaled.nd rfl (.inr rfl) (zq zX (zq (ya hr (by decide) hP hS ⟨_,_,rfl,rfl,rfl,rfl,rfl⟩) (pv 2) (zt yH (hr.mono (by decide)) rfl (za (pv 2) (za (zG zJ (pv 3) ze (fun _ _=>rfl)) zd)))) (zG zJ (pv 3) ze (fun _ _=>rfl)))))) (zg (zp (xP (za (zN ["part"] ["bottom"] [2] ⟨rfl,rfl,rfl,rfl,rfl,rfl,by decide +kernel⟩ rfl (zI (pv 1)) (zj (by decide)) fun _ _ _ _ _ _=>⟨(zi (i:=0) (by decide:(["part", "bottom"]:List Str).Nodup) rfl (by first | exact Or.inl rfl | exact Or.inr rfl)),zL,(zq zX (zG zJ (pv 0) ze (fun _ _=>rfl)) (zq (ya hr (by decide) hP hS ⟨_,_,rfl,rfl,rfl,rfl,rfl⟩) (pv 1) (zG zJ (pv 0) ze (fun _ _=>rfl))))⟩) (za (pv 2) zd)))))))),?_⟩;refine⟨_,rfl,rfl,_,rfl,?_⟩;refine ite2 (fun c=>?_) (fun c=>?_)
 ·have k0:k≠0:=fun z=>by rw [z] at c; exact absurd c (by decide)
  obtain⟨is,rfl,rfl⟩:=zbC k0 ok hp;refine⟨_,rfl,a,_,rfl,.inl (SqL.of ha),fun l hl=>⟨(by show 2<=sizeLine; decide),fun p hp'=>?_⟩⟩;have n1:l≠p:=fun e=>by rw [e,zh] at hp'; cases hp'
  refine q p _ ((zf hl _).trans (zf hp' _)) ⟨l,is,1,zh,?_,zfP k0 is,?_,fun w hw=>?_⟩
  ·show upd _ _ _ l=_;rw [zR n1]; exact zh
  ·exact sm_one.mono (by omega)
  ·have o:=ok (.z w) (wj.mpr ⟨w,hw,rfl⟩);exact(Xz o.2.1 o.2.2 kl.2).mono b7
 ·have k0:k=0:=by
   by_cases z:k=0
   ·exact z
   ·exact absurd (by have h':¬ V.int k=V.int 0:=fun e=>z (V.int.inj e); rw [decide_eq_false h']; rfl) c
  subst k0;have isq:∀(i:Nat)(x:Nb),xs[i]?=some x->∃ r,x=.q r:=fun i x hx=>by
   have o:=ok x (wc hx);cases x with
   | q r=>exact⟨r,rfl⟩
   | z j=>exact absurd rfl o.1
  have dle:∀ b:Int,0<b->b ∣ (Dn:Int)->Sm B b:=fun b b0 hb=>by
   have:=wam (by omega) hb;show b.natAbs<2^B;omega
  have parts:∀ r:Rat,.q r∈xs->Sm B r.num/\Sm B (r.den:Int)/\(r.den:Int) ∣ (Dn:Int):=fun r hr=>by
   obtain⟨h1,h2⟩:=La.dB.parts dn0 (hD _ hr);have dv:=La.dB.den_dvd dn0 (hD _ hr);refine⟨?_,dle _ (den_pos r) dv,dv⟩;show r.num.natAbs<2^B;have:0<2^B:=gf (by decide);omega
  refine⟨_,rfl,a,rfl,⟨_,SqL.of ha⟩,?_⟩;refine xg (xs:=vs) (fun i σ H'=>∃ b o,σ=[some (.int 0),some (.ref a),some (.int b),o]/\H'=H/\0<b/\(∀ x∈xs.take i,La.dvB b x)/\b ∣ (Dn:Int)) ⟨1,none,rfl,rfl,by decide,fun x hx=>by simp at hx,⟨_,(wba _).symm⟩⟩ ?_ ?_ ?_
  ·rintro i σ H' _ ⟨b,o,rfl,rfl,_⟩
   exact SqL.of ha
  ·rintro i v σ H' hv ⟨b,o,rfl,rfl,b0,dv,bD⟩
   obtain⟨x,hx,rx⟩:=ye hp hv;obtain⟨r,rfl⟩:=isq i x hx;obtain⟨pa,rfl,hpa⟩:=rx.q;obtain⟨sn,sd,dD⟩:=parts r (wc hx);obtain⟨l1,l2,l3,l4⟩:=zgZ b0 (den_pos r);have l5:=La.ziB b0 (den_pos r) bD dD;have sf:Sm B (b.fdiv ((ve b (r.den:Int):Nat):Int)):=zb9 (dle b b0 bD) (gu _ _);refine⟨_,rfl,_,rfl,_,rfl,pa,_,_,_,rfl,rfl,SqT.of hpa,rfl,_,_,rfl,_,_,rfl,rfl,l4,?_⟩;refine⟨_,rfl,pa,_,_,_,rfl,rfl,SqT.of hpa,rfl,_,_,rfl,rfl,sf.mulOk sd (by omega),?_⟩;refine⟨_,_,rfl,rfl,l1,fun y hy=>?_,l5⟩;rw [zw hx] at hy
   rcases wq.mp hy with hy | hy
   ·have:=dv y hy;cases y with
    | q s=>exact waV (show(s.den:Int) ∣ b from this) l2
    | z j=>trivial
   ·rw [wt.mp hy]; exact l3
  ·rintro σ H' ⟨b,o,rfl,rfl,b0,dv,bD⟩
   rw [hvl] at dv;rw [vo] at dv;have sb:=dle b b0 bD;refine⟨_,rfl,a,rfl,⟨_,SqL.of ha⟩,?_⟩;refine zP (xs:=vs) (fun i ys H2=>H2=H'/\ys =((xs.take i).map (La.scW b)).map V.int) ⟨rfl,by simp⟩ ?_ ?_ ?_
   ·rintro i ys H2 hi ⟨rfl,rfl⟩
    refine⟨SqL.of ha,?_⟩;rw [wa,wa,wv];omega
   ·rintro i v ys H2 hv hi ⟨rfl,rfl⟩
    obtain⟨x,hx,rx⟩:=ye hp hv;obtain⟨r,rfl⟩:=isq i x hx;obtain⟨pa,rfl,hpa⟩:=rx.q;obtain⟨sn,sd,dD⟩:=parts r (wc hx);have dx:(r.den:Int) ∣ b:=dv _ (wc hx)
    first | refine gyes ?_ | refine tyes ?_
    refine⟨_,rfl,pa,_,_,_,rfl,rfl,SqT.of hpa,rfl,_,rfl,_,rfl,pa,_,_,_,rfl,rfl,SqT.of hpa,rfl,_,_,rfl,rfl,jo r,_,_,rfl,rfl,sn.mulOk (zb9 sb dx) (by omega),nxt hi ⟨rfl,?_⟩⟩;rw [zw hx,ww,ww]; rfl
   ·rintro ys H2 ⟨rfl,rfl⟩ l hl
    rw [hvl,vo] at *;refine⟨_,rfl,(by show 2<=sizeLine; decide),fun p hp'=>?_⟩;have n1:l≠p:=fun e=>by rw [e,zh] at hp'; cases hp'
    refine q p _ ((zf hl _).trans (zf hp' _)) ⟨l,xs.map (La.scW b),b,zh,?_,⟨rfl,b0,fun z=>absurd rfl z,dv⟩,sb,fun w hw=>?_⟩
    ·show upd _ _ _ l=_;rw [zR n1]; exact zh
    ·obtain⟨x,hx,rfl⟩:=wj.mp hw;exact La.zfJ hk (ok x hx) b7 dn0 (hD x hx) b0 (dv x hx) fun _=>bD
noncomputable def zcp:Sp:=fun vs H Q _=>∃(k t b:Int),vs=[.int k,.int t,.int b]/\KindOk k/\nnum k b≠nnum k 0/\Sm 60000000 t/\Sm 60000000 b/\∀ v H',Same H H'->RN H' (ndiv k (nnum k t) (nnum k b)) v->Q v H'
theorem zhZ (D:Df K mg "quotient" ["kind", "top", "bottom"] Za) (zjL:Kn P w K mg base "over" 42 ["kind", "one", "other"] zfg) (yP:Kn P w K mg base "number" 1 ["kind", "whole"] jp):Kn P w K mg base "quotient" 43 ["kind", "top", "bottom"] zcp:=by
 refine D.kn zcC (fun vs H Q E h=>?_) (fun f cdv A outer s H vs Q E hr h=>?_)
 ·obtain⟨k,t,b,rfl,_⟩:=h; rfl
 obtain⟨k,t,b,rfl,hk,ne,st,sb,q⟩:=h;refine⟨_,(zg (zp (zt zjL (hr.mono (by decide)) rfl (za (pv 0) (za (zt yP (hr.mono (by decide)) rfl (za (pv 0) (za (pv 1) zd))) (za (zt yP (hr.mono (by decide)) rfl (za (pv 0) (za (pv 2) zd))) zd)))))),?_⟩;refine⟨_,rfl,_,rfl,_,rfl,k,t,rfl,fun v1 H1 g1 r1=>?_⟩;refine⟨_,rfl,_,rfl,k,b,rfl,fun v2 H2 g2 r2=>?_⟩;refine⟨k,_,_,v1,v2,rfl,⟨hk,La.zU hk t,La.zU hk b,qW hk st (by decide),qW hk sb (by decide),r1.mono g2,r2⟩,ne,fun v3 H3 g3 r3=>?_⟩;exact q v3 H3 ((g1.trans g2).trans g3) r3
noncomputable def QE:Sp:=fun vs H Q _=>∃(k:Int)(ws:List Int)(a:Addr),vs=[.int k,.ref a]/\KindOk k/\IRow H ws a/\ws.length<sizeLine/\∀ p H',Same H H'->IRow H' (La.easedM k ws) p->Q (.ref p) H'
theorem zhl (hP:P.given.tree=none) (hS:base.NoSeer) (D:Df K mg "eased" ["kind", "wholes"] zac) (yH:Kn P w K mg base "common_divisor" 1 ["one", "other"] zct):Kn P w K mg base "eased" 41 ["kind", "wholes"] QE:=by
 refine D.kn sc_eased (fun vs H Q E h=>?_) (fun f cdv A outer s H vs Q E hr h=>?_)
 ·obtain⟨k,ws,a,rfl,_⟩:=h; rfl
 obtain⟨k,ws,a,rfl,hk,ha,hz,q⟩:=h;refine⟨_,(zc (yj (zD Xh (pv 0) ze (nomark _)) (zg (zp (zN ["whole"] ["kind"] [0] ⟨rfl,rfl,rfl,rfl,rfl,rfl,by decide +kernel⟩ rfl (zI (pv 1)) (zj (by decide)) fun _ _ _ _ _ _=>⟨(zi (i:=0) (by decide:(["whole", "kind"]:List Str).Nodup) rfl (by first | exact Or.inl rfl | exact Or.inr rfl)),zL,(zq zQ (pv 0) (pv 1))⟩))) zK) (zc (zm (i:=2) sc_eased.nd rfl (.inr rfl) ze) (zc (yA PassesOwn.never rfl (zI (pv 1)) (zi (i:=3) sc_eased.nd rfl (.inl rfl)) (zc (zm (i:=2) sc_eased.nd rfl (.inr rfl) (zt yH (hr.mono (by decide)) rfl (za (pv 2) (za (pv 3) zd)))) (zg (yj (zD yI (pv 2) ze (nomark _)) (zg (zp (pv 1))) zK)))) (zc (yj (zD yI (pv 2) ze (nomark _)) (zg (zp (pv 1))) zK) (zg (zp (zN ["whole"] ["divisor"] [2] ⟨rfl,rfl,rfl,rfl,rfl,rfl,by decide +kernel⟩ rfl (zI (pv 1)) (zj (by decide)) fun _ _ _ _ _ _=>⟨(zi (i:=0) (by decide:(["whole", "divisor"]:List Str).Nodup) rfl (by first | exact Or.inl rfl | exact Or.inr rfl)),zL,(zq (ya hr (by decide) hP hS ⟨_,_,rfl,rfl,rfl,rfl,rfl⟩) (pv 0) (pv 1))⟩))))))),?_⟩;refine⟨_,rfl,rfl,_,rfl,?_⟩;refine ite2 (fun c=>?_) (fun c=>?_)
 ·have k0:k≠0:=fun z=>by rw [z] at c; exact absurd c (by decide)
  refine⟨_,rfl,a,rfl,⟨_,SqL.of ha⟩,?_⟩;refine zP (xs:=ws.map V.int) (fun i ys H'=>H'=H/\ys =((ws.take i).map (·.fmod k)).map V.int) ⟨rfl,by simp⟩ ?_ ?_ ?_
  ·rintro i ys H' hi ⟨rfl,rfl⟩
   refine⟨SqL.of ha,?_⟩;rw [wa,wa,wv]; omega
  ·rintro i v ys H' hv hi ⟨rfl,rfl⟩
   rw [wg] at hv;obtain⟨u,hu,rfl⟩:=wU.mp hv
   first | refine gyes ?_ | refine tyes ?_
   refine⟨_,rfl,_,rfl,_,_,rfl,rfl,k0,nxt hi ⟨rfl,?_⟩⟩;rw [zw hu,ww,ww]; rfl
  ·rintro ys H' ⟨rfl,rfl⟩ p hp
   rw [wa,vo];refine q p _ (zf hp _) ?_;rw [La.zed k0];exact zh
 ·have k0:k=0:=by
   by_cases z:k=0
   ·exact z
   ·exact absurd (by have h':¬ V.int k=V.int 0:=fun e=>z (V.int.inj e); rw [decide_eq_false h']; rfl) c
  subst k0;refine⟨_,rfl,a,rfl,⟨_,SqL.of ha⟩,?_⟩;refine xg (xs:=ws.map V.int) (fun i σ H'=>∃ o,σ=[some (.int 0),some (.ref a),some (.int ((La.gcdL (ws.take i):Nat):Int)),o]/\H'=H) ⟨none,rfl,rfl⟩ ?_ ?_ ?_
  ·rintro i σ H' _ ⟨o,rfl,rfl⟩
   exact SqL.of ha
  ·rintro i v σ H' hv ⟨o,rfl,rfl⟩
   rw [wg] at hv;obtain⟨u,hu,rfl⟩:=wU.mp hv;have eg:((ve ((La.gcdL (ws.take i):Nat):Int) u:Nat):Int) =((La.gcdL (ws.take (i+1)):Nat):Int):=by
    rw [zw hu,La.zfh,uE,vN]
   refine⟨_,rfl,_,rfl,_,_,rfl,?_⟩;rw [eg];refine⟨_,rfl,rfl,_,rfl,?_⟩;refine ite2 (fun c1=>?_) (fun c1=>?_)
   ·have e1:((La.gcdL (ws.take (i+1)):Nat):Int)=1:=V.int.inj (of_decide_eq_true c1);refine⟨_,rfl,q a _ (Same.refl _) ?_⟩;rw [La.zdL (La.zg0 (i:=i+1) (by omega))];exact ha
   ·exact⟨_,rfl,rfl⟩
  ·rintro σ H' ⟨o,rfl,rfl⟩
   rw [wa,vo];refine⟨_,rfl,rfl,_,rfl,?_⟩;refine ite2 (fun c1=>?_) (fun c1=>?_)
   ·have e1:((La.gcdL ws:Nat):Int)=0:=V.int.inj (of_decide_eq_true c1);refine⟨_,rfl,q a _ (Same.refl _) ?_⟩;rw [La.zdu (by omega)];exact ha
   ·have e1:((La.gcdL ws:Nat):Int)≠0:=fun z=>by rw [z] at c1; exact c1 (by decide)
    refine⟨_,rfl,a,rfl,⟨_,SqL.of ha⟩,?_⟩;refine zP (xs:=ws.map V.int) (fun i ys H2=>H2=H'/\ys =((ws.take i).map fun w=>w.fdiv ((La.gcdL ws:Nat):Int)).map V.int) ⟨rfl,by simp⟩ ?_ ?_ ?_
    ·rintro i ys H2 hi ⟨rfl,rfl⟩
     refine⟨SqL.of ha,?_⟩;rw [wa,wa,wv]; omega
    ·rintro i v ys H2 hv hi ⟨rfl,rfl⟩
     rw [wg] at hv;obtain⟨u,hu,rfl⟩:=wU.mp hv
     first | refine gyes ?_ | refine tyes ?_
     refine⟨_,rfl,_,rfl,_,_,rfl,rfl,e1,nxt hi ⟨rfl,?_⟩⟩;rw [zw hu,ww,ww]; rfl
    ·rintro ys H2 ⟨rfl,rfl⟩ p hp
     rw [wa,vo];refine q p _ (zf hp _) ?_;rw [La.zea (by omega)];exact zh
noncomputable def Qg:Sp:=fun vs H Q _=>∃(k:Int)(row lead:List Int)(c:Nat)(ra la:Addr)(b:Nat),vs=[.int k,.ref ra,.ref la,.int (0 +(c:Int))]/\KindOk k/\IRow H row ra/\IRow H lead la/\row.length=lead.length/\c<row.length/\row.length<sizeLine/\(∀ w∈row,Sm b w)/\(∀ w∈lead,Sm b w)/\b<=60000000 /\
 ∀ p H',Same H H'->IRow H' (La.clearedM k lead c row) p->Q (.ref p) H'
theorem zdN (D:Df K mg "cleared" ["kind", "row", "lead_row", "column"] ZR) (zci:Kn P w K mg base "eased" 41 ["kind", "wholes"] QE) (m_zip:mg "zip" = none):Kn P w K mg base "cleared" 42 ["kind", "row", "lead_row", "column"] Qg:=by
 refine D.kn zd6 (fun vs H Q E h=>?_) (fun f cdv A outer s H vs Q E hr h=>?_)
 ·obtain⟨k,row,lead,c,ra,la,b,rfl,_⟩:=h; rfl
 obtain⟨k,row,lead,c,ra,la,b,rfl,hk,hra,hla,hl,hc,hz,s1,s2,hb,q⟩:=h;refine⟨_,(zc (yj (zD yI (zG zo (pv 1) (pv 3) (fun _ _=>rfl)) ze (nomark _)) (zg (zp (pv 1))) zK) (zg (zp (zt zci (hr.mono (by decide)) rfl (za (pv 0) (za (zN ["left", "right"] ["lead_row", "column", "row"] [2,3,1] ⟨rfl,rfl,rfl,rfl,rfl,rfl,by decide +kernel⟩ rfl (Ys rfl m_zip (za (pv 1) (za (pv 2) zd))) (Zc (yu (zj (by decide)) yv (yu (zj (by decide)) yv jM))) fun _ _ _ _ _ _=>⟨(jL 2 rfl (zT (zi (i:=0) (by decide:(["left", "right", "lead_row", "column", "row"]:List Str).Nodup) rfl (by first | exact Or.inl rfl | exact Or.inr rfl)) (zT (zi (i:=1) (by decide:(["left", "right", "lead_row", "column", "row"]:List Str).Nodup) rfl (by first | exact Or.inl rfl | exact Or.inr rfl)) xB))),zL,(zq qA (zq zX (zG zo (pv 2) (pv 3) (fun _ _=>rfl)) (pv 0)) (zq zX (zG zo (pv 4) (pv 3) (fun _ _=>rfl)) (pv 1)))⟩) zd)))))),?_⟩;refine⟨_,rfl,_,rfl,ra,_,_,_,rfl,rfl,SqL.of hra,Jb hra hc,rfl,_,rfl,?_⟩;refine ite2 (fun c1=>?_) (fun c1=>?_)
 ·have e1:row.getD c 0=0:=V.int.inj (of_decide_eq_true c1);refine⟨_,rfl,q ra _ (Same.refl _) ?_⟩;unfold La.clearedM;rw [if_pos e1];exact hra
 ·have e1:row.getD c 0≠0:=fun z=>by rw [z] at c1; exact c1 (by decide)
  refine⟨_,rfl,_,rfl,_,rfl,ra,la,_,_,rfl,SqL.of hra,SqL.of hla,?_⟩;refine Zb (xs:=row.map V.int) (zs:=lead.map V.int) (by rw [wa,wa]; omega) (fun i ys' H'=>Same H H'/\ys' =((La.mixed row lead c).take i).map V.int) ⟨Same.refl H,by simp⟩ ?_ ?_ ?_
  ·rintro i ys' H' hi ⟨g,rfl⟩
   refine⟨SqL.of (hra.mono g),SqL.of (hla.mono g),?_⟩;rw [wa,wv,La.qN hl];omega
  ·rintro i x z T ys' H' hx hy hi hT ⟨g,rfl⟩
   rw [wg] at hx hy;obtain⟨u,hu,rfl⟩:=wU.mp hx;obtain⟨u',hu',rfl⟩:=wU.mp hy;have g':=g.trans (zf hT (.tup [.int u,.int u']));refine⟨T,_,rfl,SqT.of zh,rfl,_,_,rfl,_,_,rfl,rfl,?_⟩
   first | refine gyes ?_ | refine tyes ?_
   refine⟨_,rfl,_,rfl,la,_,_,_,rfl,rfl,SqL.of (hla.mono g'),Jb (hla.mono g') (by omega),_,rfl,_,_,rfl,rfl,(Zv s2 c).mulOk (s1 u (wc hu)) (by omega),?_⟩;refine⟨_,rfl,_,rfl,ra,_,_,_,rfl,rfl,SqL.of (hra.mono g'),Jb (hra.mono g') (by omega),_,rfl,_,_,rfl,rfl,(Zv s1 c).mulOk (s2 u' (wc hu')) (by omega),_,_,rfl,rfl,nxt hi ⟨g',?_⟩⟩;have e:(La.mixed row lead c)[i]?=some (lead.getD c 0*u - row.getD c 0*u'):=by unfold La.mixed; rw [vJ,hu,hu']
   rw [zw e,ww]; rfl
  ·rintro ys' H' ⟨g,rfl⟩ pl hpl
   rw [wa,wp (by rw [La.qN hl]; exact wu _)];refine⟨k,_,pl,rfl,hk,zh,by rw [La.qN hl]; exact hz,fun p H2 g2 hp=>?_⟩;refine q p H2 ((g.trans (zf hpl _)).trans g2) ?_;unfold La.clearedM;rw [if_neg e1];exact hp
noncomputable def zcV:Sp:=fun vs H Q _=>∃(k:Int)(Ws:List (List Int))(n b:Nat)(t:Addr)(ras:List Addr),vs=[.int k,.ref t]/\KindOk k/\IRs H Ws t ras/\(∀ r∈Ws,r.length=n)/\n<sizeLine/\Ws.length<=8000000/\(∀ r∈Ws,∀ w∈r,Sm b w)/\61<=b/\(b+1)*2^n<=60000000 /\
 ∀ p rs H',Same H H'->IRs H' ((La.swTo k Ws n).1.map (·.2)) p rs->Q (.ref p) H'
theorem zgy (D:Df K mg "swept" ["kind", "rows"] zan) (zci:Kn P w K mg base "eased" 41 ["kind", "wholes"] QE) (zbq:Kn P w K mg base "cleared" 42 ["kind", "row", "lead_row", "column"] Qg) (m_len:mg "len" = none) (zy:mg "range" = none):Kn P w K mg base "swept" 43 ["kind", "rows"] zcV:=by
 refine D.kn sc_swept (fun vs H Q E h=>?_) (fun f cdv A outer s H vs Q E hr h=>?_)
 ·obtain⟨k,Ws,n,b,t,ras,rfl,_⟩:=h; rfl
 obtain⟨k,Ws,n,b,t,ras,rfl,hk,hI,hl,nz,wz,sz,b7,hb,q⟩:=h;have szl:sizeLine=16777216:=by decide
 have lras:=zk hI.2;refine⟨_,(zc (zm (i:=2) sc_swept.nd rfl (.inl rfl) (yF zd)) (zc (xY (i:=3) sc_swept.nd rfl rfl ["row"] ["kind"] [0] ⟨rfl,rfl,rfl,rfl,rfl,rfl,by decide +kernel⟩ rfl (zI (pv 1)) (zj (by decide)) fun _ _ _ _ _ _=>⟨(zi (i:=0) (by decide:(["row", "kind"]:List Str).Nodup) rfl (by first | exact Or.inl rfl | exact Or.inr rfl)),zL,(zt zci (hr.mono (by decide)) rfl (za (pv 1) (za (pv 0) zd)))⟩) (zc (zm (i:=4) sc_swept.nd rfl (.inl rfl) (zg2 (zD qB (zE zO rfl m_len yk (za (pv 1) zd)) ze (nomark _)) (zE zO rfl m_len yk (za (zG zo (pv 1) ze (fun _ _=>rfl)) zd)) ze)) (zc (yA PassesOwn.never rfl (zM rfl zy (za (pv 4) zd)) (zi (i:=5) sc_swept.nd rfl (.inr rfl)) (zc (xY (i:=6) sc_swept.nd rfl rfl ["row"] ["column"] [5] ⟨rfl,rfl,rfl,rfl,rfl,rfl,by decide +kernel⟩ rfl (zI (pv 3)) (zj (by decide)) fun _ _ _ _ _ _=>⟨(zi (i:=0) (by decide:(["row", "column"]:List Str).Nodup) rfl (by first | exact Or.inl rfl | exact Or.inr rfl)),(qD (zD Xh (zG zo (pv 0) (pv 1) (fun _ _=>rfl)) ze (nomark _))),(pv 0)⟩) (zg (yj (zD qB (zE zO rfl m_len yk (za (pv 6) zd)) ze (nomark _)) (zc (zm (i:=7) sc_swept.nd rfl (.inr rfl) (zG zo (pv 6) ze (fun _ _=>rfl))) (zc (xY (i:=3) sc_swept.nd rfl rfl ["row"] ["column"] [5] ⟨rfl,rfl,rfl,rfl,rfl,rfl,by decide +kernel⟩ rfl (zI (pv 3)) (zj (by decide)) fun _ _ _ _ _ _=>⟨(zi (i:=0) (by decide:(["row", "column"]:List Str).Nodup) rfl (by first | exact Or.inl rfl | exact Or.inr rfl)),(qD (zD yI (zG zo (pv 0) (pv 1) (fun _ _=>rfl)) ze (nomark _))),(pv 0)⟩) (zc (xV (bm0 (fun _ h=>XG PySem.F.plainAttrs_list PySem.F.slot_list_extend PySem.F.type_list_extend za2 h (za (zN ["row"] ["kind", "lead_row", "column"] [0,7,5] ⟨rfl,rfl,rfl,rfl,rfl,rfl,by decide +kernel⟩ rfl (zI (Zf ZW (pv 6) (Zy ze) Xx)) (zj (by decide)) fun _ _ _ _ _ _=>⟨(zi (i:=0) (by decide:(["row", "kind", "lead_row", "column"]:List Str).Nodup) rfl (by first | exact Or.inl rfl | exact Or.inr rfl)),zL,(zt zbq (hr.mono (by decide)) rfl (za (pv 1) (za (pv 0) (za (pv 2) (za (pv 3) zd)))))⟩) zd)) (pv 3))) (zc (xY (i:=2) sc_swept.nd rfl rfl ["row"] ["kind", "lead_row", "column"] [0,7,5] ⟨rfl,rfl,rfl,rfl,rfl,rfl,by decide +kernel⟩ rfl (zI (pv 2)) (zj (by decide)) fun _ _ _ _ _ _=>⟨(zi (i:=0) (by decide:(["row", "kind", "lead_row", "column"]:List Str).Nodup) rfl (by first | exact Or.inl rfl | exact Or.inr rfl)),zL,(zt zbq (hr.mono (by decide)) rfl (za (pv 1) (za (pv 0) (za (pv 2) (za (pv 3) zd)))))⟩) (zg (xV (bm0 (fun _ h=>XG PySem.F.plainAttrs_list PySem.F.slot_list_append PySem.F.type_list_append xS h (za (pv 7) zd)) (pv 2)))))))) zK)))) (zg (zp (pv 2))))))),?_⟩;refine⟨(by show 0<=sizeLine; decide),fun pd hpd=>?_⟩;have g0:=zf hpd (.lst []);have hpd0:upd H pd (.lst []) pd=some (.lst []):=zh;generalize upd H pd (.lst [])=H0 at *;refine⟨_,rfl,t,rfl,⟨_,SqL.of (g0 _ _ hI.1)⟩,?_⟩;refine zP (xs:=ras.map V.ref) (fun i ys H'=>∃ rs,ys=rs.map V.ref/\Same H0 H'/\Paired (IRow H') ((Ws.map (La.easedM k)).take i) rs) ⟨[],rfl,Same.refl _,.nil⟩ ?_ ?_ ?_
 ·rintro i ys H' hi ⟨rs,rfl,g,pr⟩
  refine⟨SqL.of (g _ _ (g0 _ _ hI.1)),?_⟩;have:=zk pr;rw [wv,wa] at this;rw [wa]; omega
 ·rintro i v ys H' hv hi ⟨rs,rfl,g,pr⟩
  obtain⟨ws,a,hw,ha,rfl,hrow⟩:=(hI.mono (g0.trans g)).row hv
  first | refine gyes ?_ | refine tyes ?_
  refine⟨_,rfl,_,rfl,k,ws,a,rfl,hk,hrow,by rw [hl ws (wc hw)]; exact nz,fun p H2 g2 hp=>nxt hi ⟨rs++[p],by rw [ww]; rfl,g.trans g2,?_⟩⟩;have e:(Ws.map (La.easedM k))[i]?=some (La.easedM k ws):=by rw [wg,hw]; rfl
  rw [zw e];exact zZ (Zp g2 pr) hp
 rintro ys H' ⟨rs,rfl,g,pr⟩ pw hpw
 rw [wa,wp (by rw [wa]; omega)] at pr;have g1:=(g0.trans g).trans (zf hpw (.lst (rs.map V.ref)));have hpw1:upd H' pw (.lst (rs.map V.ref)) pw=some (.lst (rs.map V.ref)):=zh;have pr1:=Zp (zf hpw (.lst (rs.map V.ref))) pr;have hpd1:=zf hpw (.lst (rs.map V.ref)) _ _ (g _ _ hpd0);generalize upd H' pw (.lst (rs.map V.ref))=H1 at *;clear g pr hpw g0 hpd0;refine⟨_,rfl,t,_,rfl,.inl (SqL.of (g1 _ _ hI.1)),_,_,rfl,rfl,_,rfl,?_⟩;rw [wa,← lras];refine ite2 (fun c=>?_) (fun c=>?_)
 ·have c':0 <(Ws.length:Int):=of_decide_eq_true c;obtain⟨r0,ras',e0⟩ : ∃ r0 ras',ras=r0::ras':=by
   cases ras with
   | nil=>rw [Gh] at lras; omega
   | cons a b=>exact⟨a,b,rfl⟩
  obtain⟨w0,hw0,hr0⟩:=ye (hI.mono g1).2 (i:=0) (b:=r0) (by rw [e0]; rfl);have lw0:=hl w0 (wc hw0);refine⟨_,rfl,t,_,_,_,rfl,rfl,SqL.of (g1 _ _ hI.1),(by rw [e0]; exact zH (j:=0) rfl),r0,_,rfl,.inl (SqL.of hr0),?_⟩;rw [wa,lw0];refine⟨_,rfl,_,rfl,(by omega),(by omega),?_⟩;rw [wP];have fine:=La.Fine.to (k:=k) hk.lt.1 hl;have szs:=ziy hk b7 hl sz;have lens:=La.ZK (k:=k) Ws;refine yC (lo:=0) (n:=n) (fun i σ H'=>∃ td tw rd rw o5 o6 o7,σ=[some (.int k),some (.ref t),some (.ref td),some (.ref tw),some (.int (n:Int)),o5,o6,o7]/\Same H H'/\IRs H' ((La.swTo k Ws i).1.map (·.2)) td rd/\IRs H' (La.swTo k Ws i).2 tw rw) ⟨pd,pw,[],rs,none,none,none,rfl,g1,⟨hpd1,.nil⟩,⟨hpw1,pr1⟩⟩ ?_ ?_
  ·rintro i σ H2 hi ⟨td,tw,rd,rw',o5,o6,o7,rfl,g2,hD,hW⟩
   have fi:=fine i;have si:=szs i;have li:=lens i;have e1:La.swTo k Ws (i+1)=La.swTurn k i (La.swTo k Ws i):=rfl;rw [e1];generalize La.swTo k Ws i=S at *;obtain⟨Dn,Wt⟩:=S;have bnd:(b+1)*2^i - 1<=60000000:=by
    have:2^i<=2^n:=wZ (by decide) (by omega);have:(b+1)*2^i<=(b+1)*2^n:=vh _ this;omega
   generalize (b+1)*2^i - 1=bb at *
   dsimp only at hD hW li
   have lD:=zk hD.2;have lW:=zk hW.2;rw [wa] at lD;have wlen:∀ ws∈Wt,ws.length=n:=fi.wl;have dlen:∀ ws∈Dn.map (·.2),ws.length=n:=fun ws hw=>by
    obtain⟨p,hp,rfl⟩:=wj.mp hw;exact fi.dl p hp
   have nn:∀ ws:List Int,ws.length=n->ws≠[]:=fun ws h e=>by rw [e] at h; simp at h; omega
   refine⟨_,rfl,tw,rfl,⟨_,SqL.of hW.1⟩,?_⟩;refine zP (xs:=rw'.map V.ref) (fun j ys H3=>H3=H2/\∃ rl,ys=rl.map V.ref/\Paired (IRow H2) ((Wt.take j).filter fun r=>decide (r.getD i 0≠0)) rl) ⟨rfl,[],rfl,.nil⟩ ?_ ?_ ?_
   ·rintro j ys H3 hj ⟨rfl,rl,rfl,prl⟩
    refine⟨SqL.of hW.1,?_⟩;have:=zk prl;have h2:=vL (fun r:List Int=>decide (r.getD i 0≠0)) (Wt.take j);rw [wv] at h2;rw [wa]; omega
   ·rintro j v ys H3 hv hj ⟨rfl,rl,rfl,prl⟩
    obtain⟨ws,a,hw,ha,rfl,hrow⟩:=hW.row hv;have lw:=wlen ws (wc hw);refine⟨_,rfl,_,rfl,a,_,_,_,rfl,rfl,SqL.of hrow,Jb hrow (by omega),rfl,_,rfl,?_⟩;refine ite2 (fun c1=>?_) (fun c1=>?_)
    ·have z:ws.getD i 0≠0:=fun z=>by rw [z] at c1; exact absurd c1 (by decide)
     refine⟨_,rfl,nxt hj ⟨rfl,rl++[a],by rw [ww]; rfl,?_⟩⟩;rw [La.xm _ hw,if_pos (decide_eq_true z)];exact zZ prl hrow
    ·have z:ws.getD i 0=0:=by
      by_cases z:ws.getD i 0=0
      ·exact z
      ·exact absurd (by have h':¬ V.int (ws.getD i 0)=V.int 0:=fun e=>z (V.int.inj e); rw [decide_eq_false h']; rfl) c1
     refine nxt hj ⟨rfl,rl,rfl,?_⟩;rw [La.xm _ hw,if_neg (show ¬ decide (ws.getD i 0≠0)=true from fun h=>of_decide_eq_true h z),vP];exact prl
   rintro ys H3 ⟨rfl,rl,rfl,prl⟩ pl hpl
   rw [wa,wp (by omega)] at prl;have g3:=zf hpl (.lst (rl.map V.ref));have hpl3:upd H3 pl (.lst (rl.map V.ref)) pl=some (.lst (rl.map V.ref)):=zh;have prl3:=Zp g3 prl;have hD3:=hD.mono g3;have hW3:=hW.mono g3;have g23:=g2.trans g3;generalize upd H3 pl (.lst (rl.map V.ref))=H4 at *;clear prl hpl hD hW;have lrl:=zk prl3;refine⟨_,rfl,pl,_,rfl,.inl (SqL.of hpl3),_,_,rfl,rfl,_,rfl,?_⟩;rw [wa,← lrl];refine ite2 (fun c1=>?_) (fun c1=>?_)
   ·have c2:0 <((Wt.filter fun r=>decide (r.getD i 0≠0)).length:Int):=of_decide_eq_true c1;cases ef:Wt.filter (fun r=>decide (r.getD i 0≠0))with
    | nil=>rw [ef] at c2; simp at c2
    | cons lead rest =>
     rw [ef] at prl3 lrl;have turn:La.swTurn k i (Dn,Wt) =(Dn.map (fun p=>(p.1,La.clearedM k lead i p.2))++[(i,lead)],Wt.filter (fun r=>decide (r.getD i 0=0))++rest.map (La.clearedM k lead i)):=by
      unfold La.swTurn;simp only [ef]
     rw [turn];obtain⟨ld,rl',rfl⟩ : ∃ ld rl',rl=ld::rl':=by
      cases rl with
      | nil=>simp at lrl
      | cons a b=>exact⟨a,b,rfl⟩
     obtain⟨hld,prest⟩ : IRow H4 lead ld/\Paired (IRow H4) rest rl':=by
      cases prl3 with
      | cons h t=>exact⟨h,t⟩
     have memW:∀ r∈lead::rest,r∈Wt:=fun r hr=>by rw [← ef] at hr; exact(wW.mp hr).1
     have hlead:=memW lead wm;have llead:=wlen lead hlead;have slead:=si.2 lead hlead;have lf:=vL (fun r:List Int=>decide (r.getD i 0≠0)) Wt;rw [ef,vK] at lf;refine⟨_,rfl,pl,_,_,_,rfl,rfl,SqL.of hpl3,zH (j:=0) rfl,?_⟩;refine⟨_,rfl,tw,rfl,⟨_,SqL.of hW3.1⟩,?_⟩;refine zP (xs:=rw'.map V.ref) (fun j ys H5=>H5=H4/\∃ rz,ys=rz.map V.ref/\Paired (IRow H4) ((Wt.take j).filter fun r=>decide (r.getD i 0=0)) rz) ⟨rfl,[],rfl,.nil⟩ ?_ ?_ ?_
     ·rintro j ys H5 hj ⟨rfl,rz,rfl,prz⟩
      refine⟨SqL.of hW3.1,?_⟩;have:=zk prz;have h2:=vL (fun r:List Int=>decide (r.getD i 0=0)) (Wt.take j);rw [wv] at h2;rw [wa]; omega
     ·rintro j v ys H5 hv hj ⟨rfl,rz,rfl,prz⟩
      obtain⟨ws,a,hw,ha,rfl,hrow⟩:=hW3.row hv;have lw:=wlen ws (wc hw);refine⟨_,rfl,_,rfl,a,_,_,_,rfl,rfl,SqL.of hrow,Jb hrow (by omega),rfl,_,rfl,?_⟩;refine ite2 (fun c1=>?_) (fun c1=>?_)
      ·have z:ws.getD i 0=0:=V.int.inj (of_decide_eq_true c1);refine⟨_,rfl,nxt hj ⟨rfl,rz++[a],by rw [ww]; rfl,?_⟩⟩;rw [La.xm _ hw,if_pos (decide_eq_true z)];exact zZ prz hrow
      ·have z:ws.getD i 0≠0:=fun z=>by rw [z] at c1; exact c1 (by decide)
       refine nxt hj ⟨rfl,rz,rfl,?_⟩;rw [La.xm _ hw,if_neg (show ¬ decide (ws.getD i 0=0)=true from fun h=>z (of_decide_eq_true h)),vP];exact prz
     rintro ys H5 ⟨rfl,rz,rfl,prz⟩ pz hpz
     rw [wa,wp (by omega)] at prz;have g5:=zf hpz (.lst (rz.map V.ref));have hpz5:upd H5 pz (.lst (rz.map V.ref)) pz=some (.lst (rz.map V.ref)):=zh;have pzH:H pz=none:=g23.none hpz;have ntd:td≠pz:=fun e=>by rw [← e,hD3.1] at hpz; cases hpz
     have prz5:=Zp g5 prz;have prest5:=Zp g5 prest;have hld5:=hld.mono g5;have hD5:=hD3.mono g5;have hpl5:=g5 _ _ hpl3;have g25:=g23.trans g5;generalize upd H5 pz (.lst (rz.map V.ref))=H6 at *;clear prz hpz prest hld hD3 hpl3 g23 hW3 prl3 g3 g5 c1;have lrz:=zk prz5;have lfz:=vL (fun r:List Int=>decide (r.getD i 0=0)) Wt;have zlen:∀ ws∈Wt.filter (fun r=>decide (r.getD i 0=0)),ws.length=n:=fun ws hw=>wlen ws (wW.mp hw).1
     have lrest:=zk prest5;refine⟨_,rfl,.inl ⟨rfl,_,SqL.of hpz5⟩,_,rfl,_,rfl,pl,_,rfl,SqL.of hpl5,fun pc hpc=>?_⟩;rw [cut1];have g7:=zf hpc (.lst (((ld::rl').map V.ref).drop 1));have hpc7:upd H6 pc (.lst (((ld::rl').map V.ref).drop 1)) pc=some (.lst (rl'.map V.ref)):=zh;generalize upd H6 pc (.lst (((ld::rl').map V.ref).drop 1))=H7 at *;refine⟨pc,rfl,⟨_,SqL.of hpc7⟩,?_⟩;refine zP (xs:=rl'.map V.ref) (fun j ys H8=>∃ rc,ys=rc.map V.ref/\Same H7 H8/\Paired (IRow H8) ((rest.map (La.clearedM k lead i)).take j) rc) ⟨[],rfl,Same.refl _,.nil⟩ ?_ ?_ ?_
     ·rintro j ys H8 hj ⟨rc,rfl,g8,prc⟩
      refine⟨SqL.of (g8 _ _ hpc7),?_⟩;have:=zk prc;rw [wv,wa] at this;rw [wa]; omega
     ·rintro j v ys H8 hv hj ⟨rc,rfl,g8,prc⟩
      rw [wg] at hv;obtain⟨a,ha,rfl⟩:=wU.mp hv;obtain⟨ws,hw,hrow⟩:=ye prest5 ha;have hm:=memW ws (wr _ (wc hw));have lw:=wlen ws hm
      first | refine gyes ?_ | refine tyes ?_
      refine⟨_,rfl,_,rfl,_,rfl,_,rfl,k,ws,lead,i,a,ld,bb,rfl,hk,hrow.mono (g7.trans g8),hld5.mono (g7.trans g8),by omega,by omega,by omega,si.2 ws hm,slead,bnd,fun p H9 g9 hp=>nxt hj ⟨rc++[p],by rw [ww]; rfl,g8.trans g9,?_⟩⟩;have e:(rest.map (La.clearedM k lead i))[j]?=some (La.clearedM k lead i ws):=by rw [wg,hw]; rfl
      rw [zw e];exact zZ (Zp g9 prc) hp
     rintro ys H8 ⟨rc,rfl,g8,prc⟩ pe hpe
     rw [wa,wp (by rw [wa]; omega)] at prc;have lrc:=zk prc;rw [wa] at lrc;have g9:=(g7.trans g8).trans (zf hpe (.lst (rc.map V.ref)));have hpe9:upd H8 pe (.lst (rc.map V.ref)) pe=some (.lst (rc.map V.ref)):=zh;have prc9:=Zp (zf hpe (.lst (rc.map V.ref))) prc;generalize upd H8 pe (.lst (rc.map V.ref))=H9 at *;clear prc hpe g8 hpc7 hpc g7;have clen:∀ ws∈rest.map (La.clearedM k lead i),ws.length=n:=fun ws hw=>by
      obtain⟨x,hx,rfl⟩:=wj.mp hw;have hm:=wlen x (memW x (wr _ hx));rw [La.jx (by omega)]; exact hm
     refine⟨pz,pe,_,_,rfl,rfl,g9 _ _ hpz5,hpe9,(by rw [wa,wa]; omega),?_⟩;have hpz9:=g9 _ _ hpz5;have prz10:=jQ (o:=.lst (rz.map V.ref++rc.map V.ref)) hpz9 (Zp g9 prz5) fun ws hw=>nn ws (zlen ws hw)
     have prc10:=jQ (o:=.lst (rz.map V.ref++rc.map V.ref)) hpz9 prc9 fun ws hw=>nn ws (clen ws hw)
     have hld10:IRow (upd H9 pz (.lst (rz.map V.ref++rc.map V.ref))) lead ld:=by
      show upd H9 pz _ ld=_;rw [zR ((hld5.mono g9).ne (nn lead llead) hpz9)]; exact hld5.mono g9
     have hW10:upd H9 pz (.lst (rz.map V.ref++rc.map V.ref)) pz=some (.lst ((rz++rc).map V.ref)):=by rw [zh,ww]
     have hD10:IRs (upd H9 pz (.lst (rz.map V.ref++rc.map V.ref))) (Dn.map (·.2)) td rd:=⟨by rw [zR ntd]; exact g9 _ _ hD5.1,jQ hpz9 (Zp g9 hD5.2) fun ws hw=>nn ws (dlen ws hw)⟩;have g10:Same H (upd H9 pz (.lst (rz.map V.ref++rc.map V.ref))):=yz (g25.trans g9) pzH;generalize upd H9 pz (.lst (rz.map V.ref++rc.map V.ref))=H10 at *;clear hpz9 hD5 hld5 prz5 prc9 hpe9 prest5 hpl5;refine⟨_,rfl,td,rfl,⟨_,SqL.of hD10.1⟩,?_⟩;refine zP (xs:=rd.map V.ref) (fun j ys H11=>∃ rn,ys=rn.map V.ref/\Same H10 H11/\Paired (IRow H11) ((Dn.map fun p=>La.clearedM k lead i p.2).take j) rn) ⟨[],rfl,Same.refl _,.nil⟩ ?_ ?_ ?_
     ·rintro j ys H11 hj ⟨rn,rfl,g11,prn⟩
      refine⟨SqL.of (g11 _ _ hD10.1),?_⟩;have:=zk prn;rw [wv,wa] at this;rw [wa]; omega
     ·rintro j v ys H11 hv hj ⟨rn,rfl,g11,prn⟩
      obtain⟨ws,a,hw,ha,rfl,hrow⟩:=(hD10.mono g11).row hv;rw [wg] at hw;obtain⟨p0,hp0,rfl⟩:=wU.mp hw;have hm:=wc hp0;have lw:=fi.dl p0 hm
      first | refine gyes ?_ | refine tyes ?_
      refine⟨_,rfl,_,rfl,_,rfl,_,rfl,k,p0.2,lead,i,a,ld,bb,rfl,hk,hrow,hld10.mono g11,by omega,by omega,by omega,si.1 p0 hm,slead,bnd,fun p H12 g12 hp=>nxt hj ⟨rn++[p],by rw [ww]; rfl,g11.trans g12,?_⟩⟩;have e:(Dn.map fun p=>La.clearedM k lead i p.2)[j]?=some (La.clearedM k lead i p0.2):=by rw [wg,hp0]; rfl
      rw [zw e];exact zZ (Zp g12 prn) hp
     rintro ys H11 ⟨rn,rfl,g11,prn⟩ pn hpn
     rw [wa,wp (by rw [wa]; omega)] at prn;have lrn:=zk prn;rw [wa] at lrn;have nlen:∀ ws∈Dn.map (fun p=>La.clearedM k lead i p.2),ws.length=n:=fun ws hw=>by
      obtain⟨x,hx,rfl⟩:=wj.mp hw;have hm:=fi.dl x hx;rw [La.jx (by omega)]; exact hm
     have npz:pz≠pn:=fun e=>by rw [← e,g11 _ _ hW10] at hpn; cases hpn
     have pnH:H pn=none:=(g10.trans g11).none hpn;have g12:=zf hpn (.lst (rn.map V.ref));have hpn12:upd H11 pn (.lst (rn.map V.ref)) pn=some (.lst (rn.map V.ref)):=zh;have prn12:=Zp g12 prn;have prz12:=Zp (g11.trans g12) prz10;have prc12:=Zp (g11.trans g12) prc10;have hld12:=hld10.mono (g11.trans g12);have hW12:=(g11.trans g12) _ _ hW10;have gh12:=(g10.trans g11).trans g12;generalize upd H11 pn (.lst (rn.map V.ref))=H12 at *;refine⟨_,rfl,.inl ⟨rfl,_,SqL.of hpn12⟩,_,rfl,pn,_,_,rfl,rfl,hpn12,(by rw [wa]; omega),?_⟩;refine⟨pn,pz,rn++[ld],rz++rc,_,_,_,rfl,yz gh12 pnH,⟨?_,?_⟩,⟨?_,?_⟩⟩
     ·rw [zh,ww]; rfl
     ·have e:(Dn.map (fun p=>(p.1,La.clearedM k lead i p.2))++[(i,lead)]).map (·.2) =(Dn.map fun p=>La.clearedM k lead i p.2)++[lead]:=by
       rw [ww,vV]; rfl
      rw [e];refine zZ (jQ hpn12 prn12 fun ws hw=>nn ws (nlen ws hw)) ?_;show upd H12 pn _ ld=_;rw [zR (hld12.ne (nn lead llead) hpn12)]; exact hld12
     ·rw [zR npz]; exact hW12
     ·exact qG (jQ hpn12 prz12 fun ws hw=>nn ws (zlen ws hw)) (jQ hpn12 prc12 fun ws hw=>nn ws (clen ws hw))
   ·have c2:¬ 0 <((Wt.filter fun r=>decide (r.getD i 0≠0)).length:Int):=of_decide_eq_false (uA.mpr c1);have ef:Wt.filter (fun r=>decide (r.getD i 0≠0))=[]:=ue (by omega);have turn:La.swTurn k i (Dn,Wt) =(Dn,Wt):=by
     unfold La.swTurn;simp only [ef]
    rw [turn];exact⟨td,tw,rd,rw',_,_,_,rfl,g23,hD3,hW3⟩
  ·rintro σ H2 ⟨td,tw,rd,rw',o5,o6,o7,rfl,g2,hD,hW⟩
   exact⟨_,rfl,q td rd H2 g2 hD⟩
 ·have c':¬ 0 <(Ws.length:Int):=of_decide_eq_false (uA.mpr c);have ew:Ws=[]:=ue (by omega);refine⟨_,rfl,_,rfl,(by decide),(by decide),?_⟩;refine yC (lo:=0) (n:=(0:Int).toNat) (fun i σ H'=>∃ o5 o6 o7,σ=[some (.int k),some (.ref t),some (.ref pd),some (.ref pw),some (.int 0),o5,o6,o7]/\H'=H1) ⟨none,none,none,rfl,rfl⟩ ?_ ?_
  ·intro i σ H2 hi;exact absurd hi (vH i)
  ·rintro σ H2 ⟨o5,o6,o7,rfl,rfl⟩
   refine⟨_,rfl,q pd [] _ g1 ?_⟩;rw [ew,La.zcT];exact⟨hpd1,.nil⟩
noncomputable def Xb:Sp:=fun vs H Q _=>∃(k:Int)(p:Nat)(ws:List Int)(a:Addr),vs=[.int k,.ref a]/\KindOk k/\IRow H ws a/\p<ws.length/\ws.getD p 0≠0/\(∀ j,j<p->ws.getD j 0=0)/\nnum k (ws.getD p 0)≠nnum k 0/\(∀ w∈ws,Sm 60000000 w)/\ws.length<sizeLine /\
 ∀ vs' a' H',Same H H'->H' a'=none->Paired (RN H') (La.overL k (p,ws)) vs'->Q (.ref a') (upd H' a' (.lst vs'))
theorem zbb (D:Df K mg "over_lead" ["kind", "wholes"] qx) (YQ:Kn P w K mg base "quotient" 43 ["kind", "top", "bottom"] zcp):Kn P w K mg base "over_lead" 44 ["kind", "wholes"] Xb:=by
 refine D.kn sc_over_lead (fun vs H Q E h=>?_) (fun f cdv A outer s H vs Q E hr h=>?_)
 ·obtain⟨k,p,ws,a,rfl,_⟩:=h; rfl
 obtain⟨k,p,ws,a,rfl,hk,ha,hp,hn,hz,ne,sz,hl,q⟩:=h;refine⟨_,(zc (zm (i:=2) sc_over_lead.nd rfl (.inr rfl) (zG zo (zN ["whole"] [] [] ⟨rfl,rfl,rfl,rfl,rfl,rfl,by decide +kernel⟩ rfl (zI (pv 1)) (zj (by decide)) fun _ _ _ _ _ _=>⟨(zi (i:=0) (by decide:(["whole"]:List Str).Nodup) rfl (by first | exact Or.inl rfl | exact Or.inr rfl)),(qD (zD Xh (pv 0) ze (nomark _))),(pv 0)⟩) ze (fun _ _=>rfl))) (zg (zp (zN ["whole"] ["kind", "lead"] [0,2] ⟨rfl,rfl,rfl,rfl,rfl,rfl,by decide +kernel⟩ rfl (zI (pv 1)) (zj (by decide)) fun _ _ _ _ _ _=>⟨(zi (i:=0) (by decide:(["whole", "kind", "lead"]:List Str).Nodup) rfl (by first | exact Or.inl rfl | exact Or.inr rfl)),zL,(zt YQ (hr.mono (by decide)) rfl (za (pv 1) (za (pv 0) (za (pv 2) zd))))⟩)))),?_⟩;refine⟨_,rfl,a,rfl,⟨_,SqL.of ha⟩,?_⟩;refine zP (xs:=ws.map V.int) (fun i ys H'=>H'=H/\ys =((ws.take i).filter fun w=>decide (w≠0)).map V.int) ⟨rfl,by simp⟩ ?_ ?_ ?_
 ·rintro i ys H' hi ⟨rfl,rfl⟩
  refine⟨SqL.of ha,?_⟩;have h2:=vL (fun w:Int=>decide (w≠0)) (ws.take i);rw [wv] at h2;rw [wa]; omega
 ·rintro i v ys H' hv hi ⟨rfl,rfl⟩
  rw [wg] at hv;obtain⟨u,hu,rfl⟩:=wU.mp hv;refine⟨_,rfl,rfl,_,rfl,?_⟩;refine ite2 (fun c1=>?_) (fun c1=>?_)
  ·have z:u≠0:=fun z=>by rw [z] at c1; exact absurd c1 (by decide)
   refine⟨_,rfl,nxt hi ⟨rfl,?_⟩⟩;rw [La.xm _ hu,if_pos (decide_eq_true z),ww]; rfl
  ·have z:u=0:=by
    by_cases z:u=0
    ·exact z
    ·exact absurd (by have h':¬ V.int u=V.int 0:=fun e=>z (V.int.inj e); rw [decide_eq_false h']; rfl) c1
   refine nxt hi ⟨rfl,?_⟩;rw [La.xm _ hu,if_neg (show ¬ decide (u≠0)=true from fun h=>of_decide_eq_true h z),vP]
 rintro ys H' ⟨rfl,rfl⟩ pf hpf
 rw [wa,vo];have g1:=zf hpf (.lst ((ws.filter fun w=>decide (w≠0)).map V.int));refine⟨pf,_,_,_,rfl,rfl,SqL.of zh,zH (j:=0) (by rw [wg,La.zhi hp hz hn]; rfl),?_⟩;have ha1:=ha.mono g1;generalize upd H' pf (.lst ((ws.filter fun w=>decide (w≠0)).map V.int))=H1 at *;refine⟨_,rfl,a,rfl,⟨_,SqL.of ha1⟩,?_⟩;refine zP (xs:=ws.map V.int) (fun i ys H2=>Same H1 H2/\Paired (RN H2) ((La.overL k (p,ws)).take i) ys) ⟨Same.refl _,.nil⟩ ?_ ?_ ?_
 ·rintro i ys H2 hi ⟨g2,pr⟩
  refine⟨SqL.of (ha1.mono g2),?_⟩;have:=zk pr;unfold La.overL at this;rw [wv,wa] at this;rw [wa] at hi;show ys.length<sizeLine;have e:(p,ws).2=ws:=rfl;rw [e] at this;omega
 ·rintro i v ys H2 hv hi ⟨g2,pr⟩
  rw [wg] at hv;obtain⟨u,hu,rfl⟩:=wU.mp hv
  first | refine gyes ?_ | refine tyes ?_
  refine⟨_,rfl,_,rfl,_,rfl,k,u,ws.getD p 0,rfl,hk,ne,sz u (wc hu),Zv sz p,fun v3 H3 g3 r3=>nxt hi ⟨g2.trans g3,?_⟩⟩;have e:(La.overL k (p,ws))[i]?=some (ndiv k (nnum k u) (nnum k (ws.getD p 0))):=by unfold La.overL; rw [wg]; show Option.map _ ws[i]?=_; rw [hu]; rfl
  rw [zw e];exact zZ (jm g3 pr) r3
 ·rintro ys H2 ⟨g2,pr⟩ a' ha'
  rw [wa,wp (by unfold La.overL; rw [wa]; exact wu _)] at pr;exact q ys a' H2 (g1.trans g2) ha' pr
noncomputable def jN:Sp:=fun vs H Q _=>∃(k:Int)(M:List (List Nb))(n B:Nat)(t:Addr)(ras:List Addr),vs=[.int k,.ref t]/\KindOk k/\TabAt H M t ras/\La.OkM k n M/\La.rowsB B M/\61<=B/\(B+1)*2^n<=60000000/\n<sizeLine/\M.length<=8000000 /\
 ∀ R ls top rs H',Same H H'->NewT H H' R top rs->(∀(F:Type) [Lean.Grind.Field F] (φ:La.Kf k F),La.RedOf φ n M R ls)->R.length<=M.length->Q (.ref top) H'
theorem zdS (D:Df K mg "reduced" ["kind", "rows"] ZB) (Zd:Kn P w K mg base "scaled" 41 ["kind", "row"] Xy) (zh7:Kn P w K mg base "swept" 43 ["kind", "rows"] zcV) (zcA:Kn P w K mg base "over_lead" 44 ["kind", "wholes"] Xb):Kn P w K mg base "reduced" 45 ["kind", "rows"] jN:=by
 refine D.kn sc_reduced (fun vs H Q E h=>?_) (fun f cdv A outer s H vs Q E hr h=>?_)
 ·obtain⟨k,M,n,B,t,ras,rfl,_⟩:=h; rfl
 obtain⟨k,M,n,B,t,ras,rfl,hk,hT,oM,sM,b2,hb,nz,mz,q⟩:=h;have lras:=zk hT.2;have szl:sizeLine=16777216:=by decide
 have b1:B<=60000000/\(B+1)*2^n - 1<=60000000:=by
  have h1:1<=2^n:=uK;have h2:(B+1)*1<=(B+1)*2^n:=vh _ h1;omega
 refine⟨_,(zc (xY (i:=2) sc_reduced.nd rfl rfl ["row"] ["kind"] [0] ⟨rfl,rfl,rfl,rfl,rfl,rfl,by decide +kernel⟩ rfl (zI (pv 1)) (zj (by decide)) fun _ _ _ _ _ _=>⟨(zi (i:=0) (by decide:(["row", "kind"]:List Str).Nodup) rfl (by first | exact Or.inl rfl | exact Or.inr rfl)),zL,(zG zJ (zt Zd (hr.mono (by decide)) rfl (za (pv 1) (za (pv 0) zd))) ze (fun _ _=>rfl))⟩) (zg (zp (zN ["row"] ["kind"] [0] ⟨rfl,rfl,rfl,rfl,rfl,rfl,by decide +kernel⟩ rfl (zI (zt zh7 (hr.mono (by decide)) rfl (za (pv 0) (za (pv 2) zd)))) (zj (by decide)) fun _ _ _ _ _ _=>⟨(zi (i:=0) (by decide:(["row", "kind"]:List Str).Nodup) rfl (by first | exact Or.inl rfl | exact Or.inr rfl)),zL,(zt zcA (hr.mono (by decide)) rfl (za (pv 1) (za (pv 0) zd)))⟩)))),?_⟩;refine⟨_,rfl,t,rfl,⟨_,SqL.of hT.1⟩,?_⟩;refine zP (xs:=ras.map V.ref) (fun i ys H'=>∃ Ws rl,ys=rl.map V.ref/\Same H H'/\Paired (IRow H') Ws rl/\Paired (fun xs ws=>(∃ b,La.Scl k xs ws b)/\∀ w∈ws,Sm (B) w) (M.take i) Ws) ⟨[],[],rfl,Same.refl _,.nil,.nil⟩ ?_ ?_ ?_
 ·rintro i ys H' hi ⟨Ws,rl,rfl,g,pr,ps⟩
  refine⟨SqL.of (g _ _ hT.1),?_⟩;have h1:=zk pr;have h2:=zk ps;rw [wv] at h2;rw [wa]; omega
 ·rintro i v ys H' hv hi ⟨Ws,rl,rfl,g,pr,ps⟩
  obtain⟨xs,a,hx,ha,rfl,hrow⟩:=(hT.mono g).row hv;obtain⟨lx,ox⟩:=oM xs (wc hx)
  first | refine gyes ?_ | refine tyes ?_
  refine⟨_,rfl,_,rfl,k,xs,a,B,rfl,hk,hrow,ox,sM xs (wc hx),b2,b1.1,by omega,fun p H2 g2 sc=>?_⟩;obtain⟨l,ws,b,hp,hl,sc,sb,sw⟩:=sc;refine⟨p,_,_,_,rfl,rfl,SqT.of hp,rfl,nxt hi ⟨Ws++[ws],rl++[l],by rw [ww]; rfl,g.trans g2,zZ (Zp g2 pr) hl,?_⟩⟩;rw [zw hx];exact zZ ps ⟨⟨b,sc⟩,sw⟩
 rintro ys H' ⟨Ws,rl,rfl,g,pr,ps⟩ pw hpw
 rw [wa,wp (by omega)] at ps;have lps:=zk ps;have g1:=g.trans (zf hpw (.lst (rl.map V.ref)));have hpw1:upd H' pw (.lst (rl.map V.ref)) pw=some (.lst (rl.map V.ref)):=zh;have pr1:=Zp (zf hpw (.lst (rl.map V.ref))) pr;generalize upd H' pw (.lst (rl.map V.ref))=H1 at *;have wl:∀ r∈Ws,r.length=n:=fun r hr=>by
  obtain⟨xs,hx,⟨b,sc⟩,_⟩:=Yi ps hr;rw [sc.len,(oM xs hx).1]
 have ws':∀ r∈Ws,∀ w∈r,Sm (B) w:=fun r hr=>by
  obtain⟨xs,hx,_,h⟩:=Yi ps hr;exact h
 refine⟨_,rfl,_,rfl,k,Ws,n,B,pw,rl,rfl,hk,⟨hpw1,pr1⟩,wl,nz,by omega,ws',b2,hb,fun pp rs H2 g2 hI=>?_⟩;refine⟨pp,rfl,⟨_,SqL.of hI.1⟩,?_⟩;have red:∀(F:Type) [Lean.Grind.Field F] (φ:La.Kf k F),La.RedOf φ n M (La.redM k n Ws) (La.leadsM k n Ws):=fun F _ φ=>La.Jw φ hk oM lps.symm fun i r ws h1 h2=>(ja ps h1 h2).1
 have fine:=La.Fine.to (k:=k) hk.lt.1 wl n;have szs:=ziy hk b2 wl ws' n;have lens:=La.ZK (k:=k) Ws n;obtain⟨F0,i0,d0,⟨φ0⟩⟩:=La.yf hk;have lead:∀ p∈(La.swTo k Ws n).1,p.1<n/\p.2.length=n/\p.2.getD p.1 0≠0/\(∀ j,j<p.1->p.2.getD j 0=0)/\nnum k (p.2.getD p.1 0)≠nnum k 0:=fun p hp=>by
  obtain⟨h1,h2,h3,h4⟩:=La.Zg φ0 hk.lt.1 wl hp;refine⟨h1,h2,h3,h4,La.zao φ0 fun z=>h3 ?_⟩;exact(La.XV φ0 (fine.df p hp) p.1).mp z
 generalize hS:(La.swTo k Ws n).1=Dn at *;have lrs:=zk hI.2;rw [wa] at lrs;have eR:La.redM k n Ws=Dn.map (La.overL k):=by unfold La.redM; rw [hS]
 refine zP (xs:=rs.map V.ref) (fun i ys H3=>∃ ras2,ys=ras2.map V.ref/\Grow H2 H3 ((La.redM k n Ws).take i) ras2) ⟨[],rfl,Grow.nil H2 (Same.refl H2)⟩ ?_ ?_ ?_
 ·rintro i ys H3 hi ⟨ras2,rfl,G⟩
  refine⟨SqL.of (G.same _ _ hI.1),?_⟩;have:=zk G.rows;rw [wv,eR,wa] at this;rw [wa]; omega
 ·rintro i v ys H3 hv hi ⟨ras2,rfl,G⟩
  obtain⟨ws,a,hw,ha,rfl,hrow⟩:=(hI.mono G.same).row hv;rw [wg] at hw;obtain⟨p,hp,rfl⟩:=wU.mp hw;have hm:=wc hp;obtain⟨l1,l2,l3,l4,l5⟩:=lead p hm
  first | refine gyes ?_ | refine tyes ?_
  refine⟨_,rfl,_,rfl,k,p.1,p.2,a,rfl,hk,hrow,by omega,l3,l4,l5,fun w hw=>(szs.1 p (by rw [hS]; exact hm) w hw).mono (by omega),by omega,fun vs' a' H4 g4 ha' pr4=>nxt hi ⟨ras2++[a'],by rw [ww]; rfl,?_⟩⟩;have e:(La.redM k n Ws)[i]?=some (La.overL k (p.1,p.2)):=by rw [eR,wg,hp]; rfl
  rw [zw e];exact(G.mono g4).snoc ha' pr4
 rintro ys H3 ⟨ras2,rfl,G⟩ top ht
 rw [wa,wp (by rw [eR,wa]; omega)] at G;have N:=G.done ht;refine q (La.redM k n Ws) (La.leadsM k n Ws) top ras2 _ ((g1.trans g2).trans (G.same.trans (zf ht _))) ⟨N.tab,(g1.trans g2).none N.ft,fun r hr=>(g1.trans g2).none (N.fr r hr),N.nd,N.nt⟩ red (by rw [eR,wa]; omega)
noncomputable def zbY:Sp:=fun vs H Q _=>∃(k:Int)(xs:List Nb)(a:Addr)(l:Nat)(x:Nb),vs=[.int k,.ref a]/\RowAt H xs a/\(∀ j,j<l->xs[j]?=some (nnum k 0))/\xs[l]?=some x/\x≠nnum k 0/\∀ H',Same H H'->Q (.int (l:Int)) H'
theorem ziE (D:Df K mg "lead_of" ["kind", "row"] Yd) (yP:Kn P w K mg base "number" 1 ["kind", "whole"] jp):Kn P w K mg base "lead_of" 2 ["kind", "row"] zbY:=by
 refine D.kn sc_lead_of (fun vs H Q E h=>?_) (fun f cdv A outer s H vs Q E hr h=>?_)
 ·obtain⟨k,xs,a,l,x,rfl,_⟩:=h; rfl
 obtain⟨k,xs,a,l,x,rfl,ha,hz,hl,ne,q⟩:=h;refine⟨_,(zc (zm (i:=2) sc_lead_of.nd rfl (.inl rfl) (zt yP (hr.mono (by decide)) rfl (za (pv 0) (za ze zd)))) (zc (zm (i:=3) sc_lead_of.nd rfl (.inl rfl) ze) (zc (qp PassesOwn.never (zD (zhG hr) (zG zo (pv 1) (pv 3) (fun _ _=>rfl)) (pv 2) (nomark _)) (zg (zi6 (i:=3) sc_lead_of.nd rfl (.inl rfl) ze zjF))) (zg (zp (pv 3)))))),?_⟩;refine⟨_,rfl,k,0,rfl,fun v0 H1 g1 r1=>?_⟩;obtain⟨us,hu,pu,lu⟩:=(ha.mono g1).len;refine⟨fun m σ H'=>∃ p:Nat,σ=[some (.int k),some (.ref a),some v0,some (.int (p:Int))]/\H'=H1/\p<=l/\m=l - p,⟨_,0,rfl,rfl,vz _,rfl⟩,?_⟩
 rintro m σ H' ⟨p,rfl,rfl,pl,rfl⟩
 rcases wN p l with h | h
 ·obtain⟨u,eu,ru⟩:=yi pu (hz p h);refine⟨_,rfl,_,rfl,a,_,_,_,rfl,rfl,SqL.of hu,zH eu,_,rfl,toD (nnum k 0),toD (nnum k 0),ru,r1,yN _,yN _,wF (vD _ _) (wF (xt _) (by decide)),_,rfl,?_⟩;rw [zcR];refine iteT ⟨_,fun _ _ h=>h,?_⟩;exact⟨_,rfl,_,_,rfl,rfl,_,by omega,p+1,rfl,rfl,by omega,rfl⟩
 ·have e:p=l:=by omega
  subst e;obtain⟨u,eu,ru⟩:=yi pu hl;refine⟨_,rfl,_,rfl,a,_,_,_,rfl,rfl,SqL.of hu,zH eu,_,rfl,toD x,toD (nnum k 0),ru,r1,yN _,yN _,wF (vD _ _) (wF (xt _) (by decide)),_,rfl,?_⟩;rw [jH,decide_eq_false ne];refine iteF ?_;exact⟨_,rfl,q _ g1⟩
noncomputable def Qf:Sp:=fun vs H Q _=>∃(k:Int)(n:Nat),vs=[.int k,.int (n:Int)]/\n<=1000/\∀ v0 pt H',Same H H'->RN H' (nnum k 0) v0->H' pt=some (.lst (wD n v0))->H pt=none->Q (.ref pt) H'
theorem zd1 (D:Df K mg "noughts" ["kind", "width"] ZF) (yP:Kn P w K mg base "number" 1 ["kind", "whole"] jp):Kn P w K mg base "noughts" 2 ["kind", "width"] Qf:=by
 refine D.kn zdM (fun vs H Q E h=>?_) (fun f cdv A outer s H vs Q E hr h=>?_)
 ·obtain⟨k,n,rfl,_⟩:=h; rfl
 obtain⟨k,n,rfl,hn,q⟩:=h;have szl:sizeLine=16777216:=by decide
 refine⟨_,(zg (zp (zq zjt (yF (za (zt yP (hr.mono (by decide)) rfl (za (pv 0) (za ze zd))) zd)) (pv 1)))),?_⟩;refine⟨_,rfl,k,0,rfl,fun v0 H1 g1 rv0=>⟨(by show 1<=sizeLine; decide),fun p1 hp1=>?_⟩⟩;refine⟨_,rfl,p1,_,_,rfl,rfl,zh,(by omega),(by omega),(by show 1 *(n:Int).toNat<=sizeLine; omega),fun pt hpt=>?_⟩;rw [zfz,wP];exact q v0 pt _ ((g1.trans (zf hp1 (.lst [v0]))).trans (zf hpt (.lst (wD n v0)))) ((rv0.mono (zf hp1 (.lst [v0]))).mono (zf hpt (.lst (wD n v0)))) zh ((g1.trans (zf hp1 (.lst [v0]))).none hpt)
noncomputable def qX:Sp:=fun vs H Q _=>∃(k:Int)(A B:List (List Nb))(n C:Nat)(t1 t2:Addr)(r1 r2:List Addr),vs=[.int k,.ref t1,.ref t2]/\KindOk k/\TabAt H A t1 r1/\TabAt H B t2 r2/\La.OkM k n A/\La.OkM k n B/\La.rowsB C A/\La.rowsB C B/\61<=C/\(C+1)*2^n<=60000000/\n<=64/\A.length<=1000/\B.length<=1000 /\
 ∀ R ls top rs H',Same H H'->NewT H H' R top rs->(∀(F:Type) [Lean.Grind.Field F] (φ:La.Kf k F),La.RedOf φ n (A++B) R ls)->Q (.ref top) H'
theorem zee (D:Df K mg "joined" ["kind", "one", "other"] Xv) (xT:Kn P w K mg base "reduced" 45 ["kind", "rows"] jN):Kn P w K mg base "joined" 46 ["kind", "one", "other"] qX:=by
 refine D.kn zeD (fun vs H Q E h=>?_) (fun f cdv A' outer s H vs Q E hr h=>?_)
 ·obtain⟨k,A,B,n,C,t1,t2,r1,r2,rfl,_⟩:=h; rfl
 obtain⟨k,A,B,n,C,t1,t2,r1,r2,rfl,hk,hA,hB,oA,oB,cA,cB,c7,hc,n64,lA,lB,q⟩:=h;have szl:sizeLine=16777216:=by decide
 have l1:=zk hA.2;have l2:=zk hB.2;refine⟨_,(zg (zp (zt xT (hr.mono (by decide)) rfl (za (pv 0) (za (zq Zr (pv 1) (pv 2)) zd))))),?_⟩;refine⟨_,rfl,_,rfl,_,rfl,t1,t2,_,_,rfl,rfl,hA.1,hB.1,(by rw [wa,wa]; omega),fun p hp=>?_⟩;have g:=zf hp (.lst (r1.map V.ref++r2.map V.ref));have T:TabAt (upd H p (.lst (r1.map V.ref++r2.map V.ref))) (A++B) p (r1++r2):=⟨by rw [zh,ww],qG (hA.mono g).2 (hB.mono g).2⟩;generalize upd H p (.lst (r1.map V.ref++r2.map V.ref))=H1 at *;refine⟨k,A++B,n,C,p,r1++r2,rfl,hk,T,(fun r hr=>(wq.mp hr).elim (oA r) (oB r)),cA.app cB,c7,hc,by omega,(by rw [wx]; omega),fun R ls top rs H2 g2 nt red _=>?_⟩;exact q R ls top rs H2 (g.trans g2) ⟨nt.tab,g.none nt.ft,fun r hr=>g.none (nt.fr r hr),nt.nd,nt.nt⟩ red
noncomputable def zey:Sp:=fun vs H Q _=>∃(k:Int)(n:Nat)(R:List (List Nb))(ls:List Nat)(f:Nat)(fI:Int)(t:Addr)(rs:List Addr),vs=[.int k,.int (n:Int),.ref t,.int fI]/\fI =(f:Int)/\KindOk k/\TabAt H R t rs/\IsRa k n R ls/\f<n/\f∉ls/\n<=64/\(∀ r∈R,∀ x∈r,nsm 60000000 x) /\
 ∀ xs p H',Same H H'->NewR H H' xs p->La.AgR k n R ls f xs->Q (.ref p) H'
theorem zif (D:Df K mg "against_by" ["kind", "n", "rows", "free"] jz) (zfD:Kn P w K mg base "noughts" 2 ["kind", "width"] Qf) (yP:Kn P w K mg base "number" 1 ["kind", "whole"] jp) (Jh:Kn P w K mg base "lead_of" 2 ["kind", "row"] zbY) (zio:Kn P w K mg base "minus" 42 ["kind", "one", "other"] (qV nsub)):Kn P w K mg base "against_by" 43 ["kind", "n", "rows", "free"] zey:=by
 refine D.kn sc_against_by (fun vs H Q E h=>?_) (fun f' cdv A' outer s H vs Q E hr h=>?_)
 ·obtain⟨k,n,R,ls,f,fI,t,rs,rfl,_⟩:=h; rfl
 obtain⟨k,n,R,ls,f,fI,t,rs,rfl,rfl,hk,hT,isR,hf,nf,n64,sR,q⟩:=h;have szl:sizeLine=16777216:=by decide
 obtain⟨oR,lls,inc,llt⟩:=yg hk isR;have nd:ls.Nodup:=inc.imp fun h=>wS h
 obtain⟨F0,i0,d0,⟨φ0⟩⟩:=La.yf hk;refine⟨_,(zc (zm (i:=4) sc_against_by.nd rfl (.inl rfl) (zt zfD (hr.mono (by decide)) rfl (za (pv 0) (za (pv 1) zd)))) (zc (jA (zt yP (hr.mono (by decide)) rfl (za (pv 0) (za ze zd))) (YT (pv 4) (pv 3) jE)) (zc (yA PassesOwn.never rfl (zI (pv 2)) (zi (i:=5) sc_against_by.nd rfl (.inl rfl)) (zg (jA (zt zio (hr.mono (by decide)) rfl (za (pv 0) (za (zt yP (hr.mono (by decide)) rfl (za (pv 0) (za ze zd))) (za (zG zo (pv 5) (pv 3) (fun _ _=>rfl)) zd)))) (YT (pv 4) (zt Jh (hr.mono (by decide)) rfl (za (pv 0) (za (pv 5) zd))) jE)))) (zg (zp (pv 4)))))),?_⟩;refine⟨_,rfl,_,rfl,k,n,rfl,(by omega),fun v0 pt H2 g2 rv2 hpt2 ptH=>?_⟩;refine⟨_,rfl,k,1,rfl,fun v1 H3 g3 rv1=>?_⟩;have hpt3:=g3 _ _ hpt2;refine⟨_,rfl,_,rfl,pt,_,_,f,rfl,rfl,hpt3,qL (by rw [wQ]; exact hf),?_⟩;have g4:Same H (upd H3 pt (.lst ((wD n v0).set f v1))):=yz (g2.trans g3) ptH;have pr4:=ZZ (zs':=(wD n v0).set f v1) hpt3 (JX (zev (rv2.mono g3) n) f rv1);have hpt4:upd H3 pt (.lst ((wD n v0).set f v1)) pt=some (.lst ((wD n v0).set f v1)):=zh;generalize upd H3 pt (.lst ((wD n v0).set f v1))=H4 at *;have T4:=hT.mono g4;have npt:pt∉rs:=qy hT ptH;have ntop:t≠pt:=fun e=>by rw [← e,hT.1] at ptH; cases ptH
 have lrs:=zk hT.2;refine⟨_,rfl,t,rfl,⟨_,SqL.of T4.1⟩,?_⟩;refine xg (xs:=rs.map V.ref) (fun i σ H'=>∃ x us o5,σ=[some (.int k),some (.int (n:Int)),some (.ref t),some (.int (f:Int)),some (.ref pt),o5]/\Same H H'/\H' pt=some (.lst us)/\Paired (RN H') x us/\AgI k n R ls f i x) ⟨_,_,none,rfl,g4,hpt4,pr4,AgI.start hk hf R ls⟩ ?_ ?_ ?_
 ·rintro i σ H' _ ⟨x,us,o5,rfl,g,_⟩
  exact SqL.of (g _ _ hT.1)
 ·rintro i v σ H5 hv ⟨x,us,o5,rfl,g5,hpt5,px,tI⟩
  obtain⟨row,a,hrow,ha,rfl,hR⟩:=(hT.mono g5).row hv;have iR:i<R.length:=(wo.mp hrow).1;obtain⟨l,hl⟩ : ∃ l,ls[i]?=some l:=⟨ls[i]'(by omega),wb (by omega)⟩;obtain⟨ln,lz,l1⟩:=QI hk (isR F0 φ0) hrow hl;have orow:=oR row (wc hrow);have hfr:f<row.length:=by rw [orow.1]; exact hf
  refine⟨_,rfl,_,rfl,k,0,rfl,fun v2 H6 g6 rv2'=>?_⟩;obtain⟨us6,hu6,pu6,lu6⟩:=(hR.mono g6).len;obtain⟨vy,ey,ry⟩:=yi pu6 (wb hfr);refine⟨_,rfl,_,rfl,a,_,_,_,rfl,rfl,SqL.of hu6,zH ey,k,_,_,v2,vy,rfl,⟨hk,La.zU hk 0,orow.2 _ (wk hfr),(qW hk (qr 61) (by decide)).mono (by decide),sR row (wc hrow) _ (wk hfr),rv2',ry⟩,fun v7 H7 g7 rv7=>?_⟩;refine⟨_,rfl,_,rfl,_,rfl,k,row,a,l,_,rfl,(hR.mono g6).mono g7,lz,l1,num01 hk,fun H8 g8=>?_⟩;have g58:=(g6.trans g7).trans g8;have hpt8:=g58 _ _ hpt5;have lus:=zk px;refine⟨pt,_,_,l,rfl,rfl,hpt8,qL (by rw [← lus,tI.len]; exact ln),?_⟩;exact⟨_,_,_,rfl,yz (g5.trans g58) ptH,zh,ZZ hpt8 (JX (jm g58 px) l (rv7.mono g8)),tI.step hk nd nf hl hrow (wb hfr) (orow.2 _ (wk hfr)) ln⟩
 ·rintro σ H5 ⟨x,us,o5,rfl,g5,hpt5,px,tI⟩
  rw [wa,← lrs] at tI;exact⟨_,rfl,q x pt H5 g5 ⟨⟨us,hpt5,px⟩,ptH⟩ (tI.done lls)⟩
noncomputable def Yz:Sp:=fun vs H Q _=>∃(k:Int)(n:Nat)(W:List (List Nb))(lw:List Nat)(C:Nat)(t:Addr)(ras:List Addr),vs=[.int k,.int (n:Int),.ref t]/\KindOk k/\TabAt H W t ras/\IsRa k n W lw/\La.rowsB C W/\61<=C/\1<=n/\n<=64/\(n*C+1)*2^n<=60000000 /\
 ∀ A la top rs H',Same H H'->NewT H H' A top rs->IsRa k n A la->(∀(F:Type) [Lean.Grind.Field F] (φ:La.Kf k F) (v:Nat->F),La.Rm φ A v↔La.perp n (La.Rm φ W) v)->Q (.ref top) H'
theorem zi7{C n:Nat}(h:(n*C+1)*2^n<=60000000)(n1:1<=n):(C+1)*2^n<=60000000/\C<=60000000:=by
 have h1:C+1<=n*C+1:=by have:1*C<=n*C:=vm _ n1; omega
 have h2:(C+1)*2^n<=(n*C+1)*2^n:=vm _ h1;have h3:(C+1)*1<=(C+1)*2^n:=vh _ uK;omega
theorem zdE (D:Df K mg "against" ["kind", "n", "room"] ZV) (xT:Kn P w K mg base "reduced" 45 ["kind", "rows"] jN) (Jh:Kn P w K mg base "lead_of" 2 ["kind", "row"] zbY) (zbl:Kn P w K mg base "against_by" 43 ["kind", "n", "rows", "free"] zey) (zy:mg "range" = none):Kn P w K mg base "against" 46 ["kind", "n", "room"] Yz:=by
 refine D.kn sc_against (fun vs H Q E h=>?_) (fun f cdv A' outer s H vs Q E hr h=>?_)
 ·obtain⟨k,n,W,lw,C,t,ras,rfl,_⟩:=h; rfl
 obtain⟨k,n,W,lw,C,t,ras,rfl,hk,hT,isW,cW,c7,n1,n64,hc,q⟩:=h;have szl:sizeLine=16777216:=by decide
 obtain⟨oW,_,_,_⟩:=yg hk isW;have lW:=yK hk isW;obtain⟨hc1,hc2⟩:=zi7 hc n1;refine⟨_,(zc (zm (i:=3) sc_against.nd rfl (.inr rfl) (zt xT (hr.mono (by decide)) rfl (za (pv 0) (za (pv 2) zd)))) (zc (zm (i:=4) sc_against.nd rfl (.inr rfl) (zN ["row"] ["kind"] [0] ⟨rfl,rfl,rfl,rfl,rfl,rfl,by decide +kernel⟩ rfl (zI (pv 3)) (zj (by decide)) fun _ _ _ _ _ _=>⟨(zi (i:=0) (by decide:(["row", "kind"]:List Str).Nodup) rfl (by first | exact Or.inl rfl | exact Or.inr rfl)),zL,(zt Jh (hr.mono (by decide)) rfl (za (pv 1) (za (pv 0) zd)))⟩)) (zg (zp (zt xT (hr.mono (by decide)) rfl (za (pv 0) (za (zN ["free"] ["kind", "n", "rows", "leads"] [0,1,3,4] ⟨rfl,rfl,rfl,rfl,rfl,rfl,by decide +kernel⟩ rfl (zM rfl zy (za (pv 1) zd)) (zj (by decide)) fun _ _ _ _ _ _=>⟨(zi (i:=0) (by decide:(["free", "kind", "n", "rows", "leads"]:List Str).Nodup) rfl (by first | exact Or.inl rfl | exact Or.inr rfl)),(qD (zD zbH (pv 0) (pv 4) (by with_unfolding_all rfl))),(zt zbl (hr.mono (by decide)) rfl (za (pv 1) (za (pv 2) (za (pv 3) (za (pv 0) zd)))))⟩) zd))))))),?_⟩;refine⟨_,rfl,_,rfl,k,W,n,C,t,ras,rfl,hk,hT,oW,cW,c7,hc1,by omega,by omega,fun R ls top rs H1 g1 nR red _=>?_⟩;obtain rfl:R=W:=La.zi9 hk red isW (La.SameRm.refl _);have isR:=yJ red;obtain⟨_,lls,inc,llt⟩:=yg hk isR;obtain⟨F0,i0,d0,⟨φ0⟩⟩:=La.yf hk;have lrs:=zk nR.tab.2;refine⟨_,rfl,top,rfl,⟨_,SqL.of nR.tab.1⟩,?_⟩;refine zP (xs:=rs.map V.ref) (fun i ys H'=>Same H1 H'/\ys=natV (ls.take i)) ⟨Same.refl _,rfl⟩ ?_ ?_ ?_
 ·rintro i ys H' hi ⟨g,rfl⟩
  refine⟨SqL.of (g _ _ nR.tab.1),?_⟩;unfold natV;rw [wa,wv]; omega
 ·rintro i v ys H' hv hi ⟨g,rfl⟩
  obtain⟨row,a,hrow,ha,rfl,hR⟩:=(nR.tab.mono g).row hv;have iR:i<R.length:=(wo.mp hrow).1;obtain⟨l,hl⟩ : ∃ l,ls[i]?=some l:=⟨ls[i]'(by omega),wb (by omega)⟩;obtain⟨ln,lz,l1⟩:=QI hk (isR F0 φ0) hrow hl
  first | refine gyes ?_ | refine tyes ?_
  refine⟨_,rfl,_,rfl,k,row,a,l,_,rfl,hR,lz,l1,num01 hk,fun H2 g2=>nxt hi ⟨g.trans g2,?_⟩⟩;rw [zw hl];unfold natV;rw [ww]; rfl
 rintro ys H2 ⟨g2,rfl⟩ pL hpL
 rw [wa,wp (by omega)];have g3:=(g1.trans g2).trans (zf hpL (.lst (natV ls)));have T3:=(nR.tab.mono g2).mono (zf hpL (.lst (natV ls)));have hL3:upd H2 pL (.lst (natV ls)) pL=some (.lst (natV ls)):=zh;generalize upd H2 pL (.lst (natV ls))=H3 at *;refine⟨_,rfl,_,rfl,n,rfl,(by omega),(by omega),?_⟩;rw [wP];refine yb (lo:=0) (n:=n) (fun i ys H'=>∃ A ras2,ys=ras2.map V.ref/\Grow H3 H' A ras2/\Paired (fun f xs=>La.AgR k n R ls f xs) (((wY n).take i).filter fun f=>!decide (f∈ls)) A) ⟨[],[],rfl,Grow.nil H3 (Same.refl _),by simp; exact .nil⟩ ?_ ?_ ?_
 ·rintro i ys H' hi ⟨A,ras2,rfl,G,pA⟩
  have e1:=zk G.rows;have e2:=zk pA;have e3:=vL (fun f=>!decide (f∈ls)) ((wY n).take i);rw [wv,vB] at e3;rw [wa]; omega
 ·rintro i ys H' hi ⟨A,ras2,rfl,G,pA⟩
  have ei:(wY n)[i]?=some i:=vv hi;refine⟨_,rfl,_,rfl,pL,_,rfl,.inl (SqL.of (G.same _ _ hL3)),rfl,zbI ls,_,rfl,?_⟩;have ein:(if true=true then !inV (V.int (0 +(i:Int))) (natV ls)else inV (V.int (0 +(i:Int))) (natV ls))=!decide (i∈ls):=by rw [if_pos rfl,wT,zeT]
  rw [ein];refine ite2 (fun c=>?_) (fun c=>?_)
  ·have nm:i∉ls:=fun hm=>by rw [decide_eq_true hm] at c; exact absurd c (by decide)
   refine⟨_,rfl,_,rfl,_,rfl,_,rfl,k,n,R,ls,i,_,top,rs,rfl,wT _,hk,T3.mono G.same,isR,hi,nm,n64,fun r hr x hx=>(qF hk oW cW c7 r hr x hx).mono (by omega),fun xs p H4 g4 nx ag=>nxt hi ⟨A++[xs],ras2++[p],by rw [ww]; rfl,G.snocR g4 nx.row nx.fa,?_⟩⟩;rw [xn _ ei,if_pos (by rw [decide_eq_false nm]; rfl)];exact zZ pA ag
  ·have hm:i∈ls:=vQ fun nm=>c (by rw [decide_eq_false nm]; rfl)
   refine nxt hi ⟨A,ras2,rfl,G,?_⟩;rw [xn _ ei,if_neg (by rw [decide_eq_true hm]; exact wO),vP];exact pA
 rintro ys H4 ⟨A,ras2,rfl,G,pA⟩ p4 hp4
 rw [wp (by rw [vB]; exact wu _)] at pA;have N4:=(G.done hp4).tab;have g5:=G.same.trans (zf hp4 (.lst (ras2.map V.ref)));generalize upd H4 p4 (.lst (ras2.map V.ref))=H5 at *;have lA:=zk pA;have efr:freeOf n ls =(wY n).filter fun f=>!decide (f∈ls):=rfl
 rw [← efr] at pA lA;have fl:=Qu hk isR;have oA:La.OkM k n A:=fun r hr=>by
  obtain⟨f,_,ag⟩:=Yi pA hr;exact⟨ag.len,ag.ok⟩
 have cA:La.rowsB (n*C) A:=fun r hr=>by
  obtain⟨f,hf,ag⟩:=Yi pA hr;have hf':=(qz n ls f).mp hf;have:0 <(freeOf n ls).length:=GY hf;exact zfB hk cW oW lls c7 (by omega) hf'.1 ag
 have c7':61<=n*C:=by have:1*C<=n*C:=vm _ n1; omega
 refine⟨k,A,n,n*C,p4,ras2,rfl,hk,N4,oA,cA,c7',hc,by omega,by omega,fun R2 ls2 top2 rs2 H6 g6 n6 red2 _=>?_⟩;have g36:=g3.trans g5;refine q R2 ls2 top2 rs2 H6 (g36.trans g6) ⟨n6.tab,g36.none n6.ft,fun r hr=>g36.none (n6.fr r hr),n6.nd,n6.nt⟩ (yJ red2) fun F _ φ v=>?_
 have hp:=La.qI (isR F φ) hk (zax n ls) (qz n ls) lA (fun i f xs h1 h2=>ja pA h1 h2) v;exact⟨fun h=>hp.mp ((red2 F φ).fro v h),fun h=>(red2 F φ).to v (hp.mpr h)⟩
noncomputable def zeC:Sp:=fun vs H Q _=>∃(ws us:List Int)(l l':Addr)(m:Nat),vs=[.ref l,.ref l']/\IRow H ws l/\IRow H us l'/\ws.length=us.length/\(∀ w∈ws,Sm m w)/\(∀ w∈us,Sm m w)/\2*m<=60000000/\ws.length<sizeLine /\
 ∀ H',Same H H'->Q (.int (vA (·*·) ws us).sum) H'
theorem ziz (D:Df K mg "whole_sum" ["one", "other"] qi) (m_sum:mg "sum" = none) (m_zip:mg "zip" = none):Kn P w K mg base "whole_sum" 1 ["one", "other"] zeC:=by
 refine D.kn zbj (fun vs H Q E h=>?_) (fun f cdv A outer s H vs Q E hr h=>?_)
 ·obtain⟨ws,us,l,l',m,rfl,_⟩:=h; rfl
 obtain⟨ws,vs,l,l',m,rfl,hl,hl',hlen,sw,sw',hsz,hz,q⟩:=h;refine⟨_,(zg (zp (zE (zfQ rfl) rfl m_sum zhM (za (zN ["left", "right"] [] [] ⟨rfl,rfl,rfl,rfl,rfl,rfl,by decide +kernel⟩ rfl (Ys rfl m_zip (za (pv 0) (za (pv 1) zd))) (Zc (yu (zj (by decide)) yv (yu (zj (by decide)) yv jM))) fun _ _ _ _ _ _=>⟨(jL 2 rfl (zT (zi (i:=0) (by decide:(["left", "right"]:List Str).Nodup) rfl (by first | exact Or.inl rfl | exact Or.inr rfl)) (zT (zi (i:=1) (by decide:(["left", "right"]:List Str).Nodup) rfl (by first | exact Or.inl rfl | exact Or.inr rfl)) xB))),zL,(zq zX (pv 0) (pv 1))⟩) zd)))),?_⟩;refine⟨_,rfl,_,rfl,l,l',ws.map V.int,vs.map V.int,rfl,SqL.of hl,SqL.of hl',?_⟩;refine Zb (xs:=ws.map V.int) (zs:=vs.map V.int) (by rw [wa,wa]; omega) (fun i ys' H'=>Same H H'/\ys' =((vA (·*·) ws vs).take i).map V.int) ⟨Same.refl H,by simp⟩ ?_ ?_ ?_
 ·rintro i ys' H' hi ⟨g,rfl⟩
  refine⟨SqL.of (hl.mono g),SqL.of (hl'.mono g),?_⟩;rw [wa,wv,wX];omega
 ·rintro i x z T ys' H' hx hy hi hT ⟨g,rfl⟩
  rw [wg] at hx hy;obtain⟨u,hu,rfl⟩:=wU.mp hx;obtain⟨u',hu',rfl⟩:=wU.mp hy;refine⟨T,_,rfl,SqT.of zh,rfl,_,_,rfl,_,_,rfl,rfl,?_⟩
  first | refine gyes ?_ | refine tyes ?_
  refine⟨_,rfl,_,rfl,_,_,rfl,rfl,(sw u (wc hu)).mulOk (sw' u' (wc hu')) (by omega),nxt hi ⟨g.trans (zf hT _),?_⟩⟩;have e:(vA (·*·) ws vs)[i]?=some (u*u'):=by rw [vJ,hu,hu']
  rw [zw e,ww]; rfl
 ·rintro ys' H' ⟨g,rfl⟩ pl hpl
  have el:(ws.map V.int).length =(vA (·*·) ws vs).length:=by rw [wa,wX]; omega
  rw [el,vo];exact⟨pl,_,rfl,SqL.of zh,q _ (g.trans (zf hpl (.lst ((vA (·*·) ws vs).map V.int))))⟩
noncomputable def zhE:Sp:=fun vs H Q _=>∃(k:Int)(xs ys:List Nb)(p p':Addr)(m:Nat),vs=[.int k,.ref p,.ref p']/\KindOk k/\SclAt H k m xs p/\SclAt H k m ys p'/\La.OkR k xs/\La.OkR k ys/\xs.length=ys.length/\61<=m/\2*m+xs.length<=60000000/\xs.length<sizeLine /\
 ∀ v H',Same H H'->RN H' (La.ndot k xs ys) v->Q v H'
theorem zjj (D:Df K mg "sum_of_products" ["kind", "one", "other"] yV) (YQ:Kn P w K mg base "quotient" 43 ["kind", "top", "bottom"] zcp) (zbV:Kn P w K mg base "whole_sum" 1 ["one", "other"] zeC):Kn P w K mg base "sum_of_products" 44 ["kind", "one", "other"] zhE:=by
 refine D.kn ZL (fun vs H Q E h=>?_) (fun f cdv A outer s H vs Q E hr h=>?_)
 ·obtain⟨k,xs,ys,p,p',m,rfl,_⟩:=h; rfl
 obtain⟨k,xs,ys,p,p',m,rfl,hk,⟨l,ws,b,hp,hl,sc,sb,sw⟩,⟨l',vs,b',hp',hl',sc',sb',sw'⟩,ox,oy,hlen,m7,hsz,hz,q⟩:=h;refine⟨_,(zg (zp (zt YQ (hr.mono (by decide)) rfl (za (pv 0) (za (zt zbV (hr.mono (by decide)) rfl (za (zG zJ (pv 1) ze (fun _ _=>rfl)) (za (zG zJ (pv 2) ze (fun _ _=>rfl)) zd))) (za (zq zX (zG zJ (pv 1) ze (fun _ _=>rfl)) (zG zJ (pv 2) ze (fun _ _=>rfl))) zd)))))),?_⟩;have ewl:=sc.len;have evl:=sc'.len;refine⟨_,rfl,_,rfl,p,_,_,_,rfl,rfl,SqT.of hp,rfl,_,rfl,p',_,_,_,rfl,rfl,SqT.of hp',rfl,ws,vs,l,l',m,rfl,hl,hl',(by omega),sw,sw',(by omega),(by omega),fun H' g2=>?_⟩;obtain⟨ne,e⟩:=La.zji hk hlen sc sc' ox oy;have st:Sm (m+m +(vA (·*·) ws vs).length) (vA (·*·) ws vs).sum:=zhI fun w hw=>by
  obtain⟨i,hi,e⟩:=wI hw;rw [uw] at e;rw [← e];exact(sw _ (wk _)).mul (sw' _ (wk _))
 rw [wX] at st;refine⟨_,rfl,p,_,_,_,rfl,rfl,SqT.of (g2 _ _ hp),rfl,_,rfl,p',_,_,_,rfl,rfl,SqT.of (g2 _ _ hp'),rfl,_,_,rfl,rfl,sb.mulOk sb' (by omega),k,_,_,rfl,hk,ne,st.mono (by omega),(sb.mul sb').mono (by omega),fun v H2 g3 r=>?_⟩;rw [e] at r;exact q v H2 (g2.trans g3) r
theorem ziF{x:Str}{ps:List Str}{l:Nat}{sp sp':Sp}(D:Kn P w K mg base x l ps sp)(h:∀ vs H Q E,sp' vs H Q E->sp vs H Q E):Kn P w K mg base x l ps sp':=by
 obtain⟨f,fd,F,r⟩:=D.ex;exact⟨f,fd,F.imp h,r⟩
noncomputable def Yr:Sp:=fun vs H Q _=>∃(k:Int)(xs:List Nb)(a:Addr)(m:Nat),vs=[.int k,.ref a]/\KindOk k/\RowAt H xs a/\La.OkR k xs/\(∀ x∈xs,nsm m x)/\61<=m/\(xs.length+2)*m<=60000000 /\
 ∀ p H',Same H H'->SclAt H' k ((xs.length+2)*m) xs p->Q (.ref p) H'
theorem zbk (d:Kn P w K mg base "scaled" 41 ["kind", "row"] Xy):Kn P w K mg base "scaled" 41 ["kind", "row"] Yr:=ziF d fun vs H Q E h=>by
 obtain⟨k,xs,a,m,rfl,hk,hr,ox,sx,m7,hsz,q⟩:=h;have szl:sizeLine=16777216:=by decide
 have h1:(xs.length+2)*61<=(xs.length+2)*m:=vh _ m7;have h2:(xs.length+1)*m<=(xs.length+2)*m:=vm _ (by omega);exact⟨k,xs,a,(xs.length+2)*m,rfl,hk,hr,ox,(Xl (k:=k) (n:=xs.length) (by omega) ⟨rfl,ox,sx⟩).mono h2,by omega,hsz,by omega,q⟩
theorem zjv{n m:Nat}(h7:61<=m)(h:(n+2)*m<=20000000):2 *((n+2)*m)+n<=60000000/\61<=(n+2)*m/\n<sizeLine/\(n+2)*m<=60000000:=by
 have h1:(n+2)*61<=(n+2)*m:=vh _ h7;have:sizeLine=16777216:=by decide
 omega
noncomputable def zcO:Sp:=fun vs H Q _=>∃(k:Int)(M:List (List Nb))(xs:List Nb)(b m:Nat)(t1 a:Addr)(r1:List Addr),vs=[.int k,.ref t1,.ref a]/\KindOk k/\TabAt H M t1 r1/\RowAt H xs a/\La.OkM k b M/\xs.length=b/\La.OkR k xs/\szM m M/\(∀ x∈xs,nsm m x)/\61<=m/\(b+2)*m<=20000000/\M.length<sizeLine /\
 ∀ p H',Same H H'->NewR H H' (imgM k M xs) p->Q (.ref p) H'
theorem zgM (D:Df K mg "image" ["kind", "table", "row"] QL) (Zd:Kn P w K mg base "scaled" 41 ["kind", "row"] Yr) (Yo:Kn P w K mg base "sum_of_products" 44 ["kind", "one", "other"] zhE):Kn P w K mg base "image" 45 ["kind", "table", "row"] zcO:=by
 refine D.kn sc_image (fun vs H Q E h=>?_) (fun f cdv A outer s H vs Q E hr h=>?_)
 ·obtain⟨k,M,xs,b,m,t1,a,r1,rfl,_⟩:=h; rfl
 obtain⟨k,M,xs,b,m,t1,a,r1,rfl,hk,hM,hx,oM,lx,ox,sM,sx,m7,hsz,mz,q⟩:=h;refine⟨_,(zc (zm (i:=3) sc_image.nd rfl (.inr rfl) (zt Zd (hr.mono (by decide)) rfl (za (pv 0) (za (pv 2) zd)))) (zg (zp (zN ["left"] ["kind", "right"] [0,3] ⟨rfl,rfl,rfl,rfl,rfl,rfl,by decide +kernel⟩ rfl (zI (pv 1)) (zj (by decide)) fun _ _ _ _ _ _=>⟨(zi (i:=0) (by decide:(["left", "kind", "right"]:List Str).Nodup) rfl (by first | exact Or.inl rfl | exact Or.inr rfl)),zL,(zt Yo (hr.mono (by decide)) rfl (za (pv 1) (za (zt Zd (hr.mono (by decide)) rfl (za (pv 1) (za (pv 0) zd))) (za (pv 2) zd))))⟩)))),?_⟩;obtain⟨z1,z2,z3,z4⟩:=zjv m7 hsz;refine⟨_,rfl,_,rfl,k,xs,a,m,rfl,hk,hx,ox,sx,m7,by rw [lx]; exact z4,fun p0 H0 g0 sc0=>?_⟩;rw [lx] at sc0;refine⟨_,rfl,t1,rfl,⟨_,SqL.of (g0 _ _ hM.1)⟩,?_⟩;have hl:=zk hM.2;refine zP (xs:=r1.map V.ref) (fun i ys H'=>Same H0 H'/\Paired (RN H') ((imgM k M xs).take i) ys) ⟨Same.refl _,.nil⟩ ?_ ?_ ?_
 ·rintro i ys H' hi ⟨g,pr⟩
  refine⟨SqL.of (g _ _ (g0 _ _ hM.1)),?_⟩;have:=zk pr;unfold imgM at this;rw [wv,wa] at this;omega
 ·rintro i v ys H' hv hi ⟨g,pr⟩
  obtain⟨row,ra,hrow,ha,rfl,hR⟩:=(hM.mono (g0.trans g)).row hv;obtain⟨lr,orow⟩:=oM row (wc hrow)
  first | refine gyes ?_ | refine tyes ?_
  refine⟨_,rfl,_,rfl,_,rfl,k,row,ra,m,rfl,hk,hR,orow,sM row (wc hrow),m7,by rw [lr]; exact z4,fun p1 H1 g1 sc1=>?_⟩;rw [lr] at sc1;refine⟨_,rfl,k,row,xs,p1,p0,(b+2)*m,rfl,hk,sc1,sc0.mono (g.trans g1),orow,ox,by rw [lr,lx],z2,by rw [lr]; exact z1,by rw [lr]; exact z3,fun v2 H2 g2 r2=>?_⟩;refine nxt hi ⟨(g.trans g1).trans g2,?_⟩;have e:(imgM k M xs)[i]?=some (La.ndot k row xs):=by unfold imgM; rw [wg,hrow]; rfl
  rw [zw e];exact zZ (jm (g1.trans g2) pr) r2
 ·rintro ys H' ⟨g,pr⟩ p hp
  rw [wa,wp (by unfold imgM; rw [wa]; omega)] at pr;exact q p _ ((g0.trans g).trans (zf hp _)) ⟨⟨ys,zh,jm (zf hp _) pr⟩,(g0.trans g).none hp⟩
noncomputable def xO:Sp:=fun vs H Q _=>∃(M:List (List Nb))(n:Nat)(top:Addr)(ras:List Addr),vs=[.ref top]/\TabAt H M top ras/\M≠[]/\(∀ r∈M,r.length=n)/\n<sizeLine/\M.length<sizeLine /\
 ∀ t ras' H',Same H H'->NewT H H' (transp n M) t ras'->Q (.ref t) H'
theorem zeu (D:Df K mg "turned" ["table"] Xm) (zy:mg "range" = none) (m_len:mg "len" = none):Kn P w K mg base "turned" 1 ["table"] xO:=by
 refine D.kn zf6 (fun vs H Q E h=>?_) (fun f cdv A outer s H vs Q E hr h=>?_)
 ·obtain⟨M,n,top,ras,rfl,_⟩:=h; rfl
 obtain⟨M,n,top,ras,rfl,hT,hM,hn,nz,mz,q⟩:=h;refine⟨_,(zg (zp (zN ["column"] ["table"] [0] ⟨rfl,rfl,rfl,rfl,rfl,rfl,by decide +kernel⟩ rfl (zM rfl zy (za (zE zO rfl m_len yk (za (zG zo (pv 0) ze (fun _ _=>rfl)) zd)) zd)) (zj (by decide)) fun _ _ _ _ _ _=>⟨(zi (i:=0) (by decide:(["column", "table"]:List Str).Nodup) rfl (by first | exact Or.inl rfl | exact Or.inr rfl)),zL,(zN ["row"] ["column"] [0] ⟨rfl,rfl,rfl,rfl,rfl,rfl,by decide +kernel⟩ rfl (zI (pv 1)) (zj (by decide)) fun _ _ _ _ _ _=>⟨(zi (i:=0) (by decide:(["row", "column"]:List Str).Nodup) rfl (by first | exact Or.inl rfl | exact Or.inr rfl)),zL,(zG zo (pv 0) (pv 1) (fun _ _=>rfl))⟩)⟩))),?_⟩;obtain⟨M0,M',rfl⟩:=uM hM;have hras:=zk hT.2;obtain⟨r0,ras',e0⟩ : ∃ r0 ras',ras=r0::ras':=by
  cases ras with
  | nil=>simp at hras
  | cons a b=>exact⟨a,b,rfl⟩
 obtain⟨vs0,h0,p0,l0⟩:=(ja hT.2 (i:=0) rfl (by rw [e0]; rfl)).len;have n0:=hn M0 wm;have szl:sizeLine=16777216:=by decide
 refine⟨_,rfl,top,_,_,_,rfl,rfl,SqL.of hT.1,(by rw [e0]; exact zH (j:=0) rfl),r0,_,rfl,.inl (SqL.of h0),_,rfl,(by omega),(by omega),?_⟩;have en:(vs0.length:Int).toNat=n:=by omega
 rw [en];refine yb (lo:=0) (n:=n) (fun i ys H'=>∃ ras2,ys=ras2.map V.ref/\Grow H H' ((transp n (M0::M')).take i) ras2) ⟨[],rfl,Grow.nil H (Same.refl H)⟩ ?_ ?_ ?_
 ·rintro i ys H' hi ⟨ras2,rfl,G⟩
  have:=zk G.rows;rw [wv,zV] at this;rw [wa]; omega
 ·rintro i ys H' hi ⟨ras2,rfl,G⟩
  first | refine gyes ?_ | refine tyes ?_
  refine⟨_,rfl,top,rfl,⟨_,SqL.of (G.same _ _ hT.1)⟩,?_⟩;refine zP (xs:=ras.map V.ref) (fun j ys' H2=>H2=H'/\Paired (RN H') (((M0::M').map fun r=>r.getD i (.z 0)).take j) ys') ⟨rfl,.nil⟩ ?_ ?_ ?_
  ·rintro j ys' H2 hj ⟨rfl,pr⟩
   refine⟨SqL.of (G.same _ _ hT.1),?_⟩;have:=zk pr;rw [wv,wa] at this;omega
  ·rintro j v ys' H2 hv hj ⟨rfl,pr⟩
   obtain⟨xs,a,hx,ha,rfl,hrow⟩:=(hT.mono G.same).row hv;obtain⟨us,hu,pu,lu⟩:=hrow.len;have nx:=hn xs (wc hx);have hi':i<xs.length:=by omega
   obtain⟨u,eu,ru⟩:=yi pu (wb hi')
   first | refine gyes ?_ | refine tyes ?_
   refine⟨_,rfl,_,rfl,a,_,_,_,rfl,rfl,SqL.of hu,(by rw [wT]; exact zH eu),nxt hj ⟨rfl,?_⟩⟩;have e:((M0::M').map fun r=>r.getD i (.z 0))[j]?=some (xs.getD i (.z 0)):=by rw [wg,hx]; rfl
   rw [zw e];refine zZ pr ?_;rw [we,wb hi']; exact ru
  ·rintro ys' H2 ⟨rfl,pr⟩ p hp
   rw [wp (by rw [wa,wa]; omega)] at pr;refine nxt hi ⟨ras2++[p],by rw [ww]; rfl,?_⟩;rw [zw (jP hi)];exact G.snoc hp pr
 ·rintro ys H' ⟨ras2,rfl,G⟩ t ht
  rw [wp (by rw [zV]; exact wu _)] at G;exact q t ras2 _ (G.same.trans (zf ht _)) (G.done ht)
noncomputable def JP:Sp:=fun vs H Q _=>∃(k:Int)(A B R:List (List Nb))(n b:Nat)(tA tB tR:Addr)(rA rB rR:List Addr),vs=[.int k,.ref tA,.ref tB,.ref tR]/\KindOk k/\TabAt H A tA rA/\TabAt H B tB rB/\TabAt H R tR rR/\Fit k n/\TOk k n n 80 A/\TOk k b n 80 B/\b<=1000/\TOk k R.length n 596488 R/\R.length<=10 /\
 ∀ W t rs H',Same H H'->NewT H H' W t rs->RdR k n W->SameR k W (B++R.map (imgM k A))->Q (.ref t) H'
theorem zdZ (D:Df K mg "widened" ["kind", "table", "rows", "room"] Yh) (ziJ:Kn P w K mg base "image" 45 ["kind", "table", "row"] zcO) (qd:Kn P w K mg base "joined" 46 ["kind", "one", "other"] qX):Kn P w K mg base "widened" 47 ["kind", "table", "rows", "room"] JP:=by
 refine D.kn zec (fun vs H Q E h=>?_) (fun f cdv A' outer s' H vs Q E hr h=>?_)
 ·obtain⟨k,A,B,R,n,b,tA,tB,tR,rA,rB,rR,rfl,_⟩:=h; rfl
 obtain⟨k,A,B,R,n,b,tA,tB,tR,rA,rB,rR,rfl,hk,hA,hB,hR,hf,oA,oB,b1000,oR,lR,q⟩:=h;have szl:sizeLine=16777216:=by decide
 have n10:=hf.n10;have lrR:=zk hR.2;obtain⟨oI,cI⟩:=zft hk hf oA oR;refine⟨_,(zg (zp (zt qd (hr.mono (by decide)) rfl (za (pv 0) (za (pv 2) (za (zN ["row"] ["kind", "table"] [0,1] ⟨rfl,rfl,rfl,rfl,rfl,rfl,by decide +kernel⟩ rfl (zI (pv 3)) (zj (by decide)) fun _ _ _ _ _ _=>⟨(zi (i:=0) (by decide:(["row", "kind", "table"]:List Str).Nodup) rfl (by first | exact Or.inl rfl | exact Or.inr rfl)),zL,(zt ziJ (hr.mono (by decide)) rfl (za (pv 1) (za (pv 2) (za (pv 0) zd))))⟩) zd)))))),?_⟩;refine⟨_,rfl,_,rfl,_,rfl,tR,rfl,⟨_,SqL.of hR.1⟩,?_⟩;refine zP (xs:=rR.map V.ref) (fun i ys H'=>∃ ras,ys=ras.map V.ref/\Grow H H' ((R.map (imgM k A)).take i) ras) ⟨[],rfl,Grow.nil H (Same.refl H)⟩ ?_ ?_ ?_
 ·rintro i ys H' hi ⟨ras,rfl,G⟩
  refine⟨SqL.of (G.same _ _ hR.1),?_⟩;have:=zk G.rows;rw [wv] at this;rw [wa] at hi ⊢; omega
 ·rintro i v ys H' hv hi ⟨ras,rfl,G⟩
  obtain⟨row,a,hrow,ha,rfl,hRow⟩:=(hR.mono G.same).row hv;have rr:=oR.row (wc hrow);have oA':=oA.up (show(80:Nat)<=596488 by decide)
  first | refine gyes ?_ | refine tyes ?_
  refine⟨_,rfl,_,rfl,_,rfl,k,A,row,n,596488,tA,a,rA,rfl,hk,hA.mono G.same,hRow,oA'.ok,rr.len,rr.ok,oA'.sz,rr.sz,(by decide),(by omega),(by rw [oA.len]; omega),fun p H1 g1 nr=>nxt hi ⟨ras++[p],by rw [ww]; rfl,?_⟩⟩;have e:(R.map (imgM k A))[i]?=some (imgM k A row):=by rw [wg,hrow]; rfl
  rw [zw e];exact G.snocR g1 nr.row nr.fa
 ·rintro ys H' ⟨ras,rfl,G⟩ pI hpI
  rw [wa,wp (by rw [wa]; omega)] at G;have N:=G.done hpI;have g1:=G.same.trans (zf hpI (.lst (ras.map V.ref)));generalize upd H' pI (.lst (ras.map V.ref))=H1 at *;refine⟨k,B,R.map (imgM k A),n,capC n 7159072,tB,pI,rB,ras,rfl,hk,hB.mono g1,N.tab,oB.ok,oI,JQ hf oB,cI,cap7 (by decide),cap1 hf (by decide),(by omega),(by rw [oB.len]; exact b1000),(by rw [wa]; omega),fun W lw t rs H2 g2 nt red=>?_⟩;exact q W t rs H2 (g1.trans g2) ⟨nt.tab,g1.none nt.ft,fun r hr=>g1.none (nt.fr r hr),nt.nd,nt.nt⟩ ⟨lw,yJ red⟩ fun F _ φ v=>⟨fun h=>(red F φ).fro v h,fun h=>(red F φ).to v h⟩
noncomputable def zds:Sp:=fun vs H Q _=>∃(k:Int)(A B:List (List Nb))(n b:Nat)(tA tB:Addr)(rA rB:List Addr),vs=[.int k,.ref tA,.ref tB]/\KindOk k/\TabAt H A tA rA/\TabAt H B tB rB/\Fit k n/\TOk k n n 80 A/\TOk k b n 80 B/\b<=1000 /\
 ∀ R t rs H',Same H H'->NewT H H' R t rs->LeastOf k n A B R->Q (.ref t) H'
theorem zhc (D:Df K mg "grown_room" ["kind", "table", "rows"] jv) (xT:Kn P w K mg base "reduced" 45 ["kind", "rows"] jN) (zbt:Kn P w K mg base "widened" 47 ["kind", "table", "rows", "room"] JP) (m_len:mg "len" = none):Kn P w K mg base "grown_room" 48 ["kind", "table", "rows"] zds:=by
 refine D.kn sc_grown_room (fun vs H Q E h=>?_) (fun f cdv A' outer s' H vs Q E hr h=>?_)
 ·obtain⟨k,A,B,n,b,tA,tB,rA,rB,rfl,_⟩:=h; rfl
 obtain⟨k,A,B,n,b,tA,tB,rA,rB,rfl,hk,hA,hB,hf,oA,oB,b1000,q⟩:=h;have szl:sizeLine=16777216:=by decide
 have n10:=hf.n10;refine⟨_,(zc (zm (i:=3) sc_grown_room.nd rfl (.inl rfl) (zt xT (hr.mono (by decide)) rfl (za (pv 0) (za (pv 2) zd)))) (zc (zm (i:=4) sc_grown_room.nd rfl (.inl rfl) (zt zbt (hr.mono (by decide)) rfl (za (pv 0) (za (pv 1) (za (pv 2) (za (pv 3) zd)))))) (zc (qp PassesOwn.never (zD qB (zE zO rfl m_len yk (za (pv 4) zd)) (zE zO rfl m_len yk (za (pv 3) zd)) (nomark _)) (zc (zm (i:=3) sc_grown_room.nd rfl (.inl rfl) (pv 4)) (zg (zm (i:=4) sc_grown_room.nd rfl (.inl rfl) (zt zbt (hr.mono (by decide)) rfl (za (pv 0) (za (pv 1) (za (pv 2) (za (pv 3) zd))))))))) (zg (zp (pv 3)))))),?_⟩;refine⟨_,rfl,_,rfl,k,B,n,capC n 7159072,tB,rB,rfl,hk,hB,oB.ok,JQ hf oB,cap7 (by decide),cap1 hf (by decide),(by omega),(by rw [oB.len]; omega),fun R ls t1 r1 H1 g1 n1 red _=>?_⟩;have rR:RdR k n R:=⟨ls,yJ red⟩;have eR:SameR k R (La.kry k A B 0):=fun F _ φ v=>⟨fun h=>(red F φ).fro v h,fun h=>(red F φ).to v h⟩
 have sR:=(Js hk hf oA oB (vz _) rR eR).1;have lR:R.length<=10:=by have:=yK hk (yJ red); omega
 refine⟨_,rfl,_,rfl,_,rfl,_,rfl,k,A,B,R,n,b,tA,tB,t1,rA,rB,r1,rfl,hk,hA.mono g1,hB.mono g1,n1.tab,hf,oA,oB,b1000,sR,lR,fun W t2 r2 H2 g2 n2 rW eW=>?_⟩;have I0:LrI k n A B R W 0:=by
  refine⟨rR,rW,eR,fun F _ φ v=>(eW F φ v).trans (La.zcQ hk oA.ok oA.len oB.ok (yg hk (yJ red)).1 (eR F φ) v),vz _⟩
 have N1:NewT H H2 R t1 r1:=⟨n1.tab.mono g2,n1.ft,n1.fr,n1.nd,n1.nt⟩;have N2:NewT H H2 W t2 r2:=⟨n2.tab,g1.none n2.ft,fun r hr=>g1.none (n2.fr r hr),n2.nd,n2.nt⟩;have gH:=g1.trans g2;clear n1 n2 g1 red sR lR rR eR rW eW;refine⟨fun m σ H'=>∃ R W t t1 r1 t2 r2,σ=[some (.int k),some (.ref tA),some (.ref tB),some (.ref t1),some (.ref t2)]/\Same H H'/\NewT H H' R t1 r1/\NewT H H' W t2 r2/\LrI k n A B R W t/\m=n - t,⟨_,R,W,0,t1,r1,t2,r2,rfl,gH,N1,N2,I0,rfl⟩,?_⟩;clear I0 N1 N2 gH
 rintro m σ H' ⟨R,W,t,t1,r1,t2,r2,rfl,gH,N1,N2,I,rfl⟩
 have l1:=zk N1.tab.2;have l2:=zk N2.tab.2;refine⟨_,rfl,t2,_,rfl,.inl (SqL.of N2.tab.1),_,rfl,t1,_,rfl,.inl (SqL.of N1.tab.1),_,_,rfl,rfl,_,rfl,?_⟩;refine ite2 (fun c=>?_) (fun c=>?_)
 ·have c':(((r1.map V.ref).length:Nat):Int) <(((r2.map V.ref).length:Nat):Int):=of_decide_eq_true c;rw [wa,wa] at c';have lt:R.length<W.length:=by omega
  have tn:t<n:=by obtain⟨lw',iW'⟩:=I.rW; have:=yK hk iW'; have:=I.le; omega
  obtain⟨lw,iW⟩:=I.rW;have sW:=(Js hk hf oA oB (show t+1<=n+1 by omega) I.rW I.eW).1;have lW:W.length<=10:=by have:=yK hk iW; omega
  refine⟨_,fun _ _ h=>h,?_⟩;refine⟨_,rfl,?_⟩;refine⟨_,rfl,_,rfl,_,rfl,_,rfl,k,A,B,W,n,b,tA,tB,t2,rA,rB,r2,rfl,hk,hA.mono gH,hB.mono gH,N2.tab,hf,oA,oB,b1000,sW,lW,fun W' t3 r3 H3 g3 n3 rW' eW'=>?_⟩;have I':=I.step hk oA oB lt rW' eW';exact⟨_,(by omega),W,W',t+1,t2,r2,t3,r3,rfl,gH.trans g3,⟨N2.tab.mono g3,N2.ft,N2.fr,N2.nd,N2.nt⟩,⟨n3.tab,gH.none n3.ft,fun r hr=>gH.none (n3.fr r hr),n3.nd,n3.nt⟩,I',rfl⟩
 ·have c':¬(((r1.map V.ref).length:Nat):Int) <(((r2.map V.ref).length:Nat):Int):=of_decide_eq_false (uA.mpr c);rw [wa,wa] at c';exact⟨_,rfl,q R t1 r1 H' gH N1 (I.done hk oA oB (by omega))⟩
noncomputable def zbv:Sp:=fun vs H Q _=>∃(M:List (List Nb))(n:Nat)(t:Addr)(ras:List Addr),vs=[.ref t]/\TabAt H M t ras/\(∀ r∈M,r.length=n)/\n<=100/\M.length<=100/\∀ p H',Same H H'->NewR H H' M.flatten p->Q (.ref p) H'
theorem Qx{n:Nat}:∀(M:List (List Nb)),(∀ r∈M,r.length=n)->M.flatten.length=M.length*n
 | [],_=>by simp
 | r::M,h=>by
  rw [vZ,wx,Qx M (fun r hr=>h r (wr _ hr)),h r wm,vK,GO];omega
theorem zgm (D:Df K mg "strung" ["rows"] Xk):Kn P w K mg base "strung" 1 ["rows"] zbv:=by
 refine D.kn sc_strung (fun vs H Q E h=>?_) (fun f cdv A outer s H vs Q E hr h=>?_)
 ·obtain⟨M,n,t,ras,rfl,_⟩:=h; rfl
 obtain⟨M,n,t,ras,rfl,hT,hn,n100,m100,q⟩:=h;have szl:sizeLine=16777216:=by decide
 have lr:=zk hT.2;refine⟨_,(zc (zm (i:=1) sc_strung.nd rfl (.inl rfl) (yF zd)) (zc (yA PassesOwn.never rfl (zI (pv 0)) (zi (i:=2) sc_strung.nd rfl (.inl rfl)) (zg (xV (bm0 (fun _ h=>XG PySem.F.plainAttrs_list PySem.F.slot_list_extend PySem.F.type_list_extend za2 h (za (pv 2) zd)) (pv 1))))) (zg (zp (pv 1))))),?_⟩;refine⟨(by show 0<=sizeLine; decide),fun pt hpt=>?_⟩;have g0:=zf hpt (.lst []);refine⟨_,rfl,t,rfl,⟨_,SqL.of (g0 _ _ hT.1)⟩,?_⟩;refine xg (xs:=ras.map V.ref) (fun i σ H'=>∃ us o2,σ=[some (.ref t),some (.ref pt),o2]/\Same H H'/\H' pt=some (.lst us)/\Paired (RN H') (M.take i).flatten us) ⟨[],none,rfl,g0,zh,.nil⟩ ?_ ?_ ?_
 ·rintro i σ H' _ ⟨us,o2,rfl,g,_⟩
  exact SqL.of (g _ _ hT.1)
 ·rintro i v σ H' hv ⟨us,o2,rfl,g,hp,pu⟩
  obtain⟨row,a,hrow,ha,rfl,hR⟩:=(hT.mono g).row hv;obtain⟨zs,hz,pz,lz⟩:=hR.len;have lrow:=hn row (wc hrow);have lu:=zk pu;rw [Qx (n:=n) (M.take i) (fun r hr=>hn r (uT hr)),wv] at lu;have il:=(wo.mp hrow).1;have b1:min i M.length*n<=100*100:=vt (by omega) n100;refine⟨_,rfl,.inl ⟨rfl,_,SqL.of hp⟩,_,rfl,pt,a,us,zs,rfl,rfl,hp,hz,(by omega),us++zs,_,rfl,yz g hpt,zh,?_⟩;rw [zw hrow,List.flatten_append,vZ,List.flatten_nil,vP];exact ZZ hp (qG pu pz)
 ·rintro σ H' ⟨us,o2,rfl,g,hp,pu⟩
  rw [wa,wp (by omega)] at pu;exact⟨_,rfl,q pt H' g ⟨⟨us,hp,pu⟩,hpt⟩⟩
theorem zde{n:Nat}:∀(M:List (List Nb))(i:Nat)(r:List Nb),(∀ r∈M,r.length=n)->M[i]?=some r->(M.flatten.drop (i*n)).take n=r
 | [],i,r,_,h=>by simp at h
 | r0::M,0,r,hn,h=>by
  have e:r0=r:=by simpa using h
  rw [GQ,wag,vZ,List.take_append_of_le_length (by rw [hn r0 wm]; exact wu _),wp (by rw [hn r0 wm]; exact wu _),e]
 | r0::M,i+1,r,hn,h=>by
  have l0:=hn r0 wm;rw [vZ,GO,waW (i*n) n,← List.drop_drop];have e:vX n r0=[]:=uI (by omega);rw [List.drop_append_of_le_length (by omega),e,GS];exact zde M i r (fun r hr=>hn r (wr _ hr)) (by simpa using h)
noncomputable def zhJ:Sp:=fun vs H Q _=>∃(k:Int)(M:List (List Nb))(r n m:Nat)(t:Addr)(ras:List Addr),vs=[.int k,.ref t]/\KindOk k/\TabAt H M t ras/\TOk k r n m M/\1<=r/\r<=100/\n<=10/\61<=m/\m<=1000 /\
 ∀ p t' b ls H',Same H H'->H' p=some (.tup [.ref t',.int b])->ITab H' (M.map fun r=>r.map (La.scW b)) t' ls->La.Scl k M.flatten (M.flatten.map (La.scW b)) b->Sm 1002000 b->(∀ x∈M.flatten,Sm 1002000 (La.scW b x))->Q (.ref p) H'
theorem zjI (D:Df K mg "over_one_bottom" ["kind", "table"] yQ) (Zd:Kn P w K mg base "scaled" 41 ["kind", "row"] Yr) (zgr:Kn P w K mg base "strung" 1 ["rows"] zbv) (m_len:mg "len" = none) (zy:mg "range" = none):Kn P w K mg base "over_one_bottom" 42 ["kind", "table"] zhJ:=by
 refine D.kn sc_over_one_bottom (fun vs H Q E h=>?_) (fun f cdv A outer s H vs Q E hr h=>?_)
 ·obtain⟨k,M,r,n,m,t,ras,rfl,_⟩:=h; rfl
 obtain⟨k,M,r,n,m,t,ras,rfl,hk,hT,oM,n1,r100,n10,m7,m1000,q⟩:=h;have szl:sizeLine=16777216:=by decide
 refine⟨_,(zc (zm (i:=2) sc_over_one_bottom.nd rfl (.inr rfl) (zE zO rfl m_len yk (za (zG zo (pv 1) ze (fun _ _=>rfl)) zd))) (zc (zm (i:=3) sc_over_one_bottom.nd rfl (.inr rfl) (zt Zd (hr.mono (by decide)) rfl (za (pv 0) (za (zt zgr (hr.mono (by decide)) rfl (za (pv 1) zd)) zd)))) (zg (zp (xP (za (zN ["row"] ["pair", "width"] [3,2] ⟨rfl,rfl,rfl,rfl,rfl,rfl,by decide +kernel⟩ rfl (zM rfl zy (za (zE zO rfl m_len yk (za (pv 1) zd)) zd)) (zj (by decide)) fun _ _ _ _ _ _=>⟨(zi (i:=0) (by decide:(["row", "pair", "width"]:List Str).Nodup) rfl (by first | exact Or.inl rfl | exact Or.inr rfl)),zL,(Zf ZW (zG zJ (pv 1) ze (fun _ _=>rfl)) (Zy (zq zX (pv 0) (pv 2))) (Zy (zq zX (zq yZ (pv 0) ze) (pv 2))))⟩) (za (zG zJ (pv 3) ze (fun _ _=>rfl)) zd))))))),?_⟩;have lr:=zk hT.2;rw [oM.len] at lr;obtain⟨r0,ras',e0⟩ : ∃ r0 ras',ras=r0::ras':=by
  cases ras with
  | nil=>rw [Gh] at lr; omega
  | cons a b=>exact⟨a,b,rfl⟩
 obtain⟨x0,hx0,hr0⟩:=ye hT.2 (i:=0) (b:=r0) (by rw [e0]; rfl);obtain⟨u0,hu0,pu0,lu0⟩:=hr0.len;have lx0:=(oM.ok x0 (wc hx0)).1;have rn:∀ r∈M,r.length=n:=fun r hr=>(oM.ok r hr).1
 have fl:=Qx M rn;rw [oM.len] at fl;have nn:r*n<=1000:=vt r100 n10;refine⟨_,rfl,t,_,_,_,rfl,rfl,SqL.of hT.1,(by rw [e0]; exact zH (j:=0) rfl),r0,_,rfl,.inl (SqL.of hu0),?_⟩;rw [lu0,lx0];have okf:La.OkR k M.flatten:=fun x hx=>by
  obtain⟨r,hr,hx'⟩:=GL.mp hx;exact(oM.ok r hr).2 x hx'
 refine⟨_,rfl,_,rfl,M,n,t,ras,rfl,hT,rn,(by omega),(by rw [oM.len]; omega),fun p1 H1 g1 N1=>?_⟩;refine⟨k,M.flatten,p1,m,rfl,hk,N1.row,okf,(fun x hx=>by
  obtain⟨r,hr,hx'⟩:=GL.mp hx;exact oM.sz r hr x hx'),m7,(by rw [fl]; have:(r*n+2)*m<=1002*1000:=vt (by omega) m1000; omega),fun pp H2 g2 sc=>?_⟩
 have b18:(M.flatten.length+2)*m<=1002000:=by rw [fl]; exact wF (vt (show r*n+2<=1002 by omega) m1000) (by decide)
 obtain⟨l,ws,b,hp,hl,sc,sb,sw⟩:=sc;have ew:=sc.eq;subst ew;have g12:=g1.trans g2;refine⟨_,rfl,t,_,rfl,.inl (SqL.of (g12 _ _ hT.1)),_,rfl,(by omega),(by rw [wa,← lr]; omega),?_⟩;rw [wP,wa,← lr];have lW:(M.map fun r=>r.map (La.scW b)).length=r:=by rw [wa]; exact oM.len
 refine yb (lo:=0) (n:=r) (fun i ys H'=>∃ ls,ys=ls.map V.ref/\Same H2 H'/\Paired (IRow H') ((M.map fun r=>r.map (La.scW b)).take i) ls) ⟨[],rfl,Same.refl _,.nil⟩ ?_ ?_ ?_
 ·rintro i ys H' hi ⟨ls,rfl,g,pr⟩
  have:=zk pr;rw [wv] at this;rw [wa]; omega
 ·rintro i ys H' hi ⟨ls,rfl,g,pr⟩
  first | refine gyes ?_ | refine tyes ?_
  rw [wT];refine⟨_,rfl,pp,_,_,_,rfl,rfl,SqT.of (g _ _ hp),rfl,_,rfl,_,rfl,_,_,rfl,rfl,(IntMulOk.of_left (intBits_le_64 (by omega) (by omega))),_,rfl,_,rfl,_,_,rfl,rfl,_,rfl,_,_,rfl,rfl,(IntMulOk.of_left (intBits_le_64 (by omega) (by omega))),_,rfl,l,_,rfl,SqL.of (hl.mono g),fun p3 hp3=>?_⟩;obtain⟨r',hr,_⟩:=oM.get hi;have ec:cutV ((M.flatten.map (La.scW b)).map V.int) (some ((i:Int) *(n:Int))) (some (((i:Int)+1) *(n:Int))) =(r'.map (La.scW b)).map V.int:=by
   rw [show(i:Int) *(n:Int) =((i*n:Nat):Int) by rw [uP],show((i:Int)+1) *(n:Int) =(((i+1)*n:Nat):Int) by rw [uP]; rfl,zjD,← waq,← Gz,← waq,← Gz,show(i+1)*n - i*n=n by rw [GO]; omega,zde M i r' rn hr]
  rw [ec];refine nxt hi ⟨ls++[p3],by rw [ww]; rfl,g.trans (zf hp3 _),?_⟩;rw [zw (x:=r'.map (La.scW b)) (by rw [wg,hr]; rfl)];exact ITab.snoc pr (zf hp3 _) zh
 ·rintro ys H' ⟨ls,rfl,g,pr⟩ t' ht'
  rw [wp (by omega)] at pr;have g3:=zf ht' (.lst (ls.map V.ref));have T3:ITab (upd H' t' (.lst (ls.map V.ref))) (M.map fun r=>r.map (La.scW b)) t' ls:=⟨zh,xR (fun _ _ r=>r.mono g3) pr⟩;generalize upd H' t' (.lst (ls.map V.ref))=H3 at *;refine⟨_,rfl,pp,_,_,_,rfl,rfl,SqT.of (g3 _ _ (g _ _ hp)),rfl,(by show 2<=sizeLine; decide),fun p hp'=>?_⟩;have g4:=zf hp' (.tup [.ref t',.int b]);exact q p t' b ls _ (((g12.trans g).trans g3).trans g4) zh (T3.mono g4) sc (sb.mono b18) (fun x hx=>(sw _ (wj.mpr ⟨x,hx,rfl⟩)).mono b18)
noncomputable abbrev gpi:Int:=2305843009213693951
theorem YI:KindOk gpi:=.inr zjr
noncomputable def restM(b:Int)(M:List (List Nb)):List (List Nb):=(M.map fun r=>r.map (La.scW b)).map fun r=>r.map (nnum gpi)
theorem zaF{r n m:Nat}{M:List (List Nb)}(h:TOk 0 r n m M)(b:Int):TOk gpi r n 80 (restM b M):=by
 have ok:La.OkM gpi n (restM b M):=fun x hx=>by
  obtain⟨y,hy,rfl⟩:=wj.mp hx;obtain⟨z,hz,rfl⟩:=wj.mp hy;refine⟨by rw [wa,wa]; exact(h.ok z hz).1,fun u hu=>?_⟩;obtain⟨w,_,rfl⟩:=wj.mp hu;exact La.zU YI w
 exact⟨by unfold restM; rw [wa,wa]; exact h.len,ok,fun r hr x hx=>(zav YI (by decide) ((ok r hr).2 x hx)).mono (by decide)⟩
noncomputable def zcE:Sp:=fun vs H Q _=>∃(M:List (List Nb))(r n:Nat)(t:Addr)(ras:List Addr),vs=[.ref t]/\TabAt H M t ras/\TOk 0 r n 80 M/\1<=r/\r<=100/\n<=10 /\
 ∀ b t' rs H',Same H H'->NewT H H' (restM b M) t' rs->La.Scl 0 M.flatten (M.flatten.map (La.scW b)) b->Q (.ref t') H'
theorem zhr {tk:Nat} (D:Df K mg "rests_of" ["table"] Zo) (YM:Kn P w K mg base "over_one_bottom" 42 ["kind", "table"] zhJ) (yS:mg "GREAT_PRIME" = some (.int 2305843009213693951 tk)):Kn P w K mg base "rests_of" 43 ["table"] zcE:=by
 refine D.kn zbU (fun vs H Q E h=>?_) (fun f cdv A outer s H vs Q E hr h=>?_)
 ·obtain⟨M,r,n,t,ras,rfl,_⟩:=h; rfl
 obtain⟨M,r,n,t,ras,rfl,hT,oM,r1,r100,n10,q⟩:=h;have szl:sizeLine=16777216:=by decide
 refine⟨_,(zg (zp (zN ["row"] [] [] ⟨rfl,rfl,rfl,rfl,rfl,rfl,by decide +kernel⟩ rfl (zI (zG zJ (zt YM (hr.mono (by decide)) rfl (za ze (za (pv 0) zd))) ze (fun _ _=>rfl))) (zj (by decide)) fun _ _ _ _ _ _=>⟨(zi (i:=0) (by decide:(["row"]:List Str).Nodup) rfl (by first | exact Or.inl rfl | exact Or.inr rfl)),zL,(zN ["whole"] [] [] ⟨rfl,rfl,rfl,rfl,rfl,rfl,by decide +kernel⟩ rfl (zI (pv 0)) (zj (by decide)) fun _ _ _ _ _ _=>⟨(zi (i:=0) (by decide:(["whole"]:List Str).Nodup) rfl (by first | exact Or.inl rfl | exact Or.inr rfl)),zL,(zq zQ (pv 0) (ze0 (v:=.int 2305843009213693951) rfl yS ⟨_,rfl⟩))⟩)⟩))),?_⟩;refine⟨_,rfl,0,M,r,n,80,t,ras,rfl,.inl rfl,hT,oM,r1,r100,n10,by decide,by decide,fun p t' b ls H1 g1 hp T sc _ _=>?_⟩;refine⟨p,_,_,_,rfl,rfl,SqT.of hp,rfl,t',rfl,⟨_,SqL.of T.1⟩,?_⟩;have lW:(M.map fun r=>r.map (La.scW b)).length=r:=by rw [wa]; exact oM.len
 have lG:(restM b M).length=r:=by unfold restM; rw [wa]; exact lW
 have ll:=zk T.2;refine zP (xs:=ls.map V.ref) (fun i ys H'=>∃ rs,ys=rs.map V.ref/\Grow H1 H' ((restM b M).take i) rs) ⟨[],rfl,Grow.nil H1 (Same.refl H1)⟩ ?_ ?_ ?_
 ·rintro i ys H' hi ⟨rs,rfl,G⟩
  refine⟨SqL.of (G.same _ _ T.1),?_⟩;have:=zk G.rows;rw [wv] at this;rw [wa] at hi ⊢; omega
 ·rintro i v ys H' hv hi ⟨rs,rfl,G⟩
  obtain⟨ws,a,hw,ha,rfl,hRow⟩:=(T.mono G.same).row hv;have lws:ws.length=n:=by
   obtain⟨y,hy,rfl⟩:=wj.mp (wc hw);rw [wa]; exact(oM.ok y hy).1
  first | refine gyes ?_ | refine tyes ?_
  refine⟨_,rfl,a,rfl,⟨_,SqL.of hRow⟩,?_⟩;refine zP (xs:=ws.map V.int) (fun j ys' H6=>Same H' H6/\Paired (RN H6) ((ws.map (nnum gpi)).take j) ys') ⟨Same.refl _,.nil⟩ ?_ ?_ ?_
  ·rintro j ys' H6 hj ⟨g6,pr6⟩
   refine⟨SqL.of (g6 _ _ hRow),?_⟩;have:=zk pr6;rw [wv,wa] at this;omega
  ·rintro j v ys' H6 hv6 hj ⟨g6,pr6⟩
   rw [wg] at hv6;obtain⟨x,hx,rfl⟩:=wU.mp hv6
   first | refine gyes ?_ | refine tyes ?_
   refine⟨_,rfl,_,_,rfl,rfl,(by decide),nxt hj ⟨g6,?_⟩⟩;rw [zw (x:=nnum gpi x) (by rw [wg,hx]; rfl)];exact zZ pr6 RN.of_z
  ·rintro ys' H6 ⟨g6,pr6⟩ p6 hp6
   rw [wa,wp (by rw [wa]; exact wu _)] at pr6;refine nxt hi ⟨rs++[p6],by rw [ww]; rfl,?_⟩;have e:(restM b M)[i]?=some (ws.map (nnum gpi)):=by unfold restM; rw [wg,hw]; rfl
   rw [zw e];exact(G.mono g6).snoc hp6 pr6
 ·rintro ys H' ⟨rs,rfl,G⟩ t2 ht
  rw [wp (by rw [lG,wa]; omega)] at G;have N:=G.done ht;have g2:=G.same.trans (zf ht (.lst (rs.map V.ref)));exact q b t2 rs _ (g1.trans g2) ⟨N.tab,g1.none N.ft,fun r hr=>g1.none (N.fr r hr),N.nd,N.nt⟩ sc
noncomputable def zai:Sp:=fun vs H Q _=>∃(k:Int)(n:Nat),vs=[.int k,.int (n:Int)]/\n<=1000/\∀ t ras H',Same H H'->NewT H H' (La.unitM k n) t ras->Q (.ref t) H'
theorem zih (D:Df K mg "unit" ["kind", "size"] zcG) (yP:Kn P w K mg base "number" 1 ["kind", "whole"] jp) (zy:mg "range" = none) (m_int:mg "int" = none):Kn P w K mg base "unit" 2 ["kind", "size"] zai:=by
 refine D.kn ziQ (fun vs H Q E h=>?_) (fun f cdv A outer s H vs Q E hr h=>?_)
 ·obtain⟨k,n,rfl,_⟩:=h; rfl
 obtain⟨k,n,rfl,hn,q⟩:=h;have szl:sizeLine=16777216:=by decide
 refine⟨_,(zg (zp (zN ["row"] ["size", "kind"] [1,0] ⟨rfl,rfl,rfl,rfl,rfl,rfl,by decide +kernel⟩ rfl (zM rfl zy (za (pv 1) zd)) (zj (by decide)) fun _ _ _ _ _ _=>⟨(zi (i:=0) (by decide:(["row", "size", "kind"]:List Str).Nodup) rfl (by first | exact Or.inl rfl | exact Or.inr rfl)),zL,(zN ["column"] ["kind", "row"] [2,0] ⟨rfl,rfl,rfl,rfl,rfl,rfl,by decide +kernel⟩ rfl (zM rfl zy (za (pv 1) zd)) (zj (by decide)) fun _ _ _ _ _ _=>⟨(zi (i:=0) (by decide:(["column", "kind", "row"]:List Str).Nodup) rfl (by first | exact Or.inl rfl | exact Or.inr rfl)),zL,(zt yP (hr.mono (by decide)) rfl (za (pv 1) (za (yX ZY rfl m_int zaR (za (yx yI (pv 2) (pv 0) (nomark _)) zd)) zd)))⟩)⟩))),?_⟩;have lT:(La.unitM k n).length=n:=by unfold La.unitM; simp
 refine⟨_,rfl,n,rfl,(by omega),(by omega),?_⟩;rw [wP];refine yb (lo:=0) (n:=n) (fun i ys H'=>∃ ras2,ys=ras2.map V.ref/\Grow H H' ((La.unitM k n).take i) ras2) ⟨[],rfl,Grow.nil H (Same.refl H)⟩ ?_ ?_ ?_
 ·rintro i ys H' hi ⟨ras2,rfl,G⟩
  have:=zk G.rows;rw [wv] at this;rw [wa]; omega
 ·rintro i ys H' hi ⟨ras2,rfl,G⟩
  first | refine gyes ?_ | refine tyes ?_
  refine⟨_,rfl,n,rfl,(by omega),(by omega),?_⟩;rw [wP];have lR:(La.unitRow k n i).length=n:=by unfold La.unitRow; simp
  refine yb (lo:=0) (n:=n) (fun j ys' H6=>Same H' H6/\Paired (RN H6) ((La.unitRow k n i).take j) ys') ⟨Same.refl _,.nil⟩ ?_ ?_ ?_
  ·rintro j ys' H6 hj ⟨g6,pr6⟩
   have:=zk pr6;rw [wv] at this;omega
  ·rintro j ys' H6 hj ⟨g6,pr6⟩
   first | refine gyes ?_ | refine tyes ?_
   refine⟨_,rfl,_,rfl,_,rfl,rfl,.inr ⟨_,rfl,k,_,rfl,fun v H7 g7 r7=>nxt hj ⟨g6.trans g7,?_⟩⟩⟩;have e:(La.unitRow k n i)[j]?=some (if i=j then nnum k 1 else nnum k 0):=by unfold La.unitRow; rw [wg,vv hj]; rfl
   rw [zw e];refine zZ (jm g7 pr6) ?_
   by_cases c:i=j
   ·rw [if_pos c];rw [c,decide_eq_true rfl] at r7;exact r7
   ·rw [if_neg c];rw [decide_eq_false (fun z=>c (by have:=V.int.inj z; omega))] at r7;exact r7
  ·rintro ys' H6 ⟨g6,pr6⟩ p hp
   rw [wp (by omega)] at pr6;refine nxt hi ⟨ras2++[p],by rw [ww]; rfl,?_⟩;rw [zw (La.yO hi)];exact(G.mono g6).snoc hp pr6
 ·rintro ys H' ⟨ras2,rfl,G⟩ t ht
  rw [wp (by omega)] at G;exact q t ras2 _ (G.same.trans (zf ht _)) (G.done ht)
noncomputable def QN:Sp:=fun vs H Q _=>∃(k:Int)(A B:List (List Nb))(n b:Nat)(tA tB:Addr)(rA rB:List Addr),vs=[.int k,.ref tA,.ref tB]/\KindOk k/\TabAt H A tA rA/\TabAt H B tB rB/\Fit k n/\TOk k n n 80 A/\TOk k b n 80 B/\1<=b/\b<=100 /\
 ∀ R t rs H',Same H H'->NewT H H' R t rs->LeastOf k n A B R->Q (.ref t) H'
theorem zc6{k:Int}(hk:KindOk k){n:Nat}{F:Type}[Lean.Grind.Field F](φ:La.Kf k F)(v:Nat->F)(hv:∀ j,n<=j->v j=0):La.Rm φ (La.unitM k n) v:=by
 refine(La.jT (La.ZX φ hk n) hk v).mp ⟨hv,fun u hu=>?_⟩;refine La.dot_zero n _ _ fun j hj=>?_
 have z:=hu.2 _ (.of ⟨_,wc (La.yO (k:=k) hj),rfl⟩);rw [La.ym,La.yc (u':=u) (v':=La.unitF j 1) fun i _=>by rw [La.jW hj i],La.jg hj] at z
 grind
theorem zdI{n b:Nat}{a c:Int}{A B R:List (List Nb)}(oA:TOk 0 n n 80 A)(oB:TOk 0 b n 80 B)(hA:La.Scl 0 A.flatten (A.flatten.map (La.scW a)) a)(hB:La.Scl 0 B.flatten (B.flatten.map (La.scW c)) c)(L:LeastOf gpi n (restM a A) (restM c B) R)(hl:R.length=n):LeastOf 0 n A B (La.unitM 0 n):=by
 refine⟨⟨wY n,fun F _ φ=>La.ZX φ (.inl rfl) n⟩,fun F _ φ v=>⟨fun h=>?_,fun h=>?_⟩⟩
 ·refine La.zaW zjr oA.ok oA.len oB.ok hA hB (fun F _ φ j hj=>?_) φ v fun j hj=>La.zgj (La.yy (.inl rfl) n).1 h hj
  obtain⟨lr,iR⟩:=L.rd;have oU:=La.yy YI n;have sub:=((iR F φ).sub_len (La.ZX φ YI n) fun v hv=>zc6 YI φ v fun j hj=>(iR F φ).supp hv j hj).2 (by rw [oU.2,hl]; exact wu _);refine(L.eq F φ _).mp (sub _ ?_);exact .of ⟨_,wc (La.yO hj),funext fun i=>(La.jW hj i).symm⟩
 ·exact zc6 (.inl rfl) φ v fun j hj=>La.zgj (La.xy (.inl rfl) oA.ok oA.len oB.ok n) h hj
theorem zgA {tk:Nat} (D:Df K mg "least_room" ["kind", "table", "rows"] jr) (Xa:Kn P w K mg base "grown_room" 48 ["kind", "table", "rows"] zds) (Qp:Kn P w K mg base "rests_of" 43 ["table"] zcE) (zbp:Kn P w K mg base "unit" 2 ["kind", "size"] zai) (yS:mg "GREAT_PRIME" = some (.int 2305843009213693951 tk)) (m_len:mg "len" = none):Kn P w K mg base "least_room" 49 ["kind", "table", "rows"] QN:=by
 refine D.kn sc_least_room (fun vs H Q E h=>?_) (fun f cdv A' outer s' H vs Q E hr h=>?_)
 ·obtain⟨k,A,B,n,b,tA,tB,rA,rB,rfl,_⟩:=h; rfl
 obtain⟨k,A,B,n,b,tA,tB,rA,rB,rfl,hk,hA,hB,hf,oA,oB,b1,b100,q⟩:=h;have szl:sizeLine=16777216:=by decide
 have n10:=hf.n10;have lA:=zk hA.2;rw [oA.len] at lA;refine⟨_,(zc (zm (i:=3) sc_least_room.nd rfl (.inl rfl) (zE zO rfl m_len yk (za (pv 1) zd))) (zc (yj (PW.pt (pw_and (zD yI (pv 0) ze (nomark _)) (pw_and1 (zD yI (zE zO rfl m_len yk (za (zt Xa (hr.mono (by decide)) rfl (za (ze0 (v:=.int 2305843009213693951) rfl yS ⟨_,rfl⟩) (za (zt Qp (hr.mono (by decide)) rfl (za (pv 1) zd)) (za (zt Qp (hr.mono (by decide)) rfl (za (pv 2) zd)) zd)))) zd)) (pv 3) (nomark _))))) (zg (zp (zt zbp (hr.mono (by decide)) rfl (za (pv 0) (za (pv 3) zd))))) zK) (zg (zp (zt Xa (hr.mono (by decide)) rfl (za (pv 0) (za (pv 1) (za (pv 2) zd)))))))),?_⟩;refine⟨_,rfl,tA,_,rfl,.inl (SqL.of hA.1),?_⟩;rw [wa,← lA];refine⟨_,rfl,rfl,_,rfl,?_⟩;refine ite2 (fun c=>?_) (fun c=>?_)
 ·have k0:k=0:=V.int.inj (of_decide_eq_true c);subst k0;have n3:n<=3:=by rcases hf.2 with h | h; exact h; exact absurd rfl h.1
  refine⟨_,rfl,A,n,n,tA,rA,rfl,hA,oA,hf.1,by omega,by omega,fun a t1 r1 H1 g1 n1 sA=>?_⟩;refine⟨_,rfl,B,b,n,tB,rB,rfl,hB.mono g1,oB,b1,b100,by omega,fun c2 t2 r2 H2 g2 n2 sB=>?_⟩;refine⟨gpi,restM a A,restM c2 B,n,b,t1,t2,r1,r2,rfl,YI,n1.tab.mono g2,n2.tab,⟨hf.1,.inl n3⟩,zaF oA a,zaF oB c2,by omega,fun R t3 r3 H3 g3 n3' L=>?_⟩;have l3:=zk n3'.tab.2;have g13:=(g1.trans g2).trans g3;refine⟨t3,_,rfl,.inl (SqL.of n3'.tab.1),_,rfl,rfl,_,rfl,?_⟩;refine ite2 (fun d=>?_) (fun d=>?_)
  ·have d':=V.int.inj (of_decide_eq_true d);rw [wa] at d';refine⟨_,rfl,_,rfl,0,n,rfl,by omega,fun t ras H4 g4 nt=>?_⟩;exact q _ t ras H4 (g13.trans g4) ⟨nt.tab,g13.none nt.ft,fun r hr=>g13.none (nt.fr r hr),nt.nd,nt.nt⟩ (zdI oA oB sA sB L (by omega))
  ·refine⟨_,rfl,_,rfl,_,rfl,0,A,B,n,b,tA,tB,rA,rB,rfl,hk,hA.mono g13,hB.mono g13,hf,oA,oB,by omega,fun R t rs H4 g4 nt lo=>?_⟩;exact q R t rs H4 (g13.trans g4) ⟨nt.tab,g13.none nt.ft,fun r hr=>g13.none (nt.fr r hr),nt.nd,nt.nt⟩ lo
 ·refine iteF ?_;refine⟨_,rfl,_,rfl,_,rfl,k,A,B,n,b,tA,tB,rA,rB,rfl,hk,hA,hB,hf,oA,oB,by omega,fun R t rs H4 g4 nt lo=>?_⟩;exact q R t rs H4 g4 nt lo
noncomputable def Qb:Sp:=fun vs H Q _=>∃(k:Int)(A B C:List (List Nb))(n h s:Nat)(pm ta tb tc:Addr)(ra rb rc:List Addr),vs=[.int k,.ref pm]/\KindOk k/\MachAt H A B C pm ta tb tc ra rb rc/\Fit k n/\MOk k n h s 80 A B C/\1<=h/\h<=100 /\
 ∀ R t rs H',Same H H'->NewT H H' R t rs->LeastOf k n A (transp h B) R->Q (.ref t) H'
theorem zd7 (D:Df K mg "steered_room" ["kind", "machine"] xH) (Yj:Kn P w K mg base "turned" 1 ["table"] xO) (qK:Kn P w K mg base "least_room" 49 ["kind", "table", "rows"] QN):Kn P w K mg base "steered_room" 50 ["kind", "machine"] Qb:=by
 refine D.kn XX (fun vs H Q E h=>?_) (fun f cdv A' outer s' H vs Q E hr h=>?_)
 ·obtain⟨k,A,B,C,n,h,s,pm,ta,tb,tc,ra,rb,rc,rfl,_⟩:=h; rfl
 obtain⟨k,A,B,C,n,h,s,pm,ta,tb,tc,ra,rb,rc,rfl,hk,hM,hf,oM,h1,h100,q⟩:=h;have szl:sizeLine=16777216:=by decide
 have n10:=hf.n10;have n1:=hf.1;have lB:=oM.b.len;refine⟨_,(zg (zp (zt qK (hr.mono (by decide)) rfl (za (pv 0) (za (zG zJ (pv 1) ze (fun _ _=>rfl)) (za (zt Yj (hr.mono (by decide)) rfl (za (zG zJ (pv 1) ze (fun _ _=>rfl)) zd)) zd)))))),?_⟩;refine⟨_,rfl,_,rfl,pm,_,_,_,rfl,rfl,SqT.of hM.tup,rfl,_,rfl,pm,_,_,_,rfl,rfl,SqT.of hM.tup,rfl,B,h,tb,rb,rfl,hM.b,(fun e=>by rw [e] at lB; simp at lB; omega),(fun r hr=>(oM.b.ok r hr).1),by omega,by omega,fun t1 r1 H1 g1 n1'=>?_⟩;refine⟨k,A,transp h B,n,h,ta,t1,ra,r1,rfl,hk,hM.a.mono g1,n1'.tab,hf,oM.a,XM oM.b,h1,by omega,fun R t rs H2 g2 nt lo=>?_⟩;exact q R t rs H2 (g1.trans g2) ⟨nt.tab,g1.none nt.ft,fun r hr=>g1.none (nt.fr r hr),nt.nd,nt.nt⟩ lo
noncomputable def zbn:Sp:=fun vs H Q _=>∃(k:Int)(A B C:List (List Nb))(n h s:Nat)(pm ta tb tc:Addr)(ra rb rc:List Addr),vs=[.int k,.ref pm]/\KindOk k/\MachAt H A B C pm ta tb tc ra rb rc/\Fit k n/\MOk k n h s 80 A B C/\1<=s/\s<=100 /\
 ∀ R U t rs H',Same H H'->NewT H H' U t rs->LeastOf k n (transp n A) C R->RdR k n U->PerpOf k n U R->Q (.ref t) H'
theorem zga (D:Df K mg "unseen_room" ["kind", "machine"] jc) (Yj:Kn P w K mg base "turned" 1 ["table"] xO) (qK:Kn P w K mg base "least_room" 49 ["kind", "table", "rows"] QN) (qE:Kn P w K mg base "against" 46 ["kind", "n", "room"] Yz) (m_len:mg "len" = none):Kn P w K mg base "unseen_room" 50 ["kind", "machine"] zbn:=by
 refine D.kn JG (fun vs H Q E h=>?_) (fun f cdv A' outer s' H vs Q E hr h=>?_)
 ·obtain⟨k,A,B,C,n,h,s,pm,ta,tb,tc,ra,rb,rc,rfl,_⟩:=h; rfl
 obtain⟨k,A,B,C,n,h,s,pm,ta,tb,tc,ra,rb,rc,rfl,hk,hM,hf,oM,s1,s100,q⟩:=h;have szl:sizeLine=16777216:=by decide
 have n10:=hf.n10;have n1:=hf.1;have lA:=oM.a.len;have lra:=zk hM.a.2;refine⟨_,(zg (zp (zt qE (hr.mono (by decide)) rfl (za (pv 0) (za (zE zO rfl m_len yk (za (zG zJ (pv 1) ze (fun _ _=>rfl)) zd)) (za (zt qK (hr.mono (by decide)) rfl (za (pv 0) (za (zt Yj (hr.mono (by decide)) rfl (za (zG zJ (pv 1) ze (fun _ _=>rfl)) zd)) (za (zG zJ (pv 1) ze (fun _ _=>rfl)) zd)))) zd)))))),?_⟩;refine⟨_,rfl,_,rfl,pm,_,_,_,rfl,rfl,SqT.of hM.tup,rfl,ta,_,rfl,.inl (SqL.of hM.a.1),_,rfl,_,rfl,pm,_,_,_,rfl,rfl,SqT.of hM.tup,rfl,A,n,ta,ra,rfl,hM.a,(fun e=>by rw [e] at lA; simp at lA; omega),(fun r hr=>(oM.a.ok r hr).1),by omega,by omega,fun t1 r1 H1 g1 n1'=>?_⟩;have hM1:=hM.mono g1;refine⟨_,rfl,pm,_,_,_,rfl,rfl,SqT.of hM1.tup,rfl,k,transp n A,C,n,s,t1,tc,r1,rc,rfl,hk,n1'.tab,hM1.c,hf,XM oM.a,oM.c,s1,by omega,fun R t rs H2 g2 nt lo=>?_⟩;obtain⟨lr,iR⟩:=lo.rd;have sm:=(Js hk hf (XM oM.a) oM.c (show n<=n+1 by omega) lo.rd lo.eq).2;refine⟨k,n,R,lr,capC n 596488,t,rs,(by rw [wa,← lra,lA]; rfl),hk,nt.tab,iR,sm,cap7 (by decide),n1,by omega,cap2 hf (by decide),fun U lu t3 r3 H3 g3 n3 iU pe=>?_⟩;have g13:=g1.trans g2;exact q R U t3 r3 H3 (g13.trans g3) ⟨n3.tab,g13.none n3.ft,fun r hr=>g13.none (n3.fr r hr),n3.nd,n3.nt⟩ lo ⟨lu,iU⟩ pe
noncomputable def JY:Sp:=fun vs H Q _=>∃(A B:List (List Nb))(n h:Nat)(ta tb:Addr)(ra rb:List Addr),vs=[.ref ta,.ref tb]/\TabAt H A ta ra/\TabAt H B tb rb/\A.length=B.length/\(∀ r∈A,r.length=n)/\(∀ r∈B,r.length=h)/\n+h<=sizeLine/\A.length<sizeLine /\
 ∀ p ras H',Same H H'->NewT H H' (augM A B) p ras->Q (.ref p) H'
theorem zdw (D:Df K mg "abreast" ["one", "other"] Yg) (m_zip:mg "zip" = none):Kn P w K mg base "abreast" 1 ["one", "other"] JY:=by
 refine D.kn zdF (fun vs H Q E h=>?_) (fun f cdv A' outer s' H vs Q E hr h=>?_)
 ·obtain⟨A,B,n,h,ta,tb,ra,rb,rfl,_⟩:=h; rfl
 obtain⟨A,B,n,h,ta,tb,ra,rb,rfl,hA,hB,lAB,nA,nB,nh,lA,q⟩:=h;have szl:sizeLine=16777216:=by decide
 refine⟨_,(zg (zp (zN ["left", "right"] [] [] ⟨rfl,rfl,rfl,rfl,rfl,rfl,by decide +kernel⟩ rfl (Ys rfl m_zip (za (pv 0) (za (pv 1) zd))) (Zc (yu (zj (by decide)) yv (yu (zj (by decide)) yv jM))) fun _ _ _ _ _ _=>⟨(jL 2 rfl (zT (zi (i:=0) (by decide:(["left", "right"]:List Str).Nodup) rfl (by first | exact Or.inl rfl | exact Or.inr rfl)) (zT (zi (i:=1) (by decide:(["left", "right"]:List Str).Nodup) rfl (by first | exact Or.inl rfl | exact Or.inr rfl)) xB))),zL,(zq Zr (pv 0) (pv 1))⟩))),?_⟩;have la:=zk hA.2;have lb:=zk hB.2;refine⟨_,rfl,_,rfl,ta,tb,_,_,rfl,SqL.of hA.1,SqL.of hB.1,?_⟩;refine Zb (xs:=ra.map V.ref) (zs:=rb.map V.ref) (by rw [wa,wa]; omega) (fun i ys H'=>∃ ras,ys=ras.map V.ref/\Grow H H' ((augM A B).take i) ras) ⟨[],rfl,Grow.nil H (Same.refl H)⟩ ?_ ?_ ?_
 ·rintro i ys H' hi ⟨ras,rfl,G⟩
  refine⟨SqL.of (G.same _ _ hA.1),SqL.of (G.same _ _ hB.1),?_⟩;have:=zk G.rows;rw [wv] at this;rw [wa] at hi ⊢; omega
 ·rintro i x z T ys H' hx' hz' hi hT ⟨ras,rfl,G⟩
  have g':=zf hT (.tup [x,z]);have G1:=G.mono g';obtain⟨row,a,hrow,ha,rfl,hR⟩:=(hA.mono G1.same).row hx';obtain⟨row2,a2,hrow2,ha2,rfl,hR2⟩:=(hB.mono G1.same).row hz';obtain⟨us1,hu1,pu1,lu1⟩:=hR.len;obtain⟨us2,hu2,pu2,lu2⟩:=hR2.len;have r1:=nA _ (wc hrow);have r2:=nB _ (wc hrow2);refine⟨T,_,rfl,SqT.of zh,rfl,_,_,rfl,_,_,rfl,rfl,?_⟩;generalize upd H' T (.tup [.ref a,.ref a2])=H1 at *
  first | refine gyes ?_ | refine tyes ?_
  refine⟨_,rfl,_,rfl,a,a2,_,_,rfl,rfl,hu1,hu2,(by rw [lu1,lu2,r1,r2]; exact nh),fun p hp=>?_⟩;refine nxt hi ⟨ras++[p],by rw [ww]; rfl,?_⟩;rw [zw (zhf hrow hrow2)];exact G1.snoc hp (qG pu1 pu2)
 ·rintro ys H' ⟨ras,rfl,G⟩ pb hpb
  rw [wa,wp (by unfold augM; rw [wX]; omega)] at G;have N:=G.done hpb;have g1:=G.same.trans (zf hpb (.lst (ras.map V.ref)));exact q pb ras _ g1 N
noncomputable def zhz:Sp:=fun vs H Q _=>∃(k:Int)(n:Nat)(W1 W2:List (List Nb))(l1 l2:List Nat)(C Pm GJ:Nat)(t1 t2:Addr)(r1 r2:List Addr),vs=[.int k,.int (n:Int),.ref t1,.ref t2]/\KindOk k/\TabAt H W1 t1 r1/\TabAt H W2 t2 r2/\IsRa k n W1 l1/\IsRa k n W2 l2/\La.rowsB C W1/\La.rowsB C W2/\61<=C/\61<=Pm/\61<=GJ/\1<=n/\n<=64/\(n*C+1)*2^n<=60000000/\(Pm+1)*2^n<=60000000/\(n*GJ+1)*2^n<=60000000 /\
 (∀ A la,IsRa k n A la->(∀(F:Type) [Lean.Grind.Field F] (φ:La.Kf k F) (v:Nat->F),La.Rm φ A v↔La.perp n (La.Rm φ W1) v)->La.rowsB Pm A)/\(∀ A la,IsRa k n A la->(∀(F:Type) [Lean.Grind.Field F] (φ:La.Kf k F) (v:Nat->F),La.Rm φ A v↔La.perp n (La.Rm φ W2) v)->La.rowsB Pm A) /\
 (∀ A1 A2 J la1 la2 lj,IsRa k n A1 la1->IsRa k n A2 la2->(∀(F:Type) [Lean.Grind.Field F] (φ:La.Kf k F) (v:Nat->F),La.Rm φ A1 v↔La.perp n (La.Rm φ W1) v)->(∀(F:Type) [Lean.Grind.Field F] (φ:La.Kf k F) (v:Nat->F),La.Rm φ A2 v↔La.perp n (La.Rm φ W2) v)->(∀(F:Type) [Lean.Grind.Field F] (φ:La.Kf k F),La.RedOf φ n (A1++A2) J lj)->La.rowsB GJ J) /\
 ∀ M lm top rs H',Same H H'->NewT H H' M top rs->IsRa k n M lm->MetOf k M W1 W2->(∃ A1 A2 J la1 la2 lj,IsRa k n A1 la1/\IsRa k n A2 la2/\PerpOf k n A1 W1/\PerpOf k n A2 W2/\(∀(F:Type) [Lean.Grind.Field F] (φ:La.Kf k F),La.RedOf φ n (A1++A2) J lj)/\PerpOf k n M J)->Q (.ref top) H'
theorem zi5 (D:Df K mg "met" ["kind", "n", "one", "other"] zgT) (qE:Kn P w K mg base "against" 46 ["kind", "n", "room"] Yz) (qd:Kn P w K mg base "joined" 46 ["kind", "one", "other"] qX):Kn P w K mg base "met" 47 ["kind", "n", "one", "other"] zhz:=by
 refine D.kn ziU (fun vs H Q E h=>?_) (fun f cdv A' outer s H vs Q E hr h=>?_)
 ·obtain⟨k,n,W1,W2,l1,l2,C,Pm,GJ,t1,t2,r1,r2,rfl,_⟩:=h; rfl
 obtain⟨k,n,W1,W2,l1,l2,C,Pm,GJ,t1,t2,r1,r2,rfl,hk,T1,T2,i1,i2,c1,c2,c7,p7,j7,n1,n64,hc,hp,hj,hP1,hP2,hJ,q⟩:=h;refine⟨_,(zg (zp (zt qE (hr.mono (by decide)) rfl (za (pv 0) (za (pv 1) (za (zt qd (hr.mono (by decide)) rfl (za (pv 0) (za (zt qE (hr.mono (by decide)) rfl (za (pv 0) (za (pv 1) (za (pv 2) zd)))) (za (zt qE (hr.mono (by decide)) rfl (za (pv 0) (za (pv 1) (za (pv 3) zd)))) zd)))) zd)))))),?_⟩;refine⟨_,rfl,_,rfl,_,rfl,_,rfl,_,rfl,_,rfl,k,n,W1,l1,C,t1,r1,rfl,hk,T1,i1,c1,c7,n1,n64,hc,fun A1 la1 ta1 ra1 H1 g1 nA1 iA1 pA1=>?_⟩;refine⟨_,rfl,_,rfl,_,rfl,k,n,W2,l2,C,t2,r2,rfl,hk,T2.mono g1,i2,c2,c7,n1,n64,hc,fun A2 la2 ta2 ra2 H2 g2 nA2 iA2 pA2=>?_⟩;have lA1:=yK hk iA1;have lA2:=yK hk iA2;refine⟨k,A1,A2,n,Pm,ta1,ta2,ra1,ra2,rfl,hk,nA1.tab.mono g2,nA2.tab,(yg hk iA1).1,(yg hk iA2).1,hP1 A1 la1 iA1 pA1,hP2 A2 la2 iA2 pA2,p7,hp,n64,by omega,by omega,fun J lj tj rj H3 g3 nJ redJ=>?_⟩;refine⟨k,n,J,lj,GJ,tj,rj,rfl,hk,nJ.tab,yJ redJ,hJ A1 A2 J la1 la2 lj iA1 iA2 pA1 pA2 redJ,j7,n1,n64,hj,fun M lm tm rm H4 g4 nM iM pM=>?_⟩;have g:=(g1.trans g2).trans g3;refine q M lm tm rm H4 (g.trans g4) ⟨nM.tab,g.none nM.ft,fun r hr=>g.none (nM.fr r hr),nM.nd,nM.nt⟩ iM (fun F _ φ v=>?_) ⟨A1,A2,J,la1,la2,lj,iA1,iA2,pA1,pA2,redJ,pM⟩;exact(pM F φ v).trans (ziD hk i1 i2 pA1 pA2 redJ F φ v)
noncomputable def zfp:Sp:=fun vs H Q _=>∃(k:Int)(M:List (List Nb))(n C:Nat)(t:Addr)(ras:List Addr),vs=[.int k,.ref t]/\KindOk k/\TabAt H M t ras/\La.OkM k n M/\M.length=n/\La.rowsB C M/\61<=C/\(C+1)*2^(n+n)<=60000000/\n<=30/\(∀ R ls,(∀(F:Type) [Lean.Grind.Field F] (φ:La.Kf k F),La.RedOf φ (n+n) (La.besideM k n M) R ls)->R.map (gh n)=La.unitM k n) /\
 ∀ R ls t' ras' H',Same H H'->NewT H H' (R.map (vX n)) t' ras'->(∀(F:Type) [Lean.Grind.Field F] (φ:La.Kf k F),La.RedOf φ (n+n) (La.besideM k n M) R ls)->Q (.ref t') H'
theorem YY{k:Int}{n C:Nat}{M:List (List Nb)}(c7:61<=C)(hM:La.rowsB C M):La.rowsB C (augM M (La.unitM k n)):=fun r hr=>by
 unfold augM at hr;obtain⟨i,hi,e⟩:=wI hr;rw [uw] at e;rw [← e];obtain⟨D,d0,dl,hd⟩:=hM _ (wk (l:=M) (n:=i) (by rw [wX] at hi; omega));refine⟨D,d0,dl,fun x hx=>?_⟩
 rcases wq.mp hx with h | h
 ·exact hd x h
 ·have hu:=wk (l:=La.unitM k n) (n:=i) (by rw [wX] at hi; omega);unfold La.unitM at hu;obtain⟨j,_,ej⟩:=wj.mp hu;have hx':x∈La.unitRow k n j:=by rw [ej]; exact h
  unfold La.unitRow at hx';obtain⟨q,_,rfl⟩:=wj.mp hx'
  by_cases c:j=q
  ·rw [if_pos c]; exact La.dB.num (by show 1*D<=_; omega)
  ·rw [if_neg c]; exact La.dB.num (by show 0*D<=_; omega)
theorem zhh{α β:Type}{R:α->β->Prop}{xs:List α}{ys:List β}(h:Paired R xs ys)(n:Nat):Paired R (xs.drop n) (ys.drop n):=by
 have hl:=zk h;refine XR (by rw [ut,ut,hl]) fun i a b h1 h2=>?_
 rw [gW] at h1 h2;exact ja h h1 h2
theorem cutToF{xs:List V}(N:Nat):cutV xs none (some (N:Int))=xs.take N:=by
 unfold cutV;rw [HT.Xs,wa8,wag,HT.Ym]
 rcases wN N xs.length with h | h
 ·rw [gO (by omega)]
 ·rw [gv (by omega),wp (wu _),wp h]
theorem cutFromF{xs:List V}(N:Nat):cutV xs (some (N:Int)) none=xs.drop N:=by
 unfold cutV;rw [HT.Xs,HT.Ym]
 rcases wN N xs.length with h | h
 ·rw [gO (by omega),wp (by rw [ut]; exact wu _)]
 ·rw [gv (by omega),uI (wu _),uI h,List.take_nil]
theorem zh3 (D:Df K mg "back" ["kind", "table"] zc5) (zbp:Kn P w K mg base "unit" 2 ["kind", "size"] zai) (zfi:Kn P w K mg base "abreast" 1 ["one", "other"] JY) (xT:Kn P w K mg base "reduced" 45 ["kind", "rows"] jN) (m_len:mg "len" = none):Kn P w K mg base "back" 46 ["kind", "table"] zfp:=by
 refine D.kn sc_back (fun vs H Q E h=>?_) (fun f cdv A outer s H vs Q E hr h=>?_)
 ·obtain⟨k,M,n,C,t,ras,rfl,_⟩:=h; rfl
 obtain⟨k,M,n,C,t,ras,rfl,hk,hT,oM,lM,cM,c7,hc,n30,full,q⟩:=h;have szl:sizeLine=16777216:=by decide
 refine⟨_,(zc (zm (i:=2) sc_back.nd rfl (.inr rfl) (zE zO rfl m_len yk (za (pv 1) zd))) (zc (zm (i:=3) sc_back.nd rfl (.inl rfl) (zt zbp (hr.mono (by decide)) rfl (za (pv 0) (za (pv 2) zd)))) (zc (zm (i:=4) sc_back.nd rfl (.inl rfl) (zt xT (hr.mono (by decide)) rfl (za (pv 0) (za (zt zfi (hr.mono (by decide)) rfl (za (pv 1) (za (pv 3) zd))) zd)))) (zc (yj (zD (Zs hr) (zN ["row"] ["size"] [2] ⟨rfl,rfl,rfl,rfl,rfl,rfl,by decide +kernel⟩ rfl (zI (pv 4)) (zj (by decide)) fun _ _ _ _ _ _=>⟨(zi (i:=0) (by decide:(["row", "size"]:List Str).Nodup) rfl (by first | exact Or.inl rfl | exact Or.inr rfl)),zL,(Zf ZW (pv 0) Xx (Zy (pv 1)))⟩) (pv 3) (nomark _)) (zg zdj) zK) (zg (zp (zN ["row"] ["size"] [2] ⟨rfl,rfl,rfl,rfl,rfl,rfl,by decide +kernel⟩ rfl (zI (pv 4)) (zj (by decide)) fun _ _ _ _ _ _=>⟨(zi (i:=0) (by decide:(["row", "size"]:List Str).Nodup) rfl (by first | exact Or.inl rfl | exact Or.inr rfl)),zL,(Zf ZW (pv 0) (Zy (pv 1)) Xx)⟩))))))),?_⟩;have lr:=zk hT.2;rw [lM] at lr;refine⟨_,rfl,t,_,rfl,.inl (SqL.of hT.1),?_⟩;rw [wa,← lr];refine⟨_,rfl,_,rfl,k,n,rfl,by omega,fun t1 r1 H1 g1 N1=>?_⟩;have oU:=zhj hk n;refine⟨_,rfl,_,rfl,_,rfl,M,La.unitM k n,n,n,t,t1,ras,r1,rfl,hT.mono g1,N1.tab,(by rw [lM,oU.len]),(fun r hr=>(oM r hr).1),(fun r hr=>(oU.ok r hr).1),(by omega),(by rw [lM]; omega),fun t2 r2 H2 g2 N2=>?_⟩;have oB:La.OkM k (n+n) (augM M (La.unitM k n))/\(augM M (La.unitM k n)).length=n:=La.qR hk oM lM;refine⟨k,augM M (La.unitM k n),n+n,C,t2,r2,rfl,hk,N2.tab,oB.1,YY c7 cM,c7,hc,(by omega),(by rw [oB.2]; omega),fun R ls t3 r3 H3 g3 N3 red lR=>?_⟩;rw [oB.2] at lR;have g13:=(g1.trans g2).trans g3;have l3:=zk N3.tab.2;have U3:=N1.tab.mono (g2.trans g3);have oR:La.OkM k (n+n) R:=by
  obtain⟨F0,i0,d0,⟨φ0⟩⟩:=La.yf hk;exact(red F0 φ0).ok
 clear N1 N2 g1 g2 g3;refine⟨_,rfl,t3,rfl,⟨_,SqL.of N3.tab.1⟩,?_⟩;refine zP (xs:=r3.map V.ref) (fun i ys H'=>∃ ras2,ys=ras2.map V.ref/\Grow H3 H' ((R.map (gh n)).take i) ras2) ⟨[],rfl,Grow.nil H3 (Same.refl H3)⟩ ?_ ?_ ?_
 ·rintro i ys H' hi ⟨ras2,rfl,G⟩
  refine⟨SqL.of (G.same _ _ N3.tab.1),?_⟩;have:=zk G.rows;rw [wv,wa] at this;rw [wa]; omega
 ·rintro i v ys H' hv hi ⟨ras2,rfl,G⟩
  obtain⟨row,a,hx,ha,rfl,hrow⟩:=(N3.tab.mono G.same).row hv;obtain⟨us,hus,pus,lus⟩:=hrow.len
  first | refine gyes ?_ | refine tyes ?_
  refine⟨_,rfl,_,rfl,_,rfl,a,_,rfl,SqL.of hus,fun p hp=>?_⟩;rw [cutToF];refine nxt hi ⟨ras2++[p],by rw [ww]; rfl,?_⟩;have e:(R.map (gh n))[i]?=some (row.take n):=by rw [wg,hx]; rfl
  rw [zw e];exact G.snoc hp (zg1 pus n)
 rintro ys H4 ⟨ras2,rfl,G⟩ pl hpl
 rw [wa,wp (by rw [wa]; omega)] at G;have N4:=G.done hpl;have g4:=G.same.trans (zf hpl (.lst (ras2.map V.ref)));generalize upd H4 pl (.lst (ras2.map V.ref))=H5 at *;have U5:=U3.mono g4;refine⟨_,rfl,tabD _,tabD _,N4.tab.rp,U5.rp,xx _,xx _,wF (vD _ _) (wF (xD _) (by decide)),_,rfl,?_⟩;rw [Qv];have eU:=full R ls red;rw [decide_eq_true eU];refine iteF ?_;have T5:=N3.tab.mono g4;have lR2:R.length=n:=by have:=congrArg Ga eU; rw [wa,(La.yy hk n).2] at this; exact this
 refine⟨_,rfl,t3,rfl,⟨_,SqL.of T5.1⟩,?_⟩;refine zP (xs:=r3.map V.ref) (fun i ys H'=>∃ ras2,ys=ras2.map V.ref/\Grow H5 H' ((R.map (vX n)).take i) ras2) ⟨[],rfl,Grow.nil H5 (Same.refl H5)⟩ ?_ ?_ ?_
 ·rintro i ys H' hi ⟨ras2,rfl,G⟩
  refine⟨SqL.of (G.same _ _ T5.1),?_⟩;have:=zk G.rows;rw [wv,wa] at this;rw [wa]; omega
 ·rintro i v ys H' hv hi ⟨ras2,rfl,G⟩
  obtain⟨row,a,hx,ha,rfl,hrow⟩:=(T5.mono G.same).row hv;obtain⟨us,hus,pus,lus⟩:=hrow.len
  first | refine gyes ?_ | refine tyes ?_
  refine⟨_,rfl,_,rfl,_,rfl,a,_,rfl,SqL.of hus,fun p hp=>?_⟩;rw [cutFromF];refine nxt hi ⟨ras2++[p],by rw [ww]; rfl,?_⟩;have e:(R.map (vX n))[i]?=some (row.drop n):=by rw [wg,hx]; rfl
  rw [zw e];exact G.snoc hp (zhh pus n)
 rintro ys H6 ⟨ras3,rfl,G6⟩ pr hpr
 rw [wa,wp (by rw [wa]; omega)] at G6;have N6:=G6.done hpr;have g:=g13.trans g4;exact q R ls pr ras3 _ (g.trans (G6.same.trans (zf hpr _))) ⟨N6.tab,g.none N6.ft,fun r hr=>g.none (N6.fr r hr),N6.nd,N6.nt⟩ red
noncomputable def za1:Sp:=fun vs H Q _=>∃(k:Int)(n g c:Nat)(W X:List (List Nb))(t1 t2:Addr)(r1 r2:List Addr),vs=[.int k,.ref t1,.ref t2]/\KindOk k/\TabAt H W t1 r1/\TabAt H X t2 r2/\RdR k n W/\La.OkM k n X/\La.rowsB g W/\La.rowsB g X/\X.length<=100/\n<=64/\g<=c/\61<=c/\(c+1)*2^n<=60000000/\(∀ Z,RdR k n Z->Gen k n g Z->La.rowsB c Z) /\
 ∀ E Z t rs H',Same H H'->TabAt H' E t rs->PkI k n W X E Z X.length->Q (.ref t) H'
theorem zek (D:Df K mg "picked" ["kind", "room", "rows"] Xj) (qd:Kn P w K mg base "joined" 46 ["kind", "one", "other"] qX) (m_len:mg "len" = none):Kn P w K mg base "picked" 47 ["kind", "room", "rows"] za1:=by
 refine D.kn sc_picked (fun vs H Q E h=>?_) (fun f cdv A' outer s H vs Q E hr h=>?_)
 ·obtain⟨k,n,g,c,W,X,t1,t2,r1,r2,rfl,_⟩:=h; rfl
 obtain⟨k,n,g,c,W,X,t1,t2,r1,r2,rfl,hk,T1,T2,rW,oX,cW,cX,lX,n64,gc,c7,hc,hG,q⟩:=h;have szl:sizeLine=16777216:=by decide
 have oW:La.OkM k n W:=by obtain⟨l,i⟩:=rW; exact(yg hk i).1
 have lr2:=zk T2.2;refine⟨_,(zc (zm (i:=3) sc_picked.nd rfl (.inl rfl) (yF zd)) (zc (zm (i:=4) sc_picked.nd rfl (.inl rfl) (pv 1)) (zc (yA PassesOwn.never rfl (zI (pv 2)) (zi (i:=5) sc_picked.nd rfl (.inl rfl)) (zc (zm (i:=6) sc_picked.nd rfl (.inl rfl) (zt qd (hr.mono (by decide)) rfl (za (pv 0) (za (pv 4) (za (yF (za (pv 5) zd)) zd))))) (zg (yj (zD qB (zE zO rfl m_len yk (za (pv 6) zd)) (zE zO rfl m_len yk (za (pv 4) zd)) (nomark _)) (zc (xV (bm0 (fun _ h=>XG PySem.F.plainAttrs_list PySem.F.slot_list_append PySem.F.type_list_append xS h (za (pv 5) zd)) (pv 3))) (zg (zm (i:=4) sc_picked.nd rfl (.inl rfl) (pv 6)))) zK)))) (zg (zp (pv 3)))))),?_⟩;refine⟨(by show 0<=sizeLine; decide),fun pt hpt=>?_⟩;have g0:=zf hpt (.lst []);have h0:upd H pt (.lst []) pt=some (.lst []):=zh;have n1:t1≠pt:=fun e=>by rw [← e,T1.1] at hpt; cases hpt
 have n2:t2≠pt:=fun e=>by rw [← e,T2.1] at hpt; cases hpt
 have m1:=qy T1 hpt;have m2:=qy T2 hpt;generalize upd H pt (.lst [])=H0 at *;refine⟨_,rfl,?_⟩;refine⟨_,rfl,t2,rfl,⟨_,SqL.of (g0 _ _ T2.1)⟩,?_⟩;refine xg (xs:=r2.map V.ref) (fun i σ H'=>∃(E Z:List (List Nb))(re rz:List Addr)(pz:Addr)(o5 o6:Option V),σ=[some (.int k),some (.ref t1),some (.ref t2),some (.ref pt),some (.ref pz),o5,o6]/\Same H H'/\TabAt H' E pt re/\TabAt H' Z pz rz/\pz≠pt/\pt∉rz/\pt∉re/\E.length<=i/\PkI k n W X E Z i) ⟨[],W,[],r1,t1,none,none,rfl,g0,⟨h0,.nil⟩,T1.mono g0,n1,m1,(fun h=>nomatch h),wu _,PkI.start rW X⟩ ?_ ?_ ?_
 ·rintro i σ H' _ ⟨E,Z,re,rz,pz,o5,o6,rfl,g',_⟩
  exact SqL.of (g' _ _ T2.1)
 ·rintro i v σ H' hv ⟨E,Z,re,rz,pz,o5,o6,rfl,g',hE,hZ,nz,mz,me,lE,I⟩
  obtain⟨row,a,hrow,ha,rfl,hR⟩:=(T2.mono g').row hv;have iX:i<X.length:=(wo.mp hrow).1;have orow:=oX row (wc hrow);have oZ:La.OkM k n Z:=by obtain⟨l,j⟩:=I.rd; exact(yg hk j).1
  have lZ:Z.length<=n:=by obtain⟨l,j⟩:=I.rd; exact yK hk j
  refine⟨_,rfl,_,rfl,_,rfl,(by show 1<=sizeLine; decide),fun p1 hp1=>?_⟩;have g1:=zf hp1 (.lst [.ref a]);have T3:TabAt (upd H' p1 (.lst [.ref a])) [row] p1 [a]:=⟨zh,.cons (hR.mono g1) .nil⟩;generalize upd H' p1 (.lst [.ref a])=H1 at *;refine⟨k,Z,[row],n,c,pz,p1,rz,[a],rfl,hk,hZ.mono g1,T3,oZ,(fun r hr=>by rw [wt.mp hr]; exact orow),hG Z I.rd (I.gen oW oX cW cX),(fun r hr=>by rw [wt.mp hr]; exact(cX row (wc hrow)).mono gc),c7,hc,n64,by omega,by show 1<=1000; decide,fun R ls tr rr H2 g2 nR red=>?_⟩;have g12:=g1.trans g2;have hZ2:=hZ.mono g12;have hE2:=hE.mono g12;have lrr:=zk nR.tab.2;have lrz:=zk hZ2.2;have fpt:H2 pt=some (.lst (re.map V.ref)):=hE2.1;have ntr:tr≠pt:=fun e=>by rw [e] at nR; have:=g1 _ _ hE.1; rw [nR.ft] at this; cases this
  have mtr:pt∉rr:=fun h=>by have:=nR.fr pt h; rw [g1 _ _ hE.1] at this; cases this
  refine⟨_,rfl,tr,_,rfl,.inl (SqL.of nR.tab.1),_,rfl,pz,_,rfl,.inl (SqL.of hZ2.1),_,_,rfl,rfl,_,rfl,?_⟩;rw [wa,wa,← lrr,← lrz];refine ite2 (fun d=>?_) (fun d=>?_)
  ·have d':Z.length<R.length:=by have:=of_decide_eq_true d; omega
   have na:a≠pt:=fun e=>m2 (by rw [← e]; exact wc ha)
   have lre:=zk hE2.2;refine⟨_,rfl,.inl ⟨rfl,_,SqL.of fpt⟩,_,rfl,pt,_,_,rfl,rfl,fpt,(by rw [wa]; omega),?_⟩;refine⟨_,rfl,E++[row],R,re++[a],rr,tr,_,_,rfl,yz (g'.trans g12) hpt,⟨by rw [zh,ww]; rfl,?_⟩,nR.tab.upd ntr mtr fpt,ntr,mtr,fun h=>?_,by rw [wx]; show E.length+1<=i+1; omega,I.more hk hrow red d'⟩
   ·refine zZ (XR (zk hE2.2) fun j x b h1 h2=>(ja hE2.2 h1 h2).upd (fun e=>me (by rw [← e]; exact wc h2)) fpt) ((hR.mono g12).upd na fpt)
   ·rcases wq.mp h with h | h
    ·exact me h
    ·exact na (wt.mp h).symm
  ·have d':¬ Z.length<R.length:=fun z=>d (decide_eq_true (by omega))
   exact⟨E,Z,re,rz,pz,_,_,rfl,g'.trans g12,hE2,hZ2,nz,mz,me,by omega,I.same hk hrow red d'⟩
 ·rintro σ H' ⟨E,Z,re,rz,pz,o5,o6,rfl,g',hE,hZ,nz,mz,me,lE,I⟩
  rw [wa,← lr2] at I;exact⟨_,rfl,q E Z pt re H' g' hE I⟩
theorem mul8{a b n:Nat}(h3:n<=3)(h:a<=b):a*2^n<=b*8:=vt h (pow8 h3)
theorem zjR{k:Int}(hk:KindOk k){n:Nat}{A B:List (List Nb)}(n3:k=0->n<=3)(wA:TW k n n 14 A)(oB:La.OkM k n B)(wB:∀ r∈B,∀ x∈r,whk k 14 x):La.rowsB 62 (La.kry k A B n):=by
 by_cases k0:k=0
 ·intro r hr;obtain⟨b,hb,i,hi,rfl⟩:=XN n r hr;have ob:=oB b hb;have:=n3 k0;exact zh2 (by decide) (zfN hk wA.ok wA.len ob.2 ob.1 i).1 fun y hy=>(zep hk (fun _=>by omega) wA ob.2 ob.1 (wB b hb) i y hy).mono (by omega)
 ·exact Zh k0 (La.xy hk wA.ok wA.len oB n) (by decide)
theorem zbF{k:Int}(hk:KindOk k){n:Nat}{A B R:List (List Nb)}(n3:k=0->n<=3)(wA:TW k n n 14 A)(oB:La.OkM k n B)(wB:∀ r∈B,∀ x∈r,whk k 14 x)(L:LeastOf k n A B R):Gen k n 62 R:=⟨_,La.xy hk wA.ok wA.len oB n,zjR hk n3 wA oB wB,L.eq⟩
theorem Jo{n c:Nat}(h:n<=3):capC n c=c:=if_pos h
theorem zdf{n c d:Nat}(h:c<=d):capC n c<=capC n d:=by unfold capC; split <;> omega
noncomputable def YX:Sp:=fun vs H Q _=>∃(k:Int)(A B C:List (List Nb))(n h s:Nat)(pm ta tb tc:Addr)(ra rb rc:List Addr),vs=[.int k,.ref pm]/\KindOk k/\MachAt H A B C pm ta tb tc ra rb rc/\Fit k n/\MOk k n h s 80 A B C/\(TW k n n 14 A/\TW k n h 14 B/\TW k s n 14 C)/\1<=h/\h<=100/\1<=s/\s<=100 /\
 ∀ R L U M E1 E2 E3 p t0 t1 t2 t3 r0 r1 r2 r3 H',Same H H'->H' p=some (.lst [.ref t0,.ref t1,.ref t2,.ref t3])->(TabAt H' M t0 r0/\TabAt H' E1 t1 r1/\TabAt H' E2 t2 r2/\TabAt H' E3 t3 r3)->Part k n h A B C R L U->RdR k n R->RdR k n U->Quad k n R U M E1 E2 E3->La.rowsB (capC n 36512) (M++E1++E2++E3)->Q (.ref p) H'
theorem zaZ (D:Df K mg "stretches" ["kind", "machine"] qk) (JK:Kn P w K mg base "steered_room" 50 ["kind", "machine"] Qb) (zas:Kn P w K mg base "unseen_room" 50 ["kind", "machine"] zbn) (d_met:Kn P w K mg base "met" 47 ["kind", "n", "one", "other"] zhz) (qd:Kn P w K mg base "joined" 46 ["kind", "one", "other"] qX) (zbp:Kn P w K mg base "unit" 2 ["kind", "size"] zai) (QK:Kn P w K mg base "picked" 47 ["kind", "room", "rows"] za1) (m_len:mg "len" = none):Kn P w K mg base "stretches" 51 ["kind", "machine"] YX:=by
 refine D.kn sc_stretches (fun vs H Q E h=>?_) (fun f cdv A' outer s' H vs Q E hr h=>?_)
 ·obtain⟨k,A,B,C,n,h,s,pm,ta,tb,tc,ra,rb,rc,rfl,_⟩:=h; rfl
 obtain⟨k,A,B,C,n,h,s,pm,ta,tb,tc,ra,rb,rc,rfl,hk,hM,hf,oM,⟨wA,wB,wC⟩,h1,h100,s1,s100,q⟩:=h;have szl:sizeLine=16777216:=by decide
 have n10:=hf.n10;have n1:=hf.1;have n3:k=0->n<=3:=fun e=>by
  rcases hf.2 with h | h
  ·exact h
  ·exact absurd e h.1
 have lra:=zk hM.a.2;rw [oM.a.len] at lra;have oBt:=(XM oM.b).ok;have wAt:TW k n n 14 (transp n A):=⟨zV n A,(XM oM.a).ok,JU wA.ok wA.sz⟩;refine⟨_,(zc (zm (i:=2) sc_stretches.nd rfl (.inl rfl) (zE zO rfl m_len yk (za (zG zJ (pv 1) ze (fun _ _=>rfl)) zd))) (zc (zm (i:=3) sc_stretches.nd rfl (.inl rfl) (zt JK (hr.mono (by decide)) rfl (za (pv 0) (za (pv 1) zd)))) (zc (zm (i:=4) sc_stretches.nd rfl (.inl rfl) (zt zas (hr.mono (by decide)) rfl (za (pv 0) (za (pv 1) zd)))) (zc (zm (i:=5) sc_stretches.nd rfl (.inl rfl) (zt d_met (hr.mono (by decide)) rfl (za (pv 0) (za (pv 2) (za (pv 3) (za (pv 4) zd)))))) (zc (zm (i:=6) sc_stretches.nd rfl (.inl rfl) (zt QK (hr.mono (by decide)) rfl (za (pv 0) (za (zt qd (hr.mono (by decide)) rfl (za (pv 0) (za (pv 3) (za (pv 4) zd)))) (za (zt zbp (hr.mono (by decide)) rfl (za (pv 0) (za (pv 2) zd))) zd))))) (zg (zp (yF (za (pv 5) (za (zt QK (hr.mono (by decide)) rfl (za (pv 0) (za (pv 5) (za (pv 3) zd)))) (za (zt QK (hr.mono (by decide)) rfl (za (pv 0) (za (pv 5) (za (pv 4) zd)))) (za (pv 6) zd)))))))))))),?_⟩;refine⟨_,rfl,pm,_,_,.ref ta,rfl,rfl,SqT.of hM.tup,rfl,ta,_,rfl,.inl (SqL.of hM.a.1),?_⟩;rw [wa,← lra];refine⟨_,rfl,_,rfl,k,A,B,C,n,h,s,pm,ta,tb,tc,ra,rb,rc,rfl,hk,hM,hf,oM,h1,h100,fun R tR rR H1 g1 nR LR=>?_⟩;have hM1:=hM.mono g1;refine⟨_,rfl,_,rfl,k,A,B,C,n,h,s,pm,ta,tb,tc,ra,rb,rc,rfl,hk,hM1,hf,oM,s1,s100,fun L U tU rU H2 g2 nU LL rdU pU=>?_⟩;have TR:=nR.tab.mono g2;obtain⟨lr,iR⟩:=id LR.rd;obtain⟨lu,iU⟩:=id rdU;obtain⟨ll,iL⟩:=id LL.rd;have gR:=zbF hk n3 wA oBt (JU wB.ok wB.sz) LR;have gL:=zbF hk n3 wAt oM.c.ok wC.sz LL;have oR:=(yg hk iR).1;have oU:=(yg hk iU).1;have cL:n<=3->La.rowsB 504 L:=fun h3=>(Zi hk iL (by decide) gL).mono (mul8 h3 (wu 63))
 have cR:La.rowsB (capC n 1520) R:=xf hf oR fun h3=>(Zi hk iR (by decide) gR).mono (wF (mul8 h3 (wu 63)) (by decide))
 have b190:n<=3->(n *(62+1)+1)*2^n<=1520:=fun h3=>mul8 h3 (show n *(62+1)+1<=190 by omega)
 have cU:La.rowsB (capC n 1520) U:=xf hf oU fun h3=>(XZ hk n1 iL (by decide) gL iU pU).mono (b190 h3)
 have pR:∀ A1 la1,IsRa k n A1 la1->PerpOf k n A1 R->La.rowsB (capC n 1520) A1:=fun A1 la1 i e=>xf hf (yg hk i).1 fun h3=>(XZ hk n1 iR (by decide) gR i e).mono (b190 h3)
 have pU':∀ A1 la1,IsRa k n A1 la1->PerpOf k n A1 U->La.rowsB (capC n 1520) A1:=fun A1 la1 i e=>xf hf (yg hk i).1 fun h3=>by
  rw [zjY hk LL.rd ⟨_,i⟩ pU e];exact(cL h3).mono (by decide)
 have gJ:∀ A1 A2 J la1 la2 lj,IsRa k n A1 la1->IsRa k n A2 la2->PerpOf k n A1 R->PerpOf k n A2 U->(∀(F:Type) [Lean.Grind.Field F] (φ:La.Kf k F),La.RedOf φ n (A1++A2) J lj)->n<=3->Gen k n 1520 J:=fun A1 A2 J la1 la2 lj i1 i2 e1 e2 red h3=>by
  have c1:=pR A1 la1 i1 e1;have c2:=pU' A2 la2 i2 e2;rw [Jo h3] at c1 c2;exact zeB (zcL (yg hk i1).1 c1) (zcL (yg hk i2).1 c2) red
 refine⟨_,rfl,_,rfl,_,rfl,_,rfl,k,n,R,U,lr,lu,capC n 1520,capC n 1520,capC n 12168,tR,tU,rR,rU,rfl,hk,TR,nU.tab,iR,iU,cR,cU,cap7 (by decide),cap7 (by decide),cap7 (by decide),n1,by omega,cap2 hf (by decide),cap1 hf (by decide),cap2 hf (by decide),pR,pU',(fun A1 A2 J la1 la2 lj i1 i2 e1 e2 red=>xf hf (yg hk (yJ red)).1 fun h3=>(Zi hk (yJ red) (by decide) (gJ A1 A2 J la1 la2 lj i1 i2 e1 e2 red h3)).mono (mul8 h3 (wu 1521))),fun M lm tM rM H3 g3 nM iM metM ⟨A1,A2,J0,la1,la2,lj0,i1,i2,e1,e2,red0,pM⟩=>?_⟩;have oMM:=(yg hk iM).1;have cM:La.rowsB (capC n 36512) M:=xf hf oMM fun h3=>(XZ hk n1 (yJ red0) (by decide) (gJ A1 A2 J0 la1 la2 lj0 i1 i2 e1 e2 red0 h3) iM pM).mono (mul8 h3 (show n *(1520+1)+1<=4564 by omega))
 clear gJ pR pU' i1 i2 e1 e2 red0 pM b190 cL;have up:capC n 1520<=capC n 36512:=zdf (by decide);have lR:=yK hk iR;have lU:=yK hk iU;have TR3:=TR.mono g3;have TU3:=nU.tab.mono g3;refine⟨_,rfl,_,rfl,_,rfl,_,rfl,k,R,U,n,capC n 1520,tR,tU,rR,rU,rfl,hk,TR3,TU3,oR,oU,cR,cU,cap7 (by decide),cap1 hf (by decide),by omega,by omega,by omega,fun J lj tJ rJ H4 g4 nJ redJ=>?_⟩;have iJ:=yJ redJ;have oJ:=(yg hk iJ).1;have cJ:La.rowsB (capC n 36512) J:=xf hf oJ fun h3=>by
  rw [Jo h3] at cR cU;exact(Zi hk iJ (by decide) (zeB (zcL oR cR) (zcL oU cU) redJ)).mono (wF (mul8 h3 (wu 1521)) (by decide))
 have hG:∀ Z,RdR k n Z->Gen k n (capC n 36512) Z->La.rowsB (capC n 292104) Z:=fun Z ⟨lz,iz⟩ gz=>xf hf (yg hk iz).1 fun h3=>by
  rw [Jo h3] at gz;exact(Zi hk iz (by decide) gz).mono (mul8 h3 (wu 36513))
 have c292:capC n 36512<=capC n 292104:=zdf (by decide);refine⟨_,rfl,_,rfl,k,n,rfl,by omega,fun tI rI H5 g5 nI=>?_⟩;obtain⟨oI,lI⟩:=La.yy hk n;have cI:La.rowsB (capC n 36512) (La.unitM k n):=fun r hr=>by
  have c7:61<=capC n 36512:=cap7 (by decide);have p2:2^61<=2^capC n 36512:=wZ (by decide) c7;refine⟨1,by decide,by omega,fun x hx=>?_⟩;unfold La.unitM at hr;obtain⟨j,_,rfl⟩:=wj.mp hr;unfold La.unitRow at hx;obtain⟨q,_,rfl⟩:=wj.mp hx
  by_cases c:j=q
  ·rw [if_pos c]; exact La.dB.num (by show 1*1<=_; omega)
  ·rw [if_neg c]; exact La.dB.num (by show 0*1<=_; omega)
 refine⟨k,n,capC n 36512,capC n 292104,J,La.unitM k n,tJ,tI,rJ,rI,rfl,hk,nJ.tab.mono g5,nI.tab,⟨lj,iJ⟩,oI,cJ,cI,by omega,by omega,c292,cap7 (by decide),cap1 hf (by decide),hG,fun E3 V3 t3 r3 H6 g6 T3 pk3=>?_⟩;rw [lI] at pk3;have g36:=(g4.trans g5).trans g6;have TM6:=nM.tab.mono g36;have TR6:=TR3.mono g36;have TU6:=TU3.mono g36;refine⟨_,rfl,_,rfl,_,rfl,_,rfl,k,n,capC n 36512,capC n 292104,M,R,tM,tR,rM,rR,rfl,hk,TM6,TR6,⟨lm,iM⟩,oR,cM,cR.mono up,by omega,by omega,c292,cap7 (by decide),cap1 hf (by decide),hG,fun E1 V1 t1 r1 H7 g7 T1 pk1=>?_⟩;refine⟨_,rfl,_,rfl,_,rfl,k,n,capC n 36512,capC n 292104,M,U,tM,tU,rM,rU,rfl,hk,TM6.mono g7,TU6.mono g7,⟨lm,iM⟩,oU,cM,cU.mono up,by omega,by omega,c292,cap7 (by decide),cap1 hf (by decide),hG,fun E2 V2 t2 r2 H8 g8 T2 pk2=>?_⟩;refine⟨_,rfl,(by show 4<=sizeLine; decide),fun p hp=>?_⟩;have g9:=zf hp (.lst [.ref tM,.ref t1,.ref t2,.ref t3]);have g78:=g7.trans g8;refine q R L U M E1 E2 E3 p tM t1 t2 t3 rM r1 r2 r3 _ (((((g1.trans g2).trans g3).trans g36).trans g78).trans g9) zh ⟨(TM6.mono g78).mono g9,(T1.mono g8).mono g9,T2.mono g9,(T3.mono g78).mono g9⟩ ⟨n1,oM.a.ok,oM.a.len,oM.b.ok,oM.b.len,oM.c.ok,LR,LL,pU⟩ LR.rd rdU (zib hk LR.rd rdU ⟨lm,iM⟩ ⟨lj,iJ⟩ metM (QO redJ) pk1 pk2 pk3) fun r hr=>?_
 rcases wq.mp hr with h | h
 ·rcases wq.mp h with h | h
  ·rcases wq.mp h with h | h
   ·exact cM r h
   ·exact(cR r (pk1.sub r h)).mono up
  ·exact(cU r (pk2.sub r h)).mono up
 ·exact cI r (pk3.sub r h)
noncomputable def Ql:Sp:=fun vs H Q _=>∃(k:Int)(A B C:List (List Nb))(n h s:Nat)(pm ta tb tc:Addr)(ra rb rc:List Addr),vs=[.int k,.ref pm]/\KindOk k/\MachAt H A B C pm ta tb tc ra rb rc/\Fit k n/\n<=5/\MOk k n h s 80 A B C/\(TW k n n 14 A/\TW k n h 14 B/\TW k s n 14 C)/\1<=h/\h<=100/\1<=s/\s<=100 /\
 ∀ R L U X S (a b c d:Nat) p tT tS tz rT rS H',Same H H'->H' p=some (.tup [.ref tT,.ref tS,.ref tz])->H' tz=some (.tup ([(a:Int),(b:Int),(c:Int),(d:Int)].map V.int))->TabAt H' (transp n X) tT rT->TabAt H' S tS rS->Part k n h A B C R L U->(RdR k n R/\RdR k n U)->(La.OkM k n X/\X.length=n)->(La.OkM k n S/\S.length=n)->La.PairU k n S (transp n X)->PlF k n R U X S (plc a b c d)->a+b+c+d=n->((∀ r∈X,∀ x∈r,szk k 36512 x)/\(∀ r∈S,∀ x∈r,szk k 1168392 x))->Q (.ref p) H'
theorem zeF{m c:Nat}{M:List (List Nb)}(hl:∀ r∈M,r.length=c)(h:∀ r∈M,∀ x∈r,nsm m x):∀ r∈transp c M,∀ x∈r,nsm m x:=fun r hr x hx=>by
 unfold transp at hr;obtain⟨j,hj,rfl⟩:=wj.mp hr;obtain⟨q,hq,rfl⟩:=wj.mp hx;have:=hl q hq;rw [vp] at hj;rw [we,wb (by omega)];exact h q hq _ (wk _)
theorem zgg{k:Int}(hk:KindOk k){n C:Nat}{M R:List (List Nb)}{ls:List Nat}(hf:Fit k n)(oM:La.OkM k n M)(lM:M.length=n)(c7:61<=C)(cM:La.rowsB C M)(c1:n<=3->C<=146048)(red:∀(F:Type) [Lean.Grind.Field F] (φ:La.Kf k F),La.RedOf φ (n+n) (La.besideM k n M) R ls)(lR:R.length=n):∀ r∈R.map (vX n),∀ x∈r,szk k 1168392 x:=fun r hr x hx k0=>by
 have h3:n<=3:=by
  rcases hf.2 with h | h
  ·exact h
  ·exact absurd k0 h.1
 obtain⟨y,hy,rfl⟩:=wj.mp hr;have b:=Jg hk c7 (La.qR hk oM lM).1 (YY c7 cM) red;have oR:La.OkM k (n+n) R:=(yg hk (yJ red)).1;have le:(C+1)*2^R.length<=1168392:=by
  rw [lR];exact wF (mul8 h3 (show C+1<=146049 by have:=c1 h3; omega)) (by decide)
 exact qF hk oR (b.mono le) (by decide) y hy x (wai hx)
theorem zdP (D:Df K mg "parting" ["kind", "machine"] ZJ) (zb0:Kn P w K mg base "stretches" 51 ["kind", "machine"] YX) (Yj:Kn P w K mg base "turned" 1 ["table"] xO) (zi4:Kn P w K mg base "back" 46 ["kind", "table"] zfp) (m_len:mg "len" = none) (xC:mg "tuple" = none):Kn P w K mg base "parting" 52 ["kind", "machine"] Ql:=by
 refine D.kn sc_parting (fun vs H Q E h=>?_) (fun f cdv A' outer s' H vs Q E hr h=>?_)
 ·obtain⟨k,A,B,C,n,h,s,pm,ta,tb,tc,ra,rb,rc,rfl,_⟩:=h; rfl
 obtain⟨k,A,B,C,n,h,s,pm,ta,tb,tc,ra,rb,rc,rfl,hk,hM,hf,n5,oM,wM,h1,h100,s1,s100,q⟩:=h;have szl:sizeLine=16777216:=by decide
 have n1:=hf.1;refine⟨_,(zc (zm (i:=2) sc_parting.nd rfl (.inl rfl) (zt zb0 (hr.mono (by decide)) rfl (za (pv 0) (za (pv 1) zd)))) (zc (zm (i:=3) sc_parting.nd rfl (.inl rfl) (zt Yj (hr.mono (by decide)) rfl (za (zq Zr (zq Zr (zq Zr (zG zo (pv 2) ze (fun _ _=>rfl)) (zG zo (pv 2) ze (fun _ _=>rfl))) (zG zo (pv 2) ze (fun _ _=>rfl))) (zG zo (pv 2) ze (fun _ _=>rfl))) zd))) (zg (zp (xP (za (pv 3) (za (zt zi4 (hr.mono (by decide)) rfl (za (pv 0) (za (pv 3) zd))) (za (yX XT rfl xC Yb (za (zN ["stretch"] [] [] ⟨rfl,rfl,rfl,rfl,rfl,rfl,by decide +kernel⟩ rfl (zI (pv 2)) (zj (by decide)) fun _ _ _ _ _ _=>⟨(zi (i:=0) (by decide:(["stretch"]:List Str).Nodup) rfl (by first | exact Or.inl rfl | exact Or.inr rfl)),zL,(zE zO rfl m_len yk (za (pv 0) zd))⟩) zd)) zd)))))))),?_⟩;refine⟨_,rfl,_,rfl,k,A,B,C,n,h,s,pm,ta,tb,tc,ra,rb,rc,rfl,hk,hM,hf,oM,wM,h1,h100,s1,s100,fun R L U M E1 E2 E3 pf t0 t1 t2 t3 r0 r1 r2 r3 H1 g1 hpf ⟨T0,T1,T2,T3⟩ Pt rdR rdU Qd cX=>?_⟩;have len:=Qd.len;have l0:=zk T0.2;have l1:=zk T1.2;have l2:=zk T2.2;have l3:=zk T3.2;refine⟨_,rfl,pf,_,_,.ref t0,rfl,rfl,SqL.of hpf,rfl,_,rfl,pf,_,_,.ref t1,rfl,rfl,SqL.of hpf,rfl,t0,t1,_,_,rfl,rfl,T0.1,T1.1,(by rw [wa,wa]; omega),fun p1 hp1=>?_⟩;have g2:=zf hp1 (.lst (r0.map V.ref++r1.map V.ref));have X1:TabAt (upd H1 p1 (.lst (r0.map V.ref++r1.map V.ref))) (M++E1) p1 (r0++r1):=⟨by rw [zh,ww],qG (T0.mono g2).2 (T1.mono g2).2⟩;have T2':=T2.mono g2;have T3':=T3.mono g2;have hpf2:=g2 _ _ hpf;have g12:=g1.trans g2;generalize upd H1 p1 (.lst (r0.map V.ref++r1.map V.ref))=H2 at *;refine⟨_,rfl,pf,_,_,.ref t2,rfl,rfl,SqL.of hpf2,rfl,p1,t2,_,_,rfl,rfl,X1.1,T2'.1,(by rw [wa,wa,wx]; omega),fun p2 hp2=>?_⟩;have g3:=zf hp2 (.lst ((r0++r1).map V.ref++r2.map V.ref));have X2:TabAt (upd H2 p2 (.lst ((r0++r1).map V.ref++r2.map V.ref))) (M++E1++E2) p2 (r0++r1++r2):=⟨by rw [zh,ww (l₁:=r0++r1)],qG (X1.mono g3).2 (T2'.mono g3).2⟩;have T3'':=T3'.mono g3;have hpf3:=g3 _ _ hpf2;have g13:=g12.trans g3;generalize upd H2 p2 (.lst ((r0++r1).map V.ref++r2.map V.ref))=H3 at *;refine⟨_,rfl,pf,_,_,.ref t3,rfl,rfl,SqL.of hpf3,rfl,p2,t3,_,_,rfl,rfl,X2.1,T3''.1,(by rw [wa,wa,wx,wx]; omega),fun p3 hp3=>?_⟩;have g4:=zf hp3 (.lst ((r0++r1++r2).map V.ref++r3.map V.ref));have X3:TabAt (upd H3 p3 (.lst ((r0++r1++r2).map V.ref++r3.map V.ref))) (M++E1++E2++E3) p3 (r0++r1++r2++r3):=⟨by rw [zh,ww (l₁:=r0++r1++r2)],qG (X2.mono g4).2 (T3''.mono g4).2⟩;have hpf4:=g4 _ _ hpf3;have g14:=g13.trans g4;have T0':=((T0.mono g2).mono g3).mono g4;have T1':=((T1.mono g2).mono g3).mono g4;have T2'':=(T2'.mono g3).mono g4;have T3t:=T3''.mono g4;generalize upd H3 p3 (.lst ((r0++r1++r2).map V.ref++r3.map V.ref))=H4 at *;clear X1 X2 T2' T3' T3'' hpf hpf2 hpf3 g2 g3 g4 g12 g13 T0 T1 T2 T3;have lX:(M++E1++E2++E3).length=n:=by rw [wx,wx,wx]; exact len
 have oX:=Qd.ok;refine⟨M++E1++E2++E3,n,p3,_,rfl,X3,(fun e=>by rw [e] at lX; simp at lX; omega),(fun r hr=>(oX r hr).1),by omega,by omega,fun tT rT H5 g5 nT=>?_⟩;have oT:La.OkM k n (transp n (M++E1++E2++E3)):=by have:=yG oX; rw [lX] at this; exact this
 have lT:=zV n (M++E1++E2++E3);have c7:61<=capC n 146048:=cap7 (by decide);have cT:La.rowsB (capC n 146048) (transp n (M++E1++E2++E3)):=xf hf oT fun h3=>by
  rw [Jo h3] at cX;have sT:=zeF (fun r hr=>(oX r hr).1) (qF hk oX cX (by decide));exact(zaY (by decide) (k:=k) (r:=n) (n:=n) (m:=36512) ⟨lT,oT,sT⟩).mono (wF (vm 36512 (show n+1<=4 by omega)) (by decide))
 have hc:(capC n 146048+1)*2^(n+n)<=60000000:=by
  rcases wN 3 n with h | h
  ·have e:capC n 146048=61:=if_neg (by omega);rw [e];exact wF (vh _ (wZ (by decide) (show n+n<=10 by omega))) (by decide)
  ·rw [Jo h];exact wF (vh _ (wZ (by decide) (show n+n<=6 by omega))) (by decide)
 refine⟨_,rfl,_,rfl,_,rfl,k,transp n (M++E1++E2++E3),n,capC n 146048,tT,rT,rfl,hk,nT.tab,oT,lT,cT,c7,hc,by omega,(fun R' ls' red=>La.Ju hk oX lX Qd.all red),fun R' ls' tS rS H6 g6 nS red=>?_⟩;have hU:=La.Ju hk oX lX Qd.all red;obtain⟨F0,i0,d0,⟨φ0⟩⟩:=La.yf hk;obtain⟨oS,lR'⟩:=La.zcu hk (red F0 φ0) hU;have lS:(R'.map (vX n)).length=n:=by rw [wa]; exact lR'
 have pr:=(La.zfZ hk oT lT red hU).2;have sS:=zgg hk hf oT lT c7 cT (fun h3=>by rw [Jo h3]; exact wu _) red lR';have g46:=g5.trans g6;have four:∀(i:Nat)(v:V),([V.ref t0,V.ref t1,V.ref t2,V.ref t3]:List V)[i]?=some v->∃(W:List (List Nb))(t:Addr)(rs:List Addr),v=.ref t/\TabAt H6 W t rs/\([M.length,E1.length,E2.length,E3.length]:List Nat)[i]?=some W.length:=fun i v hv=>by
  match i,hv with
  | 0,hv=>exact⟨M,t0,r0,(Option.some.inj hv).symm,T0'.mono g46,rfl⟩
  | 1,hv=>exact⟨E1,t1,r1,(Option.some.inj hv).symm,T1'.mono g46,rfl⟩
  | 2,hv=>exact⟨E2,t2,r2,(Option.some.inj hv).symm,T2''.mono g46,rfl⟩
  | 3,hv=>exact⟨E3,t3,r3,(Option.some.inj hv).symm,T3t.mono g46,rfl⟩
  | i+4,hv=>exact absurd hv (by simp)
 have hpf6:=g46 _ _ hpf4;refine⟨_,rfl,pf,rfl,⟨_,SqL.of hpf6⟩,?_⟩;refine zP (xs:=[V.ref t0,V.ref t1,V.ref t2,V.ref t3]) (fun i ys H'=>Same H6 H'/\ys=natV (([M.length,E1.length,E2.length,E3.length]:List Nat).take i)) ⟨Same.refl _,rfl⟩ ?_ ?_ ?_
 ·rintro i ys H' hi ⟨g,rfl⟩
  refine⟨SqL.of (g _ _ hpf6),?_⟩;unfold natV;rw [wa,wv];exact ug (GN _ _) (by show 4<sizeLine; decide)
 ·rintro i v ys H' hv hi ⟨g,rfl⟩
  obtain⟨W,t,rs,rfl,hW,eW⟩:=four i v hv;have hW':=hW.mono g;have lW:=zk hW'.2
  first | refine gyes ?_ | refine tyes ?_
  refine⟨_,rfl,t,_,rfl,.inl (SqL.of hW'.1),nxt hi ⟨g,?_⟩⟩;rw [zw eW,wa,← lW];unfold natV;rw [ww]; rfl
 rintro ys H7 ⟨g7,rfl⟩ pl hpl
 have g8:=zf hpl (.lst (natV (([M.length,E1.length,E2.length,E3.length]:List Nat).take ([V.ref t0,V.ref t1,V.ref t2,V.ref t3]:List V).length)));refine⟨pl,_,rfl,.inl ⟨SqL.of zh,fun tz htz=>?_⟩⟩;have g9:=zf htz (.tup (natV (([M.length,E1.length,E2.length,E3.length]:List Nat).take ([V.ref t0,V.ref t1,V.ref t2,V.ref t3]:List V).length)));refine⟨(by show 3<=sizeLine; decide),fun p hp=>?_⟩;have g10:=zf hp (.tup [.ref tT,.ref tS,.ref tz]);have g610:=((g7.trans g8).trans g9).trans g10;refine q R L U (M++E1++E2++E3) (R'.map (vX n)) M.length E1.length E2.length E3.length p tT tS tz rT rS _ ((g14.trans g46).trans g610) zh (g10 _ _ zh) ((nT.tab.mono g6).mono g610) (nS.tab.mono g610) Pt ⟨rdR,rdU⟩ ⟨oX,lX⟩ ⟨oS,lS⟩ pr (zjA Qd lS pr) len ⟨fun r hr x hx k0=>?_,sS⟩;have h3:n<=3:=by
  rcases hf.2 with h | h
  ·exact h
  ·exact absurd k0 h.1
 rw [Jo h3] at cX;exact qF hk oX cX (by decide) r hr x hx
theorem zhH (K:PySem.W.Frag):PySem.W.kitOne K (.type "list") (.type "list")=some true:=by unfold PySem.W.kitOne; rw [if_pos (by decide)]
theorem Zx{a b:Int}(h0 : -(2^64)<b)(h1:b<2^64):IntMulOk a b:=IntMulOk.of_right (intBits_le_64 h0 h1)
theorem jO{a b:Int}(h0 : -(2^64)<a)(h1:a<2^64):IntMulOk a b:=IntMulOk.of_left (intBits_le_64 h0 h1)
noncomputable def qJ:Sp:=fun vs H Q _=>∃(t b:Int),vs=[.int t,.int b]/\0<b/\∀ p H',Same H H'->H' p=some (.tup [.int (vF t b).num,.int ((vF t b).den:Int)])->Q (.ref p) H'
theorem zbg (hP:P.given.tree=none) (hS:base.NoSeer) (D:Df K mg "_law_fraction" ["_law_top", "_law_bottom"] xw) (jJ:Kn P w K mg base "_law_divisor" 1 ["_law_one", "_law_other"] zct):Kn P w K mg base "_law_fraction" 41 ["_law_top", "_law_bottom"] qJ:=by
 refine D.kn sc__law_fraction (fun vs H Q E h=>?_) (fun f cdv A outer s H vs Q E hr h=>?_)
 ·obtain⟨t,b,rfl,_⟩:=h; rfl
 obtain⟨t,b,rfl,b0,q⟩:=h;refine⟨_,(zc (zm (i:=2) sc__law_fraction.nd rfl (.inl rfl) (zt jJ (hr.mono (by decide)) rfl (za (pv 0) (za (pv 1) zd)))) (zg (zp (xP (za (zq (ya hr (by decide) hP hS ⟨_,_,rfl,rfl,rfl,rfl,rfl⟩) (pv 0) (pv 2)) (za (zq (ya hr (by decide) hP hS ⟨_,_,rfl,rfl,rfl,rfl,rfl⟩) (pv 1) (pv 2)) zd)))))),?_⟩;have e:sg t b =((ve t b:Nat):Int):=by unfold sg; rw [if_neg (by omega)]
 have ne:((ve t b:Nat):Int)≠0:=by rw [← e]; exact zgb (by omega)
 obtain⟨e1,e2⟩:=Xo (t:=t) (b:=b) (by omega);rw [e] at e1 e2;refine⟨_,rfl,_,rfl,t,b,rfl,_,rfl,_,rfl,_,_,rfl,rfl,ne,_,rfl,_,rfl,_,_,rfl,rfl,ne,(by show 2<=sizeLine; decide),fun p hp=>?_⟩;show Q (.ref p) (upd H p (.tup [.int (t.fdiv ((ve t b:Nat):Int)),.int (b.fdiv ((ve t b:Nat):Int))]));rw [e1,e2];exact q p _ (zf hp _) zh
noncomputable def zag:Sp:=fun vs H Q _=>∃(c j:Int),vs=[.int c,.int j]/\0<=j/\j<=1000/\∀ m:Int,0<=m->m<2147483648->Q (.int m) H
theorem ten7:(10:Int)^(7:Int).toNat=10000000:=by decide
theorem cpow10{j:Int}(h0:0<=j)(h1:j<=100):CPow 10 j:=⟨h0,by omega,by decide⟩
theorem zgB (hP:P.given.tree=none) (hS:base.NoSeer) (D:Df K mg "_law_mixed" ["_law_cell", "_law_k"] jD) (zy:mg "range" = none):Kn P w K mg base "_law_mixed" 41 ["_law_cell", "_law_k"] zag:=by
 refine D.kn sc__law_mixed (fun vs H Q E h=>?_) (fun f cdv A outer s H vs Q E hr h=>?_)
 ·obtain⟨c,j,rfl,_⟩:=h; rfl
 obtain⟨c,j,rfl,j0,j1,q⟩:=h;refine⟨_,(zc (yj (zD qB (pv 0) (zq zeG ze ze) (nomark _)) (zc (zm (i:=2) sc__law_mixed.nd rfl (.inl rfl) (zq (ya hr (by decide) hP hS ⟨_,_,rfl,rfl,rfl,rfl,rfl⟩) (pv 0) ze)) (zc (yA PassesOwn.never rfl (zM rfl zy (za (pv 1) zd)) (zi (i:=3) sc__law_mixed.nd rfl (.inl rfl)) (zg (zm (i:=2) sc__law_mixed.nd rfl (.inl rfl) (zq (ya hr (by decide) hP hS ⟨_,_,rfl,rfl,rfl,rfl,rfl⟩) (pv 2) (zq zeG ze ze))))) (zg (zp (zq zQ (pv 2) (zq zeG ze ze)))))) zK) (zc (zm (i:=4) sc__law_mixed.nd rfl (.inl rfl) (zq zQ (zq zX (zq yZ (zq yZ (zq zQ (pv 0) ze) (zq zX (zq zX ze (pv 1)) (pv 1))) (zq zX ze (pv 1))) ze) ze)) (zg (zp (zq zQ (zq zX (pv 4) (zq yZ (zq yZ (zq zQ (pv 4) ze) (zq zX ze (pv 1))) ze)) ze))))),?_⟩;have n1:(2147483647:Int)≠0:=by decide
 have n2:(2147483629:Int)≠0:=by decide
 have n3:(65537:Int)≠0:=by decide
 have n4:(1000:Int)≠0:=by decide
 have n5:(10:Int)^(7:Int).toNat≠0:=by decide
 refine⟨_,rfl,_,_,rfl,rfl,cpow10 (by decide) (by decide),_,_,rfl,rfl,_,rfl,?_⟩;refine ite2 (fun cc=>?_) (fun cc=>?_)
 ·refine⟨_,rfl,_,_,rfl,rfl,n4,?_⟩;refine⟨_,rfl,j,rfl,(by omega),(by omega),?_⟩;refine yC (lo:=0) (n:=j.toNat) (fun i σ H'=>∃ lf o3 o4,σ=[some (.int c),some (.int j),some (.int lf),o3,o4]/\H'=H) ⟨_,none,none,rfl,rfl⟩ ?_ ?_
  ·rintro i σ H' hi ⟨lf,o3,o4,rfl,rfl⟩
   exact⟨_,rfl,_,_,rfl,rfl,cpow10 (by decide) (by decide),_,_,rfl,rfl,n5,_,_,_,rfl,rfl⟩
  ·rintro σ H' ⟨lf,o3,o4,rfl,rfl⟩
   refine⟨_,rfl,_,_,rfl,rfl,cpow10 (by decide) (by decide),_,_,rfl,rfl,n5,?_⟩
   dsimp only
   rw [ten7];have h0:=wG lf (show(0:Int)<10000000 by decide);have h1:=wL lf (show(0:Int)<10000000 by decide);exact q _ h0 (by omega)
 ·have f0:=wG c (show(0:Int)<2147483647 by decide);have f1:=wL c (show(0:Int)<2147483647 by decide);refine⟨_,rfl,_,_,rfl,rfl,n1,_,rfl,_,_,rfl,rfl,jO (by decide) (by decide),_,rfl,_,_,rfl,rfl,Zx (by omega) (by omega),_,_,rfl,rfl,_,rfl,_,_,rfl,rfl,jO (by decide) (by decide),_,_,rfl,rfl,_,_,rfl,rfl,Zx (by decide) (by decide),_,_,rfl,rfl,n1,?_⟩
  dsimp only
  generalize ((c.fmod 2147483647+40503*j*j+17*j)*48271).fmod 2147483647=o at *;refine⟨_,rfl,_,rfl,_,_,rfl,rfl,n3,_,rfl,_,_,rfl,rfl,jO (by decide) (by decide),_,_,rfl,rfl,_,_,rfl,rfl,_,_,rfl,rfl,Zx ?_ ?_,_,_,rfl,rfl,n2,?_⟩
  ·have h0:=wG o (show(0:Int)<65537 by decide);show -(2^64)<o.fmod 65537+3*j+1;omega
  ·have h1:=wL o (show(0:Int)<65537 by decide);show o.fmod 65537+3*j+1<2^64;omega
  dsimp only
  generalize o *(o.fmod 65537+3*j+1)=x;have h0:=wG x (show(0:Int)<2147483629 by decide);have h1:=wL x (show(0:Int)<2147483629 by decide);exact q _ h0 (by omega)
noncomputable def zaB:Sp:=fun vs H Q _=>∃(k c:Int),vs=[.int k,.int c]/\KindOk k/\∀ x v H',Same H H'->RN H' x v->x.ok k->Q v H'
theorem zg3{k c m:Int}(hk:1<k)(h0:0<=m)(h1:m<4)(c0:0<=c)(c1:c<k):∃ w:Int,atI [V.int 0,V.int 1,V.int (k - 1),V.int c] m=some (.int w)/\0<=w/\w<k:=by
 rcases (show m=0\/m=1\/m=2\/m=3 by omega)with rfl | rfl | rfl | rfl
 ·exact⟨0,rfl,by omega,by omega⟩
 ·exact⟨1,rfl,by omega,by omega⟩
 ·exact⟨k - 1,rfl,by omega,by omega⟩
 ·exact⟨c,rfl,c0,c1⟩
theorem zfU (hP:P.given.tree=none) (hS:base.NoSeer) (D:Df K mg "_law_drawn" ["_law_prime_here", "_law_cell"] jy) (yq:Kn P w K mg base "_law_fraction" 41 ["_law_top", "_law_bottom"] qJ):Kn P w K mg base "_law_drawn" 42 ["_law_prime_here", "_law_cell"] zaB:=by
 refine D.kn QF (fun vs H Q E h=>?_) (fun f cdv A outer s H vs Q E hr h=>?_)
 ·obtain⟨k,c,rfl,_⟩:=h; rfl
 obtain⟨k,c,rfl,hk,q⟩:=h;have kl:=hk.lt;refine⟨_,(zc (yj (zD qB (pv 0) ze (nomark _)) (zg (zp (zG zo (yF (za ze (za ze (za (zq qA (pv 0) ze) (za (zq zQ (zq (ya hr (by decide) hP hS ⟨_,_,rfl,rfl,rfl,rfl,rfl⟩) (pv 1) ze) (pv 0)) zd))))) (zq zQ (pv 1) ze) (fun _ _=>rfl)))) zK) (zc (yj (zD yI (zq zQ (pv 1) ze) ze (nomark _)) (zg (zp (xP (za (zq qA (zq zQ (zq (ya hr (by decide) hP hS ⟨_,_,rfl,rfl,rfl,rfl,rfl⟩) (pv 1) ze) ze) ze) (za ze zd))))) zK) (zg (zp (zt yq (hr.mono (by decide)) rfl (za (zq qA (zq zQ (zq (ya hr (by decide) hP hS ⟨_,_,rfl,rfl,rfl,rfl,rfl⟩) (pv 1) ze) ze) ze) (za (zq yZ ze (zq zQ (zq (ya hr (by decide) hP hS ⟨_,_,rfl,rfl,rfl,rfl,rfl⟩) (pv 1) ze) ze)) zd))))))),?_⟩;have n4:(4:Int)≠0:=by decide
 have n3:(3:Int)≠0:=by decide
 refine⟨_,rfl,_,_,rfl,rfl,_,rfl,?_⟩;refine ite2 (fun ck=>?_) (fun ck=>?_)
 ·have k0:0<k:=of_decide_eq_true ck;have k1:1<k:=by
   rcases hk with h | h
   ·omega
   ·exact h.1
  refine⟨_,rfl,_,_,rfl,rfl,_,rfl,_,_,rfl,rfl,n4,_,rfl,_,_,rfl,rfl,(show k≠0 by omega),(by show 4<=sizeLine; decide),fun p hp=>?_⟩;obtain⟨w,ew,w0,w1⟩:=zg3 k1 (wG c (show(0:Int)<4 by decide)) (wL c (show(0:Int)<4 by decide)) (wG (c.fdiv 4) k0) (wL (c.fdiv 4) k0);exact⟨_,rfl,_,_,rfl,rfl,n4,p,_,_,_,rfl,rfl,SqL.of zh,ew,q (.z w) _ _ (zf hp _) RN.of_z ⟨by omega,w0,w1⟩⟩
 ·have k0:k=0:=by
   have:¬ 0<k:=of_decide_eq_false (uA.mpr ck);omega
  refine⟨_,rfl,_,_,rfl,rfl,n3,rfl,_,rfl,?_⟩;refine ite2 (fun c3=>?_) (fun c3=>?_)
  ·refine⟨_,rfl,_,_,rfl,rfl,n3,_,_,rfl,rfl,n3,_,_,rfl,rfl,(by show 2<=sizeLine; decide),fun p hp=>?_⟩;exact q (.q ((((c.fdiv 3).fmod 3 - 1:Int)):Rat)) _ _ (zf hp _) (RN.of_q (r:=(((c.fdiv 3).fmod 3 - 1:Int):Rat)) zh) k0
  ·have b0:=wG (c.fdiv 57) (show(0:Int)<4 by decide);exact⟨_,rfl,_,_,rfl,rfl,n3,_,_,rfl,rfl,(by show(19:Int)≠0; decide),_,_,rfl,rfl,_,rfl,_,_,rfl,rfl,(by show(57:Int)≠0; decide),_,_,rfl,rfl,n4,_,_,rfl,rfl,_,_,rfl,(by omega),fun p H' g hp=>q (.q _) _ H' g (RN.of_q hp) k0⟩
noncomputable def jh:Sp:=fun vs H Q _=>∃(k w:Int),vs=[.int k,.int w]/\KindOk k/\∀ v H',Same H H'->RN H' (nnum k w) v->Q v H'
theorem zhm (D:Df K mg "_law_make" ["_law_prime_here", "_law_whole_here"] qg):Kn P w K mg base "_law_make" 1 ["_law_prime_here", "_law_whole_here"] jh:=by
 refine D.kn zbR (fun vs H Q E h=>?_) (fun f cdv A outer s H vs Q E hr h=>?_)
 ·obtain⟨k,w,rfl,_⟩:=h; rfl
 obtain⟨k,x,rfl,hk,q⟩:=h;have kl:=hk.lt;refine⟨_,(zc (yj (zD yI (pv 0) ze (nomark _)) (zg (zp (xP (za (pv 1) (za ze zd))))) zK) (zg (zp (zq zQ (pv 1) (pv 0))))),?_⟩;refine⟨_,rfl,rfl,_,rfl,?_⟩;refine ite2 (fun c=>?_) (fun c=>?_)
 ·have k0:k=0:=V.int.inj (of_decide_eq_true c);subst k0;exact⟨_,rfl,(by show 2<=sizeLine; decide),fun p hp=>q _ _ (zf hp _) (RN.of_q (r:=(x:Rat)) zh)⟩
 ·have k0:k≠0:=fun e=>c (by show decide (V.int k=V.int 0)=true; rw [e]; decide)
  refine⟨_,rfl,_,rfl,_,_,rfl,rfl,k0,q _ _ (Same.refl H) ?_⟩;unfold nnum;rw [if_neg k0];exact RN.of_z
theorem zgJ (D:Df K mg "_law_plus" ["_law_prime_here", "_law_one", "_law_other"] ql) (yq:Kn P w K mg base "_law_fraction" 41 ["_law_top", "_law_bottom"] qJ):Kn P w K mg base "_law_plus" 42 ["_law_prime_here", "_law_one", "_law_other"] (qV nadd):=by
 refine D.kn za6 (fun vs H Q E h=>?_) (fun f cdv A outer s H vs Q E hr h=>?_)
 ·obtain⟨k,x,y,a,b,rfl,_⟩:=h; rfl
 obtain⟨k,x,y,a,b,rfl,T,q⟩:=h;have kl:=T.kd.lt;refine⟨_,(zc (yj (zD yI (pv 0) ze (nomark _)) (zg (zp (zt yq (hr.mono (by decide)) rfl (za (zq yZ (zq zX (zG zJ (pv 1) ze (fun _ _=>rfl)) (zG zJ (pv 2) ze (fun _ _=>rfl))) (zq zX (zG zJ (pv 2) ze (fun _ _=>rfl)) (zG zJ (pv 1) ze (fun _ _=>rfl)))) (za (zq zX (zG zJ (pv 1) ze (fun _ _=>rfl)) (zG zJ (pv 2) ze (fun _ _=>rfl))) zd))))) zK) (zg (zp (zq zQ (zq yZ (pv 1) (pv 2)) (pv 0))))),?_⟩
 rcases ZS T with⟨rfl,r,s,pa,pb,rfl,rfl,rfl,rfl,ha,hb,rn,rd,sn,sd⟩ | ⟨k0,hp,i,j,rfl,rfl,rfl,rfl,i0,ik,j0,jk⟩
 ·refine⟨_,rfl,rfl,_,rfl,iteT ?_⟩;refine⟨_,rfl,pa,_,_,_,rfl,rfl,SqT.of ha,rfl,_,rfl,pb,_,_,_,rfl,rfl,SqT.of hb,rfl,_,_,rfl,rfl,xI rn sd,_,rfl,pb,_,_,_,rfl,rfl,SqT.of hb,rfl,_,rfl,pa,_,_,_,rfl,rfl,SqT.of ha,rfl,_,_,rfl,rfl,xI sn rd,_,_,rfl,rfl,_,rfl,pa,_,_,_,rfl,rfl,SqT.of ha,rfl,_,rfl,pb,_,_,_,rfl,rfl,SqT.of hb,rfl,_,_,rfl,rfl,xI rd sd,_,_,rfl,Gs (den_pos r) (den_pos s),fun p H' g h=>?_⟩;rw [zez] at h;exact q _ H' g (RN.of_q h)
 ·refine⟨_,rfl,rfl,_,rfl,?_⟩;rw [decide_eq_false (fun e=>k0 (V.int.inj e))];refine iteF ?_;refine⟨_,rfl,_,rfl,_,_,rfl,rfl,_,rfl,_,_,rfl,rfl,k0,?_⟩;exact q _ _ (Same.refl H) RN.of_z
theorem zfW (D:Df K mg "_law_times" ["_law_prime_here", "_law_one", "_law_other"] jw) (yq:Kn P w K mg base "_law_fraction" 41 ["_law_top", "_law_bottom"] qJ):Kn P w K mg base "_law_times" 42 ["_law_prime_here", "_law_one", "_law_other"] (qV nmul):=by
 refine D.kn zaA (fun vs H Q E h=>?_) (fun f cdv A outer s H vs Q E hr h=>?_)
 ·obtain⟨k,x,y,a,b,rfl,_⟩:=h; rfl
 obtain⟨k,x,y,a,b,rfl,T,q⟩:=h;have kl:=T.kd.lt;refine⟨_,(zc (yj (zD yI (pv 0) ze (nomark _)) (zg (zp (zt yq (hr.mono (by decide)) rfl (za (zq zX (zG zJ (pv 1) ze (fun _ _=>rfl)) (zG zJ (pv 2) ze (fun _ _=>rfl))) (za (zq zX (zG zJ (pv 1) ze (fun _ _=>rfl)) (zG zJ (pv 2) ze (fun _ _=>rfl))) zd))))) zK) (zg (zp (zq zQ (zq zX (pv 1) (pv 2)) (pv 0))))),?_⟩
 rcases ZS T with⟨rfl,r,s,pa,pb,rfl,rfl,rfl,rfl,ha,hb,rn,rd,sn,sd⟩ | ⟨k0,hp,i,j,rfl,rfl,rfl,rfl,i0,ik,j0,jk⟩
 ·refine⟨_,rfl,rfl,_,rfl,iteT ?_⟩;refine⟨_,rfl,pa,_,_,_,rfl,rfl,SqT.of ha,rfl,_,rfl,pb,_,_,_,rfl,rfl,SqT.of hb,rfl,_,_,rfl,rfl,xI rn sn,_,rfl,pa,_,_,_,rfl,rfl,SqT.of ha,rfl,_,rfl,pb,_,_,_,rfl,rfl,SqT.of hb,rfl,_,_,rfl,rfl,xI rd sd,_,_,rfl,Gs (den_pos r) (den_pos s),fun p H' g h=>?_⟩;rw [zcb] at h;exact q _ H' g (RN.of_q h)
 ·refine⟨_,rfl,rfl,_,rfl,?_⟩;rw [decide_eq_false (fun e=>k0 (V.int.inj e))];refine iteF ?_;refine⟨_,rfl,_,rfl,_,_,rfl,rfl,xl i0 (by have:=hp.hi; omega),_,rfl,_,_,rfl,rfl,k0,?_⟩;exact q _ _ (Same.refl H) RN.of_z
theorem zja{k:Int}(hk:KindOk k){x y:Nb}(ox:x.ok k)(oy:y.ok k):nadd k x (nmul k (nnum k (-1)) y)=nsub k x y:=by
 obtain⟨F,_,_,⟨φ⟩⟩:=La.yf hk;have o1:=La.zU hk (-1);have om:=La.yM hk o1 oy;refine φ.inj (La.XD hk ox om) (XE (by have:=hk.lt; omega) ox oy) ?_;rw [φ.add ox om,φ.mul o1 oy,φ.sub ox oy,φ.num];have:(La.ι (-1):F) = -1:=by
  have h1:(La.ι (-1):F)+La.ι 1=0:=by rw [← La.ι_add]; exact La.ι_zero
  rw [La.ι_one] at h1
  grind
 rw [this]
 grind
noncomputable def ZD:Sp:=fun vs H Q _=>∃(k:Int)(x y:Nb)(a b:V),vs=[.int k,a,b]/\KindOk k/\x.ok k/\y.ok k/\nsm 30000000 x/\nsm 30000000 y/\RN H x a/\RN H y b/\∀ v H',Same H H'->RN H' (nsub k x y) v->Q v H'
theorem zeh (D:Df K mg "_law_minus" ["_law_prime_here", "_law_one", "_law_other"] jB) (zW:Kn P w K mg base "_law_make" 1 ["_law_prime_here", "_law_whole_here"] jh) (jl:Kn P w K mg base "_law_plus" 42 ["_law_prime_here", "_law_one", "_law_other"] (qV nadd)) (yn:Kn P w K mg base "_law_times" 42 ["_law_prime_here", "_law_one", "_law_other"] (qV nmul)):Kn P w K mg base "_law_minus" 43 ["_law_prime_here", "_law_one", "_law_other"] ZD:=by
 refine D.kn zat (fun vs H Q E h=>?_) (fun f cdv A outer s H vs Q E hr h=>?_)
 ·obtain⟨k,x,y,a,b,rfl,_⟩:=h; rfl
 obtain⟨k,x,y,a,b,rfl,hk,ox,oy,sx,sy,rx,ry,q⟩:=h;refine⟨_,(zg (zp (zt jl (hr.mono (by decide)) rfl (za (pv 0) (za (pv 1) (za (zt yn (hr.mono (by decide)) rfl (za (pv 0) (za (zt zW (hr.mono (by decide)) rfl (za (pv 0) (za (ziI zfk ze) zd))) (za (pv 2) zd)))) zd)))))),?_⟩;have o1:=La.zU hk (-1);have s1:nsm 30000000 (nnum k (-1)):=qW hk (sm_one.neg.mono (by decide)) (by decide);refine⟨_,rfl,_,rfl,_,rfl,_,rfl,_,rfl,k,-1,rfl,hk,fun v1 H1 g1 r1=>?_⟩;refine⟨_,rfl,k,nnum k (-1),y,_,_,rfl,⟨hk,o1,oy,nsm.mono s1 (by decide),nsm.mono sy (by decide),r1,ry.mono g1⟩,fun v2 H2 g2 r2=>?_⟩;refine⟨k,x,_,_,_,rfl,⟨hk,ox,La.yM hk o1 oy,sx.mono (by decide),(zis hk o1 oy s1 sy (by decide)).mono (by decide),(rx.mono g1).mono g2,r2⟩,fun v3 H3 g3 r3=>?_⟩;rw [zja hk ox oy] at r3;exact q v3 H3 ((g1.trans g2).trans g3) r3
noncomputable def primesN:List Nat:=[2,3,5,7,11,13,17,19,23,29,31,37,41,43,47,53,59,61,67,71,73,79,83,89,97]
theorem zgc:∀ w∈primesN,primeB w=true/\1<w/\w<99:=by decide
theorem zgI{i:Nat}(h:i<25):∃ k:Int,(([2,3,5,7,11,13,17,19,23,29,31,37,41,43,47,53,59,61,67,71,73,79,83,89,97]:List Int).map V.int)[i]?=some (.int k)/\KindS k:=by
 rw [show(([2,3,5,7,11,13,17,19,23,29,31,37,41,43,47,53,59,61,67,71,73,79,83,89,97]:List Int).map V.int)=primesN.map fun(w:Nat)=>V.int (w:Int)from rfl];have hi:i<primesN.length:=h;refine⟨(primesN[i]:Int),by rw [wg,wb hi]; rfl,.inr ?_⟩;obtain⟨h1,h2,h3⟩:=zgc primesN[i] (wk hi);exact⟨by omega,by omega,by rw [wP]; exact h1⟩
noncomputable def zaU:Sp:=fun vs H Q _=>∃(c:Int),vs=[.int c]/\∀ k H',Same H H'->KindS k->(c.fmod 3=0->k=0)->Q (.int k) H'
theorem zfV (hP:P.given.tree=none) (hS:base.NoSeer) (D:Df K mg "_law_prime" ["_law_cell"] xp):Kn P w K mg base "_law_prime" 41 ["_law_cell"] zaU:=by
 refine D.kn sc__law_prime (fun vs H Q E h=>?_) (fun f cdv A outer s H vs Q E hr h=>?_)
 ·obtain⟨c,rfl,_⟩:=h; rfl
 obtain⟨c,rfl,q⟩:=h;obtain⟨es,pa,pb,pc,hes,e0⟩ : ∃(es:List Expr)(pa pb pc:Pos),IntEs es [2,3,5,7,11,13,17,19,23,29,31,37,41,43,47,53,59,61,67,71,73,79,83,89,97]/\defBody xp=Stmt.Assign (targets:=[Expr.Name "_law_primes" pa]) (value:=Expr.List es pb) (pos:=pc) ::(defBody xp).tail:=⟨_,_,_,_,by repeat constructor,rfl⟩;rw [e0];refine⟨_,(zc (zm (i:=1) sc__law_prime.nd rfl (.inl rfl) (yF (ziv [2,3,5,7,11,13,17,19,23,29,31,37,41,43,47,53,59,61,67,71,73,79,83,89,97] hes))) (zc (yj (zD yI (zq zQ (pv 0) ze) ze (nomark _)) (zg (zp ze)) zK) (zg (zp (zG zo (pv 1) (zG zo (yF (za (zq zQ (zq (ya hr (by decide) hP hS ⟨_,_,rfl,rfl,rfl,rfl,rfl⟩) (pv 0) ze) ze) (za (zq zQ (zq (ya hr (by decide) hP hS ⟨_,_,rfl,rfl,rfl,rfl,rfl⟩) (pv 0) ze) ze) zd))) (zq qA (zq zQ (pv 0) ze) ze) (fun _ _=>rfl)) (fun _ _=>rfl)))))),?_⟩;have n3:(3:Int)≠0:=by decide
 refine⟨(by show 25<=sizeLine; decide),fun p hp=>?_⟩;have hpp:upd H p (.lst (([2,3,5,7,11,13,17,19,23,29,31,37,41,43,47,53,59,61,67,71,73,79,83,89,97]:List Int).map V.int)) p=some (.lst (([2,3,5,7,11,13,17,19,23,29,31,37,41,43,47,53,59,61,67,71,73,79,83,89,97]:List Int).map V.int)):=zh;have g1:=zf hp (.lst (([2,3,5,7,11,13,17,19,23,29,31,37,41,43,47,53,59,61,67,71,73,79,83,89,97]:List Int).map V.int));generalize upd H p (.lst (([2,3,5,7,11,13,17,19,23,29,31,37,41,43,47,53,59,61,67,71,73,79,83,89,97]:List Int).map V.int))=H1 at *;refine⟨_,rfl,_,_,rfl,rfl,n3,rfl,_,rfl,?_⟩;refine ite2 (fun cc=>?_) (fun cc=>?_)
 ·exact q 0 _ g1 (.inl rfl) (fun _=>rfl)
 ·have c3:c.fmod 3≠0:=fun e=>cc (by show decide (V.int (c.fmod 3)=V.int 0)=true; rw [e]; decide)
  have f0:=wG c (show(0:Int)<3 by decide);have f1:=wL c (show(0:Int)<3 by decide);have a0:=wG (c.fdiv 3) (show(0:Int)<4 by decide);have a1:=wL (c.fdiv 3) (show(0:Int)<4 by decide);have b0:=wG (c.fdiv 3) (show(0:Int)<25 by decide);have b1:=wL (c.fdiv 3) (show(0:Int)<25 by decide);refine⟨_,rfl,_,rfl,_,_,rfl,rfl,n3,_,_,rfl,rfl,(by show(4:Int)≠0; decide),_,rfl,_,_,rfl,rfl,n3,_,_,rfl,rfl,(by show(25:Int)≠0; decide),(by show 2<=sizeLine; decide),fun p2 hp2=>?_⟩;have g2:=zf hp2 (.lst [V.int ((c.fdiv 3).fmod 4),V.int ((c.fdiv 3).fmod 25)]);obtain⟨i,ei,hi⟩ : ∃ i:Nat,atI [V.int ((c.fdiv 3).fmod 4),V.int ((c.fdiv 3).fmod 25)] (c.fmod 3 - 1)=some (.int (i:Int))/\i<25:=by
   rcases (show c.fmod 3=1\/c.fmod 3=2 by omega)with e | e
   ·refine⟨((c.fdiv 3).fmod 4).toNat,?_,by omega⟩;rw [e,show((((c.fdiv 3).fmod 4).toNat:Nat):Int) =(c.fdiv 3).fmod 4 by omega]
    rfl
   ·refine⟨((c.fdiv 3).fmod 25).toNat,?_,by omega⟩;rw [e,show((((c.fdiv 3).fmod 25).toNat:Nat):Int) =(c.fdiv 3).fmod 25 by omega]
    rfl
  obtain⟨k,ek,hk⟩:=zgI hi;exact⟨_,rfl,_,_,rfl,rfl,n3,_,_,rfl,rfl,p2,_,_,_,rfl,rfl,SqL.of zh,ei,p,_,_,_,rfl,rfl,SqL.of (g2 _ _ hpp),zH ek,q k _ (g1.trans g2) hk (fun e=>absurd e c3)⟩
noncomputable def zhv:Sp:=fun vs H Q _=>∃(k:Int)(pc:Addr)(cs:List Int)(i:Nat)(iI:Int),vs=[.int k,.ref pc,.int iI]/\iI =(i:Int)/\KindOk k/\H pc=some (.lst (cs.map V.int))/\cs≠[]/\∀ x v H',Same H H'->RN H' x v->x.ok k->Q v H'
theorem zi2 (D:Df K mg "_law_at" ["_law_prime_here", "_law_cells", "_law_k"] ZE) (YW:Kn P w K mg base "_law_drawn" 42 ["_law_prime_here", "_law_cell"] zaB) (qP:Kn P w K mg base "_law_mixed" 41 ["_law_cell", "_law_k"] zag) (m_len:mg "len" = none):Kn P w K mg base "_law_at" 43 ["_law_prime_here", "_law_cells", "_law_k"] zhv:=by
 refine D.kn zd8 (fun vs H Q E h=>?_) (fun f cdv A outer s H vs Q E hr h=>?_)
 ·obtain⟨k,pc,cs,i,iI,rfl,_⟩:=h; rfl
 obtain⟨k,pc,cs,i,iI,rfl,rfl,hk,hc,ne,q⟩:=h;refine⟨_,(zc (yj (zD zfG (pv 2) (zE zO rfl m_len yk (za (pv 1) zd)) (nomark _)) (zg (zp (zt YW (hr.mono (by decide)) rfl (za (pv 0) (za (zG zo (pv 1) (pv 2) (fun _ _=>rfl)) zd))))) zK) (zg (zp (zt YW (hr.mono (by decide)) rfl (za (pv 0) (za (zt qP (hr.mono (by decide)) rfl (za (zq yZ (zG zo (pv 1) ze (fun _ _=>rfl)) (pv 2)) (za (zq zQ (pv 2) ze) zd))) zd)))))),?_⟩;refine⟨_,rfl,_,rfl,pc,_,rfl,.inl (SqL.of hc),_,_,rfl,rfl,_,rfl,?_⟩;refine ite2 (fun cc=>?_) (fun cc=>?_)
 ·have c':(i:Int) <(((cs.map V.int).length:Nat):Int):=of_decide_eq_true cc;rw [wa] at c';have e:(cs.map V.int)[i]?=some (.int cs[i]):=by rw [wg,wb (by omega)]; rfl
  exact⟨_,rfl,_,rfl,_,rfl,pc,_,_,_,rfl,rfl,SqL.of hc,zH e,k,_,rfl,hk,q⟩
 ·obtain⟨c0,cs',rfl⟩:=uM ne;have f0:=wG (i:Int) (show(0:Int)<30 by decide);have f1:=wL (i:Int) (show(0:Int)<30 by decide);exact⟨_,rfl,_,rfl,pc,_,_,_,rfl,rfl,SqL.of hc,zH (j:=0) rfl,_,rfl,_,_,rfl,rfl,_,rfl,_,_,rfl,rfl,(by show(30:Int)≠0; decide),_,_,rfl,(by omega),(by omega),fun m _ _=>⟨k,m,rfl,hk,q⟩⟩
noncomputable def zbB:Sp:=fun vs H Q _=>∃(k:Int)(pc:Addr)(cs:List Int)(i:Nat)(iI:Int),vs=[.int k,.ref pc,.int iI]/\iI =(i:Int)/\KindOk k/\H pc=some (.lst (cs.map V.int))/\cs≠[]/\∀ x v H',Same H H'->RN H' x v->x.ok k->whk k 2 x->Q v H'
theorem zfS (D:Df K mg "_law_small" ["_law_prime_here", "_law_cells", "_law_k"] jq) (zf3:Kn P w K mg base "_law_at" 43 ["_law_prime_here", "_law_cells", "_law_k"] zhv):Kn P w K mg base "_law_small" 44 ["_law_prime_here", "_law_cells", "_law_k"] zbB:=by
 refine D.kn sc__law_small (fun vs H Q E h=>?_) (fun f cdv A outer s H vs Q E hr h=>?_)
 ·obtain⟨k,pc,cs,i,iI,rfl,_⟩:=h; rfl
 obtain⟨k,pc,cs,i,iI,rfl,rfl,hk,hc,ne,q⟩:=h;refine⟨_,(zc (zm (i:=3) sc__law_small.nd rfl (.inl rfl) (zt zf3 (hr.mono (by decide)) rfl (za (pv 0) (za (pv 1) (za (pv 2) zd))))) (zc (yj (zD yI (pv 0) ze (nomark _)) (zg (zp (xP (za (zq qA (zq zQ (zG zJ (pv 3) ze (fun _ _=>rfl)) ze) ze) (za ze zd))))) zK) (zg (zp (pv 3))))),?_⟩;refine⟨_,rfl,_,rfl,_,rfl,k,pc,cs,i,_,rfl,rfl,hk,hc,ne,fun x v H1 g1 rx ox=>?_⟩;refine⟨_,rfl,rfl,_,rfl,?_⟩;refine ite2 (fun cc=>?_) (fun cc=>?_)
 ·have k0:k=0:=V.int.inj (of_decide_eq_true cc);subst k0;cases x with
  | z j=>exact absurd rfl ox.1
  | q r =>
   obtain⟨p,rfl,hp⟩:=rx.q;have f0:=wG r.num (show(0:Int)<5 by decide);have f1:=wL r.num (show(0:Int)<5 by decide);refine⟨_,rfl,p,_,_,_,rfl,rfl,SqT.of hp,rfl,_,_,rfl,rfl,(by show(5:Int)≠0; decide),_,_,rfl,rfl,(by show 2<=sizeLine; decide),fun p2 hp2=>?_⟩;refine q (.q ((r.num.fmod 5 - 2:Int):Rat)) _ _ (g1.trans (zf hp2 _)) (RN.of_q (r:=((r.num.fmod 5 - 2:Int):Rat)) zh) rfl fun _=>⟨r.num.fmod 5 - 2,rfl,?_⟩
   have:(2:Nat)^2=4:=by decide
   omega
 ·have k0:k≠0:=fun e=>cc (by show decide (V.int k=V.int 0)=true; rw [e]; decide)
  exact⟨_,rfl,q x v H1 g1 rx ox fun e=>absurd e k0⟩
noncomputable def zaQ:Sp:=fun vs H Q _=>∃(h:Int)(n:Nat)(b:Bool),vs=[.int h,.int (n:Int),.bl b]/\n<=60/\∀(ss:List Int)(l:Addr)(H':Hp),Same H H'->H' l=some (.lst (ss.map V.int))->ss.length=n->Q (.ref l) H'
theorem zfu (D:Df K mg "_law_sorts" ["_law_head", "_law_n", "_law_plain"] jG) (qP:Kn P w K mg base "_law_mixed" 41 ["_law_cell", "_law_k"] zag) (zy:mg "range" = none) (QX:mg "sorted" = none):Kn P w K mg base "_law_sorts" 42 ["_law_head", "_law_n", "_law_plain"] zaQ:=by
 refine D.kn zah (fun vs H Q E h=>?_) (fun f cdv A outer s H vs Q E hr h=>?_)
 ·obtain⟨h,n,b,rfl,_⟩:=h; rfl
 obtain⟨h,n,b,rfl,n60,q⟩:=h;have szl:sizeLine=16777216:=by decide
 refine⟨_,(zc (yj (xZ (pv 2)) (zg (zp (zN ["_law_k"] [] [] ⟨rfl,rfl,rfl,rfl,rfl,rfl,by decide +kernel⟩ rfl (zM rfl zy (za (pv 1) zd)) (zj (by decide)) fun _ _ _ _ _ _=>⟨(zi (i:=0) (by decide:(["_law_k"]:List Str).Nodup) rfl (by first | exact Or.inl rfl | exact Or.inr rfl)),zL,ze⟩))) zK) (zg (zp (zE zaG rfl QX zfo (za (zN ["_law_k"] ["_law_head"] [0] ⟨rfl,rfl,rfl,rfl,rfl,rfl,by decide +kernel⟩ rfl (zM rfl zy (za (pv 1) zd)) (zj (by decide)) fun _ _ _ _ _ _=>⟨(zi (i:=0) (by decide:(["_law_k", "_law_head"]:List Str).Nodup) rfl (by first | exact Or.inl rfl | exact Or.inr rfl)),zL,(zq zQ (zt qP (hr.mono (by decide)) rfl (za (pv 1) (za (zq yZ ze (pv 0)) zd))) ze)⟩) zd))))),?_⟩;refine⟨_,rfl,_,rfl,?_⟩;refine ite2 (fun cc=>?_) (fun cc=>?_)
 ·refine⟨_,rfl,n,rfl,(by omega),(by omega),?_⟩;rw [wP];refine yb (lo:=0) (n:=n) (fun i ys H'=>H'=H/\ys =(wD i (1:Int)).map V.int) ⟨rfl,rfl⟩ ?_ ?_ ?_
  ·rintro i ys H' hi ⟨rfl,rfl⟩
   rw [wa,wQ]; omega
  ·rintro i ys H' hi ⟨rfl,rfl⟩
   first | refine gyes ?_ | refine tyes ?_
   refine nxt hi ⟨rfl,?_⟩;rw [uk,ww]; rfl
  ·rintro ys H' ⟨rfl,rfl⟩ p hp
   exact q _ p _ (zf hp _) zh (by rw [wQ])
 ·refine⟨_,rfl,n,rfl,(by omega),(by omega),?_⟩;rw [wP];refine yb (lo:=0) (n:=n) (fun i ys H'=>H'=H/\∃ ss:List Int,ys=ss.map V.int/\ss.length=i) ⟨rfl,[],rfl,rfl⟩ ?_ ?_ ?_
  ·rintro i ys H' hi ⟨rfl,ss,rfl,l⟩
   rw [wa]; omega
  ·rintro i ys H' hi ⟨rfl,ss,rfl,l⟩
   first | refine gyes ?_ | refine tyes ?_
   refine⟨_,rfl,_,rfl,_,_,rfl,rfl,_,_,rfl,(by omega),(by omega),fun m _ _=>⟨_,_,rfl,rfl,(by show(4:Int)≠0; decide),nxt hi ⟨rfl,ss++[m.fmod 4],?_,by rw [wx,l]; rfl⟩⟩⟩;rw [ww]; rfl
  ·rintro ys H' ⟨rfl,ss,rfl,l⟩ p hp
   refine⟨p,ss,rfl,SqL.of zh,(by omega),fun l2 ss' hl2 pm _=>?_⟩;exact q ss' l2 _ ((zf hp _).trans (zf hl2 _)) zh (by rw [pm.length_eq,l])
noncomputable def zdb:Sp:=fun vs H Q _=>∃(a b:Int),vs=[.int a,.int b]/\∀ c,Q (.bl c) H
theorem zgY (D:Df K mg "_law_lets" ["_law_row", "_law_column"] jj):Kn P w K mg base "_law_lets" 1 ["_law_row", "_law_column"] zdb:=by
 refine D.kn YS (fun vs H Q E h=>?_) (fun f cdv A outer s H vs Q E hr h=>?_)
 ·obtain⟨a,b,rfl,_⟩:=h; rfl
 obtain⟨a,b,rfl,q⟩:=h;refine⟨_,(zc (yj (zD yI (pv 0) ze (nomark _)) (zg (zp (zgF (yx yI (pv 1) ze (nomark _)) (ZO (yx yI (pv 1) ze (nomark _)))))) zK) (zc (yj (zD yI (pv 0) ze (nomark _)) (zg (zp (yx qB (pv 1) ze (nomark _)))) zK) (zg (zp (zgF (yx yI (pv 0) ze (nomark _)) (ZO (yx yI (pv 1) ze (nomark _)))))))),?_⟩;refine⟨_,rfl,rfl,_,rfl,?_⟩;refine ite2 (fun c1=>?_) (fun c1=>?_)
 ·refine⟨_,rfl,rfl,_,rfl,?_⟩;refine ite2 (fun c2=>?_) (fun c2=>?_)
  ·exact q _
  ·exact⟨_,rfl,rfl,q _⟩
 ·refine⟨_,rfl,rfl,_,rfl,?_⟩;refine ite2 (fun c2=>?_) (fun c2=>?_)
  ·exact⟨_,rfl,_,_,rfl,rfl,q _⟩
  ·refine⟨_,rfl,rfl,_,rfl,?_⟩;refine ite2 (fun c3=>?_) (fun c3=>?_)
   ·exact q _
   ·exact⟨_,rfl,rfl,q _⟩
theorem zbf{K:PySem.W.Frag}{a:Addr}{xs:List V}{g:TG}{tb:TS}{D:Ends}{σ:L2.St}{H:Hp}(Pv:Nat->L2.St->Hp->Prop)(h0:Pv 0 σ H)(hl:∀ i σ H,i<=xs.length->Pv i σ H->SqL K H a xs)
  (hs:∀(N B:L2.St->Hp->Prop)(i:Nat)(x:V)(σ:L2.St)(H:Hp),(∀ σ' H',Pv (i+1) σ' H'->N σ' H')->xs[i]?=some x->Pv i σ H->g x σ H fun σ2 H2=>tb { D with nx:=N,ct:=N,bk:=B } σ2 H2) (hd:∀ σ H,Pv xs.length σ H->D.nx σ H) :
  ∃ W:Nat->Nat->L2.St->Hp->Prop,(∃ m,W 0 m σ H)/\∀ i m σ H,W i m σ H ->
   ((Itl K a).stop i H/\D.nx σ H)\/((Itl K a).go i H/\∃ N:L2.St->Hp->Prop,(∀ σ' H',N σ' H'->∃ m',m'<m/\W (i+1) m' σ' H')/\∀ x H',(Itl K a).yld i H x H'->g x σ H' fun σ2 H2=>tb { D with nx:=N,ct:=N,bk:=D.nx } σ2 H2) :=
 xg Pv h0 hl (fun i x σ H hx p=>hs (Pv (i+1)) D.nx i x σ H (fun _ _ h=>h) hx p) hd
theorem YF{lo:Int}{n:Nat}{g:TG}{tb:TS}{D:Ends}{σ:L2.St}{H:Hp}(Pv:Nat->L2.St->Hp->Prop)(h0:Pv 0 σ H)
  (hs:∀(N B:L2.St->Hp->Prop)(i:Nat)(σ:L2.St)(H:Hp),(∀ σ' H',Pv (i+1) σ' H'->N σ' H')->i<n->Pv i σ H->g (.int (lo+i)) σ H fun σ2 H2=>tb { D with nx:=N,ct:=N,bk:=B } σ2 H2) (hd:∀ σ H,Pv n σ H->D.nx σ H) :
  ∃ W:Nat->Nat->L2.St->Hp->Prop,(∃ m,W 0 m σ H)/\∀ i m σ H,W i m σ H ->
   ((Itr lo n).stop i H/\D.nx σ H)\/((Itr lo n).go i H/\∃ N:L2.St->Hp->Prop,(∀ σ' H',N σ' H'->∃ m',m'<m/\W (i+1) m' σ' H')/\∀ x H',(Itr lo n).yld i H x H'->g x σ H' fun σ2 H2=>tb { D with nx:=N,ct:=N,bk:=D.nx } σ2 H2) :=
 yC Pv h0 (fun i σ H hi p=>hs (Pv (i+1)) D.nx i σ H (fun _ _ h=>h) hi p) hd
noncomputable def Jj:Sp:=fun vs H Q _=>∃(k:Int)(pc pz ps:Addr)(cs ss:List Int)(n m q:Nat),vs=[.int k,.ref pc,.ref pz,.ref ps]/\KindOk k/\H pc=some (.lst (cs.map V.int))/\cs≠[]/\H pz=some (.tup [.int (n:Int),.int (m:Int),.int (q:Int)])/\H ps=some (.lst (ss.map V.int))/\ss.length=n/\n<=10/\m<=10/\q<=10 /\
 ∀(A B C:List (List Nb))(pt pr:Addr)(ts:List Addr)(rs:List (List Addr))(at':Nat)(H':Hp),GrowTs H H' [A,B,C] ts rs->TW k n n 2 A->TW k n m 2 B->TW k q n 2 C->H' pt=some (.lst (ts.map V.ref))->H pt=none->pt∉ts->(∀ ras∈rs,pt∉ras)->H' pr=some (.tup [.ref pt,.int (at':Int)])->Q (.ref pr) H'
noncomputable def dimR(n m q j:Nat):Nat:=if j=2 then q else n
noncomputable def dimC(n m q j:Nat):Nat:=if j=1 then m else n
theorem zcz (D:Df K mg "_law_blocked" ["_law_prime_here", "_law_cells", "_law_sizes", "_law_sorts_here"] xM) (zW:Kn P w K mg base "_law_make" 1 ["_law_prime_here", "_law_whole_here"] jh) (zbe:Kn P w K mg base "_law_small" 44 ["_law_prime_here", "_law_cells", "_law_k"] zbB) (Zu:Kn P w K mg base "_law_lets" 1 ["_law_row", "_law_column"] zdb) (zy:mg "range" = none):Kn P w K mg base "_law_blocked" 45 ["_law_prime_here", "_law_cells", "_law_sizes", "_law_sorts_here"] Jj:=by
 refine D.kn sc__law_blocked (fun vs H Q E h=>?_) (fun f cdv A' outer s' H vs Q E hr h=>?_)
 ·obtain⟨k,pc,pz,ps,cs,ss,n,m,q,rfl,_⟩:=h; rfl
 obtain⟨k,pc,pz,ps,cs,ss,n,m,qn,rfl,hk,hc,ne,hz,hs,ls,n10,m10,q10,q⟩:=h;have szl:sizeLine=16777216:=by decide
 refine⟨_,(zc (jA (pv 2) (jL 3 rfl (zT (zi (i:=4) sc__law_blocked.nd rfl (.inl rfl)) (zT (zi (i:=5) sc__law_blocked.nd rfl (.inl rfl)) (zT (zi (i:=6) sc__law_blocked.nd rfl (.inl rfl)) xB))))) (zc (zm (i:=7) sc__law_blocked.nd rfl (.inr rfl) (zt zW (hr.mono (by decide)) rfl (za (pv 0) (za ze zd)))) (zc (zm (i:=8) sc__law_blocked.nd rfl (.inl rfl) (yF zd)) (zc (zm (i:=9) sc__law_blocked.nd rfl (.inr rfl) ze) (zc (yA PassesOwn.never rfl (zI (yF (za (xP (za (pv 4) (za (pv 4) zd))) (za (xP (za (pv 4) (za (pv 5) zd))) (za (xP (za (pv 6) (za (pv 4) zd))) zd))))) (jL 2 rfl (zT (zi (i:=10) sc__law_blocked.nd rfl (.inl rfl)) (zT (zi (i:=11) sc__law_blocked.nd rfl (.inr rfl)) xB))) (zc (zm (i:=12) sc__law_blocked.nd rfl (.inl rfl) (yF zd)) (zc (yA PassesOwn.never rfl (zM rfl zy (za (pv 10) zd)) (zi (i:=13) sc__law_blocked.nd rfl (.inr rfl)) (zg (xV (bm0 (fun _ h=>XG PySem.F.plainAttrs_list PySem.F.slot_list_append PySem.F.type_list_append xS h (za (zN ["_law_j"] ["_law_prime_here", "_law_cells", "_law_at_here", "_law_i", "_law_columns"] [0,1,9,13,11] ⟨rfl,rfl,rfl,rfl,rfl,rfl,by decide +kernel⟩ rfl (zM rfl zy (za (pv 11) zd)) (zj (by decide)) fun _ _ _ _ _ _=>⟨(zi (i:=0) (by decide:(["_law_j", "_law_prime_here", "_law_cells", "_law_at_here", "_law_i", "_law_columns"]:List Str).Nodup) rfl (by first | exact Or.inl rfl | exact Or.inr rfl)),zL,(zt zbe (hr.mono (by decide)) rfl (za (pv 1) (za (pv 2) (za (zq yZ (zq yZ (pv 3) (zq zX (pv 4) (pv 5))) (pv 0)) zd))))⟩) zd)) (pv 12))))) (zc (xV (bm0 (fun _ h=>XG PySem.F.plainAttrs_list PySem.F.slot_list_append PySem.F.type_list_append xS h (za (pv 12) zd)) (pv 8))) (zg (zm (i:=9) sc__law_blocked.nd rfl (.inr rfl) (zq yZ (pv 9) (zq zX (pv 10) (pv 11))))))))) (zc (yA PassesOwn.never rfl (zM rfl zy (za (pv 4) zd)) (zi (i:=13) sc__law_blocked.nd rfl (.inr rfl)) (zc (yA PassesOwn.never rfl (zM rfl zy (za (pv 4) zd)) (zi (i:=14) sc__law_blocked.nd rfl (.inl rfl)) (zg (yj (jS (xZ (zt Zu (hr.mono (by decide)) rfl (za (zG zo (pv 3) (pv 13) (fun _ _=>rfl)) (za (zG zo (pv 3) (pv 14) (fun _ _=>rfl)) zd))))) (zg (jA (pv 7) (YT (zG zo (zG zo (pv 8) ze (fun _ _=>rfl)) (pv 13) (fun _ _=>rfl)) (pv 14) jE))) zK))) (zc (yj (zD qB (zG zo (pv 3) (pv 13) (fun _ _=>rfl)) ze (nomark _)) (zg (jA (zN ["_law_j"] ["_law_nought"] [7] ⟨rfl,rfl,rfl,rfl,rfl,rfl,by decide +kernel⟩ rfl (zM rfl zy (za (pv 5) zd)) (zj (by decide)) fun _ _ _ _ _ _=>⟨(zi (i:=0) (by decide:(["_law_j", "_law_nought"]:List Str).Nodup) rfl (by first | exact Or.inl rfl | exact Or.inr rfl)),zL,(pv 1)⟩) (YT (zG zo (pv 8) ze (fun _ _=>rfl)) (pv 13) jE))) zK) (zg (yj (zD yI (zq zQ (zG zo (pv 3) (pv 13) (fun _ _=>rfl)) ze) ze (nomark _)) (zg (yA PassesOwn.never rfl (zI (zG zo (pv 8) ze (fun _ _=>rfl))) (zi (i:=15) sc__law_blocked.nd rfl (.inl rfl)) (zg (jA (pv 7) (YT (pv 15) (pv 13) jE))))) zK))))) (zg (zp (xP (za (pv 8) (za (pv 9) zd))))))))))),?_⟩;refine⟨_,rfl,pz,_,rfl,SqT.of hz,rfl,_,_,rfl,_,_,rfl,_,_,rfl,rfl,?_⟩;refine⟨_,rfl,k,0,rfl,hk,fun v0 H1 g1 r1=>?_⟩;refine⟨(by show 0<=sizeLine; decide),fun pt hpt=>?_⟩;have ptH:H pt=none:=g1.none hpt;have g2:=zf hpt (.lst []);have hpt2:upd H1 pt (.lst []) pt=some (.lst []):=zh;have r2:=r1.mono g2;have gH2:=g1.trans g2;generalize upd H1 pt (.lst [])=H2 at *;clear hpt r1;refine⟨_,rfl,_,rfl,(by show 2<=sizeLine; decide),fun q1 hq1=>?_⟩;have g3:=zf hq1 (.tup [.int (n:Int),.int (n:Int)]);have e1:upd H2 q1 (.tup [.int (n:Int),.int (n:Int)]) q1=some (.tup [.int (n:Int),.int (n:Int)]):=zh;generalize upd H2 q1 (.tup [.int (n:Int),.int (n:Int)])=H3 at *;refine⟨_,rfl,_,rfl,(by show 2<=sizeLine; decide),fun q2 hq2=>?_⟩;have g4:=zf hq2 (.tup [.int (n:Int),.int (m:Int)]);have e2:upd H3 q2 (.tup [.int (n:Int),.int (m:Int)]) q2=some (.tup [.int (n:Int),.int (m:Int)]):=zh;generalize upd H3 q2 (.tup [.int (n:Int),.int (m:Int)])=H4 at *;refine⟨_,rfl,_,rfl,(by show 2<=sizeLine; decide),fun q3 hq3=>?_⟩;have g5:=zf hq3 (.tup [.int (qn:Int),.int (n:Int)]);have e3:upd H4 q3 (.tup [.int (qn:Int),.int (n:Int)]) q3=some (.tup [.int (qn:Int),.int (n:Int)]):=zh;generalize upd H4 q3 (.tup [.int (qn:Int),.int (n:Int)])=H5 at *;refine⟨(by show 3<=sizeLine; decide),fun pl hpl=>?_⟩;have g6:=zf hpl (.lst [.ref q1,.ref q2,.ref q3]);have e4:upd H5 pl (.lst [.ref q1,.ref q2,.ref q3]) pl=some (.lst [.ref q1,.ref q2,.ref q3]):=zh;generalize upd H5 pl (.lst [.ref q1,.ref q2,.ref q3])=H6 at *;have hpt6:=g6 _ _ (g5 _ _ (g4 _ _ (g3 _ _ hpt2)));have npl:pl≠pt:=fun e=>by rw [e,g5 _ _ (g4 _ _ (g3 _ _ hpt2))] at hpl; cases hpl
 have nq1:q1≠pt:=fun e=>by rw [e,hpt2] at hq1; cases hq1
 have nq2:q2≠pt:=fun e=>by rw [e,g3 _ _ hpt2] at hq2; cases hq2
 have nq3:q3≠pt:=fun e=>by rw [e,g4 _ _ (g3 _ _ hpt2)] at hq3; cases hq3
 have gH6:=(((gH2.trans g3).trans g4).trans g5).trans g6;have r6:=(((r2.mono g3).mono g4).mono g5).mono g6;have f1:=g6 _ _ (g5 _ _ (g4 _ _ e1));have f2:=g6 _ _ (g5 _ _ e2);have f3:=g6 _ _ e3;clear g1 g2 g3 g4 g5 g6 hq1 hq2 hq3 hpl e1 e2 e3 hpt2 gH2 r2;refine⟨pl,rfl,⟨_,SqL.of e4⟩,?_⟩;refine zbf (xs:=[.ref q1,.ref q2,.ref q3]) (fun i σ H'=>∃ Ms ts rs,∃ at':Nat,∃ o10 o11 o12 o13 o14 o15,σ=[some (.int k),some (.ref pc),some (.ref pz),some (.ref ps),some (.int (n:Int)),some (.int (m:Int)),some (.int (qn:Int)),some v0,some (.ref pt),some (.int (at':Int)),o10,o11,o12,o13,o14,o15]/\GrowTs H H' Ms ts rs/\Ms.length=i/\(∀ j M,Ms[j]?=some M->TW k (dimR n m qn j) (dimC n m qn j) 2 M)/\H' pt=some (.lst (ts.map V.ref))/\pt∉ts/\(∀ ras∈rs,pt∉ras)/\RN H' (nnum k 0) v0/\H' pl=some (.lst [.ref q1,.ref q2,.ref q3])/\H' q1=some (.tup [.int (n:Int),.int (n:Int)])/\H' q2=some (.tup [.int (n:Int),.int (m:Int)])/\H' q3=some (.tup [.int (qn:Int),.int (n:Int)]))
  ⟨[],[],[],1,none,none,none,none,none,none,rfl,GrowTs.nil gH6,rfl,fun j M h=>by simp at h,hpt6,by simp,fun ras hr=>(nomatch hr),r6,e4,f1,f2,f3⟩ ?_ ?_ ?_
 ·rintro i σ H' _ ⟨Ms,ts,rs,at',o10,o11,o12,o13,o14,o15,rfl,G,lM,dM,hpt,nt,nr,r0,hl,_⟩
  exact SqL.of hl
 ·intro N1 B1 i v σ H7 hN1 hv
  rintro ⟨Ms,ts,rs,at',o10,o11,o12,o13,o14,o15,rfl,G,lM,dM,hpt7,nt,nr,r0,hl,h1,h2,h3⟩
  obtain⟨qa,rows,cols,rfl,hqa,er,ec,rb,cb⟩ : ∃ qa rows cols,v=.ref qa/\H7 qa=some (.tup [.int ((rows:Nat):Int),.int ((cols:Nat):Int)])/\rows=dimR n m qn i/\cols=dimC n m qn i/\rows<=10/\cols<=10:=by
   match i,hv with
   | 0,hv=>cases hv; exact⟨q1,n,n,rfl,h1,rfl,rfl,n10,n10⟩
   | 1,hv=>cases hv; exact⟨q2,n,m,rfl,h2,rfl,rfl,n10,m10⟩
   | 2,hv=>cases hv; exact⟨q3,qn,n,rfl,h3,rfl,rfl,q10,n10⟩
  refine⟨qa,_,rfl,SqT.of hqa,rfl,_,_,rfl,_,_,rfl,rfl,?_⟩;refine⟨(by show 0<=sizeLine; decide),fun pto hpto=>?_⟩;have hc7:=G.same _ _ hc;refine⟨_,rfl,rows,rfl,(by omega),(by omega),?_⟩;rw [wP];refine YF (lo:=0) (n:=rows) (fun j σ H'=>∃ M ras o13 o14 o15,σ=[some (.int k),some (.ref pc),some (.ref pz),some (.ref ps),some (.int (n:Int)),some (.int (m:Int)),some (.int (qn:Int)),some v0,some (.ref pt),some (.int (at':Int)),some (.int (rows:Int)),some (.int (cols:Int)),some (.ref pto),o13,o14,o15]/\Grow H7 H' M ras/\H' pto=some (.lst (ras.map V.ref))/\pto∉ras/\M.length=j/\La.OkM k cols M/\(∀ r∈M,∀ x∈r,whk k 2 x)) ⟨[],[],_,_,_,rfl,Grow.nil H7 (zf hpto _),zh,by simp,rfl,fun r hr=>(nomatch hr),fun r hr=>(nomatch hr)⟩ ?_ ?_
  ·intro N2 B2 j σ H8 hN2 hj
   rintro ⟨M,ras,o13,o14,o15,rfl,G8,hpt8,npt8,l8,o8,s8⟩
   refine⟨_,rfl,.inl ⟨rfl,_,SqL.of hpt8⟩,_,rfl,cols,rfl,(by omega),(by omega),?_⟩;rw [wP];have ci0:0<=(0 +(j:Int)) *(cols:Int):=Int.mul_nonneg (by omega) (by omega);refine yb (lo:=0) (n:=cols) (fun l ys' H9=>∃ xs,Same H8 H9/\Paired (RN H9) xs ys'/\xs.length=l/\La.OkR k xs/\∀ x∈xs,whk k 2 x) ⟨[],Same.refl _,.nil,rfl,fun x hx=>(nomatch hx),fun x hx=>(nomatch hx)⟩ ?_ ?_ ?_
   ·rintro l ys' H9 hl' ⟨xs,g9,pr9,lx,_⟩
    have:=zk pr9;omega
   ·rintro l ys' H9 hl' ⟨xs,g9,pr9,lx,ox,sx⟩
    have hc9:H9 pc=some (.lst (cs.map V.int)):=g9 _ _ (G8.same _ _ hc7)
    first | refine gyes ?_ | refine tyes ?_
    refine⟨_,rfl,_,rfl,_,rfl,_,rfl,_,rfl,_,_,rfl,rfl,jO (by omega) (by omega),_,_,rfl,rfl,_,rfl,_,_,rfl,rfl,k,pc,cs,((at':Int) +(0 +(j:Int)) *(cols:Int) +(0 +(l:Int))).toNat,_,rfl,(by omega),hk,hc9,ne,fun x v' H10 g10 xr xo xs2=>?_⟩;refine nxt hl' ⟨xs++[x],g9.trans g10,zZ (jm g10 pr9) xr,by rw [wx,lx]; rfl,fun y hy=>?_,fun y hy=>?_⟩
    ·rcases wq.mp hy with h | h
     ·exact ox y h
     ·rw [wt.mp h]; exact xo
    ·rcases wq.mp hy with h | h
     ·exact sx y h
     ·rw [wt.mp h]; exact xs2
   ·rintro ys' H9 ⟨xs,g9,pr9,lx,ox,sx⟩ pn hpn
    have npn:pto≠pn:=fun e=>by rw [← e,g9 _ _ hpt8] at hpn; cases hpn
    refine⟨pto,_,_,rfl,rfl,(by rw [zR npn]; exact g9 _ _ hpt8),?_,?_⟩
    ·have:=zk G8.rows;rw [wa]; omega
    obtain⟨G9,nm9⟩:=G8.push (zs':=(ras.map V.ref)++[.ref pn]) hpto hpt8 npt8 g9 hpn pr9;refine hN2 _ _ ⟨M++[xs],ras++[pn],_,_,_,rfl,G9,?_,nm9,by rw [wx,l8]; rfl,fun y hy=>?_,fun y hy=>?_⟩
    ·rw [zh,ww]; rfl
    ·rcases wq.mp hy with h | h
     ·exact o8 y h
     ·rw [wt.mp h]; exact⟨lx,ox⟩
    ·rcases wq.mp hy with h | h
     ·exact s8 y h
     ·rw [wt.mp h]; exact sx
  ·rintro σ H8 ⟨M,ras,o13,o14,o15,rfl,G8,hpt8,npt8,l8,o8,s8⟩
   have g8:=G8.same;have hptb:H8 pt=some (.lst (ts.map V.ref)):=g8 _ _ hpt7;have N8:NewT H7 H8 M pto ras:=⟨⟨hpt8,G8.rows⟩,hpto,G8.fr,G8.nd,npt8⟩;have lts:=G.lt;have hi3:i<3:=(wo.mp hv).1;refine⟨_,rfl,.inl ⟨rfl,_,SqL.of hptb⟩,_,rfl,pt,_,_,rfl,rfl,hptb,(by rw [wa]; omega),?_⟩;have nt8:pt≠pto:=fun e=>by have:=hpto; rw [← e,hpt7] at this; cases this
   have nr8:pt∉ras:=fun hm=>by have:=G8.fr _ hm; rw [hpt7] at this; cases this
   have nts:pt∉ts++[pto]:=fun hm=>by
    rcases wq.mp hm with h | h
    ·exact nt h
    ·exact nt8 (wt.mp h)
   have nrs:∀ x∈rs++[ras],pt∉x:=fun x hm=>by
    rcases wq.mp hm with h | h
    ·exact nr x h
    ·rw [wt.mp h]; exact nr8
   have G9:=(G.push g8 N8).updAt (zs':=(ts.map V.ref)++[.ref pto]) ptH hptb nts nrs;refine⟨_,rfl,_,rfl,_,rfl,_,_,rfl,rfl,jO (by omega) (by omega),_,_,rfl,rfl,hN1 _ _ ⟨Ms++[M],ts++[pto],rs++[ras],at'+rows*cols,some (.int (rows:Int)),some (.int (cols:Int)),some (.ref pto),o13,o14,o15,?_,G9,by rw [wx,lM]; rfl,fun j M' hj=>?_,by rw [zh,ww]; rfl,nts,nrs,(r0.mono g8).upd hptb,by rw [zR npl]; exact g8 _ _ hl,by rw [zR nq1]; exact g8 _ _ h1,by rw [zR nq2]; exact g8 _ _ h2,by rw [zR nq3]; exact g8 _ _ h3⟩⟩
   ·rw [show((at'+rows*cols:Nat):Int) =(at':Int) +(rows:Int) *(cols:Int) by rw [Int.natCast_add,uP]]
    rfl
   ·rcases wN j Ms.length with h | h
    ·rw [vE h] at hj;exact dM j M' hj
    ·have e:j=Ms.length:=by
      have:=(wo.mp hj).1;simp at this; omega
     subst e;rw [vw (wu _),Go] at hj;cases hj;rw [lM,← er,← ec];exact⟨l8,o8,s8⟩
 rintro σ H7 ⟨Ms,ts,rs,at',o10,o11,o12,o13,o14,o15,rfl,G,lM,dM,hpt7,nt,nr,r0,_⟩
 obtain⟨A,B,C,rfl⟩ : ∃ A B C,Ms=[A,B,C]:=by
  match Ms,lM with
  | [A,B,C],_=>exact⟨A,B,C,rfl⟩
 have tA:TW k n n 2 A:=dM 0 A rfl;have tB:TW k n m 2 B:=dM 1 B rfl;have tC:TW k qn n 2 C:=dM 2 C rfl;obtain⟨ta,tb,tc,rfl⟩ : ∃ ta tb tc,ts=[ta,tb,tc]:=by
  match ts,G.lt with
  | [ta,tb,tc],_=>exact⟨ta,tb,tc,rfl⟩
 clear dM lM e4 f1 f2 f3 hpt6 npl nq1 nq2 nq3 r6 gH6;have z0:(nnum k 0).ok k:=La.zU hk 0;have zs:whk k 2 (nnum k 0):=fun _=>⟨0,rfl,by decide⟩
 refine⟨_,rfl,n,rfl,(by omega),(by omega),?_⟩;rw [wP];refine YF (lo:=0) (n:=n) (fun i σ H'=>∃ A B C rs o10 o11 o12 o13 o14 o15,σ=[some (.int k),some (.ref pc),some (.ref pz),some (.ref ps),some (.int (n:Int)),some (.int (m:Int)),some (.int (qn:Int)),some v0,some (.ref pt),some (.int (at':Int)),o10,o11,o12,o13,o14,o15]/\GrowTs H H' [A,B,C] [ta,tb,tc] rs/\TW k n n 2 A/\TW k n m 2 B/\TW k qn n 2 C/\H' pt=some (.lst [.ref ta,.ref tb,.ref tc])/\(∀ ras∈rs,pt∉ras)/\RN H' (nnum k 0) v0) ⟨A,B,C,rs,_,_,_,_,_,_,rfl,G,tA,tB,tC,hpt7,nr,r0⟩ ?_ ?_
 ·clear G tA tB tC hpt7 nr r0;intro N4 B4 i σ H8 hN4 hi
  rintro ⟨A,B,C,rs,o10,o11,o12,o13,o14,o15,rfl,G,tA,tB,tC,hpt8,nr,r0⟩
  have hss:(ss.map V.int)[i]?=some (.int ss[i]):=by rw [wg,wb (by omega)]; rfl
  refine⟨_,rfl,n,rfl,(by omega),(by omega),?_⟩;rw [wP];refine YF (lo:=0) (n:=n) (fun j σ H'=>∃ A o14 o15,σ=[some (.int k),some (.ref pc),some (.ref pz),some (.ref ps),some (.int (n:Int)),some (.int (m:Int)),some (.int (qn:Int)),some v0,some (.ref pt),some (.int (at':Int)),o10,o11,o12,some (.int (0 +(i:Int))),o14,o15]/\GrowTs H H' [A,B,C] [ta,tb,tc] rs/\TW k n n 2 A/\H' pt=some (.lst [.ref ta,.ref tb,.ref tc])/\RN H' (nnum k 0) v0) ⟨A,_,_,rfl,G,tA,hpt8,r0⟩ ?_ ?_
  ·clear G tA hpt8 r0;intro N5 B5 j σ H9 hN5 hj
   rintro ⟨A,o14,o15,rfl,G,tA,hpt9,r0⟩
   have hs9:=G.same _ _ hs;have hsj:(ss.map V.int)[j]?=some (.int ss[j]):=by rw [wg,wb (by omega)]; rfl
   refine⟨_,rfl,_,rfl,ps,_,_,_,rfl,rfl,SqL.of hs9,(by rw [wT]; exact zH hss),_,rfl,_,rfl,ps,_,_,_,rfl,rfl,SqL.of hs9,(by rw [wT]; exact zH hsj),_,_,rfl,fun cb=>⟨_,rfl,?_⟩⟩;refine ite2 (fun cc=>?_) (fun cc=>?_)
   ·obtain⟨M',t',ras,e1,e2,e3,hT⟩:=G.get (i:=0) (by simp);cases e1; cases e2;have lra:=zk hT.2;rw [tA.len] at lra;have hi':ras[i]?=some ras[i]:=wb (by omega);obtain⟨row,hrow,hR⟩:=ye hT.2 hi';obtain⟨us,hu,pu,lu⟩:=hR.len;have orow:=tA.ok row (wc hrow);have nra:ras[i]≠pt:=fun e=>nr ras (wc e3) (by rw [← e]; exact wk _)
    refine⟨_,rfl,_,rfl,pt,_,_,_,rfl,rfl,SqL.of hpt9,zH (j:=0) rfl,_,rfl,ta,_,_,_,rfl,rfl,SqL.of hT.1,(by rw [wT]; exact zH (by rw [wg,hi']; rfl)),_,rfl,ras[i],us,_,j,rfl,rfl,hu,(by rw [wT]; exact qL (by rw [lu,orow.1]; exact hj)),?_⟩;refine hN5 _ _ ⟨A.set i (row.set j (nnum k 0)),_,_,rfl,G.setRow (i:=0) rfl e3 hi' hu (JX pu j r0),tA.set (by rw [vf]; exact orow.1) (fun x hx=>?_) (fun x hx=>?_),by rw [zR (Ne.symm nra)]; exact hpt9,r0.upd hu⟩
    ·rcases La.yh hx with e | e
     ·rw [e]; exact z0
     ·exact orow.2 x e
    ·rcases La.yh hx with e | e
     ·rw [e]; exact zs
     ·exact tA.sz row (wc hrow) x e
   ·exact hN5 _ _ ⟨A,_,_,rfl,G,tA,hpt9,r0⟩
  clear G tA hpt8 r0
  rintro σ H9 ⟨A,o14,o15,rfl,G,tA,hpt9,r0⟩
  have hs9:=G.same _ _ hs
  try dsimp only
  refine XH (fun σ H'=>∃ B rs o14,σ=[some (.int k),some (.ref pc),some (.ref pz),some (.ref ps),some (.int (n:Int)),some (.int (m:Int)),some (.int (qn:Int)),some v0,some (.ref pt),some (.int (at':Int)),o10,o11,o12,some (.int (0 +(i:Int))),o14,o15]/\GrowTs H H' [A,B,C] [ta,tb,tc] rs/\TW k n m 2 B/\H' pt=some (.lst [.ref ta,.ref tb,.ref tc])/\(∀ ras∈rs,pt∉ras)/\RN H' (nnum k 0) v0) ?_ ?_
  rotate_left
  ·intro hN;refine⟨_,rfl,_,rfl,ps,_,_,_,rfl,rfl,SqL.of hs9,(by rw [wT]; exact zH hss),_,_,rfl,rfl,_,rfl,?_⟩;refine ite2 (fun cc=>?_) (fun cc=>?_)
   ·refine⟨_,rfl,m,rfl,(by omega),(by omega),?_⟩;rw [wP];refine yb (lo:=0) (n:=m) (fun l ys' H'=>H'=H9/\ys'=wD l v0) ⟨rfl,rfl⟩ ?_ ?_ ?_
    ·rintro l ys' H' hl' ⟨rfl,rfl⟩
     rw [wQ]; omega
    ·rintro l ys' H' hl' ⟨rfl,rfl⟩
     first | refine gyes ?_ | refine tyes ?_
     exact⟨_,rfl,nxt hl' ⟨rfl,by rw [uk]⟩⟩
    ·rintro ys' H' ⟨rfl,rfl⟩ pn hpn
     have g10:=zf hpn (.lst (wD m v0));have R10:RowAt (upd H' pn (.lst (wD m v0))) (wD m (nnum k 0)) pn:=⟨_,zh,zev (r0.mono g10) m⟩;have G10:=G.mono g10;have hpt10:=g10 _ _ hpt9;have npn:pn∉[ta,tb,tc]:=fun hm=>by obtain⟨o,ho⟩:=G.tsome hm; rw [hpn] at ho; cases ho
     have nrn:∀ ras∈rs,pn∉ras:=fun ras hr hm=>by obtain⟨o,ho⟩:=G.rsome hr hm; rw [hpn] at ho; cases ho
     have fpn:H pn=none:=G.same.none hpn;have r10:=r0.mono g10;have ptn:pt≠pn:=fun e=>by rw [← e,hpt9] at hpn; cases hpn
     generalize upd H' pn (.lst (wD m v0))=H10 at *;obtain⟨M',t',ras,e1,e2,e3,hT⟩:=G10.get (i:=1) (by simp);cases e1; cases e2;have lra:=zk hT.2;rw [tB.len] at lra;have hi':i<ras.length:=by omega
     refine⟨_,rfl,pt,_,_,_,rfl,rfl,SqL.of hpt10,zH (j:=1) rfl,_,rfl,tb,_,_,i,rfl,rfl,hT.1,(by rw [wT]; exact qL (by rw [wa]; exact hi')),?_⟩;have G11:=G10.setSlot (i:=1) (j:=i) rfl rfl e3 hi' R10 fpn npn nrn;rw [wa9] at G11;have ntb:pt≠tb:=fun e=>nt (by rw [e]; simp)
     refine hN _ _ ⟨B.set i (wD m (nnum k 0)),rs.set 1 (ras.set i pn),_,rfl,G11,tB.set (by rw [wQ]) (fun x hx=>by rw [gS hx]; exact z0) (fun x hx=>by rw [gS hx]; exact zs),by rw [zR ntb]; exact hpt10,fun x hx hm=>?_,r10.upd hT.1⟩
     rcases La.yh hx with e | e
     ·rw [e] at hm
      rcases La.yh hm with e' | e'
      ·exact ptn e'
      ·exact nr ras (wc e3) e'
     ·exact nr x e hm
   ·exact hN _ _ ⟨B,rs,_,rfl,G,tB,hpt9,nr,r0⟩
  clear G tB hpt9 nr r0 hs9
  rintro σ H10 ⟨B,rs,o14,rfl,G,tB,hpt10,nr,r0⟩
  have hs10:=G.same _ _ hs;refine⟨_,rfl,_,rfl,ps,_,_,_,rfl,rfl,SqL.of hs10,(by rw [wT]; exact zH hss),_,_,rfl,rfl,(by show(2:Int)≠0; decide),rfl,_,rfl,?_⟩;refine ite2 (fun cc=>?_) (fun cc=>?_)
  ·obtain⟨M',t',ras,e1,e2,e3,hT⟩:=G.get (i:=2) (by simp);cases e1; cases e2;have lra:=zk hT.2;rw [tC.len] at lra;refine⟨_,rfl,pt,_,_,_,rfl,rfl,SqL.of hpt10,zH (j:=2) rfl,tc,rfl,⟨_,SqL.of hT.1⟩,?_⟩;refine zbf (xs:=ras.map V.ref) (fun l σ H'=>∃ C o15,σ=[some (.int k),some (.ref pc),some (.ref pz),some (.ref ps),some (.int (n:Int)),some (.int (m:Int)),some (.int (qn:Int)),some v0,some (.ref pt),some (.int (at':Int)),o10,o11,o12,some (.int (0 +(i:Int))),o14,o15]/\GrowTs H H' [A,B,C] [ta,tb,tc] rs/\TW k qn n 2 C/\H' pt=some (.lst [.ref ta,.ref tb,.ref tc])/\RN H' (nnum k 0) v0) ⟨C,_,rfl,G,tC,hpt10,r0⟩ ?_ ?_ ?_
   ·rintro l σ H' _ ⟨C,o15,rfl,G,_⟩
    exact SqL.of (G.tabs 2 C tc ras rfl rfl e3).1
   ·clear G tC hpt10 r0 hT;intro N6 B6 l v σ H' hN6 hv
    rintro ⟨C,o15,rfl,G,tC,hptl,r0⟩
    have hT:=G.tabs 2 C tc ras rfl rfl e3;obtain⟨row,ar,hrow,har,rfl,hR⟩:=hT.row hv;obtain⟨us,hu,pu,lu⟩:=hR.len;have orow:=tC.ok row (wc hrow);have nra:ar≠pt:=fun e=>nr ras (wc e3) (by rw [← e]; exact wc har)
    refine⟨_,rfl,_,rfl,_,rfl,ar,us,_,i,rfl,rfl,hu,(by rw [wT]; exact qL (by rw [lu,orow.1]; exact hi)),?_⟩;refine hN6 _ _ ⟨C.set l (row.set i (nnum k 0)),_,rfl,G.setRow (i:=2) rfl e3 har hu (JX pu i r0),tC.set (by rw [vf]; exact orow.1) (fun x hx=>?_) (fun x hx=>?_),by rw [zR (Ne.symm nra)]; exact hptl,r0.upd hu⟩
    ·rcases La.yh hx with e | e
     ·rw [e]; exact z0
     ·exact orow.2 x e
    ·rcases La.yh hx with e | e
     ·rw [e]; exact zs
     ·exact tC.sz row (wc hrow) x e
   ·rintro σ H' ⟨C,o15,rfl,G,tC,hptl,r0⟩
    exact hN4 _ _ ⟨A,B,C,rs,_,_,_,_,_,_,rfl,G,tA,tB,tC,hptl,nr,r0⟩
  ·exact hN4 _ _ ⟨A,B,C,rs,_,_,_,_,_,_,rfl,G,tA,tB,tC,hpt10,nr,r0⟩
 ·rintro σ H8 ⟨A,B,C,rs,o10,o11,o12,o13,o14,o15,rfl,G,tA,tB,tC,hpt8,nr,r0⟩
  refine⟨_,rfl,_,rfl,(by show 2<=sizeLine; decide),fun pr hpr=>?_⟩;have g9:=zf hpr (.tup [.ref pt,.int (at':Int)]);exact q A B C pt pr [ta,tb,tc] rs at' _ (G.mono g9) tA tB tC (g9 _ _ hpt8) ptH nt nr zh
theorem zgP{k:Int}{m n:Nat}{x y:Nb}(ox:x.ok k)(oy:y.ok k)(sx:szk k m x)(sy:szk k n y):szk k (m+n+1) (nsub k x y):=fun k0=>by
 rcases Zw ox oy with⟨_,r,s,rfl,rfl⟩ | ⟨h,_⟩
 ·have hx:=sx k0;have hy:=sy k0;show Sm _ (r - s).num/\Sm _ ((r - s).den:Int);rw [← zeo];obtain⟨h1,h2⟩:=qO (t:=r.num*s.den - s.num*r.den) (jY r s) ((hx.1.mul hy.2).sub ((hy.1.mul hx.2).mono (by omega))) (hx.2.mul hy.2);exact⟨h1,h2.mono (waf _)⟩
 ·exact absurd k0 h
theorem zgo{α:Type}{l:List α}{i:Nat}{x:α}(h:l[i]?=some x):l.set i x=l:=by
 refine uS fun j=>?_
 rw [vk]
 by_cases e:i=j
 ·subst e; rw [if_pos rfl,if_pos (wo.mp h).1,h]
 ·rw [if_neg e]
noncomputable def TWs(k:Int)(n m q:Nat)(f:Nat->Nat)(Ms:List (List (List Nb))):Prop:=Ms.length=3/\∀(I:Nat)(M:List (List Nb)),Ms[I]?=some M->TW k (dimR n m q I) (dimC n m q I) (f I) M
theorem TWs.up{k:Int}{n m q:Nat}{f g:Nat->Nat}{Ms:List (List (List Nb))}(h:TWs k n m q f Ms)(hf:∀ I,f I<=g I):TWs k n m q g Ms:=⟨h.1,fun I M hM=>(h.2 I M hM).up (hf I)⟩
theorem TWs.set{k:Int}{n m q J:Nat}{f g:Nat->Nat}{Ms:List (List (List Nb))}{M':List (List Nb)}(h:TWs k n m q f Ms)(hM:TW k (dimR n m q J) (dimC n m q J) (g J) M')(hf:∀ I,I≠J->f I<=g I):TWs k n m q g (Ms.set J M'):=by
 refine⟨by rw [vf]; exact h.1,fun I M e=>?_⟩
 by_cases c:I=J
 ·subst c;have hl:I<Ms.length:=by have:=(wo.mp e).1; rw [vf] at this; exact this
  rw [vk,if_pos rfl,if_pos hl] at e;cases e;exact hM
 ·rw [vk,if_neg (Ne.symm c)] at e;exact(h.2 I M e).up (hf I c)
noncomputable def zdk:Sp:=fun vs H Q _=>∃(k c:Int)(Ms:List (List (List Nb)))(H0:Hp)(ts:List Addr)(pt:Addr)(rs:List (List Addr))(n m q z:Nat),vs=[.int k,.ref pt,.int c]/\KindOk k/\GrowTs H0 H Ms ts rs/\TWs k n m q (fun _=>z) Ms/\H pt=some (.lst (ts.map V.ref))/\(∀ ras∈rs,pt∉ras)/\pt∉ts/\1<=n/\n<=10/\m<=10/\q<=10/\z<=1000 /\
 ∀(Ms':List (List (List Nb)))(rs':List (List Addr))(H':Hp),GrowTs H0 H' Ms' ts rs'->TWs k n m q (fun _=>z+6) Ms'->H' pt=some (.lst (ts.map V.ref))->(∀ ras∈rs',pt∉ras)->Q .non H'
theorem pick3{m:Int}(h0:0<=m)(h1:m<3):∃ w:Int,atI [V.int 1,V.int (-1),V.int 2] m=some (.int w)/\(w=1\/w = -1\/w=2):=by
 rcases (show m=0\/m=1\/m=2 by omega)with rfl | rfl | rfl
 ·exact⟨1,rfl,by simp⟩
 ·exact⟨-1,rfl,by simp⟩
 ·exact⟨2,rfl,by simp⟩
theorem zgv (hP:P.given.tree=none) (hS:base.NoSeer) (D:Df K mg "_law_exchanged" ["_law_prime_here", "_law_tables", "_law_cell"] xh) (zW:Kn P w K mg base "_law_make" 1 ["_law_prime_here", "_law_whole_here"] jh) (jl:Kn P w K mg base "_law_plus" 42 ["_law_prime_here", "_law_one", "_law_other"] (qV nadd)) (yn:Kn P w K mg base "_law_times" 42 ["_law_prime_here", "_law_one", "_law_other"] (qV nmul)) (xq:Kn P w K mg base "_law_minus" 43 ["_law_prime_here", "_law_one", "_law_other"] ZD) (m_len:mg "len" = none) (m_zip:mg "zip" = none):Kn P w K mg base "_law_exchanged" 44 ["_law_prime_here", "_law_tables", "_law_cell"] zdk:=by
 refine D.kn sc__law_exchanged (fun vs H Q E h=>?_) (fun f cdv A' outer s' H vs Q E hr h=>?_)
 ·obtain⟨k,c,Ms,H0,ts,pt,rs,n,m,q,z,rfl,_⟩:=h; rfl
 obtain⟨k,c,Ms,H0,ts,pt,rs,n,m,qn,z,rfl,hk,G,tM,hpt,nr,nt,n1,n10,m10,q10,z1000,q⟩:=h;have szl:sizeLine=16777216:=by decide
 have kl:=hk.lt;have lM3:=tM.1;obtain⟨ta,tb,tc,rfl⟩ : ∃ ta tb tc,ts=[ta,tb,tc]:=by
  match ts,(G.lt.trans lM3)with
  | [ta,tb,tc],_=>exact⟨ta,tb,tc,rfl⟩
 refine⟨_,(zc (zm (i:=3) sc__law_exchanged.nd rfl (.inl rfl) (zE zO rfl m_len yk (za (zG zo (pv 1) ze (fun _ _=>rfl)) zd))) (zc (zm (i:=4) sc__law_exchanged.nd rfl (.inl rfl) (zq zQ (pv 2) (pv 3))) (zg (yj (zD qB (pv 3) ze (nomark _)) (zc (zm (i:=5) sc__law_exchanged.nd rfl (.inl rfl) (zq zQ (zq yZ (zq yZ (pv 4) ze) (zq zQ (zq (ya hr (by decide) hP hS ⟨_,_,rfl,rfl,rfl,rfl,rfl⟩) (pv 2) ze) (zq qA (pv 3) ze))) (pv 3))) (zc (zm (i:=6) sc__law_exchanged.nd rfl (.inr rfl) (zt zW (hr.mono (by decide)) rfl (za (pv 0) (za (zG zo (yF (za ze (za (ziI zfk ze) (za ze zd)))) (zq zQ (zq (ya hr (by decide) hP hS ⟨_,_,rfl,rfl,rfl,rfl,rfl⟩) (pv 2) ze) ze) (fun _ _=>rfl)) zd)))) (zc (yj (zD qB (pv 0) ze (nomark _)) (zg (zm (i:=6) sc__law_exchanged.nd rfl (.inr rfl) (zq zQ (zq (ya hr (by decide) hP hS ⟨_,_,rfl,rfl,rfl,rfl,rfl⟩) (pv 2) ze) (pv 0)))) zK) (zc (jA (pv 1) (zit 3 rfl (zT (zi (i:=7) sc__law_exchanged.nd rfl (.inl rfl)) (zT (zi (i:=8) sc__law_exchanged.nd rfl (.inl rfl)) (zT (zi (i:=9) sc__law_exchanged.nd rfl (.inl rfl)) xB))))) (zc (yA PassesOwn.never rfl (zI (yF (za (pv 7) (za (pv 8) zd)))) (zi (i:=10) sc__law_exchanged.nd rfl (.inl rfl)) (zg (jA (zN ["_law_x", "_law_y"] ["_law_prime_here", "_law_c"] [0,6] ⟨rfl,rfl,rfl,rfl,rfl,rfl,by decide +kernel⟩ rfl (Ys rfl m_zip (za (zG zo (pv 10) (pv 4) (fun _ _=>rfl)) (za (zG zo (pv 10) (pv 5) (fun _ _=>rfl)) zd))) (Zc (yu (zj (by decide)) yv (yu (zj (by decide)) yv jM))) fun _ _ _ _ _ _=>⟨(jL 2 rfl (zT (zi (i:=0) (by decide:(["_law_x", "_law_y", "_law_prime_here", "_law_c"]:List Str).Nodup) rfl (by first | exact Or.inl rfl | exact Or.inr rfl)) (zT (zi (i:=1) (by decide:(["_law_x", "_law_y", "_law_prime_here", "_law_c"]:List Str).Nodup) rfl (by first | exact Or.inl rfl | exact Or.inr rfl)) xB))),zL,(zt jl (hr.mono (by decide)) rfl (za (pv 2) (za (pv 0) (za (zt yn (hr.mono (by decide)) rfl (za (pv 2) (za (pv 3) (za (pv 1) zd)))) zd))))⟩) (YT (pv 10) (pv 4) jE)))) (zg (yA PassesOwn.never rfl (zI (yF (za (pv 7) (za (pv 9) zd)))) (zi (i:=10) sc__law_exchanged.nd rfl (.inl rfl)) (zg (yA PassesOwn.never rfl (zI (pv 10)) (zi (i:=11) sc__law_exchanged.nd rfl (.inl rfl)) (zg (jA (zt xq (hr.mono (by decide)) rfl (za (pv 0) (za (zG zo (pv 11) (pv 5) (fun _ _=>rfl)) (za (zt yn (hr.mono (by decide)) rfl (za (pv 0) (za (pv 6) (za (zG zo (pv 11) (pv 4) (fun _ _=>rfl)) zd)))) zd)))) (YT (pv 11) (pv 5) jE)))))))))))) zK)))),?_⟩;obtain⟨M0,t0,ra,e1,e2,ea,hTa⟩:=G.get (i:=0) (by omega);cases e2;have lra:=zk hTa.2;rw [(tM.2 0 M0 e1).len] at lra;replace lra:n=ra.length:=lra;refine⟨_,rfl,pt,_,_,.ref ta,rfl,rfl,SqL.of hpt,zH (j:=0) rfl,ta,_,rfl,.inl (SqL.of hTa.1),?_⟩;rw [wa,← lra];refine⟨_,rfl,_,rfl,_,_,rfl,rfl,(by show(n:Int)≠0; omega),?_⟩;have i0:=wG c (show(0:Int) <(n:Int) by omega);have i1:=wL c (show(0:Int) <(n:Int) by omega)
 try dsimp only
 generalize c.fmod (n:Int)=iI at *;obtain⟨i,rfl⟩:=uW i0;have hi:i<n:=by omega
 clear hTa ea lra e1;refine⟨_,rfl,_,_,rfl,rfl,_,rfl,?_⟩;refine ite2 (fun cn=>?_) (fun cn=>?_)
 rotate_left
 ·exact q Ms rs H G (tM.up fun _=>by omega) hpt nr
 have n2:(1:Int) <(n:Int):=of_decide_eq_true cn;refine⟨_,rfl,_,_,rfl,rfl,_,rfl,_,_,rfl,rfl,(by show(5:Int)≠0; decide),_,rfl,_,_,rfl,rfl,_,_,rfl,rfl,(by show(n:Int) - 1≠0; omega),_,_,rfl,rfl,_,rfl,_,_,rfl,rfl,(by show(n:Int)≠0; omega),?_⟩
 try dsimp only
 have j0:=wG ((i:Int)+1 +(c.fdiv 5).fmod ((n:Int) - 1)) (show(0:Int) <(n:Int) by omega);have j1:=wL ((i:Int)+1 +(c.fdiv 5).fmod ((n:Int) - 1)) (show(0:Int) <(n:Int) by omega);generalize ((i:Int)+1 +(c.fdiv 5).fmod ((n:Int) - 1)).fmod (n:Int)=jI at *;obtain⟨j,rfl⟩:=uW j0;have hj:j<n:=by omega
 refine⟨_,rfl,_,rfl,(by show 3<=sizeLine; decide),fun p3 hp3=>?_⟩;obtain⟨w3,ew,hw⟩:=pick3 (wG (c.fdiv 20) (show(0:Int)<3 by decide)) (wL (c.fdiv 20) (show(0:Int)<3 by decide));have g3:=zf hp3 (.lst [V.int 1,V.int (-1),V.int 2]);refine⟨_,rfl,_,_,rfl,rfl,(by show(20:Int)≠0; decide),_,_,rfl,rfl,(by show(3:Int)≠0; decide),p3,_,_,.int w3,rfl,rfl,SqL.of zh,ew,k,w3,rfl,hk,fun vc H4 g4 rc=>?_⟩;have g34:=g3.trans g4;generalize upd H p3 (.lst [V.int 1,V.int (-1),V.int 2])=H3 at *;clear hp3 g3 g4 ew;have sw:whk k 2 (nnum k w3):=fun k0=>⟨w3,rfl,by
  have:(2:Nat)^2=4:=by decide
  omega⟩
 try dsimp only
 refine XH (fun σ H'=>∃ x v o7 o8 o9 o10 o11,σ=[some (.int k),some (.ref pt),some (.int c),some (.int (n:Int)),some (.int (i:Int)),some (.int (j:Int)),some v,o7,o8,o9,o10,o11]/\x.ok k/\whk k 2 x/\RN H' x v/\H'=H4) ?_ ?_
 rotate_left
 ·intro hN;refine⟨_,rfl,_,_,rfl,rfl,_,rfl,?_⟩;refine ite2 (fun ck=>?_) (fun ck=>?_)
  ·have k0:0<k:=of_decide_eq_true ck;exact⟨_,rfl,_,_,rfl,rfl,(by show(20:Int)≠0; decide),_,rfl,_,_,rfl,rfl,(show k≠0 by omega),hN _ _ ⟨.z _,_,_,_,_,_,_,rfl,⟨by omega,wG _ k0,wL _ k0⟩,fun e=>by omega,RN.of_z,rfl⟩⟩
  ·exact hN _ _ ⟨nnum k w3,vc,_,_,_,_,_,rfl,La.zU hk w3,sw,rc,rfl⟩
 clear rc sw hw
 rintro σ H4' ⟨x,vc,o7,o8,o9,o10,o11,rfl,ox,sx,rc,rfl⟩
 replace G:=G.mono g34;replace hpt:=g34 _ _ hpt;clear g34;refine⟨_,rfl,pt,_,rfl,SqL.of hpt,rfl,_,_,rfl,_,_,rfl,_,_,rfl,rfl,?_⟩;refine⟨_,rfl,_,rfl,(by show 2<=sizeLine; decide),fun pl hpl=>?_⟩;have g5:=zf hpl (.lst [.ref ta,.ref tb]);have hl5:upd H4' pl (.lst [.ref ta,.ref tb]) pl=some (.lst [.ref ta,.ref tb]):=zh;have nlt:pl∉[ta,tb,tc]:=fun hm=>by obtain⟨o,ho⟩:=G.tsome hm; rw [hpl] at ho; cases ho
 have nlr:∀ ras∈rs,pl∉ras:=fun ras hr hm=>by obtain⟨o,ho⟩:=G.rsome hr hm; rw [hpl] at ho; cases ho
 replace G:=G.mono g5;replace hpt:=g5 _ _ hpt;replace rc:=rc.mono g5;generalize upd H4' pl (.lst [.ref ta,.ref tb])=H5 at *;clear g5 hpl;refine⟨pl,rfl,⟨_,SqL.of hl5⟩,?_⟩;refine xg (xs:=[.ref ta,.ref tb]) (fun l σ H'=>∃ Ms rs o10 o11,σ=[some (.int k),some (.ref pt),some (.int c),some (.int (n:Int)),some (.int (i:Int)),some (.int (j:Int)),some vc,some (.ref ta),some (.ref tb),some (.ref tc),o10,o11]/\GrowTs H0 H' Ms [ta,tb,tc] rs/\TWs k n m qn (fun I=>if I<l then z+3 else z) Ms/\H' pt=some (.lst [.ref ta,.ref tb,.ref tc])/\(∀ ras∈rs,pt∉ras)/\H' pl=some (.lst [.ref ta,.ref tb])/\(∀ ras∈rs,pl∉ras)/\RN H' x vc) ⟨Ms,rs,_,_,rfl,G,tM.up fun I=>by rw [if_neg (vH I)]; exact wu _,hpt,nr,hl5,nlr,rc⟩ ?_ ?_ ?_
 ·rintro l σ H' _ ⟨Ms,rs,o10,o11,rfl,_,_,_,_,hl',_⟩
  exact SqL.of hl'
 ·clear G tM hpt nr hl5 nlr rc lM3
  rintro l v σ H6 hv ⟨Ms,rs,o10,o11,rfl,G,tM,hpt,nr,hl6,nlr,rc⟩
  have l2:l<2:=(wo.mp hv).1;obtain⟨t,rfl,ht⟩ : ∃ t,v=.ref t/\[ta,tb,tc][l]?=some t:=by
   match l,hv with
   | 0,hv=>cases hv; exact⟨ta,rfl,rfl⟩
   | 1,hv=>cases hv; exact⟨tb,rfl,rfl⟩
  obtain⟨M,t',ras,eM,e2,er,hT⟩:=G.get (i:=l) (by rw [tM.1]; omega);rw [ht] at e2;cases e2;have tk:TW k (dimR n m qn l) (dimC n m qn l) z M:=by
   have h:=tM.2 l M eM
   dsimp only at h
   rw [if_neg (vT l)] at h;exact h
  have dn:dimR n m qn l=n:=by unfold dimR; rw [if_neg (by omega)]
  have cc10:dimC n m qn l<=10:=by unfold dimC; split <;> omega
  have lras:=zk hT.2;rw [tk.len,dn] at lras;have ei:ras[i]?=some ras[i]:=wb (by omega);have ej:ras[j]?=some ras[j]:=wb (by omega);obtain⟨xi,hxi,ri⟩:=ye hT.2 ei;obtain⟨xj,hxj,rj⟩:=ye hT.2 ej;obtain⟨ui,hui,pui,lui⟩:=ri.len;obtain⟨uj,huj,puj,luj⟩:=rj.len;have oi:=tk.ok xi (wc hxi);have oj:=tk.ok xj (wc hxj);have si:=tk.sz xi (wc hxi);have sj:=tk.sz xj (wc hxj);have ll:xi.length=xj.length:=by rw [oi.1,oj.1]
  refine⟨_,rfl,_,rfl,t,_,_,.ref ras[i],rfl,rfl,SqL.of hT.1,zH (by rw [wg,ei]; rfl),_,rfl,_,rfl,t,_,_,.ref ras[j],rfl,rfl,SqL.of hT.1,zH (by rw [wg,ej]; rfl),ras[i],ras[j],ui,uj,rfl,SqL.of hui,SqL.of huj,?_⟩;refine Zb (xs:=ui) (zs:=uj) (by rw [lui,luj]; exact ll) (fun e ys H'=>Same H6 H'/\Paired (RN H') ((vA (fun a b=>nadd k a (nmul k x b)) xi xj).take e) ys) ⟨Same.refl _,.nil⟩ ?_ ?_ ?_
  ·rintro e ys H' he ⟨g,pr⟩
   refine⟨SqL.of (g _ _ hui),SqL.of (g _ _ huj),?_⟩;have:=zk pr;rw [wv] at this;rw [lui,oi.1] at he; omega
  ·rintro e a b T ys H' ha hb he hTn ⟨g,pr⟩
   have g':=g.trans (zf hTn (.tup [a,b]));obtain⟨na,ena,rna⟩:=ye pui ha;obtain⟨nb,enb,rnb⟩:=ye puj hb;have oa:=oi.2 na (wc ena);have ob:=oj.2 nb (wc enb);have sa:=si na (wc ena);have sb:=sj nb (wc enb);have om:=La.yM hk ox ob;have sm:=zaq ox ob sx sb;have pr':=jm (zf hTn (.tup [a,b])) pr;refine⟨T,_,rfl,SqT.of zh,rfl,_,_,rfl,_,_,rfl,rfl,?_⟩;generalize upd H' T (.tup [a,b])=H7 at *
   first | refine gyes ?_ | refine tyes ?_
   refine⟨_,rfl,_,rfl,_,rfl,_,rfl,_,rfl,k,x,nb,_,_,rfl,⟨hk,ox,ob,sx.nsm hk ox (by decide) (by decide),sb.nsm hk ob (by omega) (by decide),rc.mono g',rnb.mono g'⟩,fun v8 H8 g8 r8=>?_⟩;refine⟨k,na,_,_,_,rfl,⟨hk,oa,om,sa.nsm hk oa (by omega) (by decide),sm.nsm hk om (by omega) (by decide),(rna.mono g').mono g8,r8⟩,fun v9 H9 g9 r9=>nxt he ⟨(g'.trans g8).trans g9,?_⟩⟩;have ez:(vA (fun a b=>nadd k a (nmul k x b)) xi xj)[e]?=some (nadd k na (nmul k x nb)):=by rw [vJ,ena,enb]
   rw [zw ez];exact zZ (jm (g8.trans g9) pr') r9
  rintro ys H7 ⟨g7,pr⟩ pn hpn
  rw [lui,wp (by rw [wX]; omega)] at pr;generalize ez:vA (fun a b=>nadd k a (nmul k x b)) xi xj=xz at *;have memz:∀ y∈xz,y.ok k/\whk k (z+3) y:=fun y hy=>by
   rw [← ez] at hy;obtain⟨e,he,rfl⟩:=wI hy;rw [uw];rw [wX] at he;have oa:=oi.2 _ (wk (show e<xi.length by omega));have ob:=oj.2 _ (wk (show e<xj.length by omega));have sa:=si _ (wk (show e<xi.length by omega));have sb:=sj _ (wk (show e<xj.length by omega));exact⟨La.XD hk oa (La.yM hk ox ob),(zhd oa (La.yM hk ox ob) sa (zaq ox ob sx sb)).mono (by omega)⟩
  have lz:xz.length=dimC n m qn l:=by rw [← ez,wX,← ll,oi.1]; omega
  have g8:=zf hpn (.lst ys);have R8:RowAt (upd H7 pn (.lst ys)) xz pn:=⟨ys,zh,jm g8 pr⟩;have G7:=G.mono g7;have npn:pn∉[ta,tb,tc]:=fun hm=>by obtain⟨o,ho⟩:=G7.tsome hm; rw [hpn] at ho; cases ho
  have nrn:∀ ras∈rs,pn∉ras:=fun ras hr hm=>by obtain⟨o,ho⟩:=G7.rsome hr hm; rw [hpn] at ho; cases ho
  have fpn:H0 pn=none:=G7.same.none hpn;have ptn:pt≠pn:=fun e=>by rw [← e,g7 _ _ hpt] at hpn; cases hpn
  have pln:pl≠pn:=fun e=>by rw [← e,g7 _ _ hl6] at hpn; cases hpn
  have G8:=G7.mono g8;have g78:=g7.trans g8;generalize upd H7 pn (.lst ys)=H8 at *;have hT8:=hT.mono g78;have tm:=wc ht;have ptt:pt≠t:=fun e=>nt (by rw [e]; exact tm)
  have plt:pl≠t:=fun e=>nlt (by rw [e]; exact tm)
  refine⟨_,rfl,_,rfl,t,_,_,i,rfl,rfl,hT8.1,qL (by rw [wa]; omega),?_⟩;have G9:=G8.setSlot (i:=l) (j:=i) eM ht er (by omega) R8 fpn npn nrn;rw [wa9] at G9;have away:∀ p,p≠pn->(∀ ras∈rs,p∉ras)->∀ x'∈rs.set l (ras.set i pn),p∉x':=fun p hp hr x' hx' hm=>by
   rcases La.yh hx' with e | e
   ·rw [e] at hm
    rcases La.yh hm with e' | e'
    ·exact hp e'
    ·exact hr ras (wc er) e'
   ·exact hr x' e hm
  refine⟨Ms.set l (M.set i xz),rs.set l (ras.set i pn),_,_,rfl,G9,tM.set (g:=fun I=>if I<l+1 then z+3 else z) ?_ (fun I hI=>?_),by rw [zR ptt]; exact g78 _ _ hpt,away pt ptn nr,by rw [zR plt]; exact g78 _ _ hl6,away pl pln nlr,(rc.mono g78).upd hT8.1⟩
  ·rw [if_pos (vS l)];exact(tk.up (show z<=z+3 by omega)).set lz (fun y hy=>(memz y hy).1) (fun y hy=>(memz y hy).2)
  ·by_cases c1:I<l
   ·rw [if_pos c1,if_pos (by omega)]; exact wu _
   ·rw [if_neg c1,if_neg (by omega)]; exact wu _
 clear G tM hpt nr hl5 nlr rc nlt
 rintro σ H6 ⟨Ms,rs,o10,o11,rfl,G,tM0,hpt,nr,_,_,rc⟩
 have tM:TWs k n m qn (fun _=>z+3) Ms:=tM0.up fun I=>by split <;> omega
 clear tM0;refine⟨_,rfl,_,rfl,(by show 2<=sizeLine; decide),fun pl hpl=>?_⟩;have g5:=zf hpl (.lst [.ref ta,.ref tc]);have hl5:upd H6 pl (.lst [.ref ta,.ref tc]) pl=some (.lst [.ref ta,.ref tc]):=zh;have nlr:∀ ras∈rs,pl∉ras:=fun ras hr hm=>by obtain⟨o,ho⟩:=G.rsome hr hm; rw [hpl] at ho; cases ho
 replace G:=G.mono g5;replace hpt:=g5 _ _ hpt;replace rc:=rc.mono g5;generalize upd H6 pl (.lst [.ref ta,.ref tc])=H7 at *;clear g5 hpl;refine⟨pl,rfl,⟨_,SqL.of hl5⟩,?_⟩;refine xg (xs:=[.ref ta,.ref tc]) (fun l σ H'=>∃ Ms o10 o11,σ=[some (.int k),some (.ref pt),some (.int c),some (.int (n:Int)),some (.int (i:Int)),some (.int (j:Int)),some vc,some (.ref ta),some (.ref tb),some (.ref tc),o10,o11]/\GrowTs H0 H' Ms [ta,tb,tc] rs/\TWs k n m qn (fun I=>if I<2*l then z+6 else z+3) Ms/\H' pt=some (.lst [.ref ta,.ref tb,.ref tc])/\H' pl=some (.lst [.ref ta,.ref tc])/\RN H' x vc) ⟨Ms,_,_,rfl,G,tM.up fun I=>by rw [if_neg (by omega)]; exact wu _,hpt,hl5,rc⟩ ?_ ?_ ?_
 ·rintro l σ H' _ ⟨Ms,o10,o11,rfl,_,_,_,hl',_⟩
  exact SqL.of hl'
 ·clear G tM hpt hl5 rc
  rintro l v σ H8 hv ⟨Ms,o10,o11,rfl,G,tM,hpt,hl8,rc⟩
  have l2:l<2:=(wo.mp hv).1;obtain⟨t,rfl,ht⟩ : ∃ t,v=.ref t/\[ta,tb,tc][2*l]?=some t:=by
   match l,hv with
   | 0,hv=>cases hv; exact⟨ta,rfl,rfl⟩
   | 1,hv=>cases hv; exact⟨tc,rfl,rfl⟩
  obtain⟨M,t',ras,eM,e2,er,hT⟩:=G.get (i:=2*l) (by rw [tM.1]; omega);rw [ht] at e2;cases e2;have tk:TW k (dimR n m qn (2*l)) (dimC n m qn (2*l)) (z+3) M:=by
   have h:=tM.2 (2*l) M eM
   dsimp only at h
   rw [if_neg (vT (2*l))] at h;exact h
  have cn':dimC n m qn (2*l)=n:=by unfold dimC; rw [if_neg (by omega)]
  rw [cn'] at tk;have lras:=zk hT.2;have rm:=wc er;have lMs:=tM.1;refine⟨_,rfl,t,rfl,⟨_,SqL.of hT.1⟩,?_⟩;refine xg (xs:=ras.map V.ref) (fun e σ H'=>∃ Mc o11,σ=[some (.int k),some (.ref pt),some (.int c),some (.int (n:Int)),some (.int (i:Int)),some (.int (j:Int)),some vc,some (.ref ta),some (.ref tb),some (.ref tc),some (.ref t),o11]/\GrowTs H0 H' (Ms.set (2*l) Mc) [ta,tb,tc] rs/\TW k (dimR n m qn (2*l)) n (z+6) Mc/\(∀ e' r,e<=e'->Mc[e']?=some r->∀ y∈r,whk k (z+3) y)/\H' pt=some (.lst [.ref ta,.ref tb,.ref tc])/\H' pl=some (.lst [.ref ta,.ref tc])/\RN H' x vc) ⟨M,_,rfl,by rw [zgo eM]; exact G,tk.up (by omega),fun e' r _ hr=>tk.sz r (wc hr),hpt,hl8,rc⟩ ?_ ?_ ?_
  ·rintro e σ H' _ ⟨Mc,o11,rfl,G',_⟩
   exact SqL.of (G'.tabs (2*l) Mc t ras (by rw [vk,if_pos rfl,if_pos (by omega)]) ht er).1
  ·rintro e v σ H' hv ⟨Mc,o11,rfl,G',tkc,low,hpt',hl',rc'⟩
   have eMc:(Ms.set (2*l) Mc)[2*l]?=some Mc:=by rw [vk,if_pos rfl,if_pos (by omega)]
   have hT':=G'.tabs (2*l) Mc t ras eMc ht er;obtain⟨row,ar,hrow,har,rfl,hR⟩:=hT'.row hv;obtain⟨us,hu,pu,lu⟩:=hR.len;have orow:=tkc.ok row (wc hrow);have srow:=low e row (wu _) hrow;have ei:row[i]?=some row[i]:=wb (by rw [orow.1]; exact hi);have ej:row[j]?=some row[j]:=wb (by rw [orow.1]; exact hj);obtain⟨vi,hvi,rvi⟩:=yi pu ei;obtain⟨vj,hvj,rvj⟩:=yi pu ej;have oi:=orow.2 _ (wc ei);have oj:=orow.2 _ (wc ej);have si:=srow _ (wc ei);have sj:=srow _ (wc ej);have om:=La.yM hk ox oi;have sm:=zaq ox oi sx si;have nap:ar≠pt:=fun e=>nr ras rm (by rw [← e]; exact wc har)
   have nal:ar≠pl:=fun e=>nlr ras rm (by rw [← e]; exact wc har)
   refine⟨_,rfl,_,rfl,_,rfl,ar,_,_,vj,rfl,rfl,SqL.of hu,zH hvj,_,rfl,_,rfl,_,rfl,_,rfl,ar,_,_,vi,rfl,rfl,SqL.of hu,zH hvi,k,x,row[i],_,_,rfl,⟨hk,ox,oi,sx.nsm hk ox (by decide) (by decide),si.nsm hk oi (by omega) (by decide),rc',rvi⟩,fun v9 H9 g9 r9=>?_⟩;refine⟨k,row[j],_,_,_,rfl,hk,oj,om,sj.nsm hk oj (by omega) (by decide),sm.nsm hk om (by omega) (by decide),rvj.mono g9,r9,fun v10 H10 g10 r10=>?_⟩;have g':=g9.trans g10;have hu':=g' _ _ hu;refine⟨_,rfl,_,rfl,ar,us,_,j,rfl,rfl,hu',qL (by rw [lu,orow.1]; exact hj),?_⟩;have G10:=(G'.mono g').setRow eMc er har hu' (JX (jm g' pu) j r10);rw [List.set_set] at G10;have lset:∀ y∈row.set j (nsub k row[j] (nmul k x row[i])),y.ok k/\whk k (z+6) y:=fun y hy=>by
    rcases La.yh hy with e | e
    ·rw [e]; exact⟨XE (by omega) oj om,(zg7 oj om sj sm).mono (by omega)⟩
    ·exact⟨orow.2 y e,(srow y e).mono (by omega)⟩
   refine⟨Mc.set e (row.set j (nsub k row[j] (nmul k x row[i]))),_,rfl,G10,tkc.set (by rw [vf]; exact orow.1) (fun y hy=>(lset y hy).1) (fun y hy=>(lset y hy).2),fun e' r he' hr=>?_,by rw [zR (Ne.symm nap)]; exact g' _ _ hpt',by rw [zR (Ne.symm nal)]; exact g' _ _ hl',(rc'.mono g').upd hu'⟩;rw [vk,if_neg (by omega)] at hr;exact low e' r (by omega) hr
  ·rintro σ H' ⟨Mc,o11,rfl,G',tkc,low,hpt',hl',rc'⟩
   refine⟨Ms.set (2*l) Mc,_,_,rfl,G',tM.set (g:=fun I=>if I<2 *(l+1)then z+6 else z+3) ?_ (fun I hI=>?_),hpt',hl',rc'⟩
   ·rw [if_pos (by omega),cn'];exact tkc
   ·split <;> split <;> omega
 ·rintro σ H8 ⟨Ms,o10,o11,rfl,G,tM,hpt,hl8,rc⟩
  exact q Ms rs H8 G (tM.up fun I=>by split <;> omega) hpt nr
theorem zgH(cs:List Int)(lo hi:Option Int):∃ zs:List Int,cutV (cs.map V.int) lo hi=zs.map V.int:=⟨_,by unfold cutV; rw [wa,← waq,← Gz]⟩
noncomputable def Jt:Sp:=fun vs H Q _=>∃(pc pq:Addr)(cs:List Int)(a b:Nat),vs=[.ref pc,.ref pq]/\H pc=some (.lst (cs.map V.int))/\cs≠[]/\cs.length<=1000/\H pq=some (.lst [.int (a:Int),.int (b:Int)])/\1<=a/\a<=3/\1<=b/\b<=10 /\
 ∀(k:Int)(n m q at':Nat)(A B C:List (List Nb))(p3 pm ta tb tc:Addr)(ra rb rc:List Addr)(H':Hp),Same H H'->H' p3=some (.tup [.int k,.ref pm,.int (at':Int)])->MachAt H' A B C pm ta tb tc ra rb rc->KindS k->Fit k n->MOk k n m q 80 A B C->(TW k n n 14 A/\TW k n m 14 B/\TW k q n 14 C/\((cs.headD 1).fmod 3=0->k=0))->1<=m->m<=2->1<=q->q<=2->n<=a\/n<=b->Q (.ref p3) H'
theorem zco (hP:P.given.tree=none) (hS:base.NoSeer) (D:Df K mg "_law_machine" ["_law_cells", "_law_most"] xG) (zaV:Kn P w K mg base "_law_prime" 41 ["_law_cell"] zaU) (za9:Kn P w K mg base "_law_sorts" 42 ["_law_head", "_law_n", "_law_plain"] zaQ) (JO:Kn P w K mg base "_law_blocked" 45 ["_law_prime_here", "_law_cells", "_law_sizes", "_law_sorts_here"] Jj) (Xc:Kn P w K mg base "_law_exchanged" 44 ["_law_prime_here", "_law_tables", "_law_cell"] zdk) (m_int:mg "int" = none) (zy:mg "range" = none):Kn P w K mg base "_law_machine" 46 ["_law_cells", "_law_most"] Jt:=by
 refine D.kn sc__law_machine (fun vs H Q E h=>?_) (fun f cdv A' outer s' H vs Q E hr h=>?_)
 ·obtain⟨pc,pq,cs,a,b,rfl,_⟩:=h; rfl
 obtain⟨pc,pq,cs,a,b,rfl,hc,ne,c1000,hq,a1,a3,b1,b10,q⟩:=h;have szl:sizeLine=16777216:=by decide
 obtain⟨c0,cs',rfl⟩:=uM ne;refine⟨_,(zc (zm (i:=2) sc__law_machine.nd rfl (.inl rfl) (zG zo (pv 0) ze (fun _ _=>rfl))) (zc (zm (i:=3) sc__law_machine.nd rfl (.inl rfl) (zt zaV (hr.mono (by decide)) rfl (za (pv 2) zd))) (zc (zm (i:=4) sc__law_machine.nd rfl (.inl rfl) (xP (za (zq yZ ze (zq zQ (zq (ya hr (by decide) hP hS ⟨_,_,rfl,rfl,rfl,rfl,rfl⟩) (pv 2) ze) (zG zo (pv 1) (yX ZY rfl m_int zaR (za (yx qB (pv 3) ze (nomark _)) zd)) (fun _ _=>rfl)))) (za (zq yZ ze (zq zQ (zq (ya hr (by decide) hP hS ⟨_,_,rfl,rfl,rfl,rfl,rfl⟩) (pv 2) ze) ze)) (za (zq yZ ze (zq zQ (zq (ya hr (by decide) hP hS ⟨_,_,rfl,rfl,rfl,rfl,rfl⟩) (pv 2) ze) ze)) zd))))) (zc (zm (i:=5) sc__law_machine.nd rfl (.inl rfl) (yx yI (zq zQ (zq (ya hr (by decide) hP hS ⟨_,_,rfl,rfl,rfl,rfl,rfl⟩) (pv 2) ze) ze) ze (nomark _))) (zc (jA (zt JO (hr.mono (by decide)) rfl (za (pv 3) (za (pv 0) (za (pv 4) (za (zt za9 (hr.mono (by decide)) rfl (za (pv 2) (za (zG zJ (pv 4) ze (fun _ _=>rfl)) (za (pv 5) zd)))) zd))))) (jL 2 rfl (zT (zi (i:=6) sc__law_machine.nd rfl (.inl rfl)) (zT (zi (i:=7) sc__law_machine.nd rfl (.inl rfl)) xB)))) (zc (yA PassesOwn.never rfl (zM rfl zy (za ze zd)) (zi (i:=8) sc__law_machine.nd rfl (.inl rfl)) (zg (yj (jS (xZ (pv 5))) (zg (xV (zt Xc (hr.mono (by decide)) rfl (za (pv 3) (za (pv 6) (za (zq yZ (zG zo (zq Zr (Zf ZW (pv 0) (Zy (pv 7)) Xx) (yF (za ze (za ze (za ze zd))))) (pv 8) (fun _ _=>rfl)) (zq (ya hr (by decide) hP hS ⟨_,_,rfl,rfl,rfl,rfl,rfl⟩) (pv 2) ze)) zd)))))) zK))) (zg (zp (xP (za (pv 3) (za (xP (za (zG zo (pv 6) ze (fun _ _=>rfl)) (za (zG zo (pv 6) ze (fun _ _=>rfl)) (za (zG zo (pv 6) ze (fun _ _=>rfl)) zd)))) (za (zq yZ (pv 7) ze) zd)))))))))))),?_⟩;refine⟨_,rfl,pc,_,_,_,rfl,rfl,SqL.of hc,zH (j:=0) rfl,?_⟩;refine⟨_,rfl,c0,rfl,fun k H1 g1 hs hk0=>?_⟩;have hk:=hs.ok;have kl:=hk.lt;have hq1:=g1 _ _ hq;obtain⟨mo,emo,mo1,mob⟩ : ∃ mo:Nat,atI [V.int (a:Int),V.int (b:Int)] (if decide (0<k)=true then 1 else 0)=some (.int (mo:Int))/\1<=mo/\((k=0/\mo=a)\/(k≠0/\mo=b)):=by
  by_cases h:0<k
  ·rw [decide_eq_true h]; exact⟨b,rfl,b1,.inr ⟨by omega,rfl⟩⟩
  ·rw [decide_eq_false h]; exact⟨a,rfl,a1,.inl ⟨by omega,rfl⟩⟩
 have n75:(75:Int)≠0:=by decide
 refine⟨_,rfl,_,_,rfl,rfl,n75,_,rfl,_,rfl,_,_,rfl,rfl,.inr ⟨_,rfl,pq,_,_,.int (mo:Int),rfl,rfl,SqL.of hq1,emo,_,_,rfl,rfl,(by show(mo:Int)≠0; omega),_,_,rfl,rfl,_,rfl,_,_,rfl,rfl,(by show(375:Int)≠0; decide),_,_,rfl,rfl,(by show(2:Int)≠0; decide),_,_,rfl,rfl,_,rfl,_,_,rfl,rfl,(by show(750:Int)≠0; decide),_,_,rfl,rfl,(by show(2:Int)≠0; decide),_,_,rfl,rfl,(by show 3<=sizeLine; decide),fun pz hpz=>?_⟩⟩
 try dsimp only
 obtain⟨n,en,n1,nm⟩ : ∃ n:Nat,1 +(c0.fdiv 75).fmod (mo:Int) =(n:Int)/\1<=n/\n<=mo:=by
  have f0:=wG (c0.fdiv 75) (show(0:Int) <(mo:Int) by omega);have f1:=wL (c0.fdiv 75) (show(0:Int) <(mo:Int) by omega);exact⟨(1 +(c0.fdiv 75).fmod (mo:Int)).toNat,by omega,by omega,by omega⟩
 obtain⟨m,em,m1,m2⟩ : ∃ m:Nat,1 +(c0.fdiv 375).fmod 2 =(m:Int)/\1<=m/\m<=2:=by
  have f0:=wG (c0.fdiv 375) (show(0:Int)<2 by decide);have f1:=wL (c0.fdiv 375) (show(0:Int)<2 by decide);exact⟨(1 +(c0.fdiv 375).fmod 2).toNat,by omega,by omega,by omega⟩
 obtain⟨qn,eq,q1,q2⟩ : ∃ qn:Nat,1 +(c0.fdiv 750).fmod 2 =(qn:Int)/\1<=qn/\qn<=2:=by
  have f0:=wG (c0.fdiv 750) (show(0:Int)<2 by decide);have f1:=wL (c0.fdiv 750) (show(0:Int)<2 by decide);exact⟨(1 +(c0.fdiv 750).fmod 2).toNat,by omega,by omega,by omega⟩
 rw [en,em,eq] at *;have g2:=zf hpz (.tup [.int (n:Int),.int (m:Int),.int (qn:Int)]);have hz2:upd H1 pz (.tup [.int (n:Int),.int (m:Int),.int (qn:Int)]) pz=some (.tup [.int (n:Int),.int (m:Int),.int (qn:Int)]):=zh;generalize upd H1 pz (.tup [.int (n:Int),.int (m:Int),.int (qn:Int)])=H2 at *;have n10:n<=10:=by rcases mob with⟨_,h⟩ | ⟨_,h⟩ <;> omega
 refine⟨_,rfl,_,_,rfl,rfl,(by show(1500:Int)≠0; decide),_,_,rfl,rfl,(by show(3:Int)≠0; decide),rfl,?_⟩
 try dsimp only
 generalize decide (V.int ((c0.fdiv 1500).fmod 3)=V.int 0)=pb;refine⟨_,rfl,_,rfl,_,rfl,_,rfl,_,rfl,pz,_,_,.int (n:Int),rfl,rfl,SqT.of hz2,rfl,_,rfl,c0,n,pb,rfl,by omega,fun ss ps H3 g3 hs3 lss=>?_⟩;have g13:=(g1.trans g2).trans g3;refine⟨k,pc,pz,ps,c0::cs',ss,n,m,qn,rfl,hk,g13 _ _ hc,ne,g3 _ _ hz2,hs3,lss,n10,by omega,by omega,fun A B C pt pr ts rs at' H4 G tA tB tC hpt ptn nt nr hpr=>?_⟩;refine⟨pr,_,rfl,SqT.of hpr,rfl,_,_,rfl,_,_,rfl,rfl,?_⟩;have T0:TWs k n m qn (fun _=>2) [A,B,C]:=⟨rfl,fun I M hM=>by
  match I,hM with
  | 0,hM=>cases hM; exact tA
  | 1,hM=>cases hM; exact tB
  | 2,hM=>cases hM; exact tC⟩
 clear tA tB tC hpr;refine⟨2,rfl,(by decide),(by decide),?_⟩;refine yC (lo:=0) (n:=2) (fun l σ H'=>∃ Ms rs o8,σ=[some (.ref pc),some (.ref pq),some (.int c0),some (.int k),some (.ref pz),some (.bl pb),some (.ref pt),some (.int (at':Int)),o8]/\GrowTs H3 H' Ms ts rs/\TWs k n m qn (fun _=>if l=0 then 2 else if l=1 then 8 else 14) Ms/\H' pt=some (.lst (ts.map V.ref))/\(∀ ras∈rs,pt∉ras)) ⟨_,rs,none,rfl,G,T0,hpt,nr⟩ ?_ ?_
 ·clear G T0 hpt nr
  rintro l σ H5 hl ⟨Ms,rs,o8,rfl,G,T,hpt,nr⟩
  refine⟨_,rfl,_,rfl,?_⟩;refine ite2 (fun cb=>?_) (fun cb=>?_)
  ·have hc5:H5 pc=some (.lst ((c0::cs').map V.int)):=G.same _ _ (g13 _ _ hc);refine⟨_,rfl,_,rfl,_,rfl,_,rfl,_,rfl,pc,_,rfl,SqL.of hc5,fun p1 hp1=>?_⟩;obtain⟨zs,ez⟩:=zgH (c0::cs') (some (at':Int)) none;have lzs:zs.length<=1000:=by
    have:(zs.map V.int).length<=((c0::cs').map V.int).length:=by rw [← ez]; unfold cutV; rw [wv,ut]; omega
    rw [wa,wa] at this;omega
   rw [ez];refine⟨(by show 3<=sizeLine; decide),fun p2 hp2=>?_⟩;have n12:p1≠p2:=fun e=>by rw [e,zh] at hp2; cases hp2
   refine⟨p1,p2,_,_,rfl,rfl,(by rw [zR n12]; exact zh),zh,(by rw [wa]; show zs.length+3<=sizeLine; omega),fun p3 hp3=>?_⟩;have e3:zs.map V.int++[V.int 0,V.int 0,V.int 0] =(zs++[0,0,0]).map V.int:=by simp
   rw [e3] at *;have g6:=((zf hp1 (.lst (zs.map V.int))).trans (zf hp2 (.lst [V.int 0,V.int 0,V.int 0]))).trans (zf hp3 (.lst ((zs++[0,0,0]).map V.int)));have h3':upd (upd (upd H5 p1 (.lst (zs.map V.int))) p2 (.lst [V.int 0,V.int 0,V.int 0])) p3 (.lst ((zs++[0,0,0]).map V.int)) p3=some (.lst ((zs++[0,0,0]).map V.int)):=zh;generalize upd (upd (upd H5 p1 (.lst (zs.map V.int))) p2 (.lst [V.int 0,V.int 0,V.int 0])) p3 (.lst ((zs++[0,0,0]).map V.int))=H6 at *;have ll:l <(zs++[(0:Int),0,0]).length:=by rw [wx]; show l<zs.length+3; omega
   have el:((zs++[(0:Int),0,0]).map V.int)[l]?=some (.int (zs++[(0:Int),0,0])[l]):=by rw [wg,wb ll]; rfl
   refine⟨_,rfl,p3,_,_,.int (zs++[(0:Int),0,0])[l],rfl,rfl,SqL.of h3',(by rw [wT]; exact zH el),_,rfl,_,_,rfl,rfl,(by show(4500:Int)≠0; decide),_,_,rfl,rfl,k,_,Ms,H3,ts,pt,rs,n,m,qn,_,rfl,hk,G.mono g6,T,g6 _ _ hpt,nr,nt,n1,n10,by omega,by omega,(by split <;>(try split) <;> omega),fun Ms' rs' H7 G7 T7 hpt7 nr7=>?_⟩;refine⟨Ms',rs',_,rfl,G7,T7.up fun _=>?_,hpt7,nr7⟩
   rcases (show l=0\/l=1 by omega)with e | e
   ·subst e; decide
   ·subst e; decide
  ·refine⟨Ms,rs,_,rfl,G,T.up fun _=>?_,hpt,nr⟩
   rcases (show l=0\/l=1 by omega)with e | e
   ·subst e; decide
   ·subst e; decide
 ·rintro σ H5 ⟨Ms,rs,o8,rfl,G,T,hpt,nr⟩
  obtain⟨A,B,C,rfl⟩ : ∃ A B C,Ms=[A,B,C]:=by
   match Ms,T.1 with
   | [A,B,C],_=>exact⟨A,B,C,rfl⟩
  obtain⟨ta,tb,tc,rfl⟩ : ∃ ta tb tc,ts=[ta,tb,tc]:=by
   match ts,G.lt with
   | [ta,tb,tc],_=>exact⟨ta,tb,tc,rfl⟩
  obtain⟨ra,rb,rc,rfl⟩ : ∃ ra rb rc,rs=[ra,rb,rc]:=by
   match rs,G.lr with
   | [ra,rb,rc],_=>exact⟨ra,rb,rc,rfl⟩
  refine⟨_,rfl,_,rfl,pt,_,_,.ref ta,rfl,rfl,SqL.of hpt,zH (j:=0) rfl,_,rfl,pt,_,_,.ref tb,rfl,rfl,SqL.of hpt,zH (j:=1) rfl,_,rfl,pt,_,_,.ref tc,rfl,rfl,SqL.of hpt,zH (j:=2) rfl,(by show 3<=sizeLine; decide),fun pm hpm=>?_⟩;have g6:=zf hpm (.tup [.ref ta,.ref tb,.ref tc]);have hm6:upd H5 pm (.tup [.ref ta,.ref tb,.ref tc]) pm=some (.tup [.ref ta,.ref tb,.ref tc]):=zh;generalize upd H5 pm (.tup [.ref ta,.ref tb,.ref tc])=H6 at *;refine⟨_,rfl,_,_,rfl,rfl,(by show 3<=sizeLine; decide),fun p3 hp3=>?_⟩;have g7:=zf hp3 (.tup [.int k,.ref pm,.int ((at':Int)+2)]);have G7:=(G.mono g6).mono g7;have ft:Fit k n:=⟨n1,by
   rcases mob with⟨_,h⟩ | ⟨k0,h⟩
   ·exact .inl (by omega)
   ·exact .inr ⟨k0,by omega⟩⟩
  refine q k n m qn (at'+2) A B C p3 pm ta tb tc ra rb rc _ (((g13.trans G.same).trans g6).trans g7) ?_ ⟨g7 _ _ hm6,G7.tabs 0 A ta ra rfl rfl rfl,G7.tabs 1 B tb rb rfl rfl rfl,G7.tabs 2 C tc rc rfl rfl rfl⟩ hs ft ⟨(T.2 0 A rfl).tok hk (by decide) (by decide),(T.2 1 B rfl).tok hk (by decide) (by decide),(T.2 2 C rfl).tok hk (by decide) (by decide)⟩ ⟨T.2 0 A rfl,T.2 1 B rfl,T.2 2 C rfl,hk0⟩ m1 m2 q1 q2 (by rcases mob with⟨_,h⟩ | ⟨_,h⟩ <;> omega);rw [zh]
  rfl
theorem zeE (D:Df K mg "_law_across" ["_law_table"] je) (zy:mg "range" = none) (m_len:mg "len" = none):Kn P w K mg base "_law_across" 1 ["_law_table"] xO:=by
 refine D.kn JN (fun vs H Q E h=>?_) (fun f cdv A outer s H vs Q E hr h=>?_)
 ·obtain⟨M,n,top,ras,rfl,_⟩:=h; rfl
 obtain⟨M,n,top,ras,rfl,hT,hM,hn,nz,mz,q⟩:=h;refine⟨_,(zg (zp (zN ["_law_j"] ["_law_table"] [0] ⟨rfl,rfl,rfl,rfl,rfl,rfl,by decide +kernel⟩ rfl (zM rfl zy (za (zE zO rfl m_len yk (za (zG zo (pv 0) ze (fun _ _=>rfl)) zd)) zd)) (zj (by decide)) fun _ _ _ _ _ _=>⟨(zi (i:=0) (by decide:(["_law_j", "_law_table"]:List Str).Nodup) rfl (by first | exact Or.inl rfl | exact Or.inr rfl)),zL,(zN ["_law_row"] ["_law_j"] [0] ⟨rfl,rfl,rfl,rfl,rfl,rfl,by decide +kernel⟩ rfl (zI (pv 1)) (zj (by decide)) fun _ _ _ _ _ _=>⟨(zi (i:=0) (by decide:(["_law_row", "_law_j"]:List Str).Nodup) rfl (by first | exact Or.inl rfl | exact Or.inr rfl)),zL,(zG zo (pv 0) (pv 1) (fun _ _=>rfl))⟩)⟩))),?_⟩;obtain⟨M0,M',rfl⟩:=uM hM;have hras:=zk hT.2;obtain⟨r0,ras',e0⟩ : ∃ r0 ras',ras=r0::ras':=by
  cases ras with
  | nil=>simp at hras
  | cons a b=>exact⟨a,b,rfl⟩
 obtain⟨vs0,h0,p0,l0⟩:=(ja hT.2 (i:=0) rfl (by rw [e0]; rfl)).len;have n0:=hn M0 wm;have szl:sizeLine=16777216:=by decide
 refine⟨_,rfl,top,_,_,_,rfl,rfl,SqL.of hT.1,(by rw [e0]; exact zH (j:=0) rfl),r0,_,rfl,.inl (SqL.of h0),_,rfl,(by omega),(by omega),?_⟩;have en:(vs0.length:Int).toNat=n:=by omega
 rw [en];refine yb (lo:=0) (n:=n) (fun i ys H'=>∃ ras2,ys=ras2.map V.ref/\Grow H H' ((transp n (M0::M')).take i) ras2) ⟨[],rfl,Grow.nil H (Same.refl H)⟩ ?_ ?_ ?_
 ·rintro i ys H' hi ⟨ras2,rfl,G⟩
  have:=zk G.rows;rw [wv,zV] at this;rw [wa]; omega
 ·rintro i ys H' hi ⟨ras2,rfl,G⟩
  first | refine gyes ?_ | refine tyes ?_
  refine⟨_,rfl,top,rfl,⟨_,SqL.of (G.same _ _ hT.1)⟩,?_⟩;refine zP (xs:=ras.map V.ref) (fun j ys' H2=>H2=H'/\Paired (RN H') (((M0::M').map fun r=>r.getD i (.z 0)).take j) ys') ⟨rfl,.nil⟩ ?_ ?_ ?_
  ·rintro j ys' H2 hj ⟨rfl,pr⟩
   refine⟨SqL.of (G.same _ _ hT.1),?_⟩;have:=zk pr;rw [wv,wa] at this;omega
  ·rintro j v ys' H2 hv hj ⟨rfl,pr⟩
   obtain⟨xs,a,hx,ha,rfl,hrow⟩:=(hT.mono G.same).row hv;obtain⟨us,hu,pu,lu⟩:=hrow.len;have nx:=hn xs (wc hx);have hi':i<xs.length:=by omega
   obtain⟨u,eu,ru⟩:=yi pu (wb hi')
   first | refine gyes ?_ | refine tyes ?_
   refine⟨_,rfl,_,rfl,a,_,_,_,rfl,rfl,SqL.of hu,(by rw [wT]; exact zH eu),nxt hj ⟨rfl,?_⟩⟩;have e:((M0::M').map fun r=>r.getD i (.z 0))[j]?=some (xs.getD i (.z 0)):=by rw [wg,hx]; rfl
   rw [zw e];refine zZ pr ?_;rw [we,wb hi']; exact ru
  ·rintro ys' H2 ⟨rfl,pr⟩ p hp
   rw [wp (by rw [wa,wa]; omega)] at pr;refine nxt hi ⟨ras2++[p],by rw [ww]; rfl,?_⟩;rw [zw (jP hi)];exact G.snoc hp pr
 ·rintro ys H' ⟨ras2,rfl,G⟩ t ht
  rw [wp (by rw [zV]; exact wu _)] at G;exact q t ras2 _ (G.same.trans (zf ht _)) (G.done ht)
noncomputable def Qq:Sp:=fun vs H Q _=>∃ i:Int,vs=[.int i]/\Q (.bl true) H
theorem zgu (D:Df K mg "_law_whole" ["_law_found"] jF) (zS:mg "isinstance" = none) (m_int:mg "int" = none) (zeU:mg "bool" = none):Kn P w K mg base "_law_whole" 1 ["_law_found"] Qq:=by
 refine D.kn zap (fun vs H Q E h=>?_) (fun f cdv A outer s H vs Q E hr h=>?_)
 ·obtain⟨i,rfl,_⟩:=h; rfl
 obtain⟨i,rfl,q⟩:=h;refine⟨_,(zg (zp (JV (zE (ji (K:=K) rfl) rfl zS yE (za (pv 0) (za (zcj rfl m_int zaR) zd))) (ZO (zi0 (zE (ji (K:=K) rfl) rfl zS yE (za (pv 0) (za (zcj rfl zeU ziN) zd)))))))),?_⟩;refine⟨_,rfl,_,_,_,_,rfl,TyOf.int i,ziZ K,_,rfl,iteT ?_⟩;exact⟨_,rfl,_,_,_,_,rfl,TyOf.int i,zjz K,_,rfl,q⟩
theorem zhs:bootBuiltins "all" = some (.builtin "all"):=by decide +kernel
theorem JR:∀ xs ys:List Nb,PyData.eqvAll (xs.map toD) (ys.map toD)=decide (xs=ys)
 | [],[]=>rfl
 | [],y::ys=>by simp [PyData.eqvAll]
 | x::xs,[]=>by simp [PyData.eqvAll]
 | x::xs,y::ys=>by
  show(PyData.eqv (toD x) (toD y) && PyData.eqvAll (xs.map toD) (ys.map toD))=_;rw [jH,JR xs ys]
  by_cases h:x=y
  ·by_cases h':xs=ys
   ·simp [h,h']
   ·simp [h,h']
  ·simp [h]
theorem zg9(xs ys:List Nb):PyData.eqv (rowD xs) (rowD ys)=decide (xs=ys):=JR xs ys
noncomputable def za5:Sp:=fun vs H Q _=>∃(k:Int)(x:Nb)(v:V),vs=[.int k,v]/\KindOk k/\x.ok k/\RN H x v/\Q (.bl true) H
theorem zff (D:Df K mg "_law_is_number" ["_law_prime_here", "_law_found"] xc) (xQ:Kn P w K mg base "_law_whole" 1 ["_law_found"] Qq) (jJ:Kn P w K mg base "_law_divisor" 1 ["_law_one", "_law_other"] zct) (zS:mg "isinstance" = none) (xC:mg "tuple" = none) (m_len:mg "len" = none):Kn P w K mg base "_law_is_number" 2 ["_law_prime_here", "_law_found"] za5:=by
 refine D.kn YB (fun vs H Q E h=>?_) (fun f cdv A outer s H vs Q E hr h=>?_)
 ·obtain⟨k,x,v,rfl,_⟩:=h; rfl
 obtain⟨k,x,v,rfl,hk,ox,rx,q⟩:=h;have kl:=hk.lt;refine⟨_,(zc (yj (zD qB (pv 0) ze (nomark _)) (zg (zp (JV (zt xQ (hr.mono (by decide)) rfl (za (pv 1) zd)) (ZO (zg8 zjV zfG ze (pv 1) (pv 0)))))) zK) (zc (yj (PW.pt (pw_or (jS (xZ (zE (ji (K:=K) rfl) rfl zS yE (za (pv 1) (za (zcj rfl xC Yb) zd))))) (pw_or (zD Xh (zE zO rfl m_len yk (za (pv 1) zd)) ze (nomark _)) (pw_or (jS (xZ (zt xQ (hr.mono (by decide)) rfl (za (zG zJ (pv 1) ze (fun _ _=>rfl)) zd)))) (pw_or1 (jS (xZ (zt xQ (hr.mono (by decide)) rfl (za (zG zJ (pv 1) ze (fun _ _=>rfl)) zd))))))))) (zg (zp ZP)) zK) (zg (zp (JV (yx qB (zG zJ (pv 1) ze (fun _ _=>rfl)) ze (nomark _)) (ZO (yx yI (zt jJ (hr.mono (by decide)) rfl (za (zG zJ (pv 1) ze (fun _ _=>rfl)) (za (zG zJ (pv 1) ze (fun _ _=>rfl)) zd))) ze (nomark _)))))))),?_⟩;cases x with
 | z i =>
  rw [rx.z];have k0:k≠0:=ox.1;refine⟨_,rfl,_,_,rfl,rfl,_,rfl,?_⟩;rw [decide_eq_true (show(0:Int)<k by omega)];refine iteT ?_;refine⟨_,rfl,i,rfl,_,rfl,iteT ?_⟩;refine⟨_,rfl,_,_,rfl,rfl,_,rfl,?_⟩;rw [decide_eq_true (show(0:Int)<=i from ox.2.1),if_pos rfl];refine⟨_,rfl,_,_,rfl,rfl,?_⟩;show Q (.bl (decide (i<k))) H;rw [decide_eq_true (show i<k from ox.2.2)];exact q
 | q r =>
  obtain⟨p,rfl,hp⟩:=rx.q;have k0:k=0:=ox;subst k0;refine⟨_,rfl,_,_,rfl,rfl,_,rfl,iteF ?_⟩;refine⟨_,rfl,_,_,_,_,rfl,TyOf.tup hp,zfn K,_,rfl,iteF ?_⟩;refine⟨_,rfl,p,_,rfl,.inr (SqT.of hp),rfl,_,rfl,iteF ?_⟩;refine⟨_,rfl,p,_,_,_,rfl,rfl,SqT.of hp,rfl,r.num,rfl,_,rfl,iteF ?_⟩;refine⟨_,rfl,p,_,_,_,rfl,rfl,SqT.of hp,rfl,(r.den:Int),rfl,_,rfl,iteF ?_⟩;refine⟨_,rfl,p,_,_,_,rfl,rfl,SqT.of hp,rfl,_,_,rfl,rfl,_,rfl,?_⟩;rw [decide_eq_true (show(0:Int) <(r.den:Int)from by have:=r.den_pos; omega)];refine iteT ?_;refine⟨_,rfl,p,_,_,_,rfl,rfl,SqT.of hp,rfl,_,rfl,p,_,_,_,rfl,rfl,SqT.of hp,rfl,r.num,(r.den:Int),rfl,rfl,?_⟩;have e:((ve r.num (r.den:Int):Nat):Int)=1:=by
   have:ve r.num (r.den:Int)=uD r.num.natAbs r.den:=rfl;rw [this,r.reduced]; rfl
  show Q (.bl (decide (V.int ((ve r.num (r.den:Int):Nat):Int)=V.int 1))) H;rw [e];exact q
noncomputable def zaT:Sp:=fun vs H Q _=>∃(k:Int)(xs:List Nb)(a:Addr)(m:Int),vs=[.int k,.ref a,.int m]/\KindOk k/\RowAt H xs a/\La.OkR k xs/\m =(xs.length:Int)/\Q (.bl true) H
theorem zeS (D:Df K mg "_law_is_row" ["_law_prime_here", "_law_found", "_law_many"] jf) (Xf:Kn P w K mg base "_law_is_number" 2 ["_law_prime_here", "_law_found"] za5) (zS:mg "isinstance" = none) (xA:mg "list" = none) (m_len:mg "len" = none):Kn P w K mg base "_law_is_row" 3 ["_law_prime_here", "_law_found", "_law_many"] zaT:=by
 refine D.kn sc__law_is_row (fun vs H Q E h=>?_) (fun f cdv A outer s H vs Q E hr h=>?_)
 ·obtain⟨k,xs,a,m,rfl,_⟩:=h; rfl
 obtain⟨k,xs,a,m,rfl,hk,hR,ox,em,q⟩:=h;obtain⟨us,hu,pu,lu⟩:=hR.len;refine⟨_,(zc (yj (PW.pt (pw_or (jS (xZ (zE (ji (K:=K) rfl) rfl zS yE (za (pv 1) (za (zcj rfl xA YH) zd))))) (pw_or1 (zD Xh (zE zO rfl m_len yk (za (pv 1) zd)) (pv 2) (nomark _))))) (zg (zp ZP)) zK) (zc (yA PassesOwn.never rfl (zI (pv 1)) (zi (i:=3) sc__law_is_row.nd rfl (.inl rfl)) (zg (yj (jS (xZ (zt Xf (hr.mono (by decide)) rfl (za (pv 0) (za (pv 3) zd))))) (zg (zp ZP)) zK))) (zg (zp ZP)))),?_⟩;refine⟨_,rfl,_,_,_,_,rfl,TyOf.lst hu,zhH K,_,rfl,iteF ?_⟩;refine⟨_,rfl,a,_,rfl,.inl (SqL.of hu),_,rfl,rfl,_,rfl,?_⟩;rw [lu,em,decide_eq_true rfl];refine iteF ?_;refine⟨_,rfl,a,rfl,⟨_,SqL.of hu⟩,?_⟩;refine xg (xs:=us) (fun j σ H2=>∃ o3,σ=[some (.int k),some (.ref a),some (.int (xs.length:Int)),o3]/\H2=H) ⟨_,rfl,rfl⟩ ?_ ?_ ?_
 ·rintro j σ H2 _ ⟨o3,rfl,rfl⟩
  exact SqL.of hu
 ·rintro j x σ H2 hx ⟨o3,rfl,rfl⟩
  obtain⟨n1,e1,r1⟩:=ye pu hx;exact⟨_,rfl,_,rfl,k,n1,x,rfl,hk,ox n1 (wc e1),r1,_,rfl,iteF ⟨_,rfl,rfl⟩⟩
 ·rintro σ H2 ⟨o3,rfl,rfl⟩
  exact q
noncomputable def Qn:Sp:=fun vs H Q _=>∃(k:Int)(M:List (List Nb))(t:Addr)(ras:List Addr)(m c:Int),vs=[.int k,.ref t,.int m,.int c]/\KindOk k/\TabAt H M t ras/\m =(M.length:Int)/\(∀ r∈M,(r.length:Int)=c/\La.OkR k r)/\M.length<sizeLine/\∀ H',Same H H'->Q (.bl true) H'
theorem Qt:∀ n,(wD n true).all id=true
 | 0=>rfl
 | n+1=>by rw [vC,wak,Qt n]; rfl
theorem zdO (D:Df K mg "_law_is_rows" ["_law_prime_here", "_law_found", "_law_rows", "_law_columns"] xL) (zal:Kn P w K mg base "_law_is_row" 3 ["_law_prime_here", "_law_found", "_law_many"] zaT) (zS:mg "isinstance" = none) (xA:mg "list" = none) (m_len:mg "len" = none) (m_all:mg "all" = none):Kn P w K mg base "_law_is_rows" 4 ["_law_prime_here", "_law_found", "_law_rows", "_law_columns"] Qn:=by
 refine D.kn Jk (fun vs H Q E h=>?_) (fun f cdv A outer s H vs Q E hr h=>?_)
 ·obtain⟨k,M,t,ras,m,c,rfl,_⟩:=h; rfl
 obtain⟨k,M,t,ras,m,c,rfl,hk,hT,em,oM,hz,q⟩:=h;have lt:=zk hT.2;refine⟨_,(zg (zp (JV (zE (ji (K:=K) rfl) rfl zS yE (za (pv 1) (za (zcj rfl xA YH) zd))) (JV (yx yI (zE zO rfl m_len yk (za (pv 1) zd)) (pv 2) (nomark _)) (ZO (zE (zby rfl) rfl m_all zhs (za (zN ["_law_row"] ["_law_prime_here", "_law_columns"] [0,3] ⟨rfl,rfl,rfl,rfl,rfl,rfl,by decide +kernel⟩ rfl (zI (pv 1)) (zj (by decide)) fun _ _ _ _ _ _=>⟨(zi (i:=0) (by decide:(["_law_row", "_law_prime_here", "_law_columns"]:List Str).Nodup) rfl (by first | exact Or.inl rfl | exact Or.inr rfl)),zL,(zt zal (hr.mono (by decide)) rfl (za (pv 1) (za (pv 0) (za (pv 2) zd))))⟩) zd))))))),?_⟩;refine⟨_,rfl,_,_,_,_,rfl,TyOf.lst hT.1,zhH K,_,rfl,iteT ?_⟩;refine⟨_,rfl,t,_,rfl,.inl (SqL.of hT.1),_,rfl,rfl,_,rfl,?_⟩;rw [wa,← lt,em,decide_eq_true rfl];refine iteT ?_;refine⟨_,rfl,t,rfl,⟨_,SqL.of hT.1⟩,?_⟩;refine zP (xs:=ras.map V.ref) (fun i ys H'=>Same H H'/\ys =(wD i true).map V.bl) ⟨Same.refl H,rfl⟩ ?_ ?_ ?_
 ·rintro i ys H' hi ⟨g,rfl⟩
  refine⟨SqL.of (g _ _ hT.1),?_⟩;rw [wa] at hi;rw [wa,wQ]; omega
 ·rintro i v ys H' hv hi ⟨g,rfl⟩
  obtain⟨row,a,hrow,ha,rfl,hR⟩:=(hT.mono g).row hv;have o:=oM row (wc hrow)
  first | refine gyes ?_ | refine tyes ?_
  refine⟨_,rfl,_,rfl,_,rfl,k,row,a,c,rfl,hk,hR,o.2,o.1.symm,nxt hi ⟨g,?_⟩⟩;rw [uk,ww]; rfl
 ·rintro ys H' ⟨g,rfl⟩ p hp
  refine⟨p,wD (ras.map V.ref).length true,rfl,zh,?_⟩;rw [Qt];exact q _ (g.trans (zf hp _))
theorem zil{H1:Hp}{xs:List Nb}{us:List V}{x:Nb}{v:V}{pt:Addr}(hp:H1 pt=some (.lst us))(pu:Paired (RN H1) xs us)(rx:RN H1 x v):Paired (RN (upd H1 pt (.lst (us++[v])))) (xs++[x]) (us++[v]) :=
 zZ (xR (fun _ _ r=>r.upd hp) pu) (rx.upd hp)
theorem Jv{k:Int}{a b:Nat}(hk:KindOk k)(l:List (Nb×Nb))(h:∀ p∈l,p.1.ok k/\p.2.ok k/\szk k a p.1/\szk k b p.2):∀ i,i<=l.length->szk k (i *(a+b+1)+1) (La.ndotF k (l.take i)):=by
 intro i
 induction i with
 | zero =>
  intro _ k0;subst k0;exact⟨(qr _),sm_one.mono (by omega)⟩
 | succ i ih =>
  intro hi;have hg:l[i]?=some l[i]:=wb hi;have hp:=h l[i] (wk hi);have hl:∀ q∈l.take i,_:=fun q hq=>h q (uT hq)
  rw [zw hg,La.YO];have o1:=La.Xp hk (l.take i) fun q hq=>⟨(hl q hq).1,(hl q hq).2.1⟩
  refine(zhn o1 (La.yM hk hp.1 hp.2.1) (ih (by omega)) (Zj hp.1 hp.2.1 hp.2.2.1 hp.2.2.2)).mono ?_;rw [uv];omega
noncomputable def Jn:Sp:=fun vs H Q _=>∃(k:Int)(A:List (List Nb))(x:List Nb)(n a0 b:Nat)(ta ax:Addr)(ra:List Addr),vs=[.int k,.ref ta,.ref ax]/\KindOk k/\TabAt H A ta ra/\RowAt H x ax/\La.OkM k n A/\x.length=n/\La.OkR k x/\(∀ r∈A,∀ y∈r,szk k a0 y)/\(∀ y∈x,szk k b y)/\a0+b<=5000000/\n<=10/\A.length<=10 /\
 ∀ p H',Same H H'->NewR H H' (imgM k A x) p->(∀ y∈imgM k A x,szk k (n *(a0+b+1)+1) y)->Q (.ref p) H'
theorem zfK (D:Df K mg "_law_image" ["_law_prime_here", "_law_table", "_law_column"] js) (zW:Kn P w K mg base "_law_make" 1 ["_law_prime_here", "_law_whole_here"] jh) (jl:Kn P w K mg base "_law_plus" 42 ["_law_prime_here", "_law_one", "_law_other"] (qV nadd)) (yn:Kn P w K mg base "_law_times" 42 ["_law_prime_here", "_law_one", "_law_other"] (qV nmul)) (zy:mg "range" = none) (m_len:mg "len" = none):Kn P w K mg base "_law_image" 43 ["_law_prime_here", "_law_table", "_law_column"] Jn:=by
 refine D.kn sc__law_image (fun vs H Q E h=>?_) (fun f cdv A' outer s H vs Q E hr h=>?_)
 ·obtain⟨k,A,x,n,a0,b,ta,ax,ra,rfl,_⟩:=h; rfl
 obtain⟨k,A,x,n,a0,b,ta,ax,ra,rfl,hk,hT,hX,oA,lx,ox,sA,sx,hb,n10,a10,q⟩:=h;have szl:sizeLine=16777216:=by decide
 have la:=zk hT.2;have szf:∀ r∈A,∀ i,szk k (n *(a0+b+1)+1) (La.ndotF k ((r.zip x).take i)):=fun r hr i=>by
  have lz:(r.zip x).length=n:=by rw [vI,(oA r hr).1,lx,gq]
  have hz:∀ p∈r.zip x,p.1.ok k/\p.2.ok k/\szk k a0 p.1/\szk k b p.2:=fun p hp=>⟨(oA r hr).2 _ (wR hp).1,ox _ (wR hp).2,sA r hr _ (wR hp).1,sx _ (wR hp).2⟩
  have up:∀ i,i<=n->i *(a0+b+1)+1<=n *(a0+b+1)+1:=fun i hi=>by
   have:=vm (a0+b+1) hi;omega
  rcases wa7 i n with h | h
  ·exact(Jv hk _ hz i (by omega)).mono (up i h)
  ·have:=Jv hk _ hz n (by omega);rw [wp (by omega)] at this ⊢;exact this.mono (up n (wu _))
 have big:n *(a0+b+1)+1<=60000000:=by
  have:n *(a0+b+1)<=10 *(a0+b+1):=vm _ n10;omega
 refine⟨_,(zc (zm (i:=3) sc__law_image.nd rfl (.inl rfl) (yF zd)) (zc (yA PassesOwn.never rfl (zI (pv 1)) (zi (i:=4) sc__law_image.nd rfl (.inl rfl)) (zc (zm (i:=5) sc__law_image.nd rfl (.inl rfl) (zt zW (hr.mono (by decide)) rfl (za (pv 0) (za ze zd)))) (zc (yA PassesOwn.never rfl (zM rfl zy (za (zE zO rfl m_len yk (za (pv 2) zd)) zd)) (zi (i:=6) sc__law_image.nd rfl (.inl rfl)) (zg (zm (i:=5) sc__law_image.nd rfl (.inl rfl) (zt jl (hr.mono (by decide)) rfl (za (pv 0) (za (pv 5) (za (zt yn (hr.mono (by decide)) rfl (za (pv 0) (za (zG zo (pv 4) (pv 6) (fun _ _=>rfl)) (za (zG zo (pv 2) (pv 6) (fun _ _=>rfl)) zd)))) zd))))))) (zg (xV (bm0 (fun _ h=>XG PySem.F.plainAttrs_list PySem.F.slot_list_append PySem.F.type_list_append xS h (za (pv 5) zd)) (pv 3))))))) (zg (zp (pv 3))))),?_⟩;refine⟨(by show 0<=sizeLine; decide),fun pt hpt=>?_⟩;have g0:=zf hpt (.lst []);have h0:upd H pt (.lst []) pt=some (.lst []):=zh;replace hT:=hT;refine⟨_,rfl,ta,rfl,⟨_,SqL.of (g0 _ _ hT.1)⟩,?_⟩;refine xg (xs:=ra.map V.ref) (fun i σ H'=>∃ us o4 o5 o6,σ=[some (.int k),some (.ref ta),some (.ref ax),some (.ref pt),o4,o5,o6]/\Same H H'/\H' pt=some (.lst us)/\Paired (RN H') ((imgM k A x).take i) us) ⟨[],none,none,none,rfl,g0,h0,.nil⟩ ?_ ?_ ?_
 ·rintro i σ H' _ ⟨us,o4,o5,o6,rfl,g,_⟩
  exact SqL.of (g _ _ hT.1)
 ·rintro i v σ H' hv ⟨us,o4,o5,o6,rfl,g,hp,pu⟩
  obtain⟨row,a,hrow,ha,rfl,hR⟩:=(hT.mono g).row hv;obtain⟨rs,hrs,prs,lrs⟩:=hR.len;obtain⟨xs,hxs,pxs,lxs⟩:=(hX.mono g).len;have hr':=wc hrow;have orow:=oA row hr';refine⟨_,rfl,k,0,rfl,hk,fun v0 H1 g1 r1=>?_⟩;refine⟨_,rfl,ax,_,rfl,.inl (SqL.of (g1 _ _ hxs)),_,rfl,(by omega),(by omega),?_⟩;have en:((xs.length:Int)).toNat=n:=by omega
  rw [en];refine yC (lo:=0) (n:=n) (fun j σ H2=>∃ w o6,σ=[some (.int k),some (.ref ta),some (.ref ax),some (.ref pt),some (.ref a),some w,o6]/\Same H' H2/\RN H2 (La.ndotF k ((row.zip x).take j)) w) ⟨v0,_,rfl,g1,r1⟩ ?_ ?_
  ·rintro j σ H2 hj ⟨w,o6,rfl,g2,rw2⟩
   have hj1:j<row.length:=by rw [orow.1]; exact hj
   have hj2:j<x.length:=by omega
   obtain⟨u1,e1,ru1⟩:=yi prs (wb hj1);obtain⟨u2,e2,ru2⟩:=yi pxs (wb hj2);have m1:=wk hj1;have m2:=wk hj2;have oo1:=orow.2 _ m1;have oo2:=ox _ m2;have on:=La.Xp hk ((row.zip x).take j) fun p hp=>by
    have hz:=uT hp;exact⟨orow.2 _ (wR hz).1,ox _ (wR hz).2⟩
   refine⟨_,rfl,_,rfl,_,rfl,_,rfl,_,rfl,a,_,_,_,rfl,rfl,SqL.of (g2 _ _ hrs),(by rw [wT]; exact zH e1),_,rfl,_,rfl,ax,_,_,_,rfl,rfl,SqL.of (g2 _ _ hxs),(by rw [wT]; exact zH e2),k,row[j],x[j],u1,u2,rfl,⟨hk,oo1,oo2,(sA row hr' _ m1).nsm hk oo1 (by omega) (by decide),(sx _ m2).nsm hk oo2 (by omega) (by decide),ru1.mono g2,ru2.mono g2⟩,fun v1 H3 g3 r3=>?_⟩;refine⟨k,_,_,w,v1,rfl,⟨hk,on,La.yM hk oo1 oo2,(szf row hr' j).nsm hk on (by omega) (by decide),(Zj oo1 oo2 (sA row hr' _ m1) (sx _ m2)).nsm hk (La.yM hk oo1 oo2) (by omega) (by decide),rw2.mono g3,r3⟩,fun v2 H4 g4 r4=>?_⟩;refine⟨v2,_,rfl,(g2.trans g3).trans g4,?_⟩;have ez:(row.zip x)[j]?=some (row[j],x[j]):=by rw [uQ]; exact⟨wb hj1,wb hj2⟩
   rw [zw ez,La.YO];exact r4
  ·rintro σ H2 ⟨w,o6,rfl,g2,rw2⟩
   have el:(row.zip x).take n=row.zip x:=wp (by rw [vI,orow.1,lx]; omega);rw [el] at rw2;have hp2:=g2 _ _ hp;have lus:=zk pu;rw [wv] at lus;have lim:(imgM k A x).length=A.length:=by unfold imgM; exact wa _
   refine⟨_,rfl,.inl ⟨rfl,_,SqL.of hp2⟩,_,rfl,pt,us,w,rfl,rfl,hp2,by omega,?_⟩;have ei:(imgM k A x)[i]?=some (La.ndot k row x):=by unfold imgM; rw [wg,hrow]; rfl
   refine⟨us++[w],_,_,_,rfl,yz (g.trans g2) hpt,zh,?_⟩;rw [zw ei];exact zil hp2 (jm g2 pu) rw2
 ·rintro σ H' ⟨us,o4,o5,o6,rfl,g,hp,pu⟩
  rw [wa,← la,wp (by unfold imgM; rw [wa]; exact wu _)] at pu;refine⟨_,rfl,q pt H' g ⟨⟨us,hp,pu⟩,hpt⟩ fun y hy=>?_⟩;unfold imgM at hy;obtain⟨r,hr,rfl⟩:=wj.mp hy;have:=szf r hr n;rw [wp (by rw [vI,(oA r hr).1,lx]; omega)] at this;exact this
theorem zcN{K:PySem.W.Frag}{g:TG}{tt:TT}{te:TE}{R:List V->Hp->Prop}{H:Hp}{σb:L2.St}{a:Addr}{xs:List V}(J:Nat->List V->Hp->Prop)(h0:J 0 [] H)(hl:∀(i:Nat)(ys:List V)(H':Hp),i<=xs.length->J i ys H'->SqT K H' a xs/\ys.length<sizeLine)
  (hs:∀(i:Nat)(x:V)(ys:List V)(H':Hp),xs[i]?=some x->i<xs.length->J i ys H'->g x σb H' fun σ2 H2=>tt σ2 H2 fun b H3=>if b=true then te σ2 H3 fun y H4=>Nxt xs.length i (J (i+1) (ys++[y]) H4)else Nxt xs.length i (J (i+1) ys H3))
  (hd:∀(ys:List V)(H':Hp),J xs.length ys H'->R ys H') :
  ∃ W:Nat->Nat->List V->Hp->Prop,(∃ m,W 0 m [] H)/\∀ i m ys H,W i m ys H ->
   ((Itt K a).stop i H/\ys.length<=sizeLine/\R ys H) \/
   ((Itt K a).go i H/\ys.length<sizeLine/\∀ x H',(Itt K a).yld i H x H'->g x σb H' fun σ2 H2=>tt σ2 H2 fun b H3=>if b=true then te σ2 H3 fun y H4=>∃ m',m'<m/\W (i+1) m' (ys++[y]) H4 else ∃ m',m'<m/\W (i+1) m' ys H3):=by
 refine⟨fun i m ys H=>m=xs.length - i/\i<=xs.length/\J i ys H,⟨xs.length,by simp,vz _,h0⟩,?_⟩
 rintro i m ys H1 ⟨rfl,hi,j⟩
 obtain⟨q,hz⟩:=hl i ys H1 hi j
 by_cases hlt:i<xs.length
 ·refine .inr ⟨⟨xs,xs[i],q,by simp [hlt]⟩,hz,fun x H' y=>?_⟩;obtain⟨e,y⟩:=y;subst e;exact hs i x ys _ (y xs q) hlt j
 ·have e:i=xs.length:=by omega
  subst e;exact .inl ⟨⟨xs,q,wu _⟩,ur hz,hd ys H1 j⟩
noncomputable def zdl:Sp:=fun vs H Q _=>∃(A B C:List (List Nb))(pm ta tb tc:Addr)(ra rb rc:List Addr),vs=[.ref pm]/\MachAt H A B C pm ta tb tc ra rb rc/\A.length<sizeLine/\B.length<sizeLine/\C.length<sizeLine /\
 ∀ pm' ta' tb' tc' ra' rb' rc' H',Same H H'->MachAt H' A B C pm' ta' tb' tc' ra' rb' rc'->Q (.ref pm') H'
theorem zg5 (D:Df K mg "_law_copy" ["_law_machine_here"] jU) (xC:mg "tuple" = none) (xA:mg "list" = none):Kn P w K mg base "_law_copy" 1 ["_law_machine_here"] zdl:=by
 refine D.kn zbE (fun vs H Q E h=>?_) (fun f cdv A' outer s H vs Q E hr h=>?_)
 ·obtain⟨A,B,C,pm,ta,tb,tc,ra,rb,rc,rfl,_⟩:=h; rfl
 obtain⟨A,B,C,pm,ta,tb,tc,ra,rb,rc,rfl,hM,zA,zB,zC,q⟩:=h;refine⟨_,(zg (zp (yX XT rfl xC Yb (za (zN ["_law_table"] [] [] ⟨rfl,rfl,rfl,rfl,rfl,rfl,by decide +kernel⟩ rfl (zh5 (pv 0)) (zj (by decide)) fun _ _ _ _ _ _=>⟨(zi (i:=0) (by decide:(["_law_table"]:List Str).Nodup) rfl (by first | exact Or.inl rfl | exact Or.inr rfl)),zL,(zN ["_law_row"] [] [] ⟨rfl,rfl,rfl,rfl,rfl,rfl,by decide +kernel⟩ rfl (zI (pv 0)) (zj (by decide)) fun _ _ _ _ _ _=>⟨(zi (i:=0) (by decide:(["_law_row"]:List Str).Nodup) rfl (by first | exact Or.inl rfl | exact Or.inr rfl)),zL,(yX Zk rfl xA YH (za (pv 0) zd))⟩)⟩) zd)))),?_⟩;refine⟨_,rfl,pm,rfl,⟨_,SqT.of hM.tup⟩,?_⟩;refine zcN (xs:=[.ref ta,.ref tb,.ref tc]) (fun i ys H'=>∃ ts rs,ys=ts.map V.ref/\GrowTs H H' ([A,B,C].take i) ts rs) ⟨[],[],rfl,GrowTs.nil (Same.refl H)⟩ ?_ ?_ ?_
 ·rintro i ys H' hi ⟨ts,rs,rfl,G⟩
  refine⟨SqT.of (G.same _ _ hM.tup),?_⟩;have:=G.lt;rw [wv] at this;rw [wa,this];exact ug (GN _ _) (by show 3<sizeLine; decide)
 ·rintro i v ys H' hv hi ⟨ts,rs,rfl,G⟩
  obtain⟨M,t,ras,eM,rfl,hT,hz⟩ : ∃ M t ras,[A,B,C][i]?=some M/\v=.ref t/\TabAt H' M t ras/\M.length<sizeLine:=by
   match i,hv with
   | 0,hv=>cases hv; exact⟨A,ta,ra,rfl,rfl,hM.a.mono G.same,zA⟩
   | 1,hv=>cases hv; exact⟨B,tb,rb,rfl,rfl,hM.b.mono G.same,zB⟩
   | 2,hv=>cases hv; exact⟨C,tc,rc,rfl,rfl,hM.c.mono G.same,zC⟩
  first | refine gyes ?_ | refine tyes ?_
  refine⟨_,rfl,t,rfl,⟨_,SqL.of hT.1⟩,?_⟩;refine Jf hT hz (fun a us H2 Q2 ha hq=>⟨_,rfl,a,us,rfl,.inl (SqL.of ha),hq⟩) ?_;intro ras2 H2 G2 p hp;have N:=G2.done hp;refine nxt hi ⟨ts++[p],rs++[ras2],by rw [ww]; rfl,?_⟩;rw [zw eM];exact G.push (G2.same.trans (zf hp _)) N
 ·rintro ys H' ⟨ts,rs,rfl,G⟩ p hp
  have G':GrowTs H H' [A,B,C] ts rs:=G;obtain⟨t1,t2,t3,rfl⟩ : ∃ t1 t2 t3,ts=[t1,t2,t3]:=by
   match ts,G'.lt with
   | [a,b,c],_=>exact⟨a,b,c,rfl⟩
  obtain⟨r1,r2,r3,rfl⟩ : ∃ r1 r2 r3,rs=[r1,r2,r3]:=by
   match rs,G'.lr with
   | [a,b,c],_=>exact⟨a,b,c,rfl⟩
  refine⟨p,_,rfl,.inl ⟨SqL.of zh,fun l hl=>?_⟩⟩;have g1:=zf hp (.lst ([t1,t2,t3].map V.ref));have g2:=zf hl (.tup ([t1,t2,t3].map V.ref));exact q l t1 t2 t3 r1 r2 r3 _ ((G'.same.trans g1).trans g2) ⟨zh,((G'.tabs 0 _ _ _ rfl rfl rfl).mono g1).mono g2,((G'.tabs 1 _ _ _ rfl rfl rfl).mono g1).mono g2,((G'.tabs 2 _ _ _ rfl rfl rfl).mono g1).mono g2⟩
theorem fermat:∀ p:Nat,p<99->primeB p=true->∀ x:Nat,x<p->0<x->x^(p - 2) % p*x % p=1:=by decide +kernel
theorem zgN(p t o l:Nat):(if l % 2=1 then t*o % p else t) *(o*o % p)^(l / 2) % p=t*o^l % p:=by
 have e:o^l =(o*o)^(l / 2)*o^(l % 2):=by
  rw [← wbf,← wac,← uu,GT]
 have h1:∀ a:Nat,a *(o*o % p)^(l / 2) % p=a *(o*o)^(l / 2) % p:=fun a=>by
  rw [Ge,← gD,← Ge]
 rw [h1,e]
 by_cases h:l % 2=1
 ·rw [if_pos h,h,wbg];rw [Ge (t*o % p),Nat.mod_mod,← Ge]
  congr 1
  rw [gy,uN o]
 ·rw [if_neg h,show l % 2=0 by omega,wax,gK]
noncomputable def zcW:Sp:=fun vs H Q _=>∃(k:Int)(x:Nb)(v:V),vs=[.int k,v]/\KindS k/\x.ok k/\x≠nnum k 0/\nsm 20000000 x/\RN H x v /\
 ∀ b v' H',Same H H'->RN H' b v'->b.ok k->nmul k b x=nnum k 1->(∀ m,szk k m x->szk k m b)->Q v' H'
theorem zgE (hP:P.given.tree=none) (hS:base.NoSeer) (D:Df K mg "_law_back" ["_law_prime_here", "_law_one"] qh) (yq:Kn P w K mg base "_law_fraction" 41 ["_law_top", "_law_bottom"] qJ):Kn P w K mg base "_law_back" 42 ["_law_prime_here", "_law_one"] zcW:=by
 refine D.kn sc__law_back (fun vs H Q E h=>?_) (fun f cdv A' outer s H vs Q E hr h=>?_)
 ·obtain⟨k,x,v,rfl,_⟩:=h; rfl
 obtain⟨k,x,v,rfl,hk,ox,ne,sx,rx,q⟩:=h;have kl:=hk.ok.lt;refine⟨_,(zc (yj (zD yI (pv 0) ze (nomark _)) (zg (zp (zt yq (hr.mono (by decide)) rfl (za (zq zX (zG zJ (pv 1) ze (fun _ _=>rfl)) (zG zJ (pv 1) ze (fun _ _=>rfl))) (za (zq zX (zG zJ (pv 1) ze (fun _ _=>rfl)) (zG zJ (pv 1) ze (fun _ _=>rfl))) zd))))) zK) (zc (zm (i:=2) sc__law_back.nd rfl (.inl rfl) ze) (zc (zm (i:=3) sc__law_back.nd rfl (.inl rfl) (zq qA (pv 0) ze)) (zc (qp PassesOwn.never (zD qB (pv 3) ze (nomark _)) (zc (yj (zD yI (zq zQ (pv 3) ze) ze (nomark _)) (zg (zm (i:=2) sc__law_back.nd rfl (.inl rfl) (zq zQ (zq zX (pv 2) (pv 1)) (pv 0)))) zK) (zc (zm (i:=1) sc__law_back.nd rfl (.inl rfl) (zq zQ (zq zX (pv 1) (pv 1)) (pv 0))) (zg (zm (i:=3) sc__law_back.nd rfl (.inl rfl) (zq (ya hr (by decide) hP hS ⟨_,_,rfl,rfl,rfl,rfl,rfl⟩) (pv 3) ze)))))) (zg (zp (pv 2))))))),?_⟩;cases x with
 | q r =>
  obtain⟨p,rfl,hp⟩:=rx.q;have k0:k=0:=ox;subst k0;have r0:r≠0:=fun e=>ne (by rw [e]; rfl)
  have n0:r.num≠0:=fun e=>r0 (waP.mp e)
  have sp:(0:Int)<r.num*r.num:=by
   have:=gi.mpr n0;rw [← Int.natAbs_mul_self' r.num];have h2:0 <(r.num.natAbs:Int):=by omega
   exact Gs h2 h2
  refine⟨_,rfl,rfl,_,rfl,iteT ?_⟩;refine⟨_,rfl,p,_,_,_,rfl,rfl,SqT.of hp,rfl,_,rfl,p,_,_,_,rfl,rfl,SqT.of hp,rfl,_,_,rfl,rfl,sx.2.mulOk sx.1 (by decide),_,rfl,p,_,_,_,rfl,rfl,SqT.of hp,rfl,_,rfl,p,_,_,_,rfl,rfl,SqT.of hp,rfl,_,_,rfl,rfl,sx.1.mulOk sx.1 (by decide),_,_,rfl,sp,fun p' H' g h=>?_⟩;have e:vF ((r.den:Int)*r.num) (r.num*r.num)=r⁻¹:=by
   rw [wbc,Rat.divInt_mul_right n0]
  rw [e] at h;refine q (.q r⁻¹) _ H' g (RN.of_q h) rfl ?_ fun m hm _=>?_
  ·show Nb.q (r⁻¹*r)=Nb.q _;rw [Rat.mul_comm,Rat.mul_inv_cancel r r0]; rfl
  ·have hs:=hm rfl;refine⟨?_,?_⟩
   ·show Sm m (r⁻¹).num;rw [Rat.num_inv];have hd:Sm m (r.den:Int):=hs.2;unfold Sm at hd ⊢;rw [vx];have:r.num.sign.natAbs=1:=by rw [Int.natAbs_sign_of_ne_zero n0]
    rw [this,um];exact hd
   ·show Sm m ((r⁻¹).den:Int);rw [Rat.den_inv,if_neg n0];have hn:Sm m r.num:=hs.1;unfold Sm at hn ⊢
    simpa using hn
 | z i =>
  rw [rx.z];have k0:k≠0:=ox.1;have hpr:PrS k:=by
   rcases hk with h | h
   ·exact absurd h k0
   ·exact h
  obtain⟨p,rfl⟩:=uW kl.1;obtain⟨x,rfl⟩:=uW ox.2.1;have plo:=hpr.lo;have phi:=hpr.hi;have x1:x<p:=by have:=ox.2.2; omega
  have x0:0<x:=by
   rcases Gr x with h | h
   ·exact absurd (by rw [h]; unfold nnum; rw [if_neg k0]; simp) ne
   ·exact h
  have fe:=fermat p (by omega) (by have:=hpr.pr; simpa using this) x x1 x0;refine⟨_,rfl,rfl,_,rfl,?_⟩;rw [decide_eq_false (fun e=>k0 (V.int.inj e))];refine iteF ?_;refine⟨_,rfl,_,_,rfl,rfl,?_⟩;refine⟨fun l σ H'=>∃(o t:Nat),σ=[some (.int (p:Int)),some (.int (o:Int)),some (.int (t:Int)),some (.int (l:Int))]/\H'=H/\o<p/\t<p/\t*o^l % p=x^(p - 2) % p,⟨p - 2,x,1,by rw [show((p - 2:Nat):Int) =(p:Int) - 2 by omega]; rfl,rfl,x1,by omega,by rw [um]⟩,?_⟩
  rintro l σ H' ⟨o,t,rfl,rfl,ho,ht,inv⟩
  refine⟨_,rfl,_,_,rfl,rfl,_,rfl,?_⟩;have modN:∀ a b:Nat,((a:Int) *(b:Int)).fmod (p:Int) =((a*b % p:Nat):Int):=fun a b=>by
   rw [uL _ (by omega),waN,uP]
  have p7:p<99:=by omega
  refine ite2 (fun c=>?_) (fun c=>?_)
  ·have l0:0<l:=by have:(0:Int) <(l:Int):=of_decide_eq_true c; omega
   refine⟨_,fun _ _ h=>h,?_⟩;have l2:((l:Int)).fmod 2 =((l % 2:Nat):Int):=by rw [uL _ (by decide),waN]; rfl
   have d2:((l:Int)).fdiv 2 =((l / 2:Nat):Int):=by rw [Gu _ (by decide),Int.natCast_ediv]; rfl
   have stp:=zgN p t o l;refine⟨_,rfl,_,_,rfl,rfl,(by show(2:Int)≠0; decide),rfl,_,rfl,?_⟩;rw [l2];refine ite2 (fun c2=>?_) (fun c2=>?_)
   ·have h2:l % 2=1:=by have:=V.int.inj (of_decide_eq_true c2); omega
    refine⟨_,rfl,_,rfl,_,_,rfl,rfl,xl (by omega) (by omega),_,rfl,_,_,rfl,rfl,(by show(p:Int)≠0; omega),?_⟩;refine⟨_,rfl,_,rfl,_,_,rfl,rfl,xl (by omega) (by omega),_,rfl,_,_,rfl,rfl,(by show(p:Int)≠0; omega),?_⟩;refine⟨_,rfl,_,_,rfl,rfl,(by show(2:Int)≠0; decide),?_⟩;rw [if_pos h2] at stp;refine⟨l / 2,waS l0 (by decide),o*o % p,t*o % p,?_,rfl,wap _ (by omega),wap _ (by omega),stp.trans inv⟩;show [some (V.int (p:Int)),some (V.int (((o:Int) *(o:Int)).fmod (p:Int))),some (V.int (((t:Int) *(o:Int)).fmod (p:Int))),some (V.int (((l:Int)).fdiv 2))]=_;rw [modN,modN,d2]
   ·have h2:¬ l % 2=1:=fun e=>c2 (by rw [e]; rfl)
    refine⟨_,rfl,_,rfl,_,_,rfl,rfl,xl (by omega) (by omega),_,rfl,_,_,rfl,rfl,(by show(p:Int)≠0; omega),?_⟩;refine⟨_,rfl,_,_,rfl,rfl,(by show(2:Int)≠0; decide),?_⟩;rw [if_neg h2] at stp;refine⟨l / 2,waS l0 (by decide),o*o % p,t,?_,rfl,wap _ (by omega),ht,stp.trans inv⟩;show [some (V.int (p:Int)),some (V.int (((o:Int) *(o:Int)).fmod (p:Int))),some (V.int (t:Int)),some (V.int (((l:Int)).fdiv 2))]=_;rw [modN,d2]
  ·have l0:l=0:=by
    have:¬(0:Int) <(l:Int):=of_decide_eq_false (uA.mpr c);omega
   subst l0;rw [wax,gK,GE ht] at inv;refine⟨_,rfl,q (.z (t:Int)) _ H' (Same.refl _) RN.of_z ⟨k0,by omega,by omega⟩ ?_ fun m _ e=>absurd e k0⟩;show Nb.z (((t:Int) *(x:Int)).fmod (p:Int))=nnum (p:Int) 1;rw [modN,inv,fe];unfold nnum;rw [if_neg k0];have:(1:Int).fmod (p:Int)=1:=by rw [uL _ (by omega)]; exact Int.emod_eq_of_lt (by decide) (by omega)
   rw [this]; rfl
theorem xX{k:Int}(hk:KindOk k){m n:Nat}{x:Nb}(o:x.ok k)(h:szk k m x)(hm:k=0->m<=n)(h7:61<=n):nsm n x:=by
 by_cases k0:k=0
 ·exact(h k0).mono (hm k0)
 ·exact(zav hk k0 o).mono h7
theorem zdm{K:PySem.W.Frag}{te:TE}{σb:L2.St}{t:Addr}{ras:List Addr}{M:List (List Nb)}{H:Hp}{R:List V->Hp->Prop}(f:List Nb->List Nb)(hT:TabAt H M t ras)(hz:M.length<sizeLine)
  (hte:∀(r:List Nb)(a:Addr)(H':Hp)(Q:VK),r∈M->Same H H'->RowAt H' r a->(∀(p:Addr)(us:List V)(H2:Hp),Same H' H2->H2 p=none->Paired (RN H2) (f r) us->Q (.ref p) (upd H2 p (.lst us)))->te (σb.set 0 (some (.ref a))) H' Q)
  (hd:∀(ras2:List Addr)(H':Hp),Grow H H' (M.map f) ras2->R (ras2.map V.ref) H') :
  ∃ W:Nat->Nat->List V->Hp->Prop,(∃ m,W 0 m [] H)/\∀ i m ys H,W i m ys H ->
   ((Itl K t).stop i H/\ys.length<=sizeLine/\R ys H) \/
   ((Itl K t).go i H/\ys.length<sizeLine/\∀ x H',(Itl K t).yld i H x H'->gName 0 x σb H' fun σ2 H2=>tTrue σ2 H2 fun b H3=>if b=true then te σ2 H3 fun y H4=>∃ m',m'<m/\W (i+1) m' (ys++[y]) H4 else ∃ m',m'<m/\W (i+1) m' ys H3):=by
 have hl:=zk hT.2;refine zP (xs:=ras.map V.ref) (fun i ys H'=>∃ ras2,ys=ras2.map V.ref/\Grow H H' ((M.map f).take i) ras2) ⟨[],rfl,Grow.nil H (Same.refl H)⟩ ?_ ?_ ?_
 ·rintro i ys H' hi ⟨ras2,rfl,G⟩
  refine⟨SqL.of (G.same _ _ hT.1),?_⟩;have:=zk G.rows;rw [wv,wa] at this;rw [wa]; omega
 ·rintro i v ys H' hv hi ⟨ras2,rfl,G⟩
  obtain⟨row,a,hrow,ha,rfl,hR⟩:=(hT.mono G.same).row hv;refine gyes (hte row a H' _ (wc hrow) G.same hR fun p us H2 g2 hp pu=>?_);refine nxt hi ⟨ras2++[p],by rw [ww]; rfl,?_⟩;have e:(M.map f)[i]?=some (f row):=by rw [wg,hrow]; rfl
  rw [zw e];exact(G.mono g2).snoc hp pu
 ·rintro ys H' ⟨ras2,rfl,G⟩
  rw [wa,← hl,wp (by rw [wa]; exact wu _)] at G;exact hd ras2 H' G
theorem zcd{α β:Type}{R S:α->β->Prop}:∀ {xs:List α} {ys:List β},(∀ x y,y∈ys->R x y->S x y)->Paired R xs ys->Paired S xs ys
 | _,_,_,.nil=>.nil
 | _,_,f,.cons r t=>.cons (f _ _ wm r) (zcd (fun x y hy=>f x y (wr _ hy)) t)
theorem zbd:∀(l:List Addr)(j:Nat),(l.map V.ref).eraseIdx j =(l.eraseIdx j).map V.ref
 | [],_=>rfl
 | _::_,0=>rfl
 | a::l,j+1=>congrArg (V.ref a::·) (zbd l j)
noncomputable def bdR(b c:Nat):Nat:=5^c *(b+1)
theorem Xq(b c:Nat):bdR b (c+1)=5*bdR b c:=by unfold bdR; rw [gm]; rw [uN (5^c) 5,gy]
theorem zef(b c:Nat):1<=bdR b c:=wbh (gf (by decide)) (by omega)
theorem ju(b:Nat){c d:Nat}(h:c<=d):bdR b c<=bdR b d:=vm _ (wZ (by decide) h)
theorem yL{r:List Nb}{c:Nat}{d x:Nb}(h:r[c]?=some x):r.getD c d=x:=by rw [we,h]; rfl
theorem zhV{k:Int}(hk:KindOk k){c B:Nat}{f r:List Nb}(of:La.OkR k f)(or:La.OkR k r)(hl:r.length=f.length)(hc:c<r.length)(sr:∀ x∈r,szk k B x)(sf:∀ x∈f,szk k (B+B) x):∀ x∈La.gjR k c f r,szk k (4*B+1) x:=by
 intro x hx;unfold La.gjR at hx;have ec:r.getD c (nnum k 0)=r[c]:=yL (wb hc);rw [ec] at hx;obtain⟨i,hi,e⟩:=wI hx;rw [uw] at e;rw [← e];have m1:=wk (l:=r) (n:=i) (by rw [wX] at hi; omega);have m2:=wk (l:=f) (n:=i) (by rw [wX] at hi; omega);have mc:=wk hc;exact(zgP (or _ m1) (La.yM hk (or _ mc) (of _ m2)) (sr _ m1) (Zj (or _ mc) (of _ m2) (sr _ mc) (sf _ m2))).mono (by omega)
noncomputable def qs:Sp:=fun vs H Q _=>∃(k:Int)(n b:Nat)(M:List (List Nb))(t:Addr)(ras:List Addr),vs=[.int k,.ref t]/\KindS k/\TabAt H M t ras/\La.OkM k n M/\(∀ r∈M,∀ x∈r,szk k b x)/\(k=0->n<=3)/\n<=10/\(k=0->bdR b (min n M.length)<=12500125)/\M.length<=1000 /\
 ∀(R:List (List Nb))(ls:List Nat)(t':Addr)(ras':List Addr)(H':Hp),Same H H'->TabAt H' R t' ras'->IsRa k n R ls->SameR k R M->(∀ r∈R,∀ x∈r,szk k (bdR b R.length) x)->Q (.ref t') H'
theorem zb1 (D:Df K mg "_law_reduced" ["_law_prime_here", "_law_rows"] xK) (zW:Kn P w K mg base "_law_make" 1 ["_law_prime_here", "_law_whole_here"] jh) (yn:Kn P w K mg base "_law_times" 42 ["_law_prime_here", "_law_one", "_law_other"] (qV nmul)) (xq:Kn P w K mg base "_law_minus" 43 ["_law_prime_here", "_law_one", "_law_other"] ZD) (zcv:Kn P w K mg base "_law_back" 42 ["_law_prime_here", "_law_one"] zcW) (xA:mg "list" = none) (m_len:mg "len" = none) (m_zip:mg "zip" = none):Kn P w K mg base "_law_reduced" 44 ["_law_prime_here", "_law_rows"] qs:=by
 refine D.kn sc__law_reduced (fun vs H Q E h=>?_) (fun f cdv A' outer s H vs Q E hr h=>?_)
 ·obtain⟨k,n,b,M,t,ras,rfl,_⟩:=h; rfl
 obtain⟨k,n,b,M,t,ras,rfl,hs,hT,oM,sM,n3,n10,b5,lM,q⟩:=h;have hk:=hs.ok;have szl:sizeLine=16777216:=by decide
 have z0:=La.zU hk 0;refine⟨_,(zc (zm (i:=2) sc__law_reduced.nd rfl (.inr rfl) (zt zW (hr.mono (by decide)) rfl (za (pv 0) (za ze zd)))) (zc (xY (i:=3) sc__law_reduced.nd rfl rfl ["_law_row"] [] [] ⟨rfl,rfl,rfl,rfl,rfl,rfl,by decide +kernel⟩ rfl (zI (pv 1)) (zj (by decide)) fun _ _ _ _ _ _=>⟨(zi (i:=0) (by decide:(["_law_row"]:List Str).Nodup) rfl (by first | exact Or.inl rfl | exact Or.inr rfl)),zL,(yX Zk rfl xA YH (za (pv 0) zd))⟩) (zc (zm (i:=4) sc__law_reduced.nd rfl (.inl rfl) (yF zd)) (zc (zm (i:=5) sc__law_reduced.nd rfl (.inr rfl) ze) (zc (qp PassesOwn.never (PW.pt (pw_and (zD qB (zE zO rfl m_len yk (za (pv 3) zd)) ze (nomark _)) (pw_and1 (zD zfG (pv 5) (zE zO rfl m_len yk (za (zG zo (pv 3) ze (fun _ _=>rfl)) zd)) (nomark _))))) (zc (xY (i:=6) sc__law_reduced.nd rfl rfl ["_law_row"] ["_law_at_here", "_law_nought"] [5,2] ⟨rfl,rfl,rfl,rfl,rfl,rfl,by decide +kernel⟩ rfl (zI (pv 3)) (zj (by decide)) fun _ _ _ _ _ _=>⟨(zi (i:=0) (by decide:(["_law_row", "_law_at_here", "_law_nought"]:List Str).Nodup) rfl (by first | exact Or.inl rfl | exact Or.inr rfl)),(qD (zD (Zs hr) (zG zo (pv 0) (pv 1) (fun _ _=>rfl)) (pv 2) (nomark _))),(pv 0)⟩) (zc (yj (zD qB (zE zO rfl m_len yk (za (pv 6) zd)) ze (nomark _)) (zc (zm (i:=7) sc__law_reduced.nd rfl (.inr rfl) (zG zo (pv 6) ze (fun _ _=>rfl))) (zc (xV (bm0 (fun _ h=>XG PySem.F.plainAttrs_list PySem.F.slot_list_remove PySem.F.type_list_remove (zf0 hr) h (za (pv 7) zd)) (pv 3))) (zc (zm (i:=8) sc__law_reduced.nd rfl (.inr rfl) (zt zcv (hr.mono (by decide)) rfl (za (pv 0) (za (zG zo (pv 7) (pv 5) (fun _ _=>rfl)) zd)))) (zc (zm (i:=7) sc__law_reduced.nd rfl (.inr rfl) (zN ["_law_one"] ["_law_prime_here", "_law_by"] [0,8] ⟨rfl,rfl,rfl,rfl,rfl,rfl,by decide +kernel⟩ rfl (zI (pv 7)) (zj (by decide)) fun _ _ _ _ _ _=>⟨(zi (i:=0) (by decide:(["_law_one", "_law_prime_here", "_law_by"]:List Str).Nodup) rfl (by first | exact Or.inl rfl | exact Or.inr rfl)),zL,(zt yn (hr.mono (by decide)) rfl (za (pv 1) (za (pv 2) (za (pv 0) zd))))⟩)) (zc (xY (i:=3) sc__law_reduced.nd rfl rfl ["_law_row"] ["_law_first", "_law_prime_here", "_law_at_here"] [7,0,5] ⟨rfl,rfl,rfl,rfl,rfl,rfl,by decide +kernel⟩ rfl (zI (pv 3)) (zj (by decide)) fun _ _ _ _ _ _=>⟨(zi (i:=0) (by decide:(["_law_row", "_law_first", "_law_prime_here", "_law_at_here"]:List Str).Nodup) rfl (by first | exact Or.inl rfl | exact Or.inr rfl)),zL,(zN ["_law_x", "_law_y"] ["_law_prime_here", "_law_row", "_law_at_here"] [2,0,3] ⟨rfl,rfl,rfl,rfl,rfl,rfl,by decide +kernel⟩ rfl (Ys rfl m_zip (za (pv 0) (za (pv 1) zd))) (Zc (yu (zj (by decide)) yv (yu (zj (by decide)) yv jM))) fun _ _ _ _ _ _=>⟨(jL 2 rfl (zT (zi (i:=0) (by decide:(["_law_x", "_law_y", "_law_prime_here", "_law_row", "_law_at_here"]:List Str).Nodup) rfl (by first | exact Or.inl rfl | exact Or.inr rfl)) (zT (zi (i:=1) (by decide:(["_law_x", "_law_y", "_law_prime_here", "_law_row", "_law_at_here"]:List Str).Nodup) rfl (by first | exact Or.inl rfl | exact Or.inr rfl)) xB))),zL,(zt xq (hr.mono (by decide)) rfl (za (pv 2) (za (pv 0) (za (zt yn (hr.mono (by decide)) rfl (za (pv 2) (za (zG zo (pv 3) (pv 4) (fun _ _=>rfl)) (za (pv 1) zd)))) zd))))⟩)⟩) (zc (xY (i:=4) sc__law_reduced.nd rfl rfl ["_law_row"] ["_law_first", "_law_prime_here", "_law_at_here"] [7,0,5] ⟨rfl,rfl,rfl,rfl,rfl,rfl,by decide +kernel⟩ rfl (zI (pv 4)) (zj (by decide)) fun _ _ _ _ _ _=>⟨(zi (i:=0) (by decide:(["_law_row", "_law_first", "_law_prime_here", "_law_at_here"]:List Str).Nodup) rfl (by first | exact Or.inl rfl | exact Or.inr rfl)),zL,(zN ["_law_x", "_law_y"] ["_law_prime_here", "_law_row", "_law_at_here"] [2,0,3] ⟨rfl,rfl,rfl,rfl,rfl,rfl,by decide +kernel⟩ rfl (Ys rfl m_zip (za (pv 0) (za (pv 1) zd))) (Zc (yu (zj (by decide)) yv (yu (zj (by decide)) yv jM))) fun _ _ _ _ _ _=>⟨(jL 2 rfl (zT (zi (i:=0) (by decide:(["_law_x", "_law_y", "_law_prime_here", "_law_row", "_law_at_here"]:List Str).Nodup) rfl (by first | exact Or.inl rfl | exact Or.inr rfl)) (zT (zi (i:=1) (by decide:(["_law_x", "_law_y", "_law_prime_here", "_law_row", "_law_at_here"]:List Str).Nodup) rfl (by first | exact Or.inl rfl | exact Or.inr rfl)) xB))),zL,(zt xq (hr.mono (by decide)) rfl (za (pv 2) (za (pv 0) (za (zt yn (hr.mono (by decide)) rfl (za (pv 2) (za (zG zo (pv 3) (pv 4) (fun _ _=>rfl)) (za (pv 1) zd)))) zd))))⟩)⟩) (zg (xV (bm0 (fun _ h=>XG PySem.F.plainAttrs_list PySem.F.slot_list_append PySem.F.type_list_append xS h (za (pv 7) zd)) (pv 4)))))))))) zK) (zg (zm (i:=5) sc__law_reduced.nd rfl (.inr rfl) (zq yZ (pv 5) ze)))))) (zg (zp (pv 4)))))))),?_⟩;refine⟨_,rfl,k,0,rfl,hk,fun v0 H1 g1 r0=>?_⟩;refine⟨_,rfl,t,rfl,⟨_,SqL.of (g1 _ _ hT.1)⟩,?_⟩;refine Jf (hT.mono g1) (by omega) (fun a us H2 Q2 ha hq=>⟨_,rfl,a,us,rfl,.inl (SqL.of ha),hq⟩) ?_;intro rl H2 G2 pl hpl;have N2:=G2.done hpl;have g2:=g1.trans (G2.same.trans (zf hpl (.lst (rl.map V.ref))));have r2:=r0.mono (G2.same.trans (zf hpl (.lst (rl.map V.ref))));generalize upd H2 pl (.lst (rl.map V.ref))=H3 at *;refine⟨(by show 0<=sizeLine; decide),fun pt hpt=>?_⟩;have g3:=zf hpt (.lst []);have hpt3:upd H3 pt (.lst []) pt=some (.lst []):=zh;have hL3:=N2.tab.mono g3;have npt:pl≠pt:=fun e=>by rw [← e,N2.tab.1] at hpt; cases hpt
 have nplr:pl∉rl:=N2.nt;have fpl:H pl=none:=g1.none N2.ft;have g30:=g2.trans g3;have r3:=r2.mono g3;generalize upd H3 pt (.lst [])=H4 at *;clear G2 hpl r0 r2 g3 hpt g2 N2;refine⟨fun m σ H'=>∃(c:Nat)(told left:List (List Nb))(ls:List Nat)(pl pt:Addr)(rl rt:List Addr)(o6 o7 o8:Option V),σ=[some (.int k),some (.ref t),some v0,some (.ref pl),some (.ref pt),some (.int (c:Int)),o6,o7,o8]/\Same H H'/\RN H' (nnum k 0) v0/\TabAt H' left pl rl/\TabAt H' told pt rt/\H pl=none/\pl∉rl/\pl∉rt/\pl≠pt/\c<=n/\left.length<=1000/\(told.length<=c/\told.length+left.length=M.length)/\(∀ r∈told,∀ x∈r,szk k (bdR b told.length) x)/\(∀ r∈left,∀ x∈r,szk k (bdR b told.length) x)/\(∀(F:Type) [Lean.Grind.Field F] (φ:La.Kf k F),La.Gj φ n c M told left ls)/\m=n - c,⟨_,0,[],M,[],pl,pt,rl,[],_,_,_,rfl,g30,r3,hL3,⟨hpt3,.nil⟩,fpl,nplr,(fun h=>nomatch h),npt,vz _,lM,⟨wu _,Gk _⟩,(fun _ h=>nomatch h),(fun r hr x hx=>(sM r hr x hx).mono (by show b<=bdR b 0; unfold bdR; omega)),(fun F _ φ=>La.Gj.start oM),rfl⟩,?_⟩;clear hpt3 hL3 npt nplr g30 r3 g1 sM lM
 rintro m σ H' ⟨c,told,left,ls,pl,pt,rl,rt,o6,o7,o8,rfl,g,r0,hL,hD,fpl,nlr,nlt,nlp,cn,ll,⟨lt,lML⟩,sD,sL,G,rfl⟩
 have lrl:=zk hL.2;have lrt:=zk hD.2;have exit:(left=[]\/n<=c)->Q (.ref pt) H':=fun h =>
  q told ls pt rt H' g hD (fun F _ φ=>((G F φ).done h).1) (fun F _ φ=>((G F φ).done h).2) sD
 refine⟨_,rfl,pl,_,rfl,.inl (SqL.of hL.1),_,_,rfl,rfl,_,rfl,?_⟩;rw [wa,← lrl]
 rcases Gr left.length with l0 | l0
 ·have e:left=[]:=ue l0;rw [l0];refine iteF ?_;refine iteF ?_;exact⟨_,rfl,exit (.inl e)⟩
 rw [decide_eq_true (show(0:Int) <(left.length:Int) by omega)];refine iteT ?_;have hl0:left[0]?=some left[0]:=wb l0;obtain⟨a0,ea0,ra0⟩:=yi hL.2 hl0;obtain⟨us0,hu0,pu0,lu0⟩:=ra0.len;have okl:=(show La.OkM k n left from by obtain⟨F,_,_,⟨φ⟩⟩:=La.yf hk; exact(G F φ).okl);have okt:=(show La.OkM k n told from by obtain⟨F,_,_,⟨φ⟩⟩:=La.yf hk; exact(G F φ).okt);have w0:=(okl _ (wk l0)).1;refine⟨_,rfl,_,rfl,pl,_,_,.ref a0,rfl,rfl,SqL.of hL.1,zH (j:=0) (by rw [wg,ea0]; rfl),a0,_,rfl,.inl (SqL.of hu0),_,_,rfl,rfl,_,rfl,?_⟩;rw [lu0,w0]
 rcases wN c n with hc | hc
 rotate_left
 ·rw [decide_eq_false (show ¬(c:Int) <(n:Int) by omega)];refine iteF ?_;exact⟨_,rfl,exit (.inr hc)⟩
 rw [decide_eq_true (show(c:Int) <(n:Int) by omega)];refine iteT ?_;clear exit pu0 hu0 lu0 us0 ra0 ea0 w0 hl0;refine⟨_,fun _ _ h=>h,?_⟩;have bd2:k=0->bdR b told.length<=2500025:=fun e=>by
  have h1:=b5 e;have h2:=ju b (show told.length+1<=min n M.length by omega);rw [Xq] at h2;omega
 have bd1:=zef b told.length;refine⟨_,rfl,pl,rfl,⟨_,SqL.of hL.1⟩,?_⟩;refine zP (xs:=rl.map V.ref) (fun i ys H2=>H2=H'/\ys.length<=i/\((ys=[]/\∀(m:Nat)(r:List Nb),m<i->left[m]?=some r->r.getD c (nnum k 0)=nnum k 0)\/∃(j:Nat)(r:List Nb)(a:Addr)(rest:List V),left[j]?=some r/\rl[j]?=some a/\r.getD c (nnum k 0)≠nnum k 0/\(∀(m:Nat)(r':List Nb),m<j->left[m]?=some r'->r'.getD c (nnum k 0)=nnum k 0)/\ys=.ref a::rest)) ⟨rfl,wu _,.inl ⟨rfl,fun _ _ h=>absurd h (vH _)⟩⟩ ?_ ?_ ?_
 ·rintro i ys H2 hi ⟨rfl,hy,_⟩
  rw [wa] at hi;exact⟨SqL.of hL.1,by omega⟩
 ·rintro i v ys H2 hv hi ⟨rfl,hy,hJ⟩
  obtain⟨row,a,hrow,ha,rfl,hR⟩:=hL.row hv;obtain⟨us,hu,pu,lu⟩:=hR.len;have orow:=okl row (wc hrow);have hcr:c<row.length:=by rw [orow.1]; exact hc
  have ec:row[c]?=some row[c]:=wb hcr;obtain⟨u,eu,ru⟩:=yi pu ec;refine⟨_,rfl,_,rfl,a,_,_,_,rfl,rfl,SqL.of hu,zH eu,_,rfl,toD row[c],toD (nnum k 0),ru,r0,yN _,yN _,wF (vD _ _) (wF (xt _) (by decide)),_,rfl,?_⟩;rw [jH]
  by_cases hz:row[c]=nnum k 0
  ·rw [decide_eq_true hz];refine iteF (nxt hi ⟨rfl,by omega,?_⟩)
   rcases hJ with⟨e,hJ⟩ | hJ
   ·refine .inl ⟨e,fun m r hm hr=>?_⟩
    rcases vO (ud hm)with h | h
    ·exact hJ m r h hr
    ·rw [h,hrow] at hr;cases hr;rw [yL ec]; exact hz
   ·exact .inr hJ
  ·rw [decide_eq_false hz];refine iteT ⟨_,rfl,nxt hi ⟨rfl,by rw [wx]; show ys.length+1<=i+1; omega,.inr ?_⟩⟩
   rcases hJ with⟨e,hJ⟩ | ⟨j,r,a',rest,h1,h2,h3,h4,e⟩
   ·exact⟨i,row,a,[],hrow,ha,by rw [yL ec]; exact hz,fun m r' hm hr=>hJ m r' hm hr,by rw [e]; rfl⟩
   ·exact⟨j,r,a',rest++[.ref a],h1,h2,h3,h4,by rw [e]; rfl⟩
 rintro ys H2 ⟨rfl,hy,hJ⟩ ps hps
 rw [wa] at hy;have g4:=zf hps (.lst ys);have hps4:upd H2 ps (.lst ys) ps=some (.lst ys):=zh;have ga:=g.trans g4;have r4:=r0.mono g4;have hL4:=hL.mono g4;have hD4:=hD.mono g4;generalize upd H2 ps (.lst ys)=H5 at *;clear hps g4 hL hD r0 g;refine⟨_,rfl,ps,_,rfl,.inl (SqL.of hps4),_,_,rfl,rfl,_,rfl,?_⟩
 rcases hJ with⟨e,hJ⟩ | ⟨j,p,a,rest,hp,ha,hne,hbef,e⟩
 ·subst e;refine iteF ?_;refine⟨_,rfl,_,_,rfl,rfl,?_⟩;refine⟨n - (c+1),by omega,c+1,told,left,ls,pl,pt,rl,rt,_,_,_,rfl,ga,r4,hL4,hD4,fpl,nlr,nlt,nlp,hc,ll,⟨by omega,lML⟩,sD,sL,(fun F _ φ=>(G F φ).skip fun r hr=>?_),rfl⟩;obtain⟨i,hi,er⟩:=wI hr;have:=hJ i r (by rw [wa]; omega) (by rw [wb hi,er]);show φ.to (r.getD c (nnum k 0))=0;rw [this];exact(φ.zero_iff hk z0).mpr rfl
 subst e;rw [decide_eq_true (show(0:Int) <((V.ref a::rest).length:Int) by rw [vK]; omega)];refine iteT ?_;have hjl:j<left.length:=(wo.mp hp).1;have pm:=wc hp;have op:=okl p pm;have hra:RowAt H5 p a:=ja hL4.2 hp ha;obtain⟨ua,hua,pua,lua⟩:=hra.len;have hcp:c<p.length:=by rw [op.1]; exact hc
 have ecp:p[c]?=some p[c]:=wb hcp;have hne':p[c]≠nnum k 0:=by rw [yL ecp] at hne; exact hne
 have oc:=op.2 _ (wk hcp);refine⟨_,rfl,ps,_,_,.ref a,rfl,rfl,SqL.of hps4,zH (j:=0) rfl,?_⟩;refine⟨_,rfl,.inl ⟨rfl,_,SqL.of hL4.1⟩,_,rfl,pl,_,.ref a,j,rowD p,rfl,rfl,hL4.1,(by rw [wa]; omega),hra.rp,zab p,wF (JZ p) (by decide),(fun m z hm hz=>?_),?_⟩
 ·rw [wg] at hz;obtain⟨a',ha',rfl⟩:=wU.mp hz;obtain⟨r',er',rr'⟩:=ye hL4.2 ha';refine⟨rowD r',rr'.rp,zab r',?_⟩;rw [zg9]
  rcases vO hm with h | h
  ·have hz':=hbef m r' h er';rw [decide_eq_false (fun e=>hne (by rw [← e]; exact hz')),decide_eq_false (by omega)]
  ·subst h;rw [hp] at er';cases er';rw [decide_eq_true rfl,decide_eq_true rfl]
 have em:(rl.map V.ref).eraseIdx j =(rl.eraseIdx j).map V.ref:=zbd rl j;rw [em];have hTe:TabAt (upd H5 pl (.lst ((rl.eraseIdx j).map V.ref))) (left.eraseIdx j) pl (rl.eraseIdx j):=⟨zh,zcS (zcd (fun x y hy r=>r.upd (fun e=>nlr (by rw [← e]; exact hy)) hL4.1) hL4.2) j⟩;have hDe:=hD4.upd (zs':=(rl.eraseIdx j).map V.ref) (Ne.symm nlp) nlt hL4.1;have hae:RowAt (upd H5 pl (.lst ((rl.eraseIdx j).map V.ref))) p a:=hra.upd (fun e=>nlr (by rw [← e]; exact wc ha)) hL4.1;have gE:Same H (upd H5 pl (.lst ((rl.eraseIdx j).map V.ref))):=yz ga fpl;have rE:=r4.upd (zs':=(rl.eraseIdx j).map V.ref) hL4.1;generalize upd H5 pl (.lst ((rl.eraseIdx j).map V.ref))=HE at *;clear hL4 hD4 hra hua pua lua r4 ga hps4 ua em;obtain⟨ua,hua,pua,lua⟩:=hae.len;obtain⟨u,eu,ru⟩:=yi pua ecp;refine⟨_,rfl,_,rfl,_,rfl,a,_,_,_,rfl,rfl,SqL.of hua,zH eu,k,p[c],u,rfl,hs,oc,hne',xX hk oc (sL p pm _ (wk hcp)) (fun e=>by have:=bd2 e; omega) (by decide),ru,fun bb vb H6 g6 rb ob eb sb=>?_⟩;have sbb:=sb _ (sL p pm _ (wk hcp));have hua6:=g6 _ _ hua;have pua6:=jm g6 pua;refine⟨_,rfl,a,rfl,⟨_,SqL.of hua6⟩,?_⟩;refine zP (xs:=ua) (fun i ys H7=>Same H6 H7/\Paired (RN H7) ((p.map (nmul k bb)).take i) ys) ⟨Same.refl H6,.nil⟩ ?_ ?_ ?_
 ·rintro i ys H7 hi ⟨g7,pr⟩
  refine⟨SqL.of (g7 _ _ hua6),?_⟩;have:=zk pr;rw [wv,wa] at this;omega
 ·rintro i v ys H7 hv hi ⟨g7,pr⟩
  obtain⟨nx,ex,rx⟩:=ye pua6 hv;have ox:=op.2 _ (wc ex)
  first | refine gyes ?_ | refine tyes ?_
  refine⟨_,rfl,_,rfl,_,rfl,k,bb,nx,vb,v,rfl,⟨hk,ob,ox,xX hk ob sbb (fun e=>by have:=bd2 e; omega) (by decide),xX hk ox (sL p pm _ (wc ex)) (fun e=>by have:=bd2 e; omega) (by decide),rb.mono g7,rx.mono g7⟩,fun v8 H8 g8 r8=>nxt hi ⟨g7.trans g8,?_⟩⟩;have e:(p.map (nmul k bb))[i]?=some (nmul k bb nx):=by rw [wg,ex]; rfl
  rw [zw e];exact zZ (jm g8 pr) r8
 rintro ys H7 ⟨g7,pr⟩ af haf
 rw [show ua.length =(p.map (nmul k bb)).length by rw [wa,lua],vo] at pr;have g8:=zf haf (.lst ys);have hF:RowAt (upd H7 af (.lst ys)) (p.map (nmul k bb)) af:=⟨ys,zh,jm g8 pr⟩;have gF:=(g6.trans g7).trans g8;generalize upd H7 af (.lst ys)=HF at *;have turn:∀(F:Type) [Lean.Grind.Field F] (φ:La.Kf k F),La.Gj φ n (c+1) M (told.map (La.gjR k c (p.map (nmul k bb)))++[p.map (nmul k bb)]) ((left.eraseIdx j).map (La.gjR k c (p.map (nmul k bb)))) (ls++[c]):=fun F _ φ=>by
  refine(G F φ).turn hk hc hp ob ?_;show φ.to bb*φ.to (p.getD c (nnum k 0))=1;rw [yL ecp,← φ.mul ob oc,eb,φ.num];exact La.ι_one
 have lf:(p.map (nmul k bb)).length=n:=by rw [wa]; exact op.1
 have of':La.OkR k (p.map (nmul k bb)):=fun x hx=>by
  obtain⟨y,hy,rfl⟩:=wj.mp hx;exact La.yM hk ob (op.2 y hy)
 have sf:∀ x∈p.map (nmul k bb),szk k (bdR b told.length+bdR b told.length) x:=fun x hx=>by
  obtain⟨y,hy,rfl⟩:=wj.mp hx;exact Zj ob (op.2 y hy) sbb (sL p pm y hy)
 generalize p.map (nmul k bb)=f at *;have hTf:=hTe.mono gF;have hDf:=hDe.mono gF;have gHF:=gE.trans gF;have rF:=rE.mono gF;clear hTe hDe hae gE rE g6 g7 g8 pr haf gF hua hua6 pua pua6 ru eu rb;have oke:∀ r∈left.eraseIdx j,r∈left:=fun r hr=>(Gf (l:=left) j).subset hr
 have lle:(left.eraseIdx j).length<=left.length:=(Gf (l:=left) j).length_le;refine⟨_,rfl,pl,rfl,⟨_,SqL.of hTf.1⟩,?_⟩;refine zdm (La.gjR k c f) hTf (by omega) ?_ ?_
 ·have OKX:∀ r∈left.eraseIdx j,r.length=n/\La.OkR k r:=fun r hr=>okl r (oke r hr)
  have SZX:∀ r∈left.eraseIdx j,∀ x∈r,szk k (bdR b told.length) x:=fun r hr=>sL r (oke r hr)
  have GX:∀ {H8:Hp},Same HF H8->Same HF H8:=fun h=>h
  intro r a' H8 Q8 hr8 gs hR8 hq8;have orr:=OKX r hr8;have srr:=SZX r hr8;obtain⟨us,hu,pu,lu⟩:=hR8.len;obtain⟨uf,huf,puf,luf⟩:=(hF.mono (GX gs)).len;have hcr:c<r.length:=by rw [orr.1]; exact hc
  obtain⟨uc,euc,ruc⟩:=yi pu (wb hcr);have occ:=orr.2 _ (wk hcr);refine⟨_,rfl,_,rfl,a',af,us,uf,rfl,SqL.of hu,SqL.of huf,?_⟩;refine Zb (xs:=us) (zs:=uf) (by rw [lu,luf,orr.1,lf]) (fun i ys' H9=>Same H8 H9/\Paired (RN H9) ((La.gjR k c f r).take i) ys') ⟨Same.refl H8,.nil⟩ ?_ ?_ ?_
  ·rintro i ys' H9 hi ⟨g9,pr⟩
   refine⟨SqL.of (g9 _ _ hu),SqL.of (g9 _ _ huf),?_⟩;have:=zk pr;rw [wv] at this;rw [lu,orr.1] at hi;omega
  ·rintro i x z T ys' H9 hx hz hi hT9 ⟨g9,pr⟩
   obtain⟨nx,ex,rx⟩:=ye pu hx;obtain⟨nz,ez,rz⟩:=ye puf hz;have ox:=orr.2 _ (wc ex);have oz:=of' _ (wc ez);have sx:=srr _ (wc ex);have sz:=sf _ (wc ez);have gT:=g9.trans (zf hT9 (.tup [x,z]));refine⟨T,_,rfl,SqT.of zh,rfl,_,_,rfl,_,_,rfl,rfl,?_⟩;have gN:=zf hT9 (.tup [x,z]);generalize upd H9 T (.tup [x,z])=H10 at *
   first | refine gyes ?_ | refine tyes ?_
   refine⟨_,rfl,_,rfl,_,rfl,_,rfl,_,rfl,a',_,_,_,rfl,rfl,SqL.of (gT _ _ hu),zH euc,_,rfl,k,r[c],nz,uc,z,rfl,⟨hk,occ,oz,xX hk occ (srr _ (wk hcr)) (fun e=>by have:=bd2 e; omega) (by decide),xX hk oz sz (fun e=>by have:=bd2 e; omega) (by decide),ruc.mono gT,rz.mono gT⟩,fun v11 H11 g11 r11=>?_⟩;have omm:=La.yM hk occ oz;refine⟨k,nx,_,x,v11,rfl,hk,ox,omm,xX hk ox sx (fun e=>by have:=bd2 e; omega) (by decide),xX hk omm (Zj occ oz (srr _ (wk hcr)) sz) (fun e=>by have:=bd2 e; omega) (by decide),(rx.mono gT).mono g11,r11,fun v12 H12 g12 r12=>nxt hi ⟨(gT.trans g11).trans g12,?_⟩⟩;have e:(La.gjR k c f r)[i]?=some (nsub k nx (nmul k r[c] nz)):=by
    unfold La.gjR;rw [vJ,ex,ez];show some (nsub k nx (nmul k (r.getD c (nnum k 0)) nz))=_;rw [yL (wb hcr)]
   rw [zw e];exact zZ (jm (gN.trans (g11.trans g12)) pr) r12
  ·rintro ys' H9 ⟨g9,pr⟩ p9 hp9
   have lg:(La.gjR k c f r).length=us.length:=by unfold La.gjR; rw [wX,lu,orr.1,lf,gq]
   rw [← lg,vo] at pr;exact hq8 p9 ys' H9 g9 hp9 pr
 intro rl2 HG GG pl2 hpl2;have NG:=GG.done hpl2;have gG:=GG.same.trans (zf hpl2 (.lst (rl2.map V.ref)));have fpl2:H pl2=none:=gHF.none (GG.same.none hpl2);have naf2:pl2≠af:=fun e=>by
  obtain⟨uf,huf,_⟩:=(hF.mono GG.same).len;rw [← e,hpl2] at huf; cases huf
 generalize upd HG pl2 (.lst (rl2.map V.ref))=HH at *;have hF2:=hF.mono gG;refine⟨_,rfl,pt,rfl,⟨_,SqL.of (gG _ _ hDf.1)⟩,?_⟩;refine zdm (La.gjR k c f) (hDf.mono gG) (by omega) ?_ ?_
 ·have OKX:∀ r∈told,r.length=n/\La.OkR k r:=okt;have SZX:∀ r∈told,∀ x∈r,szk k (bdR b told.length) x:=sD;have GX:∀ {H8:Hp},Same HH H8->Same HF H8:=fun h=>gG.trans h
  intro r a' H8 Q8 hr8 gs hR8 hq8;have orr:=OKX r hr8;have srr:=SZX r hr8;obtain⟨us,hu,pu,lu⟩:=hR8.len;obtain⟨uf,huf,puf,luf⟩:=(hF.mono (GX gs)).len;have hcr:c<r.length:=by rw [orr.1]; exact hc
  obtain⟨uc,euc,ruc⟩:=yi pu (wb hcr);have occ:=orr.2 _ (wk hcr);refine⟨_,rfl,_,rfl,a',af,us,uf,rfl,SqL.of hu,SqL.of huf,?_⟩;refine Zb (xs:=us) (zs:=uf) (by rw [lu,luf,orr.1,lf]) (fun i ys' H9=>Same H8 H9/\Paired (RN H9) ((La.gjR k c f r).take i) ys') ⟨Same.refl H8,.nil⟩ ?_ ?_ ?_
  ·rintro i ys' H9 hi ⟨g9,pr⟩
   refine⟨SqL.of (g9 _ _ hu),SqL.of (g9 _ _ huf),?_⟩;have:=zk pr;rw [wv] at this;rw [lu,orr.1] at hi;omega
  ·rintro i x z T ys' H9 hx hz hi hT9 ⟨g9,pr⟩
   obtain⟨nx,ex,rx⟩:=ye pu hx;obtain⟨nz,ez,rz⟩:=ye puf hz;have ox:=orr.2 _ (wc ex);have oz:=of' _ (wc ez);have sx:=srr _ (wc ex);have sz:=sf _ (wc ez);have gT:=g9.trans (zf hT9 (.tup [x,z]));refine⟨T,_,rfl,SqT.of zh,rfl,_,_,rfl,_,_,rfl,rfl,?_⟩;have gN:=zf hT9 (.tup [x,z]);generalize upd H9 T (.tup [x,z])=H10 at *
   first | refine gyes ?_ | refine tyes ?_
   refine⟨_,rfl,_,rfl,_,rfl,_,rfl,_,rfl,a',_,_,_,rfl,rfl,SqL.of (gT _ _ hu),zH euc,_,rfl,k,r[c],nz,uc,z,rfl,⟨hk,occ,oz,xX hk occ (srr _ (wk hcr)) (fun e=>by have:=bd2 e; omega) (by decide),xX hk oz sz (fun e=>by have:=bd2 e; omega) (by decide),ruc.mono gT,rz.mono gT⟩,fun v11 H11 g11 r11=>?_⟩;have omm:=La.yM hk occ oz;refine⟨k,nx,_,x,v11,rfl,hk,ox,omm,xX hk ox sx (fun e=>by have:=bd2 e; omega) (by decide),xX hk omm (Zj occ oz (srr _ (wk hcr)) sz) (fun e=>by have:=bd2 e; omega) (by decide),(rx.mono gT).mono g11,r11,fun v12 H12 g12 r12=>nxt hi ⟨(gT.trans g11).trans g12,?_⟩⟩;have e:(La.gjR k c f r)[i]?=some (nsub k nx (nmul k r[c] nz)):=by
    unfold La.gjR;rw [vJ,ex,ez];show some (nsub k nx (nmul k (r.getD c (nnum k 0)) nz))=_;rw [yL (wb hcr)]
   rw [zw e];exact zZ (jm (gN.trans (g11.trans g12)) pr) r12
  ·rintro ys' H9 ⟨g9,pr⟩ p9 hp9
   have lg:(La.gjR k c f r).length=us.length:=by unfold La.gjR; rw [wX,lu,orr.1,lf,gq]
   rw [← lg,vo] at pr;exact hq8 p9 ys' H9 g9 hp9 pr
 intro rt2 HI GI pt2 hpt2;have NI:=GI.done hpt2;have gI:=GI.same.trans (zf hpt2 (.lst (rt2.map V.ref)));have hL2:=NG.tab.mono GI.same;have hFI:=hF2.mono GI.same;have npt2:pl2≠pt2:=fun e=>by
  have:=hL2.1;rw [e,hpt2] at this; cases this
 have nrl2:pt2∉rl2:=fun h=>by
  obtain⟨i,hi,ei⟩:=wI h;obtain⟨r,_,rr⟩:=ye hL2.2 (wb hi);obtain⟨us,hus,_⟩:=rr.len;rw [ei,hpt2] at hus; cases hus
 have nplt2:pl2∉rt2:=fun h=>by
  have:=NI.fr pl2 h;rw [NG.tab.1] at this; cases this
 have nafp:af≠pt2:=fun e=>by
  obtain⟨uf,huf,_⟩:=hFI.len;rw [e,hpt2] at huf; cases huf
 have gHI:=(gHF.trans gG).trans gI;have rI:=(rF.mono gG).mono gI;have hL3:=NG.tab.mono gI;have hF3:=hF2.mono gI;have fpt2:H pt2=none:=(gHF.trans gG).none (GI.same.none hpt2);generalize upd HI pt2 (.lst (rt2.map V.ref))=HJ at *;have lr2:=zk NI.tab.2;rw [wa] at lr2;refine⟨_,rfl,.inl ⟨rfl,_,SqL.of NI.tab.1⟩,_,rfl,pt2,_,.ref af,rfl,rfl,NI.tab.1,(by rw [wa]; omega),?_⟩;refine⟨_,rfl,_,_,rfl,rfl,?_⟩;refine⟨n - (c+1),by omega,c+1,told.map (La.gjR k c f)++[f],(left.eraseIdx j).map (La.gjR k c f),ls++[c],pl2,pt2,rl2,rt2++[af],_,_,_,rfl,yz gHI fpt2,rI.upd NI.tab.1,hL3.upd npt2 nrl2 NI.tab.1,⟨by rw [zh,ww]; rfl,zZ (zcd (fun x y hy r=>r.upd (fun e=>NI.nt (by rw [← e]; exact hy)) NI.tab.1) NI.tab.2) (hF3.upd nafp NI.tab.1)⟩,fpl2,NG.nt,?_,npt2,hc,by rw [wa]; omega,⟨by rw [wx,wa]; show told.length+1<=c+1; omega,by rw [wx,wa,wa,List.length_eraseIdx_of_lt (wo.mp hp).1]; show told.length+1 +(left.length - 1)=M.length; omega⟩,?_,?_,turn,rfl⟩
 ·intro h
  rcases wq.mp h with h | h
  ·exact nplt2 h
  ·exact naf2 (wt.mp h)
 ·rw [show(told.map (La.gjR k c f)++[f]).length=told.length+1 by rw [wx,wa]; rfl];intro r hr x hx
  rcases wq.mp hr with h | h
  ·obtain⟨r',hr',rfl⟩:=wj.mp h;have o:=okt r' hr';exact(zhV hk of' o.2 (by rw [o.1,lf]) (by rw [o.1]; exact hc) (sD r' hr') sf x hx).mono (by rw [Xq]; omega)
  ·rw [wt.mp h] at hx;exact(sf x hx).mono (by rw [Xq]; omega)
 ·rw [show(told.map (La.gjR k c f)++[f]).length=told.length+1 by rw [wx,wa]; rfl];intro r hr x hx;obtain⟨r',hr',rfl⟩:=wj.mp hr;have o:=okl r' (oke r' hr');exact(zhV hk of' o.2 (by rw [o.1,lf]) (by rw [o.1]; exact hc) (sL r' (oke r' hr')) sf x hx).mono (by rw [Xq]; omega)
theorem zbo{K:PySem.W.Frag}{te:TE}{σb:L2.St}{t:Addr}{ras:List Addr}{M:List (List Nb)}{H:Hp}{R:List V->Hp->Prop}(f:List Nb->List Nb)(hT:TabAt H M t ras)(hz:M.length<sizeLine)
  (hte:∀(r:List Nb)(a:Addr)(H':Hp)(Q:VK),r∈M->Same H H'->RowAt H' r a->(∀(p:Addr)(H2:Hp),Same H' H2->NewR H' H2 (f r) p->Q (.ref p) H2)->te (σb.set 0 (some (.ref a))) H' Q)
  (hd:∀(ras2:List Addr)(H':Hp),Grow H H' (M.map f) ras2->R (ras2.map V.ref) H') :
  ∃ W:Nat->Nat->List V->Hp->Prop,(∃ m,W 0 m [] H)/\∀ i m ys H,W i m ys H ->
   ((Itl K t).stop i H/\ys.length<=sizeLine/\R ys H) \/
   ((Itl K t).go i H/\ys.length<sizeLine/\∀ x H',(Itl K t).yld i H x H'->gName 0 x σb H' fun σ2 H2=>tTrue σ2 H2 fun b H3=>if b=true then te σ2 H3 fun y H4=>∃ m',m'<m/\W (i+1) m' (ys++[y]) H4 else ∃ m',m'<m/\W (i+1) m' ys H3):=by
 have hl:=zk hT.2;refine zP (xs:=ras.map V.ref) (fun i ys H'=>∃ ras2,ys=ras2.map V.ref/\Grow H H' ((M.map f).take i) ras2) ⟨[],rfl,Grow.nil H (Same.refl H)⟩ ?_ ?_ ?_
 ·rintro i ys H' hi ⟨ras2,rfl,G⟩
  refine⟨SqL.of (G.same _ _ hT.1),?_⟩;have:=zk G.rows;rw [wv,wa] at this;rw [wa]; omega
 ·rintro i v ys H' hv hi ⟨ras2,rfl,G⟩
  obtain⟨row,a,hrow,ha,rfl,hR⟩:=(hT.mono G.same).row hv;refine gyes (hte row a H' _ (wc hrow) G.same hR fun p H2 g2 nr=>?_);refine nxt hi ⟨ras2++[p],by rw [ww]; rfl,?_⟩;have e:(M.map f)[i]?=some (f row):=by rw [wg,hrow]; rfl
  rw [zw e];exact G.snocR g2 nr.row nr.fa
 ·rintro ys H' ⟨ras2,rfl,G⟩
  rw [wa,← hl,wp (by rw [wa]; exact wu _)] at G;exact hd ras2 H' G
noncomputable def tbf:Nat->Nat
 | 0=>80
 | 1=>484
 | 2=>1696
 | _=>5332
theorem zdr:∀ i,tbf i<=5332
 | 0=>by decide
 | 1=>by decide
 | 2=>by decide
 | _+3=>wu _
theorem zc4:∀ i,tbf i<=tbf (i+1)
 | 0=>by decide
 | 1=>by decide
 | 2=>by decide
 | _+3=>wu _
theorem zda{n:Nat}(hn:n<=3):∀ i,i<=2->n *(tbf i+81)+1<=tbf (i+1)
 | 0,_=>by show n*161+1<=484; omega
 | 1,_=>by show n*565+1<=1696; omega
 | 2,_=>by show n*1777+1<=5332; omega
 | _+3,h=>by omega
theorem zb8{k:Int}{A B:List (List Nb)}{b:List Nb}(hb:b∈B):∀(t j:Nat),j<=t->powX k A b j∈La.kry k A B t
 | 0,0,_=>hb
 | 0,j+1,h=>by omega
 | t+1,0,_=>wE _ hb
 | t+1,j+1,h=>wy _ (wj.mpr ⟨powX k A b j,zb8 hb t j (by omega),rfl⟩)
theorem zjM{k:Int}{c:Nat}{M N:List (List Nb)}:transp M.length ((transp c N).map (imgM k M))=prodM k c M N:=by
 refine Gc (by rw [zV]; unfold prodM; rw [wa]) fun j h1 h2=>?_
 rw [zV] at h1;have e1:=jP (M:=(transp c N).map (imgM k M)) h1;have e2:(prodM k c M N)[j]?=some ((transp c N).map fun col=>La.ndot k M[j] col):=by unfold prodM; rw [wg,wb h1]; rfl
 rw [wb (by rw [zV]; exact h1)] at e1;rw [wb h2] at e2;rw [Option.some.inj e1,Option.some.inj e2,vV];refine uq fun col _=>?_
 show(imgM k M col).getD j (.z 0)=_;rw [we];unfold imgM;rw [wg,wb h1]; rfl
theorem ze9{k:Int}(hk:KindOk k){x y:List Nb}(ox:La.OkR k x)(oy:La.OkR k y)(h:x.length=y.length):La.ndot k x y=La.ndot k y x:=by
 obtain⟨F,_,_,⟨φ⟩⟩:=La.yf hk;refine φ.inj (La.xv hk ox oy) (La.xv hk oy ox) ?_;rw [La.xU φ hk ox oy h,La.xU φ hk oy ox h.symm,h,La.ym]
theorem zhk{k:Int}(hk:KindOk k){n:Nat}{M A:List (List Nb)}(oM:La.OkM k n M)(oA:La.OkM k n A)(lA:A.length=n):prodM k n M A=M.map (imgM k (transp n A)):=by
 unfold prodM imgM;refine uq fun r hr=>uq fun col hc=>?_
 have oc:=yG oA col hc;exact ze9 hk (oM r hr).2 oc.2 (by rw [(oM r hr).1,oc.1,lA])
noncomputable def qb:Sp:=fun vs H Q _=>∃(k:Int)(M N:List (List Nb))(b c a0 b0:Nat)(tM tN:Addr)(rM rN:List Addr),vs=[.int k,.ref tM,.ref tN]/\KindOk k/\TabAt H M tM rM/\TabAt H N tN rN/\La.OkM k b M/\La.OkM k c N/\N.length=b/\(∀ r∈M,∀ y∈r,szk k a0 y)/\(∀ r∈N,∀ y∈r,szk k b0 y)/\a0+b0<=5000000/\1<=b/\b<=10/\1<=c/\c<=10/\M.length<=10 /\
 ∀ t rs H',Same H H'->NewT H H' (prodM k c M N) t rs->Q (.ref t) H'
theorem zb6 (D:Df K mg "_law_product" ["_law_prime_here", "_law_one", "_law_other"] xE) (yT:Kn P w K mg base "_law_across" 1 ["_law_table"] xO) (qM:Kn P w K mg base "_law_image" 43 ["_law_prime_here", "_law_table", "_law_column"] Jn):Kn P w K mg base "_law_product" 44 ["_law_prime_here", "_law_one", "_law_other"] qb:=by
 refine D.kn XY (fun vs H Q E h=>?_) (fun f cdv A' outer s H vs Q E hr h=>?_)
 ·obtain⟨k,M,N,b,c,a0,b0,tM,tN,rM,rN,rfl,_⟩:=h; rfl
 obtain⟨k,M,N,b,c,a0,b0,tM,tN,rM,rN,rfl,hk,hM,hN,oM,oN,lN,sM,sN,ab,b1,b10,c1,c10,r10,q⟩:=h;have szl:sizeLine=16777216:=by decide
 refine⟨_,(zg (zp (zt yT (hr.mono (by decide)) rfl (za (zN ["_law_column"] ["_law_prime_here", "_law_one"] [0,1] ⟨rfl,rfl,rfl,rfl,rfl,rfl,by decide +kernel⟩ rfl (zI (zt yT (hr.mono (by decide)) rfl (za (pv 2) zd))) (zj (by decide)) fun _ _ _ _ _ _=>⟨(zi (i:=0) (by decide:(["_law_column", "_law_prime_here", "_law_one"]:List Str).Nodup) rfl (by first | exact Or.inl rfl | exact Or.inr rfl)),zL,(zt qM (hr.mono (by decide)) rfl (za (pv 1) (za (pv 2) (za (pv 0) zd))))⟩) zd)))),?_⟩;have nN:N≠[]:=fun e=>by rw [e] at lN; simp at lN; omega
 refine⟨_,rfl,N,c,tN,rN,rfl,hN,nN,(fun r hr=>(oN r hr).1),by omega,by omega,fun t1 r1 H1 g1 n1=>?_⟩;have oT:=yG oN;have sT:∀ r∈transp c N,∀ y∈r,szk k b0 y:=fun r hr y hy=>by
  unfold transp at hr;obtain⟨j,hj,rfl⟩:=wj.mp hr;obtain⟨x,hx,rfl⟩:=wj.mp hy;have hl:=(oN x hx).1;rw [vp] at hj;rw [we,wb (by omega)];exact sN x hx _ (wk _)
 refine⟨t1,rfl,⟨_,SqL.of n1.tab.1⟩,?_⟩;refine zbo (imgM k M) n1.tab (by rw [zV]; omega) ?_ ?_
 ·intro r a H4 Q4 hr4 g4 hR4 hq4;have orr:=oT r hr4;exact⟨_,rfl,_,rfl,_,rfl,k,M,r,b,a0,b0,tM,a,rM,rfl,hk,(hM.mono g1).mono g4,hR4,oM,orr.1.trans lN,orr.2,sM,sT r hr4,wF ab (by decide),b10,r10,fun p H5 g5 nr _=>hq4 p H5 g5 nr⟩
 intro rt2 H4 G4 p4 hp4;have N4:=G4.done hp4;have g4:=G4.same.trans (zf hp4 (.lst (rt2.map V.ref)));generalize upd H4 p4 (.lst (rt2.map V.ref))=H5 at *;have len:∀ r∈(transp c N).map (imgM k M),r.length=M.length:=fun r hr=>by
  obtain⟨x,_,rfl⟩:=wj.mp hr;unfold imgM; exact wa _
 refine⟨(transp c N).map (imgM k M),M.length,p4,rt2,rfl,N4.tab,(fun e=>by have:=congrArg Ga e; rw [wa,zV] at this; simp at this; omega),len,by omega,by rw [wa,zV]; omega,fun t rs H6 g6 n6=>?_⟩;rw [zjM] at n6;have g:=g1.trans g4;exact q t rs H6 (g.trans g6) ⟨n6.tab,g.none n6.ft,fun r hr=>g.none (n6.fr r hr),n6.nd,n6.nt⟩
noncomputable def JT:Sp:=fun vs H Q _=>∃(k:Int)(A B C:List (List Nb))(n h s:Nat)(pm ta tb tc:Addr)(ra rb rc:List Addr),vs=[.int k,.ref pm,.int (n:Int)]/\KindOk k/\MachAt H A B C pm ta tb tc ra rb rc/\Fit k n/\MOk k n h s 80 A B C/\1<=s/\s<=10 /\
 ∀ S ps rs H',Same H H'->TabAt H' S ps rs->La.OkM k n S->(∀ r∈S,∀ x∈r,szk k 5332 x)->S.length<=100->SameR k S (La.kry k (transp n A) C n)->Q (.ref ps) H'
theorem zdx (D:Df K mg "_law_sights" ["_law_prime_here", "_law_machine_here", "_law_many"] jb) (yp:Kn P w K mg base "_law_product" 44 ["_law_prime_here", "_law_one", "_law_other"] qb) (xA:mg "list" = none) (zy:mg "range" = none):Kn P w K mg base "_law_sights" 45 ["_law_prime_here", "_law_machine_here", "_law_many"] JT:=by
 refine D.kn sc__law_sights (fun vs H Q E h=>?_) (fun f cdv A' outer s' H vs Q E hr h=>?_)
 ·obtain⟨k,A,B,C,n,h,s,pm,ta,tb,tc,ra,rb,rc,rfl,_⟩:=h; rfl
 obtain⟨k,A,B,C,n,h,s,pm,ta,tb,tc,ra,rb,rc,rfl,hk,hM,hf,oM,s1,s10,q⟩:=h;have szl:sizeLine=16777216:=by decide
 have n10:=hf.n10;have n1:=hf.1;have lC:=oM.c.len;have lA:=oM.a.len;have oAt:=XM oM.a;have n3:k=0->n<=3:=fun e=>by
  rcases hf.2 with h | h
  ·exact h
  ·exact absurd e h.1
 refine⟨_,(zc (zm (i:=3) sc__law_sights.nd rfl (.inl rfl) (yF zd)) (zc (xY (i:=4) sc__law_sights.nd rfl rfl ["_law_row"] [] [] ⟨rfl,rfl,rfl,rfl,rfl,rfl,by decide +kernel⟩ rfl (zI (zG zJ (pv 1) ze (fun _ _=>rfl))) (zj (by decide)) fun _ _ _ _ _ _=>⟨(zi (i:=0) (by decide:(["_law_row"]:List Str).Nodup) rfl (by first | exact Or.inl rfl | exact Or.inr rfl)),zL,(yX Zk rfl xA YH (za (pv 0) zd))⟩) (zc (yA PassesOwn.never rfl (zM rfl zy (za (pv 2) zd)) (zi (i:=5) sc__law_sights.nd rfl (.inl rfl)) (zc (zm (i:=3) sc__law_sights.nd rfl (.inl rfl) (zq Zr (pv 3) (pv 4))) (zg (zm (i:=4) sc__law_sights.nd rfl (.inl rfl) (zt yp (hr.mono (by decide)) rfl (za (pv 0) (za (pv 4) (za (zG zJ (pv 1) ze (fun _ _=>rfl)) zd)))))))) (zg (zp (pv 3)))))),?_⟩;refine⟨(by show 0<=sizeLine; decide),fun p0 hp0=>?_⟩;have g0:=zf hp0 (.lst []);have h0:upd H p0 (.lst []) p0=some (.lst []):=zh;generalize upd H p0 (.lst [])=H0 at *;have hM0:=hM.mono g0;refine⟨_,rfl,pm,_,_,_,rfl,rfl,SqT.of hM0.tup,rfl,tc,rfl,⟨_,SqL.of hM0.c.1⟩,?_⟩;refine Jf hM0.c (by omega) (fun a us H2 Q2 ha hq=>⟨_,rfl,a,us,rfl,.inl (SqL.of ha),hq⟩) ?_;intro r1 H1' G1 t1 ht1;have n1':=G1.done ht1;have g1:=G1.same.trans (zf ht1 (.lst (r1.map V.ref)));generalize upd H1' t1 (.lst (r1.map V.ref))=H1 at *;have sz0:∀ r∈C,∀ x∈r,szk k 80 x:=fun r hr x hx _=>oM.c.sz r hr x hx
 have sA:∀ r∈A,∀ x∈r,szk k 80 x:=fun r hr x hx _=>oM.a.sz r hr x hx
 have sAt:∀ r∈transp n A,∀ x∈r,szk k 80 x:=fun r hr x hx _=>oAt.sz r hr x hx
 refine⟨_,rfl,n,rfl,by omega,by omega,?_⟩;have en:((n:Int)).toNat=n:=by omega
 rw [en];refine yC (lo:=0) (n:=n) (fun i σ H'=>∃(S:List (List Nb))(ps pt:Addr)(rs rt:List Addr)(o7:Option V),σ=[some (.int k),some (.ref pm),some (.int (n:Int)),some (.ref ps),some (.ref pt),o7]/\Same H H'/\TabAt H' S ps rs/\TabAt H' ((C).map fun b=>powX k (transp n A) b i) pt rt/\(∀ r,r∈S↔∃ b∈C,∃ j,j<i/\r=powX k (transp n A) b j)/\S.length=i*s/\(∀ r∈S,∀ x∈r,szk k (tbf i) x)/\(∀ r∈(C).map fun b=>powX k (transp n A) b i,∀ x∈r,szk k (tbf i) x)/\La.OkM k n S/\La.OkM k n ((C).map fun b=>powX k (transp n A) b i)) ⟨[],p0,t1,[],r1,none,rfl,g0.trans g1,⟨g1 _ _ h0,.nil⟩,(by rw [show((C).map fun b=>powX k (transp n A) b 0)=C from gX _]; exact n1'.tab),(fun r=>⟨(fun h=>nomatch h),fun⟨_,_,j,hj,_⟩=>absurd hj (vH _)⟩),(by rw [GQ]; rfl),(fun _ h=>nomatch h),(by rw [show((C).map fun b=>powX k (transp n A) b 0)=C from gX _]; exact sz0),(fun _ h=>nomatch h),(by rw [show((C).map fun b=>powX k (transp n A) b 0)=C from gX _]; exact oM.c.ok)⟩ ?_ ?_
 ·rintro i σ H2 hi ⟨S,ps,pt,rs,rt,o7,rfl,g,hS,hT,eS,lS,sS,sT,oS,oT⟩
  have lrs:=zk hS.2;have lrt:=zk hT.2;rw [wa,lC] at lrt;have ih:i*s<=10*10:=vt (by omega) s10;refine⟨_,rfl,_,rfl,ps,pt,_,_,rfl,rfl,hS.1,hT.1,(by rw [wa,wa]; omega),fun p2 hp2=>?_⟩;have g2:=zf hp2 (.lst (rs.map V.ref++rt.map V.ref));have hS2:TabAt (upd H2 p2 (.lst (rs.map V.ref++rt.map V.ref))) (S ++(C).map fun b=>powX k (transp n A) b i) p2 (rs++rt):=⟨by rw [zh,ww],xR (fun _ _ r=>r.mono g2) (qG hS.2 hT.2)⟩;have hT2:=hT.mono g2;have gg:=g.trans g2;generalize upd H2 p2 (.lst (rs.map V.ref++rt.map V.ref))=H3 at *;have hM3:=hM.mono gg;have tl:=zdr i;refine⟨_,rfl,_,rfl,_,rfl,pm,_,_,_,rfl,rfl,SqT.of hM3.tup,rfl,k,C.map (fun b=>powX k (transp n A) b i),A,n,n,tbf i,80,pt,ta,rt,ra,rfl,hk,hT2,hM3.a,oT,oM.a.ok,lA,sT,sA,by omega,n1,n10,n1,n10,by rw [wa]; omega,fun p4 rt2 H4 g4 N4=>?_⟩;rw [zhk hk oT oM.a.ok lA] at N4;have em:((C).map fun b=>powX k (transp n A) b i).map (imgM k (transp n A)) =(C).map fun b=>powX k (transp n A) b (i+1):=by rw [vV]; rfl
  rw [em] at N4;have oN:La.OkM k n ((C).map fun b=>powX k (transp n A) b (i+1)):=by
   rw [← em];intro r hr;obtain⟨x,hx,rfl⟩:=wj.mp hr;have:=La.Yt hk oAt.ok (oT x hx).2;exact⟨this.1.trans oAt.len,this.2⟩
  refine⟨S ++(C).map fun b=>powX k (transp n A) b i,p2,p4,rs++rt,rt2,_,rfl,gg.trans g4,hS2.mono g4,N4.tab,fun r=>⟨fun hr=>?_,fun⟨b,hb,j,hj,e⟩=>?_⟩,by rw [wx,wa,lC,lS,uv,um],fun r hr x hx=>?_,fun r hr x hx k0=>?_,fun r hr=>?_,oN⟩
  ·rcases wq.mp hr with h' | h'
   ·obtain⟨b,hb,j,hj,e⟩:=(eS r).mp h';exact⟨b,hb,j,by omega,e⟩
   ·obtain⟨b,hb,rfl⟩:=wj.mp h';exact⟨b,hb,i,by omega,rfl⟩
  ·rcases vO (ud hj)with h' | h'
   ·exact wE _ ((eS r).mpr ⟨b,hb,j,h',e⟩)
   ·rw [e,h']; exact wy _ (wj.mpr ⟨b,hb,rfl⟩)
  ·rcases wq.mp hr with h' | h'
   ·exact(sS r h' x hx).mono (zc4 i)
   ·exact(sT r h' x hx).mono (zc4 i)
  ·rw [← em] at hr;obtain⟨y,hy,rfl⟩:=wj.mp hr;unfold imgM at hx;obtain⟨r',hr',rfl⟩:=wj.mp hx;have oy:=oT y hy;have or':=oAt.ok r' hr';have:=Jv (a:=80) (b:=tbf i) hk (r'.zip y) (fun pq hp=>⟨or'.2 _ (wR hp).1,oy.2 _ (wR hp).2,sAt r' hr' _ (wR hp).1,sT y hy _ (wR hp).2⟩) (r'.zip y).length (wu _);rw [vo] at this;refine(this.mono ?_) k0;have lz:(r'.zip y).length=n:=by rw [vI,or'.1,oy.1,gq]
   rw [lz,show 80+tbf i+1=tbf i+81 by omega];exact zda (n3 k0) i (by have:=n3 k0; omega)
  ·rcases wq.mp hr with h' | h'
   ·exact oS r h'
   ·exact oT r h'
 ·rintro σ H2 ⟨S,ps,pt,rs,rt,o7,rfl,g,hS,hT,eS,lS,sS,sT,oS,oT⟩
  have ih:n*s<=10*10:=vt n10 s10;have tl:=zdr n;refine⟨_,rfl,q S ps rs H2 g hS oS (fun r hr x hx=>(sS r hr x hx).mono tl) (by omega) fun F _ φ v=>?_⟩;have e1:La.Rm φ S v↔La.Rm φ (La.kry k (transp n A) C (n - 1)) v:=by
   constructor
   ·refine fun hv=>hv.mono fun u ⟨r,hr,e⟩=>⟨r,?_,e⟩
    obtain⟨b,hb,j,hj,rfl⟩:=(eS r).mp hr;exact zb8 hb (n - 1) j (by omega)
   ·refine fun hv=>hv.mono fun u ⟨r,hr,e⟩=>⟨r,?_,e⟩
    obtain⟨b,hb,j,hj,e'⟩:=XN (n - 1) r hr;exact(eS r).mpr ⟨b,hb,j,by omega,e'⟩
  rw [e1]
  constructor
  ·intro hv;have:=La.qj hk oAt.ok oAt.len oM.c.ok (n - 1) v hv;rw [show n - 1+1=n by omega] at this;exact this
  ·exact La.QD hk oAt.ok oAt.len oM.c.ok n1 v
noncomputable def XU:Sp:=fun vs H Q _=>∃(k:Int)(A B C:List (List Nb))(n h s:Nat)(pm ta tb tc:Addr)(ra rb rc:List Addr),vs=[.int k,.ref pm]/\KindS k/\MachAt H A B C pm ta tb tc ra rb rc/\Fit k n/\MOk k n h s 80 A B C/\h<=100 /\
 ∀ R ls t rs H',Same H H'->TabAt H' R t rs->IsRa k n R ls->SameR k R (La.kry k A (transp h B) n)->Q (.ref t) H'
theorem zch (D:Df K mg "_law_steered" ["_law_prime_here", "_law_machine_here"] xJ) (yT:Kn P w K mg base "_law_across" 1 ["_law_table"] xO) (qM:Kn P w K mg base "_law_image" 43 ["_law_prime_here", "_law_table", "_law_column"] Jn) (yw:Kn P w K mg base "_law_reduced" 44 ["_law_prime_here", "_law_rows"] qs) (zy:mg "range" = none) (m_len:mg "len" = none):Kn P w K mg base "_law_steered" 45 ["_law_prime_here", "_law_machine_here"] XU:=by
 refine D.kn sc__law_steered (fun vs H Q E h=>?_) (fun f cdv A' outer s' H vs Q E hr h=>?_)
 ·obtain⟨k,A,B,C,n,h,s,pm,ta,tb,tc,ra,rb,rc,rfl,_⟩:=h; rfl
 obtain⟨k,A,B,C,n,h,s,pm,ta,tb,tc,ra,rb,rc,rfl,hs,hM,hf,oM,h100,q⟩:=h;have hk:=hs.ok;have szl:sizeLine=16777216:=by decide
 have n10:=hf.n10;have n1:=hf.1;have lB:=oM.b.len;have lA:=oM.a.len;have n3:k=0->n<=3:=fun e=>by
  rcases hf.2 with h | h
  ·exact h
  ·exact absurd e h.1
 have la:=zk hM.a.2;rw [lA] at la;refine⟨_,(zc (jA (pv 1) (jL 3 rfl (zT (zi (i:=2) sc__law_steered.nd rfl (.inr rfl)) (zT (zi (i:=3) sc__law_steered.nd rfl (.inl rfl)) (zT (zi (i:=4) sc__law_steered.nd rfl (.inl rfl)) xB))))) (zc (zm (i:=5) sc__law_steered.nd rfl (.inl rfl) (yF zd)) (zc (zm (i:=6) sc__law_steered.nd rfl (.inl rfl) (zt yT (hr.mono (by decide)) rfl (za (pv 3) zd))) (zc (yA PassesOwn.never rfl (zM rfl zy (za (zE zO rfl m_len yk (za (pv 2) zd)) zd)) (zi (i:=7) sc__law_steered.nd rfl (.inl rfl)) (zc (zm (i:=5) sc__law_steered.nd rfl (.inl rfl) (zq Zr (pv 5) (pv 6))) (zg (xY (i:=6) sc__law_steered.nd rfl rfl ["_law_row"] ["_law_prime_here", "_law_table"] [0,2] ⟨rfl,rfl,rfl,rfl,rfl,rfl,by decide +kernel⟩ rfl (zI (pv 6)) (zj (by decide)) fun _ _ _ _ _ _=>⟨(zi (i:=0) (by decide:(["_law_row", "_law_prime_here", "_law_table"]:List Str).Nodup) rfl (by first | exact Or.inl rfl | exact Or.inr rfl)),zL,(zt qM (hr.mono (by decide)) rfl (za (pv 1) (za (pv 2) (za (pv 0) zd))))⟩)))) (zg (zp (zt yw (hr.mono (by decide)) rfl (za (pv 0) (za (pv 5) zd))))))))),?_⟩;refine⟨_,rfl,pm,_,rfl,SqT.of hM.tup,rfl,_,_,rfl,_,_,rfl,_,_,rfl,rfl,?_⟩;refine⟨(by show 0<=sizeLine; decide),fun p0 hp0=>?_⟩;have g0:=zf hp0 (.lst []);have h0:upd H p0 (.lst []) p0=some (.lst []):=zh;generalize upd H p0 (.lst [])=H0 at *;have hM0:=hM.mono g0;refine⟨_,rfl,B,h,tb,rb,rfl,hM0.b,(fun e=>by rw [e] at lB; simp at lB; omega),(fun r hr=>(oM.b.ok r hr).1),by omega,by omega,fun t1 r1 H1 g1 n1'=>?_⟩;have hM1:=hM0.mono g1;have oB:=XM oM.b;refine⟨_,rfl,ta,_,rfl,.inl (SqL.of hM1.a.1),_,rfl,(by rw [wa,← la]; omega),(by rw [wa,← la]; omega),?_⟩;rw [wa,← la];have en:((n:Int)).toNat=n:=by omega
 rw [en];have sz0:∀ r∈transp h B,∀ x∈r,szk k 80 x:=fun r hr x hx _=>oB.sz r hr x hx
 have sA:∀ r∈A,∀ x∈r,szk k 80 x:=fun r hr x hx _=>oM.a.sz r hr x hx
 have lbt:=oB.len;refine yC (lo:=0) (n:=n) (fun i σ H'=>∃(S:List (List Nb))(ps pt:Addr)(rs rt:List Addr)(o7:Option V),σ=[some (.int k),some (.ref pm),some (.ref ta),some (.ref tb),some (.ref tc),some (.ref ps),some (.ref pt),o7]/\Same H H'/\TabAt H' S ps rs/\TabAt H' ((transp h B).map fun b=>powX k A b i) pt rt/\(∀ r,r∈S↔∃ b∈transp h B,∃ j,j<i/\r=powX k A b j)/\S.length=i*h/\(∀ r∈S,∀ x∈r,szk k (tbf i) x)/\(∀ r∈(transp h B).map fun b=>powX k A b i,∀ x∈r,szk k (tbf i) x)/\La.OkM k n S/\La.OkM k n ((transp h B).map fun b=>powX k A b i)) ⟨[],p0,t1,[],r1,none,rfl,g0.trans g1,⟨g1 _ _ h0,.nil⟩,(by rw [show((transp h B).map fun b=>powX k A b 0)=transp h B from gX _]; exact n1'.tab),(fun r=>⟨(fun h=>nomatch h),fun⟨_,_,j,hj,_⟩=>absurd hj (vH _)⟩),(by rw [GQ]; rfl),(fun _ h=>nomatch h),(by rw [show((transp h B).map fun b=>powX k A b 0)=transp h B from gX _]; exact sz0),(fun _ h=>nomatch h),(by rw [show((transp h B).map fun b=>powX k A b 0)=transp h B from gX _]; exact oB.ok)⟩ ?_ ?_
 ·rintro i σ H2 hi ⟨S,ps,pt,rs,rt,o7,rfl,g,hS,hT,eS,lS,sS,sT,oS,oT⟩
  have lrs:=zk hS.2;have lrt:=zk hT.2;rw [wa,lbt] at lrt;have ih:i*h<=10*100:=vt (by omega) h100;refine⟨_,rfl,_,rfl,ps,pt,_,_,rfl,rfl,hS.1,hT.1,(by rw [wa,wa]; omega),fun p2 hp2=>?_⟩;have g2:=zf hp2 (.lst (rs.map V.ref++rt.map V.ref));have hS2:TabAt (upd H2 p2 (.lst (rs.map V.ref++rt.map V.ref))) (S ++(transp h B).map fun b=>powX k A b i) p2 (rs++rt):=⟨by rw [zh,ww],xR (fun _ _ r=>r.mono g2) (qG hS.2 hT.2)⟩;have hT2:=hT.mono g2;have gg:=g.trans g2;generalize upd H2 p2 (.lst (rs.map V.ref++rt.map V.ref))=H3 at *;have hM3:=hM.mono gg;have tl:=zdr i;refine⟨_,rfl,pt,rfl,⟨_,SqL.of hT2.1⟩,?_⟩;refine zbo (imgM k A) hT2 (by rw [wa,lbt]; omega) ?_ ?_
  ·intro r a H4 Q4 hr4 g4 hR4 hq4;have orr:=oT r hr4;exact⟨_,rfl,_,rfl,_,rfl,k,A,r,n,80,tbf i,ta,a,ra,rfl,hk,hM3.a.mono g4,hR4,oM.a.ok,orr.1,orr.2,sA,sT r hr4,by omega,n10,by omega,fun p H5 g5 nr _=>hq4 p H5 g5 nr⟩
  intro rt2 H4 G4 p4 hp4;have N4:=G4.done hp4;have g4:=G4.same.trans (zf hp4 (.lst (rt2.map V.ref)));have em:((transp h B).map fun b=>powX k A b i).map (imgM k A) =(transp h B).map fun b=>powX k A b (i+1):=by rw [vV]; rfl
  rw [em] at N4;have oN:La.OkM k n ((transp h B).map fun b=>powX k A b (i+1)):=by
   rw [← em];intro r hr;obtain⟨x,hx,rfl⟩:=wj.mp hr;have:=La.Yt hk oM.a.ok (oT x hx).2;exact⟨this.1.trans lA,this.2⟩
  refine⟨S ++(transp h B).map fun b=>powX k A b i,p2,p4,rs++rt,rt2,_,rfl,gg.trans g4,hS2.mono g4,N4.tab,fun r=>⟨fun hr=>?_,fun⟨b,hb,j,hj,e⟩=>?_⟩,by rw [wx,wa,lbt,lS,uv,um],fun r hr x hx=>?_,fun r hr x hx k0=>?_,fun r hr=>?_,oN⟩
  ·rcases wq.mp hr with h' | h'
   ·obtain⟨b,hb,j,hj,e⟩:=(eS r).mp h';exact⟨b,hb,j,by omega,e⟩
   ·obtain⟨b,hb,rfl⟩:=wj.mp h';exact⟨b,hb,i,by omega,rfl⟩
  ·rcases vO (ud hj)with h' | h'
   ·exact wE _ ((eS r).mpr ⟨b,hb,j,h',e⟩)
   ·rw [e,h']; exact wy _ (wj.mpr ⟨b,hb,rfl⟩)
  ·rcases wq.mp hr with h' | h'
   ·exact(sS r h' x hx).mono (zc4 i)
   ·exact(sT r h' x hx).mono (zc4 i)
  ·rw [← em] at hr;obtain⟨y,hy,rfl⟩:=wj.mp hr;unfold imgM at hx;obtain⟨r',hr',rfl⟩:=wj.mp hx;have oy:=oT y hy;have or':=oM.a.ok r' hr';have:=Jv (a:=80) (b:=tbf i) hk (r'.zip y) (fun pq hp=>⟨or'.2 _ (wR hp).1,oy.2 _ (wR hp).2,sA r' hr' _ (wR hp).1,sT y hy _ (wR hp).2⟩) (r'.zip y).length (wu _);rw [vo] at this;refine(this.mono ?_) k0;have lz:(r'.zip y).length=n:=by rw [vI,or'.1,oy.1,gq]
   rw [lz,show 80+tbf i+1=tbf i+81 by omega];exact zda (n3 k0) i (by have:=n3 k0; omega)
  ·rcases wq.mp hr with h' | h'
   ·exact oS r h'
   ·exact oT r h'
 ·rintro σ H2 ⟨S,ps,pt,rs,rt,o7,rfl,g,hS,hT,eS,lS,sS,sT,oS,oT⟩
  have ih:n*h<=10*100:=vt n10 h100;have tl:=zdr n;refine⟨_,rfl,_,rfl,k,n,5332,S,ps,rs,rfl,hs,hS,oS,(fun r hr x hx=>(sS r hr x hx).mono tl),n3,n10,(fun e=>wF (ju _ (show min n S.length<=3 by have:=n3 e; omega)) (by decide)),by omega,fun R ls t' ras' H' g' hR iR sR _=>?_⟩;refine q R ls t' ras' H' (g.trans g') hR iR fun F _ φ v=>?_
  rw [sR F φ v];have e1:La.Rm φ S v↔La.Rm φ (La.kry k A (transp h B) (n - 1)) v:=by
   constructor
   ·refine fun hv=>hv.mono fun u ⟨r,hr,e⟩=>⟨r,?_,e⟩
    obtain⟨b,hb,j,hj,rfl⟩:=(eS r).mp hr;exact zb8 hb (n - 1) j (by omega)
   ·refine fun hv=>hv.mono fun u ⟨r,hr,e⟩=>⟨r,?_,e⟩
    obtain⟨b,hb,j,hj,e'⟩:=XN (n - 1) r hr;exact(eS r).mpr ⟨b,hb,j,by omega,e'⟩
  rw [e1]
  constructor
  ·intro hv;have:=La.qj hk oM.a.ok lA oB.ok (n - 1) v hv;rw [show n - 1+1=n by omega] at this;exact this
  ·exact La.QD hk oM.a.ok lA oB.ok n1 v
theorem zgz{n l:Nat}{p:Nat->Bool}(hl:l<n)(hp:p l=true)(hn:∀ j,j<l->p j=false):((wY n).filter p)[0]?=some l:=by
 rw [← List.head?_eq_getElem?,List.head?_filter,List.find?_range_eq_some];exact⟨hp,vp.mpr hl,fun j hj=>by rw [hn j hj]; rfl⟩
theorem ziu{k:Int}{m:Nat}{y:Nb}(oy:y.ok k)(h:szk k m y):szk k m (nsub k (nnum k 0) y):=fun k0=>by
 subst k0;have h':=h rfl;cases y with
 | z i=>exact absurd rfl oy.1
 | q r =>
  show Sm m (((0:Int):Rat) - r).num/\Sm m ((((0:Int):Rat) - r).den:Int);have e:((0:Int):Rat) - r = -r:=by grind
  rw [e];exact⟨(show Sm m (-r.num)from h'.1.neg),h'.2⟩
theorem zh9{k:Int}{n f:Nat}:La.unitRow k n f =(wD n (nnum k 0)).set f (nnum k 1):=by
 refine uS fun j=>?_
 unfold La.unitRow
 by_cases h:j<n
 ·rw [wg,vv h]
  by_cases e:f=j
  ·subst e;rw [vY (by rw [wQ]; exact h)];show some (if f=f then _ else _)=_;rw [if_pos rfl]
  ·rw [vW e,ul,if_pos h];show some (if f=j then _ else _)=_;rw [if_neg e]
 ·rw [wJ (by rw [wa,vB]; omega),wJ (by rw [vf,wQ]; omega)]
theorem zgK{n r:Nat}(h:r<=n)(n3:n<=3):bdR (bdR 5332 r) (n - r)<=1000000:=by
 rcases (show n=0\/n=1\/n=2\/n=3 by omega)with e | e | e | e <;> subst e <;> rcases (show r=0\/r=1\/r=2\/r=3 by omega)with e | e | e | e <;> subst e <;> first | omega | decide
noncomputable def Qj:Sp:=fun vs H Q _=>∃(k:Int)(n:Nat)(M:List (List Nb))(t:Addr)(ras:List Addr),vs=[.int k,.ref t,.int (n:Int)]/\KindS k/\TabAt H M t ras/\La.OkM k n M/\(∀ r∈M,∀ x∈r,szk k 5332 x)/\(k=0->n<=3)/\1<=n/\n<=10/\M.length<=1000 /\
 ∀(U:List (List Nb))(lu:List Nat)(t':Addr)(rs:List Addr)(H':Hp),Same H H'->TabAt H' U t' rs->IsRa k n U lu->(∀(F:Type) [Lean.Grind.Field F] (φ:La.Kf k F) (v:Nat->F),La.Rm φ U v↔La.perp n (La.Rm φ M) v)->(∀ r∈U,∀ x∈r,szk k 1000000 x)->Q (.ref t') H'
theorem zdt (D:Df K mg "_law_kernel" ["_law_prime_here", "_law_rows", "_law_n"] jd) (yw:Kn P w K mg base "_law_reduced" 44 ["_law_prime_here", "_law_rows"] qs) (zW:Kn P w K mg base "_law_make" 1 ["_law_prime_here", "_law_whole_here"] jh) (xq:Kn P w K mg base "_law_minus" 43 ["_law_prime_here", "_law_one", "_law_other"] ZD) (zy:mg "range" = none) (m_len:mg "len" = none) (m_int:mg "int" = none):Kn P w K mg base "_law_kernel" 45 ["_law_prime_here", "_law_rows", "_law_n"] Qj:=by
 refine D.kn sc__law_kernel (fun vs H Q E h=>?_) (fun f' cdv A' outer s H vs Q E hr h=>?_)
 ·obtain⟨k,n,M,t,ras,rfl,_⟩:=h; rfl
 obtain⟨k,n,M,t,ras,rfl,hs,hT,oM,sM,n3,n1,n10,lM,q⟩:=h;have hk:=hs.ok;have szl:sizeLine=16777216:=by decide
 refine⟨_,(zc (zm (i:=3) sc__law_kernel.nd rfl (.inl rfl) (zt yw (hr.mono (by decide)) rfl (za (pv 0) (za (pv 1) zd)))) (zc (zm (i:=4) sc__law_kernel.nd rfl (.inl rfl) (yF zd)) (zc (yA PassesOwn.never rfl (zI (pv 3)) (zi (i:=5) sc__law_kernel.nd rfl (.inr rfl)) (zg (xV (bm0 (fun _ h=>XG PySem.F.plainAttrs_list PySem.F.slot_list_append PySem.F.type_list_append xS h (za (zG zo (zN ["_law_k"] ["_law_row", "_law_prime_here"] [5,0] ⟨rfl,rfl,rfl,rfl,rfl,rfl,by decide +kernel⟩ rfl (zM rfl zy (za (pv 2) zd)) (zj (by decide)) fun _ _ _ _ _ _=>⟨(zi (i:=0) (by decide:(["_law_k", "_law_row", "_law_prime_here"]:List Str).Nodup) rfl (by first | exact Or.inl rfl | exact Or.inr rfl)),(qD (zD (Zs hr) (zG zo (pv 1) (pv 0) (fun _ _=>rfl)) (zt zW (hr.mono (by decide)) rfl (za (pv 2) (za ze zd))) (nomark _))),(pv 0)⟩) ze (fun _ _=>rfl)) zd)) (pv 4))))) (zc (zm (i:=6) sc__law_kernel.nd rfl (.inl rfl) (yF zd)) (zc (yA PassesOwn.never rfl (zM rfl zy (za (pv 2) zd)) (zi (i:=7) sc__law_kernel.nd rfl (.inr rfl)) (zg (yj (zD zbH (pv 7) (pv 4) (by with_unfolding_all rfl)) (zc (xY (i:=8) sc__law_kernel.nd rfl rfl ["_law_k"] ["_law_prime_here", "_law_j"] [0,7] ⟨rfl,rfl,rfl,rfl,rfl,rfl,by decide +kernel⟩ rfl (zM rfl zy (za (pv 2) zd)) (zj (by decide)) fun _ _ _ _ _ _=>⟨(zi (i:=0) (by decide:(["_law_k", "_law_prime_here", "_law_j"]:List Str).Nodup) rfl (by first | exact Or.inl rfl | exact Or.inr rfl)),zL,(zt zW (hr.mono (by decide)) rfl (za (pv 1) (za (yX ZY rfl m_int zaR (za (yx yI (pv 0) (pv 2) (nomark _)) zd)) zd)))⟩) (zc (yA PassesOwn.never rfl (zM rfl zy (za (zE zO rfl m_len yk (za (pv 3) zd)) zd)) (zi (i:=9) sc__law_kernel.nd rfl (.inl rfl)) (zg (jA (zt xq (hr.mono (by decide)) rfl (za (pv 0) (za (zt zW (hr.mono (by decide)) rfl (za (pv 0) (za ze zd))) (za (zG zo (zG zo (pv 3) (pv 9) (fun _ _=>rfl)) (pv 7) (fun _ _=>rfl)) zd)))) (YT (pv 8) (zG zo (pv 4) (pv 9) (fun _ _=>rfl)) jE)))) (zg (xV (bm0 (fun _ h=>XG PySem.F.plainAttrs_list PySem.F.slot_list_append PySem.F.type_list_append xS h (za (pv 8) zd)) (pv 6)))))) zK))) (zg (zp (zt yw (hr.mono (by decide)) rfl (za (pv 0) (za (pv 6) zd)))))))))),?_⟩;refine⟨_,rfl,_,rfl,k,n,5332,M,t,ras,rfl,hs,hT,oM,sM,n3,n10,(fun e=>wF (ju _ (show min n M.length<=3 by have:=n3 e; omega)) (by decide)),lM,fun R ls top rs H1 g1 hR isR eR sR=>?_⟩;obtain⟨oR,lls,inc,llt⟩:=yg hk isR;have nd:ls.Nodup:=inc.imp fun h=>wS h
 obtain⟨F0,i0,d0,⟨φ0⟩⟩:=La.yf hk;have lrs:=zk hR.2;have lRn:=yK hk isR;have z0:=La.zU hk 0;refine⟨(by show 0<=sizeLine; decide),fun pL hpL=>?_⟩;have g2:=zf hpL (.lst []);have hL2:upd H1 pL (.lst []) pL=some (.lst (natV (ls.take 0))):=zh;have T2:=hR.mono g2;have nLt:top≠pL:=fun e=>by rw [← e,hR.1] at hpL; cases hpL
 have nLr:pL∉rs:=qy hR hpL;have fL:H pL=none:=g1.none hpL;have gH2:=g1.trans g2;generalize upd H1 pL (.lst [])=H2 at *;refine⟨_,rfl,top,rfl,⟨_,SqL.of T2.1⟩,?_⟩;refine xg (xs:=rs.map V.ref) (fun i σ H'=>∃ o5,σ=[some (.int k),some (.ref t),some (.int (n:Int)),some (.ref top),some (.ref pL),o5,none,none,none,none]/\Same H H'/\TabAt H' R top rs/\H' pL=some (.lst (natV (ls.take i)))) ⟨none,rfl,gH2,T2,hL2⟩ ?_ ?_ ?_
 ·rintro i σ H' _ ⟨o5,rfl,g,T,_⟩
  exact SqL.of T.1
 ·rintro i v σ H' hv ⟨o5,rfl,g,T,hL⟩
  obtain⟨row,a,hrow,ha,rfl,hRow⟩:=T.row hv;have iR:i<R.length:=(wo.mp hrow).1;obtain⟨l,hl⟩ : ∃ l,ls[i]?=some l:=⟨ls[i]'(by omega),wb (by omega)⟩;obtain⟨ln,lz,l1⟩:=QI hk (isR F0 φ0) hrow hl;have orow:=oR row (wc hrow);obtain⟨us,hu,pu,lu⟩:=hRow.len;refine⟨_,rfl,.inl ⟨rfl,_,SqL.of hL⟩,_,rfl,n,rfl,(by omega),(by omega),?_⟩;rw [wP];refine yb (lo:=0) (n:=n) (fun j ys H6=>Same H' H6/\ys=natV (((wY n).take j).filter fun j=>!decide (row.getD j (nnum k 0)=nnum k 0))) ⟨Same.refl _,rfl⟩ ?_ ?_ ?_
  ·rintro j ys H6 hj ⟨g6,rfl⟩
   unfold natV;have e3:=vL (fun j=>!decide (row.getD j (nnum k 0)=nnum k 0)) ((wY n).take j);rw [wv,vB] at e3;rw [wa]; omega
  ·rintro j ys H6 hj ⟨g6,rfl⟩
   have hjr:j<row.length:=by rw [orow.1]; exact hj
   have ec:row[j]?=some row[j]:=wb hjr;obtain⟨u,eu,ru⟩:=yi (jm g6 pu) ec;refine⟨_,rfl,_,rfl,a,_,_,_,rfl,rfl,SqL.of (g6 _ _ hu),(by rw [wT]; exact zH eu),_,rfl,k,0,rfl,hk,fun v0 H7 g7 r0=>?_⟩;refine⟨toD row[j],toD (nnum k 0),ru.mono g7,r0,yN _,yN _,wF (vD _ _) (wF (xt _) (by decide)),_,rfl,?_⟩;rw [jH];have ei:(wY n)[j]?=some j:=vv hj
   by_cases hz:row[j]=nnum k 0
   ·rw [decide_eq_true hz];refine iteF (nxt hj ⟨g6.trans g7,?_⟩);rw [xn _ ei,if_neg (by rw [yL ec,decide_eq_true hz]; decide),vP]
   ·rw [decide_eq_false hz];refine iteT ⟨_,rfl,nxt hj ⟨g6.trans g7,?_⟩⟩;rw [xn _ ei,if_pos (by rw [yL ec,decide_eq_false hz]; rfl),wT];unfold natV;rw [ww]; rfl
  ·rintro ys H6 ⟨g6,rfl⟩ pc hpc
   rw [wp (by rw [vB]; exact wu _)];have fe:(natV ((wY n).filter fun j=>!decide (row.getD j (nnum k 0)=nnum k 0)))[0]?=some (.int (l:Int)):=by
    unfold natV;rw [wg,zgz ln (by rw [yL l1,decide_eq_false (num01 hk)]; rfl) fun j hj=>by rw [yL (lz j hj),decide_eq_true rfl]; rfl]; rfl
   have g7:=zf hpc (.lst (natV ((wY n).filter fun j=>!decide (row.getD j (nnum k 0)=nnum k 0))));have g67:=g6.trans g7;have hL7:=g67 _ _ hL;have T7:=T.mono g67;refine⟨pc,_,_,.int (l:Int),rfl,rfl,SqL.of zh,zH (j:=0) fe,?_⟩;generalize upd H6 pc (.lst (natV ((wY n).filter fun j=>!decide (row.getD j (nnum k 0)=nnum k 0))))=H7 at *;have lt:=wv (i:=i) (l:=ls);refine⟨pL,_,_,rfl,rfl,hL7,(by unfold natV; rw [wa]; omega),?_⟩;refine⟨_,rfl,yz (g.trans g67) fL,T7.upd nLt nLr hL7,?_⟩;rw [zw hl,zh];unfold natV;rw [ww]; rfl
 rintro σ H3 ⟨o5,rfl,g3,T3,hL3⟩
 rw [wa,← lrs,wp (by omega)] at hL3;refine⟨(by show 0<=sizeLine; decide),fun pT hpT=>?_⟩;have g4:=zf hpT (.lst []);have hT4:upd H3 pT (.lst []) pT=some (.lst []):=zh;have T4:=T3.mono g4;have hL4:=g4 _ _ hL3;have fT:H pT=none:=g3.none hpT;have gH4:=g3.trans g4;clear hT T2 hL2 gH2;generalize upd H3 pT (.lst [])=H4 at *;refine⟨_,rfl,n,rfl,(by omega),(by omega),?_⟩;rw [wP];refine yC (lo:=0) (n:=n) (fun i σ H'=>∃(A:List (List Nb))(ras2:List Addr)(o7 o8 o9:Option V),σ=[some (.int k),some (.ref t),some (.int (n:Int)),some (.ref top),some (.ref pL),o5,some (.ref pT),o7,o8,o9]/\Grow H3 H' A ras2/\H' pT=some (.lst (ras2.map V.ref))/\pT∉ras2/\Paired (fun f xs=>La.AgR k n R ls f xs) (((wY n).take i).filter fun f=>!decide (f∈ls)) A/\(∀ r∈A,∀ x∈r,szk k (bdR 5332 R.length) x)) ⟨[],[],none,none,none,rfl,Grow.nil H3 g4,hT4,(fun h=>nomatch h),by simp; exact .nil,(fun _ h=>nomatch h)⟩ ?_ ?_
 ·rintro i σ H5 hi ⟨A,ras2,o7,o8,o9,rfl,G,hT5,nT,pA,sA⟩
  have e1:=zk G.rows;have e2:=zk pA;have e3:=vL (fun f=>!decide (f∈ls)) ((wY n).take i);rw [wv,vB] at e3;have ei:(wY n)[i]?=some i:=vv hi;refine⟨_,rfl,_,rfl,pL,_,rfl,.inl (SqL.of (G.same _ _ hL3)),rfl,zbI ls,_,rfl,?_⟩;have ein:(if true=true then !inV (V.int (0 +(i:Int))) (natV ls)else inV (V.int (0 +(i:Int))) (natV ls))=!decide (i∈ls):=by rw [if_pos rfl,wT,zeT]
  rw [ein];refine ite2 (fun c=>?_) (fun c=>?_)
  ·have nm:i∉ls:=fun hm=>by rw [decide_eq_true hm] at c; exact absurd c (by decide)
   refine⟨_,rfl,n,rfl,(by omega),(by omega),?_⟩;rw [wP];have lU:(La.unitRow k n i).length=n:=by unfold La.unitRow; simp
   refine yb (lo:=0) (n:=n) (fun j ys' H6=>Same H5 H6/\Paired (RN H6) ((La.unitRow k n i).take j) ys') ⟨Same.refl _,.nil⟩ ?_ ?_ ?_
   ·rintro j ys' H6 hj ⟨g6,pr6⟩
    have:=zk pr6;rw [wv] at this;omega
   ·rintro j ys' H6 hj ⟨g6,pr6⟩
    first | refine gyes ?_ | refine tyes ?_
    refine⟨_,rfl,_,rfl,_,rfl,rfl,.inr ⟨_,rfl,k,_,rfl,hk,fun v H7 g7 r7=>nxt hj ⟨g6.trans g7,?_⟩⟩⟩;have e:(La.unitRow k n i)[j]?=some (if i=j then nnum k 1 else nnum k 0):=by unfold La.unitRow; rw [wg,vv hj]; rfl
    rw [zw e];refine zZ (jm g7 pr6) ?_
    by_cases c:i=j
    ·rw [if_pos c];rw [c,decide_eq_true rfl] at r7;exact r7
    ·rw [if_neg c];rw [decide_eq_false (fun z=>c (by have:=V.int.inj z; omega))] at r7;exact r7
   rintro ys' H6 ⟨g6,pr6⟩ p1 hp1
   rw [wp (by omega)] at pr6;have g7:=zf hp1 (.lst ys');have h1:upd H6 p1 (.lst ys') p1=some (.lst ys'):=zh;have pr7:=jm g7 pr6;have g57:=g6.trans g7;have f1:H5 p1=none:=g6.none hp1;generalize upd H6 p1 (.lst ys')=H7 at *;have st:=AgI.start hk hi R ls;rw [← zh9] at st;have sU:∀ y∈La.unitRow k n i,szk k (bdR 5332 R.length) y:=fun y hy k0=>by
    unfold La.unitRow at hy;obtain⟨j,_,rfl⟩:=wj.mp hy;have b1:=zef 5332 R.length;subst k0
    split
    ·exact⟨sm_one.mono b1,sm_one.mono b1⟩
    ·exact⟨qr _,sm_one.mono b1⟩
   have T5:=T3.mono G.same;have hL5:=G.same _ _ hL3;refine⟨_,rfl,top,_,rfl,.inl (SqL.of (g57 _ _ T5.1)),_,rfl,(by rw [wa]; omega),(by rw [wa]; omega),?_⟩;rw [wa,← lrs,wP];refine yC (lo:=0) (n:=R.length) (fun e σ H'=>∃(x:List Nb)(us:List V)(o9:Option V),σ=[some (.int k),some (.ref t),some (.int (n:Int)),some (.ref top),some (.ref pL),o5,some (.ref pT),some (.int (0 +(i:Int))),some (.ref p1),o9]/\Same H5 H'/\H' p1=some (.lst us)/\Paired (RN H') x us/\AgI k n R ls i e x/\(∀ y∈x,szk k (bdR 5332 R.length) y)) ⟨_,_,o9,rfl,g57,h1,pr7,st,sU⟩ ?_ ?_
   ·rintro e σ H8 he ⟨x,us,o9',rfl,g8,h8,px,tI,sx⟩
    have hrow:R[e]?=some R[e]:=wb he;obtain⟨l,hl⟩ : ∃ l,ls[e]?=some l:=⟨ls[e]'(by omega),wb (by omega)⟩;obtain⟨ln,lz,l1⟩:=QI hk (isR F0 φ0) hrow hl;have orow:=oR R[e] (wk he);have hfr:i <(R[e]).length:=by rw [orow.1]; exact hi
    have oy:=orow.2 _ (wk hfr);have sy:=sR R[e] (wk he) _ (wk hfr);refine⟨_,rfl,_,rfl,k,0,rfl,hk,fun v2 H9 g9 r2=>?_⟩;obtain⟨a,ea,ra⟩:=yi ((T5.mono g8).mono g9).2 hrow;obtain⟨ua,hua,pua,lua⟩:=ra.len;obtain⟨vy,ey,ry⟩:=yi pua (wb hfr);have bb:k=0->bdR 5332 R.length<=30000000:=fun e0=>wF (ju 5332 (show R.length<=3 by have:=n3 e0; omega)) (by decide)
    refine⟨_,rfl,_,rfl,top,_,_,.ref a,rfl,rfl,SqL.of (g9 _ _ (g8 _ _ T5.1)),(by rw [wT]; exact zH (by rw [wg,ea]; rfl)),_,rfl,a,_,_,vy,rfl,rfl,SqL.of hua,(by rw [wT]; exact zH ey),k,nnum k 0,_,v2,vy,rfl,hk,z0,oy,(qW hk (qr 61) (by decide)).mono (by decide),xX hk oy sy bb (by decide),r2,ry,fun v10 H10 g10 r10=>?_⟩;have g810:=g9.trans g10;have h10:=g810 _ _ h8;have lus:=zk px;refine⟨_,rfl,_,rfl,_,rfl,pL,_,_,.int (l:Int),rfl,rfl,SqL.of (g810 _ _ (g8 _ _ hL5)),(by rw [wT]; exact zH (by unfold natV; rw [wg,hl]; rfl)),?_⟩;refine⟨p1,_,_,l,rfl,rfl,h10,qL (by rw [← lus,tI.len]; exact ln),?_⟩;refine⟨_,_,_,rfl,yz (g8.trans g810) f1,zh,ZZ h10 (JX (jm g810 px) l r10),tI.step hk nd nm hl hrow (wb hfr) oy ln,fun y hy=>?_⟩
    rcases La.yh hy with h | h
    ·rw [h]; exact ziu oy sy
    ·exact sx y h
   ·rintro σ H8 ⟨x,us,o9',rfl,g8,h8,px,tI,sx⟩
    have hT8:=g8 _ _ hT5;refine⟨_,rfl,.inl ⟨rfl,_,SqL.of hT8⟩,_,rfl,pT,_,_,rfl,rfl,hT8,(by rw [wa]; omega),?_⟩;obtain⟨G2,nm2⟩:=G.pushR (zs':=(ras2.map V.ref)++[.ref p1]) hpT hT5 nT g8 f1 ⟨us,h8,px⟩;refine⟨A++[x],ras2++[p1],_,_,_,rfl,G2,by rw [zh,ww]; rfl,nm2,?_,fun r hr=>?_⟩
    ·rw [xn _ ei,if_pos (by rw [decide_eq_false nm]; rfl)];exact zZ pA (tI.done lls)
    ·rcases wq.mp hr with h | h
     ·exact sA r h
     ·rw [wt.mp h]; exact sx
  ·have hm:i∈ls:=vQ fun nm=>c (by rw [decide_eq_false nm]; rfl)
   refine⟨A,ras2,_,_,_,rfl,G,hT5,nT,?_,sA⟩;rw [xn _ ei,if_neg (by rw [decide_eq_true hm]; exact wO),vP];exact pA
 ·rintro σ H5 ⟨A,ras2,o7,o8,o9,rfl,G,hT5,nT,pA,sA⟩
  rw [wp (by rw [vB]; exact wu _)] at pA;have lA:=zk pA;have efr:freeOf n ls =(wY n).filter fun f=>!decide (f∈ls):=rfl
  rw [← efr] at pA lA;have fl:=Qu hk isR;have oA:La.OkM k n A:=fun r hr=>by
   obtain⟨f,_,ag⟩:=Yi pA hr;exact⟨ag.len,ag.ok⟩
  have bth:k=0->bdR (bdR 5332 R.length) A.length<=1000000:=fun e=>by
   rw [show A.length=n - R.length by omega];exact zgK lRn (n3 e)
  refine⟨_,rfl,_,rfl,k,n,bdR 5332 R.length,A,pT,ras2,rfl,hs,⟨hT5,G.rows⟩,oA,sA,n3,n10,(fun e=>wF (ju _ (GN _ _)) (wF (bth e) (by decide))),by omega,fun U lu t' rs' H6 g6 hU isU eU sU=>?_⟩;refine q U lu t' rs' H6 ((g3.trans G.same).trans g6) hU isU (fun F _ φ v=>?_) fun r hr x hx k0=>((sU r hr x hx) k0).mono ?_
  ·have hp:=La.qI (isR F φ) hk (zax n ls) (qz n ls) lA (fun i f xs h1 h2=>ja pA h1 h2) v;rw [eU F φ v,hp];exact⟨fun h=>⟨h.1,fun u hu=>h.2 u ((eR F φ u).mpr hu)⟩,fun h=>⟨h.1,fun u hu=>h.2 u ((eR F φ u).mp hu)⟩⟩
  ·have lU:=ze8 hk oA (zaw isU eU);exact wF (ju _ lU) (bth k0)
noncomputable def zcU:Sp:=fun vs H Q _=>∃(k:Int)(n:Nat),vs=[.int k,.int (n:Int)]/\KindOk k/\n<=1000/\∀ t ras H',Same H H'->NewT H H' (La.unitM k n) t ras->Q (.ref t) H'
theorem zgQ (D:Df K mg "_law_unit" ["_law_prime_here", "_law_size"] jZ) (zW:Kn P w K mg base "_law_make" 1 ["_law_prime_here", "_law_whole_here"] jh) (zy:mg "range" = none) (m_int:mg "int" = none):Kn P w K mg base "_law_unit" 2 ["_law_prime_here", "_law_size"] zcU:=by
 refine D.kn za4 (fun vs H Q E h=>?_) (fun f cdv A outer s H vs Q E hr h=>?_)
 ·obtain⟨k,n,rfl,_⟩:=h; rfl
 obtain⟨k,n,rfl,hk,hn,q⟩:=h;have szl:sizeLine=16777216:=by decide
 refine⟨_,(zg (zp (zN ["_law_i"] ["_law_size", "_law_prime_here"] [1,0] ⟨rfl,rfl,rfl,rfl,rfl,rfl,by decide +kernel⟩ rfl (zM rfl zy (za (pv 1) zd)) (zj (by decide)) fun _ _ _ _ _ _=>⟨(zi (i:=0) (by decide:(["_law_i", "_law_size", "_law_prime_here"]:List Str).Nodup) rfl (by first | exact Or.inl rfl | exact Or.inr rfl)),zL,(zN ["_law_j"] ["_law_prime_here", "_law_i"] [2,0] ⟨rfl,rfl,rfl,rfl,rfl,rfl,by decide +kernel⟩ rfl (zM rfl zy (za (pv 1) zd)) (zj (by decide)) fun _ _ _ _ _ _=>⟨(zi (i:=0) (by decide:(["_law_j", "_law_prime_here", "_law_i"]:List Str).Nodup) rfl (by first | exact Or.inl rfl | exact Or.inr rfl)),zL,(zt zW (hr.mono (by decide)) rfl (za (pv 1) (za (yX ZY rfl m_int zaR (za (yx yI (pv 2) (pv 0) (nomark _)) zd)) zd)))⟩)⟩))),?_⟩;have lT:(La.unitM k n).length=n:=by unfold La.unitM; simp
 refine⟨_,rfl,n,rfl,(by omega),(by omega),?_⟩;rw [wP];refine yb (lo:=0) (n:=n) (fun i ys H'=>∃ ras2,ys=ras2.map V.ref/\Grow H H' ((La.unitM k n).take i) ras2) ⟨[],rfl,Grow.nil H (Same.refl H)⟩ ?_ ?_ ?_
 ·rintro i ys H' hi ⟨ras2,rfl,G⟩
  have:=zk G.rows;rw [wv] at this;rw [wa]; omega
 ·rintro i ys H' hi ⟨ras2,rfl,G⟩
  first | refine gyes ?_ | refine tyes ?_
  refine⟨_,rfl,n,rfl,(by omega),(by omega),?_⟩;rw [wP];have lR:(La.unitRow k n i).length=n:=by unfold La.unitRow; simp
  refine yb (lo:=0) (n:=n) (fun j ys' H6=>Same H' H6/\Paired (RN H6) ((La.unitRow k n i).take j) ys') ⟨Same.refl _,.nil⟩ ?_ ?_ ?_
  ·rintro j ys' H6 hj ⟨g6,pr6⟩
   have:=zk pr6;rw [wv] at this;omega
  ·rintro j ys' H6 hj ⟨g6,pr6⟩
   first | refine gyes ?_ | refine tyes ?_
   refine⟨_,rfl,_,rfl,_,rfl,rfl,.inr ⟨_,rfl,k,_,rfl,hk,fun v H7 g7 r7=>nxt hj ⟨g6.trans g7,?_⟩⟩⟩;have e:(La.unitRow k n i)[j]?=some (if i=j then nnum k 1 else nnum k 0):=by unfold La.unitRow; rw [wg,vv hj]; rfl
   rw [zw e];refine zZ (jm g7 pr6) ?_
   by_cases c:i=j
   ·rw [if_pos c];rw [c,decide_eq_true rfl] at r7;exact r7
   ·rw [if_neg c];rw [decide_eq_false (fun z=>c (by have:=V.int.inj z; omega))] at r7;exact r7
  ·rintro ys' H6 ⟨g6,pr6⟩ p hp
   rw [wp (by omega)] at pr6;refine nxt hi ⟨ras2++[p],by rw [ww]; rfl,?_⟩;rw [zw (La.yO hi)];exact(G.mono g6).snoc hp pr6
 ·rintro ys H' ⟨ras2,rfl,G⟩ t ht
  rw [wp (by omega)] at G;exact q t ras2 _ (G.same.trans (zf ht _)) (G.done ht)
theorem zex{Q:VK}{H:Hp}{x y:Bool}(h:x=y)(q:Q (.bl x) H):Q (.bl y) H:=h ▸ q
noncomputable def zaL:Sp:=fun vs H Q _=>∃(a b:Int),vs=[.int a,.int b]/\Q (.bl (letsB a b)) H
theorem zes (D:Df K mg "_law_lets" ["_law_row", "_law_column"] jj):Kn P w K mg base "_law_lets" 1 ["_law_row", "_law_column"] zaL:=by
 refine D.kn YS (fun vs H Q E h=>?_) (fun f cdv A outer s H vs Q E hr h=>?_)
 ·obtain⟨a,b,rfl,_⟩:=h; rfl
 obtain⟨a,b,rfl,q⟩:=h;refine⟨_,(zc (yj (zD yI (pv 0) ze (nomark _)) (zg (zp (zgF (yx yI (pv 1) ze (nomark _)) (ZO (yx yI (pv 1) ze (nomark _)))))) zK) (zc (yj (zD yI (pv 0) ze (nomark _)) (zg (zp (yx qB (pv 1) ze (nomark _)))) zK) (zg (zp (zgF (yx yI (pv 0) ze (nomark _)) (ZO (yx yI (pv 1) ze (nomark _)))))))),?_⟩;refine⟨_,rfl,rfl,_,rfl,?_⟩;refine ite2 (fun c1=>?_) (fun c1=>?_)
 ·have e1:a=1:=V.int.inj (of_decide_eq_true c1);refine⟨_,rfl,rfl,_,rfl,?_⟩;refine ite2 (fun c2=>?_) (fun c2=>?_)
  ·have e2:b=1:=V.int.inj (of_decide_eq_true c2);exact zex (by simp [letsB,e1,e2]) q
  ·have e2:b≠1:=fun z=>c2 (decide_eq_true (by rw [z]))
   exact⟨_,rfl,rfl,zex (by simp [letsB,e1,e2]) q⟩
 ·have e1:a≠1:=fun z=>c1 (decide_eq_true (by rw [z]))
  refine⟨_,rfl,rfl,_,rfl,?_⟩;refine ite2 (fun c2=>?_) (fun c2=>?_)
  ·have e2:a=2:=V.int.inj (of_decide_eq_true c2);exact⟨_,rfl,_,_,rfl,rfl,zex (by simp [letsB,e2]) q⟩
  ·have e2:a≠2:=fun z=>c2 (decide_eq_true (by rw [z]))
   refine⟨_,rfl,rfl,_,rfl,?_⟩;refine ite2 (fun c3=>?_) (fun c3=>?_)
   ·have e3:a=0:=V.int.inj (of_decide_eq_true c3);exact zex (by simp [letsB,e3]) q
   ·have e3:a≠0:=fun z=>c3 (decide_eq_true (by rw [z]))
    exact⟨_,rfl,rfl,zex (by simp [letsB,e1,e2,e3]) q⟩
noncomputable def plT(a b c d:Nat):Nat->List Int
 | 0=>[]
 | i+1=>plT a b c d i++wD (([a,b,c,d]:List Nat).getD i 0) (i:Int)
theorem zgU(a b c d:Nat):plT a b c d 4=plc a b c d:=by
 show []++wD a ((0:Nat):Int)++wD b ((1:Nat):Int)++wD c ((2:Nat):Int)++wD d ((3:Nat):Int)=_;rw [GS]; rfl
theorem zfL(a b c d:Nat):∀ i,(plT a b c d i).length<=i *(a+b+c+d)
 | 0=>vz _
 | i+1=>by
  show(plT a b c d i++_).length<=_;rw [wx,wQ,uv,um];have:=zfL a b c d i;have:([a,b,c,d]:List Nat).getD i 0<=a+b+c+d:=by
   match i with
   | 0=>show a<=_; omega
   | 1=>show b<=_; omega
   | 2=>show c<=_; omega
   | 3=>show d<=_; omega
   | i+4=>simp
  omega
noncomputable def Jc:Sp:=fun vs H Q _=>∃(tz:Addr)(a b c d:Nat),vs=[.ref tz]/\H tz=some (.tup ([(a:Int),(b:Int),(c:Int),(d:Int)].map V.int))/\a+b+c+d<=10/\∀ p H',Same H H'->H' p=some (.lst ((plc a b c d).map V.int))->Q (.ref p) H'
theorem zce (D:Df K mg "_law_stretches" ["_law_sizes"] xa) (zy:mg "range" = none):Kn P w K mg base "_law_stretches" 1 ["_law_sizes"] Jc:=by
 refine D.kn sc__law_stretches (fun vs H Q E h=>?_) (fun f cdv A outer s H vs Q E hr h=>?_)
 ·obtain⟨tz,a,b,c,d,rfl,_⟩:=h; rfl
 obtain⟨tz,a,b,c,d,rfl,hz,le,q⟩:=h;have szl:sizeLine=16777216:=by decide
 refine⟨_,(zc (zm (i:=1) sc__law_stretches.nd rfl (.inl rfl) (yF zd)) (zc (yA PassesOwn.never rfl (zM rfl zy (za ze zd)) (zi (i:=2) sc__law_stretches.nd rfl (.inr rfl)) (zg (zm (i:=1) sc__law_stretches.nd rfl (.inl rfl) (zq Zr (pv 1) (zN ["_law_j"] ["_law_k"] [2] ⟨rfl,rfl,rfl,rfl,rfl,rfl,by decide +kernel⟩ rfl (zM rfl zy (za (zG zJ (pv 0) (pv 2) (fun _ _=>rfl)) zd)) (zj (by decide)) fun _ _ _ _ _ _=>⟨(zi (i:=0) (by decide:(["_law_j", "_law_k"]:List Str).Nodup) rfl (by first | exact Or.inl rfl | exact Or.inr rfl)),zL,(pv 1)⟩))))) (zg (zp (pv 1))))),?_⟩;refine⟨(by show 0<=sizeLine; decide),fun p0 hp0=>?_⟩;have g0:=zf hp0 (.lst []);have h0:upd H p0 (.lst []) p0=some (.lst ((plT a b c d 0).map V.int)):=zh;generalize upd H p0 (.lst [])=H0 at *;refine⟨4,rfl,(by decide),(by decide),?_⟩;refine yC (lo:=0) (n:=4) (fun i σ H'=>∃(p:Addr)(o2:Option V),σ=[some (.ref tz),some (.ref p),o2]/\Same H H'/\H' p=some (.lst ((plT a b c d i).map V.int))) ⟨p0,none,rfl,g0,h0⟩ ?_ ?_
 ·rintro i σ H1 hi ⟨p,o2,rfl,g,hp⟩
  have hz1:=g _ _ hz;obtain⟨m,hm,em,lm⟩ : ∃ m:Nat,([(a:Int),(b:Int),(c:Int),(d:Int)].map V.int)[i]?=some (.int (m:Int))/\([a,b,c,d]:List Nat).getD i 0=m/\m<=10:=by
   match i,hi with
   | 0,_=>exact⟨a,rfl,rfl,by omega⟩
   | 1,_=>exact⟨b,rfl,rfl,by omega⟩
   | 2,_=>exact⟨c,rfl,rfl,by omega⟩
   | 3,_=>exact⟨d,rfl,rfl,by omega⟩
   | i+4,hi=>exact absurd hi (by omega)
  refine⟨_,rfl,_,rfl,_,rfl,tz,_,_,_,rfl,rfl,SqT.of hz1,(by rw [wT]; exact zH hm),m,rfl,(by omega),(by omega),?_⟩;rw [wP];refine yb (lo:=0) (n:=m) (fun j ys H'=>H'=H1/\ys =(wD j (i:Int)).map V.int) ⟨rfl,rfl⟩ ?_ ?_ ?_
  ·rintro j ys H' hj ⟨_,rfl⟩
   rw [wa,wQ]; omega
  ·rintro j ys H' hj ⟨rfl,rfl⟩
   first | refine gyes ?_ | refine tyes ?_
   refine⟨_,rfl,nxt hj ⟨rfl,?_⟩⟩;rw [uk,ww,wT]; rfl
  ·rintro ys H' ⟨rfl,rfl⟩ p1 hp1
   have g1:=zf hp1 (.lst ((wD m (i:Int)).map V.int));have ne:p≠p1:=fun e=>by rw [e,hp1] at hp; cases hp
   have lp:=zfL a b c d i;have l2:i *(a+b+c+d)<=4*10:=vt (by omega) le;refine⟨p,p1,_,_,rfl,rfl,g1 _ _ hp,zh,(by rw [wa,wa,wQ]; omega),fun p2 hp2=>?_⟩;refine⟨p2,_,rfl,g.trans (g1.trans (zf hp2 _)),?_⟩;rw [zh,← ww];show _=some (HO.lst ((plT a b c d i++wD (([a,b,c,d]:List Nat).getD i 0) (i:Int)).map V.int));rw [em]
 ·rintro σ H1 ⟨p,o2,rfl,g,hp⟩
  rw [zgU] at hp;exact⟨_,rfl,q p H1 g hp⟩
theorem zhu:bootBuiltins "any" = some (.builtin "any"):=by decide +kernel
theorem XL:∀ n,(wD n false).any id=false
 | 0=>rfl
 | n+1=>by rw [vC,wal,XL n]; rfl
theorem zgx{k:Int}(hk:KindOk k){b c a0 b0 m:Nat}{M N:List (List Nb)}(oM:La.OkM k b M)(oN:La.OkM k c N)(lN:N.length=b)(sM:∀ r∈M,∀ y∈r,szk k a0 y)(sN:∀ r∈N,∀ y∈r,szk k b0 y)(hm:k=0->b *(a0+b0+1)+1<=m):∀ r∈prodM k c M N,∀ y∈r,szk k m y:=fun r hr y hy k0=>by
 unfold prodM at hr;obtain⟨x,hx,rfl⟩:=wj.mp hr;obtain⟨col,hc,rfl⟩:=wj.mp hy;have ox:=oM x hx;have oc:=yG oN col hc;have sc:∀ y∈col,szk k b0 y:=fun y hy=>by
  unfold transp at hc;obtain⟨j,hj,rfl⟩:=wj.mp hc;obtain⟨z,hz,rfl⟩:=wj.mp hy;have hl:=(oN z hz).1;rw [vp] at hj;rw [we,wb (by omega)];exact sN z hz _ (wk _)
 have:=Jv (a:=a0) (b:=b0) hk (x.zip col) (fun pq hp=>⟨ox.2 _ (wR hp).1,oc.2 _ (wR hp).2,sM x hx _ (wR hp).1,sc _ (wR hp).2⟩) (x.zip col).length (wu _);rw [vo] at this;refine(this.mono ?_) k0;have lz:(x.zip col).length=b:=by rw [vI,ox.1,oc.1,lN,gq]
 rw [lz];exact hm k0
noncomputable def Jr:Sp:=fun vs H Q _=>∃(k:Int)(A B C X S R L U:List (List Nb))(Pp:List Int)(n h s:Nat)(pm ta tb tc tT tS pp:Addr)(ra rb rc rT rS:List Addr),vs=[.int k,.ref pm,.ref tT,.ref tS,.ref pp]/\KindOk k/\MachAt H A B C pm ta tb tc ra rb rc/\TabAt H (transp n X) tT rT/\TabAt H S tS rS/\H pp=some (.lst (Pp.map V.int))/\(k=0->n<=3)/\n<=10/\MOk k n h s 80 A B C/\1<=h/\h<=10/\s<=10/\Part k n h A B C R L U/\PlF k n R U X S Pp/\(La.OkM k n X/\X.length=n)/\(La.OkM k n S/\S.length=n)/\((∀ r∈X,∀ x∈r,szk k 36512 x)/\(∀ r∈S,∀ x∈r,szk k 1168392 x))/\∀ H',Same H H'->Q (.bl true) H'
theorem zb2 (D:Df K mg "_law_noughts" ["_law_prime_here", "_law_machine_here", "_law_turn", "_law_backward", "_law_places"] xN) (zW:Kn P w K mg base "_law_make" 1 ["_law_prime_here", "_law_whole_here"] jh) (yp:Kn P w K mg base "_law_product" 44 ["_law_prime_here", "_law_one", "_law_other"] qb) (Zu:Kn P w K mg base "_law_lets" 1 ["_law_row", "_law_column"] zaL) (zy:mg "range" = none) (m_len:mg "len" = none) (m_any:mg "any" = none):Kn P w K mg base "_law_noughts" 45 ["_law_prime_here", "_law_machine_here", "_law_turn", "_law_backward", "_law_places"] Jr:=by
 refine D.kn sc__law_noughts (fun vs H Q E h=>?_) (fun f cdv A' outer s' H vs Q E hr h=>?_)
 ·obtain⟨k,A,B,C,X,S,R,L,U,Pp,n,h,s,pm,ta,tb,tc,tT,tS,pp,ra,rb,rc,rT,rS,rfl,_⟩:=h; rfl
 obtain⟨k,A,B,C,X,S,R,L,U,Pp,n,h,s,pm,ta,tb,tc,tT,tS,pp,ra,rb,rc,rT,rS,rfl,hk,hM,hT,hS,hpp,n3,n10,oM,h1,h10,s10,Pt,Pl,⟨oX,lX⟩,⟨oS,lS⟩,⟨sX,sS⟩,q⟩:=h;have szl:sizeLine=16777216:=by decide
 have n1:=Pt.n1;have lC:=oM.c.len;have oT:La.OkM k n (transp n X):=by have:=yG oX; rw [lX] at this; exact this
 have lT:=zV n X;have sT:∀ r∈transp n X,∀ y∈r,szk k 36512 y:=fun r hr y hy k0=>zeF (fun r hr=>(oX r hr).1) (fun r hr x hx=>sX r hr x hx k0) r hr y hy
 have sA:∀ r∈A,∀ x∈r,szk k 80 x:=fun r hr x hx _=>oM.a.sz r hr x hx
 have sB:∀ r∈B,∀ x∈r,szk k 80 x:=fun r hr x hx _=>oM.b.sz r hr x hx
 have sC:∀ r∈C,∀ x∈r,szk k 80 x:=fun r hr x hx _=>oM.c.sz r hr x hx
 refine⟨_,(zc (zm (i:=5) sc__law_noughts.nd rfl (.inr rfl) (zt zW (hr.mono (by decide)) rfl (za (pv 0) (za ze zd)))) (zc (zm (i:=6) sc__law_noughts.nd rfl (.inl rfl) (zt yp (hr.mono (by decide)) rfl (za (pv 0) (za (zt yp (hr.mono (by decide)) rfl (za (pv 0) (za (pv 3) (za (zG zJ (pv 1) ze (fun _ _=>rfl)) zd)))) (za (pv 2) zd))))) (zc (zm (i:=7) sc__law_noughts.nd rfl (.inl rfl) (zt yp (hr.mono (by decide)) rfl (za (pv 0) (za (pv 3) (za (zG zJ (pv 1) ze (fun _ _=>rfl)) zd))))) (zc (zm (i:=8) sc__law_noughts.nd rfl (.inl rfl) (zt yp (hr.mono (by decide)) rfl (za (pv 0) (za (zG zJ (pv 1) ze (fun _ _=>rfl)) (za (pv 2) zd))))) (zc (yA PassesOwn.never rfl (zM rfl zy (za (zE zO rfl m_len yk (za (pv 4) zd)) zd)) (zi (i:=9) sc__law_noughts.nd rfl (.inr rfl)) (zc (yA PassesOwn.never rfl (zM rfl zy (za (zE zO rfl m_len yk (za (pv 4) zd)) zd)) (zi (i:=10) sc__law_noughts.nd rfl (.inl rfl)) (zg (yj (PW.pt (pw_and (jS (xZ (zt Zu (hr.mono (by decide)) rfl (za (zG zo (pv 4) (pv 9) (fun _ _=>rfl)) (za (zG zo (pv 4) (pv 10) (fun _ _=>rfl)) zd))))) (pw_and1 (zD (Zs hr) (zG zo (zG zo (pv 6) (pv 9) (fun _ _=>rfl)) (pv 10) (fun _ _=>rfl)) (pv 5) (nomark _))))) (zg (zp ZP)) zK))) (zc (yj (PW.pt (pw_and (zD qB (zG zo (pv 4) (pv 9) (fun _ _=>rfl)) ze (nomark _)) (pw_and1 (xZ (zE (zaI rfl) rfl m_any zhu (za (zN ["_law_one"] ["_law_nought"] [5] ⟨rfl,rfl,rfl,rfl,rfl,rfl,by decide +kernel⟩ rfl (zI (zG zo (pv 7) (pv 9) (fun _ _=>rfl))) (zj (by decide)) fun _ _ _ _ _ _=>⟨(zi (i:=0) (by decide:(["_law_one", "_law_nought"]:List Str).Nodup) rfl (by first | exact Or.inl rfl | exact Or.inr rfl)),zL,(yx (Zs hr) (pv 0) (pv 1) (nomark _))⟩) zd)))))) (zg (zp ZP)) zK) (zg (yj (PW.pt (pw_and (zD yI (zq zQ (zG zo (pv 4) (pv 9) (fun _ _=>rfl)) ze) ze (nomark _)) (pw_and1 (xZ (zE (zaI rfl) rfl m_any zhu (za (zN ["_law_row"] ["_law_i", "_law_nought"] [9,5] ⟨rfl,rfl,rfl,rfl,rfl,rfl,by decide +kernel⟩ rfl (zI (pv 8)) (zj (by decide)) fun _ _ _ _ _ _=>⟨(zi (i:=0) (by decide:(["_law_row", "_law_i", "_law_nought"]:List Str).Nodup) rfl (by first | exact Or.inl rfl | exact Or.inr rfl)),zL,(yx (Zs hr) (zG zo (pv 0) (pv 1) (fun _ _=>rfl)) (pv 2) (nomark _))⟩) zd)))))) (zg (zp ZP)) zK))))) (zg (zp ZP))))))),?_⟩;refine⟨_,rfl,k,0,rfl,hk,fun v0 H1 g1 r0=>?_⟩;have hM1:=hM.mono g1;refine⟨_,rfl,_,rfl,_,rfl,_,rfl,pm,_,_,.ref ta,rfl,rfl,SqT.of hM1.tup,rfl,k,S,A,n,n,1168392,80,tS,ta,rS,ra,rfl,hk,hS.mono g1,hM1.a,oS,Pt.oA,Pt.lA,sS,sA,by decide,n1,n10,n1,n10,by omega,fun t1 r1 H2 g2 N1=>?_⟩;have g12:=g1.trans g2;have oSA:=La.jt hk (c:=n) oS Pt.oA;have sSA:=zgx hk (c:=n) (m:=3505420) oS Pt.oA Pt.lA sS sA fun e=>by have:=n3 e; omega
 refine⟨_,rfl,k,prodM k n S A,transp n X,n,n,3505420,36512,t1,tT,r1,rT,rfl,hk,N1.tab,hT.mono g12,oSA.2,oT,lT,sSA,sT,by decide,n1,n10,n1,n10,(by rw [show(prodM k n S A).length=S.length from oSA.1]; omega),fun t2 r2 H3 g3 N2=>?_⟩;have g13:=g12.trans g3;have hM3:=hM.mono g13;refine⟨_,rfl,_,rfl,_,rfl,pm,_,_,.ref tb,rfl,rfl,SqT.of hM3.tup,rfl,k,S,B,n,h,1168392,80,tS,tb,rS,rb,rfl,hk,hS.mono g13,hM3.b,oS,Pt.oB,Pt.lB,sS,sB,by decide,n1,n10,h1,h10,by omega,fun t3 r3 H4 g4 N3=>?_⟩;have g14:=g13.trans g4;have hM4:=hM.mono g14;refine⟨_,rfl,_,rfl,pm,_,_,.ref tc,rfl,rfl,SqT.of hM4.tup,rfl,_,rfl,k,C,transp n X,n,n,80,36512,tc,tT,rc,rT,rfl,hk,hM4.c,hT.mono g14,Pt.oC,oT,lT,sC,sT,by decide,n1,n10,n1,n10,by omega,fun t4 r4 H5 g5 N4=>?_⟩;have g15:=g14.trans g5;have T2:=(N2.tab.mono g4).mono g5;have T3:=N3.tab.mono g5;have T4:=N4.tab;have r5:=((((r0.mono g2).mono g3).mono g4).mono g5);have hp5:=g15 _ _ hpp;have tabZ:=@zdz k n hk h A B C R L U X S Pp Pt Pl oX lX oS lS;have hndZ:=@zbM k n hk h A B C R L U X S Pp Pt Pl oX lX oS lS;have sgtZ:=@Qw k n hk h A B C R L U X S Pp Pt Pl oX lX oS lS;have l2:(prodM k n (prodM k n S A) (transp n X)).length=n:=by
  show(La.prodR k n (La.prodR k n S A) (transp n X)).length=n;rw [(La.jt hk oSA.2 oT).1,oSA.1,lS]
 have o2:La.OkM k n (prodM k n (prodM k n S A) (transp n X)):=(La.jt hk oSA.2 oT).2;have l3:(prodM k h S B).length=n:=by
  show(La.prodR k h S B).length=n;rw [(La.jt hk oS Pt.oB).1,lS]
 have o3:La.OkM k h (prodM k h S B):=(La.jt hk oS Pt.oB).2;have o4:La.OkM k n (prodM k n C (transp n X)):=(La.jt hk Pt.oC oT).2;have l4:(prodM k n C (transp n X)).length=s:=by
  show(La.prodR k n C (transp n X)).length=s;rw [(La.jt hk Pt.oC oT).1,lC]
 generalize prodM k n (prodM k n S A) (transp n X)=W2 at *;generalize prodM k h S B=W3 at *;generalize prodM k n C (transp n X)=W4 at *;have lP:=Pl.len;clear N1 N2 N3 N4 hM1 hM3 hM4 sSA oSA r0 g12 g13 g14 g1 g2 g3 g4 g5 sT sA sB sC;refine⟨_,rfl,pp,_,rfl,.inl (SqL.of hp5),_,rfl,(by rw [wa,lP]; omega),(by rw [wa,lP]; omega),?_⟩;rw [wa,lP,wP];refine yC (lo:=0) (n:=n) (fun i σ H'=>∃(o9 o10:Option V),σ=[some (.int k),some (.ref pm),some (.ref tT),some (.ref tS),some (.ref pp),some v0,some (.ref t2),some (.ref t3),some (.ref t4),o9,o10]/\Same H5 H') ⟨none,none,rfl,Same.refl _⟩ ?_ ?_
 ·rintro i σ H6 hi ⟨o9,o10,rfl,g6⟩
  obtain⟨p,hp⟩ : ∃ p,Pp[i]?=some p:=⟨Pp[i]'(by omega),wb (by omega)⟩;have hpv:(Pp.map V.int)[i]?=some (.int p):=by rw [wg,hp]; rfl
  have hp6:=g6 _ _ hp5;refine⟨_,rfl,pp,_,rfl,.inl (SqL.of hp6),_,rfl,(by rw [wa,lP]; omega),(by rw [wa,lP]; omega),?_⟩;rw [wa,lP,wP];refine yC (lo:=0) (n:=n) (fun j σ H'=>∃(o10:Option V),σ=[some (.int k),some (.ref pm),some (.ref tT),some (.ref tS),some (.ref pp),some v0,some (.ref t2),some (.ref t3),some (.ref t4),some (.int (0 +(i:Int))),o10]/\Same H5 H') ⟨_,rfl,g6⟩ ?_ ?_
  ·rintro j σ H7 hj ⟨o10,rfl,g7⟩
   obtain⟨p',hp'⟩ : ∃ p,Pp[j]?=some p:=⟨Pp[j]'(by omega),wb (by omega)⟩;have hpv':(Pp.map V.int)[j]?=some (.int p'):=by rw [wg,hp']; rfl
   have hp7:=g7 _ _ hp5;refine⟨_,rfl,_,rfl,pp,_,_,_,rfl,rfl,SqL.of hp7,(by rw [wT]; exact zH hpv),_,rfl,_,rfl,pp,_,_,_,rfl,rfl,SqL.of hp7,(by rw [wT]; exact zH hpv'),p,p',rfl,_,rfl,?_⟩;cases hb:letsB p p' with
   | true =>
    refine iteF ?_;refine iteF ?_;exact⟨_,rfl,g7⟩
   | false =>
    refine iteT ?_;obtain⟨row,hrow⟩ : ∃ r,W2[i]?=some r:=⟨W2[i]'(by omega),wb (by omega)⟩;have orow:=o2 row (wc hrow);obtain⟨a,ea,ra'⟩:=yi (T2.mono g7).2 hrow;obtain⟨us,hu,pu,lu⟩:=ra'.len;obtain⟨x,hx⟩ : ∃ x,row[j]?=some x:=⟨row[j]'(by omega),wb (by omega)⟩;obtain⟨u,eu,ru⟩:=yi pu hx;have zx:=tabZ hp hp' hb hrow hx;refine⟨_,rfl,_,rfl,t2,_,_,.ref a,rfl,rfl,SqL.of (T2.mono g7).1,(by rw [wT]; exact zH (by rw [wg,ea]; rfl)),_,rfl,a,_,_,u,rfl,rfl,SqL.of hu,(by rw [wT]; exact zH eu),_,rfl,toD x,toD (nnum k 0),ru,r5.mono g7,yN _,yN _,wF (vD _ _) (wF (xt _) (by decide)),_,rfl,?_⟩;rw [jH,decide_eq_true zx];refine iteF ?_;exact⟨_,rfl,g7⟩
  ·rintro σ H7 ⟨o10,rfl,g7⟩
   have hp7:=g7 _ _ hp5;have r7:=r5.mono g7
   dsimp only
   refine XH (fun σ H'=>σ=[some (.int k),some (.ref pm),some (.ref tT),some (.ref tS),some (.ref pp),some v0,some (.ref t2),some (.ref t3),some (.ref t4),some (.int (0 +(i:Int))),o10]/\Same H5 H') ?_ ?_
   ·rintro σ H8 ⟨rfl,g8⟩
    have hp8:=g8 _ _ hp5;have T8:=T4.mono g8;have r8:=r5.mono g8;have lr4:=zk T8.2;refine⟨_,rfl,_,rfl,pp,_,_,_,rfl,rfl,SqL.of hp8,(by rw [wT]; exact zH hpv),_,_,rfl,rfl,(by show(2:Int)≠0; decide),rfl,_,rfl,?_⟩;refine ite2 (fun c=>?_) (fun c=>?_)
    ·have c':p.fmod 2=0:=V.int.inj (of_decide_eq_true c);have p0:p=0\/p=2:=by
      rcases Pl.rng p (wc hp)with e | e | e | e
      ·exact .inl e
      ·rw [e] at c'; exact absurd c' (by decide)
      ·exact .inr e
      ·rw [e] at c'; exact absurd c' (by decide)
     refine⟨_,rfl,t4,rfl,⟨_,SqL.of T8.1⟩,?_⟩;refine zP (xs:=r4.map V.ref) (fun j ys H'=>Same H8 H'/\ys =(wD j false).map V.bl) ⟨Same.refl _,rfl⟩ ?_ ?_ ?_
     ·rintro j ys H' hj ⟨g,rfl⟩
      refine⟨SqL.of (g _ _ T8.1),?_⟩;rw [wa] at hj;rw [wa,wQ]; omega
     ·rintro j v ys H' hv hj ⟨g,rfl⟩
      obtain⟨row,a,hrow,ha,rfl,hR⟩:=(T8.mono g).row hv;have orow:=o4 row (wc hrow);obtain⟨us,hu,pu,lu⟩:=hR.len;obtain⟨x,hx⟩ : ∃ x,row[i]?=some x:=⟨row[i]'(by omega),wb (by omega)⟩;obtain⟨u,eu,ru⟩:=yi pu hx;have zx:=sgtZ hp p0 (wc hrow) hx
      first | refine gyes ?_ | refine tyes ?_
      refine⟨_,rfl,_,rfl,a,_,_,u,rfl,rfl,SqL.of hu,(by rw [wT]; exact zH eu),_,rfl,toD x,toD (nnum k 0),ru,r8.mono g,yN _,yN _,wF (vD _ _) (wF (xt _) (by decide)),?_⟩;rw [jH,decide_eq_true zx];exact nxt hj ⟨g,by rw [uk,ww]; rfl⟩
     ·rintro ys H' ⟨g,rfl⟩ p1 hp1
      refine⟨p1,wD (r4.map V.ref).length false,rfl,zh,_,rfl,?_⟩;rw [XL];refine iteF ?_;exact⟨_,_,rfl,g8.trans (g.trans (zf hp1 _))⟩
    ·refine iteF ?_;exact⟨_,_,rfl,g8⟩
   ·intro next;refine⟨_,rfl,_,rfl,pp,_,_,_,rfl,rfl,SqL.of hp7,(by rw [wT]; exact zH hpv),_,_,rfl,rfl,_,rfl,?_⟩;refine ite2 (fun c=>?_) (fun c=>?_)
    ·have p1:1<p:=of_decide_eq_true c;obtain⟨row,hrow⟩ : ∃ r,W3[i]?=some r:=⟨W3[i]'(by omega),wb (by omega)⟩;have orow:=o3 row (wc hrow);obtain⟨a,ea,ra'⟩:=yi (T3.mono g7).2 hrow;obtain⟨us,hu,pu,lu⟩:=ra'.len;refine⟨_,rfl,_,rfl,t3,_,_,.ref a,rfl,rfl,SqL.of (T3.mono g7).1,(by rw [wT]; exact zH (by rw [wg,ea]; rfl)),a,rfl,⟨_,SqL.of hu⟩,?_⟩;refine zP (xs:=us) (fun j ys H'=>Same H7 H'/\ys =(wD j false).map V.bl) ⟨Same.refl _,rfl⟩ ?_ ?_ ?_
     ·rintro j ys H' hj ⟨g,rfl⟩
      refine⟨SqL.of (g _ _ hu),?_⟩;rw [wa,wQ]; omega
     ·rintro j v ys H' hv hj ⟨g,rfl⟩
      obtain⟨x,hx,rx⟩:=ye pu hv;have zx:=hndZ hp p1 hrow (wc hx)
      first | refine gyes ?_ | refine tyes ?_
      refine⟨_,rfl,_,rfl,toD x,toD (nnum k 0),rx.mono g,r7.mono g,yN _,yN _,wF (vD _ _) (wF (xt _) (by decide)),?_⟩;rw [jH,decide_eq_true zx];exact nxt hj ⟨g,by rw [uk,ww]; rfl⟩
     ·rintro ys H' ⟨g,rfl⟩ p2 hp2
      refine⟨p2,wD us.length false,rfl,zh,_,rfl,?_⟩;rw [XL];refine iteF ?_;exact next _ _ ⟨rfl,g7.trans (g.trans (zf hp2 _))⟩
    ·refine iteF ?_;exact next _ _ ⟨rfl,g7⟩
 ·rintro σ H6 ⟨o9,o10,rfl,g6⟩
  exact q H6 (g15.trans g6)
theorem cutN{ns:List Int}(N:Nat):cutV (ns.map V.int) none (some (N:Int)) =(ns.take N).map V.int:=by
 unfold cutV;rw [HT.Xs,wa8,wag,HT.Ym,wa,Gz]
 rcases wN N ns.length with h | h
 ·rw [gO (by omega)]
 ·rw [gv (by omega),wp (by rw [wa]; exact wu _),wp (by rw [wa]; exact h)]
theorem ziK{X:Cx}{K:PySem.W.Frag}{tg l:Expr}{tl:TE}(hK:X.K=K)(hl:PE X l tl):PI X tg l (iTup K tl):=hK ▸ zhA hl
theorem zjc {f:Addr} {fd:FuncData} (F:Fun K "law" "law" zgG f fd) (JD:Kn P w K mg base "_law_machine" 46 ["_law_cells", "_law_most"] Jt) (zbS:Kn P w K mg base "_law_copy" 1 ["_law_machine_here"] zdl) (zf5:Kn P w K mg base "parting" 52 ["kind", "machine"] Ql) (xQ:Kn P w K mg base "_law_whole" 1 ["_law_found"] Qq) (Zq:Kn P w K mg base "_law_is_rows" 4 ["_law_prime_here", "_law_found", "_law_rows", "_law_columns"] Qn) (yp:Kn P w K mg base "_law_product" 44 ["_law_prime_here", "_law_one", "_law_other"] qb) (zcm:Kn P w K mg base "_law_unit" 2 ["_law_prime_here", "_law_size"] zcU) (Xd:Kn P w K mg base "_law_stretches" 1 ["_law_sizes"] Jc) (yT:Kn P w K mg base "_law_across" 1 ["_law_table"] xO) (yw:Kn P w K mg base "_law_reduced" 44 ["_law_prime_here", "_law_rows"] qs) (JF:Kn P w K mg base "_law_steered" 45 ["_law_prime_here", "_law_machine_here"] XU) (QA:Kn P w K mg base "_law_sights" 45 ["_law_prime_here", "_law_machine_here", "_law_many"] JT) (QR:Kn P w K mg base "_law_kernel" 45 ["_law_prime_here", "_law_rows", "_law_n"] Qj) (JL:Kn P w K mg base "_law_noughts" 45 ["_law_prime_here", "_law_machine_here", "_law_turn", "_law_backward", "_law_places"] Jr) (m_len:mg "len" = none) (zy:mg "range" = none) (zS:mg "isinstance" = none) (xC:mg "tuple" = none) (m_all:mg "all" = none) (m_sum:mg "sum" = none) :
  FnOk P w K mg base CX0 53 f fd ["_law_script"] (spLaw K):=by
 refine F.ok sc_law (fun vs H Q E h=>?_) (fun cdv A' outer s' H vs Q E hr h=>?_)
 ·obtain⟨a,ns,rfl,_⟩:=h; rfl
 obtain⟨a,ns,rfl,hS,h63,q⟩:=h;have szl:sizeLine=16777216:=by decide
 refine⟨_,(zc (zm (i:=1) sc_law.nd rfl (.inl rfl) (zq Zr (Zf (zhb (K:=K) rfl) (pv 0) Xx (Zy ze)) (yF (za ze zd)))) (zc (jA (zt JD (hr.mono (by decide)) rfl (za (pv 1) (za (yF (za ze (za ze zd))) zd))) (zcs (K:=K) 3 rfl rfl (zT (zi (i:=2) sc_law.nd rfl (.inl rfl)) (zT (zi (i:=3) sc_law.nd rfl (.inl rfl)) (zT (zi (i:=4) sc_law.nd rfl (.inl rfl)) xB))))) (zc (zm (i:=5) sc_law.nd rfl (.inl rfl) (zE (ZI (K:=K) rfl) rfl m_len yk (za (zG (zfd (K:=K) rfl) (pv 3) ze (fun _ _=>rfl)) zd))) (zc (zm (i:=6) sc_law.nd rfl (.inl rfl) (zt zbS (hr.mono (by decide)) rfl (za (pv 3) zd))) (zc (zm (i:=7) sc_law.nd rfl (.inl rfl) (zt zf5 (hr.mono (by decide)) rfl (za (pv 2) (za (pv 6) zd)))) (zc (yj (PW.pt (pw_or (zD (Zs hr) (pv 6) (pv 3) (nomark _)) (pw_or (jS (xZ (zE (ji (K:=K) rfl) rfl zS yE (za (pv 7) (za (zcj rfl xC Yb) zd))))) (pw_or (zD Xh (zE (ZI (K:=K) rfl) rfl m_len yk (za (pv 7) zd)) ze (nomark _)) (pw_or1 (jS (xZ (zE (ji (K:=K) rfl) rfl zS yE (za (zG (zfd (K:=K) rfl) (pv 7) ze (fun _ _=>rfl)) (za (zcj rfl xC Yb) zd)))))))))) (zg (zp ZP)) zK) (zc (jA (pv 7) (zcs (K:=K) 3 rfl rfl (zT (zi (i:=8) sc_law.nd rfl (.inl rfl)) (zT (zi (i:=9) sc_law.nd rfl (.inl rfl)) (zT (zi (i:=10) sc_law.nd rfl (.inl rfl)) xB))))) (zc (yj (PW.pt (pw_or (zD Xh (zE (ZI (K:=K) rfl) rfl m_len yk (za (pv 10) zd)) ze (nomark _)) (pw_or (jS (xZ (zE (zby rfl) rfl m_all zhs (za (zN ["_law_one"] [] [] ⟨rfl,rfl,rfl,rfl,rfl,rfl,by decide +kernel⟩ rfl (ziK (K:=K) rfl (pv 10)) (zj (by decide)) fun _ _ _ _ _ _=>⟨(zi (i:=0) (by decide:(["_law_one"]:List Str).Nodup) rfl (by first | exact Or.inl rfl | exact Or.inr rfl)),zL,(JV (zt xQ (hr.mono (by decide)) rfl (za (pv 0) zd)) (ZO (yx zjW (pv 0) ze (nomark _))))⟩) zd)))) (pw_or1 (zD Xh (zE (zfs rfl) rfl m_sum zhM (za (pv 10) zd)) (pv 5) (nomark _)))))) (zg (zp ZP)) zK) (zc (yj (PW.pt (pw_or (jS (xZ (zt Zq (hr.mono (by decide)) rfl (za (pv 2) (za (pv 8) (za (pv 5) (za (pv 5) zd))))))) (pw_or1 (jS (xZ (zt Zq (hr.mono (by decide)) rfl (za (pv 2) (za (pv 9) (za (pv 5) (za (pv 5) zd)))))))))) (zg (zp ZP)) zK) (zc (yj (zD (Zs hr) (zt yp (hr.mono (by decide)) rfl (za (pv 2) (za (pv 9) (za (pv 8) zd)))) (zt zcm (hr.mono (by decide)) rfl (za (pv 2) (za (pv 5) zd))) (nomark _)) (zg (zp ZP)) zK) (zc (zm (i:=11) sc_law.nd rfl (.inr rfl) (zt Xd (hr.mono (by decide)) rfl (za (pv 10) zd))) (zc (zm (i:=12) sc_law.nd rfl (.inr rfl) (zt yT (hr.mono (by decide)) rfl (za (pv 8) zd))) (zc (yj (zD (Zs hr) (zt yw (hr.mono (by decide)) rfl (za (pv 2) (za (zN ["_law_k"] ["_law_columns", "_law_places"] [12,11] ⟨rfl,rfl,rfl,rfl,rfl,rfl,by decide +kernel⟩ rfl (zM rfl zy (za (pv 5) zd)) (zj (by decide)) fun _ _ _ _ _ _=>⟨(zi (i:=0) (by decide:(["_law_k", "_law_columns", "_law_places"]:List Str).Nodup) rfl (by first | exact Or.inl rfl | exact Or.inr rfl)),(qD (zD zfG (zG (Xr (K:=K) rfl) (pv 2) (pv 0) (fun _ _=>rfl)) ze (nomark _))),(zG (Xr (K:=K) rfl) (pv 1) (pv 0) (fun _ _=>rfl))⟩) zd))) (zt JF (hr.mono (by decide)) rfl (za (pv 2) (za (pv 3) zd))) (nomark _)) (zg (zp ZP)) zK) (zc (zm (i:=13) sc_law.nd rfl (.inl rfl) (zt QR (hr.mono (by decide)) rfl (za (pv 2) (za (zt QA (hr.mono (by decide)) rfl (za (pv 2) (za (pv 3) (za (pv 5) zd)))) (za (pv 5) zd))))) (zc (yj (zD (Zs hr) (zt yw (hr.mono (by decide)) rfl (za (pv 2) (za (zN ["_law_k"] ["_law_columns", "_law_places"] [12,11] ⟨rfl,rfl,rfl,rfl,rfl,rfl,by decide +kernel⟩ rfl (zM rfl zy (za (pv 5) zd)) (zj (by decide)) fun _ _ _ _ _ _=>⟨(zi (i:=0) (by decide:(["_law_k", "_law_columns", "_law_places"]:List Str).Nodup) rfl (by first | exact Or.inl rfl | exact Or.inr rfl)),(qD (zD yI (zq zQ (zG (Xr (K:=K) rfl) (pv 2) (pv 0) (fun _ _=>rfl)) ze) ze (nomark _))),(zG (Xr (K:=K) rfl) (pv 1) (pv 0) (fun _ _=>rfl))⟩) zd))) (pv 13) (nomark _)) (zg (zp ZP)) zK) (zg (zp (zt JL (hr.mono (by decide)) rfl (za (pv 2) (za (pv 3) (za (pv 8) (za (pv 9) (za (pv 11) zd))))))))))))))))))))))),?_⟩;refine⟨_,rfl,_,rfl,a,_,rfl,hS,fun p1 hp1=>?_⟩;refine⟨(by show 1<=sizeLine; decide),fun p2 hp2=>?_⟩;have n12:p1≠p2:=fun e=>by rw [e,zh] at hp2; cases hp2
 rw [show((63:Int)) =((63:Nat):Int)from rfl,cutN 63] at *;refine⟨p1,p2,_,_,rfl,rfl,(by rw [zR n12]; exact zh),zh,?_,fun p3 hp3=>?_⟩
 ·rw [wa,wv]; show min 63 ns.length+1<=sizeLine; omega
 have e3:(ns.take 63).map V.int++[V.int 0] =(ns.take 63++[0]).map V.int:=by simp
 rw [e3];have hc0:upd (upd (upd H p1 (.lst ((ns.take 63).map V.int))) p2 (.lst [V.int 0])) p3 (.lst ((ns.take 63++[0]).map V.int)) p3=some (.lst ((ns.take 63++[0]).map V.int)):=zh;have lcs:(ns.take 63++[(0:Int)]).length<=1000:=by rw [wx,wv]; show min 63 ns.length+1<=1000; omega
 have ncs:ns.take 63++[(0:Int)]≠[]:=by simp
 generalize upd (upd (upd H p1 (.lst ((ns.take 63).map V.int))) p2 (.lst [V.int 0])) p3 (.lst ((ns.take 63++[0]).map V.int))=H0 at *;generalize ns.take 63++[(0:Int)]=cs at *;refine⟨_,rfl,(by show 2<=sizeLine; decide),fun pq hpq=>?_⟩;have g1:=zf hpq (.lst [V.int 3,V.int 5]);refine⟨p3,pq,cs,3,5,rfl,g1 _ _ hc0,ncs,lcs,zh,(by decide),(by decide),(by decide),(by decide),fun k n m s at' A B C pr pm ta tb tc ra rb rc H2 g2 hpr hM hs ft oM wM m1 m2 s1 s2 nab=>?_⟩;have hk:=hs.ok;clear g1 hc0;refine⟨pr,_,rfl,SqT.of hpr,rfl,_,_,rfl,_,_,rfl,_,_,rfl,rfl,?_⟩;have n1:=ft.1;have n10:=ft.n10;have lA:=oM.a.len;have lB:=oM.b.len;have lC:=oM.c.len;have la:=zk hM.a.2;rw [oM.a.len] at la;have n3:k=0->n<=3:=fun e=>by
  rcases ft.2 with h | h
  ·exact h
  ·exact absurd e h.1
 refine⟨_,rfl,pm,_,_,.ref ta,rfl,rfl,SqT.of hM.tup,rfl,ta,_,rfl,.inl (SqL.of hM.a.1),?_⟩;rw [wa,← la];refine⟨_,rfl,A,B,C,pm,ta,tb,tc,ra,rb,rc,rfl,hM,by omega,by omega,by omega,fun ph ua ub uc va vb vc H3 g3 hN=>?_⟩;have hM3:=hM.mono g3;have n5:n<=5:=by rcases nab with h | h <;> omega
 obtain⟨wA,wB,wC,_⟩:=wM;refine⟨_,rfl,_,rfl,k,A,B,C,n,m,s,ph,ua,ub,uc,va,vb,vc,rfl,hk,hN,ft,n5,oM,⟨wA,wB,wC⟩,m1,by omega,s1,by omega,fun R L U X S a b c d pt tT tS tz rT rS H4 g4 hpt htz TT TS Pt ⟨rdR,rdU⟩ ⟨oX,lX⟩ ⟨oS,lS⟩ pru Pl sum ⟨sX,sS⟩=>?_⟩;have hM4:=hM3.mono g4;have hN4:=hN.mono g4;clear g3 g4 hM3 hN hM;refine⟨_,rfl,_,rfl,machD A B C,machD A B C,hN4.rp,hM4.rp,zbJ A B C,zbJ A B C,wF (vD _ _) (wF (zcy A B C) (by decide)),_,rfl,?_⟩;rw [zd2];refine iteF ?_;refine⟨_,rfl,_,_,_,_,rfl,TyOf.tup hpt,zfn K,_,rfl,iteF ?_⟩;refine⟨_,rfl,pt,_,rfl,.inr (SqT.of hpt),rfl,_,rfl,iteF ?_⟩;refine⟨_,rfl,pt,_,_,.ref tz,rfl,rfl,SqT.of hpt,rfl,_,_,_,_,rfl,TyOf.tup htz,zfn K,_,rfl,iteF ?_⟩;refine⟨_,rfl,pt,_,rfl,SqT.of hpt,rfl,_,_,rfl,_,_,rfl,_,_,rfl,rfl,?_⟩;refine⟨_,rfl,tz,_,rfl,.inr (SqT.of htz),rfl,_,rfl,iteF ?_⟩;refine⟨_,rfl,tz,rfl,⟨_,SqT.of htz⟩,?_⟩;refine zcN (xs:=[(a:Int),(b:Int),(c:Int),(d:Int)].map V.int) (fun i ys H'=>H'=H4/\ys =(wD i true).map V.bl) ⟨rfl,rfl⟩ ?_ ?_ ?_
 ·rintro i ys H' hi ⟨rfl,rfl⟩
  refine⟨SqT.of htz,?_⟩;have hi':i<=4:=hi;rw [wa,wQ]; omega
 ·rintro i v ys H' hv hi ⟨rfl,rfl⟩
  obtain⟨z,rfl⟩ : ∃ z:Nat,v=.int (z:Int):=by
   match i,hv with
   | 0,hv=>exact⟨a,(Option.some.inj hv).symm⟩
   | 1,hv=>exact⟨b,(Option.some.inj hv).symm⟩
   | 2,hv=>exact⟨c,(Option.some.inj hv).symm⟩
   | 3,hv=>exact⟨d,(Option.some.inj hv).symm⟩
   | i+4,hv=>exact absurd hv (by simp)
  first | refine gyes ?_ | refine tyes ?_
  refine⟨_,rfl,(z:Int),rfl,_,rfl,iteT ?_⟩;refine⟨_,rfl,_,_,rfl,rfl,?_⟩;refine nxt hi ⟨rfl,?_⟩;rw [uk,ww];show _++[V.bl (decide ((0:Int)<=(z:Int)))]=_;rw [decide_eq_true (show(0:Int)<=(z:Int) by omega)]; rfl
 rintro ys H5 ⟨rfl,rfl⟩ p5 hp5
 have g5:=zf hp5 (.lst ((wD ([(a:Int),(b:Int),(c:Int),(d:Int)].map V.int).length true).map V.bl));refine⟨p5,wD ([(a:Int),(b:Int),(c:Int),(d:Int)].map V.int).length true,rfl,zh,_,rfl,?_⟩;rw [Qt];refine iteF ?_;generalize upd H5 p5 (.lst ((wD ([(a:Int),(b:Int),(c:Int),(d:Int)].map V.int).length true).map V.bl))=H6 at *;have hM6:=hM4.mono g5;have TT6:=TT.mono g5;have TS6:=TS.mono g5;have htz6:=g5 _ _ htz;have sm:[(a:Int),(b:Int),(c:Int),(d:Int)].sum =(n:Int):=by simp; omega
 refine⟨_,rfl,tz,[(a:Int),(b:Int),(c:Int),(d:Int)],rfl,htz6,_,rfl,rfl,_,rfl,?_⟩;rw [sm,decide_eq_true rfl];refine iteF ?_;clear hM4 hN4 g5 hp5 TT TS hpt htz;have oT:La.OkM k n (transp n X):=by have:=yG oX; rw [lX] at this; exact this
 have lT:=zV n X;have sT:∀ r∈transp n X,∀ y∈r,szk k 36512 y:=fun r hr y hy k0=>zeF (fun r hr=>(oX r hr).1) (fun r hr x hx=>sX r hr x hx k0) r hr y hy
 refine⟨_,rfl,_,rfl,_,rfl,_,rfl,k,transp n X,tT,rT,_,_,rfl,hk,TT6,(by rw [lT]),(fun r hr=>⟨by rw [(oT r hr).1],(oT r hr).2⟩),(by rw [lT]; omega),fun H7 g7=>⟨_,rfl,iteF ?_⟩⟩;refine⟨_,rfl,_,rfl,_,rfl,_,rfl,k,S,tS,rS,_,_,rfl,hk,TS6.mono g7,(by rw [lS]),(fun r hr=>⟨by rw [(oS r hr).1],(oS r hr).2⟩),(by omega),fun H8 g8=>⟨_,rfl,iteF ?_⟩⟩;have g78:=g7.trans g8;refine⟨_,rfl,_,rfl,_,rfl,k,S,transp n X,n,n,1168392,36512,tS,tT,rS,rT,rfl,hk,TS6.mono g78,TT6.mono g78,oS,oT,lT,sS,sT,by decide,n1,n10,n1,n10,by omega,fun t1 r1 H9 g9 N9=>?_⟩;refine⟨_,rfl,_,rfl,k,n,rfl,hk,by omega,fun t2 r2 H10 g10 N10=>?_⟩;have eST:prodM k n S (transp n X)=La.unitM k n:=La.PairU.prod hk pru oS lS oT lT;refine⟨tabD _,tabD _,(N9.tab.mono g10).rp,N10.tab.rp,xx _,xx _,wF (vD _ _) (wF (xD _) (by decide)),_,rfl,?_⟩;rw [Qv,decide_eq_true eST];refine iteF ?_;have g610:=(g78.trans g9).trans g10;refine⟨_,rfl,tz,a,b,c,d,rfl,g610 _ _ htz6,by omega,fun pp H11 g11 hpp=>?_⟩;have g611:=g610.trans g11;have tt:=qt oX;rw [lX] at tt;refine⟨_,rfl,transp n X,n,tT,rT,rfl,TT6.mono g611,(fun e=>by rw [e] at lT; simp at lT; omega),(fun r hr=>(oT r hr).1),by omega,by omega,fun tcl rcl H12 g12 N12=>?_⟩;rw [tt] at N12;have TC:=N12.tab;have hpp12:=g12 _ _ hpp;have g612:=g611.trans g12;have hM12:=hM6.mono g612;have TT12:=TT6.mono g612;have TS12:=TS6.mono g612;clear N9 N10 N12 g78 g7 g8 g9 g10 g11 g12 g610 g611 hM6 TT6 TS6 htz6 hpp;refine⟨_,rfl,_,rfl,n,rfl,by omega,by omega,?_⟩;rw [wP];refine yb (lo:=0) (n:=n) (fun i ys H'=>H'=H12/\∃(Y:List (List Nb))(ry:List Addr),ys=ry.map V.ref/\Paired (RowAt H12) Y ry/\Y.length<=i/\(∀ r,r∈Y↔∃(j:Nat)(p:Int),j<i/\(plc a b c d)[j]?=some p/\(p<2)/\X[j]?=some r)) ⟨rfl,[],[],rfl,.nil,wu _,fun r=>⟨(fun h=>nomatch h),fun⟨_,_,h,_⟩=>absurd h (vH _)⟩⟩ ?_ ?_ ?_
 ·rintro i ys H' hi ⟨_,Y,ry,rfl,pY,lY,_⟩
  have:=zk pY;rw [wa]; omega
 ·rintro i ys H' hi ⟨rfl,Y,ry,rfl,pY,lY,eY⟩
  obtain⟨p,hp⟩ : ∃ p,(plc a b c d)[i]?=some p:=⟨(plc a b c d)[i]'(by rw [Jz]; omega),wb (by rw [Jz]; omega)⟩;have rp:=Pl.rng p (wc hp);have hpv:((plc a b c d).map V.int)[i]?=some (.int p):=by rw [wg,hp]; rfl
  obtain⟨x,hx⟩ : ∃ x,X[i]?=some x:=⟨X[i]'(by omega),wb (by omega)⟩;obtain⟨a',ea,rx⟩:=yi TC.2 hx;refine⟨_,rfl,_,rfl,pp,_,_,_,rfl,rfl,SqL.of hpp12,(by rw [wT]; exact zH hpv),_,_,rfl,rfl,_,rfl,?_⟩;refine ite2 (fun cc=>?_) (fun cc=>?_)
  ·have cp:p<2:=by exact of_decide_eq_true cc
   refine⟨_,rfl,_,rfl,tcl,_,_,.ref a',rfl,rfl,SqL.of TC.1,(by rw [wT]; exact zH (by rw [wg,ea]; rfl)),nxt hi ⟨rfl,Y++[x],ry++[a'],by rw [ww]; rfl,zZ pY rx,by rw [wx]; show Y.length+1<=i+1; omega,fun r=>⟨fun hr=>?_,fun⟨j,p',hj,e1,e2,e3⟩=>?_⟩⟩⟩
   ·rcases wq.mp hr with h | h
    ·obtain⟨j,p',hj,e1,e2,e3⟩:=(eY r).mp h;exact⟨j,p',by omega,e1,e2,e3⟩
    ·rw [wt.mp h];exact⟨i,p,vS i,hp,cp,hx⟩
   ·rcases vO (ud hj)with h | h
    ·exact wE _ ((eY r).mpr ⟨j,p',h,e1,e2,e3⟩)
    ·rw [h,hx] at e3;rw [← Option.some.inj e3];exact wy _ wm
  ·have cp:¬(p<2):=by exact fun z=>cc (decide_eq_true z)
   refine nxt hi ⟨rfl,Y,ry,rfl,pY,by omega,fun r=>⟨fun hr=>?_,fun⟨j,p',hj,e1,e2,e3⟩=>?_⟩⟩
   ·obtain⟨j,p',hj,e1,e2,e3⟩:=(eY r).mp hr;exact⟨j,p',by omega,e1,e2,e3⟩
   ·rcases vO (ud hj)with h | h
    ·exact(eY r).mpr ⟨j,p',h,e1,e2,e3⟩
    ·rw [h,hp] at e1;rw [← Option.some.inj e1] at e2;exact absurd e2 cp
 rintro ys H' ⟨rfl,Y1,ry,rfl,pY,lY,eY⟩ py hpy
 have g13:=zf hpy (.lst (ry.map V.ref));have TY:TabAt (upd H' py (.lst (ry.map V.ref))) Y1 py ry:=⟨zh,xR (fun _ _ r=>r.mono g13) pY⟩;generalize upd H' py (.lst (ry.map V.ref))=H13 at *;have lP:=Pl.len;have oY:La.OkM k n Y1:=fun r hr=>by
  obtain⟨j,p,_,_,_,e⟩:=(eY r).mp hr;exact oX r (wc e)
 have sY:∀ r∈Y1,∀ x∈r,szk k 36512 x:=fun r hr=>by
  obtain⟨j,p,_,_,_,e⟩:=(eY r).mp hr;exact sX r (wc e)
 refine⟨k,n,36512,Y1,py,ry,rfl,hs,TY,oY,sY,n3,n10,(fun e=>wF (ju _ (show min n Y1.length<=3 by have:=n3 e; omega)) (by decide)),by omega,fun R1 l1 t1' q1' H14 g14 TR1 iR1 eR1 _=>?_⟩;refine⟨_,rfl,_,rfl,k,A,B,C,n,m,s,pm,ta,tb,tc,ra,rb,rc,rfl,hs,(hM12.mono g13).mono g14,ft,oM,by omega,fun W lw tw qw H15 g15 TW1 iW eW=>?_⟩;have yR:SameR k Y1 R:=fun F _ φ v=>⟨fun hv=>hv.bind fun u ⟨r,hr,e⟩=>by
   obtain⟨j,p,_,e1,e2,e3⟩:=(eY r).mp hr;rw [e];exact Pl.inR j p r e1 e2 e3 F φ,fun hv=>Pl.spR Y1 (fun j p r e1 e2 e3=>(eY r).mpr ⟨j,p,by have:=(wo.mp e3).1; omega,e1,e2,e3⟩) F φ v hv⟩
 have e1:R1=W:=Xn hk iR1 iW fun F _ φ v=>((eR1 F φ v).trans (yR F φ v)).trans ((Pt.r.eq F φ v).trans (eW F φ v).symm)
 refine⟨tabD _,tabD _,(TR1.mono g15).rp,TW1.rp,xx _,xx _,wF (vD _ _) (wF (xD _) (by decide)),_,rfl,?_⟩;rw [Qv,decide_eq_true e1];refine iteF ?_;have g1215:=(g13.trans g14).trans g15;have hM15:=hM12.mono g1215;clear TY oY sY eR1 iR1 TR1 e1 yR eW iW TW1 pY lY eY hpy g13 g14 g15;refine⟨_,rfl,_,rfl,_,rfl,_,rfl,k,A,B,C,n,m,s,pm,ta,tb,tc,ra,rb,rc,rfl,hk,hM15,ft,oM,s1,by omega,fun S1 ps rS1 H16 g16 hS1 oS1 sS1 lS1 eS1=>?_⟩;refine⟨_,rfl,k,n,S1,ps,rS1,rfl,hs,hS1,oS1,sS1,n3,n1,n10,by omega,fun U' lu tu ru H17 g17 hU' iU' pe' _=>?_⟩;have g1217:=(g1215.trans g16).trans g17;have TC17:=TC.mono g1217;have hpp17:=g1217 _ _ hpp12;have hM17:=hM12.mono g1217;have TT17:=TT12.mono g1217;have TS17:=TS12.mono g1217;clear g16 g17 g1215 hM15 TC hpp12;refine⟨_,rfl,_,rfl,n,rfl,by omega,by omega,?_⟩;rw [wP];refine yb (lo:=0) (n:=n) (fun i ys H'=>H'=H17/\∃(Y:List (List Nb))(ry:List Addr),ys=ry.map V.ref/\Paired (RowAt H17) Y ry/\Y.length<=i/\(∀ r,r∈Y↔∃(j:Nat)(p:Int),j<i/\(plc a b c d)[j]?=some p/\(p=0\/p=2)/\X[j]?=some r)) ⟨rfl,[],[],rfl,.nil,wu _,fun r=>⟨(fun h=>nomatch h),fun⟨_,_,h,_⟩=>absurd h (vH _)⟩⟩ ?_ ?_ ?_
 ·rintro i ys H' hi ⟨_,Y,ry,rfl,pY,lY,_⟩
  have:=zk pY;rw [wa]; omega
 ·rintro i ys H' hi ⟨rfl,Y,ry,rfl,pY,lY,eY⟩
  obtain⟨p,hp⟩ : ∃ p,(plc a b c d)[i]?=some p:=⟨(plc a b c d)[i]'(by rw [Jz]; omega),wb (by rw [Jz]; omega)⟩;have rp:=Pl.rng p (wc hp);have hpv:((plc a b c d).map V.int)[i]?=some (.int p):=by rw [wg,hp]; rfl
  obtain⟨x,hx⟩ : ∃ x,X[i]?=some x:=⟨X[i]'(by omega),wb (by omega)⟩;obtain⟨a',ea,rx⟩:=yi TC17.2 hx;refine⟨_,rfl,_,rfl,pp,_,_,_,rfl,rfl,SqL.of hpp17,(by rw [wT]; exact zH hpv),_,_,rfl,rfl,(by show(2:Int)≠0; decide),rfl,_,rfl,?_⟩;refine ite2 (fun cc=>?_) (fun cc=>?_)
  ·have cp:p=0\/p=2:=by have c':p.fmod 2=0:=V.int.inj (of_decide_eq_true cc); rcases rp with e | e | e | e <;> subst e <;> first | exact .inl rfl | exact .inr rfl | exact absurd c' (by decide)
   refine⟨_,rfl,_,rfl,tcl,_,_,.ref a',rfl,rfl,SqL.of TC17.1,(by rw [wT]; exact zH (by rw [wg,ea]; rfl)),nxt hi ⟨rfl,Y++[x],ry++[a'],by rw [ww]; rfl,zZ pY rx,by rw [wx]; show Y.length+1<=i+1; omega,fun r=>⟨fun hr=>?_,fun⟨j,p',hj,e1,e2,e3⟩=>?_⟩⟩⟩
   ·rcases wq.mp hr with h | h
    ·obtain⟨j,p',hj,e1,e2,e3⟩:=(eY r).mp h;exact⟨j,p',by omega,e1,e2,e3⟩
    ·rw [wt.mp h];exact⟨i,p,vS i,hp,cp,hx⟩
   ·rcases vO (ud hj)with h | h
    ·exact wE _ ((eY r).mpr ⟨j,p',h,e1,e2,e3⟩)
    ·rw [h,hx] at e3;rw [← Option.some.inj e3];exact wy _ wm
  ·have cp:¬(p=0\/p=2):=by exact fun z=>cc (decide_eq_true (by rcases z with e | e <;> subst e <;> rfl))
   refine nxt hi ⟨rfl,Y,ry,rfl,pY,by omega,fun r=>⟨fun hr=>?_,fun⟨j,p',hj,e1,e2,e3⟩=>?_⟩⟩
   ·obtain⟨j,p',hj,e1,e2,e3⟩:=(eY r).mp hr;exact⟨j,p',by omega,e1,e2,e3⟩
   ·rcases vO (ud hj)with h | h
    ·exact(eY r).mpr ⟨j,p',h,e1,e2,e3⟩
    ·rw [h,hp] at e1;rw [← Option.some.inj e1] at e2;exact absurd e2 cp
 rintro ys H' ⟨rfl,Y2,ry,rfl,pY,lY,eY⟩ py hpy
 have g18:=zf hpy (.lst (ry.map V.ref));have TY2:TabAt (upd H' py (.lst (ry.map V.ref))) Y2 py ry:=⟨zh,xR (fun _ _ r=>r.mono g18) pY⟩;generalize upd H' py (.lst (ry.map V.ref))=H18 at *;have oY:La.OkM k n Y2:=fun r hr=>by
  obtain⟨j,p,_,_,_,e⟩:=(eY r).mp hr;exact oX r (wc e)
 have sY:∀ r∈Y2,∀ x∈r,szk k 36512 x:=fun r hr=>by
  obtain⟨j,p,_,_,_,e⟩:=(eY r).mp hr;exact sX r (wc e)
 refine⟨k,n,36512,Y2,py,ry,rfl,hs,TY2,oY,sY,n3,n10,(fun e=>wF (ju _ (show min n Y2.length<=3 by have:=n3 e; omega)) (by decide)),by omega,fun R2 l2 t2' q2' H19 g19 TR2 iR2 eR2 _=>?_⟩;have yU:SameR k Y2 U:=fun F _ φ v=>⟨fun hv=>hv.bind fun u ⟨r,hr,e⟩=>by
   obtain⟨j,p,_,e1,e2,e3⟩:=(eY r).mp hr;rw [e];exact Pl.inU j p r e1 e2 e3 F φ,fun hv=>Pl.spU Y2 (fun j p r e1 e2 e3=>(eY r).mpr ⟨j,p,by have:=(wo.mp e3).1; omega,e1,e2,e3⟩) F φ v hv⟩
 have e2:R2=U':=Xn hk iR2 iU' fun F _ φ v=>by
  refine((eR2 F φ v).trans (yU F φ v)).trans ?_;rw [Pt.u F φ v,pe' F φ v];have sr:∀ u,La.Rm φ S1 u↔La.Rm φ L u:=fun u=>(eS1 F φ u).trans (Pt.l.eq F φ u).symm
  exact⟨fun h=>⟨h.1,fun u hu=>h.2 u ((sr u).mp hu)⟩,fun h=>⟨h.1,fun u hu=>h.2 u ((sr u).mpr hu)⟩⟩
 refine⟨_,rfl,tabD _,tabD _,TR2.rp,((hU'.mono g18).mono g19).rp,xx _,xx _,wF (vD _ _) (wF (xD _) (by decide)),_,rfl,?_⟩;rw [Qv,decide_eq_true e2];refine iteF ?_;have g1719:=g18.trans g19;exact⟨_,rfl,_,rfl,_,rfl,_,rfl,_,rfl,k,A,B,C,X,S,R,L,U,_,n,m,s,pm,ta,tb,tc,tT,tS,pp,ra,rb,rc,rT,rS,rfl,hk,hM17.mono g1719,TT17.mono g1719,TS17.mono g1719,g1719 _ _ hpp17,n3,n10,oM,m1,by omega,by omega,Pt,Pl,⟨oX,lX⟩,⟨oS,lS⟩,⟨sX,sS⟩,fun H' _=>q H'⟩
end
end KL
open PySem PySem.W PyProof.Rows
set_option maxRecDepth 100000 in
set_option maxHeartbeats 0 in
theorem PySem.Challenge.cw_steermill_k41_partings_holds : PySem.Challenge.rw_steermill_k41_partings.Holds := by
 refine L2.zdC (l:=PySem.Challenge.rw_steermill_k41_partings) 53 3000 KL.lk KL.lv KL.h_ws rfl rfl rfl (by kernel_rfl) (by decide) (fun s=>by kernel_rfl) ⟨KL.h_st,KL.h_sn,KL.h_lk⟩ (by kernel_rfl) (by kernel_rfl) (by kernel_rfl) (by kernel_rfl) (by kernel_rfl) (by kernel_rfl) ⟨rfl,rfl,rfl,rfl,rfl,by decide +kernel⟩ (by w_witness2) (by decide +kernel) ⟨rfl,by decide,by decide⟩ ?F
 case F =>
  intro w mg fa h K KX hq G hmg
  have qf:=congrArg (·.1) hq
  have qm:=congrArg (·.2.1) hq
  have qe:=congrArg (·.2.2.1) hq
  have qc:=congrArg (·.2.2.2) hq
  have YD:L2.Df K mg "common_divisor" ["one", "other"] KL.xb:=L2.zY KX G (L2.zF qf 0 rfl rfl) fun _ _ _ _ _ _ us hl=>L2.bind2 (fun _ _=>rfl) us hl
  have zcc:L2.Df K mg "fraction" ["top", "bottom"] KL.Zl:=L2.zY KX G (L2.zF qf 1 rfl rfl) fun _ _ _ _ _ _ us hl=>L2.bind2 (fun _ _=>rfl) us hl
  have zcf:L2.Df K mg "one_over" ["prime", "rest"] KL.qZ:=L2.zY KX G (L2.zF qf 2 rfl rfl) fun _ _ _ _ _ _ us hl=>L2.bind2 (fun _ _=>rfl) us hl
  have zeP:L2.Df K mg "number" ["kind", "whole"] KL.Xi:=L2.zY KX G (L2.zF qf 3 rfl rfl) fun _ _ _ _ _ _ us hl=>L2.bind2 (fun _ _=>rfl) us hl
  have zhq:L2.Df K mg "minus" ["kind", "one", "other"] KL.QW:=L2.zY KX G (L2.zF qf 4 rfl rfl) fun _ _ _ _ _ _ us hl=>L2.bind3 (fun _ _ _=>rfl) us hl
  have zir:L2.Df K mg "over" ["kind", "one", "other"] KL.zc3:=L2.zY KX G (L2.zF qf 5 rfl rfl) fun _ _ _ _ _ _ us hl=>L2.bind3 (fun _ _ _=>rfl) us hl
  have zfR:L2.Df K mg "scaled" ["kind", "row"] KL.Xw:=L2.zY KX G (L2.zF qf 6 rfl rfl) fun _ _ _ _ _ _ us hl=>L2.bind2 (fun _ _=>rfl) us hl
  have zcD:L2.Df K mg "quotient" ["kind", "top", "bottom"] KL.Za:=L2.zY KX G (L2.zF qf 7 rfl rfl) fun _ _ _ _ _ _ us hl=>L2.bind3 (fun _ _ _=>rfl) us hl
  have zbi:L2.Df K mg "whole_sum" ["one", "other"] KL.qi:=L2.zY KX G (L2.zF qf 8 rfl rfl) fun _ _ _ _ _ _ us hl=>L2.bind2 (fun _ _=>rfl) us hl
  have ZT:L2.Df K mg "sum_of_products" ["kind", "one", "other"] KL.yV:=L2.zY KX G (L2.zF qf 9 rfl rfl) fun _ _ _ _ _ _ us hl=>L2.bind3 (fun _ _ _=>rfl) us hl
  have zgR:L2.Df K mg "eased" ["kind", "wholes"] KL.zac:=L2.zY KX G (L2.zF qf 10 rfl rfl) fun _ _ _ _ _ _ us hl=>L2.bind2 (fun _ _=>rfl) us hl
  have zdB:L2.Df K mg "cleared" ["kind", "row", "lead_row", "column"] KL.ZR:=L2.zY KX G (L2.zF qf 11 rfl rfl) fun _ _ _ _ _ _ us hl=>L2.bind4 (fun _ _ _ _=>rfl) us hl
  have zha:L2.Df K mg "swept" ["kind", "rows"] KL.zan:=L2.zY KX G (L2.zF qf 12 rfl rfl) fun _ _ _ _ _ _ us hl=>L2.bind2 (fun _ _=>rfl) us hl
  have zdW:L2.Df K mg "noughts" ["kind", "width"] KL.ZF:=L2.zY KX G (L2.zF qf 13 rfl rfl) fun _ _ _ _ _ _ us hl=>L2.bind2 (fun _ _=>rfl) us hl
  have zd5:L2.Df K mg "abreast" ["one", "other"] KL.Yg:=L2.zY KX G (L2.zF qf 14 rfl rfl) fun _ _ _ _ _ _ us hl=>L2.bind2 (fun _ _=>rfl) us hl
  have zf2:L2.Df K mg "strung" ["rows"] KL.Xk:=L2.zY KX G (L2.zF qf 15 rfl rfl) fun _ _ _ _ _ _ us hl=>L2.bind1 (fun _=>rfl) us hl
  have zfF:L2.Df K mg "turned" ["table"] KL.Xm:=L2.zY KX G (L2.zF qf 16 rfl rfl) fun _ _ _ _ _ _ us hl=>L2.bind1 (fun _=>rfl) us hl
  have zgq:L2.Df K mg "image" ["kind", "table", "row"] KL.QL:=L2.zY KX G (L2.zF qf 17 rfl rfl) fun _ _ _ _ _ _ us hl=>L2.bind3 (fun _ _ _=>rfl) us hl
  have zh4:L2.Df K mg "unit" ["kind", "size"] KL.zcG:=L2.zY KX G (L2.zF qf 18 rfl rfl) fun _ _ _ _ _ _ us hl=>L2.bind2 (fun _ _=>rfl) us hl
  have ZC:L2.Df K mg "over_one_bottom" ["kind", "table"] KL.yQ:=L2.zY KX G (L2.zF qf 19 rfl rfl) fun _ _ _ _ _ _ us hl=>L2.bind2 (fun _ _=>rfl) us hl
  have zdK:L2.Df K mg "lead_of" ["kind", "row"] KL.Yd:=L2.zY KX G (L2.zF qf 20 rfl rfl) fun _ _ _ _ _ _ us hl=>L2.bind2 (fun _ _=>rfl) us hl
  have zbA:L2.Df K mg "over_lead" ["kind", "wholes"] KL.qx:=L2.zY KX G (L2.zF qf 21 rfl rfl) fun _ _ _ _ _ _ us hl=>L2.bind2 (fun _ _=>rfl) us hl
  have zdG:L2.Df K mg "reduced" ["kind", "rows"] KL.ZB:=L2.zY KX G (L2.zF qf 22 rfl rfl) fun _ _ _ _ _ _ us hl=>L2.bind2 (fun _ _=>rfl) us hl
  have ziq:L2.Df K mg "back" ["kind", "table"] KL.zc5:=L2.zY KX G (L2.zF qf 23 rfl rfl) fun _ _ _ _ _ _ us hl=>L2.bind2 (fun _ _=>rfl) us hl
  have zet:L2.Df K mg "joined" ["kind", "one", "other"] KL.Xv:=L2.zY KX G (L2.zF qf 24 rfl rfl) fun _ _ _ _ _ _ us hl=>L2.bind3 (fun _ _ _=>rfl) us hl
  have QB:L2.Df K mg "against_by" ["kind", "n", "rows", "free"] KL.jz:=L2.zY KX G (L2.zF qf 25 rfl rfl) fun _ _ _ _ _ _ us hl=>L2.bind4 (fun _ _ _ _=>rfl) us hl
  have zdR:L2.Df K mg "against" ["kind", "n", "room"] KL.ZV:=L2.zY KX G (L2.zF qf 26 rfl rfl) fun _ _ _ _ _ _ us hl=>L2.bind3 (fun _ _ _=>rfl) us hl
  have ziS:L2.Df K mg "met" ["kind", "n", "one", "other"] KL.zgT:=L2.zY KX G (L2.zF qf 27 rfl rfl) fun _ _ _ _ _ _ us hl=>L2.bind4 (fun _ _ _ _=>rfl) us hl
  have zd0:L2.Df K mg "widened" ["kind", "table", "rows", "room"] KL.Yh:=L2.zY KX G (L2.zF qf 28 rfl rfl) fun _ _ _ _ _ _ us hl=>L2.bind4 (fun _ _ _ _=>rfl) us hl
  have Qy:L2.Df K mg "grown_room" ["kind", "table", "rows"] KL.jv:=L2.zY KX G (L2.zF qf 29 rfl rfl) fun _ _ _ _ _ _ us hl=>L2.bind3 (fun _ _ _=>rfl) us hl
  have zcl:L2.Df K mg "rests_of" ["table"] KL.Zo:=L2.zY KX G (L2.zF qf 30 rfl rfl) fun _ _ _ _ _ _ us hl=>L2.bind1 (fun _=>rfl) us hl
  have zar:L2.Df K mg "least_room" ["kind", "table", "rows"] KL.jr:=L2.zY KX G (L2.zF qf 31 rfl rfl) fun _ _ _ _ _ _ us hl=>L2.bind3 (fun _ _ _=>rfl) us hl
  have JJ:L2.Df K mg "unseen_room" ["kind", "machine"] KL.jc:=L2.zY KX G (L2.zF qf 32 rfl rfl) fun _ _ _ _ _ _ us hl=>L2.bind2 (fun _ _=>rfl) us hl
  have XJ:L2.Df K mg "steered_room" ["kind", "machine"] KL.xH:=L2.zY KX G (L2.zF qf 33 rfl rfl) fun _ _ _ _ _ _ us hl=>L2.bind2 (fun _ _=>rfl) us hl
  have zgk:L2.Df K mg "picked" ["kind", "room", "rows"] KL.Xj:=L2.zY KX G (L2.zF qf 34 rfl rfl) fun _ _ _ _ _ _ us hl=>L2.bind3 (fun _ _ _=>rfl) us hl
  have za3:L2.Df K mg "stretches" ["kind", "machine"] KL.qk:=L2.zY KX G (L2.zF qf 35 rfl rfl) fun _ _ _ _ _ _ us hl=>L2.bind2 (fun _ _=>rfl) us hl
  have zdQ:L2.Df K mg "parting" ["kind", "machine"] KL.ZJ:=L2.zY KX G (L2.zF qf 36 rfl rfl) fun _ _ _ _ _ _ us hl=>L2.bind2 (fun _ _=>rfl) us hl
  have Qz:L2.Df K mg "_law_whole" ["_law_found"] KL.jF:=L2.zY KX G (L2.zF qf 37 rfl rfl) fun _ _ _ _ _ _ us hl=>L2.bind1 (fun _=>rfl) us hl
  have Jm:L2.Df K mg "_law_divisor" ["_law_one", "_law_other"] KL.xF:=L2.zY KX G (L2.zF qf 38 rfl rfl) fun _ _ _ _ _ _ us hl=>L2.bind2 (fun _ _=>rfl) us hl
  have zaa:L2.Df K mg "_law_mixed" ["_law_cell", "_law_k"] KL.jD:=L2.zY KX G (L2.zF qf 39 rfl rfl) fun _ _ _ _ _ _ us hl=>L2.bind2 (fun _ _=>rfl) us hl
  have zak:L2.Df K mg "_law_drawn" ["_law_prime_here", "_law_cell"] KL.jy:=L2.zY KX G (L2.zF qf 40 rfl rfl) fun _ _ _ _ _ _ us hl=>L2.bind2 (fun _ _=>rfl) us hl
  have Xe:L2.Df K mg "_law_fraction" ["_law_top", "_law_bottom"] KL.xw:=L2.zY KX G (L2.zF qf 41 rfl rfl) fun _ _ _ _ _ _ us hl=>L2.bind2 (fun _ _=>rfl) us hl
  have zbN:L2.Df K mg "_law_make" ["_law_prime_here", "_law_whole_here"] KL.qg:=L2.zY KX G (L2.zF qf 42 rfl rfl) fun _ _ _ _ _ _ us hl=>L2.bind2 (fun _ _=>rfl) us hl
  have zaE:L2.Df K mg "_law_plus" ["_law_prime_here", "_law_one", "_law_other"] KL.ql:=L2.zY KX G (L2.zF qf 43 rfl rfl) fun _ _ _ _ _ _ us hl=>L2.bind3 (fun _ _ _=>rfl) us hl
  have zau:L2.Df K mg "_law_times" ["_law_prime_here", "_law_one", "_law_other"] KL.jw:=L2.zY KX G (L2.zF qf 44 rfl rfl) fun _ _ _ _ _ _ us hl=>L2.bind3 (fun _ _ _=>rfl) us hl
  have Qr:L2.Df K mg "_law_minus" ["_law_prime_here", "_law_one", "_law_other"] KL.jB:=L2.zY KX G (L2.zF qf 45 rfl rfl) fun _ _ _ _ _ _ us hl=>L2.bind3 (fun _ _ _=>rfl) us hl
  have YN:L2.Df K mg "_law_is_number" ["_law_prime_here", "_law_found"] KL.xc:=L2.zY KX G (L2.zF qf 46 rfl rfl) fun _ _ _ _ _ _ us hl=>L2.bind2 (fun _ _=>rfl) us hl
  have QS:L2.Df K mg "_law_image" ["_law_prime_here", "_law_table", "_law_column"] KL.js:=L2.zY KX G (L2.zF qf 47 rfl rfl) fun _ _ _ _ _ _ us hl=>L2.bind3 (fun _ _ _=>rfl) us hl
  have JM:L2.Df K mg "_law_across" ["_law_table"] KL.je:=L2.zY KX G (L2.zF qf 48 rfl rfl) fun _ _ _ _ _ _ us hl=>L2.bind1 (fun _=>rfl) us hl
  have Jd:L2.Df K mg "_law_product" ["_law_prime_here", "_law_one", "_law_other"] KL.xE:=L2.zY KX G (L2.zF qf 49 rfl rfl) fun _ _ _ _ _ _ us hl=>L2.bind3 (fun _ _ _=>rfl) us hl
  have JE:L2.Df K mg "_law_is_row" ["_law_prime_here", "_law_found", "_law_many"] KL.jf:=L2.zY KX G (L2.zF qf 50 rfl rfl) fun _ _ _ _ _ _ us hl=>L2.bind3 (fun _ _ _=>rfl) us hl
  have Jp:L2.Df K mg "_law_is_rows" ["_law_prime_here", "_law_found", "_law_rows", "_law_columns"] KL.xL:=L2.zY KX G (L2.zF qf 51 rfl rfl) fun _ _ _ _ _ _ us hl=>L2.bind4 (fun _ _ _ _=>rfl) us hl
  have zaO:L2.Df K mg "_law_back" ["_law_prime_here", "_law_one"] KL.qh:=L2.zY KX G (L2.zF qf 52 rfl rfl) fun _ _ _ _ _ _ us hl=>L2.bind2 (fun _ _=>rfl) us hl
  have JA:L2.Df K mg "_law_reduced" ["_law_prime_here", "_law_rows"] KL.xK:=L2.zY KX G (L2.zF qf 53 rfl rfl) fun _ _ _ _ _ _ us hl=>L2.bind2 (fun _ _=>rfl) us hl
  have Qs:L2.Df K mg "_law_prime" ["_law_cell"] KL.xp:=L2.zY KX G (L2.zF qf 54 rfl rfl) fun _ _ _ _ _ _ us hl=>L2.bind1 (fun _=>rfl) us hl
  have zdJ:L2.Df K mg "_law_at" ["_law_prime_here", "_law_cells", "_law_k"] KL.ZE:=L2.zY KX G (L2.zF qf 55 rfl rfl) fun _ _ _ _ _ _ us hl=>L2.bind3 (fun _ _ _=>rfl) us hl
  have QV:L2.Df K mg "_law_small" ["_law_prime_here", "_law_cells", "_law_k"] KL.jq:=L2.zY KX G (L2.zF qf 56 rfl rfl) fun _ _ _ _ _ _ us hl=>L2.bind3 (fun _ _ _=>rfl) us hl
  have zaz:L2.Df K mg "_law_sorts" ["_law_head", "_law_n", "_law_plain"] KL.jG:=L2.zY KX G (L2.zF qf 57 rfl rfl) fun _ _ _ _ _ _ us hl=>L2.bind3 (fun _ _ _=>rfl) us hl
  have YU:L2.Df K mg "_law_lets" ["_law_row", "_law_column"] KL.jj:=L2.zY KX G (L2.zF qf 58 rfl rfl) fun _ _ _ _ _ _ us hl=>L2.bind2 (fun _ _=>rfl) us hl
  have Jl:L2.Df K mg "_law_blocked" ["_law_prime_here", "_law_cells", "_law_sizes", "_law_sorts_here"] KL.xM:=L2.zY KX G (L2.zF qf 59 rfl rfl) fun _ _ _ _ _ _ us hl=>L2.bind4 (fun _ _ _ _=>rfl) us hl
  have YR:L2.Df K mg "_law_exchanged" ["_law_prime_here", "_law_tables", "_law_cell"] KL.xh:=L2.zY KX G (L2.zF qf 60 rfl rfl) fun _ _ _ _ _ _ us hl=>L2.bind3 (fun _ _ _=>rfl) us hl
  have XQ:L2.Df K mg "_law_machine" ["_law_cells", "_law_most"] KL.xG:=L2.zY KX G (L2.zF qf 61 rfl rfl) fun _ _ _ _ _ _ us hl=>L2.bind2 (fun _ _=>rfl) us hl
  have za8:L2.Df K mg "_law_copy" ["_law_machine_here"] KL.jU:=L2.zY KX G (L2.zF qf 62 rfl rfl) fun _ _ _ _ _ _ us hl=>L2.bind1 (fun _=>rfl) us hl
  have zaC:L2.Df K mg "_law_unit" ["_law_prime_here", "_law_size"] KL.jZ:=L2.zY KX G (L2.zF qf 63 rfl rfl) fun _ _ _ _ _ _ us hl=>L2.bind2 (fun _ _=>rfl) us hl
  have Je:L2.Df K mg "_law_steered" ["_law_prime_here", "_law_machine_here"] KL.xJ:=L2.zY KX G (L2.zF qf 64 rfl rfl) fun _ _ _ _ _ _ us hl=>L2.bind2 (fun _ _=>rfl) us hl
  have JH:L2.Df K mg "_law_sights" ["_law_prime_here", "_law_machine_here", "_law_many"] KL.jb:=L2.zY KX G (L2.zF qf 65 rfl rfl) fun _ _ _ _ _ _ us hl=>L2.bind3 (fun _ _ _=>rfl) us hl
  have JI:L2.Df K mg "_law_kernel" ["_law_prime_here", "_law_rows", "_law_n"] KL.jd:=L2.zY KX G (L2.zF qf 66 rfl rfl) fun _ _ _ _ _ _ us hl=>L2.bind3 (fun _ _ _=>rfl) us hl
  have Yl:L2.Df K mg "_law_stretches" ["_law_sizes"] KL.xa:=L2.zY KX G (L2.zF qf 67 rfl rfl) fun _ _ _ _ _ _ us hl=>L2.bind1 (fun _=>rfl) us hl
  have XS:L2.Df K mg "_law_noughts" ["_law_prime_here", "_law_machine_here", "_law_turn", "_law_backward", "_law_places"] KL.xN:=L2.zY KX G (L2.zF qf 68 rfl rfl) fun _ _ _ _ _ _ us hl=>L2.bind5 (fun _ _ _ _ _=>rfl) us hl
  obtain⟨t_GREAT_PRIME,yS⟩:=L2.zjX KX G (x := "GREAT_PRIME") (L2.zF qc 0 rfl rfl)
  have m_abs:mg "abs" = none:=PySem.W.mg_none_of KX G (L2.zF qm 0 rfl rfl)
  have m_all:mg "all" = none:=PySem.W.mg_none_of KX G (L2.zF qm 1 rfl rfl)
  have m_any:mg "any" = none:=PySem.W.mg_none_of KX G (L2.zF qm 2 rfl rfl)
  have zeU:mg "bool" = none:=PySem.W.mg_none_of KX G (L2.zF qm 3 rfl rfl)
  have m_int:mg "int" = none:=PySem.W.mg_none_of KX G (L2.zF qm 4 rfl rfl)
  have zS:mg "isinstance" = none:=PySem.W.mg_none_of KX G (L2.zF qm 5 rfl rfl)
  have m_len:mg "len" = none:=PySem.W.mg_none_of KX G (L2.zF qm 6 rfl rfl)
  have xA:mg "list" = none:=PySem.W.mg_none_of KX G (L2.zF qm 7 rfl rfl)
  have zy:mg "range" = none:=PySem.W.mg_none_of KX G (L2.zF qm 8 rfl rfl)
  have QX:mg "sorted" = none:=PySem.W.mg_none_of KX G (L2.zF qm 9 rfl rfl)
  have m_sum:mg "sum" = none:=PySem.W.mg_none_of KX G (L2.zF qm 10 rfl rfl)
  have xC:mg "tuple" = none:=PySem.W.mg_none_of KX G (L2.zF qm 11 rfl rfl)
  have m_zip:mg "zip" = none:=PySem.W.mg_none_of KX G (L2.zF qm 12 rfl rfl)
  obtain⟨fd,FL,hb⟩:=L2.zjf (st:=KL.zgG) KX G hmg (L2.zF qf 69 rfl rfl) (fun _ _ _ _ _ _ _=>rfl)
  refine⟨fd,hb,fun base _ _ hS=>?_⟩
  have hP:(PySem.Challenge.rw_steermill_k41_partings).prog.given.tree=none:=rfl
  have a1:=KL.zjU (P:=(PySem.Challenge.rw_steermill_k41_partings).prog) (w:=w) (base:=base) YD m_abs
  have a2:=KL.zcB hP hS zcc a1
  have a3:=KL.zcq (P:=(PySem.Challenge.rw_steermill_k41_partings).prog) (w:=w) (base:=base) hP hS zcf
  have a4:=KL.ze5 (P:=(PySem.Challenge.rw_steermill_k41_partings).prog) (w:=w) (base:=base) zeP
  have a7:=KL.zgD zhq a2
  have a8:=KL.zh8 zir a2 a4 a3
  have a9:=KL.zfM hP hS zfR a1 xA
  have a10:=KL.zhZ zcD a8 a4
  have a11:=KL.zhl hP hS zgR a1
  have a12:=KL.zdN zdB a11 m_zip
  have a13:=KL.zgy zha a11 a12 m_len zy
  have a14:=KL.zbb zbA a10
  have a15:=KL.zdS zdG a9 a13 a14
  have a17:=KL.ziE zdK a4
  have a18:=KL.zee zet a15
  have a23:=KL.zd1 zdW a4
  have a19:=KL.zif QB a23 a4 a17 a7
  have a20:=KL.zdE zdR a15 a17 a19 zy
  have a23w:=KL.ziz (P:=(PySem.Challenge.rw_steermill_k41_partings).prog) (w:=w) (base:=base) zbi m_sum m_zip
  have a24:=KL.zjj ZT a10 a23w
  have a25:=KL.zgM zgq (KL.zbk a9) a24
  have a26:=KL.zeu (P:=(PySem.Challenge.rw_steermill_k41_partings).prog) (w:=w) (base:=base) zfF zy m_len
  have a27:=KL.zdZ zd0 a25 a18
  have a28g:=KL.zhc Qy a15 a27 m_len
  have a28s:=KL.zgm (P:=(PySem.Challenge.rw_steermill_k41_partings).prog) (w:=w) (base:=base) zf2
  have a28o:=KL.zjI ZC (KL.zbk a9) a28s m_len zy
  have a28r:=KL.zhr zcl a28o yS
  have a28u:=KL.zih zh4 a4 zy m_int
  have a28:=KL.zgA zar a28g a28r a28u yS m_len
  have a29:=KL.zd7 XJ a26 a28
  have a30:=KL.zga JJ a26 a28 a20 m_len
  have e1:=KL.zdw (P:=(PySem.Challenge.rw_steermill_k41_partings).prog) (w:=w) (base:=base) zd5 m_zip
  have e2:=KL.zi5 ziS a20 a18
  have e3:=KL.zh3 ziq a28u e1 a15 m_len
  have e4:=KL.zek zgk a18 m_len
  have e5:=KL.zaZ za3 a29 a30 e2 a18 a28u e4 m_len
  have e6:=KL.zdP zdQ e5 a26 e3 m_len xC
  have b4:=KL.zjB (P:=(PySem.Challenge.rw_steermill_k41_partings).prog) (w:=w) (base:=base) Jm m_abs
  have b6:=KL.zbg hP hS Xe b4
  have b5:=KL.zgB (P:=(PySem.Challenge.rw_steermill_k41_partings).prog) (w:=w) (base:=base) hP hS zaa zy
  have b7:=KL.zfU hP hS zak b6
  have b8:=KL.zhm (P:=(PySem.Challenge.rw_steermill_k41_partings).prog) (w:=w) (base:=base) zbN
  have b9:=KL.zgJ zaE b6
  have b10:=KL.zfW zau b6
  have b11:=KL.zeh Qr b8 b9 b10
  have b12:=KL.zfV (P:=(PySem.Challenge.rw_steermill_k41_partings).prog) (w:=w) (base:=base) hP hS Qs
  have b13:=KL.zi2 zdJ b7 b5 m_len
  have b14:=KL.zfS QV b13
  have b15:=KL.zfu zaz b5 zy QX
  have b16:=KL.zgY (P:=(PySem.Challenge.rw_steermill_k41_partings).prog) (w:=w) (base:=base) YU
  have b17:=KL.zcz Jl b8 b14 b16 zy
  have b18:=KL.zgv hP hS YR b8 b9 b10 b11 m_len m_zip
  have b19:=KL.zco hP hS XQ b12 b15 b17 b18 m_int zy
  have b20:=KL.zeE (P:=(PySem.Challenge.rw_steermill_k41_partings).prog) (w:=w) (base:=base) JM zy m_len
  have b21:=KL.zgu (P:=(PySem.Challenge.rw_steermill_k41_partings).prog) (w:=w) (base:=base) Qz zS m_int zeU
  have b22:=KL.zff YN b21 b4 zS xC m_len
  have b23:=KL.zeS JE b22 zS xA m_len
  have b24:=KL.zdO Jp b23 zS xA m_len m_all
  have b26:=KL.zfK QS b8 b9 b10 zy m_len
  have b27:=KL.zg5 (P:=(PySem.Challenge.rw_steermill_k41_partings).prog) (w:=w) (base:=base) za8 xC xA
  have b28:=KL.zgE hP hS zaO b6
  have b29:=KL.zb1 JA b8 b10 b11 b28 xA m_len m_zip
  have b30:=KL.zb6 Jd b20 b26
  have b31:=KL.zdx JH b30 xA zy
  have b32:=KL.zdt JI b29 b8 b11 zy m_len m_int
  have b33:=KL.zch Je b20 b26 b29 zy m_len
  have b34:=KL.zgQ zaC b8 zy m_int
  have b35:=KL.zes (P:=(PySem.Challenge.rw_steermill_k41_partings).prog) (w:=w) (base:=base) YU
  have b36:=KL.zce (P:=(PySem.Challenge.rw_steermill_k41_partings).prog) (w:=w) (base:=base) Yl zy
  have b37:=KL.zb2 XS b8 b30 b35 zy m_len m_any
  exact KL.zjc FL b19 b27 e6 b21 b24 b30 b34 b36 b20 b29 b33 b31 b32 b37 m_len zy zS xC m_all m_sum
#print axioms PySem.Challenge.cw_steermill_k41_partings_holds
